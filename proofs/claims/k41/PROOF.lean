import PyProof.Rows.All
import Wide.All
import OpenK.AllK
import Wide.FinOn
import Lean
import PyProof.EqAt
import PyProof.EqKinds
import PyProof.TupleCall
import PyProof.NeKinds
import PySem.Challenge.RW_oncewise_k41_where_webs_part
import OpenK.ZGo
set_option genSizeOf false
set_option genInjectivity false
set_option bootstrap.genMatcherCode false
set_option compiler.extract_closed false
set_option hygiene false
local macro_rules|`(tactic| walk_at "t")=>`(tactic| (first|assumption|exact Nat.succ_pos _|exact z9.tk (by assumption)|exact Nat.lt_of_lt_of_le (z9.tk (by assumption)) (Nat.le_add_right _ _)|exact Nat.lt_of_lt_of_le (z9.tk (by assumption)) (by assumption)))
set_option hygiene true
local macro_rules|`(tactic| walk_at "w")=>`(tactic| conv=>whnf)
local macro_rules|`(tactic| walk_at "y")=>`(tactic| ((refine PySem.W.look_both ?_ ?_);(refine PySem.W.look_both ?_ ?_);(refine PySem.W.look_both ?_ ?_);(refine PySem.W.look_both ?_ ?_);(refine PySem.W.look_both ?_ ?_);(refine PySem.W.look_both ?_ ?_)))
set_option Elab.async false
set_option linter.all false
set_option maxRecDepth 100000
abbrev Aa:=@List.length_append
abbrev Ab:=@PySem.wpAny_bind
abbrev Ac:=@PyProof.Rows.wpS_bind
abbrev Ad:=@PyProof.Rows.wpS_pure
abbrev Ae:=@List.mem_cons_of_mem
abbrev Af:=@PySem.W.Frag
abbrev Ag:=@List.length_map
abbrev Ah:=@List.mem_append_right
abbrev Ai:=@List.getElem?_eq_getElem
abbrev Aj:=@List.mem_append
abbrev Ak:=@List.mem_singleton
abbrev Al:=@Nat.le_refl
abbrev Am:=@List.getElem?_map
abbrev An:=@PySem.wpAny_pure
abbrev Ao:=@List.mem_cons_self
abbrev Ap:=@List.mem_append_left
abbrev Aq:=@List.mem_cons
abbrev Ar:=@Option.map_eq_some_iff
abbrev Au:=@List.size_toArray
abbrev Av:=@decide_eq_false
abbrev Aw:=@List.append_nil
abbrev Ax:=@List.getElem?_append_right
abbrev Ay:=@List.append_assoc
abbrev Az:=@if_neg
abbrev AA:=@if_pos
abbrev AB:=@List.nodup_append
abbrev AC:=@List.mem_of_getElem?
abbrev AD:=@List.map_append
abbrev AE:=@decide_eq_true
abbrev AF:=@Bool.false_ne_true
abbrev AG:=@List.map_cons
abbrev AH:=@List.nodup_cons
abbrev AI:=@List.getElem?_append_left
abbrev AJ:=@List.mem_filter
abbrev AK:=@List.length_cons
abbrev AL:=@List.getElem?_eq_some_iff
abbrev AM:=@List.length_take
abbrev AN:=@Int.natCast_nonneg
abbrev AO:=@Nat.le_trans
abbrev AQ:=@PyProof.Rows.wpS_forRange
abbrev AR:=@Nat.lt_of_lt_of_le
abbrev AS:=@Option.some.inj
abbrev AU:=@List.pairwise_append
abbrev AV:=@List.filter_append
abbrev AW:=@List.take_length
abbrev AX:=@List.mem_range
abbrev AY:=@PyProof.Rows.wpS_mono
abbrev AZ:=@List.take_of_length_le
abbrev A1:=@List.flatMap_append
abbrev A2:=@PySem.wpAny_mono
abbrev A3:=@List.take_succ
abbrev A4:=@Ne.symm
abbrev A5:=@Array.length_toList
abbrev A6:=@List.length_range
abbrev A7:=@Array.getElem?_toList
abbrev A8:=@Nat.zero_le
abbrev A9:=@Nat.ne_of_lt
abbrev Ba:=@PySem.wpAny_holding
abbrev Bb:=@Array.toList_append
abbrev Bc:=@Bool.and_eq_true
abbrev Bd:=@List.mem_flatMap
abbrev Be:=@List.take_append_drop
abbrev Bf:=@Nat.le_of_lt
abbrev Bg:=@Nat.le_add_right
abbrev Bh:=@List.filter_nil
abbrev Bi:=@List.length_filter_le
abbrev Bj:=@List.flatMap_cons
abbrev Bk:=@List.lookup_cons
abbrev Bl:=@List.getElem?_set_ne
abbrev Bm:=@List.perm_ext_iff_of_nodup
abbrev Bn:=@Int.toNat_natCast
abbrev Bo:=@List.length_set
abbrev Bp:=@Nat.lt_of_le_of_lt
abbrev Bq:=@PySem.W.mg_none_of
abbrev Br:=@List.filter_cons_of_neg
abbrev Bt:=@List.filter_cons_of_pos
abbrev Bu:=@Array.size_push
abbrev Bv:=@Int.zero_add
abbrev Bw:=@List.perm_append_comm
abbrev Bx:=@List.mem_map
abbrev Bz:=@Bool.eq_iff_iff
abbrev BA:=@PySem.W.kia_one
abbrev BB:=@Nat.lt_succ_self
abbrev BC:=@List.length_drop
abbrev BD:=@List.getD_eq_getElem?_getD
abbrev BE:=@List.perm_append_right_iff
abbrev BF:=@List.eq_nil_of_length_eq_zero
abbrev BG:=@List.perm_append_left_iff
abbrev BH:=@List.getElem?_set_self
abbrev BI:=@List.find?_cons
abbrev BJ:=@PySem.mem_of_lookup
abbrev BK:=@List.getElem_of_mem
abbrev BL:=@List.length_singleton
abbrev BM:=@List.filterMap_append
abbrev BN:=@List.getElem_take
abbrev BO:=@congrArg
abbrev BP:=@List.mem_of_mem_take
abbrev BQ:=@Int.le_of_lt
abbrev BR:=@List.filterMap_cons
abbrev BS:=@PySem.wpAny_field
abbrev BU:=@List.getElem?_eq_none
abbrev BV:=@Nat.succ_pos
abbrev BW:=@Nat.min_eq_left
abbrev BX:=@Int.le_trans
abbrev BY:=@PySem.wpAny_newObj_type
abbrev BZ:=@PySem.wpAny_rule
abbrev B1:=@Nat.add_sub_cancel_left
abbrev B3:=@List.filter_cons
abbrev B4:=@Nat.le_succ_of_le
abbrev B5:=@Array.size_append
abbrev B6:=@List.getElem?_range
abbrev B7:=@List.range_succ
abbrev B8:=@List.filterMap_nil
abbrev B9:=@List.length_filterMap_le
abbrev Cb:=@List.nil_append
abbrev Cc:=@Nat.le_succ
abbrev Cd:=@Int.ofNat_inj
abbrev Ce:=@List.perm_middle
abbrev Cf:=@List.not_mem_nil
abbrev Cg:=@Bool.false_eq_true
abbrev Ci:=@List.Perm.refl
abbrev Cj:=@List.perm_append_singleton
abbrev Ck:=@List.length_replicate
abbrev Cn:=@List.pairwise_map
abbrev Co:=@List.map_map
abbrev Cp:=@Nat.lt_succ_of_lt
abbrev Cq:=@List.any_cons
abbrev Cr:=@List.Pairwise.imp_of_mem
abbrev Cs:=@PyProof.Rows.slot_tuple_getitem
abbrev Ct:=@List.getElem?_replicate
abbrev Cu:=@List.eraseIdx_cons_succ
abbrev Cv:=@Nat.min_eq_right
abbrev Cw:=@List.getElem_mem
abbrev Cy:=@Nat.max_eq_right
abbrev Cz:=@Int.mul_le_mul_of_nonneg_right
abbrev CA:=@List.flatMap_nil
abbrev CB:=@List.mem_filterMap
abbrev CC:=@decide_eq_true_iff
abbrev CD:=@List.append_of_mem
abbrev CF:=@List.getElem_cons_drop
abbrev CG:=@Nat.max_eq_left
abbrev CH:=@Nat.lt_irrefl
abbrev CI:=@Nat.le_of_ble_eq_true
abbrev CK:=@List.singleton_append
abbrev CL:=@Nat.sub_eq_zero_of_le
abbrev CM:=@PyProof.Rows.callWith_type1
abbrev CN:=@Option.isSome_map
abbrev CO:=@List.filter_congr
abbrev CP:=@List.mem_of_mem_drop
abbrev CQ:=@Array.toList_reverse
abbrev CS:=@Nat.le_sub_one_of_lt
abbrev CT:=@Nat.succ_le_succ
abbrev CU:=@List.all_eq_true
abbrev CV:=@List.nodup_range
abbrev CW:=@List.drop_eq_getElem_cons
abbrev CY:=@List.pairwise_iff_getElem
abbrev CZ:=@List.sublist_append_right
abbrev C0:=@List.reverse_append
abbrev C1:=@List.mem_map_of_mem
abbrev C2:=@List.perm_iff_count
abbrev C3:=@PySem.W.mg_of
abbrev C4:=@List.cons.inj
abbrev C5:=@Array.size_extract
abbrev C6:=@List.getElem?_take
abbrev C7:=@List.getElem?_drop
abbrev C8:=@List.getElem?_cons_succ
abbrev C9:=@List.length_eraseIdx_le
abbrev Dc:=@Int.le_refl
abbrev De:=@List.eraseIdx_append_of_length_le
abbrev Df:=@List.map_nil
abbrev Dg:=@Array.toList_push
abbrev Dh:=@List.ext_getElem?
abbrev Di:=@List.nodup_nil
abbrev Dj:=@List.mem_range'_1
abbrev Dk:=@List.count_append
abbrev Dl:=@List.Sublist.refl
abbrev Dm:=@List.eraseIdxIfInBounds_toArray
abbrev Do:=@List.getElem_inj
abbrev Dp:=@List.mem_eraseIdx_iff_getElem?
abbrev Dq:=@List.getElem?_zipIdx
abbrev Dr:=@List.take_append_of_le_length
abbrev Ds:=@List.getElem?_of_mem
abbrev Dt:=@List.of_mem_zip
abbrev Du:=@List.length_nil
abbrev Dv:=@List.length_zip
abbrev Dw:=@Nat.le_add_left
abbrev Dx:=@PySem.W.plainGet_of
abbrev Dy:=@List.length_pos_iff
abbrev Dz:=@Nat.ne_of_gt
abbrev DA:=@Nat.zero_add
abbrev DB:=@Nat.lt_or_ge
abbrev DC:=@Nat.sub_self
abbrev DD:=@PySem.W.callWith_K
abbrev DE:=@List.drop_zero
abbrev DF:=@Nat.lt_or_eq_of_le
abbrev DG:=@List.take_zero
abbrev DH:=@Int.emod_lt_of_pos
abbrev DI:=@PySem.F.slot_dict_getitem
abbrev DJ:=@PySem.W.kitx_list
abbrev DK:=@List.take_sublist
abbrev DL:=@List.getElem_drop
abbrev DM:=@List.reverse_perm
abbrev DN:=@List.getElem?_set
abbrev DO:=@List.countP_congr
abbrev DP:=@List.nodup_range'
abbrev DQ:=@Bool.not_eq_true'
abbrev DU:=@List.all_cons
abbrev DV:=@Bool.and_true
abbrev DX:=@List.sublist_append_left
abbrev DY:=@List.map_take
abbrev DZ:=@List.filterMap_cons_none
abbrev Eb:=@List.filterMap_cons_some
abbrev Ec:=@List.mem_of_mem_eraseIdx
abbrev Ef:=@List.range'_succ
abbrev Eh:=@congrFun
abbrev Ei:=@Nat.le_of_eq
abbrev Eo:=@Bool.not_not
abbrev Er:=@List.forIn_cons
abbrev Es:=@Bool.or_eq_true
abbrev Et:=@List.Perm.of_eq
abbrev Eu:=@beq_false_of_ne
abbrev Ew:=@Nat.not_lt_zero
abbrev Ex:=@Int.emod_nonneg
abbrev Ey:=@Bool.and_false
abbrev Ez:=@Int.add_mul
abbrev EC:=@List.sum_cons
abbrev ED:=@List.map_drop
abbrev EE:=@Nat.sub_le
abbrev sy:=@PySem.Heap.get?_push_of_some
abbrev s9:=@PySem.Heap.lt_size
abbrev u1:=@PySem.PassesOwn.never
abbrev vb:=@PySem.Heap.get?_push_size
abbrev vc:=@PySem.Heap.SameBut.update
abbrev wh:=@PySem.MeetsSeq.plain_remove_loop
abbrev xT:=@PySem.Calls.spliced_cons
abbrev ya:=@PySem.F.slot_enumerate_next
abbrev yp:=@PySem.Calls.spliced_nil
abbrev At:=@PySem.Heap.size_push
abbrev Ve:=PySem.Value->PySem.Shared->Prop
abbrev Vf:=Unit->PySem.Shared->Prop
abbrev Vg:=PySem.Str->Option PySem.Value
abbrev Vh:=List<|Nat×Nat
abbrev Vi:=List (Nat×Nat)
abbrev Vj:=List PySem.Value
abbrev Vk:=Array PySem.Value
abbrev Vl:=List Nat
abbrev Vm:=List PySem.Str
abbrev Vn:=List PySem.Expr
abbrev Vo:=List PySem.Stmt
abbrev Vp:=List Int
abbrev Vq:=Option PySem.Value
abbrev Vr:=Option Int
abbrev Vs:=Nat->Nat
abbrev Vt:=Nat×Nat
abbrev Vu:=PySem.Value
abbrev Vv:=PySem.Shared
abbrev Vw:=PySem.Program
abbrev Vx:=PySem.World
abbrev Vy:=PySem.Heap
abbrev Vz:=String
noncomputable section
namespace L2
open PySem PyProof.Rows
theorem jL{M:Model}{U:Ctx}{p:Pos}{t:Sem Fin}{fs:List Frame}{s s':Vv}{e:End}(h:Runs M U p t fs s e s'):s.toks<=s'.toks:=by induction h with|fresh _ g=>exact AO (Cc _) g|call _ _ I J=>exact AO I J|resumeFresh _ _ _ _ I J=>exact AO I J|resumeSuspended _ _ _ _ I J=>exact AO I J|segRet _ _ I J=>exact AO I J|segGen _ _ I J=>exact AO I J|segSuspGen _ _ _ _ I J=>exact AO I J|_=>first|exact Al _|assumption
theorem xA{M:Model}{J:Ctx}{p:Pos}{g:Nat}{r:Resume}{s s':Vv}{res:GenResult}(h:Wakes M J p g r s res s'):s.toks<=s'.toks:=by
 unfold Wakes at h;split at h
 ·exact h.elim
 ·split at h
  ·obtain⟨e,U,I,_,_,rfl⟩:=h;have q:=jL I;exact q
  ·obtain⟨_,rfl⟩:=h;exact Al _
  ·obtain⟨_,rfl⟩:=h;exact Al _
 ·obtain⟨e,U,I,_,_,rfl⟩:=h;have q:=jL I;exact q
 ·obtain⟨_,rfl⟩:=h;exact Al _
 ·obtain⟨_,rfl⟩:=h;exact Al _
theorem Ll{α:Type}{M:Model}{T:Ctx}(t:Sem α):∀{Q:α->Pos->Vv->Prop} {E:Vu->Pos->Vv->Prop} {p:Pos} {s:Vv} (n:Nat),n<=s.toks->Sem.wp M T t Q E p s->Sem.wp M T t (λa C s'=>Q a C s'/\n<=s'.toks) (λe C s'=>E e C s'/\n<=s'.toks) p s:=by induction t with|pure a=>intro Q E p s n I h;exact⟨h,I⟩|raise e=>intro Q E p s n I h;exact⟨h,I⟩|load a part k J=>rintro Q E p s n I ⟨o,U,j⟩;exact⟨o,U,J o n I j⟩|update a part f k J=>rintro Q E p s n I ⟨U,j⟩;exact⟨U,J () n I j⟩|fresh k J=>intro Q E p s n I h;exact J s.toks n (AO I<|Cc _) h|choose a0 m k J=>rintro Q E p s n I ⟨U,j⟩;exact⟨U,J _ n I j⟩|call c hd g l k J=>rintro Q E p s n I ⟨r,s',U,j⟩;exact⟨r,s',U,J r n (AO I<|jL U) j⟩|genState g k J=>rintro Q E p s n I ⟨st,U,j⟩;exact⟨st,U,J _ n I j⟩|resume g r l k J=>rintro Q E p s n I ⟨res,s',U,j⟩;exact⟨res,s',U,J _ n (AO I<|xA U) j⟩|rule tag k J=>intro Q E p s n I h;exact J () n I h|«at» pos k J=>intro Q E p s n I h;exact J () n I h|alloc o k J=>intro Q E p s n I h;exact J _ n I h|loadIfAlive a k J=>intro Q E p s n I h;exact J _ n I h|point l k J=>intro Q E p s n I h;exact J _ n I h|ask k J=>intro Q E p s n I h;exact J _ n I h|os q l k J=>intro Q E p s n I h;exact J _ n I h|handled own k J=>intro Q E p s n I h;exact J _ n I h|newGen c k J=>intro Q E p s n I h;exact J _ n I h|stack k J=>intro Q E p s n I h;exact J _ n I h|thread k J=>intro Q E p s n I h;exact J _ n I h|unsupported w=>intro Q E p s n I h;exact h.elim|finish e=>intro Q E p s n I h;exact h.elim|register a k J=>intro Q E p s n I h;exact h.elim|yield v g l k J=>intro Q E p s n I h;exact h.elim|fork c k J=>intro Q E p s n I h;exact h.elim|await a f d l k J=>intro Q E p s n I h;exact h.elim
theorem vU{α:Type}{M:Model}{A:Around}{t:Sem α}{Q:α->Vv->Prop}{E:Ve}{s:Vv}(h:wpAny M A t Q E s):wpAny M A t (λa s'=>Q a s'/\s.toks<=s'.toks) (λe s'=>E e s'/\s.toks<=s'.toks) s:=
 λJ p I=>Ll t s.toks (Al _)<|h J p I
theorem xn{α:Type}{M:Model}{A:Around}{t:Sem α}{Q:α->Vv->Prop}{E:Ve}{s:Vv}(hp:0<s.toks)(h:wpAny M A t (λa s'=>0<s'.toks->Q a s') (λe s'=>0<s'.toks->E e s') s):wpAny M A t Q E s:=
 A2 (vU h) (λ_ _ z=>z.1<|AR hp z.2) λ_ _ z=>z.1<|AR hp z.2
end L2
variable {M:PySem.Model}{i j kt m n p q r t' x1:Nat}{e' t:Bool}{s s':PySem.Shared}{e nG iter o target tg value:PySem.Expr}{α β κ:Type}{A:PySem.Around}{E Q:PySem.Value->PySem.Shared->Prop}{eH us vs:List PySem.Value}{eK ir oc pm u v:PySem.Value}{base h h':PySem.Heap}{ad ch fp:List PySem.Addr}{C Pt c c' d dx f fa hp it ka l na pa pb:PySem.Addr}{kx name px eA x:PySem.Str}{pins:List<|PySem.Addr×PySem.Obj}{apos fm qy p1 p2 p3 p4 p5 pos hQ tp:PySem.Pos}{D hs mv qs:Vl}{st:PySem.Stmt}{nq es ny:List PySem.Expr}{body:List PySem.Stmt}{B lo:Int}{mA mg:PySem.Str->Option PySem.Value}{kw:List<|PySem.Str×PySem.Value}{prog:PySem.Program}{env:PySem.Env}{fd:PySem.FuncData}{ps:List PySem.Str}{fy scope:PySem.Scope}{ct lk pR:Vh}{an od:Option PySem.Addr}{oe:Array<|Option PySem.Value}{items:Array PySem.Value}{rk:Vs}{rks:Vp}
namespace L2
open PySem PySem.Spec PyProof.Rows
abbrev jb:=Sum Int Str
abbrev VC:=List jb
def lh:jb->Vu->Bool
 |.inl k,v=>Value.isInt k v
 |.inr x,v=>Value.isStrOf x v
def Lm(w:Vx):jb->Int
 |.inl k=>hashInt k
 |.inr x=>hashStr w x
theorem vi:∀{k:jb} {v:Vu},lh k v=true->(∃i t,k=Sum.inl i/\v=Value.int i t)\/(∃x t,k=Sum.inr x/\v=Value.str x t)
 |.inl i,v,h=>by obtain⟨t,e⟩:=Value.isInt_shape (k:=i) (v:=v) h;exact .inl ⟨i,t,rfl,e⟩
 |.inr x,v,h=>by obtain⟨t,e⟩:=Value.isStrOf_shape (x:=x) (v:=v) h;exact .inr ⟨x,t,rfl,e⟩
theorem Ln(i:Int)(t:Tok):lh (.inl i) (.int i t)=true:=by simp[lh,Value.isInt]
theorem Lo(x:Str)(t:Tok):lh (.inr x) (.str x t)=true:=by simp[lh,Value.isStrOf]
theorem Lp(a b:Int):decide ((Sum.inl a:jb)=Sum.inl b)=(a==b):=by
 by_cases e:a=b
 ·subst e;simp
 ·have h:¬(Sum.inl a:jb)=Sum.inl b:=λq=>e<|Sum.inl.inj q;rw[Av h];exact(beq_eq_false_iff_ne.mpr e).symm
theorem Lq(a b:Str):decide ((Sum.inr a:jb)=Sum.inr b)=decide (a=b):=by
 by_cases e:a=b
 ·subst e;simp
 ·have h:¬(Sum.inr a:jb)=Sum.inr b:=λq=>e<|Sum.inr.inj q;rw[Av h,Av e]
theorem Lr(a:Int)(b:Str):decide ((Sum.inl a:jb)=Sum.inr b)=false:=Av λq=>nomatch q
theorem Ls(a:Str)(b:Int):decide ((Sum.inr a:jb)=Sum.inl b)=false:=Av λq=>nomatch q
def vh(prog:Vw)(w:Vx):PySem.KeyKind prog w jb where
 is:=lh
 hash:=Lm w
 inj:=λv a b g U=>by
  rcases vi g with⟨i,t,rfl,rfl⟩|⟨x,t,rfl,rfl⟩
  ·rcases vi U with⟨j,u,rfl,e⟩|⟨y,u,rfl,e⟩
   ·injection e with I _;rw[I]
   ·exact nomatch e
  ·rcases vi U with⟨j,u,rfl,e⟩|⟨y,u,rfl,e⟩
   ·exact nomatch e
   ·injection e with I _;rw[I]
 byValue:=λk v h=>by rcases vi h with⟨i,t,rfl,rfl⟩|⟨x,t,rfl,rfl⟩<;>rfl
 pyHash:=λJ h=>by
  rcases vi J with⟨i,t,rfl,rfl⟩|⟨x,t,rfl,rfl⟩
  ·exact wpAny_pyHash_int h
  ·exact wpAny_pyHash_str h
 eqBool:=λl J h=>by
  rcases vi l with⟨i,t,rfl,rfl⟩|⟨x,t,rfl,rfl⟩
  ·rcases vi J with⟨j,u,rfl,rfl⟩|⟨y,u,rfl,rfl⟩
   ·rw[Lp] at h;exact wpAny_eqBool_int h
   ·rw[Lr] at h;exact SeqAt.EqAt.int_str i t y u _ _ _ _ h
  ·rcases vi J with⟨j,u,rfl,rfl⟩|⟨y,u,rfl,rfl⟩
   ·rw[Ls] at h;exact SeqAt.EqAt.str_int x t j u _ _ _ _ h
   ·rw[Lq] at h;exact wpAny_eqBool_str h
 «strs» := λk x t v h=>by
  rcases vi h with⟨i,u,rfl,e⟩|⟨y,u,rfl,e⟩
  ·exact nomatch e
  ·injection e with I _
   subst I;cases v<;>rfl
theorem tW(prog:Vw)(w:Vx)(i:Int)(t:Tok):(vh prog w).is (.inl i) (.int i t)=true:=Ln i t
theorem sw(prog:Vw)(w:Vx)(x:Str)(t:Tok):(vh prog w).is (.inr x) (.str x t)=true:=Lo x t
set_option genInjectivity true in
inductive V where
 |non|bl (b:Bool)|int (i:Int)|str (x:Str)|byt (b:Array UInt8)|flt (b:UInt64)|ref (a:Addr)|ty (n:Vz)
 deriving DecidableEq
abbrev VB:=Option V
abbrev VA:=List V
def zo:V->Vu->Prop
 |.non,u=>u=Value.none
 |.bl b,u=>u=Value.bool b
 |.int i,u=>∃t,u=Value.int i t
 |.str x,u=>∃t,u=Value.str x t
 |.byt b,u=>∃t,u=Value.bytes b t
 |.flt b,u=>∃t,u=Value.float b t
 |.ref a,u=>u=Value.ref a
 |.ty n,u=>u=Value.type n
abbrev zn:VA->Vj->Prop:=Paired zo
theorem zn.length{xs:VA}(r:zn xs us):xs.length=us.length:=Paired.length r
theorem zn.get:∀{xs:VA} {us:Vj} {i:Nat} {x:V},zn xs us->xs[i]?=some x->∃u,us[i]?=some u/\zo x u
 |_,_,_,_,.nil,e=>by simp at e
 |_,_,0,_,.cons r _,e=>by simp at e;subst e;exact⟨_,rfl,r⟩
 |_,_,i+1,x,.cons _ t,e=>by obtain⟨u,I,J⟩:=zn.get (i:=i) (x:=x) t (by simpa using e);exact⟨u,by simpa using I,J⟩
theorem zn.set{x:V}{u:Vu}(r:zo x u):∀{xs:VA} {us:Vj} (i:Nat),zn xs us->zn (xs.set i x) (us.set i u)
 |_,_,_,.nil=>.nil
 |_,_,0,.cons _ t=>.cons r t
 |_,_,i+1,.cons q t=>.cons q<|zn.set r i t
theorem zn.append:∀{xs ys:VA} {us I:Vj},zn xs us->zn ys I->zn (xs++ys) (us++I):=by
 intro xs ys us I h s
 induction h with|nil=>exact s|cons r t J=>exact .cons r J
theorem zn.take:∀{xs:VA} {us:Vj} (n:Nat),zn xs us->zn (xs.take n) (us.take n)
 |_,_,0,_=>.nil
 |_,_,_+1,.nil=>.nil
 |_,_,n+1,.cons r t=>.cons r<|zn.take n t
theorem zn.drop:∀{xs:VA} {us:Vj} (n:Nat),zn xs us->zn (xs.drop n) (us.drop n)
 |_,_,0,r=>r
 |_,_,_+1,.nil=>.nil
 |_,_,n+1,.cons _ t=>zn.drop n t
def dg:VB->Vq->Prop
 |some v,some u=>zo v u
 |none,none=>True
 |_,_=>False
def KV :List (κ×V)->List (κ×Vu)->Prop:=Paired λ(p:κ×V) (q:κ×Vu)=>p.1=q.1/\zo p.2 q.2
def kV:jb->V
 |.inl i=>.int i
 |.inr x=>.str x
inductive HO where
 |lst (xs:VA)
 |tup (xs:VA)
 |dK (kvs:List<|jb×V)|dT (kvs:List<|VC×V)
 |set (S:Int->Bool) (n:Nat)
 |ins (C dx:Addr) (fs:List<|Str×V)
 |own (x:Addr)
 |xd (fs:List<|Str×V)
 |met (f x:Addr)
 |rng (lo hi:Int)
 |frz (o:Obj) (u:HO)
 |tbl (ps:Vk)
 |ext (φ:Vy->Prop)
abbrev Hp:=Addr->Option HO
def upd(H:Hp)(a:Addr)(o:HO):Hp:=λb=>if b=a then some o else H b
theorem zq{H:Hp}{a:Addr}{o:HO}:upd H a o a=some o:=by unfold upd;rw[AA rfl]
theorem qu{H:Hp}{a b:Addr}{o:HO}(h:b≠a):upd H a o b=H b:=by unfold upd;rw[Az h]
theorem Lu{H:Hp}{a:Addr}{o u:HO}:upd (upd H a o) a u=upd H a u:=by funext b;unfold upd;split<;>rfl
theorem Lv{H:Hp}{a b:Addr}{o u:HO}(h:H a=some o)(h':H b=some u)(d:o≠u):a≠b:=by intro e;subst e;rw[h] at h';exact d<|AS h'
theorem j5{H:Hp}{a b:Addr}{o:HO}(h:H a=some o)(h':H b=none):a≠b:=by intro e;subst e;rw[h] at h';cases h'
section
variable (P:Vw)(w:Vx)
def vg(H:Hp)(h:Vy)(a:Addr):HO->Prop
 |.lst xs=>xs.length<=sizeLine/\∃(eH:Vj) (n:Nat),zn xs eH/\h.get? a=some { cls:=.type "list",data:=.seq eH.toArray n }
 |.tup xs=>xs.length<=sizeLine/\∃eH:Vj,zn xs eH/\IsTup h a eH.toArray
 |.dK kvs=>kvs.length<=sizeLine/\(a==sysModules)=false/\∃vs,KV kvs vs/\h.DictOf (vh P w) a vs
 |.dT kvs=>kvs.length<=sizeLine/\(a==sysModules)=false/\∃xs:List (VC×Addr×Vu),
  Paired (λ(p:VC×V) (q:VC×Addr×Vu)=>p.1=q.1/\H q.2.1=some (.tup<|p.1.map kV)/\zo p.2 q.2.2) kvs xs/\
  ∃o es J,h.get? a=some o/\o.ExactDict/\o.data=.dict es J/\es.toList=xs.map (entryOfKey<|tupleKind<|vh P w)/\(xs.map (·.1)).Nodup
 |.set S n=>h.SetOf (intKind P w) a S n
 |.ins C dx fs=>H dx=some (.own a)/\fs.length<=1000/\dx≠a/\h.get? a=some (PySem.W.instObj C dx)/\
  ∃mA,h.Ns1 dx mA/\(∀f,dg (fs.lookup f)<|mA f)/\PySem.Within mA (fs.map (·.1))
 |.own _=>∃o,h.get? a=some o
 |.xd fs=>∃mA,h.Ns1 a mA/\∀f,dg (fs.lookup f)<|mA f
 |.rng lo hi=>∃t u v,h.get? a=some { cls:=.type "range",data:=.fields #[.int lo t,.int hi u,.int 1 v] }
 |.frz o u=>h.get? a=some o/\vg H h a u
 |.tbl ps=>h.get? a=some { cls:=.none,data:=.fields ps }
 |.met f x=>h.get? a=some (PySem.W.methodObj (.ref f)<|.ref x)
 |.ext I=>I h/\(∃o,h.get? a=some o)/\∀h1 h2:Vy,I h1->(∀o,h1.get? a=some o->h2.get? a=some o)->I h2
def gF(H:Hp)(h:Vy):Prop:=∀a o,H a=some o->vg P w H h a o
end
section
variable {P:Vw}{w:Vx}{H H':Hp}{a:Addr}{o:HO}
theorem vg.lt(x:vg P w H h a o):a<h.objs.size:=by
 cases o with
 |lst J=>obtain⟨_,_,_,_,e⟩:=x;exact s9 e
 |tup J=>obtain⟨_,_,_,p⟩:=x;exact p.lt
 |dK I=>obtain⟨_,_,_,_,o,_,_,e,_⟩:=x;exact s9 e
 |dT I=>obtain⟨_,_,_,_,o,_,_,e,_⟩:=x;exact s9 e
 |set S n=>obtain⟨o,_,_,_,e,_⟩:=x;exact s9 e
 |ins C U fs=>obtain⟨_,_,_,e,_⟩:=x;exact s9 e
 |own y=>obtain⟨_,e⟩:=x;exact s9 e
 |xd fs=>obtain⟨_,⟨_,_,_,e,_⟩,_⟩:=x;exact s9 e
 |rng lo g=>obtain⟨_,_,_,e⟩:=x;exact s9 e
 |frz j u=>obtain⟨e,_⟩:=x;exact s9 e
 |tbl l=>exact s9<|show h.get? a=some _ from x
 |met f y=>exact s9<|show h.get? a=some _ from x
 |ext r=>obtain⟨_,⟨_,e⟩,_⟩:=x;exact s9 e
theorem Paired.mapP{F G:α->β->Prop}:∀{l₁:List α} {l₂:List β},Paired F l₁ l₂->(∀a b,F a b->G a b)->Paired G l₁ l₂:=by
 intro l₁ l₂ h f
 induction h with|nil=>exact .nil|cons r t I=>exact .cons (f _ _ r) I
abbrev EJ:=@Paired.mapP
theorem vg.stay(x:vg P w H h a o)(k:∀b u,(b=a\/H b=some (.own a))->h.get? b=some u->h'.get? b=some u)
 (ho:∀b,H b=some (.own a)->H' b=some (.own a)) (ht:∀b xs,H b=some (.tup xs)->H' b=some (.tup xs)):vg P w H' h' a o:=by
 induction o with
 |lst xs=>obtain⟨z,g,n,r,e⟩:=x;exact⟨z,g,n,r,k _ _ (.inl rfl) e⟩
 |tup xs=>obtain⟨z,g,r,I,e,c⟩:=x;exact⟨z,g,r,I,k _ _ (.inl rfl) e,c⟩
 |dK j=>obtain⟨z,y,vs,r,I,J,U,e,c⟩:=x;exact⟨z,y,vs,r,I,J,U,k _ _ (.inl rfl) e,c⟩
 |dT j=>
  obtain⟨z,y,xs,r,I,J,U,e,c⟩:=x;exact⟨z,y,xs,EJ r λp q z=>⟨z.1,ht _ _ z.2.1,z.2.2⟩,I,J,U,k _ _ (.inl rfl) e,c⟩
 |set S n=>obtain⟨I,J,U,t,e,c⟩:=x;exact⟨I,J,U,t,k _ _ (.inl rfl) e,c⟩
 |ins C dx fs=>
  obtain⟨d,z,ne,e,l,⟨T,J,U,e2,c⟩,r⟩:=x;exact⟨ho _ d,z,ne,k _ _ (.inl rfl) e,l,⟨T,J,U,k _ _ (.inr d) e2,c⟩,r⟩
 |own y=>obtain⟨I,e⟩:=x;exact⟨I,k _ _ (.inl rfl) e⟩
 |xd fs=>obtain⟨l,⟨T,J,U,e,c⟩,r⟩:=x;exact⟨l,⟨T,J,U,k _ _ (.inl rfl) e,c⟩,r⟩
 |rng lo hi=>obtain⟨t,u,v,e⟩:=x;exact⟨t,u,v,k _ _ (.inl rfl) e⟩
 |frz I u ih=>obtain⟨e,q⟩:=x;exact⟨k _ _ (.inl rfl) e,ih q⟩
 |tbl ps=>
  have e:h.get? a=some { cls:=.none,data:=.fields ps }:=x;show h'.get? a=some { cls:=.none,data:=.fields ps };exact k a _ (.inl rfl) e
 |met f y=>
  have e:h.get? a=some (PySem.W.methodObj (.ref f)<|.ref y):=x;show h'.get? a=some (PySem.W.methodObj (.ref f)<|.ref y);exact k a _ (.inl rfl) e
 |ext φ=>obtain⟨p,⟨o,e⟩,st⟩:=x;exact⟨st _ _ p λo q=>k _ _ (.inl rfl) q,⟨o,k _ _ (.inl rfl) e⟩,st⟩
theorem gF.lt(x:gF P w H h)(e:H a=some o):a<h.objs.size:=(x a o e).lt
theorem gF.fresh(x:gF P w H h)(e:h.objs.size<=a):H a=none:=by cases q:H a with|none=>rfl|some u=>exact absurd (AR (x.lt q) e)<|CH _
theorem gF.kept(x:gF P w H h)(k:∀b u,h.get? b=some u->h'.get? b=some u):gF P w H h':=λa o e=>
 (x a o e).stay (λb u _ q=>k b u q) (λ_ q=>q) λ_ _ q=>q
theorem gF.laid(x:gF P w H h)(k:∀b u,h.get? b=some u->h'.get? b=some u)(hp:h.objs.size<=a)(new:vg P w (upd H a o) h' a o):gF P w (upd H a o) h':=λb u e=>by
 have I:=x.fresh hp;by_cases J:b=a
 ·subst J;rw[zq] at e;cases e;exact new
 ·rw[qu J] at e;exact(x b u e).stay (λc v _ q=>k c v q) (λc q=>by rw[qu<|j5 q I];exact q) λc U q=>by rw[qu<|j5 q I];exact q
end
def Rd(H:Hp)(a:Addr)(u:HO):Prop:=H a=some u\/∃o,H a=some (.frz o u)
theorem Rd.ok{P:Vw}{w:Vx}{H:Hp}{a:Addr}{u:HO}(r:Rd H a u)(x:gF P w H h):vg P w H h a u:=by
 rcases r with r|⟨o,r⟩
 ·exact x a u r
 ·obtain⟨_,q⟩:=x a _ r;exact q
def Ee:Option HO->Prop
 |some (.lst _)=>True
 |some (.dK _)=>True
 |some (.dT _)=>True
 |some (.set _ _)=>True
 |some (.ins _ _ _)=>True
 |some (.ext _)=>True
 |_=>False
section
variable {P:Vw}{w:Vx}{H:Hp}{x e:Addr}{o':HO}
theorem gF.write(ok:gF P w H h)(g:Ee<|H x)(t:e=x\/H e=some (.own x))(k:∀b u,b≠e->h.get? b=some u->h'.get? b=some u)(p:∃u,h'.get? e=some u)
 (new:vg P w (upd H x o') h' x o'):gF P w (upd H x o') h':=λb u q=>by
 have J:∀c y,H c=some (.own y)->c≠x:=λc y r z=>by subst z;rw[r] at g;exact g
 have U:∀c j,H c=some (.tup j)->c≠x:=λc j r z=>by subst z;rw[r] at g;exact g
 by_cases l:b=x
 ·subst l;rw[zq] at q;cases q;exact new
 ·rw[qu l] at q;by_cases I:b=e
  ·have C:H b=some (.own x):=by
    rcases t with z|z
    ·exact absurd (I.trans z) l
    ·rw[I];exact z
   rw[q] at C;cases C;obtain⟨v,T⟩:=p;exact⟨v,by rw[I];exact T⟩
  ·refine(ok b u q).stay (λc v o r=>k c v ?_ r) (λc r=>by rw[qu<|J c b r];exact r) λc j r=>by rw[qu<|U c j r];exact r
   rcases o with rfl|o
   ·exact I
   ·rintro rfl;rcases t with z|z
    ·exact J c b o z
    ·rw[o] at z;cases z;exact l rfl
end
structure Un(fs ex:List Addr)(H H':Hp)(h h':Vy):Prop where
 keep:∀b o,h.get? b=some o->H b=none->b∉fs->b∉ex->h'.get? b=some o
 slot:∀b o,h.get? b=some o->H b=none->b∈fs->b∉ex->∃sl,h'.get? b=some { o with slots:=sl }
 free:∀b o,h.get? b=some o->H b=none->b∉ex->H' b=none
 there:∀b o,h.get? b=some o->b∉ex->∃o',h'.get? b=some o'
 tups:∀b xs,H b=some (.tup xs)->H' b=some (.tup xs)
 frzs:∀b o u,H b=some (.frz o u)->H' b=some (.frz o u)
 tbls:∀b ps,H b=some (.tbl ps)->∃more,H' b=some (.tbl<|ps++more)
section
variable {fs fs' ex ex':List Addr}{H H1 H2:Hp}{h1 h2:Vy}{a x e:Addr}{o:HO}
theorem Un.any(u:Un fs ex H H1 h h1){b:Addr}{I:Obj}(q:h.get? b=some I)(n:H b=none)(J:b∉ex):∃g,h1.get? b=some { I with slots:=g }:=by
 by_cases U:b∈fs
 ·exact u.slot b I q n U J
 ·exact⟨I.slots,u.keep b I q n U J⟩
theorem Un.kept(k:∀b u,h.get? b=some u->h'.get? b=some u):Un fs ex H H h h':=
 ⟨λb I q _ _ _=>k b I q,λb I q _ _ _=>⟨I.slots,k b I q⟩,λ_ _ _ n _=>n,λb I q _=>⟨I,k b I q⟩,λ_ _ q=>q,λ_ _ _ q=>q,λ_ J q=>⟨#[],by rw[q];simp⟩⟩
theorem Un.refl:Un fs ex H H h h:=Un.kept λ_ _ q=>q
theorem Un.laid(k:∀b u,h.get? b=some u->h'.get? b=some u)(hp:h.objs.size<=a)(I:H a=none):Un fs ex H (upd H a o) h h' where
 keep:=λb u q _ _ _=>k b u q
 slot:=λb u q _ _ _=>⟨u.slots,k b u q⟩
 free:=λb u q n _=>by rw[qu<|A9<|AR (s9 q) hp];exact n
 there:=λb u q _=>⟨u,k b u q⟩
 tups:=λb J q=>by rw[qu<|j5 q I];exact q
 frzs:=λb u J q=>by rw[qu<|j5 q I];exact q
 tbls:=λb U q=>⟨#[],by rw[qu<|j5 q I,q];simp⟩
theorem Un.write(J:Ee<|H x)(p:e=x\/H e=some (.own x))(k:∀b u,b≠e->h.get? b=some u->h'.get? b=some u)(U:∃u,h'.get? e=some u):Un fs ex H (upd H x o) h h':=by
 have j:∀b,H b=none->b≠x:=λb n z=>by subst z;rw[n] at J;exact J
 have l:∀b,H b=none->b≠e:=λb n z=>by
  subst z;rcases p with r|r
  ·exact j b n r
  ·rw[n] at r;cases r
 have g:∀b u,H b=some u->¬Ee (some u)->b≠x:=λb u q nm z=>by subst z;rw[q] at J;exact nm J
 refine⟨λb u q n _ _=>k b u (l b n) q,λb u q n _ _=>⟨u.slots,k b u (l b n) q⟩,λb u q n _=>by rw[qu<|j b n];exact n,λb u q _=>?_,
  λb t q=>by rw[qu<|g b _ q λz=>z];exact q,λb u t q=>by rw[qu<|g b _ q λz=>z];exact q,λb C q=>⟨#[],by rw[qu<|g b _ q λz=>z,q];simp⟩⟩
 by_cases I:b=e
 ·subst I;exact U
 ·exact⟨u,k b u I q⟩
end
def Ff(h:Vy)(H:Hp):List Addr:=(List.range h.objs.size).filter λa=>(H a).isSome
def rB(h:Vy)(H:Hp):Vy:=PySem.W.hideAll h<|Ff h H
theorem zO(h:Vy)(H:Hp):(rB h H).objs.size=h.objs.size:=PySem.W.hideAll_size _ _
theorem Lw{H:Hp}{b:Addr}{o:Obj}(e:h.get? b=some o)(n:H b=none):(rB h H).get? b=some o:=
 PySem.W.hideAll_get _ e λI=>by have q:(H b).isSome=true:=(AJ.mp I).2;rw[n] at q;simp at q
theorem Lx{H:Hp}{b:Addr}{o:Obj}(e:(rB h H).get? b=some o):h.get? b=some o/\H b=none:=by
 have I:h.get? b=some o:=PySem.W.of_hideAll (Ff h H) e;refine⟨I,?_⟩;cases q:H b with
 |none=>rfl
 |some x=>
  have J:b∈Ff h H:=AJ.mpr ⟨AX.mpr<|s9 I,by simp[q]⟩;have z:(rB h H).get? b=none:=PySem.W.hideAll_none (Ff h H) J;rw[z] at e;cases e
end L2
variable {xs zs:List L2.V}{H H' H₀:L2.Hp}
namespace L2
open PySem PySem.Spec PyProof.Rows
structure Mod(K:Af)(mg:Vg)(base:Vy):Prop where
 kin:K.In base
 glob:base.Ns mainGlobals mg
 blt:∃mb,base.Ns builtinsNs mb/\∀x:Str,x ≠ "__name__" -> mb x=bootBuiltins x
 nolimit:base.NoLimit
structure Cx where
 prog:Vw
 w:Vx
 K:Af
 mg:Vg
 base:Vy
 A:Around
 N:Vm
 s₀:Vv
 H₀:Hp
 env:Env
 outer:List Env
 stack:List Env
 ex:List Addr
 fn:Str->Bool
 calm:Bool
 pn:List (Addr×Obj)
 xe:Ve
def frs(l:List Env):List Addr:=l.filterMap (·.frame)
abbrev Cx.fs(X:Cx):List Addr:=frs X.outer
def u_(I:Scope)(x:Str):Prop:=I.names.lookup x=some .local\/I.names.lookup x=some .cell\/I.names.lookup x=some .free
def Loc(I:Scope)(x:Str):Prop:=I.names.lookup x=some .local\/I.names.lookup x=some .cell
def Ly(env:Env)(h:Vy)(m:Vg)(x:Str)(u:Vu):Prop:=
 (env.kindOf x=some .local/\m x=some u)\/((env.kindOf x=some .cell\/env.kindOf x=some .free)/\∃c,env.cells.lookup x=some c/\h.IsCell c (some u))
structure Cx.Ok(X:Cx):Prop where
 mod:Mod X.K X.mg X.base
 kind:X.env.scope.kind=.function
 glob:X.env.globals=mainGlobals
 blt:X.env.builtins=builtinsNs
 above:X.s₀.heap.objs.size<=X.env.locals
 inj:∀x y c,X.env.cells.lookup x=some c->X.env.cells.lookup y=some c->x=y
 has:∀x,(X.env.kindOf x=some .cell\/X.env.kindOf x=some .free)->∃c,X.env.cells.lookup x=some c
 cab:∀x c,X.fn x=true->X.env.cells.lookup x=some c->X.s₀.heap.objs.size<=c
 hd:X.calm=true->X.A.handled=none
 frames:X.A.frames=some X.stack
 stk:X.stack=X.outer\/(X.stack=X.env::X.outer/\X.env.frame=some X.env.locals)
 exf:∀b∈X.ex,b≠X.env.locals/\∀x c,X.env.cells.lookup x=some c->c≠b
 bs:∀b o,X.base.get? b=some o->X.s₀.heap.get? b=some o/\X.H₀ b=none
 bsz:X.base.objs.size<=X.s₀.heap.objs.size
 noex:∀b o,X.base.get? b=some o->b∉X.ex
 exfs:∀b∈X.ex,b∉X.fs
 funs:X.s₀.heap.FunFrames X.base X.outer
 frf:∀b∈X.fs,X.H₀ b=none
structure z9(X:Cx)(pins:List<|Addr×Obj)(σ:List<|VB)(H:Hp)(s:Vv):Prop where
 ok:X.Ok
 os:s.os=X.s₀.os
 bare:AllBare s.gens
 base:Un X.fs X.ex X.H₀ H X.s₀.heap s.heap
 loc:∃m,s.heap.Ns X.env.locals m/\∀(i:Nat) (x:Str) (v:V),X.N[i]?=some x->σ[i]?=some (some v)->u_ X.env.scope x->∃u,zo v u/\Ly X.env s.heap m x u
 cell:∀x c,X.env.cells.lookup x=some c->∃v,s.heap.IsCell c v
 free:H X.env.locals=none
 freeC:∀x c,X.env.cells.lookup x=some c->H c=none
 pin:∀p∈X.pn++pins,s.heap.get? p.1=some p.2/\H p.1=none/\p.1≠X.env.locals/\p.1∉X.fs/\∀v,p.2.data≠.cell v
 hok:gF X.prog X.w H s.heap
 len:σ.length=X.N.length
 tk:0<s.toks
section
variable {X:Cx}{σ:List<|VB}
theorem Cx.Ok.nofr(ok:X.Ok){b:Addr}{o:Obj}(e:X.base.get? b=some o):b∉X.fs:=λI=>by have:=(ok.funs.mem I).1;rw[e] at this;cases this
theorem z9.bs(I:z9 X pins σ H s):∀b o,X.base.get? b=some o->s.heap.get? b=some o/\H b=none:=λb o e=>
 ⟨I.base.keep b o (I.ok.bs b o e).1 (I.ok.bs b o e).2 (I.ok.nofr e)<|I.ok.noex b o e,I.base.free b o (I.ok.bs b o e).1 (I.ok.bs b o e).2<|I.ok.noex b o e⟩
theorem z9.bk(I:z9 X pins σ H s):∀b o,X.base.get? b=some o->s.heap.get? b=some o:=λb o e=>(I.bs b o e).1
theorem z9.mod(I:z9 X pins σ H s):Mod X.K X.mg X.base:=I.ok.mod
theorem z9.kIn(I:z9 X pins σ H s):X.K.In s.heap:=I.ok.mod.kin.keeps I.bk
theorem z9.nolimit(I:z9 X pins σ H s):s.heap.NoLimit:=I.ok.mod.nolimit.keeps I.bk
theorem z9.lt(I:z9 X pins σ H s):X.env.locals<s.heap.objs.size:=let ⟨_,J,_⟩:=I.loc;J.lt
theorem z9.sz(I:z9 X pins σ H s):X.s₀.heap.objs.size<=s.heap.objs.size:=AO I.ok.above<|Bf I.lt
theorem z9.nofs(I:z9 X pins σ H s){a:Addr}(h:s.heap.objs.size<=a):a∉X.fs:=λJ=>by obtain⟨_,o,U,_⟩:=I.ok.funs.mem J;exact absurd (AR (s9 U)<|AO I.sz h)<|CH _
theorem z9.cne(I:z9 X pins σ H s):∀x c,X.env.cells.lookup x=some c->c≠X.env.locals:=λx c e z=>by obtain⟨v,o,g,hd⟩:=I.cell x c e;obtain⟨m,⟨j,l,p,J,U,_⟩,_⟩:=I.loc;rw[z,J] at g;cases g;rw[U] at hd;cases hd
theorem z9.funs(I:z9 X pins σ H s):s.heap.FunFrames X.base X.outer:=by
 have all:∀(l:List Env),(∀b∈frs l,b∈X.fs)->X.s₀.heap.FunFrames X.base l->s.heap.FunFrames X.base l:=by
  intro l
  induction l with
  |nil=>intro _ _;trivial
  |cons p r t=>
   intro j C;obtain⟨T,⟨L,o,J,hn,ho,hd⟩,hr⟩:=C;have U:L∈X.fs:=j L (by unfold frs;rw[BR,J];exact Ao);obtain⟨sl,e⟩:=I.base.slot L o ho (I.ok.frf L U) U λz=>I.ok.exfs L z U;exact⟨T,⟨L,_,J,hn,e,hd⟩,t (λb g=>j b (by unfold frs;rw[BR,J];exact Ae _ g)) hr⟩
 exact all X.outer (λ_ g=>g) I.ok.funs
theorem z9.stack(I:z9 X pins σ H s):s.heap.FunFrames X.base X.stack:=by
 rcases I.ok.stk with e|⟨e,J⟩
 ·rw[e];exact I.funs
 ·rw[e];obtain⟨m,U,_⟩:=I.loc;refine .cons (by rw[I.ok.kind];decide) J U ?_ I.funs;exact Heap.get?_none_of_le<|AO I.ok.bsz I.ok.above
theorem z9.stkSub(I:z9 X pins σ H s):∀b∈frs X.stack,b∈X.env.locals::X.fs:=λb J=>by
 rcases I.ok.stk with e|⟨e,U⟩
 ·rw[e] at J;exact Ae _ J
 ·rw[e] at J;unfold frs at J;rw[BR,U] at J;exact J
theorem z9.stkFree(I:z9 X pins σ H s):∀b∈frs X.stack,H b=none:=λb J=>by
 rcases Aq.mp (I.stkSub b J) with e|J
 ·rw[e];exact I.free
 ·obtain⟨_,o,U,_⟩:=I.ok.funs.mem J;exact I.base.free b o U (I.ok.frf b J) λz=>I.ok.exfs b z J
theorem z9.step{g':Array GenState}{d':Drawn}(I:z9 X pins σ H s)
 (U:∀b∈ch,(b∈X.ex\/X.s₀.heap.objs.size<=b)/\b≠X.env.locals/\(∀x c,X.env.cells.lookup x=some c->c≠b)/\∀p∈X.pn++pins,p.1≠b)
 (keep:∀b o,b≠X.env.locals->b∉X.fs->b∉ch->s.heap.get? b=some o->H b=none->h'.get? b=some o)
 (slot:∀b o,b≠X.env.locals->b∈X.fs->b∉ch->s.heap.get? b=some o->H b=none->∃sl,h'.get? b=some { o with slots:=sl }) (free:∀b o,b∉ch->s.heap.get? b=some o->H b=none->H' b=none)
 (there:∀b o,b∉ch->s.heap.get? b=some o->∃o',h'.get? b=some o')
 (tups:∀b xs,H b=some (.tup xs)->H' b=some (.tup xs)) (frzs:∀b o u,H b=some (.frz o u)->H' b=some (.frz o u)) (tbls:∀b ps,H b=some (.tbl ps)->∃more,H' b=some (.tbl<|ps++more))
 (ns:∀m,s.heap.Ns X.env.locals m->h'.Ns X.env.locals m) (hok:gF X.prog X.w H' h') (hg:AllBare g') (ht:0<t':=by walk_at "t"):
 z9 X pins σ H' { s with heap:=h',gens:=g',drawn:=d',toks:=t' }:=by
 have aS:∀b o,X.s₀.heap.get? b=some o->b≠X.env.locals:=λb o e=>A9<|AR (s9 e) I.ok.above;have t:∀b o,X.s₀.heap.get? b=some o->b∉X.ex->b∉ch:=λb o e J T=>by
  rcases (U b T).1 with z|z
  ·exact J z
  ·exact absurd (AR (s9 e) z)<|CH _
 have g:∀x c,X.env.cells.lookup x=some c->∀v,s.heap.IsCell c v->h'.IsCell c v:=λx c e v ψ=>by
  obtain⟨o,ho,hd⟩:=ψ
  have j:c∉ch:=λz=>(U c z).2.2.1 x c e rfl;by_cases hc:c∈X.fs
  ·obtain⟨sl,q⟩:=slot c o (I.cne x c e) hc j ho<|I.freeC x c e;exact⟨_,q,hd⟩
  ·exact⟨o,keep c o (I.cne x c e) hc j ho<|I.freeC x c e,hd⟩
 refine⟨I.ok,I.os,hg,⟨λb o e n T J=>?_,λb o e n T J=>?_,λb o e n J=>?_,λb o e J=>?_,λb xs e=>tups b xs<|I.base.tups b xs e,λb o xs e=>frzs b o xs<|I.base.frzs b o xs e,λb ps e=>?_⟩,?_,λx c e=>?_,?_,λx c e=>?_,λp hp=>?_,hok,I.len,ht⟩
 ·exact keep b o (aS b o e) T (t b o e J) (I.base.keep b o e n T J)<|I.base.free b o e n J
 ·obtain⟨sl,C⟩:=I.base.slot b o e n T J;obtain⟨a0,e2⟩:=slot b _ (aS b o e) T (t b o e J) C<|I.base.free b o e n J;exact⟨a0,e2⟩
 ·obtain⟨o',C⟩:=I.base.there b o e J;exact free b o' (t b o e J) C<|I.base.free b o e n J
 ·obtain⟨o',C⟩:=I.base.there b o e J;exact there b o' (t b o e J) C
 ·obtain⟨m1,C⟩:=I.base.tbls b ps e;obtain⟨m2,e2⟩:=tbls b _ C;exact⟨m1++m2,by rw[e2,Array.append_assoc]⟩
 ·obtain⟨m,hn,hl⟩:=I.loc;refine⟨m,ns m hn,λi x v C e2 e3=>?_⟩;obtain⟨u,r,l⟩:=hl i x v C e2 e3;refine⟨u,r,?_⟩;rcases l with l|⟨k,c,e,z⟩
  ·exact .inl l
  ·exact .inr ⟨k,c,e,g x c e _ z⟩
 ·obtain⟨v,z⟩:=I.cell x c e;exact⟨v,g x c e v z⟩
 ·obtain⟨m,⟨o,_,_,ho,_⟩,_⟩:=I.loc;exact free _ o (λz=>(U _ z).2.1 rfl) ho I.free
 ·obtain⟨v,o,ho,hd⟩:=I.cell x c e;exact free c o (λz=>(U c z).2.2.1 x c e rfl) ho<|I.freeC x c e
 ·obtain⟨e,n,ne,nf,d⟩:=I.pin p hp;have j:p.1∉ch:=λz=>(U p.1 z).2.2.2 p hp rfl;exact⟨keep p.1 p.2 ne nf j e n,free p.1 p.2 j e n,ne,nf,d⟩
theorem z9.un(I:z9 X pins σ H s)(u:Un X.fs [] H H' s.heap h')(hok:gF X.prog X.w H' h')(T:0<t':=by walk_at "t"):z9 X pins σ H' { s with heap:=h',toks:=t' }:=by obtain⟨m,⟨o,es,ep,l,r⟩,_⟩:=id I.loc;obtain⟨sl,p⟩:=u.any l I.free (by simp);exact I.step (g':=s.gens) (d':=s.drawn) (ch:=[]) (λ_ z=>nomatch z) (λb o _ U _ e n=>u.keep b o e n U (by simp)) (λb o _ U _ e n=>u.slot b o e n U (by simp)) (λb o _ e n=>u.free b o e n (by simp)) (λb o _ e=>u.there b o e (by simp)) u.tups u.frzs u.tbls (λm' t=>by obtain⟨o',g,j,J,C⟩:=t;rw[l] at J;cases J;exact⟨_,g,j,p,C⟩) hok I.bare
theorem z9.call{g':Array GenState}{d':Drawn}(I:z9 X pins σ H s)(u:Un (frs X.stack) ch H H' s.heap h')(hok:gF X.prog X.w H' h')(T:AllBare g')
 (U:∀b∈ch,(b∈X.ex\/X.s₀.heap.objs.size<=b)/\b≠X.env.locals/\(∀x c,X.env.cells.lookup x=some c->c≠b)/\∀p∈X.pn++pins,p.1≠b) (ht:0<t':=by walk_at "t"):
 z9 X pins σ H' { s with heap:=h',gens:=g',drawn:=d',toks:=t' }:=by
 obtain⟨m,⟨o,es,ep,C,r⟩,_⟩:=id I.loc;obtain⟨sl,j⟩:=u.any C I.free λz=>(U _ z).2.1 rfl;exact I.step (ch:=ch) U (λb o j hb J e n=>u.keep b o e n (λz=>(Aq.mp<|I.stkSub b z).elim j hb) J) (λb o _ _ J e n=>u.any e n J) (λb o J e n=>u.free b o e n J) (λb o J e=>u.there b o e J) u.tups u.frzs u.tbls (λm' hm=>by obtain⟨o',l,t,g,r'⟩:=hm;rw[C] at g;cases g;exact⟨_,l,t,j,r'⟩) hok T
theorem z9.turned(I:z9 X pins σ H s)(k:∀b o,b≠it->s.heap.get? b=some o->h'.get? b=some o)(j:H it=none)(g:it≠X.env.locals)
 (h1:it∈X.ex\/X.s₀.heap.objs.size<=it) (h2:∀x c,X.env.cells.lookup x=some c->c≠it) (l:∀p∈X.pn++pins,p.1≠it) (ht:0<t':=by walk_at "t"):z9 X pins σ H { s with heap:=h',toks:=t' }:=by
 have U:∀b u,H b=some u->b≠it:=λb u e z=>by rw[z,j] at e;cases e
 refine I.step (g':=s.gens) (d':=s.drawn) (ch:=[it]) (λb t=>?_) (λb o _ _ J e _=>k b o (λz=>J (by simp[z])) e) (λb o _ _ J e _=>⟨o.slots,k b o (λz=>J (by simp[z])) e⟩) (λ_ _ _ _ n=>n)
  (λb o J e=>⟨o,k b o (λz=>J (by simp[z])) e⟩) (λ_ _ e=>e) (λ_ _ _ e=>e) (λb ps e=>⟨#[],by rw[e];simp⟩) (λm C=>?_) (λb u e=>?_) I.bare
 ·have e:b=it:=by simpa using t
  subst e;exact⟨h1,g,h2,l⟩
 ·obtain⟨o,T,ep,ho,r⟩:=C;exact⟨o,T,ep,k _ o (A4 g) ho,r⟩
 ·refine(I.hok b u e).stay (λc v J q=>k c v ?_ q) (λ_ q=>q) λ_ _ q=>q;rcases J with z|z
  ·rw[z];exact U b u e
  ·exact U c _ z
theorem z9.tok(I:z9 X pins σ H s)(t:Nat)(J:0<t:=by walk_at "t"):z9 X pins σ H { s with toks:=t }:=I.un (h':=s.heap) (t':=t) Un.refl I.hok
theorem z9.kept(I:z9 X pins σ H s)(k:∀b u,s.heap.get? b=some u->h'.get? b=some u)(J:0<t':=by walk_at "t"):z9 X pins σ H { s with heap:=h',toks:=t' }:=I.un (Un.kept k)<|I.hok.kept k
theorem z9.laid{a:Addr}{o:HO}(I:z9 X pins σ H s)(k:∀b u,s.heap.get? b=some u->h'.get? b=some u)(hp:s.heap.objs.size<=a)(new:vg X.prog X.w (upd H a o) h' a o)(J:0<t':=by walk_at "t"):
 z9 X pins σ (upd H a o) { s with heap:=h',toks:=t' }:=I.un (Un.laid k hp<|I.hok.fresh hp)<|I.hok.laid k hp new
theorem z9.write{x e:Addr}{o:HO}(I:z9 X pins σ H s)(U:Ee<|H x)(g:e=x\/H e=some (.own x))(k:∀b u,b≠e->s.heap.get? b=some u->h'.get? b=some u)(J:∃u,h'.get? e=some u)
 (new:vg X.prog X.w (upd H x o) h' x o) (j:0<t':=by walk_at "t"):z9 X pins σ (upd H x o) { s with heap:=h',toks:=t' }:=I.un (Un.write U g k J)<|I.hok.write U g k J new
theorem z9.weak{ni:List<|VB}(I:z9 X pins σ H s)(U:ni.length=σ.length)(w:∀(i:Nat) v,ni[i]?=some (some v)->σ[i]?=some (some v)):z9 X pins ni H s:=
 ⟨I.ok,I.os,I.bare,I.base,let ⟨m,g,J⟩:=I.loc;⟨m,g,λi x v j l o=>J i x v j (w i v l) o⟩,I.cell,I.free,I.freeC,I.pin,I.hok,U.trans I.len,I.tk⟩
theorem z9.pins_of{J:List<|Addr×Obj}(I:z9 X pins σ H s)(h:∀p∈J,s.heap.get? p.1=some p.2/\H p.1=none/\p.1≠X.env.locals/\p.1∉X.fs/\∀v,p.2.data≠.cell v):z9 X J σ H s:=
 ⟨I.ok,I.os,I.bare,I.base,I.loc,I.cell,I.free,I.freeC,λp U=>(Aj.mp U).elim (λz=>I.pin p<|Ap _ z)<|h p,I.hok,I.len,I.tk⟩
theorem uB{N:Vm}(hN:N.Nodup)(a:N[i]?=some x)(b:N[j]?=some x):i=j:=by obtain⟨U,I⟩:=AL.mp a;obtain⟨g,J⟩:=AL.mp b;exact(Do hN).mp (I.trans J.symm)
theorem oY{v:V}{Q:Vf}(I:z9 X pins σ H s)(hN:X.N.Nodup)(hi:X.N[i]?=some x)(t:Loc X.env.scope x)(r:zo v u)
 (h:∀s',z9 X pins (σ.set i<|some v) H s'->(∃a,Heap.SameBut a s.heap s'.heap/\(a=X.env.locals\/X.env.cells.lookup x=some a))->(X.env.kindOf x=some .local->∃m',s'.heap.Ns X.env.locals m'/\m' x=some u)->Q () s') (hf:X.fn x=true\/X.env.scope.names.lookup x=some .local:=by first|exact .inl rfl|exact .inr rfl|assumption):wpAny M A (storeName X.env x u) Q E s:=by
 obtain⟨m,hn,hl⟩:=id I.loc;have a2:(X.env.scope.kind==.class||(X.env.scope.kind==.module&&X.env.locals != X.env.globals))=false:=by rw[I.ok.kind];rfl
 have a0:i<σ.length:=by rw[I.len];exact(AL.mp hi).1
 have cne:=I.cne;have U:∀{a:Addr} {h':Vy},(∃o,s.heap.get? a=some o/\H a=none)->Heap.SameBut a s.heap h'->gF X.prog X.w H h':=λ{a h'} ha J b ob e=>by
  obtain⟨_,_,C⟩:=ha;refine(I.hok b ob e).stay (λc w' l q=>(J.2 c ?_).trans q) (λ_ q=>q) λ_ _ q=>q;rintro rfl;rcases l with rfl|l
  ·rw[C] at e;cases e
  ·rw[C] at l;cases l
 rcases t with T|T
 ·refine wpAny_storeName_local T hn (λh' a3 J=>?_) a2;obtain⟨oL,_,_,ac,_⟩:=id hn;refine h _ ⟨I.ok,I.os,I.bare,⟨λb o e n hb t=>?_,λb o e n hb t=>?_,I.base.free,λb o e t=>?_,I.base.tups,I.base.frzs,I.base.tbls⟩,⟨_,a3,λj y v' g e2 e3=>?_⟩,λy c e=>?_,I.free,I.freeC,λp hp=>?_,U ⟨oL,ac,I.free⟩ J,by simpa using I.len,by first|exact I.tk|exact BV _⟩ ⟨_,J,.inl rfl⟩ λ_=>⟨_,a3,by simp⟩
  ·exact(J.2 b<|A9<|AR (s9 e) I.ok.above).trans (I.base.keep b o e n hb t)
  ·obtain⟨sl,g⟩:=I.base.slot b o e n hb t;exact⟨sl,(J.2 b<|A9<|AR (s9 e) I.ok.above).trans g⟩
  ·obtain⟨o',g⟩:=I.base.there b o e t;exact⟨o',(J.2 b<|A9<|AR (s9 e) I.ok.above).trans g⟩
  ·by_cases hj:j=i
   ·subst hj;rw[hi] at g;cases g;rw[BH a0] at e2;cases e2;exact⟨u,r,.inl ⟨T,by simp⟩⟩
   ·rw[Bl<|A4 hj] at e2;obtain⟨u',r',q⟩:=hl j y v' g e2 e3;refine⟨u',r',?_⟩;rcases q with⟨k,e⟩|⟨k,c,e,z⟩
    ·refine .inl ⟨k,?_⟩;have:y≠x:=λe=>hj<|uB hN g<|e▸hi;simp[this,e]
    ·exact .inr ⟨k,c,e,z.sameBut J<|cne y c e⟩
  ·obtain⟨w',z⟩:=I.cell y c e;exact⟨w',z.sameBut J<|cne y c e⟩
  ·obtain⟨e,n,ne,nf,d⟩:=I.pin p hp;exact⟨(J.2 p.1 ne).trans e,n,ne,nf,d⟩
 ·have a1:X.fn x=true:=by
   rcases hf with z|z
   ·exact z
   ·rw[z] at T;cases T
  obtain⟨c,l⟩:=I.ok.has x<|.inl T;obtain⟨w',z⟩:=I.cell x c l;refine wpAny_storeName_cell I.ok.kind T l z λh' a4 J=>?_;obtain⟨oc,a5,a7⟩:=id z;refine h { s with heap:=h' } ⟨I.ok,I.os,I.bare,⟨λb o e n hb t=>?_,λb o e n hb t=>?_,I.base.free,λb o e t=>?_,I.base.tups,I.base.frzs,I.base.tbls⟩,⟨m,hn.sameBut J<|A4<|cne x c l,λj y v' g e2 e3=>?_⟩,λy c' e=>?_,I.free,I.freeC,λp hp=>?_,U ⟨oc,a5,I.freeC x c l⟩ J,by simpa using I.len,I.tk⟩ ⟨c,J,.inr l⟩ (λz=>by have e:=(show X.env.kindOf x=some .cell from T).symm.trans z;cases e)
  ·exact(J.2 b<|A9<|AR (s9 e)<|I.ok.cab x c a1 l).trans (I.base.keep b o e n hb t)
  ·obtain⟨sl,g⟩:=I.base.slot b o e n hb t;exact⟨sl,(J.2 b<|A9<|AR (s9 e)<|I.ok.cab x c a1 l).trans g⟩
  ·obtain⟨o',g⟩:=I.base.there b o e t;exact⟨o',(J.2 b<|A9<|AR (s9 e)<|I.ok.cab x c a1 l).trans g⟩
  ·by_cases hj:j=i
   ·subst hj;rw[hi] at g;cases g;rw[BH a0] at e2;cases e2;exact⟨u,r,.inr ⟨.inl T,c,l,a4⟩⟩
   ·rw[Bl<|A4 hj] at e2;obtain⟨u',r',q⟩:=hl j y v' g e2 e3;refine⟨u',r',?_⟩;rcases q with q|⟨k,c',e,z'⟩
    ·exact .inl q
    ·refine .inr ⟨k,c',e,z'.sameBut J ?_⟩;rintro rfl;exact hj<|uB hN g<|I.ok.inj _ _ _ e l▸hi
  ·by_cases ab:c'=c
   ·subst ab;exact⟨_,a4⟩
   ·obtain⟨w2,z2⟩:=I.cell y c' e;exact⟨w2,z2.sameBut J ab⟩
  ·obtain⟨e,n,ne,nf,d⟩:=I.pin p hp;refine⟨(J.2 p.1 ?_).trans e,n,ne,nf,d⟩;intro q;rw[q,a5] at e;have q':oc=p.2:=AS e;exact d w' (by rw[<-q'];exact a7)
theorem iG{v:V}{Q:Vf}(I:z9 X pins σ H s)(hN:X.N.Nodup)(hi:X.N[i]?=some x)(J:Loc X.env.scope x)(r:zo v u)
 (h:∀s',z9 X pins (σ.set i<|some v) H s'->Q () s') (U:X.fn x=true\/X.env.scope.names.lookup x=some .local:=by first|exact .inl rfl|exact .inr rfl|assumption):wpAny M A (storeName X.env x u) Q E s:=
 oY I hN hi J r (λs' g _ _=>h s' g) U
theorem z9.call'(I:z9 X pins σ H s)(U:s'.os=s.os)(u:Un (frs X.stack) ch H H' s.heap s'.heap)(hok:gF X.prog X.w H' s'.heap)(g:AllBare s'.gens)
 (J:∀b∈ch,(b∈X.ex\/X.s₀.heap.objs.size<=b)/\b≠X.env.locals/\(∀x c,X.env.cells.lookup x=some c->c≠b)/\∀p∈X.pn++pins,p.1≠b) (j:0<s'.toks:=by walk_at "t"):z9 X pins σ H' s':=by
 obtain⟨o,g',d',t',l⟩:=s';have e:l=s.os:=U;subst e;exact I.call (g':=g') (t':=t') (d':=d') u hok g J j
end
abbrev XK:=Vu->Option Addr->Hp->Prop
abbrev St:=List<|VB
abbrev VK:=V->Hp->Prop
abbrev TE:=St->Hp->VK->Prop
abbrev TT:=St->Hp->(Bool->Hp->Prop)->Prop
abbrev TA:=St->Hp->(VA->Hp->Prop)->Prop
structure uo where
 nx:St->Hp->Prop
 rt:VK
 bk:St->Hp->Prop:=λ_ _=>False
 ct:St->Hp->Prop:=λ_ _=>False
abbrev TS:=uo->St->Hp->Prop
def EP(X:Cx)(pins:List<|Addr×Obj)(σ:St)(Q:VK)(u:Vu)(s':Vv):Prop:=∃v H',z9 X pins σ H' s'/\zo v u/\Q v H'
def TP(X:Cx)(pins:List<|Addr×Obj)(σ:St)(Q:Bool->Hp->Prop)(b:Bool)(s':Vv):Prop:=∃H',z9 X pins σ H' s'/\Q b H'
def AP(X:Cx)(pins:List<|Addr×Obj)(σ:St)(Q:VA->Hp->Prop)(us:Vj)(s':Vv):Prop:=∃vs H',z9 X pins σ H' s'/\zn vs us/\Q vs H'
def SP(X:Cx)(pins:List<|Addr×Obj)(D:uo)(f:Flow)(s':Vv):Prop:=
 match f with
 |.next=>∃ni H',z9 X pins ni H' s'/\D.nx ni H'
 |.brk=>∃ni H',z9 X pins ni H' s'/\D.bk ni H'
 |.cont=>∃ni H',z9 X pins ni H' s'/\D.ct ni H'
 |.ret u=>∃v ni H',z9 X pins ni H' s'/\zo v u/\D.rt v H'
def PE(X:Cx)(e:Expr)(t:TE):Prop:=
 ∀(pins:List<|Addr×Obj) (s:Vv) (σ:St) (H:Hp) (Q:VK),z9 X pins σ H s->t σ H Q->wpAny (model X.prog X.w) X.A (eval e X.env) (EP X pins σ Q) X.xe s
def PT(X:Cx)(e:Expr)(t:TT):Prop:=
 ∀(pins:List<|Addr×Obj) (s:Vv) (σ:St) (H:Hp) (Q:Bool->Hp->Prop),z9 X pins σ H s->t σ H Q->wpAny (model X.prog X.w) X.A (isTrue e X.env<|eval e X.env) (TP X pins σ Q) X.xe s
def PW(X:Cx)(e:Expr)(t:TT):Prop:=
 ∀(whole:Sem Vu) (pins:List<|Addr×Obj) (s:Vv) (σ:St) (H:Hp) (Q:Bool->Hp->Prop),z9 X pins σ H s->t σ H Q->wpAny (model X.prog X.w) X.A (isTrue e X.env whole) (TP X pins σ Q) X.xe s
theorem PW.pt{X:Cx}{t:TT}(h:PW X e t):PT X e t:=h _
def PA(X:Cx)(es:Vn)(t:TA):Prop:=
 ∀(pos:Pos) (pins:List<|Addr×Obj) (s:Vv) (σ:St) (H:Hp) (Q:VA->Hp->Prop),z9 X pins σ H s->t σ H Q->wpAny (model X.prog X.w) X.A (spliced<|backTo pos<|starEach es X.env) (AP X pins σ Q) X.xe s
def PS(X:Cx)(st:Stmt)(t:TS):Prop:=
 ∀(pins:List<|Addr×Obj) (s:Vv) (σ:St) (H:Hp) (D:uo),z9 X pins σ H s->t D σ H->wpAny (model X.prog X.w) X.A (exec st X.env) (SP X pins D) X.xe s
def kW(X:Cx)(st:Vo)(t:TS):Prop:=
 ∀(pins:List<|Addr×Obj) (s:Vv) (σ:St) (H:Hp) (D:uo),z9 X pins σ H s->t D σ H->wpAny (model X.prog X.w) X.A (execs st X.env) (SP X pins D) X.xe s
theorem aY{t:Sem α}{Q I:α->Vv->Prop}(h:wpAny M A t Q E s)(J:∀a s,Q a s->I a s):wpAny M A t I E s:=A2 h J λ_ _ x=>x
theorem ah{t:Sem Vu}{X:Cx}{σ:St}{Q:VK}{I:Ve}(h:wpAny M A t (EP X pins σ Q) E s)(J:∀v s x H,z9 X pins σ H s->zo x v->Q x H->I v s):wpAny M A t I E s:=aY h λv s ψ=>(by obtain⟨x,H,a,b,c⟩:=ψ;exact J v s x H a b c)
theorem u8{t:Sem<|Vj}{X:Cx}{σ:St}{Q:VA->Hp->Prop}{I:Vj->Vv->Prop}(h:wpAny M A t (AP X pins σ Q) E s)(J:∀v s x H,z9 X pins σ H s->zn x v->Q x H->I v s):wpAny M A t I E s:=aY h λv s ψ=>(by obtain⟨x,H,a,b,c⟩:=ψ;exact J v s x H a b c)
end L2
variable {X:L2.Cx}{σ:L2.St}
namespace L2
open PySem PySem.Spec PyProof.Rows
section
def Fy(i:Nat):TE:=λσ H Q=>∃v,σ[i]?=some (some v)/\Q v H
def tC(v:V):TE:=λ_ H Q=>Q v H
abbrev E4(x:Str):Prop:=(x==("__debug__":Str))=false
abbrev E5(x:Str):Prop:=(x==("__classdict__":Str))=false
theorem Lz(hN:X.N[i]?=some x)(p:u_ X.env.scope x)(hd:E4 x:=by decide)(j:E5 x:=by decide):PE X (.Name x pos) (Fy i):=by
 intro g s t H Q I h;obtain⟨v,e,h⟩:=h;obtain⟨m,C,T⟩:=I.loc;obtain⟨u,r,l⟩:=T i x v hN e p;have xh:EP X g t Q u s:=⟨v,H,I,r,h⟩;rcases l with⟨U,hm⟩|⟨U,c,o,J⟩
 ·exact wpAny_Name (wpAny_loadName_local I.ok.kind U C hm xh) hd
 ·rcases U with U|U
  ·exact wpAny_Name (wpAny_loadName_cell I.ok.kind U o J xh) hd
  ·exact wpAny_Name (wpAny_loadName_free I.ok.kind U o J xh j) hd
theorem LA{i j pos}:PE X (.Constant (.int i) j pos) (tC<|.int i):=λ_ _ _ H _ I h=>wpAny_Constant_int ⟨.int i,H,I.tok _,⟨_,rfl⟩,h⟩
theorem LB{b j pos}:PE X (.Constant (.bool b) j pos) (tC<|.bl b):=λ_ _ _ H _ I h=>Constant_bool ⟨.bl b,H,I,rfl,h⟩
theorem LC{j pos}:PE X (.Constant .none j pos) (tC .non):=λ_ _ _ H _ I h=>Constant_none ⟨.non,H,I,rfl,h⟩
theorem dW{x j pos}:PE X (.Constant (.str x) j pos) (tC<|.str x):=λ_ _ _ H _ I h=>Calls.Constant_str ⟨.str x,H,I.tok _,⟨_,rfl⟩,h⟩
def Gl(X:Cx)(x:Str):Prop:=X.env.kindOf x=some .globalImplicit
theorem pX(I:z9 X pins σ H s)(J:Gl X x)(U:X.mg x=some u)(h:Q u s)
 (hd:E4 x:=by decide):wpAny (model X.prog X.w) X.A (eval (.Name x pos) X.env) Q E s:=
 Calls.Name_function_global I.ok.kind J (Calls.loadGlobal_global (by rw[I.ok.glob];exact I.mod.glob.keeps I.bk) U h) hd
theorem gL(I:z9 X pins σ H s)(J:Gl X x)(U:X.mg x=none)(g:bootBuiltins x=some u)(h:Q u s)
 (j:x ≠ "__name__" := by decide) (hd:E4 x:=by decide):wpAny (model X.prog X.w) X.A (eval (.Name x pos) X.env) Q E s:=by
 obtain⟨p,l,o⟩:=I.mod.blt;exact Calls.Name_function_global I.ok.kind J (Calls.loadGlobal_builtin (by rw[I.ok.glob];exact I.mod.glob.keeps I.bk) U (by rw[I.ok.blt];exact l.keeps I.bk) ((o x j).trans g) h) hd
theorem LD{v:V}(J:Gl X x)(U:X.mg x=some u)(r:zo v u)(hd:E4 x:=by decide):PE X (.Name x pos) (tC v):=
 λ_ _ _ H _ I h=>pX I J U ⟨v,H,I,r,h⟩ hd
theorem LG{v:V}(J:Gl X x)(U:X.mg x=none)(g:bootBuiltins x=some u)(r:zo v u)(j:x ≠ "__name__" := by decide)(hd:E4 x:=by decide):PE X (.Name x pos) (tC v):=
 λ_ _ _ H _ I h=>gL I J U g ⟨v,H,I,r,h⟩ j hd
variable {a b:Expr}{ta tb:TE}
def PC(X:Cx)(op:CmpOp)(a b:Expr)(t:TE):Prop:=
 ∀(pins:List<|Addr×Obj) (s:Vv) (σ:St) (H:Hp) (Q:VK),z9 X pins σ H s->t σ H Q->
  wpAny (model X.prog X.w) X.A (eval a X.env) (λv I=>wpAny (model X.prog X.w) X.A (eval b X.env) (λu J=>wpAny (model X.prog X.w) X.A (compareOp op v u) (EP X pins σ Q) X.xe J) X.xe I) X.xe s
theorem t7(b:Expr){op:CmpOp}(h:op≠.In)(h2:op≠.NotIn):behindInMarks op b=false:=by
 have I:(op==CmpOp.In)=false:=by cases op<;>first|rfl|exact absurd rfl h
 have J:(op==CmpOp.NotIn)=false:=by cases op<;>first|rfl|exact absurd rfl h2
 cases b<;>simp[behindInMarks,I,J]
def G4(ta:TE):TE:=λσ H Q=>ta σ H λx H1=>Q (.bl<|decide<|x=.non) H1
def G5(ta:TE):TE:=λσ H Q=>ta σ H λx H1=>Q (.bl<|!decide (x=.non)) H1
theorem zo.none_iff{x:V}(r:zo x v):(v==Value.none)=decide (x=.non):=by
 cases x with
 |non=>cases r;rfl
 |bl _=>cases r;rfl
 |int _=>obtain⟨t,rfl⟩:=r;rfl
 |str _=>obtain⟨t,rfl⟩:=r;rfl
 |byt _=>obtain⟨t,rfl⟩:=r;rfl
 |flt _=>obtain⟨t,rfl⟩:=r;rfl
 |ref _=>cases r;rfl
 |ty _=>cases r;rfl
theorem G6{j hQ}(U:PE X a ta):PC X .Is a (.Constant .none j hQ) (G4 ta):=by intro J s g H Q I h;refine ah (U J s g H _ I h) λv t x l o p r=>?_;exact Constant_none (is_none_gen ⟨.bl _,l,o,by rw[p.none_iff];rfl,r⟩)
theorem LH{j hQ}(U:PE X a ta):PC X .IsNot a (.Constant .none j hQ) (G5 ta):=by intro J s g H Q I h;refine ah (U J s g H _ I h) λv t x l o p r=>?_;exact Constant_none (isnot_none_gen ⟨.bl _,l,o,by rw[p.none_iff];rfl,r⟩)
def tB(t:TE):TT:=λσ H Q=>t σ H λx H1=>∃c,x=.bl c/\Q c H1
theorem LI{op:CmpOp}{t:TE}(h:PC X op a b t)(h1:behindInMarks op b=false:=by first|exact t7 _ (by decide) (by decide)|rfl):PE X (.Compare a [op] [b] pos) t:=λJ s U H Q I hw=>wpAny_Compare1 (h J s U H Q I hw) h1
theorem G7{op:CmpOp}{t:TE}(h:PC X op a b t)(h1:behindInMarks op b=false:=by first|exact t7 _ (by decide) (by decide)|rfl):PT X (.Compare a [op] [b] pos) (tB t):=by intro J s U H Q I hw;refine wpAny_isTrue_Compare1 (aY (h J s U H _ I hw) λv r h1=>aY h1 λu C g=>aY g λc T ψ=>?_) h1;obtain⟨x,j,l,o,p⟩:=ψ;obtain⟨d,rfl,q⟩:=p;cases o;exact wpAny_truthy_bool ⟨j,l,q⟩
theorem LJ{t:TE}(h:PE X e t)(U:∀whole,isTrue e X.env whole=(do let v <-whole;standAt e.pos;holding [v] (truthy v)):=by intro _;rfl):PT X e (tB t):=by intro J s g H Q I hw;refine isTrue_plain (ah (h J s g H _ I hw) λv r x j l o p=>?_)<|U _;obtain⟨d,rfl,q⟩:=p;cases o;exact wpAny_truthy_bool ⟨j,l,q⟩
variable {tA sn:TT}{rest:Vn}
def aug(t u:TT):TT:=λσ H Q=>t σ H λc H1=>if c=true then u σ H1 Q else Q false H1
def LK(t u:TT):TT:=λσ H Q=>t σ H λc H1=>if c=true then Q true H1 else u σ H1 Q
def LL(t:TT):TT:=λσ H Q=>t σ H λc H1=>Q (!c) H1
theorem LM(U:PT X a tA):PW X (.BoolOp .And [a] pos) tA:=by intro j J s g H Q I h;refine isTrue_and<|aY (U J s g H Q I h) λc l e=>?_;cases c with|true=>exact isTrue_and_nil e|false=>exact e
theorem LN(U:PT X a tA):PW X (.BoolOp .Or [a] pos) tA:=by intro j J s g H Q I h;refine isTrue_or<|aY (U J s g H Q I h) λc l e=>?_;cases c with|false=>exact isTrue_or_nil e|true=>exact e
theorem LP(o:PT X a tA)(p:PW X (.BoolOp .And (b::rest) pos) sn):PW X (.BoolOp .And (a::b::rest) pos) (aug tA sn):=by intro r J s U H Q I h;refine isTrue_and<|aY (o J s U H _ I h) λc t ψ=>?_;obtain⟨g,j,l⟩:=ψ;cases c with|true=>exact p r J t U g Q j l|false=>exact⟨g,j,l⟩
theorem LQ(o:PT X a tA)(p:PW X (.BoolOp .Or (b::rest) pos) sn):PW X (.BoolOp .Or (a::b::rest) pos) (LK tA sn):=by intro r J s U H Q I h;refine isTrue_or<|aY (o J s U H _ I h) λc t ψ=>?_;obtain⟨g,j,l⟩:=ψ;cases c with|true=>exact⟨g,j,l⟩|false=>exact p r J t U g Q j l
theorem LR(U:PT X a tA):PT X (.UnaryOp .Not a pos) (LL tA):=by intro J s g H Q I h;exact isTrue_not<|U J s g H (λc j=>Q (!c) j) I h
def LS(ta tb:TE):TE:=λσ H Q=>ta σ H λx H1=>∃c,x=.bl c/\if c=true then tb σ H1 Q else Q (.bl false) H1
def LU(ta:TE):TE:=λσ H Q=>ta σ H λx H1=>∃c,x=.bl c/\Q (.bl<|!c) H1
theorem LV{op}{t:TE}(h:PE X a t):PE X (.BoolOp op [a] pos) t:=λJ s U H Q I hw=>BoolOp_one<|h J s U H Q I hw
theorem LW(o:PE X a ta)(p:PE X (.BoolOp .And (b::rest) pos) tb):PE X (.BoolOp .And (a::b::rest) pos) (LS ta tb):=by
 intro J s g H Q I h;refine BoolOp_and<|ah (o J s g H _ I h) λv r x j l t U=>?_;obtain⟨c,rfl,U⟩:=U;cases t;refine wpAny_truthy_bool ?_;cases c with
 |true=>exact p J r g j Q l U
 |false=>exact⟨.bl false,j,l,rfl,U⟩
theorem LX(g:PE X a ta):PE X (.UnaryOp .Not a pos) (LU ta):=by intro J s j H Q I h;refine UnaryOp_<|ah (g J s j H _ I h) λv r x l o p U=>?_;obtain⟨c,rfl,U⟩:=U;cases p;exact not_of<|wpAny_truthy_bool ⟨.bl<|!c,l,o,rfl,U⟩
def LY(t:TT)(ta tb:TE):TE:=λσ H Q=>t σ H λc H1=>if c=true then ta σ H1 Q else tb σ H1 Q
theorem LZ{c:Expr}(hc:PT X c tA)(p:PE X a ta)(r:PE X b tb):PE X (.IfExp c a b pos) (LY tA ta tb):=by intro J s U H Q I h;refine wpAny_IfExp<|aY (hc J s U H _ I h) λd g ψ=>?_;obtain⟨j,l,o⟩:=ψ;cases d with|true=>exact p J g U j Q l o|false=>exact r J g U j Q l o
end
def aO(K:Af)(H:Hp)(a:Addr)(xs:VA):Prop:=
 Rd H a (.lst xs)\/
  ∃(o:Obj) (eH:Vk) (n:Nat),K.lookup a=some o/\o.cls=.type "list" /\ o.dict=none/\o.data=.seq eH n/\eH.size<=sizeLine/\zn xs eH.toList
def cx(K:Af)(H:Hp)(a:Addr)(xs:VA):Prop:=
 Rd H a (.tup xs)\/
  ∃(o:Obj) (eH:Vk) (n:Nat),K.lookup a=some o/\o.cls=.type "tuple" /\ o.data=.seq eH n/\eH.size<=sizeLine/\zn xs eH.toList
def ast:Vu->VB
 |.none=>some .non
 |.bool b=>some<|.bl b
 |.int i _=>some<|.int i
 |.str x _=>some<|.str x
 |.bytes b _=>some<|.byt b
 |.float b _=>some<|.flt b
 |.ref a=>some<|.ref a
 |.type n=>some<|.ty n
 |_=>none
theorem zo.abs{x:V}(r:zo x u):ast u=some x:=by
 cases x with
 |non=>cases r;rfl
 |bl _=>cases r;rfl
 |int _=>obtain⟨t,rfl⟩:=r;rfl
 |str _=>obtain⟨t,rfl⟩:=r;rfl
 |byt _=>obtain⟨t,rfl⟩:=r;rfl
 |flt _=>obtain⟨t,rfl⟩:=r;rfl
 |ref _=>cases r;rfl
 |ty _=>cases r;rfl
theorem zo.inj{x y:V}(r:zo x u)(q:zo y u):x=y:=AS<|r.abs.symm.trans q.abs
theorem zn.inj:∀{xs ys:VA} {us:Vj},zn xs us->zn ys us->xs=ys:=by
 intro xs ys us h k
 induction h generalizing ys with
 |nil=>cases k;rfl
 |cons r t I=>
  cases k with|cons J U=>rw[r.inj J,I U]
section
variable {a:Addr}{ys:VA}
theorem aO.of{K:Af}(h:H a=some (.lst xs)):aO K H a xs:=.inl<|.inl h
theorem cx.of{K:Af}(h:H a=some (.tup xs)):cx K H a xs:=.inl<|.inl h
theorem z9.list(I:z9 X pins σ H s)(h:aO X.K H a xs):∃eH:Vj,zn xs eH/\PlainL s.heap a eH.toArray/\xs.length<=sizeLine:=by
 rcases h with h|⟨o,eH,n,J,U,hd,g,j,r⟩
 ·obtain⟨z,eH,n,r,e⟩:=h.ok I.hok;exact⟨eH,r,⟨_,n,e,rfl,rfl,rfl⟩,z⟩
 ·refine⟨eH.toList,r,⟨o,n,I.kIn a o J,U,hd,by simpa using g⟩,?_⟩;have e:=r.length;simp only[A5] at e;lia
theorem z9.tuple(I:z9 X pins σ H s)(h:cx X.K H a xs):∃eH:Vj,zn xs eH/\IsTup s.heap a eH.toArray/\xs.length<=sizeLine:=by
 rcases h with h|⟨o,eH,n,J,U,g,j,r⟩
 ·obtain⟨z,eH,r,p⟩:=h.ok I.hok;exact⟨eH,r,p,z⟩
 ·refine⟨eH.toList,r,⟨o,I.kIn a o J,U,n,by simpa using g⟩,?_⟩;have e:=r.length;simp only[A5] at e;lia
theorem z9.list_inj(I:z9 X pins σ H s)(h:aO X.K H a xs)(h':aO X.K H a ys):xs=ys:=by
 obtain⟨U,r,⟨o,n,e,_,_,d⟩,_⟩:=I.list h;obtain⟨J,l,⟨p,t,g,_,_,j⟩,_⟩:=I.list h';rw[e] at g;cases g;rw[d] at j;injection j with d1 _
 have:U=J:=by simpa using BO Array.toList d1
 subst this;exact r.inj l
theorem z9.tuple_inj(I:z9 X pins σ H s)(h:cx X.K H a xs)(h':cx X.K H a ys):xs=ys:=by
 obtain⟨U,r,⟨o,e,_,n,d⟩,_⟩:=I.tuple h;obtain⟨J,l,⟨p,g,_,t,j⟩,_⟩:=I.tuple h';rw[e] at g;cases g;rw[d] at j;injection j with d1 _
 have:U=J:=by simpa using BO Array.toList d1
 subst this;exact r.inj l
end
abbrev Cx.wish(X:Cx)(E:Ve):Cx:={ X with xe:=E }
abbrev Cx.nox(X:Cx):Cx:=X.wish λ_ _=>False
theorem Cx.Ok.wish(ok:X.Ok)(E:Ve):(X.wish E).Ok:=
 ⟨ok.mod,ok.kind,ok.glob,ok.blt,ok.above,ok.inj,ok.has,ok.cab,ok.hd,ok.frames,ok.stk,ok.exf,ok.bs,ok.bsz,ok.noex,ok.exfs,ok.funs,ok.frf⟩
theorem Cx.Ok.unwish(ok:(X.wish E).Ok):X.Ok:=
 ⟨ok.mod,ok.kind,ok.glob,ok.blt,ok.above,ok.inj,ok.has,ok.cab,ok.hd,ok.frames,ok.stk,ok.exf,ok.bs,ok.bsz,ok.noex,ok.exfs,ok.funs,ok.frf⟩
theorem z9.wish(I:z9 X pins σ H s)(E:Ve):z9 (X.wish E) pins σ H s:=⟨I.ok.wish E,I.os,I.bare,I.base,I.loc,I.cell,I.free,I.freeC,I.pin,I.hok,I.len,I.tk⟩
theorem z9.unwish(I:z9 (X.wish E) pins σ H s):z9 X pins σ H s:=⟨I.ok.unwish,I.os,I.bare,I.base,I.loc,I.cell,I.free,I.freeC,I.pin,I.hok,I.len,I.tk⟩
theorem SP.unwish{D:uo}{f:Flow}(h:SP (X.wish E) pins D f s'):SP X pins D f s':=by
 cases f with
 |next=>obtain⟨J,U,I,q⟩:=h;exact⟨J,U,I.unwish,q⟩
 |brk=>obtain⟨J,U,I,q⟩:=h;exact⟨J,U,I.unwish,q⟩
 |cont=>obtain⟨J,U,I,q⟩:=h;exact⟨J,U,I.unwish,q⟩
 |ret u=>obtain⟨v,J,U,I,r,q⟩:=h;exact⟨v,J,U,I.unwish,r,q⟩
theorem kW.nox{st:Vo}{t:TS}(h:kW X.nox st t):kW X st t:=λJ s U H D I hw=>
 A2 (h J s U H D (I.wish _) hw) (λ_ _ q=>q.unwish) λ_ _ z=>False.elim z
section
variable {rest:Vo}{t u:TS}{te:TE}
def Ma:TS:=λD σ H=>D.nx σ H
def Mb(t u:TS):TS:=λD σ H=>t { D with nx:=u D } σ H
theorem Mc:kW X [] Ma:=λ_ _ J H _ I h=>wpAny_execs_nil ⟨J,H,I,h⟩
theorem sv(h1:PS X st t)(h2:kW X rest u):kW X (st::rest) (Mb t u):=by
 intro J s g H D I h;refine wpAny_execs_cons<|aY (h1 J s g H { D with nx:=u D } I h) λf j q=>?_;cases f with
 |next=>
  obtain⟨U,l,o,q⟩:=q;exact h2 J j U l D o q
 |ret v=>exact q
 |brk=>exact q
 |cont=>exact q
theorem Md(h1:PS X st t):kW X [st] t:=by intro J s U H D I h;refine wpAny_execs_cons<|aY (h1 J s U H D I h) λf g q=>?_;cases f with|next=>exact wpAny_execs_nil q|ret v=>exact q|brk=>exact q|cont=>exact q
def Me:TS:=λD σ H=>D.ct σ H
theorem uU:PS X (.Continue pos) Me:=λ_ _ J H _ I h=>wpAny_Continue ⟨J,H,I,h⟩
theorem z9.quiet(I:z9 X pins σ H s):interactive X.env=false:=by simp[interactive,I.ok.kind]
def Mf(te:TE):TS:=λD σ H=>te σ H λ_ H1=>D.nx σ H1
theorem Mg(g:PE X e te)(hs:swapsWith e none pos.line X.env=pure false:=by rfl):PS X (.Expr e pos) (Mf te):=by intro J s U H D I h;exact wpAny_Expr_any (ah (g J s U H _ I h) λv p x j l r o=>⟨U,j,l,o⟩) I.quiet hs
def Mh(te:TE):TS:=λD σ H=>te σ H D.rt
theorem Mi(g:PE X e te):PS X (.Return (some e) pos) (Mh te):=by intro J s U H D I h;exact wpAny_Return_some<|ah (g J s U H _ I h) λv r x j l o p=>⟨x,U,j,l,o,p⟩
def Mj:TS:=λD _ H=>D.rt .non H
theorem Ml:PS X (.Return none pos) Mj:=λ_ _ J H _ I h=>wpAny_Return_none ⟨.non,J,H,I,rfl,h⟩
def Mm(c:TT)(t u:TS):TS:=λD σ H=>c σ H λb H1=>if b=true then t D σ H1 else u D σ H1
theorem Mn{c:Expr}{a b:Vo}{tc:TT}(hc:PT X c tc)(p:kW X a t)(r:kW X b u):PS X (.If c a b pos) (Mm tc t u):=by intro J s U H D I h;refine wpAny_If<|aY (hc J s U H _ I h) λd g ψ=>?_;obtain⟨j,l,o⟩:=ψ;cases d with|true=>exact p J g U j D l o|false=>exact r J g U j D l o
end
abbrev TG:=V->St->Hp->(St->Hp->Prop)->Prop
abbrev e_:=VA->St->Hp->(St->Hp->Prop)->Prop
def PG(X:Cx)(target:Expr)(t:TG):Prop:=
 ∀(pins:List<|Addr×Obj) (s:Vv) (σ:St) (H:Hp) (v:V) (u:Vu) (Q:St->Hp->Prop),z9 X pins σ H s->zo v u->t v σ H Q->
  wpAny (model X.prog X.w) X.A (assign target X.env u) (λ_ s'=>∃ni H',z9 X pins ni H' s'/\Q ni H') X.xe s
def PGs(X:Cx)(ts:Vn)(t:e_):Prop:=
 ∀(pins:List<|Addr×Obj) (s:Vv) (σ:St) (H:Hp) (vs:VA) (us:Vj) (Q:St->Hp->Prop),z9 X pins σ H s->zn vs us->t vs σ H Q->
  wpAny (model X.prog X.w) X.A (assignInOrder ((assignEach ts X.env).map (·.2)) us) (λ_ s'=>∃ni H',z9 X pins ni H' s'/\Q ni H') X.xe s
abbrev Fz:=V->V->V->Hp->(Hp->Prop)->Prop
def G8(X:Cx)(t:Fz):Prop:=
 ∀(pins:List<|Addr×Obj) (s:Vv) (σ:St) (H:Hp) (o i v:V) (I J u:Vu) (Q:Hp->Prop),z9 X pins σ H s->zo o I->zo i J->zo v u->t o i v H Q->
  wpAny (model X.prog X.w) X.A (setItem I J u) (λ_ s'=>∃H',z9 X pins σ H' s'/\Q H') X.xe s
def eM(i:Nat):TG:=λv σ H Q=>Q (σ.set i<|some v) H
theorem kZ(hN:X.N.Nodup)(hi:X.N[i]?=some x)(U:Loc X.env.scope x)(g:X.fn x=true\/X.env.scope.names.lookup x=some .local:=by first|exact .inl rfl|exact .inr rfl|assumption):PG X (.Name x pos) (eM i):=by intro J s l H v u Q I r h;exact wpAny_assign_Name<|iG I hN hi U r (λo j=>⟨_,H,j,h⟩) g
def FA:e_:=λvs σ H Q=>vs=[]/\Q σ H
def sR(t:TG)(u:e_):e_:=λvs σ H Q=>∃v r,vs=v::r/\t v σ H λni H'=>u r ni H' Q
theorem yF:PGs X [] FA:=by intro J s U H g j Q I r h;obtain⟨e,h⟩:=h;subst e;cases r;exact assignInOrder_nil ⟨U,H,I,h⟩
theorem nI{t:TG}{u:e_}(h1:PG X e t)(h2:PGs X es u)
 (hs:(assignEach (e::es) X.env).map (·.2)=assign e X.env::(assignEach es X.env).map (·.2):=by rfl):PGs X (e::es) (sR t u):=by
 intro J s g H T us Q I r h;obtain⟨v,vr,j,h⟩:=h;subst j;cases r with
 |cons r rr=>
  rw[hs];refine assignInOrder_cons<|aY (h1 J s g H _ _ _ I r h) λ_ l ψ=>?_;obtain⟨U,o,p,C⟩:=ψ;exact h2 J l U o _ _ Q p rr C
def FC(K:Af)(n:Nat)(t:e_):TG:=λv σ H Q=>∃a xs,v=.ref a/\cx K H a xs/\xs.length=n/\t xs σ H Q
theorem G9{k:Nat}{t:e_}(hc:X.calm=true)(h:PGs X es t)
 (l:(assignEach es X.env).length=n:=by rfl) (U:(assignEach es X.env).findIdx? (·.1)=none:=by rfl):PG X (.Tuple es k pos) (FC X.K n t):=by
 intro J s g H v u Q I r hw;obtain⟨a,p,C,T,hl,hw⟩:=hw;subst C;cases r;obtain⟨a0,j,ht,hz⟩:=I.tuple T;refine assign_Tuple_tuple (I.ok.hd hc) ht (by simp[l,<-hl,j.length]) U λh' hx=>?_;have I1:z9 X J g H { s with heap:=h' }:=I.kept (t':=s.toks) λb o e=>hx b o (A9<|s9 e) e;exact h J _ g H p _ Q I1 (by simpa using j) hw
def Mo(to ti:TE)(t:Fz):TG:=λv σ H Q=>to σ H λo H1=>ti σ H1 λi H2=>t o i v H2 λI=>Q σ I
theorem Mp{i:Expr}{to ti:TE}{t:Fz}(l:PE X o to)(hi:PE X i ti)(hs:G8 X t)
 (p:∀v,assign (.Subscript o i pos) X.env v=(do
  let U <-holding [v] (eval o X.env)
  let g <-holding [v,U] (eval i X.env)
  standAt pos
  holding [v,U,g] (setItem U g v)
  release [v,U,g] []):=by intro _;rfl):PG X (.Subscript o i pos) (Mo to ti t):=by
 intro J s j H v u Q I r h;rw[p];refine Ab<|Ba<|ah (l J s j H _ I h) λU C x T I1 r1 q1=>?_;refine Ab<|Ba<|ah (hi J C j T _ I1 q1) λg s2 y H2 I2 r2 q2=>?_;refine Ab<|wpAny_standAt<|Ab<|Ba<|aY (hs J s2 j H2 x y v U g u _ I2 r1 r2 r q2) λ_ s3 ψ=>?_;obtain⟨H3,I3,q3⟩:=ψ;exact wpAny_release ⟨j,H3,I3,q3⟩
def FD(te:TE)(g:TG):TS:=λD σ H=>te σ H λx H1=>g x σ H1 D.nx
theorem G'{te:TE}{g:TG}(j:PE X e te)(l:PG X tg g)(hs:swapsWithSole [tg] e pos.line X.env=pure false:=by rfl)(hw:swappedStores [tg] e X.env=pure none:=by rfl)
 (h1:(assignEach [tg] X.env).map (·.2)=[assign tg X.env]:=by rfl):PS X (.Assign [tg] e pos) (FD te g):=by
 intro J s U H D I h;refine wpAny_Assign_stores (ah (j J s U H _ I h) λv o x p r t C=>?_) hs hw;rw[h1];exact aY (l J o U p x v _ r t C) λ_ T q=>q
theorem Mq{te:TE}(hN:X.N.Nodup)(hi:X.N[i]?=some x)(U:Loc X.env.scope x)(g:PE X e te)(hs:swapsWith e (some<|.Name x hQ) pos.line X.env=pure false:=by rfl)(j:X.fn x=true\/X.env.scope.names.lookup x=some .local:=by first|exact .inl rfl|exact .inr rfl|assumption):
 PS X (.Assign [.Name x hQ] e pos) (FD te<|eM i):=by
 intro J s l H D I h;refine wpAny_Assign_Name (ah (g J s l H _ I h) λv T y o p r t=>?_) hs;exact iG p hN hi U r (λs2 C=>⟨_,o,C,t⟩) j
def Mr(i j:Nat)(ta:TA):TS:=λD σ H=>ta σ H λvs H1=>∃v w,vs=[v,w]/\D.nx ((σ.set i<|some v).set j<|some w) H1
theorem Ms{y:Str}{a b:Expr}{ta:TA}{px py pt:Pos}{kt t U}(hc:X.calm=true)(hN:X.N.Nodup)(hi:X.N[i]?=some x)(hj:X.N[j]?=some y)(C:i≠j)
 (hx:X.env.scope.names.lookup x=some .local) (hy:X.env.scope.names.lookup y=some .local) (ha:PA X [a,b] ta)
 (hw:swappedStores [.Tuple [.Name x px,.Name y py] kt pt] (.Tuple [a,b] t U) X.env=pure (some [x,y]))
 (hs:swapsWithSole [.Tuple [.Name x px,.Name y py] kt pt] (.Tuple [a,b] t U) pos.line X.env=pure false:=by rfl):
 PS X (.Assign [.Tuple [.Name x px,.Name y py] kt pt] (.Tuple [a,b] t U) pos) (Mr i j ta):=by
 intro J s σ H D I h;rw[exec_Assign_arm];refine Ab<|wpAny_standAt ?_;rw[hs];refine Ab<|An ?_;rw[Az (by decide)];refine Ab<|Tuple_<|u8 (ha _ J s σ H _ I h) λus g vs H1 I1 r1 T=>?_;obtain⟨v,w,e1,T⟩:=T;subst e1;obtain⟨l,r,rfl,rv,a0⟩:∃l r,us=[l,r]/\zo v l/\zo w r:=by
  cases r1 with
  |cons p q=>
   cases q with
   |cons p' q'=>
    cases q';exact⟨_,_,rfl,p,p'⟩
 refine BY ?_ (by show 2<=sizeLine;decide);have I2:z9 X J σ H1 { g with heap:=g.heap.push { cls:=.type "tuple",data:=.seq [l,r].toArray } }:=I1.kept (t':=g.toks) λb o e=>sy _ e;rw[hw];refine Ab<|An ?_;show wpAny (model X.prog X.w) X.A (do rule "assign.swapped-stores";let items <-unpackItems (.ref g.heap.objs.size) 2 none;assignInOrder [λv=>bindName X.env y v,λv=>bindName X.env x v] items.reverse;pure Flow.next) _ _ _;refine Ab<|BZ<|Ab<|unpackItems_tuple (items:=#[l,r]) (I.ok.hd hc) (IsTup.new g.heap _) λh' a1=>?_;have I3:=I2.kept (h':=h') (t':=g.toks) λb o e=>a1 b o (A9<|s9 e) e;show wpAny _ _ (assignInOrder [λv=>bindName X.env y v,λv=>bindName X.env x v] [r,l] >>= λ_=>pure Flow.next) _ _ _;refine Ab<|assignInOrder_cons<|wpAny_bindName<|iG I3 hN hj (.inl hy) a0 (λs2 I4=>?_)<|.inr hy;refine assignInOrder_cons<|wpAny_bindName<|iG I4 hN hi (.inl hx) rv (λs3 I5=>assignInOrder_nil<|An ?_)<|.inr hx;rw[List.set_comm _ _<|A4 C] at I5;exact⟨_,H1,I5,T⟩
def Mt(c:TT)(tb:TS):TS:=λD σ H=>∃W:Nat->St->Hp->Prop,(∃m,W m σ H)/\∀m σ H,W m σ H->
 c σ H λb H1=>if b=true then ∃N:St->Hp->Prop,(∀ni H',N ni H'->∃I,I<m/\W I ni H')/\tb { D with nx:=N,ct:=N,bk:=D.nx } σ H1 else D.nx σ H1
theorem Mu{c:Expr}{tc:TT}{tb:TS}(hp:PassesOwn (model X.prog X.w) X.A X.env X.xe)(hc:PT X c tc)(hb:kW X body tb):PS X (.While c body [] pos) (Mt tc tb):=by
 intro J s σ H D I h;obtain⟨W,⟨m0,w0⟩,turn⟩:=h;refine wpAny_While<|codeAny_whileLoop (λn s'=>∃j H',z9 X J j H' s'/\W n j H') ?_ m0 ⟨σ,H,I,w0⟩;rintro n s1 ⟨g,H1,I1,w1⟩;refine wpAny_passesOwn hp<|aY (hc J s1 g H1 _ I1<|turn n g H1 w1) λb s2 ψ=>?_;obtain⟨H2,I2,o⟩:=ψ;cases b with
 |true=>
  obtain⟨N,hN,o⟩:=o;rw[AA rfl];refine wpAny_passesOwn hp<|aY (hb J s2 g H2 _ I2 o) λf s3 p=>?_;cases f with
  |next=>
   obtain⟨U,l,r,t⟩:=p;obtain⟨C,T,w3⟩:=hN U l t;exact⟨C,T,U,l,r,w3⟩
  |cont=>
   obtain⟨U,l,r,t⟩:=p;obtain⟨C,T,w3⟩:=hN U l t;exact⟨C,T,U,l,r,w3⟩
  |brk=>exact p
  |ret v=>exact p
 |false=>
  rw[Az AF];exact wpAny_execs_nil ⟨g,H2,I2,o⟩
structure It where
 go:Nat->Hp->Prop
 yld:Nat->Hp->V->Hp->Prop
 stop:Nat->Hp->Prop
def oJ(X:Cx)(pins:List<|Addr×Obj)(H:Hp)(b:Addr):Prop:=
 H b=none/\b≠X.env.locals/\b∉X.fs/\(b∈X.ex\/X.s₀.heap.objs.size<=b)/\(∀x c,X.env.cells.lookup x=some c->c≠b)/\∀p∈X.pn++pins,p.1≠b
theorem z9.fpOk{b:Addr}(I:z9 X pins σ H s)(J:s.heap.objs.size<=b)(U:H' b=none):oJ X pins H' b:=by
 refine⟨U,Dz<|AR I.lt J,I.nofs J,.inr<|AO I.sz J,λx c e z=>?_,λp g z=>?_⟩
 ·obtain⟨v,q⟩:=I.cell x c e;exact absurd (AR q.lt (by rw[z];exact J))<|CH _
 ·exact absurd (AR (s9 (I.pin p g).1) (by rw[z];exact J))<|CH _
structure v_(P:Vw)(w:Vx)(K:Af)(tg:Expr)(J:It)(fp:List Addr)(it:Addr)(tn:Nat->Vy->Prop):Prop where
 mem:it∈fp
 obj:∀i h,tn i h->∀b∈fp,∃o,h.get? b=some o/\∀v,o.data≠.cell v
 keep:∀i h h',tn i h->(∀b∈fp,∀o,h.get? b=some o->h'.get? b=some o)->tn i h'
 item:∀(X:Cx),X.prog=P->X.w=w->X.K=K->X.calm=true->∀(i:Nat) (pins:List<|Addr×Obj) (s:Vv) (σ:St) (H:Hp) (E:Ve),z9 X pins σ H s->(∀b∈fp,oJ X pins H b)->tn i s.heap->J.go i H->
  wpAny (model P w) X.A (pyNext<|.ref it) (λr s1=>∃u,r=some u/\
   wpAny (model P w) X.A (letOwnedTupleGo tg (.ref it) u) (λ_ s2=>∃x H',z9 X pins σ H' s2/\zo x u/\J.yld i H x H'/\tn (i+1) s2.heap/\∀b∈fp,H' b=none) E s1) E s
 done:∀(X:Cx),X.prog=P->X.w=w->X.K=K->X.calm=true->∀(i:Nat) (pins:List<|Addr×Obj) (s:Vv) (σ:St) (H:Hp) (E:Ve),z9 X pins σ H s->(∀b∈fp,oJ X pins H b)->tn i s.heap->J.stop i H->
  wpAny (model P w) X.A (pyNext<|.ref it) (λr s1=>r=none/\z9 X pins σ H s1) E s
 self:∀(A:Around) (i:Nat) (s:Vv) (Q:Ve) (E:Ve),tn i s.heap->Q (.ref it) s->wpAny (model P w) A (pyIter<|.ref it) Q E s
abbrev TI:=St->Hp->(It->Hp->Prop)->Prop
def FE(X:Cx)(pins:List<|Addr×Obj)(σ:St)(tg:Expr)(R:It->Hp->Prop)(I:Vu)(U:Vv):Prop:=
 ∃(it:Addr) (fp:List Addr) (g:Nat->Vy->Prop) (J:It) (H':Hp),I=.ref it/\z9 X pins σ H' U/\v_ X.prog X.w X.K tg J fp it g/\g 0 U.heap/\(∀b∈fp,oJ X pins H' b)/\R J H'
def PI(X:Cx)(tg iter:Expr)(wi:TI):Prop:=
 ∀(pins:List<|Addr×Obj) (s:Vv) (σ:St) (H:Hp) (R:It->Hp->Prop),z9 X pins σ H s->wi σ H R->
  wpAny (model X.prog X.w) X.A (eval iter X.env) (λv I=>wpAny (model X.prog X.w) X.A (pyIter v) (FE X pins σ tg R) X.xe I) X.xe s
theorem FF{o:Obj}{n:Vz}{vs:Vk}{Q:Vf}(J:s.heap.get? it=some o)(hc:o.cls=.type n)(hd:o.data=.fields vs)
 (U:["enumerate","zip","dict_itemiterator","dict_reverseitemiterator","odict_iterator","itertools.zip_longest","itertools.pairwise"].contains n=false) (I:Q () s):wpAny M A (letOwnedTupleGo tg (.ref it) u) Q E s:=by
 unfold letOwnedTupleGo;cases tg<;>first
  |exact An I
  |(cases u<;>first
   |exact An I
   |(refine Ab (wpAny_load J ?_)
     rw[hc,hd];show wpAny M A (if (["enumerate","zip","dict_itemiterator","dict_reverseitemiterator","odict_iterator","itertools.zip_longest","itertools.pairwise"].contains n&&vs[0]?==some (rawInt _))=true then _ else _) Q E s;rw[Az (by intro h;rw[U,Bool.false_and] at h;cases h)];exact An I))
def FH(K:Af)(a:Addr):It:=
 ⟨λi H=>∃xs x,aO K H a xs/\xs[i]?=some x,λi H x H'=>H'=H/\∀xs,aO K H a xs->xs[i]?=some x,λi H=>∃xs,aO K H a xs/\xs.length<=i⟩
def FI(K:Af)(a:Addr):It:=
 ⟨λi H=>∃xs x,cx K H a xs/\xs[i]?=some x,λi H x H'=>H'=H/\∀xs,cx K H a xs->xs[i]?=some x,λi H=>∃xs,cx K H a xs/\xs.length<=i⟩
def Eg(lo:Int)(n:Nat):It:=⟨λi _=>i<n,λi H x H'=>H'=H/\x=.int (lo+i),λi _=>n<=i⟩
theorem zZ{P:Vw}{w:Vx}{K:Af}(a it:Addr):v_ P w K tg (FH K a) [it] it (λi h=>h.IsListIter it a i) where
 mem:=by simp
 obj:=λi h st b U=>by
  have e:b=it:=by simpa using U
  subst e;obtain⟨o,e,c,d⟩:=st;exact⟨o,e,λv z=>by rw[d] at z;cases z⟩
 keep:=λi h j st k=>st.at λo e=>k it (by simp) o e
 item:=by intro X t hw C hc i J s σ H E I l st T;subst t hw C;obtain⟨xs,x,r,hx⟩:=T;obtain⟨a0,rv,p,hz⟩:=I.list r;obtain⟨u,hu,ru⟩:=rv.get hx;obtain⟨f0,f1,f2,f3,f4,f5⟩:=l it (by simp);refine wpAny_pyNext_list_item st p.isList (x:=u) (by simpa using hu) λj g sb=>?_;have I1:z9 X J σ H { s with heap:=j }:=I.turned (t':=s.toks) (λb o U e=>(sb.2 b U).trans e) f0 f1 f3 f4 f5;obtain⟨o,e,c,d⟩:=id g;exact⟨u,rfl,FF (s:={ s with heap:=j }) e c d (by decide) ⟨x,H,I1,ru,⟨rfl,λys hy=>by rw[I.list_inj hy r];exact hx⟩,g,λb U=>(l b U).1⟩⟩
 done:=by intro X t hw C hc i J s σ H E I l st T;subst t hw C;obtain⟨xs,r,hx⟩:=T;obtain⟨a0,rv,p,hz⟩:=I.list r;obtain⟨f0,f1,f2,f3,f4,f5⟩:=l it (by simp);have hl:=rv.length;exact wpAny_pyNext_list_end (I.ok.hd hc) st p.isList (by simp;lia) λj eb=>⟨rfl,I.turned (t':=s.toks) (λb o U e=>eb b o U e) f0 f1 f3 f4 f5⟩
 self:=λ_ _ _ _ _ st h=>wpAny_pyIter_listiter st h
theorem vV{P:Vw}{w:Vx}{K:Af}(a it:Addr):v_ P w K tg (FI K a) [it] it (λi h=>h.IsTupleIter it a i) where
 mem:=by simp
 obj:=λi h st b U=>by
  have e:b=it:=by simpa using U
  subst e;obtain⟨o,e,c,d⟩:=st;exact⟨o,e,λv z=>by rw[d] at z;cases z⟩
 keep:=λi h l st k=>st.at λo e=>k it (by simp) o e
 item:=by intro X C hw T hc i J s σ H E I r st hg;subst C hw T;obtain⟨xs,x,t,hx⟩:=hg;obtain⟨g,rv,p,hz⟩:=I.tuple t;obtain⟨u,hu,ru⟩:=rv.get hx;obtain⟨f0,f1,f2,f3,f4,f5⟩:=r it (by simp);refine wpAny_pyNext_tuple_item st (show s.heap.IsTuple a g.toArray from p) (x:=u) (by simpa using hu) λl j sb=>?_;have I1:z9 X J σ H { s with heap:=l }:=I.turned (t':=s.toks) (λb o U e=>(sb.2 b U).trans e) f0 f1 f3 f4 f5;obtain⟨o,e,c,d⟩:=id j;exact⟨u,rfl,FF (s:={ s with heap:=l }) e c d (by decide) ⟨x,H,I1,ru,⟨rfl,λys hy=>by rw[I.tuple_inj hy t];exact hx⟩,j,λb U=>(r b U).1⟩⟩
 done:=by intro X C hw T hc i J s σ H E I r st hg;subst C hw T;obtain⟨xs,t,hx⟩:=hg;obtain⟨g,rv,p,hz⟩:=I.tuple t;obtain⟨f0,f1,f2,f3,f4,f5⟩:=r it (by simp);have hl:=rv.length;exact wpAny_pyNext_tuple_end (I.ok.hd hc) st (show s.heap.IsTuple a g.toArray from p) (by simp;lia) λl eb=>⟨rfl,I.turned (t':=s.toks) (λb o U e=>eb b o U e) f0 f1 f3 f4 f5⟩
 self:=λ_ _ _ _ _ st h=>wpAny_pyIter_tupleiter st h
theorem vQ{P:Vw}{w:Vx}{K:Af}(it:Addr)(lo:Int)(n:Nat):v_ P w K tg (Eg lo n) [it] it (λi h=>IsRangeIter h it (lo+(i:Nat)*1) ((n:Int)-(i:Nat)) 1) where
 mem:=by simp
 obj:=λi h st b U=>by
  have e:b=it:=by simpa using U
  subst e;exact⟨_,st,λv z=>by have z':Data.fields _=Data.cell v:=z;cases z'⟩
 keep:=λi h j st k=>k it (by simp) _ st
 item:=by intro X p hw r C i J s σ H E I l st T;subst p hw r;obtain⟨f0,f1,f2,f3,f4,f5⟩:=l it (by simp);have W:=Walks.range (prog:=X.prog) (w:=X.w) (I.ok.hd C) it lo 1 n;refine xn I.tk<|W.item i s _ _ T st λv j tk hv g kk ht=>?_;obtain⟨t,rfl⟩:=hv;have I1:z9 X J σ H { s with heap:=j,toks:=tk }:=I.turned (λb o U e=>kk b o (by simpa using U) e) f0 f1 f3 f4 f5;refine⟨_,rfl,FF (s:={ s with heap:=j,toks:=tk }) (n:="range_iterator") g rfl rfl (by decide) ⟨.int<|lo+i,H,I1,⟨t,?_⟩,⟨rfl,rfl⟩,g,λb U=>(l b U).1⟩⟩;rw[Int.mul_one]
 done:=by intro X p hw r C i J s σ H E I l st T;subst p hw r;obtain⟨f0,f1,f2,f3,f4,f5⟩:=l it (by simp);exact wpAny_pyNext_range_end (I.ok.hd C) st (by have:n<=i:=T;lia) λj eb=>⟨rfl,I.turned (t':=s.toks) (λb o U e=>eb b o U e) f0 f1 f3 f4 f5⟩
 self:=λ_ _ _ _ _ st h=>wpAny_pyIter_rangeiter st h
end L2
variable {wi:L2.TI}
namespace L2
open PySem PySem.Spec PyProof.Rows
def Mv(K:Af)(tl:TE):TI:=λσ H R=>tl σ H λx H1=>∃a,x=.ref a/\(∃xs,aO K H1 a xs)/\R (FH K a) H1
def Mw(K:Af)(tl:TE):TI:=λσ H R=>tl σ H λx H1=>∃a,x=.ref a/\(∃xs,cx K H1 a xs)/\R (FI K a) H1
theorem Mx{l:Expr}{tl:TE}(j:PE X l tl):PI X tg l (Mv X.K tl):=by
 intro J s r H R I h;refine ah (j J s r H _ I h) λv U x t g C T=>?_;obtain⟨a,e,⟨xs,hq⟩,q⟩:=T;subst e;cases C;obtain⟨a0,rv,p,hz⟩:=g.list hq;refine wpAny_pyIter_list p.isList ?_;refine⟨U.heap.objs.size,[U.heap.objs.size],_,_,t,rfl,g.kept (t':=U.toks) λb o e=>sy _ e,zZ a _,⟨_,vb _ rfl,rfl,rfl⟩,λb hb=>?_,q⟩;have e:b=U.heap.objs.size:=by simpa using hb
 subst e;exact g.fpOk (Al _)<|g.hok.fresh<|Al _
theorem My{l:Expr}{tl:TE}(r:PE X l tl):PI X tg l (Mw X.K tl):=by
 intro J s t H R I h;refine ah (r J s t H _ I h) λv U x C g T q1=>?_;obtain⟨a,e,⟨xs,hq⟩,q⟩:=q1;subst e;cases T;obtain⟨j,rv,p,hz⟩:=g.tuple hq;refine wpAny_pyIter_tuple (show U.heap.IsTuple a j.toArray from p) ?_;refine⟨U.heap.objs.size,[U.heap.objs.size],_,_,C,rfl,g.kept (t':=U.toks) λb o e=>sy _ e,vV a _,⟨_,vb _ rfl,rfl,rfl⟩,λb hb=>?_,q⟩;have e:b=U.heap.objs.size:=by simpa using hb
 subst e;exact g.fpOk (Al _)<|g.hok.fresh<|Al _
theorem Mz{R:It->Hp->Prop}{hi:Int}{t u v:Tok}{tk:Nat}(I:z9 X pins σ H s)(h1 : -(2 ^ 62)<=lo)(h2:lo<2 ^ 62)(U : -(2 ^ 62)<=hi)(g:hi<2 ^ 62)
 (q:R (Eg lo (hi-lo).toNat) H) (r:0<tk:=by walk_at "t"):wpAny (model X.prog X.w) X.A (pyIter<|.ref s.heap.objs.size) (FE X pins σ tg R) E { s with heap:=s.heap.push { cls:=.type "range",data:=.fields #[.int lo t,.int hi u,.int 1 v] },toks:=tk }:=by
 refine wpAny_pyIter_range (IsRange.new ..) (small_one h1 h2 U g) ?_;have J:z9 X pins σ H { s with heap:=s.heap.push { cls:=.type "range",data:=.fields #[.int lo t,.int hi u,.int 1 v] },toks:=tk }:=I.kept λb o e=>sy _ e;refine⟨(s.heap.push { cls:=.type "range",data:=.fields #[.int lo t,.int hi u,.int 1 v] }).objs.size,[(s.heap.push { cls:=.type "range",data:=.fields #[.int lo t,.int hi u,.int 1 v] }).objs.size],_,_,H,rfl,
  J.kept (t':=tk) λb o e=>sy _ e,vQ _ lo (hi-lo).toNat,?_,λb j=>?_,q⟩
 ·have l:lo+((0:Nat):Int)*1=lo:=by simp
  have p:(((hi-lo).toNat:Nat):Int)-((0:Nat):Int)=Builtin.Range.rangeSize lo hi 1:=by rw[rangeSize_one];split<;>lia
  show IsRangeIter _ _ (lo+((0:Nat):Int)*1) ((((hi-lo).toNat:Nat):Int)-((0:Nat):Int)) 1;rw[l,p];exact vb _ rfl
 ·have e:b=(s.heap.push { cls:=.type "range",data:=.fields #[.int lo t,.int hi u,.int 1 v] }).objs.size:=by simpa using j
  subst e;exact J.fpOk (Al _)<|J.hok.fresh<|Al _
def MA(ta:TA):TI:=λσ H R=>ta σ H λvs H1=>∃j:Int,vs=[.int j] /\ -(2 ^ 62)<=j/\j<2 ^ 62/\R (Eg 0 j.toNat) H1
theorem MB{a:Expr}{ta:TA}{p:Pos}(g:Gl X "range")(l:X.mg "range"=none)(o:PA X [a] ta)(hs:starEach [a] X.env=[(false,eval a X.env)]:=by rfl):PI X tg (.Call (.Name "range" p) [a] [] pos) (MA ta):=by
 intro J s C H R I h;refine Call_<|gL I g l boot_range<|CM (u8 (o pos J s C H _ I h) λus s1 vs H1 T r1 U=>?_) hs rfl;obtain⟨j,e,U,q2,q⟩:=U;subst e;cases r1 with
 |cons r rr=>
  cases rr;obtain⟨t,rfl⟩:=r;exact call_range_1<|Mz T (by lia) (by lia) U q2 (by simpa using q)
def MC(wi:TI)(g:TG)(tb:TS):TS:=λD σ H=>wi σ H λJ H1=>∃W:Nat->Nat->St->Hp->Prop,(∃m,W 0 m σ H1)/\∀i m σ H,W i m σ H->
 (J.stop i H/\D.nx σ H)\/(J.go i H/\∃N:St->Hp->Prop,(∀ni H',N ni H'->∃U,U<m/\W (i+1) U ni H')/\∀x H',J.yld i H x H'->g x σ H' λI H2=>tb { D with nx:=N,ct:=N,bk:=D.nx } I H2)
def lv(fp:List Addr)(h:Vy):List (Addr×Obj):=fp.filterMap λb=>(h.get? b).map λo=>(b,o)
theorem dP{b:Addr}{o:Obj}(I:b∈fp)(e:h.get? b=some o):(b,o)∈lv fp h:=CB.mpr ⟨b,I,by rw[e];rfl⟩
theorem zX{p:Addr×Obj}(hp:p∈lv fp h):p.1∈fp/\h.get? p.1=some p.2:=by
 obtain⟨b,I,e⟩:=CB.mp hp;cases q:h.get? b with
 |none=>rw[q] at e;cases e
 |some o=>
  rw[q] at e;have J:(b,o)=p:=AS e;subst J;exact⟨I,q⟩
theorem z9.pinned(I:z9 X pins σ H s)(g:∀b∈fp,oJ X pins H b)(j:∀b∈fp,∃o,s.heap.get? b=some o/\∀v,o.data≠.cell v):z9 X (pins++lv fp s.heap) σ H s:=
 I.pins_of λp l=>(Aj.mp l).elim (λz=>I.pin p<|Ah _ z) λz=>by obtain⟨J,e⟩:=zX z;obtain⟨r,f1,f2,_⟩:=g p.1 J;obtain⟨o,U,d⟩:=j p.1 J;rw[e] at U;cases U;exact⟨e,r,f1,f2,d⟩
theorem z9.unpinned{pl:List<|Addr×Obj}(I:z9 X (pins++pl) σ H s):z9 X pins σ H s:=I.pins_of λp J=>I.pin p<|Ah _<|Ap _ J
theorem MD{g:TG}{tb:TS}(hp:PassesOwn (model X.prog X.w) X.A X.env X.xe)(hc:X.calm=true)(hi:PI X tg iter wi)(hg:PG X tg g)(l:kW X body tb)
 (hs:∀x,foldedSetIterable iter X.env x=pure x:=by intro _;rfl):PS X (.For tg iter body [] pos) (MC wi g tb):=by
 intro U s σ H D I h;refine wpAny_For (aY (hi U s σ H _ I h) λv s1 h1=>aY h1 λa7 s2 h2=>?_) hs;obtain⟨it,fp,tn,J,H2,e,I2,T,a2,f2,W,⟨m0,w0⟩,turn⟩:=h2;subst e;have p:∀{H':Hp},(∀b∈fp,H' b=none)->∀b∈fp,oJ X U H' b:=λhn b l=>⟨hn b l,(f2 b l).2⟩;refine codeAny_forLoop_any (λn s'=>∃i t H',z9 X U t H' s'/\tn i s'.heap/\(∀b∈fp,H' b=none)/\W i n t H') ?_ m0 ⟨0,σ,H2,I2,a2,λb l=>(f2 b l).1,w0⟩;rintro n s3 ⟨i,C,H3,I3,a0,a1,w3⟩;rcases turn i n C H3 w3 with⟨stop,qn⟩|⟨go,N,hN,step⟩
 ·refine wpAny_passesOwn hp<|aY (T.done X rfl rfl rfl hc i U s3 C H3 X.xe I3 (p a1) a0 stop) λr s4 ψ=>?_;obtain⟨hr,I4⟩:=ψ;subst hr;exact wpAny_execs_nil ⟨C,H3,I4,qn⟩
 ·refine wpAny_passesOwn hp<|aY (T.item X rfl rfl rfl hc i U s3 C H3 X.xe I3 (p a1) a0 go) λr s4 ψ=>?_;obtain⟨u,hr,h4⟩:=ψ;subst hr;refine wpAny_passesOwn hp<|aY h4 λ_ s5 ψ=>?_;obtain⟨x,H5,I5,r5,y5,k_,a3⟩:=ψ;have a4:=I5.pinned (p a3)<|T.obj _ _ k_;refine wpAny_passesOwn hp<|aY (hg _ s5 C H5 x u _ a4 r5<|step x H5 y5) λ_ s6 ψ=>?_;obtain⟨a5,H6,I6,q6⟩:=ψ;refine wpAny_passesOwn hp<|aY (l _ s6 a5 H6 _ I6 q6) λf s7 q7=>?_;have again:∀{j:St} {H7:Hp},z9 X (U++lv fp s5.heap) j H7 s7->N j H7->∃m,m<n/\∃i t H',z9 X U t H' s7/\tn i s7.heap/\(∀b∈fp,H' b=none)/\W i m t H':=λ{j H7} I7 n7=>by obtain⟨m',hm,w7⟩:=hN j H7 n7;refine⟨m',hm,i+1,j,H7,I7.unpinned,T.keep _ _ _ k_ λb l o e=>(I7.pin (b,o)<|Ah _<|Ah _<|dP l e).1,λb l=>?_,w7⟩;obtain⟨o,e,d⟩:=T.obj _ _ k_ b l;exact(I7.pin (b,o)<|Ah _<|Ah _<|dP l e).2.1
  cases f with
  |next=>obtain⟨j,H7,I7,n7⟩:=q7;exact again I7 n7
  |cont=>obtain⟨j,H7,I7,n7⟩:=q7;exact again I7 n7
  |brk=>obtain⟨j,H7,I7,q7⟩:=q7;exact⟨j,H7,I7.unpinned,q7⟩
  |ret v=>obtain⟨x7,j,H7,I7,r7,q7⟩:=q7;exact⟨x7,j,H7,I7.unpinned,r7,q7⟩
abbrev R2:=V->V->Hp->VK->Prop
def aD(X:Cx)(f:Vu->Vu->Sem Vu)(r:R2):Prop:=
 ∀(pins:List<|Addr×Obj) (s:Vv) (σ:St) (H:Hp) (x y:V) (v u:Vu) (Q:VK),z9 X pins σ H s->zo x v->zo y u->r x y H Q->
  wpAny (model X.prog X.w) X.A (f v u) (EP X pins σ Q) X.xe s
def xb(X:Cx)(f:Vu)(r:VA->Hp->VK->Prop):Prop:=
 ∀(pins:List<|Addr×Obj) (s:Vv) (σ:St) (H:Hp) (xs:VA) (us:Vj) (Q:VK),z9 X pins σ H s->zn xs us->r xs H Q->
  wpAny (model X.prog X.w) X.A (call f us) (EP X pins σ Q) X.xe s
def Ej(r:R2)(ta tb:TE):TE:=λσ H Q=>ta σ H λx H1=>tb σ H1 λy H2=>r x y H2 Q
def rI(C:Int->Int->Prop)(g:Int->Int->V):R2:=λx y H Q=>∃i j,x=.int i/\y=.int j/\C i j/\Q (g i j) H
def s_(g:Int->Int->V):R2:=λx y H Q=>∃i j,x=.int i/\y=.int j/\Q (g i j) H
section
variable {a b c:Expr}{ta tb tc:TE}
theorem FJ(j:PE X a ta)(l:PE X b tb){R:V->V->Hp->Prop}(I:z9 X pins σ H s)
 (h:ta σ H λx H1=>tb σ H1 λy H2=>R x y H2) {f:Vu->Vu->Sem Vu}
 (o:∀v u g x y H2,z9 X pins σ H2 g->zo x v->zo y u->R x y H2->wpAny (model X.prog X.w) X.A (f v u) Q X.xe g):
 wpAny (model X.prog X.w) X.A (eval a X.env) (λv J=>wpAny (model X.prog X.w) X.A (eval b X.env) (λu U=>wpAny (model X.prog X.w) X.A (f v u) Q X.xe U) X.xe J) X.xe s:=by
 refine ah (j pins s σ H _ I h) λv p x H1 r t C=>?_;refine ah (l pins p σ H1 _ r C) λu g y H2 T r2 q2=>?_;exact o v u g x y H2 T t r2 q2
theorem ME{op:Operator}{r:R2}(U:aD X (binaryOp op) r)(g:PE X a ta)(j:PE X b tb):PE X (.BinOp a op b pos) (Ej r ta tb):=by intro J s l H Q I h;exact wpAny_BinOp<|FJ g j I h λv u o x y p t C T q=>U J o l p x y v u Q t C T q
theorem FK{f:Vu->Vu->Sem Vu}{C:Int->Int->Prop}{g:Int->Int->Int}
 (rule:∀(i j:Int) (t u:Tok) (s:Vv) (Q:Ve) (E:Ve),C i j->Q (.int (g i j) s.toks) { s with toks:=s.toks+1 }->wpAny (model X.prog X.w) X.A (f (.int i t)<|.int j u) Q E s):
 aD X f (rI C λi j=>.int<|g i j):=by
 intro J s r H x y v u Q I U l h;obtain⟨i,j,rfl,rfl,o,q⟩:=h;obtain⟨t,rfl⟩:=U;obtain⟨p,rfl⟩:=l;exact rule i j t p s _ _ o ⟨.int<|g i j,H,I.tok _,⟨_,rfl⟩,q⟩
theorem Ha{f:Vu->Vu->Sem Vu}{g:Int->Int->Int}
 (rule:∀(i j:Int) (t u:Tok) (s:Vv) (Q:Ve) (E:Ve),Q (.int (g i j) s.toks) { s with toks:=s.toks+1 }->wpAny (model X.prog X.w) X.A (f (.int i t)<|.int j u) Q E s):
 aD X f (s_ λi j=>.int<|g i j):=by
 intro J s p H x y v u Q I U l h;obtain⟨i,j,rfl,rfl,q⟩:=h;obtain⟨t,rfl⟩:=U;obtain⟨o,rfl⟩:=l;exact rule i j t o s _ _ ⟨.int<|g i j,H,I.tok _,⟨_,rfl⟩,q⟩
theorem Hb{f:Vu->Vu->Sem Vu}{g:Int->Int->Bool}
 (rule:∀(i j:Int) (t u:Tok) (s:Vv) (Q:Ve) (E:Ve),Q (.bool<|g i j) s->wpAny (model X.prog X.w) X.A (f (.int i t)<|.int j u) Q E s):
 aD X f (s_ λi j=>.bl<|g i j):=by
 intro J s p H x y v u Q I U l h;obtain⟨i,j,rfl,rfl,q⟩:=h;obtain⟨t,rfl⟩:=U;obtain⟨o,rfl⟩:=l;exact rule i j t o s _ _ ⟨.bl<|g i j,H,I,rfl,q⟩
def FM(i j:Int):Prop:=0<j/\j<1073741824
def afz(i j:Int):Prop:=(-(2 ^ 64)<i/\i<2 ^ 64)\/(-(2 ^ 64)<j/\j<2 ^ 64)
theorem afz.ok{i j:Int}(h:afz i j):IntMulOk i j:=by
 rcases h with⟨I,J⟩|⟨I,J⟩
 ·exact .of_left<|intBits_le_64 I J
 ·exact .of_right<|intBits_le_64 I J
theorem MF:aD X (binaryOp .Add) (s_ λi j=>.int<|i+j):=Ha λ_ _ _ _ _ _ _ q=>add_int q
theorem MG:aD X (binaryOp .Sub) (s_ λi j=>.int<|i-j):=Ha λ_ _ _ _ _ _ _ q=>sub_int q
theorem MJ:aD X (binaryOp .Mult) (rI afz λi j=>.int<|i*j):=FK λ_ _ _ _ _ _ _ I q=>mul_int q I.ok
theorem MK:aD X (binaryOp .FloorDiv) (rI FM λi j=>.int<|i / j):=FK λi j _ _ _ _ _ I q=>by have J:(0:Int)<j:=I.1;have U:j<1073741824:=I.2;exact floordiv_int (by lia) (by rw[Int.fdiv_eq_ediv_of_nonneg i (by lia)];exact q)<|.inl<|PyProof.noPylong_small (by lia)
theorem MN:aD X (binaryOp .Mod) (rI (λ_ j=>0<j) λi j=>.int<|i % j):=FK λi j _ _ _ _ _ I q=>by have J:(0:Int)<j:=I;exact mod_int' (by lia) (by rw[Int.fmod_eq_emod_of_nonneg i (by lia)];exact q)
end
def Fg:V->V->Bool
 |.non,.non=>true|.non,.int _=>true|.int _,.non=>true|.non,.bl _=>true|.bl _,.non=>true|.non,.str _=>true|.str _,.non=>true
 |.int _,.int _=>true|.bl _,.bl _=>true|.str _,.str _=>true|.byt _,.byt _=>true
 |.int _,.str _=>true|.str _,.int _=>true|.bl _,.str _=>true|.str _,.bl _=>true
 |_,_=>false
def MO:R2:=λx y H Q=>Fg x y=true/\Q (.bl<|decide<|x=y) H
def MQ:R2:=λx y H Q=>Fg x y=true/\Q (.bl<|!decide (x=y)) H
theorem yb{i j:Int}:decide (V.int i=V.int j)=(i==j):=by rw[Bz];simp
theorem Hc{i j:Bool}:decide (V.bl i=V.bl j)=(i==j):=by rw[Bz];simp
theorem yK{i j:Str}:decide (V.str i=V.str j)=(i==j):=by rw[Bz];simp
theorem xV{i j:Array UInt8}:decide (V.byt i=V.byt j)=(i.toList==j.toList):=by rw[Bz];cases i;cases j;simp
section
variable {a b c:Expr}{ta tb tc:TE}
theorem jm{Q:VK}{k J:Bool}(I:z9 X pins σ H s)(q:Q (.bl k) H)(e:k=J):EP X pins σ Q (.bool J) s:=by subst e;exact⟨.bl k,H,I,rfl,q⟩
theorem Hd:aD X (compareOp .Eq) MO:=by
 intro o s p H x y v u Q I l J h;obtain⟨g,q⟩:=h;cases x with
 |non=>
  cases l;cases y with
  |non=>cases J;exact PySem.EqNone.eq_none_none<|jm I q (by simp)
  |bl j=>cases J;exact PySem.EqNone.eq_none_bool<|jm I q (by simp)
  |int j=>obtain⟨U,rfl⟩:=J;exact PySem.EqNone.eq_none_int<|jm I q (by simp)
  |str j=>obtain⟨U,rfl⟩:=J;exact PySem.EqNone.eq_none_str<|jm I q (by simp)
  |_=>exact absurd (show false=true from g) AF
 |bl i=>
  cases l;cases y with
  |non=>cases J;exact PySem.EqNone.eq_bool_none<|jm I q (by simp)
  |bl j=>cases J;exact eq_bool<|jm I q Hc
  |str j=>obtain⟨U,rfl⟩:=J;exact PySem.EqMixed.eq_bool_str<|jm I q (by simp)
  |_=>exact absurd (show false=true from g) AF
 |int i=>
  obtain⟨t,rfl⟩:=l;cases y with
  |non=>cases J;exact PySem.EqNone.eq_int_none<|jm I q (by simp)
  |int j=>obtain⟨U,rfl⟩:=J;exact eq_int<|jm I q yb
  |str j=>obtain⟨U,rfl⟩:=J;exact PySem.EqMixed.eq_int_str<|jm I q (by simp)
  |_=>exact absurd (show false=true from g) AF
 |str i=>
  obtain⟨t,rfl⟩:=l;cases y with
  |non=>cases J;exact PySem.EqNone.eq_str_none<|jm I q (by simp)
  |bl j=>cases J;exact PySem.EqMixed.eq_str_bool<|jm I q (by simp)
  |int j=>obtain⟨U,rfl⟩:=J;exact PySem.EqMixed.eq_str_int<|jm I q (by simp)
  |str j=>obtain⟨U,rfl⟩:=J;exact eq_str<|jm I q yK
  |_=>exact absurd (show false=true from g) AF
 |byt i=>
  obtain⟨t,rfl⟩:=l;cases y with
  |byt j=>obtain⟨U,rfl⟩:=J;exact PySem.W.eq_bytes<|jm I q xV
  |_=>exact absurd (show false=true from g) AF
 |_=>cases y<;>exact absurd (show false=true from g) AF
theorem He:aD X (compareOp .NotEq) MQ:=by
 intro o s p H x y v u Q I l J h;obtain⟨g,q⟩:=h;cases x with
 |non=>
  cases l;cases y with
  |non=>cases J;exact PySem.EqNone.ne_none_none<|jm I q (by simp)
  |bl j=>cases J;exact PySem.EqNone.ne_none_bool<|jm I q (by simp)
  |int j=>obtain⟨U,rfl⟩:=J;exact PySem.EqNone.ne_none_int<|jm I q (by simp)
  |str j=>obtain⟨U,rfl⟩:=J;exact PySem.EqNone.ne_none_str<|jm I q (by simp)
  |_=>exact absurd (show false=true from g) AF
 |bl i=>
  cases l;cases y with
  |non=>cases J;exact PySem.EqNone.ne_bool_none<|jm I q (by simp)
  |bl j=>cases J;exact ne_bool<|jm I q<|BO not Hc
  |str j=>obtain⟨U,rfl⟩:=J;exact PySem.EqMixed.ne_bool_str<|jm I q (by simp)
  |_=>exact absurd (show false=true from g) AF
 |int i=>
  obtain⟨t,rfl⟩:=l;cases y with
  |non=>cases J;exact PySem.EqNone.ne_int_none<|jm I q (by simp)
  |int j=>obtain⟨U,rfl⟩:=J;exact ne_int<|jm I q<|BO not yb
  |str j=>obtain⟨U,rfl⟩:=J;exact PySem.EqMixed.ne_int_str<|jm I q (by simp)
  |_=>exact absurd (show false=true from g) AF
 |str i=>
  obtain⟨t,rfl⟩:=l;cases y with
  |non=>cases J;exact PySem.EqNone.ne_str_none<|jm I q (by simp)
  |bl j=>cases J;exact PySem.EqMixed.ne_str_bool<|jm I q (by simp)
  |int j=>obtain⟨U,rfl⟩:=J;exact PySem.EqMixed.ne_str_int<|jm I q (by simp)
  |str j=>obtain⟨U,rfl⟩:=J;exact ne_str<|jm I q<|BO not yK
  |_=>exact absurd (show false=true from g) AF
 |byt i=>
  obtain⟨t,rfl⟩:=l;cases y with
  |byt j=>obtain⟨U,rfl⟩:=J;exact PySem.W.ne_bytes<|jm I q<|BO not xV
  |_=>exact absurd (show false=true from g) AF
 |_=>cases y<;>exact absurd (show false=true from g) AF
theorem MT:aD X (compareOp .Lt) (s_ λi j=>.bl<|decide<|i<j):=Hb λ_ _ _ _ _ _ _ q=>lt_int q
theorem MU:aD X (compareOp .Gt) (s_ λi j=>.bl<|decide<|j<i):=Hb λ_ _ _ _ _ _ _ q=>gt_int q
theorem wo(b:Expr){op:CmpOp}(h:op≠.In:=by decide)(h2:op≠.NotIn:=by decide):behindInMarks op b=false:=by
 have I:(op==CmpOp.In)=false:=by cases op<;>first|rfl|exact absurd rfl h
 have J:(op==CmpOp.NotIn)=false:=by cases op<;>first|rfl|exact absurd rfl h2
 cases b<;>simp[behindInMarks,I,J]
theorem MV{op:CmpOp}{r:R2}(U:aD X (compareOp op) r)(g:PE X a ta)(j:PE X b tb)(l:behindInMarks op b=false):PE X (.Compare a [op] [b] pos) (Ej r ta tb):=by intro J s o H Q I h;exact wpAny_Compare1 (FJ g j I h λv u p x y t C T ry q=>U J p o t x y v u Q C T ry q) l
def Hf(t:TE):TT:=λσ H Q=>t σ H λx H'=>∃k,x=.bl k/\Q k H'
theorem MW{op:CmpOp}{r:R2}(g:aD X (compareOp op) r)(j:PE X a ta)(l:PE X b tb)(o:behindInMarks op b=false):PT X (.Compare a [op] [b] pos) (Hf<|Ej r ta tb):=by
 intro J s U H Q I h;refine wpAny_isTrue_Compare1 (ah (j J s U H _ I h) λv p x t C T q1=>ah (l J p U t _ C q1) λu s2 y H2 I2 r2 q2=>
  aY (g J s2 U H2 x y v u _ I2 T r2 q2) λc s3 ⟨z,H3,I3,r3,k,e,q3⟩=>?_) o
 subst e;cases r3;exact wpAny_truthy_bool ⟨H3,I3,q3⟩
theorem jC:(sizeLine:Nat)<2 ^ 63:=by rw[sizeLine_eq];decide
theorem wC:aD X (binaryOp .Add) (λx y H Q=>∃i j,x=.str i/\y=.str j/\i.length+j.length<=sizeLine/\Q (.str<|i++j) H):=by intro J s p H x y v u Q I U g h;obtain⟨i,j,rfl,rfl,l,q⟩:=h;obtain⟨t,rfl⟩:=U;obtain⟨o,rfl⟩:=g;exact xn I.tk<|add_str (λo r C=>⟨.str<|i++j,H,I.tok _,⟨_,rfl⟩,q⟩) l
theorem sW{x:V}(r:zn [x] us):∃u,us=[u]/\zo x u:=by cases r with|cons I J=>cases J;exact⟨_,rfl,I⟩
theorem Hg{x y:V}(r:zn [x,y] us):∃u I,us=[u,I]/\zo x u/\zo y I:=by
 cases r with
 |cons J U=>
  cases U with|cons g j=>cases j;exact⟨_,_,rfl,J,g⟩
theorem yq(hc:X.calm=true):xb X (.builtin "max") (λxs H Q=>∃i j,xs=[.int i,.int j]/\Q (.int<|if j > i then j else i) H):=by
 intro U s g H xs l Q I r h;obtain⟨i,j,rfl,q⟩:=h;obtain⟨u,o,rfl,⟨t,rfl⟩,⟨p,rfl⟩⟩:=Hg r;refine xn I.tk<|max_two_ints (I.ok.hd hc) λC T k ht=>⟨_,H,I.kept k,?_,q⟩;by_cases J:j > i
 ·rw[AA J,AA J];exact⟨_,rfl⟩
 ·rw[Az J,Az J];exact⟨_,rfl⟩
theorem zE(hc:X.calm=true):xb X (.builtin "min") (λxs H Q=>∃i j,xs=[.int i,.int j]/\Q (.int<|if j<i then j else i) H):=by
 intro U s g H xs l Q I r h;obtain⟨i,j,rfl,q⟩:=h;obtain⟨u,o,rfl,⟨t,rfl⟩,⟨p,rfl⟩⟩:=Hg r;refine xn I.tk<|min_two_ints (I.ok.hd hc) λC T k ht=>⟨_,H,I.kept k,?_,q⟩;by_cases J:j<i
 ·rw[AA J,AA J];exact⟨_,rfl⟩
 ·rw[Az J,Az J];exact⟨_,rfl⟩
end
structure ux(h:Vy)(x dx C:Addr)(mA:Vg):Prop where
 obj:h.get? x=some (PySem.W.instObj C dx)
 ns:h.Ns1 dx mA
 ne:dx≠x
theorem MX(n:h.Ns1 dx mA):∃od,h.get? dx=some od/\∀name,PySem.W.lookIn name od=some (mA name):=by
 obtain⟨o,J,r,U,hd,g,_,j⟩:=n;refine⟨o,U,λname=>?_⟩;have e:=j name;unfold nsFind findBy at e;rw[<-Array.find?_toList] at e;unfold PySem.W.lookIn;rw[hd];dsimp only;split
 ·rename_i y q;rw[q] at e;exact BO some e
 ·rename_i q;rw[q] at e;have a:J.toList.any (·.refKey)=false:=by rw[List.any_eq_false];intro y l;obtain⟨z,t,I⟩:=g y<|Array.mem_toList_iff.mp l;simp[DictEntry.refKey,I]
  have p:¬J.toList.any (·.refKey)=true:=by rw[a];exact AF
  rw[Az p];exact BO some e
theorem ux.look{x:Addr}(I:ux h x dx C mA):∃od,PySem.W.InstAt h x (PySem.W.instObj C dx) C (some od)/\∀name,PySem.W.lookIn name od=some (mA name):=
 let ⟨od,J,U⟩:=MX I.ns
 ⟨od,⟨I.obj,rfl,rfl,J⟩,U⟩
section
variable {w:Vx}{K:Af}{x:Addr}
theorem MY{expr:Bool}(X:K.In s.heap)(I:ux s.heap x dx C mA)(g:PySem.W.plainGet K C name=true)(j:PySem.W.hasDictIn K C=true)
 (l:PySem.W.findIn K (.ref C) name=some none) (o:mA name=some v) (U:PySem.W.handedIn v=true) (h:Q v { s with toks:=s.toks+1 }):
 wpAny (model prog w) A (getAttr (.ref x) name expr) Q E s:=by
 obtain⟨r,J,p⟩:=I.look;exact PySem.W.get_value X J (Dx g).1 (PySem.W.findObj_own j l rfl (by rw[p,o])) U h
theorem MZ{pl:Sem Bool}{Q:Vu×Vj->Vv->Prop}(X:K.In s.heap)(I:ux s.heap x dx C mA)(U:PySem.W.plainGet K C name=true)
 (g:PySem.W.findIn K (.ref C) name=some (some<|.ref f)) (j:PySem.W.isFn K (.ref f)=true) (l:mA name=none) (h:Q (.ref f,[.ref x]) s):
 wpAny (model prog w) A (getMethod (.ref x) name pl) Q E s:=by
 obtain⟨o,J,p⟩:=I.look;exact PySem.W.method_fn X J (Dx U).1 (Dx U).2 g (beq_iff_eq.mp j) (by show(PySem.W.lookIn name o).map (·.isSome)=some false;rw[p,l];rfl) h
theorem M8{t:Vm}{Q:Vf}(X:K.In s.heap)(I:ux s.heap x dx C mA)
 (hs:PySem.W.findIn K (.ref C) "__setattr__"=some (some<|.builtin "object.__setattr__")) (hp:PySem.W.plainOver K C=true) (T:PySem.W.takerIn K C name=some none) (hh:PySem.W.hasDictIn K C=true)
 (hw:PySem.Within mA t) (hsz:t.length<=sizeLine)
 (h:∀h',ux h' x dx C (λy=>if y=name then some v else mA y)->Heap.SameBut dx s.heap h'->Q () { s with heap:=h',toks:=s.toks+2 }):
 wpAny (model prog w) A (setAttr (.ref x) name v) Q E s:=by
 obtain⟨od,J,hl⟩:=I.look;refine PySem.W.set_plain X J hs<|PySem.W.osa_open (s:={ s with toks:=s.toks+1 }) (r:=none) X J hp T λb=>?_;obtain⟨cd,hc,j⟩:=PySem.W.any_some hh;have hx:s.heap.get? x=some ⟨.ref C,some dx,.plain,#[]⟩:=I.obj;refine Ab<|An<|Ab<|Ab<|wpAny_loadPart hx<|Ab<|PySem.W.Looks.here (s:={ s with toks:=s.toks+1 }) (PySem.W.looks_clsIn X hc) ?_;rw[j];refine An (a:=some dx)<|Ab<|An<|Ab ?_;refine wpAny_nsSet1 (s:={ s with toks:=s.toks+1 }) I.ns λh' U g=>?_;obtain⟨oD,a0,a1,l,o,p⟩:=U.count<|PySem.Within.cons name v hw;refine Ab (wpAny_lookBehind l (by rw[o];exact pastItsLine_dict (AO p (by rw[AK];lia))) ?_);exact An<|h _ ⟨(g.2 _<|A4 I.ne).trans I.obj,U,I.ne⟩ g
theorem M9{R:Result->Vv->Prop}(X:K.In s.heap)(I:PySem.W.makesIn K C=true)
 (hi:PySem.W.findIn K (.ref C) "__init__"=some (some<|.ref f)) (J:PySem.W.typeIn K (.ref f)=some (.type "function"))
 (h:codeAny (model prog w) (A.under<|.builtin "type.__call__" ⟨.ref C::vs,kw⟩) (.call (.ref f) ⟨.ref (s.heap.objs.size+1)::vs,kw⟩) (PySem.W.InitBack (s.heap.objs.size+1) R)
  { s with heap:=(s.heap.push PySem.W.emptyDict).push (PySem.W.instObj C s.heap.objs.size) }):
 codeAny (model prog w) A (.call (.ref C) ⟨vs,kw⟩) R s:=by
 obtain⟨U,g,d,t,os⟩:=s;exact PySem.W.make_core (PySem.W.makes_of X I) (PySem.W.looks_findIn X hi) (λself=>PySem.W.bind_fn X self J) (.inl rfl) h
end
def dC(f:Str)(v:V):List (Str×V)->List (Str×V)
 |[]=>[(f,v)]
 |(g,x)::r=>if g=f then(g,v)::r else(g,x)::dC f v r
theorem jQ(f g:Str)(v:V):∀fs:List (Str×V),(dC f v fs).lookup g=if g=f then some v else fs.lookup g
 |[]=>by
  show List.lookup g [(f,v)]=_;by_cases h:g=f
  ·have I:(g==f)=true:=beq_iff_eq.mpr h;simp only[List.lookup,I,AA h]
  ·have I:(g==f)=false:=beq_eq_false_iff_ne.mpr h;simp only[List.lookup,I,Az h]
 |(k,x)::r=>by
  have U:=jQ f g v r;rw[show dC f v ((k,x)::r)=(if k=f then(k,v)::r else(k,x)::dC f v r) from rfl];by_cases J:k=f
  ·rw[AA J];by_cases h:g=k
   ·have I:(g==k)=true:=beq_iff_eq.mpr h;simp only[List.lookup,I,AA<|h.trans J]
   ·have I:(g==k)=false:=beq_eq_false_iff_ne.mpr h;simp only[List.lookup,I,Az (λe:g=f=>h<|e.trans J.symm)]
  ·rw[Az J];by_cases h:g=k
   ·have I:(g==k)=true:=beq_iff_eq.mpr h;simp only[List.lookup,I,Az (λe:g=f=>J<|h.symm.trans e)]
   ·have I:(g==k)=false:=beq_eq_false_iff_ne.mpr h;simp only[List.lookup,I];exact U
theorem i5(f:Str)(v:V):∀fs:List (Str×V),f∈(dC f v fs).map (·.1)/\∀g,g∈fs.map (·.1)->g∈(dC f v fs).map (·.1)
 |[]=>⟨by simp[dC],λg h=>by simp at h⟩
 |(k,x)::r=>by
  obtain⟨J,U⟩:=i5 f v r;rw[show dC f v ((k,x)::r)=(if k=f then(k,v)::r else(k,x)::dC f v r) from rfl];by_cases I:k=f
  ·rw[AA I];subst I;exact⟨by simp,λg h=>by simpa using h⟩
  ·rw[Az I];refine⟨?_,λg h=>?_⟩
   ·rw[AG];exact Ae _ J
   ·rw[AG] at h ⊢;rcases Aq.mp h with e|e
    ·exact Aq.mpr<|.inl e
    ·exact Ae _<|U g e
theorem jV(f:Str)(v:V):∀fs:List (Str×V),(dC f v fs).length<=fs.length+1
 |[]=>by simp[dC]
 |(k,x)::r=>by
  have J:=jV f v r;rw[show dC f v ((k,x)::r)=(if k=f then(k,v)::r else(k,x)::dC f v r) from rfl];by_cases I:k=f
  ·rw[AA I,AK,AK];lia
  ·rw[Az I,AK,AK];lia
theorem dg.some_of{v:V}{o:Vq}(r:dg (some v) o):∃u,o=some u/\zo v u:=by cases o with|none=>exact(show False from r).elim|some u=>exact⟨u,rfl,r⟩
abbrev EO:=@dg.some_of
theorem dg.none_of{o:Vq}(r:dg none o):o=none:=by cases o with|none=>rfl|some u=>exact(show False from r).elim
theorem Na{v:V}(r:zo v u):PySem.W.handedIn u=true:=by
 cases v with
 |non=>cases (show u=Value.none from r);rfl
 |bl b=>cases (show u=Value.bool b from r);rfl
 |int i=>obtain⟨t,e⟩:=(show ∃t,u=Value.int i t from r);cases e;rfl
 |str x=>obtain⟨t,e⟩:=(show ∃t,u=Value.str x t from r);cases e;rfl
 |byt b=>obtain⟨t,e⟩:=(show ∃t,u=Value.bytes b t from r);cases e;rfl
 |flt b=>obtain⟨t,e⟩:=(show ∃t,u=Value.float b t from r);cases e;rfl
 |ref a=>cases (show u=Value.ref a from r);rfl
 |ty n=>cases (show u=Value.type n from r);rfl
section
variable {P:Vw}{w:Vx}{a:Addr}{fs fs':List<|Str×V}
theorem lQ(hok:gF P w H h)(e:H a=some (.ins C dx fs)):∃mA,ux h a dx C mA/\(∀f,dg (fs.lookup f)<|mA f)/\PySem.Within mA (fs.map (·.1))/\fs.length<=1000/\H dx=some (.own a):=by obtain⟨d,z,ne,I,mA,n,r,q⟩:=(show vg P w H h a (.ins C dx fs) from hok a _ e);exact⟨mA,⟨I,n,ne⟩,r,q,z,d⟩
end
structure Cls(K:Af)(C:Addr):Prop where
 pg:PySem.W.plainGet K C Str.empty=true
 hd:PySem.W.hasDictIn K C=true
 po:PySem.W.plainOver K C=true
 sa:PySem.W.findIn K (.ref C) "__setattr__"=some (some<|.builtin "object.__setattr__")
theorem Cls.get{K:Af}(c:Cls K C)(f:Str):PySem.W.plainGet K C f=true:=c.pg
def NoAttr(K:Af)(C:Addr)(f:Str):Prop:=PySem.W.findIn K (.ref C) f=some none
theorem NoAttr.taker{K:Af}{f:Str}(n:NoAttr K C f):PySem.W.takerIn K C f=some none:=by unfold PySem.W.takerIn;rw[show PySem.W.findIn K (.ref C) f=some none from n];rfl
structure Ek(K:Af)(C:Addr)(m:Str)(f:Addr):Prop where
 at_:PySem.W.findIn K (.ref C) m=some (some<|.ref f)
 fn:PySem.W.isFn K (.ref f)=true
 kp:PySem.W.keepIn K (.ref f)=true
section
variable {a:Addr}{fs:List<|Str×V}{f:Str}{v:V}
theorem wQ{b:Bool}(I:z9 X pins σ H s)(e:H a=some (.ins C dx fs))(c:Cls X.K C)(n:NoAttr X.K C f)(l:fs.lookup f=some v)
 (h:∀u s',z9 X pins σ H s'->zo v u->Q u s'):wpAny (model X.prog X.w) A (getAttr (.ref a) f b) Q E s:=by
 obtain⟨U,O,r,_,_,_⟩:=lQ I.hok e;obtain⟨u,g,J⟩:=EO (v:=v) (o:=U f) (by rw[<-l];exact r f);exact MY I.kIn O (c.get f) c.hd n g (Na J)<|h u _ (I.tok _) J
theorem ut{m:Str}{g:Addr}{pl:Sem Bool}{Q:Vu×Vj->Vv->Prop}(I:z9 X pins σ H s)(e:H a=some (.ins C dx fs))(c:Cls X.K C)(k:Ek X.K C m g)(l:fs.lookup m=none)
 (h:Q (.ref g,[.ref a]) s):wpAny (model X.prog X.w) A (getMethod (.ref a) m pl) Q E s:=by
 obtain⟨J,O,r,_,_,_⟩:=lQ I.hok e;have U:J m=none:=dg.none_of (by rw[<-l];exact r m);exact MZ I.kIn O (c.get m) k.at_ k.fn U h
theorem xE{y:V}{Q:Vf}(I:z9 X pins σ H s)(e:H a=some (.ins C dx fs))(c:Cls X.K C)(n:NoAttr X.K C f)(hl:fs.length<1000)(p:zo y u)
 (h:∀s',z9 X pins σ (upd H a<|.ins C dx<|dC f y fs) s'->Q () s'):wpAny (model X.prog X.w) A (setAttr (.ref a) f u) Q E s:=by
 obtain⟨U,O,r,j,_,l⟩:=lQ I.hok e;have t:(fs.map (·.1)).length<=sizeLine:=by rw[Ag,sizeLine_eq];lia
 refine M8 I.kIn O c.sa c.po n.taker c.hd j t λT J sb=>h _ ?_;have hd:∃o,T.get? dx=some o:=let ⟨o,_,_,e',_⟩:=J.ns;⟨o,e'⟩;refine I.write (x:=a) (e:=dx) (by rw[e];exact True.intro) (.inr l) (λb q hb z=>(sb.2 b hb).trans z) hd ?_;refine⟨by rw[qu O.ne];exact l,?_,O.ne,J.obj,_,J.ns,λg=>?_,λg hg=>?_⟩
 ·have:=jV f y fs;lia
 ·show dg ((dC f y fs).lookup g) (if g=f then some u else U g);rw[jQ];by_cases q:g=f
  ·rw[AA q,AA q];exact p
  ·rw[Az q,Az q];exact r g
 ·by_cases q:g=f
  ·rw[q];exact(i5 f y fs).1
  ·refine(i5 f y fs).2 g (j g λz=>hg ?_);show(if g=f then some u else U g)=none;rw[Az q];exact z
theorem z9.made(I:z9 X pins σ H s):z9 X pins σ (upd (upd H s.heap.objs.size<|.own<|s.heap.objs.size+1) (s.heap.objs.size+1)<|.ins C s.heap.objs.size [])
 { s with heap:=(s.heap.push PySem.W.emptyDict).push (PySem.W.instObj C s.heap.objs.size) }:=by
 have J:(s.heap.push PySem.W.emptyDict).get? s.heap.objs.size=some PySem.W.emptyDict:=vb s.heap rfl;have U:((s.heap.push PySem.W.emptyDict).push<|PySem.W.instObj C s.heap.objs.size).get? (s.heap.objs.size+1)=some (PySem.W.instObj C s.heap.objs.size):=by have:=vb (s.heap.push PySem.W.emptyDict) (o:=PySem.W.instObj C s.heap.objs.size) rfl;rwa[At] at this
 have g:(s.heap.push PySem.W.emptyDict).Ns s.heap.objs.size (λ_=>none):=⟨PySem.W.emptyDict,#[],_,J,rfl,(λe j=>absurd j (by simp)),λ_=>rfl⟩;have l:=I.laid (a:=s.heap.objs.size) (o:=.own<|s.heap.objs.size+1) (h':=s.heap.push PySem.W.emptyDict) (t':=s.toks) (λb u q=>sy _ q) (Al _) ⟨_,J⟩;refine l.laid (a:=s.heap.objs.size+1) (o:=.ins C s.heap.objs.size []) (t':=s.toks) (λb u q=>sy _ q) (Ei<|At _ _) ?_;have ne:s.heap.objs.size≠s.heap.objs.size+1:=A9<|BB _;refine⟨by rw[qu ne,zq],A8 _,ne,U,λ_=>none,(Heap.Ns1.of_empty g).at λo q=>sy _ q,λ_=>True.intro,λy p=>absurd rfl p⟩
theorem Nb{w:Vx}{f:Str}(J:attributeBase e f env (eval e env)=eval e env)
 (h:wpAny (model prog w) A (eval e env) (λo I=>wpAny (model prog w) A (getAttr o f true) Q E I) E s):wpAny (model prog w) A (eval (.Attribute e f pos) env) Q E s:=
 Attribute_any_ h (by rw[arm_eval_Attribute,J])
end
def Nc(K:Af)(ta:TE)(f:Str):TE:=λσ H Q=>ta σ H λx H1=>∃a C dx fs v,x=.ref a/\H1 a=some (.ins C dx fs)/\Cls K C/\NoAttr K C f/\fs.lookup f=some v/\Q v H1
def Nd(K:Af)(ta tv:TE)(f:Str):TS:=λD σ H=>tv σ H λy H1=>ta σ H1 λx H2=>∃a C dx fs,x=.ref a/\H2 a=some (.ins C dx fs)/\Cls K C/\NoAttr K C f/\fs.length<1000/\
 D.nx σ (upd H2 a<|.ins C dx<|dC f y fs)
section
variable {f:Str}{tpos:Pos}{ta tv:TE}
theorem Nf(U:PE X e ta)(g:attributeBase e f X.env (eval e X.env)=eval e X.env):PE X (.Attribute e f pos) (Nc X.K ta f):=by intro J s j H Q I h;refine Nb g<|aY (U J s j H _ I h) λu s1 ψ=>?_;obtain⟨x,o,p,r,a,C,dx,fs,v,ex,ea,c,n,l,q⟩:=ψ;subst ex;obtain rfl:u=Value.ref a:=r;exact wQ p ea c n l λu' s2 t T=>⟨v,o,t,T,q⟩
theorem Ng(g:PE X o ta)(j:PE X value tv)(hs:swapsWith value (some<|.Attribute o f hQ) pos.line X.env=pure false):PS X (.Assign [.Attribute o f hQ] value pos) (Nd X.K ta tv f):=by intro J s U H D I h;refine plainObj_wpAny_Assign_Attribute (ah (j J s U H _ I h) λu p y r t T q=>aY (g J p U r _ t q) λov s2 ψ=>?_) hs;obtain⟨x,H2,I2,rx,a,C,dx,fs,ex,ea,c,n,l,q2⟩:=ψ;subst ex;obtain rfl:ov=Value.ref a:=rx;exact xE I2 ea c n l T λs3 I3=>⟨U,_,I3,q2⟩
end
section
variable {c:Vu}{b:Bool}
inductive kQ(K:Af)(H:Hp):V->Vu->Prop where
 |non:kQ K H .non (.type "NoneType")
 |bl (x:Bool):kQ K H (.bl x) (.type "bool")
 |int (i:Int):kQ K H (.int i) (.type "int")
 |str (x:Str):kQ K H (.str x) (.type "str")
 |flt (x:UInt64):kQ K H (.flt x) (.type "float")
 |lst {a:Addr} {xs:VA} (e:H a=some (.lst xs)):kQ K H (.ref a) (.type "list")
 |frz {a:Addr} {o:Obj} {xs:VA} (e:H a=some (.frz o<|.lst xs)):kQ K H (.ref a) (.type "list")
 |tup {a:Addr} {xs:VA} (e:H a=some (.tup xs)):kQ K H (.ref a) (.type "tuple")
 |dK {a:Addr} {kvs:List<|jb×V} (e:H a=some (.dK kvs)):kQ K H (.ref a) (.type "dict")
 |dT {a:Addr} {kvs:List<|VC×V} (e:H a=some (.dT kvs)):kQ K H (.ref a) (.type "dict")
 |ins {a C dx:Addr} {fs:List<|Str×V} (e:H a=some (.ins C dx fs)) (cl:Cls K C) (ha:PySem.W.findIn K (.ref C) "__class__"=some (some<|.builtin "object.__class__"))
  (hn:PySem.W.specialIn K (.builtin "object.__class__") "__get__"=some (some<|.builtin "getset_descriptor.__get__")) (htk:PySem.W.takesIn K (.builtin "object.__class__")=some true)
  (hm:PySem.W.mroIn K C (.type "object")=some true):kQ K H (.ref a) (.ref C)
theorem bA{x:V}{t:Vu}(I:z9 X pins σ H s)(U:zo x u)(ty:kQ X.K H x t)(e:PySem.W.kitOne X.K t c=some b)(h:∀tk,Q (.bool b) { s with toks:=tk }):
 wpAny (model X.prog X.w) A (call (.builtin "isinstance") [u,c]) Q E s:=by
 cases ty with
 |non=>cases (show u=Value.none from U);exact BA PySem.W.kitx_none I.kIn True.intro e (λz=>nomatch z) h
 |bl y=>cases (show u=Value.bool y from U);exact BA PySem.W.kitx_bool I.kIn True.intro e (λz=>nomatch z) h
 |int i=>obtain⟨t,q⟩:=(show ∃t,u=Value.int i t from U);cases q;exact BA PySem.W.kitx_int I.kIn True.intro e (λz=>nomatch z) h
 |str y=>obtain⟨t,q⟩:=(show ∃t,u=Value.str y t from U);cases q;exact BA PySem.W.kitx_str I.kIn True.intro e (λz=>nomatch z) h
 |flt y=>obtain⟨t,q⟩:=(show ∃t,u=Value.float y t from U);cases q;exact BA PySem.W.kitx_float I.kIn True.intro e (λz=>nomatch z) h
 |@lst a l ea=>
  cases (show u=Value.ref a from U);obtain⟨_,_,n,_,g⟩:=(show vg X.prog X.w H s.heap a (.lst l) from I.hok a _ ea);exact BA DJ I.kIn ⟨_,g,rfl⟩ e (λz=>nomatch z) h
 |@frz a ob l ea=>
  cases (show u=Value.ref a from U);obtain⟨_,_,_,n,_,g⟩:=(show vg X.prog X.w H s.heap a (.frz ob<|.lst l) from I.hok a _ ea);exact BA DJ I.kIn ⟨_,g,rfl⟩ e (λz=>nomatch z) h
 |@tup a l ea=>
  cases (show u=Value.ref a from U);obtain⟨_,_,_,p⟩:=(show vg X.prog X.w H s.heap a (.tup l) from I.hok a _ ea);obtain⟨o,g,r,_⟩:=p;exact BA PySem.W.kitx_tuple I.kIn ⟨o,g,r⟩ e (λz=>nomatch z) h
 |@dK a j ea=>
  cases (show u=Value.ref a from U);obtain⟨_,_,vs,_,p⟩:=(show vg X.prog X.w H s.heap a (.dK j) from I.hok a _ ea);obtain⟨o,es,ep,g,r,_⟩:=p;exact BA PySem.W.kitx_dict I.kIn ⟨o,g,r.1⟩ e (λz=>nomatch z) h
 |@dT a j ea=>
  cases (show u=Value.ref a from U);obtain⟨_,_,l,_,o,es,ep,g,r,_⟩:=(show vg X.prog X.w H s.heap a (.dT j) from I.hok a _ ea);exact BA PySem.W.kitx_dict I.kIn ⟨o,g,r.1⟩ e (λz=>nomatch z) h
 |@ins a C dx fs ea cl ha hn T hm=>
  cases (show u=Value.ref a from U);obtain⟨mA,O,_⟩:=lQ I.hok ea;obtain⟨od,J,_⟩:=O.look;exact BA (PySem.W.kitx_own (cl.get _) cl.hd ha hn T hm) I.kIn J e (λz=>nomatch z) h
end
structure km(k:Nat)(A:Around):Prop where
 hd:A.handled=none
 dp:A.depth+3*k+5<recursionLimit
 un:A.units+16*k+200<cLine
theorem km.mono{k:Nat}(r:km k A)(h:j<=k):km j A:=⟨r.hd,by have:=r.dp;lia,by have:=r.un;lia⟩
theorem km.deeper{k:Nat}(r:km (k+1) A)(env:Env):km k (A.deeper env):=
 ⟨r.hd,by have:=r.dp;show A.depth+1+3*k+5<_;lia,by have:=r.un;show A.units+3+16*k+200<_;lia⟩
theorem wD :(A.under<|.builtin "type.__call__" ⟨.ref C::us,kw⟩).depth=A.depth+1:=by first|rfl|simp[Around.under,Code.weight,Code.isCreation,Code.isGuard,Code.isCaller,Code.frames,Code.isFrame,guardIds]
theorem vK :(A.under<|.builtin "type.__call__" ⟨.ref C::us,kw⟩).units=A.units+1:=by first|rfl|simp[Around.under,Code.cUnits,Code.frames,Code.isFrame]
theorem km.make{k:Nat}(r:km (k+1) A)(C:Addr)(us:Vj)(kw:List<|Str×Vu):km k (A.under<|.builtin "type.__call__" ⟨.ref C::us,kw⟩):=
 ⟨r.hd,by have:=r.dp;rw[wD];lia,by have:=r.un;rw[vK];lia⟩
theorem km.depth{k:Nat}(r:km k A):A.depth<recursionLimit:=by have:=r.dp;lia
def Nh:TA:=λ_ H Q=>Q [] H
def Ni(ta:TE)(tr:TA):TA:=λσ H Q=>ta σ H λx H1=>tr σ H1 λxs H2=>Q (x::xs) H2
section
variable {te:TE}{t:TA}
theorem mQ:PA X [] Nh:=λ_ _ _ _ H Q I h=>yp ⟨[],H,I,.nil,h⟩
abbrev EY(e:Expr)(es:Vn)(X:Cx):Prop:=starEach (e::es) X.env=(false,eval e X.env)::starEach es X.env
theorem fT(g:PE X e te)(j:PA X es t)(hs:EY e es X:=by rfl):PA X (e::es) (Ni te t):=by intro pos J s U H Q I h;rw[hs];show wpAny _ _ (spliced<|(false,eval e X.env)::backTo pos (starEach es X.env)) _ _ s;refine xT<|ah (g J s U H _ I h) λu l x o p r C=>?_;exact u8 (j pos J l U o _ p C) λus s2 T H2 I2 r2 q2=>⟨x::T,H2,I2,.cons r r2,q2⟩
def Nj(t:TA):TE:=λσ H Q=>t σ H λxs H1=>xs.length<=sizeLine/\∀p,H1 p=none->Q (.ref p) (upd H1 p<|.tup xs)
def Nk(t:TA):TE:=λσ H Q=>t σ H λxs H1=>xs.length<=sizeLine/\∀p,H1 p=none->Q (.ref p) (upd H1 p<|.lst xs)
theorem Nl{x1}(h:PA X es t):PE X (.Tuple es x1 pos) (Nj t):=by intro J s l H Q I o;refine wpAny_Tuple_spliced (aY (h pos J s l H _ I o) λp U ⟨C,g,j,r,z,q⟩=>⟨by rw[<-r.length];exact z,?_⟩);have T:g U.heap.objs.size=none:=j.hok.fresh<|Al _;refine⟨.ref U.heap.objs.size,upd g U.heap.objs.size<|.tup C,j.laid (t':=U.toks) (λb u e=>sy _ e) (Al _) ?_,rfl,q _ T⟩;exact⟨z,p,r,⟨_,vb _ rfl,rfl,_,rfl⟩⟩
theorem Nm(h:PA X es t):PE X (.List es pos) (Nk t):=by intro J s l H Q I o;refine wpAny_List_spliced (aY (h pos J s l H _ I o) λp U ⟨C,g,j,r,z,q⟩=>⟨by rw[<-r.length];exact z,?_⟩);have T:g U.heap.objs.size=none:=j.hok.fresh<|Al _;refine⟨.ref U.heap.objs.size,upd g U.heap.objs.size<|.lst C,j.laid (t':=U.toks) (λb u e=>sy _ e) (Al _) ?_,rfl,q _ T⟩;exact⟨z,p,0,r,vb _ rfl⟩
end
abbrev Sp:=VA->Hp->VK->XK->Prop
abbrev b_:=List Env->Hp->Vv->XK->Ve
structure vR(P:Vw)(w:Vx)(K:Af)(mg:Vg)(base:Vy)(A:Around)(outer:List Env)(s:Vv)(H:Hp):Prop where
 frames:A.frames=some outer
 mod:Mod K mg base
 bs:∀b o,base.get? b=some o->s.heap.get? b=some o/\H b=none
 bsz:base.objs.size<=s.heap.objs.size
 funs:s.heap.FunFrames base outer
 frf:∀b∈frs outer,H b=none
 hok:gF P w H s.heap
 bare:AllBare s.gens
 tk:0<s.toks
def CE(outer:List Env)(P:Vw)(w:Vx)(H:Hp)(s:Vv)(Q:VK)(u:Vu)(s':Vv):Prop:=
 ∃v H',s'.os=s.os/\AllBare s'.gens/\Un (frs outer) [] H H' s.heap s'.heap/\gF P w H' s'.heap/\zo v u/\Q v H'/\0<s'.toks
def CR(CX:b_)(outer:List Env)(P:Vw)(w:Vx)(H:Hp)(s:Vv)(Q:VK)(E:XK)(r:Result)(s':Vv):Prop:=
 match r with
 |.ok (.ret u)=>CE outer P w H s Q u s'
 |.ok _=>False
 |.error e=>CX outer H s E e s'
structure bS(P:Vw)(w:Vx)(K:Af)(mg:Vg)(base:Vy)(CX:b_)(k:Nat)(f:Addr)(fd:FuncData)(ps:Vm)(sp:Sp):Prop where
 len:∀vs H Q E,sp vs H Q E->vs.length=ps.length
 run:∀(A:Around) (outer:List Env) (s:Vv) (H:Hp) (args:Args) (us:Vj) (vs:VA) (Q:VK) (E:XK),km k A->vR P w K mg base A outer s H->BindsTo s fd args (ps.zip us)->zn vs us->sp vs H Q E->
  codeAny (model P w) A (.call (.ref f) args) (CR CX outer P w H s Q E) s
theorem bS.mono{P:Vw}{w:Vx}{K:Af}{CX:b_}{k:Nat}{sp:Sp}(F:bS P w K mg base CX j f fd ps sp)(h:j<=k):
 bS P w K mg base CX k f fd ps sp:=⟨F.len,λA I s H args J U Q E g=>F.run A I s H args J U Q E<|g.mono h⟩
theorem bS.imp{P:Vw}{w:Vx}{K:Af}{CX:b_}{k:Nat}{sp J:Sp}(F:bS P w K mg base CX k f fd ps sp)
 (h:∀vs H Q E,J vs H Q E->sp vs H Q E):bS P w K mg base CX k f fd ps J:=
 ⟨λvs H Q E q=>F.len vs H Q E<|h _ _ _ _ q,λA I s H args U vs Q E g j l o p=>F.run A I s H args U vs Q E g j l o<|h _ _ _ _ p⟩
theorem vR.make{P:Vw}{w:Vx}{K:Af}{outer:List Env}(e:vR P w K mg base A outer s H)(C:Addr)(us:Vj)(kw:List<|Str×Vu):
 vR P w K mg base (A.under<|.builtin "type.__call__" ⟨.ref C::us,kw⟩) outer s H:=⟨by first|exact e.frames|(simpa[Around.under,Code.envs,Code.isFrame,pushEnvs] using e.frames),e.mod,e.bs,e.bsz,e.funs,e.frf,e.hok,e.bare,e.tk⟩
theorem z9.env0(I:z9 X pins σ H s):vR X.prog X.w X.K X.mg X.base X.A X.stack s H:=
 ⟨I.ok.frames,I.ok.mod,I.bs,AO I.ok.bsz I.sz,I.stack,I.stkFree,I.hok,I.bare,I.tk⟩
theorem z9.after{Q:VK}(I:z9 X pins σ H s)(h:CE X.stack X.prog X.w H s Q u s'):EP X pins σ Q u s':=by obtain⟨v,j,os,bare,un,J,r,q,o⟩:=h;obtain⟨l,g,d,t,U⟩:=s';obtain rfl:U=s.os:=os;exact⟨v,j,I.call (h':=l) (g':=g) (d':=d) (t':=t) (ch:=[]) un J bare λb z=>absurd z (by simp),r,q⟩
def Hh(sp:Sp)(nC:VA)(E:XK)(t:TA):TE:=λσ H Q=>t σ H λvs H1=>sp (vs++nC) H1 Q E
def Nn(C:Addr)(m:Str)(sp:Sp)(nC:VA)(E:XK)(ta:TE)(t:TA):TE:=λσ H Q=>ta σ H λx H1=>∃a dx fs,x=.ref a/\H1 a=some (.ins C dx fs)/\fs.lookup m=none/\
 t σ H1 λvs H2=>sp (x::(vs++nC)) H2 Q E
def No(C:Addr)(sp:Sp)(nC:VA)(E:XK)(t:TA):TE:=λσ H Q=>t σ H λvs H1=>∀x dx,H1 x=none->H1 dx=none->dx≠x->
 sp (.ref x::(vs++nC)) (upd (upd H1 dx<|.own x) x<|.ins C dx []) (λv H2=>v=.non/\Q (.ref x) H2) E
def aR(K:Af)(fd:FuncData)(ps:Vm)(ds:Vj):Prop:=
 ∀(s:Vv) (us:Vj),K.In s.heap->(us++ds).length=ps.length->BindsTo s fd ⟨us,[]⟩ (ps.zip<|us++ds)
theorem aR.all{K:Af}(h:∀us:Vj,us.length=ps.length->bindArgs fd ⟨us,[]⟩=pure (ps.zip us)):aR K fd ps []:=λs us _ I=>by rw[Aw] at I ⊢;exact .of_eq<|h us I
def i4(CX:b_)(X:Cx)(E:XK):Prop:=∀(pins:List<|Addr×Obj) (σ:St) (H:Hp) (s:Vv) (e:Vu) (s':Vv),z9 X pins σ H s->CX X.stack H s E e s'->X.xe e s'
section
variable {CX:b_}{k:Nat}{sp:Sp}{nC:VA}{ds:Vj}{E:XK}{m:Str}{p:Pos}{ta:TE}{t:TA}
theorem Hi{Q:VK}{vs:VA}(F:bS X.prog X.w X.K X.mg X.base CX k f fd ps sp)(g:km k X.A)(j:aR X.K fd ps ds)(hd:zn nC ds)(l:i4 CX X E)
 (I:z9 X pins σ H s) (r:zn vs us) (h:sp (vs++nC) H Q E):wpAny (model X.prog X.w) X.A (call (.ref f) us) (EP X pins σ Q) X.xe s:=by
 have U:zn (vs++nC) (us++ds):=r.append hd;have o:(us++ds).length=ps.length:=by rw[<-U.length];exact F.len _ _ _ _ h
 refine wpAny_call<|codeAny_mono (F.run X.A X.stack s H ⟨us,[]⟩ (us++ds) (vs++nC) Q E g I.env0 (j s us I.kIn o) U h) λr p J=>?_;cases r with
 |error e=>exact l pins σ H s e p I J
 |ok t=>
  cases t with|ret u=>exact I.after J|next=>exact False.elim J|brk=>exact False.elim J|cont=>exact False.elim J
abbrev EZ(p:Pos)(es:Vn)(X:Cx):Prop:=(backTo p<|starEach es X.env).any (·.1)=false
theorem Np(F:bS X.prog X.w X.K X.mg X.base CX k f fd ps sp)(l:km k X.A)(o:Gl X x)(C:X.mg x=some (.ref f))(T:PySem.W.keepIn X.K (.ref f)=true)(hb:aR X.K fd ps ds)(hd:zn nC ds)(hx:i4 CX X E)
 (ha:PA X (e::es) t) (U:E4 x:=by decide) (he:EY e es X:=by rfl) (g:EZ pos es X:=by rfl):
 PE X (.Call (.Name x p) (e::es) [] pos) (Hh sp nC E t):=by
 intro J s σ H Q I h;refine wpAny_Call_Name_kw<|pX I o C ?_ U;refine DD (h₀:=X.base) I.ok.mod.kin T (u8 (ha pos J s σ H _ I h) λus s1 vs H1 j r q=>⟨j.kIn,?_⟩) he g;exact Hi F l hb hd hx j r q
theorem Nq{pl:Sem Bool}(he:PE X o ta)(c:Cls X.K C)(j:Ek X.K C m f)(F:bS X.prog X.w X.K X.mg X.base CX k f fd ps sp)(hr:km k X.A)(hb:aR X.K fd ps ds)(hd:zn nC ds)(hx:i4 CX X E)(ha:PA X (e::es) t)
 (U:EY e es X:=by rfl) (g:EZ pos es X:=by rfl)
 (ht:eval (.Call (.Attribute o m apos) (e::es) [] pos) X.env=(do
  let p <-eval o X.env
  standAt apos.atName
  let (f,first) <-holding [p] (getMethod p m pl)
  callWith pos f first (backTo pos<|starEach (e::es) X.env) (backToKw pos<|keywordEach [] X.env)):=by rfl):
 PE X (.Call (.Attribute o m apos) (e::es) [] pos) (Nn C m sp nC E ta t):=by
 intro J s T H Q I h;refine PySem.W.methodCall_KW (pl:=pl) (aY (he J s T H _ I h) λu s1 ψ=>?_) ht;obtain⟨x,H1,I1,rx,a,dx,fs,ex,ea,l,q⟩:=ψ;subst ex;obtain rfl:u=Value.ref a:=rx;refine ut I1 ea c j l ?_;refine DD (first:=[.ref a]) (h₀:=X.base) I.ok.mod.kin j.kp (u8 (ha pos J s1 T H1 _ I1 q) λus s2 vs H2 I2 r q2=>⟨I2.kIn,?_⟩) U g;exact Hi (us:=.ref a::us) (vs:=.ref a::vs) F hr hb hd hx I2 (.cons rfl r) q2
structure Mk(K:Af)(C f:Addr):Prop where
 makes:PySem.W.makesIn K C=true
 init:PySem.W.findIn K (.ref C) "__init__"=some (some<|.ref f)
 fn:PySem.W.isFn K (.ref f)=true
 kp:PySem.W.keepIn K (.ref C)=true
theorem Nr{Q:VK}{vs:VA}(M:Mk X.K C f)(F:bS X.prog X.w X.K X.mg X.base CX k f fd ps sp)(l:km (k+1) X.A)(o:aR X.K fd ps ds)(hd:zn nC ds)
 (p:i4 CX X E) (I:z9 X pins σ H s) (r:zn vs us)
 (h:∀x dx,H x=none->H dx=none->dx≠x->sp (.ref x::(vs++nC)) (upd (upd H dx<|.own x) x<|.ins C dx []) (λv H2=>v=.non/\Q (.ref x) H2) E):
 wpAny (model X.prog X.w) X.A (call (.ref C) us) (EP X pins σ Q) X.xe s:=by
 have g:=h (s.heap.objs.size+1) s.heap.objs.size (I.hok.fresh<|Cc _) (I.hok.fresh<|Al _)<|A9<|BB _;have U:=z9.made (C:=C) I;have j:zn (V.ref (s.heap.objs.size+1)::(vs++nC)) (Value.ref (s.heap.objs.size+1)::(us++ds)):=.cons rfl<|r.append hd;have t:(Value.ref (s.heap.objs.size+1)::us++ds).length=ps.length:=by have e:=j.length;rw[F.len _ _ _ _ g] at e;exact e.symm
 refine wpAny_call (M9 (f:=f) I.kIn M.makes M.init (beq_iff_eq.mp M.fn) (codeAny_mono (F.run _ X.stack _ _ ⟨Value.ref (s.heap.objs.size+1)::us,[]⟩ (Value.ref (s.heap.objs.size+1)::(us++ds)) _ _ E (l.make C us [])
  (U.env0.make C us []) (o _ (Value.ref (s.heap.objs.size+1)::us) U.kIn t) j g) λr T J=>?_))
 cases r with
 |error e=>exact p pins σ _ _ e T U J
 |ok fl=>
  cases fl with
  |ret u=>
   obtain⟨v,H',I3,rv,ev,q3⟩:=U.after J;subst ev;exact⟨rv,⟨V.ref<|s.heap.objs.size+1,H',I3,rfl,q3⟩⟩
  |next=>exact False.elim J
  |brk=>exact False.elim J
  |cont=>exact False.elim J
theorem Nt(M:Mk X.K C f)(F:bS X.prog X.w X.K X.mg X.base CX k f fd ps sp)(l:km (k+1) X.A)(o:Gl X x)(T:X.mg x=some (.ref C))(hb:aR X.K fd ps ds)(hd:zn nC ds)(hx:i4 CX X E)
 (ha:PA X (e::es) t) (U:E4 x:=by decide) (he:EY e es X:=by rfl) (g:EZ pos es X:=by rfl):
 PE X (.Call (.Name x p) (e::es) [] pos) (No C sp nC E t):=by
 intro J s σ H Q I h;refine wpAny_Call_Name_kw<|pX I o T ?_ U;refine DD (h₀:=X.base) I.ok.mod.kin M.kp (u8 (ha pos J s σ H _ I h) λus s1 vs H1 j r q=>⟨j.kIn,?_⟩) he g;exact Nr M F l hb hd hx j r q
end
section
variable {CX:b_}{k:Nat}{ks:Vm}{sp:Sp}{E:XK}{m:Str}{p:Pos}{p0:List Keyword}{te ta:TE}{t tk:TA}{nm:Option Str}
variable {g:Vj->Vj->Vj}{gV:VA->VA->VA}
end
structure aw(N P:Vm)(sc:Scope):Prop where
 kind:sc.kind=.function
 co:sc.isCoroutine=false
 gen:sc.isGenerator=false
 nd:N.Nodup
 pre:N.take P.length=P
 par:∀x∈P,sc.names.lookup x=some .local\/sc.names.lookup x=some .cell
 nofree:∀y∈sc.names,y.2≠.free
theorem og{kindOf:Str->Option NameKind}{x:Str}:∀{I:List<|Str×Vu} {m:Vg},(∀v,(x,v)∉I)->bindL kindOf I m x=m x
 |[],_,_=>rfl
 |(n,v)::r,m,h=>by
  unfold bindL;rw[og λw hw=>h w<|Ae _ hw];split
  ·have:x≠n:=by rintro rfl;exact h v Ao
   simp[this]
  ·rfl
theorem pF{kindOf:Str->Option NameKind}{x:Str}:∀{I:List<|Str×Vu} {m:Vg},(∀v,(x,v)∉I)->bindC kindOf I m x=m x
 |[],_,_=>rfl
 |(n,v)::r,m,h=>by
  unfold bindC;rw[pF λw hw=>h w<|Ae _ hw];split
  ·rfl
  ·have:x≠n:=by rintro rfl;exact h v Ao
   simp[this]
theorem pI{kindOf:Str->Option NameKind}{x:Str}{v:Vu}:∀{P:Vm} {vs:Vj} {i:Nat} {m:Vg},P.Nodup->P[i]?=some x->vs[i]?=some v->kindOf x=some .local->
 bindL kindOf (P.zip vs) m x=some v
 |[],_,_,_,_,h,_,_=>by simp at h
 |_::_,[],_,_,_,_,h,_=>by simp at h
 |p::P,w::vs,0,m,nd,I,J,U=>by simp at I J;subst I;subst J;show bindL kindOf ((p,w)::P.zip vs) m p=_;unfold bindL;rw[og λv g=>(AH.mp nd).1 (Dt g).1,AA U];simp
 |p::P,w::vs,i+1,m,nd,I,J,U=>by show bindL kindOf ((p,w)::P.zip vs) m x=_;unfold bindL;exact pI (i:=i) (AH.mp nd).2 (by simpa using I) (by simpa using J) U
theorem o7{kindOf:Str->Option NameKind}{x:Str}{v:Vu}:∀{P:Vm} {vs:Vj} {i:Nat} {m:Vg},P.Nodup->P[i]?=some x->vs[i]?=some v->kindOf x≠some .local->
 bindC kindOf (P.zip vs) m x=some v
 |[],_,_,_,_,h,_,_=>by simp at h
 |_::_,[],_,_,_,_,h,_=>by simp at h
 |p::P,w::vs,0,m,nd,I,J,U=>by simp at I J;subst I;subst J;show bindC kindOf ((p,w)::P.zip vs) m p=_;unfold bindC;rw[pF λv g=>(AH.mp nd).1 (Dt g).1,Az U];simp
 |p::P,w::vs,i+1,m,nd,I,J,U=>by show bindC kindOf ((p,w)::P.zip vs) m x=_;unfold bindC;exact o7 (i:=i) (AH.mp nd).2 (by simpa using I) (by simpa using J) U
def start(N:Vm)(vs:VA):St:=vs.map some++List.replicate (N.length-vs.length) none
def iT(CX:b_)(P:Vw)(w:Vx)(K:Af)(mg:Vg)(base:Vy)(N:Vm)(eA:Str)(scope:Scope)(f:Addr)(cd:Vu)(A:Around)(outer:List Env)(s:Vv)(H:Hp)(E:XK):Cx where
 prog:=P
 w:=w
 K:=K
 mg:=mg
 base:=base
 A:=A.deeper<|envOfC eA scope s.heap.objs.size f cd
 N:=N
 s₀:=s
 H₀:=H
 env:=envOfC eA scope s.heap.objs.size f cd
 outer:=outer
 stack:=envOfC eA scope s.heap.objs.size f cd::outer
 ex:=[]
 calm:=true
 fn:=λ_=>true
 pn:=[]
 xe:=λe s'=>wpAny (model P w) (A.deeper<|envOfC eA scope s.heap.objs.size f cd) (leaving (envOfC eA scope s.heap.objs.size f cd) e) (λ_ I=>CX outer H s E e I) (λe' I=>CX outer H s E e' I) s'
theorem sj{I:Scope}(h:I.names.lookup x=some .cell):∃c,(cellsFrom n I.names []).lookup x=some c:=by have q:=PySem.W.cellsFrom_some I.names n []<|.inl h;exact Option.isSome_iff_exists.mp q
theorem zH{CX:b_}{P:Vw}{w:Vx}{K:Af}{N:Vm}{cd:Vu}{outer:List Env}{C:Vv}{E:XK}{vs:VA}
 (S:aw N ps scope) (hd:A.handled=none) (J:vR P w K mg base A outer s H) (hl:vs.length=ps.length) (r:zn vs us)
 (x:InCallC s s.heap.objs.size (bindL (envOfC eA scope s.heap.objs.size f cd).kindOf (ps.zip us) λ_=>none) (cellsFrom (s.heap.objs.size+1) scope.names []) (bindC (envOfC eA scope s.heap.objs.size f cd).kindOf (ps.zip us) λ_=>none) C) (ht:0<C.toks):
 z9 (iT CX P w K mg base N eA scope f cd A outer s H E) [] (start N vs) H C:=by
 have a0:ps.length<=N.length:=by have:=BO List.length S.pre;rw[AM] at this;lia
 obtain⟨o,tk,rfl,T⟩:=x.done;have U:∀b:Addr,b∉(iT CX P w K mg base N eA scope f cd A outer s H E).ex:=λb z=>absurd (show b∈([]:List Addr) from z) (by simp);refine⟨⟨J.mod,S.kind,rfl,rfl,Al _,λy z c o I=>?_,λy g=>?_,λy c _ h=>?_,λ_=>hd,Around.frames_deeper J.frames,.inr ⟨rfl,rfl⟩,λb z=>absurd z<|U b,J.bs,J.bsz,λb _ _=>U b,λb z=>absurd z<|U b,J.funs,J.frf⟩,
  rfl,J.bare,Un.kept T,⟨_,x.toInCall.ns,λi y v o I h3=>?_⟩,λy c h=>⟨_,x.cell y c h⟩,J.hok.fresh<|Al _,λy c h=>?_,λp j=>absurd (show p∈([]:List<|Addr×Obj) from j) (by simp),J.hok.kept T,?_,ht⟩
 ·exact name_of_addr x.apart (BJ o)<|BJ I
 ·have g:scope.names.lookup y=some .cell\/scope.names.lookup y=some .free:=g;rcases g with g|g
  ·exact sj g
  ·exact absurd rfl<|S.nofree _<|BJ g
 ·exact Bf<|x.above y c<|BJ h
 ·have t:i<vs.length:=by
   unfold start at I;by_cases t:i<vs.length
   ·exact t
   ·rw[Ax (by simpa using t)] at I;rw[Ct] at I;split at I<;>cases I
  have ha:vs[i]?=some v:=by unfold start at I;rw[AI (by simpa using t),Am] at I;cases e:vs[i]? with|none=>rw[e] at I;cases I|some a=>rw[e] at I;cases I;rfl
  obtain⟨u,hu,rv⟩:=r.get ha;have j:ps[i]?=some y:=by rw[<-S.pre,List.getElem?_take_of_lt (by lia)];exact o
  have l:ps.Nodup:=by rw[<-S.pre];exact S.nd.sublist<|DK _ _
  refine⟨u,rv,?_⟩;rcases S.par y (AC j) with k|k
  ·exact .inl ⟨k,pI l j hu k⟩
  ·obtain⟨c,e⟩:=sj (n:=s.heap.objs.size+1) k;refine .inr ⟨.inl k,c,e,?_⟩;have q:=x.cell y c e;rw[o7 l j hu (by show scope.names.lookup y≠_;rw[k];decide)] at q;exact q
 ·exact J.hok.fresh<|Bf<|x.above y c<|BJ h
 ·unfold start;show _=N.length;rw[Aa,Ag,Ck];lia
theorem Hj{CX:b_}{P:Vw}{w:Vx}{K:Af}{k:Nat}{U:Arguments}{dV kV ct:Vu}
 {N:Vm} {sp:Sp} (lk:K.lookup f=some ⟨oc,od,.func<|PySem.W.fnOf name eA U body scope dV kV ir pm an eK ct,oe⟩) (a0:PySem.W.codeIn K eK eA=true) (S:aw N ps scope)
 (len:∀vs H Q E,sp vs H Q E->vs.length=ps.length)
 (j:∀(A:Around) (outer:List Env) (s:Vv) (H:Hp) (vs:VA) (Q:VK) (E:XK),km k (A.deeper<|envOfC eA scope s.heap.objs.size f eK)->sp vs H Q E->
  ∃t,kW (iT CX P w K mg base N eA scope f eK A outer s H E) body t/\t { nx:=λ_ H'=>Q .non H',rt:=Q } (start N vs) H):
 bS P w K mg base CX (k+1) f (PySem.W.fnOf name eA U body scope dV kV ir pm an eK ct) ps sp:=by
 refine⟨len,λA outer s H args us vs Q E hr p hb r T=>?_⟩;have hl:=len _ _ _ _ T;have KX:K.In s.heap:=p.mod.kin.keeps λb o e=>(p.bs b o e).1;have a1:s.heap.NoLimit:=p.mod.nolimit.keeps λb o e=>(p.bs b o e).1;have l:∀y∈ps.zip us,scope.names.lookup y.1=some .local\/(scope.names.lookup y.1=some .cell/\((cellsFrom (s.heap.objs.size+1) scope.names []).lookup y.1).isSome=true):=λ ψ hy=>by
  obtain⟨n,v⟩:=ψ
  rcases S.par n (Dt hy).1 with q|q
  ·exact .inl q
  ·exact .inr ⟨q,PySem.W.cellsFrom_some _ _ _<|.inl q⟩
 refine codeAny_call_function hr.depth (KX _ _ lk) rfl S.co S.gen rfl (PySem.W.codeRec_of KX a0)<|hb _ _ _ _ ?_;refine xn p.tk<|wpAny_newFunctionEnv_cells S.kind l λa3 he s1 x a2=>?_;subst he;refine⟨a1.keeps x.toInCall.keep,codeAny_func ?_⟩;obtain⟨t,ht,hq⟩:=j A outer s H vs Q E (hr.deeper _) T;have I:z9 (iT CX P w K mg base N eA scope f eK A outer s H E) [] (start N vs) H s1:=zH S hr.hd p hl r x a2;refine A2 (ht [] s1 (start N vs) H _ I hq) (λfl s' C=>?_) λe s' C=>C;have xh:∀{g:St} {H':Hp} {v:V} {u:Vu},z9 (iT CX P w K mg base N eA scope f eK A outer s H E) [] g H' s'->zo v u->Q v H'->CE outer P w H s Q u s':=
  λ{g H' v u} J rv q=>⟨v,H',J.os,J.bare,J.base,J.hok,rv,q,J.tk⟩
 cases fl with
 |ret u=>
  obtain⟨v,g,H',J,rv,q⟩:=C;exact xh J rv q
 |next=>
  obtain⟨g,H',J,q⟩:=C;exact xh (v:=V.non) (u:=Value.none) J rfl q
 |brk=>
  obtain⟨_,_,_,q⟩:=C;exact False.elim q
 |cont=>
  obtain⟨_,_,_,q⟩:=C;exact False.elim q
section
variable {p:Pos}{t:TA}{id T:Vz}{r:VA->Hp->VK->Prop}
def Hk(r:VA->Hp->VK->Prop)(t:TA):TE:=λσ H Q=>t σ H λvs H1=>r vs H1 Q
theorem tV(hc:xb X (.builtin id) r)(l:Gl X x)(o:X.mg x=none)(C:bootBuiltins x=some (.builtin id))(T:PA X (e::es) t)(hn:x ≠ "__name__" := by decide)(U:E4 x:=by decide)
 (he:EY e es X:=by rfl) (g:EZ pos es X:=by rfl):PE X (.Call (.Name x p) (e::es) [] pos) (Hk r t):=by
 intro J s j H Q I h;refine wpAny_Call_Name_kw<|gL I l o C ?_ hn U;exact PyProof.Rows.callWith_builtin1 (u8 (T pos J s j H _ I h) λus s1 vs H1 I1 r1 q1=>hc J s1 j H1 vs us Q I1 r1 q1) he g
theorem i9(hc:xb X (.type T) r)(l:Gl X x)(o:X.mg x=none)(C:bootBuiltins x=some (.type T))(ha:PA X (e::es) t)(hn:x ≠ "__name__" := by decide)(U:E4 x:=by decide)
 (he:EY e es X:=by rfl) (g:EZ pos es X:=by rfl):PE X (.Call (.Name x p) (e::es) [] pos) (Hk r t):=by
 intro J s j H Q I h;refine wpAny_Call_Name_kw<|gL I l o C ?_ hn U;exact CM (u8 (ha pos J s j H _ I h) λus s1 vs H1 I1 r1 q1=>hc J s1 j H1 vs us Q I1 r1 q1) he g
end
section
variable [DecidableEq κ]
def bX(kvs:List<|κ×V)(k:κ):VB:=(kvs.find? λI=>decide<|I.1=k).map (·.2)
def dy(kvs:List<|κ×V)(k:κ)(v:V):List (κ×V):=
 if (kvs.any λI=>decide<|I.1=k)=true then kvs.map (λI=>if I.1=k then(I.1,v) else I) else kvs++[(k,v)]
theorem lm{p:κ×V}{r:List<|κ×V}{k:κ}(e:p.1=k):bX (p::r) k=some p.2:=by simp[bX,BI,e]
theorem nz{p:κ×V}{r:List<|κ×V}{k:κ}(e:¬p.1=k):bX (p::r) k=bX r k:=by simp[bX,BI,e]
theorem u4(k:κ):∀kvs:List (κ×V),(kvs.any λI=>decide<|I.1=k)=(bX kvs k).isSome
 |[]=>rfl
 |p::r=>by
  rw[Cq];by_cases e:p.1=k
  ·simp only[lm e,AE e,Bool.true_or,Option.isSome_some]
  ·rw[nz e,Av e,Bool.false_or];exact u4 k r
theorem fA(kvs:List<|κ×V)(k:κ)(v:V):(dy kvs k v).length<=kvs.length+1:=by
 unfold dy;split
 ·rw[Ag];lia
 ·rw[Aa,AK,Du];lia
theorem dg.isSome_eq{o:VB}{u:Vq}(r:dg o u):o.isSome=u.isSome:=by
 cases o with
 |none=>cases u with|none=>rfl|some _=>exact(show False from r).elim
 |some _=>cases u with|none=>exact(show False from r).elim|some _=>rfl
theorem KV.val{kvs:List<|κ×V}{vs:List<|κ×Vu}(r:KV kvs vs)(k:κ):dg (bX kvs k) (valueAt vs k):=by
 unfold KV at r
 induction r with
 |nil=>exact True.intro
 |@cons p q l I h t g=>
  obtain⟨U,j⟩:=h;by_cases e:p.1=k
  ·have J:q.1=k:=U.symm.trans e;have b:valueAt (q::I) k=some q.2:=by simp[valueAt,BI,J]
   rw[lm e,b];exact j
  ·have J:¬q.1=k:=λz=>e<|U.trans z;have b:valueAt (q::I) k=valueAt I k:=by simp[valueAt,BI,J]
   rw[nz e,b];exact g
theorem KV.any{kvs:List<|κ×V}{vs:List<|κ×Vu}(r:KV kvs vs)(k:κ):(kvs.any λI=>decide<|I.1=k)=vs.any λI=>decide (I.1=k):=by
 unfold KV at r
 induction r with|nil=>rfl|cons h t J=>rw[Cq,Cq,J,h.1]
theorem KV.repl{kvs:List<|κ×V}{vs:List<|κ×Vu}(r:KV kvs vs)(k:κ){y:V}(U:zo y u):
 KV (kvs.map λI=>if I.1=k then(I.1,y) else I) (vs.map λI=>if I.1=k then(I.1,u) else I):=by
 unfold KV at r ⊢
 induction r with
 |nil=>exact .nil
 |@cons p q l o h t g=>
  rw[AG,AG];refine .cons ?_ g;obtain⟨J,j⟩:=h;by_cases e:p.1=k
  ·rw[AA e,AA<|J.symm.trans e];exact⟨J,U⟩
  ·rw[Az e,Az λz=>e<|J.trans z];exact⟨J,j⟩
theorem KV.put{kvs:List<|κ×V}{vs:List<|κ×Vu}(r:KV kvs vs)(k:κ){y:V}(I:zo y u):KV (dy kvs k y) (stored vs k u):=by
 unfold dy stored;rw[r.any k];by_cases e:(vs.any λJ=>decide<|J.1=k)=true
 ·rw[AA e,AA e];exact r.repl k I
 ·rw[Az e,Az e];exact Paired.snoc r ⟨rfl,I⟩
theorem KV.length{kvs:List<|κ×V}{vs:List<|κ×Vu}(r:KV kvs vs):kvs.length=vs.length:=Paired.length r
end
theorem jY{P:Vw}{w:Vx}{k:jb}(r:zo (kV k) u):(vh P w).is k u=true:=by
 cases k with
 |inl i=>obtain⟨t,e⟩:=(show ∃t,u=Value.int i t from r);subst e;exact tW P w i t
 |inr x=>obtain⟨t,e⟩:=(show ∃t,u=Value.str x t from r);subst e;exact sw P w x t
theorem on{P:Vw}{w:Vx}:∀{ks:VC} {us:Vj},zn (ks.map kV) us->ItemsAre (vh P w) ks us
 |[],_,r=>by rw[Df] at r;cases r;exact .nil
 |k::ks,_,r=>by rw[AG] at r;cases r with|cons h t=>exact .cons (jY h)<|on t
abbrev KT(H:Hp):List (VC×V)->List (VC×Addr×Vu)->Prop:=Paired λp q=>p.1=q.1/\H q.2.1=some (.tup<|p.1.map kV)/\zo p.2 q.2.2
theorem KT.val{kvs:List<|VC×V}{xs:List<|VC×Addr×Vu}(r:KT H kvs xs)(k:VC):dg (bX kvs k) ((atKey xs k).map (·.2)):=by
 induction r with
 |nil=>exact True.intro
 |@cons p q l I h t g=>
  obtain⟨U,_,j⟩:=h;by_cases e:p.1=k
  ·have J:q.1=k:=U.symm.trans e;have b:atKey (q::I) k=some q.2:=by simp[atKey,BI,J]
   rw[lm e,b];exact j
  ·have J:¬q.1=k:=λz=>e<|U.trans z;have b:atKey (q::I) k=atKey I k:=by simp[atKey,BI,J]
   rw[nz e,b];exact g
theorem KT.repl{kvs:List<|VC×V}{xs:List<|VC×Addr×Vu}(r:KT H kvs xs)(k:VC){y:V}(g:zo y u):
 KT H (kvs.map λJ=>if J.1=k then(J.1,y) else J) (xs.map<|putAt k u):=by
 induction r with
 |nil=>exact .nil
 |@cons p q o C h t j=>
  rw[AG,AG];refine .cons ?_ j;obtain⟨I,U,l⟩:=h;unfold putAt;by_cases e:p.1=k
  ·rw[AA e,AA<|I.symm.trans e];exact⟨I,U,g⟩
  ·rw[Az e,Az λz=>e<|I.trans z];exact⟨I,U,l⟩
theorem KT.put{kvs:List<|VC×V}{xs:List<|VC×Addr×Vu}(r:KT H kvs xs)(k:VC){b:Addr}{y:V}(J:H b=some (.tup<|k.map kV))(I:zo y u):
 KT H (dy kvs k y) (storedH xs k b u):=by
 have e:(kvs.any λU=>decide<|U.1=k)=(atKey xs k).isSome:=by rw[u4,(r.val k).isSome_eq,CN]
 unfold dy storedH;rw[e];by_cases q:(atKey xs k).isSome=true
 ·rw[AA q,AA q];exact r.repl k I
 ·rw[Az q,Az q];exact Paired.snoc r ⟨rfl,J,I⟩
theorem KT.keeps{kvs:List<|VC×V}{xs:List<|VC×Addr×Vu}(r:KT H kvs xs)(I:∀b ys,H b=some (.tup ys)->H' b=some (.tup ys)):KT H' kvs xs:=
 EJ r λ_ _ z=>⟨z.1,I _ _ z.2.1,z.2.2⟩
section
variable {P:Vw}{w:Vx}{a:Addr}
theorem Hl{u:HO}(ok:gF P w H h)(e:Rd H a u):vg P w H h a u:=e.ok ok
theorem oi{kvs:List<|jb×V}(ok:gF P w H h)(e:Rd H a<|.dK kvs):kvs.length<=sizeLine/\(a==sysModules)=false/\∃vs,KV kvs vs/\h.DictOf (vh P w) a vs:=
 show vg P w H h a (.dK kvs) from Hl ok e
theorem Hm{kvs:List<|jb×V}(ok:gF P w H h)(e:H a=some (.dK kvs)):kvs.length<=sizeLine/\(a==sysModules)=false/\∃vs,KV kvs vs/\h.DictOf (vh P w) a vs:=oi ok<|.inl e
theorem nL{ks:VC}(ok:gF P w H h)(e:H a=some (.tup<|ks.map kV)):(tupleKind<|vh P w).is h ks a:=by obtain⟨_,I,r,o,J,U,n,g⟩:=(show vg P w H h a (.tup<|ks.map kV) from ok a _ e);exact⟨o,I.toArray,n,J,U,g,by simpa using on r⟩
theorem uf{kvs:List<|VC×V}(ok:gF P w H h)(e:Rd H a<|.dT kvs):kvs.length<=sizeLine/\(a==sysModules)=false/\
 ∃xs,KT H kvs xs/\h.DictOfH (tupleKind<|vh P w) a xs:=by
 obtain⟨z,y,xs,r,o,U,g,j,C,T,h4,h5⟩:=(show vg P w H h a (.dT kvs) from Hl ok e);refine⟨z,y,xs,r,o,U,g,j,C,T,h4,λx I=>?_,h5⟩;have all:∀{l:List<|VC×V} {m:List<|VC×Addr×Vu},KT H l m->∀x∈m,(tupleKind<|vh P w).is h x.1 x.2.1:=by
  intro l m q
  induction q with
  |nil=>intro x I;exact nomatch I
  |@cons p q ps qs J t ih=>
   intro x I;rcases Aq.mp I with e|I
   ·subst e;exact nL ok (by rw[<-J.1];exact J.2.1)
   ·exact ih x I
 exact all r x I
theorem Nu{kvs:List<|VC×V}(ok:gF P w H h)(e:H a=some (.dT kvs)):kvs.length<=sizeLine/\(a==sysModules)=false/\
 ∃xs,KT H kvs xs/\h.DictOfH (tupleKind<|vh P w) a xs:=uf ok<|.inl e
end
def rH(H:Hp)(a:Addr)(y:V)(r:VB):Prop:=
 (∃kvs k,Rd H a (.dK kvs)/\y=kV k/\r=bX kvs k)\/∃kvs k b,Rd H a (.dT kvs)/\y=.ref b/\H b=some (.tup<|k.map kV)/\r=bX kvs k
def Ho(H:Hp)(a:Addr)(y v:V)(H':Hp):Prop:=
 (∃kvs k,H a=some (.dK kvs)/\y=kV k/\kvs.length<sizeLine/\H'=upd H a (.dK<|dy kvs k v))\/
 ∃kvs k b,H a=some (.dT kvs)/\y=.ref b/\H b=some (.tup<|k.map kV)/\kvs.length<sizeLine/\H'=upd H a (.dT<|dy kvs k v)
theorem rH.k{a:Addr}{kvs:List<|jb×V}{k:jb}(e:H a=some (.dK kvs)):rH H a (kV k) (bX kvs k):=.inl ⟨kvs,k,.inl e,rfl,rfl⟩
section
variable {a:Addr}{y v:V}{r:Vu}{o:VB}
theorem z9.big(I:z9 X pins σ H s):sysModules<s.heap.objs.size:=by have h:mainGlobals<s.heap.objs.size:=(I.mod.glob.keeps I.bk).lt;exact Nat.lt_trans (by decide) h
theorem Nv(hu:A.units+1<cLine)(I:z9 X pins σ H s)(g:rH H a y<|some v)(T:zo y u)(h:∀U s',z9 X pins σ H s'->zo v U->Q U s'):
 wpAny (model X.prog X.w) A (getItem (.ref a) u) Q E s:=by
 rcases g with⟨j,k,e,r,l⟩|⟨j,k,b,e,r,eb,l⟩
 ·subst r;obtain⟨z,hd,vs,rel,t⟩:=oi I.hok e;obtain⟨U,hw,J⟩:=EO (v:=v) (o:=valueAt vs k) (by rw[l];exact rel.val k);exact wpAny_getItem_of (jY T) t.mapOf hw<|h U _ (I.tok _) J
 ·subst r;cases (show u=Value.ref b from T);obtain⟨z,hd,xs,rel,t⟩:=uf I.hok e;obtain⟨U,hw,J⟩:=EO (v:=v) (o:=(atKey xs k).map (·.2)) (by rw[l];exact rel.val k);obtain⟨p,hp,C⟩:=Ar.mp hw;refine wpAny_getItem_heap (tupleKind_room_in1 hu) (nL I.hok eb) t hp ?_;rw[C];exact h U _ (I.tok _) J
theorem Nw(r:A.units+1<cLine)(I:z9 X pins σ H s)(g:rH H a y o)(p:zo y u)(h:∀s',z9 X pins σ H s'->Q (.bool o.isSome) s'):
 wpAny (model X.prog X.w) A (compareOp .In u<|.ref a) Q E s:=by
 rcases g with⟨J,k,e,U,l⟩|⟨J,k,b,e,U,eb,l⟩
 ·subst U;obtain⟨z,hd,t,rel,j⟩:=oi I.hok e;refine wpAny_in_of (jY p) hd j.mapOf ?_;rw[<-(rel.val k).isSome_eq,<-l];exact h _<|I.tok _
 ·subst U;cases (show u=Value.ref b from p);obtain⟨z,hd,C,rel,j⟩:=uf I.hok e;refine wpAny_in_heap (tupleKind_room_in1 r) (nL I.hok eb) hd j ?_;have q:=(rel.val k).isSome_eq;rw[CN] at q;rw[<-q,<-l];exact h _<|I.tok _
theorem Nx(r:A.units+1<cLine)(I:z9 X pins σ H s)(g:rH H a y o)(p:zo y u)(h:∀s',z9 X pins σ H s'->Q (.bool<|!o.isSome) s'):
 wpAny (model X.prog X.w) A (compareOp .NotIn u<|.ref a) Q E s:=by
 rcases g with⟨J,k,e,U,l⟩|⟨J,k,b,e,U,eb,l⟩
 ·subst U;obtain⟨z,hd,t,rel,j⟩:=oi I.hok e;refine wpAny_notIn_of (jY p) hd j.mapOf ?_;rw[<-(rel.val k).isSome_eq,<-l];exact h _<|I.tok _
 ·subst U;cases (show u=Value.ref b from p);obtain⟨z,hd,C,rel,j⟩:=uf I.hok e;refine wpAny_notIn_heap (tupleKind_room_in1 r) (nL I.hok eb) hd j ?_;have q:=(rel.val k).isSome_eq;rw[CN] at q;rw[<-q,<-l];exact h _<|I.tok _
theorem rC{J:HO}(I:z9 X pins σ H s)(U:Ee<|H a)(hs:Heap.SameBut a s.heap h')(g:∃q,h'.get? a=some q)(new:vg X.prog X.w (upd H a J) h' a J)(l:0<t':=by walk_at "t"):
 z9 X pins σ (upd H a J) { s with heap:=h',toks:=t' }:=
 I.write (x:=a) (e:=a) U (.inl rfl) (λb q j z=>(hs.2 b j).trans z) g new
theorem Hq{P:Vw}{w:Vx}{kvs:List<|jb×V}{vs:List<|jb×Vu}(z:kvs.length<=sizeLine)(hd:(a==sysModules)=false)(rel:KV kvs vs)(I:h'.DictOf (vh P w) a vs):
 vg P w H' h' a (.dK kvs):=⟨z,hd,vs,rel,I⟩
theorem zD{Q:Vf}(hu:A.units+1<cLine)(I:z9 X pins σ H s)(g:Ho H a y v H')(ry:zo y u)(rv:zo v r)(h:∀s',z9 X pins σ H' s'->Q () s'):
 wpAny (model X.prog X.w) A (setItem (.ref a) u r) Q E s:=by
 rcases g with⟨J,k,e,o,l,p⟩|⟨J,k,b,e,o,eb,l,p⟩
 ·subst o p;obtain⟨z,hd,vs,rel,t⟩:=Hm I.hok e;have C:vs.length<=sizeLine:=by rw[<-rel.length];exact z
  have T:(dy J k v).length<=sizeLine:=by have:=fA J k v;lia
  refine wpAny_setItem_pairs (hsz:=C) (jY ry) t λh' U hs=>h _ ?_;have he:∃q,h'.get? a=some q:=let ⟨q,_,_,j,_⟩:=U;⟨q,j⟩;exact rC I (by rw[e];exact True.intro) hs he<|Hq T hd (rel.put k rv) U
 ·subst o p;cases (show u=Value.ref b from ry);obtain⟨z,hd,xs,rel,t⟩:=Nu I.hok e;have C:xs.length<=sizeLine:=by rw[<-Paired.length rel];exact z
  have T:(dy J k v).length<=sizeLine:=by have:=fA J k v;lia
  refine wpAny_setItem_heap (hsz:=C) (tupleKind_room_in1 hu) (nL I.hok eb) t λh' U hs=>h _ ?_;obtain⟨q,es,ep,j,h2,h3,h4,_,h5⟩:=U;refine rC I (by rw[e];exact True.intro) hs ⟨q,j⟩ ⟨T,hd,_,(rel.put k eb rv).keeps λc ys ec=>?_,q,es,ep,j,h2,h3,h4,h5⟩;rw[qu<|Lv ec e λz=>nomatch z];exact ec
end
section
variable {a:Addr}{kvs:List<|jb×V}{k:jb}
end
def FO(i:Expr):Prop:=∀I J,subscripted i false I J=operate [I,J] (getItem I J)
theorem Ny{w:Vx}{slice:Expr}{T id:Vz}
 (t:typeLookup (.type T) "__getitem__" = pure (some<|.builtin id)) (hs:FO slice)
 (h:wpAny (model prog w) A (eval value env) (λo U=>wpAny (model prog w) A (eval slice env) (λi I=>I.TypeIs o T/\wpAny (model prog w) A (getItem o i) Q E I) E U) E s):
 wpAny (model prog w) A (eval (.Subscript value slice pos) env) Q E s:=by
 refine Subscript_<|A2 h (λo U j=>A2 j (λi I J=>?_) λ_ _ x=>x) λ_ _ x=>x;obtain⟨p,J⟩:=J;unfold subscriptTail;refine Ab ?_;rw[getitemInPython_of_ne p.not_modules];refine Ab<|wpAny_specialOf p t ?_;have xh:wpAny (model prog w) A (subscripted slice false o i) (λr g=>wpAny (model prog w) A (letTemporaryGo value o r >>= λ_=>pure r) Q E g) E I:=by rw[hs o i];exact wpAny_operating<|A2 J (λr g l=>Ab<|wpAny_letTemporaryGo<|An l) λ_ _ x=>x
 first
  |exact An<|Ab xh
  |exact Ab<|An<|Ab xh
  |exact Ab xh
theorem tL{a:Addr}{y:V}{o:VB}(I:z9 X pins σ H s)(g:rH H a y o):s.TypeIs (.ref a) "dict" := by
 rcases g with⟨J,k,e,_,_⟩|⟨J,k,b,e,_,_,_⟩
 ·obtain⟨_,_,j,_,U⟩:=oi I.hok e;exact U.typeIs
 ·obtain⟨_,_,l,_,U⟩:=uf I.hok e;exact U.typeIs
def Nz(td ty:TE):TE:=λσ H Q=>td σ H λx H1=>ty σ H1 λy H2=>∃a v,x=.ref a/\rH H2 a y (some v)/\Q v H2
def NA(td ty tv:TE):TS:=λD σ H=>tv σ H λv H1=>td σ H1 λx H2=>ty σ H2 λy J=>∃a I,x=.ref a/\Ho J a y v I/\D.nx σ I
section
variable {i:Expr}{tpos:Pos}{td ty tv:TE}
theorem NB(p:X.A.units+1<cLine)(r:PE X o td)(hi:PE X i ty)(hs:FO i):PE X (.Subscript o i pos) (Nz td ty):=by intro J s j H Q I h;refine Ny DI.lookup hs<|ah (r J s j H _ I h) λu t x C T rx q1=>aY (hi J t j C _ T q1) λiv s2 ψ=>?_;obtain⟨y,H2,l,ry,a,v,ex,g,q2⟩:=ψ;subst ex;obtain rfl:u=Value.ref a:=rx;exact⟨tL l g,Nv p l g ry λw' s3 I3 U=>⟨v,H2,I3,U,q2⟩⟩
theorem NC(j:X.A.units+1<cLine)(l:PE X o td)(hi:PE X i ty)(p:PE X value tv)(hs:swapsWith value (some<|.Subscript o i hQ) pos.line X.env=pure false):
 PS X (.Assign [.Subscript o i hQ] value pos) (NA td ty tv):=by
 intro J s U H D I h;refine wpAny_Assign_Subscript (ah (p J s U H _ I h) λr t v C T rv q1=>ah (l J t U C _ T q1) λu s2 x H2 I2 rx q2=>aY (hi J s2 U H2 _ I2 q2) λiv s3 ψ=>?_) hs;obtain⟨y,H3,I3,ry,a,H4,ex,g,q3⟩:=ψ;subst ex;obtain rfl:u=Value.ref a:=rx;exact zD j I3 g ry rv λs4 I4=>⟨U,H4,I4,q3⟩
end
theorem tE{P:Vw}{w:Vx}(h:Vy)(I:sysModules<h.objs.size):vg P w H (h.push { cls:=.type "dict",data:=.dict #[] }) h.objs.size (.dK []):=
 ⟨A8 _,beq_eq_false_iff_ne.mpr<|A4<|A9 I,[],.nil,Heap.DictOf.new h⟩
def ND:TE:=λ_ H Q=>∀p,H p=none->Q (.ref p) (upd H p<|.dK [])
theorem NE:PE X (.Dict [] [] pos) ND:=λJ s U H Q I h=>
 wpAny_Dict_empty ⟨.ref s.heap.objs.size,_,I.laid (a:=s.heap.objs.size) (o:=.dK []) (t':=s.toks) (λ_ _ q=>sy _ q) (Al _)<|tE s.heap I.big,rfl,h _<|I.hok.fresh<|Al _⟩
def qN:List (TE×TE)->St->Hp->(List (V×V)->Hp->Prop)->Prop
 |[],_,H,Q=>Q [] H
 |(tk,tv)::r,σ,H,Q=>tk σ H λx H1=>tv σ H1 λy H2=>qN r σ H2 λps I=>Q ((x,y)::ps) I
abbrev VV:List (V×V)->List (Vu×Vu)->Prop:=Paired λp q=>zo p.1 q.1/\zo p.2 q.2
def El(X:Cx)(pos:Pos)(keys:List<|Option Expr)(values:Vn)(I:List<|TE×TE):Prop:=
 ∀(pins:List<|Addr×Obj) (s:Vv) (σ:St) (H:Hp) (Q:List (V×V)->Hp->Prop),z9 X pins σ H s->qN I σ H Q->
  wpAny (model X.prog X.w) X.A (evalPairs<|pairTrees keys values X.env pos) (λvs s'=>∃ps H',z9 X pins σ H' s'/\VV ps vs/\Q ps H') X.xe s
theorem NF :El X pos [] [] []:=λJ s U H Q I h=>pairTrees_nil_walk ⟨[],H,I,.nil,h⟩
theorem hX{k v:Expr}{ks:List<|Option Expr}{vs:Vn}{tk tv:TE}{U:List<|TE×TE}(j:PE X k tk)(l:PE X v tv)(o:El X pos ks vs U):
 El X pos (some k::ks) (v::vs) ((tk,tv)::U):=λJ s g H Q I h=>
 pairTrees_cons_walk (ah (j J s g H _ I h) λu p x r t C T=>ah (l J p g r _ t T) λw2 s2 y H2 I2 ry q2=>
  aY (o J s2 g H2 _ I2 q2) λws s3 ⟨ps,H3,I3,rel,q3⟩=>⟨(x,y)::ps,H3,I3,.cons ⟨C,ry⟩ rel,q3⟩)
def iy(kvs more:List<|jb×V):List (jb×V):=more.foldl (λI J=>dy I J.1 J.2) kvs
theorem KV.merge:∀{more:List<|jb×V} {rs:List<|jb×Vu} {kvs:List<|jb×V} {vs:List<|jb×Vu},KV more rs->KV kvs vs->KV (iy kvs more) (merged vs rs):=by
 intro more rs kvs vs r;unfold KV at r
 induction r generalizing kvs vs with
 |nil=>intro q;exact q
 |@cons p q U g h t I=>
  intro J;have e:KV (dy kvs p.1 p.2) (stored vs q.1 q.2):=by have:=J.put p.1 h.2;rw[<-h.1];exact this
  exact I e
theorem gK:∀(more kvs:List<|jb×V),(iy kvs more).length<=kvs.length+more.length
 |[],kvs=>by show kvs.length<=kvs.length+0;lia
 |p::r,kvs=>by have I:=gK r<|dy kvs p.1 p.2;have J:=fA kvs p.1 p.2;show(iy (dy kvs p.1 p.2) r).length<=_;rw[AK];lia
theorem mS{P:Vw}{w:Vx}:∀{kvs:List<|jb×V} {I:List<|Vu×Vu},VV (kvs.map λJ=>(kV J.1,J.2)) I->∃rs,Carries (vh P w) I rs/\KV kvs rs
 |[],_,r=>by rw[Df] at r;cases r;exact⟨[],True.intro,.nil⟩
 |p::kvs,_,r=>by
  rw[AG] at r;cases r with
  |@cons a b as bs h t=>
   obtain⟨rs,c,q⟩:=mS (P:=P) (w:=w) t;obtain⟨b1,b2⟩:=b;exact⟨(p.1,b2)::rs,⟨jY h.1,rfl,c⟩,.cons ⟨rfl,h.2⟩ q⟩
def NG(I:List<|TE×TE):TE:=λσ H Q=>∀p,H p=none->qN I σ (upd H p<|.dK []) λps H2=>H2 p=some (.dK [])/\∃kvs:List (jb×V),ps=kvs.map (λJ=>(kV J.1,J.2))/\kvs.length<=15/\Q (.ref p) (upd H2 p<|.dK<|iy [] kvs)
theorem NH{keys:List<|Option Expr}{values:Vn}{J:List<|TE×TE}(h:El X pos keys values J)(U:keys.all (·.isSome)=true)(t:keys.length=values.length)(C:keys≠[])
 (p:keys.length<=15):PE X (.Dict keys values pos) (NG J):=by
 intro g s T H Q I q;have hn:=I.hok.fresh<|Al s.heap.objs.size;have I1:=I.laid (a:=s.heap.objs.size) (o:=.dK []) (h':=s.heap.push { cls:=.type "dict",data:=.dict #[] }) (t':=s.toks) (λ_ _ q=>sy _ q) (Al _)<|tE s.heap I.big;refine wpAny_Dict_walk (knd:=vh X.prog X.w) U t C p<|aY (h g _ T _ _ I1<|q _ hn) λws s2 ψ=>?_;obtain⟨ps,H2,r,rel,e,j,ep,lk,q2⟩:=ψ;subst ep;obtain⟨rs,c,rk⟩:=mS (P:=X.prog) (w:=X.w) rel;obtain⟨z,hd,a0,r0,dd⟩:=Hm r.hok e;cases r0;refine⟨rs,c,dd,λh' l hs=>⟨.ref s.heap.objs.size,_,?_,rfl,q2⟩⟩;have hz:(iy [] j).length<=sizeLine:=by have h1:=gK j [];rw[Du] at h1;rw[sizeLine_eq];lia
 have he:∃q,h'.get? s.heap.objs.size=some q:=let ⟨q,_,_,hq,_⟩:=l;⟨q,hq⟩;exact rC r (by rw[e];exact True.intro) hs he<|Hq hz hd (rk.merge .nil) l
section
variable {a:Addr}{y d:V}{r:Vu}{o:VB}
end
section
variable {f:Expr}{td ty tx:TE}
end
section
variable {a:Addr}{kvs:List<|jb×V}
end
section
variable {a:Addr}{y:V}
end
end L2
namespace HT
open PySem PyProof.Rows
section
open PySem.SeqAt
open PySem.AutoSeq1 (wpAny_loadPart')
open PySem.MeetsSeq PySem.MeetsSeq2 PySem.MeetsSeq3
end
section
variable {w:Vx}
theorem cat_tup{t b:Addr}{I:Vj}(ht:IsTup s.heap t vs.toArray)(hb:IsTup s.heap b I.toArray)(p:vs≠[])
 (h1:I=[]->Q (.ref t) s) (h2:I≠[]->Q (.ref s.heap.objs.size) { s with heap:=s.heap.push { cls:=.type "tuple",data:=.seq (vs++I).toArray } })
 (hsz:vs.length+I.length<=sizeLine):wpAny (model prog w) A (binaryOp .Add (.ref t)<|.ref b) Q E s:=by
 obtain⟨⟨cls,r,data,C⟩,o,T,n,hd⟩:=id ht;obtain⟨⟨a0,U,data2,g⟩,J,j,n2,l⟩:=id hb;simp only at T hd j l;subst T hd j l;have e:vs.toArray++I.toArray=(vs++I).toArray:=by simp
 by_cases hw:I=[]
 ·exact concat_meets ⟨_,o,rfl⟩ ⟨_,J,rfl⟩ noFill_tuple_add seq_tuple_add PySem.F.slot_tuple_add PySem.F.entry_tuple_add (PySem.F.args_tuple_add_2 _ _)
   (tuple_addW1 t b vs.toArray I.toArray n n2 r U C g (by simpa using p) (by simp[hw])) ⟨o,J,h1 hw⟩
 ·refine concat_meets ⟨_,o,rfl⟩ ⟨_,J,rfl⟩ noFill_tuple_add seq_tuple_add PySem.F.slot_tuple_add PySem.F.entry_tuple_add (PySem.F.args_tuple_add_2 _ _)
   (tuple_addW2 t b vs.toArray I.toArray n n2 r U C g (by simpa using p) (by simpa using hw) (by rw[Au,Au];exact hsz)) ⟨o,J,?_⟩
  rw[e];exact h2 hw
def sIx(n d:Nat):Vr->Nat
 |none=>d
 |some v=>if v<0 then(v+(n:Int)).toNat else min v.toNat n
theorem sIx_none(n d:Nat):sIx n d none=d:=rfl
theorem sIx_nat(n d k:Nat):sIx n d (some (k:Int))=min k n:=by show(if (k:Int)<0 then((k:Int)+(n:Int)).toNat else min (k:Int).toNat n)=min k n;rw[Az (by lia),Bn]
theorem sIx_le(n d:Nat)(hd:d<=n)(o:Vr):sIx n d o<=n:=by
 cases o with
 |none=>exact hd
 |some v=>
  show(if v<0 then(v+(n:Int)).toNat else min v.toNat n)<=n;by_cases I:v<0
  ·rw[AA I];lia
  ·rw[Az I];exact Nat.min_le_right _ _
theorem yc(v:Int)(n d:Nat):(if v<0 then max (v+(n:Int)) 0 else min v (n:Int))=((sIx n d (some v):Nat):Int):=by
 show(if v<0 then max (v+(n:Int)) 0 else min v (n:Int))=(((if v<0 then(v+(n:Int)).toNat else min v.toNat n):Nat):Int);by_cases I:v<0
 ·simp only[AA I];lia
 ·simp only[Az I];lia
theorem wK(lo hi:Vr)(n:Nat):Builtin.Slice.sliceAdjust lo hi 1 (n:Int)=(((sIx n 0 lo:Nat):Int),(sIx n n hi:Int)):=by
 have I:¬((1:Int)<0):=by lia
 unfold Builtin.Slice.sliceAdjust;simp only[I,if_false];refine Prod.ext ?_ ?_
 ·cases lo with|none=>rfl|some v=>exact yc v n 0
 ·cases hi with|none=>rfl|some v=>exact yc v n n
theorem xJ(i j:Nat):Builtin.Slice.slicePlaces (i:Int) (j:Int) 1=j-i:=by
 unfold Builtin.Slice.slicePlaces;have I:(1:Int) > 0:=by lia
 simp only[I,if_true,Int.ediv_one];split<;>lia
theorem lw{o:Vr}{Q:Vr->Vv->Prop}(p:IsPart v o)(h:Q o s):wpAny (model prog w) A (Builtin.Slice.slicePartIndex v) Q E s:=by cases p with|none=>exact slicePart_none h|int i t=>exact slicePart_int h
theorem jN{j:Addr}{U g:Vu}{lo hi:Vr}{Q:Int×Int×Nat->Vv->Prop}(hs:s.heap.IsSliceOf j U g .none)(pl:IsPart U lo)(l:IsPart g hi)
 (h:Q (((sIx n 0 lo:Nat):Int),1,sIx n n hi-sIx n 0 lo) s):wpAny (model prog w) A (Builtin.Slice.sliceApplied (.ref j)<|pure (n:Int)) Q E s:=by
 obtain⟨os,I,o,J⟩:=id hs;unfold Builtin.Slice.sliceApplied Builtin.Slice.sliceFields;refine Ab<|Ab<|BS I J (x:=U) rfl<|Ab<|BS I J (x:=g) rfl<|Ab<|BS I J (x:=.none) rfl<|An ?_;refine Ab<|slicePart_none ?_;show wpAny _ _ (if ((1:Int)==0)=true then _ else _) _ _ s;rw[Az (by decide)];refine Ab<|lw pl<|Ab<|lw l<|Ab<|An ?_;show wpAny _ _ (match Builtin.Slice.sliceAdjust lo hi 1 (n:Int) with|(lo,hi)=>pure (lo,(1:Int),Builtin.Slice.slicePlaces lo hi 1)) _ _ s;rw[wK lo hi n];show wpAny _ _ (pure (((sIx n 0 lo:Nat):Int),(1:Int),Builtin.Slice.slicePlaces ((sIx n 0 lo:Nat):Int) (sIx n n hi:Int) 1)) _ _ s;rw[xJ];exact An h
theorem NI(xs:Vk)(i k:Nat):((List.range k).filterMap λ(m:Nat)=>xs[((i:Int)+(m:Int)*1).toNat]?).toArray=((xs.toList.drop i).take k).toArray:=by
 have e:(λ(m:Nat)=>xs[((i:Int)+(m:Int)*1).toNat]?)=λm=>xs[i+m]?:=by
  funext m;have:((i:Int)+(m:Int)*1).toNat=i+m:=by lia
  rw[this]
 rw[e];have:=pick_run xs i k;rw[List.filterMap_map] at this;have I:((λx=>xs[x]?)∘λx=>i+x)=λm=>xs[i+m]?:=rfl;rw[I] at this;rw[this]
theorem getItem_tuple_cut{t U:Addr}{p r:Vu}{lo hi:Vr}(J:IsTup s.heap t items)(hs:s.heap.IsSliceOf U p r .none)(pl:IsPart p lo)(C:IsPart r hi)
 (hw:¬(sIx items.size 0 lo=0/\sIx items.size items.size hi=items.size))
 (h:Q (.ref s.heap.objs.size) { s with heap:=s.heap.push { cls:=.type "tuple",data:=.seq ((items.toList.drop<|sIx items.size 0 lo).take<|sIx items.size items.size hi-sIx items.size 0 lo).toArray } })
 (hsz:items.size<=sizeLine):wpAny (model prog w) A (getItem (.ref t)<|.ref U) Q E s:=by
 have I:sizeOk (.seq ((items.toList.drop<|sIx items.size 0 lo).take<|sIx items.size items.size hi-sIx items.size 0 lo).toArray):=by show((items.toList.drop<|sIx items.size 0 lo).take<|sIx items.size items.size hi-sIx items.size 0 lo).toArray.size<=sizeLine;rw[Au,AM,BC,A5];lia
 have hj:sIx items.size items.size hi<=items.size:=sIx_le _ _ (Al _) hi;obtain⟨os,g,j,T⟩:=id hs;have l:s.TypeIs (.ref U) "slice" := ⟨os,g,j⟩;unfold getItem
 try with_reducible refine Ba ?_
 first|refine Ab (An ?_)|skip
 refine Ab<|wpAny_sequenceKey J.typeIs (by decide) ?_;refine Ab (wpAny_callSpecial?_slot (name:=Str.ofString "__getitem__") J.typeIs Cs
  (wpAny_call_entry Cs J.typeIs entry_tuple_getitem ?_<|args_tuple_getitem _ _))
 show wpAny _ _ (Builtin.Tuple.tupleItemsOf (.ref t) >>= _) _ _ s;refine Ab<|tupleItemsOf_ J ?_;refine Ab<|wpAny_typeOf l ?_;rw[AA (by decide)];refine Ab<|jN hs pl C ?_;have o:¬((((sIx items.size 0 lo:Nat):Int)==0&&(1:Int)==1&&(sIx items.size items.size hi-sIx items.size 0 lo)==items.size)=true):=by intro q;rw[Bc,Bc] at q;have q1:((sIx items.size 0 lo:Nat):Int)=0:=eq_of_beq q.1.1;have q2:sIx items.size items.size hi-sIx items.size 0 lo=items.size:=eq_of_beq q.2;exact hw ⟨by lia,by lia⟩
 show wpAny _ _ (if (((sIx items.size 0 lo:Nat):Int)==0&&(1:Int)==1&&(sIx items.size items.size hi-sIx items.size 0 lo)==items.size)=true then _ else _) _ _ s;rw[Az o,NI]
 first
  |exact Ab (m:=Builtin.Tuple.tupleExact _)<|BY (An ⟨_,rfl,An h⟩) I
  |exact Ab (m:=Builtin.Tuple.tupleExact _)<|BY (Ab<|An<|An ⟨_,rfl,An h⟩) I
  |exact Ab<|Ab (m:=Builtin.Tuple.tupleExact _)<|BY (An<|An ⟨_,rfl,An h⟩) I
  |exact Ab<|Ab (m:=Builtin.Tuple.tupleExact _)<|BY (An ⟨_,rfl,An h⟩) I
end
end HT
namespace L2
open PySem PySem.Spec PyProof.Rows
abbrev TO:=St->Hp->(Vr->Hp->Prop)->Prop
def PO(X:Cx)(e:Option Expr)(t:TO):Prop:=
 ∀(pins:List<|Addr×Obj) (s:Vv) (σ:St) (H:Hp) (Q:Vr->Hp->Prop),z9 X pins σ H s->t σ H Q->
  wpAny (model X.prog X.w) X.A (evalPart e X.env) (λu s'=>∃o H',z9 X pins σ H' s'/\IsPart u o/\Q o H') X.xe s
def NJ:TO:=λ_ H Q=>Q none H
def NK(t:TE):TO:=λσ H Q=>t σ H λx H1=>∃i,x=.int i/\Q (some i) H1
section
variable {te:TE}{lo hi:Option Expr}{tl th:TO}
theorem NL:PO X none NJ:=by intro J s U H Q I h;rw[evalPart_none];exact An ⟨none,H,I,.none,h⟩
theorem NM(h:PE X e te):PO X (some e) (NK te):=by intro J s U H Q I hw;rw[evalPart_some];refine ah (h J s U H _ I hw) λu p x g j l o=>?_;obtain⟨i,rfl,q⟩:=o;obtain⟨t,rfl⟩:=l;exact⟨some i,g,j,.int i t,q⟩
def sK(X:Cx)(r:V->Vr->Vr->Hp->VK->Prop):Prop:=
 ∀(pins:List<|Addr×Obj) (s:Vv) (σ:St) (H:Hp) (x:V) (v I J:Vu) (lo hi:Vr) (U:Addr) (Q:VK),z9 X pins σ H s->zo x v->s.heap.IsSliceOf U I J .none->IsPart I lo->IsPart J hi->r x lo hi H Q->
  ∃T id,typeLookup (.type T) "__getitem__" = pure (some<|.builtin id)/\s.TypeIs v T/\wpAny (model X.prog X.w) X.A (getItem v<|.ref U) (EP X pins σ Q) X.xe s
theorem sK.or{r U:V->Vr->Vr->Hp->VK->Prop}(h:sK X r)(h':sK X U):sK X (λx lo hi H Q=>r x lo hi H Q\/U x lo hi H Q):=by
 intro J s g H x v j l lo hi o Q I p t pl C q;rcases q with q|q
 ·exact h J s g H x v j l lo hi o Q I p t pl C q
 ·exact h' J s g H x v j l lo hi o Q I p t pl C q
def NN(r:V->Vr->Vr->Hp->VK->Prop)(te:TE)(tl th:TO):TE:=λσ H Q=>te σ H λx H1=>tl σ H1 λl H2=>th σ H2 λu I=>r x l u I Q
theorem NO{r:V->Vr->Vr->Hp->VK->Prop}(t:sK X r)(C:PE X e te)(hl:PO X lo tl)(hu:PO X hi th):PE X (.Subscript e (.Slice lo hi none p2) pos) (NN r te tl th):=by intro J s g H Q I h;refine Subscript_<|aY (C J s g H _ I h) λv s1 ψ=>?_;obtain⟨x,H1,I1,r1,q1⟩:=ψ;refine wpAny_Slice<|aY (hl J s1 g H1 _ I1 q1) λj s2 ⟨l,H2,I2,pl,q2⟩=>aY (hu J s2 g H2 _ I2 q2) λo U ψ=>?_;obtain⟨u,p,I3,pu,q3⟩:=ψ;rw[evalPart_none];refine An ?_;have I4:z9 X J g p { U with heap:=U.heap.push { cls:=.type "slice",data:=.fields #[j,o,.none] } }:=I3.kept (t':=U.toks) λb ob q=>sy _ q;obtain⟨T,id,hT,ht,hg⟩:=t J { U with heap:=U.heap.push { cls:=.type "slice",data:=.fields #[j,o,.none] } } g p x v j o l u U.heap.objs.size Q I4 r1 (Heap.IsSliceOf.new ..) pl pu q3;show wpAny (model X.prog X.w) X.A (subscriptTail e (.Slice lo hi none p2) v<|.ref U.heap.objs.size) (EP X J g Q) X.xe { U with heap:=U.heap.push { cls:=.type "slice",data:=.fields #[j,o,.none] } };exact tail_any (ops:=[.ref U.heap.objs.size,v]) ht hT hg (by with_unfolding_all rfl)
def t8(xs:VA)(lo hi:Vr):VA:=(xs.drop<|HT.sIx xs.length 0 lo).take<|HT.sIx xs.length xs.length hi-HT.sIx xs.length 0 lo
theorem kH(xs:VA)(lo hi:Vr):(t8 xs lo hi).length<=xs.length:=by unfold t8;rw[AM,BC];lia
def NP(K:Af):V->Vr->Vr->Hp->VK->Prop:=λx lo hi H Q=>∃a xs,x=.ref a/\cx K H a xs/\
 ¬(HT.sIx xs.length 0 lo=0/\HT.sIx xs.length xs.length hi=xs.length)/\∀p,H p=none->Q (.ref p) (upd H p<|.tup<|t8 xs lo hi)
theorem NQ:sK X (NP X.K):=by
 intro l s σ H x v vl vu lo g sl Q I C T pl pu h;obtain⟨a,U,rfl,hx,hw,q⟩:=h;cases C;obtain⟨j,r,p,t⟩:=I.tuple hx;have J:j.toArray.size=U.length:=by rw[Au];exact r.length.symm
 refine⟨"tuple",_,Cs.lookup,p.typeIs,?_⟩;refine HT.getItem_tuple_cut p T pl pu (by rw[J];exact hw) ?_ (by rw[J];exact t);rw[J];refine⟨.ref s.heap.objs.size,_,I.laid (t':=s.toks) (o:=.tup<|t8 U lo g) (λb ob q=>sy _ q) (Al _) ?_,rfl,q _<|I.hok.fresh<|Al _⟩;exact⟨AO (kH U lo g) t,_,(r.drop<|HT.sIx U.length 0 lo).take<|HT.sIx U.length U.length g-HT.sIx U.length 0 lo,IsTup.new _ _⟩
def NR(K:Af):R2:=λx y H Q=>∃a b xs ys,x=.ref a/\y=.ref b/\cx K H a xs/\cx K H b ys/\xs≠[]/\xs.length+ys.length<=sizeLine/\
 (ys=[]->Q (.ref a) H)/\(ys≠[]->∀p,H p=none->Q (.ref p) (upd H p<|.tup<|xs++ys))
theorem zn.nil_iff(r:zn xs us):us=[]↔xs=[]:=by cases r with|nil=>simp|cons _ _=>simp
theorem NS:aD X (binaryOp .Add) (NR X.K):=by intro g s σ H x y v u Q I p r h;obtain⟨a,b,t,C,rfl,rfl,T,hb,hx,j,q1,q2⟩:=h;cases p;cases r;obtain⟨a0,U,p1,_⟩:=I.tuple T;obtain⟨l,J,p2,_⟩:=I.tuple hb;refine HT.cat_tup p1 p2 (λz=>hx<|U.nil_iff.mp z) (λz=>⟨.ref a,H,I,rfl,q1<|J.nil_iff.mp z⟩) (λz=>?_) (by rw[<-U.length,<-J.length];exact j);refine⟨.ref s.heap.objs.size,_,I.laid (t':=s.toks) (o:=.tup<|t++C) (λb ob q=>sy _ q) (Al _) ?_,rfl,q2 (λw=>z<|J.nil_iff.mpr w) _<|I.hok.fresh<|Al _⟩;exact⟨by rw[Aa];exact j,_,U.append J,IsTup.new _ _⟩
end
def f_(n:Nat)(i:Int):Option Nat:=if 0<=i then(if i<n then some i.toNat else none) else if -(n:Int)<=i then some (i+n).toNat else none
def bz(xs:List α)(i:Int):Option α:=(f_ xs.length i).bind λj=>xs[j]?
theorem yM{i:Int}(h:f_ n i=some j):seqIndex? i n=some j/\j<n /\ -(n:Int)<=i/\i<n:=by
 unfold f_ at h;by_cases J:0<=i
 ·rw[AA J] at h;by_cases I:i<n
  ·rw[AA I] at h;have e:i.toNat=j:=AS h;exact⟨by rw[seqIndex_of J I,e],by lia,by lia,I⟩
  ·rw[Az I] at h;cases h
 ·rw[Az J] at h;by_cases I : -(n:Int)<=i
  ·rw[AA I] at h;have e:(i+n).toNat=j:=AS h;exact⟨by rw[seqIndex_neg (by lia) I,e],by lia,I,by lia⟩
  ·rw[Az I] at h;cases h
theorem rO{xs:List α}{i:Int}{v:α}(h:bz xs i=some v):∃j,seqIndex? i xs.length=some j/\xs[j]?=some v/\j<xs.length /\ -(xs.length:Int)<=i/\i<xs.length:=by
 unfold bz at h;cases e:f_ xs.length i with
 |none=>rw[e] at h;cases h
 |some j=>
  rw[e] at h;obtain⟨I,J,U,g⟩:=yM e;exact⟨j,I,h,J,U,g⟩
theorem jl{xs:List α}{v:α}(h:xs[j]?=some v):bz xs (j:Int)=some v:=by
 have I:j<xs.length:=(AL.mp h).1;have e:f_ xs.length (j:Int)=some j:=by unfold f_;rw[AA (by lia),AA (by lia)];simp
 unfold bz;rw[e];exact h
def rX(b:Expr):Prop:=∀o i,subscripted b false o i=operate [o,i] (getItem o i)
def IxR(X:Cx)(r:R2):Prop:=
 ∀(value slice:Expr) (pins:List<|Addr×Obj) (s:Vv) (σ:St) (H:Hp) (x y:V) (v u:Vu) (Q:VK),z9 X pins σ H s->zo x v->zo y u->r x y H Q->
  subscripted slice false v u=operate [v,u] (getItem v u)->wpAny (model X.prog X.w) X.A (subscriptTail value slice v u) (EP X pins σ Q) X.xe s
def Hr(X:Cx)(id:Vz)(r:V->VA->Hp->VK->Prop):Prop:=
 ∀(pins:List<|Addr×Obj) (s:Vv) (σ:St) (H:Hp) (x:V) (xs:VA) (v:Vu) (us:Vj) (Q:VK),z9 X pins σ H s->zo x v->zn xs us->r x xs H Q->
  wpAny (model X.prog X.w) X.A (call (.builtin id)<|v::us) (EP X pins σ Q) X.xe s
section
variable {a b:Expr}{ta tb:TE}
theorem NT{r:R2}(U:IxR X r)(g:PE X a ta)(j:PE X b tb)(hs:rX b):PE X (.Subscript a b pos) (Ej r ta tb):=by intro J s l H Q I h;exact Subscript_<|FJ g j I h λv u o x y p t C T q=>U a b J o l p x y v u Q t C T q<|hs _ _
def NU(K:Af):R2:=λx y H Q=>∃p xs i v,x=.ref p/\y=.int i/\aO K H p xs/\bz xs i=some v/\Q v H
def NV(K:Af):R2:=λx y H Q=>∃p xs i v,x=.ref p/\y=.int i/\cx K H p xs/\bz xs i=some v/\Q v H
def NW:R2:=λx y H Q=>∃z i c,x=.str z/\y=.int i/\z.length<=sizeLine/\bz z.cps.toList i=some c/\Q (.str ⟨#[c]⟩) H
theorem NX:IxR X (NU X.K):=by
 intro value slice J s C H x y v u Q I rx ry h T;obtain⟨p,xs,i,z,rfl,rfl,hq,he,q⟩:=h;cases rx;obtain⟨t,rfl⟩:=ry;obtain⟨g,r,pl,hz⟩:=I.list hq;obtain⟨j,U,h2,h3,h4,h5⟩:=rO he;obtain⟨w,ew,l⟩:=r.get h2;have hl:=r.length;have hn:=jC;have xh:EP X J C Q w s:=⟨z,H,I,l,q⟩;by_cases h0:0<=i
 ·have o:i.toNat=j:=by rw[seqIndex_of h0 h5] at U;exact AS U
  exact item_listR pl.isList h0 (by lia) (by rw[o];simpa using ew) xh T
 ·have o:(i+(g.toArray.size:Int)).toNat=j:=by rw[seqIndex_neg (by lia) h4] at U;rw[Au,<-hl];exact AS U
  exact subscriptTail_builtinR (x:=w) pl.isList.typeIs slot_list_getitem.lookup
   (wpAny_getItem_list_neg (Q:=λr s'=>r=w/\EP X J C Q r s') pl.isList (by lia) (by rw[Au]<;>lia) (by lia) (by rw[o];simpa using ew) ⟨rfl,xh⟩) T
theorem NY:IxR X (NV X.K):=by
 intro value slice J s g H x y v u Q I l o h C;obtain⟨p,xs,i,z,rfl,rfl,T,he,q⟩:=h;cases l;obtain⟨t,rfl⟩:=o;obtain⟨a0,r,pl,hz⟩:=I.tuple T;obtain⟨j,h1,h2,h3,h4,h5⟩:=rO he;obtain⟨w,ew,U⟩:=r.get h2;have hl:=r.length;have hn:=jC;have xh:EP X J g Q w s:=⟨z,H,I,U,q⟩;exact subscriptTail_builtinR (x:=w) pl.typeIs slot_tuple_getitem.lookup
  (getItem_tuple (j:=j) (Q:=λr s'=>r=w/\EP X J g Q r s') pl (by lia) (by lia) (by rw[Au,<-hl];exact h1) (by simpa using ew) ⟨rfl,xh⟩) C
theorem NZ:IxR X NW:=by
 intro value slice J s σ H x y v u Q I g l h o;obtain⟨z,i,c,rfl,rfl,hz,p,q⟩:=h;obtain⟨t,rfl⟩:=g;obtain⟨t',rfl⟩:=l;obtain⟨j,U,r,h3,C,T⟩:=rO p;have hl:z.cps.toList.length=z.length:=by simp[Str.length]
 rw[hl] at U C T;have hn:=jC;exact tail_any (typeIs_str s z t) slot_str_getitem.lookup (getItem_str (c:=c) (by have e1:decide (i < -(2 ^ 63:Int))=false:=Av (by lia);have e2:decide (i>=2 ^ 63)=false:=Av (by lia);rw[e1,e2,Bool.or_false]) (by rw[U];simpa using r) ⟨.str ⟨#[c]⟩,H,I.tok _,⟨_,rfl⟩,q⟩) o
theorem wJ(eH:Vj)(n j:Nat)(u:Vu):Obj.mapSeq (·.setIfInBounds j u) { cls:=.type "list",data:=.seq eH.toArray n }={ cls:=.type "list",data:=.seq (eH.set j u).toArray n }:=by simp[Obj.mapSeq]
theorem z9.lst{p:Addr}(I:z9 X pins σ H s)(h:H p=some (.lst xs)):
 ∃(eH:Vj) (n:Nat),zn xs eH/\s.heap.get? p=some { cls:=.type "list",data:=.seq eH.toArray n }/\xs.length<=sizeLine:=by
 obtain⟨z,eH,n,r,e⟩:=I.hok p _ h;exact⟨eH,n,r,e,z⟩
theorem z9.lstUpd{p:Addr}{ys:VA}{its':Vj}{J:Nat}{f:Obj->Obj}(I:z9 X pins σ H s)(h:H p=some (.lst xs))
 (g:s.heap.get? p=some { cls:=.type "list",data:=.seq eH.toArray n }) (U:f { cls:=.type "list",data:=.seq eH.toArray n }={ cls:=.type "list",data:=.seq its'.toArray J }) (r:zn ys its') (hz:ys.length<=sizeLine) (t:Nat) (l:0<t:=by walk_at "t"):
 z9 X pins σ (upd H p<|.lst ys) { s with heap:=s.heap.update p f,toks:=t }:=by
 have e:(s.heap.update p f).get? p=some { cls:=.type "list",data:=.seq its'.toArray J }:=by rw[Heap.get?_update_self f g (by rw[U]<;>rfl),U]
 refine I.write (x:=p) (e:=p) (by rw[h];trivial) (.inl rfl) (λb u j q=>(Heap.get?_update_other _ _<|A4 j).trans q) ⟨_,e⟩ ?_;exact⟨hz,its',J,r,e⟩
def N4:V->V->V->Hp->(Hp->Prop)->Prop:=λo i v H Q=>∃p xs k j,o=.ref p/\i=.int k/\H p=some (.lst xs)/\f_ xs.length k=some j/\Q (upd H p<|.lst<|xs.set j v)
theorem N5:G8 X N4:=by
 intro J s σ H o i v ov iv u Q I ro ri rv h;obtain⟨p,xs,k,j,rfl,rfl,hp,hj,q⟩:=h;cases ro;obtain⟨t,rfl⟩:=ri;obtain⟨U,n,r,l,hz⟩:=I.lst hp;obtain⟨g,h2,h3,h4⟩:=yM hj;have C:=r.length;have hn:=jC;have I':z9 X J σ (upd H p<|.lst<|xs.set j v) { s with heap:=s.heap.update p (Obj.mapSeq (·.setIfInBounds j u)) }:=
  I.lstUpd hp l (wJ U n j u) (r.set rv j) (by rw[Bo];exact hz) s.toks
 by_cases h0:0<=k
 ·have T:k.toNat=j:=by rw[seqIndex_of h0 h4] at g;exact AS g
  exact PySem.W.ki_setAt l h0 (by lia) (by rw[Au,<-C];exact h4) (by rw[T];exact⟨_,I',q⟩)
 ·have T:(k+(U.toArray.size:Int)).toNat=j:=by rw[seqIndex_neg (by lia) h3] at g;rw[Au,<-C];exact AS g
  exact PySem.W.ki_setBack l (by lia) (by rw[Au,<-C];exact h3) (by lia) (by rw[T];exact⟨_,I',q⟩)
theorem rD(lo hi:Vr)(n:Nat):(sliceBounds lo hi none n).1=((HT.sIx n 0 lo:Nat):Int)/\(sliceBounds lo hi none n).2.1=((HT.sIx n n hi:Nat):Int)/\(sliceBounds lo hi none n).2.2=1:=by
 refine⟨?_,?_,rfl⟩
 ·cases lo with
  |none=>simp[sliceBounds,HT.sIx]
  |some i=>
   simp only[sliceBounds,HT.sIx,Option.getD_none,show(1:Int) > 0 by decide,if_true];by_cases h:i<0
   ·simp only[h,if_true]<;>lia
   ·simp only[h,if_false]<;>lia
 ·cases hi with
  |none=>simp[sliceBounds,HT.sIx]
  |some i=>
   simp only[sliceBounds,HT.sIx,Option.getD_none,show(1:Int) > 0 by decide,if_true];by_cases h:i<0
   ·simp only[h,if_true]<;>lia
   ·simp only[h,if_false]<;>lia
theorem oT(eH:Vj)(lo hi:Vr):slicePick eH.toArray lo hi none=((eH.drop<|HT.sIx eH.length 0 lo).take<|HT.sIx eH.length eH.length hi-HT.sIx eH.length 0 lo).toArray:=by obtain⟨I,J,U⟩:=rD lo hi eH.toArray.size;unfold slicePick;rw[I,J,U];simp only[sliceRange_one,pick_run,Au]<;>rfl
def N6(K:Af):V->Vr->Vr->Hp->VK->Prop:=λx lo hi H Q=>∃a xs,x=.ref a/\aO K H a xs/\∀p,H p=none->Q (.ref p) (upd H p<|.lst<|t8 xs lo hi)
theorem N7:sK X (N6 X.K):=by intro j s σ H x v vl vu lo g sl Q I p t pl C h;obtain⟨a,J,rfl,T,q⟩:=h;cases p;obtain⟨a0,r,l,hz⟩:=I.list T;have U:=r.length;refine⟨"list",_,slot_list_getitem.lookup,l.isList.typeIs,?_⟩;refine wpAny_getItem_list_slice l.isList t pl C .none (by simp) ?_ (by rw[Au]<;>lia);rw[oT,<-U];refine⟨.ref s.heap.objs.size,_,I.laid (t':=s.toks) (o:=.lst<|t8 J lo g) (λb ob q=>sy _ q) (Al _) ?_,rfl,q _<|I.hok.fresh<|Al _⟩;exact⟨AO (kH J lo g) hz,_,0,(r.drop<|HT.sIx J.length 0 lo).take<|HT.sIx J.length J.length g-HT.sIx J.length 0 lo,vb _ rfl⟩
def ak:V->Bool
 |.non=>true
 |.bl _=>true
 |.int _=>true
 |.str _=>true
 |_=>false
def kM:V->V->Bool
 |.non,.non=>true
 |.bl a,.bl b=>a==b
 |.bl a,.int b=>(if a then 1 else 0)==b
 |.int a,.bl b=>a==(if b then 1 else 0)
 |.int a,.int b=>a==b
 |.str a,.str b=>a==b
 |_,_=>false
theorem nO{y x:V}(U:zo y u)(I:zo x v)(j:ak y=true)(g:ak x=true):SeqAt.EqAt A s u v (kM y x):=by
 cases y with
 |non=>
  cases U;cases x with
  |non=>cases I;exact SeqAt.EqAt.same _
  |bl b=>cases I;exact SeqAt.EqAt.none_bool b
  |int b=>obtain⟨t,rfl⟩:=I;exact SeqAt.EqAt.none_int b t
  |str b=>obtain⟨t,rfl⟩:=I;exact SeqAt.EqAt.none_str b t
  |_=>exact absurd (show false=true from g) AF
 |bl a=>
  cases U;cases x with
  |non=>cases I;exact SeqAt.EqAt.bool_none a
  |bl b=>cases I;exact SeqAt.EqAt.bool_bool a b
  |int b=>obtain⟨t,rfl⟩:=I;exact SeqAt.EqAt.bool_int a b t
  |str b=>obtain⟨t,rfl⟩:=I;exact SeqAt.EqAt.bool_str a b t
  |_=>exact absurd (show false=true from g) AF
 |int a=>
  obtain⟨J,rfl⟩:=U;cases x with
  |non=>cases I;exact SeqAt.EqAt.int_none a J
  |bl b=>cases I;exact SeqAt.EqAt.int_bool a J b
  |int b=>obtain⟨t,rfl⟩:=I;exact SeqAt.EqAt.int_int a J b t
  |str b=>obtain⟨t,rfl⟩:=I;exact SeqAt.EqAt.int_str a J b t
  |_=>exact absurd (show false=true from g) AF
 |str a=>
  obtain⟨J,rfl⟩:=U;cases x with
  |non=>cases I;exact SeqAt.EqAt.str_none a J
  |bl b=>cases I;exact SeqAt.EqAt.str_bool a J b
  |int b=>obtain⟨t,rfl⟩:=I;exact SeqAt.EqAt.str_int a J b t
  |str b=>obtain⟨t,rfl⟩:=I;exact SeqAt.EqAt.str_str a J b t
  |_=>exact absurd (show false=true from g) AF
 |_=>exact absurd (show false=true from j) AF
def vG(x:V)(u:Vu):Bool:=match u with
 |.none=>kM .non x
 |.bool b=>kM (.bl b) x
 |.int i _=>kM (.int i) x
 |.str z _=>kM (.str z) x
 |_=>false
theorem Hs{x y:V}(r:zo y u)(f:ak y=true):vG x u=kM y x:=by
 cases y with
 |non=>cases r;rfl
 |bl b=>cases r;rfl
 |int i=>obtain⟨t,rfl⟩:=r;rfl
 |str z=>obtain⟨t,rfl⟩:=r;rfl
 |_=>exact absurd (show false=true from f) AF
theorem iA{x:V}:∀{xs:VA} {us:Vj},zn xs us->xs.all ak=true->us.any (vG x)=xs.any λy=>kM y x
 |_,_,.nil,_=>rfl
 |y::xs,u::us,.cons r t,f=>by rw[DU,Bc] at f;rw[Cq,Cq,Hs r f.1,iA t f.2]
theorem iJ{x:V}(J:zo x v)(U:ak x=true):∀{xs:VA} {us:Vj},zn xs us->xs.all ak=true->∀u∈us,SeqAt.EqAt A s u v (vG x u):=by
 intro xs us h
 induction h with
 |nil=>intro _ u I;cases I
 |cons r t g=>
  intro f j I;rw[DU,Bc] at f;rcases Aq.mp I with rfl|I
  ·rw[Hs r f.1];exact nO r J f.1 U
  ·exact g f.2 j I
def sH(x:V)(xs:VA):Bool:=xs.any λy=>kM y x
def FP(K:Af)(neg:Bool):R2:=λx y H Q=>∃p xs,y=.ref p/\(aO K H p xs\/cx K H p xs)/\ak x=true/\xs.all ak=true/\Q (.bl<|if neg then !sH x xs else sH x xs) H
theorem N8:aD X (compareOp .In) (FP X.K false):=by
 intro g s C H x y v u Q I j o h;obtain⟨p,T,rfl,U,l,fs,q⟩:=h;cases o;rcases U with U|U
 ·obtain⟨J,r,pl,t⟩:=I.list U;refine SeqAt.in_listAt (vG x) pl.isList (λw hw=>iJ j l r fs w (by simpa using hw)) ⟨.bl _,H,I,rfl,?_⟩;rw[show J.toArray.any (vG x)=J.any (vG x) by simp,iA r fs];exact q
 ·obtain⟨J,r,pl,t⟩:=I.tuple U;refine SeqAt.in_tupleAt (vG x) pl (λw hw=>iJ j l r fs w (by simpa using hw)) ⟨.bl _,H,I,rfl,?_⟩;rw[show J.toArray.any (vG x)=J.any (vG x) by simp,iA r fs];exact q
theorem rm:aD X (compareOp .NotIn) (FP X.K true):=by
 intro g s C H x y v u Q I j o h;obtain⟨p,T,rfl,U,l,fs,q⟩:=h;cases o;rcases U with U|U
 ·obtain⟨J,r,pl,t⟩:=I.list U;refine SeqAt.notIn_listAt (vG x) pl.isList (λw hw=>iJ j l r fs w (by simpa using hw)) ⟨.bl _,H,I,rfl,?_⟩;rw[show J.toArray.any (vG x)=J.any (vG x) by simp,iA r fs];exact q
 ·obtain⟨J,r,pl,t⟩:=I.tuple U;refine SeqAt.notIn_tupleAt (vG x) pl (λw hw=>iJ j l r fs w (by simpa using hw)) ⟨.bl _,H,I,rfl,?_⟩;rw[show J.toArray.any (vG x)=J.any (vG x) by simp,iA r fs];exact q
theorem rK:xb X (.builtin "len") (λxs H Q=>∃p ys,xs=[.ref p]/\(aO X.K H p ys\/cx X.K H p ys)/\Q (.int ys.length) H):=by
 intro l s C H xs T Q I r h;obtain⟨p,ys,rfl,U,q⟩:=h;obtain⟨u,rfl,o⟩:=sW r;cases o;have hn:=jC;rcases U with U|U
 ·obtain⟨g,j,pl,t⟩:=I.list U;have J:=j.length;exact Calls.call_len_list pl.isList (by simp only[Au]<;>lia) ⟨.int ys.length,H,I.tok _,⟨s.toks+1,by rw[Au,J]⟩,q⟩
 ·obtain⟨g,j,pl,t⟩:=I.tuple U;have J:=j.length;exact len_tuple pl (by simp only[Au]<;>lia) ⟨.int ys.length,H,I.tok _,⟨s.toks+1,by rw[Au,J]⟩,q⟩
theorem pN:xb X (.builtin "len") (λxs H Q=>∃z,xs=[.str z]/\z.length<=sizeLine/\Q (.int z.length) H):=by intro J s U H xs g Q I r h;obtain⟨z,rfl,j,q⟩:=h;obtain⟨u,rfl,t,rfl⟩:=sW r;have l:=jC;exact len_str (by lia) ⟨.int z.length,H,I.tok _,⟨_,rfl⟩,q⟩
theorem re:xb X (.type "list") (λxs H Q=>∃p ys,xs=[.ref p]/\(aO X.K H p ys\/cx X.K H p ys)/\∀l,H l=none->Q (.ref l) (upd H l<|.lst ys)):=by
 intro t s σ H xs us Q I r h;obtain⟨p,ys,rfl,C,q⟩:=h;obtain⟨u,rfl,rx⟩:=sW r;cases rx;have xh:∀(J:Vj),zn ys J->ys.length<=sizeLine->∀(U:Vy) (g:Nat),(∀b o',s.heap.get? b=some o'->U.get? b=some o')->
  U.get? s.heap.objs.size=some { cls:=.type "list",dict:=none,data:=.seq J.toArray g,slots:=#[] }->EP X t σ Q (.ref s.heap.objs.size) { s with heap:=U }:=λJ j T U g kp e=>
  ⟨.ref s.heap.objs.size,_,I.laid (t':=s.toks) kp (Al _)<|show vg X.prog X.w _ U _ (.lst ys) from⟨T,J,g,j,e⟩,rfl,q _<|I.hok.fresh<|Al _⟩
 rcases C with C|C
 ·obtain⟨J,j,pl,T⟩:=I.list C;have a0:=j.length;obtain⟨o,ho,hc,n,hd⟩:=pl.isList;exact call_list_seq p (.inl rfl) ho hc hd (λU g kp e=>xh J j T U g kp e) (by simp only[Au]<;>lia)
 ·obtain⟨J,j,pl,T⟩:=I.tuple C;have a0:=j.length;obtain⟨o,ho,hc,n,hd⟩:=pl;exact call_list_seq p (.inr rfl) ho hc hd (λU g kp e=>xh J j T U g kp e) (by simp only[Au]<;>lia)
theorem oQ:xb X (.type "tuple") (λxs H Q=>∃p ys,xs=[.ref p]/\((aO X.K H p ys/\∀l,H l=none->Q (.ref l) (upd H l<|.tup ys))\/(cx X.K H p ys/\Q (.ref p) H))):=by
 intro J s C H xs us Q I r h;obtain⟨p,ys,rfl,h⟩:=h;obtain⟨u,rfl,rx⟩:=sW r;cases rx;rcases h with⟨j,q⟩|⟨j,q⟩
 ·obtain⟨U,t,pl,T⟩:=I.list j;have a0:=t.length;refine call_tuple_list pl.isList (λg kp=>?_) (by simp only[Au]<;>lia);have I1:z9 X J C H { s with heap:=g }:=I.kept (t':=s.toks) kp;have I2:z9 X J C (upd H g.objs.size<|.tup ys) { s with heap:=g.push { cls:=.type "tuple",data:=.seq U.toArray } }:=
   I1.laid (t':=s.toks) (λb o e=>sy _ e) (Al _) (show vg X.prog X.w _ _ _ (.tup ys) from⟨T,U,t,IsTup.new _ _⟩)
  exact⟨.ref g.objs.size,_,I2,rfl,q _<|I1.hok.fresh<|Al _⟩
 ·obtain⟨U,t,pl,T⟩:=I.tuple j;exact call_tuple_same pl ⟨.ref p,H,I,rfl,q⟩
def Fh(K:Af)(T:Vz)(x:V)(H:Hp):Prop:=match x with
 |.str _=>T = "str"
 |.int _=>T = "int"
 |.ref p=>(T = "list" /\ ∃xs,aO K H p xs)\/(T = "tuple" /\ ∃o,K.lookup p=some o/\o.cls=.type "tuple" /\ o.dict=none)\/
  (T = "dict" /\ ((∃kvs,H p=some (.dK kvs))\/∃kvs,H p=some (.dT kvs)))\/(T = "set" /\ ∃S n,H p=some (.set S n))
 |_=>False
theorem Ht{T:Vz}{x:V}(I:z9 X pins σ H s)(r:zo x v)(ty:Fh X.K T x H):
 s.TypeIs v T/\∀a,v=.ref a->∃j,s.heap.get? a=some j/\j.dict=none:=by
 cases x with
 |str z=>
  obtain⟨t,rfl⟩:=r;cases (show T = "str" from ty);exact⟨typeIs_str s z t,λ_ e=>nomatch e⟩
 |int i=>
  obtain⟨t,rfl⟩:=r;cases (show T = "int" from ty);exact⟨typeIs_int s i t,λ_ e=>nomatch e⟩
 |ref p=>
  cases r;rcases ty with⟨rfl,xs,l⟩|⟨rfl,o,J,C,hd⟩|⟨rfl,J⟩|⟨rfl,S,n,J⟩
  ·obtain⟨a0,_,pl,_⟩:=I.list l;refine⟨pl.isList.typeIs,λa e=>?_⟩;cases e;obtain⟨o,n,e,c,hd,_⟩:=pl;exact⟨o,e,hd⟩
  ·refine⟨⟨o,I.kIn p o J,C⟩,λa e=>?_⟩;cases e;exact⟨o,I.kIn _ o J,hd⟩
  ·have z:∃o,s.heap.get? p=some o/\o.ExactDict:=by
    rcases J with⟨U,J⟩|⟨U,J⟩
    ·obtain⟨_,_,_,_,o,_,_,e,ex,_⟩:=I.hok p _ J;exact⟨o,e,ex⟩
    ·obtain⟨_,_,_,_,o,_,_,e,ex,_⟩:=I.hok p _ J;exact⟨o,e,ex⟩
   obtain⟨o,e,ex⟩:=z;refine⟨⟨o,e,ex.1⟩,λa g=>?_⟩;cases g;exact⟨o,e,ex.2.1⟩
  ·obtain⟨o,_,_,_,e,ex,_⟩:=I.hok p _ J;refine⟨⟨o,e,ex.1⟩,λa g=>?_⟩;cases g;exact⟨o,e,ex.2.1⟩
 |_=>exact False.elim ty
def N9(K:Af)(T:Vz)(r:V->VA->Hp->VK->Prop)(to:TE):TE:=λσ H Q=>to σ H λx H1=>Fh K T x H1/\r x [] H1 Q
def Oa(K:Af)(T:Vz)(r:V->VA->Hp->VK->Prop)(to:TE)(t:TA):TE:=λσ H Q=>to σ H λx H1=>Fh K T x H1/\t σ H1 λxs H2=>r x xs H2 Q
variable {to:TE}{t:TA}{T id:Vz}{r:V->VA->Hp->VK->Prop}
theorem Oc(pa:PlainAttrs T)(slot:Slot T name id)(j:typeOf (.builtin id)=pure (.type "method_descriptor"))(C:Hr X id r)(ho:PE X o to)
 (U:attributeBase o name X.env (eval o X.env)=eval o X.env:=by rfl) (g:(apos.endLine==fm.line)=true:=by rfl):PE X (.Call (.Attribute o name apos) [] [] fm) (N9 X.K T r to):=by
 intro J s l H Q I h;refine wpAny_Call_method0_late U g<|aY (ho J s l H _ I h) λv s1 ψ=>?_;obtain⟨x,H1,p,t,ty,q1⟩:=ψ;obtain⟨h1,h2⟩:=Ht p t ty;exact⟨T,id,pa,slot,j,h1,h2,Calls.callWith_builtin rfl<|PySem.evalArgs_none<|C J s1 l H1 x [] v [] Q p t .nil q1⟩
theorem Hu(pa:PlainAttrs T)(slot:Slot T name id)(p:typeOf (.builtin id)=pure (.type "method_descriptor"))(hm:Hr X id r)(ho:PE X o to)(ha:PA X (e::es) t)
 (g:attributeBase o name X.env (eval o X.env)=eval o X.env:=by rfl)
 (l:((backTo fm<|starEach (e::es) X.env).all (λx=>!x.1)&&(backToKw fm<|keywordEach [] X.env).all (λx=>x.1.isSome)
  && decide ((e::es).length+([]:List Keyword).length+(if ([]:List Keyword).isEmpty then 0 else 1)<30))=true:=by rfl)
 (j:(apos.endLine==fm.line)=true:=by rfl) (hs:EY e es X:=by rfl) (U:EZ fm es X:=by rfl):
 PE X (.Call (.Attribute o name apos) (e::es) [] fm) (Oa X.K T r to t):=by
 intro J s C H Q I h;refine wpAny_Call_method_late g l j rfl<|aY (ho J s C H _ I h) λv s1 ψ=>?_;obtain⟨x,H1,I1,r1,ty,q1⟩:=ψ;obtain⟨h1,h2⟩:=Ht I1 r1 ty;refine⟨T,id,pa,slot,p,h1,h2,?_⟩;have hA:=ha fm J s1 C H1 _ I1 q1;rw[hs] at hA ⊢;refine Calls.callWith_builtin (by show(false||(backTo fm<|starEach es X.env).any (·.1))=false;rw[U]<;>rfl)<|Calls.evalArgs_plain ?_;exact aY hA λus s2 ψ=>(by obtain⟨vs,H2,I2,r2,q2⟩:=ψ;exact hm J s2 C H2 x vs v us Q I2 r1 r2 q2)
end
def i7(X:Cx)(id:Vz)(r:V->VA->Hp->VK->Prop):Prop:=
 ∀(pins:List<|Addr×Obj) (s:Vv) (σ:St) (H:Hp) (x:V) (xs:VA) (v:Vu) (us:Vj) (Q:VK),z9 X pins σ H s->zo x v->zn xs us->r x xs H Q->
  wpAny (model X.prog X.w) X.A (call (.builtin id)<|v::us) (EP X pins σ Q) X.xe s
theorem zn.one{x:V}(h:zn [x] us):∃u,us=[u]/\zo x u:=by cases h with|cons r t=>cases t;exact⟨_,rfl,r⟩
theorem zn.two{x y:V}(h:zn [x,y] us):∃u v,us=[u,v]/\zo x u/\zo y v:=by cases h with|cons r t=>cases t with|cons q t=>cases t;exact⟨_,_,rfl,r,q⟩
theorem zn.zero:∀{us:Vj},zn [] us->us=[]
 |_,.nil=>rfl
theorem zn.dropLast(h:zn xs us):zn xs.dropLast us.dropLast:=by
 induction h with
 |nil=>exact .nil
 |cons r t I=>
  cases t with|nil=>exact .nil|cons q J=>exact .cons r I
theorem zn.eraseIdx:∀{xs:VA} {us:Vj} (i:Nat),zn xs us->zn (xs.eraseIdx i) (us.eraseIdx i)
 |_,_,_,.nil=>.nil
 |_,_,0,.cons _ t=>t
 |_,_,i+1,.cons r t=>.cons r<|zn.eraseIdx i t
theorem uw(l:List α):l.eraseIdx (l.length-1)=l.dropLast:=by
 induction l with
 |nil=>rfl
 |cons a r I=>
  cases r with
  |nil=>rfl
  |cons b r=>
   have e:(a::b::r).length-1=((b::r).length-1)+1:=by have J:(a::b::r).length=r.length+2:=rfl;have U:(b::r).length=r.length+1:=rfl;lia
   rw[e,Cu,I]
   all_goals rfl
theorem ow{α:Type}:∀(l:List α) (i:Nat),(l.eraseIdx i).length<=l.length
 |[],_=>Al _
 |_::_,0=>Cc _
 |_::r,i+1=>CT<|ow r i
section
variable {b:Addr}{ys:VA}
theorem z9.lset{its':Vj}{f:Vk->Vk}(I:z9 X pins σ H s)(J:H l=some (.lst xs))
 (e:s.heap.get? l=some { cls:=.type "list",data:=.seq eH.toArray n }) (U:f eH.toArray=its'.toArray) (g:zn ys its') (hz:ys.length<=sizeLine) (p:0<t':=by walk_at "t"):
 z9 X pins σ (upd H l<|.lst ys) { s with heap:=s.heap.update l<|Obj.mapSeq f,toks:=t' }:=by
 have q:=PySem.IsL.update e f;rw[U] at q;refine I.write (x:=l) (e:=l) (by rw[J];exact trivial) (.inl rfl) (λr u j o=>(Heap.get?_update_other s.heap (Obj.mapSeq f)<|A4 j).trans o) ⟨_,q⟩ ?_;exact⟨hz,its',_,g,q⟩
theorem z9.lnew(I:z9 X pins σ H s)(J:zn ys eH)(hz:ys.length<=sizeLine)(U:0<t':=by walk_at "t"):
 z9 X pins σ (upd H s.heap.objs.size<|.lst ys) { s with heap:=s.heap.push { cls:=.type "list",data:=.seq eH.toArray },toks:=t' }:=
 I.laid (λ_ _ q=>sy _ q) (Al _) ⟨hz,eH,0,J,vb _ rfl⟩
theorem z9.fresh(I:z9 X pins σ H s):H s.heap.objs.size=none:=I.hok.fresh<|Al _
theorem z9.lstM(I:z9 X pins σ H s)(J:H l=some (.lst xs)):xs.length<=sizeLine/\∃(eH:Vj) (n:Nat),zn xs eH/\xs.length=eH.length/\s.heap.get? l=some { cls:=.type "list",data:=.seq eH.toArray n }:=by obtain⟨z,eH,n,r,e⟩:=I.hok l _ J;exact⟨z,eH,n,r,r.length,e⟩
theorem Od(h:n<=sizeLine):Builtin.List.listTooLong n=false:=by unfold Builtin.List.listTooLong;exact Av (by lia)
end
def Oe:V->VA->Hp->VK->Prop:=λx vs H Q=>∃l xs y,x=.ref l/\vs=[y]/\H l=some (.lst xs)/\xs.length<sizeLine/\Q .non (upd H l<|.lst<|xs++[y])
theorem Of:i7 X "list.append" Oe:=by intro U s t H x C v T Q I j o h;obtain⟨l,xs,y,rfl,rfl,g,hz,q⟩:=h;cases j;obtain⟨u,rfl,p⟩:=o.one;obtain⟨z,J,n,r,hl,e⟩:=I.lstM g;refine call_meets F.slot_list_append ⟨_,e,rfl⟩ F.entry_list_append (F.args_list_append_2 _ _) (PySem.list_append l J.toArray n u (by rw[Au];lia)) ⟨e,?_⟩;refine⟨.non,_,I.lset (its':=J++[u]) g e (by simp) (r.append<|.cons p .nil) ?_,rfl,q⟩;rw[Aa,BL];lia
def Og:V->VA->Hp->VK->Prop:=λx vs H Q=>∃l b xs zs,x=.ref l/\vs=[.ref b]/\H l=some (.lst xs)/\H b=some (.lst zs)/\xs.length+zs.length<=sizeLine/\Q .non (upd H l<|.lst<|xs++zs)
theorem zL:i7 X "list.extend" Og:=by
 intro o s σ H x vs v us Q I t C h;obtain⟨l,b,xs,zs,rfl,rfl,p,T,hz,q⟩:=h;cases t;obtain⟨u,rfl,ru⟩:=C.one;cases ru;obtain⟨z,U,n,r,hl,e⟩:=I.lstM p;obtain⟨z2,J,n2,r2,a0,e2⟩:=I.lstM T;have j:U.toArray.size+J.toArray.size<=sizeLine:=by rw[Au,Au];lia
 have g:¬(!U.toArray.isEmpty&&Builtin.List.listTooLong (U.toArray.size+J.toArray.size))=true:=by rw[Od j,Ey];exact AF
 refine call_meets F.slot_list_extend ⟨_,e,rfl⟩ F.entry_list_extend (F.args_list_extend_2 _ _)
  (AutoSeq1.list_extend_list_list_0 l U.toArray n b J.toArray n2 g (by rw[Au];lia) (by lia)) ⟨e,e2,?_⟩
 refine⟨.non,_,I.lset (its':=U++J) p e (by simp) (r.append r2) ?_,rfl,q⟩;rw[Aa];lia
def Oh:V->VA->Hp->VK->Prop:=λx vs H Q=>∃l xs y,x=.ref l/\vs=[]/\H l=some (.lst xs)/\xs[xs.length-1]?=some y/\Q y (upd H l<|.lst xs.dropLast)
theorem Oi:i7 X "list.pop" Oh:=by
 intro j s σ H x vs v us Q I p t h;obtain⟨l,xs,y,rfl,rfl,o,C,q⟩:=h;cases p;have U:=t.zero;subst U;obtain⟨z,J,n,r,T,e⟩:=I.lstM o;obtain⟨u,hu,ru⟩:=r.get C;have g:J.toArray[J.toArray.size-1]?=some u:=by show J.toArray[J.length-1]?=some u;rw[<-A7,<-T];exact hu
 refine call_meets F.slot_list_pop ⟨_,e,rfl⟩ F.entry_list_pop (F.args_list_pop_1 _) (MeetsSeq.list_pop_last l J.toArray n u g (by rw[Au];lia)) ⟨e,?_⟩;refine⟨y,_,I.lset (its':=J.dropLast) o e ?_ r.dropLast ?_,ru,q⟩
 ·show J.toArray.eraseIdxIfInBounds (J.toArray.size-1)=J.dropLast.toArray;rw[Au,Dm,uw]
 ·rw[List.length_dropLast];lia
def Oj:V->VA->Hp->VK->Prop:=λx vs H Q=>∃l xs i k y,x=.ref l/\vs=[.int i]/\H l=some (.lst xs) /\ -(2 ^ 63)<=i/\i<2 ^ 63/\seqIndex? i xs.length=some k/\xs[k]?=some y/\Q y (upd H l<|.lst<|xs.eraseIdx k)
theorem Ol:i7 X "list.pop" Oj:=by
 intro g s σ H x vs v us Q I o p h;obtain⟨l,C,i,k,y,rfl,rfl,j,T,h2,hk,hy,q⟩:=h;cases o;obtain⟨u,rfl,ru⟩:=p.one;obtain⟨t,rfl⟩:=ru;obtain⟨z,J,n,r,hl,e⟩:=I.lstM j;obtain⟨w,hw,U⟩:=r.get hy;refine call_meets F.slot_list_pop ⟨_,e,rfl⟩ F.entry_list_pop (F.args_list_pop_2 _ _)
  (MeetsSeq.list_pop_at l J.toArray n i t k w (fitsIndex_both T h2) (by rw[Au,<-hl];exact hk) (by rw[<-A7];exact hw) (by rw[Au];lia)) ⟨e,?_⟩
 refine⟨y,_,I.lset (its':=J.eraseIdx k) j e ?_ (r.eraseIdx k) ?_,U,q⟩
 ·show J.toArray.eraseIdxIfInBounds k=(J.eraseIdx k).toArray;rw[Dm]
 ·have:=ow C k;lia
def Om:R2:=λx y H Q=>∃l b xs zs,x=.ref l/\y=.ref b/\H l=some (.lst xs)/\H b=some (.lst zs)/\xs.length+zs.length<=sizeLine/\∀p,H p=none->Q (.ref p) (upd H p<|.lst<|xs++zs)
theorem Oo:aD X (binaryOp .Add) Om:=by
 intro g s σ H x y v u Q I j o h;obtain⟨l,b,xs,zs,rfl,rfl,p,t,hz,q⟩:=h;cases j;cases o;obtain⟨z,U,n,r,hl,e⟩:=I.lstM p;obtain⟨z2,J,n2,C,T,e2⟩:=I.lstM t;refine PySem.P.add_list e e2 ?_ (by rw[Au,Au];lia);have ea:U.toArray++J.toArray=(U++J).toArray:=by simp
 rw[ea];exact⟨.ref _,_,I.lnew (t':=s.toks) (r.append C) (by rw[Aa];lia),rfl,q _ I.fresh⟩
section
variable {w:Vx}
set_option maxRecDepth 100000 in
end
end L2
namespace Att
open PySem PySem.W PySem.Calls PyProof.Rows
theorem kK{P:Params} :∀(I:Vp) (vs:Vj),WellAll P h vs (I.map WData.int)->IntsAre vs I:=by
 intro I
 induction I with
 |nil=>
  intro vs w;rw[Df] at w;cases w;exact .nil
 |cons n I J=>
  intro vs w;rw[AG] at w;cases w with
  |cons a b=>
   cases a;exact .cons _ _<|J _ b
theorem Op{l:OpenLaw}(hn:l.most=some n){P:Params}{args:List WData}{J:Vj}
 (U:l.row.toRowW.claim.pre args=true) (t:WellAll P h J args):
 ∃a vs I,J=[Value.ref a]/\args=[WData.list<|I.map WData.int]/\h.get? a=some { cls:=.type "list",data:=.seq vs.toArray }/\IntsAre vs I/\I.length<=n:=by
 have C:WShape.hasAll [] args [.list .int]=true:=(pre_splitW U).1;have T:l.pre.holds [] { args:=args }=true:=(pre_splitW U).2;obtain⟨d,r,rfl,h1,h2⟩:=hasAllW_cons C;obtain rfl:=hasAllW_nil h2;obtain⟨xs,rfl,h3⟩:=hasW_list h1;obtain⟨I,rfl⟩:=items_int h3;have g:I.length<=n:=by
  unfold OpenLaw.pre at T;have o:(WTm.not<|.lt (.lit<|.int (n:Int))<|.len<|.arg 0).holds [] { args:=[.list<|I.map .int] }=true:=by have o:=(holds_andW T).1;rw[hn] at o;exact o
  have p:=condW_of o<|w_not<|w_lt w_lit<|w_len_list<|w_arg rfl;rw[Ag] at p;refine Nat.le_of_not_lt λq=>?_;have q':(n:Int)<((I.length:Nat):Int):=by lia
  first
   |(rw[AE q'] at p;exact absurd p (by decide))
   |(simp at p;lia)
 cases t with
 |cons w1 w2=>
  cases w2;cases w1 with|list ho j=>exact⟨_,_,I,rfl,rfl,ho,kK I _ j,g⟩
theorem Oq(l:OpenLaw)(args:List WData):l.row.toRowW.claim.post args (.bool true) args=true:=
 postW_of (r:=l.row.toRowW) (X:=(true==true))
  (show WShape.has [] (.bool true) .bool=true by first|rfl|decide|simp[WShape.has,WShape.arms,WShape.armsAll])
  (show(WTm.eq .res<|.lit<|.bool true).value [] { args:=args,res:=some<|.bool true,after:=args }=some (.bool<|true==true) from w_eq_bool (w_res rfl) w_lit) rfl
theorem attach_callZ{l:OpenLaw}{q:Vw}{loose:Vm}{XP:(Vg)->Vy->Prop}{as0:List Addr}{N t:Nat}{K:Params->Frag}{d:DefRec}
 (hn:l.most=some n) (C:d.params.defaults=[]) (ek:∀P,as0=(K P).map (·.1)) (T:0<t)
 (call:∀(w:Vx) (s₀ I:Vv) (mg mb:Vg) (fa:Addr) (o:Obj) (pm cd ir:Vu) (a:Addr) (vs:Vj) (J:Vp),
  Ground q loose [] XP w s₀ mg mb I.heap->(K w.params).In I.heap->0<I.toks->
  I.heap.get? fa=some o->o.data=.func (docDef d.name d.params d.body d.scope pm cd ir)->I.heap.CodeRec cd d.name->mg d.name=some (.ref fa)->
  I.heap.get? a=some { cls:=.type "list",data:=.seq vs.toArray }->IntsAre vs J->J.length<=n->I.gens=#[]->
  codeAny (model l.prog w) callerA (.call (.ref fa) ⟨[.ref a],[]⟩) (λr s'=>r=.ok (.ret<|.bool true)/\OldK I.heap s'.heap/\s'.os=I.os/\AllBare s'.gens) I):
 WalkX q loose XP (PySem.W.X.obsZ as0) (PySem.W.X.valZ K N t) l.row.toRowW d [] (λf vs=>PySem.call f vs):=by
 intro w s₀ I mg mb G Y fa o pm cd ir dV kV ho hd a0 hD a1 hg args a4 as L g a5 a7 a2 ab;obtain rfl:dV=.none:=Dflts.none hD C;obtain rfl:kV=.none:=Dflts.noKw hD;obtain⟨a,vs,J,rfl,rfl,j,U,p⟩:=Op hn g a2;obtain⟨_,zi,_,zt⟩:=X.z_facts ek Y;have eP:∀J:Vp,ofPy (PyData.list<|J.map PyData.int)=WData.list (J.map WData.int):=λJ=>by
  simp only[ofPy];congr 1
  induction J with|nil=>simp[ofPys]|cons n r ih=>simp only[AG,ofPys,ofPy,ih]
 rw[<-eP] at L;have KX:=InK.keeps w s₀.heap I.heap zi L.keeps;have a3:0<I.toks:=AR T<|X.script_toks L zt;refine enter_call<|codeAny_mono (call w s₀ I mg mb fa o pm cd ir a vs J G KX a3 ho (fd_plain hd) a0 a1 j U p hg) λr s' hq=>?_;obtain⟨rfl,h2,h3,h4⟩:=hq;exact⟨.inl ⟨.bool true,.bool true,[],rfl,λ_=>rfl,.bool true,Oq l _,λ_=>⟨List.Pairwise.nil,λ_ hm=>(nomatch hm)⟩⟩,h2,h3,h4⟩
section
variable {w:Vx}{K:Frag}
end
end Att
namespace L2
open PySem PySem.Spec PyProof.Rows
theorem pL:∀{vs:Vj} {I:Vp},IntsAre vs I->zn (I.map V.int) vs
 |_,_,.nil=>.nil
 |_,_,.cons n t h=>.cons ⟨t,rfl⟩<|pL h
def xm(s:Stmt):Arguments:=match s with
 |.FunctionDef _ a _ _ _ _ _ _ _ _=>a
 |_=>{ posonlyargs:=[],args:=[],vararg:=none,kwonlyargs:=[],kw_defaults:=[],kwarg:=none,defaults:=[] }
def j9(s:Stmt):Vo:=match s with
 |.FunctionDef _ _ b _ _ _ _ _ _ _=>b
 |_=>[]
def qt(s:Stmt):Scope:=match s with
 |.FunctionDef _ _ _ _ _ _ I _ _ _=>I
 |_=>{ kind:=.function,names:=[],isGenerator:=false,isCoroutine:=false }
abbrev CX0:b_:=λ_ _ _ _ _ _=>False
abbrev E0:XK:=λ_ _ _=>False
theorem FQ :i4 CX0 X E0:=λ_ _ _ _ _ _ _ h=>h.elim
structure Fun(K:Af)(x eA:Str)(st:Stmt)(f:Addr)(fd:FuncData):Prop where
 ex:∃(oc:Vu) (od:Option Addr) (kV ir pm:Vu) (an:Option Addr) (eK ct:Vu) (oe:Array<|Vq),
  fd=PySem.W.fnOf x eA (xm st) (j9 st) (qt st) .none kV ir pm an eK ct/\K.lookup f=some ⟨oc,od,.func fd,oe⟩/\PySem.W.codeIn K eK eA=true
 kp:PySem.W.keepIn K (.ref f)=true
section
variable {P:Vw}{w:Vx}{K:Af}
theorem Fun.ok{N:Vm}{k:Nat}{sp:Sp}(F:Fun K x eA st f fd)(S:aw N ps<|qt st)(len:∀vs H Q E,sp vs H Q E->vs.length=ps.length)
 (I:∀(eK:Vu) (A:Around) (outer:List Env) (s:Vv) (H:Hp) (vs:VA) (Q:VK) (E:XK),km k (A.deeper<|envOfC eA (qt st) s.heap.objs.size f eK)->sp vs H Q E->
  ∃t,kW (iT CX0 P w K mg base N eA (qt st) f eK A outer s H E).nox (j9 st) t/\t { nx:=λ_ H'=>Q .non H',rt:=Q } (start N vs) H):bS P w K mg base CX0 (k+1) f fd ps sp:=by
 obtain⟨o,p,kV,g,pm,an,eK,r,j,rfl,lk,J⟩:=F.ex;refine Hj lk J S len λA outer s H vs Q E l U=>?_;obtain⟨t,h,q⟩:=I eK A outer s H vs Q E l U;exact⟨t,h.nox,q⟩
theorem Hv{kV ct:Vu}(l:K.lookup f=some ⟨oc,od,.func<|PySem.W.fnOf x eA (xm st) (j9 st) (qt st) .none kV ir pm an eK ct,oe⟩)
 (c:PySem.W.codeIn K eK eA=true) (k:PySem.W.keepIn K (.ref f)=true):Fun K x eA st f (PySem.W.fnOf x eA (xm st) (j9 st) (qt st) .none kV ir pm an eK ct):=⟨⟨oc,od,kV,ir,pm,an,eK,ct,oe,rfl,l,c⟩,k⟩
end
theorem pK(h:n<=1000):n<sizeLine:=Bp h (by decide)
theorem pv(i:Nat)(hN:X.N[i]?=some x:=by rfl)(J:u_ X.env.scope x:=by first|exact Or.inl rfl|exact Or.inr (Or.inl rfl)|exact Or.inr<|Or.inr rfl)(hd:E4 x:=by decide)
 (I:E5 x:=by decide):PE X (.Name x pos) (Fy i):=Lz hN J hd I
section
variable [DecidableEq κ]
end
end L2
set_option maxHeartbeats 8000000
theorem Em{a b c:Nat}(h:a<b:=by assumption)(k:b<=c:=by assumption):a<c:=AR h k
theorem jM{a b c:Nat}(h:a<=b:=by assumption)(k:b<c:=by assumption):a<c:=Bp h k
theorem FR{a b c:Nat}(h:a<=b:=by assumption)(k:b<=c:=by assumption):a<=c:=AO h k
theorem rQ{a b c:Nat}(h:a<b:=by assumption)(k:b<c:=by assumption):a<c:=Nat.lt_trans h k
theorem w_{a b c:Nat}(h:a<=b:=by assumption)(k:b<=c:=by decide):a<=c:=AO h k
theorem Fi{a b:Nat}(h:a<=b:=by assumption):a<b+1:=Nat.lt_succ_of_le h
theorem Ot{a b:Nat}(h:a<=b:=by assumption):a<=b+1:=B4 h
theorem jE{a b:Nat}(h:a<b:=by assumption):a<=b:=Bf h
theorem Hw{a b:Nat}(h:a<b:=by assumption):a≠b:=A9 h
theorem Hx{a b:Nat}(h:b<a:=by assumption):a≠b:=Dz h
theorem Ep{a:Nat}(h:a≠0:=by assumption):0<a:=Nat.pos_of_ne_zero h
theorem Ou{a b c:Nat}(h:a<b:=by assumption)(k:b<=c:=by assumption):a<=c:=AO (Bf h) k
theorem Hy{a b c:Nat}(h:a<b:=by assumption):a<b+c:=AR h<|Bg _ _
theorem xF{a b:Nat}(h:a=b:=by assumption):a<=b:=Ei h
theorem yr{a b:Nat}(h:¬a<b:=by assumption):b<=a:=Nat.le_of_not_lt h
theorem Hz{a b:Nat}(h:¬b<=a:=by assumption):a<b:=Nat.lt_of_not_le h
theorem HA{a b:Nat}(h:a<b+1:=by assumption):a<=b:=Nat.le_of_lt_succ h
theorem xp{a b:Nat}(h:0<a:=by assumption)(k:0<b:=by decide):a-b<a:=Nat.sub_lt h k
theorem HB{a b c:Nat}(h:a<=c:=by assumption):a-b<=c:=AO (EE _ _) h
theorem qF{a b c:Nat}(h:a<c:=by assumption):a-b<c:=Bp (EE _ _) h
theorem x_{a b:Nat}(h:a<=b:=by assumption)(k:a≠b:=by assumption):a<b:=Nat.lt_of_le_of_ne h k
namespace L2
open PySem PySem.Spec PyProof.Rows
def Ov:R2:=λx y H Q=>match x,y with
 |.int i,.int j=>Q (.int<|i+j) H
 |.str a,.str b=>a.length+b.length<=sizeLine/\Q (.str<|a++b) H
 |.ref l,.ref b=>∃xs zs,H l=some (.lst xs)/\H b=some (.lst zs)/\xs.length+zs.length<=sizeLine/\∀p,H p=none->Q (.ref p) (upd H p<|.lst<|xs++zs)
 |_,_=>False
theorem Ow:aD X (binaryOp .Add) Ov:=by
 intro J s U H x y v u Q I g j h;cases x<;>cases y<;>first
  |exact False.elim h
  |exact MF J s U H _ _ v u Q I g j ⟨_,_,rfl,rfl,h⟩
  |exact wC J s U H _ _ v u Q I g j ⟨_,_,rfl,rfl,h.1,h.2⟩
  |(obtain⟨l,o,p,r,t,C⟩:=h;exact Oo J s U H _ _ v u Q I g j ⟨_,_,l,o,rfl,rfl,p,r,t,C⟩)
def KD(K:Af)(P:Vw)(w:Vx)(a:Addr)(kvs:List<|jb×V):Prop:=
 (a==sysModules)=false/\kvs.length<=sizeLine/\∀h:Vy,K.In h->∃vs,KV kvs vs/\h.DictOf (vh P w) a vs
def HE(K:Af)(P:Vw)(w:Vx):R2:=λx y H Q=>match x,y with
 |.str z,.int i=>z.length<=sizeLine/\∃c,bz z.cps.toList i=some c/\Q (.str ⟨#[c]⟩) H
 |.ref p,.int i=>∃xs v,(aO K H p xs\/cx K H p xs)/\bz xs i=some v/\Q v H
 |.ref p,.str k=>∃kvs v,(Rd H p (.dK kvs)\/KD K P w p kvs)/\bX kvs (Sum.inr k)=some v/\Q v H
 |_,_=>False
theorem HF{slice:Expr}{a:Addr}{vs:List<|jb×Vu}{k:jb}{J:Vu}{v:V}{Q:VK}(I:z9 X pins σ H s)(U:s.heap.DictOf (vh X.prog X.w) a vs)(g:lh k u=true)
 (hw:valueAt vs k=some J) (r:zo v J) (q:Q v H) (hs:subscripted slice false (.ref a) u=operate [.ref a,u] (getItem (.ref a) u)):wpAny (model X.prog X.w) X.A (subscriptTail value slice (.ref a) u) (EP X pins σ Q) X.xe s:=
 tail_any U.typeIs DI.lookup (wpAny_getItem_of g U.mapOf hw ⟨v,H,I.tok _,r,q⟩) hs
theorem Ox:IxR X (HE X.K X.prog X.w):=by
 intro value slice U s σ H x y v u Q I rx ry q r;cases x with
 |str z=>
  cases y with
  |int i=>
   obtain⟨J,c,g,j⟩:=q;exact NZ value slice U s σ H _ _ v u Q I rx ry ⟨z,i,c,rfl,rfl,J,g,j⟩ r
  |_=>exact q.elim
 |ref p=>
  cases y with
  |int i=>
   obtain⟨xs,t,J,g,j⟩:=q;rcases J with J|J
   ·exact NX value slice U s σ H _ _ v u Q I rx ry ⟨p,xs,i,t,rfl,rfl,J,g,j⟩ r
   ·exact NY value slice U s σ H _ _ v u Q I rx ry ⟨p,xs,i,t,rfl,rfl,J,g,j⟩ r
  |str k=>
   obtain⟨a0,t,J,g,j⟩:=q;have C:zo (kV<|Sum.inr k) u:=ry;cases (show v=Value.ref p from rx);rcases J with J|J
   ·obtain⟨z,hd,vs,rel,T⟩:=oi I.hok J;obtain⟨w2,hw,l⟩:=EO (v:=t) (o:=valueAt vs<|Sum.inr k) (by rw[<-g];exact rel.val _);exact HF I T (jY (P:=X.prog) (w:=X.w) C) hw l j r
   ·obtain⟨hd,z,T⟩:=J;obtain⟨vs,rel,T⟩:=T s.heap I.kIn;obtain⟨w2,hw,l⟩:=EO (v:=t) (o:=valueAt vs<|Sum.inr k) (by rw[<-g];exact rel.val _);exact HF I T (jY (P:=X.prog) (w:=X.w) C) hw l j r
  |_=>exact q.elim
 |_=>cases y<;>exact q.elim
def Oy(K:Af):VA->Hp->VK->Prop:=λxs H Q=>match xs with
 |[.str z]=>z.length<=sizeLine/\Q (.int z.length) H
 |[.ref p]=>∃ys,(aO K H p ys\/cx K H p ys)/\Q (.int ys.length) H
 |_=>False
theorem Oz:xb X (.builtin "len") (Oy X.K):=by
 intro J s U H j g Q I r h;obtain _|⟨x,_|⟨y,t⟩⟩:=j
 ·exact h.elim
 ·cases x with
  |str z=>exact pN J s U H _ g Q I r ⟨z,rfl,h.1,h.2⟩
  |ref p=>
   obtain⟨l,o,C⟩:=h;exact rK J s U H _ g Q I r ⟨p,l,rfl,o,C⟩
  |_=>exact h.elim
 ·cases x<;>exact h.elim
inductive Da where
 |s (v:V)
 |tup (xs:List Da)
 |lst (xs:List Da)
mutual
def Da.eq:Da->Da->Bool
 |.s v,.s w=>kM v w
 |.tup xs,.tup ys=>Da.eqs xs ys
 |.lst xs,.lst ys=>Da.eqs xs ys
 |_,_=>false
def Da.eqs:List Da->List Da->Bool
 |[],[]=>true
 |x::xs,y::ys=>Da.eq x y&&Da.eqs xs ys
 |_,_=>false
end
def ko(K:Af)(H:Hp):Nat->V->Da->Prop
 |0,v,d=>d=.s v/\ak v=true
 |n+1,v,d=>(d=.s v/\ak v=true)\/(∃a xs ds,v=.ref a/\d=.tup ds/\cx K H a xs/\Paired (ko K H n) xs ds)\/(∃a xs ds,v=.ref a/\d=.lst ds/\aO K H a xs/\Paired (ko K H n) xs ds)
theorem Da.eqs_range:∀(ds es:List Da),((List.range<|min ds.length es.length).all (λj=>Da.eq (ds.getD j<|.s .non)<|es.getD j<|.s .non)&&ds.length==es.length)=Da.eqs ds es
 |[],[]=>by simp[Da.eqs]
 |[],e::es=>by simp[Da.eqs]
 |d::ds,[]=>by simp[Da.eqs]
 |d::ds,e::es=>by
  have I:=Da.eqs_range ds es;rw[Da.eqs,<-I];have:min (d::ds).length (e::es).length=min ds.length es.length+1:=by simp only[AK];lia
  rw[this,List.range_succ_eq_map,DU,List.all_map];have J:((d::ds).length==(e::es).length)=(ds.length==es.length):=by simp
  rw[J,Bool.and_assoc];rfl
abbrev EK:=@Da.eqs_range
theorem Paired.at{F:α->β->Prop}:∀{xs:List α} {ys:List β} {j:Nat} {x:α} {y:β},Paired F xs ys->xs[j]?=some x->ys[j]?=some y->F x y:=by
 intro xs ys j x y h
 induction h generalizing j with
 |nil=>intro h _;simp at h
 |cons r t U=>
  intro I J;cases j with|zero=>simp at I J;subst I J;exact r|succ j=>exact U (j:=j) (by simpa using I) (by simpa using J)
abbrev EN:=@Paired.at
theorem iB:∀{v:V},ak v=true->kM v v=true
 |.non,_=>rfl
 |.bl _,_=>by simp[kM]
 |.int _,_=>by simp[kM]
 |.str _,_=>by simp[kM]
theorem j4{a:Addr}(h:ak (.ref a)=true):False:=by simp[ak] at h
theorem z9.notBoth(I:z9 X pins σ H s){a:Addr}{ys:VA}(h:cx X.K H a xs)(h':aO X.K H a ys):False:=by
 obtain⟨j,_,⟨o,e,c,_⟩,_⟩:=I.tuple h;obtain⟨U,_,⟨l,p,g,J,_⟩,_⟩:=I.list h';rw[e] at g;cases g;rw[c] at J;injection J with J
 exact absurd J (by decide)
theorem qT(I:z9 X pins σ H s):∀(n:Nat) {m:Nat} {x:V} {d e:Da},ko X.K H n x d->ko X.K H m x e->Da.eq d e=true
 |0,m,x,d,e,h1,g=>by
  obtain⟨rfl,f⟩:=h1;cases m with
  |zero=>obtain⟨rfl,_⟩:=g;exact iB f
  |succ m=>
   rcases g with⟨rfl,_⟩|⟨a,j,l,rfl,_⟩|⟨a,j,l,rfl,_⟩
   ·exact iB f
   ·exact(j4 f).elim
   ·exact(j4 f).elim
 |n+1,m,x,d,e,h1,g=>by
  have both:∀{j:VA} {l o:List Da} {m:Nat},Paired (ko X.K H n) j l->Paired (ko X.K H m) j o->Da.eqs l o=true:=by
   intro j l o m p
   induction p generalizing o with
   |nil=>intro q;cases q;rfl
   |cons r t ih=>
    intro q;cases q with|cons r' t'=>rw[Da.eqs,qT I n r r',ih t'];rfl
  rcases h1 with⟨rfl,f⟩|⟨a,j,l,rfl,rfl,T,hp⟩|⟨a,j,l,rfl,rfl,T,hp⟩
  ·cases m with
   |zero=>obtain⟨rfl,_⟩:=g;exact iB f
   |succ m=>
    rcases g with⟨rfl,_⟩|⟨a,j,l,rfl,_⟩|⟨a,j,l,rfl,_⟩
    ·exact iB f
    ·exact(j4 f).elim
    ·exact(j4 f).elim
  ·cases m with
   |zero=>exact(j4 g.2).elim
   |succ m=>
    rcases g with⟨_,f⟩|⟨a',ys,o,C,rfl,J,U⟩|⟨a',ys,o,C,rfl,J,U⟩
    ·exact(j4 f).elim
    ·cases C;cases I.tuple_inj T J;exact both hp U
    ·cases C;exact(I.notBoth T J).elim
  ·cases m with
   |zero=>exact(j4 g.2).elim
   |succ m=>
    rcases g with⟨_,f⟩|⟨a',ys,o,C,rfl,J,U⟩|⟨a',ys,o,C,rfl,J,U⟩
    ·exact(j4 f).elim
    ·cases C;exact(I.notBoth J T).elim
    ·cases C;cases I.list_inj T J;exact both hp U
theorem jd{a:Addr}{eH:Vk}(p:PlainL h a eH):h.IsList a eH:=let ⟨o,n,e,c,_,d⟩:=p;⟨o,e,c,n,d⟩
theorem gn{ys:VA}{ds es:List Da}(px:Paired (ko X.K H n) xs ds)(py:Paired (ko X.K H m) ys es)(I:zn xs us)(J:zn ys vs)
 (p:∀{x y:V} {d e:Da} {u v:Vu},ko X.K H n x d->ko X.K H m y e->zo x u->zo y v->SeqAt.EqAt A.in1 s u v (Da.eq d e)):
 ∀j (h1:j<us.toArray.size) (h2:j<vs.toArray.size),SeqAt.EqAt A.in1 s us.toArray[j] vs.toArray[j] (Da.eq (ds.getD j<|.s .non)<|es.getD j<|.s .non):=by
 intro j h1 h2;have C:=px.length;have T:=py.length;have l3:=I.length;have l4:=J.length;rw[Au] at h1 h2;have U:xs[j]?=some xs[j]:=Ai (by lia);have g:ys[j]?=some ys[j]:=Ai (by lia);have l:ds[j]?=some ds[j]:=Ai (by lia);have o:es[j]?=some es[j]:=Ai (by lia);have r:us[j]?=some us[j]:=Ai (by lia);have t:vs[j]?=some vs[j]:=Ai (by lia);rw[BD,BD,l,o];exact p (EN px U l) (EN py g o) (EN I U r)<|EN J g t
theorem ot{a b:Addr}{ys:VA}{ds es:List Da}(I:z9 X pins σ H s)(g:A.units<cLine)(j:cx X.K H a xs)(l:cx X.K H b ys)(px:Paired (ko X.K H n) xs ds)(py:Paired (ko X.K H m) ys es)
 (o:∀{x y:V} {d e:Da} {u v:Vu},ko X.K H n x d->ko X.K H m y e->zo x u->zo y v->SeqAt.EqAt A.in1 s u v (Da.eq d e)):SeqAt.RcAt A s (.ref a) (.ref b) (Da.eqs ds es):=by
 obtain⟨r,J,p,_⟩:=I.tuple j;obtain⟨t,U,ty,_⟩:=I.tuple l;have q:=SeqAt.RcAt.tuples p ty g<|gn px py J U o;rw[Au,Au,<-J.length,<-U.length,px.length,py.length,EK] at q;exact q
theorem uj{a b:Addr}{ys:VA}{ds es:List Da}(I:z9 X pins σ H s)(l:A.units<cLine)(p:aO X.K H a xs)(r:aO X.K H b ys)(px:Paired (ko X.K H n) xs ds)(py:Paired (ko X.K H m) ys es)
 (t:∀{x y:V} {d e:Da} {u v:Vu},ko X.K H n x d->ko X.K H m y e->zo x u->zo y v->SeqAt.EqAt A.in1 s u v (Da.eq d e)):SeqAt.RcAt A s (.ref a) (.ref b) (Da.eqs ds es):=by
 obtain⟨C,U,o,_⟩:=I.list p;obtain⟨T,j,ty,_⟩:=I.list r;by_cases g:C.toArray.size=T.toArray.size
 ·have q:=SeqAt.RcAt.lists (jd o) (jd ty) g l<|gn px py U j t;have J:ds.length=es.length:=by rw[<-px.length,<-py.length,U.length,j.length];simpa using g
  have e:=EK ds es;rw[J,Nat.min_self] at e;rw[<-J] at e;rw[Au,<-U.length,px.length] at q;simp only[beq_self_eq_true,DV] at e;rw[e] at q;exact q
 ·have q:=SeqAt.RcAt.lists_lengths (jd o) (jd ty) (by simpa using g) l;have J:ds.length≠es.length:=by rw[<-px.length,<-py.length,U.length,j.length];intro z;exact g (by simpa using z)
  have e:=EK ds es;have f:(ds.length==es.length)=false:=by simpa using J
  rw[f,Ey] at e;rw[<-e];exact q
theorem lu(I:z9 X pins σ H s):∀(n:Nat) {m:Nat} {A:Around} {x y:V} {d e:Da} {u v:Vu},A.units+n<cLine->ko X.K H n x d->ko X.K H m y e->zo x u->zo y v->SeqAt.EqAt A s u v (Da.eq d e):=by
 have J:∀{A:Around} {x:V} {u:Vu} {b:Addr} {C:VA},A.units<cLine->ak x=true->zo x u->(cx X.K H b C\/aO X.K H b C)->SeqAt.EqAt A s u (.ref b) false/\SeqAt.EqAt A s (.ref b) u false:=by
  intro A x u b C g f r h;have h':(∃T,s.heap.IsTuple b T)\/∃T,s.heap.IsList b T:=by
   rcases h with h|h
   ·obtain⟨T,_,t,_⟩:=I.tuple h;exact .inl ⟨_,t⟩
   ·obtain⟨T,_,t,_⟩:=I.list h;exact .inr ⟨_,jd t⟩
  cases x with
  |non=>cases r;rcases h' with⟨_,t⟩|⟨_,t⟩;exact⟨.none_tuple t g,.tuple_none t g⟩;exact⟨.none_list t g,.list_none t g⟩
  |bl k=>cases r;rcases h' with⟨_,t⟩|⟨_,t⟩;exact⟨.bool_tuple k t g,.tuple_bool k t g⟩;exact⟨.bool_list k t g,.list_bool k t g⟩
  |int k=>obtain⟨tk,rfl⟩:=r;rcases h' with⟨_,t⟩|⟨_,t⟩;exact⟨.int_tuple k tk t g,.tuple_int k tk t g⟩;exact⟨.int_list k tk t g,.list_int k tk t g⟩
  |str k=>obtain⟨tk,rfl⟩:=r;rcases h' with⟨_,t⟩|⟨_,t⟩;exact⟨.str_tuple k tk t g,.tuple_str k tk t g⟩;exact⟨.str_list k tk t g,.list_str k tk t g⟩
  |_=>simp[ak] at f
 intro n
 induction n with
 |zero=>
  intro m A x y d e u v g h1 o rx j;obtain⟨rfl,f⟩:=h1;cases m with
  |zero=>obtain⟨rfl,l⟩:=o;exact nO rx j f l
  |succ m=>
   rcases o with⟨rfl,l⟩|⟨b,C,es,rfl,rfl,U,py⟩|⟨b,C,es,rfl,rfl,U,py⟩
   ·exact nO rx j f l
   ·cases j;exact(J (by lia) f rx<|.inl U).1
   ·cases j;exact(J (by lia) f rx<|.inr U).1
 |succ n ih=>
  intro m A x y d e u v g h1 o rx j;have a1:A.in1.units+n<cLine:=by show A.units+1+n<cLine;lia
  rcases h1 with⟨rfl,f⟩|⟨a,xs,ds,rfl,rfl,p,px⟩|⟨a,xs,ds,rfl,rfl,p,px⟩
  ·cases m with
   |zero=>obtain⟨rfl,l⟩:=o;exact nO rx j f l
   |succ m=>
    rcases o with⟨rfl,l⟩|⟨b,C,es,rfl,rfl,U,py⟩|⟨b,C,es,rfl,rfl,U,py⟩
    ·exact nO rx j f l
    ·cases j;exact(J (by lia) f rx<|.inl U).1
    ·cases j;exact(J (by lia) f rx<|.inr U).1
  ·cases rx;cases m with
   |zero=>obtain⟨rfl,l⟩:=o;exact(J (by lia) l j<|.inl p).2
   |succ m=>
    rcases o with⟨rfl,l⟩|⟨b,C,es,rfl,rfl,U,py⟩|⟨b,C,es,rfl,rfl,U,py⟩
    ·exact(J (by lia) l j<|.inl p).2
    ·cases j;by_cases a0:a=b
     ·subst a0;cases I.tuple_inj p U;have e:Da.eq (.tup ds) (.tup es)=true:=qT I (n+1) (m:=m+1) (x:=.ref a) (.inr<|.inl ⟨a,xs,ds,rfl,rfl,p,px⟩)<|.inr<|.inl ⟨a,xs,es,rfl,rfl,U,py⟩;rw[e];exact .same _
     ·exact .of_refs a0<|ot I (by lia) p U px py λh1 o r1 r2=>ih a1 h1 o r1 r2
    ·cases j;obtain⟨us,vx,tx,_⟩:=I.tuple p;obtain⟨vs,vy,ty,_⟩:=I.list U;exact .tuple_list tx (jd ty) (by lia)
  ·cases rx;cases m with
   |zero=>obtain⟨rfl,l⟩:=o;exact(J (by lia) l j<|.inr p).2
   |succ m=>
    rcases o with⟨rfl,l⟩|⟨b,C,es,rfl,rfl,U,py⟩|⟨b,C,es,rfl,rfl,U,py⟩
    ·exact(J (by lia) l j<|.inr p).2
    ·cases j;obtain⟨us,vx,tx,_⟩:=I.list p;obtain⟨vs,vy,ty,_⟩:=I.tuple U;exact .list_tuple (jd tx) ty (by lia)
    ·cases j;by_cases a0:a=b
     ·subst a0;cases I.list_inj p U;have e:Da.eq (.lst ds) (.lst es)=true:=qT I (n+1) (m:=m+1) (x:=.ref a) (.inr<|.inr ⟨a,xs,ds,rfl,rfl,p,px⟩)<|.inr<|.inr ⟨a,xs,es,rfl,rfl,U,py⟩;rw[e];exact .same _
     ·exact .of_refs a0<|uj I (by lia) p U px py λh1 o r1 r2=>ih a1 h1 o r1 r2
def OA(K:Af)(k:Nat):R2:=λx y H Q=>match x,y with
 |.ref a,.ref b=>∃n m d e,n<=k/\ko K H n (.ref a) d/\ko K H m (.ref b) e/\Q (.bl<|Da.eq d e) H
 |x,y=>Fg x y=true/\Q (.bl<|decide<|x=y) H
theorem OB{k:Nat}(hu:X.A.units+k<cLine):aD X (compareOp .Eq) (OA X.K k):=by
 intro J s t H x y v u Q I C T h;cases x with
 |ref a=>
  cases y with
  |ref b=>
   obtain⟨n,m,d,e,hn,l,U,q⟩:=h;cases C;cases T;have xh:∀{k:Bool},k=Da.eq d e->SeqAt.RcAt X.A s (.ref a) (.ref b) k->wpAny (model X.prog X.w) X.A (compareOp .Eq (.ref a)<|.ref b) (EP X J t Q) X.xe s:=λ{k} e' r=>
    r X.prog X.w X.xe (EP X J t Q) (by rw[e'];exact⟨.bl _,H,I,rfl,q⟩)
   cases n with
   |zero=>exact(j4 l.2).elim
   |succ n=>
    cases m with
    |zero=>exact(j4 U.2).elim
    |succ m=>
     have o:X.A.in1.units+n<cLine:=by show X.A.units+1+n<cLine;lia
     rcases l with⟨_,f⟩|⟨a',xs,ds,e1,rfl,p,px⟩|⟨a',xs,ds,e1,rfl,p,px⟩
     ·exact(j4 f).elim
     ·cases e1;rcases U with⟨_,f⟩|⟨b',ys,es,g,rfl,j,py⟩|⟨b',ys,es,g,rfl,j,py⟩
      ·exact(j4 f).elim
      ·cases g;exact xh rfl<|ot I (by lia) p j px py λl U r1 r2=>lu I n o l U r1 r2
      ·cases g;obtain⟨us,vx,tx,_⟩:=I.tuple p;obtain⟨vs,vy,ty,_⟩:=I.list j;exact xh rfl<|.tuple_list tx (jd ty) (by lia)
     ·cases e1;rcases U with⟨_,f⟩|⟨b',ys,es,g,rfl,j,py⟩|⟨b',ys,es,g,rfl,j,py⟩
      ·exact(j4 f).elim
      ·cases g;obtain⟨us,vx,tx,_⟩:=I.list p;obtain⟨vs,vy,ty,_⟩:=I.tuple j;exact xh rfl<|.list_tuple (jd tx) ty (by lia)
      ·cases g;exact xh rfl<|uj I (by lia) p j px py λl U r1 r2=>lu I n o l U r1 r2
  |_=>exact Hd J s t H _ _ v u Q I C T h
 |_=>cases y<;>exact Hd J s t H _ _ v u Q I C T h
theorem OC(I:Gl X x)(J:X.mg x=some (.ref c))(hd:E4 x:=by decide):PE X (.Name x pos) (tC<|.ref c):=LD I J (v:=.ref c) rfl hd
theorem OD{T:Vz}(I:Gl X x)(J:X.mg x=none)(U:bootBuiltins x=some (.type T))(g:x ≠ "__name__" := by decide)(hd:E4 x:=by decide):PE X (.Name x pos) (tC<|.ty T):=LG I J U (v:=.ty T) rfl g hd
structure Cal(P:Vw)(w:Vx)(K:Af)(mg:Vg)(base:Vy)(k:Nat)(x:Str)(ps:Vm)(sp:Sp):Prop where
 ex:∃f fd,bS P w K mg base CX0 k f fd ps sp/\aR K fd ps []/\PySem.W.keepIn K (.ref f)=true/\mg x=some (.ref f)
theorem OE{k:Nat}{sp:Sp}{t:TA}{p:Pos}(c:Cal X.prog X.w X.K X.mg X.base k x ps sp)(U:km k X.A)(g:Gl X x)(j:PA X (e::es) t)(I:E4 x:=by decide)
 (l:EY e es X:=by rfl) (J:EZ pos es X:=by rfl):PE X (.Call (.Name x p) (e::es) [] pos) (Hh sp [] E0 t):=by
 obtain⟨f,fd,F,b,o,m⟩:=c.ex;exact Np F U g m o b .nil FQ j I l J
theorem Cal.mono{P:Vw}{w:Vx}{K:Af}{k:Nat}{sp:Sp}(c:Cal P w K mg base j x ps sp)(h:j<=k):Cal P w K mg base k x ps sp:=by obtain⟨f,fd,F,b,I,m⟩:=c.ex;exact⟨f,fd,F.mono h,b,I,m⟩
end L2
variable {ds:List L2.Da}
namespace L2
open PySem PySem.Spec PyProof.Rows
def oH(env:Env):List (Str×NameKind)->List (Str×Addr)->List (Str×Addr)
 |[],cs=>cs
 |(n,k)::r,cs=>oH env r<|if k==.free then(n,(env.cells.lookup n).getD 0)::cs else cs
def fv(scope:Scope)(env:Env):List (Str×Addr):=oH env scope.names []
theorem tQ{env:Env}:∀{names:List<|Str×NameKind} {cs:List<|Str×Addr} {p:Str×Addr},p∈oH env names cs->p∈cs\/((p.1,NameKind.free)∈names/\p.2=(env.cells.lookup p.1).getD 0)
 |[],_,_,h=>.inl h
 |(n,k)::r,cs,p,h=>by
  rcases tQ (names:=r) h with q|⟨q,e⟩
  ·by_cases I:(k==NameKind.free)=true
   ·rw[AA I] at q;rcases Aq.mp q with rfl|q
    ·have:k=.free:=by simpa using I
     exact .inr ⟨by rw[this];exact Ao,rfl⟩
    ·exact .inl q
   ·rw[Az I] at q;exact .inl q
  ·exact .inr ⟨Ae _ q,e⟩
theorem tH{env:Env}{x:Str}:∀{names:List<|Str×NameKind} {cs:List<|Str×Addr},((∃c,(x,c)∈cs)\/(x,NameKind.free)∈names)->∃c,(x,c)∈oH env names cs
 |[],_,.inl h=>h
 |[],_,.inr h=>by simp at h
 |(n,k)::r,cs,h=>by
  refine tH (names:=r) ?_;rcases h with⟨c,h⟩|h
  ·left;by_cases I:(k==NameKind.free)=true
   ·rw[AA I];exact⟨c,Ae _ h⟩
   ·rw[Az I];exact⟨c,h⟩
  ·rcases Aq.mp h with e|h
   ·left;injection e with J U
    subst J;subst U;exact⟨_,Ao⟩
   ·exact .inr h
theorem fw{x:Str}:∀{l:List<|Str×Addr} {c:Addr},(x,c)∈l->∃c',l.lookup x=some c'
 |(n,d)::r,c,h=>by
  rw[Bk];cases I:x==n with
  |true=>exact⟨d,rfl⟩
  |false=>
   rcases Aq.mp h with e|h
   ·injection e with J _;subst J;simp at I
   ·exact fw h
theorem kO(h:∀n,(n,NameKind.free)∈scope.names->∃c,env.cells.lookup n=some c):closureFor scope env=pure (fv scope env):=by
 unfold closureFor fv;have key:∀(names:List<|Str×NameKind) (I:List<|Str×Addr),(∀n,(n,NameKind.free)∈names->∃c,env.cells.lookup n=some c)->
  (forIn names I λx (r:List<|Str×Addr)=>(match x with|(name,kind)=>if kind==NameKind.free then do let a <-cellOf env name;pure (ForInStep.yield<|(name,a)::r) else pure (ForInStep.yield r):Sem<|ForInStep<|List<|Str×Addr))=pure (oH env names I):=by
  intro names
  induction names with
  |nil=>intro I _;rfl
  |cons p r o=>
   intro I J;obtain⟨n,k⟩:=p;rw[Er];cases U:k==NameKind.free with
   |true=>
    have g:k=.free:=by simpa using U
    subst g;obtain⟨c,t⟩:=J n Ao;have e:cellOf env n=pure c:=by unfold cellOf;rw[t]
    simp only[beq_self_eq_true,if_true,e];have j:oH env ((n,NameKind.free)::r) I=oH env r ((n,c)::I):=by show oH env r _=_;rw[t];rfl
    rw[j];exact o ((n,c)::I) λm l=>J m<|Ae _ l
   |false=>
    simp only[U,Cg,if_false];have j:oH env ((n,k)::r) I=oH env r I:=by show oH env r (if (k==NameKind.free)=true then _ else _)=_;rw[U];rfl
    rw[j];exact o I λm l=>J m<|Ae _ l
 exact(BO (· >>= pure)<|key scope.names [] h)
theorem aM{env:Env}{x:Str}:∀{names:List<|Str×NameKind},
 (names.map λ(n,k)=>if (k==NameKind.free&&env.scope.kind==.function&&env.kindOf n==some .cell) then(n,NameKind.cell) else(n,k)).lookup x
  = (names.lookup x).map λk=>if (k==NameKind.free&&env.scope.kind==.function&&env.kindOf x==some .cell) then NameKind.cell else k
 |[]=>rfl
 |(n,k)::r=>by
  have g:=@aM env x r;show List.lookup x ((if (k==NameKind.free&&env.scope.kind==.function&&env.kindOf n==some .cell)=true then(n,NameKind.cell) else(n,k))::_)=_;cases J:x==n with
  |true=>
   have U:x=n:=by simpa using J
   subst U;by_cases I:(k==NameKind.free&&env.scope.kind==.function&&env.kindOf x==some .cell)=true
   ·rw[AA I];simp only[Bk,beq_self_eq_true,Option.map_some];rw[AA I]
   ·rw[Az I];simp only[Bk,beq_self_eq_true,Option.map_some];rw[Az I]
  |false=>
   by_cases I:(k==NameKind.free&&env.scope.kind==.function&&env.kindOf n==some .cell)=true
   ·rw[AA I];simp only[Bk,J];exact g
   ·rw[Az I];simp only[Bk,J];exact g
def Cx.comp(X:Cx)(scope:Scope)(T:Vm)(C:Addr)(fp:List Addr)(s₀:Vv)(H₀:Hp):Cx:=
 { X with N:=X.N++T,s₀:=s₀,H₀:=H₀,env:=compEnvC scope (fv scope X.env) C X.env,outer:=X.stack,ex:=fp,fn:=λ_=>false,xe:=λ_ _=>False }
structure jg(X:Cx)(scope:Scope):Prop where
 kind:scope.kind=.function
 nocell:∀y∈scope.names,y.2≠.cell
 names:∀y∈scope.names,y.2=.local->scope.names.lookup y.1=some .local
 free:∀n,scope.names.lookup n=some .free->X.env.kindOf n=some .cell\/X.env.kindOf n=some .free
 freeM:∀n,(n,NameKind.free)∈scope.names->X.env.kindOf n=some .cell\/X.env.kindOf n=some .free
 apart:∀x∈X.N,scope.names.lookup x≠some .local
theorem jg.clo(S:jg X scope)(I:z9 X pins σ H s):closureFor scope X.env=pure (fv scope X.env):=
 kO λn h=>I.ok.has n<|S.freeM n h
theorem jg.cl_old(S:jg X scope)(I:z9 X pins σ H s)(h:(fv scope X.env).lookup x=some c):X.env.cells.lookup x=some c:=by
 rcases tQ (BJ h) with q|⟨q,e⟩
 ·simp at q
 ·obtain⟨d,hd⟩:=I.ok.has x<|S.freeM x q;have J:c=(X.env.cells.lookup x).getD 0:=e;rw[hd] at J ⊢;rw[J];rfl
theorem jg.cl_has(_:jg X scope)(h:scope.names.lookup x=some .free):∃c,(fv scope X.env).lookup x=some c:=by obtain⟨c,I⟩:=tH (env:=X.env) (names:=scope.names) (cs:=[]) (x:=x)<|.inr<|BJ h;exact fw I
theorem jg.kindOf(S:jg X scope)(h:(compEnvC scope (fv scope X.env) C X.env).kindOf x=some .cell\/(compEnvC scope (fv scope X.env) C X.env).kindOf x=some .free):scope.names.lookup x=some .free:=by
 have e:(compEnvC scope (fv scope X.env) C X.env).kindOf x=(scope.names.lookup x).map λk=>if (k==NameKind.free&&X.env.scope.kind==.function&&X.env.kindOf x==some .cell) then NameKind.cell else k:=aM
 rw[e] at h;cases I:scope.names.lookup x with
 |none=>rw[I] at h;rcases h with h|h<;>cases h
 |some k=>
  rw[I] at h;cases k with|free=>rfl|cell=>exact absurd rfl (S.nocell _<|BJ I)|_=>rcases h with h|h<;>cases h
theorem jg.vis(S:jg X scope)(U:x∈X.N)(h:u_ (compEnvC scope (fv scope X.env) C X.env).scope x):scope.names.lookup x=some .free:=by
 rcases h with h|h|h
 ·exfalso;have e:(compEnvC scope (fv scope X.env) C X.env).kindOf x=(scope.names.lookup x).map λk=>if (k==NameKind.free&&X.env.scope.kind==.function&&X.env.kindOf x==some .cell) then NameKind.cell else k:=aM
  have I:(compEnvC scope (fv scope X.env) C X.env).kindOf x=some .local:=h;rw[e] at I;cases J:scope.names.lookup x with
  |none=>rw[J] at I;cases I
  |some k=>
   rw[J] at I;have I:(if (k==NameKind.free&&X.env.scope.kind==.function&&X.env.kindOf x==some .cell)=true then NameKind.cell else k)=.local:=AS I;split at I
   ·cases I
   ·subst I;exact S.apart x U J
 ·exact S.kindOf (C:=C)<|.inl h
 ·exact S.kindOf (C:=C)<|.inr h
theorem jg.back(S:jg X scope)(h:scope.names.lookup x=some .free):(compEnvC scope (fv scope X.env) C X.env).kindOf x=some .cell\/(compEnvC scope (fv scope X.env) C X.env).kindOf x=some .free:=by
 have e:(compEnvC scope (fv scope X.env) C X.env).kindOf x=(scope.names.lookup x).map λk=>if (k==NameKind.free&&X.env.scope.kind==.function&&X.env.kindOf x==some .cell) then NameKind.cell else k:=aM
 rw[e,h];show some (if _ then _ else _)=_\/some (if _ then _ else _)=_;split
 ·exact .inl rfl
 ·exact .inr rfl
def PF(X:Cx)(ny:Vn)(t:TT):Prop:=
 ∀(pins:List<|Addr×Obj) (s:Vv) (σ:St) (H:Hp) (Q:Bool->Hp->Prop),z9 X pins σ H s->t σ H Q->
  wpAny (model X.prog X.w) X.A (forIn ny true λc r=>if r=true then do let ok <-isTrue c X.env (eval c X.env);pure (ForInStep.yield ok) else pure (ForInStep.yield r)) (TP X pins σ Q) X.xe s
def OF:TT:=λ_ H Q=>Q true H
theorem OG :PF X [] OF:=λ_ _ _ H _ I h=>An ⟨H,I,h⟩
theorem OH{c:Expr}{t:TT}(hc:PT X c t):PF X [c] t:=by intro J s U H Q I h;rw[Er];simp only[if_true];refine Ab<|Ab<|aY (hc J s U H Q I h) λb g q=>An ?_;exact An q
theorem fu{w:Vx}{R:Result->Vv->Prop}{it C:Vu}(I:Nat->Vv->Prop)
 (turn:∀n s,I n s->wpAny (model prog w) A (pyNext it) (λr J=>match r with
  |none=>R (.ok .next) J
  |some v=>wpAny (model prog w) A (letOwnedTupleGo target it v) (λ_ J=>wpAny (model prog w) A (assign target env v) (λ_ l=>
   wpAny (model prog w) A (forIn ny true λc r=>if r=true then do let ok <-isTrue c env (eval c env);pure (ForInStep.yield ok) else pure (ForInStep.yield r)) (λok g=>
    if ok=true then wpAny (model prog w) A (eval nG env) (λx o=>
     wpAny (model prog w) A (call (.builtin "list.append") [C,x]) (λ_ p=>∃m,m<n/\I m p) (λ_ _=>False) o) (λ_ _=>False) g
    else ∃m,m<n/\I m g) (λ_ _=>False) l) (λ_ _=>False) J) (λ_ _=>False) J) (λ_ _=>False) s)
 (n:Nat) (h:I n s):
 codeAny (model prog w) A (.compLoop (.ListComp nG [⟨target,iter,ny,0⟩] scope pos) 0 it C env) R s:=by
 refine codeAny_loop rfl I (λn s hI=>?_) n h;show wpAny _ A ((compTurn (.ListComp nG [⟨target,iter,ny,0⟩] scope pos) 0 it C env).onRaise (λx=>do noteFrame x env;theTreesLotGoes x)) _ _ s;refine wpAny_noted ?_;rw[compTurn_list];refine Ab<|wpAny_standAt<|Ab<|A2 (turn n s hI) (λr J U=>?_) λ_ _ j=>j.elim;cases r with
 |none=>exact An U
 |some v=>
  refine Ab<|A2 U (λ_ J U=>?_) λ_ _ j=>j.elim;refine Ab<|A2 U (λ_ l T=>Ab<|A2 T (λok g t=>?_) λ_ _ j=>j.elim) λ_ _ j=>j.elim;cases ok with
  |false=>exact An ⟨rfl,t⟩
  |true=>
   exact Ab<|Ab<|A2 t (λx o a0=>Ab<|A2 a0 (λ_ p a1=>An<|An ⟨rfl,a1⟩) λ_ _ j=>j.elim) λ_ _ j=>j.elim
def FT(n:Nat)(wi:TI)(g:TG)(tc:TT)(te:TE):TE:=λσ H Q=>wi σ H λJ H1=>∃W:Nat->Nat->VA->Hp->Prop,(∃m,W 0 m [] H1)/\∀i m ys H,W i m ys H->
 (J.stop i H/\ys.length<=sizeLine/\∀D,H D=none->Q (.ref D) (upd H D<|.lst ys))\/
 (J.go i H/\ys.length<sizeLine/\∀x H',J.yld i H x H'->g x (σ++List.replicate n none) H' λI H2=>tc I H2 λb j=>
  if b=true then te I j λy l=>∃U,U<m/\W (i+1) U (ys++[y]) l else ∃U,U<m/\W (i+1) U ys j)
def pD(g:TG)(n k:Nat):Prop:=∀(σ:St),σ.length=n->∀x H Q,g x (σ++List.replicate k none) H Q->
 g x (σ++List.replicate k none) H λI H2=>((I.length=n+k/\∀(i:Nat) v,(σ++List.replicate k none)[i]?=some (some v)->I[i]?=some (some v))/\Q I H2)
section
variable {T:Vm}{g:TG}{tc:TT}{te:TE}
theorem ltN{b:Addr}{o:Obj}(e:h.get? b=some o):@LT.lt Nat instLTNat b h.objs.size:=s9 e
theorem neN{a b:Addr}(h:@Ne Nat a b):a≠b:=h
theorem y_{a b:Addr}(h:@LE.le Nat instLENat a b):a<=b:=h
theorem OI(eH:Vj)(n:Nat)(u:Vu):∃I,Obj.mapSeq (·.push u) { cls:=.type "list",data:=.seq eH.toArray n }=({ cls:=.type "list",data:=.seq (eH++[u]).toArray I }:Obj):=
 ⟨_,by simp[Obj.mapSeq];rfl⟩
theorem wS{w:Vx}{D:Addr}(I:s.heap.get? D=some { cls:=.type "list",data:=.seq eH.toArray n })
 (hz:eH.length<=sizeLine) (h:∀h' J,Heap.SameBut D s.heap h'->h'.get? D=some { cls:=.type "list",data:=.seq (eH++[u]).toArray J }->Q .none { s with heap:=h' }):
 wpAny (model prog w) A (call (.builtin "list.append") [.ref D,u]) Q E s:=by
 have g:s.heap.IsList D eH.toArray:=⟨_,I,rfl,n,rfl⟩;refine wpAny_call_entry slot_list_append g.typeIs entry_list_append ?_<|args_list_append _ _;show wpAny _ _ (updateSeq D (·.push u) >>= λ_=>ret .none) _ _ s;refine Ab ?_;obtain⟨J,U⟩:=OI eH n u;refine wpAny_updateSeq (f:=(·.push u)) I rfl (An ⟨.none,rfl,h _ J (vc ..) ?_⟩) (by rw[Au];exact hz) (by rw[Bu,Au];exact CT hz);rw[<-U];exact Heap.get?_update_self _ I (by rw[U];rfl)
theorem mR{Q:VK}{cn:Vu}{I:Vv}{RR:Vu->Addr->Result->Vv->Prop}
 (S:jg X scope) (hc:X.calm=true)
 (hg:∀C fp s₀ H₀,PG (X.comp scope T C fp s₀ H₀) target g) (e5:pD g X.N.length T.length) (hf:∀C fp s₀ H₀,PF (X.comp scope T C fp s₀ H₀) ny tc) (he:∀C fp s₀ H₀,PE (X.comp scope T C fp s₀ H₀) nG te)
 (h:FE X pins σ target (λJ H1=>∃W:Nat->Nat->VA->Hp->Prop,(∃m,W 0 m [] H1)/\∀i m ys H,W i m ys H->
  (J.stop i H/\ys.length<=sizeLine/\∀D,H D=none->Q (.ref D) (upd H D<|.lst ys))\/
  (J.go i H/\ys.length<sizeLine/\∀x H',J.yld i H x H'->g x (σ++List.replicate T.length none) H' λcv H2=>tc cv H2 λb H3=>
   if b=true then te cv H3 λy H4=>∃m',m'<m/\W (i+1) m' (ys++[y]) H4 else ∃m',m'<m/\W (i+1) m' ys H3)) cn I)
 (e6:∀D C s' H' m',z9 X pins σ H' s'->oJ X pins H' C->s'.heap.Ns C m'->Q (.ref D) H'->RR (.ref D) C (.ok .next) s'):
 wpAny (model X.prog X.w) X.A (newList []) (λcw ac=>wpAny (model X.prog X.w) X.A (newFunctionEnv scope X.env.globals (fv scope X.env) [] X.env.qual none .none<|some X.env) (λbd cy=>
  codeAny (model X.prog X.w) X.A (.compStart (.ListComp nG [⟨target,iter,ny,0⟩] scope pos) 0 cn cw { bd with scope:=relabel scope X.env }) (RR cw bd.locals) cy) E ac) E I:=by
 obtain⟨it,fp,tn,J,H2,rfl,U,Tn,bf,f2,W,⟨m0,w0⟩,turn⟩:=h;refine BY (wpAny_newFunctionEnv S.nocell (by intro y hy;simp at hy) (λav a7 t=>?_) S.kind);dsimp only at a7 t ⊢;generalize bg:I.heap.push { cls:=.type "list",dict:=none,data:=.seq ([]:Vj).toArray }=G at a7 t ⊢;have hC:G.objs.size=I.heap.objs.size+1:=by rw[<-bg,At]
 obtain⟨D,eD⟩:∃D,I.heap.objs.size=D:=⟨_,rfl⟩;obtain⟨C,eC⟩:∃C,G.objs.size=C:=⟨_,rfl⟩;rw[eD] at hC ⊢;rw[eC] at hC a7 t ⊢;have bh:D≠C:=by lia
 have old:∀b o,I.heap.get? b=some o->av.get? b=some o:=λb o e=>by have j:=ltN e;exact t.extBut b o (neN (by lia))<|sy _<|bg▸sy _ e
 have cP:av.get? D=some { cls:=.type "list",data:=.seq ([]:Vj).toArray 0 }:=by refine t.extBut _ _ bh<|sy _ ?_;rw[<-bg,<-eD];exact vb _ rfl
 have bm:∀b∈fp,@LT.lt Nat instLTNat b I.heap.objs.size:=λb j=>by obtain⟨o,e,_⟩:=Tn.obj _ _ bf b j;exact ltN e
 have d0:@LT.lt Nat instLTNat X.env.locals I.heap.objs.size:=U.lt;have eu:X.s₀.heap.objs.size<=I.heap.objs.size:=U.sz;have HD:H2 D=none:=U.hok.fresh<|y_ (by exact xF);have HC:H2 C=none:=U.hok.fresh<|y_ (by lia);have e7:∀b:Addr,@LE.le Nat instLENat I.heap.objs.size b->b∉frs X.stack:=λb j z=>by
  have q:=U.stkSub b z;rcases Aq.mp q with q|q
  ·rw[<-q] at d0;exact absurd d0<|Nat.not_lt.mpr j
  ·exact U.nofs j q
 have aL:∀x c,X.env.cells.lookup x=some c->@LT.lt Nat instLTNat c I.heap.objs.size:=λx c e=>by obtain⟨v,q⟩:=U.cell x c e;exact q.lt
 let X':Cx:=X.comp scope T C fp I H2
 have ca:X'.Ok:={
  mod:=U.ok.mod,kind:=S.kind,glob:=U.ok.glob,blt:=U.ok.blt
  above:=y_ (by show @LE.le Nat instLENat I.heap.objs.size C;lia)
  inj:=λx y c h1 h2=>U.ok.inj x y c (S.cl_old U h1) (S.cl_old U h2)
  has:=λx hx=>S.cl_has (S.kindOf hx)
  cab:=λx c hx=>absurd (show false=true from hx) (by simp)
  hd:=U.ok.hd,frames:=U.ok.frames,stk:=.inl rfl
  exf:=λb j=>⟨neN (by have:=bm b j;show @Ne Nat b C;lia),λx c e=>(f2 b j).2.2.2.2.1 x c<|S.cl_old U e⟩
  bs:=U.bs,bsz:=AO U.ok.bsz U.sz
  noex:=λb o e j=>by
   obtain⟨e0,n0⟩:=U.ok.bs b o e;rcases (f2 b j).2.2.2.1 with q|q
   ·exact U.ok.noex b o e q
   ·have q':@LE.le Nat instLENat X.s₀.heap.objs.size b:=q;have:=ltN e0;lia
  exfs:=λb j z=>by
   rcases Aq.mp (U.stkSub b z) with q|q
   ·exact(f2 b j).2.1 q
   ·exact(f2 b j).2.2.1 q
  funs:=U.stack,frf:=U.stkFree }
 have I4:∀tk,0<tk->z9 X' pins (σ++List.replicate T.length none) H2 { I with heap:=av,toks:=tk }:=λtk ec=>{
  tk:=ec,ok:=ca,os:=rfl,bare:=U.bare,base:=Un.kept old
  loc:=⟨_,a7,λi x v e1 e2 e3=>by
   have hi:i<σ.length:=by
    by_cases hi:i<σ.length
    ·exact hi
    ·rw[Ax (by exact yr),Ct] at e2;split at e2<;>cases e2
   rw[AI hi] at e2;have ed:i<X.N.length:=by rw[<-U.len];exact hi
   have dd:X.N[i]?=some x:=by have:(X.N++T)[i]?=some x:=e1;rw[AI ed] at this;exact this
   have cc:=S.vis (AC dd) e3;obtain⟨m,hn,hl⟩:=U.loc;have hk:=S.free x cc;obtain⟨u,r,l⟩:=hl i x v dd e2<|.inr hk;refine⟨u,r,.inr ⟨S.back cc,?_⟩⟩;rcases l with⟨l,_⟩|⟨_,c,e,z⟩
   ·rw[l] at hk;rcases hk with q|q<;>cases q
   ·obtain⟨c',e'⟩:=S.cl_has cc;have de:=S.cl_old U e';rw[e] at de;cases de;exact⟨c,e',z.keeps old⟩⟩
  cell:=λx c e=>by obtain⟨v,z⟩:=U.cell x c<|S.cl_old U e;exact⟨v,z.keeps old⟩
  free:=HC,freeC:=λx c e=>U.freeC x c (S.cl_old U e)
  pin:=λp hp=>by
   obtain⟨a,b,c,d,e⟩:=U.pin p hp;have ee:=ltN a;refine⟨old _ _ a,b,neN (by show @Ne Nat p.1 C;lia),λz=>?_,e⟩;rcases Aq.mp (U.stkSub _ z) with q|q
   ·exact c q
   ·exact d q
  hok:=U.hok.kept old
  len:=by show(σ++_).length=(X.N++T).length;rw[Aa,Aa,Ck,U.len] }
 have ck:∀(al:List<|Addr×Obj) (H':Hp),(∀p∈al,p∈pins\/p.1=D)->(∀b∈fp,H' b=none)->∀b∈fp,oJ X' al H' b:=λal H' hp hn b j=>by
  obtain⟨_,q1,q2,q3,q4,q5⟩:=f2 b j;have ee:=bm b j;refine⟨hn b j,neN (by show @Ne Nat b C;lia),ca.exfs b j,.inl j,(ca.exf b j).2,λp eg=>?_⟩;rcases Aj.mp eg with z|z
  ·exact q5 p<|Ap _ z
  ·rcases hp p z with z|z
   ·exact q5 p<|Ah _ z
   ·rw[z];exact neN (by lia)
 have stay:Tn.keep=Tn.keep:=rfl;have be:∀ac:Vv,ac={ I with heap:=av,toks:=I.toks+([]:List<|Str×Vu).length }->
  codeAny (model X.prog X.w) X.A (.compLoop (.ListComp nG [⟨target,iter,ny,0⟩] scope pos) 0 (.ref it) (.ref D) X'.env) (RR (.ref D) C) ac:=by
  rintro ac rfl;refine fu (λn s'=>∃i cm H' ys ab k,z9 X' pins cm H' s'/\(cm.length=X.N.length+T.length/\∀(i:Nat) v,(σ++List.replicate T.length none)[i]?=some (some v)->cm[i]?=some (some v))/\
   s'.heap.get? D=some { cls:=.type "list",data:=.seq (ab:Vj).toArray k }/\zn ys ab/\H' D=none/\tn i s'.heap/\(∀b∈fp,H' b=none)/\W i n ys H') ?_ m0
   ⟨0,_,H2,[],[],0,I4 _ U.tk,⟨by rw[Aa,Ck,U.len],λ_ _ e=>e⟩,cP,.nil,HD,Tn.keep _ _ _ bf λb _ o e=>old b o e,λb j=>(f2 b j).1,w0⟩
  rintro n s3 ⟨i,ew,H3,ys,ab,k,I3,⟨eh,ej⟩,ek,bb,bc,dj,dp,w3⟩;have et:ab.length=ys.length:=bb.length.symm;have dt:D∉X'.fs:=e7 D (by exact xF);have dv:D≠X'.env.locals:=bh;have dG:z9 X' (pins++[(D,{ cls:=.type "list",data:=.seq ab.toArray k })]) (σ++List.replicate T.length none) H3 s3:=
   (I3.weak (by rw[eh,Aa,Ck,U.len]) ej).pins_of λp hp=>by
    rcases Aj.mp hp with z|z
    ·exact I3.pin p<|Ah _ z
    ·have e:=Ak.mp z;subst e;exact⟨ek,bc,dv,dt,λv z=>by cases z⟩
  have au:∀p∈pins++[(D,({ cls:=.type "list",data:=.seq ab.toArray k }:Obj))],p∈pins\/p.1=D:=λp hp=>by
   rcases Aj.mp hp with z|z
   ·exact .inl z
   ·exact .inr (by rw[Ak.mp z])
  rcases turn i n ys H3 w3 with⟨stop,hz,qn⟩|⟨go,hz,step⟩
  ·refine aY (Tn.done X' rfl rfl rfl hc i _ s3 _ H3 _ dG (ck _ H3 au dp) dj stop) λr s4 ⟨hr,a0⟩=>?_;subst hr;obtain⟨el,ey,_⟩:=a0.pin (D,_)<|Ah _<|Ah _ Ao;obtain⟨m',em,_⟩:=a0.loc;have un:Un (frs X.stack) fp H2 (upd H3 D<|.lst ys) I.heap s4.heap:={
    keep:=a0.base.keep,slot:=a0.base.slot
    free:=λb o e n hx=>by have:=ltN e;rw[qu<|neN (by lia)];exact a0.base.free b o e n hx
    there:=a0.base.there
    tups:=λb xs e=>by rw[qu (λz=>by rw[z,HD] at e;cases e)];exact a0.base.tups b xs e
    frzs:=λb o u e=>by rw[qu (λz=>by rw[z,HD] at e;cases e)];exact a0.base.frzs b o u e
    tbls:=λb ps e=>by rw[qu (λz=>by rw[z,HD] at e;cases e)];exact a0.base.tbls b ps e }
   have en:gF X.prog X.w (upd H3 D<|.lst ys) s4.heap:=λb u e=>by
    by_cases j:b=D
    ·subst j;rw[zq] at e;cases e;exact⟨hz,ab,k,bb,el⟩
    ·rw[qu j] at e;refine(a0.hok b u e).stay (λ_ _ _ q=>q) (λc q=>?_) λc xs q=>?_
     ·rw[qu<|j5 q bc];exact q
     ·rw[qu<|j5 q bc];exact q
   have I5:z9 X pins σ (upd H3 D<|.lst ys) s4:=U.call' (ch:=fp) a0.os un en a0.bare λb j=>⟨(f2 b j).2.2.2.1,(f2 b j).2.1,(f2 b j).2.2.2.2.1,(f2 b j).2.2.2.2.2⟩;refine e6 D C s4 _ m' I5 ?_ em<|qn D bc;refine⟨by rw[qu<|A4 bh];exact a0.free,?_,?_,.inr ?_,λx c e=>?_,λp hp=>?_⟩
   ·exact neN (by lia)
   ·exact U.nofs<|y_ (by lia)
   ·exact y_ (by lia)
   ·exact neN (by have:=aL x c e;lia)
   ·exact neN (by have:=ltN (U.pin p hp).1;lia)
  ·refine aY (Tn.item X' rfl rfl rfl hc i _ s3 _ H3 _ dG (ck _ H3 au dp) dj go) λr s4 ψ=>?_;obtain⟨u,hr,h4⟩:=ψ;subst hr;refine aY h4 λ_ s5 ψ=>?_;obtain⟨x,H5,I5,r5,y5,k_,eo⟩:=ψ;have ep:=I5.pinned (ck _ H5 au eo)<|Tn.obj _ _ k_;refine A2 ((hg C fp I H2) _ s5 _ H5 x u _ ep r5<|e5 σ U.len x H5 _<|step x H5 y5) (λ_ s6 ψ=>?_) λ_ _ z=>z;obtain⟨ba,H6,I6,⟨dH,dV⟩,q6⟩:=ψ;refine A2 ((hf C fp I H2) _ s6 ba H6 _ I6 q6) (λb s7 ψ=>?_) λ_ _ z=>z;obtain⟨H7,I7,q7⟩:=ψ;have xh:∀{s8:Vv} {H8:Hp} (I8:z9 X' ((pins++[(D,{ cls:=.type "list",data:=.seq ab.toArray k })])++lv fp s5.heap) ba H8 s8),tn (i+1) s8.heap/\(∀b∈fp,H8 b=none)/\s8.heap.get? D=some { cls:=.type "list",data:=.seq ab.toArray k }/\H8 D=none/\z9 X' pins ba H8 s8:=λ{s8 H8} I8=>by
    refine⟨Tn.keep _ _ _ k_ λb j o e=>(I8.pin (b,o)<|Ah _<|Ah _<|dP j e).1,λb j=>?_,?_,?_,I8.unpinned.unpinned⟩
    ·obtain⟨o,e,d⟩:=Tn.obj _ _ k_ b j;exact(I8.pin (b,o)<|Ah _<|Ah _<|dP j e).2.1
    ·exact(I8.pin (D,_)<|Ah _<|Ap _<|Ah _ Ao).1
    ·exact(I8.pin (D,_)<|Ah _<|Ap _<|Ah _ Ao).2.1
   cases b with
   |false=>
    rw[Az AF] at q7 ⊢;obtain⟨m',hm,w7⟩:=q7;obtain⟨a1,a2,a3,a4,a5⟩:=xh I7;exact⟨m',hm,i+1,ba,H7,ys,ab,k,a5,⟨dH,dV⟩,a3,bb,a4,a1,a2,w7⟩
   |true=>
    rw[AA rfl] at q7 ⊢;refine A2 ((he C fp I H2) _ s7 ba H7 _ I7 q7) (λv s8 ψ=>?_) λ_ _ z=>z;obtain⟨y,H8,I8,r8,m',hm,w8⟩:=ψ;obtain⟨a1,a2,a3,a4,a5⟩:=xh I8;refine wS a3 (by lia) λh9 k9 e4 er=>?_;have nD:∀b∈fp,b≠D:=λb j=>neN (by have:=bm b j;lia);refine⟨m',hm,i+1,ba,H8,ys++[y],ab++[v],k9,?_,⟨dH,dV⟩,er,bb.append<|.cons r8 .nil,a4,Tn.keep _ _ _ a1 λb j o e=>(e4.2 b<|nD b j).trans e,a2,w8⟩;exact a5.turned (t':=s8.toks) (it:=D) (λb o j e=>(e4.2 b j).trans e) a4 dv (.inr (y_ (by show @LE.le Nat instLENat I.heap.objs.size D;exact xF))) (λx c e=>neN (by have:=aL x c<|S.cl_old U e;lia)) λp hp=>neN (by have:=ltN (U.pin p hp).1;lia)
 exact codeAny_compStart_list (be _ rfl)<|Tn.self _ _ _ _ _ (Tn.keep _ _ _ bf λb _ o e=>old b o e)<|be _ rfl
end
section
variable {T:Vm}{g:TG}{tc:TT}{te:TE}
theorem OJ(T:Vm)(S:jg X scope)(hc:X.calm=true)(hi:PI X target iter wi)(t:∀C fp s₀ H₀,PG (X.comp scope T C fp s₀ H₀) target g)(j:pD g X.N.length T.length)
 (hf:∀C fp s₀ H₀,PF (X.comp scope T C fp s₀ H₀) ny tc) (he:∀C fp s₀ H₀,PE (X.comp scope T C fp s₀ H₀) nG te)
 (hs:∀x,foldedSetIterable iter X.env x=pure x:=by intro _;rfl):PE X (.ListComp nG [⟨target,iter,ny,0⟩] scope pos) (FT T.length wi g tc te):=by
 intro J s r H Q I h;rw[eval_ListComp];refine wpAny_comprehension_free (use:=none) rfl hs (S.clo I) S.kind S.names<|aY (hi J s r H _ I h) λv s1 h1=>aY h1 λa0 s2 h2=>?_;refine mR (RR:=λl C=>compPost (model X.prog X.w) X.A X.xe none (EP X J r Q) l C) S hc t j hf he h2 ?_;intro D C s' H' m' I' U hn q;exact⟨m',hn,λh' p=>⟨.ref D,H',I'.turned (t':=s'.toks) (it:=C) (λb o hb e=>(p.2 b hb).trans e) U.1 (A4<|A4 U.2.1) U.2.2.2.1 U.2.2.2.2.1 U.2.2.2.2.2,rfl,q⟩⟩
theorem OK(T:Vm){px j:Pos}(hN:X.N.Nodup)(l:X.N[i]?=some x)(hx:Loc X.env.scope x)(S:jg X scope)(hc:X.calm=true)(hi:PI X target iter wi)
 (hg:∀C fp s₀ H₀,PG (X.comp scope T C fp s₀ H₀) target g) (p:pD g X.N.length T.length)
 (hf:∀C fp s₀ H₀,PF (X.comp scope T C fp s₀ H₀) ny tc) (he:∀C fp s₀ H₀,PE (X.comp scope T C fp s₀ H₀) nG te)
 (r:swapsWith (.ListComp nG [⟨target,iter,ny,0⟩] scope j) (some<|.Name x px) pos.line X.env=pure true:=by rfl)
 (t:X.fn x=true\/X.env.scope.names.lookup x=some .local:=by first|exact .inl rfl|exact .inr rfl|assumption)
 (hs:∀x,foldedSetIterable iter X.env x=pure x:=by intro _;rfl):PS X (.Assign [.Name x px] (.ListComp nG [⟨target,iter,ny,0⟩] scope j) pos) (FD (FT T.length wi g tc te)<|eM i):=by
 intro pins s σ H D I h;rw[exec_Assign_Name_used _ _ _ _ r];refine Ab<|wpAny_standAt<|Ab ?_;show wpAny _ X.A (do let _ <-comprehension (.ListComp nG [⟨target,iter,ny,0⟩] scope j) scope X.env _ (newList []) false (eval iter X.env) (some<|assign (.Name x px) X.env)) _ _ s;refine Ab (A2 (wpAny_comprehension_free (use:=some<|assign (.Name x px) X.env) (Q:=λ_ U=>SP X pins D .next U) rfl hs (S.clo I) S.kind S.names
  (aY (hi pins s σ H _ I h) λv s1 h1=>aY h1 λa5 s2 h2=>?_)) (λ_ U hq=>An<|An hq) λ_ _ e=>e)
 refine mR (RR:=λa0 C=>compPost (model X.prog X.w) X.A X.xe (some<|assign (.Name x px) X.env) (λ_ U=>SP X pins D .next U) a0 C) (pins:=pins) (σ:=σ) (Q:=λx H1=>eM i x σ H1 D.nx) S hc hg p hf he h2 ?_;intro A C U H' m' I' J hn q;show wpAny _ X.A (assign (.Name x px) X.env<|.ref A) _ _ U;refine wpAny_assign_Name<|oY I' hN l hx (v:=.ref A) rfl (λa1 a2 ψ _=>?_) t;obtain⟨a,hs,ha⟩:=ψ;have a3:C≠a:=by
  rcases ha with z|z
  ·rw[z];exact J.2.1
  ·exactλe=>J.2.2.2.2.1 x a z e.symm
 exact⟨m',hn.sameBut hs a3,λh' a4=>⟨_,H',a2.turned (t':=a1.toks) (it:=C) (λb o hb e=>(a4.2 b hb).trans e) J.1 J.2.1 J.2.2.2.1 J.2.2.2.2.1 J.2.2.2.2.2,q⟩⟩
end
def xj(outer:Scope)(N:Vm)(I:Scope):Bool:=
 decide (I.kind=.function)&&I.names.all (λp=>decide (p.2≠.cell)&&(decide (p.2≠.local)||decide (I.names.lookup p.1=some .local))&&(decide (p.2≠.free)||(decide (outer.names.lookup p.1=some .cell)||decide (outer.names.lookup p.1=some .free))))
  && N.all (λx=>decide<|I.names.lookup x≠some .local)
theorem xj.mk{I:Scope}(h:xj X.env.scope X.N I=true):jg X I:=by
 unfold xj at h;rw[Bc,Bc,CU,CU] at h;obtain⟨⟨l,J⟩,o⟩:=h;have j:∀n,(n,NameKind.free)∈I.names->X.env.kindOf n=some .cell\/X.env.kindOf n=some .free:=λn U=>by
  have q:=J _ U;simp only[Bc,Es,decide_eq_true_eq] at q;rcases q.2 with z|z
  ·exact absurd rfl z
  ·exact z
 refine⟨of_decide_eq_true l,λy g=>?_,λy g e=>?_,λn U=>j n<|BJ U,j,λx p=>of_decide_eq_true<|o x p⟩
 ·have q:=J _ g;simp only[Bc,Es,decide_eq_true_eq] at q;exact q.1.1
 ·have q:=J _ g;simp only[Bc,Es,decide_eq_true_eq] at q;rcases q.1.2 with z|z
  ·exact absurd e z
  ·exact z
abbrev EL:=@xj.mk
theorem vZ(n:Nat):pD (eM n) n 1:=by
 intro U I x H Q h;refine⟨⟨by simp[I],λi v e=>?_⟩,h⟩;by_cases J:i=n
 ·subst J;rw[Ax (by exact xF)] at e;simp[I] at e
 ·rw[Bl<|A4 J];exact e
theorem oS:bootBuiltins "isinstance"=some (.builtin "isinstance"):=by decide +kernel
theorem fO:bootBuiltins "tuple"=some (.type "tuple"):=by decide +kernel
theorem HG:bootBuiltins "str"=some (.type "str"):=by decide +kernel
theorem wX:bootBuiltins "int"=some (.type "int"):=by decide +kernel
theorem dI:bootBuiltins "list"=some (.type "list"):=by decide +kernel
theorem OL:bootBuiltins "len"=some (.builtin "len"):=by decide +kernel
theorem HH{k:Nat}(I:km k A):A.units+128<cLine:=by have:=I.un;lia
theorem fP(h:n<=1000):n<=sizeLine:=Bf<|pK h
theorem Cal.of{P:Vw}{w:Vx}{K:Af}{k:Nat}{sp:Sp}(F:bS P w K mg base CX0 k f fd ps sp)(b:aR K fd ps [])(I:PySem.W.keepIn K (.ref f)=true)(m:mg x=some (.ref f)):
 Cal P w K mg base k x ps sp:=⟨f,fd,F,b,I,m⟩
theorem bS.never{P:Vw}{w:Vx}{K:Af}{k:Nat}{sp:Sp}(no:∀vs H Q E,¬sp vs H Q E):bS P w K mg base CX0 k f fd ps sp:=
 ⟨λvs H Q E h=>absurd h<|no vs H Q E,λA I s H args J vs Q E _ _ _ _ h=>absurd h<|no vs H Q E⟩
section
variable (K:Af)(P:Vw)(w:Vx)
end
structure qw(K:Af)(x:Str)(st:Stmt):Prop where
 ex:∃(f:Addr) (kV ir pm:Vu) (an:Option Addr) (eK ct:Vu),PySem.W.nsIn K mainGlobals x=some (some<|.ref f)/\Fun K x x st f (PySem.W.fnOf x x (xm st) (j9 st) (qt st) .none kV ir pm an eK ct)
theorem def_in{K:Af}{kV ct:Vu}(a:PySem.W.nsIn K mainGlobals x=some (some<|.ref f))
 (l:K.lookup f=some ⟨oc,od,.func<|PySem.W.fnOf x x (xm st) (j9 st) (qt st) .none kV ir pm an eK ct,oe⟩) (c:PySem.W.codeIn K eK x=true) (k:PySem.W.keepIn K (.ref f)=true):qw K x st:=
 ⟨f,kV,ir,pm,an,eK,ct,a,Hv (st:=st) l c k⟩
theorem qw.use{K:Af}(D:qw K x st)(X:K.In h)(G:h.Ns mainGlobals mg)
 (I:∀(kV ir pm:Vu) (an:Option Addr) (eK ct:Vu) (us:Vj),us.length=ps.length->bindArgs (PySem.W.fnOf x x (xm st) (j9 st) (qt st) .none kV ir pm an eK ct) ⟨us,[]⟩=pure (ps.zip us)):
 ∃f fd,Fun K x x st f fd/\aR K fd ps []/\mg x=some (.ref f):=by
 obtain⟨f,kV,ir,pm,an,eK,ct,a,F⟩:=D.ex;exact⟨f,_,F,aR.all<|I kV ir pm an eK ct,C3 X G a⟩
end L2
namespace Words
open PySem L2
inductive Wd where
 |leaf (t:Bool) (n:Str)
 |node (e:Bool) (l r:Wd)
def kL:Bool->Str
 |false => "plain"
 |true => "turned"
def kN:Bool->Str
 |false => "both"
 |true => "either"
def Wd.turn:Wd->Wd
 |.leaf t n=>.leaf (!t) n
 |.node e l r=>.node (!e) l.turn r.turn
def Wd.depth:Wd->Nat
 |.leaf _ _=>1
 |.node _ l r=>max l.depth r.depth+1
def Wd.leaves:Wd->Nat
 |.leaf _ _=>1
 |.node _ l r=>l.leaves+r.leaves
theorem Wd.leaves_pos:∀w:Wd,1<=w.leaves
 |.leaf _ _=>Al _
 |.node _ l r=>by have:=Wd.leaves_pos l;show 1<=l.leaves+r.leaves;exact Hy
theorem Wd.depth_le:∀w:Wd,w.depth<=w.leaves
 |.leaf _ _=>Al _
 |.node _ l r=>by have:=Wd.depth_le l;have:=Wd.depth_le r;have:=Wd.leaves_pos l;have:=Wd.leaves_pos r;show max l.depth r.depth+1<=l.leaves+r.leaves;lia
def rN:Wd->Da
 |.leaf t n=>.tup [.s<|.str<|kL t,.s<|.str n]
 |.node e l r=>.tup [.s<|.str<|kN e,rN l,rN r]
def eI(x:Str):Prop:=1<=x.length/\x.length<=8/\∀c∈x.cps.toList,97<=c/\c<=122
def Wd.ok:Wd->Prop
 |.leaf _ n=>eI n
 |.node _ l r=>l.ok/\r.ok
theorem Paired.app{α β:Type}{F:α->β->Prop}:∀{xs I:List α} {ys J:List β},Paired F xs ys->Paired F I J->Paired F (xs++I) (ys++J)
 |_,_,_,_,.nil,s=>s
 |_,_,_,_,.cons r t,s=>.cons r<|Paired.app t s
theorem Paired.getP{F:α->β->Prop}:∀{xs:List α} {ys:List β} {i:Nat} {x:α},Paired F xs ys->xs[i]?=some x->∃y,ys[i]?=some y/\F x y:=by
 intro xs ys i x h
 induction h generalizing i with
 |nil=>intro h;simp at h
 |cons r t I=>
  intro h;cases i with
  |zero=>simp at h;subst h;exact⟨_,rfl,r⟩
  |succ i=>
   obtain⟨y,e,q⟩:=I (i:=i) (by simpa using h);exact⟨y,by simpa using e,q⟩
end Words
namespace L2
open PySem PySem.Spec PyProof.Rows
theorem zP{a b:Addr}{ys:VA}{es:List Da}(I:z9 X pins σ H s)(g:A.units<cLine)(j:cx X.K H a xs)(l:cx X.K H b ys)(px:Paired (ko X.K H n) xs ds)(py:Paired (ko X.K H m) ys es)
 (o:∀{x y:V} {d e:Da} {u v:Vu},ko X.K H n x d->ko X.K H m y e->zo x u->zo y v->SeqAt.EqAt A.in1 s u v (Da.eq d e)):SeqAt.RcNeAt A s (.ref a) (.ref b) (!Da.eqs ds es):=by
 obtain⟨r,J,p,_⟩:=I.tuple j;obtain⟨t,U,ty,_⟩:=I.tuple l;have q:=SeqAt.RcNeAt.tuples p ty g<|gn px py J U o;rw[Au,Au,<-J.length,<-U.length,px.length,py.length,EK] at q;exact q
theorem OM{a b:Addr}{ys:VA}{es:List Da}(I:z9 X pins σ H s)(l:A.units<cLine)(p:aO X.K H a xs)(r:aO X.K H b ys)(px:Paired (ko X.K H n) xs ds)(py:Paired (ko X.K H m) ys es)
 (t:∀{x y:V} {d e:Da} {u v:Vu},ko X.K H n x d->ko X.K H m y e->zo x u->zo y v->SeqAt.EqAt A.in1 s u v (Da.eq d e)):SeqAt.RcNeAt A s (.ref a) (.ref b) (!Da.eqs ds es):=by
 obtain⟨C,U,o,_⟩:=I.list p;obtain⟨T,j,ty,_⟩:=I.list r;by_cases g:C.toArray.size=T.toArray.size
 ·have q:=SeqAt.RcNeAt.lists (jd o) (jd ty) g l<|gn px py U j t;have J:ds.length=es.length:=by rw[<-px.length,<-py.length,U.length,j.length];simpa using g
  have e:=EK ds es;rw[J,Nat.min_self] at e;rw[<-J] at e;rw[Au,<-U.length,px.length] at q;simp only[beq_self_eq_true,DV] at e;rw[e] at q;exact q
 ·have q:=SeqAt.RcNeAt.lists_lengths (jd o) (jd ty) (by simpa using g) l;have J:ds.length≠es.length:=by rw[<-px.length,<-py.length,U.length,j.length];intro z;exact g (by simpa using z)
  have e:=EK ds es;have f:(ds.length==es.length)=false:=by simpa using J
  rw[f,Ey] at e;rw[<-e];exact q
def ON(K:Af)(k:Nat):R2:=λx y H Q=>match x,y with
 |.ref a,.ref b=>∃n m d e,n<=k/\ko K H n (.ref a) d/\ko K H m (.ref b) e/\Q (.bl<|!Da.eq d e) H
 |x,y=>Fg x y=true/\Q (.bl<|!decide (x=y)) H
theorem OO{k:Nat}(hu:X.A.units+k<cLine):aD X (compareOp .NotEq) (ON X.K k):=by
 intro J s t H x y v u Q I C T h;cases x with
 |ref a=>
  cases y with
  |ref b=>
   obtain⟨n,m,d,e,hn,l,U,q⟩:=h;cases C;cases T;have xh:∀{k:Bool},k=(!Da.eq d e)->SeqAt.RcNeAt X.A s (.ref a) (.ref b) k->wpAny (model X.prog X.w) X.A (compareOp .NotEq (.ref a)<|.ref b) (EP X J t Q) X.xe s:=λ{k} e' r=>
    r X.prog X.w X.xe (EP X J t Q) (by rw[e'];exact⟨.bl _,H,I,rfl,q⟩)
   cases n with
   |zero=>exact(j4 l.2).elim
   |succ n=>
    cases m with
    |zero=>exact(j4 U.2).elim
    |succ m=>
     have o:X.A.in1.units+n<cLine:=by show X.A.units+1+n<cLine;lia
     rcases l with⟨_,f⟩|⟨a',xs,ds,e1,rfl,p,px⟩|⟨a',xs,ds,e1,rfl,p,px⟩
     ·exact(j4 f).elim
     ·cases e1;rcases U with⟨_,f⟩|⟨b',ys,es,g,rfl,j,py⟩|⟨b',ys,es,g,rfl,j,py⟩
      ·exact(j4 f).elim
      ·cases g;exact xh rfl<|zP I (by lia) p j px py λl U r1 r2=>lu I n o l U r1 r2
      ·cases g;obtain⟨us,vx,tx,_⟩:=I.tuple p;obtain⟨vs,vy,ty,_⟩:=I.list j;exact xh rfl<|.tuple_list tx (jd ty) (by lia)
     ·cases e1;rcases U with⟨_,f⟩|⟨b',ys,es,g,rfl,j,py⟩|⟨b',ys,es,g,rfl,j,py⟩
      ·exact(j4 f).elim
      ·cases g;obtain⟨us,vx,tx,_⟩:=I.list p;obtain⟨vs,vy,ty,_⟩:=I.tuple j;exact xh rfl<|.list_tuple (jd tx) ty (by lia)
      ·cases g;exact xh rfl<|OM I (by lia) p j px py λl U r1 r2=>lu I n o l U r1 r2
  |_=>exact He J s t H _ _ v u Q I C T h
 |_=>cases y<;>exact He J s t H _ _ v u Q I C T h
theorem qP:bootBuiltins "max"=some (.builtin "max"):=by decide +kernel
theorem OP:bootBuiltins "bool"=some (.type "bool"):=by decide +kernel
end L2
namespace Words
open PySem L2
def Wd.size:Wd->Nat
 |.leaf _ _=>1
 |.node _ l r=>1+l.size+r.size
theorem Wd.size_eq:∀w:Wd,w.size+1=2*w.leaves
 |.leaf _ _=>rfl
 |.node _ l r=>by have:=Wd.size_eq l;have:=Wd.size_eq r;show 1+l.size+r.size+1=2*(l.leaves+r.leaves);lia
theorem Wd.size_turn:∀w:Wd,w.turn.size=w.size
 |.leaf _ _=>rfl
 |.node _ l r=>by show 1+l.turn.size+r.turn.size=1+l.size+r.size;rw[Wd.size_turn l,Wd.size_turn r]
end Words
namespace L2
open PySem PySem.Spec PyProof.Rows
section
variable {a:Addr}{tr:Option Addr}
end
section
variable {a b T:Addr}{tr:Option Addr}{E1:X1}
end
section
variable {k:Nat}{sp:Sp}{E1:X1}{p:Pos}{t:TA}
end
section
variable {a T:Addr}{tr:Option Addr}
end
section
variable {a T:Addr}
end
open PySem PySem.Spec PyProof.Rows PySem.W
open Builtin.ObjectAttr in
section
variable {w:Vx}{K:Frag}{a:Addr}
open Builtin Builtin.ObjectAttr Builtin.Getset_descriptor in
end
def OQ(K:Af)(H:Hp)(a C:Addr):Prop:=∃I,H a=some (.frz I<|.own 0)/\I.cls=.ref C
def rg(H:Hp)(P:Addr)(q:Str):Prop:=∃ps,H P=some (.tbl ps)/\TriplesOk ps.toList/\∀pos I,codeAmong pos ps.toList=some I->∃c' oc vs t,I=.ref c'/\H c'=some (.frz oc<|.own 0)/\oc.data=.fields vs/\vs[1]?=some (.str q t)
theorem rg.keep{P:Addr}{q:Str}(h:rg H P q)(e:H' P=H P)(t:∀b o u,H b=some (.frz o u)->H' b=some (.frz o u)):rg H' P q:=by obtain⟨I,J,U,g⟩:=h;refine⟨I,e.trans J,U,λpos j z=>?_⟩;obtain⟨l,p,r,C,T,e2,e3⟩:=g pos j z;exact⟨l,p,r,C,T,t _ _ _ e2,e3⟩
end L2
namespace L3
open PySem L2
inductive Y where
 |non|bl (b:Bool)|int (i:Int)|str (x:Str)|ref (a:Addr)|ty (n:Vz)|cd (kvs:List<|Str×Str)|tup (ys:List Y)|sq (ys:List Y)
inductive LO where
 |lst (ys:List Y)|dct (kvs:List<|jb×Y)|ins (C:Addr) (fs:List<|Str×Y)|exc (C:Addr)|tb (q:Str)
abbrev qp:=Addr->Option LO
def qe(L:qp)(a:Addr)(o:LO):qp:=λb=>if b=a then some o else L b
theorem q9{L:qp}{a:Addr}{o:LO}:qe L a o a=some o:=by unfold qe;rw[AA rfl]
theorem qc{L:qp}{a b:Addr}{o:LO}(h:b≠a):qe L a o b=L b:=by unfold qe;rw[Az h]
theorem zh{L:qp}{a:Addr}{o u:LO}:qe (qe L a o) a u=qe L a u:=by funext b;unfold qe;split<;>rfl
theorem aS{L:qp}{a b:Addr}{o:LO}(h:L a=some o)(h':L b=none):a≠b:=by intro e;subst e;rw[h] at h';cases h'
theorem FU{L:qp}{a b:Addr}{o u:LO}(h:L a=some o)(h':L b=some u)(d:o≠u):a≠b:=by intro e;subst e;rw[h] at h';exact d<|AS h'
structure G3 where
 K:Af
 P:Vw
 w:Vx
abbrev _root_.L2.Cx.g3(X:Cx):G3:=⟨X.K,X.prog,X.w⟩
def SqF(K:Af)(H:Hp)(a:Addr)(xs:VA):Prop:=(∃o,H a=some (.frz o<|.lst xs))\/
 ∃(o:Obj) (eH:Vk) (n:Nat),K.lookup a=some o/\o.cls=.type "list" /\ o.dict=none/\o.data=.seq eH n/\eH.size<=sizeLine/\zn xs eH.toList
theorem SqF.sq{K:Af}{a:Addr}(h:SqF K H a xs):aO K H a xs:=by
 rcases h with⟨o,h⟩|h
 ·exact .inl<|.inr ⟨o,h⟩
 ·exact .inr h
mutual
def RV(G:G3)(H:Hp):Y->V->Prop
 |.non,v=>v=.non
 |.bl b,v=>v=.bl b
 |.int i,v=>v=.int i
 |.str x,v=>v=.str x
 |.ref a,v=>v=.ref a
 |.ty n,v=>v=.ty n
 |.cd kvs,v=>∃a,v=.ref a/\KD G.K G.P G.w a (kvs.map λp=>(Sum.inr p.1,V.str p.2))
 |.tup ys,v=>∃a xs,v=.ref a/\cx G.K H a xs/\v5 G H ys xs
 |.sq ys,v=>∃a xs,v=.ref a/\SqF G.K H a xs/\v5 G H ys xs
def v5(G:G3)(H:Hp):List Y->VA->Prop
 |[],xs=>xs=[]
 |y::ys,xs=>∃x I,xs=x::I/\RV G H y x/\v5 G H ys I
end
def OR:HO->Bool
 |.tup _=>true
 |.frz _ _=>true
 |_=>false
def j8(H H':Hp):Prop:=∀a u,OR u=true->H a=some u->H' a=some u
theorem j8.refl(H:Hp):j8 H H:=λ_ _ _ h=>h
abbrev EG:=@j8.refl
theorem j8.trans{H1 H2:Hp}(a:j8 H H1)(b:j8 H1 H2):j8 H H2:=λc u i h=>b c u i<|a c u i h
theorem j8.new{p:Addr}{o:HO}(h:H p=none):j8 H (upd H p o):=λ_ _ _ q=>by rw[qu<|j5 q h];exact q
abbrev EH:=@j8.new
theorem j8.lst{p:Addr}{o:HO}(h:H p=some (.lst zs)):j8 H (upd H p o):=λa u i q=>by rw[qu ?_];exact q;rintro rfl;rw[h] at q;cases q;cases i
abbrev ES:=@j8.lst
theorem cx.ts{K:Af}{a:Addr}(h:cx K H a xs)(t:j8 H H'):cx K H' a xs:=by
 rcases h with(h|⟨o,h⟩)|h
 ·exact .inl<|.inl<|t _ _ rfl h
 ·exact .inl<|.inr ⟨o,t _ _ rfl h⟩
 ·exact .inr h
theorem SqF.ts{K:Af}{a:Addr}(h:SqF K H a xs)(t:j8 H H'):SqF K H' a xs:=by
 rcases h with⟨o,h⟩|h
 ·exact .inl ⟨o,t _ _ rfl h⟩
 ·exact .inr h
mutual
theorem RV.ts{G:G3}{H H':Hp}(t:j8 H H'):∀{y:Y} {v:V},RV G H y v->RV G H' y v
 |.non,_,h=>h
 |.bl _,_,h=>h
 |.int _,_,h=>h
 |.str _,_,h=>h
 |.ref _,_,h=>h
 |.ty _,_,h=>h
 |.cd _,_,h=>h
 |.tup _,_,ψ=>(by obtain⟨a,I,e,s,r⟩:=ψ;exact ⟨a,I,e,cx.ts s t,v5.ts t r⟩)
 |.sq _,_,ψ=>(by obtain⟨a,I,e,s,r⟩:=ψ;exact ⟨a,I,e,s.ts t,v5.ts t r⟩)
theorem v5.ts{G:G3}{H H':Hp}(t:j8 H H'):∀{ys:List Y} {xs:VA},v5 G H ys xs->v5 G H' ys xs
 |[],_,h=>h
 |_::_,_,ψ=>(by obtain⟨x,I,e,r,s⟩:=ψ;exact ⟨x,I,e,RV.ts t r,v5.ts t s⟩)
end
theorem v5.length{G:G3}{H:Hp}:∀{ys:List Y} {xs:VA},v5 G H ys xs->ys.length=xs.length
 |[],_,h=>by cases h;rfl
 |_::_,_,ψ=>by obtain⟨x,I,e,_,s⟩:=ψ;subst e;simp[v5.length s]
theorem v5.get{G:G3}{H:Hp}:∀{ys:List Y} {xs:VA} {i:Nat} {y:Y},v5 G H ys xs->ys[i]?=some y->∃x,xs[i]?=some x/\RV G H y x
 |[],_,_,_,_,h=>by simp at h
 |_::_,_,0,_,ψ,h=>by obtain⟨x,I,e,r,_⟩:=ψ;subst e;simp at h;subst h;exact⟨x,rfl,r⟩
 |_::_,_,i+1,_,ψ,h=>by obtain⟨x,I,e,_,s⟩:=ψ;subst e;obtain⟨J,q,r⟩:=v5.get (i:=i) s (by simpa using h);exact⟨J,by simpa using q,r⟩
theorem v5.app{G:G3}{H:Hp}:∀{ys zs:List Y} {xs us:VA},v5 G H ys xs->v5 G H zs us->v5 G H (ys++zs) (xs++us)
 |[],_,_,_,h,q=>by cases h;exact q
 |_::_,_,_,_,ψ,q=>by obtain⟨x,I,e,r,s⟩:=ψ;subst e;exact⟨x,I++_,rfl,r,v5.app s q⟩
theorem v5.one{G:G3}{y:Y}{x:V}(r:RV G H y x):v5 G H [y] [x]:=⟨x,[],rfl,r,rfl⟩
theorem v5.take{G:G3}{H:Hp}:∀{ys:List Y} {xs:VA} (n:Nat),v5 G H ys xs->v5 G H (ys.take n) (xs.take n)
 |[],_,n,h=>by cases h;simp[v5]
 |_::_,_,0,_=>by simp[v5]
 |_::_,_,n+1,ψ=>by obtain⟨x,I,e,r,s⟩:=ψ;subst e;exact⟨x,I.take n,rfl,r,v5.take n s⟩
theorem v5.drop{G:G3}{H:Hp}:∀{ys:List Y} {xs:VA} (n:Nat),v5 G H ys xs->v5 G H (ys.drop n) (xs.drop n)
 |[],_,n,h=>by cases h;simp[v5]
 |_::_,_,0,h=>h
 |_::_,_,n+1,ψ=>by obtain⟨x,I,e,r,s⟩:=ψ;subst e;exact v5.drop n s
theorem v5.setY{G:G3}{H:Hp}{y:Y}{x:V}(r:RV G H y x):∀{ys:List Y} {xs:VA} (i:Nat),v5 G H ys xs->v5 G H (ys.set i y) (xs.set i x)
 |[],_,_,h=>by cases h;simp[v5]
 |_::_,_,0,ψ=>by obtain⟨J,I,e,_,s⟩:=ψ;subst e;exact⟨x,I,rfl,r,s⟩
 |_::_,_,i+1,ψ=>by obtain⟨J,I,e,q,s⟩:=ψ;subst e;exact⟨J,I.set i x,rfl,q,v5.setY r i s⟩
theorem v5.dropLast{G:G3}{ys:List Y}(h:v5 G H ys xs):v5 G H ys.dropLast xs.dropLast:=by rw[List.dropLast_eq_take,List.dropLast_eq_take,h.length];exact h.take _
theorem v5.eraseIdx{G:G3}{H:Hp}:∀{ys:List Y} {xs:VA} (n:Nat),v5 G H ys xs->v5 G H (ys.eraseIdx n) (xs.eraseIdx n)
 |[],_,n,h=>by cases h;simp[v5]
 |_::_,_,0,ψ=>by obtain⟨x,I,e,r,s⟩:=ψ;subst e;exact s
 |_::_,_,n+1,ψ=>by obtain⟨x,I,e,r,s⟩:=ψ;subst e;exact⟨x,I.eraseIdx n,rfl,r,v5.eraseIdx n s⟩
def RO(G:G3)(H:Hp)(a:Addr):LO->Prop
 |.lst ys=>∃xs,H a=some (.lst xs)/\v5 G H ys xs
 |.dct kvs=>∃xs,H a=some (.dK xs)/\Paired (λ(p:jb×Y) (q:jb×V)=>p.1=q.1/\RV G H p.2 q.2) kvs xs
 |.ins C fs=>∃dx xs,H a=some (.ins C dx xs)/\Paired (λ(p:Str×Y) (q:Str×V)=>p.1=q.1/\RV G H p.2 q.2) fs xs
 |.exc C=>OQ G.K H a C
 |.tb q=>rg H a q
def ja(G:G3)(H:Hp)(L:qp):Prop:=∀a o,L a=some o->RO G H a o
theorem RO.ex{G:G3}{a:Addr}:∀{o:LO},RO G H a o->∃u,H a=some u
 |.lst _,ψ=>(by obtain⟨_,h,_⟩:=ψ;exact ⟨_,h⟩)
 |.dct _,ψ=>(by obtain⟨_,h,_⟩:=ψ;exact ⟨_,h⟩)
 |.ins _ _,ψ=>(by obtain⟨_,_,h,_⟩:=ψ;exact ⟨_,h⟩)
 |.exc _,ψ=>(by obtain⟨_,h,_⟩:=ψ;exact ⟨_,h⟩)
 |.tb _,ψ=>(by obtain⟨_,h,_⟩:=ψ;exact ⟨_,h⟩)
theorem ja.none{G:G3}{L:qp}(h:ja G H L){p:Addr}(hp:H p=none):L p=none:=by cases e:L p with|none=>rfl|some o=>obtain⟨u,q⟩:=(h p o e).ex;rw[hp] at q;cases q
theorem RO.keep{G:G3}(t:j8 H H'){a:Addr}(e:H' a=H a):∀{o:LO},RO G H a o->RO G H' a o
 |.lst _,ψ=>(by obtain⟨I,h,r⟩:=ψ;exact ⟨I,e.trans h,r.ts t⟩)
 |.dct _,ψ=>(by obtain⟨I,h,r⟩:=ψ;exact ⟨I,e.trans h,EJ r λ_ _ ψ=>(by obtain⟨a,b⟩:=ψ;exact ⟨a,b.ts t⟩)⟩)
 |.ins _ _,ψ=>(by obtain⟨J,I,h,r⟩:=ψ;exact ⟨J,I,e.trans h,EJ r λ_ _ ψ=>(by obtain⟨a,b⟩:=ψ;exact ⟨a,b.ts t⟩)⟩)
 |.exc _,ψ=>(by obtain⟨o,h,c⟩:=ψ;exact ⟨o,e.trans h,c⟩)
 |.tb _,h=>rg.keep h e λb o u z=>t b _ rfl z
theorem ja.skip{G:G3}{L:qp}(h:ja G H L){p:Addr}{o:HO}(hp:H p=.none):ja G (upd H p o) L:=λa u e=>by obtain⟨x,q⟩:=(h a u e).ex;exact(h a u e).keep (EH hp) (qu<|j5 q hp)
theorem ja.newL{G:G3}{L:qp}(h:ja G H L){p:Addr}{ys:List Y}(hp:H p=.none)(r:v5 G H ys xs):ja G (upd H p<|.lst xs) (qe L p<|.lst ys):=λa u e=>by
 by_cases c:a=p
 ·subst c;rw[q9] at e;cases e;exact⟨xs,zq,r.ts<|EH hp⟩
 ·rw[qc c] at e;exact(h a u e).keep (EH hp) (qu c)
theorem ja.setL{G:G3}{L:qp}(h:ja G H L){p:Addr}{ys:List Y}(hp:H p=some (.lst zs))(r:v5 G H ys xs):ja G (upd H p<|.lst xs) (qe L p<|.lst ys):=λa u e=>by
 by_cases c:a=p
 ·subst c;rw[q9] at e;cases e;exact⟨xs,zq,r.ts<|ES hp⟩
 ·rw[qc c] at e;exact(h a u e).keep (ES hp) (qu c)
def qd(L L':qp):Prop:=∀a o,L a=some o->L' a=some o
theorem qd.refl(L:qp):qd L L:=λ_ _ h=>h
abbrev EF:=@qd.refl
theorem qd.trans{L L1 L2:qp}(a:qd L L1)(b:qd L1 L2):qd L L2:=λc o h=>b c o<|a c o h
theorem qd.new{L:qp}{p:Addr}{o:LO}(h:L p=none):qd L (qe L p o):=λa u e=>by rw[qc<|aS e h];exact e
abbrev By:=@qd.new
theorem ja.sub{G:G3}{L L':qp}(h:ja G H L')(s:qd L L'):ja G H L:=λa o e=>h a o<|s a o e
abbrev jq:=List<|Option Y
structure vn(G:G3)(H:Hp)(σ:St)(τ:jq):Prop where
 len:σ.length=τ.length
 get:∀(i:Nat) y,τ[i]?=some (some y)->∃v,σ[i]?=some (some v)/\RV G H y v
theorem vn.ts{G:G3}{τ:jq}(h:vn G H σ τ)(t:j8 H H'):vn G H' σ τ:=
 ⟨h.len,λi y e=>let ⟨v,a,b⟩:=h.get i y e;⟨v,a,b.ts t⟩⟩
theorem vn.set{G:G3}{τ:jq}(h:vn G H σ τ){v:V}{y:Y}(r:RV G H y v):vn G H (σ.set i<|some v) (τ.set i<|some y):=by
 refine⟨by simp[h.len],λj z e=>?_⟩;by_cases c:i=j
 ·subst c;have I:i<τ.length:=by
   by_cases q:i<τ.length
   ·exact q
   ·rw[BU (by simp;omega)] at e;cases e
  rw[BH I] at e;cases e;exact⟨v,BH (by rw[h.len];exact I),r⟩
 ·rw[Bl c] at e ⊢;exact h.get j z e
theorem vn.more{G:G3}{τ:jq}(h:vn G H σ τ)(n:Nat):vn G H (σ++List.replicate n none) (τ++List.replicate n none):=by
 refine⟨by simp[h.len],λj z e=>?_⟩;by_cases c:j<τ.length
 ·rw[AI c] at e;rw[AI (by rw[h.len];exact c)];exact h.get j z e
 ·rw[Ax (by omega),Ct] at e;split at e<;>cases e
def z_:jq->Nat->Option Y
 |[],_=>none
 |o::_,0=>o
 |_::r,i+1=>z_ r i
theorem qC:∀(τ:jq) (i:Nat) {y:Y},z_ τ i=some y->τ[i]?=some (some y)
 |[],_,_,h=>by cases h
 |o::_,0,_,h=>by simp[z_] at h;simp[h]
 |_::r,i+1,_,h=>by simp only[C8];exact qC r i h
abbrev YK:=Y->qp->Prop
abbrev vt:=jq->qp->YK->Prop
abbrev jR:=jq->qp->(Bool->qp->Prop)->Prop
abbrev gg:=jq->qp->(List Y->qp->Prop)->Prop
structure xi where
 nx:jq->qp->Prop
 rt:YK
 bk:jq->qp->Prop:=λ_ _=>False
 ct:jq->qp->Prop:=λ_ _=>False
abbrev k8:=xi->jq->qp->Prop
abbrev oB:=Y->jq->qp->(jq->qp->Prop)->Prop
abbrev uI:=List Y->jq->qp->(jq->qp->Prop)->Prop
abbrev o_:=jq->qp->(List Y->(qp->Prop)->qp->Prop)->Prop
abbrev wO:=Y->Y->qp->YK->Prop
def vA(G:G3)(H:Hp)(I:YK)(Q:VK):Prop:=∀v H' y L',j8 H H'->ja G H' L'->RV G H' y v->I y L'->Q v H'
def zN(G:G3)(H:Hp)(I:Bool->qp->Prop)(Q:Bool->Hp->Prop):Prop:=∀b H' L',j8 H H'->ja G H' L'->I b L'->Q b H'
def HI(G:G3)(H:Hp)(I:List Y->qp->Prop)(Q:VA->Hp->Prop):Prop:=∀vs H' ys L',j8 H H'->ja G H' L'->v5 G H' ys vs->I ys L'->Q vs H'
def oW(G:G3)(H:Hp)(I:jq->qp->Prop)(Q:St->Hp->Prop):Prop:=∀σ H' τ L',j8 H H'->vn G H' σ τ->ja G H' L'->I τ L'->Q σ H'
theorem vA.ts{G:G3}{I:YK}{Q:VK}(h:vA G H I Q)(t:j8 H H'):vA G H' I Q:=λv J y U g=>h v J y U<|t.trans g
theorem zN.ts{G:G3}{I:Bool->qp->Prop}{Q:Bool->Hp->Prop}(h:zN G H I Q)(t:j8 H H'):zN G H' I Q:=λv J U g=>h v J U<|t.trans g
theorem oW.ts{G:G3}{I:jq->qp->Prop}{Q:St->Hp->Prop}(h:oW G H I Q)(t:j8 H H'):oW G H' I Q:=λv J y U g=>h v J y U<|t.trans g
structure aad(G:G3)(H:Hp)(D3:xi)(D:uo):Prop where
 nx:oW G H D3.nx D.nx
 rt:vA G H D3.rt D.rt
 bk:oW G H D3.bk D.bk
 ct:oW G H D3.ct D.ct
theorem aad.ts{G:G3}{D3:xi}{D:uo}(h:aad G H D3 D)(t:j8 H H'):aad G H' D3 D:=⟨h.nx.ts t,h.rt.ts t,h.bk.ts t,h.ct.ts t⟩
def xK(G:G3)(t:vt):TE:=λσ H Q=>∃τ L I,vn G H σ τ/\ja G H L/\t τ L I/\vA G H I Q
def g_(G:G3)(t:jR):TT:=λσ H Q=>∃τ L I,vn G H σ τ/\ja G H L/\t τ L I/\zN G H I Q
def HJ(G:G3)(t:gg):TA:=λσ H Q=>∃τ L I,vn G H σ τ/\ja G H L/\t τ L I/\HI G H I Q
def Fj(G:G3)(t:k8):L2.TS:=λD σ H=>∃τ L D3,vn G H σ τ/\ja G H L/\t D3 τ L/\aad G H D3 D
def Ev(G:G3)(g:oB):TG:=λv σ H Q=>∃y τ L I,RV G H y v/\vn G H σ τ/\ja G H L/\g y τ L I/\oW G H I Q
def OS(G:G3)(g:uI):e_:=λvs σ H Q=>∃ys τ L I,v5 G H ys vs/\vn G H σ τ/\ja G H L/\g ys τ L I/\oW G H I Q
structure gM(G:G3)(H₀:Hp)(J:It)(ys:List Y)(keep:qp->Prop):Prop where
 go:∀i H L,j8 H₀ H->ja G H L->keep L->i<ys.length->J.go i H
 yld:∀i H L x H' y,j8 H₀ H->ja G H L->keep L->ys[i]?=some y->J.yld i H x H'->j8 H H'/\ja G H' L/\RV G H' y x
 stop:∀H L,j8 H₀ H->ja G H L->keep L->J.stop ys.length H
def FV(G:G3)(wi:o_):TI:=λσ H R=>∃τ L I,vn G H σ τ/\ja G H L/\wi τ L I/\∀J H' ys keep L',j8 H H'->ja G H' L'->gM G H' J ys keep->I ys keep L'->R J H'
def lM(G:G3)(U:wO):R2:=λx y H Q=>∃x3 I L J,RV G H x3 x/\RV G H I y/\ja G H L/\U x3 I L J/\vA G H J Q
def l_(G:G3)(J:List Y->qp->YK->Prop):VA->Hp->VK->Prop:=λxs H Q=>∃ys L I,v5 G H ys xs/\ja G H L/\J ys L I/\vA G H I Q
theorem PE.imp{t u:TE}(h:PE X e t)(q:∀σ H Q,u σ H Q->t σ H Q):PE X e u:=λJ s σ H Q I z=>h J s σ H Q I<|q σ H Q z
abbrev EU:=@PE.imp
theorem PE.imq{G:G3}{t:TE}{u:vt}(h:PE X e t)(q:∀σ H Q τ L I,vn G H σ τ->ja G H L->u τ L I->vA G H I Q->t σ H Q):PE X e (xK G u):=EU h λσ H Q ψ=>(by obtain⟨τ,L,I,a,b,c,d⟩:=ψ;exact q σ H Q τ L I a b c d)
abbrev EI:=@PE.imq
theorem PT.imp{t u:TT}(h:PT X e t)(q:∀σ H Q,u σ H Q->t σ H Q):PT X e u:=λJ s σ H Q I z=>h J s σ H Q I<|q σ H Q z
theorem PT.imq{G:G3}{t:TT}{u:jR}(h:PT X e t)(q:∀σ H Q τ L I,vn G H σ τ->ja G H L->u τ L I->zN G H I Q->t σ H Q):PT X e (g_ G u):=PT.imp h λσ H Q ψ=>(by obtain⟨τ,L,I,a,b,c,d⟩:=ψ;exact q σ H Q τ L I a b c d)
theorem PW.imp{t u:TT}(h:PW X e t)(q:∀σ H Q,u σ H Q->t σ H Q):PW X e u:=λU J s σ H Q I z=>h U J s σ H Q I<|q σ H Q z
theorem PW.imq{G:G3}{t:TT}{u:jR}(h:PW X e t)(q:∀σ H Q τ L I,vn G H σ τ->ja G H L->u τ L I->zN G H I Q->t σ H Q):PW X e (g_ G u):=PW.imp h λσ H Q ψ=>(by obtain⟨τ,L,I,a,b,c,d⟩:=ψ;exact q σ H Q τ L I a b c d)
theorem PA.imp{e:Vn}{t u:TA}(h:PA X e t)(q:∀σ H Q,u σ H Q->t σ H Q):PA X e u:=λpos J s σ H Q I z=>h pos J s σ H Q I<|q σ H Q z
theorem PA.imq{G:G3}{e:Vn}{t:TA}{u:gg}(h:PA X e t)(q:∀σ H Q τ L I,vn G H σ τ->ja G H L->u τ L I->HI G H I Q->t σ H Q):PA X e (HJ G u):=PA.imp h λσ H Q ψ=>(by obtain⟨τ,L,I,a,b,c,d⟩:=ψ;exact q σ H Q τ L I a b c d)
theorem PS.imp{e:Stmt}{t u:L2.TS}(h:PS X e t)(q:∀D σ H,u D σ H->t D σ H):PS X e u:=λJ s σ H Q I z=>h J s σ H Q I<|q _ σ H z
theorem PS.imq{G:G3}{e:Stmt}{t:L2.TS}{u:k8}(h:PS X e t)(q:∀D σ H τ L D3,vn G H σ τ->ja G H L->u D3 τ L->aad G H D3 D->t D σ H):PS X e (Fj G u):=PS.imp h λD σ H ψ=>(by obtain⟨τ,L,D3,a,b,c,d⟩:=ψ;exact q D σ H τ L D3 a b c d)
abbrev EM:=@PS.imq
theorem kW.imp{e:Vo}{t u:L2.TS}(h:kW X e t)(q:∀D σ H,u D σ H->t D σ H):kW X e u:=λJ s σ H Q I z=>h J s σ H Q I<|q _ σ H z
theorem kW.imq{G:G3}{e:Vo}{t:L2.TS}{u:k8}(h:kW X e t)(q:∀D σ H τ L D3,vn G H σ τ->ja G H L->u D3 τ L->aad G H D3 D->t D σ H):kW X e (Fj G u):=kW.imp h λD σ H ψ=>(by obtain⟨τ,L,D3,a,b,c,d⟩:=ψ;exact q D σ H τ L D3 a b c d)
theorem PF.imp{e:Vn}{t u:TT}(h:PF X e t)(q:∀σ H Q,u σ H Q->t σ H Q):PF X e u:=λJ s σ H Q I z=>h J s σ H Q I<|q σ H Q z
end L3
variable {g:L3.oB}{G:L3.G3}{y:L3.Y}{tA tc:L3.jR}{ta tb te to:L3.vt}{kvs:List<|L2.jb×L3.Y}{hd ys:List L3.Y}{L L' L0 L1:L3.qp}{τ:L3.jq}{gs:L3.uI}{tr:L3.gg}{c0 c1 c5 c6 c7 c8:Option L3.Y}{En:L3.xi}
namespace L3
open PySem L2
def kn(b:Bool)(A B:Prop):Prop:=match b with
 |true=>A
 |false=>B
theorem OT{b:Bool}{A B:Prop}(h:b=true->A)(k:b=false->B):kn b A B:=by cases b with|true=>exact h rfl|false=>exact k rfl
theorem aH{b:Bool}{A B:Prop}(e:b=true)(h:A):kn b A B:=by rw[e];exact h
theorem wn{b:Bool}{A B:Prop}(e:b=false)(h:B):kn b A B:=by rw[e];exact h
theorem jc{p:Prop} [Decidable p]{A B:Prop}(h:p->A)(k:¬p->B):kn (decide p) A B:=by
 by_cases c:p
 ·rw[AE c];exact h c
 ·rw[Av c];exact k c
def nb(neg b:Bool):Bool:=match neg with
 |true=>!b
 |false=>b
def qf(i:Nat)(τ:jq)(L:qp)(Q:YK):Prop:=match z_ τ i with
 |some y=>Q y L
 |none=>False
def yC(y:Y)(_:jq)(L:qp)(Q:YK):Prop:=Q y L
def jr(r:wO)(ta tb:vt)(τ:jq)(L:qp)(Q:YK):Prop:=ta τ L λx L1=>tb τ L1 λy L2=>r x y L2 Q
def yI(C:Int->Int->Prop)(g:Int->Int->Y)(x y:Y)(L:qp)(Q:YK):Prop:=match x,y with
 |.int i,.int j=>C i j/\Q (g i j) L
 |_,_=>False
def t_(g:Int->Int->Y)(x y:Y)(L:qp)(Q:YK):Prop:=match x,y with
 |.int i,.int j=>Q (g i j) L
 |_,_=>False
def db(L:qp):Y->Option (List Y)
 |.tup ys=>some ys
 |.sq ys=>some ys
 |.ref a=>match L a with
  |some (.lst ys)=>some ys
  |_=>none
 |_=>none
@[irreducible] def dm (L:qp) (a:Addr) (k:List Y->Prop):Prop:=match L a with
 |some (.lst ys)=>k ys
 |_=>False
theorem vf{a:Addr}{k:List Y->Prop}(h:dm L a k):∃ys,L a=some (.lst ys)/\k ys:=by
 unfold dm at h;split at h
 ·rename_i ys e;exact⟨ys,e,h⟩
 ·exact h.elim
theorem qo{a:Addr}{k:List Y->Prop}(e:L a=some (.lst ys))(h:k ys):dm L a k:=by unfold dm;rw[e];exact h
def oE(L:qp)(x:Y)(k:List Y->Prop):Prop:=match x with
 |.tup ys=>k ys
 |.sq ys=>k ys
 |.ref a=>dm L a k
 |_=>False
theorem jv{a:Addr}(h:L a=some (.lst ys)):db L (.ref a)=some ys:=by show(match L a with|some (.lst ys)=>some ys|_=>none)=some ys;rw[h]
theorem ce{x:Y}{k:List Y->Prop}(h:oE L x k):∃ys,db L x=some ys/\k ys:=by
 cases x with
 |tup ys=>exact⟨ys,rfl,h⟩
 |sq ys=>exact⟨ys,rfl,h⟩
 |ref a=>obtain⟨ys,e,q⟩:=vf h;exact⟨ys,jv e,q⟩
 |_=>exact h.elim
theorem pM{a:Addr}(h:db L (.ref a)=some ys):L a=some (.lst ys):=by
 have I:(match L a with|some (.lst ys)=>some ys|_=>none)=some ys:=h;split at I
 ·rename_i e;cases I;exact e
 ·cases I
theorem OU{x:Y}{k:List Y->Prop}(e:db L x=some ys)(h:k ys):oE L x k:=by cases x with|tup I=>cases e;exact h|sq I=>cases e;exact h|ref a=>exact qo (pM e) h|_=>cases e
theorem qb{a:Addr}{k:List Y->Prop}(e:L a=some (.lst ys))(h:k ys):oE L (.ref a) k:=OU (jv e) h
def ai(x y:Y)(L:qp)(Q:YK):Prop:=match x,y with
 |.int i,.int j=>Q (.int<|i+j) L
 |.str a,.str b=>a.length+b.length<=sizeLine/\Q (.str<|a++b) L
 |.ref a,.ref b=>∃ys zs,L a=some (.lst ys)/\L b=some (.lst zs)/\ys.length+zs.length<=sizeLine/\∀p,L p=none->Q (.ref p) (qe L p<|.lst<|ys++zs)
 |_,_=>False
def zS(L:qp)(Q:α->qp->Prop):Option α->Prop
 |some v=>Q v L
 |none=>False
def kj(kvs:List<|jb×Y)(k:jb):Option Y:=(kvs.find? λp=>decide<|p.1=k).map (·.2)
@[irreducible] def uR (L:qp) (a:Addr) (k:List (jb×Y)->Prop):Prop:=match L a with
 |some (.dct kvs)=>k kvs
 |_=>False
theorem iQ{a:Addr}{k:List (jb×Y)->Prop}(h:uR L a k):∃kvs,L a=some (.dct kvs)/\k kvs:=by
 unfold uR at h;split at h
 ·rename_i I e;exact⟨I,e,h⟩
 ·exact h.elim
theorem xa{a:Addr}{k:List (jb×Y)->Prop}(e:L a=some (.dct kvs))(h:k kvs):uR L a k:=by unfold uR;rw[e];exact h
def aN(x y:Y)(L:qp)(Q:YK):Prop:=match x,y with
 |.str z,.int i=>z.length<=sizeLine/\zS L (λc L=>Q (.str ⟨#[c]⟩) L) (bz z.cps.toList i)
 |.cd kvs,.str k=>zS L (λs L=>Q (.str s) L)<|kvs.lookup k
 |.ref a,.str k=>uR L a λkvs=>zS L Q<|kj kvs<|.inr k
 |x,.int i=>oE L x λys=>zS L Q<|bz ys i
 |_,_=>False
def vY(xs:List Y)(L:qp)(Q:YK):Prop:=match xs with
 |[.str z]=>z.length<=sizeLine/\Q (.int z.length) L
 |[x]=>oE L x λys=>Q (.int ys.length) L
 |_=>False
def pq(xs:List Y)(L:qp)(Q:YK):Prop:=match xs with
 |[.int i,.int j]=>Q (.int<|max i j) L
 |_=>False
def tK(xs:List Y)(L:qp)(Q:YK):Prop:=match xs with
 |[.int i,.int j]=>Q (.int<|min i j) L
 |_=>False
inductive sI where
 |non|bool|int|str|tuple|list|dict
def sI.nm:sI->Vz
 |.non => "NoneType"
 |.bool => "bool"
 |.int => "int"
 |.str => "str"
 |.tuple => "tuple"
 |.list => "list"
 |.dict => "dict"
def A_(L:qp):Y->Option sI
 |.non=>some .non
 |.bl _=>some .bool
 |.int _=>some .int
 |.str _=>some .str
 |.tup _=>some .tuple
 |.sq _=>some .list
 |.ref a=>match L a with
  |some (.lst _)=>some .list
  |some (.dct _)=>some .dict
  |_=>none
 |_=>none
theorem OV{a:Addr}(h:L a=some (.lst ys)):A_ L (.ref a)=some .list:=by show(match L a with|some (.lst _)=>some sI.list|some (.dct _)=>some .dict|_=>none)=some .list;rw[h]
def FW:sI->sI->Bool
 |.bool,.int=>true
 |.bool,.bool=>true
 |.int,.int=>true
 |.str,.str=>true
 |.tuple,.tuple=>true
 |.list,.list=>true
 |.dict,.dict=>true
 |.non,.non=>true
 |_,_=>false
@[irreducible] def EQ (L:qp) (a:Addr) (k:sI->Prop):Prop:=match A_ L (.ref a) with
 |some T=>k T
 |none=>False
theorem OW{a:Addr}{k:sI->Prop}(h:EQ L a k):∃T,A_ L (.ref a)=some T/\k T:=by
 unfold EQ at h;split at h
 ·rename_i T e;exact⟨T,e,h⟩
 ·exact h.elim
theorem iM{a:Addr}{k:sI->Prop}(e:L a=some (.lst ys))(h:k .list):EQ L a k:=by unfold EQ;rw[OV e];exact h
def HK(L:qp)(x:Y)(k:sI->Prop):Prop:=match x with
 |.non=>k .non
 |.bl _=>k .bool
 |.int _=>k .int
 |.str _=>k .str
 |.tup _=>k .tuple
 |.sq _=>k .list
 |.ref a=>EQ L a k
 |_=>False
theorem OX{x:Y}{k:sI->Prop}(h:HK L x k):∃T,A_ L x=some T/\k T:=by cases x with|ref a=>exact OW h|ty n=>exact h.elim|cd k=>exact h.elim|_=>exact⟨_,rfl,h⟩
def OY(S:sI)(te:vt)(τ:jq)(L:qp)(Q:YK):Prop:=te τ L λx L1=>HK L1 x λT=>Q (.bl<|FW T S) L1
def gJ:Y->Bool
 |.non=>true
 |.bl _=>true
 |.int _=>true
 |.str _=>true
 |_=>false
def di:Y->V
 |.non=>.non
 |.bl b=>.bl b
 |.int i=>.int i
 |.str x=>.str x
 |_=>.ty "?"
theorem RV.flat :∀{y:Y} {v:V},gJ y=true->RV G H y v->v=di y:=by intro y v e h;cases y<;>first|exact h|cases e
theorem iP:∀{y:Y},gJ y=true->ak (di y)=true
 |.non,_=>rfl
 |.bl _,_=>rfl
 |.int _,_=>rfl
 |.str _,_=>rfl
theorem v5.flat :∀{ys:List Y} {xs:VA},ys.all gJ=true->v5 G H ys xs->xs=ys.map di
 |[],_,_,h=>h
 |y::ys,_,f,ψ=>by obtain⟨x,I,e,r,s⟩:=ψ;rw[DU,Bc] at f;rw[e,r.flat f.1,s.flat f.2];rfl
def HL:Y->Bool
 |.ref _=>true
 |.sq _=>true
 |_=>false
def jz(L:qp):Nat->Y->Da->Prop
 |0,y,d=>gJ y=true/\d=.s (di y)
 |n+1,y,d=>(gJ y=true/\d=.s (di y))\/(∃ys ds,y=.tup ys/\d=.tup ds/\Paired (jz L n) ys ds)\/(∃ys ds,HL y=true/\d=.lst ds/\db L y=some ys/\Paired (jz L n) ys ds)
def A':Y->Bool
 |.ref _=>true
 |.tup _=>true
 |.sq _=>true
 |_=>false
def c_(neg:Bool)(x y:Y)(L:qp)(Q:YK):Prop:=match x,y with
 |.int i,.int j=>Q (.bl<|nb neg<|decide<|i=j) L
 |.str i,.str j=>Q (.bl<|nb neg<|decide<|i=j) L
 |.bl i,.bl j=>Q (.bl<|nb neg<|decide<|i=j) L
 |x,y=>A' x=true/\A' y=true/\∃n m d e,n<=128/\jz L n x d/\jz L m y e/\Q (.bl<|nb neg<|Da.eq d e) L
def kJ(neg:Bool)(ta:vt)(τ:jq)(L:qp)(Q:YK):Prop:=ta τ L λx L1=>match x with
 |.non=>Q (.bl<|!neg) L1
 |_=>Q (.bl neg) L1
def yB(t:vt)(τ:jq)(L:qp)(Q:Bool->qp->Prop):Prop:=t τ L λx L1=>match x with
 |.bl c=>Q c L1
 |_=>False
def n5(t u:jR)(τ:jq)(L:qp)(Q:Bool->qp->Prop):Prop:=t τ L λc L1=>kn c (u τ L1 Q)<|Q false L1
def OZ(t u:jR)(τ:jq)(L:qp)(Q:Bool->qp->Prop):Prop:=t τ L λc L1=>kn c (Q true L1)<|u τ L1 Q
def FX(t:jR)(τ:jq)(L:qp)(Q:Bool->qp->Prop):Prop:=t τ L λc L1=>Q (!c) L1
def HM(ta tb:vt)(τ:jq)(L:qp)(Q:YK):Prop:=ta τ L λx L1=>match x with
 |.bl c=>kn c (tb τ L1 Q)<|Q (.bl false) L1
 |_=>False
def O0(ta:vt)(τ:jq)(L:qp)(Q:YK):Prop:=ta τ L λx L1=>match x with
 |.bl c=>Q (.bl<|!c) L1
 |_=>False
def ER(t:jR)(ta tb:vt)(τ:jq)(L:qp)(Q:YK):Prop:=t τ L λc L1=>kn c (ta τ L1 Q)<|tb τ L1 Q
def x0(_:jq)(L:qp)(Q:List Y->qp->Prop):Prop:=Q [] L
def qr(ta:vt)(tr:gg)(τ:jq)(L:qp)(Q:List Y->qp->Prop):Prop:=ta τ L λx L1=>tr τ L1 λxs L2=>Q (x::xs) L2
def aP(t:gg)(τ:jq)(L:qp)(Q:YK):Prop:=t τ L λys L1=>match Nat.ble ys.length 1000 with
 |true=>Q (.tup ys) L1
 |false=>False
def dF(t:gg)(τ:jq)(L:qp)(Q:YK):Prop:=t τ L λys L1=>match Nat.ble ys.length 1000 with
 |true=>∀p,L1 p=none->Q (.ref p) (qe L1 p<|.lst ys)
 |false=>False
def l8(r:List Y->qp->YK->Prop)(t:gg)(τ:jq)(L:qp)(Q:YK):Prop:=t τ L λvs L1=>r vs L1 Q
abbrev E6:=jq->qp->(Vr->qp->Prop)->Prop
def kq(_:jq)(L:qp)(Q:Vr->qp->Prop):Prop:=Q none L
def bp(t:vt)(τ:jq)(L:qp)(Q:Vr->qp->Prop):Prop:=t τ L λx L1=>match x with
 |.int i=>Q (some i) L1
 |_=>False
def gd(xs:List Y)(lo hi:Vr):List Y:=(xs.drop<|HT.sIx xs.length 0 lo).take<|HT.sIx xs.length xs.length hi-HT.sIx xs.length 0 lo
def HN(x:Y)(lo hi:Vr)(L:qp)(Q:YK):Prop:=match x with
 |.ref a=>dm L a λys=>∀p,L p=none->Q (.ref p) (qe L p<|.lst<|gd ys lo hi)
 |.sq ys=>∀p,L p=none->Q (.ref p) (qe L p<|.lst<|gd ys lo hi)
 |_=>False
def xW(r:Y->Vr->Vr->qp->YK->Prop)(te:vt)(tl th:E6)(τ:jq)(L:qp)(Q:YK):Prop:=te τ L λx L1=>tl τ L1 λl L2=>th τ L2 λu L3=>r x l u L3 Q
def j7(t u:k8)(D:xi)(τ:jq)(L:qp):Prop:=t { D with nx:=u D } τ L
def bj(D:xi)(τ:jq)(L:qp):Prop:=D.nx τ L
def O1(D:xi)(τ:jq)(L:qp):Prop:=D.ct τ L
def w6(te:vt)(D:xi)(τ:jq)(L:qp):Prop:=te τ L λ_ L1=>D.nx τ L1
def ao(te:vt)(D:xi)(τ:jq)(L:qp):Prop:=te τ L D.rt
def HQ(D:xi)(_:jq)(L:qp):Prop:=D.rt .non L
def fj(c:jR)(t u:k8)(D:xi)(τ:jq)(L:qp):Prop:=c τ L λb L1=>kn b (t D τ L1)<|u D τ L1
def xo(te:vt)(g:oB)(D:xi)(τ:jq)(L:qp):Prop:=te τ L λx L1=>g x τ L1 D.nx
def fh:jq->Nat->Y->jq
 |[],_,_=>[]
 |_::r,0,y=>some y::r
 |o::r,i+1,y=>o::fh r i y
theorem ar:∀(τ:jq) (i:Nat) (y:Y),fh τ i y=τ.set i (some y)
 |[],_,_=>rfl
 |_::_,0,_=>rfl
 |o::r,i+1,y=>by rw[fh,ar r i y];rfl
def ql(i:Nat)(y:Y)(τ:jq)(L:qp)(Q:jq->qp->Prop):Prop:=Q (fh τ i y) L
def cO(ys:List Y)(τ:jq)(L:qp)(Q:jq->qp->Prop):Prop:=match ys with
 |[]=>Q τ L
 |_=>False
def ju(t:oB)(u:uI)(ys:List Y)(τ:jq)(L:qp)(Q:jq->qp->Prop):Prop:=match ys with
 |[]=>False
 |y::r=>t y τ L λI L'=>u r I L' Q
def eV(n:Nat)(t:uI)(y:Y)(τ:jq)(L:qp)(Q:jq->qp->Prop):Prop:=match y with
 |.tup ys=>match ys.length==n with
  |true=>t ys τ L Q
  |false=>False
 |_=>False
def Fk(i j:Nat)(ta:gg)(D:xi)(τ:jq)(L:qp):Prop:=ta τ L λvs L1=>match vs with
 |[v,w]=>D.nx (fh (fh τ i v) j w) L1
 |_=>False
def cz(W:α->qp->Prop)(x:α)(L:qp):Prop:=∃L',qd L' L/\W x L'
theorem HR{W:α->qp->Prop}{x:α}(h:W x L):cz W x L:=⟨L,EF L,h⟩
def qX(c:jR)(tb:k8)(D:xi)(τ:jq)(L:qp):Prop:=∃W:Nat->jq->qp->Prop,(∃m,W m τ L)/\∀m τ L,W m τ L->
 c τ L λb L1=>kn b (∃N:jq->qp->Prop,(∀I L',N I L'->∃J,J<m/\W J I L')/\tb { D with nx:=cz N,ct:=cz N,bk:=D.nx } τ L1)<|D.nx τ L1
@[irreducible] def vM (ys:List Y) (keep:qp->Prop) (g:oB) (tb:k8) (D:xi) (τ:jq) (L1:qp):Prop:=∃W:Nat->jq->qp->Prop,W 0 τ L1/\(∀i τ L,W i τ L->keep L)/\
 (∀i y τ L,ys[i]?=some y->W i τ L->g y τ L λI L2=>tb { D with nx:=cz<|W<|i+1,ct:=cz<|W<|i+1,bk:=D.nx } I L2)/\∀τ L,W ys.length τ L->D.nx τ L
theorem ku{keep:qp->Prop}{tb:k8}{D:xi}(h:∃W:Nat->jq->qp->Prop,W 0 τ L1/\(∀i τ L,W i τ L->keep L)/\
 (∀i y τ L,ys[i]?=some y->W i τ L->g y τ L λI L2=>tb { D with nx:=cz<|W<|i+1,ct:=cz<|W<|i+1,bk:=D.nx } I L2)/\∀τ L,W ys.length τ L->D.nx τ L):vM ys keep g tb D τ L1:=by unfold vM;exact h
theorem O2{keep:qp->Prop}{tb:k8}{D:xi}(h:vM ys keep g tb D τ L1):∃W:Nat->jq->qp->Prop,W 0 τ L1/\(∀i τ L,W i τ L->keep L)/\
 (∀i y τ L,ys[i]?=some y->W i τ L->g y τ L λI L2=>tb { D with nx:=cz<|W<|i+1,ct:=cz<|W<|i+1,bk:=D.nx } I L2)/\∀τ L,W ys.length τ L->D.nx τ L:=by unfold vM at h;exact h
def iZ(wi:o_)(g:oB)(tb:k8)(D:xi)(τ:jq)(L:qp):Prop:=wi τ L λys keep L1=>vM ys keep g tb D τ L1
@[irreducible] def nN (L:qp) (a:Addr) (R:List Y->(qp->Prop)->qp->Prop):Prop:=match L a with
 |some (.lst ys)=>R ys (λL=>L a=some (.lst ys)) L
 |_=>False
theorem x9{a:Addr}{R:List Y->(qp->Prop)->qp->Prop}(h:L a=some (.lst ys))(q:∀keep:qp->Prop,(∀L',L' a=L a->keep L')->R ys keep L):nN L a R:=by unfold nN;rw[h];exact q _ λL' I=>I.trans h
theorem mG{a:Addr}{R:List Y->(qp->Prop)->qp->Prop}(h:nN L a R):∃ys keep,db L (.ref a)=some ys/\keep L/\(∀L',keep L'->db L' (.ref a)=some ys)/\R ys keep L:=by
 unfold nN at h;split at h
 ·rename_i ys e;exact⟨ys,_,jv e,e,λL' I=>jv I,h⟩
 ·exact h.elim
def aj(tl:vt)(τ:jq)(L:qp)(R:List Y->(qp->Prop)->qp->Prop):Prop:=tl τ L λx L1=>match x with
 |.ref a=>nN L1 a R
 |.sq ys=>R ys (λ_=>True) L1
 |_=>False
def HU(tl:vt)(τ:jq)(L:qp)(R:List Y->(qp->Prop)->qp->Prop):Prop:=tl τ L λx L1=>match x with
 |.tup ys=>R ys (λ_=>True) L1
 |_=>False
def aQ(lo:Int)(n:Nat):List Y:=(List.range n).map λk=>.int<|lo+(k:Nat)
def bQ(ta:gg)(τ:jq)(L:qp)(R:List Y->(qp->Prop)->qp->Prop):Prop:=ta τ L λvs L1=>match vs with
 |[.int j]=>(-(2 ^ 62)<=j/\j<2 ^ 62)/\R (aQ 0 j.toNat) (λ_=>True) L1
 |_=>False
def FY(_:jq)(L:qp)(Q:Bool->qp->Prop):Prop:=Q true L
@[irreducible] def h_ (ys:List Y) (keep:qp->Prop) (n:Nat) (g:oB) (tc:jR) (te:vt) (τ:jq) (L1:qp) (Q:YK):Prop:=ys.length<sizeLine/\∃W:Nat->List Y->qp->Prop,W 0 [] L1/\(∀i zs L,W i zs L->keep L)/\
 (∀i y zs L,ys[i]?=some y->W i zs L->g y (τ++List.replicate n none) L λI L2=>tc I L2 λb L3=>kn b (te I L3 λz J=>cz (W<|i+1) (zs++[z]) J)<|cz (W<|i+1) zs L3)/\
 ∀zs L,W ys.length zs L->∀p,L p=none->Q (.ref p) (qe L p<|.lst zs)
theorem wP{keep:qp->Prop}{Q:YK}(h:ys.length<sizeLine/\∃W:Nat->List Y->qp->Prop,W 0 [] L1/\(∀i zs L,W i zs L->keep L)/\
 (∀i y zs L,ys[i]?=some y->W i zs L->g y (τ++List.replicate n none) L λI L2=>tc I L2 λb L3=>kn b (te I L3 λz J=>cz (W<|i+1) (zs++[z]) J)<|cz (W<|i+1) zs L3)/\
 ∀zs L,W ys.length zs L->∀p,L p=none->Q (.ref p) (qe L p<|.lst zs)):h_ ys keep n g tc te τ L1 Q:=by unfold h_;exact h
theorem O3{keep:qp->Prop}{Q:YK}(h:h_ ys keep n g tc te τ L1 Q):ys.length<sizeLine/\∃W:Nat->List Y->qp->Prop,W 0 [] L1/\(∀i zs L,W i zs L->keep L)/\
 (∀i y zs L,ys[i]?=some y->W i zs L->g y (τ++List.replicate n none) L λI L2=>tc I L2 λb L3=>kn b (te I L3 λz J=>cz (W<|i+1) (zs++[z]) J)<|cz (W<|i+1) zs L3)/\
 ∀zs L,W ys.length zs L->∀p,L p=none->Q (.ref p) (qe L p<|.lst zs):=by unfold h_ at h;exact h
def xS(n:Nat)(wi:o_)(g:oB)(tc:jR)(te:vt)(τ:jq)(L:qp)(Q:YK):Prop:=wi τ L λys keep L1=>h_ ys keep n g tc te τ L1 Q
abbrev zd:=List Y->qp->YK->Prop
def v4(sp:zd)(t:gg)(τ:jq)(L:qp)(Q:YK):Prop:=t τ L λys L1=>sp ys L1 Q
def jw(x:Y)(vs:List Y)(L:qp)(Q:YK):Prop:=match x,vs with
 |.ref a,[v]=>dm L a λys=>ys.length<sizeLine/\Q .non (qe L a<|.lst<|ys++[v])
 |_,_=>False
def qL(x:Y)(vs:List Y)(L:qp)(Q:YK):Prop:=match x,vs with
 |.ref a,[.ref b]=>dm L a λys=>dm L b λzs=>ys.length+zs.length<=sizeLine/\Q .non (qe L a<|.lst<|ys++zs)
 |_,_=>False
def Bs(x:Y)(vs:List Y)(L:qp)(Q:YK):Prop:=match x,vs with
 |.ref a,[]=>dm L a λys=>zS L (λv L=>Q v<|qe L a<|.lst ys.dropLast)<|ys[ys.length-1]?
 |_,_=>False
end L3
variable {sp:L3.zd}
namespace L3
open PySem L2
theorem aD.imp{f:Vu->Vu->Sem Vu}{r U:R2}(h:aD X f r)(q:∀x y H Q,U x y H Q->r x y H Q):aD X f U:=λJ s g H x y v u Q I j l z=>h J s g H x y v u Q I j l<|q x y H Q z
theorem aD.imq{f:Vu->Vu->Sem Vu}{r:R2}{u:wO}(h:aD X f r)(q:∀x y H Q x3 I L J,RV G H x3 x->RV G H I y->ja G H L->u x3 I L J->vA G H J Q->r x y H Q):aD X f (lM G u):=aD.imp h λx y H Q ψ=>(by obtain⟨x3,I,L,J,a,b,c,d,e⟩:=ψ;exact q x y H Q x3 I L J a b c d e)
abbrev EV:=@aD.imq
theorem xb.imp{f:Vu}{r U:VA->Hp->VK->Prop}(h:xb X f r)(q:∀x H Q,U x H Q->r x H Q):xb X f U:=λJ s g H x v Q I j z=>h J s g H x v Q I j<|q x H Q z
theorem xb.imq{f:Vu}{r:VA->Hp->VK->Prop}{u:List Y->qp->YK->Prop}(h:xb X f r)(q:∀xs H Q ys L I,v5 G H ys xs->ja G H L->u ys L I->vA G H I Q->r xs H Q):xb X f (l_ G u):=xb.imp h λxs H Q ψ=>(by obtain⟨ys,L,I,a,b,c,d⟩:=ψ;exact q xs H Q ys L I a b c d)
theorem IxR.imp{r U:R2}(h:IxR X r)(q:∀x y H Q,U x y H Q->r x y H Q):IxR X U:=λvalue slice J s g H x y v u Q I j l z=>h value slice J s g H x y v u Q I j l<|q x y H Q z
theorem i7.imp{id:Vz}{r U:V->VA->Hp->VK->Prop}(h:i7 X id r)(q:∀x xs H Q,U x xs H Q->r x xs H Q):i7 X id U:=λJ s g H x xs v j Q I l o z=>h J s g H x xs v j Q I l o<|q x xs H Q z
theorem ph{v:V}(U:ja G H L)(r:RV G H y v)(h:db L y=some ys):∃p xs,v=.ref p/\(aO G.K H p xs\/cx G.K H p xs)/\v5 G H ys xs:=by
 cases y with
 |tup J=>
  obtain⟨a,xs,e,s,q⟩:=r;cases h;exact⟨a,xs,e,.inr s,q⟩
 |sq J=>
  obtain⟨a,xs,e,s,q⟩:=r;cases h;exact⟨a,xs,e,.inl s.sq,q⟩
 |ref a=>
  cases (show v=.ref a from r);have I:(match L a with|some (.lst ys)=>some ys|_=>none)=some ys:=h;split at I
  ·rename_i J e;cases I;obtain⟨xs,g,q⟩:=U a _ e;exact⟨a,xs,rfl,.inl<|aO.of g,q⟩
  ·cases I
 |_=>cases h
theorem O4{i:Int}(s:v5 G H ys xs)(h:bz ys i=some y):∃x,bz xs i=some x/\RV G H y x:=by
 unfold bz at h ⊢;rw[<-s.length];cases e:f_ ys.length i with
 |none=>rw[e] at h;cases h
 |some j=>
  rw[e] at h;exact s.get (i:=j) h
section
variable {a b c:Expr}{tc:vt}
abbrev QE(X:Cx)(e:Expr)(t:vt):Prop:=PE X e<|xK X.g3 t
abbrev QT(X:Cx)(e:Expr)(t:jR):Prop:=PT X e<|g_ X.g3 t
abbrev QW(X:Cx)(e:Expr)(t:jR):Prop:=PW X e<|g_ X.g3 t
abbrev QA(X:Cx)(es:Vn)(t:gg):Prop:=PA X es<|HJ X.g3 t
abbrev QS(X:Cx)(st:Stmt)(t:k8):Prop:=PS X st<|Fj X.g3 t
abbrev sJ(X:Cx)(st:Vo)(t:k8):Prop:=kW X st<|Fj X.g3 t
abbrev QG(X:Cx)(e:Expr)(g:oB):Prop:=PG X e<|Ev X.g3 g
abbrev E7(X:Cx)(es:Vn)(g:uI):Prop:=PGs X es<|OS X.g3 g
abbrev QI(X:Cx)(tg it:Expr)(w:o_):Prop:=PI X tg it<|FV X.g3 w
abbrev QF(X:Cx)(es:Vn)(t:jR):Prop:=PF X es<|g_ X.g3 t
theorem QE.of_var(h:PE X e<|Fy i):QE X e (qf i):=EI h λj H Q l L o I J z k=>by
 unfold qf at z;split at z
 ·rename_i y U;obtain⟨v,ev,g⟩:=I.get i y<|qC _ _ U;exact⟨v,ev,k v H y L (EG _) J g z⟩
 ·exact z.elim
theorem QE.of_c{v:V}(h:PE X e<|tC v)(q:∀H,RV X.g3 H y v):QE X e (yC y):=EI h λJ H Q U L g j I z k=>k v H y L (EG _) I (q H) z
theorem qv(i:Nat)(hN:X.N[i]?=some x:=by rfl)(J:u_ X.env.scope x:=by first|exact Or.inl rfl|exact Or.inr (Or.inl rfl)|exact Or.inr<|Or.inr rfl)(hd:E4 x:=by decide)
 (I:E5 x:=by decide):QE X (.Name x pos) (qf i):=QE.of_var<|pv i hN J hd I
theorem mD :QE X (.Constant .none j pos) (yC .non):=QE.of_c LC λ_=>rfl
theorem cK{b:Bool} :QE X (.Constant (.bool b) j pos) (yC<|.bl b):=QE.of_c LB λ_=>rfl
theorem qh{i:Int} :QE X (.Constant (.int i) j pos) (yC<|.int i):=QE.of_c LA λ_=>rfl
theorem je :QE X (.Constant (.str x) j pos) (yC<|.str x):=QE.of_c dW λ_=>rfl
theorem O5{c:Addr}(I:Gl X x)(J:X.mg x=some (.ref c))(q:∀H,RV X.g3 H y<|.ref c)(hd:E4 x:=by decide):QE X (.Name x pos) (yC y):=QE.of_c (OC I J hd) q
theorem yG{r:wO}(σ:St)(H:Hp)(Q:VK):xK G (jr r ta tb) σ H Q->Ej (lM G r) (xK G ta) (xK G tb) σ H Q:=λ ψ=>by
 obtain⟨j,L,t,l,C,z,k⟩:=ψ
 exact ⟨j,L,_,l,C,z,λv H1 y T o I J z1=>⟨j,T,_,l.ts o,I,z1,λv2 H2 y2 L2 p U g z2=>⟨y,y2,L2,t,J.ts p,g,U,z2,k.ts<|o.trans p⟩⟩⟩
theorem qk{op:Operator}{r:wO}(h:aD X (binaryOp op)<|lM X.g3 r)(I:QE X a ta)(J:QE X b tb):QE X (.BinOp a op b pos) (jr r ta tb):=EU (ME h I J) yG
theorem O6{r:wO}(h:IxR X<|lM X.g3 r)(I:QE X a ta)(J:QE X b tb)(hp:rX b):QE X (.Subscript a b pos) (jr r ta tb):=EU (NT h I J hp) yG
theorem iC{op:CmpOp}{r:wO}(h:aD X (compareOp op)<|lM X.g3 r)(I:QE X a ta)(J:QE X b tb)(U:behindInMarks op b=false):QE X (.Compare a [op] [b] pos) (jr r ta tb):=EU (MV h I J U) yG
theorem HV{t:vt}(σ:St)(H:Hp)(Q:Bool->Hp->Prop):g_ G (yB t) σ H Q->Hf (xK G t) σ H Q:=λ ψ=>by
 obtain⟨g,L,C,j,l,z,k⟩:=ψ
 exact ⟨g,L,_,j,l,z,λv o y p r I J U=>by cases y with|bl b=>exact⟨b,J,k b o p r I U⟩|_=>exact U.elim⟩
theorem HW{t:vt}(σ:St)(H:Hp)(Q:Bool->Hp->Prop):g_ G (yB t) σ H Q->L2.tB (xK G t) σ H Q:=HV σ H Q
theorem jy{op:CmpOp}{r:wO}(h:aD X (compareOp op)<|lM X.g3 r)(J:QE X a ta)(U:QE X b tb)(g:behindInMarks op b=false):QT X (.Compare a [op] [b] pos) (yB<|jr r ta tb):=
 PT.imp (MW h J U g) λI H Q q=>by have j:=HV I H Q q;obtain⟨l,L,o,p,t,z,k⟩:=j;exact yG I H _ ⟨l,L,o,p,t,z,k⟩
theorem aV(h:QE X e te)(I:∀whole,isTrue e X.env whole=(do let v <-whole;standAt e.pos;holding [v] (truthy v)):=by intro _;rfl):QT X e (yB te):=PT.imp (LJ h I) HW
theorem FZ{f:Vu->Vu->Sem Vu}{C:Int->Int->Prop}{g:Int->Int->V}{g3:Int->Int->Y}(h:aD X f<|rI C g)(e:∀i j H,RV X.g3 H (g3 i j)<|g i j):aD X f (lM X.g3<|yI C g3):=EV h λx y H Q J I L p U l o z k=>by
 cases J with
 |int i=>
  cases I with|int j=>exact⟨i,j,U,l,z.1,k _ H _ L (EG _) o (e i j H) z.2⟩|_=>exact z.elim
 |_=>cases I<;>exact z.elim
theorem F1{f:Vu->Vu->Sem Vu}{g:Int->Int->V}{g3:Int->Int->Y}(h:aD X f<|s_ g)(e:∀i j H,RV X.g3 H (g3 i j)<|g i j):aD X f (lM X.g3<|t_ g3):=EV h λx y H Q J I L p U l o z k=>by
 cases J with
 |int i=>
  cases I with|int j=>exact⟨i,j,U,l,k _ H _ L (EG _) o (e i j H) z⟩|_=>exact z.elim
 |_=>cases I<;>exact z.elim
theorem dc:aD X (binaryOp .Sub) (lM X.g3<|t_ λi j=>.int<|i-j):=F1 MG λ_ _ _=>rfl
theorem oF:aD X (binaryOp .Mult) (lM X.g3<|yI afz λi j=>.int<|i*j):=FZ MJ λ_ _ _=>rfl
theorem vm:aD X (binaryOp .FloorDiv) (lM X.g3<|yI FM λi j=>.int<|i / j):=FZ MK λ_ _ _=>rfl
theorem jj:aD X (binaryOp .Mod) (lM X.g3<|yI (λ_ j=>0<j) λi j=>.int<|i % j):=FZ MN λ_ _ _=>rfl
theorem Cm:aD X (compareOp .Lt) (lM X.g3<|t_ λi j=>.bl<|decide<|i<j):=F1 MT λ_ _ _=>rfl
theorem Fl:aD X (compareOp .Gt) (lM X.g3<|t_ λi j=>.bl<|decide<|j<i):=F1 MU λ_ _ _=>rfl
theorem zw:aD X (binaryOp .Add) (lM X.g3 ai):=EV Ow λx y H Q t J L Q3 U g I z k=>by
 cases t with
 |int i=>
  cases J with|int j=>cases U;cases g;exact k _ H _ L (EG _) I (by rfl) z|_=>exact z.elim
 |str i=>
  cases J with|str j=>cases U;cases g;exact⟨z.1,k _ H _ L (EG _) I (by rfl) z.2⟩|_=>exact z.elim
 |ref a=>
  cases J with
  |ref b=>
   cases U;cases g;obtain⟨ys,zs,C,T,hz,q⟩:=z;obtain⟨xs,h1,o⟩:=I a _ C;obtain⟨us,h2,r⟩:=I b _ T;refine⟨xs,us,h1,h2,by rw[<-o.length,<-r.length];exact hz,λp l=>?_⟩;exact k _ _ _ _ (EH l) (I.newL l<|o.app r) (by rfl)<|q p<|I.none l
  |_=>exact z.elim
 |_=>cases J<;>exact z.elim
theorem uH{kvs:List<|Str×Str}{k:Str}(h:kvs.lookup k=some x):bX (kvs.map λp=>((Sum.inr p.1:jb),V.str p.2)) (Sum.inr k)=some (V.str x):=by
 induction kvs with
 |nil=>simp at h
 |cons p r I=>
  obtain⟨a,b⟩:=p;unfold bX;rw[AG,BI];rw[Bk] at h;by_cases c:k=a
  ·subst c;simp at h;simp[h]
  ·have c1:(k==a)=false:=by simpa using c
   rw[c1] at h;have c2:decide ((Sum.inr a:jb)=Sum.inr k)=false:=Av λz=>c (Sum.inr.inj z).symm;simp only[c2];exact I h
theorem om{xs:List<|jb×V}{k:jb}(p:Paired (λ(p:jb×Y) (q:jb×V)=>p.1=q.1/\RV G H p.2 q.2) kvs xs)(h:kj kvs k=some y):∃x,bX xs k=some x/\RV G H y x:=by
 induction p with
 |nil=>cases h
 |@cons a b _ _ r t U=>
  obtain⟨I,l⟩:=a;obtain⟨g,j⟩:=b;obtain⟨e,r⟩:=r;cases (show I=g from e);unfold kj at h;unfold bX;rw[BI] at h ⊢;by_cases c:I=k
  ·have J:decide (I=k)=true:=AE c;simp only[J] at h ⊢;cases h;exact⟨j,rfl,r⟩
  ·have J:decide (I=k)=false:=Av c;simp only[J] at h ⊢;exact U h
theorem O7(K:Af)(P:Vw)(w:Vx)(hK:X.K=K:=by rfl)(hP:X.prog=P:=by rfl)(hw:X.w=w:=by rfl):IxR X (lM ⟨K,P,w⟩ aN):=by
 subst hK hP hw;refine IxR.imp Ox λx y H Q ψ=>?_;obtain⟨x3,j,L,Q3,I,l,o,z,k⟩:=ψ;have seq:∀{i:Int} {x3:Y},RV X.g3 H x3 x->y=.int i->(oE L x3 λg=>zS L Q3<|bz g i)->HE X.K X.prog X.w x y H Q:=by
  intro i x3 I ey z;subst ey;obtain⟨g,es,z⟩:=ce z;obtain⟨p,C,e,sq,rv⟩:=ph o I es;subst e;cases ea:bz g i with
  |none=>rw[ea] at z;exact z.elim
  |some y=>
   rw[ea] at z;obtain⟨x,ex,T⟩:=O4 rv ea;exact⟨C,x,sq,ex,k _ H _ L (EG _) o T z⟩
 cases x3 with
 |str s=>
  cases j with
  |int i=>
   cases I;cases l;obtain⟨z1,r⟩:=z;cases ea:bz s.cps.toList i with
   |none=>rw[ea] at r;exact r.elim
   |some c=>rw[ea] at r;exact⟨z1,c,ea,k _ H _ L (EG _) o (by rfl) r⟩
  |_=>exact z.elim
 |cd J=>
  cases j with
  |str s=>
   obtain⟨a,ea,kd⟩:=I;cases ea;cases l;have U:zS L (λs L=>Q3 (.str s) L) (J.lookup s):=z;cases el:J.lookup s with
   |none=>rw[el] at U;exact U.elim
   |some t=>rw[el] at U;exact⟨_,_,.inr kd,uH el,k _ H _ L (EG _) o (by rfl) U⟩
  |int i=>exact z.elim
  |_=>exact z.elim
 |ref a=>
  cases j with
  |int i=>exact seq (x3:=.ref a) I l z
  |str s=>
   cases I;cases l;obtain⟨J,e,U⟩:=iQ z;obtain⟨C,e2,pr⟩:=o a _ e;cases ev:kj J (Sum.inr s) with
   |none=>rw[ev] at U;exact U.elim
   |some y=>
    rw[ev] at U;obtain⟨x,ex,I⟩:=om pr ev;exact⟨C,x,.inl<|.inl e2,ex,k _ H _ L (EG _) o I U⟩
  |_=>exact z.elim
 |tup g=>
  cases j with|int i=>exact seq (x3:=.tup g) I l z|_=>exact z.elim
 |sq g=>
  cases j with|int i=>exact seq (x3:=.sq g) I l z|_=>exact z.elim
 |_=>cases j<;>exact z.elim
theorem v5.inv1(h:v5 G H [y] xs):∃x,xs=[x]/\RV G H y x:=by obtain⟨x,I,e,r,s⟩:=h;cases (show I=[] from s);exact⟨x,e,r⟩
theorem v5.inv2{J:Y}(h:v5 G H [y,J] xs):∃x I,xs=[x,I]/\RV G H y x/\RV G H J I:=by obtain⟨x,U,e,r,s⟩:=h;obtain⟨I,g,j⟩:=s.inv1;exact⟨x,I,by rw[e,g],r,j⟩
theorem O8(K:Af)(P:Vw)(w:Vx)(g:X.K=K:=by rfl)(j:X.prog=P:=by rfl)(hw:X.w=w:=by rfl):xb X (.builtin "len") (l_ ⟨K,P,w⟩ vY):=by
 subst g j hw;refine xb.imq Oz λC H Q l L T U I z k=>?_;unfold vY at z;split at z
 ·obtain⟨x,rfl,r⟩:=U.inv1;cases r;exact⟨z.1,k _ H _ L (EG _) I (by rfl) z.2⟩
 ·rename_i y _;obtain⟨x,rfl,r⟩:=U.inv1;obtain⟨l,o,z⟩:=ce z;obtain⟨p,t,e,sq,J⟩:=ph I r o;subst e;refine⟨t,sq,?_⟩;rw[<-J.length];exact k _ H _ L (EG _) I (by rfl) z
 ·exact z.elim
theorem O9(i j:Int):(if j > i then j else i)=max i j:=by split<;>lia
theorem alt(i j:Int):(if j<i then j else i)=min i j:=by split<;>lia
theorem yN(hc:X.calm=true:=by rfl):xb X (.builtin "max") (l_ X.g3 pq):=xb.imq (yq hc) λl H Q o L p I J z k=>by
 unfold pq at z;split at z
 ·rename_i i j;obtain⟨x,r,rfl,U,g⟩:=I.inv2;cases U;cases g;refine⟨i,j,rfl,?_⟩;rw[O9];exact k _ H _ L (EG _) J (by rfl) z
 ·exact z.elim
theorem F2(hc:X.calm=true:=by rfl):xb X (.builtin "min") (l_ X.g3 tK):=xb.imq (zE hc) λl H Q o L p I J z k=>by
 unfold tK at z;split at z
 ·rename_i i j;obtain⟨x,r,rfl,U,g⟩:=I.inv2;cases U;cases g;refine⟨i,j,rfl,?_⟩;rw[alt];exact k _ H _ L (EG _) J (by rfl) z
 ·exact z.elim
end
section
variable {a b c:Expr}{tc:vt}
theorem cH{a:Addr}(J:ja G H L)(h:db L (.ref a)=some ys):∃xs,aO G.K H a xs/\v5 G H ys xs:=by
 have I:(match L a with|some (.lst ys)=>some ys|_=>none)=some ys:=h;split at I
 ·rename_i e;cases I;obtain⟨xs,U,q⟩:=J a _ e;exact⟨xs,aO.of U,q⟩
 ·cases I
theorem O_{v:V}(I:ja G H L)(r:RV G H y v)(J:HL y=true)(h:db L y=some ys):∃a xs,v=.ref a/\aO G.K H a xs/\v5 G H ys xs:=by
 cases y with
 |ref a=>obtain⟨xs,s,q⟩:=cH I h;exact⟨a,xs,r,s,q⟩
 |sq U=>obtain⟨a,xs,e,s,q⟩:=r;cases h;exact⟨a,xs,e,s.sq,q⟩
 |_=>cases J
theorem zF{G:G3}{v:V}{T:sI}{σ:L2.St}(I:z9 X pins σ H s)(rl:ja X.g3 H L)(r:RV X.g3 H y v)(J:zo v u)(h:A_ L y=some T)
 {c:Vu} {b:Bool} (e:PySem.W.kitOne X.K (.type T.nm) c=some b) (U:∀tk,Q (.bool b) { s with toks:=tk }):
 wpAny (model X.prog X.w) A (call (.builtin "isinstance") [u,c]) Q E s:=by
 cases y with
 |non=>cases h;cases r;exact bA I J .non e U
 |bl b=>cases h;cases r;exact bA I J (.bl _) e U
 |int i=>cases h;cases r;exact bA I J (.int _) e U
 |str x=>cases h;cases r;exact bA I J (.str _) e U
 |tup ys=>
  cases h;obtain⟨a,j,rfl,sq,_⟩:=r;cases (show u=Value.ref a from J);obtain⟨l,_,⟨o,p,t,_⟩,_⟩:=I.tuple sq;exact BA PySem.W.kitx_tuple I.kIn ⟨o,p,t⟩ e (λz=>nomatch z) U
 |sq ys=>
  cases h;obtain⟨a,j,rfl,sq,_⟩:=r;cases (show u=Value.ref a from J);obtain⟨l,_,⟨o,n,p,t,_⟩,_⟩:=I.list sq.sq;exact BA DJ I.kIn ⟨o,p,t⟩ e (λz=>nomatch z) U
 |ref a=>
  cases (show v=.ref a from r);have g:(match L a with|some (.lst _)=>some sI.list|some (.dct _)=>some .dict|_=>none)=some T:=h;split at g
  ·rename_i ys C;cases g;obtain⟨j,e2,_⟩:=rl a _ C;exact bA I J (.lst e2) e U
  ·rename_i a0 C;cases g;obtain⟨j,e2,_⟩:=rl a _ C;exact bA I J (.dK e2) e U
  ·cases g
 |_=>cases h
theorem O'(K:Af):∀T S:sI,PySem.W.kitOne K (.type T.nm) (.type S.nm)=some (FW T S):=by intro T S;cases T<;>cases S<;>rfl
def Pa(G:G3)(S:sI):VA->Hp->VK->Prop:=λxs H Q=>∃y v L I T,xs=[v,.ty S.nm]/\RV G H y v/\ja G H L/\A_ L y=some T/\I (.bl<|FW T S) L/\vA G H I Q
theorem Pb(S:sI):xb X (.builtin "isinstance") (Pa X.g3 S):=by intro J s o H p t Q I r h;obtain⟨y,v,L,C,T,rfl,g,U,ty,q,k⟩:=h;obtain⟨u,c,rfl,j,l⟩:=zn.two r;cases (show c=Value.type S.nm from l);exact xn I.tk<|zF (G:=X.g3) I U g j ty (O' _ T S) λtk ht=>⟨.bl _,H,I.tok _,rfl,k _ H _ L (EG _) U (by rfl) q⟩
theorem wx{p:Pos}{I:Str}(S:sI)(t:Gl X "isinstance")(C:X.mg "isinstance"=none)(J:Gl X I)(U:X.mg I=none)(g:bootBuiltins I=some (.type S.nm))(ha:QE X a ta)
 (hn:I ≠ "__name__" := by decide) (hd:(I==("__debug__" : Str))=false:=by decide)
 (hs:starEach [a,.Name I p1] X.env=(false,eval a X.env)::starEach [.Name I p1] X.env:=by rfl) (j:starEach [.Name I p1] X.env=(false,eval (.Name I p1) X.env)::starEach [] X.env:=by rfl)
 (hp:(backTo pos<|starEach [.Name I p1] X.env).any (·.1)=false:=by rfl):
 QE X (.Call (.Name "isinstance" p) [a,.Name I p1] [] pos) (OY S ta):=by
 refine EU (tV (Pb S) t C oS (fT ha (fT (OD J U g hn hd) mQ j) hs) (by decide) (by decide) hs hp) ?_;rintro σ H Q ⟨τ,L,Q3,rs,rl,z,k⟩;refine⟨τ,L,_,rs,rl,z,λv H1 y L1 t1 l o r=>?_⟩;obtain⟨T,et,r⟩:=OX r;exact⟨y,v,L1,Q3,T,rfl,o,l,et,r,k.ts t1⟩
def vN(neg:Bool)(x y:Y)(L:qp)(Q:YK):Prop:=oE L y λys=>gJ x=true/\ys.all gJ=true/\Q (.bl<|nb neg<|sH (di x)<|ys.map di) L
theorem HX(neg:Bool){op:CmpOp}(h:aD X (compareOp op)<|FP X.K neg):aD X (compareOp op) (lM X.g3<|vN neg):=EV h λx y H Q I t L C g j U z k=>by
 obtain⟨J,l,f1,f2,q⟩:=ce z;obtain⟨p,T,e,sq,o⟩:=ph U j l;rw[g.flat f1];rw[o.flat f2] at sq;refine⟨p,_,e,sq,iP f1,?_,?_⟩
 ·rw[List.all_map,CU];intro y r;exact iP<|CU.mp f2 y r
 ·have:(if neg=true then !sH (di I) (J.map di) else sH (di I) (J.map di))=(nb neg<|sH (di I)<|J.map di):=by cases neg<;>simp[nb]
  rw[this];exact k _ H _ L (EG _) U (by rfl) q
theorem HY(K:Af)(P:Vw)(w:Vx)(I:X.K=K:=by rfl)(J:X.prog=P:=by rfl)(hw:X.w=w:=by rfl):aD X (compareOp .In) (lM ⟨K,P,w⟩<|vN false):=by subst I J hw;exact HX false N8
theorem nR(K:Af)(P:Vw)(w:Vx)(I:X.K=K:=by rfl)(J:X.prog=P:=by rfl)(hw:X.w=w:=by rfl):aD X (compareOp .NotIn) (lM ⟨K,P,w⟩<|vN true):=by subst I J hw;exact HX true rm
theorem jz.rep{G:G3}{H:Hp}{L:qp}(j:ja G H L):∀{n:Nat} {y:Y} {d:Da} {v:V},jz L n y d->RV G H y v->ko G.K H n v d
 |0,y,d,v,ψ,r=>by obtain⟨f,e⟩:=ψ;rw[r.flat f];exact⟨e,iP f⟩
 |n+1,y,d,v,h,r=>by
  have both:∀{U:List Y} {J:List Da} {I:VA},Paired (jz L n) U J->v5 G H U I->Paired (ko G.K H n) I J:=by
   intro U J I p
   induction p generalizing I with
   |nil=>intro r;cases (show I=[] from r);exact .nil
   |cons q t l=>
    rintro⟨x,o,rfl,C,T⟩;exact .cons (jz.rep j q C)<|l T
  rcases h with⟨f,e⟩|⟨U,J,rfl,rfl,p⟩|⟨U,J,hy,rfl,es,p⟩
  ·rw[r.flat f];exact .inl ⟨e,iP f⟩
  ·obtain⟨a,I,rfl,sq,g⟩:=r;exact .inr<|.inl ⟨a,I,J,rfl,rfl,sq,both p g⟩
  ·obtain⟨a,I,rfl,sq,g⟩:=O_ j r hy es;exact .inr<|.inr ⟨a,I,J,rfl,rfl,sq,both p g⟩
theorem lD{v:V}(h:A' y=true)(r:RV G H y v):∃a,v=.ref a:=by
 cases y with
 |ref a=>exact⟨a,r⟩
 |tup I=>obtain⟨a,J,e,_⟩:=r;exact⟨a,e⟩
 |sq I=>obtain⟨a,J,e,_⟩:=r;exact⟨a,e⟩
 |_=>cases h
theorem yT(K:Af)(P:Vw)(w:Vx)(g:X.A.units+128<cLine)(l:X.K=K:=by rfl)(o:X.prog=P:=by rfl)(hw:X.w=w:=by rfl):aD X (compareOp .Eq) (lM ⟨K,P,w⟩<|c_ false):=by
 subst l o hw;refine EV (OB g) λx y H Q T y3 L p J U I z k=>?_;unfold c_ at z;split at z
 ·rename_i i j;cases J;cases U;refine⟨rfl,?_⟩;have:decide (V.int i=V.int j)=nb false (decide<|i=j):=by rw[Bz];simp[nb]
  rw[this];exact k _ H _ L (EG _) I (by rfl) z
 ·rename_i i j;cases J;cases U;refine⟨rfl,?_⟩;have:decide (V.str i=V.str j)=nb false (decide<|i=j):=by rw[Bz];simp[nb]
  rw[this];exact k _ H _ L (EG _) I (by rfl) z
 ·rename_i i j;cases J;cases U;refine⟨rfl,?_⟩;have:decide (V.bl i=V.bl j)=nb false (decide<|i=j):=by rw[Bz];simp[nb]
  rw[this];exact k _ H _ L (EG _) I (by rfl) z
 ·obtain⟨f1,f2,n,m,d,e,r,t,C,q⟩:=z;obtain⟨a,rfl⟩:=lD f1 J;obtain⟨b,rfl⟩:=lD f2 U;have q:p (.bl<|Da.eq d e) L:=q;exact⟨n,m,d,e,r,t.rep I J,C.rep I U,k _ H _ L (EG _) I (by rfl) q⟩
theorem HZ(K:Af)(P:Vw)(w:Vx)(g:X.A.units+128<cLine)(l:X.K=K:=by rfl)(o:X.prog=P:=by rfl)(hw:X.w=w:=by rfl):aD X (compareOp .NotEq) (lM ⟨K,P,w⟩<|c_ true):=by
 subst l o hw;refine EV (OO g) λx y H Q T y3 L p J U I z k=>?_;unfold c_ at z;split at z
 ·rename_i i j;cases J;cases U;refine⟨rfl,?_⟩;have:(!decide (V.int i=V.int j))=nb true (decide<|i=j):=by show _=!_;congr 1;rw[Bz];simp
  rw[this];exact k _ H _ L (EG _) I (by rfl) z
 ·rename_i i j;cases J;cases U;refine⟨rfl,?_⟩;have:(!decide (V.str i=V.str j))=nb true (decide<|i=j):=by show _=!_;congr 1;rw[Bz];simp
  rw[this];exact k _ H _ L (EG _) I (by rfl) z
 ·rename_i i j;cases J;cases U;refine⟨rfl,?_⟩;have:(!decide (V.bl i=V.bl j))=nb true (decide<|i=j):=by show _=!_;congr 1;rw[Bz];simp
  rw[this];exact k _ H _ L (EG _) I (by rfl) z
 ·obtain⟨f1,f2,n,m,d,e,r,t,C,q⟩:=z;obtain⟨a,rfl⟩:=lD f1 J;obtain⟨b,rfl⟩:=lD f2 U;have q:p (.bl<|!Da.eq d e) L:=q;exact⟨n,m,d,e,r,t.rep I J,C.rep I U,k _ H _ L (EG _) I (by rfl) q⟩
theorem RV.non_iff{v:V}(r:RV G H y v):decide (v=.non)=(match y with|.non=>true|_=>false):=by
 cases y with
 |non=>cases r;rfl
 |cd I=>obtain⟨a,rfl,_⟩:=r;rfl
 |tup J=>obtain⟨a,U,rfl,_⟩:=r;rfl
 |sq J=>obtain⟨a,U,rfl,_⟩:=r;rfl
 |_=>cases r;rfl
theorem acl(σ:L2.St)(H:Hp)(Q:VK):xK G (kJ false ta) σ H Q->G4 (xK G ta) σ H Q:=λ ψ=>by
 obtain⟨U,L,t,g,j,z,k⟩:=ψ
 exact ⟨U,L,_,g,j,z,λv l y o p I J r=>by dsimp only;rw[J.non_iff];cases y<;>exact k _ l _ o p I (by rfl) r⟩
theorem Pd(σ:L2.St)(H:Hp)(Q:VK):xK G (kJ true ta) σ H Q->G5 (xK G ta) σ H Q:=λ ψ=>by
 obtain⟨U,L,t,g,j,z,k⟩:=ψ
 exact ⟨U,L,_,g,j,z,λv l y o p I J r=>by dsimp only;rw[J.non_iff];cases y<;>exact k _ l _ o p I (by rfl) r⟩
theorem Pe(h:QE X a ta):QE X (.Compare a [.Is] [.Constant .none j hQ] pos) (kJ false ta):=EU (LI<|G6 h) acl
theorem H0{t:TE}(h:∀σ H Q,xK G te σ H Q->t σ H Q)(σ:L2.St)(H:Hp)(Q:Bool->Hp->Prop):g_ G (yB te) σ H Q->L2.tB t σ H Q:=λq=>h σ H _<|HW σ H Q q
theorem mf(h:QE X a ta):QT X (.Compare a [.Is] [.Constant .none j hQ] pos) (yB<|kJ false ta):=PT.imp (G7<|G6 h)<|H0 acl
theorem aX(h:QE X a ta):QT X (.Compare a [.IsNot] [.Constant .none j hQ] pos) (yB<|kJ true ta):=PT.imp (G7<|LH h)<|H0 Pd
end
section
variable {a b c:Expr}{rest:Vn}{tc:vt}{tB:jR}
theorem wg(h:QT X a tA):QW X (.BoolOp .And [a] pos) tA:=LM h
theorem H9(h:QT X a tA):QW X (.BoolOp .Or [a] pos) tA:=LN h
theorem wf(h:QT X a tA)(k:QW X (.BoolOp .And (b::rest) pos) tB):QW X (.BoolOp .And (a::b::rest) pos) (n5 tA tB):=PW.imq (LP h k) λt H Q U L o g p z k=>
 ⟨U,L,_,g,p,z,λc r j J I l=>by cases c with|true=>rw[AA rfl];exact⟨U,j,o,g.ts J,I,l,k.ts J⟩|false=>rw[Az AF];exact k _ r j J I l⟩
theorem H_(h:QT X a tA)(k:QW X (.BoolOp .Or (b::rest) pos) tB):QW X (.BoolOp .Or (a::b::rest) pos) (OZ tA tB):=PW.imq (LQ h k) λt H Q U L o g p z k=>
 ⟨U,L,_,g,p,z,λc r j J I l=>by cases c with|true=>rw[AA rfl];exact k _ r j J I l|false=>rw[Az AF];exact⟨U,j,o,g.ts J,I,l,k.ts J⟩⟩
theorem bV(h:QW X a tA):QT X a tA:=PW.pt h
theorem rf(h:QT X a tA):QT X (.UnaryOp .Not a pos) (FX tA):=PT.imq (LR h) λr H Q J L t U g z k=>
 ⟨J,L,_,U,g,z,λc j l o I p=>k _ j l o I p⟩
theorem rZ{op:BoolOp}(h:QE X a ta):QE X (.BoolOp op [a] pos) ta:=LV h
theorem qD(h:QE X a ta)(k:QE X (.BoolOp .And (b::rest) pos) tb):QE X (.BoolOp .And (a::b::rest) pos) (HM ta tb):=EI (LW h k) λT H Q U L g o t z k=>
 ⟨U,L,_,o,t,z,λv C y J j I l p=>by
  cases y with
  |bl c=>
   refine⟨c,l,?_⟩;have r:kn c (tb U J g) (g (.bl false) J):=p;cases c with|true=>rw[AA rfl];exact⟨U,J,g,o.ts j,I,r,k.ts j⟩|false=>rw[Az AF];exact k _ C _ J j I (by rfl) r
  |_=>exact p.elim⟩
theorem Pf(h:QE X a ta):QE X (.UnaryOp .Not a pos) (O0 ta):=EI (LX h) λt H Q g L C j l z k=>
 ⟨g,L,_,j,l,z,λv o y p r I J U=>by cases y with|bl c=>exact⟨c,J,k _ o _ p r I (by rfl) U⟩|_=>exact U.elim⟩
theorem gj(h:QT X c tA)(p:QE X a ta)(r:QE X b tb):QE X (.IfExp c a b pos) (ER tA ta tb):=EI (LZ h p r) λC H Q U L j g t z k=>
 ⟨U,L,_,g,t,z,λc T l J I o=>by cases c with|true=>rw[AA rfl];exact⟨U,l,j,g.ts J,I,o,k.ts J⟩|false=>rw[Az AF];exact⟨U,l,j,g.ts J,I,o,k.ts J⟩⟩
theorem vd:QA X [] x0:=PA.imq mQ λJ H Q U L g j I z k=>k _ H _ L (EG _) I (by rfl) z
theorem jx(h:QE X e te)(t:QA X es tr)(hs:EY e es X:=by rfl):QA X (e::es) (qr te tr):=PA.imq (fT h t hs) λσ H Q j L Q3 l C z k=>
 ⟨j,L,_,l,C,z,λv H1 y T o I J z1=>⟨j,T,_,l.ts o,I,z1,λp H2 ys L2 r U g z2=>k (v::p) H2 (y::ys) L2 (o.trans r) U ⟨v,p,rfl,J.ts r,g⟩ z2⟩⟩
theorem zk(h:QA X es tr):QE X (.Tuple es x1 pos) (aP tr):=EI (Nl h) λσ H Q l L Q3 o r z k=>
 ⟨l,L,_,o,r,z,λt H1 j C T U I J=>by
  cases e:Nat.ble j.length 1000 with
  |false=>rw[e] at J;exact J.elim
  |true=>
   rw[e] at J;have:=CI e;refine⟨fP (by rw[<-I.length];exact this),λp g=>?_⟩;exact k _ _ (.tup j) C (T.trans<|EH g) (U.skip g) ⟨p,t,rfl,cx.of zq,I.ts<|EH g⟩ J⟩
theorem zu(h:QA X es tr):QE X (.List es pos) (dF tr):=EI (Nm h) λC H Q j L T l o z k=>
 ⟨j,L,_,l,o,z,λvs H1 r L1 t I J U=>by
  cases e:Nat.ble r.length 1000 with
  |false=>rw[e] at U;exact U.elim
  |true=>
   rw[e] at U;have:=CI e;refine⟨fP (by rw[<-J.length];exact this),λp g=>?_⟩;exact k _ _ _ _ (t.trans<|EH g) (I.newL g J) (by rfl)<|U p<|I.none g⟩
theorem wa{p:Pos}{id:Vz}{r:List Y->qp->YK->Prop}(hc:xb X (.builtin id)<|l_ X.g3 r)(U:Gl X x)(g:X.mg x=none)(j:bootBuiltins x=some (.builtin id))(h:QA X (e::es) tr)
 (l:x ≠ "__name__" := by decide) (hd:E4 x:=by decide) (hs:EY e es X:=by rfl) (hp:EZ pos es X:=by rfl):
 QE X (.Call (.Name x p) (e::es) [] pos) (l8 r tr):=EI (tV hc U g j h l hd hs hp) λσ H Q o L t C T z k=>
 ⟨o,L,_,C,T,z,λvs H1 ys L1 t1 I J z1=>⟨ys,L1,t,J,I,z1,k.ts t1⟩⟩
def Ia(G:G3)(t:E6):TO:=λσ H Q=>∃τ L I,vn G H σ τ/\ja G H L/\t τ L I/\∀(o:Vr) H' L',j8 H H'->ja G H' L'->I o L'->Q o H'
abbrev QO(X:Cx)(e:Option Expr)(t:E6):Prop:=PO X e<|Ia X.g3 t
theorem PO.imp{e:Option Expr}{t u:TO}(h:PO X e t)(q:∀σ H Q,u σ H Q->t σ H Q):PO X e u:=λJ s σ H Q I z=>h J s σ H Q I<|q σ H Q z
theorem PO.imq{e:Option Expr}{t:TO}{u:E6}(h:PO X e t)(q:∀σ H Q τ L I,vn G H σ τ->ja G H L->u τ L I->(∀(o:Vr) H' L',j8 H H'->ja G H' L'->I o L'->Q o H')->t σ H Q):PO X e (Ia G u):=PO.imp h λσ H Q ψ=>(by obtain⟨τ,L,I,a,b,c,d⟩:=ψ;exact q σ H Q τ L I a b c d)
theorem sK.imp{r U:V->Vr->Vr->Hp->VK->Prop}(h:sK X r)(q:∀x lo hi H Q,U x lo hi H Q->r x lo hi H Q):sK X U:=by intro J s g H x v j l lo hi o Q I p t pl C z;exact h J s g H x v j l lo hi o Q I p t pl C<|q _ _ _ _ _ z
theorem kz:QO X none kq:=PO.imq NL λJ H Q U L g j I z k=>k _ H L (EG _) I z
theorem vz(h:QE X e te):QO X (some e) (bp te):=PO.imq (NM h) λt H Q g L C j l z k=>
 ⟨g,L,_,j,l,z,λv o y p r I J U=>by cases y with|int i=>exact⟨i,J,k _ o p r I U⟩|_=>exact U.elim⟩
def Fm(G:G3)(r:Y->Vr->Vr->qp->YK->Prop):V->Vr->Vr->Hp->VK->Prop:=λx lo hi H Q=>∃y L I,RV G H y x/\ja G H L/\r y lo hi L I/\vA G H I Q
theorem xt{lo hi:Option Expr}{tl th:E6}{r:Y->Vr->Vr->qp->YK->Prop}(h:sK X<|Fm X.g3 r)(T:QE X a ta)(hl:QO X lo tl)(hh:QO X hi th):QE X (.Subscript a (.Slice lo hi none p2) pos) (xW r ta tl th):=
 EI (NO h T hl hh) λσ H Q I L Q3 J rl z k=>
 ⟨I,L,_,J,rl,z,λv H1 y L1 U g j z1=>⟨I,L1,_,J.ts U,g,z1,λo H2 L2 l p z2=>⟨I,L2,_,J.ts<|U.trans l,p,z2,λo' H3 L3 C t z3=>⟨y,L3,Q3,j.ts<|l.trans C,t,z3,k.ts<|U.trans<|l.trans C⟩⟩⟩⟩
theorem rP(r:v5 G H ys xs)(lo hi:Vr):v5 G H (gd ys lo hi) (t8 xs lo hi):=by unfold gd t8;rw[r.length];exact(r.drop _).take _
theorem Pg(K:Af)(P:Vw)(w:Vx)(l:X.K=K:=by rfl)(o:X.prog=P:=by rfl)(hw:X.w=w:=by rfl):sK X (Fm ⟨K,P,w⟩ HN):=by
 subst l o hw;refine sK.imp N7 λx lo g H Q ψ=>?_;obtain⟨y,L,Q3,j,J,z,k⟩:=ψ;cases y with
 |ref a=>
  obtain⟨t,C,T⟩:=vf z;obtain⟨U,sq,r⟩:=cH J<|jv C;exact⟨a,U,j,sq,λp I=>k _ _ _ _ (EH I) (J.newL I<|rP r lo g) (by rfl)<|T p<|J.none I⟩
 |sq t=>
  obtain⟨a,U,e,sf,r⟩:=j;exact⟨a,U,e,sf.sq,λp I=>k _ _ _ _ (EH I) (J.newL I<|rP r lo g) (by rfl)<|z p<|J.none I⟩
 |_=>exact z.elim
end
section
variable {a b c:Expr}{tc:vt}{tB:jR}{rest pj:Vo}{t u:k8}
theorem ze:sJ X [] bj:=kW.imq Mc λD U H g L D3 I J z k=>k.nx _ H _ L (EG _) I J z
theorem qg(h:QS X st t):sJ X [st] t:=Md h
theorem qa(h:QS X st t)(k:sJ X rest u):sJ X (st::rest) (j7 t u):=kW.imq (sv h k) λD T H g L D3 j l z k=>
 ⟨g,L,{ D3 with nx:=u D3 },j,l,z,λo H1 I p r J U C=>⟨I,p,D3,J,U,C,k.ts r⟩,k.rt,k.bk,k.ct⟩
theorem tZ:QS X (.Continue pos) O1:=EM uU λD U H g L D3 I J z k=>k.ct _ H _ L (EG _) I J z
theorem za(h:QE X e te)(hs:swapsWith e none pos.line X.env=pure false:=by rfl):QS X (.Expr e pos) (w6 te):=EM (Mg h hs) λD t H g L D3 J j z k=>
 ⟨g,L,_,J,j,z,λv l y o U I p r=>k.nx _ l _ o U (J.ts U) I r⟩
theorem qx(h:QE X e te):QS X (.Return (some e) pos) (ao te):=EM (Mi h) λD g H I L D3 J U z k=>⟨I,L,_,J,U,z,k.rt⟩
theorem yZ:QS X (.Return none pos) HQ:=EM Ml λD J H U L D3 g I z k=>k.rt _ H _ L (EG _) I (by rfl) z
theorem zx(h:QT X c tA)(o:sJ X body t)(p:sJ X pj u):QS X (.If c body pj pos) (fj tA t u):=EM (Mn h o p) λD C H U L D3 g r z k=>
 ⟨U,L,_,g,r,z,λc T j J I l=>by cases c with|true=>rw[AA rfl];exact⟨U,j,D3,g.ts J,I,l,k.ts J⟩|false=>rw[Az AF];exact⟨U,j,D3,g.ts J,I,l,k.ts J⟩⟩
theorem wy(hN:X.N.Nodup)(I:X.N[i]?=some x)(r:Loc X.env.scope x)(h:QE X e te)(J:swapsWith e (some<|.Name x hQ) pos.line X.env=pure false:=by rfl)
 (U:X.fn x=true\/X.env.scope.names.lookup x=some .local:=by first|exact .inl rfl|exact .inr rfl|assumption):QS X (.Assign [.Name x hQ] e pos) (xo te<|ql i):=EM (Mq hN I r h J U) λD σ H l L D3 o t z k=>
 ⟨l,L,_,o,t,z,λv C y T p g j z1=>k.nx _ C _ T p (show vn _ _ _ (fh l i y) by rw[ar];exact(o.ts p).set j) g z1⟩
theorem dQ(h:QE X e te)(o:QG X tg g)(h1:swapsWithSole [tg] e pos.line X.env=pure false:=by rfl)(h2:swappedStores [tg] e X.env=pure none:=by rfl)
 (p:(assignEach [tg] X.env).map (·.2)=[assign tg X.env]:=by rfl):QS X (.Assign [tg] e pos) (xo te g):=EM (G' h o h1 h2 p) λD T H U L D3 j r z k=>
 ⟨U,L,_,j,r,z,λv H1 y t l I J C=>⟨y,U,t,_,J,j.ts l,I,C,k.nx.ts l⟩⟩
theorem PG.imp{t u:TG}(h:PG X e t)(q:∀v σ H Q,u v σ H Q->t v σ H Q):PG X e u:=λJ s σ H x v Q I r z=>h J s σ H x v Q I r<|q _ _ _ _ z
theorem PGs.imp{e:Vn}{t u:e_}(h:PGs X e t)(q:∀v σ H Q,u v σ H Q->t v σ H Q):PGs X e u:=λJ s σ H x v Q I r z=>h J s σ H x v Q I r<|q _ _ _ _ z
theorem ww(hN:X.N.Nodup)(I:X.N[i]?=some x)(U:Loc X.env.scope x)(J:X.fn x=true\/X.env.scope.names.lookup x=some .local:=by first|exact .inl rfl|exact .inr rfl|assumption):QG X (.Name x pos) (ql i):=
 PG.imp (kZ hN I U J) λv p H Q ψ=>(by obtain⟨y,g,L,r,j,l,o,z,k⟩:=ψ;exact k _ H _ L (EG _) (show vn _ _ _ (fh g i y) by rw[ar];exact l.set j) o z)
theorem vv:E7 X [] cO:=PGs.imp yF λj l H Q ψ=>by obtain⟨I,o,L,p,J,U,g,z,k⟩:=ψ;cases I with|nil=>exact⟨J,k _ H _ L (EG _) U g z⟩|cons y r=>exact z.elim
theorem zf(h:QG X e g)(hs:E7 X es gs)(l:(assignEach (e::es) X.env).map (·.2)=assign e X.env::(assignEach es X.env).map (·.2):=by rfl):E7 X (e::es) (ju g gs):=
 PGs.imp (nI h hs l) λvs σ H Q ψ=>by
 obtain⟨o,p,L,t,C,T,rl,z,k⟩:=ψ
 cases o with
 |nil=>exact z.elim
 |cons y r=>
  obtain⟨x,xs,rfl,r1,r2⟩:=C;exact⟨x,xs,rfl,y,p,L,_,r1,T,rl,z,λa0 H1 I L1 j J U z1=>⟨r,I,L1,t,r2.ts j,J,U,z1,k.ts j⟩⟩
theorem aA{j:Nat}(hc:X.calm=true)(h:E7 X es gs)(h1:(assignEach es X.env).length=n:=by rfl)(h2:(assignEach es X.env).findIdx? (·.1)=none:=by rfl):QG X (.Tuple es j pos) (eV n gs):=
 PG.imp (G9 hc h h1 h2) λv C H Q ψ=>by
 obtain⟨y,U,L,g,l,o,p,z,k⟩:=ψ
 cases y with
 |tup I=>
  obtain⟨a,t,rfl,sq,r⟩:=l;have J:(match I.length==n with|true=>gs I U L g|false=>False):=z;split at J
  ·rename_i e;exact⟨a,t,rfl,sq,by rw[<-r.length];exact beq_iff_eq.mp e,I,U,L,g,r,o,p,J,k⟩
  ·exact J.elim
 |_=>exact z.elim
theorem xQ{y:Str}{px py pt:Pos}{J:Nat}{I:Pos}(hc:X.calm=true)(hN:X.N.Nodup)(hi:X.N[i]?=some x)(C:X.N[j]?=some y)(U:i≠j)(T:X.env.scope.names.lookup x=some .local)(ly:X.env.scope.names.lookup y=some .local)
 (h:QA X [a,b] tr) (h1:swappedStores [.Tuple [.Name x px,.Name y py] kt pt] (.Tuple [a,b] J I) X.env=pure (some [x,y])) (h2:swapsWithSole [.Tuple [.Name x px,.Name y py] kt pt] (.Tuple [a,b] J I) pos.line X.env=pure false:=by rfl):
 QS X (.Assign [.Tuple [.Name x px,.Name y py] kt pt] (.Tuple [a,b] J I) pos) (Fk i j tr):=EM (Ms hc hN hi C U T ly h h1 h2) λD σ H p L D3 r rl z k=>
 ⟨p,L,_,r,rl,z,λvs H1 ys L1 t g l o=>by
  split at o
  ·rename_i v w;obtain⟨x',y',rfl,r1,r2⟩:=l.inv2;exact⟨x',y',rfl,k.nx _ H1 _ L1 t (show vn _ _ _ (fh (fh p i v) j w) by rw[ar,ar];exact((r.ts t).set r1).set r2) g o⟩
  ·exact o.elim⟩
theorem iX(hp:PassesOwn (model X.prog X.w) X.A X.env X.xe)(h:QT X c tA)(hb:sJ X body t):QS X (.While c body [] pos) (qX tA t):=PS.imp (Mu hp h hb) λD σ H ψ=>by
 obtain⟨τ,L,D3,rs,rl,⟨W,⟨m0,w0⟩,turn⟩,k⟩:=ψ
 refine⟨λm r H1=>∃J C,j8 H H1/\vn X.g3 H1 r J/\ja X.g3 H1 C/\W m J C,⟨m0,τ,L,EG _,rs,rl,w0⟩,?_⟩;rintro m r H1 ⟨J,C,t1,l,a1,w1⟩;refine⟨J,C,_,l,a1,turn m J C w1,λb H2 L2 T a0 z2=>?_⟩;cases b with
 |false=>rw[Az AF];exact k.nx _ H2 _ L2 (t1.trans T) (l.ts T) a0 z2
 |true=>
  rw[AA rfl];obtain⟨N,hN,z2⟩:=z2;refine⟨λU g=>∃I j,j8 H g/\vn X.g3 g U I/\ja X.g3 g j/\N I j,?_,?_⟩
  ·rintro U g ⟨I,j,t',o,p,n'⟩;obtain⟨m',hm,w'⟩:=hN I j n';exact⟨m',hm,I,j,t',o,p,w'⟩
  ·have nx:oW X.g3 H2 (cz N) (λU g=>∃I j,j8 H g/\vn X.g3 g U I/\ja X.g3 g j/\N I j):=λU g I j t' o p ψ=>(by obtain⟨L5,s5,n'⟩:=ψ;exact ⟨I,L5,(t1.trans T).trans t',o,p.sub s5,n'⟩);have k2:=k.ts<|t1.trans T;exact⟨J,L2,_,l.ts T,a0,z2,nx,k2.rt,k2.nx,nx⟩
theorem xg{wi:o_}(hp:PassesOwn (model X.prog X.w) X.A X.env X.xe)(hc:X.calm=true)(hi:QI X tg iter wi)(hg:QG X tg g)(hb:sJ X body t)(hs:∀x,foldedSetIterable iter X.env x=pure x:=by intro _;rfl):
 QS X (.For tg iter body [] pos) (iZ wi g t):=EM (MD hp hc hi hg hb hs) λD σ H τ L D3 rs rl z k=>by
 refine⟨τ,L,_,rs,rl,z,λJ H1 r keep L1 t1 a2 yl zz=>?_⟩;obtain⟨W,w0,wk,turn,xh⟩:=O2 zz;refine⟨λi m U j=>∃I o,i+m=r.length/\j8 H1 j/\vn X.g3 j U I/\ja X.g3 j o/\W i I o,⟨r.length,τ,L1,by omega,EG _,rs.ts t1,a2,w0⟩,?_⟩;rintro i m ac H2 ⟨l,L2,al,t2,a0,p,w2⟩;by_cases a1:i<r.length
 ·refine .inr ⟨yl.go i H2 L2 t2 p (wk i l L2 w2) a1,λU j=>∃I o,j8 H1 j/\vn X.g3 j U I/\ja X.g3 j o/\W (i+1) I o,?_,?_⟩
  ·rintro U j ⟨I,o,t',C,T,w'⟩;exact⟨m-1,by omega,I,o,by omega,t',C,T,w'⟩
  ·intro x H3 y3;have ey:r[i]?=some r[i]:=Ai a1;obtain⟨t3,a3,a4⟩:=yl.yld i H2 L2 x H3 _ t2 p (wk i l L2 w2) ey y3;refine⟨r[i],l,L2,_,a4,a0.ts t3,a3,turn i _ l L2 ey w2,λau H4 a5 L4 t4 a7 ab z4=>?_⟩;have nx:oW X.g3 H4 (cz<|W<|i+1) (λU j=>∃I o,j8 H1 j/\vn X.g3 j U I/\ja X.g3 j o/\W (i+1) I o):=λU j I o t' C T ψ=>(by obtain⟨L5,s5,n'⟩:=ψ;exact ⟨I,L5,((t2.trans t3).trans t4).trans t',C,T.sub s5,n'⟩);have k2:=k.ts<|t1.trans<|(t2.trans t3).trans t4;exact⟨a5,L4,_,a7,ab,z4,nx,k2.rt,k2.nx,nx⟩
 ·have e:i=r.length:=by omega
  subst e;exact .inl ⟨yl.stop H2 L2 t2 p<|wk _ l L2 w2,k.nx _ H2 _ L2 (t1.trans t2) a0 p<|xh l L2 w2⟩
theorem PI.imp{t u:TI}(h:PI X tg e t)(q:∀σ H Q,u σ H Q->t σ H Q):PI X tg e u:=λJ s σ H Q I z=>h J s σ H Q I<|q σ H Q z
theorem PI.imq{t:TI}{u:o_}(h:PI X tg e t)(q:∀σ H R τ L I,vn G H σ τ->ja G H L->u τ L I->(∀J H' ys keep L',j8 H H'->ja G H' L'->gM G H' J ys keep->I ys keep L'->R J H')->t σ H R):PI X tg e (FV G u):=PI.imp h λσ H R ψ=>(by obtain⟨τ,L,I,a,b,c,d⟩:=ψ;exact q σ H R τ L I a b c d)
theorem jS{a:Addr}{keep:qp->Prop}(h:∀H L,j8 H₀ H->ja G H L->keep L->∃xs,aO G.K H a xs/\v5 G H ys xs):gM G H₀ (FH G.K a) ys keep where
 go:=λi H L t I J U=>by
  obtain⟨xs,sq,r⟩:=h H L t I J;have:i<xs.length:=by rw[<-r.length];exact U
  exact⟨xs,xs[i],sq,Ai this⟩
 yld:=λi H L x o y t I J g ψ=>by obtain⟨e,f⟩:=ψ;subst e;obtain⟨xs,sq,r⟩:=h _ L t I J;obtain⟨p,j,l⟩:=r.get g;have:=f xs sq;rw[j] at this;cases this;exact⟨EG _,I,l⟩
 stop:=λH L t I J=>by obtain⟨xs,sq,r⟩:=h H L t I J;exact⟨xs,sq,by rw[r.length];exact Al _⟩
theorem jp(h:QE X e te):QI X tg e (aj te):=PI.imq (Mx h) λσ H R τ L R3 rs l z k=>by
 refine⟨τ,L,_,rs,l,z,λv g y o C I U p=>?_⟩;cases y with
 |ref a=>
  obtain⟨j,keep,es,kp,hk,z2⟩:=mG p;have T:∀H L,j8 g H->ja X.g3 H L->keep L->∃J,aO X.K H a J/\v5 X.g3 H j J:=λH L _ l e=>cH l<|hk L e;obtain⟨J,sq,_⟩:=T g o (EG _) I kp;exact⟨a,U,⟨J,sq⟩,k _ g j _ o C I (jS T) z2⟩
 |sq j=>
  obtain⟨a,J,e,sf,r⟩:=U;exact⟨a,e,⟨J,sf.sq⟩,k _ g j (λ_=>True) o C I (jS λH L t _ _=>⟨J,(sf.ts t).sq,r.ts t⟩) p⟩
 |_=>exact p.elim
theorem uG(lo:Int)(n:Nat):gM G H₀ (Eg lo n) (aQ lo n) (λ_=>True) where
 go:=λi H L t J g j=>show i<n by simpa[aQ] using j
 yld:=λi H L x l y t J g U ψ=>by
  obtain⟨e,f⟩:=ψ
  subst e f;refine⟨EG _,J,?_⟩;unfold aQ at U;rw[Am] at U;obtain⟨z,I,e⟩:=Ar.mp U;have:=B6 (i:=i) (n:=n) (by
   by_cases c:i<n
   ·exact c
   ·rw[BU (by simp;omega)] at I;cases I)
  rw[this] at I;cases I;subst e;rfl
 stop:=λH L t J g=>by simp[aQ,Eg]
theorem ve{p:Pos}(g:Gl X "range")(l:X.mg "range"=none)(h:QA X [a] tr)(hs:starEach [a] X.env=[(false,eval a X.env)]:=by rfl):QI X tg (.Call (.Name "range" p) [a] [] pos) (bQ tr):=
 PI.imq (MB g l h hs) λσ H R o L R3 t C z k=>by
 refine⟨o,L,_,t,C,z,λvs T ys L1 t1 J U I=>?_⟩;split at I
 ·rename_i j;obtain⟨x,rfl,r⟩:=U.inv1;cases r;exact⟨j,rfl,I.1.1,I.1.2,k _ T _ _ L1 t1 J (uG 0 _) I.2⟩
 ·exact I.elim
end
section
variable {T:Vm}{c:Expr}{wi:o_}
theorem qI:QF X [] FY:=PF.imp OG λJ H Q ψ=>(by obtain⟨U,L,g,j,I,z,k⟩:=ψ;exact k _ H L (EG _) I z)
theorem wc(h:QT X c tA):QF X [c] tA:=OH h
theorem Ib{g2:TG}(a0:∀v σ H Q,Ev G g v σ H Q->g2 v σ H Q)(σ:L2.St)(H:Hp)(Q:VK):xK G (xS n wi g tA te) σ H Q->FT n (FV G wi) g2 (g_ G tA) (xK G te) σ H Q:=λ ψ=>by
 obtain⟨τ,L,Q3,rs,rl,z,k⟩:=ψ
 refine⟨τ,L,_,rs,rl,z,λJ H1 l keep L1 t1 a1 yl zz=>?_⟩;obtain⟨hz,W,w0,wk,turn,xh⟩:=O3 zz;refine⟨λi m vs H'=>∃I L',i+m=l.length/\I.length<=i/\j8 H1 H'/\v5 G H' I vs/\ja G H' L'/\W i I L',⟨l.length,[],L1,by exact Nat.add_comm _ _,Al _,EG _,rfl,a1,w0⟩,?_⟩;rintro i m vs H2 ⟨I,L2,ab,ac,o,U,j,p⟩;by_cases r:i<l.length
 ·refine .inr ⟨yl.go i H2 L2 o j (wk i I L2 p) r,by rw[<-U.length];lia,?_⟩;intro x H3 y3;have ey:l[i]?=some l[i]:=Ai r;obtain⟨t3,a2,a3⟩:=yl.yld i H2 L2 x H3 _ o j (wk i I L2 p) ey y3;refine a0 _ _ _ _ ⟨l[i],_,L2,_,a3,(rs.ts<|(t1.trans o).trans t3).more n,a2,turn i _ I L2 ey p,λal H4 t L4 t4 C a4 z4=>?_⟩;refine⟨t,L4,_,C,a4,z4,λb H5 L5 t5 T z5=>?_⟩;cases b with
  |true=>
   rw[AA rfl];refine⟨t,L5,_,C.ts t5,T,z5,λv6 H6 y6 L6 t6 a5 a7 ψ=>?_⟩;obtain⟨L7,s7,z6⟩:=ψ;have tt:=((t3.trans t4).trans t5).trans t6;exact⟨m-1,by omega,I++[y6],L7,by lia,by rw[Aa,BL];exact Fi,o.trans tt,(U.ts tt).app<|v5.one a7,a5.sub s7,z6⟩
  |false=>
   rw[Az AF];have tt:=(t3.trans t4).trans t5;obtain⟨L7,s7,z6⟩:=z5;exact⟨m-1,by lia,I,L7,by lia,by exact Ot,o.trans tt,U.ts tt,T.sub s7,z6⟩
 ·have ei:i=l.length:=by lia
  subst ei;refine .inl ⟨yl.stop H2 L2 o j<|wk _ I L2 p,by rw[<-U.length];lia,λD hD=>?_⟩;exact k _ _ _ _ ((t1.trans o).trans<|EH hD) (j.newL hD U) (by rfl)<|xh I L2 p D<|j.none hD
structure Db(X:Cx)(scope:Scope)(T:Vm)(target:Expr)(g:oB):Prop where
 ex:∃g2:TG,(∀C fp s₀ H₀,PG (X.comp scope T C fp s₀ H₀) target g2)/\pD g2 X.N.length T.length/\∀v σ H Q,Ev X.g3 g v σ H Q->g2 v σ H Q
theorem Ph(i:Nat)(v:V)(σ:L2.St)(H:Hp)(Q:L2.St->Hp->Prop):Ev G (ql i) v σ H Q->eM i v σ H Q:=λ ψ=>by
 obtain⟨y,I,L,j,J,U,g,z,k⟩:=ψ
 exact k _ H _ L (EG _) (show vn _ _ _ (fh I i y) by rw[ar];exact U.set J) g z
theorem bH{p:Pos}(hN:(X.N++[x]).Nodup)(J:∀C fp s₀ H₀,Loc (X.comp scope [x] C fp s₀ H₀).env.scope x)(I:∀C fp s₀ H₀,(X.comp scope [x] C fp s₀ H₀).env.scope.names.lookup x=some .local):Db X scope [x] (.Name x p) (ql X.N.length):=
 ⟨eM X.N.length,λC fp s₀ H₀=>kZ (X:=X.comp scope [x] C fp s₀ H₀) hN (by show(X.N++[x])[X.N.length]?=some x;simp) (J C fp s₀ H₀)<|.inr<|I C fp s₀ H₀,vZ _,Ph _⟩
theorem zB{K:Af}(n:Nat):pD (FC K 2<|sR (eM n)<|sR (eM<|n+1) FA) n 2:=by
 rintro o I x H Q ⟨a,J,e,sq,len,v,r,U,w,g,j,l,q⟩;refine⟨a,J,e,sq,len,v,r,U,w,g,j,l,⟨by simp[I],λi u ei=>?_⟩,q⟩;have p:i<n:=by
  by_cases c:i<n
  ·exact c
  ·rw[Ax (by lia),Ct] at ei;split at ei<;>cases ei
 rw[Bl (by lia),Bl (by exact Hx)];exact ei
theorem Pj(i j:Nat)(v:V)(σ:L2.St)(H:Hp)(Q:L2.St->Hp->Prop):Ev G (eV 2<|ju (ql i)<|ju (ql j) cO) v σ H Q->FC G.K 2 (sR (eM i)<|sR (eM j) FA) v σ H Q:=λ ψ=>by
 obtain⟨y,U,L,g,o,p,t,z,k⟩:=ψ
 cases y with
 |tup I=>
  obtain⟨a,xs,rfl,sq,r⟩:=o;have J:(match I.length==2 with|true=>ju (ql i) (ju (ql j) cO) I U L g|false=>False):=z;split at J
  ·rename_i e;have C:I.length=2:=beq_iff_eq.mp e
   match I,C with
   |[T,y2],_=>
    obtain⟨x1,l,rfl,r1,r2⟩:=r.inv2;have z2:g (fh (fh U i T) j y2) L:=J;exact⟨a,_,rfl,sq,rfl,x1,[l],rfl,l,[],rfl,rfl,k _ H _ L (EG _) (by rw[ar,ar];exact(p.set r1).set r2) t z2⟩
  ·exact J.elim
 |_=>exact z.elim
theorem Pk{y:Str}{p I pt:Pos}(hc:X.calm=true)(hN:(X.N++[x,y]).Nodup)(U:∀C fp s₀ H₀,(X.comp scope [x,y] C fp s₀ H₀).env.scope.names.lookup x=some .local)(J:∀C fp s₀ H₀,(X.comp scope [x,y] C fp s₀ H₀).env.scope.names.lookup y=some .local)
 (h1:∀env,(assignEach [.Name x p,.Name y I] env).length=2:=by intro _;rfl) (h2:∀env,(assignEach [.Name x p,.Name y I] env).findIdx? (·.1)=none:=by intro _;rfl)
 (g:∀env,(assignEach [.Name x p,.Name y I] env).map (·.2)=assign (.Name x p) env::(assignEach [.Name y I] env).map (·.2):=by intro _;rfl) (j:∀env,(assignEach [.Name y I] env).map (·.2)=assign (.Name y I) env::(assignEach [] env).map (·.2):=by intro _;rfl):
 Db X scope [x,y] (.Tuple [.Name x p,.Name y I] kt pt) (eV 2<|ju (ql X.N.length)<|ju (ql<|X.N.length+1) cO):=
 ⟨_,λC fp s₀ H₀=>G9 (X:=X.comp scope [x,y] C fp s₀ H₀) hc (nI (kZ hN (by show(X.N++[x,y])[X.N.length]?=some x;simp) (.inl<|U C fp s₀ H₀)<|.inr<|U C fp s₀ H₀) (nI (kZ hN (by show(X.N++[x,y])[X.N.length+1]?=some y;simp) (.inl<|J C fp s₀ H₀)<|.inr<|J C fp s₀ H₀) yF<|j _)<|g _) (h1 _)<|h2 _,zB _,Pj _ _⟩
theorem fF(T:Vm)(S:jg X scope)(hc:X.calm=true)(hi:QI X target iter wi)(I:Db X scope T target g)
 (J:∀C fp s₀ H₀,QF (X.comp scope T C fp s₀ H₀) ny tA) (U:∀C fp s₀ H₀,QE (X.comp scope T C fp s₀ H₀) nG te)
 (hs:∀x,foldedSetIterable iter X.env x=pure x:=by intro _;rfl):QE X (.ListComp nG [⟨target,iter,ny,0⟩] scope pos) (xS T.length wi g tA te):=by
 obtain⟨g2,j,l,o⟩:=I.ex;exact EU (OJ T S hc hi j l J U hs)<|Ib o
theorem wv(T:Vm){px o:Pos}(hN:X.N.Nodup)(I:X.N[i]?=some x)(hx:Loc X.env.scope x)(S:jg X scope)(hc:X.calm=true)(hi:QI X target iter wi)
 (hg:Db X scope T target g) (hf:∀C fp s₀ H₀,QF (X.comp scope T C fp s₀ H₀) ny tA) (he:∀C fp s₀ H₀,QE (X.comp scope T C fp s₀ H₀) nG te)
 (J:swapsWith (.ListComp nG [⟨target,iter,ny,0⟩] scope o) (some<|.Name x px) pos.line X.env=pure true:=by rfl)
 (U:X.fn x=true\/X.env.scope.names.lookup x=some .local:=by first|exact .inl rfl|exact .inr rfl|assumption)
 (hs:∀x,foldedSetIterable iter X.env x=pure x:=by intro _;rfl):QS X (.Assign [.Name x px] (.ListComp nG [⟨target,iter,ny,0⟩] scope o) pos) (xo (xS T.length wi g tA te)<|ql i):=by
 obtain⟨g2,h1,h2,h3⟩:=hg.ex;refine PS.imp (OK (tc:=g_ X.g3 tA) (te:=xK X.g3 te) T hN I hx S hc hi h1 h2 hf he J U hs) λD σ H ψ=>?_;obtain⟨p,L,D3,r,rl,z,k⟩:=ψ;refine Ib h3 σ H _ ⟨p,L,_,r,rl,z,λv H1 y L1 t j l z1=>?_⟩;exact k.nx _ H1 _ L1 t (show vn _ _ _ (fh p i y) by rw[ar];exact(r.ts t).set l) j z1
def dn(G:G3)(sp:zd):Sp:=λvs H Q _=>∃ys L I,v5 G H ys vs/\ja G H L/\sp ys L I/\vA G H I Q
abbrev F4(P:Vw)(w:Vx)(K:Af)(mg:Vg)(base:Vy)(k:Nat)(x:Str)(ps:Vm)(sp:zd):Prop:=Cal P w K mg base k x ps<|dn ⟨K,P,w⟩ sp
abbrev Fn3(P:Vw)(w:Vx)(K:Af)(mg:Vg)(base:Vy)(k:Nat)(f:Addr)(fd:FuncData)(ps:Vm)(sp:zd):Prop:=bS P w K mg base CX0 k f fd ps<|dn ⟨K,P,w⟩ sp
theorem Pl{k:Nat}{p:Pos}(c:F4 X.prog X.w X.K X.mg X.base k x ps sp)(j:km k X.A)(l:Gl X x)(o:QA X (e::es) tr)(I:E4 x:=by decide)
 (r:EY e es X:=by rfl) (J:EZ pos es X:=by rfl):QE X (.Call (.Name x p) (e::es) [] pos) (v4 sp tr):=
 EI (OE c j l o I r J) λσ H Q t L C T rl z k=>
 ⟨t,L,_,T,rl,z,λvs H1 ys L1 t1 U g z1=>⟨ys,L1,C,by rw[Aw];exact g,U,z1,k.ts t1⟩⟩
def l6(Q:YK):YK:=λy L=>∃L2,qd L2 L/\Q y L2
def iw(N:Vm)(ys:List Y):jq:=ys.map some++List.replicate (N.length-ys.length) none
theorem oy{N:Vm}{vs:VA}(r:v5 G H ys vs):vn G H (L2.start N vs) (iw N ys):=by unfold L2.start iw;rw[<-r.length];refine vn.more ⟨by simp[r.length],λi y e=>?_⟩ _;rw[Am] at e;obtain⟨g,I,J⟩:=Ar.mp e;cases J;obtain⟨x,ex,U⟩:=r.get I;exact⟨x,by rw[Am,ex];rfl,U⟩
theorem Pm{P:Vw}{w:Vx}{K:Af}{N:Vm}{k:Nat}(F:Fun K x eA st f fd)(S:aw N ps<|qt st)(len:∀ys L Q,sp ys L Q->ys.length=ps.length)
 (I:∀(eK:Vu) (A:Around) (outer:List Env) (s:Vv) (H:Hp) (E:XK),km k (A.deeper<|PyProof.Rows.envOfC eA (qt st) s.heap.objs.size f eK)->
  ∃t,sJ (iT CX0 P w K mg base N eA (qt st) f eK A outer s H E).nox (j9 st) t/\∀ys L Q,sp ys L Q->t { nx:=λ_ L'=>l6 Q .non L',rt:=l6 Q } (iw N ys) L):Fn3 P w K mg base (k+1) f fd ps sp:=by
 refine F.ok S (λT H Q E ψ=>by obtain⟨ys,L,U,g,C,z,_⟩:=ψ;rw[<-g.length];exact len ys L U z) λeK A outer s H T Q E hr ψ=>?_;obtain⟨ys,L,U,g,C,z,k⟩:=ψ;obtain⟨t,ht,q⟩:=I eK A outer s H E hr;refine⟨_,ht,iw N ys,L,_,oy g,C,q ys L U z,?_⟩;refine⟨λσ j τ L' l a0 J ψ=>(by obtain⟨L2,o,p⟩:=ψ;exact k .non j .non L2 l (J.sub o) (by rfl) p),λv j y L' l J r ψ=>(by obtain⟨L2,o,p⟩:=ψ;exact k v j y L2 l (J.sub o) r p),λ_ _ _ _ _ _ _ z=>z.elim,λ_ _ _ _ _ _ _ z=>z.elim⟩
def i_(G:G3)(r:Y->List Y->qp->YK->Prop):V->VA->Hp->VK->Prop:=λx xs H Q=>∃y ys L I,RV G H y x/\v5 G H ys xs/\ja G H L/\r y ys L I/\vA G H I Q
theorem i7.imq{id:Vz}{r:V->VA->Hp->VK->Prop}{u:Y->List Y->qp->YK->Prop}(h:i7 X id r)(q:∀x xs H Q y ys L I,RV G H y x->v5 G H ys xs->ja G H L->u y ys L I->vA G H I Q->r x xs H Q):i7 X id (i_ G u):=i7.imp h λx xs H Q ψ=>(by obtain⟨y,ys,L,I,a,b,c,d,e⟩:=ψ;exact q x xs H Q y ys L I a b c d e)
theorem Pn:i7 X "list.append" (i_ X.g3 jw):=i7.imq Of λx p H Q y t L C U g J z k=>by
 unfold jw at z;split at z
 ·rename_i a v;obtain⟨T,e,z⟩:=vf z;obtain⟨j,I,r⟩:=J a _ e;obtain⟨l,rfl,o⟩:=g.inv1;exact⟨a,j,l,U,rfl,I,by rw[<-r.length];exact z.1,k _ _ _ _ (ES I) (J.setL I<|r.app<|v5.one o) (by rfl) z.2⟩
 ·exact z.elim
theorem Po:i7 X "list.extend" (i_ X.g3 qL):=i7.imq zL λx T H Q y ys L Q3 g j I z k=>by
 unfold qL at z;split at z
 ·rename_i a b;obtain⟨zs,e,z⟩:=vf z;obtain⟨us,l,z⟩:=vf z;obtain⟨o,J,r⟩:=I a _ e;obtain⟨p,t,U⟩:=I b _ l;obtain⟨v',rfl,C⟩:=j.inv1;cases C;exact⟨a,b,o,p,g,rfl,J,t,by rw[<-r.length,<-U.length];exact z.1,k _ _ _ _ (ES J) (I.setL J<|r.app U) (by rfl) z.2⟩
 ·exact z.elim
theorem Pp:i7 X "list.pop" (i_ X.g3 Bs):=i7.imq Oi λx l H Q y T L Q3 o p U z k=>by
 unfold Bs at z;split at z
 ·rename_i a;obtain⟨g,e,z⟩:=vf z;obtain⟨t,I,r⟩:=U a _ e;cases (show l=[] from p);cases J:g[g.length-1]? with
  |none=>rw[J] at z;exact z.elim
  |some v=>
   rw[J] at z;obtain⟨u,j,C⟩:=r.get J;rw[r.length] at j;exact⟨a,t,u,o,rfl,I,j,k _ _ _ _ (ES I) (U.setL I r.dropLast) (C.ts<|ES I) z⟩
 ·exact z.elim
theorem yn{a:Addr}(I:ja G H L)(h:db L (.ref a)=some ys):Fh G.K "list" (.ref a) H:=by obtain⟨J,sq,_⟩:=cH I h;exact .inl ⟨rfl,J,sq⟩
def hU(r:Y->List Y->qp->YK->Prop)(to:vt)(t:gg)(τ:jq)(L:qp)(Q:YK):Prop:=to τ L λx L1=>match x with
 |.ref a=>oE L1 (.ref a) λ_=>t τ L1 λxs L2=>r (.ref a) xs L2 Q
 |_=>False
theorem rG{id:Vz}{r:Y->List Y->qp->YK->Prop}(h2:Slot "list" name id)(h3:typeOf (.builtin id)=pure (.type "method_descriptor"))(hm:i7 X id<|i_ X.g3 r)(ho:QE X o to)(ha:QA X (e::es) tr)
 (h4:attributeBase o name X.env (eval o X.env)=eval o X.env:=by rfl)
 (h5:((backTo fm<|starEach (e::es) X.env).all (λx=>!x.1)&&(backToKw fm<|keywordEach [] X.env).all (λx=>x.1.isSome)&&decide ((e::es).length+([]:List Keyword).length+(if ([]:List Keyword).isEmpty=true then 0 else 1)<30))=true:=by rfl)
 (h6:(apos.endLine==fm.line)=true:=by rfl) (h7:EY e es X:=by rfl) (h8:EZ fm es X:=by rfl):
 QE X (.Call (.Attribute o name apos) (e::es) [] fm) (hU r to tr):=EI (Hu PySem.F.plainAttrs_list h2 h3 hm ho ha h4 h5 h6 h7 h8) λσ H Q l L Q3 p rl z k=>
 ⟨l,L,_,p,rl,z,λv H1 y L1 t I J U=>by
  split at U
  ·rename_i a;obtain⟨C,es,U⟩:=ce U;exact⟨by cases J;exact yn I es,l,L1,_,p.ts t,I,U,λvs H2 C L2 T g j z2=>⟨.ref a,C,L2,Q3,J.ts T,j,g,z2,k.ts<|t.trans T⟩⟩
  ·exact U.elim⟩
theorem Pq{id:Vz}{r:Y->List Y->qp->YK->Prop}(h2:Slot "list" name id)(g:typeOf (.builtin id)=pure (.type "method_descriptor"))(j:i7 X id<|i_ X.g3 r)(l:QE X o to)
 (p:attributeBase o name X.env (eval o X.env)=eval o X.env:=by rfl) (t:(apos.endLine==fm.line)=true:=by rfl):
 QE X (.Call (.Attribute o name apos) [] [] fm) (hU r to x0):=EI (Oc PySem.F.plainAttrs_list h2 g j l p t) λσ H Q C L T rs rl z k=>
 ⟨C,L,_,rs,rl,z,λv H1 y L1 t1 I J U=>by
  split at U
  ·rename_i a;obtain⟨ys,es,U⟩:=ce U;exact⟨by cases J;exact yn I es,.ref a,[],L1,T,J,rfl,I,U,k.ts t1⟩
  ·exact U.elim⟩
theorem qz(I:QE X o to)(J:QA X (e::es) tr)(U:attributeBase o "append" X.env (eval o X.env)=eval o X.env:=by rfl)
 (g:((backTo fm<|starEach (e::es) X.env).all (λx=>!x.1)&&(backToKw fm<|keywordEach [] X.env).all (λx=>x.1.isSome)&&decide ((e::es).length+([]:List Keyword).length+(if ([]:List Keyword).isEmpty=true then 0 else 1)<30))=true:=by rfl)
 (j:(apos.endLine==fm.line)=true:=by rfl) (l:EY e es X:=by rfl) (p:EZ fm es X:=by rfl):
 QE X (.Call (.Attribute o "append" apos) (e::es) [] fm) (hU jw to tr):=rG PySem.F.slot_list_append PySem.F.type_list_append Pn I J U g j l p
theorem ou(I:QE X o to)(J:QA X (e::es) tr)(U:attributeBase o "extend" X.env (eval o X.env)=eval o X.env:=by rfl)
 (g:((backTo fm<|starEach (e::es) X.env).all (λx=>!x.1)&&(backToKw fm<|keywordEach [] X.env).all (λx=>x.1.isSome)&&decide ((e::es).length+([]:List Keyword).length+(if ([]:List Keyword).isEmpty=true then 0 else 1)<30))=true:=by rfl)
 (j:(apos.endLine==fm.line)=true:=by rfl) (l:EY e es X:=by rfl) (p:EZ fm es X:=by rfl):
 QE X (.Call (.Attribute o "extend" apos) (e::es) [] fm) (hU qL to tr):=rG PySem.F.slot_list_extend PySem.F.type_list_extend Po I J U g j l p
theorem Pr(I:QE X o to)(J:attributeBase o "pop" X.env (eval o X.env)=eval o X.env:=by rfl)(U:(apos.endLine==fm.line)=true:=by rfl):
 QE X (.Call (.Attribute o "pop" apos) [] [] fm) (hU Bs to x0):=Pq PySem.F.slot_list_pop PySem.F.type_list_pop Pp I J U
end
abbrev DR:wO:=t_ λi j=>.int<|i-j
abbrev az5:wO:=yI afz λi j=>.int<|i*j
abbrev Ps:wO:=yI FM λi j=>.int<|i / j
abbrev uK:wO:=yI (λ_ j=>0<j) λi j=>.int<|i % j
abbrev yLt:wO:=t_ λi j=>.bl<|decide<|i<j
abbrev Pu:wO:=t_ λi j=>.bl<|decide<|j<i
structure Ic(G:G3)(mg:Vg)(x:Str)(y:Y):Prop where
 ex:∃c,mg x=some (.ref c)/\∀H,RV G H y<|.ref c
theorem Pw(t:Ic X.g3 X.mg x y)(I:Gl X x)(hd:E4 x:=by decide):QE X (.Name x pos) (yC y):=by obtain⟨c,J,q⟩:=t.ex;exact O5 I J q hd
def Ie(kvs:List<|Str×Str):LO:=.dct<|kvs.map λp=>(Sum.inr p.1,Y.str p.2)
def Px(kvs:List<|Str×Str)(_:jq)(L:qp)(Q:YK):Prop:=∀p,L p=none->Q (.ref p) (qe L p<|Ie kvs)
def u2(kvs:List<|Str×Str):List (jb×V):=kvs.map λp=>(Sum.inr p.1,V.str p.2)
theorem u5{σ:L2.St}{H:Hp}{Q:List (V×V)->Hp->Prop}:∀{kvs:List<|Str×Str},Q (kvs.map λp=>(V.str p.1,V.str p.2)) H->qN (kvs.map λp=>(tC<|.str p.1,tC<|.str p.2)) σ H Q
 |[],h=>h
 |_::r,h=>u5 (kvs:=r) h
theorem yg{G:G3}{H:Hp}:∀kvs:List (Str×Str),Paired (λ(p:jb×Y) (q:jb×V)=>p.1=q.1/\RV G H p.2 q.2) (kvs.map λp=>(Sum.inr p.1,Y.str p.2))<|u2 kvs
 |[]=>.nil
 |_::r=>.cons ⟨rfl,rfl⟩<|yg r
theorem Py{keys:List<|Option Expr}{values:Vn}(kvs:List<|Str×Str)(h:El X pos keys values<|kvs.map λp=>(tC<|.str p.1,tC<|.str p.2))(h1:(keys.all λx=>x.isSome)=true)(h2:keys.length=values.length)(U:keys≠[])(g:keys.length<=15)
 (j:kvs.length<=15:=by decide) (nd:iy [] (u2 kvs)=u2 kvs:=by decide +kernel):QE X (.Dict keys values pos) (Px kvs):=EI (NH h h1 h2 U g) λl H Q o L r t J z k=>by
 intro p I;refine u5 ⟨zq,u2 kvs,by simp[u2,kV],by simpa[u2] using j,?_⟩;rw[nd,Lu];refine k _ _ _ (qe L p<|Ie kvs) (EH I) ?_ (by rfl)<|z p<|J.none I;intro a u e;by_cases c:a=p
 ·subst c;rw[q9] at e;cases e;exact⟨u2 kvs,zq,yg kvs⟩
 ·rw[qc c] at e;exact(J a u e).keep (EH I) (qu c)
theorem pU{Q:α->qp->Prop}{o:Option α}(h:zS L Q o):∃v,o=some v/\Q v L:=by cases o with|none=>exact h.elim|some v=>exact⟨v,rfl,h⟩
theorem kC{kvs:List<|Str×Str}{k:Str}(h:kvs.lookup k=some x):kj (kvs.map λp=>((Sum.inr p.1:jb),Y.str p.2)) (Sum.inr k)=some (Y.str x):=by
 induction kvs with
 |nil=>simp at h
 |cons p r I=>
  obtain⟨a,b⟩:=p;unfold kj;rw[AG,BI];rw[Bk] at h;by_cases c:k=a
  ·subst c;simp at h;simp[h]
  ·have c1:(k==a)=false:=by simpa using c
   rw[c1] at h;have c2:decide ((Sum.inr a:jb)=Sum.inr k)=false:=Av λz=>c (Sum.inr.inj z).symm;simp only[c2];exact I h
theorem yO(h:(aQ lo n)[i]?=some y):i<n/\y=.int (lo+i):=by
 unfold aQ at h;rw[Am] at h;obtain⟨z,I,e⟩:=Ar.mp h;have J:i<n:=by
  by_cases c:i<n
  ·exact c
  ·rw[BU (by simp;exact yr)] at I;cases I
 rw[B6 J] at I;cases I;exact⟨J,e.symm⟩
theorem fN(lo:Int)(n:Nat):(aQ lo n).length=n:=by simp[aQ]
theorem gm{tb:k8}{D:xi}(W:Nat->jq->qp->Prop)(J:W 0 τ L)
 (hs:∀i τ L,i<n->W i τ L->g (.int<|lo+i) τ L λI L2=>tb { D with nx:=cz<|W<|i+1,ct:=cz<|W<|i+1,bk:=D.nx } I L2) (hd:∀τ L,W n τ L->D.nx τ L):vM (aQ lo n) (λ_=>True) g tb D τ L:=by
 refine ku ⟨W,J,λ_ _ _ _=>trivial,λi y τ L e w=>?_,λτ L w=>hd τ L (by rw[fN] at w;exact w)⟩;obtain⟨U,rfl⟩:=yO e;exact hs i τ L U w
theorem Pz{a:Addr}{v:Y}{Q:YK}(e:L a=some (.lst<|ys++[v]))(q:Q v<|qe L a<|.lst ys):oE L (.ref a) (λ_=>x0 τ L λxs L2=>Bs (.ref a) xs L2 Q):=by
 refine qb e<|qo e ?_;have:(ys++[v])[(ys++[v]).length-1]?=some v:=by simp
 rw[this,List.dropLast_concat];exact q
theorem ax{tb:k8}{D:xi}{a:Addr}(h:db L (.ref a)=some ys)(W:Nat->jq->qp->Prop)(J:W 0 τ L)(U:∀i τ L',W i τ L'->L' a=L a)
 (hs:∀i y τ L,ys[i]?=some y->W i τ L->g y τ L λI L2=>tb { D with nx:=cz<|W<|i+1,ct:=cz<|W<|i+1,bk:=D.nx } I L2) (hd:∀τ L,W ys.length τ L->D.nx τ L):
 nN L a λys keep L1=>vM ys keep g tb D τ L1:=x9 (pM h) λkeep j=>ku ⟨W,J,λi τ L' w=>j L'<|U i τ L' w,hs,hd⟩
theorem ag{keep:qp->Prop}{Q:YK}(I:Nat->List Y->Prop)(hz:ys.length<sizeLine)(j:keep L)(l:I 0 [])
 (turn:∀(i:Nat) y zs,ys[i]?=some y->I i zs->g y (τ++List.replicate n none) L λJ L2=>tc J L2 λb L3=>kn b (te J L3 λz o=>cz (λzs L'=>L'=L/\I (i+1) zs) (zs++[z]) o)<|cz (λzs L'=>L'=L/\I (i+1) zs) zs L3)
 (r:∀zs,I ys.length zs->∀p,L p=none->Q (.ref p) (qe L p<|.lst zs)):h_ ys keep n g tc te τ L Q:=by
 refine wP ⟨hz,λi zs L'=>L'=L/\I i zs,⟨rfl,l⟩,?_,?_,?_⟩
 ·rintro i zs L' ⟨rfl,_⟩;exact j
 ·rintro i y zs L' t ⟨rfl,U⟩;exact turn i y zs t U
 ·rintro zs L' ⟨rfl,U⟩ p C;exact r zs U p C
theorem gU{Q:YK}(I:Nat->List Y->Prop)(hz:m<sizeLine)(j:I 0 [])
 (turn:∀(i:Nat) zs,i<m->I i zs->g (.int<|lo+i) (τ++List.replicate n none) L λJ L2=>tc J L2 λb L3=>kn b (te J L3 λz l=>cz (λzs L'=>L'=L/\I (i+1) zs) (zs++[z]) l)<|cz (λzs L'=>L'=L/\I (i+1) zs) zs L3)
 (o:∀zs,I m zs->∀p,L p=none->Q (.ref p) (qe L p<|.lst zs)):h_ (aQ lo m) (λ_=>True) n g tc te τ L Q:=by
 refine ag (keep:=λ_=>True) I (by rw[fN];exact hz) trivial j (λi y zs e U=>?_) λzs U=>o zs (by rw[fN] at U;exact U);obtain⟨r,rfl⟩:=yO e;exact turn i zs r U
theorem jF(ys:List Y)(n:Nat):gd ys (some ((n:Nat):Int)) none=ys.drop n:=by
 unfold gd;rw[HT.sIx_nat,HT.sIx_none];by_cases h:n<=ys.length
 ·rw[BW h,AZ (by rw[BC];simp +arith only)]
 ·rw[Cv (by lia),List.drop_of_length_le<|Al _,List.drop_of_length_le (by lia),List.take_nil]
theorem qK(ys:List Y)(n:Nat):gd ys none (some ((n:Nat):Int))=ys.take n:=by
 unfold gd;rw[HT.sIx_nat,HT.sIx_none,DE,Nat.sub_zero];by_cases h:n<=ys.length
 ·rw[BW h]
 ·rw[Cv (by lia),AZ<|Al _,AZ (by lia)]
theorem xz{I:List α}{f:α->Y}{w:α}(h:I[i]?=some w):bz (I.map f) (i:Int)=some (f w):=jl (by rw[Am,h];rfl)
def x4(t:k8)(n:Nat)(ys:List Y)(L:qp)(Q:YK):Prop:=t { nx:=λ_ L'=>l6 Q .non L',rt:=l6 Q } (ys.map some++List.replicate (n-ys.length) none) L
theorem xh{Q:YK}(h:Q y L):l6 Q y L:=⟨L,EF L,h⟩
theorem nv{Q:YK}(s:qd L L')(h:Q y L):l6 Q y L':=⟨L,s,h⟩
theorem Fn3.never{P:Vw}{w:Vx}{K:Af}{k:Nat}(no:∀ys L Q,¬sp ys L Q):Fn3 P w K mg base k f fd ps sp:=
 bS.never λJ H Q E ψ=>(by obtain⟨ys,L,I,_,_,z,_⟩:=ψ;exact no ys L I z)
theorem qd.upd{a:Addr}{o:LO}(s:qd L L')(h:L a=none):qd L (qe L' a o):=λb u e=>by rw[qc<|aS e h];exact s b u e
theorem qd.put{a:Addr}{o:LO}(s:qd L L')(h:L' a=some o):qd (qe L a o) L':=λb u e=>by
 by_cases c:b=a
 ·subst c;rw[q9] at e;cases e;exact h
 ·rw[qc c] at e;exact s b u e
theorem tO{G:G3}{H:Hp}:∀I:Vp,v5 G H (I.map Y.int)<|I.map V.int
 |[]=>rfl
 |_::r=>⟨_,_,rfl,rfl,tO r⟩
end L3
namespace L2
open PySem PySem.Spec PyProof.Rows
section
variable {σ:L2.St}
theorem oC(I:z9 X pins σ H s)(U:∀b∈fp,H b=none)(k:∀b o,b∉fp->s.heap.get? b=some o->h'.get? b=some o):gF X.prog X.w H h':=λb u e=>by
 refine(I.hok b u e).stay (λc v g q=>k c v (λz=>?_) q) (λ_ q=>q) λ_ _ q=>q;have J:=U c z;rcases g with w|w
 ·rw[w,e] at J;cases J
 ·rw[w] at J;cases J
theorem zR{fs:List Addr}(k:∀b o,b∉fp->h.get? b=some o->h'.get? b=some o):Un fs fp H H h h':=
 ⟨λb o q _ _ x=>k b o x q,λb o q _ _ x=>⟨o.slots,k b o x q⟩,λ_ _ _ n _=>n,λb o q x=>⟨o,k b o x q⟩,λ_ _ q=>q,λ_ _ _ q=>q,λb I q=>⟨#[],by rw[q];simp⟩⟩
theorem z9.turnedL(I:z9 X pins σ H s)(k:∀b o,b∉fp->s.heap.get? b=some o->h'.get? b=some o)(U:∀b∈fp,oJ X pins H b)(g:0<t':=by walk_at "t"):z9 X pins σ H { s with heap:=h',toks:=t' }:=
 I.call' (s':={ s with heap:=h',toks:=t' }) (ch:=fp) rfl (zR k) (oC I (λb J=>(U b J).1) k) I.bare λb J=>⟨(U b J).2.2.2.1,(U b J).2.1,(U b J).2.2.2.2.1,(U b J).2.2.2.2.2⟩
theorem z9.turnedN{a:Addr}{o:HO}(I:z9 X pins σ H s)(k:∀b o,b∉fp->s.heap.get? b=some o->h'.get? b=some o)(g:∀b∈fp,oJ X pins H b)(l:s.heap.objs.size<=a)
 (new:vg X.prog X.w (upd H a o) h' a o) (r:0<t':=by walk_at "t"):z9 X pins σ (upd H a o) { s with heap:=h',toks:=t' }:=by
 have j:H a=none:=I.hok.fresh l;have lt:∀b J,s.heap.get? b=some J->b≠a:=λb J q=>A9<|AR (s9 q) l;refine I.call' (s':={ s with heap:=h',toks:=t' }) (ch:=fp) rfl ?_ ?_ I.bare λb U=>⟨(g b U).2.2.2.1,(g b U).2.1,(g b U).2.2.2.2.1,(g b U).2.2.2.2.2⟩
 ·exact⟨λb J q _ _ x=>k b J x q,λb J q _ _ x=>⟨J.slots,k b J x q⟩,λb J q n _=>by rw[qu<|lt b J q];exact n,λb J q x=>⟨J,k b J x q⟩,
   λb p q=>by rw[qu<|j5 q j];exact q,λb J u q=>by rw[qu<|j5 q j];exact q,λb t q=>⟨#[],by rw[qu<|j5 q j,q];simp⟩⟩
 ·intro b u e;by_cases U:b=a
  ·subst U;rw[zq] at e;cases e;exact new
  ·rw[qu U] at e;have ok:=oC I (h':=h') (λb U=>(g b U).1) k b u e;exact ok.stay (λ_ _ _ q=>q) (λc q=>by rw[qu<|j5 q j];exact q) λc p q=>by rw[qu<|j5 q j];exact q
end
def F5(K:Af)(a:Addr):It:=
 ⟨λi H=>∃xs x,aO K H a xs/\xs[i]?=some x,λi H v H'=>∃p x,H p=none/\v=.ref p/\H'=upd H p (.tup [.int i,x])/\∀xs,aO K H a xs->xs[i]?=some x,λi H=>∃xs,aO K H a xs/\xs.length<=i⟩
theorem PB{P:Vw}{w:Vx}{K:Af}(a e it:Addr)(l:e≠it):v_ P w K (.Tuple nq x1 tp) (F5 K a) [e,it] e (λi h=>(∃old,IsEnum h e it i old)/\h.IsListIter it a i) where
 mem:=by simp
 obj:=λi h ψ b g=>by
  obtain⟨⟨old,J⟩,U⟩:=ψ
  rcases Aq.mp g with rfl|g
  ·exact⟨_,J,λv z=>by cases z⟩
  ·cases Ak.mp g;obtain⟨o,T,hc,hd⟩:=U;exact⟨o,T,λv z=>by rw[hd] at z;cases z⟩
 keep:=λi h h' ψ k=>(by obtain⟨⟨old,J⟩,U⟩:=ψ;exact ⟨⟨old,k e (by simp) _ J⟩,U.at λo q=>k it (by simp) o q⟩)
 item:=by
  rintro X hP hw hK hc i r s σ H E I t ⟨⟨old,J⟩,U⟩ hg;subst hP hw hK;obtain⟨xs,x,C,hx⟩:=hg;obtain⟨a0,rv,p,hz⟩:=I.list C;obtain⟨u,hu,ru⟩:=rv.get hx;refine wpAny_pyNext_enum_item J U p.isList (x:=u) (by simpa using hu) l λh1 a1 a2 ht a5 hk=>⟨.ref s.heap.objs.size,rfl,wpAny_letOwnedTupleGo_enum a1 λh2 a3 j=>?_⟩;have el:e<s.heap.objs.size:=s9 J;have il:it<s.heap.objs.size:=by obtain⟨o,T,_⟩:=U;exact s9 T
  have kk:∀b o,b∉[e,it]->s.heap.get? b=some o->h2.get? b=some o:=λb o nb q=>by have n1:b≠e:=λz=>nb (by simp[z]);have n2:b≠it:=λz=>nb (by simp[z]);exact j.extBut b o n1<|hk b o n1 n2 q
  have tg:h2.get? s.heap.objs.size=some { cls:=.type "tuple",data:=.seq #[.int i s.toks,u] }:=j.extBut _ _ (Dz el) ht;refine⟨.ref s.heap.objs.size,upd H s.heap.objs.size<|.tup [.int i,x],?_,rfl,⟨_,x,I.hok.fresh<|Al _,rfl,rfl,λys hy=>by rw[I.list_inj hy C];exact hx⟩,⟨⟨_,a3⟩,a2.at λo q=>j.extBut _ _ (A4 l) q⟩,λb g=>?_⟩
  ·exact I.turnedN (t':=s.toks+1) kk t (Al _) ⟨by show 2<=sizeLine;decide,[.int i s.toks,u],.cons ⟨_,rfl⟩<|.cons ru .nil,⟨_,tg,rfl,_,rfl⟩⟩
  ·have a4:b<s.heap.objs.size:=by rcases Aq.mp g with rfl|g;exact el;cases Ak.mp g;exact il
   rw[qu<|A9 a4];exact(t b g).1
 done:=by rintro X hP hw hK hc i r s σ H E I t ⟨⟨old,J⟩,U⟩ hg;subst hP hw hK;obtain⟨xs,C,hx⟩:=hg;obtain⟨a0,rv,p,hz⟩:=I.list C;have hl:=rv.length;exact wpAny_pyNext_enum_end (I.ok.hd hc) J U p.isList (by simp;omega) λh1 eb=>⟨rfl,I.turnedL (t':=s.toks) (fp:=[e,it]) (λb o nb q=>eb b o (λz=>nb (by simp[z])) q) t⟩
 self:=λ_ _ _ _ _ ψ h=>(by obtain⟨⟨_,J⟩,_⟩:=ψ;exact wpAny_pyIter_enum J h)
def PD(K:Af)(ta:TA):TI:=λσ H R=>ta σ H λvs H1=>∃a,vs=[.ref a]/\(∃xs,aO K H1 a xs)/\R (F5 K a) H1
theorem iO:bootBuiltins "enumerate"=some (.type "enumerate"):=by decide +kernel
theorem PH{a:Expr}{ta:TA}{p:Pos}(hg:Gl X "enumerate")(hm:X.mg "enumerate"=none)(ha:PA X [a] ta)(hs:starEach [a] X.env=[(false,eval a X.env)]:=by rfl):
 PI X (.Tuple nq x1 tp) (.Call (.Name "enumerate" p) [a] [] pos) (PD X.K ta):=by
 intro J s r H R I h;refine Call_<|gL I hg hm iO<|CM (aY (ha pos J s r H _ I h) λus U ψ=>?_) hs rfl;obtain⟨vs,t,j,r1,q1⟩:=ψ;obtain⟨l,e,⟨xs,hq⟩,q⟩:=q1;subst e;obtain⟨u,rfl,ru⟩:=sW r1;cases ru;obtain⟨a0,rv,pl,hz⟩:=j.list hq;refine call_enumerate_list pl.isList λC T hi a1 hk=>?_;have I2:z9 X J r t { U with heap:=C }:=j.kept (t':=U.toks) hk;refine wpAny_pyIter_enum (s:={ U with heap:=C }) T ?_;refine⟨U.heap.objs.size+1,[U.heap.objs.size+1,U.heap.objs.size],_,_,t,rfl,I2,PB l _ _<|Nat.succ_ne_self _,⟨⟨_,T⟩,hi⟩,λb o=>?_,q⟩;have g:U.heap.objs.size<=b:=by rcases Aq.mp o with rfl|o;exact Cc _;cases Ak.mp o;exact Al _
 exact j.fpOk g<|j.hok.fresh g
end L2
namespace L3
open PySem L2
theorem jW{a:Addr}{keep:qp->Prop}(h:∀H L,j8 H₀ H->ja G H L->keep L->∃xs,aO G.K H a xs/\v5 G H ys xs):gM G H₀ (F5 G.K a) (ys.zipIdx.map λp=>Y.tup [.int (p.2:Nat),p.1]) keep where
 go:=λi H L t I J o=>by
  obtain⟨xs,sq,r⟩:=h H L t I J;have:i<xs.length:=by rw[<-r.length];simpa using o
  exact⟨xs,xs[i],sq,Ai this⟩
 yld:=λi H L x H' y t I J l ψ=>by obtain⟨p,z,U,C,T,f⟩:=ψ;subst C T;obtain⟨xs,sq,r⟩:=h H L t I J;rw[Am,Dq] at l;obtain⟨⟨y',j⟩,ey,e3⟩:=Ar.mp l;obtain⟨a0,g,e4⟩:=Ar.mp ey;cases e4;subst e3;obtain⟨x',e',rv⟩:=r.get g;have:=f xs sq;rw[e'] at this;cases this;refine⟨EH U,I.skip U,p,_,rfl,cx.of zq,⟨_,_,rfl,?_,_,_,rfl,rv.ts<|EH U,rfl⟩⟩;show V.int _=V.int _;congr 1;simp
 stop:=λH L t I J=>by obtain⟨xs,sq,r⟩:=h H L t I J;exact⟨xs,sq,by rw[Ag,List.length_zipIdx,r.length];exact Al _⟩
def jO(ys:List Y):List Y:=ys.zipIdx.map λp=>Y.tup [.int (p.2:Nat),p.1]
theorem cW(h:(jO ys)[i]?=some y):∃z,ys[i]?=some z/\y=.tup [.int i,z]:=by unfold jO at h;rw[Am,Dq] at h;obtain⟨⟨J,j⟩,U,g⟩:=Ar.mp h;obtain⟨l,I,o⟩:=Ar.mp U;cases o;exact⟨J,I,by rw[<-g];simp⟩
theorem bE(ys:List Y):(jO ys).length=ys.length:=by simp[jO]
def Ig(tl:vt)(τ:jq)(L:qp)(R:List Y->(qp->Prop)->qp->Prop):Prop:=tl τ L λx L1=>match x with
 |.ref a=>nN L1 a λys keep L=>R (jO ys) keep L
 |.sq ys=>R (jO ys) (λ_=>True) L1
 |_=>False
theorem fg{a:Expr}{p:Pos}(hg:Gl X "enumerate")(hm:X.mg "enumerate"=none)(ha:QE X a te)(hs:starEach [a] X.env=[(false,eval a X.env)]:=by rfl)
 (j:starEach [a] X.env=(false,eval a X.env)::starEach [] X.env:=by rfl):QI X (.Tuple nq x1 tp) (.Call (.Name "enumerate" p) [a] [] pos) (Ig te):=PI.imq (PH hg hm (fT ha mQ j) hs) λσ H R τ L R3 rs l z k=>by
 refine⟨τ,L,_,rs,l,z,λv g y o T I U C=>?_⟩;cases y with
 |ref a=>
  obtain⟨ys,keep,es,kp,hk,z2⟩:=mG C;have hy:∀H L,j8 g H->ja X.g3 H L->keep L->∃J,aO X.K H a J/\v5 X.g3 H ys J:=λH L _ l e=>cH l<|hk L e;obtain⟨J,sq,_⟩:=hy g o (EG _) I kp;cases U;exact⟨a,rfl,⟨J,sq⟩,k _ g _ _ o T I (jW hy) z2⟩
 |sq ys=>
  obtain⟨a,J,e,sf,r⟩:=U;subst e;exact⟨a,rfl,⟨J,sf.sq⟩,k _ g _ (λ_=>True) o T I (jW λH L t _ _=>⟨J,(sf.ts t).sq,r.ts t⟩) C⟩
 |_=>exact C.elim
end L3
namespace L2
open PySem PySem.Spec PyProof.Rows
section
variable {w:Vx}
end
section
variable {w:Vx}
end
section
variable {σ:L2.St}
end
end L2
namespace L3
open PySem L2
def yU(xs:List Y)(L:qp)(Q:YK):Prop:=match xs with
 |[x]=>oE L x λys=>∀p,L p=none->Q (.ref p) (qe L p<|.lst ys)
 |_=>False
theorem hJ :xb X (.type "list") (l_ X.g3 yU):=xb.imq re λt H Q C L T U I z k=>by
 unfold yU at z;split at z
 ·rename_i x;obtain⟨u,rfl,g⟩:=U.inv1;obtain⟨zs,j,z⟩:=ce z;obtain⟨p,o,e,sq,r⟩:=ph I g j;subst e;exact⟨p,o,rfl,sq,λl J=>k _ _ _ _ (EH J) (I.newL J r) (by rfl)<|z l<|I.none J⟩
 ·exact z.elim
theorem fJ{T:Vz}{p:Pos}{r:List Y->qp->YK->Prop}(hc:xb X (.type T)<|l_ X.g3 r)(U:Gl X x)(g:X.mg x=none)(j:bootBuiltins x=some (.type T))(h:QA X (e::es) tr)
 (l:x ≠ "__name__" := by decide) (hd:E4 x:=by decide) (hs:EY e es X:=by rfl) (hp:EZ pos es X:=by rfl):
 QE X (.Call (.Name x p) (e::es) [] pos) (l8 r tr):=EI (i9 hc U g j h l hd hs hp) λσ H Q o L t C rl z k=>
 ⟨o,L,_,C,rl,z,λvs H1 ys L1 t1 I J z1=>⟨ys,L1,t,J,I,z1,k.ts t1⟩⟩
def pQ(x:Y)(vs:List Y)(L:qp)(Q:YK):Prop:=match x,vs with
 |.ref a,[.int i]=>dm L a λys=>0<=i/\i<ys.length/\zS L (λv L=>Q v<|qe L a<|.lst<|ys.eraseIdx i.toNat) (ys[i.toNat]?)
 |_,_=>False
theorem PJ :i7 X "list.pop" (i_ X.g3 pQ):=λJ s l H x xs v o Q I p t ψ=>by
 obtain⟨y,ys,L,Q3,C,T,j,z,k⟩:=ψ
 unfold pQ at z;split at z
 ·rename_i a i;obtain⟨zs,e,h0,h1,z⟩:=vf z;obtain⟨ws,U,r⟩:=j a _ e;obtain⟨i',rfl,ri⟩:=T.inv1;cases ri;cases g:zs[i.toNat]? with
  |none=>rw[g] at z;exact z.elim
  |some w=>
   rw[g] at z;obtain⟨u,eu,ru⟩:=r.get g;obtain⟨_,_,_,hz⟩:=I.list<|aO.of U;have hl:=r.length;have hs:sizeLine<2 ^ 62:=by decide
   refine Ol J s l H x _ v o Q I p t ⟨a,ws,i,i.toNat,u,C,rfl,U,by lia,by lia,?_,eu,k _ _ _ _ (ES U) (j.setL U<|r.eraseIdx _) (ru.ts<|ES U) z⟩;unfold seqIndex?;rw[Az (show ¬i<0 by lia),AA (by simp;lia)]
 ·exact z.elim
theorem cN(I:QE X o to)(J:QA X (e::es) tr)(U:attributeBase o "pop" X.env (eval o X.env)=eval o X.env:=by rfl)
 (g:((backTo fm<|starEach (e::es) X.env).all (λx=>!x.1)&&(backToKw fm<|keywordEach [] X.env).all (λx=>x.1.isSome)&&decide ((e::es).length+([]:List Keyword).length+(if ([]:List Keyword).isEmpty=true then 0 else 1)<30))=true:=by rfl)
 (j:(apos.endLine==fm.line)=true:=by rfl) (l:EY e es X:=by rfl) (p:EZ fm es X:=by rfl):
 QE X (.Call (.Attribute o "pop" apos) (e::es) [] fm) (hU pQ to tr):=rG PySem.F.slot_list_pop PySem.F.type_list_pop PJ I J U g j l p
end L3
namespace L2
open PySem PySem.Spec PyProof.Rows
theorem yi(i:Int)(n d:Nat):max 0 (min (if i<0 then i+(n:Int) else i) n)=((HT.sIx n d (some i):Nat):Int):=by
 simp only[HT.sIx];by_cases h:i<0
 ·simp only[h,if_true]<;>lia
 ·simp only[h,if_false]<;>lia
theorem PK(l u:Vr)(n:Nat):Builtin.Str.strSliceIndices l u 1 n=(List.range<|HT.sIx n n u-HT.sIx n 0 l).map (HT.sIx n 0 l+·):=by
 have z:(0:Int)=((HT.sIx n 0 none:Nat):Int):=rfl;have y:(n:Int)=((HT.sIx n n none:Nat):Int):=rfl;unfold Builtin.Str.strSliceIndices;cases l with
 |none=>
  cases u with
  |none=>exact sliceRange_one 0 n
  |some j=>
   show sliceRange 0 (max 0<|min (if j<0 then j+(n:Int) else j) n) 1=_;rw[yi j n n];exact sliceRange_one 0 _
 |some i=>
  cases u with
  |none=>
   show sliceRange (max 0<|min (if i<0 then i+(n:Int) else i) n) n 1=_;rw[yi i n 0];exact sliceRange_one _ n
  |some j=>
   show sliceRange (max 0<|min (if i<0 then i+(n:Int) else i) n) (max 0<|min (if j<0 then j+(n:Int) else j) n) 1=_;rw[yi i n 0,yi j n n];exact sliceRange_one _ _
theorem ox(x:Str)(l u:Vr):(Txt.slice x l u).cps.toList=(x.cps.toList.drop<|HT.sIx x.length 0 l).take (HT.sIx x.length x.length u-HT.sIx x.length 0 l):=by
 have U:x.length=x.cps.toList.length:=by simp[Str.length]
 have I:=pick_run x.cps (HT.sIx x.length 0 l)<|HT.sIx x.length x.length u-HT.sIx x.length 0 l;unfold Txt.slice;rw[PK];split
 ·rename_i h;simp only[beq_self_eq_true,Bool.true_and,Ag,A6,beq_iff_eq] at h;have g:=HT.sIx_le x.length 0 (A8 _) l;have j:=HT.sIx_le x.length x.length (Al _) u;have J:HT.sIx x.length 0 l=0:=by lia
  rw[h,J,DE,AZ (by exact xF)]
 ·show(List.filterMap (λi=>x.cps[i]?) _).toArray.toList=_;rw[List.toList_toArray];exact I
def PL:V->Vr->Vr->Hp->VK->Prop:=λx lo hi H Q=>∃z,x=.str z/\z.length<=sizeLine/\Q (.str<|Txt.slice z lo hi) H
theorem am2:sK X PL:=by
 intro J s σ H x v U g lo j sl Q I o p pl r h;obtain⟨z,rfl,C,q⟩:=h;obtain⟨t,rfl⟩:=o;obtain⟨l,rfl,T⟩:∃l:Option (Int×Tok),U=partValue l/\l.map (·.1)=lo:=by cases pl with|none=>exact⟨none,rfl,rfl⟩|int i t=>exact⟨some (i,t),rfl,rfl⟩
 obtain⟨u,rfl,hu⟩:∃u:Option (Int×Tok),g=partValue u/\u.map (·.1)=j:=by cases r with|none=>exact⟨none,rfl,rfl⟩|int i t=>exact⟨some (i,t),rfl,rfl⟩
 subst T hu;refine⟨"str",_,F.slot_str_getitem.lookup,typeIs_str _ _ _,xn I.tk<|wpAny_getItem_str_slice (l:=l) (u:=u) (st:=none) p rfl ?_⟩;exact post_val_or_str ⟨AO (Txt.slice_le z _ _) C,λt' k ht=>⟨.str _,H,I.tok _,⟨t',rfl⟩,q⟩⟩
theorem vX{zs:Vm}:∀{us:Vj},zn (zs.map V.str) us->StrsAre us zs:=by
 induction zs with
 |nil=>intro us r;rw[Df] at r;cases r;exact .nil
 |cons z zs I=>
  intro us r;rw[AG] at r;cases r with
  |cons J U=>
   obtain⟨t,e⟩:=J;subst e;exact .cons z t<|I U
def PM(K:Af):V->VA->Hp->VK->Prop:=λx vs H Q=>∃z a zs,x=.str z/\vs=[.ref a]/\aO K H a ((zs:Vm).map V.str)/\(zs.map (·.length)).sum+zs.length*z.length<=16777216/\Q (.str<|Txt.join z zs) H
theorem PN:i7 X "str.join" (PM X.K):=by intro J s σ H x vs v us Q I U g h;obtain⟨z,a,zs,rfl,rfl,j,l,q⟩:=h;obtain⟨t,rfl⟩:=U;obtain⟨u,rfl,o⟩:=g.one;cases o;obtain⟨C,r,p,_⟩:=I.list j;exact xn I.tk<|PyProof.Rows.join_list p.isList (by simpa using vX r) l λT k ht=>⟨.str _,H,I.tok _,⟨T,rfl⟩,q⟩
end L2
namespace L3
open PySem L2
def mZ(x:Y)(lo hi:Vr)(L:qp)(Q:YK):Prop:=match x with
 |.str z=>z.length<=sizeLine/\Q (.str<|Txt.slice z lo hi) L
 |x=>HN x lo hi L Q
theorem gB(K:Af)(P:Vw)(w:Vx)(U:X.K=K:=by rfl)(g:X.prog=P:=by rfl)(hw:X.w=w:=by rfl):sK X (Fm ⟨K,P,w⟩ mZ):=by refine sK.imp (am2.or<|Pg K P w U g hw) λx lo l H Q ψ=>?_;obtain⟨y,L,j,I,J,z,k⟩:=ψ;cases y with|str s=>exact .inl ⟨s,I,z.1,k _ H _ L (EG _) J (by rfl) z.2⟩|_=>exact .inr ⟨_,L,j,I,J,z,k⟩
def Ih(r:Y->List Y->qp->YK->Prop)(to:vt)(t:gg)(τ:jq)(L:qp)(Q:YK):Prop:=to τ L λx L1=>match x with
 |.str z=>t τ L1 λxs L2=>r (.str z) xs L2 Q
 |_=>False
theorem PP{id:Vz}{r:Y->List Y->qp->YK->Prop}(h2:Slot "str" name id)(C:typeOf (.builtin id)=pure (.type "method_descriptor"))(T:i7 X id<|i_ X.g3 r)(ho:QE X o to)(ha:QA X (e::es) tr)
 (h4:attributeBase o name X.env (eval o X.env)=eval o X.env:=by rfl)
 (h5:((backTo fm<|starEach (e::es) X.env).all (λx=>!x.1)&&(backToKw fm<|keywordEach [] X.env).all (λx=>x.1.isSome)&&decide ((e::es).length+([]:List Keyword).length+(if ([]:List Keyword).isEmpty=true then 0 else 1)<30))=true:=by rfl)
 (h6:(apos.endLine==fm.line)=true:=by rfl) (h7:EY e es X:=by rfl) (h8:EZ fm es X:=by rfl):
 QE X (.Call (.Attribute o name apos) (e::es) [] fm) (Ih r to tr):=EI (Hu PySem.F.plainAttrs_str h2 C T ho ha h4 h5 h6 h7 h8) λσ H Q l L Q3 p rl z k=>
 ⟨l,L,_,p,rl,z,λv H1 y L1 t I J U=>by
  split at U
  ·rename_i s;cases J;exact⟨rfl,l,L1,_,p.ts t,I,U,λvs H2 ys L2 t2 g j z2=>⟨.str s,ys,L2,Q3,rfl,j,g,z2,k.ts<|t.trans t2⟩⟩
  ·exact U.elim⟩
theorem sV{G:G3}{H:Hp}:∀{zs:Vm} {xs:VA},v5 G H (zs.map Y.str) xs->xs=zs.map V.str
 |[],_,h=>h
 |z::r,_,ψ=>by obtain⟨x,I,e,q,s⟩:=ψ;rw[e,show x=V.str z from q,sV s];rfl
def F6(x:Y)(vs:List Y)(L:qp)(Q:YK):Prop:=match x,vs with
 |.str z,[.ref a]=>dm L a λys=>∃zs,ys=zs.map Y.str/\(zs.map (·.length)).sum+zs.length*z.length<=16777216/\Q (.str<|Txt.join z zs) L
 |_,_=>False
theorem PQ :i7 X "str.join" (i_ X.g3 F6):=i7.imq PN λx p H Q y t L C U g I z k=>by
 unfold F6 at z;split at z
 ·rename_i s a;obtain⟨T,e,j,rfl,l,z⟩:=vf z;obtain⟨ws,J,r⟩:=I a _ e;obtain⟨u,rfl,o⟩:=g.inv1;cases o;rw[sV r] at J;exact⟨s,a,j,U,rfl,aO.of J,l,k _ H _ L (EG _) I (by rfl) z⟩
 ·exact z.elim
theorem PR(I:QE X o to)(J:QA X (e::es) tr)(U:attributeBase o "join" X.env (eval o X.env)=eval o X.env:=by rfl)
 (g:((backTo fm<|starEach (e::es) X.env).all (λx=>!x.1)&&(backToKw fm<|keywordEach [] X.env).all (λx=>x.1.isSome)&&decide ((e::es).length+([]:List Keyword).length+(if ([]:List Keyword).isEmpty=true then 0 else 1)<30))=true:=by rfl)
 (j:(apos.endLine==fm.line)=true:=by rfl) (l:EY e es X:=by rfl) (p:EZ fm es X:=by rfl):
 QE X (.Call (.Attribute o "join" apos) (e::es) [] fm) (Ih F6 to tr):=PP PySem.F.slot_str_join PySem.F.type_str_join PQ I J U g j l p
theorem rY(zs:Vm):(Txt.join "" zs).cps.toList=zs.flatMap λz=>z.cps.toList:=by
 have e:∀zs:Vm,(Str.join "" zs).cps.toList=zs.flatMap λz=>z.cps.toList:=by
  intro zs
  induction zs with
  |nil=>rfl
  |cons z r I=>
   cases r with
   |nil=>simp[Str.join]
   |cons y r=>
    show(z ++ "" ++ Str.join "" (y::r)).cps.toList=_;have:(z ++ "" ++ Str.join "" (y::r)).cps=z.cps++#[]++(Str.join ""<|y::r).cps:=rfl;rw[this];simp only[Bb,I,Bj,Array.append_empty]
 exact(BO (λx:Str=>x.cps.toList)<|StrLaws.glued_eq_join "" zs).trans (e zs)
def uN(t u:k8)(D:xi)(τ:jq)(L:qp):Prop:=∃J:jq->qp->Prop,t { D with nx:=J } τ L/\∀I L',J I L'->u D I L'
theorem xc{rest:Vo}{t u:k8}(h:QS X st t)(k:sJ X rest u):sJ X (st::rest) (uN t u):=kW.imp (sv h k) λD σ H ψ=>by
 obtain⟨l,L,D3,o,p,⟨J,z,q⟩,k⟩:=ψ
 exact ⟨l,L,{ D3 with nx:=J },o,p,z,λr H1 I j C U g T=>⟨I,j,D3,U,g,q I j T,k.ts C⟩,k.rt,k.bk,k.ct⟩
theorem fW{a b:Addr}{o u:LO}(h:a≠b):qe (qe L a o) b u=qe (qe L b u) a o:=by
 funext c;by_cases I:c=a
 ·subst I;rw[qc h,q9,q9]
 ·by_cases J:c=b
  ·subst J;rw[q9,qc I,q9]
  ·rw[qc J,qc I,qc I,qc J]
section
variable {E3:X3}
end
section
variable {cp:Pos}
end
section
variable {a:Expr}{p pt:Pos}{v:V}{vs:VA}
end
open PySem L2 PySem.W
section
variable {K:Frag}{D:Addr}{t c:Vu}{b:Bool}
end
end L3
namespace L2
open PySem PySem.Spec PyProof.Rows
section
variable {a b c:Expr}{ta tb:TE}{op op':CmpOp}{ops:List CmpOp}{r:R2}{u:V->TE}
end
end L2
namespace L3
open PySem L2
section
variable {a b c:Expr}{op op':CmpOp}{ops:List CmpOp}{r:wO}{u:Y->vt}
end
end L3
namespace L2
open PySem PySem.Spec PyProof.Rows
end L2
namespace L3
open PySem L2
def Fn:Y->Option jb
 |.int i=>some<|.inl i
 |.str x=>some<|.inr x
 |_=>none
theorem mh{v:V}{k:jb}(h:Fn y=some k)(r:RV G H y v):v=kV k:=by cases y with|int i=>cases h;exact r|str x=>cases h;exact r|_=>cases h
def kR(kvs:List<|jb×Y)(k:jb)(y:Y):List (jb×Y):=
 if (kvs.any λI=>decide<|I.1=k)=true then kvs.map (λI=>if I.1=k then(I.1,y) else I) else kvs++[(k,y)]
theorem j8.dct{p:Addr}{zs:List<|jb×V}{o:HO}(h:H p=some (.dK zs)):j8 H (upd H p o):=λa u i q=>by rw[qu ?_];exact q;rintro rfl;rw[h] at q;cases q;cases i
theorem PU{xs:List<|jb×V}(p:Paired (λ(p:jb×Y) (q:jb×V)=>p.1=q.1/\RV G H p.2 q.2) kvs xs)(k:jb):(kvs.any λI=>decide<|I.1=k)=xs.any λI=>decide (I.1=k):=by induction p with|nil=>rfl|cons r t J=>rw[Cq,Cq,J,r.1]
theorem PV{xs:List<|jb×V}{v:V}(p:Paired (λ(p:jb×Y) (q:jb×V)=>p.1=q.1/\RV G H p.2 q.2) kvs xs)(k:jb)(r:RV G H y v):
 Paired (λ(p:jb×Y) (q:jb×V)=>p.1=q.1/\RV G H p.2 q.2) (kvs.map λI=>if I.1=k then(I.1,y) else I) (xs.map λI=>if I.1=k then(I.1,v) else I):=by
 induction p with
 |nil=>exact .nil
 |@cons a b _ _ J t U=>
  refine .cons ?_ U;obtain⟨e,q⟩:=J;dsimp only;by_cases c:a.1=k
  ·rw[AA c,AA<|e▸c];exact⟨e,r⟩
  ·rw[Az c,Az λz=>c<|e.trans z];exact⟨e,q⟩
theorem PX{xs:List<|jb×V}{v:V}(p:Paired (λ(p:jb×Y) (q:jb×V)=>p.1=q.1/\RV G H p.2 q.2) kvs xs)(k:jb)(r:RV G H y v):
 Paired (λ(p:jb×Y) (q:jb×V)=>p.1=q.1/\RV G H p.2 q.2) (kvs++[(k,y)]) (xs++[(k,v)]):=by
 induction p with|nil=>exact .cons ⟨rfl,r⟩ .nil|cons I t J=>exact .cons I J
theorem PY{xs:List<|jb×V}{v:V}(p:Paired (λ(p:jb×Y) (q:jb×V)=>p.1=q.1/\RV G H p.2 q.2) kvs xs)(k:jb)(r:RV G H y v):
 Paired (λ(p:jb×Y) (q:jb×V)=>p.1=q.1/\RV G H p.2 q.2) (kR kvs k y) (dy xs k v):=by
 unfold kR dy;rw[PU p k];by_cases c:(xs.any λI=>decide<|I.1=k)=true
 ·rw[AA c,AA c];exact PV p k r
 ·rw[Az c,Az c];exact PX p k r
theorem sk{R:α->β->Prop}{l:List α}{m:List β}(p:Paired R l m):l.length=m.length:=by induction p with|nil=>rfl|cons _ _ I=>rw[AK,AK,I]
def Ii(_:jq)(L:qp)(Q:YK):Prop:=∀p,L p=none->Q (.ref p) (qe L p<|.dct [])
def PZ(td ti:vt)(τ:jq)(L:qp)(Q:YK):Prop:=td τ L λx L1=>ti τ L1 λy L2=>match x,Fn y with
 |.ref a,some k=>uR L2 a λkvs=>zS L2 Q<|kj kvs k
 |_,_=>False
def Ij(td ti tv:vt)(D:xi)(τ:jq)(L:qp):Prop:=tv τ L λv L1=>td τ L1 λx L2=>ti τ L2 λy L3=>match x,Fn y with
 |.ref a,some k=>uR L3 a λkvs=>kvs.length<sizeLine/\D.nx τ (qe L3 a<|.dct<|kR kvs k v)
 |_,_=>False
section
variable {i:Expr}{td ti tv:vt}
theorem lW:QE X (.Dict [] [] pos) Ii:=EI NE λU H Q g L j l J z k=>λp I=>by
 refine k _ _ _ (qe L p<|.dct []) (EH I) (λa u e=>?_) (by rfl)<|z p<|J.none I;by_cases c:a=p
 ·subst c;rw[q9] at e;cases e;exact⟨[],zq,.nil⟩
 ·rw[qc c] at e;exact(J a u e).keep (EH I) (qu c)
theorem dY(hu:X.A.units+128<cLine)(t:QE X o td)(hi:QE X i ti)(hs:FO i):QE X (.Subscript o i pos) (PZ td ti):=EI (NB (by omega) t hi hs) λσ H Q l L Q3 p C z k=>
 ⟨l,L,_,p,C,z,λv H1 x T r J U z1=>⟨l,T,_,p.ts r,J,z1,λw H2 y L2 t2 I g j=>by
  split at j
  ·rename_i a kk ek;obtain⟨a0,e,z3⟩:=iQ j;obtain⟨yv,ev,q⟩:=pU z3;obtain⟨xs,e2,pr⟩:=I a _ e;obtain⟨xv,ex,rx⟩:=om pr ev;exact⟨a,xv,U,.inl ⟨xs,kk,.inl e2,mh ek g,ex.symm⟩,k _ H2 _ L2 (r.trans t2) I rx q⟩
  ·exact j.elim⟩⟩
theorem bq(hu:X.A.units+128<cLine)(ho:QE X o td)(hi:QE X i ti)(hv:QE X value tv)(hs:swapsWith value (some<|.Subscript o i hQ) pos.line X.env=pure false:=by rfl):QS X (.Assign [.Subscript o i hQ] value pos) (Ij td ti tv):=
 EM (NC (by omega) ho hi hv hs) λD σ H l L D3 J rl z k=>
 ⟨l,L,_,J,rl,z,λv H1 vy L1 U p r z1=>⟨l,L1,_,J.ts U,p,z1,λx H2 xy L2 g t C z2=>⟨l,L2,_,J.ts<|U.trans g,t,z2,λw H3 y L3 T I a0 z3=>by
  split at z3
  ·rename_i a kk ek;obtain⟨a1,e,hl,q⟩:=iQ z3;obtain⟨xs,e2,pr⟩:=I a _ e;have j:j8 H3 (upd H3 a<|.dK<|dy xs kk v):=j8.dct e2;cases (show x=V.ref a from C);refine⟨a,_,rfl,.inl ⟨xs,kk,e2,mh ek a0,by rw[<-sk pr];exact hl,rfl⟩,?_⟩;refine k.nx _ _ _ _ (((U.trans g).trans T).trans j) (J.ts<|((U.trans g).trans T).trans j) (λb u eb=>?_) q;by_cases c:b=a
   ·subst c;rw[q9] at eb;cases eb;exact⟨_,zq,EJ (PY pr kk<|r.ts<|g.trans T) λ_ _ ψ=>(by obtain⟨h1,h2⟩:=ψ;exact ⟨h1,h2.ts j⟩)⟩
   ·rw[qc c] at eb;exact(I b u eb).keep j (qu c)
  ·exact z3.elim⟩⟩⟩
end
def uT(to ti tv:vt)(D:xi)(τ:jq)(L:qp):Prop:=tv τ L λv L1=>to τ L1 λx L2=>ti τ L2 λy L3=>match x,y with
 |.ref a,.int i=>dm L3 a λys=>zS L3 (λj L=>D.nx τ<|qe L a<|.lst<|ys.set j v)<|f_ ys.length i
 |_,_=>False
section
variable {i:Expr}{ti tv:vt}
theorem lF(ho:QE X o to)(hi:QE X i ti)(hv:QE X value tv)
 (ha:∀v,assign (.Subscript o i hQ) X.env v=(do
  let J <-holding [v] (eval o X.env)
  let p <-holding [v,J] (eval i X.env)
  standAt hQ
  holding [v,J,p] (setItem J p v)
  release [v,J,p] []):=by intro _;rfl)
 (h1:swapsWithSole [.Subscript o i hQ] value pos.line X.env=pure false:=by rfl) (h2:swappedStores [.Subscript o i hQ] value X.env=pure none:=by rfl)
 (h3:(assignEach [.Subscript o i hQ] X.env).map (·.2)=[assign (.Subscript o i hQ) X.env]:=by rfl):QS X (.Assign [.Subscript o i hQ] value pos) (uT to ti tv):=
 EM (G' hv (Mp ho hi N5 ha) h1 h2 h3) λD σ H t L D3 U rl z k=>
 ⟨t,L,_,U,rl,z,λv H1 vy L1 g C T z1=>⟨t,L1,_,U.ts g,C,z1,λx H2 xy L2 l a0 a1 z2=>⟨t,L2,_,U.ts<|g.trans l,a0,z2,λw H3 y L3 t3 I a2 z3=>by
  split at z3
  ·rename_i a ii;obtain⟨ys,e,z4⟩:=vf z3;obtain⟨j,ej,q⟩:=pU z4;obtain⟨xs,e2,r⟩:=I a _ e;cases (show x=V.ref a from a1);cases (show w=V.int ii from a2);have tt:j8 H3 (upd H3 a<|.lst<|xs.set j v):=ES e2;exact⟨a,xs,ii,j,rfl,rfl,e2,by rw[<-r.length];exact ej,k.nx _ _ _ _ (((g.trans l).trans t3).trans tt) (U.ts<|((g.trans l).trans t3).trans tt) (I.setL e2<|v5.setY (T.ts<|l.trans t3) j r) q⟩
  ·exact z3.elim⟩⟩⟩
end
end L3
namespace L2
open PySem PySem.Spec PyProof.Rows
section
variable {v₁ v₂:Expr}{te:TE}{u:Str->TE}
end
end L2
namespace L3
open PySem L2
section
variable {v₁ v₂:Expr}{u:Str->vt}
end
@[irreducible] def vH (L:qp) (a:Addr) (k:Addr->List (Str×Y)->Prop):Prop:=match L a with
 |some (.ins C fs)=>k C fs
 |_=>False
theorem w4{a:Addr}{fs:List<|Str×Y}{k:Addr->List (Str×Y)->Prop}(e:L a=some (.ins C fs))(h:k C fs):vH L a k:=by unfold vH;rw[e];exact h
theorem mP{a:Addr}{k:Addr->List (Str×Y)->Prop}(h:vH L a k):∃C fs,L a=some (.ins C fs)/\k C fs:=by
 unfold vH at h;split at h
 ·rename_i C fs e;exact⟨C,fs,e,h⟩
 ·exact h.elim
abbrev Fo(G:G3)(H:Hp):List (Str×Y)->List (Str×V)->Prop:=Paired λ(p:Str×Y) (q:Str×V)=>p.1=q.1/\RV G H p.2 q.2
theorem P0{fs:List<|Str×Y}{xs:List<|Str×V}(p:Fo G H fs xs){f:Str}(h:fs.lookup f=some y):∃v,xs.lookup f=some v/\RV G H y v:=by
 induction p with
 |nil=>cases h
 |@cons a b _ _ r t J=>
  obtain⟨I,j⟩:=a;obtain⟨U,g⟩:=b;obtain⟨e,r⟩:=r;cases (show I=U from e);rw[Bk] at h ⊢;cases c:(f==I) with
  |true=>rw[c] at h;cases h;exact⟨g,rfl,r⟩
  |false=>rw[c] at h;exact J h
theorem P1{fs:List<|Str×Y}{xs:List<|Str×V}(p:Fo G H fs xs){f:Str}(h:fs.lookup f=none):xs.lookup f=none:=by
 induction p with
 |nil=>rfl
 |@cons a b _ _ r t J=>
  obtain⟨I,g⟩:=a;obtain⟨U,j⟩:=b;obtain⟨e,r⟩:=r;cases (show I=U from e);rw[Bk] at h ⊢;cases c:(f==I) with
  |true=>rw[c] at h;cases h
  |false=>rw[c] at h;exact J h
def y0(f:Str)(y:Y):List (Str×Y)->List (Str×Y)
 |[]=>[(f,y)]
 |(g,x)::r=>if g=f then(g,y)::r else(g,x)::y0 f y r
theorem P2{fs:List<|Str×Y}{xs:List<|Str×V}(p:Fo G H fs xs)(f:Str){v:V}(r:RV G H y v):Fo G H (y0 f y fs) (dC f v xs):=by
 induction p with
 |nil=>exact .cons ⟨rfl,r⟩ .nil
 |@cons a b _ _ J t U=>
  obtain⟨I,j⟩:=a;obtain⟨g,l⟩:=b;obtain⟨e,q⟩:=J;cases (show I=g from e);unfold y0 dC;by_cases c:I=f
  ·rw[AA c,AA c];exact .cons ⟨rfl,r⟩ t
  ·rw[Az c,Az c];exact .cons ⟨rfl,q⟩ U
theorem j8.ins{p:Addr}{zs:List<|Str×V}{o:HO}(h:H p=some (.ins C dx zs)):j8 H (upd H p o):=λa u i q=>by rw[qu ?_];exact q;rintro rfl;rw[h] at q;cases q;cases i
def vT(K:Af)(f:Str)(te:vt)(τ:jq)(L:qp)(Q:YK):Prop:=te τ L λx L1=>match x with
 |.ref a=>vH L1 a λC fs=>Cls K C/\NoAttr K C f/\zS L1 Q (fs.lookup f)
 |_=>False
def Ik(K:Af)(f:Str)(to tv:vt)(D:xi)(τ:jq)(L:qp):Prop:=tv τ L λv L1=>to τ L1 λx L2=>match x with
 |.ref a=>vH L2 a λC fs=>Cls K C/\NoAttr K C f/\fs.length<1000/\D.nx τ (qe L2 a<|.ins C<|y0 f v fs)
 |_=>False
def F7(C:Addr)(sp:zd)(t:gg)(τ:jq)(L:qp)(Q:YK):Prop:=t τ L λys L1=>∀x,L1 x=none->sp (.ref x::ys) (qe L1 x<|.ins C []) λv L2=>v=.non/\Q (.ref x) L2
section
variable {tv:vt}{p:Pos}{f m:Str}{g:Addr}
theorem ip(h:QE X e te)(j:attributeBase e f X.env (eval e X.env)=eval e X.env:=by rfl):QE X (.Attribute e f pos) (vT X.K f te):=EI (Nf h j) λσ H Q l L Q3 o p z k=>
 ⟨l,L,_,o,p,z,λv r y t T I J U=>by
  split at U
  ·rename_i a;obtain⟨C,fs,e,c,n,z2⟩:=mP U;obtain⟨y,ey,q⟩:=pU z2;obtain⟨dx,xs,e2,pr⟩:=I a _ e;obtain⟨w,ew,g⟩:=P0 pr ey;exact⟨a,C,dx,xs,w,J,e2,c,n,ew,k _ r _ t T I g q⟩
  ·exact U.elim⟩
theorem P4(ho:QE X o to)(hv:QE X value tv)(hs:swapsWith value (some<|.Attribute o f hQ) pos.line X.env=pure false:=by rfl):QS X (.Assign [.Attribute o f hQ] value pos) (Ik X.K f to tv):=EM (Ng ho hv hs) λD σ H τ L D3 U rl z k=>
 ⟨τ,L,_,U,rl,z,λv H1 vy L1 g j l z1=>⟨τ,L1,_,U.ts g,j,z1,λw H2 y L2 p I r t=>by
  split at t
  ·rename_i a;obtain⟨C,fs,e,c,n,hl,q⟩:=mP t;obtain⟨T,xs,e2,pr⟩:=I a _ e;have J:j8 H2 (upd H2 a<|.ins C T<|dC f v xs):=j8.ins e2;refine⟨a,C,T,xs,r,e2,c,n,by rw[<-sk pr];exact hl,k.nx _ _ _ _ ((g.trans p).trans J) (U.ts<|(g.trans p).trans J) (λb u eb=>?_) q⟩;by_cases cc:b=a
   ·subst cc;rw[q9] at eb;cases eb;exact⟨T,_,zq,EJ (P2 pr f<|l.ts p) λ_ _ ψ=>(by obtain⟨h1,h2⟩:=ψ;exact ⟨h1,h2.ts J⟩)⟩
   ·rw[qc cc] at eb;exact(I b u eb).keep J (qu cc)
  ·exact t.elim⟩⟩
theorem P5{k:Nat}(M:Mk X.K C g)(F:Fn3 X.prog X.w X.K X.mg X.base k g fd ps sp)(hr:km (k+1) X.A)(hg:Gl X x)(hm:X.mg x=some (.ref C))(hb:aR X.K fd ps [])(ha:QA X (e::es) tr)
 (l:E4 x:=by decide) (he:EY e es X:=by rfl) (o:EZ pos es X:=by rfl):
 QE X (.Call (.Name x p) (e::es) [] pos) (F7 C sp tr):=EI (Nt M F hr hg hm hb .nil FQ ha l he o) λσ H Q τ L Q3 rs rl z k=>
 ⟨τ,L,_,rs,rl,z,λvs U ys L1 t1 I r z1=>λx J hx j ne=>by
  have ta:j8 U (upd U J<|.own x):=EH j;have t:upd U J (.own x) x=none:=by rw[qu<|A4 ne];exact hx
  have T:j8 U (upd (upd U J<|.own x) x<|.ins C J []):=ta.trans<|EH t;refine⟨.ref x::ys,qe L1 x<|.ins C [],_,⟨.ref x,vs++[],by simp,rfl,by rw[Aw];exact r.ts T⟩,λb u eb=>?_,z1 x<|I.none hx,λv H2 y L2 t2 a0 a1 ⟨ev,q⟩=>?_⟩
  ·by_cases cc:b=x
   ·subst cc;rw[q9] at eb;cases eb;exact⟨J,[],zq,.nil⟩
   ·rw[qc cc] at eb;have nd:b≠J:=λz=>by obtain⟨w,ew⟩:=(I b u eb).ex;rw[z,j] at ew;cases ew
    exact(I b u eb).keep T (by rw[qu cc,qu nd])
  ·subst ev;exact⟨a1,k _ H2 _ L2 (t1.trans<|T.trans t2) a0 (by rfl) q⟩⟩
end
open PySem.AutoSeq1 (wpAny_loadPart')
open MeetsSeq MeetsSeq2 MeetsSeq3 SeqRoads2
end L3
namespace Txs
open PySem PySem.Builtin.Str
theorem len_list(x:Str):x.cps.toList.length=x.length:=by simp[Str.length]
end Txs
namespace L2
open PySem PySem.Spec PyProof.Rows
section
variable {isp imk c j1 j2:Nat}{sp mk:Str}{u:Tok}{m:Vg}{p6 p7 p8 p9 p10:Pos}{Q:Flow->Vv->Prop}
end
end L2
namespace L2
open PySem PySem.Spec PyProof.Rows
end L2
namespace L3
open PySem L2
def lB(s:Stmt):Vo:=match s with
 |.ClassDef _ _ _ b _ _ _ _ _ _ _=>b
 |_=>[]
structure ab9(P:Vw)(w:Vx)(K:Af)(mg:Vg)(base:Vy)(k:Nat)(C:Addr)(m:Str)(ps:Vm)(sp:zd):Prop where
 ex:∃g fd,Ek K C m g/\Fn3 P w K mg base k g fd ps sp/\aR K fd ps []
structure af4(P:Vw)(w:Vx)(K:Af)(mg:Vg)(base:Vy)(k:Nat)(C:Addr)(ps:Vm)(sp:zd):Prop where
 ex:∃g fd,Mk K C g/\(∃j,k=j+1/\Fn3 P w K mg base j g fd ps sp)/\aR K fd ps []
theorem ab9.mono{P:Vw}{w:Vx}{K:Af}{k:Nat}{m:Str}(c:ab9 P w K mg base j C m ps sp)(h:j<=k):ab9 P w K mg base k C m ps sp:=by obtain⟨g,fd,M,F,b⟩:=c.ex;exact⟨g,fd,M,F.mono h,b⟩
theorem af4.mono{P:Vw}{w:Vx}{K:Af}{k:Nat}(c:af4 P w K mg base j C ps sp)(h:j<=k):af4 P w K mg base k C ps sp:=by obtain⟨g,fd,M,⟨i,e,F⟩,b⟩:=c.ex;subst e;exact⟨g,fd,M,⟨k-1,by omega,F.mono (by omega)⟩,b⟩
section
variable {p:Pos}{m:Str}{k:Nat}
theorem P6(ci:af4 X.prog X.w X.K X.mg X.base k C ps sp)(U:km k X.A)(l:Gl X x)(o:X.mg x=some (.ref C))(r:QA X (e::es) tr)
 (I:E4 x:=by decide) (t:EY e es X:=by rfl) (J:EZ pos es X:=by rfl):
 QE X (.Call (.Name x p) (e::es) [] pos) (F7 C sp tr):=by
 obtain⟨g,fd,M,⟨j,T,F⟩,b⟩:=ci.ex;subst T;exact P5 M F U l o b r I t J
end
structure dX(K:Af)(C:Addr)(x eA:Str)(st:Stmt):Prop where
 ex:∃(f:Addr) (kV ir pm:Vu) (an:Option Addr) (eK ct:Vu),PySem.W.findIn K (.ref C) x=some (some<|.ref f)/\PySem.W.isFn K (.ref f)=true/\Fun K x eA st f (PySem.W.fnOf x eA (xm st) (j9 st) (qt st) .none kV ir pm an eK ct)
theorem meth_in{K:Af}{kV ct:Vu}(a:PySem.W.findIn K (.ref C) x=some (some<|.ref f))
 (l:K.lookup f=some ⟨oc,od,.func<|PySem.W.fnOf x eA (xm st) (j9 st) (qt st) .none kV ir pm an eK ct,oe⟩) (c:PySem.W.codeIn K eK eA=true) (k:PySem.W.keepIn K (.ref f)=true) (i:PySem.W.isFn K (.ref f)=true):dX K C x eA st:=
 ⟨f,kV,ir,pm,an,eK,ct,a,i,Hv (st:=st) l c k⟩
theorem dX.use{K:Af}(D:dX K C x eA st)
 (I:∀(kV ir pm:Vu) (an:Option Addr) (eK ct:Vu) (us:Vj),us.length=ps.length->bindArgs (PySem.W.fnOf x eA (xm st) (j9 st) (qt st) .none kV ir pm an eK ct) ⟨us,[]⟩=pure (ps.zip us)):
 ∃f fd,Fun K x eA st f fd/\aR K fd ps []/\Ek K C x f:=by
 obtain⟨f,kV,ir,pm,an,eK,ct,a,i,F⟩:=D.ex;exact⟨f,_,F,aR.all<|I kV ir pm an eK ct,⟨a,i,F.kp⟩⟩
end L3
namespace L2
open PySem PySem.Spec PyProof.Rows
section
variable {te:TE}
end
end L2
namespace L3
open PySem L2
end L3
namespace L2
open PySem PySem.Spec PyProof.Rows
section
variable {a T:Addr}{tr:Option Addr}
end
section
variable {T:Vm}{g:TG}{tc:TT}{te:TE}
end
section
variable {a b T:Addr}{tr:Option Addr}{E1:X1}
end
section
variable {k:Nat}{sp:Sp}{E1:X1}{p:Pos}{t:TA}
end
end L2
namespace L3
open PySem L2
section
variable {T:Vm}{c:Expr}{wi:o_}{E3:X3}{Ea:Addr->qp->Prop}
end
end L3
namespace L2
open PySem PySem.Spec PyProof.Rows
end L2
namespace L2
open PySem PySem.Spec PyProof.Rows
section
variable {w:Vx}
theorem uY{it t:Addr}{eH:Vk}(I:t≠it):∀(n i:Nat) (s:Vv) (Q:Vj->Vv->Prop),s.heap.IsListIter it t i->s.heap.IsList t eH->i+n<=eH.size->
 (∀h',h'.IsListIter it t (i+n)->Heap.SameBut it s.heap h'->Q ((eH.toList.drop i).take n) { s with heap:=h' })->wpAny (model prog w) A (draw (.ref it) n) Q E s
 |0,i,s,Q,hit,_,_,g=>by unfold draw;exact An (by simpa using g s.heap hit (Heap.SameBut.refl ..))
 |n+1,i,s,Q,hit,p,r,g=>by
  have J:i<eH.size:=by omega
  unfold draw;refine Ab<|wpAny_pyNext_list_item hit p (x:=eH[i]) (by simp[J]) λg1 j U=>?_;refine Ab<|Ba<|uY I n (i+1) _ _ j (p.extBut U.extBut I) (by lia) λg2 l o=>An ?_;have e:eH.toList.drop i=eH[i]::eH.toList.drop (i+1):=by simp[CW,J]
  have q:=g g2 (by rw[show i+(n+1)=i+1+n by simp +arith only];exact l)
   (U.trans o)
  rw[e,List.take_succ_cons] at q;exact q
theorem P7{t:Addr}{eH:Vk}{Q:Vf}(T:A.handled=none)(I:s.heap.IsList t eH)(hn:(assignEach nq env).length=eH.size)(j:(assignEach nq env).findIdx? (·.1)=none)
 (h:∀g,Heap.ExtBut s.heap.objs.size s.heap g->wpAny (model prog w) A (assignInOrder ((assignEach nq env).map (·.2)) eH.toList) Q E { s with heap:=g }):wpAny (model prog w) A (assign (.Tuple nq x1 pos) env<|.ref t) Q E s:=by
 have J:t≠s.heap.objs.size:=by obtain⟨o,ho,_⟩:=I;exact A9<|s9 ho
 rw[arm_assign_Tuple];refine Ab<|wpAny_standAt ?_;unfold unpack;rw[hn,j];refine Ab<|Ba ?_;unfold unpackItems notIterableAtAll;refine Ab<|Ab<|wpAny_specialOf I.typeIs slot_list_iter.lookup ?_;refine An ?_;rw[Az (by simp)];refine Ab<|Ba<|wpAny_pyIter_list I ?_;refine Ab<|Ba<|uY J eH.size 0 _ _ ⟨_,vb _ rfl,rfl,rfl⟩ (I.push _) (by simp +arith only) λg1 l U=>?_;have all:List.take eH.size (List.drop 0 eH.toList)=eH.toList:=by rw[DE];exact AZ (by simp)
 rw[all,Az (by simp)];have p:g1.IsList t eH:=(I.push _).extBut U.extBut J;refine Ab<|Ba<|wpAny_pyNext_list_end T l p (by simp) λg2 r=>?_;rw[Az (by simp)];exact An<|h g2 λb o C e=>r b o C<|U.extBut b o C<|sy _ e
end
def P8(K:Af)(n:Nat)(t:e_):TG:=λv σ H Q=>∃a xs,v=.ref a/\aO K H a xs/\xs.length=n/\t xs σ H Q
theorem P9{k:Nat}{t:e_}(hc:X.calm=true)(h:PGs X es t)
 (l:(assignEach es X.env).length=n:=by rfl) (U:(assignEach es X.env).findIdx? (·.1)=none:=by rfl):PG X (.Tuple es k pos) (P8 X.K n t):=by
 intro J s g H v u Q I r hw;obtain⟨a,p,C,T,hl,hw⟩:=hw;subst C;cases r;obtain⟨a0,j,pl,hz⟩:=I.list T;have ht:=jd pl;refine P7 (I.ok.hd hc) ht (by simp[l,<-hl,j.length]) U λh' hx=>?_;have I1:z9 X J g H { s with heap:=h' }:=I.kept (t':=s.toks) λb o e=>hx b o (A9<|s9 e) e;exact h J _ g H p _ Q I1 (by simpa using j) hw
theorem P_(l:Addr)(eH:Vk)(n:Nat)(x:Vu)(b:Nat->Bool)(j:Nat)(C:j<eH.size)(hit:b j=true)(hz:eH.size<=sizeLine):∀(k i:Nat),j-i=k->i<=j->(∀m,i<=m->m<j->b m=false)->
 Meets (Builtin.«list.remove.loop» ⟨[.ref l,x,rawInt i],[]⟩) (λA R s=>s.heap.get? l=some { cls:=.type "list",dict:=none,data:=.seq eH n,slots:=#[] }/\(∀m (hm:m<eH.size),SeqAt.EqAt A.in1 s eH[m] x<|b m)/\R (.ok<|.ret .none) { s with heap:=s.heap.update l (Obj.mapSeq λxs=>xs.eraseIdxIfInBounds j) }):=by
 intro k
 induction k with
 |zero=>
  intro i T p J I w A R s h;obtain⟨hp,g,d,tk,os⟩:=s;obtain⟨U,eq,h⟩:=h;have e:i=j:=by lia
  subst e
  (wp_walk using wpAny_loadPart' U)
  have r:eH[((i:Nat):Int).toNat]?=some eH[i]:=by simp[C]
  rw[r];refine Ab<|eq i C I w _ _ ?_;rw[hit];have t:(eH.eraseIdxIfInBounds i).size<=sizeLine+1:=AO (MeetsSeq.size_erased eH _)<|B4 hz
  (wp_walk using (wpAny_updateSeq U rfl (hz:=hz) (_hz':=t)),wpAny_loadPart' U)
  simpa using h
 |succ k ih=>
  intro i T p J I w A R s h;obtain⟨hp,g,d,tk,os⟩:=s;obtain⟨U,eq,h⟩:=h;have o:i<eH.size:=by exact jM
  (wp_walk using wpAny_loadPart' U)
  have r:eH[((i:Nat):Int).toNat]?=some eH[i]:=by simp[o]
  have hc:((i:Int)+1)=((i+1:Nat):Int):=by rfl
  rw[r];refine Ab<|eq i o I w _ _ ?_;rw[J i (Al _) (by omega)]
  wp_walk
  rw[hc];refine⟨plainId_quiet wh _,codeAny_builtin MeetsSeq.entry_remove_loop ?_⟩;rw[Around.under_plainId wh _];exact ih (i+1) (by omega) (by omega) (λm h1 h2=>J m (by exact jE) h2) I w A R _ ⟨U,eq,h⟩
theorem P'(l:Addr)(eH:Vk)(n:Nat)(x:Vu)(b:Nat->Bool)(j:Nat)(o:j<eH.size)(hit:b j=true)(hz:eH.size<=sizeLine)(J:∀m,m<j->b m=false):
 Meets (Builtin.«list.remove» ⟨[.ref l,x],[]⟩) (λA R s=>s.heap.get? l=some { cls:=.type "list",dict:=none,data:=.seq eH n,slots:=#[] }/\(∀m (r:m<eH.size),SeqAt.EqAt A.in1 s eH[m] x<|b m)/\R (.ok<|.ret .none) { s with heap:=s.heap.update l (Obj.mapSeq λxs=>xs.eraseIdxIfInBounds j) }):=by
 intro I w A R s h;obtain⟨t,g,d,C,os⟩:=s;obtain⟨U,eq,h⟩:=h
 (wp_walk using wpAny_loadPart' U)
 refine⟨plainId_quiet wh _,codeAny_builtin MeetsSeq.entry_remove_loop ?_⟩;rw[Around.under_plainId wh _];exact P_ l eH n x b j o hit hz _ 0 rfl (A8 _) (λm _ p=>J m p) I w A R _ ⟨U,eq,h⟩
theorem zn.eraseN:∀{xs:VA} {us:Vj} (n:Nat),zn xs us->zn (xs.eraseIdx n) (us.eraseIdx n)
 |[],_,n,.nil=>by simp;exact .nil
 |_::_,_,0,.cons _ t=>t
 |_::_,_,n+1,.cons r t=>.cons r<|zn.eraseN n t
def Qa(X:Cx):V->VA->Hp->VK->Prop:=λx vs H Q=>∃l xs y ds e,∃n m j:Nat,x=.ref l/\vs=[y]/\H l=some (.lst xs)/\n<=126/\Paired (ko X.K H n) xs ds/\ko X.K H m y e/\j<ds.length/\(∃d,ds[j]?=some d/\Da.eq d e=true)/\
 (∀(k:Nat) d,k<j->ds[k]?=some d->Da.eq d e=false)/\Q .non (upd H l<|.lst<|xs.eraseIdx j)
theorem yu(hu:X.A.units+128<cLine):i7 X "list.remove" (Qa X):=by
 intro a4 s σ H x vs v us Q I rx rv h;obtain⟨l,o,y,g,e,n,m,j,rfl,rfl,hH,hn,pd,ry,hj,⟨dj,t,C⟩,T,q⟩:=h;cases rx;obtain⟨u,rfl,ru⟩:=rv.one;obtain⟨z,J,nn,r,hl,eo⟩:=I.lstM hH;have l1:o.length=g.length:=pd.length;have l2:J.length=o.length:=r.length.symm;obtain⟨arr,U⟩:∃arr:Vk,arr=J.toArray:=⟨_,rfl⟩;have a0:arr.size=J.length:=by rw[U,Au]
 have b:Nat->Bool:=λ_=>true;have a1:arr.size<=sizeLine:=by rw[a0];lia
 have M:=P' l arr nn u (λk=>((g[k]?).map λd=>Da.eq d e).getD false) j (by lia) (by show((g[j]?).map λd=>Da.eq d e).getD false=true;rw[t];exact C) a1 (λk p=>by show((g[k]?).map λd=>Da.eq d e).getD false=false;cases ek:g[k]? with|none=>rfl|some d=>exact T k d p ek)
 rw[U] at M;refine call_meets F.slot_list_remove ⟨_,eo,rfl⟩ F.entry_list_remove (F.args_list_remove_2 _ _) M ⟨eo,λk p=>?_,?_⟩
 ·have a5:k<J.length:=by rw[Au] at p;exact p
  obtain⟨d,ed,rd⟩:=Words.Paired.getP pd<|Ai (by lia:k<o.length);show SeqAt.EqAt _ s _ u (((g[k]?).map λd=>Da.eq d e).getD false);rw[ed];obtain⟨u',a2,a3⟩:=Words.Paired.getP r<|Ai (by lia:k<o.length);have eg:J.toArray[k]=u':=by have:=(AL.mp a2).2;simpa using this
  rw[eg];exact lu I n (by show X.A.units+1+n<cLine;lia) rd ry a3 ru
 ·refine⟨.non,_,I.lset (its':=J.eraseIdx j) hH eo ?_ (r.eraseN j) ?_,rfl,q⟩
  ·have:j<J.length:=by lia
   simp[Array.eraseIdxIfInBounds,this]
  ·have:=C9 o j;exact FR
end L2
namespace L3
open PySem L2
def Il(n:Nat)(t:uI)(y:Y)(τ:jq)(L:qp)(Q:jq->qp->Prop):Prop:=match y with
 |.ref a=>dm L a λys=>match ys.length==n with
  |true=>t ys τ L Q
  |false=>False
 |_=>False
theorem Qb{U:Nat}(hc:X.calm=true)(h:E7 X es gs)(h1:(assignEach es X.env).length=n:=by rfl)(h2:(assignEach es X.env).findIdx? (·.1)=none:=by rfl):QG X (.Tuple es U pos) (Il n gs):=
 PG.imp (P9 hc h h1 h2) λv σ H Q ψ=>by
 obtain⟨y,g,L,j,l,o,J,z,k⟩:=ψ
 cases y with
 |ref a=>
  cases (show v=.ref a from l);obtain⟨p,e,I⟩:=vf z;obtain⟨t,C,r⟩:=J a _ e;split at I
  ·rename_i T;exact⟨a,t,rfl,aO.of C,by rw[<-r.length];exact beq_iff_eq.mp T,p,g,L,j,r,o,J,I,k⟩
  ·exact I.elim
 |_=>exact z.elim
def lJ(x:Y)(vs:List Y)(L:qp)(Q:YK):Prop:=match x,vs with
 |.ref a,[v]=>dm L a λys=>∃ds e,∃n m j:Nat,n<=126/\Paired (jz L n) ys ds/\jz L m v e/\j<ds.length/\(∃d,ds[j]?=some d/\Da.eq d e=true)/\(∀(k:Nat) d,k<j->ds[k]?=some d->Da.eq d e=false)/\Q .non (qe L a<|.lst<|ys.eraseIdx j)
 |_,_=>False
theorem Qc(C:X.A.units+128<cLine):i7 X "list.remove" (i_ X.g3 lJ):=i7.imq (yu C) λx I H Q y U L Q3 T r2 g z k=>by
 unfold lJ at z;split at z
 ·rename_i a v;obtain⟨zs,e,J,de,n,m,j,hn,pd,dv,hj,hit,l,z⟩:=vf z;obtain⟨us,o,r⟩:=g a _ e;obtain⟨v',rfl,rv⟩:=r2.inv1;have both:∀{U:List Y} {J:List Da} {I:VA},Paired (jz L n) U J->v5 X.g3 H U I->Paired (ko X.K H n) I J:=by
   intro U J I p
   induction p generalizing I with
   |nil=>intro q;cases (show I=[] from q);exact .nil
   |cons h t ih=>
    rintro⟨x,a0,rfl,q1,q2⟩;exact .cons (jz.rep g h q1)<|ih q2
  exact⟨a,us,v',J,de,n,m,j,T,rfl,o,hn,both pd r,jz.rep g dv rv,hj,hit,l,k _ _ _ _ (ES o) (g.setL o<|r.eraseIdx j) (by rfl) z⟩
 ·exact z.elim
theorem Qd(I:X.A.units+128<cLine)(J:QE X o to)(U:QA X (e::es) tr)(g:attributeBase o "remove" X.env (eval o X.env)=eval o X.env:=by rfl)
 (j:((backTo fm<|starEach (e::es) X.env).all (λx=>!x.1)&&(backToKw fm<|keywordEach [] X.env).all (λx=>x.1.isSome)&&decide ((e::es).length+([]:List Keyword).length+(if ([]:List Keyword).isEmpty=true then 0 else 1)<30))=true:=by rfl)
 (l:(apos.endLine==fm.line)=true:=by rfl) (p:EY e es X:=by rfl) (r:EZ fm es X:=by rfl):
 QE X (.Call (.Attribute o "remove" apos) (e::es) [] fm) (hU lJ to tr):=rG PySem.F.slot_list_remove PySem.F.type_list_remove (Qc I) J U g j l p r
end L3
namespace L2
open PySem PySem.Spec PyProof.Rows
end L2
namespace L2
open PySem PySem.Spec PyProof.Rows
def Qe:VA->Hp->VK->Prop:=λxs H Q=>∃n:Int,xs=[.int n]/\∀p,H p=none->Q (.ref p) (upd H p<|.rng 0 n)
theorem Qf:xb X (.type "range") Qe:=by intro J s g H j l Q I r h;obtain⟨n,rfl,q⟩:=h;obtain⟨u,rfl,U⟩:=r.one;obtain⟨t,rfl⟩:=(show ∃t,u=Value.int n t from U);refine call_range_1 ?_;refine⟨.ref s.heap.objs.size,_,I.laid (t':=s.toks+1+1) (o:=.rng 0 n) (λb p q=>sy _ q) (Al _) ?_,rfl,q _<|I.hok.fresh<|Al _⟩;exact⟨s.toks,t,s.toks+1,vb _ rfl⟩
theorem wI{I:Vk}(h:ItemsOf (λi v=>∃t,v=.int (0+(i:Int)*1) t) I n):zn ((List.range n).map λi:Nat=>V.int<|0+(i:Int)) I.toList:=by
 have len:I.toList.length=n:=by rw[A5];exact h.1
 have key:∀(l:Vj) (k:Nat),(∀(j:Nat) v,l[j]?=some v->∃t,v=Value.int (0+((k+j:Nat):Int)*1) t)->zn ((List.range' k l.length).map λi:Nat=>V.int<|0+(i:Int)) l:=by
  intro l
  induction l with
  |nil=>intro k _;exact .nil
  |cons v r g=>
   intro k U;rw[AK,Ef,AG];obtain⟨t,e⟩:=U 0 v rfl;refine .cons ?_<|g (k+1) λj o J=>?_
   ·exact⟨t,by rw[e];simp⟩
   ·have:=U (j+1) o J;rw[show k+1+j=k+(j+1) by simp +arith only];exact this
 have:=key I.toList 0 λj v J=>by rw[DA];exact h.2 j v (by simpa using J)
 rw[len,<-List.range_eq_range'] at this;exact this
def Qg:VA->Hp->VK->Prop:=λxs H Q=>∃a,∃n:Nat,xs=[.ref a]/\H a=some (.rng 0 n)/\n<=100000/\∀p,H p=none->Q (.ref p) (upd H p<|.lst ((List.range n).map λi:Nat=>V.int<|0+(i:Int)))
theorem Qh(hc:X.calm=true):xb X (.type "list") Qg:=by
 intro g s σ H xs us Q I r h;obtain⟨a,n,rfl,j,l,q⟩:=h;obtain⟨u,rfl,p⟩:=r.one;cases (show u=Value.ref a from p);obtain⟨t,u,v,e⟩:=I.hok a _ j;have hb:(100000:Nat)<=sizeLine:=by decide
 have C:Builtin.Range.rangeSize 0 (n:Int) 1=((n:Nat):Int):=by rw[rangeSize_one];split<;>lia
 refine xn I.tk<|call_list_range (I.ok.hd hc) (show IsRange s.heap a 0 (n:Int) 1 t u v from e) (small_one (by decide) (by decide) (by exact AN _) (by omega)) C (AO l (by decide)) λh' T U c hk hS J ht=>?_;refine⟨.ref s.heap.objs.size,_,I.laid (t':=T) (o:=.lst ((List.range n).map λi:Nat=>V.int<|0+(i:Int))) hk (Al _) ?_,rfl,q _<|I.hok.fresh<|Al _⟩;refine⟨by rw[Ag,A6];exact FR,U.toList,c,wI J,?_⟩;rw[hS]
end L2
namespace L3
open PySem L2
theorem Qi:bootBuiltins "range"=some (.type "range"):=by decide +kernel
def nS(te:vt)(τ:jq)(L:qp)(Q:YK):Prop:=te τ L λy L1=>match y with
 |.int n=>(0<=n/\n<=100000)/\∀p,L1 p=none->Q (.ref p) (qe L1 p<|.lst<|aQ 0 n.toNat)
 |_=>False
theorem Qj(n:Nat):v5 G H (aQ 0 n) ((List.range n).map λi:Nat=>V.int<|0+(i:Int)):=by
 unfold aQ;generalize List.range n=l
 induction l with|nil=>rfl|cons k r I=>exact⟨_,_,rfl,rfl,I⟩
theorem mM{p I:Pos}(hc:X.calm=true)(T:Gl X "list")(hm:X.mg "list"=none)(j:Gl X "range")(l:X.mg "range"=none)(h:QE X e te)
 (h1:starEach [.Call (.Name "range" p2) [e] [] I] X.env=(false,eval (.Call (.Name "range" p2) [e] [] I) X.env)::starEach [] X.env:=by rfl) (h2:(backTo pos<|starEach [] X.env).any (·.1)=false:=by rfl)
 (C:starEach [e] X.env=(false,eval e X.env)::starEach [] X.env:=by rfl) (h4:(backTo I<|starEach [] X.env).any (·.1)=false:=by rfl):
 QE X (.Call (.Name "list" p) [.Call (.Name "range" p2) [e] [] I] [] pos) (nS te):=
 EI (i9 (Qh hc) T hm dI (fT (i9 Qf j l Qi (fT h mQ C) (by decide) (by decide) C h4) mQ h1) (by decide) (by decide) h1 h2) λσ H Q τ L Q3 rs rl z k=>
 ⟨τ,L,_,rs,rl,z,λv H1 y L1 t1 J o U=>by
  cases y with
  |int n=>
   obtain⟨⟨h0,h5⟩,U⟩:=U;cases (show v=V.int n from o);obtain⟨m,rfl⟩:∃m:Nat,n=(m:Int):=⟨n.toNat,by lia⟩;refine⟨_,rfl,λq r=>⟨q,m,rfl,zq,by lia,λp g=>?_⟩⟩;have t:H1 p=none:=by
    by_cases c:p=q
    ·subst c;exact r
    ·rw[qu c] at g;exact g
   exact k _ _ _ _ (t1.trans<|(EH r).trans<|EH g) ((J.skip r).newL g<|Qj m) (by rfl) (U p<|J.none t)
  |_=>exact U.elim⟩
def gt(C:Addr)(m:Str)(sp:zd)(to:vt)(t:gg)(τ:jq)(L:qp)(Q:YK):Prop:=to τ L λx L1=>match x with
 |.ref a=>vH L1 a λI fs=>I=C/\fs.lookup m=none/\t τ L1 λys L2=>sp (.ref a::ys) L2 Q
 |_=>False
section
variable {m:Str}{g:Addr}
theorem Qk{pl:Sem Bool}{k:Nat}(ho:QE X o to)(c:Cls X.K C)(hm:Ek X.K C m g)(F:Fn3 X.prog X.w X.K X.mg X.base k g fd ps sp)(hr:km k X.A)(hb:aR X.K fd ps [])(ha:QA X (e::es) tr)
 (J:EY e es X:=by rfl) (U:EZ pos es X:=by rfl)
 (ht:eval (.Call (.Attribute o m apos) (e::es) [] pos) X.env=(do
  let t <-eval o X.env
  standAt apos.atName
  let (f,first) <-holding [t] (getMethod t m pl)
  callWith pos f first (backTo pos<|starEach (e::es) X.env) (backToKw pos<|keywordEach [] X.env)):=by rfl):
 QE X (.Call (.Attribute o m apos) (e::es) [] pos) (gt C m sp to tr):=EU (Nq (pl:=pl) ho c hm F hr hb .nil FQ ha J U ht) λσ H Q ⟨T,L,Q3,rs,rl,z,k⟩=>
 ⟨T,L,_,rs,rl,z,λv H1 y L1 t1 I j l=>by
  split at l
  ·rename_i a;obtain⟨C',fs,e,ec,n,q⟩:=mP l;subst ec;obtain⟨dx,xs,e2,pr⟩:=I a _ e;cases (show v=V.ref a from j);exact⟨a,dx,xs,rfl,e2,P1 pr n,T,L1,_,rs.ts t1,I,q,λvs H2 ys L2 t2 p r z2=>⟨.ref a::ys,L2,Q3,⟨.ref a,vs++[],rfl,rfl,by rw[Aw];exact r⟩,p,z2,k.ts<|t1.trans t2⟩⟩
  ·exact l.elim⟩
theorem vP{pl:Sem Bool}{k:Nat}(j:ab9 X.prog X.w X.K X.mg X.base k C m ps sp)(l:km k X.A)(c:Cls X.K C)(p:QE X o to)(r:QA X (e::es) tr)
 (I:EY e es X:=by rfl) (J:EZ pos es X:=by rfl)
 (t:eval (.Call (.Attribute o m apos) (e::es) [] pos) X.env=(do
  let U <-eval o X.env
  standAt apos.atName
  let (f,first) <-holding [U] (getMethod U m pl)
  callWith pos f first (backTo pos<|starEach (e::es) X.env) (backToKw pos<|keywordEach [] X.env)):=by rfl):
 QE X (.Call (.Attribute o m apos) (e::es) [] pos) (gt C m sp to tr):=by
 obtain⟨g,fd,M,F,b⟩:=j.ex;exact Qk (pl:=pl) p c M F l b r I J t
end
end L3
namespace TS
open PySem PyProof.Rows
abbrev VL:=Keyed->Int
abbrev VJ:=Array Keyed
abbrev VI:=List Keyed
def Ql:Bool->Keyed->VJ->Nat->Nat->Nat->StateT SortSt Sem (Option Nat):=sortPriv% PySem.Builtin.gallop
section
variable {w:Vx}
structure Ord(prog:Vw)(w:Vx)(A:Around)(s:Vv)(κ:SortKind)(Ok:Keyed->Prop)(f:VL):Prop where
 lt:∀x y,Ok x->Ok y->∀{E:Ve} {Q:Bool->Vv->Prop},Q (decide<|f x<f y) s->wpAny (model prog w) A (keyLt' κ x.1 y.1) Q E s
variable {κ:SortKind}{Ok:Keyed->Prop}{f:VL}
theorem w_lt(O:Ord prog w A s κ Ok f){st:SortSt}{x y:Keyed}{Q:Option Bool->SortSt->Prop}(I:kindOf st=κ)(J:Ok x)(U:Ok y)(h:Q (some<|decide<|f x<f y) st):wpS (model prog w) A E s (lt' x y) Q st:=by rw[lt'_eq];refine Ac<|wpS_get ?_;rw[I];refine Ac<|wpS_lift<|wpAny_attempt<|O.lt x y J U ⟨rfl,?_⟩;exact Ad h
theorem xw{arr:VJ}{x:Keyed}{st:SortSt}{Q:Keyed->SortSt->Prop}(h:arr[i]?=some x)(q:Q x st):wpS (model prog w) A E s (elem' arr i) Q st:=by rw[elem'_eq,h];exact Ad q
def Im(left:Bool)(key:Keyed)(arr:VJ)(i:Nat):StateT SortSt Sem (Option Bool):=elem' arr i >>= λx=>if left=true then lt' x key else lt' key x >>= λr=>pure<|r.map λb=>!b
theorem Qm(O:Ord prog w A s κ Ok f){left:Bool}{key x:Keyed}{arr:VJ}{st:SortSt}{Q:Option Bool->SortSt->Prop}(J:kindOf st=κ)(I:Ok key)(U:Ok x)(hi:arr[i]?=some x)
 (q:Q (some<|if left=true then decide (f x<f key) else !decide (f key<f x)) st):wpS (model prog w) A E s (Im left key arr i) Q st:=by
 refine Ac<|xw hi ?_;cases left with|true=>exact w_lt O J U I q|false=>exact Ac<|w_lt O J I U<|Ad q
theorem cT(O:Ord prog w A s κ Ok f){left:Bool}{key:Keyed}{arr:VJ}{base hint:Nat}{st:SortSt}{Q:Option Nat->SortSt->Prop}(hk:kindOf st=κ)(a2:Ok key)(hh:hint<n)
 (it:Nat->Keyed) (hit:∀i,i<n->arr[base+i]?=some (it i)/\Ok (it i)) (o:Nat->Bool) (a3:∀i,i<n->o i=if left=true then decide (f (it i)<f key) else !decide (f key<f (it i)))
 (mono:∀i j,i<=j->j<n->o j=true->o i=true)
 (q:∀k,k<=n->(∀i,i<k->o i=true)->(∀i,k<=i->i<n->o i=false)->Q (some k) st):wpS (model prog w) A E s (Ql left key arr base n hint) Q st:=by
 have go:∀i,i<n->∀Q':Option Bool->SortSt->Prop,Q' (some<|o i) st->wpS (model prog w) A E s (Im left key arr<|base+i) Q' st:=λi U Q' h=>Qm O hk a2 (hit i U).2 (hit i U).1 (by rw[<-a3 i U];exact h);refine Ac<|go hint hh _ ?_;dsimp only;cases hb:o hint with
 |true=>
  rw[AA rfl];refine Ac (AY (AQ (I:=λx c g=>g=st/\∃l J,c=(none,l,J)/\l<J/\l<n-hint/\o (hint+l)=true/\x+1<=J)
   (Q:=λc g=>g=st/\∃l J,c=(none,l,J)/\l<J/\l<n-hint/\o (hint+l)=true/\(n-hint<=J\/o (hint+J)=false)) ?_ ?_ ⟨rfl,0,1,rfl,by exact BB _,by omega,hb,by exact BB _⟩) ?_)
  ·rintro x c g _ hx ⟨rfl,l,J,rfl,h1,h2,r,t⟩;dsimp only;by_cases c:J>=n-hint
   ·rw[AA c];exact Ad ⟨rfl,l,J,rfl,h1,h2,r,.inl c⟩
   ·rw[Az c];refine Ac<|go (hint+J) (by lia) _ ?_;dsimp only;cases C:o (hint+J) with
    |true=>
     rw[Az (by simp)];exact Ad ⟨rfl,J,2*J+1,rfl,by simp +arith only,by exact Hz,C,by lia⟩
    |false=>
     rw[AA (by simp)];exact Ad ⟨rfl,l,J,rfl,h1,h2,r,.inr C⟩
  ·rintro c g ⟨rfl,l,J,rfl,h1,h2,r,t⟩;exact⟨rfl,l,J,rfl,h1,h2,r,.inl (by lia)⟩
  ·rintro c g ⟨rfl,l,J,rfl,h1,h2,r,t⟩;dsimp only;obtain⟨lo,a0⟩:∃lo,lo=hint+l+1:=⟨_,rfl⟩;obtain⟨U,a1⟩:∃U,U=hint+min J (n-hint):=⟨_,rfl⟩;rw[<-a0,<-a1];have g1:lo<=U:=by omega
   have g2:U<=n:=by lia
   have g3:∀i,i<lo->o i=true:=λi U=>mono i (hint+l) (by lia) (by lia) r;have g4:∀i,U<=i->i<n->o i=false:=λi h5 h6=>by
    rcases t with t|t
    ·omega
    ·cases e:o i with
     |false=>rfl
     |true=>
      by_cases c:J<n-hint
      ·rw[mono (hint+J) i (by omega) h6 e] at t;cases t
      ·omega
   refine Ac (AY (AQ (I:=λx c sx=>sx=g/\∃lo U,c=(none,lo,U)/\lo<=U/\U<=n/\(∀i,i<lo->o i=true)/\(∀i,U<=i->i<n->o i=false)/\U-lo+x<=n)
    (Q:=λc sx=>sx=g/\∃U,c=(none,U,U)/\U<=n/\(∀i,i<U->o i=true)/\(∀i,U<=i->i<n->o i=false)) ?_ ?_ ⟨rfl,lo,U,rfl,g1,g2,g3,g4,by exact HB⟩) ?_)
   ·rintro x c p _ hx ⟨rfl,lo,U,rfl,k1,T,k3,k4,k5⟩;dsimp only;by_cases c:lo>=U
    ·rw[AA c];have:lo=U:=by lia
     subst this;exact Ad ⟨rfl,lo,rfl,T,k3,k4⟩
    ·rw[Az c];refine Ac<|go (lo+(U-lo) / 2) (by lia) _ ?_;dsimp only;cases C:o (lo+(U-lo) / 2) with
     |true=>
      rw[AA rfl];exact Ad ⟨rfl,lo+(U-lo) / 2+1,U,rfl,by lia,T,λi h5=>mono i _ (by exact HA) (by lia) C,k4,by lia⟩
     |false=>
      rw[Az (by simp)];refine Ad ⟨rfl,lo,lo+(U-lo) / 2,rfl,by exact Bg _ _,by lia,k3,λi h5 h6=>?_,by omega⟩;cases e:o i with|false=>rfl|true=>rw[mono _ i h5 h6 e] at C;cases C
   ·rintro c p ⟨rfl,lo,U,rfl,k1,T,k3,k4,k5⟩;have:lo=U:=by lia
    subst this;exact⟨rfl,lo,rfl,T,k3,k4⟩
   ·rintro c p ⟨rfl,U,rfl,T,k3,k4⟩;exact Ad<|q U T k3 k4
 |false=>
  rw[Az (by simp)];refine Ac (AY (AQ (I:=λx c g=>g=st/\∃l J,c=(none,l,J)/\l<J/\l<hint+1/\o (hint-l)=false/\x+1<=J)
   (Q:=λc g=>g=st/\∃l J,c=(none,l,J)/\l<J/\l<hint+1/\o (hint-l)=false/\(hint+1<=J\/o (hint-J)=true)) ?_ ?_ ⟨rfl,0,1,rfl,by lia,by exact BV _,hb,by lia⟩) ?_)
  ·rintro x c g _ hx ⟨rfl,l,J,rfl,h1,h2,r,t⟩;dsimp only;by_cases c:J>=hint+1
   ·rw[AA c];exact Ad ⟨rfl,l,J,rfl,h1,h2,r,.inl c⟩
   ·rw[Az c];refine Ac<|go (hint-J) (by exact qF) _ ?_;dsimp only;cases C:o (hint-J) with
    |true=>
     rw[AA rfl];exact Ad ⟨rfl,l,J,rfl,h1,h2,r,.inr C⟩
    |false=>
     rw[Az (by simp)];exact Ad ⟨rfl,J,2*J+1,rfl,by lia,by exact Hz,C,by lia⟩
  ·rintro c g ⟨rfl,l,J,rfl,h1,h2,r,t⟩;exact⟨rfl,l,J,rfl,h1,h2,r,.inl (by exact rQ)⟩
  ·rintro c g ⟨rfl,l,J,rfl,h1,h2,r,t⟩;dsimp only;obtain⟨lo,a0⟩:∃lo,lo=hint+1-min J (hint+1):=⟨_,rfl⟩;obtain⟨U,a1⟩:∃U,U=hint-l:=⟨_,rfl⟩;rw[<-a0,<-a1];have g1:lo<=U:=by omega
   have g2:U<=n:=by omega
   have g3:∀i,i<lo->o i=true:=λi h5=>by
    rcases t with t|t
    ·omega
    ·exact mono i (hint-J) (by omega) (by exact qF) t
   have g4:∀i,U<=i->i<n->o i=false:=λi h5 h6=>by cases e:o i with|false=>rfl|true=>rw[mono (hint-l) i (by lia) h6 e] at r;cases r
   refine Ac (AY (AQ (I:=λx c sx=>sx=g/\∃lo U,c=(none,lo,U)/\lo<=U/\U<=n/\(∀i,i<lo->o i=true)/\(∀i,U<=i->i<n->o i=false)/\U-lo+x<=n)
    (Q:=λc sx=>sx=g/\∃U,c=(none,U,U)/\U<=n/\(∀i,i<U->o i=true)/\(∀i,U<=i->i<n->o i=false)) ?_ ?_ ⟨rfl,lo,U,rfl,g1,g2,g3,g4,by exact HB⟩) ?_)
   ·rintro x c p _ hx ⟨rfl,lo,U,rfl,k1,T,k3,k4,k5⟩;dsimp only;by_cases c:lo>=U
    ·rw[AA c];have:lo=U:=by lia
     subst this;exact Ad ⟨rfl,lo,rfl,T,k3,k4⟩
    ·rw[Az c];refine Ac<|go (lo+(U-lo) / 2) (by lia) _ ?_;dsimp only;cases C:o (lo+(U-lo) / 2) with
     |true=>
      rw[AA rfl];exact Ad ⟨rfl,lo+(U-lo) / 2+1,U,rfl,by lia,T,λi h5=>mono i _ (by lia) (by lia) C,k4,by lia⟩
     |false=>
      rw[Az (by simp)];refine Ad ⟨rfl,lo,lo+(U-lo) / 2,rfl,by lia,by lia,k3,λi h5 h6=>?_,by lia⟩;cases e:o i with|false=>rfl|true=>rw[mono _ i h5 h6 e] at C;cases C
   ·rintro c p ⟨rfl,lo,U,rfl,k1,T,k3,k4,k5⟩;have:lo=U:=by lia
    subst this;exact⟨rfl,lo,rfl,T,k3,k4⟩
   ·rintro c p ⟨rfl,U,rfl,T,k3,k4⟩;exact Ad<|q U T k3 k4
end
def Qn:VJ->VJ->StateT SortSt Sem (VJ):=sortPriv% PySem.Builtin.mergeLo
def Qo:VJ->VJ->StateT SortSt Sem (VJ):=sortPriv% PySem.Builtin.mergeHi
structure MI(f:VL)(la lb fx ra rb:VI):Prop where
 perm:(fx++(ra++rb)).Perm (la++lb)
 so:fx.Pairwise λx y=>f x<=f y
 sa:ra.Pairwise λx y=>f x<=f y
 sb:rb.Pairwise λx y=>f x<=f y
 oa:∀x∈fx,∀y∈ra,f x<=f y
 ob:∀x∈fx,∀y∈rb,f x<=f y
theorem MI.a{f:VL}{g j fx seg l U:VI}(h:MI f g j fx (seg++l) U)(hs:∀x∈seg,∀y∈U,f x<=f y):MI f g j (fx++seg) l U:=by
 have sa:=AU.mp h.sa;refine⟨?_,AU.mpr ⟨h.so,sa.1,λx I y J=>h.oa x I y<|Ap _ J⟩,sa.2.1,h.sb,λx I y J=>?_,λx I y J=>?_⟩
 ·have:=h.perm;rw[Ay] at this ⊢;exact this
 ·rcases Aj.mp I with I|I
  ·exact h.oa x I y<|Ah _ J
  ·exact sa.2.2 x I y J
 ·rcases Aj.mp I with I|I
  ·exact h.ob x I y J
  ·exact hs x I y J
theorem MI.b{f:VL}{l o fx seg U g:VI}(h:MI f l o fx U<|seg++g)(hs:∀x∈seg,∀y∈U,f x<=f y):MI f l o (fx++seg) U g:=by
 have j:=AU.mp h.sb;refine⟨?_,AU.mpr ⟨h.so,j.1,λx I y J=>h.ob x I y<|Ap _ J⟩,h.sa,j.2.1,λx I y J=>?_,λx I y J=>?_⟩
 ·refine List.Perm.trans ?_ h.perm;rw[Ay];exact(BG fx).mpr (by rw[<-Ay,<-Ay];exact(BE g).mpr Bw)
 ·rcases Aj.mp I with I|I
  ·exact h.oa x I y J
  ·exact hs x I y J
 ·rcases Aj.mp I with I|I
  ·exact h.ob x I y<|Ah _ J
  ·exact j.2.2 x I y J
def w9(f:VL)(I J r:VI):Prop:=r.Perm (I++J)/\r.Pairwise λx y=>f x<=f y
theorem MI.ea{f:VL}{I J fx U:VI}(h:MI f I J fx U []):w9 f I J (fx++U):=⟨by have:=h.perm;rwa[Aw] at this,AU.mpr ⟨h.so,h.sa,h.oa⟩⟩
theorem MI.eb{f:VL}{g j fx J U:VI}(h:MI f g j fx J U)(hs:∀x∈U,∀y∈J,f x<=f y):w9 f g j (fx++U++J):=by
 refine⟨List.Perm.trans ?_ h.perm,?_⟩
 ·rw[Ay];exact(BG fx).mpr Bw
 ·rw[Ay];refine AU.mpr ⟨h.so,AU.mpr ⟨h.sb,h.sa,hs⟩,λx l y I=>?_⟩;rcases Aj.mp I with I|I
  ·exact h.ob x l y I
  ·exact h.oa x l y I
structure MP(f:VL)(a b fx:VJ)(ia ib:Nat):Prop where
 mi:MI f a.toList b.toList fx.toList (a.toList.drop ia) (b.toList.drop ib)
 sz:fx.size=ia+ib
 la:ia<=a.size
 lb:ib<=b.size
theorem Io(a:VJ)(h:i<a.size):a.toList.drop i=a[i]::a.toList.drop (i+1):=by rw[CW (by simpa using h)];simp
theorem iF(a:VJ)(i j:Nat):(a.extract i j).toList=(a.toList.drop i).take (j-i):=by rw[Array.toList_extract,List.extract_eq_drop_take]
theorem Ip(l:VI)(i k:Nat):(l.drop i).take k++l.drop (i+k)=l.drop i:=by rw[<-List.drop_drop,Be]
theorem qY{a:VJ}{k:Nat}{x:Keyed}(h:x∈(a.toList.drop i).take k):∃j,∃I:i+j<a.size,j<k/\a[i+j]=x:=by
 obtain⟨j,I,e⟩:=BK h;rw[AM,BC] at I;have J:i+j<a.size:=by have:a.toList.length=a.size:=A5;omega
 refine⟨j,J,by omega,?_⟩;rw[<-e];simp
theorem gw{a:VJ}{x:Keyed}(h:x∈a.toList.drop i):∃j,∃I:j<a.size,i<=j/\a[j]=x:=by
 obtain⟨j,I,e⟩:=BK h;rw[BC] at I;have J:i+j<a.size:=by have:a.toList.length=a.size:=A5;omega
 refine⟨i+j,J,by exact Bg _ _,?_⟩;rw[<-e];simp
theorem d_{f:VL}{a:VJ}(s:a.toList.Pairwise λx y=>f x<=f y)(I:i<=j)(J:j<a.size):f (a[i]'(by exact jM))<=f a[j]:=by
 rcases DF I with h|h
 ·have:=CY.mp s i j (by simpa using (by exact jM:i<a.size)) (by simpa using J) h;simpa using this
 ·subst h;exact Dc _
section
variable {f:VL}{a b fx:VJ}{ia ib:Nat}
theorem MP.segA(M:MP f a b fx ia ib){k:Nat}(J:ia+k<=a.size)(h:∀i (hi:ia+i<a.size),i<k->∀j (I:j<b.size),ib<=j->f a[ia+i]<=f b[j]):MP f a b (fx++a.extract ia (ia+k)) (ia+k) ib:=by
 refine⟨?_,?_,J,M.lb⟩
 ·rw[Bb,iF,show ia+k-ia=k by omega];refine MI.a (by rw[Ip];exact M.mi) λx U y g=>?_;obtain⟨i,hi,l,rfl⟩:=qY U;obtain⟨j,I,o,rfl⟩:=gw g;exact h i hi l j I o
 ·rw[B5,C5,M.sz];lia
theorem MP.segB(M:MP f a b fx ia ib){k:Nat}(J:ib+k<=b.size)(h:∀i (hi:ib+i<b.size),i<k->∀j (I:j<a.size),ia<=j->f b[ib+i]<=f a[j]):MP f a b (fx++b.extract ib (ib+k)) ia (ib+k):=by
 refine⟨?_,?_,M.la,J⟩
 ·rw[Bb,iF,show ib+k-ib=k by lia];refine MI.b (by rw[Ip];exact M.mi) λx U y g=>?_;obtain⟨i,hi,l,rfl⟩:=qY U;obtain⟨j,I,o,rfl⟩:=gw g;exact h i hi l j I o
 ·rw[B5,C5,M.sz];lia
theorem MP.oneA(M:MP f a b fx ia ib)(hi:ia<a.size)(h:∀j (I:j<b.size),ib<=j->f a[ia]<=f b[j]):MP f a b (fx.push a[ia]) (ia+1) ib:=by refine⟨?_,by rw[Bu,M.sz];simp +arith only,hi,M.lb⟩;rw[Dg];refine MI.a (seg:=[a[ia]]) (by rw[CK,<-Io a hi];exact M.mi) λx J y U=>?_;obtain⟨j,I,g,rfl⟩:=gw U;rw[Ak.mp J];exact h j I g
theorem MP.oneB(M:MP f a b fx ia ib)(hi:ib<b.size)(h:∀j (I:j<a.size),ia<=j->f b[ib]<=f a[j]):MP f a b (fx.push b[ib]) ia (ib+1):=by refine⟨?_,by rw[Bu,M.sz];exact Nat.add_assoc _ _ _,M.la,hi⟩;rw[Dg];refine MI.b (seg:=[b[ib]]) (by rw[CK,<-Io b hi];exact M.mi) λx J y U=>?_;obtain⟨j,I,g,rfl⟩:=gw U;rw[Ak.mp J];exact h j I g
theorem MP.done(M:MP f a b fx ia ib)(h:ib=b.size):w9 f a.toList b.toList (fx++a.extract ia++b.extract ib).toList:=by have e:b.toList.drop ib=[]:=List.drop_eq_nil_of_le (by rw[A5];lia);have m:=M.mi;rw[e] at m;have:=m.ea;rw[Bb,Bb,iF,iF,e,List.take_nil,Aw,AZ (by simp)];exact this
theorem MP.last(M:MP f a b fx ia ib)(h:ia+1=a.size)(I:∀x∈b.toList,f x<f (a[a.size-1]'(by omega))):w9 f a.toList b.toList (fx++b.extract ib++a.extract ia).toList:=by
 have:=M.mi.eb λx J y U=>by
  obtain⟨j,g,l,rfl⟩:=gw U;have e:j=a.size-1:=by omega
  subst e;exact BQ<|I x<|CP J
 rw[Bb,Bb,iF,iF,AZ (by simp),AZ (by simp)];exact this
end
section
variable {w:Vx}{κ:SortKind}{Ok:Keyed->Prop}{f:VL}
abbrev gi(st:SortSt)(g:Nat):SortSt:=SortSt.mk' (kindOf st) (arrOf st) (pendingOf st) g<|failedOf st
theorem u7{c:Prop}{_:Decidable c}{K:β->StateT SortSt Sem α}{y:β}{Q:α->SortSt->Prop}{st:SortSt}(key:∀z,wpS (model prog w) A E s (K z) Q st):∀x,wpS (model prog w) A E s (if c then K x else K y) Q st:=λx=>by
 by_cases h:c
 ·rw[AA h];exact key x
 ·rw[Az h];exact key y
theorem lU{I:Type}{c:Prop}{_:Decidable c}{K T:β->I->StateT SortSt Sem α}{P:β->I->Prop}{x:β}{i:I}{Q:α->SortSt->Prop}{st:SortSt}(key:∀o j,P o j->wpS (model prog w) A E s (K o j) Q st)(J:¬c->P x i)
 (hp:c->(∀o j,P o j->wpS (model prog w) A E s (K o j) Q st)->wpS (model prog w) A E s (T x i) Q st):∀o,x=o->∀j,i=j->wpS (model prog w) A E s (if c then T o j else K o j) Q st:=by
 rintro _ rfl _ rfl;by_cases h:c
 ·rw[AA h];exact hp h key
 ·rw[Az h];exact key x i<|J h
theorem xx{c:Prop} [Decidable c]{x y:StateT SortSt Sem α}{Q:α->SortSt->Prop}{st:SortSt}(h:c)(k:wpS M A E s x Q st):wpS M A E s (if c then x else y) Q st:=by rw[AA h];exact k
theorem x6{c:Prop} [Decidable c]{x y:StateT SortSt Sem α}{Q:α->SortSt->Prop}{st:SortSt}(h:¬c)(k:wpS M A E s y Q st):wpS M A E s (if c then x else y) Q st:=by rw[Az h];exact k
theorem fY{c:Prop} [Decidable c]{x y:StateT SortSt Sem α}{Q:α->SortSt->Prop}{st:SortSt}(h:c->wpS M A E s x Q st)(k:¬c->wpS M A E s y Q st):wpS M A E s (if c then x else y) Q st:=by
 by_cases d:c
 ·rw[AA d];exact h d
 ·rw[Az d];exact k d
theorem yx(O:Ord prog w A s κ Ok f){a b:VJ}{st:SortSt}{Q:VJ->SortSt->Prop}(hk:kindOf st=κ)(cy:∀x∈a.toList,Ok x)(cP:∀x∈b.toList,Ok x)
 (sa:a.toList.Pairwise λx y=>f x<=f y) (sb:b.toList.Pairwise λx y=>f x<=f y) (ha:0<a.size) (hb:0<b.size) (h0:∀x∈a.toList,f b[0]<f x) (hl:∀x∈b.toList,f x<f a[a.size-1])
 (q:∀r g,w9 f a.toList b.toList r.toList->Q r (gi st g)):wpS (model prog w) A E s (Qn a b) Q st:=by
 refine Ac<|wpS_lift<|BZ ⟨rfl,?_⟩;refine Ac<|xw (x:=b[0]) (by simp[hb]) ?_;dsimp only;have M0:MP f a b #[b[0]] 0 1:=by have M:MP f a b #[] 0 0:=⟨⟨by simp,by simp,by simpa using sa,by simpa using sb,by simp,by simp⟩,rfl,A8 _,A8 _⟩;have:=M.oneB hb λj hj _=>BQ<|h0 a[j] (by simp);simpa using this
 by_cases c1:(1==b.size)=true
 ·refine xx c1 ?_;exact Ad<|q _ (gallopOf st)<|M0.done (by simpa using c1)
 refine x6 c1 ?_;by_cases c2:(0+1==a.size)=true
 ·refine xx c2 ?_;exact Ad<|q _ (gallopOf st)<|M0.last (by simpa using c2) hl
 refine x6 c2 ?_;have c1:¬1=b.size:=by simpa using c1
 have c2:¬1=a.size:=by simpa using c2
 refine Ac<|wpS_get ?_;have bh:∀i (p:i<a.size),Ok a[i]:=λi p=>cy _ (by simp);have bm:∀i (p:i<b.size),Ok b[i]:=λi p=>cP _ (by simp);have au:∀i (p:i<a.size),a[i]?=some a[i]:=λi p=>by simp[p]
 have av:∀i (p:i<b.size),b[i]?=some b[i]:=λi p=>by simp[p]
 obtain⟨tA,d0⟩:∃t:Nat->Keyed,t=λi=>(a[i]?).getD b[0]:=⟨_,rfl⟩;have a4:∀i (p:i<a.size),tA i=a[i]:=λi p=>by rw[d0];simp[p]
 have dd:∀i (p:i<a.size),a[i]?=some (tA i):=λi p=>by rw[a4 i p];exact au i p
 have de:∀i (p:i<a.size),Ok (tA i):=λi p=>by rw[a4 i p];exact bh i p
 have dj:∀{i j},i<=j->j<a.size->f (tA i)<=f (tA j):=λ{i j} a0 hj=>by rw[a4 i (by exact jM),a4 j hj];exact d_ sa a0 hj
 obtain⟨tB,dp⟩:∃t:Nat->Keyed,t=λi=>(b[i]?).getD b[0]:=⟨_,rfl⟩;have al:∀i (p:i<b.size),tB i=b[i]:=λi p=>by rw[dp];simp[p]
 have dt:∀i (p:i<b.size),b[i]?=some (tB i):=λi p=>by rw[al i p];exact av i p
 have dv:∀i (p:i<b.size),Ok (tB i):=λi p=>by rw[al i p];exact bm i p
 have dG:∀{i j},i<=j->j<b.size->f (tB i)<=f (tB j):=λ{i j} a0 hj=>by rw[al i (by exact jM),al j hj];exact d_ sb a0 hj
 refine Ac (AY (AQ (I:=λx c C=>(∃g,C=gi st g)/\∃a5 l U mg,c=(none,a5,l,U,mg)/\MP f a b a5 l U/\l+1<a.size/\U<b.size/\x+1<=a5.size)
  (Q:=λc C=>(∃g,C=gi st g)/\∃r,c.1=some r/\w9 f a.toList b.toList r.toList) ?_ ?_ ⟨⟨gallopOf st,rfl⟩,_,_,_,_,rfl,M0,by exact x_,by exact x_,by simp⟩) ?_)
 ·rintro x c C _ hx ⟨⟨g,rfl⟩,a5,l,U,mg,rfl,M,a2,T,hs⟩;dsimp only;refine Ac (AY (AQ (I:=λy c C=>C=gi st g/\∃J l U ac bc,c=(none,J,l,U,ac,bc)/\MP f a b J l U/\l+1<a.size/\U<b.size/\a5.size+y<=J.size)
   (Q:=λc C=>C=gi st g/\((∃r,c.1=some r/\w9 f a.toList b.toList r.toList)\/∃J l U ac bc,c=(none,J,l,U,ac,bc)/\MP f a b J l U/\l+1<a.size/\U<b.size/\a5.size+1<=J.size)) ?_ ?_ ⟨rfl,_,_,_,_,_,rfl,M,a2,T,Al _⟩) ?_)
  ·rintro y c C _ hy ⟨rfl,J,l,U,ac,bc,rfl,M,a2,T,cn⟩;have ba:l<a.size:=by exact jE
   dsimp only;refine Ac<|xw (av U T) ?_;refine Ac<|xw (au l ba) ?_;refine Ac<|w_lt O hk (bm U T) (bh l ba) ?_;dsimp only;by_cases c:f b[U]<f a[l]
   ·refine xx (AE c) ?_;refine Ac<|xw (av U T) ?_;have M':=M.oneB T λj hj a0=>BQ<|Int.lt_of_lt_of_le c<|d_ sa a0 hj;have s2:(J.push b[U]).size=J.size+1:=Bu _;by_cases e1:(U+1==b.size)=true
    ·refine xx e1 ?_;exact Ad ⟨rfl,.inl ⟨_,rfl,M'.done (by simpa using e1)⟩⟩
    ·refine x6 e1 ?_;have e1:¬U+1=b.size:=by simpa using e1
     refine fY (λ_=>?_) λ_=>?_
     ·exact Ad ⟨rfl,.inr ⟨_,_,_,_,_,rfl,M',a2,by exact x_,by lia⟩⟩
     ·exact Ad ⟨rfl,_,_,_,_,_,rfl,M',a2,by lia,by lia⟩
   ·refine x6 (by rw[Av c];decide) ?_;refine Ac<|xw (au l ba) ?_;have M':=M.oneA (by lia) λj hj a0=>BX (by omega)<|d_ sb a0 hj;have s2:(J.push a[l]).size=J.size+1:=Bu _;by_cases e1:(l+1+1==a.size)=true
    ·refine xx e1 ?_;exact Ad ⟨rfl,.inl ⟨_,rfl,M'.last (by simpa using e1) hl⟩⟩
    ·refine x6 e1 ?_;have e1:¬l+1+1=a.size:=by simpa using e1
     refine fY (λ_=>?_) λ_=>?_
     ·exact Ad ⟨rfl,.inr ⟨_,_,_,_,_,rfl,M',by exact x_,T,by lia⟩⟩
     ·exact Ad ⟨rfl,_,_,_,_,_,rfl,M',by lia,T,by lia⟩
  ·rintro c C ⟨rfl,J,l,U,ac,bc,rfl,M,a2,T,cn⟩;have:=M.sz;omega
  ·rintro c C ⟨rfl,h⟩;rcases h with⟨r,er,hr⟩|⟨be,l,U,ac,bc,rfl,M,a2,T,cn⟩
   ·obtain⟨c1,c2⟩:=c;cases er;exact Ad ⟨⟨g,rfl⟩,r,rfl,hr⟩
   ·dsimp only;refine Ac<|wpS_lift<|BZ ⟨rfl,?_⟩;refine Ac (AY (AQ (I:=λy c C=>(∃g,C=gi st g)/\∃J l U mg ac bc,c=(none,J,l,U,mg,ac,bc)/\MP f a b J l U/\l+1<a.size/\U<b.size/\be.size+y<=J.size)
     (Q:=λc C=>(∃g,C=gi st g)/\((∃r,c.1=some r/\w9 f a.toList b.toList r.toList)\/∃J l U mg ac bc,c=(none,J,l,U,mg,ac,bc)/\MP f a b J l U/\l+1<a.size/\U<b.size/\be.size<=J.size)) ?_ ?_ ⟨⟨g,rfl⟩,_,_,_,_,_,_,rfl,M,a2,T,Al _⟩) ?_)
    ·rintro y c C _ hy ⟨⟨g',rfl⟩,J,l,U,ca,ac,bc,rfl,M,a2,T,bf⟩;have ba:l<a.size:=by exact jE
     dsimp only;generalize ca-1=dH;revert dH;refine u7 (y:=ca) λdV=>?_
     all_goals
      refine Ac<|wpS_modify ?_;refine Ac<|xw (av U T) ?_;refine Ac<|cT O hk (bm U T) (by lia) (λi=>tA<|l+i) (λi p=>⟨dd _ (by lia),de _ (by lia)⟩) (λi=>!decide (f b[U]<f (tA<|l+i))) (λi p=>by rw[Az (by simp)]) (λi j a0 hj h=>?_) λk e0 aL bb=>?_
      ·have:=dj (i:=l+i) (j:=l+j) (by lia) (by lia);simp at h ⊢;lia
      have aL:∀i,i<k->f (tA<|l+i)<=f b[U]:=λi p=>by have:=aL i p;simpa using this
      have bb:∀i,k<=i->i<a.size-l->f b[U]<f (tA<|l+i):=λi p hj=>by have:=bb i p hj;simpa using this
      have kl:k<a.size-l:=by
       rcases DF e0 with h|h
       ·exact h
       ·exfalso;have h1:=aL (a.size-1-l) (by lia);have h2:=hl b[U] (by simp);rw[show l+(a.size-1-l)=a.size-1 by lia,a4 _ (by exact xp)] at h1;omega
      have M1:MP f a b (J++a.extract l (l+k)) (l+k) U:=M.segA (by lia) λi p cc j hj a0=>by have h1:=aL i cc;rw[a4 _ p] at h1;exact BX h1<|d_ sb a0 hj
      have pB:∀j (hj:j<a.size),l+k<=j->f b[U]<=f a[j]:=λj hj a0=>by have h1:=bb (j-l) (by lia) (by lia);rw[show l+(j-l)=j by lia,a4 _ hj] at h1;lia
      dsimp only;generalize e5:J=o0;generalize e6:l=j0;revert j0;revert o0;refine lU (P:=λ(o:VJ) (j:Nat)=>MP f a b o j U/\J.size<=o.size/\j+1<a.size/\∀j' (hj:j'<a.size),j<=j'->f b[U]<=f a[j']) (x:=J) (i:=l) (λa3 a1 hP=>?tail) (λck=>?hN) λck key=>?hY
      case hN=>
       obtain rfl:k=0:=by lia
       exact⟨M,Al _,a2,λj hj a0=>pB j hj (by lia)⟩
      case hY=>
       by_cases e1:(l+k+1==a.size)=true
       ·refine xx e1 ?_;exact Ad ⟨⟨_,rfl⟩,.inl ⟨_,rfl,M1.last (by simpa using e1) hl⟩⟩
       ·refine x6 e1 (x6 (show ¬(l+k==a.size)=true by simp;lia) ?_);have e1:¬l+k+1=a.size:=by simpa using e1
        exact key _ _ ⟨M1,by rw[B5];exact Bg _ _,by lia,pB⟩
      clear pB M1 aL bb;obtain⟨M1,h3,l3,pB⟩:=hP;have cm:a1<a.size:=by exact jE
      all_goals
       refine Ac<|xw (av U T) ?_;have M2:=M1.oneB T pB;have s2:(a3.push b[U]).size=a3.size+1:=Bu _;by_cases e2:(U+1==b.size)=true
       case' pos=>
        refine xx e2 ?_;exact Ad ⟨⟨_,rfl⟩,.inl ⟨_,rfl,M2.done (by simpa using e2)⟩⟩
       case' neg=>
        refine x6 e2 ?_;have e2:¬U+1=b.size:=by simpa using e2
        refine Ac<|xw (au a1 cm) ?_;refine Ac<|cT O hk (bh a1 cm) (by lia) (λi=>tB<|U+1+i) (λi p=>⟨dt _ (by omega),dv _ (by lia)⟩) (λi=>decide<|f (tB<|U+1+i)<f a[a1]) (λi p=>by rw[AA rfl]) (λi j a0 hj h=>?_) λk2 e7 a7 ab=>?_
        ·have:=dG (i:=U+1+i) (j:=U+1+j) (by lia) (by omega);simp at h ⊢;lia
        have a7:∀i,i<k2->f (tB<|U+1+i)<f a[a1]:=λi p=>by have:=a7 i p;simpa using this
        have ab:∀i,k2<=i->i<b.size-(U+1)->f a[a1]<=f (tB<|U+1+i):=λi p hj=>by have:=ab i p hj;simpa using this
        have M3:MP f a b (a3.push b[U]++b.extract (U+1) (U+1+k2)) a1 (U+1+k2):=M2.segB (by omega) λi p cc j hj a0=>by have h1:=a7 i cc;rw[al _ p] at h1;exact BX (BQ h1)<|d_ sa a0 hj
        have pA:∀j (hj:j<b.size),U+1+k2<=j->f a[a1]<=f b[j]:=λj hj a0=>by have h1:=ab (j-(U+1)) (by lia) (by omega);rw[show U+1+(j-(U+1))=j by lia,al _ hj] at h1;exact h1
        dsimp only;obtain⟨o3,cv⟩:∃o,o=a3.push b[U]:=⟨_,rfl⟩;obtain⟨bd,cw⟩:∃i,i=U+1:=⟨_,rfl⟩;rw[<-cv] at s2;rw[<-cv,<-cw] at M2 M3 ⊢;rw[<-cw] at pA e7;generalize e5:o3=o0;generalize e6:bd=j0;revert j0;revert o0;refine lU (P:=λ(o:VJ) (j:Nat)=>MP f a b o a1 j/\a3.size+1<=o.size/\j<b.size/\∀j' (hj:j'<b.size),j<=j'->f a[a1]<=f b[j']) (x:=o3) (i:=bd) (λbg ed hP=>?tail2) (λck=>?hN) λck key=>?hY
        case hN=>
         obtain rfl:k2=0:=by lia
         exact⟨M2,by lia,by lia,λj hj a0=>pA j hj (by lia)⟩
        case hY=>
         by_cases e3:(bd+k2==b.size)=true
         ·refine xx e3 ?_;exact Ad ⟨⟨_,rfl⟩,.inl ⟨_,rfl,M3.done (by simpa using e3)⟩⟩
         ·refine x6 e3 ?_;have e3:¬bd+k2=b.size:=by simpa using e3
          exact key _ _ ⟨M3,by rw[B5];lia,by lia,pA⟩
        clear pA M3 a7 ab;obtain⟨M3,h4,l4,pA⟩:=hP
        all_goals
         refine Ac<|xw (au a1 cm) ?_;have M4:=M3.oneA (by lia) pA;have s4:(bg.push a[a1]).size=bg.size+1:=Bu _;by_cases e4:(a1+1+1==a.size)=true
         ·refine xx e4 ?_;exact Ad ⟨⟨_,rfl⟩,.inl ⟨_,rfl,M4.last (by simpa using e4) hl⟩⟩
         ·refine x6 e4 ?_;have e4:¬a1+1+1=a.size:=by simpa using e4
          refine fY (λ_=>?_) λ_=>?_
          ·exact Ad ⟨⟨_,rfl⟩,.inr ⟨_,_,_,_,_,_,rfl,M4,by exact x_,l4,by lia⟩⟩
          ·exact Ad ⟨⟨_,rfl⟩,_,_,_,_,_,_,rfl,M4,by lia,l4,by lia⟩
    ·rintro c C ⟨⟨g',rfl⟩,J,l,U,ca,ac,bc,rfl,M,a2,T,bf⟩;have:=M.sz;omega
    ·rintro c C ⟨⟨g',rfl⟩,h⟩;rcases h with⟨r,er,hr⟩|⟨ec,l,U,dV,ac,bc,rfl,M,a2,T,bf⟩
     ·obtain⟨c1,c2⟩:=c;cases er;exact Ad ⟨⟨g',rfl⟩,r,rfl,hr⟩
     ·dsimp only;refine Ac<|wpS_modify ?_;exact Ad ⟨⟨_,rfl⟩,_,_,_,_,rfl,M,a2,T,by lia⟩
 ·rintro c C ⟨⟨g,rfl⟩,a5,l,U,mg,rfl,M,a2,T,hs⟩;have:=M.sz;lia
 ·rintro c C ⟨⟨g,rfl⟩,r,er,hr⟩;obtain⟨c1,c2⟩:=c;cases er;exact Ad<|q r g hr
end
structure MH(f:VL)(la lb ra rb o:VI):Prop where
 perm:(ra++rb++o).Perm (la++lb)
 so:o.Pairwise λx y=>f x<=f y
 sa:ra.Pairwise λx y=>f x<=f y
 sb:rb.Pairwise λx y=>f x<=f y
 oa:∀x∈ra,∀y∈o,f x<=f y
 ob:∀x∈rb,∀y∈o,f x<=f y
theorem MH.a{f:VL}{j l o seg U g:VI}(h:MH f j l (U++seg) g o)(hs:∀x∈g,∀y∈seg,f x<=f y):MH f j l U g (seg++o):=by
 have sa:=AU.mp h.sa;refine⟨List.Perm.trans ?_ h.perm,AU.mpr ⟨sa.2.1,h.so,λx J y I=>h.oa x (Ah _ J) y I⟩,sa.1,h.sb,λx J y I=>?_,λx J y I=>?_⟩
 ·rw[<-Ay];refine(BE o).mpr ?_;rw[Ay,Ay];exact(BG U).mpr Bw
 ·rcases Aj.mp I with I|I
  ·exact sa.2.2 x J y I
  ·exact h.oa x (Ap _ J) y I
 ·rcases Aj.mp I with I|I
  ·exact hs x J y I
  ·exact h.ob x J y I
theorem MH.b{f:VL}{l p o seg U g:VI}(h:MH f l p U (g++seg) o)(hs:∀x∈U,∀y∈seg,f x<=f y):MH f l p U g (seg++o):=by
 have j:=AU.mp h.sb;refine⟨?_,AU.mpr ⟨j.2.1,h.so,λx J y I=>h.ob x (Ah _ J) y I⟩,h.sa,j.1,λx J y I=>?_,λx J y I=>?_⟩
 ·have:=h.perm;rw[<-Ay,Ay U g seg];exact this
 ·rcases Aj.mp I with I|I
  ·exact hs x J y I
  ·exact h.oa x J y I
 ·rcases Aj.mp I with I|I
  ·exact j.2.2 x J y I
  ·exact h.ob x (Ap _ J) y I
theorem MH.ea{f:VL}{I J o U:VI}(h:MH f I J [] U o):w9 f I J (U++o):=⟨by have:=h.perm;rwa[Cb] at this,AU.mpr ⟨h.sb,h.so,h.ob⟩⟩
theorem MH.eb{f:VL}{g j o J U:VI}(h:MH f g j J U o)(hs:∀x∈U,∀y∈J,f x<=f y):w9 f g j (U++J++o):=by
 refine⟨List.Perm.trans ?_ h.perm,?_⟩
 ·exact(BE o).mpr Bw
 ·refine AU.mpr ⟨AU.mpr ⟨h.sb,h.sa,hs⟩,h.so,λx I y l=>?_⟩;rcases Aj.mp I with I|I
  ·exact h.ob x I y l
  ·exact h.oa x I y l
structure HP(f:VL)(a b fx:VJ)(na nb:Nat):Prop where
 mi:MH f a.toList b.toList (a.toList.take na) (b.toList.take nb) fx.toList.reverse
 sz:fx.size+na+nb=a.size+b.size
 la:na<=a.size
 lb:nb<=b.size
theorem Iq(a:VJ)(h:i<a.size):a.toList.take (i+1)=a.toList.take i++[a[i]]:=by rw[A3];simp[h]
theorem gz{a:VJ}{x:Keyed}(h:x∈a.toList.take i):∃j,∃I:j<a.size,j<i/\a[j]=x:=by
 obtain⟨j,I,e⟩:=BK h;rw[AM] at I;have J:j<a.size:=by have:a.toList.length=a.size:=A5;omega
 refine⟨j,J,by omega,?_⟩;rw[<-e];simp
theorem Fp(l:VI){k:Nat}(h:i<=k):l.take i++(l.drop i).take (k-i)=l.take k:=by have:=List.take_add (l:=l) (i:=i) (j:=k-i);rw[show i+(k-i)=k by omega] at this;exact this.symm
section
variable {f:VL}{a b fx:VJ}{na nb:Nat}
theorem HP.segA(M:HP f a b fx na nb){k:Nat}(J:k<=na)(h:∀i (hi:i<a.size),k<=i->i<na->∀j (I:j<b.size),j<nb->f b[j]<=f a[i]):HP f a b (fx++(a.extract k na).reverse) k nb:=by
 have o:=M.la;refine⟨?_,?_,by exact FR,M.lb⟩
 ·rw[Bb,C0,CQ,List.reverse_reverse,iF];refine MH.a (by rw[Fp _ J];exact M.mi) λx U y g=>?_;obtain⟨j,I,l,rfl⟩:=gz U;obtain⟨i,hi,p,rfl⟩:=qY g;exact h (k+i) hi (by exact Bg _ _) (by lia) j I l
 ·have:=M.sz;rw[B5,Array.size_reverse,C5];lia
theorem HP.segB(M:HP f a b fx na nb){k:Nat}(J:k<=nb)(h:∀i (hi:i<b.size),k<=i->i<nb->∀j (I:j<a.size),j<na->f a[j]<=f b[i]):HP f a b (fx++(b.extract k nb).reverse) na k:=by
 have o:=M.lb;refine⟨?_,?_,M.la,by lia⟩
 ·rw[Bb,C0,CQ,List.reverse_reverse,iF];refine MH.b (by rw[Fp _ J];exact M.mi) λx U y g=>?_;obtain⟨j,I,l,rfl⟩:=gz U;obtain⟨i,hi,p,rfl⟩:=qY g;exact h (k+i) hi (by lia) (by lia) j I l
 ·have:=M.sz;rw[B5,Array.size_reverse,C5];lia
theorem HP.oneA(M:HP f a b fx (na+1) nb)(hi:na<a.size)(h:∀j (I:j<b.size),j<nb->f b[j]<=f a[na]):HP f a b (fx.push a[na]) na nb:=by refine⟨?_,by have:=M.sz;rw[Bu];lia,by exact jE,M.lb⟩;rw[Dg,C0];refine MH.a (seg:=[a[na]]) (by rw[<-Iq a hi];exact M.mi) λx J y U=>?_;obtain⟨j,I,g,rfl⟩:=gz J;rw[Ak.mp U];exact h j I g
theorem HP.oneB(M:HP f a b fx na<|nb+1)(hi:nb<b.size)(h:∀j (I:j<a.size),j<na->f a[j]<=f b[nb]):HP f a b (fx.push b[nb]) na nb:=by refine⟨?_,by have:=M.sz;rw[Bu];lia,M.la,by lia⟩;rw[Dg,C0];refine MH.b (seg:=[b[nb]]) (by rw[<-Iq b hi];exact M.mi) λx J y U=>?_;obtain⟨j,I,g,rfl⟩:=gz J;rw[Ak.mp U];exact h j I g
theorem HP.done(M:HP f a b fx na nb)(h:na=0):w9 f a.toList b.toList (a.extract 0 na++b.extract 0 nb++fx.reverse).toList:=by subst h;have:=M.mi;rw[DG] at this;have:=this.ea;rw[Bb,Bb,iF,iF,CQ];simpa using this
theorem HP.last(M:HP f a b fx na nb)(h:nb=1)(g:0<b.size)(I:∀x∈a.toList,f b[0]<f x):w9 f a.toList b.toList (b.extract 0 nb++a.extract 0 na++fx.reverse).toList:=by
 have:=M.mi.eb λx J y U=>by
  obtain⟨j,l,o,rfl⟩:=gz J;have e:j=0:=by lia
  subst e;exact BQ<|I y<|BP U
 rw[Bb,Bb,iF,iF,CQ];simpa using this
end
theorem HP.preA{f:VL}{a b fx:VJ}{na nb:Nat}(M:HP f a b fx na nb)(I:0<na)(h:∀j (J:j<b.size),j<nb->f b[j]<=f (a[na-1]'(by have:=M.la;omega))):HP f a b (fx.push (a[na-1]'(by have:=M.la;omega))) (na-1) nb:=by obtain⟨n,rfl⟩:∃n,na=n+1:=⟨na-1,by lia⟩;have U:=M.la;exact HP.oneA M (by assumption) h
theorem HP.preB{f:VL}{a b fx:VJ}{na nb:Nat}(M:HP f a b fx na nb)(I:0<nb)(h:∀j (J:j<a.size),j<na->f a[j]<=f (b[nb-1]'(by have:=M.lb;omega))):HP f a b (fx.push (b[nb-1]'(by have:=M.lb;lia))) na (nb-1):=by obtain⟨n,rfl⟩:∃n,nb=n+1:=⟨nb-1,by lia⟩;have U:=M.lb;exact HP.oneB M (by lia) h
section
variable {w:Vx}{κ:SortKind}{Ok:Keyed->Prop}{f:VL}
theorem Qp(O:Ord prog w A s κ Ok f){a b:VJ}{st:SortSt}{Q:VJ->SortSt->Prop}(hk:kindOf st=κ)(cw:∀x∈a.toList,Ok x)(cy:∀x∈b.toList,Ok x)
 (sa:a.toList.Pairwise λx y=>f x<=f y) (sb:b.toList.Pairwise λx y=>f x<=f y) (ha:0<a.size) (hb:0<b.size) (h0:∀x∈a.toList,f b[0]<f x) (hl:∀x∈b.toList,f x<f a[a.size-1])
 (q:∀r g,w9 f a.toList b.toList r.toList->Q r (gi st g)):wpS (model prog w) A E s (Qo a b) Q st:=by
 have bh:∀i (U:i<a.size),Ok a[i]:=λi U=>cw _ (by simp);have bm:∀i (U:i<b.size),Ok b[i]:=λi U=>cy _ (by simp);have ab:∀i (U:i<a.size),a[i]?=some a[i]:=λi U=>by simp[U]
 have au:∀i (U:i<b.size),b[i]?=some b[i]:=λi U=>by simp[U]
 obtain⟨tA,cP⟩:∃t:Nat->Keyed,t=λi=>(a[i]?).getD b[0]:=⟨_,rfl⟩;have al:∀i (U:i<a.size),tA i=a[i]:=λi U=>by rw[cP];simp[U]
 have d0:∀i (U:i<a.size),a[0+i]?=some (tA i):=λi U=>by rw[al i U,DA];exact ab i U
 have dd:∀i (U:i<a.size),Ok (tA i):=λi U=>by rw[al i U];exact bh i U
 have de:∀{i j},i<=j->j<a.size->f (tA i)<=f (tA j):=λ{i j} p hj=>by rw[al i (by exact jM),al j hj];exact d_ sa p hj
 obtain⟨tB,dj⟩:∃t:Nat->Keyed,t=λi=>(b[i]?).getD b[0]:=⟨_,rfl⟩;have a4:∀i (U:i<b.size),tB i=b[i]:=λi U=>by rw[dj];simp[U]
 have dp:∀i (U:i<b.size),b[0+i]?=some (tB i):=λi U=>by rw[a4 i U,DA];exact au i U
 have dt:∀i (U:i<b.size),Ok (tB i):=λi U=>by rw[a4 i U];exact bm i U
 have dv:∀{i j},i<=j->j<b.size->f (tB i)<=f (tB j):=λ{i j} p hj=>by rw[a4 i (by exact jM),a4 j hj];exact d_ sb p hj
 refine Ac<|wpS_lift<|BZ ⟨rfl,?_⟩;refine Ac<|xw (x:=a[a.size-1]) (ab _ (by exact xp)) ?_;dsimp only;obtain⟨n0,eh⟩:∃n,a.size=n+1:=⟨a.size-1,by lia⟩;have M0:HP f a b #[a[a.size-1]] (a.size-1) b.size:=by
  have M:HP f a b #[] (a.size-1+1) b.size:=by
   refine⟨⟨?_,by simp,?_,?_,by simp,by simp⟩,by simp;lia,by exact xp,Al _⟩
   ·rw[AZ (by simp;lia),AZ (by simp)];simp
   ·rw[AZ (by simp;lia)];exact sa
   ·rw[AZ (by simp)];exact sb
  have:=M.oneA (by lia) λj hj _=>BQ<|hl b[j] (by simp);simpa using this
 by_cases c1:(a.size-1==0)=true
 ·refine xx c1 ?_;exact Ad<|q _ (gallopOf st)<|M0.done (by simpa using c1)
 refine x6 c1 ?_;by_cases c2:(b.size==1)=true
 ·refine xx c2 ?_;exact Ad<|q _ (gallopOf st)<|M0.last (by simpa using c2) hb h0
 refine x6 c2 ?_;have c1:¬a.size-1=0:=by simpa using c1
 have c2:¬b.size=1:=by simpa using c2
 refine Ac<|wpS_get ?_;refine Ac (AY (AQ (I:=λx c l=>(∃g,l=gi st g)/\∃na nb a5 mg,c=(none,na,nb,a5,mg)/\HP f a b a5 na nb/\0<na/\1<nb/\x+1<=a5.size)
  (Q:=λc l=>(∃g,l=gi st g)/\∃r,c.1=some r/\w9 f a.toList b.toList r.toList) ?_ ?_ ⟨⟨gallopOf st,rfl⟩,_,_,_,_,rfl,M0,by exact Ep,by lia,by simp⟩) ?_)
 ·rintro x c l _ hx ⟨⟨g,rfl⟩,na,nb,a5,mg,rfl,M,T,a0,hs⟩;dsimp only;refine Ac (AY (AQ (I:=λy c l=>l=gi st g/\∃na nb J ac bc,c=(none,na,nb,J,ac,bc)/\HP f a b J na nb/\0<na/\1<nb/\a5.size+y<=J.size)
   (Q:=λc l=>l=gi st g/\((∃r,c.1=some r/\w9 f a.toList b.toList r.toList)\/∃na nb J ac bc,c=(none,na,nb,J,ac,bc)/\HP f a b J na nb/\0<na/\1<nb/\a5.size+1<=J.size)) ?_ ?_ ⟨rfl,_,_,_,_,_,rfl,M,T,a0,Al _⟩) ?_)
  ·rintro y c l _ hy ⟨rfl,na,nb,J,ac,bc,rfl,M,T,a0,cc⟩;have dG:=M.la;have dH:=M.lb;have a1:nb-1<b.size:=by omega
   have av:na-1<a.size:=by lia
   dsimp only;refine Ac<|xw (au (nb-1) a1) ?_;refine Ac<|xw (ab (na-1) av) ?_;refine Ac<|w_lt O hk (bm (nb-1) a1) (bh (na-1) av) ?_;dsimp only;by_cases c:f b[nb-1]<f a[na-1]
   ·refine xx (AE c) ?_;refine Ac<|xw (ab (na-1) av) ?_;have M':=M.preA T λj hj p=>BQ<|Int.lt_of_le_of_lt (d_ sb (i:=j) (j:=nb-1) (CS p) a1) c;have s2:(J.push a[na-1]).size=J.size+1:=Bu _;by_cases e1:(na-1==0)=true
    ·refine xx e1 ?_;exact Ad ⟨rfl,.inl ⟨_,rfl,M'.done (by simpa using e1)⟩⟩
    ·refine x6 e1 ?_;have e1:¬na-1=0:=by simpa using e1
     refine fY (λ_=>?_) λ_=>?_
     ·exact Ad ⟨rfl,.inr ⟨_,_,_,_,_,rfl,M',by exact Ep,a0,by lia⟩⟩
     ·exact Ad ⟨rfl,_,_,_,_,_,rfl,M',by lia,a0,by lia⟩
   ·refine x6 (by rw[Av c];decide) ?_;refine Ac<|xw (au (nb-1) a1) ?_;have M':=M.preB (by exact jE) λj hj p=>BX (d_ sa (i:=j) (j:=na-1) (CS p) av) (by omega);have s2:(J.push b[nb-1]).size=J.size+1:=Bu _;by_cases e1:(nb-1==1)=true
    ·refine xx e1 ?_;exact Ad ⟨rfl,.inl ⟨_,rfl,M'.last (by simpa using e1) hb h0⟩⟩
    ·refine x6 e1 ?_;have e1:¬nb-1=1:=by simpa using e1
     refine fY (λ_=>?_) λ_=>?_
     ·exact Ad ⟨rfl,.inr ⟨_,_,_,_,_,rfl,M',T,by lia,by lia⟩⟩
     ·exact Ad ⟨rfl,_,_,_,_,_,rfl,M',T,by lia,by lia⟩
  ·rintro c l ⟨rfl,na,nb,J,ac,bc,rfl,M,T,a0,cc⟩;have:=M.sz;omega
  ·rintro c l ⟨rfl,h⟩;rcases h with⟨r,er,hr⟩|⟨na,nb,be,ac,bc,rfl,M,T,a0,cc⟩
   ·obtain⟨c1,c2⟩:=c;cases er;exact Ad ⟨⟨g,rfl⟩,r,rfl,hr⟩
   ·dsimp only;refine Ac<|wpS_lift<|BZ ⟨rfl,?_⟩;refine Ac (AY (AQ (I:=λy c l=>(∃g,l=gi st g)/\∃na nb J mg ac bc,c=(none,na,nb,J,mg,ac,bc)/\HP f a b J na nb/\0<na/\1<nb/\be.size+y<=J.size)
     (Q:=λc l=>(∃g,l=gi st g)/\((∃r,c.1=some r/\w9 f a.toList b.toList r.toList)\/∃na nb J mg ac bc,c=(none,na,nb,J,mg,ac,bc)/\HP f a b J na nb/\0<na/\1<nb/\be.size<=J.size)) ?_ ?_ ⟨⟨g,rfl⟩,_,_,_,_,_,_,rfl,M,T,a0,Al _⟩) ?_)
    ·rintro y c l _ hy ⟨⟨g',rfl⟩,na,nb,J,ca,ac,bc,rfl,M,T,a0,bf⟩;have dG:=M.la;have dH:=M.lb;have a1:nb-1<b.size:=by omega
     have av:na-1<a.size:=by lia
     dsimp only;generalize ca-1=dV;revert dV;refine u7 (y:=ca) λe0=>?_
     all_goals
      refine Ac<|wpS_modify ?_;refine Ac<|xw (au (nb-1) a1) ?_;refine Ac<|cT O hk (bm (nb-1) a1) (by exact xp) tA (λi U=>⟨d0 _ (by exact Em),dd _ (by lia)⟩) (λi=>!decide (f b[nb-1]<f (tA i))) (λi U=>by rw[Az (by simp)]) (λi j p hj h=>?_) λk e5 aL ba=>?_
      ·have:=de (i:=i) (j:=j) (by lia) (by exact Em);simp at h ⊢;lia
      have aL:∀i,i<k->f (tA i)<=f b[nb-1]:=λi U=>by have:=aL i U;simpa using this
      have ba:∀i,k<=i->i<na->f b[nb-1]<f (tA i):=λi U hj=>by have:=ba i U hj;simpa using this
      have M1:HP f a b (J++(a.extract k na).reverse) k nb:=M.segA e5 λi U h1 h2 j hj p=>by have h3:=ba i h1 h2;rw[al _ U] at h3;exact BX (d_ sb (i:=j) (j:=nb-1) (CS p) a1)<|BQ h3
      have pB:∀j (hj:j<a.size),j<k->f a[j]<=f b[nb-1]:=λj hj p=>by have h1:=aL j p;rw[al _ hj] at h1;exact h1
      dsimp only;generalize ej:na-k=cn;generalize e6:J=o0;generalize e7:na=j0;revert j0;revert o0;refine lU (P:=λ(o:VJ) (j:Nat)=>HP f a b o j nb/\J.size<=o.size/\0<j/\∀j' (hj:j'<a.size),j'<j->f a[j']<=f b[nb-1]) (x:=J) (i:=na) (λa2 C hP=>?tail) (λck=>?hN) λck key=>?hY
      case hN=>
       obtain rfl:k=na:=by lia
       exact⟨M,Al _,by lia,pB⟩
      case hY=>
       by_cases e1:(k==0)=true
       ·refine xx e1 ?_;exact Ad ⟨⟨_,rfl⟩,.inl ⟨_,rfl,M1.done (by simpa using e1)⟩⟩
       ·refine x6 e1 ?_;have e1:¬k=0:=by simpa using e1
        exact key _ _ ⟨M1,by rw[B5];exact Bg _ _,by exact Ep,pB⟩
      clear pB M1 aL ba;obtain⟨M1,h3,l3,pB⟩:=hP
      all_goals
       have ee:=M1.la;have bb:C-1<a.size:=by lia
       refine Ac<|xw (au (nb-1) a1) ?_;have M2:=M1.preB (by exact jE) pB;have s2:(a2.push b[nb-1]).size=a2.size+1:=Bu _;by_cases e2:(nb-1==1)=true
       case' pos=>
        refine xx e2 ?_;exact Ad ⟨⟨_,rfl⟩,.inl ⟨_,rfl,M2.last (by simpa using e2) hb h0⟩⟩
       case' neg=>
        refine x6 e2 ?_;have e2:¬nb-1=1:=by simpa using e2
        refine Ac<|xw (ab (C-1) bb) ?_;refine Ac<|cT O hk (bh (C-1) bb) (by lia) tB (λi U=>⟨dp _ (by exact rQ),dt _ (by lia)⟩) (λi=>decide<|f (tB i)<f a[C-1]) (λi U=>by rw[AA rfl]) (λi j p hj h=>?_) λk2 cm a7 a3=>?_
        ·have:=dv (i:=i) (j:=j) (by lia) (by exact rQ);simp at h ⊢;lia
        have a7:∀i,i<k2->f (tB i)<f a[C-1]:=λi U=>by have:=a7 i U;simpa using this
        have a3:∀i,k2<=i->i<nb-1->f a[C-1]<=f (tB i):=λi U hj=>by have:=a3 i U hj;simpa using this
        have k1:0<k2:=by
         rcases Nat.eq_zero_or_pos k2 with h|h
         ·exfalso;have h5:=a3 0 (by exact xF) (by lia);rw[a4 _ hb] at h5;have h6:=h0 a[C-1] (by simp);lia
         ·exact h
        have M3:HP f a b (a2.push b[nb-1]++(b.extract k2<|nb-1).reverse) C k2:=M2.segB cm λi U h1 h2 j hj p=>by have h5:=a3 i h1 h2;rw[a4 _ U] at h5;exact BX (d_ sa (i:=j) (j:=C-1) (CS p) bb) h5
        have pA:∀j (hj:j<b.size),j<k2->f b[j]<=f a[C-1]:=λj hj p=>by have h5:=a7 j p;rw[a4 _ hj] at h5;exact BQ h5
        dsimp only;generalize ec:nb-1-k2=ek;obtain⟨o3,ed⟩:∃o,o=a2.push b[nb-1]:=⟨_,rfl⟩;obtain⟨bd,cv⟩:∃i,i=nb-1:=⟨_,rfl⟩;have eb:b[nb-1]=b[bd]'(by lia):=by subst cv;rfl
        rw[<-ed] at s2 M2 M3 ⊢;rw[<-cv] at M2 M3 ec cm ⊢;generalize e6:o3=o0;generalize e7:bd=j0;revert j0;revert o0;refine lU (P:=λ(o:VJ) (j:Nat)=>HP f a b o C j/\a2.size+1<=o.size/\1<j/\∀j' (hj:j'<b.size),j'<j->f b[j']<=f a[C-1]) (x:=o3) (i:=bd) (λbg el hP=>?tail2) (λck=>?hN) λck key=>?hY
        case hN=>
         obtain rfl:k2=bd:=by lia
         exact⟨M2,by lia,by lia,pA⟩
        case hY=>
         by_cases e3:(k2==1)=true
         ·refine xx e3 ?_;exact Ad ⟨⟨_,rfl⟩,.inl ⟨_,rfl,M3.last (by simpa using e3) hb h0⟩⟩
         ·refine x6 e3 (x6 (show ¬(k2==0)=true by simp;exact Hx) ?_);have e3:¬k2=1:=by simpa using e3
          exact key _ _ ⟨M3,by rw[B5];lia,by lia,pA⟩
        clear pA M3 a7 a3;obtain⟨M3,h4,l4,pA⟩:=hP
        all_goals
         refine Ac<|xw (ab (C-1) bb) ?_;have M4:=M3.preA l3 pA;have s4:(bg.push a[C-1]).size=bg.size+1:=Bu _;by_cases e4:(C-1==0)=true
         ·refine xx e4 ?_;exact Ad ⟨⟨_,rfl⟩,.inl ⟨_,rfl,M4.done (by simpa using e4)⟩⟩
         ·refine x6 e4 ?_;have e4:¬C-1=0:=by simpa using e4
          refine fY (λ_=>?_) λ_=>?_
          ·exact Ad ⟨⟨_,rfl⟩,.inr ⟨_,_,_,_,_,_,rfl,M4,by exact Ep,l4,by lia⟩⟩
          ·exact Ad ⟨⟨_,rfl⟩,_,_,_,_,_,_,rfl,M4,by lia,l4,by lia⟩
    ·rintro c l ⟨⟨g',rfl⟩,na,nb,J,ca,ac,bc,rfl,M,T,a0,bf⟩;have:=M.sz;omega
    ·rintro c l ⟨⟨g',rfl⟩,h⟩;rcases h with⟨r,er,hr⟩|⟨na,nb,eg,e0,ac,bc,rfl,M,T,a0,bf⟩
     ·obtain⟨c1,c2⟩:=c;cases er;exact Ad ⟨⟨g',rfl⟩,r,rfl,hr⟩
     ·dsimp only;refine Ac<|wpS_modify ?_;exact Ad ⟨⟨_,rfl⟩,_,_,_,_,rfl,M,T,a0,by lia⟩
 ·rintro c l ⟨⟨g,rfl⟩,na,nb,a5,mg,rfl,M,T,a0,hs⟩;have:=M.sz;lia
 ·rintro c l ⟨⟨g,rfl⟩,r,er,hr⟩;obtain⟨c1,c2⟩:=c;cases er;exact Ad<|q r g hr
end
theorem Qq{σ:Type}{st I:σ}{Q:PUnit->σ->Prop}(h:Q ⟨⟩ I):wpS M A E s (set I:StateT σ Sem PUnit) Q st:=by unfold wpS;rw[StateT.run_set];exact An ⟨rfl,h⟩
theorem mV{α:Type}:∀(m:List α) (arr:Array α) (i k:Nat),i+k+m.length<=arr.size->((m.zipIdx k).foldl (λ(a:Array α) (I:α×Nat)=>a.setIfInBounds (i+I.2) I.1) arr).toList=arr.toList.take (i+k)++(m++arr.toList.drop (i+k+m.length))
 |[],arr,i,k,h=>by simp
 |x::m,arr,i,k,h=>by
  rw[List.zipIdx_cons,List.foldl_cons];simp only[AK] at h;rw[mV m _ i (k+1) (by simp;lia)];have e:(arr.setIfInBounds (i+k) x).toList=arr.toList.set (i+k) x:=by simp
  have l:arr.toList.length=arr.size:=A5;rw[e,List.drop_set,AA (by exact Bg _ _),<-Nat.add_assoc,A3,BH (by lia),List.take_set_of_le (by simp +arith only),AK];simp;congr 1;simp +arith only
section
variable {w:Vx}{κ:SortKind}{Ok:Keyed->Prop}{f:VL}
theorem uD{l:VI}(s:l.Pairwise λx y=>f x<=f y)(I:i<=j)(J:j<l.length):f (l[i]'(by exact jM))<=f l[j]:=by
 rcases DF I with h|h
 ·exact CY.mp s i j (by exact jM) J h
 ·subst h;exact Dc _
theorem F8{l:VI}{x:Keyed}(h:x∈l):∃i,∃hi:i<l.length,l[i]=x:=BK h
theorem F9{l:VI}{x:Keyed}(h:x∈l.take m):∃i,∃hi:i<l.length,i<m/\l[i]=x:=by obtain⟨i,hi,rfl⟩:=BK h;rw[AM] at hi;exact⟨i,by lia,by lia,BN.symm⟩
theorem Fq{l:VI}{x:Keyed}{k:Nat}(h:x∈l.drop k):∃i,∃hi:i<l.length,k<=i/\l[i]=x:=by obtain⟨i,hi,rfl⟩:=BK h;rw[BC] at hi;exact⟨k+i,by lia,Bg _ _,DL.symm⟩
theorem Qr(O:Ord prog w A s κ Ok f){st:SortSt}{X Y:VI}{w1 w2:Nat}{Q:Bool->SortSt->Prop}(hk:kindOf st=κ)(hf:failedOf st=none)(hp:pendingOf st=#[(0,X.length,w1),(X.length,Y.length,w2)])(ea:(arrOf st).toList=X++Y)(ok:∀x∈X++Y,Ok x)
 (lX:0<X.length) (lY:0<Y.length) (sX:X.Pairwise λx y=>f x<=f y) (sY:Y.Pairwise λx y=>f x<=f y) (q:∀T,failedOf T=none->(pendingOf T).size=1->(arrOf T).toList.Perm (X++Y)->((arrOf T).toList.Pairwise λx y=>f x<=f y)->Q true T):wpS (model prog w) A E s (mergeAt' 0) Q st:=by
 have a1:(pendingOf st)[0]?=some (0,X.length,w1):=by rw[hp];rfl
 have a2:(pendingOf st)[0+1]?=some (X.length,Y.length,w2):=by rw[hp];rfl
 have a3:(((pendingOf st).setIfInBounds 0 (0,X.length+Y.length,w1)).eraseIdxIfInBounds<|0+1).size=1:=by simp[hp]
 refine Ac<|wpS_get ?_;rw[show(sortPriv% PySem.Builtin.SortState.pending) st=pendingOf st from rfl,a1,a2];dsimp only;refine Ac<|Qq ?_;generalize ((pendingOf st).setIfInBounds 0 (0,X.length+Y.length,w1)).eraseIdxIfInBounds (0+1)=pn at a3 ⊢;have al:∀i (I:i<X.length),(arrOf st)[i]?=some X[i]:=λi I=>by rw[<-A7,ea,AI I];simp
 have au:∀i (I:i<Y.length),(arrOf st)[X.length+i]?=some Y[i]:=λi I=>by rw[<-A7,ea,Ax<|Bg _ _,B1];simp
 have a7:∀x∈X,Ok x:=λx l=>ok x<|Ap _ l;have ab:∀x∈Y,Ok x:=λx l=>ok x<|Ah _ l;obtain⟨tX,av⟩:∃t:Nat->Keyed,t=λi=>(X[i]?).getD X[0]:=⟨_,rfl⟩;have p:∀i (I:i<X.length),tX i=X[i]:=λi I=>by rw[av];simp[I]
 obtain⟨tY,aL⟩:∃t:Nat->Keyed,t=λi=>(Y[i]?).getD X[0]:=⟨_,rfl⟩;have C:∀i (I:i<Y.length),tY i=Y[i]:=λi I=>by rw[aL];simp[I]
 refine Ac<|xw (x:=Y[0]) (au 0 lY) ?_;refine Ac (cT O hk (ab _<|Cw _) lX tX (λi I=>⟨by rw[p i I,DA];exact al i I,by rw[p i I];exact a7 _<|Cw _⟩) (λi=>!decide (f Y[0]<f (tX i))) (λi I=>by rw[Az (by simp)]) (λi j ac J h=>?_) λk ba a4 a5=>?_)
 ·have:=uD sX ac J;rw[p j J] at h;rw[p i (by exact jM)];simp at h ⊢;omega
 have a4:∀i (I:i<k),f (X[i]'(by exact Em))<=f Y[0]:=λi I=>by have:=a4 i I;rw[p i (by lia)] at this;simpa using this
 have a5:∀i (J:i<X.length),k<=i->f Y[0]<f X[i]:=λi J I=>by have:=a5 i I J;rw[p i J] at this;simpa using this
 dsimp only;rw[DA];by_cases c:(X.length-k==0)=true
 ·rw[AA c];have c:X.length-k=0:=by simpa using c
  refine Ad (q _ hf a3 (by show(arrOf st).toList.Perm _;rw[ea]) (by show(arrOf st).toList.Pairwise _;rw[ea];refine AU.mpr ⟨sX,sY,λx l y hy=>?_⟩;obtain⟨i,I,rfl⟩:=F8 l;obtain⟨j,J,rfl⟩:=F8 hy;exact BX (a4 i (by lia))<|uD sY (A8 _) J))
 rw[Az c];have c:k<X.length:=by
  have:¬X.length-k=0:=by simpa using c
  lia
 refine Ac (xw (x:=X[X.length-1]) (by rw[show k+(X.length-k)-1=X.length-1 by lia];exact al _ (by lia)) ?_);refine Ac (cT O hk (a7 _<|Cw _) (by lia) tY (λi I=>⟨by rw[C i I];exact au i I,by rw[C i I];exact ab _<|Cw _⟩) (λi=>decide<|f (tY i)<f X[X.length-1]) (λi I=>by rw[AA rfl]) (λi j ac J h=>?_) λm bb a0 o=>?_)
 ·have:=uD sY ac J;rw[C j J] at h;rw[C i (by exact jM)];simp at h ⊢;omega
 have a0:∀i (I:i<m),f (Y[i]'(by exact Em))<f X[X.length-1]:=λi I=>by have:=a0 i I;rw[C i (by lia)] at this;simpa using this
 have o:∀i (J:i<Y.length),m<=i->f X[X.length-1]<=f Y[i]:=λi J I=>by have:=o i I J;rw[C i J] at this;simpa using this
 have m0:0<m:=Nat.pos_of_ne_zero λh=>by have h5:=o 0 lY (by lia);have h6:=a5 (X.length-1) (by lia) (by lia);omega
 dsimp only;rw[Az (show ¬(m==0)=true by simp;lia)];have ex:((arrOf st).extract k X.length).toList=X.drop k:=by rw[iF,ea,List.drop_append_of_le_length (by lia),Dr (by simp),AZ (by simp)]
 have ey:((arrOf st).extract X.length<|X.length+m).toList=Y.take m:=by rw[iF,ea,List.drop_left,B1]
 have xh:∀(r:VJ) (g:Nat),w9 f (X.drop k) (Y.take m) r.toList->Q (failedOf st).isNone (SortSt.mk' (kindOf st) (r.toList.zipIdx.foldl (λa x=>a.setIfInBounds (k+x.2) x.1)<|arrOf st) pn g<|failedOf st):=by
  rintro r g ⟨hm,hs⟩;have lr:r.toList.length=X.length-k+m:=by rw[hm.length_eq];simp;lia
  have pt:=mV r.toList (arrOf st) k 0 (by rw[lr,<-A5,ea,Aa];lia);rw[ea,lr,Nat.add_zero,show k+(X.length-k+m)=X.length+m by lia,Dr (by lia),List.drop_length_add_append] at pt;rw[hf];refine q _ rfl a3 ((Et pt).trans ?_)<|Eq.subst (motive:=List.Pairwise λx y=>f x<=f y) pt.symm ?_
  ·have h1:=(BG<|X.take k).mpr<|(BE<|Y.drop m).mpr hm;rwa[Ay<|X.drop k,Be,<-Ay (X.take k) (X.drop k),Be] at h1
  ·refine AU.mpr ⟨sX.sublist<|DK _ _,AU.mpr ⟨hs,sY.sublist<|List.drop_sublist _ _,λx l y hy=>?_⟩,λx l y hy=>?_⟩
   ·obtain⟨j,J,h2,rfl⟩:=Fq hy;rcases Aj.mp (hm.mem_iff.mp l) with h|h
    ·obtain⟨i,I,_,rfl⟩:=Fq h;exact BX (uD sX (by lia) (by lia))<|o j J h2
    ·obtain⟨i,I,h1,rfl⟩:=F9 h;exact uD sY (by lia) J
   ·obtain⟨i,I,h1,rfl⟩:=F9 l;have low:∀z∈Y,f X[i]<=f z:=λz hz=>by obtain⟨j,J,rfl⟩:=F8 hz;exact BX (a4 i h1) (uD sY (A8 _) J)
    rcases Aj.mp hy with h|h
    ·rcases Aj.mp (hm.mem_iff.mp h) with h|h
     ·obtain⟨j,J,h2,rfl⟩:=Fq h;exact uD sX (by lia) J
     ·exact low y<|BP h
    ·exact low y<|CP h
 generalize (arrOf st).extract k X.length=U at ex ⊢;generalize (arrOf st).extract X.length (X.length+m)=V at ey ⊢;have zU:U.size=X.length-k:=by rw[<-A5,ex];simp
 have zV:V.size=m:=by rw[<-A5,ey];simp;lia
 have q5:0<U.size:=by lia
 have q6:0<V.size:=by lia
 have v0:V[0]=Y[0]:=by
  have:V.toList[0]?=(Y.take m)[0]?:=by rw[ey]
  rw[A7,C6,AA m0] at this;simpa[q6,lY] using this
 have ul:U[U.size-1]=X[X.length-1]:=by
  have:U.toList[U.size-1]?=(X.drop k)[U.size-1]?:=by rw[ex]
  rw[A7,C7,show k+(U.size-1)=X.length-1 by lia] at this;rw[Array.getElem?_eq_getElem (by lia),Ai (by lia)] at this;exact AS this
 have q1:∀x∈U.toList,Ok x:=λx l=>a7 x (CP (by rw[ex] at l;exact l));have q2:∀x∈V.toList,Ok x:=λx l=>ab x (BP (by rw[ey] at l;exact l));have q3:U.toList.Pairwise λx y=>f x<=f y:=by rw[ex];exact sX.sublist<|List.drop_sublist _ _
 have q4:V.toList.Pairwise λx y=>f x<=f y:=by rw[ey];exact sY.sublist<|DK _ _
 have q7:∀x∈U.toList,f V[0]<f x:=λx l=>by rw[v0];rw[ex] at l;obtain⟨i,I,h1,rfl⟩:=Fq l;exact a5 i I h1
 have q8:∀x∈V.toList,f x<f U[U.size-1]:=λx l=>by rw[ul];rw[ey] at l;obtain⟨i,I,h1,rfl⟩:=F9 l;exact a0 i h1
 rw[<-ex,<-ey] at xh;split
 ·exact Ac<|yx O hk q1 q2 q3 q4 q5 q6 q7 q8 λr g h=>Ac<|wpS_modify<|Ac<|wpS_get<|Ad<|xh r g h
 ·exact Ac<|Qp O hk q1 q2 q3 q4 q5 q6 q7 q8 λr g h=>Ac<|wpS_modify<|Ac<|wpS_get<|Ad<|xh r g h
end
theorem jT{arr:Array α}{P R:List α}(h:arr.toList=P++R)(I:n<=R.length):(mirror arr P.length (P.length+n)<|(P.length+n-P.length) / 2).toList=P++((R.take n).reverse++R.drop n):=by
 have J:arr.size=P.length+R.length:=by rw[<-A5,h];simp
 refine Dh λk=>?_;rw[A7,getElem?_mirror_all (by lia)];by_cases c:P.length<=k/\k<P.length+n
 ·rw[AA c,<-A7,h,Ax (by omega),Ax (by lia),AI (by simp;omega),List.getElem?_reverse (by simp;omega),C6,AM,AA (by omega)];congr 1;lia
 ·rw[Az c,<-A7,h];by_cases c2:k<P.length
  ·rw[AI c2,AI c2]
  ·rw[Ax (by exact yr),Ax (by omega),Ax (by simp;lia),C7];congr 1;simp;lia
theorem uL{arr:Array α}{P R:List α}{k l:Nat}(h:arr.toList=P++R)(I:k<R.length)(J:l<=k):(bubble arr (P.length+k)<|P.length+k-(P.length+l)).toList=P++(R.take l++R[k]::((R.drop l).take (k-l)++R.drop (k+1))):=by
 have U:arr.size=P.length+R.length:=by rw[<-A5,h];simp
 refine Dh λi=>?_;rw[A7,getElem?_bubble (by lia) _ (by exact EE _ _),show P.length+k-(P.length+k-(P.length+l))=P.length+l by omega];by_cases c1:i=P.length+l
 ·rw[AA c1,<-A7,h,c1,Ax (by exact Bg _ _),Ax (by exact Bg _ _),Ax (by simp;lia)];rw[show P.length+l-P.length-(R.take l).length=0 by simp;lia,show P.length+k-P.length=k by lia,List.getElem?_cons_zero];simp[I]
 ·rw[Az c1];by_cases c2:P.length+l<i/\i<=P.length+k
  ·rw[AA c2,<-A7,h,Ax (by omega),Ax (by lia),Ax (by simp;lia)];obtain⟨d,hd⟩:∃d,i=P.length+l+d+1:=⟨i-P.length-l-1,by omega⟩;rw[show i-P.length-(R.take l).length=d+1 by simp;lia,C8,AI (by simp;omega),C6,AA (by omega),C7];congr 1;omega
  ·rw[Az c2,<-A7,h];by_cases c3:i<P.length
   ·rw[AI c3,AI c3]
   ·rw[Ax (by exact yr),Ax (by omega)];by_cases c4:i<P.length+l
    ·rw[AI (by simp;lia),C6,AA (by omega)]
    ·obtain⟨d,hd⟩:∃d,i=P.length+k+d+1:=⟨i-P.length-k-1,by omega⟩;rw[Ax (by simp;lia),show i-P.length-(R.take l).length=(k-l)+d+1 by simp;lia,C8,Ax (by simp;omega),C7];congr 1;simp;lia
section
variable {w:Vx}{κ:SortKind}{Ok:Keyed->Prop}{f:VL}
structure Tl(κ:SortKind)(Ok:Keyed->Prop)(st:SortSt)(P R:VI):Prop where
 kind:kindOf st=κ
 arr:(arrOf st).toList=P++R
 ok:∀x∈R,Ok x
theorem jG(O:Ord prog w A s κ Ok f){st:SortSt}{P R:VI}(T:Tl κ Ok st P R)(hi:i<R.length)(J:j<R.length){a b:Nat}(ea:a=P.length+i)(eb:b=P.length+j){Q:Option Bool->SortSt->Prop}(q:Q (some<|decide<|f R[i]<f R[j]) st):wpS (model prog w) A E s (ltAt' a b) Q st:=by
 have I:∀i (hi:i<R.length),(arrOf st)[P.length+i]?=some R[i]:=λi hi=>by rw[<-A7,T.arr,Ax (by exact Bg _ _),B1];simp
 subst ea eb;rw[ltAt'_eq];refine Ac<|wpS_get ?_;refine Ac<|xw (I i hi)<|Ac<|xw (I j J) ?_;exact w_lt O T.kind (T.ok _<|Cw _) (T.ok _<|Cw _) q
def Up(f:VL)(R:VI)(n:Nat):Prop:=∀i j (_:i<=j) (_:j<R.length),j<n->f (R[i]'(by exact jM))<=f R[j]
theorem Up.snoc{R:VI}(h:Up f R n)(h1:1<=n)(g:n<R.length)(hs:f (R[n-1]'(by exact qF))<=f R[n]):Up f R (n+1):=λi j I J U=>by
 rcases DB j n with c|c
 ·exact h i j I J c
 ·have e:j=n:=by lia
  subst e;rcases DB i j with c2|c2
  ·exact BX (h i (j-1) (by omega) (by exact qF) (by exact xp)) hs
  ·have e:i=j:=by lia
   subst e;exact Dc _
theorem Up.pair{R:VI}(h:Up f R n)(g:n<=R.length):(R.take n).Pairwise λx y=>f x<=f y:=by rw[CY];intro i j I J U;rw[AM] at I J;rw[BN,BN];exact h i j (by exact jE) (by lia) (by lia)
end
section
variable {w:Vx}{κ:SortKind}{Ok:Keyed->Prop}{f:VL}
theorem Tl.same{st:SortSt}{P R R':VI}(T:Tl κ Ok st P R)(p:R'.Perm R){arr:VJ}(h:arr.toList=P++R'):Tl κ Ok (setArr st arr) P R':=⟨T.kind,h,λx I=>T.ok x<|p.mem_iff.mp I⟩
theorem Up.one{R:VI}:Up f R 1:=λi j I J h=>by
 have:i=j:=by lia
 subst this;exact Dc _
theorem im{c:Prop}{_:Decidable c}{K T:StateT SortSt Sem α}{P:SortSt->Prop}{Q:α->SortSt->Prop}{st:SortSt}(J:¬c->P st)(key:∀I,P I->wpS (model prog w) A E s K Q I)
 (hp:c->(∀I,P I->wpS (model prog w) A E s K Q I)->wpS (model prog w) A E s T Q st):wpS (model prog w) A E s (if c then T else K) Q st:=by
 by_cases h:c
 ·rw[AA h];exact hp h key
 ·rw[Az h];exact key st<|J h
def gR(f:VL)(R:VI)(n:Nat):Prop:=∀i j (_:i<=j) (_:j<R.length),j<n->f R[j]<=f (R[i]'(by exact jM))
theorem Ir{R R':VI}(e:R'.map f=R.map f)(h1:i<R'.length)(h2:i<R.length):f R'[i]=f R[i]:=by
 have:(R'.map f)[i]?=(R.map f)[i]?:=by rw[e]
 rw[Am,Am,Ai h1,Ai h2] at this;exact AS this
theorem gR.same{R R':VI}(D:gR f R n)(e:R'.map f=R.map f):gR f R' n:=λi j I U J=>by
 have l:R'.length=R.length:=by have:=BO List.length e;rwa[Ag,Ag] at this
 rw[Ir e U (by lia),Ir e (by lia) (by lia)];exact D i j I (by lia) J
theorem gR.snoc{R:VI}(h:gR f R n)(h1:1<=n)(g:n<R.length)(hs:f R[n]<=f (R[n-1]'(by exact qF))):gR f R (n+1):=λi j I J U=>by
 rcases DB j n with c|c
 ·exact h i j I J c
 ·have e:j=n:=by lia
  subst e;rcases DB i j with c2|c2
  ·exact BX hs<|h i (j-1) (by omega) (by exact qF) (by exact xp)
  ·have e:i=j:=by lia
   subst e;exact Dc _
theorem mC{arr:VJ}{P R:VI}{a b:Nat}{v:Int}(h:arr.toList=P++R)(U:a<=b)(o:b<=R.length)(g:∀i (_:i<R.length),a<=i->i<b->f R[i]=v):
 ∃R',(mirror arr (P.length+a) (P.length+b)<|(P.length+b-(P.length+a)) / 2).toList=P++R'/\R'.Perm R/\R'.map f=R.map f:=by
 have j:(P++R.take a).length=P.length+a:=by simp;lia
 have I:R=R.take a++((R.drop a).take (b-a)++(R.drop a).drop (b-a)):=by rw[Be,Be]
 have m:=jT (P:=P++R.take a) (R:=R.drop a) (n:=b-a) (by rw[h,Ay,Be]) (by simp;lia);rw[j,show P.length+a+(b-a)=P.length+b by lia,Ay] at m;refine⟨_,m,?_,?_⟩
 ·refine List.Perm.trans ?_<|Et I.symm;exact(BG _).mpr ((BE _).mpr<|DM _)
 ·have r:((R.drop a).take<|b-a).map f=List.replicate (b-a) v:=by refine List.ext_getElem (by simp;lia) λi p l=>?_;rw[List.getElem_map,BN,DL,List.getElem_replicate];rw[Ck] at l;exact g _ _ (by lia) (by lia)
  have J:=BO (List.map f) I;rw[AD,AD,r] at J;rw[AD,AD,List.map_reverse,r,List.reverse_replicate,J]
theorem Qs(O:Ord prog w A s κ Ok f){st:SortSt}{P R:VI}(T:Tl κ Ok st P R)(h1:1<=R.length){Q:Option Nat->SortSt->Prop}
 (q:∀n R' arr,1<=n->n<=R.length->R'.Perm R->arr.toList=P++R'->Up f R' n->Q (some n) (setArr st arr)):wpS (model prog w) A E s (countRun' P.length R.length) Q st:=by
 have aL:setArr st (arrOf st)=st:=rfl;refine Ac (AY (AQ (I:=λx c g=>g=st/\c=(none,x)/\Up f R x)
  (Q:=λc g=>g=st/\∃n,c=(none,n)/\1<=n/\n<=R.length/\Up f R n/\(n=R.length\/∃h:n<R.length,f R[n]<f (R[n-1]'(by exact qF)))) ?_ ?_ ⟨rfl,rfl,Up.one⟩) ?_)
 ·rintro x c g t hx ⟨rfl,rfl,U⟩;dsimp only;refine Ac<|jG O T (i:=x) (j:=x-1) hx (by exact qF) rfl (by lia) ?_;dsimp only;by_cases c:f R[x]<f (R[x-1]'(by omega))
  ·rw[AE c,AA rfl];exact Ad ⟨rfl,x,rfl,t,by exact jE,U,.inr ⟨hx,c⟩⟩
  ·rw[Av c,Az (by simp)];exact Ad ⟨rfl,rfl,U.snoc t hx (by omega)⟩
 ·rintro c g ⟨rfl,rfl,U⟩;exact⟨rfl,_,rfl,by lia,by lia,by rw[Cy h1] at *;exact U,.inl (by lia)⟩
 ·rintro c g ⟨rfl,n,rfl,a0,a3,U,a5⟩;dsimp only;by_cases c1:(n==R.length)=true
  ·rw[AA c1];exact Ad<|q n R (arrOf g) a0 a3 (Ci _) T.arr U
  rw[Az c1];have c1:¬n=R.length:=by simpa using c1
  have a7:n<R.length:=by exact x_
  have hd:f R[n]<f (R[n-1]'(by omega)):=by
   rcases a5 with h|⟨h,h'⟩
   ·exact absurd h c1
   ·exact h'
  refine im (P:=λo=>∃arr R',o=setArr g arr/\arr.toList=P++R'/\R'.Perm R/\gR f R' (n+1)) (λc2=>⟨arrOf g,R,rfl,T.arr,Ci _,?_⟩) ?_ λc2 key=>?_
  ·obtain rfl:n=1:=by lia
   exact gR.snoc (λi j ab hj a4=>by (have e:i=j:=by lia);(subst e;exact Dc _)) (Al _) a7<|BQ hd
  rotate_left
  ·refine Ac<|jG O T (i:=0) (j:=n-1) (by assumption) (by exact qF) rfl (by omega) ?_;dsimp only;by_cases c3:f R[0]<f (R[n-1]'(by omega))
   ·rw[AE c3,AA rfl];exact Ad<|q n R (arrOf g) a0 a3 (Ci _) T.arr U
   rw[Av c3,Az (by simp)];have al:∀i (_:i<R.length),0<=i->i<n->f R[i]=f R[0]:=λi hi _ av=>by have a1:=U 0 i (A8 _) hi av;have a2:=U i (n-1) (by lia) (by lia) (by lia);lia
   obtain⟨R',m1,m2,m3⟩:=mC (f:=f) T.arr (A8 n) a3 al;refine Ac<|wpS_modify<|key _ ⟨_,R',rfl,m1,m2,gR.same (gR.snoc (λi j ab hj a4=>?_) a0 a7<|BQ hd) m3⟩;rw[al j hj (A8 _) a4,al i (by lia) (A8 _) (by lia)];exact Dc _
  rintro _ ⟨arr,R0,rfl,r,ac,D0⟩;refine Ac<|wpS_lift<|BZ ⟨rfl,?_⟩;have l0:R0.length=R.length:=ac.length_eq;refine Ac (AY (AQ (I:=λx c o=>∃J arr R',c=(none,x,J)/\o=setArr g arr/\arr.toList=P++R'/\R'.Perm R/\gR f R' x/\J+1<=x/\∃v,∀i (_:i<R'.length),x-(J+1)<=i->i<x->f R'[i]=v)
   (Q:=λc o=>∃n J arr R',c=(none,n,J)/\o=setArr g arr/\arr.toList=P++R'/\R'.Perm R/\gR f R' n/\J+1<=n/\n<=R.length/\∃v,∀i (_:i<R'.length),n-(J+1)<=i->i<n->f R'[i]=v) ?_ ?_ ⟨0,arr,R0,rfl,rfl,r,ac,D0,by lia,f<|R0[n]'(by lia),λi hi h2 h3=>by (have e:i=n:=by lia);(subst e;rfl)⟩) ?_)
  ·rintro x c o t hx ⟨J,arr,p,rfl,rfl,r,l,D,hq,v,C⟩;have l1:p.length=R.length:=l.length_eq;have T1:=T.same l r;dsimp only;refine Ac<|jG O T1 (i:=x) (j:=x-1) (by lia) (by lia) rfl (by lia) ?_;dsimp only;by_cases c:f (p[x]'(by lia))<f (p[x-1]'(by omega))
   ·rw[AE c,AA rfl];refine im (P:=λo=>∃arr R',o=setArr g arr/\arr.toList=P++R'/\R'.Perm R/\gR f R' (x+1)) (λ_=>⟨arr,p,rfl,r,l,D.snoc (by lia) (by lia)<|BQ c⟩) ?_ λc2 key=>?_
    ·rintro _ ⟨arr,R',rfl,r,l,D⟩;exact Ad ⟨0,arr,R',rfl,rfl,r,l,D,by lia,f (R'[x]'(by have:=l.length_eq;lia)),λi hi h2 h3=>by (have e:i=x:=by lia);(subst e;rfl)⟩
    ·obtain⟨R',m1,m2,m3⟩:=mC (f:=f) (a:=x-(J+1)) (b:=x) r (by lia) (by lia) C;refine Ac<|wpS_modify<|key _ ⟨_,R',rfl,?_,m2.trans l,gR.same (D.snoc (by lia) (by lia)<|BQ c) m3⟩;rw[<-m1];show(mirror arr (P.length+x-(J+1)) (P.length+x)<|(P.length+x-(P.length+x-(J+1))) / 2).toList=_;rw[show P.length+x-(J+1)=P.length+(x-(J+1)) by lia]
   ·rw[Av c,Az (by simp)];refine Ac<|jG O T1 (i:=x-1) (j:=x) (by omega) (by lia) (by lia) rfl ?_;dsimp only;by_cases c3:f (p[x-1]'(by omega))<f (p[x]'(by lia))
    ·rw[AE c3,AA rfl];exact Ad ⟨x,J,arr,p,rfl,rfl,r,l,D,hq,by lia,v,C⟩
    ·rw[Av c3,Az (by simp)];refine Ad ⟨J+1,arr,p,rfl,rfl,r,l,D.snoc (by lia) (by lia) (by lia),by lia,v,λi hi h2 h3=>?_⟩;rcases DB i x with h|h
     ·exact C i hi (by lia) h
     ·have:i=x:=by lia
      subst this;rw[<-C (i-1) (by lia) (by lia) (by lia)];lia
  ·rintro c o ⟨J,arr,p,rfl,rfl,r,l,D,hq,v,C⟩;exact⟨_,J,arr,p,rfl,rfl,r,l,D,hq,by lia,v,C⟩
  ·rintro c o ⟨n,J,arr,p,rfl,rfl,r,l,D,hq,g2,v,C⟩;have l1:p.length=R.length:=l.length_eq;dsimp only;refine im (P:=λo=>∃arr R',o=setArr g arr/\arr.toList=P++R'/\R'.Perm R/\gR f R' n) (λ_=>⟨arr,p,rfl,r,l,D⟩) ?_ (λc2 key=>?_)
   rotate_left
   ·obtain⟨R',m1,m2,m3⟩:=mC (f:=f) (a:=n-(J+1)) (b:=n) r (by lia) (by lia) C;refine Ac<|wpS_modify<|key _ ⟨_,R',rfl,?_,m2.trans l,D.same m3⟩;rw[<-m1];show(mirror arr (P.length+n-(J+1)) (P.length+n)<|(P.length+n-(P.length+n-(J+1))) / 2).toList=_;rw[show P.length+n-(J+1)=P.length+(n-(J+1)) by lia]
   clear C D r l l1;rintro _ ⟨arr,p,rfl,r,l,D⟩;have l1:p.length=R.length:=l.length_eq;have T1:=T.same l r;have T':=T1.same (R':=(p.take n).reverse++p.drop n) (((BE _).mpr<|DM _).trans (by rw[Be]))<|jT r (by lia);obtain⟨R',eR⟩:∃R',R'=(p.take n).reverse++p.drop n:=⟨_,rfl⟩;have au:R'.Perm R:=by rw[eR];exact(((BE _).mpr<|DM _).trans (by rw[Be])).trans l
   have lR:R'.length=R.length:=au.length_eq;have U':Up f R' n:=λi j ab hj a4=>by
    subst eR;rw[List.getElem_append_left (by simp;lia),List.getElem_append_left (by simp;lia),List.getElem_reverse,List.getElem_reverse,BN,BN];refine D _ _ ?_ (by simp;omega) ?_
    ·simp;omega
    ·simp;omega
   rw[<-eR] at T';refine Ac<|wpS_modify ?_;refine Ac (AY (AQ (I:=λx c o=>o=setArr g (mirror arr P.length (P.length+n)<|(P.length+n-P.length) / 2)/\c=(none,x)/\Up f R' x)
    (Q:=λc o=>o=setArr g (mirror arr P.length (P.length+n)<|(P.length+n-P.length) / 2)/\∃n,c=(none,n)/\1<=n/\n<=R.length/\Up f R' n) ?_ ?_ ⟨rfl,rfl,U'⟩) ?_)
   ·rintro x c o t hx ⟨rfl,rfl,U⟩;dsimp only;refine Ac<|jG O T' (i:=x) (j:=x-1) (by lia) (by omega) rfl (by lia) ?_;dsimp only;by_cases c:f (R'[x]'(by omega))<f (R'[x-1]'(by omega))
    ·rw[AE c,AA rfl];exact Ad ⟨rfl,x,rfl,by lia,by exact jE,U⟩
    ·rw[Av c,Az (by simp)];exact Ad ⟨rfl,rfl,U.snoc (by omega) (by lia) (by omega)⟩
   ·rintro c o ⟨rfl,rfl,U⟩;exact⟨rfl,_,rfl,by lia,by lia,U⟩
   ·rintro c o ⟨rfl,n,rfl,k1,k2,U⟩;exact Ad<|q n R' _ k1 k2 au T'.arr U
end
section
variable {w:Vx}{κ:SortKind}{Ok:Keyed->Prop}{f:VL}
theorem Up.of{R:VI}(h:(R.take n).Pairwise λx y=>f x<=f y):Up f R n:=λi j I U J=>by have:=uD h (i:=i) (j:=j) I (by simp;lia);rw[BN,BN] at this;exact this
theorem Qt{R:VI}{k l:Nat}(I:k<R.length)(J:l<=k):(R.take l++R[k]::((R.drop l).take (k-l)++R.drop (k+1))).Perm R:=by
 have e:R=R.take l++((R.drop l).take (k-l)++(R[k]::R.drop (k+1))):=by rw[<-Ay,Fp _ J,<-CW I,Be]
 refine List.Perm.trans ?_<|Et e.symm;exact(BG _).mpr Ce.symm
theorem Qu{R:VI}{k l:Nat}(p:k<R.length)(r:l<=k)(U:Up f R k)(lo:∀i (_:i<l),f (R[i]'(by lia))<=f R[k])(hi:∀i (_:i<k),l<=i->f R[k]<=f (R[i]'(by exact rQ))):
 Up f (R.take l++R[k]::((R.drop l).take (k-l)++R.drop (k+1))) (k+1):=by
 apply Up.of;have e:R.take l++R[k]::((R.drop l).take (k-l)++R.drop (k+1))=(R.take l++R[k]::(R.drop l).take (k-l))++R.drop (k+1):=by simp
 rw[e,List.take_left' (by simp;lia)];have I:=U.pair<|Bf p;rw[<-Fp R r] at I;have I:=AU.mp I;have t:∀y∈(R.drop l).take (k-l),f R[k]<=f y:=λy J=>by obtain⟨j,o,rfl⟩:=BK J;rw[AM,BC] at o;rw[BN,DL];exact hi (l+j) (by lia) (by exact Bg _ _)
 have C:∀x∈R.take l,f x<=f R[k]:=λx g=>by obtain⟨j,o,rfl⟩:=BK g;rw[AM] at o;rw[BN];exact lo j (by lia)
 refine AU.mpr ⟨I.1,List.pairwise_cons.mpr ⟨t,I.2.1⟩,λx g y J=>?_⟩;rcases Aq.mp J with rfl|J
 ·exact C x g
 ·exact I.2.2 x g y J
theorem Qv(O:Ord prog w A s κ Ok f){st:SortSt}{P R:VI}(T:Tl κ Ok st P R){ok:Nat}(hn:n<=R.length)(h1:1<=ok)(ho:ok<=n)(U:Up f R ok){Q:Bool->SortSt->Prop}
 (q:∀R' arr,R'.Perm R->arr.toList=P++R'->Up f R' n->Q true (setArr st arr)):wpS (model prog w) A E s (binarySort' P.length n ok) Q st:=by
 have a0:setArr st (arrOf st)=st:=rfl;refine Ac (AY (AQ (I:=λx c J=>c=(none,())/\∃R' arr,J=setArr st arr/\R'.Perm R/\arr.toList=P++R'/\Up f R' x)
  (Q:=λc J=>c=(none,())/\∃R' arr,J=setArr st arr/\R'.Perm R/\arr.toList=P++R'/\Up f R' n) ?_ ?_ ⟨rfl,R,arrOf st,rfl,Ci _,T.arr,by rw[CG h1];exact U⟩) ?_)
 ·rintro x c J a1 hx ⟨rfl,R',arr,rfl,p,t,o⟩;have T':=T.same p t;have lR:R'.length=R.length:=p.length_eq;have g:x<R'.length:=by lia
  dsimp only;refine Ac (AY (AQ (I:=λy c J=>J=setArr st arr/\∃l r,c=(none,l,r)/\l<=r/\r<=x/\r-l+y<=x/\(∀i (_:i<l) (_:i<R'.length),f R'[i]<=f R'[x])/\(∀i (_:i<x),r<=i->f R'[x]<=f (R'[i]'(by exact rQ))))
   (Q:=λc J=>J=setArr st arr/\∃l,c=(none,l,l)/\l<=x/\(∀i (_:i<l) (_:i<R'.length),f R'[i]<=f R'[x])/\(∀i (_:i<x),l<=i->f R'[x]<=f (R'[i]'(by lia)))) ?_ ?_ ⟨rfl,0,x,rfl,A8 _,Al _,by exact EE _ _,λi h=>by lia,λi h h'=>by omega⟩) ?_)
  ·rintro y c J _ hy ⟨rfl,l,r,rfl,g1,g2,g3,C,g5⟩;dsimp only;by_cases c:l>=r
   ·rw[AA c];obtain rfl:l=r:=by lia
    exact Ad ⟨rfl,l,rfl,g2,C,g5⟩
   ·rw[Az c];refine Ac<|jG O T' (i:=x) (j:=(l+r) / 2) g (by lia) rfl rfl ?_;dsimp only;by_cases e:f R'[x]<f (R'[(l+r) / 2]'(by lia))
    ·rw[AE e,AA rfl];refine Ad ⟨rfl,l,(l+r) / 2,rfl,by lia,by lia,by omega,C,λi h h'=>?_⟩;exact BX (BQ e)<|o _ _ h' (by exact rQ) h
    ·rw[Av e,Az (by simp)];refine Ad ⟨rfl,(l+r) / 2+1,r,rfl,by lia,g2,by omega,λi h h'=>?_,g5⟩;exact BX (o i ((l+r) / 2) (by exact HA) (by lia) (by lia)) (by omega)
  ·rintro c J ⟨rfl,l,r,rfl,g1,g2,g3,C,g5⟩;obtain rfl:l=r:=by lia
   exact⟨rfl,l,rfl,g2,C,g5⟩
  ·rintro c J ⟨rfl,l,rfl,g2,C,g5⟩;dsimp only;refine Ac<|wpS_modify ?_;exact Ad ⟨rfl,_,_,rfl,(Qt g g2).trans p,uL t g g2,Qu g g2 o (λi h=>C i h (by lia)) g5⟩
 ·rintro c J ⟨rfl,R',arr,rfl,p,t,o⟩;exact⟨rfl,R',arr,rfl,p,t,by rw[CG h1,Cy ho] at o;exact o⟩
 ·rintro c J ⟨rfl,R',arr,rfl,p,t,o⟩;exact Ad<|q R' arr p t o
end
section
variable {w:Vx}{κ:SortKind}{Ok:Keyed->Prop}{f:VL}
theorem Qw{N:Nat}(h:N<128):N<=2*(sortPriv% PySem.Builtin.minRun) N N 0:=by
 show N<=2*minRun' N N 0;cases N with
 |zero=>exact A8 _
 |succ r=>
  rw[minRun'_succ];split
  ·lia
  ·cases r with|zero=>lia|succ r=>rw[minRun'_succ,AA (by lia)];lia
def F_(f:VL)(I:Nat)(pn:Array<|Nat×Nat×Nat)(X Y R:VI):Prop:=
 (pn=#[]/\X=[]/\Y=[])\/(∃w,pn=#[(0,X.length,w)]/\Y=[]/\(I<=X.length\/R=[])/\X.Pairwise λx y=>f x<=f y)\/
  ∃w v,pn=#[(0,X.length,w),(X.length,Y.length,v)]/\0<X.length/\0<Y.length/\R=[]/\(X.Pairwise λx y=>f x<=f y)/\Y.Pairwise λx y=>f x<=f y
theorem Iu(O:Ord prog w A s κ Ok f){st:SortSt}{Q:Unit->SortSt->Prop}(a2:(arrOf st).size<128)(hk:kindOf st=κ)(hp:pendingOf st=#[])(hf:failedOf st=none)(ok:∀x∈(arrOf st).toList,Ok x)
 (q:∀g,failedOf g=none->(arrOf g).toList.Perm (arrOf st).toList->((arrOf g).toList.Pairwise λx y=>f x<=f y)->Q () g):wpS (model prog w) A E s sortRuns' Q st:=by
 refine Ac<|wpS_get ?_;dsimp only;have lN:(arrOf st).toList.length=(arrOf st).size:=A5;obtain⟨N,eN⟩:∃N,N=(arrOf st).size:=⟨_,rfl⟩;rw[<-eN] at a2 lN ⊢;obtain⟨Z,eZ⟩:∃Z,Z=(arrOf st).toList:=⟨_,rfl⟩;rw[<-eZ] at lN ok q;have ab:=Qw a2;generalize (sortPriv% PySem.Builtin.minRun) N N 0=mr at ab ⊢;refine Ac (AY (AQ (I:=λx c g=>∃X Y R lo,c=(none,lo)/\kindOf g=κ/\failedOf g=none/\(arrOf g).toList=X++Y++R/\(X++Y++R).Perm Z/\lo=(X++Y).length/\F_ f mr (pendingOf g) X Y R/\x<=lo)
  (Q:=λc g=>∃X Y lo,c=(none,lo)/\kindOf g=κ/\failedOf g=none/\(arrOf g).toList=X++Y/\(X++Y).Perm Z/\F_ f mr (pendingOf g) X Y []) ?_ ?_ ⟨[],[],Z,0,rfl,hk,hf,eZ.symm,.refl _,rfl,.inl ⟨hp,rfl,rfl⟩,Al _⟩) ?_)
 ·rintro x c g _ hx ⟨X,Y,R,lo,rfl,k1,k2,t,r,rfl,k6,k7⟩;dsimp only;have lt:=r.length_eq;rw[Aa,lN] at lt;by_cases c:(X++Y).length>=N
  ·rw[AA c];cases BF (show R.length=0 by lia);rw[Aw] at t r;exact Ad ⟨X,Y,_,rfl,k1,k2,t,r,k6⟩
  rw[Az c,show N-(X++Y).length=R.length by lia];have T:Tl κ Ok g (X++Y) R:=⟨k1,t,λx hx=>ok x<|r.mem_iff.mp<|Ah _ hx⟩;refine Ac<|Qs O T (by lia) λn R1 a3 g1 g2 a0 a5 U1=>?_;dsimp only;have l1:=a0.length_eq;have xh:∀{J:SortSt} {R2:VI} {j:Nat} {pn:Array<|Nat×Nat×Nat},kindOf J=κ->failedOf J=none->(arrOf J).toList=X++Y++R2->pendingOf J=pn.push ((X++Y).length,j,0)->((pendingOf g=#[]/\pn=#[])\/∃v,pn=(pendingOf g).modify ((pendingOf g).size-1) λp=>(p.1,p.2.1,v))->R2.Perm R->1<=j->j<=R.length->(mr<=j\/j=R.length)->Up f R2 j->
   ∃X' Y' R' lo,((none,(X++Y).length+j):Option Unit×Nat)=(none,lo)/\kindOf J=κ/\failedOf J=none/\(arrOf J).toList=X'++Y'++R'/\(X'++Y'++R').Perm Z/\lo=(X'++Y').length/\F_ f mr (pendingOf J) X' Y' R'/\x+1<=lo:=λ{J R2 j pn} h1 h2 h3 h4 hn p2 h5 h6 h7 U=>by
   have l2:=p2.length_eq;have ac:(R2.take j).length=j:=by rw[AM];lia
   have U':=U.pair (by lia);have pz:(X++Y++R2).Perm Z:=((BG _).mpr p2).trans r;rcases k6 with⟨o,rfl,rfl⟩|⟨w,o,rfl,h8,h9⟩|⟨w,v',o,_,_,rfl,_⟩
   ·have e2:pn=#[]:=by
     rcases hn with⟨_,h⟩|⟨v,h⟩
     ·exact h
     ·rw[h,o];rfl
    refine⟨R2.take j,[],R2.drop j,_,rfl,h1,h2,by rw[h3];simp,by simpa using pz,by simp;lia,.inr (.inl ⟨0,by rw[h4,e2,ac];rfl,rfl,?_,U'⟩),by lia⟩;rcases h7 with h|h
    ·exact .inl (by lia)
    ·exact .inr<|List.drop_eq_nil_of_le (by lia)
   ·have e2:∃v,pn=#[(0,X.length,v)]:=by
     rcases hn with⟨h,_⟩|⟨v,h⟩
     ·rw[o] at h;cases h
     ·exact⟨v,by rw[h,o];rfl⟩
    obtain⟨v,e2⟩:=e2;have r0:R≠[]:=λe=>by rw[e] at h6;exact absurd h6 (by simp;lia)
    have h8:=h8.resolve_right r0;rw[Aw] at h3 h4 pz lt c ⊢;have en:j=R2.length:=by rcases h7 with h'|h'<;>lia
    rw[AZ (by lia)] at U';exact⟨X,R2,[],_,rfl,h1,h2,by rw[h3];simp,by simpa using pz,by rw[Aa,en],.inr (.inr ⟨v,0,by rw[h4,e2,en];rfl,by lia,by lia,rfl,h9,U'⟩),by lia⟩
   ·exact absurd h6 (by simp;lia)
  have sz:(pendingOf g).size<=1:=by
   rcases k6 with⟨o,_⟩|⟨w,o,_⟩|⟨w,v',o,_,_,rfl,_⟩
   ·rw[o];exact A8 _
   ·rw[o];exact Al _
   ·exact absurd lt (by simp at c ⊢;lia)
  by_cases cm:n<mr
  case' pos=>
   rw[AA cm];refine Ac<|wpS_lift<|BZ ⟨rfl,?_⟩;refine Ac<|Qv O (T.same a0 a5) (by lia) g1 (by lia) U1 λR2 a7 al au U2=>?_;rw[Az (by simp)];obtain⟨j,a1⟩:∃j,j=min R.length mr:=⟨_,rfl⟩;rw[<-a1] at U2 ⊢;have p2:R2.Perm R:=al.trans a0;have h7:mr<=j\/j=R.length:=by lia
   obtain⟨l,C⟩:∃l,l=setArr (setArr g a3) a7:=⟨_,rfl⟩
  case' neg=>
   rw[Az cm];obtain⟨j,a1⟩:∃j,j=n:=⟨_,rfl⟩;obtain⟨R2,a4⟩:∃R2,R2=R1:=⟨_,rfl⟩;rw[<-a1,<-a4] at U1;rw[<-a1];have U2:=U1;have p2:R2.Perm R:=by rw[a4];exact a0
   have h7:mr<=j\/j=R.length:=by lia
   obtain⟨l,C⟩:∃l,l=setArr g a3:=⟨_,rfl⟩
  all_goals
   have n1:1<=j:=by lia
   have n3:j<=R.length:=by lia
   have o:kindOf l=κ:=by rw[C];exact k1
   have e2:failedOf l=none:=by rw[C];exact k2
   have e3:(arrOf l).toList=X++Y++R2:=by rw[C];first|exact au|(rw[a4];exact a5)
   have e4:pendingOf l=pendingOf g:=by rw[C]
   rw[<-C];refine Ac<|wpS_get ?_;split
   ·refine Ac<|AY (AQ (I:=λy c J=>c=(none,())/\J=l) (Q:=λc J=>c=(none,())/\J=l) ?_ ?_ ⟨rfl,rfl⟩) ?_
    ·rintro y c J _ hy ⟨rfl,rfl⟩;refine Ac<|wpS_get ?_;rw[Az (show ¬(pendingOf J).size > 1 by rw[e4];lia)];exact Ad ⟨rfl,rfl⟩
    ·exactλc J h=>h
    ·rintro c J ⟨rfl,rfl⟩;dsimp only;refine Ac<|wpS_modify<|Ac<|wpS_modify<|Ad ?_;exact xh o e2 e3 rfl (.inr ⟨_,by rw[<-e4]⟩) p2 n1 n3 h7 U2
   ·rename_i hb;have hb:(pendingOf l).back?=none:=Option.eq_none_iff_forall_ne_some.mpr λp=>hb p.1 p.2.1 p.2.2;rw[e4,Array.back?_eq_none_iff] at hb;exact Ac<|wpS_modify<|Ad<|xh o e2 e3 rfl (.inl ⟨hb,e4.trans hb⟩) p2 n1 n3 h7 U2
 ·rintro c g ⟨X,Y,R,lo,rfl,k1,k2,t,r,rfl,k6,k7⟩;have lt:=r.length_eq;rw[Aa,lN] at lt;cases BF (show R.length=0 by lia);rw[Aw] at t r;exact⟨X,Y,_,rfl,k1,k2,t,r,k6⟩
 ·rintro c g ⟨X,Y,lo,rfl,k1,k2,t,r,k6⟩;dsimp only;have lt:=r.length_eq;rw[lN] at lt;refine Ac (AY (AQ (I:=λy c J=>c=(none,())/\((y=0/\J=g)\/(failedOf J=none/\(pendingOf J).size<=1/\(arrOf J).toList.Perm Z/\(arrOf J).toList.Pairwise λx y=>f x<=f y)))
   (Q:=λc J=>c=(none,())/\failedOf J=none/\(arrOf J).toList.Perm Z/\(arrOf J).toList.Pairwise λx y=>f x<=f y) ?_ ?_ ⟨rfl,.inl ⟨rfl,rfl⟩⟩) ?_)
  ·rintro y c J _ hy ⟨rfl,h⟩;refine Ac<|wpS_get ?_;rcases h with⟨rfl,rfl⟩|⟨h1,h2,h3⟩
   ·rcases k6 with⟨o,rfl,rfl⟩|⟨w,o,rfl,_,h9⟩|⟨w,v,o,lX,lY,_,sX,sY⟩
    ·rw[AA (show(pendingOf J).size<=1 by rw[o];exact A8 _)];exact Ad ⟨rfl,k2,by rw[t];exact r,by rw[t];exact .nil⟩
    ·rw[AA (show(pendingOf J).size<=1 by rw[o];exact Al _)];exact Ad ⟨rfl,k2,by rw[t];exact r,by rw[t,Aw];exact h9⟩
    ·rw[Az (show ¬(pendingOf J).size<=1 by rw[o];exact Nat.not_succ_le_self 1)];have gen:∀b:Bool,(if b=true then(pendingOf J).size-2-1 else(pendingOf J).size-2)=0:=λb=>by cases b<;>rw[o]<;>rfl
     refine Ac ?_;show wpS _ _ _ _ (mergeAt'<|if _=true then(pendingOf J).size-2-1 else(pendingOf J).size-2) _ _;rw[gen];refine Qr O k1 k2 o t (λx hx=>ok x<|r.mem_iff.mp hx) lX lY sX sY λav b1 b2 b3 b4=>?_;rw[Az (by simp)];exact Ad ⟨rfl,.inr ⟨b1,by rw[b2];exact Al _,b3.trans r,b4⟩⟩
   ·rw[AA h2];exact Ad ⟨rfl,h1,h3⟩
  ·rintro c J ⟨rfl,h⟩;rcases h with⟨h0,rfl⟩|⟨h1,_,h3⟩
   ·have e:X++Y=[]:=BF (by lia);rw[e] at t r;exact⟨rfl,k2,by rw[t];exact r,by rw[t];exact .nil⟩
   ·exact⟨rfl,h1,h3⟩
  ·rintro c J ⟨rfl,h1,h2,h3⟩;exact Ad<|q J h1 h2 h3
end
open PySem PyProof.Rows PySem.W
def Iv(h:Vy)(B:Int)(x:Keyed):Prop:=∃a o n r p t u,x.1=.ref a/\h.get? a=some o/\o.data=.seq #[.int r t,.int p u] n/\0<=p/\p<B
noncomputable def num(h:Vy)(B:Int)(x:Keyed):Int:=match x.1 with
 |.ref a=>match h.get? a with
  |some o=>match o.data with
   |.seq xs _=>match xs.toList with
    |[.int r _,.int p _]=>r*B+p
    |_=>0
   |_=>0
  |none=>0
 |_=>0
theorem num_of{x:Keyed}{a:Addr}{o:Obj}{r p:Int}{t u:Tok}(I:x.1=.ref a)(J:h.get? a=some o)(U:o.data=.seq #[.int r t,.int p u] n):num h B x=r*B+p:=by unfold num;simp[I,J,U]
theorem tf{w:Vx} :Ord prog w A s (tuples' true) (Iv s.heap B) (num s.heap B):=by
 constructor;rintro x y ⟨a1,o1,n1,I,J,r,t,l,g1,d1,b1,c1⟩ ⟨a2,o2,n2,U,g,C,T,o,g2,d2,b2,c2⟩ E Q h;rw[num_of l g1 d1,num_of o g2 d2] at h;rw[l,o];refine kat_lt g1 d1 g2 d2 ?_;show KatLex prog w A true _ Q [(.int I r,.int U C),(.int J t,.int g T)] 0 s;refine kat_cons<|wpAny_eqBool_int ?_;by_cases c:I=U
 ·subst c;rw[beq_self_eq_true];refine kat_yes<|kat_cons<|wpAny_eqBool_int ?_;by_cases p:J=g
  ·subst p;rw[beq_self_eq_true];refine kat_yes<|kat_nil ?_;have e:decide (I*B+J<I*B+J)=false:=Av (by lia);rw[e] at h;exact h
  ·rw[Eu p];refine kat_no<|kat_one _ _<|PyProof.Rows.lt_int ?_;have e:decide (I*B+J<I*B+g)=decide (J<g):=by
    by_cases z:J<g
    ·rw[AE z];exact AE (by lia)
    ·rw[Av z];exact Av (by lia)
   rw[e] at h;exact h
 ·rw[Eu c];refine kat_no<|oneLt_int ?_;have e:decide (I*B+J<U*B+g)=decide (I<U):=by
   by_cases z:I<U
   ·rw[AE z];have j:(I+1)*B<=U*B:=Cz (by assumption) (by lia);rw[Ez,Int.one_mul] at j;exact AE (by omega)
   ·rw[Av z];have j:(U+1)*B<=I*B:=Cz (by lia) (by lia);rw[Ez,Int.one_mul] at j;exact Av (by lia)
  rw[e] at h;exact h
section
variable {w:Vx}
def du(h:Vy)(B:Int)(v:Vu):Prop:=∃a o n r p t u,v=.ref a/\h.get? a=some o/\o.cls=.type "tuple" /\ o.data=.seq #[.int r t,.int p u] n/\0<=p/\p<B
theorem du.pair{x:Keyed}(k:du h B x.1):Iv h B x:=by obtain⟨a,o,n,r,p,t,u,I,J,_,U,g,j⟩:=k;exact⟨a,o,n,r,p,t,u,I,J,U,g,j⟩
theorem tups{h:Vy}{B:Int}:∀{ks:Vj},(∀v∈ks,du h B v)->∃fs,KatTups h ks fs/\fs.length=ks.length/\∀v∈fs,∃r t,v=Value.int r t
 |[],_=>⟨[],trivial,rfl,λv I=>by simp at I⟩
 |k::ks,J=>by
  obtain⟨fs,U,g,j⟩:=tups (ks:=ks) λv I=>J v<|Ae _ I;obtain⟨a,o,n,r,p,t,u,rfl,l,C,T,_,_⟩:=J k<|Ao ..;refine⟨.int r t::fs,KatTups.cons l C T rfl U,by simp[g],λv I=>?_⟩;rcases Aq.mp I with rfl|I
  ·exact⟨r,t,rfl⟩
  ·exact j v I
theorem Iw{ks:Vj}{Q:SortKind->Vv->Prop}(I:∀v∈ks,du s.heap B v)(j:0<ks.length)(q:Q (tuples' true) s):wpAny (model prog w) A (keyKind' ks.toArray) Q E s:=by
 obtain⟨fs,J,l,U⟩:=tups I;refine kat_kind (T:=.type "int") J (by lia) (λv g=>?_) (by decide) ?_
 ·obtain⟨r,t,rfl⟩:=U v g;exact .now
 ·exact q
theorem u0{R:α->α->Prop}:∀{l:List α},l.length<2->l.Pairwise R
 |[],_=>List.Pairwise.nil
 |[_],_=>List.pairwise_singleton _ _
 |_::_::_,h=>absurd h (by simp)
theorem Qx{a kS:Addr}{ks:Vj}{e l:Nat}{P:PySem.Fin->Vv->Prop}(r:s.heap.get? kS=some (seqObj "list" ks.toArray e))(ha:s.heap.get? a=some (seqObj "list" #[] l))(t:kS≠a)(hl:ks.length=vs.length)(g:vs.length<=127)
 (hk:∀v∈ks,du s.heap B v)
 (h:∀h' tk (xs:VI) c,(∀b,b≠kS->b≠a->h'.get? b=s.heap.get? b)->h'.get? a=some (seqObj "list" (List.toArray (xs.map (·.2))) c)->xs.Perm (ks.zip vs)->(xs.Pairwise λx y=>num s.heap B x<=num s.heap B y)->P (.done<|.ret .none) { s with heap:=h',toks:=tk }):
 wpAny (model prog w) A (ksk_end a false vs.toArray l (.ref kS) ks.toArray) P E s:=by
 have hz:vs.length<=sizeLine:=AO g (by decide);have o:(ks.toArray.zip vs.toArray).toList=ks.zip vs:=by simp
 have tail:∀st:SortSt,failedOf st=none->(arrOf st).toList.Perm (ks.zip vs)->((arrOf st).toList.Pairwise λx y=>num s.heap B x<=num s.heap B y)->wpAny (model prog w) A (ksk_tail a false l (.ref kS) st) P E s:=by
  intro st hf hp hs;have s1:=vc s.heap kS<|Obj.mapSeq λ_=>(#[]:Vk);have J:(s.heap.update kS<|Obj.mapSeq λ_=>(#[]:Vk)).get? a=some (seqObj "list" #[] l):=(s1.2 a t.symm).trans ha;have s2:=vc (s.heap.update kS<|Obj.mapSeq λ_=>(#[]:Vk)) a (Obj.mapSeq λ_=>(arrOf st).map (·.2));have len:((arrOf st).map (·.2)).size<=sizeLine:=by have:=hp.length_eq;rw[Dv,A5] at this;rw[Array.size_map];lia
  unfold ksk_tail
  try dsimp only
  refine Ab (listUpdate_at r rfl ?_ (by rw[Au];lia)<|A8 _);refine Ab<|wpAny_letGo ?_;refine Ab<|seqEpoch_at J rfl ?_;refine Ab (listUpdate_at J rfl ?_ (A8 _) (by simp only[Cg,if_false];exact B4 len));rw[hf];simp only[bne_self_eq_false,Cg,if_false];obtain⟨c2,j⟩:∃c2,((s.heap.update kS<|Obj.mapSeq λ_=>(#[]:Vk)).update a (Obj.mapSeq λ_=>(arrOf st).map (·.2))).get? a=some (seqObj "list" ((arrOf st).map (·.2)) c2):=⟨_,get?_update_seq J λ_=>(arrOf st).map (·.2)⟩;refine An<|h _ _ (arrOf st).toList c2 (λb C T=>?_) ?_ hp hs
  ·exact(s2.2 b T).trans (s1.2 b C)
  ·have em:(arrOf st).map (·.2)=List.toArray ((arrOf st).toList.map (·.2)):=by apply Array.toList_inj.mp;rw[Array.toList_map]
   rw[em] at j ⊢;exact j
 unfold ksk_end;simp only[Cg,if_false];by_cases U:vs.toArray.size<2
 ·rw[AA U,AA U];refine Ab<|An ?_;rw[StateT.run_pure];refine Ab<|An ?_;refine tail _ rfl (by show(ks.toArray.zip vs.toArray).toList.Perm _;rw[o]) ?_;show(ks.toArray.zip vs.toArray).toList.Pairwise _;rw[o];rw[Au] at U;have:(ks.zip vs).length<2:=by rw[Dv];lia
  exact u0 this
 ·rw[Az U,Az U];rw[Au] at U;refine Ab<|Iw hk (by omega) ?_;refine Ab (A2 (Iu (E:=E) (tf (B:=B)) (st:=SortSt.mk' (tuples' true) (ks.toArray.zip vs.toArray) #[] 7 none)
   (Q:=λ_ I=>failedOf I=none/\(arrOf I).toList.Perm (ks.zip vs)/\((arrOf I).toList.Pairwise λx y=>num s.heap B x<=num s.heap B y)) (by show(ks.toArray.zip vs.toArray).size<128;simp;lia) rfl rfl rfl (λx p=>?_) λI b1 b2 b3=>⟨b1,?_,b3⟩) ?_ λ_ _ e=>e)
  ·have p:x∈(ks.toArray.zip vs.toArray).toList:=p;rw[o] at p;exact du.pair<|hk _ (Dt (a:=x.1) (b:=x.2) p).1
  ·have b2:(arrOf I).toList.Perm (ks.toArray.zip vs.toArray).toList:=b2;rw[o] at b2;exact b2
  ·rintro⟨⟨⟩,I⟩ s' ⟨rfl,b1,b2,b3⟩;exact tail I b1 b2 b3
end
section
variable {w:Vx}
theorem du.ne{a b:Addr}{xs:Vk}(k:du h B v)(e:v=.ref a)(g:h.get? b=some (seqObj "list" xs n)):a≠b:=by
 obtain⟨j,o,m,r,p,t,u,J,U,I,_⟩:=k;rw[e] at J;cases J;rintro rfl;rw[g] at U;cases U;have I:Value.type "list" = Value.type "tuple" := I;injection I with e
 exact absurd e (by decide)
theorem du.keeps{b:Addr}{xs:Vk}(k:du h B v)(J:h.get? b=some (seqObj "list" xs n))(U:∀c o,c≠b->h.get? c=some o->h'.get? c=some o):du h' B v:=by have g:=k;obtain⟨a,o,m,r,p,t,u,I,j,l,C,T,e6⟩:=k;exact⟨a,o,m,r,p,t,u,I,U a o (g.ne I J) j,l,C,T,e6⟩
theorem Qy{x:Keyed}{b:Addr}{xs:Vk}(k:du h B x.1)(g:h.get? b=some (seqObj "list" xs n))(j:∀c o,c≠b->h.get? c=some o->h'.get? c=some o):num h' B x=num h B x:=by have l:=k;obtain⟨a,o,m,r,p,t,u,I,J,C,U,T,e6⟩:=k;rw[num_of I J U,num_of I (j a o (l.ne I g) J) U]
theorem dA{x:Keyed}(h:x∈vs.zip vs):x.1∈vs/\x.1=x.2:=by
 induction vs with
 |nil=>simp at h
 |cons v r I=>
  rw[List.zip_cons_cons] at h;rcases Aq.mp h with rfl|h
  ·exact⟨Ao ..,rfl⟩
  ·exact⟨Ae _ (I h).1,(I h).2⟩
theorem Qz{a:Addr}{P:PySem.Fin->Vv->Prop}(r:s.heap.get? a=some (seqObj "list" vs.toArray n))(hz:vs.length<=127)(hk:∀v∈vs,du s.heap B v)
 (h:∀h' tk (xs:VI) c,(∀b o,b≠a->s.heap.get? b=some o->h'.get? b=some o)->h'.get? a=some (seqObj "list" (List.toArray (xs.map (·.2))) c)->xs.Perm (vs.zip vs)->(xs.Pairwise λx y=>num s.heap B x<=num s.heap B y)->P (.done<|.ret .none) { s with heap:=h',toks:=tk }):
 wpAny (model prog w) A (Builtin.«list.sort» ⟨[.ref a],[]⟩) P E s:=by
 have big:(100000:Nat)+1<=sizeLine:=by rw[sizeLine_eq];exact Dw _ _
 have zl:(vs.toArray.zip vs.toArray).toList=vs.zip vs:=by simp
 have s1:=vc s.heap a<|Obj.mapSeq λ_=>(#[]:Vk);obtain⟨e1,t⟩:∃e1,(s.heap.update a<|Obj.mapSeq λ_=>(#[]:Vk)).get? a=some (seqObj "list" #[] e1):=⟨_,get?_update_seq r λ_=>#[]⟩;obtain⟨I,U⟩:∃g,g=((s.heap.update a<|Obj.mapSeq λ_=>(#[]:Vk)).push<|seqObj "tuple" vs.toArray 0).push (seqObj "list" #[] 0):=⟨_,rfl⟩;have k3:∀b o,b≠a->s.heap.get? b=some o->I.get? b=some o:=λb o hb e=>by rw[U];exact sy _<|sy _<|(s1.2 b hb).trans e
 have j:I.get? a=some (seqObj "list" #[] e1):=by rw[U];exact sy _<|sy _ t
 have C:∀v∈vs,du I B v:=λv hv=>(hk v hv).keeps r k3;have nk:∀x∈vs.zip vs,num I B x=num s.heap B x:=λx l=>Qy (hk _ (dA l).1) r k3;have tail:∀st:SortSt,failedOf st=none->(arrOf st).toList.Perm (vs.zip vs)->((arrOf st).toList.Pairwise λx y=>num I B x<=num I B y)->
  ∀tk,P (.done<|.ret .none) { s with heap:=I.update a (Obj.mapSeq λ_=>(arrOf st).map (·.2)),toks:=tk }:=by
  intro st hf T hs tk;have s2:=vc I a (Obj.mapSeq λ_=>(arrOf st).map (·.2));obtain⟨c2,a0⟩:∃c2,(I.update a (Obj.mapSeq λ_=>(arrOf st).map (·.2))).get? a=some (seqObj "list" ((arrOf st).map (·.2)) c2):=⟨_,get?_update_seq j λ_=>(arrOf st).map (·.2)⟩;have em:(arrOf st).map (·.2)=List.toArray ((arrOf st).toList.map (·.2)):=by apply Array.toList_inj.mp;rw[Array.toList_map]
  refine h _ tk (arrOf st).toList c2 (λb o hb e=>(s2.2 b hb).trans<|k3 b o hb e) ?_ T ?_
  ·rw[em] at a0 ⊢;exact a0
  ·refine Cr (λ{x y} l hy z=>?_) hs;rw[nk x<|T.mem_iff.mp l,nk y<|T.mem_iff.mp hy] at z;exact z
 have len:∀st:SortSt,(arrOf st).toList.Perm (vs.zip vs)->((arrOf st).map (·.2)).size<=sizeLine+1:=λst T=>by have:=T.length_eq;rw[Dv,A5] at this;rw[Array.size_map];lia
 rw[list_sort_plain];refine Ab<|listItems_at r rfl ?_;refine Ab (listUpdate_at r rfl ?_ (by rw[Au];exact w_)<|A8 _);refine Ab<|seqEpoch_at t rfl ?_;refine Ab (wpAny_newTuple ?_ (by show vs.length<=_;lia));refine Ab<|wpAny_newList ?_<|A8 _;refine Ba ?_;show wpAny (model prog w) A _ P E { s with heap:=((s.heap.update a<|Obj.mapSeq λ_=>(#[]:Vk)).push<|seqObj "tuple" vs.toArray 0).push (seqObj "list" #[] 0) };rw[<-U];dsimp only;by_cases p:vs.toArray.size<2
 ·rw[AA p,AA p];refine Ab<|An ?_;rw[StateT.run_pure];refine Ab<|An ?_;dsimp only;refine Ab<|seqEpoch_at j rfl ?_;have pz:(arrOf<|SortSt.mk' (tuples' true) (vs.toArray.zip vs.toArray) #[] 7 none).toList.Perm (vs.zip vs):=by show(vs.toArray.zip vs.toArray).toList.Perm _;rw[zl]
  refine Ab<|listUpdate_at j rfl ?_ (A8 _)<|len _ pz;simp only[bne_self_eq_false,Cg,if_false];refine An<|tail (SortSt.mk' (tuples' true) (vs.toArray.zip vs.toArray) #[] 7 none) rfl pz ?_ _;show(vs.toArray.zip vs.toArray).toList.Pairwise _;rw[zl];rw[Au] at p;have:(vs.zip vs).length<2:=by rw[Dv];lia
  exact u0 this
 ·rw[Az p,Az p];rw[Au] at p;refine Ab<|Iw (s:={ s with heap:=I }) C (by lia) ?_;refine Ab (A2 (Iu (E:=E) (tf (s:={ s with heap:=I }) (B:=B)) (st:=SortSt.mk' (tuples' true) (vs.toArray.zip vs.toArray) #[] 7 none)
   (Q:=λ_ J=>failedOf J=none/\(arrOf J).toList.Perm (vs.zip vs)/\((arrOf J).toList.Pairwise λx y=>num I B x<=num I B y)) (by show(vs.toArray.zip vs.toArray).size<128;simp;lia) rfl rfl rfl (λx l=>?_) λJ b1 b2 b3=>⟨b1,?_,b3⟩) ?_ λ_ _ e=>e)
  ·have l:x∈(vs.toArray.zip vs.toArray).toList:=l;rw[zl] at l;exact du.pair<|C _ (dA l).1
  ·have b2:(arrOf J).toList.Perm (vs.toArray.zip vs.toArray).toList:=b2;rw[zl] at b2;exact b2
  ·rintro⟨⟨⟩,J⟩ s' ⟨rfl,b1,b2,b3⟩;dsimp only;refine Ab<|seqEpoch_at j rfl ?_;refine Ab<|listUpdate_at j rfl ?_ (A8 _)<|len _ b2;rw[b1];simp only[bne_self_eq_false,Cg,if_false];exact An<|tail J b1 b2 b3 _
theorem w_sorted(hl:s.heap.IsList l vs.toArray)(hz:vs.length<=127)(hk:∀v∈vs,du s.heap B v)
 (h:∀h' tk (xs:VI) D c,s.heap.objs.size<=D->(∀b o,s.heap.get? b=some o->h'.get? b=some o)->h'.get? D=some (seqObj "list" (List.toArray (xs.map (·.2))) c)->xs.Perm (vs.zip vs)->(xs.Pairwise λx y=>num s.heap B x<=num s.heap B y)->Q (.ref D) { s with heap:=h',toks:=tk }):
 wpAny (model prog w) A (call (.builtin "sorted") [.ref l]) Q E s:=by
 have big:(100000:Nat)+1<=sizeLine:=by rw[sizeLine_eq];lia
 refine Calls.call_function_entry kind_sorted plain_sorted entry_sorted (args_sorted1 _) ?_;unfold Builtin.«sorted»;refine Ab (m:=checkCount "sorted" 1 1 _)<|An ?_;refine Ab<|collect_list hl ?_ (by lia);refine Ab<|wpAny_newList ?_ (by lia);obtain⟨g,C⟩:∃g,g=(s.heap.push<|seqObj "list" #[] 0).update s.heap.objs.size (Obj.mapSeq (· ++ vs.toArray)):=⟨_,rfl⟩;have gs:g.objs.size=s.heap.objs.size+1:=by rw[C,Heap.size_update,size_push']
 have gk:∀b o,s.heap.get? b=some o->g.get? b=some o:=λb o q=>by have I:b<s.heap.objs.size:=s9 q;rw[C,Heap.get?_update_ne _ _ _ _<|A9 I];exact sy _ q
 show wpAny _ _ _ _ _ { s with heap:=((s.heap.push<|seqObj "list" #[] 0).update s.heap.objs.size (Obj.mapSeq (· ++ vs.toArray))).push (seqObj "list" vs.toArray 0) };rw[<-C];have J:(g.push<|seqObj "list" vs.toArray 0).get? g.objs.size=some (seqObj "list" vs.toArray 0):=vb _ rfl;have keep:∀b o,s.heap.get? b=some o->(g.push<|seqObj "list" vs.toArray 0).get? b=some o:=λb o q=>sy _<|gk b o q;have kT:∀v∈vs,du (g.push<|seqObj "list" vs.toArray 0) B v:=λv hv=>by obtain⟨a,o,m,r,p,t,u,U,j,r'⟩:=hk v hv;exact⟨a,o,m,r,p,t,u,U,keep _ _ j,r'⟩
 have nk:∀x∈vs.zip vs,num (g.push<|seqObj "list" vs.toArray 0) B x=num s.heap B x:=λx T=>by obtain⟨a,o,m,r,p,t,u,U,j,e3,e4,_⟩:=hk _ (dA T).1;rw[num_of U j e4,num_of U (keep _ _ j) e4]
 refine Ab<|Ba<|wpAny_call_entry slot_list_sort ⟨_,J,rfl⟩ entry_list_sort ?body<|args_list_sort _
 case body=>
  refine Qz (s:={ s with heap:=g.push (seqObj "list" vs.toArray 0) }) J hz kT λh' tk xs c k1 hD pm pw=>?_;refine⟨_,rfl,An ⟨_,rfl,h h' tk xs g.objs.size c (by rw[gs];exact Cc _) (λb o q=>k1 b o ?_<|keep b o q) hD pm ?_⟩⟩
  ·have I:b<s.heap.objs.size:=s9 q;intro z;rw[z,gs] at I;exact Nat.not_succ_lt_self I
  ·refine Cr (λ{x y} T hy z=>?_) pw;rw[nk x<|pm.mem_iff.mp T,nk y<|pm.mem_iff.mp hy] at z;exact z
end
end TS
namespace L2
open PySem PySem.Spec PyProof.Rows
theorem oh(f:α->β):∀{l m:List β},l.Perm m->∀{T:List α},T.map f=m->∃U:List α,U.Perm T/\U.map f=l:=by
 intro l m p
 induction p with
 |nil=>intro T e;exact⟨T,Ci _,e⟩
 |cons x _ o=>
  intro T e;cases T with
  |nil=>cases e
  |cons t r=>
   rw[AG] at e;obtain⟨I,J⟩:=C4 e;obtain⟨U,C,e'⟩:=o J;exact⟨t::U,C.cons t,by rw[AG,e',I]⟩
 |swap x y l=>
  intro T e
  match T,e with
  |t::u::r,e=>
   rw[AG,AG] at e;obtain⟨I,J⟩:=C4 e;obtain⟨e3,e4⟩:=C4 J;exact⟨u::t::r,List.Perm.swap t u r,by rw[AG,AG,I,e3,e4]⟩
 |trans _ _ g j=>
  intro T e;obtain⟨T1,p1,I⟩:=j e;obtain⟨T2,p2,J⟩:=g I;exact⟨T2,p2.trans p1,J⟩
theorem gf{α β I:Type}{R:β->I->Prop}{g:α->β}{h:α->I}:∀{T:List α},(∀t∈T,R (g t)<|h t)->Paired R (T.map g) (T.map h)
 |[],_=>.nil
 |t::_,k=>.cons (k t<|Ao ..)<|gf λu J=>k u<|Ae _ J
theorem rT{J:Type}{R:α->β->Prop}{S:α->J->Prop}:∀{xs:List α} {ys:List β} {zs:List J},Paired R xs ys->Paired S xs zs->∃T:List (α×β×J),T.map (·.1)=xs/\T.map (λt=>t.2.1)=ys/\T.map (λt=>t.2.2)=zs/\∀t∈T,R t.1 t.2.1/\S t.1 t.2.2
 := by
 intro xs ys zs p q
 induction p generalizing zs with
 |nil=>cases q;exact⟨[],rfl,rfl,rfl,λt I=>by cases I⟩
 |cons r p l=>
  cases q with
  |cons q o=>
   rename_i x y U g z j;obtain⟨T,C,e2,e3,k⟩:=l o;refine⟨(x,y,z)::T,by rw[AG,C],by rw[AG,e2],by rw[AG,e3],λt I=>?_⟩;rcases Aq.mp I with rfl|I
   ·exact⟨r,q⟩
   ·exact k t I
theorem uX{α β:Type}{f:α->β}:∀{l:List α},(∀x∈l,∀y∈l,f x=f y->x=y)->l.Nodup->(l.map f).Nodup
 |[],_,_=>Di
 |a::r,h,n=>by obtain⟨J,U⟩:=AH.mp n;rw[AG];refine AH.mpr ⟨λz=>?_,uX (λx g y I=>h x (Ae _ g) y<|Ae _ I) U⟩;obtain⟨y,I,e⟩:=Bx.mp z;have:=h y (Ae _ I) a (Ao ..) e;exact J<|this▸I
def yH(p q:Int×Int):Prop:=p.1<q.1\/(p.1=q.1/\p.2<=q.2)
abbrev y8(K:Af)(H:Hp)(v:V)(p:Int×Int):Prop:=∃a,v=.ref a/\cx K H a [.int p.1,.int p.2]
theorem QB{p q:Int×Int}(hp:0<=p.2/\p.2<B)(J:0<=q.2/\q.2<B)(h:p.1*B+p.2<=q.1*B+q.2):yH p q:=by
 unfold yH;by_cases c:p.1<q.1
 ·exact .inl c
 ·right;by_cases d:q.1<p.1
  ·have I:(q.1+1)*B<=p.1*B:=Cz (by assumption) (by lia);rw[Ez,Int.one_mul] at I;omega
  ·have e:p.1=q.1:=by lia
   rw[e] at h;exact⟨e,by lia⟩
def QC(X:Cx):VA->Hp->VK->Prop:=λxs H Q=>∃l ys ps,xs=[.ref l]/\aO X.K H l ys/\Paired (y8 X.K H) ys ps/\(∀p∈ps,0<=p.2/\p.2<1000000)/\ps.Nodup/\ys.length<=127/\
 ∀D zs qs,H D=none->Paired (y8 X.K H) zs qs->qs.Perm ps->qs.Pairwise yH->Q (.ref D) (upd H D<|.lst zs)
theorem wF:xb X (.builtin "sorted") (QC X):=by
 intro a3 s σ H xs us Q I r h;obtain⟨l,ys,ps,rfl,hl,pr,hb,a5,a0,q⟩:=h;obtain⟨u,rfl,ru⟩:=r.one;cases (show u=Value.ref l from ru);obtain⟨p,rv,pl,hz⟩:=I.list hl;have l1:ys.length=p.length:=rv.length;obtain⟨T,e1,e2,e3,kT⟩:=rT rv pr;have U:∀t∈T,(∃a o n g j,t.2.1=Value.ref a/\s.heap.get? a=some o/\o.cls=.type "tuple" /\ o.data=.seq #[.int t.2.2.1 g,.int t.2.2.2 j] n)/\0<=t.2.2.2/\t.2.2.2<1000000:=λt J=>by obtain⟨r1,a,ea,hs⟩:=kT t J;obtain⟨a4,a1,⟨o,g1,g2,n,g3⟩,_⟩:=I.tuple hs;obtain⟨w1,w2,rfl,x1,x2⟩:=a1.two;obtain⟨g,rfl⟩:=(show ∃g,w1=Value.int t.2.2.1 g from x1);obtain⟨j,rfl⟩:=(show ∃j,w2=Value.int t.2.2.2 j from x2);rw[ea] at r1;refine⟨⟨a,o,n,g,j,r1,g1,g2,g3⟩,?_⟩;exact hb _ (by rw[<-e3];exact C1 (f:=λt:V×Vu×(Int×Int)=>t.2.2) J)
 have nT:∀t∈T,TS.num s.heap 1000000 (t.2.1,t.2.1)=t.2.2.1*1000000+t.2.2.2:=λt J=>by obtain⟨⟨a,o,n,g,j,g0,g1,g2,g3⟩,_⟩:=U t J;exact TS.num_of g0 g1 g3
 have ez:p.zip p=T.map λt=>(t.2.1,t.2.1):=by rw[<-e2,List.zip_map']
 refine xn I.tk (TS.w_sorted (B:=1000000) pl.isList (by rw[<-l1];exact a0) (λv hv=>?_) λh' tk ks D c hD hk hg pm pw J=>?_)
 ·rw[<-e2] at hv;obtain⟨t,J,rfl⟩:=Bx.mp hv;obtain⟨⟨a,o,n,g,j,g0,g1,g2,g3⟩,b1,b2⟩:=U t J;exact⟨a,o,n,_,_,g,j,g0,g1,g2,g3,b1,b2⟩
 ·rw[ez] at pm;obtain⟨T',pT,eT⟩:=oh _ pm rfl;subst eT;have C:∀t,t∈T'->t∈T:=λt=>pT.mem_iff.mp;have a2:=Cn.mp pw;refine⟨.ref D,_,I.laid (t':=tk) (o:=.lst (T'.map (·.1))) hk hD ?_,rfl,q D (T'.map (·.1)) (T'.map λt=>t.2.2) (I.hok.fresh hD) (gf λt J=>(kT t<|C t J).2) ?_ ?_⟩
  ·refine⟨?_,T'.map λt=>t.2.1,c,gf λt J=>(kT t<|C t J).1,?_⟩
   ·rw[Ag,pT.length_eq];have:T.length=ys.length:=by rw[<-e1,Ag]
    rw[this];exact hz
   ·rw[hg,Co];rfl
  ·rw[<-e3];exact pT.map _
  ·refine Cn.mpr<|Cr (λ{x y} hx hy z=>?_) a2;rw[nT x<|C x hx,nT y<|C y hy] at z;exact QB (U x<|C x hx).2 (U y<|C y hy).2 z
end L2
namespace L3
open PySem L2
def E8(p:Int×Int):Y:=.tup [.int p.1,.int p.2]
theorem tR{G:G3}{H:Hp}:∀{ps:List<|Int×Int} {xs:VA},v5 G H (ps.map E8) xs->Paired (y8 G.K H) xs ps
 |[],_,h=>by cases (show _=[] from h);exact .nil
 |p::r,_,ψ=>by obtain⟨x,U,e,⟨a,zs,ea,g,j,l,o,I,t,C,T,J,e3⟩,s⟩:=ψ;subst e ea o T e3;cases (show j=V.int p.1 from I);cases (show t=V.int p.2 from J);exact .cons ⟨a,rfl,g⟩<|tR s
theorem QD :∀{ps:List<|Int×Int} {xs:VA},Paired (y8 G.K H) xs ps->v5 G H (ps.map E8) xs:=by
 intro ps xs h
 induction h with
 |nil=>exact rfl
 |cons z t I=>
  obtain⟨a,ea,J⟩:=z;subst ea;exact⟨_,_,rfl,⟨a,_,rfl,J,_,_,rfl,rfl,_,_,rfl,rfl,rfl⟩,I⟩
def dE(xs:List Y)(L:qp)(Q:YK):Prop:=match xs with
 |[.ref a]=>dm L a λys=>∃ps:List (Int×Int),ys=ps.map E8/\(∀p∈ps,0<=p.2/\p.2<1000000)/\ps.Nodup/\ps.length<=127/\∀(D:Addr) (qs:List<|Int×Int),L D=none->qs.Perm ps->qs.Pairwise yH->Q (.ref D) (qe L D<|.lst<|qs.map E8)
 |_=>False
theorem jA:bootBuiltins "sorted"=some (.builtin "sorted"):=by decide +kernel
theorem rj :xb X (.builtin "sorted") (l_ X.g3 dE):=xb.imq wF λxs H Q ys L Q3 j J z k=>by
 unfold dE at z;split at z
 ·rename_i a;obtain⟨l,e,o,rfl,p,U,I,z⟩:=vf z;obtain⟨t,C,r⟩:=J a _ e;obtain⟨u,rfl,T⟩:=j.inv1;cases (show u=V.ref a from T);have pr:=tR r;exact⟨a,t,o,rfl,aO.of C,pr,p,U,by rw[<-r.length,Ag];exact I,λD l qs g pz pm pw=>k _ _ _ _ (EH g) (J.newL g<|QD pz) (by rfl)<|z D qs (J.none g) pm pw⟩
 ·exact z.elim
open PySem L2 Words
def bv:Wd->Y
 |.leaf t n=>.tup [.str<|kL t,.str n]
 |.node e l r=>.tup [.str<|kN e,bv l,bv r]
def gI:Y:=(.tup [(.str "plain"),(.str "turned")])
theorem qj{Q:α->qp->Prop}{o:Option α}{v:α}(e:o=some v)(h:Q v L):zS L Q o:=by rw[e];exact h
abbrev dh(i:Int):vt:=yC<|.int i
abbrev tJ(x:Str):vt:=yC<|.str x
abbrev jZ(i:Nat)(n:Int):vt:=jr aN (qf i)<|yC<|.int n
abbrev r9(i:Nat):vt:=l8 vY<|qr (qf i) x0
abbrev ss(a b:vt):jR:=yB<|jr (c_ false) a b
abbrev DS(a b:vt):jR:=yB<|jr (c_ true) a b
abbrev Fs(a b:vt):vt:=aP<|qr a<|qr b x0
abbrev a8(a:vt):gg:=qr a x0
abbrev cq(a b:vt):gg:=qr a<|qr b x0
def QH:k8:=(ao<|jr (vN false) (jZ 0 0)<|yC gI)
def kX:Bool->Bool->Str
 |true,t=>kL t
 |false,e=>kN e
def gQ:zd:=λys L Q=>∃lf b rest,ys=[.tup<|.str (kX lf b)::rest]/\Q (.bl lf) L
theorem zA(t:Bool):sH (.str<|kL t) [.str "plain",.str "turned"]=true:=by cases t<;>decide +kernel
theorem zT(t:Bool):sH (.str<|kN t) [.str "plain",.str "turned"]=false:=by cases t<;>decide +kernel
theorem vB:∀ys L Q,gQ ys L Q->x4 QH 1 ys L Q:=by
 rintro ys L Q ⟨lf,b,rest,rfl,q⟩;have I:bz (Y.str (kX lf b)::rest) 0=some (Y.str<|kX lf b):=jl (xs:=Y.str (kX lf b)::rest) (j:=0) rfl;walk_at "w";rw[I];refine⟨rfl,rfl,xh ?_⟩;cases lf with
 |true=>
  rw[show nb false (sH (di<|.str<|kX true b)<|[Y.str "plain",.str "turned"].map di)=true from zA b];exact q
 |false=>
  rw[show nb false (sH (di<|.str<|kX false b)<|[Y.str "plain",.str "turned"].map di)=false from zT b];exact q
theorem QJ(t:Bool):List.lookup (kL t) [(("plain" : Str),("turned" : Str)),("turned","plain"),("both","either"),("either","both")]=some (kL<|!t):=by cases t<;>decide +kernel
theorem QK(t:Bool):List.lookup (kN t) [(("plain" : Str),("turned" : Str)),("turned","plain"),("both","either"),("either","both")]=some (kN<|!t):=by cases t<;>decide +kernel
theorem iL(s:qd L L'){p:Addr}(h:L' p=none):L p=none:=by cases e:L p with|none=>rfl|some o=>rw[s _ _ e] at h;cases h
theorem jz.str(x:Str):jz L n (.str x) (.s<|.str x):=by cases n with|zero=>exact⟨rfl,rfl⟩|succ n=>exact .inl ⟨rfl,rfl⟩
abbrev EX:=@jz.str
theorem jz.int(x:Int):jz L n (.int x) (.s<|.int x):=by cases n with|zero=>exact⟨rfl,rfl⟩|succ n=>exact .inl ⟨rfl,rfl⟩
abbrev ET:=@jz.int
theorem iK{L:qp}:∀{wd:Wd} {n:Nat},wd.depth<=n->jz L n (bv wd) (rN wd)
 |.leaf t nm,n+1,_=>.inr<|.inl ⟨_,_,rfl,rfl,.cons (EX _)<|.cons (EX _) .nil⟩
 |.node e l r,n+1,h=>by have I:max l.depth r.depth+1<=n+1:=h;exact .inr<|.inl ⟨_,_,rfl,rfl,.cons (EX _)<|.cons (iK (by lia))<|.cons (iK (by lia)) .nil⟩
theorem f9{a:Addr}(e:L a=some (.lst ys))(p:Paired (jz L n) ys ds):jz L (n+1) (.ref a) (.lst ds):=.inr<|.inr ⟨ys,ds,rfl,rfl,jv e,p⟩
theorem eL(p:Paired (jz L n) ys ds):jz L (n+1) (.tup ys) (.tup ds):=.inr<|.inl ⟨ys,ds,rfl,rfl,p⟩
theorem QL{neg:Bool}{u v:Wd}{Q:YK}(J:u.depth<=128)(q:Q (.bl<|nb neg<|Da.eq (rN u)<|rN v) L):c_ neg (bv u) (bv v) L Q:=by
 have I:∀w:Wd,A' (bv w)=true:=λw=>by cases w<;>rfl
 have:A' (bv u)=true/\A' (bv v)=true/\∃n m d e,n<=128/\jz L n (bv u) d/\jz L m (bv v) e/\Q (.bl<|nb neg<|Da.eq d e) L:=
  ⟨I u,I v,u.depth,v.depth,rN u,rN v,J,iK<|Al _,iK<|Al _,q⟩
 cases u<;>cases v<;>exact this
theorem cJ{neg:Bool}{a b:Addr}{zs:List Y}{es:List Da}{Q:YK}(I:n<128)(ea:L a=some (.lst ys))(eb:L b=some (.lst zs))(pa:Paired (jz L n) ys ds)(pb:Paired (jz L m) zs es)(q:Q (.bl<|nb neg<|Da.eqs ds es) L):
 c_ neg (.ref a) (.ref b) L Q:=⟨rfl,rfl,n+1,m+1,_,_,I,f9 ea pa,f9 eb pb,q⟩
def top(i:Nat):Stmt:=PySem.Challenge.pw_oncewise_k41_where_webs_part.main.body.getD i<|.Pass ⟨0,0,0,0⟩
abbrev gE:Stmt:=(lB<|top 1).getD 0<|.Pass ⟨0,0,0,0⟩
abbrev cY:Stmt:=(lB<|top 1).getD 1<|.Pass ⟨0,0,0,0⟩
abbrev eJ:Stmt:=(lB<|top 1).getD 2<|.Pass ⟨0,0,0,0⟩
abbrev pH:Stmt:=top 4
abbrev bM:Stmt:=top 6
abbrev gY:Stmt:=top 7
abbrev gb:Stmt:=top 8
abbrev fC:Stmt:=top 9
abbrev ig:Stmt:=top 10
abbrev gT:Stmt:=top 12
abbrev dM:Stmt:=top 13
abbrev eY:Stmt:=top 15
abbrev lz:Stmt:=top 16
abbrev oI:Stmt:=top 17
abbrev bT:Stmt:=top 18
abbrev cB:Stmt:=top 19
abbrev gN:Stmt:=top 20
abbrev bW:Stmt:=top 22
abbrev fM:Stmt:=top 23
abbrev fQ:Stmt:=top 24
abbrev ge:Stmt:=top 25
abbrev e8:Stmt:=top 26
abbrev fE:Stmt:=top 27
abbrev fK:Stmt:=top 28
abbrev bw:Stmt:=top 29
abbrev gA:Stmt:=top 30
abbrev eE:Stmt:=top 31
abbrev eS:Stmt:=top 32
abbrev lg:Stmt:=top 33
abbrev fI:Stmt:=top 34
abbrev bu:Stmt:=top 35
abbrev gS:Stmt:=top 36
abbrev s__law_order:Stmt:=top 37
abbrev dR:Stmt:=top 38
abbrev cG:Stmt:=top 39
abbrev bN:Stmt:=top 40
abbrev bL:Stmt:=top 41
abbrev eW:Stmt:=top 42
abbrev dN:Stmt:=top 43
abbrev bG:Stmt:=top 44
abbrev iV:Stmt:=top 45
abbrev dB:Stmt:=top 46
abbrev cD:Stmt:=top 47
abbrev dD:Stmt:=top 48
abbrev ef:Stmt:=top 49
abbrev dz:Stmt:=top 50
abbrev dJ:Stmt:=top 51
abbrev gZ:Stmt:=top 52
abbrev uc:Stmt:=top 53
structure V_ where
 (P:Vw) (w:Vx) (K:Af) (mg:Vg) (base:Vy) (Pt:Addr) (Ca:Addr)
structure B0_(V:V_):Prop where
 be:V.mg "list"=none
 bb:V.mg "range"=none
 bf:V.mg "enumerate"=none
 ba:V.mg "len"=none
 b_isinstance:V.mg "isinstance"=none
 b_tuple:V.mg "tuple"=none
 bg:V.mg "sorted"=none
 bh:V.mg "max"=none
 b_min:V.mg "min"=none
 b_int:V.mg "int"=none
 b_bool:V.mg "bool"=none
 b_str:V.mg "str"=none
 k_LEAF_KINDS:Ic ⟨V.K,V.P,V.w⟩ V.mg "LEAF_KINDS" gI
abbrev Q_(V:V_)(k:Nat)(x:Str)(ps:Vm)(sp:zd):Prop:=F4 V.P V.w V.K V.mg V.base k x ps sp
theorem I_{a b:Expr}(I:QE X a ta)(J:QE X b tb)(hp:rX b:=by exactλ_ _=>rfl):QE X (.Subscript a b pos) (jr aN ta tb):=O6 (O7 X.K X.prog X.w) I J hp
theorem jt{t:vt}(h:QE X e t)(s:starEach [e] X.env=[(false,eval e X.env)]:=by rfl):QA X [e] (qr t x0):=jx h vd s
theorem vq{f:Expr}{t u:vt}(h:QE X e t)(g:QE X f u)(s:starEach [e,f] X.env=[(false,eval e X.env),(false,eval f X.env)]:=by rfl)(r:starEach [f] X.env=[(false,eval f X.env)]:=by rfl):QA X [e,f] (qr t<|qr u x0):=jx h (jt g r) (by show _=_;rw[s,r])
theorem cA{f d:Expr}{t u v:vt}(h:QE X e t)(g:QE X f u)(i:QE X d v)(s:starEach [e,f,d] X.env=[(false,eval e X.env),(false,eval f X.env),(false,eval d X.env)]:=by rfl)(r:starEach [f,d] X.env=[(false,eval f X.env),(false,eval d X.env)]:=by rfl)(q:starEach [d] X.env=[(false,eval d X.env)]:=by rfl):QA X [e,f,d] (qr t<|qr u<|qr v x0):=jx h (vq g i r q) (by show _=_;rw[s,r])
theorem E_{a b:Expr}(I:X.A.units+128<cLine)(J:QE X a ta)(U:QE X b tb):QT X (.Compare a [.Eq] [b] pos) (yB<|jr (c_ false) ta tb):=jy (yT X.K X.prog X.w I) J U<|wo _
theorem N_{a b:Expr}(I:X.A.units+128<cLine)(J:QE X a ta)(U:QE X b tb):QT X (.Compare a [.NotEq] [b] pos) (yB<|jr (c_ true) ta tb):=jy (HZ X.K X.prog X.w I) J U<|wo _
theorem S_(i:Nat)(hN:X.N.Nodup)(h:QE X e te)(I:X.N[i]?=some x:=by rfl)(g:Loc X.env.scope x:=by exact Or.inl rfl)(J:swapsWith e (some<|.Name x hQ) pos.line X.env=pure false:=by rfl)(U:X.fn x=true\/X.env.scope.names.lookup x=some .local:=by first|exact .inl rfl|exact .inr rfl|assumption):QS X (.Assign [.Name x hQ] e pos) (xo te<|ql i):=wy (i:=i) hN I g h J U
theorem G_(i:Nat)(hN:X.N.Nodup)(I:X.N[i]?=some x:=by rfl)(U:Loc X.env.scope x:=by exact Or.inl rfl)(J:X.fn x=true\/X.env.scope.names.lookup x=some .local:=by first|exact .inl rfl|exact .inr rfl|assumption):QG X (.Name x pos) (ql i):=ww (i:=i) hN I U J
theorem C_{p:Pos}{k:Nat}(c:F4 X.prog X.w X.K X.mg X.base j x ps sp)(U:km k X.A)(g:QA X (e::es) tr)(l:j<=k:=by first|decide|exact Al _|exact AO (by decide)<|Dw _ _)(o:Gl X x:=by rfl)(I:E4 x:=by decide)(r:EY e es X:=by rfl)(J:EZ pos es X:=by rfl):QE X (.Call (.Name x p) (e::es) [] pos) (v4 sp tr):=Pl (Cal.mono c l) U o g I r J
theorem J_{n:Int}{k:Nat}{p q:Pos}(i:Nat)(hN:X.N[i]?=some x:=by rfl)(I:u_ X.env.scope x:=by first|exact Or.inl rfl|exact Or.inr (Or.inl rfl)|exact Or.inr<|Or.inr rfl)(hd:E4 x:=by decide)(hc:E5 x:=by decide):QE X (.Subscript (.Name x p) (.Constant (.int n) k q) pos) (jr aN (qf i)<|yC<|.int n):=I_ (qv i hN I hd hc) qh λ_ _=>rfl
theorem L_{t:vt}{p:Pos}(I:X.mg "len"=none)(h:QE X e t)(s:starEach [e] X.env=[(false,eval e X.env)]:=by rfl)(J:Gl X "len" := by rfl):QE X (.Call (.Name "len" p) [e] [] pos) (l8 vY<|qr t x0):=wa (O8 X.K X.prog X.w) J I OL (jt h s) (hs:=s)
theorem f'{l:Vm}(h:decide l.Nodup=true:=by kernel_rfl):l.Nodup:=of_decide_eq_true h
abbrev Ix(V:V_)(p:zd):Prop:=Q_ V 1 "is_leaf" ["word"] p
abbrev F'(V:V_)(p:zd):Prop:=Q_ V 1 "places_there" ["knots"] p
abbrev Ga(V:V_)(p:zd):Prop:=Q_ V 2 "parts_of" ["knot"] p
abbrev Iy(V:V_)(p:zd):Prop:=Q_ V 3 "parts_in" ["knots"] p
abbrev Iz(V:V_)(p:zd):Prop:=Q_ V 1 "places_in" ["pairs"] p
abbrev IA(V:V_)(p:zd):Prop:=Q_ V 4 "ends_of" ["web"] p
abbrev IB(V:V_)(p:zd):Prop:=Q_ V 2 "boths_of" ["web"] p
abbrev IC(V:V_)(p:zd):Prop:=Q_ V 3 "part_edges" ["knots","places"] p
abbrev Gb(V:V_)(p:zd):Prop:=Q_ V 4 "all_edges" ["web"] p
abbrev QM(V:V_)(p:zd):Prop:=Q_ V 2 "piece_at" ["pieces","knots","place"] p
abbrev Gc(V:V_)(p:zd):Prop:=Q_ V 3 "sides_by" ["knots","edges","p","q"] p
abbrev ID(V:V_)(p:zd):Prop:=Q_ V 5 "parted_boths" ["web"] p
abbrev IE(V:V_)(p:zd):Prop:=Q_ V 5 "parted_cuts" ["web"] p
abbrev QN(V:V_)(p:zd):Prop:=Q_ V 6 "partings" ["web"] p
abbrev IF(V:V_)(p:zd):Prop:=Q_ V 1 "_law_cell_at" ["_law_script","_law_k"] p
abbrev QP(V:V_)(p:zd):Prop:=Q_ V 1 "_law_stir" ["_law_script"] p
abbrev Ft(V:V_)(p:zd):Prop:=Q_ V 1 "_law_pick" ["_law_stir_here","_law_factor"] p
abbrev IG(V:V_)(p:zd):Prop:=Q_ V 1 "_law_mix" ["_law_cell","_law_k","_law_factor"] p
abbrev IH(V:V_)(p:zd):Prop:=Q_ V 1 "_law_name" ["_law_seed","_law_which"] p
abbrev QQ(V:V_)(p:zd):Prop:=Q_ V 121 "_law_word" ["_law_knots","_law_p"] p
abbrev QR(V:V_)(p:zd):Prop:=Q_ V 121 "_law_flip" ["_law_word_here"] p
abbrev QU(V:V_)(p:zd):Prop:=Q_ V 121 "_law_weight" ["_law_word_here"] p
abbrev QV(V:V_)(p:zd):Prop:=Q_ V 170 "_law_mirror" ["_law_knots","_law_word_here"] p
abbrev II(V:V_)(p:zd):Prop:=Q_ V 1 "_law_join" ["_law_knots","_law_forest","_law_one","_law_two"] p
abbrev IJ(V:V_)(p:zd):Prop:=Q_ V 1 "_law_fold" ["_law_knots","_law_tree_here","_law_one","_law_two"] p
abbrev IK(V:V_)(p:zd):Prop:=Q_ V 171 "_law_cut" ["_law_knots","_law_forest","_law_one","_law_two"] p
abbrev IL(V:V_)(p:zd):Prop:=Q_ V 172 "_law_tree" ["_law_cells","_law_seed","_law_room"] p
abbrev IM(V:V_)(p:zd):Prop:=Q_ V 121 "_law_gather" ["_law_rule","_law_links","_law_cuts"] p
abbrev QX(V:V_)(p:zd):Prop:=Q_ V 122 "_law_web" ["_law_tree_here"] p
abbrev IP(V:V_)(p:zd):Prop:=Q_ V 2 "_law_order" ["_law_knots","_law_seed"] p
abbrev IQ(V:V_)(p:zd):Prop:=Q_ V 121 "_law_moved" ["_law_rule","_law_at"] p
abbrev QY(V:V_)(p:zd):Prop:=Q_ V 122 "_law_gapped" ["_law_tree_here","_law_stir_here"] p
abbrev IR(V:V_)(p:zd):Prop:=Q_ V 1 "_law_swapped" ["_law_web_here","_law_number_here"] p
abbrev QZ(V:V_)(p:zd):Prop:=Q_ V 101 "_law_beneath" ["_law_knots","_law_p"] p
abbrev IS(V:V_)(p:zd):Prop:=Q_ V 102 "_law_flipped" ["_law_web_here","_law_number_here"] p
abbrev IT(V:V_)(p:zd):Prop:=Q_ V 1 "_law_split" ["_law_web_here","_law_number_here"] p
abbrev Q0(V:V_)(p:zd):Prop:=Q_ V 103 "_law_changed" ["_law_web_here","_law_stir_here"] p
abbrev IU(V:V_)(p:zd):Prop:=Q_ V 1 "_law_reach" ["_law_many","_law_edges","_law_start"] p
abbrev IV(V:V_)(p:zd):Prop:=Q_ V 1 "_law_sides" ["_law_knots","_law_out"] p
abbrev IW(V:V_)(p:zd):Prop:=Q_ V 1 "_law_number" ["_law_x"] p
abbrev Q1(V:V_)(p:zd):Prop:=Q_ V 6 "_law_alike" ["_law_found","_law_due_here"] p
abbrev Q2(V:V_)(p:zd):Prop:=Q_ V 1 "_law_copy" ["_law_web_here"] p
abbrev Q4(V:V_)(p:zd):Prop:=Q_ V 173 "_law_sown" ["_law_script","_law_stir_here","_law_wide"] p
abbrev IX(V:V_)(p:zd):Prop:=Q_ V 2 "_law_noted" ["_law_due_here","_law_many","_law_edges","_law_head","_law_p","_law_q"] p
abbrev Q5(V:V_)(p:zd):Prop:=Q_ V 3 "_law_due" ["_law_web_here"] p
abbrev RD(x:Str)(st:Stmt)(k:Nat)(N:Vm)(h:V_->Prop):=PSigma λt:k8=>∀V:V_,B0_ V->h V->∀f:Addr,∀(eK:Vu) (A:Around) (outer:List Env) (s:Vv) (H:Hp) (E:XK),km k (A.deeper<|PyProof.Rows.envOfC x (qt st) s.heap.objs.size f eK)->N.Nodup->(A.deeper<|PyProof.Rows.envOfC x (qt st) s.heap.objs.size f eK).units+128<cLine->sJ (iT CX0 V.P V.w V.K V.mg V.base N x (qt st) f eK A outer s H E).nox (j9 st) t
abbrev RR(x:Str)(st:Stmt)(k:Nat)(ps N:Vm)(p:zd)(h:V_->Prop):=PSigma λt:k8=>∀V:V_,B0_ V->h V->∀(n:Nat) (f:Addr),Q_ V (n+k) x ps p->∀(eK:Vu) (A:Around) (outer:List Env) (s:Vv) (H:Hp) (E:XK),km (n+k) (A.deeper<|PyProof.Rows.envOfC x (qt st) s.heap.objs.size f eK)->N.Nodup->(A.deeper<|PyProof.Rows.envOfC x (qt st) s.heap.objs.size f eK).units+128<cLine->sJ (iT CX0 V.P V.w V.K V.mg V.base N x (qt st) f eK A outer s H E).nox (j9 st) t
theorem jB{p:Pos}(i:Nat)(hi:X.N.length=i:=by rfl)(hN:(X.N++[x]).Nodup:=by exact f')(J:∀C fp s₀ H₀,Loc (X.comp scope [x] C fp s₀ H₀).env.scope x:=by exactλ_ _ _ _=>Or.inl rfl)(I:∀C fp s₀ H₀,(X.comp scope [x] C fp s₀ H₀).env.scope.names.lookup x=some .local:=by exactλ_ _ _ _=>rfl):Db X scope [x] (.Name x p) (ql i):=hi▸bH hN J I
theorem IY{y:Str}{p I pt:Pos}(i:Nat)(hi:X.N.length=i:=by rfl)(hc:X.calm=true:=by rfl)(hN:(X.N++[x,y]).Nodup:=by exact f')(U:∀C fp s₀ H₀,(X.comp scope [x,y] C fp s₀ H₀).env.scope.names.lookup x=some .local:=by exactλ_ _ _ _=>rfl)(J:∀C fp s₀ H₀,(X.comp scope [x,y] C fp s₀ H₀).env.scope.names.lookup y=some .local:=by exactλ_ _ _ _=>rfl)(h1:∀env,(assignEach [.Name x p,.Name y I] env).length=2:=by intro _;rfl)(h2:∀env,(assignEach [.Name x p,.Name y I] env).findIdx? (·.1)=none:=by intro _;rfl)(g:∀env,(assignEach [.Name x p,.Name y I] env).map (·.2)=assign (.Name x p) env::(assignEach [.Name y I] env).map (·.2):=by intro _;rfl)(j:∀env,(assignEach [.Name y I] env).map (·.2)=assign (.Name y I) env::(assignEach [] env).map (·.2):=by intro _;rfl):Db X scope [x,y] (.Tuple [.Name x p,.Name y I] kt pt) (eV 2<|ju (ql i)<|ju (ql<|i+1) cO):=hi▸Pk hc hN U J h1 h2 g j
def oM(K:Af):k8:=(Ik K "heads" (qf 0)<|nS<|qf 1)
def jH(K:Af):k8:=(j7 (xo (qf 1)<|ql 2)
 (j7 (qX (DS (jr aN (vT K "heads"<|qf 0)<|qf 2)<|qf 2) (j7 (uT (vT K "heads"<|qf 0) (qf 2)<|jr aN (vT K "heads"<|qf 0)<|jr aN (vT K "heads"<|qf 0)<|qf 2)
 (xo (jr aN (vT K "heads"<|qf 0)<|qf 2)<|ql 2)))
 (ao<|qf 2)))
def mK(K:Af)(I:Addr)(J:zd):k8:=(j7 (xo (gt I "head_of" J (qf 0)<|a8<|qf 1)<|ql 3)
 (j7 (xo (gt I "head_of" J (qf 0)<|a8<|qf 2)<|ql 4)
 (j7 (uT (vT K "heads"<|qf 0) (qf 3)<|qf 4)
 (ao<|jr (c_ true) (qf 3)<|qf 4))))
structure XFP(K:Af)(C:Addr):Prop where
 cl:Cls K C
 na:NoAttr K C "heads"
def nY(hs:Vl):List Y:=hs.map λn:Nat=>.int (n:Int)
def qE(hp:Addr):List (Str×Y):=[("heads",.ref hp)]
theorem cZ :(qE hp).lookup ("heads" : Str)=some (.ref hp):=by unfold qE;rw[Bk,show((("heads" : Str)==("heads" : Str)))=true by decide +kernel]
theorem bF :(qE hp).lookup ("head_of" : Str)=none:=by unfold qE;rw[Bk,show((("head_of" : Str)==("heads" : Str)))=false by decide +kernel];rfl
theorem xC :(qE hp).lookup ("unite" : Str)=none:=by unfold qE;rw[Bk,show((("unite" : Str)==("heads" : Str)))=false by decide +kernel];rfl
theorem Q6(n:Nat):aQ 0 n=nY (List.range n):=by unfold aQ nY;exact List.map_congr_left λk _=>by rw[Bv]
theorem zv(hs:Vl):(nY hs).length=hs.length:=by unfold nY;rw[Ag]
theorem yL{h:Nat}(e:hs[i]?=some h):bz (nY hs) (i:Int)=some (.int (h:Int)):=jl (by unfold nY;rw[Am,e];rfl)
theorem IZ(hs:Vl)(i g:Nat):(nY hs).set i (.int (g:Int))=nY (hs.set i g):=by unfold nY;rw[List.map_set]
theorem qQ(h:j<n):f_ n (j:Int)=some j:=by unfold f_;rw[AA (by exact AN _),AA (by omega)];rfl
theorem aK{a p:Addr}{o:LO}(h:qe L a o p=none):L p=none:=by
 by_cases c:p=a
 ·subst c;rw[q9] at h;cases h
 ·rw[qc c] at h;exact h
theorem bC{a:Addr}{o:LO}(h:L a=some o):qe L a o=L:=by
 funext b;unfold qe;split
 ·rename_i e;rw[e,h]
 ·rfl
def kU(rk:Vs)(hs:Vl):Prop:=∀i h,hs[i]?=some h->h<hs.length/\(h≠i->rk h<rk i)
inductive af(hs:Vl):Nat->Nat->Prop
 |root {r:Nat}:hs[r]?=some r->af hs r r
 |step {i h r:Nat}:hs[i]?=some h->h≠i->af hs h r->af hs i r
theorem af.top(h:af hs i r):hs[r]?=some r:=by induction h with|root e=>exact e|step _ _ _ I=>exact I
theorem af.uniq{s:Nat}(h:af hs i r)(k:af hs i s):r=s:=by
 induction h generalizing s with
 |root e=>
  cases k with|root _=>rfl|step I ne _=>rw[e] at I;exact absurd (AS I).symm ne
 |step e ne t J=>
  cases k with|root I=>rw[e] at I;exact absurd (AS I) ne|step I _ U=>rw[e] at I;cases I;exact J U
theorem af.of_top(h:af hs i r)(e:hs[i]?=some i):r=i:=h.uniq<|.root e
theorem kU.rep{rk:Vs}{hs:Vl}(I:kU rk hs):∀(n i:Nat),rk i<n->i<hs.length->∃r,af hs i r
 |0,_,h,_=>absurd h<|Ew _
 |n+1,i,h,J=>by
  have e:hs[i]?=some hs[i]:=Ai J;by_cases c:hs[i]=i
  ·exact⟨i,.root (by rw[e,c])⟩
  ·obtain⟨U,g⟩:=I i _ e;obtain⟨r,t⟩:=kU.rep I n hs[i] (by have:=g c;omega) U;exact⟨r,.step e c t⟩
theorem kU.rep'(I:kU rk hs)(hi:i<hs.length):∃r,af hs i r:=I.rep (rk i+1) i (BB _) hi
theorem zb{l:List α}{x:α}(h:l[i]?=some x):i<l.length:=(AL.mp h).1
theorem wb{l:List α}{x:α}(h:i<l.length):(l.set i x)[i]?=some x:=by rw[DN];simp[h]
theorem kg{l:List α}{x:α}(h:i≠j):(l.set i x)[j]?=l[j]?:=by rw[DN,Az h]
theorem kU.halve(I:kU rk hs){h g:Nat}(ei:hs[i]?=some h)(ne:h≠i)(J:hs[h]?=some g):kU rk (hs.set i g)/\rk g<rk i:=by
 have U:rk g<rk i:=by
  have l:=(I i h ei).2 ne;by_cases c:g=h
  ·rw[c];exact l
  ·have:=(I h g J).2 c;exact rQ
 refine⟨λj x e=>?_,U⟩;rw[Bo];by_cases c:i=j
 ·subst c;rw[wb<|zb ei] at e;cases e;exact⟨(I h _ J).1,λ_=>U⟩
 ·rw[kg c] at e;exact I j x e
theorem ix{rk:Vs}{hs:Vl}(l:kU rk hs){i h g:Nat}(ei:hs[i]?=some h)(ne:h≠i)(U:hs[h]?=some g):∀(n j r:Nat),rk j<n->af hs j r->af (hs.set i g) j r
 |0,_,_,h,_=>absurd h<|Ew _
 |n+1,j,r,hn,t=>by
  have o:=ix l ei ne U n;have p:=(l.halve ei ne U).2;cases t with
  |root e=>
   have c:i≠j:=λc=>by subst c;rw[ei] at e;exact ne<|AS e
   exact .root (by rw[kg c];exact e)
  |step e I t=>
   rename_i C;have lt:=(l j C e).2 I;by_cases c:i=j
   ·subst c;rw[ei] at e;cases e;by_cases d:g=h
    ·subst d;exact .step (wb<|zb ei) I<|o _ r (by lia) t
    ·cases t with
     |root J=>rw[U] at J;exact absurd (AS J) d
     |step J T t2=>
      rw[U] at J;cases J;refine .step (wb<|zb ei) (λz=>?_)<|o _ r (by lia) t2;rw[z] at p;exact CH _ p
   ·exact .step (by rw[kg c];exact e) I<|o _ r (by lia) t
def xY(hs:Vl):Nat:=(List.range hs.length).countP λi=>decide<|hs[i]?=some i
theorem Q7(J:kU rk hs){h g:Nat}(ei:hs[i]?=some h)(ne:h≠i)(U:hs[h]?=some g):xY (hs.set i g)=xY hs:=by
 unfold xY;rw[Bo];refine DO λj l=>?_;have I:=(J.halve ei ne U).2;by_cases c:i=j
 ·subst c;rw[wb<|zb ei,ei];have d:g≠i:=λz=>by rw[z] at I;exact CH _ I
  simp[d,ne]
 ·rw[kg c]
theorem mz{p:Nat->Bool}{a:Nat}(I:p a=true):∀{l:Vl},l.Nodup->a∈l->l.countP (λj=>p j&&!decide (j=a))+1=l.countP p
 |[],_,h=>by cases h
 |x::r,J,h=>by
  obtain⟨U,g⟩:=AH.mp J;rw[List.countP_cons,List.countP_cons];by_cases c:x=a
  ·subst c;have e:r.countP (λj=>p j&&!decide (j=x))=r.countP p:=by refine DO λj o=>?_;have:j≠x:=λz=>U<|z▸o;simp[this]
   rw[e];simp[I]
  ·have t:a∈r:=by
    rcases Aq.mp h with z|z
    ·exact absurd z.symm c
    ·exact z
   have C:=mz I g t;simp only[Av c,Bool.not_false,DV];lia
theorem kU.join(I:kU rk hs){a b:Nat}(ea:hs[a]?=some a)(eb:hs[b]?=some b):∃J,kU J (hs.set a b):=by
 by_cases c:a=b
 ·subst c;refine⟨rk,λi h e=>?_⟩;rw[Bo];by_cases d:a=i
  ·subst d;rw[wb<|zb ea] at e;cases e;exact I _ _ ea
  ·rw[kg d] at e;exact I i h e
 ·refine⟨λx=>if x=b then 0 else rk x+1,λi h e=>?_⟩;rw[Bo];by_cases d:a=i
  ·subst d;rw[wb<|zb ea] at e;cases e;refine⟨zb eb,λ_=>?_⟩;show(if b=b then 0 else rk b+1)<if a=b then 0 else rk a+1
   rw[AA rfl,Az c];exact BV _
  ·rw[kg d] at e;refine⟨(I i h e).1,λne=>?_⟩;have nb:i≠b:=λz=>by subst z;rw[eb] at e;exact ne (AS e).symm
   show(if h=b then 0 else rk h+1)<if i=b then 0 else rk i+1
   rw[Az nb];have:=(I i h e).2 ne;split<;>lia
theorem Q8{a b:Nat}(ea:hs[a]?=some a)(eb:hs[b]?=some b)(t:af hs i r):af (hs.set a b) i (if r=a then b else r):=by
 induction t with
 |root e=>
  rename_i r;by_cases c:r=a
  ·subst c;rw[AA rfl];by_cases d:r=b
   ·subst d;exact .root<|wb<|zb ea
   ·exact .step (wb<|zb ea) (λz=>d z.symm) (.root (by rw[kg d];exact eb))
  ·rw[Az c];exact .root (by rw[kg λz=>c z.symm];exact e)
 |step e ne t I=>
  rename_i i h r;have c:a≠i:=λz=>by subst z;rw[ea] at e;exact ne (AS e).symm
  exact .step (by rw[kg c];exact e) ne I
theorem Q9{a b:Nat}(ea:hs[a]?=some a)(eb:hs[b]?=some b)(ne:a≠b):xY (hs.set a b)+1=xY hs:=by
 unfold xY;rw[Bo];have e:=mz (p:=λi=>decide<|hs[i]?=some i) (a:=a) (AE ea) (l:=List.range hs.length) CV<|AX.mpr<|zb ea;rw[<-e];congr 1;refine DO λj I=>?_;by_cases c:a=j
 ·subst c;rw[wb<|zb ea];simp[A4 ne]
 ·rw[kg c];simp[A4 c]
def mH(C:Addr):zd:=λys L Q=>∃o,∃n:Nat,∃I:Int,ys=[.ref o,.int I]/\I=(n:Int)/\L o=some (.ins C [])/\n<=1000/\∀hp,L hp=none->Q .non (qe (qe L hp<|.lst<|nY<|List.range n) o<|.ins C<|qE hp)
theorem Ra{K:Af}(xf:XFP K C):∀ys L Q,mH C ys L Q->x4 (oM K) 2 ys L Q:=by rintro ys L Q ⟨o,n,g,rfl,rfl,J,j,q⟩;refine⟨⟨by exact AN _,by lia⟩,λU I=>?_⟩;refine w4 ((qc<|aS J I).trans J) ⟨xf.cl,xf.na,by decide,?_⟩;rw[show((n:Nat):Int).toNat=n from rfl,Q6];exact xh<|q U I
def iU(C:Addr):zd:=λys L Q=>∃o hp,∃hs:Vl,∃p:Nat,∃pi:Int,∃rk,ys=[.ref o,.int pi]/\pi=(p:Int)/\L o=some (.ins C<|qE hp)/\L hp=some (.lst<|nY hs)/\kU rk hs/\p<hs.length/\
 ∀(r:Nat) mv,mv.length=hs.length->kU rk mv->af hs p r->(∀i s,af hs i s->af mv i s)->xY mv=xY hs->Q (.int (r:Int)) (qe L hp<|.lst<|nY mv)
theorem Rb{K:Af}(xf:XFP K C):∀ys L Q,iU C ys L Q->x4 (jH K) 3 ys L Q:=by
 rintro ys L Q ⟨o,hp,hs,p,pi,rk,rfl,rfl,ho,a0,hr,a1,q⟩;obtain⟨r0,t0⟩:=hr.rep' a1;have a3:o≠hp:=FU ho a0 (λe=>by cases e);refine⟨λm τ L'=>∃(J:Vl) (I:Nat),τ=[some<|.ref o,some<|.int (p:Int),some<|.int (I:Int)]/\L'=qe L hp (.lst<|nY J)/\J.length=hs.length/\kU rk J/\I<hs.length/\af J I r0/\(∀i s,af hs i s->af J i s)/\xY J=xY hs/\m=rk I,⟨_,hs,p,rfl,(bC a0).symm,rfl,hr,a1,t0,λ_ _ h=>h,rfl,rfl⟩,?_⟩;rintro m τ L' ⟨J,I,rfl,rfl,hl,U,hh,t,l,a2,rfl⟩;have j:∀z,(qe L hp<|.lst z) o=some (.ins C<|qE hp):=λz=>(qc a3).trans ho;obtain⟨h,r⟩:∃h,J[I]?=some h:=⟨_,Ai (by lia)⟩;refine w4 (j _) ⟨xf.cl,xf.na,qj cZ<|qb q9<|qj (yL r) ?_⟩;by_cases c:h=I
 ·subst c;refine wn (by show(!decide (((h:Nat):Int)=(h:Int)))=false;rw[AE rfl];rfl) ?_;have e:=t.of_top r;subst e;exact xh<|q _ J hl U t0 l a2
 ·refine aH (by show(!decide (((h:Nat):Int)=(I:Int)))=true;rw[Av (by lia)];rfl) ?_;refine⟨_,λ_ _ h=>h,?_⟩;obtain⟨g,T⟩:∃g,J[h]?=some g:=⟨_,Ai (U I h r).1⟩;refine w4 (j _) ⟨xf.cl,xf.na,qj cZ<|w4 (j _) ⟨xf.cl,xf.na,qj cZ<|qb q9<|qj (yL r)<|qb q9<|qj (yL T) ?_⟩⟩;refine w4 (j _) ⟨xf.cl,xf.na,qj cZ<|qo q9<|qj (v:=I) ?_ ?_⟩
  ·exact qQ (by rw[zv];lia)
  rw[zh,IZ];have es:(J.set I g)[I]?=some g:=wb (by lia);refine w4 (j _) ⟨xf.cl,xf.na,qj cZ<|qb q9<|qj (yL es) ?_⟩;obtain⟨a4,a5⟩:=U.halve r c T;refine⟨_,EF _,rk g,a5,J.set I g,g,rfl,rfl,by rw[Bo];exact hl,a4,?_,?_,λi s z=>ix U r c T (rk i+1) i s (BB _)<|l i s z,by rw[Q7 U r c T];exact a2,rfl⟩
  ·rw[<-hl];exact(U h g T).1
  ·have t2:=ix U r c T (rk I+1) I r0 (BB _) t;cases t2 with|root e2=>rw[es] at e2;cases e2;exact .root es|step e2 a7 t3=>rw[es] at e2;cases e2;exact t3
def nV(C:Addr):zd:=λys L Q=>∃o hp,∃hs:Vl,∃p q a b:Nat,∃pi I:Int,ys=[.ref o,.int pi,.int I]/\pi=(p:Int)/\I=(q:Int)/\L o=some (.ins C<|qE hp)/\L hp=some (.lst<|nY hs)/\(∃rk,kU rk hs)/\af hs p a/\af hs q b/\p<hs.length/\q<hs.length/\
 ∀mv,mv.length=hs.length->(∃rk,kU rk mv)->(∀i s,af hs i s->af mv i (if s=a then b else s))->(a=b->xY mv=xY hs)->(a≠b->xY mv+1=xY hs)->Q (.bl<|!decide (a=b)) (qe L hp<|.lst<|nY mv)
theorem Rc{K:Af}(xf:XFP K C):∀ys L Q,nV C ys L Q->x4 (mK K C<|iU C) 5 ys L Q:=by
 rintro ys L Q ⟨o,U,hs,p,q,a,b,pi,qi,rfl,rfl,rfl,l,g,⟨rk,hr⟩,ta,tb,t,a3,k⟩;have T:o≠U:=FU l g (λe=>by cases e);have J:∀z,(qe L U<|.lst z) o=some (.ins C<|qE U):=λz=>(qc T).trans l;refine w4 l ⟨rfl,bF,o,U,hs,p,_,rk,rfl,rfl,l,g,hr,t,λr1 a0 l1 k1 t1 r n1=>?_⟩;cases t1.uniq ta;refine w4 (J _) ⟨rfl,bF,o,U,a0,q,_,rk,rfl,rfl,J _,q9,k1,by lia,λr2 I l2 k2 t2 a2 n2=>?_⟩;cases t2.uniq (r _ _ tb);rw[zh];have ea:I[a]?=some a:=(a2 _ _<|r _ _ ta).top;have eb:I[b]?=some b:=(a2 _ _<|r _ _ tb).top;refine w4 (J _) ⟨xf.cl,xf.na,qj cZ (qo q9 (qj (v:=a) (qQ (by rw[zv];exact zb ea)) ?_))⟩;rw[zh,IZ];have e0:(decide<|(a:Int)=(b:Int))=decide (a=b):=by
  by_cases c:a=b
  ·rw[AE c];exact AE (by lia)
  ·rw[Av c];exact Av (by lia)
 show l6 Q (.bl<|!decide ((a:Int)=(b:Int))) _;rw[e0];refine xh (k (I.set a b) (by rw[Bo];lia) (k2.join ea eb) (λi s z=>Q8 ea eb<|a2 _ _<|r _ _ z) (λe=>?_) λne=>?_)
 ·subst e;have:I.set a a=I:=by
   apply Dh;intro j;by_cases c:a=j
   ·subst c;rw[wb<|zb ea,ea]
   ·rw[kg c]
  rw[this,n2,n1]
 ·have:=Q9 ea eb ne;lia
noncomputable def dw:RD "_law_cell_at" bW 0 ["_law_script","_law_k"] (λ_=>True):=⟨_,λV B c _ _ _ _ _ _ _ I hN J=>(qa (zx (jy Cm (qv 1) (L_ B.ba<|qv 0)<|wo _) (qg<|qx<|I_ (qv 0)<|qv 1) ze)<|qg<|qx qh)⟩
noncomputable def mW:k8:=(dw).1
noncomputable def n6:RD "_law_mix" ge 0 ["_law_cell","_law_k","_law_factor"] (λ_=>True):=⟨_,λV B c _ _ _ _ _ _ _ I hN J=>(qg<|qx<|qk vm (qk jj (qk oF (qk zw (qk zw (qk oF (qk jj (qv 0) qh) qh)<|qk oF (qv 1)<|qv 1) qh)<|qv 2) qh) qh)⟩
noncomputable def wW:k8:=(n6).1
noncomputable def gC(J:zd):RR "_law_weight" bw 1 ["_law_word_here"] ["_law_word_here"] J (λ_=>True):=⟨_,λV B c _ _ I _ _ _ _ _ _ U hN g=>(qa (zx (E_ g (L_ B.ba<|qv 0) qh) (qg<|qx qh) ze)<|qg<|qx<|qk zw (qk zw qh<|C_ I U<|jt<|J_ 0)<|C_ I U<|jt<|J_ 0)⟩
noncomputable def oK(I:zd):k8:=(gC I).1
noncomputable def kF(J:zd):RR "_law_word" fE 1 ["_law_knots","_law_p"] ["_law_knots","_law_p","_law_knot"] J (λ_=>True):=⟨_,λV B c _ _ I _ _ _ _ _ _ U hN g=>(qa (S_ 2 hN<|I_ (qv 0)<|qv 1)<|qa (zx (E_ g (L_ B.ba<|qv 2) qh) (qg<|qx<|qv 2) ze)<|qg<|qx<|zk<|cA (J_ 2) (C_ I U<|vq (qv 0)<|J_ 2)<|C_ I U<|vq (qv 0)<|J_ 2)⟩
noncomputable def sO(I:zd):k8:=(kF I).1
def gW:zd:=λys L Q=>∃I:Vp,∃k:Int,ys=[.sq<|I.map Y.int,.int k]/\0<=k/\∀v,Q (.int v) L
theorem wG:∀ys L Q,gW ys L Q->x4 mW 2 ys L Q:=by rintro ys L Q ⟨I,k,rfl,U,q⟩;refine jc (λc=>?_) λc=>xh<|q 0;have J:k<((I.map Y.int).length:Int):=c;rw[Ag] at J;obtain⟨j,rfl⟩:∃j:Nat,k=(j:Int):=⟨k.toNat,by lia⟩;have e:bz (I.map Y.int) (j:Int)=some (Y.int<|I[j]'(by omega)):=xz<|Ai _;walk_at "w";rw[e];exact xh<|q _
def rW:zd:=λys L Q=>∃c k f:Int,ys=[.int c,.int k,.int f]/\0<=k/\k<1000000/\0<f/\f<1000000/\∀v,0<=v->v<134217728->Q (.int v) L
theorem Rf:∀ys L Q,rW ys L Q->x4 wW 3 ys L Q:=by
 rintro ys L Q ⟨c,k,f,rfl,I,J,U,g,q⟩;refine⟨(by decide:(0:Int)<1000003),.inr ⟨by decide,by decide⟩,.inl ⟨by lia,by lia⟩,.inr ⟨by lia,by lia⟩,(by decide:(0:Int)<2147483647),⟨by decide,by decide⟩,xh<|q _ ?_ ?_⟩
 all_goals
  generalize ((c % 1000003*7+k*k+1)*f)=z;lia
theorem Rg(cs:Vl):(Txt.join ""<|cs.map λc=>(⟨#[c]⟩:Str)).cps.toList=cs:=by
 rw[rY]
 induction cs with|nil=>rfl|cons c r I=>rw[AG,Bj,I];rfl
def cR(n:Nat):zd:=λys L Q=>∃wd,ys=[bv wd]/\wd.depth<=n/\Q (.int wd.size) L
theorem nH:∀ys L Q,¬cR 0 ys L Q:=λys L Q ψ=>by obtain⟨I,_,hd,_⟩:=ψ;cases I<;>simp[Wd.depth] at hd
theorem Rh(n:Nat):∀ys L Q,cR (n+1) ys L Q->x4 (oK<|cR n) 1 ys L Q:=by
 rintro ys L Q ⟨I,rfl,hd,q⟩;cases I with
 |leaf t n=>exact xh q
 |node e l r=>
  have J:max l.depth r.depth+1<=n+1:=hd;refine⟨l,rfl,by lia,r,rfl,by lia,xh ?_⟩;have e:(1+(l.size:Int)+(r.size:Int))=(((Wd.node e l r).size:Nat):Int):=by show _=((1+l.size+r.size:Nat):Int);rfl
  rw[e];exact q
def KW(ks:List Y):Nat->Wd->Prop
 |p,.leaf t n=>ks[p]?=some (.tup [.str<|kL t,.str n])
 |p,.node e l r=>∃i j:Nat,ks[p]?=some (.tup [.str<|kN e,.int i,.int j])/\KW ks i l/\KW ks j r
theorem KW.more{ks:List Y}(ms:List Y):∀{wd:Wd} {p:Nat},KW ks p wd->KW (ks++ms) p wd
 |.leaf _ _,p,h=>by have I:ks[p]?=some _:=h;show(ks++ms)[p]?=some _;rw[AI (AL.mp I).1];exact I
 |.node _ _ _,p,ψ=>(by obtain⟨i,j,h,a,b⟩:=ψ;exact ⟨i,j,by rw[AI (AL.mp h).1];exact h,KW.more ms a,KW.more ms b⟩)
def aW(n:Nat):zd:=λys L Q=>∃k ks p wd,ys=[.ref k,.int ((p:Nat):Int)]/\L k=some (.lst ks)/\KW ks p wd/\wd.depth<=n/\Q (bv wd) L
theorem wY:∀ys L Q,¬aW 0 ys L Q:=λys L Q ψ=>by obtain⟨k,J,p,I,_,_,_,hd,_⟩:=ψ;cases I<;>simp[Wd.depth] at hd
theorem qB:∀ys L Q,¬aW 0 ys L Q:=wY
theorem uV(n:Nat):∀ys L Q,aW (n+1) ys L Q->x4 (sO<|aW n) 3 ys L Q:=by
 rintro ys L Q ⟨k,J,p,U,rfl,I,h,hd,q⟩;cases U with
 |leaf t nm=>exact qb I<|qj (jl h)<|xh q
 |node e l r=>
  obtain⟨i,j,h,g,o⟩:=h;have C:max l.depth r.depth+1<=n+1:=hd;exact qb I<|qj (jl h) ⟨k,J,i,l,rfl,I,g,by lia,k,J,j,r,rfl,I,o,by lia,xh q⟩
def m_(l:Vl):Str:=⟨l.toArray⟩
theorem yD(x:Str):m_ x.cps.toList=x:=by cases x;rfl
noncomputable def ym(J:zd):RR "_law_flip" fK 1 ["_law_word_here"] ["_law_word_here","_law_sides_here"] J (λ_=>True):=⟨_,λV B c _ _ I _ _ _ _ _ _ U hN g=>(qa (S_ 1 hN<|Py [ ("plain" ,"turned") ,("turned" ,"plain") ,("both" ,"either") ,("either" ,"both") ] (hX dW dW<|hX dW dW<|hX dW dW<|hX dW dW NF) rfl rfl (List.cons_ne_nil _ _)<|CI rfl)<|qa (zx (E_ g (L_ B.ba<|qv 0) qh) (qg<|qx<|zk<|vq (I_ (qv 1)<|J_ 0)<|J_ 0) ze)<|qg<|qx<|zk<|cA (I_ (qv 1)<|J_ 0) (C_ I U<|jt<|J_ 0)<|C_ I U<|jt<|J_ 0)⟩
noncomputable def Ri(I:zd):k8:=(ym I).1
def Rj(I:zd)(p1:zd):k8:=(j7 (fj (ss (r9 1)<|dh 2) (j7 (w6<|hU jw (qf 0)<|qr (v4 I<|a8<|qf 1) x0)
 (j7 (w6<|hU jw (qf 0)<|a8<|qf 1)
 (ao<|dF<|qr (aP<|qr (tJ "link")<|qr (jr DR (r9 0)<|dh 2)<|qr (jr DR (r9 0)<|dh 1) x0)<|qr (jr DR (r9 0)<|dh 2)<|qr (jr DR (r9 0)<|dh 1) x0))) bj)
 (j7 (xo (v4 p1<|cq (qf 0)<|jZ 1 1)<|ql 2)
 (j7 (xo (v4 p1<|cq (qf 0)<|jZ 1 2)<|ql 3)
 (j7 (w6<|hU jw (qf 0)<|qr (aP<|qr (jr aN (v4 I<|a8<|qf 1)<|dh 0)<|cq (jZ 2 1)<|jZ 3 1) x0)
 (j7 (w6<|hU jw (qf 0)<|qr (aP<|qr (jZ 1 0)<|cq (jZ 2 2)<|jZ 3 2) x0)
 (j7 (Fk 4 5<|qr (jr DR (r9 0)<|dh 2)<|qr (jr DR (r9 0)<|dh 1) x0)
 (j7 (xo (ER (ss (jZ 1 0)<|tJ "either") (qf 4)<|qf 5)<|ql 6)
 (j7 (xo (ER (ss (jZ 1 0)<|tJ "either") (qf 5)<|qf 4)<|ql 7)
 (ao<|dF<|qr (aP<|qr (tJ "either")<|qr (qf 7)<|qr (aP<|qr (tJ "both")<|qr (qf 6)<|cq (jZ 2 0)<|jZ 3 0) x0)<|cq (qf 4)<|qf 5)))))))))
set_option genInjectivity true in
inductive Kn where
 |lf (t:Bool) (n:Str)|nd (e:Bool) (i j:Nat)
abbrev VG:=Option Kn
abbrev VF:=List Kn
def rM:Kn->Y
 |.lf t n=>.tup [.str<|kL t,.str n]
 |.nd e i j=>.tup [.str<|kN e,.int ((i:Nat):Int),.int ((j:Nat):Int)]
inductive Ru where
 |link (p q:Nat)|ei (r:Nat) (A:Ru)|bo (r:Nat) (A B:Ru)|cu (p q:Nat) (A B:Ru)
def zr:Ru->Y
 |.link p q=>.tup [.str "link",.int ((p:Nat):Int),.int ((q:Nat):Int)]
 |.ei r A=>.tup [.str "either",.int ((r:Nat):Int),zr A]
 |.bo r A B=>.tup [.str "both",.int ((r:Nat):Int),zr A,zr B]
 |.cu p q A B=>.tup [.str "cut",.int ((p:Nat):Int),.int ((q:Nat):Int),zr A,zr B]
def z8:Ru->Vl
 |.link p q=>[p,q]
 |.ei r A=>r::z8 A
 |.bo r A B=>r::(z8 A++z8 B)
 |.cu _ _ A B=>z8 A++z8 B
abbrev x5(ks:VF):List Y:=ks.map rM
def cr(ks:VF)(p:Nat)(w:Wd):Prop:=KW (x5 ks) p w
theorem cr.more{ks:VF}{w:Wd}(h:cr ks p w)(ms:VF):cr (ks++ms) p w:=by unfold cr x5;rw[AD];exact KW.more _ h
def dk(ks:VF):Prop:=∀(p:Nat) (k:Kn),ks[p]?=some k->match k with
 |.lf _ n=>eI n
 |.nd _ i j=>i<p/\j<p
theorem dk.snoc{ks:VF}{k:Kn}(h:dk ks)(I:match k with|.lf _ n=>eI n|.nd _ i j=>i<ks.length/\j<ks.length):dk (ks++[k]):=by
 intro p J e;by_cases c:p<ks.length
 ·rw[AI c] at e;exact h p J e
 ·rw[Ax (by exact yr)] at e;have c2:p=ks.length:=by
   by_cases c3:p-ks.length=0
   ·omega
   ·rw[BU (by simp;exact Ep)] at e;cases e
  subst c2;rw[DC] at e;cases e;exact I
theorem eO(l:List α)(x:α)(r:List α):(l++x::r)[l.length]?=some x:=by rw[Ax<|Al _,DC];rfl
theorem jI{l r:List α}{x:α}(h:l[p]?=some x):(l++r)[p]?=some x:=by rw[AI (AL.mp h).1];exact h
inductive SR(ks:VF):Ru->Vl->Prop
 |link {p q:Nat} {t:Bool} {n:Str} {E:Vl}:p<q->ks[p]?=some (.lf t n)->ks[q]?=some (.lf (!t) n)->(∀x,x∈E↔x=p\/x=q)->E.Nodup->SR ks (.link p q) E
 |ei {r i j:Nat} {A:Ru} {EA E:Vl}:ks[r]?=some (.nd true i j)->SR ks A EA->i∈EA->j∈EA->i≠j->(∀x,x∈E↔(x∈EA/\x≠i/\x≠j)\/x=r)->E.Nodup->SR ks (.ei r A) E
 |bo {r i j:Nat} {A B:Ru} {EA EB E:Vl}:ks[r]?=some (.nd false i j)->SR ks A EA->SR ks B EB->i∈EA->j∈EB->(∀x,x∈E↔(x∈EA/\x≠i)\/(x∈EB/\x≠j)\/x=r)->E.Nodup->SR ks (.bo r A B) E
 |cu {p q:Nat} {A B:Ru} {EA EB E:Vl} {w:Wd}:SR ks A EA->SR ks B EB->p∈EA->q∈EB->cr ks p w->cr ks q w.turn->(∀x,x∈E↔(x∈EA/\x≠p)\/(x∈EB/\x≠q))->E.Nodup->SR ks (.cu p q A B) E
theorem SR.more{ks:VF}{R:Ru}{E:Vl}(h:SR ks R E)(ms:VF):SR (ks++ms) R E:=by induction h with|link j r l I J=>exact .link j (jI r) (jI l) I J|ei j _ l I J o p t=>exact .ei (jI j) t l I J o p|bo j _ _ I J o p U g=>exact .bo (jI j) U g I J o p|cu _ _ l I J o p C U g=>exact .cu U g l I (J.more ms) (o.more ms) p C
theorem SR.sub{ks:VF}{R:Ru}{E:Vl}(h:SR ks R E):∀x∈E,x∈z8 R:=by
 induction h with
 |link _ _ _ j _=>intro x I;rcases (j x).mp I with rfl|rfl<;>simp[z8]
 |ei _ _ _ _ _ g _ l=>intro x I;rcases (g x).mp I with⟨h,_⟩|rfl;exact Ae _<|l x h;exact Ao ..
 |bo _ _ _ _ _ g _ J U=>
  intro x I;rcases (g x).mp I with⟨h,_⟩|⟨h,_⟩|rfl
  ·exact Ae _<|Ap _<|J x h
  ·exact Ae _<|Ah _<|U x h
  ·exact Ao ..
 |cu _ _ _ _ _ _ o _ J U=>
  intro x I;rcases (o x).mp I with⟨h,_⟩|⟨h,_⟩
  ·exact Ap _<|J x h
  ·exact Ah _<|U x h
def a9(n:Nat):zd:=λys L Q=>∃wd,ys=[bv wd]/\wd.depth<=n/\Q (bv wd.turn) L
theorem Rk:∀ys L Q,¬a9 0 ys L Q:=λys L Q ψ=>by obtain⟨I,_,hd,_⟩:=ψ;cases I<;>simp[Wd.depth] at hd
theorem wN(t:Bool):kj ([(("plain" : Str),("turned" : Str)),("turned","plain"),("both","either"),("either","both")].map λp=>((Sum.inr p.1:jb),Y.str p.2)) (Sum.inr<|kL t)=some (.str<|kL<|!t):=kC<|QJ t
theorem wB(t:Bool):kj ([(("plain" : Str),("turned" : Str)),("turned","plain"),("both","either"),("either","both")].map λp=>((Sum.inr p.1:jb),Y.str p.2)) (Sum.inr<|kN t)=some (.str<|kN<|!t):=kC<|QK t
theorem Rl(n:Nat):∀ys L Q,a9 (n+1) ys L Q->x4 (Ri<|a9 n) 2 ys L Q:=by
 rintro ys L Q ⟨J,rfl,hd,q⟩;intro p I;cases J with
 |leaf t nm=>
  refine xa q9<|qj (wN t) ?_;exact nv (By I) q
 |node e l r=>
  have U:max l.depth r.depth+1<=n+1:=hd;refine xa q9<|qj (wB e) ?_;refine⟨l,rfl,by lia,r,rfl,by lia,?_⟩;exact nv (By I) q
structure DT(ks:VF)(w:Wd)(ms:VF)(R:Ru)(tp sp:Nat):Prop where
 len:ms.length=2*w.size
 sr:SR (ks++ms) R [tp,sp]
 wt:cr (ks++ms) tp w.turn
 ws:cr (ks++ms) sp w
 tm:∀x,x∈z8 R↔ks.length<=x/\x<ks.length+ms.length
 nd:(z8 R).Nodup
 ok:dk (ks++ms)
theorem cr.leaf{ks:VF}{n:Str}(h:ks[p]?=some (.lf t n)):cr ks p (.leaf t n):=by show(x5 ks)[p]?=_;rw[Am,h];rfl
theorem cr.node{ks:VF}{e:Bool}{l r:Wd}(h:ks[p]?=some (.nd e i j))(I:cr ks i l)(J:cr ks j r):cr ks p (.node e l r):=by refine⟨i,j,?_,I,J⟩;rw[Am,h];rfl
abbrev EW:=@cr.node
theorem sh{ks:VF}(g:dk ks){n:Str}(I:eI n):DT ks (.leaf t n) [.lf (!t) n,.lf t n] (.link ks.length<|ks.length+1) ks.length (ks.length+1):=by
 have J:(ks++[Kn.lf (!t) n,.lf t n])[ks.length]?=some (.lf (!t) n):=eO _ _ _;have U:(ks++[Kn.lf (!t) n,.lf t n])[ks.length+1]?=some (.lf t n):=by have:=eO (ks++[Kn.lf (!t) n]) (Kn.lf t n) [];rw[Aa,Ay] at this;exact this
 refine⟨rfl,.link (t:=!t) (n:=n) (by exact BB _) J (by rw[Eo];exact U) (by simp) (by simp),cr.leaf J,cr.leaf U,λx=>?_,by simp[z8],?_⟩
 ·show x∈[ks.length,ks.length+1]↔ks.length<=x/\x<ks.length+2;simp;lia
 ·have:=(g.snoc (k:=.lf (!t) n) I).snoc (k:=.lf t n) I;rw[Ay] at this;exact this
theorem SR.nod{ks:VF}{R:Ru}{E:Vl}(h:SR ks R E):E.Nodup:=by cases h<;>assumption
theorem Rm{x h lo a N:Nat}(I:(h=N/\lo=N+1)\/(h=N+1/\lo=N))(hN:N=a+m+r):x=h\/x=lo\/(a<=x/\x<a+m)\/a+m<=x/\x<a+m+r↔a<=x/\x<N+2:=by subst hN;rcases I with⟨rfl,rfl⟩|⟨rfl,rfl⟩<;>lia
theorem Rn{x a b c d N:Nat}(h:a≠b)(k:c≠d):x∈[b,d,N]↔(x∈[a,b]/\x≠a)\/(x∈[c,d]/\x≠c)\/x=N:=by simp only[Aq,Cf,or_false];lia
theorem Ro{x a b c d N:Nat}(h:a≠b)(k:c≠d):x∈[a,c,N]↔(x∈[a,b]/\x≠b)\/(x∈[c,d]/\x≠d)\/x=N:=by simp only[Aq,Cf,or_false];lia
theorem Rp{x a b N M:Nat}(h:a<N)(k:b<N):x∈[N,M]↔(x∈[a,b,N]/\x≠a/\x≠b)\/x=M:=by simp only[Aq,Cf,or_false];lia
theorem Rq{x a b N M:Nat}(h:a<N)(k:b<N):x∈[M,N]↔(x∈[a,b,N]/\x≠a/\x≠b)\/x=M:=by simp only[Aq,Cf,or_false];lia
theorem I0{a b N:Nat}(h:a<N)(k:b<N)(d:a≠b):[a,b,N].Nodup:=by rw[AH,AH];simp;lia
theorem Rr{a N t s u v:Nat}(I:a<=t/\t<a+m)(J:a<=s/\s<a+m)(b1:a+m<=u/\u<a+m+r)(b2:a+m<=v/\v<a+m+r)(hN:N=a+m+r):t<N/\s<N/\u<N/\v<N/\t≠u/\s≠v:=by lia
theorem I9{h lo a N:Nat}(I:(h=N/\lo=N+1)\/(h=N+1/\lo=N))(hN:N=a+m+r):¬(h=lo\/(a<=h/\h<a+m)\/a+m<=h/\h<a+m+r)/\¬((a<=lo/\lo<a+m)\/a+m<=lo/\lo<a+m+r):=by lia
theorem Rs{x y a:Nat}(h1:a<=x/\x<a+m)(h2:a+m<=y/\y<a+m+r)(e:x=y):False:=by lia
theorem Rt{ks I g:VF}{e:Bool}{l r:Wd}{A B:Ru}{tl J tr U:Nat}(p:DT ks l I A tl J)(o:DT (ks++I) r g B tr U){N:Nat}(hN:N=ks.length+(I++g).length):
 DT ks (.node e l r) (I++g++[.nd (!e) tl tr,.nd e J U]) (.ei (if e=true then N+1 else N)<|.bo (if e=true then N else N+1) A B) N (N+1):=by
 have hA:∀x∈[tl,J],ks.length<=x/\x<ks.length+I.length:=λx T=>(p.tm x).mp<|p.sr.sub x T;have hB:∀x∈[tr,U],ks.length+I.length<=x/\x<ks.length+I.length+g.length:=λx T=>by have:=(o.tm x).mp<|o.sr.sub x T;rw[Aa] at this;exact this
 have a1:=hA tl (by simp);have a2:=hA J (by simp);have b1:=hB tr (by simp);have b2:=hB U (by simp);have nA:tl≠J:=by have:=p.sr.nod;simpa using this
 have nB:tr≠U:=by have:=o.sr.nod;simpa using this
 have t:N=ks.length+I.length+g.length:=by rw[hN,Aa];simp +arith only
 obtain⟨d1,d2,d3,d4,d5,d6⟩:=Rr a1 a2 b1 b2 t;generalize j:ks++(I++g++[Kn.nd (!e) tl tr,.nd e J U])=K;have k1:K=(ks++I)++(g++[Kn.nd (!e) tl tr,.nd e J U]):=by rw[<-j];simp
 have k2:K=((ks++I)++g)++[Kn.nd (!e) tl tr,.nd e J U]:=by rw[<-j];simp
 have k3:K=(((ks++I)++g)++[Kn.nd (!e) tl tr])++[.nd e J U]:=by rw[<-j];simp
 have l2:((ks++I)++g).length=N:=by rw[Aa,Aa];lia
 have g1:K[N]?=some (.nd (!e) tl tr):=by rw[k2,<-l2];exact eO _ _ _
 have g2:K[N+1]?=some (.nd e J U):=by
  have l3:(((ks++I)++g)++[Kn.nd (!e) tl tr]).length=N+1:=by rw[Aa,l2];rfl
  rw[k3,<-l3];exact eO _ _ _
 have sA:SR K A [tl,J]:=by rw[k1];exact p.sr.more _
 have sB:SR K B [tr,U]:=by rw[k2];exact o.sr.more _
 have a0:dk K:=by have o1:=o.ok.snoc (k:=.nd (!e) tl tr) (by show tl<((ks++I)++g).length/\tr<((ks++I)++g).length;rw[l2];exact⟨d1,d3⟩);have o2:=o1.snoc (k:=.nd e J U) (by show J<_/\U<_;rw[Aa,l2];exact⟨Cp d2,Cp d4⟩);rw[k3];exact o2
 have tA:=p.tm;have tB:=o.tm;rw[Aa] at tB;have wt:cr K N (Wd.node e l r).turn:=EW g1 (by rw[k1];exact p.wt.more _) (by rw[k2];exact o.wt.more _);have a3:cr K (N+1) (Wd.node e l r):=EW g2 (by rw[k1];exact p.ws.more _) (by rw[k2];exact o.ws.more _);have C:(I++g++[Kn.nd (!e) tl tr,.nd e J U]).length=2*(Wd.node e l r).size:=by have h1:=p.len;have h2:=o.len;show _=2*(1+l.size+r.size);rw[Aa,Aa];simp;lia
 have lt:ks.length+(I++g++[Kn.nd (!e) tl tr,.nd e J U]).length=N+2:=by rw[Aa];simp[hN];rfl
 have tt:∀h lo:Nat,(h=N/\lo=N+1)\/(h=N+1/\lo=N)->(∀x,x∈z8 (.ei h<|.bo lo A B)↔ks.length<=x/\x<ks.length+(I++g++[Kn.nd (!e) tl tr,.nd e J U]).length)/\(z8<|.ei h<|.bo lo A B).Nodup:=by
  intro h lo hh;constructor
  ·intro x;rw[lt];show x∈h::lo::(z8 A++z8 B)↔_;rw[Aq,Aq,Aj,tA,tB];exact Rm hh t
  ·show(h::lo::(z8 A++z8 B)).Nodup;rw[AH,AH,AB];refine⟨?_,?_,p.nd,o.nd,λx T y hy e=>?_⟩
   ·rw[Aq,Aj,tA,tB];exact(I9 hh t).1
   ·rw[Aj,tA,tB];exact(I9 hh t).2
   ·exact Rs ((tA x).mp T) ((tB y).mp hy) e
 cases e with
 |true=>
  have s1:SR K (.bo N A B) [J,U,N]:=by exact .bo g1 sA sB (by simp) (by simp) (λx=>Rn nA nB)<|I0 d2 d4 d6
  have s2:SR K (.ei (N+1)<|.bo N A B) [N,N+1]:=by exact .ei g2 s1 (by simp) (by simp) d6 (λx=>Rp d2 d4) (by simp)
  obtain⟨t1,t2⟩:=tt (N+1) N<|.inr ⟨rfl,rfl⟩;exact⟨C,by rw[j];exact s2,by rw[j];exact wt,by rw[j];exact a3,t1,t2,by rw[j];exact a0⟩
 |false=>
  have s1:SR K (.bo (N+1) A B) [tl,tr,N+1]:=by exact .bo g2 sA sB (by simp) (by simp) (λx=>Ro nA nB)<|I0 (Cp d1) (Cp d3) d5
  have s2:SR K (.ei N<|.bo (N+1) A B) [N,N+1]:=by exact .ei g1 s1 (by simp) (by simp) d5 (λx=>Rq (Cp d1)<|Cp d3) (by simp)
  obtain⟨t1,t2⟩:=tt N (N+1)<|.inl ⟨rfl,rfl⟩;exact⟨C,by rw[j];exact s2,by rw[j];exact wt,by rw[j];exact a3,t1,t2,by rw[j];exact a0⟩
def aG(n:Nat):zd:=λys L Q=>∃a,∃ks:VF,∃w:Wd,ys=[.ref a,bv w]/\L a=some (.lst<|x5 ks)/\w.depth<=n/\n<=120/\w.ok/\dk ks/\ks.length+2*w.size<=10000/\
 ∀ms R tp sp p,L p=none->DT ks w ms R tp sp->Q (.ref p) (qe (qe L a<|.lst<|x5<|ks++ms) p<|.lst [zr R,.int ((tp:Nat):Int),.int ((sp:Nat):Int)])
theorem Rv:∀ys L Q,¬aG 0 ys L Q:=λys L Q ψ=>by obtain⟨a,J,I,_,_,hd,_⟩:=ψ;cases I<;>simp[Wd.depth] at hd
theorem a_:∀m:Nat,m<=20000->m<sizeLine:=λm h=>Bp h (by decide)
theorem yz{FS:zd}(hF:∀ys L Q,a9 120 ys L Q->FS ys L Q)(n:Nat):∀ys L Q,aG (n+1) ys L Q->x4 (Rj FS<|aG n) 8 ys L Q:=by
 rintro ys L Q ⟨a,I,w,rfl,ha,hd,hn,a1,hk,hb,q⟩;have big:=a_;cases w with
 |leaf t nm=>
  have hb:I.length+2*1<=10000:=hb;refine qb ha (hF _ _ _ ⟨.leaf t nm,rfl,by exact BV _,qo ha ⟨big _ (by rw[Ag];lia),?_⟩⟩);refine qb q9 (qo q9 ⟨big _ (by rw[Aa,Ag];simp;lia),?_⟩);rw[zh];have e1:(x5 I++[bv (Wd.leaf t nm).turn])++[bv<|.leaf t nm]=x5 (I++[.lf (!t) nm,.lf t nm]):=by unfold x5;rw[AD,Ay];rfl
  have e2:(x5<|I++[Kn.lf (!t) nm,.lf t nm]).length=I.length+2:=by rw[Ag,Aa];rfl
  have i1:((((x5<|I++[Kn.lf (!t) nm,.lf t nm]).length:Nat):Int)-2)=((I.length:Nat):Int):=by rw[e2];lia
  have i2:((((x5<|I++[Kn.lf (!t) nm,.lf t nm]).length:Nat):Int)-1)=((I.length+1:Nat):Int):=by rw[e2];lia
  have al:(x5 I++[bv (Wd.leaf t nm).turn])++[.tup [.str<|kL t,.str nm]]=x5 (I++[.lf (!t) nm,.lf t nm]):=e1
  first|rw[e1]|rw[al]
  refine qb q9<|qb q9<|qb q9<|qb q9 λp hp=>?_;have np:L p=none:=by
   have:p≠a:=λe=>by rw[e,q9] at hp;cases hp
   rw[qc this] at hp;exact hp
  have:=q _ _ _ _ p np<|sh hk a1;have key:[zr<|.link I.length<|I.length+1,Y.int ((I.length:Nat):Int),Y.int ((I.length+1:Nat):Int)]=[.tup [.str "link",.int<|(((x5<|I++[Kn.lf (!t) nm,.lf t nm]).length:Nat):Int)-2,.int<|(((x5<|I++[Kn.lf (!t) nm,.lf t nm]).length:Nat):Int)-1],.int<|(((x5<|I++[Kn.lf (!t) nm,.lf t nm]).length:Nat):Int)-2,.int<|(((x5<|I++[Kn.lf (!t) nm,.lf t nm]).length:Nat):Int)-1]:=by rw[i1,i2];rfl
  rw[key] at this;exact xh this
 |node e l r=>
  have av:max l.depth r.depth+1<=n+1:=hd;have hb:I.length+2*(1+l.size+r.size)<=10000:=hb;refine⟨a,I,l,rfl,ha,by lia,by exact jE,a1.1,hk,by lia,λJ A g j p1 a7 ML=>?_⟩;have a0:a≠p1:=aS ha a7;have aL:=ML.len;refine⟨a,I++J,r,rfl,by rw[qc a0,q9],by lia,by exact jE,a1.2,ML.ok,by rw[Aa];lia,λU B C T p2 a2 MR=>?_⟩;have ba:=MR.len;have au:p1≠p2:=aS q9 a2;have ab:a≠p2:=aS (by rw[qc a0];exact q9) a2;have a3:qe (qe (qe (qe L a<|.lst<|x5<|I++J) p1<|.lst [zr A,.int ((g:Nat):Int),.int ((j:Nat):Int)]) a<|.lst<|x5<|(I++J)++U) p2 (.lst [zr B,.int ((C:Nat):Int),.int ((T:Nat):Int)]) a=some (.lst<|x5<|(I++J)++U):=by rw[qc ab];exact q9
  have h1:qe (qe (qe (qe L a<|.lst<|x5<|I++J) p1<|.lst [zr A,.int ((g:Nat):Int),.int ((j:Nat):Int)]) a<|.lst<|x5<|(I++J)++U) p2 (.lst [zr B,.int ((C:Nat):Int),.int ((T:Nat):Int)]) p1=some (.lst [zr A,.int ((g:Nat):Int),.int ((j:Nat):Int)]):=by rw[qc au,qc<|A4 a0];exact q9
  have h2:qe (qe (qe (qe L a<|.lst<|x5<|I++J) p1<|.lst [zr A,.int ((g:Nat):Int),.int ((j:Nat):Int)]) a<|.lst<|x5<|(I++J)++U) p2 (.lst [zr B,.int ((C:Nat):Int),.int ((T:Nat):Int)]) p2=some (.lst [zr B,.int ((C:Nat):Int),.int ((T:Nat):Int)]):=q9;have old:∀b o,b≠a->L b=some o->qe (qe (qe (qe L a<|.lst<|x5<|I++J) p1<|.lst [zr A,.int ((g:Nat):Int),.int ((j:Nat):Int)]) a<|.lst<|x5<|(I++J)++U) p2 (.lst [zr B,.int ((C:Nat):Int),.int ((T:Nat):Int)]) b=some o:=λb o nb e=>by
   have n1:b≠p1:=aS e a7;have e2:qe (qe L a<|.lst<|x5<|I++J) p1 (.lst [zr A,.int ((g:Nat):Int),.int ((j:Nat):Int)]) b=some o:=by rw[qc n1,qc nb];exact e
   have n2:b≠p2:=aS e2 a2;rw[qc n2,qc nb];exact e2
  generalize qe (qe (qe (qe L a<|.lst<|x5<|I++J) p1<|.lst [zr A,.int ((g:Nat):Int),.int ((j:Nat):Int)]) a<|.lst<|x5<|(I++J)++U) p2 (.lst [zr B,.int ((C:Nat):Int),.int ((T:Nat):Int)])=L2 at a3 h1 h2 old;have bb:(x5<|(I++J)++U).length=I.length+J.length+U.length:=by rw[Ag,Aa,Aa]
  refine qb a3 (hF _ _ _ ⟨.node e l r,rfl,by show max l.depth r.depth+1<=120;exact Em,qb h1<|qb h2<|qo a3 ⟨big _ (by lia),?_⟩⟩);have a4:∀o,qe L2 a o p1=some (.lst [zr A,.int ((g:Nat):Int),.int ((j:Nat):Int)]):=λo=>by rw[qc<|A4 a0];exact h1
  have a5:∀o,qe L2 a o p2=some (.lst [zr B,.int ((C:Nat):Int),.int ((T:Nat):Int)]):=λo=>by rw[qc<|A4 ab];exact h2
  refine qb q9 (qb (a4 _) (qb (a5 _) (qo q9 ⟨big _ (by rw[Aa];simp;lia),?_⟩)));rw[zh];obtain⟨N,hN⟩:∃N,N=I.length+(J++U).length:=⟨_,rfl⟩;have e1:(x5 ((I++J)++U)++[.tup [.str<|kN<|!e,.int ((g:Nat):Int),.int ((C:Nat):Int)]])++[.tup [.str<|kN e,.int ((j:Nat):Int),.int ((T:Nat):Int)]]=x5 (I++(J++U++[.nd (!e) g C,.nd e j T])):=by unfold x5;simp[rM]
  rw[e1];have lN:(x5<|I++(J++U++[Kn.nd (!e) g C,.nd e j T])).length=N+2:=by rw[Ag,Aa,Aa,hN];simp;rfl
  have i1:((((x5<|I++(J++U++[Kn.nd (!e) g C,.nd e j T])).length:Nat):Int)-2)=((N:Nat):Int):=by rw[lN];lia
  have i2:((((x5<|I++(J++U++[Kn.nd (!e) g C,.nd e j T])).length:Nat):Int)-1)=((N+1:Nat):Int):=by rw[lN];lia
  refine qb q9<|qb q9 ?_;have M:=Rt (e:=e) ML MR hN;have done:∀p,qe L2 a (.lst<|x5<|I++(J++U++[Kn.nd (!e) g C,.nd e j T])) p=none->∀R,DT I (.node e l r) (J++U++[Kn.nd (!e) g C,.nd e j T]) R N (N+1)->
   l6 Q (.ref p) (qe (qe L2 a<|.lst<|x5<|I++(J++U++[Kn.nd (!e) g C,.nd e j T])) p<|.lst [zr R,.int ((N:Nat):Int),.int ((N+1:Nat):Int)]):=λp hp R MM=>by
   have ac:p≠a:=λz=>by rw[z,q9] at hp;cases hp
   rw[qc ac] at hp;have np:L p=none:=by cases z:L p with|none=>rfl|some o=>rw[old p o ac z] at hp;cases hp
   refine nv ?_<|q _ _ _ _ p np MM;intro b o z;by_cases c1:b=p
   ·subst c1;rw[q9] at z ⊢;exact z
   ·rw[qc c1] at z ⊢;by_cases c2:b=a
    ·subst c2;rw[q9] at z ⊢;exact z
    ·rw[qc c2] at z ⊢;exact old b o c2 z
  cases e with
  |true=>
   have key:[zr<|.ei (if true=true then N+1 else N)<|.bo (if true=true then N else N+1) A B,Y.int ((N:Nat):Int),Y.int ((N+1:Nat):Int)]=[.tup [.str "either",.int<|(((x5<|I++(J++U++[Kn.nd (!true) g C,.nd true j T])).length:Nat):Int)-1,.tup [.str "both",.int<|(((x5<|I++(J++U++[Kn.nd (!true) g C,.nd true j T])).length:Nat):Int)-2,zr A,zr B]],.int<|(((x5<|I++(J++U++[Kn.nd (!true) g C,.nd true j T])).length:Nat):Int)-2,.int<|(((x5<|I++(J++U++[Kn.nd (!true) g C,.nd true j T])).length:Nat):Int)-1]:=by rw[i1,i2];rfl
   walk_at "w";refine qb (a4 _)<|qb (a5 _) λp hp=>?_;have:=done p hp _ M;rw[key] at this;exact this
  |false=>
   have key:[zr<|.ei (if false=true then N+1 else N)<|.bo (if false=true then N else N+1) A B,Y.int ((N:Nat):Int),Y.int ((N+1:Nat):Int)]=[.tup [.str "either",.int<|(((x5<|I++(J++U++[Kn.nd (!false) g C,.nd false j T])).length:Nat):Int)-2,.tup [.str "both",.int<|(((x5<|I++(J++U++[Kn.nd (!false) g C,.nd false j T])).length:Nat):Int)-1,zr A,zr B]],.int<|(((x5<|I++(J++U++[Kn.nd (!false) g C,.nd false j T])).length:Nat):Int)-2,.int<|(((x5<|I++(J++U++[Kn.nd (!false) g C,.nd false j T])).length:Nat):Int)-1]:=by rw[i1,i2];rfl
   walk_at "w";refine qb (a4 _)<|qb (a5 _) λp hp=>?_;have:=done p hp _ M;rw[key] at this;exact this
end L3
variable {R:L3.Ru}{ks ms:List L3.Kn}{fx wd:List<|Option L3.Kn}
namespace L3
open PySem L2 Words
noncomputable def m9(I:zd):RD "parts_of" gY 1 ["knot"] (λV=>Ix V I):=⟨_,λV B c _ _ _ _ _ _ _ J hN U=>(qa (zx (bV<|H_ (mf<|qv 0)<|H9<|aV<|C_ c J<|jt<|qv 0) (qg<|qx<|zu vd) ze)<|qg<|qx<|zu<|vq (J_ 0)<|J_ 0)⟩
noncomputable def xB(I:zd):k8:=(m9 I).1
noncomputable def eG:RD "places_there" bM 0 ["knots"] (λ_=>True):=⟨_,λV B c _ _ _ _ _ _ _ I hN J=>(qg<|qx<|fF ["place","knot" ] (EL (by rfl)) rfl (fg rfl B.bf<|qv 0) (IY 1) (λ_ _ _ _=>wc<|aX<|qv 2) λ_ _ _ _=>(qv 1))⟩
noncomputable def mU:k8:=(eG).1
noncomputable def kG:RD "places_in" fC 0 ["pairs","places","p","q"] (λ_=>True):=⟨_,λV B c _ _ _ _ _ _ _ I hN J=>(qa (S_ 1 hN<|zu vd)<|qa (xg u1 rfl (jp<|qv 0) (aA (n:=2) rfl<|zf (G_ 2 hN)<|zf (G_ 3 hN) vv)<|qa (za<|qz (qv 1)<|jt<|qv 2)<|qg<|za<|qz (qv 1)<|jt<|qv 3)<|qg<|qx<|qv 1)⟩
noncomputable def se:k8:=(kG).1
noncomputable def mN(I:zd):RD "boths_of" gT 1 ["web"] (λV=>F' V I):=⟨_,λV B c _ _ _ _ _ _ _ J hN U=>(qg<|qx<|fF ["place"] (EL (by rfl)) rfl (jp<|C_ c J<|jt<|J_ 0) (jB 1) (λ_ _ _ _=>wc<|E_ U (I_ (I_ (J_ 0)<|qv 1) qh) je) λ_ _ _ _=>(qv 1))⟩
noncomputable def wH(I:zd):k8:=(mN I).1
noncomputable def gv(I:zd):RD "part_edges" dM 2 ["knots","places","edges","place"] (λV=>Ga V I):=⟨_,λV B c _ _ _ _ _ _ _ J hN U=>(qa (S_ 2 hN<|zu vd)<|qa (xg u1 rfl (jp<|qv 1) (ww (i:=3) hN rfl<|Or.inr rfl)<|qg<|za<|ou (qv 2)<|jt<|fF ["part"] (EL (by rfl)) rfl (jp<|C_ c J<|jt<|I_ (qv 0)<|qv 3) (jB 4) (λ_ _ _ _=>qI) λ_ _ _ _=>(zk<|vq (qv 3)<|qv 4))<|qg<|qx<|qv 2)⟩
noncomputable def rp(I:zd):k8:=(gv I).1
def w5:VG->Y
 |none=>.non
 |some k=>rM k
abbrev jo(ks:List<|VG):List Y:=ks.map w5
def j6:VG->Vl
 |some (.nd _ i j)=>[i,j]
 |_=>[]
def hZ:zd:=λys L Q=>∃k:VG,ys=[w5 k]/\∀p,L p=none->Q (.ref p) (qe L p<|.lst<|nY<|j6 k)
theorem Rw:∀ys L Q,hZ ys L Q->x4 (xB gQ) 1 ys L Q:=by
 rintro ys L Q ⟨k,rfl,q⟩;cases k with
 |none=>exactλp I=>xh<|q p I
 |some k=>
  cases k with|lf t n=>exact⟨true,t,_,rfl,λp I=>xh<|q p I⟩|nd e i j=>exact⟨false,e,_,rfl,λp I=>xh<|q p I⟩
def gy(f:VG->Bool)(ks:List<|VG)(i:Nat):Vl:=(List.range i).filter λp=>match ks[p]? with
 |some k=>f k
 |none=>false
theorem gq{f:VG->Bool}{ks:List<|VG}{k:VG}(h:ks[i]?=some k):gy f ks (i+1)=gy f ks i++if f k=true then [i] else []:=by unfold gy;rw[B7,AV];congr 1;rw[B3];simp only[h,Bh]
theorem aJ{f:VG->Bool}{ks:List<|VG}(h:p∈gy f ks i):p<i/\∃k,ks[p]?=some k/\f k=true:=by
 unfold gy at h;obtain⟨J,I⟩:=AJ.mp h;refine⟨AX.mp J,?_⟩;split at I
 ·rename_i k e;exact⟨k,e,I⟩
 ·cases I
theorem aq(f:VG->Bool)(ks:List<|VG)(i:Nat):(gy f ks i).length<=i:=by unfold gy;exact AO (Bi _ _) (by rw[A6];simp +arith only)
def vD:VG->Bool
 |some _=>true
 |none=>false
def aC(e:Bool):VG->Bool
 |some (.nd e' _ _)=>decide<|e'=e
 |_=>false
abbrev z7(ks:List<|VG):Vl:=gy vD ks ks.length
abbrev aZ(e:Bool)(ks:List<|VG):Vl:=gy (aC e) ks ks.length
theorem we(a b:Vl):nY (a++b)=nY a++nY b:=by unfold nY;rw[AD]
theorem bx(h:(nY hs)[i]?=some y):∃n,hs[i]?=some n/\y=.int (n:Int):=by unfold nY at h;rw[Am] at h;obtain⟨n,I,J⟩:=Ar.mp h;exact⟨n,I,J.symm⟩
theorem Rx{f:VG->Bool}{ks:List<|VG}{keep:qp->Prop}{Q:YK}(hz:ks.length<=1000)(j:keep L)
 (turn:∀(i:Nat) (k:VG) (R:List Y->qp->Prop) zs,ks[i]?=some k->(f k=true->R (zs++[.int (i:Int)]) L)->(f k=false->R zs L)->g (.tup [.int (i:Nat),w5 k]) (τ++List.replicate 2 none) L λI L2=>tc I L2 λb L3=>kn b (te I L3 λz l=>R (zs++[z]) l)<|R zs L3)
 (o:∀p,L p=none->Q (.ref p) (qe L p<|.lst<|nY<|gy f ks ks.length)):h_ (jO<|jo ks) keep 2 g tc te τ L Q:=by
 refine ag (λi zs=>zs=nY (gy f ks i)) (by rw[bE,Ag];exact Bp hz (by decide)) j rfl ?_ ?_
 ·rintro i y zs r rfl;obtain⟨z,U,rfl⟩:=cW r;rw[Am] at U;obtain⟨k,J,rfl⟩:=Ar.mp U;refine turn i k _ _ J (λh=>⟨L,EF _,rfl,?_⟩) λh=>⟨L,EF _,rfl,?_⟩
  ·rw[gq J,AA h,we];rfl
  ·rw[gq J,Az (by rw[h];exact AF),Aw]
 ·rintro zs rfl;rw[bE,Ag];exact o
def fB:zd:=λys L Q=>∃a,∃ks:List (VG),ys=[.ref a]/\L a=some (.lst<|jo ks)/\ks.length<=1000/\∀p,L p=none->Q (.ref p) (qe L p<|.lst<|nY<|z7 ks)
theorem Ry:∀ys L Q,fB ys L Q->x4 mU 1 ys L Q:=by
 rintro ys L Q ⟨a,o,rfl,I,J,q⟩;refine x9 I λkeep U=>Rx (f:=vD) J (U L rfl) (λi k R r t g j=>?_) λp l=>xh<|q p l;cases k with
 |none=>exact j rfl
 |some k=>cases k<;>exact g rfl
abbrev v9(a l c:Addr):Y:=.tup [.ref a,.ref l,.ref c]
def n8:zd:=λys L Q=>∃a l c,∃ks:List (VG),ys=[v9 a l c]/\L a=some (.lst<|jo ks)/\ks.length<=1000/\∀p,L p=none->Q (.ref p) (qe L p<|.lst<|nY<|aZ false ks)
theorem Rz(f g:VG->Bool)(ks:List<|VG)(i:Nat):((gy f ks i).filter λp=>match ks[p]? with|some k=>g k|none=>false)=gy (λk=>f k&&g k) ks i:=by unfold gy;rw[List.filter_filter];refine CO λp _=>?_;cases ks[p]? with|none=>rfl|some k=>exact Bool.and_comm _ _
theorem uv(e:Bool)(ks:List<|VG)(i:Nat):gy (λk=>vD k&&aC e k) ks i=gy (aC e) ks i:=by unfold gy;refine CO λp _=>?_;cases ks[p]? with|none=>rfl|some k=>cases k<;>rfl
theorem RA:∀ys L Q,n8 ys L Q->x4 (wH fB) 1 ys L Q:=by
 rintro ys L Q ⟨a,l,c,I,rfl,ha,hz,q⟩;refine⟨a,I,rfl,ha,hz,λp j=>?_⟩;have r:=By (o:=.lst<|nY<|z7 I) j _ _ ha;refine x9 q9 λkeep kp=>ag (λi J=>J=nY (((z7 I).take i).filter λp=>match I[p]? with|some k=>aC false k|none=>false)) (by rw[zv];exact Bp (AO (aq _ _ _) hz) (by decide)) (kp _ rfl) rfl ?_ ?_
 ·rintro i y J ey rfl;obtain⟨n,en,rfl⟩:=bx ey;obtain⟨hn,k,g,hk⟩:=aJ<|AC en;have C:(z7 I).take (i+1)=(z7 I).take i++[n]:=by rw[A3,en];rfl
  have a1:bz (jo I) (n:Int)=some (w5 k):=jl (by rw[Am,g];rfl);refine qb r<|qj a1 ?_;cases k with
  |none=>cases hk
  |some k=>
   cases k with
   |lf t nm=>
    have z:cz (λJ L'=>L'=qe L p (.lst<|nY<|z7 I)/\J=nY (((z7 I).take<|i+1).filter λp=>match I[p]? with|some k=>aC false k|none=>false)) (nY<|((z7 I).take i).filter λp=>match I[p]? with|some k=>aC false k|none=>false) (qe L p<|.lst<|nY<|z7 I):=by refine⟨_,EF _,rfl,?_⟩;rw[C,AV,B3];simp[g,aC]
    cases t<;>exact z
   |nd e i' j'=>
    cases e with
    |true=>
     refine⟨_,EF _,rfl,?_⟩;rw[C,AV,B3];simp[g,aC]
    |false=>
     refine⟨_,EF _,rfl,?_⟩;rw[C,AV,B3];simp[g,aC,nY]
 ·rintro J rfl T a0;rw[zv,AW,Rz,uv];have U:L T=none:=iL (By j) a0;refine nv (L:=qe L T<|.lst<|nY<|aZ false I) ?_<|q T U;exact qd.put ((By (o:=.lst<|nY<|z7 I) j).upd U) q9
theorem RB(a b:Nat):min (a:Int) (b:Int)=((min a b:Nat):Int):=by omega
theorem RC(a b:Nat):max (a:Int) (b:Int)=((max a b:Nat):Int):=by omega
def n_(p:Vt):Y:=.tup [.int ((p.1:Nat):Int),.int ((p.2:Nat):Int)]
abbrev qm(l:Vh):List Y:=l.map n_
def zm(ks:List<|VG)(pl:Vl):Vi:=pl.flatMap λp=>match ks[p]? with
 |some k=>(j6 k).map λq=>(p,q)
 |none=>[]
theorem fS(ks:List<|VG)(a b:Vl):zm ks (a++b)=zm ks a++zm ks b:=by unfold zm;rw[A1]
theorem fe{ks:List<|VG}{k:VG}(h:ks[p]?=some k):zm ks [p]=(j6 k).map λq=>(p,q):=by unfold zm;simp[h]
theorem i8(k:VG):(j6 k).length<=2:=by unfold j6;split<;>simp
theorem aE(ks:List<|VG):∀pl:Vl,(zm ks pl).length<=2*pl.length
 |[]=>by simp[zm]
 |p::r=>by
  have I:=aE ks r;have e:=fS ks [p] r;rw[CK] at e;rw[e,Aa,AK];cases h:ks[p]? with
  |none=>
   have:zm ks [p]=[]:=by unfold zm;simp[h]
   rw[this];simp;lia
  |some k=>
   rw[fe h,Ag];have:=i8 k;lia
def i0:zd:=λys L Q=>∃a b,∃ks:List (VG),∃pl:Vl,ys=[.ref a,.ref b]/\L a=some (.lst<|jo ks)/\L b=some (.lst<|nY pl)/\pl.length<=1000/\(∀p∈pl,p<ks.length)/\∀p,L p=none->Q (.ref p) (qe L p<|.lst<|qm<|zm ks pl)
theorem zQ:∀ys L Q,i0 ys L Q->x4 (rp hZ) 4 ys L Q:=by
 rintro ys L Q ⟨a,b,J,pl,rfl,ha,C,hz,T,q⟩;intro p U;have a0:a≠p:=aS ha U;have g:b≠p:=aS C U;refine ax (ys:=nY pl) (jv<|(qc g).trans C) (λi r t=>∃c,r=[some<|.ref a,some<|.ref b,some<|.ref p,c]/\t=qe L p (.lst<|qm<|zm J<|pl.take i)) ⟨_,rfl,rfl⟩ ?_ ?_ ?_
 ·rintro i r t ⟨c,rfl,rfl⟩;rw[qc g,qc g]
 ·rintro i y r t hy ⟨c,rfl,rfl⟩;obtain⟨n,en,rfl⟩:=bx hy;have hn:=T n<|AC en;obtain⟨k,ek⟩:∃k,J[n]?=some k:=⟨_,Ai hn⟩;have a1:bz (jo J) (n:Int)=some (w5 k):=jl (by rw[Am,ek];rfl);have et:pl.take (i+1)=pl.take i++[n]:=by rw[A3,en];rfl
  refine qb q9<|qb ((qc a0).trans ha)<|qj a1 ⟨k,rfl,λp2 I=>?_⟩;refine x9 q9 λkeep kp=>ag (λj zs=>zs=qm (((j6 k).take j).map λq=>(n,q))) (by rw[zv];exact Bp (i8 k) (by decide)) (kp _ rfl) rfl ?_ ?_
  ·rintro j y zs ey rfl;obtain⟨m,em,rfl⟩:=bx ey;refine⟨_,EF _,rfl,?_⟩;rw[A3,em,AD];unfold qm;rw[AD];rfl
  ·rintro zs rfl p3 l;rw[zv,AW];have o:p≠p3:=aS ((qc<|aS q9 I).trans q9) l;refine qo ((qc o).trans<|(qc<|aS q9 I).trans q9)<|qo q9 ⟨?_,?_⟩
   ·rw[Ag,Ag,Ag];have h1:=aE J<|pl.take i;have h2:=i8 k;have h3:(pl.take i).length<=1000:=by rw[AM];lia
    have C:(3000:Nat)<=sizeLine:=by decide
    lia
   ·refine⟨qe L p<|.lst<|qm<|zm J<|pl.take<|i+1,?_,_,rfl,rfl⟩;have e:qm (zm J<|pl.take i)++qm ((j6 k).map λq=>(n,q))=qm (zm J<|pl.take<|i+1):=by rw[et,fS,fe ek];unfold qm;rw[AD]
    rw[e];have n2:L p2=none:=iL (By U) I;have n3:L p3=none:=iL ((By U).trans<|By I) l;exact qd.put ((((By U).trans<|By I).trans<|By l).upd U) q9
 ·rintro r t ⟨c,rfl,rfl⟩;rw[zv,AW];exact xh<|q p U
def j_(hs:Vl)(a b:Nat):Prop:=∃r,af hs a r/\af hs b r
def Mon(hs mv:Vl):Prop:=∀a b,j_ hs a b->j_ mv a b
theorem Mon.trans{a b c:Vl}(h:Mon a b)(k:Mon b c):Mon a c:=λx y z=>k x y<|h x y z
theorem sd{a b:Nat}(h:∀i s,af hs i s->af mv i (if s=a then b else s)):Mon hs mv:=λ_ _ ψ=>(by obtain⟨_,p,q⟩:=ψ;exact ⟨_,h _ _ p,h _ _ q⟩)
theorem RE{a b:Nat}(h:∀i s,af hs i s->af mv i (if s=a then b else s))(ta:af hs p a)(tb:af hs q b):j_ mv p q:=by
 have J:=h _ _ ta;have I:=h _ _ tb;rw[AA rfl] at J;refine⟨b,J,?_⟩;by_cases c:b=a
 ·rw[AA c] at I;exact I
 ·rw[Az c] at I;exact I
structure Eqv(R:Nat->Nat->Prop):Prop where
 r:∀a,R a a
 s:∀{a b},R a b->R b a
 t:∀{a b c},R a b->R b c->R a c
def E9(R:Nat->Nat->Prop)(hs:Vl):Prop:=∀a b,j_ hs a b->R a b
theorem af.lt(h:af hs i r):i<hs.length:=by cases h with|root e=>exact zb e|step e _ _=>exact zb e
theorem zG{R:Nat->Nat->Prop}{a b:Nat}(j:kU rk hs)(hl:mv.length=hs.length)(h:∀i s,af hs i s->af mv i (if s=a then b else s))(ta:af hs p a)(tb:af hs q b)(E:Eqv R)(I:R p q)(F:E9 R hs):E9 R mv:=λx y ψ=>by
 obtain⟨r,l,o⟩:=ψ
 obtain⟨U,J⟩:=j.rep' (i:=x) (by have:=l.lt;lia);obtain⟨g,ty⟩:=j.rep' (i:=y) (by have:=o.lt;lia);have e:=((h _ _ J).uniq l).trans ((h _ _ ty).uniq o).symm;have C:U=a->R x p:=λz=>F x p ⟨a,z▸J,ta⟩;have T:g=a->R y p:=λz=>F y p ⟨a,z▸ty,ta⟩;by_cases c:U=a
 ·by_cases d:g=a
  ·exact E.t (C c)<|E.s<|T d
  ·rw[AA c,Az d] at e;exact E.t (E.t (C c) I)<|F q y ⟨b,tb,e▸ty⟩
 ·by_cases d:g=a
  ·rw[Az c,AA d] at e;exact E.t (F x q ⟨b,e▸J,tb⟩)<|E.s<|E.t (T d) I
  ·rw[Az c,Az d] at e;exact F x y ⟨U,J,e▸ty⟩
theorem xP{R:Nat->Nat->Prop}(E:Eqv R)(n:Nat):E9 R (List.range n):=λx y ψ=>by obtain⟨r,p,q⟩:=ψ;have h:∀{i r:Nat},af (List.range n) i r->r=i:=λ{i r} t=>t.of_top (B6 (by have:=t.lt;rwa[A6] at this));have I:=h p;have J:=h q;subst I;rw[J];exact E.r _
def JnR(hs mv:Vl)(ps:Vh):Prop:=Mon hs mv/\(∀x∈ps,j_ mv x.1 x.2)/\∀R,Eqv R->(∀x∈ps,R x.1 x.2)->E9 R hs->E9 R mv
theorem JnR.snoc{I:Vl}{ps:Vh}{a b:Nat}(j:JnR hs mv ps)(U:kU rk mv)(g:I.length=mv.length)(h:∀i s,af mv i s->af I i (if s=a then b else s))(ta:af mv p a)(tb:af mv q b):JnR hs I (ps++[(p,q)]):=by
 refine⟨j.1.trans<|sd h,λx J=>?_,λR E c F=>zG U g h ta tb E (c (p,q)<|Ah _<|Ak.mpr rfl)<|j.2.2 R E (λx J=>c x<|Ap _ J) F⟩;rcases Aj.mp J with J|J
 ·exact sd h _ _<|j.2.1 x J
 ·rw[Ak.mp J];exact RE h ta tb
def Gd(hs mv:Vl):Prop:=mv.length=hs.length/\∃rk,kU rk mv
theorem fV(a b:Nat):decide ((a:Int)=(b:Int))=decide (a=b):=by
 by_cases c:a=b
 ·rw[AE c];exact AE (by lia)
 ·rw[Av c];exact Av (by lia)
noncomputable def Ja:RD "_law_join" eE 0 ["_law_knots","_law_forest","_law_one","_law_two","_law_first","_law_second","_law_left","_law_right","_law_ends"] (λ_=>True):=⟨_,λV B c _ _ _ _ _ _ _ I hN J=>(qa (S_ 4 hN<|cN (qv 1)<|jt<|qk jj (qv 3)<|L_ B.ba<|qv 1)<|qa (S_ 5 hN<|cN (qv 1)<|jt<|qk jj (qv 2)<|L_ B.ba<|qv 1)<|qa (wy (i:=6) hN rfl (Or.inr rfl)<|I_ (J_ 4)<|qk jj (qk vm (qv 3) qh)<|L_ B.ba<|J_ 4)<|qa (wy (i:=7) hN rfl (Or.inr rfl)<|I_ (J_ 5)<|qk jj (qk vm (qv 2) qh)<|L_ B.ba<|J_ 5)<|qa (za<|qz (qv 0)<|jt<|zk<|cA je (qv 6)<|qv 7)<|qa (wv ["_law_p"] (i:=8) hN rfl (Or.inl rfl) (EL (by rfl)) rfl (jp<|qk zw (J_ 4)<|J_ 5) (jB 9) (λ_ _ _ _=>wc<|jy (nR _ _ _) (qv 9) (zk<|vq (qv 6)<|qv 7) (by with_unfolding_all rfl)) λ_ _ _ _=>(qv 9))<|qg<|za<|qz (qv 1)<|jt<|zu<|vq (zk<|jx je<|cA (qk dc (L_ B.ba<|qv 0) qh) (J_ 4)<|J_ 5)<|qk zw (qv 8)<|zu<|jt<|qk dc (L_ B.ba<|qv 0) qh)⟩
noncomputable def RF:k8:=(Ja).1
noncomputable def yQ:RD "_law_fold" eS 0 ["_law_knots","_law_tree_here","_law_one","_law_two","_law_left","_law_right"] (λ_=>True):=⟨_,λV B c _ _ _ _ _ _ _ I hN J=>(qa (zx (jy Cm (L_ B.ba<|J_ 1) qh<|wo _) (qg yZ) ze)<|qa (S_ 4 hN<|cN (J_ 1)<|jt<|qk jj (qv 3)<|L_ B.ba<|J_ 1)<|qa (S_ 5 hN<|cN (J_ 1)<|jt<|qk jj (qv 2)<|L_ B.ba<|J_ 1)<|qa (za<|qz (qv 0)<|jt<|zk<|cA je (qv 4)<|qv 5)<|qa (lF (qv 1) qh<|zk<|cA je (qk dc (L_ B.ba<|qv 0) qh)<|J_ 1)<|qg<|za<|qz (J_ 1)<|jt<|qk dc (L_ B.ba<|qv 0) qh)⟩
noncomputable def RG:k8:=(yQ).1
theorem cL{ks:VF}:∀{w v:Wd} {p:Nat},cr ks p w->cr ks p v->w=v
 |.leaf t n,.leaf g C,p,h,k=>by
  have h:(x5 ks)[p]?=some (.tup [.str<|kL t,.str n]):=h;have k:(x5 ks)[p]?=some (.tup [.str<|kL g,.str C]):=k;rw[h] at k;injection k with k;injection k with k;injection k with J I;injection I with I _
  injection J with J;injection I with I
  have:t=g:=by cases t<;>cases g<;>first|rfl|(exfalso;revert J;decide +kernel)
  rw[this,I]
 |.leaf t n,.node e l r,p,h,k=>by obtain⟨i,j,k,_⟩:=k;have h:(x5 ks)[p]?=some (.tup [.str<|kL t,.str n]):=h;rw[h] at k;injection k with k;injection k with k;injection k with _ k;injection k with _ k;cases k
 |.node e l r,.leaf t n,p,h,k=>by obtain⟨i,j,h,_⟩:=h;have k:(x5 ks)[p]?=some (.tup [.str<|kL t,.str n]):=k;rw[h] at k;injection k with k;injection k with k;injection k with _ k;injection k with _ k;cases k
 |.node e l r,.node o l' r',p,ψ,χ=>by
  obtain⟨i,j,h,T,hr⟩:=ψ;obtain⟨i',j',k,kl,kr⟩:=χ
  rw[h] at k;injection k with k;injection k with k;injection k with J I;injection I with I U;injection U with U _
  injection J with J;injection I with I;injection U with U
  have e1:i=i':=by lia
  have e2:j=j':=by lia
  subst e1 e2;have:e=o:=by cases e<;>cases o<;>first|rfl|(exfalso;revert J;decide +kernel)
  rw[this,cL (ks:=ks) T kl,cL (ks:=ks) hr kr]
theorem iz{ks:VF}(I:dk ks):∀(m p:Nat),p<m->p<ks.length->∃w,cr ks p w/\w.depth<=p+1/\w.ok
 |0,p,h,_=>absurd h (by lia)
 |m+1,p,h,g=>by
  obtain⟨k,J⟩:∃k,ks[p]?=some k:=⟨_,Ai g⟩;have U:=I p k J;cases k with
  |lf t n=>exact⟨.leaf t n,cr.leaf J,by show 1<=p+1;exact BV _,U⟩
  |nd e i j=>
   have U:i<p/\j<p:=U;obtain⟨l,o,T,C⟩:=iz I m i (by lia) (by omega);obtain⟨r,b1,b2,b3⟩:=iz I m j (by lia) (by lia);exact⟨.node e l r,EW J o b1,by show max l.depth r.depth+1<=p+1;lia,C,b3⟩
def TV(v:Str->Bool):Wd->Bool
 |.leaf t n=>if t=true then !v n else v n
 |.node e l r=>if e=true then TV v l||TV v r else TV v l&&TV v r
theorem lL(v:Str->Bool):∀w:Wd,TV v w.turn=!TV v w
 |.leaf t n=>by cases t<;>simp[Wd.turn,TV]
 |.node e l r=>by cases e<;>simp[Wd.turn,TV,lL v l,lL v r]
theorem SR.lt{E:Vl}(h:SR ks R E):∀x∈z8 R,x<ks.length:=by
 have lt:∀{p:Nat} {k:Kn},ks[p]?=some k->p<ks.length:=λh=>(AL.mp h).1
 induction h with
 |link _ j l _ _=>intro x I;simp[z8] at I;rcases I with rfl|rfl;exact lt j;exact lt l
 |ei g _ _ _ _ _ _ o=>intro x I;rcases Aq.mp I with rfl|I;exact lt g;exact o x I
 |bo g _ _ _ _ _ _ J U=>
  intro x I;rcases Aq.mp I with rfl|I
  ·exact lt g
  ·rcases Aj.mp I with I|I
   ·exact J x I
   ·exact U x I
 |cu _ _ _ _ _ _ _ _ J U=>
  intro x I;rcases Aj.mp I with I|I
  ·exact J x I
  ·exact U x I
theorem SR.tv(hk:dk ks)(v:Str->Bool){E:Vl}(h:SR ks R E):∃x∈E,∃w,cr ks x w/\TV v w=true:=by
 have ex:∀{R':Ru} {E':Vl},SR ks R' E'->∀x∈E',∃w,cr ks x w:=λs x I=>by obtain⟨w,hw,_⟩:=iz hk (x+1) x (by exact BB _)<|s.lt x<|s.sub x I;exact⟨w,hw⟩
 induction h with
 |@link p q t n E _ h2 h3 h4 _=>
  cases ht:TV v (.leaf t n) with
  |true=>exact⟨p,(h4 p).mpr<|.inl rfl,_,cr.leaf h2,ht⟩
  |false=>
   refine⟨q,(h4 q).mpr<|.inr rfl,_,cr.leaf h3,?_⟩;have:=lL v<|.leaf t n;rw[ht] at this;exact this
 |@ei r i j A EA E T hA hi hj _ J _ ih=>
  obtain⟨x,I,w,hw,tv⟩:=ih;obtain⟨wi,U⟩:=ex hA i hi;obtain⟨wj,g⟩:=ex hA j hj;by_cases c1:x=i
  ·subst c1;rw[cL hw U] at tv;exact⟨r,(J r).mpr<|.inr rfl,_,EW T U g,by simp[TV,tv]⟩
  ·by_cases c2:x=j
   ·subst c2;rw[cL hw g] at tv;exact⟨r,(J r).mpr<|.inr rfl,_,EW T U g,by simp[TV,tv]⟩
   ·exact⟨x,(J x).mpr<|.inl ⟨I,c1,c2⟩,w,hw,tv⟩
 |@bo r i j A B EA EB E T hA hB hi hj J _ l o=>
  obtain⟨x,I,w,hw,tv⟩:=l;obtain⟨y,hy,u,C,tu⟩:=o;by_cases c1:x=i
  ·by_cases c2:y=j
   ·subst c1 c2;exact⟨r,(J r).mpr<|.inr<|.inr rfl,_,EW T hw C,by simp[TV,tv,tu]⟩
   ·exact⟨y,(J y).mpr<|.inr<|.inl ⟨hy,c2⟩,u,C,tu⟩
  ·exact⟨x,(J x).mpr<|.inl ⟨I,c1⟩,w,hw,tv⟩
 |@cu p q A B EA EB E w0 hA hB hp hq a0 a1 h7 _ l o=>
  obtain⟨x,I,w,hw,tv⟩:=l;obtain⟨y,hy,u,C,tu⟩:=o;by_cases c1:x=p
  ·by_cases c2:y=q
   ·subst c1 c2;rw[cL hw a0] at tv;rw[cL C a1,lL,tv] at tu;cases tu
   ·exact⟨y,(h7 y).mpr<|.inr ⟨hy,c2⟩,u,C,tu⟩
  ·exact⟨x,(h7 x).mpr<|.inl ⟨I,c1⟩,w,hw,tv⟩
theorem SR.ends(I:dk ks){E:Vl}(h:SR ks R E):0<E.length:=by obtain⟨x,J,_⟩:=h.tv I λ_=>true;exact List.length_pos_of_mem J
structure Tr where
 a:Addr
 b:Addr
 R:Ru
 E:Vl
abbrev VH:=List Tr
abbrev zy(E:Vl):List Y:=E.map λn:Nat=>Y.int (n:Int)
def Tr.ads(t:Tr):List Addr:=[t.a,t.b]
structure bZ(L0 L:qp)(ka fa:Addr)(ks:VF)(fo:VH):Prop where
 hk:L ka=some (.lst<|x5 ks)
 ht:∀t∈fo,L t.a=some (.lst [zr t.R,.ref t.b])/\L t.b=some (.lst<|zy t.E)
 sr:∀t∈fo,SR ks t.R t.E
 nd:(fo.flatMap λt=>z8 t.R).Nodup
 tm:∀x,x∈(fo.flatMap λt=>z8 t.R)↔x<ks.length
 ad:(ka::fa::fo.flatMap Tr.ads).Nodup
 ok:dk ks
 sub:qd L0 L
 fr:∀x∈ka::fa::fo.flatMap Tr.ads,L0 x=none
def zp(fo:VH):List Y:=fo.map λt=>Y.ref t.a
structure oP(L0 L:qp)(ka fa:Addr)(ks:VF)(fo:VH):Prop where
 b:bZ L0 L ka fa ks fo
 hf:L fa=some (.lst<|zp fo)
def DW:Ru->Prop
 |.link _ _=>True
 |.ei _ A=>DW A
 |.bo _ A B=>DW A/\DW B
 |.cu _ _ _ _=>False
def Jb(ks:VF)(fo:VH)(I:VF)(fo':VH):Prop:=(∃ms:VF,I=ks++ms/\∀k∈ms,∃e i j,k=.nd e i j)/\((∀t∈fo,DW t.R)->∀t∈fo',DW t.R)
theorem bZ.perm{fo fo':VH}(h:bZ L0 L ka fa ks fo)(p:fo.Perm fo'):bZ L0 L ka fa ks fo':=by have J:(fo.flatMap λt=>z8 t.R).Perm (fo'.flatMap λt=>z8 t.R):=p.flatMap_right _;have U:(fo.flatMap Tr.ads).Perm (fo'.flatMap Tr.ads):=p.flatMap_right _;refine⟨h.hk,λt I=>h.ht t<|p.mem_iff.mpr I,λt I=>h.sr t<|p.mem_iff.mpr I,J.nodup_iff.mp h.nd,λx=>by rw[<-J.mem_iff];exact h.tm x,((U.cons _).cons _).nodup_iff.mp h.ad,h.ok,h.sub,λx g=>h.fr x<|((U.cons _).cons _).mem_iff.mpr g⟩
end L3
variable {fo rest:List L3.Tr}
namespace L3
open PySem L2 Words
noncomputable def sg:RD "_law_name" e8 0 ["_law_seed","_law_which","_law_letters","_law_size","_law_place","_law_base","_law_sign"] (λ_=>True):=⟨_,λV B c _ _ _ _ _ _ _ J hN I=>(qa (wy (i:=2) hN rfl (Or.inr rfl) je)<|qa (S_ 3 hN<|qk zw qh<|qk jj (qv 0) qh)<|qa (S_ 4 hN<|qk jj (qk vm (qv 0) qh)<|qv 3)<|qa (S_ 5 hN<|PR je<|jt<|fF ["_law_k"] (EL (by rfl)) rfl (ve rfl B.bb<|jt qh) (jB 7) (λ_ _ _ _=>qI) λ_ _ _ _=>(I_ (qv 2)<|qk jj (qk zw (qk vm (qv 0) qh)<|qk oF qh<|qv 7) qh))<|qa (zx (E_ I (qk jj (qk vm (qv 0) qh) qh) qh) (qg<|qx<|xt (gB _ _ _) (qv 5) kz<|vz<|qk zw qh<|qk jj (qk zw (qv 1)<|qv 0) qh) ze)<|qa (S_ 6 hN<|I_ (qv 2)<|qk jj (qk zw (qk zw (qk vm (qv 0) qh)<|qk oF qh<|qv 4)<|qv 1) qh)<|qg<|qx<|qk zw (qk zw (xt (gB _ _ _) (qv 5) kz<|vz<|qv 4)<|qv 6)<|xt (gB _ _ _) (qv 5) (vz<|qk zw (qv 4) qh)<|vz<|qv 3)⟩
noncomputable def RH:k8:=(sg).1
def eF(i:Int):Nat:=97+(i % 26).toNat
theorem yA(i:Int):bz ("abcdefghijklmnopqrstuvwxyz" : Str).cps.toList (i % 26)=some (eF i):=by
 obtain⟨n,I⟩:∃n:Nat,i % 26=n:=⟨(i % 26).toNat,by lia⟩;have h:n<26:=by lia
 unfold eF;rw[I];have key:∀n,n<26->("abcdefghijklmnopqrstuvwxyz" : Str).cps.toList[n]?=some (97+n):=by decide +kernel
 exact jl<|key n h
theorem y4(i:Int):97<=eF i/\eF i<=122:=by unfold eF;lia
def da(s:Int):Vl:=(List.range 8).map λk:Nat=>eF<|s / 64+3*(k:Int)
theorem mI(s:Int):(da s).length=8:=by unfold da;simp
theorem nZ(s:Int):∀c∈da s,97<=c/\c<=122:=λc I=>by obtain⟨k,_,rfl⟩:=Bx.mp I;exact y4 _
def oo(s:Int):Nat:=(s / 8 % (1+s % 8)).toNat
def szN(s:Int):Nat:=(1+s % 8).toNat
theorem Jc(s:Int):oo s<szN s/\szN s<=8/\s / 8 % (1+s % 8)=(oo s:Int)/\1+s % 8=(szN s:Int):=by
 have I:0<1+s % 8:=by lia
 have J:0<=s / 8 % (1+s % 8):=Ex _ (by lia);have U:s / 8 % (1+s % 8)<1+s % 8:=DH _ I;unfold oo szN;lia
def aa(s w:Int):Vl:=
 if s / 64 % 3=1 then(da s).take (1+(w+s) % 3).toNat
 else((da s).take (oo s)++[eF<|s / 64+3*(oo s:Int)+w])++((da s).drop<|oo s+1).take (szN s-(oo s+1))
theorem uJ(s w:Int):eI (m_<|aa s w):=by
 have I:(m_<|aa s w).length=(aa s w).length:=by rw[<-Txs.len_list];show(aa s w).toArray.toList.length=_;simp
 have J:(m_<|aa s w).cps.toList=aa s w:=by show(aa s w).toArray.toList=_;simp
 have U:=mI s;obtain⟨g,j,_,_⟩:=Jc s;refine⟨?_,?_,?_⟩
 ·rw[I];unfold aa;split
  ·rw[AM];omega
  ·rw[Aa,Aa];simp;simp +arith only
 ·rw[I];unfold aa;split
  ·rw[AM];omega
  ·rw[Aa,Aa,AM,AM,BC];simp;lia
 ·rw[J];intro c h;unfold aa at h;split at h
  ·exact nZ s c<|BP h
  ·rcases Aj.mp h with h|h
   ·rcases Aj.mp h with h|h
    ·exact nZ s c<|BP h
    ·rw[Ak.mp h];exact y4 _
   ·exact nZ s c<|CP<|BP h
def mY:zd:=λys L Q=>∃s w:Int,ys=[.int s,.int w]/\Q (.str<|m_<|aa s w) L
theorem RI(h:m<=n)(h2:n<=x.length):(Txt.slice x (some (m:Int))<|some (n:Int)).cps.toList=(x.cps.toList.drop m).take (n-m):=by have e:=ox x (some (m:Int))<|some (n:Int);rw[HT.sIx_nat,HT.sIx_nat,BW h2,BW<|AO h h2] at e;exact e
theorem oz(h:n<=x.length):(Txt.slice x none<|some (n:Int)).cps.toList=x.cps.toList.take n:=by have e:=ox x none<|some (n:Int);rw[HT.sIx_nat,HT.sIx_none,DE,Nat.sub_zero,BW h] at e;exact e
theorem RJ:∀ys L Q,mY ys L Q->x4 RH 7 ys L Q:=by
 rintro ys L Q ⟨s,w,rfl,q⟩;have j:0<1+s % 8:=by lia
 refine⟨(by decide:(0:Int)<8),⟨by decide,by decide⟩,j,⟨by decide,by decide⟩,?_⟩;show h_ (aQ 0 8) _ _ _ _ _ _ _ _;refine gU (m:=8) (λi zs=>zs=((List.range i).map λk:Nat=>Y.str ⟨#[eF<|s / 64+3*(k:Int)]⟩)) (by decide) rfl ?_ ?_
 ·rintro i _ hi rfl;have I:=yA<|s / 64+3*(0+(i:Int));refine⟨⟨by decide,by decide⟩,.inl ⟨by decide,by decide⟩,(by decide:(0:Int)<26),by decide +kernel,?_⟩;walk_at "w";rw[I];refine⟨_,EF _,rfl,?_⟩;rw[B7,AD,show(0:Int)+(i:Int)=(i:Int) by simp +arith only];rfl
 ·rintro _ rfl p t;have e0:((List.range 8).map λk:Nat=>Y.str ⟨#[eF<|s / 64+3*(k:Int)]⟩)=((da s).map λc=>(⟨#[c]⟩:Str)).map Y.str:=by unfold da;rw[Co,Co];rfl
  rw[e0];refine qo q9 ⟨(da s).map λc=>(⟨#[c]⟩:Str),rfl,?_,?_⟩
  ·have J:∀U:Vl,((U.map λc=>(⟨#[c]⟩:Str)).map (·.length)).sum=U.length:=λU=>by induction U with|nil=>rfl|cons c r ih=>rw[AG,AG,EC,ih,AK];show 1+r.length=_;exact Nat.add_comm _ _
   rw[J,mI];show 8+_*0<=_;rw[Nat.mul_zero];decide
  ·have g:=Rg<|da s;have l:(Txt.join ""<|(da s).map λc=>(⟨#[c]⟩:Str)).length=8:=by rw[<-Txs.len_list,g,mI]
   generalize Txt.join "" ((da s).map λc=>(⟨#[c]⟩:Str))=base at l g;obtain⟨p1,p2,o,C⟩:=Jc s;refine⟨⟨by decide,by decide⟩,(by decide:(0:Int)<3),?_⟩;refine jc (λc=>?_) λc=>?_
   ·have e:1+(w+s) % 3=((1+(w+s) % 3).toNat:Int):=by lia
    refine⟨(by decide:(0:Int)<3),fP (by lia),nv (By t) ?_⟩;have es:=oz (x:=base) (n:=(1+(w+s) % 3).toNat) (by lia);have eq:Txt.slice base none (some<|1+(w+s) % 3)=m_ (aa s w):=by rw[e];refine(yD _).symm.trans ?_;rw[es,g];unfold aa;rw[AA c]
    rw[<-eq] at q;exact q
   ·have I:=yA<|s / 64+3*(s / 8 % (1+s % 8))+w;refine⟨⟨by decide,by decide⟩,.inl ⟨by decide,by decide⟩,(by decide:(0:Int)<26),by decide +kernel,?_⟩;walk_at "w";rw[I];have T:=oz (x:=base) (n:=oo s) (by lia);have s2:=RI (x:=base) (m:=oo s+1) (n:=szN s) (by assumption) (by lia);have l1:(Txt.slice base none<|some (oo s:Int)).length=oo s:=by rw[<-Txs.len_list,T,AM,Txs.len_list];lia
    have l2:(Txt.slice base (some ((oo s+1:Nat):Int))<|some (szN s:Int)).length<=8:=by rw[<-Txs.len_list,s2,AM];lia
    refine⟨fP (by lia),?_⟩;refine⟨fP (by rw[o,l1];show oo s+1<=1000;lia),?_⟩;refine⟨fP (by lia),?_⟩;have J:((oo s:Int)+1)=((oo s+1:Nat):Int):=by rfl
    have l3:(Txt.slice base none (some (oo s:Int))++(⟨#[eF<|s / 64+3*(s / 8 % (1+s % 8))+w]⟩:Str)).length=oo s+1:=by rw[PySem.Str.length_append,l1];rfl
    refine⟨fP ?_,nv (By t) ?_⟩
    ·rw[o] at l3 ⊢;rw[l3,J,C];lia
    ·have eq:(Txt.slice base none (some (oo s:Int))++(⟨#[eF<|s / 64+3*(oo s:Int)+w]⟩:Str))++Txt.slice base (some ((oo s+1:Nat):Int)) (some (szN s:Int))=m_ (aa s w):=by
      refine(yD _).symm.trans ?_;have ca:∀a b:Str,(a++b).cps.toList=a.cps.toList++b.cps.toList:=λa b=>by show(a.cps++b.cps).toList=_;simp
      rw[ca,ca,T,s2,g];unfold aa;rw[Az c]
     rw[o,J,C,eq];exact q
theorem RK(t t':Bool)(n I:Str):Da.eq (rN<|.leaf t n) (rN<|.leaf t' I)=(decide (t=t')&&decide (n=I)):=by
 by_cases h:n=I
 ·subst h;cases t<;>cases t'<;>simp[rN,Da.eq,Da.eqs,kM,kL]<;>decide +kernel
 ·cases t<;>cases t'<;>simp[rN,Da.eq,Da.eqs,kM,kL,h]<;>decide +kernel
theorem iq{α β:Type}(f:α->β):∀(l:List α) (n:Nat),(l.map f).eraseIdx n=(l.eraseIdx n).map f
 |[],n=>by simp
 |_::_,0=>rfl
 |x::r,n+1=>by rw[AG,Cu,Cu,AG,iq f r n]
theorem xu{α:Type}:∀{l:List α} {j:Nat} {x:α},l[j]?=some x->l.Perm (x::l.eraseIdx j)
 |[],_,_,h=>by simp at h
 |y::r,0,x,h=>by
  have:y=x:=by simpa using h
  subst this;exact .refl _
 |y::r,j+1,x,h=>by have I:=xu (l:=r) (j:=j) (x:=x) (by simpa using h);rw[Cu];exact(I.cons y).trans (.swap _ _ _)
theorem mm(fo:VH)(j:Nat):(zp fo).eraseIdx j=zp (fo.eraseIdx j):=iq _ fo j
theorem qd.none(s:qd L L'){p:Addr}(h:L' p=none):L p=none:=by cases z:L p with|none=>rfl|some o=>rw[s _ _ z] at h;cases h
theorem bZ.nkf(h:bZ L0 L ka fa ks fo):ka≠fa:=by have ad:=h.ad;rw[AH] at ad;exactλe=>ad.1<|e▸Ao ..
theorem bZ.nk(h:bZ L0 L ka fa ks fo):∀t∈fo,t.a≠fa/\t.b≠fa/\t.a≠ka/\t.b≠ka:=λt I=>by have ad:=h.ad;rw[AH,AH] at ad;have J:t.a∈fo.flatMap Tr.ads:=Bd.mpr ⟨t,I,by simp[Tr.ads]⟩;have U:t.b∈fo.flatMap Tr.ads:=Bd.mpr ⟨t,I,by simp[Tr.ads]⟩;exact⟨λe=>ad.2.1<|e▸J,λe=>ad.2.1<|e▸U,λe=>ad.1<|Ae _<|e▸J,λe=>ad.1<|Ae _<|e▸U⟩
theorem bZ.setF(h:bZ L0 L ka fa ks fo)(o:LO):bZ L0 (qe L fa o) ka fa ks fo:=by
 refine⟨by rw[qc h.nkf];exact h.hk,λt I=>?_,h.sr,h.nd,h.tm,h.ad,h.ok,λb u e=>?_,h.fr⟩
 ·obtain⟨J,U,_,_⟩:=h.nk t I;rw[qc J,qc U];exact h.ht t I
 ·have:b≠fa:=λz=>by rw[z,h.fr fa (by simp)] at e;cases e
  rw[qc this];exact h.sub _ _ e
theorem bZ.mono(h:bZ L0 L ka fa ks fo)(s:qd L L'):bZ L0 L' ka fa ks fo:=
 ⟨s _ _ h.hk,λt I=>⟨s _ _ (h.ht t I).1,s _ _ (h.ht t I).2⟩,h.sr,h.nd,h.tm,h.ad,h.ok,h.sub.trans s,h.fr⟩
theorem bZ.exs(h:bZ L0 L ka fa ks fo):∀z∈fo.flatMap Tr.ads,∃o,L z=some o:=λz I=>by
 obtain⟨t,J,I⟩:=Bd.mp I;obtain⟨U,g⟩:=h.ht t J;have I:z=t.a\/z=t.b:=by simpa[Tr.ads] using I
 rcases I with rfl|rfl
 ·exact⟨_,U⟩
 ·exact⟨_,g⟩
theorem RL{l:List Addr}(nd:l.Nodup)(ex:∀z∈l,∃o,L z=some o)(U:L pa=none)(g:L pb=none)(ne:pa≠pb):(l++[pa,pb]).Nodup:=by
 rw[AB];refine⟨nd,by simp[ne],λu j v J e=>?_⟩;subst e;obtain⟨o,I⟩:=ex u j;simp at J;rcases J with rfl|rfl
 ·rw[U] at I;cases I
 ·rw[g] at I;cases I
theorem bZ.step{old:VH}{t':Tr}(h:bZ L0 L ka fa ks<|old++rest)(C:L' ka=some (.lst<|x5<|ks++ms))(T:L' t'.a=some (.lst [zr t'.R,.ref t'.b])/\L' t'.b=some (.lst<|zy t'.E))
 (keep:∀t∈rest,L' t.a=L t.a/\L' t.b=L t.b) (sub:qd L0 L') (ad:(ka::fa::(rest++[t']).flatMap Tr.ads).Nodup) (fr:∀x∈t'.ads,L0 x=none) (ok:dk<|ks++ms) (sr:SR (ks++ms) t'.R t'.E)
 (tp:(z8 t'.R).Perm<|List.range' ks.length ms.length++old.flatMap λt=>z8 t.R):bZ L0 L' ka fa (ks++ms) (rest++[t']):=by
 have U:=h.nd;have g:=h.tm;rw[A1] at U;have r:((rest++[t']).flatMap λt=>z8 t.R)=(rest.flatMap λt=>z8 t.R)++z8 t'.R:=by rw[A1];simp
 have mem:∀x,x∈z8 t'.R↔(ks.length<=x/\x<ks.length+ms.length)\/x∈(old.flatMap λt=>z8 t.R):=λx=>by rw[tp.mem_iff,Aj,Dj]
 refine⟨C,λt J=>?_,λt J=>?_,?_,λx=>?_,ad,ok,sub,λx I=>?_⟩
 ·rcases Aj.mp J with J|J
  ·obtain⟨k1,k2⟩:=keep t J;rw[k1,k2];exact h.ht t<|Ah _ J
  ·rw[Ak.mp J];exact T
 ·rcases Aj.mp J with J|J
  ·exact(h.sr t<|Ah _ J).more _
  ·rw[Ak.mp J];exact sr
 ·rw[r,AB];rw[AB] at U;refine⟨U.2.1,tp.nodup_iff.mpr ?_,λx I y j e=>?_⟩
  ·rw[AB];refine⟨DP,U.1,λx I y j e=>?_⟩;have I:=Dj.mp I;have j:=(g y).mp (by rw[A1];exact Ap _ j);lia
  ·subst e;rcases (mem x).mp j with j|j
   ·have:=(g x).mp (by rw[A1];exact Ah _ I);lia
   ·exact U.2.2 x j x I rfl
 ·rw[r,Aj,mem,Aa];have o:=g x;rw[A1,Aj] at o;constructor
  ·rintro(l|l|l)
   ·have:=o.mp<|.inr l;exact Hy
   ·lia
   ·have:=o.mp<|.inl l;lia
  ·intro l;by_cases c:x<ks.length
   ·rcases o.mpr c with p|p
    ·exact .inr<|.inr p
    ·exact .inl p
   ·exact .inr<|.inl (by lia)
 ·rcases Aq.mp I with rfl|I
  ·exact h.fr _<|Ao ..
  ·rcases Aq.mp I with rfl|I
   ·exact h.fr _<|Ae _<|Ao ..
   ·rw[A1] at I;rcases Aj.mp I with I|I
    ·exact h.fr _ (Ae _ (Ae _ (by rw[A1];exact Ah _ I)))
    ·exact fr x (by simpa using I)
theorem bZ.put{M:qp}{old:VH}{E:Vl}{fs:LO}(h:bZ L0 L ka fa ks<|old++rest)(U:∀z o,z≠ka->L z=some o->M z=some o)(g:M ka=some (.lst<|x5<|ks++ms))(r:M fa=some fs)(na:M pa=none)(nb:M pb=none)(ne:pa≠pb)(s:qd M L')(C:L' pa=some (.lst [zr R,.ref pb]))(T:L' pb=some (.lst<|zy E))
 (ok:dk<|ks++ms) (sr:SR (ks++ms) R E) (tp:(z8 R).Perm<|List.range' ks.length ms.length++old.flatMap λt=>z8 t.R):bZ L0 L' ka fa (ks++ms) (rest++[⟨pa,pb,R,E⟩]):=by
 have J:∀z o,L0 z=some o->M z=some o:=λz o e=>U _ _ (λw=>by rw[w,h.fr ka (by simp)] at e;cases e)<|h.sub _ _ e;have two:∀z,z∈(⟨pa,pb,R,E⟩:Tr).ads->M z=none:=λz I=>by
  have I:z=pa\/z=pb:=by simpa[Tr.ads] using I
  rcases I with rfl|rfl<;>assumption
 refine bZ.step (old:=old) (t':=⟨pa,pb,R,E⟩) h (s _ _ g) ⟨C,T⟩ (λt j=>?_) (λz o e=>s _ _<|J z o e) ?_ (λz I=>?_) ok sr tp
 ·obtain⟨_,_,n3,n4⟩:=h.nk t<|Ah _ j;obtain⟨l,p⟩:=h.ht t<|Ah _ j;rw[l,p];exact⟨s _ _<|U _ _ n3 l,s _ _<|U _ _ n4 p⟩
 ·have ad:=h.ad;rw[A1] at ad;have:=RL (L:=M) ((((CZ ..).cons_cons _).cons_cons _).nodup ad) (λz I=>?_) na nb ne
  ·rw[A1];simpa[Tr.ads] using this
  ·rcases Aq.mp I with rfl|I
   ·exact⟨_,g⟩
   rcases Aq.mp I with rfl|I
   ·exact⟨_,r⟩
   obtain⟨o,e⟩:=h.exs z (by rw[A1];exact Ah _ I);exact⟨o,U _ _ (λw=>(AH.mp ad).1 (by rw[<-w];exact Ae _<|Ah _ I)) e⟩
 ·cases e:L0 z with|none=>rfl|some o=>have w:=J z o e;rw[two z I] at w;cases w
def qU:zd:=λys L Q=>∃L0 ka fa ks fo,∃one two:Int,ys=[.ref ka,.ref fa,.int one,.int two]/\oP L0 L ka fa ks fo/\2<=fo.length/\fo.length<=200/\ks.length<=200/\
 ∀L' I fo',oP L0 L' ka fa I fo'->I.length=ks.length+1->fo'.length+1=fo.length->Jb ks fo I fo'->Q .non L'
theorem mF{l:List α}(h:0<l.length)(k:Int):∃(j:Nat) (x:α),k % (l.length:Int)=(j:Int)/\j<l.length/\l[j]?=some x:=by have I:0<=k % (l.length:Int):=Ex _ (by lia);have J:k % (l.length:Int)<(l.length:Int):=DH _ (by omega);refine⟨(k % (l.length:Int)).toNat,l[(k % (l.length:Int)).toNat]'(by lia),by lia,by lia,Ai (by lia)⟩
theorem kh:∀(n:Nat) (l:Vl),l.Nodup->(∀x∈l,x<n)->l.length<=n
 |0,l,_,h=>by cases l with|nil=>exact Al _|cons x r=>exact absurd (h x<|Ao ..) (by lia)
 |n+1,l,nd,h=>by
  by_cases c:n∈l
  ·have p:=List.perm_cons_erase c;have J:=kh n (l.erase n) (nd.erase n) λx I=>by have:=(List.Nodup.mem_erase_iff nd).mp I;have:=h x this.2;lia
   rw[p.length_eq,AK];exact Fi
  ·exact B4 (kh n l nd λx I=>by have:=h x I;have:x≠n:=λe=>c<|e▸I;lia)
theorem bJ(h:bZ L0 L ka fa ks fo){t:Tr}(I:t∈fo):0<t.E.length/\t.E.length<=ks.length:=by have s:=h.sr t I;exact⟨s.ends h.ok,kh _ _ s.nod λx J=>s.lt x<|s.sub x J⟩
theorem yW(x l r:Nat):sH (di<|.int (x:Int)) (([.int (l:Int),.int (r:Int)]:List Y).map di)=decide (x=l\/x=r):=by
 show(kM (.int (l:Int)) (.int (x:Int))||(kM (.int (r:Int)) (.int (x:Int))||false))=_;have e:∀a b:Nat,kM (.int (a:Int)) (.int (b:Int))=decide (b=a):=λa b=>by
  show decide ((a:Int)=(b:Int))=decide (b=a);by_cases c:b=a
  ·subst c;simp
  ·rw[Av c];apply Av;lia
 rw[e,e];by_cases I:x=l<;>by_cases J:x=r<;>simp[I,J]
theorem ff{E:Vl}(h:0<E.length)(k:Int):∃x,x∈E/\bz (zy E) (k % ((zy E).length:Int))=some (.int ((x:Nat):Int)):=by obtain⟨j,x,I,J,ex⟩:=mF h k;refine⟨x,AC ex,?_⟩;rw[Ag,I];exact jl (by rw[Am,ex];rfl)
def ky(E1 E2:Vl)(l r:Nat):Vl:=(E1++E2).filter λx=>!decide (x=l\/x=r)
theorem Jd{U:Addr}{E:Vl}{l k:Nat}{Q:YK}(hp:L U=some (.lst<|zy E))(I:E.length<=1000)
 (C:∀y (g:Bool->qp->Prop),vN true y (.tup [.int (l:Int),.int (r:Int)]) L (λx L'=>match x with|.bl c=>g c L'|_=>False)->tc (fh (τ++List.replicate 1 none) k y) L g)
 (T:∀y,z_ (fh (τ++List.replicate 1 none) k y) k=some y)
 (hq:∀p,L p=none->Q (.ref p) (qe L p<|.lst<|zy<|E.filter λx=>!decide (x=l\/x=r))):
 nN L U λys keep L2=>h_ ys keep 1 (ql k) tc (qf k) τ L2 Q:=by
 refine x9 hp λkeep kp=>ag (λj zs=>zs=zy ((E.take j).filter λx=>!decide (x=l\/x=r))) (by rw[Ag];exact pK I) (kp L rfl) rfl ?_ ?_
 ·rintro j y _ o rfl;obtain⟨x,ex,rfl⟩:∃x:Nat,E[j]?=some x/\y=Y.int (x:Int):=by rw[Am] at o;obtain⟨x,e1,e2⟩:=Ar.mp o;exact⟨x,e1,e2.symm⟩
  refine C _ _ ⟨rfl,rfl,?_⟩;rw[yW];show kn (!decide (x=l\/x=r)) _ _;have t:(E.take<|j+1).filter (λx=>!decide (x=l\/x=r))=(E.take j).filter (λx=>!decide (x=l\/x=r))++[x].filter (λx=>!decide (x=l\/x=r)):=by rw[A3,ex,AV];rfl
  by_cases c:x=l\/x=r
  ·refine wn (by rw[AE c];rfl) ?_;refine HR ⟨rfl,?_⟩;rw[t,Br (by simp[c]),Bh,Aw]
  ·refine aH (by rw[Av c];rfl) ?_;unfold qf;rw[T];refine HR ⟨rfl,?_⟩;rw[t,Bt (by simp[c]),Bh];unfold zy;rw[AD];rfl
 ·rintro _ rfl p J;rw[Ag,AW];exact hq p J
theorem xN{k:Int}(U:L fa=some (.lst<|zp fo))(h:0<fo.length):∃(j:Nat) (t:Tr),fo[j]?=some t/\0<=k % ((zp fo).length:Int)/\k % ((zp fo).length:Int)<((zp fo).length:Int)/\
 (zp fo)[(k % ((zp fo).length:Int)).toNat]?=some (.ref t.a)/\qe L fa (.lst<|(zp fo).eraseIdx (k % ((zp fo).length:Int)).toNat) fa=some (.lst<|zp<|fo.eraseIdx j):=by
 obtain⟨j,t,J,g,I⟩:=mF h k;have e:(zp fo).length=fo.length:=Ag ..;rw[e,J];refine⟨j,t,I,by exact AN _,by lia,?_,?_⟩
 ·show(zp fo)[j]?=_;unfold zp;rw[Am,I];rfl
 ·rw[q9];show some (LO.lst<|(zp fo).eraseIdx j)=_;rw[mm]
theorem bZ.two{t1 t2:Tr}(h:bZ L0 L ka fa ks<|t1::t2::rest):∀x,x∈z8 t1.R->x∈z8 t2.R->False:=by intro x I J;have nd:=h.nd;rw[Bj,Bj,AB] at nd;exact nd.2.2 x I x (Ap _ J) rfl
theorem y9{E1 E2:Vl}{l:Nat}(I:l∉E2)(J:r∉E1)(x:Nat):x∈ky E1 E2 l r↔(x∈E1/\x≠l)\/(x∈E2/\x≠r):=by
 unfold ky;rw[AJ,Aj];constructor
 ·rintro⟨h,c⟩;have c:¬(x=l\/x=r):=by simpa using c
  rcases h with h|h
  ·exact .inl ⟨h,λe=>c<|.inl e⟩
  ·exact .inr ⟨h,λe=>c<|.inr e⟩
 ·rintro(⟨h,c⟩|⟨h,c⟩)
  ·refine⟨.inl h,?_⟩;have:x≠r:=λe=>J<|e▸h;simp[c,this]
  ·refine⟨.inr h,?_⟩;have:x≠l:=λe=>I<|e▸h;simp[c,this]
theorem y7{E1 E2:Vl}{l:Nat}(h1:E1.Nodup)(h2:E2.Nodup)(d:∀x,x∈E1->x∈E2->False):(ky E1 E2 l r).Nodup:=by
 unfold ky;have h:(E1++E2).Nodup:=by rw[AB];exact⟨h1,h2,λx I y J e=>d x I<|e▸J⟩
 exact List.Pairwise.filter _ h
theorem i6(a b:Vl):zy (a++b)=zy a++zy b:=AD
theorem gO(a:VH)(t:Tr):zp (a++[t])=zp a++[.ref t.a]:=AD
theorem RM:∀ys L Q,qU ys L Q->x4 RF 9 ys L Q:=by
 rintro ys L Q ⟨L0,ka,fa,j,fo,one,two,rfl,F,h2,cm,bf,q⟩;have big:=a_;have p:∀fo:VH,(zp fo).length=fo.length:=λfo=>Ag ..;have U:∀E:Vl,(zy E).length=E.length:=λE=>Ag ..;obtain⟨j1,I,bg,a1,a2,a3,g⟩:=xN (k:=two) F.hf (by exact jE);have p1:=xu bg;refine qb F.hf (qb F.hf ⟨(by show(0:Int)<((zp fo).length:Int);rw[p];lia),qo F.hf ⟨a1,a2,qj a3 ?_⟩⟩);have B:=(F.b.perm p1).setF<|.lst<|(zp fo).eraseIdx (two % ((zp fo).length:Int)).toNat;generalize qe L fa _=L1 at g B ⊢;have l1:=p1.length_eq;generalize fo.eraseIdx j1=T at l1 g B p1 ⊢;rw[AK] at l1;obtain⟨j2,J,bh,b1,b2,b3,ab⟩:=xN (k:=one) g (by lia);have p2:=xu bh;refine qb g (qb g ⟨(by show(0:Int)<((zp T).length:Int);rw[p];lia),qo g ⟨b1,b2,qj b3 ?_⟩⟩);replace B:=(B.perm<|p2.cons _).setF<|.lst<|(zp T).eraseIdx (one % ((zp T).length:Int)).toNat;generalize qe L1 fa _=L2 at ab B ⊢;have l2:=p2.length_eq;have ba:=p1.trans<|p2.cons _;generalize T.eraseIdx j2=rest at l2 ab B ba ⊢;rw[AK] at l2;clear g a1 a2 a3 b1 b2 b3 p1 p2;have m1:I∈I::J::rest:=by simp
 have m2:J∈I::J::rest:=by simp
 obtain⟨a0,ac⟩:=B.ht I m1;obtain⟨a4,al⟩:=B.ht J m2;obtain⟨_,_,n1,n2⟩:=B.nk I m1;obtain⟨_,_,n3,n4⟩:=B.nk J m2;have ca:=bJ B m1;have cc:=bJ B m2;obtain⟨x,hx,ex⟩:=ff ca.1<|two / 64;obtain⟨y,hy,ey⟩:=ff cc.1<|one / 64;refine qb a0 ⟨⟨by decide,by decide⟩,qb a0 (qb ac ⟨(by show(0:Int)<((zy I.E).length:Int);rw[U];omega),qb ac<|qj ex ?_⟩)⟩;refine qb a4 ⟨⟨by decide,by decide⟩,qb a4 (qb al ⟨(by show(0:Int)<((zy J.E).length:Int);rw[U];omega),qb al<|qj ey ?_⟩)⟩;refine qb B.hk (qo B.hk ⟨big _ (by rw[Ag];exact w_),?_⟩);have ek:x5 j++[.tup [.str "both",.int ((x:Nat):Int),.int ((y:Nat):Int)]]=x5 (j++[.nd false x y]):=by unfold x5;rw[AD];rfl
 rw[ek];have k3:∀z o,z≠ka->L2 z=some o->qe L2 ka (.lst<|x5<|j++[.nd false x y]) z=some o:=λz o n e=>(qc n).trans e;have bb:qe L2 ka (.lst<|x5<|j++[.nd false x y]) ka=some (.lst<|x5<|j++[.nd false x y]):=q9;generalize qe L2 ka _=L3 at bb k3 ⊢;refine qb (k3 _ _ n1 a0) (qb (k3 _ _ n3 a4) ⟨_,_,k3 _ _ n2 ac,k3 _ _ n4 al,fP (by rw[U,U];lia),λpp bc=>?_⟩);rw[<-i6];refine Jd (E:=I.E++J.E) (l:=x) (r:=y) (k:=9) q9 (by rw[Aa];lia) (λy' Q' h=>h) (λ_=>rfl) λpe bd=>?_;generalize hL:qe (qe L3 pp _) pe _=L4;have s4:qd L3 L4:=by rw[<-hL];exact(By bc).trans (By bd)
 have ck:L4 pe=some (.lst<|zy<|ky I.E J.E x y):=by rw[<-hL];exact q9
 clear hL bc bd;have k4:∀z o,z≠ka->L2 z=some o->L4 z=some o:=λz o n e=>s4 _ _<|k3 z o n e;have au:=s4 _ _ bb;have av:=k4 _ _ (A4 B.nkf) ab;have nn:(((x5<|j++[.nd false x y]).length:Nat):Int)-1=((j.length:Nat):Int):=by rw[Ag,Aa];simp
 have lb:(ky I.E J.E x y).length<=(I.E++J.E).length:=Bi ..;rw[Aa] at lb;refine qb av<|qb au<|qb (k4 _ _ n1 a0)<|qb (k4 _ _ n3 a4)<|qb au λpn C=>?_;refine⟨_,_,By C _ _ ck,q9,fP (by rw[U];show _+1<=1000;lia),λpb a5 pa a7=>?_⟩;have be:pb≠pa:=aS q9 a7;have nb:=(By C).none a5;have na:=((By C).trans<|By a5).none a7;generalize hL:qe (qe (qe L4 pn _) pb _) pa _=L7;have s7:qd L4 L7:=by rw[<-hL];exact((By C).trans<|By a5).trans (By a7)
 have ea:L7 pa=some (.lst [zr<|.bo j.length I.R J.R,.ref pb]):=by rw[<-hL,q9];dsimp only;rw[nn];rfl
 have eb:L7 pb=some (.lst<|zy<|ky I.E J.E x y++[j.length]):=by rw[<-hL,qc be,q9];dsimp only;rw[nn,i6];rfl
 clear hL C a5 a7;refine qo (s7 _ _ av) ⟨big _ (by rw[p];lia),?_⟩;have s1:=B.sr I m1;have s2:=B.sr J m2;have aL:∀z,z∈I.E->z∈J.E->False:=λz h1 h2=>B.two z (s1.sub z h1)<|s2.sub z h2;have bm:=y9 (E1:=I.E) (E2:=J.E) (λh=>aL x hx h) λh=>aL y h hy;refine xh (q _ (j++[.nd false x y]) (rest++[⟨pa,pb,.bo j.length I.R J.R,ky I.E J.E x y++[j.length]⟩]) ⟨(bZ.put (old:=[I,J]) B k4 au av na nb (A4 be) s7 ea eb (B.ok.snoc ⟨s1.lt x<|s1.sub x hx,s2.lt y<|s2.sub y hy⟩) (.bo (eO _ _ _) (s1.more _) (s2.more _) hx hy (λz=>?_) ?_) ?_).setF _,by rw[q9,gO]⟩ (by rw[Aa];rfl) (by rw[Aa];simp;lia) ⟨⟨_,rfl,λk hk=>⟨_,_,_,Ak.mp hk⟩⟩,λh t ht=>?_⟩)
 ·rw[Aj,bm,Ak,or_assoc]
 ·rw[AB];refine⟨y7 s1.nod s2.nod aL,by simp,λu hu v hv e=>?_⟩;rw[Ak.mp hv] at e;rcases (bm u).mp hu with⟨h,_⟩|⟨h,_⟩
  ·have:=s1.lt u<|s1.sub u h;lia
  ·have:=s2.lt u<|s2.sub u h;lia
 ·show(j.length::(z8 I.R++z8 J.R)).Perm (List.range' j.length 1++([I,J].flatMap λt=>z8 t.R));simp[Ef]
 ·have h':∀u∈I::J::rest,DW u.R:=λu hu=>h u<|ba.mem_iff.mpr hu;rcases Aj.mp ht with ht|ht
  ·exact h' t<|Ae _<|Ae _ ht
  ·rw[Ak.mp ht];exact⟨h' I m1,h' J m2⟩
theorem sm{E:Vl}{k:Int}(h:0<E.length):∃(j x:Nat),E[j]?=some x/\0<=k % ((zy E).length:Int)/\k % ((zy E).length:Int)<((zy E).length:Int)/\
 (zy E)[(k % ((zy E).length:Int)).toNat]?=some (.int ((x:Nat):Int))/\(zy E).eraseIdx (k % ((zy E).length:Int)).toNat=zy (E.eraseIdx j):=by
 obtain⟨j,x,J,U,I⟩:=mF h k;have e:(zy E).length=E.length:=Ag ..;rw[e,J];refine⟨j,x,I,by exact AN _,by lia,?_,?_⟩
 ·show(zy E)[j]?=_;rw[Am,I];rfl
 ·exact iq _ E j
theorem Ge{a:Addr}{o:LO}:∀z u,z≠a->L z=some u->qe L a o z=some u:=λz u n e=>(qc n).trans e
def oA:zd:=λys L Q=>∃L0 ka fa ks,∃pre post:VH,∃t:Tr,∃one two:Int,ys=[.ref ka,.ref t.a,.int one,.int two]/\oP L0 L ka fa ks (pre++t::post)/\ks.length<=200/\
 ∀L' I fo',oP L0 L' ka fa I fo'->I.length<=ks.length+1->fo'.length=(pre++t::post).length->Jb ks (pre++t::post) I fo'->Q .non L'
theorem RN:∀ys L Q,oA ys L Q->x4 RG 6 ys L Q:=by
 rintro ys L Q ⟨L0,T,fa,I,pre,post,t,one,two,rfl,F,bb,q⟩;have big:=a_;have mt:t∈pre++t::post:=by simp
 have B:=F.b;obtain⟨ta,tb⟩:=B.ht t mt;have le:=bJ B mt;have s:=B.sr t mt;have U:∀E:Vl,(zy E).length=E.length:=λE=>Ag ..;refine qb ta<|qb tb ?_;refine jc (λc=>?_) λc=>?_
 ·exact xh<|q L I _ F (Cc _) rfl ⟨⟨[],(Aw _).symm,λk hk=>by cases hk⟩,λh=>h⟩
 have c:¬(((zy t.E).length:Int)<2):=c;rw[U] at c;have ad:=B.ad;have nkf:=B.nkf;have nk:=B.nk;have r:t.a≠t.b:=by rw[AH,AH,A1,Bj,AB,AB] at ad;have:=ad.2.2.2.1.1;simpa[Tr.ads] using this
 obtain⟨C,x,e1,a1,a2,a3,a4⟩:=sm (k:=two) le.1;refine qb ta (qb tb (qb ta (qb tb ⟨(by show(0:Int)<((zy t.E).length:Int);rw[U];omega),qo tb ⟨a1,a2,qj a3 ?_⟩⟩)));rw[a4];have be:(t.E.eraseIdx C).length+1=t.E.length:=by have:=(xu e1).length_eq;rw[AK] at this;lia
 have a5:qe L t.b (.lst<|zy<|t.E.eraseIdx C) t.a=some (.lst [zr t.R,.ref t.b]):=by rw[qc r];exact ta
 obtain⟨j2,y,e2,b1,b2,b3,b4⟩:=sm (E:=t.E.eraseIdx C) (k:=one) (by lia);refine qb a5 (qb q9 (qb a5 (qb q9 ⟨(by show(0:Int)<((zy<|t.E.eraseIdx C).length:Int);rw[U];omega),qo q9 ⟨b1,b2,qj b3 ?_⟩⟩)));rw[b4,zh];have bc:((t.E.eraseIdx C).eraseIdx j2).length+1=(t.E.eraseIdx C).length:=by have:=(xu e2).length_eq;rw[AK] at this;lia
 have pE:t.E.Perm (x::y::(t.E.eraseIdx C).eraseIdx j2):=(xu e1).trans<|(xu e2).cons _;generalize (t.E.eraseIdx C).eraseIdx j2=j at bc pE;have nt:=nk t mt;have k1:=Ge (L:=L) (a:=t.b) (o:=.lst<|zy j);have a7:qe L t.b (.lst<|zy j) t.b=some (.lst<|zy j):=q9;generalize qe L t.b _=L1 at k1 a7 ⊢;have ab:=k1 _ _ (A4 nt.2.2.2) B.hk;refine qb ab (qo ab ⟨big _ (by rw[Ag];exact w_),?_⟩);have ek:x5 I++[.tup [.str "either",.int ((x:Nat):Int),.int ((y:Nat):Int)]]=x5 (I++[.nd true x y]):=by unfold x5;rw[AD];rfl
 rw[ek];have nn:(((x5<|I++[.nd true x y]).length:Nat):Int)-1=((I.length:Nat):Int):=by rw[Ag,Aa];simp
 have k2:=Ge (L:=L1) (a:=T) (o:=.lst<|x5<|I++[.nd true x y]);have a0:qe L1 T (.lst<|x5<|I++[.nd true x y]) T=some (.lst<|x5<|I++[.nd true x y]):=q9;generalize qe L1 T _=L2 at k2 a0 ⊢;have ac:=k2 _ _ nt.2.2.1<|k1 _ _ r ta;refine qb a0<|qb ac<|qo ac<|qj (v:=0) rfl ?_;generalize hL:qe L2 t.a _=L3;have al:L3 t.a=some (.lst [zr<|.ei I.length t.R,.ref t.b]):=by rw[<-hL,q9];dsimp only;rw[nn];rfl
 have k3:∀z o,z≠t.a->L2 z=some o->L3 z=some o:=by rw[<-hL];exact Ge
 clear hL;have au:=k3 _ _ (A4 nt.2.2.1) a0;have av:=k3 _ _ (A4 r)<|k2 _ _ nt.2.2.2 a7;have g:∀b u,b≠t.a->b≠t.b->b≠T->L b=some u->L3 b=some u:=λb u n1 n2 n3 e=>k3 _ _ n1<|k2 _ _ n3<|k1 _ _ n2 e;refine qb al (qb av (qb au (qo av ⟨big _ (by rw[U];lia),?_⟩)));have en:zy j++[.int<|(((x5<|I++[.nd true x y]).length:Nat):Int)-1]=zy (j++[I.length]):=by rw[nn];unfold zy;rw[AD];rfl
 have l:=pE.nodup_iff.mp s.nod;rw[AH,AH] at l;have hx:x∈t.E:=pE.mem_iff.mpr (by simp);have hy:y∈t.E:=pE.mem_iff.mpr (by simp);have bd:∀u∈pre++post,u.a≠t.a/\u.a≠t.b/\u.b≠t.a/\u.b≠t.b:=λu J=>by have p:(pre++t::post).Perm (t::(pre++post)):=Ce;have aL:=(p.flatMap_right Tr.ads).nodup_iff.mp (by rw[AH,AH] at ad;exact ad.2.2);rw[Bj,AB] at aL;have k:=aL.2.2;have ma:u.a∈(pre++post).flatMap Tr.ads:=Bd.mpr ⟨u,J,by simp[Tr.ads]⟩;have mb:u.b∈(pre++post).flatMap Tr.ads:=Bd.mpr ⟨u,J,by simp[Tr.ads]⟩;exact⟨λe=>k t.a (by simp[Tr.ads]) u.a ma e.symm,λe=>k t.b (by simp[Tr.ads]) u.a ma e.symm,λe=>k t.a (by simp[Tr.ads]) u.b mb e.symm,λe=>k t.b (by simp[Tr.ads]) u.b mb e.symm⟩
 refine xh (q _ (I++[.nd true x y]) (pre++⟨t.a,t.b,.ei I.length t.R,j++[I.length]⟩::post) ⟨?_,?_⟩ (by rw[Aa];exact Al _) (by simp) ⟨⟨_,rfl,λk hk=>⟨_,_,_,Ak.mp hk⟩⟩,λh u J=>?_⟩)
 rotate_right
 ·rcases Aj.mp J with J|J
  ·exact h u<|Ap _ J
  ·rcases Aq.mp J with rfl|J
   ·exact h t mt
   ·exact h u<|Ah _<|Ae _ J
 ·have B':=B.perm (fo':=[t]++(pre++post)) Ce;have st:=bZ.step (old:=[t]) (rest:=pre++post) (t':=⟨t.a,t.b,.ei I.length t.R,j++[I.length]⟩) (ms:=[.nd true x y]) (L':=qe L3 t.b<|.lst<|zy j++[.int<|(((x5<|I++[.nd true x y]).length:Nat):Int)-1]) B' ?_ ⟨?_,?_⟩ (λu J=>?_) (λb o e=>?_) ?_ (λz hz=>?_) ?_ ?_ ?_
  ·exact st.perm (by have p1:((pre++post)++[(⟨t.a,t.b,.ei I.length t.R,j++[I.length]⟩:Tr)]).Perm ((⟨t.a,t.b,.ei I.length t.R,j++[I.length]⟩:Tr)::(pre++post)):=Cj _ _;exact p1.trans Ce.symm)
  ·rw[qc<|A4 (nk t mt).2.2.2];exact au
  ·rw[qc r];exact al
  ·rw[q9,en]
  ·have ba:u∈pre++t::post:=by rcases Aj.mp J with h|h;exact Ap _ h;exact Ah _ (Ae _ h)
   obtain⟨n1,n2,n3,n4⟩:=bd u J;obtain⟨k1,k2,k3,k4⟩:=nk u ba;obtain⟨h1,h2⟩:=B.ht u ba;rw[h1,h2,qc n2,qc n4];exact⟨g _ _ n1 n2 k3 h1,g _ _ n3 n4 k4 h2⟩
  ·have fr:=B.fr;have n0:∀z,L0 z=none->b≠z:=λz hz w=>by rw[w,hz] at e;cases e
   have n1:=n0 T<|fr T (by simp);have n2:=n0 t.a<|fr t.a (by simp[Tr.ads]);have n3:=n0 t.b<|fr t.b (by simp[Tr.ads]);rw[qc n3];exact g _ _ n2 n3 n1<|B.sub _ _ e
  ·have p:(pre++t::post).Perm ((pre++post)++[t]):=Ce.trans (Cj _ _).symm;have e:((pre++post)++[(⟨t.a,t.b,.ei I.length t.R,j++[I.length]⟩:Tr)]).flatMap Tr.ads=((pre++post)++[t]).flatMap Tr.ads:=by simp[A1,Tr.ads]
   rw[e];exact(((p.flatMap_right Tr.ads).cons _).cons _).nodup_iff.mp ad
  ·have hz:z=t.a\/z=t.b:=by simpa[Tr.ads] using hz
   rcases hz with rfl|rfl
   ·exact B.fr _ (by simp[Tr.ads])
   ·exact B.fr _ (by simp[Tr.ads])
  ·exact B.ok.snoc ⟨s.lt x<|s.sub x hx,s.lt y<|s.sub y hy⟩
  ·refine .ei (eO _ _ _) (s.more _) hx hy (λe=>l.1 (by rw[e];exact Ao ..)) (λz=>?_) ?_
   ·rw[Aj,Ak];have hm:=pE.mem_iff (a:=z);rw[Aq,Aq] at hm;have h1:z∈j->z≠x/\z≠y:=λh=>⟨λe=>l.1 (by rw[<-e];exact Ae _ h),λe=>l.2.1<|e▸h⟩;constructor
    ·rintro(h|h)
     ·exact .inl ⟨hm.mpr<|.inr<|.inr h,h1 h⟩
     ·exact .inr h
    ·rintro(⟨h,c1,c2⟩|h)
     ·rcases hm.mp h with e|e|e
      ·exact absurd e c1
      ·exact absurd e c2
      ·exact .inl e
     ·exact .inr h
   ·rw[AB];refine⟨l.2.2,by simp,λu J v hv e=>?_⟩;rw[Ak.mp hv] at e;have:u∈t.E:=pE.mem_iff.mpr<|Ae _<|Ae _ J;have:=s.lt u<|s.sub u this;lia
  ·show(I.length::z8 t.R).Perm (List.range' I.length 1++([t].flatMap λt=>z8 t.R));simp[Ef]
 ·have nf:=nk t mt;rw[qc<|A4 nf.2.1];have:=g fa _ (A4 nf.1) (A4 nf.2.1) (A4 nkf) F.hf;rw[this];unfold zp;rw[AD,AD];rfl
def RP(I:zd)(p1:zd)(p2:zd)(p3:zd):k8:=(j7 (xo (hU pQ (qf 1)<|qr (jr uK (qf 3)<|r9 1) x0)<|ql 4)
 (j7 (xo (jr aN (jZ 4 1)<|jr uK (jr Ps (qf 3)<|dh 64)<|l8 vY<|a8<|jZ 4 1)<|ql 5)
 (j7 (xo (v4 I<|cq (qf 0)<|qf 5)<|ql 6)
 (j7 (xo (Fs (yC .non)<|yC .non)<|eV 2<|ju (ql 7)<|ju (ql 8) cO)
 (j7 (iZ (bQ<|a8<|r9 1) (ql 9)<|iZ (aj<|jr aN (jr aN (qf 1)<|qf 9)<|dh 1) (ql 10)<|fj (n5 (yB<|kJ false<|qf 7)<|ss (v4 I<|cq (qf 0)<|qf 10)<|v4 p1<|a8<|qf 6) (xo (aP<|qr (jr aN (qf 1)<|qf 9)<|a8<|qf 10)<|eV 2<|ju (ql 7)<|ju (ql 8) cO) bj)
 (j7 (fj (n5 (yB<|kJ false<|qf 7)<|yB<|jr Pu (v4 p2<|a8<|qf 6)<|dh 5) (j7 (w6<|hU jw (qf 1)<|a8<|qf 4)
 HQ) bj)
 (uN (fj (yB<|kJ false<|qf 7) (j7 (xo (v4 p3<|cq (qf 0)<|qf 6)<|Il 3<|ju (ql 11)<|ju (ql 8)<|ju (ql 12) cO)
 (xo (dF<|qr (qf 11)<|qr (dF<|cq (qf 8)<|qf 12) x0)<|ql 7))<|w6<|hU lJ (qf 1)<|a8<|qf 7)
 (j7 (xo (xS 1 (aj<|jr ai (jZ 4 1)<|jZ 7 1) (ql 14) (yB<|jr (vN true) (qf 14)<|Fs (qf 5)<|qf 8)<|qf 14)<|ql 13)
 (fj (ss (jr uK (qf 2)<|dh 2)<|dh 0) (w6<|hU jw (qf 1)<|qr (dF<|qr (aP<|qr (tJ "cut")<|qr (qf 5)<|qr (qf 8)<|cq (jZ 4 0)<|jZ 7 0)<|a8<|qf 13) x0)<|w6<|hU jw (qf 1)<|qr (dF<|qr (aP<|qr (tJ "cut")<|qr (qf 8)<|qr (qf 5)<|cq (jZ 7 0)<|jZ 4 0)<|a8<|qf 13) x0)))))))))
theorem rJ:∀a b:List Da,Da.eqs a b=true->a.length=b.length
 |[],[],_=>rfl
 |[],_::_,h=>by cases h
 |_::_,[],h=>by cases h
 |x::r,y::q,h=>by have h:(Da.eq x y&&Da.eqs r q)=true:=h;rw[Bc] at h;rw[AK,AK,rJ r q h.2]
theorem RQ(u:Wd):∀v:Wd,Da.eq (rN u) (rN v)=true->u=v:=by
 induction u with
 |leaf t n=>
  intro v h;cases v with
  |leaf T n'=>
   rw[RK,Bc] at h;rw[of_decide_eq_true h.1,of_decide_eq_true h.2]
  |node e l r=>exact absurd (rJ _ _ h) (by intro z;cases z)
 |node e l r g j=>
  intro v h;cases v with
  |leaf t n=>exact absurd (rJ _ _ h) (by intro z;cases z)
  |node I J U=>
   have h:(kM (.str<|kN e) (.str<|kN I)&&(Da.eq (rN l) (rN J)&&(Da.eq (rN r) (rN U)&&true)))=true:=h;rw[Bc,Bc,Bc] at h;obtain⟨o,p,C,_⟩:=h;have:e=I:=by cases e<;>cases I<;>first|rfl|(exfalso;revert o;decide +kernel)
   rw[this,g J p,j U C]
def vo:Ru->Nat
 |.link _ _=>1
 |.ei _ A=>vo A+1
 |.bo _ A B=>max (vo A) (vo B)+1
 |.cu _ _ A B=>max (vo A) (vo B)+1
theorem aF:∀R:Ru,vo R+1<=(z8 R).length
 |.link _ _=>Al _
 |.ei _ A=>by have:=aF A;simp[vo,z8];lia
 |.bo _ A B=>by have:=aF A;have:=aF B;simp[vo,z8];lia
 |.cu _ _ A B=>by have:=aF A;have:=aF B;simp[vo,z8];lia
def fG:Ru->Da
 |.link p q=>.tup [.s<|.str "link",.s<|.int (p:Int),.s<|.int (q:Int)]
 |.ei r A=>.tup [.s<|.str "either",.s<|.int (r:Int),fG A]
 |.bo r A B=>.tup [.s<|.str "both",.s<|.int (r:Int),fG A,fG B]
 |.cu p q A B=>.tup [.s<|.str "cut",.s<|.int (p:Int),.s<|.int (q:Int),fG A,fG B]
theorem fb{L:qp}:∀{R:Ru} {n:Nat},vo R<=n->jz L n (zr R) (fG R)
 |.link p q,n+1,_=>eL<|.cons (EX _)<|.cons (ET _)<|.cons (ET _) .nil
 |.ei r A,n+1,h=>eL (.cons (EX _) (.cons (ET _) (.cons (fb (by simp[vo] at h;lia)) .nil)))
 |.bo r A B,n+1,h=>eL (.cons (EX _) (.cons (ET _) (.cons (fb (by simp[vo] at h;lia)) (.cons (fb (by simp[vo] at h;lia)) .nil))))
 |.cu p q A B,n+1,h=>eL (.cons (EX _) (.cons (ET _) (.cons (ET _) (.cons (fb (by simp[vo] at h;lia)) (.cons (fb (by simp[vo] at h;lia)) .nil)))))
 |.link _ _,0,h=>by simp[vo] at h
 |.ei _ _,0,h=>by simp[vo] at h
 |.bo _ _ _,0,h=>by simp[vo] at h
 |.cu _ _ _ _,0,h=>by simp[vo] at h
theorem bD:∀R:Ru,Da.eq (fG R) (fG R)=true
 |.link p q=>by simp[fG,Da.eq,Da.eqs,kM]
 |.ei r A=>by simp[fG,Da.eq,Da.eqs,kM,bD A]
 |.bo r A B=>by simp[fG,Da.eq,Da.eqs,kM,bD A,bD B]
 |.cu p q A B=>by simp[fG,Da.eq,Da.eqs,kM,bD A,bD B]
def gc(E:Vl):List Da:=E.map λn:Nat=>Da.s<|.int (n:Int)
theorem qV{L:qp}{n:Nat}:∀E:Vl,Paired (jz L n) (zy E)<|gc E
 |[]=>.nil
 |_::r=>.cons (ET _)<|qV r
theorem qO:∀E I:Vl,Da.eqs (gc E) (gc I)=true↔E=I
 |[],[]=>by simp[gc,Da.eqs]
 |[],_::_=>by simp[gc,Da.eqs]
 |_::_,[]=>by simp[gc,Da.eqs]
 |x::r,y::J=>by
  have U:=qO r J;show(Da.eq (.s<|.int (x:Int)) (.s<|.int (y:Int))&&Da.eqs (gc r) (gc J))=true↔_;rw[Bc,U];have:Da.eq (.s<|.int (x:Int)) (.s<|.int (y:Int))=true↔x=y:=by show decide ((x:Int)=(y:Int))=true↔_;rw[CC];lia
  rw[this];constructor
  ·rintro⟨rfl,rfl⟩;rfl
  ·intro e;injection e with g j;exact⟨g,j⟩
def fi(t:Tr):Da:=.lst [fG t.R,.lst<|gc t.E]
theorem rF{t:Tr}(I:L t.a=some (.lst [zr t.R,.ref t.b]))(J:L t.b=some (.lst<|zy t.E))(h:vo t.R<=n+1):jz L (n+2) (.ref t.a) (fi t):=
 f9 I (.cons (fb h)<|.cons (f9 J<|qV _) .nil)
theorem RS{t u:Tr}:Da.eq (fi t) (fi u)=true->t.E=u.E:=by intro h;have h:(Da.eq (fG t.R) (fG u.R)&&(Da.eqs (gc t.E) (gc u.E)&&true))=true:=h;rw[Bc,Bc] at h;exact(qO _ _).mp h.2.1
theorem RT(t:Tr):Da.eq (fi t) (fi t)=true:=by show(Da.eq (fG t.R) (fG t.R)&&(Da.eqs (gc t.E) (gc t.E)&&true))=true;rw[bD,(qO _ _).mpr rfl];rfl
theorem bZ.rd(h:bZ L0 L ka fa ks fo){t:Tr}(I:t∈fo):vo t.R<=ks.length:=by
 have U:=aF t.R;have nd:(z8 t.R).Nodup:=by obtain⟨a,b,rfl⟩:=CD I;have:=h.nd;rw[A1,Bj,AB,AB] at this;exact this.2.1.1
 have:=kh _ _ nd λx J=>(h.sr t I).lt x J;exact Ou
theorem bZ.one(h:bZ L0 L ka fa ks fo){t u:Tr}(hi:fo[i]?=some t)(I:fo[j]?=some u)(e:t.E=u.E):i=j:=by
 by_cases c:i=j
 ·exact c
 ·exfalso;have s:=h.sr t<|AC hi;have l:=s.ends h.ok;obtain⟨x,J⟩:∃x,x∈t.E:=by cases g:t.E with|nil=>rw[g] at l;simp at l|cons x r=>exact⟨x,Ao ..⟩
  have o:=h.sr u<|AC I;have p:=xu hi;have C:(u::(fo.eraseIdx i))=_:=rfl;have U:u∈fo.eraseIdx i:=by have:fo[j]?=some u:=I;rw[Dp];exact⟨j,λz=>c z.symm,I⟩
  obtain⟨a,b,T⟩:=CD U;have nd:=(p.flatMap_right λt:Tr=>z8 t.R).nodup_iff.mp h.nd;rw[Bj,AB] at nd;exact nd.2.2 x (s.sub x J) x (Bd.mpr ⟨u,U,o.sub x<|e▸J⟩) rfl
theorem mO:∀w:Wd,w.turn.turn=w
 |.leaf t n=>by simp[Wd.turn]
 |.node e l r=>by simp[Wd.turn,mO l,mO r]
theorem dS:∀w:Wd,w.turn.depth=w.depth
 |.leaf t n=>rfl
 |.node e l r=>by simp[Wd.turn,Wd.depth,dS l,dS r]
def Fd(ks:VF)(w:Wd)(rest:VH)(I J:Y):Prop:=(I=.non/\J=.non)\/∃(j:Nat) (u:Tr) (q:Nat),rest[j]?=some u/\q∈u.E/\cr ks q w.turn/\I=.ref u.a/\J=.int (q:Int)
theorem RU{g j:qp}{t1 u:Tr}{x:Nat}{w:Wd}(B:bZ L0 g ka fa ks<|t1::u::rest){fs:LO}(hf:g fa=some fs)(hx:x∈t1.E)(hq:q∈u.E)(o:cr ks x w)(p:cr ks q w.turn){I:Addr}(s:qd g j)(a0:g I=none)
 (he:j I=some (.lst<|zy<|ky t1.E u.E x q)) (J:j pa=none) (hR:R=.cu x q t1.R u.R\/R=.cu q x u.R t1.R):bZ L0 (qe j pa<|.lst [zr R,.ref I]) ka fa ks (rest++[⟨pa,I,R,ky t1.E u.E x q⟩]):=by
 have t:I≠pa:=aS he J;have C:=B.sr t1 (by simp);have T:=B.sr u (by simp);have U:∀z,z∈t1.E->z∈u.E->False:=λz h1 h2=>B.two z (C.sub z h1)<|T.sub z h2;have bm:=y9 (E1:=t1.E) (E2:=u.E) (λh=>U x hx h) λh=>U q h hq;have nod:=y7 (l:=x) (r:=q) C.nod T.nod U;have st:=bZ.put (M:=g) (L':=qe j pa<|.lst [zr R,.ref I]) (old:=[t1,u]) (ms:=[]) (R:=R) (E:=ky t1.E u.E x q) (pa:=pa) (pb:=I) B (λ_ _ _ e=>e) (by rw[Aw];exact B.hk) hf (s.none J) a0 (A4 t) (s.trans<|By J) q9 (by rw[qc t];exact he) (by rw[Aw];exact B.ok) ?_ ?_
 ·rw[Aw] at st;exact st
 ·rw[Aw];rcases hR with rfl|rfl
  ·exact .cu C T hx hq o p bm nod
  ·exact .cu (w:=w.turn) T C hq hx p (by rw[mO];exact o) (λz=>by rw[bm];exact Or.comm) nod
 ·rcases hR with rfl|rfl
  ·show(z8 t1.R++z8 u.R).Perm _;simp
  ·show(z8 u.R++z8 t1.R).Perm _;simpa using Bw
def CJ(L0:qp)(ka fa:Addr)(ks:VF)(one two:Int)(t1:Tr)(x:Nat)(w:Wd)(n:Nat)(τ:jq)(L:qp):Prop:=∃ms u q rest c9 br c11 c12,τ=[some<|.ref ka,some<|.ref fa,some<|.int one,some<|.int two,some<|.ref t1.a,some<|.int (x:Int),some<|bv w,some<|.ref u.a,some<|.int ((q:Nat):Int),c9,br,c11,c12,none]/\
 bZ L0 L ka fa (ks++ms) (t1::u::rest)/\L fa=some (.lst<|zp rest)/\q∈u.E/\cr (ks++ms) q w.turn/\ms.length<=10/\rest.length<=n
def qS:zd:=λys L Q=>∃L0 ka fa ks fo,∃one two:Int,ys=[.ref ka,.ref fa,.int one,.int two]/\oP L0 L ka fa ks fo/\1<=fo.length/\fo.length<=110/\ks.length<=110/\
 ∀L' I fo',oP L0 L' ka fa I fo'->I.length<=ks.length+10->1<=fo'.length->fo'.length<=fo.length->Q .non L'
theorem RW{FS MS:zd}(hF:∀ys L Q,a9 120 ys L Q->FS ys L Q)(hM:∀ys L Q,aG 5 ys L Q->MS ys L Q):∀ys L Q,qS ys L Q->x4 (RP (aW 120) FS (cR 120) MS) 14 ys L Q:=by
 rintro ys L Q ⟨L0,ka,fa,ks,fo,one,two,rfl,F,h1,cn,bm,q⟩;have big:=a_;have C:∀fo:VH,(zp fo).length=fo.length:=λfo=>Ag ..;obtain⟨j1,I,ba,a1,a2,a3,g⟩:=xN (k:=two) F.hf (by assumption);have l1:(fo.eraseIdx j1).length+1=fo.length:=by have:=(xu ba).length_eq;rw[AK] at this;lia
 refine qb F.hf (qb F.hf ⟨(by show(0:Int)<((zp fo).length:Int);rw[C];lia),qo F.hf ⟨a1,a2,qj a3 ?_⟩⟩);have B:=(F.b.perm<|xu ba).setF<|.lst<|(zp fo).eraseIdx (two % ((zp fo).length:Int)).toNat;generalize qe L fa _=L1 at g B ⊢;generalize fo.eraseIdx j1=rest at l1 g B;clear a1 a2 a3;have m1:I∈I::rest:=by simp
 obtain⟨a0,a5⟩:=B.ht I m1;have a7:=bJ B m1;have s1:=B.sr I m1;obtain⟨x,hx,ex⟩:=ff a7.1<|two / 64;refine qb a0 ⟨⟨by decide,by decide⟩,qb a0 (qb a5 ⟨(by show(0:Int)<((zy I.E).length:Int);rw[Ag];omega),qb a5<|qj ex ?_⟩)⟩;obtain⟨w,hw,cw,bb⟩:=iz B.ok (x+1) x (by exact BB _)<|s1.lt x<|s1.sub x hx;have cy:=s1.lt x<|s1.sub x hx;refine⟨ka,x5 ks,x,w,rfl,B.hk,hw,by lia,?_⟩;have cP:w.turn.depth=w.depth:=dS w;refine qb g ⟨⟨by show _<=(((zp rest).length:Nat):Int);exact AN _,by show(((zp rest).length:Nat):Int)<_;rw[C];omega⟩,?_⟩;refine gm (λi τ L'=>∃v7 v8 c9 br,τ=[some<|.ref ka,some<|.ref fa,some<|.int one,some<|.int two,some<|.ref I.a,some<|.int (x:Int),some<|bv w,some v7,some v8,c9,br,none,none,none]/\L'=L1/\Fd ks w rest v7 v8) ⟨_,_,_,_,rfl,rfl,.inl ⟨rfl,rfl⟩⟩ ?_ ?_
 ·rintro i τ L' hi ⟨v7,v8,c9,br,rfl,rfl,fd⟩;have hi:i<rest.length:=by have:i<(((zp rest).length:Nat):Int).toNat:=hi;rw[C] at this;assumption
  obtain⟨u,hu⟩:∃u,rest[i]?=some u:=⟨_,Ai hi⟩;have mu:u∈I::rest:=Ae _<|AC hu;obtain⟨ua,ub⟩:=B.ht u mu;have ei:(zp rest)[i]?=some (.ref u.a):=by unfold zp;rw[Am,hu];rfl
  have e0:(0:Int)+(i:Int)=((i:Nat):Int):=by simp +arith only
  rw[e0];have bc:bz (zp rest) ((i:Nat):Int)=some (.ref u.a):=jl ei;have le:=bJ B mu;have su:=B.sr u mu;refine qb g<|qj bc<|qb ua ?_;refine ax (ys:=zy u.E) (jv ub) (λk τ ab=>∃v7 v8 br,τ=[some<|.ref ka,some<|.ref fa,some<|.int one,some<|.int two,some<|.ref I.a,some<|.int (x:Int),some<|bv w,some v7,some v8,some<|.int ((i:Nat):Int),br,none,none,none]/\ab=L'/\Fd ks w rest v7 v8) ⟨_,_,_,rfl,rfl,fd⟩ ?_ ?_ ?_
  ·rintro k τ _ ⟨_,_,_,_,rfl,_⟩;rfl
  ·rintro k y τ ab ey ⟨v7,v8,br,rfl,rfl,fd⟩;obtain⟨z,ez,rfl⟩:∃z:Nat,u.E[k]?=some z/\y=Y.int (z:Int):=by rw[Am] at ey;obtain⟨z,e1,e2⟩:=Ar.mp ey;exact⟨z,e1,e2.symm⟩
   have hz:z∈u.E:=AC ez;rcases fd with⟨rfl,rfl⟩|⟨j,t,q0,h1,h2,h3,rfl,rfl⟩
   ·have ca:=su.lt z<|su.sub z hz;obtain⟨v,hv,d0,cv⟩:=iz B.ok (z+1) z (by exact BB _) ca;refine⟨ka,x5 ks,z,v,rfl,B.hk,hv,by lia,hF _ _ _ ⟨w,rfl,by lia,?_⟩⟩;refine QL (u:=v) (v:=w.turn) (by lia) ?_;show kn (Da.eq (rN v)<|rN w.turn) _ _;refine OT (λc=>?_) λc=>?_
    ·have hh:=RQ _ _ c;refine qb g<|qj bc ?_;refine⟨_,EF _,?_⟩;exact⟨_,_,_,rfl,rfl,.inr ⟨i,u,z,hu,hz,hh▸hv,rfl,rfl⟩⟩
    ·refine⟨_,EF _,?_⟩;exact⟨_,_,_,rfl,rfl,.inl ⟨rfl,rfl⟩⟩
   ·refine⟨_,EF _,?_⟩;exact⟨_,_,_,rfl,rfl,.inr ⟨j,t,q0,h1,h2,h3,rfl,rfl⟩⟩
  ·rintro τ ab ⟨v7,v8,br,rfl,rfl,fd⟩;refine⟨_,EF _,?_⟩;exact⟨_,_,_,_,rfl,rfl,fd⟩
 ·rintro τ L' ⟨v7,v8,c9,br,rfl,rfl,fd⟩;rcases fd with⟨rfl,rfl⟩|⟨j,u,q0,hj,ac,al,rfl,rfl⟩
  case' inl=>
   refine⟨w,rfl,by lia,?_⟩;show kn (decide<|(w.size:Int) > 5) _ _;refine jc (λc=>?_) λc=>?_
   case' refine_1=>
    refine qb g (qo g ⟨big _ (by rw[C];lia),?_⟩);rw[<-gO];exact xh (q _ ks (rest++[I]) ⟨(B.perm (Cj _ _).symm).setF _,q9⟩ (by exact Bg _ _) (by simp) (by rw[Aa];simp;exact xF))
   case' refine_2=>
    refine⟨CJ L0 ka fa ks one two I x w rest.length,?_,?_⟩
    ·refine hM _ _ _ ⟨ka,ks,w,rfl,B.hk,(by have h1:=w.depth_le;have h2:=w.size_eq;lia),(by decide),bb,B.ok,by lia,λms R tp sp p hp a4=>?_⟩;refine qo q9 ?_;intro pb au T J;have av:qe L' ka (.lst<|x5<|ks++ms) p=none:=by rw[qc<|A4<|aS B.hk hp];exact hp
     have bd:pb≠T:=aS q9 J;have nb:=(By av).none au;have na:=((By av).trans<|By au).none J;have be:qe L' ka (.lst<|x5<|ks++ms) fa=some (.lst<|zp rest):=by rw[qc<|A4 B.nkf];exact g
     generalize hL:qe (qe (qe _ p _) pb _) T _=LF;have sA:qd (qe L' ka<|.lst<|x5<|ks++ms) LF:=by rw[<-hL];exact((By av).trans<|By au).trans (By J)
     have ea:LF T=some (.lst [zr R,.ref pb]):=by rw[<-hL];exact q9
     have eb:LF pb=some (.lst<|zy [tp,sp]):=by rw[<-hL,qc bd];exact q9
     clear hL;refine⟨ms,⟨T,pb,R,[tp,sp]⟩,tp,rest,_,_,_,_,rfl,?_,sA _ _ be,Ao ..,a4.wt,by have:=a4.len;lia,Al _⟩;have st:=bZ.put (old:=[]) B (λz o n e=>(qc n).trans e) q9 be na nb (A4 bd) sA ea eb a4.ok a4.sr (by rw[CA,Aw];exact(Bm a4.nd DP).mpr λz=>by rw[a4.tm,Dj]);exact st.perm<|(Cj _ _).trans<|List.Perm.swap _ _ _
  case' inr=>
   refine⟨CJ L0 ka fa ks one two I x w rest.length,?_,?_⟩
   ·refine qb g<|qo g ⟨rest.map fi,fi u,120,120,j,by decide,?_,?_,?_,⟨fi u,?_,RT u⟩,λk d hk ek=>?_,?_⟩
    ·have dd:∀l:VH,(∀t∈l,t∈I::rest)->Paired (jz L' 120) (zp l) (l.map fi):=λl=>by
      induction l with
      |nil=>intro _;exact .nil
      |cons t r ih=>
       intro h;have mt:=h t<|Ao ..;obtain⟨h1,h2⟩:=B.ht t mt;have:=B.rd mt;exact .cons (rF (n:=118) h1 h2 (by lia))<|ih λt ht=>h t<|Ae _ ht
     exact dd rest λt ht=>Ae _ ht
    ·have mt:u∈I::rest:=Ae _<|AC hj;obtain⟨h1,h2⟩:=B.ht u mt;have:=B.rd mt;exact rF (n:=118) h1 h2 (by omega)
    ·rw[Ag];exact(AL.mp hj).1
    ·rw[Am,hj];rfl
    ·rw[Am] at ek;obtain⟨v,ev,rfl⟩:=Ar.mp ek;cases c:Da.eq (fi v) (fi u) with
     |false=>rfl
     |true=>
      have:=B.one (i:=k+1) (j:=j+1) (by simpa using ev) (by simpa using hj)<|RS c;lia
    ·rw[mm];have B2:=(B.perm<|(xu hj).cons _).setF<|.lst<|zp<|rest.eraseIdx j;exact⟨[],u,q0,rest.eraseIdx j,_,_,_,_,rfl,(Aw ks).symm▸B2,q9,ac,(Aw ks).symm▸al,A8 _,C9 ..⟩
  all_goals
   rintro de L' ⟨ms,u,q0,U,c9,br,c11,c12,rfl,B',hf,ac,al,dj,dp⟩;have m1:I∈I::u::U:=by simp
   have m2:u∈I::u::U:=by simp
   obtain⟨a0,a5⟩:=B'.ht I m1;obtain⟨aL,cc⟩:=B'.ht u m2;have a7:=bJ B' m1;have ck:=bJ B' m2;rw[Aa] at a7 ck;refine qb a0 (qb aL ⟨_,_,a5,cc,fP (by rw[Ag,Ag];omega),λpp bf=>?_⟩);rw[<-i6];refine Jd (E:=I.E++u.E) (l:=x) (r:=q0) (k:=14) q9 (by rw[Aa];omega) (λy' Q' h=>h) (λ_=>rfl) λpe bg=>?_;have bh:L' pe=none:=(By bf).none bg;generalize hL:qe (qe L' pp _) pe _=L4;have s4:qd L' L4:=by rw[<-hL];exact(By bf).trans (By bg)
   have cm:L4 pe=some (.lst<|zy<|ky I.E u.E x q0):=by rw[<-hL];exact q9
   have done:∀(R:Ru) T,L4 T=none->(R=.cu x q0 I.R u.R\/R=.cu q0 x u.R I.R)->Q .non (qe (qe L4 T<|.lst [zr R,.ref pe]) fa<|.lst<|zp U++[.ref T]):=λR T J hR=>by rw[<-gO U ⟨T,pe,R,ky I.E u.E x q0⟩];exact q _ (ks++ms) (U++[⟨T,pe,R,ky I.E u.E x q0⟩]) ⟨(RU B' hf hx ac (hw.more ms) al s4 bh cm J hR).setF _,q9⟩ (by rw[Aa];omega) (by simp) (by rw[Aa];simp;omega)
   refine⟨(by show(0:Int)<2;decide),?_⟩;show kn (decide<|one % 2=0) _ _;refine jc (λc=>?_) λc=>?_
   ·refine qb (s4 _ _ hf)<|qb (s4 _ _ a0)<|qb (s4 _ _ aL) λT J=>?_;refine qo (By J _ _<|s4 _ _ hf) ⟨big _ (by rw[C];omega),?_⟩;exact xh<|done _ T J<|.inl rfl
   ·refine qb (s4 _ _ hf)<|qb (s4 _ _ aL)<|qb (s4 _ _ a0) λT J=>?_;refine qo (By J _ _<|s4 _ _ hf) ⟨big _ (by rw[C];omega),?_⟩;exact xh<|done _ T J<|.inr rfl
theorem oP.mono(h:oP L0 L ka fa ks fo)(s:qd L L'):oP L0 L' ka fa ks fo:=⟨h.b.mono s,s _ _ h.hf⟩
theorem bZ.plus{I:qp}{t':Tr}{fs:LO}(B:bZ L0 L ka fa ks rest)(j:L fa=some fs)(sA:qd (qe L ka<|.lst<|x5<|ks++ms) I)(ea:I t'.a=some (.lst [zr t'.R,.ref t'.b]))(eb:I t'.b=some (.lst<|zy t'.E))
 (J:qe L ka (.lst<|x5<|ks++ms) t'.a=none) (U:qe L ka (.lst<|x5<|ks++ms) t'.b=none) (g:t'.a≠t'.b) (ok:dk<|ks++ms) (l:SR (ks++ms) t'.R t'.E) (p:∀x,x∈z8 t'.R↔ks.length<=x/\x<ks.length+ms.length) (nd:(z8 t'.R).Nodup):
 bZ L0 I ka fa (ks++ms) (rest++[t']):=by
 exact bZ.put (old:=[]) B (λz o n e=>(qc n).trans e) q9 (by rw[qc<|A4 B.nkf];exact j) J U g sA ea eb ok l (by rw[CA,Aw];exact(Bm nd DP).mpr λz=>by rw[p,Dj])
theorem oP.link(F:oP L0 L ka fa ks fo){nm:Str}(j:eI nm)(b:Bool)(J:qe L ka (.lst<|x5<|ks++[.lf b nm,.lf (!b) nm]) pb=none)
 (U:qe (qe L ka<|.lst<|x5<|ks++[.lf b nm,.lf (!b) nm]) pb (.lst<|zy [ks.length,ks.length+1]) pa=none) {fs:List Y} (g:fs=zp fo++[.ref pa]):
 oP L0 (qe (qe (qe (qe L ka<|.lst<|x5<|ks++[.lf b nm,.lf (!b) nm]) pb<|.lst<|zy [ks.length,ks.length+1]) pa<|.lst [zr<|.link ks.length<|ks.length+1,.ref pb]) fa<|.lst fs) ka fa (ks++[.lf b nm,.lf (!b) nm]) (fo++[⟨pa,pb,.link ks.length<|ks.length+1,[ks.length,ks.length+1]⟩]):=by
 have I:pb≠pa:=aS q9 U;have M:=sh F.b.ok (t:=!b) j;rw[Eo] at M;refine⟨(bZ.plus F.b F.hf ((By J).trans<|By U) q9 (by rw[qc I];exact q9) ((By J).none U) J (A4 I) M.ok M.sr M.tm M.nd).setF _,?_⟩;rw[q9,g];unfold zp;rw[AD];rfl
theorem bZ.dats(h:bZ L0 L ka fa ks fo)(o:ks.length<=120):Paired (jz L 124) (zp fo) (fo.map fi):=by
 have J:∀l:VH,(∀t∈l,t∈fo)->Paired (jz L 124) (zp l) (l.map fi):=λl=>by
  induction l with
  |nil=>intro _;exact .nil
  |cons t r U=>
   intro k;have mt:=k t<|Ao ..;obtain⟨g,j⟩:=h.ht t mt;have:=h.rd mt;exact .cons (rF (n:=122) g j (by lia))<|U λt I=>k t<|Ae _ I
 exact J fo λt I=>I
theorem yE(fo:VH):Da.eqs (fo.map fi) []=decide (fo=[]):=by cases fo<;>rfl
def TW(L0:qp)(ka fa:Addr)(s:Int)(room:Nat)(τ:jq)(L:qp):Prop:=∃c0 c5 c6 c7 c8 c9 br ks fo,τ=[c0,some<|.int s,some<|.int (room:Int),some<|.ref ka,some<|.ref fa,c5,c6,c7,c8,c9,br]/\oP L0 L ka fa ks fo/\ks.length+fo.length<=room
theorem TW.of{s:Int}{room:Nat}{c9 br:Option Y}(F:oP L0 L ka fa ks fo)(h:ks.length+fo.length<=room):TW L0 ka fa s room [c0,some<|.int s,some<|.int (room:Int),some<|.ref ka,some<|.ref fa,c5,c6,c7,c8,c9,br] L:=⟨_,_,_,_,_,_,_,ks,fo,rfl,F,h⟩
noncomputable def yj(g:zd)(I:zd)(J:zd)(U:zd)(l:zd):RD "_law_tree" fI 171 ["_law_cells","_law_seed","_law_room","_law_knots","_law_forest","_law_k","_law_cell","_law_one","_law_two","_law_deed","_law_at"] (λV=>IG V g/\IH V I/\IJ V J/\II V U/\IK V l):=⟨_,λV B c _ _ _ _ _ _ _ o hN p=>(qa (S_ 3 hN<|zu vd)<|qa (S_ 4 hN<|zu vd)<|qa (xg u1 rfl (fg rfl B.bf<|qv 0) (aA (n:=2) rfl<|zf (G_ 5 hN)<|zf (G_ 6 hN) vv)<|qa (xQ (i:=7) (j:=8) rfl hN rfl rfl (by decide) rfl rfl (vq (C_ c.1 o<|cA (qv 6) (qv 5) qh)<|C_ c.1 o<|cA (qv 6) (qv 5) qh) rfl)<|qa (zx (jy Fl (qk zw (qk zw (L_ B.ba<|qv 3)<|L_ B.ba<|qv 4) qh) (qv 2)<|wo _) (qg tZ) ze)<|qa (S_ 9 hN<|qk jj (qv 7) qh)<|qa (S_ 7 hN<|qk vm (qv 7) qh)<|qg<|zx (bV<|H_ (jy Cm (qv 9) qh<|wo _)<|H9<|E_ p (qv 4)<|zu vd) (qa (za<|qz (qv 3)<|jt<|zk<|vq je<|C_ c.2.1 o<|vq (qv 1)<|qk jj (qv 8) qh)<|qa (za<|qz (qv 3)<|jt<|zk<|vq je<|C_ c.2.1 o<|vq (qv 1)<|qk jj (qv 8) qh)<|xc (zx (E_ p (qk jj (qv 7) qh) qh) (qg<|za<|qz (qv 3)<|jt<|cN (qv 3)<|jt<|qk dc (L_ B.ba<|qv 3) qh) ze)<|qa (S_ 10 hN<|qk dc (L_ B.ba<|qv 3) qh)<|qg<|za<|qz (qv 4)<|jt<|zu<|vq (zk<|cA je (qv 10)<|qk zw (qv 10) qh)<|zu<|vq (qv 10)<|qk zw (qv 10) qh)<|qg<|zx (jy Cm (qv 9) qh<|wo _) (qg<|za<|C_ c.2.2.1 o<|jx (qv 3)<|cA (I_ (qv 4)<|qk jj (qv 8)<|L_ B.ba<|qv 4) (qv 7)<|qk vm (qv 8) qh)<|qg<|zx (bV<|wf (jy Cm (qv 9) qh<|wo _)<|wg<|jy Fl (L_ B.ba<|qv 4) qh<|wo _) (qg<|za<|C_ c.2.2.2.1 o<|jx (qv 3)<|cA (qv 4) (qv 7)<|qv 8)<|qg<|za<|C_ c.2.2.2.2 o<|jx (qv 3)<|cA (qv 4) (qv 7)<|qv 8)<|xc (zx (E_ p (qv 4)<|zu vd) (qa (za<|qz (qv 3)<|jt<|zk<|vq je<|C_ c.2.1 o<|vq (qv 1) qh)<|qa (za<|qz (qv 3)<|jt<|zk<|vq je<|C_ c.2.1 o<|vq (qv 1) qh)<|qg<|za<|qz (qv 4)<|jt<|zu<|vq (zk<|cA je qh qh)<|zu<|vq qh qh) ze)<|qa (iX u1 (jy Fl (L_ B.ba<|qv 4) qh<|wo _)<|qg<|za<|C_ c.2.2.2.1 o<|jx (qv 3)<|cA (qv 4) (qk zw (qk vm (qv 1) qh)<|L_ B.ba<|qv 4)<|qk vm (qv 1) qh)<|qg<|qx<|zk<|vq (qv 3)<|I_ (J_ 4) qh)⟩
noncomputable def RX(g:zd)(I:zd)(J:zd)(U:zd)(j:zd):k8:=(yj g I J U j).1
def m8:zd:=λys L Q=>∃I,∃J:Vp,∃s:Int,∃room:Nat,ys=[.ref I,.int s,.int (room:Int)]/\L I=some (.lst<|J.map Y.int)/\J.length<=1000/\room<=96/\
 ∀ka ks R E,L ka=none->dk ks->SR ks R E->(z8 R).Perm (List.range ks.length)->ks.length<=max room 2->Q (.tup [.ref ka,zr R]) (qe L ka<|.lst<|x5 ks)
theorem RY:∀ys L Q,m8 ys L Q->x4 (RX rW mY oA qU qS) 11 ys L Q:=by
 rintro ys L Q ⟨cy,ns,s,room,rfl,ab,bb,aL,q⟩;have big:=a_;have U:∀fo:VH,(zp fo).length=fo.length:=λfo=>Ag ..;have l:∀I:VF,(x5 I).length=I.length:=λI=>Ag ..;intro J a7 g ac;have nkf:J≠g:=aS q9 ac;have au:L g=none:=(By a7).none ac;have F0:oP L (qe (qe L J<|.lst []) g<|.lst []) J g [] []:=by
  refine⟨⟨by rw[qc nkf];exact q9,λt ht=>by simp at ht,λt ht=>by simp at ht,by simp,by simp,by simp[nkf],λp k e=>by simp at e,(By a7).trans<|By ac,λx hx=>?_⟩,q9⟩;rcases Aq.mp hx with rfl|hx
  ·exact a7
  ·rw[Ak.mp hx];exact au
 generalize qe (qe L J<|.lst []) g (.lst [])=L1 at F0;refine x9 (F0.b.sub _ _ ab) λkeep kp=>ku ⟨λ_ C L'=>TW L J g s room C L',?_,?_,?_,?_⟩
 ·exact TW.of F0<|A8 _
 ·rintro i C L' ⟨c0,c5,c6,c7,c8,c9,br,I,fo,rfl,F,hb⟩;exact kp L' (by rw[F.b.sub _ _ ab,F0.b.sub _ _ ab])
 ·rintro i y C L' ey ⟨c0,c5,c6,c7,c8,c9,br,I,fo,rfl,F,hb⟩;obtain⟨z,ez,rfl⟩:=cW ey;obtain⟨cell,ec,rfl⟩:∃cell:Int,ns[i]?=some cell/\z=Y.int cell:=by rw[Am] at ez;obtain⟨z,e1,e2⟩:=Ar.mp ez;exact⟨z,e1,e2.symm⟩
  have hi:=(AL.mp ec).1;refine⟨cell,((i:Nat):Int),48271,rfl,by exact AN _,by omega,by decide,by decide,λone h1 bc=>⟨cell,((i:Nat):Int),69621,rfl,by exact AN _,by omega,by decide,by decide,λtwo h2 bd=>?_⟩⟩;refine qb F.b.hk<|qb F.hf ?_;refine jc (λc=>?_) λc=>?_
  ·exact⟨_,EF _,TW.of F hb⟩
  have c:¬((((x5 I).length:Nat):Int)+(((zp fo).length:Nat):Int)+12 > (room:Int)):=c;rw[l,U] at c;refine⟨(by decide:(0:Int)<9),⟨by decide,by decide⟩,?_⟩;refine jc (λc3=>?_) λc3=>?_
  case' refine_1=>
   obtain⟨L2,av⟩:∃L2,L2=L':=⟨_,rfl⟩;rw[<-av];have T:oP L L2 J g I fo:=by rw[av];exact F
  case' refine_2=>
   intro p hp;refine cJ (by decide) (By hp _ _ F.hf) q9 ((F.b.mono<|By hp).dats (by lia)) (.nil:Paired (jz _ 0) _ []) ?_;show kn (Da.eqs (fo.map fi) []) _ _;rw[yE];have T:oP L (qe L' p<|.lst []) J g I fo:=F.mono<|By hp;generalize qe L' p (.lst [])=L2 at T;refine jc (λc0=>?_) λc0=>?_
  case' refine_2.refine_2=>
   have ba:0<fo.length:=by cases fo with|nil=>exact absurd rfl c0|cons _ _=>simp
   have F:=T;refine jc (λc6=>?_) λc6=>?_
   ·obtain⟨j,t,ej,lj,et⟩:=mF ba two;refine qb F.hf ⟨(by show(0:Int)<((zp fo).length:Int);rw[U];lia),qb F.hf (qj (v:=.ref t.a) (by show bz (zp fo) (two % ((zp fo).length:Int))=_;rw[U,ej];exact jl (by unfold zp;rw[Am,et];rfl)) ?_)⟩;obtain⟨pre,post,ep⟩:=CD<|AC et;rw[ep] at F hb;refine⟨⟨by decide,by decide⟩,L,J,g,I,pre,post,t,one / 9,two / 64,rfl,F,by lia,λL3 a0 a1 F3 h1 h2 _=>?_⟩;refine⟨_,EF _,?_⟩;exact TW.of F3 (by rw[ep] at c;lia)
   refine jc (λc8=>?_) λc8=>?_
   ·refine qb F.hf ?_;refine jc (λc1=>?_) λc1=>?_
    ·have c1:(((zp fo).length:Nat):Int) > 1:=c1;rw[U] at c1;refine⟨L,J,g,I,fo,one / 9,two,rfl,F,by lia,by lia,by lia,λL3 a0 a1 F3 h1 h2 _=>?_⟩;refine⟨_,EF _,?_⟩;exact TW.of F3 (by lia)
    ·refine⟨L,J,g,I,fo,one / 9,two,rfl,F,by assumption,by lia,by lia,λL3 a0 a1 F3 h1 h2 h3=>?_⟩;refine⟨_,EF _,?_⟩;exact TW.of F3 (by lia)
   ·refine⟨L,J,g,I,fo,one / 9,two,rfl,F,by lia,by lia,by lia,λL3 a0 a1 F3 h1 h2 h3=>?_⟩;refine⟨_,EF _,?_⟩;exact TW.of F3 (by lia)
  all_goals
   obtain⟨nm,a2⟩:∃nm,nm=m_ (aa s<|two % 3):=⟨_,rfl⟩;have al:eI nm:=by rw[a2];exact uJ _ _
   refine qb T.b.hk ⟨(by decide:(0:Int)<3),s,two % 3,rfl,qo T.b.hk ⟨big _ (by rw[l];omega),?_⟩⟩;refine qb q9 ⟨(by decide:(0:Int)<3),s,two % 3,rfl,qo q9 ⟨big _ (by rw[Aa,l];simp;omega),?_⟩⟩;rw[<-a2,zh];have e1:(x5 I++[.tup [.str "plain",.str nm]])++[.tup [.str "turned",.str nm]]=x5 (I++[.lf false nm,.lf true nm]):=by unfold x5;rw[AD,Ay];rfl
   rw[e1];refine⟨λC L3=>∃(b:Bool) (d0 d10:Option Y),C=[d0,some<|.int s,some<|.int (room:Int),some<|.ref J,some<|.ref g,some<|.int ((i:Nat):Int),some<|.int cell,some<|.int<|one / 9,some<|.int two,some<|.int<|one % 9,d10]/\L3=qe L2 J (.lst<|x5<|I++[.lf b nm,.lf (!b) nm]),?_,?_⟩
   ·refine⟨(by decide:(0:Int)<2),?_⟩;show kn (decide<|one / 9 % 2=1) _ _;refine jc (λc2=>?_) λc2=>?_
    ·have l2:(x5<|I++[Kn.lf false nm,.lf true nm]).length=I.length+2:=by rw[l,Aa];rfl
     have t2:((((x5<|I++[Kn.lf false nm,.lf true nm]).length:Nat):Int)-2).toNat=I.length:=by rw[l2];omega
     refine qb q9<|qb q9<|qb q9<|qo q9 ⟨?_,?_,qj (v:=rM<|.lf false nm) ?_ ?_⟩
     ·show(0:Int)<=(((x5<|I++[Kn.lf false nm,.lf true nm]).length:Nat):Int)-2;rw[l2];omega
     ·show(((x5<|I++[Kn.lf false nm,.lf true nm]).length:Nat):Int)-2<_;omega
     ·show(x5<|I++[Kn.lf false nm,.lf true nm])[((((x5<|I++[Kn.lf false nm,.lf true nm]).length:Nat):Int)-2).toNat]?=_;rw[t2];unfold x5;rw[Am,eO];rfl
     ·rw[zh];refine qo q9 ⟨big _ ?_,?_⟩
      ·refine AO (C9 ..) ?_;show(x5<|I++[Kn.lf false nm,.lf true nm]).length<=20000;rw[l2];omega
      ·refine⟨true,_,_,rfl,?_⟩;rw[zh];have e3:(x5<|I++[Kn.lf false nm,.lf true nm]).eraseIdx ((((x5<|I++[Kn.lf false nm,.lf true nm]).length:Nat):Int)-2).toNat++[rM<|.lf false nm]=x5 (I++[.lf true nm,.lf false nm]):=by rw[t2];unfold x5;rw[AD,De (by simp),Ag,DC,AD,Ay];rfl
       rw[e3];rfl
    ·exact⟨false,_,_,rfl,rfl⟩
   ·rintro be L3 ⟨b,d0,d10,rfl,rfl⟩;have l2:(x5<|I++[Kn.lf b nm,.lf (!b) nm]).length=I.length+2:=by rw[l,Aa];rfl
    have nn:(((x5<|I++[Kn.lf b nm,.lf (!b) nm]).length:Nat):Int)-2=((I.length:Nat):Int):=by rw[l2];omega
    have a3:qe L2 J (.lst<|x5<|I++[.lf b nm,.lf (!b) nm]) g=some (.lst<|zp fo):=by rw[qc<|A4 nkf];exact T.hf
    have en:∀z:Int,z=((I.length:Nat):Int)->zy [I.length,I.length+1]=[.int z,.int<|z+1]:=λz e=>by rw[e];rfl
    have er:∀z:Int,z=((I.length:Nat):Int)->zr (.link I.length<|I.length+1)=.tup [.str "link",.int z,.int<|z+1]:=λz e=>by rw[e];rfl
    have en:=en _ nn;have er:=er _ nn;refine qb q9<|qb a3 λpb a4 pa a5=>?_;have H:=T.link al b (pb:=pb) (pa:=pa) a4 (by rw[en];exact a5) rfl;refine qo (((By a4).trans<|By a5) _ _ a3) ⟨big _ (by rw[U];omega),?_⟩;rw[en,er] at H;refine⟨_,EF _,?_⟩;exact TW.of H (by rw[Aa,Aa];simp;omega)
 ·rintro C L' ⟨c0,c5,c6,c7,c8,c9,br,I,fo,rfl,F,hb⟩;refine⟨λC L3=>∃c0 c5 c6 c7 c8 c9 br I fo,C=[c0,some<|.int s,some<|.int (room:Int),some<|.ref J,some<|.ref g,c5,c6,c7,c8,c9,br]/\oP L L3 J g I fo/\1<=fo.length/\I.length+fo.length<=max room 3,?_,?_⟩
  ·intro p hp;refine cJ (by decide) (By hp _ _ F.hf) q9 ((F.b.mono<|By hp).dats (by lia)) (.nil:Paired (jz _ 0) _ []) ?_;show kn (Da.eqs (fo.map fi) []) _ _;rw[yE];have T:oP L (qe L' p<|.lst []) J g I fo:=F.mono<|By hp;generalize qe L' p (.lst [])=L2 at T;refine jc (λc0=>?_) λc0=>?_
   ·subst c0;have k0:I=[]:=by cases I with|nil=>rfl|cons k r=>exact absurd ((F.b.tm 0).mpr (by simp)) (by simp)
    subst k0;obtain⟨nm,a2⟩:∃nm,nm=m_ (aa s 0):=⟨_,rfl⟩;have al:eI nm:=by rw[a2];exact uJ _ _
    refine qb T.b.hk ⟨s,0,rfl,qo T.b.hk ⟨big _ (by decide),?_⟩⟩;refine qb q9 ⟨s,0,rfl,qo q9 ⟨big _ (by show 1<=20000;decide),?_⟩⟩;rw[<-a2,zh];have a3:∀o,qe L2 J o g=some (.lst<|zp []):=λo=>by rw[qc<|A4 nkf];exact T.hf
    refine qb (a3 _) λpb a4 pa a5=>?_;have H:=T.link al true (pb:=pb) (pa:=pa) a4 a5 rfl;refine qo (((By a4).trans<|By a5) _ _<|a3 _) ⟨big _ (by show 0<=20000;decide),?_⟩;exact⟨_,_,_,_,_,_,_,_,_,rfl,H,by simp,by simp;lia⟩
   ·exact⟨_,_,_,_,_,_,_,I,fo,rfl,T,(by cases fo with|nil=>exact absurd rfl c0|cons _ _=>simp),by lia⟩
  ·rintro C L' ⟨c0,c5,c6,c7,c8,c9,br,I,fo,rfl,F,h1,hb⟩;refine⟨λm C L3=>∃c0 c5 c6 c7 c8 c9 br I fo,C=[c0,some<|.int s,some<|.int (room:Int),some<|.ref J,some<|.ref g,c5,c6,c7,c8,c9,br]/\oP L L3 J g I fo/\1<=fo.length/\fo.length=m/\I.length+fo.length<=max room 3,⟨_,_,_,_,_,_,_,_,_,_,rfl,F,h1,rfl,hb⟩,?_⟩;rintro m C L' ⟨c0,c5,c6,c7,c8,c9,br,I,fo,rfl,F,h1,hm,hb⟩;refine qb F.hf ?_;refine jc (λc1=>?_) λc1=>?_
   ·have c1:(((zp fo).length:Nat):Int) > 1:=c1;rw[U] at c1;refine⟨λC L3=>∃c0 c5 c6 c7 c8 c9 br I fo,C=[c0,some<|.int s,some<|.int (room:Int),some<|.ref J,some<|.ref g,c5,c6,c7,c8,c9,br]/\oP L L3 J g I fo/\1<=fo.length/\fo.length+1=m/\I.length+fo.length<=max room 3,?_,?_⟩
    ·rintro C L3 ⟨d0,d5,d6,d7,d8,d9,d10,a0,a1,rfl,F3,g1,g2,g3⟩;exact⟨m-1,by lia,_,_,_,_,_,_,_,_,_,rfl,F3,g1,by lia,g3⟩
    ·refine⟨⟨by decide,by decide⟩,qb F.hf ⟨⟨by decide,by decide⟩,L,J,g,I,fo,_,_,rfl,F,by lia,by lia,by lia,λL3 a0 a1 F3 g1 g2 _=>?_⟩⟩;exact⟨_,EF _,_,_,_,_,_,_,_,a0,a1,rfl,F3,by lia,by lia,by lia⟩
   ·have c1:¬((((zp fo).length:Nat):Int) > 1):=c1;rw[U] at c1;obtain⟨t,rfl⟩:∃t,fo=[t]:=by
     match fo,h1,c1 with
     |[t],_,_=>exact⟨t,rfl⟩
     |t::u::r,_,c=>exact absurd (show(((t::u::r).length:Nat):Int) > 1 by simp;lia) c
    have ta:=(F.b.ht t<|Ao ..).1;refine qb F.hf<|qb ta ?_;have tp:(z8 t.R).Perm (List.range I.length):=by have nd:=F.b.nd;have tm:=F.b.tm;simp at nd tm;exact(Bm nd CV).mpr λx=>by rw[tm,AX]
    exact nv (qd.put F.b.sub F.b.hk) (q J I t.R t.E a7 F.b.ok (F.b.sr t<|Ao ..) tp (by simp at hb;lia))
end L3
namespace TS
open PySem PyProof.Rows PySem.W PySem.Calls
section
variable {w:Vx}
abbrev keyBody(kx px:Str)(p1 p2 p3 p4 p5:Pos)(n:Nat):Expr:=.Tuple [.Subscript (.Name kx p1) (.Name px p2) p3,.Name px p4] n p5
structure nF(h:Vy)(f:Addr)(kx px:Str)(scope:Scope)(kvs:Vj):Prop where
 ex:∃(name eA:Str) (params:Arguments) (p1 p2 p3 p4 p5:Pos) (n:Nat) (pm ctv:Vu) (c' cell k:Addr),h.get? f=some (kla_obj name eA params (keyBody kx px p1 p2 p3 p4 p5 n) scope [(kx,cell)] pm c' ctv)/\h.CodeRec (.ref c') eA/\
  h.IsCell cell (some<|.ref k)/\h.IsList k kvs.toArray/\∀v:Vu,bindArgs (kla_fn name eA params (keyBody kx px p1 p2 p3 p4 p5 n) scope [(kx,cell)] pm (.ref c') ctv) ⟨[v],[]⟩=pure [(px,v)]
 lim:h.NoLimit
structure KeySc(scope:Scope)(kx px:Str):Prop where
 kind:scope.kind=.function
 co:scope.isCoroutine=false
 gen:scope.isGenerator=false
 nc:∀x∈scope.names,x.2≠.cell
 lp:scope.names.lookup px=some .local
 lk:scope.names.lookup kx=some .free
 d1:(kx==("__debug__" : Str))=false
 d2:(px==("__debug__" : Str))=false
 d3:(kx==("__classdict__" : Str))=false
theorem nF.keeps{kvs:Vj}(k:nF h f kx px scope kvs)(J:∀b o,h.get? b=some o->h'.get? b=some o):nF h' f kx px scope kvs:=by
 obtain⟨name,U,I,p,r,t,C,T,n,pm,l,c',cell,kk,g1,g2,g3,g4,g5⟩:=k.ex;refine⟨⟨name,U,I,p,r,t,C,T,n,pm,l,c',cell,kk,J _ _ g1,?_,?_,?_,g5⟩,k.lim.keeps J⟩
 ·obtain⟨c,oc,vs,tq,g,j,e3⟩:=g2;exact⟨c,oc,vs,tq,g,J _ _ j,e3⟩
 ·obtain⟨o,g,j⟩:=g3;exact⟨o,J _ _ g,j⟩
 ·obtain⟨o,g,j⟩:=g4;exact⟨o,J _ _ g,j⟩
theorem RZ{kvs:Vj}{u t:Tok}{r:Int}(K:nF s.heap f kx px scope kvs)(S:KeySc scope kx px)(U:A.depth<recursionLimit)(hi:kvs[i]?=some (.int r t))(a0:i<2 ^ 40)
 (h:∀h' tk a,(∀b o,s.heap.get? b=some o->h'.get? b=some o)->h'.get? a=some { cls:=.type "tuple",data:=.seq #[.int r t,.int (i:Int) u] }->Q (.ref a) { s with heap:=h',toks:=tk }):
 wpAny (model prog w) A (call (.ref f) [.int (i:Int) u]) Q E s:=by
 obtain⟨name,I,l,p1,p2,p3,p4,p5,n,pm,a1,p,cell,kk,g1,g2,g3,g4,g5⟩:=K.ex;refine wpAny_call<|kla_callFunE U g1 rfl S.co S.gen rfl g2 ?_;rw[g5];refine An (wpAny_newFunctionEnv S.nc (λx hx=>by rw[Ak.mp hx];exact S.lp) (λJ g j=>⟨K.lim.fresh _ j,?_⟩) S.kind);have C:∀b o,s.heap.get? b=some o->J.get? b=some o:=λb o e=>j.extBut b o (A9<|s9 e)<|sy _ e;show codeAny _ _ (.expr _<|envX I scope s.heap.objs.size f (.ref p) [(kx,cell)]) _ _;refine kla_codeExpr ?_;have look:(([(px,Value.int (i:Int) u)]:List<|Str×Vu).reverse.lookup px)=some (.int (i:Int) u):=by simp
 have kf:(envX I scope s.heap.objs.size f (.ref p) [(kx,cell)]).kindOf kx=some .free:=S.lk;have kp:(envX I scope s.heap.objs.size f (.ref p) [(kx,cell)]).kindOf px=some .local:=S.lp;have cl:(envX I scope s.heap.objs.size f (.ref p) [(kx,cell)]).cells.lookup kx=some cell:=by show([(kx,cell)]:List<|Str×Addr).lookup kx=_;simp
 have ic:J.IsCell cell (some<|.ref kk):=by obtain⟨o,T,e2⟩:=g3;exact⟨o,C _ _ T,e2⟩
 have il:J.IsList kk kvs.toArray:=by obtain⟨o,T,e2⟩:=g4;exact⟨o,C _ _ T,e2⟩
 refine wpAny_Tuple_spliced<|xT<|Subscript_<|wpAny_Name (wpAny_loadName_free S.kind kf cl ic (wpAny_Name (wpAny_loadName_local S.kind kp g look ?_) S.d2) S.d3) S.d1;refine item_listL il (by exact AN _) (by omega) (by rw[show((i:Nat):Int).toNat=i from rfl];exact hi) ?_;refine xT<|wpAny_Name (wpAny_loadName_local S.kind kp g look ?_) S.d2;refine yp ⟨by show 2<=sizeLine;decide,?_⟩;exact h _ _ _ (λb o e=>sy _<|C b o e)<|vb _ rfl
end
theorem R4(f:α->β):∀{l m:List β},l.Perm m->∀{T:List α},T.map f=m->∃U:List α,U.Perm T/\U.map f=l:=by
 intro l m p
 induction p with
 |nil=>intro T e;exact⟨T,Ci _,e⟩
 |cons x _ o=>
  intro T e;cases T with
  |nil=>cases e
  |cons t r=>
   rw[AG] at e;obtain⟨I,J⟩:=C4 e;obtain⟨U,C,e'⟩:=o J;exact⟨t::U,C.cons t,by rw[AG,e',I]⟩
 |swap x y l=>
  intro T e
  match T,e with
  |t::u::r,e=>
   rw[AG,AG] at e;obtain⟨I,J⟩:=C4 e;obtain⟨e3,e4⟩:=C4 J;exact⟨u::t::r,List.Perm.swap t u r,by rw[AG,AG,I,e3,e4]⟩
 |trans _ _ g j=>
  intro T e;obtain⟨T1,p1,I⟩:=j e;obtain⟨T2,p2,J⟩:=g I;exact⟨T2,p2.trans p1,J⟩
def itV(x:Nat×Tok):Vu:=.int (x.1:Int) x.2
def Gf(h:Vy)(kS:Addr)(rk:Nat->Int)(k:Vu)(x:Nat×Tok):Prop:=∃a t u,k=.ref a/\a≠kS/\h.get? a=some { cls:=.type "tuple",data:=.seq #[.int (rk x.1) t,.int (x.1:Int) u] }
def kI(h:Vy)(kS:Addr)(rk:Nat->Int):Vj->List (Nat×Tok)->Prop
 |[],[]=>True
 |k::ks,x::xs=>Gf h kS rk k x/\kI h kS rk ks xs
 |_,_=>False
theorem kI.len{h:Vy}{kS:Addr}{rk:Nat->Int}:∀{ks:Vj} {xs:List<|Nat×Tok},kI h kS rk ks xs->ks.length=xs.length
 |[],[],_=>rfl
 |_::_,_::_,ψ=>by obtain⟨_,b⟩:=ψ;rw[AK,AK,kI.len b]
 |[],_::_,z=>z.elim
 |_::_,[],z=>z.elim
theorem kI.mem{h:Vy}{kS:Addr}{rk:Nat->Int}:∀{ks:Vj} {xs:List<|Nat×Tok},kI h kS rk ks xs->∀t∈ks.zip xs,Gf h kS rk t.1 t.2
 |[],[],_,t,I=>by cases I
 |_::_,_::_,ψ,t,I=>by
  obtain⟨a,b⟩:=ψ
  rw[List.zip_cons_cons] at I;rcases Aq.mp I with rfl|I
  ·exact a
  ·exact kI.mem b t I
 |[],_::_,z,_,_=>z.elim
 |_::_,[],z,_,_=>z.elim
section
variable {w:Vx}
theorem Je{g:Vy}{f:Addr}{kx px:Str}{scope:Scope}{kvs:Vj}{kS:Addr}{rk:Nat->Int}{body:Vu->PUnit->Sem (ForInStep PUnit)}(K:nF g f kx px scope kvs)(S:KeySc scope kx px)(I:A.depth<recursionLimit)(hn:g.get? kS=none)
 (hb:∀(x:Vu) (s:Vv) (Q':ForInStep PUnit->Vv->Prop),wpAny (model prog w) A (call (.ref f) [x]) (λk s'=>wpAny (model prog w) A (Builtin.List.listUpdate (.ref kS) (·.push k)) (λ_ T=>Q' (.yield ⟨⟩) T) E s') (λ_ _=>False) s->wpAny (model prog w) A (body x ⟨⟩) Q' E s):
 ∀(ps:List<|Nat×Tok) (ks:Vj) (e:Nat) (s:Vv) (Q:PUnit->Vv->Prop),(∀b o,g.get? b=some o->s.heap.get? b=some o)->s.heap.get? kS=some (seqObj "list" ks.toArray e)->ks.length+ps.length<=100000->
  (∀x∈ps,x.1<2 ^ 40/\∃t,kvs[x.1]?=some (.int (rk x.1) t))->
  (∀h' tk j e',(∀b o,b≠kS->s.heap.get? b=some o->h'.get? b=some o)->h'.get? kS=some (seqObj "list" (ks++j).toArray e')->kI h' kS rk j ps->Q ⟨⟩ { s with heap:=h',toks:=tk })->
  wpAny (model prog w) A (forIn (ps.map itV) PUnit.unit body) Q E s
 |[],ks,e,s,Q,hg,hk,hz,hp,q=>by rw[Df,List.forIn_nil];exact An (q s.heap s.toks [] e (λ_ _ _ h=>h) (by rw[Aw];exact hk) trivial)
 |x::r,ks,e,s,Q,hg,hk,hz,hp,q=>by
  rw[AG,Er];rw[AK] at hz;obtain⟨a0,t,ht⟩:=hp x<|Ao ..;have big:(100000:Nat)+1<=sizeLine:=by rw[sizeLine_eq];exact Dw _ _
  refine Ab<|hb (itV x) s _<|RZ (K.keeps hg) S I ht a0 λl p a k1 ha=>?_;have J:l.get? kS=some (seqObj "list" ks.toArray e):=k1 _ _ hk;have s1:=vc l kS (Obj.mapSeq (·.push (.ref a)));have ea:ks.toArray.push (.ref a)=List.toArray (ks++[.ref a]):=by simp
  obtain⟨c2,a1⟩:∃c2,(l.update kS (Obj.mapSeq (·.push (.ref a)))).get? kS=some (seqObj "list" (List.toArray<|ks++[.ref a]) c2):=⟨_,by rw[<-ea];exact get?_update_seq J (·.push (.ref a))⟩;have C:a≠kS:=λz=>by
   rw[z,J] at ha;have:=BO (λo:Option Obj=>o.map (·.cls)) ha;have z2:some (Value.type "list")=some (Value.type "tuple"):=this;injection z2 with z3
   injection z3 with z4
   exact absurd z4 (by decide)
  refine listUpdate_at (s:={ s with heap:=l,toks:=p }) J rfl ?_ (by rw[Au];lia) (AO (Ei<|Bu ..) (by rw[Au];lia));refine Je K S I hn hb r (ks++[.ref a]) c2 { s with heap:=l.update kS (Obj.mapSeq (·.push (.ref a))),toks:=p } Q (λb o e=>?_) a1 (by rw[Aa,BL];lia) (λy hy=>hp y<|Ae _ hy) λh' tk j e' kk a2 vs=>?_
  ·have nb:b≠kS:=λz=>by rw[z,hn] at e;cases e
   exact(s1.2 b nb).trans (k1 b o<|hg b o e)
  ·have U:∀b o,b≠kS->l.get? b=some o->h'.get? b=some o:=λb o nb e=>kk b o nb<|(s1.2 b nb).trans e;refine q h' tk (.ref a::j) e' (λb o nb e=>U b o nb<|k1 b o e) (by rw[a2,Ay];rfl) ⟨⟨a,t,x.2,rfl,C,U a _ C ha⟩,vs⟩
end
section
variable {w:Vx}
theorem R5{g:Vy}{kvs:Vj}{kS a:Addr}{rk:Nat->Int}{ps:List<|Nat×Tok}{e1 e0:Nat}{P:PySem.Fin->Vv->Prop}(K:nF g f kx px scope kvs)(S:KeySc scope kx px)(I:A.depth<recursionLimit)(hn:g.get? kS=none)
 (hg:∀b o,g.get? b=some o->s.heap.get? b=some o) (hk:s.heap.get? kS=some (seqObj "list" #[] e0)) (ha:s.heap.get? a=some (seqObj "list" #[] e1)) (l:kS≠a) (hz:ps.length<=127)
 (hp:∀x∈ps,x.1<2 ^ 40/\∃t,kvs[x.1]?=some (.int (rk x.1) t)) (hB:∀x∈ps,((x.1:Nat):Int)<B) (nd:(ps.map (·.1)).Nodup)
 (h:∀h' tk (qs:List<|Nat×Tok) c,(∀b o,b≠kS->b≠a->s.heap.get? b=some o->h'.get? b=some o)->h'.get? a=some (seqObj "list" (qs.map itV).toArray c)->qs.Perm ps->(qs.Pairwise λx y=>rk x.1*B+(x.1:Int)<=rk y.1*B+(y.1:Int))->P (.done<|.ret .none) { s with heap:=h',toks:=tk }):
 wpAny (model prog w) A (ksk_rest a (.ref f) false (ps.map itV).toArray e1<|.ref kS) P E s:=by
 have big:(100000:Nat)+1<=sizeLine:=by rw[sizeLine_eq];exact Dw _ _
 unfold ksk_rest;refine Ab<|BZ ?_;rw[List.forIn_toArray];refine Ab (Je (rk:=rk) K S I hn (λx s' Q' hx=>?_) ps [] e0 s _ hg hk (by simp;lia) hp λh' tk ks e' keep J kv=>?_)
 ·refine Ab (wpAny_attempt<|A2 hx (λk a4 hk=>?_) λ_ _ hF=>hF.elim)
  try dsimp only
  exact Ab<|A2 hk (λ_ s3 q=>An q) λ_ _ e=>e
 ·try dsimp only
  rw[Cb] at J;refine Ab<|listItems_at (s:={ s with heap:=h',toks:=tk }) J rfl ?_;have a0:h'.get? a=some (seqObj "list" #[] e1):=keep _ _ (A4 l) ha;have len:ks.length=ps.length:=kv.len;obtain⟨T,C⟩:∃T,T=ks.zip ps:=⟨_,rfl⟩;have kT:∀t∈T,Gf h' kS rk t.1 t.2:=λt p=>kv.mem t<|C▸p;have e2:T.map (·.2)=ps:=by rw[C];exact List.map_snd_zip (by lia)
  have ez:ks.zip (ps.map itV)=T.map λt=>(t.1,itV t.2):=by rw[C,List.zip_map_right];rfl
  have mp:∀t∈T,t.2∈ps:=λt p=>by rw[<-e2];exact C1 p
  have nT:∀t∈T,num h' B (t.1,itV t.2)=rk t.2.1*B+(t.2.1:Int):=λt p=>by obtain⟨b,tt,u,r,x2,x3⟩:=kT t p;exact num_of r x3 rfl
  have a5:∀x∈ps,(0:Int)<=((x.1:Nat):Int):=λ_ _=>by exact AN _
  refine Qx (s:={ s with heap:=h',toks:=tk }) (vs:=ps.map itV) (ks:=ks) (B:=B) J a0 l (by rw[Ag];exact len) (by rw[Ag];exact hz) (λv hv=>?_) λh2 a1 xs c U hc pm pw=>?_
  ·obtain⟨j,hj⟩:=Ds hv;have a2:j<ps.length:=by rw[<-len];exact(AL.mp hj).1
   have hm:(v,ps[j])∈T:=by rw[C];refine List.mem_iff_getElem?.mpr ⟨j,?_⟩;rw[List.getElem?_zip_eq_some];exact⟨hj,Ai a2⟩
   obtain⟨b,tt,u,r,x2,x3⟩:=kT _ hm;have r:v=.ref b:=r;exact⟨b,_,_,_,_,tt,u,r,x3,rfl,rfl,by exact AN _,hB _<|mp _ hm⟩
  ·rw[ez] at pm;obtain⟨T',pT,a3⟩:=R4 _ pm rfl;subst a3;have mT:∀t,t∈T'->t∈T:=λt=>pT.mem_iff.mp;refine h h2 a1 (T'.map (·.2)) c (λb o n1 n2 e=>?_) ?_ ?_ ?_
   ·rw[U b n1 n2];exact keep b o n1 e
   ·rw[hc,Co,Co];rfl
   ·rw[<-e2];exact pT.map _
   ·refine Cn.mpr<|Cr (λ{x y} hx hy z=>?_)<|Cn.mp pw;rw[nT x<|mT x hx,nT y<|mT y hy] at z;exact z
theorem w_sortedK{kvs:Vj}{rk:Nat->Int}{ps:List<|Nat×Tok}(K:nF s.heap f kx px scope kvs)(S:KeySc scope kx px)(j:A.in1.in1.depth<recursionLimit)
 (hl:s.heap.IsList l (ps.map itV).toArray) (hz:ps.length<=127)
 (hp:∀x∈ps,x.1<2 ^ 40/\∃t,kvs[x.1]?=some (.int (rk x.1) t)) (hB:∀x∈ps,((x.1:Nat):Int)<B) (nd:(ps.map (·.1)).Nodup)
 (h:∀h' tk (qs:List<|Nat×Tok) D c,s.heap.objs.size<=D->(∀b o,s.heap.get? b=some o->h'.get? b=some o)->h'.get? D=some (seqObj "list" (qs.map itV).toArray c)->qs.Perm ps->(qs.Pairwise λx y=>rk x.1*B+(x.1:Int)<=rk y.1*B+(y.1:Int))->Q (.ref D) { s with heap:=h',toks:=tk }):
 wpAny (model prog w) A (call (.builtin "sorted") [.ref l] [(Str.ofString "key",.ref f)]) Q E s:=by
 have big:(100000:Nat)+1<=sizeLine:=by rw[sizeLine_eq];lia
 have a1:(ps.map itV).length<=100000:=by rw[Ag];lia
 refine call_function_entry_kw kind_sorted plain_sorted entry_sorted (ksk_s1 _ _) ?_;unfold Builtin.«sorted»;refine Ab (m:=checkCount "sorted" 1 1 _)<|An ?_;refine Ab<|collect_list hl ?_ (by exact w_);refine Ab<|wpAny_newList ?_ (by lia);obtain⟨g1,C⟩:∃g1,g1=(s.heap.push<|seqObj "list" #[] 0).update s.heap.objs.size (Obj.mapSeq (· ++ (ps.map itV).toArray)):=⟨_,rfl⟩;have T:g1.objs.size=s.heap.objs.size+1:=by rw[C,Heap.size_update,size_push']
 have gk:∀b o,s.heap.get? b=some o->g1.get? b=some o:=λb o q=>by have J:b<s.heap.objs.size:=s9 q;rw[C,Heap.get?_update_ne _ _ _ _<|A9 J];exact sy _ q
 show wpAny _ _ _ _ _ { s with heap:=((s.heap.push<|seqObj "list" #[] 0).update s.heap.objs.size (Obj.mapSeq (· ++ (ps.map itV).toArray))).push (seqObj "list" (ps.map itV).toArray 0) };rw[<-C];have I:(g1.push<|seqObj "list" (ps.map itV).toArray 0).get? g1.objs.size=some (seqObj "list" (ps.map itV).toArray 0):=vb _ rfl;have keep:∀b o,s.heap.get? b=some o->(g1.push<|seqObj "list" (ps.map itV).toArray 0).get? b=some o:=λb o q=>sy _<|gk b o q;refine Ab<|Ba<|wpAny_call_entry_kw slot_list_sort ⟨_,I,rfl⟩ entry_list_sort ?body<|ksk_l1 _ _
 case body=>
  obtain⟨D,eD⟩:∃D,D=g1.objs.size:=⟨_,rfl⟩;rw[<-eD] at I ⊢;show wpAny (model prog w) A.in1.in1 (Builtin.«list.sort» ⟨[.ref D],[(Str.ofString "key",.ref f)]⟩) _ _ _;rw[ksk_t1];obtain⟨g2,p⟩:∃g2,g2=g1.push (seqObj "list" (ps.map itV).toArray 0):=⟨_,rfl⟩;rw[<-p] at I keep ⊢;have s1:=vc g2 D<|Obj.mapSeq λ_=>(#[]:Vk);obtain⟨e1,r⟩:∃e1,(g2.update D<|Obj.mapSeq λ_=>(#[]:Vk)).get? D=some (seqObj "list" #[] e1):=⟨_,get?_update_seq I λ_=>#[]⟩;have nD:∀b o,s.heap.get? b=some o->b≠D:=λb o q z=>by have J:b<s.heap.objs.size:=s9 q;rw[z,eD,T] at J;exact Nat.not_succ_lt_self J
  unfold ksk_tree;refine Ab<|listItems_at (s:={ s with heap:=g2 }) I rfl ?_;refine Ab (listUpdate_at (s:={ s with heap:=g2 }) I rfl ?_ (by rw[Au];exact w_)<|A8 _);refine Ab<|seqEpoch_at r rfl ?_;refine Ab (wpAny_newTuple ?_ (by show(ps.map itV).length<=_;lia));refine Ab<|wpAny_newList ?_<|A8 _;refine Ba ?_;obtain⟨g3,U⟩:∃g3,g3=(g2.update D<|Obj.mapSeq λ_=>(#[]:Vk)).push (seqObj "tuple" (ps.map itV).toArray 0):=⟨_,rfl⟩;have k3:∀b o,s.heap.get? b=some o->g3.get? b=some o:=λb o q=>by rw[U];exact sy _<|(s1.2 b<|nD b o q).trans<|keep b o q
  have d3:g3.get? D=some (seqObj "list" #[] e1):=by rw[U];exact sy _ r
  show wpAny (model prog w) A.in1.in1 (ksk_rest D (.ref f) false (ps.map itV).toArray _<|.ref ((g2.update D<|Obj.mapSeq λ_=>(#[]:Vk)).push<|seqObj "tuple" (ps.map itV).toArray 0).objs.size) _ _ { s with heap:=((g2.update D<|Obj.mapSeq λ_=>(#[]:Vk)).push<|seqObj "tuple" (ps.map itV).toArray 0).push (seqObj "list" #[] 0) };rw[<-U];have a0:(g3.push<|seqObj "list" #[] 0).get? g3.objs.size=some (seqObj "list" #[] 0):=vb _ rfl;refine R5 (s:={ s with heap:=g3.push (seqObj "list" #[] 0) }) (g:=s.heap) (kS:=g3.objs.size) (a:=D) (rk:=rk) (B:=B) K S j (Heap.get?_none_of_le ?_) (λb o q=>sy _<|k3 b o q) a0 (sy _ d3) ?_ hz hp hB nd λh' tk qs c kp hD pm pw=>?_
  ·have l1:g3.objs.size=g1.objs.size+2:=by rw[U,size_push',Heap.size_update,p,size_push']
   rw[l1,T];exact AO (Cc _)<|Bg _ 2
  ·exact(A9<|s9 d3).symm
  ·refine⟨_,rfl,An ⟨_,rfl,h h' tk qs D c (by rw[eD,T];exact Cc _) (λb o q=>?_) hD pm pw⟩⟩;exact kp b o (A9<|s9<|k3 b o q) (nD b o q)<|sy _<|k3 b o q
end
end TS
namespace L2
open PySem PySem.Spec PyProof.Rows
theorem pW{i j:Int}{t u:Tok}{c:Vu}(l:Vj)(h:TriplesOk l):TriplesOk (l++[.int i t,.int j u,c]):=by
 fun_induction TriplesOk l with
 |case1=>trivial
 |case2 _ _ _ _ _ rest I=>exact I h
 |case3=>exact h.elim
theorem vS{i j:Int}{t u:Tok}{c I:Vu}(l:Vj)(h:TriplesOk l)(e:codeAmong pos (l++[.int i t,.int j u,c])=some I):codeAmong pos l=some I\/I=c:=by
 fun_induction TriplesOk l with
 |case1=>
  right;have e:(if i==pos.line&&j==pos.col then some c else none)=some I:=e;split at e
  ·cases e;rfl
  ·cases e
 |case2 a _ b _ d rest J=>
  have e:(if a==pos.line&&b==pos.col then some d else codeAmong pos (rest++[.int i t,.int j u,c]))=some I:=e;show(if a==pos.line&&b==pos.col then some d else codeAmong pos rest)=some I\/I=c;split at e
  ·rename_i z;rw[AA z];exact .inl e
  ·rename_i z;rw[Az z];exact J h e
 |case3=>exact h.elim
structure yw(K:Af)(eK:Vu)(P:Addr):Prop where
 ex:∃c oc,eK=.ref c/\K.lookup c=some oc/\∀h:Vy,h.get? c=some oc->PySem.W.CodeHd h c P
 bm:∃bm ob,PySem.W.nsIn K mainGlobals "__builtins__"=some (some<|.ref bm)/\bm≠builtinsNs/\bm≠mainGlobals/\K.lookup bm=some ob/\ob.cls=.type "module" /\ ob.dict=some builtinsNs/\ob.data=.plain
theorem tz:∀{l:Vl} {us:Vj},zn (l.map λi:Nat=>V.int<|0+(i:Int)) us->∃ps:List (Nat×Tok),us=ps.map TS.itV/\ps.map (·.1)=l
 |[],_,.nil=>⟨[],rfl,rfl⟩
 |i::r,_,.cons (b:=u) h t=>by obtain⟨ps,J,U⟩:=tz (l:=r) t;obtain⟨I,g⟩:=(show ∃I,u=Value.int (0+(i:Int)) I from h);refine⟨(i,I)::ps,?_,by rw[AG,U]⟩;rw[AG,J,g];show _=Value.int (i:Int) I::_;rw[Bv]
theorem ud:∀ps:List (Nat×Tok),zn (ps.map λx=>V.int ((x.1:Nat):Int))<|ps.map TS.itV
 |[]=>.nil
 |x::r=>.cons ⟨x.2,rfl⟩<|ud r
def R6(P:Addr)(q:Str)(J:Nat)(te:TE):TE:=λσ H Q=>te σ H λv H1=>∃l I,∃n:Nat,∃rks:Vp,v=.ref l/\H1 l=some (.lst ((List.range n).map λi:Nat=>V.int<|0+(i:Int)))/\σ[J]?=some (some<|.ref I)/\H1 I=some (.lst<|rks.map V.int)/\rks.length=n/\n<=127/\rg H1 P q/\
 ∀H2 D (qs:Vl),(∀b u,b≠P->H1 b=some u->H2 b=some u)->rg H2 P q->H1 D=none->D≠P->H2 D=some (.lst (qs.map λi:Nat=>V.int (i:Int)))->qs.Perm (List.range n)->(qs.Pairwise λi j=>rks.getD i 0*1000000+(i:Int)<=rks.getD j 0*1000000+(j:Int))->Q (.ref D) H2
theorem R7{kk cell:Addr}{J:Arguments}{p:Vu}{Q:VK}(I:z9 X pins σ H s)(S:TS.KeySc fy kx px)(hr:X.A.depth+3<recursionLimit)
 (hf:s.heap.get? f=some (PySem.W.kla_obj name eA J (TS.keyBody kx px p1 p2 p3 p4 p5 x1) fy [(kx,cell)] pm c' p)) (a0:s.heap.CodeRec (.ref c') eA) (r:s.heap.IsCell cell<|some<|.ref kk)
 (hb:∀v:Vu,bindArgs (PySem.W.kla_fn name eA J (TS.keyBody kx px p1 p2 p3 p4 p5 x1) fy [(kx,cell)] pm (.ref c') p) ⟨[v],[]⟩=pure [(px,v)])
 (hl:H l=some (.lst ((List.range n).map λi:Nat=>V.int<|0+(i:Int)))) (hk:H kk=some (.lst<|rks.map V.int)) (hn:rks.length=n) (hz:n<=127)
 (q:∀D (qs:Vl),H D=none->qs.Perm (List.range n)->(qs.Pairwise λi j=>rks.getD i 0*1000000+(i:Int)<=rks.getD j 0*1000000+(j:Int))->Q (.ref D) (upd H D<|.lst (qs.map λi:Nat=>V.int (i:Int)))):
 wpAny (model X.prog X.w) X.A (call (.builtin "sorted") [.ref l] [(Str.ofString "key",.ref f)]) (EP X pins σ Q) X.xe s:=by
 obtain⟨a3,rv,pl,_⟩:=I.list<|aO.of hl;obtain⟨g,rk,pk,_⟩:=I.list<|aO.of hk;obtain⟨ps,rfl,U⟩:=tz rv;have lk:g.length=n:=by rw[<-rk.length,Ag,hn]
 have lp:ps.length=n:=by have:=BO List.length U;rwa[Ag,A6] at this
 have big:(100000:Nat)<=sizeLine:=by decide
 refine xn I.tk<|TS.w_sortedK (rk:=λi=>rks.getD i 0) (B:=1000000) (kvs:=g) ⟨⟨name,eA,J,p1,p2,p3,p4,p5,x1,pm,p,c',cell,kk,hf,a0,r,pk.isList,hb⟩,I.nolimit⟩ S ?_ pl.isList (by lia) (λx hx=>?_) (λx hx=>?_) ?_ λh' tk qs D c hD keep hg T pw ht=>?_
 ·show X.A.depth<recursionLimit;lia
 ·have C:x.1∈List.range n:=by rw[<-U];exact C1 hx
  have a1:=AX.mp C;refine⟨by lia,?_⟩;have e1:(rks.map V.int)[x.1]?=some (V.int<|rks.getD x.1 0):=by rw[Am,Ai (by lia),BD,Ai (by lia)];rfl
  obtain⟨u,e2,r2⟩:=Words.Paired.getP rk e1;obtain⟨t,rfl⟩:=(show ∃t,u=Value.int (rks.getD x.1 0) t from r2);exact⟨t,e2⟩
 ·have C:x.1∈List.range n:=by rw[<-U];exact C1 hx
  have a1:=AX.mp C;omega
 ·rw[U];exact CV
 ·have a2:H D=none:=I.hok.fresh hD;refine⟨.ref D,_,I.laid (t':=tk) (o:=.lst ((qs.map (·.1)).map λi:Nat=>V.int (i:Int))) keep hD ?_,rfl,q D (qs.map (·.1)) a2 ?_ ?_⟩
  ·refine⟨?_,qs.map TS.itV,c,?_,hg⟩
   ·rw[Ag,Ag,T.length_eq];lia
   ·rw[Co];exact ud qs
  ·rw[<-U];exact T.map _
  ·exact Cn.mpr pw
theorem z9.tabbed{P:Addr}{ps more:Vk}{oc fo:Obj}{tk:Nat}(I:z9 X pins σ H s)(C:H P=some (.tbl ps))(hx:Heap.ExtBut P s.heap h')(U:h'.get? P=some (PySem.W.tabObj<|ps++more))
 (hc:s.heap.objs.size<=c') (g:h'.get? c'=some oc) (ht:0<tk):z9 X pins σ (upd (upd H P<|.tbl<|ps++more) c'<|.frz oc<|.own 0) { s with heap:=h'.push fo,toks:=tk }:=by
 have nc:H c'=none:=I.hok.fresh hc;have p:∀b,H b=none->b≠P:=λb e z=>by rw[z,C] at e;cases e
 have j:∀b u,H b=some u->b≠c':=λb u e z=>by rw[z,nc] at e;cases e
 have l:∀b o,s.heap.get? b=some o->b≠c':=λb o e=>A9<|AR (s9 e) hc;have t:∀b o,b≠P->s.heap.get? b=some o->(h'.push fo).get? b=some o:=λb o n e=>sy _<|hx b o n e;have J:∀b u,H b=some u->(∀ps,u≠.tbl ps)->b≠P:=λb u e d z=>by rw[z,C] at e;cases e;exact d _ rfl
 refine I.step (ch:=[]) (g':=s.gens) (d':=s.drawn) (t':=tk) (λ_ z=>nomatch z) (λb o _ _ _ e n=>t b o (p b n) e) (λb o _ _ _ e n=>⟨o.slots,t b o (p b n) e⟩) (λb o _ e n=>?_) (λb o _ e=>?_) (λb xs e=>?_) (λb o u e=>?_) (λb qs e=>?_) (λm hm=>?_) (λb u e=>?_) I.bare ht
 ·rw[qu<|l b o e,qu<|p b n];exact n
 ·by_cases c:b=P
  ·subst c;exact⟨_,sy _ U⟩
  ·exact⟨o,t b o c e⟩
 ·rw[qu<|j b _ e,qu (J b _ e λ_ z=>by cases z)];exact e
 ·rw[qu<|j b _ e,qu (J b _ e λ_ z=>by cases z)];exact e
 ·rw[qu<|j b _ e];by_cases c:b=P
  ·subst c;rw[C] at e;cases e;exact⟨more,zq⟩
  ·rw[qu c];exact⟨#[],by rw[e];simp⟩
 ·exact(hm.extBut hx<|p _ I.free).push _
 ·by_cases c:b=c'
  ·subst c;rw[zq] at e;cases e;exact⟨sy _ g,_,sy _ g⟩
  ·rw[qu c] at e;by_cases d:b=P
   ·subst d;rw[zq] at e;cases e;exact sy _ U
   ·rw[qu d] at e;refine(I.hok b u e).stay (λa v T r=>t a v ?_ r) (λa r=>?_) (λa xs r=>?_)
    ·rcases T with rfl|T
     ·exact d
     ·exact J a _ T λ_ z=>by cases z
    ·rw[qu<|j a _ r,qu (J a _ r λ_ z=>by cases z)];exact r
    ·rw[qu<|j a _ r,qu (J a _ r λ_ z=>by cases z)];exact r
theorem R8{te:TE}{J:Arguments}{U p:Pos}{ik:Nat}{P:Addr}{q:Str}(hg:Gl X "sorted")(hm:X.mg "sorted"=none)(he:PE X e te)(S:TS.KeySc fy kx px)(C:yw X.K X.env.code P)(hr:X.A.depth+3<recursionLimit)
 (hq:X.env.qual ++ "<lambda>" = q) (ca:X.N[ik]?=some kx) (al:X.env.scope.names.lookup kx=some .cell) (au:∃cell,X.env.cells.lookup kx=some cell/\closureFor fy X.env=pure [(kx,cell)])
 (av:defaultsOf J X.env=([],[])) (hb:∀(name eA:Str) (cl:List<|Str×Addr) (pm cd ct v:Vu),bindArgs (PySem.W.kla_fn name eA J (TS.keyBody kx px p1 p2 p3 p4 p5 x1) fy cl pm cd ct) ⟨[v],[]⟩=pure [(px,v)])
 (h1:starEach [e] X.env=(false,eval e X.env)::starEach [] X.env:=by rfl) (h2:(backTo pos<|starEach [e] X.env).any (·.1)=false:=by rfl)
 (h3:backTo pos (starEach [e] X.env)=(false,eval e X.env)::backTo pos (starEach [] X.env):=by rfl):
 PE X (.Call (.Name "sorted" p) [e] [⟨some "key",.Lambda J (TS.keyBody kx px p1 p2 p3 p4 p5 x1) fy U,qy⟩] pos) (R6 P q ik te):=by
 intro a0 s σ H Q I h;refine wpAny_Call_Name_kw<|gL I hg hm (by decide +kernel:bootBuiltins "sorted"=some (.builtin "sorted")) ?_ (by decide) (by decide);refine PyProof.Rows.callWith_kw ?_ h3 h2;rw[h3];refine xT<|aY (he a0 s σ H _ I h) λv s1 ψ=>?_;obtain⟨x,H1,g,rx,l,kk,n,rks,ev,hl,hs,hk,hn,hz,T,qq⟩:=ψ;refine yp ?_;subst ev;cases (show v=Value.ref l from rx);show wpAny _ _ (evalAll ((do let v <-eval (.Lambda J (TS.keyBody kx px p1 p2 p3 p4 p5 x1) fy U) X.env;standAt pos;pure v)::[])) _ _ s1;refine wpAny_evalAll_cons<|Ab ?_;obtain⟨cell,a2,ab⟩:=au;obtain⟨c,cc,aL,lc,hC⟩:=C.ex;obtain⟨bm,ob,b1,b2,b3,b4,b5,b6,b7⟩:=C.bm;obtain⟨a5,tP,tok,a3⟩:=T;have ba:s1.heap.Ns mainGlobals X.mg:=g.ok.mod.glob.keeps g.bk;have bb:s1.heap.get? P=some (PySem.W.tabObj a5):=g.hok P _ tP;have bc:PySem.W.CodeHd s1.heap c P:=hC _<|g.kIn c cc lc;have a1:∀b o,X.base.get? b=some o->b≠P:=λb o e z=>by have:=(g.bs b o e).2;rw[z,tP] at this;cases this
 have ac:=g.ok.mod.kin bm ob b4;have hB:s1.heap.BuiltinsAt X.mg P:=⟨bm,ob,C3 g.ok.mod.kin g.ok.mod.glob b1,b2,b3,a1 _ _ ac,(g.bs _ _ ac).1,b5,b6,b7⟩;have ck:mainGlobals≠P:=by obtain⟨o,es,ep,e,hd,_⟩:=g.ok.mod.glob;exact a1 _ _ e
 have a4:s1.heap.IsCell cell (some<|.ref kk):=by
  obtain⟨m,_,cm⟩:=g.loc;obtain⟨u,ru,lk⟩:=cm ik kx _ ca hs<|.inr<|.inl al;cases (show u=Value.ref kk from ru);rcases lk with⟨k1,_⟩|⟨_,c2,e2,cn⟩
  ·have k1:X.env.scope.names.lookup kx=some .local:=k1;rw[al] at k1;cases k1
  ·rw[a2] at e2;cases e2;exact cn
 refine PySem.W.kla_eval av ?_;rw[hq];have xh:∀(s2:Vv) (H2:Hp) (f j:Addr) (r pm:Vu),z9 X a0 σ H2 s2->s2.heap.get? f=some (PySem.W.kla_obj "<lambda>" q J (TS.keyBody kx px p1 p2 p3 p4 p5 x1) fy [(kx,cell)] pm j r)->s2.heap.CodeRec (.ref j) q->s2.heap.IsCell cell (some<|.ref kk)->
  (∀b u,b≠P->H1 b=some u->H2 b=some u)->rg H2 P q->(∀b,H2 b=none->H1 b=none)->
  wpAny (model X.prog X.w) X.A (do standAt pos;pure (Value.ref f)) (λv s'=>wpAny (model X.prog X.w) X.A (evalAll []) (λvs cw=>wpAny (model X.prog X.w) X.A (call (.builtin "sorted") [.ref l]<|[Str.ofString "key"].zip<|v::vs) (EP X a0 σ Q) X.xe cw) X.xe s') X.xe s2:=by
  intro s2 H2 f j r pm I2 g1 g2 g3 g4 g5 g6;refine Ab<|wpAny_standAt<|An<|wpAny_evalAll_nil ?_;have lP:l≠P:=λz=>by rw[z,tP] at hl;cases hl
  have kP:kk≠P:=λz=>by rw[z,tP] at hk;cases hk
  refine R7 (n:=n) (rks:=rks) I2 S hr g1 g2 g3 (λv=>hb _ _ _ _ _ _ v) (g4 _ _ lP hl) (g4 _ _ kP hk) hn hz λD qs hD cy pw=>?_;have bd:D≠P:=λz=>by obtain⟨dj,e2,_⟩:=g5;rw[z,e2] at hD;cases hD
  refine qq _ D qs (λb u n e=>?_) ?_ (g6 D hD) bd zq cy pw
  ·rw[qu<|j5 (g4 b u n e) hD];exact g4 b u n e
  ·exact g5.keep (qu<|A4 bd) λb o u e=>by rw[qu<|j5 e hD];exact e
 cases hf:codeAmong U a5.toList with
 |some cv=>
  obtain⟨j,oc,vs,t,d0,f1,f2,f3⟩:=a3 U cv hf;subst d0;refine xn g.tk<|PySem.W.kla_makeFunctionHit (mg:=X.mg) ab g.ok.glob ba aL bc bb tok hf hB λr h' tk be dp ht=>?_;have I2:z9 X a0 σ H1 { s1 with heap:=h'.push { cls:=.type "function",data:=.func (PySem.W.kla_fn "<lambda>" q J (TS.keyBody kx px p1 p2 p3 p4 p5 x1) fy [(kx,cell)] ((X.mg "__name__").getD .none) (.ref j) r) },toks:=tk }:=g.kept (t':=tk) λb o e=>sy _<|be b o e;obtain⟨a7,_⟩:=I2.hok j _ f1;refine xh _ H1 _ j r _ I2 (vb _ rfl) ⟨j,oc,vs,t,rfl,a7,f2,f3⟩ ?_ (λb u _ e=>e) ⟨a5,tP,tok,a3⟩ λb e=>e;obtain⟨o,e1,e2⟩:=a4;exact⟨o,sy _<|be _ _ e1,e2⟩
 |none=>
  refine xn g.tk<|PySem.W.kla_makeFunction (mg:=X.mg) ab g.ok.glob ba aL bc bb tok hf ck hB λj r h' tk hx bf dt bg dd ht=>?_;obtain⟨c2,oc,vs,t,e2,a7,f2,f3⟩:=bg;cases e2;have I2:=g.tabbed (fo:=PySem.W.kla_obj "<lambda>" q J (TS.keyBody kx px p1 p2 p3 p4 p5 x1) fy [(kx,cell)] ((X.mg "__name__").getD .none) j r) tP hx dd bf a7 ht;have nc:H1 j=none:=g.hok.fresh bf;have cP:j≠P:=λz=>by rw[z,tP] at nc;cases nc
  refine xh _ _ _ j r _ I2 (vb _ rfl) ⟨j,oc,vs,t,rfl,sy _ a7,f2,f3⟩ ?_ (λb u n e=>?_) ?_ λb e=>?_
  ·obtain⟨o,e1,e2⟩:=a4;have nP:cell≠P:=λz=>by have:=g.freeC kx cell a2;rw[z,tP] at this;cases this
   exact⟨o,sy _<|hx _ _ nP e1,e2⟩
  ·rw[qu<|j5 e nc,qu n];exact e
  ·refine⟨a5++#[rawInt U.line,rawInt U.col,.ref j],by rw[qu<|A4 cP,zq],?_,λbh cv z=>?_⟩
   ·rw[Bb];exact pW _ tok
   ·rw[Bb] at z;rcases vS _ tok z with z|z
    ·obtain⟨d',od,de,t',k1,k2,k3⟩:=a3 bh cv z;have nP:d'≠P:=λz=>by rw[z,tP] at k2;cases k2
     exact⟨d',od,de,t',k1,by rw[qu<|j5 k2 nc,qu nP];exact k2,k3⟩
    ·exact⟨j,oc,vs,t,z,zq,f2,f3⟩
  ·by_cases d:b=j
   ·subst d;exact nc
   ·rw[qu d] at e;by_cases d2:b=P
    ·subst d2;rw[zq] at e;cases e
    ·rw[qu d2] at e;exact e
end L2
namespace L3
open PySem L2
def Jf(Pt:Addr)(q:Str)(J:Nat)(te:vt)(τ:jq)(L:qp)(Q:YK):Prop:=te τ L λy L1=>match y with
 |.ref l=>dm L1 l λys=>∃(n:Nat) (rks:Vp) (I:Addr),ys=aQ 0 n/\z_ τ J=some (.ref I)/\L1 I=some (.lst<|rks.map Y.int)/\rks.length=n/\n<=127/\L1 Pt=some (.tb q)/\
  ∀(D:Addr) (qs:Vl),L1 D=none->qs.Perm (List.range n)->(qs.Pairwise λi j=>rks.getD i 0*1000000+(i:Int)<=rks.getD j 0*1000000+(j:Int))->Q (.ref D) (qe L1 D<|.lst (qs.map λi:Nat=>Y.int (i:Int)))
 |_=>False
theorem o8{G:G3}{H:Hp}:∀{l:Vl} {xs:VA},v5 G H (l.map λi:Nat=>Y.int<|0+(i:Int)) xs->xs=l.map λi:Nat=>V.int<|0+(i:Int)
 |[],_,h=>h
 |_::_,_,ψ=>by obtain⟨x,I,e,r,s⟩:=ψ;subst e;cases r;rw[o8 s];rfl
theorem iE{G:G3}{H:Hp}:∀{l:Vp} {xs:VA},v5 G H (l.map Y.int) xs->xs=l.map V.int
 |[],_,h=>h
 |_::_,_,ψ=>by obtain⟨x,I,e,r,s⟩:=ψ;subst e;cases r;rw[iE s];rfl
theorem uZ{G:G3}{H:Hp}:∀qs:Vl,v5 G H (qs.map λi:Nat=>Y.int (i:Int)) (qs.map λi:Nat=>V.int (i:Int))
 |[]=>rfl
 |_::r=>⟨_,_,rfl,rfl,uZ r⟩
theorem R9{I:Arguments}{U p:Pos}{r:Nat}{q:Str}(hg:Gl X "sorted")(hm:X.mg "sorted"=none)(he:QE X e te)(S:TS.KeySc fy kx px)(C:yw X.K X.env.code Pt)(hr:X.A.depth+3<recursionLimit)
 (hq:X.env.qual ++ "<lambda>" = q) (t:X.N[r]?=some kx) (a0:X.env.scope.names.lookup kx=some .cell) (g:∃cell,X.env.cells.lookup kx=some cell/\closureFor fy X.env=pure [(kx,cell)])
 (j:defaultsOf I X.env=([],[])) (hb:∀(name eA:Str) (cl:List<|Str×Addr) (pm cd ct v:Vu),bindArgs (PySem.W.kla_fn name eA I (TS.keyBody kx px p1 p2 p3 p4 p5 x1) fy cl pm cd ct) ⟨[v],[]⟩=pure [(px,v)])
 (h1:starEach [e] X.env=(false,eval e X.env)::starEach [] X.env:=by rfl) (h2:(backTo pos<|starEach [e] X.env).any (·.1)=false:=by rfl)
 (h3:backTo pos (starEach [e] X.env)=(false,eval e X.env)::backTo pos (starEach [] X.env):=by rfl):
 QE X (.Call (.Name "sorted" p) [e] [⟨some "key",.Lambda I (TS.keyBody kx px p1 p2 p3 p4 p5 x1) fy U,qy⟩] pos) (Jf Pt q r te):=
 EI (R8 hg hm he S C hr hq t a0 g j hb h1 h2 h3) λσ H Q τ L Q3 rs rl z k=>by
  refine⟨τ,L,_,rs,rl,z,λv H1 y L1 t1 J rv z=>?_⟩;cases y with
  |ref l=>
   obtain⟨ys,e1,n,a1,kk,rfl,e2,e3,hn,hz,eP,qq⟩:=vf z;cases rv;obtain⟨xs,h1,r1⟩:=J l _ e1;obtain⟨xk,h2,r2⟩:=J kk _ e3;have T:rg H1 Pt q:=J Pt _ eP;cases o8 r1;cases iE r2;obtain⟨v,hv,rv⟩:=rs.get r _<|qC _ _ e2;cases rv;refine⟨l,kk,n,a1,rfl,h1,hv,h2,hn,hz,T,λH2 D qs kp T2 hD a3 a2 pm pw=>?_⟩;have tb:∃o,H1 Pt=some (.tbl o):=let ⟨o,e,_⟩:=T;⟨o,e⟩;have t2:j8 H1 H2:=λa u i h=>kp a u (λc=>by obtain⟨o,e⟩:=tb;rw[c,e] at h;cases h;cases i) h
   refine k _ _ _ _ (t1.trans t2) (λa u e=>?_) (by rfl)<|qq D qs (J.none hD) pm pw;by_cases c:a=D
   ·subst c;rw[q9] at e;cases e;exact⟨_,a2,uZ qs⟩
   ·rw[qc c] at e;by_cases d:a=Pt
    ·subst d;rw[eP] at e;cases e;exact T2
    ·obtain⟨x,hx⟩:=(J a u e).ex;exact(J a u e).keep t2 (by rw[hx];exact kp a x d hx)
  |_=>exact z.elim
structure Gg(K:Af)(x eA:Str)(st:Stmt)(f:Addr)(fd:FuncData)(Pt:Addr):Prop where
 ex:∃(oc:Vu) (od:Option Addr) (kV ir pm:Vu) (an:Option Addr) (eK ct:Vu) (oe:Array<|Vq),
  fd=PySem.W.fnOf x eA (xm st) (j9 st) (qt st) .none kV ir pm an eK ct/\K.lookup f=some ⟨oc,od,.func fd,oe⟩/\PySem.W.codeIn K eK eA=true/\yw K eK Pt
 kp:PySem.W.keepIn K (.ref f)=true
theorem Sa{P:Vw}{w:Vx}{K:Af}{N:Vm}{k:Nat}(F:Gg K x eA st f fd Pt)(S:aw N ps<|qt st)(len:∀ys L Q,sp ys L Q->ys.length=ps.length)
 (I:∀(eK:Vu) (A:Around) (outer:List Env) (s:Vv) (H:Hp) (E:XK),yw K eK Pt->km k (A.deeper<|PyProof.Rows.envOfC eA (qt st) s.heap.objs.size f eK)->
  ∃t,sJ (iT CX0 P w K mg base N eA (qt st) f eK A outer s H E).nox (j9 st) t/\∀ys L Q,sp ys L Q->t { nx:=λ_ L'=>l6 Q .non L',rt:=l6 Q } (iw N ys) L):Fn3 P w K mg base (k+1) f fd ps sp:=by
 obtain⟨oc,od,kV,g,pm,an,eK,ct,j,rfl,lk,U,C⟩:=F.ex;have F0:Fun K x eA st f _:=⟨⟨oc,od,kV,g,pm,an,eK,ct,j,rfl,lk,U⟩,F.kp⟩;refine Hj lk U S (λvs H Q E ψ=>by obtain⟨ys,L,l,o,rl,z,_⟩:=ψ;rw[<-o.length];exact len ys L l z) λA outer s H vs Q E hr ψ=>?_;obtain⟨ys,L,l,o,rl,z,k⟩:=ψ;obtain⟨t,ht,q⟩:=I eK A outer s H E C hr;refine⟨_,kW.nox ht,iw N ys,L,_,oy o,rl,q ys L l z,?_⟩;exact⟨λσ p τ L' r a1 J ψ=>(by obtain⟨L2,T,q2⟩:=ψ;exact k .non p .non L2 r (J.sub T) (by rfl) q2),λv p y L' r J a0 ψ=>(by obtain⟨L2,T,q2⟩:=ψ;exact k v p y L2 r (J.sub T) a0 q2),λ_ _ _ _ _ _ _ z=>z.elim,λ_ _ _ _ _ _ _ z=>z.elim⟩
def pO(Pt:Addr)(q:Str):zd:=λys L Q=>∃I:Vp,ys=[.sq<|I.map Y.int]/\I.length<=63/\L=qe (λ_=>none) Pt (.tb q)/\∀L',Q (.bl true) L'
def spTopT(q:Str)(K:Af)(Pt:Addr):Sp:=λvs H Q _=>∃(a:Addr) (I:Vp),vs=[.ref a]/\SqF K H a (I.map V.int)/\I.length<=63/\H Pt=some (.tbl #[])/\∀H',Q (.bl true) H'
theorem Sb{q:Str}{vs:VA}{Q:VK}{E:XK}(h:spTopT q G.K Pt vs H Q E):dn G (pO Pt q) vs H Q E:=by
 obtain⟨a,I,rfl,J,U,g,z⟩:=h;refine⟨[.sq<|I.map Y.int],qe (λ_=>none) Pt<|.tb q,λy _=>y=.bl true,v5.one ⟨a,_,rfl,J,tO I⟩,(λb u e=>?_),⟨I,rfl,U,rfl,λ_=>rfl⟩,?_⟩
 ·by_cases c:b=Pt
  ·subst c;rw[q9] at e;cases e;exact⟨#[],g,trivial,λpos o z=>by cases z⟩
  ·rw[qc c] at e;cases e
 ·rintro v j y p _ _ l rfl;cases l;exact z j
end L3
namespace L2
open PySem PySem.Spec PyProof.Rows
def lessK(Pt:Addr):Af->Af
 |[]=>[]
 |(a,o)::r=>if a==Pt then lessK Pt r else(a,o)::lessK Pt r
theorem xr{Pt a:Addr}(h:a≠Pt):∀K:Af,(lessK Pt K).lookup a=K.lookup a
 |[]=>rfl
 |(b,o)::r=>by
  unfold lessK;by_cases c:(b==Pt)=true
  ·rw[AA c,xr h r,Bk];have:(a==b)=false:=by have I:=eq_of_beq c;subst I;exact Eu h
   rw[this]
  ·rw[Az c,Bk,Bk,xr h r]
theorem wz{Pt:Addr}:∀K:Af,(lessK Pt K).lookup Pt=none
 |[]=>rfl
 |(b,o)::r=>by
  unfold lessK;by_cases c:(b==Pt)=true
  ·rw[AA c];exact wz r
  ·rw[Az c,Bk];have:(Pt==b)=false:=by cases d:Pt==b with|false=>rfl|true=>exact absurd (beq_iff_eq.mpr (eq_of_beq d).symm) c
   rw[this];exact wz r
theorem mX{a:Addr}{K:Af}{o:Obj}(e:(lessK Pt K).lookup a=some o):a≠Pt/\K.lookup a=some o:=by
 by_cases c:a=Pt
 ·subst c;rw[wz] at e;cases e
 ·rw[xr c] at e;exact⟨c,e⟩
theorem lessK_in{K:Af}(X:K.In h):(lessK Pt K).In h:=λa o e=>X a o (mX e).2
structure Jg(K:Af)(Pt:Addr):Prop where
 tab:K.lookup Pt=some (PySem.W.tabObj #[])
 hd:∃c,∀h:Vy,K.In h->PySem.W.CodeHd h c Pt
 st:Pt≠cStatics
section
variable {K:Af}(T:K.lookup Pt=some (PySem.W.tabObj #[]))
include T
theorem ns_dn{a:Addr}{r:Option<|Vq}(e:PySem.W.nsIn K a x=r):PySem.W.nsIn (lessK Pt K) a x=r:=by
 rw[<-e];unfold PySem.W.nsIn;by_cases c:a=Pt
 ·subst c;rw[wz,T]
 ·rw[xr c]
theorem lk_dn{a:Addr}{o:Obj}(e:K.lookup a=some o)(n:o.cls≠.none):(lessK Pt K).lookup a=some o:=by
 rw[xr ?_]
 ·exact e
 ·rintro rfl;rw[T] at e;cases e;exact n rfl
theorem code_dn{cd:Vu}{q:Str}(e:PySem.W.codeIn K cd q=true):PySem.W.codeIn (lessK Pt K) cd q=true:=by
 unfold PySem.W.codeIn at e ⊢;split at e
 ·rename_i c;by_cases d:c=Pt
  ·subst d;rw[T] at e;simp at e
  ·rw[xr d];exact e
 ·cases e
theorem Sc :PySem.W.ownIn (lessK Pt K) x v=PySem.W.ownIn K x v:=by
 unfold PySem.W.ownIn;split
 ·rfl
 ·rename_i a;by_cases d:a=Pt
  ·subst d;rw[wz,T]
  ·rw[xr d];split
   ·exact ns_dn T rfl
   ·rfl
 ·rfl
theorem uS{x:Str}:∀l:Vj,PySem.W.alongIn (lessK Pt K) x l=PySem.W.alongIn K x l
 |[]=>rfl
 |c::r=>by unfold PySem.W.alongIn;rw[Sc T,uS r]
theorem find_dn :PySem.W.findIn (lessK Pt K) v x=PySem.W.findIn K v x:=by
 unfold PySem.W.findIn;split
 ·rfl
 ·rename_i a;by_cases d:a=Pt
  ·subst d;rw[wz,T]
  ·rw[xr d];split
   ·exact uS T _
   ·rfl
 ·rfl
theorem nM{a:Addr}(n:a≠Pt):PySem.W.specialIn (lessK Pt K) (.ref a) x=PySem.W.specialIn K (.ref a) x:=by unfold PySem.W.specialIn PySem.W.typeIn;dsimp only;rw[xr n];congr 1;funext t;exact find_dn T
theorem keep_dn{f:Vu}(e:PySem.W.keepIn K f=true):PySem.W.keepIn (lessK Pt K) f=true:=by
 unfold PySem.W.keepIn at e ⊢;split at e
 ·rename_i a;by_cases d:a=Pt
  ·subst d;rw[T] at e;simp at e
  ·rw[xr d,nM T d];exact e
 ·cases e
end
theorem zM{P:Vw}{w:Vx}{K:Af}{mb:Vg}{CX:b_}{k:Nat}{a:Addr}{sp:Sp}{I:Vv}{T:Vp}
 (KX:K.In I.heap) (TI:Jg K Pt) (a0:I.heap.Ns mainGlobals mg) (hb:I.heap.Ns builtinsNs mb) (ab:∀x:Str,x ≠ "__name__" -> mb x=bootBuiltins x) (a1:I.heap.NoLimit) (hg:I.gens=#[]) (ac:0<I.toks)
 (p:I.heap.get? a=some { cls:=.type "list",data:=.seq vs.toArray }) (hi:IntsAre vs T) (hl:T.length<=sizeLine) (hr:km k callerA)
 (F:∀base:Vy,(lessK Pt K).In base->base.Ns mainGlobals mg->bS P w (lessK Pt K) mg base CX k fa fd [x] sp) (l:∀(s:Vv) (u:Vu),BindsTo s fd ⟨[u],[]⟩ [(x,u)])
 (al:∀H:Hp,H Pt=some (.tbl #[])->(H a=none\/∃o xs,H a=some (.frz o<|.lst xs))->aO (lessK Pt K) H a (T.map V.int)->sp [.ref a] H (λv _=>v=.bl true) λ_ _ _=>False)
 (au:∀H e s',CX [] H I (λ_ _ _=>False) e s'->False):
 codeAny (model P w) callerA (.call (.ref fa) ⟨[.ref a],[]⟩) (λr s'=>r=.ok (.ret<|.bool true)/\OldK I.heap s'.heap/\s'.os=I.os/\AllBare s'.gens) I:=by
 have rv:=pL hi;have a2:=hi.length;have hP:I.heap.get? Pt=some (PySem.W.tabObj #[]):=KX Pt _ TI.tab;have U:a≠Pt:=λz=>by rw[z,hP] at p;cases p
 have core:∀H:Hp,H Pt=some (.tbl #[])->(∀b,b≠a->b≠Pt->H b=none)->(H a=none\/∃o xs,H a=some (.frz o<|.lst xs))->aO (lessK Pt K) H a (T.map V.int)->(∀u,H a=some u->vg P w H I.heap a u)->(H a≠none->K.lookup a=none)->
  codeAny (model P w) callerA (.call (.ref fa) ⟨[.ref a],[]⟩) (λr s'=>r=.ok (.ret<|.bool true)/\OldK I.heap s'.heap/\s'.os=I.os/\AllBare s'.gens) I:=by
  intro H HP Hn HO HS a3 av;have a4:gF P w H I.heap:=λb u e=>by
   by_cases c:b=a
   ·subst c;exact a3 u e
   ·by_cases d:b=Pt
    ·subst d;rw[HP] at e;cases e;exact hP
    ·rw[Hn b c d] at e;cases e
  have J:∀{b:Addr} {o:Obj},I.heap.get? b=some o->H b=none->(rB I.heap H).get? b=some o:=λe n=>Lw e n;have aL:∀{b:Addr} {o:Obj} {t:Array DictEntry} {C:Nat},I.heap.get? b=some o->o.data=.dict t C->H b=none:=λ{b o t C} e d=>by
   refine Hn b (λz=>?_) λz=>?_
   ·subst z;rw[p] at e;cases e;have d':Data.seq vs.toArray _=Data.dict t C:=d;cases d'
   ·subst z;rw[hP] at e;cases e;have d':Data.fields _=Data.dict t C:=d;cases d'
  have g:∀{b:Addr} {m:Vg},I.heap.Ns b m->(rB I.heap H).Ns b m:=λ{b m} ψ=>(by obtain⟨o,t,C,e,d,r⟩:=ψ;exact ⟨o,t,C,J e<|aL e d,d,r⟩);have a5:(lessK Pt K).In (rB I.heap H):=λb o e=>by
   obtain⟨n,e⟩:=mX e;refine J (KX b o e) ?_;by_cases c:b=a
   ·subst c;cases q:H b with|none=>rfl|some u=>rw[av (by rw[q];simp)] at e;cases e
   ·exact Hn b c n
  have hM:Mod (lessK Pt K) mg (rB I.heap H):=⟨a5,g a0,⟨mb,g hb,ab⟩,let ⟨mc,h1,h2⟩:=a1;⟨mc,g h1,h2⟩⟩;have e0:vR P w (lessK Pt K) mg (rB I.heap H) callerA [] I H:=⟨rfl,hM,λb o e=>Lx e,Ei<|zO _ _,trivial,λb hb=>absurd (show b∈([]:List Addr) from hb) (by simp),a4,.of_eq hg,ac⟩;refine codeAny_mono ((F _ a5<|g a0).run callerA [] I H ⟨[.ref a],[]⟩ [.ref a] [.ref a] _ _ hr e0 (l I<|.ref a) (.cons rfl .nil)<|al H HP HO HS) λr s' h=>?_;cases r with
  |error e=>exact(au H e s' h).elim
  |ok fl=>
   cases fl with
   |next=>exact False.elim h
   |brk=>exact False.elim h
   |cont=>exact False.elim h
   |ret u=>
    obtain⟨v,H',os,bare,un,j,r',q,_⟩:=h;have q':v=.bl true:=q;subst q';obtain rfl:u=Value.bool true:=r';obtain⟨more,em⟩:=un.tbls Pt _ HP;have gP:s'.heap.get? Pt=some (PySem.W.tabObj<|#[]++more):=j Pt _ em;have kp:∀b o,b≠Pt->I.heap.get? b=some o->s'.heap.get? b=some o:=λb o n e=>by
     have a7:H b=none->s'.heap.get? b=some o:=λz=>un.keep b o e z (by intro z;exact absurd (show b∈([]:List Addr) from z) (by simp)) (by simp);by_cases c:b=a
     ·subst c;rcases HO with z|⟨ob,xs,z⟩
      ·exact a7 z
      ·have z2:=un.frzs _ _ _ z;obtain⟨e1,_⟩:=a4 _ _ z;obtain⟨e2,_⟩:=j _ _ z2;rw[e] at e1;cases e1;exact e2
     ·exact a7<|Hn b c n
    obtain⟨c,hc⟩:=TI.hd;refine⟨rfl,⟨λb o e=>?_,λb o e=>?_⟩,os,bare⟩
    ·by_cases n:b=Pt
     ·subst n;rw[hP] at e;cases e;exact .inr<|.inl ⟨((hc _ KX).tab hP).isCodeTable,rfl,#[],more,rfl,gP⟩
     ·exact .inl<|kp b o n e
    ·by_cases n:b=Pt
     ·subst n;exact⟨_,gP⟩
     ·exact⟨o,kp b o n e⟩
 cases hk:K.lookup a with
 |some o=>
  have e:=KX a o hk;rw[p] at e;cases e;refine core (λb=>if b=Pt then some (.tbl #[]) else none) (AA rfl) (λb _ n=>Az n) (.inl<|Az U) (.inr ⟨_,vs.toArray,_,(xr U K).trans hk,rfl,rfl,rfl,by rw[Au,a2];exact hl,by simpa using rv⟩) (λu z=>by have z':=(Az U).symm.trans z;cases z') λz=>absurd (Az U) z
 |none=>
  refine core (λb=>if b=a then some (.frz { cls:=.type "list",data:=.seq vs.toArray }<|.lst<|T.map V.int) else if b=Pt then some (.tbl #[]) else none) ((Az<|A4 U).trans<|AA rfl) (λb n1 n2=>(Az n1).trans<|Az n2) (.inr ⟨_,_,AA rfl⟩) (.inl<|.inr ⟨_,AA rfl⟩) (λu z=>?_) λ_=>hk;have z':=(AA rfl).symm.trans z;cases z';exact⟨p,by rw[Ag];exact hl,vs,_,rv,p⟩
theorem walk_ofZT{l:PySem.W.OpenLaw}{k:Nat}{q:Vw}{loose:Vm}{XP:(Vg)->Vy->Prop}{as0:List Addr}{N t:Nat}{d:DefRec}{K:Params->Af}{CX:b_}{sp:Af->Addr->Sp}
 (hn:l.most=some n) (r:n<=sizeLine) (C:d.params.defaults=[]) (hr:km k callerA) (ek:∀P,as0=(K P).map (·.1)) (a0:0<t)
 (F:∀(w:Vx) (mg:Vg) (fa:Addr) (h:Vy),(K w.params).In h->h.Ns mainGlobals mg->mg d.name=some (.ref fa)->
  ∃Pt:Addr,Jg (K w.params) Pt/\∃fd:FuncData,(∀(s:Vv) (u:Vu),BindsTo s fd ⟨[u],[]⟩ [(x,u)])/\
   ∀base:Vy,(lessK Pt<|K w.params).In base->base.Ns mainGlobals mg->bS l.prog w (lessK Pt<|K w.params) mg base CX k fa fd [x] (sp (lessK Pt<|K w.params) Pt))
 (a1:∀(K:Af) (Pt:Addr) (H:Hp) (a:Addr) (p:Vp),p.length<=n->H Pt=some (.tbl #[])->(H a=none\/∃o xs,H a=some (.frz o<|.lst xs))->aO K H a (p.map V.int)->sp K Pt [.ref a] H (λv _=>v=.bl true) λ_ _ _=>False)
 (a2:∀(H:Hp) (s:Vv) (e:Vu) (s':Vv),CX [] H s (λ_ _ _=>False) e s'->False):
 PySem.W.WalkX q loose XP (PySem.W.X.obsZ as0) (PySem.W.X.valZ K N t) l.row.toRowW d [] (λf vs=>PySem.call f vs):=by
 refine Att.attach_callZ hn C ek a0 λw a4 U mg mb fa o pm cd a5 a vs p G KX tk ho hd a7 a3 j J I hg=>?_;obtain⟨Pt,TI,fd,hb,hF⟩:=F w mg fa _ KX G.T.g a3;exact zM KX TI G.T.g G.T.b G.T.builtins G.T.nolimit hg tk j J (AO I r) hr hF hb (λH hP hO hS=>a1 _ Pt H a p I hP hO hS) λH e s'=>a2 H U e s'
end L2
namespace L3
open PySem L2
theorem top_startT{q:Str}:∀(K:Af) (Pt:Addr) (H:Hp) (a:Addr) (I:Vp),I.length<=63->H Pt=some (.tbl #[])->(H a=none\/∃o xs,H a=some (.frz o<|.lst xs))->aO K H a (I.map V.int)->spTopT q K Pt [.ref a] H (λv _=>v=.bl true) λ_ _ _=>False:=by
 intro K Pt H a I J U g j;refine⟨a,I,rfl,?_,J,U,λ_=>rfl⟩;rcases j with(h|⟨o,h⟩)|h
 ·rcases g with z|⟨o,xs,z⟩<;>rw[h] at z<;>cases z
 ·exact .inl ⟨o,h⟩
 ·exact .inr h
structure DefInT(K:Af)(x:Str)(st:Stmt)(Pt:Addr):Prop where
 ex:∃(f:Addr) (kV ir pm:Vu) (an:Option Addr) (eK ct:Vu),PySem.W.nsIn K mainGlobals x=some (some<|.ref f)/\Gg K x x st f (PySem.W.fnOf x x (xm st) (j9 st) (qt st) .none kV ir pm an eK ct) Pt
theorem DefInT.use{K:Af}(D:DefInT K x st Pt)(X:K.In h)(G:h.Ns mainGlobals mg)
 (I:∀(kV ir pm:Vu) (an:Option Addr) (eK ct:Vu) (us:Vj),us.length=ps.length->bindArgs (PySem.W.fnOf x x (xm st) (j9 st) (qt st) .none kV ir pm an eK ct) ⟨us,[]⟩=pure (ps.zip us)):
 ∃f fd,Gg K x x st f fd Pt/\aR K fd ps []/\mg x=some (.ref f):=by
 obtain⟨f,kV,ir,pm,an,eK,ct,a,F⟩:=D.ex;exact⟨f,_,F,.all<|I kV ir pm an eK ct,C3 X G a⟩
end L3
namespace L2
open PySem PySem.Spec PyProof.Rows
section
variable {ni:St}
theorem z9.ren(M:Vm)(I:z9 X pins σ H s)(J:M.length=X.N.length)(hs:ni.length=σ.length)(h:∀(j:Nat) v,ni[j]?=some (some v)->σ[j]?=some (some v)/\X.N[j]?=M[j]?):z9 { X with N:=M } pins ni H s:=by obtain⟨m,U,l⟩:=I.loc;have o:=I.ok;exact { ok:=⟨o.mod,o.kind,o.glob,o.blt,o.above,o.inj,o.has,o.cab,o.hd,o.frames,o.stk,o.exf,o.bs,o.bsz,o.noex,o.exfs,o.funs,o.frf⟩,os:=I.os,bare:=I.bare,base:=I.base,cell:=I.cell,free:=I.free,freeC:=I.freeC,pin:=I.pin,hok:=I.hok,tk:=I.tk,len:=(by rw[hs,I.len];exact J.symm),loc:=⟨m,U,λi x v g p r=>by obtain⟨a,b⟩:=h i v p;exact l i x v (b.trans g) a r⟩ }
theorem uP{v:V}(h:(σ.set i none)[j]?=some (some v)):j≠i/\σ[j]?=some (some v):=by
 by_cases c:i=j
 ·subst c;rw[List.getElem?_set_self'] at h;cases e:σ[i]? with|none=>rw[e] at h;cases h|some o=>rw[e] at h;cases h
 ·rw[Bl c] at h;exact⟨A4 c,h⟩
def Sd(i:Nat)(t:TS):TS:=λD σ H=>t { nx:=λni H'=>D.nx (ni.set i none) H',rt:=D.rt,bk:=λni H'=>D.bk (ni.set i none) H',ct:=λni H'=>D.ct (ni.set i none) H' } (σ.set i none) H
theorem Se{t:TS}(h:PS { X with N:=X.N.set i x } st t):PS X st (Sd i t):=by
 intro g s p H D I z;have C:z9 { X with N:=X.N.set i x } g (p.set i none) H s:=I.ren _ (by rw[Bo]) (by rw[Bo]) λj v e=>by obtain⟨a,b⟩:=uP e;exact⟨b,by rw[Bl<|A4 a]⟩
 refine aY (h g s _ H _ C z) λf o q=>?_;have back:∀{U:St} {l:Hp},z9 { X with N:=X.N.set i x } g U l o->z9 X g (U.set i none) l o:=λ{U l} J=>
  z9.ren (X:={ X with N:=X.N.set i x }) X.N J (by show X.N.length=(X.N.set i x).length;rw[Bo]) (by rw[Bo]) λj v e=>by obtain⟨a,b⟩:=uP e;exact⟨b,by show(X.N.set i x)[j]?=_;rw[Bl<|A4 a]⟩
 cases f with
 |next=>obtain⟨U,l,J,q⟩:=q;exact⟨_,l,back J,q⟩
 |brk=>obtain⟨U,l,J,q⟩:=q;exact⟨_,l,back J,q⟩
 |cont=>obtain⟨U,l,J,q⟩:=q;exact⟨_,l,back J,q⟩
 |ret u=>obtain⟨v,U,l,J,r,q⟩:=q;exact⟨v,_,l,back J,r,q⟩
end
end L2
namespace L3
open PySem L2
def iH:jq->Nat->jq
 |[],_=>[]
 |_::r,0=>none::r
 |o::r,i+1=>o::iH r i
theorem uE:∀(τ:jq) (i:Nat),iH τ i=τ.set i none
 |[],_=>rfl
 |_::_,0=>rfl
 |o::r,i+1=>by unfold iH;rw[uE r i];rfl
def mB(i:Nat)(t:k8)(D:xi)(τ:jq)(L:qp):Prop:=t { nx:=λI L'=>D.nx (iH I i) L',rt:=D.rt,bk:=λI L'=>D.bk (iH I i) L',ct:=λI L'=>D.ct (iH I i) L' } (iH τ i) L
theorem vn.forget(h:vn G H σ τ)(i:Nat):vn G H (σ.set i none) (iH τ i):=by
 rw[uE];refine⟨by rw[Bo,Bo];exact h.len,λj y e=>?_⟩;by_cases c:i=j
 ·subst c;rw[List.getElem?_set_self'] at e;cases I:τ[i]? with|none=>rw[I] at e;cases e|some o=>rw[I] at e;cases e
 ·rw[Bl c] at e ⊢;exact h.get j y e
theorem lG(x:Str){t:k8}(h:QS { X with N:=X.N.set i x } st t):QS X st (mB i t):=
 EM (Se h) λD T H p L D3 r C z k=>⟨iH p i,L,_,r.forget i,C,z,
  ⟨λU g j l o I J q=>k.nx _ g _ l o (I.forget i) J q,k.rt,λU g j l o I J q=>k.bk _ g _ l o (I.forget i) J q,λU g j l o I J q=>k.ct _ g _ l o (I.forget i) J q⟩⟩
theorem wM:bootBuiltins "min"=some (.builtin "min"):=by decide +kernel
def Fu(x:Y)(lo hi:Vr)(L:qp)(Q:YK):Prop:=match x with
 |.tup ys=>¬(HT.sIx ys.length 0 lo=0/\HT.sIx ys.length ys.length hi=ys.length)/\Q (.tup<|gd ys lo hi) L
 |_=>False
theorem uF(K:Af)(P:Vw)(w:Vx)(U:X.K=K:=by rfl)(g:X.prog=P:=by rfl)(hw:X.w=w:=by rfl):sK X (Fm ⟨K,P,w⟩ Fu):=by
 subst U g hw;refine sK.imp NQ λx lo J H Q ψ=>?_;obtain⟨y,L,Q3,j,l,z,k⟩:=ψ;cases y with
 |tup o=>
  obtain⟨a,t,e,sq,r⟩:=j;obtain⟨C,T⟩:=z;exact⟨a,t,e,sq,by rw[<-r.length];exact C,λp I=>k _ _ (.tup<|gd o lo J) L (EH I) (l.skip I) ⟨p,_,rfl,.inl<|.inl zq,(rP r lo J).ts<|EH I⟩ T⟩
 |_=>exact z.elim
theorem vL{a:Addr}{keep:qp->Prop}(h:∀H L,j8 H₀ H->ja G H L->keep L->∃xs,cx G.K H a xs/\v5 G H ys xs):gM G H₀ (FI G.K a) ys keep where
 go:=λi H L t I J U=>by
  obtain⟨xs,sq,r⟩:=h H L t I J;have:i<xs.length:=by rw[<-r.length];exact U
  exact⟨xs,xs[i],sq,Ai this⟩
 yld:=λi H L x o y t I J g ψ=>by obtain⟨e,f⟩:=ψ;subst e;obtain⟨xs,sq,r⟩:=h _ L t I J;obtain⟨p,j,l⟩:=r.get g;have:=f xs sq;rw[j] at this;cases this;exact⟨EG _,I,l⟩
 stop:=λH L t I J=>by obtain⟨xs,sq,r⟩:=h H L t I J;exact⟨xs,sq,by rw[r.length];exact Al _⟩
theorem rA(h:QE X e te):QI X tg e (HU te):=PI.imq (My h) λσ H R j L R3 l o z k=>by
 refine⟨j,L,_,l,o,z,λv p y C T I J U=>?_⟩;cases y with
 |tup ys=>
  obtain⟨a,g,e,sq,r⟩:=J;exact⟨a,e,⟨g,sq⟩,k _ p ys (λ_=>True) C T I (vL λH L t _ _=>⟨g,cx.ts sq t,r.ts t⟩) U⟩
 |_=>exact U.elim
theorem Sf{k:Nat}(I:km k A):A.depth+3<recursionLimit:=by have:=I.dp;omega
abbrev lamQ:Str:="_law_order.<locals>.<lambda>"
open PySem L2 Words
def nX(ks:List<|VG):Prop:=∀(p:Nat) (e:Bool) (i j:Nat),ks[p]?=some (some<|.nd e i j)->i<p/\j<p
def aal(ks:List<|VG)(rks:Vp):Prop:=∀(p:Nat) (e:Bool) (i j:Nat),p<rks.length->ks[p]?=some (some<|.nd e i j)->rks.getD i 0<rks.getD p 0/\rks.getD j 0<rks.getD p 0
theorem l9{r:Int}(h:i<rks.length):(rks++[r]).getD i 0=rks.getD i 0:=by rw[BD,BD,AI h]
theorem Sg{r:Int}:(rks++[r]).getD rks.length 0=r:=by rw[BD,Ax<|Al _,DC];rfl
theorem aal.snoc{ks:List<|VG}{r:Int}{k:VG}(ok:nX ks)(h:aal ks rks)(U:ks[rks.length]?=some k)(g:∀e i j,k=some (.nd e i j)->rks.getD i 0<r/\rks.getD j 0<r):aal ks (rks++[r]):=by
 intro p e i j I J;obtain⟨l,o⟩:=ok p e i j J;rw[Aa] at I;have I:p<rks.length+1:=I;rw[l9 (show i<rks.length by lia),l9 (show j<rks.length by lia)];by_cases c:p<rks.length
 ·rw[l9 c];exact h p e i j c J
 ·have:p=rks.length:=by lia
  subst this;rw[Sg];exact g e i j<|AS<|U.symm.trans J
def dO(ks:List<|VG)(qs:Vl):Prop:=qs.Pairwise λx y=>∀e i j,ks[x]?=some (some<|.nd e i j)->y≠i/\y≠j
theorem Sh{ks:List<|VG}(ok:nX ks)(h:aal ks rks)(I:rks.length=ks.length)(hw:qs.Pairwise λi j=>rks.getD i 0*1000000+(i:Int)<=rks.getD j 0*1000000+(j:Int)):dO ks qs:=by refine hw.imp λ{x y} z e i j ex=>?_;obtain⟨J,U⟩:=ok x e i j ex;obtain⟨g,l⟩:=h x e i j (by rw[I];exact zb ex) ex;exact⟨λc=>by subst c;lia,λc=>by subst c;lia⟩
theorem u9(h:i<rks.length):(rks.map Y.int)[i]?=some (.int<|rks.getD i 0):=by rw[Am,BD,Ai h];rfl
theorem aU(a:jb)(b:Y)(r:List<|jb×Y)(k:jb):kj ((a,b)::r) k=if a=k then some b else kj r k:=by
 unfold kj;rw[BI];by_cases h:a=k
 ·rw[AA h,show decide ((a,b).1=k)=true from AE h];rfl
 ·rw[Az h,show decide ((a,b).1=k)=false from Av h]
theorem sS(k J:jb)(y:Y):∀kvs:List (jb×Y),kj (kvs.map λU=>if U.1=k then(U.1,y) else U) J=if J=k then(kj kvs J).map (λ_=>y) else kj kvs J
 |[]=>by rw[Df];split<;>rfl
 |(a,b)::r=>by
  have g:=sS k J y r;rw[AG,aU];by_cases h:a=k
  ·rw[AA<|show(a,b).1=k from h,aU,g];by_cases I:J=k
   ·rw[AA I,AA I,AA<|h.trans I.symm,AA<|h.trans I.symm];rfl
   ·rw[Az I,Az I,Az λz=>I<|z.symm.trans h,Az λz=>I<|z.symm.trans h]
  ·rw[Az<|show ¬(a,b).1=k from h,aU,g];by_cases I:J=k
   ·rw[AA I,AA I,Az λz=>h<|z.trans I,Az λz=>h<|z.trans I]
   ·rw[Az I,Az I]
theorem sN(k I:jb)(y:Y):∀kvs:List (jb×Y),kj (kvs++[(k,y)]) I=(kj kvs I).or (if k=I then some y else none)
 |[]=>by rw[Cb,aU];have:kj [] I=none:=rfl;rw[this];split<;>rfl
 |(a,b)::r=>by rw[List.cons_append,aU,aU,sN k I y r];split<;>rfl
theorem uW(k:jb):∀kvs:List (jb×Y),(kvs.any λI=>decide<|I.1=k)=(kj kvs k).isSome
 |[]=>rfl
 |(a,b)::r=>by
  rw[Cq,aU,uW k r];by_cases h:a=k
  ·rw[AA h,show decide ((a,b).1=k)=true from AE h];rfl
  ·rw[Az h,show decide ((a,b).1=k)=false from Av h];rfl
theorem ui(kvs:List<|jb×Y)(k I:jb)(y:Y):kj (kR kvs k y) I=if I=k then some y else kj kvs I:=by
 unfold kR;rw[uW];cases e:kj kvs k with
 |some v=>
  rw[AA<|show(some v).isSome=true from rfl,sS];by_cases h:I=k
  ·rw[AA h,AA h,h,e];rfl
  ·rw[Az h,Az h]
 |none=>
  rw[Az (by simp),sN];by_cases h:I=k
  ·rw[AA h,h,e,AA rfl];rfl
  ·rw[Az h,Az λz=>h z.symm];cases kj kvs I<;>rfl
theorem cb(kvs:List<|jb×Y)(k:jb)(y:Y):(kR kvs k y).length<=kvs.length+1:=by
 unfold kR;split
 ·rw[Ag];omega
 ·rw[Aa];simp
def iu(f:Vs):VG->VG
 |some (.nd e i j)=>some<|.nd e (f i)<|f j
 |k=>k
theorem xD{f g:Vs}:∀{k:VG},(∀e i j,k=some (.nd e i j)->f i=g i/\f j=g j)->iu f k=iu g k
 |none,_=>rfl
 |some (.lf _ _),_=>rfl
 |some (.nd e i j),h=>by obtain⟨a,b⟩:=h e i j rfl;show some (Kn.nd e (f i)<|f j)=some (Kn.nd e (g i)<|g j);rw[a,b]
structure uy(ks:List<|VG)(ps:Vl)(f:Vs)(wd:List<|VG):Prop where
 at_:∀p∈ps,∀k,ks[p]?=some k->wd[f p]?=some (iu f k)
 inj:∀p∈ps,∀q∈ps,f p=f q->p=q
 only:∀x k,wd[x]?=some (some k)->∃p∈ps,x=f p
 ok:nX wd
theorem uy.nil(ks:List<|VG)(f:Vs):uy ks [] f []:=⟨λp I=>(Cf I).elim,λp I=>(Cf I).elim,λx k h=>(by simp at h),λp e i j h=>(by simp at h)⟩
theorem nX.gap(h:nX wd):nX (wd++[none]):=by
 intro p e i j I;by_cases c:p<wd.length
 ·rw[AI c] at I;exact h p e i j I
 ·rw[Ax (by exact yr)] at I;cases J:p-wd.length with|zero=>rw[J] at I;cases I|succ m=>rw[J] at I;cases I
theorem uy.gap{ks:List<|VG}{ps:Vl}{f:Vs}(h:uy ks ps f wd):uy ks ps f (wd++[none]):=by
 refine⟨λp U k g=>jI<|h.at_ p U k g,h.inj,λx k I=>?_,h.ok.gap⟩;by_cases c:x<wd.length
 ·rw[AI c] at I;exact h.only x k I
 ·rw[Ax (by lia)] at I;cases J:x-wd.length with|zero=>rw[J] at I;cases I|succ m=>rw[J] at I;cases I
theorem uy.lt{ks:List<|VG}{ps:Vl}{f:Vs}(h:uy ks ps f wd)(hp:p∈ps)(I:p<ks.length):f p<wd.length:=zb<|h.at_ p hp _<|Ai I
theorem uy.step{ks:List<|VG}{ps:Vl}{f:Vs}(h:uy ks ps f wd)(r:∀p∈ps,p<ks.length){k:VG}(hp:p∉ps)(C:ks[p]?=some k)(o:∀x∈ps,∀e i j,ks[x]?=some (some<|.nd e i j)->i∈ps/\j∈ps)(J:∀e i j,k=some (.nd e i j)->i∈ps/\j∈ps):
 uy ks (ps++[p]) (λx=>if x=p then wd.length else f x) (wd++[iu f k]):=by
 have old:∀x∈ps,(if x=p then wd.length else f x)=f x:=λx I=>Az λ(c:x=p)=>hp<|c▸I;have ren:∀l,(∀e i j,l=some (.nd e i j)->i∈ps/\j∈ps)->iu (λx=>if x=p then wd.length else f x) l=iu f l:=λl U=>xD λe i j z=>by obtain⟨a,b⟩:=U e i j z;exact⟨old i a,old j b⟩
 refine⟨λx I l U=>?_,λx I y g e=>?_,λx l I=>?_,λx e i j I=>?_⟩
 ·rcases Aj.mp I with I|I
  ·show(wd++[iu f k])[if x=p then wd.length else f x]?=_;rw[old x I,ren l λe i j z=>o x I e i j (by rw[U,z])];exact jI<|h.at_ x I l U
  ·have I:=Ak.mp I;subst I;rw[C] at U;cases U;show(wd++[iu f k])[if x=x then wd.length else f x]?=_;rw[AA rfl,ren k J];exact eO wd _ []
 ·have e:(if x=p then wd.length else f x)=if y=p then wd.length else f y:=e
  rcases Aj.mp I with I|I<;>rcases Aj.mp g with g|g
  ·rw[old x I,old y g] at e;exact h.inj x I y g e
  ·cases Ak.mp g;rw[old x I,AA rfl] at e;have:=h.lt I<|r x I;lia
  ·cases Ak.mp I;rw[old y g,AA rfl] at e;have:=h.lt g<|r y g;lia
  ·rw[Ak.mp I,Ak.mp g]
 ·by_cases c:x<wd.length
  ·rw[AI c] at I;obtain⟨q,t,e⟩:=h.only x l I;exact⟨q,Ap _ t,by rw[e];exact(old q t).symm⟩
  ·refine⟨p,Ah _<|Ak.mpr rfl,?_⟩;have:=zb I;rw[Aa] at this;have:x<wd.length+1:=this;show x=if p=p then wd.length else f p
   rw[AA rfl];lia
 ·by_cases c:x<wd.length
  ·rw[AI c] at I;exact h.ok x e i j I
  ·have:=zb I;rw[Aa] at this;have:x<wd.length+1:=this;have:x=wd.length:=by lia
   subst this;rw[Ax<|Al _,DC] at I;have I:iu f k=some (.nd e i j):=AS I;cases k with
   |none=>cases I
   |some k=>
    cases k with
    |lf=>cases I
    |nd T i' j'=>
     obtain⟨a,b⟩:=J T i' j' rfl;cases I;exact⟨h.lt a<|r _ a,h.lt b<|r _ b⟩
theorem mn{ks:List<|VG}(ok:nX ks)(pm:qs.Perm<|List.range ks.length)(U:dO ks qs)(hp:qs[n]?=some p){e:Bool}(h:ks[p]?=some (some<|.nd e i j)):i∈qs.take n/\j∈qs.take n:=by
 obtain⟨C,T⟩:=ok p e i j h;have hl:=zb h;have o:=zb hp;have ind:∀x,x<ks.length->x≠p->(∀y∈qs.drop (n+1),y≠x)->x∈qs.take n:=λx t ne g=>by
  have I:x∈qs:=pm.mem_iff.mpr<|AX.mpr t;have l:qs=qs.take n++p::qs.drop (n+1):=by rw[Ai o] at hp;rw[<-AS hp,CF,Be]
  rw[l] at I;rcases Aj.mp I with I|I
  ·exact I
  ·rcases Aq.mp I with I|I
   ·exact absurd I ne
   ·exact absurd rfl<|g x I
 have r:∀y∈qs.drop (n+1),y≠i/\y≠j:=λy J=>by
  have l:qs=qs.take n++p::qs.drop (n+1):=by rw[Ai o] at hp;rw[<-AS hp,CF,Be]
  unfold dO at U;rw[l] at U;have:=(AU.mp U).2.1;exact(List.pairwise_cons.mp this).1 y J e i j h
 exact⟨ind i (by exact rQ) (by exact Hw) λy J=>(r y J).1,ind j (by exact rQ) (by exact Hw) λy J=>(r y J).2⟩
def ie(p q:Vt):Prop:=p.1<q.1\/(p.1=q.1/\p.2<=q.2)
def tF(p:Vt):Int×Int:=((p.1:Int),(p.2:Int))
theorem Si{p q:Vt}(h:tF p=tF q):p=q:=by obtain⟨a,b⟩:=p;obtain⟨c,d⟩:=q;have I:(a:Int)=c:=BO Prod.fst h;have J:(b:Int)=d:=BO Prod.snd h;rw[Cd.mp I,Cd.mp J]
theorem tj(ps:Vh):qm ps=(ps.map tF).map E8:=by rw[Co];rfl
theorem Gh{a:Addr}{ps:Vh}{Q:YK}(U:L a=some (.lst<|qm ps))(g:∀p∈ps,p.2<1000000)(nd:ps.Nodup)(j:ps.length<=127)
 (q:∀D qs,L D=none->qs.Perm ps->qs.Pairwise ie->Q (.ref D) (qe L D<|.lst<|qm qs)):dE [.ref a] L Q:=by
 refine qo U ⟨ps.map tF,tj ps,λp l=>?_,?_,by rw[Ag];exact j,λD qs o pm t=>?_⟩
 ·obtain⟨r,C,rfl⟩:=Bx.mp l;have:=g r C;exact⟨AN _,by show((r.2:Nat):Int)<1000000;omega⟩
 ·exact uX (λx _ y _ e=>Si e) nd
 ·obtain⟨T,pT,rfl⟩:=oh tF pm rfl;rw[<-tj];refine q D T o pT<|(Cn.mp t).imp λ{x y} z=>?_;unfold ie;rcases z with z|⟨I,J⟩
  ·left;have z:((x.1:Nat):Int)<y.1:=z;lia
  ·right;have I:((x.1:Nat):Int)=y.1:=I;have J:((x.2:Nat):Int)<=y.2:=J;exact⟨by lia,by lia⟩
structure pZ(L0:qp)(ks:List<|VG)(qs:Vl)(d w D:Addr)(i ex:Nat)(f:Vs)(wd:List<|VG)(kvs:List<|jb×Y)(L:qp):Prop where
 sub:qd L0 L
 hd:L d=some (.dct kvs)
 hw:L w=some (.lst<|jo wd)
 hD:L D=some (.lst<|nY qs)
 len:kvs.length<=i
 val:∀p:Nat,kj kvs (.inl (p:Int))=if p∈qs.take i then some (.int (f p:Int)) else none
 gap:uy ks (qs.take i) f wd
 wlen:wd.length<=2*i+ex
def Jh(f:Vs)(p:Vt):Vt:=(min (f p.1)<|f p.2,max (f p.1)<|f p.2)
def Ji(f:Vs)(p:Vt):Vt:=(f p.1,f p.2)
structure uk(f:Vs)(ks wd:List<|VG):Prop where
 gap:uy ks (List.range ks.length) f wd
 len:wd.length<=2*ks.length+1
theorem tG(wd:List<|VG)(k:VG):jo wd++[w5 k]=jo (wd++[k]):=by unfold jo;rw[AD];rfl
theorem v3(wd:List<|VG):(jo wd).length=wd.length:=Ag ..
theorem pZ.wide{ks:List<|VG}{w D:Addr}{ex ex':Nat}{f:Vs}{wd':List<|VG}(G:pZ L0 ks qs d w D i ex f wd kvs L)(U:L0 w=none)(I:d≠w)(J:w≠D)(g:uy ks (qs.take i) f wd')(h:wd'.length<=2*i+ex'):
 pZ L0 ks qs d w D i ex' f wd' kvs (qe L w<|.lst<|jo wd'):=
 ⟨G.sub.upd U,(qc I).trans G.hd,q9,(qc<|A4 J).trans G.hD,G.len,G.val,g,h⟩
def zc:Ru->Vi
 |.link p q=>[(p,q)]
 |.ei _ A=>zc A
 |.bo _ A B=>zc A++zc B
 |.cu _ _ A B=>zc A++zc B
def zg:Ru->Vi
 |.link _ _=>[]
 |.ei _ A=>zg A
 |.bo _ A B=>zg A++zg B
 |.cu p q A B=>(p,q)::(zg A++zg B)
def iY:Ru->Nat
 |.link _ _=>1
 |.ei _ A=>iY A+1
 |.bo _ A B=>iY A+iY B+1
 |.cu _ _ A B=>iY A+iY B+1
def aI:Ru->List Ru
 |.link _ _=>[]
 |.ei _ A=>[A]
 |.bo _ A B=>[A,B]
 |.cu _ _ A B=>[A,B]
def tw:Ru->Vi
 |.link p q=>[(p,q)]
 |_=>[]
def xO:Ru->Vi
 |.cu p q _ _=>[(p,q)]
 |_=>[]
theorem ur(A:Ru):zc A=tw A++(aI A).flatMap zc:=by cases A<;>simp[zc,tw,aI]
theorem Sj(A:Ru):zg A=xO A++(aI A).flatMap zg:=by cases A<;>simp[zg,xO,aI]
theorem Sk(A:Ru):((aI A).map iY).sum+1=iY A:=by cases A<;>simp[iY,aI]
theorem pJ{A B:Ru}(h:B∈aI A):vo B<vo A:=by cases A<;>simp[aI] at h<;>(try rcases h with rfl|rfl)<;>(try subst h)<;>simp[vo]<;>omega
theorem cf(l:Vh)(p:Vt):qm l++[n_ p]=qm (l++[p]):=by unfold qm;rw[AD];rfl
open Classical in
theorem Sl(n:Nat):kU (λ_=>0) (List.range n):=λi h e=>by
 have I:i<n:=by have:=zb e;rwa[A6] at this
 rw[B6 I] at e;cases e;exact⟨by rw[A6];exact I,λz=>absurd rfl z⟩
def zj(lk:Vh):Vl:=lk.flatMap λx=>[x.1,x.2]
theorem js(a b:Vh):zj (a++b)=zj a++zj b:=by unfold zj;rw[A1]
theorem bR(x:Vt):zj [x]=[x.1,x.2]:=by simp[zj]
theorem a6(lk:Vh):(zj lk).length=2*lk.length:=by
 induction lk with
 |nil=>rfl
 |cons x r I=>
  have:=js [x] r;rw[CK] at this;rw[this,Aa,I,bR,AK];simp;exact Nat.add_comm _ _
def sF:zd:=λys L Q=>∃a,∃lk:Vi,ys=[.ref a]/\L a=some (.lst<|qm lk)/\lk.length<=1000/\∀p,L p=none->Q (.ref p) (qe L p<|.lst<|nY<|zj lk)
theorem Sm:∀ys L Q,sF ys L Q->x4 se 4 ys L Q:=by
 rintro ys L Q ⟨a,lk,rfl,g,t,q⟩;intro p j;have I:a≠p:=aS g j;refine ax (ys:=qm lk) (jv<|(qc I).trans g) (λi J U=>∃c2 c3,J=[some<|.ref a,some<|.ref p,c2,c3]/\U=qe L p (.lst<|nY<|zj<|lk.take i)) ⟨_,_,rfl,rfl⟩ ?_ ?_ ?_
 ·rintro i J U ⟨c2,c3,rfl,rfl⟩;rw[qc I,qc I]
 ·rintro i y J U l ⟨c2,c3,rfl,rfl⟩;rw[Am] at l;obtain⟨x,ex,rfl⟩:=Ar.mp l;have o:lk.take (i+1)=lk.take i++[x]:=by rw[A3,ex];rfl
  have r:(nY<|zj<|lk.take i).length<=2000:=by rw[zv,a6,AM];lia
  refine qb q9<|qo q9 ⟨Bp r (by decide),?_⟩;refine qb q9 (qo q9 ⟨Bp (by rw[Aa,BL];exact Fi:_<=2001) (by decide),_,EF _,_,_,rfl,?_⟩);rw[zh,zh,o,js,bR,we,Ay];rfl
 ·rintro J U ⟨c2,c3,rfl,rfl⟩;rw[Ag,AW];exact xh<|q p j
theorem xH{f:VG->Bool}{ks:List<|VG}{k:VG}(h:ks[p]?=some k)(I:f k=true)(hi:p<i):p∈gy f ks i:=by unfold gy;refine AJ.mpr ⟨AX.mpr hi,?_⟩;simp only[h];exact I
theorem qR(m:Nat)(l:Vl):sH (di<|.int (m:Int)) ((nY l).map di)=decide (m∈l):=by
 induction l with
 |nil=>rfl
 |cons n r I=>
  have e:sH (di<|.int (m:Int)) ((nY<|n::r).map di)=(kM (di<|.int (n:Int)) (di<|.int (m:Int))||sH (di<|.int (m:Int)) ((nY r).map di)):=rfl;rw[e,I];have J:kM (di<|.int (n:Int)) (di<|.int (m:Int))=decide (n=m):=fV n m;rw[J];by_cases c:n=m
  ·subst c;simp
  ·by_cases d:m∈r
   ·simp[d]
   ·simp[c,d,A4 c]
theorem sE(l:Vl):(nY l).all gJ=true:=by rw[CU];intro y I;obtain⟨n,_,rfl⟩:=Bx.mp I;rfl
theorem bO{c:Vt}(h:c∈ct):c.1∈zj ct/\c.2∈zj ct:=by
 induction ct with
 |nil=>cases h
 |cons d r I=>
  have e:zj (d::r)=[d.1,d.2]++zj r:=by rw[<-bR,<-js];rfl
  rw[e];rcases Aq.mp h with rfl|h
  ·simp
  ·obtain⟨a,b⟩:=I h;exact⟨Ah _ a,Ah _ b⟩
theorem nJ{x:Nat}(h:x∈zj ct):∃c∈ct,x=c.1\/x=c.2:=by
 induction ct with
 |nil=>cases h
 |cons d r I=>
  have e:zj (d::r)=[d.1,d.2]++zj r:=by rw[<-bR,<-js];rfl
  rw[e] at h;rcases Aj.mp h with h|h
  ·exact⟨d,Ao ..,by simpa using h⟩
  ·obtain⟨c,J,U⟩:=I h;exact⟨c,Ae _ J,U⟩
def Fa(x:Vt):Da:=.tup [.s<|.int (x.1:Int),.s<|.int (x.2:Int)]
theorem Sn(x y:Vt):Da.eq (Fa x) (Fa y)=decide (x=y):=by show(decide ((x.1:Int)=(y.1:Int))&&(decide ((x.2:Int)=(y.2:Int))&&true))=_;rw[DV,<-Bool.decide_and];exact decide_eq_decide.mpr ⟨λ ψ=>(by obtain⟨I,J⟩:=ψ;exact Prod.ext (Cd.mp I)<|Cd.mp J),λh=>by subst h;exact⟨rfl,rfl⟩⟩
theorem Jj(x:Vt):jz L 1 (n_ x) (Fa x):=eL<|.cons (ET _)<|.cons (ET _) .nil
structure So(ks:VF)(lk:Vh):Prop where
 nd:(zj lk).Nodup
 lt:∀p∈lk,p.1<p.2
 at_:∀p∈lk,∃t n,ks[p.1]?=some (.lf t n)/\ks[p.2]?=some (.lf (!t) n)
theorem jf(c:Vt)(r:Vh):zj (c::r)=c.1::c.2::zj r:=by
 have e:zj (c::r)=[c.1,c.2]++zj r:=by rw[<-bR,<-js];rfl
 rw[e];rfl
theorem cS{l m:Vh}(h:l.Perm m):(zj l).Perm (zj m):=by
 induction h with
 |nil=>exact .nil
 |cons x _ I=>rw[jf,jf];exact(I.cons _).cons _
 |swap x y l=>
  rw[jf,jf,jf,jf];exact(Bw (l₁:=[y.1,y.2]) (l₂:=[x.1,x.2])).append_right (zj l)
 |trans _ _ J U=>exact J.trans U
theorem vk:∀{l:Vh},(zj l).Nodup->l.Nodup
 |[],_=>Di
 |c::r,h=>by rw[jf] at h;have I:=AH.mp h;have J:=AH.mp I.2;exact AH.mpr ⟨λU=>I.1<|Ae _ (bO U).1,vk J.2⟩
theorem Sq{l:Vh}(nd:l.Nodup){x y:Vt}(I:x∈l)(J:y∈l)(ne:x≠y):l.Perm (x::y::l.filter λz=>decide (z≠x)&&decide (z≠y)):=by
 refine(Bm nd ?_).mpr λz=>?_
 ·refine AH.mpr ⟨λh=>?_,AH.mpr ⟨λh=>?_,nd.filter _⟩⟩
  ·rcases Aq.mp h with h|h
   ·exact ne h
   ·simp at h
  ·simp at h
 ·by_cases c1:z=x
  ·subst c1;simp[I]
  ·by_cases c2:z=y
   ·subst c2;simp[J]
   ·simp[c1,c2]
def lC(a b:Nat):Vt:=(min a b,max a b)
theorem yd(a b:Nat)(r:Vl):(min a b::max a b::r).Perm (a::b::r):=by
 by_cases c:a<=b
 ·rw[BW c,Cy c]
 ·rw[Cv (by lia),CG (by lia)];exact List.Perm.swap ..
theorem l7{l:Vh}{x:Vt}(h:l[i]?=some x):(qm l)[i]?=some (n_ x):=by rw[Am,h];rfl
theorem cg:∀R:Ru,iY R+1<=(z8 R).length
 |.link _ _=>Al _
 |.ei r A=>by have:=cg A;show iY A+1+1<=(r::z8 A).length;rw[AK];exact Fi
 |.bo r A B=>by have:=cg A;have:=cg B;show iY A+iY B+1+1<=(r::(z8 A++z8 B)).length;rw[AK,Aa];lia
 |.cu _ _ A B=>by have:=cg A;have:=cg B;show iY A+iY B+1+1<=(z8 A++z8 B).length;rw[Aa];lia
theorem aT:∀R:Ru,∃rest,(zj (zc R)++rest).Perm<|z8 R
 |.link p q=>⟨[],.refl _⟩
 |.ei r A=>by obtain⟨u,h⟩:=aT A;exact⟨r::u,Ce.trans<|h.cons r⟩
 |.bo r A B=>by obtain⟨u,h⟩:=aT A;obtain⟨v,k⟩:=aT B;refine⟨r::(u++v),?_⟩;show(zj (zc A++zc B)++r::(u++v)).Perm (r::(z8 A++z8 B));rw[js];refine Ce.trans<|List.Perm.cons r ?_;refine List.Perm.trans ?_<|h.append k;rw[Ay,Ay];refine List.Perm.append_left _ ?_;rw[<-Ay,<-Ay];exact List.Perm.append_right _ Bw
 |.cu p q A B=>by obtain⟨u,h⟩:=aT A;obtain⟨v,k⟩:=aT B;refine⟨u++v,?_⟩;show(zj (zc A++zc B)++(u++v)).Perm (z8 A++z8 B);rw[js];refine List.Perm.trans ?_<|h.append k;rw[Ay,Ay];refine List.Perm.append_left _ ?_;rw[<-Ay,<-Ay];exact List.Perm.append_right _ Bw
theorem SR.links{E:Vl}(h:SR ks R E):∀p∈zc R,p.1<p.2/\∃t n,ks[p.1]?=some (.lf t n)/\ks[p.2]?=some (.lf (!t) n):=by induction h with|@link p q t n E g j l r C=>intro x U;rw[Ak.mp U];exact⟨g,t,n,j,l⟩|ei _ _ _ _ _ _ _ o=>exact o|bo _ _ _ _ _ _ _ I J=>intro x U;exact(Aj.mp U).elim (I x) (J x)|cu _ _ _ _ _ _ _ _ I J=>intro x U;exact(Aj.mp U).elim (I x) (J x)
theorem SR.lkI{E:Vl}(h:SR ks R E)(nd:(z8 R).Nodup):So ks (zc R):=by obtain⟨u,J⟩:=aT R;exact⟨(AB.mp<|J.nodup_iff.mpr nd).1,λp I=>(h.links p I).1,λp I=>(h.links p I).2⟩
theorem SR.cuts{E:Vl}(h:SR ks R E):(z8 R).Nodup->(zj<|zg R).Nodup/\(∀x∈zj (zg R),x∉E/\x∈z8 R):=by
 induction h with
 |link _ _ _ _ _=>exactλ_=>⟨Di,λx I=>by cases I⟩
 |@ei r i j A EA E h1 h2 t h4 h5 C h7 ih=>
  intro nd;obtain⟨n1,n2⟩:=AH.mp<|show(r::z8 A).Nodup from nd;obtain⟨a,b⟩:=ih n2;refine⟨a,λx I=>⟨λJ=>?_,Ae _ (b x I).2⟩⟩;rcases (C x).mp J with⟨z,_⟩|rfl
  ·exact(b x I).1 z
  ·exact n1 (b x I).2
 |@bo r i j A B EA EB E h1 h2 t h4 h5 C h7 l o=>
  intro nd;obtain⟨n1,n2⟩:=AH.mp<|show(r::(z8 A++z8 B)).Nodup from nd;obtain⟨m1,m2,U⟩:=AB.mp n2;obtain⟨a1,b1⟩:=l m1;obtain⟨a2,b2⟩:=o m2;have sA:=h2.sub;have T:=t.sub;show(zj<|zg A++zg B).Nodup/\∀x∈zj (zg A++zg B),x∉E/\x∈r::(z8 A++z8 B);rw[js];refine⟨AB.mpr ⟨a1,a2,λx I y hy=>U x (b1 x I).2 y (b2 y hy).2⟩,λx I=>?_⟩;rcases Aj.mp I with I|I
  ·refine⟨λJ=>?_,Ae _<|Ap _ (b1 x I).2⟩;rcases (C x).mp J with⟨z,_⟩|⟨z,_⟩|rfl
   ·exact(b1 x I).1 z
   ·exact U x (b1 x I).2 x (T x z) rfl
   ·exact n1<|Ap _ (b1 _ I).2
  ·refine⟨λJ=>?_,Ae _<|Ah _ (b2 x I).2⟩;rcases (C x).mp J with⟨z,_⟩|⟨z,_⟩|rfl
   ·exact U x (sA x z) x (b2 x I).2 rfl
   ·exact(b2 x I).1 z
   ·exact n1<|Ah _ (b2 _ I).2
 |@cu p q A B EA EB E w h1 h2 t h4 h5 C h7 h8 l o=>
  intro nd;obtain⟨m1,m2,U⟩:=AB.mp<|show(z8 A++z8 B).Nodup from nd;obtain⟨a1,b1⟩:=l m1;obtain⟨a2,b2⟩:=o m2;have sA:=h1.sub;have T:=h2.sub;show(zj<|(p,q)::(zg A++zg B)).Nodup/\∀x∈zj ((p,q)::(zg A++zg B)),x∉E/\x∈z8 A++z8 B;rw[jf,js];have tp:=sA p t;have tq:=T q h4;have a3:p≠q:=λe=>U p tp q tq e;have a0:∀x,x∈zj (zg A)++zj (zg B)->x≠p/\x≠q:=λx I=>by
   rcases Aj.mp I with I|I
   ·exact⟨λe=>(b1 x I).1<|e▸t,λe=>U x (b1 x I).2 q tq e⟩
   ·exact⟨λe=>U p tp x (b2 x I).2 e.symm,λe=>(b2 x I).1<|e▸h4⟩
  refine⟨AH.mpr ⟨λh=>?_,AH.mpr ⟨λh=>(a0 q h).2 rfl,AB.mpr ⟨a1,a2,λx I y hy=>U x (b1 x I).2 y (b2 y hy).2⟩⟩⟩,λx I=>?_⟩
  ·rcases Aq.mp h with h|h
   ·exact a3 h
   ·exact(a0 p h).1 rfl
  ·have g:x∈E->(x∈EA/\x≠p)\/(x∈EB/\x≠q):=(h7 x).mp;rcases Aq.mp I with rfl|I
   ·exact⟨λJ=>(g J).elim (λz=>z.2 rfl) λz=>U x tp x (T x z.1) rfl,Ap _ tp⟩
   ·rcases Aq.mp I with rfl|I
    ·exact⟨λJ=>(g J).elim (λz=>U x (sA x z.1) x tq rfl) λz=>z.2 rfl,Ah _ tq⟩
    ·rcases Aj.mp I with I|I
     ·exact⟨λJ=>(g J).elim (λz=>(b1 x I).1 z.1) λz=>U x (b1 x I).2 x (T x z.1) rfl,Ap _ (b1 x I).2⟩
     ·exact⟨λJ=>(g J).elim (λz=>U x (sA x z.1) x (b2 x I).2 rfl) λz=>(b2 x I).1 z.1,Ah _ (b2 x I).2⟩
theorem gx(ok:dk ks):nX (ks.map some):=by intro p e i j h;rw[Am] at h;obtain⟨k,I,J⟩:=Ar.mp h;cases J;exact ok p _ I
theorem iR(ks:VF):jo (ks.map some)=x5 ks:=by show(ks.map some).map w5=ks.map rM;rw[Co];rfl
theorem KW.lf{n:Str}(h:wd[p]?=some (some<|.lf t n)):KW (jo wd) p (.leaf t n):=by show(jo wd)[p]?=_;rw[Am,h];rfl
theorem KW.nd{e:Bool}{l r:Wd}(h:wd[p]?=some (some<|.nd e i j))(I:KW (jo wd) i l)(J:KW (jo wd) j r):KW (jo wd) p (.node e l r):=
 ⟨i,j,by rw[Am,h];rfl,I,J⟩
theorem Sr{k:Kn}{n:Str}(h:rM k=.tup [.str<|kL t,.str n]):k=.lf t n:=by
 cases k with
 |lf u m=>
  have I:kL u=kL t:=by injection h with h;injection h with h _;injection h
  have J:m=n:=by injection h with h;injection h with _ h;injection h with h _;injection h
  subst J;cases u<;>cases t<;>first|rfl|(exfalso;revert I;decide)
 |nd e i j=>injection h with h;injection h with _ h;injection h with _ h;cases h
theorem zW{k:Kn}{e:Bool}(h:rM k=.tup [.str<|kN e,.int (i:Int),.int (j:Int)]):k=.nd e i j:=by
 cases k with
 |lf u m=>injection h with h;injection h with _ h;injection h with _ h;cases h
 |nd b U g=>
  have l:kN b=kN e:=by injection h with h;injection h with h _;injection h
  have I:((U:Nat):Int)=i:=by injection h with h;injection h with _ h;injection h with h _;injection h
  have J:((g:Nat):Int)=j:=by injection h with h;injection h with _ h;injection h with _ h;injection h with h _;injection h
  have I:=Cd.mp I;have J:=Cd.mp J;subst I J;cases b<;>cases e<;>first|rfl|(exfalso;revert l;decide)
theorem Jk(h:(jo wd)[p]?=some y):∃o,wd[p]?=some o/\w5 o=y:=by rw[Am] at h;obtain⟨o,a,b⟩:=Ar.mp h;exact⟨o,a,b⟩
theorem KW.inv_lf{n:Str}(h:KW (jo wd) p<|.leaf t n):wd[p]?=some (some<|.lf t n):=by
 obtain⟨o,a,b⟩:=Jk<|show(jo wd)[p]?=some (.tup [.str<|kL t,.str n]) from h;cases o with
 |none=>cases b
 |some k=>rw[a,Sr b]
theorem KW.inv_nd{e:Bool}{l r:Wd}(h:KW (jo wd) p<|.node e l r):∃i j,wd[p]?=some (some<|.nd e i j)/\KW (jo wd) i l/\KW (jo wd) j r:=by
 obtain⟨i,j,I,J,U⟩:=h;obtain⟨o,a,b⟩:=Jk I;cases o with
 |none=>cases b
 |some k=>exact⟨i,j,by rw[a,zW b],J,U⟩
theorem KW.dep{wd:List<|VG}(ok:nX wd):∀{w:Wd} {p:Nat},KW (jo wd) p w->w.depth<=p+1
 |.leaf t n,p,_=>by show 1<=p+1;exact BV _
 |.node e l r,p,h=>by obtain⟨i,j,a,I,J⟩:=h.inv_nd;have:=ok p e i j a;have:=KW.dep ok I;have:=KW.dep ok J;show max l.depth r.depth+1<=p+1;lia
def yX(wd:List<|VG):Prop:=∀(p:Nat) (e:Bool) (i j:Nat),wd[p]?=some (some<|.nd e i j)->(∃k,wd[i]?=some (some k))/\∃k,wd[j]?=some (some k)
theorem vE(ok:dk ks):yX (ks.map some):=by
 intro p e i j h;have lt:=gx ok p e i j h;have J:=zb h;rw[Ag] at J;have I:∀x,x<ks.length->∃k,(ks.map some)[x]?=some (some k):=λx U=>⟨ks[x],by rw[Am,Ai U];rfl⟩
 exact⟨I i (by omega),I j (by lia)⟩
theorem uk.inv{f:Vs}(r:uk f fx wd){x:Nat}{k:Kn}(h:wd[x]?=some (some k)):∃p,p<fx.length/\x=f p/\∃o,fx[p]?=some o/\iu f o=some k:=by obtain⟨p,I,e⟩:=r.gap.only x k h;have I:=AX.mp I;have:=r.gap.at_ p (AX.mpr I) _<|Ai I;rw[<-e,h] at this;exact⟨p,I,e,_,Ai I,(AS this).symm⟩
theorem uk.there{f:Vs}(r:uk f fx wd)(th:yX fx):yX wd:=by
 intro x e i j h;obtain⟨p,hp,rfl,o,g,I⟩:=r.inv h;cases o with
 |none=>cases I
 |some k=>
  cases k with
  |lf t n=>cases I
  |nd b a c=>
   cases I;obtain⟨⟨l,C⟩,T,e2⟩:=th p e a c g;have J:∀y k,fx[y]?=some (some k)->∃k',wd[f y]?=some (some k'):=λy k U=>by have:=r.gap.at_ y (AX.mpr<|zb U) _ U;cases k with|lf t n=>exact⟨_,this⟩|nd b a c=>exact⟨_,this⟩
   exact⟨J a l C,J c T e2⟩
theorem uk.word{f:Vs}(r:uk f fx wd):∀{w:Wd} {p:Nat},KW (jo fx) p w->KW (jo wd) (f p) w
 |.leaf t n,p,h=>by have e:=h.inv_lf;exact KW.lf<|r.gap.at_ p (AX.mpr<|zb e) _ e
 |.node b l rr,p,h=>by obtain⟨i,j,e,I,J⟩:=h.inv_nd;exact KW.nd (r.gap.at_ p (AX.mpr<|zb e) _ e) (r.word I)<|r.word J
theorem SR.cutw{E:Vl}(h:SR ks R E):∀c∈zg R,∃w,cr ks c.1 w/\cr ks c.2 w.turn:=by
 induction h with
 |link _ _ _ _ _=>intro c g;cases g
 |ei _ _ _ _ _ _ _ j=>exact j
 |bo _ _ _ _ _ _ _ I J=>intro x U;exact(Aj.mp U).elim (I x) (J x)
 |@cu p q A B r t E w C T h3 h4 l o h7 h8 I J=>
  intro x U;rcases Aq.mp U with rfl|U
  ·exact⟨w,l,o⟩
  ·exact(Aj.mp U).elim (I x) (J x)
noncomputable def mL(I:zd):RD "parts_in" gb 2 ["knots","parts","knot"] (λV=>Ga V I):=⟨_,λV B c _ _ _ _ _ _ _ J hN U=>(qa (S_ 1 hN<|zu vd)<|qa (xg u1 rfl (jp<|qv 0) (G_ 2 hN)<|qg<|za<|ou (qv 1)<|jt<|C_ c J<|jt<|qv 2)<|qg<|qx<|qv 1)⟩
noncomputable def wT(I:zd):k8:=(mL I).1
noncomputable def oj(J:zd)(I:zd):RD "ends_of" ig 3 ["web","knots","used"] (λV=>Iy V J/\Iz V I):=⟨_,λV B c _ _ _ _ _ _ _ U hN g=>(qa (S_ 1 hN<|J_ 0)<|qa (wy (i:=2) hN rfl (Or.inr rfl)<|qk zw (C_ c.1 U<|jt<|qv 1)<|C_ c.2 U<|jt<|J_ 0)<|qg<|qx<|fF ["place","knot" ] (EL (by rfl)) rfl (fg rfl B.bf<|qv 1) (IY 3) (λ_ _ _ _=>wc<|bV<|wf (aX<|qv 4)<|wg<|jy (nR _ _ _) (qv 3) (qv 2) (by with_unfolding_all rfl)) λ_ _ _ _=>(qv 3))⟩
noncomputable def Ss(J:zd)(I:zd):k8:=(oj J I).1
noncomputable def jU:RD "_law_copy" ef 0 ["_law_web_here"] (λ_=>True):=⟨_,λV B c _ _ _ _ _ _ _ I hN J=>(qg<|qx<|zk<|cA (fJ hJ rfl B.be dI<|jt<|J_ 0) (fJ hJ rfl B.be dI<|jt<|J_ 0)<|fJ hJ rfl B.be dI<|jt<|J_ 0)⟩
noncomputable def uQ:k8:=(jU).1
def x8(wd:List<|VG):Vl:=wd.flatMap j6
theorem mE(wd:List<|VG)(k:VG):x8 (wd++[k])=x8 wd++j6 k:=by unfold x8;rw[A1,Bj,CA,Aw]
theorem m7(k:VG):(j6 k).length<=2:=by cases k with|none=>exact A8 _|some k=>cases k with|lf t n=>exact A8 _|nd e i j=>exact Al _
theorem fU(wd:List<|VG):(x8 wd).length<=2*wd.length:=by
 induction wd with
 |nil=>exact Al _
 |cons k r I=>
  have e:x8 (k::r)=j6 k++x8 r:=Bj ..;have:=m7 k;rw[e,Aa,AK];lia
def qW:zd:=λys L Q=>∃a,∃wd:List (VG),ys=[.ref a]/\L a=some (.lst<|jo wd)/\wd.length<=1000/\∀p,L p=none->Q (.ref p) (qe L p<|.lst<|nY<|x8 wd)
theorem Su:∀ys L Q,qW ys L Q->x4 (wT hZ) 3 ys L Q:=by
 rintro ys L Q ⟨a,J,rfl,j,hz,q⟩;have big:=a_;intro p l;have r:qd L (qe L p<|.lst []):=By l;refine x9 (r _ _ j) λkeep T=>ku ⟨λi U I=>∃c2,U=[some<|Y.ref a,some<|Y.ref p,c2]/\qd L I/\I p=some (.lst<|nY<|x8<|J.take i),⟨_,rfl,r,q9⟩,?_,?_,?_⟩
 ·rintro i U I ⟨c2,rfl,s,_⟩;exact T I (by rw[s _ _ j,r _ _ j])
 ·rintro i y U I t ⟨c2,rfl,s,g⟩;rw[Am] at t;obtain⟨k,ek,rfl⟩:=Ar.mp t;have et:J.take (i+1)=J.take i++[k]:=by rw[A3,ek];rfl
  have pl:=fU<|J.take i;have pk:=m7 k;rw[AM] at pl;refine qb g ⟨k,rfl,λd hd=>?_⟩;have n1:p≠d:=aS g hd;refine qo ((qc n1).trans g)<|qo q9 ⟨?_,?_⟩
  ·rw[zv,zv];exact Bf<|big _ (by lia)
  ·refine⟨_,EF _,_,rfl,(s.trans<|By hd).upd l,?_⟩;rw[q9,et,mE,we]
 ·rintro U I ⟨c2,rfl,s,g⟩;rw[Ag,AW] at g;refine⟨qe L p<|.lst<|nY<|x8 J,λb o e=>?_,q p l⟩;by_cases C:b=p
  ·subst C;rw[q9] at e;rw[<-e];exact g
  ·rw[qc C] at e;exact s _ _ e
def fZ(wd:List<|VG)(p:Nat):Bool:=match wd[p]? with
 |some (some _)=>true
 |_=>false
def jP(wd:List<|VG)(us:Vl)(p:Nat):Bool:=fZ wd p&&!(decide<|p∈us)
def wm(wd:List<|VG)(us:Vl)(i:Nat):Vl:=(List.range i).filter<|jP wd us
theorem nW(wd:List<|VG)(us:Vl)(i:Nat):wm wd us (i+1)=wm wd us i++if jP wd us i=true then [i] else []:=by unfold wm;rw[B7,AV];congr 1;rw[B3,Bh]
def ji(wd:List<|VG)(ct:Vh):Vl:=x8 wd++zj ct
def sC:zd:=λys L Q=>∃a l c,∃wd:List (VG),∃ct:Vi,ys=[v9 a l c]/\L a=some (.lst<|jo wd)/\L c=some (.lst<|qm ct)/\wd.length<=1000/\ct.length<=1000/\∀p,L p=none->Q (.ref p) (qe L p<|.lst<|nY<|wm wd (ji wd ct) wd.length)
theorem Sv:∀ys L Q,sC ys L Q->x4 (Ss qW sF) 3 ys L Q:=by
 rintro ys L Q ⟨a,l,c,I,J,rfl,ha,hc,hz,a0,q⟩;have big:=a_;refine⟨a,I,rfl,ha,hz,λr a1=>?_⟩;have s1:qd L (qe L r<|.lst<|nY<|x8 I):=By a1;refine⟨c,J,rfl,s1 _ _ hc,a0,λT C=>?_⟩;have s2:qd L (qe (qe L r<|.lst<|nY<|x8 I) T<|.lst<|nY<|zj J):=s1.trans<|By C;have a2:r≠T:=aS q9 C;have pl:=fU I;have cl:=a6 J;refine⟨_,_,(qc a2).trans q9,q9,?_,λp3 a3=>?_⟩
 ·rw[zv,zv];exact Bf<|big _ (by lia)
 have s3:=s2.trans<|By (o:=.lst<|nY (x8 I)++nY (zj J)) a3;have g3:qe (qe (qe L r<|.lst<|nY<|x8 I) T<|.lst<|nY<|zj J) p3 (.lst<|nY (x8 I)++nY (zj J)) p3=some (.lst<|nY<|ji I J):=by rw[q9];unfold ji;rw[we]
 generalize qe (qe (qe L r<|.lst<|nY<|x8 I) T<|.lst<|nY<|zj J) p3 (.lst<|nY (x8 I)++nY (zj J))=U at s3 g3 ⊢;refine x9 (s3 _ _ ha) λkeep kp=>ag (λi g=>g=nY (wm I (ji I J) i)) (by rw[bE,Ag];exact big _ (by exact w_)) (kp _ rfl) rfl ?_ ?_
 ·rintro i y g ey rfl;obtain⟨z,ez,rfl⟩:=cW ey;rw[Am] at ez;obtain⟨k,ek,rfl⟩:=Ar.mp ez;have no:jP I (ji I J) i=false->cz (λg j=>j=U/\g=nY (wm I (ji I J)<|i+1)) (nY<|wm I (ji I J) i) U:=λh=>⟨U,EF _,rfl,by rw[nW,Az (by rw[h];exact AF),Aw]⟩;have yes:jP I (ji I J) i=true->cz (λg j=>j=U/\g=nY (wm I (ji I J)<|i+1)) (nY (wm I (ji I J) i)++[.int (i:Int)]) U:=λh=>⟨U,EF _,rfl,by rw[nW,AA h,we];rfl⟩;cases k with
  |none=>exact no (by unfold jP fZ;rw[ek];rfl)
  |some k=>
   have key:oE U (.ref p3) λys=>gJ (.int (i:Int))=true/\ys.all gJ=true/\kn (nb true<|sH (di<|.int (i:Int))<|ys.map di) (cz (λg j=>j=U/\g=nY (wm I (ji I J)<|i+1)) (nY (wm I (ji I J) i)++[.int (i:Int)]) U) (cz (λg j=>j=U/\g=nY (wm I (ji I J)<|i+1)) (nY<|wm I (ji I J) i) U):=by
    refine qb g3 ⟨rfl,sE _,?_⟩;rw[qR];by_cases cu:i∈ji I J
    ·exact wn (by rw[AE cu];rfl) (no (by unfold jP fZ;rw[ek,AE cu];rfl))
    ·exact aH (by rw[Av cu];rfl) (yes (by unfold jP fZ;rw[ek,Av cu];rfl))
   cases k with|lf t n=>exact key|nd e i' j'=>exact key
 ·rintro g rfl p hp;rw[bE,Ag];refine⟨qe L p<|.lst<|nY<|wm I (ji I J) I.length,λb o e=>?_,q p<|s3.none hp⟩;by_cases cc:b=p
  ·subst cc;rw[q9] at e ⊢;exact e
  ·rw[qc cc] at e ⊢;exact s3 _ _ e
def rS:zd:=λys L Q=>∃a l c,∃xs zs us:List Y,ys=[v9 a l c]/\L a=some (.lst xs)/\L l=some (.lst zs)/\L c=some (.lst us)/\∀I J c' L',qd L L'->L I=none->L J=none->L c'=none->I≠J->I≠c'->J≠c'->L' I=some (.lst xs)->L' J=some (.lst zs)->L' c'=some (.lst us)->Q (v9 I J c') L'
theorem Sw:∀ys L Q,rS ys L Q->x4 uQ 1 ys L Q:=by rintro ys L Q ⟨a,l,c,xs,zs,us,rfl,ha,hl,hc,q⟩;refine qb ha λj h1=>?_;have p:=By (o:=.lst xs) h1;refine qb (p _ _ hl) λr t=>?_;have C:=p.trans<|By (o:=.lst zs) t;refine qb (C _ _ hc) λT g=>?_;have I:j≠r:=aS q9 t;have J:r≠T:=aS q9 g;have U:j≠T:=aS ((qc I).trans q9) g;exact xh<|q j r T _ (C.trans<|By g) h1 (p.none t) (C.none g) I U J ((qc U).trans<|(qc I).trans q9) ((qc J).trans q9) q9
def oV(ks:VF)(l:Vl):Vl:=l.flatMap λp=>j6 ks[p]?
theorem iN(ks:VF)(a b:Vl):oV ks (a++b)=oV ks a++oV ks b:=by unfold oV;rw[A1]
theorem cU(ks:VF)(x:Nat)(l:Vl):oV ks (x::l)=j6 ks[x]?++oV ks l:=Bj ..
theorem cI{E:Vl}(h:E.Nodup)(hi:i∈E):E.Perm ([i]++E.filter λx=>!decide (x=i)):=by
 refine(Bm h ?_).mpr λx=>?_
 ·refine AH.mpr ⟨λz=>?_,h.filter _⟩;have:=(AJ.mp z).2;simp at this
 ·rw[Aj,Ak,AJ];constructor
  ·intro I;by_cases c:x=i
   ·exact .inl c
   ·exact .inr ⟨I,by simp[c]⟩
  ·rintro(rfl|I)
   ·exact hi
   ·exact I.1
theorem SR.part{E:Vl}(h:SR ks R E):(z8 R).Nodup->(oV ks (z8 R)++(zj (zg R)++E)).Perm (z8 R):=by
 induction h with
 |@link p q t n U h1 h2 h3 o C=>
  intro _;have e:oV ks [p,q]=[]:=by rw[cU,cU,h2,h3];rfl
  show(oV ks [p,q]++([]++U)).Perm [p,q];rw[e,Cb,Cb];refine(Bm C (by simp;lia)).mpr λx=>?_;rw[o x];simp
 |@ei r i j A g U h1 T h3 o C h6 h7 ih=>
  intro nd;obtain⟨n1,n2⟩:=AH.mp nd;have ih:=ih n2;have l:g.Nodup:=(AB.mp (AB.mp<|ih.nodup_iff.mpr n2).2.1).2.1;have p1:=cI l h3;have p2:(g.filter λx=>!decide (x=i)).Perm _:=cI (l.filter _) (i:=j) (AJ.mpr ⟨o,by simp;exact A4 C⟩);have p3:U.Perm ([r]++(g.filter λx=>!decide (x=i)).filter λx=>!decide (x=j)):=by
   refine(Bm h7<|AH.mpr ⟨λz=>n1<|T.sub _ (AJ.mp (AJ.mp z).1).1,(l.filter _).filter _⟩).mpr λx=>?_;rw[h6 x,Aq,AJ,AJ];simp only[DQ,decide_eq_false_iff_not];constructor
   ·rintro(⟨a,b,c⟩|rfl)
    ·exact .inr ⟨⟨a,b⟩,c⟩
    ·exact .inl rfl
   ·rintro(rfl|⟨⟨a,b⟩,c⟩)
    ·exact .inr rfl
    ·exact .inl ⟨a,b,c⟩
  show(oV ks (r::z8 A)++(zj (zg A)++U)).Perm ([r]++z8 A);rw[cU,h1];show((([i]++[j])++oV ks (z8 A))++(zj (zg A)++U)).Perm _;refine C2.mpr λa=>?_;have c1:=p1.count_eq a;have c2:=p2.count_eq a;have c3:=p3.count_eq a;have c4:=ih.count_eq a;simp only[Dk] at c1 c2 c3 c4 ⊢;lia
 |@bo r i j A B g EB U h1 T hB o C h6 h7 I J=>
  intro nd;obtain⟨n1,n2⟩:=AH.mp nd;obtain⟨m1,m2,m3⟩:=AB.mp n2;have I:=I m1;have J:=J m2;have l:g.Nodup:=(AB.mp (AB.mp<|I.nodup_iff.mpr m1).2.1).2.1;have nB:EB.Nodup:=(AB.mp (AB.mp<|J.nodup_iff.mpr m2).2.1).2.1;have p1:=cI l o;have p2:=cI nB C;have p3:U.Perm ([r]++((g.filter λx=>!decide (x=i))++EB.filter λx=>!decide (x=j))):=by
   refine(Bm h7<|AH.mpr ⟨λz=>n1 ?_,AB.mpr ⟨l.filter _,nB.filter _,λa ha b hb=>m3 a (T.sub _ (AJ.mp ha).1) b<|hB.sub _ (AJ.mp hb).1⟩⟩).mpr λx=>?_
   ·rcases Aj.mp z with z|z
    ·exact Ap _<|T.sub _ (AJ.mp z).1
    ·exact Ah _<|hB.sub _ (AJ.mp z).1
   ·rw[h6 x,Aq,Aj,AJ,AJ];simp only[DQ,decide_eq_false_iff_not];constructor
    ·rintro(a|a|rfl)
     ·exact .inr<|.inl a
     ·exact .inr<|.inr a
     ·exact .inl rfl
    ·rintro(rfl|a|a)
     ·exact .inr<|.inr rfl
     ·exact .inl a
     ·exact .inr<|.inl a
  show(oV ks (r::(z8 A++z8 B))++(zj (zg A++zg B)++U)).Perm ([r]++(z8 A++z8 B));rw[cU,h1,iN,js];show((([i]++[j])++(oV ks (z8 A)++oV ks (z8 B)))++((zj (zg A)++zj (zg B))++U)).Perm _;refine C2.mpr λa=>?_;have c1:=p1.count_eq a;have c2:=p2.count_eq a;have c3:=p3.count_eq a;have c4:=I.count_eq a;have c5:=J.count_eq a;simp only[Dk] at c1 c2 c3 c4 c5 ⊢;lia
 |@cu p q A B g EB U w T hB h3 o C h6 h7 h8 I J=>
  intro n2;obtain⟨m1,m2,m3⟩:=AB.mp<|show(z8 A++z8 B).Nodup from n2;have I:=I m1;have J:=J m2;have l:g.Nodup:=(AB.mp (AB.mp<|I.nodup_iff.mpr m1).2.1).2.1;have nB:EB.Nodup:=(AB.mp (AB.mp<|J.nodup_iff.mpr m2).2.1).2.1;have p1:=cI l h3;have p2:=cI nB o;have p3:U.Perm ((g.filter λx=>!decide (x=p))++EB.filter λx=>!decide (x=q)):=by refine(Bm h8<|AB.mpr ⟨l.filter _,nB.filter _,λa ha b hb=>m3 a (T.sub _ (AJ.mp ha).1) b<|hB.sub _ (AJ.mp hb).1⟩).mpr λx=>?_;rw[h7 x,Aj,AJ,AJ];simp only[DQ,decide_eq_false_iff_not]
  show(oV ks (z8 A++z8 B)++(zj ((p,q)::(zg A++zg B))++U)).Perm (z8 A++z8 B);rw[iN,jf,js];show((oV ks (z8 A)++oV ks (z8 B))++(([p]++[q]++(zj (zg A)++zj (zg B)))++U)).Perm _;refine C2.mpr λa=>?_;have c1:=p1.count_eq a;have c2:=p2.count_eq a;have c3:=p3.count_eq a;have c4:=I.count_eq a;have c5:=J.count_eq a;simp only[Dk] at c1 c2 c3 c4 c5 ⊢;lia
structure eQ(wd:List<|VG):Prop where
 ne:∀(p:Nat) (e:Bool) (i j:Nat),wd[p]?=some (some<|.nd e i j)->i≠j
 un:∀(p q:Nat) (k l:Kn) (x:Nat),wd[p]?=some (some k)->wd[q]?=some (some l)->x∈j6 (some k)->x∈j6 (some l)->p=q
theorem zJ{x:Nat}(h:x∈x8 wd):∃(p:Nat) (k:Kn),wd[p]?=some (some k)/\x∈j6 (some k):=by
 obtain⟨o,J,I⟩:=Bd.mp h;obtain⟨p,e⟩:=Ds J;cases o with
 |none=>cases I
 |some k=>exact⟨p,k,e,I⟩
theorem Sx{x:Nat}{k:Kn}(h:wd[p]?=some (some k))(I:x∈j6 (some k)):x∈x8 wd:=Bd.mpr ⟨_,AC h,I⟩
theorem Sy{l:Vl}(h:(oV ks l).Nodup)(all:∀p,p<ks.length->p∈l):eQ (ks.map some):=by
 have I:∀{p:Nat} {k:Kn},(ks.map some)[p]?=some (some k)->ks[p]?=some k/\p∈l:=λ{p k} e=>by rw[Am] at e;obtain⟨k',r,t⟩:=Ar.mp e;cases t;exact⟨r,all p<|zb r⟩
 clear all;constructor
 ·intro p e i j J;obtain⟨U,g⟩:=I J;obtain⟨a,b,rfl⟩:=CD g;rw[iN,cU,U] at h;have:=(AB.mp (AB.mp h).2.1).1;have:[i,j].Nodup:=this;simpa using this
 ·intro p q k m x J C T hy;obtain⟨U,g⟩:=I J;obtain⟨h3,h4⟩:=I C;by_cases c:p=q
  ·exact c
  ·exfalso;obtain⟨a,b,rfl⟩:=CD g;have hm:q∈a++b:=by
    rcases Aj.mp h4 with z|z
    ·exact Ap _ z
    ·rcases Aq.mp z with z|z
     ·exact absurd z.symm c
     ·exact Ah _ z
   have pm:(oV ks<|a++p::b).Perm (j6 (some k)++oV ks (a++b)):=by rw[iN,cU,U,iN];refine C2.mpr λz=>?_;simp only[Dk];lia
   have n:=pm.nodup_iff.mp h;have o:x∈oV ks (a++b):=Bd.mpr ⟨q,hm,by rw[h3];exact hy⟩;exact(AB.mp n).2.2 x T x o rfl
theorem uk.part{f:Vs}(r:uk f fx wd){x y:Nat}{k:Kn}(h:wd[x]?=some (some k))(I:y∈j6 (some k)):∃(p:Nat) (o:Kn) (a:Nat),x=f p/\fx[p]?=some (some o)/\y=f a/\a∈j6 (some o):=by
 obtain⟨p,g,e,o,U,J⟩:=r.inv h;cases o with
 |none=>cases J
 |some o=>
  cases o with
  |lf t n=>cases J;cases I
  |nd b i j=>
   cases J;have I:y∈[f i,f j]:=I;rcases Aq.mp I with I|I
   ·exact⟨p,_,i,e,U,I,Ao ..⟩
   ·exact⟨p,_,j,e,U,Ak.mp I,Ae _<|Ao ..⟩
theorem lZ(ok:nX fx){a:Nat}{o:Kn}(h:fx[p]?=some (some o))(I:a∈j6 (some o)):a<fx.length:=by
 cases o with
 |lf t n=>cases I
 |nd e i j=>
  have:=ok p e i j h;have:=zb h;have I:a∈[i,j]:=I;rcases Aq.mp I with rfl|I
  ·lia
  ·rw[Ak.mp I];lia
theorem uk.inj{f:Vs}(r:uk f fx wd){a b:Nat}(I:a<fx.length)(J:b<fx.length)(e:f a=f b):a=b:=r.gap.inj a (AX.mpr I) b (AX.mpr J) e
theorem eQ.ren{f:Vs}(U:eQ fx)(ok:nX fx)(r:uk f fx wd):eQ wd:=by
 constructor
 ·intro x e i j h;obtain⟨p,hp,rfl,o,J,I⟩:=r.inv h;cases o with
  |none=>cases I
  |some o=>
   cases o with
   |lf t n=>cases I
   |nd b a c=>
    cases I;have:=ok p e a c J;exactλz=>U.ne p e a c J<|r.inj (by lia) (by lia) z
 ·intro x y k l z h1 h2 hz hw;obtain⟨p,o,a,rfl,g,rfl,C⟩:=r.part h1 hz;obtain⟨q,o',b,rfl,T,eb,hb⟩:=r.part h2 hw;cases r.inj (lZ ok g C) (lZ ok T hb) eb;rw[U.un p q o o' a g T C hb]
def D_:VG->Bool
 |some (.lf _ _)=>true
 |_=>false
theorem SR.leaves{E:Vl}(h:SR ks R E):(zj<|zc R).Perm ((z8 R).filter λp=>D_ ks[p]?):=by
 induction h with
 |@link p q t n g U h2 l o C=>
  show(zj [(p,q)]).Perm ([p,q].filter λp=>D_ ks[p]?);rw[bR,B3,B3,h2,l];exact Ci _
 |@ei r i j A T g U hA l o C h6 h7 ih=>
  show(zj<|zc A).Perm ((r::z8 A).filter λp=>D_ ks[p]?);rw[B3,U];exact ih
 |@bo r i j A B T EB g U hA hB o C h6 h7 I J=>
  show(zj<|zc A++zc B).Perm ((r::(z8 A++z8 B)).filter λp=>D_ ks[p]?);rw[B3,U,js];show(zj (zc A)++zj (zc B)).Perm ((z8 A++z8 B).filter λp=>D_ ks[p]?);rw[AV];exact I.append J
 |@cu p q A B T EB g w hA hB l o C h6 h7 h8 I J=>
  show(zj<|zc A++zc B).Perm ((z8 A++z8 B).filter λp=>D_ ks[p]?);rw[js,AV];exact I.append J
theorem rL(f:Vs):∀lk:Vi,(zj<|lk.map<|Jh f).Perm<|(zj lk).map f
 |[]=>Ci _
 |c::r=>by
  have I:=rL f r;rw[AG,jf,jf,AG,AG];show(min (f c.1) (f c.2)::max (f c.1) (f c.2)::_).Perm _;by_cases h:f c.1<=f c.2
  ·rw[BW h,Cy h];exact(I.cons _).cons _
  ·rw[Cv (by lia),CG (by lia)];exact((I.cons _).cons _).trans (List.Perm.swap _ _ _)
theorem lS(f:Vs):∀ct:Vi,zj (ct.map<|Ji f)=(zj ct).map f
 |[]=>rfl
 |c::r=>by rw[AG,jf,jf,AG,AG,lS f r];rfl
theorem cX{f:Vs}:∀{l:Vl},l.Nodup->(∀a∈l,∀b∈l,f a=f b->a=b)->(l.map f).Nodup
 |[],_,_=>Di
 |a::r,h,g=>by obtain⟨J,U⟩:=AH.mp h;rw[AG,AH];refine⟨λz=>?_,cX U λx j y o=>g x (Ae _ j) y<|Ae _ o⟩;obtain⟨b,I,e⟩:=Bx.mp z;exact J<|g b (Ae _ I) a (Ao ..) e▸I
def bY(f:Vs):Ru->Ru
 |.link p q=>.link (min (f p)<|f q)<|max (f p)<|f q
 |.ei r A=>.ei (f r)<|bY f A
 |.bo r A B=>.bo (f r) (bY f A)<|bY f B
 |.cu p q A B=>.cu (f p) (f q) (bY f A)<|bY f B
theorem f8(f:Vs):∀R:Ru,(z8<|bY f R).Perm<|(z8 R).map f
 |.link p q=>by
  show [min (f p)<|f q,max (f p)<|f q].Perm [f p,f q];by_cases h:f p<=f q
  ·rw[BW h,Cy h]
  ·rw[Cv (by lia),CG (by lia)];exact List.Perm.swap _ _ _
 |.ei r A=>(f8 f A).cons _
 |.bo r A B=>by show(f r::(z8 (bY f A)++z8 (bY f B))).Perm (f r::(z8 A++z8 B).map f);rw[AD];exact((f8 f A).append<|f8 f B).cons _
 |.cu p q A B=>by show(z8 (bY f A)++z8 (bY f B)).Perm ((z8 A++z8 B).map f);rw[AD];exact(f8 f A).append (f8 f B)
theorem lV{x:Nat}{k:Kn}(h:(ks.map some)[x]?=some (some k)):ks[x]?=some k:=by rw[Am] at h;obtain⟨I,e,z⟩:=Ar.mp h;cases z;exact e
def fH:Ru->List Ru
 |.link p q=>[.link p q]
 |.ei r A=>.ei r A::fH A
 |.bo r A B=>.bo r A B::(fH A++fH B)
 |.cu p q A B=>.cu p q A B::(fH A++fH B)
theorem sP(A:Ru):fH A=A::(aI A).flatMap fH:=by cases A<;>simp[fH,aI]
end L3
namespace TS
open PySem PyProof.Rows PySem.W
section
variable {w:Vx}
end
end TS
namespace L2
open PySem PySem.Spec PyProof.Rows
end L2
namespace L3
open PySem L2
open PySem L2 Words
theorem kY(l:Vl):nY l=(l.map λn:Nat=>(n:Int)).map Y.int:=by unfold nY;rw[Co];rfl
theorem fc{L:qp}:∀xs:Vp,Paired (jz L 0) (xs.map Y.int)<|xs.map λx=>Da.s<|.int x
 |[]=>.nil
 |_::r=>.cons ⟨rfl,rfl⟩<|fc r
theorem KW.ex{w:Wd}(h:KW (jo wd) p w):∃k,wd[p]?=some (some k):=by cases w with|leaf t n=>exact⟨_,h.inv_lf⟩|node e l r=>obtain⟨i,j,a,_⟩:=h.inv_nd;exact⟨_,a⟩
section
variable {E:Vl}
theorem SR.rls(h:SR ks R E):∀B∈fH R,(∃EB,SR ks B EB)/\(∀x∈z8 B,x∈z8 R)/\(z8 B).Sublist (z8 R)/\vo B<=vo R/\(∀c∈zg B,c∈zg R):=by
 induction h with
 |link t h2 T U g=>
  intro B J;cases Ak.mp J;exact⟨⟨_,.link t h2 T U g⟩,λ_ h=>h,Dl _,Al _,λ_ h=>h⟩
 |@ei r i j A EA E t hA T U g h6 h7 ih=>
  intro B J;rcases Aq.mp J with rfl|J
  ·exact⟨⟨_,.ei t hA T U g h6 h7⟩,λ_ h=>h,Dl _,Al _,λ_ h=>h⟩
  ·obtain⟨a,b,c,d,e⟩:=ih B J;exact⟨a,λx h=>Ae _<|b x h,c.cons _,B4 d,e⟩
 |@bo r i j A B EA EB E t hA J U g h6 h7 l o=>
  intro C I;rcases Aq.mp I with rfl|I
  ·exact⟨⟨_,.bo t hA J U g h6 h7⟩,λ_ h=>h,Dl _,Al _,λ_ h=>h⟩
  ·rcases Aj.mp I with I|I
   ·obtain⟨a,b,c,d,e⟩:=l C I;exact⟨a,λx h=>Ae _<|Ap _<|b x h,(c.trans<|DX ..).cons _,by show _<=max (vo A) (vo B)+1;lia,λx h=>Ap _<|e x h⟩
   ·obtain⟨a,b,c,d,e⟩:=o C I;exact⟨a,λx h=>Ae _<|Ah _<|b x h,(c.trans<|CZ ..).cons _,by show _<=max (vo A) (vo B)+1;lia,λx h=>Ah _<|e x h⟩
 |@cu p q A B EA EB E w hA J T U g h6 h7 h8 l o=>
  intro C I;rcases Aq.mp I with rfl|I
  ·exact⟨⟨_,.cu hA J T U g h6 h7 h8⟩,λ_ h=>h,Dl _,Al _,λ_ h=>h⟩
  ·rcases Aj.mp I with I|I
   ·obtain⟨a,b,c,d,e⟩:=l C I;exact⟨a,λx h=>Ap _<|b x h,c.trans<|DX ..,by show _<=max (vo A) (vo B)+1;lia,λx h=>Ae _<|Ap _<|e x h⟩
   ·obtain⟨a,b,c,d,e⟩:=o C I;exact⟨a,λx h=>Ah _<|b x h,c.trans<|CZ ..,by show _<=max (vo A) (vo B)+1;lia,λx h=>Ae _<|Ah _<|e x h⟩
theorem ay:∀{R A B:Ru},A∈fH R->B∈fH A->B∈fH R
 |.link p q,A,B,I,J=>by cases Ak.mp I;exact J
 |.ei r C,A,B,I,J=>by
  rcases Aq.mp I with rfl|I
  ·exact J
  ·exact Ae _<|ay I J
 |.bo r C D,A,B,I,J=>by
  rcases Aq.mp I with rfl|I
  ·exact J
  ·rcases Aj.mp I with I|I
   ·exact Ae _<|Ap _<|ay I J
   ·exact Ae _<|Ah _<|ay I J
 |.cu p q C D,A,B,I,J=>by
  rcases Aq.mp I with rfl|I
  ·exact J
  ·rcases Aj.mp I with I|I
   ·exact Ae _<|Ap _<|ay I J
   ·exact Ae _<|Ah _<|ay I J
theorem hG(A:Ru):A∈fH A:=by rw[sP];exact Ao ..
theorem Sz{A B:Ru}(h:B∈aI A):B∈fH A:=by rw[sP];exact Ae _<|Bd.mpr ⟨B,h,hG B⟩
end
noncomputable def kE:RD "_law_stir" fM 0 ["_law_script","_law_total","_law_k","_law_cell"] (λ_=>True):=⟨_,λV B c _ _ _ _ _ _ _ I hN J=>(qa (S_ 1 hN qh)<|qa (xg u1 rfl (fg rfl B.bf<|qv 0) (aA (n:=2) rfl<|zf (G_ 2 hN)<|zf (G_ 3 hN) vv)<|qg<|S_ 1 hN<|qk jj (qk zw (qk zw (qk zw (qk oF (qv 1) qh)<|qk jj (qv 3) qh)<|qv 2) qh) qh)<|qg<|qx<|qv 1)⟩
noncomputable def uh:k8:=(kE).1
noncomputable def jX:RD "_law_pick" fQ 0 ["_law_stir_here","_law_factor"] (λ_=>True):=⟨_,λV B c _ _ _ _ _ _ _ I hN J=>(qg<|qx<|qk vm (qk jj (qk oF (qv 0)<|qv 1) qh) qh)⟩
noncomputable def uC:k8:=(jX).1
noncomputable def kA(J:zd)(U:zd)(I:zd):RD "_law_sown" dz 172 ["_law_script","_law_stir_here","_law_wide","_law_room"] (λV=>Ft V J/\IL V U/\IF V I):=⟨_,λV B c _ _ _ _ _ _ _ g hN j=>(qa (S_ 3 hN<|qk zw qh<|qk jj (C_ c.1 g<|vq (qv 1) qh) qh)<|xc (zx (E_ j (qk jj (C_ c.1 g<|vq (qv 1) qh) qh) qh) (qg<|S_ 3 hN<|qv 2) ze)<|qg<|qx<|C_ c.2.1 g<|cA (xt (gB _ _ _) (qv 0) (vz qh) kz) (qk jj (C_ c.2.2 g<|vq (qv 0) qh) qh)<|qv 3)⟩
noncomputable def tI(J:zd)(U:zd)(I:zd):k8:=(kA J U I).1
def qM:zd:=λys L Q=>∃I:Vp,ys=[.sq<|I.map Y.int]/\∀v:Int,Q (.int v) L
theorem SA:∀ys L Q,qM ys L Q->x4 uh 4 ys L Q:=by
 rintro ys L Q ⟨g,rfl,q⟩;refine ku ⟨λ_ I J=>∃v c2 c3,I=[some<|.sq<|g.map Y.int,some<|.int v,c2,c3]/\J=L,⟨1,_,_,rfl,rfl⟩,λ_ _ _ _=>True.intro,?_,?_⟩
 ·rintro i y I J j ⟨v,c2,c3,rfl,rfl⟩;obtain⟨z,U,rfl⟩:=cW j;rw[Am] at U;obtain⟨z,l,rfl⟩:=Ar.mp U;exact⟨.inr ⟨by decide,by decide⟩,(by decide:(0:Int)<1000003),(by decide:(0:Int)<2147483647),_,EF _,_,_,_,rfl,rfl⟩
 ·rintro I J ⟨v,c2,c3,rfl,rfl⟩;exact xh<|q v
def bi:zd:=λys L Q=>∃s f:Int,ys=[.int s,.int f]/\0<f/\f<1000000000/\∀v,0<=v->v<134217728->Q (.int v) L
theorem SD:∀ys L Q,bi ys L Q->x4 uC 2 ys L Q:=by
 rintro ys L Q ⟨s,f,rfl,I,J,q⟩;refine⟨.inr ⟨by omega,by omega⟩,(by decide:(0:Int)<2147483629),⟨by decide,by decide⟩,xh<|q _ ?_ ?_⟩
 all_goals
  generalize s*f=z;omega
structure yJ(ks:VF)(R:Ru)(E:Vl):Prop where
 ok:dk ks
 sr:SR ks R E
 tp:(z8 R).Perm (List.range ks.length)
 len:ks.length<=96
theorem SE(I:Vp)(lo hi:Vr):∃ms:Vp,gd (I.map Y.int) lo hi=ms.map Y.int/\ms.length<=I.length:=by unfold gd;refine⟨(I.drop<|HT.sIx (I.map Y.int).length 0 lo).take<|HT.sIx (I.map Y.int).length (I.map Y.int).length hi-HT.sIx (I.map Y.int).length 0 lo,by rw[DY,ED],?_⟩;rw[AM,BC];lia
def qJ:zd:=λys L Q=>∃I:Vp,∃s:Int,∃w:Nat,∃wi:Int,ys=[.sq<|I.map Y.int,.int s,.int wi]/\wi=(w:Int)/\I.length<=63/\w<=96/\∀ka ks R E L',qd L L'->L ka=none->L' ka=some (.lst<|x5 ks)->yJ ks R E->Q (.tup [.ref ka,zr R]) L'
theorem SF:∀ys L Q,qJ ys L Q->x4 (tI bi m8 gW) 4 ys L Q:=by
 rintro ys L Q ⟨I,s,w,wi,rfl,rfl,hn,hw,q⟩;refine⟨s,774511,rfl,by decide,by decide,λv v0 _=>⟨(by decide:(0:Int)<37),?_⟩⟩;refine⟨λg j=>∃r:Nat,r<=96/\g=[some<|.sq<|I.map Y.int,some<|.int s,some<|.int (w:Int),some<|.int (r:Int)]/\j=L,?_,?_⟩
 ·refine⟨s,31337,rfl,by decide,by decide,λu _ _=>⟨(by decide:(0:Int)<8),jc (λ_=>⟨w,hw,rfl,rfl⟩) λ_=>⟨(24+v % 37).toNat,by lia,?_,rfl⟩⟩⟩;rw[show(((24+v % 37).toNat:Nat):Int)=24+v % 37 by lia];rfl
 ·rintro g j ⟨r,o,rfl,rfl⟩ pm J;obtain⟨p,U,t⟩:=SE I (some 1) none;rw[U];exact⟨I,0,rfl,by decide,λc=>⟨(by decide:(0:Int)<1000000000),pm,p,_,r,rfl,q9,by lia,o,λC T R E l ok sr tp hl=>xh<|q C T R E _ ((By J).trans<|By l) (aK l) q9 ⟨ok,sr,tp,by lia⟩⟩⟩
open PySem L2 PyProof.Rows
end L3
namespace L2
open PySem PySem.Spec PyProof.Rows
theorem SG(neg:Bool)(p:X.A.units+128<cLine):aD X (compareOp<|if neg then .NotIn else .In) (λx y H Q=>∃a kvs k,y=.ref a/\H a=some (.dK kvs)/\x=kV k/\Q (.bl<|if neg then !(bX kvs k).isSome else(bX kvs k).isSome) H):=by rintro U s r H x y v u Q I g j ⟨a,kvs,k,l,e,ex,q⟩;subst ex l;cases (show u=Value.ref a from j);cases neg with|false=>exact Nw (by omega) I (rH.k e) g λo J=>⟨.bl _,H,J,rfl,q⟩|true=>exact Nx (by omega) I (rH.k e) g λo J=>⟨.bl _,H,J,rfl,q⟩
end L2
namespace L3
open PySem L2
theorem SH{xs:List<|jb×V}(p:Paired (λ(p:jb×Y) (q:jb×V)=>p.1=q.1/\RV G H p.2 q.2) kvs xs)(k:jb):(bX xs k).isSome=(kj kvs k).isSome:=by
 unfold bX kj;rw[CN,CN]
 induction p with
 |nil=>rfl
 |@cons a b _ _ r t I=>
  rw[BI,BI,r.1];cases decide (b.1=k) with|true=>rfl|false=>exact I
def xI(neg:Bool)(x y:Y)(L:qp)(Q:YK):Prop:=match y,Fn x with
 |.ref a,some k=>uR L a λkvs=>Q (.bl<|nb neg (kj kvs k).isSome) L
 |_,_=>False
theorem SI(neg:Bool)(j:X.A.units+128<cLine):aD X (compareOp<|if neg then .NotIn else .In) (lM X.g3<|xI neg):=EV (SG neg j) λx y H Q C T L Q3 l o g z k=>by
 unfold xI at z;split at z
 ·rename_i a I p;obtain⟨J,e,z⟩:=iQ z;obtain⟨U,r,t⟩:=g a _ e;refine⟨a,U,I,o,r,mh p l,?_⟩;have:(if neg=true then !(bX U I).isSome else(bX U I).isSome)=nb neg (kj J I).isSome:=by rw[SH t];cases neg<;>simp[nb]
  rw[this];exact k _ H _ L (EG _) g (by rfl) z
 ·exact z.elim
theorem wA(I:X.A.units+128<cLine):aD X (compareOp .NotIn) (lM X.g3<|xI true):=SI true I
def Jl(xs:List Y)(L:qp)(Q:YK):Prop:=match xs with
 |[.ref a]=>dm L a λys=>Q (.tup ys) L
 |_=>False
theorem SJ :xb X (.type "tuple") (l_ X.g3 Jl):=xb.imq oQ λt H Q C L T g J z k=>by
 unfold Jl at z;split at z
 ·rename_i a;obtain⟨u,rfl,j⟩:=g.inv1;obtain⟨o,e,z⟩:=vf z;obtain⟨U,p,r⟩:=J a _ e;cases (show u=V.ref a from j);exact⟨a,U,rfl,.inl ⟨.inl<|.inl p,λl I=>k _ _ (.tup o) L (EH I) (J.skip I) ⟨l,U,rfl,.inl<|.inl zq,r.ts<|EH I⟩ z⟩⟩
 ·exact z.elim
open PySem L2 Words
def plR:Ru->Vl
 |.link p q=>[p,q]
 |.ei r _=>[r]
 |.bo r _ _=>[r]
 |.cu p q _ _=>[p,q]
theorem sQ(A:Ru):0<vo A:=by cases A<;>simp[vo]
def SK(Pt:Addr)(I:zd):k8:=(j7 (xo (dF x0)<|ql 2)
 (j7 (iZ (Ig<|qf 0) (eV 2<|ju (ql 3)<|ju (ql 4) cO) (j7 (xo (jr uK (v4 I<|qr (qf 1)<|cq (qf 3)<|dh 39373)<|dh 40)<|ql 5)
 (uN (fj (ss (r9 4)<|dh 3) (xo (jr ai (jr ai (qf 5)<|dh 1)<|l8 pq<|qr (jr aN (qf 2)<|jZ 4 1)<|qr (jr aN (qf 2)<|jZ 4 2) x0)<|ql 5) bj)
 (w6<|hU jw (qf 2)<|a8<|qf 5))))
 (ao<|Jf Pt lamQ 2<|nS<|r9 0)))
def jJ(Pt:Addr):zd:=λys L Q=>∃a,∃ks:VF,∃s:Int,ys=[.ref a,.int s]/\L a=some (.lst<|x5 ks)/\nX (ks.map some)/\ks.length<=127/\L Pt=some (.tb lamQ)/\
 ∀D qs,L D=none->qs.Perm (List.range (ks.map some).length)->dO (ks.map some) qs->Q (.ref D) (qe L D<|.lst<|nY qs)
theorem SM :∀ys L Q,jJ Pt ys L Q->x4 (SK Pt rW) 6 ys L Q:=by
 rintro ys L Q ⟨a,a5,s,rfl,ha,ok,hz,hP,q⟩;obtain⟨g,U⟩:∃g,g=a5.map some:=⟨_,rfl⟩;rw[<-iR,<-U] at ha;rw[<-U] at ok q;have hz:g.length<=127:=by rw[U,Ag];exact hz
 have all:∀i,g[i]?≠some none:=λi e=>by rw[U,Am] at e;obtain⟨_,_,z⟩:=Ar.mp e;cases z
 have big:=a_;intro J I;have s0:qd L (qe L J<|.lst []):=By I;have a0:a≠J:=aS ha I;refine x9 (s0 _ _ ha) λkeep kp=>ku ⟨λi τ l=>∃rks:Vp,∃c3 c4 c5,τ=[some<|Y.ref a,some<|.int s,some<|Y.ref J,c3,c4,c5]/\l=qe L J (.lst<|rks.map Y.int)/\rks.length=i/\aal g rks,⟨[],_,_,_,rfl,rfl,rfl,λp _ _ _ hp=>by cases hp⟩,?_,?_,?_⟩
 ·rintro i τ l ⟨rks,c3,c4,c5,rfl,rfl,_⟩;exact kp _ (by rw[qc a0,qc a0])
 ·rintro i y τ l hy ⟨rks,c3,c4,c5,rfl,rfl,C,T⟩;obtain⟨z,ez,rfl⟩:=cW hy;rw[Am] at ez;obtain⟨k,ek,rfl⟩:=Ar.mp ez;have hi:=zb ek;refine⟨s,i,39373,rfl,by exact AN _,by omega,by decide,by decide,λv h0 h1=>?_⟩;have m0:(0:Int)<=v % 40:=Ex _ (by decide);have a3:(rks.map Y.int).length=i:=by rw[Ag];exact C
  refine⟨show(0:Int)<40 by decide,λa4 l=>∃r:Int,a4=[some<|Y.ref a,some<|.int s,some<|Y.ref J,some<|.int (i:Nat),some<|w5 k,some<|.int r]/\l=qe L J (.lst<|rks.map Y.int)/\∀e i j,k=some (.nd e i j)->rks.getD i 0<r/\rks.getD j 0<r,?_,?_⟩
  ·cases k with
   |none=>exact absurd ek<|all i
   |some k=>
    cases k with
    |lf t n=>exact⟨v % 40,rfl,rfl,λe i j z=>by cases z⟩
    |nd e p1 p2=>
     obtain⟨l1,l2⟩:=ok _ _ _ _ ek;have g1:=jl<|u9 (rks:=rks) (i:=p1) (by lia);have g2:=jl<|u9 (rks:=rks) (i:=p2) (by lia);refine qb q9<|qj g1 ?_;refine qb q9<|qj g2 ?_;refine⟨v % 40+1+max (rks.getD p1 0) (rks.getD p2 0),rfl,rfl,λe' i' j' z=>?_⟩;cases z;have a1:rks.getD p1 0<=max (rks.getD p1 0) (rks.getD p2 0):=Int.le_max_left ..;have a2:rks.getD p2 0<=max (rks.getD p1 0) (rks.getD p2 0):=Int.le_max_right ..;constructor<;>lia
  ·rintro a4 l ⟨r,rfl,rfl,hr⟩;refine qb q9 (qo q9 ⟨by rw[a3];exact big _ (by lia),?_⟩);refine⟨_,EF _,rks++[r],_,_,_,rfl,?_,by rw[Aa,C];rfl,aal.snoc ok T (by rw[C];exact ek) hr⟩;rw[zh,AD];rfl
 ·rintro τ l ⟨rks,c3,c4,c5,rfl,rfl,C,T⟩;rw[bE,Ag] at C;have s1:qd L (qe L J<|.lst<|rks.map Y.int):=By I;refine qb (s1 _ _ ha) ?_;have lo:(jo g).length=g.length:=Ag ..;refine⟨⟨AN _,by rw[lo];lia⟩,λp hp=>qo q9 ?_⟩;have a7:J≠p:=aS q9 hp;have ab:Pt≠p:=aS (s1 _ _ hP) hp;have ac:Pt≠J:=aS hP I;refine⟨g.length,rks,J,by rw[Bn,lo],rfl,(qc a7).trans q9,C,hz,(qc ab).trans<|(qc ac).trans hP,λD qs hD pm pw=>?_⟩;have al:=aK hD;have au:=aK al;refine⟨qe L D<|.lst<|nY qs,λb o e=>?_,q D qs au pm<|Sh ok T C pw⟩;by_cases c:b=D
  ·subst c;rw[q9] at e ⊢;exact e
  ·rw[qc c] at e ⊢;rw[qc (λz=>by subst z;rw[aK hp] at e;cases e),qc (λz=>by subst z;rw[I] at e;cases e)];exact e
theorem mo(y:Y)(l:List Y):gd (y::l) (some 1) none=l:=by
 unfold gd;have e:HT.sIx (y::l).length 0 (some 1)=1:=by show min 1 (l.length+1)=1;lia
 rw[e];show(l.take<|l.length+1-1)=l;rw[Nat.add_sub_cancel,AW]
theorem qH(y:Y)(l:List Y):¬(HT.sIx (y::l).length 0 (some 1)=0/\HT.sIx (y::l).length (y::l).length none=(y::l).length):=λz=>by
 have e:HT.sIx (y::l).length 0 (some 1)=1:=by show min 1 (l.length+1)=1;lia
 rw[e] at z;exact absurd z.1 (by decide)
def Fb:Ru->Str
 |.link _ _ => "link"
 |.ei _ _ => "either"
 |.bo _ _ _ => "both"
 |.cu _ _ _ _ => "cut"
theorem iI(A:Ru):zr A=.tup (.str (Fb A)::(nY (plR A)++(aI A).map zr)):=by cases A<;>rfl
def cQ(n:Nat):zd:=λys L Q=>∃R:Ru,∃d,∃kvs:List (jb×Y),∃f:Vs,ys=[zr R,.ref d]/\L d=some (.dct kvs)/\(∀B∈fH R,∀x∈plR B,kj kvs (.inl (x:Int))=some (.int (f x:Int)))/\vo R<=n/\Q (zr<|bY f R) L
theorem SN:∀ys L Q,¬cQ 0 ys L Q:=by rintro ys L Q ⟨A,_,_,_,_,_,_,h,_⟩;have:=sQ A;lia
theorem qG{P:Vl}{As:List Ru}(h:(nY P++As.map zr)[i]?=some y):(i<P.length/\∃x,P[i]?=some x/\y=.int (x:Int))\/(P.length<=i/\∃B,As[i-P.length]?=some B/\y=zr B):=by
 by_cases c:i<P.length
 ·rw[AI (by rw[zv];exact c)] at h;exact .inl ⟨c,bx h⟩
 ·rw[Ax (by rw[zv];lia),zv,Am] at h;obtain⟨B,e,z⟩:=Ar.mp h;exact .inr ⟨by lia,B,e,z.symm⟩
theorem SR.pl{E:Vl}(h:SR ks R E):∀B∈fH R,∀x∈plR B,x<ks.length:=λB J x I=>by
 obtain⟨⟨p,s⟩,_⟩:=h.rls B J;have l:=s.lt;cases s with
 |link=>exact l x I
 |ei=>rw[Ak.mp I];exact l _<|Ao ..
 |bo=>rw[Ak.mp I];exact l _<|Ao ..
 |cu U g j o=>
  rcases Aq.mp I with rfl|I
  ·exact l _<|Ap _<|U.sub _ j
  ·rw[Ak.mp I];exact l _<|Ah _<|g.sub _ o
noncomputable def gG(I:zd):RR "_law_gather" bu 1 ["_law_rule","_law_links","_law_cuts"] ["_law_rule","_law_links","_law_cuts","_law_arm"] I (λ_=>True):=⟨_,λV B c _ _ J _ _ _ _ _ _ g hN U=>(xc (zx (E_ U (J_ 0) je) (qg<|za<|qz (qv 1)<|jt<|zk<|vq (J_ 0)<|J_ 0) ze)<|xc (zx (E_ U (J_ 0) je) (qg<|za<|qz (qv 2)<|jt<|zk<|vq (J_ 0)<|J_ 0) ze)<|qg<|xg u1 rfl (rA<|xt (uF _ _ _) (qv 0) (vz qh) kz) (G_ 3 hN)<|qg<|zx (aV<|wx .tuple rfl B.b_isinstance rfl B.b_tuple fO<|qv 3) (qg<|za<|C_ J g<|cA (qv 3) (qv 1)<|qv 2) ze)⟩
noncomputable def oX(I:zd):k8:=(gG I).1
noncomputable def Jm(I:zd):RD "_law_web" gS 121 ["_law_tree_here","_law_links","_law_cuts"] (λV=>IM V I):=⟨_,λV B c _ _ _ _ _ _ _ J hN U=>(qa (S_ 1 hN<|zu vd)<|qa (S_ 2 hN<|zu vd)<|qa (za<|C_ c J<|cA (J_ 0) (qv 1)<|qv 2)<|qg<|qx<|zk<|cA (fJ hJ rfl B.be dI<|jt<|J_ 0) (wa rj rfl B.bg jA<|jt<|qv 1)<|wa rj rfl B.bg jA<|jt<|qv 2)⟩
noncomputable def SO(I:zd):k8:=(Jm I).1
abbrev am(L:qp)(l c:Addr)(lk ct:Vh):qp:=qe (qe L l<|.lst<|qm lk) c<|.lst<|qm ct
theorem Gi(h:l≠c):am L l c lk ct l=some (.lst<|qm lk):=(qc h).trans q9
theorem SQ(h:l≠c):qe (am L l c lk ct) l (.lst<|qm pR)=am L l c pR ct:=by unfold am;rw[fW<|A4 h,zh]
theorem xX{I:Vh}(h:l≠c):am (am L l c lk ct) l c pR I=am L l c pR I:=by show qe (qe (am L l c lk ct) l _) c _=_;rw[SQ h,zh]
theorem SS(h1:L l=some (.lst<|qm lk))(h2:L c=some (.lst<|qm ct)):am L l c lk ct=L:=by unfold am;rw[bC h1,bC h2]
def az(n:Nat):zd:=λys L Q=>∃R:Ru,∃l c,∃lk ct:Vi,ys=[zr R,.ref l,.ref c]/\L l=some (.lst<|qm lk)/\L c=some (.lst<|qm ct)/\l≠c/\vo R<=n/\lk.length+iY R<=127/\ct.length+iY R<=127/\Q .non (am L l c (lk++zc R)<|ct++zg R)
theorem zY:∀ys L Q,¬az 0 ys L Q:=by rintro ys L Q ⟨A,_,_,_,_,_,_,_,_,h,_⟩;have:=sQ A;lia
theorem SU(R:Ru):(tw R).length<=1/\(xO R).length<=1:=by cases R<;>simp[tw,xO]
theorem aB:∀R:Ru,(zc R).length+(zg R).length<=iY R
 |.link _ _=>Al _
 |.ei _ A=>by have:=aB A;show _<=iY A+1;exact B4 this
 |.bo _ A B=>by have:=aB A;have:=aB B;show(zc A++zc B).length+(zg A++zg B).length<=iY A+iY B+1;rw[Aa,Aa];lia
 |.cu p q A B=>by have:=aB A;have:=aB B;show(zc A++zc B).length+((p,q)::(zg A++zg B)).length<=iY A+iY B+1;rw[Aa,AK,Aa];lia
theorem SV{As:List Ru} :((As.take j).flatMap zc).length<=((As.take j).map iY).sum/\((As.take j).flatMap zg).length<=((As.take j).map iY).sum:=by
 generalize As.take j=I
 induction I with
 |nil=>exact⟨Al _,Al _⟩
 |cons B r J=>
  have:=aB B;rw[Bj,Bj,Aa,Aa,AG,EC];lia
theorem SW{l:Vl}{x:Nat}(h:l[j]?=some x):(l.take j).sum+x<=l.sum:=by
 obtain⟨I,e⟩:=AL.mp h;have:l=l.take j++x::l.drop (j+1):=by rw[<-e,CF,Be]
 have:=BO List.sum this;rw[List.sum_append,EC] at this;lia
theorem yt(n:Nat):∀ys L Q,az (n+1) ys L Q->x4 (oX<|az n) 4 ys L Q:=by
 rintro ys L Q ⟨R,l,c,lk,U,rfl,t,hc,ne,hr,hz,hy,q⟩;have big:=a_;have pl:∀l:Vi,(qm l).length=l.length:=λl=>Ag ..;have rz:=Sk R;have same:am L l c (lk++[]) (U++[])=L:=by rw[Aw,Aw];exact SS t hc
 refine⟨λI J=>I=[some<|zr R,some<|.ref l,some<|.ref c,none]/\J=am L l c (lk++tw R) (U++[]),?_,?_⟩
 ·cases R with|link p s=>exact qo t (qo t ⟨by rw[pl];exact big _ (by lia),rfl,by rw[Aw];unfold am;rw[fW ne,bC hc];exact BO (λz=>qe L l<|.lst z)<|cf lk (p,s)⟩)|ei r A=>exact⟨rfl,same.symm⟩|bo r A B=>exact⟨rfl,same.symm⟩|cu p s A B=>exact⟨rfl,same.symm⟩
 rintro I L1 ⟨rfl,rfl⟩;refine⟨λI J=>I=[some<|zr R,some<|.ref l,some<|.ref c,none]/\J=am L l c (lk++tw R) (U++xO R),?_,?_⟩
 ·cases R with|link p s=>exact⟨rfl,rfl⟩|ei r A=>exact⟨rfl,rfl⟩|bo r A B=>exact⟨rfl,rfl⟩|cu p s A B=>exact qo q9 (qo q9 ⟨by rw[pl,Aw];exact big _ (by lia),rfl,by rw[Aw,zh];exact BO (λz=>qe _ c<|.lst z)<|cf U (p,s)⟩)
 rintro I L1 ⟨rfl,rfl⟩;have va:∀B∈aI R,vo B<=n:=λB hB=>by have:=pJ hB;lia
 have lp:(plR R).length<=2:=by cases R<;>simp[plR]
 have ol:=SU R;rw[ur,Sj,<-Ay,<-Ay] at q;have l1:(lk++tw R).length<=lk.length+1:=by rw[Aa];lia
 have l2:(U++xO R).length<=U.length+1:=by rw[Aa];lia
 rw[iI R];generalize lk++tw R=um at q l1 ⊢;generalize U++xO R=g at q l2 ⊢;generalize plR R=P at lp ⊢;generalize aI R=As at va rz q ⊢;generalize Fb R=C;have ll:(nY P++As.map zr).length=P.length+As.length:=by rw[Aa,zv,Ag]
 refine⟨qH _ _,?_⟩;rw[mo];refine ku ⟨λi I J=>∃c3,I=[some<|.tup<|.str C::(nY P++As.map zr),some<|.ref l,some<|.ref c,c3]/\J=am L l c (um++(As.take<|i-P.length).flatMap zc) (g++(As.take<|i-P.length).flatMap zg),⟨_,rfl,by rw[Nat.zero_sub,DG,CA,CA,Aw,Aw]⟩,λ_ _ _ _=>True.intro,?_,?_⟩
 ·rintro i y I J T ⟨c3,rfl,rfl⟩;rcases qG T with⟨o,x,ex,rfl⟩|⟨o,B,eB,rfl⟩
  ·exact⟨_,EF _,_,rfl,by rw[CL o,CL<|Bf o]⟩
  ·have t1:=SV (As:=As) (j:=i-P.length);have t2:=SW (l:=As.map iY) (j:=i-P.length) (x:=iY B) (by rw[Am,eB];rfl);rw[DY] at t1;have z:az n [zr B,.ref l,.ref c] (am L l c (um++(As.take<|i-P.length).flatMap zc)<|g++(As.take<|i-P.length).flatMap zg) λz L4=>cz (λI J=>∃c3,I=[some<|.tup<|.str C::(nY P++As.map zr),some<|.ref l,some<|.ref c,c3]/\J=am L l c (um++(As.take<|i+1-P.length).flatMap zc) (g++(As.take<|i+1-P.length).flatMap zg)) [some<|.tup<|.str C::(nY P++As.map zr),some<|.ref l,some<|.ref c,some<|zr B] L4:=by refine⟨B,l,c,_,_,rfl,Gi ne,q9,ne,va B<|AC eB,by rw[Aa];lia,by rw[Aa];lia,_,EF _,_,rfl,?_⟩;rw[xX ne,Nat.succ_sub o,A3,eB,A1,A1,Ay,Ay];simp
   rw[iI B] at z ⊢;exact z
 ·rintro I J ⟨c3,rfl,rfl⟩;rw[ll,B1,AW];exact xh q
def r6:zd:=λys L Q=>∃a,∃xs:List Y,∃R:Ru,ys=[.tup [.ref a,zr R]]/\L a=some (.lst xs)/\vo R<=120/\iY R<=127/\(zc R).Nodup/\(zg R).Nodup/\(∀p∈zc R,p.2<1000000)/\(∀p∈zg R,p.2<1000000)/\
 ∀I J c' lk ct L',qd L L'->L I=none->L J=none->L c'=none->I≠J->I≠c'->J≠c'->L' I=some (.lst xs)->L' J=some (.lst<|qm lk)->L' c'=some (.lst<|qm ct)->lk.Perm (zc R)->lk.Pairwise ie->ct.Perm (zg R)->ct.Pairwise ie->Q (v9 I J c') L'
theorem SX:∀ys L Q,r6 ys L Q->x4 (SO<|az 120) 3 ys L Q:=by rintro ys L Q ⟨a,xs,R,rfl,ha,hd,hz,n1,n2,b1,b2,q⟩ l hl c hc;have I:l≠c:=aS q9 hc;have p:L c=none:=aK hc;have pz:=aB R;have s0:qd L (am L l c [] []):=(By hl).trans<|By hc;have e0:qe (qe L l<|.lst []) c (.lst [])=am L l c [] []:=rfl;have a4:a≠l:=aS ha hl;have a5:a≠c:=aS ha p;rw[e0];refine⟨R,l,c,[],[],rfl,Gi I,q9,I,hd,by rw[Du];lia,by rw[Du];lia,?_⟩;rw[xX I,Cb,Cb];have T:qd L (am L l c (zc R)<|zg R):=((EF _).upd hl).upd p;have g1:am L l c (zc R) (zg R) l=some (.lst<|qm<|zc R):=Gi I;have g2:am L l c (zc R) (zg R) c=some (.lst<|qm<|zg R):=q9;generalize am L l c (zc R) (zg R)=L1 at T g1 g2 ⊢;refine qb (T _ _ ha) λr J=>?_;have s2:=T.trans<|By (o:=.lst xs) J;show dE [.ref l] (qe L1 r<|.lst xs) λz2 L2=>dE [.ref c] L2 λz3 L3=>l6 Q (.tup [.ref r,z2,z3]) L3;refine Gh (By J _ _ g1) b1 n1 (by lia) λD1 lk U a0 a1=>?_;have s3:=s2.trans<|By (o:=.lst<|qm lk) U;refine Gh (((By J).trans<|By U) _ _ g2) b2 n2 (by lia) λD2 ct g a2 a3=>?_;have j:r≠D1:=aS q9 U;have t:D1≠D2:=aS q9 g;have C:r≠D2:=aS ((qc j).trans q9) g;exact xh<|q r D1 D2 lk ct _ (s3.trans<|By g) (T.none J) (s2.none U) (s3.none g) j C t ((qc C).trans<|(qc j).trans q9) ((qc t).trans q9) q9 a0 a1 a2 a3
noncomputable def Jn(U:zd)(I:zd)(J:zd):RD "_law_gapped" cG 121 ["_law_tree_here","_law_stir_here","_law_number_here","_law_gap","_law_offset","_law_at","_law_made","_law_k","_law_p","_law_knot"] (λV=>Ft V U/\IP V I/\IQ V J):=⟨_,λV B c _ _ _ _ _ _ _ j hN g=>(qa (S_ 2 hN<|C_ c.1 j<|vq (qv 1) qh)<|qa (S_ 3 hN qh)<|xc (zx (E_ g (qk jj (qv 2) qh) qh) (qg<|S_ 3 hN<|qk zw qh<|qk jj (qk vm (qv 2) qh) qh) ze)<|qa (S_ 4 hN<|qk jj (qk vm (qv 2) qh)<|qk zw (qv 3) qh)<|qa (S_ 5 hN lW)<|qa (S_ 6 hN<|zu vd)<|qa (xg u1 rfl (fg rfl B.bf<|C_ c.2.1 j<|vq (J_ 0)<|qv 1) (aA (n:=2) rfl<|zf (G_ 7 hN)<|zf (G_ 8 hN) vv)<|qa (iX u1 (jy Cm (L_ B.ba<|qv 6) (qk zw (qv 7)<|qk vm (qk zw (qv 7)<|qv 4)<|qv 3)<|wo _)<|qg<|za<|qz (qv 6)<|jt mD)<|qa (bq g (qv 5) (qv 8)<|L_ B.ba<|qv 6)<|qa (S_ 9 hN<|I_ (J_ 0)<|qv 8)<|qg<|za<|qz (qv 6)<|jt<|gj (E_ g (L_ B.ba<|qv 9) qh) (qv 9)<|zk<|cA (J_ 9) (dY g (qv 5) (J_ 9) λ_ _=>rfl)<|dY g (qv 5) (J_ 9) λ_ _=>rfl)<|qg<|qx<|zk<|vq (qv 6)<|C_ c.2.2 j<|vq (J_ 0)<|qv 5)⟩
noncomputable def SY(U:zd)(I:zd)(J:zd):k8:=(Jn U I J).1
def pY(Pt:Addr):zd:=λys L Q=>∃a,∃ks:VF,∃R:Ru,∃E:Vl,∃s:Int,ys=[.tup [.ref a,zr R],.int s]/\L a=some (.lst<|x5 ks)/\yJ ks R E/\L Pt=some (.tb lamQ)/\
 ∀w f wd,L w=none->uk f (ks.map some) wd->Q (.tup [.ref w,zr<|bY f R]) (qe L w<|.lst<|jo wd)
theorem S0{i off g:Int}(hi:0<=i)(h1:1<=g)(I:off<=g):(i+off) / g<=i+1:=by refine Int.ediv_le_of_le_mul (by lia) ?_;have:=Int.mul_le_mul_of_nonneg_left h1 hi;rw[Ez];lia
theorem S1 :∀ys L Q,pY Pt ys L Q->x4 (SY bi (jJ Pt)<|cQ 120) 10 ys L Q:=by
 rintro ys L Q ⟨a,a1,R,E,s,rfl,ha,T,hP,q⟩;have big:=a_;have hz:=T.len;have sr:=T.sr;obtain⟨U,l⟩:∃U,U=a1.map some:=⟨_,rfl⟩;have al:U.length=a1.length:=by rw[l,Ag]
 have ok:nX U:=by rw[l];exact gx T.ok
 refine⟨s,91827,rfl,by decide,by decide,λnum n0 _=>?_⟩;refine⟨λo L'=>∃g:Int,5<=g/\g<=200/\o=[some<|.tup [.ref a,zr R],some<|.int s,some<|.int num,some<|.int g,none,none,none,none,none,none]/\L'=L,?_,?_⟩
 ·exact⟨(by decide:(0:Int)<3),jc (λ_=>⟨⟨by decide,by decide⟩,(by decide:(0:Int)<9),_,by lia,by lia,rfl,rfl⟩) λ_=>⟨200,by decide,by decide,rfl,rfl⟩⟩
 rintro o L' ⟨g,g1,g2,rfl,rfl⟩;refine⟨⟨by decide,by decide⟩,(show(0:Int)<g+1 by lia),?_⟩;have ho:num / 27 % (g+1)<=g:=by have:=DH (num / 27) (show(0:Int)<g+1 by lia);lia
 show ql 4 (.int<|num / 27 % (g+1)) _ _ _;generalize num / 27 % (g+1)=off at ho ⊢;intro d hd w hw;have a3:L' w=none:=aK hw;have a0:d≠w:=aS q9 hw;have s0:qd L' (qe (qe L' d<|.dct []) w<|.lst []):=(By hd).trans<|By hw;refine⟨a,a1,s,rfl,s0 _ _ ha,by rw[<-l];exact ok,by lia,s0 _ _ hP,λD I hD pm pf=>?_⟩;rw[<-l] at pm pf;have a4:w≠D:=aS q9 hD;have ab:d≠D:=aS ((qc a0).trans q9) hD;have lq:I.length=U.length:=by rw[pm.length_eq,A6]
 have au:I.Nodup:=pm.nodup_iff.mpr CV;have mq:∀p∈I,p<U.length:=λp hp=>AX.mp<|pm.mem_iff.mp hp;have G0:pZ L' U I d w D 0 0 (λ_=>0) [] [] (qe (qe (qe L' d<|.dct []) w<|.lst []) D<|.lst<|nY I):=
  ⟨s0.trans<|By hD,(qc ab).trans<|(qc a0).trans q9,(qc a4).trans q9,q9,Al _,λp=>rfl,uy.nil _ _,Al _⟩
 refine x9 q9 λkeep kp=>ku ⟨λi o L1=>∃f wd J c7 c8 c9,o=[some<|.tup [.ref a,zr R],some<|.int s,some<|.int num,some<|.int g,some<|.int off,some<|.ref d,some<|.ref w,c7,c8,c9]/\pZ L' U I d w D i 0 f wd J L1,⟨_,_,_,_,_,_,rfl,G0⟩,?_,?_,?_⟩
 ·rintro i o L1 ⟨f,wd,J,c7,c8,c9,rfl,G⟩;exact kp L1 (by rw[G.hD,q9])
 ·rintro i y o L1 hy ⟨f,wd,J,c7,c8,c9,rfl,G⟩;obtain⟨z,ez,rfl⟩:=cW hy;obtain⟨p,ep,rfl⟩:=bx ez;have hi:=zb ep;have hp:p<U.length:=mq p<|AC ep;obtain⟨k,hk⟩:∃k,a1[p]?=some k:=⟨_,Ai (by lia)⟩;have ac:U[p]?=some (some k):=by rw[l,Am,hk];rfl
  have pn:p∉I.take i:=λhm=>by
   have e2:I=I.take i++p::I.drop (i+1):=by rw[Ai hi] at ep;rw[<-AS ep,CF,Be]
   have nd:=au;rw[e2] at nd;exact(AB.mp nd).2.2 p hm p (Ao ..) rfl
  have et:I.take (i+1)=I.take i++[p]:=by rw[A3,ep];rfl
  have a2:∀e i' j',some k=some (.nd e i' j')->i'∈I.take i/\j'∈I.take i:=λe i' j' z=>mn ok pm pf ep (by rw[ac,z]);have a5:∀x∈I.take i,∀e i' j',U[x]?=some (some<|.nd e i' j')->i'∈I.take i/\j'∈I.take i:=λx hx e i' j' z=>by
   obtain⟨n,hn⟩:=Ds hx;have av:=zb hn;rw[AM] at av;rw[List.getElem?_take_of_lt (by lia)] at hn;obtain⟨h1,h2⟩:=mn ok pm pf hn z;have sb:∀y,y∈I.take n->y∈I.take i:=λy hy=>by
    have:I.take n=(I.take i).take n:=by rw[List.take_take,BW (by lia)]
    rw[this] at hy;exact BP hy
   exact⟨sb _ h1,sb _ h2⟩
  have plain:pZ L' U I d w D i 1 f wd J L1:=⟨G.sub,G.hd,G.hw,G.hD,G.len,G.val,G.gap,B4 G.wlen⟩;refine⟨λm o L2=>∃wd',o=[some<|.tup [.ref a,zr R],some<|.int s,some<|.int num,some<|.int g,some<|.int off,some<|.ref d,some<|.ref w,some<|.int (i:Int),some<|.int (p:Int),c9]/\pZ L' U I d w D i 1 f wd' J L2/\m=2*i+1-wd'.length,⟨_,wd,rfl,plain,rfl⟩,?_⟩;rintro m o L2 ⟨wd',rfl,C,rfl⟩;have wl:=C.wlen;refine qb C.hw ⟨⟨by lia,by lia⟩,?_⟩;refine jc (λc=>?_) λc=>?_
  ·have c:((jo wd').length:Int)<(i:Int)+((i:Int)+off) / g:=c;rw[v3] at c;have dv:=S0 (i:=(i:Int)) (AN _) (show 1<=g by lia) ho;refine⟨λo L3=>∃j,o=[some<|.tup [.ref a,zr R],some<|.int s,some<|.int num,some<|.int g,some<|.int off,some<|.ref d,some<|.ref w,some<|.int (i:Int),some<|.int (p:Int),c9]/\pZ L' U I d w D i 1 f j J L3/\j.length=wd'.length+1,?_,?_⟩
   ·rintro o L3 ⟨j,rfl,G2,e⟩;exact⟨2*i+1-j.length,by lia,j,rfl,G2,rfl⟩
   ·refine qb C.hw (qo C.hw ⟨by rw[v3];exact big _ (by lia),?_⟩);have:=C.wide (wd':=wd'++[none]) (ex':=1) a3 a0 a4 C.gap.gap (by rw[Aa];show wd'.length+1<=_;lia);rw[<-tG] at this;exact⟨_,EF _,wd'++[none],rfl,this,Aa⟩
  have vp:∀y:Nat,kj (kR J (.inl (p:Int))<|.int ((wd'.length:Nat):Int)) (.inl (y:Int))=if y∈I.take i++[p] then some (.int (((if y=p then wd'.length else f y):Nat):Int)) else none:=λy=>by
   rw[ui];by_cases e:y=p
   ·subst e;rw[AA rfl,AA rfl,AA<|Ah _<|Ak.mpr rfl]
   ·rw[Az λz=>e<|Cd.mp<|Sum.inl.inj z,Az e,C.val];by_cases h:y∈I.take i
    ·rw[AA h,AA<|Ap _ h]
    ·rw[Az h,Az λz=>(Aj.mp z).elim h λz=>e<|Ak.mp z]
  have kl:=C.len;refine qb C.hw ?_;rw[v3];refine xa C.hd ⟨big _ (by lia),?_⟩;have aL:a≠d:=aS ha hd;refine qb ((qc aL).trans<|C.sub _ _ ha)<|qj (xz hk) ?_;have a7:qe L2 d (.dct<|kR J (.inl (p:Int))<|.int ((wd'.length:Nat):Int)) w=some (.lst<|jo wd'):=(qc<|A4 a0).trans C.hw;have hb:∀x∈I.take i,x<U.length:=λx hx=>mq x<|BP hx;have done:cz (λo L1=>∃f wd J c7 c8 c9,o=[some<|.tup [.ref a,zr R],some<|.int s,some<|.int num,some<|.int g,some<|.int off,some<|.ref d,some<|.ref w,c7,c8,c9]/\pZ L' U I d w D (i+1) 0 f wd J L1) [some<|.tup [.ref a,zr R],some<|.int s,some<|.int num,some<|.int g,some<|.int off,some<|.ref d,some<|.ref w,some<|.int (i:Int),some<|.int (p:Int),some<|rM k] (qe (qe L2 d<|.dct<|kR J (.inl (p:Int))<|.int ((wd'.length:Nat):Int)) w<|.lst<|jo wd'++[w5<|iu f<|some k]):=by
   rw[tG];refine⟨_,EF _,λx=>if x=p then wd'.length else f x,wd'++[iu f<|some k],_,_,_,_,rfl,(C.sub.upd hd).upd a3,(qc a0).trans q9,q9,(qc<|A4 a4).trans<|(qc<|A4 ab).trans C.hD,?_,λy=>?_,?_,?_⟩
   ·have:=cb J (.inl (p:Int))<|.int ((wd'.length:Nat):Int);lia
   ·rw[et];exact vp y
   ·rw[et];exact C.gap.step hb pn ac a5 a2
   ·rw[Aa];show wd'.length+1<=_;lia
  refine qb a7 ?_;cases k with
  |lf t n=>exact qo a7 ⟨by rw[v3];exact big _ (by lia),done⟩
  |nd e p1 p2=>
   obtain⟨m1,m2⟩:=a2 e p1 p2 rfl;have v1:=vp p1;have v2:=vp p2;rw[AA<|Ap _ m1,Az λ(z:p1=p)=>pn<|z▸m1] at v1;rw[AA<|Ap _ m2,Az λ(z:p2=p)=>pn<|z▸m2] at v2;refine xa ((q9:qe L2 d _ d=some _))<|qj v1 ?_;refine xa ((q9:qe L2 d _ d=some _))<|qj v2 ?_;exact qo a7 ⟨by rw[v3];exact big _ (by lia),done⟩
 ·rintro o L1 ⟨f,wd,J,c7,c8,c9,rfl,G⟩;have eq:(jO<|nY I).length=I.length:=by rw[bE];exact Ag ..
  rw[eq] at G;have et:I.take I.length=I:=AW;have val:∀p,p<U.length->kj J (.inl (p:Int))=some (.int (f p:Int)):=λp hp=>by rw[G.val,et,AA<|pm.mem_iff.mpr<|AX.mpr hp]
  have gap:uy U (List.range U.length) f wd:=by have g:=G.gap;rw[et] at g;exact⟨λp hp=>g.at_ p<|pm.mem_iff.mpr hp,λp hp r hr=>g.inj p (pm.mem_iff.mpr hp) r<|pm.mem_iff.mpr hr,λx k hx=>let ⟨r,hr,e⟩:=g.only x k hx;⟨r,pm.mem_iff.mp hr,e⟩,g.ok⟩
  have rd:=aF R;have tl:=T.tp.length_eq;rw[A6] at tl;refine⟨R,d,J,f,rfl,G.hd,λB hB x hx=>val x (by rw[al];exact sr.pl B hB x hx),by lia,?_⟩;have wl:=G.wlen;rw[lq] at wl;exact nv (qd.put G.sub G.hw) (q w f wd a3 ⟨by rw[<-l];exact gap,by rw[<-l];lia⟩)
end L3
namespace L2
open PySem PySem.W
section
variable {K:Af}(T:K.lookup Pt=some (PySem.W.tabObj #[]))
include T
theorem vW :clsIn (lessK Pt K) C=clsIn K C:=by
 unfold clsIn;by_cases d:C=Pt
 ·subst d;rw[wz,T]
 ·rw[xr d]
theorem S2{b:Vu}:mroIn (lessK Pt K) C b=mroIn K C b:=by unfold mroIn;rw[vW T]
theorem S3{t b:Vu}:subIn (lessK Pt K) t b=subIn K t b:=by
 unfold subIn;split
 ·rfl
 ·exact S2 T
 ·rfl
end
section
variable {K:Af}(T:K.lookup Pt=some (PySem.W.tabObj #[]))
include T
theorem isFn_dn{a:Addr}(e:isFn K (.ref a)=true):isFn (lessK Pt K) (.ref a)=true:=by
 unfold isFn at e ⊢;by_cases d:a=Pt
 ·subst d;have h:typeIn K (.ref a)=some Value.none:=by show(List.lookup a K).map _=_;rw[T];rfl
  rw[h] at e;cases e
 ·have h:typeIn (lessK Pt K) (.ref a)=typeIn K (.ref a):=by show(List.lookup a<|lessK Pt K).map _=(List.lookup a K).map _;rw[xr d]
  rw[h];exact e
theorem Cls.dn(c:Cls K C):Cls (lessK Pt K) C:=by
 obtain⟨pg,hd,po,sa⟩:=c;unfold plainGet at pg;unfold hasDictIn at hd;unfold plainOver at po;refine⟨?_,?_,?_,(find_dn T).trans sa⟩
 ·unfold plainGet;rw[find_dn T,find_dn T];exact pg
 ·unfold hasDictIn;rw[vW T];exact hd
 ·unfold plainOver;rw[vW T];exact po
theorem makes_dn(e:makesIn K C=true):makesIn (lessK Pt K) C=true:=by
 unfold makesIn at e ⊢;by_cases d:C=Pt
 ·subst d;rw[T] at e;cases e
 ·have h:typeIn (lessK Pt K) (.ref C)=typeIn K (.ref C):=by show(List.lookup C<|lessK Pt K).map _=(List.lookup C K).map _;rw[xr d]
  have s:∀b,subIn (lessK Pt K) b (.type "type")=subIn K b (.type "type"):=λb=>S3 T;unfold instIn at e ⊢;simp only[xr d,nM T d,h,s];exact e
end
end L2
namespace L3
open PySem L2
theorem XFP.dn{K:Af}(T:K.lookup Pt=some (PySem.W.tabObj #[]))(x:XFP K C):XFP (lessK Pt K) C:=⟨Cls.dn T x.cl,(find_dn T).trans x.na⟩
open PySem L2 Words
theorem o6{x y:Vt}(hN:(zj lk).Nodup)(I:x∈lk)(J:y∈lk)(ne:x≠y){s:Nat}(h:r=y.1/\s=y.2\/r=y.2/\s=y.1):(zj<|(lk.filter λz=>decide (z≠x)&&decide (z≠y))++[lC x.1 r,lC x.2 s]).Perm (zj lk):=by
 have pm:=cS<|Sq (vk hN) I J ne;rw[jf,jf] at pm;rw[js,jf,bR];refine Bw.trans<|List.Perm.trans ?_ pm.symm;refine(yd x.1 r _).trans ((((yd x.2 s _).cons _).cons _).trans<|List.Perm.cons _<|(List.Perm.swap ..).trans<|List.Perm.cons _ ?_);rcases h with⟨rfl,rfl⟩|⟨rfl,rfl⟩
 ·exact .refl _
 ·exact .swap ..
theorem S4{a b r:Int}{Q:YK}(h:0<b)(e:a % b=r)(q:Q (.int r) L):uK (.int a) (.int b) L Q:=by subst e;exact⟨h,q⟩
noncomputable def eX:RD "_law_swapped" bN 0 ["_law_web_here","_law_number_here","_law_knots","_law_links","_law_cuts","_law_one","_law_name_here","_law_alike_here","_law_two","_law_row","_law_p","_law_q","_law_x","_law_y"] (λ_=>True):=⟨_,λV B c _ _ _ _ _ _ _ J hN I=>(qa (dQ (qv 0)<|aA (n:=3) rfl<|zf (ww (i:=2) hN rfl<|Or.inr rfl)<|zf (ww (i:=3) hN rfl<|Or.inr rfl)<|zf (G_ 4 hN) vv)<|qa (wy (i:=5) hN rfl (Or.inr rfl)<|qk jj (qv 1)<|L_ B.ba<|qv 3)<|qa (wy (i:=6) hN rfl (Or.inr rfl)<|I_ (I_ (qv 2)<|I_ (I_ (qv 3)<|qv 5) qh) qh)<|qa (wv ["_law_k"] (i:=7) hN rfl (Or.inl rfl) (EL (by rfl)) rfl (ve rfl B.bb<|jt<|L_ B.ba<|qv 3) (jB 14) (λ_ _ _ _=>wc<|bV<|wf (N_ I (qv 14)<|qv 5)<|wg<|E_ I (I_ (I_ (qv 2)<|I_ (I_ (qv 3)<|qv 14) qh) qh)<|qv 6) λ_ _ _ _=>(qv 14))<|qa (zx (E_ I (qv 7)<|zu vd) (qg<|qx<|qv 0) ze)<|qa (wy (i:=8) hN rfl (Or.inr rfl)<|I_ (qv 7)<|qk jj (qk vm (qv 1) qh)<|L_ B.ba<|qv 7)<|qa (wv ["_law_k"] (i:=9) hN rfl (Or.inl rfl) (EL (by rfl)) rfl (ve rfl B.bb<|jt<|L_ B.ba<|qv 3) (jB 14) (λ_ _ _ _=>wc<|jy (nR _ _ _) (qv 14) (zk<|vq (qv 5)<|qv 8) (by with_unfolding_all rfl)) λ_ _ _ _=>(I_ (qv 3)<|qv 14))<|qa (dQ (I_ (qv 3)<|qv 5)<|aA (n:=2) rfl<|zf (G_ 10 hN)<|zf (G_ 11 hN) vv)<|qa (dQ (I_ (qv 3)<|qv 8)<|aA (n:=2) rfl<|zf (G_ 12 hN)<|zf (G_ 13 hN) vv)<|xc (zx (N_ I (I_ (I_ (qv 2)<|qv 10) qh)<|I_ (I_ (qv 2)<|qv 12) qh) (qg<|xQ (i:=12) (j:=13) rfl hN rfl rfl (by decide) rfl rfl (vq (qv 13)<|qv 12) rfl) ze)<|qa (za<|qz (qv 9)<|jt<|zk<|vq (wa F2 rfl B.b_min wM<|vq (qv 10)<|qv 13)<|wa yN rfl B.bh qP<|vq (qv 10)<|qv 13)<|qa (za<|qz (qv 9)<|jt<|zk<|vq (wa F2 rfl B.b_min wM<|vq (qv 12)<|qv 11)<|wa yN rfl B.bh qP<|vq (qv 12)<|qv 11)<|qg<|qx<|zk<|cA (qv 2) (wa rj rfl B.bg jA<|jt<|qv 9)<|qv 4)⟩
noncomputable def mJ:k8:=(eX).1
def sT:k8:=(j7 (w6<|hU jw (qf 9)<|qr (aP<|qr (l8 tK<|cq (qf 10)<|qf 13)<|qr (l8 pq<|cq (qf 10)<|qf 13) x0) x0)
 (j7 (w6<|hU jw (qf 9)<|qr (aP<|qr (l8 tK<|cq (qf 12)<|qf 11)<|qr (l8 pq<|cq (qf 12)<|qf 11) x0) x0)
 (ao<|aP<|qr (qf 2)<|qr (l8 dE<|a8<|qf 9)<|a8<|qf 4)))
def S5:k8:=(uN (fj (DS (jr aN (jr aN (qf 2)<|qf 10)<|dh 0)<|jr aN (jr aN (qf 2)<|qf 12)<|dh 0) (Fk 12 13<|cq (qf 13)<|qf 12) bj)
 (j7 (w6<|hU jw (qf 9)<|qr (aP<|qr (l8 tK<|cq (qf 10)<|qf 13)<|qr (l8 pq<|cq (qf 10)<|qf 13) x0) x0)
 (j7 (w6<|hU jw (qf 9)<|qr (aP<|qr (l8 tK<|cq (qf 12)<|qf 11)<|qr (l8 pq<|cq (qf 12)<|qf 11) x0) x0)
 (ao<|aP<|qr (qf 2)<|qr (l8 dE<|a8<|qf 9)<|a8<|qf 4))))
def S6:k8:=(j7 (xo (xS 1 (bQ<|a8<|r9 3) (ql 14) (yB<|jr (vN true) (qf 14)<|Fs (qf 5)<|qf 8)<|jr aN (qf 3)<|qf 14)<|ql 9)
 (j7 (xo (jr aN (qf 3)<|qf 5)<|eV 2<|ju (ql 10)<|ju (ql 11) cO)
 (j7 (xo (jr aN (qf 3)<|qf 8)<|eV 2<|ju (ql 12)<|ju (ql 13) cO)
 (uN (fj (DS (jr aN (jr aN (qf 2)<|qf 10)<|dh 0)<|jr aN (jr aN (qf 2)<|qf 12)<|dh 0) (Fk 12 13<|cq (qf 13)<|qf 12) bj)
 (j7 (w6<|hU jw (qf 9)<|qr (aP<|qr (l8 tK<|cq (qf 10)<|qf 13)<|qr (l8 pq<|cq (qf 10)<|qf 13) x0) x0)
 (j7 (w6<|hU jw (qf 9)<|qr (aP<|qr (l8 tK<|cq (qf 12)<|qf 11)<|qr (l8 pq<|cq (qf 12)<|qf 11) x0) x0)
 (ao<|aP<|qr (qf 2)<|qr (l8 dE<|a8<|qf 9)<|a8<|qf 4)))))))
structure tN(wd:List<|VG)(lk:Vh):Prop where
 lkA:∀c∈lk,c.1<c.2/\∃t n,wd[c.1]?=some (some<|.lf t n)/\wd[c.2]?=some (some<|.lf (!t) n)
 lkN:(zj lk).Nodup
 lkL:∀p,p∈zj lk↔∃t n,wd[p]?=some (some<|.lf t n)
 lkS:lk.Pairwise ie
 ll:lk.length<=60
 ne:lk≠[]
 wl:wd.length<=241
theorem tT(a b:Nat):lC a b=lC b a:=by unfold lC;rw[Nat.min_comm,Nat.max_comm]
theorem wR{a b:Nat}{n:Str}(J:wd[a]?=some (some<|.lf t n))(I:wd[b]?=some (some<|.lf (!t) n)):(lC a b).1<(lC a b).2/\∃t n,wd[(lC a b).1]?=some (some<|.lf t n)/\wd[(lC a b).2]?=some (some<|.lf (!t) n):=by
 have U:a≠b:=λh=>by subst h;rw[J] at I;cases t<;>cases I
 unfold lC;by_cases c:a<b
 ·rw[BW (by lia),Cy (by lia)];exact⟨c,t,n,J,I⟩
 ·rw[Cv (by lia),CG (by lia)];exact⟨by show b<a;lia,!t,n,I,by rw[Eo];exact J⟩
theorem tN.of{qs:Vh}(I:tN wd lk)(J:(zj qs).Perm<|zj lk)(h:∀c∈qs,c.1<c.2/\∃t n,wd[c.1]?=some (some<|.lf t n)/\wd[c.2]?=some (some<|.lf (!t) n))(U:qs.Pairwise ie):tN wd qs:=by have e:=J.length_eq;rw[a6,a6] at e;have l:=Dy.mpr I.ne;exact⟨h,J.nodup_iff.mpr I.lkN,λp=>(J.mem_iff).trans<|I.lkL p,U,by have:=I.ll;lia,Dy.mp (by lia),I.wl⟩
theorem tN.swap{qs:Vh}(I:tN wd lk){x y:Vt}(l:x∈lk)(o:y∈lk)(ne:x≠y){u:Bool}{n:Str}(x1:wd[x.1]?=some (some<|.lf t n))(p:wd[x.2]?=some (some<|.lf (!t) n))(g:wd[y.1]?=some (some<|.lf u n))(U:wd[y.2]?=some (some<|.lf (!u) n)){s:Nat}(h:t=u/\s=y.1/\r=y.2\/t≠u/\s=y.2/\r=y.1)
 (pm:qs.Perm<|(lk.filter λz=>decide (z≠x)&&decide (z≠y))++[lC x.1 r,lC s x.2]) (C:qs.Pairwise ie):tN wd qs:=by
 have j:wd[s]?=some (some<|.lf t n)/\wd[r]?=some (some<|.lf (!t) n):=by
  rcases h with⟨rfl,rfl,rfl⟩|⟨e,rfl,rfl⟩
  ·exact⟨g,U⟩
  ·have:u=!t:=by cases t<;>cases u<;>simp at e ⊢
   subst this;rw[Eo] at U;exact⟨U,g⟩
 refine I.of ((cS pm).trans (by rw[tT s];exact o6 I.lkN l o ne<|h.elim (λh=>.inr ⟨h.2.2,h.2.1⟩) λh=>.inl ⟨h.2.2,h.2.1⟩)) (λc J=>?_) C;rcases Aj.mp (pm.mem_iff.mp J) with J|J
 ·exact I.lkA c (AJ.mp J).1
 ·rcases Aq.mp J with rfl|J
  ·exact wR x1 j.2
  ·rw[Ak.mp J];exact wR j.1 p
theorem Jo(a b:Nat):(Y.tup [.int<|min (a:Int) (b:Int),.int<|max (a:Int) (b:Int)])=n_ (lC a b):=by
 have I:min (a:Int) (b:Int)=((min a b:Nat):Int):=by omega
 have J:max (a:Int) (b:Int)=((max a b:Nat):Int):=by omega
 unfold n_ lC;rw[I,J]
def dU:zd:=λys L Q=>∃a l c,∃wd:List (VG),∃lk:Vi,∃num:Int,ys=[v9 a l c,.int num]/\L a=some (.lst<|jo wd)/\L l=some (.lst<|qm lk)/\tN wd lk/\∀D pR L',qd L L'->L' D=some (.lst<|qm pR)->tN wd pR->Q (v9 a D c) L'
theorem S7{wd:List<|VG}{lk rs:Vh}{a p9:Addr}{A B C D:Nat}(g:L p9=some (.lst<|qm rs))(hz:rs.length<=60)(nd:(rs++[lC A D,lC C B]).Nodup)(J:∀p∈rs++[lC A D,lC C B],p.2<1000000)(s:qd L0 L)(U:L0 p9=none)
 (q:∀I qs L',qd L0 L'->L' I=some (.lst<|qm qs)->qs.Perm (rs++[lC A D,lC C B])->qs.Pairwise ie->En.rt (v9 a I c) L'):
 sT En [c0,c1,some<|.ref a,some<|.ref l,some<|.ref c,c5,c6,c7,c8,some<|.ref p9,some<|.int (A:Int),some<|.int (B:Int),some<|.int (C:Int),some<|.int (D:Int)] L:=by
 have big:=a_;have pl:∀l:Vi,(qm l).length=l.length:=λl=>Ag ..;refine qo g (qo g ⟨by rw[pl];exact big _ (by lia),?_⟩);rw[Jo,cf];refine qo q9 (qo q9 ⟨by rw[pl,Aa];exact big _ (by show rs.length+1<=_;lia),?_⟩);rw[Jo,cf,zh,Ay];show dE [.ref p9] (qe L p9<|.lst<|qm<|rs++[lC A D,lC C B]) λz L'=>En.rt (.tup [.ref a,z,.ref c]) L';exact Gh q9 J nd (by rw[Aa];show rs.length+2<=_;lia) λI qs j pm o=>q I qs _ ((s.upd U).trans<|By j) q9 pm o
theorem S8{a p9:Addr}{x y:Vt}{u:Bool}{n:Str}(I:tN wd lk)(o:x∈lk)(C:y∈lk)(j:x≠y)(x1:wd[x.1]?=some (some<|.lf t n))(x2:wd[x.2]?=some (some<|.lf (!t) n))(y1:wd[y.1]?=some (some<|.lf u n))(y2:wd[y.2]?=some (some<|.lf (!u) n))
 (ha:L a=some (.lst<|jo wd)) (g:L p9=some (.lst<|qm<|lk.filter λz=>decide (z≠x)&&decide (z≠y))) (s:qd L0 L) (h0:L0 p9=none) (q:∀T qs L',qd L0 L'->L' T=some (.lst<|qm qs)->tN wd qs->En.rt (v9 a T c) L'):
 S5 En [c0,c1,some<|.ref a,some<|.ref l,some<|.ref c,c5,c6,c7,c8,some<|.ref p9,some<|.int (x.1:Int),some<|.int (x.2:Int),some<|.int (y.1:Int),some<|.int (y.2:Int)] L:=by
 have wl:=I.wl;have z2:=I.ll;have tail:∀r J:Nat,(t=u/\J=y.1/\r=y.2\/t≠u/\J=y.2/\r=y.1)->sT En [c0,c1,some<|.ref a,some<|.ref l,some<|.ref c,c5,c6,c7,c8,some<|.ref p9,some<|.int (x.1:Int),some<|.int (x.2:Int),some<|.int (J:Int),some<|.int (r:Int)] L:=λr J h=>by
  have fl:=Bi (λz=>decide (z≠x)&&decide (z≠y)) lk;have nd:((lk.filter λz=>decide (z≠x)&&decide (z≠y))++[lC x.1 r,lC J x.2]).Nodup:=by refine vk ?_;rw[tT J];exact(o6 I.lkN o C j<|h.elim (λh=>.inr ⟨h.2.2,h.2.1⟩) λh=>.inl ⟨h.2.2,h.2.1⟩).nodup_iff.mpr I.lkN
  refine S7 (lk:=lk) (wd:=wd) g (by lia) nd (λp U=>?_) s h0 λT qs L' t1 t2 pm pw=>q T qs L' t1 t2<|I.swap o C j x1 x2 y1 y2 h pm pw;have lt:∀p∈zj lk,p<wd.length:=λp U=>by obtain⟨_,_,e⟩:=(I.lkL p).mp U;exact zb e
  have l1:=lt _ (bO o).1;have l2:=lt _ (bO o).2;have l3:=lt _ (bO C).1;have l4:=lt _ (bO C).2;rcases Aj.mp U with U|U
  ·have:=lt _ (bO (AJ.mp U).1).2;lia
  ·rcases Aq.mp U with rfl|U
   ·show max _ _<_;lia
   ·rw[Ak.mp U];show max _ _<_;lia
 refine⟨λτ L'=>∃r J:Nat,(t=u/\J=y.1/\r=y.2\/t≠u/\J=y.2/\r=y.1)/\τ=[c0,c1,some<|.ref a,some<|.ref l,some<|.ref c,c5,c6,c7,c8,some<|.ref p9,some<|.int (x.1:Int),some<|.int (x.2:Int),some<|.int (J:Int),some<|.int (r:Int)]/\L'=L,?_,?_⟩
 ·refine qb ha<|qj (xz x1)<|qb ha<|qj (xz y1) ?_;cases t<;>cases u
  ·exact⟨y.2,y.1,.inl ⟨rfl,rfl,rfl⟩,rfl,rfl⟩
  ·exact⟨y.1,y.2,.inr ⟨by decide,rfl,rfl⟩,rfl,rfl⟩
  ·exact⟨y.1,y.2,.inr ⟨by decide,rfl,rfl⟩,rfl,rfl⟩
  ·exact⟨y.2,y.1,.inl ⟨rfl,rfl,rfl⟩,rfl,rfl⟩
 ·rintro τ L' ⟨r,J,h,rfl,rfl⟩;exact tail r J h
theorem S9{g:qp}{a:Addr}{c9 br c11 c12 c13:Option Y}{k:Nat}{x y:Vt}{u:Bool}{n:Str}(I:tN wd lk)(ex:lk[k]?=some x)(T:lk[j]?=some y)(a0:x≠y)(x1:wd[x.1]?=some (some<|.lf t n))(x2:wd[x.2]?=some (some<|.lf (!t) n))(y1:wd[y.1]?=some (some<|.lf u n))(y2:wd[y.2]?=some (some<|.lf (!u) n))
 (a1:g a=some (.lst<|jo wd)) (J:g l=some (.lst<|qm lk)) (s8:qd L g) (q:∀Dd qs L',qd L L'->L' Dd=some (.lst<|qm qs)->tN wd qs->En.rt (v9 a Dd c) L'):
 S6 En [c0,c1,some<|.ref a,some<|.ref l,some<|.ref c,some<|.int (k:Int),c6,c7,some<|.int (j:Int),c9,br,c11,c12,c13] g:=by
 have big:=a_;have pl:(qm lk).length=lk.length:=Ag ..;have z2:=I.ll;have mx:=AC ex;have my:=AC T;refine qb J ⟨⟨AN _,by rw[pl];lia⟩,?_⟩;rw[pl,Bn];refine gU (λi us=>us=qm ((lk.take i).filter λz=>decide (z≠x)&&decide (z≠y))) (big _ (by lia)) rfl ?_ ?_
 ·rintro i us hi rfl;have U:lk[i]?=some lk[i]:=Ai hi;generalize lk[i]=z at U;have e0:(0:Int)+(i:Int)=(i:Int):=Bv _;rw[e0];refine⟨rfl,rfl,?_⟩;show kn (!(sH (di<|.int (i:Int))<|([.int (k:Int),.int (j:Int)]:List Y).map di)) _ _;rw[yW];have idx:∀m w,lk[m]?=some w->(z=w↔i=m):=λm w ew=>by obtain⟨hm,ew⟩:=AL.mp ew;obtain⟨hi,U⟩:=AL.mp U;rw[<-U,<-ew];exact Do (vk I.lkN)
  have i1:=idx k x ex;have i2:=idx j y T;by_cases c:i=k\/i=j
  ·refine wn (by rw[AE c];rfl) ⟨_,EF _,rfl,?_⟩;rw[A3,U,AV];have:([z].filter λz=>decide (z≠x)&&decide (z≠y))=[]:=Br (by rw[<-i1,<-i2] at c;simp;intro h;exact c.resolve_left h);rw[Option.toList_some,this,Aw]
  ·refine aH (by rw[Av c];rfl)<|qb J<|qj (jl<|l7 U) ⟨_,EF _,rfl,?_⟩;rw[<-i1,<-i2] at c;rw[A3,U,AV];have:([z].filter λz=>decide (z≠x)&&decide (z≠y))=[z]:=Bt (by simp;exact⟨λh=>c<|.inl h,λh=>c<|.inr h⟩);rw[Option.toList_some,this,cf]
 rintro us rfl p9 p;rw[AW];have C:=By (o:=.lst<|qm<|lk.filter λz=>decide (z≠x)&&decide (z≠y)) p;have g9:qe g p9 (.lst<|qm<|lk.filter λz=>decide (z≠x)&&decide (z≠y)) p9=some (.lst<|qm<|lk.filter λz=>decide (z≠x)&&decide (z≠y)):=q9;have n9:=s8.none p;generalize qe g p9 (.lst<|qm<|lk.filter λz=>decide (z≠x)&&decide (z≠y))=L9 at C g9 ⊢;have r:=C _ _ J;have a2:=C _ _ a1;refine qb r<|qj (jl<|l7 ex)<|qb r<|qj (jl<|l7 T) ?_;exact S8 I mx my a0 x1 x2 y1 y2 a2 g9 (s8.trans C) n9 q
theorem wU:∀ys L Q,dU ys L Q->x4 mJ 14 ys L Q:=by
 rintro ys L Q ⟨a,l,c,wd,lk,num,rfl,ha,g,I,q⟩;have big:=a_;have pl:(qm lk).length=lk.length:=Ag ..;have z2:=I.ll;have wl:=I.wl;obtain⟨k,x,ek,hk,ex⟩:=mF (Dy.mpr I.ne) num;have mx:=AC ex;obtain⟨lx,t,n,x1,x2⟩:=I.lkA x mx;have em:num % ((qm lk).length:Int)=(k:Int):=by rw[pl];exact ek
 refine qb g (S4 (by rw[pl];lia) em ?_);refine qb g<|qj (jl<|l7 ex)<|qb ha<|qj (xz x1) ?_;refine qb g ⟨⟨AN _,by rw[pl];lia⟩,?_⟩;rw[pl,Bn];refine gU (λi C=>∃os:Vl,C=nY os/\os.length<=i/\∀j∈os,j≠k/\∃y u,lk[j]?=some y/\wd[y.1]?=some (some<|.lf u n)/\wd[y.2]?=some (some<|.lf (!u) n)) (big _ (by lia)) ⟨[],rfl,Al _,nofun⟩ ?_ ?_
 ·rintro i C hi ⟨os,rfl,lo,ho⟩;have U:lk[i]?=some lk[i]:=Ai hi;generalize lk[i]=y at U;obtain⟨_,u,m,y1,y2⟩:=I.lkA y<|AC U;have no:cz (λC L'=>L'=L/\∃os:Vl,C=nY os/\os.length<=i+1/\∀j∈os,j≠k/\∃y u,lk[j]?=some y/\wd[y.1]?=some (some<|.lf u n)/\wd[y.2]?=some (some<|.lf (!u) n)) (nY os) L:=⟨_,EF _,rfl,os,rfl,B4 lo,ho⟩;have e0:(0:Int)+(i:Int)=(i:Int):=Bv _;rw[e0];by_cases ck:i=k
  ·exact wn (by rw[AE<|BO Nat.cast ck];rfl) no
  ·refine aH (by rw[Av λz=>ck<|Cd.mp z];rfl) ?_;refine qb g<|qj (jl<|l7 U)<|qb ha<|qj (xz y1) ?_;refine jc (λh=>?_) λ_=>no;have h:m=n:=h;subst h;refine⟨_,EF _,rfl,os++[i],by rw[we];rfl,by rw[Aa];exact CT lo,λj p=>?_⟩;rcases Aj.mp p with p|p
   ·exact ho j p
   ·rw[Ak.mp p];exact⟨ck,y,u,U,y1,y2⟩
 rintro C ⟨os,rfl,lo,ho⟩ p7 a0;have s7:=By (o:=.lst<|nY os) a0;have g7:qe L p7 (.lst<|nY os) p7=some (.lst<|(os.map λn:Nat=>(n:Int)).map Y.int):=by rw[q9,kY]
 generalize qe L p7 (.lst<|nY os)=L7 at s7 g7 ⊢;intro p8 T;have s8:=s7.trans<|By (o:=.lst []) T;have g8:=By (o:=.lst []) T _ _ g7;refine cJ (n:=0) (m:=0) (by decide) g8 q9 (fc _) .nil ?_;generalize qe L7 p8 (.lst [])=L8 at s8 g8 ⊢;cases os with
 |nil=>exact nv s8<|q l lk L (EF _) g I
 |cons o os=>
  rw[<-kY] at g8;obtain⟨j,mj,ej⟩:∃r,r∈o::os/\bz (nY<|o::os) (num / 64 % ((nY<|o::os).length:Int))=some (.int ((r:Nat):Int)):=ff (E:=o::os) (BV _)<|num / 64;obtain⟨a1,y,u,U,y1,y2⟩:=ho j mj;have my:=AC U;have a2:x≠y:=λe=>by obtain⟨p,U⟩:=AL.mp U;obtain⟨hk,ex⟩:=AL.mp ex;exact a1<|(Do<|vk I.lkN).mp<|U.trans<|e.symm.trans ex.symm
  refine⟨⟨by decide,by decide⟩,qb g8 ⟨by rw[zv];exact Int.ofNat_lt.mpr<|BV _,qb g8<|qj ej ?_⟩⟩;exact S9 I ex U a2 x1 x2 y1 y2 (s8 _ _ ha) (s8 _ _ g) s8 λDd qs L' t1 t2 J=>xh<|q Dd qs L' t1 t2 J
def vI(I:Addr)(J:zd)(p1:zd):k8:=(j7 (xo (gt I "head_of" J (qf 0)<|a8<|qf 2)<|ql 3)
 (ao<|xS 1 (aj<|v4 p1<|a8<|qf 1) (ql 4) (ss (gt I "head_of" J (qf 0)<|a8<|qf 4)<|qf 3)<|qf 4))
def wZ(I:Addr)(J:zd)(p1:zd)(p2:zd)(p3:zd):k8:=(j7 (xo (F7 I J<|a8<|r9 0)<|ql 4)
 (j7 (iZ (aj<|qf 1) (ql 5)<|w6<|gt I "unite" p1 (qf 4)<|cq (jZ 5 0)<|jZ 5 1)
 (j7 (fj (ss (gt I "head_of" p2 (qf 4)<|a8<|qf 2)<|gt I "head_of" p2 (qf 4)<|a8<|qf 3) (ao<|yC .non) bj)
 (ao<|aP<|qr (v4 p3<|qr (qf 4)<|cq (qf 0)<|qf 2)<|qr (v4 p3<|qr (qf 4)<|cq (qf 0)<|qf 3) x0))))
inductive dZ(es:Vh)(p:Nat):Nat->Prop
 |self:dZ es p p
 |fwd {a b:Nat}:dZ es p a->(a,b)∈es->dZ es p b
 |bwd {a b:Nat}:dZ es p a->(b,a)∈es->dZ es p b
theorem dZ.trans{es:Vh}(h:dZ es p q)(k:dZ es q r):dZ es p r:=by induction k with|self=>exact h|fwd _ m I=>exact .fwd I m|bwd _ m I=>exact .bwd I m
theorem dZ.symm{es:Vh}(h:dZ es p q):dZ es q p:=by induction h with|self=>exact .self|fwd _ m I=>exact(dZ.bwd .self m).trans I|bwd _ m I=>exact(dZ.fwd .self m).trans I
theorem ye(es:Vh):Eqv (dZ es):=⟨λ_=>.self,dZ.symm,dZ.trans⟩
theorem S'{es:Vh}(g:Gd (List.range n) hs)(j:JnR (List.range n) hs es)(hp:p<n):dZ es p q↔j_ hs p q:=by
 obtain⟨U,rk,l⟩:=g;rw[A6] at U;refine⟨λh=>?_,λh=>j.2.2 _ (ye es) (λx o=>.fwd .self o) (xP (ye es) n) p q h⟩;have J:∀{a b c},j_ hs a b->j_ hs b c->j_ hs a c:=λ ψ χ=>(by obtain⟨r,C,T⟩:=ψ;obtain⟨s,q1,q2⟩:=χ;exact ⟨r,C,T.uniq q1▸q2⟩)
 induction h with
 |self=>
  obtain⟨r,t⟩:=l.rep' (i:=p) (by lia);exact⟨r,t,t⟩
 |fwd _ m I=>exact J I<|j.2.1 _ m
 |bwd _ m I=>obtain⟨r,a,b⟩:=j.2.1 _ m;exact J I ⟨r,b,a⟩
theorem o4{es fs:Vh}(h:∀x,x∈es↔x∈fs) :dZ es p q↔dZ fs p q:=by
 have key:∀{es fs:Vh},(∀x,x∈es->x∈fs)->dZ es p q->dZ fs p q:=λh k=>by induction k with|self=>exact .self|fwd _ m I=>exact .fwd I (h _ m)|bwd _ m I=>exact .bwd I<|h _ m
 exact⟨key λx=>(h x).mp,key λx=>(h x).mpr⟩
noncomputable def wq(es:Vh)(p q:Nat):Bool:=@decide (dZ es p q)<|Classical.propDecidable _
theorem xq{es:Vh} :wq es p q=true↔dZ es p q:=by unfold wq;exact @CC _<|Classical.propDecidable _
noncomputable def bK(wd:List<|VG)(es:Vh)(p:Nat):Vl:=(z7 wd).filter<|wq es p
def gh(C:Addr):zd:=λys L Q=>∃o hp a,∃hs:Vl,∃wd:List (VG),∃p:Nat,∃m rk:Vs,ys=[.ref o,.ref a,.int (p:Int)]/\L o=some (.ins C<|qE hp)/\L hp=some (.lst<|nY hs)/\L a=some (.lst<|jo wd)/\hs.length=wd.length/\wd.length<=1000/\p<wd.length/\kU rk hs/\(∀x,x<wd.length->af hs x (m x))/\
 ∀D mv L',mv.length=hs.length->kU rk mv->(∀x s,af hs x s->af mv x s)->qd (qe L hp<|.lst<|nY mv) L'->L D=none->L' D=some (.lst<|nY<|(z7 wd).filter λx=>decide<|m x=m p)->Q (.ref D) L'
theorem vJ :∀ys L Q,gh C ys L Q->x4 (vI C (iU C) fB) 4 ys L Q:=by
 rintro ys L Q ⟨o,J,a,hs,g,p,m,rk,rfl,ho,j,ha,hl,hz,a0,hr,hm,q⟩;have T:o≠J:=FU ho j (λe=>by cases e);have a3:a≠J:=λe=>by subst e;rw[ha] at j;cases g with|nil=>exact absurd a0 (Ew _)|cons k r=>cases hs with|nil=>exact absurd hl (by simp)|cons b s=>cases k with|none=>cases j|some k=>cases k<;>cases j
 refine w4 ho ⟨rfl,bF,o,J,hs,p,_,rk,rfl,rfl,ho,j,hr,by lia,λr U l1 k1 t1 a1 n1=>?_⟩;cases t1.uniq (hm p a0);refine⟨a,g,rfl,(qc a3).trans ha,hz,λt ht=>?_⟩;have l:J≠t:=aS q9 ht;have a5:o≠t:=aS ((qc T).trans ho) ht;have nt:L t=none:=aK ht;have s1:∀A:Vl,qd (qe L J<|.lst<|nY A) (qe (qe (qe L J<|.lst<|nY U) t<|.lst<|nY<|z7 g) J<|.lst<|nY A):=λA=>by rw[fW l,zh,fW<|A4 l];exact By<|(qc<|A4 l).trans nt
 have x3:∀A,qe (qe (qe L J<|.lst<|nY U) t<|.lst<|nY<|z7 g) J A o=some (.ins C<|qE J):=λA=>(qc T).trans<|(qc a5).trans<|(qc T).trans ho;have t4:∀A,qe (qe (qe L J<|.lst<|nY U) t<|.lst<|nY<|z7 g) J A t=some (.lst<|nY<|z7 g):=λA=>(qc<|A4 l).trans q9;have e0:qe (qe L J<|.lst<|nY U) t (.lst<|nY<|z7 g)=qe (qe (qe L J<|.lst<|nY U) t<|.lst<|nY<|z7 g) J (.lst<|nY U):=(bC<|(qc l).trans q9).symm;rw[e0];generalize qe (qe L J<|.lst<|nY U) t (.lst<|nY<|z7 g)=L3 at s1 x3 t4 ⊢;refine x9 (t4 _) λkeep kp=>wP ⟨by rw[zv];exact Bp (AO (aq _ _ _) hz) (by decide),λk zs L'=>∃I,L'=qe L3 J (.lst<|nY I)/\I.length=g.length/\kU rk I/\(∀y s,af hs y s->af I y s)/\zs=nY (((z7 g).take k).filter λx=>decide<|m x=m p),⟨U,rfl,by lia,k1,a1,rfl⟩,?_,?_,?_⟩
 ·rintro k zs L' ⟨I,rfl,_⟩;exact kp _<|(t4 _).trans (t4 _).symm
 ·rintro k y zs L' hy ⟨I,rfl,l3,k3,r3,rfl⟩;obtain⟨n,en,rfl⟩:=bx hy;have hn:=(aJ<|AC en).1;have ek:(z7 g).take (k+1)=(z7 g).take k++[n]:=by rw[A3,en];rfl
  refine w4 (x3 _) ⟨rfl,bF,o,J,I,n,_,rk,rfl,rfl,x3 _,q9,k3,by lia,λr a2 l4 k4 t4 a4 n4=>?_⟩;cases t4.uniq (r3 _ _<|hm n hn);show kn (decide<|(m n:Int)=(m p:Int)) _ _;rw[fV];refine jc (λcc=>⟨_,EF _,a2,zh,by lia,k4,λy s z=>a4 y s<|r3 y s z,?_⟩) λcc=>⟨_,EF _,a2,zh,by lia,k4,λy s z=>a4 y s<|r3 y s z,?_⟩
  ·rw[ek,AV,Bt (by exact AE cc),Bh,we];rfl
  ·rw[ek,AV,Br (by rw[Av cc];exact AF),Bh,Aw]
 ·rintro zs L' ⟨I,rfl,l3,k3,r3,rfl⟩ D hD;rw[zv,AW];have sD:=By (o:=.lst<|nY<|(z7 g).filter λx=>decide<|m x=m p) hD;exact xh<|q D I _ (by lia) k3 r3 ((s1 I).trans sD) (aK<|(s1 I).none hD) q9
def gu(C:Addr):zd:=λys L Q=>∃a e,∃wd:List (VG),∃es:Vi,∃p q:Nat,ys=[.ref a,.ref e,.int (p:Int),.int (q:Int)]/\L a=some (.lst<|jo wd)/\L e=some (.lst<|qm es)/\wd.length<=1000/\(∀x∈es,x.1<wd.length/\x.2<wd.length)/\p<wd.length/\q<wd.length/\
 (dZ es p q->∀L',qd L L'->Q .non L')/\(¬dZ es p q->∀D1 D2 L',qd L L'->L D1=none->L D2=none->D1≠D2->L' D1=some (.lst<|nY<|bK wd es p)->L' D2=some (.lst<|nY<|bK wd es q)->Q (.tup [.ref D1,.ref D2]) L')
theorem Ta :∀ys L Q,gu C ys L Q->x4 (wZ C (mH C) (nV C) (iU C)<|gh C) 6 ys L Q:=by
 rintro ys L Q ⟨a,e,I,T,p,q,rfl,ha,he,hz,hb,j,l,q1,q2⟩;refine qb ha λx hx=>⟨x,I.length,_,rfl,by rw[v3],q9,hz,λJ a0=>⟨rfl,?_⟩⟩;have a3:x≠J:=aS q9 a0;have a4:L J=none:=aK a0;have a5:(qe (qe (qe L x<|.ins C []) J<|.lst<|nY<|List.range I.length) x<|.ins C<|qE J) x=some (.ins C<|qE J):=q9;have a7:(qe (qe (qe L x<|.ins C []) J<|.lst<|nY<|List.range I.length) x<|.ins C<|qE J) J=some (.lst<|nY<|List.range I.length):=(qc<|A4 a3).trans q9;have sub:qd L (qe (qe (qe L x<|.ins C []) J<|.lst<|nY<|List.range I.length) x<|.ins C<|qE J):=(((By hx).trans<|By a0).upd hx);generalize qe (qe (qe L x<|.ins C []) J<|.lst<|nY<|List.range I.length) x (.ins C<|qE J)=L2 at a5 a7 sub ⊢;have ln:(List.range I.length).length=I.length:=A6;have fo:∀A,qe L2 J A x=some (.ins C<|qE J):=λA=>(qc a3).trans a5;have sL:∀A,qd L (qe L2 J A):=λA=>sub.upd a4;refine x9 (sub _ _ he) λkeep kp=>ku ⟨λi τ L'=>∃U c5,τ=[some<|.ref a,some<|.ref e,some<|.int (p:Int),some<|.int (q:Int),some<|.ref x,c5]/\L'=qe L2 J (.lst<|nY U)/\Gd (List.range I.length) U/\JnR (List.range I.length) U (T.take i),⟨_,_,rfl,(bC a7).symm,⟨rfl,_,Sl _⟩,λ_ _ z=>z,(λx hx=>by cases hx),λ_ _ _ F=>F⟩,?_,?_,?_⟩
 ·rintro i τ L' ⟨U,c5,rfl,rfl,_⟩;exact kp _ (by rw[sL _ _ _ he,sub _ _ he])
 ·rintro i y τ L' hy ⟨U,c5,rfl,rfl,⟨g1,rk,g2⟩,jn⟩;rw[Am] at hy;obtain⟨⟨u,v⟩,ex,rfl⟩:=Ar.mp hy;obtain⟨h1,h2⟩:=hb _<|AC ex;have h1:u<I.length:=h1;have h2:v<I.length:=h2;obtain⟨ru,tu⟩:=g2.rep' (i:=u) (by lia);obtain⟨rv,tv⟩:=g2.rep' (i:=v) (by lia);refine w4 (fo _) ⟨rfl,xC,x,J,U,u,v,ru,rv,_,_,rfl,rfl,rfl,fo _,q9,⟨rk,g2⟩,tu,tv,by lia,by lia,λo l2 k2 r2 _ _=>?_⟩;rw[zh];have et:T.take (i+1)=T.take i++[(u,v)]:=by rw[A3,ex];rfl
  exact⟨_,EF _,o,_,rfl,rfl,⟨by lia,k2⟩,by rw[et];exact jn.snoc g2 l2 r2 tu tv⟩
 rintro τ L' ⟨U,c5,rfl,rfl,g,jn⟩;rw[Ag,AW] at jn;have rc:∀{u v},u<I.length->(dZ T u v↔j_ U u v):=λh=>S' g jn h;obtain⟨gl,rk,gr⟩:=g;rw[ln] at gl;have hex:∀n,∃r,n<I.length->af U n r:=λn=>by
  by_cases c:n<I.length
  ·obtain⟨r,t⟩:=gr.rep' (i:=n) (by lia);exact⟨r,λ_=>t⟩
  ·exact⟨0,λh=>absurd h c⟩
 obtain⟨m,hm⟩:=Classical.axiomOfChoice hex;have cm:∀{u v},u<I.length->v<I.length->(m v=m u↔dZ T u v):=λ{u v} hu hv=>by rw[rc hu];exact⟨λe=>⟨m u,hm u hu,e▸hm v hv⟩,λ ψ=>(by obtain⟨r,p,q⟩:=ψ;exact ((hm v hv).uniq q).trans ((hm u hu).uniq p).symm)⟩
 have fl:∀{u},u<I.length->((z7 I).filter λx=>decide<|m x=m u)=bK I T u:=λ{u} hu=>by refine CO λv hv=>?_;rw[Bz,CC,xq];exact cm hu (aJ hv).1
 refine w4 (fo _) ⟨rfl,bF,x,J,U,p,_,rk,rfl,rfl,fo _,q9,gr,by lia,λr1 ab l1 k1 t1 a1 _=>?_⟩;rw[zh];refine w4 (fo _) ⟨rfl,bF,x,J,ab,q,_,rk,rfl,rfl,fo _,q9,k1,by lia,λr2 o l2 k2 t2 a2 _=>?_⟩;rw[zh];cases t1.uniq (hm p j);cases t2.uniq (a1 _ _<|hm q l);show kn (decide<|(m p:Int)=(m q:Int)) _ _;rw[fV];refine jc (λc=>xh<|q1 ((cm j l).mp c.symm) _<|sL _) λc=>?_;have nr:¬dZ T p q:=λh=>c ((cm j l).mpr h).symm;have m2:∀y,y<I.length->af o y (m y):=λy hy=>a2 _ _<|a1 _ _<|hm y hy;refine⟨x,J,a,o,I,p,m,rk,rfl,fo _,q9,sL _ _ _ ha,by lia,hz,j,k2,m2,λD1 ac L3 l3 k3 r3 s3 n1 e1=>?_⟩;rw[zh] at s3;have o3:=s3 _ _<|fo _;have h3:=s3 _ _ q9;have s4:=(sL _).trans s3;refine⟨x,J,a,ac,I,q,m,rk,rfl,o3,h3,s4 _ _ ha,by lia,hz,l,k3,λy hy=>r3 _ _<|m2 y hy,λD2 al L4 l4 k4 r4 s5 n2 e2=>?_⟩;have np:D1≠J:=λz=>by rw[z,q9] at n1;cases n1
 have k1:qe L3 J (.lst<|nY al) D1=some (.lst<|nY<|(z7 I).filter λx=>decide<|m x=m p):=(qc np).trans e1;have f1:L D1=none:=(sL _).none n1;have t5:qd L L4:=(s4.upd a4).trans s5;have f2:L D2=none:=s4.none n2;exact xh<|q2 nr D1 D2 L4 t5 f1 f2 (aS e1 n2) (by rw[s5 _ _ k1,fl j]) (by rw[e2,fl l])
def rq:k8:=(j7 (mB 4<|xo (xS 1 (bQ<|a8<|qf 0) (ql 8) FY<|dF x0)<|ql 3)
 (j7 (iZ (aj<|qf 1) (eV 2<|ju (ql 4)<|ju (ql 5) cO) (j7 (w6<|hU jw (jr aN (qf 3)<|qf 4)<|a8<|qf 5)
 (w6<|hU jw (jr aN (qf 3)<|qf 5)<|a8<|qf 4)))
 (j7 (mB 4<|xo (xS 1 (bQ<|a8<|qf 0) (ql 8) FY<|jr (c_ false) (qf 8)<|qf 2)<|ql 6)
 (j7 (xo (dF<|a8<|qf 2)<|ql 7)
 (j7 (qX (DS (qf 7)<|dF x0) (iZ (aj<|jr aN (qf 3)<|hU Bs (qf 7) x0) (ql 5) (fj (FX<|yB<|jr aN (qf 6)<|qf 5) (j7 (uT (qf 6) (qf 5)<|yC<|.bl true)
 (w6<|hU jw (qf 7)<|a8<|qf 5)) bj)))
 (mB 4<|ao<|xS 1 (bQ<|a8<|qf 0) (ql 8) (yB<|jr aN (qf 6)<|qf 8)<|qf 8))))))
def Tb:k8:=(j7 (qX (DS (qf 7)<|dF x0) (iZ (aj<|jr aN (qf 3)<|hU Bs (qf 7) x0) (ql 5) (fj (FX<|yB<|jr aN (qf 6)<|qf 5) (j7 (uT (qf 6) (qf 5)<|yC<|.bl true)
 (w6<|hU jw (qf 7)<|a8<|qf 5)) bj)))
 (mB 4<|ao<|xS 1 (bQ<|a8<|qf 0) (ql 8) (yB<|jr aN (qf 6)<|qf 8)<|qf 8))
structure yo(L:qp)(na:Addr)(ad:List Addr)(f:Nat->Vl)(L':qp):Prop where
 sub:qd L L'
 hn:L' na=some (.lst<|ad.map Y.ref)
 nn:L na=none
 nw:∀r∈ad,L r=none
 ne:na∉ad
 nd:ad.Nodup
 at_:∀(i:Nat) (r:Addr),ad[i]?=some r->L' r=some (.lst<|nY<|f i)
theorem yo.upd{t:Addr}{f:Nat->Vl}{o:LO}(N:yo L na ad f L')(h1:t≠na)(h2:t∉ad)(I:L t=none):yo L na ad f (qe L' t o):=
 ⟨N.sub.upd I,(qc<|A4 h1).trans N.hn,N.nn,N.nw,N.ne,N.nd,λi r e=>(qc λ(z:r=t)=>h2<|z▸AC e).trans<|N.at_ i r e⟩
theorem yo.app{r:Addr}{f:Nat->Vl}{u v:Nat}(N:yo L na ad f L')(e:ad[u]?=some r):yo L na ad (λy=>if y=u then f y++[v] else f y) (qe L' r<|.lst<|nY (f u)++[Y.int (v:Int)]):=by
 have J:=AC e;refine⟨N.sub.upd<|N.nw r J,(qc λ(z:na=r)=>N.ne<|z▸J).trans N.hn,N.nn,N.nw,N.ne,N.nd,λi s I=>?_⟩;by_cases c:i=u
 ·subst c;rw[e] at I;cases I;rw[q9,AA rfl,we];rfl
 ·rw[qc λz=>?_,Az c]
  ·exact N.at_ i s I
  ·subst z;have U:=AL.mp e;have g:=AL.mp I;obtain⟨j,g1⟩:=U;obtain⟨l,g2⟩:=g;exact c<|(Do N.nd).mp<|g2.trans g1.symm
def iD(es:Vh)(x:Nat):Vl:=es.flatMap λe=>(if e.1=x then [e.2] else [])++if e.2=x then [e.1] else []
theorem Tc(es:Vh)(e:Vt)(x:Nat):iD (es++[e]) x=iD es x++((if e.1=x then [e.2] else [])++if e.2=x then [e.1] else []):=by unfold iD;rw[A1,Bj,CA,Aw]
theorem lT{es:Vh}{x y:Nat}:y∈iD es x↔(x,y)∈es\/(y,x)∈es:=by
 unfold iD;rw[Bd];constructor
 ·rintro⟨⟨a,b⟩,h,m⟩;rcases Aj.mp m with m|m
  ·by_cases c:a=x
   ·rw[AA c] at m;rw[Ak.mp m,<-c];exact .inl h
   ·rw[Az c] at m;cases m
  ·by_cases c:b=x
   ·rw[AA c] at m;rw[Ak.mp m,<-c];exact .inr h
   ·rw[Az c] at m;cases m
 ·rintro(h|h)
  ·exact⟨_,h,by simp⟩
  ·exact⟨_,h,by simp⟩
theorem yh(x:Nat):∀es:Vi,(iD es x).length<=2*es.length
 |[]=>Al _
 |e::r=>by
  have I:=yh x r;have h:(iD (e::r) x).length=((if e.1=x then [e.2] else [])++if e.2=x then [e.1] else []).length+(iD r x).length:=by unfold iD;rw[Bj,Aa]
  rw[h,Aa,AK];have a:(if e.1=x then [e.2] else []).length<=1:=by split<;>simp
  have b:(if e.2=x then [e.1] else []).length<=1:=by split<;>simp
  lia
structure RcI(es:Vh)(n p:Nat)(D T:Vl):Prop where
 nd:D.Nodup
 lt:∀x∈D,x<n
 sub:∀x∈T,x∈D
 st:p∈D
 rc:∀x∈D,dZ es p x
def rh(n:Nat)(D:Vl):List Y:=(List.range n).map λx=>Y.bl<|decide<|x∈D
theorem Jp{x:Nat}(h:x<n):bz (rh n D) (x:Int)=some (.bl<|decide<|x∈D):=jl (by unfold rh;rw[Am,B6 h];rfl)
theorem Td{x:Nat} :(rh n D).set x (.bl true)=rh n (D++[x]):=by
 refine Dh λi=>?_;unfold rh;by_cases c:x=i
 ·subst c;by_cases h:x<n
  ·rw[BH (by simp[h]),Am,B6 h];simp
  ·rw[BU (by simp;lia),BU (by simp;lia)]
 ·rw[Bl c,Am,Am];by_cases h:i<n
  ·rw[B6 h];show some _=some _;congr 2;simp[A4 c]
  ·rw[BU (by simp;lia)];rfl
theorem RcI.end_{es:Vh}(I:RcI es n p D [])(cl:∀x∈D,∀y∈iD es x,y∈D)(x:Nat):x∈D↔dZ es p x:=by
 refine⟨I.rc x,λh=>?_⟩
 induction h with|self=>exact I.st|fwd _ m J=>exact cl _ J _ (lT.mpr<|.inl m)|bwd _ m J=>exact cl _ J _<|lT.mpr<|.inr m
theorem RcI.more{es:Vh}{x y:Nat}{T:Vl}(I:RcI es n p D T)(U:x∈D)(g:y∈iD es x)(j:y<n)(l:y∉D):RcI es n p (D++[y]) (T++[y]):=by
 have ap:∀z,z∈D->z∈D++[y]:=λz h=>Ap _ h;refine⟨AB.mpr ⟨I.nd,by simp,λa o b r e=>l (by rw[<-Ak.mp r,<-e];exact o)⟩,λz J=>?_,λz J=>?_,ap _ I.st,λz J=>?_⟩
 ·rcases Aj.mp J with h|h
  ·exact I.lt z h
  ·rw[Ak.mp h];exact j
 ·rcases Aj.mp J with h|h
  ·exact ap _<|I.sub z h
  ·exact Ah _ h
 ·rcases Aj.mp J with h|h
  ·exact I.rc z h
  ·rw[Ak.mp h];rcases lT.mp g with m|m
   ·exact .fwd (I.rc x U) m
   ·exact .bwd (I.rc x U) m
theorem Te{T:Vl}{x:Nat}:Da.eqs (gc<|T++[x]) []=false:=by cases T<;>rfl
theorem yo.off{t:Addr}{f:Nat->Vl}(N:yo L na ad f L')(h:L' t=none):t≠na/\t∉ad/\L t=none:=by
 refine⟨λz=>?_,λz=>?_,N.sub.none h⟩
 ·rw[z,N.hn] at h;cases h
 ·obtain⟨i,I,e⟩:=BK z;rw[N.at_ i t (by rw[Ai I,e])] at h;cases h
theorem vF{es:Vh}{sa ta e:Addr}{T:Vl}{c4:Option Y}(he:∀x∈es,x.1<n/\x.2<n)(hz:n<=1000)(a5:ad.length=n)(N:yo L0 na ad (iD es) L)(fs:L0 sa=none)(ft:L0 ta=none)
 (s1:sa≠na) (s2:sa∉ad) (t1:ta≠na) (t2:ta∉ad) (st:sa≠ta) (ks:L sa=some (.lst<|rh n D)) (kt:L ta=some (.lst<|nY T)) (I:RcI es n p D T) (cl:∀x∈D,x∉T->∀y∈iD es x,y∈D) (tl:T.length<=1)
 (q:∀E L',qd L0 L'->L0 E=none->L' E=some (.lst<|nY<|(List.range n).filter<|wq es p)->En.rt (.ref E) L'):
 Tb En [some<|.int (n:Int),some<|.ref e,some<|.int (p:Int),some<|.ref na,c4,c5,some<|.ref sa,some<|.ref ta] L:=by
 have big:=a_;have dl:∀{D T},RcI es n p D T->D.length<=n:=λI=>kh n _ I.nd I.lt;refine⟨λm l L'=>∃D T c5,l=[some<|.int (n:Int),some<|.ref e,some<|.int (p:Int),some<|.ref na,c4,c5,some<|.ref sa,some<|.ref ta]/\yo L0 na ad (iD es) L'/\L' sa=some (.lst<|rh n D)/\L' ta=some (.lst<|nY T)/\RcI es n p D T/\(∀x∈D,x∉T->∀y∈iD es x,y∈D)/\m=2*(n-D.length)+T.length/\m<=2*n+1,⟨_,D,T,c5,rfl,N,ks,kt,I,cl,rfl,by lia⟩,?_⟩;rintro m l L1 ⟨D,T,c5,rfl,N,ks,kt,I,cl,rfl,ml⟩;intro e1 g;refine cJ (n:=0) (m:=0) (by decide) (By g _ _ kt) q9 (qV T) (.nil:Paired (jz _ 0) _ []) ?_;obtain⟨o1,o2,o3⟩:=N.off g;have N1:=N.upd (o:=.lst []) o1 o2 o3;have t:qe L1 e1 (.lst []) sa=_:=(qc<|aS ks g).trans ks;have C:qe L1 e1 (.lst []) ta=_:=(qc<|aS kt g).trans kt;generalize qe L1 e1 (.lst [])=L2 at N1 t C ⊢;rcases List.eq_nil_or_concat T with rfl|⟨J,x,rfl⟩
 ·have en:=I.end_ λx hx=>cl x hx Cf;refine⟨⟨AN _,by lia⟩,?_⟩;rw[Bn];refine gU (λi zs=>zs=nY ((List.range i).filter<|wq es p)) (big _ (by lia)) rfl ?_ ?_
  ·rintro i zs hi rfl;refine qb t (qj (by rw[Bv];exact Jp hi) ?_);have er:(List.range<|i+1).filter (wq es p)=(List.range i).filter (wq es p)++if wq es p i=true then [i] else []:=by
    rw[B7,AV];congr 1;by_cases c:wq es p i=true
    ·rw[AA c,Bt c,Bh]
    ·rw[Az c,Br c,Bh]
   refine jc (λh=>⟨_,EF _,rfl,?_⟩) λh=>⟨_,EF _,rfl,?_⟩
   ·rw[er,AA<|xq.mpr<|(en i).mp h,we,Bv];rfl
   ·rw[er,Az λz=>h<|(en i).mpr<|xq.mp z,Aw]
  ·rintro zs rfl E hE;exact q E _ (N1.sub.trans<|By hE) (N1.sub.none hE) q9
 ·rw[List.concat_eq_append] at *;have a0:x∈D:=I.sub x<|Ah _<|Ak.mpr rfl;have a7:=I.lt x a0;have a4:(J++[x]).length=J.length+1:=by rw[Aa,BL]
  refine aH (by show(!Da.eqs (gc<|J++[x]) [])=true;rw[Te];rfl) ⟨λa1 L'=>∃m',m'<2*(n-D.length)+(J++[x]).length/\∃D T c5,a1=[some<|.int (n:Int),some<|.ref e,some<|.int (p:Int),some<|.ref na,c4,c5,some<|.ref sa,some<|.ref ta]/\yo L0 na ad (iD es) L'/\L' sa=some (.lst<|rh n D)/\L' ta=some (.lst<|nY T)/\RcI es n p D T/\(∀x∈D,x∉T->∀y∈iD es x,y∈D)/\m'=2*(n-D.length)+T.length/\m'<=2*n+1,λa1 L' ψ=>(by obtain⟨m',h,z⟩:=ψ;exact ⟨m',h,z⟩),?_⟩;rw[a4] at ml ⊢;rw[we] at C;refine Pz C ?_;have N2:=N1.upd (o:=.lst<|nY J) t1 t2 ft;have a2:qe L2 ta (.lst<|nY J) sa=_:=(qc st).trans t;have a3:qe L2 ta (.lst<|nY J) ta=some (.lst<|nY J):=q9;generalize qe L2 ta (.lst<|nY J)=L3 at N2 a2 a3 ⊢;obtain⟨r,er⟩:∃r,ad[x]?=some r:=⟨_,Ai (by lia)⟩;refine qb N2.hn<|qj (xz er) ?_;refine x9 (N2.at_ x r er) λkeep kp=>ku ⟨λi l L'=>∃D1 U c5,l=[some<|.int (n:Int),some<|.ref e,some<|.int (p:Int),some<|.ref na,c4,c5,some<|.ref sa,some<|.ref ta]/\yo L0 na ad (iD es) L'/\L' sa=some (.lst<|rh n D1)/\L' ta=some (.lst<|nY U)/\RcI es n p D1 U/\x∈D1/\(∀u∈D1,u∉U->u≠x->∀y∈iD es u,y∈D1)/\(∀y∈(iD es x).take i,y∈D1)/\2*(n-D1.length)+U.length<=2*(n-D.length)+J.length,⟨D,J,c5,rfl,N2,a2,a3,⟨I.nd,I.lt,λz hz=>I.sub z<|Ap _ hz,I.st,I.rc⟩,a0,λu hu hT hn=>cl u hu λz=>(Aj.mp z).elim hT λz=>hn<|Ak.mp z,(λy hy=>by cases hy),Al _⟩,?_,?_,?_⟩
  ·rintro i l L' ⟨D1,U,c5,rfl,N',_⟩;exact kp L' (by rw[N'.at_ x r er,N2.at_ x r er])
  ·rintro i y l L' hy ⟨D1,U,c5,rfl,N',k1,k2,I',j,c1,tk,hm⟩;obtain⟨y,ey,rfl⟩:=bx hy;have hy:=AC ey;have et:(iD es x).take (i+1)=(iD es x).take i++[y]:=by rw[A3,ey];rfl
   have ly:y<n:=(lT.mp hy).elim (λh=>(he _ h).2) λh=>(he _ h).1;refine qb k1<|qj (Jp ly) ?_;show kn (!decide (y∈D1)) _ _;by_cases c:y∈D1
   ·refine wn (by rw[AE c];rfl) ⟨_,EF _,D1,U,_,rfl,N',k1,k2,I',j,c1,λz hz=>?_,hm⟩;rw[et] at hz;rcases Aj.mp hz with h|h
    ·exact tk z h
    ·rw[Ak.mp h];exact c
   ·refine aH (by rw[Av c];rfl) (qo k1 (qj (by unfold rh;rw[Ag,A6];exact qQ ly) ?_));rw[Td];have I2:=I'.more j hy ly c;have d2:=dl I2;rw[Aa,BL] at d2;have N3:=N'.upd (o:=.lst<|rh n<|D1++[y]) s1 s2 fs;have k3:qe L' sa (.lst<|rh n<|D1++[y]) ta=_:=(qc<|A4 st).trans k2;have k4:qe L' sa (.lst<|rh n<|D1++[y]) sa=_:=q9;generalize qe L' sa (.lst<|rh n<|D1++[y])=L4 at N3 k3 k4 ⊢;have ap:∀z,z∈D1->z∈D1++[y]:=λz h=>Ap _ h;refine qb k3 (qo k3 ⟨big _ (by rw[zv];lia),⟨_,EF _,D1++[y],U++[y],_,rfl,N3.upd t1 t2 ft,(qc st).trans k4,by rw[q9,we];rfl,I2,ap _ j,λu hu hT hn z hz=>?_,λz hz=>?_,by rw[Aa,Aa,BL];lia⟩⟩)
    ·rcases Aj.mp hu with h|h
     ·exact ap _<|c1 u h (λw=>hT<|Ap _ w) hn z hz
     ·exact(hT<|Ah _ h).elim
    ·rw[et] at hz;rcases Aj.mp hz with h|h
     ·exact ap _<|tk z h
     ·exact Ah _ h
  ·rintro l L' ⟨D1,U,c5,rfl,N',k1,k2,I',j,c1,tk,hm⟩;rw[zv,AW] at tk;refine⟨_,EF _,_,by lia,D1,U,_,rfl,N',k1,k2,I',λu hu hT z hz=>?_,rfl,by lia⟩;by_cases c:u=x
   ·subst c;exact tk z hz
   ·exact c1 u hu hT c z hz
theorem Tf{es:Vh}{u v:Nat}:iD (es++[(u,v)])=λy=>if y=v then(if y=u then iD es y++[v] else iD es y)++[u] else if y=u then iD es y++[v] else iD es y:=funext λy=>by
 rw[Tc];show _++((if u=y then [v] else [])++if v=y then [u] else [])=_;by_cases c1:u=y<;>by_cases c2:v=y
 ·rw[AA c1,AA c2,AA c2.symm,AA c1.symm,Ay]
 ·rw[AA c1,Az c2,Az<|A4 c2,AA c1.symm,Aw]
 ·rw[Az c1,AA c2,AA c2.symm,Az<|A4 c1,Cb]
 ·rw[Az c1,Az c2,Az<|A4 c2,Az<|A4 c1,Aw,Aw]
def nK:zd:=λys L Q=>∃e,∃es:Vi,∃n p:Nat,ys=[.int (n:Int),.ref e,.int (p:Int)]/\L e=some (.lst<|qm es)/\(∀x∈es,x.1<n/\x.2<n)/\n<=1000/\es.length<=2000/\p<n/\∀E L',qd L L'->L E=none->L' E=some (.lst<|nY<|(List.range n).filter<|wq es p)->Q (.ref E) L'
theorem Tg:∀ys L Q,nK ys L Q->x4 rq 8 ys L Q:=by
 rintro ys L Q ⟨e,l,n,p,rfl,hE,he,hz,hl,a1,q⟩;have big:=a_;refine⟨⟨AN _,by lia⟩,?_⟩;rw[Bn];refine wP ⟨by rw[fN];exact big _ (by lia),λi t I=>∃ad:List Addr,t=ad.map Y.ref/\ad.length=i/\qd L I/\ad.Nodup/\∀r∈ad,L r=none/\I r=some (.lst []),⟨[],rfl,rfl,EF _,.nil,λr J=>by cases J⟩,λ_ _ _ _=>True.intro,?_,?_⟩
 ·rintro i y t I hy ⟨ad,rfl,rfl,s,nd,J⟩;intro r hn;have T:=By (o:=.lst []) hn;refine⟨_,EF _,ad++[r],by rw[AD];rfl,by rw[Aa];rfl,s.trans T,AB.mpr ⟨nd,by simp,λa ha b hb z=>?_⟩,λx U=>?_⟩
  ·rw[z,Ak.mp hb] at ha;rw[(J r ha).2] at hn;cases hn
  ·rcases Aj.mp U with h|h
   ·exact⟨(J x h).1,T _ _ (J x h).2⟩
   ·rw[Ak.mp h];exact⟨s.none hn,q9⟩
 rintro t L1 ⟨ad,rfl,a0,s,nd,J⟩ na g;rw[fN] at a0;have T:=By (o:=.lst<|ad.map Y.ref) g;have N0:yo L na ad (iD []) (qe L1 na<|.lst<|ad.map Y.ref):=⟨s.trans T,q9,s.none g,λr h=>(J r h).1,(λh=>by rw[(J na h).2] at g;cases g),nd,λi r e=>T _ _ (J r<|AC e).2⟩;generalize qe L1 na (.lst<|ad.map Y.ref)=L2 at N0 ⊢;refine x9 (N0.sub _ _ hE) λkeep kp=>ku ⟨λi τ I=>∃c4 c5,τ=[some<|.int (n:Int),some<|.ref e,some<|.int (p:Int),some<|.ref na,c4,c5,none,none]/\yo L na ad (iD<|l.take i) I,⟨_,_,rfl,N0⟩,?_,?_,?_⟩
 ·rintro i τ I ⟨c4,c5,rfl,M⟩;exact kp _ (by rw[M.sub _ _ hE,N0.sub _ _ hE])
 ·rintro i y τ I hy ⟨c4,c5,rfl,M⟩;rw[Am] at hy;obtain⟨⟨u,v⟩,ex,rfl⟩:=Ar.mp hy;obtain⟨hu,hv⟩:=he _<|AC ex;have hu:u<n:=hu;have hv:v<n:=hv;have et:l.take (i+1)=l.take i++[(u,v)]:=by rw[A3,ex];rfl
  have li:(l.take i).length<=2000:=by rw[AM];lia
  have nl:=λx=>yh x<|l.take i;obtain⟨ru,eu⟩:∃r,ad[u]?=some r:=⟨_,Ai (by lia)⟩;obtain⟨rv,ev⟩:∃r,ad[v]?=some r:=⟨_,Ai (by lia)⟩;have j:=M.app (v:=v) eu;have M2:=j.app (v:=u) ev;refine qb M.hn (qj (xz eu) (qb (M.at_ u ru eu) (qo (M.at_ u ru eu) ⟨big _ (by rw[zv];have:=nl u;lia),?_⟩)));refine qb j.hn<|qj (xz ev)<|qb (j.at_ v rv ev)<|qo (j.at_ v rv ev) ⟨big _ ?_,?_⟩
  ·rw[zv];have:=nl v;split
   ·rw[Aa,BL];lia
   ·lia
  ·exact⟨_,EF _,_,_,rfl,by rw[et,Tf];exact M2⟩
 rintro τ L3 ⟨c4,c5,rfl,M⟩;rw[show(qm l).length=l.length from Ag ..,AW] at M;refine⟨⟨AN _,by lia⟩,?_⟩;rw[Bn];refine gU (λi t=>t=rh i [p]) (big _ (by lia)) rfl ?_ ?_
 ·rintro i t hi rfl;refine⟨_,EF _,rfl,?_⟩;unfold rh;rw[B7,AD];congr 1;show [Y.bl<|decide<|(0+(i:Int))=(p:Int)]=[Y.bl<|decide<|i∈[p]];rw[Bv,fV];simp
 rintro t rfl sa a2;obtain⟨s1,s2,fs⟩:=M.off a2;have j:=M.upd (o:=.lst<|rh n [p]) s1 s2 fs;have ks:qe L3 sa (.lst<|rh n [p]) sa=_:=q9;generalize qe L3 sa (.lst<|rh n [p])=L4 at j ks ⊢;intro ta C;obtain⟨t1,t2,ft⟩:=j.off C;refine vF he hz a0 (j.upd (o:=.lst<|nY [p]) t1 t2 ft) fs ft s1 s2 t1 t2 (aS ks C) ((qc<|aS ks C).trans ks) q9 ⟨by simp,λx U=>by rw[Ak.mp U];exact a1,λx U=>U,Ak.mpr rfl,λx U=>by rw[Ak.mp U];exact .self⟩ (λx U h=>(h U).elim) (Al _) λE I s h1 h2=>xh<|q E I s h1 h2
end L3
namespace L3
open PySem L2
def pG(x y:Y)(L:qp)(Q:YK):Prop:=match x,y with
 |.tup xs,.tup ys=>xs≠[]/\xs.length+ys.length<=1000/\Q (.tup<|xs++ys) L
 |_,_=>False
theorem jK :aD X (binaryOp .Add) (lM X.g3 pG):=EV NS λx y H Q x3 y3 L Q3 T ry g z k=>by
 unfold pG at z;split at z
 ·rename_i j o;obtain⟨n,l,z⟩:=z;obtain⟨a,I,rfl,r,J⟩:=T;obtain⟨b,t,rfl,s2,C⟩:=ry;have l1:=J.length;have l2:=C.length;refine⟨a,b,I,t,rfl,rfl,r,s2,λe=>n ?_,fP (by lia),λe=>?_,λ_ p U=>?_⟩
  ·subst e;exact BF l1
  ·subst e;have:o=[]:=BF l2;subst this;rw[Aw] at z;exact k _ H _ L (EG _) g (show RV X.g3 H (.tup j) (.ref a) from⟨a,I,rfl,r,J⟩) z
  ·exact k _ _ _ L (EH U) (g.skip U) (show RV X.g3 (upd H p<|.tup<|I++t) (.tup<|j++o) (.ref p) from⟨p,_,rfl,cx.of zq,(J.app C).ts<|EH U⟩) z
 ·exact z.elim
open PySem L2 Words
noncomputable def iW:RD "_law_sides" dB 0 ["_law_knots","_law_out","_law_row","_law_r"] (λ_=>True):=⟨_,λV B c _ _ _ _ _ _ _ J hN I=>(qa (S_ 2 hN<|zu vd)<|qa (xg u1 rfl (ve rfl B.bb<|jt<|L_ B.ba<|qv 0) (G_ 3 hN)<|qg<|zx (bV<|wf (N_ I (qv 3)<|qv 1)<|wf (aX<|I_ (qv 0)<|qv 3)<|wg<|E_ I (L_ B.ba<|I_ (qv 0)<|qv 3) qh) (qa (za<|qz (qv 2)<|jt<|zk<|vq (qv 3)<|I_ (I_ (qv 0)<|qv 3) qh)<|qg<|za<|qz (qv 2)<|jt<|zk<|vq (qv 3)<|I_ (I_ (qv 0)<|qv 3) qh) ze)<|qg<|qx<|qv 2)⟩
noncomputable def rR:k8:=(iW).1
noncomputable def iS(I:zd):RD "_law_noted" dJ 1 ["_law_due_here","_law_many","_law_edges","_law_head","_law_p","_law_q","_law_left"] (λV=>IU V I):=⟨_,λV B c _ _ _ _ _ _ _ J hN U=>(qa (S_ 6 hN<|C_ c J<|cA (qv 1) (qv 2)<|qv 4)<|qg<|zx (jy (nR _ _ _) (qv 5) (qv 6) (by with_unfolding_all rfl)) (qg<|za<|qz (qv 0)<|jt<|qk jK (qv 3)<|zk<|vq (qv 6)<|C_ c J<|cA (qv 1) (qv 2)<|qv 5) ze)⟩
noncomputable def rE(I:zd):k8:=(iS I).1
def wr(n fx:Nat):Vl:=(List.range n).filter λr=>decide<|r≠fx
theorem oZ(i fx:Nat):wr (i+1) fx=wr i fx++if i=fx then [] else [i]:=by
 unfold wr;rw[B7,AV];congr 1;by_cases c:i=fx
 ·rw[AA c,Br (by simp[c]),Bh]
 ·rw[Az c,Bt (by simp[c]),Bh]
def cj:zd:=λys L Q=>∃a,∃wd:List (VG),∃fx:Nat,ys=[.ref a,.int (fx:Int)]/\L a=some (.lst<|jo wd)/\wd.length<=1000/\∀D,L D=none->Q (.ref D) (qe L D<|.lst<|qm<|zm wd<|wr wd.length fx)
theorem yy:∀ys L Q,cj ys L Q->x4 rR 4 ys L Q:=by
 rintro ys L Q ⟨a,J,I,rfl,C,hz,q⟩;have big:=a_;intro D T;have g:a≠D:=aS C T;have U:∀o,qe L D o a=some (.lst<|jo J):=λo=>(qc g).trans C;refine qb (U _) ⟨⟨AN _,by rw[v3];lia⟩,?_⟩;rw[v3,Bn];refine gm (λi j l=>∃c3,j=[some<|.ref a,some<|.int (I:Int),some<|.ref D,c3]/\l=qe L D (.lst<|qm<|zm J<|wr i I)) ⟨_,rfl,rfl⟩ ?_ ?_
 ·rintro i j l hi ⟨c3,rfl,rfl⟩;obtain⟨k,p⟩:∃k,J[i]?=some k:=⟨_,Ai hi⟩;have ei:bz (jo J) (0+(i:Int))=some (w5 k):=by rw[Bv];exact xz p
  have el:=aE J<|wr i I;have bl:(wr i I).length<=i:=by have:=Bi (λr=>decide<|r≠I)<|List.range i;rw[A6] at this;exact this
  have stay:(i=I\/j6 k=[])->zm J (wr (i+1) I)=zm J (wr i I):=λh=>by
   rw[oZ,fS];by_cases c:i=I
   ·rw[AA c];exact Aw _
   ·rw[Az c,fe p,h.resolve_left c];exact Aw _
  show kn (!decide ((0+(i:Int))=(I:Int))) _ _;rw[Bv,fV];by_cases c:i=I
  ·exact wn (by rw[AE c];rfl) ⟨_,EF _,_,rfl,by rw[stay<|.inl c]⟩
  ·refine aH (by rw[Av c];rfl) ?_;rw[Bv] at ei;refine qb (U _)<|qj ei ?_;cases k with
   |none=>exact⟨_,EF _,_,rfl,by rw[stay<|.inr rfl]⟩
   |some k=>
    cases k with
    |lf t n=>refine qb (U _)<|qj ei ?_;exact⟨_,EF _,_,rfl,by rw[stay<|.inr rfl]⟩
    |nd e x y=>
     refine qb (U _)<|qj ei ?_;refine qb q9 (qb (U _) (qj ei (qo q9 ⟨big _ (by rw[qm,Ag];lia),?_⟩)));rw[zh];refine qb q9 (qb (U _) (qj ei (qo q9 ⟨big _ (by rw[Aa,qm,Ag];show _+1<=_;lia),?_⟩)));rw[zh];refine⟨_,EF _,_,rfl,?_⟩;rw[oZ,Az c,fS,fe p];unfold qm;rw[AD,Ay];rfl
 ·rintro j l ⟨c3,rfl,rfl⟩;exact xh<|q D T
def gp:zd:=λys L Q=>∃d e,∃xs:List Y,∃es:Vi,∃hd:List Y,∃n p q:Nat,ys=[.ref d,.int (n:Int),.ref e,.tup hd,.int (p:Int),.int (q:Int)]/\L d=some (.lst xs)/\L e=some (.lst<|qm es)/\(∀x∈es,x.1<n/\x.2<n)/\n<=1000/\es.length<=2000/\p<n/\q<n/\xs.length<=2000/\hd≠[]/\hd.length<=10/\
 (dZ es p q->∀L',qd L L'->Q .non L')/\(¬dZ es p q->∀D1 D2 L',qd L L'->L D1=none->L D2=none->L' D1=some (.lst<|nY<|(List.range n).filter<|wq es p)->L' D2=some (.lst<|nY<|(List.range n).filter<|wq es q)->Q .non (qe L' d<|.lst<|xs++[.tup<|hd++[.ref D1,.ref D2]]))
theorem Th:∀ys L Q,gp ys L Q->x4 (rE nK) 7 ys L Q:=by
 rintro ys L Q ⟨d,e,xs,I,hd,n,p,q,rfl,U,r,t,C,T,j,g,xl,l,a0,q1,q2⟩;refine⟨e,I,n,p,rfl,r,t,C,T,j,λE1 L1 J f1 k1=>?_⟩;refine qb k1 ⟨rfl,sE _,?_⟩;show kn (!sH (di<|.int (q:Int)) ((nY<|(List.range n).filter<|wq I p).map di)) _ _;rw[qR];have iff:q∈(List.range n).filter (wq I p)↔dZ I p q:=by rw[AJ,xq];exact⟨λh=>h.2,λh=>⟨AX.mpr g,h⟩⟩
 by_cases c:dZ I p q
 ·refine wn (by rw[AE<|iff.mpr c];rfl) ?_;exact xh<|q1 c L1 J
 ·refine aH (by rw[Av λh=>c<|iff.mp h];rfl) ?_;refine qb (J _ _ U) ⟨e,I,n,q,rfl,J _ _ r,t,C,T,g,λE2 L2 o f2 k2=>?_⟩;refine⟨l,by show hd.length+2<=1000;lia,qo (o _ _<|J _ _ U) ⟨Bp (by lia:xs.length<=20000) (by decide),?_⟩⟩;exact xh<|q2 c E1 E2 L2 (J.trans o) f1 (J.none f2) (o _ _ k1) k2
noncomputable def kB(J:zd)(I:zd):RD "all_edges" eY 3 ["web"] (λV=>IC V J/\F' V I):=⟨_,λV B c _ _ _ _ _ _ _ U hN g=>(qg<|qx<|qk zw (qk zw (J_ 0)<|J_ 0)<|C_ c.1 U<|vq (J_ 0)<|C_ c.2 U<|jt<|J_ 0)⟩
noncomputable def tM(J:zd)(I:zd):k8:=(kB J I).1
noncomputable def dr(g:zd)(I:zd)(J:zd)(U:zd):RD "parted_boths" bT 4 ["web","knots","ends","edges","parted","place","others","sides"] (λV=>IA V g/\Gb V I/\IB V J/\Gc V U):=⟨_,λV B c _ _ _ _ _ _ _ j hN l=>(qa (S_ 1 hN<|J_ 0)<|qa (wy (i:=2) hN rfl (Or.inr rfl)<|C_ c.1 j<|jt<|qv 0)<|qa (S_ 3 hN<|C_ c.2.1 j<|jt<|qv 0)<|qa (S_ 4 hN<|zu vd)<|qa (xg u1 rfl (jp<|fF ["both"] (EL (by rfl)) rfl (jp<|C_ c.2.2.1 j<|jt<|qv 0) (jB 8) (λ_ _ _ _=>wc<|jy (HY _ _ _) (qv 8) (qv 2) (by with_unfolding_all rfl)) λ_ _ _ _=>(qv 8)) (ww (i:=5) hN rfl<|Or.inr rfl)<|qa (wv ["edge"] (i:=6) hN rfl (Or.inl rfl) (EL (by rfl)) rfl (jp<|qv 3) (jB 8) (λ_ _ _ _=>wc<|N_ l (J_ 8)<|qv 5) λ_ _ _ _=>(qv 8))<|qa (S_ 7 hN<|C_ c.2.2.2 j<|jx (qv 1)<|cA (qv 6) (I_ (I_ (qv 1)<|qv 5) qh)<|I_ (I_ (qv 1)<|qv 5) qh)<|qg<|zx (aX<|qv 7) (qg<|za<|qz (qv 4)<|jt<|qk jK (zk<|vq je<|qv 5)<|qv 7) ze)<|qg<|qx<|qv 4)⟩
noncomputable def l5(g:zd)(I:zd)(J:zd)(U:zd):k8:=(dr g I J U).1
def jh(ks:List<|VG)(lk ct:Vh):Vi:=(lk++ct)++zm ks (z7 ks)
def lK:zd:=λys L Q=>∃a l c,∃ks:List (VG),∃lk ct:Vi,ys=[v9 a l c]/\L a=some (.lst<|jo ks)/\L l=some (.lst<|qm lk)/\L c=some (.lst<|qm ct)/\ks.length<=1000/\lk.length<=1000/\ct.length<=1000/\∀p,L p=none->Q (.ref p) (qe L p<|.lst<|qm<|jh ks lk ct)
theorem Ti:∀ys L Q,lK ys L Q->x4 (tM i0 fB) 1 ys L Q:=by
 rintro ys L Q ⟨a,l,c,I,lk,U,rfl,ha,hl,hc,hz,a0,a1,q⟩;have hb:(10000:Nat)<sizeLine:=by decide
 refine⟨_,_,hl,hc,by rw[Ag,Ag];lia,λp1 g=>?_⟩;have j:=By (o:=.lst<|qm lk++qm U) g _ _ ha;refine⟨a,I,rfl,j,hz,λp2 J=>?_⟩;have t:=By (o:=.lst<|nY<|z7 I) J _ _ j;refine⟨a,p2,I,z7 I,rfl,t,q9,AO (aq _ _ _) hz,λp hp=>(aJ hp).1,λp3 r=>?_⟩;have e1:=By (o:=.lst<|qm<|zm I<|z7 I) r _ _<|By (o:=.lst<|nY<|z7 I) J _ _<|q9 (L:=L) (a:=p1) (o:=.lst<|qm lk++qm U);refine⟨_,_,e1,q9,?_,λC T=>?_⟩
 ·have:=aE I<|z7 I;have:(z7 I).length<=I.length:=aq _ I I.length;rw[Aa,Ag,Ag,Ag];lia
 ·have n1:qd L (qe (qe (qe L p1<|.lst<|qm lk++qm U) p2<|.lst<|nY<|z7 I) p3<|.lst<|qm<|zm I<|z7 I):=((By g).trans<|By J).trans<|By r;have n4:L C=none:=iL n1 T;refine nv (L:=qe L C<|.lst<|qm<|jh I lk U) ?_<|q C n4;have e:qm lk++qm U++qm (zm I<|z7 I)=qm (jh I lk U):=by unfold qm jh;rw[AD,AD]
  rw[e];exact qd.put (n1.upd n4) q9
abbrev xM:=List Y×Vl×Vl
def wu(L:qp)(N:Addr)(xs:List Y)(rs:List xM):Prop:=Paired (λy (r:xM)=>∃D1 D2,y=.tup (r.1++[.ref D1,.ref D2])/\D1≠N/\D2≠N/\L D1=some (.lst<|nY r.2.1)/\L D2=some (.lst<|nY r.2.2)) xs rs
theorem wu.mono{N:Addr}{xs:List Y}{rs:List xM}(t:wu L N xs rs)(s:∀p o,p≠N->L p=some o->L' p=some o):wu L' N xs rs:=EJ t λy r ψ=>(by obtain⟨D1,D2,e,I,J,U,g⟩:=ψ;exact ⟨D1,D2,e,I,J,s _ _ I U,s _ _ J g⟩)
noncomputable def p_(wd:List<|VG)(lk ct:Vh)(r:Nat):Option xM:=match wd[r]? with
 |some (some<|.nd _ i j)=>if wq ((jh wd lk ct).filter λx=>decide<|x.1≠r) i j then none else some ([.str "both",.int (r:Int)],bK wd ((jh wd lk ct).filter λx=>decide<|x.1≠r) i,bK wd ((jh wd lk ct).filter λx=>decide<|x.1≠r) j)
 |_=>none
def bP(wd:List<|VG)(ct:Vh):Vl:=(aZ false wd).filter λr=>decide<|r∈wm wd (ji wd ct) wd.length
def ij(C:Addr):zd:=λys L Q=>∃a l c,∃wd:List (VG),∃lk ct:Vi,ys=[v9 a l c]/\L a=some (.lst<|jo wd)/\L l=some (.lst<|qm lk)/\L c=some (.lst<|qm ct)/\wd.length<=1000/\lk.length<=1000/\ct.length<=1000/\nX wd/\(∀x∈jh wd lk ct,x.1<wd.length/\x.2<wd.length)/\∀D xs L',qd L L'->L D=none->L' D=some (.lst xs)->wu L' D xs ((bP wd ct).filterMap<|p_ wd lk ct)->Q (.ref D) L'
theorem Tj :∀ys L Q,ij C ys L Q->x4 (l5 sC lK n8<|gu C) 8 ys L Q:=by
 rintro ys L Q ⟨a,l,c,I,lk,J,rfl,ha,hl,hc,hz,au,a2,ok,hb,q⟩;have big:=a_;refine⟨a,l,c,I,J,rfl,ha,hc,hz,a2,λen av=>?_⟩;have s1:=By (o:=.lst<|nY<|wm I (ji I J) I.length) av;have g:qe L en (.lst<|nY<|wm I (ji I J) I.length) en=_:=q9;generalize qe L en (.lst<|nY<|wm I (ji I J) I.length)=L1 at s1 g ⊢;refine⟨a,l,c,I,lk,J,rfl,s1 _ _ ha,s1 _ _ hl,s1 _ _ hc,hz,au,a2,λea aL=>?_⟩;have s2:=By (o:=.lst<|qm<|jh I lk J) aL;have U:qe L1 ea (.lst<|qm<|jh I lk J) ea=_:=q9;have g:=s2 _ _ g;have s2:=s1.trans s2;generalize qe L1 ea (.lst<|qm<|jh I lk J)=L2 at s2 U g ⊢;intro D hD;have ba:ea≠D:=λz=>by rw[z,hD] at U;cases U
 have s3:=By (o:=.lst []) hD;have fD:=s2.none hD;have U:=s3 _ _ U;have g:=s3 _ _ g;have kD:qe L2 D (.lst []) D=_:=q9;have s3:=s2.trans s3;generalize qe L2 D (.lst [])=L3 at s3 U g kD ⊢;refine⟨a,l,c,I,rfl,s3 _ _ ha,hz,λbo bb=>?_⟩;have s4:=By (o:=.lst<|nY<|aZ false I) bb;have U:=s4 _ _ U;have g:=s4 _ _ g;have kD:=s4 _ _ kD;have a3:qe L3 bo (.lst<|nY<|aZ false I) bo=_:=q9;have s4:=s3.trans s4;generalize qe L3 bo (.lst<|nY<|aZ false I)=L4 at s4 U g kD a3 ⊢;have kl:(aZ false I).length<=I.length:=aq _ _ _;refine x9 a3 λkeep kp=>ag (λi zs=>zs=nY (((aZ false I).take i).filter λr=>decide<|r∈wm I (ji I J) I.length)) (by rw[zv];exact big _ (by lia)) (kp _ rfl) rfl ?_ ?_
 ·rintro i y zs hy rfl;obtain⟨r,er,rfl⟩:=bx hy;refine qb g ⟨rfl,sE _,?_⟩;show kn (sH (di<|.int (r:Int))<|(nY<|wm I (ji I J) I.length).map di) _ _;rw[qR];have ek:(aZ false I).take (i+1)=(aZ false I).take i++[r]:=by rw[A3,er];rfl
  refine jc (λh=>⟨_,EF _,rfl,?_⟩) λh=>⟨_,EF _,rfl,?_⟩
  ·rw[ek,AV,Bt (by exact AE h),Bh,we];rfl
  ·rw[ek,AV,Br (by rw[Av h];exact AF),Bh,Aw]
 rintro zs rfl pp a0;have bc:pp≠D:=λz=>by rw[z,kD] at a0;cases a0
 rw[zv,AW];have s5:=By (o:=.lst<|nY<|bP I J) a0;have U:=s5 _ _ U;have kD:=s5 _ _ kD;have a1:qe L4 pp (.lst<|nY<|bP I J) pp=_:=q9;have fp:=s4.none a0;have s5:=s4.trans s5;show nN (qe L4 pp<|.lst<|nY<|bP I J) pp _;generalize qe L4 pp (.lst<|nY<|bP I J)=L5 at s5 U kD a1 ⊢;have el:=aE I<|z7 I;have tl:(z7 I).length<=I.length:=aq _ _ _;have al:(jh I lk J).length<=5000:=by unfold jh;rw[Aa,Aa];lia
 refine x9 a1 λkeep kp=>ku ⟨λi τ j=>∃c5 c6 c7 xs,τ=[some<|v9 a l c,some<|.ref a,some<|.ref en,some<|.ref ea,some<|.ref D,c5,c6,c7]/\qd L j/\j ea=some (.lst<|qm<|jh I lk J)/\j pp=some (.lst<|nY<|bP I J)/\j D=some (.lst xs)/\xs.length<=i/\wu j D xs (((bP I J).take i).filterMap<|p_ I lk J),⟨_,_,_,[],rfl,s5,U,a1,kD,Al _,.nil⟩,?_,?_,?_⟩
 ·rintro i τ j ⟨_,_,_,_,rfl,_,_,k,_⟩;exact kp _ (by rw[k,a1])
 ·rintro i y τ j hy ⟨c5,c6,c7,xs,rfl,s,j1,j2,j3,xl,T⟩;obtain⟨r,er,rfl⟩:=bx hy;have hi:=zb er;have hr:=AC er;obtain⟨lr,k,ek,kb⟩:=aJ (AJ.mp hr).1;have bl:(bP I J).length<=I.length:=AO (Bi _ _) kl;have et:(bP I J).take (i+1)=(bP I J).take i++[r]:=by rw[A3,er];rfl
  obtain⟨x,y,rfl⟩:∃x y,k=some (.nd false x y):=by
   cases k with
   |none=>cases kb
   |some k=>
    cases k with|lf=>cases kb|nd e x y=>cases e with|true=>cases kb|false=>exact⟨x,y,rfl⟩
  have ke:=λ(o:qd L j)=>o _ _ ha;refine x9 j1 λbd be=>ag (λi zs=>zs=qm (((jh I lk J).take i).filter λx=>decide<|x.1≠r)) (by rw[qm,Ag];exact big _ (by lia)) (be _ rfl) rfl ?_ ?_
  ·rintro i z zs a4 rfl;rw[qm,Am] at a4;obtain⟨d,ed,rfl⟩:=Ar.mp a4;have a5:(jh I lk J).take (i+1)=(jh I lk J).take i++[d]:=by rw[A3,ed];rfl
   show kn (!decide ((d.1:Int)=(r:Int))) _ _;rw[fV];by_cases cc:d.1=r
   ·refine wn (by rw[AE cc];rfl) ⟨_,EF _,rfl,?_⟩;rw[a5,AV,Br (by simp[cc]),Bh,Aw]
   ·refine aH (by rw[Av cc];rfl) ⟨_,EF _,rfl,?_⟩;rw[a5,AV,Bt (by simp[cc]),Bh];unfold qm;rw[AD];rfl
  rintro zs rfl p6 bf;rw[show(qm<|jh I lk J).length=(jh I lk J).length from Ag ..,AW];have t6:=By (o:=.lst<|qm<|(jh I lk J).filter λx=>decide<|x.1≠r) bf;have k6:qe j p6 (.lst<|qm<|(jh I lk J).filter λx=>decide<|x.1≠r) p6=_:=q9;have j1:=t6 _ _ j1;have j2:=t6 _ _ j2;have j3:=t6 _ _ j3;have T:=T.mono λp o _ h=>t6 p o h;have s:=s.trans t6;generalize qe j p6 (.lst<|qm<|(jh I lk J).filter λx=>decide<|x.1≠r)=L6 at s k6 j1 j2 j3 T ⊢;have ei:bz (jo I) (r:Int)=some (w5<|some<|.nd false x y):=xz ek;obtain⟨o1,o2⟩:=ok r false x y ek;refine qb (s _ _ ha)<|qj ei<|qb (s _ _ ha)<|qj ei ?_;have pb:p_ I lk J r=if wq ((jh I lk J).filter λx=>decide<|x.1≠r) x y then none else some ([.str "both",.int (r:Int)],bK I ((jh I lk J).filter λx=>decide<|x.1≠r) x,bK I ((jh I lk J).filter λx=>decide<|x.1≠r) y):=by unfold p_;rw[ek]
  refine⟨a,p6,I,_,x,y,rfl,s _ _ ha,k6,hz,λd hd=>hb d (AJ.mp hd).1,by lia,by lia,λrc L7 t=>?_,λnr D1 D2 L7 t f1 f2 bg k1 k2=>?_⟩
  ·refine⟨_,EF _,_,_,_,xs,rfl,s.trans t,t _ _ j1,t _ _ j2,t _ _ j3,by lia,?_⟩;rw[et,BM,DZ (by rw[pb,AA<|xq.mpr rc]),B8,Aw];exact T.mono λp o _ h=>t p o h
  ·have a7:=t _ _ j3;refine qb a7 ⟨by simp,by show 2+2<=1000;decide,qo a7 ⟨big _ (by lia),⟨_,EF _,_,_,_,_,rfl,(s.trans t).upd fD,(qc λz=>?_).trans<|t _ _ j1,(qc λz=>?_).trans<|t _ _ j2,q9,by rw[Aa];show _+1<=_;lia,?_⟩⟩⟩
   ·exact ba z
   ·exact bc z
   ·have ab:D1≠D:=λz=>by rw[z,j3] at f1;cases f1
    have ac:D2≠D:=λz=>by rw[z,j3] at f2;cases f2
    rw[et,BM,Eb (by rw[pb,Az λh=>nr<|xq.mp h]),B8];refine Words.Paired.app (wu.mono (L:=L7) (T.mono λp o _ h=>t p o h) λp o n h=>(qc n).trans h)<|.cons ⟨D1,D2,rfl,ab,ac,(qc ab).trans k1,(qc ac).trans k2⟩ .nil
 ·rintro τ j ⟨c5,c6,c7,xs,rfl,s,j1,j2,j3,xl,T⟩;rw[zv,AW] at T;exact xh<|q D xs j s fD j3 T
end L3
variable {rs:List L3.xM}
namespace L3
open PySem L2 Words
noncomputable def ld(I:zd)(J:zd):RD "partings" gN 5 ["web"] (λV=>ID V I/\IE V J):=⟨_,λV B c _ _ _ _ _ _ _ U hN g=>(qg<|qx<|qk zw (C_ c.1 U<|jt<|qv 0)<|C_ c.2 U<|jt<|qv 0)⟩
noncomputable def xG(I:zd)(J:zd):k8:=(ld I J).1
theorem wu.len{N:Addr}{xs:List Y}(t:wu L N xs rs):xs.length=rs.length:=by
 unfold wu at t
 induction t with|nil=>rfl|cons _ _ I=>rw[AK,AK,I]
theorem wu.new{N p:Addr}{o:LO}{xs:List Y}(t:wu L N xs rs)(h:L p=none):wu (qe L p o) p xs rs:=EJ t λy r ψ=>(by obtain⟨D1,D2,e,_,_,I,J⟩:=ψ;exact ⟨D1,D2,e,aS I h,aS J h,(qc<|aS I h).trans I,(qc<|aS J h).trans J⟩)
noncomputable def q_(wd:List<|VG)(lk ct:Vh)(i:Nat):Option xM:=match ct[i]? with
 |some d=>if wq ((jh wd lk ct).eraseIdx<|lk.length+i) d.1 d.2 then none else some ([.str "cut",.int (d.1:Int),.int (d.2:Int)],bK wd ((jh wd lk ct).eraseIdx<|lk.length+i) d.1,bK wd ((jh wd lk ct).eraseIdx<|lk.length+i) d.2)
 |_=>none
def nQ(C:Addr):zd:=λys L Q=>∃a l c,∃wd:List (VG),∃lk ct:Vi,ys=[v9 a l c]/\L a=some (.lst<|jo wd)/\L l=some (.lst<|qm lk)/\L c=some (.lst<|qm ct)/\wd.length<=1000/\lk.length<=1000/\ct.length<=1000/\nX wd/\(∀x∈jh wd lk ct,x.1<wd.length/\x.2<wd.length)/\∀D xs L',qd L L'->L D=none->L' D=some (.lst xs)->wu L' D xs ((List.range ct.length).filterMap<|q_ wd lk ct)->Q (.ref D) L'
noncomputable def Gj(wd:List<|VG)(lk ct:Vh):List xM:=(bP wd ct).filterMap (p_ wd lk ct)++(List.range ct.length).filterMap (q_ wd lk ct)
def dq(C:Addr):zd:=λys L Q=>∃a l c,∃wd:List (VG),∃lk ct:Vi,ys=[v9 a l c]/\L a=some (.lst<|jo wd)/\L l=some (.lst<|qm lk)/\L c=some (.lst<|qm ct)/\wd.length<=1000/\lk.length<=1000/\ct.length<=1000/\nX wd/\(∀x∈jh wd lk ct,x.1<wd.length/\x.2<wd.length)/\∀D xs L',qd L L'->L D=none->L' D=some (.lst xs)->wu L' D xs (Gj wd lk ct)->Q (.ref D) L'
theorem tS :∀ys L Q,dq C ys L Q->x4 (xG (ij C)<|nQ C) 1 ys L Q:=by rintro ys L Q ⟨a,l,c,I,lk,J,rfl,T,hl,hc,hz,U,g,ok,hb,q⟩;have big:=a_;refine⟨a,l,c,I,lk,J,rfl,T,hl,hc,hz,U,g,ok,hb,λD xs L1 j f1 k1 T1=>?_⟩;refine⟨a,l,c,I,lk,J,rfl,j _ _ T,j _ _ hl,j _ _ hc,hz,U,g,ok,hb,λE zs L2 r f2 k2 T2=>?_⟩;have e1:=T1.len;have e2:=T2.len;have b1:=B9 (p_ I lk J)<|bP I J;have b2:=B9 (q_ I lk J)<|List.range J.length;have b3:(bP I J).length<=I.length:=AO (Bi _ _)<|aq _ _ _;rw[A6] at b2;refine⟨_,_,r _ _ k1,k2,Bf<|big _ (by lia),λp t=>?_⟩;have s3:=(j.trans r).trans<|By (o:=.lst<|xs++zs) t;exact xh<|q p _ _ s3 ((j.trans r).none t) q9<|Words.Paired.app ((T1.mono λp o _ h=>r p o h).new t)<|T2.new t
theorem cM{ks:List<|VG}{pl:Vl}{x:Vt}:x∈zm ks pl↔x.1∈pl/\∃k,ks[x.1]?=some k/\x.2∈j6 k:=by
 unfold zm;rw[Bd];constructor
 ·rintro⟨p,I,h⟩;cases e:ks[p]? with
  |none=>rw[e] at h;cases h
  |some k=>
   rw[e] at h;obtain⟨q,J,rfl⟩:=Bx.mp h;exact⟨I,k,e,J⟩
 ·rintro⟨I,k,e,J⟩;refine⟨x.1,I,?_⟩;rw[e];exact Bx.mpr ⟨x.2,J,rfl⟩
theorem eU{x:Vt}:(x∈zm wd (z7 wd)/\x.1≠r)↔x∈zm wd (wr wd.length r):=by
 rw[cM,cM];constructor
 ·rintro⟨⟨J,I⟩,n⟩;exact⟨AJ.mpr ⟨AX.mpr (aJ J).1,AE n⟩,I⟩
 ·rintro⟨J,k,e,I⟩;obtain⟨U,g⟩:=AJ.mp J;refine⟨⟨xH e ?_<|AX.mp U,k,e,I⟩,of_decide_eq_true g⟩;cases k with
  |none=>cases I
  |some k=>rfl
theorem Tk(h:∀x∈lk++ct,x.1≠r)(x:Vt):x∈((jh wd lk ct).filter λx=>decide<|x.1≠r)↔x∈lk++ct++zm wd (wr wd.length r):=by
 rw[AJ,CC,Aj,<-eU,jh,Aj];constructor
 ·rintro⟨I|I,n⟩
  ·exact .inl I
  ·exact .inr ⟨I,n⟩
 ·rintro(I|⟨I,n⟩)
  ·exact⟨.inl I,h x I⟩
  ·exact⟨.inr I,n⟩
theorem zC(a b:List α)(c:List α)(i:Nat)(hi:i<b.length):(a++b++c).eraseIdx (a.length+i)=a++b.eraseIdx i++c:=by rw[Ay,De<|Bg _ _,B1,List.eraseIdx_append_of_lt_length hi,Ay]
theorem zK [DecidableEq α]{b:List α}(nd:b.Nodup){d:α}(e:b[i]?=some d)(x:α):x∈b.eraseIdx i↔x∈b/\x≠d:=by
 rw[Dp];constructor
 ·rintro⟨j,n,h⟩;refine⟨AC h,?_⟩;rintro rfl;exact n<|(List.getElem?_inj (zb h) nd).mp<|h.trans e.symm
 ·rintro⟨h,n⟩;obtain⟨j,I⟩:=List.mem_iff_getElem?.mp h;exact⟨j,λz=>n (by rw[z,e] at I;exact(AS I).symm),I⟩
theorem To(nd:ct.Nodup){d:Vt}(e:ct[i]?=some d)(x:Vt):x∈(jh wd lk ct).eraseIdx (lk.length+i)↔x∈lk++(ct.filter λy=>decide<|y≠d)++zm wd (wr wd.length wd.length):=by
 have t:x∈zm wd (z7 wd)↔x∈zm wd (wr wd.length wd.length):=by rw[<-eU];exact⟨λh=>⟨h,A9 (aJ (cM.mp h).1).1⟩,λh=>h.1⟩
 rw[jh,zC _ _ _ _<|zb e,Aj,Aj,Aj,Aj,zK nd e,AJ,CC,t]
theorem t9{es fs:Vh}(h:∀x,x∈es↔x∈fs)(hp:p∈z7 wd)(I:∀x∈es,x.1∈z7 wd/\x.2∈z7 wd):bK wd es p=(List.range wd.length).filter (wq fs p):=by
 have r:∀q,dZ es p q->q∈z7 wd:=λq k=>by induction k with|self=>exact hp|fwd _ m _=>exact(I _ m).2|bwd _ m _=>exact(I _ m).1
 have eb:wq es p=wq fs p:=funext λq=>Bz.mpr (by rw[xq,xq];exact o4 h);unfold bK z7 gy;rw[List.filter_filter,eb];refine CO λq J=>?_;cases c:wq fs p q with
 |false=>rfl
 |true=>
  have m:=r q (xq.mp (by rw[eb];exact c));unfold z7 gy at m;rw[(AJ.mp m).2];rfl
noncomputable def df(n:Nat)(hd:List Y)(es:Vh)(p q:Nat):Option xM:=if wq es p q then none else some (hd,(List.range n).filter<|wq es p,(List.range n).filter<|wq es q)
theorem yf{es fs:Vh}(h:∀x,x∈es↔x∈fs)(hp:p∈z7 wd)(J:q∈z7 wd)(I:∀x∈es,x.1∈z7 wd/\x.2∈z7 wd):(if wq es p q then none else some (hd,bK wd es p,bK wd es q))=df wd.length hd fs p q:=by unfold df;rw[t9 h hp I,t9 h J I,show wq es p q=wq fs p q from Bz.mpr (by rw[xq,xq];exact o4 h)]
theorem Tp{x y:Nat}{e:Bool}(I:wd[r]?=some (some<|.nd e x y))(h:∀x∈lk++ct,x.1≠r)(U:∀x∈jh wd lk ct,x.1∈z7 wd/\x.2∈z7 wd):p_ wd lk ct r=df wd.length [.str "both",.int (r:Int)] (lk++ct++zm wd (wr wd.length r)) x y:=by have m:∀z∈[x,y],z∈z7 wd:=λz J=>(U (r,z)<|Ah _<|cM.mpr ⟨xH I rfl<|zb I,_,I,J⟩).2;unfold p_;rw[I];exact yf (Tk h) (m x (by simp)) (m y (by simp)) λz J=>U z (AJ.mp J).1
theorem Tq(nd:ct.Nodup){d:Vt}(e:ct[i]?=some d)(I:∀x∈jh wd lk ct,x.1∈z7 wd/\x.2∈z7 wd):q_ wd lk ct i=df wd.length [.str "cut",.int (d.1:Int),.int (d.2:Int)] (lk++(ct.filter λy=>decide<|y≠d)++zm wd (wr wd.length wd.length)) d.1 d.2:=by have m:=I d<|Ap _<|Ah _<|AC e;unfold q_;rw[e];exact yf (To nd e) m.1 m.2 λz J=>I z<|Ec J
theorem Ts(wd:List<|VG)(ct:Vh):bP wd ct=(aZ false wd).filter λr=>!decide (r∈ji wd ct):=by
 unfold bP;refine CO λr I=>?_;obtain⟨J,k,U,g⟩:=aJ I;have j:fZ wd r=true:=by unfold fZ;rw[U];cases k with|none=>cases g|some k=>rfl
 have e:r∈wm wd (ji wd ct) wd.length↔r∉ji wd ct:=by
  unfold wm;rw[AJ,jP,j,Bool.true_and];refine⟨λh=>?_,λh=>⟨AX.mpr J,?_⟩⟩
  ·have:=h.2;intro z;rw[AE z] at this;cases this
  ·rw[Av h];rfl
 by_cases c:r∈ji wd ct
 ·rw[AE c,Av λh=>e.mp h c];rfl
 ·rw[Av c,AE<|e.mpr c];rfl
noncomputable def oR(wd:List<|VG)(lk ct:Vh)(r:Nat):Option xM:=match wd[r]? with
 |some (some<|.nd _ x y)=>df wd.length [.str "both",.int (r:Int)] (lk++ct++zm wd (wr wd.length r)) x y
 |_=>none
noncomputable def Fc(wd:List<|VG)(lk ct:Vh)(d:Vt):Option xM:=df wd.length [.str "cut",.int (d.1:Int),.int (d.2:Int)] (lk++(ct.filter λy=>decide<|y≠d)++zm wd (wr wd.length wd.length)) d.1 d.2
noncomputable def tD(wd:List<|VG)(lk ct:Vh):List xM:=((aZ false wd).filter λr=>!decide (r∈ji wd ct)).filterMap (oR wd lk ct)++ct.filterMap (Fc wd lk ct)
theorem nU{α β:Type}{f g:α->Option β}:∀{l:List α},(∀x∈l,f x=g x)->l.filterMap f=l.filterMap g
 |[],_=>rfl
 |a::l,h=>by rw[BR,BR,h a<|Ao ..,nU λx I=>h x<|Ae _ I]
theorem Tt(f:α->Option β)(l:List α)(g:Nat->Option β)(h:∀i d,l[i]?=some d->g i=f d):(List.range l.length).filterMap g=l.filterMap f:=by
 have e:l=(List.range l.length).filterMap λi=>l[i]?:=by
  have:∀n,n<=l.length->l.take n=(List.range n).filterMap λi=>l[i]?:=λn=>by
   induction n with
   |zero=>exactλ_=>rfl
   |succ n U=>
    intro I;rw[B7,BM,<-U (Nat.le_of_succ_le I),A3,BR,Ai I];rfl
  have:=this l.length<|Al _;rwa[AW] at this
 conv=>rhs;rw[e,List.filterMap_filterMap]
 refine nU λi j=>?_;have J:=AX.mp j;rw[h i _<|Ai J,Ai J];rfl
theorem Tu(nd:ct.Nodup)(l:∀x∈lk,∃t n,wd[x.1]?=some (some<|.lf t n))(J:∀x∈jh wd lk ct,x.1∈z7 wd/\x.2∈z7 wd):Gj wd lk ct=tD wd lk ct:=by
 unfold Gj tD;rw[Ts];congr 1
 ·refine nU λr o=>?_;obtain⟨p,U⟩:=AJ.mp o;obtain⟨_,k,I,g⟩:=aJ p;cases k with
  |none=>cases g
  |some k=>
   cases k with
   |lf t n=>cases g
   |nd e x y=>
    have C:r∉ji wd ct:=λz=>by rw[AE z] at U;cases U
    rw[Tp I (λd hd=>?_) J]
    ·unfold oR;rw[I]
    ·rintro rfl;rcases Aj.mp hd with hd|hd
     ·obtain⟨t,n,j⟩:=l d hd;rw[I] at j;cases j
     ·exact C<|Ah _<|Bd.mpr ⟨d,hd,Ao ..⟩
 ·exact Tt _ _ _ λi d e=>Tq nd e J
end L3
namespace L2
open PySem PySem.Spec PyProof.Rows
open PySem.AutoSeq1 (wpAny_loadPart')
def pV(h:Vy)(l:Addr)(c:Int):Vy:=(h.push { cls:=.type "list_iterator",data:=.fields #[.ref l,.int 0 0] }).push { cls:=.type "enumerate",data:=.fields #[.none,.bool false,.ref h.objs.size,rawInt c,.none,.none] }
theorem tU(l:Addr)(items:Vk)(n:Nat)(dct:Option Addr)(o:Array<|Vq)(c:Int)(t:Tok)(T:PySem.Builtin.SmallTypes.fitsIndex c=true):
 Meets (Builtin.«enumerate.__new__» ⟨[.type "enumerate",.ref l],[("start",.int c t)]⟩) λ_ R s=>s.heap.get? l=some ⟨.type "list",dct,.seq items n,o⟩/\R (.ok<|.ret<|.ref (s.heap.push { cls:=.type "list_iterator",data:=.fields #[.ref l,.int 0 0] }).objs.size) { s with heap:=pV s.heap l c }:=.of_wp λU w A R s h=>by
 obtain⟨p,g,d,r,os⟩:=s;obtain⟨I,h⟩:=h;have j:=sub_enumerate;have J:Heap.IsList (Shared.heap ⟨p,g,d,r,os⟩) l items:=⟨_,I,rfl,n,rfl⟩
 wp_walk using wpAny_loadPart' I
 refine wpAny_stack_any λst=>An ?_;split
 ·rename_i C _ _ _ _ _;cases (C==Value.type "enumerate")
  ·wp_walk using wpAny_loadPart' I,wpAny_pyIter_list J
   exact⟨_,rfl,h⟩
  ·wp_walk using wpAny_loadPart' I,wpAny_pyIter_list J
   exact⟨_,rfl,h⟩
 ·wp_walk using wpAny_loadPart' I,wpAny_pyIter_list J
  exact⟨_,rfl,h⟩
theorem xL{self a:Vu}{k:Vu}:Meets (Builtin.«object.__init__» ⟨[self,a],[("start",k)]⟩) λ_ R s=>s.TypeIs self "enumerate" /\ R (.ok<|.ret .none) s:=.of_wp λI w A R s J=>by
 obtain⟨j,U⟩:=J;have l:=F.called_enumerate.init.lookup;have o:=F.called_enumerate.made;have g:(some "enumerate.__new__" != some "object.__new__")=true:=by decide
 repeat (any_goals (first|assumption|wp_step))
 exact⟨_,rfl,U⟩
theorem uu(a b k:Vu):argsOk "object.__init__" ⟨[a,b],[("start",k)]⟩:=by unfold argsOk;rw[signature?_of (id:="object.__init__") (n:=['_','_','t','i','n','i','_','_']) (o:=['t','c','e','j','b','o']) (by kernel_rfl) F.owner_object];kernel_rfl
theorem wE{w:Vx}{c:Int}{t:Tok}(hL:s.heap.IsList l items)(hf:PySem.Builtin.SmallTypes.fitsIndex c=true)
 (h:∀h',IsEnum h' (s.heap.objs.size+1) s.heap.objs.size c .none->h'.IsListIter s.heap.objs.size l 0->(∀b o,s.heap.get? b=some o->h'.get? b=some o)->Q (.ref<|s.heap.objs.size+1) { s with heap:=h' }):wpAny (model prog w) A (call (.type "enumerate") [.ref l] [("start",.int c t)]) Q E s:=by
 obtain⟨⟨cl,dct,dt,sl⟩,hl,C,n,hd⟩:=hL;replace C:cl=.type "list" := C;replace hd:dt=.seq items n:=hd;subst C hd;have J:=F.called_enumerate;obtain⟨c0,tl,a1⟩:=J.mro;have T:=J.made;have a2:=J.sub;have a3:checkTypeCall "enumerate" ⟨[.ref l],[("start",.int c t)]⟩=pure ():=by kernel_rfl
 have a0:checkBuiltinCall "enumerate.__new__" ⟨[.type "enumerate",.ref l],[("start",.int c t)]⟩=pure ():=by kernel_rfl
 have h1:=J.notType;have h2:=J.canCreate;have hz:(s.heap.push { cls:=.type "list_iterator",data:=.fields #[.ref l,.int 0 0] }).objs.size=s.heap.objs.size+1:=At ..;have he:IsEnum (pV s.heap l c) (s.heap.objs.size+1) s.heap.objs.size c .none:=by have:=vb (s.heap.push { cls:=.type "list_iterator",data:=.fields #[.ref l,.int 0 0] }) (o:={ cls:=.type "enumerate",data:=.fields #[.none,.bool false,.ref s.heap.objs.size,rawInt c,.none,.none] }) rfl;rw[hz] at this;exact this
 have q:=h _ he ⟨_,sy _<|vb _ rfl,rfl,rfl⟩ λb o x=>sy _<|sy _ x;refine wpAny_call<|codeAny_of_tree ?_;show wpAny _ _ (callAny (.type "enumerate") _) _ _ _;refine An ⟨Code.quiet_builtin _ (by decide +kernel),codeAny_builtin F.entry_type_call ?_⟩;rw[Around.under_plain (weight_type_call_type "enumerate" [.ref l] [("start",.int c t)])<|units_type_call_type "enumerate" [.ref l] [("start",.int c t)]]
 repeat (any_goals (first|assumption|wp_step))
 refine codeAny_mono (codeAny_call_builtin J.plain F.entry_enumerate_new (wpAny_of_eq a0 (tU l items n dct sl c t hf prog w A.in1 (wants (λobj U=>obj=.ref (s.heap.objs.size+1)/\U={ s with heap:=pV s.heap l c }) E) s ⟨hl,by rw[hz];exact⟨rfl,rfl⟩⟩))) λr U hr=>?_;cases r with
 |error e=>exact hr
 |ok fl=>
  cases fl with
  |ret obj=>
   obtain⟨rfl,rfl⟩:=hr;have hT:Shared.TypeIs { s with heap:=pV s.heap l c } (.ref<|s.heap.objs.size+1) "enumerate" := ⟨_,he,rfl⟩;have a4:=J.init.lookup;have a5:=J.init.bind<|.ref<|s.heap.objs.size+1
   repeat (any_goals (first|assumption|wp_step))
   refine codeAny_mono (codeAny_call_builtin J.init.plain F.entry_object_init<|J.init.check _ _ _ _ _ _ _ _ hT (uu ..)<|xL prog w A.in1 (wants (λr g=>r=.none/\Q (.ref<|s.heap.objs.size+1) g) E) _ ⟨hT,rfl,q⟩) λp g I=>?_;cases p with
   |error e=>exact I
   |ok j=>
    cases j with
    |ret r=>
     obtain⟨rfl,hq⟩:=I
     repeat (any_goals (first|assumption|wp_step))
    |_=>exact I.elim
  |_=>exact hr.elim
theorem wV{w:Vx}{e:Addr}{c:Int}{x old:Vu}{Q:Vq->Vv->Prop}(t:IsEnum s.heap e it c old)(hi:s.heap.IsListIter it l i)(hl:s.heap.IsList l items)(hx:items[i]?=some x)(j:e≠it)
 (q:∀h',IsEnumOut h' e it (c+1) x s.heap.objs.size->h'.IsListIter it l (i+1)->h'.get? s.heap.objs.size=some { cls:=.type "tuple",data:=.seq #[.int c s.toks,x] }->(∀b o,b≠e->b≠it->s.heap.get? b=some o->h'.get? b=some o)->Q (some<|.ref s.heap.objs.size) { s with heap:=h',toks:=s.toks+1 }):wpAny (model prog w) A (pyNext<|.ref e) Q E s:=by
 have hT:s.TypeIs (.ref e) "enumerate" := ⟨_,t,rfl⟩;unfold pyNext;refine Ab<|wpAny_attempt<|wpAny_callSpecial?_slot (name:=Str.ofString "__next__") hT ya<|wpAny_call_entry ya hT F.entry_enumerate_next ?_<|F.args_enumerate_next_1 _;obtain⟨p,g,d,I,os⟩:=s;have el:e<p.objs.size:=s9 t;show wpAny _ _ (field (.ref e) 2 >>= _) _ _ _;refine Ab<|BS t rfl (x:=.ref it) rfl<|Ab<|wpAny_nextOf_list_item hi hl hx λJ i1 r=>?_;replace r:Heap.SameBut it p J:=r;have e1:IsEnum J e it c old:=(r.2 e j).trans t;show wpAny _ _ (field (.ref e) 3 >>= _) _ _ ⟨J,g,d,I,os⟩;refine Ab<|BS e1 rfl (x:=rawInt c) rfl ?_;show wpAny _ _ (field (.ref e) 4 >>= _) _ _ ⟨J,g,d,I,os⟩;refine Ab<|BS e1 rfl (x:=.none) rfl ?_;show wpAny _ _ (mkInt c >>= _) _ _ ⟨J,g,d,I,os⟩;refine Ab<|wpAny_mkInt ?_;show wpAny _ _ (setField (.ref e) 3 (rawInt<|c+1) >>= _) _ _ ⟨J,g,d,I+1,os⟩;refine Ab<|wpAny_setField_rec e1 (by simp) λC e2 T=>?_;replace T:Heap.SameBut e J C:=T;replace e2:IsEnum C e it (c+1) old:=e2;refine Ab<|wpAny_setField_rec (s:=⟨C,g,d,I+1,os⟩) e2 (by simp) λU e3 s3=>?_;replace s3:Heap.SameBut e C U:=s3;replace e3:IsEnum U e it (c+1) old:=e3;have sz:U.objs.size=p.objs.size:=by rw[s3.1,T.1,r.1]
 refine Ab<|wpAny_newTuple ?_;have e4:IsEnum (U.push { cls:=.type "tuple",data:=.seq #[.int c I,x] }) e it (c+1) old:=sy _ e3;have t4:(U.push { cls:=.type "tuple",data:=.seq #[.int c I,x] }).get? p.objs.size=some { cls:=.type "tuple",data:=.seq #[.int c I,x] }:=by rw[<-sz];exact vb _ rfl
 have k4:∀b o,b≠e->J.get? b=some o->(U.push { cls:=.type "tuple",data:=.seq #[.int c I,x] }).get? b=some o:=λb o n h=>sy _<|s3.extBut b o n<|T.extBut b o n h;show wpAny _ _ (Builtin.SmallTypes.ownedTupleIsFree (.ref e) >>= _) _ _ ⟨U.push { cls:=.type "tuple",data:=.seq #[.int c I,x] },g,d,I+1,os⟩;rw[sz];generalize U.push { cls:=.type "tuple",data:=.seq #[.int c I,x] }=h4 at e4 t4 k4 ⊢;refine Ab ?_;unfold Builtin.SmallTypes.ownedTupleIsFree;refine Ab<|BS e4 rfl (x:=.none) rfl<|An ?_;simp only[if_true];refine Ab<|BZ<|Ab<|BS e4 rfl (x:=old) rfl<|Ab<|wpAny_setField_rec e4 (by simp) λh5 e5 s5=>?_;replace s5:Heap.SameBut e h4 h5:=s5;replace e5:IsEnum h5 e it (c+1) x:=e5;refine Ab ?_;unfold Builtin.SmallTypes.ownedTupleHandOut;refine Ab<|wpAny_setField_rec (s:=⟨h5,g,d,I+1,os⟩) e5 (by simp) λh6 e6 s6=>?_;replace s6:Heap.SameBut e h5 h6:=s6;replace e6:IsEnumOut h6 e it (c+1) x p.objs.size:=e6;refine wpAny_setField_rec (s:=⟨h6,g,d,I+1,os⟩) e6 (by simp) λh7 e7 s7=>?_;replace s7:Heap.SameBut e h6 h7:=s7;replace e7:IsEnumOut h7 e it (c+1) x p.objs.size:=e7;have k7:∀b o,b≠e->h4.get? b=some o->h7.get? b=some o:=λb o n h=>s7.extBut b o n<|s6.extBut b o n<|s5.extBut b o n h;refine Ab<|wpAny_letGo<|An ⟨_,rfl,An<|q h7 e7 (i1.at λo h=>k7 _ _ (A4 j)<|k4 _ _ (A4 j) h) (k7 _ _ (Dz el) t4) λb o n m h=>k7 b o n<|k4 b o n<|r.extBut b o m h⟩
theorem uz{w:Vx}{e:Addr}{c:Int}{old:Vu}{Q:Vq->Vv->Prop}(g:A.handled=none)(J:IsEnum s.heap e it c old)(hi:s.heap.IsListIter it l i)(j:s.heap.IsList l items)(p:items[i]?=none)
 (q:∀h',Heap.ExtBut it s.heap h'->Q none { s with heap:=h' }):wpAny (model prog w) A (pyNext<|.ref e) Q E s:=by
 have U:s.TypeIs (.ref e) "enumerate" := ⟨_,J,rfl⟩;unfold pyNext;refine Ab<|wpAny_attempt<|wpAny_callSpecial?_slot (name:=Str.ofString "__next__") U ya<|wpAny_call_entry ya U F.entry_enumerate_next ?_<|F.args_enumerate_next_1 _;show wpAny _ _ (field (.ref e) 2 >>= _) _ _ _;refine Ab<|BS J rfl (x:=.ref it) rfl<|Ab<|wpAny_nextOf_list_end g hi j p λh' x k I=>?_;obtain⟨o,r,t⟩:=I;exact Ab<|wpAny_isInstance (T:="StopIteration") (b:=true) ⟨o,r,t⟩ isSubtype_stop<|An<|q _ k
theorem rU{T:Vz}{p0:List Keyword}(l:backTo pos (starEach [e] env)=[(false,eval e env)])
 (g:(backToKw pos<|keywordEach p0 env).all (·.1.isSome)=true) (j:(backToKw pos<|keywordEach p0 env).any (·.1.isNone)=false)
 (h:wpAny M A (eval e env) (λv I=>wpAny M A (evalAll ((backToKw pos<|keywordEach p0 env).map (·.2))) (λkvs U=>wpAny M A (call (.type T) [v] (((backToKw pos<|keywordEach p0 env).filterMap (·.1)).zip kvs)) Q E U) E I) E s):
 wpAny M A (callWith pos (.type T) [] (backTo pos<|starEach [e] env)<|backToKw pos<|keywordEach p0 env) Q E s:=by
 rw[l];unfold callWith;refine Ab<|Ba<|A2 (evalArgs_kwB (Q:=λa I=>wpAny M A (call (.type T) a.pos a.kw) Q E I) g<|xT<|A2 h (λv I J=>yp J) λ_ _ x=>x) (λa I J=>Ab<|wpAny_standAt ?_) λ_ _ x=>x;rw[j];refine Ab<|An ?_;exact Ab<|A2 J (λr U o=>Ab<|Ba<|wpAny_point<|An o) λ_ _ x=>x
def Gk(K:Af)(a:Addr)(c:Int):It:=
 ⟨λi H=>∃xs x,aO K H a xs/\xs[i]?=some x,λi H v H'=>∃p x,H p=none/\v=.ref p/\H'=upd H p (.tup [.int<|c+i,x])/\∀xs,aO K H a xs->xs[i]?=some x,λi H=>∃xs,aO K H a xs/\xs.length<=i⟩
theorem vO{P:Vw}{w:Vx}{K:Af}(a e it:Addr)(c:Int)(l:e≠it):v_ P w K (.Tuple nq x1 tp) (Gk K a c) [e,it] e (λi h=>(∃old,IsEnum h e it (c+i) old)/\h.IsListIter it a i) where
 mem:=by simp
 obj:=λi h ψ b g=>by
  obtain⟨⟨old,J⟩,U⟩:=ψ
  rcases Aq.mp g with rfl|g
  ·exact⟨_,J,λv z=>by cases z⟩
  ·cases Ak.mp g;obtain⟨o,T,hc,hd⟩:=U;exact⟨o,T,λv z=>by rw[hd] at z;cases z⟩
 keep:=λi h h' ψ k=>(by obtain⟨⟨old,J⟩,U⟩:=ψ;exact ⟨⟨old,k e (by simp) _ J⟩,U.at λo q=>k it (by simp) o q⟩)
 item:=by
  rintro X hP hw hK hc i r s σ H E I t ⟨⟨old,J⟩,U⟩ hg;subst hP hw hK;obtain⟨xs,x,C,hx⟩:=hg;obtain⟨a0,rv,p,hz⟩:=I.list C;obtain⟨u,hu,ru⟩:=rv.get hx;refine wV J U p.isList (x:=u) (by simpa using hu) l λh1 a1 a2 ht hk=>⟨.ref s.heap.objs.size,rfl,wpAny_letOwnedTupleGo_enum a1 λh2 a3 j=>?_⟩;have el:e<s.heap.objs.size:=s9 J;have il:it<s.heap.objs.size:=by obtain⟨o,T,_⟩:=U;exact s9 T
  have kk:∀b o,b∉[e,it]->s.heap.get? b=some o->h2.get? b=some o:=λb o nb q=>by have n1:b≠e:=λz=>nb (by simp[z]);have n2:b≠it:=λz=>nb (by simp[z]);exact j.extBut b o n1<|hk b o n1 n2 q
  have tg:h2.get? s.heap.objs.size=some { cls:=.type "tuple",data:=.seq #[.int (c+i) s.toks,u] }:=j.extBut _ _ (Dz el) ht;refine⟨.ref s.heap.objs.size,upd H s.heap.objs.size<|.tup [.int<|c+i,x],?_,rfl,⟨_,x,I.hok.fresh<|Al _,rfl,rfl,λys hy=>by rw[I.list_inj hy C];exact hx⟩,⟨⟨_,by rw[show c+((i+1:Nat):Int)=c+i+1 by rw[Int.natCast_succ,Int.add_assoc]];exact a3⟩,a2.at λo q=>j.extBut _ _ (A4 l) q⟩,λb g=>?_⟩
  ·exact I.turnedN (t':=s.toks+1) kk t (Al _) ⟨by show 2<=sizeLine;decide,[.int (c+i) s.toks,u],.cons ⟨_,rfl⟩<|.cons ru .nil,⟨_,tg,rfl,_,rfl⟩⟩
  ·have a4:b<s.heap.objs.size:=by rcases Aq.mp g with rfl|g;exact el;cases Ak.mp g;exact il
   rw[qu<|A9 a4];exact(t b g).1
 done:=by rintro X hP hw hK hc i r s σ H E I t ⟨⟨old,J⟩,U⟩ hg;subst hP hw hK;obtain⟨xs,C,hx⟩:=hg;obtain⟨a0,rv,p,hz⟩:=I.list C;have hl:=rv.length;exact uz (I.ok.hd hc) J U p.isList (by simp;omega) λh1 eb=>⟨rfl,I.turnedL (t':=s.toks) (fp:=[e,it]) (λb o nb q=>eb b o (λz=>nb (by simp[z])) q) t⟩
 self:=λ_ _ _ _ _ ψ h=>(by obtain⟨⟨_,J⟩,_⟩:=ψ;exact wpAny_pyIter_enum J h)
def Tv(K:Af)(ta tb:TE):TI:=λσ H R=>ta σ H λv H1=>tb σ H1 λk H2=>∃a c,v=.ref a/\k=.int c/\0<=c/\c<1000000/\(∃xs,aO K H2 a xs)/\R (Gk K a c) H2
theorem Tw{a b:Expr}{ta tb:TE}{p kp:Pos}(hg:Gl X "enumerate")(hm:X.mg "enumerate"=none)(ha:PE X a ta)(g:PE X b tb)(o:backTo pos (starEach [a] X.env)=[(false,eval a X.env)]:=by rfl):
 PI X (.Tuple nq x1 tp) (.Call (.Name "enumerate" p) [a] [⟨some "start",b,kp⟩] pos) (Tv X.K ta tb):=by
 intro J s C H R I h;refine wpAny_Call_Name_kw<|gL I hg hm iO<|rU o rfl rfl<|aY (ha J s C H _ I h) λu s1 ψ=>?_;obtain⟨v,H1,I1,r1,q1⟩:=ψ;refine kwAll_cons<|aY (g J s1 C H1 _ I1 q1) λu2 U ⟨v2,T,r,r2,l,c,e1,e2,c0,c1,⟨xs,hq⟩,q⟩=>kwAll_nil ?_;subst e1 e2;cases r1;obtain⟨t,rfl⟩:=r2;obtain⟨a0,rv,pl,hz⟩:=r.list hq;refine wE pl.isList (by unfold PySem.Builtin.SmallTypes.fitsIndex;simp;omega) λh1 o hi hk=>?_;have I3:z9 X J C T { U with heap:=h1 }:=r.kept (t':=U.toks) hk;refine wpAny_pyIter_enum (s:={ U with heap:=h1 }) o ?_;refine⟨U.heap.objs.size+1,[U.heap.objs.size+1,U.heap.objs.size],_,_,T,rfl,I3,vO l _ _ c<|Nat.succ_ne_self _,⟨⟨_,by rw[Int.natCast_zero,Int.add_zero];exact o⟩,hi⟩,λb g=>?_,q⟩;have j:U.heap.objs.size<=b:=by rcases Aq.mp g with rfl|g;exact Cc _;cases Ak.mp g;exact Al _
 exact r.fpOk j<|r.hok.fresh j
end L2
namespace L3
open PySem L2
def io(c:Int)(ys:List Y):List Y:=ys.zipIdx.map λp=>Y.tup [.int<|c+(p.2:Nat),p.1]
theorem oq{c:Int}(h:(io c ys)[i]?=some y):∃z,ys[i]?=some z/\y=.tup [.int<|c+i,z]:=by unfold io at h;rw[Am,Dq] at h;obtain⟨⟨J,j⟩,U,g⟩:=Ar.mp h;obtain⟨l,I,o⟩:=Ar.mp U;cases o;exact⟨J,I,by rw[<-g];simp⟩
theorem ga(c:Int)(ys:List Y):(io c ys).length=ys.length:=by simp[io]
theorem rV{a:Addr}{c:Int}{keep:qp->Prop}(h:∀H L,j8 H₀ H->ja G H L->keep L->∃xs,aO G.K H a xs/\v5 G H ys xs):gM G H₀ (Gk G.K a c) (io c ys) keep where
 go:=λi H L t I J j=>by
  obtain⟨xs,sq,r⟩:=h H L t I J;have:i<xs.length:=by rw[<-r.length,<-ga c ys];exact j
  exact⟨xs,xs[i],sq,Ai this⟩
 yld:=λi H L x H' y t I J l ψ=>by obtain⟨p,z,U,o,C,f⟩:=ψ;subst o C;obtain⟨xs,sq,r⟩:=h H L t I J;obtain⟨y',g,rfl⟩:=oq l;obtain⟨x',T,rv⟩:=r.get g;have:=f xs sq;rw[T] at this;cases this;exact⟨EH U,I.skip U,p,_,rfl,cx.of zq,⟨_,_,rfl,rfl,_,_,rfl,rv.ts<|EH U,rfl⟩⟩
 stop:=λH L t I J=>by obtain⟨xs,sq,r⟩:=h H L t I J;exact⟨xs,sq,by rw[ga,r.length];exact Al _⟩
def Tx(tl tk:vt)(τ:jq)(L:qp)(R:List Y->(qp->Prop)->qp->Prop):Prop:=tl τ L λx L1=>∃a,x=.ref a/\tk τ L1 λy L2=>∃c,y=.int c/\0<=c/\c<1000000/\nN L2 a λys keep L=>R (io c ys) keep L
theorem Tz{a b:Expr}{tk:vt}{p g:Pos}(hg:Gl X "enumerate")(hm:X.mg "enumerate"=none)(ha:QE X a te)(hb:QE X b tk)(he:backTo pos (starEach [a] X.env)=[(false,eval a X.env)]:=by rfl):
 QI X (.Tuple nq x1 tp) (.Call (.Name "enumerate" p) [a] [⟨some "start",b,g⟩] pos) (Tx te tk):=PI.imq (Tw hg hm ha hb he) λσ H R τ L R3 rs j z k=>by
 refine⟨τ,L,_,rs,j,z,λv H1 y L1 t1 o r t=>?_⟩;obtain⟨l,rfl,t⟩:=t;cases r;refine⟨τ,L1,_,rs.ts t1,o,t,λv C y L2 t2 I T J=>?_⟩;obtain⟨c,rfl,c0,c1,J⟩:=J;obtain⟨ys,keep,es,g,hk,J⟩:=mG J;cases T;have hy:∀H L,j8 C H->ja X.g3 H L->keep L->∃U,aO X.K H l U/\v5 X.g3 H ys U:=λH L _ j e=>cH j<|hk L e;obtain⟨U,sq,_⟩:=hy C L2 (EG _) I g;exact⟨l,c,rfl,rfl,c0,c1,⟨U,sq⟩,k _ C _ _ L2 (t1.trans t2) I (rV hy) J⟩
open PySem L2 Words
noncomputable def gD(I:zd)(J:zd):RD "parted_cuts" cB 4 ["web","edges","parted","number","cut","sides"] (λV=>Gb V I/\Gc V J):=⟨_,λV B c _ _ _ _ _ _ _ U hN g=>(qa (S_ 1 hN<|C_ c.1 U<|jt<|qv 0)<|qa (S_ 2 hN<|zu vd)<|qa (xg u1 rfl (Tz rfl B.bf (J_ 0)<|L_ B.ba<|J_ 0) (aA (n:=2) rfl<|zf (G_ 3 hN)<|zf (G_ 4 hN) vv)<|qa (S_ 5 hN<|C_ c.2 U<|jx (J_ 0)<|cA (qk zw (xt (gB _ _ _) (qv 1) kz<|vz<|qv 3)<|xt (gB _ _ _) (qv 1) (vz<|qk zw (qv 3) qh) kz) (J_ 4)<|J_ 4)<|qg<|zx (aX<|qv 5) (qg<|za<|qz (qv 2)<|jt<|qk jK (qk jK (zk<|jt je)<|qv 4)<|qv 5) ze)<|qg<|qx<|qv 2)⟩
noncomputable def oN(I:zd)(J:zd):k8:=(gD I J).1
theorem TB :∀ys L Q,nQ C ys L Q->x4 (oN lK<|gu C) 6 ys L Q:=by
 rintro ys L Q ⟨a,l,c,I,lk,J,rfl,ha,hl,hc,hz,a4,a5,ok,hb,q⟩;have big:=a_;have pl:∀g:Vi,(qm g).length=g.length:=λg=>Ag ..;have el:=aE I<|z7 I;have tl:(z7 I).length<=I.length:=aq _ _ _;have al:(jh I lk J).length<=5000:=by unfold jh;rw[Aa,Aa];lia
 refine⟨a,l,c,I,lk,J,rfl,ha,hl,hc,hz,a4,a5,λea a7=>?_⟩;have s2:=By (o:=.lst<|qm<|jh I lk J) a7;have U:qe L ea (.lst<|qm<|jh I lk J) ea=_:=q9;generalize qe L ea (.lst<|qm<|jh I lk J)=L2 at s2 U ⊢;intro D hD;have ab:ea≠D:=λz=>by rw[z,hD] at U;cases U
 have s3:=By (o:=.lst []) hD;have fD:=s2.none hD;have U:=s3 _ _ U;have kD:qe L2 D (.lst []) D=_:=q9;have s3:=s2.trans s3;generalize qe L2 D (.lst [])=L3 at s3 U kD ⊢;refine⟨c,rfl,qb (s3 _ _ hl) ⟨_,rfl,AN _,by rw[pl];lia,?_⟩⟩;rw[pl];refine x9 (s3 _ _ hc) λkeep kp=>ku ⟨λi τ j=>∃c3 c4 c5 g,τ=[some<|v9 a l c,some<|.ref ea,some<|.ref D,c3,c4,c5]/\qd L j/\j ea=some (.lst<|qm<|jh I lk J)/\j D=some (.lst g)/\g.length<=i/\wu j D g ((List.range i).filterMap<|q_ I lk J),⟨_,_,_,[],rfl,s3,U,kD,Al _,.nil⟩,?_,?_,?_⟩
 ·rintro i τ j ⟨_,_,_,_,rfl,s,_⟩;exact kp _ (by rw[s _ _ hc,s3 _ _ hc])
 ·rintro i y τ j hy ⟨c3,c4,c5,g,rfl,s,r,j3,xl,T⟩;obtain⟨z,ez,rfl⟩:=oq hy;rw[qm,Am] at ez;obtain⟨d,ed,rfl⟩:=Ar.mp ez;have hi:=zb ed;have er:((lk.length:Int)+(i:Int))=((lk.length+i:Nat):Int):=by lia
  rw[er];have j0:=r;refine qo r λp5 h5=>?_;rw[qK];have s5:=By (o:=.lst<|(qm<|jh I lk J).take<|lk.length+i) h5;have g5:qe j p5 (.lst<|(qm<|jh I lk J).take<|lk.length+i) p5=_:=q9;have r:=s5 _ _ r;generalize qe j p5 (.lst<|(qm<|jh I lk J).take<|lk.length+i)=M5 at s5 g5 r ⊢;refine qo r λp6 h6=>?_;have s6:=By (o:=.lst<|(qm<|jh I lk J).drop<|lk.length+i+1) h6;have g6:qe M5 p6 (.lst<|(qm<|jh I lk J).drop<|lk.length+i+1) p6=_:=q9;rw[show(((lk.length+i:Nat):Int)+1)=((lk.length+i+1:Nat):Int) by lia,jF];have r:=s6 _ _ r;have g5:=s6 _ _ g5;have s6:=s5.trans s6;generalize qe M5 p6 (.lst<|(qm<|jh I lk J).drop<|lk.length+i+1)=M6 at s6 g5 g6 r ⊢;refine⟨_,_,g5,g6,by rw[AM,BC,pl];exact Bf<|big _ (by lia),λp7 h7=>?_⟩;have ee:(qm<|jh I lk J).take (lk.length+i)++(qm<|jh I lk J).drop (lk.length+i+1)=qm ((jh I lk J).eraseIdx<|lk.length+i):=by unfold qm;rw[List.eraseIdx_eq_take_drop_succ,AD,DY,ED]
  rw[ee];have s7:=s6.trans<|By (o:=.lst<|qm<|(jh I lk J).eraseIdx<|lk.length+i) h7;have g7:qe M6 p7 (.lst<|qm<|(jh I lk J).eraseIdx<|lk.length+i) p7=_:=q9;generalize qe M6 p7 (.lst<|qm<|(jh I lk J).eraseIdx<|lk.length+i)=M7 at s7 g7 ⊢;have md:=hb d<|Ap _<|Ah _<|AC ed;have pb:q_ I lk J i=if wq ((jh I lk J).eraseIdx<|lk.length+i) d.1 d.2 then none else some ([.str "cut",.int (d.1:Int),.int (d.2:Int)],bK I ((jh I lk J).eraseIdx<|lk.length+i) d.1,bK I ((jh I lk J).eraseIdx<|lk.length+i) d.2):=by unfold q_;rw[ed]
  have u:=s.trans s7;have a0:=s7 _ _ j0;have t:=s7 _ _ j3;refine⟨a,p7,I,_,d.1,d.2,rfl,u _ _ ha,g7,hz,λx hx=>hb x<|Ec hx,md.1,md.2,λrc L8 s8=>?_,λnr D1 D2 L8 s8 f1 f2 ac k1 k2=>?_⟩
  ·refine⟨_,EF _,_,_,_,g,rfl,u.trans s8,s8 _ _ a0,s8 _ _ t,by lia,?_⟩;rw[B7,BM,DZ (by rw[pb,AA<|xq.mpr rc]),B8,Aw];exact T.mono λp o _ h=>s8 p o<|s7 p o h
  ·have a1:=s8 _ _ t;refine qb a1 ⟨by simp,by show 1+2<=1000;decide,by simp,by show 3+2<=1000;decide,qo a1 ⟨big _ (by lia),⟨_,EF _,_,_,_,_,rfl,(u.trans s8).upd fD,(qc ab).trans<|s8 _ _ a0,q9,by rw[Aa];show _+1<=_;lia,?_⟩⟩⟩;have a2:D1≠D:=λz=>by rw[z,t] at f1;cases f1
   have a3:D2≠D:=λz=>by rw[z,t] at f2;cases f2
   rw[B7,BM,Eb (by rw[pb,Az λh=>nr<|xq.mp h]),B8];exact Words.Paired.app (wu.mono (L:=L8) (T.mono λp o _ h=>s8 p o<|s7 p o h) λp o n h=>(qc n).trans h)<|.cons ⟨D1,D2,rfl,a2,a3,(qc a2).trans k1,(qc a3).trans k2⟩ .nil
 ·rintro τ j ⟨c3,c4,c5,g,rfl,s,r,j3,xl,T⟩;rw[ga,pl] at T;exact xh<|q D g j s fD j3 T
end L3
namespace L2
open PySem PySem.Spec PyProof.Rows
section
variable {w:Vx}
section
variable {t1 t2:Bool}{z TI TO i1 i2 l1 l2 B:Addr}{xs ys:Vk}
end
end
section
variable {σ:L2.St}{t1 t2:Bool}{z TI TO i1 i2 l1 l2 S:Addr}{ys:VA}{R:Result->Vv->Prop}{res:Vu}
end
end L2
namespace L3
open PySem L2
open PySem L2 Words
theorem Paired.len{α β:Type}{F:α->β->Prop}:∀{xs:List α} {ys:List β},Paired F xs ys->xs.length=ys.length
 |_,_,.nil=>rfl
 |_,_,.cons _ r=>BO (· + 1)<|Paired.len r
def oG:Y->Bool
 |.non=>true
 |.int _=>true
 |.str _=>true
 |_=>false
def fq(L:qp):Nat->Y->Y->Prop
 |0,_,_=>False
 |n+1,x,y=>(oG x=true/\y=x)\/(∃xs ys,x=.tup xs/\y=.tup ys/\ys.length<=1000/\Paired (fq L n) xs ys)\/(∃a b xs ys,x=.ref a/\y=.ref b/\L a=some (.lst xs)/\L b=some (.lst ys)/\ys.length<=1000/\Paired (fq L n) xs ys)
theorem fq.flat{x:Y}(h:oG x=true):fq L (n+1) x x:=.inl ⟨h,rfl⟩
theorem fq.tup{xs:List Y}(h:Paired (fq L n) xs ys)(l:Nat.ble ys.length 1000=true:=by rfl):fq L (n+1) (.tup xs) (.tup ys):=.inr<|.inl ⟨xs,ys,rfl,rfl,CI l,h⟩
theorem qA{L:qp}{n:Nat}:∀wd:List (VG),Paired (fq L<|n+2) (jo wd)<|jo wd
 |[]=>.nil
 |none::r=>.cons (.flat rfl)<|qA r
 |some (.lf t m)::r=>.cons (.tup<|.cons (.flat rfl)<|.cons (.flat rfl) .nil)<|qA r
 |some (.nd e i j)::r=>.cons (.tup<|.cons (.flat rfl)<|.cons (.flat rfl)<|.cons (.flat rfl) .nil)<|qA r
def cV(n:Nat):zd:=λys L Q=>∃x y,ys=[x,y]/\fq L n x y/\Q (.bl true) L
theorem TC:∀ys L Q,¬cV 0 ys L Q:=λys L Q ψ=>(by obtain⟨x,y,_,h,_⟩:=ψ;exact h)
noncomputable def uO(I:zd):RR "_law_moved" dR 1 ["_law_rule","_law_at"] ["_law_rule","_law_at","_law_places","_law_arms"] I (λ_=>True):=⟨_,λV B c _ _ J _ _ _ _ _ _ g hN U=>(qa (zx (E_ U (J_ 0) je) (qg<|qx<|zk<|cA je (wa F2 rfl B.b_min wM<|vq (dY U (qv 1) (J_ 0) λ_ _=>rfl)<|dY U (qv 1) (J_ 0) λ_ _=>rfl)<|wa yN rfl B.bh qP<|vq (dY U (qv 1) (J_ 0) λ_ _=>rfl)<|dY U (qv 1) (J_ 0) λ_ _=>rfl) ze)<|qa (wv ["_law_x"] (i:=2) hN rfl (Or.inl rfl) (EL (by rfl)) rfl (rA<|xt (uF _ _ _) (qv 0) (vz qh) kz) (jB 4) (λ_ _ _ _=>wc<|aV<|wx .int rfl B.b_isinstance rfl B.b_int wX<|qv 4) λ_ _ _ _=>(dY U (qv 1) (qv 4) λ_ _=>rfl))<|qa (wv ["_law_x"] (i:=3) hN rfl (Or.inl rfl) (EL (by rfl)) rfl (rA<|xt (uF _ _ _) (qv 0) (vz qh) kz) (jB 4) (λ_ _ _ _=>wc<|aV<|wx .tuple rfl B.b_isinstance rfl B.b_tuple fO<|qv 4) λ_ _ _ _=>(C_ J g<|vq (qv 4)<|qv 1))<|qg<|qx<|fJ SJ rfl B.b_tuple fO<|jt<|qk zw (qk zw (zu<|jt<|J_ 0)<|qv 2)<|qv 3)⟩
noncomputable def TD(I:zd):k8:=(uO I).1
theorem zI(n:Nat):∀ys L Q,cQ (n+1) ys L Q->x4 (TD<|cQ n) 4 ys L Q:=by
 rintro ys L Q ⟨R,d,g,f,rfl,hd,l,hr,q⟩;have big:=a_;by_cases U:∃a b,R=.link a b
 ·obtain⟨a,b,rfl⟩:=U;have v1:=l _ (hG _) a<|Ao ..;have v2:=l _ (hG _) b<|Ae _<|Ao ..;refine xa hd<|qj v1 ?_;refine xa hd<|qj v2 ?_;refine xa hd<|qj v1 ?_;refine xa hd<|qj v2 ?_;refine xh ?_;have e1:min (f a:Int) (f b:Int)=((min (f a) (f b):Nat):Int):=RB _ _;have e2:max (f a:Int) (f b:Int)=((max (f a) (f b):Nat):Int):=RC _ _;have q:Q (.tup [.str "link",.int ((min (f a) (f b):Nat):Int),.int ((max (f a) (f b):Nat):Int)]) L:=q;rw[<-e1,<-e2] at q;exact q
 have hk:Fb R ≠ "link" := by cases R with|link a b=>exact absurd ⟨a,b,rfl⟩ U|ei r A=>show(Str.ofString "either") ≠ "link";decide +kernel|bo r A B=>show(Str.ofString "both") ≠ "link";decide +kernel|cu p s A B=>show(Str.ofString "cut") ≠ "link";decide +kernel
 have T:Q (.tup<|[.str<|Fb R]++nY ((plR R).map f)++(aI R).map λB=>zr<|bY f B) L:=by cases R with|link a b=>exact absurd ⟨a,b,rfl⟩ U|ei r A=>exact q|bo r A B=>exact q|cu p s A B=>exact q
 have vp:∀x∈plR R,kj g (.inl (x:Int))=some (.int (f x:Int)):=l R<|hG R;have va:∀B∈aI R,vo B<=n/\∀C∈fH B,∀x∈plR C,kj g (.inl (x:Int))=some (.int (f x:Int)):=λB hB=>⟨by have:=pJ hB;lia,λC hC=>l C<|ay (Sz hB) hC⟩;have lp:(plR R).length<=2:=by cases R<;>simp[plR]
 have lA:(aI R).length<=2:=by cases R<;>simp[aI]
 rw[iI R];generalize plR R=P at vp T lp;generalize aI R=I at va T lA;generalize Fb R=t at hk T;clear q l U hr;have e0:bz (Y.str t::(nY P++I.map zr)) 0=some (Y.str t):=jl (xs:=Y.str t::(nY P++I.map zr)) (j:=0) rfl;have ll:(nY P++I.map zr).length=P.length+I.length:=by rw[Aa,zv,Ag]
 walk_at "w";rw[e0];refine wn (Av hk) ?_;refine⟨qH _ _,?_⟩;rw[mo];refine ag (λi J=>J=nY ((P.take i).map f)) (by rw[ll];exact big _ (by lia)) trivial rfl ?_ ?_
 ·rintro i y J hy rfl;rcases qG hy with⟨c,x,ex,rfl⟩|⟨c,B,eB,rfl⟩
  ·refine xa hd<|qj (vp x<|AC ex) ⟨_,EF _,rfl,?_⟩;rw[A3,ex,AD,we];rfl
  ·have e1:P.take (i+1)=P.take i:=by rw[AZ (by lia),AZ c]
   have z:cz (λJ L'=>L'=L/\J=nY ((P.take<|i+1).map f)) (nY<|(P.take i).map f) L:=⟨_,EF _,rfl,by rw[e1]⟩;rw[iI B];exact z
 rintro J rfl p1 h1;rw[ll,AZ (by lia)];have s3:=By (o:=.lst<|nY<|P.map f) h1;have g3:qe L p1 (.lst<|nY<|P.map f) p1=some (.lst<|nY<|P.map f):=q9;refine⟨qH _ _,?_⟩;rw[mo];generalize qe L p1 (.lst<|nY<|P.map f)=L3 at s3 g3 ⊢;refine ag (λi J=>J=(I.take<|i-P.length).map λB=>zr<|bY f B) (by rw[ll];exact big _ (by lia)) trivial (by rw[Nat.zero_sub];rfl) ?_ ?_
 ·rintro i y J hy rfl;rcases qG hy with⟨c,x,ex,rfl⟩|⟨c,B,eB,rfl⟩
  ·exact⟨_,EF _,rfl,by rw[CL c,CL<|Bf c]⟩
  ·obtain⟨h1,h2⟩:=va B<|AC eB;have z:cQ n [zr B,.ref d] L3 λz L4=>cz (λJ L'=>L'=L3/\J=(I.take<|i+1-P.length).map λB=>zr<|bY f B) (((I.take<|i-P.length).map λB=>zr<|bY f B)++[z]) L4:=by refine⟨B,d,g,f,rfl,s3 _ _ hd,h2,h1,_,EF _,rfl,?_⟩;rw[Nat.succ_sub c,A3,eB,AD];rfl
   rw[iI B] at z ⊢;exact z
 rintro J rfl p4 h4;rw[ll,B1,AW];have a0:=aS g3 h4;have s4:=s3.trans<|By (o:=.lst<|I.map λB=>zr<|bY f B) h4;have g4:=(qc (o:=.lst<|I.map λB=>zr<|bY f B) a0).trans g3;have k4:qe L3 p4 (.lst<|I.map λB=>zr<|bY f B) p4=some (.lst<|I.map λB=>zr<|bY f B):=q9;generalize qe L3 p4 (.lst<|I.map λB=>zr<|bY f B)=L4 at s4 g4 k4 ⊢;walk_at "w";rw[e0];intro p2 h2;have s2:=By (o:=.lst [Y.str t]) h2;refine⟨_,_,q9,s2 _ _ g4,?_,λp3 h3=>?_⟩
 ·rw[zv,Ag];exact Bf (big _ (by show 1+P.length<=20000;lia))
 have s5:=s2.trans<|By (o:=.lst<|[Y.str t]++nY (P.map f)) h3;refine⟨_,_,q9,s5 _ _ k4,?_,λp5 h5=>?_⟩
 ·rw[Aa,zv,Ag,Ag];exact Bf (big _ (by show 1+P.length+I.length<=20000;lia))
 exact qo q9<|nv ((s4.trans s5).trans<|By h5) T
noncomputable def fz:RD "_law_number" cD 0 ["_law_x"] (λ_=>True):=⟨_,λV B c _ _ _ _ _ _ _ I hN J=>(qg<|qx<|qD (wx .int rfl B.b_isinstance rfl B.b_int wX<|qv 0)<|rZ<|Pf<|wx .bool rfl B.b_isinstance rfl B.b_bool OP<|qv 0)⟩
noncomputable def oU:k8:=(fz).1
noncomputable def ue(I:zd)(J:zd):RR "_law_alike" dD 2 ["_law_found","_law_due_here"] ["_law_found","_law_due_here","_law_k"] J (λV=>IW V I):=⟨_,λV B c _ _ U _ _ _ _ _ _ j hN g=>(qa (zx (mf<|qv 1) (qg<|qx<|Pe<|qv 0) ze)<|qa (zx (aV<|wx .int rfl B.b_isinstance rfl B.b_int wX<|qv 1) (qg<|qx<|qD (C_ c j<|jt<|qv 0)<|rZ<|iC (yT _ _ _ g) (qv 0) (qv 1)<|wo _) ze)<|qa (zx (aV<|wx .str rfl B.b_isinstance rfl B.b_str HG<|qv 1) (qg<|qx<|qD (wx .str rfl B.b_isinstance rfl B.b_str HG<|qv 0)<|rZ<|iC (yT _ _ _ g) (qv 0) (qv 1)<|wo _) ze)<|qa (zx (bV<|wf (aV<|wx .tuple rfl B.b_isinstance rfl B.b_tuple fO<|qv 1)<|wg<|rf<|aV<|wx .tuple rfl B.b_isinstance rfl B.b_tuple fO<|qv 0) (qg<|qx cK) ze)<|qa (zx (bV<|wf (aV<|wx .list rfl B.b_isinstance rfl B.be dI<|qv 1)<|wg<|rf<|aV<|wx .list rfl B.b_isinstance rfl B.be dI<|qv 0) (qg<|qx cK) ze)<|qa (zx (N_ g (L_ B.ba<|qv 0)<|L_ B.ba<|qv 1) (qg<|qx cK) ze)<|qa (xg u1 rfl (ve rfl B.bb<|jt<|L_ B.ba<|qv 1) (G_ 2 hN)<|qg<|zx (rf<|aV<|C_ U j<|vq (I_ (qv 0)<|qv 2)<|I_ (qv 1)<|qv 2) (qg<|qx cK) ze)<|qg<|qx cK)⟩
noncomputable def TF(I:zd)(J:zd):k8:=(ue I J).1
def i3:zd:=λys L Q=>∃i:Int,ys=[.int i]/\Q (.bl true) L
theorem TH:∀ys L Q,i3 ys L Q->x4 oU 1 ys L Q:=by rintro ys L Q ⟨i,rfl,q⟩;exact xh q
theorem TJ(n:Nat):∀ys L Q,cV (n+1) ys L Q->x4 (TF i3<|cV n) 3 ys L Q:=by
 rintro ys L Q ⟨x,y,rfl,h,q⟩;rcases h with⟨f,rfl⟩|⟨I,ys,rfl,rfl,l,p⟩|⟨a,b,I,ys,rfl,rfl,o,J,l,p⟩
 ·cases y with
  |non=>exact xh q
  |int i=>
   refine⟨i,rfl,xh ?_⟩;show Q (.bl<|nb false<|decide<|i=i) L;rw[AE rfl];exact q
  |str i=>
   refine xh ?_;show Q (.bl<|nb false<|decide<|i=i) L;rw[AE rfl];exact q
  |_=>cases f
 ·have r:=Paired.len p;walk_at "w";refine wn (b:=nb true<|decide<|(I.length:Int)=ys.length) (by rw[r,AE rfl];rfl) ?_;refine⟨⟨AN _,by lia⟩,?_⟩;rw[Bn];refine gm (λi U g=>g=L/\∃c,U=[some<|.tup I,some<|.tup ys,c]) ⟨rfl,_,rfl⟩ ?_ ?_
  ·rintro i U g t ⟨rfl,c,rfl⟩;have j:I[i]?=some (I[i]'(by lia)):=Ai (by lia);have ev:ys[i]?=some ys[i]:=Ai t;have C:bz I (0+(i:Int))=some (I[i]'(by lia)):=by rw[Bv];exact jl j
   have T:bz ys (0+(i:Int))=some ys[i]:=by rw[Bv];exact jl ev
   walk_at "w";rw[C];walk_at "w";rw[T];exact⟨_,_,rfl,EN p j ev,_,EF _,rfl,_,rfl⟩
  ·rintro U g ⟨rfl,c,rfl⟩;exact xh q
 ·have r:=Paired.len p;refine iM J ?_;walk_at "w";refine iM J ?_;walk_at "w";refine iM J ?_;walk_at "w";refine iM J<|iM o ?_;walk_at "w";refine qb o (qb J (wn (by rw[r,AE rfl];rfl) ?_));refine qb J ⟨⟨AN _,by lia⟩,?_⟩;rw[Bn];refine gm (λi U g=>g=L/\∃c,U=[some<|.ref a,some<|.ref b,c]) ⟨rfl,_,rfl⟩ ?_ ?_
  ·rintro i U g t ⟨rfl,c,rfl⟩;have j:I[i]?=some (I[i]'(by lia)):=Ai (by lia);have ev:ys[i]?=some ys[i]:=Ai t;have C:bz I (0+(i:Int))=some (I[i]'(by lia)):=by rw[Bv];exact jl j
   have T:bz ys (0+(i:Int))=some ys[i]:=by rw[Bv];exact jl ev
   refine qb o<|qj C<|qb J<|qj T ?_;exact⟨_,_,rfl,EN p j ev,_,EF _,rfl,_,rfl⟩
  ·rintro U g ⟨rfl,c,rfl⟩;exact xh q
theorem TK(h:m<=n)(I:n<=120):∀ys L Q,aG m ys L Q->aG n ys L Q:=by rintro ys L Q ⟨a,J,w,e,U,hd,_,z⟩;exact⟨a,J,w,e,U,by lia,I,z⟩
theorem yJ.nd{E:Vl}(T:yJ ks R E):(z8 R).Nodup:=T.tp.nodup_iff.mpr CV
theorem yJ.pairs{E:Vl}(T:yJ ks R E):(zc R).Nodup/\(zg R).Nodup/\(∀p∈zc R,p.1<ks.length/\p.2<ks.length)/\∀p∈zg R,p.1<ks.length/\p.2<ks.length:=by
 have cu:=T.sr.cuts T.nd;refine⟨vk (T.sr.lkI T.nd).nd,vk cu.1,λp I=>?_,λp I=>?_⟩
 ·obtain⟨_,_,_,J,U⟩:=T.sr.links p I;exact⟨zb J,zb U⟩
 ·obtain⟨J,U⟩:=bO I;exact⟨T.sr.lt _ (cu.2 _ J).2,T.sr.lt _ (cu.2 _ U).2⟩
theorem bU(f:Vs):∀R:Ru,zc (bY f R)=(zc R).map (Jh f)
 |.link _ _=>rfl
 |.ei _ A=>bU f A
 |.bo _ A B=>by show zc (bY f A)++zc (bY f B)=(zc A++zc B).map _;rw[bU f A,bU f B,AD]
 |.cu _ _ A B=>by show zc (bY f A)++zc (bY f B)=(zc A++zc B).map _;rw[bU f A,bU f B,AD]
theorem bn(f:Vs):∀R:Ru,zg (bY f R)=(zg R).map (Ji f)
 |.link _ _=>rfl
 |.ei _ A=>bn f A
 |.bo _ A B=>by show zg (bY f A)++zg (bY f B)=(zg A++zg B).map _;rw[bn f A,bn f B,AD]
 |.cu p q A B=>by show(f p,f q)::(zg (bY f A)++zg (bY f B))=((p,q)::(zg A++zg B)).map _;rw[bn f A,bn f B,AG,AD];rfl
structure afs(wd:List<|VG)(ct:Vh):Prop where
 pu:eQ wd
 cw:∀c∈ct,∃w,KW (jo wd) c.1 w/\KW (jo wd) c.2 w.turn
 ctN:(zj ct).Nodup
 ctP:∀x∈zj ct,x∉x8 wd
 ctS:ct.Pairwise ie
 wl:wd.length<=241
theorem afs.lt(I:afs wd ct){c:Vt}(hc:c∈ct):c.1<wd.length/\c.2<wd.length:=by obtain⟨w,J,U⟩:=I.cw c hc;obtain⟨_,g⟩:=J.ex;obtain⟨_,j⟩:=U.ex;exact⟨zb g,zb j⟩
theorem afs.len(I:afs wd ct):ct.length<=120:=by
 have:=kh wd.length _ I.ctN λx J=>by
  obtain⟨c,U,e⟩:=nJ J;have:=I.lt U;rcases e with rfl|rfl
  ·exact this.1
  ·exact this.2
 rw[a6] at this;have:=I.wl;lia
theorem KW.leafI :∀{w:Wd} {p:Nat},KW (jo wd) p w->∃(q:Nat) (t:Bool) (n:Str),wd[q]?=some (some<|.lf t n)
 |.leaf t n,p,h=>⟨p,t,n,h.inv_lf⟩
 |.node e l r,p,h=>by obtain⟨i,j,_,I,_⟩:=h.inv_nd;exact I.leafI
theorem yJ.cutI{E:Vl}{f:Vs}(T:yJ ks R E)(U:uk f (ks.map some) wd)(pl:lk.Perm<|zc<|bY f R)(a1:lk.Pairwise ie)(pc:ct.Perm<|zg<|bY f R)(a2:ct.Pairwise ie):afs wd ct/\tN wd lk:=by
 rw[bU] at pl;rw[bn] at pc;have nd:=T.nd;have hz:=T.len;have lt:∀x∈z8 R,x<ks.length:=λx g=>AX.mp<|T.tp.mem_iff.mp g;have N:=(T.sr.part nd).nodup_iff.mpr nd;obtain⟨N1,N2,N3⟩:=AB.mp N;have U0:eQ (ks.map some):=Sy N1 λp hp=>T.tp.mem_iff.mpr<|AX.mpr hp;have a0:=gx T.ok;have lo:(ks.map some).length=ks.length:=Ag ..;have ev:∀{p:Nat} {k:Kn},ks[p]?=some k->(ks.map some)[p]?=some (some k):=λh=>by rw[Am,h];rfl
 have up:∀{p:Nat} {k:Kn},ks[p]?=some k->wd[f p]?=some (iu f<|some k):=λ{p k} h=>U.gap.at_ p (AX.mpr (by rw[lo];exact zb h)) _<|ev h;have inj:∀a b,a<ks.length->b<ks.length->f a=f b->a=b:=λa b ha hb=>U.inj (by lia) (by lia);have a3:∀x,x∈zj ct->∃y,y∈zj (zg R)/\x=f y:=λx g=>by have:=(cS pc).mem_iff.mp g;rw[lS] at this;obtain⟨y,J,e⟩:=Bx.mp this;exact⟨y,J,e.symm⟩
 have l:∀y∈zj (zg R),y<ks.length:=λy J=>lt y<|(T.sr.part nd).mem_iff.mp<|Ah _<|Ap _ J;have r:(zj lk).Perm ((zj<|zc R).map f):=(cS pl).trans<|rL f _;have um:∀y∈zj (zc R),y<ks.length:=λy J=>lt y (AJ.mp<|T.sr.leaves.mem_iff.mp J).1;have wl:=U.len;have I:=T.sr.lkI nd;refine⟨⟨U0.ren a0 U,λc hc=>?_,?_,λx g z=>?_,a2,by lia⟩,λc hc=>?_,?_,λp=>?_,a1,?_,?_,by lia⟩
 ·obtain⟨c0,C,rfl⟩:=Bx.mp<|pc.mem_iff.mp hc;obtain⟨w,w1,w2⟩:=T.sr.cutw c0 C;have e:∀{p w},cr ks p w->KW (jo<|ks.map some) p w:=λh=>by rw[iR];exact h
  exact⟨w,U.word<|e w1,U.word<|e w2⟩
 ·have e:(zj ct).Perm ((zj<|zg R).map f):=by rw[<-lS];exact cS pc
  exact e.nodup_iff.mpr<|cX (AB.mp N2).1 λa ha b hb=>inj a b (l a ha)<|l b hb
 ·obtain⟨y,J,rfl⟩:=a3 x g;obtain⟨y',k,h1,h2⟩:=zJ z;obtain⟨p,o,a,_,h3,e,h4⟩:=U.part h1 h2;have la:=lZ a0 h3 h4;have e1:ks[p]?=some o:=lV h3;cases inj _ _ (l y J) (by lia) e;exact N3 y (Bd.mpr ⟨p,T.tp.mem_iff.mpr<|AX.mpr<|zb e1,by rw[e1];exact h4⟩) y (Ap _ J) rfl
 ·obtain⟨c0,C,rfl⟩:=Bx.mp<|pl.mem_iff.mp hc;obtain⟨t,n,h1,h2⟩:=I.at_ c0 C;exact wR (up h1)<|up h2
 ·exact r.nodup_iff.mpr<|cX I.nd λa ha b hb=>inj a b (um a ha)<|um b hb
 ·rw[r.mem_iff,Bx];constructor
  ·rintro⟨y,J,rfl⟩;have:=(AJ.mp<|T.sr.leaves.mem_iff.mp J).2;cases e:ks[y]? with
   |none=>rw[e] at this;cases this
   |some k=>
    cases k with|lf t n=>exact⟨t,n,up e⟩|nd b i j=>rw[e] at this;cases this
  ·rintro⟨t,n,h⟩;obtain⟨y,J,rfl,o,eo,ek⟩:=U.inv h;cases o with
   |none=>cases ek
   |some o=>
    cases o with
    |nd b i j=>cases ek
    |lf t' n'=>
     have e1:=lV eo;exact⟨y,T.sr.leaves.mem_iff.mpr (AJ.mpr ⟨T.tp.mem_iff.mpr<|AX.mpr<|zb e1,by rw[e1];rfl⟩),rfl⟩
 ·have h1:=pl.length_eq;have h2:=kh _ _ I.nd um;rw[Ag] at h1;rw[a6] at h2;lia
 ·intro z;obtain⟨x,g⟩:=List.exists_mem_of_length_pos<|T.sr.ends T.ok;have lx:=T.sr.lt x<|T.sr.sub x g;obtain⟨w,hw,_⟩:=iz T.ok (x+1) x (by exact BB _) lx;have hw:KW (jo<|ks.map some) x w:=by rw[iR];exact hw
  obtain⟨q,t,n,h⟩:=hw.leafI;have:=T.sr.leaves.mem_iff.mpr (AJ.mpr ⟨T.tp.mem_iff.mpr<|AX.mpr<|zb<|lV h,by rw[lV h];rfl⟩);have:=r.mem_iff.mpr<|Bx.mpr ⟨q,this,rfl⟩;rw[z] at this;cases this
section
variable {ps ps':Vh}{u v:Nat}
end
inductive Dn(wd:List<|VG)(p:Nat):Nat->Prop
 |self:Dn wd p p
 |part {z y:Nat} {k:Kn}:Dn wd p z->wd[z]?=some (some k)->y∈j6 (some k)->Dn wd p y
theorem Dn.le(ok:nX wd){y:Nat}(h:Dn wd p y):y<=p:=by
 induction h with
 |self=>exact Al _
 |@part z y k _ e I J=>
  cases k with
  |lf t n=>cases I
  |nd b i j=>
   have:=ok z b i j e;have I:y=i\/y=j:=by simpa[j6] using I
   rcases I with rfl|rfl<;>lia
theorem Dn.up{z y:Nat}{k:Kn}(e:wd[p]?=some (some k))(hz:z∈j6 (some k))(h:Dn wd z y):Dn wd p y:=by induction h with|self=>exact .part .self e hz|part _ I J U=>exact .part U I J
theorem Dn.prt{y:Nat}(h:Dn wd p y):y=p\/y∈x8 wd:=by cases h with|self=>exact .inl rfl|part _ e I=>exact .inr<|Bd.mpr ⟨_,AC e,I⟩
theorem Dn.meet(U:eQ wd){y:Nat}(h:Dn wd p y)(g:Dn wd q y):Dn wd p q\/Dn wd q p:=by
 induction h with
 |self=>exact .inr g
 |@part z y k h e J j=>
  cases g with
  |self=>exact .inl<|.part h e J
  |@part o _ r g l I=>
   cases U.un _ _ _ _ y e l J I;exact j g
theorem sG(U:eQ wd){y:Nat}(np:p∉x8 wd)(I:q∉x8 wd)(h:Dn wd p y)(g:Dn wd q y):p=q:=by
 rcases h.meet U g with h|h
 ·exact(h.prt.resolve_right I).symm
 ·exact h.prt.resolve_right np
theorem si(ok:nX wd)(U:eQ wd){y:Nat}{e:Bool}(h:wd[p]?=some (some<|.nd e i j))(h1:Dn wd i y)(h2:Dn wd j y):False:=by
 have no:∀{a b:Nat},a∈j6 (some<|.nd e i j)->b∈j6 (some<|.nd e i j)->a≠b->¬Dn wd a b:=λ{a b} I o ne g=>by
  cases g with
  |self=>exact ne rfl
  |@part z _ k g r t=>
   cases U.un _ _ _ _ b h r o t;have C:=g.le ok;obtain⟨T,k2⟩:=ok _ _ _ _ h;have I:a=i\/a=j:=by simpa[j6] using I
   rcases I with rfl|rfl<;>lia
 have J:i∈j6 (some<|.nd e i j):=Ao;have l:j∈j6 (some<|.nd e i j):=Ae _ Ao;have ne:=U.ne _ _ _ _ h;rcases h1.meet U h2 with g|g
 ·exact no J l ne g
 ·exact no l J (A4 ne) g
inductive Met(wd:List<|VG):Nat->Nat->Vi->Vl->Prop
 |lf {p q:Nat} {t t':Bool} {n n':Str}:wd[p]?=some (some<|.lf t n)->wd[q]?=some (some<|.lf t' n')->Met wd p q [(p,q)] [p,q]
 |nd {p q i j i' j':Nat} {e e':Bool} {A B:Vh} {G H:Vl}:wd[p]?=some (some<|.nd e i j)->wd[q]?=some (some<|.nd e' i' j')->Met wd i i' A G->Met wd j j' B H->Met wd p q (A++B) (p::q::(G++H))
theorem vC{wd:List<|VG}:∀{w:Wd} {p q:Nat},KW (jo wd) p w->KW (jo wd) q w.turn->∃A G,Met wd p q A G
 |.leaf t n,p,q,h,g=>⟨_,_,.lf h.inv_lf g.inv_lf⟩
 |.node e l r,p,q,h,g=>by obtain⟨i,j,I,J,U⟩:=h.inv_nd;obtain⟨i',j',o,g1,g2⟩:=g.inv_nd;obtain⟨A,G,C⟩:=vC J g1;obtain⟨B,H,T⟩:=vC U g2;exact⟨_,_,.nd I o C T⟩
section
variable {A:Vh}{G:Vl}
theorem Met.dn(M:Met wd p q A G):∀y∈G,Dn wd p y\/Dn wd q y:=by
 induction M with
 |lf _ _=>
  intro y I;rcases Aq.mp I with rfl|I
  ·exact .inl .self
  ·rw[Ak.mp I];exact .inr .self
 |@nd p q i j o r e t A B G H g l _ _ J U=>
  intro y I;rcases Aq.mp I with rfl|I
  ·exact .inl .self
  rcases Aq.mp I with rfl|I
  ·exact .inr .self
  rcases Aj.mp I with I|I
  ·exact(J y I).imp (Dn.up g Ao) (Dn.up l Ao)
  ·exact(U y I).imp (Dn.up g<|Ae _ Ao) (Dn.up l<|Ae _ Ao)
theorem Met.nodup(ok:nX wd)(U:eQ wd)(M:Met wd p q A G):(∀y,Dn wd p y->¬Dn wd q y)->G.Nodup:=by
 induction M with
 |@lf p q t t' n n' h1 h2=>
  intro ap;have:p≠q:=λe=>ap p .self<|e▸.self;simp[this]
 |@nd p q i j i' j' e e' A B G H I J m1 m2 a0 a1=>
  intro ap;have o:∀{a b:Nat} {e:Bool},a∈j6 (some<|.nd e a b):=Ao;have r:∀{a b:Nat} {e:Bool},b∈j6 (some<|.nd e a b):=Ae _ Ao;have n1:=a0 λy h h'=>ap y (h.up I o)<|h'.up J o;have n2:=a1 λy h h'=>ap y (h.up I r)<|h'.up J r;have dG:∀y∈G,Dn wd i y\/Dn wd i' y:=m1.dn;have dH:∀y∈H,Dn wd j y\/Dn wd j' y:=m2.dn;obtain⟨l1,l2⟩:=ok _ _ _ _ I;obtain⟨l3,l4⟩:=ok _ _ _ _ J;have C:∀y∈G++H,(Dn wd p y/\y<p)\/(Dn wd q y/\y<q):=λy T=>by
   rcases Aj.mp T with T|T
   ·rcases dG y T with h|h
    ·exact .inl ⟨h.up I o,by have:=h.le ok;lia⟩
    ·exact .inr ⟨h.up J o,by have:=h.le ok;lia⟩
   ·rcases dH y T with h|h
    ·exact .inl ⟨h.up I r,by have:=h.le ok;lia⟩
    ·exact .inr ⟨h.up J r,by have:=h.le ok;lia⟩
  refine AH.mpr ⟨λh=>?_,AH.mpr ⟨λh=>?_,AB.mpr ⟨n1,n2,λa ha b hb z=>?_⟩⟩⟩
  ·rcases Aq.mp h with e|h
   ·exact ap p .self<|e▸.self
   ·rcases C p h with⟨_,l⟩|⟨h,_⟩
    ·lia
    ·exact ap p .self h
  ·rcases C q h with⟨h,_⟩|⟨_,l⟩
   ·exact ap q h .self
   ·lia
  ·subst z;rcases dG a ha with h|h<;>rcases dH a hb with g|g
   ·exact si ok U I h g
   ·exact ap a (h.up I o)<|g.up J r
   ·exact ap a (g.up I r)<|h.up J o
   ·exact si ok U J h g
end
inductive oO(wd:List<|VG):Vi->Vi->Vl->Prop
 |nil:oO wd [] [] []
 |cons {c:Vt} {ct A B:Vh} {G H:Vl}:Met wd c.1 c.2 A G->oO wd ct B H->oO wd (c::ct) (A++B) (G++H)
theorem yS{wd:List<|VG}:∀{ct:Vh},(∀c∈ct,∃w,KW (jo wd) c.1 w/\KW (jo wd) c.2 w.turn)->∃A G,oO wd ct A G
 |[],_=>⟨_,_,.nil⟩
 |c::ct,h=>by obtain⟨w,I,J⟩:=h c Ao;obtain⟨A,G,m⟩:=vC I J;obtain⟨B,H,n⟩:=yS λd hd=>h d<|Ae _ hd;exact⟨_,_,.cons m n⟩
section
variable {A:Vh}{G:Vl}
theorem oO.dn(M:oO wd ct A G):∀y∈G,∃p∈zj ct,Dn wd p y:=by
 induction M with
 |nil=>exact nofun
 |@cons c ct A B G H m _ J=>
  intro y I;rw[jf];rcases Aj.mp I with I|I
  ·rcases m.dn y I with h|h
   ·exact⟨_,Ao,h⟩
   ·exact⟨_,Ae _ Ao,h⟩
  ·obtain⟨p,U,h⟩:=J y I;exact⟨p,Ae _<|Ae _ U,h⟩
theorem oO.nodup(ok:nX wd)(U:eQ wd)(M:oO wd ct A G):(zj ct).Nodup->(∀x∈zj ct,x∉x8 wd)->G.Nodup:=by
 induction M with
 |nil=>exactλ_ _=>Di
 |@cons c ct A B G H m o r=>
  intro nd np;rw[jf] at nd np;obtain⟨f1,nd⟩:=AH.mp nd;obtain⟨f2,nd⟩:=AH.mp nd;have j:=np c.1 Ao;have l:=np c.2<|Ae _ Ao;have J:∀p∈zj ct,p∉x8 wd:=λp I=>np p<|Ae _<|Ae _ I;refine AB.mpr ⟨m.nodup ok U λy h g=>f1<|sG U j l h g▸Ao,r nd J,λa t b C z=>?_⟩;subst z;obtain⟨p,I,g⟩:=o.dn a C;rcases m.dn a t with h|h
  ·exact f1<|sG U j (J p I) h g▸Ae _ I
  ·exact f2<|sG U l (J p I) h g▸I
end
section
variable {lk0 A0:Vh}{Z:List<|VG}
end
theorem TL{x:Nat} :kj (kR kvs (.inl (p:Int)) y) (.inl (x:Int))=if x=p then some y else kj kvs (.inl (x:Int)):=by
 rw[ui];by_cases c:x=p
 ·subst c;rw[AA rfl,AA rfl]
 ·rw[Az c,Az λz=>c<|Cd.mp<|Sum.inl.inj z]
noncomputable def Jq(I:zd)(J:zd):RD "_law_due" gZ 2 ["_law_web_here","_law_knots","_law_links","_law_cuts","_law_many","_law_due_here","_law_taken","_law_knot","_law_cut_here","_law_r","_law_edges"] (λV=>IV V I/\IX V J):=⟨_,λV B c _ _ _ _ _ _ _ g hN U=>(qa (dQ (qv 0)<|aA (n:=3) rfl<|zf (G_ 1 hN)<|zf (G_ 2 hN)<|zf (G_ 3 hN) vv)<|qa (S_ 4 hN<|L_ B.ba<|qv 1)<|qa (S_ 5 hN<|zu vd)<|qa (S_ 6 hN lW)<|qa (xg u1 rfl (jp<|qv 1) (G_ 7 hN)<|qg<|zx (bV<|wf (aX<|qv 7)<|wg<|E_ U (L_ B.ba<|qv 7) qh) (qa (bq U (qv 6) (J_ 7) cK)<|qg<|bq U (qv 6) (J_ 7) cK) ze)<|qa (xg u1 rfl (jp<|qv 3) (ww (i:=8) hN rfl<|Or.inr rfl)<|qa (bq U (qv 6) (J_ 8) cK)<|qg<|bq U (qv 6) (J_ 8) cK)<|qa (xg u1 rfl (ve rfl B.bb<|jt<|qv 4) (G_ 9 hN)<|qg<|zx (bV<|wf (aX<|I_ (qv 1)<|qv 9)<|wf (E_ U (I_ (I_ (qv 1)<|qv 9) qh) je)<|wg<|jy (wA U) (qv 9) (qv 6) (by with_unfolding_all rfl)) (qa (S_ 10 hN<|qk zw (qk zw (qv 2)<|qv 3)<|C_ c.1 g<|vq (qv 1)<|qv 9)<|qg<|za<|C_ c.2 g<|jx (qv 5)<|jx (qv 4)<|jx (qv 10)<|cA (zk<|vq je<|qv 9) (I_ (I_ (qv 1)<|qv 9) qh)<|I_ (I_ (qv 1)<|qv 9) qh) ze)<|qa (xg u1 rfl (jp<|qv 3) (ww (i:=8) hN rfl<|Or.inr rfl)<|qa (S_ 10 hN<|qk zw (qk zw (qv 2)<|fF ["_law_x"] (EL (by rfl)) rfl (jp<|qv 3) (jB 11) (λ_ _ _ _=>wc<|N_ U (qv 11)<|qv 8) λ_ _ _ _=>(qv 11))<|C_ c.1 g<|vq (qv 1)<|qv 4)<|qg<|za<|C_ c.2 g<|jx (qv 5)<|jx (qv 4)<|jx (qv 10)<|cA (qk jK (zk<|jt je)<|qv 8) (J_ 8)<|J_ 8)<|qg<|qx<|qv 5)⟩
noncomputable def amp(I:zd)(J:zd):k8:=(Jq I J).1
def TN(I:zd)(p1:zd):k8:=(j7 (iZ (bQ<|a8<|qf 4) (ql 9) (fj (n5 (yB<|kJ true<|jr aN (qf 1)<|qf 9)<|n5 (ss (jr aN (jr aN (qf 1)<|qf 9)<|dh 0)<|tJ "both")<|yB<|jr (xI true) (qf 9)<|qf 6) (j7 (xo (jr ai (jr ai (qf 2)<|qf 3)<|v4 I<|cq (qf 1)<|qf 9)<|ql 10)
 (w6<|v4 p1<|qr (qf 5)<|qr (qf 4)<|qr (qf 10)<|qr (Fs (tJ "both")<|qf 9)<|qr (jr aN (jr aN (qf 1)<|qf 9)<|dh 1)<|qr (jr aN (jr aN (qf 1)<|qf 9)<|dh 2) x0)) bj))
 (j7 (iZ (aj<|qf 3) (ql 8) (j7 (xo (jr ai (jr ai (qf 2)<|xS 1 (aj<|qf 3) (ql 11) (DS (qf 11)<|qf 8)<|qf 11)<|v4 I<|cq (qf 1)<|qf 4)<|ql 10)
 (w6<|v4 p1<|qr (qf 5)<|qr (qf 4)<|qr (qf 10)<|qr (jr pG (aP<|a8<|tJ "cut")<|qf 8)<|cq (jZ 8 0)<|jZ 8 1)))
 (ao<|qf 5)))
structure HsI(S:Vl)(kvs:List<|jb×Y):Prop where
 val:∀x:Nat,(kj kvs<|.inl (x:Int)).isSome=decide (x∈S)
 len:kvs.length<=S.length
theorem HsI.nil:HsI [] []:=⟨λ_=>rfl,Al _⟩
theorem HsI.put{S:Vl}(I:HsI S kvs)(x:Nat)(y:Y):HsI (S++[x]) (kR kvs (.inl (x:Int)) y):=⟨λz=>by
 rw[TL];by_cases e:z=x
 ·rw[AA e];exact(AE (by rw[e];simp)).symm
 ·rw[Az e,I.val z];exact decide_eq_decide.mpr (by simp[e]),by
 have:=cb kvs (.inl (x:Int)) y;have:=I.len;rw[Aa];show _<=_+1;lia⟩
section
variable {xs:List Y}{es:Vh}{P:qp->Prop}
theorem xU(h:L d=some (.lst xs))(T:wu L d xs rs)(W:∀I L',(∀p o,p≠d->L p=some o->L' p=some o)->L' d=some (.lst I)->I.length<=xs.length+1->wu L' d I (rs++(df n hd es p q).toList)->P L')(J:dZ es p q):∀L',qd L L'->P L':=λL' s=>by refine W xs L' (λp o _ h=>s p o h) (s _ _ h) (Cc _) ?_;rw[df,AA<|xq.mpr J];exact(Aw rs).symm▸T.mono λp o _ h=>s p o h
theorem yP(h:L d=some (.lst xs))(T:wu L d xs rs)(W:∀I L',(∀p o,p≠d->L p=some o->L' p=some o)->L' d=some (.lst I)->I.length<=xs.length+1->wu L' d I (rs++(df n hd es p q).toList)->P L')(g:¬dZ es p q):
 ∀D1 D2 L',qd L L'->L D1=none->L D2=none->L' D1=some (.lst<|nY<|(List.range n).filter<|wq es p)->L' D2=some (.lst<|nY<|(List.range n).filter<|wq es q)->P (qe L' d<|.lst<|xs++[.tup<|hd++[.ref D1,.ref D2]]):=λD1 D2 L' s f1 f2 j l=>by
 have J:D1≠d:=λz=>by rw[z,h] at f1;cases f1
 have U:D2≠d:=λz=>by rw[z,h] at f2;cases f2
 refine W _ _ (λp o n h=>(qc n).trans<|s p o h) q9 (by rw[Aa];exact Al _) ?_;rw[df,Az λh=>g<|xq.mp h];exact Words.Paired.app (wu.mono (L:=L') (T.mono λp o _ h=>s p o h) λp o n h=>(qc n).trans h)<|.cons ⟨D1,D2,rfl,J,U,(qc J).trans j,(qc U).trans l⟩ .nil
end
def nE:zd:=λys L Q=>∃a l c,∃wd:List (VG),∃lk ct:Vi,ys=[v9 a l c]/\L a=some (.lst<|jo wd)/\L l=some (.lst<|qm lk)/\L c=some (.lst<|qm ct)/\wd.length<=300/\lk.length<=300/\ct.length<=300/\nX wd/\(∀x∈jh wd lk ct,x.1<wd.length/\x.2<wd.length)/\∀D xs L',qd L L'->L D=none->L' D=some (.lst xs)->wu L' D xs (tD wd lk ct)->Q (.ref D) L'
section
variable {a D tk:Addr}{S:Vl}
theorem ug(J:∀x∈jh wd lk ct,x.1<wd.length/\x.2<wd.length)(ys:Vh)(U:∀x∈ys,x∈ct):∀x∈lk++ys++zm wd (wr wd.length r),x.1<wd.length/\x.2<wd.length:=λx I=>by
 refine J x ?_;unfold jh;rcases Aj.mp I with I|I
 ·exact Ap _<|(Aj.mp I).elim (Ap _) λh=>Ah _<|U x h
 ·exact Ah _ (eU.mpr I).1
theorem pC{cs:Vh}{U:Addr}{Q:YK}(p:L l=some (.lst<|qm lk))(hc:L U=some (.lst<|qm cs))(t:L a=some (.lst<|jo wd))(pl:∀xs:Vi,(qm xs).length=xs.length)(z0:wd.length<=300)(zs:lk.length+cs.length<=600)
 (q:∀M e,qd L M->M e=some (.lst<|qm<|lk++cs++zm wd (wr wd.length r))->Q (.ref e) M):ai (.ref l) (.ref U) L λx L1=>cj [.ref a,.int (r:Int)] L1 λy L2=>ai x y L2 Q:=by
 have big:=a_;refine⟨_,_,p,hc,by rw[pl,pl];exact Bf<|big _ (by lia),λI C=>?_⟩;have J:=By (o:=.lst<|qm lk++qm cs) C;have g1:qe L I (.lst<|qm lk++qm cs) I=_:=q9;generalize qe L I (.lst<|qm lk++qm cs)=L1 at J g1 ⊢;refine⟨a,wd,r,rfl,J _ _ t,by lia,λg T=>?_⟩;have j:=By (o:=.lst<|qm<|zm wd<|wr wd.length r) T;have g2:qe L1 g (.lst<|qm<|zm wd<|wr wd.length r) g=_:=q9;have b1:=aE wd<|wr wd.length r;have b2:=Bi (λx=>decide<|x≠r)<|List.range wd.length;rw[A6] at b2;have b3:(wr wd.length r).length<=wd.length:=b2;refine⟨_,_,j _ _ g1,g2,by rw[Aa,pl,pl,pl];exact Bf<|big _ (by lia),λp3 h3=>?_⟩;refine q _ _ ((J.trans j).trans<|By h3) (by rw[q9];unfold qm;rw[AD,AD])
theorem TQ(ha:L a=some (.lst<|jo wd))(hl:L l=some (.lst<|qm lk))(hc:L c=some (.lst<|qm ct))(hk:L tk=some (.dct kvs))(hD:L D=some (.lst []))(s0:qd L0 L)(fD:L0 D=none)(z0:wd.length<=300)(z1:lk.length<=300)(z2:ct.length<=300)(ok:nX wd)(hb:∀x∈jh wd lk ct,x.1<wd.length/\x.2<wd.length)
 (H:HsI S kvs) (hS:∀x,x∈S↔x∈ji wd ct) (ka:L0 a=some (.lst<|jo wd)) (kl:L0 l=some (.lst<|qm lk)) (kc:L0 c=some (.lst<|qm ct)) (q:∀xs L',qd L0 L'->L' D=some (.lst xs)->wu L' D xs (tD wd lk ct)->En.rt (.ref D) L'):
 TN cj gp En [c0,some<|.ref a,some<|.ref l,some<|.ref c,some<|.int (wd.length:Int),some<|.ref D,some<|.ref tk,c7,c8,none,none] L:=by
 have big:=a_;have pl:∀xs:Vi,(qm xs).length=xs.length:=λxs=>Ag ..;have bl:∀r,(zm wd<|wr wd.length r).length<=600:=λr=>by have h1:=aE wd<|wr wd.length r;have h2:=Bi (λx=>decide<|x≠r)<|List.range wd.length;rw[A6] at h2;have:(wr wd.length r).length<=wd.length:=h2;lia
 have a7:tk≠D:=λz=>by rw[z,hD] at hk;cases hk
 have pr:∀a b:Vi,qm a++qm b=qm (a++b):=λa b=>(AD ..).symm;refine⟨⟨AN _,by lia⟩,?_⟩;rw[Bn];refine gm (λi g L'=>∃c9 br xs,g=[c0,some<|.ref a,some<|.ref l,some<|.ref c,some<|.int (wd.length:Int),some<|.ref D,some<|.ref tk,c7,c8,c9,br]/\qd L0 L'/\L' tk=some (.dct kvs)/\L' D=some (.lst xs)/\xs.length<=i/\wu L' D xs (((gy (aC false) wd i).filter λr=>!decide (r∈ji wd ct)).filterMap<|oR wd lk ct)) ⟨_,_,[],rfl,s0,hk,hD,Al _,.nil⟩ ?_ ?_
 ·rintro i g L' hi ⟨c9,br,xs,rfl,s,jk,jD,xl,T⟩;obtain⟨k,ek⟩:∃k,wd[i]?=some k:=⟨_,Ai hi⟩;have ei:bz (jo wd) (i:Int)=some (w5 k):=xz ek;have C:(gy (aC false) wd<|i+1).filter (λr=>!decide (r∈ji wd ct))=(gy (aC false) wd i).filter (λr=>!decide (r∈ji wd ct))->cz (λg L'=>∃c9 br xs,g=[c0,some<|.ref a,some<|.ref l,some<|.ref c,some<|.int (wd.length:Int),some<|.ref D,some<|.ref tk,c7,c8,c9,br]/\qd L0 L'/\L' tk=some (.dct kvs)/\L' D=some (.lst xs)/\xs.length<=i+1/\wu L' D xs (((gy (aC false) wd<|i+1).filter λr=>!decide (r∈ji wd ct)).filterMap<|oR wd lk ct)) [c0,some<|.ref a,some<|.ref l,some<|.ref c,some<|.int (wd.length:Int),some<|.ref D,some<|.ref tk,c7,c8,some<|.int (i:Int),br] L':=λh=>⟨_,EF _,_,_,xs,rfl,s,jk,jD,by lia,by rw[h];exact T⟩;have stay:aC false k=false->(gy (aC false) wd<|i+1).filter (λr=>!decide (r∈ji wd ct))=(gy (aC false) wd i).filter λr=>!decide (r∈ji wd ct):=λh=>by rw[gq ek,h,Az AF,Aw]
  rw[show(0:Int)+(i:Int)=(i:Int) from Bv _];walk_at "w";refine qo (s _ _ ka)<|qj ei ?_;cases k with
  |none=>exact C<|stay rfl
  |some k=>
   cases k with
   |lf t n=>refine qb (s _ _ ka)<|qj ei ?_;cases t<;>exact C<|stay rfl
   |nd e x y=>
    refine qb (s _ _ ka)<|qj ei ?_;cases e with
    |true=>exact C<|stay rfl
    |false=>
     refine xa jk ?_;show kn (nb true (kj kvs<|Sum.inl (i:Int)).isSome) _ _;rw[H.val i];have up:=gq (f:=aC false) ek;rw[show aC false (some<|Kn.nd false x y)=true from rfl,AA rfl] at up;by_cases cu:i∈ji wd ct
     ·refine wn (by rw[AE<|(hS i).mpr cu];rfl)<|C ?_;rw[up,AV,Br (by rw[AE cu];exact AF),Bh,Aw]
     ·refine aH (by rw[Av λh=>cu<|(hS i).mp h];rfl) ?_;refine pC (s _ _ kl) (s _ _ kc) (s _ _ ka) pl z0 (by lia) λM e sM ke=>?_;have kx:=(s.trans sM) _ _ ka;refine qb kx<|qj ei<|qb kx<|qj ei ?_;obtain⟨o1,o2⟩:=ok i false x y ek;have b1:=bl i;have TM:=T.mono λp o _ h=>sM p o h;have W:∀J I,(∀p o,p≠D->M p=some o->I p=some o)->I D=some (.lst J)->J.length<=xs.length+1->wu I D J (_++(df wd.length [.str "both",.int (i:Int)] (lk++ct++zm wd (wr wd.length i)) x y).toList)->cz (λg L'=>∃c9 br xs,g=[c0,some<|.ref a,some<|.ref l,some<|.ref c,some<|.int (wd.length:Int),some<|.ref D,some<|.ref tk,c7,c8,c9,br]/\qd L0 L'/\L' tk=some (.dct kvs)/\L' D=some (.lst xs)/\xs.length<=i+1/\wu L' D xs (((gy (aC false) wd<|i+1).filter λr=>!decide (r∈ji wd ct)).filterMap<|oR wd lk ct)) [c0,some<|.ref a,some<|.ref l,some<|.ref c,some<|.int (wd.length:Int),some<|.ref D,some<|.ref tk,c7,c8,some<|.int (i:Int),some<|.ref e] I:=λJ I kk a1 a2 T'=>by
       refine⟨_,EF _,_,_,J,rfl,λp o h=>kk p o (λz=>by rw[z,fD] at h;cases h)<|sM p o<|s p o h,kk _ _ a7<|sM _ _ jk,a1,by lia,?_⟩;rw[up,AV,Bt (by rw[Av cu];rfl),Bh,BM,BR,B8];have eB:oR wd lk ct i=df wd.length [.str "both",.int (i:Int)] (lk++ct++zm wd (wr wd.length i)) x y:=by unfold oR;rw[ek]
       rw[eB];cases er:df wd.length [.str "both",.int (i:Int)] (lk++ct++zm wd (wr wd.length i)) x y with|none=>rw[er] at T';exact T'|some z=>rw[er] at T';exact T'
      exact⟨D,e,xs,_,_,wd.length,x,y,rfl,sM _ _ jD,ke,ug hb ct λ_ h=>h,by lia,by rw[Aa,Aa];lia,by lia,by lia,by lia,by simp,by show 2<=10;decide,xU (sM _ _ jD) TM W,yP (sM _ _ jD) TM W⟩
 ·rintro g L' ⟨c9,br,xs,rfl,s,jk,jD,xl,T⟩;unfold tD at q;rw[show((gy (aC false) wd wd.length).filter λr=>!decide (r∈ji wd ct))=(aZ false wd).filter λr=>!decide (r∈ji wd ct) from rfl] at T;generalize ((aZ false wd).filter λr=>!decide (r∈ji wd ct)).filterMap (oR wd lk ct)=rs at T q;refine ax (jv<|s _ _ kc) (λi g L'=>∃c8 br xs,g=[c0,some<|.ref a,some<|.ref l,some<|.ref c,some<|.int (wd.length:Int),some<|.ref D,some<|.ref tk,c7,c8,c9,br]/\qd L0 L'/\L' D=some (.lst xs)/\xs.length<=300+i/\wu L' D xs (rs++(ct.take i).filterMap (Fc wd lk ct))) ⟨_,_,xs,rfl,s,jD,by lia,by rw[DG,B8,Aw];exact T⟩ (λi g L' w=>by obtain⟨_,_,_,_,s',_⟩:=w;rw[s' _ _ kc,s _ _ kc]) ?_ ?_
  ·rintro i y g L' hy ⟨ab,a3,J,rfl,s',a0,a2,T'⟩;rw[qm,Am] at hy;obtain⟨d,ed,rfl⟩:=Ar.mp hy;have hi:=zb ed;have md:=hb d<|Ap _<|Ah _<|AC ed;refine x9 (s' _ _ kc) λkeep kp=>ag (λi zs=>zs=qm ((ct.take i).filter λy=>decide<|y≠d)) (by rw[pl];exact big _ (by lia)) (kp _ rfl) rfl ?_ ?_
   ·rintro j z zs a4 rfl;rw[qm,Am] at a4;obtain⟨x,ex,rfl⟩:=Ar.mp a4;have a5:ct.take (j+1)=ct.take j++[x]:=by rw[A3,ex];rfl
    refine⟨rfl,rfl,1,1,_,_,by decide,Jj x,Jj d,?_⟩;show kn (!Da.eq (Fa x) (Fa d)) _ _;rw[Sn];by_cases cc:x=d
    ·refine wn (by rw[AE cc];rfl) ⟨_,EF _,rfl,?_⟩;rw[a5,AV,Br (by simp[cc]),Bh,Aw]
    ·refine aH (by rw[Av cc];rfl) ⟨_,EF _,rfl,?_⟩;rw[a5,AV,Bt (by simp[cc]),Bh];unfold qm;rw[AD];rfl
   rintro zs rfl p6 h6;rw[pl,AW];have s6:=By (o:=.lst<|qm<|ct.filter λy=>decide<|y≠d) h6;have g6:qe L' p6 (.lst<|qm<|ct.filter λy=>decide<|y≠d) p6=_:=q9;have u6:=s'.trans s6;have cl:=Bi (λy=>decide<|y≠d) ct;have b1:=bl wd.length;refine pC (u6 _ _ kl) g6 (u6 _ _ ka) pl z0 (by lia) λM e sM ke=>?_;have uM:=s6.trans sM;have TM:=T'.mono λp o _ h=>uM p o h;have W:∀U I,(∀p o,p≠D->M p=some o->I p=some o)->I D=some (.lst U)->U.length<=J.length+1->wu I D U (_++(df wd.length [.str "cut",.int (d.1:Int),.int (d.2:Int)] (lk++(ct.filter λy=>decide<|y≠d)++zm wd (wr wd.length wd.length)) d.1 d.2).toList)->cz (λg L'=>∃c8 br xs,g=[c0,some<|.ref a,some<|.ref l,some<|.ref c,some<|.int (wd.length:Int),some<|.ref D,some<|.ref tk,c7,c8,c9,br]/\qd L0 L'/\L' D=some (.lst xs)/\xs.length<=300+(i+1)/\wu L' D xs (rs++(ct.take<|i+1).filterMap (Fc wd lk ct))) [c0,some<|.ref a,some<|.ref l,some<|.ref c,some<|.int (wd.length:Int),some<|.ref D,some<|.ref tk,c7,some<|n_ d,c9,some<|.ref e] I:=λU I kk a1 a2 T'=>by refine⟨_,EF _,_,_,U,rfl,λp o h=>kk p o (λz=>by rw[z,fD] at h;cases h)<|uM p o<|s' p o h,a1,by lia,?_⟩;rw[show ct.take (i+1)=ct.take i++[d] by rw[A3,ed];rfl,BM,BR,B8,<-Ay];rw[show Fc wd lk ct d=df wd.length [.str "cut",.int (d.1:Int),.int (d.2:Int)] (lk++(ct.filter λy=>decide<|y≠d)++zm wd (wr wd.length wd.length)) d.1 d.2 from rfl];cases er:df wd.length [.str "cut",.int (d.1:Int),.int (d.2:Int)] (lk++(ct.filter λy=>decide<|y≠d)++zm wd (wr wd.length wd.length)) d.1 d.2 with|none=>rw[er] at T';exact T'|some z=>rw[er] at T';exact T'
   exact⟨by simp,by show 1+2<=1000;decide,D,e,J,_,_,wd.length,d.1,d.2,rfl,uM _ _ a0,ke,ug hb _ λ_ h=>(AJ.mp h).1,by lia,by rw[Aa,Aa];lia,md.1,md.2,by lia,by simp,by show 3<=10;decide,xU (uM _ _ a0) TM W,yP (uM _ _ a0) TM W⟩
  ·rintro g L' ⟨ab,a3,J,rfl,s',a0,a2,T'⟩;rw[pl,AW] at T';exact q J L' s' a0 T'
end
theorem TR:∀ys L Q,nE ys L Q->x4 (amp cj gp) 11 ys L Q:=by
 rintro ys L Q ⟨a,l,c,U,lk,ct,rfl,ha,hl,hc,z0,z1,z2,ok,hb,q⟩;have big:=a_;have pl:∀xs:Vi,(qm xs).length=xs.length:=λxs=>Ag ..;refine qb ha λD hD=>?_;rw[v3];have s1:=By (o:=.lst []) hD;have C:qe L D (.lst []) D=_:=q9;generalize qe L D (.lst [])=L1 at s1 C ⊢;intro r hk;have a0:D≠r:=λz=>by rw[z,hk] at C;cases C
 have s2:=s1.trans<|By (o:=.dct []) hk;have kk:qe L1 r (.dct []) r=_:=q9;have C:=By (o:=.dct []) hk _ _ C;have fk:=s1.none hk;generalize qe L1 r (.dct [])=L2 at s2 kk C ⊢;refine ax (jv<|s2 _ _ ha) (λi g J=>∃c7 I,g=[some<|v9 a l c,some<|.ref a,some<|.ref l,some<|.ref c,some<|.int (U.length:Int),some<|.ref D,some<|.ref r,c7,none,none,none]/\qd L J/\J r=some (.dct I)/\J D=some (.lst [])/\HsI (x8<|U.take i) I) ⟨_,[],rfl,s2,kk,C,HsI.nil⟩ (λi g J w=>by obtain⟨_,_,_,s',_⟩:=w;rw[s' _ _ ha,s2 _ _ ha]) ?_ ?_
 ·rintro i y g J hy ⟨c7,I,rfl,s,j,p,H⟩;rw[jo,Am] at hy;obtain⟨k,ek,rfl⟩:=Ar.mp hy;have et:x8 (U.take<|i+1)=x8 (U.take i)++j6 k:=by rw[A3,ek];exact mE _ _
  have kl:=H.len;have b1:=fU<|U.take i;have hi:=zb ek;rw[AM] at b1;have stay:j6 k=[]->HsI (x8<|U.take<|i+1) I:=λh=>by rw[et,h,Aw];exact H
  cases k with
  |none=>exact⟨_,EF _,_,I,rfl,s,j,p,stay rfl⟩
  |some k=>
   cases k with
   |lf t n=>exact⟨_,EF _,_,I,rfl,s,j,p,stay rfl⟩
   |nd e x y=>
    refine xa j ⟨big _ (by lia),?_⟩;have b2:=cb I (.inl (x:Int))<|.bl true;refine xa q9 ⟨big _ (by lia),?_⟩;rw[zh];refine⟨_,EF _,_,_,rfl,s.upd fk,q9,(qc a0).trans p,?_⟩;rw[et];have:=(H.put x<|.bl true).put y<|.bl true;rwa[Ay] at this
 rintro g L3 ⟨c7,I,rfl,s3,j,p,H⟩;rw[v3,AW] at H;refine ax (jv<|s3 _ _ hc) (λi g J=>∃c8 I,g=[some<|v9 a l c,some<|.ref a,some<|.ref l,some<|.ref c,some<|.int (U.length:Int),some<|.ref D,some<|.ref r,c7,c8,none,none]/\qd L J/\J r=some (.dct I)/\J D=some (.lst [])/\HsI (x8 U++zj (ct.take i)) I) ⟨_,I,rfl,s3,j,p,by rw[DG];exact(Aw _).symm▸H⟩ (λi g J w=>by obtain⟨_,_,_,s',_⟩:=w;rw[s' _ _ hc,s3 _ _ hc]) ?_ ?_
 ·rintro i y g J hy ⟨c8,I,rfl,s,j,p,H⟩;rw[qm,Am] at hy;obtain⟨d,ed,rfl⟩:=Ar.mp hy;have kl:=H.len;have b1:=fU U;have hi:=zb ed;rw[Aa,a6,AM] at kl;refine xa j ⟨big _ (by lia),?_⟩;have b2:=cb I (.inl (d.1:Int))<|.bl true;refine xa q9 ⟨big _ (by lia),?_⟩;rw[zh];refine⟨_,EF _,_,_,rfl,s.upd fk,q9,(qc a0).trans p,?_⟩;have:=(H.put d.1<|.bl true).put d.2<|.bl true;rw[show ct.take (i+1)=ct.take i++[d] by rw[A3,ed];rfl,js,<-Ay];rwa[Ay] at this
 rintro g L4 ⟨c8,I,rfl,s4,j,p,H⟩;rw[pl,AW] at H;exact TQ (s4 _ _ ha) (s4 _ _ hl) (s4 _ _ hc) j p s4 hD z0 z1 z2 ok hb H (λ_=>Iff.rfl) ha hl hc λxs J t k T=>xh<|q D xs J t hD k T
section
variable {A:Vh}{b y w z x:Nat}
end
theorem Met.size{A:Vh}{G:Vl}(M:Met wd p q A G):∀{w:Wd},KW (jo wd) p w->G.length=2*w.size:=by
 induction M with
 |lf J _=>
  intro w h;cases w with|leaf=>rfl|node e l r=>obtain⟨_,_,I,_⟩:=h.inv_nd;rw[J] at I;cases I
 |nd J _ _ _ U g=>
  intro w h;cases w with
  |leaf=>have I:=h.inv_lf;rw[J] at I;cases I
  |node e l r=>
   obtain⟨i,j,I,o,t⟩:=h.inv_nd;rw[J] at I;cases I;have:=U o;have:=g t;rw[AK,AK,Aa];show _=2*(1+l.size+r.size);lia
theorem pS{L:qp}{n:Nat}:∀l:Vi,Paired (fq L<|n+2) (qm l)<|qm l
 |[]=>.nil
 |_::r=>.cons (.tup<|.cons (.flat rfl)<|.cons (.flat rfl) .nil)<|pS r
theorem hW{a b:Addr}{xs:List Y}(I:L a=some (.lst xs))(J:L b=some (.lst xs))(l:xs.length<=1000)(p:Paired (fq L n) xs xs):fq L (n+1) (.ref a) (.ref b):=.inr<|.inr ⟨a,b,xs,xs,rfl,rfl,I,J,l,p⟩
theorem TU{a I J:Addr}(h1:L a=some (.lst<|jo wd))(h2:L l=some (.lst<|qm lk))(U:L c=some (.lst<|qm ct))(g1:L I=some (.lst<|jo wd))(g2:L J=some (.lst<|qm lk))(g3:L c'=some (.lst<|qm ct))(g:wd.length<=1000)(j:lk.length<=1000)(o:ct.length<=1000):fq L 4 (v9 a l c) (v9 I J c'):=
 .tup (.cons (hW h1 g1 (by rw[Ag];exact g)<|qA wd) (.cons (hW h2 g2 (by rw[Ag];exact j)<|pS lk) (.cons (hW U g3 (by rw[Ag];exact o)<|pS ct) .nil)))
section
variable {K:Af}{O N b1 b2 b3 b4 b5 b6 b7 b8 b9:Addr}{a:Addr}{o0 o1 o3:Option Y}{ki:Int}
end
theorem yJ.mvp{E:Vl}{f:Vs}(T:yJ ks R E)(j:uk f (ks.map some) wd):vo (bY f R)<=96/\iY (bY f R)<=96/\(zc<|bY f R).Nodup/\(zg<|bY f R).Nodup/\(∀p∈zc (bY f R),p.2<1000000)/\∀p∈zg (bY f R),p.2<1000000:=by
 have rd:=aF<|bY f R;have C:=cg<|bY f R;have o:=(f8 f R).length_eq;have r:=T.tp.length_eq;have hz:=T.len;have wl:=j.len;have lo:(ks.map some).length=ks.length:=Ag ..;rw[Ag] at o;rw[A6] at r;obtain⟨_,_,b1,b2⟩:=T.pairs;have inj:∀a b,a<ks.length->b<ks.length->f a=f b->a=b:=λa b U g=>j.inj (by lia) (by lia);have flt:∀p,p<ks.length->f p<wd.length:=λp J=>j.gap.lt (AX.mpr (by lia)) (by lia);have cu:=T.sr.cuts T.nd;rw[bU,bn];have I:∀{l:Vh},(∀p∈l,p.1<ks.length/\p.2<ks.length)->∀x∈zj l,x<ks.length:=λh x t=>by
  obtain⟨p,J,e⟩:=nJ t;rcases e with rfl|rfl
  ·exact(h p J).1
  ·exact(h p J).2
 refine⟨by lia,by lia,vk<|(rL f _).nodup_iff.mpr<|cX (T.sr.lkI T.nd).nd λa U b g=>inj a b (I b1 a U)<|I b1 b g,vk (by rw[lS];exact cX cu.1 λa U b g=>inj a b (I b2 a U)<|I b2 b g),λp J=>?_,λp J=>?_⟩
 ·obtain⟨d,hd,rfl⟩:=Bx.mp J;have:=flt _ (b1 d hd).1;have:=flt _ (b1 d hd).2;show max _ _<_;lia
 ·obtain⟨d,hd,rfl⟩:=Bx.mp J;have:=flt _ (b2 d hd).2;show f d.2<_;lia
theorem yJ.depC{E:Vl}{f:Vs}(T:yJ ks R E)(U:uk f (ks.map some) wd)(g:ct.Perm<|zg<|bY f R):∀c∈ct,∃w,KW (jo wd) c.1 w/\KW (jo wd) c.2 w.turn/\w.depth<=96:=λc j=>by
 rw[bn] at g;obtain⟨c0,I,rfl⟩:=Bx.mp<|g.mem_iff.mp j;obtain⟨w,J,l⟩:=T.sr.cutw c0 I;have e:∀{p w},cr ks p w->KW (jo<|ks.map some) p w:=λh=>by rw[iR];exact h
 obtain⟨k,o⟩:=(e J).ex;have t:=(e J).dep<|gx T.ok;have r:=zb o;have C:=T.len;rw[Ag] at r;exact⟨w,U.word<|e J,U.word<|e l,by lia⟩
section
variable {K:Af}{O W T N:Addr}{a:Addr}{A:Vh}{G:Vl}{o0 o1:Option Y}
end
noncomputable def Jr(J:zd):RR "_law_beneath" bL 1 ["_law_knots","_law_p"] ["_law_knots","_law_p","_law_knot"] J (λ_=>True):=⟨_,λV B c _ _ I _ _ _ _ _ _ U hN g=>(qa (S_ 2 hN<|I_ (qv 0)<|qv 1)<|qa (zx (E_ g (L_ B.ba<|qv 2) qh) (qg<|qx<|zu<|jt<|qv 1) ze)<|qg<|qx<|qk zw (qk zw (zu<|jt<|qv 1)<|C_ I U<|vq (qv 0)<|J_ 2)<|C_ I U<|vq (qv 0)<|J_ 2)⟩
noncomputable def TX(I:zd):k8:=(Jr I).1
def TY(I:zd):k8:=(j7 (xo (qf 0)<|eV 3<|ju (ql 2)<|ju (ql 3)<|ju (ql 4) cO)
 (j7 (xo Ii<|ql 5)
 (j7 (iZ (aj<|qf 4) (ql 6)<|iZ (HU<|qf 6) (ql 7)<|iZ (aj<|v4 I<|cq (qf 2)<|qf 7) (ql 8)<|Ij (qf 5) (qf 8)<|yC<|.bl true)
 (j7 (mB 8<|xo (xS 1 (bQ<|a8<|r9 2) (ql 12) (n5 (yB<|kJ true<|jr aN (qf 2)<|qf 12)<|n5 (ss (l8 vY<|qr (jr aN (qf 2)<|qf 12) x0)<|dh 3)<|yB<|jr (xI true) (qf 12)<|qf 5)<|qf 12)<|ql 9)
 (j7 (fj (ss (qf 9)<|dF x0) (ao<|qf 0) bj)
 (j7 (xo (jr aN (qf 9)<|jr uK (qf 1)<|r9 9)<|ql 10)
 (j7 (xo (ER (ss (jr aN (jr aN (qf 2)<|qf 10)<|dh 0)<|tJ "both") (tJ "either")<|tJ "both")<|ql 11)
 (ao<|aP<|qr (jr ai (jr ai (xW mZ (qf 2) kq<|bp<|qf 10)<|dF<|qr (jr pG (aP<|a8<|qf 11)<|xW Fu (jr aN (qf 2)<|qf 10) (bp<|dh 1) kq) x0)<|xW mZ (qf 2) (bp<|jr ai (qf 10)<|dh 1) kq)<|cq (qf 3)<|qf 4))))))))
def TZ:k8:=(j7 (mB 8<|xo (xS 1 (bQ<|a8<|r9 2) (ql 12) (n5 (yB<|kJ true<|jr aN (qf 2)<|qf 12)<|n5 (ss (l8 vY<|qr (jr aN (qf 2)<|qf 12) x0)<|dh 3)<|yB<|jr (xI true) (qf 12)<|qf 5)<|qf 12)<|ql 9)
 (j7 (fj (ss (qf 9)<|dF x0) (ao<|qf 0) bj)
 (j7 (xo (jr aN (qf 9)<|jr uK (qf 1)<|r9 9)<|ql 10)
 (j7 (xo (ER (ss (jr aN (jr aN (qf 2)<|qf 10)<|dh 0)<|tJ "both") (tJ "either")<|tJ "both")<|ql 11)
 (ao<|aP<|qr (jr ai (jr ai (xW mZ (qf 2) kq<|bp<|qf 10)<|dF<|qr (jr pG (aP<|a8<|qf 11)<|xW Fu (jr aN (qf 2)<|qf 10) (bp<|dh 1) kq) x0)<|xW mZ (qf 2) (bp<|jr ai (qf 10)<|dh 1) kq)<|cq (qf 3)<|qf 4)))))
def T0:k8:=(ao<|aP<|qr (jr ai (jr ai (xW mZ (qf 2) kq<|bp<|qf 10)<|dF<|qr (jr pG (aP<|a8<|qf 11)<|xW Fu (jr aN (qf 2)<|qf 10) (bp<|dh 1) kq) x0)<|xW mZ (qf 2) (bp<|jr ai (qf 10)<|dh 1) kq)<|cq (qf 3)<|qf 4)
inductive xR(wd:List<|VG):Nat->Nat->Vl->Prop
 |lf {d p:Nat} {t:Bool} {n:Str}:wd[p]?=some (some<|.lf t n)->xR wd (d+1) p [p]
 |nd {d p i j:Nat} {e:Bool} {xs ys:Vl}:wd[p]?=some (some<|.nd e i j)->xR wd d i xs->xR wd d j ys->xR wd (d+1) p ([p]++xs++ys)
theorem qZ{wd:List<|VG}:∀{w:Wd} {n p:Nat},KW (jo wd) p w->w.depth<=n->∃xs,xR wd n p xs/\xs.length=w.size
 |.leaf _ _,0,_,_,d=>absurd d (by simp[Wd.depth])
 |.node _ _ _,0,_,_,d=>absurd d (by simp[Wd.depth])
 |.leaf _ _,n+1,p,h,_=>⟨_,.lf h.inv_lf,rfl⟩
 |.node e l r,n+1,p,h,d=>by obtain⟨i,j,I,J,U⟩:=h.inv_nd;simp only[Wd.depth] at d;obtain⟨xs,b1,g⟩:=qZ J (n:=n) (by lia);obtain⟨t,b2,o⟩:=qZ U (n:=n) (by lia);refine⟨_,.nd I b1 b2,?_⟩;rw[Aa,Aa,g,o];rfl
def hV(n:Nat):zd:=λys L Q=>∃a,∃wd:List (VG),∃p:Nat,∃xs:Vl,ys=[.ref a,.int (p:Int)]/\L a=some (.lst<|jo wd)/\xR wd n p xs/\xs.length<=300/\∀D L',qd L L'->L D=none->L' D=some (.lst<|nY xs)->Q (.ref D) L'
theorem T3:∀ys L Q,¬hV 0 ys L Q:=λys L Q ψ=>by obtain⟨_,_,_,_,_,_,h,_⟩:=ψ;cases h
theorem T4(n:Nat):∀ys L Q,hV (n+1) ys L Q->x4 (TX<|hV n) 3 ys L Q:=by
 rintro ys L Q ⟨a,U,p,I,rfl,J,B,hz,q⟩;have big:=a_;cases B with
 |lf e=>
  refine qb J<|qj (xz e) ?_;exactλD g=>xh<|q D _ (By g) g q9
 |@nd _ _ i j e I ys e1 b1 b2=>
  rw[Aa,Aa] at hz;refine qb J<|qj (xz e1) ?_;intro l h1;have r:=By (o:=.lst<|nY [p]) h1;have g1:qe L l (.lst<|nY [p]) l=_:=q9;refine⟨a,U,i,I,rfl,r _ _ J,b1,by lia,λp2 L2 t h2 k2=>?_⟩;refine⟨_,_,t _ _ g1,k2,by rw[zv,zv];exact Bf (big _ (by show 1+_<=_;lia)),λC h3=>?_⟩;have s3:=By (o:=.lst<|nY [p]++nY I) h3;have g3:qe L2 C (.lst<|nY [p]++nY I) C=_:=q9;have T:=(r.trans t).trans s3;refine⟨a,U,j,ys,rfl,T _ _ J,b2,by lia,λp4 L4 s4 h4 k4=>?_⟩;refine⟨_,_,s4 _ _ g3,k4,by rw[Aa,zv,zv,zv];exact Bf (big _ (by show 1+_+_<=_;lia)),λp5 h5=>?_⟩;have t5:=T.trans s4;exact xh<|q p5 _ (t5.trans<|By h5) (t5.none h5) (by rw[q9,we,we])
def lI:zd:=λys L Q=>∃a l c,∃wd:List (VG),∃ct:Vi,∃num:Int,ys=[v9 a l c,.int num]/\L a=some (.lst<|jo wd)/\L c=some (.lst<|qm ct)/\wd.length<=300/\ct.length<=300/\(∀d∈ct,(∃xs,xR wd 100 d.1 xs/\xs.length<=300)/\∃xs,xR wd 100 d.2 xs/\xs.length<=300)/\
 (∀L',qd L L'->Q (v9 a l c) L')/\∀D r e e' i j L',qd L L'->wd[r]?=some (some<|.nd e i j)->L' D=some (.lst<|jo<|wd.set r<|some<|.nd e' i j)->Q (v9 D l c) L'
theorem bB{b:Bool}{A B:Prop}(I:A)(J:B):kn b A B:=by cases b;exact wn rfl J;exact aH rfl I
theorem yR(k:VG)(h:r<wd.length):(jo wd).take r++[w5 k]++(jo wd).drop (r+1)=jo (wd.set r k):=by unfold jo;rw[List.set_eq_take_append_cons_drop,AA h,AD,AG,DY,ED,Ay];rfl
section
variable {a:Addr}{num:Int}
theorem yV{e:Bool}{o5 o9:Option Y}(g:wd[r]?=some (some<|.nd e i j))(ha:L a=some (.lst<|jo wd))(s0:qd L0 L)(z0:wd.length<=300)(q2:∀D r e e' i j L',qd L0 L'->wd[r]?=some (some<|.nd e i j)->L' D=some (.lst<|jo<|wd.set r<|some<|.nd e' i j)->En.rt (v9 D l c) L'):
 T0 En [some<|v9 a l c,some<|.int num,some<|.ref a,some<|.ref l,some<|.ref c,o5,c6,c7,c8,o9,some<|.int (r:Int),some<|.str<|kN e'] L:=by
 have big:=a_;have ei:bz (jo wd) (r:Int)=some (w5<|some<|.nd e i j):=xz g;have hr:=zb g;refine qo ha λp h5=>?_;rw[qK];have t:=By (o:=.lst<|(jo wd).take r) h5;have g5:qe L p (.lst<|(jo wd).take r) p=_:=q9;have C:=t _ _ ha;generalize qe L p (.lst<|(jo wd).take r)=J at t g5 C ⊢;refine qb C<|qj ei ?_;refine⟨by show ¬(1=0/\_);simp,by simp,by show 1+2<=1000;decide,λI h6=>?_⟩;have s6:=By (o:=.lst [w5<|some<|.nd e' i j]) h6;have g6:qe J I (.lst [w5<|some<|.nd e' i j]) I=_:=q9;have ol:(jo wd).length=wd.length:=v3 wd;refine⟨_,_,s6 _ _ g5,g6,by rw[AM,ol];exact Bf (big _ (by show _+1<=_;lia)),λU h7=>?_⟩;have T:=s6.trans<|By (o:=.lst<|(jo wd).take r++[w5<|some<|.nd e' i j]) h7;have a7:=T _ _ C;have g7:qe (qe J I<|.lst [w5<|some<|.nd e' i j]) U (.lst<|(jo wd).take r++[w5<|some<|.nd e' i j]) U=_:=q9;show xW mZ (qf 2) (bp<|jr ai (qf 10)<|yC<|.int 1) kq _ (qe (qe J I<|.lst [w5<|some<|.nd e' i j]) U<|.lst<|(jo wd).take r++[w5<|some<|.nd e' i j]) _;generalize qe (qe J I<|.lst [w5<|some<|.nd e' i j]) U (.lst<|(jo wd).take r++[w5<|some<|.nd e' i j])=L7 at T a7 g7 ⊢;refine qo a7 λp8 h8=>?_;rw[show((r:Int)+1)=((r+1:Nat):Int) by lia,jF];have s8:=By (o:=.lst<|(jo wd).drop<|r+1) h8;refine⟨_,_,s8 _ _ g7,q9,by rw[Aa,AM,BC,ol];exact Bf (big _ (by show _+1+_<=_;lia)),λp9 h9=>?_⟩;exact q2 p9 r e e' i j _ ((((s0.trans t).trans T).trans s8).trans<|By h9) g (by rw[q9,yR _ hr])
theorem T5(ka:L0 a=some (.lst<|jo wd))(hk:L d=some (.dct kvs))(s0:qd L0 L)(z0:wd.length<=300)(q1:∀L',qd L0 L'->En.rt (v9 a l c) L')(q2:∀D r e e' i j L',qd L0 L'->wd[r]?=some (some<|.nd e i j)->L' D=some (.lst<|jo<|wd.set r<|some<|.nd e' i j)->En.rt (v9 D l c) L'):
 TZ En [some<|v9 a l c,some<|.int num,some<|.ref a,some<|.ref l,some<|.ref c,some<|.ref d,c6,c7,c8,none,none,none] L:=by
 have big:=a_;have C:=s0 _ _ ka;refine qb C ⟨⟨AN _,by rw[v3];lia⟩,?_⟩;rw[v3,Bn];refine gU (λi J=>∃fs:Vl,J=nY fs/\fs.length<=i/\∀r∈fs,∃e i j,wd[r]?=some (some<|.nd e i j)) ?_ ⟨[],rfl,Al _,nofun⟩ ?_ ?_
 ·exact big _ (by lia)
 ·rintro i J hi ⟨fs,rfl,fl,T⟩;obtain⟨k,I⟩:∃k,wd[i]?=some k:=⟨_,Ai hi⟩;have ei:bz (jo wd) (0+(i:Int))=some (w5 k):=by rw[Bv];exact xz I
  have no:cz (λJ L'=>L'=L/\∃fs:Vl,J=nY fs/\fs.length<=i+1/\∀r∈fs,∃e i j,wd[r]?=some (some<|.nd e i j)) (nY fs) L:=⟨_,EF _,rfl,fs,rfl,by lia,T⟩;refine qo C<|qj ei ?_;cases k with
  |none=>exact no
  |some k=>
   cases k with
   |lf t n=>refine qb C<|qj ei ?_;exact no
   |nd e x y=>
    refine qb C<|qj ei ?_;refine xa hk<|bB ?_ no;refine⟨_,EF _,rfl,fs++[i],by rw[we,Bv];rfl,by rw[Aa];exact CT fl,λr U=>?_⟩;rcases Aj.mp U with U|U
    ·exact T r U
    ·cases Ak.mp U;exact⟨e,x,y,I⟩
 ·rintro J ⟨fs,rfl,fl,T⟩ p hp;have s1:=By (o:=.lst<|nY fs) hp;have g1:qe L p (.lst<|nY fs) p=_:=q9;have s1:=s0.trans s1;generalize qe L p (.lst<|nY fs)=L1 at s1 g1 ⊢;intro p2 h2;have g:=s1.trans<|By (o:=.lst []) h2;have g2:=By (o:=.lst []) h2 _ _ g1;refine cJ (n:=0) (m:=0) (by decide) g2 q9 (by rw[kY];exact fc _) .nil ?_;generalize qe L1 p2 (.lst [])=L2 at g g2 ⊢;cases fs with
  |nil=>exact q1 L2 g
  |cons o fs=>
   obtain⟨r,mr,er⟩:∃r,r∈o::fs/\bz (nY<|o::fs) (num % ((nY<|o::fs).length:Int))=some (.int ((r:Nat):Int)):=ff (E:=o::fs) (BV _) num;obtain⟨e,x,y,I⟩:=T r mr;have ei:bz (jo wd) (r:Int)=some (w5<|some<|.nd e x y):=xz I;have k2:=g _ _ ka;refine qb g2 ⟨by rw[zv];exact Int.ofNat_lt.mpr<|BV _,qb g2<|qj er ?_⟩;refine qb k2<|qj ei ?_;cases e with
   |false=>exact yV (e:=false) (e':=true) I k2 g z0 q2
   |true=>exact yV (e:=true) (e':=false) I k2 g z0 q2
end
theorem T8:∀ys L Q,lI ys L Q->x4 (TY<|hV 100) 12 ys L Q:=by
 rintro ys L Q ⟨a,l,c,wd,ct,num,rfl,ha,hc,z0,z2,bt,q1,q2⟩;have big:∀m:Nat,m<=1000000->m<sizeLine:=λm h=>Bp h (by decide);intro d hd;have s1:=By (o:=.dct []) hd;have kd:qe L d (.dct []) d=_:=q9;generalize qe L d (.dct [])=L1 at s1 kd ⊢;refine ax (jv<|s1 _ _ hc) (λi U J=>∃c6 c7 c8 I,U=[some<|v9 a l c,some<|.int num,some<|.ref a,some<|.ref l,some<|.ref c,some<|.ref d,c6,c7,c8,none,none,none]/\qd L J/\J d=some (.dct I)/\I.length<=600*i) ⟨_,_,_,[],rfl,s1,kd,A8 _⟩ (λi U J w=>by obtain⟨_,_,_,_,_,s',_⟩:=w;rw[s' _ _ hc,s1 _ _ hc]) ?_ ?_
 ·rintro i y U J T ⟨c6,c7,c8,I,rfl,s,g,C⟩;rw[qm,Am] at T;obtain⟨x,ex,rfl⟩:=Ar.mp T;have hi:=zb ex;obtain⟨b1,b2⟩:=bt x<|AC ex;refine ku ⟨λj U J=>∃c7 c8 I,U=[some<|v9 a l c,some<|.int num,some<|.ref a,some<|.ref l,some<|.ref c,some<|.ref d,some<|n_ x,c7,c8,none,none,none]/\qd L J/\J d=some (.dct I)/\I.length<=600*i+300*j,⟨_,_,I,rfl,s,g,C⟩,λ_ _ _ _=>True.intro,?_,?_⟩
  ·rintro j y U L2 T ⟨c7,c8,I,rfl,s,g,C⟩;have hj:j<2:=zb T;obtain⟨p,rfl,xs,B,bl⟩:∃p:Nat,y=.int (p:Int)/\∃xs,xR wd 100 p xs/\xs.length<=300:=by
    rcases (show j=0\/j=1 by lia) with rfl|rfl<;>cases T
    ·exact⟨_,rfl,b1⟩
    ·exact⟨_,rfl,b2⟩
   refine⟨a,wd,p,xs,rfl,s _ _ ha,B,bl,λD L3 s3 f3 k3=>?_⟩;have a0:D≠d:=λz=>by rw[z,g] at f3;cases f3
   refine ax (jv k3) (λm U J=>∃c8 I,U=[some<|v9 a l c,some<|.int num,some<|.ref a,some<|.ref l,some<|.ref c,some<|.ref d,some<|n_ x,some<|.int (p:Int),c8,none,none,none]/\qd L J/\J d=some (.dct I)/\J D=some (.lst<|nY xs)/\I.length<=600*i+300*j+m) ⟨_,I,rfl,s.trans s3,s3 _ _ g,k3,C⟩ (λi U J w=>by obtain⟨_,_,_,_,_,k,_⟩:=w;rw[k,k3]) ?_ ?_
   ·rintro m y U L4 T ⟨c8,I,rfl,s,g,jD,C⟩;obtain⟨r,er,rfl⟩:=bx T;have hm:=zb er;refine xa g ⟨big _ (by lia),?_⟩;have b:=cb I (.inl (r:Int))<|.bl true;exact⟨_,EF _,_,_,rfl,s.upd hd,q9,(qc a0).trans jD,by lia⟩
   ·rintro U L4 ⟨c8,I,rfl,s,g,jD,C⟩;rw[zv] at C;exact⟨_,EF _,_,_,I,rfl,s,g,by lia⟩
  ·rintro U L2 ⟨c7,c8,I,rfl,s,g,C⟩;exact⟨_,EF _,_,_,_,I,rfl,s,g,by rw[show [Y.int (x.1:Int),Y.int (x.2:Int)].length=2 from rfl] at C;lia⟩
 ·rintro U L2 ⟨c6,c7,c8,I,rfl,s,g,C⟩;exact T5 ha g s z0 (λJ t=>xh<|q1 J t) λD r e e' i j J t h1 h2=>xh<|q2 D r e e' i j J t h1 h2
noncomputable def Js:RD "_law_split" dN 0 ["_law_web_here","_law_number_here","_law_knots","_law_links","_law_cuts","_law_held","_law_pair","_law_free","_law_r"] (λ_=>True):=⟨_,λV B c _ _ _ _ _ _ _ J hN I=>(qa (dQ (qv 0)<|aA (n:=3) rfl<|zf (ww (i:=2) hN rfl<|Or.inr rfl)<|zf (G_ 3 hN)<|zf (G_ 4 hN) vv)<|qa (wy (i:=5) hN rfl (Or.inr rfl) lW)<|qa (xg u1 rfl (jp<|qk zw (qv 4)<|fF ["_law_knot"] (EL (by rfl)) rfl (jp<|qv 2) (jB 9) (λ_ _ _ _=>wc<|bV<|wf (aX<|qv 9)<|wg<|E_ I (L_ B.ba<|qv 9) qh) λ_ _ _ _=>(xt (uF _ _ _) (qv 9) (vz qh) kz)) (G_ 6 hN)<|qa (bq I (qv 5) (J_ 6) cK)<|qg<|bq I (qv 5) (J_ 6) cK)<|qa (wv ["_law_p"] (i:=7) hN rfl (Or.inl rfl) (EL (by rfl)) rfl (ve rfl B.bb<|jt<|L_ B.ba<|qv 2) (jB 9) (λ_ _ _ _=>wc<|bV<|wf (jy (wA I) (qv 9) (qv 5) (by with_unfolding_all rfl))<|wf (aX<|I_ (qv 2)<|qv 9)<|wg<|E_ I (I_ (I_ (qv 2)<|qv 9) qh) je) λ_ _ _ _=>(qv 9))<|qa (zx (E_ I (qv 7)<|zu vd) (qg<|qx<|qv 0) ze)<|qa (S_ 8 hN<|I_ (qv 7)<|qk jj (qv 1)<|L_ B.ba<|qv 7)<|qg<|qx<|zk<|cA (qk zw (qk zw (xt (gB _ _ _) (qv 2) kz<|vz<|qv 8)<|zu<|jt mD)<|xt (gB _ _ _) (qv 2) (vz<|qk zw (qv 8) qh) kz) (qv 3)<|qv 4)⟩
noncomputable def al4:k8:=(Js).1
def T9:k8:=(j7 (xo (xS 1 (bQ<|a8<|r9 2) (ql 9) (n5 (yB<|jr (xI true) (qf 9)<|qf 5)<|n5 (yB<|kJ true<|jr aN (qf 2)<|qf 9)<|ss (jr aN (jr aN (qf 2)<|qf 9)<|dh 0)<|tJ "both")<|qf 9)<|ql 7)
 (j7 (fj (ss (qf 7)<|dF x0) (ao<|qf 0) bj)
 (j7 (xo (jr aN (qf 7)<|jr uK (qf 1)<|r9 7)<|ql 8)
 (ao<|aP<|qr (jr ai (jr ai (xW mZ (qf 2) kq<|bp<|qf 8)<|dF<|a8<|yC .non)<|xW mZ (qf 2) (bp<|jr ai (qf 8)<|dh 1) kq)<|cq (qf 3)<|qf 4))))
def lH(wd:List<|VG):Vi:=wd.filterMap λk=>match k with
 |some (.nd _ i j)=>some (i,j)
 |_=>none
theorem Ua{x:Nat}(h:x∈x8 wd):x∈zj (lH wd):=by
 obtain⟨k,J,I⟩:=Bd.mp h;cases k with
 |none=>cases I
 |some k=>
  cases k with|lf=>cases I|nd e i j=>exact Bd.mpr ⟨(i,j),CB.mpr ⟨_,J,rfl⟩,I⟩
def lE:zd:=λys L Q=>∃a l c,∃wd:List (VG),∃ct:Vi,∃num:Int,ys=[v9 a l c,.int num]/\L a=some (.lst<|jo wd)/\L c=some (.lst<|qm ct)/\wd.length<=300/\ct.length<=300/\
 (∀L',qd L L'->Q (v9 a l c) L')/\∀D r i j L',qd L L'->wd[r]?=some (some<|.nd false i j)->r∉zj ct->r∉x8 wd->L' D=some (.lst<|jo<|wd.set r none)->Q (v9 D l c) L'
section
variable {a:Addr}{num:Int}
theorem Ub(ka:L0 a=some (.lst<|jo wd))(hk:L d=some (.dct kvs))(H:HsI (zj<|ct++lH wd) kvs)(s0:qd L0 L)(z0:wd.length<=300)(q1:∀L',qd L0 L'->En.rt (v9 a l c) L')(q2:∀D r i j L',qd L0 L'->wd[r]?=some (some<|.nd false i j)->r∉zj ct->r∉x8 wd->L' D=some (.lst<|jo<|wd.set r none)->En.rt (v9 D l c) L'):
 T9 En [some<|v9 a l c,some<|.int num,some<|.ref a,some<|.ref l,some<|.ref c,some<|.ref d,c6,none,none] L:=by
 have big:=a_;have ol:(jo wd).length=wd.length:=v3 wd;have T:=s0 _ _ ka;refine qb T ⟨⟨AN _,by rw[v3];lia⟩,?_⟩;rw[v3,Bn];refine gU (λi J=>∃fs:Vl,J=nY fs/\fs.length<=i/\∀r∈fs,r∉zj (ct++lH wd)/\∃i j,wd[r]?=some (some<|.nd false i j)) (big _ (by lia)) ⟨[],rfl,Al _,nofun⟩ ?_ ?_
 ·rintro i J hi ⟨fs,rfl,fl,hf⟩;obtain⟨k,U⟩:∃k,wd[i]?=some k:=⟨_,Ai hi⟩;rw[show(0:Int)+(i:Int)=(i:Int) from Bv _];have ei:bz (jo wd) (i:Int)=some (w5 k):=xz U;have no:cz (λJ L'=>L'=L/\∃fs:Vl,J=nY fs/\fs.length<=i+1/\∀r∈fs,r∉zj (ct++lH wd)/\∃i j,wd[r]?=some (some<|.nd false i j)) (nY fs) L:=⟨_,EF _,rfl,fs,rfl,by lia,hf⟩;walk_at "w";refine xa hk ?_;show kn (nb true (kj kvs<|Sum.inl (i:Int)).isSome) _ _;rw[H.val i];by_cases cu:i∈zj (ct++lH wd)
  ·exact wn (by rw[AE cu];rfl) no
  refine aH (by rw[Av cu];rfl)<|qo T<|qj ei ?_;cases k with
  |none=>exact no
  |some k=>
   cases k with
   |lf t n=>refine qb T<|qj ei ?_;cases t<;>exact no
   |nd e x y=>
    refine qb T<|qj ei ?_;cases e with
    |true=>exact no
    |false=>
     refine⟨_,EF _,rfl,fs++[i],by rw[we];rfl,by rw[Aa];exact CT fl,λr I=>?_⟩;rcases Aj.mp I with I|I
     ·exact hf r I
     ·cases Ak.mp I;exact⟨cu,x,y,U⟩
 ·rintro J ⟨fs,rfl,fl,hf⟩ p hp;have s1:=By (o:=.lst<|nY fs) hp;have g1:qe L p (.lst<|nY fs) p=_:=q9;have s1:=s0.trans s1;generalize qe L p (.lst<|nY fs)=L1 at s1 g1 ⊢;intro p2 h2;have s2:=s1.trans<|By (o:=.lst []) h2;have g2:=By (o:=.lst []) h2 _ _ g1;refine cJ (n:=0) (m:=0) (by decide) g2 q9 (by rw[kY];exact fc _) .nil ?_;generalize qe L1 p2 (.lst [])=L2 at s2 g2 ⊢;cases fs with
  |nil=>exact q1 L2 s2
  |cons o fs=>
   obtain⟨r,mr,er⟩:∃r,r∈o::fs/\bz (nY<|o::fs) (num % ((nY<|o::fs).length:Int))=some (.int ((r:Nat):Int)):=ff (E:=o::fs) (BV _) num;obtain⟨nu,x,y,U⟩:=hf r mr;have I:=zb U;have k2:=s2 _ _ ka;refine qb g2 ⟨by rw[zv];exact Int.ofNat_lt.mpr<|BV _,qb g2<|qj er ?_⟩;refine qo k2 λp5 h5=>?_;rw[qK];have s5:=By (o:=.lst<|(jo wd).take r) h5;have g5:qe L2 p5 (.lst<|(jo wd).take r) p5=_:=q9;have a5:=s5 _ _ k2;generalize qe L2 p5 (.lst<|(jo wd).take r)=L5 at s5 g5 a5 ⊢;intro g h6;have s6:=By (o:=.lst [w5 none]) h6;have g6:qe L5 g (.lst [w5 none]) g=_:=q9;refine⟨_,_,s6 _ _ g5,g6,by rw[AM,ol];exact Bf (big _ (by show _+1<=_;lia)),λC h7=>?_⟩;have s7:=s6.trans<|By (o:=.lst<|(jo wd).take r++[w5 none]) h7;have a7:=s7 _ _ a5;have g7:qe (qe L5 g<|.lst [w5 none]) C (.lst<|(jo wd).take r++[w5 none]) C=_:=q9;show xW mZ (qf 2) (bp<|jr ai (qf 8)<|yC<|.int 1) kq _ (qe (qe L5 g<|.lst [w5 none]) C<|.lst<|(jo wd).take r++[w5 none]) _;generalize qe (qe L5 g<|.lst [w5 none]) C (.lst<|(jo wd).take r++[w5 none])=L7 at s7 a7 g7 ⊢;refine qo a7 λp8 h8=>?_;show ai (.ref C) (.ref p8) (qe L7 p8<|.lst<|gd (jo wd) (some<|(r:Int)+1) none) _;rw[show((r:Int)+1)=((r+1:Nat):Int) by lia,jF];have s8:=By (o:=.lst<|(jo wd).drop<|r+1) h8;refine⟨_,_,s8 _ _ g7,q9,by rw[Aa,AM,BC,ol];exact Bf (big _ (by show _+1+_<=_;lia)),λp9 h9=>?_⟩;exact q2 p9 r x y _ ((((s2.trans s5).trans s7).trans s8).trans<|By h9) U (λh=>nu (by rw[js];exact Ap _ h)) (λh=>nu (by rw[js];exact Ah _<|Ua h)) (by rw[q9,yR _ I])
end
theorem Uc:∀ys L Q,lE ys L Q->x4 al4 9 ys L Q:=by
 rintro ys L Q ⟨a,l,c,I,U,num,rfl,ha,hc,z0,z2,q1,q2⟩;have big:=a_;have pl:∀xs:Vi,(qm xs).length=xs.length:=λxs=>Ag ..;intro d hd;have s1:=By (o:=.dct []) hd;have C:qe L d (.dct []) d=_:=q9;generalize qe L d (.dct [])=L1 at s1 C ⊢;refine x9 (s1 _ _ ha) λkeep kp=>ag (λi zs=>zs=qm (lH<|I.take i)) (by rw[v3];exact big _ (by lia)) (kp _ rfl) rfl ?_ ?_
 ·rintro i z zs a0 rfl;rw[jo,Am] at a0;obtain⟨k,ek,rfl⟩:=Ar.mp a0;have et:lH (I.take<|i+1)=lH (I.take i)++lH [k]:=by unfold lH;rw[A3,ek,BM];rfl
  cases k with
  |none=>exact⟨_,EF _,rfl,by rw[et];exact BO qm (Aw _).symm⟩
  |some k=>
   cases k with
   |lf t n=>exact⟨_,EF _,rfl,by rw[et];exact BO qm (Aw _).symm⟩
   |nd e x y=>
    refine⟨by show ¬(1=0/\_);simp,_,EF _,rfl,?_⟩;rw[et];unfold qm;rw[AD];rfl
 rintro zs rfl p hp;rw[v3,AW];have s2:=By (o:=.lst<|qm<|lH I) hp;have g2:qe L1 p (.lst<|qm<|lH I) p=_:=q9;have T:=s1.trans s2;have C:=s2 _ _ C;generalize qe L1 p (.lst<|qm<|lH I)=L2 at T g2 C ⊢;have a1:(lH I).length<=I.length:=B9 ..;refine⟨_,_,T _ _ hc,g2,by rw[pl,pl];exact Bf<|big _ (by lia),λp3 h3=>?_⟩;have e3:qm U++qm (lH I)=qm (U++lH I):=(AD ..).symm;rw[e3];have s3:=By (o:=.lst<|qm<|U++lH I) h3;have g3:qe L2 p3 (.lst<|qm<|U++lH I) p3=_:=q9;have n3:p3≠d:=λz=>by rw[z,C] at h3;cases h3
 have C:=s3 _ _ C;have s3:=T.trans s3;show nN (qe L2 p3<|.lst<|qm<|U++lH I) p3 _;generalize qe L2 p3 (.lst<|qm<|U++lH I)=L3 at s3 g3 C ⊢;refine ax (jv g3) (λi τ g=>∃c6 J,τ=[some<|v9 a l c,some<|.int num,some<|.ref a,some<|.ref l,some<|.ref c,some<|.ref d,c6,none,none]/\qd L g/\g d=some (.dct J)/\g p3=some (.lst<|qm<|U++lH I)/\HsI (zj<|(U++lH I).take i) J) ⟨_,[],rfl,s3,C,g3,HsI.nil⟩ (λi τ g w=>by obtain⟨_,_,_,_,_,k,_⟩:=w;rw[k,g3]) ?_ ?_
 ·rintro i y τ g hy ⟨c6,J,rfl,s,jk,j3,H⟩;rw[qm,Am] at hy;obtain⟨x,ex,rfl⟩:=Ar.mp hy;have kl:=H.len;have hi:=zb ex;rw[a6,AM] at kl;rw[Aa] at hi;refine xa jk ⟨big _ (by lia),?_⟩;have b2:=cb J (.inl (x.1:Int))<|.bl true;refine xa q9 ⟨big _ (by lia),?_⟩;rw[zh];refine⟨_,EF _,_,_,rfl,s.upd hd,q9,(qc n3).trans j3,?_⟩;have:=(H.put x.1<|.bl true).put x.2<|.bl true;rw[show(U++lH I).take (i+1)=(U++lH I).take i++[x] by rw[A3,ex];rfl,js];rwa[Ay] at this
 ·rintro τ g ⟨c6,J,rfl,s,jk,j3,H⟩;rw[pl,AW] at H;exact Ub ha jk H s z0 (λg t=>xh<|q1 g t) λD r i j g t h1 h2 h3 h4=>xh<|q2 D r i j g t h1 h2 h3 h4
noncomputable def Jt(g:zd)(I:zd)(J:zd)(U:zd):RD "_law_changed" bG 102 ["_law_web_here","_law_stir_here","_law_number_here"] (λV=>Ft V g/\IR V I/\IS V J/\IT V U):=⟨_,λV B c _ _ _ _ _ _ _ j hN l=>(qa (S_ 2 hN<|C_ c.1 j<|vq (qv 1) qh)<|xc (zx (E_ l (qk jj (qv 2) qh) qh) (qg<|S_ 0 hN<|C_ c.2.1 j<|vq (qv 0)<|C_ c.1 j<|vq (qv 1) qh) ze)<|xc (zx (E_ l (qk jj (qk vm (qv 2) qh) qh) qh) (qg<|S_ 0 hN<|C_ c.2.1 j<|vq (qv 0)<|C_ c.1 j<|vq (qv 1) qh) ze)<|xc (zx (E_ l (qk jj (qk vm (qv 2) qh) qh) qh) (qg<|S_ 0 hN<|C_ c.2.2.1 j<|vq (qv 0)<|C_ c.1 j<|vq (qv 1) qh) ze)<|xc (zx (E_ l (qk jj (qk vm (qv 2) qh) qh) qh) (qg<|S_ 0 hN<|C_ c.2.2.1 j<|vq (qv 0)<|C_ c.1 j<|vq (qv 1) qh) ze)<|xc (zx (E_ l (qk jj (qk vm (qv 2) qh) qh) qh) (qg<|S_ 0 hN<|C_ c.2.2.2 j<|vq (qv 0)<|C_ c.1 j<|vq (qv 1) qh) ze)<|qg<|qx<|qv 0)⟩
noncomputable def Ud(g:zd)(I:zd)(J:zd)(U:zd):k8:=(Jt g I J U).1
theorem wL{k o z:VG}(h:wd[r]?=some k)(e:(wd.set r o)[p]?=some z):(p=r/\z=o)\/(p≠r/\wd[p]?=some z):=by
 rw[DN] at e;by_cases c:r=p
 ·rw[AA c,AA<|zb h] at e;exact .inl ⟨c.symm,(AS e).symm⟩
 ·rw[Az c] at e;exact .inr ⟨λz=>c z.symm,e⟩
theorem e9{o z:VG}(n:p≠r)(e:wd[p]?=some z):(wd.set r o)[p]?=some z:=by rw[Bl n.symm];exact e
structure uq(wd:List<|VG)(lk ct:Vh):Prop where
 ok:nX wd
 th:yX wd
 ls:tN wd lk
 cn:ct.Nodup
 cl:ct.length<=120
 ct:∀d∈ct,(∃k,wd[d.1]?=some (some k))/\∃k,wd[d.2]?=some (some k)
section
variable {e:Bool}{o:VG}
theorem tN.put(I:tN wd lk)(h:wd[r]?=some (some<|.nd e i j))(J:∀t n,o≠some (.lf t n)):tN (wd.set r o) lk:=by
 have key:∀(p:Nat) (t:Bool) (n:Str),(wd.set r o)[p]?=some (some<|.lf t n)↔wd[p]?=some (some<|.lf t n):=λp t n=>by
  constructor
  ·intro g;rcases wL h g with⟨_,z⟩|⟨_,z⟩
   ·exact(J t n z.symm).elim
   ·exact z
  ·intro g;refine e9 (λz=>?_) g;rw[z,h] at g;cases g
 refine⟨λc U=>?_,I.lkN,λp=>(I.lkL p).trans ?_,I.lkS,I.ll,I.ne,by rw[Bo];exact I.wl⟩
 ·obtain⟨lt,t,n,l,C⟩:=I.lkA c U;exact⟨lt,t,n,(key _ _ _).mpr l,(key _ _ _).mpr C⟩
 ·exact⟨λ ψ=>(by obtain⟨t,n,g⟩:=ψ;exact ⟨t,n,(key _ _ _).mpr g⟩),λ ψ=>(by obtain⟨t,n,g⟩:=ψ;exact ⟨t,n,(key _ _ _).mp g⟩)⟩
theorem lO(h:wd[r]?=some (some<|.nd e i j))(g:∃k,wd[p]?=some (some k)):∃k,(wd.set r<|some<|.nd e' i j)[p]?=some (some k):=by
 obtain⟨k,g⟩:=g;by_cases c:p=r
 ·exact⟨_,by rw[c];exact BH<|zb h⟩
 ·exact⟨k,e9 c g⟩
theorem uq.flip(W:uq wd lk ct)(h:wd[r]?=some (some<|.nd e i j)):uq (wd.set r<|some<|.nd e' i j) lk ct:=by
 have key:∀(p:Nat) (I:Bool) (x y:Nat),(wd.set r<|some<|.nd e' i j)[p]?=some (some<|.nd I x y)->∃J,wd[p]?=some (some<|.nd J x y):=λp I x y g=>by
  rcases wL h g with⟨rfl,z⟩|⟨_,z⟩
  ·cases z;exact⟨e,h⟩
  ·exact⟨_,z⟩
 refine⟨λp I x y g=>?_,λp I x y g=>?_,W.ls.put h λt n=>nofun,W.cn,W.cl,λd hd=>?_⟩
 ·obtain⟨J,g⟩:=key p I x y g;exact W.ok p J x y g
 ·obtain⟨J,g⟩:=key p I x y g;obtain⟨g1,g2⟩:=W.th p J x y g;exact⟨lO h g1,lO h g2⟩
 ·obtain⟨g1,g2⟩:=W.ct d hd;exact⟨lO h g1,lO h g2⟩
theorem xR.flip{d:Nat}{xs:Vl}(h:wd[r]?=some (some<|.nd e i j))(B:xR wd d p xs):xR (wd.set r<|some<|.nd e' i j) d p xs:=by
 induction B with
 |@lf d p t n g=>
  refine .lf<|e9 (λz=>?_) g;rw[z,h] at g;cases g
 |@nd d p x y I xs J g _ _ b1 b2=>
  by_cases c:p=r
  ·subst c;rw[h] at g;cases g;exact .nd (BH<|zb h) b1 b2
  ·exact .nd (e9 c g) b1 b2
theorem uq.gone(W:uq wd lk ct)(h:wd[r]?=some (some<|.nd e i j))(o:r∉zj ct)(C:r∉x8 wd):uq (wd.set r none) lk ct:=by
 have key:∀(p:Nat) (k:Kn),(wd.set r none)[p]?=some (some k)->wd[p]?=some (some k):=λp k g=>by
  rcases wL h g with⟨_,z⟩|⟨_,z⟩
  ·cases z
  ·exact z
 refine⟨λp I x y g=>W.ok p I x y<|key _ _ g,λp I x y g=>?_,W.ls.put h λt n=>nofun,W.cn,W.cl,λd hd=>?_⟩
 ·obtain⟨⟨J,g1⟩,U,g2⟩:=W.th p I x y<|key _ _ g;have m:=λz l=>Sx (x:=z) (key _ _ g) l;exact⟨⟨J,e9 (λz=>C<|z▸m x (by simp[j6])) g1⟩,U,e9 (λz=>C<|z▸m y (by simp[j6])) g2⟩
 ·obtain⟨⟨J,g1⟩,U,g2⟩:=W.ct d hd;have m:∀z∈[d.1,d.2],z∈zj ct:=λz l=>Bd.mpr ⟨d,hd,l⟩;exact⟨⟨J,e9 (λz=>o<|z▸m d.1 (by simp)) g1⟩,U,e9 (λz=>o<|z▸m d.2 (by simp)) g2⟩
end
def u3(wd:List<|VG)(ct:Vh):Prop:=∀d∈ct,(∃xs,xR wd 100 d.1 xs/\xs.length<=300)/\∃xs,xR wd 100 d.2 xs/\xs.length<=300
theorem u3.flip{e:Bool}(B:u3 wd ct)(h:wd[r]?=some (some<|.nd e i j)):u3 (wd.set r<|some<|.nd e' i j) ct:=λd hd=>by obtain⟨⟨I,b1,J⟩,U,b2,g⟩:=B d hd;exact⟨⟨I,b1.flip h,J⟩,U,b2.flip h,g⟩
def pP:zd:=λys L Q=>∃a l c,∃wd:List (VG),∃lk ct:Vi,∃s:Int,ys=[v9 a l c,.int s]/\L a=some (.lst<|jo wd)/\L l=some (.lst<|qm lk)/\L c=some (.lst<|qm ct)/\uq wd lk ct/\u3 wd ct/\∀I J wd' pR L',qd L L'->L' I=some (.lst<|jo wd')->L' J=some (.lst<|qm pR)->uq wd' pR ct->Q (v9 I J c) L'
def r_(L:qp)(c:Addr)(ct:Vh)(s v:Int)(b:Bool)(τ:jq)(L':qp):Prop:=∃a l wd lk,τ=[some<|v9 a l c,some<|.int s,some<|.int v]/\qd L L'/\L' a=some (.lst<|jo wd)/\L' l=some (.lst<|qm lk)/\uq wd lk ct/\(b=true->u3 wd ct)
section
variable {a:Addr}{s v f:Int}{b:Bool}{Q:YK}
theorem yY(J:0<f)(f1:f<1000000000)(U:qd L L1)(h1:L1 a=some (.lst<|jo wd))(h2:L1 l=some (.lst<|qm lk))(W:uq wd lk ct)(B:u3 wd ct):bi [.int s,.int f] L1 λy L2=>dU [v9 a l c,y] L2 λz L3=>r_ L c ct s v true [some z,some<|.int s,some<|.int v] L3:=
 ⟨s,f,rfl,J,f1,λw _ _=>⟨a,l,c,wd,lk,w,rfl,h1,h2,W.ls,λD I g t k ls=>⟨a,D,wd,I,rfl,U.trans t,t _ _ h1,k,⟨W.ok,W.th,ls,W.cn,W.cl,W.ct⟩,λ_=>B⟩⟩⟩
theorem xZ(J:0<f)(f1:f<1000000000)(I:qd L L1)(h1:L1 a=some (.lst<|jo wd))(h2:L1 l=some (.lst<|qm lk))(U:L1 c=some (.lst<|qm ct))(W:uq wd lk ct)(B:u3 wd ct):bi [.int s,.int f] L1 λy L2=>lI [v9 a l c,y] L2 λz L3=>r_ L c ct s v true [some z,some<|.int s,some<|.int v] L3:=
 ⟨s,f,rfl,J,f1,λw _ _=>⟨a,l,c,wd,ct,w,rfl,h1,U,AO W.ls.wl (by decide),AO W.cl (by decide),B,λg t=>⟨a,l,wd,lk,rfl,I.trans t,t _ _ h1,t _ _ h2,W,λ_=>B⟩,λD r e o i j g t h k=>⟨D,l,_,lk,rfl,I.trans t,k,t _ _ h2,W.flip h,λ_=>B.flip h⟩⟩⟩
theorem Ue(J:0<f)(f1:f<1000000000)(I:qd L L1)(h1:L1 a=some (.lst<|jo wd))(h2:L1 l=some (.lst<|qm lk))(U:L1 c=some (.lst<|qm ct))(W:uq wd lk ct):bi [.int s,.int f] L1 λy L2=>lE [v9 a l c,y] L2 λz L3=>r_ L c ct s v false [some z,some<|.int s,some<|.int v] L3:=
 ⟨s,f,rfl,J,f1,λw _ _=>⟨a,l,c,wd,ct,w,rfl,h1,U,AO W.ls.wl (by decide),AO W.cl (by decide),λg t=>⟨a,l,wd,lk,rfl,I.trans t,t _ _ h1,t _ _ h2,W,nofun⟩,λD r i j g t h o p k=>⟨D,l,_,lk,rfl,I.trans t,k,t _ _ h2,W.gone h o p,nofun⟩⟩⟩
end
theorem Uf:∀ys L Q,pP ys L Q->x4 (Ud bi dU lI lE) 3 ys L Q:=by rintro ys L Q ⟨a,l,c,U,lk,g,s,rfl,I,J,o,W,B,q⟩;refine⟨s,52813309,rfl,by decide,by decide,λv v0 _=>?_⟩;refine⟨r_ L c g s v true,⟨show(0:Int)<2 by decide,bB (yY (by decide) (by decide) (EF _) I J W B) ⟨a,l,U,lk,rfl,EF _,I,J,W,λ_=>B⟩⟩,?_⟩;rintro j L1 ⟨a,l,U,lk,rfl,C,I,J,W,B⟩;refine⟨r_ L c g s v true,⟨⟨by decide,by decide⟩,show(0:Int)<4 by decide,bB (yY (by decide) (by decide) C I J W<|B rfl) ⟨a,l,U,lk,rfl,C,I,J,W,B⟩⟩,?_⟩;rintro j L2 ⟨a,l,U,lk,rfl,p,I,J,W,B⟩;refine⟨r_ L c g s v true,⟨⟨by decide,by decide⟩,show(0:Int)<4 by decide,bB (xZ (by decide) (by decide) p I J (p _ _ o) W<|B rfl) ⟨a,l,U,lk,rfl,p,I,J,W,B⟩⟩,?_⟩;rintro j L3 ⟨a,l,U,lk,rfl,r,I,J,W,B⟩;refine⟨r_ L c g s v true,⟨⟨by decide,by decide⟩,show(0:Int)<4 by decide,bB (xZ (by decide) (by decide) r I J (r _ _ o) W<|B rfl) ⟨a,l,U,lk,rfl,r,I,J,W,B⟩⟩,?_⟩;rintro j L4 ⟨a,l,U,lk,rfl,t,I,J,W,B⟩;refine⟨r_ L c g s v false,⟨⟨by decide,by decide⟩,show(0:Int)<4 by decide,bB (Ue (by decide) (by decide) t I J (t _ _ o) W) ⟨a,l,U,lk,rfl,t,I,J,W,nofun⟩⟩,?_⟩;rintro j T ⟨a,l,U,lk,rfl,s5,I,J,W,B⟩;exact xh<|q a l U lk T s5 I J W
def Ug(I:zd)(p1:zd)(p2:zd)(p3:zd)(p4:zd)(p5:zd)(p6:zd)(p7:zd)(p8:zd):k8:=(j7 (xo (v4 I<|a8<|qf 0)<|ql 1)
 (j7 (xo (v4 p1<|qr (v4 p2<|qr (qf 0)<|cq (qf 1)<|dh 96)<|a8<|qf 1)<|ql 2)
 (j7 (xo (v4 p3<|qr (v4 p4<|a8<|qf 2)<|a8<|qf 1)<|ql 3)
 (j7 (xo (v4 p5<|a8<|qf 3)<|ql 4)
 (j7 (xo (v4 p6<|a8<|qf 4)<|ql 5)
 (ao<|HM (v4 p7<|cq (qf 4)<|qf 3)<|v4 p7<|qr (qf 5)<|qr (v4 p8<|a8<|qf 3) x0))))))
theorem oO.szc{A:Vh}{G:Vl}(M:oO wd ct A G){c:Vt}{w:Wd}(h:KW (jo wd) c.1 w):c∈ct->2*w.size<=G.length:=by
 induction M with
 |nil=>exact nofun
 |cons m _ J=>
  intro I;rw[Aa];rcases Aq.mp I with rfl|I
  ·have:=m.size h;lia
  ·have:=J I;lia
theorem yJ.wbE{E:Vl}{f:Vs}(T:yJ ks R E)(U:uk f (ks.map some) wd)(pl:lk.Perm<|zc<|bY f R)(l:lk.Pairwise ie)(t:ct.Perm<|zg<|bY f R)(o:ct.Pairwise ie):uq wd lk ct/\u3 wd ct:=by
 obtain⟨I,J⟩:=T.cutI U pl l t o;have ok:=U.gap.ok;refine⟨⟨ok,U.there<|vE T.ok,J,vk I.ctN,I.len,λd hd=>?_⟩,λd hd=>?_⟩
 ·obtain⟨w,j,r⟩:=I.cw d hd;have g:∀{p w},KW (jo wd) p w->∃k,wd[p]?=some (some k):=λ{p w} h=>by cases w with|leaf=>exact⟨_,h.inv_lf⟩|node=>obtain⟨_,_,e,_⟩:=h.inv_nd;exact⟨_,e⟩
  exact⟨g j,g r⟩
 ·obtain⟨w,j,r,dp⟩:=T.depC U t d hd;obtain⟨A,G,M⟩:=yS I.cw;have C:=M.nodup ok I.pu I.ctN I.ctP;have gl:=kh wd.length _ C λy hy=>by obtain⟨p,hp,h⟩:=M.dn y hy;obtain⟨d,hd,e⟩:=nJ hp;have:=I.lt hd;have:=h.le ok;rcases e with rfl|rfl<;>lia
  have sz:=M.szc j hd;have wl:=I.wl;obtain⟨xs,b1,l1⟩:=qZ j (n:=100) (by lia);obtain⟨ys,b2,l2⟩:=qZ r (n:=100) (by rw[dS];lia);exact⟨⟨xs,b1,by lia⟩,ys,b2,by rw[l2,Wd.size_turn];lia⟩
theorem uq.all(W:uq wd lk ct):∀x∈jh wd lk ct,x.1∈z7 wd/\x.2∈z7 wd:=λx I=>by
 have g:∀{p:Nat} {k:Kn},wd[p]?=some (some k)->p∈z7 wd:=λ{p k} h=>xH h rfl<|zb h;unfold jh at I;rcases Aj.mp I with I|I
 ·rcases Aj.mp I with I|I
  ·obtain⟨_,t,n,U,J⟩:=W.ls.lkA x I;exact⟨g U,g J⟩
  ·obtain⟨⟨_,U⟩,_,J⟩:=W.ct x I;exact⟨g U,g J⟩
 ·obtain⟨U,k,l,J⟩:=cM.mp I;refine⟨U,?_⟩;cases k with
  |none=>cases J
  |some k=>
   cases k with
   |lf=>cases J
   |nd e i j=>
    obtain⟨⟨_,o⟩,_,r⟩:=W.th _ _ _ _ l;rcases Aq.mp J with h|h
    ·rw[h];exact g o
    ·rw[Ak.mp h];exact g r
theorem yk{es:Vh}{r:xM}(h:df n hd es p q=some r):r.1=hd/\r.2.1.length<=n/\r.2.2.length<=n:=by
 unfold df at h;split at h
 ·cases h
 ·cases h;exact⟨rfl,by have:=Bi (wq es p)<|List.range n;rwa[A6] at this,by have:=Bi (wq es q)<|List.range n;rwa[A6] at this⟩
theorem Uh :∀r∈tD wd lk ct,(∀y∈r.1,oG y=true)/\r.1.length<=3/\r.2.1.length<=wd.length/\r.2.2.length<=wd.length:=λr J=>by
 rcases Aj.mp J with J|J
 ·obtain⟨p,_,h⟩:=CB.mp J;unfold oR at h;split at h
  ·obtain⟨e,U,g⟩:=yk h;rw[e];exact⟨λy I=>by rcases Aq.mp I with rfl|I;rfl;cases Ak.mp I;rfl,(by decide:2<=3),U,g⟩
  ·cases h
 ·obtain⟨p,_,h⟩:=CB.mp J;obtain⟨e,U,g⟩:=yk h;rw[e];exact⟨λy I=>by rcases Aq.mp I with rfl|I;rfl;rcases Aq.mp I with rfl|I;rfl;cases Ak.mp I;rfl,(by decide:3<=3),U,g⟩
theorem mw{L:qp}{n:Nat}:∀xs:List Y,(∀y∈xs,oG y=true)->Paired (fq L<|n+1) xs xs
 |[],_=>.nil
 |y::xs,h=>.cons (.flat<|h y Ao)<|mw xs λz I=>h z<|Ae _ I
theorem Ju(xs:Vl):Paired (fq L<|n+1) (nY xs) (nY xs):=mw _ λy I=>by obtain⟨_,_,rfl⟩:=Bx.mp I;rfl
theorem uA{L:qp}{N M:Addr}:∀{xs ys:List Y} {rs:List xM},wu L N xs rs->wu L M ys rs->(∀r∈rs,(∀y∈r.1,oG y=true)/\r.1.length<=3/\r.2.1.length<=1000/\r.2.2.length<=1000)->Paired (fq L 3) xs ys
 |_,_,_,.nil,.nil,_=>.nil
 |_,_,_,.cons I J,.cons U g,h=>by obtain⟨D1,D2,rfl,_,_,j,l⟩:=I;obtain⟨E1,E2,rfl,_,_,o,p⟩:=U;obtain⟨t,l0,C,T⟩:=h _ Ao;refine .cons (.tup (Words.Paired.app (mw _ t) (.cons (hW j o (by rw[zv];exact C)<|Ju _) (.cons (hW l p (by rw[zv];exact T)<|Ju _) .nil))) (Nat.ble_eq_true_of_le (by rw[Aa];show _+2<=_;lia)))<|uA J g λr hr=>h r<|Ae _ hr
theorem Ui :∀ys L Q,pO Pt lamQ ys L Q->x4 (Ug qM (pY Pt) qJ pP r6 rS (dq C) (cV 4) nE) 6 ys L Q:=by
 rintro ys L Q ⟨ns,rfl,a5,hL,q⟩;have hP:L Pt=some (.tb lamQ):=by rw[hL];exact q9
 clear hL;refine⟨ns,rfl,λst=>?_⟩;refine⟨ns,st,96,_,rfl,rfl,by lia,by decide,λka ks R E L1 s1 n1 g1 T=>?_⟩;refine⟨ka,ks,R,E,st,rfl,g1,T,s1 _ _ hP,λw f g hw rn=>?_⟩;have g2:qe L1 w (.lst<|jo g) w=_:=q9;generalize qe L1 w (.lst<|jo g)=L2 at g2 ⊢;obtain⟨m1,m2,m3,m4,m5,m6⟩:=T.mvp rn;refine⟨w,jo g,bY f R,rfl,g2,by lia,by lia,m3,m4,m5,m6,λa l c lk J L3 s3 _ _ _ _ _ _ e1 e2 e3 pl a0 pc a3=>?_⟩;obtain⟨W0,B0⟩:=T.wbE rn pl a0 pc a3;refine⟨a,l,c,g,lk,J,st,rfl,e1,e2,e3,W0,B0,λa1 l1 I um L4 s4 k1 k2 W=>?_⟩;have k3:=s4 _ _ e3;have wl:=W.ls.wl;have ll:=W.ls.ll;have cl:=W.cl;have al:=W.all;have hb:∀x∈jh I um J,x.1<I.length/\x.2<I.length:=λx j=>⟨(aJ (al x j).1).1,(aJ (al x j).2).1⟩;refine⟨a1,l1,c,_,_,_,rfl,k1,k2,k3,λa2 l2 c2 L5 s5 _ _ _ _ _ _ j1 j2 j3=>?_⟩;refine⟨a2,l2,c2,I,um,J,rfl,j1,j2,j3,by lia,by lia,by lia,W.ok,hb,λD xs L6 s6 f6 k6 T6=>?_⟩;have U:=s5.trans s6;refine⟨_,_,rfl,TU (s6 _ _ j1) (s6 _ _ j2) (s6 _ _ j3) (U _ _ k1) (U _ _ k2) (U _ _ k3) (by lia) (by lia) (by lia),?_⟩;refine⟨a1,l1,c,I,um,J,rfl,U _ _ k1,U _ _ k2,U _ _ k3,by lia,by lia,by lia,W.ok,hb,λD2 zs L7 s7 f7 k7 T7=>?_⟩;have eq:=Tu W.cn (λx j=>by obtain⟨_,t,n,h1,_⟩:=W.ls.lkA x j;exact⟨t,n,h1⟩) al;rw[eq] at T6;have dl:(tD I um J).length<=1000:=by unfold tD;rw[Aa];have b1:=B9 (oR I um J)<|(aZ false I).filter λr=>!decide (r∈ji I J);have b2:=B9 (Fc I um J) J;have b3:=Bi (λr=>!decide (r∈ji I J))<|aZ false I;have b4:(aZ false I).length<=I.length:=aq _ _ _;lia
 have a4:=T6.mono λp o _ h=>s7 p o h;have pd:=uA a4 T7 λr hr=>by obtain⟨h1,h2,h3,h4⟩:=Uh r hr;exact⟨h1,h2,by lia,by lia⟩
 exact⟨_,_,rfl,.inr (.inr ⟨D,D2,xs,zs,rfl,rfl,s7 _ _ k6,k7,by rw[T7.len];exact dl,pd⟩),xh<|q L7⟩
end L3
end
set_option maxRecDepth 100000
set_option maxHeartbeats 8000000
namespace K41
open PySem L2 L3 Words
abbrev ng:Str:="_law_p"
abbrev nh:Str:="_law_script"
abbrev nj:Str:="_law_knots"
theorem Uj{us:Vj}{n:Nat}(h:us.length=n+1):∃a r,us=a::r/\r.length=n:=by cases us with|nil=>cases h|cons a r=>exact⟨a,r,rfl,Nat.succ.inj h⟩
structure B_(V:V_):Prop extends B0_ V where
 hp:∃h:Vy,V.K.In h/\h.Ns mainGlobals V.mg
 D0:dX V.K V.Ca "__init__" "Pieces.__init__" gE
 D1:dX V.K V.Ca "head_of" "Pieces.head_of" cY
 D2:dX V.K V.Ca "unite" "Pieces.unite" eJ
 D3:qw V.K "is_leaf" pH
 D4:qw V.K "places_there" bM
 D5:qw V.K "parts_of" gY
 D6:qw V.K "parts_in" gb
 D7:qw V.K "places_in" fC
 D8:qw V.K "ends_of" ig
 D9:qw V.K "boths_of" gT
 D10:qw V.K "part_edges" dM
 D11:qw V.K "all_edges" eY
 D12:qw V.K "piece_at" lz
 D13:qw V.K "sides_by" oI
 D14:qw V.K "parted_boths" bT
 D15:qw V.K "parted_cuts" cB
 D16:qw V.K "partings" gN
 D17:qw V.K "_law_cell_at" bW
 D18:qw V.K "_law_stir" fM
 D19:qw V.K "_law_pick" fQ
 D20:qw V.K "_law_mix" ge
 D21:qw V.K "_law_name" e8
 D22:qw V.K "_law_word" fE
 D23:qw V.K "_law_flip" fK
 D24:qw V.K "_law_weight" bw
 D25:qw V.K "_law_mirror" gA
 D26:qw V.K "_law_join" eE
 D27:qw V.K "_law_fold" eS
 D28:qw V.K "_law_cut" lg
 D29:qw V.K "_law_tree" fI
 D30:qw V.K "_law_gather" bu
 D31:qw V.K "_law_web" gS
 D32:DefInT V.K "_law_order" s__law_order V.Pt
 D33:qw V.K "_law_moved" dR
 D34:qw V.K "_law_gapped" cG
 D35:qw V.K "_law_swapped" bN
 D36:qw V.K "_law_beneath" bL
 D37:qw V.K "_law_flipped" eW
 D38:qw V.K "_law_split" dN
 D39:qw V.K "_law_changed" bG
 D40:qw V.K "_law_reach" iV
 D41:qw V.K "_law_sides" dB
 D42:qw V.K "_law_number" cD
 D43:qw V.K "_law_alike" dD
 D44:qw V.K "_law_copy" ef
 D45:qw V.K "_law_sown" dz
 D46:qw V.K "_law_noted" dJ
 D47:qw V.K "_law_due" gZ
 me:V.mg "Pieces"=some (.ref V.Ca)
 cl_Pieces:Cls V.K V.Ca
 mAPieces:PySem.W.makesIn V.K V.Ca=true
 mKPieces:PySem.W.keepIn V.K (.ref V.Ca)=true
 xf:L3.XFP V.K V.Ca
abbrev c0(_:V_):Prop:=True
local macro_rules|`(tactic| walk_at "s")=>`(tactic| exact⟨rfl,rfl,rfl,by decide +kernel,rfl,by decide +kernel,by decide +kernel⟩)
local macro_rules|`(tactic| walk_at "l")=>`(tactic| first|(rintro _ _ _ ⟨_,e,_⟩;rw[e];rfl)|(rintro _ _ _ ⟨_,_,e,_⟩;rw[e];rfl)|(rintro _ _ _ ⟨_,_,_,e,_⟩;rw[e];rfl)|(rintro _ _ _ ⟨_,_,_,_,e,_⟩;rw[e];rfl)|(rintro _ _ _ ⟨_,_,_,_,_,e,_⟩;rw[e];rfl)|(rintro _ _ _ ⟨_,_,_,_,_,_,e,_⟩;rw[e];rfl)|(rintro _ _ _ ⟨_,_,_,_,_,_,_,e,_⟩;rw[e];rfl)|(rintro _ _ _ ⟨_,_,_,_,_,_,_,_,e,_⟩;rw[e];rfl)|(rintro _ _ _ ⟨_,_,_,_,_,_,_,_,_,e,_⟩;rw[e];rfl))
local macro_rules|`(tactic| walk_at "x")=>`(tactic| (intro _;walk_at "l"))
local macro_rules|`(tactic| walk_at "b")=>`(tactic| (intro _ _ _ _ _ _ us hl;(repeat (obtain⟨_,_,e,h⟩:=Uj hl;clear hl;subst e;have hl:=h;clear h));cases List.eq_nil_of_length_eq_zero hl;rfl))
section
variable {f:Addr}{fd:FuncData}{x q:Str}{st:Stmt}{ps:Vm}(V:V_)(k:Nat)(N:Vm)
theorem W_{sp:zd}{t:k8}(F:Fun V.K x q st f fd)(U:∀ys L Q,sp ys L Q->x4 t N.length ys L Q)(h:∀(eK:Vu) (A:Around) (outer:List Env) (s:Vv) (H:Hp) (E:XK),km k (A.deeper<|PyProof.Rows.envOfC q (qt st) s.heap.objs.size f eK)->N.Nodup->(A.deeper<|PyProof.Rows.envOfC q (qt st) s.heap.objs.size f eK).units+128<cLine->sJ (iT CX0 V.P V.w V.K V.mg V.base N q (qt st) f eK A outer s H E).nox (j9 st) t)(I:aw N ps (qt st):=by walk_at "s")(len:∀ys L Q,sp ys L Q->ys.length=ps.length:=by walk_at "l"):Fn3 V.P V.w V.K V.mg V.base (k+1) f fd ps sp:=
 Pm F I len λeK A outer s H E J=>⟨t,h eK A outer s H E J I.nd<|HH J,U⟩
theorem M_{sp:zd}{t:k8}(hp:∃h:Vy,V.K.In h/\h.Ns mainGlobals V.mg)(D:qw V.K x st)(I:∀ys L Q,sp ys L Q->x4 t N.length ys L Q)(h:∀f,∀(eK:Vu) (A:Around) (outer:List Env) (s:Vv) (H:Hp) (E:XK),km k (A.deeper<|PyProof.Rows.envOfC x (qt st) s.heap.objs.size f eK)->N.Nodup->(A.deeper<|PyProof.Rows.envOfC x (qt st) s.heap.objs.size f eK).units+128<cLine->sJ (iT CX0 V.P V.w V.K V.mg V.base N x (qt st) f eK A outer s H E).nox (j9 st) t)(J:aw N ps (qt st):=by walk_at "s")(len:∀ys L Q,sp ys L Q->ys.length=ps.length:=by walk_at "l")(U:∀(kV ir pm:Vu) (an:Option Addr) (eK ct:Vu) (us:Vj),us.length=ps.length->bindArgs (PySem.W.fnOf x x (xm st) (j9 st) (qt st) .none kV ir pm an eK ct) ⟨us,[]⟩=pure (ps.zip us):=by walk_at "b"):Q_ V (k+1) x ps sp:=by obtain⟨_,X,G⟩:=hp;obtain⟨f,fd,F,b,m⟩:=D.use X G U;exact Cal.of (W_ V k N F I (h f) J len) b F.kp m
theorem R_{sp:Nat->zd}{t:Nat->k8}(hp:∃h:Vy,V.K.In h/\h.Ns mainGlobals V.mg)(D:qw V.K x st)(no:∀ys L Q,¬sp 0 ys L Q)(I:∀n ys L Q,sp (n+1) ys L Q->x4 (t n) N.length ys L Q)(h:∀n f,Q_ V (n+k) x ps (sp n)->∀(eK:Vu) (A:Around) (outer:List Env) (s:Vv) (H:Hp) (E:XK),km (n+k) (A.deeper<|PyProof.Rows.envOfC x (qt st) s.heap.objs.size f eK)->N.Nodup->(A.deeper<|PyProof.Rows.envOfC x (qt st) s.heap.objs.size f eK).units+128<cLine->sJ (iT CX0 V.P V.w V.K V.mg V.base N x (qt st) f eK A outer s H E).nox (j9 st) (t n))(n:Nat)(J:aw N ps (qt st):=by walk_at "s")(len:∀n ys L Q,sp n ys L Q->ys.length=ps.length:=by walk_at "x")(U:∀(kV ir pm:Vu) (an:Option Addr) (eK ct:Vu) (us:Vj),us.length=ps.length->bindArgs (PySem.W.fnOf x x (xm st) (j9 st) (qt st) .none kV ir pm an eK ct) ⟨us,[]⟩=pure (ps.zip us):=by walk_at "b"):Q_ V (n+k) x ps (sp n):=by
 obtain⟨_,X,G⟩:=hp;obtain⟨f,fd,F,b,m⟩:=D.use X G U
 induction n with|zero=>exact Cal.of (Fn3.never no) b F.kp m|succ n g=>rw[Nat.add_right_comm];exact Cal.of (W_ V (n+k) N F (I n) (h n f g) J<|len _) b F.kp m
theorem T_{sp:zd}{t:k8}(hp:∃h:Vy,V.K.In h/\h.Ns mainGlobals V.mg)(D:DefInT V.K x st V.Pt)(U:∀ys L Q,sp ys L Q->x4 t N.length ys L Q)(h:∀f,∀(eK:Vu) (A:Around) (outer:List Env) (s:Vv) (H:Hp) (E:XK),yw V.K eK V.Pt->km k (A.deeper<|PyProof.Rows.envOfC x (qt st) s.heap.objs.size f eK)->N.Nodup->(A.deeper<|PyProof.Rows.envOfC x (qt st) s.heap.objs.size f eK).units+128<cLine->sJ (iT CX0 V.P V.w V.K V.mg V.base N x (qt st) f eK A outer s H E).nox (j9 st) t)(I:aw N ps (qt st):=by walk_at "s")(len:∀ys L Q,sp ys L Q->ys.length=ps.length:=by walk_at "l")(g:∀(kV ir pm:Vu) (an:Option Addr) (eK ct:Vu) (us:Vj),us.length=ps.length->bindArgs (PySem.W.fnOf x x (xm st) (j9 st) (qt st) .none kV ir pm an eK ct) ⟨us,[]⟩=pure (ps.zip us):=by walk_at "b"):Q_ V (k+1) x ps sp:=by obtain⟨_,X,G⟩:=hp;obtain⟨f,fd,F,b,m⟩:=D.use X G g;exact Cal.of (Sa F I len λeK A outer s H E C J=>⟨t,h f eK A outer s H E C J I.nd<|HH J,U⟩) b F.kp m
end
abbrev c1(V:V_):Prop:=c0 V/\af4 V.P V.w V.K V.mg V.base 2 V.Ca ["self","count"] (mH V.Ca)
theorem d1(V:V_)(B:B_ V)(c:c0 V):c1 V:=⟨c,by obtain⟨f,fd,F,b,m⟩:=B.D0.use (ps:=["self","count"]) (by walk_at "b");exact⟨_,_,⟨B.mAPieces,m.at_,m.fn,B.mKPieces⟩,⟨_,rfl,W_ V 0 ["self","count"] F (Ra B.xf) λ_ _ _ _ _ _ I hN J=>(qg<|P4 (qv 0)<|mM rfl rfl B.be rfl B.bb<|qv 1)⟩,b⟩⟩
abbrev c2(V:V_):Prop:=c1 V/\ab9 V.P V.w V.K V.mg V.base 1 V.Ca "head_of" ["self","place"] (iU V.Ca)
theorem d2(V:V_)(B:B_ V)(c:c1 V):c2 V:=⟨c,by obtain⟨f,fd,F,b,m⟩:=B.D1.use (ps:=["self","place"]) (by walk_at "b");exact⟨_,_,m,W_ V 0 ["self","place","here"] F (Rb B.xf) λ_ _ _ _ _ _ J hN I=>(qa (S_ 2 hN<|qv 1)<|qa (iX u1 (N_ I (I_ (ip<|qv 0)<|qv 2)<|qv 2)<|qa (lF (ip<|qv 0) (qv 2)<|I_ (ip<|qv 0)<|I_ (ip<|qv 0)<|qv 2)<|qg<|S_ 2 hN<|I_ (ip<|qv 0)<|qv 2)<|qg<|qx<|qv 2),b⟩⟩
abbrev c3(V:V_):Prop:=c2 V/\ab9 V.P V.w V.K V.mg V.base 2 V.Ca "unite" ["self","p","q"] (nV V.Ca)
theorem d3(V:V_)(B:B_ V)(c:c2 V):c3 V:=⟨c,by obtain⟨f,fd,F,b,m⟩:=B.D2.use (ps:=["self","p","q"]) (by walk_at "b");exact⟨_,_,m,W_ V 1 ["self","p","q","first","second"] F (Rc B.xf) λ_ _ _ _ _ _ I hN J=>(qa (S_ 3 hN<|vP (c.2.mono (by decide)) I B.cl_Pieces (qv 0)<|jt<|qv 1)<|qa (S_ 4 hN<|vP (c.2.mono (by decide)) I B.cl_Pieces (qv 0)<|jt<|qv 2)<|qa (lF (ip<|qv 0) (qv 3)<|qv 4)<|qg<|qx<|iC (HZ _ _ _ J) (qv 3) (qv 4)<|wo _),b⟩⟩
abbrev c4(V:V_):Prop:=c3 V/\Ix V (gQ)
theorem d4(V:V_)(B:B_ V)(c:c3 V):c4 V:=⟨c,M_ V 0 ["word"] B.hp B.D3 vB λ_ _ _ _ _ _ _ I hN J=>(qg<|qx<|iC (HY _ _ _) (J_ 0) (Pw B.k_LEAF_KINDS rfl) (by with_unfolding_all rfl))⟩
abbrev c5(V:V_):Prop:=c4 V/\F' V (fB)
theorem d5(V:V_)(B:B_ V)(c:c4 V):c5 V:=⟨c,M_ V _ _ B.hp B.D4 Ry<|(eG).2 V B.toB0_ ⟨⟩⟩
abbrev c6(V:V_):Prop:=c5 V/\Ga V (hZ)
theorem d6(V:V_)(B:B_ V)(c:c5 V):c6 V:=⟨c,M_ V _ _ B.hp B.D5 Rw<|(m9 _).2 V B.toB0_ c.1.2⟩
abbrev c7(V:V_):Prop:=c6 V/\Iy V (qW)
theorem d7(V:V_)(B:B_ V)(c:c6 V):c7 V:=⟨c,M_ V _ _ B.hp B.D6 Su<|(mL _).2 V B.toB0_ c.2⟩
abbrev c8(V:V_):Prop:=c7 V/\Iz V (sF)
theorem d8(V:V_)(B:B_ V)(c:c7 V):c8 V:=⟨c,M_ V _ _ B.hp B.D7 Sm<|(kG).2 V B.toB0_ ⟨⟩⟩
abbrev c9(V:V_):Prop:=c8 V/\IA V (sC)
theorem d9(V:V_)(B:B_ V)(c:c8 V):c9 V:=⟨c,M_ V _ _ B.hp B.D8 Sv<|(oj _ _).2 V B.toB0_ ⟨c.1.2,c.2⟩⟩
abbrev br(V:V_):Prop:=c9 V/\IB V (n8)
theorem d10(V:V_)(B:B_ V)(c:c9 V):br V:=⟨c,M_ V _ _ B.hp B.D9 RA<|(mN _).2 V B.toB0_ c.1.1.1.1.2⟩
abbrev c11(V:V_):Prop:=br V/\IC V (i0)
theorem Uk(V:V_)(B:B_ V)(c:br V):c11 V:=⟨c,M_ V _ _ B.hp B.D10 zQ<|(gv _).2 V B.toB0_ c.1.1.1.1.2⟩
abbrev c12(V:V_):Prop:=c11 V/\Gb V (lK)
theorem Ul(V:V_)(B:B_ V)(c:c11 V):c12 V:=⟨c,M_ V _ _ B.hp B.D11 Ti<|(kB _ _).2 V B.toB0_ ⟨c.2,c.1.1.1.1.1.1.2⟩⟩
abbrev c13(V:V_):Prop:=c12 V/\QM V (gh V.Ca)
theorem Um(V:V_)(B:B_ V)(c:c12 V):c13 V:=⟨c,M_ V 1 ["pieces","knots","place","head"] B.hp B.D12 vJ λ_ _ _ _ _ _ _ I hN J=>(qa (wy (i:=3) hN rfl (Or.inr rfl)<|vP (c.1.1.1.1.1.1.1.1.1.1.2.mono (by decide)) I B.cl_Pieces (qv 0)<|jt<|qv 2)<|qg<|qx<|fF ["other"] (EL (by rfl)) rfl (jp<|C_ c.1.1.1.1.1.1.1.2 I<|jt<|qv 1) (bH f' (λ_ _ _ _=>Or.inl rfl) λ_ _ _ _=>rfl) (λ_ _ _ _=>wc<|E_ J (vP (c.1.1.1.1.1.1.1.1.1.1.2.mono (by decide)) I B.cl_Pieces (qv 0)<|jt<|qv 4)<|qv 3) λ_ _ _ _=>(qv 4))⟩
abbrev Gm(V:V_):Prop:=c13 V/\Gc V (gu V.Ca)
theorem Uo(V:V_)(B:B_ V)(c:c13 V):Gm V:=⟨c,M_ V 2 ["knots","edges","p","q","pieces","edge"] B.hp B.D13 Ta λ_ _ _ _ _ _ _ I hN J=>(qa (S_ 4 hN<|P6 (c.1.1.1.1.1.1.1.1.1.1.1.1.2.mono (by decide)) I rfl B.me<|jt<|L_ B.ba<|qv 0)<|qa (xg u1 rfl (jp<|qv 1) (G_ 5 hN)<|qg<|za<|vP (c.1.1.1.1.1.1.1.1.1.1.2.mono (by decide)) I B.cl_Pieces (qv 4)<|vq (J_ 5)<|J_ 5)<|qa (zx (E_ J (vP (c.1.1.1.1.1.1.1.1.1.1.1.2.mono (by decide)) I B.cl_Pieces (qv 4)<|jt<|qv 2)<|vP (c.1.1.1.1.1.1.1.1.1.1.1.2.mono (by decide)) I B.cl_Pieces (qv 4)<|jt<|qv 3) (qg<|qx mD) ze)<|qg<|qx<|zk<|vq (C_ c.2 I<|cA (qv 4) (qv 0)<|qv 2)<|C_ c.2 I<|cA (qv 4) (qv 0)<|qv 3)⟩
abbrev Gn(V:V_):Prop:=Gm V/\ID V (ij V.Ca)
theorem Uq(V:V_)(B:B_ V)(c:Gm V):Gn V:=⟨c,M_ V _ _ B.hp B.D14 Tj<|(dr _ _ _ _).2 V B.toB0_ ⟨c.1.1.1.1.1.2,c.1.1.2,c.1.1.1.1.2,c.2⟩⟩
abbrev Go(V:V_):Prop:=Gn V/\IE V (nQ V.Ca)
theorem Ur(V:V_)(B:B_ V)(c:Gn V):Go V:=⟨c,M_ V _ _ B.hp B.D15 TB<|(gD _ _).2 V B.toB0_ ⟨c.1.1.1.2,c.1.2⟩⟩
abbrev Gp(V:V_):Prop:=Go V/\QN V (dq V.Ca)
theorem Us(V:V_)(B:B_ V)(c:Go V):Gp V:=⟨c,M_ V _ _ B.hp B.D16 tS<|(ld _ _).2 V B.toB0_ ⟨c.1.2,c.2⟩⟩
abbrev Gq(V:V_):Prop:=Gp V/\IF V (gW)
theorem Ut(V:V_)(B:B_ V)(c:Gp V):Gq V:=⟨c,M_ V _ _ B.hp B.D17 wG<|(dw).2 V B.toB0_ ⟨⟩⟩
abbrev Gr(V:V_):Prop:=Gq V/\QP V (qM)
theorem Uu(V:V_)(B:B_ V)(c:Gq V):Gr V:=⟨c,M_ V _ _ B.hp B.D18 SA<|(kE).2 V B.toB0_ ⟨⟩⟩
abbrev Gs(V:V_):Prop:=Gr V/\Ft V (bi)
theorem Uv(V:V_)(B:B_ V)(c:Gr V):Gs V:=⟨c,M_ V _ _ B.hp B.D19 SD<|(jX).2 V B.toB0_ ⟨⟩⟩
abbrev Gu(V:V_):Prop:=Gs V/\IG V (rW)
theorem Uw(V:V_)(B:B_ V)(c:Gs V):Gu V:=⟨c,M_ V _ _ B.hp B.D20 Rf<|(n6).2 V B.toB0_ ⟨⟩⟩
abbrev Gv(V:V_):Prop:=Gu V/\IH V (mY)
theorem Ux(V:V_)(B:B_ V)(c:Gu V):Gv V:=⟨c,M_ V _ _ B.hp B.D21 RJ<|(sg).2 V B.toB0_ ⟨⟩⟩
abbrev Gw(V:V_):Prop:=Gv V/\QQ V (aW 120)
theorem Uy(V:V_)(B:B_ V)(c:Gv V):Gw V:=⟨c,R_ V _ _ B.hp B.D22 qB uV (λn=>(kF _).2 V B.toB0_ ⟨⟩ n) 120⟩
abbrev Gx(V:V_):Prop:=Gw V/\QR V (a9 120)
theorem Uz(V:V_)(B:B_ V)(c:Gw V):Gx V:=⟨c,R_ V _ _ B.hp B.D23 Rk Rl (λn=>(ym _).2 V B.toB0_ ⟨⟩ n) 120⟩
abbrev Gy(V:V_):Prop:=Gx V/\QU V (cR 120)
theorem UA(V:V_)(B:B_ V)(c:Gx V):Gy V:=⟨c,R_ V _ _ B.hp B.D24 nH Rh (λn=>(gC _).2 V B.toB0_ ⟨⟩ n) 120⟩
abbrev Gz(V:V_):Prop:=Gy V/\QV V (aG 48)
theorem UB(V:V_)(B:B_ V)(c:Gy V):Gz V:=⟨c,R_ V 122 [nj,"_law_word_here","_law_left","_law_right","_law_turn","_law_same","_law_low","_law_high"] B.hp B.D25 Rv (yz (FS:=a9 120) λ_ _ _ h=>h) (λ_ _ I _ _ _ _ _ _ J hN U=>(qa (zx (E_ U (L_ B.ba<|qv 1) qh) (qa (za<|qz (qv 0)<|jt<|C_ c.1.2 J<|jt<|qv 1)<|qa (za<|qz (qv 0)<|jt<|qv 1)<|qg<|qx<|zu<|cA (zk<|cA je (qk dc (L_ B.ba<|qv 0) qh)<|qk dc (L_ B.ba<|qv 0) qh) (qk dc (L_ B.ba<|qv 0) qh)<|qk dc (L_ B.ba<|qv 0) qh) ze)<|qa (S_ 2 hN<|C_ I J<|vq (qv 0)<|J_ 1)<|qa (S_ 3 hN<|C_ I J<|vq (qv 0)<|J_ 1)<|qa (za<|qz (qv 0)<|jt<|zk<|cA (I_ (C_ c.1.2 J<|jt<|qv 1) qh) (J_ 2)<|J_ 3)<|qa (za<|qz (qv 0)<|jt<|zk<|cA (J_ 1) (J_ 2)<|J_ 3)<|qa (xQ (i:=4) (j:=5) rfl hN rfl rfl (by decide) rfl rfl (vq (qk dc (L_ B.ba<|qv 0) qh)<|qk dc (L_ B.ba<|qv 0) qh) rfl)<|qa (S_ 6 hN<|gj (E_ U (J_ 1) je) (qv 4)<|qv 5)<|qa (S_ 7 hN<|gj (E_ U (J_ 1) je) (qv 5)<|qv 4)<|qg<|qx<|zu<|cA (zk<|cA je (qv 7)<|zk<|jx je<|cA (qv 6) (J_ 2)<|J_ 3) (qv 4)<|qv 5)) 48⟩
abbrev GA(V:V_):Prop:=Gz V/\II V (qU)
theorem UC(V:V_)(B:B_ V)(c:Gz V):GA V:=⟨c,M_ V _ _ B.hp B.D26 RM<|(Ja).2 V B.toB0_ ⟨⟩⟩
abbrev GB(V:V_):Prop:=GA V/\IJ V (oA)
theorem UD(V:V_)(B:B_ V)(c:GA V):GB V:=⟨c,M_ V _ _ B.hp B.D27 RN<|(yQ).2 V B.toB0_ ⟨⟩⟩
abbrev GC(V:V_):Prop:=GB V/\IK V (qS)
theorem UE(V:V_)(B:B_ V)(c:GB V):GC V:=⟨c,M_ V 170 [nj,"_law_forest","_law_one","_law_two","_law_first",ng,"_law_word_here","_law_second","_law_q","_law_at","_law_end","_law_rule","_law_same","_law_ends"] B.hp B.D28 (RW (FS:=a9 120) (MS:=aG 48) (λ_ _ _ h=>h)<|TK (by decide) (by decide)) λ_ _ _ _ _ _ _ I hN J=>(qa (S_ 4 hN<|cN (qv 1)<|jt<|qk jj (qv 3)<|L_ B.ba<|qv 1)<|qa (wy (i:=5) hN rfl (Or.inr rfl)<|I_ (J_ 4)<|qk jj (qk vm (qv 3) qh)<|L_ B.ba<|J_ 4)<|qa (S_ 6 hN<|C_ c.1.1.1.1.1.2 I<|vq (qv 0)<|qv 5)<|qa (dQ (zk<|vq mD mD)<|aA rfl<|zf (G_ 7 hN)<|zf (ww (i:=8) hN rfl<|Or.inr rfl) vv)<|qa (xg u1 rfl (ve rfl B.bb<|jt<|L_ B.ba<|qv 1) (G_ 9 hN)<|qg<|xg u1 rfl (jp<|I_ (I_ (qv 1)<|qv 9) qh) (G_ 10 hN)<|qg<|zx (bV<|wf (mf<|qv 7)<|wg<|E_ J (C_ c.1.1.1.1.1.2 I<|vq (qv 0)<|qv 10)<|C_ c.1.1.1.1.2 I<|jt<|qv 6) (qg<|dQ (zk<|vq (I_ (qv 1)<|qv 9)<|qv 10)<|aA rfl<|zf (G_ 7 hN)<|zf (ww (i:=8) hN rfl<|Or.inr rfl) vv) ze)<|qa (zx (bV<|wf (mf<|qv 7)<|wg<|jy Fl (C_ c.1.1.1.2 I<|jt<|qv 6) qh<|wo _) (qa (za<|qz (qv 1)<|jt<|qv 4)<|qg yZ) ze)<|xc (zx (mf<|qv 7) (qa (dQ (C_ c.1.1.2 I<|vq (qv 0)<|qv 6)<|Qb rfl<|zf (G_ 11 hN)<|zf (ww (i:=8) hN rfl<|Or.inr rfl)<|zf (G_ 12 hN) vv)<|qg<|S_ 7 hN<|zu<|vq (qv 11)<|zu<|vq (qv 8)<|qv 12)<|qg<|za<|Qd J (qv 1)<|jt<|qv 7)<|qa (wv ["_law_x"] (i:=13) hN rfl (Or.inl rfl) (EL (by rfl)) rfl (jp<|qk zw (J_ 4)<|J_ 7) (bH f' (λ_ _ _ _=>Or.inl rfl) λ_ _ _ _=>rfl) (λ_ _ _ _=>wc<|jy (nR _ _ _) (qv 14) (zk<|vq (qv 5)<|qv 8) (by with_unfolding_all rfl)) λ_ _ _ _=>(qv 14))<|qg<|zx (E_ J (qk jj (qv 2) qh) qh) (qg<|za<|qz (qv 1)<|jt<|zu<|vq (zk<|jx je<|jx (qv 5)<|cA (qv 8) (J_ 4)<|J_ 7)<|qv 13)<|qg<|za<|qz (qv 1)<|jt<|zu<|vq (zk<|jx je<|jx (qv 8)<|cA (qv 5) (J_ 7)<|J_ 4)<|qv 13)⟩
abbrev GD(V:V_):Prop:=GC V/\IL V (m8)
theorem UF(V:V_)(B:B_ V)(c:GC V):GD V:=⟨c,M_ V _ _ B.hp B.D29 RY<|(yj _ _ _ _ _).2 V B.toB0_ ⟨c.1.1.1.1.1.1.1.1.2,c.1.1.1.1.1.1.1.2,c.1.2,c.1.1.2,c.2⟩⟩
abbrev GF(V:V_):Prop:=GD V/\IM V (az 120)
theorem UG(V:V_)(B:B_ V)(c:GD V):GF V:=⟨c,R_ V _ _ B.hp B.D30 zY yt (λn=>(gG _).2 V B.toB0_ ⟨⟩ n) 120⟩
abbrev GG(V:V_):Prop:=GF V/\QX V (r6)
theorem UH(V:V_)(B:B_ V)(c:GF V):GG V:=⟨c,M_ V _ _ B.hp B.D31 SX<|(Jm _).2 V B.toB0_ c.2⟩
abbrev GH(V:V_):Prop:=GG V/\IP V (jJ V.Pt)
theorem UI(V:V_)(B:B_ V)(c:GG V):GH V:=⟨c,T_ V 1 [nj,"_law_seed","_law_ranks",ng,"_law_knot","_law_rank"] B.hp B.D32 SM λ_ _ _ _ _ _ _ C I hN J=>(qa (wy (i:=2) hN rfl (Or.inr rfl)<|zu vd)<|qa (xg u1 rfl (fg rfl B.bf<|qv 0) (aA rfl<|zf (G_ 3 hN)<|zf (G_ 4 hN) vv)<|qa (S_ 5 hN<|qk jj (C_ c.1.1.1.1.1.1.1.1.1.1.1.2 I<|cA (qv 1) (qv 3) qh) qh)<|xc (zx (E_ J (L_ B.ba<|qv 4) qh) (qg<|S_ 5 hN<|qk zw (qk zw (qv 5) qh)<|wa yN rfl B.bh qP<|vq (I_ (qv 2)<|J_ 4)<|I_ (qv 2)<|J_ 4) ze)<|qg<|za<|qz (qv 2)<|jt<|qv 5)<|qg<|qx<|R9 rfl B.bg (mM rfl rfl B.be rfl B.bb<|L_ B.ba<|qv 0) ⟨rfl,rfl,rfl,by decide +kernel,rfl,rfl,by decide,by decide,by decide⟩ C (Sf I) rfl rfl rfl ⟨_,rfl,rfl⟩ rfl λ_ _ _ _ _ _ _=>rfl)⟩
abbrev GI(V:V_):Prop:=GH V/\IQ V (cQ 120)
theorem UJ(V:V_)(B:B_ V)(c:GH V):GI V:=⟨c,R_ V _ _ B.hp B.D33 SN zI (λn=>(uO _).2 V B.toB0_ ⟨⟩ n) 120⟩
abbrev GJ(V:V_):Prop:=GI V/\QY V (pY V.Pt)
theorem UK(V:V_)(B:B_ V)(c:GI V):GJ V:=⟨c,M_ V _ _ B.hp B.D34 S1<|(Jn _ _ _).2 V B.toB0_ ⟨c.1.1.1.1.1.1.1.1.1.1.1.1.1.1.2,c.1.2,c.2⟩⟩
abbrev GK(V:V_):Prop:=GJ V/\IR V (dU)
theorem UL(V:V_)(B:B_ V)(c:GJ V):GK V:=⟨c,M_ V _ _ B.hp B.D35 wU<|(eX).2 V B.toB0_ ⟨⟩⟩
abbrev GL(V:V_):Prop:=GK V/\QZ V (hV 100)
theorem UM(V:V_)(B:B_ V)(c:GK V):GL V:=⟨c,R_ V _ _ B.hp B.D36 T3 T4 (λn=>(Jr _).2 V B.toB0_ ⟨⟩ n) 100⟩
abbrev GN(V:V_):Prop:=GL V/\IS V (lI)
theorem UN(V:V_)(B:B_ V)(c:GL V):GN V:=⟨c,M_ V 101 ["_law_web_here","_law_number_here",nj,"_law_links","_law_cuts","_law_held","_law_cut_here","_law_top",ng,"_law_free","_law_r","_law_kind"] B.hp B.D37 T8 λ_ _ _ _ _ _ _ J hN I=>(qa (dQ (qv 0)<|aA rfl<|zf (ww (i:=2) hN rfl<|Or.inr rfl)<|zf (G_ 3 hN)<|zf (G_ 4 hN) vv)<|qa (wy (i:=5) hN rfl (Or.inr rfl) lW)<|qa (xg u1 rfl (jp<|qv 4) (G_ 6 hN)<|qg<|xg u1 rfl (rA<|qv 6) (G_ 7 hN)<|qg<|xg u1 rfl (jp<|C_ c.2 J<|vq (qv 2)<|qv 7) (G_ 8 hN)<|qg<|bq I (qv 5) (qv 8) cK)<|qa (lG "_law_p'"<|wv [ng] (i:=9) f' rfl (Or.inl rfl) (EL (by rfl)) rfl (ve rfl B.bb<|jt<|L_ B.ba<|qv 2) (bH f' (λ_ _ _ _=>Or.inl rfl) λ_ _ _ _=>rfl) (λ_ _ _ _=>wc<|bV<|wf (aX<|I_ (qv 2)<|qv 12)<|wf (E_ I (L_ B.ba<|I_ (qv 2)<|qv 12) qh)<|wg<|jy (wA I) (qv 12) (qv 5) (by with_unfolding_all rfl)) λ_ _ _ _=>(qv 12))<|qa (zx (E_ I (qv 9)<|zu vd) (qg<|qx<|qv 0) ze)<|qa (S_ 10 hN<|I_ (qv 9)<|qk jj (qv 1)<|L_ B.ba<|qv 9)<|qa (S_ 11 hN<|gj (E_ I (I_ (I_ (qv 2)<|qv 10) qh) je) je je)<|qg<|qx<|zk<|cA (qk zw (qk zw (xt (gB _ _ _) (qv 2) kz<|vz<|qv 10)<|zu<|jt<|qk jK (zk<|jt<|qv 11)<|xt (uF _ _ _) (I_ (qv 2)<|qv 10) (vz qh) kz)<|xt (gB _ _ _) (qv 2) (vz<|qk zw (qv 10) qh) kz) (qv 3)<|qv 4)⟩
abbrev GO(V:V_):Prop:=GN V/\IT V (lE)
theorem UO(V:V_)(B:B_ V)(c:GN V):GO V:=⟨c,M_ V _ _ B.hp B.D38 Uc<|(Js).2 V B.toB0_ ⟨⟩⟩
abbrev GP(V:V_):Prop:=GO V/\Q0 V (pP)
theorem UP(V:V_)(B:B_ V)(c:GO V):GP V:=⟨c,M_ V _ _ B.hp B.D39 Uf<|(Jt _ _ _ _).2 V B.toB0_ ⟨c.1.1.1.1.1.1.1.1.1.1.1.1.1.1.1.1.1.1.1.2,c.1.1.1.2,c.1.2,c.2⟩⟩
abbrev GQ(V:V_):Prop:=GP V/\IU V (nK)
theorem UQ(V:V_)(B:B_ V)(c:GP V):GQ V:=⟨c,M_ V 0 ["_law_many","_law_edges","_law_start","_law_near",ng,"_law_q","_law_seen","_law_todo"] B.hp B.D40 Tg λ_ _ _ _ _ _ _ J hN I=>(qa (lG "_law_p'"<|wv [ng] (i:=3) f' rfl (Or.inl rfl) (EL (by rfl)) rfl (ve rfl B.bb<|jt<|qv 0) (bH f' (λ_ _ _ _=>Or.inl rfl) λ_ _ _ _=>rfl) (λ_ _ _ _=>qI) λ_ _ _ _=>(zu vd))<|qa (xg u1 rfl (jp<|qv 1) (aA rfl<|zf (G_ 4 hN)<|zf (G_ 5 hN) vv)<|qa (za<|qz (I_ (qv 3)<|qv 4)<|jt<|qv 5)<|qg<|za<|qz (I_ (qv 3)<|qv 5)<|jt<|qv 4)<|qa (lG "_law_p'"<|wy (i:=6) f' rfl (Or.inr rfl)<|fF [ng] (EL (by rfl)) rfl (ve rfl B.bb<|jt<|qv 0) (bH f' (λ_ _ _ _=>Or.inl rfl) λ_ _ _ _=>rfl) (λ_ _ _ _=>qI) λ_ _ _ _=>(iC (yT _ _ _ I) (qv 8) (qv 2)<|wo _))<|qa (S_ 7 hN<|zu<|jt<|qv 2)<|qa (iX u1 (N_ I (qv 7)<|zu vd)<|qg<|xg u1 rfl (jp<|I_ (qv 3)<|Pr<|qv 7) (G_ 5 hN)<|qg<|zx (rf<|aV<|I_ (qv 6)<|qv 5) (qa (lF (qv 6) (qv 5) cK)<|qg<|za<|qz (qv 7)<|jt<|qv 5) ze)<|qg<|lG "_law_p'"<|qx<|fF [ng] (EL (by rfl)) rfl (ve rfl B.bb<|jt<|qv 0) (bH f' (λ_ _ _ _=>Or.inl rfl) λ_ _ _ _=>rfl) (λ_ _ _ _=>wc<|aV<|I_ (qv 6)<|qv 8) λ_ _ _ _=>(qv 8))⟩
abbrev GR(V:V_):Prop:=GQ V/\IV V (cj)
theorem UR(V:V_)(B:B_ V)(c:GQ V):GR V:=⟨c,M_ V _ _ B.hp B.D41 yy<|(iW).2 V B.toB0_ ⟨⟩⟩
abbrev GS(V:V_):Prop:=GR V/\IW V (i3)
theorem US(V:V_)(B:B_ V)(c:GR V):GS V:=⟨c,M_ V _ _ B.hp B.D42 TH<|(fz).2 V B.toB0_ ⟨⟩⟩
abbrev GU(V:V_):Prop:=GS V/\Q1 V (cV 4)
theorem UT(V:V_)(B:B_ V)(c:GS V):GU V:=⟨c,R_ V _ _ B.hp B.D43 TC TJ (λn=>(ue _ _).2 V B.toB0_ c.2 n) 4⟩
abbrev GV(V:V_):Prop:=GU V/\Q2 V (rS)
theorem UU(V:V_)(B:B_ V)(c:GU V):GV V:=⟨c,M_ V _ _ B.hp B.D44 Sw<|(jU).2 V B.toB0_ ⟨⟩⟩
abbrev GW(V:V_):Prop:=GV V/\Q4 V (qJ)
theorem UV(V:V_)(B:B_ V)(c:GV V):GW V:=⟨c,M_ V _ _ B.hp B.D45 SF<|(kA _ _ _).2 V B.toB0_ ⟨c.1.1.1.1.1.1.1.1.1.1.1.1.1.1.1.1.1.1.1.1.1.1.1.1.1.2,c.1.1.1.1.1.1.1.1.1.1.1.1.1.1.1.2,c.1.1.1.1.1.1.1.1.1.1.1.1.1.1.1.1.1.1.1.1.1.1.1.1.1.1.1.2⟩⟩
abbrev GX(V:V_):Prop:=GW V/\IX V (gp)
theorem UW(V:V_)(B:B_ V)(c:GW V):GX V:=⟨c,M_ V _ _ B.hp B.D46 Th<|(iS _).2 V B.toB0_ c.1.1.1.1.1.2⟩
abbrev Jv(V:V_):Prop:=GX V/\Q5 V (nE)
theorem UX(V:V_)(B:B_ V)(c:GX V):Jv V:=⟨c,M_ V _ _ B.hp B.D47 TR<|(Jq _ _).2 V B.toB0_ ⟨c.1.1.1.1.1.2,c.2⟩⟩
theorem dL(V:V_)(B:B_ V)(c:Jv V){f:Addr}{fd:FuncData}(F:Fun V.K "law" "law" uc f fd):Fn3 V.P V.w V.K V.mg V.base 174 f fd [nh] (pO V.Pt lamQ):=
 W_ V 173 [nh,"_law_stir_here","_law_tree_here","_law_web_here","_law_handed","_law_found"] F Ui λ_ _ _ _ _ _ I hN J=>(qa (S_ 1 hN<|C_ c.1.1.1.1.1.1.1.1.1.1.1.1.1.1.1.1.1.1.1.1.1.1.1.1.1.1.1.1.1.2 I<|jt<|qv 0)<|qa (S_ 2 hN<|C_ c.1.1.1.1.1.1.1.1.1.1.1.1.1.2 I<|vq (C_ c.1.1.2 I<|cA (qv 0) (qv 1) qh)<|qv 1)<|qa (S_ 3 hN<|C_ c.1.1.1.1.1.1.1.1.2 I<|vq (C_ c.1.1.1.1.1.1.1.1.1.1.1.1.1.1.1.1.2 I<|jt<|qv 2)<|qv 1)<|qa (S_ 4 hN<|C_ c.1.1.1.2 I<|jt<|qv 3)<|qa (S_ 5 hN<|C_ c.1.1.1.1.1.1.1.1.1.1.1.1.1.1.1.1.1.1.1.1.1.1.1.1.1.1.1.1.1.1.1.2 I<|jt<|qv 4)<|qg<|qx<|qD (C_ c.1.1.1.1.2 I<|vq (qv 4)<|qv 3)<|rZ<|C_ c.1.1.1.1.2 I<|vq (qv 5)<|C_ c.2 I<|jt<|qv 3)
theorem all_mk{l:PySem.W.OpenLaw}{w:Vx}{K:Af}{h:Vy}{mg:Vg}{fa:Addr}{I:Addr}{g:Option Addr}{j:Nat}{o:Array<|Vq}{J U:Tok}{p:Addr}{Pt:Addr}(X:K.In h)(G:h.Ns mainGlobals mg)(r:mg "law"=some (.ref fa))
 (D0:dX K p "__init__" "Pieces.__init__" gE)
 (D1:dX K p "head_of" "Pieces.head_of" cY)
 (D2:dX K p "unite" "Pieces.unite" eJ)
 (D3:qw K "is_leaf" pH)
 (D4:qw K "places_there" bM)
 (D5:qw K "parts_of" gY)
 (D6:qw K "parts_in" gb)
 (D7:qw K "places_in" fC)
 (D8:qw K "ends_of" ig)
 (D9:qw K "boths_of" gT)
 (D10:qw K "part_edges" dM)
 (D11:qw K "all_edges" eY)
 (D12:qw K "piece_at" lz)
 (D13:qw K "sides_by" oI)
 (D14:qw K "parted_boths" bT)
 (D15:qw K "parted_cuts" cB)
 (D16:qw K "partings" gN)
 (D17:qw K "_law_cell_at" bW)
 (D18:qw K "_law_stir" fM)
 (D19:qw K "_law_pick" fQ)
 (D20:qw K "_law_mix" ge)
 (D21:qw K "_law_name" e8)
 (D22:qw K "_law_word" fE)
 (D23:qw K "_law_flip" fK)
 (D24:qw K "_law_weight" bw)
 (D25:qw K "_law_mirror" gA)
 (D26:qw K "_law_join" eE)
 (D27:qw K "_law_fold" eS)
 (D28:qw K "_law_cut" lg)
 (D29:qw K "_law_tree" fI)
 (D30:qw K "_law_gather" bu)
 (D31:qw K "_law_web" gS)
 (D32:DefInT K "_law_order" s__law_order Pt)
 (D33:qw K "_law_moved" dR)
 (D34:qw K "_law_gapped" cG)
 (D35:qw K "_law_swapped" bN)
 (D36:qw K "_law_beneath" bL)
 (D37:qw K "_law_flipped" eW)
 (D38:qw K "_law_split" dN)
 (D39:qw K "_law_changed" bG)
 (D40:qw K "_law_reach" iV)
 (D41:qw K "_law_sides" dB)
 (D42:qw K "_law_number" cD)
 (D43:qw K "_law_alike" dD)
 (D44:qw K "_law_copy" ef)
 (D45:qw K "_law_sown" dz)
 (D46:qw K "_law_noted" dJ)
 (D47:qw K "_law_due" gZ)
 (D48:qw K "law" uc)
 (aLEAF_KINDS:PySem.W.nsIn K mainGlobals "LEAF_KINDS"=some (some<|.ref I))
 (lLEAF_KINDS:K.lookup I=some ⟨.type "tuple",g,.seq #[.str "plain" J,.str "turned" U] j,o⟩)
 (aCPieces:PySem.W.nsIn K mainGlobals "Pieces"=some (some<|.ref p))
 (clPieces:Cls K p)
 (mAPieces:PySem.W.makesIn K p=true)
 (mKPieces:PySem.W.keepIn K (.ref p)=true)
 (xf:L3.XFP K p)
 (zlist:PySem.W.nsIn K mainGlobals "list"=some none)
 (zrange:PySem.W.nsIn K mainGlobals "range"=some none)
 (zenumerate:PySem.W.nsIn K mainGlobals "enumerate"=some none)
 (zlen:PySem.W.nsIn K mainGlobals "len"=some none)
 (zisinstance:PySem.W.nsIn K mainGlobals "isinstance"=some none)
 (ztuple:PySem.W.nsIn K mainGlobals "tuple"=some none)
 (zsorted:PySem.W.nsIn K mainGlobals "sorted"=some none)
 (zmax:PySem.W.nsIn K mainGlobals "max"=some none)
 (zmin:PySem.W.nsIn K mainGlobals "min"=some none)
 (zint:PySem.W.nsIn K mainGlobals "int"=some none)
 (zbool:PySem.W.nsIn K mainGlobals "bool"=some none)
 (zstr:PySem.W.nsIn K mainGlobals "str"=some none):
 ∃fd:FuncData,(∀(s:Vv) (v:Vu),BindsTo s fd ⟨[v],[]⟩ [(nh,v)])/\∀base:Vy,K.In base->base.Ns mainGlobals mg->bS l.prog w K mg base CX0 174 fa fd [nh] (spTopT lamQ K Pt):=by
 obtain⟨fL,kV,t,pm,an,C,T,aL,FL⟩:=D48.ex;have e:=r.symm.trans<|C3 X G aL;cases e;refine⟨PySem.W.fnOf "law" "law" (xm uc) (j9 uc) (qt uc) .none kV t pm an C T,λs v=>.of_eq rfl,λbase _ _=>?_⟩;have B:B_ ⟨l.prog,w,K,mg,base,Pt,p⟩:=⟨⟨Bq X G zlist,Bq X G zrange,Bq X G zenumerate,Bq X G zlen,Bq X G zisinstance,Bq X G ztuple,Bq X G zsorted,Bq X G zmax,Bq X G zmin,Bq X G zint,Bq X G zbool,Bq X G zstr,⟨I,C3 X G aLEAF_KINDS,λH=>⟨I,[V.str "plain",V.str "turned"],rfl,.inr ⟨_,_,_,lLEAF_KINDS,rfl,rfl,by show 2<=sizeLine;decide,.cons ⟨_,rfl⟩<|.cons ⟨_,rfl⟩<|.nil⟩,⟨_,_,rfl,rfl,⟨_,_,rfl,rfl,rfl⟩⟩⟩⟩⟩,⟨h,X,G⟩,D0,D1,D2,D3,D4,D5,D6,D7,D8,D9,D10,D11,D12,D13,D14,D15,D16,D17,D18,D19,D20,D21,D22,D23,D24,D25,D26,D27,D28,D29,D30,D31,D32,D33,D34,D35,D36,D37,D38,D39,D40,D41,D42,D43,D44,D45,D46,D47,C3 X G aCPieces,clPieces,mAPieces,mKPieces,xf⟩;exact bS.imp (dL _ B (UX _ B<|UW _ B<|UV _ B<|UU _ B<|UT _ B<|US _ B<|UR _ B<|UQ _ B<|UP _ B<|UO _ B<|UN _ B<|UM _ B<|UL _ B<|UK _ B<|UJ _ B<|UI _ B<|UH _ B<|UG _ B<|UF _ B<|UE _ B<|UD _ B<|UC _ B<|UB _ B<|UA _ B<|Uz _ B<|Uy _ B<|Ux _ B<|Uw _ B<|Uv _ B<|Uu _ B<|Ut _ B<|Us _ B<|Ur _ B<|Uq _ B<|Uo _ B<|Um _ B<|Ul _ B<|Uk _ B<|d10 _ B<|d9 _ B<|d8 _ B<|d7 _ B<|d6 _ B<|d5 _ B<|d4 _ B<|d3 _ B<|d2 _ B<|d1 _ B trivial) FL) λvs H Q E q=>Sb q
theorem def_inT{K:Af}{x:Str}{st:Stmt}{f Pt:Addr}{oc:Vu}{od an:Option Addr}{oe:Array<|Vq}{kV ir pm eK ct:Vu}(a:PySem.W.nsIn K mainGlobals x=some (some<|.ref f))
 (l:K.lookup f=some ⟨oc,od,.func<|PySem.W.fnOf x x (xm st) (j9 st) (qt st) .none kV ir pm an eK ct,oe⟩) (c:PySem.W.codeIn K eK x=true) (k:PySem.W.keepIn K (.ref f)=true) (C:yw K eK Pt):DefInT K x st Pt:=
 ⟨f,kV,ir,pm,an,eK,ct,a,⟨⟨oc,od,kV,ir,pm,an,eK,ct,oe,rfl,l,c,C⟩,k⟩⟩
end K41
namespace H41
noncomputable section
open PySem PySem.W PySem.W.X L2 L3 PyProof.Rows
abbrev rr:=PySem.Challenge.rw_oncewise_k41_where_webs_part
abbrev p:Vw:=PySem.Challenge.pw_oncewise_k41_where_webs_part
abbrev top:=L3.top
abbrev D'(i k:Nat):Stmt:=(lB<|top i).getD k<|.Pass ⟨0,0,0,0⟩
abbrev s(x:Vz):Str:=Str.ofString x
noncomputable abbrev S (x:Vz) (t:Tok):Vu:=.str (Str.ofString x) t
noncomputable abbrev I (i:Int) (t:Tok):Vu:=.int i t
noncomputable abbrev R (a:Addr):Vu:=.ref a
abbrev E(P:Params)(k:Vz)(t:Tok)(v:Vu):DictEntry:=⟨PyData.keyHash P<|Str.ofString k,.str (Str.ofString k) t,v⟩
noncomputable abbrev O (c:Vu) (d:Data):Obj:=⟨c,none,d,#[]⟩
abbrev FN(n q:Vz)(st:Stmt)(I kV ir pm:Vu)(an:Option Addr)(cd ct:Vu):FuncData:=fnOf (Str.ofString n) (Str.ofString q) (xm st) (j9 st) (qt st) I kV ir pm an cd ct
abbrev FG(n q:Vz)(st:Stmt):FuncData:={ fnOf (Str.ofString n) (Str.ofString q) (xm st) (j9 st) (qt st) .none .none .none .none none .none .none with globals:=0 }
abbrev tu(l:Vk):Obj:=O (.type "tuple")<|.seq l 0
abbrev fo(f:FuncData):Obj:=O (.type "function")<|.func f
abbrev go(f:FuncData):Obj:=O .none<|.func f
abbrev co(n q:Vz)(t l a b c J v:Nat)(o:Bool)(m k:Nat)(x y z u:Vu)(d:Nat):Obj:=O (.type "code")<|.fields #[S n t,S q<|t+1,S "/claim/cut.py"<|t+2,I l 0,I a 0,I b 0,I c 0,I J 0,R v,.bool o,I m 0,R k,x,y,z,u,I d 0,I l 0,S "/claim/cut.py"<|d+1]
abbrev gH:Vu:=S "law_oncewise_k41_where_webs_part" 356
abbrev Ed:Vu:=S "oncewise.wayback" 304
abbrev Fe:Vu:=S "oncewise.webs" 250
abbrev Jw:Vu:=S "oncewise.shrinking" 290
abbrev fX(n:Vz)(i:Nat)(m:Vu)(r:Nat):Obj:=fo<|FN n n (top i) .none .none .none m none (R r) .none
abbrev gX(n:Vz)(i:Nat):Obj:=go<|FG n n<|top i
abbrev cF(n:Vz)(t l a v d:Nat):Obj:=co n n t l a 0 0 3 v true 181 (v+1) .none (R<|v+2) (R<|v+3) (R<|v+4) d
abbrev cC(n:Vz)(t l v d:Nat):Obj:=co n n t l 0 0 0 0 v false 181 (v+1) .none .none .none .none d
abbrev fR(a b:Nat):Obj:=⟨.type "frame",none,.plain,#[some<|R a,some<|R 3,some<|R b,none,some<|S "oncewise.pieces" 187,none,some<|R 0]⟩
abbrev bI(a:Nat):Obj:=O (.type "builtin_function_or_method")<|.fields #[.builtin "object.__init_subclass__",R a]
abbrev sU(a:Nat):Obj:=O (.type "super")<|.fields #[R a,R a,R a]
abbrev Ob:=Params->Obj
def ev{α:Type}:Bool->List α->List α
 |_,[]=>[]
 |true,x::r=>x::ev false r
 |false,_::r=>ev true r
def bt:Nat->List Obj->BT
 |0,_=>.nil
 |_,[]=>.nil
 |n+1,x::r=>.node x (bt n<|ev true r)<|bt n<|ev false r
def env0:Env:={ scope:=p.main.scope,locals:=mainNs,globals:=mainNs,cells:=[],code:=.ref 13,frame:=some 14 }
abbrev cE:Code:=.body (behindTheImports p) env0
abbrev q0:Pos:=⟨0,0,0,0⟩
abbrev an:Vq:=some<|.ref 6
abbrev Pc(n:Nat)(S I:Vx->OsState->SharedT)(l:Vo)(q J:Pos)(w:Vx):Prop:=(λos=>segRunT treeTable p w 11 an 1 n (S w os)<|piecesOf l env0 cE q [topFrame q0])=λos=>some (Flow.next,I w os,cE,J)
abbrev b0:=PySem.W.boot_o_0
abbrev b1:=PySem.W.boot_o_1
abbrev b2:=PySem.W.boot_o_2
abbrev b3:=PySem.W.boot_o_3
abbrev b4:=PySem.W.boot_o_4
abbrev b5:=PySem.W.boot_o_5
abbrev b6:=PySem.W.boot_o_6
abbrev b7:=PySem.W.boot_o_7
abbrev b8:=PySem.W.boot_o_8
abbrev b9:=PySem.W.boot_o_9
abbrev Fv:=PySem.W.boot_o_10
def vj:Ob:=λ_=>tu #[]
def ae:Ob:=λ_=>O .none<|.fields #[]
def Fw:Ob:=λ_=>cC "<module>" 182 1 11 185
def GY:Ob:=λ_=>⟨(.type "frame"),none,.plain,#[(some<|R 13),(some<|R 3),(some<|R 3),none,(some<|S "__main__" 164),none,(some<|R 0)]⟩
def Jx:Ob:=λ_=>O (.type "getset_descriptor")<|.fields #[S "__weakref__" 233,R 45,(.builtin "ExceptionGroup.__weakref__"),.none]
def Jy:Ob:=λ_=>fo<|FN "head_of" "Pieces.head_of" (D' 1 1) .none .none .none (S "oncewise.pieces" 187) none (R 34) .none
def Jz:Ob:=λ_=>co "__init__" "Pieces.__init__" 201 4 2 0 0 3 22 true 181 23 .none (R 24) (R 25) (R 26) 206
def JA:Ob:=λ_=>co "unite" "Pieces.unite" 218 14 3 0 0 3 36 true 181 37 .none (R 38) (R 39) (R 40) 226
def JB:Ob:=λ_=>fo<|FN "is_leaf" "is_leaf" (top 4) .none .none .none (S "oncewise.words" 238) none (R 56) .none
def JC:Ob:=λ_=>⟨(.type "type"),none,(.cls<|ClassData.mk (s "Pieces") [(.type "object")] [R 45,(.type "object")] 44 (s "Pieces") true [] [] false none false),#[none,none,(some<|S "Pieces" 189),(some<|S "Pieces" 197),(some<|.builtin "object.__new__"),(some<|.bool true)]⟩
def JD:Ob:=λ_=>co "places_there" "places_there" 252 24 1 0 0 3 58 true 181 59 .none .none .none (R 60) 255
def JE:Ob:=λ_=>cF "is_leaf" 243 21 1 51 247
def JF:Ob:=λ_=>fo<|FN "__init__" "Pieces.__init__" (D' 1 0) .none .none .none (S "oncewise.pieces" 187) none (R 27) .none
def JG:Ob:=λP=>O (.type "dict")<|.dict #[(E P "__module__" 196<|S "oncewise.pieces" 187),(E P "__firstlineno__" 200<|I 2 199),(E P "__init__" 208<|R 28),(E P "head_of" 217<|R 35),(E P "unite" 228<|R 42),(E P "__static_attributes__" 230<|R 43),(E P "__dict__" 232<|R 46),(E P "__weakref__" 234<|R 47),(E P "__doc__" 235 .none)] 4
def JH:Ob:=λ_=>co "head_of" "Pieces.head_of" 209 7 2 0 0 3 29 true 181 30 .none (R 31) (R 32) (R 33) 215
def JI:Ob:=λ_=>tu #[S "plain" 240,S "turned" 241]
def JJ:Ob:=λ_=>fo<|FN "unite" "Pieces.unite" (D' 1 2) .none .none .none (S "oncewise.pieces" 187) none (R 41) .none
def JK:Ob:=λ_=>O (.type "getset_descriptor")<|.fields #[S "__dict__" 231,R 45,(.builtin "function.__dict__"),(.builtin "function.__dict__#set")]
def JL:Ob:=λ_=>fX "places_there" 6 Fe 61
def JM:Ob:=λ_=>cF "partings" 349 85 1 130 353
def JN:Ob:=λ_=>co "ends_of" "ends_of" 284 41 1 0 0 3 84 true 181 85 .none .none .none (R 86) 287
def JO:Ob:=λ_=>fX "places_in" 9 Fe 82
def JP:Ob:=λ_=>cF "parts_in" 265 30 1 70 271
def JQ:Ob:=λ_=>fX "parted_cuts" 19 Ed 128
def JR:Ob:=λ_=>co "part_edges" "part_edges" 298 48 2 0 0 3 94 true 181 95 .none .none .none (R 96) 301
def JS:Ob:=λ_=>fX "all_edges" 15 Ed 104
def JT:Ob:=λ_=>co "parted_boths" "parted_boths" 331 66 1 0 0 3 118 true 181 119 .none .none .none (R 120) 334
def JU:Ob:=λ_=>fX "parts_of" 7 Fe 68
def JV:Ob:=λ_=>fX "sides_by" 17 Ed 116
def JW:Ob:=λ_=>co "piece_at" "piece_at" 313 56 3 0 0 3 106 true 181 107 .none .none .none (R 108) 316
def JX:Ob:=λ_=>fX "boths_of" 12 Jw 92
def JY:Ob:=λ_=>cF "parted_cuts" 337 77 1 123 346
def JZ:Ob:=λ_=>fX "partings" 20 Ed 135
def J0:Ob:=λ_=>cF "all_edges" 306 54 1 99 310
def J1:Ob:=λ_=>fX "ends_of" 10 Fe 87
def J2:Ob:=λ_=>cF "parts_of" 258 26 1 63 262
def J3:Ob:=λ_=>cF "sides_by" 319 59 4 111 328
def J4:Ob:=λ_=>fX "parts_in" 8 Fe 75
def J5:Ob:=λ_=>co "boths_of" "boths_of" 292 46 1 0 0 3 89 true 181 90 .none .none .none (R 91) 295
def J6:Ob:=λ_=>fX "part_edges" 13 Jw 97
def J7:Ob:=λ_=>cF "places_in" 274 35 1 77 281
def J8:Ob:=λ_=>fX "parted_boths" 18 Ed 121
def J9:Ob:=λ_=>fX "piece_at" 16 Ed 109
def J':Ob:=λ_=>fX "_law_cell_at" 22 gH 142
def Ka:Ob:=λ_=>cF "_law_word" 399 110 2 170 405
def Kb:Ob:=λ_=>fX "_law_flip" 28 gH 182
def Kc:Ob:=λ_=>cF "_law_mix" 384 99 3 158 390
def Kd:Ob:=λ_=>fX "_law_fold" 32 gH 208
def Ke:Ob:=λ_=>co "_law_join" "_law_join" 437 137 4 0 0 3 198 true 181 199 .none .none .none (R 200) 440
def Kf:Ob:=λ_=>fX "_law_name" 26 gH 168
def Kg:Ob:=λ_=>fX "_law_mirror" 30 gH 196
def Kh:Ob:=λ_=>cF "_law_stir" 366 92 1 144 373
def Ki:Ob:=λ_=>co "_law_cut" "_law_cut" 455 153 4 0 0 3 210 true 181 211 .none .none .none (R 212) 458
def Kj:Ob:=λ_=>fX "_law_pick" 24 gH 156
def Kk:Ob:=λ_=>fX "_law_tree" 34 gH 220
def Kl:Ob:=λ_=>cF "_law_weight" 416 120 1 184 420
def Km:Ob:=λ_=>cF "_law_fold" 443 145 4 203 452
def Ko:Ob:=λ_=>fX "_law_word" 27 gH 175
def Kp:Ob:=λ_=>co "_law_name" "_law_name" 393 101 2 0 0 3 165 true 181 166 .none .none .none (R 167) 396
def Kq:Ob:=λ_=>cF "_law_mirror" 423 124 2 191 434
def Kr:Ob:=λ_=>fX "_law_mix" 25 gH 163
def Ks:Ob:=λ_=>cF "_law_pick" 376 97 2 151 381
def Kt:Ob:=λ_=>cF "_law_tree" 461 175 3 215 475
def Ku:Ob:=λ_=>fX "_law_join" 31 gH 201
def Kv:Ob:=λ_=>fX "_law_stir" 23 gH 149
def Kw:Ob:=λ_=>fX "_law_cut" 33 gH 213
def Kx:Ob:=λ_=>cF "_law_flip" 408 115 1 177 413
def Ky:Ob:=λ_=>cF "_law_cell_at" 358 88 2 137 363
def Kz:Ob:=λ_=>fX "_law_weight" 29 gH 189
def KA:Ob:=λ_=>co "_law_reach" "_law_reach" 567 304 3 0 0 3 284 true 181 285 .none .none .none (R 286) 570
def KC:Ob:=λ_=>fX "_law_flipped" 42 gH 270
def KE:Ob:=λ_=>fX "_law_sides" 46 gH 294
def KG:Ob:=λ_=>fX "_law_moved" 38 gH 246
def KH:Ob:=λ_=>fX "_law_swapped" 40 gH 258
def KI:Ob:=λ_=>cF "_law_gather" 478 204 3 222 485
def KJ:Ob:=λ_=>co "_law_split" "_law_split" 552 280 2 0 0 3 272 true 181 273 .none .none .none (R 274) 555
def KL:Ob:=λ_=>fX "_law_web" 36 gH 234
def KN:Ob:=λ_=>fX "_law_changed" 44 gH 282
def GZ:Ob:=λ_=>cF "_law_order" 497 217 2 236 506
def KO:Ob:=λ_=>cF "_law_beneath" 537 262 2 260 543
def KP:Ob:=λ_=>cF "_law_number" 583 324 1 296 587
def KQ:Ob:=λ_=>cF "_law_gapped" 515 231 2 248 528
def KR:Ob:=λ_=>fX "_law_reach" 45 gH 287
def KS:Ob:=λ_=>fX "_law_gather" 35 gH 227
def KU:Ob:=λ_=>fX "_law_split" 43 gH 275
def KY:Ob:=λ_=>co "_law_swapped" "_law_swapped" 531 246 2 0 0 3 255 true 181 256 .none .none .none (R 257) 534
def KZ:Ob:=λ_=>fX "_law_order" 37 gH 241
def K1:Ob:=λ_=>fX "_law_beneath" 41 gH 265
def K2:Ob:=λ_=>cF "_law_web" 488 212 1 229 494
def K3:Ob:=λ_=>cF "_law_changed" 558 291 2 277 564
def K4:Ob:=λ_=>cF "_law_sides" 573 317 2 289 580
def K5:Ob:=λ_=>co "_law_moved" "_law_moved" 509 225 2 0 0 3 243 true 181 244 .none .none .none (R 245) 512
def K6:Ob:=λ_=>co "_law_flipped" "_law_flipped" 546 267 2 0 0 3 267 true 181 268 .none .none .none (R 269) 549
def K7:Ob:=λ_=>fX "_law_number" 47 gH 301
def K8:Ob:=λ_=>fX "_law_gapped" 39 gH 253
def K9:Ob:=λP=>O (.type "dict")<|.dict #[(E P "__name__" 165<|S "law_oncewise_k41_where_webs_part" 356),(E P "__doc__" 166 .none),(E P "__package__" 167 .none),(E P "__loader__" 168<|.builtin "__main__.__loader__#opaque"),(E P "__spec__" 169 .none),(E P "__annotations__" 170<|R 6),(E P "__builtins__" 171<|R 4),(E P "__file__" 173<|S "/claim/cut.py" 172),(E P "__cached__" 174 .none),(E P "Pieces" 237<|R 45),(E P "LEAF_KINDS" 242<|R 50),(E P "is_leaf" 249<|R 57),(E P "places_there" 257<|R 62),(E P "parts_of" 264<|R 69),(E P "parts_in" 273<|R 76),(E P "places_in" 283<|R 83),(E P "ends_of" 289<|R 88),(E P "boths_of" 297<|R 93),(E P "part_edges" 303<|R 98),(E P "all_edges" 312<|R 105),(E P "piece_at" 318<|R 110),(E P "sides_by" 330<|R 117),(E P "parted_boths" 336<|R 122),(E P "parted_cuts" 348<|R 129),(E P "partings" 355<|R 136),(E P "_law_cell_at" 365<|R 143),(E P "_law_stir" 375<|R 150),(E P "_law_pick" 383<|R 157),(E P "_law_mix" 392<|R 164),(E P "_law_name" 398<|R 169),(E P "_law_word" 407<|R 176),(E P "_law_flip" 415<|R 183),(E P "_law_weight" 422<|R 190),(E P "_law_mirror" 436<|R 197),(E P "_law_join" 442<|R 202),(E P "_law_fold" 454<|R 209),(E P "_law_cut" 460<|R 214),(E P "_law_tree" 477<|R 221),(E P "_law_gather" 487<|R 228),(E P "_law_web" 496<|R 235),(E P "_law_order" 508<|R 242),(E P "_law_moved" 514<|R 247),(E P "_law_gapped" 530<|R 254),(E P "_law_swapped" 536<|R 259),(E P "_law_beneath" 545<|R 266),(E P "_law_flipped" 551<|R 271),(E P "_law_split" 557<|R 276),(E P "_law_changed" 566<|R 283),(E P "_law_reach" 572<|R 288),(E P "_law_sides" 582<|R 295),(E P "_law_number" 589<|R 302),(E P "_law_alike" 598<|R 309),(E P "_law_copy" 605<|R 316),(E P "_law_sown" 615<|R 323),(E P "_law_noted" 628<|R 330),(E P "_law_due" 634<|R 335),(E P "law" 646<|R 342)] 57
def K_:Ob:=λ_=>fX "_law_due" 52 gH 334
def K':Ob:=λ_=>fX "_law_sown" 50 gH 322
def La:Ob:=λ_=>cF "_law_copy" 599 343 1 310 603
def Lb:Ob:=λ_=>cF "_law_noted" 616 350 6 324 626
def Lc:Ob:=λ_=>cF "law" 635 374 1 336 644
def Ld:Ob:=λ_=>fX "_law_alike" 48 gH 308
def Le:Ob:=λ_=>cF "_law_alike" 590 326 2 303 596
def Lf:Ob:=λ_=>fX "_law_copy" 49 gH 315
def Lg:Ob:=λ_=>cF "_law_sown" 606 345 3 317 613
def Lh:Ob:=λ_=>fX "_law_noted" 51 gH 329
def Li:Ob:=λ_=>fX "law" 53 gH 341
def Lj:Ob:=λ_=>co "_law_due" "_law_due" 629 354 1 0 0 3 331 true 181 332 .none .none .none (R 333) 632
def asz:List Ob:=[b0,b1,b2,b3,b4,b5,b6,b7,b8,b9,Fv,vj,ae,Fw,GY]
def apn:List Ob:=[b0,b1,b2,K9,b4,b5,b6,b7,b8,b9,Fv,vj,λ_=>O .none<|.fields #[I 2 0,I 0 0,R 20,I 21 0,I 0 0,R 56,I 24 0,I 0 0,R 61,I 26 0,I 0 0,R 68,I 30 0,I 0 0,R 75,I 35 0,I 0 0,R 82,I 41 0,I 0 0,R 87,I 46 0,I 0 0,R 92,I 48 0,I 0 0,R 97,I 54 0,I 0 0,R 104,I 56 0,I 0 0,R 109,I 59 0,I 0 0,R 116,I 66 0,I 0 0,R 121,I 77 0,I 0 0,R 128,I 85 0,I 0 0,R 135,I 88 0,I 0 0,R 142,I 92 0,I 0 0,R 149,I 97 0,I 0 0,R 156,I 99 0,I 0 0,R 163,I 101 0,I 0 0,R 168,I 110 0,I 0 0,R 175,I 115 0,I 0 0,R 182,I 120 0,I 0 0,R 189,I 124 0,I 0 0,R 196,I 137 0,I 0 0,R 201,I 145 0,I 0 0,R 208,I 153 0,I 0 0,R 213,I 175 0,I 0 0,R 220,I 204 0,I 0 0,R 227,I 212 0,I 0 0,R 234,I 217 0,I 0 0,R 241,I 225 0,I 0 0,R 246,I 231 0,I 0 0,R 253,I 246 0,I 0 0,R 258,I 262 0,I 0 0,R 265,I 267 0,I 0 0,R 270,I 280 0,I 0 0,R 275,I 291 0,I 0 0,R 282,I 304 0,I 0 0,R 287,I 317 0,I 0 0,R 294,I 324 0,I 0 0,R 301,I 326 0,I 0 0,R 308,I 343 0,I 0 0,R 315,I 345 0,I 0 0,R 322,I 350 0,I 0 0,R 329,I 354 0,I 0 0,R 334,I 374 0,I 0 0,R 341],Fw,GY,vj,λ_=>O (.type "builtin_function_or_method")<|.fields #[(.builtin "type.__prepare__"),(.type "type")],λP=>O (.type "dict")<|.dict #[(E P "__module__" 196<|S "oncewise.pieces" 187),(E P "__qualname__" 198<|S "Pieces" 197),(E P "__firstlineno__" 200<|I 2 199),(E P "__init__" 208<|R 28),(E P "head_of" 217<|R 35),(E P "unite" 228<|R 42),(E P "__static_attributes__" 230<|R 43)] 7,vj,λ_=>O .none<|.fields #[I 4 0,I 4 0,R 27,I 7 0,I 4 0,R 34,I 14 0,I 4 0,R 41],λ_=>cC "Pieces" 191 2 18 194,λ_=>fR 20 17,vj,ae,λ_=>tu #[S "self" 204,S "count" 205],vj,λ_=>go<|FG "__init__" "Pieces.__init__"<|D' 1 0,Jz,JF,vj,ae,λ_=>tu #[S "self" 212,S "place" 213,S "here" 214],vj,λ_=>go<|FG "head_of" "Pieces.head_of"<|D' 1 1,JH,Jy,vj,ae,λ_=>tu #[S "self" 221,S "p" 222,S "q" 223,S "first" 224,S "second" 225],vj,λ_=>go<|FG "unite" "Pieces.unite"<|D' 1 2,JA,JJ,λ_=>tu #[S "heads" 229],JG,JC,JK,Jx,λ_=>sU 45,λ_=>bI 45,JI,vj,ae,λ_=>tu #[S "word" 246],vj,λ_=>gX "is_leaf" 4,JE,JB,vj,ae,λ_=>gX "places_there" 6,JD,JL,vj,ae,λ_=>tu #[S "knot" 261],vj,λ_=>gX "parts_of" 7,J2,JU,vj,ae,λ_=>tu #[S "knots" 268,S "parts" 269,S "knot" 270],vj,λ_=>gX "parts_in" 8,JP,J4,vj,ae,λ_=>tu #[S "pairs" 277,S "places" 278,S "p" 279,S "q" 280],vj,λ_=>gX "places_in" 9,J7,JO,vj,ae,λ_=>gX "ends_of" 10,JN,J1,vj,ae,λ_=>gX "boths_of" 12,J5,JX,vj,ae,λ_=>gX "part_edges" 13,JR,J6,vj,ae,λ_=>tu #[S "web" 309],vj,λ_=>gX "all_edges" 15,J0,JS,vj,ae,λ_=>gX "piece_at" 16,JW,J9,vj,ae,λ_=>tu #[S "knots" 322,S "edges" 323,S "p" 324,S "q" 325,S "pieces" 326,S "edge" 327],vj,λ_=>gX "sides_by" 17,J3,JV,vj,ae,λ_=>gX "parted_boths" 18,JT,J8,vj,ae,λ_=>tu #[S "web" 340,S "edges" 341,S "parted" 342,S "number" 343,S "cut" 344,S "sides" 345],vj,λ_=>gX "parted_cuts" 19,JY,JQ,vj,ae,λ_=>tu #[S "web" 352],vj,λ_=>gX "partings" 20,JM,JZ,vj,ae,λ_=>tu #[S "_law_script" 361,S "_law_k" 362],vj,λ_=>gX "_law_cell_at" 22,Ky,J',vj,ae,λ_=>tu #[S "_law_script" 369,S "_law_total" 370,S "_law_k" 371,S "_law_cell" 372],vj,λ_=>gX "_law_stir" 23,Kh,Kv,vj,ae,λ_=>tu #[S "_law_stir_here" 379,S "_law_factor" 380],vj,λ_=>gX "_law_pick" 24,Ks,Kj,vj,ae,λ_=>tu #[S "_law_cell" 387,S "_law_k" 388,S "_law_factor" 389],vj,λ_=>gX "_law_mix" 25,Kc,Kr,vj,ae,λ_=>gX "_law_name" 26,Kp,Kf,vj,ae,λ_=>tu #[S "_law_knots" 402,S "_law_p" 403,S "_law_knot" 404],vj,λ_=>gX "_law_word" 27,Ka,Ko,vj,ae,λ_=>tu #[S "_law_word_here" 411,S "_law_sides_here" 412],vj,λ_=>gX "_law_flip" 28,Kx,Kb,vj,ae,λ_=>tu #[S "_law_word_here" 419],vj,λ_=>gX "_law_weight" 29,Kl,Kz,vj,ae,λ_=>tu #[S "_law_knots" 426,S "_law_word_here" 427,S "_law_left" 428,S "_law_right" 429,S "_law_turn" 430,S "_law_same" 431,S "_law_low" 432,S "_law_high" 433],vj,λ_=>gX "_law_mirror" 30,Kq,Kg,vj,ae,λ_=>gX "_law_join" 31,Ke,Ku,vj,ae,λ_=>tu #[S "_law_knots" 446,S "_law_tree_here" 447,S "_law_one" 448,S "_law_two" 449,S "_law_left" 450,S "_law_right" 451],vj,λ_=>gX "_law_fold" 32,Km,Kd,vj,ae,λ_=>gX "_law_cut" 33,Ki,Kw,vj,ae,λ_=>tu #[S "_law_cells" 464,S "_law_seed" 465,S "_law_room" 466,S "_law_knots" 467,S "_law_forest" 468,S "_law_k" 469,S "_law_cell" 470,S "_law_one" 471,S "_law_two" 472,S "_law_deed" 473,S "_law_at" 474],vj,λ_=>gX "_law_tree" 34,Kt,Kk,vj,ae,λ_=>tu #[S "_law_rule" 481,S "_law_links" 482,S "_law_cuts" 483,S "_law_arm" 484],vj,λ_=>gX "_law_gather" 35,KI,KS,vj,ae,λ_=>tu #[S "_law_tree_here" 491,S "_law_links" 492,S "_law_cuts" 493],vj,λ_=>gX "_law_web" 36,K2,KL,vj,ae,λ_=>tu #[S "_law_knots" 500,S "_law_seed" 501,S "_law_p" 502,S "_law_knot" 503,S "_law_rank" 504],λ_=>tu #[S "_law_ranks" 505],λ_=>gX "_law_order" 37,GZ,KZ,vj,ae,λ_=>gX "_law_moved" 38,K5,KG,vj,ae,λ_=>tu #[S "_law_tree_here" 518,S "_law_stir_here" 519,S "_law_number_here" 520,S "_law_gap" 521,S "_law_offset" 522,S "_law_at" 523,S "_law_made" 524,S "_law_k" 525,S "_law_p" 526,S "_law_knot" 527],vj,λ_=>gX "_law_gapped" 39,KQ,K8,vj,ae,λ_=>gX "_law_swapped" 40,KY,KH,vj,ae,λ_=>tu #[S "_law_knots" 540,S "_law_p" 541,S "_law_knot" 542],vj,λ_=>gX "_law_beneath" 41,KO,K1,vj,ae,λ_=>gX "_law_flipped" 42,K6,KC,vj,ae,λ_=>gX "_law_split" 43,KJ,KU,vj,ae,λ_=>tu #[S "_law_web_here" 561,S "_law_stir_here" 562,S "_law_number_here" 563],vj,λ_=>gX "_law_changed" 44,K3,KN,vj,ae,λ_=>gX "_law_reach" 45,KA,KR,vj,ae,λ_=>tu #[S "_law_knots" 576,S "_law_out" 577,S "_law_row" 578,S "_law_r" 579],vj,λ_=>gX "_law_sides" 46,K4,KE,vj,ae,λ_=>tu #[S "_law_x" 586],vj,λ_=>gX "_law_number" 47,KP,K7,vj,ae,λ_=>tu #[S "_law_found" 593,S "_law_due_here" 594,S "_law_k" 595],vj,λ_=>gX "_law_alike" 48,Le,Ld,vj,ae,λ_=>tu #[S "_law_web_here" 602],vj,λ_=>gX "_law_copy" 49,La,Lf,vj,ae,λ_=>tu #[S "_law_script" 609,S "_law_stir_here" 610,S "_law_wide" 611,S "_law_room" 612],vj,λ_=>gX "_law_sown" 50,Lg,K',vj,ae,λ_=>tu #[S "_law_due_here" 619,S "_law_many" 620,S "_law_edges" 621,S "_law_head" 622,S "_law_p" 623,S "_law_q" 624,S "_law_left" 625],vj,λ_=>gX "_law_noted" 51,Lb,Lh,vj,ae,λ_=>gX "_law_due" 52,Lj,K_,vj,ae,λ_=>tu #[S "_law_script" 638,S "_law_stir_here" 639,S "_law_tree_here" 640,S "_law_web_here" 641,S "_law_handed" 642,S "_law_found" 643],vj,λ_=>gX "law" 53,Lc,Li]
def auv:List Ob:=[b0,b1,b2,b3,b4,b5,b6,b7,b8,b9,Fv,vj,ae,Fw,GY]
def atf:List Ob:=apn
def UY(P:Params):Vy:=⟨⟨asz.map (· P)⟩,{}⟩
def Fx(P:Params):Vy:=⟨⟨apn.map (· P)⟩,{}⟩
def UZ(P:Params):BT:=bt 20 (auv.map (· P))
def U3(P:Params):BT:=bt 20 (atf.map (· P))
def sA(w:Vx)(os:OsState):Vv:=⟨UY w.params,#[],{},187,os⟩
def sZ(w:Vx)(os:OsState):Vv:=⟨Fx w.params,#[],{},647,os⟩
def Lk(w:Vx)(os:OsState):SharedT:=⟨UZ w.params,15,{},#[],{},187,os⟩
def k_(w:Vx)(os:OsState):SharedT:=⟨U3 w.params,343,{},#[],{},647,os⟩
def G1:Vo:=((behindTheImports p).drop 0).take 54
theorem U4(w:Vx):(λos=>topGo treeTable p w 11 an 12 ⟨boot_heap w.params,#[],boot_drawn,boot_toks,os⟩<|topStub p)=λos=>some (sA w os,⟨denote treeTable cE,cE,⟨0,0,0,0⟩,[topFrame q0]⟩):=by kernel_rfl
theorem U5(w:Vx):(λos=>segRun treeTable p w 11 an 1 1 (sA w os)<|blockOf (behindTheImports p) env0 cE ⟨0,0,0,0⟩ [topFrame q0])=λos=>some (.next,(Lk w os).abs,cE,⟨0,0,0,0⟩):=by kernel_rfl
theorem U6:∀w,Pc 1739 Lk k_ G1 ⟨0,0,0,0⟩ ⟨374,0,380,101⟩ w:=λw=>by kernel_rfl
theorem U7(w:Vx):(λos=>topRun treeTable p w 11 an 2 (k_ w os).abs ⟨doneF .next,cE,⟨374,0,380,101⟩,[topFrame q0]⟩)=λos=>some (sZ w os):=by kernel_rfl
theorem U8:G1++([])=behindTheImports p:=by kernel_rfl
theorem U9(w:Vx)(os:OsState):topRun treeTable p w 11 an (12+(1+(1739+(2)))) ⟨boot_heap w.params,#[],boot_drawn,boot_toks,os⟩ (topStub p)=some (sZ w os):=by have h:=(piece_app (l:=G1) (rest:=[]) (segRun_of<|Eh (U6 w) os)<|piece_nil (env:=env0)<|Eh (U7 w) os);rw[U8] at h;exact go_top (Eh (U4 w) os)<|piece_block (Eh (U5 w) os) h
def as0:Vl:=[0,1,2,3,4,5,6,7,8,9,10,13,27,28,34,35,41,42,44,45,46,47,50,56,57,61,62,68,69,75,76,82,83,87,88,92,93,97,98,104,105,109,110,116,117,121,122,128,129,135,136,142,143,149,150,156,157,163,164,168,169,175,176,182,183,189,190,196,197,201,202,208,209,213,214,220,221,227,228,234,235,237,241,242,246,247,253,254,258,259,265,266,270,271,275,276,282,283,287,288,294,295,301,302,308,309,315,316,322,323,329,330,334,335,341,342]
def vw:Vw:={ p with main:={ p.main with body:=[top 1,top 3,top 4,top 6,top 7,top 8,top 9,top 10,top 12,top 13,top 15,top 16,top 17,top 18,top 19,top 20,top 22,top 23,top 24,top 25,top 26,top 27,top 28,top 29,top 30,top 31,top 32,top 33,top 34,top 35,top 36,top 37,top 38,top 39,top 40,top 41,top 42,top 43,top 44,top 45,top 46,top 47,top 48,top 49,top 50,top 51,top 52,top 53] } }
def K0:Params->Frag:=λP=>(nat_lit 0,b0 P)::(nat_lit 1,b1 P)::(nat_lit 2,b2 P)::(nat_lit 3,K9 P)::(nat_lit 4,b4 P)::(nat_lit 5,b5 P)::(nat_lit 6,b6 P)::(nat_lit 7,b7 P)::(nat_lit 8,b8 P)::(nat_lit 9,b9 P)::(nat_lit 10,Fv P)::(nat_lit 13,Fw P)::(nat_lit 27,Jz P)::(nat_lit 28,JF P)::(nat_lit 34,JH P)::(nat_lit 35,Jy P)::(nat_lit 41,JA P)::(nat_lit 42,JJ P)::(nat_lit 44,JG P)::(nat_lit 45,JC P)::(nat_lit 46,JK P)::(nat_lit 47,Jx P)::(nat_lit 50,JI P)::(nat_lit 56,JE P)::(nat_lit 57,JB P)::(nat_lit 61,JD P)::(nat_lit 62,JL P)::(nat_lit 68,J2 P)::(nat_lit 69,JU P)::(nat_lit 75,JP P)::(nat_lit 76,J4 P)::(nat_lit 82,J7 P)::(nat_lit 83,JO P)::(nat_lit 87,JN P)::(nat_lit 88,J1 P)::(nat_lit 92,J5 P)::(nat_lit 93,JX P)::(nat_lit 97,JR P)::(nat_lit 98,J6 P)::(nat_lit 104,J0 P)::(nat_lit 105,JS P)::(nat_lit 109,JW P)::(nat_lit 110,J9 P)::(nat_lit 116,J3 P)::(nat_lit 117,JV P)::(nat_lit 121,JT P)::(nat_lit 122,J8 P)::(nat_lit 128,JY P)::(nat_lit 129,JQ P)::(nat_lit 135,JM P)::(nat_lit 136,JZ P)::(nat_lit 142,Ky P)::(nat_lit 143,J' P)::(nat_lit 149,Kh P)::(nat_lit 150,Kv P)::(nat_lit 156,Ks P)::(nat_lit 157,Kj P)::(nat_lit 163,Kc P)::(nat_lit 164,Kr P)::(nat_lit 168,Kp P)::(nat_lit 169,Kf P)::(nat_lit 175,Ka P)::(nat_lit 176,Ko P)::(nat_lit 182,Kx P)::(nat_lit 183,Kb P)::(nat_lit 189,Kl P)::(nat_lit 190,Kz P)::(nat_lit 196,Kq P)::(nat_lit 197,Kg P)::(nat_lit 201,Ke P)::(nat_lit 202,Ku P)::(nat_lit 208,Km P)::(nat_lit 209,Kd P)::(nat_lit 213,Ki P)::(nat_lit 214,Kw P)::(nat_lit 220,Kt P)::(nat_lit 221,Kk P)::(nat_lit 227,KI P)::(nat_lit 228,KS P)::(nat_lit 234,K2 P)::(nat_lit 235,KL P)::(nat_lit 237,ae P)::(nat_lit 241,GZ P)::(nat_lit 242,KZ P)::(nat_lit 246,K5 P)::(nat_lit 247,KG P)::(nat_lit 253,KQ P)::(nat_lit 254,K8 P)::(nat_lit 258,KY P)::(nat_lit 259,KH P)::(nat_lit 265,KO P)::(nat_lit 266,K1 P)::(nat_lit 270,K6 P)::(nat_lit 271,KC P)::(nat_lit 275,KJ P)::(nat_lit 276,KU P)::(nat_lit 282,K3 P)::(nat_lit 283,KN P)::(nat_lit 287,KA P)::(nat_lit 288,KR P)::(nat_lit 294,K4 P)::(nat_lit 295,KE P)::(nat_lit 301,KP P)::(nat_lit 302,K7 P)::(nat_lit 308,Le P)::(nat_lit 309,Ld P)::(nat_lit 315,La P)::(nat_lit 316,Lf P)::(nat_lit 322,Lg P)::(nat_lit 323,K' P)::(nat_lit 329,Lb P)::(nat_lit 330,Lh P)::(nat_lit 334,Lj P)::(nat_lit 335,K_ P)::(nat_lit 341,Lc P)::(nat_lit 342,Li P)::[]
abbrev lamC:Nat:=241
abbrev lamT:Nat:=237
abbrev lamO:Ob:=GZ
abbrev ls:Vm:=[]
abbrev Xt:Vv->Bool:=λs=>xlAt vw [] s&&recOk (RowW.records rr.row.toRowW) s
theorem U_(w:Vx):((boot_heap w.params).isNs mainGlobals&&(#[]:Array GenState).size==0,(boot_heap w.params).objs.size,(boot_heap w.params).nsMap mainGlobals "__annotations__")=(true,11,an):=by kernel_rfl
theorem Va:opening p=plainProg p.main.scope.names:=by kernel_rfl
theorem Vb(s:Vv):fenceModules? p s=some s:=by kernel_rfl
theorem um(w:Vx):(λos=>(staticsOk (importedModules p.main.body) (boot_heap w.params) (Fx w.params)&&namesBound p (Fx w.params)&&gensDone (sZ w os)&&laidKept (boot_heap w.params) (Fx w.params)))=λ_=>true:=by kernel_rfl
theorem Vc(w:Vx):(λos=>openSeen vw ls (importedModules p.main.body) Xt true<|sZ w os)=λ_=>openGood vw ls:=by kernel_rfl
theorem Vd(w:Vx):(λos=>obsZ as0<|sZ w os)=λ_=>valZ K0 343 647 w:=by kernel_rfl
theorem left_:LeftO p vw ls Xt (obsZ as0) (valZ K0 343 647) 3594:=LeftO.of_pieces (boot_open Va rfl Vb) U_ U9 rfl λw=>funext λos=>looks_pair (Eh (um w) os)<|looks_pair (Eh (Vc w) os)<|Eh (Vd w) os
end
end H41
open PySem PySem.W PyProof.Rows
set_option maxRecDepth 100000 in
set_option maxHeartbeats 0 in
theorem PySem.Challenge.cw_oncewise_k41_where_webs_part_holds : PySem.Challenge.rw_oncewise_k41_where_webs_part.Holds := by
 w_on;refine holds_law (by unfold OpenLaw.wellSaid OpenRow.wellSaid OpenRow.partSaid looksOpen;walk_at "y";walk_at "y";walk_at "y";walk_at "y";walk_at "y";walk_at "y";all_goals decide +kernel) λJ=>?_
 refine holds_openX (q:=H41.vw) (loose:=H41.ls) (Xt:=H41.Xt) (XP:=XL H41.vw []) (Yf:=PySem.W.X.obsZ H41.as0) (Ya:=PySem.W.X.valZ H41.K0 343 647) (N:=3594) H41.left_ (λs e=>xl_of s (Bool.and_eq_true_iff.mp e).1)
  XL.keeps (by rfl) (by rfl) (by rfl) (λs e=>recFacts_of (Bool.and_eq_true_iff.mp e).2)
  (by rfl) (by decide +kernel) (by decide +kernel) ⟨rfl,rfl,rfl,rfl,rfl,by decide +kernel⟩ ?hw ?hc
 case hw=>w_witness2
 k_fill
 refine L2.walk_ofZT (l:=PySem.Challenge.rw_oncewise_k41_where_webs_part) (n:=63) (k:=174) (x:="_law_script") (CX:=L2.CX0) (sp:=L3.spTopT L3.lamQ) rfl (by decide) rfl ⟨rfl,by decide,by decide⟩ (λ_=>rfl) (by decide) ?F ?S ?C
 case F=>
  intro w r t h g G I;have T:(H41.K0 w.params).lookup H41.lamT=some (PySem.W.tabObj #[]):=by k_is
  have U:(H41.K0 w.params).lookup H41.lamC=some (H41.lamO w.params):=by k_is
  have hd:∀h:Vy,h.get? H41.lamC=some (H41.lamO w.params)->PySem.W.CodeHd h H41.lamC H41.lamT:=λh e=>⟨_,_,_,_,_,_,_,_,_,e,rfl,rfl,rfl,rfl,rfl,rfl,rfl,rfl,by decide⟩;have j:(H41.K0 w.params).lookup 4=some (PySem.W.boot_o_4 w.params):=by k_is
  have o:L3.DefInT (L2.lessK H41.lamT<|H41.K0 w.params) "_law_order" L3.s__law_order H41.lamT:=by
   refine' K41.def_inT (L2.ns_dn T ?a) (L2.lk_dn T ?l ?n) (L2.code_dn T ?c) (L2.keep_dn T ?k) ?LC
   (case a=>k_is);(case l=>k_is);(case n=>(intro e;cases e));(case c=>k_is);(case k=>k_is)
   refine'⟨⟨H41.lamC,_,rfl,L2.lk_dn T U ?m,hd⟩,⟨4,_,L2.ns_dn T ?b,by decide,by decide,L2.lk_dn T j ?p,rfl,rfl,rfl⟩⟩
   (case m=>(intro e;cases e));(case b=>k_is);(case p=>(intro e;cases e))
  refine⟨H41.lamT,⟨T,⟨H41.lamC,λh X=>hd h<|X _ _ U⟩,by decide⟩,?_⟩;refine' K41.all_mk (K:=L2.lessK H41.lamT<|H41.K0 w.params) (L2.lessK_in g) G I ?D0 ?D1 ?D2 ?D3 ?D4 ?D5 ?D6 ?D7 ?D8 ?D9 ?D10 ?D11 ?D12 ?D13 ?D14 ?D15 ?D16 ?D17 ?D18 ?D19 ?D20 ?D21 ?D22 ?D23 ?D24 ?D25 ?D26 ?D27 ?D28 ?D29 ?D30 ?D31 ?D32 ?D33 ?D34 ?D35 ?D36 ?D37 ?D38 ?D39 ?D40 ?D41 ?D42 ?D43 ?D44 ?D45 ?D46 ?D47 ?D48 ?aLEAF_KINDS ?lLEAF_KINDS ?aCPieces ?clPieces ?mAPieces ?mKPieces ?xf ?zlist ?zrange ?zenumerate ?zlen ?zisinstance ?ztuple ?zsorted ?zmax ?zmin ?zint ?zbool ?zstr
  (case aCPieces=>(refine' L2.ns_dn T ?_;k_is))
  (case D0|D1|D2=>refine' L3.meth_in ((L2.find_dn T).trans ?a) (L2.lk_dn T ?l ?n) (L2.code_dn T ?c) (L2.keep_dn T ?k)<|L2.isFn_dn T ?i;(case a=>k_is);(case l=>k_is);(case n=>(intro e;cases e));(case c=>k_is);(case k=>k_is);(case i=>k_is))
  (case D3|D4|D5|D6|D7|D8|D9|D10|D11|D12|D13|D14|D15|D16|D17|D18|D19|D20|D21|D22|D23|D24|D25|D26|D27|D28|D29|D30|D31|D33|D34|D35|D36|D37|D38|D39|D40|D41|D42|D43|D44|D45|D46|D47|D48=>refine' L2.def_in (L2.ns_dn T ?a) (L2.lk_dn T ?l ?n) (L2.code_dn T ?c)<|L2.keep_dn T ?k;(case a=>k_is);(case l=>k_is);(case n=>(intro e;cases e));(case c=>k_is);(case k=>k_is))
  (case D32=>exact o)
  (case aLEAF_KINDS=>(refine' L2.ns_dn T ?_;k_is))
  (case lLEAF_KINDS=>(refine' L2.lk_dn T ?x ?n;(case x=>k_is);(case n=>(intro e;cases e))))
  (case clPieces=>refine' L2.Cls.dn T ?_;refine' L2.Cls.mk ?pg ?hd ?po ?sa;(case pg=>k_is);(case hd=>k_is);(case po=>k_is);(case sa=>k_is))
  (case mAPieces=>(refine' L2.makes_dn T ?_;k_is))
  (case mKPieces=>(refine' L2.keep_dn T ?_;k_is))
  (case xf=>(refine' L3.XFP.dn T ?_;(refine' L3.XFP.mk ?cl ?na;(case cl=>(refine' L2.Cls.mk ?pg ?hd ?po ?sa;(case pg=>k_is);(case hd=>k_is);(case po=>k_is);(case sa=>k_is)));(case na=>(unfold L2.NoAttr;k_is)))))
  (case zlist|zrange|zenumerate|zlen|zisinstance|ztuple|zsorted|zmax|zmin|zint|zbool|zstr=>(refine' L2.ns_dn T ?_;k_is))
 case S=>exact L3.top_startT
 case C=>exactλ_ _ _ _ z=>z
#print axioms PySem.Challenge.cw_oncewise_k41_where_webs_part_holds
