import PyProof.Rows.All
import Wide.All
import OpenK.AllK
import Wide.FinOn
import Lean
import PyProof.EqAt
import PyProof.EqKinds
import PyProof.TupleCall
import PyProof.NeKinds
import PySem.Challenge.RW_oncewise_k43_the_tree_told_back
import OpenK.ZGo
set_option genSizeOf false
set_option genInjectivity false
set_option bootstrap.genMatcherCode false
set_option compiler.extract_closed false
set_option hygiene false
local macro_rules|`(tactic| walk_at "t")=>`(tactic| (first|assumption|exact Nat.succ_pos _|exact z8.tk (by assumption)|exact Nat.lt_of_lt_of_le (z8.tk (by assumption)) (Nat.le_add_right _ _)|exact Nat.lt_of_lt_of_le (z8.tk (by assumption)) (by assumption)))
set_option hygiene true
local macro_rules|`(tactic| walk_at "w")=>`(tactic| conv=>whnf)
local macro_rules|`(tactic| walk_at "y")=>`(tactic| ((refine PySem.W.look_both ?_ ?_);(refine PySem.W.look_both ?_ ?_);(refine PySem.W.look_both ?_ ?_);(refine PySem.W.look_both ?_ ?_);(refine PySem.W.look_both ?_ ?_);(refine PySem.W.look_both ?_ ?_)))
set_option Elab.async false
set_option linter.all false
set_option maxRecDepth 100000
abbrev Aa:=@List.length_append
abbrev Ab:=@PyProof.Rows.wpS_bind
abbrev Ac:=@List.mem_append_right
abbrev Ad:=@PySem.wpAny_bind
abbrev Ae:=@List.mem_cons_of_mem
abbrev Af:=@PyProof.Rows.wpS_pure
abbrev Ag:=@List.mem_cons_self
abbrev Ah:=@List.length_map
abbrev Ai:=@PySem.W.Frag
abbrev Aj:=@List.mem_singleton
abbrev Ak:=@List.mem_append
abbrev Al:=@List.mem_append_left
abbrev Am:=@List.mem_cons
abbrev An:=@Nat.le_refl
abbrev Ao:=@List.getElem?_eq_getElem
abbrev Ap:=@PySem.wpAny_pure
abbrev Aq:=@List.size_toArray
abbrev Ar:=@if_neg
abbrev Au:=@List.getElem?_map
abbrev Av:=@List.append_nil
abbrev Aw:=@if_pos
abbrev Ax:=@decide_eq_true
abbrev Ay:=@List.mem_flatMap
abbrev Az:=@List.length_cons
abbrev AA:=@List.append_assoc
abbrev AB:=@decide_eq_false
abbrev AC:=@List.nodup_cons
abbrev AD:=@List.getElem?_append_left
abbrev AE:=@List.nodup_append
abbrev AF:=@List.mem_of_getElem?
abbrev AG:=@List.map_append
abbrev AH:=@Bool.false_ne_true
abbrev AI:=@Option.map_eq_some_iff
abbrev AJ:=@List.flatMap_append
abbrev AK:=@List.getElem?_append_right
abbrev AL:=@Nat.le_trans
abbrev AM:=@PyProof.Rows.wpS_forRange
abbrev AN:=@List.mem_filter
abbrev AO:=@List.map_cons
abbrev AQ:=@Ne.symm
abbrev AR:=@List.flatMap_cons
abbrev AS:=@Nat.lt_of_lt_of_le
abbrev AU:=@Bool.and_eq_true
abbrev AV:=@List.pairwise_append
abbrev AW:=@List.lookup_cons
abbrev AX:=@PyProof.Rows.wpS_mono
abbrev AY:=@Option.some.inj
abbrev AZ:=@List.mem_range
abbrev A1:=@List.getElem?_eq_some_iff
abbrev A2:=@Nat.zero_le
abbrev A3:=@List.take_append_drop
abbrev A4:=@PySem.wpAny_mono
abbrev A5:=@List.length_take
abbrev A6:=@Nat.ne_of_lt
abbrev A7:=@Array.length_toList
abbrev A8:=@Int.natCast_nonneg
abbrev A9:=@List.perm_ext_iff_of_nodup
abbrev Ba:=@List.length_range
abbrev Bb:=@List.take_of_length_le
abbrev Bc:=@List.length_singleton
abbrev Bd:=@List.length_filter_le
abbrev Be:=@List.countP_eq_length_filter
abbrev Bf:=@Array.toList_append
abbrev Bg:=@Nat.le_add_right
abbrev Bh:=@Array.getElem?_toList
abbrev Bi:=@List.take_length
abbrev Bj:=@Nat.add_sub_cancel_left
abbrev Bk:=@List.take_succ
abbrev Bl:=@PySem.wpAny_holding
abbrev Bm:=@List.mem_map
abbrev Bn:=@List.countP_cons
abbrev Bo:=@List.not_mem_nil
abbrev Bp:=@List.filter_append
abbrev Bq:=@PySem.W.mg_none_of
abbrev Br:=@Nat.lt_succ_self
abbrev Bt:=@List.length_set
abbrev Bu:=@Array.size_push
abbrev Bv:=@List.getElem?_set_ne
abbrev Bw:=@Nat.lt_of_le_of_lt
abbrev Bx:=@PySem.W.kia_one
abbrev Bz:=@List.find?_cons
abbrev BA:=@List.getD_eq_getElem?_getD
abbrev BB:=@List.perm_append_right_iff
abbrev BC:=@List.mem_of_mem_take
abbrev BD:=@List.eq_nil_of_length_eq_zero
abbrev BE:=@List.perm_append_left_iff
abbrev BF:=@List.perm_middle
abbrev BG:=@List.nodup_range
abbrev BH:=@List.filter_cons
abbrev BI:=@PySem.mem_of_lookup
abbrev BJ:=@Nat.le_of_lt
abbrev BK:=@List.getElem_take
abbrev BL:=@List.append_of_mem
abbrev BM:=@Int.le_of_lt
abbrev BN:=@List.getElem_of_mem
abbrev BO:=@List.perm_append_comm
abbrev BP:=@Int.le_trans
abbrev BQ:=@PySem.wpAny_newObj_type
abbrev BR:=@List.length_drop
abbrev BS:=@congrArg
abbrev BU:=@Array.size_append
abbrev BV:=@List.pairwise_map
abbrev BW:=@List.countP_congr
abbrev BX:=@List.getElem?_range
abbrev BY:=@List.drop_eq_getElem_cons
abbrev BZ:=@PySem.wpAny_rule
abbrev B0:=@Nat.le_succ_of_le
abbrev B1:=@Nat.exists_eq_add_of_le
abbrev B3:=@List.getElem?_set_self
abbrev B4:=@List.map_map
abbrev B5:=@Int.zero_add
abbrev B6:=@Bool.false_eq_true
abbrev B7:=@List.perm_append_singleton
abbrev B8:=@decide_eq_true_iff
abbrev B9:=@List.length_replicate
abbrev Cc:=@List.singleton_append
abbrev Cd:=@List.countP_eq_length
abbrev Ce:=@Nat.succ_pos
abbrev Cg:=@Int.toNat_natCast
abbrev Ci:=@Nat.lt_or_ge
abbrev Cj:=@Nat.lt_succ_of_lt
abbrev Ck:=@List.any_cons
abbrev Cm:=@List.Perm.eq_of_pairwise
abbrev Cn:=@PyProof.Rows.slot_tuple_getitem
abbrev Co:=@List.mem_map_of_mem
abbrev Cp:=@List.getElem?_replicate
abbrev Cq:=@List.getElem_mem
abbrev Cr:=@Int.mul_le_mul_of_nonneg_right
abbrev Cs:=@List.flatMap_map
abbrev Ct:=@Nat.le_succ
abbrev Cu:=@List.length_pos_of_mem
abbrev Cv:=@List.getElem_cons_drop
abbrev Cw:=@List.filter_nil
abbrev Cy:=@Nat.min_eq_left
abbrev Cz:=@Nat.lt_irrefl
abbrev CA:=@PySem.W.mg_of
abbrev CB:=@List.getElem?_eq_none
abbrev CC:=@Nat.le_of_ble_eq_true
abbrev CD:=@Nat.sub_eq_zero_of_le
abbrev CF:=@PyProof.Rows.callWith_type1
abbrev CG:=@Option.isSome_map
abbrev CH:=@List.mem_of_mem_drop
abbrev CK:=@Array.toList_reverse
abbrev CL:=@Nat.le_sub_one_of_lt
abbrev CM:=@List.Perm.refl
abbrev CN:=@List.Pairwise.filter
abbrev CO:=@List.all_eq_true
abbrev CP:=@Nat.zero_add
abbrev CQ:=@List.flatMap_nil
abbrev CS:=@List.pairwise_iff_getElem
abbrev CU:=@List.sublist_append_right
abbrev CV:=@List.reverse_append
abbrev CW:=@Int.ofNat_inj
abbrev CY:=@List.length_nil
abbrev CZ:=@List.nil_append
abbrev C0:=@Nat.le_add_left
abbrev C1:=@Array.size_extract
abbrev C2:=@List.getElem?_cons_succ
abbrev C3:=@List.length_eraseIdx_le
abbrev C4:=@Int.le_refl
abbrev C5:=@Nat.lt_add_of_pos_right
abbrev C6:=@List.eraseIdx_cons_succ
abbrev C7:=@List.map_nil
abbrev C8:=@Array.toList_push
abbrev C9:=@List.length_take_of_le
abbrev Dc:=@List.mem_range'_1
abbrev Dd:=@List.Sublist.refl
abbrev De:=@Nat.succ_le_succ
abbrev Df:=@Nat.max_eq_right
abbrev Dg:=@Bool.true_and
abbrev Dh:=@List.take_append_of_le_length
abbrev Di:=@List.getElem?_of_mem
abbrev Dj:=@List.of_mem_zip
abbrev Dk:=@Nat.max_eq_left
abbrev Dl:=@List.length_zip
abbrev Dm:=@List.filterMap_cons
abbrev Dn:=@PySem.W.plainGet_of
abbrev Do:=@List.length_reverse
abbrev Dp:=@List.perm_iff_count
abbrev Dq:=@Nat.sub_self
abbrev Dr:=@PySem.W.callWith_K
abbrev Ds:=@Nat.lt_or_eq_of_le
abbrev Dt:=@List.zip_cons_cons
abbrev Dv:=@List.nodup_nil
abbrev Dw:=@Int.emod_lt_of_pos
abbrev Dx:=@List.countP_append
abbrev Dy:=@List.countP_filter
abbrev Dz:=@PySem.F.slot_dict_getitem
abbrev DA:=@PySem.W.kitx_list
abbrev DB:=@List.take_sublist
abbrev DC:=@List.getElem_drop
abbrev DD:=@List.ext_getElem?
abbrev DE:=@List.reverse_perm
abbrev DF:=@List.nodup_range'
abbrev DG:=@List.count_append
abbrev DJ:=@List.all_cons
abbrev DK:=@List.getElem_append_left
abbrev DL:=@List.Pairwise.imp_of_mem
abbrev DM:=@List.sublist_append_left
abbrev DO:=@List.range'_succ
abbrev DS:=@congrFun
abbrev DU:=@Nat.ne_of_gt
abbrev DV:=@Nat.le_of_eq
abbrev DY:=@Nat.add_comm
abbrev Ec:=@Int.ofNat_lt
abbrev Ed:=@Bool.eq_iff_iff
abbrev Ee:=@List.forIn_cons
abbrev Ef:=@Bool.or_eq_true
abbrev Eg:=@List.Perm.of_eq
abbrev Eh:=@beq_false_of_ne
abbrev Ei:=@List.range_succ
abbrev Ej:=@Int.emod_nonneg
abbrev Ek:=@List.count_cons
abbrev El:=@Prod.ext
abbrev Em:=@List.drop_zero
abbrev Eo:=@Int.add_mul
abbrev Ep:=@List.count_nil
abbrev Er:=@Iff.rfl
abbrev Es:=@Nat.add_assoc
abbrev Et:=@List.cons.inj
abbrev Eu:=@List.sum_cons
abbrev Ew:=@Nat.not_lt
abbrev t7:=@PySem.Heap.get?_push_of_some
abbrev u1:=@PySem.Heap.lt_size
abbrev u2:=@PySem.PassesOwn.never
abbrev vb:=@PySem.Heap.get?_push_size
abbrev vc:=@PySem.Heap.SameBut.update
abbrev wh:=@PySem.MeetsSeq.plain_remove_loop
abbrev xb:=@PySem.Calls.spliced_cons
abbrev xA:=@Classical.byContradiction
abbrev xB:=@PySem.Calls.spliced_nil
abbrev W3:=PySem.Value->PySem.Shared->Prop
abbrev W4:=Unit->PySem.Shared->Prop
abbrev W5:=PySem.Str->Option PySem.Value
abbrev W6:=List<|Nat×Nat
abbrev W7:=List (Nat×Nat)
abbrev W8:=List PySem.Value
abbrev W9:=Array PySem.Value
abbrev Xa:=List Nat
abbrev Xb:=List PySem.Str
abbrev Xc:=List PySem.Expr
abbrev Xd:=List PySem.Stmt
abbrev Xe:=List Int
abbrev Xf:=Option PySem.Value
abbrev Xg:=Option Int
abbrev Xh:=Nat->Nat
abbrev Xi:=Nat×Nat
abbrev Xj:=PySem.Value
abbrev Xk:=PySem.Shared
abbrev Xl:=PySem.Program
abbrev Xm:=PySem.World
abbrev Xn:=PySem.Heap
abbrev Xo:=String
noncomputable section
namespace L2
open PySem PyProof.Rows
theorem kG{M:Model}{U:Ctx}{p:Pos}{t:Sem Fin}{fs:List Frame}{s s':Xk}{e:End}(h:Runs M U p t fs s e s'):s.toks<=s'.toks:=by induction h with|fresh _ g=>exact AL (Ct _) g|call _ _ I J=>exact AL I J|resumeFresh _ _ _ _ I J=>exact AL I J|resumeSuspended _ _ _ _ I J=>exact AL I J|segRet _ _ I J=>exact AL I J|segGen _ _ I J=>exact AL I J|segSuspGen _ _ _ _ I J=>exact AL I J|_=>first|exact An _|assumption
theorem xS{M:Model}{J:Ctx}{p:Pos}{g:Nat}{r:Resume}{s s':Xk}{res:GenResult}(h:Wakes M J p g r s res s'):s.toks<=s'.toks:=by
 unfold Wakes at h;split at h
 ·exact h.elim
 ·split at h
  ·obtain⟨e,U,I,_,_,rfl⟩:=h;have q:=kG I;exact q
  ·obtain⟨_,rfl⟩:=h;exact An _
  ·obtain⟨_,rfl⟩:=h;exact An _
 ·obtain⟨e,U,I,_,_,rfl⟩:=h;have q:=kG I;exact q
 ·obtain⟨_,rfl⟩:=h;exact An _
 ·obtain⟨_,rfl⟩:=h;exact An _
theorem MQ{α:Type}{M:Model}{T:Ctx}(t:Sem α):∀{Q:α->Pos->Xk->Prop} {E:Xj->Pos->Xk->Prop} {p:Pos} {s:Xk} (n:Nat),n<=s.toks->Sem.wp M T t Q E p s->Sem.wp M T t (λa C s'=>Q a C s'/\n<=s'.toks) (λe C s'=>E e C s'/\n<=s'.toks) p s:=by induction t with|pure a=>intro Q E p s n I h;exact⟨h,I⟩|raise e=>intro Q E p s n I h;exact⟨h,I⟩|load a part k J=>rintro Q E p s n I ⟨o,U,j⟩;exact⟨o,U,J o n I j⟩|update a part f k J=>rintro Q E p s n I ⟨U,j⟩;exact⟨U,J () n I j⟩|fresh k J=>intro Q E p s n I h;exact J s.toks n (AL I<|Ct _) h|choose a0 m k J=>rintro Q E p s n I ⟨U,j⟩;exact⟨U,J _ n I j⟩|call c hd g l k J=>rintro Q E p s n I ⟨r,s',U,j⟩;exact⟨r,s',U,J r n (AL I<|kG U) j⟩|genState g k J=>rintro Q E p s n I ⟨st,U,j⟩;exact⟨st,U,J _ n I j⟩|resume g r l k J=>rintro Q E p s n I ⟨res,s',U,j⟩;exact⟨res,s',U,J _ n (AL I<|xS U) j⟩|rule tag k J=>intro Q E p s n I h;exact J () n I h|«at» pos k J=>intro Q E p s n I h;exact J () n I h|alloc o k J=>intro Q E p s n I h;exact J _ n I h|loadIfAlive a k J=>intro Q E p s n I h;exact J _ n I h|point l k J=>intro Q E p s n I h;exact J _ n I h|ask k J=>intro Q E p s n I h;exact J _ n I h|os q l k J=>intro Q E p s n I h;exact J _ n I h|handled own k J=>intro Q E p s n I h;exact J _ n I h|newGen c k J=>intro Q E p s n I h;exact J _ n I h|stack k J=>intro Q E p s n I h;exact J _ n I h|thread k J=>intro Q E p s n I h;exact J _ n I h|unsupported w=>intro Q E p s n I h;exact h.elim|finish e=>intro Q E p s n I h;exact h.elim|register a k J=>intro Q E p s n I h;exact h.elim|yield v g l k J=>intro Q E p s n I h;exact h.elim|fork c k J=>intro Q E p s n I h;exact h.elim|await a f d l k J=>intro Q E p s n I h;exact h.elim
theorem vT{α:Type}{M:Model}{A:Around}{t:Sem α}{Q:α->Xk->Prop}{E:W3}{s:Xk}(h:wpAny M A t Q E s):wpAny M A t (λa s'=>Q a s'/\s.toks<=s'.toks) (λe s'=>E e s'/\s.toks<=s'.toks) s:=
 λJ p I=>MQ t s.toks (An _)<|h J p I
theorem jq{α:Type}{M:Model}{A:Around}{t:Sem α}{Q:α->Xk->Prop}{E:W3}{s:Xk}(hp:0<s.toks)(h:wpAny M A t (λa s'=>0<s'.toks->Q a s') (λe s'=>0<s'.toks->E e s') s):wpAny M A t Q E s:=
 A4 (vT h) (λ_ _ z=>z.1<|AS hp z.2) λ_ _ z=>z.1<|AS hp z.2
end L2
variable {M:PySem.Model}{i j kt m n na p q t' x1:Nat}{C Pt c' d dx f fa hp ka l pa pb t:PySem.Addr}{s s':PySem.Shared}{c e ml iter o target tg value:PySem.Expr}{α β κ:Type}{A:PySem.Around}{E Q:PySem.Value->PySem.Shared->Prop}{eK us vs:List PySem.Value}{fm ir oc pm u:PySem.Value}{base h h':PySem.Heap}{ch fp:List PySem.Addr}{kx name px eH x:PySem.Str}{pins:List<|PySem.Addr×PySem.Obj}{apos fx pR p1 p2 p3 p4 p5 pos hQ tp:PySem.Pos}{st:PySem.Stmt}{mx es lm:List PySem.Expr}{body:List PySem.Stmt}{R:Nat->Nat->Prop}{B lo:Int}{mA mg:PySem.Str->Option PySem.Value}{kw:List<|PySem.Str×PySem.Value}{env:PySem.Env}{fd:PySem.FuncData}{ps:List PySem.Str}{fy scope:PySem.Scope}{ct ct' lk qy:W6}{an od:Option PySem.Addr}{mD:Array<|Option PySem.Value}{hs hs' qs:Xa}{rk:Xh}{rks:Xe}
namespace L2
open PySem PySem.Spec PyProof.Rows
abbrev zv:=Sum Int Str
abbrev Xr:=List zv
def m7:zv->Xj->Bool
 |.inl k,v=>Value.isInt k v
 |.inr x,v=>Value.isStrOf x v
def MT(w:Xm):zv->Int
 |.inl k=>hashInt k
 |.inr x=>hashStr w x
theorem ve:∀{k:zv} {v:Xj},m7 k v=true->(∃i t,k=Sum.inl i/\v=Value.int i t)\/(∃x t,k=Sum.inr x/\v=Value.str x t)
 |.inl i,v,h=>by obtain⟨t,e⟩:=Value.isInt_shape (k:=i) (v:=v) h;exact .inl ⟨i,t,rfl,e⟩
 |.inr x,v,h=>by obtain⟨t,e⟩:=Value.isStrOf_shape (x:=x) (v:=v) h;exact .inr ⟨x,t,rfl,e⟩
theorem MU(i:Int)(t:Tok):m7 (.inl i) (.int i t)=true:=by simp[m7,Value.isInt]
theorem MV(x:Str)(t:Tok):m7 (.inr x) (.str x t)=true:=by simp[m7,Value.isStrOf]
theorem MW(a b:Int):decide ((Sum.inl a:zv)=Sum.inl b)=(a==b):=by
 by_cases e:a=b
 ·subst e;simp
 ·have h:¬(Sum.inl a:zv)=Sum.inl b:=λq=>e<|Sum.inl.inj q;rw[AB h];exact(beq_eq_false_iff_ne.mpr e).symm
theorem MX(a b:Str):decide ((Sum.inr a:zv)=Sum.inr b)=decide (a=b):=by
 by_cases e:a=b
 ·subst e;simp
 ·have h:¬(Sum.inr a:zv)=Sum.inr b:=λq=>e<|Sum.inr.inj q;rw[AB h,AB e]
theorem MY(a:Int)(b:Str):decide ((Sum.inl a:zv)=Sum.inr b)=false:=AB λq=>nomatch q
theorem MZ(a:Str)(b:Int):decide ((Sum.inr a:zv)=Sum.inl b)=false:=AB λq=>nomatch q
def xq(prog:Xl)(w:Xm):PySem.KeyKind prog w zv where
 is:=m7
 hash:=MT w
 inj:=λv a b g U=>by
  rcases ve g with⟨i,t,rfl,rfl⟩|⟨x,t,rfl,rfl⟩
  ·rcases ve U with⟨j,u,rfl,e⟩|⟨y,u,rfl,e⟩
   ·injection e with I _;rw[I]
   ·exact nomatch e
  ·rcases ve U with⟨j,u,rfl,e⟩|⟨y,u,rfl,e⟩
   ·exact nomatch e
   ·injection e with I _;rw[I]
 byValue:=λk v h=>by rcases ve h with⟨i,t,rfl,rfl⟩|⟨x,t,rfl,rfl⟩<;>rfl
 pyHash:=λJ h=>by
  rcases ve J with⟨i,t,rfl,rfl⟩|⟨x,t,rfl,rfl⟩
  ·exact wpAny_pyHash_int h
  ·exact wpAny_pyHash_str h
 eqBool:=λl J h=>by
  rcases ve l with⟨i,t,rfl,rfl⟩|⟨x,t,rfl,rfl⟩
  ·rcases ve J with⟨j,u,rfl,rfl⟩|⟨y,u,rfl,rfl⟩
   ·rw[MW] at h;exact wpAny_eqBool_int h
   ·rw[MY] at h;exact SeqAt.EqAt.int_str i t y u _ _ _ _ h
  ·rcases ve J with⟨j,u,rfl,rfl⟩|⟨y,u,rfl,rfl⟩
   ·rw[MZ] at h;exact SeqAt.EqAt.str_int x t j u _ _ _ _ h
   ·rw[MX] at h;exact wpAny_eqBool_str h
 «strs» := λk x t v h=>by
  rcases ve h with⟨i,u,rfl,e⟩|⟨y,u,rfl,e⟩
  ·exact nomatch e
  ·injection e with I _
   subst I;cases v<;>rfl
theorem ut(prog:Xl)(w:Xm)(i:Int)(t:Tok):(xq prog w).is (.inl i) (.int i t)=true:=MU i t
theorem tZ(prog:Xl)(w:Xm)(x:Str)(t:Tok):(xq prog w).is (.inr x) (.str x t)=true:=MV x t
set_option genInjectivity true in
inductive V where
 |non|bl (b:Bool)|int (i:Int)|str (x:Str)|byt (b:Array UInt8)|flt (b:UInt64)|ref (a:Addr)|ty (n:Xo)
 deriving DecidableEq
abbrev Xq:=Option V
abbrev Xp:=List V
def zq:V->Xj->Prop
 |.non,u=>u=Value.none
 |.bl b,u=>u=Value.bool b
 |.int i,u=>∃t,u=Value.int i t
 |.str x,u=>∃t,u=Value.str x t
 |.byt b,u=>∃t,u=Value.bytes b t
 |.flt b,u=>∃t,u=Value.float b t
 |.ref a,u=>u=Value.ref a
 |.ty n,u=>u=Value.type n
abbrev zn:Xp->W8->Prop:=Paired zq
theorem zn.length{xs:Xp}(r:zn xs us):xs.length=us.length:=Paired.length r
theorem zn.get:∀{xs:Xp} {us:W8} {i:Nat} {x:V},zn xs us->xs[i]?=some x->∃u,us[i]?=some u/\zq x u
 |_,_,_,_,.nil,e=>by simp at e
 |_,_,0,_,.cons r _,e=>by simp at e;subst e;exact⟨_,rfl,r⟩
 |_,_,i+1,x,.cons _ t,e=>by obtain⟨u,I,J⟩:=zn.get (i:=i) (x:=x) t (by simpa using e);exact⟨u,by simpa using I,J⟩
theorem zn.set{x:V}{u:Xj}(r:zq x u):∀{xs:Xp} {us:W8} (i:Nat),zn xs us->zn (xs.set i x) (us.set i u)
 |_,_,_,.nil=>.nil
 |_,_,0,.cons _ t=>.cons r t
 |_,_,i+1,.cons q t=>.cons q<|zn.set r i t
theorem zn.append:∀{xs ys:Xp} {us I:W8},zn xs us->zn ys I->zn (xs++ys) (us++I):=by
 intro xs ys us I h s
 induction h with|nil=>exact s|cons r t J=>exact .cons r J
theorem zn.take:∀{xs:Xp} {us:W8} (n:Nat),zn xs us->zn (xs.take n) (us.take n)
 |_,_,0,_=>.nil
 |_,_,_+1,.nil=>.nil
 |_,_,n+1,.cons r t=>.cons r<|zn.take n t
theorem zn.drop:∀{xs:Xp} {us:W8} (n:Nat),zn xs us->zn (xs.drop n) (us.drop n)
 |_,_,0,r=>r
 |_,_,_+1,.nil=>.nil
 |_,_,n+1,.cons _ t=>zn.drop n t
def dm:Xq->Xf->Prop
 |some v,some u=>zq v u
 |none,none=>True
 |_,_=>False
def KV :List (κ×V)->List (κ×Xj)->Prop:=Paired λ(p:κ×V) (q:κ×Xj)=>p.1=q.1/\zq p.2 q.2
def kV:zv->V
 |.inl i=>.int i
 |.inr x=>.str x
inductive HO where
 |lst (xs:Xp)
 |tup (xs:Xp)
 |dK (kvs:List<|zv×V)|dT (kvs:List<|Xr×V)
 |set (S:Int->Bool) (n:Nat)
 |ins (C dx:Addr) (fs:List<|Str×V)
 |own (x:Addr)
 |xd (fs:List<|Str×V)
 |met (f x:Addr)
 |rng (lo hi:Int)
 |frz (o:Obj) (u:HO)
 |tbl (ps:W9)
 |ext (φ:Xn->Prop)
abbrev Hp:=Addr->Option HO
def upd(H:Hp)(a:Addr)(o:HO):Hp:=λb=>if b=a then some o else H b
theorem zu{H:Hp}{a:Addr}{o:HO}:upd H a o a=some o:=by unfold upd;rw[Aw rfl]
theorem qu{H:Hp}{a b:Addr}{o:HO}(h:b≠a):upd H a o b=H b:=by unfold upd;rw[Ar h]
theorem M5{H:Hp}{a:Addr}{o u:HO}:upd (upd H a o) a u=upd H a u:=by funext b;unfold upd;split<;>rfl
theorem M6{H:Hp}{a b:Addr}{o u:HO}(h:H a=some o)(h':H b=some u)(d:o≠u):a≠b:=by intro e;subst e;rw[h] at h';exact d<|AY h'
theorem zy{H:Hp}{a b:Addr}{o:HO}(h:H a=some o)(h':H b=none):a≠b:=by intro e;subst e;rw[h] at h';cases h'
section
variable (P:Xl)(w:Xm)
def vd(H:Hp)(h:Xn)(a:Addr):HO->Prop
 |.lst xs=>xs.length<=sizeLine/\∃(eK:W8) (n:Nat),zn xs eK/\h.get? a=some { cls:=.type "list",data:=.seq eK.toArray n }
 |.tup xs=>xs.length<=sizeLine/\∃eK:W8,zn xs eK/\IsTup h a eK.toArray
 |.dK kvs=>kvs.length<=sizeLine/\(a==sysModules)=false/\∃vs,KV kvs vs/\h.DictOf (xq P w) a vs
 |.dT kvs=>kvs.length<=sizeLine/\(a==sysModules)=false/\∃xs:List (Xr×Addr×Xj),
  Paired (λ(p:Xr×V) (q:Xr×Addr×Xj)=>p.1=q.1/\H q.2.1=some (.tup<|p.1.map kV)/\zq p.2 q.2.2) kvs xs/\
  ∃o es J,h.get? a=some o/\o.ExactDict/\o.data=.dict es J/\es.toList=xs.map (entryOfKey<|tupleKind<|xq P w)/\(xs.map (·.1)).Nodup
 |.set S n=>h.SetOf (intKind P w) a S n
 |.ins C dx fs=>H dx=some (.own a)/\fs.length<=1000/\dx≠a/\h.get? a=some (PySem.W.instObj C dx)/\
  ∃mA,h.Ns1 dx mA/\(∀f,dm (fs.lookup f)<|mA f)/\PySem.Within mA (fs.map (·.1))
 |.own _=>∃o,h.get? a=some o
 |.xd fs=>∃mA,h.Ns1 a mA/\∀f,dm (fs.lookup f)<|mA f
 |.rng lo hi=>∃t u v,h.get? a=some { cls:=.type "range",data:=.fields #[.int lo t,.int hi u,.int 1 v] }
 |.frz o u=>h.get? a=some o/\vd H h a u
 |.tbl ps=>h.get? a=some { cls:=.none,data:=.fields ps }
 |.met f x=>h.get? a=some (PySem.W.methodObj (.ref f)<|.ref x)
 |.ext I=>I h/\(∃o,h.get? a=some o)/\∀h1 h2:Xn,I h1->(∀o,h1.get? a=some o->h2.get? a=some o)->I h2
def g8(H:Hp)(h:Xn):Prop:=∀a o,H a=some o->vd P w H h a o
end
section
variable {P:Xl}{w:Xm}{H H':Hp}{a:Addr}{o:HO}
theorem vd.lt(x:vd P w H h a o):a<h.objs.size:=by
 cases o with
 |lst J=>obtain⟨_,_,_,_,e⟩:=x;exact u1 e
 |tup J=>obtain⟨_,_,_,p⟩:=x;exact p.lt
 |dK I=>obtain⟨_,_,_,_,o,_,_,e,_⟩:=x;exact u1 e
 |dT I=>obtain⟨_,_,_,_,o,_,_,e,_⟩:=x;exact u1 e
 |set S n=>obtain⟨o,_,_,_,e,_⟩:=x;exact u1 e
 |ins C U fs=>obtain⟨_,_,_,e,_⟩:=x;exact u1 e
 |own y=>obtain⟨_,e⟩:=x;exact u1 e
 |xd fs=>obtain⟨_,⟨_,_,_,e,_⟩,_⟩:=x;exact u1 e
 |rng lo g=>obtain⟨_,_,_,e⟩:=x;exact u1 e
 |frz j u=>obtain⟨e,_⟩:=x;exact u1 e
 |tbl l=>exact u1<|show h.get? a=some _ from x
 |met f y=>exact u1<|show h.get? a=some _ from x
 |ext r=>obtain⟨_,⟨_,e⟩,_⟩:=x;exact u1 e
theorem Paired.mapP{F G:α->β->Prop}:∀{l₁:List α} {l₂:List β},Paired F l₁ l₂->(∀a b,F a b->G a b)->Paired G l₁ l₂:=by
 intro l₁ l₂ h f
 induction h with|nil=>exact .nil|cons r t I=>exact .cons (f _ _ r) I
abbrev EF:=@Paired.mapP
theorem vd.stay(x:vd P w H h a o)(k:∀b u,(b=a\/H b=some (.own a))->h.get? b=some u->h'.get? b=some u)
 (ho:∀b,H b=some (.own a)->H' b=some (.own a)) (ht:∀b xs,H b=some (.tup xs)->H' b=some (.tup xs)):vd P w H' h' a o:=by
 induction o with
 |lst xs=>obtain⟨z,g,n,r,e⟩:=x;exact⟨z,g,n,r,k _ _ (.inl rfl) e⟩
 |tup xs=>obtain⟨z,g,r,I,e,c⟩:=x;exact⟨z,g,r,I,k _ _ (.inl rfl) e,c⟩
 |dK j=>obtain⟨z,y,vs,r,I,J,U,e,c⟩:=x;exact⟨z,y,vs,r,I,J,U,k _ _ (.inl rfl) e,c⟩
 |dT j=>
  obtain⟨z,y,xs,r,I,J,U,e,c⟩:=x;exact⟨z,y,xs,EF r λp q z=>⟨z.1,ht _ _ z.2.1,z.2.2⟩,I,J,U,k _ _ (.inl rfl) e,c⟩
 |set S n=>obtain⟨I,J,U,t,e,c⟩:=x;exact⟨I,J,U,t,k _ _ (.inl rfl) e,c⟩
 |ins C dx fs=>
  obtain⟨d,z,ne,e,l,⟨T,J,U,e2,c⟩,r⟩:=x;exact⟨ho _ d,z,ne,k _ _ (.inl rfl) e,l,⟨T,J,U,k _ _ (.inr d) e2,c⟩,r⟩
 |own y=>obtain⟨I,e⟩:=x;exact⟨I,k _ _ (.inl rfl) e⟩
 |xd fs=>obtain⟨l,⟨T,J,U,e,c⟩,r⟩:=x;exact⟨l,⟨T,J,U,k _ _ (.inl rfl) e,c⟩,r⟩
 |rng lo hi=>obtain⟨t,u,v,e⟩:=x;exact⟨t,u,v,k _ _ (.inl rfl) e⟩
 |frz I u ih=>obtain⟨e,q⟩:=x;exact⟨k _ _ (.inl rfl) e,ih q⟩
 |tbl ps=>
  have e:h.get? a=some { cls:=.none,data:=.fields ps }:=x;show h'.get? a=some { cls:=.none,data:=.fields ps };exact k a _ (.inl rfl) e
 |met f y=>
  have e:h.get? a=some (PySem.W.methodObj (.ref f)<|.ref y):=x;show h'.get? a=some (PySem.W.methodObj (.ref f)<|.ref y);exact k a _ (.inl rfl) e
 |ext φ=>obtain⟨p,⟨o,e⟩,st⟩:=x;exact⟨st _ _ p λo q=>k _ _ (.inl rfl) q,⟨o,k _ _ (.inl rfl) e⟩,st⟩
theorem g8.lt(x:g8 P w H h)(e:H a=some o):a<h.objs.size:=(x a o e).lt
theorem g8.fresh(x:g8 P w H h)(e:h.objs.size<=a):H a=none:=by cases q:H a with|none=>rfl|some u=>exact absurd (AS (x.lt q) e)<|Cz _
theorem g8.kept(x:g8 P w H h)(k:∀b u,h.get? b=some u->h'.get? b=some u):g8 P w H h':=λa o e=>
 (x a o e).stay (λb u _ q=>k b u q) (λ_ q=>q) λ_ _ q=>q
theorem g8.laid(x:g8 P w H h)(k:∀b u,h.get? b=some u->h'.get? b=some u)(hp:h.objs.size<=a)(new:vd P w (upd H a o) h' a o):g8 P w (upd H a o) h':=λb u e=>by
 have I:=x.fresh hp;by_cases J:b=a
 ·subst J;rw[zu] at e;cases e;exact new
 ·rw[qu J] at e;exact(x b u e).stay (λc v _ q=>k c v q) (λc q=>by rw[qu<|zy q I];exact q) λc U q=>by rw[qu<|zy q I];exact q
end
def Rd(H:Hp)(a:Addr)(u:HO):Prop:=H a=some u\/∃o,H a=some (.frz o u)
theorem Rd.ok{P:Xl}{w:Xm}{H:Hp}{a:Addr}{u:HO}(r:Rd H a u)(x:g8 P w H h):vd P w H h a u:=by
 rcases r with r|⟨o,r⟩
 ·exact x a u r
 ·obtain⟨_,q⟩:=x a _ r;exact q
def DX:Option HO->Prop
 |some (.lst _)=>True
 |some (.dK _)=>True
 |some (.dT _)=>True
 |some (.set _ _)=>True
 |some (.ins _ _ _)=>True
 |some (.ext _)=>True
 |_=>False
section
variable {P:Xl}{w:Xm}{H:Hp}{x e:Addr}{o':HO}
theorem g8.write(ok:g8 P w H h)(g:DX<|H x)(t:e=x\/H e=some (.own x))(k:∀b u,b≠e->h.get? b=some u->h'.get? b=some u)(p:∃u,h'.get? e=some u)
 (new:vd P w (upd H x o') h' x o'):g8 P w (upd H x o') h':=λb u q=>by
 have J:∀c y,H c=some (.own y)->c≠x:=λc y r z=>by subst z;rw[r] at g;exact g
 have U:∀c j,H c=some (.tup j)->c≠x:=λc j r z=>by subst z;rw[r] at g;exact g
 by_cases l:b=x
 ·subst l;rw[zu] at q;cases q;exact new
 ·rw[qu l] at q;by_cases I:b=e
  ·have C:H b=some (.own x):=by
    rcases t with z|z
    ·exact absurd (I.trans z) l
    ·rw[I];exact z
   rw[q] at C;cases C;obtain⟨v,T⟩:=p;exact⟨v,by rw[I];exact T⟩
  ·refine(ok b u q).stay (λc v o r=>k c v ?_ r) (λc r=>by rw[qu<|J c b r];exact r) λc j r=>by rw[qu<|U c j r];exact r
   rcases o with rfl|o
   ·exact I
   ·rintro rfl;rcases t with z|z
    ·exact J c b o z
    ·rw[o] at z;cases z;exact l rfl
end
structure Un(fs ex:List Addr)(H H':Hp)(h h':Xn):Prop where
 keep:∀b o,h.get? b=some o->H b=none->b∉fs->b∉ex->h'.get? b=some o
 slot:∀b o,h.get? b=some o->H b=none->b∈fs->b∉ex->∃sl,h'.get? b=some { o with slots:=sl }
 free:∀b o,h.get? b=some o->H b=none->b∉ex->H' b=none
 there:∀b o,h.get? b=some o->b∉ex->∃o',h'.get? b=some o'
 tups:∀b xs,H b=some (.tup xs)->H' b=some (.tup xs)
 frzs:∀b o u,H b=some (.frz o u)->H' b=some (.frz o u)
 tbls:∀b ps,H b=some (.tbl ps)->∃more,H' b=some (.tbl<|ps++more)
section
variable {fs fs' ex ex':List Addr}{H H1 H2:Hp}{h1 h2:Xn}{a x e:Addr}{o:HO}
theorem Un.any(u:Un fs ex H H1 h h1){b:Addr}{I:Obj}(q:h.get? b=some I)(n:H b=none)(J:b∉ex):∃g,h1.get? b=some { I with slots:=g }:=by
 by_cases U:b∈fs
 ·exact u.slot b I q n U J
 ·exact⟨I.slots,u.keep b I q n U J⟩
theorem Un.kept(k:∀b u,h.get? b=some u->h'.get? b=some u):Un fs ex H H h h':=
 ⟨λb I q _ _ _=>k b I q,λb I q _ _ _=>⟨I.slots,k b I q⟩,λ_ _ _ n _=>n,λb I q _=>⟨I,k b I q⟩,λ_ _ q=>q,λ_ _ _ q=>q,λ_ J q=>⟨#[],by rw[q];simp⟩⟩
theorem Un.refl:Un fs ex H H h h:=Un.kept λ_ _ q=>q
theorem Un.laid(k:∀b u,h.get? b=some u->h'.get? b=some u)(hp:h.objs.size<=a)(I:H a=none):Un fs ex H (upd H a o) h h' where
 keep:=λb u q _ _ _=>k b u q
 slot:=λb u q _ _ _=>⟨u.slots,k b u q⟩
 free:=λb u q n _=>by rw[qu<|A6<|AS (u1 q) hp];exact n
 there:=λb u q _=>⟨u,k b u q⟩
 tups:=λb J q=>by rw[qu<|zy q I];exact q
 frzs:=λb u J q=>by rw[qu<|zy q I];exact q
 tbls:=λb U q=>⟨#[],by rw[qu<|zy q I,q];simp⟩
theorem Un.write(J:DX<|H x)(p:e=x\/H e=some (.own x))(k:∀b u,b≠e->h.get? b=some u->h'.get? b=some u)(U:∃u,h'.get? e=some u):Un fs ex H (upd H x o) h h':=by
 have j:∀b,H b=none->b≠x:=λb n z=>by subst z;rw[n] at J;exact J
 have l:∀b,H b=none->b≠e:=λb n z=>by
  subst z;rcases p with r|r
  ·exact j b n r
  ·rw[n] at r;cases r
 have g:∀b u,H b=some u->¬DX (some u)->b≠x:=λb u q nm z=>by subst z;rw[q] at J;exact nm J
 refine⟨λb u q n _ _=>k b u (l b n) q,λb u q n _ _=>⟨u.slots,k b u (l b n) q⟩,λb u q n _=>by rw[qu<|j b n];exact n,λb u q _=>?_,
  λb t q=>by rw[qu<|g b _ q λz=>z];exact q,λb u t q=>by rw[qu<|g b _ q λz=>z];exact q,λb C q=>⟨#[],by rw[qu<|g b _ q λz=>z,q];simp⟩⟩
 by_cases I:b=e
 ·subst I;exact U
 ·exact⟨u,k b u I q⟩
end
def Fi(h:Xn)(H:Hp):List Addr:=(List.range h.objs.size).filter λa=>(H a).isSome
def rq(h:Xn)(H:Hp):Xn:=PySem.W.hideAll h<|Fi h H
theorem M7(h:Xn)(H:Hp):(rq h H).objs.size=h.objs.size:=PySem.W.hideAll_size _ _
theorem M8{H:Hp}{b:Addr}{o:Obj}(e:h.get? b=some o)(n:H b=none):(rq h H).get? b=some o:=
 PySem.W.hideAll_get _ e λI=>by have q:(H b).isSome=true:=(AN.mp I).2;rw[n] at q;simp at q
theorem M9{H:Hp}{b:Addr}{o:Obj}(e:(rq h H).get? b=some o):h.get? b=some o/\H b=none:=by
 have I:h.get? b=some o:=PySem.W.of_hideAll (Fi h H) e;refine⟨I,?_⟩;cases q:H b with
 |none=>rfl
 |some x=>
  have J:b∈Fi h H:=AN.mpr ⟨AZ.mpr<|u1 I,by simp[q]⟩;have z:(rq h H).get? b=none:=PySem.W.hideAll_none (Fi h H) J;rw[z] at e;cases e
end L2
variable {xs zs:List L2.V}{H H' H₀:L2.Hp}{v:L2.V}
namespace L2
open PySem PySem.Spec PyProof.Rows
structure Mod(K:Ai)(mg:W5)(base:Xn):Prop where
 kin:K.In base
 glob:base.Ns mainGlobals mg
 blt:∃mb,base.Ns builtinsNs mb/\∀x:Str,x ≠ "__name__" -> mb x=bootBuiltins x
 nolimit:base.NoLimit
structure Cx where
 prog:Xl
 w:Xm
 K:Ai
 mg:W5
 base:Xn
 A:Around
 N:Xb
 s₀:Xk
 H₀:Hp
 env:Env
 outer:List Env
 stack:List Env
 ex:List Addr
 fn:Str->Bool
 calm:Bool
 pn:List (Addr×Obj)
 xe:W3
def frs(l:List Env):List Addr:=l.filterMap (·.frame)
abbrev Cx.fs(X:Cx):List Addr:=frs X.outer
def A_(I:Scope)(x:Str):Prop:=I.names.lookup x=some .local\/I.names.lookup x=some .cell\/I.names.lookup x=some .free
def Loc(I:Scope)(x:Str):Prop:=I.names.lookup x=some .local\/I.names.lookup x=some .cell
def Na(env:Env)(h:Xn)(m:W5)(x:Str)(u:Xj):Prop:=
 (env.kindOf x=some .local/\m x=some u)\/((env.kindOf x=some .cell\/env.kindOf x=some .free)/\∃c,env.cells.lookup x=some c/\h.IsCell c (some u))
structure Cx.Ok(X:Cx):Prop where
 mod:Mod X.K X.mg X.base
 kind:X.env.scope.kind=.function
 glob:X.env.globals=mainGlobals
 blt:X.env.builtins=builtinsNs
 above:X.s₀.heap.objs.size<=X.env.locals
 inj:∀x y c,X.env.cells.lookup x=some c->X.env.cells.lookup y=some c->x=y
 has:∀x,(X.env.kindOf x=some .cell\/X.env.kindOf x=some .free)->∃c,X.env.cells.lookup x=some c
 cab:∀x c,X.fn x=true->X.env.cells.lookup x=some c->X.s₀.heap.objs.size<=c
 hd:X.calm=true->X.A.handled=none
 frames:X.A.frames=some X.stack
 stk:X.stack=X.outer\/(X.stack=X.env::X.outer/\X.env.frame=some X.env.locals)
 exf:∀b∈X.ex,b≠X.env.locals/\∀x c,X.env.cells.lookup x=some c->c≠b
 bs:∀b o,X.base.get? b=some o->X.s₀.heap.get? b=some o/\X.H₀ b=none
 bsz:X.base.objs.size<=X.s₀.heap.objs.size
 noex:∀b o,X.base.get? b=some o->b∉X.ex
 exfs:∀b∈X.ex,b∉X.fs
 funs:X.s₀.heap.FunFrames X.base X.outer
 frf:∀b∈X.fs,X.H₀ b=none
structure z8(X:Cx)(pins:List<|Addr×Obj)(σ:List<|Xq)(H:Hp)(s:Xk):Prop where
 ok:X.Ok
 os:s.os=X.s₀.os
 bare:AllBare s.gens
 base:Un X.fs X.ex X.H₀ H X.s₀.heap s.heap
 loc:∃m,s.heap.Ns X.env.locals m/\∀(i:Nat) (x:Str) (v:V),X.N[i]?=some x->σ[i]?=some (some v)->A_ X.env.scope x->∃u,zq v u/\Na X.env s.heap m x u
 cell:∀x c,X.env.cells.lookup x=some c->∃v,s.heap.IsCell c v
 free:H X.env.locals=none
 freeC:∀x c,X.env.cells.lookup x=some c->H c=none
 pin:∀p∈X.pn++pins,s.heap.get? p.1=some p.2/\H p.1=none/\p.1≠X.env.locals/\p.1∉X.fs/\∀v,p.2.data≠.cell v
 hok:g8 X.prog X.w H s.heap
 len:σ.length=X.N.length
 tk:0<s.toks
section
variable {X:Cx}{σ:List<|Xq}
theorem Cx.Ok.nofr(ok:X.Ok){b:Addr}{o:Obj}(e:X.base.get? b=some o):b∉X.fs:=λI=>by have:=(ok.funs.mem I).1;rw[e] at this;cases this
theorem z8.bs(I:z8 X pins σ H s):∀b o,X.base.get? b=some o->s.heap.get? b=some o/\H b=none:=λb o e=>
 ⟨I.base.keep b o (I.ok.bs b o e).1 (I.ok.bs b o e).2 (I.ok.nofr e)<|I.ok.noex b o e,I.base.free b o (I.ok.bs b o e).1 (I.ok.bs b o e).2<|I.ok.noex b o e⟩
theorem z8.bk(I:z8 X pins σ H s):∀b o,X.base.get? b=some o->s.heap.get? b=some o:=λb o e=>(I.bs b o e).1
theorem z8.mod(I:z8 X pins σ H s):Mod X.K X.mg X.base:=I.ok.mod
theorem z8.kIn(I:z8 X pins σ H s):X.K.In s.heap:=I.ok.mod.kin.keeps I.bk
theorem z8.nolimit(I:z8 X pins σ H s):s.heap.NoLimit:=I.ok.mod.nolimit.keeps I.bk
theorem z8.lt(I:z8 X pins σ H s):X.env.locals<s.heap.objs.size:=let ⟨_,J,_⟩:=I.loc;J.lt
theorem z8.sz(I:z8 X pins σ H s):X.s₀.heap.objs.size<=s.heap.objs.size:=AL I.ok.above<|BJ I.lt
theorem z8.nofs(I:z8 X pins σ H s){a:Addr}(h:s.heap.objs.size<=a):a∉X.fs:=λJ=>by obtain⟨_,o,U,_⟩:=I.ok.funs.mem J;exact absurd (AS (u1 U)<|AL I.sz h)<|Cz _
theorem z8.cne(I:z8 X pins σ H s):∀x c,X.env.cells.lookup x=some c->c≠X.env.locals:=λx c e z=>by obtain⟨v,o,g,hd⟩:=I.cell x c e;obtain⟨m,⟨j,l,p,J,U,_⟩,_⟩:=I.loc;rw[z,J] at g;cases g;rw[U] at hd;cases hd
theorem z8.funs(I:z8 X pins σ H s):s.heap.FunFrames X.base X.outer:=by
 have all:∀(l:List Env),(∀b∈frs l,b∈X.fs)->X.s₀.heap.FunFrames X.base l->s.heap.FunFrames X.base l:=by
  intro l
  induction l with
  |nil=>intro _ _;trivial
  |cons p r t=>
   intro j C;obtain⟨T,⟨L,o,J,hn,ho,hd⟩,hr⟩:=C;have U:L∈X.fs:=j L (by unfold frs;rw[Dm,J];exact Ag);obtain⟨sl,e⟩:=I.base.slot L o ho (I.ok.frf L U) U λz=>I.ok.exfs L z U;exact⟨T,⟨L,_,J,hn,e,hd⟩,t (λb g=>j b (by unfold frs;rw[Dm,J];exact Ae _ g)) hr⟩
 exact all X.outer (λ_ g=>g) I.ok.funs
theorem z8.stack(I:z8 X pins σ H s):s.heap.FunFrames X.base X.stack:=by
 rcases I.ok.stk with e|⟨e,J⟩
 ·rw[e];exact I.funs
 ·rw[e];obtain⟨m,U,_⟩:=I.loc;refine .cons (by rw[I.ok.kind];decide) J U ?_ I.funs;exact Heap.get?_none_of_le<|AL I.ok.bsz I.ok.above
theorem z8.stkSub(I:z8 X pins σ H s):∀b∈frs X.stack,b∈X.env.locals::X.fs:=λb J=>by
 rcases I.ok.stk with e|⟨e,U⟩
 ·rw[e] at J;exact Ae _ J
 ·rw[e] at J;unfold frs at J;rw[Dm,U] at J;exact J
theorem z8.stkFree(I:z8 X pins σ H s):∀b∈frs X.stack,H b=none:=λb J=>by
 rcases Am.mp (I.stkSub b J) with e|J
 ·rw[e];exact I.free
 ·obtain⟨_,o,U,_⟩:=I.ok.funs.mem J;exact I.base.free b o U (I.ok.frf b J) λz=>I.ok.exfs b z J
theorem z8.step{g':Array GenState}{d':Drawn}(I:z8 X pins σ H s)
 (U:∀b∈ch,(b∈X.ex\/X.s₀.heap.objs.size<=b)/\b≠X.env.locals/\(∀x c,X.env.cells.lookup x=some c->c≠b)/\∀p∈X.pn++pins,p.1≠b)
 (keep:∀b o,b≠X.env.locals->b∉X.fs->b∉ch->s.heap.get? b=some o->H b=none->h'.get? b=some o)
 (slot:∀b o,b≠X.env.locals->b∈X.fs->b∉ch->s.heap.get? b=some o->H b=none->∃sl,h'.get? b=some { o with slots:=sl }) (free:∀b o,b∉ch->s.heap.get? b=some o->H b=none->H' b=none)
 (there:∀b o,b∉ch->s.heap.get? b=some o->∃o',h'.get? b=some o')
 (tups:∀b xs,H b=some (.tup xs)->H' b=some (.tup xs)) (frzs:∀b o u,H b=some (.frz o u)->H' b=some (.frz o u)) (tbls:∀b ps,H b=some (.tbl ps)->∃more,H' b=some (.tbl<|ps++more))
 (ns:∀m,s.heap.Ns X.env.locals m->h'.Ns X.env.locals m) (hok:g8 X.prog X.w H' h') (hg:AllBare g') (ht:0<t':=by walk_at "t"):
 z8 X pins σ H' { s with heap:=h',gens:=g',drawn:=d',toks:=t' }:=by
 have xu:∀b o,X.s₀.heap.get? b=some o->b≠X.env.locals:=λb o e=>A6<|AS (u1 e) I.ok.above;have t:∀b o,X.s₀.heap.get? b=some o->b∉X.ex->b∉ch:=λb o e J T=>by
  rcases (U b T).1 with z|z
  ·exact J z
  ·exact absurd (AS (u1 e) z)<|Cz _
 have g:∀x c,X.env.cells.lookup x=some c->∀v,s.heap.IsCell c v->h'.IsCell c v:=λx c e v ψ=>by
  obtain⟨o,ho,hd⟩:=ψ
  have j:c∉ch:=λz=>(U c z).2.2.1 x c e rfl;by_cases hc:c∈X.fs
  ·obtain⟨sl,q⟩:=slot c o (I.cne x c e) hc j ho<|I.freeC x c e;exact⟨_,q,hd⟩
  ·exact⟨o,keep c o (I.cne x c e) hc j ho<|I.freeC x c e,hd⟩
 refine⟨I.ok,I.os,hg,⟨λb o e n T J=>?_,λb o e n T J=>?_,λb o e n J=>?_,λb o e J=>?_,λb xs e=>tups b xs<|I.base.tups b xs e,λb o xs e=>frzs b o xs<|I.base.frzs b o xs e,λb ps e=>?_⟩,?_,λx c e=>?_,?_,λx c e=>?_,λp hp=>?_,hok,I.len,ht⟩
 ·exact keep b o (xu b o e) T (t b o e J) (I.base.keep b o e n T J)<|I.base.free b o e n J
 ·obtain⟨sl,C⟩:=I.base.slot b o e n T J;obtain⟨a0,e2⟩:=slot b _ (xu b o e) T (t b o e J) C<|I.base.free b o e n J;exact⟨a0,e2⟩
 ·obtain⟨o',C⟩:=I.base.there b o e J;exact free b o' (t b o e J) C<|I.base.free b o e n J
 ·obtain⟨o',C⟩:=I.base.there b o e J;exact there b o' (t b o e J) C
 ·obtain⟨m1,C⟩:=I.base.tbls b ps e;obtain⟨m2,e2⟩:=tbls b _ C;exact⟨m1++m2,by rw[e2,Array.append_assoc]⟩
 ·obtain⟨m,hn,hl⟩:=I.loc;refine⟨m,ns m hn,λi x v C e2 e3=>?_⟩;obtain⟨u,r,l⟩:=hl i x v C e2 e3;refine⟨u,r,?_⟩;rcases l with l|⟨k,c,e,z⟩
  ·exact .inl l
  ·exact .inr ⟨k,c,e,g x c e _ z⟩
 ·obtain⟨v,z⟩:=I.cell x c e;exact⟨v,g x c e v z⟩
 ·obtain⟨m,⟨o,_,_,ho,_⟩,_⟩:=I.loc;exact free _ o (λz=>(U _ z).2.1 rfl) ho I.free
 ·obtain⟨v,o,ho,hd⟩:=I.cell x c e;exact free c o (λz=>(U c z).2.2.1 x c e rfl) ho<|I.freeC x c e
 ·obtain⟨e,n,ne,nf,d⟩:=I.pin p hp;have j:p.1∉ch:=λz=>(U p.1 z).2.2.2 p hp rfl;exact⟨keep p.1 p.2 ne nf j e n,free p.1 p.2 j e n,ne,nf,d⟩
theorem z8.un(I:z8 X pins σ H s)(u:Un X.fs [] H H' s.heap h')(hok:g8 X.prog X.w H' h')(T:0<t':=by walk_at "t"):z8 X pins σ H' { s with heap:=h',toks:=t' }:=by obtain⟨m,⟨o,es,ep,l,r⟩,_⟩:=id I.loc;obtain⟨sl,p⟩:=u.any l I.free (by simp);exact I.step (g':=s.gens) (d':=s.drawn) (ch:=[]) (λ_ z=>nomatch z) (λb o _ U _ e n=>u.keep b o e n U (by simp)) (λb o _ U _ e n=>u.slot b o e n U (by simp)) (λb o _ e n=>u.free b o e n (by simp)) (λb o _ e=>u.there b o e (by simp)) u.tups u.frzs u.tbls (λm' t=>by obtain⟨o',g,j,J,C⟩:=t;rw[l] at J;cases J;exact⟨_,g,j,p,C⟩) hok I.bare
theorem z8.call{g':Array GenState}{d':Drawn}(I:z8 X pins σ H s)(u:Un (frs X.stack) ch H H' s.heap h')(hok:g8 X.prog X.w H' h')(T:AllBare g')
 (U:∀b∈ch,(b∈X.ex\/X.s₀.heap.objs.size<=b)/\b≠X.env.locals/\(∀x c,X.env.cells.lookup x=some c->c≠b)/\∀p∈X.pn++pins,p.1≠b) (ht:0<t':=by walk_at "t"):
 z8 X pins σ H' { s with heap:=h',gens:=g',drawn:=d',toks:=t' }:=by
 obtain⟨m,⟨o,es,ep,C,r⟩,_⟩:=id I.loc;obtain⟨sl,j⟩:=u.any C I.free λz=>(U _ z).2.1 rfl;exact I.step (ch:=ch) U (λb o j hb J e n=>u.keep b o e n (λz=>(Am.mp<|I.stkSub b z).elim j hb) J) (λb o _ _ J e n=>u.any e n J) (λb o J e n=>u.free b o e n J) (λb o J e=>u.there b o e J) u.tups u.frzs u.tbls (λm' hm=>by obtain⟨o',l,t,g,r'⟩:=hm;rw[C] at g;cases g;exact⟨_,l,t,j,r'⟩) hok T
theorem z8.turned{it:Addr}(I:z8 X pins σ H s)(k:∀b o,b≠it->s.heap.get? b=some o->h'.get? b=some o)(j:H it=none)(g:it≠X.env.locals)
 (h1:it∈X.ex\/X.s₀.heap.objs.size<=it) (h2:∀x c,X.env.cells.lookup x=some c->c≠it) (l:∀p∈X.pn++pins,p.1≠it) (ht:0<t':=by walk_at "t"):z8 X pins σ H { s with heap:=h',toks:=t' }:=by
 have U:∀b u,H b=some u->b≠it:=λb u e z=>by rw[z,j] at e;cases e
 refine I.step (g':=s.gens) (d':=s.drawn) (ch:=[it]) (λb t=>?_) (λb o _ _ J e _=>k b o (λz=>J (by simp[z])) e) (λb o _ _ J e _=>⟨o.slots,k b o (λz=>J (by simp[z])) e⟩) (λ_ _ _ _ n=>n)
  (λb o J e=>⟨o,k b o (λz=>J (by simp[z])) e⟩) (λ_ _ e=>e) (λ_ _ _ e=>e) (λb ps e=>⟨#[],by rw[e];simp⟩) (λm C=>?_) (λb u e=>?_) I.bare
 ·have e:b=it:=by simpa using t
  subst e;exact⟨h1,g,h2,l⟩
 ·obtain⟨o,T,ep,ho,r⟩:=C;exact⟨o,T,ep,k _ o (AQ g) ho,r⟩
 ·refine(I.hok b u e).stay (λc v J q=>k c v ?_ q) (λ_ q=>q) λ_ _ q=>q;rcases J with z|z
  ·rw[z];exact U b u e
  ·exact U c _ z
theorem z8.tok(I:z8 X pins σ H s)(t:Nat)(J:0<t:=by walk_at "t"):z8 X pins σ H { s with toks:=t }:=I.un (h':=s.heap) (t':=t) Un.refl I.hok
theorem z8.kept(I:z8 X pins σ H s)(k:∀b u,s.heap.get? b=some u->h'.get? b=some u)(J:0<t':=by walk_at "t"):z8 X pins σ H { s with heap:=h',toks:=t' }:=I.un (Un.kept k)<|I.hok.kept k
theorem z8.laid{a:Addr}{o:HO}(I:z8 X pins σ H s)(k:∀b u,s.heap.get? b=some u->h'.get? b=some u)(hp:s.heap.objs.size<=a)(new:vd X.prog X.w (upd H a o) h' a o)(J:0<t':=by walk_at "t"):
 z8 X pins σ (upd H a o) { s with heap:=h',toks:=t' }:=I.un (Un.laid k hp<|I.hok.fresh hp)<|I.hok.laid k hp new
theorem z8.write{x e:Addr}{o:HO}(I:z8 X pins σ H s)(U:DX<|H x)(g:e=x\/H e=some (.own x))(k:∀b u,b≠e->s.heap.get? b=some u->h'.get? b=some u)(J:∃u,h'.get? e=some u)
 (new:vd X.prog X.w (upd H x o) h' x o) (j:0<t':=by walk_at "t"):z8 X pins σ (upd H x o) { s with heap:=h',toks:=t' }:=I.un (Un.write U g k J)<|I.hok.write U g k J new
theorem z8.weak{jl:List<|Xq}(I:z8 X pins σ H s)(U:jl.length=σ.length)(w:∀(i:Nat) v,jl[i]?=some (some v)->σ[i]?=some (some v)):z8 X pins jl H s:=
 ⟨I.ok,I.os,I.bare,I.base,let ⟨m,g,J⟩:=I.loc;⟨m,g,λi x v j l o=>J i x v j (w i v l) o⟩,I.cell,I.free,I.freeC,I.pin,I.hok,U.trans I.len,I.tk⟩
theorem z8.pins_of{J:List<|Addr×Obj}(I:z8 X pins σ H s)(h:∀p∈J,s.heap.get? p.1=some p.2/\H p.1=none/\p.1≠X.env.locals/\p.1∉X.fs/\∀v,p.2.data≠.cell v):z8 X J σ H s:=
 ⟨I.ok,I.os,I.bare,I.base,I.loc,I.cell,I.free,I.freeC,λp U=>(Ak.mp U).elim (λz=>I.pin p<|Al _ z)<|h p,I.hok,I.len,I.tk⟩
theorem ur{N:Xb}(hN:N.Nodup)(a:N[i]?=some x)(b:N[j]?=some x):i=j:=by obtain⟨U,I⟩:=A1.mp a;obtain⟨g,J⟩:=A1.mp b;exact(List.getElem_inj hN).mp (I.trans J.symm)
theorem pq{Q:W4}(I:z8 X pins σ H s)(hN:X.N.Nodup)(hi:X.N[i]?=some x)(t:Loc X.env.scope x)(r:zq v u)
 (h:∀s',z8 X pins (σ.set i<|some v) H s'->(∃a,Heap.SameBut a s.heap s'.heap/\(a=X.env.locals\/X.env.cells.lookup x=some a))->(X.env.kindOf x=some .local->∃m',s'.heap.Ns X.env.locals m'/\m' x=some u)->Q () s') (hf:X.fn x=true\/X.env.scope.names.lookup x=some .local:=by first|exact .inl rfl|exact .inr rfl|assumption):wpAny M A (storeName X.env x u) Q E s:=by
 obtain⟨m,hn,hl⟩:=id I.loc;have a2:(X.env.scope.kind==.class||(X.env.scope.kind==.module&&X.env.locals != X.env.globals))=false:=by rw[I.ok.kind];rfl
 have a0:i<σ.length:=by rw[I.len];exact(A1.mp hi).1
 have cne:=I.cne;have U:∀{a:Addr} {h':Xn},(∃o,s.heap.get? a=some o/\H a=none)->Heap.SameBut a s.heap h'->g8 X.prog X.w H h':=λ{a h'} ha J b ob e=>by
  obtain⟨_,_,C⟩:=ha;refine(I.hok b ob e).stay (λc w' l q=>(J.2 c ?_).trans q) (λ_ q=>q) λ_ _ q=>q;rintro rfl;rcases l with rfl|l
  ·rw[C] at e;cases e
  ·rw[C] at l;cases l
 rcases t with T|T
 ·refine wpAny_storeName_local T hn (λh' a3 J=>?_) a2;obtain⟨oL,_,_,ac,_⟩:=id hn;refine h _ ⟨I.ok,I.os,I.bare,⟨λb o e n hb t=>?_,λb o e n hb t=>?_,I.base.free,λb o e t=>?_,I.base.tups,I.base.frzs,I.base.tbls⟩,⟨_,a3,λj y v' g e2 e3=>?_⟩,λy c e=>?_,I.free,I.freeC,λp hp=>?_,U ⟨oL,ac,I.free⟩ J,by simpa using I.len,by first|exact I.tk|exact Ce _⟩ ⟨_,J,.inl rfl⟩ λ_=>⟨_,a3,by simp⟩
  ·exact(J.2 b<|A6<|AS (u1 e) I.ok.above).trans (I.base.keep b o e n hb t)
  ·obtain⟨sl,g⟩:=I.base.slot b o e n hb t;exact⟨sl,(J.2 b<|A6<|AS (u1 e) I.ok.above).trans g⟩
  ·obtain⟨o',g⟩:=I.base.there b o e t;exact⟨o',(J.2 b<|A6<|AS (u1 e) I.ok.above).trans g⟩
  ·by_cases hj:j=i
   ·subst hj;rw[hi] at g;cases g;rw[B3 a0] at e2;cases e2;exact⟨u,r,.inl ⟨T,by simp⟩⟩
   ·rw[Bv<|AQ hj] at e2;obtain⟨u',r',q⟩:=hl j y v' g e2 e3;refine⟨u',r',?_⟩;rcases q with⟨k,e⟩|⟨k,c,e,z⟩
    ·refine .inl ⟨k,?_⟩;have:y≠x:=λe=>hj<|ur hN g<|e▸hi;simp[this,e]
    ·exact .inr ⟨k,c,e,z.sameBut J<|cne y c e⟩
  ·obtain⟨w',z⟩:=I.cell y c e;exact⟨w',z.sameBut J<|cne y c e⟩
  ·obtain⟨e,n,ne,nf,d⟩:=I.pin p hp;exact⟨(J.2 p.1 ne).trans e,n,ne,nf,d⟩
 ·have a1:X.fn x=true:=by
   rcases hf with z|z
   ·exact z
   ·rw[z] at T;cases T
  obtain⟨c,l⟩:=I.ok.has x<|.inl T;obtain⟨w',z⟩:=I.cell x c l;refine wpAny_storeName_cell I.ok.kind T l z λh' a4 J=>?_;obtain⟨oc,a5,a7⟩:=id z;refine h { s with heap:=h' } ⟨I.ok,I.os,I.bare,⟨λb o e n hb t=>?_,λb o e n hb t=>?_,I.base.free,λb o e t=>?_,I.base.tups,I.base.frzs,I.base.tbls⟩,⟨m,hn.sameBut J<|AQ<|cne x c l,λj y v' g e2 e3=>?_⟩,λy c' e=>?_,I.free,I.freeC,λp hp=>?_,U ⟨oc,a5,I.freeC x c l⟩ J,by simpa using I.len,I.tk⟩ ⟨c,J,.inr l⟩ (λz=>by have e:=(show X.env.kindOf x=some .cell from T).symm.trans z;cases e)
  ·exact(J.2 b<|A6<|AS (u1 e)<|I.ok.cab x c a1 l).trans (I.base.keep b o e n hb t)
  ·obtain⟨sl,g⟩:=I.base.slot b o e n hb t;exact⟨sl,(J.2 b<|A6<|AS (u1 e)<|I.ok.cab x c a1 l).trans g⟩
  ·obtain⟨o',g⟩:=I.base.there b o e t;exact⟨o',(J.2 b<|A6<|AS (u1 e)<|I.ok.cab x c a1 l).trans g⟩
  ·by_cases hj:j=i
   ·subst hj;rw[hi] at g;cases g;rw[B3 a0] at e2;cases e2;exact⟨u,r,.inr ⟨.inl T,c,l,a4⟩⟩
   ·rw[Bv<|AQ hj] at e2;obtain⟨u',r',q⟩:=hl j y v' g e2 e3;refine⟨u',r',?_⟩;rcases q with q|⟨k,c',e,z'⟩
    ·exact .inl q
    ·refine .inr ⟨k,c',e,z'.sameBut J ?_⟩;rintro rfl;exact hj<|ur hN g<|I.ok.inj _ _ _ e l▸hi
  ·by_cases ab:c'=c
   ·subst ab;exact⟨_,a4⟩
   ·obtain⟨w2,z2⟩:=I.cell y c' e;exact⟨w2,z2.sameBut J ab⟩
  ·obtain⟨e,n,ne,nf,d⟩:=I.pin p hp;refine⟨(J.2 p.1 ?_).trans e,n,ne,nf,d⟩;intro q;rw[q,a5] at e;have q':oc=p.2:=AY e;exact d w' (by rw[<-q'];exact a7)
theorem iu{Q:W4}(I:z8 X pins σ H s)(hN:X.N.Nodup)(hi:X.N[i]?=some x)(J:Loc X.env.scope x)(r:zq v u)
 (h:∀s',z8 X pins (σ.set i<|some v) H s'->Q () s') (U:X.fn x=true\/X.env.scope.names.lookup x=some .local:=by first|exact .inl rfl|exact .inr rfl|assumption):wpAny M A (storeName X.env x u) Q E s:=
 pq I hN hi J r (λs' g _ _=>h s' g) U
theorem z8.call'(I:z8 X pins σ H s)(U:s'.os=s.os)(u:Un (frs X.stack) ch H H' s.heap s'.heap)(hok:g8 X.prog X.w H' s'.heap)(g:AllBare s'.gens)
 (J:∀b∈ch,(b∈X.ex\/X.s₀.heap.objs.size<=b)/\b≠X.env.locals/\(∀x c,X.env.cells.lookup x=some c->c≠b)/\∀p∈X.pn++pins,p.1≠b) (j:0<s'.toks:=by walk_at "t"):z8 X pins σ H' s':=by
 obtain⟨o,g',d',t',l⟩:=s';have e:l=s.os:=U;subst e;exact I.call (g':=g') (t':=t') (d':=d') u hok g J j
end
abbrev XK:=Xj->Option Addr->Hp->Prop
abbrev St:=List<|Xq
abbrev VK:=V->Hp->Prop
abbrev TE:=St->Hp->VK->Prop
abbrev TT:=St->Hp->(Bool->Hp->Prop)->Prop
abbrev TA:=St->Hp->(Xp->Hp->Prop)->Prop
structure xF where
 nx:St->Hp->Prop
 rt:VK
 bk:St->Hp->Prop:=λ_ _=>False
 ct:St->Hp->Prop:=λ_ _=>False
abbrev TS:=xF->St->Hp->Prop
def EP(X:Cx)(pins:List<|Addr×Obj)(σ:St)(Q:VK)(u:Xj)(s':Xk):Prop:=∃v H',z8 X pins σ H' s'/\zq v u/\Q v H'
def TP(X:Cx)(pins:List<|Addr×Obj)(σ:St)(Q:Bool->Hp->Prop)(b:Bool)(s':Xk):Prop:=∃H',z8 X pins σ H' s'/\Q b H'
def AP(X:Cx)(pins:List<|Addr×Obj)(σ:St)(Q:Xp->Hp->Prop)(us:W8)(s':Xk):Prop:=∃vs H',z8 X pins σ H' s'/\zn vs us/\Q vs H'
def SP(X:Cx)(pins:List<|Addr×Obj)(D:xF)(f:Flow)(s':Xk):Prop:=
 match f with
 |.next=>∃jl H',z8 X pins jl H' s'/\D.nx jl H'
 |.brk=>∃jl H',z8 X pins jl H' s'/\D.bk jl H'
 |.cont=>∃jl H',z8 X pins jl H' s'/\D.ct jl H'
 |.ret u=>∃v jl H',z8 X pins jl H' s'/\zq v u/\D.rt v H'
def PE(X:Cx)(e:Expr)(t:TE):Prop:=
 ∀(pins:List<|Addr×Obj) (s:Xk) (σ:St) (H:Hp) (Q:VK),z8 X pins σ H s->t σ H Q->wpAny (model X.prog X.w) X.A (eval e X.env) (EP X pins σ Q) X.xe s
def PT(X:Cx)(e:Expr)(t:TT):Prop:=
 ∀(pins:List<|Addr×Obj) (s:Xk) (σ:St) (H:Hp) (Q:Bool->Hp->Prop),z8 X pins σ H s->t σ H Q->wpAny (model X.prog X.w) X.A (isTrue e X.env<|eval e X.env) (TP X pins σ Q) X.xe s
def PW(X:Cx)(e:Expr)(t:TT):Prop:=
 ∀(whole:Sem Xj) (pins:List<|Addr×Obj) (s:Xk) (σ:St) (H:Hp) (Q:Bool->Hp->Prop),z8 X pins σ H s->t σ H Q->wpAny (model X.prog X.w) X.A (isTrue e X.env whole) (TP X pins σ Q) X.xe s
theorem PW.pt{X:Cx}{t:TT}(h:PW X e t):PT X e t:=h _
def PA(X:Cx)(es:Xc)(t:TA):Prop:=
 ∀(pos:Pos) (pins:List<|Addr×Obj) (s:Xk) (σ:St) (H:Hp) (Q:Xp->Hp->Prop),z8 X pins σ H s->t σ H Q->wpAny (model X.prog X.w) X.A (spliced<|backTo pos<|starEach es X.env) (AP X pins σ Q) X.xe s
def PS(X:Cx)(st:Stmt)(t:TS):Prop:=
 ∀(pins:List<|Addr×Obj) (s:Xk) (σ:St) (H:Hp) (D:xF),z8 X pins σ H s->t D σ H->wpAny (model X.prog X.w) X.A (exec st X.env) (SP X pins D) X.xe s
def lU(X:Cx)(st:Xd)(t:TS):Prop:=
 ∀(pins:List<|Addr×Obj) (s:Xk) (σ:St) (H:Hp) (D:xF),z8 X pins σ H s->t D σ H->wpAny (model X.prog X.w) X.A (execs st X.env) (SP X pins D) X.xe s
theorem aJ{t:Sem α}{Q I:α->Xk->Prop}(h:wpAny M A t Q E s)(J:∀a s,Q a s->I a s):wpAny M A t I E s:=A4 h J λ_ _ x=>x
theorem aa{t:Sem Xj}{X:Cx}{σ:St}{Q:VK}{I:W3}(h:wpAny M A t (EP X pins σ Q) E s)(J:∀v s x H,z8 X pins σ H s->zq x v->Q x H->I v s):wpAny M A t I E s:=aJ h λv s ψ=>(by obtain⟨x,H,a,b,c⟩:=ψ;exact J v s x H a b c)
theorem um{t:Sem<|W8}{X:Cx}{σ:St}{Q:Xp->Hp->Prop}{I:W8->Xk->Prop}(h:wpAny M A t (AP X pins σ Q) E s)(J:∀v s x H,z8 X pins σ H s->zn x v->Q x H->I v s):wpAny M A t I E s:=aJ h λv s ψ=>(by obtain⟨x,H,a,b,c⟩:=ψ;exact J v s x H a b c)
end L2
variable {r:L2.V->Xg->Xg->L2.Hp->L2.VK->Prop}{X:L2.Cx}{σ:L2.St}{td ty:L2.TE}
namespace L2
open PySem PySem.Spec PyProof.Rows
section
def FJ(i:Nat):TE:=λσ H Q=>∃v,σ[i]?=some (some v)/\Q v H
def tC(v:V):TE:=λ_ H Q=>Q v H
abbrev Ez(x:Str):Prop:=(x==("__debug__":Str))=false
abbrev EX(x:Str):Prop:=(x==("__classdict__":Str))=false
theorem Nb(hN:X.N[i]?=some x)(p:A_ X.env.scope x)(hd:Ez x:=by decide)(j:EX x:=by decide):PE X (.Name x pos) (FJ i):=by
 intro g s t H Q I h;obtain⟨v,e,h⟩:=h;obtain⟨m,C,T⟩:=I.loc;obtain⟨u,r,l⟩:=T i x v hN e p;have jv:EP X g t Q u s:=⟨v,H,I,r,h⟩;rcases l with⟨U,hm⟩|⟨U,c,o,J⟩
 ·exact wpAny_Name (wpAny_loadName_local I.ok.kind U C hm jv) hd
 ·rcases U with U|U
  ·exact wpAny_Name (wpAny_loadName_cell I.ok.kind U o J jv) hd
  ·exact wpAny_Name (wpAny_loadName_free I.ok.kind U o J jv j) hd
theorem Nc{i j pos}:PE X (.Constant (.int i) j pos) (tC<|.int i):=λ_ _ _ H _ I h=>wpAny_Constant_int ⟨.int i,H,I.tok _,⟨_,rfl⟩,h⟩
theorem Nd{b j pos}:PE X (.Constant (.bool b) j pos) (tC<|.bl b):=λ_ _ _ H _ I h=>Constant_bool ⟨.bl b,H,I,rfl,h⟩
theorem Nf{j pos}:PE X (.Constant .none j pos) (tC .non):=λ_ _ _ H _ I h=>Constant_none ⟨.non,H,I,rfl,h⟩
theorem dD{x j pos}:PE X (.Constant (.str x) j pos) (tC<|.str x):=λ_ _ _ H _ I h=>Calls.Constant_str ⟨.str x,H,I.tok _,⟨_,rfl⟩,h⟩
def Gl(X:Cx)(x:Str):Prop:=X.env.kindOf x=some .globalImplicit
theorem rH(I:z8 X pins σ H s)(J:Gl X x)(U:X.mg x=some u)(h:Q u s)
 (hd:Ez x:=by decide):wpAny (model X.prog X.w) X.A (eval (.Name x pos) X.env) Q E s:=
 Calls.Name_function_global I.ok.kind J (Calls.loadGlobal_global (by rw[I.ok.glob];exact I.mod.glob.keeps I.bk) U h) hd
theorem jZ(I:z8 X pins σ H s)(J:Gl X x)(U:X.mg x=none)(g:bootBuiltins x=some u)(h:Q u s)
 (j:x ≠ "__name__" := by decide) (hd:Ez x:=by decide):wpAny (model X.prog X.w) X.A (eval (.Name x pos) X.env) Q E s:=by
 obtain⟨p,l,o⟩:=I.mod.blt;exact Calls.Name_function_global I.ok.kind J (Calls.loadGlobal_builtin (by rw[I.ok.glob];exact I.mod.glob.keeps I.bk) U (by rw[I.ok.blt];exact l.keeps I.bk) ((o x j).trans g) h) hd
theorem Ng(J:Gl X x)(U:X.mg x=some u)(r:zq v u)(hd:Ez x:=by decide):PE X (.Name x pos) (tC v):=
 λ_ _ _ H _ I h=>rH I J U ⟨v,H,I,r,h⟩ hd
theorem Nh(J:Gl X x)(U:X.mg x=none)(g:bootBuiltins x=some u)(r:zq v u)(j:x ≠ "__name__" := by decide)(hd:Ez x:=by decide):PE X (.Name x pos) (tC v):=
 λ_ _ _ H _ I h=>jZ I J U g ⟨v,H,I,r,h⟩ j hd
variable {a b:Expr}{ta tb:TE}
def PC(X:Cx)(op:CmpOp)(a b:Expr)(t:TE):Prop:=
 ∀(pins:List<|Addr×Obj) (s:Xk) (σ:St) (H:Hp) (Q:VK),z8 X pins σ H s->t σ H Q->
  wpAny (model X.prog X.w) X.A (eval a X.env) (λv I=>wpAny (model X.prog X.w) X.A (eval b X.env) (λu J=>wpAny (model X.prog X.w) X.A (compareOp op v u) (EP X pins σ Q) X.xe J) X.xe I) X.xe s
theorem tM(b:Expr){op:CmpOp}(h:op≠.In)(h2:op≠.NotIn):behindInMarks op b=false:=by
 have I:(op==CmpOp.In)=false:=by cases op<;>first|rfl|exact absurd rfl h
 have J:(op==CmpOp.NotIn)=false:=by cases op<;>first|rfl|exact absurd rfl h2
 cases b<;>simp[behindInMarks,I,J]
def HH(ta:TE):TE:=λσ H Q=>ta σ H λx H1=>Q (.bl<|decide<|x=.non) H1
def HI(ta:TE):TE:=λσ H Q=>ta σ H λx H1=>Q (.bl<|!decide (x=.non)) H1
theorem zq.none_iff{x:V}{v:Xj}(r:zq x v):(v==Value.none)=decide (x=.non):=by
 cases x with
 |non=>cases r;rfl
 |bl _=>cases r;rfl
 |int _=>obtain⟨t,rfl⟩:=r;rfl
 |str _=>obtain⟨t,rfl⟩:=r;rfl
 |byt _=>obtain⟨t,rfl⟩:=r;rfl
 |flt _=>obtain⟨t,rfl⟩:=r;rfl
 |ref _=>cases r;rfl
 |ty _=>cases r;rfl
theorem HJ{j hQ}(U:PE X a ta):PC X .Is a (.Constant .none j hQ) (HH ta):=by intro J s g H Q I h;refine aa (U J s g H _ I h) λv t x l o p r=>?_;exact Constant_none (is_none_gen ⟨.bl _,l,o,by rw[p.none_iff];rfl,r⟩)
theorem ym{j hQ}(U:PE X a ta):PC X .IsNot a (.Constant .none j hQ) (HI ta):=by intro J s g H Q I h;refine aa (U J s g H _ I h) λv t x l o p r=>?_;exact Constant_none (isnot_none_gen ⟨.bl _,l,o,by rw[p.none_iff];rfl,r⟩)
def tB(t:TE):TT:=λσ H Q=>t σ H λx H1=>∃c,x=.bl c/\Q c H1
theorem HK{op:CmpOp}{t:TE}(h:PC X op a b t)(h1:behindInMarks op b=false:=by first|exact tM _ (by decide) (by decide)|rfl):PE X (.Compare a [op] [b] pos) t:=λJ s U H Q I hw=>wpAny_Compare1 (h J s U H Q I hw) h1
theorem HL{op:CmpOp}{t:TE}(h:PC X op a b t)(h1:behindInMarks op b=false:=by first|exact tM _ (by decide) (by decide)|rfl):PT X (.Compare a [op] [b] pos) (tB t):=by intro J s U H Q I hw;refine wpAny_isTrue_Compare1 (aJ (h J s U H _ I hw) λv r h1=>aJ h1 λu C g=>aJ g λc T ψ=>?_) h1;obtain⟨x,j,l,o,p⟩:=ψ;obtain⟨d,rfl,q⟩:=p;cases o;exact wpAny_truthy_bool ⟨j,l,q⟩
theorem Ni{t:TE}(h:PE X e t)(U:∀whole,isTrue e X.env whole=(do let v <-whole;standAt e.pos;holding [v] (truthy v)):=by intro _;rfl):PT X e (tB t):=by intro J s g H Q I hw;refine isTrue_plain (aa (h J s g H _ I hw) λv r x j l o p=>?_)<|U _;obtain⟨d,rfl,q⟩:=p;cases o;exact wpAny_truthy_bool ⟨j,l,q⟩
variable {tA rm:TT}{rest:Xc}
def Nj(t u:TT):TT:=λσ H Q=>t σ H λc H1=>if c=true then u σ H1 Q else Q false H1
def Nk(t u:TT):TT:=λσ H Q=>t σ H λc H1=>if c=true then Q true H1 else u σ H1 Q
def Nl(t:TT):TT:=λσ H Q=>t σ H λc H1=>Q (!c) H1
theorem Nm(U:PT X a tA):PW X (.BoolOp .And [a] pos) tA:=by intro j J s g H Q I h;refine isTrue_and<|aJ (U J s g H Q I h) λc l e=>?_;cases c with|true=>exact isTrue_and_nil e|false=>exact e
theorem Nn(U:PT X a tA):PW X (.BoolOp .Or [a] pos) tA:=by intro j J s g H Q I h;refine isTrue_or<|aJ (U J s g H Q I h) λc l e=>?_;cases c with|false=>exact isTrue_or_nil e|true=>exact e
theorem No(o:PT X a tA)(p:PW X (.BoolOp .And (b::rest) pos) rm):PW X (.BoolOp .And (a::b::rest) pos) (Nj tA rm):=by intro r J s U H Q I h;refine isTrue_and<|aJ (o J s U H _ I h) λc t ψ=>?_;obtain⟨g,j,l⟩:=ψ;cases c with|true=>exact p r J t U g Q j l|false=>exact⟨g,j,l⟩
theorem Np(o:PT X a tA)(p:PW X (.BoolOp .Or (b::rest) pos) rm):PW X (.BoolOp .Or (a::b::rest) pos) (Nk tA rm):=by intro r J s U H Q I h;refine isTrue_or<|aJ (o J s U H _ I h) λc t ψ=>?_;obtain⟨g,j,l⟩:=ψ;cases c with|true=>exact⟨g,j,l⟩|false=>exact p r J t U g Q j l
theorem Nq(U:PT X a tA):PT X (.UnaryOp .Not a pos) (Nl tA):=by intro J s g H Q I h;exact isTrue_not<|U J s g H (λc j=>Q (!c) j) I h
def Nr(ta tb:TE):TE:=λσ H Q=>ta σ H λx H1=>∃c,x=.bl c/\if c=true then tb σ H1 Q else Q (.bl false) H1
def Nt(ta:TE):TE:=λσ H Q=>ta σ H λx H1=>∃c,x=.bl c/\Q (.bl<|!c) H1
theorem Nu{op}{t:TE}(h:PE X a t):PE X (.BoolOp op [a] pos) t:=λJ s U H Q I hw=>BoolOp_one<|h J s U H Q I hw
theorem Nv(o:PE X a ta)(p:PE X (.BoolOp .And (b::rest) pos) tb):PE X (.BoolOp .And (a::b::rest) pos) (Nr ta tb):=by
 intro J s g H Q I h;refine BoolOp_and<|aa (o J s g H _ I h) λv r x j l t U=>?_;obtain⟨c,rfl,U⟩:=U;cases t;refine wpAny_truthy_bool ?_;cases c with
 |true=>exact p J r g j Q l U
 |false=>exact⟨.bl false,j,l,rfl,U⟩
theorem Nw(g:PE X a ta):PE X (.UnaryOp .Not a pos) (Nt ta):=by intro J s j H Q I h;refine UnaryOp_<|aa (g J s j H _ I h) λv r x l o p U=>?_;obtain⟨c,rfl,U⟩:=U;cases p;exact not_of<|wpAny_truthy_bool ⟨.bl<|!c,l,o,rfl,U⟩
def Nx(t:TT)(ta tb:TE):TE:=λσ H Q=>t σ H λc H1=>if c=true then ta σ H1 Q else tb σ H1 Q
theorem Ny(hc:PT X c tA)(p:PE X a ta)(r:PE X b tb):PE X (.IfExp c a b pos) (Nx tA ta tb):=by intro J s U H Q I h;refine wpAny_IfExp<|aJ (hc J s U H _ I h) λd g ψ=>?_;obtain⟨j,l,o⟩:=ψ;cases d with|true=>exact p J g U j Q l o|false=>exact r J g U j Q l o
end
def aY(K:Ai)(H:Hp)(a:Addr)(xs:Xp):Prop:=
 Rd H a (.lst xs)\/
  ∃(o:Obj) (eK:W9) (n:Nat),K.lookup a=some o/\o.cls=.type "list" /\ o.dict=none/\o.data=.seq eK n/\eK.size<=sizeLine/\zn xs eK.toList
def dh(K:Ai)(H:Hp)(a:Addr)(xs:Xp):Prop:=
 Rd H a (.tup xs)\/
  ∃(o:Obj) (eK:W9) (n:Nat),K.lookup a=some o/\o.cls=.type "tuple" /\ o.data=.seq eK n/\eK.size<=sizeLine/\zn xs eK.toList
def Nz:Xj->Xq
 |.none=>some .non
 |.bool b=>some<|.bl b
 |.int i _=>some<|.int i
 |.str x _=>some<|.str x
 |.bytes b _=>some<|.byt b
 |.float b _=>some<|.flt b
 |.ref a=>some<|.ref a
 |.type n=>some<|.ty n
 |_=>none
theorem zq.abs{x:V}(r:zq x u):Nz u=some x:=by
 cases x with
 |non=>cases r;rfl
 |bl _=>cases r;rfl
 |int _=>obtain⟨t,rfl⟩:=r;rfl
 |str _=>obtain⟨t,rfl⟩:=r;rfl
 |byt _=>obtain⟨t,rfl⟩:=r;rfl
 |flt _=>obtain⟨t,rfl⟩:=r;rfl
 |ref _=>cases r;rfl
 |ty _=>cases r;rfl
theorem zq.inj{x y:V}(r:zq x u)(q:zq y u):x=y:=AY<|r.abs.symm.trans q.abs
theorem zn.inj:∀{xs ys:Xp} {us:W8},zn xs us->zn ys us->xs=ys:=by
 intro xs ys us h k
 induction h generalizing ys with
 |nil=>cases k;rfl
 |cons r t I=>
  cases k with|cons J U=>rw[r.inj J,I U]
section
variable {a:Addr}{ys:Xp}
theorem aY.of{K:Ai}(h:H a=some (.lst xs)):aY K H a xs:=.inl<|.inl h
abbrev ET:=@aY.of
theorem dh.of{K:Ai}(h:H a=some (.tup xs)):dh K H a xs:=.inl<|.inl h
theorem z8.list(I:z8 X pins σ H s)(h:aY X.K H a xs):∃eK:W8,zn xs eK/\PlainL s.heap a eK.toArray/\xs.length<=sizeLine:=by
 rcases h with h|⟨o,eK,n,J,U,hd,g,j,r⟩
 ·obtain⟨z,eK,n,r,e⟩:=h.ok I.hok;exact⟨eK,r,⟨_,n,e,rfl,rfl,rfl⟩,z⟩
 ·refine⟨eK.toList,r,⟨o,n,I.kIn a o J,U,hd,by simpa using g⟩,?_⟩;have e:=r.length;simp only[A7] at e;lia
theorem z8.tuple(I:z8 X pins σ H s)(h:dh X.K H a xs):∃eK:W8,zn xs eK/\IsTup s.heap a eK.toArray/\xs.length<=sizeLine:=by
 rcases h with h|⟨o,eK,n,J,U,g,j,r⟩
 ·obtain⟨z,eK,r,p⟩:=h.ok I.hok;exact⟨eK,r,p,z⟩
 ·refine⟨eK.toList,r,⟨o,I.kIn a o J,U,n,by simpa using g⟩,?_⟩;have e:=r.length;simp only[A7] at e;lia
theorem z8.list_inj(I:z8 X pins σ H s)(h:aY X.K H a xs)(h':aY X.K H a ys):xs=ys:=by
 obtain⟨U,r,⟨o,n,e,_,_,d⟩,_⟩:=I.list h;obtain⟨J,l,⟨p,t,g,_,_,j⟩,_⟩:=I.list h';rw[e] at g;cases g;rw[d] at j;injection j with d1 _
 have:U=J:=by simpa using BS Array.toList d1
 subst this;exact r.inj l
theorem z8.tuple_inj(I:z8 X pins σ H s)(h:dh X.K H a xs)(h':dh X.K H a ys):xs=ys:=by
 obtain⟨U,r,⟨o,e,_,n,d⟩,_⟩:=I.tuple h;obtain⟨J,l,⟨p,g,_,t,j⟩,_⟩:=I.tuple h';rw[e] at g;cases g;rw[d] at j;injection j with d1 _
 have:U=J:=by simpa using BS Array.toList d1
 subst this;exact r.inj l
end
abbrev Cx.wish(X:Cx)(E:W3):Cx:={ X with xe:=E }
abbrev Cx.nox(X:Cx):Cx:=X.wish λ_ _=>False
theorem Cx.Ok.wish(ok:X.Ok)(E:W3):(X.wish E).Ok:=
 ⟨ok.mod,ok.kind,ok.glob,ok.blt,ok.above,ok.inj,ok.has,ok.cab,ok.hd,ok.frames,ok.stk,ok.exf,ok.bs,ok.bsz,ok.noex,ok.exfs,ok.funs,ok.frf⟩
theorem Cx.Ok.unwish(ok:(X.wish E).Ok):X.Ok:=
 ⟨ok.mod,ok.kind,ok.glob,ok.blt,ok.above,ok.inj,ok.has,ok.cab,ok.hd,ok.frames,ok.stk,ok.exf,ok.bs,ok.bsz,ok.noex,ok.exfs,ok.funs,ok.frf⟩
theorem z8.wish(I:z8 X pins σ H s)(E:W3):z8 (X.wish E) pins σ H s:=⟨I.ok.wish E,I.os,I.bare,I.base,I.loc,I.cell,I.free,I.freeC,I.pin,I.hok,I.len,I.tk⟩
theorem z8.unwish(I:z8 (X.wish E) pins σ H s):z8 X pins σ H s:=⟨I.ok.unwish,I.os,I.bare,I.base,I.loc,I.cell,I.free,I.freeC,I.pin,I.hok,I.len,I.tk⟩
theorem SP.unwish{D:xF}{f:Flow}(h:SP (X.wish E) pins D f s'):SP X pins D f s':=by
 cases f with
 |next=>obtain⟨J,U,I,q⟩:=h;exact⟨J,U,I.unwish,q⟩
 |brk=>obtain⟨J,U,I,q⟩:=h;exact⟨J,U,I.unwish,q⟩
 |cont=>obtain⟨J,U,I,q⟩:=h;exact⟨J,U,I.unwish,q⟩
 |ret u=>obtain⟨v,J,U,I,r,q⟩:=h;exact⟨v,J,U,I.unwish,r,q⟩
theorem lU.nox{st:Xd}{t:TS}(h:lU X.nox st t):lU X st t:=λJ s U H D I hw=>
 A4 (h J s U H D (I.wish _) hw) (λ_ _ q=>q.unwish) λ_ _ z=>False.elim z
section
variable {rest:Xd}{t u:TS}{te:TE}
def NA:TS:=λD σ H=>D.nx σ H
def NB(t u:TS):TS:=λD σ H=>t { D with nx:=u D } σ H
theorem NC:lU X [] NA:=λ_ _ J H _ I h=>wpAny_execs_nil ⟨J,H,I,h⟩
theorem uI(h1:PS X st t)(h2:lU X rest u):lU X (st::rest) (NB t u):=by
 intro J s g H D I h;refine wpAny_execs_cons<|aJ (h1 J s g H { D with nx:=u D } I h) λf j q=>?_;cases f with
 |next=>
  obtain⟨U,l,o,q⟩:=q;exact h2 J j U l D o q
 |ret v=>exact q
 |brk=>exact q
 |cont=>exact q
theorem ND(h1:PS X st t):lU X [st] t:=by intro J s U H D I h;refine wpAny_execs_cons<|aJ (h1 J s U H D I h) λf g q=>?_;cases f with|next=>exact wpAny_execs_nil q|ret v=>exact q|brk=>exact q|cont=>exact q
def NE:TS:=λD σ H=>D.ct σ H
theorem uB:PS X (.Continue pos) NE:=λ_ _ J H _ I h=>wpAny_Continue ⟨J,H,I,h⟩
theorem z8.quiet(I:z8 X pins σ H s):interactive X.env=false:=by simp[interactive,I.ok.kind]
def ast(te:TE):TS:=λD σ H=>te σ H λ_ H1=>D.nx σ H1
theorem NF(g:PE X e te)(hs:swapsWith e none pos.line X.env=pure false:=by rfl):PS X (.Expr e pos) (ast te):=by intro J s U H D I h;exact wpAny_Expr_any (aa (g J s U H _ I h) λv p x j l r o=>⟨U,j,l,o⟩) I.quiet hs
def NG(te:TE):TS:=λD σ H=>te σ H D.rt
theorem NH(g:PE X e te):PS X (.Return (some e) pos) (NG te):=by intro J s U H D I h;exact wpAny_Return_some<|aa (g J s U H _ I h) λv r x j l o p=>⟨x,U,j,l,o,p⟩
def NI:TS:=λD _ H=>D.rt .non H
theorem NJ:PS X (.Return none pos) NI:=λ_ _ J H _ I h=>wpAny_Return_none ⟨.non,J,H,I,rfl,h⟩
def NK(c:TT)(t u:TS):TS:=λD σ H=>c σ H λb H1=>if b=true then t D σ H1 else u D σ H1
theorem NL{a b:Xd}{tc:TT}(hc:PT X c tc)(p:lU X a t)(r:lU X b u):PS X (.If c a b pos) (NK tc t u):=by intro J s U H D I h;refine wpAny_If<|aJ (hc J s U H _ I h) λd g ψ=>?_;obtain⟨j,l,o⟩:=ψ;cases d with|true=>exact p J g U j D l o|false=>exact r J g U j D l o
end
abbrev TG:=V->St->Hp->(St->Hp->Prop)->Prop
abbrev d_:=Xp->St->Hp->(St->Hp->Prop)->Prop
def PG(X:Cx)(target:Expr)(t:TG):Prop:=
 ∀(pins:List<|Addr×Obj) (s:Xk) (σ:St) (H:Hp) (v:V) (u:Xj) (Q:St->Hp->Prop),z8 X pins σ H s->zq v u->t v σ H Q->
  wpAny (model X.prog X.w) X.A (assign target X.env u) (λ_ s'=>∃jl H',z8 X pins jl H' s'/\Q jl H') X.xe s
def PGs(X:Cx)(ts:Xc)(t:d_):Prop:=
 ∀(pins:List<|Addr×Obj) (s:Xk) (σ:St) (H:Hp) (vs:Xp) (us:W8) (Q:St->Hp->Prop),z8 X pins σ H s->zn vs us->t vs σ H Q->
  wpAny (model X.prog X.w) X.A (assignInOrder ((assignEach ts X.env).map (·.2)) us) (λ_ s'=>∃jl H',z8 X pins jl H' s'/\Q jl H') X.xe s
abbrev FK:=V->V->V->Hp->(Hp->Prop)->Prop
def HM(X:Cx)(t:FK):Prop:=
 ∀(pins:List<|Addr×Obj) (s:Xk) (σ:St) (H:Hp) (o i v:V) (I J u:Xj) (Q:Hp->Prop),z8 X pins σ H s->zq o I->zq i J->zq v u->t o i v H Q->
  wpAny (model X.prog X.w) X.A (setItem I J u) (λ_ s'=>∃H',z8 X pins σ H' s'/\Q H') X.xe s
def ef(i:Nat):TG:=λv σ H Q=>Q (σ.set i<|some v) H
theorem mJ(hN:X.N.Nodup)(hi:X.N[i]?=some x)(U:Loc X.env.scope x)(g:X.fn x=true\/X.env.scope.names.lookup x=some .local:=by first|exact .inl rfl|exact .inr rfl|assumption):PG X (.Name x pos) (ef i):=by intro J s l H v u Q I r h;exact wpAny_assign_Name<|iu I hN hi U r (λo j=>⟨_,H,j,h⟩) g
def FM:d_:=λvs σ H Q=>vs=[]/\Q σ H
def uG(t:TG)(u:d_):d_:=λvs σ H Q=>∃v r,vs=v::r/\t v σ H λjl H'=>u r jl H' Q
theorem y7:PGs X [] FM:=by intro J s U H g j Q I r h;obtain⟨e,h⟩:=h;subst e;cases r;exact assignInOrder_nil ⟨U,H,I,h⟩
theorem o7{t:TG}{u:d_}(h1:PG X e t)(h2:PGs X es u)
 (hs:(assignEach (e::es) X.env).map (·.2)=assign e X.env::(assignEach es X.env).map (·.2):=by rfl):PGs X (e::es) (uG t u):=by
 intro J s g H T us Q I r h;obtain⟨v,vr,j,h⟩:=h;subst j;cases r with
 |cons r rr=>
  rw[hs];refine assignInOrder_cons<|aJ (h1 J s g H _ _ _ I r h) λ_ l ψ=>?_;obtain⟨U,o,p,C⟩:=ψ;exact h2 J l U o _ _ Q p rr C
def FO(K:Ai)(n:Nat)(t:d_):TG:=λv σ H Q=>∃a xs,v=.ref a/\dh K H a xs/\xs.length=n/\t xs σ H Q
theorem HN{k:Nat}{t:d_}(hc:X.calm=true)(h:PGs X es t)
 (l:(assignEach es X.env).length=n:=by rfl) (U:(assignEach es X.env).findIdx? (·.1)=none:=by rfl):PG X (.Tuple es k pos) (FO X.K n t):=by
 intro J s g H v u Q I r hw;obtain⟨a,p,C,T,hl,hw⟩:=hw;subst C;cases r;obtain⟨a0,j,ht,hz⟩:=I.tuple T;refine assign_Tuple_tuple (I.ok.hd hc) ht (by simp[l,<-hl,j.length]) U λh' hx=>?_;have I1:z8 X J g H { s with heap:=h' }:=I.kept (t':=s.toks) λb o e=>hx b o (A6<|u1 e) e;exact h J _ g H p _ Q I1 (by simpa using j) hw
def NM(to ti:TE)(t:FK):TG:=λv σ H Q=>to σ H λo H1=>ti σ H1 λi H2=>t o i v H2 λI=>Q σ I
theorem NN{i:Expr}{to ti:TE}{t:FK}(l:PE X o to)(hi:PE X i ti)(hs:HM X t)
 (p:∀v,assign (.Subscript o i pos) X.env v=(do
  let U <-holding [v] (eval o X.env)
  let g <-holding [v,U] (eval i X.env)
  standAt pos
  holding [v,U,g] (setItem U g v)
  release [v,U,g] []):=by intro _;rfl):PG X (.Subscript o i pos) (NM to ti t):=by
 intro J s j H v u Q I r h;rw[p];refine Ad<|Bl<|aa (l J s j H _ I h) λU C x T I1 r1 q1=>?_;refine Ad<|Bl<|aa (hi J C j T _ I1 q1) λg s2 y H2 I2 r2 q2=>?_;refine Ad<|wpAny_standAt<|Ad<|Bl<|aJ (hs J s2 j H2 x y v U g u _ I2 r1 r2 r q2) λ_ s3 ψ=>?_;obtain⟨H3,I3,q3⟩:=ψ;exact wpAny_release ⟨j,H3,I3,q3⟩
def FP(te:TE)(g:TG):TS:=λD σ H=>te σ H λx H1=>g x σ H1 D.nx
theorem HQ{te:TE}{g:TG}(j:PE X e te)(l:PG X tg g)(hs:swapsWithSole [tg] e pos.line X.env=pure false:=by rfl)(hw:swappedStores [tg] e X.env=pure none:=by rfl)
 (h1:(assignEach [tg] X.env).map (·.2)=[assign tg X.env]:=by rfl):PS X (.Assign [tg] e pos) (FP te g):=by
 intro J s U H D I h;refine wpAny_Assign_stores (aa (j J s U H _ I h) λv o x p r t C=>?_) hs hw;rw[h1];exact aJ (l J o U p x v _ r t C) λ_ T q=>q
theorem NO{te:TE}(hN:X.N.Nodup)(hi:X.N[i]?=some x)(U:Loc X.env.scope x)(g:PE X e te)(hs:swapsWith e (some<|.Name x hQ) pos.line X.env=pure false:=by rfl)(j:X.fn x=true\/X.env.scope.names.lookup x=some .local:=by first|exact .inl rfl|exact .inr rfl|assumption):
 PS X (.Assign [.Name x hQ] e pos) (FP te<|ef i):=by
 intro J s l H D I h;refine wpAny_Assign_Name (aa (g J s l H _ I h) λv T y o p r t=>?_) hs;exact iu p hN hi U r (λs2 C=>⟨_,o,C,t⟩) j
def NP(i j:Nat)(ta:TA):TS:=λD σ H=>ta σ H λvs H1=>∃v w,vs=[v,w]/\D.nx ((σ.set i<|some v).set j<|some w) H1
theorem NQ{y:Str}{a b:Expr}{ta:TA}{px py pt:Pos}{kt t U}(hc:X.calm=true)(hN:X.N.Nodup)(hi:X.N[i]?=some x)(hj:X.N[j]?=some y)(C:i≠j)
 (hx:X.env.scope.names.lookup x=some .local) (hy:X.env.scope.names.lookup y=some .local) (ha:PA X [a,b] ta)
 (hw:swappedStores [.Tuple [.Name x px,.Name y py] kt pt] (.Tuple [a,b] t U) X.env=pure (some [x,y]))
 (hs:swapsWithSole [.Tuple [.Name x px,.Name y py] kt pt] (.Tuple [a,b] t U) pos.line X.env=pure false:=by rfl):
 PS X (.Assign [.Tuple [.Name x px,.Name y py] kt pt] (.Tuple [a,b] t U) pos) (NP i j ta):=by
 intro J s σ H D I h;rw[exec_Assign_arm];refine Ad<|wpAny_standAt ?_;rw[hs];refine Ad<|Ap ?_;rw[Ar (by decide)];refine Ad<|Tuple_<|um (ha _ J s σ H _ I h) λus g vs H1 I1 r1 T=>?_;obtain⟨v,w,e1,T⟩:=T;subst e1;obtain⟨l,r,rfl,rv,a0⟩:∃l r,us=[l,r]/\zq v l/\zq w r:=by
  cases r1 with
  |cons p q=>
   cases q with
   |cons p' q'=>
    cases q';exact⟨_,_,rfl,p,p'⟩
 refine BQ ?_ (by show 2<=sizeLine;decide);have I2:z8 X J σ H1 { g with heap:=g.heap.push { cls:=.type "tuple",data:=.seq [l,r].toArray } }:=I1.kept (t':=g.toks) λb o e=>t7 _ e;rw[hw];refine Ad<|Ap ?_;show wpAny (model X.prog X.w) X.A (do rule "assign.swapped-stores";let items <-unpackItems (.ref g.heap.objs.size) 2 none;assignInOrder [λv=>bindName X.env y v,λv=>bindName X.env x v] items.reverse;pure Flow.next) _ _ _;refine Ad<|BZ<|Ad<|unpackItems_tuple (items:=#[l,r]) (I.ok.hd hc) (IsTup.new g.heap _) λh' a1=>?_;have I3:=I2.kept (h':=h') (t':=g.toks) λb o e=>a1 b o (A6<|u1 e) e;show wpAny _ _ (assignInOrder [λv=>bindName X.env y v,λv=>bindName X.env x v] [r,l] >>= λ_=>pure Flow.next) _ _ _;refine Ad<|assignInOrder_cons<|wpAny_bindName<|iu I3 hN hj (.inl hy) a0 (λs2 I4=>?_)<|.inr hy;refine assignInOrder_cons<|wpAny_bindName<|iu I4 hN hi (.inl hx) rv (λs3 I5=>assignInOrder_nil<|Ap ?_)<|.inr hx;rw[List.set_comm _ _<|AQ C] at I5;exact⟨_,H1,I5,T⟩
def NR(c:TT)(tb:TS):TS:=λD σ H=>∃W:Nat->St->Hp->Prop,(∃m,W m σ H)/\∀m σ H,W m σ H->
 c σ H λb H1=>if b=true then ∃N:St->Hp->Prop,(∀jl H',N jl H'->∃I,I<m/\W I jl H')/\tb { D with nx:=N,ct:=N,bk:=D.nx } σ H1 else D.nx σ H1
theorem NS{tc:TT}{tb:TS}(hp:PassesOwn (model X.prog X.w) X.A X.env X.xe)(hc:PT X c tc)(hb:lU X body tb):PS X (.While c body [] pos) (NR tc tb):=by
 intro J s σ H D I h;obtain⟨W,⟨m0,w0⟩,turn⟩:=h;refine wpAny_While<|codeAny_whileLoop (λn s'=>∃j H',z8 X J j H' s'/\W n j H') ?_ m0 ⟨σ,H,I,w0⟩;rintro n s1 ⟨g,H1,I1,w1⟩;refine wpAny_passesOwn hp<|aJ (hc J s1 g H1 _ I1<|turn n g H1 w1) λb s2 ψ=>?_;obtain⟨H2,I2,o⟩:=ψ;cases b with
 |true=>
  obtain⟨N,hN,o⟩:=o;rw[Aw rfl];refine wpAny_passesOwn hp<|aJ (hb J s2 g H2 _ I2 o) λf s3 p=>?_;cases f with
  |next=>
   obtain⟨U,l,r,t⟩:=p;obtain⟨C,T,w3⟩:=hN U l t;exact⟨C,T,U,l,r,w3⟩
  |cont=>
   obtain⟨U,l,r,t⟩:=p;obtain⟨C,T,w3⟩:=hN U l t;exact⟨C,T,U,l,r,w3⟩
  |brk=>exact p
  |ret v=>exact p
 |false=>
  rw[Ar AH];exact wpAny_execs_nil ⟨g,H2,I2,o⟩
structure It where
 go:Nat->Hp->Prop
 yld:Nat->Hp->V->Hp->Prop
 stop:Nat->Hp->Prop
def oo(X:Cx)(pins:List<|Addr×Obj)(H:Hp)(b:Addr):Prop:=
 H b=none/\b≠X.env.locals/\b∉X.fs/\(b∈X.ex\/X.s₀.heap.objs.size<=b)/\(∀x c,X.env.cells.lookup x=some c->c≠b)/\∀p∈X.pn++pins,p.1≠b
theorem z8.fpOk{b:Addr}(I:z8 X pins σ H s)(J:s.heap.objs.size<=b)(U:H' b=none):oo X pins H' b:=by
 refine⟨U,DU<|AS I.lt J,I.nofs J,.inr<|AL I.sz J,λx c e z=>?_,λp g z=>?_⟩
 ·obtain⟨v,q⟩:=I.cell x c e;exact absurd (AS q.lt (by rw[z];exact J))<|Cz _
 ·exact absurd (AS (u1 (I.pin p g).1) (by rw[z];exact J))<|Cz _
structure DZ(P:Xl)(w:Xm)(K:Ai)(tg:Expr)(J:It)(fp:List Addr)(it:Addr)(tn:Nat->Xn->Prop):Prop where
 mem:it∈fp
 obj:∀i h,tn i h->∀b∈fp,∃o,h.get? b=some o/\∀v,o.data≠.cell v
 keep:∀i h h',tn i h->(∀b∈fp,∀o,h.get? b=some o->h'.get? b=some o)->tn i h'
 item:∀(X:Cx),X.prog=P->X.w=w->X.K=K->X.calm=true->∀(i:Nat) (pins:List<|Addr×Obj) (s:Xk) (σ:St) (H:Hp) (E:W3),z8 X pins σ H s->(∀b∈fp,oo X pins H b)->tn i s.heap->J.go i H->
  wpAny (model P w) X.A (pyNext<|.ref it) (λr s1=>∃u,r=some u/\
   wpAny (model P w) X.A (letOwnedTupleGo tg (.ref it) u) (λ_ s2=>∃x H',z8 X pins σ H' s2/\zq x u/\J.yld i H x H'/\tn (i+1) s2.heap/\∀b∈fp,H' b=none) E s1) E s
 done:∀(X:Cx),X.prog=P->X.w=w->X.K=K->X.calm=true->∀(i:Nat) (pins:List<|Addr×Obj) (s:Xk) (σ:St) (H:Hp) (E:W3),z8 X pins σ H s->(∀b∈fp,oo X pins H b)->tn i s.heap->J.stop i H->
  wpAny (model P w) X.A (pyNext<|.ref it) (λr s1=>r=none/\z8 X pins σ H s1) E s
 self:∀(A:Around) (i:Nat) (s:Xk) (Q:W3) (E:W3),tn i s.heap->Q (.ref it) s->wpAny (model P w) A (pyIter<|.ref it) Q E s
abbrev TI:=St->Hp->(It->Hp->Prop)->Prop
def FQ(X:Cx)(pins:List<|Addr×Obj)(σ:St)(tg:Expr)(R:It->Hp->Prop)(I:Xj)(U:Xk):Prop:=
 ∃(it:Addr) (fp:List Addr) (g:Nat->Xn->Prop) (J:It) (H':Hp),I=.ref it/\z8 X pins σ H' U/\DZ X.prog X.w X.K tg J fp it g/\g 0 U.heap/\(∀b∈fp,oo X pins H' b)/\R J H'
def PI(X:Cx)(tg iter:Expr)(wi:TI):Prop:=
 ∀(pins:List<|Addr×Obj) (s:Xk) (σ:St) (H:Hp) (R:It->Hp->Prop),z8 X pins σ H s->wi σ H R->
  wpAny (model X.prog X.w) X.A (eval iter X.env) (λv I=>wpAny (model X.prog X.w) X.A (pyIter v) (FQ X pins σ tg R) X.xe I) X.xe s
theorem FR{it:Addr}{o:Obj}{n:Xo}{vs:W9}{Q:W4}(J:s.heap.get? it=some o)(hc:o.cls=.type n)(hd:o.data=.fields vs)
 (U:["enumerate","zip","dict_itemiterator","dict_reverseitemiterator","odict_iterator","itertools.zip_longest","itertools.pairwise"].contains n=false) (I:Q () s):wpAny M A (letOwnedTupleGo tg (.ref it) u) Q E s:=by
 unfold letOwnedTupleGo;cases tg<;>first
  |exact Ap I
  |(cases u<;>first
   |exact Ap I
   |(refine Ad (wpAny_load J ?_)
     rw[hc,hd];show wpAny M A (if (["enumerate","zip","dict_itemiterator","dict_reverseitemiterator","odict_iterator","itertools.zip_longest","itertools.pairwise"].contains n&&vs[0]?==some (rawInt _))=true then _ else _) Q E s;rw[Ar (by intro h;rw[U,Bool.false_and] at h;cases h)];exact Ap I))
def FT(K:Ai)(a:Addr):It:=
 ⟨λi H=>∃xs x,aY K H a xs/\xs[i]?=some x,λi H x H'=>H'=H/\∀xs,aY K H a xs->xs[i]?=some x,λi H=>∃xs,aY K H a xs/\xs.length<=i⟩
def FU(K:Ai)(a:Addr):It:=
 ⟨λi H=>∃xs x,dh K H a xs/\xs[i]?=some x,λi H x H'=>H'=H/\∀xs,dh K H a xs->xs[i]?=some x,λi H=>∃xs,dh K H a xs/\xs.length<=i⟩
def D_(lo:Int)(n:Nat):It:=⟨λi _=>i<n,λi H x H'=>H'=H/\x=.int (lo+i),λi _=>n<=i⟩
theorem NT{P:Xl}{w:Xm}{K:Ai}(a it:Addr):DZ P w K tg (FT K a) [it] it (λi h=>h.IsListIter it a i) where
 mem:=by simp
 obj:=λi h st b U=>by
  have e:b=it:=by simpa using U
  subst e;obtain⟨o,e,c,d⟩:=st;exact⟨o,e,λv z=>by rw[d] at z;cases z⟩
 keep:=λi h j st k=>st.at λo e=>k it (by simp) o e
 item:=by intro X t hw C hc i J s σ H E I l st T;subst t hw C;obtain⟨xs,x,r,hx⟩:=T;obtain⟨a0,rv,p,hz⟩:=I.list r;obtain⟨u,hu,ru⟩:=rv.get hx;obtain⟨f0,f1,f2,f3,f4,f5⟩:=l it (by simp);refine wpAny_pyNext_list_item st p.isList (x:=u) (by simpa using hu) λj g sb=>?_;have I1:z8 X J σ H { s with heap:=j }:=I.turned (t':=s.toks) (λb o U e=>(sb.2 b U).trans e) f0 f1 f3 f4 f5;obtain⟨o,e,c,d⟩:=id g;exact⟨u,rfl,FR (s:={ s with heap:=j }) e c d (by decide) ⟨x,H,I1,ru,⟨rfl,λys hy=>by rw[I.list_inj hy r];exact hx⟩,g,λb U=>(l b U).1⟩⟩
 done:=by intro X t hw C hc i J s σ H E I l st T;subst t hw C;obtain⟨xs,r,hx⟩:=T;obtain⟨a0,rv,p,hz⟩:=I.list r;obtain⟨f0,f1,f2,f3,f4,f5⟩:=l it (by simp);have hl:=rv.length;exact wpAny_pyNext_list_end (I.ok.hd hc) st p.isList (by simp;lia) λj eb=>⟨rfl,I.turned (t':=s.toks) (λb o U e=>eb b o U e) f0 f1 f3 f4 f5⟩
 self:=λ_ _ _ _ _ st h=>wpAny_pyIter_listiter st h
theorem vV{P:Xl}{w:Xm}{K:Ai}(a it:Addr):DZ P w K tg (FU K a) [it] it (λi h=>h.IsTupleIter it a i) where
 mem:=by simp
 obj:=λi h st b U=>by
  have e:b=it:=by simpa using U
  subst e;obtain⟨o,e,c,d⟩:=st;exact⟨o,e,λv z=>by rw[d] at z;cases z⟩
 keep:=λi h l st k=>st.at λo e=>k it (by simp) o e
 item:=by intro X C hw T hc i J s σ H E I r st hg;subst C hw T;obtain⟨xs,x,t,hx⟩:=hg;obtain⟨g,rv,p,hz⟩:=I.tuple t;obtain⟨u,hu,ru⟩:=rv.get hx;obtain⟨f0,f1,f2,f3,f4,f5⟩:=r it (by simp);refine wpAny_pyNext_tuple_item st (show s.heap.IsTuple a g.toArray from p) (x:=u) (by simpa using hu) λl j sb=>?_;have I1:z8 X J σ H { s with heap:=l }:=I.turned (t':=s.toks) (λb o U e=>(sb.2 b U).trans e) f0 f1 f3 f4 f5;obtain⟨o,e,c,d⟩:=id j;exact⟨u,rfl,FR (s:={ s with heap:=l }) e c d (by decide) ⟨x,H,I1,ru,⟨rfl,λys hy=>by rw[I.tuple_inj hy t];exact hx⟩,j,λb U=>(r b U).1⟩⟩
 done:=by intro X C hw T hc i J s σ H E I r st hg;subst C hw T;obtain⟨xs,t,hx⟩:=hg;obtain⟨g,rv,p,hz⟩:=I.tuple t;obtain⟨f0,f1,f2,f3,f4,f5⟩:=r it (by simp);have hl:=rv.length;exact wpAny_pyNext_tuple_end (I.ok.hd hc) st (show s.heap.IsTuple a g.toArray from p) (by simp;lia) λl eb=>⟨rfl,I.turned (t':=s.toks) (λb o U e=>eb b o U e) f0 f1 f3 f4 f5⟩
 self:=λ_ _ _ _ _ st h=>wpAny_pyIter_tupleiter st h
theorem xK{P:Xl}{w:Xm}{K:Ai}(it:Addr)(lo:Int)(n:Nat):DZ P w K tg (D_ lo n) [it] it (λi h=>IsRangeIter h it (lo+(i:Nat)*1) ((n:Int)-(i:Nat)) 1) where
 mem:=by simp
 obj:=λi h st b U=>by
  have e:b=it:=by simpa using U
  subst e;exact⟨_,st,λv z=>by have z':Data.fields _=Data.cell v:=z;cases z'⟩
 keep:=λi h j st k=>k it (by simp) _ st
 item:=by intro X p hw r C i J s σ H E I l st T;subst p hw r;obtain⟨f0,f1,f2,f3,f4,f5⟩:=l it (by simp);have W:=Walks.range (prog:=X.prog) (w:=X.w) (I.ok.hd C) it lo 1 n;refine jq I.tk<|W.item i s _ _ T st λv j tk hv g kk ht=>?_;obtain⟨t,rfl⟩:=hv;have I1:z8 X J σ H { s with heap:=j,toks:=tk }:=I.turned (λb o U e=>kk b o (by simpa using U) e) f0 f1 f3 f4 f5;refine⟨_,rfl,FR (s:={ s with heap:=j,toks:=tk }) (n:="range_iterator") g rfl rfl (by decide) ⟨.int<|lo+i,H,I1,⟨t,?_⟩,⟨rfl,rfl⟩,g,λb U=>(l b U).1⟩⟩;rw[Int.mul_one]
 done:=by intro X p hw r C i J s σ H E I l st T;subst p hw r;obtain⟨f0,f1,f2,f3,f4,f5⟩:=l it (by simp);exact wpAny_pyNext_range_end (I.ok.hd C) st (by have:n<=i:=T;lia) λj eb=>⟨rfl,I.turned (t':=s.toks) (λb o U e=>eb b o U e) f0 f1 f3 f4 f5⟩
 self:=λ_ _ _ _ _ st h=>wpAny_pyIter_rangeiter st h
end L2
variable {wi:L2.TI}
namespace L2
open PySem PySem.Spec PyProof.Rows
def NU(K:Ai)(tl:TE):TI:=λσ H R=>tl σ H λx H1=>∃a,x=.ref a/\(∃xs,aY K H1 a xs)/\R (FT K a) H1
def NV(K:Ai)(tl:TE):TI:=λσ H R=>tl σ H λx H1=>∃a,x=.ref a/\(∃xs,dh K H1 a xs)/\R (FU K a) H1
theorem NW{l:Expr}{tl:TE}(j:PE X l tl):PI X tg l (NU X.K tl):=by
 intro J s r H R I h;refine aa (j J s r H _ I h) λv U x t g C T=>?_;obtain⟨a,e,⟨xs,hq⟩,q⟩:=T;subst e;cases C;obtain⟨a0,rv,p,hz⟩:=g.list hq;refine wpAny_pyIter_list p.isList ?_;refine⟨U.heap.objs.size,[U.heap.objs.size],_,_,t,rfl,g.kept (t':=U.toks) λb o e=>t7 _ e,NT a _,⟨_,vb _ rfl,rfl,rfl⟩,λb hb=>?_,q⟩;have e:b=U.heap.objs.size:=by simpa using hb
 subst e;exact g.fpOk (An _)<|g.hok.fresh<|An _
theorem NX{l:Expr}{tl:TE}(r:PE X l tl):PI X tg l (NV X.K tl):=by
 intro J s t H R I h;refine aa (r J s t H _ I h) λv U x C g T q1=>?_;obtain⟨a,e,⟨xs,hq⟩,q⟩:=q1;subst e;cases T;obtain⟨j,rv,p,hz⟩:=g.tuple hq;refine wpAny_pyIter_tuple (show U.heap.IsTuple a j.toArray from p) ?_;refine⟨U.heap.objs.size,[U.heap.objs.size],_,_,C,rfl,g.kept (t':=U.toks) λb o e=>t7 _ e,vV a _,⟨_,vb _ rfl,rfl,rfl⟩,λb hb=>?_,q⟩;have e:b=U.heap.objs.size:=by simpa using hb
 subst e;exact g.fpOk (An _)<|g.hok.fresh<|An _
theorem NY{R:It->Hp->Prop}{hi:Int}{t u v:Tok}{tk:Nat}(I:z8 X pins σ H s)(h1 : -(2 ^ 62)<=lo)(h2:lo<2 ^ 62)(U : -(2 ^ 62)<=hi)(g:hi<2 ^ 62)
 (q:R (D_ lo (hi-lo).toNat) H) (r:0<tk:=by walk_at "t"):wpAny (model X.prog X.w) X.A (pyIter<|.ref s.heap.objs.size) (FQ X pins σ tg R) E { s with heap:=s.heap.push { cls:=.type "range",data:=.fields #[.int lo t,.int hi u,.int 1 v] },toks:=tk }:=by
 refine wpAny_pyIter_range (IsRange.new ..) (small_one h1 h2 U g) ?_;have J:z8 X pins σ H { s with heap:=s.heap.push { cls:=.type "range",data:=.fields #[.int lo t,.int hi u,.int 1 v] },toks:=tk }:=I.kept λb o e=>t7 _ e;refine⟨(s.heap.push { cls:=.type "range",data:=.fields #[.int lo t,.int hi u,.int 1 v] }).objs.size,[(s.heap.push { cls:=.type "range",data:=.fields #[.int lo t,.int hi u,.int 1 v] }).objs.size],_,_,H,rfl,
  J.kept (t':=tk) λb o e=>t7 _ e,xK _ lo (hi-lo).toNat,?_,λb j=>?_,q⟩
 ·have l:lo+((0:Nat):Int)*1=lo:=by simp
  have p:(((hi-lo).toNat:Nat):Int)-((0:Nat):Int)=Builtin.Range.rangeSize lo hi 1:=by rw[rangeSize_one];split<;>lia
  show IsRangeIter _ _ (lo+((0:Nat):Int)*1) ((((hi-lo).toNat:Nat):Int)-((0:Nat):Int)) 1;rw[l,p];exact vb _ rfl
 ·have e:b=(s.heap.push { cls:=.type "range",data:=.fields #[.int lo t,.int hi u,.int 1 v] }).objs.size:=by simpa using j
  subst e;exact J.fpOk (An _)<|J.hok.fresh<|An _
def NZ(ta:TA):TI:=λσ H R=>ta σ H λvs H1=>∃j:Int,vs=[.int j] /\ -(2 ^ 62)<=j/\j<2 ^ 62/\R (D_ 0 j.toNat) H1
theorem zD{a:Expr}{ta:TA}{p:Pos}(g:Gl X "range")(l:X.mg "range"=none)(o:PA X [a] ta)(hs:starEach [a] X.env=[(false,eval a X.env)]:=by rfl):PI X tg (.Call (.Name "range" p) [a] [] pos) (NZ ta):=by
 intro J s C H R I h;refine Call_<|jZ I g l boot_range<|CF (um (o pos J s C H _ I h) λus s1 vs H1 T r1 U=>?_) hs rfl;obtain⟨j,e,U,q2,q⟩:=U;subst e;cases r1 with
 |cons r rr=>
  cases rr;obtain⟨t,rfl⟩:=r;exact call_range_1<|NY T (by lia) (by lia) U q2 (by simpa using q)
def N0(wi:TI)(g:TG)(tb:TS):TS:=λD σ H=>wi σ H λJ H1=>∃W:Nat->Nat->St->Hp->Prop,(∃m,W 0 m σ H1)/\∀i m σ H,W i m σ H->
 (J.stop i H/\D.nx σ H)\/(J.go i H/\∃N:St->Hp->Prop,(∀jl H',N jl H'->∃U,U<m/\W (i+1) U jl H')/\∀x H',J.yld i H x H'->g x σ H' λI H2=>tb { D with nx:=N,ct:=N,bk:=D.nx } I H2)
def oV(fp:List Addr)(h:Xn):List (Addr×Obj):=fp.filterMap λb=>(h.get? b).map λo=>(b,o)
theorem dG{b:Addr}{o:Obj}(I:b∈fp)(e:h.get? b=some o):(b,o)∈oV fp h:=List.mem_filterMap.mpr ⟨b,I,by rw[e];rfl⟩
theorem N1{p:Addr×Obj}(hp:p∈oV fp h):p.1∈fp/\h.get? p.1=some p.2:=by
 obtain⟨b,I,e⟩:=List.mem_filterMap.mp hp;cases q:h.get? b with
 |none=>rw[q] at e;cases e
 |some o=>
  rw[q] at e;have J:(b,o)=p:=AY e;subst J;exact⟨I,q⟩
theorem z8.pinned(I:z8 X pins σ H s)(g:∀b∈fp,oo X pins H b)(j:∀b∈fp,∃o,s.heap.get? b=some o/\∀v,o.data≠.cell v):z8 X (pins++oV fp s.heap) σ H s:=
 I.pins_of λp l=>(Ak.mp l).elim (λz=>I.pin p<|Ac _ z) λz=>by obtain⟨J,e⟩:=N1 z;obtain⟨r,f1,f2,_⟩:=g p.1 J;obtain⟨o,U,d⟩:=j p.1 J;rw[e] at U;cases U;exact⟨e,r,f1,f2,d⟩
theorem z8.unpinned{pl:List<|Addr×Obj}(I:z8 X (pins++pl) σ H s):z8 X pins σ H s:=I.pins_of λp J=>I.pin p<|Ac _<|Al _ J
theorem N2{g:TG}{tb:TS}(hp:PassesOwn (model X.prog X.w) X.A X.env X.xe)(hc:X.calm=true)(hi:PI X tg iter wi)(hg:PG X tg g)(l:lU X body tb)
 (hs:∀x,foldedSetIterable iter X.env x=pure x:=by intro _;rfl):PS X (.For tg iter body [] pos) (N0 wi g tb):=by
 intro U s σ H D I h;refine wpAny_For (aJ (hi U s σ H _ I h) λv s1 h1=>aJ h1 λab s2 h2=>?_) hs;obtain⟨it,fp,tn,J,H2,e,I2,T,a3,f2,W,⟨m0,w0⟩,turn⟩:=h2;subst e;have p:∀{H':Hp},(∀b∈fp,H' b=none)->∀b∈fp,oo X U H' b:=λhn b l=>⟨hn b l,(f2 b l).2⟩;refine codeAny_forLoop_any (λn s'=>∃i t H',z8 X U t H' s'/\tn i s'.heap/\(∀b∈fp,H' b=none)/\W i n t H') ?_ m0 ⟨0,σ,H2,I2,a3,λb l=>(f2 b l).1,w0⟩;rintro n s3 ⟨i,C,H3,I3,a1,a2,w3⟩;rcases turn i n C H3 w3 with⟨stop,qn⟩|⟨go,N,hN,step⟩
 ·refine wpAny_passesOwn hp<|aJ (T.done X rfl rfl rfl hc i U s3 C H3 X.xe I3 (p a2) a1 stop) λr s4 ψ=>?_;obtain⟨hr,I4⟩:=ψ;subst hr;exact wpAny_execs_nil ⟨C,H3,I4,qn⟩
 ·refine wpAny_passesOwn hp<|aJ (T.item X rfl rfl rfl hc i U s3 C H3 X.xe I3 (p a2) a1 go) λr s4 ψ=>?_;obtain⟨u,hr,h4⟩:=ψ;subst hr;refine wpAny_passesOwn hp<|aJ h4 λ_ s5 ψ=>?_;obtain⟨x,H5,I5,r5,y5,a0,a4⟩:=ψ;have a5:=I5.pinned (p a4)<|T.obj _ _ a0;refine wpAny_passesOwn hp<|aJ (hg _ s5 C H5 x u _ a5 r5<|step x H5 y5) λ_ s6 ψ=>?_;obtain⟨a7,H6,I6,q6⟩:=ψ;refine wpAny_passesOwn hp<|aJ (l _ s6 a7 H6 _ I6 q6) λf s7 q7=>?_;have again:∀{j:St} {H7:Hp},z8 X (U++oV fp s5.heap) j H7 s7->N j H7->∃m,m<n/\∃i t H',z8 X U t H' s7/\tn i s7.heap/\(∀b∈fp,H' b=none)/\W i m t H':=λ{j H7} I7 n7=>by obtain⟨m',hm,w7⟩:=hN j H7 n7;refine⟨m',hm,i+1,j,H7,I7.unpinned,T.keep _ _ _ a0 λb l o e=>(I7.pin (b,o)<|Ac _<|Ac _<|dG l e).1,λb l=>?_,w7⟩;obtain⟨o,e,d⟩:=T.obj _ _ a0 b l;exact(I7.pin (b,o)<|Ac _<|Ac _<|dG l e).2.1
  cases f with
  |next=>obtain⟨j,H7,I7,n7⟩:=q7;exact again I7 n7
  |cont=>obtain⟨j,H7,I7,n7⟩:=q7;exact again I7 n7
  |brk=>obtain⟨j,H7,I7,q7⟩:=q7;exact⟨j,H7,I7.unpinned,q7⟩
  |ret v=>obtain⟨x7,j,H7,I7,r7,q7⟩:=q7;exact⟨x7,j,H7,I7.unpinned,r7,q7⟩
abbrev R2:=V->V->Hp->VK->Prop
def wc(X:Cx)(f:Xj->Xj->Sem Xj)(r:R2):Prop:=
 ∀(pins:List<|Addr×Obj) (s:Xk) (σ:St) (H:Hp) (x y:V) (v u:Xj) (Q:VK),z8 X pins σ H s->zq x v->zq y u->r x y H Q->
  wpAny (model X.prog X.w) X.A (f v u) (EP X pins σ Q) X.xe s
def UnR(X:Cx)(f:Xj->Sem Xj)(r:V->Hp->VK->Prop):Prop:=
 ∀(pins:List<|Addr×Obj) (s:Xk) (σ:St) (H:Hp) (x:V) (v:Xj) (Q:VK),z8 X pins σ H s->zq x v->r x H Q->
  wpAny (model X.prog X.w) X.A (f v) (EP X pins σ Q) X.xe s
def jg(X:Cx)(f:Xj)(r:Xp->Hp->VK->Prop):Prop:=
 ∀(pins:List<|Addr×Obj) (s:Xk) (σ:St) (H:Hp) (xs:Xp) (us:W8) (Q:VK),z8 X pins σ H s->zn xs us->r xs H Q->
  wpAny (model X.prog X.w) X.A (call f us) (EP X pins σ Q) X.xe s
def Eb(r:R2)(ta tb:TE):TE:=λσ H Q=>ta σ H λx H1=>tb σ H1 λy H2=>r x y H2 Q
def N3(r:V->Hp->VK->Prop)(ta:TE):TE:=λσ H Q=>ta σ H λx H1=>r x H1 Q
def rI(C:Int->Int->Prop)(g:Int->Int->V):R2:=λx y H Q=>∃i j,x=.int i/\y=.int j/\C i j/\Q (g i j) H
def v_(g:Int->Int->V):R2:=λx y H Q=>∃i j,x=.int i/\y=.int j/\Q (g i j) H
def rU(g:Int->V):V->Hp->VK->Prop:=λx H Q=>∃i,x=.int i/\Q (g i) H
section
variable {a b:Expr}{ta tb tc:TE}
theorem FV(j:PE X a ta)(l:PE X b tb){R:V->V->Hp->Prop}(I:z8 X pins σ H s)
 (h:ta σ H λx H1=>tb σ H1 λy H2=>R x y H2) {f:Xj->Xj->Sem Xj}
 (o:∀v u g x y H2,z8 X pins σ H2 g->zq x v->zq y u->R x y H2->wpAny (model X.prog X.w) X.A (f v u) Q X.xe g):
 wpAny (model X.prog X.w) X.A (eval a X.env) (λv J=>wpAny (model X.prog X.w) X.A (eval b X.env) (λu U=>wpAny (model X.prog X.w) X.A (f v u) Q X.xe U) X.xe J) X.xe s:=by
 refine aa (j pins s σ H _ I h) λv p x H1 r t C=>?_;refine aa (l pins p σ H1 _ r C) λu g y H2 T r2 q2=>?_;exact o v u g x y H2 T t r2 q2
theorem N4{op:Operator}{r:R2}(U:wc X (binaryOp op) r)(g:PE X a ta)(j:PE X b tb):PE X (.BinOp a op b pos) (Eb r ta tb):=by intro J s l H Q I h;exact wpAny_BinOp<|FV g j I h λv u o x y p t C T q=>U J o l p x y v u Q t C T q
theorem N5{op:UnaryOp}{r:V->Hp->VK->Prop}(g:UnR X (unaryOp op) r)(j:PE X a ta):PE X (.UnaryOp op a pos) (N3 r ta):=by intro J s U H Q I h;exact UnaryOp_<|aa (j J s U H _ I h) λv l x o p t C=>g J l U o x v Q p t C
theorem FW{f:Xj->Xj->Sem Xj}{C:Int->Int->Prop}{g:Int->Int->Int}
 (rule:∀(i j:Int) (t u:Tok) (s:Xk) (Q:W3) (E:W3),C i j->Q (.int (g i j) s.toks) { s with toks:=s.toks+1 }->wpAny (model X.prog X.w) X.A (f (.int i t)<|.int j u) Q E s):
 wc X f (rI C λi j=>.int<|g i j):=by
 intro J s r H x y v u Q I U l h;obtain⟨i,j,rfl,rfl,o,q⟩:=h;obtain⟨t,rfl⟩:=U;obtain⟨p,rfl⟩:=l;exact rule i j t p s _ _ o ⟨.int<|g i j,H,I.tok _,⟨_,rfl⟩,q⟩
theorem HR{f:Xj->Xj->Sem Xj}{g:Int->Int->Int}
 (rule:∀(i j:Int) (t u:Tok) (s:Xk) (Q:W3) (E:W3),Q (.int (g i j) s.toks) { s with toks:=s.toks+1 }->wpAny (model X.prog X.w) X.A (f (.int i t)<|.int j u) Q E s):
 wc X f (v_ λi j=>.int<|g i j):=by
 intro J s p H x y v u Q I U l h;obtain⟨i,j,rfl,rfl,q⟩:=h;obtain⟨t,rfl⟩:=U;obtain⟨o,rfl⟩:=l;exact rule i j t o s _ _ ⟨.int<|g i j,H,I.tok _,⟨_,rfl⟩,q⟩
theorem FX{f:Xj->Xj->Sem Xj}{g:Int->Int->Bool}
 (rule:∀(i j:Int) (t u:Tok) (s:Xk) (Q:W3) (E:W3),Q (.bool<|g i j) s->wpAny (model X.prog X.w) X.A (f (.int i t)<|.int j u) Q E s):
 wc X f (v_ λi j=>.bl<|g i j):=by
 intro J s p H x y v u Q I U l h;obtain⟨i,j,rfl,rfl,q⟩:=h;obtain⟨t,rfl⟩:=U;obtain⟨o,rfl⟩:=l;exact rule i j t o s _ _ ⟨.bl<|g i j,H,I,rfl,q⟩
def FY(i j:Int):Prop:=0<j/\j<1073741824
def adi(i j:Int):Prop:=(-(2 ^ 64)<i/\i<2 ^ 64)\/(-(2 ^ 64)<j/\j<2 ^ 64)
theorem adi.ok{i j:Int}(h:adi i j):IntMulOk i j:=by
 rcases h with⟨I,J⟩|⟨I,J⟩
 ·exact .of_left<|intBits_le_64 I J
 ·exact .of_right<|intBits_le_64 I J
theorem N6:wc X (binaryOp .Add) (v_ λi j=>.int<|i+j):=HR λ_ _ _ _ _ _ _ q=>add_int q
theorem N7:wc X (binaryOp .Sub) (v_ λi j=>.int<|i-j):=HR λ_ _ _ _ _ _ _ q=>sub_int q
theorem N8:wc X (binaryOp .Mult) (rI adi λi j=>.int<|i*j):=FW λ_ _ _ _ _ _ _ I q=>mul_int q I.ok
theorem N9:wc X (binaryOp .FloorDiv) (rI FY λi j=>.int<|i / j):=FW λi j _ _ _ _ _ I q=>by have J:(0:Int)<j:=I.1;have U:j<1073741824:=I.2;exact floordiv_int (by lia) (by rw[Int.fdiv_eq_ediv_of_nonneg i (by lia)];exact q)<|.inl<|PyProof.noPylong_small (by lia)
theorem N':wc X (binaryOp .Mod) (rI (λ_ j=>0<j) λi j=>.int<|i % j):=FW λi j _ _ _ _ _ I q=>by have J:(0:Int)<j:=I;exact mod_int' (by lia) (by rw[Int.fmod_eq_emod_of_nonneg i (by lia)];exact q)
theorem Oa{f:Xj->Sem Xj}{g:Int->Int}
 (rule:∀(i:Int) (t:Tok) (s:Xk) (Q:W3) (E:W3),Q (.int (g i) s.toks) { s with toks:=s.toks+1 }->wpAny (model X.prog X.w) X.A (f<|.int i t) Q E s):
 UnR X f (rU λi=>.int<|g i):=by
 intro J s j H x v Q I U h;obtain⟨i,rfl,q⟩:=h;obtain⟨t,rfl⟩:=U;exact rule i t s _ _ ⟨.int<|g i,H,I.tok _,⟨_,rfl⟩,q⟩
theorem Oc:UnR X (unaryOp .USub) (rU λi=>.int<|-i):=Oa λ_ _ _ _ _ q=>neg_int q
end
def HU:V->V->Bool
 |.int _,.int _=>true
 |.bl _,.bl _=>true
 |.str _,.str _=>true
 |_,_=>false
def Fj:Bool->CmpOp
 |true=>.NotEq
 |false=>.Eq
def Ev(ne b:Bool):Bool:=match ne with
 |true=>!b
 |false=>b
def Od(ne:Bool):R2:=λx y H Q=>HU x y=true/\Q (.bl<|Ev ne<|decide<|x=y) H
theorem yF{i j:Int}:decide (V.int i=V.int j)=(i==j):=by rw[Ed];simp
theorem HV{i j:Bool}:decide (V.bl i=V.bl j)=(i==j):=by rw[Ed];simp
theorem zC{i j:Str}:decide (V.str i=V.str j)=(i==j):=by rw[Ed];simp
section
variable {a b:Expr}{ta tb tc:TE}
theorem jW{Q:VK}{k J:Bool}(I:z8 X pins σ H s)(q:Q (.bl k) H)(e:k=J):EP X pins σ Q (.bool J) s:=by subst e;exact⟨.bl k,H,I,rfl,q⟩
theorem HW(ne:Bool):wc X (compareOp<|Fj ne) (Od ne):=by
 intro l s o H x y v u Q I U g h;obtain⟨J,q⟩:=h;cases x with
 |bl i=>
  cases y with|bl j=>cases U;cases g;cases ne;exact eq_bool<|jW I q HV;exact ne_bool (jW I q<|BS not HV)|_=>exact(AH J).elim
 |int i=>
  cases y with
  |int j=>obtain⟨_,rfl⟩:=U;obtain⟨_,rfl⟩:=g;cases ne;exact eq_int<|jW I q yF;exact ne_int<|jW I q<|BS not yF
  |_=>exact(AH J).elim
 |str i=>
  cases y with
  |str j=>obtain⟨_,rfl⟩:=U;obtain⟨_,rfl⟩:=g;cases ne;exact eq_str<|jW I q zC;exact ne_str<|jW I q<|BS not zC
  |_=>exact(AH J).elim
 |_=>cases y<;>exact(AH J).elim
theorem Oe:wc X (compareOp .Lt) (v_ λi j=>.bl<|decide<|i<j):=FX λ_ _ _ _ _ _ _ q=>lt_int q
theorem Of:wc X (compareOp .LtE) (v_ λi j=>.bl<|decide<|i<=j):=FX λ_ _ _ _ _ _ _ q=>le_int q
theorem Og:wc X (compareOp .Gt) (v_ λi j=>.bl<|decide<|j<i):=FX λ_ _ _ _ _ _ _ q=>gt_int q
theorem x6(b:Expr){op:CmpOp}(h:op≠.In:=by decide)(h2:op≠.NotIn:=by decide):behindInMarks op b=false:=by
 have I:(op==CmpOp.In)=false:=by cases op<;>first|rfl|exact absurd rfl h
 have J:(op==CmpOp.NotIn)=false:=by cases op<;>first|rfl|exact absurd rfl h2
 cases b<;>simp[behindInMarks,I,J]
theorem Oh{op:CmpOp}{r:R2}(U:wc X (compareOp op) r)(g:PE X a ta)(j:PE X b tb)(l:behindInMarks op b=false):PE X (.Compare a [op] [b] pos) (Eb r ta tb):=by intro J s o H Q I h;exact wpAny_Compare1 (FV g j I h λv u p x y t C T ry q=>U J p o t x y v u Q C T ry q) l
def FZ(t:TE):TT:=λσ H Q=>t σ H λx H'=>∃k,x=.bl k/\Q k H'
theorem Oi{op:CmpOp}{r:R2}(g:wc X (compareOp op) r)(j:PE X a ta)(l:PE X b tb)(o:behindInMarks op b=false):PT X (.Compare a [op] [b] pos) (FZ<|Eb r ta tb):=by
 intro J s U H Q I h;refine wpAny_isTrue_Compare1 (aa (j J s U H _ I h) λv p x t C T q1=>aa (l J p U t _ C q1) λu s2 y H2 I2 r2 q2=>
  aJ (g J s2 U H2 x y v u _ I2 T r2 q2) λc s3 ⟨z,H3,I3,r3,k,e,q3⟩=>?_) o
 subst e;cases r3;exact wpAny_truthy_bool ⟨H3,I3,q3⟩
theorem jC:(sizeLine:Nat)<2 ^ 63:=by rw[sizeLine_eq];decide
theorem xR:wc X (binaryOp .Add) (λx y H Q=>∃i j,x=.str i/\y=.str j/\i.length+j.length<=sizeLine/\Q (.str<|i++j) H):=by intro J s p H x y v u Q I U g h;obtain⟨i,j,rfl,rfl,l,q⟩:=h;obtain⟨t,rfl⟩:=U;obtain⟨o,rfl⟩:=g;exact jq I.tk<|add_str (λo r C=>⟨.str<|i++j,H,I.tok _,⟨_,rfl⟩,q⟩) l
theorem sv{x:V}(r:zn [x] us):∃u,us=[u]/\zq x u:=by cases r with|cons I J=>cases J;exact⟨_,rfl,I⟩
theorem HX{x y:V}(r:zn [x,y] us):∃u I,us=[u,I]/\zq x u/\zq y I:=by
 cases r with
 |cons J U=>
  cases U with|cons g j=>cases j;exact⟨_,_,rfl,J,g⟩
theorem Oj(hc:X.calm=true):jg X (.builtin "max") (λxs H Q=>∃i j,xs=[.int i,.int j]/\Q (.int<|if j > i then j else i) H):=by
 intro U s g H xs l Q I r h;obtain⟨i,j,rfl,q⟩:=h;obtain⟨u,o,rfl,⟨t,rfl⟩,⟨p,rfl⟩⟩:=HX r;refine jq I.tk<|max_two_ints (I.ok.hd hc) λC T k ht=>⟨_,H,I.kept k,?_,q⟩;by_cases J:j > i
 ·rw[Aw J,Aw J];exact⟨_,rfl⟩
 ·rw[Ar J,Ar J];exact⟨_,rfl⟩
theorem Ol(hc:X.calm=true):jg X (.builtin "min") (λxs H Q=>∃i j,xs=[.int i,.int j]/\Q (.int<|if j<i then j else i) H):=by
 intro U s g H xs l Q I r h;obtain⟨i,j,rfl,q⟩:=h;obtain⟨u,o,rfl,⟨t,rfl⟩,⟨p,rfl⟩⟩:=HX r;refine jq I.tk<|min_two_ints (I.ok.hd hc) λC T k ht=>⟨_,H,I.kept k,?_,q⟩;by_cases J:j<i
 ·rw[Aw J,Aw J];exact⟨_,rfl⟩
 ·rw[Ar J,Ar J];exact⟨_,rfl⟩
end
structure vP(h:Xn)(x dx C:Addr)(mA:W5):Prop where
 obj:h.get? x=some (PySem.W.instObj C dx)
 ns:h.Ns1 dx mA
 ne:dx≠x
theorem zP(n:h.Ns1 dx mA):∃od,h.get? dx=some od/\∀name,PySem.W.lookIn name od=some (mA name):=by
 obtain⟨o,J,r,U,hd,g,_,j⟩:=n;refine⟨o,U,λname=>?_⟩;have e:=j name;unfold nsFind findBy at e;rw[<-Array.find?_toList] at e;unfold PySem.W.lookIn;rw[hd];dsimp only;split
 ·rename_i y q;rw[q] at e;exact BS some e
 ·rename_i q;rw[q] at e;have a:J.toList.any (·.refKey)=false:=by rw[List.any_eq_false];intro y l;obtain⟨z,t,I⟩:=g y<|Array.mem_toList_iff.mp l;simp[DictEntry.refKey,I]
  have p:¬J.toList.any (·.refKey)=true:=by rw[a];exact AH
  rw[Ar p];exact BS some e
theorem vP.look{x:Addr}(I:vP h x dx C mA):∃od,PySem.W.InstAt h x (PySem.W.instObj C dx) C (some od)/\∀name,PySem.W.lookIn name od=some (mA name):=
 let ⟨od,J,U⟩:=zP I.ns
 ⟨od,⟨I.obj,rfl,rfl,J⟩,U⟩
section
variable {prog:Xl}{w:Xm}{K:Ai}{x:Addr}{v:Xj}
theorem Om{expr:Bool}(X:K.In s.heap)(I:vP s.heap x dx C mA)(g:PySem.W.plainGet K C name=true)(j:PySem.W.hasDictIn K C=true)
 (l:PySem.W.findIn K (.ref C) name=some none) (o:mA name=some v) (U:PySem.W.handedIn v=true) (h:Q v { s with toks:=s.toks+1 }):
 wpAny (model prog w) A (getAttr (.ref x) name expr) Q E s:=by
 obtain⟨r,J,p⟩:=I.look;exact PySem.W.get_value X J (Dn g).1 (PySem.W.findObj_own j l rfl (by rw[p,o])) U h
theorem Oo{pl:Sem Bool}{Q:Xj×W8->Xk->Prop}(X:K.In s.heap)(I:vP s.heap x dx C mA)(U:PySem.W.plainGet K C name=true)
 (g:PySem.W.findIn K (.ref C) name=some (some<|.ref f)) (j:PySem.W.isFn K (.ref f)=true) (l:mA name=none) (h:Q (.ref f,[.ref x]) s):
 wpAny (model prog w) A (getMethod (.ref x) name pl) Q E s:=by
 obtain⟨o,J,p⟩:=I.look;exact PySem.W.method_fn X J (Dn U).1 (Dn U).2 g (beq_iff_eq.mp j) (by show(PySem.W.lookIn name o).map (·.isSome)=some false;rw[p,l];rfl) h
theorem Op{t:Xb}{Q:W4}(X:K.In s.heap)(I:vP s.heap x dx C mA)
 (hs:PySem.W.findIn K (.ref C) "__setattr__"=some (some<|.builtin "object.__setattr__")) (hp:PySem.W.plainOver K C=true) (T:PySem.W.takerIn K C name=some none) (hh:PySem.W.hasDictIn K C=true)
 (hw:PySem.Within mA t) (hsz:t.length<=sizeLine)
 (h:∀h',vP h' x dx C (λy=>if y=name then some v else mA y)->Heap.SameBut dx s.heap h'->Q () { s with heap:=h',toks:=s.toks+2 }):
 wpAny (model prog w) A (setAttr (.ref x) name v) Q E s:=by
 obtain⟨od,J,hl⟩:=I.look;refine PySem.W.set_plain X J hs<|PySem.W.osa_open (s:={ s with toks:=s.toks+1 }) (r:=none) X J hp T λb=>?_;obtain⟨cd,hc,j⟩:=PySem.W.any_some hh;have hx:s.heap.get? x=some ⟨.ref C,some dx,.plain,#[]⟩:=I.obj;refine Ad<|Ap<|Ad<|Ad<|wpAny_loadPart hx<|Ad<|PySem.W.Looks.here (s:={ s with toks:=s.toks+1 }) (PySem.W.looks_clsIn X hc) ?_;rw[j];refine Ap (a:=some dx)<|Ad<|Ap<|Ad ?_;refine wpAny_nsSet1 (s:={ s with toks:=s.toks+1 }) I.ns λh' U g=>?_;obtain⟨oD,a0,a1,l,o,p⟩:=U.count<|PySem.Within.cons name v hw;refine Ad (wpAny_lookBehind l (by rw[o];exact pastItsLine_dict (AL p (by rw[Az];lia))) ?_);exact Ap<|h _ ⟨(g.2 _<|AQ I.ne).trans I.obj,U,I.ne⟩ g
theorem Oq{R:Result->Xk->Prop}(X:K.In s.heap)(I:PySem.W.makesIn K C=true)
 (hi:PySem.W.findIn K (.ref C) "__init__"=some (some<|.ref f)) (J:PySem.W.typeIn K (.ref f)=some (.type "function"))
 (h:codeAny (model prog w) (A.under<|.builtin "type.__call__" ⟨.ref C::vs,kw⟩) (.call (.ref f) ⟨.ref (s.heap.objs.size+1)::vs,kw⟩) (PySem.W.InitBack (s.heap.objs.size+1) R)
  { s with heap:=(s.heap.push PySem.W.emptyDict).push (PySem.W.instObj C s.heap.objs.size) }):
 codeAny (model prog w) A (.call (.ref C) ⟨vs,kw⟩) R s:=by
 obtain⟨U,g,d,t,os⟩:=s;exact PySem.W.make_core (PySem.W.makes_of X I) (PySem.W.looks_findIn X hi) (λself=>PySem.W.bind_fn X self J) (.inl rfl) h
end
def dP(f:Str)(v:V):List (Str×V)->List (Str×V)
 |[]=>[(f,v)]
 |(g,x)::r=>if g=f then(g,v)::r else(g,x)::dP f v r
theorem kU(f g:Str)(v:V):∀fs:List (Str×V),(dP f v fs).lookup g=if g=f then some v else fs.lookup g
 |[]=>by
  show List.lookup g [(f,v)]=_;by_cases h:g=f
  ·have I:(g==f)=true:=beq_iff_eq.mpr h;simp only[List.lookup,I,Aw h]
  ·have I:(g==f)=false:=beq_eq_false_iff_ne.mpr h;simp only[List.lookup,I,Ar h]
 |(k,x)::r=>by
  have U:=kU f g v r;rw[show dP f v ((k,x)::r)=(if k=f then(k,v)::r else(k,x)::dP f v r) from rfl];by_cases J:k=f
  ·rw[Aw J];by_cases h:g=k
   ·have I:(g==k)=true:=beq_iff_eq.mpr h;simp only[List.lookup,I,Aw<|h.trans J]
   ·have I:(g==k)=false:=beq_eq_false_iff_ne.mpr h;simp only[List.lookup,I,Ar (λe:g=f=>h<|e.trans J.symm)]
  ·rw[Ar J];by_cases h:g=k
   ·have I:(g==k)=true:=beq_iff_eq.mpr h;simp only[List.lookup,I,Ar (λe:g=f=>J<|h.symm.trans e)]
   ·have I:(g==k)=false:=beq_eq_false_iff_ne.mpr h;simp only[List.lookup,I];exact U
theorem jE(f:Str)(v:V):∀fs:List (Str×V),f∈(dP f v fs).map (·.1)/\∀g,g∈fs.map (·.1)->g∈(dP f v fs).map (·.1)
 |[]=>⟨by simp[dP],λg h=>by simp at h⟩
 |(k,x)::r=>by
  obtain⟨J,U⟩:=jE f v r;rw[show dP f v ((k,x)::r)=(if k=f then(k,v)::r else(k,x)::dP f v r) from rfl];by_cases I:k=f
  ·rw[Aw I];subst I;exact⟨by simp,λg h=>by simpa using h⟩
  ·rw[Ar I];refine⟨?_,λg h=>?_⟩
   ·rw[AO];exact Ae _ J
   ·rw[AO] at h ⊢;rcases Am.mp h with e|e
    ·exact Am.mpr<|.inl e
    ·exact Ae _<|U g e
theorem lL(f:Str)(v:V):∀fs:List (Str×V),(dP f v fs).length<=fs.length+1
 |[]=>by simp[dP]
 |(k,x)::r=>by
  have J:=lL f v r;rw[show dP f v ((k,x)::r)=(if k=f then(k,v)::r else(k,x)::dP f v r) from rfl];by_cases I:k=f
  ·rw[Aw I,Az,Az];lia
  ·rw[Ar I,Az,Az];lia
theorem dm.some_of{o:Xf}(r:dm (some v) o):∃u,o=some u/\zq v u:=by cases o with|none=>exact(show False from r).elim|some u=>exact⟨u,rfl,r⟩
abbrev EJ:=@dm.some_of
theorem dm.none_of{o:Xf}(r:dm none o):o=none:=by cases o with|none=>rfl|some u=>exact(show False from r).elim
theorem Ot(r:zq v u):PySem.W.handedIn u=true:=by
 cases v with
 |non=>cases (show u=Value.none from r);rfl
 |bl b=>cases (show u=Value.bool b from r);rfl
 |int i=>obtain⟨t,e⟩:=(show ∃t,u=Value.int i t from r);cases e;rfl
 |str x=>obtain⟨t,e⟩:=(show ∃t,u=Value.str x t from r);cases e;rfl
 |byt b=>obtain⟨t,e⟩:=(show ∃t,u=Value.bytes b t from r);cases e;rfl
 |flt b=>obtain⟨t,e⟩:=(show ∃t,u=Value.float b t from r);cases e;rfl
 |ref a=>cases (show u=Value.ref a from r);rfl
 |ty n=>cases (show u=Value.type n from r);rfl
section
variable {P:Xl}{w:Xm}{a:Addr}{fs fs':List<|Str×V}
theorem mL(hok:g8 P w H h)(e:H a=some (.ins C dx fs)):∃mA,vP h a dx C mA/\(∀f,dm (fs.lookup f)<|mA f)/\PySem.Within mA (fs.map (·.1))/\fs.length<=1000/\H dx=some (.own a):=by obtain⟨d,z,ne,I,mA,n,r,q⟩:=(show vd P w H h a (.ins C dx fs) from hok a _ e);exact⟨mA,⟨I,n,ne⟩,r,q,z,d⟩
end
structure Cls(K:Ai)(C:Addr):Prop where
 pg:PySem.W.plainGet K C Str.empty=true
 hd:PySem.W.hasDictIn K C=true
 po:PySem.W.plainOver K C=true
 sa:PySem.W.findIn K (.ref C) "__setattr__"=some (some<|.builtin "object.__setattr__")
theorem Cls.get{K:Ai}(c:Cls K C)(f:Str):PySem.W.plainGet K C f=true:=c.pg
def NoAttr(K:Ai)(C:Addr)(f:Str):Prop:=PySem.W.findIn K (.ref C) f=some none
theorem NoAttr.taker{K:Ai}{f:Str}(n:NoAttr K C f):PySem.W.takerIn K C f=some none:=by unfold PySem.W.takerIn;rw[show PySem.W.findIn K (.ref C) f=some none from n];rfl
structure EK(K:Ai)(C:Addr)(m:Str)(f:Addr):Prop where
 at_:PySem.W.findIn K (.ref C) m=some (some<|.ref f)
 fn:PySem.W.isFn K (.ref f)=true
 kp:PySem.W.keepIn K (.ref f)=true
section
variable {a:Addr}{fs:List<|Str×V}{f:Str}
theorem wD{b:Bool}(I:z8 X pins σ H s)(e:H a=some (.ins C dx fs))(c:Cls X.K C)(n:NoAttr X.K C f)(l:fs.lookup f=some v)
 (h:∀u s',z8 X pins σ H s'->zq v u->Q u s'):wpAny (model X.prog X.w) A (getAttr (.ref a) f b) Q E s:=by
 obtain⟨U,O,r,_,_,_⟩:=mL I.hok e;obtain⟨u,g,J⟩:=EJ (v:=v) (o:=U f) (by rw[<-l];exact r f);exact Om I.kIn O (c.get f) c.hd n g (Ot J)<|h u _ (I.tok _) J
theorem xD{m:Str}{g:Addr}{pl:Sem Bool}{Q:Xj×W8->Xk->Prop}(I:z8 X pins σ H s)(e:H a=some (.ins C dx fs))(c:Cls X.K C)(k:EK X.K C m g)(l:fs.lookup m=none)
 (h:Q (.ref g,[.ref a]) s):wpAny (model X.prog X.w) A (getMethod (.ref a) m pl) Q E s:=by
 obtain⟨J,O,r,_,_,_⟩:=mL I.hok e;have U:J m=none:=dm.none_of (by rw[<-l];exact r m);exact Oo I.kIn O (c.get m) k.at_ k.fn U h
theorem xC{y:V}{Q:W4}(I:z8 X pins σ H s)(e:H a=some (.ins C dx fs))(c:Cls X.K C)(n:NoAttr X.K C f)(hl:fs.length<1000)(p:zq y u)
 (h:∀s',z8 X pins σ (upd H a<|.ins C dx<|dP f y fs) s'->Q () s'):wpAny (model X.prog X.w) A (setAttr (.ref a) f u) Q E s:=by
 obtain⟨U,O,r,j,_,l⟩:=mL I.hok e;have t:(fs.map (·.1)).length<=sizeLine:=by rw[Ah,sizeLine_eq];lia
 refine Op I.kIn O c.sa c.po n.taker c.hd j t λT J sb=>h _ ?_;have hd:∃o,T.get? dx=some o:=let ⟨o,_,_,e',_⟩:=J.ns;⟨o,e'⟩;refine I.write (x:=a) (e:=dx) (by rw[e];exact True.intro) (.inr l) (λb q hb z=>(sb.2 b hb).trans z) hd ?_;refine⟨by rw[qu O.ne];exact l,?_,O.ne,J.obj,_,J.ns,λg=>?_,λg hg=>?_⟩
 ·have:=lL f y fs;lia
 ·show dm ((dP f y fs).lookup g) (if g=f then some u else U g);rw[kU];by_cases q:g=f
  ·rw[Aw q,Aw q];exact p
  ·rw[Ar q,Ar q];exact r g
 ·by_cases q:g=f
  ·rw[q];exact(jE f y fs).1
  ·refine(jE f y fs).2 g (j g λz=>hg ?_);show(if g=f then some u else U g)=none;rw[Ar q];exact z
theorem z8.made(I:z8 X pins σ H s):z8 X pins σ (upd (upd H s.heap.objs.size<|.own<|s.heap.objs.size+1) (s.heap.objs.size+1)<|.ins C s.heap.objs.size [])
 { s with heap:=(s.heap.push PySem.W.emptyDict).push (PySem.W.instObj C s.heap.objs.size) }:=by
 have J:(s.heap.push PySem.W.emptyDict).get? s.heap.objs.size=some PySem.W.emptyDict:=vb s.heap rfl;have U:((s.heap.push PySem.W.emptyDict).push<|PySem.W.instObj C s.heap.objs.size).get? (s.heap.objs.size+1)=some (PySem.W.instObj C s.heap.objs.size):=by have:=vb (s.heap.push PySem.W.emptyDict) (o:=PySem.W.instObj C s.heap.objs.size) rfl;rwa[Heap.size_push] at this
 have g:(s.heap.push PySem.W.emptyDict).Ns s.heap.objs.size (λ_=>none):=⟨PySem.W.emptyDict,#[],_,J,rfl,(λe j=>absurd j (by simp)),λ_=>rfl⟩;have l:=I.laid (a:=s.heap.objs.size) (o:=.own<|s.heap.objs.size+1) (h':=s.heap.push PySem.W.emptyDict) (t':=s.toks) (λb u q=>t7 _ q) (An _) ⟨_,J⟩;refine l.laid (a:=s.heap.objs.size+1) (o:=.ins C s.heap.objs.size []) (t':=s.toks) (λb u q=>t7 _ q) (DV<|Heap.size_push _ _) ?_;have ne:s.heap.objs.size≠s.heap.objs.size+1:=A6<|Br _;refine⟨by rw[qu ne,zu],A2 _,ne,U,λ_=>none,(Heap.Ns1.of_empty g).at λo q=>t7 _ q,λ_=>True.intro,λy p=>absurd rfl p⟩
theorem Ou{prog:Xl}{w:Xm}{f:Str}(J:attributeBase e f env (eval e env)=eval e env)
 (h:wpAny (model prog w) A (eval e env) (λo I=>wpAny (model prog w) A (getAttr o f true) Q E I) E s):wpAny (model prog w) A (eval (.Attribute e f pos) env) Q E s:=
 Attribute_any_ h (by rw[arm_eval_Attribute,J])
end
def Ov(K:Ai)(ta:TE)(f:Str):TE:=λσ H Q=>ta σ H λx H1=>∃a C dx fs v,x=.ref a/\H1 a=some (.ins C dx fs)/\Cls K C/\NoAttr K C f/\fs.lookup f=some v/\Q v H1
def Ow(K:Ai)(ta tv:TE)(f:Str):TS:=λD σ H=>tv σ H λy H1=>ta σ H1 λx H2=>∃a C dx fs,x=.ref a/\H2 a=some (.ins C dx fs)/\Cls K C/\NoAttr K C f/\fs.length<1000/\
 D.nx σ (upd H2 a<|.ins C dx<|dP f y fs)
section
variable {f:Str}{tpos:Pos}{ta tv:TE}
theorem amp(U:PE X e ta)(g:attributeBase e f X.env (eval e X.env)=eval e X.env):PE X (.Attribute e f pos) (Ov X.K ta f):=by intro J s j H Q I h;refine Ou g<|aJ (U J s j H _ I h) λu s1 ψ=>?_;obtain⟨x,o,p,r,a,C,dx,fs,v,ex,ea,c,n,l,q⟩:=ψ;subst ex;obtain rfl:u=Value.ref a:=r;exact wD p ea c n l λu' s2 t T=>⟨v,o,t,T,q⟩
theorem Ox(g:PE X o ta)(j:PE X value tv)(hs:swapsWith value (some<|.Attribute o f hQ) pos.line X.env=pure false):PS X (.Assign [.Attribute o f hQ] value pos) (Ow X.K ta tv f):=by intro J s U H D I h;refine plainObj_wpAny_Assign_Attribute (aa (j J s U H _ I h) λu p y r t T q=>aJ (g J p U r _ t q) λov s2 ψ=>?_) hs;obtain⟨x,H2,I2,rx,a,C,dx,fs,ex,ea,c,n,l,q2⟩:=ψ;subst ex;obtain rfl:ov=Value.ref a:=rx;exact xC I2 ea c n l T λs3 I3=>⟨U,_,I3,q2⟩
end
section
variable {c:Xj}{b:Bool}
inductive lW(K:Ai)(H:Hp):V->Xj->Prop where
 |non:lW K H .non (.type "NoneType")
 |bl (x:Bool):lW K H (.bl x) (.type "bool")
 |int (i:Int):lW K H (.int i) (.type "int")
 |str (x:Str):lW K H (.str x) (.type "str")
 |flt (x:UInt64):lW K H (.flt x) (.type "float")
 |lst {a:Addr} {xs:Xp} (e:H a=some (.lst xs)):lW K H (.ref a) (.type "list")
 |frz {a:Addr} {o:Obj} {xs:Xp} (e:H a=some (.frz o<|.lst xs)):lW K H (.ref a) (.type "list")
 |tup {a:Addr} {xs:Xp} (e:H a=some (.tup xs)):lW K H (.ref a) (.type "tuple")
 |dK {a:Addr} {kvs:List<|zv×V} (e:H a=some (.dK kvs)):lW K H (.ref a) (.type "dict")
 |dT {a:Addr} {kvs:List<|Xr×V} (e:H a=some (.dT kvs)):lW K H (.ref a) (.type "dict")
 |ins {a C dx:Addr} {fs:List<|Str×V} (e:H a=some (.ins C dx fs)) (cl:Cls K C) (ha:PySem.W.findIn K (.ref C) "__class__"=some (some<|.builtin "object.__class__"))
  (hn:PySem.W.specialIn K (.builtin "object.__class__") "__get__"=some (some<|.builtin "getset_descriptor.__get__")) (htk:PySem.W.takesIn K (.builtin "object.__class__")=some true)
  (hm:PySem.W.mroIn K C (.type "object")=some true):lW K H (.ref a) (.ref C)
theorem bE{x:V}{t:Xj}(I:z8 X pins σ H s)(U:zq x u)(ty:lW X.K H x t)(e:PySem.W.kitOne X.K t c=some b)(h:∀tk,Q (.bool b) { s with toks:=tk }):
 wpAny (model X.prog X.w) A (call (.builtin "isinstance") [u,c]) Q E s:=by
 cases ty with
 |non=>cases (show u=Value.none from U);exact Bx PySem.W.kitx_none I.kIn True.intro e (λz=>nomatch z) h
 |bl y=>cases (show u=Value.bool y from U);exact Bx PySem.W.kitx_bool I.kIn True.intro e (λz=>nomatch z) h
 |int i=>obtain⟨t,q⟩:=(show ∃t,u=Value.int i t from U);cases q;exact Bx PySem.W.kitx_int I.kIn True.intro e (λz=>nomatch z) h
 |str y=>obtain⟨t,q⟩:=(show ∃t,u=Value.str y t from U);cases q;exact Bx PySem.W.kitx_str I.kIn True.intro e (λz=>nomatch z) h
 |flt y=>obtain⟨t,q⟩:=(show ∃t,u=Value.float y t from U);cases q;exact Bx PySem.W.kitx_float I.kIn True.intro e (λz=>nomatch z) h
 |@lst a l ea=>
  cases (show u=Value.ref a from U);obtain⟨_,_,n,_,g⟩:=(show vd X.prog X.w H s.heap a (.lst l) from I.hok a _ ea);exact Bx DA I.kIn ⟨_,g,rfl⟩ e (λz=>nomatch z) h
 |@frz a ob l ea=>
  cases (show u=Value.ref a from U);obtain⟨_,_,_,n,_,g⟩:=(show vd X.prog X.w H s.heap a (.frz ob<|.lst l) from I.hok a _ ea);exact Bx DA I.kIn ⟨_,g,rfl⟩ e (λz=>nomatch z) h
 |@tup a l ea=>
  cases (show u=Value.ref a from U);obtain⟨_,_,_,p⟩:=(show vd X.prog X.w H s.heap a (.tup l) from I.hok a _ ea);obtain⟨o,g,r,_⟩:=p;exact Bx PySem.W.kitx_tuple I.kIn ⟨o,g,r⟩ e (λz=>nomatch z) h
 |@dK a j ea=>
  cases (show u=Value.ref a from U);obtain⟨_,_,vs,_,p⟩:=(show vd X.prog X.w H s.heap a (.dK j) from I.hok a _ ea);obtain⟨o,es,ep,g,r,_⟩:=p;exact Bx PySem.W.kitx_dict I.kIn ⟨o,g,r.1⟩ e (λz=>nomatch z) h
 |@dT a j ea=>
  cases (show u=Value.ref a from U);obtain⟨_,_,l,_,o,es,ep,g,r,_⟩:=(show vd X.prog X.w H s.heap a (.dT j) from I.hok a _ ea);exact Bx PySem.W.kitx_dict I.kIn ⟨o,g,r.1⟩ e (λz=>nomatch z) h
 |@ins a C dx fs ea cl ha hn T hm=>
  cases (show u=Value.ref a from U);obtain⟨mA,O,_⟩:=mL I.hok ea;obtain⟨od,J,_⟩:=O.look;exact Bx (PySem.W.kitx_own (cl.get _) cl.hd ha hn T hm) I.kIn J e (λz=>nomatch z) h
end
structure vz(k:Nat)(A:Around):Prop where
 hd:A.handled=none
 dp:A.depth+3*k+5<recursionLimit
 un:A.units+16*k+200<cLine
theorem vz.mono{k:Nat}(r:vz k A)(h:j<=k):vz j A:=⟨r.hd,by have:=r.dp;lia,by have:=r.un;lia⟩
theorem vz.deeper{k:Nat}(r:vz (k+1) A)(env:Env):vz k (A.deeper env):=
 ⟨r.hd,by have:=r.dp;show A.depth+1+3*k+5<_;lia,by have:=r.un;show A.units+3+16*k+200<_;lia⟩
theorem wS :(A.under<|.builtin "type.__call__" ⟨.ref C::us,kw⟩).depth=A.depth+1:=by first|rfl|simp[Around.under,Code.weight,Code.isCreation,Code.isGuard,Code.isCaller,Code.frames,Code.isFrame,guardIds]
theorem xX :(A.under<|.builtin "type.__call__" ⟨.ref C::us,kw⟩).units=A.units+1:=by first|rfl|simp[Around.under,Code.cUnits,Code.frames,Code.isFrame]
theorem vz.make{k:Nat}(r:vz (k+1) A)(C:Addr)(us:W8)(kw:List<|Str×Xj):vz k (A.under<|.builtin "type.__call__" ⟨.ref C::us,kw⟩):=
 ⟨r.hd,by have:=r.dp;rw[wS];lia,by have:=r.un;rw[xX];lia⟩
theorem vz.depth{k:Nat}(r:vz k A):A.depth<recursionLimit:=by have:=r.dp;lia
def Oy:TA:=λ_ H Q=>Q [] H
def Oz(ta:TE)(tr:TA):TA:=λσ H Q=>ta σ H λx H1=>tr σ H1 λxs H2=>Q (x::xs) H2
section
variable {te:TE}{t:TA}
theorem oZ:PA X [] Oy:=λ_ _ _ _ H Q I h=>xB ⟨[],H,I,.nil,h⟩
abbrev Ex(e:Expr)(es:Xc)(X:Cx):Prop:=starEach (e::es) X.env=(false,eval e X.env)::starEach es X.env
theorem fe(g:PE X e te)(j:PA X es t)(hs:Ex e es X:=by rfl):PA X (e::es) (Oz te t):=by intro pos J s U H Q I h;rw[hs];show wpAny _ _ (spliced<|(false,eval e X.env)::backTo pos (starEach es X.env)) _ _ s;refine xb<|aa (g J s U H _ I h) λu l x o p r C=>?_;exact um (j pos J l U o _ p C) λus s2 T H2 I2 r2 q2=>⟨x::T,H2,I2,.cons r r2,q2⟩
def OA(t:TA):TE:=λσ H Q=>t σ H λxs H1=>xs.length<=sizeLine/\∀p,H1 p=none->Q (.ref p) (upd H1 p<|.tup xs)
def OB(t:TA):TE:=λσ H Q=>t σ H λxs H1=>xs.length<=sizeLine/\∀p,H1 p=none->Q (.ref p) (upd H1 p<|.lst xs)
theorem OC{x1}(h:PA X es t):PE X (.Tuple es x1 pos) (OA t):=by intro J s l H Q I o;refine wpAny_Tuple_spliced (aJ (h pos J s l H _ I o) λp U ⟨C,g,j,r,z,q⟩=>⟨by rw[<-r.length];exact z,?_⟩);have T:g U.heap.objs.size=none:=j.hok.fresh<|An _;refine⟨.ref U.heap.objs.size,upd g U.heap.objs.size<|.tup C,j.laid (t':=U.toks) (λb u e=>t7 _ e) (An _) ?_,rfl,q _ T⟩;exact⟨z,p,r,⟨_,vb _ rfl,rfl,_,rfl⟩⟩
theorem OD(h:PA X es t):PE X (.List es pos) (OB t):=by intro J s l H Q I o;refine wpAny_List_spliced (aJ (h pos J s l H _ I o) λp U ⟨C,g,j,r,z,q⟩=>⟨by rw[<-r.length];exact z,?_⟩);have T:g U.heap.objs.size=none:=j.hok.fresh<|An _;refine⟨.ref U.heap.objs.size,upd g U.heap.objs.size<|.lst C,j.laid (t':=U.toks) (λb u e=>t7 _ e) (An _) ?_,rfl,q _ T⟩;exact⟨z,p,0,r,vb _ rfl⟩
end
abbrev Sp:=Xp->Hp->VK->XK->Prop
abbrev b_:=List Env->Hp->Xk->XK->W3
structure xN(P:Xl)(w:Xm)(K:Ai)(mg:W5)(base:Xn)(A:Around)(outer:List Env)(s:Xk)(H:Hp):Prop where
 frames:A.frames=some outer
 mod:Mod K mg base
 bs:∀b o,base.get? b=some o->s.heap.get? b=some o/\H b=none
 bsz:base.objs.size<=s.heap.objs.size
 funs:s.heap.FunFrames base outer
 frf:∀b∈frs outer,H b=none
 hok:g8 P w H s.heap
 bare:AllBare s.gens
 tk:0<s.toks
def CE(outer:List Env)(P:Xl)(w:Xm)(H:Hp)(s:Xk)(Q:VK)(u:Xj)(s':Xk):Prop:=
 ∃v H',s'.os=s.os/\AllBare s'.gens/\Un (frs outer) [] H H' s.heap s'.heap/\g8 P w H' s'.heap/\zq v u/\Q v H'/\0<s'.toks
def CR(CX:b_)(outer:List Env)(P:Xl)(w:Xm)(H:Hp)(s:Xk)(Q:VK)(E:XK)(r:Result)(s':Xk):Prop:=
 match r with
 |.ok (.ret u)=>CE outer P w H s Q u s'
 |.ok _=>False
 |.error e=>CX outer H s E e s'
structure bL(P:Xl)(w:Xm)(K:Ai)(mg:W5)(base:Xn)(CX:b_)(k:Nat)(f:Addr)(fd:FuncData)(ps:Xb)(sp:Sp):Prop where
 len:∀vs H Q E,sp vs H Q E->vs.length=ps.length
 run:∀(A:Around) (outer:List Env) (s:Xk) (H:Hp) (args:Args) (us:W8) (vs:Xp) (Q:VK) (E:XK),vz k A->xN P w K mg base A outer s H->BindsTo s fd args (ps.zip us)->zn vs us->sp vs H Q E->
  codeAny (model P w) A (.call (.ref f) args) (CR CX outer P w H s Q E) s
theorem bL.mono{P:Xl}{w:Xm}{K:Ai}{CX:b_}{k:Nat}{sp:Sp}(F:bL P w K mg base CX j f fd ps sp)(h:j<=k):
 bL P w K mg base CX k f fd ps sp:=⟨F.len,λA I s H args J U Q E g=>F.run A I s H args J U Q E<|g.mono h⟩
theorem bL.imp{P:Xl}{w:Xm}{K:Ai}{CX:b_}{k:Nat}{sp J:Sp}(F:bL P w K mg base CX k f fd ps sp)
 (h:∀vs H Q E,J vs H Q E->sp vs H Q E):bL P w K mg base CX k f fd ps J:=
 ⟨λvs H Q E q=>F.len vs H Q E<|h _ _ _ _ q,λA I s H args U vs Q E g j l o p=>F.run A I s H args U vs Q E g j l o<|h _ _ _ _ p⟩
theorem xN.make{P:Xl}{w:Xm}{K:Ai}{outer:List Env}(e:xN P w K mg base A outer s H)(C:Addr)(us:W8)(kw:List<|Str×Xj):
 xN P w K mg base (A.under<|.builtin "type.__call__" ⟨.ref C::us,kw⟩) outer s H:=⟨by first|exact e.frames|(simpa[Around.under,Code.envs,Code.isFrame,pushEnvs] using e.frames),e.mod,e.bs,e.bsz,e.funs,e.frf,e.hok,e.bare,e.tk⟩
theorem z8.env0(I:z8 X pins σ H s):xN X.prog X.w X.K X.mg X.base X.A X.stack s H:=
 ⟨I.ok.frames,I.ok.mod,I.bs,AL I.ok.bsz I.sz,I.stack,I.stkFree,I.hok,I.bare,I.tk⟩
theorem z8.after{Q:VK}(I:z8 X pins σ H s)(h:CE X.stack X.prog X.w H s Q u s'):EP X pins σ Q u s':=by obtain⟨v,j,os,bare,un,J,r,q,o⟩:=h;obtain⟨l,g,d,t,U⟩:=s';obtain rfl:U=s.os:=os;exact⟨v,j,I.call (h':=l) (g':=g) (d':=d) (t':=t) (ch:=[]) un J bare λb z=>absurd z (by simp),r,q⟩
def HY(sp:Sp)(jN:Xp)(E:XK)(t:TA):TE:=λσ H Q=>t σ H λvs H1=>sp (vs++jN) H1 Q E
def OE(C:Addr)(m:Str)(sp:Sp)(jN:Xp)(E:XK)(ta:TE)(t:TA):TE:=λσ H Q=>ta σ H λx H1=>∃a dx fs,x=.ref a/\H1 a=some (.ins C dx fs)/\fs.lookup m=none/\
 t σ H1 λvs H2=>sp (x::(vs++jN)) H2 Q E
def OF(C:Addr)(sp:Sp)(jN:Xp)(E:XK)(t:TA):TE:=λσ H Q=>t σ H λvs H1=>∀x dx,H1 x=none->H1 dx=none->dx≠x->
 sp (.ref x::(vs++jN)) (upd (upd H1 dx<|.own x) x<|.ins C dx []) (λv H2=>v=.non/\Q (.ref x) H2) E
def aO(K:Ai)(fd:FuncData)(ps:Xb)(ds:W8):Prop:=
 ∀(s:Xk) (us:W8),K.In s.heap->(us++ds).length=ps.length->BindsTo s fd ⟨us,[]⟩ (ps.zip<|us++ds)
theorem aO.all{K:Ai}(h:∀us:W8,us.length=ps.length->bindArgs fd ⟨us,[]⟩=pure (ps.zip us)):aO K fd ps []:=λs us _ I=>by rw[Av] at I ⊢;exact .of_eq<|h us I
def jT(CX:b_)(X:Cx)(E:XK):Prop:=∀(pins:List<|Addr×Obj) (σ:St) (H:Hp) (s:Xk) (e:Xj) (s':Xk),z8 X pins σ H s->CX X.stack H s E e s'->X.xe e s'
section
variable {CX:b_}{k:Nat}{sp:Sp}{jN:Xp}{ds:W8}{E:XK}{m:Str}{p:Pos}{ta:TE}{t:TA}
theorem HZ{Q:VK}{vs:Xp}(F:bL X.prog X.w X.K X.mg X.base CX k f fd ps sp)(g:vz k X.A)(j:aO X.K fd ps ds)(hd:zn jN ds)(l:jT CX X E)
 (I:z8 X pins σ H s) (r:zn vs us) (h:sp (vs++jN) H Q E):wpAny (model X.prog X.w) X.A (call (.ref f) us) (EP X pins σ Q) X.xe s:=by
 have U:zn (vs++jN) (us++ds):=r.append hd;have o:(us++ds).length=ps.length:=by rw[<-U.length];exact F.len _ _ _ _ h
 refine wpAny_call<|codeAny_mono (F.run X.A X.stack s H ⟨us,[]⟩ (us++ds) (vs++jN) Q E g I.env0 (j s us I.kIn o) U h) λr p J=>?_;cases r with
 |error e=>exact l pins σ H s e p I J
 |ok t=>
  cases t with|ret u=>exact I.after J|next=>exact False.elim J|brk=>exact False.elim J|cont=>exact False.elim J
abbrev Ey(p:Pos)(es:Xc)(X:Cx):Prop:=(backTo p<|starEach es X.env).any (·.1)=false
theorem OG(F:bL X.prog X.w X.K X.mg X.base CX k f fd ps sp)(l:vz k X.A)(o:Gl X x)(C:X.mg x=some (.ref f))(T:PySem.W.keepIn X.K (.ref f)=true)(hb:aO X.K fd ps ds)(hd:zn jN ds)(hx:jT CX X E)
 (ha:PA X (e::es) t) (U:Ez x:=by decide) (he:Ex e es X:=by rfl) (g:Ey pos es X:=by rfl):
 PE X (.Call (.Name x p) (e::es) [] pos) (HY sp jN E t):=by
 intro J s σ H Q I h;refine wpAny_Call_Name_kw<|rH I o C ?_ U;refine Dr (h₀:=X.base) I.ok.mod.kin T (um (ha pos J s σ H _ I h) λus s1 vs H1 j r q=>⟨j.kIn,?_⟩) he g;exact HZ F l hb hd hx j r q
theorem OH{pl:Sem Bool}(he:PE X o ta)(c:Cls X.K C)(j:EK X.K C m f)(F:bL X.prog X.w X.K X.mg X.base CX k f fd ps sp)(hr:vz k X.A)(hb:aO X.K fd ps ds)(hd:zn jN ds)(hx:jT CX X E)(ha:PA X (e::es) t)
 (U:Ex e es X:=by rfl) (g:Ey pos es X:=by rfl)
 (ht:eval (.Call (.Attribute o m apos) (e::es) [] pos) X.env=(do
  let p <-eval o X.env
  standAt apos.atName
  let (f,first) <-holding [p] (getMethod p m pl)
  callWith pos f first (backTo pos<|starEach (e::es) X.env) (backToKw pos<|keywordEach [] X.env)):=by rfl):
 PE X (.Call (.Attribute o m apos) (e::es) [] pos) (OE C m sp jN E ta t):=by
 intro J s T H Q I h;refine PySem.W.methodCall_KW (pl:=pl) (aJ (he J s T H _ I h) λu s1 ψ=>?_) ht;obtain⟨x,H1,I1,rx,a,dx,fs,ex,ea,l,q⟩:=ψ;subst ex;obtain rfl:u=Value.ref a:=rx;refine xD I1 ea c j l ?_;refine Dr (first:=[.ref a]) (h₀:=X.base) I.ok.mod.kin j.kp (um (ha pos J s1 T H1 _ I1 q) λus s2 vs H2 I2 r q2=>⟨I2.kIn,?_⟩) U g;exact HZ (us:=.ref a::us) (vs:=.ref a::vs) F hr hb hd hx I2 (.cons rfl r) q2
structure Mk(K:Ai)(C f:Addr):Prop where
 makes:PySem.W.makesIn K C=true
 init:PySem.W.findIn K (.ref C) "__init__"=some (some<|.ref f)
 fn:PySem.W.isFn K (.ref f)=true
 kp:PySem.W.keepIn K (.ref C)=true
theorem OI{Q:VK}{vs:Xp}(M:Mk X.K C f)(F:bL X.prog X.w X.K X.mg X.base CX k f fd ps sp)(l:vz (k+1) X.A)(o:aO X.K fd ps ds)(hd:zn jN ds)
 (p:jT CX X E) (I:z8 X pins σ H s) (r:zn vs us)
 (h:∀x dx,H x=none->H dx=none->dx≠x->sp (.ref x::(vs++jN)) (upd (upd H dx<|.own x) x<|.ins C dx []) (λv H2=>v=.non/\Q (.ref x) H2) E):
 wpAny (model X.prog X.w) X.A (call (.ref C) us) (EP X pins σ Q) X.xe s:=by
 have g:=h (s.heap.objs.size+1) s.heap.objs.size (I.hok.fresh<|Ct _) (I.hok.fresh<|An _)<|A6<|Br _;have U:=z8.made (C:=C) I;have j:zn (V.ref (s.heap.objs.size+1)::(vs++jN)) (Value.ref (s.heap.objs.size+1)::(us++ds)):=.cons rfl<|r.append hd;have t:(Value.ref (s.heap.objs.size+1)::us++ds).length=ps.length:=by have e:=j.length;rw[F.len _ _ _ _ g] at e;exact e.symm
 refine wpAny_call (Oq (f:=f) I.kIn M.makes M.init (beq_iff_eq.mp M.fn) (codeAny_mono (F.run _ X.stack _ _ ⟨Value.ref (s.heap.objs.size+1)::us,[]⟩ (Value.ref (s.heap.objs.size+1)::(us++ds)) _ _ E (l.make C us [])
  (U.env0.make C us []) (o _ (Value.ref (s.heap.objs.size+1)::us) U.kIn t) j g) λr T J=>?_))
 cases r with
 |error e=>exact p pins σ _ _ e T U J
 |ok fl=>
  cases fl with
  |ret u=>
   obtain⟨v,H',I3,rv,ev,q3⟩:=U.after J;subst ev;exact⟨rv,⟨V.ref<|s.heap.objs.size+1,H',I3,rfl,q3⟩⟩
  |next=>exact False.elim J
  |brk=>exact False.elim J
  |cont=>exact False.elim J
theorem OJ(M:Mk X.K C f)(F:bL X.prog X.w X.K X.mg X.base CX k f fd ps sp)(l:vz (k+1) X.A)(o:Gl X x)(T:X.mg x=some (.ref C))(hb:aO X.K fd ps ds)(hd:zn jN ds)(hx:jT CX X E)
 (ha:PA X (e::es) t) (U:Ez x:=by decide) (he:Ex e es X:=by rfl) (g:Ey pos es X:=by rfl):
 PE X (.Call (.Name x p) (e::es) [] pos) (OF C sp jN E t):=by
 intro J s σ H Q I h;refine wpAny_Call_Name_kw<|rH I o T ?_ U;refine Dr (h₀:=X.base) I.ok.mod.kin M.kp (um (ha pos J s σ H _ I h) λus s1 vs H1 j r q=>⟨j.kIn,?_⟩) he g;exact OI M F l hb hd hx j r q
end
section
variable {CX:b_}{k:Nat}{ks:Xb}{sp:Sp}{E:XK}{m:Str}{p:Pos}{kws:List Keyword}{te ta:TE}{t tk:TA}{nm:Option Str}
variable {g:W8->W8->W8}{gV:Xp->Xp->Xp}
end
structure ay(N P:Xb)(sc:Scope):Prop where
 kind:sc.kind=.function
 co:sc.isCoroutine=false
 gen:sc.isGenerator=false
 nd:N.Nodup
 pre:N.take P.length=P
 par:∀x∈P,sc.names.lookup x=some .local\/sc.names.lookup x=some .cell
 nofree:∀y∈sc.names,y.2≠.free
theorem qH{kindOf:Str->Option NameKind}{x:Str}:∀{I:List<|Str×Xj} {m:W5},(∀v,(x,v)∉I)->bindL kindOf I m x=m x
 |[],_,_=>rfl
 |(n,v)::r,m,h=>by
  unfold bindL;rw[qH λw hw=>h w<|Ae _ hw];split
  ·have:x≠n:=by rintro rfl;exact h v Ag
   simp[this]
  ·rfl
theorem pX{kindOf:Str->Option NameKind}{x:Str}:∀{I:List<|Str×Xj} {m:W5},(∀v,(x,v)∉I)->bindC kindOf I m x=m x
 |[],_,_=>rfl
 |(n,v)::r,m,h=>by
  unfold bindC;rw[pX λw hw=>h w<|Ae _ hw];split
  ·rfl
  ·have:x≠n:=by rintro rfl;exact h v Ag
   simp[this]
theorem pP{kindOf:Str->Option NameKind}{x:Str}{v:Xj}:∀{P:Xb} {vs:W8} {i:Nat} {m:W5},P.Nodup->P[i]?=some x->vs[i]?=some v->kindOf x=some .local->
 bindL kindOf (P.zip vs) m x=some v
 |[],_,_,_,_,h,_,_=>by simp at h
 |_::_,[],_,_,_,_,h,_=>by simp at h
 |p::P,w::vs,0,m,nd,I,J,U=>by simp at I J;subst I;subst J;show bindL kindOf ((p,w)::P.zip vs) m p=_;unfold bindL;rw[qH λv g=>(AC.mp nd).1 (Dj g).1,Aw U];simp
 |p::P,w::vs,i+1,m,nd,I,J,U=>by show bindL kindOf ((p,w)::P.zip vs) m x=_;unfold bindL;exact pP (i:=i) (AC.mp nd).2 (by simpa using I) (by simpa using J) U
theorem pO{kindOf:Str->Option NameKind}{x:Str}{v:Xj}:∀{P:Xb} {vs:W8} {i:Nat} {m:W5},P.Nodup->P[i]?=some x->vs[i]?=some v->kindOf x≠some .local->
 bindC kindOf (P.zip vs) m x=some v
 |[],_,_,_,_,h,_,_=>by simp at h
 |_::_,[],_,_,_,_,h,_=>by simp at h
 |p::P,w::vs,0,m,nd,I,J,U=>by simp at I J;subst I;subst J;show bindC kindOf ((p,w)::P.zip vs) m p=_;unfold bindC;rw[pX λv g=>(AC.mp nd).1 (Dj g).1,Ar U];simp
 |p::P,w::vs,i+1,m,nd,I,J,U=>by show bindC kindOf ((p,w)::P.zip vs) m x=_;unfold bindC;exact pO (i:=i) (AC.mp nd).2 (by simpa using I) (by simpa using J) U
def start(N:Xb)(vs:Xp):St:=vs.map some++List.replicate (N.length-vs.length) none
def iQ(CX:b_)(P:Xl)(w:Xm)(K:Ai)(mg:W5)(base:Xn)(N:Xb)(eH:Str)(scope:Scope)(f:Addr)(cd:Xj)(A:Around)(outer:List Env)(s:Xk)(H:Hp)(E:XK):Cx where
 prog:=P
 w:=w
 K:=K
 mg:=mg
 base:=base
 A:=A.deeper<|envOfC eH scope s.heap.objs.size f cd
 N:=N
 s₀:=s
 H₀:=H
 env:=envOfC eH scope s.heap.objs.size f cd
 outer:=outer
 stack:=envOfC eH scope s.heap.objs.size f cd::outer
 ex:=[]
 calm:=true
 fn:=λ_=>true
 pn:=[]
 xe:=λe s'=>wpAny (model P w) (A.deeper<|envOfC eH scope s.heap.objs.size f cd) (leaving (envOfC eH scope s.heap.objs.size f cd) e) (λ_ I=>CX outer H s E e I) (λJ I=>CX outer H s E J I) s'
theorem uS{I:Scope}(h:I.names.lookup x=some .cell):∃c,(cellsFrom n I.names []).lookup x=some c:=by have q:=PySem.W.cellsFrom_some I.names n []<|.inl h;exact Option.isSome_iff_exists.mp q
theorem OK{CX:b_}{P:Xl}{w:Xm}{K:Ai}{N:Xb}{cd:Xj}{outer:List Env}{C:Xk}{E:XK}{vs:Xp}
 (S:ay N ps scope) (hd:A.handled=none) (J:xN P w K mg base A outer s H) (hl:vs.length=ps.length) (r:zn vs us)
 (x:InCallC s s.heap.objs.size (bindL (envOfC eH scope s.heap.objs.size f cd).kindOf (ps.zip us) λ_=>none) (cellsFrom (s.heap.objs.size+1) scope.names []) (bindC (envOfC eH scope s.heap.objs.size f cd).kindOf (ps.zip us) λ_=>none) C) (ht:0<C.toks):
 z8 (iQ CX P w K mg base N eH scope f cd A outer s H E) [] (start N vs) H C:=by
 have a0:ps.length<=N.length:=by have:=BS List.length S.pre;rw[A5] at this;lia
 obtain⟨o,tk,rfl,T⟩:=x.done;have U:∀b:Addr,b∉(iQ CX P w K mg base N eH scope f cd A outer s H E).ex:=λb z=>absurd (show b∈([]:List Addr) from z) (by simp);refine⟨⟨J.mod,S.kind,rfl,rfl,An _,λy z c o I=>?_,λy g=>?_,λy c _ h=>?_,λ_=>hd,Around.frames_deeper J.frames,.inr ⟨rfl,rfl⟩,λb z=>absurd z<|U b,J.bs,J.bsz,λb _ _=>U b,λb z=>absurd z<|U b,J.funs,J.frf⟩,
  rfl,J.bare,Un.kept T,⟨_,x.toInCall.ns,λi y v o I h3=>?_⟩,λy c h=>⟨_,x.cell y c h⟩,J.hok.fresh<|An _,λy c h=>?_,λp j=>absurd (show p∈([]:List<|Addr×Obj) from j) (by simp),J.hok.kept T,?_,ht⟩
 ·exact name_of_addr x.apart (BI o)<|BI I
 ·have g:scope.names.lookup y=some .cell\/scope.names.lookup y=some .free:=g;rcases g with g|g
  ·exact uS g
  ·exact absurd rfl<|S.nofree _<|BI g
 ·exact BJ<|x.above y c<|BI h
 ·have t:i<vs.length:=by
   unfold start at I;by_cases t:i<vs.length
   ·exact t
   ·rw[AK (by simpa using t)] at I;rw[Cp] at I;split at I<;>cases I
  have ha:vs[i]?=some v:=by unfold start at I;rw[AD (by simpa using t),Au] at I;cases e:vs[i]? with|none=>rw[e] at I;cases I|some a=>rw[e] at I;cases I;rfl
  obtain⟨u,hu,rv⟩:=r.get ha;have j:ps[i]?=some y:=by rw[<-S.pre,List.getElem?_take_of_lt (by lia)];exact o
  have l:ps.Nodup:=by rw[<-S.pre];exact S.nd.sublist<|DB _ _
  refine⟨u,rv,?_⟩;rcases S.par y (AF j) with k|k
  ·exact .inl ⟨k,pP l j hu k⟩
  ·obtain⟨c,e⟩:=uS (n:=s.heap.objs.size+1) k;refine .inr ⟨.inl k,c,e,?_⟩;have q:=x.cell y c e;rw[pO l j hu (by show scope.names.lookup y≠_;rw[k];decide)] at q;exact q
 ·exact J.hok.fresh<|BJ<|x.above y c<|BI h
 ·unfold start;show _=N.length;rw[Aa,Ah,B9];lia
theorem H0{CX:b_}{P:Xl}{w:Xm}{K:Ai}{k:Nat}{U:Arguments}{dV kV ct:Xj}
 {N:Xb} {sp:Sp} (lk:K.lookup f=some ⟨oc,od,.func<|PySem.W.fnOf name eH U body scope dV kV ir pm an fm ct,mD⟩) (a0:PySem.W.codeIn K fm eH=true) (S:ay N ps scope)
 (len:∀vs H Q E,sp vs H Q E->vs.length=ps.length)
 (j:∀(A:Around) (outer:List Env) (s:Xk) (H:Hp) (vs:Xp) (Q:VK) (E:XK),vz k (A.deeper<|envOfC eH scope s.heap.objs.size f fm)->sp vs H Q E->
  ∃t,lU (iQ CX P w K mg base N eH scope f fm A outer s H E) body t/\t { nx:=λ_ H'=>Q .non H',rt:=Q } (start N vs) H):
 bL P w K mg base CX (k+1) f (PySem.W.fnOf name eH U body scope dV kV ir pm an fm ct) ps sp:=by
 refine⟨len,λA outer s H args us vs Q E hr p hb r T=>?_⟩;have hl:=len _ _ _ _ T;have KX:K.In s.heap:=p.mod.kin.keeps λb o e=>(p.bs b o e).1;have a1:s.heap.NoLimit:=p.mod.nolimit.keeps λb o e=>(p.bs b o e).1;have l:∀y∈ps.zip us,scope.names.lookup y.1=some .local\/(scope.names.lookup y.1=some .cell/\((cellsFrom (s.heap.objs.size+1) scope.names []).lookup y.1).isSome=true):=λ ψ hy=>by
  obtain⟨n,v⟩:=ψ
  rcases S.par n (Dj hy).1 with q|q
  ·exact .inl q
  ·exact .inr ⟨q,PySem.W.cellsFrom_some _ _ _<|.inl q⟩
 refine codeAny_call_function hr.depth (KX _ _ lk) rfl S.co S.gen rfl (PySem.W.codeRec_of KX a0)<|hb _ _ _ _ ?_;refine jq p.tk<|wpAny_newFunctionEnv_cells S.kind l λa3 he s1 x a2=>?_;subst he;refine⟨a1.keeps x.toInCall.keep,codeAny_func ?_⟩;obtain⟨t,ht,hq⟩:=j A outer s H vs Q E (hr.deeper _) T;have I:z8 (iQ CX P w K mg base N eH scope f fm A outer s H E) [] (start N vs) H s1:=OK S hr.hd p hl r x a2;refine A4 (ht [] s1 (start N vs) H _ I hq) (λfl s' C=>?_) λe s' C=>C;have jv:∀{g:St} {H':Hp} {v:V} {u:Xj},z8 (iQ CX P w K mg base N eH scope f fm A outer s H E) [] g H' s'->zq v u->Q v H'->CE outer P w H s Q u s':=
  λ{g H' v u} J rv q=>⟨v,H',J.os,J.bare,J.base,J.hok,rv,q,J.tk⟩
 cases fl with
 |ret u=>
  obtain⟨v,g,H',J,rv,q⟩:=C;exact jv J rv q
 |next=>
  obtain⟨g,H',J,q⟩:=C;exact jv (v:=V.non) (u:=Value.none) J rfl q
 |brk=>
  obtain⟨_,_,_,q⟩:=C;exact False.elim q
 |cont=>
  obtain⟨_,_,_,q⟩:=C;exact False.elim q
section
variable {p:Pos}{t:TA}{id T:Xo}{r:Xp->Hp->VK->Prop}
def H9(r:Xp->Hp->VK->Prop)(t:TA):TE:=λσ H Q=>t σ H λvs H1=>r vs H1 Q
theorem uZ(hc:jg X (.builtin id) r)(l:Gl X x)(o:X.mg x=none)(C:bootBuiltins x=some (.builtin id))(T:PA X (e::es) t)(hn:x ≠ "__name__" := by decide)(U:Ez x:=by decide)
 (he:Ex e es X:=by rfl) (g:Ey pos es X:=by rfl):PE X (.Call (.Name x p) (e::es) [] pos) (H9 r t):=by
 intro J s j H Q I h;refine wpAny_Call_Name_kw<|jZ I l o C ?_ hn U;exact PyProof.Rows.callWith_builtin1 (um (T pos J s j H _ I h) λus s1 vs H1 I1 r1 q1=>hc J s1 j H1 vs us Q I1 r1 q1) he g
theorem jG(hc:jg X (.type T) r)(l:Gl X x)(o:X.mg x=none)(C:bootBuiltins x=some (.type T))(ha:PA X (e::es) t)(hn:x ≠ "__name__" := by decide)(U:Ez x:=by decide)
 (he:Ex e es X:=by rfl) (g:Ey pos es X:=by rfl):PE X (.Call (.Name x p) (e::es) [] pos) (H9 r t):=by
 intro J s j H Q I h;refine wpAny_Call_Name_kw<|jZ I l o C ?_ hn U;exact CF (um (ha pos J s j H _ I h) λus s1 vs H1 I1 r1 q1=>hc J s1 j H1 vs us Q I1 r1 q1) he g
end
section
variable [DecidableEq κ]
def ae(kvs:List<|κ×V)(k:κ):Xq:=(kvs.find? λI=>decide<|I.1=k).map (·.2)
def eF(kvs:List<|κ×V)(k:κ)(v:V):List (κ×V):=
 if (kvs.any λI=>decide<|I.1=k)=true then kvs.map (λI=>if I.1=k then(I.1,v) else I) else kvs++[(k,v)]
theorem oP{p:κ×V}{r:List<|κ×V}{k:κ}(e:p.1=k):ae (p::r) k=some p.2:=by simp[ae,Bz,e]
theorem iK{p:κ×V}{r:List<|κ×V}{k:κ}(e:¬p.1=k):ae (p::r) k=ae r k:=by simp[ae,Bz,e]
theorem u9(k:κ):∀kvs:List (κ×V),(kvs.any λI=>decide<|I.1=k)=(ae kvs k).isSome
 |[]=>rfl
 |p::r=>by
  rw[Ck];by_cases e:p.1=k
  ·simp only[oP e,Ax e,Bool.true_or,Option.isSome_some]
  ·rw[iK e,AB e,Bool.false_or];exact u9 k r
theorem fC(kvs:List<|κ×V)(k:κ)(v:V):(eF kvs k v).length<=kvs.length+1:=by
 unfold eF;split
 ·rw[Ah];lia
 ·rw[Aa,Az,CY];lia
theorem dm.isSome_eq{o:Xq}{u:Xf}(r:dm o u):o.isSome=u.isSome:=by
 cases o with
 |none=>cases u with|none=>rfl|some _=>exact(show False from r).elim
 |some _=>cases u with|none=>exact(show False from r).elim|some _=>rfl
theorem KV.val{kvs:List<|κ×V}{vs:List<|κ×Xj}(r:KV kvs vs)(k:κ):dm (ae kvs k) (valueAt vs k):=by
 unfold KV at r
 induction r with
 |nil=>exact True.intro
 |@cons p q l I h t g=>
  obtain⟨U,j⟩:=h;by_cases e:p.1=k
  ·have J:q.1=k:=U.symm.trans e;have b:valueAt (q::I) k=some q.2:=by simp[valueAt,Bz,J]
   rw[oP e,b];exact j
  ·have J:¬q.1=k:=λz=>e<|U.trans z;have b:valueAt (q::I) k=valueAt I k:=by simp[valueAt,Bz,J]
   rw[iK e,b];exact g
theorem KV.any{kvs:List<|κ×V}{vs:List<|κ×Xj}(r:KV kvs vs)(k:κ):(kvs.any λI=>decide<|I.1=k)=vs.any λI=>decide (I.1=k):=by
 unfold KV at r
 induction r with|nil=>rfl|cons h t J=>rw[Ck,Ck,J,h.1]
theorem KV.repl{kvs:List<|κ×V}{vs:List<|κ×Xj}(r:KV kvs vs)(k:κ){y:V}(U:zq y u):
 KV (kvs.map λI=>if I.1=k then(I.1,y) else I) (vs.map λI=>if I.1=k then(I.1,u) else I):=by
 unfold KV at r ⊢
 induction r with
 |nil=>exact .nil
 |@cons p q l o h t g=>
  rw[AO,AO];refine .cons ?_ g;obtain⟨J,j⟩:=h;by_cases e:p.1=k
  ·rw[Aw e,Aw<|J.symm.trans e];exact⟨J,U⟩
  ·rw[Ar e,Ar λz=>e<|J.trans z];exact⟨J,j⟩
theorem KV.put{kvs:List<|κ×V}{vs:List<|κ×Xj}(r:KV kvs vs)(k:κ){y:V}(I:zq y u):KV (eF kvs k y) (stored vs k u):=by
 unfold eF stored;rw[r.any k];by_cases e:(vs.any λJ=>decide<|J.1=k)=true
 ·rw[Aw e,Aw e];exact r.repl k I
 ·rw[Ar e,Ar e];exact Paired.snoc r ⟨rfl,I⟩
theorem KV.length{kvs:List<|κ×V}{vs:List<|κ×Xj}(r:KV kvs vs):kvs.length=vs.length:=Paired.length r
end
theorem hW{P:Xl}{w:Xm}{k:zv}(r:zq (kV k) u):(xq P w).is k u=true:=by
 cases k with
 |inl i=>obtain⟨t,e⟩:=(show ∃t,u=Value.int i t from r);subst e;exact ut P w i t
 |inr x=>obtain⟨t,e⟩:=(show ∃t,u=Value.str x t from r);subst e;exact tZ P w x t
theorem qP{P:Xl}{w:Xm}:∀{ks:Xr} {us:W8},zn (ks.map kV) us->ItemsAre (xq P w) ks us
 |[],_,r=>by rw[C7] at r;cases r;exact .nil
 |k::ks,_,r=>by rw[AO] at r;cases r with|cons h t=>exact .cons (hW h)<|qP t
abbrev KT(H:Hp):List (Xr×V)->List (Xr×Addr×Xj)->Prop:=Paired λp q=>p.1=q.1/\H q.2.1=some (.tup<|p.1.map kV)/\zq p.2 q.2.2
theorem KT.val{kvs:List<|Xr×V}{xs:List<|Xr×Addr×Xj}(r:KT H kvs xs)(k:Xr):dm (ae kvs k) ((atKey xs k).map (·.2)):=by
 induction r with
 |nil=>exact True.intro
 |@cons p q l I h t g=>
  obtain⟨U,_,j⟩:=h;by_cases e:p.1=k
  ·have J:q.1=k:=U.symm.trans e;have b:atKey (q::I) k=some q.2:=by simp[atKey,Bz,J]
   rw[oP e,b];exact j
  ·have J:¬q.1=k:=λz=>e<|U.trans z;have b:atKey (q::I) k=atKey I k:=by simp[atKey,Bz,J]
   rw[iK e,b];exact g
theorem KT.repl{kvs:List<|Xr×V}{xs:List<|Xr×Addr×Xj}(r:KT H kvs xs)(k:Xr){y:V}(g:zq y u):
 KT H (kvs.map λJ=>if J.1=k then(J.1,y) else J) (xs.map<|putAt k u):=by
 induction r with
 |nil=>exact .nil
 |@cons p q o C h t j=>
  rw[AO,AO];refine .cons ?_ j;obtain⟨I,U,l⟩:=h;unfold putAt;by_cases e:p.1=k
  ·rw[Aw e,Aw<|I.symm.trans e];exact⟨I,U,g⟩
  ·rw[Ar e,Ar λz=>e<|I.trans z];exact⟨I,U,l⟩
theorem KT.put{kvs:List<|Xr×V}{xs:List<|Xr×Addr×Xj}(r:KT H kvs xs)(k:Xr){b:Addr}{y:V}(J:H b=some (.tup<|k.map kV))(I:zq y u):
 KT H (eF kvs k y) (storedH xs k b u):=by
 have e:(kvs.any λU=>decide<|U.1=k)=(atKey xs k).isSome:=by rw[u9,(r.val k).isSome_eq,CG]
 unfold eF storedH;rw[e];by_cases q:(atKey xs k).isSome=true
 ·rw[Aw q,Aw q];exact r.repl k I
 ·rw[Ar q,Ar q];exact Paired.snoc r ⟨rfl,J,I⟩
theorem KT.keeps{kvs:List<|Xr×V}{xs:List<|Xr×Addr×Xj}(r:KT H kvs xs)(I:∀b ys,H b=some (.tup ys)->H' b=some (.tup ys)):KT H' kvs xs:=
 EF r λ_ _ z=>⟨z.1,I _ _ z.2.1,z.2.2⟩
section
variable {P:Xl}{w:Xm}{a:Addr}
theorem alt{u:HO}(ok:g8 P w H h)(e:Rd H a u):vd P w H h a u:=e.ok ok
theorem nW{kvs:List<|zv×V}(ok:g8 P w H h)(e:Rd H a<|.dK kvs):kvs.length<=sizeLine/\(a==sysModules)=false/\∃vs,KV kvs vs/\h.DictOf (xq P w) a vs:=
 show vd P w H h a (.dK kvs) from alt ok e
theorem F1{kvs:List<|zv×V}(ok:g8 P w H h)(e:H a=some (.dK kvs)):kvs.length<=sizeLine/\(a==sysModules)=false/\∃vs,KV kvs vs/\h.DictOf (xq P w) a vs:=nW ok<|.inl e
theorem mW{ks:Xr}(ok:g8 P w H h)(e:H a=some (.tup<|ks.map kV)):(tupleKind<|xq P w).is h ks a:=by obtain⟨_,I,r,o,J,U,n,g⟩:=(show vd P w H h a (.tup<|ks.map kV) from ok a _ e);exact⟨o,I.toArray,n,J,U,g,by simpa using qP r⟩
theorem pK{kvs:List<|Xr×V}(ok:g8 P w H h)(e:Rd H a<|.dT kvs):kvs.length<=sizeLine/\(a==sysModules)=false/\
 ∃xs,KT H kvs xs/\h.DictOfH (tupleKind<|xq P w) a xs:=by
 obtain⟨z,y,xs,r,o,U,g,j,C,T,h4,h5⟩:=(show vd P w H h a (.dT kvs) from alt ok e);refine⟨z,y,xs,r,o,U,g,j,C,T,h4,λx I=>?_,h5⟩;have all:∀{l:List<|Xr×V} {m:List<|Xr×Addr×Xj},KT H l m->∀x∈m,(tupleKind<|xq P w).is h x.1 x.2.1:=by
  intro l m q
  induction q with
  |nil=>intro x I;exact nomatch I
  |@cons p q ps qs J t ih=>
   intro x I;rcases Am.mp I with e|I
   ·subst e;exact mW ok (by rw[<-J.1];exact J.2.1)
   ·exact ih x I
 exact all r x I
theorem OL{kvs:List<|Xr×V}(ok:g8 P w H h)(e:H a=some (.dT kvs)):kvs.length<=sizeLine/\(a==sysModules)=false/\
 ∃xs,KT H kvs xs/\h.DictOfH (tupleKind<|xq P w) a xs:=pK ok<|.inl e
end
def sF(H:Hp)(a:Addr)(y:V)(r:Xq):Prop:=
 (∃kvs k,Rd H a (.dK kvs)/\y=kV k/\r=ae kvs k)\/∃kvs k b,Rd H a (.dT kvs)/\y=.ref b/\H b=some (.tup<|k.map kV)/\r=ae kvs k
def H_(H:Hp)(a:Addr)(y v:V)(H':Hp):Prop:=
 (∃kvs k,H a=some (.dK kvs)/\y=kV k/\kvs.length<sizeLine/\H'=upd H a (.dK<|eF kvs k v))\/
 ∃kvs k b,H a=some (.dT kvs)/\y=.ref b/\H b=some (.tup<|k.map kV)/\kvs.length<sizeLine/\H'=upd H a (.dT<|eF kvs k v)
theorem sF.k{a:Addr}{kvs:List<|zv×V}{k:zv}(e:H a=some (.dK kvs)):sF H a (kV k) (ae kvs k):=.inl ⟨kvs,k,.inl e,rfl,rfl⟩
section
variable {a:Addr}{y:V}{r:Xj}{o:Xq}
theorem z8.big(I:z8 X pins σ H s):sysModules<s.heap.objs.size:=by have h:mainGlobals<s.heap.objs.size:=(I.mod.glob.keeps I.bk).lt;exact Nat.lt_trans (by decide) h
theorem OM(hu:A.units+1<cLine)(I:z8 X pins σ H s)(g:sF H a y<|some v)(T:zq y u)(h:∀U s',z8 X pins σ H s'->zq v U->Q U s'):
 wpAny (model X.prog X.w) A (getItem (.ref a) u) Q E s:=by
 rcases g with⟨j,k,e,r,l⟩|⟨j,k,b,e,r,eb,l⟩
 ·subst r;obtain⟨z,hd,vs,rel,t⟩:=nW I.hok e;obtain⟨U,hw,J⟩:=EJ (v:=v) (o:=valueAt vs k) (by rw[l];exact rel.val k);exact wpAny_getItem_of (hW T) t.mapOf hw<|h U _ (I.tok _) J
 ·subst r;cases (show u=Value.ref b from T);obtain⟨z,hd,xs,rel,t⟩:=pK I.hok e;obtain⟨U,hw,J⟩:=EJ (v:=v) (o:=(atKey xs k).map (·.2)) (by rw[l];exact rel.val k);obtain⟨p,hp,C⟩:=AI.mp hw;refine wpAny_getItem_heap (tupleKind_room_in1 hu) (mW I.hok eb) t hp ?_;rw[C];exact h U _ (I.tok _) J
theorem ON(r:A.units+1<cLine)(I:z8 X pins σ H s)(g:sF H a y o)(p:zq y u)(h:∀s',z8 X pins σ H s'->Q (.bool o.isSome) s'):
 wpAny (model X.prog X.w) A (compareOp .In u<|.ref a) Q E s:=by
 rcases g with⟨J,k,e,U,l⟩|⟨J,k,b,e,U,eb,l⟩
 ·subst U;obtain⟨z,hd,t,rel,j⟩:=nW I.hok e;refine wpAny_in_of (hW p) hd j.mapOf ?_;rw[<-(rel.val k).isSome_eq,<-l];exact h _<|I.tok _
 ·subst U;cases (show u=Value.ref b from p);obtain⟨z,hd,C,rel,j⟩:=pK I.hok e;refine wpAny_in_heap (tupleKind_room_in1 r) (mW I.hok eb) hd j ?_;have q:=(rel.val k).isSome_eq;rw[CG] at q;rw[<-q,<-l];exact h _<|I.tok _
theorem OO(r:A.units+1<cLine)(I:z8 X pins σ H s)(g:sF H a y o)(p:zq y u)(h:∀s',z8 X pins σ H s'->Q (.bool<|!o.isSome) s'):
 wpAny (model X.prog X.w) A (compareOp .NotIn u<|.ref a) Q E s:=by
 rcases g with⟨J,k,e,U,l⟩|⟨J,k,b,e,U,eb,l⟩
 ·subst U;obtain⟨z,hd,t,rel,j⟩:=nW I.hok e;refine wpAny_notIn_of (hW p) hd j.mapOf ?_;rw[<-(rel.val k).isSome_eq,<-l];exact h _<|I.tok _
 ·subst U;cases (show u=Value.ref b from p);obtain⟨z,hd,C,rel,j⟩:=pK I.hok e;refine wpAny_notIn_heap (tupleKind_room_in1 r) (mW I.hok eb) hd j ?_;have q:=(rel.val k).isSome_eq;rw[CG] at q;rw[<-q,<-l];exact h _<|I.tok _
theorem rT{J:HO}(I:z8 X pins σ H s)(U:DX<|H a)(hs:Heap.SameBut a s.heap h')(g:∃q,h'.get? a=some q)(new:vd X.prog X.w (upd H a J) h' a J)(l:0<t':=by walk_at "t"):
 z8 X pins σ (upd H a J) { s with heap:=h',toks:=t' }:=
 I.write (x:=a) (e:=a) U (.inl rfl) (λb q j z=>(hs.2 b j).trans z) g new
theorem acl{P:Xl}{w:Xm}{kvs:List<|zv×V}{vs:List<|zv×Xj}(z:kvs.length<=sizeLine)(hd:(a==sysModules)=false)(rel:KV kvs vs)(I:h'.DictOf (xq P w) a vs):
 vd P w H' h' a (.dK kvs):=⟨z,hd,vs,rel,I⟩
theorem OP{Q:W4}(hu:A.units+1<cLine)(I:z8 X pins σ H s)(g:H_ H a y v H')(ry:zq y u)(rv:zq v r)(h:∀s',z8 X pins σ H' s'->Q () s'):
 wpAny (model X.prog X.w) A (setItem (.ref a) u r) Q E s:=by
 rcases g with⟨J,k,e,o,l,p⟩|⟨J,k,b,e,o,eb,l,p⟩
 ·subst o p;obtain⟨z,hd,vs,rel,t⟩:=F1 I.hok e;have C:vs.length<=sizeLine:=by rw[<-rel.length];exact z
  have T:(eF J k v).length<=sizeLine:=by have:=fC J k v;lia
  refine wpAny_setItem_pairs (hsz:=C) (hW ry) t λh' U hs=>h _ ?_;have he:∃q,h'.get? a=some q:=let ⟨q,_,_,j,_⟩:=U;⟨q,j⟩;exact rT I (by rw[e];exact True.intro) hs he<|acl T hd (rel.put k rv) U
 ·subst o p;cases (show u=Value.ref b from ry);obtain⟨z,hd,xs,rel,t⟩:=OL I.hok e;have C:xs.length<=sizeLine:=by rw[<-Paired.length rel];exact z
  have T:(eF J k v).length<=sizeLine:=by have:=fC J k v;lia
  refine wpAny_setItem_heap (hsz:=C) (tupleKind_room_in1 hu) (mW I.hok eb) t λh' U hs=>h _ ?_;obtain⟨q,es,ep,j,h2,h3,h4,_,h5⟩:=U;refine rT I (by rw[e];exact True.intro) hs ⟨q,j⟩ ⟨T,hd,_,(rel.put k eb rv).keeps λc ys ec=>?_,q,es,ep,j,h2,h3,h4,h5⟩;rw[qu<|M6 ec e λz=>nomatch z];exact ec
end
section
variable {a:Addr}{kvs:List<|zv×V}{k:zv}
end
def F2(i:Expr):Prop:=∀I J,subscripted i false I J=operate [I,J] (getItem I J)
theorem OQ{prog:Xl}{w:Xm}{slice:Expr}{T id:Xo}
 (t:typeLookup (.type T) "__getitem__" = pure (some<|.builtin id)) (hs:F2 slice)
 (h:wpAny (model prog w) A (eval value env) (λo U=>wpAny (model prog w) A (eval slice env) (λi I=>I.TypeIs o T/\wpAny (model prog w) A (getItem o i) Q E I) E U) E s):
 wpAny (model prog w) A (eval (.Subscript value slice pos) env) Q E s:=by
 refine Subscript_<|A4 h (λo U j=>A4 j (λi I J=>?_) λ_ _ x=>x) λ_ _ x=>x;obtain⟨p,J⟩:=J;unfold subscriptTail;refine Ad ?_;rw[getitemInPython_of_ne p.not_modules];refine Ad<|wpAny_specialOf p t ?_;have jv:wpAny (model prog w) A (subscripted slice false o i) (λr g=>wpAny (model prog w) A (letTemporaryGo value o r >>= λ_=>pure r) Q E g) E I:=by rw[hs o i];exact wpAny_operating<|A4 J (λr g l=>Ad<|wpAny_letTemporaryGo<|Ap l) λ_ _ x=>x
 first
  |exact Ap<|Ad jv
  |exact Ad<|Ap<|Ad jv
  |exact Ad jv
theorem sn{a:Addr}{y:V}{o:Xq}(I:z8 X pins σ H s)(g:sF H a y o):s.TypeIs (.ref a) "dict" := by
 rcases g with⟨J,k,e,_,_⟩|⟨J,k,b,e,_,_,_⟩
 ·obtain⟨_,_,j,_,U⟩:=nW I.hok e;exact U.typeIs
 ·obtain⟨_,_,l,_,U⟩:=pK I.hok e;exact U.typeIs
def OR(td ty:TE):TE:=λσ H Q=>td σ H λx H1=>ty σ H1 λy H2=>∃a v,x=.ref a/\sF H2 a y (some v)/\Q v H2
def OS(td ty tv:TE):TS:=λD σ H=>tv σ H λv H1=>td σ H1 λx H2=>ty σ H2 λy J=>∃a I,x=.ref a/\H_ J a y v I/\D.nx σ I
section
variable {i:Expr}{tpos:Pos}{tv:TE}
theorem OT(p:X.A.units+1<cLine)(r:PE X o td)(hi:PE X i ty)(hs:F2 i):PE X (.Subscript o i pos) (OR td ty):=by intro J s j H Q I h;refine OQ Dz.lookup hs<|aa (r J s j H _ I h) λu t x C T rx q1=>aJ (hi J t j C _ T q1) λiv s2 ψ=>?_;obtain⟨y,H2,l,ry,a,v,ex,g,q2⟩:=ψ;subst ex;obtain rfl:u=Value.ref a:=rx;exact⟨sn l g,OM p l g ry λw' s3 I3 U=>⟨v,H2,I3,U,q2⟩⟩
theorem OU(j:X.A.units+1<cLine)(l:PE X o td)(hi:PE X i ty)(p:PE X value tv)(hs:swapsWith value (some<|.Subscript o i hQ) pos.line X.env=pure false):
 PS X (.Assign [.Subscript o i hQ] value pos) (OS td ty tv):=by
 intro J s U H D I h;refine wpAny_Assign_Subscript (aa (p J s U H _ I h) λr t v C T rv q1=>aa (l J t U C _ T q1) λu s2 x H2 I2 rx q2=>aJ (hi J s2 U H2 _ I2 q2) λiv s3 ψ=>?_) hs;obtain⟨y,H3,I3,ry,a,H4,ex,g,q3⟩:=ψ;subst ex;obtain rfl:u=Value.ref a:=rx;exact OP j I3 g ry rv λs4 I4=>⟨U,H4,I4,q3⟩
end
theorem uk{P:Xl}{w:Xm}(h:Xn)(I:sysModules<h.objs.size):vd P w H (h.push { cls:=.type "dict",data:=.dict #[] }) h.objs.size (.dK []):=
 ⟨A2 _,beq_eq_false_iff_ne.mpr<|AQ<|A6 I,[],.nil,Heap.DictOf.new h⟩
def OV:TE:=λ_ H Q=>∀p,H p=none->Q (.ref p) (upd H p<|.dK [])
theorem OW:PE X (.Dict [] [] pos) OV:=λJ s U H Q I h=>
 wpAny_Dict_empty ⟨.ref s.heap.objs.size,_,I.laid (a:=s.heap.objs.size) (o:=.dK []) (t':=s.toks) (λ_ _ q=>t7 _ q) (An _)<|uk s.heap I.big,rfl,h _<|I.hok.fresh<|An _⟩
def rO:List (TE×TE)->St->Hp->(List (V×V)->Hp->Prop)->Prop
 |[],_,H,Q=>Q [] H
 |(tk,tv)::r,σ,H,Q=>tk σ H λx H1=>tv σ H1 λy H2=>rO r σ H2 λps I=>Q ((x,y)::ps) I
abbrev VV:List (V×V)->List (Xj×Xj)->Prop:=Paired λp q=>zq p.1 q.1/\zq p.2 q.2
def EN(X:Cx)(pos:Pos)(keys:List<|Option Expr)(values:Xc)(I:List<|TE×TE):Prop:=
 ∀(pins:List<|Addr×Obj) (s:Xk) (σ:St) (H:Hp) (Q:List (V×V)->Hp->Prop),z8 X pins σ H s->rO I σ H Q->
  wpAny (model X.prog X.w) X.A (evalPairs<|pairTrees keys values X.env pos) (λvs s'=>∃ps H',z8 X pins σ H' s'/\VV ps vs/\Q ps H') X.xe s
theorem OX :EN X pos [] [] []:=λJ s U H Q I h=>pairTrees_nil_walk ⟨[],H,I,.nil,h⟩
theorem i4{k v:Expr}{ks:List<|Option Expr}{vs:Xc}{tk tv:TE}{U:List<|TE×TE}(j:PE X k tk)(l:PE X v tv)(o:EN X pos ks vs U):
 EN X pos (some k::ks) (v::vs) ((tk,tv)::U):=λJ s g H Q I h=>
 pairTrees_cons_walk (aa (j J s g H _ I h) λu p x r t C T=>aa (l J p g r _ t T) λw2 s2 y H2 I2 ry q2=>
  aJ (o J s2 g H2 _ I2 q2) λws s3 ⟨ps,H3,I3,rel,q3⟩=>⟨(x,y)::ps,H3,I3,.cons ⟨C,ry⟩ rel,q3⟩)
def jQ(kvs more:List<|zv×V):List (zv×V):=more.foldl (λI J=>eF I J.1 J.2) kvs
theorem KV.merge:∀{more:List<|zv×V} {I:List<|zv×Xj} {kvs:List<|zv×V} {vs:List<|zv×Xj},KV more I->KV kvs vs->KV (jQ kvs more) (merged vs I):=by
 intro more I kvs vs r;unfold KV at r
 induction r generalizing kvs vs with
 |nil=>intro q;exact q
 |@cons p q g j h t J=>
  intro U;have e:KV (eF kvs p.1 p.2) (stored vs q.1 q.2):=by have:=U.put p.1 h.2;rw[<-h.1];exact this
  exact J e
theorem gZ:∀(more kvs:List<|zv×V),(jQ kvs more).length<=kvs.length+more.length
 |[],kvs=>by show kvs.length<=kvs.length+0;lia
 |p::r,kvs=>by have I:=gZ r<|eF kvs p.1 p.2;have J:=fC kvs p.1 p.2;show(jQ (eF kvs p.1 p.2) r).length<=_;rw[Az];lia
theorem nM{P:Xl}{w:Xm}:∀{kvs:List<|zv×V} {J:List<|Xj×Xj},VV (kvs.map λU=>(kV U.1,U.2)) J->∃I,Carries (xq P w) J I/\KV kvs I
 |[],_,r=>by rw[C7] at r;cases r;exact⟨[],True.intro,.nil⟩
 |p::kvs,_,r=>by
  rw[AO] at r;cases r with
  |@cons a b as bs h t=>
   obtain⟨I,c,q⟩:=nM (P:=P) (w:=w) t;obtain⟨b1,b2⟩:=b;exact⟨(p.1,b2)::I,⟨hW h.1,rfl,c⟩,.cons ⟨rfl,h.2⟩ q⟩
def OY(I:List<|TE×TE):TE:=λσ H Q=>∀p,H p=none->rO I σ (upd H p<|.dK []) λps H2=>H2 p=some (.dK [])/\∃kvs:List (zv×V),ps=kvs.map (λJ=>(kV J.1,J.2))/\kvs.length<=15/\Q (.ref p) (upd H2 p<|.dK<|jQ [] kvs)
theorem OZ{keys:List<|Option Expr}{values:Xc}{J:List<|TE×TE}(h:EN X pos keys values J)(U:keys.all (·.isSome)=true)(t:keys.length=values.length)(C:keys≠[])
 (p:keys.length<=15):PE X (.Dict keys values pos) (OY J):=by
 intro g s T H Q I q;have hn:=I.hok.fresh<|An s.heap.objs.size;have I1:=I.laid (a:=s.heap.objs.size) (o:=.dK []) (h':=s.heap.push { cls:=.type "dict",data:=.dict #[] }) (t':=s.toks) (λ_ _ q=>t7 _ q) (An _)<|uk s.heap I.big;refine wpAny_Dict_walk (knd:=xq X.prog X.w) U t C p<|aJ (h g _ T _ _ I1<|q _ hn) λws s2 ψ=>?_;obtain⟨ps,H2,r,rel,e,j,ep,lk,q2⟩:=ψ;subst ep;obtain⟨rs,c,rk⟩:=nM (P:=X.prog) (w:=X.w) rel;obtain⟨z,hd,a0,r0,dd⟩:=F1 r.hok e;cases r0;refine⟨rs,c,dd,λh' l hs=>⟨.ref s.heap.objs.size,_,?_,rfl,q2⟩⟩;have hz:(jQ [] j).length<=sizeLine:=by have h1:=gZ j [];rw[CY] at h1;rw[sizeLine_eq];lia
 have he:∃q,h'.get? s.heap.objs.size=some q:=let ⟨q,_,_,hq,_⟩:=l;⟨q,hq⟩;exact rT r (by rw[e];exact True.intro) hs he<|acl hz hd (rk.merge .nil) l
structure M1(X:Cx)(o:Expr)(m:Str)(apos:Pos)(e:Expr)(fx:Pos):Prop where
 base:attributeBase o m X.env (eval o X.env)=eval o X.env
 few:((backTo fx<|starEach [e] X.env).all (λx=>!x.1)&&(backToKw fx<|keywordEach [] X.env).all (λx=>x.1.isSome)
  && decide (([e]:Xc).length+([]:List Keyword).length+(if ([]:List Keyword).isEmpty then 0 else 1)<30))=true
 line:(apos.endLine==fx.line)=true
 trees:backTo fx (starEach [e] X.env)=[(false,eval e X.env)]
def Ia(H:Hp)(a:Addr):Prop:=(∃kvs,Rd H a<|.dK kvs)\/∃kvs,Rd H a<|.dT kvs
theorem O0{a:Addr}(I:z8 X pins σ H s)(d:Ia H a):
 s.TypeIs (.ref a) "dict" /\ (∀b,Value.ref a=.ref b->∃J,s.heap.get? b=some J/\J.dict=none)/\(a==sysModules)=false:=by
 rcases d with⟨g,e⟩|⟨g,e⟩
 ·obtain⟨_,hd,o,_,U⟩:=nW I.hok e;refine⟨U.typeIs,λb q=>?_,hd⟩;cases q;obtain⟨J,_,_,j,l,_⟩:=U;exact⟨J,j,l.2.1⟩
 ·obtain⟨_,hd,p,_,U⟩:=pK I.hok e;refine⟨U.typeIs,λb q=>?_,hd⟩;cases q;obtain⟨J,_,_,j,l,_⟩:=U;exact⟨J,j,l.2.1⟩
section
variable {a:Addr}{y d:V}{r:Xj}{o:Xq}
end
section
variable {f:Expr}{tx:TE}
end
section
variable {a:Addr}{kvs:List<|zv×V}
end
section
variable {a:Addr}{y:V}
end
end L2
namespace HT
open PySem PyProof.Rows
section
open PySem.SeqAt
open PySem.AutoSeq1 (wpAny_loadPart')
open PySem.MeetsSeq PySem.MeetsSeq2 PySem.MeetsSeq3
end
section
variable {prog:Xl}{w:Xm}
theorem cat_tup{b:Addr}{I:W8}(ht:IsTup s.heap t vs.toArray)(hb:IsTup s.heap b I.toArray)(p:vs≠[])
 (h1:I=[]->Q (.ref t) s) (h2:I≠[]->Q (.ref s.heap.objs.size) { s with heap:=s.heap.push { cls:=.type "tuple",data:=.seq (vs++I).toArray } })
 (hsz:vs.length+I.length<=sizeLine):wpAny (model prog w) A (binaryOp .Add (.ref t)<|.ref b) Q E s:=by
 obtain⟨⟨cls,r,data,C⟩,o,T,n,hd⟩:=id ht;obtain⟨⟨a0,U,data2,g⟩,J,j,n2,l⟩:=id hb;simp only at T hd j l;subst T hd j l;have e:vs.toArray++I.toArray=(vs++I).toArray:=by simp
 by_cases hw:I=[]
 ·exact concat_meets ⟨_,o,rfl⟩ ⟨_,J,rfl⟩ noFill_tuple_add seq_tuple_add PySem.F.slot_tuple_add PySem.F.entry_tuple_add (PySem.F.args_tuple_add_2 _ _)
   (tuple_addW1 t b vs.toArray I.toArray n n2 r U C g (by simpa using p) (by simp[hw])) ⟨o,J,h1 hw⟩
 ·refine concat_meets ⟨_,o,rfl⟩ ⟨_,J,rfl⟩ noFill_tuple_add seq_tuple_add PySem.F.slot_tuple_add PySem.F.entry_tuple_add (PySem.F.args_tuple_add_2 _ _)
   (tuple_addW2 t b vs.toArray I.toArray n n2 r U C g (by simpa using p) (by simpa using hw) (by rw[Aq,Aq];exact hsz)) ⟨o,J,?_⟩
  rw[e];exact h2 hw
def sIx(n d:Nat):Xg->Nat
 |none=>d
 |some v=>if v<0 then(v+(n:Int)).toNat else min v.toNat n
theorem sIx_none(n d:Nat):sIx n d none=d:=rfl
theorem sIx_nat(n d k:Nat):sIx n d (some (k:Int))=min k n:=by show(if (k:Int)<0 then((k:Int)+(n:Int)).toNat else min (k:Int).toNat n)=min k n;rw[Ar (by lia),Cg]
theorem sIx_le(n d:Nat)(hd:d<=n)(o:Xg):sIx n d o<=n:=by
 cases o with
 |none=>exact hd
 |some v=>
  show(if v<0 then(v+(n:Int)).toNat else min v.toNat n)<=n;by_cases I:v<0
  ·rw[Aw I];lia
  ·rw[Ar I];exact Nat.min_le_right _ _
theorem yz(v:Int)(n d:Nat):(if v<0 then max (v+(n:Int)) 0 else min v (n:Int))=((sIx n d (some v):Nat):Int):=by
 show(if v<0 then max (v+(n:Int)) 0 else min v (n:Int))=(((if v<0 then(v+(n:Int)).toNat else min v.toNat n):Nat):Int);by_cases I:v<0
 ·simp only[Aw I];lia
 ·simp only[Ar I];lia
theorem xI(lo hi:Xg)(n:Nat):Builtin.Slice.sliceAdjust lo hi 1 (n:Int)=(((sIx n 0 lo:Nat):Int),(sIx n n hi:Int)):=by
 have I:¬((1:Int)<0):=by lia
 unfold Builtin.Slice.sliceAdjust;simp only[I,if_false];refine El ?_ ?_
 ·cases lo with|none=>rfl|some v=>exact yz v n 0
 ·cases hi with|none=>rfl|some v=>exact yz v n n
theorem xU(i j:Nat):Builtin.Slice.slicePlaces (i:Int) (j:Int) 1=j-i:=by
 unfold Builtin.Slice.slicePlaces;have I:(1:Int) > 0:=by lia
 simp only[I,if_true,Int.ediv_one];split<;>lia
theorem oU{v:Xj}{o:Xg}{Q:Xg->Xk->Prop}(p:IsPart v o)(h:Q o s):wpAny (model prog w) A (Builtin.Slice.slicePartIndex v) Q E s:=by cases p with|none=>exact slicePart_none h|int i t=>exact slicePart_int h
theorem kK{j:Addr}{U g:Xj}{lo hi:Xg}{Q:Int×Int×Nat->Xk->Prop}(hs:s.heap.IsSliceOf j U g .none)(pl:IsPart U lo)(l:IsPart g hi)
 (h:Q (((sIx n 0 lo:Nat):Int),1,sIx n n hi-sIx n 0 lo) s):wpAny (model prog w) A (Builtin.Slice.sliceApplied (.ref j)<|pure (n:Int)) Q E s:=by
 obtain⟨os,I,o,J⟩:=id hs;unfold Builtin.Slice.sliceApplied Builtin.Slice.sliceFields;refine Ad<|Ad<|wpAny_field I J (x:=U) rfl<|Ad<|wpAny_field I J (x:=g) rfl<|Ad<|wpAny_field I J (x:=.none) rfl<|Ap ?_;refine Ad<|slicePart_none ?_;show wpAny _ _ (if ((1:Int)==0)=true then _ else _) _ _ s;rw[Ar (by decide)];refine Ad<|oU pl<|Ad<|oU l<|Ad<|Ap ?_;show wpAny _ _ (match Builtin.Slice.sliceAdjust lo hi 1 (n:Int) with|(lo,hi)=>pure (lo,(1:Int),Builtin.Slice.slicePlaces lo hi 1)) _ _ s;rw[xI lo hi n];show wpAny _ _ (pure (((sIx n 0 lo:Nat):Int),(1:Int),Builtin.Slice.slicePlaces ((sIx n 0 lo:Nat):Int) (sIx n n hi:Int) 1)) _ _ s;rw[xU];exact Ap h
theorem O1(xs:W9)(i k:Nat):((List.range k).filterMap λ(m:Nat)=>xs[((i:Int)+(m:Int)*1).toNat]?).toArray=((xs.toList.drop i).take k).toArray:=by
 have e:(λ(m:Nat)=>xs[((i:Int)+(m:Int)*1).toNat]?)=λm=>xs[i+m]?:=by
  funext m;have:((i:Int)+(m:Int)*1).toNat=i+m:=by lia
  rw[this]
 rw[e];have:=pick_run xs i k;rw[List.filterMap_map] at this;have I:((λx=>xs[x]?)∘λx=>i+x)=λm=>xs[i+m]?:=rfl;rw[I] at this;rw[this]
theorem getItem_tuple_cut{U:Addr}{items:W9}{p r:Xj}{lo hi:Xg}(J:IsTup s.heap t items)(hs:s.heap.IsSliceOf U p r .none)(pl:IsPart p lo)(C:IsPart r hi)
 (hw:¬(sIx items.size 0 lo=0/\sIx items.size items.size hi=items.size))
 (h:Q (.ref s.heap.objs.size) { s with heap:=s.heap.push { cls:=.type "tuple",data:=.seq ((items.toList.drop<|sIx items.size 0 lo).take<|sIx items.size items.size hi-sIx items.size 0 lo).toArray } })
 (hsz:items.size<=sizeLine):wpAny (model prog w) A (getItem (.ref t)<|.ref U) Q E s:=by
 have I:sizeOk (.seq ((items.toList.drop<|sIx items.size 0 lo).take<|sIx items.size items.size hi-sIx items.size 0 lo).toArray):=by show((items.toList.drop<|sIx items.size 0 lo).take<|sIx items.size items.size hi-sIx items.size 0 lo).toArray.size<=sizeLine;rw[Aq,A5,BR,A7];lia
 have hj:sIx items.size items.size hi<=items.size:=sIx_le _ _ (An _) hi;obtain⟨os,g,j,T⟩:=id hs;have l:s.TypeIs (.ref U) "slice" := ⟨os,g,j⟩;unfold getItem
 try with_reducible refine Bl ?_
 first|refine Ad (Ap ?_)|skip
 refine Ad<|wpAny_sequenceKey J.typeIs (by decide) ?_;refine Ad (wpAny_callSpecial?_slot (name:=Str.ofString "__getitem__") J.typeIs Cn
  (wpAny_call_entry Cn J.typeIs entry_tuple_getitem ?_<|args_tuple_getitem _ _))
 show wpAny _ _ (Builtin.Tuple.tupleItemsOf (.ref t) >>= _) _ _ s;refine Ad<|tupleItemsOf_ J ?_;refine Ad<|wpAny_typeOf l ?_;rw[Aw (by decide)];refine Ad<|kK hs pl C ?_;have o:¬((((sIx items.size 0 lo:Nat):Int)==0&&(1:Int)==1&&(sIx items.size items.size hi-sIx items.size 0 lo)==items.size)=true):=by intro q;rw[AU,AU] at q;have q1:((sIx items.size 0 lo:Nat):Int)=0:=eq_of_beq q.1.1;have q2:sIx items.size items.size hi-sIx items.size 0 lo=items.size:=eq_of_beq q.2;exact hw ⟨by lia,by lia⟩
 show wpAny _ _ (if (((sIx items.size 0 lo:Nat):Int)==0&&(1:Int)==1&&(sIx items.size items.size hi-sIx items.size 0 lo)==items.size)=true then _ else _) _ _ s;rw[Ar o,O1]
 first
  |exact Ad (m:=Builtin.Tuple.tupleExact _)<|BQ (Ap ⟨_,rfl,Ap h⟩) I
  |exact Ad (m:=Builtin.Tuple.tupleExact _)<|BQ (Ad<|Ap<|Ap ⟨_,rfl,Ap h⟩) I
  |exact Ad<|Ad (m:=Builtin.Tuple.tupleExact _)<|BQ (Ap<|Ap ⟨_,rfl,Ap h⟩) I
  |exact Ad<|Ad (m:=Builtin.Tuple.tupleExact _)<|BQ (Ap ⟨_,rfl,Ap h⟩) I
end
end HT
namespace L2
open PySem PySem.Spec PyProof.Rows
abbrev TO:=St->Hp->(Xg->Hp->Prop)->Prop
def PO(X:Cx)(e:Option Expr)(t:TO):Prop:=
 ∀(pins:List<|Addr×Obj) (s:Xk) (σ:St) (H:Hp) (Q:Xg->Hp->Prop),z8 X pins σ H s->t σ H Q->
  wpAny (model X.prog X.w) X.A (evalPart e X.env) (λu s'=>∃o H',z8 X pins σ H' s'/\IsPart u o/\Q o H') X.xe s
def O2:TO:=λ_ H Q=>Q none H
def O3(t:TE):TO:=λσ H Q=>t σ H λx H1=>∃i,x=.int i/\Q (some i) H1
section
variable {te:TE}{lo hi:Option Expr}{tl th:TO}
theorem O4:PO X none O2:=by intro J s U H Q I h;rw[evalPart_none];exact Ap ⟨none,H,I,.none,h⟩
theorem O5(h:PE X e te):PO X (some e) (O3 te):=by intro J s U H Q I hw;rw[evalPart_some];refine aa (h J s U H _ I hw) λu p x g j l o=>?_;obtain⟨i,rfl,q⟩:=o;obtain⟨t,rfl⟩:=l;exact⟨some i,g,j,.int i t,q⟩
def si(X:Cx)(r:V->Xg->Xg->Hp->VK->Prop):Prop:=
 ∀(pins:List<|Addr×Obj) (s:Xk) (σ:St) (H:Hp) (x:V) (v I J:Xj) (lo hi:Xg) (U:Addr) (Q:VK),z8 X pins σ H s->zq x v->s.heap.IsSliceOf U I J .none->IsPart I lo->IsPart J hi->r x lo hi H Q->
  ∃T id,typeLookup (.type T) "__getitem__" = pure (some<|.builtin id)/\s.TypeIs v T/\wpAny (model X.prog X.w) X.A (getItem v<|.ref U) (EP X pins σ Q) X.xe s
theorem si.or{U:V->Xg->Xg->Hp->VK->Prop}(h:si X r)(h':si X U):si X (λx lo hi H Q=>r x lo hi H Q\/U x lo hi H Q):=by
 intro J s g H x v j l lo hi o Q I p t pl C q;rcases q with q|q
 ·exact h J s g H x v j l lo hi o Q I p t pl C q
 ·exact h' J s g H x v j l lo hi o Q I p t pl C q
def O6(r:V->Xg->Xg->Hp->VK->Prop)(te:TE)(tl th:TO):TE:=λσ H Q=>te σ H λx H1=>tl σ H1 λl H2=>th σ H2 λu I=>r x l u I Q
theorem O7(t:si X r)(C:PE X e te)(hl:PO X lo tl)(hu:PO X hi th):PE X (.Subscript e (.Slice lo hi none p2) pos) (O6 r te tl th):=by intro J s g H Q I h;refine Subscript_<|aJ (C J s g H _ I h) λv s1 ψ=>?_;obtain⟨x,H1,I1,r1,q1⟩:=ψ;refine wpAny_Slice<|aJ (hl J s1 g H1 _ I1 q1) λj s2 ⟨l,H2,I2,pl,q2⟩=>aJ (hu J s2 g H2 _ I2 q2) λo U ψ=>?_;obtain⟨u,p,I3,pu,q3⟩:=ψ;rw[evalPart_none];refine Ap ?_;have I4:z8 X J g p { U with heap:=U.heap.push { cls:=.type "slice",data:=.fields #[j,o,.none] } }:=I3.kept (t':=U.toks) λb ob q=>t7 _ q;obtain⟨T,id,hT,ht,hg⟩:=t J { U with heap:=U.heap.push { cls:=.type "slice",data:=.fields #[j,o,.none] } } g p x v j o l u U.heap.objs.size Q I4 r1 (Heap.IsSliceOf.new ..) pl pu q3;show wpAny (model X.prog X.w) X.A (subscriptTail e (.Slice lo hi none p2) v<|.ref U.heap.objs.size) (EP X J g Q) X.xe { U with heap:=U.heap.push { cls:=.type "slice",data:=.fields #[j,o,.none] } };exact tail_any (ops:=[.ref U.heap.objs.size,v]) ht hT hg (by with_unfolding_all rfl)
def tL(xs:Xp)(lo hi:Xg):Xp:=(xs.drop<|HT.sIx xs.length 0 lo).take<|HT.sIx xs.length xs.length hi-HT.sIx xs.length 0 lo
theorem kR(xs:Xp)(lo hi:Xg):(tL xs lo hi).length<=xs.length:=by unfold tL;rw[A5,BR];lia
def O8(K:Ai):V->Xg->Xg->Hp->VK->Prop:=λx lo hi H Q=>∃a xs,x=.ref a/\dh K H a xs/\
 ¬(HT.sIx xs.length 0 lo=0/\HT.sIx xs.length xs.length hi=xs.length)/\∀p,H p=none->Q (.ref p) (upd H p<|.tup<|tL xs lo hi)
theorem O9:si X (O8 X.K):=by
 intro l s σ H x v vl vu lo g sl Q I C T pl pu h;obtain⟨a,U,rfl,hx,hw,q⟩:=h;cases C;obtain⟨j,r,p,t⟩:=I.tuple hx;have J:j.toArray.size=U.length:=by rw[Aq];exact r.length.symm
 refine⟨"tuple",_,Cn.lookup,p.typeIs,?_⟩;refine HT.getItem_tuple_cut p T pl pu (by rw[J];exact hw) ?_ (by rw[J];exact t);rw[J];refine⟨.ref s.heap.objs.size,_,I.laid (t':=s.toks) (o:=.tup<|tL U lo g) (λb ob q=>t7 _ q) (An _) ?_,rfl,q _<|I.hok.fresh<|An _⟩;exact⟨AL (kR U lo g) t,_,(r.drop<|HT.sIx U.length 0 lo).take<|HT.sIx U.length U.length g-HT.sIx U.length 0 lo,IsTup.new _ _⟩
def O_(K:Ai):R2:=λx y H Q=>∃a b xs ys,x=.ref a/\y=.ref b/\dh K H a xs/\dh K H b ys/\xs≠[]/\xs.length+ys.length<=sizeLine/\
 (ys=[]->Q (.ref a) H)/\(ys≠[]->∀p,H p=none->Q (.ref p) (upd H p<|.tup<|xs++ys))
theorem zn.nil_iff(r:zn xs us):us=[]↔xs=[]:=by cases r with|nil=>simp|cons _ _=>simp
theorem O':wc X (binaryOp .Add) (O_ X.K):=by intro g s σ H x y v u Q I p r h;obtain⟨a,b,t,C,rfl,rfl,T,hb,hx,j,q1,q2⟩:=h;cases p;cases r;obtain⟨a0,U,p1,_⟩:=I.tuple T;obtain⟨l,J,p2,_⟩:=I.tuple hb;refine HT.cat_tup p1 p2 (λz=>hx<|U.nil_iff.mp z) (λz=>⟨.ref a,H,I,rfl,q1<|J.nil_iff.mp z⟩) (λz=>?_) (by rw[<-U.length,<-J.length];exact j);refine⟨.ref s.heap.objs.size,_,I.laid (t':=s.toks) (o:=.tup<|t++C) (λb ob q=>t7 _ q) (An _) ?_,rfl,q2 (λw=>z<|J.nil_iff.mpr w) _<|I.hok.fresh<|An _⟩;exact⟨by rw[Aa];exact j,_,U.append J,IsTup.new _ _⟩
end
def e_(n:Nat)(i:Int):Option Nat:=if 0<=i then(if i<n then some i.toNat else none) else if -(n:Int)<=i then some (i+n).toNat else none
def cI(xs:List α)(i:Int):Option α:=(e_ xs.length i).bind λj=>xs[j]?
theorem yj{i:Int}(h:e_ n i=some j):seqIndex? i n=some j/\j<n /\ -(n:Int)<=i/\i<n:=by
 unfold e_ at h;by_cases J:0<=i
 ·rw[Aw J] at h;by_cases I:i<n
  ·rw[Aw I] at h;have e:i.toNat=j:=AY h;exact⟨by rw[seqIndex_of J I,e],by lia,by lia,I⟩
  ·rw[Ar I] at h;cases h
 ·rw[Ar J] at h;by_cases I : -(n:Int)<=i
  ·rw[Aw I] at h;have e:(i+n).toNat=j:=AY h;exact⟨by rw[seqIndex_neg (by lia) I,e],by lia,I,by lia⟩
  ·rw[Ar I] at h;cases h
theorem sJ{xs:List α}{i:Int}{v:α}(h:cI xs i=some v):∃j,seqIndex? i xs.length=some j/\xs[j]?=some v/\j<xs.length /\ -(xs.length:Int)<=i/\i<xs.length:=by
 unfold cI at h;cases e:e_ xs.length i with
 |none=>rw[e] at h;cases h
 |some j=>
  rw[e] at h;obtain⟨I,J,U,g⟩:=yj e;exact⟨j,I,h,J,U,g⟩
theorem jt{xs:List α}{v:α}(h:xs[j]?=some v):cI xs (j:Int)=some v:=by
 have I:j<xs.length:=(A1.mp h).1;have e:e_ xs.length (j:Int)=some j:=by unfold e_;rw[Aw (by lia),Aw (by lia)];simp
 unfold cI;rw[e];exact h
def qW(b:Expr):Prop:=∀o i,subscripted b false o i=operate [o,i] (getItem o i)
def IxR(X:Cx)(r:R2):Prop:=
 ∀(value slice:Expr) (pins:List<|Addr×Obj) (s:Xk) (σ:St) (H:Hp) (x y:V) (v u:Xj) (Q:VK),z8 X pins σ H s->zq x v->zq y u->r x y H Q->
  subscripted slice false v u=operate [v,u] (getItem v u)->wpAny (model X.prog X.w) X.A (subscriptTail value slice v u) (EP X pins σ Q) X.xe s
def Pa(X:Cx)(id:Xo)(r:V->Xp->Hp->VK->Prop):Prop:=
 ∀(pins:List<|Addr×Obj) (s:Xk) (σ:St) (H:Hp) (x:V) (xs:Xp) (v:Xj) (us:W8) (Q:VK),z8 X pins σ H s->zq x v->zn xs us->r x xs H Q->
  wpAny (model X.prog X.w) X.A (call (.builtin id)<|v::us) (EP X pins σ Q) X.xe s
section
variable {a b:Expr}{ta tb:TE}
theorem Pb{r:R2}(U:IxR X r)(g:PE X a ta)(j:PE X b tb)(hs:qW b):PE X (.Subscript a b pos) (Eb r ta tb):=by intro J s l H Q I h;exact Subscript_<|FV g j I h λv u o x y p t C T q=>U a b J o l p x y v u Q t C T q<|hs _ _
def Pd(K:Ai):R2:=λx y H Q=>∃p xs i v,x=.ref p/\y=.int i/\aY K H p xs/\cI xs i=some v/\Q v H
def Pe(K:Ai):R2:=λx y H Q=>∃p xs i v,x=.ref p/\y=.int i/\dh K H p xs/\cI xs i=some v/\Q v H
def Pf:R2:=λx y H Q=>∃z i c,x=.str z/\y=.int i/\z.length<=sizeLine/\cI z.cps.toList i=some c/\Q (.str ⟨#[c]⟩) H
theorem Pg:IxR X (Pd X.K):=by
 intro value slice J s C H x y v u Q I rx ry h T;obtain⟨p,xs,i,z,rfl,rfl,hq,he,q⟩:=h;cases rx;obtain⟨t,rfl⟩:=ry;obtain⟨g,r,pl,hz⟩:=I.list hq;obtain⟨j,U,h2,h3,h4,h5⟩:=sJ he;obtain⟨w,ew,l⟩:=r.get h2;have hl:=r.length;have hn:=jC;have jv:EP X J C Q w s:=⟨z,H,I,l,q⟩;by_cases h0:0<=i
 ·have o:i.toNat=j:=by rw[seqIndex_of h0 h5] at U;exact AY U
  exact item_listR pl.isList h0 (by lia) (by rw[o];simpa using ew) jv T
 ·have o:(i+(g.toArray.size:Int)).toNat=j:=by rw[seqIndex_neg (by lia) h4] at U;rw[Aq,<-hl];exact AY U
  exact subscriptTail_builtinR (x:=w) pl.isList.typeIs slot_list_getitem.lookup
   (wpAny_getItem_list_neg (Q:=λr s'=>r=w/\EP X J C Q r s') pl.isList (by lia) (by rw[Aq]<;>lia) (by lia) (by rw[o];simpa using ew) ⟨rfl,jv⟩) T
theorem Ph:IxR X (Pe X.K):=by
 intro value slice J s g H x y v u Q I l o h C;obtain⟨p,xs,i,z,rfl,rfl,T,he,q⟩:=h;cases l;obtain⟨t,rfl⟩:=o;obtain⟨a0,r,pl,hz⟩:=I.tuple T;obtain⟨j,h1,h2,h3,h4,h5⟩:=sJ he;obtain⟨w,ew,U⟩:=r.get h2;have hl:=r.length;have hn:=jC;have jv:EP X J g Q w s:=⟨z,H,I,U,q⟩;exact subscriptTail_builtinR (x:=w) pl.typeIs slot_tuple_getitem.lookup
  (getItem_tuple (j:=j) (Q:=λr s'=>r=w/\EP X J g Q r s') pl (by lia) (by lia) (by rw[Aq,<-hl];exact h1) (by simpa using ew) ⟨rfl,jv⟩) C
theorem Pj:IxR X Pf:=by
 intro value slice J s σ H x y v u Q I g l h o;obtain⟨z,i,c,rfl,rfl,hz,p,q⟩:=h;obtain⟨t,rfl⟩:=g;obtain⟨t',rfl⟩:=l;obtain⟨j,U,r,h3,C,T⟩:=sJ p;have hl:z.cps.toList.length=z.length:=by simp[Str.length]
 rw[hl] at U C T;have hn:=jC;exact tail_any (typeIs_str s z t) slot_str_getitem.lookup (getItem_str (c:=c) (by have e1:decide (i < -(2 ^ 63:Int))=false:=AB (by lia);have e2:decide (i>=2 ^ 63)=false:=AB (by lia);rw[e1,e2,Bool.or_false]) (by rw[U];simpa using r) ⟨.str ⟨#[c]⟩,H,I.tok _,⟨_,rfl⟩,q⟩) o
theorem vW(eK:W8)(n j:Nat)(u:Xj):Obj.mapSeq (·.setIfInBounds j u) { cls:=.type "list",data:=.seq eK.toArray n }={ cls:=.type "list",data:=.seq (eK.set j u).toArray n }:=by simp[Obj.mapSeq]
theorem z8.lst{p:Addr}(I:z8 X pins σ H s)(h:H p=some (.lst xs)):
 ∃(eK:W8) (n:Nat),zn xs eK/\s.heap.get? p=some { cls:=.type "list",data:=.seq eK.toArray n }/\xs.length<=sizeLine:=by
 obtain⟨z,eK,n,r,e⟩:=I.hok p _ h;exact⟨eK,n,r,e,z⟩
theorem z8.lstUpd{p:Addr}{ys:Xp}{its':W8}{n':Nat}{f:Obj->Obj}(I:z8 X pins σ H s)(h:H p=some (.lst xs))
 (U:s.heap.get? p=some { cls:=.type "list",data:=.seq eK.toArray n }) (J:f { cls:=.type "list",data:=.seq eK.toArray n }={ cls:=.type "list",data:=.seq its'.toArray n' }) (r:zn ys its') (hz:ys.length<=sizeLine) (t:Nat) (j:0<t:=by walk_at "t"):
 z8 X pins σ (upd H p<|.lst ys) { s with heap:=s.heap.update p f,toks:=t }:=by
 have e:(s.heap.update p f).get? p=some { cls:=.type "list",data:=.seq its'.toArray n' }:=by rw[Heap.get?_update_self f U (by rw[J]<;>rfl),J]
 refine I.write (x:=p) (e:=p) (by rw[h];trivial) (.inl rfl) (λb u g q=>(Heap.get?_update_other _ _<|AQ g).trans q) ⟨_,e⟩ ?_;exact⟨hz,its',n',r,e⟩
def Pk:V->V->V->Hp->(Hp->Prop)->Prop:=λo i v H Q=>∃p xs k j,o=.ref p/\i=.int k/\H p=some (.lst xs)/\e_ xs.length k=some j/\Q (upd H p<|.lst<|xs.set j v)
theorem Pl:HM X Pk:=by
 intro J s σ H o i v ov iv u Q I ro ri rv h;obtain⟨p,xs,k,j,rfl,rfl,hp,hj,q⟩:=h;cases ro;obtain⟨t,rfl⟩:=ri;obtain⟨U,n,r,l,hz⟩:=I.lst hp;obtain⟨g,h2,h3,h4⟩:=yj hj;have C:=r.length;have hn:=jC;have I':z8 X J σ (upd H p<|.lst<|xs.set j v) { s with heap:=s.heap.update p (Obj.mapSeq (·.setIfInBounds j u)) }:=
  I.lstUpd hp l (vW U n j u) (r.set rv j) (by rw[Bt];exact hz) s.toks
 by_cases h0:0<=k
 ·have T:k.toNat=j:=by rw[seqIndex_of h0 h4] at g;exact AY g
  exact PySem.W.ki_setAt l h0 (by lia) (by rw[Aq,<-C];exact h4) (by rw[T];exact⟨_,I',q⟩)
 ·have T:(k+(U.toArray.size:Int)).toNat=j:=by rw[seqIndex_neg (by lia) h3] at g;rw[Aq,<-C];exact AY g
  exact PySem.W.ki_setBack l (by lia) (by rw[Aq,<-C];exact h3) (by lia) (by rw[T];exact⟨_,I',q⟩)
theorem qX(lo hi:Xg)(n:Nat):(sliceBounds lo hi none n).1=((HT.sIx n 0 lo:Nat):Int)/\(sliceBounds lo hi none n).2.1=((HT.sIx n n hi:Nat):Int)/\(sliceBounds lo hi none n).2.2=1:=by
 refine⟨?_,?_,rfl⟩
 ·cases lo with
  |none=>simp[sliceBounds,HT.sIx]
  |some i=>
   simp only[sliceBounds,HT.sIx,Option.getD_none,show(1:Int) > 0 by decide,if_true];by_cases h:i<0
   ·simp only[h,if_true]<;>lia
   ·simp only[h,if_false]<;>lia
 ·cases hi with
  |none=>simp[sliceBounds,HT.sIx]
  |some i=>
   simp only[sliceBounds,HT.sIx,Option.getD_none,show(1:Int) > 0 by decide,if_true];by_cases h:i<0
   ·simp only[h,if_true]<;>lia
   ·simp only[h,if_false]<;>lia
theorem ou(eK:W8)(lo hi:Xg):slicePick eK.toArray lo hi none=((eK.drop<|HT.sIx eK.length 0 lo).take<|HT.sIx eK.length eK.length hi-HT.sIx eK.length 0 lo).toArray:=by obtain⟨I,J,U⟩:=qX lo hi eK.toArray.size;unfold slicePick;rw[I,J,U];simp only[sliceRange_one,pick_run,Aq]<;>rfl
def Pm(K:Ai):V->Xg->Xg->Hp->VK->Prop:=λx lo hi H Q=>∃a xs,x=.ref a/\aY K H a xs/\∀p,H p=none->Q (.ref p) (upd H p<|.lst<|tL xs lo hi)
theorem Pn:si X (Pm X.K):=by intro j s σ H x v vl vu lo g sl Q I p t pl C h;obtain⟨a,J,rfl,T,q⟩:=h;cases p;obtain⟨a0,r,l,hz⟩:=I.list T;have U:=r.length;refine⟨"list",_,slot_list_getitem.lookup,l.isList.typeIs,?_⟩;refine wpAny_getItem_list_slice l.isList t pl C .none (by simp) ?_ (by rw[Aq]<;>lia);rw[ou,<-U];refine⟨.ref s.heap.objs.size,_,I.laid (t':=s.toks) (o:=.lst<|tL J lo g) (λb ob q=>t7 _ q) (An _) ?_,rfl,q _<|I.hok.fresh<|An _⟩;exact⟨AL (kR J lo g) hz,_,0,(r.drop<|HT.sIx J.length 0 lo).take<|HT.sIx J.length J.length g-HT.sIx J.length 0 lo,vb _ rfl⟩
def am:V->Bool
 |.non=>true
 |.bl _=>true
 |.int _=>true
 |.str _=>true
 |_=>false
def l5:V->V->Bool
 |.non,.non=>true
 |.bl a,.bl b=>a==b
 |.bl a,.int b=>(if a then 1 else 0)==b
 |.int a,.bl b=>a==(if b then 1 else 0)
 |.int a,.int b=>a==b
 |.str a,.str b=>a==b
 |_,_=>false
theorem o5{y x:V}{v:Xj}(U:zq y u)(I:zq x v)(j:am y=true)(g:am x=true):SeqAt.EqAt A s u v (l5 y x):=by
 cases y with
 |non=>
  cases U;cases x with
  |non=>cases I;exact SeqAt.EqAt.same _
  |bl b=>cases I;exact SeqAt.EqAt.none_bool b
  |int b=>obtain⟨t,rfl⟩:=I;exact SeqAt.EqAt.none_int b t
  |str b=>obtain⟨t,rfl⟩:=I;exact SeqAt.EqAt.none_str b t
  |_=>exact absurd (show false=true from g) AH
 |bl a=>
  cases U;cases x with
  |non=>cases I;exact SeqAt.EqAt.bool_none a
  |bl b=>cases I;exact SeqAt.EqAt.bool_bool a b
  |int b=>obtain⟨t,rfl⟩:=I;exact SeqAt.EqAt.bool_int a b t
  |str b=>obtain⟨t,rfl⟩:=I;exact SeqAt.EqAt.bool_str a b t
  |_=>exact absurd (show false=true from g) AH
 |int a=>
  obtain⟨J,rfl⟩:=U;cases x with
  |non=>cases I;exact SeqAt.EqAt.int_none a J
  |bl b=>cases I;exact SeqAt.EqAt.int_bool a J b
  |int b=>obtain⟨t,rfl⟩:=I;exact SeqAt.EqAt.int_int a J b t
  |str b=>obtain⟨t,rfl⟩:=I;exact SeqAt.EqAt.int_str a J b t
  |_=>exact absurd (show false=true from g) AH
 |str a=>
  obtain⟨J,rfl⟩:=U;cases x with
  |non=>cases I;exact SeqAt.EqAt.str_none a J
  |bl b=>cases I;exact SeqAt.EqAt.str_bool a J b
  |int b=>obtain⟨t,rfl⟩:=I;exact SeqAt.EqAt.str_int a J b t
  |str b=>obtain⟨t,rfl⟩:=I;exact SeqAt.EqAt.str_str a J b t
  |_=>exact absurd (show false=true from g) AH
 |_=>exact absurd (show false=true from j) AH
def xY(x:V)(u:Xj):Bool:=match u with
 |.none=>l5 .non x
 |.bool b=>l5 (.bl b) x
 |.int i _=>l5 (.int i) x
 |.str z _=>l5 (.str z) x
 |_=>false
theorem Ib{x y:V}(r:zq y u)(f:am y=true):xY x u=l5 y x:=by
 cases y with
 |non=>cases r;rfl
 |bl b=>cases r;rfl
 |int i=>obtain⟨t,rfl⟩:=r;rfl
 |str z=>obtain⟨t,rfl⟩:=r;rfl
 |_=>exact absurd (show false=true from f) AH
theorem iH{x:V}:∀{xs:Xp} {us:W8},zn xs us->xs.all am=true->us.any (xY x)=xs.any λy=>l5 y x
 |_,_,.nil,_=>rfl
 |y::xs,u::us,.cons r t,f=>by rw[DJ,AU] at f;rw[Ck,Ck,Ib r f.1,iH t f.2]
theorem iN{x:V}{v:Xj}(J:zq x v)(U:am x=true):∀{xs:Xp} {us:W8},zn xs us->xs.all am=true->∀u∈us,SeqAt.EqAt A s u v (xY x u):=by
 intro xs us h
 induction h with
 |nil=>intro _ u I;cases I
 |cons r t g=>
  intro f j I;rw[DJ,AU] at f;rcases Am.mp I with rfl|I
  ·rw[Ib r f.1];exact o5 r J f.1 U
  ·exact g f.2 j I
def yW(x:V)(xs:Xp):Bool:=xs.any λy=>l5 y x
def F4(K:Ai)(neg:Bool):R2:=λx y H Q=>∃p xs,y=.ref p/\(aY K H p xs\/dh K H p xs)/\am x=true/\xs.all am=true/\Q (.bl<|if neg then !yW x xs else yW x xs) H
theorem Po:wc X (compareOp .In) (F4 X.K false):=by
 intro g s C H x y v u Q I j o h;obtain⟨p,T,rfl,U,l,fs,q⟩:=h;cases o;rcases U with U|U
 ·obtain⟨J,r,pl,t⟩:=I.list U;refine SeqAt.in_listAt (xY x) pl.isList (λw hw=>iN j l r fs w (by simpa using hw)) ⟨.bl _,H,I,rfl,?_⟩;rw[show J.toArray.any (xY x)=J.any (xY x) by simp,iH r fs];exact q
 ·obtain⟨J,r,pl,t⟩:=I.tuple U;refine SeqAt.in_tupleAt (xY x) pl (λw hw=>iN j l r fs w (by simpa using hw)) ⟨.bl _,H,I,rfl,?_⟩;rw[show J.toArray.any (xY x)=J.any (xY x) by simp,iH r fs];exact q
theorem rQ:wc X (compareOp .NotIn) (F4 X.K true):=by
 intro g s C H x y v u Q I j o h;obtain⟨p,T,rfl,U,l,fs,q⟩:=h;cases o;rcases U with U|U
 ·obtain⟨J,r,pl,t⟩:=I.list U;refine SeqAt.notIn_listAt (xY x) pl.isList (λw hw=>iN j l r fs w (by simpa using hw)) ⟨.bl _,H,I,rfl,?_⟩;rw[show J.toArray.any (xY x)=J.any (xY x) by simp,iH r fs];exact q
 ·obtain⟨J,r,pl,t⟩:=I.tuple U;refine SeqAt.notIn_tupleAt (xY x) pl (λw hw=>iN j l r fs w (by simpa using hw)) ⟨.bl _,H,I,rfl,?_⟩;rw[show J.toArray.any (xY x)=J.any (xY x) by simp,iH r fs];exact q
theorem sS:jg X (.builtin "len") (λxs H Q=>∃p ys,xs=[.ref p]/\(aY X.K H p ys\/dh X.K H p ys)/\Q (.int ys.length) H):=by
 intro l s C H xs T Q I r h;obtain⟨p,ys,rfl,U,q⟩:=h;obtain⟨u,rfl,o⟩:=sv r;cases o;have hn:=jC;rcases U with U|U
 ·obtain⟨g,j,pl,t⟩:=I.list U;have J:=j.length;exact Calls.call_len_list pl.isList (by simp only[Aq]<;>lia) ⟨.int ys.length,H,I.tok _,⟨s.toks+1,by rw[Aq,J]⟩,q⟩
 ·obtain⟨g,j,pl,t⟩:=I.tuple U;have J:=j.length;exact len_tuple pl (by simp only[Aq]<;>lia) ⟨.int ys.length,H,I.tok _,⟨s.toks+1,by rw[Aq,J]⟩,q⟩
theorem qU:jg X (.builtin "len") (λxs H Q=>∃z,xs=[.str z]/\z.length<=sizeLine/\Q (.int z.length) H):=by intro J s U H xs g Q I r h;obtain⟨z,rfl,j,q⟩:=h;obtain⟨u,rfl,t,rfl⟩:=sv r;have l:=jC;exact len_str (by lia) ⟨.int z.length,H,I.tok _,⟨_,rfl⟩,q⟩
theorem rP:jg X (.type "list") (λxs H Q=>∃p ys,xs=[.ref p]/\(aY X.K H p ys\/dh X.K H p ys)/\∀l,H l=none->Q (.ref l) (upd H l<|.lst ys)):=by
 intro t s σ H xs us Q I r h;obtain⟨p,ys,rfl,C,q⟩:=h;obtain⟨u,rfl,rx⟩:=sv r;cases rx;have jv:∀(J:W8),zn ys J->ys.length<=sizeLine->∀(U:Xn) (g:Nat),(∀b o',s.heap.get? b=some o'->U.get? b=some o')->
  U.get? s.heap.objs.size=some { cls:=.type "list",dict:=none,data:=.seq J.toArray g,slots:=#[] }->EP X t σ Q (.ref s.heap.objs.size) { s with heap:=U }:=λJ j T U g kp e=>
  ⟨.ref s.heap.objs.size,_,I.laid (t':=s.toks) kp (An _)<|show vd X.prog X.w _ U _ (.lst ys) from⟨T,J,g,j,e⟩,rfl,q _<|I.hok.fresh<|An _⟩
 rcases C with C|C
 ·obtain⟨J,j,pl,T⟩:=I.list C;have a0:=j.length;obtain⟨o,ho,hc,n,hd⟩:=pl.isList;exact call_list_seq p (.inl rfl) ho hc hd (λU g kp e=>jv J j T U g kp e) (by simp only[Aq]<;>lia)
 ·obtain⟨J,j,pl,T⟩:=I.tuple C;have a0:=j.length;obtain⟨o,ho,hc,n,hd⟩:=pl;exact call_list_seq p (.inr rfl) ho hc hd (λU g kp e=>jv J j T U g kp e) (by simp only[Aq]<;>lia)
theorem om:jg X (.type "tuple") (λxs H Q=>∃p ys,xs=[.ref p]/\((aY X.K H p ys/\∀l,H l=none->Q (.ref l) (upd H l<|.tup ys))\/(dh X.K H p ys/\Q (.ref p) H))):=by
 intro J s C H xs us Q I r h;obtain⟨p,ys,rfl,h⟩:=h;obtain⟨u,rfl,rx⟩:=sv r;cases rx;rcases h with⟨j,q⟩|⟨j,q⟩
 ·obtain⟨U,t,pl,T⟩:=I.list j;have a0:=t.length;refine call_tuple_list pl.isList (λg kp=>?_) (by simp only[Aq]<;>lia);have I1:z8 X J C H { s with heap:=g }:=I.kept (t':=s.toks) kp;have I2:z8 X J C (upd H g.objs.size<|.tup ys) { s with heap:=g.push { cls:=.type "tuple",data:=.seq U.toArray } }:=
   I1.laid (t':=s.toks) (λb o e=>t7 _ e) (An _) (show vd X.prog X.w _ _ _ (.tup ys) from⟨T,U,t,IsTup.new _ _⟩)
  exact⟨.ref g.objs.size,_,I2,rfl,q _<|I1.hok.fresh<|An _⟩
 ·obtain⟨U,t,pl,T⟩:=I.tuple j;exact call_tuple_same pl ⟨.ref p,H,I,rfl,q⟩
def F5(K:Ai)(T:Xo)(x:V)(H:Hp):Prop:=match x with
 |.str _=>T = "str"
 |.int _=>T = "int"
 |.ref p=>(T = "list" /\ ∃xs,aY K H p xs)\/(T = "tuple" /\ ∃o,K.lookup p=some o/\o.cls=.type "tuple" /\ o.dict=none)\/
  (T = "dict" /\ ((∃kvs,H p=some (.dK kvs))\/∃kvs,H p=some (.dT kvs)))\/(T = "set" /\ ∃S n,H p=some (.set S n))
 |_=>False
theorem Pp{T:Xo}{x:V}{v:Xj}(I:z8 X pins σ H s)(r:zq x v)(ty:F5 X.K T x H):
 s.TypeIs v T/\∀a,v=.ref a->∃j,s.heap.get? a=some j/\j.dict=none:=by
 cases x with
 |str z=>
  obtain⟨t,rfl⟩:=r;cases (show T = "str" from ty);exact⟨typeIs_str s z t,λ_ e=>nomatch e⟩
 |int i=>
  obtain⟨t,rfl⟩:=r;cases (show T = "int" from ty);exact⟨typeIs_int s i t,λ_ e=>nomatch e⟩
 |ref p=>
  cases r;rcases ty with⟨rfl,xs,l⟩|⟨rfl,o,J,C,hd⟩|⟨rfl,J⟩|⟨rfl,S,n,J⟩
  ·obtain⟨a0,_,pl,_⟩:=I.list l;refine⟨pl.isList.typeIs,λa e=>?_⟩;cases e;obtain⟨o,n,e,c,hd,_⟩:=pl;exact⟨o,e,hd⟩
  ·refine⟨⟨o,I.kIn p o J,C⟩,λa e=>?_⟩;cases e;exact⟨o,I.kIn _ o J,hd⟩
  ·have z:∃o,s.heap.get? p=some o/\o.ExactDict:=by
    rcases J with⟨U,J⟩|⟨U,J⟩
    ·obtain⟨_,_,_,_,o,_,_,e,ex,_⟩:=I.hok p _ J;exact⟨o,e,ex⟩
    ·obtain⟨_,_,_,_,o,_,_,e,ex,_⟩:=I.hok p _ J;exact⟨o,e,ex⟩
   obtain⟨o,e,ex⟩:=z;refine⟨⟨o,e,ex.1⟩,λa g=>?_⟩;cases g;exact⟨o,e,ex.2.1⟩
  ·obtain⟨o,_,_,_,e,ex,_⟩:=I.hok p _ J;refine⟨⟨o,e,ex.1⟩,λa g=>?_⟩;cases g;exact⟨o,e,ex.2.1⟩
 |_=>exact False.elim ty
def Pq(K:Ai)(T:Xo)(r:V->Xp->Hp->VK->Prop)(to:TE)(t:TA):TE:=λσ H Q=>to σ H λx H1=>F5 K T x H1/\t σ H1 λxs H2=>r x xs H2 Q
variable {to:TE}{t:TA}{T id:Xo}{r:V->Xp->Hp->VK->Prop}
theorem Ic(pa:PlainAttrs T)(slot:Slot T name id)(p:typeOf (.builtin id)=pure (.type "method_descriptor"))(hm:Pa X id r)(ho:PE X o to)(ha:PA X (e::es) t)
 (g:attributeBase o name X.env (eval o X.env)=eval o X.env:=by rfl)
 (l:((backTo fx<|starEach (e::es) X.env).all (λx=>!x.1)&&(backToKw fx<|keywordEach [] X.env).all (λx=>x.1.isSome)
  && decide ((e::es).length+([]:List Keyword).length+(if ([]:List Keyword).isEmpty then 0 else 1)<30))=true:=by rfl)
 (j:(apos.endLine==fx.line)=true:=by rfl) (hs:Ex e es X:=by rfl) (U:Ey fx es X:=by rfl):
 PE X (.Call (.Attribute o name apos) (e::es) [] fx) (Pq X.K T r to t):=by
 intro J s C H Q I h;refine wpAny_Call_method_late g l j rfl<|aJ (ho J s C H _ I h) λv s1 ψ=>?_;obtain⟨x,H1,I1,r1,ty,q1⟩:=ψ;obtain⟨h1,h2⟩:=Pp I1 r1 ty;refine⟨T,id,pa,slot,p,h1,h2,?_⟩;have hA:=ha fx J s1 C H1 _ I1 q1;rw[hs] at hA ⊢;refine Calls.callWith_builtin (by show(false||(backTo fx<|starEach es X.env).any (·.1))=false;rw[U]<;>rfl)<|Calls.evalArgs_plain ?_;exact aJ hA λus s2 ψ=>(by obtain⟨vs,H2,I2,r2,q2⟩:=ψ;exact hm J s2 C H2 x vs v us Q I2 r1 r2 q2)
end
def nV(X:Cx)(id:Xo)(r:V->Xp->Hp->VK->Prop):Prop:=
 ∀(pins:List<|Addr×Obj) (s:Xk) (σ:St) (H:Hp) (x:V) (xs:Xp) (v:Xj) (us:W8) (Q:VK),z8 X pins σ H s->zq x v->zn xs us->r x xs H Q->
  wpAny (model X.prog X.w) X.A (call (.builtin id)<|v::us) (EP X pins σ Q) X.xe s
theorem zn.one{x:V}(h:zn [x] us):∃u,us=[u]/\zq x u:=by cases h with|cons r t=>cases t;exact⟨_,rfl,r⟩
theorem zn.two{x y:V}(h:zn [x,y] us):∃u v,us=[u,v]/\zq x u/\zq y v:=by cases h with|cons r t=>cases t with|cons q t=>cases t;exact⟨_,_,rfl,r,q⟩
theorem zn.eraseIdx:∀{xs:Xp} {us:W8} (i:Nat),zn xs us->zn (xs.eraseIdx i) (us.eraseIdx i)
 |_,_,_,.nil=>.nil
 |_,_,0,.cons _ t=>t
 |_,_,i+1,.cons r t=>.cons r<|zn.eraseIdx i t
theorem qL{α:Type}:∀(l:List α) (i:Nat),(l.eraseIdx i).length<=l.length
 |[],_=>An _
 |_::_,0=>Ct _
 |_::r,i+1=>De<|qL r i
section
variable {b:Addr}{ys:Xp}
theorem z8.lset{its':W8}{f:W9->W9}(I:z8 X pins σ H s)(J:H l=some (.lst xs))
 (e:s.heap.get? l=some { cls:=.type "list",data:=.seq eK.toArray n }) (U:f eK.toArray=its'.toArray) (g:zn ys its') (hz:ys.length<=sizeLine) (p:0<t':=by walk_at "t"):
 z8 X pins σ (upd H l<|.lst ys) { s with heap:=s.heap.update l<|Obj.mapSeq f,toks:=t' }:=by
 have q:=PySem.IsL.update e f;rw[U] at q;refine I.write (x:=l) (e:=l) (by rw[J];exact trivial) (.inl rfl) (λr u j o=>(Heap.get?_update_other s.heap (Obj.mapSeq f)<|AQ j).trans o) ⟨_,q⟩ ?_;exact⟨hz,its',_,g,q⟩
theorem z8.lnew(I:z8 X pins σ H s)(J:zn ys eK)(hz:ys.length<=sizeLine)(U:0<t':=by walk_at "t"):
 z8 X pins σ (upd H s.heap.objs.size<|.lst ys) { s with heap:=s.heap.push { cls:=.type "list",data:=.seq eK.toArray },toks:=t' }:=
 I.laid (λ_ _ q=>t7 _ q) (An _) ⟨hz,eK,0,J,vb _ rfl⟩
theorem z8.fresh(I:z8 X pins σ H s):H s.heap.objs.size=none:=I.hok.fresh<|An _
theorem z8.lstM(I:z8 X pins σ H s)(J:H l=some (.lst xs)):xs.length<=sizeLine/\∃(eK:W8) (n:Nat),zn xs eK/\xs.length=eK.length/\s.heap.get? l=some { cls:=.type "list",data:=.seq eK.toArray n }:=by obtain⟨z,eK,n,r,e⟩:=I.hok l _ J;exact⟨z,eK,n,r,r.length,e⟩
theorem Ps(h:n<=sizeLine):Builtin.List.listTooLong n=false:=by unfold Builtin.List.listTooLong;exact AB (by lia)
end
def Pu:V->Xp->Hp->VK->Prop:=λx vs H Q=>∃l xs y,x=.ref l/\vs=[y]/\H l=some (.lst xs)/\xs.length<sizeLine/\Q .non (upd H l<|.lst<|xs++[y])
theorem Pw:nV X "list.append" Pu:=by intro U s t H x C v T Q I j o h;obtain⟨l,xs,y,rfl,rfl,g,hz,q⟩:=h;cases j;obtain⟨u,rfl,p⟩:=o.one;obtain⟨z,J,n,r,hl,e⟩:=I.lstM g;refine call_meets F.slot_list_append ⟨_,e,rfl⟩ F.entry_list_append (F.args_list_append_2 _ _) (PySem.list_append l J.toArray n u (by rw[Aq];lia)) ⟨e,?_⟩;refine⟨.non,_,I.lset (its':=J++[u]) g e (by simp) (r.append<|.cons p .nil) ?_,rfl,q⟩;rw[Aa,Bc];lia
def Px:V->Xp->Hp->VK->Prop:=λx vs H Q=>∃l b xs zs,x=.ref l/\vs=[.ref b]/\H l=some (.lst xs)/\H b=some (.lst zs)/\xs.length+zs.length<=sizeLine/\Q .non (upd H l<|.lst<|xs++zs)
theorem Py:nV X "list.extend" Px:=by
 intro o s σ H x vs v us Q I t C h;obtain⟨l,b,xs,zs,rfl,rfl,p,T,hz,q⟩:=h;cases t;obtain⟨u,rfl,ru⟩:=C.one;cases ru;obtain⟨z,U,n,r,hl,e⟩:=I.lstM p;obtain⟨z2,J,n2,r2,a0,e2⟩:=I.lstM T;have j:U.toArray.size+J.toArray.size<=sizeLine:=by rw[Aq,Aq];lia
 have g:¬(!U.toArray.isEmpty&&Builtin.List.listTooLong (U.toArray.size+J.toArray.size))=true:=by rw[Ps j,Bool.and_false];exact AH
 refine call_meets F.slot_list_extend ⟨_,e,rfl⟩ F.entry_list_extend (F.args_list_extend_2 _ _)
  (AutoSeq1.list_extend_list_list_0 l U.toArray n b J.toArray n2 g (by rw[Aq];lia) (by lia)) ⟨e,e2,?_⟩
 refine⟨.non,_,I.lset (its':=U++J) p e (by simp) (r.append r2) ?_,rfl,q⟩;rw[Aa];lia
def Pz:V->Xp->Hp->VK->Prop:=λx vs H Q=>∃l xs i k y,x=.ref l/\vs=[.int i]/\H l=some (.lst xs) /\ -(2 ^ 63)<=i/\i<2 ^ 63/\seqIndex? i xs.length=some k/\xs[k]?=some y/\Q y (upd H l<|.lst<|xs.eraseIdx k)
theorem PB:nV X "list.pop" Pz:=by
 intro g s σ H x vs v us Q I o p h;obtain⟨l,C,i,k,y,rfl,rfl,j,T,h2,hk,hy,q⟩:=h;cases o;obtain⟨u,rfl,ru⟩:=p.one;obtain⟨t,rfl⟩:=ru;obtain⟨z,J,n,r,hl,e⟩:=I.lstM j;obtain⟨w,hw,U⟩:=r.get hy;refine call_meets F.slot_list_pop ⟨_,e,rfl⟩ F.entry_list_pop (F.args_list_pop_2 _ _)
  (MeetsSeq.list_pop_at l J.toArray n i t k w (fitsIndex_both T h2) (by rw[Aq,<-hl];exact hk) (by rw[<-Bh];exact hw) (by rw[Aq];lia)) ⟨e,?_⟩
 refine⟨y,_,I.lset (its':=J.eraseIdx k) j e ?_ (r.eraseIdx k) ?_,U,q⟩
 ·show J.toArray.eraseIdxIfInBounds k=(J.eraseIdx k).toArray;rw[List.eraseIdxIfInBounds_toArray]
 ·have:=qL C k;lia
def PD:R2:=λx y H Q=>∃l b xs zs,x=.ref l/\y=.ref b/\H l=some (.lst xs)/\H b=some (.lst zs)/\xs.length+zs.length<=sizeLine/\∀p,H p=none->Q (.ref p) (upd H p<|.lst<|xs++zs)
theorem PH:wc X (binaryOp .Add) PD:=by
 intro g s σ H x y v u Q I j o h;obtain⟨l,b,xs,zs,rfl,rfl,p,t,hz,q⟩:=h;cases j;cases o;obtain⟨z,U,n,r,hl,e⟩:=I.lstM p;obtain⟨z2,J,n2,C,T,e2⟩:=I.lstM t;refine PySem.P.add_list e e2 ?_ (by rw[Aq,Aq];lia);have ea:U.toArray++J.toArray=(U++J).toArray:=by simp
 rw[ea];exact⟨.ref _,_,I.lnew (t':=s.toks) (r.append C) (by rw[Aa];lia),rfl,q _ I.fresh⟩
section
variable {prog:Xl}{w:Xm}
set_option maxRecDepth 100000 in
end
end L2
namespace Att
open PySem PySem.W PySem.Calls PyProof.Rows
theorem lV{P:Params} :∀(I:Xe) (vs:W8),WellAll P h vs (I.map WData.int)->IntsAre vs I:=by
 intro I
 induction I with
 |nil=>
  intro vs w;rw[C7] at w;cases w;exact .nil
 |cons n I J=>
  intro vs w;rw[AO] at w;cases w with
  |cons a b=>
   cases a;exact .cons _ _<|J _ b
theorem PJ{l:OpenLaw}(hn:l.most=some n){P:Params}{args:List WData}{J:W8}
 (U:l.row.toRowW.claim.pre args=true) (t:WellAll P h J args):
 ∃a vs I,J=[Value.ref a]/\args=[WData.list<|I.map WData.int]/\h.get? a=some { cls:=.type "list",data:=.seq vs.toArray }/\IntsAre vs I/\I.length<=n:=by
 have C:WShape.hasAll [] args [.list .int]=true:=(pre_splitW U).1;have T:l.pre.holds [] { args:=args }=true:=(pre_splitW U).2;obtain⟨d,r,rfl,h1,h2⟩:=hasAllW_cons C;obtain rfl:=hasAllW_nil h2;obtain⟨xs,rfl,h3⟩:=hasW_list h1;obtain⟨I,rfl⟩:=items_int h3;have g:I.length<=n:=by
  unfold OpenLaw.pre at T;have o:(WTm.not<|.lt (.lit<|.int (n:Int))<|.len<|.arg 0).holds [] { args:=[.list<|I.map .int] }=true:=by have o:=(holds_andW T).1;rw[hn] at o;exact o
  have p:=condW_of o<|w_not<|w_lt w_lit<|w_len_list<|w_arg rfl;rw[Ah] at p;refine Nat.le_of_not_lt λq=>?_;have q':(n:Int)<((I.length:Nat):Int):=by lia
  first
   |(rw[Ax q'] at p;exact absurd p (by decide))
   |(simp at p;lia)
 cases t with
 |cons w1 w2=>
  cases w2;cases w1 with|list ho j=>exact⟨_,_,I,rfl,rfl,ho,lV I _ j,g⟩
theorem PK(l:OpenLaw)(args:List WData):l.row.toRowW.claim.post args (.bool true) args=true:=
 postW_of (r:=l.row.toRowW) (X:=(true==true))
  (show WShape.has [] (.bool true) .bool=true by first|rfl|decide|simp[WShape.has,WShape.arms,WShape.armsAll])
  (show(WTm.eq .res<|.lit<|.bool true).value [] { args:=args,res:=some<|.bool true,after:=args }=some (.bool<|true==true) from w_eq_bool (w_res rfl) w_lit) rfl
theorem attach_callZ{l:OpenLaw}{q:Xl}{loose:Xb}{XP:(W5)->Xn->Prop}{as0:List Addr}{N t:Nat}{K:Params->Frag}{d:DefRec}
 (hn:l.most=some n) (C:d.params.defaults=[]) (ek:∀P,as0=(K P).map (·.1)) (T:0<t)
 (call:∀(w:Xm) (s₀ I:Xk) (mg mb:W5) (fa:Addr) (o:Obj) (pm cd ir:Xj) (a:Addr) (vs:W8) (J:Xe),
  Ground q loose [] XP w s₀ mg mb I.heap->(K w.params).In I.heap->0<I.toks->
  I.heap.get? fa=some o->o.data=.func (docDef d.name d.params d.body d.scope pm cd ir)->I.heap.CodeRec cd d.name->mg d.name=some (.ref fa)->
  I.heap.get? a=some { cls:=.type "list",data:=.seq vs.toArray }->IntsAre vs J->J.length<=n->I.gens=#[]->
  codeAny (model l.prog w) callerA (.call (.ref fa) ⟨[.ref a],[]⟩) (λr s'=>r=.ok (.ret<|.bool true)/\OldK I.heap s'.heap/\s'.os=I.os/\AllBare s'.gens) I):
 WalkX q loose XP (PySem.W.X.obsZ as0) (PySem.W.X.valZ K N t) l.row.toRowW d [] (λf vs=>PySem.call f vs):=by
 intro w s₀ I mg mb G Y fa o pm cd ir dV kV ho hd a0 hD a1 hg args a4 as L g a5 a7 a2 ab;obtain rfl:dV=.none:=Dflts.none hD C;obtain rfl:kV=.none:=Dflts.noKw hD;obtain⟨a,vs,J,rfl,rfl,j,U,p⟩:=PJ hn g a2;obtain⟨_,zi,_,zt⟩:=X.z_facts ek Y;have eP:∀J:Xe,ofPy (PyData.list<|J.map PyData.int)=WData.list (J.map WData.int):=λJ=>by
  simp only[ofPy];congr 1
  induction J with|nil=>simp[ofPys]|cons n r ih=>simp only[AO,ofPys,ofPy,ih]
 rw[<-eP] at L;have KX:=InK.keeps w s₀.heap I.heap zi L.keeps;have a3:0<I.toks:=AS T<|X.script_toks L zt;refine enter_call<|codeAny_mono (call w s₀ I mg mb fa o pm cd ir a vs J G KX a3 ho (fd_plain hd) a0 a1 j U p hg) λr s' hq=>?_;obtain⟨rfl,h2,h3,h4⟩:=hq;exact⟨.inl ⟨.bool true,.bool true,[],rfl,λ_=>rfl,.bool true,PK l _,λ_=>⟨List.Pairwise.nil,λ_ hm=>(nomatch hm)⟩⟩,h2,h3,h4⟩
section
variable {prog:Xl}{w:Xm}{K:Frag}
end
end Att
namespace L2
open PySem PySem.Spec PyProof.Rows
theorem pW:∀{vs:W8} {I:Xe},IntsAre vs I->zn (I.map V.int) vs
 |_,_,.nil=>.nil
 |_,_,.cons n t h=>.cons ⟨t,rfl⟩<|pW h
def x4(s:Stmt):Arguments:=match s with
 |.FunctionDef _ a _ _ _ _ _ _ _ _=>a
 |_=>{ posonlyargs:=[],args:=[],vararg:=none,kwonlyargs:=[],kw_defaults:=[],kwarg:=none,defaults:=[] }
def j6(s:Stmt):Xd:=match s with
 |.FunctionDef _ _ b _ _ _ _ _ _ _=>b
 |_=>[]
def qt(s:Stmt):Scope:=match s with
 |.FunctionDef _ _ _ _ _ _ I _ _ _=>I
 |_=>{ kind:=.function,names:=[],isGenerator:=false,isCoroutine:=false }
abbrev CX0:b_:=λ_ _ _ _ _ _=>False
abbrev E0:XK:=λ_ _ _=>False
theorem F6 :jT CX0 X E0:=λ_ _ _ _ _ _ _ h=>h.elim
structure Fun(K:Ai)(x eH:Str)(st:Stmt)(f:Addr)(fd:FuncData):Prop where
 ex:∃(oc:Xj) (od:Option Addr) (kV ir pm:Xj) (an:Option Addr) (fm ct:Xj) (mD:Array<|Xf),
  fd=PySem.W.fnOf x eH (x4 st) (j6 st) (qt st) .none kV ir pm an fm ct/\K.lookup f=some ⟨oc,od,.func fd,mD⟩/\PySem.W.codeIn K fm eH=true
 kp:PySem.W.keepIn K (.ref f)=true
section
variable {P:Xl}{w:Xm}{K:Ai}
theorem Fun.ok{N:Xb}{k:Nat}{sp:Sp}(F:Fun K x eH st f fd)(S:ay N ps<|qt st)(len:∀vs H Q E,sp vs H Q E->vs.length=ps.length)
 (I:∀(fm:Xj) (A:Around) (outer:List Env) (s:Xk) (H:Hp) (vs:Xp) (Q:VK) (E:XK),vz k (A.deeper<|envOfC eH (qt st) s.heap.objs.size f fm)->sp vs H Q E->
  ∃t,lU (iQ CX0 P w K mg base N eH (qt st) f fm A outer s H E).nox (j6 st) t/\t { nx:=λ_ H'=>Q .non H',rt:=Q } (start N vs) H):bL P w K mg base CX0 (k+1) f fd ps sp:=by
 obtain⟨o,p,kV,g,pm,an,fm,ct,j,rfl,lk,J⟩:=F.ex;refine H0 lk J S len λA outer s H vs Q E l U=>?_;obtain⟨t,h,q⟩:=I fm A outer s H vs Q E l U;exact⟨t,h.nox,q⟩
theorem Ie{kV ct:Xj}(l:K.lookup f=some ⟨oc,od,.func<|PySem.W.fnOf x eH (x4 st) (j6 st) (qt st) .none kV ir pm an fm ct,mD⟩)
 (c:PySem.W.codeIn K fm eH=true) (k:PySem.W.keepIn K (.ref f)=true):Fun K x eH st f (PySem.W.fnOf x eH (x4 st) (j6 st) (qt st) .none kV ir pm an fm ct):=⟨⟨oc,od,kV,ir,pm,an,fm,ct,mD,rfl,l,c⟩,k⟩
end
theorem qM(h:n<=1000):n<sizeLine:=Bw h (by decide)
theorem pv(i:Nat)(hN:X.N[i]?=some x:=by rfl)(J:A_ X.env.scope x:=by first|exact Or.inl rfl|exact Or.inr (Or.inl rfl)|exact Or.inr<|Or.inr rfl)(hd:Ez x:=by decide)
 (I:EX x:=by decide):PE X (.Name x pos) (FJ i):=Nb hN J hd I
section
variable [DecidableEq κ]
end
end L2
set_option maxHeartbeats 8000000
theorem EQ{a b c:Nat}(h:a<b:=by assumption)(k:b<=c:=by assumption):a<c:=AS h k
theorem pG{a b c:Nat}(h:a<=b:=by assumption)(k:b<c:=by assumption):a<c:=Bw h k
theorem F7{a b c:Nat}(h:a<=b:=by assumption)(k:b<=c:=by assumption):a<=c:=AL h k
theorem rA{a b c:Nat}(h:a<b:=by assumption)(k:b<c:=by assumption):a<c:=Nat.lt_trans h k
theorem EY{a b c:Nat}(h:a<=b:=by assumption)(k:b<=c:=by decide):a<=c:=AL h k
theorem EZ{a b:Nat}(h:a<=b:=by assumption):a<b+1:=Nat.lt_succ_of_le h
theorem F8{a b:Nat}(h:a<=b:=by assumption):a<=b+1:=B0 h
theorem jU{a b:Nat}(h:a<b:=by assumption):a<=b:=BJ h
theorem Ig{a b:Nat}(h:a<b:=by assumption):a≠b:=A6 h
theorem Ih{a b:Nat}(h:b<a:=by assumption):a≠b:=DU h
theorem E4{a:Nat}(h:a≠0:=by assumption):0<a:=Nat.pos_of_ne_zero h
theorem PL{a b c:Nat}(h:a<b:=by assumption)(k:b<=c:=by assumption):a<=c:=AL (BJ h) k
theorem Ii{a b c:Nat}(h:a<b:=by assumption):a<b+c:=AS h<|Bg _ _
theorem xQ{a b:Nat}(h:a=b:=by assumption):a<=b:=DV h
theorem Fk{a b:Nat}(h:¬a<b:=by assumption):b<=a:=Nat.le_of_not_lt h
theorem Ij{a b:Nat}(h:¬b<=a:=by assumption):a<b:=Nat.lt_of_not_le h
theorem Ik{a b:Nat}(h:a<b+1:=by assumption):a<=b:=Nat.le_of_lt_succ h
theorem zZ{a b:Nat}(h:0<a:=by assumption)(k:0<b:=by decide):a-b<a:=Nat.sub_lt h k
theorem Il{a b c:Nat}(h:a<=c:=by assumption):a-b<=c:=AL (Nat.sub_le _ _) h
theorem rD{a b c:Nat}(h:a<c:=by assumption):a-b<c:=Bw (Nat.sub_le _ _) h
theorem zW{a b:Nat}(h:a<=b:=by assumption)(k:a≠b:=by assumption):a<b:=Nat.lt_of_le_of_ne h k
namespace L2
open PySem PySem.Spec PyProof.Rows
def PM:R2:=λx y H Q=>match x,y with
 |.int i,.int j=>Q (.int<|i+j) H
 |.str a,.str b=>a.length+b.length<=sizeLine/\Q (.str<|a++b) H
 |.ref l,.ref b=>∃xs zs,H l=some (.lst xs)/\H b=some (.lst zs)/\xs.length+zs.length<=sizeLine/\∀p,H p=none->Q (.ref p) (upd H p<|.lst<|xs++zs)
 |_,_=>False
theorem PN:wc X (binaryOp .Add) PM:=by
 intro J s U H x y v u Q I g j h;cases x<;>cases y<;>first
  |exact False.elim h
  |exact N6 J s U H _ _ v u Q I g j ⟨_,_,rfl,rfl,h⟩
  |exact xR J s U H _ _ v u Q I g j ⟨_,_,rfl,rfl,h.1,h.2⟩
  |(obtain⟨l,o,p,r,t,C⟩:=h;exact PH J s U H _ _ v u Q I g j ⟨_,_,l,o,rfl,rfl,p,r,t,C⟩)
def KD(K:Ai)(P:Xl)(w:Xm)(a:Addr)(kvs:List<|zv×V):Prop:=
 (a==sysModules)=false/\kvs.length<=sizeLine/\∀h:Xn,K.In h->∃vs,KV kvs vs/\h.DictOf (xq P w) a vs
def Im(K:Ai)(P:Xl)(w:Xm):R2:=λx y H Q=>match x,y with
 |.str z,.int i=>z.length<=sizeLine/\∃c,cI z.cps.toList i=some c/\Q (.str ⟨#[c]⟩) H
 |.ref p,.int i=>∃xs v,(aY K H p xs\/dh K H p xs)/\cI xs i=some v/\Q v H
 |.ref p,.str k=>∃kvs v,(Rd H p (.dK kvs)\/KD K P w p kvs)/\ae kvs (Sum.inr k)=some v/\Q v H
 |_,_=>False
theorem Io{slice:Expr}{a:Addr}{vs:List<|zv×Xj}{k:zv}{J:Xj}{Q:VK}(I:z8 X pins σ H s)(U:s.heap.DictOf (xq X.prog X.w) a vs)(g:m7 k u=true)
 (hw:valueAt vs k=some J) (r:zq v J) (q:Q v H) (hs:subscripted slice false (.ref a) u=operate [.ref a,u] (getItem (.ref a) u)):wpAny (model X.prog X.w) X.A (subscriptTail value slice (.ref a) u) (EP X pins σ Q) X.xe s:=
 tail_any U.typeIs Dz.lookup (wpAny_getItem_of g U.mapOf hw ⟨v,H,I.tok _,r,q⟩) hs
theorem PP:IxR X (Im X.K X.prog X.w):=by
 intro value slice U s σ H x y v u Q I rx ry q r;cases x with
 |str z=>
  cases y with
  |int i=>
   obtain⟨J,c,g,j⟩:=q;exact Pj value slice U s σ H _ _ v u Q I rx ry ⟨z,i,c,rfl,rfl,J,g,j⟩ r
  |_=>exact q.elim
 |ref p=>
  cases y with
  |int i=>
   obtain⟨xs,t,J,g,j⟩:=q;rcases J with J|J
   ·exact Pg value slice U s σ H _ _ v u Q I rx ry ⟨p,xs,i,t,rfl,rfl,J,g,j⟩ r
   ·exact Ph value slice U s σ H _ _ v u Q I rx ry ⟨p,xs,i,t,rfl,rfl,J,g,j⟩ r
  |str k=>
   obtain⟨a0,t,J,g,j⟩:=q;have C:zq (kV<|Sum.inr k) u:=ry;cases (show v=Value.ref p from rx);rcases J with J|J
   ·obtain⟨z,hd,vs,rel,T⟩:=nW I.hok J;obtain⟨w2,hw,l⟩:=EJ (v:=t) (o:=valueAt vs<|Sum.inr k) (by rw[<-g];exact rel.val _);exact Io I T (hW (P:=X.prog) (w:=X.w) C) hw l j r
   ·obtain⟨hd,z,T⟩:=J;obtain⟨vs,rel,T⟩:=T s.heap I.kIn;obtain⟨w2,hw,l⟩:=EJ (v:=t) (o:=valueAt vs<|Sum.inr k) (by rw[<-g];exact rel.val _);exact Io I T (hW (P:=X.prog) (w:=X.w) C) hw l j r
  |_=>exact q.elim
 |_=>cases y<;>exact q.elim
def PQ(K:Ai):Xp->Hp->VK->Prop:=λxs H Q=>match xs with
 |[.str z]=>z.length<=sizeLine/\Q (.int z.length) H
 |[.ref p]=>∃ys,(aY K H p ys\/dh K H p ys)/\Q (.int ys.length) H
 |_=>False
theorem PR:jg X (.builtin "len") (PQ X.K):=by
 intro J s U H j g Q I r h;obtain _|⟨x,_|⟨y,t⟩⟩:=j
 ·exact h.elim
 ·cases x with
  |str z=>exact qU J s U H _ g Q I r ⟨z,rfl,h.1,h.2⟩
  |ref p=>
   obtain⟨l,o,C⟩:=h;exact sS J s U H _ g Q I r ⟨p,l,rfl,o,C⟩
  |_=>exact h.elim
 ·cases x<;>exact h.elim
inductive Da where
 |s (v:V)
 |tup (xs:List Da)
 |lst (xs:List Da)
mutual
def Da.eq:Da->Da->Bool
 |.s v,.s w=>l5 v w
 |.tup xs,.tup ys=>Da.eqs xs ys
 |.lst xs,.lst ys=>Da.eqs xs ys
 |_,_=>false
def Da.eqs:List Da->List Da->Bool
 |[],[]=>true
 |x::xs,y::ys=>Da.eq x y&&Da.eqs xs ys
 |_,_=>false
end
def aS(K:Ai)(H:Hp):Nat->V->Da->Prop
 |0,v,d=>d=.s v/\am v=true
 |n+1,v,d=>(d=.s v/\am v=true)\/(∃a xs ds,v=.ref a/\d=.tup ds/\dh K H a xs/\Paired (aS K H n) xs ds)\/(∃a xs ds,v=.ref a/\d=.lst ds/\aY K H a xs/\Paired (aS K H n) xs ds)
theorem Da.eqs_range:∀(ds es:List Da),((List.range<|min ds.length es.length).all (λj=>Da.eq (ds.getD j<|.s .non)<|es.getD j<|.s .non)&&ds.length==es.length)=Da.eqs ds es
 |[],[]=>by simp[Da.eqs]
 |[],e::es=>by simp[Da.eqs]
 |d::ds,[]=>by simp[Da.eqs]
 |d::ds,e::es=>by
  have I:=Da.eqs_range ds es;rw[Da.eqs,<-I];have:min (d::ds).length (e::es).length=min ds.length es.length+1:=by simp only[Az];lia
  rw[this,List.range_succ_eq_map,DJ,List.all_map];have J:((d::ds).length==(e::es).length)=(ds.length==es.length):=by simp
  rw[J,Bool.and_assoc];rfl
theorem Paired.at{F:α->β->Prop}:∀{xs:List α} {ys:List β} {j:Nat} {x:α} {y:β},Paired F xs ys->xs[j]?=some x->ys[j]?=some y->F x y:=by
 intro xs ys j x y h
 induction h generalizing j with
 |nil=>intro h _;simp at h
 |cons r t U=>
  intro I J;cases j with|zero=>simp at I J;subst I J;exact r|succ j=>exact U (j:=j) (by simpa using I) (by simpa using J)
abbrev EI:=@Paired.at
theorem i5:∀{v:V},am v=true->l5 v v=true
 |.non,_=>rfl
 |.bl _,_=>by simp[l5]
 |.int _,_=>by simp[l5]
 |.str _,_=>by simp[l5]
theorem jr{a:Addr}(h:am (.ref a)=true):False:=by simp[am] at h
theorem z8.notBoth(I:z8 X pins σ H s){a:Addr}{ys:Xp}(h:dh X.K H a xs)(h':aY X.K H a ys):False:=by
 obtain⟨j,_,⟨o,e,c,_⟩,_⟩:=I.tuple h;obtain⟨U,_,⟨l,p,g,J,_⟩,_⟩:=I.list h';rw[e] at g;cases g;rw[c] at J;injection J with J
 exact absurd J (by decide)
theorem r6(I:z8 X pins σ H s):∀(n:Nat) {m:Nat} {x:V} {d e:Da},aS X.K H n x d->aS X.K H m x e->Da.eq d e=true
 |0,m,x,d,e,h1,g=>by
  obtain⟨rfl,f⟩:=h1;cases m with
  |zero=>obtain⟨rfl,_⟩:=g;exact i5 f
  |succ m=>
   rcases g with⟨rfl,_⟩|⟨a,j,l,rfl,_⟩|⟨a,j,l,rfl,_⟩
   ·exact i5 f
   ·exact(jr f).elim
   ·exact(jr f).elim
 |n+1,m,x,d,e,h1,g=>by
  have both:∀{j:Xp} {l o:List Da} {m:Nat},Paired (aS X.K H n) j l->Paired (aS X.K H m) j o->Da.eqs l o=true:=by
   intro j l o m p
   induction p generalizing o with
   |nil=>intro q;cases q;rfl
   |cons r t ih=>
    intro q;cases q with|cons r' t'=>rw[Da.eqs,r6 I n r r',ih t'];rfl
  rcases h1 with⟨rfl,f⟩|⟨a,j,l,rfl,rfl,T,hp⟩|⟨a,j,l,rfl,rfl,T,hp⟩
  ·cases m with
   |zero=>obtain⟨rfl,_⟩:=g;exact i5 f
   |succ m=>
    rcases g with⟨rfl,_⟩|⟨a,j,l,rfl,_⟩|⟨a,j,l,rfl,_⟩
    ·exact i5 f
    ·exact(jr f).elim
    ·exact(jr f).elim
  ·cases m with
   |zero=>exact(jr g.2).elim
   |succ m=>
    rcases g with⟨_,f⟩|⟨a',ys,o,C,rfl,J,U⟩|⟨a',ys,o,C,rfl,J,U⟩
    ·exact(jr f).elim
    ·cases C;cases I.tuple_inj T J;exact both hp U
    ·cases C;exact(I.notBoth T J).elim
  ·cases m with
   |zero=>exact(jr g.2).elim
   |succ m=>
    rcases g with⟨_,f⟩|⟨a',ys,o,C,rfl,J,U⟩|⟨a',ys,o,C,rfl,J,U⟩
    ·exact(jr f).elim
    ·cases C;exact(I.notBoth J T).elim
    ·cases C;cases I.list_inj T J;exact both hp U
theorem jz{a:Addr}{eK:W9}(p:PlainL h a eK):h.IsList a eK:=let ⟨o,n,e,c,_,d⟩:=p;⟨o,e,c,n,d⟩
theorem ss{ys:Xp}{ds es:List Da}(px:Paired (aS X.K H n) xs ds)(py:Paired (aS X.K H m) ys es)(I:zn xs us)(J:zn ys vs)
 (p:∀{x y:V} {d e:Da} {u v:Xj},aS X.K H n x d->aS X.K H m y e->zq x u->zq y v->SeqAt.EqAt A.in1 s u v (Da.eq d e)):
 ∀j (h1:j<us.toArray.size) (h2:j<vs.toArray.size),SeqAt.EqAt A.in1 s us.toArray[j] vs.toArray[j] (Da.eq (ds.getD j<|.s .non)<|es.getD j<|.s .non):=by
 intro j h1 h2;have C:=px.length;have T:=py.length;have l3:=I.length;have l4:=J.length;rw[Aq] at h1 h2;have U:xs[j]?=some xs[j]:=Ao (by lia);have g:ys[j]?=some ys[j]:=Ao (by lia);have l:ds[j]?=some ds[j]:=Ao (by lia);have o:es[j]?=some es[j]:=Ao (by lia);have r:us[j]?=some us[j]:=Ao (by lia);have t:vs[j]?=some vs[j]:=Ao (by lia);rw[BA,BA,l,o];exact p (EI px U l) (EI py g o) (EI I U r)<|EI J g t
def F9(ne:Bool)(A:Around)(s:Xk)(u v:Xj)(k:Bool):Prop:=match ne with
 |true=>SeqAt.RcNeAt A s u v<|!k
 |false=>SeqAt.RcAt A s u v k
theorem pN(ne:Bool){a b:Addr}{ys:Xp}{ds es:List Da}(I:z8 X pins σ H s)(J:A.units<cLine)(l:dh X.K H a xs)(o:dh X.K H b ys)(px:Paired (aS X.K H n) xs ds)(py:Paired (aS X.K H m) ys es)
 (p:∀{x y:V} {d e:Da} {u v:Xj},aS X.K H n x d->aS X.K H m y e->zq x u->zq y v->SeqAt.EqAt A.in1 s u v (Da.eq d e)):F9 ne A s (.ref a) (.ref b) (Da.eqs ds es):=by
 obtain⟨r,U,g,_⟩:=I.tuple l;obtain⟨t,j,ty,_⟩:=I.tuple o;have i:=ss px py U j p;cases ne
 case' false=>have q:=SeqAt.RcAt.tuples g ty J i
 case' true=>have q:=SeqAt.RcNeAt.tuples g ty J i
 all_goals
  rw[Aq,Aq,<-U.length,<-j.length,px.length,py.length,Da.eqs_range] at q;exact q
theorem uY(ne:Bool){a b:Addr}{ys:Xp}{ds es:List Da}(I:z8 X pins σ H s)(g:A.units<cLine)(C:aY X.K H a xs)(T:aY X.K H b ys)(px:Paired (aS X.K H n) xs ds)(py:Paired (aS X.K H m) ys es)
 (ih:∀{x y:V} {d e:Da} {u v:Xj},aS X.K H n x d->aS X.K H m y e->zq x u->zq y v->SeqAt.EqAt A.in1 s u v (Da.eq d e)):F9 ne A s (.ref a) (.ref b) (Da.eqs ds es):=by
 obtain⟨l,o,J,_⟩:=I.list C;obtain⟨p,r,ty,_⟩:=I.list T;have J:=jz J;have ty:=jz ty;have e:=Da.eqs_range ds es;have j:ds.length=l.toArray.size:=by rw[<-px.length,o.length,Aq]
 have t:es.length=p.toArray.size:=by rw[<-py.length,r.length,Aq]
 by_cases U:l.toArray.size=p.toArray.size
 ·have i:=ss px py o r ih;rw[t,<-U,<-j,Nat.min_self,beq_self_eq_true,Bool.and_true] at e;cases ne
  case' false=>have q:=SeqAt.RcAt.lists J ty U g i
  case' true=>have q:=SeqAt.RcNeAt.lists J ty U g i
  all_goals
   rw[<-j,e] at q;exact q
 ·rw[show(ds.length==es.length)=false by rw[j,t];simpa using U,Bool.and_false] at e;rw[<-e];cases ne
  ·exact SeqAt.RcAt.lists_lengths J ty (by simpa using U) g
  ·exact SeqAt.RcNeAt.lists_lengths J ty (by simpa using U) g
theorem wZ(I:z8 X pins σ H s):∀(n:Nat) {m:Nat} {A:Around} {x y:V} {d e:Da} {u v:Xj},A.units+n<cLine->aS X.K H n x d->aS X.K H m y e->zq x u->zq y v->SeqAt.EqAt A s u v (Da.eq d e):=by
 have J:∀{A:Around} {x:V} {u:Xj} {b:Addr} {C:Xp},A.units<cLine->am x=true->zq x u->(dh X.K H b C\/aY X.K H b C)->SeqAt.EqAt A s u (.ref b) false/\SeqAt.EqAt A s (.ref b) u false:=by
  intro A x u b C g f r h;have h':(∃T,s.heap.IsTuple b T)\/∃T,s.heap.IsList b T:=by
   rcases h with h|h
   ·obtain⟨T,_,t,_⟩:=I.tuple h;exact .inl ⟨_,t⟩
   ·obtain⟨T,_,t,_⟩:=I.list h;exact .inr ⟨_,jz t⟩
  cases x with
  |non=>cases r;rcases h' with⟨_,t⟩|⟨_,t⟩;exact⟨.none_tuple t g,.tuple_none t g⟩;exact⟨.none_list t g,.list_none t g⟩
  |bl k=>cases r;rcases h' with⟨_,t⟩|⟨_,t⟩;exact⟨.bool_tuple k t g,.tuple_bool k t g⟩;exact⟨.bool_list k t g,.list_bool k t g⟩
  |int k=>obtain⟨tk,rfl⟩:=r;rcases h' with⟨_,t⟩|⟨_,t⟩;exact⟨.int_tuple k tk t g,.tuple_int k tk t g⟩;exact⟨.int_list k tk t g,.list_int k tk t g⟩
  |str k=>obtain⟨tk,rfl⟩:=r;rcases h' with⟨_,t⟩|⟨_,t⟩;exact⟨.str_tuple k tk t g,.tuple_str k tk t g⟩;exact⟨.str_list k tk t g,.list_str k tk t g⟩
  |_=>simp[am] at f
 intro n
 induction n with
 |zero=>
  intro m A x y d e u v g h1 o rx j;obtain⟨rfl,f⟩:=h1;cases m with
  |zero=>obtain⟨rfl,l⟩:=o;exact o5 rx j f l
  |succ m=>
   rcases o with⟨rfl,l⟩|⟨b,C,es,rfl,rfl,U,py⟩|⟨b,C,es,rfl,rfl,U,py⟩
   ·exact o5 rx j f l
   ·cases j;exact(J (by lia) f rx<|.inl U).1
   ·cases j;exact(J (by lia) f rx<|.inr U).1
 |succ n ih=>
  intro m A x y d e u v g h1 o rx j;have a1:A.in1.units+n<cLine:=by show A.units+1+n<cLine;lia
  rcases h1 with⟨rfl,f⟩|⟨a,xs,ds,rfl,rfl,p,px⟩|⟨a,xs,ds,rfl,rfl,p,px⟩
  ·cases m with
   |zero=>obtain⟨rfl,l⟩:=o;exact o5 rx j f l
   |succ m=>
    rcases o with⟨rfl,l⟩|⟨b,C,es,rfl,rfl,U,py⟩|⟨b,C,es,rfl,rfl,U,py⟩
    ·exact o5 rx j f l
    ·cases j;exact(J (by lia) f rx<|.inl U).1
    ·cases j;exact(J (by lia) f rx<|.inr U).1
  ·cases rx;cases m with
   |zero=>obtain⟨rfl,l⟩:=o;exact(J (by lia) l j<|.inl p).2
   |succ m=>
    rcases o with⟨rfl,l⟩|⟨b,C,es,rfl,rfl,U,py⟩|⟨b,C,es,rfl,rfl,U,py⟩
    ·exact(J (by lia) l j<|.inl p).2
    ·cases j;by_cases a0:a=b
     ·subst a0;cases I.tuple_inj p U;have e:Da.eq (.tup ds) (.tup es)=true:=r6 I (n+1) (m:=m+1) (x:=.ref a) (.inr<|.inl ⟨a,xs,ds,rfl,rfl,p,px⟩)<|.inr<|.inl ⟨a,xs,es,rfl,rfl,U,py⟩;rw[e];exact .same _
     ·exact .of_refs a0<|pN false I (by lia) p U px py λh1 o r1 r2=>ih a1 h1 o r1 r2
    ·cases j;obtain⟨us,vx,tx,_⟩:=I.tuple p;obtain⟨vs,vy,ty,_⟩:=I.list U;exact .tuple_list tx (jz ty) (by lia)
  ·cases rx;cases m with
   |zero=>obtain⟨rfl,l⟩:=o;exact(J (by lia) l j<|.inr p).2
   |succ m=>
    rcases o with⟨rfl,l⟩|⟨b,C,es,rfl,rfl,U,py⟩|⟨b,C,es,rfl,rfl,U,py⟩
    ·exact(J (by lia) l j<|.inr p).2
    ·cases j;obtain⟨us,vx,tx,_⟩:=I.list p;obtain⟨vs,vy,ty,_⟩:=I.tuple U;exact .list_tuple (jz tx) ty (by lia)
    ·cases j;by_cases a0:a=b
     ·subst a0;cases I.list_inj p U;have e:Da.eq (.lst ds) (.lst es)=true:=r6 I (n+1) (m:=m+1) (x:=.ref a) (.inr<|.inr ⟨a,xs,ds,rfl,rfl,p,px⟩)<|.inr<|.inr ⟨a,xs,es,rfl,rfl,U,py⟩;rw[e];exact .same _
     ·exact .of_refs a0<|uY false I (by lia) p U px py λh1 o r1 r2=>ih a1 h1 o r1 r2
def PU(K:Ai)(k:Nat)(ne:Bool):R2:=λx y H Q=>match x,y with
 |.ref a,.ref b=>∃n m d e,n<=k/\aS K H n (.ref a) d/\aS K H m (.ref b) e/\Q (.bl<|Ev ne<|Da.eq d e) H
 |x,y=>HU x y=true/\Q (.bl<|Ev ne<|decide<|x=y) H
theorem PV(ne:Bool){k:Nat}(U:X.A.units+k<cLine):wc X (compareOp<|Fj ne) (PU X.K k ne):=by
 intro J s T H x y v u Q I rx ry h;cases x with
 |ref a=>
  cases y with
  |ref b=>
   obtain⟨n,m,d,e,hn,o,g,q⟩:=h;cases rx;cases ry;have jv:F9 ne X.A s (.ref a) (.ref b) (Da.eq d e)->wpAny (model X.prog X.w) X.A (compareOp (Fj ne) (.ref a)<|.ref b) (EP X J T Q) X.xe s:=λr=>by cases ne<;>exact r X.prog X.w X.xe (EP X J T Q) ⟨.bl _,H,I,rfl,q⟩
   cases n with
   |zero=>exact(jr o.2).elim
   |succ n=>
    cases m with
    |zero=>exact(jr g.2).elim
    |succ m=>
     have p:X.A.in1.units+n<cLine:=by show X.A.units+1+n<cLine;lia
     have U:X.A.units<cLine:=by lia
     rcases o with⟨_,f⟩|⟨a',xs,ds,e1,rfl,t,px⟩|⟨a',xs,ds,e1,rfl,t,px⟩
     ·exact(jr f).elim
     ·cases e1;rcases g with⟨_,f⟩|⟨b',ys,es,j,rfl,l,py⟩|⟨b',ys,es,j,rfl,l,py⟩
      ·exact(jr f).elim
      ·cases j;exact jv<|pN ne I U t l px py λo g r1 r2=>wZ I n p o g r1 r2
      ·cases j;obtain⟨us,vx,C,_⟩:=I.tuple t;obtain⟨vs,vy,ty,_⟩:=I.list l;exact jv (by cases ne;exact SeqAt.RcAt.tuple_list C (jz ty) U;exact SeqAt.RcNeAt.tuple_list C (jz ty) U)
     ·cases e1;rcases g with⟨_,f⟩|⟨b',ys,es,j,rfl,l,py⟩|⟨b',ys,es,j,rfl,l,py⟩
      ·exact(jr f).elim
      ·cases j;obtain⟨us,vx,C,_⟩:=I.list t;obtain⟨vs,vy,ty,_⟩:=I.tuple l;exact jv (by cases ne;exact SeqAt.RcAt.list_tuple (jz C) ty U;exact SeqAt.RcNeAt.list_tuple (jz C) ty U)
      ·cases j;exact jv<|uY ne I U t l px py λo g r1 r2=>wZ I n p o g r1 r2
  |_=>exact HW ne J s T H _ _ v u Q I rx ry h
 |_=>cases y<;>exact HW ne J s T H _ _ v u Q I rx ry h
theorem PX{c:Addr}(I:Gl X x)(J:X.mg x=some (.ref c))(hd:Ez x:=by decide):PE X (.Name x pos) (tC<|.ref c):=Ng I J (v:=.ref c) rfl hd
theorem PY{T:Xo}(I:Gl X x)(J:X.mg x=none)(U:bootBuiltins x=some (.type T))(g:x ≠ "__name__" := by decide)(hd:Ez x:=by decide):PE X (.Name x pos) (tC<|.ty T):=Nh I J U (v:=.ty T) rfl g hd
structure Cal(P:Xl)(w:Xm)(K:Ai)(mg:W5)(base:Xn)(k:Nat)(x:Str)(ps:Xb)(sp:Sp):Prop where
 ex:∃f fd,bL P w K mg base CX0 k f fd ps sp/\aO K fd ps []/\PySem.W.keepIn K (.ref f)=true/\mg x=some (.ref f)
theorem PZ{k:Nat}{sp:Sp}{t:TA}{p:Pos}(c:Cal X.prog X.w X.K X.mg X.base k x ps sp)(U:vz k X.A)(g:Gl X x)(j:PA X (e::es) t)(I:Ez x:=by decide)
 (l:Ex e es X:=by rfl) (J:Ey pos es X:=by rfl):PE X (.Call (.Name x p) (e::es) [] pos) (HY sp [] E0 t):=by
 obtain⟨f,fd,F,b,o,m⟩:=c.ex;exact OG F U g m o b .nil F6 j I l J
theorem Cal.mono{P:Xl}{w:Xm}{K:Ai}{k:Nat}{sp:Sp}(c:Cal P w K mg base j x ps sp)(h:j<=k):Cal P w K mg base k x ps sp:=by obtain⟨f,fd,F,b,I,m⟩:=c.ex;exact⟨f,fd,F.mono h,b,I,m⟩
end L2
variable {ds:List L2.Da}
namespace L2
open PySem PySem.Spec PyProof.Rows
def oA(env:Env):List (Str×NameKind)->List (Str×Addr)->List (Str×Addr)
 |[],cs=>cs
 |(n,k)::r,cs=>oA env r<|if k==.free then(n,(env.cells.lookup n).getD 0)::cs else cs
def gW(scope:Scope)(env:Env):List (Str×Addr):=oA env scope.names []
theorem tT{env:Env}:∀{names:List<|Str×NameKind} {cs:List<|Str×Addr} {p:Str×Addr},p∈oA env names cs->p∈cs\/((p.1,NameKind.free)∈names/\p.2=(env.cells.lookup p.1).getD 0)
 |[],_,_,h=>.inl h
 |(n,k)::r,cs,p,h=>by
  rcases tT (names:=r) h with q|⟨q,e⟩
  ·by_cases I:(k==NameKind.free)=true
   ·rw[Aw I] at q;rcases Am.mp q with rfl|q
    ·have:k=.free:=by simpa using I
     exact .inr ⟨by rw[this];exact Ag,rfl⟩
    ·exact .inl q
   ·rw[Ar I] at q;exact .inl q
  ·exact .inr ⟨Ae _ q,e⟩
theorem uo{env:Env}{x:Str}:∀{names:List<|Str×NameKind} {cs:List<|Str×Addr},((∃c,(x,c)∈cs)\/(x,NameKind.free)∈names)->∃c,(x,c)∈oA env names cs
 |[],_,.inl h=>h
 |[],_,.inr h=>by simp at h
 |(n,k)::r,cs,h=>by
  refine uo (names:=r) ?_;rcases h with⟨c,h⟩|h
  ·left;by_cases I:(k==NameKind.free)=true
   ·rw[Aw I];exact⟨c,Ae _ h⟩
   ·rw[Ar I];exact⟨c,h⟩
  ·rcases Am.mp h with e|h
   ·left;injection e with J U
    subst J;subst U;exact⟨_,Ag⟩
   ·exact .inr h
theorem ge{x:Str}:∀{l:List<|Str×Addr} {c:Addr},(x,c)∈l->∃c',l.lookup x=some c'
 |(n,d)::r,c,h=>by
  rw[AW];cases I:x==n with
  |true=>exact⟨d,rfl⟩
  |false=>
   rcases Am.mp h with e|h
   ·injection e with J _;subst J;simp at I
   ·exact ge h
theorem ld(h:∀n,(n,NameKind.free)∈scope.names->∃c,env.cells.lookup n=some c):closureFor scope env=pure (gW scope env):=by
 unfold closureFor gW;have key:∀(names:List<|Str×NameKind) (I:List<|Str×Addr),(∀n,(n,NameKind.free)∈names->∃c,env.cells.lookup n=some c)->
  (forIn names I λx (r:List<|Str×Addr)=>(match x with|(name,kind)=>if kind==NameKind.free then do let a <-cellOf env name;pure (ForInStep.yield<|(name,a)::r) else pure (ForInStep.yield r):Sem<|ForInStep<|List<|Str×Addr))=pure (oA env names I):=by
  intro names
  induction names with
  |nil=>intro I _;rfl
  |cons p r o=>
   intro I J;obtain⟨n,k⟩:=p;rw[Ee];cases U:k==NameKind.free with
   |true=>
    have g:k=.free:=by simpa using U
    subst g;obtain⟨c,t⟩:=J n Ag;have e:cellOf env n=pure c:=by unfold cellOf;rw[t]
    simp only[beq_self_eq_true,if_true,e];have j:oA env ((n,NameKind.free)::r) I=oA env r ((n,c)::I):=by show oA env r _=_;rw[t];rfl
    rw[j];exact o ((n,c)::I) λm l=>J m<|Ae _ l
   |false=>
    simp only[U,B6,if_false];have j:oA env ((n,k)::r) I=oA env r I:=by show oA env r (if (k==NameKind.free)=true then _ else _)=_;rw[U];rfl
    rw[j];exact o I λm l=>J m<|Ae _ l
 exact(BS (· >>= pure)<|key scope.names [] h)
theorem aH{env:Env}{x:Str}:∀{names:List<|Str×NameKind},
 (names.map λ(n,k)=>if (k==NameKind.free&&env.scope.kind==.function&&env.kindOf n==some .cell) then(n,NameKind.cell) else(n,k)).lookup x
  = (names.lookup x).map λk=>if (k==NameKind.free&&env.scope.kind==.function&&env.kindOf x==some .cell) then NameKind.cell else k
 |[]=>rfl
 |(n,k)::r=>by
  have g:=@aH env x r;show List.lookup x ((if (k==NameKind.free&&env.scope.kind==.function&&env.kindOf n==some .cell)=true then(n,NameKind.cell) else(n,k))::_)=_;cases J:x==n with
  |true=>
   have U:x=n:=by simpa using J
   subst U;by_cases I:(k==NameKind.free&&env.scope.kind==.function&&env.kindOf x==some .cell)=true
   ·rw[Aw I];simp only[AW,beq_self_eq_true,Option.map_some];rw[Aw I]
   ·rw[Ar I];simp only[AW,beq_self_eq_true,Option.map_some];rw[Ar I]
  |false=>
   by_cases I:(k==NameKind.free&&env.scope.kind==.function&&env.kindOf n==some .cell)=true
   ·rw[Aw I];simp only[AW,J];exact g
   ·rw[Ar I];simp only[AW,J];exact g
def Cx.comp(X:Cx)(scope:Scope)(T:Xb)(C:Addr)(fp:List Addr)(s₀:Xk)(H₀:Hp):Cx:=
 { X with N:=X.N++T,s₀:=s₀,H₀:=H₀,env:=compEnvC scope (gW scope X.env) C X.env,outer:=X.stack,ex:=fp,fn:=λ_=>false,xe:=λ_ _=>False }
structure jc(X:Cx)(scope:Scope):Prop where
 kind:scope.kind=.function
 nocell:∀y∈scope.names,y.2≠.cell
 names:∀y∈scope.names,y.2=.local->scope.names.lookup y.1=some .local
 free:∀n,scope.names.lookup n=some .free->X.env.kindOf n=some .cell\/X.env.kindOf n=some .free
 freeM:∀n,(n,NameKind.free)∈scope.names->X.env.kindOf n=some .cell\/X.env.kindOf n=some .free
 apart:∀x∈X.N,scope.names.lookup x≠some .local
theorem jc.clo(S:jc X scope)(I:z8 X pins σ H s):closureFor scope X.env=pure (gW scope X.env):=
 ld λn h=>I.ok.has n<|S.freeM n h
theorem jc.cl_old(S:jc X scope)(I:z8 X pins σ H s){c:Addr}(h:(gW scope X.env).lookup x=some c):X.env.cells.lookup x=some c:=by
 rcases tT (BI h) with q|⟨q,e⟩
 ·simp at q
 ·obtain⟨d,hd⟩:=I.ok.has x<|S.freeM x q;have J:c=(X.env.cells.lookup x).getD 0:=e;rw[hd] at J ⊢;rw[J];rfl
theorem jc.cl_has(_:jc X scope)(h:scope.names.lookup x=some .free):∃c,(gW scope X.env).lookup x=some c:=by obtain⟨c,I⟩:=uo (env:=X.env) (names:=scope.names) (cs:=[]) (x:=x)<|.inr<|BI h;exact ge I
theorem jc.kindOf(S:jc X scope)(h:(compEnvC scope (gW scope X.env) C X.env).kindOf x=some .cell\/(compEnvC scope (gW scope X.env) C X.env).kindOf x=some .free):scope.names.lookup x=some .free:=by
 have e:(compEnvC scope (gW scope X.env) C X.env).kindOf x=(scope.names.lookup x).map λk=>if (k==NameKind.free&&X.env.scope.kind==.function&&X.env.kindOf x==some .cell) then NameKind.cell else k:=aH
 rw[e] at h;cases I:scope.names.lookup x with
 |none=>rw[I] at h;rcases h with h|h<;>cases h
 |some k=>
  rw[I] at h;cases k with|free=>rfl|cell=>exact absurd rfl (S.nocell _<|BI I)|_=>rcases h with h|h<;>cases h
theorem jc.vis(S:jc X scope)(U:x∈X.N)(h:A_ (compEnvC scope (gW scope X.env) C X.env).scope x):scope.names.lookup x=some .free:=by
 rcases h with h|h|h
 ·exfalso;have e:(compEnvC scope (gW scope X.env) C X.env).kindOf x=(scope.names.lookup x).map λk=>if (k==NameKind.free&&X.env.scope.kind==.function&&X.env.kindOf x==some .cell) then NameKind.cell else k:=aH
  have I:(compEnvC scope (gW scope X.env) C X.env).kindOf x=some .local:=h;rw[e] at I;cases J:scope.names.lookup x with
  |none=>rw[J] at I;cases I
  |some k=>
   rw[J] at I;have I:(if (k==NameKind.free&&X.env.scope.kind==.function&&X.env.kindOf x==some .cell)=true then NameKind.cell else k)=.local:=AY I;split at I
   ·cases I
   ·subst I;exact S.apart x U J
 ·exact S.kindOf (C:=C)<|.inl h
 ·exact S.kindOf (C:=C)<|.inr h
theorem jc.back(S:jc X scope)(h:scope.names.lookup x=some .free):(compEnvC scope (gW scope X.env) C X.env).kindOf x=some .cell\/(compEnvC scope (gW scope X.env) C X.env).kindOf x=some .free:=by
 have e:(compEnvC scope (gW scope X.env) C X.env).kindOf x=(scope.names.lookup x).map λk=>if (k==NameKind.free&&X.env.scope.kind==.function&&X.env.kindOf x==some .cell) then NameKind.cell else k:=aH
 rw[e,h];show some (if _ then _ else _)=_\/some (if _ then _ else _)=_;split
 ·exact .inl rfl
 ·exact .inr rfl
def PF(X:Cx)(lm:Xc)(t:TT):Prop:=
 ∀(pins:List<|Addr×Obj) (s:Xk) (σ:St) (H:Hp) (Q:Bool->Hp->Prop),z8 X pins σ H s->t σ H Q->
  wpAny (model X.prog X.w) X.A (forIn lm true λc r=>if r=true then do let ok <-isTrue c X.env (eval c X.env);pure (ForInStep.yield ok) else pure (ForInStep.yield r)) (TP X pins σ Q) X.xe s
def P0:TT:=λ_ H Q=>Q true H
theorem P2 :PF X [] P0:=λ_ _ _ H _ I h=>Ap ⟨H,I,h⟩
theorem P7{t:TT}(hc:PT X c t):PF X [c] t:=by intro J s U H Q I h;rw[Ee];simp only[if_true];refine Ad<|Ad<|aJ (hc J s U H Q I h) λb g q=>Ap ?_;exact Ap q
theorem gU{prog:Xl}{w:Xm}{R:Result->Xk->Prop}{it C:Xj}(I:Nat->Xk->Prop)
 (turn:∀n s,I n s->wpAny (model prog w) A (pyNext it) (λr J=>match r with
  |none=>R (.ok .next) J
  |some v=>wpAny (model prog w) A (letOwnedTupleGo target it v) (λ_ J=>wpAny (model prog w) A (assign target env v) (λ_ l=>
   wpAny (model prog w) A (forIn lm true λc r=>if r=true then do let ok <-isTrue c env (eval c env);pure (ForInStep.yield ok) else pure (ForInStep.yield r)) (λok g=>
    if ok=true then wpAny (model prog w) A (eval ml env) (λx o=>
     wpAny (model prog w) A (call (.builtin "list.append") [C,x]) (λ_ p=>∃m,m<n/\I m p) (λ_ _=>False) o) (λ_ _=>False) g
    else ∃m,m<n/\I m g) (λ_ _=>False) l) (λ_ _=>False) J) (λ_ _=>False) J) (λ_ _=>False) s)
 (n:Nat) (h:I n s):
 codeAny (model prog w) A (.compLoop (.ListComp ml [⟨target,iter,lm,0⟩] scope pos) 0 it C env) R s:=by
 refine codeAny_loop rfl I (λn s hI=>?_) n h;show wpAny _ A ((compTurn (.ListComp ml [⟨target,iter,lm,0⟩] scope pos) 0 it C env).onRaise (λx=>do noteFrame x env;theTreesLotGoes x)) _ _ s;refine wpAny_noted ?_;rw[compTurn_list];refine Ad<|wpAny_standAt<|Ad<|A4 (turn n s hI) (λr J U=>?_) λ_ _ j=>j.elim;cases r with
 |none=>exact Ap U
 |some v=>
  refine Ad<|A4 U (λ_ J U=>?_) λ_ _ j=>j.elim;refine Ad<|A4 U (λ_ l T=>Ad<|A4 T (λok g t=>?_) λ_ _ j=>j.elim) λ_ _ j=>j.elim;cases ok with
  |false=>exact Ap ⟨rfl,t⟩
  |true=>
   exact Ad<|Ad<|A4 t (λx o a0=>Ad<|A4 a0 (λ_ p a1=>Ap<|Ap ⟨rfl,a1⟩) λ_ _ j=>j.elim) λ_ _ j=>j.elim
def F_(n:Nat)(wi:TI)(g:TG)(tc:TT)(te:TE):TE:=λσ H Q=>wi σ H λJ H1=>∃W:Nat->Nat->Xp->Hp->Prop,(∃m,W 0 m [] H1)/\∀i m ys H,W i m ys H->
 (J.stop i H/\ys.length<=sizeLine/\∀D,H D=none->Q (.ref D) (upd H D<|.lst ys))\/
 (J.go i H/\ys.length<sizeLine/\∀x H',J.yld i H x H'->g x (σ++List.replicate n none) H' λI H2=>tc I H2 λb j=>
  if b=true then te I j λy l=>∃U,U<m/\W (i+1) U (ys++[y]) l else ∃U,U<m/\W (i+1) U ys j)
def qC(g:TG)(n k:Nat):Prop:=∀(σ:St),σ.length=n->∀x H Q,g x (σ++List.replicate k none) H Q->
 g x (σ++List.replicate k none) H λI H2=>((I.length=n+k/\∀(i:Nat) v,(σ++List.replicate k none)[i]?=some (some v)->I[i]?=some (some v))/\Q I H2)
section
variable {T:Xb}{g:TG}{tc:TT}{te:TE}
theorem ltN{b:Addr}{o:Obj}(e:h.get? b=some o):@LT.lt Nat instLTNat b h.objs.size:=u1 e
theorem neN{a b:Addr}(h:@Ne Nat a b):a≠b:=h
theorem Bs{a b:Addr}(h:@LE.le Nat instLENat a b):a<=b:=h
theorem P8(eK:W8)(n:Nat)(u:Xj):∃n',Obj.mapSeq (·.push u) { cls:=.type "list",data:=.seq eK.toArray n }=({ cls:=.type "list",data:=.seq (eK++[u]).toArray n' }:Obj):=
 ⟨_,by simp[Obj.mapSeq];rfl⟩
theorem xL{prog:Xl}{w:Xm}{D:Addr}(I:s.heap.get? D=some { cls:=.type "list",data:=.seq eK.toArray n })
 (hz:eK.length<=sizeLine) (h:∀h' n',Heap.SameBut D s.heap h'->h'.get? D=some { cls:=.type "list",data:=.seq (eK++[u]).toArray n' }->Q .none { s with heap:=h' }):
 wpAny (model prog w) A (call (.builtin "list.append") [.ref D,u]) Q E s:=by
 have U:s.heap.IsList D eK.toArray:=⟨_,I,rfl,n,rfl⟩;refine wpAny_call_entry slot_list_append U.typeIs entry_list_append ?_<|args_list_append _ _;show wpAny _ _ (updateSeq D (·.push u) >>= λ_=>ret .none) _ _ s;refine Ad ?_;obtain⟨n',J⟩:=P8 eK n u;refine wpAny_updateSeq (f:=(·.push u)) I rfl (Ap ⟨.none,rfl,h _ n' (vc ..) ?_⟩) (by rw[Aq];exact hz) (by rw[Bu,Aq];exact De hz);rw[<-J];exact Heap.get?_update_self _ I (by rw[J];rfl)
theorem oW{Q:VK}{cm:Xj}{I:Xk}{RR:Xj->Addr->Result->Xk->Prop}
 (S:jc X scope) (hc:X.calm=true)
 (hg:∀C fp s₀ H₀,PG (X.comp scope T C fp s₀ H₀) target g) (e5:qC g X.N.length T.length) (hf:∀C fp s₀ H₀,PF (X.comp scope T C fp s₀ H₀) lm tc) (he:∀C fp s₀ H₀,PE (X.comp scope T C fp s₀ H₀) ml te)
 (h:FQ X pins σ target (λJ H1=>∃W:Nat->Nat->Xp->Hp->Prop,(∃m,W 0 m [] H1)/\∀i m ys H,W i m ys H->
  (J.stop i H/\ys.length<=sizeLine/\∀D,H D=none->Q (.ref D) (upd H D<|.lst ys))\/
  (J.go i H/\ys.length<sizeLine/\∀x H',J.yld i H x H'->g x (σ++List.replicate T.length none) H' λcn H2=>tc cn H2 λb H3=>
   if b=true then te cn H3 λy H4=>∃m',m'<m/\W (i+1) m' (ys++[y]) H4 else ∃m',m'<m/\W (i+1) m' ys H3)) cm I)
 (e6:∀D C s' H' m',z8 X pins σ H' s'->oo X pins H' C->s'.heap.Ns C m'->Q (.ref D) H'->RR (.ref D) C (.ok .next) s'):
 wpAny (model X.prog X.w) X.A (newList []) (λcv ac=>wpAny (model X.prog X.w) X.A (newFunctionEnv scope X.env.globals (gW scope X.env) [] X.env.qual none .none<|some X.env) (λbe cx=>
  codeAny (model X.prog X.w) X.A (.compStart (.ListComp ml [⟨target,iter,lm,0⟩] scope pos) 0 cm cv { be with scope:=relabel scope X.env }) (RR cv be.locals) cx) E ac) E I:=by
 obtain⟨it,fp,tn,J,H2,rfl,U,Tn,bg,f2,W,⟨m0,w0⟩,turn⟩:=h;refine BQ (wpAny_newFunctionEnv S.nocell (by intro y hy;simp at hy) (λav a7 t=>?_) S.kind);dsimp only at a7 t ⊢;generalize bh:I.heap.push { cls:=.type "list",dict:=none,data:=.seq ([]:W8).toArray }=G at a7 t ⊢;have hC:G.objs.size=I.heap.objs.size+1:=by rw[<-bh,Heap.size_push]
 obtain⟨D,eD⟩:∃D,I.heap.objs.size=D:=⟨_,rfl⟩;obtain⟨C,eC⟩:∃C,G.objs.size=C:=⟨_,rfl⟩;rw[eD] at hC ⊢;rw[eC] at hC a7 t ⊢;have bi:D≠C:=by lia
 have old:∀b o,I.heap.get? b=some o->av.get? b=some o:=λb o e=>by have j:=ltN e;exact t.extBut b o (neN (by lia))<|t7 _<|bh▸t7 _ e
 have cy:av.get? D=some { cls:=.type "list",data:=.seq ([]:W8).toArray 0 }:=by refine t.extBut _ _ bi<|t7 _ ?_;rw[<-bh,<-eD];exact vb _ rfl
 have bj:∀b∈fp,@LT.lt Nat instLTNat b I.heap.objs.size:=λb j=>by obtain⟨o,e,_⟩:=Tn.obj _ _ bg b j;exact ltN e
 have cB:@LT.lt Nat instLTNat X.env.locals I.heap.objs.size:=U.lt;have er:X.s₀.heap.objs.size<=I.heap.objs.size:=U.sz;have HD:H2 D=none:=U.hok.fresh<|Bs (by exact xQ);have HC:H2 C=none:=U.hok.fresh<|Bs (by lia);have e7:∀b:Addr,@LE.le Nat instLENat I.heap.objs.size b->b∉frs X.stack:=λb j z=>by
  have q:=U.stkSub b z;rcases Am.mp q with q|q
  ·rw[<-q] at cB;exact absurd cB<|Ew.mpr j
  ·exact U.nofs j q
 have aL:∀x c,X.env.cells.lookup x=some c->@LT.lt Nat instLTNat c I.heap.objs.size:=λx c e=>by obtain⟨v,q⟩:=U.cell x c e;exact q.lt
 let X':Cx:=X.comp scope T C fp I H2
 have bm:X'.Ok:={
  mod:=U.ok.mod,kind:=S.kind,glob:=U.ok.glob,blt:=U.ok.blt
  above:=Bs (by show @LE.le Nat instLENat I.heap.objs.size C;lia)
  inj:=λx y c h1 h2=>U.ok.inj x y c (S.cl_old U h1) (S.cl_old U h2)
  has:=λx hx=>S.cl_has (S.kindOf hx)
  cab:=λx c hx=>absurd (show false=true from hx) (by simp)
  hd:=U.ok.hd,frames:=U.ok.frames,stk:=.inl rfl
  exf:=λb j=>⟨neN (by have:=bj b j;show @Ne Nat b C;lia),λx c e=>(f2 b j).2.2.2.2.1 x c<|S.cl_old U e⟩
  bs:=U.bs,bsz:=AL U.ok.bsz U.sz
  noex:=λb o e j=>by
   obtain⟨e0,n0⟩:=U.ok.bs b o e;rcases (f2 b j).2.2.2.1 with q|q
   ·exact U.ok.noex b o e q
   ·have q':@LE.le Nat instLENat X.s₀.heap.objs.size b:=q;have:=ltN e0;lia
  exfs:=λb j z=>by
   rcases Am.mp (U.stkSub b z) with q|q
   ·exact(f2 b j).2.1 q
   ·exact(f2 b j).2.2.1 q
  funs:=U.stack,frf:=U.stkFree }
 have I4:∀tk,0<tk->z8 X' pins (σ++List.replicate T.length none) H2 { I with heap:=av,toks:=tk }:=λtk e8=>{
  tk:=e8,ok:=bm,os:=rfl,bare:=U.bare,base:=Un.kept old
  loc:=⟨_,a7,λi x v e1 e2 e3=>by
   have hi:i<σ.length:=by
    by_cases hi:i<σ.length
    ·exact hi
    ·rw[AK (by exact Fk),Cp] at e2;split at e2<;>cases e2
   rw[AD hi] at e2;have e9:i<X.N.length:=by rw[<-U.len];exact hi
   have cP:X.N[i]?=some x:=by have:(X.N++T)[i]?=some x:=e1;rw[AD e9] at this;exact this
   have bn:=S.vis (AF cP) e3;obtain⟨m,hn,hl⟩:=U.loc;have hk:=S.free x bn;obtain⟨u,r,l⟩:=hl i x v cP e2<|.inr hk;refine⟨u,r,.inr ⟨S.back bn,?_⟩⟩;rcases l with⟨l,_⟩|⟨_,c,e,z⟩
   ·rw[l] at hk;rcases hk with q|q<;>cases q
   ·obtain⟨c',e'⟩:=S.cl_has bn;have d0:=S.cl_old U e';rw[e] at d0;cases d0;exact⟨c,e',z.keeps old⟩⟩
  cell:=λx c e=>by obtain⟨v,z⟩:=U.cell x c<|S.cl_old U e;exact⟨v,z.keeps old⟩
  free:=HC,freeC:=λx c e=>U.freeC x c (S.cl_old U e)
  pin:=λp hp=>by
   obtain⟨a,b,c,d,e⟩:=U.pin p hp;have ec:=ltN a;refine⟨old _ _ a,b,neN (by show @Ne Nat p.1 C;lia),λz=>?_,e⟩;rcases Am.mp (U.stkSub _ z) with q|q
   ·exact c q
   ·exact d q
  hok:=U.hok.kept old
  len:=by show(σ++_).length=(X.N++T).length;rw[Aa,Aa,B9,U.len] }
 have ca:∀(al:List<|Addr×Obj) (H':Hp),(∀p∈al,p∈pins\/p.1=D)->(∀b∈fp,H' b=none)->∀b∈fp,oo X' al H' b:=λal H' hp hn b j=>by
  obtain⟨_,q1,q2,q3,q4,q5⟩:=f2 b j;have ec:=bj b j;refine⟨hn b j,neN (by show @Ne Nat b C;lia),bm.exfs b j,.inl j,(bm.exf b j).2,λp ed=>?_⟩;rcases Ak.mp ed with z|z
  ·exact q5 p<|Al _ z
  ·rcases hp p z with z|z
   ·exact q5 p<|Ac _ z
   ·rw[z];exact neN (by lia)
 have stay:Tn.keep=Tn.keep:=rfl;have bf:∀ac:Xk,ac={ I with heap:=av,toks:=I.toks+([]:List<|Str×Xj).length }->
  codeAny (model X.prog X.w) X.A (.compLoop (.ListComp ml [⟨target,iter,lm,0⟩] scope pos) 0 (.ref it) (.ref D) X'.env) (RR (.ref D) C) ac:=by
  rintro ac rfl;refine gU (λn s'=>∃i cc H' ys ab k,z8 X' pins cc H' s'/\(cc.length=X.N.length+T.length/\∀(i:Nat) v,(σ++List.replicate T.length none)[i]?=some (some v)->cc[i]?=some (some v))/\
   s'.heap.get? D=some { cls:=.type "list",data:=.seq (ab:W8).toArray k }/\zn ys ab/\H' D=none/\tn i s'.heap/\(∀b∈fp,H' b=none)/\W i n ys H') ?_ m0
   ⟨0,_,H2,[],[],0,I4 _ U.tk,⟨by rw[Aa,B9,U.len],λ_ _ e=>e⟩,cy,.nil,HD,Tn.keep _ _ _ bg λb _ o e=>old b o e,λb j=>(f2 b j).1,w0⟩
  rintro n s3 ⟨i,et,H3,ys,ab,k,I3,⟨ee,eg⟩,eh,bb,bd,dc,dd,w3⟩;have ep:ab.length=ys.length:=bb.length.symm;have de:D∉X'.fs:=e7 D (by exact xQ);have dj:D≠X'.env.locals:=bi;have dp:z8 X' (pins++[(D,{ cls:=.type "list",data:=.seq ab.toArray k })]) (σ++List.replicate T.length none) H3 s3:=
   (I3.weak (by rw[ee,Aa,B9,U.len]) eg).pins_of λp hp=>by
    rcases Ak.mp hp with z|z
    ·exact I3.pin p<|Ac _ z
    ·have e:=Aj.mp z;subst e;exact⟨eh,bd,dj,de,λv z=>by cases z⟩
  have au:∀p∈pins++[(D,({ cls:=.type "list",data:=.seq ab.toArray k }:Obj))],p∈pins\/p.1=D:=λp hp=>by
   rcases Ak.mp hp with z|z
   ·exact .inl z
   ·exact .inr (by rw[Aj.mp z])
  rcases turn i n ys H3 w3 with⟨stop,hz,qn⟩|⟨go,hz,step⟩
  ·refine aJ (Tn.done X' rfl rfl rfl hc i _ s3 _ H3 _ dp (ca _ H3 au dd) dc stop) λr s4 ⟨hr,a0⟩=>?_;subst hr;obtain⟨ej,eu,_⟩:=a0.pin (D,_)<|Ac _<|Ac _ Ag;obtain⟨m',ek,_⟩:=a0.loc;have un:Un (frs X.stack) fp H2 (upd H3 D<|.lst ys) I.heap s4.heap:={
    keep:=a0.base.keep,slot:=a0.base.slot
    free:=λb o e n hx=>by have:=ltN e;rw[qu<|neN (by lia)];exact a0.base.free b o e n hx
    there:=a0.base.there
    tups:=λb xs e=>by rw[qu (λz=>by rw[z,HD] at e;cases e)];exact a0.base.tups b xs e
    frzs:=λb o u e=>by rw[qu (λz=>by rw[z,HD] at e;cases e)];exact a0.base.frzs b o u e
    tbls:=λb ps e=>by rw[qu (λz=>by rw[z,HD] at e;cases e)];exact a0.base.tbls b ps e }
   have el:g8 X.prog X.w (upd H3 D<|.lst ys) s4.heap:=λb u e=>by
    by_cases j:b=D
    ·subst j;rw[zu] at e;cases e;exact⟨hz,ab,k,bb,ej⟩
    ·rw[qu j] at e;refine(a0.hok b u e).stay (λ_ _ _ q=>q) (λc q=>?_) λc xs q=>?_
     ·rw[qu<|zy q bd];exact q
     ·rw[qu<|zy q bd];exact q
   have I5:z8 X pins σ (upd H3 D<|.lst ys) s4:=U.call' (ch:=fp) a0.os un el a0.bare λb j=>⟨(f2 b j).2.2.2.1,(f2 b j).2.1,(f2 b j).2.2.2.2.1,(f2 b j).2.2.2.2.2⟩;refine e6 D C s4 _ m' I5 ?_ ek<|qn D bd;refine⟨by rw[qu<|AQ bi];exact a0.free,?_,?_,.inr ?_,λx c e=>?_,λp hp=>?_⟩
   ·exact neN (by lia)
   ·exact U.nofs<|Bs (by lia)
   ·exact Bs (by lia)
   ·exact neN (by have:=aL x c e;lia)
   ·exact neN (by have:=ltN (U.pin p hp).1;lia)
  ·refine aJ (Tn.item X' rfl rfl rfl hc i _ s3 _ H3 _ dp (ca _ H3 au dd) dc go) λr s4 ψ=>?_;obtain⟨u,hr,h4⟩:=ψ;subst hr;refine aJ h4 λ_ s5 ψ=>?_;obtain⟨x,H5,I5,r5,y5,ck,em⟩:=ψ;have en:=I5.pinned (ca _ H5 au em)<|Tn.obj _ _ ck;refine A4 ((hg C fp I H2) _ s5 _ H5 x u _ en r5<|e5 σ U.len x H5 _<|step x H5 y5) (λ_ s6 ψ=>?_) λ_ _ z=>z;obtain⟨ba,H6,I6,⟨dv,dV⟩,q6⟩:=ψ;refine A4 ((hf C fp I H2) _ s6 ba H6 _ I6 q6) (λb s7 ψ=>?_) λ_ _ z=>z;obtain⟨H7,I7,q7⟩:=ψ;have jv:∀{s8:Xk} {H8:Hp} (I8:z8 X' ((pins++[(D,{ cls:=.type "list",data:=.seq ab.toArray k })])++oV fp s5.heap) ba H8 s8),tn (i+1) s8.heap/\(∀b∈fp,H8 b=none)/\s8.heap.get? D=some { cls:=.type "list",data:=.seq ab.toArray k }/\H8 D=none/\z8 X' pins ba H8 s8:=λ{s8 H8} I8=>by
    refine⟨Tn.keep _ _ _ ck λb j o e=>(I8.pin (b,o)<|Ac _<|Ac _<|dG j e).1,λb j=>?_,?_,?_,I8.unpinned.unpinned⟩
    ·obtain⟨o,e,d⟩:=Tn.obj _ _ ck b j;exact(I8.pin (b,o)<|Ac _<|Ac _<|dG j e).2.1
    ·exact(I8.pin (D,_)<|Ac _<|Al _<|Ac _ Ag).1
    ·exact(I8.pin (D,_)<|Ac _<|Al _<|Ac _ Ag).2.1
   cases b with
   |false=>
    rw[Ar AH] at q7 ⊢;obtain⟨m',hm,w7⟩:=q7;obtain⟨a1,a2,a3,a4,a5⟩:=jv I7;exact⟨m',hm,i+1,ba,H7,ys,ab,k,a5,⟨dv,dV⟩,a3,bb,a4,a1,a2,w7⟩
   |true=>
    rw[Aw rfl] at q7 ⊢;refine A4 ((he C fp I H2) _ s7 ba H7 _ I7 q7) (λv s8 ψ=>?_) λ_ _ z=>z;obtain⟨y,H8,I8,r8,m',hm,w8⟩:=ψ;obtain⟨a1,a2,a3,a4,a5⟩:=jv I8;refine xL a3 (by lia) λh9 k9 e4 eo=>?_;have nD:∀b∈fp,b≠D:=λb j=>neN (by have:=bj b j;lia);refine⟨m',hm,i+1,ba,H8,ys++[y],ab++[v],k9,?_,⟨dv,dV⟩,eo,bb.append<|.cons r8 .nil,a4,Tn.keep _ _ _ a1 λb j o e=>(e4.2 b<|nD b j).trans e,a2,w8⟩;exact a5.turned (t':=s8.toks) (it:=D) (λb o j e=>(e4.2 b j).trans e) a4 dj (.inr (Bs (by show @LE.le Nat instLENat I.heap.objs.size D;exact xQ))) (λx c e=>neN (by have:=aL x c<|S.cl_old U e;lia)) λp hp=>neN (by have:=ltN (U.pin p hp).1;lia)
 exact codeAny_compStart_list (bf _ rfl)<|Tn.self _ _ _ _ _ (Tn.keep _ _ _ bg λb _ o e=>old b o e)<|bf _ rfl
end
section
variable {T:Xb}{g:TG}{tc:TT}{te:TE}
theorem P9(T:Xb)(S:jc X scope)(hc:X.calm=true)(hi:PI X target iter wi)(t:∀C fp s₀ H₀,PG (X.comp scope T C fp s₀ H₀) target g)(j:qC g X.N.length T.length)
 (hf:∀C fp s₀ H₀,PF (X.comp scope T C fp s₀ H₀) lm tc) (he:∀C fp s₀ H₀,PE (X.comp scope T C fp s₀ H₀) ml te)
 (hs:∀x,foldedSetIterable iter X.env x=pure x:=by intro _;rfl):PE X (.ListComp ml [⟨target,iter,lm,0⟩] scope pos) (F_ T.length wi g tc te):=by
 intro J s r H Q I h;rw[eval_ListComp];refine wpAny_comprehension_free (use:=none) rfl hs (S.clo I) S.kind S.names<|aJ (hi J s r H _ I h) λv s1 h1=>aJ h1 λa0 s2 h2=>?_;refine oW (RR:=λl C=>compPost (model X.prog X.w) X.A X.xe none (EP X J r Q) l C) S hc t j hf he h2 ?_;intro D C s' H' m' I' U hn q;exact⟨m',hn,λh' p=>⟨.ref D,H',I'.turned (t':=s'.toks) (it:=C) (λb o hb e=>(p.2 b hb).trans e) U.1 (AQ<|AQ U.2.1) U.2.2.2.1 U.2.2.2.2.1 U.2.2.2.2.2,rfl,q⟩⟩
theorem P_(T:Xb){px j:Pos}(hN:X.N.Nodup)(l:X.N[i]?=some x)(hx:Loc X.env.scope x)(S:jc X scope)(hc:X.calm=true)(hi:PI X target iter wi)
 (hg:∀C fp s₀ H₀,PG (X.comp scope T C fp s₀ H₀) target g) (p:qC g X.N.length T.length)
 (hf:∀C fp s₀ H₀,PF (X.comp scope T C fp s₀ H₀) lm tc) (he:∀C fp s₀ H₀,PE (X.comp scope T C fp s₀ H₀) ml te)
 (r:swapsWith (.ListComp ml [⟨target,iter,lm,0⟩] scope j) (some<|.Name x px) pos.line X.env=pure true:=by rfl)
 (t:X.fn x=true\/X.env.scope.names.lookup x=some .local:=by first|exact .inl rfl|exact .inr rfl|assumption)
 (hs:∀x,foldedSetIterable iter X.env x=pure x:=by intro _;rfl):PS X (.Assign [.Name x px] (.ListComp ml [⟨target,iter,lm,0⟩] scope j) pos) (FP (F_ T.length wi g tc te)<|ef i):=by
 intro pins s σ H D I h;rw[exec_Assign_Name_used _ _ _ _ r];refine Ad<|wpAny_standAt<|Ad ?_;show wpAny _ X.A (do let _ <-comprehension (.ListComp ml [⟨target,iter,lm,0⟩] scope j) scope X.env _ (newList []) false (eval iter X.env) (some<|assign (.Name x px) X.env)) _ _ s;refine Ad (A4 (wpAny_comprehension_free (use:=some<|assign (.Name x px) X.env) (Q:=λ_ U=>SP X pins D .next U) rfl hs (S.clo I) S.kind S.names
  (aJ (hi pins s σ H _ I h) λv s1 h1=>aJ h1 λa5 s2 h2=>?_)) (λ_ U hq=>Ap<|Ap hq) λ_ _ e=>e)
 refine oW (RR:=λa0 C=>compPost (model X.prog X.w) X.A X.xe (some<|assign (.Name x px) X.env) (λ_ U=>SP X pins D .next U) a0 C) (pins:=pins) (σ:=σ) (Q:=λx H1=>ef i x σ H1 D.nx) S hc hg p hf he h2 ?_;intro A C U H' m' I' J hn q;show wpAny _ X.A (assign (.Name x px) X.env<|.ref A) _ _ U;refine wpAny_assign_Name<|pq I' hN l hx (v:=.ref A) rfl (λa1 a2 ψ _=>?_) t;obtain⟨a,hs,ha⟩:=ψ;have a3:C≠a:=by
  rcases ha with z|z
  ·rw[z];exact J.2.1
  ·exactλe=>J.2.2.2.2.1 x a z e.symm
 exact⟨m',hn.sameBut hs a3,λh' a4=>⟨_,H',a2.turned (t':=a1.toks) (it:=C) (λb o hb e=>(a4.2 b hb).trans e) J.1 J.2.1 J.2.2.2.1 J.2.2.2.2.1 J.2.2.2.2.2,q⟩⟩
end
def wg(outer:Scope)(N:Xb)(I:Scope):Bool:=
 decide (I.kind=.function)&&I.names.all (λp=>decide (p.2≠.cell)&&(decide (p.2≠.local)||decide (I.names.lookup p.1=some .local))&&(decide (p.2≠.free)||(decide (outer.names.lookup p.1=some .cell)||decide (outer.names.lookup p.1=some .free))))
  && N.all (λx=>decide<|I.names.lookup x≠some .local)
theorem wg.mk{I:Scope}(h:wg X.env.scope X.N I=true):jc X I:=by
 unfold wg at h;rw[AU,AU,CO,CO] at h;obtain⟨⟨l,J⟩,o⟩:=h;have j:∀n,(n,NameKind.free)∈I.names->X.env.kindOf n=some .cell\/X.env.kindOf n=some .free:=λn U=>by
  have q:=J _ U;simp only[AU,Ef,decide_eq_true_eq] at q;rcases q.2 with z|z
  ·exact absurd rfl z
  ·exact z
 refine⟨of_decide_eq_true l,λy g=>?_,λy g e=>?_,λn U=>j n<|BI U,j,λx p=>of_decide_eq_true<|o x p⟩
 ·have q:=J _ g;simp only[AU,Ef,decide_eq_true_eq] at q;exact q.1.1
 ·have q:=J _ g;simp only[AU,Ef,decide_eq_true_eq] at q;rcases q.1.2 with z|z
  ·exact absurd e z
  ·exact z
abbrev EL:=@wg.mk
theorem vU(n:Nat):qC (ef n) n 1:=by
 intro U I x H Q h;refine⟨⟨by simp[I],λi v e=>?_⟩,h⟩;by_cases J:i=n
 ·subst J;rw[AK (by exact xQ)] at e;simp[I] at e
 ·rw[Bv<|AQ J];exact e
theorem oi:bootBuiltins "isinstance"=some (.builtin "isinstance"):=by decide +kernel
theorem bR:bootBuiltins "tuple"=some (.type "tuple"):=by decide +kernel
theorem vO:bootBuiltins "str"=some (.type "str"):=by decide +kernel
theorem wU:bootBuiltins "int"=some (.type "int"):=by decide +kernel
theorem bZ:bootBuiltins "list"=some (.type "list"):=by decide +kernel
theorem P':bootBuiltins "len"=some (.builtin "len"):=by decide +kernel
theorem Ip{k:Nat}(I:vz k A):A.units+128<cLine:=by have:=I.un;lia
theorem fI(h:n<=1000):n<=sizeLine:=BJ<|qM h
theorem Cal.of{P:Xl}{w:Xm}{K:Ai}{k:Nat}{sp:Sp}(F:bL P w K mg base CX0 k f fd ps sp)(b:aO K fd ps [])(I:PySem.W.keepIn K (.ref f)=true)(m:mg x=some (.ref f)):
 Cal P w K mg base k x ps sp:=⟨f,fd,F,b,I,m⟩
theorem bL.never{P:Xl}{w:Xm}{K:Ai}{k:Nat}{sp:Sp}(no:∀vs H Q E,¬sp vs H Q E):bL P w K mg base CX0 k f fd ps sp:=
 ⟨λvs H Q E h=>absurd h<|no vs H Q E,λA I s H args J vs Q E _ _ _ _ h=>absurd h<|no vs H Q E⟩
section
variable (K:Ai)(P:Xl)(w:Xm)
end
structure qw(K:Ai)(x:Str)(st:Stmt):Prop where
 ex:∃(f:Addr) (kV ir pm:Xj) (an:Option Addr) (fm ct:Xj),PySem.W.nsIn K mainGlobals x=some (some<|.ref f)/\Fun K x x st f (PySem.W.fnOf x x (x4 st) (j6 st) (qt st) .none kV ir pm an fm ct)
theorem def_in{K:Ai}{kV ct:Xj}(a:PySem.W.nsIn K mainGlobals x=some (some<|.ref f))
 (l:K.lookup f=some ⟨oc,od,.func<|PySem.W.fnOf x x (x4 st) (j6 st) (qt st) .none kV ir pm an fm ct,mD⟩) (c:PySem.W.codeIn K fm x=true) (k:PySem.W.keepIn K (.ref f)=true):qw K x st:=
 ⟨f,kV,ir,pm,an,fm,ct,a,Ie (st:=st) l c k⟩
theorem qw.use{K:Ai}(D:qw K x st)(X:K.In h)(G:h.Ns mainGlobals mg)
 (I:∀(kV ir pm:Xj) (an:Option Addr) (fm ct:Xj) (us:W8),us.length=ps.length->bindArgs (PySem.W.fnOf x x (x4 st) (j6 st) (qt st) .none kV ir pm an fm ct) ⟨us,[]⟩=pure (ps.zip us)):
 ∃f fd,Fun K x x st f fd/\aO K fd ps []/\mg x=some (.ref f):=by
 obtain⟨f,kV,ir,pm,an,fm,ct,a,F⟩:=D.ex;exact⟨f,_,F,aO.all<|I kV ir pm an fm ct,CA X G a⟩
end L2
namespace Words
open PySem L2
inductive Wd where
 |leaf (t:Bool) (n:Str)
 |node (e:Bool) (l r:Wd)
def kL:Bool->Str
 |false => "plain"
 |true => "turned"
def kN:Bool->Str
 |false => "both"
 |true => "either"
def Wd.turn:Wd->Wd
 |.leaf t n=>.leaf (!t) n
 |.node e l r=>.node (!e) l.turn r.turn
def Wd.depth:Wd->Nat
 |.leaf _ _=>1
 |.node _ l r=>max l.depth r.depth+1
def Wd.leaves:Wd->Nat
 |.leaf _ _=>1
 |.node _ l r=>l.leaves+r.leaves
theorem Wd.leaves_pos:∀w:Wd,1<=w.leaves
 |.leaf _ _=>An _
 |.node _ l r=>by have:=Wd.leaves_pos l;show 1<=l.leaves+r.leaves;exact Ii
theorem Wd.depth_le:∀w:Wd,w.depth<=w.leaves
 |.leaf _ _=>An _
 |.node _ l r=>by have:=Wd.depth_le l;have:=Wd.depth_le r;have:=Wd.leaves_pos l;have:=Wd.leaves_pos r;show max l.depth r.depth+1<=l.leaves+r.leaves;lia
def rM:Wd->Da
 |.leaf t n=>.tup [.s<|.str<|kL t,.s<|.str n]
 |.node e l r=>.tup [.s<|.str<|kN e,rM l,rM r]
def fH(x:Str):Prop:=1<=x.length/\x.length<=8/\∀c∈x.cps.toList,97<=c/\c<=122
def Wd.ok:Wd->Prop
 |.leaf _ n=>fH n
 |.node _ l r=>l.ok/\r.ok
theorem Paired.app{α β:Type}{F:α->β->Prop}:∀{xs I:List α} {ys J:List β},Paired F xs ys->Paired F I J->Paired F (xs++I) (ys++J)
 |_,_,_,_,.nil,s=>s
 |_,_,_,_,.cons r t,s=>.cons r<|Paired.app t s
theorem Paired.getP{F:α->β->Prop}:∀{xs:List α} {ys:List β} {i:Nat} {x:α},Paired F xs ys->xs[i]?=some x->∃y,ys[i]?=some y/\F x y:=by
 intro xs ys i x h
 induction h generalizing i with
 |nil=>intro h;simp at h
 |cons r t I=>
  intro h;cases i with
  |zero=>simp at h;subst h;exact⟨_,rfl,r⟩
  |succ i=>
   obtain⟨y,e,q⟩:=I (i:=i) (by simpa using h);exact⟨y,by simpa using e,q⟩
end Words
namespace L2
open PySem PySem.Spec PyProof.Rows
theorem Iq:bootBuiltins "max"=some (.builtin "max"):=by decide +kernel
theorem Qa:bootBuiltins "bool"=some (.type "bool"):=by decide +kernel
end L2
namespace Words
open PySem L2
def Wd.size:Wd->Nat
 |.leaf _ _=>1
 |.node _ l r=>1+l.size+r.size
theorem Wd.size_eq:∀w:Wd,w.size+1=2*w.leaves
 |.leaf _ _=>rfl
 |.node _ l r=>by have:=Wd.size_eq l;have:=Wd.size_eq r;show 1+l.size+r.size+1=2*(l.leaves+r.leaves);lia
end Words
namespace L2
open PySem PySem.Spec PyProof.Rows
section
variable {a:Addr}{tr:Option Addr}
end
section
variable {a b T:Addr}{tr:Option Addr}{E1:X1}
end
section
variable {k:Nat}{sp:Sp}{E1:X1}{p:Pos}{t:TA}
end
section
variable {a T:Addr}{tr:Option Addr}
end
section
variable {a T:Addr}
end
open PySem PySem.Spec PyProof.Rows PySem.W
open Builtin.ObjectAttr in
section
variable {prog:Xl}{w:Xm}{K:Frag}{a:Addr}
open Builtin Builtin.ObjectAttr Builtin.Getset_descriptor in
end
def Qb(K:Ai)(H:Hp)(a C:Addr):Prop:=∃I,H a=some (.frz I<|.own 0)/\I.cls=.ref C
def rC(H:Hp)(P:Addr)(q:Str):Prop:=∃ps,H P=some (.tbl ps)/\TriplesOk ps.toList/\∀pos I,codeAmong pos ps.toList=some I->∃c' oc vs t,I=.ref c'/\H c'=some (.frz oc<|.own 0)/\oc.data=.fields vs/\vs[1]?=some (.str q t)
theorem rC.keep{P:Addr}{q:Str}(h:rC H P q)(e:H' P=H P)(t:∀b o u,H b=some (.frz o u)->H' b=some (.frz o u)):rC H' P q:=by obtain⟨I,J,U,g⟩:=h;refine⟨I,e.trans J,U,λpos j z=>?_⟩;obtain⟨l,p,r,C,T,e2,e3⟩:=g pos j z;exact⟨l,p,r,C,T,t _ _ _ e2,e3⟩
end L2
namespace L3
open PySem L2
inductive Y where
 |non|bl (b:Bool)|int (i:Int)|str (x:Str)|ref (a:Addr)|ty (n:Xo)|cd (kvs:List<|Str×Str)|tup (ys:List Y)|sq (ys:List Y)
inductive LO where
 |lst (ys:List Y)|dct (kvs:List<|zv×Y)|ins (C:Addr) (fs:List<|Str×Y)|exc (C:Addr)|tb (q:Str)
abbrev ql:=Addr->Option LO
def qe(L:ql)(a:Addr)(o:LO):ql:=λb=>if b=a then some o else L b
theorem q9{L:ql}{a:Addr}{o:LO}:qe L a o a=some o:=by unfold qe;rw[Aw rfl]
theorem qb{L:ql}{a b:Addr}{o:LO}(h:b≠a):qe L a o b=L b:=by unfold qe;rw[Ar h]
theorem zc{L:ql}{a:Addr}{o u:LO}:qe (qe L a o) a u=qe L a u:=by funext b;unfold qe;split<;>rfl
theorem xu{L:ql}{a b:Addr}{o:LO}(h:L a=some o)(h':L b=none):a≠b:=by intro e;subst e;rw[h] at h';cases h'
theorem gT{L:ql}{a b:Addr}{o u:LO}(h:L a=some o)(h':L b=some u)(d:o≠u):a≠b:=by intro e;subst e;rw[h] at h';exact d<|AY h'
structure G3 where
 K:Ai
 P:Xl
 w:Xm
abbrev _root_.L2.Cx.g3(X:Cx):G3:=⟨X.K,X.prog,X.w⟩
def SqF(K:Ai)(H:Hp)(a:Addr)(xs:Xp):Prop:=(∃o,H a=some (.frz o<|.lst xs))\/
 ∃(o:Obj) (eK:W9) (n:Nat),K.lookup a=some o/\o.cls=.type "list" /\ o.dict=none/\o.data=.seq eK n/\eK.size<=sizeLine/\zn xs eK.toList
theorem SqF.sq{K:Ai}{a:Addr}(h:SqF K H a xs):aY K H a xs:=by
 rcases h with⟨o,h⟩|h
 ·exact .inl<|.inr ⟨o,h⟩
 ·exact .inr h
mutual
def RV(G:G3)(H:Hp):Y->V->Prop
 |.non,v=>v=.non
 |.bl b,v=>v=.bl b
 |.int i,v=>v=.int i
 |.str x,v=>v=.str x
 |.ref a,v=>v=.ref a
 |.ty n,v=>v=.ty n
 |.cd kvs,v=>∃a,v=.ref a/\KD G.K G.P G.w a (kvs.map λp=>(Sum.inr p.1,V.str p.2))
 |.tup ys,v=>∃a xs,v=.ref a/\dh G.K H a xs/\xx G H ys xs
 |.sq ys,v=>∃a xs,v=.ref a/\SqF G.K H a xs/\xx G H ys xs
def xx(G:G3)(H:Hp):List Y->Xp->Prop
 |[],xs=>xs=[]
 |y::ys,xs=>∃x I,xs=x::I/\RV G H y x/\xx G H ys I
end
def Qc:HO->Bool
 |.tup _=>true
 |.frz _ _=>true
 |_=>false
def j9(H H':Hp):Prop:=∀a u,Qc u=true->H a=some u->H' a=some u
theorem j9.refl(H:Hp):j9 H H:=λ_ _ _ h=>h
abbrev ED:=@j9.refl
theorem j9.trans{H1 H2:Hp}(a:j9 H H1)(b:j9 H1 H2):j9 H H2:=λc u i h=>b c u i<|a c u i h
theorem j9.new{p:Addr}{o:HO}(h:H p=none):j9 H (upd H p o):=λ_ _ _ q=>by rw[qu<|zy q h];exact q
abbrev EE:=@j9.new
theorem j9.lst{p:Addr}{o:HO}(h:H p=some (.lst zs)):j9 H (upd H p o):=λa u i q=>by rw[qu ?_];exact q;rintro rfl;rw[h] at q;cases q;cases i
abbrev EO:=@j9.lst
theorem dh.ts{K:Ai}{a:Addr}(h:dh K H a xs)(t:j9 H H'):dh K H' a xs:=by
 rcases h with(h|⟨o,h⟩)|h
 ·exact .inl<|.inl<|t _ _ rfl h
 ·exact .inl<|.inr ⟨o,t _ _ rfl h⟩
 ·exact .inr h
theorem SqF.ts{K:Ai}{a:Addr}(h:SqF K H a xs)(t:j9 H H'):SqF K H' a xs:=by
 rcases h with⟨o,h⟩|h
 ·exact .inl ⟨o,t _ _ rfl h⟩
 ·exact .inr h
mutual
theorem RV.ts{G:G3}{H H':Hp}(t:j9 H H'):∀{y:Y} {v:V},RV G H y v->RV G H' y v
 |.non,_,h=>h
 |.bl _,_,h=>h
 |.int _,_,h=>h
 |.str _,_,h=>h
 |.ref _,_,h=>h
 |.ty _,_,h=>h
 |.cd _,_,h=>h
 |.tup _,_,ψ=>(by obtain⟨a,I,e,s,r⟩:=ψ;exact ⟨a,I,e,dh.ts s t,xx.ts t r⟩)
 |.sq _,_,ψ=>(by obtain⟨a,I,e,s,r⟩:=ψ;exact ⟨a,I,e,s.ts t,xx.ts t r⟩)
theorem xx.ts{G:G3}{H H':Hp}(t:j9 H H'):∀{ys:List Y} {xs:Xp},xx G H ys xs->xx G H' ys xs
 |[],_,h=>h
 |_::_,_,ψ=>(by obtain⟨x,I,e,r,s⟩:=ψ;exact ⟨x,I,e,RV.ts t r,xx.ts t s⟩)
end
theorem xx.length{G:G3}{H:Hp}:∀{ys:List Y} {xs:Xp},xx G H ys xs->ys.length=xs.length
 |[],_,h=>by cases h;rfl
 |_::_,_,ψ=>by obtain⟨x,I,e,_,s⟩:=ψ;subst e;simp[xx.length s]
theorem xx.get{G:G3}{H:Hp}:∀{ys:List Y} {xs:Xp} {i:Nat} {y:Y},xx G H ys xs->ys[i]?=some y->∃x,xs[i]?=some x/\RV G H y x
 |[],_,_,_,_,h=>by simp at h
 |_::_,_,0,_,ψ,h=>by obtain⟨x,I,e,r,_⟩:=ψ;subst e;simp at h;subst h;exact⟨x,rfl,r⟩
 |_::_,_,i+1,_,ψ,h=>by obtain⟨x,I,e,_,s⟩:=ψ;subst e;obtain⟨J,q,r⟩:=xx.get (i:=i) s (by simpa using h);exact⟨J,by simpa using q,r⟩
theorem xx.app{G:G3}{H:Hp}:∀{ys zs:List Y} {xs us:Xp},xx G H ys xs->xx G H zs us->xx G H (ys++zs) (xs++us)
 |[],_,_,_,h,q=>by cases h;exact q
 |_::_,_,_,_,ψ,q=>by obtain⟨x,I,e,r,s⟩:=ψ;subst e;exact⟨x,I++_,rfl,r,xx.app s q⟩
theorem xx.one{G:G3}{y:Y}{x:V}(r:RV G H y x):xx G H [y] [x]:=⟨x,[],rfl,r,rfl⟩
theorem xx.take{G:G3}{H:Hp}:∀{ys:List Y} {xs:Xp} (n:Nat),xx G H ys xs->xx G H (ys.take n) (xs.take n)
 |[],_,n,h=>by cases h;simp[xx]
 |_::_,_,0,_=>by simp[xx]
 |_::_,_,n+1,ψ=>by obtain⟨x,I,e,r,s⟩:=ψ;subst e;exact⟨x,I.take n,rfl,r,xx.take n s⟩
theorem xx.drop{G:G3}{H:Hp}:∀{ys:List Y} {xs:Xp} (n:Nat),xx G H ys xs->xx G H (ys.drop n) (xs.drop n)
 |[],_,n,h=>by cases h;simp[xx]
 |_::_,_,0,h=>h
 |_::_,_,n+1,ψ=>by obtain⟨x,I,e,r,s⟩:=ψ;subst e;exact xx.drop n s
theorem xx.setY{G:G3}{H:Hp}{y:Y}{x:V}(r:RV G H y x):∀{ys:List Y} {xs:Xp} (i:Nat),xx G H ys xs->xx G H (ys.set i y) (xs.set i x)
 |[],_,_,h=>by cases h;simp[xx]
 |_::_,_,0,ψ=>by obtain⟨J,I,e,_,s⟩:=ψ;subst e;exact⟨x,I,rfl,r,s⟩
 |_::_,_,i+1,ψ=>by obtain⟨J,I,e,q,s⟩:=ψ;subst e;exact⟨J,I.set i x,rfl,q,xx.setY r i s⟩
theorem xx.eraseIdx{G:G3}{H:Hp}:∀{ys:List Y} {xs:Xp} (n:Nat),xx G H ys xs->xx G H (ys.eraseIdx n) (xs.eraseIdx n)
 |[],_,n,h=>by cases h;simp[xx]
 |_::_,_,0,ψ=>by obtain⟨x,I,e,r,s⟩:=ψ;subst e;exact s
 |_::_,_,n+1,ψ=>by obtain⟨x,I,e,r,s⟩:=ψ;subst e;exact⟨x,I.eraseIdx n,rfl,r,xx.eraseIdx n s⟩
def RO(G:G3)(H:Hp)(a:Addr):LO->Prop
 |.lst ys=>∃xs,H a=some (.lst xs)/\xx G H ys xs
 |.dct kvs=>∃xs,H a=some (.dK xs)/\Paired (λ(p:zv×Y) (q:zv×V)=>p.1=q.1/\RV G H p.2 q.2) kvs xs
 |.ins C fs=>∃dx xs,H a=some (.ins C dx xs)/\Paired (λ(p:Str×Y) (q:Str×V)=>p.1=q.1/\RV G H p.2 q.2) fs xs
 |.exc C=>Qb G.K H a C
 |.tb q=>rC H a q
def j7(G:G3)(H:Hp)(L:ql):Prop:=∀a o,L a=some o->RO G H a o
theorem RO.ex{G:G3}{a:Addr}:∀{o:LO},RO G H a o->∃u,H a=some u
 |.lst _,ψ=>(by obtain⟨_,h,_⟩:=ψ;exact ⟨_,h⟩)
 |.dct _,ψ=>(by obtain⟨_,h,_⟩:=ψ;exact ⟨_,h⟩)
 |.ins _ _,ψ=>(by obtain⟨_,_,h,_⟩:=ψ;exact ⟨_,h⟩)
 |.exc _,ψ=>(by obtain⟨_,h,_⟩:=ψ;exact ⟨_,h⟩)
 |.tb _,ψ=>(by obtain⟨_,h,_⟩:=ψ;exact ⟨_,h⟩)
theorem j7.none{G:G3}{L:ql}(h:j7 G H L){p:Addr}(hp:H p=none):L p=none:=by cases e:L p with|none=>rfl|some o=>obtain⟨u,q⟩:=(h p o e).ex;rw[hp] at q;cases q
theorem RO.keep{G:G3}(t:j9 H H'){a:Addr}(e:H' a=H a):∀{o:LO},RO G H a o->RO G H' a o
 |.lst _,ψ=>(by obtain⟨I,h,r⟩:=ψ;exact ⟨I,e.trans h,r.ts t⟩)
 |.dct _,ψ=>(by obtain⟨I,h,r⟩:=ψ;exact ⟨I,e.trans h,EF r λ_ _ ψ=>(by obtain⟨a,b⟩:=ψ;exact ⟨a,b.ts t⟩)⟩)
 |.ins _ _,ψ=>(by obtain⟨J,I,h,r⟩:=ψ;exact ⟨J,I,e.trans h,EF r λ_ _ ψ=>(by obtain⟨a,b⟩:=ψ;exact ⟨a,b.ts t⟩)⟩)
 |.exc _,ψ=>(by obtain⟨o,h,c⟩:=ψ;exact ⟨o,e.trans h,c⟩)
 |.tb _,h=>rC.keep h e λb o u z=>t b _ rfl z
theorem j7.skip{G:G3}{L:ql}(h:j7 G H L){p:Addr}{o:HO}(hp:H p=.none):j7 G (upd H p o) L:=λa u e=>by obtain⟨x,q⟩:=(h a u e).ex;exact(h a u e).keep (EE hp) (qu<|zy q hp)
theorem j7.newL{G:G3}{L:ql}(h:j7 G H L){p:Addr}{ys:List Y}(hp:H p=.none)(r:xx G H ys xs):j7 G (upd H p<|.lst xs) (qe L p<|.lst ys):=λa u e=>by
 by_cases c:a=p
 ·subst c;rw[q9] at e;cases e;exact⟨xs,zu,r.ts<|EE hp⟩
 ·rw[qb c] at e;exact(h a u e).keep (EE hp) (qu c)
theorem j7.setL{G:G3}{L:ql}(h:j7 G H L){p:Addr}{ys:List Y}(hp:H p=some (.lst zs))(r:xx G H ys xs):j7 G (upd H p<|.lst xs) (qe L p<|.lst ys):=λa u e=>by
 by_cases c:a=p
 ·subst c;rw[q9] at e;cases e;exact⟨xs,zu,r.ts<|EO hp⟩
 ·rw[qb c] at e;exact(h a u e).keep (EO hp) (qu c)
def qh(L L':ql):Prop:=∀a o,L a=some o->L' a=some o
theorem qh.refl(L:ql):qh L L:=λ_ _ h=>h
abbrev EC:=@qh.refl
theorem qh.trans{L L1 L2:ql}(a:qh L L1)(b:qh L1 L2):qh L L2:=λc o h=>b c o<|a c o h
theorem qh.new{L:ql}{p:Addr}{o:LO}(h:L p=none):qh L (qe L p o):=λa u e=>by rw[qb<|xu e h];exact e
abbrev By:=@qh.new
@[elab_as_elim] theorem zG {L:ql} {p:Addr} {o:LO} {motive:ql->Prop} (h:L p=none) (k:∀L',qh L L'->L' p=some o->motive L'):motive (qe L p o):=k _ (By h) q9
theorem j7.sub{G:G3}{L L':ql}(h:j7 G H L')(s:qh L L'):j7 G H L:=λa o e=>h a o<|s a o e
abbrev jk:=List<|Option Y
structure vg(G:G3)(H:Hp)(σ:St)(τ:jk):Prop where
 len:σ.length=τ.length
 get:∀(i:Nat) y,τ[i]?=some (some y)->∃v,σ[i]?=some (some v)/\RV G H y v
theorem vg.ts{G:G3}{τ:jk}(h:vg G H σ τ)(t:j9 H H'):vg G H' σ τ:=
 ⟨h.len,λi y e=>let ⟨v,a,b⟩:=h.get i y e;⟨v,a,b.ts t⟩⟩
theorem vg.set{G:G3}{τ:jk}(h:vg G H σ τ){y:Y}(r:RV G H y v):vg G H (σ.set i<|some v) (τ.set i<|some y):=by
 refine⟨by simp[h.len],λj z e=>?_⟩;by_cases c:i=j
 ·subst c;have I:i<τ.length:=by
   by_cases q:i<τ.length
   ·exact q
   ·rw[CB (by simp;omega)] at e;cases e
  rw[B3 I] at e;cases e;exact⟨v,B3 (by rw[h.len];exact I),r⟩
 ·rw[Bv c] at e ⊢;exact h.get j z e
theorem vg.more{G:G3}{τ:jk}(h:vg G H σ τ)(n:Nat):vg G H (σ++List.replicate n none) (τ++List.replicate n none):=by
 refine⟨by simp[h.len],λj z e=>?_⟩;by_cases c:j<τ.length
 ·rw[AD c] at e;rw[AD (by rw[h.len];exact c)];exact h.get j z e
 ·rw[AK (by omega),Cp] at e;split at e<;>cases e
def zO:jk->Nat->Option Y
 |[],_=>none
 |o::_,0=>o
 |_::r,i+1=>zO r i
theorem sN:∀(τ:jk) (i:Nat) {y:Y},zO τ i=some y->τ[i]?=some (some y)
 |[],_,_,h=>by cases h
 |o::_,0,_,h=>by simp[zO] at h;simp[h]
 |_::r,i+1,_,h=>by simp only[C2];exact sN r i h
abbrev YK:=Y->ql->Prop
abbrev xo:=jk->ql->YK->Prop
abbrev kW:=jk->ql->(Bool->ql->Prop)->Prop
abbrev hG:=jk->ql->(List Y->ql->Prop)->Prop
structure vo where
 nx:jk->ql->Prop
 rt:YK
 bk:jk->ql->Prop:=λ_ _=>False
 ct:jk->ql->Prop:=λ_ _=>False
abbrev vn:=vo->jk->ql->Prop
abbrev oI:=Y->jk->ql->(jk->ql->Prop)->Prop
abbrev tN:=List Y->jk->ql->(jk->ql->Prop)->Prop
abbrev w_:=jk->ql->(List Y->(ql->Prop)->ql->Prop)->Prop
abbrev qI:=Y->Y->ql->YK->Prop
def u6(G:G3)(H:Hp)(I:YK)(Q:VK):Prop:=∀v H' y L',j9 H H'->j7 G H' L'->RV G H' y v->I y L'->Q v H'
def abk(G:G3)(H:Hp)(I:Bool->ql->Prop)(Q:Bool->Hp->Prop):Prop:=∀b H' L',j9 H H'->j7 G H' L'->I b L'->Q b H'
def Ir(G:G3)(H:Hp)(I:List Y->ql->Prop)(Q:Xp->Hp->Prop):Prop:=∀vs H' ys L',j9 H H'->j7 G H' L'->xx G H' ys vs->I ys L'->Q vs H'
def oj(G:G3)(H:Hp)(I:jk->ql->Prop)(Q:St->Hp->Prop):Prop:=∀σ H' τ L',j9 H H'->vg G H' σ τ->j7 G H' L'->I τ L'->Q σ H'
theorem u6.ts{G:G3}{I:YK}{Q:VK}(h:u6 G H I Q)(t:j9 H H'):u6 G H' I Q:=λv J y U g=>h v J y U<|t.trans g
theorem abk.ts{G:G3}{I:Bool->ql->Prop}{Q:Bool->Hp->Prop}(h:abk G H I Q)(t:j9 H H'):abk G H' I Q:=λv J U g=>h v J U<|t.trans g
theorem oj.ts{G:G3}{I:jk->ql->Prop}{Q:St->Hp->Prop}(h:oj G H I Q)(t:j9 H H'):oj G H' I Q:=λv J y U g=>h v J y U<|t.trans g
structure aah(G:G3)(H:Hp)(D3:vo)(D:xF):Prop where
 nx:oj G H D3.nx D.nx
 rt:u6 G H D3.rt D.rt
 bk:oj G H D3.bk D.bk
 ct:oj G H D3.ct D.ct
theorem aah.ts{G:G3}{D3:vo}{D:xF}(h:aah G H D3 D)(t:j9 H H'):aah G H' D3 D:=⟨h.nx.ts t,h.rt.ts t,h.bk.ts t,h.ct.ts t⟩
def rL(G:G3)(t:xo):TE:=λσ H Q=>∃τ L I,vg G H σ τ/\j7 G H L/\t τ L I/\u6 G H I Q
def l_(G:G3)(t:kW):TT:=λσ H Q=>∃τ L I,vg G H σ τ/\j7 G H L/\t τ L I/\abk G H I Q
def Iu(G:G3)(t:hG):TA:=λσ H Q=>∃τ L I,vg G H σ τ/\j7 G H L/\t τ L I/\Ir G H I Q
def Fl(G:G3)(t:vn):L2.TS:=λD σ H=>∃τ L D3,vg G H σ τ/\j7 G H L/\t D3 τ L/\aah G H D3 D
def E5(G:G3)(g:oI):TG:=λv σ H Q=>∃y τ L I,RV G H y v/\vg G H σ τ/\j7 G H L/\g y τ L I/\oj G H I Q
def Qd(G:G3)(g:tN):d_:=λvs σ H Q=>∃ys τ L I,xx G H ys vs/\vg G H σ τ/\j7 G H L/\g ys τ L I/\oj G H I Q
structure jL(G:G3)(H₀:Hp)(J:It)(ys:List Y)(keep:ql->Prop):Prop where
 go:∀i H L,j9 H₀ H->j7 G H L->keep L->i<ys.length->J.go i H
 yld:∀i H L x H' y,j9 H₀ H->j7 G H L->keep L->ys[i]?=some y->J.yld i H x H'->j9 H H'/\j7 G H' L/\RV G H' y x
 stop:∀H L,j9 H₀ H->j7 G H L->keep L->J.stop ys.length H
def Ga(G:G3)(wi:w_):TI:=λσ H R=>∃τ L I,vg G H σ τ/\j7 G H L/\wi τ L I/\∀J H' ys keep L',j9 H H'->j7 G H' L'->jL G H' J ys keep->I ys keep L'->R J H'
def gm(G:G3)(U:qI):R2:=λx y H Q=>∃x3 I L J,RV G H x3 x/\RV G H I y/\j7 G H L/\U x3 I L J/\u6 G H J Q
def f_(G:G3)(J:List Y->ql->YK->Prop):Xp->Hp->VK->Prop:=λxs H Q=>∃ys L I,xx G H ys xs/\j7 G H L/\J ys L I/\u6 G H I Q
def Iv(G:G3)(J:Y->ql->YK->Prop):V->Hp->VK->Prop:=λx H Q=>∃y L I,RV G H y x/\j7 G H L/\J y L I/\u6 G H I Q
theorem PE.imp{t u:TE}(h:PE X e t)(q:∀σ H Q,u σ H Q->t σ H Q):PE X e u:=λJ s σ H Q I z=>h J s σ H Q I<|q σ H Q z
abbrev EM:=@PE.imp
theorem PE.imq{G:G3}{t:TE}{u:xo}(h:PE X e t)(q:∀σ H Q τ L I,vg G H σ τ->j7 G H L->u τ L I->u6 G H I Q->t σ H Q):PE X e (rL G u):=EM h λσ H Q ψ=>(by obtain⟨τ,L,I,a,b,c,d⟩:=ψ;exact q σ H Q τ L I a b c d)
abbrev EG:=@PE.imq
theorem PT.imp{t u:TT}(h:PT X e t)(q:∀σ H Q,u σ H Q->t σ H Q):PT X e u:=λJ s σ H Q I z=>h J s σ H Q I<|q σ H Q z
theorem PT.imq{G:G3}{t:TT}{u:kW}(h:PT X e t)(q:∀σ H Q τ L I,vg G H σ τ->j7 G H L->u τ L I->abk G H I Q->t σ H Q):PT X e (l_ G u):=PT.imp h λσ H Q ψ=>(by obtain⟨τ,L,I,a,b,c,d⟩:=ψ;exact q σ H Q τ L I a b c d)
theorem PW.imp{t u:TT}(h:PW X e t)(q:∀σ H Q,u σ H Q->t σ H Q):PW X e u:=λU J s σ H Q I z=>h U J s σ H Q I<|q σ H Q z
theorem PW.imq{G:G3}{t:TT}{u:kW}(h:PW X e t)(q:∀σ H Q τ L I,vg G H σ τ->j7 G H L->u τ L I->abk G H I Q->t σ H Q):PW X e (l_ G u):=PW.imp h λσ H Q ψ=>(by obtain⟨τ,L,I,a,b,c,d⟩:=ψ;exact q σ H Q τ L I a b c d)
theorem PA.imp{e:Xc}{t u:TA}(h:PA X e t)(q:∀σ H Q,u σ H Q->t σ H Q):PA X e u:=λpos J s σ H Q I z=>h pos J s σ H Q I<|q σ H Q z
theorem PA.imq{G:G3}{e:Xc}{t:TA}{u:hG}(h:PA X e t)(q:∀σ H Q τ L I,vg G H σ τ->j7 G H L->u τ L I->Ir G H I Q->t σ H Q):PA X e (Iu G u):=PA.imp h λσ H Q ψ=>(by obtain⟨τ,L,I,a,b,c,d⟩:=ψ;exact q σ H Q τ L I a b c d)
theorem PS.imp{e:Stmt}{t u:L2.TS}(h:PS X e t)(q:∀D σ H,u D σ H->t D σ H):PS X e u:=λJ s σ H Q I z=>h J s σ H Q I<|q _ σ H z
theorem PS.imq{G:G3}{e:Stmt}{t:L2.TS}{u:vn}(h:PS X e t)(q:∀D σ H τ L D3,vg G H σ τ->j7 G H L->u D3 τ L->aah G H D3 D->t D σ H):PS X e (Fl G u):=PS.imp h λD σ H ψ=>(by obtain⟨τ,L,D3,a,b,c,d⟩:=ψ;exact q D σ H τ L D3 a b c d)
abbrev EH:=@PS.imq
theorem lU.imp{e:Xd}{t u:L2.TS}(h:lU X e t)(q:∀D σ H,u D σ H->t D σ H):lU X e u:=λJ s σ H Q I z=>h J s σ H Q I<|q _ σ H z
theorem lU.imq{G:G3}{e:Xd}{t:L2.TS}{u:vn}(h:lU X e t)(q:∀D σ H τ L D3,vg G H σ τ->j7 G H L->u D3 τ L->aah G H D3 D->t D σ H):lU X e (Fl G u):=lU.imp h λD σ H ψ=>(by obtain⟨τ,L,D3,a,b,c,d⟩:=ψ;exact q D σ H τ L D3 a b c d)
theorem PF.imp{e:Xc}{t u:TT}(h:PF X e t)(q:∀σ H Q,u σ H Q->t σ H Q):PF X e u:=λJ s σ H Q I z=>h J s σ H Q I<|q σ H Q z
end L3
variable {g:L3.oI}{G:L3.G3}{y:L3.Y}{tA tc:L3.kW}{ta tb te ti to:L3.xo}{kvs:List<|L2.zv×L3.Y}{ys:List L3.Y}{L L' L0 L1:L3.ql}{τ:L3.jk}{gs:L3.tN}{tr:L3.hG}
namespace L3
open PySem L2
def aK(b:Bool)(A B:Prop):Prop:=match b with
 |true=>A
 |false=>B
theorem Qe{b:Bool}{A B:Prop}(h:b=true->A)(k:b=false->B):aK b A B:=by cases b with|true=>exact h rfl|false=>exact k rfl
theorem fT{b:Bool}{A B:Prop}(e:b=true)(h:A):aK b A B:=by rw[e];exact h
theorem wn{b:Bool}{A B:Prop}(e:b=false)(h:B):aK b A B:=by rw[e];exact h
theorem je{p:Prop} [Decidable p]{A B:Prop}(h:p->A)(k:¬p->B):aK (decide p) A B:=by
 by_cases c:p
 ·rw[Ax c];exact h c
 ·rw[AB c];exact k c
def nb(neg b:Bool):Bool:=match neg with
 |true=>!b
 |false=>b
def qk(i:Nat)(τ:jk)(L:ql)(Q:YK):Prop:=match zO τ i with
 |some y=>Q y L
 |none=>False
def yC(y:Y)(_:jk)(L:ql)(Q:YK):Prop:=Q y L
def wy(r:qI)(ta tb:xo)(τ:jk)(L:ql)(Q:YK):Prop:=ta τ L λx L1=>tb τ L1 λy L2=>r x y L2 Q
def Iw(r:Y->ql->YK->Prop)(ta:xo)(τ:jk)(L:ql)(Q:YK):Prop:=ta τ L λx L1=>r x L1 Q
def yI(C:Int->Int->Prop)(g:Int->Int->Y)(x y:Y)(L:ql)(Q:YK):Prop:=match x,y with
 |.int i,.int j=>C i j/\Q (g i j) L
 |_,_=>False
def q_(g:Int->Int->Y)(x y:Y)(L:ql)(Q:YK):Prop:=match x,y with
 |.int i,.int j=>Q (g i j) L
 |_,_=>False
def Ix(x:Y)(L:ql)(Q:YK):Prop:=match x with
 |.int i=>Q (.int<|-i) L
 |_=>False
def da(L:ql):Y->Option (List Y)
 |.tup ys=>some ys
 |.sq ys=>some ys
 |.ref a=>match L a with
  |some (.lst ys)=>some ys
  |_=>none
 |_=>none
@[irreducible] def cz (L:ql) (a:Addr) (k:List Y->Prop):Prop:=match L a with
 |some (.lst ys)=>k ys
 |_=>False
theorem xc{a:Addr}{k:List Y->Prop}(h:cz L a k):∃ys,L a=some (.lst ys)/\k ys:=by
 unfold cz at h;split at h
 ·rename_i ys e;exact⟨ys,e,h⟩
 ·exact h.elim
theorem qp{a:Addr}{k:List Y->Prop}(e:L a=some (.lst ys))(h:k ys):cz L a k:=by unfold cz;rw[e];exact h
def oB(L:ql)(x:Y)(k:List Y->Prop):Prop:=match x with
 |.tup ys=>k ys
 |.sq ys=>k ys
 |.ref a=>cz L a k
 |_=>False
theorem jm{a:Addr}(h:L a=some (.lst ys)):da L (.ref a)=some ys:=by show(match L a with|some (.lst ys)=>some ys|_=>none)=some ys;rw[h]
theorem bV{x:Y}{k:List Y->Prop}(h:oB L x k):∃ys,da L x=some ys/\k ys:=by
 cases x with
 |tup ys=>exact⟨ys,rfl,h⟩
 |sq ys=>exact⟨ys,rfl,h⟩
 |ref a=>obtain⟨ys,e,q⟩:=xc h;exact⟨ys,jm e,q⟩
 |_=>exact h.elim
theorem pJ{a:Addr}(h:da L (.ref a)=some ys):L a=some (.lst ys):=by
 have I:(match L a with|some (.lst ys)=>some ys|_=>none)=some ys:=h;split at I
 ·rename_i e;cases I;exact e
 ·cases I
theorem Qf{x:Y}{k:List Y->Prop}(e:da L x=some ys)(h:k ys):oB L x k:=by cases x with|tup I=>cases e;exact h|sq I=>cases e;exact h|ref a=>exact qp (pJ e) h|_=>cases e
theorem qc{a:Addr}{k:List Y->Prop}(e:L a=some (.lst ys))(h:k ys):oB L (.ref a) k:=Qf (jm e) h
def xO(x y:Y)(L:ql)(Q:YK):Prop:=match x,y with
 |.int i,.int j=>Q (.int<|i+j) L
 |.str a,.str b=>a.length+b.length<=sizeLine/\Q (.str<|a++b) L
 |.ref a,.ref b=>∃ys zs,L a=some (.lst ys)/\L b=some (.lst zs)/\ys.length+zs.length<=sizeLine/\∀p,L p=none->Q (.ref p) (qe L p<|.lst<|ys++zs)
 |_,_=>False
def c_(L:ql)(Q:α->ql->Prop):Option α->Prop
 |some v=>Q v L
 |none=>False
def v4(kvs:List<|zv×Y)(k:zv):Option Y:=(kvs.find? λp=>decide<|p.1=k).map (·.2)
@[irreducible] def mS (L:ql) (a:Addr) (k:List (zv×Y)->Prop):Prop:=match L a with
 |some (.dct kvs)=>k kvs
 |_=>False
theorem cQ{a:Addr}{k:List (zv×Y)->Prop}(h:mS L a k):∃kvs,L a=some (.dct kvs)/\k kvs:=by
 unfold mS at h;split at h
 ·rename_i I e;exact⟨I,e,h⟩
 ·exact h.elim
theorem xn{a:Addr}{k:List (zv×Y)->Prop}(e:L a=some (.dct kvs))(h:k kvs):mS L a k:=by unfold mS;rw[e];exact h
def og(x y:Y)(L:ql)(Q:YK):Prop:=match x,y with
 |.str z,.int i=>z.length<=sizeLine/\c_ L (λc L=>Q (.str ⟨#[c]⟩) L) (cI z.cps.toList i)
 |.cd kvs,.str k=>c_ L (λs L=>Q (.str s) L)<|kvs.lookup k
 |.ref a,.str k=>mS L a λkvs=>c_ L Q<|v4 kvs<|.inr k
 |x,.int i=>oB L x λys=>c_ L Q<|cI ys i
 |_,_=>False
def Cf(xs:List Y)(L:ql)(Q:YK):Prop:=match xs with
 |[.str z]=>z.length<=sizeLine/\Q (.int z.length) L
 |[x]=>oB L x λys=>Q (.int ys.length) L
 |_=>False
def Gb(xs:List Y)(L:ql)(Q:YK):Prop:=match xs with
 |[.int i,.int j]=>Q (.int<|max i j) L
 |_=>False
def Iy(xs:List Y)(L:ql)(Q:YK):Prop:=match xs with
 |[.int i,.int j]=>Q (.int<|min i j) L
 |_=>False
inductive sg where
 |non|bool|int|str|tuple|list|dict
def sg.nm:sg->Xo
 |.non => "NoneType"
 |.bool => "bool"
 |.int => "int"
 |.str => "str"
 |.tuple => "tuple"
 |.list => "list"
 |.dict => "dict"
def Db(L:ql):Y->Option sg
 |.non=>some .non
 |.bl _=>some .bool
 |.int _=>some .int
 |.str _=>some .str
 |.tup _=>some .tuple
 |.sq _=>some .list
 |.ref a=>match L a with
  |some (.lst _)=>some .list
  |some (.dct _)=>some .dict
  |_=>none
 |_=>none
theorem Qg{a:Addr}(h:L a=some (.lst ys)):Db L (.ref a)=some .list:=by show(match L a with|some (.lst _)=>some sg.list|some (.dct _)=>some .dict|_=>none)=some .list;rw[h]
def Gc:sg->sg->Bool
 |.bool,.int=>true
 |.bool,.bool=>true
 |.int,.int=>true
 |.str,.str=>true
 |.tuple,.tuple=>true
 |.list,.list=>true
 |.dict,.dict=>true
 |.non,.non=>true
 |_,_=>false
@[irreducible] def E6 (L:ql) (a:Addr) (k:sg->Prop):Prop:=match Db L (.ref a) with
 |some T=>k T
 |none=>False
theorem Qh{a:Addr}{k:sg->Prop}(h:E6 L a k):∃T,Db L (.ref a)=some T/\k T:=by
 unfold E6 at h;split at h
 ·rename_i T e;exact⟨T,e,h⟩
 ·exact h.elim
theorem i8{a:Addr}{k:sg->Prop}(e:L a=some (.lst ys))(h:k .list):E6 L a k:=by unfold E6;rw[Qg e];exact h
def Iz(L:ql)(x:Y)(k:sg->Prop):Prop:=match x with
 |.non=>k .non
 |.bl _=>k .bool
 |.int _=>k .int
 |.str _=>k .str
 |.tup _=>k .tuple
 |.sq _=>k .list
 |.ref a=>E6 L a k
 |_=>False
theorem Qi{x:Y}{k:sg->Prop}(h:Iz L x k):∃T,Db L x=some T/\k T:=by cases x with|ref a=>exact Qh h|ty n=>exact h.elim|cd k=>exact h.elim|_=>exact⟨_,rfl,h⟩
def IA(S:sg)(te:xo)(τ:jk)(L:ql)(Q:YK):Prop:=te τ L λx L1=>Iz L1 x λT=>Q (.bl<|Gc T S) L1
def kZ:Y->Bool
 |.non=>true
 |.bl _=>true
 |.int _=>true
 |.str _=>true
 |_=>false
def iG:Y->V
 |.non=>.non
 |.bl b=>.bl b
 |.int i=>.int i
 |.str x=>.str x
 |_=>.ty "?"
theorem RV.flat :∀{y:Y} {v:V},kZ y=true->RV G H y v->v=iG y:=by intro y v e h;cases y<;>first|exact h|cases e
theorem iy:∀{y:Y},kZ y=true->am (iG y)=true
 |.non,_=>rfl
 |.bl _,_=>rfl
 |.int _,_=>rfl
 |.str _,_=>rfl
theorem xx.flat :∀{ys:List Y} {xs:Xp},ys.all kZ=true->xx G H ys xs->xs=ys.map iG
 |[],_,_,h=>h
 |y::ys,_,f,ψ=>by obtain⟨x,I,e,r,s⟩:=ψ;rw[DJ,AU] at f;rw[e,r.flat f.1,s.flat f.2];rfl
def yR:Y->Bool
 |.ref _=>true
 |.sq _=>true
 |_=>false
def jw(L:ql):Nat->Y->Da->Prop
 |0,y,d=>kZ y=true/\d=.s (iG y)
 |n+1,y,d=>(kZ y=true/\d=.s (iG y))\/(∃ys ds,y=.tup ys/\d=.tup ds/\Paired (jw L n) ys ds)\/(∃ys ds,yR y=true/\d=.lst ds/\da L y=some ys/\Paired (jw L n) ys ds)
def DH:Y->Bool
 |.ref _=>true
 |.tup _=>true
 |.sq _=>true
 |_=>false
def yH(neg:Bool)(x y:Y)(L:ql)(Q:YK):Prop:=match x,y with
 |.int i,.int j=>Q (.bl<|nb neg<|decide<|i=j) L
 |.str i,.str j=>Q (.bl<|nb neg<|decide<|i=j) L
 |.bl i,.bl j=>Q (.bl<|nb neg<|decide<|i=j) L
 |x,y=>DH x=true/\DH y=true/\∃n m d e,n<=128/\jw L n x d/\jw L m y e/\Q (.bl<|nb neg<|Da.eq d e) L
def gS(neg:Bool)(ta:xo)(τ:jk)(L:ql)(Q:YK):Prop:=ta τ L λx L1=>match x with
 |.non=>Q (.bl<|!neg) L1
 |_=>Q (.bl neg) L1
def yB(t:xo)(τ:jk)(L:ql)(Q:Bool->ql->Prop):Prop:=t τ L λx L1=>match x with
 |.bl c=>Q c L1
 |_=>False
def E7(t u:kW)(τ:jk)(L:ql)(Q:Bool->ql->Prop):Prop:=t τ L λc L1=>aK c (u τ L1 Q)<|Q false L1
def E8(t u:kW)(τ:jk)(L:ql)(Q:Bool->ql->Prop):Prop:=t τ L λc L1=>aK c (Q true L1)<|u τ L1 Q
def E9(t:kW)(τ:jk)(L:ql)(Q:Bool->ql->Prop):Prop:=t τ L λc L1=>Q (!c) L1
def IB(ta tb:xo)(τ:jk)(L:ql)(Q:YK):Prop:=ta τ L λx L1=>match x with
 |.bl c=>aK c (tb τ L1 Q)<|Q (.bl false) L1
 |_=>False
def Qj(ta:xo)(τ:jk)(L:ql)(Q:YK):Prop:=ta τ L λx L1=>match x with
 |.bl c=>Q (.bl<|!c) L1
 |_=>False
def Fm(t:kW)(ta tb:xo)(τ:jk)(L:ql)(Q:YK):Prop:=t τ L λc L1=>aK c (ta τ L1 Q)<|tb τ L1 Q
def vm(_:jk)(L:ql)(Q:List Y->ql->Prop):Prop:=Q [] L
def z9(ta:xo)(tr:hG)(τ:jk)(L:ql)(Q:List Y->ql->Prop):Prop:=ta τ L λx L1=>tr τ L1 λxs L2=>Q (x::xs) L2
def iE(t:hG)(τ:jk)(L:ql)(Q:YK):Prop:=t τ L λys L1=>match Nat.ble ys.length 1000 with
 |true=>Q (.tup ys) L1
 |false=>False
def hE(t:hG)(τ:jk)(L:ql)(Q:YK):Prop:=t τ L λys L1=>match Nat.ble ys.length 1000 with
 |true=>∀p,L1 p=none->Q (.ref p) (qe L1 p<|.lst ys)
 |false=>False
def xa(r:List Y->ql->YK->Prop)(t:hG)(τ:jk)(L:ql)(Q:YK):Prop:=t τ L λvs L1=>r vs L1 Q
abbrev Fa:=jk->ql->(Xg->ql->Prop)->Prop
def yA(_:jk)(L:ql)(Q:Xg->ql->Prop):Prop:=Q none L
def IC(t:xo)(τ:jk)(L:ql)(Q:Xg->ql->Prop):Prop:=t τ L λx L1=>match x with
 |.int i=>Q (some i) L1
 |_=>False
def ox(xs:List Y)(lo hi:Xg):List Y:=(xs.drop<|HT.sIx xs.length 0 lo).take<|HT.sIx xs.length xs.length hi-HT.sIx xs.length 0 lo
def ID(x:Y)(lo hi:Xg)(L:ql)(Q:YK):Prop:=match x with
 |.ref a=>cz L a λys=>∀p,L p=none->Q (.ref p) (qe L p<|.lst<|ox ys lo hi)
 |.sq ys=>∀p,L p=none->Q (.ref p) (qe L p<|.lst<|ox ys lo hi)
 |_=>False
def IE(r:Y->Xg->Xg->ql->YK->Prop)(te:xo)(tl th:Fa)(τ:jk)(L:ql)(Q:YK):Prop:=te τ L λx L1=>tl τ L1 λl L2=>th τ L2 λu L3=>r x l u L3 Q
def ja(t u:vn)(D:vo)(τ:jk)(L:ql):Prop:=t { D with nx:=u D } τ L
def bP(D:vo)(τ:jk)(L:ql):Prop:=D.nx τ L
def Qk(D:vo)(τ:jk)(L:ql):Prop:=D.ct τ L
def aP(te:xo)(D:vo)(τ:jk)(L:ql):Prop:=te τ L λ_ L1=>D.nx τ L1
def ah(te:xo)(D:vo)(τ:jk)(L:ql):Prop:=te τ L D.rt
def IF(D:vo)(_:jk)(L:ql):Prop:=D.rt .non L
def di(c:kW)(t u:vn)(D:vo)(τ:jk)(L:ql):Prop:=c τ L λb L1=>aK b (t D τ L1)<|u D τ L1
def vh(te:xo)(g:oI)(D:vo)(τ:jk)(L:ql):Prop:=te τ L λx L1=>g x τ L1 D.nx
def gQ:jk->Nat->Y->jk
 |[],_,_=>[]
 |_::r,0,y=>some y::r
 |o::r,i+1,y=>o::gQ r i y
theorem ar:∀(τ:jk) (i:Nat) (y:Y),gQ τ i y=τ.set i (some y)
 |[],_,_=>rfl
 |_::_,0,_=>rfl
 |o::r,i+1,y=>by rw[gQ,ar r i y];rfl
def qo(i:Nat)(y:Y)(τ:jk)(L:ql)(Q:jk->ql->Prop):Prop:=Q (gQ τ i y) L
def bv(ys:List Y)(τ:jk)(L:ql)(Q:jk->ql->Prop):Prop:=match ys with
 |[]=>Q τ L
 |_=>False
def jh(t:oI)(u:tN)(ys:List Y)(τ:jk)(L:ql)(Q:jk->ql->Prop):Prop:=match ys with
 |[]=>False
 |y::r=>t y τ L λI L'=>u r I L' Q
def df(n:Nat)(t:tN)(y:Y)(τ:jk)(L:ql)(Q:jk->ql->Prop):Prop:=match y with
 |.tup ys=>match ys.length==n with
  |true=>t ys τ L Q
  |false=>False
 |_=>False
def IG(i j:Nat)(ta:hG)(D:vo)(τ:jk)(L:ql):Prop:=ta τ L λvs L1=>match vs with
 |[v,w]=>D.nx (gQ (gQ τ i v) j w) L1
 |_=>False
inductive jM{α:Type}(W:α->ql->Prop)(x:α)(L:ql):Prop
 |mk:∀L',qh L' L->W x L'->jM W x L
theorem IH{W:α->ql->Prop}{x:α}(h:W x L):jM W x L:=⟨L,EC L,h⟩
inductive oN(c:kW)(tb:vn)(D:vo)(τ:jk)(L:ql):Prop
 |mk:∀W:Nat->jk->ql->Prop,(∃m,W m τ L)->(∀m τ L,W m τ L->
 c τ L λb L1=>aK b (∃N:jk->ql->Prop,(∀τ' L',N τ' L'->∃m',m'<m/\W m' τ' L')/\tb { D with nx:=jM N,ct:=jM N,bk:=D.nx } τ L1)<|D.nx τ L1)->oN c tb D τ L
inductive ue(ys:List Y)(keep:ql->Prop)(g:oI)(tb:vn)(D:vo)(τ:jk)(L1:ql):Prop
 |mk:∀W:Nat->jk->ql->Prop,W 0 τ L1->(∀i τ L,W i τ L->keep L)->
 (∀i y τ L,ys[i]?=some y->W i τ L->g y τ L λτ2 L2=>tb { D with nx:=jM<|W<|i+1,ct:=jM<|W<|i+1,bk:=D.nx } τ2 L2)->(∀τ L,W ys.length τ L->D.nx τ L)->ue ys keep g tb D τ L1
theorem aZ{keep:ql->Prop}{tb:vn}{D:vo}(h:ue ys keep g tb D τ L1):ue ys keep g tb D τ L1:=h
theorem Ql{keep:ql->Prop}{tb:vn}{D:vo}(h:ue ys keep g tb D τ L1):ue ys keep g tb D τ L1:=h
def l8(wi:w_)(g:oI)(tb:vn)(D:vo)(τ:jk)(L:ql):Prop:=wi τ L λys keep L1=>ue ys keep g tb D τ L1
@[irreducible] def r9 (L:ql) (a:Addr) (R:List Y->(ql->Prop)->ql->Prop):Prop:=match L a with
 |some (.lst ys)=>R ys (λL=>L a=some (.lst ys)) L
 |_=>False
theorem w6{a:Addr}{R:List Y->(ql->Prop)->ql->Prop}(h:L a=some (.lst ys))(q:∀keep:ql->Prop,(∀L',L' a=L a->keep L')->R ys keep L):r9 L a R:=by unfold r9;rw[h];exact q _ λL' I=>I.trans h
theorem tI{a:Addr}{R:List Y->(ql->Prop)->ql->Prop}(h:r9 L a R):∃ys keep,da L (.ref a)=some ys/\keep L/\(∀L',keep L'->da L' (.ref a)=some ys)/\R ys keep L:=by
 unfold r9 at h;split at h
 ·rename_i ys e;exact⟨ys,_,jm e,e,λL' I=>jm I,h⟩
 ·exact h.elim
def ag(tl:xo)(τ:jk)(L:ql)(R:List Y->(ql->Prop)->ql->Prop):Prop:=tl τ L λx L1=>match x with
 |.ref a=>r9 L1 a R
 |.sq ys=>R ys (λ_=>True) L1
 |_=>False
def II(tl:xo)(τ:jk)(L:ql)(R:List Y->(ql->Prop)->ql->Prop):Prop:=tl τ L λx L1=>match x with
 |.tup ys=>R ys (λ_=>True) L1
 |_=>False
def aN(lo:Int)(n:Nat):List Y:=(List.range n).map λk=>.int<|lo+(k:Nat)
def vX(ta:hG)(τ:jk)(L:ql)(R:List Y->(ql->Prop)->ql->Prop):Prop:=ta τ L λvs L1=>match vs with
 |[.int j]=>(-(2 ^ 62)<=j/\j<2 ^ 62)/\R (aN 0 j.toNat) (λ_=>True) L1
 |_=>False
def IJ(_:jk)(L:ql)(Q:Bool->ql->Prop):Prop:=Q true L
inductive g_(ys:List Y)(keep:ql->Prop)(n:Nat)(g:oI)(tc:kW)(te:xo)(τ:jk)(L1:ql)(Q:YK):Prop
 |mk:ys.length<sizeLine->∀W:Nat->List Y->ql->Prop,W 0 [] L1->(∀i zs L,W i zs L->keep L)->
 (∀i y zs L,ys[i]?=some y->W i zs L->g y (τ++List.replicate n none) L λτ2 L2=>tc τ2 L2 λb L3=>aK b (te τ2 L3 λz L4=>jM (W<|i+1) (zs++[z]) L4)<|jM (W<|i+1) zs L3)->
 (∀zs L,W ys.length zs L->∀p,L p=none->Q (.ref p) (qe L p<|.lst zs))->g_ ys keep n g tc te τ L1 Q
theorem IK{keep:ql->Prop}{Q:YK}(h:g_ ys keep n g tc te τ L1 Q):g_ ys keep n g tc te τ L1 Q:=h
theorem Qm{keep:ql->Prop}{Q:YK}(h:g_ ys keep n g tc te τ L1 Q):g_ ys keep n g tc te τ L1 Q:=h
def ya(n:Nat)(wi:w_)(g:oI)(tc:kW)(te:xo)(τ:jk)(L:ql)(Q:YK):Prop:=wi τ L λys keep L1=>g_ ys keep n g tc te τ L1 Q
abbrev zd:=List Y->ql->YK->Prop
def xm(sp:zd)(t:hG)(τ:jk)(L:ql)(Q:YK):Prop:=t τ L λys L1=>sp ys L1 Q
def vq(x:Y)(vs:List Y)(L:ql)(Q:YK):Prop:=match x,vs with
 |.ref a,[v]=>cz L a λys=>ys.length<sizeLine/\Q .non (qe L a<|.lst<|ys++[v])
 |_,_=>False
def qV(x:Y)(vs:List Y)(L:ql)(Q:YK):Prop:=match x,vs with
 |.ref a,[.ref b]=>cz L a λys=>cz L b λzs=>ys.length+zs.length<=sizeLine/\Q .non (qe L a<|.lst<|ys++zs)
 |_,_=>False
end L3
variable {sp:L3.zd}
namespace L3
open PySem L2
theorem wc.imp{f:Xj->Xj->Sem Xj}{r U:R2}(h:wc X f r)(q:∀x y H Q,U x y H Q->r x y H Q):wc X f U:=λJ s g H x y v u Q I j l z=>h J s g H x y v u Q I j l<|q x y H Q z
theorem wc.imq{f:Xj->Xj->Sem Xj}{r:R2}{u:qI}(h:wc X f r)(q:∀x y H Q x3 I L J,RV G H x3 x->RV G H I y->j7 G H L->u x3 I L J->u6 G H J Q->r x y H Q):wc X f (gm G u):=wc.imp h λx y H Q ψ=>(by obtain⟨x3,I,L,J,a,b,c,d,e⟩:=ψ;exact q x y H Q x3 I L J a b c d e)
abbrev EU:=@wc.imq
theorem UnR.imp{f:Xj->Sem Xj}{r U:V->Hp->VK->Prop}(h:UnR X f r)(q:∀x H Q,U x H Q->r x H Q):UnR X f U:=λJ s g H x v Q I j z=>h J s g H x v Q I j<|q x H Q z
theorem jg.imp{f:Xj}{r U:Xp->Hp->VK->Prop}(h:jg X f r)(q:∀x H Q,U x H Q->r x H Q):jg X f U:=λJ s g H x v Q I j z=>h J s g H x v Q I j<|q x H Q z
theorem jg.imq{f:Xj}{r:Xp->Hp->VK->Prop}{u:List Y->ql->YK->Prop}(h:jg X f r)(q:∀xs H Q ys L I,xx G H ys xs->j7 G H L->u ys L I->u6 G H I Q->r xs H Q):jg X f (f_ G u):=jg.imp h λxs H Q ψ=>(by obtain⟨ys,L,I,a,b,c,d⟩:=ψ;exact q xs H Q ys L I a b c d)
abbrev ER:=@jg.imq
theorem IxR.imp{r U:R2}(h:IxR X r)(q:∀x y H Q,U x y H Q->r x y H Q):IxR X U:=λvalue slice J s g H x y v u Q I j l z=>h value slice J s g H x y v u Q I j l<|q x y H Q z
theorem nV.imp{id:Xo}{r U:V->Xp->Hp->VK->Prop}(h:nV X id r)(q:∀x xs H Q,U x xs H Q->r x xs H Q):nV X id U:=λJ s g H x xs v j Q I l o z=>h J s g H x xs v j Q I l o<|q x xs H Q z
theorem rB(U:j7 G H L)(r:RV G H y v)(h:da L y=some ys):∃p xs,v=.ref p/\(aY G.K H p xs\/dh G.K H p xs)/\xx G H ys xs:=by
 cases y with
 |tup J=>
  obtain⟨a,xs,e,s,q⟩:=r;cases h;exact⟨a,xs,e,.inr s,q⟩
 |sq J=>
  obtain⟨a,xs,e,s,q⟩:=r;cases h;exact⟨a,xs,e,.inl s.sq,q⟩
 |ref a=>
  cases (show v=.ref a from r);have I:(match L a with|some (.lst ys)=>some ys|_=>none)=some ys:=h;split at I
  ·rename_i J e;cases I;obtain⟨xs,g,q⟩:=U a _ e;exact⟨a,xs,rfl,.inl<|ET g,q⟩
  ·cases I
 |_=>cases h
theorem Qn{i:Int}(s:xx G H ys xs)(h:cI ys i=some y):∃x,cI xs i=some x/\RV G H y x:=by
 unfold cI at h ⊢;rw[<-s.length];cases e:e_ ys.length i with
 |none=>rw[e] at h;cases h
 |some j=>
  rw[e] at h;exact s.get (i:=j) h
section
variable {a b:Expr}{tc:xo}
abbrev QE(X:Cx)(e:Expr)(t:xo):Prop:=PE X e<|rL X.g3 t
abbrev QT(X:Cx)(e:Expr)(t:kW):Prop:=PT X e<|l_ X.g3 t
abbrev QW(X:Cx)(e:Expr)(t:kW):Prop:=PW X e<|l_ X.g3 t
abbrev QA(X:Cx)(es:Xc)(t:hG):Prop:=PA X es<|Iu X.g3 t
abbrev QS(X:Cx)(st:Stmt)(t:vn):Prop:=PS X st<|Fl X.g3 t
abbrev sd(X:Cx)(st:Xd)(t:vn):Prop:=lU X st<|Fl X.g3 t
abbrev QG(X:Cx)(e:Expr)(g:oI):Prop:=PG X e<|E5 X.g3 g
abbrev Fb(X:Cx)(es:Xc)(g:tN):Prop:=PGs X es<|Qd X.g3 g
abbrev QI(X:Cx)(tg it:Expr)(w:w_):Prop:=PI X tg it<|Ga X.g3 w
abbrev QF(X:Cx)(es:Xc)(t:kW):Prop:=PF X es<|l_ X.g3 t
theorem QE.of_var(h:PE X e<|FJ i):QE X e (qk i):=EG h λj H Q l L o I J z k=>by
 unfold qk at z;split at z
 ·rename_i y U;obtain⟨v,ev,g⟩:=I.get i y<|sN _ _ U;exact⟨v,ev,k v H y L (ED _) J g z⟩
 ·exact z.elim
theorem QE.of_c(h:PE X e<|tC v)(q:∀H,RV X.g3 H y v):QE X e (yC y):=EG h λJ H Q U L g j I z k=>k v H y L (ED _) I (q H) z
theorem qv(i:Nat)(hN:X.N[i]?=some x:=by rfl)(J:A_ X.env.scope x:=by first|exact Or.inl rfl|exact Or.inr (Or.inl rfl)|exact Or.inr<|Or.inr rfl)(hd:Ez x:=by decide)
 (I:EX x:=by decide):QE X (.Name x pos) (qk i):=QE.of_var<|pv i hN J hd I
theorem ky :QE X (.Constant .none j pos) (yC .non):=QE.of_c Nf λ_=>rfl
theorem bw{b:Bool} :QE X (.Constant (.bool b) j pos) (yC<|.bl b):=QE.of_c Nd λ_=>rfl
theorem qf{i:Int} :QE X (.Constant (.int i) j pos) (yC<|.int i):=QE.of_c Nc λ_=>rfl
theorem j5 :QE X (.Constant (.str x) j pos) (yC<|.str x):=QE.of_c dD λ_=>rfl
theorem Qo{c:Addr}(I:Gl X x)(J:X.mg x=some (.ref c))(q:∀H,RV X.g3 H y<|.ref c)(hd:Ez x:=by decide):QE X (.Name x pos) (yC y):=QE.of_c (PX I J hd) q
theorem y9{r:qI}(σ:St)(H:Hp)(Q:VK):rL G (wy r ta tb) σ H Q->Eb (gm G r) (rL G ta) (rL G tb) σ H Q:=λ ψ=>by
 obtain⟨j,L,t,l,C,z,k⟩:=ψ
 exact ⟨j,L,_,l,C,z,λv H1 y T o I J z1=>⟨j,T,_,l.ts o,I,z1,λv2 H2 y2 L2 p U g z2=>⟨y,y2,L2,t,J.ts p,g,U,z2,k.ts<|o.trans p⟩⟩⟩
theorem qm{op:Operator}{r:qI}(h:wc X (binaryOp op)<|gm X.g3 r)(I:QE X a ta)(J:QE X b tb):QE X (.BinOp a op b pos) (wy r ta tb):=EM (N4 h I J) y9
theorem Qp{r:qI}(h:IxR X<|gm X.g3 r)(I:QE X a ta)(J:QE X b tb)(hp:qW b):QE X (.Subscript a b pos) (wy r ta tb):=EM (Pb h I J hp) y9
theorem aE{op:CmpOp}{r:qI}(h:wc X (compareOp op)<|gm X.g3 r)(I:QE X a ta)(J:QE X b tb)(U:behindInMarks op b=false):QE X (.Compare a [op] [b] pos) (wy r ta tb):=EM (Oh h I J U) y9
theorem Ge{t:xo}(σ:St)(H:Hp)(Q:Bool->Hp->Prop):l_ G (yB t) σ H Q->FZ (rL G t) σ H Q:=λ ψ=>by
 obtain⟨g,L,C,j,l,z,k⟩:=ψ
 exact ⟨g,L,_,j,l,z,λv o y p r I J U=>by cases y with|bl b=>exact⟨b,J,k b o p r I U⟩|_=>exact U.elim⟩
theorem IL{t:xo}(σ:St)(H:Hp)(Q:Bool->Hp->Prop):l_ G (yB t) σ H Q->L2.tB (rL G t) σ H Q:=Ge σ H Q
theorem x5{op:CmpOp}{r:qI}(h:wc X (compareOp op)<|gm X.g3 r)(J:QE X a ta)(U:QE X b tb)(g:behindInMarks op b=false):QT X (.Compare a [op] [b] pos) (yB<|wy r ta tb):=
 PT.imp (Oi h J U g) λI H Q q=>by have j:=Ge I H Q q;obtain⟨l,L,o,p,t,z,k⟩:=j;exact y9 I H _ ⟨l,L,o,p,t,z,k⟩
theorem js(h:QE X e te)(I:∀whole,isTrue e X.env whole=(do let v <-whole;standAt e.pos;holding [v] (truthy v)):=by intro _;rfl):QT X e (yB te):=PT.imp (Ni h I) IL
theorem Gf{f:Xj->Xj->Sem Xj}{C:Int->Int->Prop}{g:Int->Int->V}{g3:Int->Int->Y}(h:wc X f<|rI C g)(e:∀i j H,RV X.g3 H (g3 i j)<|g i j):wc X f (gm X.g3<|yI C g3):=EU h λx y H Q J I L p U l o z k=>by
 cases J with
 |int i=>
  cases I with|int j=>exact⟨i,j,U,l,z.1,k _ H _ L (ED _) o (e i j H) z.2⟩|_=>exact z.elim
 |_=>cases I<;>exact z.elim
theorem Fn{f:Xj->Xj->Sem Xj}{g:Int->Int->V}{g3:Int->Int->Y}(h:wc X f<|v_ g)(e:∀i j H,RV X.g3 H (g3 i j)<|g i j):wc X f (gm X.g3<|q_ g3):=EU h λx y H Q J I L p U l o z k=>by
 cases J with
 |int i=>
  cases I with|int j=>exact⟨i,j,U,l,k _ H _ L (ED _) o (e i j H) z⟩|_=>exact z.elim
 |_=>cases I<;>exact z.elim
theorem cO:wc X (binaryOp .Sub) (gm X.g3<|q_ λi j=>.int<|i-j):=Fn N7 λ_ _ _=>rfl
theorem mY:wc X (binaryOp .Mult) (gm X.g3<|yI adi λi j=>.int<|i*j):=Gf N8 λ_ _ _=>rfl
theorem wf:wc X (binaryOp .FloorDiv) (gm X.g3<|yI FY λi j=>.int<|i / j):=Gf N9 λ_ _ _=>rfl
theorem x8:wc X (binaryOp .Mod) (gm X.g3<|yI (λ_ j=>0<j) λi j=>.int<|i % j):=Gf N' λ_ _ _=>rfl
theorem nv:wc X (compareOp .Lt) (gm X.g3<|q_ λi j=>.bl<|decide<|i<j):=Fn Oe λ_ _ _=>rfl
theorem arm:wc X (compareOp .LtE) (gm X.g3<|q_ λi j=>.bl<|decide<|i<=j):=Fn Of λ_ _ _=>rfl
theorem Fo:wc X (compareOp .Gt) (gm X.g3<|q_ λi j=>.bl<|decide<|j<i):=Fn Og λ_ _ _=>rfl
theorem jf:wc X (binaryOp .Add) (gm X.g3 xO):=EU PN λx y H Q t J L Q3 U g I z k=>by
 cases t with
 |int i=>
  cases J with|int j=>cases U;cases g;exact k _ H _ L (ED _) I (by rfl) z|_=>exact z.elim
 |str i=>
  cases J with|str j=>cases U;cases g;exact⟨z.1,k _ H _ L (ED _) I (by rfl) z.2⟩|_=>exact z.elim
 |ref a=>
  cases J with
  |ref b=>
   cases U;cases g;obtain⟨ys,zs,C,T,hz,q⟩:=z;obtain⟨xs,h1,o⟩:=I a _ C;obtain⟨us,h2,r⟩:=I b _ T;refine⟨xs,us,h1,h2,by rw[<-o.length,<-r.length];exact hz,λp l=>?_⟩;exact k _ _ _ _ (EE l) (I.newL l<|o.app r) (by rfl)<|q p<|I.none l
  |_=>exact z.elim
 |_=>cases J<;>exact z.elim
theorem vJ{kvs:List<|Str×Str}{k:Str}(h:kvs.lookup k=some x):ae (kvs.map λp=>((Sum.inr p.1:zv),V.str p.2)) (Sum.inr k)=some (V.str x):=by
 induction kvs with
 |nil=>simp at h
 |cons p r I=>
  obtain⟨a,b⟩:=p;unfold ae;rw[AO,Bz];rw[AW] at h;by_cases c:k=a
  ·subst c;simp at h;simp[h]
  ·have c1:(k==a)=false:=by simpa using c
   rw[c1] at h;have c2:decide ((Sum.inr a:zv)=Sum.inr k)=false:=AB λz=>c (Sum.inr.inj z).symm;simp only[c2];exact I h
theorem jV{xs:List<|zv×V}{k:zv}(p:Paired (λ(p:zv×Y) (q:zv×V)=>p.1=q.1/\RV G H p.2 q.2) kvs xs)(h:v4 kvs k=some y):∃x,ae xs k=some x/\RV G H y x:=by
 induction p with
 |nil=>cases h
 |@cons a b _ _ r t U=>
  obtain⟨I,l⟩:=a;obtain⟨g,j⟩:=b;obtain⟨e,r⟩:=r;cases (show I=g from e);unfold v4 at h;unfold ae;rw[Bz] at h ⊢;by_cases c:I=k
  ·have J:decide (I=k)=true:=Ax c;simp only[J] at h ⊢;cases h;exact⟨j,rfl,r⟩
  ·have J:decide (I=k)=false:=AB c;simp only[J] at h ⊢;exact U h
theorem Qq(K:Ai)(P:Xl)(w:Xm)(hK:X.K=K:=by rfl)(hP:X.prog=P:=by rfl)(hw:X.w=w:=by rfl):IxR X (gm ⟨K,P,w⟩ og):=by
 subst hK hP hw;refine IxR.imp PP λx y H Q ψ=>?_;obtain⟨x3,j,L,Q3,I,l,o,z,k⟩:=ψ;have seq:∀{i:Int} {x3:Y},RV X.g3 H x3 x->y=.int i->(oB L x3 λg=>c_ L Q3<|cI g i)->Im X.K X.prog X.w x y H Q:=by
  intro i x3 I ey z;subst ey;obtain⟨g,es,z⟩:=bV z;obtain⟨p,C,e,sq,rv⟩:=rB o I es;subst e;cases ea:cI g i with
  |none=>rw[ea] at z;exact z.elim
  |some y=>
   rw[ea] at z;obtain⟨x,ex,T⟩:=Qn rv ea;exact⟨C,x,sq,ex,k _ H _ L (ED _) o T z⟩
 cases x3 with
 |str s=>
  cases j with
  |int i=>
   cases I;cases l;obtain⟨z1,r⟩:=z;cases ea:cI s.cps.toList i with
   |none=>rw[ea] at r;exact r.elim
   |some c=>rw[ea] at r;exact⟨z1,c,ea,k _ H _ L (ED _) o (by rfl) r⟩
  |_=>exact z.elim
 |cd J=>
  cases j with
  |str s=>
   obtain⟨a,ea,kd⟩:=I;cases ea;cases l;have U:c_ L (λs L=>Q3 (.str s) L) (J.lookup s):=z;cases el:J.lookup s with
   |none=>rw[el] at U;exact U.elim
   |some t=>rw[el] at U;exact⟨_,_,.inr kd,vJ el,k _ H _ L (ED _) o (by rfl) U⟩
  |int i=>exact z.elim
  |_=>exact z.elim
 |ref a=>
  cases j with
  |int i=>exact seq (x3:=.ref a) I l z
  |str s=>
   cases I;cases l;obtain⟨J,e,U⟩:=cQ z;obtain⟨C,e2,pr⟩:=o a _ e;cases ev:v4 J (Sum.inr s) with
   |none=>rw[ev] at U;exact U.elim
   |some y=>
    rw[ev] at U;obtain⟨x,ex,I⟩:=jV pr ev;exact⟨C,x,.inl<|.inl e2,ex,k _ H _ L (ED _) o I U⟩
  |_=>exact z.elim
 |tup g=>
  cases j with|int i=>exact seq (x3:=.tup g) I l z|_=>exact z.elim
 |sq g=>
  cases j with|int i=>exact seq (x3:=.sq g) I l z|_=>exact z.elim
 |_=>cases j<;>exact z.elim
theorem xx.inv1(h:xx G H [y] xs):∃x,xs=[x]/\RV G H y x:=by obtain⟨x,I,e,r,s⟩:=h;cases (show I=[] from s);exact⟨x,e,r⟩
theorem xx.inv2{J:Y}(h:xx G H [y,J] xs):∃x I,xs=[x,I]/\RV G H y x/\RV G H J I:=by obtain⟨x,U,e,r,s⟩:=h;obtain⟨I,g,j⟩:=s.inv1;exact⟨x,I,by rw[e,g],r,j⟩
theorem Qr(K:Ai)(P:Xl)(w:Xm)(g:X.K=K:=by rfl)(j:X.prog=P:=by rfl)(hw:X.w=w:=by rfl):jg X (.builtin "len") (f_ ⟨K,P,w⟩ Cf):=by
 subst g j hw;refine ER PR λC H Q l L T U I z k=>?_;unfold Cf at z;split at z
 ·obtain⟨x,rfl,r⟩:=U.inv1;cases r;exact⟨z.1,k _ H _ L (ED _) I (by rfl) z.2⟩
 ·rename_i y _;obtain⟨x,rfl,r⟩:=U.inv1;obtain⟨l,o,z⟩:=bV z;obtain⟨p,t,e,sq,J⟩:=rB I r o;subst e;refine⟨t,sq,?_⟩;rw[<-J.length];exact k _ H _ L (ED _) I (by rfl) z
 ·exact z.elim
theorem Qs(i j:Int):(if j > i then j else i)=max i j:=by split<;>lia
theorem Qt(i j:Int):(if j<i then j else i)=min i j:=by split<;>lia
theorem IM(hc:X.calm=true:=by rfl):jg X (.builtin "max") (f_ X.g3 Gb):=ER (Oj hc) λl H Q o L p I J z k=>by
 unfold Gb at z;split at z
 ·rename_i i j;obtain⟨x,r,rfl,U,g⟩:=I.inv2;cases U;cases g;refine⟨i,j,rfl,?_⟩;rw[Qs];exact k _ H _ L (ED _) J (by rfl) z
 ·exact z.elim
theorem Qu(hc:X.calm=true:=by rfl):jg X (.builtin "min") (f_ X.g3 Iy):=ER (Ol hc) λl H Q o L p I J z k=>by
 unfold Iy at z;split at z
 ·rename_i i j;obtain⟨x,r,rfl,U,g⟩:=I.inv2;cases U;cases g;refine⟨i,j,rfl,?_⟩;rw[Qt];exact k _ H _ L (ED _) J (by rfl) z
 ·exact z.elim
theorem Qv:UnR X (unaryOp .USub) (Iv X.g3 Ix):=UnR.imp Oc λx H Q ψ=>by obtain⟨y,L,U,I,J,z,k⟩:=ψ;cases y with|int i=>exact⟨i,I,k _ H _ L (ED _) J (by rfl) z⟩|_=>exact z.elim
theorem Qw{op:UnaryOp}{r:Y->ql->YK->Prop}(h:UnR X (unaryOp op)<|Iv X.g3 r)(U:QE X a ta):QE X (.UnaryOp op a pos) (Iw r ta):=EG (N5 h U) λT H Q g L j l o z k=>
 ⟨g,L,_,l,o,z,λv H1 y p t I J C=>⟨y,p,j,J,I,C,k.ts t⟩⟩
end
section
variable {a b:Expr}{tc:xo}
theorem fY{a:Addr}(J:j7 G H L)(h:da L (.ref a)=some ys):∃xs,aY G.K H a xs/\xx G H ys xs:=by
 have I:(match L a with|some (.lst ys)=>some ys|_=>none)=some ys:=h;split at I
 ·rename_i e;cases I;obtain⟨xs,U,q⟩:=J a _ e;exact⟨xs,ET U,q⟩
 ·cases I
theorem kH(I:j7 G H L)(r:RV G H y v)(J:yR y=true)(h:da L y=some ys):∃a xs,v=.ref a/\aY G.K H a xs/\xx G H ys xs:=by
 cases y with
 |ref a=>obtain⟨xs,s,q⟩:=fY I h;exact⟨a,xs,r,s,q⟩
 |sq U=>obtain⟨a,xs,e,s,q⟩:=r;cases h;exact⟨a,xs,e,s.sq,q⟩
 |_=>cases J
theorem zX{G:G3}{T:sg}{σ:L2.St}(I:z8 X pins σ H s)(rl:j7 X.g3 H L)(r:RV X.g3 H y v)(J:zq v u)(h:Db L y=some T)
 {c:Xj} {b:Bool} (e:PySem.W.kitOne X.K (.type T.nm) c=some b) (U:∀tk,Q (.bool b) { s with toks:=tk }):
 wpAny (model X.prog X.w) A (call (.builtin "isinstance") [u,c]) Q E s:=by
 cases y with
 |non=>cases h;cases r;exact bE I J .non e U
 |bl b=>cases h;cases r;exact bE I J (.bl _) e U
 |int i=>cases h;cases r;exact bE I J (.int _) e U
 |str x=>cases h;cases r;exact bE I J (.str _) e U
 |tup ys=>
  cases h;obtain⟨a,j,rfl,sq,_⟩:=r;cases (show u=Value.ref a from J);obtain⟨l,_,⟨o,p,t,_⟩,_⟩:=I.tuple sq;exact Bx PySem.W.kitx_tuple I.kIn ⟨o,p,t⟩ e (λz=>nomatch z) U
 |sq ys=>
  cases h;obtain⟨a,j,rfl,sq,_⟩:=r;cases (show u=Value.ref a from J);obtain⟨l,_,⟨o,n,p,t,_⟩,_⟩:=I.list sq.sq;exact Bx DA I.kIn ⟨o,p,t⟩ e (λz=>nomatch z) U
 |ref a=>
  cases (show v=.ref a from r);have g:(match L a with|some (.lst _)=>some sg.list|some (.dct _)=>some .dict|_=>none)=some T:=h;split at g
  ·rename_i ys C;cases g;obtain⟨j,e2,_⟩:=rl a _ C;exact bE I J (.lst e2) e U
  ·rename_i a0 C;cases g;obtain⟨j,e2,_⟩:=rl a _ C;exact bE I J (.dK e2) e U
  ·cases g
 |_=>cases h
theorem Qx(K:Ai):∀T S:sg,PySem.W.kitOne K (.type T.nm) (.type S.nm)=some (Gc T S):=by intro T S;cases T<;>cases S<;>rfl
def Qy(G:G3)(S:sg):Xp->Hp->VK->Prop:=λxs H Q=>∃y v L I T,xs=[v,.ty S.nm]/\RV G H y v/\j7 G H L/\Db L y=some T/\I (.bl<|Gc T S) L/\u6 G H I Q
theorem Qz(S:sg):jg X (.builtin "isinstance") (Qy X.g3 S):=by intro J s o H p t Q I r h;obtain⟨y,v,L,C,T,rfl,g,U,ty,q,k⟩:=h;obtain⟨u,c,rfl,j,l⟩:=zn.two r;cases (show c=Value.type S.nm from l);exact jq I.tk<|zX (G:=X.g3) I U g j ty (Qx _ T S) λtk ht=>⟨.bl _,H,I.tok _,rfl,k _ H _ L (ED _) U (by rfl) q⟩
theorem vt{p:Pos}{I:Str}(S:sg)(t:Gl X "isinstance")(C:X.mg "isinstance"=none)(J:Gl X I)(U:X.mg I=none)(g:bootBuiltins I=some (.type S.nm))(ha:QE X a ta)
 (hn:I ≠ "__name__" := by decide) (hd:(I==("__debug__" : Str))=false:=by decide)
 (hs:starEach [a,.Name I p1] X.env=(false,eval a X.env)::starEach [.Name I p1] X.env:=by rfl) (j:starEach [.Name I p1] X.env=(false,eval (.Name I p1) X.env)::starEach [] X.env:=by rfl)
 (hp:(backTo pos<|starEach [.Name I p1] X.env).any (·.1)=false:=by rfl):
 QE X (.Call (.Name "isinstance" p) [a,.Name I p1] [] pos) (IA S ta):=by
 refine EM (uZ (Qz S) t C oi (fe ha (fe (PY J U g hn hd) oZ j) hs) (by decide) (by decide) hs hp) ?_;rintro σ H Q ⟨τ,L,Q3,rs,rl,z,k⟩;refine⟨τ,L,_,rs,rl,z,λv H1 y L1 t1 l o r=>?_⟩;obtain⟨T,et,r⟩:=Qi r;exact⟨y,v,L1,Q3,T,rfl,o,l,et,r,k.ts t1⟩
def vE(neg:Bool)(x y:Y)(L:ql)(Q:YK):Prop:=oB L y λys=>kZ x=true/\ys.all kZ=true/\Q (.bl<|nb neg<|yW (iG x)<|ys.map iG) L
theorem IP(neg:Bool){op:CmpOp}(h:wc X (compareOp op)<|F4 X.K neg):wc X (compareOp op) (gm X.g3<|vE neg):=EU h λx y H Q I t L C g j U z k=>by
 obtain⟨J,l,f1,f2,q⟩:=bV z;obtain⟨p,T,e,sq,o⟩:=rB U j l;rw[g.flat f1];rw[o.flat f2] at sq;refine⟨p,_,e,sq,iy f1,?_,?_⟩
 ·rw[List.all_map,CO];intro y r;exact iy<|CO.mp f2 y r
 ·have:(if neg=true then !yW (iG I) (J.map iG) else yW (iG I) (J.map iG))=(nb neg<|yW (iG I)<|J.map iG):=by cases neg<;>simp[nb]
  rw[this];exact k _ H _ L (ED _) U (by rfl) q
theorem QB(K:Ai)(P:Xl)(w:Xm)(I:X.K=K:=by rfl)(J:X.prog=P:=by rfl)(hw:X.w=w:=by rfl):wc X (compareOp .In) (gm ⟨K,P,w⟩<|vE false):=by subst I J hw;exact IP false Po
theorem rV(K:Ai)(P:Xl)(w:Xm)(I:X.K=K:=by rfl)(J:X.prog=P:=by rfl)(hw:X.w=w:=by rfl):wc X (compareOp .NotIn) (gm ⟨K,P,w⟩<|vE true):=by subst I J hw;exact IP true rQ
theorem jw.rep{G:G3}{H:Hp}{L:ql}(j:j7 G H L):∀{n:Nat} {y:Y} {d:Da} {v:V},jw L n y d->RV G H y v->aS G.K H n v d
 |0,y,d,v,ψ,r=>by obtain⟨f,e⟩:=ψ;rw[r.flat f];exact⟨e,iy f⟩
 |n+1,y,d,v,h,r=>by
  have both:∀{U:List Y} {J:List Da} {I:Xp},Paired (jw L n) U J->xx G H U I->Paired (aS G.K H n) I J:=by
   intro U J I p
   induction p generalizing I with
   |nil=>intro r;cases (show I=[] from r);exact .nil
   |cons q t l=>
    rintro⟨x,o,rfl,C,T⟩;exact .cons (jw.rep j q C)<|l T
  rcases h with⟨f,e⟩|⟨U,J,rfl,rfl,p⟩|⟨U,J,hy,rfl,es,p⟩
  ·rw[r.flat f];exact .inl ⟨e,iy f⟩
  ·obtain⟨a,I,rfl,sq,g⟩:=r;exact .inr<|.inl ⟨a,I,J,rfl,rfl,sq,both p g⟩
  ·obtain⟨a,I,rfl,sq,g⟩:=kH j r hy es;exact .inr<|.inr ⟨a,I,J,rfl,rfl,sq,both p g⟩
theorem yi(h:DH y=true)(r:RV G H y v):∃a,v=.ref a:=by
 cases y with
 |ref a=>exact⟨a,r⟩
 |tup I=>obtain⟨a,J,e,_⟩:=r;exact⟨a,e⟩
 |sq I=>obtain⟨a,J,e,_⟩:=r;exact⟨a,e⟩
 |_=>cases h
theorem IQ(neg:Bool)(K:Ai)(P:Xl)(w:Xm)(g:X.A.units+128<cLine)(l:X.K=K)(o:X.prog=P)(hw:X.w=w):wc X (compareOp<|Fj neg) (gm ⟨K,P,w⟩<|yH neg):=by
 subst l o hw;refine EU (PV neg g) λx y H Q x3 y3 L r J U I z k=>?_;have t:∀{p q:Prop} [Decidable p] [Decidable q],(p↔q)->Ev neg (decide p)=nb neg (decide q):=λh=>by rw[decide_eq_decide.mpr h];cases neg<;>rfl
 unfold yH at z;split at z
 any_goals
  rename_i i j;cases J;cases U;refine⟨rfl,?_⟩;rw[t (q:=i=j) (by simp)];exact k _ H _ L (ED _) I (by rfl) z
 obtain⟨f1,f2,n,m,d,e,C,T,h2,q⟩:=z;obtain⟨a,rfl⟩:=yi f1 J;obtain⟨b,rfl⟩:=yi f2 U;have q:r (.bl<|Ev neg<|Da.eq d e) L:=by cases neg<;>exact q
 exact⟨n,m,d,e,C,T.rep I J,h2.rep I U,k _ H _ L (ED _) I (by rfl) q⟩
theorem im(K:Ai)(P:Xl)(w:Xm)(I:X.A.units+128<cLine)(J:X.K=K:=by rfl)(U:X.prog=P:=by rfl)(hw:X.w=w:=by rfl):wc X (compareOp .Eq) (gm ⟨K,P,w⟩<|yH false):=IQ false K P w I J U hw
theorem Gg(K:Ai)(P:Xl)(w:Xm)(I:X.A.units+128<cLine)(J:X.K=K:=by rfl)(U:X.prog=P:=by rfl)(hw:X.w=w:=by rfl):wc X (compareOp .NotEq) (gm ⟨K,P,w⟩<|yH true):=IQ true K P w I J U hw
theorem RV.non_iff(r:RV G H y v):decide (v=.non)=(match y with|.non=>true|_=>false):=by
 cases y with
 |non=>cases r;rfl
 |cd I=>obtain⟨a,rfl,_⟩:=r;rfl
 |tup J=>obtain⟨a,U,rfl,_⟩:=r;rfl
 |sq J=>obtain⟨a,U,rfl,_⟩:=r;rfl
 |_=>cases r;rfl
theorem IS(σ:L2.St)(H:Hp)(Q:VK):rL G (gS false ta) σ H Q->HH (rL G ta) σ H Q:=λ ψ=>by
 obtain⟨U,L,t,g,j,z,k⟩:=ψ
 exact ⟨U,L,_,g,j,z,λv l y o p I J r=>by dsimp only;rw[J.non_iff];cases y<;>exact k _ l _ o p I (by rfl) r⟩
theorem yP(σ:L2.St)(H:Hp)(Q:VK):rL G (gS true ta) σ H Q->HI (rL G ta) σ H Q:=λ ψ=>by
 obtain⟨U,L,t,g,j,z,k⟩:=ψ
 exact ⟨U,L,_,g,j,z,λv l y o p I J r=>by dsimp only;rw[J.non_iff];cases y<;>exact k _ l _ o p I (by rfl) r⟩
theorem QC(h:QE X a ta):QE X (.Compare a [.Is] [.Constant .none j hQ] pos) (gS false ta):=EM (HK<|HJ h) IS
theorem QD(h:QE X a ta):QE X (.Compare a [.IsNot] [.Constant .none j hQ] pos) (gS true ta):=EM (HK<|ym h) yP
theorem IT{t:TE}(h:∀σ H Q,rL G te σ H Q->t σ H Q)(σ:L2.St)(H:Hp)(Q:Bool->Hp->Prop):l_ G (yB te) σ H Q->L2.tB t σ H Q:=λq=>h σ H _<|IL σ H Q q
theorem aC(h:QE X a ta):QT X (.Compare a [.Is] [.Constant .none j hQ] pos) (yB<|gS false ta):=PT.imp (HL<|HJ h)<|IT IS
theorem fu(h:QE X a ta):QT X (.Compare a [.IsNot] [.Constant .none j hQ] pos) (yB<|gS true ta):=PT.imp (HL<|ym h)<|IT yP
end
section
variable {a b:Expr}{rest:Xc}{tc:xo}{tB:kW}
theorem ax(h:QT X a tA):QW X (.BoolOp .And [a] pos) tA:=Nm h
theorem bM(h:QT X a tA):QW X (.BoolOp .Or [a] pos) tA:=Nn h
theorem dQ(h:QT X a tA)(k:QW X (.BoolOp .And (b::rest) pos) tB):QW X (.BoolOp .And (a::b::rest) pos) (E7 tA tB):=PW.imq (No h k) λt H Q U L o g p z k=>
 ⟨U,L,_,g,p,z,λc r j J I l=>by cases c with|true=>rw[Aw rfl];exact⟨U,j,o,g.ts J,I,l,k.ts J⟩|false=>rw[Ar AH];exact k _ r j J I l⟩
theorem ao(h:QT X a tA)(k:QW X (.BoolOp .Or (b::rest) pos) tB):QW X (.BoolOp .Or (a::b::rest) pos) (E8 tA tB):=PW.imq (Np h k) λt H Q U L o g p z k=>
 ⟨U,L,_,g,p,z,λc r j J I l=>by cases c with|true=>rw[Aw rfl];exact k _ r j J I l|false=>rw[Ar AH];exact⟨U,j,o,g.ts J,I,l,k.ts J⟩⟩
theorem wu(h:QW X a tA):QT X a tA:=PW.pt h
theorem aI(h:QT X a tA):QT X (.UnaryOp .Not a pos) (E9 tA):=PT.imq (Nq h) λr H Q J L t U g z k=>
 ⟨J,L,_,U,g,z,λc j l o I p=>k _ j l o I p⟩
theorem jY{op:BoolOp}(h:QE X a ta):QE X (.BoolOp op [a] pos) ta:=Nu h
theorem gy(h:QE X a ta)(k:QE X (.BoolOp .And (b::rest) pos) tb):QE X (.BoolOp .And (a::b::rest) pos) (IB ta tb):=EG (Nv h k) λT H Q U L g o t z k=>
 ⟨U,L,_,o,t,z,λv C y J j I l p=>by
  cases y with
  |bl c=>
   refine⟨c,l,?_⟩;have r:aK c (tb U J g) (g (.bl false) J):=p;cases c with|true=>rw[Aw rfl];exact⟨U,J,g,o.ts j,I,r,k.ts j⟩|false=>rw[Ar AH];exact k _ C _ J j I (by rfl) r
  |_=>exact p.elim⟩
theorem QH(h:QE X a ta):QE X (.UnaryOp .Not a pos) (Qj ta):=EG (Nw h) λt H Q g L C j l z k=>
 ⟨g,L,_,j,l,z,λv o y p r I J U=>by cases y with|bl c=>exact⟨c,J,k _ o _ p r I (by rfl) U⟩|_=>exact U.elim⟩
theorem eQ(h:QT X c tA)(p:QE X a ta)(r:QE X b tb):QE X (.IfExp c a b pos) (Fm tA ta tb):=EG (Ny h p r) λC H Q U L j g t z k=>
 ⟨U,L,_,g,t,z,λc T l J I o=>by cases c with|true=>rw[Aw rfl];exact⟨U,l,j,g.ts J,I,o,k.ts J⟩|false=>rw[Ar AH];exact⟨U,l,j,g.ts J,I,o,k.ts J⟩⟩
theorem xw:QA X [] vm:=PA.imq oZ λJ H Q U L g j I z k=>k _ H _ L (ED _) I (by rfl) z
theorem v5(h:QE X e te)(t:QA X es tr)(hs:Ex e es X:=by rfl):QA X (e::es) (z9 te tr):=PA.imq (fe h t hs) λσ H Q j L Q3 l C z k=>
 ⟨j,L,_,l,C,z,λv H1 y T o I J z1=>⟨j,T,_,l.ts o,I,z1,λp H2 ys L2 r U g z2=>k (v::p) H2 (y::ys) L2 (o.trans r) U ⟨v,p,rfl,J.ts r,g⟩ z2⟩⟩
theorem zh(h:QA X es tr):QE X (.Tuple es x1 pos) (iE tr):=EG (OC h) λσ H Q l L Q3 o r z k=>
 ⟨l,L,_,o,r,z,λt H1 j C T U I J=>by
  cases e:Nat.ble j.length 1000 with
  |false=>rw[e] at J;exact J.elim
  |true=>
   rw[e] at J;have:=CC e;refine⟨fI (by rw[<-I.length];exact this),λp g=>?_⟩;exact k _ _ (.tup j) C (T.trans<|EE g) (U.skip g) ⟨p,t,rfl,dh.of zu,I.ts<|EE g⟩ J⟩
theorem zj(h:QA X es tr):QE X (.List es pos) (hE tr):=EG (OD h) λC H Q j L T l o z k=>
 ⟨j,L,_,l,o,z,λvs H1 r L1 t I J U=>by
  cases e:Nat.ble r.length 1000 with
  |false=>rw[e] at U;exact U.elim
  |true=>
   rw[e] at U;have:=CC e;refine⟨fI (by rw[<-J.length];exact this),λp g=>?_⟩;exact k _ _ _ _ (t.trans<|EE g) (I.newL g J) (by rfl)<|U p<|I.none g⟩
theorem aB{p:Pos}{id:Xo}{r:List Y->ql->YK->Prop}(hc:jg X (.builtin id)<|f_ X.g3 r)(U:Gl X x)(g:X.mg x=none)(j:bootBuiltins x=some (.builtin id))(h:QA X (e::es) tr)
 (l:x ≠ "__name__" := by decide) (hd:Ez x:=by decide) (hs:Ex e es X:=by rfl) (hp:Ey pos es X:=by rfl):
 QE X (.Call (.Name x p) (e::es) [] pos) (xa r tr):=EG (uZ hc U g j h l hd hs hp) λσ H Q o L t C T z k=>
 ⟨o,L,_,C,T,z,λvs H1 ys L1 t1 I J z1=>⟨ys,L1,t,J,I,z1,k.ts t1⟩⟩
def IU(G:G3)(t:Fa):TO:=λσ H Q=>∃τ L I,vg G H σ τ/\j7 G H L/\t τ L I/\∀(o:Xg) H' L',j9 H H'->j7 G H' L'->I o L'->Q o H'
abbrev QO(X:Cx)(e:Option Expr)(t:Fa):Prop:=PO X e<|IU X.g3 t
theorem PO.imp{e:Option Expr}{t u:TO}(h:PO X e t)(q:∀σ H Q,u σ H Q->t σ H Q):PO X e u:=λJ s σ H Q I z=>h J s σ H Q I<|q σ H Q z
theorem PO.imq{e:Option Expr}{t:TO}{u:Fa}(h:PO X e t)(q:∀σ H Q τ L I,vg G H σ τ->j7 G H L->u τ L I->(∀(o:Xg) H' L',j9 H H'->j7 G H' L'->I o L'->Q o H')->t σ H Q):PO X e (IU G u):=PO.imp h λσ H Q ψ=>(by obtain⟨τ,L,I,a,b,c,d⟩:=ψ;exact q σ H Q τ L I a b c d)
theorem si.imp{U:V->Xg->Xg->Hp->VK->Prop}(h:si X r)(q:∀x lo hi H Q,U x lo hi H Q->r x lo hi H Q):si X U:=by intro J s g H x v j l lo hi o Q I p t pl C z;exact h J s g H x v j l lo hi o Q I p t pl C<|q _ _ _ _ _ z
theorem aX:QO X none yA:=PO.imq O4 λJ H Q U L g j I z k=>k _ H L (ED _) I z
theorem xr(h:QE X e te):QO X (some e) (IC te):=PO.imq (O5 h) λt H Q g L C j l z k=>
 ⟨g,L,_,j,l,z,λv o y p r I J U=>by cases y with|int i=>exact⟨i,J,k _ o p r I U⟩|_=>exact U.elim⟩
def Fp(G:G3)(r:Y->Xg->Xg->ql->YK->Prop):V->Xg->Xg->Hp->VK->Prop:=λx lo hi H Q=>∃y L I,RV G H y x/\j7 G H L/\r y lo hi L I/\u6 G H I Q
theorem xz{lo hi:Option Expr}{tl th:Fa}{r:Y->Xg->Xg->ql->YK->Prop}(h:si X<|Fp X.g3 r)(T:QE X a ta)(hl:QO X lo tl)(hh:QO X hi th):QE X (.Subscript a (.Slice lo hi none p2) pos) (IE r ta tl th):=
 EG (O7 h T hl hh) λσ H Q I L Q3 J rl z k=>
 ⟨I,L,_,J,rl,z,λv H1 y L1 U g j z1=>⟨I,L1,_,J.ts U,g,z1,λo H2 L2 l p z2=>⟨I,L2,_,J.ts<|U.trans l,p,z2,λo' H3 L3 C t z3=>⟨y,L3,Q3,j.ts<|l.trans C,t,z3,k.ts<|U.trans<|l.trans C⟩⟩⟩⟩
theorem qY(r:xx G H ys xs)(lo hi:Xg):xx G H (ox ys lo hi) (tL xs lo hi):=by unfold ox tL;rw[r.length];exact(r.drop _).take _
theorem QJ(K:Ai)(P:Xl)(w:Xm)(l:X.K=K:=by rfl)(o:X.prog=P:=by rfl)(hw:X.w=w:=by rfl):si X (Fp ⟨K,P,w⟩ ID):=by
 subst l o hw;refine si.imp Pn λx lo g H Q ψ=>?_;obtain⟨y,L,Q3,j,J,z,k⟩:=ψ;cases y with
 |ref a=>
  obtain⟨t,C,T⟩:=xc z;obtain⟨U,sq,r⟩:=fY J<|jm C;exact⟨a,U,j,sq,λp I=>k _ _ _ _ (EE I) (J.newL I<|qY r lo g) (by rfl)<|T p<|J.none I⟩
 |sq t=>
  obtain⟨a,U,e,sf,r⟩:=j;exact⟨a,U,e,sf.sq,λp I=>k _ _ _ _ (EE I) (J.newL I<|qY r lo g) (by rfl)<|z p<|J.none I⟩
 |_=>exact z.elim
end
section
variable {a b:Expr}{tc:xo}{tB:kW}{rest nC:Xd}{t u:vn}
theorem qz:sd X [] bP:=lU.imq NC λD U H g L D3 I J z k=>k.nx _ H _ L (ED _) I J z
theorem qd(h:QS X st t):sd X [st] t:=ND h
theorem qa(h:QS X st t)(k:sd X rest u):sd X (st::rest) (ja t u):=lU.imq (uI h k) λD T H g L D3 j l z k=>
 ⟨g,L,{ D3 with nx:=u D3 },j,l,z,λo H1 I p r J U C=>⟨I,p,D3,J,U,C,k.ts r⟩,k.rt,k.bk,k.ct⟩
theorem uw:QS X (.Continue pos) Qk:=EH uB λD U H g L D3 I J z k=>k.ct _ H _ L (ED _) I J z
theorem za(h:QE X e te)(hs:swapsWith e none pos.line X.env=pure false:=by rfl):QS X (.Expr e pos) (aP te):=EH (NF h hs) λD t H g L D3 J j z k=>
 ⟨g,L,_,J,j,z,λv l y o U I p r=>k.nx _ l _ o U (J.ts U) I r⟩
theorem qr(h:QE X e te):QS X (.Return (some e) pos) (ah te):=EH (NH h) λD g H I L D3 J U z k=>⟨I,L,_,J,U,z,k.rt⟩
theorem ye:QS X (.Return none pos) IF:=EH NJ λD J H U L D3 g I z k=>k.rt _ H _ L (ED _) I (by rfl) z
theorem zm(h:QT X c tA)(o:sd X body t)(p:sd X nC u):QS X (.If c body nC pos) (di tA t u):=EH (NL h o p) λD C H U L D3 g r z k=>
 ⟨U,L,_,g,r,z,λc T j J I l=>by cases c with|true=>rw[Aw rfl];exact⟨U,j,D3,g.ts J,I,l,k.ts J⟩|false=>rw[Ar AH];exact⟨U,j,D3,g.ts J,I,l,k.ts J⟩⟩
theorem gj(hN:X.N.Nodup)(I:X.N[i]?=some x)(r:Loc X.env.scope x)(h:QE X e te)(J:swapsWith e (some<|.Name x hQ) pos.line X.env=pure false:=by rfl)
 (U:X.fn x=true\/X.env.scope.names.lookup x=some .local:=by first|exact .inl rfl|exact .inr rfl|assumption):QS X (.Assign [.Name x hQ] e pos) (vh te<|qo i):=EH (NO hN I r h J U) λD σ H l L D3 o t z k=>
 ⟨l,L,_,o,t,z,λv C y T p g j z1=>k.nx _ C _ T p (show vg _ _ _ (gQ l i y) by rw[ar];exact(o.ts p).set j) g z1⟩
theorem rX(h:QE X e te)(o:QG X tg g)(h1:swapsWithSole [tg] e pos.line X.env=pure false:=by rfl)(h2:swappedStores [tg] e X.env=pure none:=by rfl)
 (p:(assignEach [tg] X.env).map (·.2)=[assign tg X.env]:=by rfl):QS X (.Assign [tg] e pos) (vh te g):=EH (HQ h o h1 h2 p) λD T H U L D3 j r z k=>
 ⟨U,L,_,j,r,z,λv H1 y t l I J C=>⟨y,U,t,_,J,j.ts l,I,C,k.nx.ts l⟩⟩
theorem PG.imp{t u:TG}(h:PG X e t)(q:∀v σ H Q,u v σ H Q->t v σ H Q):PG X e u:=λJ s σ H x v Q I r z=>h J s σ H x v Q I r<|q _ _ _ _ z
theorem PGs.imp{e:Xc}{t u:d_}(h:PGs X e t)(q:∀v σ H Q,u v σ H Q->t v σ H Q):PGs X e u:=λJ s σ H x v Q I r z=>h J s σ H x v Q I r<|q _ _ _ _ z
theorem fw(hN:X.N.Nodup)(I:X.N[i]?=some x)(U:Loc X.env.scope x)(J:X.fn x=true\/X.env.scope.names.lookup x=some .local:=by first|exact .inl rfl|exact .inr rfl|assumption):QG X (.Name x pos) (qo i):=
 PG.imp (mJ hN I U J) λv p H Q ψ=>(by obtain⟨y,g,L,r,j,l,o,z,k⟩:=ψ;exact k _ H _ L (ED _) (show vg _ _ _ (gQ g i y) by rw[ar];exact l.set j) o z)
theorem kg:Fb X [] bv:=PGs.imp y7 λj l H Q ψ=>by obtain⟨I,o,L,p,J,U,g,z,k⟩:=ψ;cases I with|nil=>exact⟨J,k _ H _ L (ED _) U g z⟩|cons y r=>exact z.elim
theorem zg(h:QG X e g)(hs:Fb X es gs)(l:(assignEach (e::es) X.env).map (·.2)=assign e X.env::(assignEach es X.env).map (·.2):=by rfl):Fb X (e::es) (jh g gs):=
 PGs.imp (o7 h hs l) λvs σ H Q ψ=>by
 obtain⟨o,p,L,t,C,T,rl,z,k⟩:=ψ
 cases o with
 |nil=>exact z.elim
 |cons y r=>
  obtain⟨x,xs,rfl,r1,r2⟩:=C;exact⟨x,xs,rfl,y,p,L,_,r1,T,rl,z,λa0 H1 I L1 j J U z1=>⟨r,I,L1,t,r2.ts j,J,U,z1,k.ts j⟩⟩
theorem aQ{j:Nat}(hc:X.calm=true)(h:Fb X es gs)(h1:(assignEach es X.env).length=n:=by rfl)(h2:(assignEach es X.env).findIdx? (·.1)=none:=by rfl):QG X (.Tuple es j pos) (df n gs):=
 PG.imp (HN hc h h1 h2) λv C H Q ψ=>by
 obtain⟨y,U,L,g,l,o,p,z,k⟩:=ψ
 cases y with
 |tup I=>
  obtain⟨a,t,rfl,sq,r⟩:=l;have J:(match I.length==n with|true=>gs I U L g|false=>False):=z;split at J
  ·rename_i e;exact⟨a,t,rfl,sq,by rw[<-r.length];exact beq_iff_eq.mp e,I,U,L,g,r,o,p,J,k⟩
  ·exact J.elim
 |_=>exact z.elim
theorem wR{y:Str}{px py pt:Pos}{J:Nat}{I:Pos}(hc:X.calm=true)(hN:X.N.Nodup)(hi:X.N[i]?=some x)(C:X.N[j]?=some y)(U:i≠j)(T:X.env.scope.names.lookup x=some .local)(ly:X.env.scope.names.lookup y=some .local)
 (h:QA X [a,b] tr) (h1:swappedStores [.Tuple [.Name x px,.Name y py] kt pt] (.Tuple [a,b] J I) X.env=pure (some [x,y])) (h2:swapsWithSole [.Tuple [.Name x px,.Name y py] kt pt] (.Tuple [a,b] J I) pos.line X.env=pure false:=by rfl):
 QS X (.Assign [.Tuple [.Name x px,.Name y py] kt pt] (.Tuple [a,b] J I) pos) (IG i j tr):=EH (NQ hc hN hi C U T ly h h1 h2) λD σ H p L D3 r rl z k=>
 ⟨p,L,_,r,rl,z,λvs H1 ys L1 t g l o=>by
  split at o
  ·rename_i v w;obtain⟨x',y',rfl,r1,r2⟩:=l.inv2;exact⟨x',y',rfl,k.nx _ H1 _ L1 t (show vg _ _ _ (gQ (gQ p i v) j w) by rw[ar,ar];exact((r.ts t).set r1).set r2) g o⟩
  ·exact o.elim⟩
theorem fZ(hp:PassesOwn (model X.prog X.w) X.A X.env X.xe)(h:QT X c tA)(hb:sd X body t):QS X (.While c body [] pos) (oN tA t):=PS.imp (NS hp h hb) λD σ H ψ=>by
 obtain⟨τ,L,D3,rs,rl,⟨W,⟨m0,w0⟩,turn⟩,k⟩:=ψ
 refine⟨λm r H1=>∃J C,j9 H H1/\vg X.g3 H1 r J/\j7 X.g3 H1 C/\W m J C,⟨m0,τ,L,ED _,rs,rl,w0⟩,?_⟩;rintro m r H1 ⟨J,C,t1,l,a1,w1⟩;refine⟨J,C,_,l,a1,turn m J C w1,λb H2 L2 T a0 z2=>?_⟩;cases b with
 |false=>rw[Ar AH];exact k.nx _ H2 _ L2 (t1.trans T) (l.ts T) a0 z2
 |true=>
  rw[Aw rfl];obtain⟨N,hN,z2⟩:=z2;refine⟨λU g=>∃I j,j9 H g/\vg X.g3 g U I/\j7 X.g3 g j/\N I j,?_,?_⟩
  ·rintro U g ⟨I,j,t',o,p,n'⟩;obtain⟨m',hm,w'⟩:=hN I j n';exact⟨m',hm,I,j,t',o,p,w'⟩
  ·have nx:oj X.g3 H2 (jM N) (λU g=>∃I j,j9 H g/\vg X.g3 g U I/\j7 X.g3 g j/\N I j):=λU g I j t' o p ψ=>(by obtain⟨L5,s5,n'⟩:=ψ;exact ⟨I,L5,(t1.trans T).trans t',o,p.sub s5,n'⟩);have k2:=k.ts<|t1.trans T;exact⟨J,L2,_,l.ts T,a0,z2,nx,k2.rt,k2.nx,nx⟩
theorem vi{wi:w_}(hp:PassesOwn (model X.prog X.w) X.A X.env X.xe)(hc:X.calm=true)(hi:QI X tg iter wi)(hg:QG X tg g)(hb:sd X body t)(hs:∀x,foldedSetIterable iter X.env x=pure x:=by intro _;rfl):
 QS X (.For tg iter body [] pos) (l8 wi g t):=EH (N2 hp hc hi hg hb hs) λD σ H τ L D3 rs rl z k=>by
 refine⟨τ,L,_,rs,rl,z,λJ H1 r keep L1 t1 a2 yl zz=>?_⟩;obtain⟨W,w0,wk,turn,jv⟩:=Ql zz;refine⟨λi m U j=>∃I o,i+m=r.length/\j9 H1 j/\vg X.g3 j U I/\j7 X.g3 j o/\W i I o,⟨r.length,τ,L1,by omega,ED _,rs.ts t1,a2,w0⟩,?_⟩;rintro i m ac H2 ⟨l,L2,al,t2,a0,p,w2⟩;by_cases a1:i<r.length
 ·refine .inr ⟨yl.go i H2 L2 t2 p (wk i l L2 w2) a1,λU j=>∃I o,j9 H1 j/\vg X.g3 j U I/\j7 X.g3 j o/\W (i+1) I o,?_,?_⟩
  ·rintro U j ⟨I,o,t',C,T,w'⟩;exact⟨m-1,by omega,I,o,by omega,t',C,T,w'⟩
  ·intro x H3 y3;have ey:r[i]?=some r[i]:=Ao a1;obtain⟨t3,a3,a4⟩:=yl.yld i H2 L2 x H3 _ t2 p (wk i l L2 w2) ey y3;refine⟨r[i],l,L2,_,a4,a0.ts t3,a3,turn i _ l L2 ey w2,λau H4 a5 L4 t4 a7 ab z4=>?_⟩;have nx:oj X.g3 H4 (jM<|W<|i+1) (λU j=>∃I o,j9 H1 j/\vg X.g3 j U I/\j7 X.g3 j o/\W (i+1) I o):=λU j I o t' C T ψ=>(by obtain⟨L5,s5,n'⟩:=ψ;exact ⟨I,L5,((t2.trans t3).trans t4).trans t',C,T.sub s5,n'⟩);have k2:=k.ts<|t1.trans<|(t2.trans t3).trans t4;exact⟨a5,L4,_,a7,ab,z4,nx,k2.rt,k2.nx,nx⟩
 ·have e:i=r.length:=by omega
  subst e;exact .inl ⟨yl.stop H2 L2 t2 p<|wk _ l L2 w2,k.nx _ H2 _ L2 (t1.trans t2) a0 p<|jv l L2 w2⟩
theorem PI.imp{t u:TI}(h:PI X tg e t)(q:∀σ H Q,u σ H Q->t σ H Q):PI X tg e u:=λJ s σ H Q I z=>h J s σ H Q I<|q σ H Q z
theorem PI.imq{t:TI}{u:w_}(h:PI X tg e t)(q:∀σ H R τ L I,vg G H σ τ->j7 G H L->u τ L I->(∀J H' ys keep L',j9 H H'->j7 G H' L'->jL G H' J ys keep->I ys keep L'->R J H')->t σ H R):PI X tg e (Ga G u):=PI.imp h λσ H R ψ=>(by obtain⟨τ,L,I,a,b,c,d⟩:=ψ;exact q σ H R τ L I a b c d)
theorem lO{a:Addr}{keep:ql->Prop}(h:∀H L,j9 H₀ H->j7 G H L->keep L->∃xs,aY G.K H a xs/\xx G H ys xs):jL G H₀ (FT G.K a) ys keep where
 go:=λi H L t I J U=>by
  obtain⟨xs,sq,r⟩:=h H L t I J;have:i<xs.length:=by rw[<-r.length];exact U
  exact⟨xs,xs[i],sq,Ao this⟩
 yld:=λi H L x o y t I J g ψ=>by obtain⟨e,f⟩:=ψ;subst e;obtain⟨xs,sq,r⟩:=h _ L t I J;obtain⟨p,j,l⟩:=r.get g;have:=f xs sq;rw[j] at this;cases this;exact⟨ED _,I,l⟩
 stop:=λH L t I J=>by obtain⟨xs,sq,r⟩:=h H L t I J;exact⟨xs,sq,by rw[r.length];exact An _⟩
theorem vf(h:QE X e te):QI X tg e (ag te):=PI.imq (NW h) λσ H R τ L R3 rs l z k=>by
 refine⟨τ,L,_,rs,l,z,λv g y o C I U p=>?_⟩;cases y with
 |ref a=>
  obtain⟨j,keep,es,kp,hk,z2⟩:=tI p;have T:∀H L,j9 g H->j7 X.g3 H L->keep L->∃J,aY X.K H a J/\xx X.g3 H j J:=λH L _ l e=>fY l<|hk L e;obtain⟨J,sq,_⟩:=T g o (ED _) I kp;exact⟨a,U,⟨J,sq⟩,k _ g j _ o C I (lO T) z2⟩
 |sq j=>
  obtain⟨a,J,e,sf,r⟩:=U;exact⟨a,e,⟨J,sf.sq⟩,k _ g j (λ_=>True) o C I (lO λH L t _ _=>⟨J,(sf.ts t).sq,r.ts t⟩) p⟩
 |_=>exact p.elim
theorem tK(lo:Int)(n:Nat):jL G H₀ (D_ lo n) (aN lo n) (λ_=>True) where
 go:=λi H L t J g j=>show i<n by simpa[aN] using j
 yld:=λi H L x l y t J g U ψ=>by
  obtain⟨e,f⟩:=ψ
  subst e f;refine⟨ED _,J,?_⟩;unfold aN at U;rw[Au] at U;obtain⟨z,I,e⟩:=AI.mp U;have:=BX (i:=i) (n:=n) (by
   by_cases c:i<n
   ·exact c
   ·rw[CB (by simp;omega)] at I;cases I)
  rw[this] at I;cases I;subst e;rfl
 stop:=λH L t J g=>by simp[aN,D_]
theorem cK{p:Pos}(g:Gl X "range")(l:X.mg "range"=none)(h:QA X [a] tr)(hs:starEach [a] X.env=[(false,eval a X.env)]:=by rfl):QI X tg (.Call (.Name "range" p) [a] [] pos) (vX tr):=
 PI.imq (zD g l h hs) λσ H R o L R3 t C z k=>by
 refine⟨o,L,_,t,C,z,λvs T ys L1 t1 J U I=>?_⟩;split at I
 ·rename_i j;obtain⟨x,rfl,r⟩:=U.inv1;cases r;exact⟨j,rfl,I.1.1,I.1.2,k _ T _ _ L1 t1 J (tK 0 _) I.2⟩
 ·exact I.elim
end
section
variable {T:Xb}{wi:w_}
theorem wF:QF X [] IJ:=PF.imp P2 λJ H Q ψ=>(by obtain⟨U,L,g,j,I,z,k⟩:=ψ;exact k _ H L (ED _) I z)
theorem cH(h:QT X c tA):QF X [c] tA:=P7 h
theorem IV{g2:TG}(a0:∀v σ H Q,E5 G g v σ H Q->g2 v σ H Q)(σ:L2.St)(H:Hp)(Q:VK):rL G (ya n wi g tA te) σ H Q->F_ n (Ga G wi) g2 (l_ G tA) (rL G te) σ H Q:=λ ψ=>by
 obtain⟨τ,L,Q3,rs,rl,z,k⟩:=ψ
 refine⟨τ,L,_,rs,rl,z,λJ H1 l keep L1 t1 a1 yl zz=>?_⟩;obtain⟨hz,W,w0,wk,turn,jv⟩:=Qm zz;refine⟨λi m vs H'=>∃I L',i+m=l.length/\I.length<=i/\j9 H1 H'/\xx G H' I vs/\j7 G H' L'/\W i I L',⟨l.length,[],L1,by exact DY _ _,An _,ED _,rfl,a1,w0⟩,?_⟩;rintro i m vs H2 ⟨I,L2,ab,ac,o,U,j,p⟩;by_cases r:i<l.length
 ·refine .inr ⟨yl.go i H2 L2 o j (wk i I L2 p) r,by rw[<-U.length];lia,?_⟩;intro x H3 y3;have ey:l[i]?=some l[i]:=Ao r;obtain⟨t3,a2,a3⟩:=yl.yld i H2 L2 x H3 _ o j (wk i I L2 p) ey y3;refine a0 _ _ _ _ ⟨l[i],_,L2,_,a3,(rs.ts<|(t1.trans o).trans t3).more n,a2,turn i _ I L2 ey p,λal H4 t L4 t4 C a4 z4=>?_⟩;refine⟨t,L4,_,C,a4,z4,λb H5 L5 t5 T z5=>?_⟩;cases b with
  |true=>
   rw[Aw rfl];refine⟨t,L5,_,C.ts t5,T,z5,λv6 H6 y6 L6 t6 a5 a7 ψ=>?_⟩;obtain⟨L7,s7,z6⟩:=ψ;have tt:=((t3.trans t4).trans t5).trans t6;exact⟨m-1,by omega,I++[y6],L7,by lia,by rw[Aa,Bc];exact EZ,o.trans tt,(U.ts tt).app<|xx.one a7,a5.sub s7,z6⟩
  |false=>
   rw[Ar AH];have tt:=(t3.trans t4).trans t5;obtain⟨L7,s7,z6⟩:=z5;exact⟨m-1,by lia,I,L7,by lia,by exact F8,o.trans tt,U.ts tt,T.sub s7,z6⟩
 ·have ei:i=l.length:=by lia
  subst ei;refine .inl ⟨yl.stop H2 L2 o j<|wk _ I L2 p,by rw[<-U.length];lia,λD hD=>?_⟩;exact k _ _ _ _ ((t1.trans o).trans<|EE hD) (j.newL hD U) (by rfl)<|jv I L2 p D<|j.none hD
structure DI(X:Cx)(scope:Scope)(T:Xb)(target:Expr)(g:oI):Prop where
 ex:∃g2:TG,(∀C fp s₀ H₀,PG (X.comp scope T C fp s₀ H₀) target g2)/\qC g2 X.N.length T.length/\∀v σ H Q,E5 X.g3 g v σ H Q->g2 v σ H Q
theorem QK(i:Nat)(v:V)(σ:L2.St)(H:Hp)(Q:L2.St->Hp->Prop):E5 G (qo i) v σ H Q->ef i v σ H Q:=λ ψ=>by
 obtain⟨y,I,L,j,J,U,g,z,k⟩:=ψ
 exact k _ H _ L (ED _) (show vg _ _ _ (gQ I i y) by rw[ar];exact U.set J) g z
theorem fW{p:Pos}(hN:(X.N++[x]).Nodup)(J:∀C fp s₀ H₀,Loc (X.comp scope [x] C fp s₀ H₀).env.scope x)(I:∀C fp s₀ H₀,(X.comp scope [x] C fp s₀ H₀).env.scope.names.lookup x=some .local):DI X scope [x] (.Name x p) (qo X.N.length):=
 ⟨ef X.N.length,λC fp s₀ H₀=>mJ (X:=X.comp scope [x] C fp s₀ H₀) hN (by show(X.N++[x])[X.N.length]?=some x;simp) (J C fp s₀ H₀)<|.inr<|I C fp s₀ H₀,vU _,QK _⟩
theorem QL{K:Ai}(n:Nat):qC (FO K 2<|uG (ef n)<|uG (ef<|n+1) FM) n 2:=by
 rintro o I x H Q ⟨a,J,e,sq,len,v,r,U,w,g,j,l,q⟩;refine⟨a,J,e,sq,len,v,r,U,w,g,j,l,⟨by simp[I],λi u ei=>?_⟩,q⟩;have p:i<n:=by
  by_cases c:i<n
  ·exact c
  ·rw[AK (by lia),Cp] at ei;split at ei<;>cases ei
 rw[Bv (by lia),Bv (by exact Ih)];exact ei
theorem QM(i j:Nat)(v:V)(σ:L2.St)(H:Hp)(Q:L2.St->Hp->Prop):E5 G (df 2<|jh (qo i)<|jh (qo j) bv) v σ H Q->FO G.K 2 (uG (ef i)<|uG (ef j) FM) v σ H Q:=λ ψ=>by
 obtain⟨y,U,L,g,o,p,t,z,k⟩:=ψ
 cases y with
 |tup I=>
  obtain⟨a,xs,rfl,sq,r⟩:=o;have J:(match I.length==2 with|true=>jh (qo i) (jh (qo j) bv) I U L g|false=>False):=z;split at J
  ·rename_i e;have C:I.length=2:=beq_iff_eq.mp e
   match I,C with
   |[T,y2],_=>
    obtain⟨x1,l,rfl,r1,r2⟩:=r.inv2;have z2:g (gQ (gQ U i T) j y2) L:=J;exact⟨a,_,rfl,sq,rfl,x1,[l],rfl,l,[],rfl,rfl,k _ H _ L (ED _) (by rw[ar,ar];exact(p.set r1).set r2) t z2⟩
  ·exact J.elim
 |_=>exact z.elim
theorem QN{y:Str}{p I pt:Pos}(hc:X.calm=true)(hN:(X.N++[x,y]).Nodup)(U:∀C fp s₀ H₀,(X.comp scope [x,y] C fp s₀ H₀).env.scope.names.lookup x=some .local)(J:∀C fp s₀ H₀,(X.comp scope [x,y] C fp s₀ H₀).env.scope.names.lookup y=some .local)
 (h1:∀env,(assignEach [.Name x p,.Name y I] env).length=2:=by intro _;rfl) (h2:∀env,(assignEach [.Name x p,.Name y I] env).findIdx? (·.1)=none:=by intro _;rfl)
 (g:∀env,(assignEach [.Name x p,.Name y I] env).map (·.2)=assign (.Name x p) env::(assignEach [.Name y I] env).map (·.2):=by intro _;rfl) (j:∀env,(assignEach [.Name y I] env).map (·.2)=assign (.Name y I) env::(assignEach [] env).map (·.2):=by intro _;rfl):
 DI X scope [x,y] (.Tuple [.Name x p,.Name y I] kt pt) (df 2<|jh (qo X.N.length)<|jh (qo<|X.N.length+1) bv):=
 ⟨_,λC fp s₀ H₀=>HN (X:=X.comp scope [x,y] C fp s₀ H₀) hc (o7 (mJ hN (by show(X.N++[x,y])[X.N.length]?=some x;simp) (.inl<|U C fp s₀ H₀)<|.inr<|U C fp s₀ H₀) (o7 (mJ hN (by show(X.N++[x,y])[X.N.length+1]?=some y;simp) (.inl<|J C fp s₀ H₀)<|.inr<|J C fp s₀ H₀) y7<|j _)<|g _) (h1 _)<|h2 _,QL _,QM _ _⟩
theorem n9(T:Xb)(S:jc X scope)(hc:X.calm=true)(hi:QI X target iter wi)(I:DI X scope T target g)
 (J:∀C fp s₀ H₀,QF (X.comp scope T C fp s₀ H₀) lm tA) (U:∀C fp s₀ H₀,QE (X.comp scope T C fp s₀ H₀) ml te)
 (hs:∀x,foldedSetIterable iter X.env x=pure x:=by intro _;rfl):QE X (.ListComp ml [⟨target,iter,lm,0⟩] scope pos) (ya T.length wi g tA te):=by
 obtain⟨g2,j,l,o⟩:=I.ex;exact EM (P9 T S hc hi j l J U hs)<|IV o
theorem cN(T:Xb){px o:Pos}(hN:X.N.Nodup)(I:X.N[i]?=some x)(hx:Loc X.env.scope x)(S:jc X scope)(hc:X.calm=true)(hi:QI X target iter wi)
 (hg:DI X scope T target g) (hf:∀C fp s₀ H₀,QF (X.comp scope T C fp s₀ H₀) lm tA) (he:∀C fp s₀ H₀,QE (X.comp scope T C fp s₀ H₀) ml te)
 (J:swapsWith (.ListComp ml [⟨target,iter,lm,0⟩] scope o) (some<|.Name x px) pos.line X.env=pure true:=by rfl)
 (U:X.fn x=true\/X.env.scope.names.lookup x=some .local:=by first|exact .inl rfl|exact .inr rfl|assumption)
 (hs:∀x,foldedSetIterable iter X.env x=pure x:=by intro _;rfl):QS X (.Assign [.Name x px] (.ListComp ml [⟨target,iter,lm,0⟩] scope o) pos) (vh (ya T.length wi g tA te)<|qo i):=by
 obtain⟨g2,h1,h2,h3⟩:=hg.ex;refine PS.imp (P_ (tc:=l_ X.g3 tA) (te:=rL X.g3 te) T hN I hx S hc hi h1 h2 hf he J U hs) λD σ H ψ=>?_;obtain⟨p,L,D3,r,rl,z,k⟩:=ψ;refine IV h3 σ H _ ⟨p,L,_,r,rl,z,λv H1 y L1 t j l z1=>?_⟩;exact k.nx _ H1 _ L1 t (show vg _ _ _ (gQ p i y) by rw[ar];exact(r.ts t).set l) j z1
def dn(G:G3)(sp:zd):Sp:=λvs H Q _=>∃ys L I,xx G H ys vs/\j7 G H L/\sp ys L I/\u6 G H I Q
abbrev Gh(P:Xl)(w:Xm)(K:Ai)(mg:W5)(base:Xn)(k:Nat)(x:Str)(ps:Xb)(sp:zd):Prop:=Cal P w K mg base k x ps<|dn ⟨K,P,w⟩ sp
abbrev Fn3(P:Xl)(w:Xm)(K:Ai)(mg:W5)(base:Xn)(k:Nat)(f:Addr)(fd:FuncData)(ps:Xb)(sp:zd):Prop:=bL P w K mg base CX0 k f fd ps<|dn ⟨K,P,w⟩ sp
theorem QP{k:Nat}{p:Pos}(c:Gh X.prog X.w X.K X.mg X.base k x ps sp)(j:vz k X.A)(l:Gl X x)(o:QA X (e::es) tr)(I:Ez x:=by decide)
 (r:Ex e es X:=by rfl) (J:Ey pos es X:=by rfl):QE X (.Call (.Name x p) (e::es) [] pos) (xm sp tr):=
 EG (PZ c j l o I r J) λσ H Q t L C T rl z k=>
 ⟨t,L,_,T,rl,z,λvs H1 ys L1 t1 U g z1=>⟨ys,L1,C,by rw[Av];exact g,U,z1,k.ts t1⟩⟩
def fG(Q:YK):YK:=λy L=>∃L2,qh L2 L/\Q y L2
def kE(N:Xb)(ys:List Y):jk:=ys.map some++List.replicate (N.length-ys.length) none
theorem qK{N:Xb}{vs:Xp}(r:xx G H ys vs):vg G H (L2.start N vs) (kE N ys):=by unfold L2.start kE;rw[<-r.length];refine vg.more ⟨by simp[r.length],λi y e=>?_⟩ _;rw[Au] at e;obtain⟨g,I,J⟩:=AI.mp e;cases J;obtain⟨x,ex,U⟩:=r.get I;exact⟨x,by rw[Au,ex];rfl,U⟩
theorem QQ{P:Xl}{w:Xm}{K:Ai}{N:Xb}{k:Nat}(F:Fun K x eH st f fd)(S:ay N ps<|qt st)(len:∀ys L Q,sp ys L Q->ys.length=ps.length)
 (I:∀(fm:Xj) (A:Around) (outer:List Env) (s:Xk) (H:Hp) (E:XK),vz k (A.deeper<|PyProof.Rows.envOfC eH (qt st) s.heap.objs.size f fm)->
  ∃t,sd (iQ CX0 P w K mg base N eH (qt st) f fm A outer s H E).nox (j6 st) t/\∀ys L Q,sp ys L Q->t { nx:=λ_ L'=>fG Q .non L',rt:=fG Q } (kE N ys) L):Fn3 P w K mg base (k+1) f fd ps sp:=by
 refine F.ok S (λT H Q E ψ=>by obtain⟨ys,L,U,g,C,z,_⟩:=ψ;rw[<-g.length];exact len ys L U z) λfm A outer s H T Q E hr ψ=>?_;obtain⟨ys,L,U,g,C,z,k⟩:=ψ;obtain⟨t,ht,q⟩:=I fm A outer s H E hr;refine⟨_,ht,kE N ys,L,_,qK g,C,q ys L U z,?_⟩;refine⟨λσ j τ L' l a0 J ψ=>(by obtain⟨L2,o,p⟩:=ψ;exact k .non j .non L2 l (J.sub o) (by rfl) p),λv j y L' l J r ψ=>(by obtain⟨L2,o,p⟩:=ψ;exact k v j y L2 l (J.sub o) r p),λ_ _ _ _ _ _ _ z=>z.elim,λ_ _ _ _ _ _ _ z=>z.elim⟩
def xT(G:G3)(r:Y->List Y->ql->YK->Prop):V->Xp->Hp->VK->Prop:=λx xs H Q=>∃y ys L I,RV G H y x/\xx G H ys xs/\j7 G H L/\r y ys L I/\u6 G H I Q
theorem nV.imq{id:Xo}{r:V->Xp->Hp->VK->Prop}{u:Y->List Y->ql->YK->Prop}(h:nV X id r)(q:∀x xs H Q y ys L I,RV G H y x->xx G H ys xs->j7 G H L->u y ys L I->u6 G H I Q->r x xs H Q):nV X id (xT G u):=nV.imp h λx xs H Q ψ=>(by obtain⟨y,ys,L,I,a,b,c,d,e⟩:=ψ;exact q x xs H Q y ys L I a b c d e)
theorem QR:nV X "list.append" (xT X.g3 vq):=nV.imq Pw λx p H Q y t L C U g J z k=>by
 unfold vq at z;split at z
 ·rename_i a v;obtain⟨T,e,z⟩:=xc z;obtain⟨j,I,r⟩:=J a _ e;obtain⟨l,rfl,o⟩:=g.inv1;exact⟨a,j,l,U,rfl,I,by rw[<-r.length];exact z.1,k _ _ _ _ (EO I) (J.setL I<|r.app<|xx.one o) (by rfl) z.2⟩
 ·exact z.elim
theorem QU:nV X "list.extend" (xT X.g3 qV):=nV.imq Py λx T H Q y ys L Q3 g j I z k=>by
 unfold qV at z;split at z
 ·rename_i a b;obtain⟨zs,e,z⟩:=xc z;obtain⟨us,l,z⟩:=xc z;obtain⟨o,J,r⟩:=I a _ e;obtain⟨p,t,U⟩:=I b _ l;obtain⟨v',rfl,C⟩:=j.inv1;cases C;exact⟨a,b,o,p,g,rfl,J,t,by rw[<-r.length,<-U.length];exact z.1,k _ _ _ _ (EO J) (I.setL J<|r.app U) (by rfl) z.2⟩
 ·exact z.elim
theorem QV{a:Addr}(I:j7 G H L)(h:da L (.ref a)=some ys):F5 G.K "list" (.ref a) H:=by obtain⟨J,sq,_⟩:=fY I h;exact .inl ⟨rfl,J,sq⟩
def rE(r:Y->List Y->ql->YK->Prop)(to:xo)(t:hG)(τ:jk)(L:ql)(Q:YK):Prop:=to τ L λx L1=>match x with
 |.ref a=>oB L1 (.ref a) λ_=>t τ L1 λxs L2=>r (.ref a) xs L2 Q
 |_=>False
structure yp(X:Cx)(o e:Expr)(es:Xc)(name:Str)(apos fx:Pos):Prop where
 h4:attributeBase o name X.env (eval o X.env)=eval o X.env
 h5:((backTo fx<|starEach (e::es) X.env).all (λx=>!x.1)&&(backToKw fx<|keywordEach [] X.env).all (λx=>x.1.isSome)&&decide ((e::es).length+([]:List Keyword).length+(if ([]:List Keyword).isEmpty=true then 0 else 1)<30))=true
 h6:(apos.endLine==fx.line)=true
 h7:Ex e es X
 h8:Ey fx es X
theorem rR{id:Xo}{r:Y->List Y->ql->YK->Prop}(h2:Slot "list" name id)(h3:typeOf (.builtin id)=pure (.type "method_descriptor"))(hm:nV X id<|xT X.g3 r)(ho:QE X o to)(ha:QA X (e::es) tr)
 (I:yp X o e es name apos fx:=by exact⟨rfl,rfl,rfl,rfl,rfl⟩):
 QE X (.Call (.Attribute o name apos) (e::es) [] fx) (rE r to tr):=EG (Ic PySem.F.plainAttrs_list h2 h3 hm ho ha I.h4 I.h5 I.h6 I.h7 I.h8) λσ H Q p L Q3 t rl z k=>
 ⟨p,L,_,t,rl,z,λv H1 y L1 C J U g=>by
  split at g
  ·rename_i a;obtain⟨T,es,g⟩:=bV g;exact⟨by cases U;exact QV J es,p,L1,_,t.ts C,J,g,λvs H2 T L2 t2 j l z2=>⟨.ref a,T,L2,Q3,U.ts t2,l,j,z2,k.ts<|C.trans t2⟩⟩
  ·exact g.elim⟩
theorem z7(I:QE X o to)(J:QA X (e::es) tr)(U:yp X o e es "append" apos fx:=by exact⟨rfl,rfl,rfl,rfl,rfl⟩):
 QE X (.Call (.Attribute o "append" apos) (e::es) [] fx) (rE vq to tr):=rR PySem.F.slot_list_append PySem.F.type_list_append QR I J U
theorem QX(I:QE X o to)(J:QA X (e::es) tr)(U:yp X o e es "extend" apos fx:=by exact⟨rfl,rfl,rfl,rfl,rfl⟩):
 QE X (.Call (.Attribute o "extend" apos) (e::es) [] fx) (rE qV to tr):=rR PySem.F.slot_list_extend PySem.F.type_list_extend QU I J U
end
abbrev DN:qI:=q_ λi j=>.int<|i-j
abbrev a2m:qI:=yI adi λi j=>.int<|i*j
abbrev QY:qI:=yI FY λi j=>.int<|i / j
abbrev Fq:qI:=yI (λ_ j=>0<j) λi j=>.int<|i % j
abbrev QZ:qI:=q_ λi j=>.bl<|decide<|i<j
abbrev yLe:qI:=q_ λi j=>.bl<|decide<|i<=j
abbrev Q0:qI:=q_ λi j=>.bl<|decide<|j<i
structure IW(G:G3)(mg:W5)(x:Str)(y:Y):Prop where
 ex:∃c,mg x=some (.ref c)/\∀H,RV G H y<|.ref c
theorem Q1(t:IW X.g3 X.mg x y)(I:Gl X x)(hd:Ez x:=by decide):QE X (.Name x pos) (yC y):=by obtain⟨c,J,q⟩:=t.ex;exact Qo I J q hd
def IX(kvs:List<|Str×Str):LO:=.dct<|kvs.map λp=>(Sum.inr p.1,Y.str p.2)
def Q2(kvs:List<|Str×Str)(_:jk)(L:ql)(Q:YK):Prop:=∀p,L p=none->Q (.ref p) (qe L p<|IX kvs)
def y1(kvs:List<|Str×Str):List (zv×V):=kvs.map λp=>(Sum.inr p.1,V.str p.2)
theorem vD{σ:L2.St}{H:Hp}{Q:List (V×V)->Hp->Prop}:∀{kvs:List<|Str×Str},Q (kvs.map λp=>(V.str p.1,V.str p.2)) H->rO (kvs.map λp=>(tC<|.str p.1,tC<|.str p.2)) σ H Q
 |[],h=>h
 |_::r,h=>vD (kvs:=r) h
theorem yE{G:G3}{H:Hp}:∀kvs:List (Str×Str),Paired (λ(p:zv×Y) (q:zv×V)=>p.1=q.1/\RV G H p.2 q.2) (kvs.map λp=>(Sum.inr p.1,Y.str p.2))<|y1 kvs
 |[]=>.nil
 |_::r=>.cons ⟨rfl,rfl⟩<|yE r
theorem Q4{keys:List<|Option Expr}{values:Xc}(kvs:List<|Str×Str)(h:EN X pos keys values<|kvs.map λp=>(tC<|.str p.1,tC<|.str p.2))(h1:(keys.all λx=>x.isSome)=true)(h2:keys.length=values.length)(U:keys≠[])(g:keys.length<=15)
 (j:kvs.length<=15:=by decide) (nd:jQ [] (y1 kvs)=y1 kvs:=by decide +kernel):QE X (.Dict keys values pos) (Q2 kvs):=EG (OZ h h1 h2 U g) λl H Q o L r t J z k=>by
 intro p I;refine vD ⟨zu,y1 kvs,by simp[y1,kV],by simpa[y1] using j,?_⟩;rw[nd,M5];refine k _ _ _ (qe L p<|IX kvs) (EE I) ?_ (by rfl)<|z p<|J.none I;intro a u e;by_cases c:a=p
 ·subst c;rw[q9] at e;cases e;exact⟨y1 kvs,zu,yE kvs⟩
 ·rw[qb c] at e;exact(J a u e).keep (EE I) (qu c)
theorem qZ{Q:α->ql->Prop}{o:Option α}(h:c_ L Q o):∃v,o=some v/\Q v L:=by cases o with|none=>exact h.elim|some v=>exact⟨v,rfl,h⟩
theorem lI{kvs:List<|Str×Str}{k:Str}(h:kvs.lookup k=some x):v4 (kvs.map λp=>((Sum.inr p.1:zv),Y.str p.2)) (Sum.inr k)=some (Y.str x):=by
 induction kvs with
 |nil=>simp at h
 |cons p r I=>
  obtain⟨a,b⟩:=p;unfold v4;rw[AO,Bz];rw[AW] at h;by_cases c:k=a
  ·subst c;simp at h;simp[h]
  ·have c1:(k==a)=false:=by simpa using c
   rw[c1] at h;have c2:decide ((Sum.inr a:zv)=Sum.inr k)=false:=AB λz=>c (Sum.inr.inj z).symm;simp only[c2];exact I h
theorem yu(h:(aN lo n)[i]?=some y):i<n/\y=.int (lo+i):=by
 unfold aN at h;rw[Au] at h;obtain⟨z,I,e⟩:=AI.mp h;have J:i<n:=by
  by_cases c:i<n
  ·exact c
  ·rw[CB (by simp;exact Fk)] at I;cases I
 rw[BX J] at I;cases I;exact⟨J,e.symm⟩
theorem nQ(lo:Int)(n:Nat):(aN lo n).length=n:=by simp[aN]
theorem sP{tb:vn}{D:vo}(W:Nat->jk->ql->Prop)(J:W 0 τ L)
 (hs:∀i τ L,i<n->W i τ L->g (.int<|lo+i) τ L λI L2=>tb { D with nx:=jM<|W<|i+1,ct:=jM<|W<|i+1,bk:=D.nx } I L2) (hd:∀τ L,W n τ L->D.nx τ L):ue (aN lo n) (λ_=>True) g tb D τ L:=by
 refine aZ ⟨W,J,λ_ _ _ _=>trivial,λi y τ L e w=>?_,λτ L w=>hd τ L (by rw[nQ] at w;exact w)⟩;obtain⟨U,rfl⟩:=yu e;exact hs i τ L U w
theorem aw{tb:vn}{D:vo}{a:Addr}(h:da L (.ref a)=some ys)(W:Nat->jk->ql->Prop)(J:W 0 τ L)(U:∀i τ L',W i τ L'->L' a=L a)
 (hs:∀i y τ L,ys[i]?=some y->W i τ L->g y τ L λI L2=>tb { D with nx:=jM<|W<|i+1,ct:=jM<|W<|i+1,bk:=D.nx } I L2) (hd:∀τ L,W ys.length τ L->D.nx τ L):
 r9 L a λys keep L1=>ue ys keep g tb D τ L1:=w6 (pJ h) λkeep j=>aZ ⟨W,J,λi τ L' w=>j L'<|U i τ L' w,hs,hd⟩
theorem eY{keep:ql->Prop}{Q:YK}(I:Nat->List Y->Prop)(hz:ys.length<sizeLine)(j:keep L)(l:I 0 [])
 (turn:∀(i:Nat) y zs,ys[i]?=some y->I i zs->g y (τ++List.replicate n none) L λJ L2=>tc J L2 λb L3=>aK b (te J L3 λz o=>jM (λzs L'=>L'=L/\I (i+1) zs) (zs++[z]) o)<|jM (λzs L'=>L'=L/\I (i+1) zs) zs L3)
 (r:∀zs,I ys.length zs->∀p,L p=none->Q (.ref p) (qe L p<|.lst zs)):g_ ys keep n g tc te τ L Q:=by
 refine IK ⟨hz,λi zs L'=>L'=L/\I i zs,⟨rfl,l⟩,?_,?_,?_⟩
 ·rintro i zs L' ⟨rfl,_⟩;exact j
 ·rintro i y zs L' t ⟨rfl,U⟩;exact turn i y zs t U
 ·rintro zs L' ⟨rfl,U⟩ p C;exact r zs U p C
theorem wG{Q:YK}(I:Nat->List Y->Prop)(hz:m<sizeLine)(j:I 0 [])
 (turn:∀(i:Nat) zs,i<m->I i zs->g (.int<|lo+i) (τ++List.replicate n none) L λJ L2=>tc J L2 λb L3=>aK b (te J L3 λz l=>jM (λzs L'=>L'=L/\I (i+1) zs) (zs++[z]) l)<|jM (λzs L'=>L'=L/\I (i+1) zs) zs L3)
 (o:∀zs,I m zs->∀p,L p=none->Q (.ref p) (qe L p<|.lst zs)):g_ (aN lo m) (λ_=>True) n g tc te τ L Q:=by
 refine eY (keep:=λ_=>True) I (by rw[nQ];exact hz) trivial j (λi y zs e U=>?_) λzs U=>o zs (by rw[nQ] at U;exact U);obtain⟨r,rfl⟩:=yu e;exact turn i zs r U
theorem v9{I:List α}{f:α->Y}{w:α}(h:I[i]?=some w):cI (I.map f) (i:Int)=some (f w):=jt (by rw[Au,h];rfl)
def jj(t:vn)(n:Nat)(ys:List Y)(L:ql)(Q:YK):Prop:=t { nx:=λ_ L'=>fG Q .non L',rt:=fG Q } (ys.map some++List.replicate (n-ys.length) none) L
theorem jv{Q:YK}(h:Q y L):fG Q y L:=⟨L,EC L,h⟩
theorem dt{Q:YK}(s:qh L L')(h:Q y L):fG Q y L':=⟨L,s,h⟩
theorem Fn3.never{P:Xl}{w:Xm}{K:Ai}{k:Nat}(no:∀ys L Q,¬sp ys L Q):Fn3 P w K mg base k f fd ps sp:=
 bL.never λJ H Q E ψ=>(by obtain⟨ys,L,I,_,_,z,_⟩:=ψ;exact no ys L I z)
theorem qh.upd{a:Addr}{o:LO}(s:qh L L')(h:L a=none):qh L (qe L' a o):=λb u e=>by rw[qb<|xu e h];exact s b u e
theorem qh.put{a:Addr}{o:LO}(s:qh L L')(h:L' a=some o):qh (qe L a o) L':=λb u e=>by
 by_cases c:b=a
 ·subst c;rw[q9] at e;cases e;exact h
 ·rw[qb c] at e;exact s b u e
theorem uR{G:G3}{H:Hp}:∀I:Xe,xx G H (I.map Y.int)<|I.map V.int
 |[]=>rfl
 |_::r=>⟨_,_,rfl,rfl,uR r⟩
end L3
namespace L2
open PySem PySem.Spec PyProof.Rows
section
variable {σ:L2.St}
theorem nU(I:z8 X pins σ H s)(U:∀b∈fp,H b=none)(k:∀b o,b∉fp->s.heap.get? b=some o->h'.get? b=some o):g8 X.prog X.w H h':=λb u e=>by
 refine(I.hok b u e).stay (λc v g q=>k c v (λz=>?_) q) (λ_ q=>q) λ_ _ q=>q;have J:=U c z;rcases g with w|w
 ·rw[w,e] at J;cases J
 ·rw[w] at J;cases J
theorem Q5{fs:List Addr}(k:∀b o,b∉fp->h.get? b=some o->h'.get? b=some o):Un fs fp H H h h':=
 ⟨λb o q _ _ x=>k b o x q,λb o q _ _ x=>⟨o.slots,k b o x q⟩,λ_ _ _ n _=>n,λb o q x=>⟨o,k b o x q⟩,λ_ _ q=>q,λ_ _ _ q=>q,λb I q=>⟨#[],by rw[q];simp⟩⟩
theorem z8.turnedL(I:z8 X pins σ H s)(k:∀b o,b∉fp->s.heap.get? b=some o->h'.get? b=some o)(U:∀b∈fp,oo X pins H b)(g:0<t':=by walk_at "t"):z8 X pins σ H { s with heap:=h',toks:=t' }:=
 I.call' (s':={ s with heap:=h',toks:=t' }) (ch:=fp) rfl (Q5 k) (nU I (λb J=>(U b J).1) k) I.bare λb J=>⟨(U b J).2.2.2.1,(U b J).2.1,(U b J).2.2.2.2.1,(U b J).2.2.2.2.2⟩
theorem z8.turnedN{a:Addr}{o:HO}(I:z8 X pins σ H s)(k:∀b o,b∉fp->s.heap.get? b=some o->h'.get? b=some o)(g:∀b∈fp,oo X pins H b)(l:s.heap.objs.size<=a)
 (new:vd X.prog X.w (upd H a o) h' a o) (r:0<t':=by walk_at "t"):z8 X pins σ (upd H a o) { s with heap:=h',toks:=t' }:=by
 have j:H a=none:=I.hok.fresh l;have lt:∀b J,s.heap.get? b=some J->b≠a:=λb J q=>A6<|AS (u1 q) l;refine I.call' (s':={ s with heap:=h',toks:=t' }) (ch:=fp) rfl ?_ ?_ I.bare λb U=>⟨(g b U).2.2.2.1,(g b U).2.1,(g b U).2.2.2.2.1,(g b U).2.2.2.2.2⟩
 ·exact⟨λb J q _ _ x=>k b J x q,λb J q _ _ x=>⟨J.slots,k b J x q⟩,λb J q n _=>by rw[qu<|lt b J q];exact n,λb J q x=>⟨J,k b J x q⟩,
   λb p q=>by rw[qu<|zy q j];exact q,λb J u q=>by rw[qu<|zy q j];exact q,λb t q=>⟨#[],by rw[qu<|zy q j,q];simp⟩⟩
 ·intro b u e;by_cases U:b=a
  ·subst U;rw[zu] at e;cases e;exact new
  ·rw[qu U] at e;have ok:=nU I (h':=h') (λb U=>(g b U).1) k b u e;exact ok.stay (λ_ _ _ q=>q) (λc q=>by rw[qu<|zy q j];exact q) λc p q=>by rw[qu<|zy q j];exact q
end
def Gi(K:Ai)(a:Addr):It:=
 ⟨λi H=>∃xs x,aY K H a xs/\xs[i]?=some x,λi H v H'=>∃p x,H p=none/\v=.ref p/\H'=upd H p (.tup [.int i,x])/\∀xs,aY K H a xs->xs[i]?=some x,λi H=>∃xs,aY K H a xs/\xs.length<=i⟩
theorem Q6{P:Xl}{w:Xm}{K:Ai}(a e it:Addr)(l:e≠it):DZ P w K (.Tuple mx x1 tp) (Gi K a) [e,it] e (λi h=>(∃old,IsEnum h e it i old)/\h.IsListIter it a i) where
 mem:=by simp
 obj:=λi h ψ b g=>by
  obtain⟨⟨old,J⟩,U⟩:=ψ
  rcases Am.mp g with rfl|g
  ·exact⟨_,J,λv z=>by cases z⟩
  ·cases Aj.mp g;obtain⟨o,T,hc,hd⟩:=U;exact⟨o,T,λv z=>by rw[hd] at z;cases z⟩
 keep:=λi h h' ψ k=>(by obtain⟨⟨old,J⟩,U⟩:=ψ;exact ⟨⟨old,k e (by simp) _ J⟩,U.at λo q=>k it (by simp) o q⟩)
 item:=by
  rintro X hP hw hK hc i r s σ H E I t ⟨⟨old,J⟩,U⟩ hg;subst hP hw hK;obtain⟨xs,x,C,hx⟩:=hg;obtain⟨a0,rv,p,hz⟩:=I.list C;obtain⟨u,hu,ru⟩:=rv.get hx;refine wpAny_pyNext_enum_item J U p.isList (x:=u) (by simpa using hu) l λh1 a1 a2 ht a5 hk=>⟨.ref s.heap.objs.size,rfl,wpAny_letOwnedTupleGo_enum a1 λh2 a3 j=>?_⟩;have el:e<s.heap.objs.size:=u1 J;have il:it<s.heap.objs.size:=by obtain⟨o,T,_⟩:=U;exact u1 T
  have kk:∀b o,b∉[e,it]->s.heap.get? b=some o->h2.get? b=some o:=λb o nb q=>by have n1:b≠e:=λz=>nb (by simp[z]);have n2:b≠it:=λz=>nb (by simp[z]);exact j.extBut b o n1<|hk b o n1 n2 q
  have tg:h2.get? s.heap.objs.size=some { cls:=.type "tuple",data:=.seq #[.int i s.toks,u] }:=j.extBut _ _ (DU el) ht;refine⟨.ref s.heap.objs.size,upd H s.heap.objs.size<|.tup [.int i,x],?_,rfl,⟨_,x,I.hok.fresh<|An _,rfl,rfl,λys hy=>by rw[I.list_inj hy C];exact hx⟩,⟨⟨_,a3⟩,a2.at λo q=>j.extBut _ _ (AQ l) q⟩,λb g=>?_⟩
  ·exact I.turnedN (t':=s.toks+1) kk t (An _) ⟨by show 2<=sizeLine;decide,[.int i s.toks,u],.cons ⟨_,rfl⟩<|.cons ru .nil,⟨_,tg,rfl,_,rfl⟩⟩
  ·have a4:b<s.heap.objs.size:=by rcases Am.mp g with rfl|g;exact el;cases Aj.mp g;exact il
   rw[qu<|A6 a4];exact(t b g).1
 done:=by rintro X hP hw hK hc i r s σ H E I t ⟨⟨old,J⟩,U⟩ hg;subst hP hw hK;obtain⟨xs,C,hx⟩:=hg;obtain⟨a0,rv,p,hz⟩:=I.list C;have hl:=rv.length;exact wpAny_pyNext_enum_end (I.ok.hd hc) J U p.isList (by simp;omega) λh1 eb=>⟨rfl,I.turnedL (t':=s.toks) (fp:=[e,it]) (λb o nb q=>eb b o (λz=>nb (by simp[z])) q) t⟩
 self:=λ_ _ _ _ _ ψ h=>(by obtain⟨⟨_,J⟩,_⟩:=ψ;exact wpAny_pyIter_enum J h)
def Q7(K:Ai)(ta:TA):TI:=λσ H R=>ta σ H λvs H1=>∃a,vs=[.ref a]/\(∃xs,aY K H1 a xs)/\R (Gi K a) H1
theorem sK:bootBuiltins "enumerate"=some (.type "enumerate"):=by decide +kernel
theorem Q8{a:Expr}{ta:TA}{p:Pos}(hg:Gl X "enumerate")(hm:X.mg "enumerate"=none)(ha:PA X [a] ta)(hs:starEach [a] X.env=[(false,eval a X.env)]:=by rfl):
 PI X (.Tuple mx x1 tp) (.Call (.Name "enumerate" p) [a] [] pos) (Q7 X.K ta):=by
 intro J s r H R I h;refine Call_<|jZ I hg hm sK<|CF (aJ (ha pos J s r H _ I h) λus U ψ=>?_) hs rfl;obtain⟨vs,t,j,r1,q1⟩:=ψ;obtain⟨l,e,⟨xs,hq⟩,q⟩:=q1;subst e;obtain⟨u,rfl,ru⟩:=sv r1;cases ru;obtain⟨a0,rv,pl,hz⟩:=j.list hq;refine call_enumerate_list pl.isList λC T hi a1 hk=>?_;have I2:z8 X J r t { U with heap:=C }:=j.kept (t':=U.toks) hk;refine wpAny_pyIter_enum (s:={ U with heap:=C }) T ?_;refine⟨U.heap.objs.size+1,[U.heap.objs.size+1,U.heap.objs.size],_,_,t,rfl,I2,Q6 l _ _<|Nat.succ_ne_self _,⟨⟨_,T⟩,hi⟩,λb o=>?_,q⟩;have g:U.heap.objs.size<=b:=by rcases Am.mp o with rfl|o;exact Ct _;cases Aj.mp o;exact An _
 exact j.fpOk g<|j.hok.fresh g
end L2
namespace L3
open PySem L2
theorem lC{a:Addr}{keep:ql->Prop}(h:∀H L,j9 H₀ H->j7 G H L->keep L->∃xs,aY G.K H a xs/\xx G H ys xs):jL G H₀ (Gi G.K a) (ys.zipIdx.map λp=>Y.tup [.int (p.2:Nat),p.1]) keep where
 go:=λi H L t I J o=>by
  obtain⟨xs,sq,r⟩:=h H L t I J;have:i<xs.length:=by rw[<-r.length];simpa using o
  exact⟨xs,xs[i],sq,Ao this⟩
 yld:=λi H L x H' y t I J l ψ=>by obtain⟨p,z,U,C,T,f⟩:=ψ;subst C T;obtain⟨xs,sq,r⟩:=h H L t I J;rw[Au,List.getElem?_zipIdx] at l;obtain⟨⟨y',j⟩,ey,e3⟩:=AI.mp l;obtain⟨a0,g,e4⟩:=AI.mp ey;cases e4;subst e3;obtain⟨x',e',rv⟩:=r.get g;have:=f xs sq;rw[e'] at this;cases this;refine⟨EE U,I.skip U,p,_,rfl,dh.of zu,⟨_,_,rfl,?_,_,_,rfl,rv.ts<|EE U,rfl⟩⟩;show V.int _=V.int _;congr 1;simp
 stop:=λH L t I J=>by obtain⟨xs,sq,r⟩:=h H L t I J;exact⟨xs,sq,by rw[Ah,List.length_zipIdx,r.length];exact An _⟩
def lE(ys:List Y):List Y:=ys.zipIdx.map λp=>Y.tup [.int (p.2:Nat),p.1]
theorem fJ(h:(lE ys)[i]?=some y):∃z,ys[i]?=some z/\y=.tup [.int i,z]:=by unfold lE at h;rw[Au,List.getElem?_zipIdx] at h;obtain⟨⟨J,j⟩,U,g⟩:=AI.mp h;obtain⟨l,I,o⟩:=AI.mp U;cases o;exact⟨J,I,by rw[<-g];simp⟩
theorem gG(ys:List Y):(lE ys).length=ys.length:=by simp[lE]
def IY(tl:xo)(τ:jk)(L:ql)(R:List Y->(ql->Prop)->ql->Prop):Prop:=tl τ L λx L1=>match x with
 |.ref a=>r9 L1 a λys keep L=>R (lE ys) keep L
 |.sq ys=>R (lE ys) (λ_=>True) L1
 |_=>False
theorem dM{a:Expr}{p:Pos}(hg:Gl X "enumerate")(hm:X.mg "enumerate"=none)(ha:QE X a te)(hs:starEach [a] X.env=[(false,eval a X.env)]:=by rfl)
 (j:starEach [a] X.env=(false,eval a X.env)::starEach [] X.env:=by rfl):QI X (.Tuple mx x1 tp) (.Call (.Name "enumerate" p) [a] [] pos) (IY te):=PI.imq (Q8 hg hm (fe ha oZ j) hs) λσ H R τ L R3 rs l z k=>by
 refine⟨τ,L,_,rs,l,z,λv g y o T I U C=>?_⟩;cases y with
 |ref a=>
  obtain⟨ys,keep,es,kp,hk,z2⟩:=tI C;have hy:∀H L,j9 g H->j7 X.g3 H L->keep L->∃J,aY X.K H a J/\xx X.g3 H ys J:=λH L _ l e=>fY l<|hk L e;obtain⟨J,sq,_⟩:=hy g o (ED _) I kp;cases U;exact⟨a,rfl,⟨J,sq⟩,k _ g _ _ o T I (lC hy) z2⟩
 |sq ys=>
  obtain⟨a,J,e,sf,r⟩:=U;subst e;exact⟨a,rfl,⟨J,sf.sq⟩,k _ g _ (λ_=>True) o T I (lC λH L t _ _=>⟨J,(sf.ts t).sq,r.ts t⟩) C⟩
 |_=>exact C.elim
end L3
namespace L2
open PySem PySem.Spec PyProof.Rows
section
variable {prog:Xl}{w:Xm}
end
section
variable {prog:Xl}{w:Xm}
end
section
variable {σ:L2.St}
end
end L2
namespace L3
open PySem L2
def sD(xs:List Y)(L:ql)(Q:YK):Prop:=match xs with
 |[x]=>oB L x λys=>∀p,L p=none->Q (.ref p) (qe L p<|.lst ys)
 |_=>False
theorem fF :jg X (.type "list") (f_ X.g3 sD):=ER rP λt H Q C L T U I z k=>by
 unfold sD at z;split at z
 ·rename_i x;obtain⟨u,rfl,g⟩:=U.inv1;obtain⟨zs,j,z⟩:=bV z;obtain⟨p,o,e,sq,r⟩:=rB I g j;subst e;exact⟨p,o,rfl,sq,λl J=>k _ _ _ _ (EE J) (I.newL J r) (by rfl)<|z l<|I.none J⟩
 ·exact z.elim
theorem cV{T:Xo}{p:Pos}{r:List Y->ql->YK->Prop}(hc:jg X (.type T)<|f_ X.g3 r)(U:Gl X x)(g:X.mg x=none)(j:bootBuiltins x=some (.type T))(h:QA X (e::es) tr)
 (l:x ≠ "__name__" := by decide) (hd:Ez x:=by decide) (hs:Ex e es X:=by rfl) (hp:Ey pos es X:=by rfl):
 QE X (.Call (.Name x p) (e::es) [] pos) (xa r tr):=EG (jG hc U g j h l hd hs hp) λσ H Q o L t C rl z k=>
 ⟨o,L,_,C,rl,z,λvs H1 ys L1 t1 I J z1=>⟨ys,L1,t,J,I,z1,k.ts t1⟩⟩
def rW(x:Y)(vs:List Y)(L:ql)(Q:YK):Prop:=match x,vs with
 |.ref a,[.int i]=>cz L a λys=>0<=i/\i<ys.length/\c_ L (λv L=>Q v<|qe L a<|.lst<|ys.eraseIdx i.toNat) (ys[i.toNat]?)
 |_,_=>False
theorem Q9 :nV X "list.pop" (xT X.g3 rW):=λJ s l H x xs v o Q I p t ψ=>by
 obtain⟨y,ys,L,Q3,C,T,j,z,k⟩:=ψ
 unfold rW at z;split at z
 ·rename_i a i;obtain⟨zs,e,h0,h1,z⟩:=xc z;obtain⟨ws,U,r⟩:=j a _ e;obtain⟨i',rfl,ri⟩:=T.inv1;cases ri;cases g:zs[i.toNat]? with
  |none=>rw[g] at z;exact z.elim
  |some w=>
   rw[g] at z;obtain⟨u,eu,ru⟩:=r.get g;obtain⟨_,_,_,hz⟩:=I.list<|ET U;have hl:=r.length;have hs:sizeLine<2 ^ 62:=by decide
   refine PB J s l H x _ v o Q I p t ⟨a,ws,i,i.toNat,u,C,rfl,U,by lia,by lia,?_,eu,k _ _ _ _ (EO U) (j.setL U<|r.eraseIdx _) (ru.ts<|EO U) z⟩;unfold seqIndex?;rw[Ar (show ¬i<0 by lia),Aw (by simp;lia)]
 ·exact z.elim
theorem cM(I:QE X o to)(J:QA X (e::es) tr)(U:yp X o e es "pop" apos fx:=by exact⟨rfl,rfl,rfl,rfl,rfl⟩):
 QE X (.Call (.Attribute o "pop" apos) (e::es) [] fx) (rE rW to tr):=rR PySem.F.slot_list_pop PySem.F.type_list_pop Q9 I J U
end L3
namespace L2
open PySem PySem.Spec PyProof.Rows
theorem yb(i:Int)(n d:Nat):max 0 (min (if i<0 then i+(n:Int) else i) n)=((HT.sIx n d (some i):Nat):Int):=by
 simp only[HT.sIx];by_cases h:i<0
 ·simp only[h,if_true]<;>lia
 ·simp only[h,if_false]<;>lia
theorem zN(l u:Xg)(n:Nat):Builtin.Str.strSliceIndices l u 1 n=(List.range<|HT.sIx n n u-HT.sIx n 0 l).map (HT.sIx n 0 l+·):=by
 have z:(0:Int)=((HT.sIx n 0 none:Nat):Int):=rfl;have y:(n:Int)=((HT.sIx n n none:Nat):Int):=rfl;unfold Builtin.Str.strSliceIndices;cases l with
 |none=>
  cases u with
  |none=>exact sliceRange_one 0 n
  |some j=>
   show sliceRange 0 (max 0<|min (if j<0 then j+(n:Int) else j) n) 1=_;rw[yb j n n];exact sliceRange_one 0 _
 |some i=>
  cases u with
  |none=>
   show sliceRange (max 0<|min (if i<0 then i+(n:Int) else i) n) n 1=_;rw[yb i n 0];exact sliceRange_one _ n
  |some j=>
   show sliceRange (max 0<|min (if i<0 then i+(n:Int) else i) n) (max 0<|min (if j<0 then j+(n:Int) else j) n) 1=_;rw[yb i n 0,yb j n n];exact sliceRange_one _ _
theorem pZ(x:Str)(l u:Xg):(Txt.slice x l u).cps.toList=(x.cps.toList.drop<|HT.sIx x.length 0 l).take (HT.sIx x.length x.length u-HT.sIx x.length 0 l):=by
 have U:x.length=x.cps.toList.length:=by simp[Str.length]
 have I:=pick_run x.cps (HT.sIx x.length 0 l)<|HT.sIx x.length x.length u-HT.sIx x.length 0 l;unfold Txt.slice;rw[zN];split
 ·rename_i h;simp only[beq_self_eq_true,Dg,Ah,Ba,beq_iff_eq] at h;have g:=HT.sIx_le x.length 0 (A2 _) l;have j:=HT.sIx_le x.length x.length (An _) u;have J:HT.sIx x.length 0 l=0:=by lia
  rw[h,J,Em,Bb (by exact xQ)]
 ·show(List.filterMap (λi=>x.cps[i]?) _).toArray.toList=_;rw[List.toList_toArray];exact I
def Ra:V->Xg->Xg->Hp->VK->Prop:=λx lo hi H Q=>∃z,x=.str z/\z.length<=sizeLine/\Q (.str<|Txt.slice z lo hi) H
theorem an7:si X Ra:=by
 intro J s σ H x v U g lo j sl Q I o p pl r h;obtain⟨z,rfl,C,q⟩:=h;obtain⟨t,rfl⟩:=o;obtain⟨l,rfl,T⟩:∃l:Option (Int×Tok),U=partValue l/\l.map (·.1)=lo:=by cases pl with|none=>exact⟨none,rfl,rfl⟩|int i t=>exact⟨some (i,t),rfl,rfl⟩
 obtain⟨u,rfl,hu⟩:∃u:Option (Int×Tok),g=partValue u/\u.map (·.1)=j:=by cases r with|none=>exact⟨none,rfl,rfl⟩|int i t=>exact⟨some (i,t),rfl,rfl⟩
 subst T hu;refine⟨"str",_,F.slot_str_getitem.lookup,typeIs_str _ _ _,jq I.tk<|wpAny_getItem_str_slice (l:=l) (u:=u) (st:=none) p rfl ?_⟩;exact post_val_or_str ⟨AL (Txt.slice_le z _ _) C,λt' k ht=>⟨.str _,H,I.tok _,⟨t',rfl⟩,q⟩⟩
theorem vQ{zs:Xb}:∀{us:W8},zn (zs.map V.str) us->StrsAre us zs:=by
 induction zs with
 |nil=>intro us r;rw[C7] at r;cases r;exact .nil
 |cons z zs I=>
  intro us r;rw[AO] at r;cases r with
  |cons J U=>
   obtain⟨t,e⟩:=J;subst e;exact .cons z t<|I U
def Rb(K:Ai):V->Xp->Hp->VK->Prop:=λx vs H Q=>∃z a zs,x=.str z/\vs=[.ref a]/\aY K H a ((zs:Xb).map V.str)/\(zs.map (·.length)).sum+zs.length*z.length<=16777216/\Q (.str<|Txt.join z zs) H
theorem Rc:nV X "str.join" (Rb X.K):=by intro J s σ H x vs v us Q I U g h;obtain⟨z,a,zs,rfl,rfl,j,l,q⟩:=h;obtain⟨t,rfl⟩:=U;obtain⟨u,rfl,o⟩:=g.one;cases o;obtain⟨C,r,p,_⟩:=I.list j;exact jq I.tk<|PyProof.Rows.join_list p.isList (by simpa using vQ r) l λT k ht=>⟨.str _,H,I.tok _,⟨T,rfl⟩,q⟩
end L2
namespace L3
open PySem L2
def Rf(x:Y)(lo hi:Xg)(L:ql)(Q:YK):Prop:=match x with
 |.str z=>z.length<=sizeLine/\Q (.str<|Txt.slice z lo hi) L
 |x=>ID x lo hi L Q
theorem vG(K:Ai)(P:Xl)(w:Xm)(U:X.K=K:=by rfl)(g:X.prog=P:=by rfl)(hw:X.w=w:=by rfl):si X (Fp ⟨K,P,w⟩ Rf):=by refine si.imp (an7.or<|QJ K P w U g hw) λx lo l H Q ψ=>?_;obtain⟨y,L,j,I,J,z,k⟩:=ψ;cases y with|str s=>exact .inl ⟨s,I,z.1,k _ H _ L (ED _) J (by rfl) z.2⟩|_=>exact .inr ⟨_,L,j,I,J,z,k⟩
def IZ(r:Y->List Y->ql->YK->Prop)(to:xo)(t:hG)(τ:jk)(L:ql)(Q:YK):Prop:=to τ L λx L1=>match x with
 |.str z=>t τ L1 λxs L2=>r (.str z) xs L2 Q
 |_=>False
theorem Rg{id:Xo}{r:Y->List Y->ql->YK->Prop}(h2:Slot "str" name id)(T:typeOf (.builtin id)=pure (.type "method_descriptor"))(hm:nV X id<|xT X.g3 r)(ho:QE X o to)(ha:QA X (e::es) tr)
 (I:yp X o e es name apos fx:=by exact⟨rfl,rfl,rfl,rfl,rfl⟩):
 QE X (.Call (.Attribute o name apos) (e::es) [] fx) (IZ r to tr):=EG (Ic PySem.F.plainAttrs_str h2 T hm ho ha I.h4 I.h5 I.h6 I.h7 I.h8) λσ H Q p L Q3 t rl z k=>
 ⟨p,L,_,t,rl,z,λv H1 y L1 C J U g=>by
  split at g
  ·rename_i s;cases U;exact⟨rfl,p,L1,_,t.ts C,J,g,λvs H2 ys L2 t2 j l z2=>⟨.str s,ys,L2,Q3,rfl,l,j,z2,k.ts<|C.trans t2⟩⟩
  ·exact g.elim⟩
theorem sk{G:G3}{H:Hp}:∀{zs:Xb} {xs:Xp},xx G H (zs.map Y.str) xs->xs=zs.map V.str
 |[],_,h=>h
 |z::r,_,ψ=>by obtain⟨x,I,e,q,s⟩:=ψ;rw[e,show x=V.str z from q,sk s];rfl
def Gj(x:Y)(vs:List Y)(L:ql)(Q:YK):Prop:=match x,vs with
 |.str z,[.ref a]=>cz L a λys=>∃zs,ys=zs.map Y.str/\(zs.map (·.length)).sum+zs.length*z.length<=16777216/\Q (.str<|Txt.join z zs) L
 |_,_=>False
theorem Rh :nV X "str.join" (xT X.g3 Gj):=nV.imq Rc λx p H Q y t L C U g I z k=>by
 unfold Gj at z;split at z
 ·rename_i s a;obtain⟨T,e,j,rfl,l,z⟩:=xc z;obtain⟨ws,J,r⟩:=I a _ e;obtain⟨u,rfl,o⟩:=g.inv1;cases o;rw[sk r] at J;exact⟨s,a,j,U,rfl,ET J,l,k _ H _ L (ED _) I (by rfl) z⟩
 ·exact z.elim
theorem Ri(I:QE X o to)(J:QA X (e::es) tr)(U:yp X o e es "join" apos fx:=by exact⟨rfl,rfl,rfl,rfl,rfl⟩):
 QE X (.Call (.Attribute o "join" apos) (e::es) [] fx) (IZ Gj to tr):=Rg PySem.F.slot_str_join PySem.F.type_str_join Rh I J U
theorem sR(zs:Xb):(Txt.join "" zs).cps.toList=zs.flatMap λz=>z.cps.toList:=by
 have e:∀zs:Xb,(Str.join "" zs).cps.toList=zs.flatMap λz=>z.cps.toList:=by
  intro zs
  induction zs with
  |nil=>rfl
  |cons z r I=>
   cases r with
   |nil=>simp[Str.join]
   |cons y r=>
    show(z ++ "" ++ Str.join "" (y::r)).cps.toList=_;have:(z ++ "" ++ Str.join "" (y::r)).cps=z.cps++#[]++(Str.join ""<|y::r).cps:=rfl;rw[this];simp only[Bf,I,AR,Array.append_empty]
 exact(BS (λx:Str=>x.cps.toList)<|StrLaws.glued_eq_join "" zs).trans (e zs)
inductive yU(t u:vn)(D:vo)(τ:jk)(L:ql):Prop
 |mk:∀J:jk->ql->Prop,t { D with nx:=J } τ L->(∀τ' L',J τ' L'->u D τ' L')->yU t u D τ L
theorem wr{rest:Xd}{t u:vn}(h:QS X st t)(k:sd X rest u):sd X (st::rest) (yU t u):=lU.imp (uI h k) λD σ H ψ=>by
 obtain⟨l,L,D3,o,p,⟨J,z,q⟩,k⟩:=ψ
 exact ⟨l,L,{ D3 with nx:=J },o,p,z,λr H1 I j C U g T=>⟨I,j,D3,U,g,q I j T,k.ts C⟩,k.rt,k.bk,k.ct⟩
theorem cL{a b:Addr}{o u:LO}(h:a≠b):qe (qe L a o) b u=qe (qe L b u) a o:=by
 funext c;by_cases I:c=a
 ·subst I;rw[qb h,q9,q9]
 ·by_cases J:c=b
  ·subst J;rw[q9,qb I,q9]
  ·rw[qb J,qb I,qb I,qb J]
section
variable {E3:X3}
end
section
variable {cp:Pos}
end
section
variable {a:Expr}{p pt:Pos}{vs:Xp}
end
def I9(_:vo)(_:jk)(_:ql):Prop:=False
theorem Rj :QS X st I9:=λ_ _ _ _ _ _ ψ=>(by obtain⟨_,_,_,_,_,z,_⟩:=ψ;exact z.elim)
open PySem L2 PySem.W
section
variable {K:Frag}{D:Addr}{t c:Xj}{b:Bool}
end
end L3
namespace L2
open PySem PySem.Spec PyProof.Rows
def kI(X:Cx)(ops:List CmpOp)(es:Xc)(t:V->TE):Prop:=∀(pos:Pos) (pins:List<|Addr×Obj) (s:Xk) (σ:St) (H:Hp) (x:V) (v:Xj) (Q:Bool->Hp->Prop),z8 X pins σ H s->zq x v->(t x σ H λz H'=>∃k,z=.bl k/\Q k H')->wpAny (model X.prog X.w) X.A (testChain pos v ops<|evalEach es X.env) (TP X pins σ Q) X.xe s
def Ja(r:R2)(tb:TE):V->TE:=λx σ H Q=>tb σ H λy H1=>r x y H1 Q
def Jb(r:R2)(tb:TE)(u:V->TE):V->TE:=λx σ H Q=>tb σ H λy H1=>r x y H1 λz H2=>∃k,z=.bl k/\(if k=true then u y σ H2 Q else Q (.bl false) H2)
section
variable {a b:Expr}{ta tb:TE}{op oe:CmpOp}{ops:List CmpOp}{r:R2}{u:V->TE}
theorem zF(g:wc X (compareOp op) r)(j:PE X b tb):kI X [op] [b] (Ja r tb):=by intro pos J s U H x v Q I l h;refine test_last<|aJ (j J s U H _ I h) λo p ⟨y,t,C,T,q1⟩=>aJ (g J p U t x y v o _ C l T q1) λd s2 ψ=>?_;obtain⟨z,H2,I2,r2,k,e,q2⟩:=ψ;subst e;cases r2;exact wpAny_truthy_bool ⟨H2,I2,q2⟩
theorem Rk(t:wc X (compareOp op) r)(C:PE X b tb)(T:kI X (oe::ops) (c::es) u):kI X (op::oe::ops) (b::c::es) (Jb r tb u):=by
 intro pos J s U H x v Q I rx h;refine test_link<|aJ (C J s U H _ I h) λg s1 ⟨y,H1,I1,j,q1⟩=>aJ (t J s1 U H1 x y v g _ I1 rx j q1) λd s2 ψ=>?_;obtain⟨z,l,o,r2,k,e,p⟩:=ψ;subst e;cases r2;refine wpAny_truthy_bool ?_;cases k with
 |false=>
  obtain⟨k',e',q'⟩:=p;cases e';exact ite_ff ⟨l,o,q'⟩
 |true=>exact ite_tt<|T pos J s2 U l y g Q o j p
theorem zR(U:PE X a ta)(h:kI X (op::oe::ops) (b::c::es) u)(g:lastMarks (op::oe::ops) (b::c::es)=false):PT X (.Compare a (op::oe::ops) (b::c::es) pos) (FZ λσ H Q=>ta σ H λx H1=>u x σ H1 Q):=by intro J s σ H Q I j;exact isTrue_chain (aJ (U J s σ H _ I j) λv l ψ=>(by obtain⟨x,H1,o,p,r⟩:=ψ;exact h pos J l σ H1 x v Q o p r)) g
end
end L2
namespace L3
open PySem L2
def Jc(ta:xo)(u:Y->xo)(τ:jk)(L:ql)(Q:YK):Prop:=ta τ L λx L1=>u x τ L1 Q
def Jd(r:qI)(tb:xo)(x:Y)(τ:jk)(L:ql)(Q:YK):Prop:=tb τ L λy L1=>r x y L1 Q
def Je(r:qI)(tb:xo)(u:Y->xo)(x:Y)(τ:jk)(L:ql)(Q:YK):Prop:=tb τ L λy L1=>r x y L1 λz L2=>match z with
 |.bl k=>aK k (u y τ L2 Q)<|Q (.bl false) L2
 |_=>False
def x_(G:G3)(u:Y->xo):V->TE:=λx σ H Q=>∃y τ L I,RV G H y x/\vg G H σ τ/\j7 G H L/\u y τ L I/\u6 G H I Q
theorem kI.imp{ops:List CmpOp}{t u:V->TE}(h:kI X ops es t)(q:∀x σ H Q,u x σ H Q->t x σ H Q):kI X ops es u:=λpos J s σ H x v Q I r z=>h pos J s σ H x v Q I r<|q _ _ _ _ z
theorem Rl{r:qI}(x:V)(σ:L2.St)(H:Hp)(Q:VK):x_ G (Jd r tb) x σ H Q->Ja (gm G r) (rL G tb) x σ H Q:=λ ψ=>by
 obtain⟨y,g,L,j,l,o,p,z,k⟩:=ψ
 exact ⟨g,L,_,o,p,z,λv H1 t C U I J T=>⟨y,t,C,j,l.ts U,J,I,T,k.ts U⟩⟩
theorem Rm{r:qI}{u:Y->xo}(x:V)(σ:L2.St)(H:Hp)(Q:VK):x_ G (Je r tb u) x σ H Q->Jb (gm G r) (rL G tb) (x_ G u) x σ H Q:=λ⟨y,j,L,l,rv,T,rl,z,k⟩=>
 ⟨j,L,_,T,rl,z,λv H1 o L1 U p I z1=>⟨y,o,L1,_,rv.ts U,I,p,z1,λv2 H2 y2 L2 g J t z2=>by
  cases y2 with
  |bl C=>
   refine⟨C,t,?_⟩;have z3:aK C (u o j L2 l) (l (.bl false) L2):=z2;cases C with|true=>rw[Aw rfl];exact⟨o,j,L2,l,I.ts g,T.ts<|U.trans g,J,z3,k.ts<|U.trans g⟩|false=>rw[Ar AH];exact k _ H2 _ L2 (U.trans g) J (by rfl) z3
  |_=>exact z2.elim⟩⟩
section
variable {a b:Expr}{op oe:CmpOp}{ops:List CmpOp}{r:qI}{u:Y->xo}
theorem pL(I:wc X (compareOp op)<|gm X.g3 r)(J:QE X b tb):kI X [op] [b] (x_ X.g3<|Jd r tb):=kI.imp (zF I J) Rl
theorem kC(I:wc X (compareOp op)<|gm X.g3 r)(J:QE X b tb)(U:kI X (oe::ops) (c::es)<|x_ X.g3 u):kI X (op::oe::ops) (b::c::es) (x_ X.g3<|Je r tb u):=kI.imp (Rk I J U) Rm
theorem Rn(σ:L2.St)(H:Hp)(Q:VK):rL G (Jc ta u) σ H Q->(λσ H Q=>rL G ta σ H λx H1=>x_ G u x σ H1 Q) σ H Q:=λ ψ=>by
 obtain⟨U,L,l,g,o,z,k⟩:=ψ
 exact ⟨U,L,_,g,o,z,λv H1 y p j I J r=>⟨y,U,p,l,J,g.ts j,I,r,k.ts j⟩⟩
theorem uQ(J:QE X a ta)(h:kI X (op::oe::ops) (b::c::es)<|x_ X.g3 u)(U:lastMarks (op::oe::ops) (b::c::es)=false:=by with_unfolding_all rfl):QT X (.Compare a (op::oe::ops) (b::c::es) pos) (yB<|Jc ta u):=
 PT.imp (zR J h U) λI H Q q=>Rn I H _<|Ge I H Q q
end
end L3
namespace L2
open PySem PySem.Spec PyProof.Rows
end L2
namespace L3
open PySem L2
def Fc:Y->Option zv
 |.int i=>some<|.inl i
 |.str x=>some<|.inr x
 |_=>none
theorem iL{k:zv}(h:Fc y=some k)(r:RV G H y v):v=kV k:=by cases y with|int i=>cases h;exact r|str x=>cases h;exact r|_=>cases h
def kD(kvs:List<|zv×Y)(k:zv)(y:Y):List (zv×Y):=
 if (kvs.any λI=>decide<|I.1=k)=true then kvs.map (λI=>if I.1=k then(I.1,y) else I) else kvs++[(k,y)]
theorem j9.dct{p:Addr}{zs:List<|zv×V}{o:HO}(h:H p=some (.dK zs)):j9 H (upd H p o):=λa u i q=>by rw[qu ?_];exact q;rintro rfl;rw[h] at q;cases q;cases i
theorem Ro{xs:List<|zv×V}(p:Paired (λ(p:zv×Y) (q:zv×V)=>p.1=q.1/\RV G H p.2 q.2) kvs xs)(k:zv):(kvs.any λI=>decide<|I.1=k)=xs.any λI=>decide (I.1=k):=by induction p with|nil=>rfl|cons r t J=>rw[Ck,Ck,J,r.1]
theorem Rp{xs:List<|zv×V}(p:Paired (λ(p:zv×Y) (q:zv×V)=>p.1=q.1/\RV G H p.2 q.2) kvs xs)(k:zv)(r:RV G H y v):
 Paired (λ(p:zv×Y) (q:zv×V)=>p.1=q.1/\RV G H p.2 q.2) (kvs.map λI=>if I.1=k then(I.1,y) else I) (xs.map λI=>if I.1=k then(I.1,v) else I):=by
 induction p with
 |nil=>exact .nil
 |@cons a b _ _ J t U=>
  refine .cons ?_ U;obtain⟨e,q⟩:=J;dsimp only;by_cases c:a.1=k
  ·rw[Aw c,Aw<|e▸c];exact⟨e,r⟩
  ·rw[Ar c,Ar λz=>c<|e.trans z];exact⟨e,q⟩
theorem Rq{xs:List<|zv×V}(p:Paired (λ(p:zv×Y) (q:zv×V)=>p.1=q.1/\RV G H p.2 q.2) kvs xs)(k:zv)(r:RV G H y v):
 Paired (λ(p:zv×Y) (q:zv×V)=>p.1=q.1/\RV G H p.2 q.2) (kvs++[(k,y)]) (xs++[(k,v)]):=by
 induction p with|nil=>exact .cons ⟨rfl,r⟩ .nil|cons I t J=>exact .cons I J
theorem Rr{xs:List<|zv×V}(p:Paired (λ(p:zv×Y) (q:zv×V)=>p.1=q.1/\RV G H p.2 q.2) kvs xs)(k:zv)(r:RV G H y v):
 Paired (λ(p:zv×Y) (q:zv×V)=>p.1=q.1/\RV G H p.2 q.2) (kD kvs k y) (eF xs k v):=by
 unfold kD eF;rw[Ro p k];by_cases c:(xs.any λI=>decide<|I.1=k)=true
 ·rw[Aw c,Aw c];exact Rp p k r
 ·rw[Ar c,Ar c];exact Rq p k r
theorem uA{R:α->β->Prop}{l:List α}{m:List β}(p:Paired R l m):l.length=m.length:=by induction p with|nil=>rfl|cons _ _ I=>rw[Az,Az,I]
def Gk(_:jk)(L:ql)(Q:YK):Prop:=∀p,L p=none->Q (.ref p) (qe L p<|.dct [])
def Rs(td ti:xo)(τ:jk)(L:ql)(Q:YK):Prop:=td τ L λx L1=>ti τ L1 λy L2=>match x,Fc y with
 |.ref a,some k=>mS L2 a λkvs=>c_ L2 Q<|v4 kvs k
 |_,_=>False
def qJ(td ti tv:xo)(D:vo)(τ:jk)(L:ql):Prop:=tv τ L λv L1=>td τ L1 λx L2=>ti τ L2 λy L3=>match x,Fc y with
 |.ref a,some k=>mS L3 a λkvs=>kvs.length<sizeLine/\D.nx τ (qe L3 a<|.dct<|kD kvs k v)
 |_,_=>False
section
variable {i:Expr}{td tv:xo}
theorem sC:QE X (.Dict [] [] pos) Gk:=EG OW λU H Q g L j l J z k=>λp I=>by
 refine k _ _ _ (qe L p<|.dct []) (EE I) (λa u e=>?_) (by rfl)<|z p<|J.none I;by_cases c:a=p
 ·subst c;rw[q9] at e;cases e;exact⟨[],zu,.nil⟩
 ·rw[qb c] at e;exact(J a u e).keep (EE I) (qu c)
theorem dW(hu:X.A.units+128<cLine)(t:QE X o td)(hi:QE X i ti)(hs:F2 i):QE X (.Subscript o i pos) (Rs td ti):=EG (OT (by omega) t hi hs) λσ H Q l L Q3 p C z k=>
 ⟨l,L,_,p,C,z,λv H1 x T r J U z1=>⟨l,T,_,p.ts r,J,z1,λw H2 y L2 t2 I g j=>by
  split at j
  ·rename_i a kk ek;obtain⟨a0,e,z3⟩:=cQ j;obtain⟨yv,ev,q⟩:=qZ z3;obtain⟨xs,e2,pr⟩:=I a _ e;obtain⟨xv,ex,rx⟩:=jV pr ev;exact⟨a,xv,U,.inl ⟨xs,kk,.inl e2,iL ek g,ex.symm⟩,k _ H2 _ L2 (r.trans t2) I rx q⟩
  ·exact j.elim⟩⟩
theorem gH(hu:X.A.units+128<cLine)(ho:QE X o td)(hi:QE X i ti)(hv:QE X value tv)(hs:swapsWith value (some<|.Subscript o i hQ) pos.line X.env=pure false:=by rfl):QS X (.Assign [.Subscript o i hQ] value pos) (qJ td ti tv):=
 EH (OU (by omega) ho hi hv hs) λD σ H l L D3 J rl z k=>
 ⟨l,L,_,J,rl,z,λv H1 vy L1 U p r z1=>⟨l,L1,_,J.ts U,p,z1,λx H2 xy L2 g t C z2=>⟨l,L2,_,J.ts<|U.trans g,t,z2,λw H3 y L3 T I a0 z3=>by
  split at z3
  ·rename_i a kk ek;obtain⟨a1,e,hl,q⟩:=cQ z3;obtain⟨xs,e2,pr⟩:=I a _ e;have j:j9 H3 (upd H3 a<|.dK<|eF xs kk v):=j9.dct e2;cases (show x=V.ref a from C);refine⟨a,_,rfl,.inl ⟨xs,kk,e2,iL ek a0,by rw[<-uA pr];exact hl,rfl⟩,?_⟩;refine k.nx _ _ _ _ (((U.trans g).trans T).trans j) (J.ts<|((U.trans g).trans T).trans j) (λb u eb=>?_) q;by_cases c:b=a
   ·subst c;rw[q9] at eb;cases eb;exact⟨_,zu,EF (Rr pr kk<|r.ts<|g.trans T) λ_ _ ψ=>(by obtain⟨h1,h2⟩:=ψ;exact ⟨h1,h2.ts j⟩)⟩
   ·rw[qb c] at eb;exact(I b u eb).keep j (qu c)
  ·exact z3.elim⟩⟩⟩
end
def Gm(to ti tv:xo)(D:vo)(τ:jk)(L:ql):Prop:=tv τ L λv L1=>to τ L1 λx L2=>ti τ L2 λy L3=>match x,y with
 |.ref a,.int i=>cz L3 a λys=>c_ L3 (λj L=>D.nx τ<|qe L a<|.lst<|ys.set j v)<|e_ ys.length i
 |_,_=>False
section
variable {i:Expr}{tv:xo}
theorem rY(ho:QE X o to)(hi:QE X i ti)(hv:QE X value tv)
 (ha:∀v,assign (.Subscript o i hQ) X.env v=(do
  let J <-holding [v] (eval o X.env)
  let p <-holding [v,J] (eval i X.env)
  standAt hQ
  holding [v,J,p] (setItem J p v)
  release [v,J,p] []):=by intro _;rfl)
 (h1:swapsWithSole [.Subscript o i hQ] value pos.line X.env=pure false:=by rfl) (h2:swappedStores [.Subscript o i hQ] value X.env=pure none:=by rfl)
 (h3:(assignEach [.Subscript o i hQ] X.env).map (·.2)=[assign (.Subscript o i hQ) X.env]:=by rfl):QS X (.Assign [.Subscript o i hQ] value pos) (Gm to ti tv):=
 EH (HQ hv (NN ho hi Pl ha) h1 h2 h3) λD σ H t L D3 U rl z k=>
 ⟨t,L,_,U,rl,z,λv H1 vy L1 g C T z1=>⟨t,L1,_,U.ts g,C,z1,λx H2 xy L2 l a0 a1 z2=>⟨t,L2,_,U.ts<|g.trans l,a0,z2,λw H3 y L3 t3 I a2 z3=>by
  split at z3
  ·rename_i a ii;obtain⟨ys,e,z4⟩:=xc z3;obtain⟨j,ej,q⟩:=qZ z4;obtain⟨xs,e2,r⟩:=I a _ e;cases (show x=V.ref a from a1);cases (show w=V.int ii from a2);have tt:j9 H3 (upd H3 a<|.lst<|xs.set j v):=EO e2;exact⟨a,xs,ii,j,rfl,rfl,e2,by rw[<-r.length];exact ej,k.nx _ _ _ _ (((g.trans l).trans t3).trans tt) (U.ts<|((g.trans l).trans t3).trans tt) (I.setL e2<|xx.setY (T.ts<|l.trans t3) j r) q⟩
  ·exact z3.elim⟩⟩⟩
end
end L3
namespace L2
open PySem PySem.Spec PyProof.Rows
section
variable {v₁ v₂:Expr}{te:TE}{u:Str->TE}
end
end L2
namespace L3
open PySem L2
section
variable {v₁ v₂:Expr}{u:Str->xo}
end
@[irreducible] def xW (L:ql) (a:Addr) (k:Addr->List (Str×Y)->Prop):Prop:=match L a with
 |some (.ins C fs)=>k C fs
 |_=>False
theorem zp{a:Addr}{fs:List<|Str×Y}{k:Addr->List (Str×Y)->Prop}(e:L a=some (.ins C fs))(h:k C fs):xW L a k:=by unfold xW;rw[e];exact h
theorem oH{a:Addr}{k:Addr->List (Str×Y)->Prop}(h:xW L a k):∃C fs,L a=some (.ins C fs)/\k C fs:=by
 unfold xW at h;split at h
 ·rename_i C fs e;exact⟨C,fs,e,h⟩
 ·exact h.elim
abbrev Fs(G:G3)(H:Hp):List (Str×Y)->List (Str×V)->Prop:=Paired λ(p:Str×Y) (q:Str×V)=>p.1=q.1/\RV G H p.2 q.2
theorem Rv{fs:List<|Str×Y}{xs:List<|Str×V}(p:Fs G H fs xs){f:Str}(h:fs.lookup f=some y):∃v,xs.lookup f=some v/\RV G H y v:=by
 induction p with
 |nil=>cases h
 |@cons a b _ _ r t J=>
  obtain⟨I,j⟩:=a;obtain⟨U,g⟩:=b;obtain⟨e,r⟩:=r;cases (show I=U from e);rw[AW] at h ⊢;cases c:(f==I) with
  |true=>rw[c] at h;cases h;exact⟨g,rfl,r⟩
  |false=>rw[c] at h;exact J h
theorem Rw{fs:List<|Str×Y}{xs:List<|Str×V}(p:Fs G H fs xs){f:Str}(h:fs.lookup f=none):xs.lookup f=none:=by
 induction p with
 |nil=>rfl
 |@cons a b _ _ r t J=>
  obtain⟨I,g⟩:=a;obtain⟨U,j⟩:=b;obtain⟨e,r⟩:=r;cases (show I=U from e);rw[AW] at h ⊢;cases c:(f==I) with
  |true=>rw[c] at h;cases h
  |false=>rw[c] at h;exact J h
def yX(f:Str)(y:Y):List (Str×Y)->List (Str×Y)
 |[]=>[(f,y)]
 |(g,x)::r=>if g=f then(g,y)::r else(g,x)::yX f y r
theorem Rx{fs:List<|Str×Y}{xs:List<|Str×V}(p:Fs G H fs xs)(f:Str)(r:RV G H y v):Fs G H (yX f y fs) (dP f v xs):=by
 induction p with
 |nil=>exact .cons ⟨rfl,r⟩ .nil
 |@cons a b _ _ J t U=>
  obtain⟨I,j⟩:=a;obtain⟨g,l⟩:=b;obtain⟨e,q⟩:=J;cases (show I=g from e);unfold yX dP;by_cases c:I=f
  ·rw[Aw c,Aw c];exact .cons ⟨rfl,r⟩ t
  ·rw[Ar c,Ar c];exact .cons ⟨rfl,q⟩ U
theorem j9.ins{p:Addr}{zs:List<|Str×V}{o:HO}(h:H p=some (.ins C dx zs)):j9 H (upd H p o):=λa u i q=>by rw[qu ?_];exact q;rintro rfl;rw[h] at q;cases q;cases i
def iZ(K:Ai)(f:Str)(te:xo)(τ:jk)(L:ql)(Q:YK):Prop:=te τ L λx L1=>match x with
 |.ref a=>xW L1 a λC fs=>Cls K C/\NoAttr K C f/\c_ L1 Q (fs.lookup f)
 |_=>False
def yY(K:Ai)(f:Str)(to tv:xo)(D:vo)(τ:jk)(L:ql):Prop:=tv τ L λv L1=>to τ L1 λx L2=>match x with
 |.ref a=>xW L2 a λC fs=>Cls K C/\NoAttr K C f/\fs.length<1000/\D.nx τ (qe L2 a<|.ins C<|yX f v fs)
 |_=>False
def uC(C:Addr)(sp:zd)(t:hG)(τ:jk)(L:ql)(Q:YK):Prop:=t τ L λys L1=>∀x,L1 x=none->sp (.ref x::ys) (qe L1 x<|.ins C []) λv L2=>v=.non/\Q (.ref x) L2
section
variable {tv:xo}{p:Pos}{f m:Str}{g:Addr}
theorem aV(h:QE X e te)(j:attributeBase e f X.env (eval e X.env)=eval e X.env:=by rfl):QE X (.Attribute e f pos) (iZ X.K f te):=EG (amp h j) λσ H Q l L Q3 o p z k=>
 ⟨l,L,_,o,p,z,λv r y t T I J U=>by
  split at U
  ·rename_i a;obtain⟨C,fs,e,c,n,z2⟩:=oH U;obtain⟨y,ey,q⟩:=qZ z2;obtain⟨dx,xs,e2,pr⟩:=I a _ e;obtain⟨w,ew,g⟩:=Rv pr ey;exact⟨a,C,dx,xs,w,J,e2,c,n,ew,k _ r _ t T I g q⟩
  ·exact U.elim⟩
theorem rK(ho:QE X o to)(hv:QE X value tv)(hs:swapsWith value (some<|.Attribute o f hQ) pos.line X.env=pure false:=by rfl):QS X (.Assign [.Attribute o f hQ] value pos) (yY X.K f to tv):=EH (Ox ho hv hs) λD σ H τ L D3 U rl z k=>
 ⟨τ,L,_,U,rl,z,λv H1 vy L1 g j l z1=>⟨τ,L1,_,U.ts g,j,z1,λw H2 y L2 p I r t=>by
  split at t
  ·rename_i a;obtain⟨C,fs,e,c,n,hl,q⟩:=oH t;obtain⟨T,xs,e2,pr⟩:=I a _ e;have J:j9 H2 (upd H2 a<|.ins C T<|dP f v xs):=j9.ins e2;refine⟨a,C,T,xs,r,e2,c,n,by rw[<-uA pr];exact hl,k.nx _ _ _ _ ((g.trans p).trans J) (U.ts<|(g.trans p).trans J) (λb u eb=>?_) q⟩;by_cases cc:b=a
   ·subst cc;rw[q9] at eb;cases eb;exact⟨T,_,zu,EF (Rx pr f<|l.ts p) λ_ _ ψ=>(by obtain⟨h1,h2⟩:=ψ;exact ⟨h1,h2.ts J⟩)⟩
   ·rw[qb cc] at eb;exact(I b u eb).keep J (qu cc)
  ·exact t.elim⟩⟩
theorem Ry{k:Nat}(M:Mk X.K C g)(F:Fn3 X.prog X.w X.K X.mg X.base k g fd ps sp)(hr:vz (k+1) X.A)(hg:Gl X x)(hm:X.mg x=some (.ref C))(hb:aO X.K fd ps [])(ha:QA X (e::es) tr)
 (l:Ez x:=by decide) (he:Ex e es X:=by rfl) (o:Ey pos es X:=by rfl):
 QE X (.Call (.Name x p) (e::es) [] pos) (uC C sp tr):=EG (OJ M F hr hg hm hb .nil F6 ha l he o) λσ H Q τ L Q3 rs rl z k=>
 ⟨τ,L,_,rs,rl,z,λvs U ys L1 t1 I r z1=>λx J hx j ne=>by
  have ta:j9 U (upd U J<|.own x):=EE j;have t:upd U J (.own x) x=none:=by rw[qu<|AQ ne];exact hx
  have T:j9 U (upd (upd U J<|.own x) x<|.ins C J []):=ta.trans<|EE t;refine⟨.ref x::ys,qe L1 x<|.ins C [],_,⟨.ref x,vs++[],by simp,rfl,by rw[Av];exact r.ts T⟩,λb u eb=>?_,z1 x<|I.none hx,λv H2 y L2 t2 a0 a1 ⟨ev,q⟩=>?_⟩
  ·by_cases cc:b=x
   ·subst cc;rw[q9] at eb;cases eb;exact⟨J,[],zu,.nil⟩
   ·rw[qb cc] at eb;have nd:b≠J:=λz=>by obtain⟨w,ew⟩:=(I b u eb).ex;rw[z,j] at ew;cases ew
    exact(I b u eb).keep T (by rw[qu cc,qu nd])
  ·subst ev;exact⟨a1,k _ H2 _ L2 (t1.trans<|T.trans t2) a0 (by rfl) q⟩⟩
end
open PySem.AutoSeq1 (wpAny_loadPart')
open MeetsSeq MeetsSeq2 MeetsSeq3 SeqRoads2
def Jf(x y:Y)(L:ql)(Q:YK):Prop:=oB L x λxs=>oB L y λys=>yR x=true/\yR y=true/\xs.length+ys.length<=sizeLine/\∀p,L p=none->Q (.ref p) (qe L p<|.lst<|xs++ys)
theorem Jg(K:Ai)(P:Xl)(w:Xm)(hK:X.K=K:=by rfl)(hP:X.prog=P:=by rfl)(hw:X.w=w:=by rfl):wc X (binaryOp .Add) (gm ⟨K,P,w⟩ Jf):=by
 subst hK hP hw;rintro a0 s σ H x y v u Q I rx ry ⟨x3,y3,L,Q3,r1,r2,r,z,k⟩;obtain⟨xs,ex,z⟩:=bV z;obtain⟨ys,ey,z⟩:=bV z;obtain⟨lx,ly,hz,q⟩:=z;obtain⟨a,ws,rfl,s1,g⟩:=kH r r1 lx ex;obtain⟨b,a2,rfl,s2,j⟩:=kH r r2 ly ey;cases rx;cases ry;obtain⟨J,vx,tx,_⟩:=I.list s1;obtain⟨U,vy,ty,_⟩:=I.list s2;obtain⟨⟨cls,dd,data,sl⟩,ho,hc,n,hd⟩:=id<|jz tx;obtain⟨⟨a1,t,data2,C⟩,l,o,n2,p⟩:=id<|jz ty;simp only at hc hd o p;subst hc hd o p;have l1:=vx.length;have l2:=vy.length;have l3:=g.length;have l4:=j.length;have T:J.toArray.size+U.toArray.size<=sizeLine:=by rw[Aq,Aq];lia
 refine concat_meets ⟨_,ho,rfl⟩ ⟨_,l,rfl⟩ noFill_list_add seq_list_add PySem.F.slot_list_add PySem.F.entry_list_add (PySem.F.args_list_add_2 _ _) (PyProof.Rows.list_addW a b J.toArray U.toArray n n2 dd t sl C T) ⟨ho,l,?_⟩;have e:J.toArray++U.toArray=(J++U).toArray:=by simp
 rw[e];exact⟨.ref _,_,I.lnew (t':=s.toks) (vx.append vy) (by rw[Aa];lia),rfl,k _ _ _ _ (EE I.fresh) (r.newL I.fresh<|g.app j) (by rfl)<|q _<|r.none I.fresh⟩
end L3
namespace Txs
open PySem PySem.Builtin.Str
theorem len_list(x:Str):x.cps.toList.length=x.length:=by simp[Str.length]
end Txs
namespace L2
open PySem PySem.Spec PyProof.Rows
section
variable {isp imk c j1 j2:Nat}{sp mk:Str}{u:Tok}{m:W5}{p6 p7 p8 p9 p10:Pos}{Q:Flow->Xk->Prop}
end
end L2
namespace L2
open PySem PySem.Spec PyProof.Rows
end L2
namespace L3
open PySem L2
def bq(s:Stmt):Xd:=match s with
 |.ClassDef _ _ _ b _ _ _ _ _ _ _=>b
 |_=>[]
structure rF(P:Xl)(w:Xm)(K:Ai)(mg:W5)(base:Xn)(k:Nat)(C:Addr)(m:Str)(ps:Xb)(sp:zd):Prop where
 ex:∃g fd,EK K C m g/\Fn3 P w K mg base k g fd ps sp/\aO K fd ps []
structure aaf(P:Xl)(w:Xm)(K:Ai)(mg:W5)(base:Xn)(k:Nat)(C:Addr)(ps:Xb)(sp:zd):Prop where
 ex:∃g fd,Mk K C g/\(∃j,k=j+1/\Fn3 P w K mg base j g fd ps sp)/\aO K fd ps []
theorem rF.mono{P:Xl}{w:Xm}{K:Ai}{k:Nat}{m:Str}(c:rF P w K mg base j C m ps sp)(h:j<=k):rF P w K mg base k C m ps sp:=by obtain⟨g,fd,M,F,b⟩:=c.ex;exact⟨g,fd,M,F.mono h,b⟩
theorem aaf.mono{P:Xl}{w:Xm}{K:Ai}{k:Nat}(c:aaf P w K mg base j C ps sp)(h:j<=k):aaf P w K mg base k C ps sp:=by obtain⟨g,fd,M,⟨i,e,F⟩,b⟩:=c.ex;subst e;exact⟨g,fd,M,⟨k-1,by omega,F.mono (by omega)⟩,b⟩
section
variable {p:Pos}{m:Str}{k:Nat}
theorem Gn(ci:aaf X.prog X.w X.K X.mg X.base k C ps sp)(U:vz k X.A)(l:Gl X x)(o:X.mg x=some (.ref C))(r:QA X (e::es) tr)
 (I:Ez x:=by decide) (t:Ex e es X:=by rfl) (J:Ey pos es X:=by rfl):
 QE X (.Call (.Name x p) (e::es) [] pos) (uC C sp tr):=by
 obtain⟨g,fd,M,⟨j,T,F⟩,b⟩:=ci.ex;subst T;exact Ry M F U l o b r I t J
end
structure kj(K:Ai)(C:Addr)(x eH:Str)(st:Stmt):Prop where
 ex:∃(f:Addr) (kV ir pm:Xj) (an:Option Addr) (fm ct:Xj),PySem.W.findIn K (.ref C) x=some (some<|.ref f)/\PySem.W.isFn K (.ref f)=true/\Fun K x eH st f (PySem.W.fnOf x eH (x4 st) (j6 st) (qt st) .none kV ir pm an fm ct)
theorem meth_in{K:Ai}{kV ct:Xj}(a:PySem.W.findIn K (.ref C) x=some (some<|.ref f))
 (l:K.lookup f=some ⟨oc,od,.func<|PySem.W.fnOf x eH (x4 st) (j6 st) (qt st) .none kV ir pm an fm ct,mD⟩) (c:PySem.W.codeIn K fm eH=true) (k:PySem.W.keepIn K (.ref f)=true) (i:PySem.W.isFn K (.ref f)=true):kj K C x eH st:=
 ⟨f,kV,ir,pm,an,fm,ct,a,i,Ie (st:=st) l c k⟩
theorem kj.use{K:Ai}(D:kj K C x eH st)
 (I:∀(kV ir pm:Xj) (an:Option Addr) (fm ct:Xj) (us:W8),us.length=ps.length->bindArgs (PySem.W.fnOf x eH (x4 st) (j6 st) (qt st) .none kV ir pm an fm ct) ⟨us,[]⟩=pure (ps.zip us)):
 ∃f fd,Fun K x eH st f fd/\aO K fd ps []/\EK K C x f:=by
 obtain⟨f,kV,ir,pm,an,fm,ct,a,i,F⟩:=D.ex;exact⟨f,_,F,aO.all<|I kV ir pm an fm ct,⟨a,i,F.kp⟩⟩
end L3
namespace L2
open PySem PySem.Spec PyProof.Rows
section
variable {te:TE}
end
end L2
namespace L3
open PySem L2
end L3
namespace L2
open PySem PySem.Spec PyProof.Rows
section
variable {a T:Addr}{tr:Option Addr}
end
section
variable {T:Xb}{g:TG}{tc:TT}{te:TE}
end
section
variable {a b T:Addr}{tr:Option Addr}{E1:X1}
end
section
variable {k:Nat}{sp:Sp}{E1:X1}{p:Pos}{t:TA}
end
end L2
namespace L3
open PySem L2
section
variable {T:Xb}{wi:w_}{E3:X3}{Ea:Addr->ql->Prop}
end
end L3
namespace L2
open PySem PySem.Spec PyProof.Rows
end L2
namespace L2
open PySem PySem.Spec PyProof.Rows
section
variable {prog:Xl}{w:Xm}
theorem uP{it t:Addr}{eK:W9}(I:t≠it):∀(n i:Nat) (s:Xk) (Q:W8->Xk->Prop),s.heap.IsListIter it t i->s.heap.IsList t eK->i+n<=eK.size->
 (∀h',h'.IsListIter it t (i+n)->Heap.SameBut it s.heap h'->Q ((eK.toList.drop i).take n) { s with heap:=h' })->wpAny (model prog w) A (draw (.ref it) n) Q E s
 |0,i,s,Q,hit,_,_,g=>by unfold draw;exact Ap (by simpa using g s.heap hit (Heap.SameBut.refl ..))
 |n+1,i,s,Q,hit,p,r,g=>by
  have J:i<eK.size:=by omega
  unfold draw;refine Ad<|wpAny_pyNext_list_item hit p (x:=eK[i]) (by simp[J]) λg1 j U=>?_;refine Ad<|Bl<|uP I n (i+1) _ _ j (p.extBut U.extBut I) (by lia) λg2 l o=>Ap ?_;have e:eK.toList.drop i=eK[i]::eK.toList.drop (i+1):=by simp[BY,J]
  have q:=g g2 (by rw[show i+(n+1)=i+1+n by simp +arith only];exact l)
   (U.trans o)
  rw[e,List.take_succ_cons] at q;exact q
theorem Rz{eK:W9}{Q:W4}(T:A.handled=none)(I:s.heap.IsList t eK)(hn:(assignEach mx env).length=eK.size)(j:(assignEach mx env).findIdx? (·.1)=none)
 (h:∀g,Heap.ExtBut s.heap.objs.size s.heap g->wpAny (model prog w) A (assignInOrder ((assignEach mx env).map (·.2)) eK.toList) Q E { s with heap:=g }):wpAny (model prog w) A (assign (.Tuple mx x1 pos) env<|.ref t) Q E s:=by
 have J:t≠s.heap.objs.size:=by obtain⟨o,ho,_⟩:=I;exact A6<|u1 ho
 rw[arm_assign_Tuple];refine Ad<|wpAny_standAt ?_;unfold unpack;rw[hn,j];refine Ad<|Bl ?_;unfold unpackItems notIterableAtAll;refine Ad<|Ad<|wpAny_specialOf I.typeIs slot_list_iter.lookup ?_;refine Ap ?_;rw[Ar (by simp)];refine Ad<|Bl<|wpAny_pyIter_list I ?_;refine Ad<|Bl<|uP J eK.size 0 _ _ ⟨_,vb _ rfl,rfl,rfl⟩ (I.push _) (by simp +arith only) λg1 l U=>?_;have all:List.take eK.size (List.drop 0 eK.toList)=eK.toList:=by rw[Em];exact Bb (by simp)
 rw[all,Ar (by simp)];have p:g1.IsList t eK:=(I.push _).extBut U.extBut J;refine Ad<|Bl<|wpAny_pyNext_list_end T l p (by simp) λg2 r=>?_;rw[Ar (by simp)];exact Ap<|h g2 λb o C e=>r b o C<|U.extBut b o C<|t7 _ e
end
def RA(K:Ai)(n:Nat)(t:d_):TG:=λv σ H Q=>∃a xs,v=.ref a/\aY K H a xs/\xs.length=n/\t xs σ H Q
theorem RB{k:Nat}{t:d_}(hc:X.calm=true)(h:PGs X es t)
 (l:(assignEach es X.env).length=n:=by rfl) (U:(assignEach es X.env).findIdx? (·.1)=none:=by rfl):PG X (.Tuple es k pos) (RA X.K n t):=by
 intro J s g H v u Q I r hw;obtain⟨a,p,C,T,hl,hw⟩:=hw;subst C;cases r;obtain⟨a0,j,pl,hz⟩:=I.list T;have ht:=jz pl;refine Rz (I.ok.hd hc) ht (by simp[l,<-hl,j.length]) U λh' hx=>?_;have I1:z8 X J g H { s with heap:=h' }:=I.kept (t':=s.toks) λb o e=>hx b o (A6<|u1 e) e;exact h J _ g H p _ Q I1 (by simpa using j) hw
theorem RC(l:Addr)(eK:W9)(n:Nat)(x:Xj)(b:Nat->Bool)(j:Nat)(t:j<eK.size)(hit:b j=true)(hz:eK.size<=sizeLine):∀(k i:Nat),j-i=k->i<=j->(∀m,i<=m->m<j->b m=false)->
 Meets (Builtin.«list.remove.loop» ⟨[.ref l,x,rawInt i],[]⟩) (λA R s=>s.heap.get? l=some { cls:=.type "list",dict:=none,data:=.seq eK n,slots:=#[] }/\(∀m (hm:m<eK.size),SeqAt.EqAt A.in1 s eK[m] x<|b m)/\R (.ok<|.ret .none) { s with heap:=s.heap.update l (Obj.mapSeq λxs=>xs.eraseIdxIfInBounds j) }):=by
 intro k
 induction k with
 |zero=>
  intro i C o I prog w A R s h;obtain⟨T,g,d,tk,os⟩:=s;obtain⟨J,eq,h⟩:=h;have e:i=j:=by lia
  subst e
  (wp_walk using wpAny_loadPart' J)
  have p:eK[((i:Nat):Int).toNat]?=some eK[i]:=by simp[t]
  rw[p];refine Ad<|eq i t prog w _ _ ?_;rw[hit];have r:(eK.eraseIdxIfInBounds i).size<=sizeLine+1:=AL (MeetsSeq.size_erased eK _)<|B0 hz
  (wp_walk using (wpAny_updateSeq J rfl (hz:=hz) (_hz':=r)),wpAny_loadPart' J)
  simpa using h
 |succ k ih=>
  intro i C o I prog w A R s h;obtain⟨T,g,d,tk,os⟩:=s;obtain⟨J,eq,h⟩:=h;have U:i<eK.size:=by exact pG
  (wp_walk using wpAny_loadPart' J)
  have p:eK[((i:Nat):Int).toNat]?=some eK[i]:=by simp[U]
  have hc:((i:Int)+1)=((i+1:Nat):Int):=by rfl
  rw[p];refine Ad<|eq i U prog w _ _ ?_;rw[I i (An _) (by omega)]
  wp_walk
  rw[hc];refine⟨plainId_quiet wh _,codeAny_builtin MeetsSeq.entry_remove_loop ?_⟩;rw[Around.under_plainId wh _];exact ih (i+1) (by omega) (by omega) (λm h1 h2=>I m (by exact jU) h2) prog w A R _ ⟨J,eq,h⟩
theorem RE(l:Addr)(eK:W9)(n:Nat)(x:Xj)(b:Nat->Bool)(j:Nat)(U:j<eK.size)(hit:b j=true)(hz:eK.size<=sizeLine)(I:∀m,m<j->b m=false):
 Meets (Builtin.«list.remove» ⟨[.ref l,x],[]⟩) (λA R s=>s.heap.get? l=some { cls:=.type "list",dict:=none,data:=.seq eK n,slots:=#[] }/\(∀m (p:m<eK.size),SeqAt.EqAt A.in1 s eK[m] x<|b m)/\R (.ok<|.ret .none) { s with heap:=s.heap.update l (Obj.mapSeq λxs=>xs.eraseIdxIfInBounds j) }):=by
 intro prog w A R s h;obtain⟨r,g,d,t,os⟩:=s;obtain⟨J,eq,h⟩:=h
 (wp_walk using wpAny_loadPart' J)
 refine⟨plainId_quiet wh _,codeAny_builtin MeetsSeq.entry_remove_loop ?_⟩;rw[Around.under_plainId wh _];exact RC l eK n x b j U hit hz _ 0 rfl (A2 _) (λm _ o=>I m o) prog w A R _ ⟨J,eq,h⟩
theorem zn.eraseN:∀{xs:Xp} {us:W8} (n:Nat),zn xs us->zn (xs.eraseIdx n) (us.eraseIdx n)
 |[],_,n,.nil=>by simp;exact .nil
 |_::_,_,0,.cons _ t=>t
 |_::_,_,n+1,.cons r t=>.cons r<|zn.eraseN n t
def RF(X:Cx):V->Xp->Hp->VK->Prop:=λx vs H Q=>∃l xs y ds e,∃n m j:Nat,x=.ref l/\vs=[y]/\H l=some (.lst xs)/\n<=126/\Paired (aS X.K H n) xs ds/\aS X.K H m y e/\j<ds.length/\(∃d,ds[j]?=some d/\Da.eq d e=true)/\
 (∀(k:Nat) d,k<j->ds[k]?=some d->Da.eq d e=false)/\Q .non (upd H l<|.lst<|xs.eraseIdx j)
theorem RG(hu:X.A.units+128<cLine):nV X "list.remove" (RF X):=by
 intro a4 s σ H x vs v us Q I rx rv h;obtain⟨l,o,y,g,e,n,m,j,rfl,rfl,hH,hn,pd,ry,hj,⟨dj,t,C⟩,T,q⟩:=h;cases rx;obtain⟨u,rfl,ru⟩:=rv.one;obtain⟨z,J,nn,r,hl,eo⟩:=I.lstM hH;have l1:o.length=g.length:=pd.length;have l2:J.length=o.length:=r.length.symm;obtain⟨arr,U⟩:∃arr:W9,arr=J.toArray:=⟨_,rfl⟩;have a0:arr.size=J.length:=by rw[U,Aq]
 have b:Nat->Bool:=λ_=>true;have a1:arr.size<=sizeLine:=by rw[a0];lia
 have M:=RE l arr nn u (λk=>((g[k]?).map λd=>Da.eq d e).getD false) j (by lia) (by show((g[j]?).map λd=>Da.eq d e).getD false=true;rw[t];exact C) a1 (λk p=>by show((g[k]?).map λd=>Da.eq d e).getD false=false;cases ek:g[k]? with|none=>rfl|some d=>exact T k d p ek)
 rw[U] at M;refine call_meets F.slot_list_remove ⟨_,eo,rfl⟩ F.entry_list_remove (F.args_list_remove_2 _ _) M ⟨eo,λk p=>?_,?_⟩
 ·have a5:k<J.length:=by rw[Aq] at p;exact p
  obtain⟨d,ed,rd⟩:=Words.Paired.getP pd<|Ao (by lia:k<o.length);show SeqAt.EqAt _ s _ u (((g[k]?).map λd=>Da.eq d e).getD false);rw[ed];obtain⟨u',a2,a3⟩:=Words.Paired.getP r<|Ao (by lia:k<o.length);have eg:J.toArray[k]=u':=by have:=(A1.mp a2).2;simpa using this
  rw[eg];exact wZ I n (by show X.A.units+1+n<cLine;lia) rd ry a3 ru
 ·refine⟨.non,_,I.lset (its':=J.eraseIdx j) hH eo ?_ (r.eraseN j) ?_,rfl,q⟩
  ·have:j<J.length:=by lia
   simp[Array.eraseIdxIfInBounds,this]
  ·have:=C3 o j;exact F7
end L2
namespace L3
open PySem L2
def Jh(n:Nat)(t:tN)(y:Y)(τ:jk)(L:ql)(Q:jk->ql->Prop):Prop:=match y with
 |.ref a=>cz L a λys=>match ys.length==n with
  |true=>t ys τ L Q
  |false=>False
 |_=>False
theorem RH{U:Nat}(hc:X.calm=true)(h:Fb X es gs)(h1:(assignEach es X.env).length=n:=by rfl)(h2:(assignEach es X.env).findIdx? (·.1)=none:=by rfl):QG X (.Tuple es U pos) (Jh n gs):=
 PG.imp (RB hc h h1 h2) λv σ H Q ψ=>by
 obtain⟨y,g,L,j,l,o,J,z,k⟩:=ψ
 cases y with
 |ref a=>
  cases (show v=.ref a from l);obtain⟨p,e,I⟩:=xc z;obtain⟨t,C,r⟩:=J a _ e;split at I
  ·rename_i T;exact⟨a,t,rfl,ET C,by rw[<-r.length];exact beq_iff_eq.mp T,p,g,L,j,r,o,J,I,k⟩
  ·exact I.elim
 |_=>exact z.elim
def lz(x:Y)(vs:List Y)(L:ql)(Q:YK):Prop:=match x,vs with
 |.ref a,[v]=>cz L a λys=>∃ds e,∃n m j:Nat,n<=126/\Paired (jw L n) ys ds/\jw L m v e/\j<ds.length/\(∃d,ds[j]?=some d/\Da.eq d e=true)/\(∀(k:Nat) d,k<j->ds[k]?=some d->Da.eq d e=false)/\Q .non (qe L a<|.lst<|ys.eraseIdx j)
 |_,_=>False
theorem RI(C:X.A.units+128<cLine):nV X "list.remove" (xT X.g3 lz):=nV.imq (RG C) λx I H Q y U L Q3 T r2 g z k=>by
 unfold lz at z;split at z
 ·rename_i a v;obtain⟨zs,e,J,de,n,m,j,hn,pd,dv,hj,hit,l,z⟩:=xc z;obtain⟨us,o,r⟩:=g a _ e;obtain⟨v',rfl,rv⟩:=r2.inv1;have both:∀{U:List Y} {J:List Da} {I:Xp},Paired (jw L n) U J->xx X.g3 H U I->Paired (aS X.K H n) I J:=by
   intro U J I p
   induction p generalizing I with
   |nil=>intro q;cases (show I=[] from q);exact .nil
   |cons h t ih=>
    rintro⟨x,a0,rfl,q1,q2⟩;exact .cons (jw.rep g h q1)<|ih q2
  exact⟨a,us,v',J,de,n,m,j,T,rfl,o,hn,both pd r,jw.rep g dv rv,hj,hit,l,k _ _ _ _ (EO o) (g.setL o<|r.eraseIdx j) (by rfl) z⟩
 ·exact z.elim
theorem RJ(I:X.A.units+128<cLine)(J:QE X o to)(U:QA X (e::es) tr)(g:yp X o e es "remove" apos fx:=by exact⟨rfl,rfl,rfl,rfl,rfl⟩):
 QE X (.Call (.Attribute o "remove" apos) (e::es) [] fx) (rE lz to tr):=rR PySem.F.slot_list_remove PySem.F.type_list_remove (RI I) J U g
end L3
namespace L2
open PySem PySem.Spec PyProof.Rows
end L2
namespace L3
open PySem L2
theorem RK{xs:List<|zv×V}{k:zv}(p:Paired (λ(p:zv×Y) (q:zv×V)=>p.1=q.1/\RV G H p.2 q.2) kvs xs)(h:v4 kvs k=none):ae xs k=none:=by
 induction p with
 |nil=>rfl
 |@cons a b _ _ r t I=>
  obtain⟨e,_⟩:=r;unfold v4 at h;rw[Bz] at h;by_cases c:a.1=k
  ·rw[Ax c] at h;cases h
  ·rw[AB c] at h;rw[iK λz=>c<|e.trans z];exact I h
end L3
namespace L2
open PySem PySem.Spec PyProof.Rows
def RL(td ty:TE):TE:=λσ H Q=>td σ H λx H1=>∃a,x=.ref a/\Ia H1 a/\ty σ H1 λy H2=>∃kvs k,H2 a=some (.dK kvs)/\y=kV k/\Q ((ae kvs k).getD .non) H2
theorem RM(ho:PE X o td)(he:PE X e ty)(m:M1 X o "get" apos e fx):PE X (.Call (.Attribute o "get" apos) [e] [] fx) (RL td ty):=by
 intro J s p H Q I h;refine wpAny_Call_method m.base m.few m.line PySem.F.plainAttrs_dict PySem.F.slot_dict_get PySem.F.type_dict_get<|aJ (ho J s p H _ I h) λu s1 ψ=>?_;obtain⟨x,H1,r,rx,a,ex,d,q1⟩:=ψ;subst ex;obtain rfl:u=Value.ref a:=rx;obtain⟨t1,t2,_⟩:=O0 r d;refine⟨t1,t2,?_⟩;rw[m.trees];refine Calls.callWith_builtin rfl<|Calls.evalArgs_plain<|xb<|aJ (he J s1 p H1 _ r q1) λiv s2 ⟨y,t,j,ry,l,k,e3,ey,U⟩=>xB ?_;subst ey;obtain⟨zl,hd,C,rel,T⟩:=F1 j.hok e3;refine call_meetsIn PySem.F.slot_dict_get T.typeIs PySem.F.entry_dict_get (PySem.F.args_dict_get_2 _ _) (meets_dict_get (xq X.prog X.w) a (hW ry) hd) ⟨_,T.mapOf,?_⟩;have:=rel.val k;cases ev:ae l k with
 |none=>
  rw[ev] at this;cases g:valueAt C k with|none=>rw[ev] at U;exact⟨.non,t,j.tok _,rfl,U⟩|some v=>rw[g] at this;exact this.elim
 |some v'=>
  rw[ev] at this;cases g:valueAt C k with|none=>rw[g] at this;exact this.elim|some v=>rw[g] at this;rw[ev] at U;exact⟨v',t,j.tok _,this,U⟩
end L2
namespace L3
open PySem L2
def Ji(td ti:xo)(τ:jk)(L:ql)(Q:YK):Prop:=td τ L λx L1=>match x with
 |.ref a=>mS L1 a λ_=>ti τ L1 λy L2=>match Fc y with
  |some k=>mS L2 a λkvs=>Q ((v4 kvs k).getD .non) L2
  |none=>False
 |_=>False
theorem RN{td:xo}(ho:QE X o td)(hi:QE X e ti)(m:M1 X o "get" apos e fx:=by exact⟨rfl,rfl,rfl,rfl⟩):QE X (.Call (.Attribute o "get" apos) [e] [] fx) (Ji td ti):=EG (RM ho hi m) λσ H Q τ L Q3 rs rl z k=>
 ⟨τ,L,_,rs,rl,z,λv H1 x L1 j J l U=>by
  split at U
  ·rename_i a;obtain⟨a0,e0,U⟩:=cQ U;obtain⟨p,r,_⟩:=J a _ e0;refine⟨a,l,.inl ⟨p,.inl r⟩,τ,L1,_,rs.ts j,J,U,λw H2 y L2 t2 I t C=>?_⟩;split at C
   ·rename_i kk ek;obtain⟨T,e,g⟩:=cQ C;obtain⟨xs,e2,pr⟩:=I a _ e;refine⟨xs,kk,e2,iL ek t,?_⟩;cases ev:v4 T kk with
    |none=>rw[RK pr ev];rw[ev] at g;exact k _ H2 .non L2 (j.trans t2) I rfl g
    |some yv=>
     obtain⟨xv,ex,rx⟩:=jV pr ev;rw[ex];rw[ev] at g;exact k _ H2 _ L2 (j.trans t2) I rx g
   ·exact C.elim
  ·exact U.elim⟩
end L3
namespace L2
open PySem PySem.Spec PyProof.Rows
def RP:Xp->Hp->VK->Prop:=λxs H Q=>∃n:Int,xs=[.int n]/\∀p,H p=none->Q (.ref p) (upd H p<|.rng 0 n)
theorem RQ:jg X (.type "range") RP:=by intro J s g H j l Q I r h;obtain⟨n,rfl,q⟩:=h;obtain⟨u,rfl,U⟩:=r.one;obtain⟨t,rfl⟩:=(show ∃t,u=Value.int n t from U);refine call_range_1 ?_;refine⟨.ref s.heap.objs.size,_,I.laid (t':=s.toks+1+1) (o:=.rng 0 n) (λb p q=>t7 _ q) (An _) ?_,rfl,q _<|I.hok.fresh<|An _⟩;exact⟨s.toks,t,s.toks+1,vb _ rfl⟩
theorem wX{I:W9}(h:ItemsOf (λi v=>∃t,v=.int (0+(i:Int)*1) t) I n):zn ((List.range n).map λi:Nat=>V.int<|0+(i:Int)) I.toList:=by
 have len:I.toList.length=n:=by rw[A7];exact h.1
 have key:∀(l:W8) (k:Nat),(∀(j:Nat) v,l[j]?=some v->∃t,v=Value.int (0+((k+j:Nat):Int)*1) t)->zn ((List.range' k l.length).map λi:Nat=>V.int<|0+(i:Int)) l:=by
  intro l
  induction l with
  |nil=>intro k _;exact .nil
  |cons v r g=>
   intro k U;rw[Az,DO,AO];obtain⟨t,e⟩:=U 0 v rfl;refine .cons ?_<|g (k+1) λj o J=>?_
   ·exact⟨t,by rw[e];simp⟩
   ·have:=U (j+1) o J;rw[show k+1+j=k+(j+1) by simp +arith only];exact this
 have:=key I.toList 0 λj v J=>by rw[CP];exact h.2 j v (by simpa using J)
 rw[len,<-List.range_eq_range'] at this;exact this
def RS:Xp->Hp->VK->Prop:=λxs H Q=>∃a,∃n:Nat,xs=[.ref a]/\H a=some (.rng 0 n)/\n<=100000/\∀p,H p=none->Q (.ref p) (upd H p<|.lst ((List.range n).map λi:Nat=>V.int<|0+(i:Int)))
theorem RT(hc:X.calm=true):jg X (.type "list") RS:=by
 intro g s σ H xs us Q I r h;obtain⟨a,n,rfl,j,l,q⟩:=h;obtain⟨u,rfl,p⟩:=r.one;cases (show u=Value.ref a from p);obtain⟨t,u,v,e⟩:=I.hok a _ j;have hb:(100000:Nat)<=sizeLine:=by decide
 have C:Builtin.Range.rangeSize 0 (n:Int) 1=((n:Nat):Int):=by rw[rangeSize_one];split<;>lia
 refine jq I.tk<|call_list_range (I.ok.hd hc) (show IsRange s.heap a 0 (n:Int) 1 t u v from e) (small_one (by decide) (by decide) (by exact A8 _) (by omega)) C (AL l (by decide)) λh' T U c hk hS J ht=>?_;refine⟨.ref s.heap.objs.size,_,I.laid (t':=T) (o:=.lst ((List.range n).map λi:Nat=>V.int<|0+(i:Int))) hk (An _) ?_,rfl,q _<|I.hok.fresh<|An _⟩;refine⟨by rw[Ah,Ba];exact F7,U.toList,c,wX J,?_⟩;rw[hS]
end L2
namespace L3
open PySem L2
theorem RU:bootBuiltins "range"=some (.type "range"):=by decide +kernel
def nO(te:xo)(τ:jk)(L:ql)(Q:YK):Prop:=te τ L λy L1=>match y with
 |.int n=>(0<=n/\n<=100000)/\∀p,L1 p=none->Q (.ref p) (qe L1 p<|.lst<|aN 0 n.toNat)
 |_=>False
theorem RW(n:Nat):xx G H (aN 0 n) ((List.range n).map λi:Nat=>V.int<|0+(i:Int)):=by
 unfold aN;generalize List.range n=l
 induction l with|nil=>rfl|cons k r I=>exact⟨_,_,rfl,rfl,I⟩
theorem mV{p I:Pos}(hc:X.calm=true)(T:Gl X "list")(hm:X.mg "list"=none)(j:Gl X "range")(l:X.mg "range"=none)(h:QE X e te)
 (h1:starEach [.Call (.Name "range" p2) [e] [] I] X.env=(false,eval (.Call (.Name "range" p2) [e] [] I) X.env)::starEach [] X.env:=by rfl) (h2:(backTo pos<|starEach [] X.env).any (·.1)=false:=by rfl)
 (C:starEach [e] X.env=(false,eval e X.env)::starEach [] X.env:=by rfl) (h4:(backTo I<|starEach [] X.env).any (·.1)=false:=by rfl):
 QE X (.Call (.Name "list" p) [.Call (.Name "range" p2) [e] [] I] [] pos) (nO te):=
 EG (jG (RT hc) T hm bZ (fe (jG RQ j l RU (fe h oZ C) (by decide) (by decide) C h4) oZ h1) (by decide) (by decide) h1 h2) λσ H Q τ L Q3 rs rl z k=>
 ⟨τ,L,_,rs,rl,z,λv H1 y L1 t1 J o U=>by
  cases y with
  |int n=>
   obtain⟨⟨h0,h5⟩,U⟩:=U;cases (show v=V.int n from o);obtain⟨m,rfl⟩:∃m:Nat,n=(m:Int):=⟨n.toNat,by lia⟩;refine⟨_,rfl,λq r=>⟨q,m,rfl,zu,by lia,λp g=>?_⟩⟩;have t:H1 p=none:=by
    by_cases c:p=q
    ·subst c;exact r
    ·rw[qu c] at g;exact g
   exact k _ _ _ _ (t1.trans<|(EE r).trans<|EE g) ((J.skip r).newL g<|RW m) (by rfl) (U p<|J.none t)
  |_=>exact U.elim⟩
def ww(C:Addr)(m:Str)(sp:zd)(to:xo)(t:hG)(τ:jk)(L:ql)(Q:YK):Prop:=to τ L λx L1=>match x with
 |.ref a=>xW L1 a λI fs=>I=C/\fs.lookup m=none/\t τ L1 λys L2=>sp (.ref a::ys) L2 Q
 |_=>False
section
variable {m:Str}{g:Addr}
theorem RX{pl:Sem Bool}{k:Nat}(ho:QE X o to)(c:Cls X.K C)(hm:EK X.K C m g)(F:Fn3 X.prog X.w X.K X.mg X.base k g fd ps sp)(hr:vz k X.A)(hb:aO X.K fd ps [])(ha:QA X (e::es) tr)
 (J:Ex e es X:=by rfl) (U:Ey pos es X:=by rfl)
 (ht:eval (.Call (.Attribute o m apos) (e::es) [] pos) X.env=(do
  let t <-eval o X.env
  standAt apos.atName
  let (f,first) <-holding [t] (getMethod t m pl)
  callWith pos f first (backTo pos<|starEach (e::es) X.env) (backToKw pos<|keywordEach [] X.env)):=by rfl):
 QE X (.Call (.Attribute o m apos) (e::es) [] pos) (ww C m sp to tr):=EM (OH (pl:=pl) ho c hm F hr hb .nil F6 ha J U ht) λσ H Q ⟨T,L,Q3,rs,rl,z,k⟩=>
 ⟨T,L,_,rs,rl,z,λv H1 y L1 t1 I j l=>by
  split at l
  ·rename_i a;obtain⟨C',fs,e,ec,n,q⟩:=oH l;subst ec;obtain⟨dx,xs,e2,pr⟩:=I a _ e;cases (show v=V.ref a from j);exact⟨a,dx,xs,rfl,e2,Rw pr n,T,L1,_,rs.ts t1,I,q,λvs H2 ys L2 t2 p r z2=>⟨.ref a::ys,L2,Q3,⟨.ref a,vs++[],rfl,rfl,by rw[Av];exact r⟩,p,z2,k.ts<|t1.trans t2⟩⟩
  ·exact l.elim⟩
theorem fU{pl:Sem Bool}{k:Nat}(j:rF X.prog X.w X.K X.mg X.base k C m ps sp)(l:vz k X.A)(c:Cls X.K C)(p:QE X o to)(r:QA X (e::es) tr)
 (I:Ex e es X:=by rfl) (J:Ey pos es X:=by rfl)
 (t:eval (.Call (.Attribute o m apos) (e::es) [] pos) X.env=(do
  let U <-eval o X.env
  standAt apos.atName
  let (f,first) <-holding [U] (getMethod U m pl)
  callWith pos f first (backTo pos<|starEach (e::es) X.env) (backToKw pos<|keywordEach [] X.env)):=by rfl):
 QE X (.Call (.Attribute o m apos) (e::es) [] pos) (ww C m sp to tr):=by
 obtain⟨g,fd,M,F,b⟩:=j.ex;exact RX (pl:=pl) p c M F l b r I J t
end
end L3
namespace TS
open PySem PyProof.Rows
abbrev XB:=Keyed->Int
abbrev XA:=Array Keyed
abbrev Xz:=List Keyed
def RY:Bool->Keyed->XA->Nat->Nat->Nat->StateT SortSt Sem (Option Nat):=sortPriv% PySem.Builtin.gallop
section
variable {prog:Xl}{w:Xm}
structure yS(prog:Xl)(w:Xm)(A:Around)(s:Xk)(κ:SortKind)(Ok:Keyed->Prop)(f:XB):Prop where
 lt:∀x y,Ok x->Ok y->∀{E:W3} {Q:Bool->Xk->Prop},Q (decide<|f x<f y) s->wpAny (model prog w) A (keyLt' κ x.1 y.1) Q E s
variable {κ:SortKind}{Ok:Keyed->Prop}{f:XB}
theorem w_lt(O:yS prog w A s κ Ok f){st:SortSt}{x y:Keyed}{Q:Option Bool->SortSt->Prop}(I:kindOf st=κ)(J:Ok x)(U:Ok y)(h:Q (some<|decide<|f x<f y) st):wpS (model prog w) A E s (lt' x y) Q st:=by rw[lt'_eq];refine Ab<|wpS_get ?_;rw[I];refine Ab<|wpS_lift<|wpAny_attempt<|O.lt x y J U ⟨rfl,?_⟩;exact Af h
theorem xh{arr:XA}{x:Keyed}{st:SortSt}{Q:Keyed->SortSt->Prop}(h:arr[i]?=some x)(q:Q x st):wpS (model prog w) A E s (elem' arr i) Q st:=by rw[elem'_eq,h];exact Af q
def Jj(left:Bool)(key:Keyed)(arr:XA)(i:Nat):StateT SortSt Sem (Option Bool):=elem' arr i >>= λx=>if left=true then lt' x key else lt' key x >>= λr=>pure<|r.map λb=>!b
theorem RZ(O:yS prog w A s κ Ok f){left:Bool}{key x:Keyed}{arr:XA}{st:SortSt}{Q:Option Bool->SortSt->Prop}(J:kindOf st=κ)(I:Ok key)(U:Ok x)(hi:arr[i]?=some x)
 (q:Q (some<|if left=true then decide (f x<f key) else !decide (f key<f x)) st):wpS (model prog w) A E s (Jj left key arr i) Q st:=by
 refine Ab<|xh hi ?_;cases left with|true=>exact w_lt O J U I q|false=>exact Ab<|w_lt O J I U<|Af q
theorem cW(O:yS prog w A s κ Ok f){left:Bool}{key:Keyed}{arr:XA}{base hint:Nat}{st:SortSt}{Q:Option Nat->SortSt->Prop}(hk:kindOf st=κ)(a2:Ok key)(hh:hint<n)
 (it:Nat->Keyed) (hit:∀i,i<n->arr[base+i]?=some (it i)/\Ok (it i)) (o:Nat->Bool) (a3:∀i,i<n->o i=if left=true then decide (f (it i)<f key) else !decide (f key<f (it i)))
 (mono:∀i j,i<=j->j<n->o j=true->o i=true)
 (q:∀k,k<=n->(∀i,i<k->o i=true)->(∀i,k<=i->i<n->o i=false)->Q (some k) st):wpS (model prog w) A E s (RY left key arr base n hint) Q st:=by
 have go:∀i,i<n->∀Q':Option Bool->SortSt->Prop,Q' (some<|o i) st->wpS (model prog w) A E s (Jj left key arr<|base+i) Q' st:=λi U Q' h=>RZ O hk a2 (hit i U).2 (hit i U).1 (by rw[<-a3 i U];exact h);refine Ab<|go hint hh _ ?_;dsimp only;cases hb:o hint with
 |true=>
  rw[Aw rfl];refine Ab (AX (AM (I:=λx c g=>g=st/\∃l J,c=(none,l,J)/\l<J/\l<n-hint/\o (hint+l)=true/\x+1<=J)
   (Q:=λc g=>g=st/\∃l J,c=(none,l,J)/\l<J/\l<n-hint/\o (hint+l)=true/\(n-hint<=J\/o (hint+J)=false)) ?_ ?_ ⟨rfl,0,1,rfl,by exact Br _,by omega,hb,by exact Br _⟩) ?_)
  ·rintro x c g _ hx ⟨rfl,l,J,rfl,h1,h2,r,t⟩;dsimp only;by_cases c:J>=n-hint
   ·rw[Aw c];exact Af ⟨rfl,l,J,rfl,h1,h2,r,.inl c⟩
   ·rw[Ar c];refine Ab<|go (hint+J) (by lia) _ ?_;dsimp only;cases C:o (hint+J) with
    |true=>
     rw[Ar (by simp)];exact Af ⟨rfl,J,2*J+1,rfl,by simp +arith only,by exact Ij,C,by lia⟩
    |false=>
     rw[Aw (by simp)];exact Af ⟨rfl,l,J,rfl,h1,h2,r,.inr C⟩
  ·rintro c g ⟨rfl,l,J,rfl,h1,h2,r,t⟩;exact⟨rfl,l,J,rfl,h1,h2,r,.inl (by lia)⟩
  ·rintro c g ⟨rfl,l,J,rfl,h1,h2,r,t⟩;dsimp only;obtain⟨lo,a0⟩:∃lo,lo=hint+l+1:=⟨_,rfl⟩;obtain⟨U,a1⟩:∃U,U=hint+min J (n-hint):=⟨_,rfl⟩;rw[<-a0,<-a1];have g1:lo<=U:=by omega
   have g2:U<=n:=by lia
   have g3:∀i,i<lo->o i=true:=λi U=>mono i (hint+l) (by lia) (by lia) r;have g4:∀i,U<=i->i<n->o i=false:=λi h5 h6=>by
    rcases t with t|t
    ·omega
    ·cases e:o i with
     |false=>rfl
     |true=>
      by_cases c:J<n-hint
      ·rw[mono (hint+J) i (by omega) h6 e] at t;cases t
      ·omega
   refine Ab (AX (AM (I:=λx c sx=>sx=g/\∃lo U,c=(none,lo,U)/\lo<=U/\U<=n/\(∀i,i<lo->o i=true)/\(∀i,U<=i->i<n->o i=false)/\U-lo+x<=n)
    (Q:=λc sx=>sx=g/\∃U,c=(none,U,U)/\U<=n/\(∀i,i<U->o i=true)/\(∀i,U<=i->i<n->o i=false)) ?_ ?_ ⟨rfl,lo,U,rfl,g1,g2,g3,g4,by exact Il⟩) ?_)
   ·rintro x c p _ hx ⟨rfl,lo,U,rfl,k1,T,k3,k4,k5⟩;dsimp only;by_cases c:lo>=U
    ·rw[Aw c];have:lo=U:=by lia
     subst this;exact Af ⟨rfl,lo,rfl,T,k3,k4⟩
    ·rw[Ar c];refine Ab<|go (lo+(U-lo) / 2) (by lia) _ ?_;dsimp only;cases C:o (lo+(U-lo) / 2) with
     |true=>
      rw[Aw rfl];exact Af ⟨rfl,lo+(U-lo) / 2+1,U,rfl,by lia,T,λi h5=>mono i _ (by exact Ik) (by lia) C,k4,by lia⟩
     |false=>
      rw[Ar (by simp)];refine Af ⟨rfl,lo,lo+(U-lo) / 2,rfl,by exact Bg _ _,by lia,k3,λi h5 h6=>?_,by omega⟩;cases e:o i with|false=>rfl|true=>rw[mono _ i h5 h6 e] at C;cases C
   ·rintro c p ⟨rfl,lo,U,rfl,k1,T,k3,k4,k5⟩;have:lo=U:=by lia
    subst this;exact⟨rfl,lo,rfl,T,k3,k4⟩
   ·rintro c p ⟨rfl,U,rfl,T,k3,k4⟩;exact Af<|q U T k3 k4
 |false=>
  rw[Ar (by simp)];refine Ab (AX (AM (I:=λx c g=>g=st/\∃l J,c=(none,l,J)/\l<J/\l<hint+1/\o (hint-l)=false/\x+1<=J)
   (Q:=λc g=>g=st/\∃l J,c=(none,l,J)/\l<J/\l<hint+1/\o (hint-l)=false/\(hint+1<=J\/o (hint-J)=true)) ?_ ?_ ⟨rfl,0,1,rfl,by lia,by exact Ce _,hb,by lia⟩) ?_)
  ·rintro x c g _ hx ⟨rfl,l,J,rfl,h1,h2,r,t⟩;dsimp only;by_cases c:J>=hint+1
   ·rw[Aw c];exact Af ⟨rfl,l,J,rfl,h1,h2,r,.inl c⟩
   ·rw[Ar c];refine Ab<|go (hint-J) (by exact rD) _ ?_;dsimp only;cases C:o (hint-J) with
    |true=>
     rw[Aw rfl];exact Af ⟨rfl,l,J,rfl,h1,h2,r,.inr C⟩
    |false=>
     rw[Ar (by simp)];exact Af ⟨rfl,J,2*J+1,rfl,by lia,by exact Ij,C,by lia⟩
  ·rintro c g ⟨rfl,l,J,rfl,h1,h2,r,t⟩;exact⟨rfl,l,J,rfl,h1,h2,r,.inl (by exact rA)⟩
  ·rintro c g ⟨rfl,l,J,rfl,h1,h2,r,t⟩;dsimp only;obtain⟨lo,a0⟩:∃lo,lo=hint+1-min J (hint+1):=⟨_,rfl⟩;obtain⟨U,a1⟩:∃U,U=hint-l:=⟨_,rfl⟩;rw[<-a0,<-a1];have g1:lo<=U:=by omega
   have g2:U<=n:=by omega
   have g3:∀i,i<lo->o i=true:=λi h5=>by
    rcases t with t|t
    ·omega
    ·exact mono i (hint-J) (by omega) (by exact rD) t
   have g4:∀i,U<=i->i<n->o i=false:=λi h5 h6=>by cases e:o i with|false=>rfl|true=>rw[mono (hint-l) i (by lia) h6 e] at r;cases r
   refine Ab (AX (AM (I:=λx c sx=>sx=g/\∃lo U,c=(none,lo,U)/\lo<=U/\U<=n/\(∀i,i<lo->o i=true)/\(∀i,U<=i->i<n->o i=false)/\U-lo+x<=n)
    (Q:=λc sx=>sx=g/\∃U,c=(none,U,U)/\U<=n/\(∀i,i<U->o i=true)/\(∀i,U<=i->i<n->o i=false)) ?_ ?_ ⟨rfl,lo,U,rfl,g1,g2,g3,g4,by exact Il⟩) ?_)
   ·rintro x c p _ hx ⟨rfl,lo,U,rfl,k1,T,k3,k4,k5⟩;dsimp only;by_cases c:lo>=U
    ·rw[Aw c];have:lo=U:=by lia
     subst this;exact Af ⟨rfl,lo,rfl,T,k3,k4⟩
    ·rw[Ar c];refine Ab<|go (lo+(U-lo) / 2) (by lia) _ ?_;dsimp only;cases C:o (lo+(U-lo) / 2) with
     |true=>
      rw[Aw rfl];exact Af ⟨rfl,lo+(U-lo) / 2+1,U,rfl,by lia,T,λi h5=>mono i _ (by lia) (by lia) C,k4,by lia⟩
     |false=>
      rw[Ar (by simp)];refine Af ⟨rfl,lo,lo+(U-lo) / 2,rfl,by lia,by lia,k3,λi h5 h6=>?_,by lia⟩;cases e:o i with|false=>rfl|true=>rw[mono _ i h5 h6 e] at C;cases C
   ·rintro c p ⟨rfl,lo,U,rfl,k1,T,k3,k4,k5⟩;have:lo=U:=by lia
    subst this;exact⟨rfl,lo,rfl,T,k3,k4⟩
   ·rintro c p ⟨rfl,U,rfl,T,k3,k4⟩;exact Af<|q U T k3 k4
end
def R4:XA->XA->StateT SortSt Sem (XA):=sortPriv% PySem.Builtin.mergeLo
def R5:XA->XA->StateT SortSt Sem (XA):=sortPriv% PySem.Builtin.mergeHi
structure MI(f:XB)(la lb out ra rb:Xz):Prop where
 perm:(out++(ra++rb)).Perm (la++lb)
 so:out.Pairwise λx y=>f x<=f y
 sa:ra.Pairwise λx y=>f x<=f y
 sb:rb.Pairwise λx y=>f x<=f y
 oa:∀x∈out,∀y∈ra,f x<=f y
 ob:∀x∈out,∀y∈rb,f x<=f y
theorem MI.a{f:XB}{g j out seg l U:Xz}(h:MI f g j out (seg++l) U)(hs:∀x∈seg,∀y∈U,f x<=f y):MI f g j (out++seg) l U:=by
 have sa:=AV.mp h.sa;refine⟨?_,AV.mpr ⟨h.so,sa.1,λx I y J=>h.oa x I y<|Al _ J⟩,sa.2.1,h.sb,λx I y J=>?_,λx I y J=>?_⟩
 ·have:=h.perm;rw[AA] at this ⊢;exact this
 ·rcases Ak.mp I with I|I
  ·exact h.oa x I y<|Ac _ J
  ·exact sa.2.2 x I y J
 ·rcases Ak.mp I with I|I
  ·exact h.ob x I y J
  ·exact hs x I y J
theorem MI.b{f:XB}{l o out seg U g:Xz}(h:MI f l o out U<|seg++g)(hs:∀x∈seg,∀y∈U,f x<=f y):MI f l o (out++seg) U g:=by
 have j:=AV.mp h.sb;refine⟨?_,AV.mpr ⟨h.so,j.1,λx I y J=>h.ob x I y<|Al _ J⟩,h.sa,j.2.1,λx I y J=>?_,λx I y J=>?_⟩
 ·refine List.Perm.trans ?_ h.perm;rw[AA];exact(BE out).mpr (by rw[<-AA,<-AA];exact(BB g).mpr BO)
 ·rcases Ak.mp I with I|I
  ·exact h.oa x I y J
  ·exact hs x I y J
 ·rcases Ak.mp I with I|I
  ·exact h.ob x I y<|Ac _ J
  ·exact j.2.2 x I y J
def km(f:XB)(I J r:Xz):Prop:=r.Perm (I++J)/\r.Pairwise λx y=>f x<=f y
theorem MI.ea{f:XB}{I J out U:Xz}(h:MI f I J out U []):km f I J (out++U):=⟨by have:=h.perm;rwa[Av] at this,AV.mpr ⟨h.so,h.sa,h.oa⟩⟩
theorem MI.eb{f:XB}{g j out J U:Xz}(h:MI f g j out J U)(hs:∀x∈U,∀y∈J,f x<=f y):km f g j (out++U++J):=by
 refine⟨List.Perm.trans ?_ h.perm,?_⟩
 ·rw[AA];exact(BE out).mpr BO
 ·rw[AA];refine AV.mpr ⟨h.so,AV.mpr ⟨h.sb,h.sa,hs⟩,λx l y I=>?_⟩;rcases Ak.mp I with I|I
  ·exact h.ob x l y I
  ·exact h.oa x l y I
structure MP(f:XB)(a b out:XA)(ia ib:Nat):Prop where
 mi:MI f a.toList b.toList out.toList (a.toList.drop ia) (b.toList.drop ib)
 sz:out.size=ia+ib
 la:ia<=a.size
 lb:ib<=b.size
theorem Jk(a:XA)(h:i<a.size):a.toList.drop i=a[i]::a.toList.drop (i+1):=by rw[BY (by simpa using h)];simp
theorem i9(a:XA)(i j:Nat):(a.extract i j).toList=(a.toList.drop i).take (j-i):=by rw[Array.toList_extract,List.extract_eq_drop_take]
theorem Jl(l:Xz)(i k:Nat):(l.drop i).take k++l.drop (i+k)=l.drop i:=by rw[<-List.drop_drop,A3]
theorem sG{a:XA}{k:Nat}{x:Keyed}(h:x∈(a.toList.drop i).take k):∃j,∃I:i+j<a.size,j<k/\a[i+j]=x:=by
 obtain⟨j,I,e⟩:=BN h;rw[A5,BR] at I;have J:i+j<a.size:=by have:a.toList.length=a.size:=A7;omega
 refine⟨j,J,by omega,?_⟩;rw[<-e];simp
theorem iA{a:XA}{x:Keyed}(h:x∈a.toList.drop i):∃j,∃I:j<a.size,i<=j/\a[j]=x:=by
 obtain⟨j,I,e⟩:=BN h;rw[BR] at I;have J:i+j<a.size:=by have:a.toList.length=a.size:=A7;omega
 refine⟨i+j,J,by exact Bg _ _,?_⟩;rw[<-e];simp
theorem r_{f:XB}{a:XA}(s:a.toList.Pairwise λx y=>f x<=f y)(I:i<=j)(J:j<a.size):f (a[i]'(by exact pG))<=f a[j]:=by
 rcases Ds I with h|h
 ·have:=CS.mp s i j (by simpa using (by exact pG:i<a.size)) (by simpa using J) h;simpa using this
 ·subst h;exact C4 _
section
variable {f:XB}{a b out:XA}{ia ib:Nat}
theorem MP.segA(M:MP f a b out ia ib){k:Nat}(J:ia+k<=a.size)(h:∀i (hi:ia+i<a.size),i<k->∀j (I:j<b.size),ib<=j->f a[ia+i]<=f b[j]):MP f a b (out++a.extract ia (ia+k)) (ia+k) ib:=by
 refine⟨?_,?_,J,M.lb⟩
 ·rw[Bf,i9,show ia+k-ia=k by omega];refine MI.a (by rw[Jl];exact M.mi) λx U y g=>?_;obtain⟨i,hi,l,rfl⟩:=sG U;obtain⟨j,I,o,rfl⟩:=iA g;exact h i hi l j I o
 ·rw[BU,C1,M.sz];lia
theorem MP.segB(M:MP f a b out ia ib){k:Nat}(J:ib+k<=b.size)(h:∀i (hi:ib+i<b.size),i<k->∀j (I:j<a.size),ia<=j->f b[ib+i]<=f a[j]):MP f a b (out++b.extract ib (ib+k)) ia (ib+k):=by
 refine⟨?_,?_,M.la,J⟩
 ·rw[Bf,i9,show ib+k-ib=k by lia];refine MI.b (by rw[Jl];exact M.mi) λx U y g=>?_;obtain⟨i,hi,l,rfl⟩:=sG U;obtain⟨j,I,o,rfl⟩:=iA g;exact h i hi l j I o
 ·rw[BU,C1,M.sz];lia
theorem MP.oneA(M:MP f a b out ia ib)(hi:ia<a.size)(h:∀j (I:j<b.size),ib<=j->f a[ia]<=f b[j]):MP f a b (out.push a[ia]) (ia+1) ib:=by refine⟨?_,by rw[Bu,M.sz];simp +arith only,hi,M.lb⟩;rw[C8];refine MI.a (seg:=[a[ia]]) (by rw[Cc,<-Jk a hi];exact M.mi) λx J y U=>?_;obtain⟨j,I,g,rfl⟩:=iA U;rw[Aj.mp J];exact h j I g
theorem MP.oneB(M:MP f a b out ia ib)(hi:ib<b.size)(h:∀j (I:j<a.size),ia<=j->f b[ib]<=f a[j]):MP f a b (out.push b[ib]) ia (ib+1):=by refine⟨?_,by rw[Bu,M.sz];exact Es _ _ _,M.la,hi⟩;rw[C8];refine MI.b (seg:=[b[ib]]) (by rw[Cc,<-Jk b hi];exact M.mi) λx J y U=>?_;obtain⟨j,I,g,rfl⟩:=iA U;rw[Aj.mp J];exact h j I g
theorem MP.done(M:MP f a b out ia ib)(h:ib=b.size):km f a.toList b.toList (out++a.extract ia++b.extract ib).toList:=by have e:b.toList.drop ib=[]:=List.drop_eq_nil_of_le (by rw[A7];lia);have m:=M.mi;rw[e] at m;have:=m.ea;rw[Bf,Bf,i9,i9,e,List.take_nil,Av,Bb (by simp)];exact this
theorem MP.last(M:MP f a b out ia ib)(h:ia+1=a.size)(I:∀x∈b.toList,f x<f (a[a.size-1]'(by omega))):km f a.toList b.toList (out++b.extract ib++a.extract ia).toList:=by
 have:=M.mi.eb λx J y U=>by
  obtain⟨j,g,l,rfl⟩:=iA U;have e:j=a.size-1:=by omega
  subst e;exact BM<|I x<|CH J
 rw[Bf,Bf,i9,i9,Bb (by simp),Bb (by simp)];exact this
end
section
variable {prog:Xl}{w:Xm}{κ:SortKind}{Ok:Keyed->Prop}{f:XB}
abbrev iw(st:SortSt)(g:Nat):SortSt:=SortSt.mk' (kindOf st) (arrOf st) (pendingOf st) g<|failedOf st
theorem u4{c:Prop}{_:Decidable c}{K:β->StateT SortSt Sem α}{y:β}{Q:α->SortSt->Prop}{st:SortSt}(key:∀z,wpS (model prog w) A E s (K z) Q st):∀x,wpS (model prog w) A E s (if c then K x else K y) Q st:=λx=>by
 by_cases h:c
 ·rw[Aw h];exact key x
 ·rw[Ar h];exact key y
theorem mN{I:Type}{c:Prop}{_:Decidable c}{K T:β->I->StateT SortSt Sem α}{P:β->I->Prop}{x:β}{i:I}{Q:α->SortSt->Prop}{st:SortSt}(key:∀o j,P o j->wpS (model prog w) A E s (K o j) Q st)(J:¬c->P x i)
 (hp:c->(∀o j,P o j->wpS (model prog w) A E s (K o j) Q st)->wpS (model prog w) A E s (T x i) Q st):∀o,x=o->∀j,i=j->wpS (model prog w) A E s (if c then T o j else K o j) Q st:=by
 rintro _ rfl _ rfl;by_cases h:c
 ·rw[Aw h];exact hp h key
 ·rw[Ar h];exact key x i<|J h
theorem xt{c:Prop} [Decidable c]{x y:StateT SortSt Sem α}{Q:α->SortSt->Prop}{st:SortSt}(h:c)(k:wpS M A E s x Q st):wpS M A E s (if c then x else y) Q st:=by rw[Aw h];exact k
theorem jy{c:Prop} [Decidable c]{x y:StateT SortSt Sem α}{Q:α->SortSt->Prop}{st:SortSt}(h:¬c)(k:wpS M A E s y Q st):wpS M A E s (if c then x else y) Q st:=by rw[Ar h];exact k
theorem fg{c:Prop} [Decidable c]{x y:StateT SortSt Sem α}{Q:α->SortSt->Prop}{st:SortSt}(h:c->wpS M A E s x Q st)(k:¬c->wpS M A E s y Q st):wpS M A E s (if c then x else y) Q st:=by
 by_cases d:c
 ·rw[Aw d];exact h d
 ·rw[Ar d];exact k d
theorem m_{a:XA}(ok:∀x∈a.toList,Ok x)(sa:a.toList.Pairwise λx y=>f x<=f y)(d:Keyed):∃t:Nat->Keyed,(∀i (hi:i<a.size),t i=a[i])/\(∀i,i<a.size->a[i]?=some (t i))/\(∀i,i<a.size->Ok (t i))/\∀{i j},i<=j->j<a.size->f (t i)<=f (t j):=by
 have e:∀i (hi:i<a.size),(a[i]?).getD d=a[i]:=λi hi=>by simp[hi]
 exact⟨λi=>(a[i]?).getD d,e,λi hi=>by simp[hi],λi hi=>by show Ok ((a[i]?).getD d);rw[e i hi];exact ok _ (by simp),λ{i j} I J=>by show f ((a[i]?).getD d)<=f ((a[j]?).getD d);rw[e i (by exact pG),e j J];exact r_ sa I J⟩
theorem R6(O:yS prog w A s κ Ok f){a b:XA}{st:SortSt}{Q:XA->SortSt->Prop}(hk:kindOf st=κ)(bh:∀x∈a.toList,Ok x)(bi:∀x∈b.toList,Ok x)
 (sa:a.toList.Pairwise λx y=>f x<=f y) (sb:b.toList.Pairwise λx y=>f x<=f y) (ha:0<a.size) (hb:0<b.size) (h0:∀x∈a.toList,f b[0]<f x) (hl:∀x∈b.toList,f x<f a[a.size-1])
 (q:∀r g,km f a.toList b.toList r.toList->Q r (iw st g)):wpS (model prog w) A E s (R4 a b) Q st:=by
 refine Ab<|wpS_lift<|BZ ⟨rfl,?_⟩;refine Ab<|xh (x:=b[0]) (by simp[hb]) ?_;dsimp only;have M0:MP f a b #[b[0]] 0 1:=by have M:MP f a b #[] 0 0:=⟨⟨by simp,by simp,by simpa using sa,by simpa using sb,by simp,by simp⟩,rfl,A2 _,A2 _⟩;have:=M.oneB hb λj hj _=>BM<|h0 a[j] (by simp);simpa using this
 by_cases c1:(1==b.size)=true
 ·refine xt c1 ?_;exact Af<|q _ (gallopOf st)<|M0.done (by simpa using c1)
 refine jy c1 ?_;by_cases c2:(0+1==a.size)=true
 ·refine xt c2 ?_;exact Af<|q _ (gallopOf st)<|M0.last (by simpa using c2) hl
 refine jy c2 ?_;have c1:¬1=b.size:=by simpa using c1
 have c2:¬1=a.size:=by simpa using c2
 refine Ab<|wpS_get ?_;have bj:∀i (hi:i<a.size),Ok a[i]:=λi hi=>bh _ (by simp);have bm:∀i (hi:i<b.size),Ok b[i]:=λi hi=>bi _ (by simp);have a7:∀i (hi:i<a.size),a[i]?=some a[i]:=λi hi=>by simp[hi]
 have ab:∀i (hi:i<b.size),b[i]?=some b[i]:=λi hi=>by simp[hi]
 obtain⟨tA,bd,cn,cv,cx⟩:=m_ (f:=f) bh sa b[0];obtain⟨tB,bn,cy,cB,cP⟩:=m_ (f:=f) bi sb b[0];refine Ab (AX (AM (I:=λx c p=>(∃g,p=iw st g)/\∃a2 l U mg,c=(none,a2,l,U,mg)/\MP f a b a2 l U/\l+1<a.size/\U<b.size/\x+1<=a2.size)
  (Q:=λc p=>(∃g,p=iw st g)/\∃r,c.1=some r/\km f a.toList b.toList r.toList) ?_ ?_ ⟨⟨gallopOf st,rfl⟩,_,_,_,_,rfl,M0,by exact zW,by exact zW,by simp⟩) ?_)
 ·rintro x c p _ hx ⟨⟨g,rfl⟩,a2,l,U,mg,rfl,M,T,t,hs⟩;dsimp only;refine Ab (AX (AM (I:=λy c p=>p=iw st g/\∃J l U ac bc,c=(none,J,l,U,ac,bc)/\MP f a b J l U/\l+1<a.size/\U<b.size/\a2.size+y<=J.size)
   (Q:=λc p=>p=iw st g/\((∃r,c.1=some r/\km f a.toList b.toList r.toList)\/∃J l U ac bc,c=(none,J,l,U,ac,bc)/\MP f a b J l U/\l+1<a.size/\U<b.size/\a2.size+1<=J.size)) ?_ ?_ ⟨rfl,_,_,_,_,_,rfl,M,T,t,An _⟩) ?_)
  ·rintro y c p _ hy ⟨rfl,J,l,U,ac,bc,rfl,M,T,t,ca⟩;have al:l<a.size:=by exact jU
   dsimp only;refine Ab<|xh (ab U t) ?_;refine Ab<|xh (a7 l al) ?_;refine Ab<|w_lt O hk (bm U t) (bj l al) ?_;dsimp only;by_cases c:f b[U]<f a[l]
   ·refine xt (Ax c) ?_;refine Ab<|xh (ab U t) ?_;have M':=M.oneB t λj hj a0=>BM<|Int.lt_of_lt_of_le c<|r_ sa a0 hj;have s2:(J.push b[U]).size=J.size+1:=Bu _;by_cases e1:(U+1==b.size)=true
    ·refine xt e1 ?_;exact Af ⟨rfl,.inl ⟨_,rfl,M'.done (by simpa using e1)⟩⟩
    ·refine jy e1 ?_;have e1:¬U+1=b.size:=by simpa using e1
     refine fg (λ_=>?_) λ_=>?_
     ·exact Af ⟨rfl,.inr ⟨_,_,_,_,_,rfl,M',T,by exact zW,by lia⟩⟩
     ·exact Af ⟨rfl,_,_,_,_,_,rfl,M',T,by lia,by lia⟩
   ·refine jy (by rw[AB c];decide) ?_;refine Ab<|xh (a7 l al) ?_;have M':=M.oneA (by lia) λj hj a0=>BP (by omega)<|r_ sb a0 hj;have s2:(J.push a[l]).size=J.size+1:=Bu _;by_cases e1:(l+1+1==a.size)=true
    ·refine xt e1 ?_;exact Af ⟨rfl,.inl ⟨_,rfl,M'.last (by simpa using e1) hl⟩⟩
    ·refine jy e1 ?_;have e1:¬l+1+1=a.size:=by simpa using e1
     refine fg (λ_=>?_) λ_=>?_
     ·exact Af ⟨rfl,.inr ⟨_,_,_,_,_,rfl,M',by exact zW,t,by lia⟩⟩
     ·exact Af ⟨rfl,_,_,_,_,_,rfl,M',by lia,t,by lia⟩
  ·rintro c p ⟨rfl,J,l,U,ac,bc,rfl,M,T,t,ca⟩;have:=M.sz;omega
  ·rintro c p ⟨rfl,h⟩;rcases h with⟨r,er,hr⟩|⟨aL,l,U,ac,bc,rfl,M,T,t,ca⟩
   ·obtain⟨c1,c2⟩:=c;cases er;exact Af ⟨⟨g,rfl⟩,r,rfl,hr⟩
   ·dsimp only;refine Ab<|wpS_lift<|BZ ⟨rfl,?_⟩;refine Ab (AX (AM (I:=λy c p=>(∃g,p=iw st g)/\∃J l U mg ac bc,c=(none,J,l,U,mg,ac,bc)/\MP f a b J l U/\l+1<a.size/\U<b.size/\aL.size+y<=J.size)
     (Q:=λc p=>(∃g,p=iw st g)/\((∃r,c.1=some r/\km f a.toList b.toList r.toList)\/∃J l U mg ac bc,c=(none,J,l,U,mg,ac,bc)/\MP f a b J l U/\l+1<a.size/\U<b.size/\aL.size<=J.size)) ?_ ?_ ⟨⟨g,rfl⟩,_,_,_,_,_,_,rfl,M,T,t,An _⟩) ?_)
    ·rintro y c p _ hy ⟨⟨g',rfl⟩,J,l,U,be,ac,bc,rfl,M,T,t,ba⟩;have al:l<a.size:=by exact jU
     dsimp only;generalize be-1=d0;revert d0;refine u4 (y:=be) λdc=>?_
     all_goals
      refine Ab<|wpS_modify ?_;refine Ab<|xh (ab U t) ?_;refine Ab<|cW O hk (bm U t) (by lia) (λi=>tA<|l+i) (λi hi=>⟨cn _ (by lia),cv _ (by lia)⟩) (λi=>!decide (f b[U]<f (tA<|l+i))) (λi hi=>by rw[Ar (by simp)]) (λi j a0 hj h=>?_) λk dd a5 au=>?_
      ·have:=cx (i:=l+i) (j:=l+j) (by lia) (by lia);simp at h ⊢;lia
      have a5:∀i,i<k->f (tA<|l+i)<=f b[U]:=λi hi=>by have:=a5 i hi;simpa using this
      have au:∀i,k<=i->i<a.size-l->f b[U]<f (tA<|l+i):=λi hi hj=>by have:=au i hi hj;simpa using this
      have kl:k<a.size-l:=by
       rcases Ds dd with h|h
       ·exact h
       ·exfalso;have h1:=a5 (a.size-1-l) (by lia);have h2:=hl b[U] (by simp);rw[show l+(a.size-1-l)=a.size-1 by lia,bd _ (by exact zZ)] at h1;omega
      have M1:MP f a b (J++a.extract l (l+k)) (l+k) U:=M.segA (by lia) λi hi bf j hj a0=>by have h1:=a5 i bf;rw[bd _ hi] at h1;exact BP h1<|r_ sb a0 hj
      have pB:∀j (hj:j<a.size),l+k<=j->f b[U]<=f a[j]:=λj hj a0=>by have h1:=au (j-l) (by lia) (by lia);rw[show l+(j-l)=j by lia,bd _ hj] at h1;lia
      dsimp only;generalize de:J=o0;generalize dj:l=j0;revert j0;revert o0;refine mN (P:=λ(o:XA) (j:Nat)=>MP f a b o j U/\J.size<=o.size/\j+1<a.size/\∀j' (hj:j'<a.size),j<=j'->f b[U]<=f a[j']) (x:=J) (i:=l) (λa1 C hP=>?tail) (λck=>?hN) λck key=>?hY
      case hN=>
       obtain rfl:k=0:=by lia
       exact⟨M,An _,T,λj hj a0=>pB j hj (by lia)⟩
      case hY=>
       by_cases e1:(l+k+1==a.size)=true
       ·refine xt e1 ?_;exact Af ⟨⟨_,rfl⟩,.inl ⟨_,rfl,M1.last (by simpa using e1) hl⟩⟩
       ·refine jy e1 (jy (show ¬(l+k==a.size)=true by simp;lia) ?_);have e1:¬l+k+1=a.size:=by simpa using e1
        exact key _ _ ⟨M1,by rw[BU];exact Bg _ _,by lia,pB⟩
      clear pB M1 a5 au;obtain⟨M1,h3,l3,pB⟩:=hP;have bg:C<a.size:=by exact jU
      all_goals
       refine Ab<|xh (ab U t) ?_;have M2:=M1.oneB t pB;have s2:(a1.push b[U]).size=a1.size+1:=Bu _;by_cases e2:(U+1==b.size)=true
       case' pos=>
        refine xt e2 ?_;exact Af ⟨⟨_,rfl⟩,.inl ⟨_,rfl,M2.done (by simpa using e2)⟩⟩
       case' neg=>
        refine jy e2 ?_;have e2:¬U+1=b.size:=by simpa using e2
        refine Ab<|xh (a7 C bg) ?_;refine Ab<|cW O hk (bj C bg) (by lia) (λi=>tB<|U+1+i) (λi hi=>⟨cy _ (by omega),cB _ (by lia)⟩) (λi=>decide<|f (tB<|U+1+i)<f a[C]) (λi hi=>by rw[Aw rfl]) (λi j a0 hj h=>?_) λk2 dp a3 a4=>?_
        ·have:=cP (i:=U+1+i) (j:=U+1+j) (by lia) (by omega);simp at h ⊢;lia
        have a3:∀i,i<k2->f (tB<|U+1+i)<f a[C]:=λi hi=>by have:=a3 i hi;simpa using this
        have a4:∀i,k2<=i->i<b.size-(U+1)->f a[C]<=f (tB<|U+1+i):=λi hi hj=>by have:=a4 i hi hj;simpa using this
        have M3:MP f a b (a1.push b[U]++b.extract (U+1) (U+1+k2)) C (U+1+k2):=M2.segB (by omega) λi hi bf j hj a0=>by have h1:=a3 i bf;rw[bn _ hi] at h1;exact BP (BM h1)<|r_ sa a0 hj
        have pA:∀j (hj:j<b.size),U+1+k2<=j->f a[C]<=f b[j]:=λj hj a0=>by have h1:=a4 (j-(U+1)) (by lia) (by omega);rw[show U+1+(j-(U+1))=j by lia,bn _ hj] at h1;exact h1
        dsimp only;obtain⟨o3,cc⟩:∃o,o=a1.push b[U]:=⟨_,rfl⟩;obtain⟨av,cm⟩:∃i,i=U+1:=⟨_,rfl⟩;rw[<-cc] at s2;rw[<-cc,<-cm] at M2 M3 ⊢;rw[<-cm] at pA dp;generalize de:o3=o0;generalize dj:av=j0;revert j0;revert o0;refine mN (P:=λ(o:XA) (j:Nat)=>MP f a b o C j/\a1.size+1<=o.size/\j<b.size/\∀j' (hj:j'<b.size),j<=j'->f a[C]<=f b[j']) (x:=o3) (i:=av) (λbb dV hP=>?tail2) (λck=>?hN) λck key=>?hY
        case hN=>
         obtain rfl:k2=0:=by lia
         exact⟨M2,by lia,by lia,λj hj a0=>pA j hj (by lia)⟩
        case hY=>
         by_cases e3:(av+k2==b.size)=true
         ·refine xt e3 ?_;exact Af ⟨⟨_,rfl⟩,.inl ⟨_,rfl,M3.done (by simpa using e3)⟩⟩
         ·refine jy e3 ?_;have e3:¬av+k2=b.size:=by simpa using e3
          exact key _ _ ⟨M3,by rw[BU];lia,by lia,pA⟩
        clear pA M3 a3 a4;obtain⟨M3,h4,l4,pA⟩:=hP
        all_goals
         refine Ab<|xh (a7 C bg) ?_;have M4:=M3.oneA (by lia) pA;have s4:(bb.push a[C]).size=bb.size+1:=Bu _;by_cases e4:(C+1+1==a.size)=true
         ·refine xt e4 ?_;exact Af ⟨⟨_,rfl⟩,.inl ⟨_,rfl,M4.last (by simpa using e4) hl⟩⟩
         ·refine jy e4 ?_;have e4:¬C+1+1=a.size:=by simpa using e4
          refine fg (λ_=>?_) λ_=>?_
          ·exact Af ⟨⟨_,rfl⟩,.inr ⟨_,_,_,_,_,_,rfl,M4,by exact zW,l4,by lia⟩⟩
          ·exact Af ⟨⟨_,rfl⟩,_,_,_,_,_,_,rfl,M4,by lia,l4,by lia⟩
    ·rintro c p ⟨⟨g',rfl⟩,J,l,U,be,ac,bc,rfl,M,T,t,ba⟩;have:=M.sz;omega
    ·rintro c p ⟨⟨g',rfl⟩,h⟩;rcases h with⟨r,er,hr⟩|⟨dv,l,U,dc,ac,bc,rfl,M,T,t,ba⟩
     ·obtain⟨c1,c2⟩:=c;cases er;exact Af ⟨⟨g',rfl⟩,r,rfl,hr⟩
     ·dsimp only;refine Ab<|wpS_modify ?_;exact Af ⟨⟨_,rfl⟩,_,_,_,_,rfl,M,T,t,by lia⟩
 ·rintro c p ⟨⟨g,rfl⟩,a2,l,U,mg,rfl,M,T,t,hs⟩;have:=M.sz;lia
 ·rintro c p ⟨⟨g,rfl⟩,r,er,hr⟩;obtain⟨c1,c2⟩:=c;cases er;exact Af<|q r g hr
end
structure MH(f:XB)(la lb ra rb o:Xz):Prop where
 perm:(ra++rb++o).Perm (la++lb)
 so:o.Pairwise λx y=>f x<=f y
 sa:ra.Pairwise λx y=>f x<=f y
 sb:rb.Pairwise λx y=>f x<=f y
 oa:∀x∈ra,∀y∈o,f x<=f y
 ob:∀x∈rb,∀y∈o,f x<=f y
theorem MH.a{f:XB}{j l o seg U g:Xz}(h:MH f j l (U++seg) g o)(hs:∀x∈g,∀y∈seg,f x<=f y):MH f j l U g (seg++o):=by
 have sa:=AV.mp h.sa;refine⟨List.Perm.trans ?_ h.perm,AV.mpr ⟨sa.2.1,h.so,λx J y I=>h.oa x (Ac _ J) y I⟩,sa.1,h.sb,λx J y I=>?_,λx J y I=>?_⟩
 ·rw[<-AA];refine(BB o).mpr ?_;rw[AA,AA];exact(BE U).mpr BO
 ·rcases Ak.mp I with I|I
  ·exact sa.2.2 x J y I
  ·exact h.oa x (Al _ J) y I
 ·rcases Ak.mp I with I|I
  ·exact hs x J y I
  ·exact h.ob x J y I
theorem MH.b{f:XB}{l p o seg U g:Xz}(h:MH f l p U (g++seg) o)(hs:∀x∈U,∀y∈seg,f x<=f y):MH f l p U g (seg++o):=by
 have j:=AV.mp h.sb;refine⟨?_,AV.mpr ⟨j.2.1,h.so,λx J y I=>h.ob x (Ac _ J) y I⟩,h.sa,j.1,λx J y I=>?_,λx J y I=>?_⟩
 ·have:=h.perm;rw[<-AA,AA U g seg];exact this
 ·rcases Ak.mp I with I|I
  ·exact hs x J y I
  ·exact h.oa x J y I
 ·rcases Ak.mp I with I|I
  ·exact j.2.2 x J y I
  ·exact h.ob x (Al _ J) y I
theorem MH.ea{f:XB}{I J o U:Xz}(h:MH f I J [] U o):km f I J (U++o):=⟨by have:=h.perm;rwa[CZ] at this,AV.mpr ⟨h.sb,h.so,h.ob⟩⟩
theorem MH.eb{f:XB}{g j o J U:Xz}(h:MH f g j J U o)(hs:∀x∈U,∀y∈J,f x<=f y):km f g j (U++J++o):=by
 refine⟨List.Perm.trans ?_ h.perm,?_⟩
 ·exact(BB o).mpr BO
 ·refine AV.mpr ⟨AV.mpr ⟨h.sb,h.sa,hs⟩,h.so,λx I y l=>?_⟩;rcases Ak.mp I with I|I
  ·exact h.ob x I y l
  ·exact h.oa x I y l
structure HP(f:XB)(a b out:XA)(na nb:Nat):Prop where
 mi:MH f a.toList b.toList (a.toList.take na) (b.toList.take nb) out.toList.reverse
 sz:out.size+na+nb=a.size+b.size
 la:na<=a.size
 lb:nb<=b.size
theorem Jm(a:XA)(h:i<a.size):a.toList.take (i+1)=a.toList.take i++[a[i]]:=by rw[Bk];simp[h]
theorem iT{a:XA}{x:Keyed}(h:x∈a.toList.take i):∃j,∃I:j<a.size,j<i/\a[j]=x:=by
 obtain⟨j,I,e⟩:=BN h;rw[A5] at I;have J:j<a.size:=by have:a.toList.length=a.size:=A7;omega
 refine⟨j,J,by omega,?_⟩;rw[<-e];simp
theorem Ft(l:Xz){k:Nat}(h:i<=k):l.take i++(l.drop i).take (k-i)=l.take k:=by have:=List.take_add (l:=l) (i:=i) (j:=k-i);rw[show i+(k-i)=k by omega] at this;exact this.symm
section
variable {f:XB}{a b out:XA}{nb:Nat}
theorem HP.segA(M:HP f a b out na nb){k:Nat}(J:k<=na)(h:∀i (hi:i<a.size),k<=i->i<na->∀j (I:j<b.size),j<nb->f b[j]<=f a[i]):HP f a b (out++(a.extract k na).reverse) k nb:=by
 have o:=M.la;refine⟨?_,?_,by exact F7,M.lb⟩
 ·rw[Bf,CV,CK,List.reverse_reverse,i9];refine MH.a (by rw[Ft _ J];exact M.mi) λx U y g=>?_;obtain⟨j,I,l,rfl⟩:=iT U;obtain⟨i,hi,p,rfl⟩:=sG g;exact h (k+i) hi (by exact Bg _ _) (by lia) j I l
 ·have:=M.sz;rw[BU,Array.size_reverse,C1];lia
theorem HP.segB(M:HP f a b out na nb){k:Nat}(J:k<=nb)(h:∀i (hi:i<b.size),k<=i->i<nb->∀j (I:j<a.size),j<na->f a[j]<=f b[i]):HP f a b (out++(b.extract k nb).reverse) na k:=by
 have o:=M.lb;refine⟨?_,?_,M.la,by lia⟩
 ·rw[Bf,CV,CK,List.reverse_reverse,i9];refine MH.b (by rw[Ft _ J];exact M.mi) λx U y g=>?_;obtain⟨j,I,l,rfl⟩:=iT U;obtain⟨i,hi,p,rfl⟩:=sG g;exact h (k+i) hi (by lia) (by lia) j I l
 ·have:=M.sz;rw[BU,Array.size_reverse,C1];lia
theorem HP.oneA(M:HP f a b out (na+1) nb)(hi:na<a.size)(h:∀j (I:j<b.size),j<nb->f b[j]<=f a[na]):HP f a b (out.push a[na]) na nb:=by refine⟨?_,by have:=M.sz;rw[Bu];lia,by exact jU,M.lb⟩;rw[C8,CV];refine MH.a (seg:=[a[na]]) (by rw[<-Jm a hi];exact M.mi) λx J y U=>?_;obtain⟨j,I,g,rfl⟩:=iT J;rw[Aj.mp U];exact h j I g
theorem HP.oneB(M:HP f a b out na<|nb+1)(hi:nb<b.size)(h:∀j (I:j<a.size),j<na->f a[j]<=f b[nb]):HP f a b (out.push b[nb]) na nb:=by refine⟨?_,by have:=M.sz;rw[Bu];lia,M.la,by lia⟩;rw[C8,CV];refine MH.b (seg:=[b[nb]]) (by rw[<-Jm b hi];exact M.mi) λx J y U=>?_;obtain⟨j,I,g,rfl⟩:=iT J;rw[Aj.mp U];exact h j I g
theorem HP.done(M:HP f a b out na nb)(h:na=0):km f a.toList b.toList (a.extract 0 na++b.extract 0 nb++out.reverse).toList:=by subst h;have:=M.mi;rw[List.take_zero] at this;have:=this.ea;rw[Bf,Bf,i9,i9,CK];simpa using this
theorem HP.last(M:HP f a b out na nb)(h:nb=1)(g:0<b.size)(I:∀x∈a.toList,f b[0]<f x):km f a.toList b.toList (b.extract 0 nb++a.extract 0 na++out.reverse).toList:=by
 have:=M.mi.eb λx J y U=>by
  obtain⟨j,l,o,rfl⟩:=iT J;have e:j=0:=by lia
  subst e;exact BM<|I y<|BC U
 rw[Bf,Bf,i9,i9,CK];simpa using this
end
theorem HP.preA{f:XB}{a b out:XA}{nb:Nat}(M:HP f a b out na nb)(I:0<na)(h:∀j (J:j<b.size),j<nb->f b[j]<=f (a[na-1]'(by have:=M.la;omega))):HP f a b (out.push (a[na-1]'(by have:=M.la;omega))) (na-1) nb:=by obtain⟨n,rfl⟩:∃n,na=n+1:=⟨na-1,by lia⟩;have U:=M.la;exact HP.oneA M (by assumption) h
theorem HP.preB{f:XB}{a b out:XA}{nb:Nat}(M:HP f a b out na nb)(I:0<nb)(h:∀j (J:j<a.size),j<na->f a[j]<=f (b[nb-1]'(by have:=M.lb;omega))):HP f a b (out.push (b[nb-1]'(by have:=M.lb;lia))) na (nb-1):=by obtain⟨n,rfl⟩:∃n,nb=n+1:=⟨nb-1,by lia⟩;have U:=M.lb;exact HP.oneB M (by lia) h
section
variable {prog:Xl}{w:Xm}{κ:SortKind}{Ok:Keyed->Prop}{f:XB}
theorem R7(O:yS prog w A s κ Ok f){a b:XA}{st:SortSt}{Q:XA->SortSt->Prop}(hk:kindOf st=κ)(bi:∀x∈a.toList,Ok x)(bj:∀x∈b.toList,Ok x)
 (sa:a.toList.Pairwise λx y=>f x<=f y) (sb:b.toList.Pairwise λx y=>f x<=f y) (ha:0<a.size) (hb:0<b.size) (h0:∀x∈a.toList,f b[0]<f x) (hl:∀x∈b.toList,f x<f a[a.size-1])
 (q:∀r g,km f a.toList b.toList r.toList->Q r (iw st g)):wpS (model prog w) A E s (R5 a b) Q st:=by
 have bm:∀i (p:i<a.size),Ok a[i]:=λi p=>bi _ (by simp);have bn:∀i (p:i<b.size),Ok b[i]:=λi p=>bj _ (by simp);have a5:∀i (p:i<a.size),a[i]?=some a[i]:=λi p=>by simp[p]
 have ab:∀i (p:i<b.size),b[i]?=some b[i]:=λi p=>by simp[p]
 obtain⟨tA,ca,be,cx,cy⟩:=m_ (f:=f) bi sa b[0];obtain⟨tB,bf,bg,cB,cP⟩:=m_ (f:=f) bj sb b[0];have be:∀i,i<a.size->a[0+i]?=some (tA i):=λi p=>by rw[CP];exact be i p
 have bg:∀i,i<b.size->b[0+i]?=some (tB i):=λi p=>by rw[CP];exact bg i p
 refine Ab<|wpS_lift<|BZ ⟨rfl,?_⟩;refine Ab<|xh (x:=a[a.size-1]) (a5 _ (by exact zZ)) ?_;dsimp only;obtain⟨n0,e7⟩:∃n,a.size=n+1:=⟨a.size-1,by lia⟩;have M0:HP f a b #[a[a.size-1]] (a.size-1) b.size:=by
  have M:HP f a b #[] (a.size-1+1) b.size:=by
   refine⟨⟨?_,by simp,?_,?_,by simp,by simp⟩,by simp;lia,by exact zZ,An _⟩
   ·rw[Bb (by simp;lia),Bb (by simp)];simp
   ·rw[Bb (by simp;lia)];exact sa
   ·rw[Bb (by simp)];exact sb
  have:=M.oneA (by lia) λj hj _=>BM<|hl b[j] (by simp);simpa using this
 by_cases c1:(a.size-1==0)=true
 ·refine xt c1 ?_;exact Af<|q _ (gallopOf st)<|M0.done (by simpa using c1)
 refine jy c1 ?_;by_cases c2:(b.size==1)=true
 ·refine xt c2 ?_;exact Af<|q _ (gallopOf st)<|M0.last (by simpa using c2) hb h0
 refine jy c2 ?_;have c1:¬a.size-1=0:=by simpa using c1
 have c2:¬b.size=1:=by simpa using c2
 refine Ab<|wpS_get ?_;refine Ab (AX (AM (I:=λx c U=>(∃g,U=iw st g)/\∃na nb a3 mg,c=(none,na,nb,a3,mg)/\HP f a b a3 na nb/\0<na/\1<nb/\x+1<=a3.size)
  (Q:=λc U=>(∃g,U=iw st g)/\∃r,c.1=some r/\km f a.toList b.toList r.toList) ?_ ?_ ⟨⟨gallopOf st,rfl⟩,_,_,_,_,rfl,M0,by exact E4,by lia,by simp⟩) ?_)
 ·rintro x c U _ hx ⟨⟨g,rfl⟩,na,nb,a3,mg,rfl,M,t,T,hs⟩;dsimp only;refine Ab (AX (AM (I:=λy c U=>U=iw st g/\∃na nb J ac bc,c=(none,na,nb,J,ac,bc)/\HP f a b J na nb/\0<na/\1<nb/\a3.size+y<=J.size)
   (Q:=λc U=>U=iw st g/\((∃r,c.1=some r/\km f a.toList b.toList r.toList)\/∃na nb J ac bc,c=(none,na,nb,J,ac,bc)/\HP f a b J na nb/\0<na/\1<nb/\a3.size+1<=J.size)) ?_ ?_ ⟨rfl,_,_,_,_,_,rfl,M,t,T,An _⟩) ?_)
  ·rintro y c U _ hy ⟨rfl,na,nb,J,ac,bc,rfl,M,t,T,cc⟩;have d0:=M.la;have dc:=M.lb;have a0:nb-1<b.size:=by omega
   have a7:na-1<a.size:=by lia
   dsimp only;refine Ab<|xh (ab (nb-1) a0) ?_;refine Ab<|xh (a5 (na-1) a7) ?_;refine Ab<|w_lt O hk (bn (nb-1) a0) (bm (na-1) a7) ?_;dsimp only;by_cases c:f b[nb-1]<f a[na-1]
   ·refine xt (Ax c) ?_;refine Ab<|xh (a5 (na-1) a7) ?_;have M':=M.preA t λj hj C=>BM<|Int.lt_of_le_of_lt (r_ sb (i:=j) (j:=nb-1) (CL C) a0) c;have s2:(J.push a[na-1]).size=J.size+1:=Bu _;by_cases e1:(na-1==0)=true
    ·refine xt e1 ?_;exact Af ⟨rfl,.inl ⟨_,rfl,M'.done (by simpa using e1)⟩⟩
    ·refine jy e1 ?_;have e1:¬na-1=0:=by simpa using e1
     refine fg (λ_=>?_) λ_=>?_
     ·exact Af ⟨rfl,.inr ⟨_,_,_,_,_,rfl,M',by exact E4,T,by lia⟩⟩
     ·exact Af ⟨rfl,_,_,_,_,_,rfl,M',by lia,T,by lia⟩
   ·refine jy (by rw[AB c];decide) ?_;refine Ab<|xh (ab (nb-1) a0) ?_;have M':=M.preB (by exact jU) λj hj C=>BP (r_ sa (i:=j) (j:=na-1) (CL C) a7) (by omega);have s2:(J.push b[nb-1]).size=J.size+1:=Bu _;by_cases e1:(nb-1==1)=true
    ·refine xt e1 ?_;exact Af ⟨rfl,.inl ⟨_,rfl,M'.last (by simpa using e1) hb h0⟩⟩
    ·refine jy e1 ?_;have e1:¬nb-1=1:=by simpa using e1
     refine fg (λ_=>?_) λ_=>?_
     ·exact Af ⟨rfl,.inr ⟨_,_,_,_,_,rfl,M',t,by lia,by lia⟩⟩
     ·exact Af ⟨rfl,_,_,_,_,_,rfl,M',t,by lia,by lia⟩
  ·rintro c U ⟨rfl,na,nb,J,ac,bc,rfl,M,t,T,cc⟩;have:=M.sz;omega
  ·rintro c U ⟨rfl,h⟩;rcases h with⟨r,er,hr⟩|⟨na,nb,ba,ac,bc,rfl,M,t,T,cc⟩
   ·obtain⟨c1,c2⟩:=c;cases er;exact Af ⟨⟨g,rfl⟩,r,rfl,hr⟩
   ·dsimp only;refine Ab<|wpS_lift<|BZ ⟨rfl,?_⟩;refine Ab (AX (AM (I:=λy c U=>(∃g,U=iw st g)/\∃na nb J mg ac bc,c=(none,na,nb,J,mg,ac,bc)/\HP f a b J na nb/\0<na/\1<nb/\ba.size+y<=J.size)
     (Q:=λc U=>(∃g,U=iw st g)/\((∃r,c.1=some r/\km f a.toList b.toList r.toList)\/∃na nb J mg ac bc,c=(none,na,nb,J,mg,ac,bc)/\HP f a b J na nb/\0<na/\1<nb/\ba.size<=J.size)) ?_ ?_ ⟨⟨g,rfl⟩,_,_,_,_,_,_,rfl,M,t,T,An _⟩) ?_)
    ·rintro y c U _ hy ⟨⟨g',rfl⟩,na,nb,J,bh,ac,bc,rfl,M,t,T,bb⟩;have d0:=M.la;have dc:=M.lb;have a0:nb-1<b.size:=by omega
     have a7:na-1<a.size:=by lia
     dsimp only;generalize bh-1=dd;revert dd;refine u4 (y:=bh) λde=>?_
     all_goals
      refine Ab<|wpS_modify ?_;refine Ab<|xh (ab (nb-1) a0) ?_;refine Ab<|cW O hk (bn (nb-1) a0) (by exact zZ) tA (λi p=>⟨be _ (by exact EQ),cx _ (by lia)⟩) (λi=>!decide (f b[nb-1]<f (tA i))) (λi p=>by rw[Ar (by simp)]) (λi j C hj h=>?_) λk dj al au=>?_
      ·have:=cy (i:=i) (j:=j) (by lia) (by exact EQ);simp at h ⊢;lia
      have al:∀i,i<k->f (tA i)<=f b[nb-1]:=λi p=>by have:=al i p;simpa using this
      have au:∀i,k<=i->i<na->f b[nb-1]<f (tA i):=λi p hj=>by have:=au i p hj;simpa using this
      have M1:HP f a b (J++(a.extract k na).reverse) k nb:=M.segA dj λi p h1 h2 j hj C=>by have h3:=au i h1 h2;rw[ca _ p] at h3;exact BP (r_ sb (i:=j) (j:=nb-1) (CL C) a0)<|BM h3
      have pB:∀j (hj:j<a.size),j<k->f a[j]<=f b[nb-1]:=λj hj C=>by have h1:=al j C;rw[ca _ hj] at h1;exact h1
      dsimp only;generalize e8:na-k=cn;generalize dp:J=o0;generalize dv:na=j0;revert j0;revert o0;refine mN (P:=λ(o:XA) (j:Nat)=>HP f a b o j nb/\J.size<=o.size/\0<j/\∀j' (hj:j'<a.size),j'<j->f a[j']<=f b[nb-1]) (x:=J) (i:=na) (λa1 l hP=>?tail) (λck=>?hN) λck key=>?hY
      case hN=>
       obtain rfl:k=na:=by lia
       exact⟨M,An _,by lia,pB⟩
      case hY=>
       by_cases e1:(k==0)=true
       ·refine xt e1 ?_;exact Af ⟨⟨_,rfl⟩,.inl ⟨_,rfl,M1.done (by simpa using e1)⟩⟩
       ·refine jy e1 ?_;have e1:¬k=0:=by simpa using e1
        exact key _ _ ⟨M1,by rw[BU];exact Bg _ _,by exact E4,pB⟩
      clear pB M1 al au;obtain⟨M1,h3,l3,pB⟩:=hP
      all_goals
       have e5:=M1.la;have av:l-1<a.size:=by lia
       refine Ab<|xh (ab (nb-1) a0) ?_;have M2:=M1.preB (by exact jU) pB;have s2:(a1.push b[nb-1]).size=a1.size+1:=Bu _;by_cases e2:(nb-1==1)=true
       case' pos=>
        refine xt e2 ?_;exact Af ⟨⟨_,rfl⟩,.inl ⟨_,rfl,M2.last (by simpa using e2) hb h0⟩⟩
       case' neg=>
        refine jy e2 ?_;have e2:¬nb-1=1:=by simpa using e2
        refine Ab<|xh (a5 (l-1) av) ?_;refine Ab<|cW O hk (bm (l-1) av) (by lia) tB (λi p=>⟨bg _ (by exact rA),cB _ (by lia)⟩) (λi=>decide<|f (tB i)<f a[l-1]) (λi p=>by rw[Aw rfl]) (λi j C hj h=>?_) λk2 cm a4 a2=>?_
        ·have:=cP (i:=i) (j:=j) (by lia) (by exact rA);simp at h ⊢;lia
        have a4:∀i,i<k2->f (tB i)<f a[l-1]:=λi p=>by have:=a4 i p;simpa using this
        have a2:∀i,k2<=i->i<nb-1->f a[l-1]<=f (tB i):=λi p hj=>by have:=a2 i p hj;simpa using this
        have k1:0<k2:=by
         rcases Nat.eq_zero_or_pos k2 with h|h
         ·exfalso;have h5:=a2 0 (by exact xQ) (by lia);rw[bf _ hb] at h5;have h6:=h0 a[l-1] (by simp);lia
         ·exact h
        have M3:HP f a b (a1.push b[nb-1]++(b.extract k2<|nb-1).reverse) l k2:=M2.segB cm λi p h1 h2 j hj C=>by have h5:=a2 i h1 h2;rw[bf _ p] at h5;exact BP (r_ sa (i:=j) (j:=l-1) (CL C) av) h5
        have pA:∀j (hj:j<b.size),j<k2->f b[j]<=f a[l-1]:=λj hj C=>by have h5:=a4 j C;rw[bf _ hj] at h5;exact BM h5
        dsimp only;generalize dV:nb-1-k2=e9;obtain⟨o3,e0⟩:∃o,o=a1.push b[nb-1]:=⟨_,rfl⟩;obtain⟨aL,cv⟩:∃i,i=nb-1:=⟨_,rfl⟩;have eb:b[nb-1]=b[aL]'(by lia):=by subst cv;rfl
        rw[<-e0] at s2 M2 M3 ⊢;rw[<-cv] at M2 M3 dV cm ⊢;generalize dp:o3=o0;generalize dv:aL=j0;revert j0;revert o0;refine mN (P:=λ(o:XA) (j:Nat)=>HP f a b o l j/\a1.size+1<=o.size/\1<j/\∀j' (hj:j'<b.size),j'<j->f b[j']<=f a[l-1]) (x:=o3) (i:=aL) (λbd ec hP=>?tail2) (λck=>?hN) λck key=>?hY
        case hN=>
         obtain rfl:k2=aL:=by lia
         exact⟨M2,by lia,by lia,pA⟩
        case hY=>
         by_cases e3:(k2==1)=true
         ·refine xt e3 ?_;exact Af ⟨⟨_,rfl⟩,.inl ⟨_,rfl,M3.last (by simpa using e3) hb h0⟩⟩
         ·refine jy e3 (jy (show ¬(k2==0)=true by simp;exact Ih) ?_);have e3:¬k2=1:=by simpa using e3
          exact key _ _ ⟨M3,by rw[BU];lia,by lia,pA⟩
        clear pA M3 a4 a2;obtain⟨M3,h4,l4,pA⟩:=hP
        all_goals
         refine Ab<|xh (a5 (l-1) av) ?_;have M4:=M3.preA l3 pA;have s4:(bd.push a[l-1]).size=bd.size+1:=Bu _;by_cases e4:(l-1==0)=true
         ·refine xt e4 ?_;exact Af ⟨⟨_,rfl⟩,.inl ⟨_,rfl,M4.done (by simpa using e4)⟩⟩
         ·refine jy e4 ?_;have e4:¬l-1=0:=by simpa using e4
          refine fg (λ_=>?_) λ_=>?_
          ·exact Af ⟨⟨_,rfl⟩,.inr ⟨_,_,_,_,_,_,rfl,M4,by exact E4,l4,by lia⟩⟩
          ·exact Af ⟨⟨_,rfl⟩,_,_,_,_,_,_,rfl,M4,by lia,l4,by lia⟩
    ·rintro c U ⟨⟨g',rfl⟩,na,nb,J,bh,ac,bc,rfl,M,t,T,bb⟩;have:=M.sz;omega
    ·rintro c U ⟨⟨g',rfl⟩,h⟩;rcases h with⟨r,er,hr⟩|⟨na,nb,e6,de,ac,bc,rfl,M,t,T,bb⟩
     ·obtain⟨c1,c2⟩:=c;cases er;exact Af ⟨⟨g',rfl⟩,r,rfl,hr⟩
     ·dsimp only;refine Ab<|wpS_modify ?_;exact Af ⟨⟨_,rfl⟩,_,_,_,_,rfl,M,t,T,by lia⟩
 ·rintro c U ⟨⟨g,rfl⟩,na,nb,a3,mg,rfl,M,t,T,hs⟩;have:=M.sz;lia
 ·rintro c U ⟨⟨g,rfl⟩,r,er,hr⟩;obtain⟨c1,c2⟩:=c;cases er;exact Af<|q r g hr
end
theorem R8{σ:Type}{st I:σ}{Q:PUnit->σ->Prop}(h:Q ⟨⟩ I):wpS M A E s (set I:StateT σ Sem PUnit) Q st:=by unfold wpS;rw[StateT.run_set];exact Ap ⟨rfl,h⟩
theorem oO{α:Type}:∀(m:List α) (arr:Array α) (i k:Nat),i+k+m.length<=arr.size->((m.zipIdx k).foldl (λ(a:Array α) (I:α×Nat)=>a.setIfInBounds (i+I.2) I.1) arr).toList=arr.toList.take (i+k)++(m++arr.toList.drop (i+k+m.length))
 |[],arr,i,k,h=>by simp
 |x::m,arr,i,k,h=>by
  rw[List.zipIdx_cons,List.foldl_cons];simp only[Az] at h;rw[oO m _ i (k+1) (by simp;lia)];have e:(arr.setIfInBounds (i+k) x).toList=arr.toList.set (i+k) x:=by simp
  have l:arr.toList.length=arr.size:=A7;rw[e,List.drop_set,Aw (by exact Bg _ _),<-Es,Bk,B3 (by lia),List.take_set_of_le (by simp +arith only),Az];simp;congr 1;simp +arith only
section
variable {prog:Xl}{w:Xm}{κ:SortKind}{Ok:Keyed->Prop}{f:XB}
theorem vL{l:Xz}(s:l.Pairwise λx y=>f x<=f y)(I:i<=j)(J:j<l.length):f (l[i]'(by exact pG))<=f l[j]:=by
 rcases Ds I with h|h
 ·exact CS.mp s i j (by exact pG) J h
 ·subst h;exact C4 _
theorem Go{l:Xz}{x:Keyed}(h:x∈l):∃i,∃hi:i<l.length,l[i]=x:=BN h
theorem Gp{l:Xz}{x:Keyed}(h:x∈l.take m):∃i,∃hi:i<l.length,i<m/\l[i]=x:=by obtain⟨i,hi,rfl⟩:=BN h;rw[A5] at hi;exact⟨i,by lia,by lia,BK.symm⟩
theorem Fu{l:Xz}{x:Keyed}{k:Nat}(h:x∈l.drop k):∃i,∃hi:i<l.length,k<=i/\l[i]=x:=by obtain⟨i,hi,rfl⟩:=BN h;rw[BR] at hi;exact⟨k+i,by lia,Bg _ _,DC.symm⟩
theorem R9(O:yS prog w A s κ Ok f){st:SortSt}{X Y:Xz}{w1 w2:Nat}{Q:Bool->SortSt->Prop}(hk:kindOf st=κ)(hf:failedOf st=none)(hp:pendingOf st=#[(0,X.length,w1),(X.length,Y.length,w2)])(ea:(arrOf st).toList=X++Y)(ok:∀x∈X++Y,Ok x)
 (lX:0<X.length) (lY:0<Y.length) (sX:X.Pairwise λx y=>f x<=f y) (sY:Y.Pairwise λx y=>f x<=f y) (q:∀T,failedOf T=none->(pendingOf T).size=1->(arrOf T).toList.Perm (X++Y)->((arrOf T).toList.Pairwise λx y=>f x<=f y)->Q true T):wpS (model prog w) A E s (mergeAt' 0) Q st:=by
 have a1:(pendingOf st)[0]?=some (0,X.length,w1):=by rw[hp];rfl
 have a2:(pendingOf st)[0+1]?=some (X.length,Y.length,w2):=by rw[hp];rfl
 have a3:(((pendingOf st).setIfInBounds 0 (0,X.length+Y.length,w1)).eraseIdxIfInBounds<|0+1).size=1:=by simp[hp]
 refine Ab<|wpS_get ?_;rw[show(sortPriv% PySem.Builtin.SortState.pending) st=pendingOf st from rfl,a1,a2];dsimp only;refine Ab<|R8 ?_;generalize ((pendingOf st).setIfInBounds 0 (0,X.length+Y.length,w1)).eraseIdxIfInBounds (0+1)=pn at a3 ⊢;have al:∀i (I:i<X.length),(arrOf st)[i]?=some X[i]:=λi I=>by rw[<-Bh,ea,AD I];simp
 have au:∀i (I:i<Y.length),(arrOf st)[X.length+i]?=some Y[i]:=λi I=>by rw[<-Bh,ea,AK<|Bg _ _,Bj];simp
 have a7:∀x∈X,Ok x:=λx l=>ok x<|Al _ l;have ab:∀x∈Y,Ok x:=λx l=>ok x<|Ac _ l;obtain⟨tX,av⟩:∃t:Nat->Keyed,t=λi=>(X[i]?).getD X[0]:=⟨_,rfl⟩;have p:∀i (I:i<X.length),tX i=X[i]:=λi I=>by rw[av];simp[I]
 obtain⟨tY,aL⟩:∃t:Nat->Keyed,t=λi=>(Y[i]?).getD X[0]:=⟨_,rfl⟩;have C:∀i (I:i<Y.length),tY i=Y[i]:=λi I=>by rw[aL];simp[I]
 refine Ab<|xh (x:=Y[0]) (au 0 lY) ?_;refine Ab (cW O hk (ab _<|Cq _) lX tX (λi I=>⟨by rw[p i I,CP];exact al i I,by rw[p i I];exact a7 _<|Cq _⟩) (λi=>!decide (f Y[0]<f (tX i))) (λi I=>by rw[Ar (by simp)]) (λi j ac J h=>?_) λk ba a4 a5=>?_)
 ·have:=vL sX ac J;rw[p j J] at h;rw[p i (by exact pG)];simp at h ⊢;omega
 have a4:∀i (I:i<k),f (X[i]'(by exact EQ))<=f Y[0]:=λi I=>by have:=a4 i I;rw[p i (by lia)] at this;simpa using this
 have a5:∀i (J:i<X.length),k<=i->f Y[0]<f X[i]:=λi J I=>by have:=a5 i I J;rw[p i J] at this;simpa using this
 dsimp only;rw[CP];by_cases c:(X.length-k==0)=true
 ·rw[Aw c];have c:X.length-k=0:=by simpa using c
  refine Af (q _ hf a3 (by show(arrOf st).toList.Perm _;rw[ea]) (by show(arrOf st).toList.Pairwise _;rw[ea];refine AV.mpr ⟨sX,sY,λx l y hy=>?_⟩;obtain⟨i,I,rfl⟩:=Go l;obtain⟨j,J,rfl⟩:=Go hy;exact BP (a4 i (by lia))<|vL sY (A2 _) J))
 rw[Ar c];have c:k<X.length:=by
  have:¬X.length-k=0:=by simpa using c
  lia
 refine Ab (xh (x:=X[X.length-1]) (by rw[show k+(X.length-k)-1=X.length-1 by lia];exact al _ (by lia)) ?_);refine Ab (cW O hk (a7 _<|Cq _) (by lia) tY (λi I=>⟨by rw[C i I];exact au i I,by rw[C i I];exact ab _<|Cq _⟩) (λi=>decide<|f (tY i)<f X[X.length-1]) (λi I=>by rw[Aw rfl]) (λi j ac J h=>?_) λm bb a0 o=>?_)
 ·have:=vL sY ac J;rw[C j J] at h;rw[C i (by exact pG)];simp at h ⊢;omega
 have a0:∀i (I:i<m),f (Y[i]'(by exact EQ))<f X[X.length-1]:=λi I=>by have:=a0 i I;rw[C i (by lia)] at this;simpa using this
 have o:∀i (J:i<Y.length),m<=i->f X[X.length-1]<=f Y[i]:=λi J I=>by have:=o i I J;rw[C i J] at this;simpa using this
 have m0:0<m:=Nat.pos_of_ne_zero λh=>by have h5:=o 0 lY (by lia);have h6:=a5 (X.length-1) (by lia) (by lia);omega
 dsimp only;rw[Ar (show ¬(m==0)=true by simp;lia)];have ex:((arrOf st).extract k X.length).toList=X.drop k:=by rw[i9,ea,List.drop_append_of_le_length (by lia),Dh (by simp),Bb (by simp)]
 have ey:((arrOf st).extract X.length<|X.length+m).toList=Y.take m:=by rw[i9,ea,List.drop_left,Bj]
 have jv:∀(r:XA) (g:Nat),km f (X.drop k) (Y.take m) r.toList->Q (failedOf st).isNone (SortSt.mk' (kindOf st) (r.toList.zipIdx.foldl (λa x=>a.setIfInBounds (k+x.2) x.1)<|arrOf st) pn g<|failedOf st):=by
  rintro r g ⟨hm,hs⟩;have lr:r.toList.length=X.length-k+m:=by rw[hm.length_eq];simp;lia
  have pt:=oO r.toList (arrOf st) k 0 (by rw[lr,<-A7,ea,Aa];lia);rw[ea,lr,Nat.add_zero,show k+(X.length-k+m)=X.length+m by lia,Dh (by lia),List.drop_length_add_append] at pt;rw[hf];refine q _ rfl a3 ((Eg pt).trans ?_)<|Eq.subst (motive:=List.Pairwise λx y=>f x<=f y) pt.symm ?_
  ·have h1:=(BE<|X.take k).mpr<|(BB<|Y.drop m).mpr hm;rwa[AA<|X.drop k,A3,<-AA (X.take k) (X.drop k),A3] at h1
  ·refine AV.mpr ⟨sX.sublist<|DB _ _,AV.mpr ⟨hs,sY.sublist<|List.drop_sublist _ _,λx l y hy=>?_⟩,λx l y hy=>?_⟩
   ·obtain⟨j,J,h2,rfl⟩:=Fu hy;rcases Ak.mp (hm.mem_iff.mp l) with h|h
    ·obtain⟨i,I,_,rfl⟩:=Fu h;exact BP (vL sX (by lia) (by lia))<|o j J h2
    ·obtain⟨i,I,h1,rfl⟩:=Gp h;exact vL sY (by lia) J
   ·obtain⟨i,I,h1,rfl⟩:=Gp l;have low:∀z∈Y,f X[i]<=f z:=λz hz=>by obtain⟨j,J,rfl⟩:=Go hz;exact BP (a4 i h1) (vL sY (A2 _) J)
    rcases Ak.mp hy with h|h
    ·rcases Ak.mp (hm.mem_iff.mp h) with h|h
     ·obtain⟨j,J,h2,rfl⟩:=Fu h;exact vL sX (by lia) J
     ·exact low y<|BC h
    ·exact low y<|CH h
 generalize (arrOf st).extract k X.length=U at ex ⊢;generalize (arrOf st).extract X.length (X.length+m)=V at ey ⊢;have zU:U.size=X.length-k:=by rw[<-A7,ex];simp
 have zV:V.size=m:=by rw[<-A7,ey];simp;lia
 have q5:0<U.size:=by lia
 have q6:0<V.size:=by lia
 have v0:V[0]=Y[0]:=by
  have:V.toList[0]?=(Y.take m)[0]?:=by rw[ey]
  rw[Bh,List.getElem?_take,Aw m0] at this;simpa[q6,lY] using this
 have ul:U[U.size-1]=X[X.length-1]:=by
  have:U.toList[U.size-1]?=(X.drop k)[U.size-1]?:=by rw[ex]
  rw[Bh,List.getElem?_drop,show k+(U.size-1)=X.length-1 by lia] at this;rw[Array.getElem?_eq_getElem (by lia),Ao (by lia)] at this;exact AY this
 have q1:∀x∈U.toList,Ok x:=λx l=>a7 x (CH (by rw[ex] at l;exact l));have q2:∀x∈V.toList,Ok x:=λx l=>ab x (BC (by rw[ey] at l;exact l));have q3:U.toList.Pairwise λx y=>f x<=f y:=by rw[ex];exact sX.sublist<|List.drop_sublist _ _
 have q4:V.toList.Pairwise λx y=>f x<=f y:=by rw[ey];exact sY.sublist<|DB _ _
 have q7:∀x∈U.toList,f V[0]<f x:=λx l=>by rw[v0];rw[ex] at l;obtain⟨i,I,h1,rfl⟩:=Fu l;exact a5 i I h1
 have q8:∀x∈V.toList,f x<f U[U.size-1]:=λx l=>by rw[ul];rw[ey] at l;obtain⟨i,I,h1,rfl⟩:=Gp l;exact a0 i h1
 rw[<-ex,<-ey] at jv;split
 ·exact Ab<|R6 O hk q1 q2 q3 q4 q5 q6 q7 q8 λr g h=>Ab<|wpS_modify<|Ab<|wpS_get<|Af<|jv r g h
 ·exact Ab<|R7 O hk q1 q2 q3 q4 q5 q6 q7 q8 λr g h=>Ab<|wpS_modify<|Ab<|wpS_get<|Af<|jv r g h
end
theorem lH{arr:Array α}{P R:List α}(h:arr.toList=P++R)(J:n<=R.length):(mirror arr P.length (P.length+n)<|(P.length+n-P.length) / 2).toList=P++((R.take n).reverse++R.drop n):=by
 have U:P.length+n<=arr.size:=by rw[<-A7,h,Aa];exact Nat.add_le_add_left J _
 have ap:∀(B:List α) (t:Nat),(P++B)[P.length+t]?=B[t]?:=λB t=>by rw[AK<|Bg ..,Bj]
 have I:(R.take n).length=n:=C9 J;refine DD λk=>?_;rw[Bh,getElem?_mirror_all U,<-Bh,<-Bh,h];rcases Ci k P.length with c|c
 ·rw[Ar λz=>Ew.mpr z.1 c,AD c,AD c]
 obtain⟨j,rfl⟩:=B1 c;rw[ap ((R.take n).reverse++R.drop n) j];rcases Ci j n with d|d
 ·rw[Aw ⟨c,Nat.add_lt_add_left d _⟩,show P.length+(P.length+n)-1-(P.length+j)=P.length+(n-1-j) by lia,ap,AD (by rw[Do,I];exact d),List.getElem?_reverse (by rw[I];exact d),I,List.getElem?_take,Aw (by lia)]
 ·obtain⟨t,rfl⟩:=B1 d;rw[Ar λz=>Ew.mpr (Bg n t)<|Nat.lt_of_add_lt_add_left z.2,ap,AK (by rw[Do,I];exact d),Do,I,Bj,List.getElem?_drop]
theorem Sa{arr:Array α}{A Y Z:List α}{r:α}(h:arr.toList=A++(Y++r::Z)):(bubble arr (A.length+Y.length) Y.length).toList=A++r::(Y++Z):=by
 have J:A.length+Y.length<arr.size:=by rw[<-A7,h,Aa,Aa];exact Nat.add_lt_add_left (C5<|Ce _) _
 refine DD λi=>?_;rw[Bh,getElem?_bubble J _<|C0 ..,Nat.add_sub_cancel,<-Bh,<-Bh,<-Bh,h];rcases Ci i A.length with c|c
 ·rw[Ar<|A6 c,Ar λz=>Nat.lt_asymm z.1 c,AD c,AD c]
 obtain⟨j,rfl⟩:=B1 c;have ap:∀(B:List α) (t:Nat),(A++B)[A.length+t]?=B[t]?:=λB t=>by rw[AK<|Bg ..,Bj]
 have I:∀(B:List α) (t:Nat),(Y++B)[Y.length+t]?=B[t]?:=λB t=>by rw[AK<|Bg ..,Bj]
 rw[ap (r::(Y++Z)) j];cases j with
 |zero=>rw[Aw<|Nat.add_zero _,ap,List.getElem?_cons_zero];exact I _ 0
 |succ j=>
  rw[Ar<|DU<|C5<|Ce _,C2,show A.length+(j+1)-1=A.length+j from rfl,ap _ j,ap _<|j+1];rcases Ci j Y.length with d|d
  ·rw[Aw ⟨C5<|Ce _,Nat.add_le_add_left d _⟩,AD d,AD d]
  ·obtain⟨t,rfl⟩:=B1 d;rw[Ar λz=>Ew.mpr d<|Nat.le_of_add_le_add_left z.2,I,show Y.length+t+1=Y.length+(t+1) from rfl,I,C2]
theorem uX{arr:Array α}{P R:List α}{k l:Nat}(h:arr.toList=P++R)(I:k<R.length)(J:l<=k):(bubble arr (P.length+k)<|P.length+k-(P.length+l)).toList=P++(R.take l++R[k]::((R.drop l).take (k-l)++R.drop (k+1))):=by
 obtain⟨d,rfl⟩:=B1 J;have U:R.take l++((R.drop l).take d++R[l+d]::R.drop (l+d+1))=R:=by rw[<-BY I,<-List.drop_drop,A3,A3]
 have g:(R.take l).length=l:=C9<|AL J<|BJ I;have j:((R.drop l).take d).length=d:=C9 (by rw[BR];lia);have b:=Sa (arr:=arr) (A:=P++R.take l) (Y:=(R.drop l).take d) (Z:=R.drop<|l+d+1) (r:=R[l+d]) (by rw[AA,U];exact h);rw[Aa,g,j,AA] at b;rw[Bj,show P.length+(l+d)=P.length+l+d from(Es _ _ _).symm,Bj];exact b
section
variable {prog:Xl}{w:Xm}{κ:SortKind}{Ok:Keyed->Prop}{f:XB}
structure Tl(κ:SortKind)(Ok:Keyed->Prop)(st:SortSt)(P R:Xz):Prop where
 kind:kindOf st=κ
 arr:(arrOf st).toList=P++R
 ok:∀x∈R,Ok x
theorem jJ(O:yS prog w A s κ Ok f){st:SortSt}{P R:Xz}(T:Tl κ Ok st P R)(hi:i<R.length)(J:j<R.length){a b:Nat}(ea:a=P.length+i)(eb:b=P.length+j){Q:Option Bool->SortSt->Prop}(q:Q (some<|decide<|f R[i]<f R[j]) st):wpS (model prog w) A E s (ltAt' a b) Q st:=by
 have I:∀i (hi:i<R.length),(arrOf st)[P.length+i]?=some R[i]:=λi hi=>by rw[<-Bh,T.arr,AK (by exact Bg _ _),Bj];simp
 subst ea eb;rw[ltAt'_eq];refine Ab<|wpS_get ?_;refine Ab<|xh (I i hi)<|Ab<|xh (I j J) ?_;exact w_lt O T.kind (T.ok _<|Cq _) (T.ok _<|Cq _) q
def Up(f:XB)(R:Xz)(n:Nat):Prop:=∀i j (_:i<=j) (_:j<R.length),j<n->f (R[i]'(by exact pG))<=f R[j]
theorem Up.snoc{R:Xz}(h:Up f R n)(h1:1<=n)(g:n<R.length)(hs:f (R[n-1]'(by exact rD))<=f R[n]):Up f R (n+1):=λi j I J U=>by
 rcases Ci j n with c|c
 ·exact h i j I J c
 ·have e:j=n:=by lia
  subst e;rcases Ci i j with c2|c2
  ·exact BP (h i (j-1) (by omega) (by exact rD) (by exact zZ)) hs
  ·have e:i=j:=by lia
   subst e;exact C4 _
theorem Up.pair{R:Xz}(h:Up f R n)(g:n<=R.length):(R.take n).Pairwise λx y=>f x<=f y:=by rw[CS];intro i j I J U;rw[A5] at I J;rw[BK,BK];exact h i j (by exact jU) (by lia) (by lia)
end
section
variable {prog:Xl}{w:Xm}{κ:SortKind}{Ok:Keyed->Prop}{f:XB}
theorem Tl.same{st:SortSt}{P R R':Xz}(T:Tl κ Ok st P R)(p:R'.Perm R){arr:XA}(h:arr.toList=P++R'):Tl κ Ok (setArr st arr) P R':=⟨T.kind,h,λx I=>T.ok x<|p.mem_iff.mp I⟩
theorem Up.one{R:Xz}:Up f R 1:=λi j I J h=>by
 have:i=j:=by lia
 subst this;exact C4 _
theorem jF{c:Prop}{_:Decidable c}{K T:StateT SortSt Sem α}{P:SortSt->Prop}{Q:α->SortSt->Prop}{st:SortSt}(J:¬c->P st)(key:∀I,P I->wpS (model prog w) A E s K Q I)
 (hp:c->(∀I,P I->wpS (model prog w) A E s K Q I)->wpS (model prog w) A E s T Q st):wpS (model prog w) A E s (if c then T else K) Q st:=by
 by_cases h:c
 ·rw[Aw h];exact hp h key
 ·rw[Ar h];exact key st<|J h
def gv(f:XB)(R:Xz)(n:Nat):Prop:=∀i j (_:i<=j) (_:j<R.length),j<n->f R[j]<=f (R[i]'(by exact pG))
theorem Jn{R R':Xz}(e:R'.map f=R.map f)(h1:i<R'.length)(h2:i<R.length):f R'[i]=f R[i]:=by
 have:(R'.map f)[i]?=(R.map f)[i]?:=by rw[e]
 rw[Au,Au,Ao h1,Ao h2] at this;exact AY this
theorem gv.same{R R':Xz}(D:gv f R n)(e:R'.map f=R.map f):gv f R' n:=λi j I U J=>by
 have l:R'.length=R.length:=by have:=BS List.length e;rwa[Ah,Ah] at this
 rw[Jn e U (by lia),Jn e (by lia) (by lia)];exact D i j I (by lia) J
theorem gv.snoc{R:Xz}(h:gv f R n)(h1:1<=n)(g:n<R.length)(hs:f R[n]<=f (R[n-1]'(by exact rD))):gv f R (n+1):=λi j I J U=>by
 rcases Ci j n with c|c
 ·exact h i j I J c
 ·have e:j=n:=by lia
  subst e;rcases Ci i j with c2|c2
  ·exact BP hs<|h i (j-1) (by omega) (by exact rD) (by exact zZ)
  ·have e:i=j:=by lia
   subst e;exact C4 _
theorem nI{arr:XA}{P R:Xz}{a b:Nat}{v:Int}(h:arr.toList=P++R)(U:a<=b)(o:b<=R.length)(g:∀i (_:i<R.length),a<=i->i<b->f R[i]=v):
 ∃R',(mirror arr (P.length+a) (P.length+b)<|(P.length+b-(P.length+a)) / 2).toList=P++R'/\R'.Perm R/\R'.map f=R.map f:=by
 have j:(P++R.take a).length=P.length+a:=by simp;lia
 have I:R=R.take a++((R.drop a).take (b-a)++(R.drop a).drop (b-a)):=by rw[A3,A3]
 have m:=lH (P:=P++R.take a) (R:=R.drop a) (n:=b-a) (by rw[h,AA,A3]) (by simp;lia);rw[j,show P.length+a+(b-a)=P.length+b by lia,AA] at m;refine⟨_,m,?_,?_⟩
 ·refine List.Perm.trans ?_<|Eg I.symm;exact(BE _).mpr ((BB _).mpr<|DE _)
 ·have r:((R.drop a).take<|b-a).map f=List.replicate (b-a) v:=by refine List.ext_getElem (by simp;lia) λi p l=>?_;rw[List.getElem_map,BK,DC,List.getElem_replicate];rw[B9] at l;exact g _ _ (by lia) (by lia)
  have J:=BS (List.map f) I;rw[AG,AG,r] at J;rw[AG,AG,List.map_reverse,r,List.reverse_replicate,J]
theorem Sb(O:yS prog w A s κ Ok f){st:SortSt}{P R:Xz}(T:Tl κ Ok st P R)(h1:1<=R.length){Q:Option Nat->SortSt->Prop}
 (q:∀n R' arr,1<=n->n<=R.length->R'.Perm R->arr.toList=P++R'->Up f R' n->Q (some n) (setArr st arr)):wpS (model prog w) A E s (countRun' P.length R.length) Q st:=by
 have aL:setArr st (arrOf st)=st:=rfl;refine Ab (AX (AM (I:=λx c g=>g=st/\c=(none,x)/\Up f R x)
  (Q:=λc g=>g=st/\∃n,c=(none,n)/\1<=n/\n<=R.length/\Up f R n/\(n=R.length\/∃h:n<R.length,f R[n]<f (R[n-1]'(by exact rD)))) ?_ ?_ ⟨rfl,rfl,Up.one⟩) ?_)
 ·rintro x c g t hx ⟨rfl,rfl,U⟩;dsimp only;refine Ab<|jJ O T (i:=x) (j:=x-1) hx (by exact rD) rfl (by lia) ?_;dsimp only;by_cases c:f R[x]<f (R[x-1]'(by omega))
  ·rw[Ax c,Aw rfl];exact Af ⟨rfl,x,rfl,t,by exact jU,U,.inr ⟨hx,c⟩⟩
  ·rw[AB c,Ar (by simp)];exact Af ⟨rfl,rfl,U.snoc t hx (by omega)⟩
 ·rintro c g ⟨rfl,rfl,U⟩;exact⟨rfl,_,rfl,by lia,by lia,by rw[Df h1] at *;exact U,.inl (by lia)⟩
 ·rintro c g ⟨rfl,n,rfl,a0,a3,U,a5⟩;dsimp only;by_cases c1:(n==R.length)=true
  ·rw[Aw c1];exact Af<|q n R (arrOf g) a0 a3 (CM _) T.arr U
  rw[Ar c1];have c1:¬n=R.length:=by simpa using c1
  have a7:n<R.length:=by exact zW
  have hd:f R[n]<f (R[n-1]'(by omega)):=by
   rcases a5 with h|⟨h,h'⟩
   ·exact absurd h c1
   ·exact h'
  refine jF (P:=λo=>∃arr R',o=setArr g arr/\arr.toList=P++R'/\R'.Perm R/\gv f R' (n+1)) (λc2=>⟨arrOf g,R,rfl,T.arr,CM _,?_⟩) ?_ λc2 key=>?_
  ·obtain rfl:n=1:=by lia
   exact gv.snoc (λi j ab hj a4=>by (have e:i=j:=by lia);(subst e;exact C4 _)) (An _) a7<|BM hd
  rotate_left
  ·refine Ab<|jJ O T (i:=0) (j:=n-1) (by assumption) (by exact rD) rfl (by omega) ?_;dsimp only;by_cases c3:f R[0]<f (R[n-1]'(by omega))
   ·rw[Ax c3,Aw rfl];exact Af<|q n R (arrOf g) a0 a3 (CM _) T.arr U
   rw[AB c3,Ar (by simp)];have al:∀i (_:i<R.length),0<=i->i<n->f R[i]=f R[0]:=λi hi _ av=>by have a1:=U 0 i (A2 _) hi av;have a2:=U i (n-1) (by lia) (by lia) (by lia);lia
   obtain⟨R',m1,m2,m3⟩:=nI (f:=f) T.arr (A2 n) a3 al;refine Ab<|wpS_modify<|key _ ⟨_,R',rfl,m1,m2,gv.same (gv.snoc (λi j ab hj a4=>?_) a0 a7<|BM hd) m3⟩;rw[al j hj (A2 _) a4,al i (by lia) (A2 _) (by lia)];exact C4 _
  rintro _ ⟨arr,R0,rfl,r,ac,D0⟩;refine Ab<|wpS_lift<|BZ ⟨rfl,?_⟩;have l0:R0.length=R.length:=ac.length_eq;refine Ab (AX (AM (I:=λx c o=>∃J arr R',c=(none,x,J)/\o=setArr g arr/\arr.toList=P++R'/\R'.Perm R/\gv f R' x/\J+1<=x/\∃v,∀i (_:i<R'.length),x-(J+1)<=i->i<x->f R'[i]=v)
   (Q:=λc o=>∃n J arr R',c=(none,n,J)/\o=setArr g arr/\arr.toList=P++R'/\R'.Perm R/\gv f R' n/\J+1<=n/\n<=R.length/\∃v,∀i (_:i<R'.length),n-(J+1)<=i->i<n->f R'[i]=v) ?_ ?_ ⟨0,arr,R0,rfl,rfl,r,ac,D0,by lia,f<|R0[n]'(by lia),λi hi h2 h3=>by (have e:i=n:=by lia);(subst e;rfl)⟩) ?_)
  ·rintro x c o t hx ⟨J,arr,p,rfl,rfl,r,l,D,hq,v,C⟩;have l1:p.length=R.length:=l.length_eq;have T1:=T.same l r;dsimp only;refine Ab<|jJ O T1 (i:=x) (j:=x-1) (by lia) (by lia) rfl (by lia) ?_;dsimp only;by_cases c:f (p[x]'(by lia))<f (p[x-1]'(by omega))
   ·rw[Ax c,Aw rfl];refine jF (P:=λo=>∃arr R',o=setArr g arr/\arr.toList=P++R'/\R'.Perm R/\gv f R' (x+1)) (λ_=>⟨arr,p,rfl,r,l,D.snoc (by lia) (by lia)<|BM c⟩) ?_ λc2 key=>?_
    ·rintro _ ⟨arr,R',rfl,r,l,D⟩;exact Af ⟨0,arr,R',rfl,rfl,r,l,D,by lia,f (R'[x]'(by have:=l.length_eq;lia)),λi hi h2 h3=>by (have e:i=x:=by lia);(subst e;rfl)⟩
    ·obtain⟨R',m1,m2,m3⟩:=nI (f:=f) (a:=x-(J+1)) (b:=x) r (by lia) (by lia) C;refine Ab<|wpS_modify<|key _ ⟨_,R',rfl,?_,m2.trans l,gv.same (D.snoc (by lia) (by lia)<|BM c) m3⟩;rw[<-m1];show(mirror arr (P.length+x-(J+1)) (P.length+x)<|(P.length+x-(P.length+x-(J+1))) / 2).toList=_;rw[show P.length+x-(J+1)=P.length+(x-(J+1)) by lia]
   ·rw[AB c,Ar (by simp)];refine Ab<|jJ O T1 (i:=x-1) (j:=x) (by omega) (by lia) (by lia) rfl ?_;dsimp only;by_cases c3:f (p[x-1]'(by omega))<f (p[x]'(by lia))
    ·rw[Ax c3,Aw rfl];exact Af ⟨x,J,arr,p,rfl,rfl,r,l,D,hq,by lia,v,C⟩
    ·rw[AB c3,Ar (by simp)];refine Af ⟨J+1,arr,p,rfl,rfl,r,l,D.snoc (by lia) (by lia) (by lia),by lia,v,λi hi h2 h3=>?_⟩;rcases Ci i x with h|h
     ·exact C i hi (by lia) h
     ·have:i=x:=by lia
      subst this;rw[<-C (i-1) (by lia) (by lia) (by lia)];lia
  ·rintro c o ⟨J,arr,p,rfl,rfl,r,l,D,hq,v,C⟩;exact⟨_,J,arr,p,rfl,rfl,r,l,D,hq,by lia,v,C⟩
  ·rintro c o ⟨n,J,arr,p,rfl,rfl,r,l,D,hq,g2,v,C⟩;have l1:p.length=R.length:=l.length_eq;dsimp only;refine jF (P:=λo=>∃arr R',o=setArr g arr/\arr.toList=P++R'/\R'.Perm R/\gv f R' n) (λ_=>⟨arr,p,rfl,r,l,D⟩) ?_ (λc2 key=>?_)
   rotate_left
   ·obtain⟨R',m1,m2,m3⟩:=nI (f:=f) (a:=n-(J+1)) (b:=n) r (by lia) (by lia) C;refine Ab<|wpS_modify<|key _ ⟨_,R',rfl,?_,m2.trans l,D.same m3⟩;rw[<-m1];show(mirror arr (P.length+n-(J+1)) (P.length+n)<|(P.length+n-(P.length+n-(J+1))) / 2).toList=_;rw[show P.length+n-(J+1)=P.length+(n-(J+1)) by lia]
   clear C D r l l1;rintro _ ⟨arr,p,rfl,r,l,D⟩;have l1:p.length=R.length:=l.length_eq;have T1:=T.same l r;have T':=T1.same (R':=(p.take n).reverse++p.drop n) (((BB _).mpr<|DE _).trans (by rw[A3]))<|lH r (by lia);obtain⟨R',eR⟩:∃R',R'=(p.take n).reverse++p.drop n:=⟨_,rfl⟩;have au:R'.Perm R:=by rw[eR];exact(((BB _).mpr<|DE _).trans (by rw[A3])).trans l
   have lR:R'.length=R.length:=au.length_eq;have U':Up f R' n:=λi j ab hj a4=>by
    subst eR;rw[DK (by simp;lia),DK (by simp;lia),List.getElem_reverse,List.getElem_reverse,BK,BK];refine D _ _ ?_ (by simp;omega) ?_
    ·simp;omega
    ·simp;omega
   rw[<-eR] at T';refine Ab<|wpS_modify ?_;refine Ab (AX (AM (I:=λx c o=>o=setArr g (mirror arr P.length (P.length+n)<|(P.length+n-P.length) / 2)/\c=(none,x)/\Up f R' x)
    (Q:=λc o=>o=setArr g (mirror arr P.length (P.length+n)<|(P.length+n-P.length) / 2)/\∃n,c=(none,n)/\1<=n/\n<=R.length/\Up f R' n) ?_ ?_ ⟨rfl,rfl,U'⟩) ?_)
   ·rintro x c o t hx ⟨rfl,rfl,U⟩;dsimp only;refine Ab<|jJ O T' (i:=x) (j:=x-1) (by lia) (by omega) rfl (by lia) ?_;dsimp only;by_cases c:f (R'[x]'(by omega))<f (R'[x-1]'(by omega))
    ·rw[Ax c,Aw rfl];exact Af ⟨rfl,x,rfl,by lia,by exact jU,U⟩
    ·rw[AB c,Ar (by simp)];exact Af ⟨rfl,rfl,U.snoc (by omega) (by lia) (by omega)⟩
   ·rintro c o ⟨rfl,rfl,U⟩;exact⟨rfl,_,rfl,by lia,by lia,U⟩
   ·rintro c o ⟨rfl,n,rfl,k1,k2,U⟩;exact Af<|q n R' _ k1 k2 au T'.arr U
end
section
variable {prog:Xl}{w:Xm}{κ:SortKind}{Ok:Keyed->Prop}{f:XB}
theorem Up.of{R:Xz}(h:(R.take n).Pairwise λx y=>f x<=f y):Up f R n:=λi j I U J=>by have:=vL h (i:=i) (j:=j) I (by simp;lia);rw[BK,BK] at this;exact this
theorem Sc{R:Xz}{k l:Nat}(I:k<R.length)(J:l<=k):(R.take l++R[k]::((R.drop l).take (k-l)++R.drop (k+1))).Perm R:=by
 have e:R=R.take l++((R.drop l).take (k-l)++(R[k]::R.drop (k+1))):=by rw[<-AA,Ft _ J,<-BY I,A3]
 refine List.Perm.trans ?_<|Eg e.symm;exact(BE _).mpr BF.symm
theorem Sd{R:Xz}{k l:Nat}(p:k<R.length)(r:l<=k)(U:Up f R k)(lo:∀i (_:i<l),f (R[i]'(by lia))<=f R[k])(hi:∀i (_:i<k),l<=i->f R[k]<=f (R[i]'(by exact rA))):
 Up f (R.take l++R[k]::((R.drop l).take (k-l)++R.drop (k+1))) (k+1):=by
 apply Up.of;have e:R.take l++R[k]::((R.drop l).take (k-l)++R.drop (k+1))=(R.take l++R[k]::(R.drop l).take (k-l))++R.drop (k+1):=by simp
 rw[e,List.take_left' (by simp;lia)];have I:=U.pair<|BJ p;rw[<-Ft R r] at I;have I:=AV.mp I;have t:∀y∈(R.drop l).take (k-l),f R[k]<=f y:=λy J=>by obtain⟨j,o,rfl⟩:=BN J;rw[A5,BR] at o;rw[BK,DC];exact hi (l+j) (by lia) (by exact Bg _ _)
 have C:∀x∈R.take l,f x<=f R[k]:=λx g=>by obtain⟨j,o,rfl⟩:=BN g;rw[A5] at o;rw[BK];exact lo j (by lia)
 refine AV.mpr ⟨I.1,List.pairwise_cons.mpr ⟨t,I.2.1⟩,λx g y J=>?_⟩;rcases Am.mp J with rfl|J
 ·exact C x g
 ·exact I.2.2 x g y J
theorem Se(O:yS prog w A s κ Ok f){st:SortSt}{P R:Xz}(T:Tl κ Ok st P R){ok:Nat}(hn:n<=R.length)(h1:1<=ok)(ho:ok<=n)(U:Up f R ok){Q:Bool->SortSt->Prop}
 (q:∀R' arr,R'.Perm R->arr.toList=P++R'->Up f R' n->Q true (setArr st arr)):wpS (model prog w) A E s (binarySort' P.length n ok) Q st:=by
 have a0:setArr st (arrOf st)=st:=rfl;refine Ab (AX (AM (I:=λx c J=>c=(none,())/\∃R' arr,J=setArr st arr/\R'.Perm R/\arr.toList=P++R'/\Up f R' x)
  (Q:=λc J=>c=(none,())/\∃R' arr,J=setArr st arr/\R'.Perm R/\arr.toList=P++R'/\Up f R' n) ?_ ?_ ⟨rfl,R,arrOf st,rfl,CM _,T.arr,by rw[Dk h1];exact U⟩) ?_)
 ·rintro x c J a1 hx ⟨rfl,R',arr,rfl,p,t,o⟩;have T':=T.same p t;have lR:R'.length=R.length:=p.length_eq;have g:x<R'.length:=by lia
  dsimp only;refine Ab (AX (AM (I:=λy c J=>J=setArr st arr/\∃l r,c=(none,l,r)/\l<=r/\r<=x/\r-l+y<=x/\(∀i (_:i<l) (_:i<R'.length),f R'[i]<=f R'[x])/\(∀i (_:i<x),r<=i->f R'[x]<=f (R'[i]'(by exact rA))))
   (Q:=λc J=>J=setArr st arr/\∃l,c=(none,l,l)/\l<=x/\(∀i (_:i<l) (_:i<R'.length),f R'[i]<=f R'[x])/\(∀i (_:i<x),l<=i->f R'[x]<=f (R'[i]'(by lia)))) ?_ ?_ ⟨rfl,0,x,rfl,A2 _,An _,by exact Nat.sub_le _ _,λi h=>by lia,λi h h'=>by omega⟩) ?_)
  ·rintro y c J _ hy ⟨rfl,l,r,rfl,g1,g2,g3,C,g5⟩;dsimp only;by_cases c:l>=r
   ·rw[Aw c];obtain rfl:l=r:=by lia
    exact Af ⟨rfl,l,rfl,g2,C,g5⟩
   ·rw[Ar c];refine Ab<|jJ O T' (i:=x) (j:=(l+r) / 2) g (by lia) rfl rfl ?_;dsimp only;by_cases e:f R'[x]<f (R'[(l+r) / 2]'(by lia))
    ·rw[Ax e,Aw rfl];refine Af ⟨rfl,l,(l+r) / 2,rfl,by lia,by lia,by omega,C,λi h h'=>?_⟩;exact BP (BM e)<|o _ _ h' (by exact rA) h
    ·rw[AB e,Ar (by simp)];refine Af ⟨rfl,(l+r) / 2+1,r,rfl,by lia,g2,by omega,λi h h'=>?_,g5⟩;exact BP (o i ((l+r) / 2) (by exact Ik) (by lia) (by lia)) (by omega)
  ·rintro c J ⟨rfl,l,r,rfl,g1,g2,g3,C,g5⟩;obtain rfl:l=r:=by lia
   exact⟨rfl,l,rfl,g2,C,g5⟩
  ·rintro c J ⟨rfl,l,rfl,g2,C,g5⟩;dsimp only;refine Ab<|wpS_modify ?_;exact Af ⟨rfl,_,_,rfl,(Sc g g2).trans p,uX t g g2,Sd g g2 o (λi h=>C i h (by lia)) g5⟩
 ·rintro c J ⟨rfl,R',arr,rfl,p,t,o⟩;exact⟨rfl,R',arr,rfl,p,t,by rw[Dk h1,Df ho] at o;exact o⟩
 ·rintro c J ⟨rfl,R',arr,rfl,p,t,o⟩;exact Af<|q R' arr p t o
end
section
variable {prog:Xl}{w:Xm}{κ:SortKind}{Ok:Keyed->Prop}{f:XB}
theorem Sf{N:Nat}(h:N<128):N<=2*(sortPriv% PySem.Builtin.minRun) N N 0:=by
 show N<=2*minRun' N N 0;cases N with
 |zero=>exact A2 _
 |succ r=>
  rw[minRun'_succ];split
  ·lia
  ·cases r with|zero=>lia|succ r=>rw[minRun'_succ,Aw (by lia)];lia
def Gq(f:XB)(I:Nat)(pn:Array<|Nat×Nat×Nat)(X Y R:Xz):Prop:=
 (pn=#[]/\X=[]/\Y=[])\/(∃w,pn=#[(0,X.length,w)]/\Y=[]/\(I<=X.length\/R=[])/\X.Pairwise λx y=>f x<=f y)\/
  ∃w v,pn=#[(0,X.length,w),(X.length,Y.length,v)]/\0<X.length/\0<Y.length/\R=[]/\(X.Pairwise λx y=>f x<=f y)/\Y.Pairwise λx y=>f x<=f y
theorem Jo(O:yS prog w A s κ Ok f){st:SortSt}{Q:Unit->SortSt->Prop}(a2:(arrOf st).size<128)(hk:kindOf st=κ)(hp:pendingOf st=#[])(hf:failedOf st=none)(ok:∀x∈(arrOf st).toList,Ok x)
 (q:∀g,failedOf g=none->(arrOf g).toList.Perm (arrOf st).toList->((arrOf g).toList.Pairwise λx y=>f x<=f y)->Q () g):wpS (model prog w) A E s sortRuns' Q st:=by
 refine Ab<|wpS_get ?_;dsimp only;have lN:(arrOf st).toList.length=(arrOf st).size:=A7;obtain⟨N,eN⟩:∃N,N=(arrOf st).size:=⟨_,rfl⟩;rw[<-eN] at a2 lN ⊢;obtain⟨Z,eZ⟩:∃Z,Z=(arrOf st).toList:=⟨_,rfl⟩;rw[<-eZ] at lN ok q;have ab:=Sf a2;generalize (sortPriv% PySem.Builtin.minRun) N N 0=mr at ab ⊢;refine Ab (AX (AM (I:=λx c g=>∃X Y R lo,c=(none,lo)/\kindOf g=κ/\failedOf g=none/\(arrOf g).toList=X++Y++R/\(X++Y++R).Perm Z/\lo=(X++Y).length/\Gq f mr (pendingOf g) X Y R/\x<=lo)
  (Q:=λc g=>∃X Y lo,c=(none,lo)/\kindOf g=κ/\failedOf g=none/\(arrOf g).toList=X++Y/\(X++Y).Perm Z/\Gq f mr (pendingOf g) X Y []) ?_ ?_ ⟨[],[],Z,0,rfl,hk,hf,eZ.symm,.refl _,rfl,.inl ⟨hp,rfl,rfl⟩,An _⟩) ?_)
 ·rintro x c g _ hx ⟨X,Y,R,lo,rfl,k1,k2,t,r,rfl,k6,k7⟩;dsimp only;have lt:=r.length_eq;rw[Aa,lN] at lt;by_cases c:(X++Y).length>=N
  ·rw[Aw c];cases BD (show R.length=0 by lia);rw[Av] at t r;exact Af ⟨X,Y,_,rfl,k1,k2,t,r,k6⟩
  rw[Ar c,show N-(X++Y).length=R.length by lia];have T:Tl κ Ok g (X++Y) R:=⟨k1,t,λx hx=>ok x<|r.mem_iff.mp<|Ac _ hx⟩;refine Ab<|Sb O T (by lia) λn R1 a3 g1 g2 a0 a5 U1=>?_;dsimp only;have l1:=a0.length_eq;have jv:∀{J:SortSt} {R2:Xz} {j:Nat} {pn:Array<|Nat×Nat×Nat},kindOf J=κ->failedOf J=none->(arrOf J).toList=X++Y++R2->pendingOf J=pn.push ((X++Y).length,j,0)->((pendingOf g=#[]/\pn=#[])\/∃v,pn=(pendingOf g).modify ((pendingOf g).size-1) λp=>(p.1,p.2.1,v))->R2.Perm R->1<=j->j<=R.length->(mr<=j\/j=R.length)->Up f R2 j->
   ∃X' Y' R' lo,((none,(X++Y).length+j):Option Unit×Nat)=(none,lo)/\kindOf J=κ/\failedOf J=none/\(arrOf J).toList=X'++Y'++R'/\(X'++Y'++R').Perm Z/\lo=(X'++Y').length/\Gq f mr (pendingOf J) X' Y' R'/\x+1<=lo:=λ{J R2 j pn} h1 h2 h3 h4 hn p2 h5 h6 h7 U=>by
   have l2:=p2.length_eq;have ac:(R2.take j).length=j:=by rw[A5];lia
   have U':=U.pair (by lia);have pz:(X++Y++R2).Perm Z:=((BE _).mpr p2).trans r;rcases k6 with⟨o,rfl,rfl⟩|⟨w,o,rfl,h8,h9⟩|⟨w,v',o,_,_,rfl,_⟩
   ·have e2:pn=#[]:=by
     rcases hn with⟨_,h⟩|⟨v,h⟩
     ·exact h
     ·rw[h,o];rfl
    refine⟨R2.take j,[],R2.drop j,_,rfl,h1,h2,by rw[h3];simp,by simpa using pz,by simp;lia,.inr (.inl ⟨0,by rw[h4,e2,ac];rfl,rfl,?_,U'⟩),by lia⟩;rcases h7 with h|h
    ·exact .inl (by lia)
    ·exact .inr<|List.drop_eq_nil_of_le (by lia)
   ·have e2:∃v,pn=#[(0,X.length,v)]:=by
     rcases hn with⟨h,_⟩|⟨v,h⟩
     ·rw[o] at h;cases h
     ·exact⟨v,by rw[h,o];rfl⟩
    obtain⟨v,e2⟩:=e2;have r0:R≠[]:=λe=>by rw[e] at h6;exact absurd h6 (by simp;lia)
    have h8:=h8.resolve_right r0;rw[Av] at h3 h4 pz lt c ⊢;have en:j=R2.length:=by rcases h7 with h'|h'<;>lia
    rw[Bb (by lia)] at U';exact⟨X,R2,[],_,rfl,h1,h2,by rw[h3];simp,by simpa using pz,by rw[Aa,en],.inr (.inr ⟨v,0,by rw[h4,e2,en];rfl,by lia,by lia,rfl,h9,U'⟩),by lia⟩
   ·exact absurd h6 (by simp;lia)
  have sz:(pendingOf g).size<=1:=by
   rcases k6 with⟨o,_⟩|⟨w,o,_⟩|⟨w,v',o,_,_,rfl,_⟩
   ·rw[o];exact A2 _
   ·rw[o];exact An _
   ·exact absurd lt (by simp at c ⊢;lia)
  by_cases cm:n<mr
  case' pos=>
   rw[Aw cm];refine Ab<|wpS_lift<|BZ ⟨rfl,?_⟩;refine Ab<|Se O (T.same a0 a5) (by lia) g1 (by lia) U1 λR2 a7 al au U2=>?_;rw[Ar (by simp)];obtain⟨j,a1⟩:∃j,j=min R.length mr:=⟨_,rfl⟩;rw[<-a1] at U2 ⊢;have p2:R2.Perm R:=al.trans a0;have h7:mr<=j\/j=R.length:=by lia
   obtain⟨l,C⟩:∃l,l=setArr (setArr g a3) a7:=⟨_,rfl⟩
  case' neg=>
   rw[Ar cm];obtain⟨j,a1⟩:∃j,j=n:=⟨_,rfl⟩;obtain⟨R2,a4⟩:∃R2,R2=R1:=⟨_,rfl⟩;rw[<-a1,<-a4] at U1;rw[<-a1];have U2:=U1;have p2:R2.Perm R:=by rw[a4];exact a0
   have h7:mr<=j\/j=R.length:=by lia
   obtain⟨l,C⟩:∃l,l=setArr g a3:=⟨_,rfl⟩
  all_goals
   have n1:1<=j:=by lia
   have n3:j<=R.length:=by lia
   have o:kindOf l=κ:=by rw[C];exact k1
   have e2:failedOf l=none:=by rw[C];exact k2
   have e3:(arrOf l).toList=X++Y++R2:=by rw[C];first|exact au|(rw[a4];exact a5)
   have e4:pendingOf l=pendingOf g:=by rw[C]
   rw[<-C];refine Ab<|wpS_get ?_;split
   ·refine Ab<|AX (AM (I:=λy c J=>c=(none,())/\J=l) (Q:=λc J=>c=(none,())/\J=l) ?_ ?_ ⟨rfl,rfl⟩) ?_
    ·rintro y c J _ hy ⟨rfl,rfl⟩;refine Ab<|wpS_get ?_;rw[Ar (show ¬(pendingOf J).size > 1 by rw[e4];lia)];exact Af ⟨rfl,rfl⟩
    ·exactλc J h=>h
    ·rintro c J ⟨rfl,rfl⟩;dsimp only;refine Ab<|wpS_modify<|Ab<|wpS_modify<|Af ?_;exact jv o e2 e3 rfl (.inr ⟨_,by rw[<-e4]⟩) p2 n1 n3 h7 U2
   ·rename_i hb;have hb:(pendingOf l).back?=none:=Option.eq_none_iff_forall_ne_some.mpr λp=>hb p.1 p.2.1 p.2.2;rw[e4,Array.back?_eq_none_iff] at hb;exact Ab<|wpS_modify<|Af<|jv o e2 e3 rfl (.inl ⟨hb,e4.trans hb⟩) p2 n1 n3 h7 U2
 ·rintro c g ⟨X,Y,R,lo,rfl,k1,k2,t,r,rfl,k6,k7⟩;have lt:=r.length_eq;rw[Aa,lN] at lt;cases BD (show R.length=0 by lia);rw[Av] at t r;exact⟨X,Y,_,rfl,k1,k2,t,r,k6⟩
 ·rintro c g ⟨X,Y,lo,rfl,k1,k2,t,r,k6⟩;dsimp only;have lt:=r.length_eq;rw[lN] at lt;refine Ab (AX (AM (I:=λy c J=>c=(none,())/\((y=0/\J=g)\/(failedOf J=none/\(pendingOf J).size<=1/\(arrOf J).toList.Perm Z/\(arrOf J).toList.Pairwise λx y=>f x<=f y)))
   (Q:=λc J=>c=(none,())/\failedOf J=none/\(arrOf J).toList.Perm Z/\(arrOf J).toList.Pairwise λx y=>f x<=f y) ?_ ?_ ⟨rfl,.inl ⟨rfl,rfl⟩⟩) ?_)
  ·rintro y c J _ hy ⟨rfl,h⟩;refine Ab<|wpS_get ?_;rcases h with⟨rfl,rfl⟩|⟨h1,h2,h3⟩
   ·rcases k6 with⟨o,rfl,rfl⟩|⟨w,o,rfl,_,h9⟩|⟨w,v,o,lX,lY,_,sX,sY⟩
    ·rw[Aw (show(pendingOf J).size<=1 by rw[o];exact A2 _)];exact Af ⟨rfl,k2,by rw[t];exact r,by rw[t];exact .nil⟩
    ·rw[Aw (show(pendingOf J).size<=1 by rw[o];exact An _)];exact Af ⟨rfl,k2,by rw[t];exact r,by rw[t,Av];exact h9⟩
    ·rw[Ar (show ¬(pendingOf J).size<=1 by rw[o];exact Nat.not_succ_le_self 1)];have gen:∀b:Bool,(if b=true then(pendingOf J).size-2-1 else(pendingOf J).size-2)=0:=λb=>by cases b<;>rw[o]<;>rfl
     refine Ab ?_;show wpS _ _ _ _ (mergeAt'<|if _=true then(pendingOf J).size-2-1 else(pendingOf J).size-2) _ _;rw[gen];refine R9 O k1 k2 o t (λx hx=>ok x<|r.mem_iff.mp hx) lX lY sX sY λav b1 b2 b3 b4=>?_;rw[Ar (by simp)];exact Af ⟨rfl,.inr ⟨b1,by rw[b2];exact An _,b3.trans r,b4⟩⟩
   ·rw[Aw h2];exact Af ⟨rfl,h1,h3⟩
  ·rintro c J ⟨rfl,h⟩;rcases h with⟨h0,rfl⟩|⟨h1,_,h3⟩
   ·have e:X++Y=[]:=BD (by lia);rw[e] at t r;exact⟨rfl,k2,by rw[t];exact r,by rw[t];exact .nil⟩
   ·exact⟨rfl,h1,h3⟩
  ·rintro c J ⟨rfl,h1,h2,h3⟩;exact Af<|q J h1 h2 h3
end
open PySem PyProof.Rows PySem.W
def Jp(h:Xn)(B:Int)(x:Keyed):Prop:=∃a o n r p t u,x.1=.ref a/\h.get? a=some o/\o.data=.seq #[.int r t,.int p u] n/\0<=p/\p<B
noncomputable def num(h:Xn)(B:Int)(x:Keyed):Int:=match x.1 with
 |.ref a=>match h.get? a with
  |some o=>match o.data with
   |.seq xs _=>match xs.toList with
    |[.int r _,.int p _]=>r*B+p
    |_=>0
   |_=>0
  |none=>0
 |_=>0
theorem num_of{x:Keyed}{a:Addr}{o:Obj}{r p:Int}{t u:Tok}(I:x.1=.ref a)(J:h.get? a=some o)(U:o.data=.seq #[.int r t,.int p u] n):num h B x=r*B+p:=by unfold num;simp[I,J,U]
theorem vF{prog:Xl}{w:Xm} :yS prog w A s (tuples' true) (Jp s.heap B) (num s.heap B):=by
 constructor;rintro x y ⟨a1,o1,n1,I,J,r,t,l,g1,d1,b1,c1⟩ ⟨a2,o2,n2,U,g,C,T,o,g2,d2,b2,c2⟩ E Q h;rw[num_of l g1 d1,num_of o g2 d2] at h;rw[l,o];refine kat_lt g1 d1 g2 d2 ?_;show KatLex prog w A true _ Q [(.int I r,.int U C),(.int J t,.int g T)] 0 s;refine kat_cons<|wpAny_eqBool_int ?_;by_cases c:I=U
 ·subst c;rw[beq_self_eq_true];refine kat_yes<|kat_cons<|wpAny_eqBool_int ?_;by_cases p:J=g
  ·subst p;rw[beq_self_eq_true];refine kat_yes<|kat_nil ?_;have e:decide (I*B+J<I*B+J)=false:=AB (by lia);rw[e] at h;exact h
  ·rw[Eh p];refine kat_no<|kat_one _ _<|PyProof.Rows.lt_int ?_;have e:decide (I*B+J<I*B+g)=decide (J<g):=by
    by_cases z:J<g
    ·rw[Ax z];exact Ax (by lia)
    ·rw[AB z];exact AB (by lia)
   rw[e] at h;exact h
 ·rw[Eh c];refine kat_no<|oneLt_int ?_;have e:decide (I*B+J<U*B+g)=decide (I<U):=by
   by_cases z:I<U
   ·rw[Ax z];have j:(I+1)*B<=U*B:=Cr (by assumption) (by lia);rw[Eo,Int.one_mul] at j;exact Ax (by omega)
   ·rw[AB z];have j:(U+1)*B<=I*B:=Cr (by lia) (by lia);rw[Eo,Int.one_mul] at j;exact AB (by lia)
  rw[e] at h;exact h
section
variable {prog:Xl}{w:Xm}
def oy(h:Xn)(B:Int)(v:Xj):Prop:=∃a o n r p t u,v=.ref a/\h.get? a=some o/\o.cls=.type "tuple" /\ o.data=.seq #[.int r t,.int p u] n/\0<=p/\p<B
theorem oy.pair{x:Keyed}(k:oy h B x.1):Jp h B x:=by obtain⟨a,o,n,r,p,t,u,I,J,_,U,g,j⟩:=k;exact⟨a,o,n,r,p,t,u,I,J,U,g,j⟩
theorem tups{h:Xn}{B:Int}:∀{ks:W8},(∀v∈ks,oy h B v)->∃fs,KatTups h ks fs/\fs.length=ks.length/\∀v∈fs,∃r t,v=Value.int r t
 |[],_=>⟨[],trivial,rfl,λv I=>by simp at I⟩
 |k::ks,J=>by
  obtain⟨fs,U,g,j⟩:=tups (ks:=ks) λv I=>J v<|Ae _ I;obtain⟨a,o,n,r,p,t,u,rfl,l,C,T,_,_⟩:=J k<|Ag ..;refine⟨.int r t::fs,KatTups.cons l C T rfl U,by simp[g],λv I=>?_⟩;rcases Am.mp I with rfl|I
  ·exact⟨r,t,rfl⟩
  ·exact j v I
theorem Jq{ks:W8}{Q:SortKind->Xk->Prop}(I:∀v∈ks,oy s.heap B v)(j:0<ks.length)(q:Q (tuples' true) s):wpAny (model prog w) A (keyKind' ks.toArray) Q E s:=by
 obtain⟨fs,J,l,U⟩:=tups I;refine kat_kind (T:=.type "int") J (by lia) (λv g=>?_) (by decide) ?_
 ·obtain⟨r,t,rfl⟩:=U v g;exact .now
 ·exact q
theorem vN{R:α->α->Prop}:∀{l:List α},l.length<2->l.Pairwise R
 |[],_=>List.Pairwise.nil
 |[_],_=>List.pairwise_singleton _ _
 |_::_::_,h=>absurd h (by simp)
theorem Sg{a kS:Addr}{ks:W8}{e l:Nat}{P:PySem.Fin->Xk->Prop}(r:s.heap.get? kS=some (seqObj "list" ks.toArray e))(ha:s.heap.get? a=some (seqObj "list" #[] l))(t:kS≠a)(hl:ks.length=vs.length)(g:vs.length<=127)
 (hk:∀v∈ks,oy s.heap B v)
 (h:∀h' tk (xs:Xz) c,(∀b,b≠kS->b≠a->h'.get? b=s.heap.get? b)->h'.get? a=some (seqObj "list" (List.toArray (xs.map (·.2))) c)->xs.Perm (ks.zip vs)->(xs.Pairwise λx y=>num s.heap B x<=num s.heap B y)->P (.done<|.ret .none) { s with heap:=h',toks:=tk }):
 wpAny (model prog w) A (ksk_end a false vs.toArray l (.ref kS) ks.toArray) P E s:=by
 have hz:vs.length<=sizeLine:=AL g (by decide);have o:(ks.toArray.zip vs.toArray).toList=ks.zip vs:=by simp
 have tail:∀st:SortSt,failedOf st=none->(arrOf st).toList.Perm (ks.zip vs)->((arrOf st).toList.Pairwise λx y=>num s.heap B x<=num s.heap B y)->wpAny (model prog w) A (ksk_tail a false l (.ref kS) st) P E s:=by
  intro st hf hp hs;have s1:=vc s.heap kS<|Obj.mapSeq λ_=>(#[]:W9);have J:(s.heap.update kS<|Obj.mapSeq λ_=>(#[]:W9)).get? a=some (seqObj "list" #[] l):=(s1.2 a t.symm).trans ha;have s2:=vc (s.heap.update kS<|Obj.mapSeq λ_=>(#[]:W9)) a (Obj.mapSeq λ_=>(arrOf st).map (·.2));have len:((arrOf st).map (·.2)).size<=sizeLine:=by have:=hp.length_eq;rw[Dl,A7] at this;rw[Array.size_map];lia
  unfold ksk_tail
  try dsimp only
  refine Ad (listUpdate_at r rfl ?_ (by rw[Aq];lia)<|A2 _);refine Ad<|wpAny_letGo ?_;refine Ad<|seqEpoch_at J rfl ?_;refine Ad (listUpdate_at J rfl ?_ (A2 _) (by simp only[B6,if_false];exact B0 len));rw[hf];simp only[bne_self_eq_false,B6,if_false];obtain⟨c2,j⟩:∃c2,((s.heap.update kS<|Obj.mapSeq λ_=>(#[]:W9)).update a (Obj.mapSeq λ_=>(arrOf st).map (·.2))).get? a=some (seqObj "list" ((arrOf st).map (·.2)) c2):=⟨_,get?_update_seq J λ_=>(arrOf st).map (·.2)⟩;refine Ap<|h _ _ (arrOf st).toList c2 (λb C T=>?_) ?_ hp hs
  ·exact(s2.2 b T).trans (s1.2 b C)
  ·have em:(arrOf st).map (·.2)=List.toArray ((arrOf st).toList.map (·.2)):=by apply Array.toList_inj.mp;rw[Array.toList_map]
   rw[em] at j ⊢;exact j
 unfold ksk_end;simp only[B6,if_false];by_cases U:vs.toArray.size<2
 ·rw[Aw U,Aw U];refine Ad<|Ap ?_;rw[StateT.run_pure];refine Ad<|Ap ?_;refine tail _ rfl (by show(ks.toArray.zip vs.toArray).toList.Perm _;rw[o]) ?_;show(ks.toArray.zip vs.toArray).toList.Pairwise _;rw[o];rw[Aq] at U;have:(ks.zip vs).length<2:=by rw[Dl];lia
  exact vN this
 ·rw[Ar U,Ar U];rw[Aq] at U;refine Ad<|Jq hk (by omega) ?_;refine Ad (A4 (Jo (E:=E) (vF (B:=B)) (st:=SortSt.mk' (tuples' true) (ks.toArray.zip vs.toArray) #[] 7 none)
   (Q:=λ_ I=>failedOf I=none/\(arrOf I).toList.Perm (ks.zip vs)/\((arrOf I).toList.Pairwise λx y=>num s.heap B x<=num s.heap B y)) (by show(ks.toArray.zip vs.toArray).size<128;simp;lia) rfl rfl rfl (λx p=>?_) λI b1 b2 b3=>⟨b1,?_,b3⟩) ?_ λ_ _ e=>e)
  ·have p:x∈(ks.toArray.zip vs.toArray).toList:=p;rw[o] at p;exact oy.pair<|hk _ (Dj (a:=x.1) (b:=x.2) p).1
  ·have b2:(arrOf I).toList.Perm (ks.toArray.zip vs.toArray).toList:=b2;rw[o] at b2;exact b2
  ·rintro⟨⟨⟩,I⟩ s' ⟨rfl,b1,b2,b3⟩;exact tail I b1 b2 b3
end
theorem permLift(f:α->β):∀{l m:List β},l.Perm m->∀{T:List α},T.map f=m->∃U:List α,U.Perm T/\U.map f=l:=by
 intro l m p
 induction p with
 |nil=>intro T e;exact⟨T,CM _,e⟩
 |cons x _ o=>
  intro T e;cases T with
  |nil=>cases e
  |cons t r=>
   rw[AO] at e;obtain⟨I,J⟩:=Et e;obtain⟨U,C,e'⟩:=o J;exact⟨t::U,C.cons t,by rw[AO,e',I]⟩
 |swap x y l=>
  intro T e
  match T,e with
  |t::u::r,e=>
   rw[AO,AO] at e;obtain⟨I,J⟩:=Et e;obtain⟨e3,e4⟩:=Et J;exact⟨u::t::r,List.Perm.swap t u r,by rw[AO,AO,I,e3,e4]⟩
 |trans _ _ g j=>
  intro T e;obtain⟨T1,p1,I⟩:=j e;obtain⟨T2,p2,J⟩:=g I;exact⟨T2,p2.trans p1,J⟩
section
variable {prog:Xl}{w:Xm}
theorem mem_self_zip{x:Keyed}(h:x∈vs.zip vs):x.1∈vs/\x.1=x.2:=by
 induction vs with
 |nil=>simp at h
 |cons v r I=>
  rw[Dt] at h;rcases Am.mp h with rfl|h
  ·exact⟨Ag ..,rfl⟩
  ·exact⟨Ae _ (I h).1,(I h).2⟩
def Jr(prog:Xl)(w:Xm)(s:Xk)(keep:Xn->Prop)(κ:SortKind)(vs:W8)(nm:XB):Prop:=∀(A:Around) (E:W3) (g:Xn),keep g->
 yS prog w A { s with heap:=g } κ (λx=>x∈vs.zip vs) nm/\(¬vs.length<2->∀Q:SortKind->Xk->Prop,Q κ { s with heap:=g }->wpAny (model prog w) A (keyKind' vs.toArray) Q E { s with heap:=g })
theorem Sh{a:Addr}{κ:SortKind}{nm:XB}{P:PySem.Fin->Xk->Prop}(ho:s.heap.get? a=some (seqObj "list" vs.toArray n))(hz:vs.length<=127)(ok:Jr prog w s (λg=>∀b o,b≠a->s.heap.get? b=some o->g.get? b=some o) κ vs nm)
 (h:∀h' tk (xs:Xz) c,(∀b o,b≠a->s.heap.get? b=some o->h'.get? b=some o)->h'.get? a=some (seqObj "list" (List.toArray (xs.map (·.2))) c)->xs.Perm (vs.zip vs)->(xs.Pairwise λx y=>nm x<=nm y)->P (.done<|.ret .none) { s with heap:=h',toks:=tk }):
 wpAny (model prog w) A (Builtin.«list.sort» ⟨[.ref a],[]⟩) P E s:=by
 have big:(100000:Nat)+1<=sizeLine:=by rw[sizeLine_eq];exact C0 _ _
 have t:(vs.toArray.zip vs.toArray).toList=vs.zip vs:=by simp
 have s1:=vc s.heap a<|Obj.mapSeq λ_=>(#[]:W9);obtain⟨e1,p⟩:∃e1,(s.heap.update a<|Obj.mapSeq λ_=>(#[]:W9)).get? a=some (seqObj "list" #[] e1):=⟨_,get?_update_seq ho λ_=>#[]⟩;obtain⟨I,U⟩:∃g,g=((s.heap.update a<|Obj.mapSeq λ_=>(#[]:W9)).push<|seqObj "tuple" vs.toArray 0).push (seqObj "list" #[] 0):=⟨_,rfl⟩;have k3:∀b o,b≠a->s.heap.get? b=some o->I.get? b=some o:=λb o C e=>by rw[U];exact t7 _<|t7 _<|(s1.2 b C).trans e
 have j:I.get? a=some (seqObj "list" #[] e1):=by rw[U];exact t7 _<|t7 _ p
 have tail:∀st:SortSt,(arrOf st).toList.Perm (vs.zip vs)->((arrOf st).toList.Pairwise λx y=>nm x<=nm y)->
  ∀tk,P (.done<|.ret .none) { s with heap:=I.update a (Obj.mapSeq λ_=>(arrOf st).map (·.2)),toks:=tk }:=by
  intro st hp hs tk;have s2:=vc I a (Obj.mapSeq λ_=>(arrOf st).map (·.2));obtain⟨c2,r⟩:∃c2,(I.update a (Obj.mapSeq λ_=>(arrOf st).map (·.2))).get? a=some (seqObj "list" ((arrOf st).map (·.2)) c2):=⟨_,get?_update_seq j λ_=>(arrOf st).map (·.2)⟩;have em:(arrOf st).map (·.2)=List.toArray ((arrOf st).toList.map (·.2)):=by apply Array.toList_inj.mp;rw[Array.toList_map]
  refine h _ tk (arrOf st).toList c2 (λb o C e=>(s2.2 b C).trans<|k3 b o C e) ?_ hp hs;rw[em] at r ⊢;exact r
 have len:∀st:SortSt,(arrOf st).toList.Perm (vs.zip vs)->((arrOf st).map (·.2)).size<=sizeLine+1:=λst hp=>by have:=hp.length_eq;rw[Dl,A7] at this;rw[Array.size_map];lia
 rw[list_sort_plain];refine Ad<|listItems_at ho rfl ?_;refine Ad (listUpdate_at ho rfl ?_ (by rw[Aq];exact EY)<|A2 _);refine Ad<|seqEpoch_at p rfl ?_;refine Ad (wpAny_newTuple ?_ (by show vs.length<=_;lia));refine Ad<|wpAny_newList ?_<|A2 _;refine Bl ?_;show wpAny (model prog w) A _ P E { s with heap:=((s.heap.update a<|Obj.mapSeq λ_=>(#[]:W9)).push<|seqObj "tuple" vs.toArray 0).push (seqObj "list" #[] 0) };rw[<-U];dsimp only;by_cases l:vs.toArray.size<2
 ·rw[Aw l,Aw l];refine Ad<|Ap ?_;rw[StateT.run_pure];refine Ad<|Ap ?_;dsimp only;refine Ad<|seqEpoch_at j rfl ?_;have pz:(arrOf<|SortSt.mk' κ (vs.toArray.zip vs.toArray) #[] 7 none).toList.Perm (vs.zip vs):=by show(vs.toArray.zip vs.toArray).toList.Perm _;rw[t]
  refine Ad<|listUpdate_at j rfl ?_ (A2 _)<|len _ pz;simp only[bne_self_eq_false,B6,if_false];refine Ap<|tail (SortSt.mk' κ (vs.toArray.zip vs.toArray) #[] 7 none) pz ?_ _;show(vs.toArray.zip vs.toArray).toList.Pairwise _;rw[t];rw[Aq] at l;have:(vs.zip vs).length<2:=by rw[Dl];lia
  exact vN this
 ·rw[Ar l,Ar l];rw[Aq] at l;refine Ad<|(ok _ _ I k3).2 l _ ?_;refine Ad (A4 (Jo (E:=E) (ok _ E I k3).1 (st:=SortSt.mk' κ (vs.toArray.zip vs.toArray) #[] 7 none)
   (Q:=λ_ J=>failedOf J=none/\(arrOf J).toList.Perm (vs.zip vs)/\((arrOf J).toList.Pairwise λx y=>nm x<=nm y)) (by show(vs.toArray.zip vs.toArray).size<128;simp;lia) rfl rfl rfl (λx T=>?_) λJ b1 b2 b3=>⟨b1,?_,b3⟩) ?_ λ_ _ e=>e)
  ·have T:x∈(vs.toArray.zip vs.toArray).toList:=T;rw[t] at T;exact T
  ·have b2:(arrOf J).toList.Perm (vs.toArray.zip vs.toArray).toList:=b2;rw[t] at b2;exact b2
  ·rintro⟨⟨⟩,J⟩ s' ⟨rfl,b1,b2,b3⟩;dsimp only;refine Ad<|seqEpoch_at j rfl ?_;refine Ad<|listUpdate_at j rfl ?_ (A2 _)<|len _ b2;rw[b1];simp only[bne_self_eq_false,B6,if_false];exact Ap<|tail J b2 b3 _
theorem jS{κ:SortKind}{nm:XB}(r:s.heap.IsList l vs.toArray)(hz:vs.length<=127)(ok:Jr prog w s (λg=>∀b o,s.heap.get? b=some o->g.get? b=some o) κ vs nm)
 (h:∀h' tk (xs:Xz) D c,s.heap.objs.size<=D->(∀b o,s.heap.get? b=some o->h'.get? b=some o)->h'.get? D=some (seqObj "list" (List.toArray (xs.map (·.2))) c)->xs.Perm (vs.zip vs)->(xs.Pairwise λx y=>nm x<=nm y)->Q (.ref D) { s with heap:=h',toks:=tk }):
 wpAny (model prog w) A (call (.builtin "sorted") [.ref l]) Q E s:=by
 have big:(100000:Nat)+1<=sizeLine:=by rw[sizeLine_eq];lia
 refine Calls.call_function_entry kind_sorted plain_sorted entry_sorted (args_sorted1 _) ?_;unfold Builtin.«sorted»;refine Ad (m:=checkCount "sorted" 1 1 _)<|Ap ?_;refine Ad<|collect_list r ?_ (by lia);refine Ad<|wpAny_newList ?_ (by lia);obtain⟨g,j⟩:∃g,g=(s.heap.push<|seqObj "list" #[] 0).update s.heap.objs.size (Obj.mapSeq (· ++ vs.toArray)):=⟨_,rfl⟩;have p:g.objs.size=s.heap.objs.size+1:=by rw[j,Heap.size_update,size_push']
 have t:∀b o,s.heap.get? b=some o->g.get? b=some o:=λb o q=>by have I:b<s.heap.objs.size:=u1 q;rw[j,Heap.get?_update_ne _ _ _ _<|A6 I];exact t7 _ q
 show wpAny _ _ _ _ _ { s with heap:=((s.heap.push<|seqObj "list" #[] 0).update s.heap.objs.size (Obj.mapSeq (· ++ vs.toArray))).push (seqObj "list" vs.toArray 0) };rw[<-j];have U:(g.push<|seqObj "list" vs.toArray 0).get? g.objs.size=some (seqObj "list" vs.toArray 0):=vb _ rfl;have keep:∀J:Xn,(∀b o,b≠g.objs.size->(g.push<|seqObj "list" vs.toArray 0).get? b=some o->J.get? b=some o)->∀b o,s.heap.get? b=some o->J.get? b=some o:=λJ k b o q=>k b o (λz=>by have I:b<s.heap.objs.size:=u1 q;rw[z,p] at I;exact Nat.not_succ_lt_self I)<|t7 _<|t b o q
 refine Ad<|Bl<|wpAny_call_entry slot_list_sort ⟨_,U,rfl⟩ entry_list_sort ?body<|args_list_sort _
 case body=>
  refine Sh (s:={ s with heap:=g.push (seqObj "list" vs.toArray 0) }) U hz (λA E J k=>ok A E J<|keep J k) λh' tk xs c C T pm pw=>?_;exact⟨_,rfl,Ap ⟨_,rfl,h h' tk xs g.objs.size c (by rw[p];exact Ct _) (keep h' C) T pm pw⟩⟩
theorem w_sorted(hl:s.heap.IsList l vs.toArray)(hz:vs.length<=127)(C:∀v∈vs,oy s.heap B v)
 (h:∀h' tk (xs:Xz) D c,s.heap.objs.size<=D->(∀b o,s.heap.get? b=some o->h'.get? b=some o)->h'.get? D=some (seqObj "list" (List.toArray (xs.map (·.2))) c)->xs.Perm (vs.zip vs)->(xs.Pairwise λx y=>num s.heap B x<=num s.heap B y)->Q (.ref D) { s with heap:=h',toks:=tk }):
 wpAny (model prog w) A (call (.builtin "sorted") [.ref l]) Q E s:=by
 refine jS (κ:=tuples' true) hl hz (λA E g k=>?_) h;have j:∀v∈vs,oy g B v:=λv hv=>by obtain⟨a,o,m,r,p,t,u,I,J,r'⟩:=C v hv;exact⟨a,o,m,r,p,t,u,I,k _ _ J,r'⟩
 have nk:∀x∈vs.zip vs,num g B x=num s.heap B x:=λx U=>by obtain⟨a,o,m,r,p,t,u,I,J,e3,T,_⟩:=C _ (mem_self_zip U).1;rw[num_of I J T,num_of I (k _ _ J) T]
 refine⟨⟨λx y U hy {E Q} q=>?_⟩,λh2 Q q=>Jq (s:={ s with heap:=g }) j (by lia) q⟩;rw[<-nk x U,<-nk y hy] at q;exact(vF (s:={ s with heap:=g })).lt x y (oy.pair<|j _ (mem_self_zip U).1) (oy.pair<|j _ (mem_self_zip hy).1) q
end
end TS
namespace L2
open PySem PySem.Spec PyProof.Rows
theorem pU(f:α->β){l m:List β}(p:l.Perm m){T:List α}(e:T.map f=m):∃I:List α,I.Perm T/\I.map f=l:=TS.permLift f p e
theorem gh{α β I:Type}{R:β->I->Prop}{g:α->β}{h:α->I}:∀{T:List α},(∀t∈T,R (g t)<|h t)->Paired R (T.map g) (T.map h)
 |[],_=>.nil
 |t::_,k=>.cons (k t<|Ag ..)<|gh λu J=>k u<|Ae _ J
theorem rS{J:Type}{R:α->β->Prop}{S:α->J->Prop}:∀{xs:List α} {ys:List β} {zs:List J},Paired R xs ys->Paired S xs zs->∃T:List (α×β×J),T.map (·.1)=xs/\T.map (λt=>t.2.1)=ys/\T.map (λt=>t.2.2)=zs/\∀t∈T,R t.1 t.2.1/\S t.1 t.2.2
 := by
 intro xs ys zs p q
 induction p generalizing zs with
 |nil=>cases q;exact⟨[],rfl,rfl,rfl,λt I=>by cases I⟩
 |cons r p l=>
  cases q with
  |cons q o=>
   rename_i x y U g z j;obtain⟨T,C,e2,e3,k⟩:=l o;refine⟨(x,y,z)::T,by rw[AO,C],by rw[AO,e2],by rw[AO,e3],λt I=>?_⟩;rcases Am.mp I with rfl|I
   ·exact⟨r,q⟩
   ·exact k t I
theorem sj{α β:Type}{f:α->β}:∀{l:List α},(∀x∈l,∀y∈l,f x=f y->x=y)->l.Nodup->(l.map f).Nodup
 |[],_,_=>Dv
 |a::r,h,n=>by obtain⟨J,U⟩:=AC.mp n;rw[AO];refine AC.mpr ⟨λz=>?_,sj (λx g y I=>h x (Ae _ g) y<|Ae _ I) U⟩;obtain⟨y,I,e⟩:=Bm.mp z;have:=h y (Ae _ I) a (Ag ..) e;exact J<|this▸I
def yf(p q:Int×Int):Prop:=p.1<q.1\/(p.1=q.1/\p.2<=q.2)
abbrev yG(K:Ai)(H:Hp)(v:V)(p:Int×Int):Prop:=∃a,v=.ref a/\dh K H a [.int p.1,.int p.2]
theorem Si{p q:Int×Int}(hp:0<=p.2/\p.2<B)(J:0<=q.2/\q.2<B)(h:p.1*B+p.2<=q.1*B+q.2):yf p q:=by
 unfold yf;by_cases c:p.1<q.1
 ·exact .inl c
 ·right;by_cases d:q.1<p.1
  ·have I:(q.1+1)*B<=p.1*B:=Cr (by assumption) (by lia);rw[Eo,Int.one_mul] at I;omega
  ·have e:p.1=q.1:=by lia
   rw[e] at h;exact⟨e,by lia⟩
def Sj(X:Cx):Xp->Hp->VK->Prop:=λxs H Q=>∃l ys ps,xs=[.ref l]/\aY X.K H l ys/\Paired (yG X.K H) ys ps/\(∀p∈ps,0<=p.2/\p.2<1000000)/\ps.Nodup/\ys.length<=127/\
 ∀D zs qs,H D=none->Paired (yG X.K H) zs qs->qs.Perm ps->qs.Pairwise yf->Q (.ref D) (upd H D<|.lst zs)
theorem wI:jg X (.builtin "sorted") (Sj X):=by
 intro a3 s σ H xs us Q I r h;obtain⟨l,ys,ps,rfl,hl,pr,hb,a5,a0,q⟩:=h;obtain⟨u,rfl,ru⟩:=r.one;cases (show u=Value.ref l from ru);obtain⟨p,rv,pl,hz⟩:=I.list hl;have l1:ys.length=p.length:=rv.length;obtain⟨T,e1,e2,e3,kT⟩:=rS rv pr;have U:∀t∈T,(∃a o n g j,t.2.1=Value.ref a/\s.heap.get? a=some o/\o.cls=.type "tuple" /\ o.data=.seq #[.int t.2.2.1 g,.int t.2.2.2 j] n)/\0<=t.2.2.2/\t.2.2.2<1000000:=λt J=>by obtain⟨r1,a,ea,hs⟩:=kT t J;obtain⟨a4,a1,⟨o,g1,g2,n,g3⟩,_⟩:=I.tuple hs;obtain⟨w1,w2,rfl,x1,x2⟩:=a1.two;obtain⟨g,rfl⟩:=(show ∃g,w1=Value.int t.2.2.1 g from x1);obtain⟨j,rfl⟩:=(show ∃j,w2=Value.int t.2.2.2 j from x2);rw[ea] at r1;refine⟨⟨a,o,n,g,j,r1,g1,g2,g3⟩,?_⟩;exact hb _ (by rw[<-e3];exact Co (f:=λt:V×Xj×(Int×Int)=>t.2.2) J)
 have nT:∀t∈T,TS.num s.heap 1000000 (t.2.1,t.2.1)=t.2.2.1*1000000+t.2.2.2:=λt J=>by obtain⟨⟨a,o,n,g,j,g0,g1,g2,g3⟩,_⟩:=U t J;exact TS.num_of g0 g1 g3
 have ez:p.zip p=T.map λt=>(t.2.1,t.2.1):=by rw[<-e2,List.zip_map']
 refine jq I.tk (TS.w_sorted (B:=1000000) pl.isList (by rw[<-l1];exact a0) (λv hv=>?_) λh' tk ks D c hD hk hg pm pw J=>?_)
 ·rw[<-e2] at hv;obtain⟨t,J,rfl⟩:=Bm.mp hv;obtain⟨⟨a,o,n,g,j,g0,g1,g2,g3⟩,b1,b2⟩:=U t J;exact⟨a,o,n,_,_,g,j,g0,g1,g2,g3,b1,b2⟩
 ·rw[ez] at pm;obtain⟨T',pT,eT⟩:=pU _ pm rfl;subst eT;have C:∀t,t∈T'->t∈T:=λt=>pT.mem_iff.mp;have a2:=BV.mp pw;refine⟨.ref D,_,I.laid (t':=tk) (o:=.lst (T'.map (·.1))) hk hD ?_,rfl,q D (T'.map (·.1)) (T'.map λt=>t.2.2) (I.hok.fresh hD) (gh λt J=>(kT t<|C t J).2) ?_ ?_⟩
  ·refine⟨?_,T'.map λt=>t.2.1,c,gh λt J=>(kT t<|C t J).1,?_⟩
   ·rw[Ah,pT.length_eq];have:T.length=ys.length:=by rw[<-e1,Ah]
    rw[this];exact hz
   ·rw[hg,B4];rfl
  ·rw[<-e3];exact pT.map _
  ·refine BV.mpr<|DL (λ{x y} hx hy z=>?_) a2;rw[nT x<|C x hx,nT y<|C y hy] at z;exact Si (U x<|C x hx).2 (U y<|C y hy).2 z
end L2
namespace L3
open PySem L2
def Fe(p:Int×Int):Y:=.tup [.int p.1,.int p.2]
theorem u7{G:G3}{H:Hp}:∀{ps:List<|Int×Int} {xs:Xp},xx G H (ps.map Fe) xs->Paired (yG G.K H) xs ps
 |[],_,h=>by cases (show _=[] from h);exact .nil
 |p::r,_,ψ=>by obtain⟨x,U,e,⟨a,zs,ea,g,j,l,o,I,t,C,T,J,e3⟩,s⟩:=ψ;subst e ea o T e3;cases (show j=V.int p.1 from I);cases (show t=V.int p.2 from J);exact .cons ⟨a,rfl,g⟩<|u7 s
theorem Sk :∀{ps:List<|Int×Int} {xs:Xp},Paired (yG G.K H) xs ps->xx G H (ps.map Fe) xs:=by
 intro ps xs h
 induction h with
 |nil=>exact rfl
 |cons z t I=>
  obtain⟨a,ea,J⟩:=z;subst ea;exact⟨_,_,rfl,⟨a,_,rfl,J,_,_,rfl,rfl,_,_,rfl,rfl,rfl⟩,I⟩
def ny(xs:List Y)(L:ql)(Q:YK):Prop:=match xs with
 |[.ref a]=>cz L a λys=>∃ps:List (Int×Int),ys=ps.map Fe/\(∀p∈ps,0<=p.2/\p.2<1000000)/\ps.Nodup/\ps.length<=127/\∀(D:Addr) (qs:List<|Int×Int),L D=none->qs.Perm ps->qs.Pairwise yf->Q (.ref D) (qe L D<|.lst<|qs.map Fe)
 |_=>False
theorem cY:bootBuiltins "sorted"=some (.builtin "sorted"):=by decide +kernel
theorem y8 :jg X (.builtin "sorted") (f_ X.g3 ny):=ER wI λxs H Q ys L Q3 j J z k=>by
 unfold ny at z;split at z
 ·rename_i a;obtain⟨l,e,o,rfl,p,U,I,z⟩:=xc z;obtain⟨t,C,r⟩:=J a _ e;obtain⟨u,rfl,T⟩:=j.inv1;cases (show u=V.ref a from T);have pr:=u7 r;exact⟨a,t,o,rfl,ET C,pr,p,U,by rw[<-r.length,Ah];exact I,λD l qs g pz pm pw=>k _ _ _ _ (EE g) (J.newL g<|Sk pz) (by rfl)<|z D qs (J.none g) pm pw⟩
 ·exact z.elim
open PySem L2 Words
def cG:Wd->Y
 |.leaf t n=>.tup [.str<|kL t,.str n]
 |.node e l r=>.tup [.str<|kN e,cG l,cG r]
def g9:Y:=(.tup [(.str "plain"),(.str "turned")])
theorem qj{Q:α->ql->Prop}{o:Option α}{v:α}(e:o=some v)(h:Q v L):c_ L Q o:=by rw[e];exact h
abbrev lZ(i:Int):xo:=yC<|.int i
abbrev h_(x:Str):xo:=yC<|.str x
abbrev bX(i:Nat)(n:Int):xo:=wy og (qk i)<|yC<|.int n
abbrev ux(i:Nat):xo:=xa Cf<|z9 (qk i) vm
abbrev y_(a b:xo):kW:=yB<|wy (yH false) a b
abbrev Fv(a b:xo):kW:=yB<|wy (yH true) a b
abbrev Fw(a b:xo):xo:=iE<|z9 a<|z9 b vm
abbrev dg(a:xo):hG:=z9 a vm
abbrev jA(a b:xo):hG:=z9 a<|z9 b vm
def zY:vn:=(ah<|wy (vE false) (bX 0 0)<|yC g9)
def kX:Bool->Bool->Str
 |true,t=>kL t
 |false,e=>kN e
inductive dF(ys:List Y)(L:ql)(Q:YK):Prop
 |mk:∀lf b rest,(ys=[.tup<|.str (kX lf b)::rest])->(Q (.bl lf) L)->dF ys L Q
theorem Sl(t:Bool):yW (.str<|kL t) [.str "plain",.str "turned"]=true:=by cases t<;>decide +kernel
theorem Sm(t:Bool):yW (.str<|kN t) [.str "plain",.str "turned"]=false:=by cases t<;>decide +kernel
theorem vY:∀ys L Q,dF ys L Q->jj zY 1 ys L Q:=by
 rintro ys L Q ⟨lf,b,rest,rfl,q⟩;have I:cI (Y.str (kX lf b)::rest) 0=some (Y.str<|kX lf b):=jt (xs:=Y.str (kX lf b)::rest) (j:=0) rfl;walk_at "w";rw[I];refine⟨rfl,rfl,jv ?_⟩;cases lf with
 |true=>
  rw[show nb false (yW (iG<|.str<|kX true b)<|[Y.str "plain",.str "turned"].map iG)=true from Sl b];exact q
 |false=>
  rw[show nb false (yW (iG<|.str<|kX false b)<|[Y.str "plain",.str "turned"].map iG)=false from Sm b];exact q
theorem Sn(t:Bool):List.lookup (kL t) [(("plain" : Str),("turned" : Str)),("turned","plain"),("both","either"),("either","both")]=some (kL<|!t):=by cases t<;>decide +kernel
theorem So(t:Bool):List.lookup (kN t) [(("plain" : Str),("turned" : Str)),("turned","plain"),("both","either"),("either","both")]=some (kN<|!t):=by cases t<;>decide +kernel
theorem cT(s:qh L L'){p:Addr}(h:L' p=none):L p=none:=by cases e:L p with|none=>rfl|some o=>rw[s _ _ e] at h;cases h
theorem jw.str(x:Str):jw L n (.str x) (.s<|.str x):=by cases n with|zero=>exact⟨rfl,rfl⟩|succ n=>exact .inl ⟨rfl,rfl⟩
abbrev EV:=@jw.str
theorem jw.int(x:Int):jw L n (.int x) (.s<|.int x):=by cases n with|zero=>exact⟨rfl,rfl⟩|succ n=>exact .inl ⟨rfl,rfl⟩
abbrev EW:=@jw.int
theorem ie{L:ql}:∀{wd:Wd} {n:Nat},wd.depth<=n->jw L n (cG wd) (rM wd)
 |.leaf t nm,n+1,_=>.inr<|.inl ⟨_,_,rfl,rfl,.cons (EV _)<|.cons (EV _) .nil⟩
 |.node e l r,n+1,h=>by have I:max l.depth r.depth+1<=n+1:=h;exact .inr<|.inl ⟨_,_,rfl,rfl,.cons (EV _)<|.cons (ie (by lia))<|.cons (ie (by lia)) .nil⟩
theorem bC{a:Addr}(e:L a=some (.lst ys))(p:Paired (jw L n) ys ds):jw L (n+1) (.ref a) (.lst ds):=.inr<|.inr ⟨ys,ds,rfl,rfl,jm e,p⟩
theorem i3(p:Paired (jw L n) ys ds):jw L (n+1) (.tup ys) (.tup ds):=.inr<|.inl ⟨ys,ds,rfl,rfl,p⟩
theorem Sq{neg:Bool}{u v:Wd}{Q:YK}(J:u.depth<=128)(q:Q (.bl<|nb neg<|Da.eq (rM u)<|rM v) L):yH neg (cG u) (cG v) L Q:=by
 have I:∀w:Wd,DH (cG w)=true:=λw=>by cases w<;>rfl
 have:DH (cG u)=true/\DH (cG v)=true/\∃n m d e,n<=128/\jw L n (cG u) d/\jw L m (cG v) e/\Q (.bl<|nb neg<|Da.eq d e) L:=
  ⟨I u,I v,u.depth,v.depth,rM u,rM v,J,ie<|An _,ie<|An _,q⟩
 cases u<;>cases v<;>exact this
theorem cZ{neg:Bool}{a b:Addr}{zs:List Y}{es:List Da}{Q:YK}(I:n<128)(ea:L a=some (.lst ys))(eb:L b=some (.lst zs))(pa:Paired (jw L n) ys ds)(pb:Paired (jw L m) zs es)(q:Q (.bl<|nb neg<|Da.eqs ds es) L):
 yH neg (.ref a) (.ref b) L Q:=⟨rfl,rfl,n+1,m+1,_,_,I,bC ea pa,bC eb pb,q⟩
def top(i:Nat):Stmt:=PySem.Challenge.pw_oncewise_k43_the_tree_told_back.main.body.getD i<|.Pass ⟨0,0,0,0⟩
abbrev gc:Stmt:=(bq<|top 4).getD 0<|.Pass ⟨0,0,0,0⟩
abbrev cg:Stmt:=(bq<|top 4).getD 1<|.Pass ⟨0,0,0,0⟩
abbrev fK:Stmt:=(bq<|top 4).getD 2<|.Pass ⟨0,0,0,0⟩
abbrev qT:Stmt:=top 7
abbrev bT:Stmt:=top 9
abbrev gn:Stmt:=top 10
abbrev dN:Stmt:=top 11
abbrev gx:Stmt:=top 13
abbrev dU:Stmt:=top 14
abbrev gz:Stmt:=top 15
abbrev hZ:Stmt:=top 16
abbrev nG:Stmt:=top 17
abbrev hU:Stmt:=top 18
abbrev nz:Stmt:=top 19
abbrev we:Stmt:=top 20
abbrev dz:Stmt:=top 21
abbrev fD:Stmt:=top 22
abbrev iI:Stmt:=(bq<|top 24).getD 0<|.Pass ⟨0,0,0,0⟩
abbrev db:Stmt:=(bq<|top 24).getD 1<|.Pass ⟨0,0,0,0⟩
abbrev eJ:Stmt:=(bq<|top 24).getD 2<|.Pass ⟨0,0,0,0⟩
abbrev iY:Stmt:=(bq<|top 24).getD 3<|.Pass ⟨0,0,0,0⟩
abbrev fM:Stmt:=top 25
abbrev oC:Stmt:=top 26
abbrev n8:Stmt:=top 27
abbrev qQ:Stmt:=top 28
abbrev bN:Stmt:=top 30
abbrev dr:Stmt:=top 31
abbrev fA:Stmt:=top 32
abbrev gq:Stmt:=top 33
abbrev f8:Stmt:=top 34
abbrev fP:Stmt:=top 35
abbrev fV:Stmt:=top 36
abbrev bz:Stmt:=top 37
abbrev ga:Stmt:=top 38
abbrev eX:Stmt:=top 39
abbrev eS:Stmt:=top 40
abbrev oG:Stmt:=top 41
abbrev fN:Stmt:=top 42
abbrev cA:Stmt:=top 43
abbrev gp:Stmt:=top 44
abbrev lM:Stmt:=top 45
abbrev s__law_order:Stmt:=top 46
abbrev dO:Stmt:=top 47
abbrev cD:Stmt:=top 48
abbrev bx:Stmt:=top 49
abbrev dI:Stmt:=top 50
abbrev aT:Stmt:=top 51
abbrev lJ:Stmt:=top 52
abbrev fE:Stmt:=top 53
abbrev f6:Stmt:=top 54
abbrev dH:Stmt:=top 55
abbrev du:Stmt:=top 56
abbrev eG:Stmt:=top 57
abbrev uf:Stmt:=top 58
structure V_ where
 (P:Xl) (w:Xm) (K:Ai) (mg:W5) (base:Xn) (Pt:Addr) (Ca Cb:Addr)
structure B0_(V:V_):Prop where
 be:V.mg "list"=none
 bh:V.mg "range"=none
 bg:V.mg "enumerate"=none
 ba:V.mg "len"=none
 bb:V.mg "isinstance"=none
 bi:V.mg "tuple"=none
 bj:V.mg "sorted"=none
 bn:V.mg "max"=none
 b_min:V.mg "min"=none
 b_int:V.mg "int"=none
 b_bool:V.mg "bool"=none
 b_str:V.mg "str"=none
 k_LEAF_KINDS:IW ⟨V.K,V.P,V.w⟩ V.mg "LEAF_KINDS" g9
abbrev Q_(V:V_)(k:Nat)(x:Str)(ps:Xb)(sp:zd):Prop:=Gh V.P V.w V.K V.mg V.base k x ps sp
theorem I_{a b:Expr}(I:QE X a ta)(J:QE X b tb)(hp:qW b:=by exactλ_ _=>rfl):QE X (.Subscript a b pos) (wy og ta tb):=Qp (Qq X.K X.prog X.w) I J hp
theorem jo{t:xo}(h:QE X e t)(s:starEach [e] X.env=[(false,eval e X.env)]:=by rfl):QA X [e] (z9 t vm):=v5 h xw s
theorem vv{f:Expr}{t u:xo}(h:QE X e t)(g:QE X f u)(s:starEach [e,f] X.env=[(false,eval e X.env),(false,eval f X.env)]:=by rfl)(r:starEach [f] X.env=[(false,eval f X.env)]:=by rfl):QA X [e,f] (z9 t<|z9 u vm):=v5 h (jo g r) (by show _=_;rw[s,r])
theorem aW{f d:Expr}{t u v:xo}(h:QE X e t)(g:QE X f u)(i:QE X d v)(s:starEach [e,f,d] X.env=[(false,eval e X.env),(false,eval f X.env),(false,eval d X.env)]:=by rfl)(r:starEach [f,d] X.env=[(false,eval f X.env),(false,eval d X.env)]:=by rfl)(q:starEach [d] X.env=[(false,eval d X.env)]:=by rfl):QA X [e,f,d] (z9 t<|z9 u<|z9 v vm):=v5 h (vv g i r q) (by show _=_;rw[s,r])
theorem E_{a b:Expr}(I:X.A.units+128<cLine)(J:QE X a ta)(U:QE X b tb):QT X (.Compare a [.Eq] [b] pos) (yB<|wy (yH false) ta tb):=x5 (im X.K X.prog X.w I) J U<|x6 _
theorem N_{a b:Expr}(I:X.A.units+128<cLine)(J:QE X a ta)(U:QE X b tb):QT X (.Compare a [.NotEq] [b] pos) (yB<|wy (yH true) ta tb):=x5 (Gg X.K X.prog X.w I) J U<|x6 _
theorem S_(i:Nat)(hN:X.N.Nodup)(h:QE X e te)(I:X.N[i]?=some x:=by rfl)(g:Loc X.env.scope x:=by exact Or.inl rfl)(J:swapsWith e (some<|.Name x hQ) pos.line X.env=pure false:=by rfl)(U:X.fn x=true\/X.env.scope.names.lookup x=some .local:=by first|exact .inl rfl|exact .inr rfl|assumption):QS X (.Assign [.Name x hQ] e pos) (vh te<|qo i):=gj (i:=i) hN I g h J U
theorem G_(i:Nat)(hN:X.N.Nodup)(I:X.N[i]?=some x:=by rfl)(U:Loc X.env.scope x:=by exact Or.inl rfl)(J:X.fn x=true\/X.env.scope.names.lookup x=some .local:=by first|exact .inl rfl|exact .inr rfl|assumption):QG X (.Name x pos) (qo i):=fw (i:=i) hN I U J
theorem C_{p:Pos}{k:Nat}(c:Gh X.prog X.w X.K X.mg X.base j x ps sp)(U:vz k X.A)(g:QA X (e::es) tr)(l:j<=k:=by first|decide|exact An _|exact AL (by decide)<|C0 _ _)(o:Gl X x:=by rfl)(I:Ez x:=by decide)(r:Ex e es X:=by rfl)(J:Ey pos es X:=by rfl):QE X (.Call (.Name x p) (e::es) [] pos) (xm sp tr):=QP (Cal.mono c l) U o g I r J
theorem J_{n:Int}{k:Nat}{p q:Pos}(i:Nat)(hN:X.N[i]?=some x:=by rfl)(I:A_ X.env.scope x:=by first|exact Or.inl rfl|exact Or.inr (Or.inl rfl)|exact Or.inr<|Or.inr rfl)(hd:Ez x:=by decide)(hc:EX x:=by decide):QE X (.Subscript (.Name x p) (.Constant (.int n) k q) pos) (wy og (qk i)<|yC<|.int n):=I_ (qv i hN I hd hc) qf λ_ _=>rfl
theorem L_{t:xo}{p:Pos}(I:X.mg "len"=none)(h:QE X e t)(s:starEach [e] X.env=[(false,eval e X.env)]:=by rfl)(J:Gl X "len" := by rfl):QE X (.Call (.Name "len" p) [e] [] pos) (xa Cf<|z9 t vm):=aB (Qr X.K X.prog X.w) J I P' (jo h s) (hs:=s)
theorem DP{l:Xb}(h:decide l.Nodup=true:=by kernel_rfl):l.Nodup:=of_decide_eq_true h
abbrev Js(V:V_)(p:zd):Prop:=Q_ V 1 "is_leaf" ["word"] p
abbrev Fx(V:V_)(p:zd):Prop:=Q_ V 1 "places_there" ["knots"] p
abbrev Gr(V:V_)(p:zd):Prop:=Q_ V 2 "parts_of" ["knot"] p
abbrev Gs(V:V_)(p:zd):Prop:=Q_ V 1 "eithers_of" ["web"] p
abbrev Jt(V:V_)(p:zd):Prop:=Q_ V 2 "boths_of" ["web"] p
abbrev Ju(V:V_)(p:zd):Prop:=Q_ V 3 "part_edges" ["knots","places"] p
abbrev Gu(V:V_)(p:zd):Prop:=Q_ V 4 "joins_of" ["web"] p
abbrev Sr(V:V_)(p:zd):Prop:=Q_ V 3 "join_steps" ["pieces","joins"] p
abbrev Ss(V:V_)(p:zd):Prop:=Q_ V 3 "can_fold" ["pieces","knots","place"] p
abbrev Su(V:V_)(p:zd):Prop:=Q_ V 4 "fold_steps" ["pieces","knots","eithers"] p
abbrev Jv(V:V_)(p:zd):Prop:=Q_ V 5 "steps_by" ["knots","joins","eithers"] p
abbrev Gv(V:V_)(p:zd):Prop:=Q_ V 6 "all_come_together" ["knots","joins","eithers"] p
abbrev Jw(V:V_)(p:zd):Prop:=Q_ V 7 "right_web" ["web"] p
abbrev Sv(V:V_)(p:zd):Prop:=Q_ V 8 "first_bad" ["web"] p
abbrev Sw(V:V_)(p:zd):Prop:=Q_ V 3 "rules_due" ["web"] p
abbrev Sx(V:V_)(p:zd):Prop:=Q_ V 3 "arms_for" ["grove","rule","taken"] p
abbrev Sy(V:V_)(p:zd):Prop:=Q_ V 4 "grow_all" ["grove","due"] p
abbrev Sz(V:V_)(p:zd):Prop:=Q_ V 9 "tree_of" ["web"] p
abbrev Jx(V:V_)(p:zd):Prop:=Q_ V 1 "_law_cell_at" ["_law_script","_law_k"] p
abbrev SA(V:V_)(p:zd):Prop:=Q_ V 1 "_law_stir" ["_law_script"] p
abbrev Gx(V:V_)(p:zd):Prop:=Q_ V 1 "_law_pick" ["_law_stir_here","_law_factor"] p
abbrev Jy(V:V_)(p:zd):Prop:=Q_ V 1 "_law_mix" ["_law_cell","_law_k","_law_factor"] p
abbrev Jz(V:V_)(p:zd):Prop:=Q_ V 1 "_law_name" ["_law_seed","_law_which"] p
abbrev SD(V:V_)(p:zd):Prop:=Q_ V 121 "_law_word" ["_law_knots","_law_p"] p
abbrev SE(V:V_)(p:zd):Prop:=Q_ V 121 "_law_flip" ["_law_word_here"] p
abbrev SF(V:V_)(p:zd):Prop:=Q_ V 121 "_law_weight" ["_law_word_here"] p
abbrev SG(V:V_)(p:zd):Prop:=Q_ V 170 "_law_mirror" ["_law_knots","_law_word_here"] p
abbrev JA(V:V_)(p:zd):Prop:=Q_ V 1 "_law_join" ["_law_knots","_law_forest","_law_one","_law_two"] p
abbrev JB(V:V_)(p:zd):Prop:=Q_ V 1 "_law_fold" ["_law_knots","_law_tree_here","_law_one","_law_two"] p
abbrev JC(V:V_)(p:zd):Prop:=Q_ V 171 "_law_cut" ["_law_knots","_law_forest","_law_one","_law_two"] p
abbrev JD(V:V_)(p:zd):Prop:=Q_ V 172 "_law_tree" ["_law_cells","_law_seed","_law_room"] p
abbrev JE(V:V_)(p:zd):Prop:=Q_ V 121 "_law_gather" ["_law_rule","_law_links","_law_cuts"] p
abbrev SH(V:V_)(p:zd):Prop:=Q_ V 122 "_law_web" ["_law_tree_here"] p
abbrev JF(V:V_)(p:zd):Prop:=Q_ V 1 "_law_open" ["_law_web_here"] p
abbrev JG(V:V_)(p:zd):Prop:=Q_ V 2 "_law_order" ["_law_knots","_law_seed"] p
abbrev JH(V:V_)(p:zd):Prop:=Q_ V 121 "_law_moved" ["_law_rule","_law_at"] p
abbrev SI(V:V_)(p:zd):Prop:=Q_ V 122 "_law_gapped" ["_law_tree_here","_law_stir_here"] p
abbrev Fy(V:V_)(p:zd):Prop:=Q_ V 1 "_law_number" ["_law_x"] p
abbrev SJ(V:V_)(p:zd):Prop:=Q_ V 6 "_law_alike" ["_law_found","_law_due"] p
abbrev JI(V:V_)(p:zd):Prop:=Q_ V 2 "_law_link_ends" ["_law_knots","_law_rule","_law_told"] p
abbrev JJ(V:V_)(p:zd):Prop:=Q_ V 1 "_law_left" ["_law_ends_here","_law_parts","_law_more"] p
abbrev JK(V:V_)(p:zd):Prop:=Q_ V 2 "_law_here" ["_law_knots","_law_rule","_law_kind","_law_size","_law_told"] p
abbrev JL(V:V_)(p:zd):Prop:=Q_ V 123 "_law_ends" ["_law_knots","_law_rule","_law_told"] p
abbrev SK(V:V_)(p:zd):Prop:=Q_ V 124 "_law_sound" ["_law_web_here","_law_rule"] p
abbrev SM(V:V_)(p:zd):Prop:=Q_ V 1 "_law_copy" ["_law_web_here"] p
abbrev SN(V:V_)(p:zd):Prop:=Q_ V 173 "_law_sown" ["_law_script","_law_stir_here","_law_wide"] p
abbrev RD(x:Str)(st:Stmt)(k:Nat)(N:Xb)(h:V_->Prop):=PSigma λt:vn=>∀V:V_,B0_ V->h V->∀f:Addr,∀(fm:Xj) (A:Around) (outer:List Env) (s:Xk) (H:Hp) (E:XK),vz k (A.deeper<|PyProof.Rows.envOfC x (qt st) s.heap.objs.size f fm)->N.Nodup->(A.deeper<|PyProof.Rows.envOfC x (qt st) s.heap.objs.size f fm).units+128<cLine->sd (iQ CX0 V.P V.w V.K V.mg V.base N x (qt st) f fm A outer s H E).nox (j6 st) t
abbrev RR(x:Str)(st:Stmt)(k:Nat)(ps N:Xb)(p:zd)(h:V_->Prop):=PSigma λt:vn=>∀V:V_,B0_ V->h V->∀(n:Nat) (f:Addr),Q_ V (n+k) x ps p->∀(fm:Xj) (A:Around) (outer:List Env) (s:Xk) (H:Hp) (E:XK),vz (n+k) (A.deeper<|PyProof.Rows.envOfC x (qt st) s.heap.objs.size f fm)->N.Nodup->(A.deeper<|PyProof.Rows.envOfC x (qt st) s.heap.objs.size f fm).units+128<cLine->sd (iQ CX0 V.P V.w V.K V.mg V.base N x (qt st) f fm A outer s H E).nox (j6 st) t
theorem wM{p:Pos}(i:Nat)(hi:X.N.length=i:=by rfl)(hN:(X.N++[x]).Nodup:=by exact DP)(J:∀C fp s₀ H₀,Loc (X.comp scope [x] C fp s₀ H₀).env.scope x:=by exactλ_ _ _ _=>Or.inl rfl)(I:∀C fp s₀ H₀,(X.comp scope [x] C fp s₀ H₀).env.scope.names.lookup x=some .local:=by exactλ_ _ _ _=>rfl):DI X scope [x] (.Name x p) (qo i):=hi▸fW hN J I
theorem JM{y:Str}{p I pt:Pos}(i:Nat)(hi:X.N.length=i:=by rfl)(hc:X.calm=true:=by rfl)(hN:(X.N++[x,y]).Nodup:=by exact DP)(U:∀C fp s₀ H₀,(X.comp scope [x,y] C fp s₀ H₀).env.scope.names.lookup x=some .local:=by exactλ_ _ _ _=>rfl)(J:∀C fp s₀ H₀,(X.comp scope [x,y] C fp s₀ H₀).env.scope.names.lookup y=some .local:=by exactλ_ _ _ _=>rfl)(h1:∀env,(assignEach [.Name x p,.Name y I] env).length=2:=by intro _;rfl)(h2:∀env,(assignEach [.Name x p,.Name y I] env).findIdx? (·.1)=none:=by intro _;rfl)(g:∀env,(assignEach [.Name x p,.Name y I] env).map (·.2)=assign (.Name x p) env::(assignEach [.Name y I] env).map (·.2):=by intro _;rfl)(j:∀env,(assignEach [.Name y I] env).map (·.2)=assign (.Name y I) env::(assignEach [] env).map (·.2):=by intro _;rfl):DI X scope [x,y] (.Tuple [.Name x p,.Name y I] kt pt) (df 2<|jh (qo i)<|jh (qo<|i+1) bv):=hi▸QN hc hN U J h1 h2 g j
def pC(K:Ai):vn:=(yY K "heads" (qk 0)<|nO<|qk 1)
def jK(K:Ai):vn:=(ja (vh (qk 1)<|qo 2)
 (ja (oN (Fv (wy og (iZ K "heads"<|qk 0)<|qk 2)<|qk 2) (ja (Gm (iZ K "heads"<|qk 0) (qk 2)<|wy og (iZ K "heads"<|qk 0)<|wy og (iZ K "heads"<|qk 0)<|qk 2)
 (vh (wy og (iZ K "heads"<|qk 0)<|qk 2)<|qo 2)))
 (ah<|qk 2)))
def mn(K:Ai)(I:Addr)(J:zd):vn:=(ja (vh (ww I "head_of" J (qk 0)<|dg<|qk 1)<|qo 3)
 (ja (vh (ww I "head_of" J (qk 0)<|dg<|qk 2)<|qo 4)
 (ja (Gm (iZ K "heads"<|qk 0) (qk 3)<|qk 4)
 (ah<|wy (yH true) (qk 3)<|qk 4))))
structure XFP(K:Ai)(C:Addr):Prop where
 cl:Cls K C
 na:NoAttr K C "heads"
def nY(hs:Xa):List Y:=hs.map λn:Nat=>.int (n:Int)
def hJ(hp:Addr):List (Str×Y):=[("heads",.ref hp)]
theorem cf :(hJ hp).lookup ("heads" : Str)=some (.ref hp):=by unfold hJ;rw[AW,show((("heads" : Str)==("heads" : Str)))=true by decide +kernel]
theorem wv :(hJ hp).lookup ("head_of" : Str)=none:=by unfold hJ;rw[AW,show((("head_of" : Str)==("heads" : Str)))=false by decide +kernel];rfl
theorem gi :(hJ hp).lookup ("unite" : Str)=none:=by unfold hJ;rw[AW,show((("unite" : Str)==("heads" : Str)))=false by decide +kernel];rfl
theorem SO(n:Nat):aN 0 n=nY (List.range n):=by unfold aN nY;exact List.map_congr_left λk _=>by rw[B5]
theorem jd(hs:Xa):(nY hs).length=hs.length:=by unfold nY;rw[Ah]
theorem mh{h:Nat}(e:hs[i]?=some h):cI (nY hs) (i:Int)=some (.int (h:Int)):=jt (by unfold nY;rw[Au,e];rfl)
theorem JN(hs:Xa)(i g:Nat):(nY hs).set i (.int (g:Int))=nY (hs.set i g):=by unfold nY;rw[List.map_set]
theorem yw(h:j<n):e_ n (j:Int)=some j:=by unfold e_;rw[Aw (by exact A8 _),Aw (by omega)];rfl
theorem j8{a p:Addr}{o:LO}(h:qe L a o p=none):L p=none:=by
 by_cases c:p=a
 ·subst c;rw[q9] at h;cases h
 ·rw[qb c] at h;exact h
theorem kz{a:Addr}{o:LO}(h:L a=some o):qe L a o=L:=by
 funext b;unfold qe;split
 ·rename_i e;rw[e,h]
 ·rfl
def cr(rk:Xh)(hs:Xa):Prop:=∀i h,hs[i]?=some h->h<hs.length/\(h≠i->rk h<rk i)
inductive ju(hs:Xa):Nat->Nat->Prop
 |root {r:Nat}:hs[r]?=some r->ju hs r r
 |step {i h r:Nat}:hs[i]?=some h->h≠i->ju hs h r->ju hs i r
theorem ju.top{r:Nat}(h:ju hs i r):hs[r]?=some r:=by induction h with|root e=>exact e|step _ _ _ I=>exact I
theorem ju.uniq{r s:Nat}(h:ju hs i r)(k:ju hs i s):r=s:=by
 induction h generalizing s with
 |root e=>
  cases k with|root _=>rfl|step I ne _=>rw[e] at I;exact absurd (AY I).symm ne
 |step e ne t J=>
  cases k with|root I=>rw[e] at I;exact absurd (AY I) ne|step I _ U=>rw[e] at I;cases I;exact J U
theorem ju.of_top{r:Nat}(h:ju hs i r)(e:hs[i]?=some i):r=i:=h.uniq<|.root e
theorem cr.rep{rk:Xh}{hs:Xa}(I:cr rk hs):∀(n i:Nat),rk i<n->i<hs.length->∃r,ju hs i r
 |0,_,h,_=>absurd h<|Nat.not_lt_zero _
 |n+1,i,h,J=>by
  have e:hs[i]?=some hs[i]:=Ao J;by_cases c:hs[i]=i
  ·exact⟨i,.root (by rw[e,c])⟩
  ·obtain⟨U,g⟩:=I i _ e;obtain⟨r,t⟩:=cr.rep I n hs[i] (by have:=g c;omega) U;exact⟨r,.step e c t⟩
theorem cr.rep'(I:cr rk hs)(hi:i<hs.length):∃r,ju hs i r:=I.rep (rk i+1) i (Br _) hi
theorem qx{l:List α}{x:α}(h:l[i]?=some x):i<l.length:=(A1.mp h).1
theorem ko{l:List α}{x:α}(h:i<l.length):(l.set i x)[i]?=some x:=by rw[List.getElem?_set];simp[h]
theorem vj{l:List α}{x:α}(h:i≠j):(l.set i x)[j]?=l[j]?:=by rw[List.getElem?_set,Ar h]
theorem cr.halve(I:cr rk hs){h g:Nat}(ei:hs[i]?=some h)(ne:h≠i)(J:hs[h]?=some g):cr rk (hs.set i g)/\rk g<rk i:=by
 have U:rk g<rk i:=by
  have l:=(I i h ei).2 ne;by_cases c:g=h
  ·rw[c];exact l
  ·have:=(I h g J).2 c;exact rA
 refine⟨λj x e=>?_,U⟩;rw[Bt];by_cases c:i=j
 ·subst c;rw[ko<|qx ei] at e;cases e;exact⟨(I h _ J).1,λ_=>U⟩
 ·rw[vj c] at e;exact I j x e
theorem jP{rk:Xh}{hs:Xa}(l:cr rk hs){i h g:Nat}(ei:hs[i]?=some h)(ne:h≠i)(U:hs[h]?=some g):∀(n j r:Nat),rk j<n->ju hs j r->ju (hs.set i g) j r
 |0,_,_,h,_=>absurd h<|Nat.not_lt_zero _
 |n+1,j,r,hn,t=>by
  have o:=jP l ei ne U n;have p:=(l.halve ei ne U).2;cases t with
  |root e=>
   have c:i≠j:=λc=>by subst c;rw[ei] at e;exact ne<|AY e
   exact .root (by rw[vj c];exact e)
  |step e I t=>
   rename_i C;have lt:=(l j C e).2 I;by_cases c:i=j
   ·subst c;rw[ei] at e;cases e;by_cases d:g=h
    ·subst d;exact .step (ko<|qx ei) I<|o _ r (by lia) t
    ·cases t with
     |root J=>rw[U] at J;exact absurd (AY J) d
     |step J T t2=>
      rw[U] at J;cases J;refine .step (ko<|qx ei) (λz=>?_)<|o _ r (by lia) t2;rw[z] at p;exact Cz _ p
   ·exact .step (by rw[vj c];exact e) I<|o _ r (by lia) t
def dY(hs:Xa):Nat:=(List.range hs.length).countP λi=>decide<|hs[i]?=some i
theorem SQ(J:cr rk hs){h g:Nat}(ei:hs[i]?=some h)(ne:h≠i)(U:hs[h]?=some g):dY (hs.set i g)=dY hs:=by
 unfold dY;rw[Bt];refine BW λj l=>?_;have I:=(J.halve ei ne U).2;by_cases c:i=j
 ·subst c;rw[ko<|qx ei,ei];have d:g≠i:=λz=>by rw[z] at I;exact Cz _ I
  simp[d,ne]
 ·rw[vj c]
theorem bW{p:Nat->Bool}{a:Nat}(I:p a=true):∀{l:Xa},l.Nodup->a∈l->l.countP (λj=>p j&&!decide (j=a))+1=l.countP p
 |[],_,h=>by cases h
 |x::r,J,h=>by
  obtain⟨U,g⟩:=AC.mp J;rw[Bn,Bn];by_cases c:x=a
  ·subst c;have e:r.countP (λj=>p j&&!decide (j=x))=r.countP p:=by refine BW λj o=>?_;have:j≠x:=λz=>U<|z▸o;simp[this]
   rw[e];simp[I]
  ·have t:a∈r:=by
    rcases Am.mp h with z|z
    ·exact absurd z.symm c
    ·exact z
   have C:=bW I g t;simp only[AB c,Bool.not_false,Bool.and_true];lia
theorem cr.join(I:cr rk hs){a b:Nat}(ea:hs[a]?=some a)(eb:hs[b]?=some b):∃J,cr J (hs.set a b):=by
 by_cases c:a=b
 ·subst c;refine⟨rk,λi h e=>?_⟩;rw[Bt];by_cases d:a=i
  ·subst d;rw[ko<|qx ea] at e;cases e;exact I _ _ ea
  ·rw[vj d] at e;exact I i h e
 ·refine⟨λx=>if x=b then 0 else rk x+1,λi h e=>?_⟩;rw[Bt];by_cases d:a=i
  ·subst d;rw[ko<|qx ea] at e;cases e;refine⟨qx eb,λ_=>?_⟩;show(if b=b then 0 else rk b+1)<if a=b then 0 else rk a+1
   rw[Aw rfl,Ar c];exact Ce _
  ·rw[vj d] at e;refine⟨(I i h e).1,λne=>?_⟩;have nb:i≠b:=λz=>by subst z;rw[eb] at e;exact ne (AY e).symm
   show(if h=b then 0 else rk h+1)<if i=b then 0 else rk i+1
   rw[Ar nb];have:=(I i h e).2 ne;split<;>lia
theorem SS{a b:Nat}(ea:hs[a]?=some a)(eb:hs[b]?=some b){r:Nat}(t:ju hs i r):ju (hs.set a b) i (if r=a then b else r):=by
 induction t with
 |root e=>
  rename_i r;by_cases c:r=a
  ·subst c;rw[Aw rfl];by_cases d:r=b
   ·subst d;exact .root<|ko<|qx ea
   ·exact .step (ko<|qx ea) (λz=>d z.symm) (.root (by rw[vj d];exact eb))
  ·rw[Ar c];exact .root (by rw[vj λz=>c z.symm];exact e)
 |step e ne t I=>
  rename_i i h r;have c:a≠i:=λz=>by subst z;rw[ea] at e;exact ne (AY e).symm
  exact .step (by rw[vj c];exact e) ne I
theorem SU{a b:Nat}(ea:hs[a]?=some a)(eb:hs[b]?=some b)(ne:a≠b):dY (hs.set a b)+1=dY hs:=by
 unfold dY;rw[Bt];have e:=bW (p:=λi=>decide<|hs[i]?=some i) (a:=a) (Ax ea) (l:=List.range hs.length) BG<|AZ.mpr<|qx ea;rw[<-e];congr 1;refine BW λj I=>?_;by_cases c:a=j
 ·subst c;rw[ko<|qx ea];simp[AQ ne]
 ·rw[vj c];simp[AQ c]
inductive dy(C:Addr)(ys:List Y)(L:ql)(Q:YK):Prop
 |mk:∀o,∀n:Nat,∀ni:Int,(ys=[.ref o,.int ni])->(ni=(n:Int))->(L o=some (.ins C []))->(n<=1000)->(∀hp,L hp=none->Q .non (qe (qe L hp<|.lst<|nY<|List.range n) o<|.ins C<|hJ hp))->dy C ys L Q
theorem SV{K:Ai}(xf:XFP K C):∀ys L Q,dy C ys L Q->jj (pC K) 2 ys L Q:=by rintro ys L Q ⟨o,n,g,rfl,rfl,J,j,q⟩;refine⟨⟨by exact A8 _,by lia⟩,λU I=>?_⟩;refine zp ((qb<|xu J I).trans J) ⟨xf.cl,xf.na,by decide,?_⟩;rw[show((n:Nat):Int).toNat=n from rfl,SO];exact jv<|q U I
inductive bp(C:Addr)(ys:List Y)(L:ql)(Q:YK):Prop
 |mk:∀o hp,∀hs:Xa,∀p:Nat,∀pi:Int,∀rk,(ys=[.ref o,.int pi])->(pi=(p:Int))->(L o=some (.ins C<|hJ hp))->(L hp=some (.lst<|nY hs))->(cr rk hs)->(p<hs.length)->(∀(r:Nat) hs',hs'.length=hs.length->cr rk hs'->ju hs p r->(∀i s,ju hs i s->ju hs' i s)->dY hs'=dY hs->Q (.int (r:Int)) (qe L hp<|.lst<|nY hs'))->bp C ys L Q
theorem SW{K:Ai}(xf:XFP K C):∀ys L Q,bp C ys L Q->jj (jK K) 3 ys L Q:=by
 rintro ys L Q ⟨o,hp,hs,p,pi,rk,rfl,rfl,ho,a0,hr,a1,q⟩;obtain⟨r0,t0⟩:=hr.rep' a1;have a3:o≠hp:=gT ho a0 (λe=>by cases e);refine⟨λm τ L'=>∃(J:Xa) (I:Nat),τ=[some<|.ref o,some<|.int (p:Int),some<|.int (I:Int)]/\L'=qe L hp (.lst<|nY J)/\J.length=hs.length/\cr rk J/\I<hs.length/\ju J I r0/\(∀i s,ju hs i s->ju J i s)/\dY J=dY hs/\m=rk I,⟨_,hs,p,rfl,(kz a0).symm,rfl,hr,a1,t0,λ_ _ h=>h,rfl,rfl⟩,?_⟩;rintro m τ L' ⟨J,I,rfl,rfl,hl,U,hh,t,l,a2,rfl⟩;have j:∀z,(qe L hp<|.lst z) o=some (.ins C<|hJ hp):=λz=>(qb a3).trans ho;obtain⟨h,r⟩:∃h,J[I]?=some h:=⟨_,Ao (by lia)⟩;refine zp (j _) ⟨xf.cl,xf.na,qj cf<|qc q9<|qj (mh r) ?_⟩;by_cases c:h=I
 ·subst c;refine wn (by show(!decide (((h:Nat):Int)=(h:Int)))=false;rw[Ax rfl];rfl) ?_;have e:=t.of_top r;subst e;exact jv<|q _ J hl U t0 l a2
 ·refine fT (by show(!decide (((h:Nat):Int)=(I:Int)))=true;rw[AB (by lia)];rfl) ?_;refine⟨_,λ_ _ h=>h,?_⟩;obtain⟨g,T⟩:∃g,J[h]?=some g:=⟨_,Ao (U I h r).1⟩;refine zp (j _) ⟨xf.cl,xf.na,qj cf<|zp (j _) ⟨xf.cl,xf.na,qj cf<|qc q9<|qj (mh r)<|qc q9<|qj (mh T) ?_⟩⟩;refine zp (j _) ⟨xf.cl,xf.na,qj cf<|qp q9<|qj (v:=I) ?_ ?_⟩
  ·exact yw (by rw[jd];lia)
  rw[zc,JN];have es:(J.set I g)[I]?=some g:=ko (by lia);refine zp (j _) ⟨xf.cl,xf.na,qj cf<|qc q9<|qj (mh es) ?_⟩;obtain⟨a4,a5⟩:=U.halve r c T;refine⟨_,EC _,rk g,a5,J.set I g,g,rfl,rfl,by rw[Bt];exact hl,a4,?_,?_,λi s z=>jP U r c T (rk i+1) i s (Br _)<|l i s z,by rw[SQ U r c T];exact a2,rfl⟩
  ·rw[<-hl];exact(U h g T).1
  ·have t2:=jP U r c T (rk I+1) I r0 (Br _) t;cases t2 with|root e2=>rw[es] at e2;cases e2;exact .root es|step e2 a7 t3=>rw[es] at e2;cases e2;exact t3
inductive cq(C:Addr)(ys:List Y)(L:ql)(Q:YK):Prop
 |mk:∀o hp,∀hs:Xa,∀p q a b:Nat,∀pi qi:Int,(ys=[.ref o,.int pi,.int qi])->(pi=(p:Int))->(qi=(q:Int))->(L o=some (.ins C<|hJ hp))->(L hp=some (.lst<|nY hs))->((∃rk,cr rk hs))->(ju hs p a)->(ju hs q b)->(p<hs.length)->(q<hs.length)->(∀hs',hs'.length=hs.length->(∃rk,cr rk hs')->(∀i s,ju hs i s->ju hs' i (if s=a then b else s))->(a=b->dY hs'=dY hs)->(a≠b->dY hs'+1=dY hs)->Q (.bl<|!decide (a=b)) (qe L hp<|.lst<|nY hs'))->cq C ys L Q
theorem SX{K:Ai}(xf:XFP K C):∀ys L Q,cq C ys L Q->jj (mn K C<|bp C) 5 ys L Q:=by
 rintro ys L Q ⟨o,U,hs,p,q,a,b,pi,qi,rfl,rfl,rfl,l,g,⟨rk,hr⟩,ta,tb,t,a3,k⟩;have T:o≠U:=gT l g (λe=>by cases e);have J:∀z,(qe L U<|.lst z) o=some (.ins C<|hJ U):=λz=>(qb T).trans l;refine zp l ⟨rfl,wv,o,U,hs,p,_,rk,rfl,rfl,l,g,hr,t,λr1 a0 l1 k1 t1 r n1=>?_⟩;cases t1.uniq ta;refine zp (J _) ⟨rfl,wv,o,U,a0,q,_,rk,rfl,rfl,J _,q9,k1,by lia,λr2 I l2 k2 t2 a2 n2=>?_⟩;cases t2.uniq (r _ _ tb);rw[zc];have ea:I[a]?=some a:=(a2 _ _<|r _ _ ta).top;have eb:I[b]?=some b:=(a2 _ _<|r _ _ tb).top;refine zp (J _) ⟨xf.cl,xf.na,qj cf (qp q9 (qj (v:=a) (yw (by rw[jd];exact qx ea)) ?_))⟩;rw[zc,JN];have e0:(decide<|(a:Int)=(b:Int))=decide (a=b):=by
  by_cases c:a=b
  ·rw[Ax c];exact Ax (by lia)
  ·rw[AB c];exact AB (by lia)
 show fG Q (.bl<|!decide ((a:Int)=(b:Int))) _;rw[e0];refine jv (k (I.set a b) (by rw[Bt];lia) (k2.join ea eb) (λi s z=>SS ea eb<|a2 _ _<|r _ _ z) (λe=>?_) λne=>?_)
 ·subst e;have:I.set a a=I:=by
   apply DD;intro j;by_cases c:a=j
   ·subst c;rw[ko<|qx ea,ea]
   ·rw[vj c]
  rw[this,n2,n1]
 ·have:=SU ea eb ne;lia
noncomputable def eO:RD "_law_cell_at" bN 0 ["_law_script","_law_k"] (λ_=>True):=⟨_,λV B c _ _ _ _ _ _ _ I hN J=>(qa (zm (x5 nv (qv 1) (L_ B.ba<|qv 0)<|x6 _) (qd<|qr<|I_ (qv 0)<|qv 1) qz)<|qd<|qr qf)⟩
noncomputable def oQ:vn:=(eO).1
noncomputable def oJ:RD "_law_mix" gq 0 ["_law_cell","_law_k","_law_factor"] (λ_=>True):=⟨_,λV B c _ _ _ _ _ _ _ I hN J=>(qd<|qr<|qm wf (qm x8 (qm mY (qm jf (qm jf (qm mY (qm x8 (qv 0) qf) qf)<|qm mY (qv 1)<|qv 1) qf)<|qv 2) qf) qf)⟩
noncomputable def wJ:vn:=(oJ).1
noncomputable def gd(J:zd):RR "_law_weight" bz 1 ["_law_word_here"] ["_law_word_here"] J (λ_=>True):=⟨_,λV B c _ _ I _ _ _ _ _ _ U hN g=>(qa (zm (E_ g (L_ B.ba<|qv 0) qf) (qd<|qr qf) qz)<|qd<|qr<|qm jf (qm jf qf<|C_ I U<|jo<|J_ 0)<|C_ I U<|jo<|J_ 0)⟩
noncomputable def pD(I:zd):vn:=(gd I).1
noncomputable def kM(J:zd):RR "_law_word" fP 1 ["_law_knots","_law_p"] ["_law_knots","_law_p","_law_knot"] J (λ_=>True):=⟨_,λV B c _ _ I _ _ _ _ _ _ U hN g=>(qa (S_ 2 hN<|I_ (qv 0)<|qv 1)<|qa (zm (E_ g (L_ B.ba<|qv 2) qf) (qd<|qr<|qv 2) qz)<|qd<|qr<|zh<|aW (J_ 2) (C_ I U<|vv (qv 0)<|J_ 2)<|C_ I U<|vv (qv 0)<|J_ 2)⟩
noncomputable def tE(I:zd):vn:=(kM I).1
inductive dS(ys:List Y)(L:ql)(Q:YK):Prop
 |mk:∀ns:Xe,∀k:Int,(ys=[.sq<|ns.map Y.int,.int k])->(0<=k)->(∀v,Q (.int v) L)->dS ys L Q
theorem vR:∀ys L Q,dS ys L Q->jj oQ 2 ys L Q:=by rintro ys L Q ⟨I,k,rfl,U,q⟩;refine je (λc=>?_) λc=>jv<|q 0;have J:k<((I.map Y.int).length:Int):=c;rw[Ah] at J;obtain⟨j,rfl⟩:∃j:Nat,k=(j:Int):=⟨k.toNat,by lia⟩;have e:cI (I.map Y.int) (j:Int)=some (Y.int<|I[j]'(by omega)):=v9<|Ao _;walk_at "w";rw[e];exact jv<|q _
inductive oY(ys:List Y)(L:ql)(Q:YK):Prop
 |mk:∀c k f:Int,(ys=[.int c,.int k,.int f])->(0<=k)->(k<1000000)->(0<f)->(f<1000000)->(∀v,0<=v->v<134217728->Q (.int v) L)->oY ys L Q
theorem SY:∀ys L Q,oY ys L Q->jj wJ 3 ys L Q:=by
 rintro ys L Q ⟨c,k,f,rfl,I,J,U,g,q⟩;refine⟨(by decide:(0:Int)<1000003),.inr ⟨by decide,by decide⟩,.inl ⟨by lia,by lia⟩,.inr ⟨by lia,by lia⟩,(by decide:(0:Int)<2147483647),⟨by decide,by decide⟩,jv<|q _ ?_ ?_⟩
 all_goals
  generalize ((c % 1000003*7+k*k+1)*f)=z;lia
theorem S0(cs:Xa):(Txt.join ""<|cs.map λc=>(⟨#[c]⟩:Str)).cps.toList=cs:=by
 rw[sR]
 induction cs with|nil=>rfl|cons c r I=>rw[AO,AR,I];rfl
inductive bH(n:Nat)(ys:List Y)(L:ql)(Q:YK):Prop
 |mk:∀wd,(ys=[cG wd])->(wd.depth<=n)->(Q (.int wd.size) L)->bH n ys L Q
theorem mU:∀ys L Q,¬bH 0 ys L Q:=by rintro ys L Q ⟨I,_,hd,_⟩;cases I<;>simp[Wd.depth] at hd
theorem S1(n:Nat):∀ys L Q,bH (n+1) ys L Q->jj (pD<|bH n) 1 ys L Q:=by
 rintro ys L Q ⟨I,rfl,hd,q⟩;cases I with
 |leaf t n=>exact jv q
 |node e l r=>
  have J:max l.depth r.depth+1<=n+1:=hd;refine⟨l,rfl,by lia,r,rfl,by lia,jv ?_⟩;have e:(1+(l.size:Int)+(r.size:Int))=(((Wd.node e l r).size:Nat):Int):=by show _=((1+l.size+r.size:Nat):Int);rfl
  rw[e];exact q
def KW(ks:List Y):Nat->Wd->Prop
 |p,.leaf t n=>ks[p]?=some (.tup [.str<|kL t,.str n])
 |p,.node e l r=>∃i j:Nat,ks[p]?=some (.tup [.str<|kN e,.int i,.int j])/\KW ks i l/\KW ks j r
theorem KW.more{ks:List Y}(ms:List Y):∀{wd:Wd} {p:Nat},KW ks p wd->KW (ks++ms) p wd
 |.leaf _ _,p,h=>by have I:ks[p]?=some _:=h;show(ks++ms)[p]?=some _;rw[AD (A1.mp I).1];exact I
 |.node _ _ _,p,ψ=>(by obtain⟨i,j,h,a,b⟩:=ψ;exact ⟨i,j,by rw[AD (A1.mp h).1];exact h,KW.more ms a,KW.more ms b⟩)
inductive wm(n:Nat)(ys:List Y)(L:ql)(Q:YK):Prop
 |mk:∀k ks p wd,(ys=[.ref k,.int ((p:Nat):Int)])->(L k=some (.lst ks))->(KW ks p wd)->(wd.depth<=n)->(Q (cG wd) L)->wm n ys L Q
theorem xH:∀ys L Q,¬wm 0 ys L Q:=by rintro ys L Q ⟨k,J,p,I,_,_,_,hd,_⟩;cases I<;>simp[Wd.depth] at hd
theorem sI:∀ys L Q,¬wm 0 ys L Q:=xH
theorem u8(n:Nat):∀ys L Q,wm (n+1) ys L Q->jj (tE<|wm n) 3 ys L Q:=by
 rintro ys L Q ⟨k,J,p,U,rfl,I,h,hd,q⟩;cases U with
 |leaf t nm=>exact qc I<|qj (jt h)<|jv q
 |node e l r=>
  obtain⟨i,j,h,g,o⟩:=h;have C:max l.depth r.depth+1<=n+1:=hd;exact qc I<|qj (jt h) ⟨k,J,i,l,rfl,I,g,by lia,k,J,j,r,rfl,I,o,by lia,jv q⟩
def s_(l:Xa):Str:=⟨l.toArray⟩
theorem yO(x:Str):s_ x.cps.toList=x:=by cases x;rfl
noncomputable def yk(J:zd):RR "_law_flip" fV 1 ["_law_word_here"] ["_law_word_here","_law_sides"] J (λ_=>True):=⟨_,λV B c _ _ I _ _ _ _ _ _ U hN g=>(qa (S_ 1 hN<|Q4 [ ("plain" ,"turned") ,("turned" ,"plain") ,("both" ,"either") ,("either" ,"both") ] (i4 dD dD<|i4 dD dD<|i4 dD dD<|i4 dD dD OX) rfl rfl (List.cons_ne_nil _ _)<|CC rfl)<|qa (zm (E_ g (L_ B.ba<|qv 0) qf) (qd<|qr<|zh<|vv (I_ (qv 1)<|J_ 0)<|J_ 0) qz)<|qd<|qr<|zh<|aW (I_ (qv 1)<|J_ 0) (C_ I U<|jo<|J_ 0)<|C_ I U<|jo<|J_ 0)⟩
noncomputable def S2(I:zd):vn:=(yk I).1
def S3(I:zd)(p1:zd):vn:=(ja (di (y_ (ux 1)<|lZ 2) (ja (aP<|rE vq (qk 0)<|z9 (xm I<|dg<|qk 1) vm)
 (ja (aP<|rE vq (qk 0)<|dg<|qk 1)
 (ah<|hE<|z9 (iE<|z9 (h_ "link")<|z9 (wy DN (ux 0)<|lZ 2)<|z9 (wy DN (ux 0)<|lZ 1) vm)<|z9 (wy DN (ux 0)<|lZ 2)<|z9 (wy DN (ux 0)<|lZ 1) vm))) bP)
 (ja (vh (xm p1<|jA (qk 0)<|bX 1 1)<|qo 2)
 (ja (vh (xm p1<|jA (qk 0)<|bX 1 2)<|qo 3)
 (ja (aP<|rE vq (qk 0)<|z9 (iE<|z9 (wy og (xm I<|dg<|qk 1)<|lZ 0)<|jA (bX 2 1)<|bX 3 1) vm)
 (ja (aP<|rE vq (qk 0)<|z9 (iE<|z9 (bX 1 0)<|jA (bX 2 2)<|bX 3 2) vm)
 (ja (IG 4 5<|z9 (wy DN (ux 0)<|lZ 2)<|z9 (wy DN (ux 0)<|lZ 1) vm)
 (ja (vh (Fm (y_ (bX 1 0)<|h_ "either") (qk 4)<|qk 5)<|qo 6)
 (ja (vh (Fm (y_ (bX 1 0)<|h_ "either") (qk 5)<|qk 4)<|qo 7)
 (ah<|hE<|z9 (iE<|z9 (h_ "either")<|z9 (qk 7)<|z9 (iE<|z9 (h_ "both")<|z9 (qk 6)<|jA (bX 2 0)<|bX 3 0) vm)<|jA (qk 4)<|qk 5)))))))))
set_option genInjectivity true in
inductive Kn where
 |lf (t:Bool) (n:Str)|nd (e:Bool) (i j:Nat)
abbrev Xw:=Option Kn
abbrev Xv:=List Kn
def vI:Kn->Y
 |.lf t n=>.tup [.str<|kL t,.str n]
 |.nd e i j=>.tup [.str<|kN e,.int ((i:Nat):Int),.int ((j:Nat):Int)]
inductive Ru where
 |link (p q:Nat)|ei (r:Nat) (A:Ru)|bo (r:Nat) (A B:Ru)|cu (p q:Nat) (A B:Ru)
abbrev Xy:=List Ru
def zf:Ru->Y
 |.link p q=>.tup [.str "link",.int ((p:Nat):Int),.int ((q:Nat):Int)]
 |.ei r A=>.tup [.str "either",.int ((r:Nat):Int),zf A]
 |.bo r A B=>.tup [.str "both",.int ((r:Nat):Int),zf A,zf B]
 |.cu p q A B=>.tup [.str "cut",.int ((p:Nat):Int),.int ((q:Nat):Int),zf A,zf B]
def qg:Ru->Xa
 |.link p q=>[p,q]
 |.ei r A=>r::qg A
 |.bo r A B=>r::(qg A++qg B)
 |.cu _ _ A B=>qg A++qg B
abbrev w5(ks:Xv):List Y:=ks.map vI
def dq(ks:Xv)(p:Nat)(w:Wd):Prop:=KW (w5 ks) p w
theorem dq.more{ks:Xv}{w:Wd}(h:dq ks p w)(ms:Xv):dq (ks++ms) p w:=by unfold dq w5;rw[AG];exact KW.more _ h
def eU(ks:Xv):Prop:=∀(p:Nat) (k:Kn),ks[p]?=some k->match k with
 |.lf _ n=>fH n
 |.nd _ i j=>i<p/\j<p
theorem eU.snoc{ks:Xv}{k:Kn}(h:eU ks)(I:match k with|.lf _ n=>fH n|.nd _ i j=>i<ks.length/\j<ks.length):eU (ks++[k]):=by
 intro p J e;by_cases c:p<ks.length
 ·rw[AD c] at e;exact h p J e
 ·rw[AK (by exact Fk)] at e;have c2:p=ks.length:=by
   by_cases c3:p-ks.length=0
   ·omega
   ·rw[CB (by simp;exact E4)] at e;cases e
  subst c2;rw[Dq] at e;cases e;exact I
theorem fO(l:List α)(x:α)(r:List α):(l++x::r)[l.length]?=some x:=by rw[AK<|An _,Dq];rfl
theorem jR{l r:List α}{x:α}(h:l[p]?=some x):(l++r)[p]?=some x:=by rw[AD (A1.mp h).1];exact h
inductive SR(ks:Xv):Ru->Xa->Prop
 |link {p q:Nat} {t:Bool} {n:Str} {E:Xa}:p<q->ks[p]?=some (.lf t n)->ks[q]?=some (.lf (!t) n)->(∀x,x∈E↔x=p\/x=q)->E.Nodup->SR ks (.link p q) E
 |ei {r i j:Nat} {A:Ru} {EA E:Xa}:ks[r]?=some (.nd true i j)->SR ks A EA->i∈EA->j∈EA->i≠j->(∀x,x∈E↔(x∈EA/\x≠i/\x≠j)\/x=r)->E.Nodup->SR ks (.ei r A) E
 |bo {r i j:Nat} {A B:Ru} {EA EB E:Xa}:ks[r]?=some (.nd false i j)->SR ks A EA->SR ks B EB->i∈EA->j∈EB->(∀x,x∈E↔(x∈EA/\x≠i)\/(x∈EB/\x≠j)\/x=r)->E.Nodup->SR ks (.bo r A B) E
 |cu {p q:Nat} {A B:Ru} {EA EB E:Xa} {w:Wd}:SR ks A EA->SR ks B EB->p∈EA->q∈EB->dq ks p w->dq ks q w.turn->(∀x,x∈E↔(x∈EA/\x≠p)\/(x∈EB/\x≠q))->E.Nodup->SR ks (.cu p q A B) E
theorem SR.more{ks:Xv}{R:Ru}{E:Xa}(h:SR ks R E)(ms:Xv):SR (ks++ms) R E:=by induction h with|link j r l I J=>exact .link j (jR r) (jR l) I J|ei j _ l I J o p t=>exact .ei (jR j) t l I J o p|bo j _ _ I J o p U g=>exact .bo (jR j) U g I J o p|cu _ _ l I J o p C U g=>exact .cu U g l I (J.more ms) (o.more ms) p C
theorem SR.sub{ks:Xv}{R:Ru}{E:Xa}(h:SR ks R E):∀x∈E,x∈qg R:=by
 induction h with
 |link _ _ _ j _=>intro x I;rcases (j x).mp I with rfl|rfl<;>simp[qg]
 |ei _ _ _ _ _ g _ l=>intro x I;rcases (g x).mp I with⟨h,_⟩|rfl;exact Ae _<|l x h;exact Ag ..
 |bo _ _ _ _ _ g _ J U=>
  intro x I;rcases (g x).mp I with⟨h,_⟩|⟨h,_⟩|rfl
  ·exact Ae _<|Al _<|J x h
  ·exact Ae _<|Ac _<|U x h
  ·exact Ag ..
 |cu _ _ _ _ _ _ o _ J U=>
  intro x I;rcases (o x).mp I with⟨h,_⟩|⟨h,_⟩
  ·exact Al _<|J x h
  ·exact Ac _<|U x h
inductive aF(n:Nat)(ys:List Y)(L:ql)(Q:YK):Prop
 |mk:∀wd,(ys=[cG wd])->(wd.depth<=n)->(Q (cG wd.turn) L)->aF n ys L Q
theorem S4:∀ys L Q,¬aF 0 ys L Q:=by rintro ys L Q ⟨I,_,hd,_⟩;cases I<;>simp[Wd.depth] at hd
theorem wB(t:Bool):v4 ([(("plain" : Str),("turned" : Str)),("turned","plain"),("both","either"),("either","both")].map λp=>((Sum.inr p.1:zv),Y.str p.2)) (Sum.inr<|kL t)=some (.str<|kL<|!t):=lI<|Sn t
theorem vZ(t:Bool):v4 ([(("plain" : Str),("turned" : Str)),("turned","plain"),("both","either"),("either","both")].map λp=>((Sum.inr p.1:zv),Y.str p.2)) (Sum.inr<|kN t)=some (.str<|kN<|!t):=lI<|So t
theorem S5(n:Nat):∀ys L Q,aF (n+1) ys L Q->jj (S2<|aF n) 2 ys L Q:=by
 rintro ys L Q ⟨J,rfl,hd,q⟩;intro p I;cases J with
 |leaf t nm=>
  refine xn q9<|qj (wB t) ?_;exact dt (By I) q
 |node e l r=>
  have U:max l.depth r.depth+1<=n+1:=hd;refine xn q9<|qj (vZ e) ?_;refine⟨l,rfl,by lia,r,rfl,by lia,?_⟩;exact dt (By I) q
structure DQ(ks:Xv)(w:Wd)(ms:Xv)(R:Ru)(tp sp:Nat):Prop where
 len:ms.length=2*w.size
 sr:SR (ks++ms) R [tp,sp]
 wt:dq (ks++ms) tp w.turn
 ws:dq (ks++ms) sp w
 tm:∀x,x∈qg R↔ks.length<=x/\x<ks.length+ms.length
 nd:(qg R).Nodup
 ok:eU (ks++ms)
theorem dq.leaf{ks:Xv}{t:Bool}{n:Str}(h:ks[p]?=some (.lf t n)):dq ks p (.leaf t n):=by show(w5 ks)[p]?=_;rw[Au,h];rfl
theorem dq.node{ks:Xv}{e:Bool}{l r:Wd}(h:ks[p]?=some (.nd e i j))(I:dq ks i l)(J:dq ks j r):dq ks p (.node e l r):=by refine⟨i,j,?_,I,J⟩;rw[Au,h];rfl
abbrev ES:=@dq.node
theorem uV{ks:Xv}(g:eU ks){t:Bool}{n:Str}(I:fH n):DQ ks (.leaf t n) [.lf (!t) n,.lf t n] (.link ks.length<|ks.length+1) ks.length (ks.length+1):=by
 have J:(ks++[Kn.lf (!t) n,.lf t n])[ks.length]?=some (.lf (!t) n):=fO _ _ _;have U:(ks++[Kn.lf (!t) n,.lf t n])[ks.length+1]?=some (.lf t n):=by have:=fO (ks++[Kn.lf (!t) n]) (Kn.lf t n) [];rw[Aa,AA] at this;exact this
 refine⟨rfl,.link (t:=!t) (n:=n) (by exact Br _) J (by rw[Bool.not_not];exact U) (by simp) (by simp),dq.leaf J,dq.leaf U,λx=>?_,by simp[qg],?_⟩
 ·show x∈[ks.length,ks.length+1]↔ks.length<=x/\x<ks.length+2;simp;lia
 ·have:=(g.snoc (k:=.lf (!t) n) I).snoc (k:=.lf t n) I;rw[AA] at this;exact this
theorem SR.nod{ks:Xv}{R:Ru}{E:Xa}(h:SR ks R E):E.Nodup:=by cases h<;>assumption
theorem S6{x h lo a r N:Nat}(I:(h=N/\lo=N+1)\/(h=N+1/\lo=N))(hN:N=a+m+r):x=h\/x=lo\/(a<=x/\x<a+m)\/a+m<=x/\x<a+m+r↔a<=x/\x<N+2:=by subst hN;rcases I with⟨rfl,rfl⟩|⟨rfl,rfl⟩<;>lia
theorem S7{x a b c d N:Nat}(h:a≠b)(k:c≠d):x∈[b,d,N]↔(x∈[a,b]/\x≠a)\/(x∈[c,d]/\x≠c)\/x=N:=by simp only[Am,Bo,or_false];lia
theorem S8{x a b c d N:Nat}(h:a≠b)(k:c≠d):x∈[a,c,N]↔(x∈[a,b]/\x≠b)\/(x∈[c,d]/\x≠d)\/x=N:=by simp only[Am,Bo,or_false];lia
theorem S9{x a b N M:Nat}(h:a<N)(k:b<N):x∈[N,M]↔(x∈[a,b,N]/\x≠a/\x≠b)\/x=M:=by simp only[Am,Bo,or_false];lia
theorem S'{x a b N M:Nat}(h:a<N)(k:b<N):x∈[M,N]↔(x∈[a,b,N]/\x≠a/\x≠b)\/x=M:=by simp only[Am,Bo,or_false];lia
theorem JO{a b N:Nat}(h:a<N)(k:b<N)(d:a≠b):[a,b,N].Nodup:=by rw[AC,AC];simp;lia
theorem Ta{a r N t s u v:Nat}(I:a<=t/\t<a+m)(J:a<=s/\s<a+m)(b1:a+m<=u/\u<a+m+r)(b2:a+m<=v/\v<a+m+r)(hN:N=a+m+r):t<N/\s<N/\u<N/\v<N/\t≠u/\s≠v:=by lia
theorem JP{h lo a r N:Nat}(I:(h=N/\lo=N+1)\/(h=N+1/\lo=N))(hN:N=a+m+r):¬(h=lo\/(a<=h/\h<a+m)\/a+m<=h/\h<a+m+r)/\¬((a<=lo/\lo<a+m)\/a+m<=lo/\lo<a+m+r):=by lia
theorem Tb{x y a r:Nat}(h1:a<=x/\x<a+m)(h2:a+m<=y/\y<a+m+r)(e:x=y):False:=by lia
theorem Tc{ks I g:Xv}{e:Bool}{l r:Wd}{A B:Ru}{tl J tr U:Nat}(p:DQ ks l I A tl J)(o:DQ (ks++I) r g B tr U){N:Nat}(hN:N=ks.length+(I++g).length):
 DQ ks (.node e l r) (I++g++[.nd (!e) tl tr,.nd e J U]) (.ei (if e=true then N+1 else N)<|.bo (if e=true then N else N+1) A B) N (N+1):=by
 have hA:∀x∈[tl,J],ks.length<=x/\x<ks.length+I.length:=λx T=>(p.tm x).mp<|p.sr.sub x T;have hB:∀x∈[tr,U],ks.length+I.length<=x/\x<ks.length+I.length+g.length:=λx T=>by have:=(o.tm x).mp<|o.sr.sub x T;rw[Aa] at this;exact this
 have a1:=hA tl (by simp);have a2:=hA J (by simp);have b1:=hB tr (by simp);have b2:=hB U (by simp);have nA:tl≠J:=by have:=p.sr.nod;simpa using this
 have nB:tr≠U:=by have:=o.sr.nod;simpa using this
 have t:N=ks.length+I.length+g.length:=by rw[hN,Aa];simp +arith only
 obtain⟨d1,d2,d3,d4,d5,d6⟩:=Ta a1 a2 b1 b2 t;generalize j:ks++(I++g++[Kn.nd (!e) tl tr,.nd e J U])=K;have k1:K=(ks++I)++(g++[Kn.nd (!e) tl tr,.nd e J U]):=by rw[<-j];simp
 have k2:K=((ks++I)++g)++[Kn.nd (!e) tl tr,.nd e J U]:=by rw[<-j];simp
 have k3:K=(((ks++I)++g)++[Kn.nd (!e) tl tr])++[.nd e J U]:=by rw[<-j];simp
 have l2:((ks++I)++g).length=N:=by rw[Aa,Aa];lia
 have g1:K[N]?=some (.nd (!e) tl tr):=by rw[k2,<-l2];exact fO _ _ _
 have g2:K[N+1]?=some (.nd e J U):=by
  have l3:(((ks++I)++g)++[Kn.nd (!e) tl tr]).length=N+1:=by rw[Aa,l2];rfl
  rw[k3,<-l3];exact fO _ _ _
 have sA:SR K A [tl,J]:=by rw[k1];exact p.sr.more _
 have sB:SR K B [tr,U]:=by rw[k2];exact o.sr.more _
 have a0:eU K:=by have o1:=o.ok.snoc (k:=.nd (!e) tl tr) (by show tl<((ks++I)++g).length/\tr<((ks++I)++g).length;rw[l2];exact⟨d1,d3⟩);have o2:=o1.snoc (k:=.nd e J U) (by show J<_/\U<_;rw[Aa,l2];exact⟨Cj d2,Cj d4⟩);rw[k3];exact o2
 have tA:=p.tm;have tB:=o.tm;rw[Aa] at tB;have wt:dq K N (Wd.node e l r).turn:=ES g1 (by rw[k1];exact p.wt.more _) (by rw[k2];exact o.wt.more _);have a3:dq K (N+1) (Wd.node e l r):=ES g2 (by rw[k1];exact p.ws.more _) (by rw[k2];exact o.ws.more _);have C:(I++g++[Kn.nd (!e) tl tr,.nd e J U]).length=2*(Wd.node e l r).size:=by have h1:=p.len;have h2:=o.len;show _=2*(1+l.size+r.size);rw[Aa,Aa];simp;lia
 have lt:ks.length+(I++g++[Kn.nd (!e) tl tr,.nd e J U]).length=N+2:=by rw[Aa];simp[hN];rfl
 have tt:∀h lo:Nat,(h=N/\lo=N+1)\/(h=N+1/\lo=N)->(∀x,x∈qg (.ei h<|.bo lo A B)↔ks.length<=x/\x<ks.length+(I++g++[Kn.nd (!e) tl tr,.nd e J U]).length)/\(qg<|.ei h<|.bo lo A B).Nodup:=by
  intro h lo hh;constructor
  ·intro x;rw[lt];show x∈h::lo::(qg A++qg B)↔_;rw[Am,Am,Ak,tA,tB];exact S6 hh t
  ·show(h::lo::(qg A++qg B)).Nodup;rw[AC,AC,AE];refine⟨?_,?_,p.nd,o.nd,λx T y hy e=>?_⟩
   ·rw[Am,Ak,tA,tB];exact(JP hh t).1
   ·rw[Ak,tA,tB];exact(JP hh t).2
   ·exact Tb ((tA x).mp T) ((tB y).mp hy) e
 cases e with
 |true=>
  have s1:SR K (.bo N A B) [J,U,N]:=by exact .bo g1 sA sB (by simp) (by simp) (λx=>S7 nA nB)<|JO d2 d4 d6
  have s2:SR K (.ei (N+1)<|.bo N A B) [N,N+1]:=by exact .ei g2 s1 (by simp) (by simp) d6 (λx=>S9 d2 d4) (by simp)
  obtain⟨t1,t2⟩:=tt (N+1) N<|.inr ⟨rfl,rfl⟩;exact⟨C,by rw[j];exact s2,by rw[j];exact wt,by rw[j];exact a3,t1,t2,by rw[j];exact a0⟩
 |false=>
  have s1:SR K (.bo (N+1) A B) [tl,tr,N+1]:=by exact .bo g2 sA sB (by simp) (by simp) (λx=>S8 nA nB)<|JO (Cj d1) (Cj d3) d5
  have s2:SR K (.ei N<|.bo (N+1) A B) [N,N+1]:=by exact .ei g1 s1 (by simp) (by simp) d5 (λx=>S' (Cj d1)<|Cj d3) (by simp)
  obtain⟨t1,t2⟩:=tt N (N+1)<|.inl ⟨rfl,rfl⟩;exact⟨C,by rw[j];exact s2,by rw[j];exact wt,by rw[j];exact a3,t1,t2,by rw[j];exact a0⟩
inductive w9(n:Nat)(ys:List Y)(L:ql)(Q:YK):Prop
 |mk:∀a,∀ks:Xv,∀w:Wd,(ys=[.ref a,cG w])->(L a=some (.lst<|w5 ks))->(w.depth<=n)->(n<=120)->(w.ok)->(eU ks)->(ks.length+2*w.size<=10000)->(∀ms R tp sp p,L p=none->DQ ks w ms R tp sp->Q (.ref p) (qe (qe L a<|.lst<|w5<|ks++ms) p<|.lst [zf R,.int ((tp:Nat):Int),.int ((sp:Nat):Int)]))->w9 n ys L Q
theorem Td:∀ys L Q,¬w9 0 ys L Q:=by rintro ys L Q ⟨a,J,I,_,_,hd,_⟩;cases I<;>simp[Wd.depth] at hd
theorem yt{a p:Addr}{o x y:LO}(I:L a=some o)(hp:L p=none):qe (qe L a x) p y a=some x/\qe (qe L a x) p y p=some y/\∀b u,b≠a->L b=some u->qe (qe L a x) p y b=some u:=
 ⟨(qb<|xu I hp).trans q9,q9,λ_ _ n e=>(qb<|xu e hp).trans<|(qb n).trans e⟩
theorem vA{a p:Addr}{o x:LO}(I:L a=some o)(hp:qe L a x p=none):L p=none:=by
 have:p≠a:=λe=>by rw[e,q9] at hp;cases hp
 rw[qb this] at hp;exact hp
theorem a_:∀m:Nat,m<=20000->m<sizeLine:=λm h=>Bw h (by decide)
theorem Te{FS:zd}(hF:∀ys L Q,aF 120 ys L Q->FS ys L Q)(n:Nat):∀ys L Q,w9 (n+1) ys L Q->jj (S3 FS<|w9 n) 8 ys L Q:=by
 rintro ys L Q ⟨a,I,w,rfl,ha,hd,hn,T,hk,hb,q⟩;have big:=a_;cases w with
 |leaf t nm=>
  have hb:I.length+2*1<=10000:=hb;refine qc ha (hF _ _ _ ⟨.leaf t nm,rfl,by exact Ce _,qp ha ⟨big _ (by rw[Ah];lia),?_⟩⟩);refine qc q9 (qp q9 ⟨big _ (by rw[Aa,Ah];simp;lia),?_⟩);rw[zc];obtain⟨W,j⟩:∃W,W=w5 (I++[Kn.lf (!t) nm,.lf t nm]):=⟨_,rfl⟩;have e1:(w5 I++[cG (Wd.leaf t nm).turn])++[cG<|.leaf t nm]=W:=by rw[j];unfold w5;rw[AG,AA];rfl
  have e2:W.length=I.length+2:=by rw[j,Ah,Aa];rfl
  have i1:((W.length:Nat):Int)-2=((I.length:Nat):Int):=by rw[e2];lia
  have i2:((W.length:Nat):Int)-1=((I.length+1:Nat):Int):=by rw[e2];lia
  have ab:(w5 I++[cG (Wd.leaf t nm).turn])++[.tup [.str<|kL t,.str nm]]=W:=e1
  first|rw[e1]|rw[ab]
  refine qc q9<|qc q9<|qc q9<|qc q9 λp J=>?_;have np:L p=none:=vA ha J;have:=q _ _ _ _ p np<|uV hk T;rw[<-j] at this;show fG Q (.ref p) (qe _ p<|.lst [.tup [.str "link",.int<|((W.length:Nat):Int)-2,.int<|((W.length:Nat):Int)-1],.int<|((W.length:Nat):Int)-2,.int<|((W.length:Nat):Int)-1]);rw[i1,i2];exact jv this
 |node e l r=>
  have al:max l.depth r.depth+1<=n+1:=hd;have hb:I.length+2*(1+l.size+r.size)<=10000:=hb;refine⟨a,I,l,rfl,ha,by lia,by exact jU,T.1,hk,by lia,λU A tl sl p1 a4 ML=>?_⟩;obtain⟨g,g1,o1⟩:=yt (x:=.lst<|w5<|I++U) (y:=.lst [zf A,.int ((tl:Nat):Int),.int ((sl:Nat):Int)]) ha a4;have a5:p1≠a:=AQ<|xu ha a4;have au:=ML.len;generalize qe (qe L a<|.lst<|w5<|I++U) p1 _=L1 at g g1 o1 ⊢;refine⟨a,I++U,r,rfl,g,by lia,by exact jU,T.2,ML.ok,by rw[Aa];lia,λC B tr sr p2 a7 MR=>?_⟩;obtain⟨a0,h2,o2⟩:=yt (x:=.lst<|w5<|(I++U)++C) (y:=.lst [zf B,.int ((tr:Nat):Int),.int ((sr:Nat):Int)]) g a7;have ac:p2≠a:=AQ<|xu g a7;have h1:=o2 _ _ a5 g1;have av:=MR.len;generalize qe (qe L1 a<|.lst<|w5<|(I++U)++C) p2 _=L2 at a0 h1 h2 o2 ⊢;have aL:(w5<|(I++U)++C).length=I.length+U.length+C.length:=by rw[Ah,Aa,Aa]
  refine qc a0 (hF _ _ _ ⟨.node e l r,rfl,by show max l.depth r.depth+1<=120;exact EQ,qc h1<|qc h2<|qp a0 ⟨big _ (by lia),?_⟩⟩);have a1:=λo=>(qb (L:=L2) (o:=o) a5).trans h1;have a2:=λo=>(qb (L:=L2) (o:=o) ac).trans h2;refine qc q9 (qc (a1 _) (qc (a2 _) (qp q9 ⟨big _ (by rw[Aa];simp;lia),?_⟩)));rw[zc];obtain⟨N,hN⟩:∃N,N=I.length+(U++C).length:=⟨_,rfl⟩;have M:=Tc (e:=e) ML MR hN;obtain⟨W,j⟩:∃W,W=w5 (I++(U++C++[.nd (!e) tl tr,.nd e sl sr])):=⟨_,rfl⟩;have e1:(w5 ((I++U)++C)++[.tup [.str<|kN<|!e,.int ((tl:Nat):Int),.int ((tr:Nat):Int)]])++[.tup [.str<|kN e,.int ((sl:Nat):Int),.int ((sr:Nat):Int)]]=W:=by rw[j];unfold w5;simp[vI]
  rw[e1];have lN:W.length=N+2:=by rw[j,Ah,Aa,Aa,hN];simp;rfl
  have i1:((W.length:Nat):Int)-2=((N:Nat):Int):=by rw[lN];lia
  have i2:((W.length:Nat):Int)-1=((N+1:Nat):Int):=by rw[lN];lia
  refine qc q9<|qc q9 ?_;have done:∀p,qe L2 a (.lst W) p=none->∀R,DQ I (.node e l r) (U++C++[Kn.nd (!e) tl tr,.nd e sl sr]) R N (N+1)->
   fG Q (.ref p) (qe (qe L2 a<|.lst W) p<|.lst [zf R,.int ((N:Nat):Int),.int ((N+1:Nat):Int)]):=λp J R MM=>by
   have a3:p≠a:=λz=>by rw[z,q9] at J;cases J
   rw[qb a3] at J;have np:L p=none:=by cases z:L p with|none=>rfl|some o=>rw[o2 p o a3<|o1 p o a3 z] at J;cases J
   refine dt ?_<|q _ _ _ _ p np MM;rw[<-j];intro b o z;by_cases c1:b=p
   ·subst c1;rw[q9] at z ⊢;exact z
   ·rw[qb c1] at z ⊢;by_cases c2:b=a
    ·subst c2;rw[q9] at z ⊢;exact z
    ·rw[qb c2] at z ⊢;exact o2 b o c2<|o1 b o c2 z
  clear j e1;cases e with
  |true=>
   walk_at "w";refine qc (a1 _)<|qc (a2 _) λp J=>?_;show fG Q (.ref p) (qe _ p<|.lst [.tup [.str "either",.int<|((W.length:Nat):Int)-1,.tup [.str "both",.int<|((W.length:Nat):Int)-2,zf A,zf B]],.int<|((W.length:Nat):Int)-2,.int<|((W.length:Nat):Int)-1]);rw[i1,i2];exact done p J _ M
  |false=>
   walk_at "w";refine qc (a1 _)<|qc (a2 _) λp J=>?_;show fG Q (.ref p) (qe _ p<|.lst [.tup [.str "either",.int<|((W.length:Nat):Int)-2,.tup [.str "both",.int<|((W.length:Nat):Int)-1,zf A,zf B]],.int<|((W.length:Nat):Int)-2,.int<|((W.length:Nat):Int)-1]);rw[i1,i2];exact done p J _ M
end L3
variable {As F F0:List L3.Ru}{ks wd:List<|Option L3.Kn}{ms:List L3.Kn}
namespace L3
open PySem L2 Words
noncomputable def mZ(I:zd):RD "parts_of" gn 1 ["knot"] (λV=>Js V I):=⟨_,λV B c _ _ _ _ _ _ _ J hN U=>(qa (zm (wu<|ao (aC<|qv 0)<|bM<|js<|C_ c J<|jo<|qv 0) (qd<|qr<|zj xw) qz)<|qd<|qr<|zj<|vv (J_ 0)<|J_ 0)⟩
noncomputable def wL(I:zd):vn:=(mZ I).1
noncomputable def eM:RD "places_there" bT 0 ["knots"] (λ_=>True):=⟨_,λV B c _ _ _ _ _ _ _ I hN J=>(qd<|qr<|n9 ["place","knot" ] (EL (by rfl)) rfl (dM rfl B.bg<|qv 0) (JM 1) (λ_ _ _ _=>cH<|fu<|qv 2) λ_ _ _ _=>(qv 1))⟩
noncomputable def nE:vn:=(eM).1
noncomputable def i6:RD "eithers_of" dN 0 ["web"] (λ_=>True):=⟨_,λV B c _ _ _ _ _ _ _ J hN I=>(qd<|qr<|n9 ["place","knot" ] (EL (by rfl)) rfl (dM rfl B.bg<|J_ 0) (JM 1) (λ_ _ _ _=>cH<|wu<|dQ (fu<|qv 2)<|ax<|E_ I (J_ 2) j5) λ_ _ _ _=>(qv 1))⟩
noncomputable def sV:vn:=(i6).1
noncomputable def mv(I:zd):RD "boths_of" gx 1 ["web"] (λV=>Fx V I):=⟨_,λV B c _ _ _ _ _ _ _ J hN U=>(qd<|qr<|n9 ["place"] (EL (by rfl)) rfl (vf<|C_ c J<|jo<|J_ 0) (wM 1) (λ_ _ _ _=>cH<|E_ U (I_ (I_ (J_ 0)<|qv 1) qf) j5) λ_ _ _ _=>(qv 1))⟩
noncomputable def wV(I:zd):vn:=(mv I).1
noncomputable def iR(I:zd):RD "part_edges" dU 2 ["knots","places","edges","place"] (λV=>Gr V I):=⟨_,λV B c _ _ _ _ _ _ _ J hN U=>(qa (S_ 2 hN<|zj xw)<|qa (vi u2 rfl (vf<|qv 1) (fw (i:=3) hN rfl<|Or.inr rfl)<|qd<|za<|QX (qv 2)<|jo<|n9 ["part"] (EL (by rfl)) rfl (vf<|C_ c J<|jo<|I_ (qv 0)<|qv 3) (wM 4) (λ_ _ _ _=>wF) λ_ _ _ _=>(zh<|vv (qv 3)<|qv 4))<|qd<|qr<|qv 2)⟩
noncomputable def rN(I:zd):vn:=(iR I).1
noncomputable def oS(I:zd)(J:zd):RD "joins_of" gz 3 ["web"] (λV=>Ju V I/\Jt V J):=⟨_,λV B c _ _ _ _ _ _ _ U hN g=>(qd<|qr<|qm jf (qm jf (J_ 0)<|J_ 0)<|C_ c.1 U<|vv (J_ 0)<|C_ c.2 U<|jo<|qv 0)⟩
noncomputable def wC(I:zd)(J:zd):vn:=(oS I J).1
def l6:Xw->Y
 |none=>.non
 |some k=>vI k
abbrev aM(ks:List<|Xw):List Y:=ks.map l6
def jp:Xw->Xa
 |some (.nd _ i j)=>[i,j]
 |_=>[]
inductive cb(ys:List Y)(L:ql)(Q:YK):Prop
 |mk:∀k:Xw,(ys=[l6 k])->(∀p,L p=none->Q (.ref p) (qe L p<|.lst<|nY<|jp k))->cb ys L Q
theorem Tf:∀ys L Q,cb ys L Q->jj (wL dF) 1 ys L Q:=by
 rintro ys L Q ⟨k,rfl,q⟩;cases k with
 |none=>exactλp I=>jv<|q p I
 |some k=>
  cases k with|lf t n=>exact⟨true,t,_,rfl,λp I=>jv<|q p I⟩|nd e i j=>exact⟨false,e,_,rfl,λp I=>jv<|q p I⟩
def kY(f:Xw->Bool)(ks:List<|Xw)(i:Nat):Xa:=(List.range i).filter λp=>match ks[p]? with
 |some k=>f k
 |none=>false
theorem iO{f:Xw->Bool}{k:Xw}(h:ks[i]?=some k):kY f ks (i+1)=kY f ks i++if f k=true then [i] else []:=by unfold kY;rw[Ei,Bp];congr 1;rw[BH];simp only[h,Cw]
theorem dA{f:Xw->Bool}(h:p∈kY f ks i):p<i/\∃k,ks[p]?=some k/\f k=true:=by
 unfold kY at h;obtain⟨J,I⟩:=AN.mp h;refine⟨AZ.mp J,?_⟩;split at I
 ·rename_i k e;exact⟨k,e,I⟩
 ·cases I
theorem gC(f:Xw->Bool)(ks:List<|Xw)(i:Nat):(kY f ks i).length<=i:=by unfold kY;exact AL (Bd _ _) (by rw[Ba];simp +arith only)
def eL:Xw->Bool
 |some _=>true
 |none=>false
def bY(e:Bool):Xw->Bool
 |some (.nd I _ _)=>decide<|I=e
 |_=>false
abbrev zr(ks:List<|Xw):Xa:=kY eL ks ks.length
abbrev jb(e:Bool)(ks:List<|Xw):Xa:=kY (bY e) ks ks.length
theorem dR(a b:Xa):nY (a++b)=nY a++nY b:=by unfold nY;rw[AG]
theorem bO(h:(nY hs)[i]?=some y):∃n,hs[i]?=some n/\y=.int (n:Int):=by unfold nY at h;rw[Au] at h;obtain⟨n,I,J⟩:=AI.mp h;exact⟨n,I,J.symm⟩
theorem tU{f:Xw->Bool}{keep:ql->Prop}{Q:YK}(hz:ks.length<=1000)(j:keep L)
 (turn:∀(i:Nat) (k:Xw) (R:List Y->ql->Prop) zs,ks[i]?=some k->(f k=true->R (zs++[.int (i:Int)]) L)->(f k=false->R zs L)->g (.tup [.int (i:Nat),l6 k]) (τ++List.replicate 2 none) L λI L2=>tc I L2 λb L3=>aK b (te I L3 λz l=>R (zs++[z]) l)<|R zs L3)
 (o:∀p,L p=none->Q (.ref p) (qe L p<|.lst<|nY<|kY f ks ks.length)):g_ (lE<|aM ks) keep 2 g tc te τ L Q:=by
 refine eY (λi zs=>zs=nY (kY f ks i)) (by rw[gG,Ah];exact Bw hz (by decide)) j rfl ?_ ?_
 ·rintro i y zs r rfl;obtain⟨z,U,rfl⟩:=fJ r;rw[Au] at U;obtain⟨k,J,rfl⟩:=AI.mp U;refine turn i k _ _ J (λh=>⟨L,EC _,rfl,?_⟩) λh=>⟨L,EC _,rfl,?_⟩
  ·rw[iO J,Aw h,dR];rfl
  ·rw[iO J,Ar (by rw[h];exact AH),Av]
 ·rintro zs rfl;rw[gG,Ah];exact o
inductive cX(ys:List Y)(L:ql)(Q:YK):Prop
 |mk:∀a,∀ks:List (Xw),(ys=[.ref a])->(L a=some (.lst<|aM ks))->(ks.length<=1000)->(∀p,L p=none->Q (.ref p) (qe L p<|.lst<|nY<|zr ks))->cX ys L Q
theorem Tg:∀ys L Q,cX ys L Q->jj nE 1 ys L Q:=by
 rintro ys L Q ⟨a,o,rfl,I,J,q⟩;refine w6 I λkeep U=>tU (f:=eL) J (U L rfl) (λi k R r t g j=>?_) λp l=>jv<|q p l;cases k with
 |none=>exact j rfl
 |some k=>cases k<;>exact g rfl
abbrev bJ(a l c:Addr):Y:=.tup [.ref a,.ref l,.ref c]
inductive eI(ys:List Y)(L:ql)(Q:YK):Prop
 |mk:∀a l c,∀ks:List (Xw),(ys=[bJ a l c])->(L a=some (.lst<|aM ks))->(ks.length<=1000)->(∀p,L p=none->Q (.ref p) (qe L p<|.lst<|nY<|jb true ks))->eI ys L Q
theorem Th:∀ys L Q,eI ys L Q->jj sV 1 ys L Q:=by
 rintro ys L Q ⟨a,l,c,C,rfl,J,U,q⟩;refine w6 J λkeep g=>tU (f:=bY true) U (g L rfl) (λi k R T ek o I=>?_) λp r=>jv<|q p r;cases k with
 |none=>exact I rfl
 |some k=>
  cases k with
  |lf t n=>cases t<;>exact I rfl
  |nd e i j=>
   cases e with|true=>exact o rfl|false=>exact I rfl
inductive iP(ys:List Y)(L:ql)(Q:YK):Prop
 |mk:∀a l c,∀ks:List (Xw),(ys=[bJ a l c])->(L a=some (.lst<|aM ks))->(ks.length<=1000)->(∀p,L p=none->Q (.ref p) (qe L p<|.lst<|nY<|jb false ks))->iP ys L Q
theorem Ti(f g:Xw->Bool)(ks:List<|Xw)(i:Nat):((kY f ks i).filter λp=>match ks[p]? with|some k=>g k|none=>false)=kY (λk=>f k&&g k) ks i:=by unfold kY;rw[List.filter_filter];refine List.filter_congr λp _=>?_;cases ks[p]? with|none=>rfl|some k=>exact Bool.and_comm _ _
theorem xM(e:Bool)(ks:List<|Xw)(i:Nat):kY (λk=>eL k&&bY e k) ks i=kY (bY e) ks i:=by unfold kY;refine List.filter_congr λp _=>?_;cases ks[p]? with|none=>rfl|some k=>cases k<;>rfl
theorem Tj:∀ys L Q,iP ys L Q->jj (wV cX) 1 ys L Q:=by
 rintro ys L Q ⟨a,l,c,I,rfl,ha,hz,q⟩;refine⟨a,I,rfl,ha,hz,λp j=>?_⟩;have r:=By (o:=.lst<|nY<|zr I) j _ _ ha;refine w6 q9 λkeep kp=>eY (λi J=>J=nY (((zr I).take i).filter λp=>match I[p]? with|some k=>bY false k|none=>false)) (by rw[jd];exact Bw (AL (gC _ _ _) hz) (by decide)) (kp _ rfl) rfl ?_ ?_
 ·rintro i y J ey rfl;obtain⟨n,en,rfl⟩:=bO ey;obtain⟨hn,k,g,hk⟩:=dA<|AF en;have C:(zr I).take (i+1)=(zr I).take i++[n]:=by rw[Bk,en];rfl
  have a1:cI (aM I) (n:Int)=some (l6 k):=jt (by rw[Au,g];rfl);refine qc r<|qj a1 ?_;cases k with
  |none=>cases hk
  |some k=>
   cases k with
   |lf t nm=>
    have z:jM (λJ L'=>L'=qe L p (.lst<|nY<|zr I)/\J=nY (((zr I).take<|i+1).filter λp=>match I[p]? with|some k=>bY false k|none=>false)) (nY<|((zr I).take i).filter λp=>match I[p]? with|some k=>bY false k|none=>false) (qe L p<|.lst<|nY<|zr I):=by refine⟨_,EC _,rfl,?_⟩;rw[C,Bp,BH];simp[g,bY]
    cases t<;>exact z
   |nd e i' j'=>
    cases e with
    |true=>
     refine⟨_,EC _,rfl,?_⟩;rw[C,Bp,BH];simp[g,bY]
    |false=>
     refine⟨_,EC _,rfl,?_⟩;rw[C,Bp,BH];simp[g,bY,nY]
 ·rintro J rfl T a0;rw[jd,Bi,Ti,xM];have U:L T=none:=cT (By j) a0;refine dt (L:=qe L T<|.lst<|nY<|jb false I) ?_<|q T U;exact qh.put ((By (o:=.lst<|nY<|zr I) j).upd U) q9
theorem Tk(a b:Nat):min (a:Int) (b:Int)=((min a b:Nat):Int):=by omega
theorem To(a b:Nat):max (a:Int) (b:Int)=((max a b:Nat):Int):=by omega
def Gy(p:Xi):Y:=.tup [.int ((p.1:Nat):Int),.int ((p.2:Nat):Int)]
abbrev j4(l:W6):List Y:=l.map Gy
def ji(ks:List<|Xw)(pl:Xa):W7:=pl.flatMap λp=>match ks[p]? with
 |some k=>(jp k).map λq=>(p,q)
 |none=>[]
theorem jH(ks:List<|Xw)(a b:Xa):ji ks (a++b)=ji ks a++ji ks b:=by unfold ji;rw[AJ]
theorem kJ{k:Xw}(h:ks[p]?=some k):ji ks [p]=(jp k).map λq=>(p,q):=by unfold ji;simp[h]
theorem jX(k:Xw):(jp k).length<=2:=by unfold jp;split<;>simp
theorem fv(ks:List<|Xw):∀pl:Xa,(ji ks pl).length<=2*pl.length
 |[]=>by simp[ji]
 |p::r=>by
  have I:=fv ks r;have e:=jH ks [p] r;rw[Cc] at e;rw[e,Aa,Az];cases h:ks[p]? with
  |none=>
   have:ji ks [p]=[]:=by unfold ji;simp[h]
   rw[this];simp;lia
  |some k=>
   rw[kJ h,Ah];have:=jX k;lia
inductive gD(ys:List Y)(L:ql)(Q:YK):Prop
 |mk:∀a b,∀ks:List (Xw),∀pl:Xa,(ys=[.ref a,.ref b])->(L a=some (.lst<|aM ks))->(L b=some (.lst<|nY pl))->(pl.length<=1000)->((∀p∈pl,p<ks.length))->(∀p,L p=none->Q (.ref p) (qe L p<|.lst<|j4<|ji ks pl))->gD ys L Q
theorem Tp:∀ys L Q,gD ys L Q->jj (rN cb) 4 ys L Q:=by
 rintro ys L Q ⟨a,b,J,pl,rfl,ha,C,hz,T,q⟩;intro p U;have a0:a≠p:=xu ha U;have g:b≠p:=xu C U;refine aw (ys:=nY pl) (jm<|(qb g).trans C) (λi r t=>∃c,r=[some<|.ref a,some<|.ref b,some<|.ref p,c]/\t=qe L p (.lst<|j4<|ji J<|pl.take i)) ⟨_,rfl,rfl⟩ ?_ ?_ ?_
 ·rintro i r t ⟨c,rfl,rfl⟩;rw[qb g,qb g]
 ·rintro i y r t hy ⟨c,rfl,rfl⟩;obtain⟨n,en,rfl⟩:=bO hy;have hn:=T n<|AF en;obtain⟨k,ek⟩:∃k,J[n]?=some k:=⟨_,Ao hn⟩;have a1:cI (aM J) (n:Int)=some (l6 k):=jt (by rw[Au,ek];rfl);have et:pl.take (i+1)=pl.take i++[n]:=by rw[Bk,en];rfl
  refine qc q9<|qc ((qb a0).trans ha)<|qj a1 ⟨k,rfl,λp2 I=>?_⟩;refine w6 q9 λkeep kp=>eY (λj zs=>zs=j4 (((jp k).take j).map λq=>(n,q))) (by rw[jd];exact Bw (jX k) (by decide)) (kp _ rfl) rfl ?_ ?_
  ·rintro j y zs ey rfl;obtain⟨m,em,rfl⟩:=bO ey;refine⟨_,EC _,rfl,?_⟩;rw[Bk,em,AG];unfold j4;rw[AG];rfl
  ·rintro zs rfl p3 l;rw[jd,Bi];have o:p≠p3:=xu ((qb<|xu q9 I).trans q9) l;refine qp ((qb o).trans<|(qb<|xu q9 I).trans q9)<|qp q9 ⟨?_,?_⟩
   ·rw[Ah,Ah,Ah];have h1:=fv J<|pl.take i;have h2:=jX k;have h3:(pl.take i).length<=1000:=by rw[A5];lia
    have C:(3000:Nat)<=sizeLine:=by decide
    lia
   ·refine⟨qe L p<|.lst<|j4<|ji J<|pl.take<|i+1,?_,_,rfl,rfl⟩;have e:j4 (ji J<|pl.take i)++j4 ((jp k).map λq=>(n,q))=j4 (ji J<|pl.take<|i+1):=by rw[et,jH,kJ ek];unfold j4;rw[AG]
    rw[e];have n2:L p2=none:=cT (By U) I;have n3:L p3=none:=cT ((By U).trans<|By I) l;exact qh.put ((((By U).trans<|By I).trans<|By l).upd U) q9
 ·rintro r t ⟨c,rfl,rfl⟩;rw[jd,Bi];exact jv<|q p U
def xi(ks:List<|Xw)(lk ct:W6):W7:=(lk++ct)++ji ks (jb false ks)
inductive f7(ys:List Y)(L:ql)(Q:YK):Prop
 |mk:∀a l c,∀ks:List (Xw),∀lk ct:W7,(ys=[bJ a l c])->(L a=some (.lst<|aM ks))->(L l=some (.lst<|j4 lk))->(L c=some (.lst<|j4 ct))->(ks.length<=1000)->(lk.length<=1000)->(ct.length<=1000)->(∀p,L p=none->Q (.ref p) (qe L p<|.lst<|j4<|xi ks lk ct))->f7 ys L Q
theorem Tq:∀ys L Q,f7 ys L Q->jj (wC gD iP) 1 ys L Q:=by
 rintro ys L Q ⟨a,l,c,I,lk,ct,rfl,ha,hl,hc,T,a0,a1,q⟩;have hb:(10000:Nat)<sizeLine:=by decide
 refine⟨_,_,hl,hc,by rw[Ah,Ah];lia,λp1 U=>?_⟩;have g:=By (o:=.lst<|j4 lk++j4 ct) U _ _ ha;refine⟨a,l,c,I,rfl,g,T,λp2 J=>?_⟩;have r:=By (o:=.lst<|nY<|jb false I) J _ _ g;refine⟨a,p2,I,jb false I,rfl,r,q9,AL (gC _ _ _) T,λp hp=>(dA hp).1,λp3 j=>?_⟩;have e1:=By (o:=.lst<|j4<|ji I<|jb false I) j _ _<|By (o:=.lst<|nY<|jb false I) J _ _<|q9 (L:=L) (a:=p1) (o:=.lst<|j4 lk++j4 ct);refine⟨_,_,e1,q9,?_,λt C=>?_⟩
 ·have:=fv I<|jb false I;have:(jb false I).length<=I.length:=gC (bY false) I I.length;rw[Aa,Ah,Ah,Ah];lia
 ·have n1:qh L (qe (qe (qe L p1<|.lst<|j4 lk++j4 ct) p2<|.lst<|nY<|jb false I) p3<|.lst<|j4<|ji I<|jb false I):=((By U).trans<|By J).trans<|By j;have n4:L t=none:=cT n1 C;refine dt (L:=qe L t<|.lst<|j4<|xi I lk ct) ?_<|q t n4;have e:j4 lk++j4 ct++j4 (ji I<|jb false I)=j4 (xi I lk ct):=by unfold j4 xi;rw[AG,AG]
  rw[e];exact qh.put (n1.upd n4) q9
def rJ(I:Addr)(J:zd):vn:=(ja (vh (hE vm)<|qo 2)
 (ja (l8 (ag<|qk 1) (df 2<|jh (qo 3)<|jh (qo 4) bv)<|di (yB<|ww I "unite" J (qk 0)<|jA (qk 3)<|qk 4) (aP<|rE vq (qk 2)<|z9 (iE<|z9 (h_ "join")<|jA (qk 3)<|qk 4) vm) bP)
 (ah<|qk 2)))
def wK(I:Addr)(J:zd)(p1:zd):vn:=(ja (vh (ya 1 (ag<|xm J<|z9 (wy og (qk 1)<|qk 2) vm) (qo 4) IJ<|ww I "head_of" p1 (qk 0)<|dg<|qk 4)<|qo 3)
 (ah<|IB (wy (yH false) (bX 3 0)<|bX 3 1)<|wy (yH true) (bX 3 0)<|ww I "head_of" p1 (qk 0)<|dg<|qk 2))
def rh(I:Addr)(J:zd)(p1:zd):vn:=(ja (vh (hE vm)<|qo 3)
 (ja (vh (Iw Ix<|lZ 1)<|qo 4)
 (ja (oN (yB<|wy QZ (qk 4)<|ux 3) (ja (vh (ux 3)<|qo 4)
 (l8 (ag<|qk 2) (qo 5) (di (yB<|xm J<|z9 (qk 0)<|jA (qk 1)<|qk 5) (ja (aP<|ww I "unite" p1 (qk 0)<|z9 (qk 5)<|z9 (wy og (wy og (qk 1)<|qk 5)<|lZ 1) vm)
 (aP<|rE vq (qk 3)<|z9 (Fw (h_ "fold")<|qk 5) vm)) bP))))
 (ah<|qk 3))))
def wQ(I:Addr)(J:zd)(p1:zd)(p2:zd):vn:=(ja (vh (uC I J<|dg<|ux 0)<|qo 3)
 (ah<|wy xO (xm p1<|jA (qk 3)<|qk 1)<|xm p2<|z9 (qk 3)<|jA (qk 0)<|qk 2))
noncomputable def ak(I:zd)(J:zd):RD "all_come_together" we 5 ["knots","joins","eithers","due"] (λV=>Fx V I/\Jv V J):=⟨_,λV B c _ _ _ _ _ _ _ U hN g=>(qa (S_ 3 hN<|qm cO (L_ B.ba<|C_ c.1 U<|jo<|qv 0) qf)<|qd<|qr<|gy (aE (im _ _ _ g) (qm jf (L_ B.ba<|qv 1)<|L_ B.ba<|qv 2) (qv 3)<|x6 _)<|jY<|aE (im _ _ _ g) (L_ B.ba<|C_ c.2 U<|aW (qv 0) (qv 1)<|qv 2) (qv 3)<|x6 _)⟩
noncomputable def gO(I:zd)(J:zd):vn:=(ak I J).1
noncomputable def lK(I:zd)(J:zd)(U:zd):RD "right_web" dz 6 ["web"] (λV=>Gv V I/\Gs V J/\Gu V U):=⟨_,λV B c _ _ _ _ _ _ _ g hN j=>(qd<|qr<|C_ c.1 g<|aW (J_ 0) (C_ c.2.2 g<|jo<|qv 0)<|C_ c.2.1 g<|jo<|qv 0)⟩
noncomputable def tQ(I:zd)(J:zd)(U:zd):vn:=(lK I J U).1
noncomputable def lS(U:zd)(g:zd)(J:zd)(I:zd):RD "first_bad" fD 7 ["web","knots","joins","eithers","choices","number","place","left","choice"] (λV=>Jw V U/\Gu V g/\Gs V J/\Gv V I):=⟨_,λV B c _ _ _ _ _ _ _ j hN l=>(qa (zm (js<|C_ c.1 j<|jo<|qv 0) (qd<|qr ky) qz)<|qa (S_ 1 hN<|J_ 0)<|qa (S_ 2 hN<|C_ c.2.1 j<|jo<|qv 0)<|qa (S_ 3 hN<|C_ c.2.2.1 j<|jo<|qv 0)<|qa (S_ 4 hN<|zj xw)<|qa (vi u2 rfl (dM rfl B.bg<|qv 3) (aQ (n:=2) rfl<|zg (G_ 5 hN)<|zg (G_ 6 hN) kg)<|qa (S_ 7 hN<|zh<|vv (qv 6)<|I_ (I_ (qv 1)<|qv 6) qf)<|qa (S_ 8 hN<|eQ (js<|C_ c.2.2.2 j<|aW (qv 1) (qm jf (qv 2)<|zj<|jo<|qv 7)<|xz (vG _ _ _) (qv 3) (xr<|qm jf (qv 5) qf) aX) qf qf)<|qa (za<|z7 (qv 4)<|jo<|qv 8)<|qd<|za<|z7 (qv 2)<|jo<|zh<|vv (qv 6)<|I_ (I_ (qv 1)<|qv 6)<|qm jf qf<|qv 8)<|qd<|qr<|qv 4)⟩
noncomputable def uH(U:zd)(g:zd)(J:zd)(I:zd):vn:=(lS U g J I).1
def sQ(hs:Xa)(a b:Nat):Prop:=∃r,ju hs a r/\ju hs b r
def Mon(hs hs':Xa):Prop:=∀a b,sQ hs a b->sQ hs' a b
theorem Mon.trans{a b c:Xa}(h:Mon a b)(k:Mon b c):Mon a c:=λx y z=>k x y<|h x y z
theorem oM(h:∀x s,ju hs x s->ju hs' x s):Mon hs hs':=λ_ _ ψ=>(by obtain⟨r,p,q⟩:=ψ;exact ⟨r,h _ _ p,h _ _ q⟩)
theorem nZ{a b:Nat}(h:∀i s,ju hs i s->ju hs' i (if s=a then b else s)):Mon hs hs':=λ_ _ ψ=>(by obtain⟨_,p,q⟩:=ψ;exact ⟨_,h _ _ p,h _ _ q⟩)
theorem Ts{a b:Nat}(h:∀i s,ju hs i s->ju hs' i (if s=a then b else s))(ta:ju hs p a)(tb:ju hs q b):sQ hs' p q:=by
 have J:=h _ _ ta;have I:=h _ _ tb;rw[Aw rfl] at J;refine⟨b,J,?_⟩;by_cases c:b=a
 ·rw[Aw c] at I;exact I
 ·rw[Ar c] at I;exact I
theorem uM{a b I J:Nat}(h:∀x s,ju hs x s->ju hs' x s)(ta:ju hs a I)(tb:ju hs b J):sQ hs' a b->sQ hs a b:=λ ψ=>by obtain⟨r,p,q⟩:=ψ;have U:=(h _ _ ta).uniq p;have g:=(h _ _ tb).uniq q;exact⟨r,U▸ta,g▸tb⟩
def Fz(ks:List<|Xw)(hs es:Xa):Prop:=∀p∈es,∀e i j,ks[p]?=some (some<|.nd e i j)->sQ hs i j->sQ hs p i
structure Eqv(R:Nat->Nat->Prop):Prop where
 r:∀a,R a a
 s:∀{a b},R a b->R b a
 t:∀{a b c},R a b->R b c->R a c
def ot(R:Nat->Nat->Prop)(hs:Xa):Prop:=∀a b,sQ hs a b->R a b
theorem ju.lt{r:Nat}(h:ju hs i r):i<hs.length:=by cases h with|root e=>exact qx e|step e _ _=>exact qx e
theorem pM(I:cr rk hs)(U:hs'.length=hs.length)(h:∀x s,ju hs x s->ju hs' x s)(F:ot R hs):ot R hs':=λx y ψ=>by obtain⟨r,p,q⟩:=ψ;obtain⟨g,J⟩:=I.rep' (i:=x) (by have:=p.lt;lia);obtain⟨j,ty⟩:=I.rep' (i:=y) (by have:=q.lt;lia);exact F x y<|uM h J ty ⟨r,p,q⟩
theorem pQ{a b:Nat}(j:cr rk hs)(T:hs'.length=hs.length)(h:∀i s,ju hs i s->ju hs' i (if s=a then b else s))(ta:ju hs p a)(tb:ju hs q b)(E:Eqv R)(I:R p q)(F:ot R hs):ot R hs':=λx y ψ=>by
 obtain⟨r,l,o⟩:=ψ
 obtain⟨U,J⟩:=j.rep' (i:=x) (by have:=l.lt;lia);obtain⟨g,ty⟩:=j.rep' (i:=y) (by have:=o.lt;lia);have e:=((h _ _ J).uniq l).trans ((h _ _ ty).uniq o).symm;have xp:U=a->R x p:=λz=>F x p ⟨a,z▸J,ta⟩;have C:g=a->R y p:=λz=>F y p ⟨a,z▸ty,ta⟩;by_cases c:U=a
 ·by_cases d:g=a
  ·exact E.t (xp c)<|E.s<|C d
  ·rw[Aw c,Ar d] at e;exact E.t (E.t (xp c) I)<|F q y ⟨b,tb,e▸ty⟩
 ·by_cases d:g=a
  ·rw[Ar c,Aw d] at e;exact E.t (F x q ⟨b,e▸J,tb⟩)<|E.s<|E.t (C d) I
  ·rw[Ar c,Ar d] at e;exact F x y ⟨U,J,e▸ty⟩
theorem xE(E:Eqv R)(n:Nat):ot R (List.range n):=λx y ψ=>by obtain⟨r,p,q⟩:=ψ;have h:∀{i r:Nat},ju (List.range n) i r->r=i:=λ{i r} t=>t.of_top (BX (by have:=t.lt;rwa[Ba] at this));have I:=h p;have J:=h q;subst I;rw[J];exact E.r _
def JnR(hs hs':Xa)(ps:W6):Prop:=Mon hs hs'/\(∀x∈ps,sQ hs' x.1 x.2)/\∀R,Eqv R->(∀x∈ps,R x.1 x.2)->ot R hs->ot R hs'
def JQ(ks:List<|Xw)(es:Xa)(R:Nat->Nat->Prop):Prop:=∀p∈es,∀e i j,ks[p]?=some (some<|.nd e i j)->R i j->R p i
def Gz(ks:List<|Xw)(hs hs' es:Xa):Prop:=Mon hs hs'/\∀R,Eqv R->JQ ks es R->ot R hs->ot R hs'
theorem JnR.snoc{I:Xa}{ps:W6}{a b:Nat}(j:JnR hs hs' ps)(U:cr rk hs')(g:I.length=hs'.length)(h:∀i s,ju hs' i s->ju I i (if s=a then b else s))(ta:ju hs' p a)(tb:ju hs' q b):JnR hs I (ps++[(p,q)]):=by
 refine⟨j.1.trans<|nZ h,λx J=>?_,λR E c F=>pQ U g h ta tb E (c (p,q)<|Ac _<|Aj.mpr rfl)<|j.2.2 R E (λx J=>c x<|Al _ J) F⟩;rcases Ak.mp J with J|J
 ·exact nZ h _ _<|j.2.1 x J
 ·rw[Aj.mp J];exact Ts h ta tb
def Gd(hs hs':Xa):Prop:=hs'.length=hs.length/\∃rk,cr rk hs'
theorem Tt:(100000:Nat)<=sizeLine:=by decide
inductive gM(C:Addr)(ys:List Y)(L:ql)(Q:YK):Prop
 |mk:∀o hp j,∀hs:Xa,∀ps:W7,(ys=[.ref o,.ref j])->(L o=some (.ins C<|hJ hp))->(L hp=some (.lst<|nY hs))->(L j=some (.lst<|j4 ps))->(j≠hp)->((∃rk,cr rk hs))->((∀x∈ps,x.1<hs.length/\x.2<hs.length))->(ps.length<=10000)->(∀s zs hs',L s=none->Gd hs hs'->zs.length<=ps.length->zs.length+dY hs'=dY hs->JnR hs hs' ps->Q (.ref s) (qe (qe L hp<|.lst<|nY hs') s<|.lst zs))->gM C ys L Q
theorem Tu :∀ys L Q,gM C ys L Q->jj (rJ C<|cq C) 5 ys L Q:=by
 rintro ys L Q ⟨o,J,j,r,ps,rfl,ho,t,hj,a4,a5,a7,hz,q⟩;intro s l;have ab:o≠J:=gT ho t (λe=>by cases e);have ac:o≠s:=xu ho l;have a3:J≠s:=xu t l;have T:j≠s:=xu hj l;have fo:∀A Z,(qe (qe L J A) s Z) o=some (.ins C<|hJ J):=λA Z=>(qb ac).trans<|(qb ab).trans ho;have fh:∀A Z,(qe (qe L J A) s Z) J=some A:=λA Z=>(qb a3).trans q9;have fj:∀A Z,(qe (qe L J A) s Z) j=some (.lst<|j4 ps):=λA Z=>(qb T).trans<|(qb a4).trans hj;have e0:qe L s (.lst [])=qe (qe L J<|.lst<|nY r) s (.lst []):=by rw[kz t]
 refine aw (ys:=j4 ps) (jm<|(qb T).trans hj) (λi τ L'=>∃I U c3 c4,τ=[some<|.ref o,some<|.ref j,some<|.ref s,c3,c4]/\L'=qe (qe L J<|.lst<|nY I) s (.lst U)/\Gd r I/\U.length<=i/\U.length+dY I=dY r/\JnR r I (ps.take i)) ⟨r,[],_,_,rfl,e0,⟨rfl,a5⟩,An _,CP _,λ_ _ z=>z,(λx hx=>by cases hx),λ_ _ _ F=>F⟩ ?_ ?_ ?_
 ·rintro i τ L' ⟨I,U,c3,c4,rfl,rfl,_⟩;rw[fj,qb T,hj]
 ·rintro i y τ L' hy ⟨I,U,c3,c4,rfl,rfl,⟨g1,rk,g2⟩,a0,a1,jn⟩;rw[Au] at hy;obtain⟨⟨p,q'⟩,ex,rfl⟩:=AI.mp hy;obtain⟨h1,h2⟩:=a7 _<|AF ex;have h1:p<r.length:=h1;have h2:q'<r.length:=h2;have hi:=qx ex;obtain⟨a,ta⟩:=g2.rep' (i:=p) (by lia);obtain⟨b,tb⟩:=g2.rep' (i:=q') (by lia);refine zp (fo _ _) ⟨rfl,gi,o,J,I,p,q',a,b,_,_,rfl,rfl,rfl,fo _ _,fh _ _,⟨rk,g2⟩,ta,tb,by lia,by lia,λa2 l2 k2 r2 e1 e2=>?_⟩;rw[cL<|AQ a3,zc];have nw:JnR r a2 (ps.take<|i+1):=by
   have et:ps.take (i+1)=ps.take i++[(p,q')]:=by rw[Bk,ex];rfl
   rw[et];exact jn.snoc g2 l2 r2 ta tb
  by_cases c:a=b
  ·refine wn (by rw[Ax c];rfl) ⟨_,EC _,a2,U,_,_,rfl,rfl,⟨by lia,k2⟩,by exact F8,by rw[e1 c];exact a1,nw⟩
  ·refine fT (by rw[AB c];rfl) ?_;have:=e2 c;refine qc q9<|qp q9 ⟨Bw (by lia:U.length<=10000) (by decide),_,EC _,a2,U++[_],_,_,rfl,zc,⟨by lia,k2⟩,?_,?_,nw⟩
   ·rw[Aa,Bc];exact EZ
   ·rw[Aa,Bc];lia
 ·rintro τ L' ⟨I,U,c3,c4,rfl,rfl,g,a0,a1,jn⟩;rw[Ah] at a0 jn;rw[Bi] at jn;exact jv<|q s U I l g a0 a1 jn
inductive iq(C:Addr)(ys:List Y)(L:ql)(Q:YK):Prop
 |mk:∀o hp a,∀hs:Xa,∀ks:List (Xw),∀p i j:Nat,∀e:Bool,∀pi:Int,(ys=[.ref o,.ref a,.int pi])->(pi=(p:Int))->(L o=some (.ins C<|hJ hp))->(L hp=some (.lst<|nY hs))->(L a=some (.lst<|aM ks))->(a≠hp)->((∃rk,cr rk hs))->(ks[p]?=some (some<|.nd e i j))->(p<hs.length)->(i<hs.length)->(j<hs.length)->(∀ri rj rp hs',ju hs i ri->ju hs j rj->ju hs p rp->Gd hs hs'->(∀x s,ju hs x s->ju hs' x s)->dY hs'=dY hs->Q (.bl<|decide (ri=rj)&&!decide (ri=rp)) (qe L hp<|.lst<|nY hs'))->iq C ys L Q
theorem mR(a b:Nat):decide ((a:Int)=(b:Int))=decide (a=b):=by
 by_cases c:a=b
 ·rw[Ax c];exact Ax (by lia)
 ·rw[AB c];exact AB (by lia)
theorem Tv :∀ys L Q,iq C ys L Q->jj (wK C cb<|bp C) 4 ys L Q:=by
 rintro ys L Q ⟨o,J,a,hs,ks,p,i,j,e,pi,rfl,rfl,ho,a0,ha,bb,⟨rk,hr⟩,ek,au,a4,a5,q⟩;have a1:cI (aM ks) (p:Int)=some (l6<|some<|.nd e i j):=jt (by rw[Au,ek];rfl);obtain⟨g,ti⟩:=hr.rep' a4;obtain⟨l,tj⟩:=hr.rep' a5;obtain⟨rp,tp⟩:=hr.rep' au;refine qc ha<|qj a1 ⟨some<|.nd e i j,rfl,λT t=>?_⟩;have av:o≠J:=gT ho a0 (λe=>by cases e);have aL:o≠T:=xu ho t;have a7:J≠T:=xu a0 t;have fo:∀A Z,(qe (qe L T Z) J A) o=some (.ins C<|hJ J):=λA Z=>(qb av).trans<|(qb aL).trans ho;refine w6 q9 λkeep kp=>IK ⟨by show 2<sizeLine;decide,λk zs L'=>∃I,L'=qe (qe L T<|.lst<|nY [i,j]) J (.lst<|nY I)/\I.length=hs.length/\cr rk I/\(∀x s,ju hs x s->ju I x s)/\dY I=dY hs/\zs=nY ([g,l].take k),⟨hs,?_,rfl,hr,λ_ _ h=>h,rfl,rfl⟩,?_,?_,?_⟩
 ·exact(kz<|(qb a7).trans a0).symm
 ·rintro k zs L' ⟨I,rfl,_⟩;exact kp _ (by rw[qb<|AQ a7];rfl)
 ·rintro k y zs L' hy ⟨I,rfl,l1,k1,t1,n1,rfl⟩;obtain⟨n,en,rfl⟩:=bO hy;have hn:n<hs.length/\∃rn,ju hs n rn/\nY ([g,l].take k)++[.int (rn:Int)]=nY ([g,l].take<|k+1):=by
   match k,en with
   |0,en=>cases en;exact⟨a4,g,ti,rfl⟩
   |1,en=>cases en;exact⟨a5,l,tj,rfl⟩
  obtain⟨hn,rn,tn,ba⟩:=hn;refine zp (fo _ _) ⟨rfl,wv,o,J,I,n,_,rk,rfl,rfl,fo _ _,q9,k1,by lia,λr U l2 k2 t2 a2 n2=>?_⟩;cases t2.uniq (t1 _ _ tn);exact⟨_,EC _,U,zc,by lia,k2,λx s z=>a2 x s<|t1 x s z,by lia,ba⟩
 ·rintro zs L' ⟨I,rfl,l1,k1,t1,n1,rfl⟩ p3 a3;have ab:L p3=none:=cT (By t)<|j8 a3;have ac:J≠p3:=xu q9 a3;have f0:cI (nY<|[g,l].take (nY<|jp<|some<|Kn.nd e i j).length) 0=some (.int (g:Int)):=rfl;have f1:cI (nY<|[g,l].take (nY<|jp<|some<|Kn.nd e i j).length) 1=some (.int (l:Int)):=rfl;refine qc q9<|qj f0<|qc q9<|qj f1 ?_;have al:∀Z,(qe (qe (qe L T<|.lst<|nY [i,j]) J<|.lst<|nY I) p3 Z) o=some (.ins C<|hJ J):=λZ=>(qb<|xu (fo _ _) a3).trans<|fo _ _;have sub:∀(U:Xa) Z,qh (qe L J<|.lst<|nY U) (qe (qe (qe (qe L T<|.lst<|nY [i,j]) J<|.lst<|nY I) p3 Z) J<|.lst<|nY U):=λU Z b u e=>by
   by_cases c:b=J
   ·subst c;rw[q9] at e ⊢;exact e
   ·rw[qb c] at e;rw[qb c,qb<|xu e ab,qb c,qb<|xu e t];exact e
  show aK (decide<|(g:Int)=(l:Int)) _ _;rw[mR];refine je (λc=>?_) λc=>?_
  ·refine qc q9<|qj f0 ?_;refine zp (al _) ⟨rfl,wv,o,J,I,p,_,rk,rfl,rfl,al _,(qb ac).trans q9,k1,by lia,λr U l2 k2 t2 a2 n2=>?_⟩;cases t2.uniq (t1 _ _ tp);show fG Q (.bl<|!decide ((g:Int)=(rp:Int))) _;rw[mR];have:=q g l rp U ti tj tp ⟨by lia,rk,k2⟩ (λx s z=>a2 x s<|t1 x s z) (by lia);rw[Ax c,Dg] at this;exact dt (sub U _) this
  ·have:=q g l rp I ti tj tp ⟨by lia,rk,k1⟩ t1 n1;rw[AB c,Bool.false_and] at this;refine dt (L:=qe L J<|.lst<|nY I) (λb u eb=>?_) this;have z:=sub I (.lst<|nY<|[g,l].take (nY<|jp<|some<|Kn.nd e i j).length) b u;have e2:qe (qe (qe (qe L T<|.lst<|nY [i,j]) J<|.lst<|nY I) p3<|.lst<|nY<|[g,l].take (nY<|jp<|some<|Kn.nd e i j).length) J (.lst<|nY I)=qe (qe (qe L T<|.lst<|nY [i,j]) J<|.lst<|nY I) p3 (.lst<|nY<|[g,l].take (nY<|jp<|some<|Kn.nd e i j).length):=kz<|(qb ac).trans q9;rw[e2] at z;exact z eb
def JR(ks:List<|Xw)(n p:Nat):Prop:=∃e i j,ks[p]?=some (some<|.nd e i j)/\p<n/\i<n/\j<n
inductive fi(C:Addr)(ys:List Y)(L:ql)(Q:YK):Prop
 |mk:∀o hp a b,∀hs:Xa,∀ks:List (Xw),∀es:Xa,(ys=[.ref o,.ref a,.ref b])->(L o=some (.ins C<|hJ hp))->(L hp=some (.lst<|nY hs))->(L a=some (.lst<|aM ks))->(L b=some (.lst<|nY es))->(a≠hp)->(b≠hp)->((∃rk,cr rk hs))->((∀p∈es,JR ks hs.length p))->(hs.length<=1000)->(∀s zs hs',L s=none->Gd hs hs'->zs.length+dY hs'=dY hs->(Gz ks hs hs' es/\Fz ks hs' es)->Q (.ref s) (qe (qe L hp<|.lst<|nY hs') s<|.lst zs))->fi C ys L Q
theorem JS(hs:Xa):dY hs<=hs.length:=by unfold dY;exact AL (List.countP_le_length) (by rw[Ba];simp +arith only)
theorem Tw :∀ys L Q,fi C ys L Q->jj (rh C (iq C)<|cq C) 6 ys L Q:=by
 rintro ys L Q ⟨o,l,a,b,hs,ks,es,rfl,ho,a4,ha,hb,a7,aL,ba,ab,bh,q⟩;intro s a0;have bb:o≠l:=gT ho a4 (λe=>by cases e);have bd:o≠s:=xu ho a0;have a5:l≠s:=xu a4 a0;have fo:∀A Z,(qe (qe L l A) s Z) o=some (.ins C<|hJ l):=λA Z=>(qb bd).trans<|(qb bb).trans ho;have fh:∀A Z,(qe (qe L l A) s Z) l=some A:=λA Z=>(qb a5).trans q9;have fa:∀A Z,(qe (qe L l A) s Z) a=some (.lst<|aM ks):=λA Z=>(qb<|xu ha a0).trans<|(qb a7).trans ha;have fb:∀A Z,(qe (qe L l A) s Z) b=some (.lst<|nY es):=λA Z=>(qb<|xu hb a0).trans<|(qb aL).trans hb;have e0:qe L s (.lst [])=qe (qe L l<|.lst<|nY hs) s (.lst []):=by rw[kz a4]
 refine⟨λm τ L'=>∃U T,∃bf:Int,∃c5,τ=[some<|.ref o,some<|.ref a,some<|.ref b,some<|.ref s,some<|.int bf,c5]/\L'=qe (qe L l<|.lst<|nY U) s (.lst T)/\Gd hs U/\T.length+dY U=dY hs/\(Gz ks hs U es/\(bf<(T.length:Int)\/Fz ks U es))/\m=2*dY U+(if bf<(T.length:Int) then 1 else 0),⟨_,hs,[],-1,_,rfl,e0,⟨rfl,ba⟩,CP _,⟨⟨λ_ _ z=>z,λ_ _ _ F=>F⟩,.inl (by decide)⟩,rfl⟩,?_⟩;rintro m τ L' ⟨U,T,bf,c5,rfl,rfl,g,ac,⟨mo,sh⟩,rfl⟩;refine qc q9 ?_;show aK (decide<|bf<(T.length:Int)) _ _;refine je (λc=>?_) λc=>jv<|q s T U a0 g ac ⟨mo,sh.resolve_left c⟩;refine⟨_,λ_ _ h=>h,qc q9 ?_⟩;refine aw (ys:=nY es) (jm<|fb _ _) (λi τ L'=>∃J I c5,τ=[some<|.ref o,some<|.ref a,some<|.ref b,some<|.ref s,some<|.int (T.length:Int),c5]/\L'=qe (qe L l<|.lst<|nY J) s (.lst I)/\Gd hs J/\I.length+dY J=dY hs/\T.length<=I.length/\(Gz ks hs J es/\(T.length<I.length\/Fz ks J (es.take i)))) ⟨U,T,_,rfl,rfl,g,ac,An _,mo,.inr λp l=>by cases l⟩ ?_ ?_ ?_
 ·rintro i τ L' ⟨J,I,c5,rfl,rfl,_⟩;rw[fb,fb]
 ·rintro i y τ L' hy ⟨J,I,c5,rfl,rfl,⟨g1,rk,g2⟩,a3,al,t,a2⟩;obtain⟨p,ep,rfl⟩:=bO hy;obtain⟨e,i',j',ek,h1,h2,h3⟩:=ab p<|AF ep;have a1:cI (aM ks) (p:Int)=some (l6<|some<|.nd e i' j'):=jt (by rw[Au,ek];rfl);refine⟨o,l,a,J,ks,p,i',j',e,_,rfl,rfl,fo _ _,fh _ _,fa _ _,a7,⟨rk,g2⟩,ek,by lia,by lia,by lia,λri rj rp au ti tj tp ⟨l3,k3⟩ j n3=>?_⟩;rw[cL<|AQ a5,zc];cases cc:(decide (ri=rj)&&!decide (ri=rp)) with
  |false=>
   refine⟨_,EC _,au,I,_,rfl,rfl,⟨by lia,k3⟩,by lia,al,⟨t.1.trans<|oM j,λR E c F=>pM g2 l3 j<|t.2 R E c F⟩,a2.imp id λsh=>?_⟩;have et:es.take (i+1)=es.take i++[p]:=by rw[Bk,ep];rfl
   rw[et];intro x hx f u v ex cx;rcases Ak.mp hx with hx|hx
   ·obtain⟨f',u',v',av,_,hu,hv⟩:=ab x<|BC hx;rw[ex] at av;cases av;obtain⟨ru,tu⟩:=g2.rep' (i:=u) (by lia);obtain⟨rv,tv⟩:=g2.rep' (i:=v) (by lia);exact oM j _ _<|sh x hx f u v ex<|uM j tu tv cx
   ·rw[Aj.mp hx] at ex ⊢;rw[ek] at ex;cases ex;obtain⟨r,c3,c4⟩:=cx;have e5:=(j _ _ ti).uniq c3;have e6:=(j _ _ tj).uniq c4;rw[Ax<|e5.trans e6.symm,Dg] at cc;by_cases e7:ri=rp
    ·exact⟨ri,e7▸j _ _ tp,j _ _ ti⟩
    ·rw[AB e7] at cc;cases cc
  |true=>
   have c2:ri≠rp:=by have:=(AU _ _▸cc).2;intro z;rw[Ax z] at this;cases this
   refine zp (fo _ _) ⟨rfl,gi,qc (fa _ _)<|qj a1 ⟨o,l,au,p,i',rp,ri,_,_,rfl,rfl,rfl,fo _ _,fh _ _,k3,j _ _ tp,j _ _ ti,by lia,by lia,λbe l4 k4 r4 e1 e2=>?_⟩⟩;rw[cL<|AQ a5,zc];have e3:=e2<|AQ c2;have bi:=JS hs;refine qc q9 (qp q9 ⟨Bw (by lia:I.length<=1000) (by decide),_,EC _,be,I++[_],_,rfl,zc,⟨by lia,k4⟩,?_,?_,⟨(t.1.trans<|oM j).trans<|nZ r4,λR E c F=>?_⟩,.inl (by rw[Aa,Bc];exact EZ)⟩)
   ·rw[Aa,Bc];lia
   ·rw[Aa,Bc];exact F8
   ·obtain⟨bj,bg⟩:=k3;have F3:=pM g2 l3 j<|t.2 R E c F;have c1:ri=rj:=of_decide_eq_true (AU _ _▸cc).1;exact pQ bg l4 r4 (j _ _ tp) (j _ _ ti) E (c p (AF ep) e i' j' ek<|F3 _ _ ⟨ri,j _ _ ti,c1▸j _ _ tj⟩) F3
 ·rintro τ L' ⟨J,I,c5,rfl,rfl,g2,a3,al,t,a2⟩;rw[jd,Bi] at a2;refine⟨_,EC _,2*dY J+(if ((T.length:Nat):Int)<(I.length:Int) then 1 else 0),?_,J,I,_,_,rfl,rfl,g2,a3,⟨t,a2.imp (λz=>by lia) id⟩,rfl⟩;rw[Aw c];split<;>lia
noncomputable def JT:RD "_law_join" eX 0 ["_law_knots","_law_forest","_law_one","_law_two","_law_first","_law_second","_law_left_here","_law_right","_law_ends_here"] (λ_=>True):=⟨_,λV B c _ _ _ _ _ _ _ I hN J=>(qa (S_ 4 hN<|cM (qv 1)<|jo<|qm x8 (qv 3)<|L_ B.ba<|qv 1)<|qa (S_ 5 hN<|cM (qv 1)<|jo<|qm x8 (qv 2)<|L_ B.ba<|qv 1)<|qa (gj (i:=6) hN rfl (Or.inr rfl)<|I_ (J_ 4)<|qm x8 (qm wf (qv 3) qf)<|L_ B.ba<|J_ 4)<|qa (gj (i:=7) hN rfl (Or.inr rfl)<|I_ (J_ 5)<|qm x8 (qm wf (qv 2) qf)<|L_ B.ba<|J_ 5)<|qa (za<|z7 (qv 0)<|jo<|zh<|aW j5 (qv 6)<|qv 7)<|qa (cN ["_law_p"] (i:=8) hN rfl (Or.inl rfl) (EL (by rfl)) rfl (vf<|qm jf (J_ 4)<|J_ 5) (wM 9) (λ_ _ _ _=>cH<|x5 (rV _ _ _) (qv 9) (zh<|vv (qv 6)<|qv 7) (by with_unfolding_all rfl)) λ_ _ _ _=>(qv 9))<|qd<|za<|z7 (qv 1)<|jo<|zj<|vv (zh<|v5 j5<|aW (qm cO (L_ B.ba<|qv 0) qf) (J_ 4)<|J_ 5)<|qm jf (qv 8)<|zj<|jo<|qm cO (L_ B.ba<|qv 0) qf)⟩
noncomputable def Tx:vn:=(JT).1
noncomputable def yc:RD "_law_fold" eS 0 ["_law_knots","_law_tree_here","_law_one","_law_two","_law_left_here","_law_right"] (λ_=>True):=⟨_,λV B c _ _ _ _ _ _ _ I hN J=>(qa (zm (x5 nv (L_ B.ba<|J_ 1) qf<|x6 _) (qd ye) qz)<|qa (S_ 4 hN<|cM (J_ 1)<|jo<|qm x8 (qv 3)<|L_ B.ba<|J_ 1)<|qa (S_ 5 hN<|cM (J_ 1)<|jo<|qm x8 (qv 2)<|L_ B.ba<|J_ 1)<|qa (za<|z7 (qv 0)<|jo<|zh<|aW j5 (qv 4)<|qv 5)<|qa (rY (qv 1) qf<|zh<|aW j5 (qm cO (L_ B.ba<|qv 0) qf)<|J_ 1)<|qd<|za<|z7 (J_ 1)<|jo<|qm cO (L_ B.ba<|qv 0) qf)⟩
noncomputable def Tz:vn:=(yc).1
theorem cR{ks:Xv}:∀{w v:Wd} {p:Nat},dq ks p w->dq ks p v->w=v
 |.leaf t n,.leaf g C,p,h,k=>by
  have h:(w5 ks)[p]?=some (.tup [.str<|kL t,.str n]):=h;have k:(w5 ks)[p]?=some (.tup [.str<|kL g,.str C]):=k;rw[h] at k;injection k with k;injection k with k;injection k with J I;injection I with I _
  injection J with J;injection I with I
  have:t=g:=by cases t<;>cases g<;>first|rfl|(exfalso;revert J;decide +kernel)
  rw[this,I]
 |.leaf t n,.node e l r,p,h,k=>by obtain⟨i,j,k,_⟩:=k;have h:(w5 ks)[p]?=some (.tup [.str<|kL t,.str n]):=h;rw[h] at k;injection k with k;injection k with k;injection k with _ k;injection k with _ k;cases k
 |.node e l r,.leaf t n,p,h,k=>by obtain⟨i,j,h,_⟩:=h;have k:(w5 ks)[p]?=some (.tup [.str<|kL t,.str n]):=k;rw[h] at k;injection k with k;injection k with k;injection k with _ k;injection k with _ k;cases k
 |.node e l r,.node o l' r',p,ψ,χ=>by
  obtain⟨i,j,h,T,hr⟩:=ψ;obtain⟨i',j',k,kl,kr⟩:=χ
  rw[h] at k;injection k with k;injection k with k;injection k with J I;injection I with I U;injection U with U _
  injection J with J;injection I with I;injection U with U
  have e1:i=i':=by lia
  have e2:j=j':=by lia
  subst e1 e2;have:e=o:=by cases e<;>cases o<;>first|rfl|(exfalso;revert J;decide +kernel)
  rw[this,cR (ks:=ks) T kl,cR (ks:=ks) hr kr]
theorem mX{ks:Xv}(I:eU ks):∀(m p:Nat),p<m->p<ks.length->∃w,dq ks p w/\w.depth<=p+1/\w.ok
 |0,p,h,_=>absurd h (by lia)
 |m+1,p,h,g=>by
  obtain⟨k,J⟩:∃k,ks[p]?=some k:=⟨_,Ao g⟩;have U:=I p k J;cases k with
  |lf t n=>exact⟨.leaf t n,dq.leaf J,by show 1<=p+1;exact Ce _,U⟩
  |nd e i j=>
   have U:i<p/\j<p:=U;obtain⟨l,o,T,C⟩:=mX I m i (by lia) (by omega);obtain⟨r,b1,b2,b3⟩:=mX I m j (by lia) (by lia);exact⟨.node e l r,ES J o b1,by show max l.depth r.depth+1<=p+1;lia,C,b3⟩
def TV(v:Str->Bool):Wd->Bool
 |.leaf t n=>if t=true then !v n else v n
 |.node e l r=>if e=true then TV v l||TV v r else TV v l&&TV v r
theorem lh(v:Str->Bool):∀w:Wd,TV v w.turn=!TV v w
 |.leaf t n=>by cases t<;>simp[Wd.turn,TV]
 |.node e l r=>by cases e<;>simp[Wd.turn,TV,lh v l,lh v r]
theorem SR.lt{ks:Xv}{R:Ru}{E:Xa}(h:SR ks R E):∀x∈qg R,x<ks.length:=by
 have lt:∀{p:Nat} {k:Kn},ks[p]?=some k->p<ks.length:=λh=>(A1.mp h).1
 induction h with
 |link _ j l _ _=>intro x I;simp[qg] at I;rcases I with rfl|rfl;exact lt j;exact lt l
 |ei g _ _ _ _ _ _ o=>intro x I;rcases Am.mp I with rfl|I;exact lt g;exact o x I
 |bo g _ _ _ _ _ _ J U=>
  intro x I;rcases Am.mp I with rfl|I
  ·exact lt g
  ·rcases Ak.mp I with I|I
   ·exact J x I
   ·exact U x I
 |cu _ _ _ _ _ _ _ _ J U=>
  intro x I;rcases Ak.mp I with I|I
  ·exact J x I
  ·exact U x I
theorem SR.tv{ks:Xv}(hk:eU ks)(v:Str->Bool){R:Ru}{E:Xa}(h:SR ks R E):∃x∈E,∃w,dq ks x w/\TV v w=true:=by
 have ex:∀{R':Ru} {E':Xa},SR ks R' E'->∀x∈E',∃w,dq ks x w:=λs x I=>by obtain⟨w,hw,_⟩:=mX hk (x+1) x (by exact Br _)<|s.lt x<|s.sub x I;exact⟨w,hw⟩
 induction h with
 |@link p q t n E _ h2 h3 h4 _=>
  cases ht:TV v (.leaf t n) with
  |true=>exact⟨p,(h4 p).mpr<|.inl rfl,_,dq.leaf h2,ht⟩
  |false=>
   refine⟨q,(h4 q).mpr<|.inr rfl,_,dq.leaf h3,?_⟩;have:=lh v<|.leaf t n;rw[ht] at this;exact this
 |@ei r i j A EA E T hA hi hj _ J _ ih=>
  obtain⟨x,I,w,hw,tv⟩:=ih;obtain⟨wi,U⟩:=ex hA i hi;obtain⟨wj,g⟩:=ex hA j hj;by_cases c1:x=i
  ·subst c1;rw[cR hw U] at tv;exact⟨r,(J r).mpr<|.inr rfl,_,ES T U g,by simp[TV,tv]⟩
  ·by_cases c2:x=j
   ·subst c2;rw[cR hw g] at tv;exact⟨r,(J r).mpr<|.inr rfl,_,ES T U g,by simp[TV,tv]⟩
   ·exact⟨x,(J x).mpr<|.inl ⟨I,c1,c2⟩,w,hw,tv⟩
 |@bo r i j A B EA EB E T hA hB hi hj J _ l o=>
  obtain⟨x,I,w,hw,tv⟩:=l;obtain⟨y,hy,u,C,tu⟩:=o;by_cases c1:x=i
  ·by_cases c2:y=j
   ·subst c1 c2;exact⟨r,(J r).mpr<|.inr<|.inr rfl,_,ES T hw C,by simp[TV,tv,tu]⟩
   ·exact⟨y,(J y).mpr<|.inr<|.inl ⟨hy,c2⟩,u,C,tu⟩
  ·exact⟨x,(J x).mpr<|.inl ⟨I,c1⟩,w,hw,tv⟩
 |@cu p q A B EA EB E w0 hA hB hp hq a0 a1 h7 _ l o=>
  obtain⟨x,I,w,hw,tv⟩:=l;obtain⟨y,hy,u,C,tu⟩:=o;by_cases c1:x=p
  ·by_cases c2:y=q
   ·subst c1 c2;rw[cR hw a0] at tv;rw[cR C a1,lh,tv] at tu;cases tu
   ·exact⟨y,(h7 y).mpr<|.inr ⟨hy,c2⟩,u,C,tu⟩
  ·exact⟨x,(h7 x).mpr<|.inl ⟨I,c1⟩,w,hw,tv⟩
theorem SR.ends{ks:Xv}(I:eU ks){R:Ru}{E:Xa}(h:SR ks R E):0<E.length:=by obtain⟨x,J,_⟩:=h.tv I λ_=>true;exact Cu J
structure Tr where
 a:Addr
 b:Addr
 R:Ru
 E:Xa
abbrev Xx:=List Tr
abbrev zx(E:Xa):List Y:=E.map λn:Nat=>Y.int (n:Int)
def Tr.ads(t:Tr):List Addr:=[t.a,t.b]
structure bu(L0 L:ql)(ka fa:Addr)(ks:Xv)(fo:Xx):Prop where
 hk:L ka=some (.lst<|w5 ks)
 ht:∀t∈fo,L t.a=some (.lst [zf t.R,.ref t.b])/\L t.b=some (.lst<|zx t.E)
 sr:∀t∈fo,SR ks t.R t.E
 nd:(fo.flatMap λt=>qg t.R).Nodup
 tm:∀x,x∈(fo.flatMap λt=>qg t.R)↔x<ks.length
 ad:(ka::fa::fo.flatMap Tr.ads).Nodup
 ok:eU ks
 sub:qh L0 L
 fr:∀x∈ka::fa::fo.flatMap Tr.ads,L0 x=none
def zo(fo:Xx):List Y:=fo.map λt=>Y.ref t.a
structure oz(L0 L:ql)(ka fa:Addr)(ks:Xv)(fo:Xx):Prop where
 b:bu L0 L ka fa ks fo
 hf:L fa=some (.lst<|zo fo)
def DR:Ru->Prop
 |.link _ _=>True
 |.ei _ A=>DR A
 |.bo _ A B=>DR A/\DR B
 |.cu _ _ _ _=>False
def JU(ks:Xv)(fo:Xx)(I:Xv)(fo':Xx):Prop:=(∃ms:Xv,I=ks++ms/\∀k∈ms,∃e i j,k=.nd e i j)/\((∀t∈fo,DR t.R)->∀t∈fo',DR t.R)
theorem bu.perm{ks:Xv}{fo fo':Xx}(h:bu L0 L ka fa ks fo)(p:fo.Perm fo'):bu L0 L ka fa ks fo':=by have J:(fo.flatMap λt=>qg t.R).Perm (fo'.flatMap λt=>qg t.R):=p.flatMap_right _;have U:(fo.flatMap Tr.ads).Perm (fo'.flatMap Tr.ads):=p.flatMap_right _;refine⟨h.hk,λt I=>h.ht t<|p.mem_iff.mpr I,λt I=>h.sr t<|p.mem_iff.mpr I,J.nodup_iff.mp h.nd,λx=>by rw[<-J.mem_iff];exact h.tm x,((U.cons _).cons _).nodup_iff.mp h.ad,h.ok,h.sub,λx g=>h.fr x<|((U.cons _).cons _).mem_iff.mpr g⟩
end L3
variable {fo rest:List L3.Tr}
namespace L3
open PySem L2 Words
noncomputable def u0:RD "_law_name" f8 0 ["_law_seed","_law_which","_law_letters","_law_size","_law_place","_law_base","_law_sign"] (λ_=>True):=⟨_,λV B c _ _ _ _ _ _ _ J hN I=>(qa (gj (i:=2) hN rfl (Or.inr rfl) j5)<|qa (S_ 3 hN<|qm jf qf<|qm x8 (qv 0) qf)<|qa (S_ 4 hN<|qm x8 (qm wf (qv 0) qf)<|qv 3)<|qa (S_ 5 hN<|Ri j5<|jo<|n9 ["_law_k"] (EL (by rfl)) rfl (cK rfl B.bh<|jo qf) (wM 7) (λ_ _ _ _=>wF) λ_ _ _ _=>(I_ (qv 2)<|qm x8 (qm jf (qm wf (qv 0) qf)<|qm mY qf<|qv 7) qf))<|qa (zm (E_ I (qm x8 (qm wf (qv 0) qf) qf) qf) (qd<|qr<|xz (vG _ _ _) (qv 5) aX<|xr<|qm jf qf<|qm x8 (qm jf (qv 1)<|qv 0) qf) qz)<|qa (S_ 6 hN<|I_ (qv 2)<|qm x8 (qm jf (qm jf (qm wf (qv 0) qf)<|qm mY qf<|qv 4)<|qv 1) qf)<|qd<|qr<|qm jf (qm jf (xz (vG _ _ _) (qv 5) aX<|xr<|qv 4)<|qv 6)<|xz (vG _ _ _) (qv 5) (xr<|qm jf (qv 4) qf)<|xr<|qv 3)⟩
noncomputable def TB:vn:=(u0).1
def fS(i:Int):Nat:=97+(i % 26).toNat
theorem yy(i:Int):cI ("abcdefghijklmnopqrstuvwxyz" : Str).cps.toList (i % 26)=some (fS i):=by
 obtain⟨n,I⟩:∃n:Nat,i % 26=n:=⟨(i % 26).toNat,by lia⟩;have h:n<26:=by lia
 unfold fS;rw[I];have key:∀n,n<26->("abcdefghijklmnopqrstuvwxyz" : Str).cps.toList[n]?=some (97+n):=by decide +kernel
 exact jt<|key n h
theorem yT(i:Int):97<=fS i/\fS i<=122:=by unfold fS;lia
def dZ(s:Int):Xa:=(List.range 8).map λk:Nat=>fS<|s / 64+3*(k:Int)
theorem nS(s:Int):(dZ s).length=8:=by unfold dZ;simp
theorem nX(s:Int):∀c∈dZ s,97<=c/\c<=122:=λc I=>by obtain⟨k,_,rfl⟩:=Bm.mp I;exact yT _
def qS(s:Int):Nat:=(s / 8 % (1+s % 8)).toNat
def szN(s:Int):Nat:=(1+s % 8).toNat
theorem JV(s:Int):qS s<szN s/\szN s<=8/\s / 8 % (1+s % 8)=(qS s:Int)/\1+s % 8=(szN s:Int):=by
 have I:0<1+s % 8:=by lia
 have J:0<=s / 8 % (1+s % 8):=Ej _ (by lia);have U:s / 8 % (1+s % 8)<1+s % 8:=Dw _ I;unfold qS szN;lia
def a9(s w:Int):Xa:=
 if s / 64 % 3=1 then(dZ s).take (1+(w+s) % 3).toNat
 else((dZ s).take (qS s)++[fS<|s / 64+3*(qS s:Int)+w])++((dZ s).drop<|qS s+1).take (szN s-(qS s+1))
theorem tO(s w:Int):fH (s_<|a9 s w):=by
 have I:(s_<|a9 s w).length=(a9 s w).length:=by rw[<-Txs.len_list];show(a9 s w).toArray.toList.length=_;simp
 have J:(s_<|a9 s w).cps.toList=a9 s w:=by show(a9 s w).toArray.toList=_;simp
 have U:=nS s;obtain⟨g,j,_,_⟩:=JV s;refine⟨?_,?_,?_⟩
 ·rw[I];unfold a9;split
  ·rw[A5];omega
  ·rw[Aa,Aa];simp;simp +arith only
 ·rw[I];unfold a9;split
  ·rw[A5];omega
  ·rw[Aa,Aa,A5,A5,BR];simp;lia
 ·rw[J];intro c h;unfold a9 at h;split at h
  ·exact nX s c<|BC h
  ·rcases Ak.mp h with h|h
   ·rcases Ak.mp h with h|h
    ·exact nX s c<|BC h
    ·rw[Aj.mp h];exact yT _
   ·exact nX s c<|CH<|BC h
inductive hX(ys:List Y)(L:ql)(Q:YK):Prop
 |mk:∀s w:Int,(ys=[.int s,.int w])->(Q (.str<|s_<|a9 s w) L)->hX ys L Q
theorem TC(h:m<=n)(h2:n<=x.length):(Txt.slice x (some (m:Int))<|some (n:Int)).cps.toList=(x.cps.toList.drop m).take (n-m):=by have e:=pZ x (some (m:Int))<|some (n:Int);rw[HT.sIx_nat,HT.sIx_nat,Cy h2,Cy<|AL h h2] at e;exact e
theorem pY(h:n<=x.length):(Txt.slice x none<|some (n:Int)).cps.toList=x.cps.toList.take n:=by have e:=pZ x none<|some (n:Int);rw[HT.sIx_nat,HT.sIx_none,Em,Nat.sub_zero,Cy h] at e;exact e
theorem TD:∀ys L Q,hX ys L Q->jj TB 7 ys L Q:=by
 rintro ys L Q ⟨s,w,rfl,q⟩;have j:0<1+s % 8:=by lia
 refine⟨(by decide:(0:Int)<8),⟨by decide,by decide⟩,j,⟨by decide,by decide⟩,?_⟩;show g_ (aN 0 8) _ _ _ _ _ _ _ _;refine wG (m:=8) (λi zs=>zs=((List.range i).map λk:Nat=>Y.str ⟨#[fS<|s / 64+3*(k:Int)]⟩)) (by decide) rfl ?_ ?_
 ·rintro i _ hi rfl;have I:=yy<|s / 64+3*(0+(i:Int));refine⟨⟨by decide,by decide⟩,.inl ⟨by decide,by decide⟩,(by decide:(0:Int)<26),by decide +kernel,?_⟩;walk_at "w";rw[I];refine⟨_,EC _,rfl,?_⟩;rw[Ei,AG,show(0:Int)+(i:Int)=(i:Int) by simp +arith only];rfl
 ·rintro _ rfl p t;have e0:((List.range 8).map λk:Nat=>Y.str ⟨#[fS<|s / 64+3*(k:Int)]⟩)=((dZ s).map λc=>(⟨#[c]⟩:Str)).map Y.str:=by unfold dZ;rw[B4,B4];rfl
  rw[e0];refine qp q9 ⟨(dZ s).map λc=>(⟨#[c]⟩:Str),rfl,?_,?_⟩
  ·have J:∀U:Xa,((U.map λc=>(⟨#[c]⟩:Str)).map (·.length)).sum=U.length:=λU=>by induction U with|nil=>rfl|cons c r ih=>rw[AO,AO,Eu,ih,Az];show 1+r.length=_;exact DY _ _
   rw[J,nS];show 8+_*0<=_;rw[Nat.mul_zero];decide
  ·have g:=S0<|dZ s;have l:(Txt.join ""<|(dZ s).map λc=>(⟨#[c]⟩:Str)).length=8:=by rw[<-Txs.len_list,g,nS]
   generalize Txt.join "" ((dZ s).map λc=>(⟨#[c]⟩:Str))=base at l g;obtain⟨p1,p2,o,C⟩:=JV s;refine⟨⟨by decide,by decide⟩,(by decide:(0:Int)<3),?_⟩;refine je (λc=>?_) λc=>?_
   ·have e:1+(w+s) % 3=((1+(w+s) % 3).toNat:Int):=by lia
    refine⟨(by decide:(0:Int)<3),fI (by lia),dt (By t) ?_⟩;have es:=pY (x:=base) (n:=(1+(w+s) % 3).toNat) (by lia);have eq:Txt.slice base none (some<|1+(w+s) % 3)=s_ (a9 s w):=by rw[e];refine(yO _).symm.trans ?_;rw[es,g];unfold a9;rw[Aw c]
    rw[<-eq] at q;exact q
   ·have I:=yy<|s / 64+3*(s / 8 % (1+s % 8))+w;refine⟨⟨by decide,by decide⟩,.inl ⟨by decide,by decide⟩,(by decide:(0:Int)<26),by decide +kernel,?_⟩;walk_at "w";rw[I];have T:=pY (x:=base) (n:=qS s) (by lia);have s2:=TC (x:=base) (m:=qS s+1) (n:=szN s) (by assumption) (by lia);have l1:(Txt.slice base none<|some (qS s:Int)).length=qS s:=by rw[<-Txs.len_list,T,A5,Txs.len_list];lia
    have l2:(Txt.slice base (some ((qS s+1:Nat):Int))<|some (szN s:Int)).length<=8:=by rw[<-Txs.len_list,s2,A5];lia
    refine⟨fI (by lia),?_⟩;refine⟨fI (by rw[o,l1];show qS s+1<=1000;lia),?_⟩;refine⟨fI (by lia),?_⟩;have J:((qS s:Int)+1)=((qS s+1:Nat):Int):=by rfl
    have l3:(Txt.slice base none (some (qS s:Int))++(⟨#[fS<|s / 64+3*(s / 8 % (1+s % 8))+w]⟩:Str)).length=qS s+1:=by rw[PySem.Str.length_append,l1];rfl
    refine⟨fI ?_,dt (By t) ?_⟩
    ·rw[o] at l3 ⊢;rw[l3,J,C];lia
    ·have eq:(Txt.slice base none (some (qS s:Int))++(⟨#[fS<|s / 64+3*(qS s:Int)+w]⟩:Str))++Txt.slice base (some ((qS s+1:Nat):Int)) (some (szN s:Int))=s_ (a9 s w):=by
      refine(yO _).symm.trans ?_;have ca:∀a b:Str,(a++b).cps.toList=a.cps.toList++b.cps.toList:=λa b=>by show(a.cps++b.cps).toList=_;simp
      rw[ca,ca,T,s2,g];unfold a9;rw[Ar c]
     rw[o,J,C,eq];exact q
theorem TF(t t':Bool)(n n':Str):Da.eq (rM<|.leaf t n) (rM<|.leaf t' n')=(decide (t=t')&&decide (n=n')):=by
 by_cases h:n=n'
 ·subst h;cases t<;>cases t'<;>simp[rM,Da.eq,Da.eqs,l5,kL]<;>decide +kernel
 ·cases t<;>cases t'<;>simp[rM,Da.eq,Da.eqs,l5,kL,h]<;>decide +kernel
theorem kB{α β:Type}(f:α->β):∀(l:List α) (n:Nat),(l.map f).eraseIdx n=(l.eraseIdx n).map f
 |[],n=>by simp
 |_::_,0=>rfl
 |x::r,n+1=>by rw[AO,C6,C6,AO,kB f r n]
theorem xj{α:Type}:∀{l:List α} {j:Nat} {x:α},l[j]?=some x->l.Perm (x::l.eraseIdx j)
 |[],_,_,h=>by simp at h
 |y::r,0,x,h=>by
  have:y=x:=by simpa using h
  subst this;exact .refl _
 |y::r,j+1,x,h=>by have I:=xj (l:=r) (j:=j) (x:=x) (by simpa using h);rw[C6];exact(I.cons y).trans (.swap _ _ _)
theorem nR(fo:Xx)(j:Nat):(zo fo).eraseIdx j=zo (fo.eraseIdx j):=kB _ fo j
theorem qh.none(s:qh L L'){p:Addr}(h:L' p=none):L p=none:=by cases z:L p with|none=>rfl|some o=>rw[s _ _ z] at h;cases h
theorem bu.nkf{ks:Xv}(h:bu L0 L ka fa ks fo):ka≠fa:=by have ad:=h.ad;rw[AC] at ad;exactλe=>ad.1<|e▸Ag ..
theorem bu.nk{ks:Xv}(h:bu L0 L ka fa ks fo):∀t∈fo,t.a≠fa/\t.b≠fa/\t.a≠ka/\t.b≠ka:=λt I=>by have ad:=h.ad;rw[AC,AC] at ad;have J:t.a∈fo.flatMap Tr.ads:=Ay.mpr ⟨t,I,by simp[Tr.ads]⟩;have U:t.b∈fo.flatMap Tr.ads:=Ay.mpr ⟨t,I,by simp[Tr.ads]⟩;exact⟨λe=>ad.2.1<|e▸J,λe=>ad.2.1<|e▸U,λe=>ad.1<|Ae _<|e▸J,λe=>ad.1<|Ae _<|e▸U⟩
theorem bu.setF{ks:Xv}(h:bu L0 L ka fa ks fo)(o:LO):bu L0 (qe L fa o) ka fa ks fo:=by
 refine⟨by rw[qb h.nkf];exact h.hk,λt I=>?_,h.sr,h.nd,h.tm,h.ad,h.ok,λb u e=>?_,h.fr⟩
 ·obtain⟨J,U,_,_⟩:=h.nk t I;rw[qb J,qb U];exact h.ht t I
 ·have:b≠fa:=λz=>by rw[z,h.fr fa (by simp)] at e;cases e
  rw[qb this];exact h.sub _ _ e
theorem bu.mono{ks:Xv}(h:bu L0 L ka fa ks fo)(s:qh L L'):bu L0 L' ka fa ks fo:=
 ⟨s _ _ h.hk,λt I=>⟨s _ _ (h.ht t I).1,s _ _ (h.ht t I).2⟩,h.sr,h.nd,h.tm,h.ad,h.ok,h.sub.trans s,h.fr⟩
theorem bu.exs{ks:Xv}(h:bu L0 L ka fa ks fo):∀z∈fo.flatMap Tr.ads,∃o,L z=some o:=λz I=>by
 obtain⟨t,J,I⟩:=Ay.mp I;obtain⟨U,g⟩:=h.ht t J;have I:z=t.a\/z=t.b:=by simpa[Tr.ads] using I
 rcases I with rfl|rfl
 ·exact⟨_,U⟩
 ·exact⟨_,g⟩
theorem TH{l:List Addr}(nd:l.Nodup)(ex:∀z∈l,∃o,L z=some o)(U:L pa=none)(g:L pb=none)(ne:pa≠pb):(l++[pa,pb]).Nodup:=by
 rw[AE];refine⟨nd,by simp[ne],λu j v J e=>?_⟩;subst e;obtain⟨o,I⟩:=ex u j;simp at J;rcases J with rfl|rfl
 ·rw[U] at I;cases I
 ·rw[g] at I;cases I
theorem bu.step{ks:Xv}{old:Xx}{t':Tr}(h:bu L0 L ka fa ks<|old++rest)(C:L' ka=some (.lst<|w5<|ks++ms))(T:L' t'.a=some (.lst [zf t'.R,.ref t'.b])/\L' t'.b=some (.lst<|zx t'.E))
 (keep:∀t∈rest,L' t.a=L t.a/\L' t.b=L t.b) (sub:qh L0 L') (ad:(ka::fa::(rest++[t']).flatMap Tr.ads).Nodup) (fr:∀x∈t'.ads,L0 x=none) (ok:eU<|ks++ms) (sr:SR (ks++ms) t'.R t'.E)
 (tp:(qg t'.R).Perm<|List.range' ks.length ms.length++old.flatMap λt=>qg t.R):bu L0 L' ka fa (ks++ms) (rest++[t']):=by
 have U:=h.nd;have g:=h.tm;rw[AJ] at U;have r:((rest++[t']).flatMap λt=>qg t.R)=(rest.flatMap λt=>qg t.R)++qg t'.R:=by rw[AJ];simp
 have mem:∀x,x∈qg t'.R↔(ks.length<=x/\x<ks.length+ms.length)\/x∈(old.flatMap λt=>qg t.R):=λx=>by rw[tp.mem_iff,Ak,Dc]
 refine⟨C,λt J=>?_,λt J=>?_,?_,λx=>?_,ad,ok,sub,λx I=>?_⟩
 ·rcases Ak.mp J with J|J
  ·obtain⟨k1,k2⟩:=keep t J;rw[k1,k2];exact h.ht t<|Ac _ J
  ·rw[Aj.mp J];exact T
 ·rcases Ak.mp J with J|J
  ·exact(h.sr t<|Ac _ J).more _
  ·rw[Aj.mp J];exact sr
 ·rw[r,AE];rw[AE] at U;refine⟨U.2.1,tp.nodup_iff.mpr ?_,λx I y j e=>?_⟩
  ·rw[AE];refine⟨DF,U.1,λx I y j e=>?_⟩;have I:=Dc.mp I;have j:=(g y).mp (by rw[AJ];exact Al _ j);lia
  ·subst e;rcases (mem x).mp j with j|j
   ·have:=(g x).mp (by rw[AJ];exact Ac _ I);lia
   ·exact U.2.2 x j x I rfl
 ·rw[r,Ak,mem,Aa];have o:=g x;rw[AJ,Ak] at o;constructor
  ·rintro(l|l|l)
   ·have:=o.mp<|.inr l;exact Ii
   ·lia
   ·have:=o.mp<|.inl l;lia
  ·intro l;by_cases c:x<ks.length
   ·rcases o.mpr c with p|p
    ·exact .inr<|.inr p
    ·exact .inl p
   ·exact .inr<|.inl (by lia)
 ·rcases Am.mp I with rfl|I
  ·exact h.fr _<|Ag ..
  ·rcases Am.mp I with rfl|I
   ·exact h.fr _<|Ae _<|Ag ..
   ·rw[AJ] at I;rcases Ak.mp I with I|I
    ·exact h.fr _ (Ae _ (Ae _ (by rw[AJ];exact Ac _ I)))
    ·exact fr x (by simpa using I)
theorem bu.put{M:ql}{ks:Xv}{old:Xx}{R:Ru}{E:Xa}{fs:LO}(h:bu L0 L ka fa ks<|old++rest)(U:∀z o,z≠ka->L z=some o->M z=some o)(g:M ka=some (.lst<|w5<|ks++ms))(r:M fa=some fs)(na:M pa=none)(nb:M pb=none)(ne:pa≠pb)(s:qh M L')(C:L' pa=some (.lst [zf R,.ref pb]))(T:L' pb=some (.lst<|zx E))
 (ok:eU<|ks++ms) (sr:SR (ks++ms) R E) (tp:(qg R).Perm<|List.range' ks.length ms.length++old.flatMap λt=>qg t.R):bu L0 L' ka fa (ks++ms) (rest++[⟨pa,pb,R,E⟩]):=by
 have J:∀z o,L0 z=some o->M z=some o:=λz o e=>U _ _ (λw=>by rw[w,h.fr ka (by simp)] at e;cases e)<|h.sub _ _ e;have two:∀z,z∈(⟨pa,pb,R,E⟩:Tr).ads->M z=none:=λz I=>by
  have I:z=pa\/z=pb:=by simpa[Tr.ads] using I
  rcases I with rfl|rfl<;>assumption
 refine bu.step (old:=old) (t':=⟨pa,pb,R,E⟩) h (s _ _ g) ⟨C,T⟩ (λt j=>?_) (λz o e=>s _ _<|J z o e) ?_ (λz I=>?_) ok sr tp
 ·obtain⟨_,_,n3,n4⟩:=h.nk t<|Ac _ j;obtain⟨l,p⟩:=h.ht t<|Ac _ j;rw[l,p];exact⟨s _ _<|U _ _ n3 l,s _ _<|U _ _ n4 p⟩
 ·have ad:=h.ad;rw[AJ] at ad;have:=TH (L:=M) ((((CU ..).cons_cons _).cons_cons _).nodup ad) (λz I=>?_) na nb ne
  ·rw[AJ];simpa[Tr.ads] using this
  ·rcases Am.mp I with rfl|I
   ·exact⟨_,g⟩
   rcases Am.mp I with rfl|I
   ·exact⟨_,r⟩
   obtain⟨o,e⟩:=h.exs z (by rw[AJ];exact Ac _ I);exact⟨o,U _ _ (λw=>(AC.mp ad).1 (by rw[<-w];exact Ae _<|Ac _ I)) e⟩
 ·cases e:L0 z with|none=>rfl|some o=>have w:=J z o e;rw[two z I] at w;cases w
inductive lu(ys:List Y)(L:ql)(Q:YK):Prop
 |mk:∀L0 ka fa ks fo,∀one two:Int,(ys=[.ref ka,.ref fa,.int one,.int two])->(oz L0 L ka fa ks fo)->(2<=fo.length)->(fo.length<=200)->(ks.length<=200)->(∀L' ks' fo',oz L0 L' ka fa ks' fo'->ks'.length=ks.length+1->fo'.length+1=fo.length->JU ks fo ks' fo'->Q .non L')->lu ys L Q
theorem rZ{l:List α}(h:0<l.length)(k:Int):∃(j:Nat) (x:α),k % (l.length:Int)=(j:Int)/\j<l.length/\l[j]?=some x:=by have I:0<=k % (l.length:Int):=Ej _ (by lia);have J:k % (l.length:Int)<(l.length:Int):=Dw _ (by omega);refine⟨(k % (l.length:Int)).toNat,l[(k % (l.length:Int)).toNat]'(by lia),by lia,by lia,Ao (by lia)⟩
theorem a8:∀(n:Nat) (l:Xa),l.Nodup->(∀x∈l,x<n)->l.length<=n
 |0,l,_,h=>by cases l with|nil=>exact An _|cons x r=>exact absurd (h x<|Ag ..) (by lia)
 |n+1,l,nd,h=>by
  by_cases c:n∈l
  ·have p:=List.perm_cons_erase c;have J:=a8 n (l.erase n) (nd.erase n) λx I=>by have:=(List.Nodup.mem_erase_iff nd).mp I;have:=h x this.2;lia
   rw[p.length_eq,Az];exact EZ
  ·exact B0 (a8 n l nd λx I=>by have:=h x I;have:x≠n:=λe=>c<|e▸I;lia)
theorem bK{ks:Xv}(h:bu L0 L ka fa ks fo){t:Tr}(I:t∈fo):0<t.E.length/\t.E.length<=ks.length:=by have s:=h.sr t I;exact⟨s.ends h.ok,a8 _ _ s.nod λx J=>s.lt x<|s.sub x J⟩
theorem TJ(x l r:Nat):yW (iG<|.int (x:Int)) (([.int (l:Int),.int (r:Int)]:List Y).map iG)=decide (x=l\/x=r):=by
 show(l5 (.int (l:Int)) (.int (x:Int))||(l5 (.int (r:Int)) (.int (x:Int))||false))=_;have e:∀a b:Nat,l5 (.int (a:Int)) (.int (b:Int))=decide (b=a):=λa b=>by
  show decide ((a:Int)=(b:Int))=decide (b=a);by_cases c:b=a
  ·subst c;simp
  ·rw[AB c];apply AB;lia
 rw[e,e];by_cases I:x=l<;>by_cases J:x=r<;>simp[I,J]
theorem sM{E:Xa}(h:0<E.length)(k:Int):∃x,x∈E/\cI (zx E) (k % ((zx E).length:Int))=some (.int ((x:Nat):Int)):=by obtain⟨j,x,I,J,ex⟩:=rZ h k;refine⟨x,AF ex,?_⟩;rw[Ah,I];exact jt (by rw[Au,ex];rfl)
def kh(E1 E2:Xa)(l r:Nat):Xa:=(E1++E2).filter λx=>!decide (x=l\/x=r)
theorem JW{U:Addr}{E:Xa}{l r k:Nat}{Q:YK}(hp:L U=some (.lst<|zx E))(I:E.length<=1000)
 (C:∀y (g:Bool->ql->Prop),vE true y (.tup [.int (l:Int),.int (r:Int)]) L (λx L'=>match x with|.bl c=>g c L'|_=>False)->tc (gQ (τ++List.replicate 1 none) k y) L g)
 (T:∀y,zO (gQ (τ++List.replicate 1 none) k y) k=some y)
 (hq:∀p,L p=none->Q (.ref p) (qe L p<|.lst<|zx<|E.filter λx=>!decide (x=l\/x=r))):
 r9 L U λys keep L2=>g_ ys keep 1 (qo k) tc (qk k) τ L2 Q:=by
 refine w6 hp λkeep kp=>eY (λj zs=>zs=zx ((E.take j).filter λx=>!decide (x=l\/x=r))) (by rw[Ah];exact qM I) (kp L rfl) rfl ?_ ?_
 ·rintro j y _ o rfl;obtain⟨x,ex,rfl⟩:∃x:Nat,E[j]?=some x/\y=Y.int (x:Int):=by rw[Au] at o;obtain⟨x,e1,e2⟩:=AI.mp o;exact⟨x,e1,e2.symm⟩
  refine C _ _ ⟨rfl,rfl,?_⟩;rw[TJ];show aK (!decide (x=l\/x=r)) _ _;have t:(E.take<|j+1).filter (λx=>!decide (x=l\/x=r))=(E.take j).filter (λx=>!decide (x=l\/x=r))++[x].filter (λx=>!decide (x=l\/x=r)):=by rw[Bk,ex,Bp];rfl
  by_cases c:x=l\/x=r
  ·refine wn (by rw[Ax c];rfl) ?_;refine IH ⟨rfl,?_⟩;rw[t,List.filter_cons_of_neg (by simp[c]),Cw,Av]
  ·refine fT (by rw[AB c];rfl) ?_;unfold qk;rw[T];refine IH ⟨rfl,?_⟩;rw[t,List.filter_cons_of_pos (by simp[c]),Cw];unfold zx;rw[AG];rfl
 ·rintro _ rfl p J;rw[Ah,Bi];exact hq p J
theorem wE{k:Int}(U:L fa=some (.lst<|zo fo))(h:0<fo.length):∃(j:Nat) (t:Tr),fo[j]?=some t/\0<=k % ((zo fo).length:Int)/\k % ((zo fo).length:Int)<((zo fo).length:Int)/\
 (zo fo)[(k % ((zo fo).length:Int)).toNat]?=some (.ref t.a)/\qe L fa (.lst<|(zo fo).eraseIdx (k % ((zo fo).length:Int)).toNat) fa=some (.lst<|zo<|fo.eraseIdx j):=by
 obtain⟨j,t,J,g,I⟩:=rZ h k;have e:(zo fo).length=fo.length:=Ah ..;rw[e,J];refine⟨j,t,I,by exact A8 _,by lia,?_,?_⟩
 ·show(zo fo)[j]?=_;unfold zo;rw[Au,I];rfl
 ·rw[q9];show some (LO.lst<|(zo fo).eraseIdx j)=_;rw[nR]
theorem bu.two{ks:Xv}{t1 t2:Tr}(h:bu L0 L ka fa ks<|t1::t2::rest):∀x,x∈qg t1.R->x∈qg t2.R->False:=by intro x I J;have nd:=h.nd;rw[AR,AR,AE] at nd;exact nd.2.2 x I x (Al _ J) rfl
theorem yK{E1 E2:Xa}{l r:Nat}(I:l∉E2)(J:r∉E1)(x:Nat):x∈kh E1 E2 l r↔(x∈E1/\x≠l)\/(x∈E2/\x≠r):=by
 unfold kh;rw[AN,Ak];constructor
 ·rintro⟨h,c⟩;have c:¬(x=l\/x=r):=by simpa using c
  rcases h with h|h
  ·exact .inl ⟨h,λe=>c<|.inl e⟩
  ·exact .inr ⟨h,λe=>c<|.inr e⟩
 ·rintro(⟨h,c⟩|⟨h,c⟩)
  ·refine⟨.inl h,?_⟩;have:x≠r:=λe=>J<|e▸h;simp[c,this]
  ·refine⟨.inr h,?_⟩;have:x≠l:=λe=>I<|e▸h;simp[c,this]
theorem yL{E1 E2:Xa}{l r:Nat}(h1:E1.Nodup)(h2:E2.Nodup)(d:∀x,x∈E1->x∈E2->False):(kh E1 E2 l r).Nodup:=by
 unfold kh;have h:(E1++E2).Nodup:=by rw[AE];exact⟨h1,h2,λx I y J e=>d x I<|e▸J⟩
 exact CN _ h
theorem kF(a b:Xa):zx (a++b)=zx a++zx b:=AG
theorem gt(a:Xx)(t:Tr):zo (a++[t])=zo a++[.ref t.a]:=AG
theorem TK:∀ys L Q,lu ys L Q->jj Tx 9 ys L Q:=by
 rintro ys L Q ⟨L0,ka,fa,j,fo,one,two,rfl,F,h2,cc,bg,q⟩;have big:=a_;have p:∀fo:Xx,(zo fo).length=fo.length:=λfo=>Ah ..;have U:∀E:Xa,(zx E).length=E.length:=λE=>Ah ..;obtain⟨j1,I,bh,a1,a2,a3,g⟩:=wE (k:=two) F.hf (by exact jU);have p1:=xj bh;refine qc F.hf (qc F.hf ⟨(by show(0:Int)<((zo fo).length:Int);rw[p];lia),qp F.hf ⟨a1,a2,qj a3 ?_⟩⟩);have B:=(F.b.perm p1).setF<|.lst<|(zo fo).eraseIdx (two % ((zo fo).length:Int)).toNat;generalize qe L fa _=L1 at g B ⊢;have l1:=p1.length_eq;generalize fo.eraseIdx j1=T at l1 g B p1 ⊢;rw[Az] at l1;obtain⟨j2,J,bi,b1,b2,b3,ab⟩:=wE (k:=one) g (by lia);have p2:=xj bi;refine qc g (qc g ⟨(by show(0:Int)<((zo T).length:Int);rw[p];lia),qp g ⟨b1,b2,qj b3 ?_⟩⟩);replace B:=(B.perm<|p2.cons _).setF<|.lst<|(zo T).eraseIdx (one % ((zo T).length:Int)).toNat;generalize qe L1 fa _=L2 at ab B ⊢;have l2:=p2.length_eq;have ba:=p1.trans<|p2.cons _;generalize T.eraseIdx j2=rest at l2 ab B ba ⊢;rw[Az] at l2;clear g a1 a2 a3 b1 b2 b3 p1 p2;have m1:I∈I::J::rest:=by simp
 have m2:J∈I::J::rest:=by simp
 obtain⟨a0,ac⟩:=B.ht I m1;obtain⟨a4,al⟩:=B.ht J m2;obtain⟨_,_,n1,n2⟩:=B.nk I m1;obtain⟨_,_,n3,n4⟩:=B.nk J m2;have bj:=bK B m1;have bn:=bK B m2;obtain⟨x,hx,ex⟩:=sM bj.1<|two / 64;obtain⟨y,hy,ey⟩:=sM bn.1<|one / 64;refine qc a0 ⟨⟨by decide,by decide⟩,qc a0 (qc ac ⟨(by show(0:Int)<((zx I.E).length:Int);rw[U];omega),qc ac<|qj ex ?_⟩)⟩;refine qc a4 ⟨⟨by decide,by decide⟩,qc a4 (qc al ⟨(by show(0:Int)<((zx J.E).length:Int);rw[U];omega),qc al<|qj ey ?_⟩)⟩;refine qc B.hk (qp B.hk ⟨big _ (by rw[Ah];exact EY),?_⟩);have ek:w5 j++[.tup [.str "both",.int ((x:Nat):Int),.int ((y:Nat):Int)]]=w5 (j++[.nd false x y]):=by unfold w5;rw[AG];rfl
 rw[ek];have k3:∀z o,z≠ka->L2 z=some o->qe L2 ka (.lst<|w5<|j++[.nd false x y]) z=some o:=λz o n e=>(qb n).trans e;have bb:qe L2 ka (.lst<|w5<|j++[.nd false x y]) ka=some (.lst<|w5<|j++[.nd false x y]):=q9;generalize qe L2 ka _=L3 at bb k3 ⊢;refine qc (k3 _ _ n1 a0) (qc (k3 _ _ n3 a4) ⟨_,_,k3 _ _ n2 ac,k3 _ _ n4 al,fI (by rw[U,U];lia),λpp bd=>?_⟩);rw[<-kF];refine JW (E:=I.E++J.E) (l:=x) (r:=y) (k:=9) q9 (by rw[Aa];lia) (λy' Q' h=>h) (λ_=>rfl) λpe be=>?_;generalize hL:qe (qe L3 pp _) pe _=L4;have s4:qh L3 L4:=by rw[<-hL];exact(By bd).trans (By be)
 have ca:L4 pe=some (.lst<|zx<|kh I.E J.E x y):=by rw[<-hL];exact q9
 clear hL bd be;have k4:∀z o,z≠ka->L2 z=some o->L4 z=some o:=λz o n e=>s4 _ _<|k3 z o n e;have au:=s4 _ _ bb;have av:=k4 _ _ (AQ B.nkf) ab;have nn:(((w5<|j++[.nd false x y]).length:Nat):Int)-1=((j.length:Nat):Int):=by rw[Ah,Aa];simp
 have lb:(kh I.E J.E x y).length<=(I.E++J.E).length:=Bd ..;rw[Aa] at lb;refine qc av<|qc au<|qc (k4 _ _ n1 a0)<|qc (k4 _ _ n3 a4)<|qc au λpn C=>?_;refine⟨_,_,By C _ _ ca,q9,fI (by rw[U];show _+1<=1000;lia),λpb a5 pa a7=>?_⟩;have bf:pb≠pa:=xu q9 a7;have nb:=(By C).none a5;have na:=((By C).trans<|By a5).none a7;generalize hL:qe (qe (qe L4 pn _) pb _) pa _=L7;have s7:qh L4 L7:=by rw[<-hL];exact((By C).trans<|By a5).trans (By a7)
 have ea:L7 pa=some (.lst [zf<|.bo j.length I.R J.R,.ref pb]):=by rw[<-hL,q9];dsimp only;rw[nn];rfl
 have eb:L7 pb=some (.lst<|zx<|kh I.E J.E x y++[j.length]):=by rw[<-hL,qb bf,q9];dsimp only;rw[nn,kF];rfl
 clear hL C a5 a7;refine qp (s7 _ _ av) ⟨big _ (by rw[p];lia),?_⟩;have s1:=B.sr I m1;have s2:=B.sr J m2;have aL:∀z,z∈I.E->z∈J.E->False:=λz h1 h2=>B.two z (s1.sub z h1)<|s2.sub z h2;have bm:=yK (E1:=I.E) (E2:=J.E) (λh=>aL x hx h) λh=>aL y h hy;refine jv (q _ (j++[.nd false x y]) (rest++[⟨pa,pb,.bo j.length I.R J.R,kh I.E J.E x y++[j.length]⟩]) ⟨(bu.put (old:=[I,J]) B k4 au av na nb (AQ bf) s7 ea eb (B.ok.snoc ⟨s1.lt x<|s1.sub x hx,s2.lt y<|s2.sub y hy⟩) (.bo (fO _ _ _) (s1.more _) (s2.more _) hx hy (λz=>?_) ?_) ?_).setF _,by rw[q9,gt]⟩ (by rw[Aa];rfl) (by rw[Aa];simp;lia) ⟨⟨_,rfl,λk hk=>⟨_,_,_,Aj.mp hk⟩⟩,λh t ht=>?_⟩)
 ·rw[Ak,bm,Aj,or_assoc]
 ·rw[AE];refine⟨yL s1.nod s2.nod aL,by simp,λu hu v hv e=>?_⟩;rw[Aj.mp hv] at e;rcases (bm u).mp hu with⟨h,_⟩|⟨h,_⟩
  ·have:=s1.lt u<|s1.sub u h;lia
  ·have:=s2.lt u<|s2.sub u h;lia
 ·show(j.length::(qg I.R++qg J.R)).Perm (List.range' j.length 1++([I,J].flatMap λt=>qg t.R));simp[DO]
 ·have h':∀u∈I::J::rest,DR u.R:=λu hu=>h u<|ba.mem_iff.mpr hu;rcases Ak.mp ht with ht|ht
  ·exact h' t<|Ae _<|Ae _ ht
  ·rw[Aj.mp ht];exact⟨h' I m1,h' J m2⟩
theorem uL{E:Xa}{k:Int}(h:0<E.length):∃(j x:Nat),E[j]?=some x/\0<=k % ((zx E).length:Int)/\k % ((zx E).length:Int)<((zx E).length:Int)/\
 (zx E)[(k % ((zx E).length:Int)).toNat]?=some (.int ((x:Nat):Int))/\(zx E).eraseIdx (k % ((zx E).length:Int)).toNat=zx (E.eraseIdx j):=by
 obtain⟨j,x,J,U,I⟩:=rZ h k;have e:(zx E).length=E.length:=Ah ..;rw[e,J];refine⟨j,x,I,by exact A8 _,by lia,?_,?_⟩
 ·show(zx E)[j]?=_;rw[Au,I];rfl
 ·exact kB _ E j
theorem GA{a:Addr}{o:LO}:∀z u,z≠a->L z=some u->qe L a o z=some u:=λz u n e=>(qb n).trans e
inductive iV(ys:List Y)(L:ql)(Q:YK):Prop
 |mk:∀L0 ka fa ks,∀pre post:Xx,∀t:Tr,∀one two:Int,(ys=[.ref ka,.ref t.a,.int one,.int two])->(oz L0 L ka fa ks<|pre++t::post)->(ks.length<=200)->(∀L' ks' fo',oz L0 L' ka fa ks' fo'->ks'.length<=ks.length+1->fo'.length=(pre++t::post).length->JU ks (pre++t::post) ks' fo'->Q .non L')->iV ys L Q
theorem TL:∀ys L Q,iV ys L Q->jj Tz 6 ys L Q:=by
 rintro ys L Q ⟨L0,T,fa,I,pre,post,t,one,two,rfl,F,bb,q⟩;have big:=a_;have mt:t∈pre++t::post:=by simp
 have B:=F.b;obtain⟨ta,tb⟩:=B.ht t mt;have le:=bK B mt;have s:=B.sr t mt;have U:∀E:Xa,(zx E).length=E.length:=λE=>Ah ..;refine qc ta<|qc tb ?_;refine je (λc=>?_) λc=>?_
 ·exact jv<|q L I _ F (Ct _) rfl ⟨⟨[],(Av _).symm,λk hk=>by cases hk⟩,λh=>h⟩
 have c:¬(((zx t.E).length:Int)<2):=c;rw[U] at c;have ad:=B.ad;have nkf:=B.nkf;have nk:=B.nk;have r:t.a≠t.b:=by rw[AC,AC,AJ,AR,AE,AE] at ad;have:=ad.2.2.2.1.1;simpa[Tr.ads] using this
 obtain⟨C,x,e1,a1,a2,a3,a4⟩:=uL (k:=two) le.1;refine qc ta (qc tb (qc ta (qc tb ⟨(by show(0:Int)<((zx t.E).length:Int);rw[U];omega),qp tb ⟨a1,a2,qj a3 ?_⟩⟩)));rw[a4];have bf:(t.E.eraseIdx C).length+1=t.E.length:=by have:=(xj e1).length_eq;rw[Az] at this;lia
 have a5:qe L t.b (.lst<|zx<|t.E.eraseIdx C) t.a=some (.lst [zf t.R,.ref t.b]):=by rw[qb r];exact ta
 obtain⟨j2,y,e2,b1,b2,b3,b4⟩:=uL (E:=t.E.eraseIdx C) (k:=one) (by lia);refine qc a5 (qc q9 (qc a5 (qc q9 ⟨(by show(0:Int)<((zx<|t.E.eraseIdx C).length:Int);rw[U];omega),qp q9 ⟨b1,b2,qj b3 ?_⟩⟩)));rw[b4,zc];have bd:((t.E.eraseIdx C).eraseIdx j2).length+1=(t.E.eraseIdx C).length:=by have:=(xj e2).length_eq;rw[Az] at this;lia
 have pE:t.E.Perm (x::y::(t.E.eraseIdx C).eraseIdx j2):=(xj e1).trans<|(xj e2).cons _;generalize (t.E.eraseIdx C).eraseIdx j2=j at bd pE;have nt:=nk t mt;have k1:=GA (L:=L) (a:=t.b) (o:=.lst<|zx j);have a7:qe L t.b (.lst<|zx j) t.b=some (.lst<|zx j):=q9;generalize qe L t.b _=L1 at k1 a7 ⊢;have ab:=k1 _ _ (AQ nt.2.2.2) B.hk;refine qc ab (qp ab ⟨big _ (by rw[Ah];exact EY),?_⟩);have ek:w5 I++[.tup [.str "either",.int ((x:Nat):Int),.int ((y:Nat):Int)]]=w5 (I++[.nd true x y]):=by unfold w5;rw[AG];rfl
 rw[ek];have nn:(((w5<|I++[.nd true x y]).length:Nat):Int)-1=((I.length:Nat):Int):=by rw[Ah,Aa];simp
 have k2:=GA (L:=L1) (a:=T) (o:=.lst<|w5<|I++[.nd true x y]);have a0:qe L1 T (.lst<|w5<|I++[.nd true x y]) T=some (.lst<|w5<|I++[.nd true x y]):=q9;generalize qe L1 T _=L2 at k2 a0 ⊢;have ac:=k2 _ _ nt.2.2.1<|k1 _ _ r ta;refine qc a0<|qc ac<|qp ac<|qj (v:=0) rfl ?_;generalize hL:qe L2 t.a _=L3;have al:L3 t.a=some (.lst [zf<|.ei I.length t.R,.ref t.b]):=by rw[<-hL,q9];dsimp only;rw[nn];rfl
 have k3:∀z o,z≠t.a->L2 z=some o->L3 z=some o:=by rw[<-hL];exact GA
 clear hL;have au:=k3 _ _ (AQ nt.2.2.1) a0;have av:=k3 _ _ (AQ r)<|k2 _ _ nt.2.2.2 a7;have g:∀b u,b≠t.a->b≠t.b->b≠T->L b=some u->L3 b=some u:=λb u n1 n2 n3 e=>k3 _ _ n1<|k2 _ _ n3<|k1 _ _ n2 e;refine qc al (qc av (qc au (qp av ⟨big _ (by rw[U];lia),?_⟩)));have en:zx j++[.int<|(((w5<|I++[.nd true x y]).length:Nat):Int)-1]=zx (j++[I.length]):=by rw[nn];unfold zx;rw[AG];rfl
 have l:=pE.nodup_iff.mp s.nod;rw[AC,AC] at l;have hx:x∈t.E:=pE.mem_iff.mpr (by simp);have hy:y∈t.E:=pE.mem_iff.mpr (by simp);have be:∀u∈pre++post,u.a≠t.a/\u.a≠t.b/\u.b≠t.a/\u.b≠t.b:=λu J=>by have p:(pre++t::post).Perm (t::(pre++post)):=BF;have aL:=(p.flatMap_right Tr.ads).nodup_iff.mp (by rw[AC,AC] at ad;exact ad.2.2);rw[AR,AE] at aL;have k:=aL.2.2;have ma:u.a∈(pre++post).flatMap Tr.ads:=Ay.mpr ⟨u,J,by simp[Tr.ads]⟩;have mb:u.b∈(pre++post).flatMap Tr.ads:=Ay.mpr ⟨u,J,by simp[Tr.ads]⟩;exact⟨λe=>k t.a (by simp[Tr.ads]) u.a ma e.symm,λe=>k t.b (by simp[Tr.ads]) u.a ma e.symm,λe=>k t.a (by simp[Tr.ads]) u.b mb e.symm,λe=>k t.b (by simp[Tr.ads]) u.b mb e.symm⟩
 refine jv (q _ (I++[.nd true x y]) (pre++⟨t.a,t.b,.ei I.length t.R,j++[I.length]⟩::post) ⟨?_,?_⟩ (by rw[Aa];exact An _) (by simp) ⟨⟨_,rfl,λk hk=>⟨_,_,_,Aj.mp hk⟩⟩,λh u J=>?_⟩)
 rotate_right
 ·rcases Ak.mp J with J|J
  ·exact h u<|Al _ J
  ·rcases Am.mp J with rfl|J
   ·exact h t mt
   ·exact h u<|Ac _<|Ae _ J
 ·have B':=B.perm (fo':=[t]++(pre++post)) BF;have st:=bu.step (old:=[t]) (rest:=pre++post) (t':=⟨t.a,t.b,.ei I.length t.R,j++[I.length]⟩) (ms:=[.nd true x y]) (L':=qe L3 t.b<|.lst<|zx j++[.int<|(((w5<|I++[.nd true x y]).length:Nat):Int)-1]) B' ?_ ⟨?_,?_⟩ (λu J=>?_) (λb o e=>?_) ?_ (λz hz=>?_) ?_ ?_ ?_
  ·exact st.perm (by have p1:((pre++post)++[(⟨t.a,t.b,.ei I.length t.R,j++[I.length]⟩:Tr)]).Perm ((⟨t.a,t.b,.ei I.length t.R,j++[I.length]⟩:Tr)::(pre++post)):=B7 _ _;exact p1.trans BF.symm)
  ·rw[qb<|AQ (nk t mt).2.2.2];exact au
  ·rw[qb r];exact al
  ·rw[q9,en]
  ·have ba:u∈pre++t::post:=by rcases Ak.mp J with h|h;exact Al _ h;exact Ac _ (Ae _ h)
   obtain⟨n1,n2,n3,n4⟩:=be u J;obtain⟨k1,k2,k3,k4⟩:=nk u ba;obtain⟨h1,h2⟩:=B.ht u ba;rw[h1,h2,qb n2,qb n4];exact⟨g _ _ n1 n2 k3 h1,g _ _ n3 n4 k4 h2⟩
  ·have fr:=B.fr;have n0:∀z,L0 z=none->b≠z:=λz hz w=>by rw[w,hz] at e;cases e
   have n1:=n0 T<|fr T (by simp);have n2:=n0 t.a<|fr t.a (by simp[Tr.ads]);have n3:=n0 t.b<|fr t.b (by simp[Tr.ads]);rw[qb n3];exact g _ _ n2 n3 n1<|B.sub _ _ e
  ·have p:(pre++t::post).Perm ((pre++post)++[t]):=BF.trans (B7 _ _).symm;have e:((pre++post)++[(⟨t.a,t.b,.ei I.length t.R,j++[I.length]⟩:Tr)]).flatMap Tr.ads=((pre++post)++[t]).flatMap Tr.ads:=by simp[AJ,Tr.ads]
   rw[e];exact(((p.flatMap_right Tr.ads).cons _).cons _).nodup_iff.mp ad
  ·have hz:z=t.a\/z=t.b:=by simpa[Tr.ads] using hz
   rcases hz with rfl|rfl
   ·exact B.fr _ (by simp[Tr.ads])
   ·exact B.fr _ (by simp[Tr.ads])
  ·exact B.ok.snoc ⟨s.lt x<|s.sub x hx,s.lt y<|s.sub y hy⟩
  ·refine .ei (fO _ _ _) (s.more _) hx hy (λe=>l.1 (by rw[e];exact Ag ..)) (λz=>?_) ?_
   ·rw[Ak,Aj];have hm:=pE.mem_iff (a:=z);rw[Am,Am] at hm;have h1:z∈j->z≠x/\z≠y:=λh=>⟨λe=>l.1 (by rw[<-e];exact Ae _ h),λe=>l.2.1<|e▸h⟩;constructor
    ·rintro(h|h)
     ·exact .inl ⟨hm.mpr<|.inr<|.inr h,h1 h⟩
     ·exact .inr h
    ·rintro(⟨h,c1,c2⟩|h)
     ·rcases hm.mp h with e|e|e
      ·exact absurd e c1
      ·exact absurd e c2
      ·exact .inl e
     ·exact .inr h
   ·rw[AE];refine⟨l.2.2,by simp,λu J v hv e=>?_⟩;rw[Aj.mp hv] at e;have:u∈t.E:=pE.mem_iff.mpr<|Ae _<|Ae _ J;have:=s.lt u<|s.sub u this;lia
  ·show(I.length::qg t.R).Perm (List.range' I.length 1++([t].flatMap λt=>qg t.R));simp[DO]
 ·have nf:=nk t mt;rw[qb<|AQ nf.2.1];have:=g fa _ (AQ nf.1) (AQ nf.2.1) (AQ nkf) F.hf;rw[this];unfold zo;rw[AG,AG];rfl
def TM(I:zd)(p1:zd)(p2:zd)(p3:zd):vn:=(ja (vh (rE rW (qk 1)<|z9 (wy Fq (qk 3)<|ux 1) vm)<|qo 4)
 (ja (vh (wy og (bX 4 1)<|wy Fq (wy QY (qk 3)<|lZ 64)<|xa Cf<|dg<|bX 4 1)<|qo 5)
 (ja (vh (xm I<|jA (qk 0)<|qk 5)<|qo 6)
 (ja (vh (Fw (yC .non)<|yC .non)<|df 2<|jh (qo 7)<|jh (qo 8) bv)
 (ja (l8 (vX<|dg<|ux 1) (qo 9)<|l8 (ag<|wy og (wy og (qk 1)<|qk 9)<|lZ 1) (qo 10)<|di (E7 (yB<|gS false<|qk 7)<|y_ (xm I<|jA (qk 0)<|qk 10)<|xm p1<|dg<|qk 6) (vh (iE<|z9 (wy og (qk 1)<|qk 9)<|dg<|qk 10)<|df 2<|jh (qo 7)<|jh (qo 8) bv) bP)
 (ja (di (E7 (yB<|gS false<|qk 7)<|yB<|wy Q0 (xm p2<|dg<|qk 6)<|lZ 5) (ja (aP<|rE vq (qk 1)<|dg<|qk 4)
 IF) bP)
 (yU (di (yB<|gS false<|qk 7) (ja (vh (xm p3<|jA (qk 0)<|qk 6)<|Jh 3<|jh (qo 11)<|jh (qo 8)<|jh (qo 12) bv)
 (vh (hE<|z9 (qk 11)<|z9 (hE<|jA (qk 8)<|qk 12) vm)<|qo 7))<|aP<|rE lz (qk 1)<|dg<|qk 7)
 (ja (vh (ya 1 (ag<|wy xO (bX 4 1)<|bX 7 1) (qo 14) (yB<|wy (vE true) (qk 14)<|Fw (qk 5)<|qk 8)<|qk 14)<|qo 13)
 (di (y_ (wy Fq (qk 2)<|lZ 2)<|lZ 0) (aP<|rE vq (qk 1)<|z9 (hE<|z9 (iE<|z9 (h_ "cut")<|z9 (qk 5)<|z9 (qk 8)<|jA (bX 4 0)<|bX 7 0)<|dg<|qk 13) vm)<|aP<|rE vq (qk 1)<|z9 (hE<|z9 (iE<|z9 (h_ "cut")<|z9 (qk 8)<|z9 (qk 5)<|jA (bX 7 0)<|bX 4 0)<|dg<|qk 13) vm)))))))))
theorem sO:∀a b:List Da,Da.eqs a b=true->a.length=b.length
 |[],[],_=>rfl
 |[],_::_,h=>by cases h
 |_::_,[],h=>by cases h
 |x::r,y::q,h=>by have h:(Da.eq x y&&Da.eqs r q)=true:=h;rw[AU] at h;rw[Az,Az,sO r q h.2]
theorem TN(u:Wd):∀v:Wd,Da.eq (rM u) (rM v)=true->u=v:=by
 induction u with
 |leaf t n=>
  intro v h;cases v with
  |leaf T n'=>
   rw[TF,AU] at h;rw[of_decide_eq_true h.1,of_decide_eq_true h.2]
  |node e l r=>exact absurd (sO _ _ h) (by intro z;cases z)
 |node e l r g j=>
  intro v h;cases v with
  |leaf t n=>exact absurd (sO _ _ h) (by intro z;cases z)
  |node I J U=>
   have h:(l5 (.str<|kN e) (.str<|kN I)&&(Da.eq (rM l) (rM J)&&(Da.eq (rM r) (rM U)&&true)))=true:=h;rw[AU,AU,AU] at h;obtain⟨o,p,C,_⟩:=h;have:e=I:=by cases e<;>cases I<;>first|rfl|(exfalso;revert o;decide +kernel)
   rw[this,g J p,j U C]
def x9:Ru->Nat
 |.link _ _=>1
 |.ei _ A=>x9 A+1
 |.bo _ A B=>max (x9 A) (x9 B)+1
 |.cu _ _ A B=>max (x9 A) (x9 B)+1
theorem w4:∀R:Ru,x9 R+1<=(qg R).length
 |.link _ _=>An _
 |.ei _ A=>by have:=w4 A;simp[x9,qg];lia
 |.bo _ A B=>by have:=w4 A;have:=w4 B;simp[x9,qg];lia
 |.cu _ _ A B=>by have:=w4 A;have:=w4 B;simp[x9,qg];lia
def fB:Ru->Da
 |.link p q=>.tup [.s<|.str "link",.s<|.int (p:Int),.s<|.int (q:Int)]
 |.ei r A=>.tup [.s<|.str "either",.s<|.int (r:Int),fB A]
 |.bo r A B=>.tup [.s<|.str "both",.s<|.int (r:Int),fB A,fB B]
 |.cu p q A B=>.tup [.s<|.str "cut",.s<|.int (p:Int),.s<|.int (q:Int),fB A,fB B]
theorem gI{L:ql}:∀{R:Ru} {n:Nat},x9 R<=n->jw L n (zf R) (fB R)
 |.link p q,n+1,_=>i3<|.cons (EV _)<|.cons (EW _)<|.cons (EW _) .nil
 |.ei r A,n+1,h=>i3 (.cons (EV _) (.cons (EW _) (.cons (gI (by simp[x9] at h;lia)) .nil)))
 |.bo r A B,n+1,h=>i3 (.cons (EV _) (.cons (EW _) (.cons (gI (by simp[x9] at h;lia)) (.cons (gI (by simp[x9] at h;lia)) .nil))))
 |.cu p q A B,n+1,h=>i3 (.cons (EV _) (.cons (EW _) (.cons (EW _) (.cons (gI (by simp[x9] at h;lia)) (.cons (gI (by simp[x9] at h;lia)) .nil)))))
 |.link _ _,0,h=>by simp[x9] at h
 |.ei _ _,0,h=>by simp[x9] at h
 |.bo _ _ _,0,h=>by simp[x9] at h
 |.cu _ _ _ _,0,h=>by simp[x9] at h
theorem bB:∀R:Ru,Da.eq (fB R) (fB R)=true
 |.link p q=>by simp[fB,Da.eq,Da.eqs,l5]
 |.ei r A=>by simp[fB,Da.eq,Da.eqs,l5,bB A]
 |.bo r A B=>by simp[fB,Da.eq,Da.eqs,l5,bB A,bB B]
 |.cu p q A B=>by simp[fB,Da.eq,Da.eqs,l5,bB A,bB B]
def jO(E:Xa):List Da:=E.map λn:Nat=>Da.s<|.int (n:Int)
theorem yd{L:ql}{n:Nat}:∀E:Xa,Paired (jw L n) (zx E)<|jO E
 |[]=>.nil
 |_::r=>.cons (EW _)<|yd r
theorem mH:∀E I:Xa,Da.eqs (jO E) (jO I)=true↔E=I
 |[],[]=>by simp[jO,Da.eqs]
 |[],_::_=>by simp[jO,Da.eqs]
 |_::_,[]=>by simp[jO,Da.eqs]
 |x::r,y::J=>by
  have U:=mH r J;show(Da.eq (.s<|.int (x:Int)) (.s<|.int (y:Int))&&Da.eqs (jO r) (jO J))=true↔_;rw[AU,U];have:Da.eq (.s<|.int (x:Int)) (.s<|.int (y:Int))=true↔x=y:=by show decide ((x:Int)=(y:Int))=true↔_;rw[B8];lia
  rw[this];constructor
  ·rintro⟨rfl,rfl⟩;rfl
  ·intro e;injection e with g j;exact⟨g,j⟩
def gR(t:Tr):Da:=.lst [fB t.R,.lst<|jO t.E]
theorem sL{t:Tr}(I:L t.a=some (.lst [zf t.R,.ref t.b]))(J:L t.b=some (.lst<|zx t.E))(h:x9 t.R<=n+1):jw L (n+2) (.ref t.a) (gR t):=
 bC I (.cons (gI h)<|.cons (bC J<|yd _) .nil)
theorem TQ{t u:Tr}:Da.eq (gR t) (gR u)=true->t.E=u.E:=by intro h;have h:(Da.eq (fB t.R) (fB u.R)&&(Da.eqs (jO t.E) (jO u.E)&&true))=true:=h;rw[AU,AU] at h;exact(mH _ _).mp h.2.1
theorem zL(t:Tr):Da.eq (gR t) (gR t)=true:=by show(Da.eq (fB t.R) (fB t.R)&&(Da.eqs (jO t.E) (jO t.E)&&true))=true;rw[bB,(mH _ _).mpr rfl];rfl
theorem bu.rd{ks:Xv}(h:bu L0 L ka fa ks fo){t:Tr}(I:t∈fo):x9 t.R<=ks.length:=by
 have U:=w4 t.R;have nd:(qg t.R).Nodup:=by obtain⟨a,b,rfl⟩:=BL I;have:=h.nd;rw[AJ,AR,AE,AE] at this;exact this.2.1.1
 have:=a8 _ _ nd λx J=>(h.sr t I).lt x J;exact PL
theorem bu.one{ks:Xv}(h:bu L0 L ka fa ks fo){t u:Tr}(hi:fo[i]?=some t)(I:fo[j]?=some u)(e:t.E=u.E):i=j:=by
 by_cases c:i=j
 ·exact c
 ·exfalso;have s:=h.sr t<|AF hi;have l:=s.ends h.ok;obtain⟨x,J⟩:∃x,x∈t.E:=by cases g:t.E with|nil=>rw[g] at l;simp at l|cons x r=>exact⟨x,Ag ..⟩
  have o:=h.sr u<|AF I;have p:=xj hi;have C:(u::(fo.eraseIdx i))=_:=rfl;have U:u∈fo.eraseIdx i:=by have:fo[j]?=some u:=I;rw[List.mem_eraseIdx_iff_getElem?];exact⟨j,λz=>c z.symm,I⟩
  obtain⟨a,b,T⟩:=BL U;have nd:=(p.flatMap_right λt:Tr=>qg t.R).nodup_iff.mp h.nd;rw[AR,AE] at nd;exact nd.2.2 x (s.sub x J) x (Ay.mpr ⟨u,U,o.sub x<|e▸J⟩) rfl
theorem oE:∀w:Wd,w.turn.turn=w
 |.leaf t n=>by simp[Wd.turn]
 |.node e l r=>by simp[Wd.turn,oE l,oE r]
theorem gu:∀w:Wd,w.turn.depth=w.depth
 |.leaf t n=>rfl
 |.node e l r=>by simp[Wd.turn,Wd.depth,gu l,gu r]
def Fd(ks:Xv)(w:Wd)(rest:Xx)(I J:Y):Prop:=(I=.non/\J=.non)\/∃(j:Nat) (u:Tr) (q:Nat),rest[j]?=some u/\q∈u.E/\dq ks q w.turn/\I=.ref u.a/\J=.int (q:Int)
theorem TR{g j:ql}{ks:Xv}{t1 u:Tr}{x:Nat}{w:Wd}(B:bu L0 g ka fa ks<|t1::u::rest){fs:LO}(hf:g fa=some fs)(hx:x∈t1.E)(hq:q∈u.E)(o:dq ks x w)(p:dq ks q w.turn){I:Addr}(s:qh g j)(a0:g I=none)
 (he:j I=some (.lst<|zx<|kh t1.E u.E x q)) (J:j pa=none) {R:Ru} (hR:R=.cu x q t1.R u.R\/R=.cu q x u.R t1.R):bu L0 (qe j pa<|.lst [zf R,.ref I]) ka fa ks (rest++[⟨pa,I,R,kh t1.E u.E x q⟩]):=by
 have t:I≠pa:=xu he J;have C:=B.sr t1 (by simp);have T:=B.sr u (by simp);have U:∀z,z∈t1.E->z∈u.E->False:=λz h1 h2=>B.two z (C.sub z h1)<|T.sub z h2;have bm:=yK (E1:=t1.E) (E2:=u.E) (λh=>U x hx h) λh=>U q h hq;have nod:=yL (l:=x) (r:=q) C.nod T.nod U;have st:=bu.put (M:=g) (L':=qe j pa<|.lst [zf R,.ref I]) (old:=[t1,u]) (ms:=[]) (R:=R) (E:=kh t1.E u.E x q) (pa:=pa) (pb:=I) B (λ_ _ _ e=>e) (by rw[Av];exact B.hk) hf (s.none J) a0 (AQ t) (s.trans<|By J) q9 (by rw[qb t];exact he) (by rw[Av];exact B.ok) ?_ ?_
 ·rw[Av] at st;exact st
 ·rw[Av];rcases hR with rfl|rfl
  ·exact .cu C T hx hq o p bm nod
  ·exact .cu (w:=w.turn) T C hq hx p (by rw[oE];exact o) (λz=>by rw[bm];exact Or.comm) nod
 ·rcases hR with rfl|rfl
  ·show(qg t1.R++qg u.R).Perm _;simp
  ·show(qg u.R++qg t1.R).Perm _;simpa using BO
def CJ(L0:ql)(ka fa:Addr)(ks:Xv)(one two:Int)(t1:Tr)(x:Nat)(w:Wd)(n:Nat)(τ:jk)(L:ql):Prop:=∃ms u q rest c9 i7 c11 c12,τ=[some<|.ref ka,some<|.ref fa,some<|.int one,some<|.int two,some<|.ref t1.a,some<|.int (x:Int),some<|cG w,some<|.ref u.a,some<|.int ((q:Nat):Int),c9,i7,c11,c12,none]/\
 bu L0 L ka fa (ks++ms) (t1::u::rest)/\L fa=some (.lst<|zo rest)/\q∈u.E/\dq (ks++ms) q w.turn/\ms.length<=10/\rest.length<=n
inductive li(ys:List Y)(L:ql)(Q:YK):Prop
 |mk:∀L0 ka fa ks fo,∀one two:Int,(ys=[.ref ka,.ref fa,.int one,.int two])->(oz L0 L ka fa ks fo)->(1<=fo.length)->(fo.length<=110)->(ks.length<=110)->(∀L' ks' fo',oz L0 L' ka fa ks' fo'->ks'.length<=ks.length+10->1<=fo'.length->fo'.length<=fo.length->Q .non L')->li ys L Q
theorem TU{FS MS:zd}(hF:∀ys L Q,aF 120 ys L Q->FS ys L Q)(hM:∀ys L Q,w9 5 ys L Q->MS ys L Q):∀ys L Q,li ys L Q->jj (TM (wm 120) FS (bH 120) MS) 14 ys L Q:=by
 rintro ys L Q ⟨L0,ka,fa,ks,fo,one,two,rfl,F,h1,ck,bj,q⟩;have big:=a_;have C:∀fo:Xx,(zo fo).length=fo.length:=λfo=>Ah ..;obtain⟨j1,I,ba,a1,a2,a3,g⟩:=wE (k:=two) F.hf (by assumption);have l1:(fo.eraseIdx j1).length+1=fo.length:=by have:=(xj ba).length_eq;rw[Az] at this;lia
 refine qc F.hf (qc F.hf ⟨(by show(0:Int)<((zo fo).length:Int);rw[C];lia),qp F.hf ⟨a1,a2,qj a3 ?_⟩⟩);have B:=(F.b.perm<|xj ba).setF<|.lst<|(zo fo).eraseIdx (two % ((zo fo).length:Int)).toNat;generalize qe L fa _=L1 at g B ⊢;generalize fo.eraseIdx j1=rest at l1 g B;clear a1 a2 a3;have m1:I∈I::rest:=by simp
 obtain⟨a0,a5⟩:=B.ht I m1;have a7:=bK B m1;have s1:=B.sr I m1;obtain⟨x,hx,ex⟩:=sM a7.1<|two / 64;refine qc a0 ⟨⟨by decide,by decide⟩,qc a0 (qc a5 ⟨(by show(0:Int)<((zx I.E).length:Int);rw[Ah];omega),qc a5<|qj ex ?_⟩)⟩;obtain⟨w,hw,cn,bb⟩:=mX B.ok (x+1) x (by exact Br _)<|s1.lt x<|s1.sub x hx;have cv:=s1.lt x<|s1.sub x hx;refine⟨ka,w5 ks,x,w,rfl,B.hk,hw,by lia,?_⟩;have cx:w.turn.depth=w.depth:=gu w;refine qc g ⟨⟨by show _<=(((zo rest).length:Nat):Int);exact A8 _,by show(((zo rest).length:Nat):Int)<_;rw[C];omega⟩,?_⟩;refine sP (λi τ L'=>∃v7 v8 c9 i7,τ=[some<|.ref ka,some<|.ref fa,some<|.int one,some<|.int two,some<|.ref I.a,some<|.int (x:Int),some<|cG w,some v7,some v8,c9,i7,none,none,none]/\L'=L1/\Fd ks w rest v7 v8) ⟨_,_,_,_,rfl,rfl,.inl ⟨rfl,rfl⟩⟩ ?_ ?_
 ·rintro i τ L' hi ⟨v7,v8,c9,i7,rfl,rfl,fd⟩;have hi:i<rest.length:=by have:i<(((zo rest).length:Nat):Int).toNat:=hi;rw[C] at this;assumption
  obtain⟨u,hu⟩:∃u,rest[i]?=some u:=⟨_,Ao hi⟩;have mu:u∈I::rest:=Ae _<|AF hu;obtain⟨ua,ub⟩:=B.ht u mu;have ei:(zo rest)[i]?=some (.ref u.a):=by unfold zo;rw[Au,hu];rfl
  have e0:(0:Int)+(i:Int)=((i:Nat):Int):=by simp +arith only
  rw[e0];have bd:cI (zo rest) ((i:Nat):Int)=some (.ref u.a):=jt ei;have le:=bK B mu;have su:=B.sr u mu;refine qc g<|qj bd<|qc ua ?_;refine aw (ys:=zx u.E) (jm ub) (λk τ ab=>∃v7 v8 i7,τ=[some<|.ref ka,some<|.ref fa,some<|.int one,some<|.int two,some<|.ref I.a,some<|.int (x:Int),some<|cG w,some v7,some v8,some<|.int ((i:Nat):Int),i7,none,none,none]/\ab=L'/\Fd ks w rest v7 v8) ⟨_,_,_,rfl,rfl,fd⟩ ?_ ?_ ?_
  ·rintro k τ _ ⟨_,_,_,_,rfl,_⟩;rfl
  ·rintro k y τ ab ey ⟨v7,v8,i7,rfl,rfl,fd⟩;obtain⟨z,ez,rfl⟩:∃z:Nat,u.E[k]?=some z/\y=Y.int (z:Int):=by rw[Au] at ey;obtain⟨z,e1,e2⟩:=AI.mp ey;exact⟨z,e1,e2.symm⟩
   have hz:z∈u.E:=AF ez;rcases fd with⟨rfl,rfl⟩|⟨j,t,q0,h1,h2,h3,rfl,rfl⟩
   ·have bm:=su.lt z<|su.sub z hz;obtain⟨v,hv,cy,cm⟩:=mX B.ok (z+1) z (by exact Br _) bm;refine⟨ka,w5 ks,z,v,rfl,B.hk,hv,by lia,hF _ _ _ ⟨w,rfl,by lia,?_⟩⟩;refine Sq (u:=v) (v:=w.turn) (by lia) ?_;show aK (Da.eq (rM v)<|rM w.turn) _ _;refine Qe (λc=>?_) λc=>?_
    ·have hh:=TN _ _ c;refine qc g<|qj bd ?_;refine⟨_,EC _,?_⟩;exact⟨_,_,_,rfl,rfl,.inr ⟨i,u,z,hu,hz,hh▸hv,rfl,rfl⟩⟩
    ·refine⟨_,EC _,?_⟩;exact⟨_,_,_,rfl,rfl,.inl ⟨rfl,rfl⟩⟩
   ·refine⟨_,EC _,?_⟩;exact⟨_,_,_,rfl,rfl,.inr ⟨j,t,q0,h1,h2,h3,rfl,rfl⟩⟩
  ·rintro τ ab ⟨v7,v8,i7,rfl,rfl,fd⟩;refine⟨_,EC _,?_⟩;exact⟨_,_,_,_,rfl,rfl,fd⟩
 ·rintro τ L' ⟨v7,v8,c9,i7,rfl,rfl,fd⟩;rcases fd with⟨rfl,rfl⟩|⟨j,u,q0,hj,ac,al,rfl,rfl⟩
  case' inl=>
   refine⟨w,rfl,by lia,?_⟩;show aK (decide<|(w.size:Int) > 5) _ _;refine je (λc=>?_) λc=>?_
   case' refine_1=>
    refine qc g (qp g ⟨big _ (by rw[C];lia),?_⟩);rw[<-gt];exact jv (q _ ks (rest++[I]) ⟨(B.perm (B7 _ _).symm).setF _,q9⟩ (by exact Bg _ _) (by simp) (by rw[Aa];simp;exact xQ))
   case' refine_2=>
    refine⟨CJ L0 ka fa ks one two I x w rest.length,?_,?_⟩
    ·refine hM _ _ _ ⟨ka,ks,w,rfl,B.hk,(by have h1:=w.depth_le;have h2:=w.size_eq;lia),(by decide),bb,B.ok,by lia,λms R tp sp p hp a4=>?_⟩;refine qp q9 ?_;intro pb au T J;have av:qe L' ka (.lst<|w5<|ks++ms) p=none:=by rw[qb<|AQ<|xu B.hk hp];exact hp
     have be:pb≠T:=xu q9 J;have nb:=(By av).none au;have na:=((By av).trans<|By au).none J;have bf:qe L' ka (.lst<|w5<|ks++ms) fa=some (.lst<|zo rest):=by rw[qb<|AQ B.nkf];exact g
     generalize hL:qe (qe (qe _ p _) pb _) T _=LF;have sA:qh (qe L' ka<|.lst<|w5<|ks++ms) LF:=by rw[<-hL];exact((By av).trans<|By au).trans (By J)
     have ea:LF T=some (.lst [zf R,.ref pb]):=by rw[<-hL];exact q9
     have eb:LF pb=some (.lst<|zx [tp,sp]):=by rw[<-hL,qb be];exact q9
     clear hL;refine⟨ms,⟨T,pb,R,[tp,sp]⟩,tp,rest,_,_,_,_,rfl,?_,sA _ _ bf,Ag ..,a4.wt,by have:=a4.len;lia,An _⟩;have st:=bu.put (old:=[]) B (λz o n e=>(qb n).trans e) q9 bf na nb (AQ be) sA ea eb a4.ok a4.sr (by rw[CQ,Av];exact(A9 a4.nd DF).mpr λz=>by rw[a4.tm,Dc]);exact st.perm<|(B7 _ _).trans<|List.Perm.swap _ _ _
  case' inr=>
   refine⟨CJ L0 ka fa ks one two I x w rest.length,?_,?_⟩
   ·refine qc g<|qp g ⟨rest.map gR,gR u,120,120,j,by decide,?_,?_,?_,⟨gR u,?_,zL u⟩,λk d hk ek=>?_,?_⟩
    ·have dd:∀l:Xx,(∀t∈l,t∈I::rest)->Paired (jw L' 120) (zo l) (l.map gR):=λl=>by
      induction l with
      |nil=>intro _;exact .nil
      |cons t r ih=>
       intro h;have mt:=h t<|Ag ..;obtain⟨h1,h2⟩:=B.ht t mt;have:=B.rd mt;exact .cons (sL (n:=118) h1 h2 (by lia))<|ih λt ht=>h t<|Ae _ ht
     exact dd rest λt ht=>Ae _ ht
    ·have mt:u∈I::rest:=Ae _<|AF hj;obtain⟨h1,h2⟩:=B.ht u mt;have:=B.rd mt;exact sL (n:=118) h1 h2 (by omega)
    ·rw[Ah];exact(A1.mp hj).1
    ·rw[Au,hj];rfl
    ·rw[Au] at ek;obtain⟨v,ev,rfl⟩:=AI.mp ek;cases c:Da.eq (gR v) (gR u) with
     |false=>rfl
     |true=>
      have:=B.one (i:=k+1) (j:=j+1) (by simpa using ev) (by simpa using hj)<|TQ c;lia
    ·rw[nR];have B2:=(B.perm<|(xj hj).cons _).setF<|.lst<|zo<|rest.eraseIdx j;exact⟨[],u,q0,rest.eraseIdx j,_,_,_,_,rfl,(Av ks).symm▸B2,q9,ac,(Av ks).symm▸al,A2 _,C3 ..⟩
  all_goals
   rintro cB L' ⟨ms,u,q0,U,c9,i7,c11,c12,rfl,B',hf,ac,al,cP,d0⟩;have m1:I∈I::u::U:=by simp
   have m2:u∈I::u::U:=by simp
   obtain⟨a0,a5⟩:=B'.ht I m1;obtain⟨aL,bn⟩:=B'.ht u m2;have a7:=bK B' m1;have ca:=bK B' m2;rw[Aa] at a7 ca;refine qc a0 (qc aL ⟨_,_,a5,bn,fI (by rw[Ah,Ah];omega),λpp bg=>?_⟩);rw[<-kF];refine JW (E:=I.E++u.E) (l:=x) (r:=q0) (k:=14) q9 (by rw[Aa];omega) (λy' Q' h=>h) (λ_=>rfl) λpe bh=>?_;have bi:L' pe=none:=(By bg).none bh;generalize hL:qe (qe L' pp _) pe _=L4;have s4:qh L' L4:=by rw[<-hL];exact(By bg).trans (By bh)
   have cc:L4 pe=some (.lst<|zx<|kh I.E u.E x q0):=by rw[<-hL];exact q9
   have done:∀(R:Ru) T,L4 T=none->(R=.cu x q0 I.R u.R\/R=.cu q0 x u.R I.R)->Q .non (qe (qe L4 T<|.lst [zf R,.ref pe]) fa<|.lst<|zo U++[.ref T]):=λR T J hR=>by rw[<-gt U ⟨T,pe,R,kh I.E u.E x q0⟩];exact q _ (ks++ms) (U++[⟨T,pe,R,kh I.E u.E x q0⟩]) ⟨(TR B' hf hx ac (hw.more ms) al s4 bi cc J hR).setF _,q9⟩ (by rw[Aa];omega) (by simp) (by rw[Aa];simp;omega)
   refine⟨(by show(0:Int)<2;decide),?_⟩;show aK (decide<|one % 2=0) _ _;refine je (λc=>?_) λc=>?_
   ·refine qc (s4 _ _ hf)<|qc (s4 _ _ a0)<|qc (s4 _ _ aL) λT J=>?_;refine qp (By J _ _<|s4 _ _ hf) ⟨big _ (by rw[C];omega),?_⟩;exact jv<|done _ T J<|.inl rfl
   ·refine qc (s4 _ _ hf)<|qc (s4 _ _ aL)<|qc (s4 _ _ a0) λT J=>?_;refine qp (By J _ _<|s4 _ _ hf) ⟨big _ (by rw[C];omega),?_⟩;exact jv<|done _ T J<|.inr rfl
theorem oz.mono{ks:Xv}(h:oz L0 L ka fa ks fo)(s:qh L L'):oz L0 L' ka fa ks fo:=⟨h.b.mono s,s _ _ h.hf⟩
theorem bu.plus{I:ql}{ks:Xv}{t':Tr}{fs:LO}(B:bu L0 L ka fa ks rest)(j:L fa=some fs)(sA:qh (qe L ka<|.lst<|w5<|ks++ms) I)(ea:I t'.a=some (.lst [zf t'.R,.ref t'.b]))(eb:I t'.b=some (.lst<|zx t'.E))
 (J:qe L ka (.lst<|w5<|ks++ms) t'.a=none) (U:qe L ka (.lst<|w5<|ks++ms) t'.b=none) (g:t'.a≠t'.b) (ok:eU<|ks++ms) (l:SR (ks++ms) t'.R t'.E) (p:∀x,x∈qg t'.R↔ks.length<=x/\x<ks.length+ms.length) (nd:(qg t'.R).Nodup):
 bu L0 I ka fa (ks++ms) (rest++[t']):=by
 exact bu.put (old:=[]) B (λz o n e=>(qb n).trans e) q9 (by rw[qb<|AQ B.nkf];exact j) J U g sA ea eb ok l (by rw[CQ,Av];exact(A9 nd DF).mpr λz=>by rw[p,Dc])
theorem oz.link{ks:Xv}(F:oz L0 L ka fa ks fo){nm:Str}(j:fH nm)(b:Bool)(J:qe L ka (.lst<|w5<|ks++[.lf b nm,.lf (!b) nm]) pb=none)
 (U:qe (qe L ka<|.lst<|w5<|ks++[.lf b nm,.lf (!b) nm]) pb (.lst<|zx [ks.length,ks.length+1]) pa=none) {fs:List Y} (g:fs=zo fo++[.ref pa]):
 oz L0 (qe (qe (qe (qe L ka<|.lst<|w5<|ks++[.lf b nm,.lf (!b) nm]) pb<|.lst<|zx [ks.length,ks.length+1]) pa<|.lst [zf<|.link ks.length<|ks.length+1,.ref pb]) fa<|.lst fs) ka fa (ks++[.lf b nm,.lf (!b) nm]) (fo++[⟨pa,pb,.link ks.length<|ks.length+1,[ks.length,ks.length+1]⟩]):=by
 have I:pb≠pa:=xu q9 U;have M:=uV F.b.ok (t:=!b) j;rw[Bool.not_not] at M;refine⟨(bu.plus F.b F.hf ((By J).trans<|By U) q9 (by rw[qb I];exact q9) ((By J).none U) J (AQ I) M.ok M.sr M.tm M.nd).setF _,?_⟩;rw[q9,g];unfold zo;rw[AG];rfl
theorem bu.dats{ks:Xv}(h:bu L0 L ka fa ks fo)(o:ks.length<=120):Paired (jw L 124) (zo fo) (fo.map gR):=by
 have J:∀l:Xx,(∀t∈l,t∈fo)->Paired (jw L 124) (zo l) (l.map gR):=λl=>by
  induction l with
  |nil=>intro _;exact .nil
  |cons t r U=>
   intro k;have mt:=k t<|Ag ..;obtain⟨g,j⟩:=h.ht t mt;have:=h.rd mt;exact .cons (sL (n:=122) g j (by lia))<|U λt I=>k t<|Ae _ I
 exact J fo λt I=>I
theorem yo(fo:Xx):Da.eqs (fo.map gR) []=decide (fo=[]):=by cases fo<;>rfl
def TW(L0:ql)(ka fa:Addr)(s:Int)(room:Nat)(τ:jk)(L:ql):Prop:=∃c0 c5 c6 c7 c8 c9 i7 ks fo,τ=[c0,some<|.int s,some<|.int (room:Int),some<|.ref ka,some<|.ref fa,c5,c6,c7,c8,c9,i7]/\oz L0 L ka fa ks fo/\ks.length+fo.length<=room
theorem TW.of{s:Int}{room:Nat}{ks:Xv}{c0 c5 c6 c7 c8 c9 i7:Option Y}(F:oz L0 L ka fa ks fo)(h:ks.length+fo.length<=room):TW L0 ka fa s room [c0,some<|.int s,some<|.int (room:Int),some<|.ref ka,some<|.ref fa,c5,c6,c7,c8,c9,i7] L:=⟨_,_,_,_,_,_,_,ks,fo,rfl,F,h⟩
noncomputable def yN(g:zd)(I:zd)(J:zd)(U:zd)(l:zd):RD "_law_tree" fN 171 ["_law_cells","_law_seed","_law_room","_law_knots","_law_forest","_law_k","_law_cell","_law_one","_law_two","_law_deed","_law_at"] (λV=>Jy V g/\Jz V I/\JB V J/\JA V U/\JC V l):=⟨_,λV B c _ _ _ _ _ _ _ o hN p=>(qa (S_ 3 hN<|zj xw)<|qa (S_ 4 hN<|zj xw)<|qa (vi u2 rfl (dM rfl B.bg<|qv 0) (aQ (n:=2) rfl<|zg (G_ 5 hN)<|zg (G_ 6 hN) kg)<|qa (wR (i:=7) (j:=8) rfl hN rfl rfl (by decide) rfl rfl (vv (C_ c.1 o<|aW (qv 6) (qv 5) qf)<|C_ c.1 o<|aW (qv 6) (qv 5) qf) rfl)<|qa (zm (x5 Fo (qm jf (qm jf (L_ B.ba<|qv 3)<|L_ B.ba<|qv 4) qf) (qv 2)<|x6 _) (qd uw) qz)<|qa (S_ 9 hN<|qm x8 (qv 7) qf)<|qa (S_ 7 hN<|qm wf (qv 7) qf)<|qd<|zm (wu<|ao (x5 nv (qv 9) qf<|x6 _)<|bM<|E_ p (qv 4)<|zj xw) (qa (za<|z7 (qv 3)<|jo<|zh<|vv j5<|C_ c.2.1 o<|vv (qv 1)<|qm x8 (qv 8) qf)<|qa (za<|z7 (qv 3)<|jo<|zh<|vv j5<|C_ c.2.1 o<|vv (qv 1)<|qm x8 (qv 8) qf)<|wr (zm (E_ p (qm x8 (qv 7) qf) qf) (qd<|za<|z7 (qv 3)<|jo<|cM (qv 3)<|jo<|qm cO (L_ B.ba<|qv 3) qf) qz)<|qa (S_ 10 hN<|qm cO (L_ B.ba<|qv 3) qf)<|qd<|za<|z7 (qv 4)<|jo<|zj<|vv (zh<|aW j5 (qv 10)<|qm jf (qv 10) qf)<|zj<|vv (qv 10)<|qm jf (qv 10) qf)<|qd<|zm (x5 nv (qv 9) qf<|x6 _) (qd<|za<|C_ c.2.2.1 o<|v5 (qv 3)<|aW (I_ (qv 4)<|qm x8 (qv 8)<|L_ B.ba<|qv 4) (qv 7)<|qm wf (qv 8) qf)<|qd<|zm (wu<|dQ (x5 nv (qv 9) qf<|x6 _)<|ax<|x5 Fo (L_ B.ba<|qv 4) qf<|x6 _) (qd<|za<|C_ c.2.2.2.1 o<|v5 (qv 3)<|aW (qv 4) (qv 7)<|qv 8)<|qd<|za<|C_ c.2.2.2.2 o<|v5 (qv 3)<|aW (qv 4) (qv 7)<|qv 8)<|wr (zm (E_ p (qv 4)<|zj xw) (qa (za<|z7 (qv 3)<|jo<|zh<|vv j5<|C_ c.2.1 o<|vv (qv 1) qf)<|qa (za<|z7 (qv 3)<|jo<|zh<|vv j5<|C_ c.2.1 o<|vv (qv 1) qf)<|qd<|za<|z7 (qv 4)<|jo<|zj<|vv (zh<|aW j5 qf qf)<|zj<|vv qf qf) qz)<|qa (fZ u2 (x5 Fo (L_ B.ba<|qv 4) qf<|x6 _)<|qd<|za<|C_ c.2.2.2.1 o<|v5 (qv 3)<|aW (qv 4) (qm jf (qm wf (qv 1) qf)<|L_ B.ba<|qv 4)<|qm wf (qv 1) qf)<|qd<|qr<|zh<|vv (qv 3)<|I_ (J_ 4) qf)⟩
noncomputable def TX(g:zd)(I:zd)(J:zd)(U:zd)(j:zd):vn:=(yN g I J U j).1
inductive iz(ys:List Y)(L:ql)(Q:YK):Prop
 |mk:∀cy,∀ns:Xe,∀s:Int,∀room:Nat,(ys=[.ref cy,.int s,.int (room:Int)])->(L cy=some (.lst<|ns.map Y.int))->(ns.length<=1000)->(room<=96)->(∀ka ks R E,L ka=none->eU ks->SR ks R E->(qg R).Perm (List.range ks.length)->ks.length<=max room 2->Q (.tup [.ref ka,zf R]) (qe L ka<|.lst<|w5 ks))->iz ys L Q
theorem TY:∀ys L Q,iz ys L Q->jj (TX oY hX iV lu li) 11 ys L Q:=by
 rintro ys L Q ⟨cy,ns,s,room,rfl,ab,bb,aL,q⟩;have big:=a_;have U:∀fo:Xx,(zo fo).length=fo.length:=λfo=>Ah ..;have l:∀I:Xv,(w5 I).length=I.length:=λI=>Ah ..;intro J a7 g ac;have nkf:J≠g:=xu q9 ac;have au:L g=none:=(By a7).none ac;have F0:oz L (qe (qe L J<|.lst []) g<|.lst []) J g [] []:=by
  refine⟨⟨by rw[qb nkf];exact q9,λt ht=>by simp at ht,λt ht=>by simp at ht,by simp,by simp,by simp[nkf],λp k e=>by simp at e,(By a7).trans<|By ac,λx hx=>?_⟩,q9⟩;rcases Am.mp hx with rfl|hx
  ·exact a7
  ·rw[Aj.mp hx];exact au
 generalize qe (qe L J<|.lst []) g (.lst [])=L1 at F0;refine w6 (F0.b.sub _ _ ab) λkeep kp=>aZ ⟨λ_ C L'=>TW L J g s room C L',?_,?_,?_,?_⟩
 ·exact TW.of F0<|A2 _
 ·rintro i C L' ⟨c0,c5,c6,c7,c8,c9,i7,I,fo,rfl,F,hb⟩;exact kp L' (by rw[F.b.sub _ _ ab,F0.b.sub _ _ ab])
 ·rintro i y C L' ey ⟨c0,c5,c6,c7,c8,c9,i7,I,fo,rfl,F,hb⟩;obtain⟨z,ez,rfl⟩:=fJ ey;obtain⟨cell,ec,rfl⟩:∃cell:Int,ns[i]?=some cell/\z=Y.int cell:=by rw[Au] at ez;obtain⟨z,e1,e2⟩:=AI.mp ez;exact⟨z,e1,e2.symm⟩
  have hi:=(A1.mp ec).1;refine⟨cell,((i:Nat):Int),48271,rfl,by exact A8 _,by omega,by decide,by decide,λone h1 bd=>⟨cell,((i:Nat):Int),69621,rfl,by exact A8 _,by omega,by decide,by decide,λtwo h2 be=>?_⟩⟩;refine qc F.b.hk<|qc F.hf ?_;refine je (λc=>?_) λc=>?_
  ·exact⟨_,EC _,TW.of F hb⟩
  have c:¬((((w5 I).length:Nat):Int)+(((zo fo).length:Nat):Int)+12 > (room:Int)):=c;rw[l,U] at c;refine⟨(by decide:(0:Int)<9),⟨by decide,by decide⟩,?_⟩;refine je (λc3=>?_) λc3=>?_
  case' refine_1=>
   obtain⟨L2,av⟩:∃L2,L2=L':=⟨_,rfl⟩;rw[<-av];have T:oz L L2 J g I fo:=by rw[av];exact F
  case' refine_2=>
   intro p hp;refine cZ (by decide) (By hp _ _ F.hf) q9 ((F.b.mono<|By hp).dats (by lia)) (.nil:Paired (jw _ 0) _ []) ?_;show aK (Da.eqs (fo.map gR) []) _ _;rw[yo];have T:oz L (qe L' p<|.lst []) J g I fo:=F.mono<|By hp;generalize qe L' p (.lst [])=L2 at T;refine je (λc0=>?_) λc0=>?_
  case' refine_2.refine_2=>
   have ba:0<fo.length:=by cases fo with|nil=>exact absurd rfl c0|cons _ _=>simp
   have F:=T;refine je (λc6=>?_) λc6=>?_
   ·obtain⟨j,t,ej,lj,et⟩:=rZ ba two;refine qc F.hf ⟨(by show(0:Int)<((zo fo).length:Int);rw[U];lia),qc F.hf (qj (v:=.ref t.a) (by show cI (zo fo) (two % ((zo fo).length:Int))=_;rw[U,ej];exact jt (by unfold zo;rw[Au,et];rfl)) ?_)⟩;obtain⟨pre,post,ep⟩:=BL<|AF et;rw[ep] at F hb;refine⟨⟨by decide,by decide⟩,L,J,g,I,pre,post,t,one / 9,two / 64,rfl,F,by lia,λL3 a0 a1 F3 h1 h2 _=>?_⟩;refine⟨_,EC _,?_⟩;exact TW.of F3 (by rw[ep] at c;lia)
   refine je (λc8=>?_) λc8=>?_
   ·refine qc F.hf ?_;refine je (λc1=>?_) λc1=>?_
    ·have c1:(((zo fo).length:Nat):Int) > 1:=c1;rw[U] at c1;refine⟨L,J,g,I,fo,one / 9,two,rfl,F,by lia,by lia,by lia,λL3 a0 a1 F3 h1 h2 _=>?_⟩;refine⟨_,EC _,?_⟩;exact TW.of F3 (by lia)
    ·refine⟨L,J,g,I,fo,one / 9,two,rfl,F,by assumption,by lia,by lia,λL3 a0 a1 F3 h1 h2 h3=>?_⟩;refine⟨_,EC _,?_⟩;exact TW.of F3 (by lia)
   ·refine⟨L,J,g,I,fo,one / 9,two,rfl,F,by lia,by lia,by lia,λL3 a0 a1 F3 h1 h2 h3=>?_⟩;refine⟨_,EC _,?_⟩;exact TW.of F3 (by lia)
  all_goals
   obtain⟨nm,a2⟩:∃nm,nm=s_ (a9 s<|two % 3):=⟨_,rfl⟩;have al:fH nm:=by rw[a2];exact tO _ _
   refine qc T.b.hk ⟨(by decide:(0:Int)<3),s,two % 3,rfl,qp T.b.hk ⟨big _ (by rw[l];omega),?_⟩⟩;refine qc q9 ⟨(by decide:(0:Int)<3),s,two % 3,rfl,qp q9 ⟨big _ (by rw[Aa,l];simp;omega),?_⟩⟩;rw[<-a2,zc];have e1:(w5 I++[.tup [.str "plain",.str nm]])++[.tup [.str "turned",.str nm]]=w5 (I++[.lf false nm,.lf true nm]):=by unfold w5;rw[AG,AA];rfl
   rw[e1];refine⟨λC L3=>∃(b:Bool) (d0 d10:Option Y),C=[d0,some<|.int s,some<|.int (room:Int),some<|.ref J,some<|.ref g,some<|.int ((i:Nat):Int),some<|.int cell,some<|.int<|one / 9,some<|.int two,some<|.int<|one % 9,d10]/\L3=qe L2 J (.lst<|w5<|I++[.lf b nm,.lf (!b) nm]),?_,?_⟩
   ·refine⟨(by decide:(0:Int)<2),?_⟩;show aK (decide<|one / 9 % 2=1) _ _;refine je (λc2=>?_) λc2=>?_
    ·obtain⟨W,eW⟩:∃W,W=w5 (I++[Kn.lf false nm,.lf true nm]):=⟨_,rfl⟩;have l2:W.length=I.length+2:=by rw[eW,l,Aa];rfl
     have t2:(((W.length:Nat):Int)-2).toNat=I.length:=by rw[l2];omega
     have w2:W[I.length]?=some (vI<|.lf false nm):=by rw[eW];unfold w5;rw[Au,fO];rfl
     have e3:W.eraseIdx I.length++[vI<|.lf false nm]=w5 (I++[.lf true nm,.lf false nm]):=by rw[eW];unfold w5;rw[AG,List.eraseIdx_append_of_length_le (by simp),Ah,Dq,AG,AA];rfl
     rw[<-eW];refine qc q9<|qc q9<|qc q9<|qp q9 ⟨?_,?_,qj (v:=vI<|.lf false nm) (by rw[<-w2,<-t2]) ?_⟩
     ·show(0:Int)<=((W.length:Nat):Int)-2;omega
     ·show((W.length:Nat):Int)-2<_;omega
     ·rw[zc,t2];refine qp q9 ⟨big _<|AL (C3 ..) (by omega),true,_,_,rfl,?_⟩;rw[zc,e3];rfl
    ·exact⟨false,_,_,rfl,rfl⟩
   ·rintro bf L3 ⟨b,d0,d10,rfl,rfl⟩;have l2:(w5<|I++[Kn.lf b nm,.lf (!b) nm]).length=I.length+2:=by rw[l,Aa];rfl
    have nn:(((w5<|I++[Kn.lf b nm,.lf (!b) nm]).length:Nat):Int)-2=((I.length:Nat):Int):=by rw[l2];omega
    have a3:qe L2 J (.lst<|w5<|I++[.lf b nm,.lf (!b) nm]) g=some (.lst<|zo fo):=by rw[qb<|AQ nkf];exact T.hf
    have en:∀z:Int,z=((I.length:Nat):Int)->zx [I.length,I.length+1]=[.int z,.int<|z+1]:=λz e=>by rw[e];rfl
    have er:∀z:Int,z=((I.length:Nat):Int)->zf (.link I.length<|I.length+1)=.tup [.str "link",.int z,.int<|z+1]:=λz e=>by rw[e];rfl
    have en:=en _ nn;have er:=er _ nn;refine qc q9<|qc a3 λpb a4 pa a5=>?_;have H:=T.link al b (pb:=pb) (pa:=pa) a4 (by rw[en];exact a5) rfl;refine qp (((By a4).trans<|By a5) _ _ a3) ⟨big _ (by rw[U];omega),?_⟩;rw[en,er] at H;refine⟨_,EC _,?_⟩;exact TW.of H (by rw[Aa,Aa];simp;omega)
 ·rintro C L' ⟨c0,c5,c6,c7,c8,c9,i7,I,fo,rfl,F,hb⟩;refine⟨λC L3=>∃c0 c5 c6 c7 c8 c9 i7 I fo,C=[c0,some<|.int s,some<|.int (room:Int),some<|.ref J,some<|.ref g,c5,c6,c7,c8,c9,i7]/\oz L L3 J g I fo/\1<=fo.length/\I.length+fo.length<=max room 3,?_,?_⟩
  ·intro p hp;refine cZ (by decide) (By hp _ _ F.hf) q9 ((F.b.mono<|By hp).dats (by lia)) (.nil:Paired (jw _ 0) _ []) ?_;show aK (Da.eqs (fo.map gR) []) _ _;rw[yo];have T:oz L (qe L' p<|.lst []) J g I fo:=F.mono<|By hp;generalize qe L' p (.lst [])=L2 at T;refine je (λc0=>?_) λc0=>?_
   ·subst c0;have k0:I=[]:=by cases I with|nil=>rfl|cons k r=>exact absurd ((F.b.tm 0).mpr (by simp)) (by simp)
    subst k0;obtain⟨nm,a2⟩:∃nm,nm=s_ (a9 s 0):=⟨_,rfl⟩;have al:fH nm:=by rw[a2];exact tO _ _
    refine qc T.b.hk ⟨s,0,rfl,qp T.b.hk ⟨big _ (by decide),?_⟩⟩;refine qc q9 ⟨s,0,rfl,qp q9 ⟨big _ (by show 1<=20000;decide),?_⟩⟩;rw[<-a2,zc];have a3:∀o,qe L2 J o g=some (.lst<|zo []):=λo=>by rw[qb<|AQ nkf];exact T.hf
    refine qc (a3 _) λpb a4 pa a5=>?_;have H:=T.link al true (pb:=pb) (pa:=pa) a4 a5 rfl;refine qp (((By a4).trans<|By a5) _ _<|a3 _) ⟨big _ (by show 0<=20000;decide),?_⟩;exact⟨_,_,_,_,_,_,_,_,_,rfl,H,by simp,by simp;lia⟩
   ·exact⟨_,_,_,_,_,_,_,I,fo,rfl,T,(by cases fo with|nil=>exact absurd rfl c0|cons _ _=>simp),by lia⟩
  ·rintro C L' ⟨c0,c5,c6,c7,c8,c9,i7,I,fo,rfl,F,h1,hb⟩;refine⟨λm C L3=>∃c0 c5 c6 c7 c8 c9 i7 I fo,C=[c0,some<|.int s,some<|.int (room:Int),some<|.ref J,some<|.ref g,c5,c6,c7,c8,c9,i7]/\oz L L3 J g I fo/\1<=fo.length/\fo.length=m/\I.length+fo.length<=max room 3,⟨_,_,_,_,_,_,_,_,_,_,rfl,F,h1,rfl,hb⟩,?_⟩;rintro m C L' ⟨c0,c5,c6,c7,c8,c9,i7,I,fo,rfl,F,h1,hm,hb⟩;refine qc F.hf ?_;refine je (λc1=>?_) λc1=>?_
   ·have c1:(((zo fo).length:Nat):Int) > 1:=c1;rw[U] at c1;refine⟨λC L3=>∃c0 c5 c6 c7 c8 c9 i7 I fo,C=[c0,some<|.int s,some<|.int (room:Int),some<|.ref J,some<|.ref g,c5,c6,c7,c8,c9,i7]/\oz L L3 J g I fo/\1<=fo.length/\fo.length+1=m/\I.length+fo.length<=max room 3,?_,?_⟩
    ·rintro C L3 ⟨d0,d5,d6,d7,d8,d9,d10,a0,a1,rfl,F3,g1,g2,g3⟩;exact⟨m-1,by lia,_,_,_,_,_,_,_,_,_,rfl,F3,g1,by lia,g3⟩
    ·refine⟨⟨by decide,by decide⟩,qc F.hf ⟨⟨by decide,by decide⟩,L,J,g,I,fo,_,_,rfl,F,by lia,by lia,by lia,λL3 a0 a1 F3 g1 g2 _=>?_⟩⟩;exact⟨_,EC _,_,_,_,_,_,_,_,a0,a1,rfl,F3,by lia,by lia,by lia⟩
   ·have c1:¬((((zo fo).length:Nat):Int) > 1):=c1;rw[U] at c1;obtain⟨t,rfl⟩:∃t,fo=[t]:=by
     match fo,h1,c1 with
     |[t],_,_=>exact⟨t,rfl⟩
     |t::u::r,_,c=>exact absurd (show(((t::u::r).length:Nat):Int) > 1 by simp;lia) c
    have ta:=(F.b.ht t<|Ag ..).1;refine qc F.hf<|qc ta ?_;have tp:(qg t.R).Perm (List.range I.length):=by have nd:=F.b.nd;have tm:=F.b.tm;simp at nd tm;exact(A9 nd BG).mpr λx=>by rw[tm,AZ]
    exact dt (qh.put F.b.sub F.b.hk) (q J I t.R t.E a7 F.b.ok (F.b.sr t<|Ag ..) tp (by simp at hb;lia))
end L3
namespace TS
open PySem PyProof.Rows PySem.W PySem.Calls
section
variable {prog:Xl}{w:Xm}
abbrev keyBody(kx px:Str)(p1 p2 p3 p4 p5:Pos)(n:Nat):Expr:=.Tuple [.Subscript (.Name kx p1) (.Name px p2) p3,.Name px p4] n p5
structure oT(h:Xn)(f:Addr)(kx px:Str)(scope:Scope)(kvs:W8):Prop where
 ex:∃(name eH:Str) (params:Arguments) (p1 p2 p3 p4 p5:Pos) (n:Nat) (pm ctv:Xj) (c' cell k:Addr),h.get? f=some (kla_obj name eH params (keyBody kx px p1 p2 p3 p4 p5 n) scope [(kx,cell)] pm c' ctv)/\h.CodeRec (.ref c') eH/\
  h.IsCell cell (some<|.ref k)/\h.IsList k kvs.toArray/\∀v:Xj,bindArgs (kla_fn name eH params (keyBody kx px p1 p2 p3 p4 p5 n) scope [(kx,cell)] pm (.ref c') ctv) ⟨[v],[]⟩=pure [(px,v)]
 lim:h.NoLimit
structure KeySc(scope:Scope)(kx px:Str):Prop where
 kind:scope.kind=.function
 co:scope.isCoroutine=false
 gen:scope.isGenerator=false
 nc:∀x∈scope.names,x.2≠.cell
 lp:scope.names.lookup px=some .local
 lk:scope.names.lookup kx=some .free
 d1:(kx==("__debug__" : Str))=false
 d2:(px==("__debug__" : Str))=false
 d3:(kx==("__classdict__" : Str))=false
theorem oT.keeps{kvs:W8}(k:oT h f kx px scope kvs)(J:∀b o,h.get? b=some o->h'.get? b=some o):oT h' f kx px scope kvs:=by
 obtain⟨name,U,I,p,r,t,C,T,n,pm,l,c',cell,kk,g1,g2,g3,g4,g5⟩:=k.ex;refine⟨⟨name,U,I,p,r,t,C,T,n,pm,l,c',cell,kk,J _ _ g1,?_,?_,?_,g5⟩,k.lim.keeps J⟩
 ·obtain⟨c,oc,vs,tq,g,j,e3⟩:=g2;exact⟨c,oc,vs,tq,g,J _ _ j,e3⟩
 ·obtain⟨o,g,j⟩:=g3;exact⟨o,J _ _ g,j⟩
 ·obtain⟨o,g,j⟩:=g4;exact⟨o,J _ _ g,j⟩
theorem TZ{kvs:W8}{u t:Tok}{r:Int}(K:oT s.heap f kx px scope kvs)(S:KeySc scope kx px)(U:A.depth<recursionLimit)(hi:kvs[i]?=some (.int r t))(a0:i<2 ^ 40)
 (h:∀h' tk a,(∀b o,s.heap.get? b=some o->h'.get? b=some o)->h'.get? a=some { cls:=.type "tuple",data:=.seq #[.int r t,.int (i:Int) u] }->Q (.ref a) { s with heap:=h',toks:=tk }):
 wpAny (model prog w) A (call (.ref f) [.int (i:Int) u]) Q E s:=by
 obtain⟨name,I,l,p1,p2,p3,p4,p5,n,pm,a1,p,cell,kk,g1,g2,g3,g4,g5⟩:=K.ex;refine wpAny_call<|kla_callFunE U g1 rfl S.co S.gen rfl g2 ?_;rw[g5];refine Ap (wpAny_newFunctionEnv S.nc (λx hx=>by rw[Aj.mp hx];exact S.lp) (λJ g j=>⟨K.lim.fresh _ j,?_⟩) S.kind);have C:∀b o,s.heap.get? b=some o->J.get? b=some o:=λb o e=>j.extBut b o (A6<|u1 e)<|t7 _ e;show codeAny _ _ (.expr _<|envX I scope s.heap.objs.size f (.ref p) [(kx,cell)]) _ _;refine kla_codeExpr ?_;have look:(([(px,Value.int (i:Int) u)]:List<|Str×Xj).reverse.lookup px)=some (.int (i:Int) u):=by simp
 have kf:(envX I scope s.heap.objs.size f (.ref p) [(kx,cell)]).kindOf kx=some .free:=S.lk;have kp:(envX I scope s.heap.objs.size f (.ref p) [(kx,cell)]).kindOf px=some .local:=S.lp;have cl:(envX I scope s.heap.objs.size f (.ref p) [(kx,cell)]).cells.lookup kx=some cell:=by show([(kx,cell)]:List<|Str×Addr).lookup kx=_;simp
 have ic:J.IsCell cell (some<|.ref kk):=by obtain⟨o,T,e2⟩:=g3;exact⟨o,C _ _ T,e2⟩
 have il:J.IsList kk kvs.toArray:=by obtain⟨o,T,e2⟩:=g4;exact⟨o,C _ _ T,e2⟩
 refine wpAny_Tuple_spliced<|xb<|Subscript_<|wpAny_Name (wpAny_loadName_free S.kind kf cl ic (wpAny_Name (wpAny_loadName_local S.kind kp g look ?_) S.d2) S.d3) S.d1;refine item_listL il (by exact A8 _) (by omega) (by rw[show((i:Nat):Int).toNat=i from rfl];exact hi) ?_;refine xb<|wpAny_Name (wpAny_loadName_local S.kind kp g look ?_) S.d2;refine xB ⟨by show 2<=sizeLine;decide,?_⟩;exact h _ _ _ (λb o e=>t7 _<|C b o e)<|vb _ rfl
end
def itV(x:Nat×Tok):Xj:=.int (x.1:Int) x.2
def GB(h:Xn)(kS:Addr)(rk:Nat->Int)(k:Xj)(x:Nat×Tok):Prop:=∃a t u,k=.ref a/\a≠kS/\h.get? a=some { cls:=.type "tuple",data:=.seq #[.int (rk x.1) t,.int (x.1:Int) u] }
def lT(h:Xn)(kS:Addr)(rk:Nat->Int):W8->List (Nat×Tok)->Prop
 |[],[]=>True
 |k::ks,x::xs=>GB h kS rk k x/\lT h kS rk ks xs
 |_,_=>False
theorem lT.len{h:Xn}{kS:Addr}{rk:Nat->Int}:∀{ks:W8} {xs:List<|Nat×Tok},lT h kS rk ks xs->ks.length=xs.length
 |[],[],_=>rfl
 |_::_,_::_,ψ=>by obtain⟨_,b⟩:=ψ;rw[Az,Az,lT.len b]
 |[],_::_,z=>z.elim
 |_::_,[],z=>z.elim
theorem lT.mem{h:Xn}{kS:Addr}{rk:Nat->Int}:∀{ks:W8} {xs:List<|Nat×Tok},lT h kS rk ks xs->∀t∈ks.zip xs,GB h kS rk t.1 t.2
 |[],[],_,t,I=>by cases I
 |_::_,_::_,ψ,t,I=>by
  obtain⟨a,b⟩:=ψ
  rw[Dt] at I;rcases Am.mp I with rfl|I
  ·exact a
  ·exact lT.mem b t I
 |[],_::_,z,_,_=>z.elim
 |_::_,[],z,_,_=>z.elim
section
variable {prog:Xl}{w:Xm}
theorem JX{g:Xn}{f:Addr}{kx px:Str}{scope:Scope}{kvs:W8}{kS:Addr}{rk:Nat->Int}{body:Xj->PUnit->Sem (ForInStep PUnit)}(K:oT g f kx px scope kvs)(S:KeySc scope kx px)(I:A.depth<recursionLimit)(hn:g.get? kS=none)
 (hb:∀(x:Xj) (s:Xk) (Q':ForInStep PUnit->Xk->Prop),wpAny (model prog w) A (call (.ref f) [x]) (λk s'=>wpAny (model prog w) A (Builtin.List.listUpdate (.ref kS) (·.push k)) (λ_ T=>Q' (.yield ⟨⟩) T) E s') (λ_ _=>False) s->wpAny (model prog w) A (body x ⟨⟩) Q' E s):
 ∀(ps:List<|Nat×Tok) (ks:W8) (e:Nat) (s:Xk) (Q:PUnit->Xk->Prop),(∀b o,g.get? b=some o->s.heap.get? b=some o)->s.heap.get? kS=some (seqObj "list" ks.toArray e)->ks.length+ps.length<=100000->
  (∀x∈ps,x.1<2 ^ 40/\∃t,kvs[x.1]?=some (.int (rk x.1) t))->
  (∀h' tk j e',(∀b o,b≠kS->s.heap.get? b=some o->h'.get? b=some o)->h'.get? kS=some (seqObj "list" (ks++j).toArray e')->lT h' kS rk j ps->Q ⟨⟩ { s with heap:=h',toks:=tk })->
  wpAny (model prog w) A (forIn (ps.map itV) PUnit.unit body) Q E s
 |[],ks,e,s,Q,hg,hk,hz,hp,q=>by rw[C7,List.forIn_nil];exact Ap (q s.heap s.toks [] e (λ_ _ _ h=>h) (by rw[Av];exact hk) trivial)
 |x::r,ks,e,s,Q,hg,hk,hz,hp,q=>by
  rw[AO,Ee];rw[Az] at hz;obtain⟨a0,t,ht⟩:=hp x<|Ag ..;have big:(100000:Nat)+1<=sizeLine:=by rw[sizeLine_eq];exact C0 _ _
  refine Ad<|hb (itV x) s _<|TZ (K.keeps hg) S I ht a0 λl p a k1 ha=>?_;have J:l.get? kS=some (seqObj "list" ks.toArray e):=k1 _ _ hk;have s1:=vc l kS (Obj.mapSeq (·.push (.ref a)));have ea:ks.toArray.push (.ref a)=List.toArray (ks++[.ref a]):=by simp
  obtain⟨c2,a1⟩:∃c2,(l.update kS (Obj.mapSeq (·.push (.ref a)))).get? kS=some (seqObj "list" (List.toArray<|ks++[.ref a]) c2):=⟨_,by rw[<-ea];exact get?_update_seq J (·.push (.ref a))⟩;have C:a≠kS:=λz=>by
   rw[z,J] at ha;have:=BS (λo:Option Obj=>o.map (·.cls)) ha;have z2:some (Value.type "list")=some (Value.type "tuple"):=this;injection z2 with z3
   injection z3 with z4
   exact absurd z4 (by decide)
  refine listUpdate_at (s:={ s with heap:=l,toks:=p }) J rfl ?_ (by rw[Aq];lia) (AL (DV<|Bu ..) (by rw[Aq];lia));refine JX K S I hn hb r (ks++[.ref a]) c2 { s with heap:=l.update kS (Obj.mapSeq (·.push (.ref a))),toks:=p } Q (λb o e=>?_) a1 (by rw[Aa,Bc];lia) (λy hy=>hp y<|Ae _ hy) λh' tk j e' kk a2 vs=>?_
  ·have nb:b≠kS:=λz=>by rw[z,hn] at e;cases e
   exact(s1.2 b nb).trans (k1 b o<|hg b o e)
  ·have U:∀b o,b≠kS->l.get? b=some o->h'.get? b=some o:=λb o nb e=>kk b o nb<|(s1.2 b nb).trans e;refine q h' tk (.ref a::j) e' (λb o nb e=>U b o nb<|k1 b o e) (by rw[a2,AA];rfl) ⟨⟨a,t,x.2,rfl,C,U a _ C ha⟩,vs⟩
end
section
variable {prog:Xl}{w:Xm}
theorem T0{g:Xn}{kvs:W8}{kS a:Addr}{rk:Nat->Int}{ps:List<|Nat×Tok}{e1 e0:Nat}{P:PySem.Fin->Xk->Prop}(K:oT g f kx px scope kvs)(S:KeySc scope kx px)(I:A.depth<recursionLimit)(hn:g.get? kS=none)
 (hg:∀b o,g.get? b=some o->s.heap.get? b=some o) (hk:s.heap.get? kS=some (seqObj "list" #[] e0)) (ha:s.heap.get? a=some (seqObj "list" #[] e1)) (l:kS≠a) (hz:ps.length<=127)
 (hp:∀x∈ps,x.1<2 ^ 40/\∃t,kvs[x.1]?=some (.int (rk x.1) t)) (hB:∀x∈ps,((x.1:Nat):Int)<B) (nd:(ps.map (·.1)).Nodup)
 (h:∀h' tk (qs:List<|Nat×Tok) c,(∀b o,b≠kS->b≠a->s.heap.get? b=some o->h'.get? b=some o)->h'.get? a=some (seqObj "list" (qs.map itV).toArray c)->qs.Perm ps->(qs.Pairwise λx y=>rk x.1*B+(x.1:Int)<=rk y.1*B+(y.1:Int))->P (.done<|.ret .none) { s with heap:=h',toks:=tk }):
 wpAny (model prog w) A (ksk_rest a (.ref f) false (ps.map itV).toArray e1<|.ref kS) P E s:=by
 have big:(100000:Nat)+1<=sizeLine:=by rw[sizeLine_eq];exact C0 _ _
 unfold ksk_rest;refine Ad<|BZ ?_;rw[List.forIn_toArray];refine Ad (JX (rk:=rk) K S I hn (λx s' Q' hx=>?_) ps [] e0 s _ hg hk (by simp;lia) hp λh' tk ks e' keep J kv=>?_)
 ·refine Ad (wpAny_attempt<|A4 hx (λk a4 hk=>?_) λ_ _ hF=>hF.elim)
  try dsimp only
  exact Ad<|A4 hk (λ_ s3 q=>Ap q) λ_ _ e=>e
 ·try dsimp only
  rw[CZ] at J;refine Ad<|listItems_at (s:={ s with heap:=h',toks:=tk }) J rfl ?_;have a0:h'.get? a=some (seqObj "list" #[] e1):=keep _ _ (AQ l) ha;have len:ks.length=ps.length:=kv.len;obtain⟨T,C⟩:∃T,T=ks.zip ps:=⟨_,rfl⟩;have kT:∀t∈T,GB h' kS rk t.1 t.2:=λt p=>kv.mem t<|C▸p;have e2:T.map (·.2)=ps:=by rw[C];exact List.map_snd_zip (by lia)
  have ez:ks.zip (ps.map itV)=T.map λt=>(t.1,itV t.2):=by rw[C,List.zip_map_right];rfl
  have mp:∀t∈T,t.2∈ps:=λt p=>by rw[<-e2];exact Co p
  have nT:∀t∈T,num h' B (t.1,itV t.2)=rk t.2.1*B+(t.2.1:Int):=λt p=>by obtain⟨b,tt,u,r,x2,x3⟩:=kT t p;exact num_of r x3 rfl
  have a5:∀x∈ps,(0:Int)<=((x.1:Nat):Int):=λ_ _=>by exact A8 _
  refine Sg (s:={ s with heap:=h',toks:=tk }) (vs:=ps.map itV) (ks:=ks) (B:=B) J a0 l (by rw[Ah];exact len) (by rw[Ah];exact hz) (λv hv=>?_) λh2 a1 xs c U hc pm pw=>?_
  ·obtain⟨j,hj⟩:=Di hv;have a2:j<ps.length:=by rw[<-len];exact(A1.mp hj).1
   have hm:(v,ps[j])∈T:=by rw[C];refine List.mem_iff_getElem?.mpr ⟨j,?_⟩;rw[List.getElem?_zip_eq_some];exact⟨hj,Ao a2⟩
   obtain⟨b,tt,u,r,x2,x3⟩:=kT _ hm;have r:v=.ref b:=r;exact⟨b,_,_,_,_,tt,u,r,x3,rfl,rfl,by exact A8 _,hB _<|mp _ hm⟩
  ·rw[ez] at pm;obtain⟨T',pT,a3⟩:=permLift _ pm rfl;subst a3;have mT:∀t,t∈T'->t∈T:=λt=>pT.mem_iff.mp;refine h h2 a1 (T'.map (·.2)) c (λb o n1 n2 e=>?_) ?_ ?_ ?_
   ·rw[U b n1 n2];exact keep b o n1 e
   ·rw[hc,B4,B4];rfl
   ·rw[<-e2];exact pT.map _
   ·refine BV.mpr<|DL (λ{x y} hx hy z=>?_)<|BV.mp pw;rw[nT x<|mT x hx,nT y<|mT y hy] at z;exact z
theorem w_sortedK{kvs:W8}{rk:Nat->Int}{ps:List<|Nat×Tok}(K:oT s.heap f kx px scope kvs)(S:KeySc scope kx px)(j:A.in1.in1.depth<recursionLimit)
 (hl:s.heap.IsList l (ps.map itV).toArray) (hz:ps.length<=127)
 (hp:∀x∈ps,x.1<2 ^ 40/\∃t,kvs[x.1]?=some (.int (rk x.1) t)) (hB:∀x∈ps,((x.1:Nat):Int)<B) (nd:(ps.map (·.1)).Nodup)
 (h:∀h' tk (qs:List<|Nat×Tok) D c,s.heap.objs.size<=D->(∀b o,s.heap.get? b=some o->h'.get? b=some o)->h'.get? D=some (seqObj "list" (qs.map itV).toArray c)->qs.Perm ps->(qs.Pairwise λx y=>rk x.1*B+(x.1:Int)<=rk y.1*B+(y.1:Int))->Q (.ref D) { s with heap:=h',toks:=tk }):
 wpAny (model prog w) A (call (.builtin "sorted") [.ref l] [(Str.ofString "key",.ref f)]) Q E s:=by
 have big:(100000:Nat)+1<=sizeLine:=by rw[sizeLine_eq];lia
 have a1:(ps.map itV).length<=100000:=by rw[Ah];lia
 refine call_function_entry_kw kind_sorted plain_sorted entry_sorted (ksk_s1 _ _) ?_;unfold Builtin.«sorted»;refine Ad (m:=checkCount "sorted" 1 1 _)<|Ap ?_;refine Ad<|collect_list hl ?_ (by exact EY);refine Ad<|wpAny_newList ?_ (by lia);obtain⟨g1,C⟩:∃g1,g1=(s.heap.push<|seqObj "list" #[] 0).update s.heap.objs.size (Obj.mapSeq (· ++ (ps.map itV).toArray)):=⟨_,rfl⟩;have T:g1.objs.size=s.heap.objs.size+1:=by rw[C,Heap.size_update,size_push']
 have gk:∀b o,s.heap.get? b=some o->g1.get? b=some o:=λb o q=>by have J:b<s.heap.objs.size:=u1 q;rw[C,Heap.get?_update_ne _ _ _ _<|A6 J];exact t7 _ q
 show wpAny _ _ _ _ _ { s with heap:=((s.heap.push<|seqObj "list" #[] 0).update s.heap.objs.size (Obj.mapSeq (· ++ (ps.map itV).toArray))).push (seqObj "list" (ps.map itV).toArray 0) };rw[<-C];have I:(g1.push<|seqObj "list" (ps.map itV).toArray 0).get? g1.objs.size=some (seqObj "list" (ps.map itV).toArray 0):=vb _ rfl;have keep:∀b o,s.heap.get? b=some o->(g1.push<|seqObj "list" (ps.map itV).toArray 0).get? b=some o:=λb o q=>t7 _<|gk b o q;refine Ad<|Bl<|wpAny_call_entry_kw slot_list_sort ⟨_,I,rfl⟩ entry_list_sort ?body<|ksk_l1 _ _
 case body=>
  obtain⟨D,eD⟩:∃D,D=g1.objs.size:=⟨_,rfl⟩;rw[<-eD] at I ⊢;show wpAny (model prog w) A.in1.in1 (Builtin.«list.sort» ⟨[.ref D],[(Str.ofString "key",.ref f)]⟩) _ _ _;rw[ksk_t1];obtain⟨g2,p⟩:∃g2,g2=g1.push (seqObj "list" (ps.map itV).toArray 0):=⟨_,rfl⟩;rw[<-p] at I keep ⊢;have s1:=vc g2 D<|Obj.mapSeq λ_=>(#[]:W9);obtain⟨e1,r⟩:∃e1,(g2.update D<|Obj.mapSeq λ_=>(#[]:W9)).get? D=some (seqObj "list" #[] e1):=⟨_,get?_update_seq I λ_=>#[]⟩;have nD:∀b o,s.heap.get? b=some o->b≠D:=λb o q z=>by have J:b<s.heap.objs.size:=u1 q;rw[z,eD,T] at J;exact Nat.not_succ_lt_self J
  unfold ksk_tree;refine Ad<|listItems_at (s:={ s with heap:=g2 }) I rfl ?_;refine Ad (listUpdate_at (s:={ s with heap:=g2 }) I rfl ?_ (by rw[Aq];exact EY)<|A2 _);refine Ad<|seqEpoch_at r rfl ?_;refine Ad (wpAny_newTuple ?_ (by show(ps.map itV).length<=_;lia));refine Ad<|wpAny_newList ?_<|A2 _;refine Bl ?_;obtain⟨g3,U⟩:∃g3,g3=(g2.update D<|Obj.mapSeq λ_=>(#[]:W9)).push (seqObj "tuple" (ps.map itV).toArray 0):=⟨_,rfl⟩;have k3:∀b o,s.heap.get? b=some o->g3.get? b=some o:=λb o q=>by rw[U];exact t7 _<|(s1.2 b<|nD b o q).trans<|keep b o q
  have d3:g3.get? D=some (seqObj "list" #[] e1):=by rw[U];exact t7 _ r
  show wpAny (model prog w) A.in1.in1 (ksk_rest D (.ref f) false (ps.map itV).toArray _<|.ref ((g2.update D<|Obj.mapSeq λ_=>(#[]:W9)).push<|seqObj "tuple" (ps.map itV).toArray 0).objs.size) _ _ { s with heap:=((g2.update D<|Obj.mapSeq λ_=>(#[]:W9)).push<|seqObj "tuple" (ps.map itV).toArray 0).push (seqObj "list" #[] 0) };rw[<-U];have a0:(g3.push<|seqObj "list" #[] 0).get? g3.objs.size=some (seqObj "list" #[] 0):=vb _ rfl;refine T0 (s:={ s with heap:=g3.push (seqObj "list" #[] 0) }) (g:=s.heap) (kS:=g3.objs.size) (a:=D) (rk:=rk) (B:=B) K S j (Heap.get?_none_of_le ?_) (λb o q=>t7 _<|k3 b o q) a0 (t7 _ d3) ?_ hz hp hB nd λh' tk qs c kp hD pm pw=>?_
  ·have l1:g3.objs.size=g1.objs.size+2:=by rw[U,size_push',Heap.size_update,p,size_push']
   rw[l1,T];exact AL (Ct _)<|Bg _ 2
  ·exact(A6<|u1 d3).symm
  ·refine⟨_,rfl,Ap ⟨_,rfl,h h' tk qs D c (by rw[eD,T];exact Ct _) (λb o q=>?_) hD pm pw⟩⟩;exact kp b o (A6<|u1<|k3 b o q) (nD b o q)<|t7 _<|k3 b o q
end
end TS
namespace L2
open PySem PySem.Spec PyProof.Rows
theorem re{i j:Int}{t u:Tok}{c:Xj}(l:W8)(h:TriplesOk l):TriplesOk (l++[.int i t,.int j u,c]):=by
 fun_induction TriplesOk l with
 |case1=>trivial
 |case2 _ _ _ _ _ rest I=>exact I h
 |case3=>exact h.elim
theorem wP{i j:Int}{t u:Tok}{c I:Xj}(l:W8)(h:TriplesOk l)(e:codeAmong pos (l++[.int i t,.int j u,c])=some I):codeAmong pos l=some I\/I=c:=by
 fun_induction TriplesOk l with
 |case1=>
  right;have e:(if i==pos.line&&j==pos.col then some c else none)=some I:=e;split at e
  ·cases e;rfl
  ·cases e
 |case2 a _ b _ d rest J=>
  have e:(if a==pos.line&&b==pos.col then some d else codeAmong pos (rest++[.int i t,.int j u,c]))=some I:=e;show(if a==pos.line&&b==pos.col then some d else codeAmong pos rest)=some I\/I=c;split at e
  ·rename_i z;rw[Aw z];exact .inl e
  ·rename_i z;rw[Ar z];exact J h e
 |case3=>exact h.elim
structure DT(K:Ai)(fm:Xj)(P:Addr):Prop where
 ex:∃c oc,fm=.ref c/\K.lookup c=some oc/\∀h:Xn,h.get? c=some oc->PySem.W.CodeHd h c P
 bm:∃bm ob,PySem.W.nsIn K mainGlobals "__builtins__"=some (some<|.ref bm)/\bm≠builtinsNs/\bm≠mainGlobals/\K.lookup bm=some ob/\ob.cls=.type "module" /\ ob.dict=some builtinsNs/\ob.data=.plain
theorem t8:∀{l:Xa} {us:W8},zn (l.map λi:Nat=>V.int<|0+(i:Int)) us->∃ps:List (Nat×Tok),us=ps.map TS.itV/\ps.map (·.1)=l
 |[],_,.nil=>⟨[],rfl,rfl⟩
 |i::r,_,.cons (b:=u) h t=>by obtain⟨ps,J,U⟩:=t8 (l:=r) t;obtain⟨I,g⟩:=(show ∃I,u=Value.int (0+(i:Int)) I from h);refine⟨(i,I)::ps,?_,by rw[AO,U]⟩;rw[AO,J,g];show _=Value.int (i:Int) I::_;rw[B5]
theorem uW:∀ps:List (Nat×Tok),zn (ps.map λx=>V.int ((x.1:Nat):Int))<|ps.map TS.itV
 |[]=>.nil
 |x::r=>.cons ⟨x.2,rfl⟩<|uW r
def T3(P:Addr)(q:Str)(J:Nat)(te:TE):TE:=λσ H Q=>te σ H λv H1=>∃l I,∃n:Nat,∃rks:Xe,v=.ref l/\H1 l=some (.lst ((List.range n).map λi:Nat=>V.int<|0+(i:Int)))/\σ[J]?=some (some<|.ref I)/\H1 I=some (.lst<|rks.map V.int)/\rks.length=n/\n<=127/\rC H1 P q/\
 ∀H2 D (qs:Xa),(∀b u,b≠P->H1 b=some u->H2 b=some u)->rC H2 P q->H1 D=none->D≠P->H2 D=some (.lst (qs.map λi:Nat=>V.int (i:Int)))->qs.Perm (List.range n)->(qs.Pairwise λi j=>rks.getD i 0*1000000+(i:Int)<=rks.getD j 0*1000000+(j:Int))->Q (.ref D) H2
theorem T4{kk cell:Addr}{J:Arguments}{p:Xj}{Q:VK}(I:z8 X pins σ H s)(S:TS.KeySc fy kx px)(hr:X.A.depth+3<recursionLimit)
 (hf:s.heap.get? f=some (PySem.W.kla_obj name eH J (TS.keyBody kx px p1 p2 p3 p4 p5 x1) fy [(kx,cell)] pm c' p)) (a0:s.heap.CodeRec (.ref c') eH) (r:s.heap.IsCell cell<|some<|.ref kk)
 (hb:∀v:Xj,bindArgs (PySem.W.kla_fn name eH J (TS.keyBody kx px p1 p2 p3 p4 p5 x1) fy [(kx,cell)] pm (.ref c') p) ⟨[v],[]⟩=pure [(px,v)])
 (hl:H l=some (.lst ((List.range n).map λi:Nat=>V.int<|0+(i:Int)))) (hk:H kk=some (.lst<|rks.map V.int)) (hn:rks.length=n) (hz:n<=127)
 (q:∀D (qs:Xa),H D=none->qs.Perm (List.range n)->(qs.Pairwise λi j=>rks.getD i 0*1000000+(i:Int)<=rks.getD j 0*1000000+(j:Int))->Q (.ref D) (upd H D<|.lst (qs.map λi:Nat=>V.int (i:Int)))):
 wpAny (model X.prog X.w) X.A (call (.builtin "sorted") [.ref l] [(Str.ofString "key",.ref f)]) (EP X pins σ Q) X.xe s:=by
 obtain⟨a3,rv,pl,_⟩:=I.list<|ET hl;obtain⟨g,rk,pk,_⟩:=I.list<|ET hk;obtain⟨ps,rfl,U⟩:=t8 rv;have lk:g.length=n:=by rw[<-rk.length,Ah,hn]
 have lp:ps.length=n:=by have:=BS List.length U;rwa[Ah,Ba] at this
 have big:(100000:Nat)<=sizeLine:=by decide
 refine jq I.tk<|TS.w_sortedK (rk:=λi=>rks.getD i 0) (B:=1000000) (kvs:=g) ⟨⟨name,eH,J,p1,p2,p3,p4,p5,x1,pm,p,c',cell,kk,hf,a0,r,pk.isList,hb⟩,I.nolimit⟩ S ?_ pl.isList (by lia) (λx hx=>?_) (λx hx=>?_) ?_ λh' tk qs D c hD keep hg T pw ht=>?_
 ·show X.A.depth<recursionLimit;lia
 ·have C:x.1∈List.range n:=by rw[<-U];exact Co hx
  have a1:=AZ.mp C;refine⟨by lia,?_⟩;have e1:(rks.map V.int)[x.1]?=some (V.int<|rks.getD x.1 0):=by rw[Au,Ao (by lia),BA,Ao (by lia)];rfl
  obtain⟨u,e2,r2⟩:=Words.Paired.getP rk e1;obtain⟨t,rfl⟩:=(show ∃t,u=Value.int (rks.getD x.1 0) t from r2);exact⟨t,e2⟩
 ·have C:x.1∈List.range n:=by rw[<-U];exact Co hx
  have a1:=AZ.mp C;omega
 ·rw[U];exact BG
 ·have a2:H D=none:=I.hok.fresh hD;refine⟨.ref D,_,I.laid (t':=tk) (o:=.lst ((qs.map (·.1)).map λi:Nat=>V.int (i:Int))) keep hD ?_,rfl,q D (qs.map (·.1)) a2 ?_ ?_⟩
  ·refine⟨?_,qs.map TS.itV,c,?_,hg⟩
   ·rw[Ah,Ah,T.length_eq];lia
   ·rw[B4];exact uW qs
  ·rw[<-U];exact T.map _
  ·exact BV.mpr pw
theorem z8.tabbed{P:Addr}{ps more:W9}{oc fo:Obj}{tk:Nat}(I:z8 X pins σ H s)(C:H P=some (.tbl ps))(hx:Heap.ExtBut P s.heap h')(U:h'.get? P=some (PySem.W.tabObj<|ps++more))
 (hc:s.heap.objs.size<=c') (g:h'.get? c'=some oc) (ht:0<tk):z8 X pins σ (upd (upd H P<|.tbl<|ps++more) c'<|.frz oc<|.own 0) { s with heap:=h'.push fo,toks:=tk }:=by
 have nc:H c'=none:=I.hok.fresh hc;have p:∀b,H b=none->b≠P:=λb e z=>by rw[z,C] at e;cases e
 have j:∀b u,H b=some u->b≠c':=λb u e z=>by rw[z,nc] at e;cases e
 have l:∀b o,s.heap.get? b=some o->b≠c':=λb o e=>A6<|AS (u1 e) hc;have t:∀b o,b≠P->s.heap.get? b=some o->(h'.push fo).get? b=some o:=λb o n e=>t7 _<|hx b o n e;have J:∀b u,H b=some u->(∀ps,u≠.tbl ps)->b≠P:=λb u e d z=>by rw[z,C] at e;cases e;exact d _ rfl
 refine I.step (ch:=[]) (g':=s.gens) (d':=s.drawn) (t':=tk) (λ_ z=>nomatch z) (λb o _ _ _ e n=>t b o (p b n) e) (λb o _ _ _ e n=>⟨o.slots,t b o (p b n) e⟩) (λb o _ e n=>?_) (λb o _ e=>?_) (λb xs e=>?_) (λb o u e=>?_) (λb qs e=>?_) (λm hm=>?_) (λb u e=>?_) I.bare ht
 ·rw[qu<|l b o e,qu<|p b n];exact n
 ·by_cases c:b=P
  ·subst c;exact⟨_,t7 _ U⟩
  ·exact⟨o,t b o c e⟩
 ·rw[qu<|j b _ e,qu (J b _ e λ_ z=>by cases z)];exact e
 ·rw[qu<|j b _ e,qu (J b _ e λ_ z=>by cases z)];exact e
 ·rw[qu<|j b _ e];by_cases c:b=P
  ·subst c;rw[C] at e;cases e;exact⟨more,zu⟩
  ·rw[qu c];exact⟨#[],by rw[e];simp⟩
 ·exact(hm.extBut hx<|p _ I.free).push _
 ·by_cases c:b=c'
  ·subst c;rw[zu] at e;cases e;exact⟨t7 _ g,_,t7 _ g⟩
  ·rw[qu c] at e;by_cases d:b=P
   ·subst d;rw[zu] at e;cases e;exact t7 _ U
   ·rw[qu d] at e;refine(I.hok b u e).stay (λa v T r=>t a v ?_ r) (λa r=>?_) (λa xs r=>?_)
    ·rcases T with rfl|T
     ·exact d
     ·exact J a _ T λ_ z=>by cases z
    ·rw[qu<|j a _ r,qu (J a _ r λ_ z=>by cases z)];exact r
    ·rw[qu<|j a _ r,qu (J a _ r λ_ z=>by cases z)];exact r
theorem T5{te:TE}{J:Arguments}{U p:Pos}{ik:Nat}{P:Addr}{q:Str}(hg:Gl X "sorted")(hm:X.mg "sorted"=none)(he:PE X e te)(S:TS.KeySc fy kx px)(C:DT X.K X.env.code P)(hr:X.A.depth+3<recursionLimit)
 (hq:X.env.qual ++ "<lambda>" = q) (bj:X.N[ik]?=some kx) (al:X.env.scope.names.lookup kx=some .cell) (au:∃cell,X.env.cells.lookup kx=some cell/\closureFor fy X.env=pure [(kx,cell)])
 (av:defaultsOf J X.env=([],[])) (hb:∀(name eH:Str) (cl:List<|Str×Addr) (pm cd ct v:Xj),bindArgs (PySem.W.kla_fn name eH J (TS.keyBody kx px p1 p2 p3 p4 p5 x1) fy cl pm cd ct) ⟨[v],[]⟩=pure [(px,v)])
 (h1:starEach [e] X.env=(false,eval e X.env)::starEach [] X.env:=by rfl) (h2:(backTo pos<|starEach [e] X.env).any (·.1)=false:=by rfl)
 (h3:backTo pos (starEach [e] X.env)=(false,eval e X.env)::backTo pos (starEach [] X.env):=by rfl):
 PE X (.Call (.Name "sorted" p) [e] [⟨some "key",.Lambda J (TS.keyBody kx px p1 p2 p3 p4 p5 x1) fy U,pR⟩] pos) (T3 P q ik te):=by
 intro a0 s σ H Q I h;refine wpAny_Call_Name_kw<|jZ I hg hm (by decide +kernel:bootBuiltins "sorted"=some (.builtin "sorted")) ?_ (by decide) (by decide);refine PyProof.Rows.callWith_kw ?_ h3 h2;rw[h3];refine xb<|aJ (he a0 s σ H _ I h) λv s1 ψ=>?_;obtain⟨x,H1,g,rx,l,kk,n,rks,ev,hl,hs,hk,hn,hz,T,qq⟩:=ψ;refine xB ?_;subst ev;cases (show v=Value.ref l from rx);show wpAny _ _ (evalAll ((do let v <-eval (.Lambda J (TS.keyBody kx px p1 p2 p3 p4 p5 x1) fy U) X.env;standAt pos;pure v)::[])) _ _ s1;refine wpAny_evalAll_cons<|Ad ?_;obtain⟨cell,a2,ab⟩:=au;obtain⟨c,bn,aL,lc,hC⟩:=C.ex;obtain⟨bm,ob,b1,b2,b3,b4,b5,b6,b7⟩:=C.bm;obtain⟨a5,tP,tok,a3⟩:=T;have ba:s1.heap.Ns mainGlobals X.mg:=g.ok.mod.glob.keeps g.bk;have bb:s1.heap.get? P=some (PySem.W.tabObj a5):=g.hok P _ tP;have bd:PySem.W.CodeHd s1.heap c P:=hC _<|g.kIn c bn lc;have a1:∀b o,X.base.get? b=some o->b≠P:=λb o e z=>by have:=(g.bs b o e).2;rw[z,tP] at this;cases this
 have ac:=g.ok.mod.kin bm ob b4;have hB:s1.heap.BuiltinsAt X.mg P:=⟨bm,ob,CA g.ok.mod.kin g.ok.mod.glob b1,b2,b3,a1 _ _ ac,(g.bs _ _ ac).1,b5,b6,b7⟩;have ca:mainGlobals≠P:=by obtain⟨o,es,ep,e,hd,_⟩:=g.ok.mod.glob;exact a1 _ _ e
 have a4:s1.heap.IsCell cell (some<|.ref kk):=by
  obtain⟨m,_,cc⟩:=g.loc;obtain⟨u,ru,lk⟩:=cc ik kx _ bj hs<|.inr<|.inl al;cases (show u=Value.ref kk from ru);rcases lk with⟨k1,_⟩|⟨_,c2,e2,ck⟩
  ·have k1:X.env.scope.names.lookup kx=some .local:=k1;rw[al] at k1;cases k1
  ·rw[a2] at e2;cases e2;exact ck
 refine PySem.W.kla_eval av ?_;rw[hq];have jv:∀(s2:Xk) (H2:Hp) (f j:Addr) (r pm:Xj),z8 X a0 σ H2 s2->s2.heap.get? f=some (PySem.W.kla_obj "<lambda>" q J (TS.keyBody kx px p1 p2 p3 p4 p5 x1) fy [(kx,cell)] pm j r)->s2.heap.CodeRec (.ref j) q->s2.heap.IsCell cell (some<|.ref kk)->
  (∀b u,b≠P->H1 b=some u->H2 b=some u)->rC H2 P q->(∀b,H2 b=none->H1 b=none)->
  wpAny (model X.prog X.w) X.A (do standAt pos;pure (Value.ref f)) (λv s'=>wpAny (model X.prog X.w) X.A (evalAll []) (λvs cm=>wpAny (model X.prog X.w) X.A (call (.builtin "sorted") [.ref l]<|[Str.ofString "key"].zip<|v::vs) (EP X a0 σ Q) X.xe cm) X.xe s') X.xe s2:=by
  intro s2 H2 f j r pm I2 g1 g2 g3 g4 g5 g6;refine Ad<|wpAny_standAt<|Ap<|wpAny_evalAll_nil ?_;have lP:l≠P:=λz=>by rw[z,tP] at hl;cases hl
  have kP:kk≠P:=λz=>by rw[z,tP] at hk;cases hk
  refine T4 (n:=n) (rks:=rks) I2 S hr g1 g2 g3 (λv=>hb _ _ _ _ _ _ v) (g4 _ _ lP hl) (g4 _ _ kP hk) hn hz λD qs hD cn pw=>?_;have be:D≠P:=λz=>by obtain⟨d0,e2,_⟩:=g5;rw[z,e2] at hD;cases hD
  refine qq _ D qs (λb u n e=>?_) ?_ (g6 D hD) be zu cn pw
  ·rw[qu<|zy (g4 b u n e) hD];exact g4 b u n e
  ·exact g5.keep (qu<|AQ be) λb o u e=>by rw[qu<|zy e hD];exact e
 cases hf:codeAmong U a5.toList with
 |some cv=>
  obtain⟨j,oc,vs,t,cx,f1,f2,f3⟩:=a3 U cv hf;subst cx;refine jq g.tk<|PySem.W.kla_makeFunctionHit (mg:=X.mg) ab g.ok.glob ba aL bd bb tok hf hB λr h' tk bf dc ht=>?_;have I2:z8 X a0 σ H1 { s1 with heap:=h'.push { cls:=.type "function",data:=.func (PySem.W.kla_fn "<lambda>" q J (TS.keyBody kx px p1 p2 p3 p4 p5 x1) fy [(kx,cell)] ((X.mg "__name__").getD .none) (.ref j) r) },toks:=tk }:=g.kept (t':=tk) λb o e=>t7 _<|bf b o e;obtain⟨a7,_⟩:=I2.hok j _ f1;refine jv _ H1 _ j r _ I2 (vb _ rfl) ⟨j,oc,vs,t,rfl,a7,f2,f3⟩ ?_ (λb u _ e=>e) ⟨a5,tP,tok,a3⟩ λb e=>e;obtain⟨o,e1,e2⟩:=a4;exact⟨o,t7 _<|bf _ _ e1,e2⟩
 |none=>
  refine jq g.tk<|PySem.W.kla_makeFunction (mg:=X.mg) ab g.ok.glob ba aL bd bb tok hf ca hB λj r h' tk hx bg dd bh cy ht=>?_;obtain⟨c2,oc,vs,t,e2,a7,f2,f3⟩:=bh;cases e2;have I2:=g.tabbed (fo:=PySem.W.kla_obj "<lambda>" q J (TS.keyBody kx px p1 p2 p3 p4 p5 x1) fy [(kx,cell)] ((X.mg "__name__").getD .none) j r) tP hx cy bg a7 ht;have nc:H1 j=none:=g.hok.fresh bg;have cP:j≠P:=λz=>by rw[z,tP] at nc;cases nc
  refine jv _ _ _ j r _ I2 (vb _ rfl) ⟨j,oc,vs,t,rfl,t7 _ a7,f2,f3⟩ ?_ (λb u n e=>?_) ?_ λb e=>?_
  ·obtain⟨o,e1,e2⟩:=a4;have nP:cell≠P:=λz=>by have:=g.freeC kx cell a2;rw[z,tP] at this;cases this
   exact⟨o,t7 _<|hx _ _ nP e1,e2⟩
  ·rw[qu<|zy e nc,qu n];exact e
  ·refine⟨a5++#[rawInt U.line,rawInt U.col,.ref j],by rw[qu<|AQ cP,zu],?_,λbi cv z=>?_⟩
   ·rw[Bf];exact re _ tok
   ·rw[Bf] at z;rcases wP _ tok z with z|z
    ·obtain⟨d',od,cB,t',k1,k2,k3⟩:=a3 bi cv z;have nP:d'≠P:=λz=>by rw[z,tP] at k2;cases k2
     exact⟨d',od,cB,t',k1,by rw[qu<|zy k2 nc,qu nP];exact k2,k3⟩
    ·exact⟨j,oc,vs,t,z,zu,f2,f3⟩
  ·by_cases d:b=j
   ·subst d;exact nc
   ·rw[qu d] at e;by_cases d2:b=P
    ·subst d2;rw[zu] at e;cases e
    ·rw[qu d2] at e;exact e
end L2
namespace L3
open PySem L2
def JY(Pt:Addr)(q:Str)(J:Nat)(te:xo)(τ:jk)(L:ql)(Q:YK):Prop:=te τ L λy L1=>match y with
 |.ref l=>cz L1 l λys=>∃(n:Nat) (rks:Xe) (I:Addr),ys=aN 0 n/\zO τ J=some (.ref I)/\L1 I=some (.lst<|rks.map Y.int)/\rks.length=n/\n<=127/\L1 Pt=some (.tb q)/\
  ∀(D:Addr) (qs:Xa),L1 D=none->qs.Perm (List.range n)->(qs.Pairwise λi j=>rks.getD i 0*1000000+(i:Int)<=rks.getD j 0*1000000+(j:Int))->Q (.ref D) (qe L1 D<|.lst (qs.map λi:Nat=>Y.int (i:Int)))
 |_=>False
theorem ph{G:G3}{H:Hp}:∀{l:Xa} {xs:Xp},xx G H (l.map λi:Nat=>Y.int<|0+(i:Int)) xs->xs=l.map λi:Nat=>V.int<|0+(i:Int)
 |[],_,h=>h
 |_::_,_,ψ=>by obtain⟨x,I,e,r,s⟩:=ψ;subst e;cases r;rw[ph s];rfl
theorem iJ{G:G3}{H:Hp}:∀{l:Xe} {xs:Xp},xx G H (l.map Y.int) xs->xs=l.map V.int
 |[],_,h=>h
 |_::_,_,ψ=>by obtain⟨x,I,e,r,s⟩:=ψ;subst e;cases r;rw[iJ s];rfl
theorem uO{G:G3}{H:Hp}:∀qs:Xa,xx G H (qs.map λi:Nat=>Y.int (i:Int)) (qs.map λi:Nat=>V.int (i:Int))
 |[]=>rfl
 |_::r=>⟨_,_,rfl,rfl,uO r⟩
theorem T6{I:Arguments}{U p:Pos}{r:Nat}{q:Str}(hg:Gl X "sorted")(hm:X.mg "sorted"=none)(he:QE X e te)(S:TS.KeySc fy kx px)(C:DT X.K X.env.code Pt)(hr:X.A.depth+3<recursionLimit)
 (hq:X.env.qual ++ "<lambda>" = q) (t:X.N[r]?=some kx) (a0:X.env.scope.names.lookup kx=some .cell) (g:∃cell,X.env.cells.lookup kx=some cell/\closureFor fy X.env=pure [(kx,cell)])
 (j:defaultsOf I X.env=([],[])) (hb:∀(name eH:Str) (cl:List<|Str×Addr) (pm cd ct v:Xj),bindArgs (PySem.W.kla_fn name eH I (TS.keyBody kx px p1 p2 p3 p4 p5 x1) fy cl pm cd ct) ⟨[v],[]⟩=pure [(px,v)])
 (h1:starEach [e] X.env=(false,eval e X.env)::starEach [] X.env:=by rfl) (h2:(backTo pos<|starEach [e] X.env).any (·.1)=false:=by rfl)
 (h3:backTo pos (starEach [e] X.env)=(false,eval e X.env)::backTo pos (starEach [] X.env):=by rfl):
 QE X (.Call (.Name "sorted" p) [e] [⟨some "key",.Lambda I (TS.keyBody kx px p1 p2 p3 p4 p5 x1) fy U,pR⟩] pos) (JY Pt q r te):=
 EG (T5 hg hm he S C hr hq t a0 g j hb h1 h2 h3) λσ H Q τ L Q3 rs rl z k=>by
  refine⟨τ,L,_,rs,rl,z,λv H1 y L1 t1 J rv z=>?_⟩;cases y with
  |ref l=>
   obtain⟨ys,e1,n,a1,kk,rfl,e2,e3,hn,hz,eP,qq⟩:=xc z;cases rv;obtain⟨xs,h1,r1⟩:=J l _ e1;obtain⟨xk,h2,r2⟩:=J kk _ e3;have T:rC H1 Pt q:=J Pt _ eP;cases ph r1;cases iJ r2;obtain⟨v,hv,rv⟩:=rs.get r _<|sN _ _ e2;cases rv;refine⟨l,kk,n,a1,rfl,h1,hv,h2,hn,hz,T,λH2 D qs kp T2 hD a3 a2 pm pw=>?_⟩;have tb:∃o,H1 Pt=some (.tbl o):=let ⟨o,e,_⟩:=T;⟨o,e⟩;have t2:j9 H1 H2:=λa u i h=>kp a u (λc=>by obtain⟨o,e⟩:=tb;rw[c,e] at h;cases h;cases i) h
   refine k _ _ _ _ (t1.trans t2) (λa u e=>?_) (by rfl)<|qq D qs (J.none hD) pm pw;by_cases c:a=D
   ·subst c;rw[q9] at e;cases e;exact⟨_,a2,uO qs⟩
   ·rw[qb c] at e;by_cases d:a=Pt
    ·subst d;rw[eP] at e;cases e;exact T2
    ·obtain⟨x,hx⟩:=(J a u e).ex;exact(J a u e).keep t2 (by rw[hx];exact kp a x d hx)
  |_=>exact z.elim
structure GC(K:Ai)(x eH:Str)(st:Stmt)(f:Addr)(fd:FuncData)(Pt:Addr):Prop where
 ex:∃(oc:Xj) (od:Option Addr) (kV ir pm:Xj) (an:Option Addr) (fm ct:Xj) (mD:Array<|Xf),
  fd=PySem.W.fnOf x eH (x4 st) (j6 st) (qt st) .none kV ir pm an fm ct/\K.lookup f=some ⟨oc,od,.func fd,mD⟩/\PySem.W.codeIn K fm eH=true/\DT K fm Pt
 kp:PySem.W.keepIn K (.ref f)=true
theorem T7{P:Xl}{w:Xm}{K:Ai}{N:Xb}{k:Nat}(F:GC K x eH st f fd Pt)(S:ay N ps<|qt st)(len:∀ys L Q,sp ys L Q->ys.length=ps.length)
 (I:∀(fm:Xj) (A:Around) (outer:List Env) (s:Xk) (H:Hp) (E:XK),DT K fm Pt->vz k (A.deeper<|PyProof.Rows.envOfC eH (qt st) s.heap.objs.size f fm)->
  ∃t,sd (iQ CX0 P w K mg base N eH (qt st) f fm A outer s H E).nox (j6 st) t/\∀ys L Q,sp ys L Q->t { nx:=λ_ L'=>fG Q .non L',rt:=fG Q } (kE N ys) L):Fn3 P w K mg base (k+1) f fd ps sp:=by
 obtain⟨oc,od,kV,g,pm,an,fm,ct,j,rfl,lk,U,C⟩:=F.ex;have F0:Fun K x eH st f _:=⟨⟨oc,od,kV,g,pm,an,fm,ct,j,rfl,lk,U⟩,F.kp⟩;refine H0 lk U S (λvs H Q E ψ=>by obtain⟨ys,L,l,o,rl,z,_⟩:=ψ;rw[<-o.length];exact len ys L l z) λA outer s H vs Q E hr ψ=>?_;obtain⟨ys,L,l,o,rl,z,k⟩:=ψ;obtain⟨t,ht,q⟩:=I fm A outer s H E C hr;refine⟨_,lU.nox ht,kE N ys,L,_,qK o,rl,q ys L l z,?_⟩;exact⟨λσ p τ L' r a1 J ψ=>(by obtain⟨L2,T,q2⟩:=ψ;exact k .non p .non L2 r (J.sub T) (by rfl) q2),λv p y L' r J a0 ψ=>(by obtain⟨L2,T,q2⟩:=ψ;exact k v p y L2 r (J.sub T) a0 q2),λ_ _ _ _ _ _ _ z=>z.elim,λ_ _ _ _ _ _ _ z=>z.elim⟩
inductive mO(Pt:Addr)(q:Str)(ys:List Y)(L:ql)(Q:YK):Prop
 |mk:∀ns:Xe,(ys=[.sq<|ns.map Y.int])->(ns.length<=63)->(L=qe (λ_=>none) Pt (.tb q))->(∀L',Q (.bl true) L')->mO Pt q ys L Q
def spTopT(q:Str)(K:Ai)(Pt:Addr):Sp:=λvs H Q _=>∃(a:Addr) (I:Xe),vs=[.ref a]/\SqF K H a (I.map V.int)/\I.length<=63/\H Pt=some (.tbl #[])/\∀H',Q (.bl true) H'
theorem T8{q:Str}{vs:Xp}{Q:VK}{E:XK}(h:spTopT q G.K Pt vs H Q E):dn G (mO Pt q) vs H Q E:=by
 obtain⟨a,I,rfl,J,U,g,z⟩:=h;refine⟨[.sq<|I.map Y.int],qe (λ_=>none) Pt<|.tb q,λy _=>y=.bl true,xx.one ⟨a,_,rfl,J,uR I⟩,(λb u e=>?_),⟨I,rfl,U,rfl,λ_=>rfl⟩,?_⟩
 ·by_cases c:b=Pt
  ·subst c;rw[q9] at e;cases e;exact⟨#[],g,trivial,λpos o z=>by cases z⟩
  ·rw[qb c] at e;cases e
 ·rintro v j y p _ _ l rfl;cases l;exact z j
end L3
namespace L2
open PySem PySem.Spec PyProof.Rows
def lessK(Pt:Addr):Ai->Ai
 |[]=>[]
 |(a,o)::r=>if a==Pt then lessK Pt r else(a,o)::lessK Pt r
theorem xg{Pt a:Addr}(h:a≠Pt):∀K:Ai,(lessK Pt K).lookup a=K.lookup a
 |[]=>rfl
 |(b,o)::r=>by
  unfold lessK;by_cases c:(b==Pt)=true
  ·rw[Aw c,xg h r,AW];have:(a==b)=false:=by have I:=eq_of_beq c;subst I;exact Eh h
   rw[this]
  ·rw[Ar c,AW,AW,xg h r]
theorem wo{Pt:Addr}:∀K:Ai,(lessK Pt K).lookup Pt=none
 |[]=>rfl
 |(b,o)::r=>by
  unfold lessK;by_cases c:(b==Pt)=true
  ·rw[Aw c];exact wo r
  ·rw[Ar c,AW];have:(Pt==b)=false:=by cases d:Pt==b with|false=>rfl|true=>exact absurd (beq_iff_eq.mpr (eq_of_beq d).symm) c
   rw[this];exact wo r
theorem o4{a:Addr}{K:Ai}{o:Obj}(e:(lessK Pt K).lookup a=some o):a≠Pt/\K.lookup a=some o:=by
 by_cases c:a=Pt
 ·subst c;rw[wo] at e;cases e
 ·rw[xg c] at e;exact⟨c,e⟩
theorem lessK_in{K:Ai}(X:K.In h):(lessK Pt K).In h:=λa o e=>X a o (o4 e).2
structure JZ(K:Ai)(Pt:Addr):Prop where
 tab:K.lookup Pt=some (PySem.W.tabObj #[])
 hd:∃c,∀h:Xn,K.In h->PySem.W.CodeHd h c Pt
 st:Pt≠cStatics
section
variable {K:Ai}(T:K.lookup Pt=some (PySem.W.tabObj #[]))
include T
theorem ns_dn{a:Addr}{r:Option<|Xf}(e:PySem.W.nsIn K a x=r):PySem.W.nsIn (lessK Pt K) a x=r:=by
 rw[<-e];unfold PySem.W.nsIn;by_cases c:a=Pt
 ·subst c;rw[wo,T]
 ·rw[xg c]
theorem lk_dn{a:Addr}{o:Obj}(e:K.lookup a=some o)(n:o.cls≠.none):(lessK Pt K).lookup a=some o:=by
 rw[xg ?_]
 ·exact e
 ·rintro rfl;rw[T] at e;cases e;exact n rfl
theorem code_dn{cd:Xj}{q:Str}(e:PySem.W.codeIn K cd q=true):PySem.W.codeIn (lessK Pt K) cd q=true:=by
 unfold PySem.W.codeIn at e ⊢;split at e
 ·rename_i c;by_cases d:c=Pt
  ·subst d;rw[T] at e;simp at e
  ·rw[xg d];exact e
 ·cases e
theorem T9{v:Xj}:PySem.W.ownIn (lessK Pt K) x v=PySem.W.ownIn K x v:=by
 unfold PySem.W.ownIn;split
 ·rfl
 ·rename_i a;by_cases d:a=Pt
  ·subst d;rw[wo,T]
  ·rw[xg d];split
   ·exact ns_dn T rfl
   ·rfl
 ·rfl
theorem ug{x:Str}:∀l:W8,PySem.W.alongIn (lessK Pt K) x l=PySem.W.alongIn K x l
 |[]=>rfl
 |c::r=>by unfold PySem.W.alongIn;rw[T9 T,ug r]
theorem find_dn{v:Xj}:PySem.W.findIn (lessK Pt K) v x=PySem.W.findIn K v x:=by
 unfold PySem.W.findIn;split
 ·rfl
 ·rename_i a;by_cases d:a=Pt
  ·subst d;rw[wo,T]
  ·rw[xg d];split
   ·exact ug T _
   ·rfl
 ·rfl
theorem mm{a:Addr}(n:a≠Pt):PySem.W.specialIn (lessK Pt K) (.ref a) x=PySem.W.specialIn K (.ref a) x:=by unfold PySem.W.specialIn PySem.W.typeIn;dsimp only;rw[xg n];congr 1;funext t;exact find_dn T
theorem keep_dn{f:Xj}(e:PySem.W.keepIn K f=true):PySem.W.keepIn (lessK Pt K) f=true:=by
 unfold PySem.W.keepIn at e ⊢;split at e
 ·rename_i a;by_cases d:a=Pt
  ·subst d;rw[T] at e;simp at e
  ·rw[xg d,mm T d];exact e
 ·cases e
end
theorem Ua{P:Xl}{w:Xm}{K:Ai}{mb:W5}{CX:b_}{k:Nat}{a:Addr}{sp:Sp}{I:Xk}{T:Xe}
 (KX:K.In I.heap) (TI:JZ K Pt) (a0:I.heap.Ns mainGlobals mg) (hb:I.heap.Ns builtinsNs mb) (ab:∀x:Str,x ≠ "__name__" -> mb x=bootBuiltins x) (a1:I.heap.NoLimit) (hg:I.gens=#[]) (ac:0<I.toks)
 (p:I.heap.get? a=some { cls:=.type "list",data:=.seq vs.toArray }) (hi:IntsAre vs T) (hl:T.length<=sizeLine) (hr:vz k callerA)
 (F:∀base:Xn,(lessK Pt K).In base->base.Ns mainGlobals mg->bL P w (lessK Pt K) mg base CX k fa fd [x] sp) (l:∀(s:Xk) (u:Xj),BindsTo s fd ⟨[u],[]⟩ [(x,u)])
 (al:∀H:Hp,H Pt=some (.tbl #[])->(H a=none\/∃o xs,H a=some (.frz o<|.lst xs))->aY (lessK Pt K) H a (T.map V.int)->sp [.ref a] H (λv _=>v=.bl true) λ_ _ _=>False)
 (au:∀H e s',CX [] H I (λ_ _ _=>False) e s'->False):
 codeAny (model P w) callerA (.call (.ref fa) ⟨[.ref a],[]⟩) (λr s'=>r=.ok (.ret<|.bool true)/\OldK I.heap s'.heap/\s'.os=I.os/\AllBare s'.gens) I:=by
 have rv:=pW hi;have a2:=hi.length;have hP:I.heap.get? Pt=some (PySem.W.tabObj #[]):=KX Pt _ TI.tab;have U:a≠Pt:=λz=>by rw[z,hP] at p;cases p
 have core:∀H:Hp,H Pt=some (.tbl #[])->(∀b,b≠a->b≠Pt->H b=none)->(H a=none\/∃o xs,H a=some (.frz o<|.lst xs))->aY (lessK Pt K) H a (T.map V.int)->(∀u,H a=some u->vd P w H I.heap a u)->(H a≠none->K.lookup a=none)->
  codeAny (model P w) callerA (.call (.ref fa) ⟨[.ref a],[]⟩) (λr s'=>r=.ok (.ret<|.bool true)/\OldK I.heap s'.heap/\s'.os=I.os/\AllBare s'.gens) I:=by
  intro H HP Hn HO HS a3 av;have a4:g8 P w H I.heap:=λb u e=>by
   by_cases c:b=a
   ·subst c;exact a3 u e
   ·by_cases d:b=Pt
    ·subst d;rw[HP] at e;cases e;exact hP
    ·rw[Hn b c d] at e;cases e
  have J:∀{b:Addr} {o:Obj},I.heap.get? b=some o->H b=none->(rq I.heap H).get? b=some o:=λe n=>M8 e n;have aL:∀{b:Addr} {o:Obj} {t:Array DictEntry} {C:Nat},I.heap.get? b=some o->o.data=.dict t C->H b=none:=λ{b o t C} e d=>by
   refine Hn b (λz=>?_) λz=>?_
   ·subst z;rw[p] at e;cases e;have d':Data.seq vs.toArray _=Data.dict t C:=d;cases d'
   ·subst z;rw[hP] at e;cases e;have d':Data.fields _=Data.dict t C:=d;cases d'
  have g:∀{b:Addr} {m:W5},I.heap.Ns b m->(rq I.heap H).Ns b m:=λ{b m} ψ=>(by obtain⟨o,t,C,e,d,r⟩:=ψ;exact ⟨o,t,C,J e<|aL e d,d,r⟩);have a5:(lessK Pt K).In (rq I.heap H):=λb o e=>by
   obtain⟨n,e⟩:=o4 e;refine J (KX b o e) ?_;by_cases c:b=a
   ·subst c;cases q:H b with|none=>rfl|some u=>rw[av (by rw[q];simp)] at e;cases e
   ·exact Hn b c n
  have hM:Mod (lessK Pt K) mg (rq I.heap H):=⟨a5,g a0,⟨mb,g hb,ab⟩,let ⟨mc,h1,h2⟩:=a1;⟨mc,g h1,h2⟩⟩;have e0:xN P w (lessK Pt K) mg (rq I.heap H) callerA [] I H:=⟨rfl,hM,λb o e=>M9 e,DV<|M7 _ _,trivial,λb hb=>absurd (show b∈([]:List Addr) from hb) (by simp),a4,.of_eq hg,ac⟩;refine codeAny_mono ((F _ a5<|g a0).run callerA [] I H ⟨[.ref a],[]⟩ [.ref a] [.ref a] _ _ hr e0 (l I<|.ref a) (.cons rfl .nil)<|al H HP HO HS) λr s' h=>?_;cases r with
  |error e=>exact(au H e s' h).elim
  |ok fl=>
   cases fl with
   |next=>exact False.elim h
   |brk=>exact False.elim h
   |cont=>exact False.elim h
   |ret u=>
    obtain⟨v,H',os,bare,un,j,r',q,_⟩:=h;have q':v=.bl true:=q;subst q';obtain rfl:u=Value.bool true:=r';obtain⟨more,em⟩:=un.tbls Pt _ HP;have gP:s'.heap.get? Pt=some (PySem.W.tabObj<|#[]++more):=j Pt _ em;have kp:∀b o,b≠Pt->I.heap.get? b=some o->s'.heap.get? b=some o:=λb o n e=>by
     have a7:H b=none->s'.heap.get? b=some o:=λz=>un.keep b o e z (by intro z;exact absurd (show b∈([]:List Addr) from z) (by simp)) (by simp);by_cases c:b=a
     ·subst c;rcases HO with z|⟨ob,xs,z⟩
      ·exact a7 z
      ·have z2:=un.frzs _ _ _ z;obtain⟨e1,_⟩:=a4 _ _ z;obtain⟨e2,_⟩:=j _ _ z2;rw[e] at e1;cases e1;exact e2
     ·exact a7<|Hn b c n
    obtain⟨c,hc⟩:=TI.hd;refine⟨rfl,⟨λb o e=>?_,λb o e=>?_⟩,os,bare⟩
    ·by_cases n:b=Pt
     ·subst n;rw[hP] at e;cases e;exact .inr<|.inl ⟨((hc _ KX).tab hP).isCodeTable,rfl,#[],more,rfl,gP⟩
     ·exact .inl<|kp b o n e
    ·by_cases n:b=Pt
     ·subst n;exact⟨_,gP⟩
     ·exact⟨o,kp b o n e⟩
 cases hk:K.lookup a with
 |some o=>
  have e:=KX a o hk;rw[p] at e;cases e;refine core (λb=>if b=Pt then some (.tbl #[]) else none) (Aw rfl) (λb _ n=>Ar n) (.inl<|Ar U) (.inr ⟨_,vs.toArray,_,(xg U K).trans hk,rfl,rfl,rfl,by rw[Aq,a2];exact hl,by simpa using rv⟩) (λu z=>by have z':=(Ar U).symm.trans z;cases z') λz=>absurd (Ar U) z
 |none=>
  refine core (λb=>if b=a then some (.frz { cls:=.type "list",data:=.seq vs.toArray }<|.lst<|T.map V.int) else if b=Pt then some (.tbl #[]) else none) ((Ar<|AQ U).trans<|Aw rfl) (λb n1 n2=>(Ar n1).trans<|Ar n2) (.inr ⟨_,_,Aw rfl⟩) (.inl<|.inr ⟨_,Aw rfl⟩) (λu z=>?_) λ_=>hk;have z':=(Aw rfl).symm.trans z;cases z';exact⟨p,by rw[Ah];exact hl,vs,_,rv,p⟩
theorem walk_ofZT{l:PySem.W.OpenLaw}{k:Nat}{q:Xl}{loose:Xb}{XP:(W5)->Xn->Prop}{as0:List Addr}{N t:Nat}{d:DefRec}{K:Params->Ai}{CX:b_}{sp:Ai->Addr->Sp}
 (hn:l.most=some n) (r:n<=sizeLine) (C:d.params.defaults=[]) (hr:vz k callerA) (ek:∀P,as0=(K P).map (·.1)) (a0:0<t)
 (F:∀(w:Xm) (mg:W5) (fa:Addr) (h:Xn),(K w.params).In h->h.Ns mainGlobals mg->mg d.name=some (.ref fa)->
  ∃Pt:Addr,JZ (K w.params) Pt/\∃fd:FuncData,(∀(s:Xk) (u:Xj),BindsTo s fd ⟨[u],[]⟩ [(x,u)])/\
   ∀base:Xn,(lessK Pt<|K w.params).In base->base.Ns mainGlobals mg->bL l.prog w (lessK Pt<|K w.params) mg base CX k fa fd [x] (sp (lessK Pt<|K w.params) Pt))
 (a1:∀(K:Ai) (Pt:Addr) (H:Hp) (a:Addr) (p:Xe),p.length<=n->H Pt=some (.tbl #[])->(H a=none\/∃o xs,H a=some (.frz o<|.lst xs))->aY K H a (p.map V.int)->sp K Pt [.ref a] H (λv _=>v=.bl true) λ_ _ _=>False)
 (a2:∀(H:Hp) (s:Xk) (e:Xj) (s':Xk),CX [] H s (λ_ _ _=>False) e s'->False):
 PySem.W.WalkX q loose XP (PySem.W.X.obsZ as0) (PySem.W.X.valZ K N t) l.row.toRowW d [] (λf vs=>PySem.call f vs):=by
 refine Att.attach_callZ hn C ek a0 λw a4 U mg mb fa o pm cd a5 a vs p G KX tk ho hd a7 a3 j J I hg=>?_;obtain⟨Pt,TI,fd,hb,hF⟩:=F w mg fa _ KX G.T.g a3;exact Ua KX TI G.T.g G.T.b G.T.builtins G.T.nolimit hg tk j J (AL I r) hr hF hb (λH hP hO hS=>a1 _ Pt H a p I hP hO hS) λH e s'=>a2 H U e s'
end L2
namespace L3
open PySem L2
theorem top_startT{q:Str}:∀(K:Ai) (Pt:Addr) (H:Hp) (a:Addr) (I:Xe),I.length<=63->H Pt=some (.tbl #[])->(H a=none\/∃o xs,H a=some (.frz o<|.lst xs))->aY K H a (I.map V.int)->spTopT q K Pt [.ref a] H (λv _=>v=.bl true) λ_ _ _=>False:=by
 intro K Pt H a I J U g j;refine⟨a,I,rfl,?_,J,U,λ_=>rfl⟩;rcases j with(h|⟨o,h⟩)|h
 ·rcases g with z|⟨o,xs,z⟩<;>rw[h] at z<;>cases z
 ·exact .inl ⟨o,h⟩
 ·exact .inr h
structure DefInT(K:Ai)(x:Str)(st:Stmt)(Pt:Addr):Prop where
 ex:∃(f:Addr) (kV ir pm:Xj) (an:Option Addr) (fm ct:Xj),PySem.W.nsIn K mainGlobals x=some (some<|.ref f)/\GC K x x st f (PySem.W.fnOf x x (x4 st) (j6 st) (qt st) .none kV ir pm an fm ct) Pt
theorem DefInT.use{K:Ai}(D:DefInT K x st Pt)(X:K.In h)(G:h.Ns mainGlobals mg)
 (I:∀(kV ir pm:Xj) (an:Option Addr) (fm ct:Xj) (us:W8),us.length=ps.length->bindArgs (PySem.W.fnOf x x (x4 st) (j6 st) (qt st) .none kV ir pm an fm ct) ⟨us,[]⟩=pure (ps.zip us)):
 ∃f fd,GC K x x st f fd Pt/\aO K fd ps []/\mg x=some (.ref f):=by
 obtain⟨f,kV,ir,pm,an,fm,ct,a,F⟩:=D.ex;exact⟨f,_,F,.all<|I kV ir pm an fm ct,CA X G a⟩
end L3
namespace L2
open PySem PySem.Spec PyProof.Rows
section
variable {jl:St}
theorem z8.ren(M:Xb)(I:z8 X pins σ H s)(J:M.length=X.N.length)(hs:jl.length=σ.length)(h:∀(j:Nat) v,jl[j]?=some (some v)->σ[j]?=some (some v)/\X.N[j]?=M[j]?):z8 { X with N:=M } pins jl H s:=by obtain⟨m,U,l⟩:=I.loc;have o:=I.ok;exact { ok:=⟨o.mod,o.kind,o.glob,o.blt,o.above,o.inj,o.has,o.cab,o.hd,o.frames,o.stk,o.exf,o.bs,o.bsz,o.noex,o.exfs,o.funs,o.frf⟩,os:=I.os,bare:=I.bare,base:=I.base,cell:=I.cell,free:=I.free,freeC:=I.freeC,pin:=I.pin,hok:=I.hok,tk:=I.tk,len:=(by rw[hs,I.len];exact J.symm),loc:=⟨m,U,λi x v g p r=>by obtain⟨a,b⟩:=h i v p;exact l i x v (b.trans g) a r⟩ }
theorem uh(h:(σ.set i none)[j]?=some (some v)):j≠i/\σ[j]?=some (some v):=by
 by_cases c:i=j
 ·subst c;rw[List.getElem?_set_self'] at h;cases e:σ[i]? with|none=>rw[e] at h;cases h|some o=>rw[e] at h;cases h
 ·rw[Bv c] at h;exact⟨AQ c,h⟩
def Ub(i:Nat)(t:TS):TS:=λD σ H=>t { nx:=λjl H'=>D.nx (jl.set i none) H',rt:=D.rt,bk:=λjl H'=>D.bk (jl.set i none) H',ct:=λjl H'=>D.ct (jl.set i none) H' } (σ.set i none) H
theorem Uc{t:TS}(h:PS { X with N:=X.N.set i x } st t):PS X st (Ub i t):=by
 intro g s p H D I z;have C:z8 { X with N:=X.N.set i x } g (p.set i none) H s:=I.ren _ (by rw[Bt]) (by rw[Bt]) λj v e=>by obtain⟨a,b⟩:=uh e;exact⟨b,by rw[Bv<|AQ a]⟩
 refine aJ (h g s _ H _ C z) λf o q=>?_;have back:∀{U:St} {l:Hp},z8 { X with N:=X.N.set i x } g U l o->z8 X g (U.set i none) l o:=λ{U l} J=>
  z8.ren (X:={ X with N:=X.N.set i x }) X.N J (by show X.N.length=(X.N.set i x).length;rw[Bt]) (by rw[Bt]) λj v e=>by obtain⟨a,b⟩:=uh e;exact⟨b,by show(X.N.set i x)[j]?=_;rw[Bv<|AQ a]⟩
 cases f with
 |next=>obtain⟨U,l,J,q⟩:=q;exact⟨_,l,back J,q⟩
 |brk=>obtain⟨U,l,J,q⟩:=q;exact⟨_,l,back J,q⟩
 |cont=>obtain⟨U,l,J,q⟩:=q;exact⟨_,l,back J,q⟩
 |ret u=>obtain⟨v,U,l,J,r,q⟩:=q;exact⟨v,_,l,back J,r,q⟩
end
end L2
namespace L3
open PySem L2
def ix:jk->Nat->jk
 |[],_=>[]
 |_::r,0=>none::r
 |o::r,i+1=>o::ix r i
theorem uE:∀(τ:jk) (i:Nat),ix τ i=τ.set i none
 |[],_=>rfl
 |_::_,0=>rfl
 |o::r,i+1=>by unfold ix;rw[uE r i];rfl
def GD(i:Nat)(t:vn)(D:vo)(τ:jk)(L:ql):Prop:=t { nx:=λI L'=>D.nx (ix I i) L',rt:=D.rt,bk:=λI L'=>D.bk (ix I i) L',ct:=λI L'=>D.ct (ix I i) L' } (ix τ i) L
theorem vg.forget(h:vg G H σ τ)(i:Nat):vg G H (σ.set i none) (ix τ i):=by
 rw[uE];refine⟨by rw[Bt,Bt];exact h.len,λj y e=>?_⟩;by_cases c:i=j
 ·subst c;rw[List.getElem?_set_self'] at e;cases I:τ[i]? with|none=>rw[I] at e;cases e|some o=>rw[I] at e;cases e
 ·rw[Bv c] at e ⊢;exact h.get j y e
theorem y4(x:Str){t:vn}(h:QS { X with N:=X.N.set i x } st t):QS X st (GD i t):=
 EH (Uc h) λD T H p L D3 r C z k=>⟨ix p i,L,_,r.forget i,C,z,
  ⟨λU g j l o I J q=>k.nx _ g _ l o (I.forget i) J q,k.rt,λU g j l o I J q=>k.bk _ g _ l o (I.forget i) J q,λU g j l o I J q=>k.ct _ g _ l o (I.forget i) J q⟩⟩
theorem Ud:bootBuiltins "min"=some (.builtin "min"):=by decide +kernel
def asg(x:Y)(lo hi:Xg)(L:ql)(Q:YK):Prop:=match x with
 |.tup ys=>¬(HT.sIx ys.length 0 lo=0/\HT.sIx ys.length ys.length hi=ys.length)/\Q (.tup<|ox ys lo hi) L
 |_=>False
theorem iC(K:Ai)(P:Xl)(w:Xm)(U:X.K=K:=by rfl)(g:X.prog=P:=by rfl)(hw:X.w=w:=by rfl):si X (Fp ⟨K,P,w⟩ asg):=by
 subst U g hw;refine si.imp O9 λx lo J H Q ψ=>?_;obtain⟨y,L,Q3,j,l,z,k⟩:=ψ;cases y with
 |tup o=>
  obtain⟨a,t,e,sq,r⟩:=j;obtain⟨C,T⟩:=z;exact⟨a,t,e,sq,by rw[<-r.length];exact C,λp I=>k _ _ (.tup<|ox o lo J) L (EE I) (l.skip I) ⟨p,_,rfl,.inl<|.inl zu,(qY r lo J).ts<|EE I⟩ T⟩
 |_=>exact z.elim
theorem xP{a:Addr}{keep:ql->Prop}(h:∀H L,j9 H₀ H->j7 G H L->keep L->∃xs,dh G.K H a xs/\xx G H ys xs):jL G H₀ (FU G.K a) ys keep where
 go:=λi H L t I J U=>by
  obtain⟨xs,sq,r⟩:=h H L t I J;have:i<xs.length:=by rw[<-r.length];exact U
  exact⟨xs,xs[i],sq,Ao this⟩
 yld:=λi H L x o y t I J g ψ=>by obtain⟨e,f⟩:=ψ;subst e;obtain⟨xs,sq,r⟩:=h _ L t I J;obtain⟨p,j,l⟩:=r.get g;have:=f xs sq;rw[j] at this;cases this;exact⟨ED _,I,l⟩
 stop:=λH L t I J=>by obtain⟨xs,sq,r⟩:=h H L t I J;exact⟨xs,sq,by rw[r.length];exact An _⟩
theorem s9(h:QE X e te):QI X tg e (II te):=PI.imq (NX h) λσ H R j L R3 l o z k=>by
 refine⟨j,L,_,l,o,z,λv p y C T I J U=>?_⟩;cases y with
 |tup ys=>
  obtain⟨a,g,e,sq,r⟩:=J;exact⟨a,e,⟨g,sq⟩,k _ p ys (λ_=>True) C T I (xP λH L t _ _=>⟨g,dh.ts sq t,r.ts t⟩) U⟩
 |_=>exact U.elim
theorem Ue{k:Nat}(I:vz k A):A.depth+3<recursionLimit:=by have:=I.dp;omega
abbrev lamQ:Str:="_law_order.<locals>.<lambda>"
open PySem L2 Words
def OkO(ks:List<|Xw):Prop:=∀(p:Nat) (e:Bool) (i j:Nat),ks[p]?=some (some<|.nd e i j)->i<p/\j<p
def zK(ks:List<|Xw)(rks:Xe):Prop:=∀(p:Nat) (e:Bool) (i j:Nat),p<rks.length->ks[p]?=some (some<|.nd e i j)->rks.getD i 0<rks.getD p 0/\rks.getD j 0<rks.getD p 0
theorem nJ{r:Int}(h:i<rks.length):(rks++[r]).getD i 0=rks.getD i 0:=by rw[BA,BA,AD h]
theorem Uf{r:Int}:(rks++[r]).getD rks.length 0=r:=by rw[BA,AK<|An _,Dq];rfl
theorem zK.snoc{r:Int}{k:Xw}(ok:OkO ks)(h:zK ks rks)(U:ks[rks.length]?=some k)(g:∀e i j,k=some (.nd e i j)->rks.getD i 0<r/\rks.getD j 0<r):zK ks (rks++[r]):=by
 intro p e i j I J;obtain⟨l,o⟩:=ok p e i j J;rw[Aa] at I;have I:p<rks.length+1:=I;rw[nJ (show i<rks.length by lia),nJ (show j<rks.length by lia)];by_cases c:p<rks.length
 ·rw[nJ c];exact h p e i j c J
 ·have:p=rks.length:=by lia
  subst this;rw[Uf];exact g e i j<|AY<|U.symm.trans J
def cw(ks:List<|Xw)(qs:Xa):Prop:=qs.Pairwise λx y=>∀e i j,ks[x]?=some (some<|.nd e i j)->y≠i/\y≠j
theorem Ug(ok:OkO ks)(h:zK ks rks)(I:rks.length=ks.length)(hw:qs.Pairwise λi j=>rks.getD i 0*1000000+(i:Int)<=rks.getD j 0*1000000+(j:Int)):cw ks qs:=by refine hw.imp λ{x y} z e i j ex=>?_;obtain⟨J,U⟩:=ok x e i j ex;obtain⟨g,l⟩:=h x e i j (by rw[I];exact qx ex) ex;exact⟨λc=>by subst c;lia,λc=>by subst c;lia⟩
theorem tW(h:i<rks.length):(rks.map Y.int)[i]?=some (.int<|rks.getD i 0):=by rw[Au,BA,Ao h];rfl
theorem aU(a:zv)(b:Y)(r:List<|zv×Y)(k:zv):v4 ((a,b)::r) k=if a=k then some b else v4 r k:=by
 unfold v4;rw[Bz];by_cases h:a=k
 ·rw[Aw h,show decide ((a,b).1=k)=true from Ax h];rfl
 ·rw[Ar h,show decide ((a,b).1=k)=false from AB h]
theorem tJ(k J:zv)(y:Y):∀kvs:List (zv×Y),v4 (kvs.map λU=>if U.1=k then(U.1,y) else U) J=if J=k then(v4 kvs J).map (λ_=>y) else v4 kvs J
 |[]=>by rw[C7];split<;>rfl
 |(a,b)::r=>by
  have g:=tJ k J y r;rw[AO,aU];by_cases h:a=k
  ·rw[Aw<|show(a,b).1=k from h,aU,g];by_cases I:J=k
   ·rw[Aw I,Aw I,Aw<|h.trans I.symm,Aw<|h.trans I.symm];rfl
   ·rw[Ar I,Ar I,Ar λz=>I<|z.symm.trans h,Ar λz=>I<|z.symm.trans h]
  ·rw[Ar<|show ¬(a,b).1=k from h,aU,g];by_cases I:J=k
   ·rw[Aw I,Aw I,Ar λz=>h<|z.trans I,Ar λz=>h<|z.trans I]
   ·rw[Ar I,Ar I]
theorem ud(k I:zv)(y:Y):∀kvs:List (zv×Y),v4 (kvs++[(k,y)]) I=(v4 kvs I).or (if k=I then some y else none)
 |[]=>by rw[CZ,aU];have:v4 [] I=none:=rfl;rw[this];split<;>rfl
 |(a,b)::r=>by rw[List.cons_append,aU,aU,ud k I y r];split<;>rfl
theorem uu(k:zv):∀kvs:List (zv×Y),(kvs.any λI=>decide<|I.1=k)=(v4 kvs k).isSome
 |[]=>rfl
 |(a,b)::r=>by
  rw[Ck,aU,uu k r];by_cases h:a=k
  ·rw[Aw h,show decide ((a,b).1=k)=true from Ax h];rfl
  ·rw[Ar h,show decide ((a,b).1=k)=false from AB h];rfl
theorem mj(kvs:List<|zv×Y)(k I:zv)(y:Y):v4 (kD kvs k y) I=if I=k then some y else v4 kvs I:=by
 unfold kD;rw[uu];cases e:v4 kvs k with
 |some v=>
  rw[Aw<|show(some v).isSome=true from rfl,tJ];by_cases h:I=k
  ·rw[Aw h,Aw h,h,e];rfl
  ·rw[Ar h,Ar h]
 |none=>
  rw[Ar (by simp),ud];by_cases h:I=k
  ·rw[Aw h,h,e,Aw rfl];rfl
  ·rw[Ar h,Ar λz=>h z.symm];cases v4 kvs I<;>rfl
theorem iD(kvs:List<|zv×Y)(k:zv)(y:Y):(kD kvs k y).length<=kvs.length+1:=by
 unfold kD;split
 ·rw[Ah];omega
 ·rw[Aa];simp
def l9(f:Xh):Xw->Xw
 |some (.nd e i j)=>some<|.nd e (f i)<|f j
 |k=>k
theorem xV{f g:Xh}:∀{k:Xw},(∀e i j,k=some (.nd e i j)->f i=g i/\f j=g j)->l9 f k=l9 g k
 |none,_=>rfl
 |some (.lf _ _),_=>rfl
 |some (.nd e i j),h=>by obtain⟨a,b⟩:=h e i j rfl;show some (Kn.nd e (f i)<|f j)=some (Kn.nd e (g i)<|g j);rw[a,b]
structure wO(ks:List<|Xw)(ps:Xa)(f:Xh)(wd:List<|Xw):Prop where
 at_:∀p∈ps,∀k,ks[p]?=some k->wd[f p]?=some (l9 f k)
 inj:∀p∈ps,∀q∈ps,f p=f q->p=q
 only:∀x k,wd[x]?=some (some k)->∃p∈ps,x=f p
 ok:OkO wd
theorem wO.nil(ks:List<|Xw)(f:Xh):wO ks [] f []:=⟨λp I=>(Bo I).elim,λp I=>(Bo I).elim,λx k h=>(by simp at h),λp e i j h=>(by simp at h)⟩
theorem OkO.gap(h:OkO wd):OkO (wd++[none]):=by
 intro p e i j I;by_cases c:p<wd.length
 ·rw[AD c] at I;exact h p e i j I
 ·rw[AK (by exact Fk)] at I;cases J:p-wd.length with|zero=>rw[J] at I;cases I|succ m=>rw[J] at I;cases I
theorem wO.gap{ps:Xa}{f:Xh}(h:wO ks ps f wd):wO ks ps f (wd++[none]):=by
 refine⟨λp U k g=>jR<|h.at_ p U k g,h.inj,λx k I=>?_,h.ok.gap⟩;by_cases c:x<wd.length
 ·rw[AD c] at I;exact h.only x k I
 ·rw[AK (by lia)] at I;cases J:x-wd.length with|zero=>rw[J] at I;cases I|succ m=>rw[J] at I;cases I
theorem wO.lt{ps:Xa}{f:Xh}(h:wO ks ps f wd)(hp:p∈ps)(I:p<ks.length):f p<wd.length:=qx<|h.at_ p hp _<|Ao I
theorem wO.step{ps:Xa}{f:Xh}(h:wO ks ps f wd)(r:∀p∈ps,p<ks.length){k:Xw}(hp:p∉ps)(C:ks[p]?=some k)(o:∀x∈ps,∀e i j,ks[x]?=some (some<|.nd e i j)->i∈ps/\j∈ps)(J:∀e i j,k=some (.nd e i j)->i∈ps/\j∈ps):
 wO ks (ps++[p]) (λx=>if x=p then wd.length else f x) (wd++[l9 f k]):=by
 have old:∀x∈ps,(if x=p then wd.length else f x)=f x:=λx I=>Ar λ(c:x=p)=>hp<|c▸I;have ren:∀l,(∀e i j,l=some (.nd e i j)->i∈ps/\j∈ps)->l9 (λx=>if x=p then wd.length else f x) l=l9 f l:=λl U=>xV λe i j z=>by obtain⟨a,b⟩:=U e i j z;exact⟨old i a,old j b⟩
 refine⟨λx I l U=>?_,λx I y g e=>?_,λx l I=>?_,λx e i j I=>?_⟩
 ·rcases Ak.mp I with I|I
  ·show(wd++[l9 f k])[if x=p then wd.length else f x]?=_;rw[old x I,ren l λe i j z=>o x I e i j (by rw[U,z])];exact jR<|h.at_ x I l U
  ·have I:=Aj.mp I;subst I;rw[C] at U;cases U;show(wd++[l9 f k])[if x=x then wd.length else f x]?=_;rw[Aw rfl,ren k J];exact fO wd _ []
 ·have e:(if x=p then wd.length else f x)=if y=p then wd.length else f y:=e
  rcases Ak.mp I with I|I<;>rcases Ak.mp g with g|g
  ·rw[old x I,old y g] at e;exact h.inj x I y g e
  ·cases Aj.mp g;rw[old x I,Aw rfl] at e;have:=h.lt I<|r x I;lia
  ·cases Aj.mp I;rw[old y g,Aw rfl] at e;have:=h.lt g<|r y g;lia
  ·rw[Aj.mp I,Aj.mp g]
 ·by_cases c:x<wd.length
  ·rw[AD c] at I;obtain⟨q,t,e⟩:=h.only x l I;exact⟨q,Al _ t,by rw[e];exact(old q t).symm⟩
  ·refine⟨p,Ac _<|Aj.mpr rfl,?_⟩;have:=qx I;rw[Aa] at this;have:x<wd.length+1:=this;show x=if p=p then wd.length else f p
   rw[Aw rfl];lia
 ·by_cases c:x<wd.length
  ·rw[AD c] at I;exact h.ok x e i j I
  ·have:=qx I;rw[Aa] at this;have:x<wd.length+1:=this;have:x=wd.length:=by lia
   subst this;rw[AK<|An _,Dq] at I;have I:l9 f k=some (.nd e i j):=AY I;cases k with
   |none=>cases I
   |some k=>
    cases k with
    |lf=>cases I
    |nd T i' j'=>
     obtain⟨a,b⟩:=J T i' j' rfl;cases I;exact⟨h.lt a<|r _ a,h.lt b<|r _ b⟩
theorem o9(ok:OkO ks)(pm:qs.Perm<|List.range ks.length)(U:cw ks qs)(hp:qs[n]?=some p){e:Bool}(h:ks[p]?=some (some<|.nd e i j)):i∈qs.take n/\j∈qs.take n:=by
 obtain⟨C,T⟩:=ok p e i j h;have hl:=qx h;have o:=qx hp;have ind:∀x,x<ks.length->x≠p->(∀y∈qs.drop (n+1),y≠x)->x∈qs.take n:=λx t ne g=>by
  have I:x∈qs:=pm.mem_iff.mpr<|AZ.mpr t;have l:qs=qs.take n++p::qs.drop (n+1):=by rw[Ao o] at hp;rw[<-AY hp,Cv,A3]
  rw[l] at I;rcases Ak.mp I with I|I
  ·exact I
  ·rcases Am.mp I with I|I
   ·exact absurd I ne
   ·exact absurd rfl<|g x I
 have r:∀y∈qs.drop (n+1),y≠i/\y≠j:=λy J=>by
  have l:qs=qs.take n++p::qs.drop (n+1):=by rw[Ao o] at hp;rw[<-AY hp,Cv,A3]
  unfold cw at U;rw[l] at U;have:=(AV.mp U).2.1;exact(List.pairwise_cons.mp this).1 y J e i j h
 exact⟨ind i (by exact rA) (by exact Ig) λy J=>(r y J).1,ind j (by exact rA) (by exact Ig) λy J=>(r y J).2⟩
def pI(p q:Xi):Prop:=p.1<q.1\/(p.1=q.1/\p.2<=q.2)
def u3(p:Xi):Int×Int:=((p.1:Int),(p.2:Int))
theorem zH{p q:Xi}(h:u3 p=u3 q):p=q:=by obtain⟨a,b⟩:=p;obtain⟨c,d⟩:=q;have I:(a:Int)=c:=BS Prod.fst h;have J:(b:Int)=d:=BS Prod.snd h;rw[CW.mp I,CW.mp J]
theorem tf(ps:W6):j4 ps=(ps.map u3).map Fe:=by rw[B4];rfl
theorem J0{a:Addr}{ps:W6}{Q:YK}(U:L a=some (.lst<|j4 ps))(g:∀p∈ps,p.2<1000000)(nd:ps.Nodup)(j:ps.length<=127)
 (q:∀D qs,L D=none->qs.Perm ps->qs.Pairwise pI->Q (.ref D) (qe L D<|.lst<|j4 qs)):ny [.ref a] L Q:=by
 refine qp U ⟨ps.map u3,tf ps,λp l=>?_,?_,by rw[Ah];exact j,λD qs o pm t=>?_⟩
 ·obtain⟨r,C,rfl⟩:=Bm.mp l;have:=g r C;exact⟨A8 _,by show((r.2:Nat):Int)<1000000;omega⟩
 ·exact sj (λx _ y _ e=>zH e) nd
 ·obtain⟨T,pT,rfl⟩:=pU u3 pm rfl;rw[<-tf];refine q D T o pT<|(BV.mp t).imp λ{x y} z=>?_;unfold pI;rcases z with z|⟨I,J⟩
  ·left;have z:((x.1:Nat):Int)<y.1:=z;lia
  ·right;have I:((x.1:Nat):Int)=y.1:=I;have J:((x.2:Nat):Int)<=y.2:=J;exact⟨by lia,by lia⟩
structure sT(L0:ql)(ks:List<|Xw)(qs:Xa)(d w D:Addr)(i ex:Nat)(f:Xh)(wd:List<|Xw)(kvs:List<|zv×Y)(L:ql):Prop where
 sub:qh L0 L
 hd:L d=some (.dct kvs)
 hw:L w=some (.lst<|aM wd)
 hD:L D=some (.lst<|nY qs)
 len:kvs.length<=i
 val:∀p:Nat,v4 kvs (.inl (p:Int))=if p∈qs.take i then some (.int (f p:Int)) else none
 gap:wO ks (qs.take i) f wd
 wlen:wd.length<=2*i+ex
structure J1(f:Xh)(ks wd:List<|Xw):Prop where
 gap:wO ks (List.range ks.length) f wd
 len:wd.length<=2*ks.length+1
theorem tV(wd:List<|Xw)(k:Xw):aM wd++[l6 k]=aM (wd++[k]):=by unfold aM;rw[AG];rfl
theorem gK(wd:List<|Xw):(aM wd).length=wd.length:=Ah ..
theorem sT.wide{w D:Addr}{ex ex':Nat}{f:Xh}{wd':List<|Xw}(G:sT L0 ks qs d w D i ex f wd kvs L)(U:L0 w=none)(I:d≠w)(J:w≠D)(g:wO ks (qs.take i) f wd')(h:wd'.length<=2*i+ex'):
 sT L0 ks qs d w D i ex' f wd' kvs (qe L w<|.lst<|aM wd'):=
 ⟨G.sub.upd U,(qb I).trans G.hd,q9,(qb<|AQ J).trans G.hD,G.len,G.val,g,h⟩
def ze:Ru->W7
 |.link p q=>[(p,q)]
 |.ei _ A=>ze A
 |.bo _ A B=>ze A++ze B
 |.cu _ _ A B=>ze A++ze B
def zb:Ru->W7
 |.link _ _=>[]
 |.ei _ A=>zb A
 |.bo _ A B=>zb A++zb B
 |.cu p q A B=>(p,q)::(zb A++zb B)
def jB:Ru->Nat
 |.link _ _=>1
 |.ei _ A=>jB A+1
 |.bo _ A B=>jB A+jB B+1
 |.cu _ _ A B=>jB A+jB B+1
def wz:Ru->Xy
 |.link _ _=>[]
 |.ei _ A=>[A]
 |.bo _ A B=>[A,B]
 |.cu _ _ A B=>[A,B]
def tD:Ru->W7
 |.link p q=>[(p,q)]
 |_=>[]
def wH:Ru->W7
 |.cu p q _ _=>[(p,q)]
 |_=>[]
theorem wW(A:Ru):ze A=tD A++(wz A).flatMap ze:=by cases A<;>simp[ze,tD,wz]
theorem Uh(A:Ru):zb A=wH A++(wz A).flatMap zb:=by cases A<;>simp[zb,wH,wz]
theorem Ui(A:Ru):((wz A).map jB).sum+1=jB A:=by cases A<;>simp[jB,wz]
theorem qO{A B:Ru}(h:B∈wz A):x9 B<x9 A:=by cases A<;>simp[wz] at h<;>(try rcases h with rfl|rfl)<;>(try subst h)<;>simp[x9]<;>omega
theorem qF(l:W6)(p:Xi):j4 l++[Gy p]=j4 (l++[p]):=by unfold j4;rw[AG];rfl
def tF(m:Xh)(e:Xi):Xh:=λx=>if m x=m e.1 then m e.2 else m x
def se(es:W6)(m:Xh):Xh:=es.foldl tF m
def jI(n:Nat)(m:Xh):Nat:=(List.range n).countP λx=>decide<|m x=x
def Mk(n:Nat)(m:Xh):Prop:=∀x,x<n->m x<n/\m (m x)=m x
theorem Mk.step{m:Xh}{e:Xi}(h:Mk n m)(h1:e.1<n)(h2:e.2<n):Mk n (tF m e):=λx I=>by
 obtain⟨J,U⟩:=h _ h2;obtain⟨b1,b2⟩:=h _ I;unfold tF;by_cases c:m x=m e.1
 ·rw[Aw c];refine⟨J,?_⟩;rw[U,ite_self]
 ·rw[Ar c];refine⟨b1,?_⟩;rw[b2,Ar c]
theorem Uj{m:Xh}{e:Xi}{x y:Nat}(h:m x=m y):tF m e x=tF m e y:=by unfold tF;rw[h]
theorem Uk(m:Xh)(e:Xi):tF m e e.1=tF m e e.2:=by
 unfold tF;rw[Aw rfl];by_cases c:m e.2=m e.1
 ·rw[Aw c]
 ·rw[Ar c]
theorem J2:∀(es:W6) {m:Xh} {x y:Nat},m x=m y->se es m x=se es m y
 |[],_,_,_,h=>h
 |e::r,m,_,_,h=>J2 r (m:=tF m e)<|Uj h
theorem mF:∀(es:W6) (m:Xh),∀e∈es,se es m e.1=se es m e.2
 |[],_,e,h=>by cases h
 |d::r,m,e,h=>by
  rcases Am.mp h with rfl|h
  ·exact J2 r<|Uk m e
  ·exact mF r (tF m d) e h
theorem Ul{m:Xh}{e:Xi}(c:m e.1=m e.2):jI n (tF m e)=jI n m:=by
 have:tF m e=m:=funext λx=>by
  unfold tF;by_cases d:m x=m e.1
  ·rw[Aw d,d,c]
  ·rw[Ar d]
 rw[this]
theorem Um{m:Xh}{e:Xi}(h:Mk n m)(h1:e.1<n)(h2:e.2<n)(c:m e.1≠m e.2):jI n (tF m e)+1=jI n m:=by
 obtain⟨U,I⟩:=h _ h1;have b:=bW (p:=λx=>decide<|m x=x) (a:=m e.1) (Ax I) (l:=List.range n) BG<|AZ.mpr U;unfold jI;rw[<-b];congr 1;refine BW λx J=>?_;have J:=AZ.mp J;rw[AU,B8,B8,Bool.not_eq_true',decide_eq_false_iff_not];unfold tF;constructor
 ·intro z;by_cases d:m x=m e.1
  ·rw[Aw d] at z;rw[<-z,(h _ h2).2] at d;exact absurd d.symm c
  ·rw[Ar d] at z;exact⟨z,λy=>d (by rw[y,I])⟩
 ·rintro⟨z,y⟩;rw[Ar λd=>y<|z.symm.trans d];exact z
theorem vC:∀(es:W6) {n:Nat} {m:Xh},Mk n m->(∀e∈es,e.1<n/\e.2<n)->jI n m<=jI n (se es m)+es.length/\(jI n (se es m)+es.length<=jI n m->∀i e,es[i]?=some e->se (es.take i) m e.1≠se (es.take i) m e.2)
 |[],n,m,_,_=>⟨An _,λ_ i e h=>by simp at h⟩
 |d::r,n,m,h,J=>by
  obtain⟨d1,d2⟩:=J d<|Ag ..;obtain⟨g,U⟩:=vC r (h.step d1 d2) λe I=>J e<|Ae _ I;have eq:se (d::r) m=se r (tF m d):=rfl;rw[eq,Az];by_cases c:m d.1=m d.2
  ·have s:=Ul (n:=n) c;exact⟨by lia,λz=>by lia⟩
  ·have s:=Um h d1 d2 c;refine⟨by lia,λz i e I=>?_⟩;cases i with|zero=>cases I;exact c|succ i=>exact U (by lia) i e I
theorem Uo(n:Nat):Mk n id:=λ_ h=>⟨h,rfl⟩
theorem Uq(n:Nat):jI n id=n:=by unfold jI;refine Eq.trans (Cd.mpr λi _=>Ax rfl) Ba
theorem zA:∀(l T:Xa),l.Nodup->(∀x∈l,x∈T)->l.length<=T.length
 |[],_,_,_=>A2 _
 |a::r,T,nd,h=>by obtain⟨U,g⟩:=AC.mp nd;have I:=h a<|Ag ..;have:=zA r (T.erase a) g λx J=>(List.mem_erase_of_ne (λe:x=a=>U<|e▸J)).mpr<|h x<|Ae _ J;rw[List.length_erase_of_mem I] at this;have:=Cu I;rw[Az];omega
theorem Ur{I:W6}{T:Xa}(J:∀e∈I,e.1<n/\e.2<n)(h:∀x,x<n->∃t∈T,se I id x=se I id t):n<=T.length+I.length:=by
 have U:=(vC I (Uo n) J).1;rw[Uq] at U;have g:jI n (se I id)<=(T.map<|se I id).length:=by unfold jI;rw[Be];refine zA _ _ (BG.filter _) λx j=>?_;obtain⟨l,o⟩:=AN.mp j;obtain⟨t,p,e⟩:=h x<|AZ.mp l;exact Bm.mpr ⟨t,p,e.symm.trans<|of_decide_eq_true o⟩
 rw[Ah] at g;omega
def i_(ks:List<|Xw)(p b:Nat):Nat:=match ks[p]? with
 |some (some<|.nd _ i j)=>if b=0 then i else j
 |_=>p
theorem oX{e:Bool}(h:ks[p]?=some (some<|.nd e i j))(b:Nat):i_ ks p b=if b=0 then i else j:=by unfold i_;rw[h]
open Classical in
def t_(ks:List<|Xw)(es bs:Xa):W7:=List.zipWith (λp b=>(p,i_ ks p b)) es bs
theorem uJ(n:Nat):cr (λ_=>0) (List.range n):=λi h e=>by
 have I:i<n:=by have:=qx e;rwa[Ba] at this
 rw[BX I] at e;cases e;exact⟨by rw[Ba];exact I,λz=>absurd rfl z⟩
theorem zQ(n:Nat):dY (List.range n)=n:=by unfold dY;rw[Ba];refine Eq.trans (Cd.mpr λi I=>?_) Ba;exact Ax<|BX<|AZ.mp I
theorem Us :(xi ks lk ct).length<=lk.length+ct.length+2*ks.length:=by unfold xi;rw[Aa,Aa];have I:=fv ks<|jb false ks;have J:(jb false ks).length<=ks.length:=gC (bY false) ks ks.length;lia
def vk(lk:W6):Xa:=lk.flatMap λx=>[x.1,x.2]
theorem kq(a b:W6):vk (a++b)=vk a++vk b:=by unfold vk;rw[AJ]
theorem dw(x:Xi):vk [x]=[x.1,x.2]:=by simp[vk]
theorem eV(lk:W6):(vk lk).length=2*lk.length:=by
 induction lk with
 |nil=>rfl
 |cons x r I=>
  have:=kq [x] r;rw[Cc] at this;rw[this,Aa,I,dw,Az];simp;exact DY _ _
theorem sE{f:Xw->Bool}{k:Xw}(h:ks[p]?=some k)(I:f k=true)(hi:p<i):p∈kY f ks i:=by unfold kY;refine AN.mpr ⟨AZ.mpr hi,?_⟩;simp only[h];exact I
theorem yJ(m:Nat)(l:Xa):yW (iG<|.int (m:Int)) ((nY l).map iG)=decide (m∈l):=by
 induction l with
 |nil=>rfl
 |cons n r I=>
  have e:yW (iG<|.int (m:Int)) ((nY<|n::r).map iG)=(l5 (iG<|.int (n:Int)) (iG<|.int (m:Int))||yW (iG<|.int (m:Int)) ((nY r).map iG)):=rfl;rw[e,I];have J:l5 (iG<|.int (n:Int)) (iG<|.int (m:Int))=decide (n=m):=mR n m;rw[J];by_cases c:n=m
  ·subst c;simp
  ·by_cases d:m∈r
   ·simp[d]
   ·simp[c,d,AQ c]
theorem yr(l:Xa):(nY l).all kZ=true:=by rw[CO];intro y I;obtain⟨n,_,rfl⟩:=Bm.mp I;rfl
theorem ku{c:Xi}(h:c∈ct):c.1∈vk ct/\c.2∈vk ct:=by
 induction ct with
 |nil=>cases h
 |cons d r I=>
  have e:vk (d::r)=[d.1,d.2]++vk r:=by rw[<-dw,<-kq];rfl
  rw[e];rcases Am.mp h with rfl|h
  ·simp
  ·obtain⟨a,b⟩:=I h;exact⟨Ac _ a,Ac _ b⟩
theorem eE{x:Nat}(h:x∈vk ct):∃c∈ct,x=c.1\/x=c.2:=by
 induction ct with
 |nil=>cases h
 |cons d r I=>
  have e:vk (d::r)=[d.1,d.2]++vk r:=by rw[<-dw,<-kq];rfl
  rw[e] at h;rcases Ak.mp h with h|h
  ·exact⟨d,Ag ..,by simpa using h⟩
  ·obtain⟨c,J,U⟩:=I h;exact⟨c,Ae _ J,U⟩
theorem ke(c:Xi)(r:W6):vk (c::r)=c.1::c.2::vk r:=by
 have e:vk (c::r)=[c.1,c.2]++vk r:=by rw[<-dw,<-kq];rfl
 rw[e];rfl
theorem gE{l m:W6}(h:l.Perm m):(vk l).Perm (vk m):=by
 induction h with
 |nil=>exact .nil
 |cons x _ I=>rw[ke,ke];exact(I.cons _).cons _
 |swap x y l=>
  rw[ke,ke,ke,ke];exact(BO (l₁:=[y.1,y.2]) (l₂:=[x.1,x.2])).append_right (vk l)
 |trans _ _ J U=>exact J.trans U
theorem bU:∀{l:W6},(vk l).Nodup->l.Nodup
 |[],_=>Dv
 |c::r,h=>by rw[ke] at h;have I:=AC.mp h;have J:=AC.mp I.2;exact AC.mpr ⟨λU=>I.1<|Ae _ (ku U).1,bU J.2⟩
theorem Ut{l:W6}(nd:l.Nodup){x y:Xi}(I:x∈l)(J:y∈l)(ne:x≠y):l.Perm (x::y::l.filter λz=>decide (z≠x)&&decide (z≠y)):=by
 refine(A9 nd ?_).mpr λz=>?_
 ·refine AC.mpr ⟨λh=>?_,AC.mpr ⟨λh=>?_,nd.filter _⟩⟩
  ·rcases Am.mp h with h|h
   ·exact ne h
   ·simp at h
  ·simp at h
 ·by_cases c1:z=x
  ·subst c1;simp[I]
  ·by_cases c2:z=y
   ·subst c2;simp[J]
   ·simp[c1,c2]
theorem cJ:∀R:Ru,jB R+1<=(qg R).length
 |.link _ _=>An _
 |.ei r A=>by have:=cJ A;show jB A+1+1<=(r::qg A).length;rw[Az];exact EZ
 |.bo r A B=>by have:=cJ A;have:=cJ B;show jB A+jB B+1+1<=(r::(qg A++qg B)).length;rw[Az,Aa];lia
 |.cu _ _ A B=>by have:=cJ A;have:=cJ B;show jB A+jB B+1+1<=(qg A++qg B).length;rw[Aa];lia
theorem Uu{ks:Xv}(ok:eU ks):OkO (ks.map some):=by intro p e i j h;rw[Au] at h;obtain⟨k,I,J⟩:=AI.mp h;cases J;exact ok p _ I
theorem Uv(ks:Xv):aM (ks.map some)=w5 ks:=by show(ks.map some).map l6=ks.map vI;rw[B4];rfl
def GF(wd:List<|Xw):Prop:=∀(p:Nat) (e:Bool) (i j:Nat),wd[p]?=some (some<|.nd e i j)->(∃k,wd[i]?=some (some k))/\∃k,wd[j]?=some (some k)
noncomputable def kO:RD "_law_copy" du 0 ["_law_web_here"] (λ_=>True):=⟨_,λV B c _ _ _ _ _ _ _ I hN J=>(qd<|qr<|zh<|aW (cV fF rfl B.be bZ<|jo<|J_ 0) (cV fF rfl B.be bZ<|jo<|J_ 0)<|cV fF rfl B.be bZ<|jo<|J_ 0)⟩
noncomputable def uN:vn:=(kO).1
def a6(wd:List<|Xw):Xa:=wd.flatMap jp
theorem mw(wd:List<|Xw)(k:Xw):a6 (wd++[k])=a6 wd++jp k:=by unfold a6;rw[AJ,AR,CQ,Av]
theorem wT(k:Xw):(jp k).length<=2:=by cases k with|none=>exact A2 _|some k=>cases k with|lf t n=>exact A2 _|nd e i j=>exact An _
theorem qE(wd:List<|Xw):(a6 wd).length<=2*wd.length:=by
 induction wd with
 |nil=>exact An _
 |cons k r I=>
  have e:a6 (k::r)=jp k++a6 r:=AR ..;have:=wT k;rw[e,Aa,Az];lia
def dX(wd:List<|Xw)(p:Nat):Bool:=match wd[p]? with
 |some (some _)=>true
 |_=>false
def m8(wd:List<|Xw)(us:Xa)(p:Nat):Bool:=dX wd p&&!(decide<|p∈us)
def aj(wd:List<|Xw)(us:Xa)(i:Nat):Xa:=(List.range i).filter<|m8 wd us
theorem mz(wd:List<|Xw)(us:Xa)(i:Nat):aj wd us (i+1)=aj wd us i++if m8 wd us i=true then [i] else []:=by unfold aj;rw[Ei,Bp];congr 1;rw[BH,Cw]
def wx(wd:List<|Xw)(ct:W6):Xa:=a6 wd++vk ct
inductive lg(ys:List Y)(L:ql)(Q:YK):Prop
 |mk:∀a l c,∀xs zs us:List Y,(ys=[bJ a l c])->(L a=some (.lst xs))->(L l=some (.lst zs))->(L c=some (.lst us))->(∀a' l' c' L',qh L L'->L a'=none->L l'=none->L c'=none->a'≠l'->a'≠c'->l'≠c'->L' a'=some (.lst xs)->L' l'=some (.lst zs)->L' c'=some (.lst us)->Q (bJ a' l' c') L')->lg ys L Q
theorem Uw:∀ys L Q,lg ys L Q->jj uN 1 ys L Q:=by rintro ys L Q ⟨a,l,c,xs,zs,us,rfl,ha,hl,hc,q⟩;refine qc ha λj h1=>?_;have p:=By (o:=.lst xs) h1;refine qc (p _ _ hl) λr t=>?_;have C:=p.trans<|By (o:=.lst zs) t;refine qc (C _ _ hc) λT g=>?_;have I:j≠r:=xu q9 t;have J:r≠T:=xu q9 g;have U:j≠T:=xu ((qb I).trans q9) g;exact jv<|q j r T _ (C.trans<|By g) h1 (p.none t) (C.none g) I U J ((qb U).trans<|(qb I).trans q9) ((qb J).trans q9) q9
structure Ux(wd:List<|Xw):Prop where
 ne:∀(p:Nat) (e:Bool) (i j:Nat),wd[p]?=some (some<|.nd e i j)->i≠j
 un:∀(p q:Nat) (k l:Kn) (x:Nat),wd[p]?=some (some k)->wd[q]?=some (some l)->x∈jp (some k)->x∈jp (some l)->p=q
theorem qG{x:Nat}(h:x∈a6 wd):∃(p:Nat) (k:Kn),wd[p]?=some (some k)/\x∈jp (some k):=by
 obtain⟨o,J,I⟩:=Ay.mp h;obtain⟨p,e⟩:=Di J;cases o with
 |none=>cases I
 |some k=>exact⟨p,k,e,I⟩
theorem jD{x:Nat}{k:Kn}(h:wd[p]?=some (some k))(I:x∈jp (some k)):x∈a6 wd:=Ay.mpr ⟨_,AF h,I⟩
theorem qN{f:Xh}:∀{l:Xa},l.Nodup->(∀a∈l,∀b∈l,f a=f b->a=b)->(l.map f).Nodup
 |[],_,_=>Dv
 |a::r,h,g=>by obtain⟨J,U⟩:=AC.mp h;rw[AO,AC];refine⟨λz=>?_,qN U λx j y o=>g x (Ae _ j) y<|Ae _ o⟩;obtain⟨b,I,e⟩:=Bm.mp z;exact J<|g b (Ae _ I) a (Ag ..) e▸I
def lQ(f:Xh):Ru->Ru
 |.link p q=>.link (min (f p)<|f q)<|max (f p)<|f q
 |.ei r A=>.ei (f r)<|lQ f A
 |.bo r A B=>.bo (f r) (lQ f A)<|lQ f B
 |.cu p q A B=>.cu (f p) (f q) (lQ f A)<|lQ f B
theorem gL(f:Xh):∀R:Ru,(qg<|lQ f R).Perm<|(qg R).map f
 |.link p q=>by
  show [min (f p)<|f q,max (f p)<|f q].Perm [f p,f q];by_cases h:f p<=f q
  ·rw[Cy h,Df h]
  ·rw[Nat.min_eq_right (by lia),Dk (by lia)];exact List.Perm.swap _ _ _
 |.ei r A=>(gL f A).cons _
 |.bo r A B=>by show(f r::(qg (lQ f A)++qg (lQ f B))).Perm (f r::(qg A++qg B).map f);rw[AG];exact((gL f A).append<|gL f B).cons _
 |.cu p q A B=>by show(qg (lQ f A)++qg (lQ f B)).Perm ((qg A++qg B).map f);rw[AG];exact(gL f A).append (gL f B)
def fQ:Ru->Xy
 |.link p q=>[.link p q]
 |.ei r A=>.ei r A::fQ A
 |.bo r A B=>.bo r A B::(fQ A++fQ B)
 |.cu p q A B=>.cu p q A B::(fQ A++fQ B)
theorem uF(A:Ru):fQ A=A::(wz A).flatMap fQ:=by cases A<;>simp[fQ,wz]
end L3
namespace TS
open PySem PyProof.Rows PySem.W
section
variable {prog:Xl}{w:Xm}
def IntV(v:Xj):Prop:=∃i t,v=.int i t
noncomputable def nmI(x:Keyed):Int:=match x.1 with
 |.int i _=>i
 |_=>0
theorem ajv:yS prog w A s oneType' (λx=>IntV x.1) nmI:=by
 constructor;rintro x y ⟨i,t,I⟩ ⟨j,u,J⟩ E Q h;have U:nmI x=i:=by unfold nmI;rw[I]
 have g:nmI y=j:=by unfold nmI;rw[J]
 rw[U,g] at h;rw[I,J];exact kat_lt_int h
theorem uD:∀{vs:W8},(∀v∈vs,IntV v)->∃I,IntsAre vs I
 |[],_=>⟨[],.nil⟩
 |v::r,h=>by obtain⟨i,t,rfl⟩:=h v<|Ag ..;obtain⟨I,k⟩:=uD (vs:=r) λu J=>h u<|Ae _ J;exact⟨_,.cons i t k⟩
theorem Uy(h:∀v∈vs,IntV v)(h2:¬vs.length<2):keyKind' vs.toArray=pure oneType':=by
 obtain⟨I,k⟩:=uD h
 match vs,k,h2 with
 |[],_,h2=>exact absurd (Nat.zero_lt_succ 1) h2
 |[_],_,h2=>exact absurd (Br 1) h2
 |_::_::_,k,_=>exact keyKind_ints k
theorem w_sortedI(J:s.heap.IsList l vs.toArray)(hz:vs.length<=127)(I:∀v∈vs,IntV v)
 (h:∀h' tk (xs:Xz) D c,s.heap.objs.size<=D->(∀b o,s.heap.get? b=some o->h'.get? b=some o)->h'.get? D=some (seqObj "list" (List.toArray (xs.map (·.2))) c)->xs.Perm (vs.zip vs)->(xs.Pairwise λx y=>nmI x<=nmI y)->Q (.ref D) { s with heap:=h',toks:=tk }):
 wpAny (model prog w) A (call (.builtin "sorted") [.ref l]) Q E s:=by
 exact jS J hz (λA E g _=>⟨⟨λx y U j=>ajv.lt x y (I _ (mem_self_zip U).1)<|I _ (mem_self_zip j).1⟩,λp Q q=>by rw[Uy I p];exact Ap q⟩) h
end
end TS
namespace L2
open PySem PySem.Spec PyProof.Rows
theorem o8:∀{I:Xe} {vs:W8},zn (I.map V.int) vs->IntsAre vs I
 |[],_,.nil=>.nil
 |n::_,_,.cons ψ p=>by obtain⟨t,e⟩:=ψ;subst e;exact .cons n t<|o8 p
theorem tG:∀{vs:W8} {I:Xe},IntsAre vs I->(vs.zip vs).map TS.nmI=I
 |_,_,.nil=>rfl
 |_,_,.cons n t h=>by rw[Dt,AO,tG h];rfl
theorem uv:∀{vs:W8} {I:Xe},IntsAre vs I->∀v∈vs,TS.IntV v:=by
 intro vs I h
 induction h with
 |nil=>intro v h;cases h
 |cons n t k J=>
  intro v h;rcases Am.mp h with rfl|h
  ·exact⟨n,t,rfl⟩
  ·exact J v h
theorem uT:∀{xs:List PyProof.Rows.Keyed},(∀x∈xs,TS.IntV x.1/\x.1=x.2)->zn ((xs.map TS.nmI).map V.int) (xs.map (·.2))
 |[],_=>.nil
 |x::r,h=>by obtain⟨⟨i,t,e⟩,I⟩:=h x<|Ag ..;refine .cons ⟨t,?_⟩<|uT λy J=>h y<|Ae _ J;show x.2=Value.int (TS.nmI x) t;rw[<-I,e];unfold TS.nmI;rw[e]
def Uz(X:Cx):Xp->Hp->VK->Prop:=λxs H Q=>∃(l:Addr) (I:Xe),xs=[.ref l]/\aY X.K H l (I.map V.int)/\I.length<=127/\
 ∀(D:Addr) (ms:Xe),H D=none->ms.Perm I->ms.Pairwise (λa b:Int=>a<=b)->Q (.ref D) (upd H D<|.lst<|ms.map V.int)
theorem wN:jg X (.builtin "sorted") (Uz X):=by
 intro p s σ H xs us Q I r h;obtain⟨l,t,rfl,hl,J,q⟩:=h;obtain⟨u,rfl,ru⟩:=r.one;cases (show u=Value.ref l from ru);obtain⟨g,C,pl,hz⟩:=I.list hl;have j:=o8 C;have l1:t.length=g.length:=by have:=C.length;rw[Ah] at this;exact this
 refine jq I.tk (TS.w_sortedI pl.isList (by rw[<-l1];exact J) (uv j) λh' tk U D c T hk hg pm pw ht=>?_);have mk:∀x∈U,TS.IntV x.1/\x.1=x.2:=λx hx=>by obtain⟨m1,m2⟩:=TS.mem_self_zip<|pm.mem_iff.mp hx;exact⟨uv j _ m1,m2⟩
 have pn:(U.map TS.nmI).Perm t:=by rw[<-tG j];exact pm.map _
 refine⟨.ref D,_,I.laid (t':=tk) (o:=.lst<|(U.map TS.nmI).map V.int) hk T ⟨?_,U.map (·.2),c,uT mk,hg⟩,rfl,q D _ (I.hok.fresh T) pn<|BV.mpr pw⟩;rw[Ah,pn.length_eq,<-Ah (f:=V.int)];exact hz
end L2
namespace L3
open PySem L2
def J3(xs:List Y)(L:ql)(Q:YK):Prop:=match xs with
 |[.ref a]=>cz L a λys=>∃I:Xe,ys=I.map Y.int/\I.length<=127/\∀(D:Addr) (ms:Xe),L D=none->ms.Perm I->ms.Pairwise (λa b:Int=>a<=b)->Q (.ref D) (qe L D<|.lst<|ms.map Y.int)
 |_=>False
theorem yg{G:G3}{H:Hp}:∀{I:Xe} {xs:Xp},xx G H (I.map Y.int) xs->xs=I.map V.int
 |[],_,h=>h
 |n::r,_,ψ=>by obtain⟨x,J,e,U,s⟩:=ψ;subst e;cases (show x=V.int n from U);rw[yg s];rfl
theorem yh{G:G3}{H:Hp}:∀I:Xe,xx G H (I.map Y.int)<|I.map V.int
 |[]=>rfl
 |n::r=>⟨_,_,rfl,rfl,yh r⟩
theorem yD :jg X (.builtin "sorted") (f_ X.g3 J3):=ER wN λC H Q T L Q3 j J z k=>by
 unfold J3 at z;split at z
 ·rename_i a;obtain⟨zs,e,l,rfl,I,z⟩:=xc z;obtain⟨vs,o,r⟩:=J a _ e;obtain⟨u,rfl,p⟩:=j.inv1;cases (show u=V.ref a from p);cases yg r;exact⟨a,l,rfl,ET o,I,λD g U pm t=>k _ _ _ _ (EE U) (J.newL U<|yh g) (by rfl)<|z D g (J.none U) pm t⟩
 ·exact z.elim
open PySem L2 Words
theorem iX(l:Xa):nY l=(l.map λn:Nat=>(n:Int)).map Y.int:=by unfold nY;rw[B4];rfl
theorem bD{L:ql}:∀xs:Xe,Paired (jw L 0) (xs.map Y.int)<|xs.map λx=>Da.s<|.int x
 |[]=>.nil
 |_::r=>.cons ⟨rfl,rfl⟩<|bD r
theorem vB(l:Xa):Da.eqs ((l.map λn:Nat=>(n:Int)).map λx=>Da.s<|.int x) ((l.map λn:Nat=>(n:Int)).map λx=>Da.s<|.int x)=true:=by rw[B4];exact(mH l l).mpr rfl
theorem ig(f:Xw->Bool)(wd:List<|Xw)(n:Nat):(kY f wd n).Pairwise λa b=>a<b:=by unfold kY;exact CN _ List.pairwise_lt_range
section
variable {ks:Xv}{R:Ru}{E:Xa}
theorem SR.rls(h:SR ks R E):∀B∈fQ R,(∃EB,SR ks B EB)/\(∀x∈qg B,x∈qg R)/\(qg B).Sublist (qg R)/\x9 B<=x9 R/\(∀c∈zb B,c∈zb R):=by
 induction h with
 |link t h2 T U g=>
  intro B J;cases Aj.mp J;exact⟨⟨_,.link t h2 T U g⟩,λ_ h=>h,Dd _,An _,λ_ h=>h⟩
 |@ei r i j A EA E t hA T U g h6 h7 ih=>
  intro B J;rcases Am.mp J with rfl|J
  ·exact⟨⟨_,.ei t hA T U g h6 h7⟩,λ_ h=>h,Dd _,An _,λ_ h=>h⟩
  ·obtain⟨a,b,c,d,e⟩:=ih B J;exact⟨a,λx h=>Ae _<|b x h,c.cons _,B0 d,e⟩
 |@bo r i j A B EA EB E t hA J U g h6 h7 l o=>
  intro C I;rcases Am.mp I with rfl|I
  ·exact⟨⟨_,.bo t hA J U g h6 h7⟩,λ_ h=>h,Dd _,An _,λ_ h=>h⟩
  ·rcases Ak.mp I with I|I
   ·obtain⟨a,b,c,d,e⟩:=l C I;exact⟨a,λx h=>Ae _<|Al _<|b x h,(c.trans<|DM ..).cons _,by show _<=max (x9 A) (x9 B)+1;lia,λx h=>Al _<|e x h⟩
   ·obtain⟨a,b,c,d,e⟩:=o C I;exact⟨a,λx h=>Ae _<|Ac _<|b x h,(c.trans<|CU ..).cons _,by show _<=max (x9 A) (x9 B)+1;lia,λx h=>Ac _<|e x h⟩
 |@cu p q A B EA EB E w hA J T U g h6 h7 h8 l o=>
  intro C I;rcases Am.mp I with rfl|I
  ·exact⟨⟨_,.cu hA J T U g h6 h7 h8⟩,λ_ h=>h,Dd _,An _,λ_ h=>h⟩
  ·rcases Ak.mp I with I|I
   ·obtain⟨a,b,c,d,e⟩:=l C I;exact⟨a,λx h=>Al _<|b x h,c.trans<|DM ..,by show _<=max (x9 A) (x9 B)+1;lia,λx h=>Ae _<|Al _<|e x h⟩
   ·obtain⟨a,b,c,d,e⟩:=o C I;exact⟨a,λx h=>Ac _<|b x h,c.trans<|CU ..,by show _<=max (x9 A) (x9 B)+1;lia,λx h=>Ae _<|Ac _<|e x h⟩
theorem bF:∀{R A B:Ru},A∈fQ R->B∈fQ A->B∈fQ R
 |.link p q,A,B,I,J=>by cases Aj.mp I;exact J
 |.ei r C,A,B,I,J=>by
  rcases Am.mp I with rfl|I
  ·exact J
  ·exact Ae _<|bF I J
 |.bo r C D,A,B,I,J=>by
  rcases Am.mp I with rfl|I
  ·exact J
  ·rcases Ak.mp I with I|I
   ·exact Ae _<|Al _<|bF I J
   ·exact Ae _<|Ac _<|bF I J
 |.cu p q C D,A,B,I,J=>by
  rcases Am.mp I with rfl|I
  ·exact J
  ·rcases Ak.mp I with I|I
   ·exact Ae _<|Al _<|bF I J
   ·exact Ae _<|Ac _<|bF I J
theorem iB(A:Ru):A∈fQ A:=by rw[uF];exact Ag ..
theorem UA{A B:Ru}(h:B∈wz A):B∈fQ A:=by rw[uF];exact Ae _<|Ay.mpr ⟨B,h,iB B⟩
end
noncomputable def kQ:RD "_law_stir" dr 0 ["_law_script","_law_total","_law_k","_law_cell"] (λ_=>True):=⟨_,λV B c _ _ _ _ _ _ _ I hN J=>(qa (S_ 1 hN qf)<|qa (vi u2 rfl (dM rfl B.bg<|qv 0) (aQ (n:=2) rfl<|zg (G_ 2 hN)<|zg (G_ 3 hN) kg)<|qd<|S_ 1 hN<|qm x8 (qm jf (qm jf (qm jf (qm mY (qv 1) qf)<|qm x8 (qv 3) qf)<|qv 2) qf) qf)<|qd<|qr<|qv 1)⟩
noncomputable def tS:vn:=(kQ).1
noncomputable def lF:RD "_law_pick" fA 0 ["_law_stir_here","_law_factor"] (λ_=>True):=⟨_,λV B c _ _ _ _ _ _ _ I hN J=>(qd<|qr<|qm wf (qm x8 (qm mY (qv 0)<|qv 1) qf) qf)⟩
noncomputable def t9:vn:=(lF).1
noncomputable def lD(J:zd)(U:zd)(I:zd):RD "_law_sown" eG 172 ["_law_script","_law_stir_here","_law_wide","_law_room"] (λV=>Gx V J/\JD V U/\Jx V I):=⟨_,λV B c _ _ _ _ _ _ _ g hN j=>(qa (S_ 3 hN<|qm jf qf<|qm x8 (C_ c.1 g<|vv (qv 1) qf) qf)<|wr (zm (E_ j (qm x8 (C_ c.1 g<|vv (qv 1) qf) qf) qf) (qd<|S_ 3 hN<|qv 2) qz)<|qd<|qr<|C_ c.2.1 g<|aW (xz (vG _ _ _) (qv 0) (xr qf) aX) (qm x8 (C_ c.2.2 g<|vv (qv 0) qf) qf)<|qv 3)⟩
noncomputable def vK(J:zd)(U:zd)(I:zd):vn:=(lD J U I).1
inductive mC(ys:List Y)(L:ql)(Q:YK):Prop
 |mk:∀ns:Xe,(ys=[.sq<|ns.map Y.int])->(∀v:Int,Q (.int v) L)->mC ys L Q
theorem UB:∀ys L Q,mC ys L Q->jj tS 4 ys L Q:=by
 rintro ys L Q ⟨g,rfl,q⟩;refine aZ ⟨λ_ I J=>∃v c2 c3,I=[some<|.sq<|g.map Y.int,some<|.int v,c2,c3]/\J=L,⟨1,_,_,rfl,rfl⟩,λ_ _ _ _=>True.intro,?_,?_⟩
 ·rintro i y I J j ⟨v,c2,c3,rfl,rfl⟩;obtain⟨z,U,rfl⟩:=fJ j;rw[Au] at U;obtain⟨z,l,rfl⟩:=AI.mp U;exact⟨.inr ⟨by decide,by decide⟩,(by decide:(0:Int)<1000003),(by decide:(0:Int)<2147483647),_,EC _,_,_,_,rfl,rfl⟩
 ·rintro I J ⟨v,c2,c3,rfl,rfl⟩;exact jv<|q v
inductive iM(ys:List Y)(L:ql)(Q:YK):Prop
 |mk:∀s f:Int,(ys=[.int s,.int f])->(0<f)->(f<1000000000)->(∀v,0<=v->v<134217728->Q (.int v) L)->iM ys L Q
theorem UC:∀ys L Q,iM ys L Q->jj t9 2 ys L Q:=by
 rintro ys L Q ⟨s,f,rfl,I,J,q⟩;refine⟨.inr ⟨by omega,by omega⟩,(by decide:(0:Int)<2147483629),⟨by decide,by decide⟩,jv<|q _ ?_ ?_⟩
 all_goals
  generalize s*f=z;omega
structure J4(ks:Xv)(R:Ru)(E:Xa):Prop where
 ok:eU ks
 sr:SR ks R E
 tp:(qg R).Perm (List.range ks.length)
 len:ks.length<=96
theorem UD(I:Xe)(lo hi:Xg):∃ms:Xe,ox (I.map Y.int) lo hi=ms.map Y.int/\ms.length<=I.length:=by unfold ox;refine⟨(I.drop<|HT.sIx (I.map Y.int).length 0 lo).take<|HT.sIx (I.map Y.int).length (I.map Y.int).length hi-HT.sIx (I.map Y.int).length 0 lo,by rw[List.map_take,List.map_drop],?_⟩;rw[A5,BR];lia
inductive mM(ys:List Y)(L:ql)(Q:YK):Prop
 |mk:∀ns:Xe,∀s:Int,∀w:Nat,∀wi:Int,(ys=[.sq<|ns.map Y.int,.int s,.int wi])->(wi=(w:Int))->(ns.length<=63)->(w<=96)->(∀ka ks R E L',qh L L'->L ka=none->L' ka=some (.lst<|w5 ks)->J4 ks R E->Q (.tup [.ref ka,zf R]) L')->mM ys L Q
theorem UE:∀ys L Q,mM ys L Q->jj (vK iM iz dS) 4 ys L Q:=by
 rintro ys L Q ⟨I,s,w,wi,rfl,rfl,hn,hw,q⟩;refine⟨s,774511,rfl,by decide,by decide,λv v0 _=>⟨(by decide:(0:Int)<37),?_⟩⟩;refine⟨λg j=>∃r:Nat,r<=96/\g=[some<|.sq<|I.map Y.int,some<|.int s,some<|.int (w:Int),some<|.int (r:Int)]/\j=L,?_,?_⟩
 ·refine⟨s,31337,rfl,by decide,by decide,λu _ _=>⟨(by decide:(0:Int)<8),je (λ_=>⟨w,hw,rfl,rfl⟩) λ_=>⟨(24+v % 37).toNat,by lia,?_,rfl⟩⟩⟩;rw[show(((24+v % 37).toNat:Nat):Int)=24+v % 37 by lia];rfl
 ·rintro g j ⟨r,o,rfl,rfl⟩ pm J;obtain⟨p,U,t⟩:=UD I (some 1) none;rw[U];exact⟨I,0,rfl,by decide,λc=>⟨(by decide:(0:Int)<1000000000),pm,p,_,r,rfl,q9,by lia,o,λC T R E l ok sr tp hl=>jv<|q C T R E _ ((By J).trans<|By l) (j8 l) q9 ⟨ok,sr,tp,by lia⟩⟩⟩
open PySem L2 PyProof.Rows
end L3
namespace L2
open PySem PySem.Spec PyProof.Rows
theorem UF(neg:Bool)(p:X.A.units+128<cLine):wc X (compareOp<|if neg then .NotIn else .In) (λx y H Q=>∃a kvs k,y=.ref a/\H a=some (.dK kvs)/\x=kV k/\Q (.bl<|if neg then !(ae kvs k).isSome else(ae kvs k).isSome) H):=by rintro U s r H x y v u Q I g j ⟨a,kvs,k,l,e,ex,q⟩;subst ex l;cases (show u=Value.ref a from j);cases neg with|false=>exact ON (by omega) I (sF.k e) g λo J=>⟨.bl _,H,J,rfl,q⟩|true=>exact OO (by omega) I (sF.k e) g λo J=>⟨.bl _,H,J,rfl,q⟩
end L2
namespace L3
open PySem L2
theorem UG{xs:List<|zv×V}(p:Paired (λ(p:zv×Y) (q:zv×V)=>p.1=q.1/\RV G H p.2 q.2) kvs xs)(k:zv):(ae xs k).isSome=(v4 kvs k).isSome:=by
 unfold ae v4;rw[CG,CG]
 induction p with
 |nil=>rfl
 |@cons a b _ _ r t I=>
  rw[Bz,Bz,r.1];cases decide (b.1=k) with|true=>rfl|false=>exact I
def FA(neg:Bool)(x y:Y)(L:ql)(Q:YK):Prop:=match y,Fc x with
 |.ref a,some k=>mS L a λkvs=>Q (.bl<|nb neg (v4 kvs k).isSome) L
 |_,_=>False
theorem UH(neg:Bool)(j:X.A.units+128<cLine):wc X (compareOp<|if neg then .NotIn else .In) (gm X.g3<|FA neg):=EU (UF neg j) λx y H Q C T L Q3 l o g z k=>by
 unfold FA at z;split at z
 ·rename_i a I p;obtain⟨J,e,z⟩:=cQ z;obtain⟨U,r,t⟩:=g a _ e;refine⟨a,U,I,o,r,iL p l,?_⟩;have:(if neg=true then !(ae U I).isSome else(ae U I).isSome)=nb neg (v4 J I).isSome:=by rw[UG t];cases neg<;>simp[nb]
  rw[this];exact k _ H _ L (ED _) g (by rfl) z
 ·exact z.elim
theorem UI(I:X.A.units+128<cLine):wc X (compareOp .NotIn) (gm X.g3<|FA true):=UH true I
def J5(xs:List Y)(L:ql)(Q:YK):Prop:=match xs with
 |[.ref a]=>cz L a λys=>Q (.tup ys) L
 |_=>False
theorem UJ :jg X (.type "tuple") (f_ X.g3 J5):=ER om λt H Q C L T g J z k=>by
 unfold J5 at z;split at z
 ·rename_i a;obtain⟨u,rfl,j⟩:=g.inv1;obtain⟨o,e,z⟩:=xc z;obtain⟨U,p,r⟩:=J a _ e;cases (show u=V.ref a from j);exact⟨a,U,rfl,.inl ⟨.inl<|.inl p,λl I=>k _ _ (.tup o) L (EE I) (J.skip I) ⟨l,U,rfl,.inl<|.inl zu,r.ts<|EE I⟩ z⟩⟩
 ·exact z.elim
open PySem L2 Words
def plR:Ru->Xa
 |.link p q=>[p,q]
 |.ei r _=>[r]
 |.bo r _ _=>[r]
 |.cu p q _ _=>[p,q]
theorem mf(A:Ru):0<x9 A:=by cases A<;>simp[x9]
structure UsI(us:Xa)(kvs:List<|zv×Y):Prop where
 val:∀x:Nat,(v4 kvs<|.inl (x:Int)).isSome=decide (x∈us)
 len:kvs.length<=us.length
theorem UsI.nil:UsI [] []:=⟨λ_=>rfl,An _⟩
theorem UsI.put{us:Xa}(h:UsI us kvs)(x:Nat)(y:Y):UsI (us++[x]) (kD kvs (.inl (x:Int)) y):=by
 refine⟨λz=>?_,?_⟩
 ·rw[mj];by_cases e:z=x
  ·subst e;rw[Aw rfl,Ax<|Ac _<|Aj.mpr rfl];rfl
  ·rw[Ar λq=>e<|CW.mp<|Sum.inl.inj q,h.val];refine decide_eq_decide.mpr ⟨λq=>Al _ q,λq=>?_⟩;rcases Ak.mp q with q|q
   ·exact q
   ·exact absurd (Aj.mp q) e
 ·have:=iD kvs (.inl (x:Int)) y;have:=h.len;rw[Aa];show _<=us.length+1;lia
theorem uz{k:Xw}(h:wd[i]?=some k):cI (aM wd) (0+(i:Int))=some (l6 k):=by rw[B5];exact v9 h
def UK(Pt:Addr)(I:zd):vn:=(ja (vh (hE vm)<|qo 2)
 (ja (l8 (IY<|qk 0) (df 2<|jh (qo 3)<|jh (qo 4) bv) (ja (vh (wy Fq (xm I<|z9 (qk 1)<|jA (qk 3)<|lZ 39373)<|lZ 40)<|qo 5)
 (yU (di (y_ (ux 4)<|lZ 3) (vh (wy xO (wy xO (qk 5)<|lZ 1)<|xa Gb<|z9 (wy og (qk 2)<|bX 4 1)<|z9 (wy og (qk 2)<|bX 4 2) vm)<|qo 5) bP)
 (aP<|rE vq (qk 2)<|dg<|qk 5))))
 (ah<|JY Pt lamQ 2<|nO<|ux 0)))
inductive fq(Pt:Addr)(ys:List Y)(L:ql)(Q:YK):Prop
 |mk:∀a,∀ks:Xv,∀s:Int,(ys=[.ref a,.int s])->(L a=some (.lst<|w5 ks))->(OkO<|ks.map some)->(ks.length<=127)->(L Pt=some (.tb lamQ))->(∀D qs,L D=none->qs.Perm (List.range (ks.map some).length)->cw (ks.map some) qs->Q (.ref D) (qe L D<|.lst<|nY qs))->fq Pt ys L Q
theorem UL :∀ys L Q,fq Pt ys L Q->jj (UK Pt oY) 6 ys L Q:=by
 rintro ys L Q ⟨a,a5,s,rfl,ha,ok,hz,hP,q⟩;obtain⟨g,U⟩:∃g,g=a5.map some:=⟨_,rfl⟩;rw[<-Uv,<-U] at ha;rw[<-U] at ok q;have hz:g.length<=127:=by rw[U,Ah];exact hz
 have all:∀i,g[i]?≠some none:=λi e=>by rw[U,Au] at e;obtain⟨_,_,z⟩:=AI.mp e;cases z
 have big:=a_;intro J I;have s0:qh L (qe L J<|.lst []):=By I;have a0:a≠J:=xu ha I;refine w6 (s0 _ _ ha) λkeep kp=>aZ ⟨λi τ l=>∃rks:Xe,∃c3 c4 c5,τ=[some<|Y.ref a,some<|.int s,some<|Y.ref J,c3,c4,c5]/\l=qe L J (.lst<|rks.map Y.int)/\rks.length=i/\zK g rks,⟨[],_,_,_,rfl,rfl,rfl,λp _ _ _ hp=>by cases hp⟩,?_,?_,?_⟩
 ·rintro i τ l ⟨rks,c3,c4,c5,rfl,rfl,_⟩;exact kp _ (by rw[qb a0,qb a0])
 ·rintro i y τ l hy ⟨rks,c3,c4,c5,rfl,rfl,C,T⟩;obtain⟨z,ez,rfl⟩:=fJ hy;rw[Au] at ez;obtain⟨k,ek,rfl⟩:=AI.mp ez;have hi:=qx ek;refine⟨s,i,39373,rfl,by exact A8 _,by omega,by decide,by decide,λv h0 h1=>?_⟩;have m0:(0:Int)<=v % 40:=Ej _ (by decide);have a3:(rks.map Y.int).length=i:=by rw[Ah];exact C
  refine⟨show(0:Int)<40 by decide,λa4 l=>∃r:Int,a4=[some<|Y.ref a,some<|.int s,some<|Y.ref J,some<|.int (i:Nat),some<|l6 k,some<|.int r]/\l=qe L J (.lst<|rks.map Y.int)/\∀e i j,k=some (.nd e i j)->rks.getD i 0<r/\rks.getD j 0<r,?_,?_⟩
  ·cases k with
   |none=>exact absurd ek<|all i
   |some k=>
    cases k with
    |lf t n=>exact⟨v % 40,rfl,rfl,λe i j z=>by cases z⟩
    |nd e p1 p2=>
     obtain⟨l1,l2⟩:=ok _ _ _ _ ek;have g1:=jt<|tW (rks:=rks) (i:=p1) (by lia);have g2:=jt<|tW (rks:=rks) (i:=p2) (by lia);refine qc q9<|qj g1 ?_;refine qc q9<|qj g2 ?_;refine⟨v % 40+1+max (rks.getD p1 0) (rks.getD p2 0),rfl,rfl,λe' i' j' z=>?_⟩;cases z;have a1:rks.getD p1 0<=max (rks.getD p1 0) (rks.getD p2 0):=Int.le_max_left ..;have a2:rks.getD p2 0<=max (rks.getD p1 0) (rks.getD p2 0):=Int.le_max_right ..;constructor<;>lia
  ·rintro a4 l ⟨r,rfl,rfl,hr⟩;refine qc q9 (qp q9 ⟨by rw[a3];exact big _ (by lia),?_⟩);refine⟨_,EC _,rks++[r],_,_,_,rfl,?_,by rw[Aa,C];rfl,zK.snoc ok T (by rw[C];exact ek) hr⟩;rw[zc,AG];rfl
 ·rintro τ l ⟨rks,c3,c4,c5,rfl,rfl,C,T⟩;rw[gG,Ah] at C;have s1:qh L (qe L J<|.lst<|rks.map Y.int):=By I;refine qc (s1 _ _ ha) ?_;have lo:(aM g).length=g.length:=Ah ..;refine⟨⟨A8 _,by rw[lo];lia⟩,λp hp=>qp q9 ?_⟩;have a7:J≠p:=xu q9 hp;have ab:Pt≠p:=xu (s1 _ _ hP) hp;have ac:Pt≠J:=xu hP I;refine⟨g.length,rks,J,by rw[Cg,lo],rfl,(qb a7).trans q9,C,hz,(qb ab).trans<|(qb ac).trans hP,λD qs hD pm pw=>?_⟩;have al:=j8 hD;have au:=j8 al;refine⟨qe L D<|.lst<|nY qs,λb o e=>?_,q D qs au pm<|Ug ok T C pw⟩;by_cases c:b=D
  ·subst c;rw[q9] at e ⊢;exact e
  ·rw[qb c] at e ⊢;rw[qb (λz=>by subst z;rw[j8 hp] at e;cases e),qb (λz=>by subst z;rw[I] at e;cases e)];exact e
theorem nH(y:Y)(l:List Y):ox (y::l) (some 1) none=l:=by
 unfold ox;have e:HT.sIx (y::l).length 0 (some 1)=1:=by show min 1 (l.length+1)=1;lia
 rw[e];show(l.take<|l.length+1-1)=l;rw[Nat.add_sub_cancel,Bi]
theorem sH(y:Y)(l:List Y):¬(HT.sIx (y::l).length 0 (some 1)=0/\HT.sIx (y::l).length (y::l).length none=(y::l).length):=λz=>by
 have e:HT.sIx (y::l).length 0 (some 1)=1:=by show min 1 (l.length+1)=1;lia
 rw[e] at z;exact absurd z.1 (by decide)
def Ff:Ru->Str
 |.link _ _ => "link"
 |.ei _ _ => "either"
 |.bo _ _ _ => "both"
 |.cu _ _ _ _ => "cut"
theorem ip(A:Ru):zf A=.tup (.str (Ff A)::(nY (plR A)++(wz A).map zf)):=by cases A<;>rfl
inductive bQ(n:Nat)(ys:List Y)(L:ql)(Q:YK):Prop
 |mk:∀R:Ru,∀d,∀kvs:List (zv×Y),∀f:Xh,(ys=[zf R,.ref d])->(L d=some (.dct kvs))->((∀B∈fQ R,∀x∈plR B,v4 kvs (.inl (x:Int))=some (.int (f x:Int))))->(x9 R<=n)->(Q (zf<|lQ f R) L)->bQ n ys L Q
theorem UM:∀ys L Q,¬bQ 0 ys L Q:=by rintro ys L Q ⟨A,_,_,_,_,_,_,h,_⟩;have:=mf A;lia
theorem sW{P:Xa}(h:(nY P++As.map zf)[i]?=some y):(i<P.length/\∃x,P[i]?=some x/\y=.int (x:Int))\/(P.length<=i/\∃B,As[i-P.length]?=some B/\y=zf B):=by
 by_cases c:i<P.length
 ·rw[AD (by rw[jd];exact c)] at h;exact .inl ⟨c,bO h⟩
 ·rw[AK (by rw[jd];lia),jd,Au] at h;obtain⟨B,e,z⟩:=AI.mp h;exact .inr ⟨by lia,B,e,z.symm⟩
theorem SR.pl{ks:Xv}{R:Ru}{E:Xa}(h:SR ks R E):∀B∈fQ R,∀x∈plR B,x<ks.length:=λB J x I=>by
 obtain⟨⟨p,s⟩,_⟩:=h.rls B J;have l:=s.lt;cases s with
 |link=>exact l x I
 |ei=>rw[Aj.mp I];exact l _<|Ag ..
 |bo=>rw[Aj.mp I];exact l _<|Ag ..
 |cu U g j o=>
  rcases Am.mp I with rfl|I
  ·exact l _<|Al _<|U.sub _ j
  ·rw[Aj.mp I];exact l _<|Ac _<|g.sub _ o
noncomputable def gf(I:zd):RR "_law_gather" cA 1 ["_law_rule","_law_links","_law_cuts"] ["_law_rule","_law_links","_law_cuts","_law_arm"] I (λ_=>True):=⟨_,λV B c _ _ J _ _ _ _ _ _ g hN U=>(wr (zm (E_ U (J_ 0) j5) (qd<|za<|z7 (qv 1)<|jo<|zh<|vv (J_ 0)<|J_ 0) qz)<|wr (zm (E_ U (J_ 0) j5) (qd<|za<|z7 (qv 2)<|jo<|zh<|vv (J_ 0)<|J_ 0) qz)<|qd<|vi u2 rfl (s9<|xz (iC _ _ _) (qv 0) (xr qf) aX) (G_ 3 hN)<|qd<|zm (js<|vt .tuple rfl B.bb rfl B.bi bR<|qv 3) (qd<|za<|C_ J g<|aW (qv 3) (qv 1)<|qv 2) qz)⟩
noncomputable def oh(I:zd):vn:=(gf I).1
noncomputable def J6(I:zd):RD "_law_web" gp 121 ["_law_tree_here","_law_links","_law_cuts"] (λV=>JE V I):=⟨_,λV B c _ _ _ _ _ _ _ J hN U=>(qa (S_ 1 hN<|zj xw)<|qa (S_ 2 hN<|zj xw)<|qa (za<|C_ c J<|aW (J_ 0) (qv 1)<|qv 2)<|qd<|qr<|zh<|aW (cV fF rfl B.be bZ<|jo<|J_ 0) (aB y8 rfl B.bj cY<|jo<|qv 1)<|aB y8 rfl B.bj cY<|jo<|qv 2)⟩
noncomputable def UN(I:zd):vn:=(J6 I).1
abbrev aq(L:ql)(l c:Addr)(lk ct:W6):ql:=qe (qe L l<|.lst<|j4 lk) c<|.lst<|j4 ct
theorem GG{c:Addr}(h:l≠c):aq L l c lk ct l=some (.lst<|j4 lk):=(qb h).trans q9
theorem UO{c:Addr}(h:l≠c):qe (aq L l c lk ct) l (.lst<|j4 qy)=aq L l c qy ct:=by unfold aq;rw[cL<|AQ h,zc]
theorem yQ{c:Addr}(h:l≠c):aq (aq L l c lk ct) l c qy ct'=aq L l c qy ct':=by show qe (qe (aq L l c lk ct) l _) c _=_;rw[UO h,zc]
theorem UP{c:Addr}(h1:L l=some (.lst<|j4 lk))(h2:L c=some (.lst<|j4 ct)):aq L l c lk ct=L:=by unfold aq;rw[kz h1,kz h2]
inductive aR(n:Nat)(ys:List Y)(L:ql)(Q:YK):Prop
 |mk:∀R:Ru,∀l c,∀lk ct:W7,(ys=[zf R,.ref l,.ref c])->(L l=some (.lst<|j4 lk))->(L c=some (.lst<|j4 ct))->(l≠c)->(x9 R<=n)->(lk.length+jB R<=127)->(ct.length+jB R<=127)->(Q .non<|aq L l c (lk++ze R)<|ct++zb R)->aR n ys L Q
theorem UQ:∀ys L Q,¬aR 0 ys L Q:=by rintro ys L Q ⟨A,_,_,_,_,_,_,_,_,h,_⟩;have:=mf A;lia
theorem UR(R:Ru):(tD R).length<=1/\(wH R).length<=1:=by cases R<;>simp[tD,wH]
theorem wq:∀R:Ru,(ze R).length+(zb R).length<=jB R
 |.link _ _=>An _
 |.ei _ A=>by have:=wq A;show _<=jB A+1;exact B0 this
 |.bo _ A B=>by have:=wq A;have:=wq B;show(ze A++ze B).length+(zb A++zb B).length<=jB A+jB B+1;rw[Aa,Aa];lia
 |.cu p q A B=>by have:=wq A;have:=wq B;show(ze A++ze B).length+((p,q)::(zb A++zb B)).length<=jB A+jB B+1;rw[Aa,Az,Aa];lia
theorem US :((As.take j).flatMap ze).length<=((As.take j).map jB).sum/\((As.take j).flatMap zb).length<=((As.take j).map jB).sum:=by
 generalize As.take j=I
 induction I with
 |nil=>exact⟨An _,An _⟩
 |cons B r J=>
  have:=wq B;rw[AR,AR,Aa,Aa,AO,Eu];lia
theorem UT{l:Xa}{x:Nat}(h:l[j]?=some x):(l.take j).sum+x<=l.sum:=by
 obtain⟨I,e⟩:=A1.mp h;have:l=l.take j++x::l.drop (j+1):=by rw[<-e,Cv,A3]
 have:=BS List.sum this;rw[List.sum_append,Eu] at this;lia
theorem UU(n:Nat):∀ys L Q,aR (n+1) ys L Q->jj (oh<|aR n) 4 ys L Q:=by
 rintro ys L Q ⟨R,l,c,lk,ct,rfl,o,hc,ne,hr,hz,hy,q⟩;have big:=a_;have pl:∀l:W7,(j4 l).length=l.length:=λl=>Ah ..;have rz:=Ui R;have same:aq L l c (lk++[]) (ct++[])=L:=by rw[Av,Av];exact UP o hc
 refine⟨λI J=>I=[some<|zf R,some<|.ref l,some<|.ref c,none]/\J=aq L l c (lk++tD R) (ct++[]),?_,?_⟩
 ·cases R with|link p s=>exact qp o (qp o ⟨by rw[pl];exact big _ (by lia),rfl,by rw[Av];unfold aq;rw[cL ne,kz hc];exact BS (λz=>qe L l<|.lst z)<|qF lk (p,s)⟩)|ei r A=>exact⟨rfl,same.symm⟩|bo r A B=>exact⟨rfl,same.symm⟩|cu p s A B=>exact⟨rfl,same.symm⟩
 rintro I L1 ⟨rfl,rfl⟩;refine⟨λI J=>I=[some<|zf R,some<|.ref l,some<|.ref c,none]/\J=aq L l c (lk++tD R) (ct++wH R),?_,?_⟩
 ·cases R with|link p s=>exact⟨rfl,rfl⟩|ei r A=>exact⟨rfl,rfl⟩|bo r A B=>exact⟨rfl,rfl⟩|cu p s A B=>exact qp q9 (qp q9 ⟨by rw[pl,Av];exact big _ (by lia),rfl,by rw[Av,zc];exact BS (λz=>qe _ c<|.lst z)<|qF ct (p,s)⟩)
 rintro I L1 ⟨rfl,rfl⟩;have va:∀B∈wz R,x9 B<=n:=λB hB=>by have:=qO hB;lia
 have lp:(plR R).length<=2:=by cases R<;>simp[plR]
 have ol:=UR R;rw[wW,Uh,<-AA,<-AA] at q;have l1:(lk++tD R).length<=lk.length+1:=by rw[Aa];lia
 have l2:(ct++wH R).length<=ct.length+1:=by rw[Aa];lia
 rw[ip R];generalize lk++tD R=Fh at q l1 ⊢;generalize ct++wH R=U at q l2 ⊢;generalize plR R=P at lp ⊢;generalize wz R=As at va rz q ⊢;generalize Ff R=t;have ll:(nY P++As.map zf).length=P.length+As.length:=by rw[Aa,jd,Ah]
 refine⟨sH _ _,?_⟩;rw[nH];refine aZ ⟨λi I J=>∃c3,I=[some<|.tup<|.str t::(nY P++As.map zf),some<|.ref l,some<|.ref c,c3]/\J=aq L l c (Fh++(As.take<|i-P.length).flatMap ze) (U++(As.take<|i-P.length).flatMap zb),⟨_,rfl,by rw[Nat.zero_sub,List.take_zero,CQ,CQ,Av,Av]⟩,λ_ _ _ _=>True.intro,?_,?_⟩
 ·rintro i y I J C ⟨c3,rfl,rfl⟩;rcases sW C with⟨g,x,ex,rfl⟩|⟨g,B,T,rfl⟩
  ·exact⟨_,EC _,_,rfl,by rw[CD g,CD<|BJ g]⟩
  ·have t1:=US (As:=As) (j:=i-P.length);have t2:=UT (l:=As.map jB) (j:=i-P.length) (x:=jB B) (by rw[Au,T];rfl);rw[List.map_take] at t1;have z:aR n [zf B,.ref l,.ref c] (aq L l c (Fh++(As.take<|i-P.length).flatMap ze)<|U++(As.take<|i-P.length).flatMap zb) λz L4=>jM (λI J=>∃c3,I=[some<|.tup<|.str t::(nY P++As.map zf),some<|.ref l,some<|.ref c,c3]/\J=aq L l c (Fh++(As.take<|i+1-P.length).flatMap ze) (U++(As.take<|i+1-P.length).flatMap zb)) [some<|.tup<|.str t::(nY P++As.map zf),some<|.ref l,some<|.ref c,some<|zf B] L4:=by refine⟨B,l,c,_,_,rfl,GG ne,q9,ne,va B<|AF T,by rw[Aa];lia,by rw[Aa];lia,_,EC _,_,rfl,?_⟩;rw[yQ ne,Nat.succ_sub g,Bk,T,AJ,AJ,AA,AA];simp
   rw[ip B] at z ⊢;exact z
 ·rintro I J ⟨c3,rfl,rfl⟩;rw[ll,Bj,Bi];exact jv q
inductive mE(ys:List Y)(L:ql)(Q:YK):Prop
 |mk:∀a,∀xs:List Y,∀R:Ru,(ys=[.tup [.ref a,zf R]])->(L a=some (.lst xs))->(x9 R<=120)->(jB R<=127)->((ze R).Nodup)->((zb R).Nodup)->((∀p∈ze R,p.2<1000000))->((∀p∈zb R,p.2<1000000))->(∀a' l' c' lk ct L',qh L L'->L a'=none->L l'=none->L c'=none->a'≠l'->a'≠c'->l'≠c'->L' a'=some (.lst xs)->L' l'=some (.lst<|j4 lk)->L' c'=some (.lst<|j4 ct)->lk.Perm (ze R)->lk.Pairwise pI->ct.Perm (zb R)->ct.Pairwise pI->Q (bJ a' l' c') L')->mE ys L Q
theorem UV:∀ys L Q,mE ys L Q->jj (UN<|aR 120) 3 ys L Q:=by rintro ys L Q ⟨a,xs,R,rfl,ha,hd,hz,n1,n2,b1,b2,q⟩ l hl c hc;have I:l≠c:=xu q9 hc;have p:L c=none:=j8 hc;have pz:=wq R;have s0:qh L (aq L l c [] []):=(By hl).trans<|By hc;have e0:qe (qe L l<|.lst []) c (.lst [])=aq L l c [] []:=rfl;have a4:a≠l:=xu ha hl;have a5:a≠c:=xu ha p;rw[e0];refine⟨R,l,c,[],[],rfl,GG I,q9,I,hd,by rw[CY];lia,by rw[CY];lia,?_⟩;rw[yQ I,CZ,CZ];have T:qh L (aq L l c (ze R)<|zb R):=((EC _).upd hl).upd p;have g1:aq L l c (ze R) (zb R) l=some (.lst<|j4<|ze R):=GG I;have g2:aq L l c (ze R) (zb R) c=some (.lst<|j4<|zb R):=q9;generalize aq L l c (ze R) (zb R)=L1 at T g1 g2 ⊢;refine qc (T _ _ ha) λr J=>?_;have s2:=T.trans<|By (o:=.lst xs) J;show ny [.ref l] (qe L1 r<|.lst xs) λz2 L2=>ny [.ref c] L2 λz3 L3=>fG Q (.tup [.ref r,z2,z3]) L3;refine J0 (By J _ _ g1) b1 n1 (by lia) λD1 lk U a0 a1=>?_;have s3:=s2.trans<|By (o:=.lst<|j4 lk) U;refine J0 (((By J).trans<|By U) _ _ g2) b2 n2 (by lia) λD2 ct g a2 a3=>?_;have j:r≠D1:=xu q9 U;have t:D1≠D2:=xu q9 g;have C:r≠D2:=xu ((qb j).trans q9) g;exact jv<|q r D1 D2 lk ct _ (s3.trans<|By g) (T.none J) (s2.none U) (s3.none g) j C t ((qb C).trans<|(qb j).trans q9) ((qb t).trans q9) q9 a0 a1 a2 a3
def uq:vn:=(ja (vh (qk 0)<|df 3<|jh (qo 1)<|jh (qo 2)<|jh (qo 3) bv)
 (ja (vh Gk<|qo 4)
 (ja (l8 (ag<|qk 1) (qo 5) (di (E7 (yB<|gS true<|qk 5)<|y_ (ux 5)<|lZ 3) (ja (qJ (qk 4) (bX 5 1)<|yC<|.bl true)
 (qJ (qk 4) (bX 5 2)<|yC<|.bl true)) bP))
 (ja (l8 (ag<|qk 3) (df 2<|jh (qo 6)<|jh (qo 7) bv) (ja (qJ (qk 4) (qk 6)<|yC<|.bl true)
 (qJ (qk 4) (qk 7)<|yC<|.bl true)))
 (GD 6<|ah<|ya 1 (vX<|dg<|ux 1) (qo 8) (E7 (yB<|gS true<|wy og (qk 1)<|qk 8)<|yB<|wy (FA true) (qk 8)<|qk 4)<|qk 8)))))
inductive mQ(ys:List Y)(L:ql)(Q:YK):Prop
 |mk:∀a l c,∀wd:List (Xw),∀ct:W7,(ys=[bJ a l c])->(L a=some (.lst<|aM wd))->(L c=some (.lst<|j4 ct))->(wd.length<=1000)->(ct.length<=1000)->(∀p,L p=none->Q (.ref p) (qe L p<|.lst<|nY<|aj wd (wx wd ct) wd.length))->mQ ys L Q
theorem UW:∀ys L Q,mQ ys L Q->jj uq 8 ys L Q:=by
 rintro ys L Q ⟨wa,la,ca,I,ct,rfl,e1,e3,wl,cl,q⟩;have big:=a_;intro T C;have s2:qh L (qe L T<|.dct []):=By C;refine w6 (s2 _ _ e1) λkeep kp=>aZ ⟨λi o j=>∃J c3 c4 c5,o=[some<|bJ wa la ca,some<|.ref wa,some<|.ref la,some<|.ref ca,some<|.ref T,c3,c4,c5]/\qh L j/\j T=some (.dct J)/\UsI (a6<|I.take i) J,⟨[],_,_,_,rfl,s2,q9,UsI.nil⟩,?_,?_,?_⟩
 ·rintro i o j ⟨J,c3,c4,c5,rfl,s,_⟩;exact kp j (by rw[s _ _ e1,s2 _ _ e1])
 ·rintro i y o j hy ⟨J,c3,c4,c5,rfl,s,g,U⟩;rw[Au] at hy;obtain⟨k,ek,rfl⟩:=AI.mp hy;have et:I.take (i+1)=I.take i++[k]:=by rw[Bk,ek];rfl
  have pl:=qE<|I.take i;rw[A5] at pl;have ul:=U.len;have stay:jp k=[]->UsI (a6<|I.take<|i+1) J:=λh=>by rw[et,mw,h,Av];exact U
  cases k with
  |none=>exact⟨_,EC _,_,_,_,_,rfl,s,g,stay rfl⟩
  |some k=>
   cases k with
   |lf t n=>exact⟨_,EC _,_,_,_,_,rfl,s,g,stay rfl⟩
   |nd e i' j'=>
    refine xn g ⟨big _ (by lia),?_⟩;have U1:=U.put i'<|.bl true;have r:=U1.len;rw[Aa] at r;refine xn q9 ⟨big _ (by simp at r;lia),?_⟩;have U2:=U1.put j'<|.bl true;rw[zc];exact⟨_,EC _,_,_,_,_,rfl,s.upd C,q9,by rw[et,mw];rw[AA] at U2;exact U2⟩
 rintro o L2 ⟨J,c3,c4,c5,rfl,s3,g,U⟩;rw[Ah,Bi] at U;have pl:=qE I;have a0:=eV ct;refine w6 (s3 _ _ e3) λkeep kp=>aZ ⟨λi o j=>∃J c4 c5,o=[some<|bJ wa la ca,some<|.ref wa,some<|.ref la,some<|.ref ca,some<|.ref T,c3,c4,c5]/\qh L j/\j T=some (.dct J)/\UsI (a6 I++vk (ct.take i)) J,⟨_,_,_,rfl,s3,g,by show UsI (a6 I++[]) _;rw[Av];exact U⟩,?_,?_,?_⟩
 ·rintro i o j ⟨J,c4,c5,rfl,s,_⟩;exact kp j (by rw[s _ _ e3,s3 _ _ e3])
 ·rintro i y o j hy ⟨J,c4,c5,rfl,s,g,U⟩;rw[Au] at hy;obtain⟨pr,ep,rfl⟩:=AI.mp hy;have et:ct.take (i+1)=ct.take i++[pr]:=by rw[Bk,ep];rfl
  have pt:=eV<|ct.take i;rw[A5] at pt;have ul:=U.len;rw[Aa] at ul;refine xn g ⟨big _ (by lia),?_⟩;have U1:=U.put pr.1<|.bl true;have r:=U1.len;rw[Aa,Aa] at r;refine xn q9 ⟨big _ (by simp at r;lia),?_⟩;have U2:=U1.put pr.2<|.bl true;rw[zc];exact⟨_,EC _,_,_,_,rfl,s.upd C,q9,by rw[et,kq,dw,<-AA];rw[AA<|_++_] at U2;exact U2⟩
 rintro o L3 ⟨J,a1,a2,rfl,s4,g,U⟩;rw[Ah,Bi] at U;have U:UsI (wx I ct) J:=U;have r:=s4 _ _ e1;have lw:(aM I).length=I.length:=Ah ..;refine qc r ⟨⟨A8 _,by rw[lw];omega⟩,?_⟩;rw[lw,Cg];refine wG (λi l=>l=nY (aj I (wx I ct) i)) (big _ (by lia)) rfl ?_ ?_
 ·rintro i l hi rfl;obtain⟨k,ek⟩:∃k,I[i]?=some k:=⟨_,Ao hi⟩;have no:m8 I (wx I ct) i=false->jM (λl j=>j=L3/\l=nY (aj I (wx I ct)<|i+1)) (nY<|aj I (wx I ct) i) L3:=λh=>⟨L3,EC _,rfl,by rw[mz,Ar (by rw[h];exact AH),Av]⟩;have yes:m8 I (wx I ct) i=true->jM (λl j=>j=L3/\l=nY (aj I (wx I ct)<|i+1)) (nY (aj I (wx I ct) i)++[.int<|0+(i:Int)]) L3:=λh=>⟨L3,EC _,rfl,by rw[mz,Aw h,dR,B5];rfl⟩;refine qc r<|qj (uz ek) ?_;cases k with
  |none=>exact no (by unfold m8 dX;rw[ek];rfl)
  |some k=>
   have key:mS L3 T λJ=>aK (nb true (v4 J<|.inl<|0+(i:Int)).isSome) (jM (λl j=>j=L3/\l=nY (aj I (wx I ct)<|i+1)) (nY (aj I (wx I ct) i)++[.int<|0+(i:Int)]) L3) (jM (λl j=>j=L3/\l=nY (aj I (wx I ct)<|i+1)) (nY<|aj I (wx I ct) i) L3):=by
    refine xn g ?_;rw[show(Sum.inl (0+(i:Int)):zv)=.inl (i:Int) by rw[B5],U.val];by_cases cu:i∈wx I ct
    ·exact wn (by rw[Ax cu];rfl) (no (by unfold m8 dX;rw[ek,Ax cu];rfl))
    ·exact fT (by rw[AB cu];rfl) (yes (by unfold m8 dX;rw[ek,AB cu];rfl))
   cases k with|lf t n=>exact key|nd e i' j'=>exact key
 ·rintro l rfl p hp;exact dt (qh.put (s4.trans<|By hp) q9)<|q p<|s4.none hp
noncomputable def J7(U:zd)(I:zd)(J:zd):RD "_law_gapped" cD 121 ["_law_tree_here","_law_stir_here","_law_number_here","_law_gap","_law_offset","_law_at","_law_made","_law_k","_law_p","_law_knot"] (λV=>Gx V U/\JG V I/\JH V J):=⟨_,λV B c _ _ _ _ _ _ _ j hN g=>(qa (S_ 2 hN<|C_ c.1 j<|vv (qv 1) qf)<|qa (S_ 3 hN qf)<|wr (zm (E_ g (qm x8 (qv 2) qf) qf) (qd<|S_ 3 hN<|qm jf qf<|qm x8 (qm wf (qv 2) qf) qf) qz)<|qa (S_ 4 hN<|qm x8 (qm wf (qv 2) qf)<|qm jf (qv 3) qf)<|qa (S_ 5 hN sC)<|qa (S_ 6 hN<|zj xw)<|qa (vi u2 rfl (dM rfl B.bg<|C_ c.2.1 j<|vv (J_ 0)<|qv 1) (aQ (n:=2) rfl<|zg (G_ 7 hN)<|zg (G_ 8 hN) kg)<|qa (fZ u2 (x5 nv (L_ B.ba<|qv 6) (qm jf (qv 7)<|qm wf (qm jf (qv 7)<|qv 4)<|qv 3)<|x6 _)<|qd<|za<|z7 (qv 6)<|jo ky)<|qa (gH g (qv 5) (qv 8)<|L_ B.ba<|qv 6)<|qa (S_ 9 hN<|I_ (J_ 0)<|qv 8)<|qd<|za<|z7 (qv 6)<|jo<|eQ (E_ g (L_ B.ba<|qv 9) qf) (qv 9)<|zh<|aW (J_ 9) (dW g (qv 5) (J_ 9) λ_ _=>rfl)<|dW g (qv 5) (J_ 9) λ_ _=>rfl)<|qd<|qr<|zh<|vv (qv 6)<|C_ c.2.2 j<|vv (J_ 0)<|qv 5)⟩
noncomputable def UX(U:zd)(I:zd)(J:zd):vn:=(J7 U I J).1
inductive mP(Pt:Addr)(ys:List Y)(L:ql)(Q:YK):Prop
 |mk:∀a,∀ks:Xv,∀R:Ru,∀E:Xa,∀s:Int,(ys=[.tup [.ref a,zf R],.int s])->(L a=some (.lst<|w5 ks))->(J4 ks R E)->(L Pt=some (.tb lamQ))->(∀w f wd,L w=none->J1 f (ks.map some) wd->Q (.tup [.ref w,zf<|lQ f R]) (qe L w<|.lst<|aM wd))->mP Pt ys L Q
theorem UY{i off g:Int}(hi:0<=i)(h1:1<=g)(I:off<=g):(i+off) / g<=i+1:=by refine Int.ediv_le_of_le_mul (by lia) ?_;have:=Int.mul_le_mul_of_nonneg_left h1 hi;rw[Eo];lia
theorem UZ :∀ys L Q,mP Pt ys L Q->jj (UX iM (fq Pt)<|bQ 120) 10 ys L Q:=by
 rintro ys L Q ⟨a,a1,R,E,s,rfl,ha,T,hP,q⟩;have big:=a_;have hz:=T.len;have sr:=T.sr;obtain⟨U,l⟩:∃U,U=a1.map some:=⟨_,rfl⟩;have al:U.length=a1.length:=by rw[l,Ah]
 have ok:OkO U:=by rw[l];exact Uu T.ok
 refine⟨s,91827,rfl,by decide,by decide,λnum n0 _=>?_⟩;refine⟨λo L'=>∃g:Int,5<=g/\g<=200/\o=[some<|.tup [.ref a,zf R],some<|.int s,some<|.int num,some<|.int g,none,none,none,none,none,none]/\L'=L,?_,?_⟩
 ·exact⟨(by decide:(0:Int)<3),je (λ_=>⟨⟨by decide,by decide⟩,(by decide:(0:Int)<9),_,by lia,by lia,rfl,rfl⟩) λ_=>⟨200,by decide,by decide,rfl,rfl⟩⟩
 rintro o L' ⟨g,g1,g2,rfl,rfl⟩;refine⟨⟨by decide,by decide⟩,(show(0:Int)<g+1 by lia),?_⟩;have ho:num / 27 % (g+1)<=g:=by have:=Dw (num / 27) (show(0:Int)<g+1 by lia);lia
 show qo 4 (.int<|num / 27 % (g+1)) _ _ _;generalize num / 27 % (g+1)=off at ho ⊢;intro d hd w hw;have a3:L' w=none:=j8 hw;have a0:d≠w:=xu q9 hw;have s0:qh L' (qe (qe L' d<|.dct []) w<|.lst []):=(By hd).trans<|By hw;refine⟨a,a1,s,rfl,s0 _ _ ha,by rw[<-l];exact ok,by lia,s0 _ _ hP,λD I hD pm pf=>?_⟩;rw[<-l] at pm pf;have a4:w≠D:=xu q9 hD;have ab:d≠D:=xu ((qb a0).trans q9) hD;have lq:I.length=U.length:=by rw[pm.length_eq,Ba]
 have au:I.Nodup:=pm.nodup_iff.mpr BG;have mq:∀p∈I,p<U.length:=λp hp=>AZ.mp<|pm.mem_iff.mp hp;have G0:sT L' U I d w D 0 0 (λ_=>0) [] [] (qe (qe (qe L' d<|.dct []) w<|.lst []) D<|.lst<|nY I):=
  ⟨s0.trans<|By hD,(qb ab).trans<|(qb a0).trans q9,(qb a4).trans q9,q9,An _,λp=>rfl,wO.nil _ _,An _⟩
 refine w6 q9 λkeep kp=>aZ ⟨λi o L1=>∃f wd J c7 c8 c9,o=[some<|.tup [.ref a,zf R],some<|.int s,some<|.int num,some<|.int g,some<|.int off,some<|.ref d,some<|.ref w,c7,c8,c9]/\sT L' U I d w D i 0 f wd J L1,⟨_,_,_,_,_,_,rfl,G0⟩,?_,?_,?_⟩
 ·rintro i o L1 ⟨f,wd,J,c7,c8,c9,rfl,G⟩;exact kp L1 (by rw[G.hD,q9])
 ·rintro i y o L1 hy ⟨f,wd,J,c7,c8,c9,rfl,G⟩;obtain⟨z,ez,rfl⟩:=fJ hy;obtain⟨p,ep,rfl⟩:=bO ez;have hi:=qx ep;have hp:p<U.length:=mq p<|AF ep;obtain⟨k,hk⟩:∃k,a1[p]?=some k:=⟨_,Ao (by lia)⟩;have ac:U[p]?=some (some k):=by rw[l,Au,hk];rfl
  have pn:p∉I.take i:=λhm=>by
   have e2:I=I.take i++p::I.drop (i+1):=by rw[Ao hi] at ep;rw[<-AY ep,Cv,A3]
   have nd:=au;rw[e2] at nd;exact(AE.mp nd).2.2 p hm p (Ag ..) rfl
  have et:I.take (i+1)=I.take i++[p]:=by rw[Bk,ep];rfl
  have a2:∀e i' j',some k=some (.nd e i' j')->i'∈I.take i/\j'∈I.take i:=λe i' j' z=>o9 ok pm pf ep (by rw[ac,z]);have a5:∀x∈I.take i,∀e i' j',U[x]?=some (some<|.nd e i' j')->i'∈I.take i/\j'∈I.take i:=λx hx e i' j' z=>by
   obtain⟨n,hn⟩:=Di hx;have av:=qx hn;rw[A5] at av;rw[List.getElem?_take_of_lt (by lia)] at hn;obtain⟨h1,h2⟩:=o9 ok pm pf hn z;have sb:∀y,y∈I.take n->y∈I.take i:=λy hy=>by
    have:I.take n=(I.take i).take n:=by rw[List.take_take,Cy (by lia)]
    rw[this] at hy;exact BC hy
   exact⟨sb _ h1,sb _ h2⟩
  have plain:sT L' U I d w D i 1 f wd J L1:=⟨G.sub,G.hd,G.hw,G.hD,G.len,G.val,G.gap,B0 G.wlen⟩;refine⟨λm o L2=>∃wd',o=[some<|.tup [.ref a,zf R],some<|.int s,some<|.int num,some<|.int g,some<|.int off,some<|.ref d,some<|.ref w,some<|.int (i:Int),some<|.int (p:Int),c9]/\sT L' U I d w D i 1 f wd' J L2/\m=2*i+1-wd'.length,⟨_,wd,rfl,plain,rfl⟩,?_⟩;rintro m o L2 ⟨wd',rfl,C,rfl⟩;have wl:=C.wlen;refine qc C.hw ⟨⟨by lia,by lia⟩,?_⟩;refine je (λc=>?_) λc=>?_
  ·have c:((aM wd').length:Int)<(i:Int)+((i:Int)+off) / g:=c;rw[gK] at c;have dv:=UY (i:=(i:Int)) (A8 _) (show 1<=g by lia) ho;refine⟨λo L3=>∃j,o=[some<|.tup [.ref a,zf R],some<|.int s,some<|.int num,some<|.int g,some<|.int off,some<|.ref d,some<|.ref w,some<|.int (i:Int),some<|.int (p:Int),c9]/\sT L' U I d w D i 1 f j J L3/\j.length=wd'.length+1,?_,?_⟩
   ·rintro o L3 ⟨j,rfl,G2,e⟩;exact⟨2*i+1-j.length,by lia,j,rfl,G2,rfl⟩
   ·refine qc C.hw (qp C.hw ⟨by rw[gK];exact big _ (by lia),?_⟩);have:=C.wide (wd':=wd'++[none]) (ex':=1) a3 a0 a4 C.gap.gap (by rw[Aa];show wd'.length+1<=_;lia);rw[<-tV] at this;exact⟨_,EC _,wd'++[none],rfl,this,Aa⟩
  have vp:∀y:Nat,v4 (kD J (.inl (p:Int))<|.int ((wd'.length:Nat):Int)) (.inl (y:Int))=if y∈I.take i++[p] then some (.int (((if y=p then wd'.length else f y):Nat):Int)) else none:=λy=>by
   rw[mj];by_cases e:y=p
   ·subst e;rw[Aw rfl,Aw rfl,Aw<|Ac _<|Aj.mpr rfl]
   ·rw[Ar λz=>e<|CW.mp<|Sum.inl.inj z,Ar e,C.val];by_cases h:y∈I.take i
    ·rw[Aw h,Aw<|Al _ h]
    ·rw[Ar h,Ar λz=>(Ak.mp z).elim h λz=>e<|Aj.mp z]
  have kl:=C.len;refine qc C.hw ?_;rw[gK];refine xn C.hd ⟨big _ (by lia),?_⟩;have aL:a≠d:=xu ha hd;refine qc ((qb aL).trans<|C.sub _ _ ha)<|qj (v9 hk) ?_;have a7:qe L2 d (.dct<|kD J (.inl (p:Int))<|.int ((wd'.length:Nat):Int)) w=some (.lst<|aM wd'):=(qb<|AQ a0).trans C.hw;have hb:∀x∈I.take i,x<U.length:=λx hx=>mq x<|BC hx;have done:jM (λo L1=>∃f wd J c7 c8 c9,o=[some<|.tup [.ref a,zf R],some<|.int s,some<|.int num,some<|.int g,some<|.int off,some<|.ref d,some<|.ref w,c7,c8,c9]/\sT L' U I d w D (i+1) 0 f wd J L1) [some<|.tup [.ref a,zf R],some<|.int s,some<|.int num,some<|.int g,some<|.int off,some<|.ref d,some<|.ref w,some<|.int (i:Int),some<|.int (p:Int),some<|vI k] (qe (qe L2 d<|.dct<|kD J (.inl (p:Int))<|.int ((wd'.length:Nat):Int)) w<|.lst<|aM wd'++[l6<|l9 f<|some k]):=by
   rw[tV];refine⟨_,EC _,λx=>if x=p then wd'.length else f x,wd'++[l9 f<|some k],_,_,_,_,rfl,(C.sub.upd hd).upd a3,(qb a0).trans q9,q9,(qb<|AQ a4).trans<|(qb<|AQ ab).trans C.hD,?_,λy=>?_,?_,?_⟩
   ·have:=iD J (.inl (p:Int))<|.int ((wd'.length:Nat):Int);lia
   ·rw[et];exact vp y
   ·rw[et];exact C.gap.step hb pn ac a5 a2
   ·rw[Aa];show wd'.length+1<=_;lia
  refine qc a7 ?_;cases k with
  |lf t n=>exact qp a7 ⟨by rw[gK];exact big _ (by lia),done⟩
  |nd e p1 p2=>
   obtain⟨m1,m2⟩:=a2 e p1 p2 rfl;have v1:=vp p1;have v2:=vp p2;rw[Aw<|Al _ m1,Ar λ(z:p1=p)=>pn<|z▸m1] at v1;rw[Aw<|Al _ m2,Ar λ(z:p2=p)=>pn<|z▸m2] at v2;refine xn ((q9:qe L2 d _ d=some _))<|qj v1 ?_;refine xn ((q9:qe L2 d _ d=some _))<|qj v2 ?_;exact qp a7 ⟨by rw[gK];exact big _ (by lia),done⟩
 ·rintro o L1 ⟨f,wd,J,c7,c8,c9,rfl,G⟩;have eq:(lE<|nY I).length=I.length:=by rw[gG];exact Ah ..
  rw[eq] at G;have et:I.take I.length=I:=Bi;have val:∀p,p<U.length->v4 J (.inl (p:Int))=some (.int (f p:Int)):=λp hp=>by rw[G.val,et,Aw<|pm.mem_iff.mpr<|AZ.mpr hp]
  have gap:wO U (List.range U.length) f wd:=by have g:=G.gap;rw[et] at g;exact⟨λp hp=>g.at_ p<|pm.mem_iff.mpr hp,λp hp r hr=>g.inj p (pm.mem_iff.mpr hp) r<|pm.mem_iff.mpr hr,λx k hx=>let ⟨r,hr,e⟩:=g.only x k hx;⟨r,pm.mem_iff.mp hr,e⟩,g.ok⟩
  have rd:=w4 R;have tl:=T.tp.length_eq;rw[Ba] at tl;refine⟨R,d,J,f,rfl,G.hd,λB hB x hx=>val x (by rw[al];exact sr.pl B hB x hx),by lia,?_⟩;have wl:=G.wlen;rw[lq] at wl;exact dt (qh.put G.sub G.hw) (q w f wd a3 ⟨by rw[<-l];exact gap,by rw[<-l];lia⟩)
end L3
namespace L2
open PySem PySem.W
section
variable {K:Ai}(T:K.lookup Pt=some (PySem.W.tabObj #[]))
include T
theorem wA :clsIn (lessK Pt K) C=clsIn K C:=by
 unfold clsIn;by_cases d:C=Pt
 ·subst d;rw[wo,T]
 ·rw[xg d]
theorem U0{b:Xj}:mroIn (lessK Pt K) C b=mroIn K C b:=by unfold mroIn;rw[wA T]
theorem U3{t b:Xj}:subIn (lessK Pt K) t b=subIn K t b:=by
 unfold subIn;split
 ·rfl
 ·exact U0 T
 ·rfl
end
section
variable {K:Ai}(T:K.lookup Pt=some (PySem.W.tabObj #[]))
include T
theorem isFn_dn{a:Addr}(e:isFn K (.ref a)=true):isFn (lessK Pt K) (.ref a)=true:=by
 unfold isFn at e ⊢;by_cases d:a=Pt
 ·subst d;have h:typeIn K (.ref a)=some Value.none:=by show(List.lookup a K).map _=_;rw[T];rfl
  rw[h] at e;cases e
 ·have h:typeIn (lessK Pt K) (.ref a)=typeIn K (.ref a):=by show(List.lookup a<|lessK Pt K).map _=(List.lookup a K).map _;rw[xg d]
  rw[h];exact e
theorem Cls.dn(c:Cls K C):Cls (lessK Pt K) C:=by
 obtain⟨pg,hd,po,sa⟩:=c;unfold plainGet at pg;unfold hasDictIn at hd;unfold plainOver at po;refine⟨?_,?_,?_,(find_dn T).trans sa⟩
 ·unfold plainGet;rw[find_dn T,find_dn T];exact pg
 ·unfold hasDictIn;rw[wA T];exact hd
 ·unfold plainOver;rw[wA T];exact po
theorem makes_dn(e:makesIn K C=true):makesIn (lessK Pt K) C=true:=by
 unfold makesIn at e ⊢;by_cases d:C=Pt
 ·subst d;rw[T] at e;cases e
 ·have h:typeIn (lessK Pt K) (.ref C)=typeIn K (.ref C):=by show(List.lookup C<|lessK Pt K).map _=(List.lookup C K).map _;rw[xg d]
  have s:∀b,subIn (lessK Pt K) b (.type "type")=subIn K b (.type "type"):=λb=>U3 T;unfold instIn at e ⊢;simp only[xg d,mm T d,h,s];exact e
end
end L2
namespace L3
open PySem L2
theorem XFP.dn{K:Ai}(T:K.lookup Pt=some (PySem.W.tabObj #[]))(x:XFP K C):XFP (lessK Pt K) C:=⟨Cls.dn T x.cl,(find_dn T).trans x.na⟩
open PySem L2 Words
def U4(K:Ai)(I:Addr)(J:zd):vn:=(ja (yY K "pieces" (qk 0)<|uC I J<|dg<|qk 1)
 (yY K "rules" (qk 0) Gk))
def U5(K:Ai)(I:Addr)(J:zd):vn:=(ah<|Ji (iZ K "rules"<|qk 0)<|ww I "head_of" J (iZ K "pieces"<|qk 0)<|dg<|qk 1)
def U6(K:Ai)(I:Addr)(J:zd):vn:=(ah<|wy (yH false) (ww I "head_of" J (iZ K "pieces"<|qk 0)<|dg<|qk 1)<|ww I "head_of" J (iZ K "pieces"<|qk 0)<|dg<|qk 2)
def U7(K:Ai)(I:Addr)(J:zd)(p1:zd):vn:=(ja (l8 (ag<|qk 2) (qo 3)<|aP<|ww I "unite" J (iZ K "pieces"<|qk 0)<|jA (bX 2 0)<|qk 3)
 (qJ (iZ K "rules"<|qk 0) (ww I "head_of" p1 (iZ K "pieces"<|qk 0)<|dg<|bX 2 0)<|qk 1))
structure XFG(K:Ai)(C P:Addr):Prop where
 cl:Cls K C
 np:NoAttr K C "pieces"
 nr:NoAttr K C "rules"
 xp:XFP K P
def j_(o d:Addr):List (Str×Y):=[("pieces",.ref o),("rules",.ref d)]
theorem cU{o:Addr}:(j_ o d).lookup ("pieces" : Str)=some (.ref o):=by unfold j_;rw[AW,show((("pieces" : Str)==("pieces" : Str)))=true by decide +kernel]
theorem sm{o:Addr}:(j_ o d).lookup ("rules" : Str)=some (.ref d):=by unfold j_;rw[AW,show((("rules" : Str)==("pieces" : Str)))=false by decide +kernel,AW,show((("rules" : Str)==("rules" : Str)))=true by decide +kernel]
structure oq(C P:Addr)(L:ql)(g o hp d:Addr)(hs:Xa)(kvs:List<|zv×Y):Prop where
 hg:L g=some (.ins C<|j_ o d)
 ho:L o=some (.ins P<|hJ hp)
 hh:L hp=some (.lst<|nY hs)
 hd:L d=some (.dct kvs)
section
variable {P:Addr}{g o:Addr}{my:List<|zv×Y}
theorem oq.sub(G:oq C P L g o hp d hs kvs)(s:qh L L'):oq C P L' g o hp d hs kvs:=⟨s _ _ G.hg,s _ _ G.ho,s _ _ G.hh,s _ _ G.hd⟩
theorem oq.heads(G:oq C P L g o hp d hs kvs):oq C P (qe L hp<|.lst<|nY hs') g o hp d hs' kvs:=
 ⟨(qb (gT G.hg G.hh λe=>by cases e)).trans G.hg,(qb (gT G.ho G.hh λe=>by cases e)).trans G.ho,q9,(qb (gT G.hd G.hh λe=>by cases e)).trans G.hd⟩
theorem oq.rules(G:oq C P L g o hp d hs kvs):oq C P (qe L d<|.dct my) g o hp d hs my:=
 ⟨(qb (gT G.hg G.hd λe=>by cases e)).trans G.hg,(qb (gT G.ho G.hd λe=>by cases e)).trans G.ho,(qb (gT G.hh G.hd λe=>by cases e)).trans G.hh,q9⟩
end
inductive iU(C P:Addr)(ys:List Y)(L:ql)(Q:YK):Prop
 |mk:∀g,∀n:Nat,(ys=[.ref g,.int (n:Int)])->(L g=some (.ins C []))->(n<=1000)->(∀o hp d L',(∀b u,b≠g->L b=some u->L' b=some u)->oq C P L' g o hp d (List.range n) []->L o=none->L hp=none->L d=none->Q .non L')->iU C P ys L Q
theorem U8{K:Ai}{P:Addr}(xf:XFG K C P):∀ys L Q,iU C P ys L Q->jj (U4 K P<|dy P) 2 ys L Q:=by
 rintro ys L Q ⟨g,n,rfl,T,hn,q⟩;intro o r;have J:g≠o:=xu T r;refine⟨o,n,_,rfl,rfl,q9,hn,λI U=>⟨rfl,?_⟩⟩;have a0:o≠I:=xu q9 U;have l:L I=none:=j8 U;have j:g≠I:=xu T l;have k1:qe (qe (qe L o<|.ins P []) I<|.lst<|nY<|List.range n) o (.ins P<|hJ I) g=some (.ins C []):=(qb J).trans<|(qb j).trans<|(qb J).trans T;have k2:qe (qe (qe L o<|.ins P []) I<|.lst<|nY<|List.range n) o (.ins P<|hJ I) I=some (.lst<|nY<|List.range n):=(qb<|AQ a0).trans q9;have k3:qe (qe (qe L o<|.ins P []) I<|.lst<|nY<|List.range n) o (.ins P<|hJ I) o=some (.ins P<|hJ I):=q9;have t:qh L (qe (qe (qe L o<|.ins P []) I<|.lst<|nY<|List.range n) o<|.ins P<|hJ I):=(((By r).trans<|By U).upd r);generalize qe (qe (qe L o<|.ins P []) I<|.lst<|nY<|List.range n) o (.ins P<|hJ I)=L1 at k1 k2 k3 t ⊢;refine zp k1 ⟨xf.cl,xf.np,by show 0<1000;decide,λd hd=>?_⟩;have nd:L1 d=none:=j8 hd;have p:g≠d:=xu k1 nd;refine zp ((qb p).trans q9) ⟨xf.cl,xf.nr,by show 1<1000;decide,?_⟩;refine jv<|q o I d _ (λb u hb e=>?_) ⟨?_,?_,?_,?_⟩ r l<|t.none nd
 ·rw[qb hb,qb<|xu (t _ _ e) nd,qb hb];exact t _ _ e
 ·rw[q9];rfl
 ·rw[qb<|AQ J,qb<|xu k3 nd,qb<|AQ J];exact k3
 ·rw[qb<|AQ j,qb<|xu k2 nd,qb<|AQ j];exact k2
 ·rw[qb<|AQ p,q9]
inductive ff(C P:Addr)(ys:List Y)(L:ql)(Q:YK):Prop
 |mk:∀g o hp d,∀hs:Xa,∀kvs:List (zv×Y),∀p h:Nat,(ys=[.ref g,.int (p:Int)])->(oq C P L g o hp d hs kvs)->((∃rk,cr rk hs))->(p<hs.length)->(ju hs p h)->(∀hs',hs'.length=hs.length->(∃rk,cr rk hs')->(∀i s,ju hs i s->ju hs' i s)->Q ((v4 kvs<|.inl (h:Int)).getD .non) (qe L hp<|.lst<|nY hs'))->ff C P ys L Q
theorem U9{K:Ai}{P:Addr}(xf:XFG K C P):∀ys L Q,ff C P ys L Q->jj (U5 K P<|bp P) 2 ys L Q:=by rintro ys L Q ⟨g,o,U,d,j,l,p,h,rfl,G,⟨J,r⟩,T,t,q⟩;refine zp G.hg ⟨xf.cl,xf.nr,qj sm<|xn G.hd<|zp G.hg ⟨xf.cl,xf.np,qj cU<|zp G.ho ⟨rfl,wv,o,U,j,p,_,J,rfl,rfl,G.ho,G.hh,r,T,λr1 I l1 k1 t1 a1 _=>?_⟩⟩⟩;cases t1.uniq t;exact xn (G.heads (hs':=I)).hd<|jv<|q I l1 ⟨J,k1⟩ a1
inductive gJ(C P:Addr)(ys:List Y)(L:ql)(Q:YK):Prop
 |mk:∀g o hp d,∀hs:Xa,∀kvs:List (zv×Y),∀p q a b:Nat,(ys=[.ref g,.int (p:Int),.int (q:Int)])->(oq C P L g o hp d hs kvs)->((∃rk,cr rk hs))->(p<hs.length)->(q<hs.length)->(ju hs p a)->(ju hs q b)->(∀hs',hs'.length=hs.length->(∃rk,cr rk hs')->(∀i s,ju hs i s->ju hs' i s)->Q (.bl<|decide<|a=b) (qe L hp<|.lst<|nY hs'))->gJ C P ys L Q
theorem U_{K:Ai}{P:Addr}(xf:XFG K C P):∀ys L Q,gJ C P ys L Q->jj (U6 K P<|bp P) 3 ys L Q:=by rintro ys L Q ⟨g,o,l,d,t,T,p,q,a,b,rfl,G,⟨U,hr⟩,lp,lq,ta,tb,k⟩;refine zp G.hg ⟨xf.cl,xf.np,qj cU<|zp G.ho ⟨rfl,wv,o,l,t,p,_,U,rfl,rfl,G.ho,G.hh,hr,lp,λr1 I l1 k1 t1 r _=>?_⟩⟩;cases t1.uniq ta;have J:=G.heads (hs':=I);refine zp J.hg ⟨xf.cl,xf.np,qj cU<|zp J.ho ⟨rfl,wv,o,l,I,q,_,U,rfl,rfl,J.ho,J.hh,k1,by lia,λr2 j l2 k2 t2 a2 _=>?_⟩⟩;cases t2.uniq (r _ _ tb);rw[zc];show fG Q (.bl<|decide<|(a:Int)=(b:Int)) _;rw[mR];exact jv<|k j (by lia) ⟨U,k2⟩ λi s z=>a2 i s<|r i s z
structure Mgd(hs hs' ps:Xa)(h:Nat):Prop where
 len:hs'.length=hs.length
 rk:∃rk,cr rk hs'
 hd:∃p∈ps,ju hs p h
 inn:∀i s,ju hs i s->(∃p∈ps,ju hs p s)->ju hs' i h
 out:∀i s,ju hs i s->(¬ ∃p∈ps,ju hs p s)->ju hs' i s
theorem Mgd.more{h1 h2 ps:Xa}{h k s:Nat}(M:Mgd hs h1 ps h)(tk:ju hs k s)(l:h2.length=h1.length)(r:∃rk,cr rk h2){b:Nat}(tb:ju h1 k b)(j:∀i s,ju h1 i s->ju h2 i (if s=h then b else s)):Mgd hs h2 (ps++[k]) b:=by
 have g:(∃p∈ps,ju hs p s)->b=h:=λm=>tb.uniq<|M.inn k s tk m;have U:(¬ ∃p∈ps,ju hs p s)->b=s:=λm=>tb.uniq<|M.out k s tk m;have o:∀{I},(∃p∈ps++[k],ju hs p I)->(∃p∈ps,ju hs p I)\/I=s:=λ ψ=>by
  obtain⟨p,J,t⟩:=ψ
  rcases Ak.mp J with J|J
  ·exact .inl ⟨p,J,t⟩
  ·rw[Aj.mp J] at t;exact .inr<|t.uniq tk
 refine⟨l.trans M.len,r,?_,λi I t m=>?_,λi I t m=>?_⟩
 ·by_cases c:∃p∈ps,ju hs p s
  ·rw[g c];obtain⟨p,J,t⟩:=M.hd;exact⟨p,Al _ J,t⟩
  ·rw[U c];exact⟨k,Ac _<|Aj.mpr rfl,tk⟩
 ·rcases Classical.em (∃p∈ps,ju hs p I) with c|c
  ·have:=j i h<|M.inn i I t c;rwa[Aw rfl] at this
  ·have e:=(o m).resolve_left c;subst e;have:=j i I<|M.out i I t c;rw[U c] at this ⊢;rwa[ite_self] at this
 ·have c:¬ ∃p∈ps,ju hs p I:=λ ψ=>(by obtain⟨p,J,C⟩:=ψ;exact m ⟨p,Al _ J,C⟩);have:=j i I<|M.out i I t c;rwa[Ar λe=>c (by rw[e];exact M.hd)] at this
inductive bS(C P:Addr)(ys:List Y)(L:ql)(Q:YK):Prop
 |mk:∀g o hp d pa,∀hs:Xa,∀kvs:List (zv×Y),∀ps:Xa,∀p0:Nat,∀rule:Y,(ys=[.ref g,rule,.ref pa])->(oq C P L g o hp d hs kvs)->(L pa=some (.lst<|nY ps))->(pa≠hp)->(ps[0]?=some p0)->((∀p∈ps,p<hs.length))->((∃rk,cr rk hs))->(kvs.length<sizeLine)->(∀hs' h,Mgd hs hs' ps h->Q .non (qe (qe L hp<|.lst<|nY hs') d<|.dct<|kD kvs (.inl (h:Int)) rule))->bS C P ys L Q
theorem Va{K:Ai}{P:Addr}(xf:XFG K C P):∀ys L Q,bS C P ys L Q->jj (U7 K P (cq P)<|bp P) 4 ys L Q:=by
 rintro ys L Q ⟨g,o,U,d,pa,hs,a4,ps,J,rule,rfl,G,ha,a3,e0,lt,hr,kl,q⟩;obtain⟨rk,hr⟩:=hr;have l0:=lt J<|AF e0;obtain⟨h0,t0⟩:=hr.rep' l0;have ka:∀hs',qe L U (.lst<|nY hs') pa=some (.lst<|nY ps):=λhs'=>(qb a3).trans ha;have a0:cI (nY ps) ((0:Nat):Int)=some (.int (J:Int)):=mh e0;have M0:Mgd hs hs [J] h0:=⟨rfl,⟨rk,hr⟩,⟨J,Aj.mpr rfl,t0⟩,λi s t ψ=>by obtain⟨p,U,t'⟩:=ψ;rw[Aj.mp U] at t';rw[t0.uniq t'];exact t,λi s t _=>t⟩;refine aw (jm ha) (λi τ L'=>∃c3 hs' h,τ=[some<|.ref g,some rule,some<|.ref pa,c3]/\L'=qe L U (.lst<|nY hs')/\Mgd hs hs' (J::ps.take i) h) ⟨_,hs,h0,rfl,(kz G.hh).symm,M0⟩ (λi τ L' ψ=>by obtain⟨_,hs',_,_,e,_⟩:=ψ;rw[e,ka,ha]) ?_ ?_
 ·rintro i y τ L' hy ⟨c3,I,h1,rfl,rfl,M⟩;obtain⟨k,ek,rfl⟩:=bO hy;have lk:=lt k<|AF ek;obtain⟨s,tk⟩:=hr.rep' lk;have l:=G.heads (hs':=I);obtain⟨r,T⟩:=M.rk;obtain⟨b,tb⟩:=T.rep' (i:=k) (by rw[M.len];exact lk);have tp:ju I J h1:=M.inn J h0 t0 ⟨J,Ag,t0⟩;refine zp l.hg ⟨xf.cl,xf.np,qj cU<|zp l.ho ⟨rfl,gi,qc (ka _)<|qj a0 ?_⟩⟩;refine⟨o,U,I,J,k,h1,b,_,_,rfl,rfl,rfl,l.ho,l.hh,⟨r,T⟩,tp,tb,by rw[M.len];exact l0,by rw[M.len];exact lk,λa1 l2 r2 j _ _=>?_⟩;rw[zc];refine⟨_,EC _,_,a1,b,rfl,rfl,?_⟩;rw[Bk,ek];exact M.more tk l2 r2 tb j
 ·rintro τ L' ⟨c3,I,h1,rfl,rfl,M⟩;rw[jd,Bi] at M;have l:=G.heads (hs':=I);obtain⟨r,T⟩:=M.rk;have tp:ju I J h1:=M.inn J h0 t0 ⟨J,Ag,t0⟩;refine zp l.hg ⟨xf.cl,xf.nr,qj sm<|zp l.hg ⟨xf.cl,xf.np,qj cU<|zp l.ho ⟨rfl,wv,qc (ka _)<|qj a0 ?_⟩⟩⟩;refine⟨o,U,I,J,_,r,rfl,rfl,l.ho,l.hh,T,by rw[M.len];exact l0,λr1 a1 l2 k2 t2 a2 _=>?_⟩;cases t2.uniq tp;rw[zc];have G2:=G.heads (hs':=a1);have eq:∀s,(∃p∈J::ps,ju hs p s)↔∃p∈ps,ju hs p s:=λs=>⟨λ ψ=>by
   obtain⟨p,U,t⟩:=ψ
   rcases Am.mp U with rfl|U
   ·exact⟨p,AF e0,t⟩
   ·exact⟨p,U,t⟩,λ⟨p,U,t⟩=>⟨p,Ae _ U,t⟩⟩
  refine xn G2.hd ⟨kl,jv<|q a1 h1 ⟨l2.trans M.len,⟨r,k2⟩,(eq _).mp M.hd,λi s t m=>a2 _ _<|M.inn i s t<|(eq s).mpr m,λi s t m=>a2 _ _<|M.out i s t λz=>m<|(eq s).mp z⟩⟩
theorem dC(p th:Nat->Bool)(l:Xa):l.countP p=l.countP (λx=>p x&&th x)+l.countP (λx=>p x&&!th x):=by
 induction l with
 |nil=>rfl
 |cons x r I=>
  rw[Bn,Bn,Bn,I];cases th x<;>cases p x<;>simp<;>lia
theorem Vb{th:Nat->Bool}(C:hs.length=n)(J:cr rk hs)(sep:∀a b,sQ hs a b->a=b\/(th a=true/\th b=true))
 (all:∀a b,a<n->b<n->th a=true->th b=true->sQ hs a b) {z:Nat} (hz:z<n) (T:th z=true):dY hs=(List.range n).countP (λx=>!th x)+1:=by
 unfold dY;rw[C,dC _ th,DY];congr 1
 ·refine BW λx U=>?_;have U:=AZ.mp U;rw[AU,B8];refine⟨λh=>h.2,λh=>⟨?_,h⟩⟩;obtain⟨r,t⟩:=J.rep' (i:=x) (by lia);rcases sep x r ⟨r,t,.root t.top⟩ with e|⟨e,_⟩
  ·rw[e];exact t.top
  ·rw[e] at h;cases h
 ·obtain⟨r,t⟩:=J.rep' (i:=z) (by lia);have I:=t.top;have rl:=qx I;have g:th r=true:=(sep z r ⟨r,t,.root I⟩).elim (λe=>e▸T) λh=>h.2;have e:=bW (p:=λi=>decide (hs[i]?=some i)&&th i) (a:=r) (by rw[Ax I,g];rfl) (l:=List.range n) BG<|AZ.mpr (by lia);rw[<-e];have zero:(List.range n).countP (λj=>(decide (hs[j]?=some j)&&th j)&&!decide (j=r))=0:=List.countP_eq_zero.mpr λj hj h=>by rw[AU,AU,B8] at h;obtain⟨⟨j1,j2⟩,o⟩:=h;obtain⟨s,p,q⟩:=all j r (AZ.mp hj) (by lia) j2 g;have:j=r:=(p.of_top j1).symm.trans<|q.of_top I;rw[Ax this] at o;cases o
  rw[zero]
def dE(ks:List<|Xw)(p:Nat):Bool:=match ks[p]? with
 |some k=>eL k
 |none=>false
theorem aG{k:Kn}(h:ks[p]?=some (some k)):dE ks p=true:=by unfold dE;rw[h];rfl
theorem af(h:dE ks p=true):p<ks.length:=by
 unfold dE at h;split at h
 ·rename_i k e;exact qx e
 ·cases h
theorem J8(ks:List<|Xw):(zr ks).length=(List.range ks.length).countP (dE ks):=by rw[Be];rfl
theorem rG :dE ks p=true↔p∈zr ks:=by
 constructor
 ·intro h;exact AN.mpr ⟨AZ.mpr<|af h,h⟩
 ·intro h;exact(AN.mp h).2
def GH(ks:List<|Xw)(ps:W6):Prop:=∀x∈ps,dE ks x.1=true/\dE ks x.2=true
structure CT(ks:List<|Xw)(ps:W6)(es:Xa):Prop where
 inp:GH ks ps
 nds:∀p∈es,∃e i j,ks[p]?=some (some<|Kn.nd e i j)/\dE ks i=true/\dE ks j=true
 one:∀R:Nat->Nat->Prop,(∀a,R a a)->(∀a b,R a b->R b a)->(∀a b c,R a b->R b c->R a c)->(∀x∈ps,R x.1 x.2)->
  (∀p∈es,∀e i j,ks[p]?=some (some<|Kn.nd e i j)->R i j->R p i)->∀a b,dE ks a=true->dE ks b=true->R a b
 ex:∃z,dE ks z=true
theorem Vc(ks:List<|Xw):Eqv λa b=>a=b\/(dE ks a=true/\dE ks b=true):=⟨λa=>.inl rfl,λh=>h.elim (λe=>.inl e.symm) λh=>.inr ⟨h.2,h.1⟩,λ{a b c} h k=>by
 rcases h with rfl|h
 ·exact k
 ·rcases k with rfl|k
  ·exact .inr h
  ·exact .inr ⟨h.1,k.2⟩⟩
theorem Vd(hs:Xa):Eqv λa b=>a=b\/sQ hs a b:=⟨λa=>.inl rfl,λh=>h.elim (λe=>.inl e.symm) λ ψ=>(by obtain⟨r,p,q⟩:=ψ;exact .inr ⟨r,q,p⟩),λ{a b c} h k=>by
 rcases h with rfl|⟨r,p,q⟩
 ·exact k
 ·rcases k with rfl|⟨s,I,J⟩
  ·exact .inr ⟨r,p,q⟩
  ·exact .inr ⟨r,p,by rw[q.uniq I];exact J⟩⟩
theorem uK(I:cr rk hs){a b:Nat}(J:a<hs.length)(h:a=b\/sQ hs a b):sQ hs a b:=by
 rcases h with rfl|h
 ·obtain⟨r,t⟩:=I.rep' J;exact⟨r,t,t⟩
 ·exact h
theorem CT.all{ps:W6}{es:Xa}(H:CT ks ps es)(J:hs.length=ks.length)(U:cr rk hs)(h1:∀x∈ps,sQ hs x.1 x.2)(h2:Fz ks hs es):∀a b,a<ks.length->b<ks.length->dE ks a=true->dE ks b=true->sQ hs a b:=λa b o _ C tb=>by have E:=Vd hs;refine uK U (by rw[J];exact o)<|H.one (λa b=>a=b\/sQ hs a b) E.r (λ_ _=>E.s) (λ_ _ _=>E.t) (λx T=>.inr<|h1 x T) (λp g e i j l h=>?_) a b C tb;obtain⟨e',i',j',I,hi,_⟩:=H.nds p g;rw[l] at I;cases I;exact .inr (h2 p g e i j l (uK U (by rw[J];exact af hi) h))
theorem pS{ks:List<|Xw}:∀{pl:Xa},(∀p∈pl,∃e i j,ks[p]?=some (some<|Kn.nd e i j))->(ji ks pl).length=2*pl.length
 |[],_=>rfl
 |p::r,h=>by have J:=pS (pl:=r) λq U=>h q<|Ae _ U;obtain⟨e,i,j,g⟩:=h p<|Ag ..;have I:=jH ks [p] r;rw[Cc] at I;rw[I,Aa,Az,kJ g,J];show 2+2*r.length=2*(r.length+1);lia
theorem Ve{e:Bool}{pl:Xa}(h:ks[p]?=some (some<|.nd e i j))(hp:p∈pl):(p,i)∈ji ks pl/\(p,j)∈ji ks pl:=by
 unfold ji;constructor<;>refine Ay.mpr ⟨p,hp,?_⟩<;>rw[h]
 ·exact Ag ..
 ·exact Ae _<|Ag ..
theorem pV{x:Xi}{pl:Xa}(h:x∈ji ks pl):∃e i j,ks[x.1]?=some (some<|.nd e i j)/\(x.2=i\/x.2=j):=by
 unfold ji at h;obtain⟨p,g,J⟩:=Ay.mp h;split at J
 ·rename_i k U;obtain⟨q,I,rfl⟩:=Bm.mp J;cases k with
  |none=>cases I
  |some k=>
   cases k with
   |lf t n=>cases I
   |nd e i j=>
    have I:q∈[i,j]:=I;refine⟨e,i,j,U,?_⟩;rcases Am.mp I with rfl|I
    ·exact .inl rfl
    ·exact .inr<|Aj.mp I
 ·cases J
theorem Vf{e:Bool}(h:p∈jb e ks):∃i j,ks[p]?=some (some<|.nd e i j):=by
 obtain⟨_,k,J,I⟩:=dA h;cases k with
 |none=>cases I
 |some k=>
  cases k with
  |lf t n=>cases I
  |nd U i j=>
   have:U=e:=of_decide_eq_true I;subst this;exact⟨i,j,J⟩
theorem yM{e:Bool}(h:ks[p]?=some (some<|.nd e i j)):p∈jb e ks:=sE h (Ax rfl)<|qx h
theorem zS{th:Nat->Bool}(g:hs.length=n)(I:cr rk hs)(sep:∀a b,sQ hs a b->a=b\/(th a=true/\th b=true))
 (h:dY hs=(List.range n).countP (λx=>!th x)+1) {a b:Nat} (C:a<n) (T:b<n) (ta:th a=true) (tb:th b=true):sQ hs a b:=by
 have gone:(List.range n).countP (λx=>decide (hs[x]?=some x)&&!th x)=(List.range n).countP λx=>!th x:=BW λx U=>by
  have U:=AZ.mp U;rw[AU,B8];refine⟨λh=>h.2,λh=>⟨?_,h⟩⟩;obtain⟨r,t⟩:=I.rep' (i:=x) (by omega);rcases sep x r ⟨r,t,.root t.top⟩ with e|⟨e,_⟩
  ·rw[e];exact t.top
  ·rw[e] at h;cases h
 unfold dY at h;rw[g,dC _ th,gone] at h;obtain⟨r,t⟩:=I.rep' (i:=a) (by omega);obtain⟨s,u⟩:=I.rep' (i:=b) (by omega);have J:=t.top;have st:=u.top;have o:th r=true:=(sep a r ⟨r,t,.root J⟩).elim (λe=>e▸ta) λh=>h.2;have ts:th s=true:=(sep b s ⟨s,u,.root st⟩).elim (λe=>e▸tb) λh=>h.2;have e:=bW (p:=λi=>decide (hs[i]?=some i)&&th i) (a:=r) (by rw[Ax J,o];rfl) (l:=List.range n) BG (AZ.mpr (by have:=qx J;omega));have z:(List.range n).countP (λj=>(decide (hs[j]?=some j)&&th j)&&!decide (j=r))=0:=by omega
 by_cases c:s=r
 ·exact⟨r,t,c▸u⟩
 ·exact absurd (by rw[Ax st,ts,AB c];rfl) (List.countP_eq_zero.mp z s (AZ.mpr (by have:=qx st;omega)))
def GI(ks:List<|Xw)(ps:W6)(es:Xa):Prop:=∀R:Nat->Nat->Prop,(∀a,R a a)->(∀a b,R a b->R b a)->(∀a b c,R a b->R b c->R a c)->(∀x∈ps,R x.1 x.2)->
 (∀p∈es,∀e i j,ks[p]?=some (some<|Kn.nd e i j)->R i j->R p i)->∀a b,dE ks a=true->dE ks b=true->R a b
structure CI(ks:List<|Xw)(ps:W6)(es:Xa):Prop where
 inp:GH ks ps
 nds:∀p∈es,∃e i j,ks[p]?=some (some<|Kn.nd e i j)/\dE ks i=true/\dE ks j=true
 ex:∃z,dE ks z=true
theorem CI.ndAt{ps:W6}{es:Xa}(H:CI ks ps es):∀p∈es,JR ks ks.length p:=λp J=>by obtain⟨e,i,j,I,U,g⟩:=H.nds p J;exact⟨e,i,j,I,qx I,af U,af g⟩
inductive fk(C:Addr)(ys:List Y)(L:ql)(Q:YK):Prop
 |mk:∀a j b,∀ks:List (Xw),∀ps:W7,∀es:Xa,(ys=[.ref a,.ref j,.ref b])->(L a=some (.lst<|aM ks))->(L j=some (.lst<|j4 ps))->(L b=some (.lst<|nY es))->(ks.length<=1000)->(ps.length<=10000)->(CI ks ps es)->(∀zs p,L p=none->(zs.length+1=(zr ks).length↔GI ks ps es)->Q (.ref p) (qe L p<|.lst zs))->fk C ys L Q
theorem Vg :∀ys L Q,fk C ys L Q->jj (wQ C (dy C) (gM C)<|fi C) 4 ys L Q:=by
 rintro ys L Q ⟨a,j,b,J,ps,es,rfl,ha,hj,hb,hz,a7,H,q⟩;refine qc ha λx hx=>⟨x,J.length,_,rfl,by rw[Ah],q9,hz,λI o=>⟨rfl,?_⟩⟩;have a1:x≠I:=xu q9 o;have U:L I=none:=j8 o;have g:(qe (qe (qe L x<|.ins C []) I<|.lst<|nY<|List.range J.length) x<|.ins C<|hJ I) x=some (.ins C<|hJ I):=q9;have r:(qe (qe (qe L x<|.ins C []) I<|.lst<|nY<|List.range J.length) x<|.ins C<|hJ I) I=some (.lst<|nY<|List.range J.length):=(qb<|AQ a1).trans q9;have sub:qh L (qe (qe (qe L x<|.ins C []) I<|.lst<|nY<|List.range J.length) x<|.ins C<|hJ I):=(((By hx).trans<|By o).upd hx);generalize qe (qe (qe L x<|.ins C []) I<|.lst<|nY<|List.range J.length) x (.ins C<|hJ I)=L2 at g r sub;have ln:(List.range J.length).length=J.length:=Ba;refine⟨x,I,j,List.range J.length,ps,rfl,g,r,sub _ _ hj,xu hj U,⟨_,uJ _⟩,λy hy=>by rw[ln];exact⟨af (H.inp y hy).1,af (H.inp y hy).2⟩,a7,λs1 t a2 n1 g1 z1 r1 m1=>?_⟩;have l:I≠s1:=xu r n1;refine⟨x,I,a,b,a2,J,es,rfl,(qb<|xu g n1).trans<|(qb a1).trans g,(qb l).trans q9,(qb<|xu (sub _ _ ha) n1).trans<|(qb<|xu ha U).trans<|sub _ _ ha,(qb<|xu (sub _ _ hb) n1).trans<|(qb<|xu hb U).trans<|sub _ _ hb,xu ha U,xu hb U,g1.2,λp I=>by rw[g1.1,ln];exact H.ndAt p I,by rw[g1.1,ln];exact hz,λs2 a3 T n2 g2 r2 m2=>?_⟩;have e1:(qe (qe (qe (qe L2 I<|.lst<|nY a2) s1<|.lst t) I<|.lst<|nY T) s2<|.lst a3) s1=some (.lst t):=(qb<|xu q9 n2).trans<|(qb<|AQ l).trans q9;have l1:=JS<|List.range J.length;rw[ln] at l1;have au:=Tt;refine⟨_,_,e1,q9,by lia,λp4 ab=>?_⟩;have ac:L2 p4=none:=j8<|j8<|j8<|j8 ab;have a4:L p4=none:=cT sub ac;refine dt (L:=qe L p4<|.lst<|t++a3) (λy u e=>?_)<|q _ p4 a4 ?_
 rotate_left
 ·obtain⟨l2,av,k2⟩:=g2;have a0:T.length=J.length:=by rw[l2,g1.1,ln]
  rw[zQ] at r1;rw[Aa,J8];obtain⟨z,tz⟩:=H.ex;have F:∀R,Eqv R->(∀x∈ps,R x.1 x.2)->JQ J es R->ot R T:=λR E I hf=>m2.1.2 R E hf<|m1.2.2 R E I<|xE E _;have sep:=F _ (Vc J) (λx hx=>.inr<|H.inp x hx) λp I e i j ek _=>.inr ⟨aG ek,by obtain⟨e',i',j',a5,hi,_⟩:=H.nds p I;rw[ek] at a5;cases a5;exact hi⟩;have m_:=dC (λ_=>true) (dE J)<|List.range J.length;rw[Cd.mpr λ_ _=>rfl,Ba] at m_;simp only[Dg] at m_;refine⟨λz R rf sy tr I hf a b ta tb=>F R ⟨rf,λh=>sy _ _ h,λh k=>tr _ _ _ h k⟩ I hf a b<|zS a0 k2 sep (by lia) (af ta) (af tb) ta tb,λc=>?_⟩;have rt:=Vb a0 k2 sep (CT.all ⟨H.inp,H.nds,c,H.ex⟩ a0 k2 (λx hx=>m2.1.1 _ _<|m1.2.1 x hx) m2.2) (af tz) tz;lia
 by_cases c:y=p4
 ·subst c;rw[q9] at e ⊢;exact e
 ·rw[qb c] at e;have e2:=sub _ _ e;have al:L2 s2=none:=j8<|j8 n2;rw[qb c,qb<|xu e2 al,qb<|xu e U,qb<|xu e2 n1,qb<|xu e U];exact e2
inductive io(ys:List Y)(L:ql)(Q:YK):Prop
 |mk:∀a j b,∀ks:List (Xw),∀ps:W7,∀es:Xa,(ys=[.ref a,.ref j,.ref b])->(L a=some (.lst<|aM ks))->(L j=some (.lst<|j4 ps))->(L b=some (.lst<|nY es))->(ks.length<=1000)->(ps.length<=10000)->(CI ks ps es)->(∀r,(r=true↔ps.length+es.length+1=(zr ks).length/\GI ks ps es)->Q (.bl r) L)->io ys L Q
theorem Vh :∀ys L Q,io ys L Q->jj (gO cX<|fk C) 4 ys L Q:=by rintro ys L Q ⟨a,j,b,J,o,p,rfl,r,t,T,hz,U,H,q⟩;refine⟨a,J,rfl,r,hz,λp1 g=>qc q9 ?_⟩;have I:qh L (qe L p1<|.lst<|nY<|zr J):=By g;refine qc (I _ _ t)<|qc (I _ _ T) ?_;show aK (decide<|((j4 o).length:Int)+((nY p).length:Int)=((nY<|zr J).length:Int)-1) _ _;rw[jd,jd,Ah];refine je (λc=>?_) λc=>dt I<|q _ ⟨(λz=>by cases z),λz=>absurd (by lia) c⟩;refine⟨a,j,b,J,o,p,rfl,I _ _ r,I _ _ t,I _ _ T,hz,U,H,λzs p2 l hq=>qc q9 ?_⟩;show fG Q (.bl<|decide<|(zs.length:Int)=((zr J).length:Int)-1) _;refine dt (I.trans<|By l) (q _ ⟨λz=>⟨by lia,hq.mp (by have:=of_decide_eq_true z;lia)⟩,λz=>Ax ?_⟩);have:=hq.mpr z.2;omega
structure J9(L:ql)(a l c:Addr)(ks:List<|Xw)(lk ct:W6):Prop where
 ha:L a=some (.lst<|aM ks)
 hl:L l=some (.lst<|j4 lk)
 hc:L c=some (.lst<|j4 ct)
 z1:ks.length<=1000
 z2:lk.length<=1000
 z3:ct.length<=1000
 in_:CI ks (xi ks lk ct) (jb true ks)
def RtX(ks:List<|Xw)(lk ct:W6):Prop:=(xi ks lk ct).length+(jb true ks).length+1=(zr ks).length/\GI ks (xi ks lk ct) (jb true ks)
inductive fc(ys:List Y)(L:ql)(Q:YK):Prop
 |mk:∀a l c ks lk ct,(ys=[bJ a l c])->(J9 L a l c ks lk ct)->(∀r,(r=true↔RtX ks lk ct)->Q (.bl r) L)->fc ys L Q
theorem Vi:∀ys L Q,fc ys L Q->jj (tQ io eI f7) 1 ys L Q:=by rintro ys L Q ⟨a,l,c,ks,lk,ct,rfl,W,q⟩;refine⟨a,l,c,ks,lk,ct,rfl,W.ha,W.hl,W.hc,W.z1,W.z2,W.z3,λU J=>?_⟩;have g:qh L (qe L U<|.lst<|j4<|xi ks lk ct):=By J;refine⟨a,l,c,ks,rfl,g _ _ W.ha,W.z1,λp I=>?_⟩;have j:=g.trans<|By (o:=.lst<|nY<|jb true ks) I;have C:=Us (ks:=ks) (lk:=lk) (ct:=ct);have:=W.z1;have:=W.z2;have:=W.z3;exact⟨a,U,p,ks,_,_,rfl,j _ _ W.ha,By I _ _ q9,q9,W.z1,by lia,W.in_,λr t=>dt j<|q r t⟩
def Fg(ks:List<|Xw)(z:Nat):W7:=((List.range ks.length).filter λx=>!dE ks x).map λx=>(x,z)
theorem J'{z:Nat}{x:Xi}(h:x∈Fg ks z):x.1<ks.length/\dE ks x.1=false/\x.2=z:=by obtain⟨y,I,rfl⟩:=Bm.mp h;obtain⟨J,U⟩:=AN.mp I;exact⟨AZ.mp J,by simpa using U,rfl⟩
theorem Vj(ks:List<|Xw)(z:Nat):(Fg ks z).length+(zr ks).length=ks.length:=by have m_:=dC (λ_=>true) (dE ks)<|List.range ks.length;rw[Cd.mpr λ_ _=>rfl,Ba] at m_;simp only[Dg] at m_;unfold Fg;rw[Ah,<-Be,J8];have e:(List.range ks.length).countP (λx=>dE ks x)=(List.range ks.length).countP (dE ks):=rfl;omega
theorem Vk{es bs:Xa}(h:bs.length=es.length):(t_ ks es bs).length=es.length:=by unfold t_;rw[List.length_zipWith,h,Nat.min_self]
theorem Ka{ks:List<|Xw}{ps:W6}:∀{es bs:Xa},CI ks ps es->GH ks (t_ ks es bs)
 |[],_,_=>λx I=>by cases I
 |p::r,[],_=>λx I=>by cases I
 |p::r,b::bs,H=>λx I=>by
  rcases Am.mp I with rfl|I
  ·obtain⟨e,i,j,J,U,g⟩:=H.nds p<|Ag ..;refine⟨aG J,?_⟩;show dE ks (i_ ks p b)=true;rw[oX J];split
   ·exact U
   ·exact g
  ·exact Ka (es:=r) ⟨H.inp,λp l=>H.nds p<|Ae _ l,H.ex⟩ x I
theorem CI.app{ps:W6}{es bs:Xa}(H:CI ks ps es):CI ks (ps++t_ ks es bs) []:=⟨λx I=>(Ak.mp I).elim (H.inp x)<|Ka H x,λp J=>(by cases J),H.ex⟩
def GJ(n:Nat)(es:W6):Prop:=∀R:Nat->Nat->Prop,Eqv R->(∀x∈es,R x.1 x.2)->∀a b,a<n->b<n->R a b
theorem yn(es:W6):Eqv λa b=>se es id a=se es id b:=⟨λ_=>rfl,λh=>h.symm,λh k=>h.trans k⟩
end L3
namespace L3
open PySem L2
open PySem L2 Words
theorem nL(nd:(vk lk).Nodup){x y:Xi}(I:x∈lk)(J:y∈lk)(px:p=x.1\/p=x.2)(py:p=y.1\/p=y.2):x=y:=Decidable.byContradiction λc=>by have pm:=gE<|Ut (bU nd) I J c;rw[ke,ke] at pm;have:=pm.nodup_iff.mp nd;rcases px with rfl|rfl<;>rcases py with e|e<;>simp[e] at this
def Vl(p x:Nat)(z:Xi):Prop:=z=(p,x)\/z=(x,p)
end L3
namespace L2
open PySem PySem.Spec PyProof.Rows
section
variable {prog:Xl}{w:Xm}
section
variable {t1 t2:Bool}{z TI TO i1 i2 l1 l2 B:Addr}{xs ys:W9}
end
end
section
variable {σ:L2.St}{t1 t2:Bool}{z TI TO i1 i2 l1 l2 S:Addr}{ys:Xp}{R:Result->Xk->Prop}{res:Xj}
end
end L2
namespace L3
open PySem L2
def yx(x y:Y)(L:ql)(Q:YK):Prop:=match x,y with
 |.tup xs,.tup ys=>xs≠[]/\xs.length+ys.length<=1000/\Q (.tup<|xs++ys) L
 |_,_=>False
theorem Vm :wc X (binaryOp .Add) (gm X.g3 yx):=EU O' λx y H Q x3 y3 L Q3 T ry g z k=>by
 unfold yx at z;split at z
 ·rename_i j o;obtain⟨n,l,z⟩:=z;obtain⟨a,I,rfl,r,J⟩:=T;obtain⟨b,t,rfl,s2,C⟩:=ry;have l1:=J.length;have l2:=C.length;refine⟨a,b,I,t,rfl,rfl,r,s2,λe=>n ?_,fI (by lia),λe=>?_,λ_ p U=>?_⟩
  ·subst e;exact BD l1
  ·subst e;have:o=[]:=BD l2;subst this;rw[Av] at z;exact k _ H _ L (ED _) g (show RV X.g3 H (.tup j) (.ref a) from⟨a,I,rfl,r,J⟩) z
  ·exact k _ _ _ L (EE U) (g.skip U) (show RV X.g3 (upd H p<|.tup<|I++t) (.tup<|j++o) (.ref p) from⟨p,_,rfl,dh.of zu,(J.app C).ts<|EE U⟩) z
 ·exact z.elim
open PySem L2 Words
theorem Paired.len{α β:Type}{F:α->β->Prop}:∀{xs:List α} {ys:List β},Paired F xs ys->xs.length=ys.length
 |_,_,.nil=>rfl
 |_,_,.cons _ r=>BS (· + 1)<|Paired.len r
def Kb:Y->Bool
 |.non=>true
 |.int _=>true
 |.str _=>true
 |_=>false
def kA(L:ql):Nat->Y->Y->Prop
 |0,_,_=>False
 |n+1,x,y=>(Kb x=true/\y=x)\/(∃xs ys,x=.tup xs/\y=.tup ys/\ys.length<=1000/\Paired (kA L n) xs ys)\/(∃a b xs ys,x=.ref a/\y=.ref b/\L a=some (.lst xs)/\L b=some (.lst ys)/\ys.length<=1000/\Paired (kA L n) xs ys)
theorem kA.flat{x:Y}(h:Kb x=true):kA L (n+1) x x:=.inl ⟨h,rfl⟩
theorem kA.tup{xs:List Y}(h:Paired (kA L n) xs ys)(l:Nat.ble ys.length 1000=true:=by rfl):kA L (n+1) (.tup xs) (.tup ys):=.inr<|.inl ⟨xs,ys,rfl,rfl,CC l,h⟩
theorem oR{L:ql}{n:Nat}:∀wd:List (Xw),Paired (kA L<|n+2) (aM wd)<|aM wd
 |[]=>.nil
 |none::r=>.cons (.flat rfl)<|oR r
 |some (.lf t m)::r=>.cons (.tup<|.cons (.flat rfl)<|.cons (.flat rfl) .nil)<|oR r
 |some (.nd e i j)::r=>.cons (.tup<|.cons (.flat rfl)<|.cons (.flat rfl)<|.cons (.flat rfl) .nil)<|oR r
inductive az(n:Nat)(ys:List Y)(L:ql)(Q:YK):Prop
 |mk:∀x y,(ys=[x,y])->(kA L n x y)->(Q (.bl true) L)->az n ys L Q
theorem Vn:∀ys L Q,¬az 0 ys L Q:=λys L Q ψ=>(by obtain⟨x,y,_,h,_⟩:=ψ;exact h)
noncomputable def u5(I:zd):RR "_law_moved" dO 1 ["_law_rule","_law_at"] ["_law_rule","_law_at","_law_places","_law_arms"] I (λ_=>True):=⟨_,λV B c _ _ J _ _ _ _ _ _ g hN U=>(qa (zm (E_ U (J_ 0) j5) (qd<|qr<|zh<|aW j5 (aB Qu rfl B.b_min Ud<|vv (dW U (qv 1) (J_ 0) λ_ _=>rfl)<|dW U (qv 1) (J_ 0) λ_ _=>rfl)<|aB IM rfl B.bn Iq<|vv (dW U (qv 1) (J_ 0) λ_ _=>rfl)<|dW U (qv 1) (J_ 0) λ_ _=>rfl) qz)<|qa (cN ["_law_x"] (i:=2) hN rfl (Or.inl rfl) (EL (by rfl)) rfl (s9<|xz (iC _ _ _) (qv 0) (xr qf) aX) (wM 4) (λ_ _ _ _=>cH<|js<|vt .int rfl B.bb rfl B.b_int wU<|qv 4) λ_ _ _ _=>(dW U (qv 1) (qv 4) λ_ _=>rfl))<|qa (cN ["_law_x"] (i:=3) hN rfl (Or.inl rfl) (EL (by rfl)) rfl (s9<|xz (iC _ _ _) (qv 0) (xr qf) aX) (wM 4) (λ_ _ _ _=>cH<|js<|vt .tuple rfl B.bb rfl B.bi bR<|qv 4) λ_ _ _ _=>(C_ J g<|vv (qv 4)<|qv 1))<|qd<|qr<|cV UJ rfl B.bi bR<|jo<|qm jf (qm jf (zj<|jo<|J_ 0)<|qv 2)<|qv 3)⟩
noncomputable def Vo(I:zd):vn:=(u5 I).1
theorem Vp(n:Nat):∀ys L Q,bQ (n+1) ys L Q->jj (Vo<|bQ n) 4 ys L Q:=by
 rintro ys L Q ⟨R,d,g,f,rfl,hd,l,hr,q⟩;have big:=a_;by_cases U:∃a b,R=.link a b
 ·obtain⟨a,b,rfl⟩:=U;have v1:=l _ (iB _) a<|Ag ..;have v2:=l _ (iB _) b<|Ae _<|Ag ..;refine xn hd<|qj v1 ?_;refine xn hd<|qj v2 ?_;refine xn hd<|qj v1 ?_;refine xn hd<|qj v2 ?_;refine jv ?_;have e1:min (f a:Int) (f b:Int)=((min (f a) (f b):Nat):Int):=Tk _ _;have e2:max (f a:Int) (f b:Int)=((max (f a) (f b):Nat):Int):=To _ _;have q:Q (.tup [.str "link",.int ((min (f a) (f b):Nat):Int),.int ((max (f a) (f b):Nat):Int)]) L:=q;rw[<-e1,<-e2] at q;exact q
 have hk:Ff R ≠ "link" := by cases R with|link a b=>exact absurd ⟨a,b,rfl⟩ U|ei r A=>show(Str.ofString "either") ≠ "link";decide +kernel|bo r A B=>show(Str.ofString "both") ≠ "link";decide +kernel|cu p s A B=>show(Str.ofString "cut") ≠ "link";decide +kernel
 have T:Q (.tup<|[.str<|Ff R]++nY ((plR R).map f)++(wz R).map λB=>zf<|lQ f B) L:=by cases R with|link a b=>exact absurd ⟨a,b,rfl⟩ U|ei r A=>exact q|bo r A B=>exact q|cu p s A B=>exact q
 have vp:∀x∈plR R,v4 g (.inl (x:Int))=some (.int (f x:Int)):=l R<|iB R;have va:∀B∈wz R,x9 B<=n/\∀C∈fQ B,∀x∈plR C,v4 g (.inl (x:Int))=some (.int (f x:Int)):=λB hB=>⟨by have:=qO hB;lia,λC hC=>l C<|bF (UA hB) hC⟩;have lp:(plR R).length<=2:=by cases R<;>simp[plR]
 have lA:(wz R).length<=2:=by cases R<;>simp[wz]
 rw[ip R];generalize plR R=P at vp T lp;generalize wz R=I at va T lA;generalize Ff R=t at hk T;clear q l U hr;have e0:cI (Y.str t::(nY P++I.map zf)) 0=some (Y.str t):=jt (xs:=Y.str t::(nY P++I.map zf)) (j:=0) rfl;have ll:(nY P++I.map zf).length=P.length+I.length:=by rw[Aa,jd,Ah]
 walk_at "w";rw[e0];refine wn (AB hk) ?_;refine⟨sH _ _,?_⟩;rw[nH];refine eY (λi J=>J=nY ((P.take i).map f)) (by rw[ll];exact big _ (by lia)) trivial rfl ?_ ?_
 ·rintro i y J hy rfl;rcases sW hy with⟨c,x,ex,rfl⟩|⟨c,B,eB,rfl⟩
  ·refine xn hd<|qj (vp x<|AF ex) ⟨_,EC _,rfl,?_⟩;rw[Bk,ex,AG,dR];rfl
  ·have e1:P.take (i+1)=P.take i:=by rw[Bb (by lia),Bb c]
   have z:jM (λJ L'=>L'=L/\J=nY ((P.take<|i+1).map f)) (nY<|(P.take i).map f) L:=⟨_,EC _,rfl,by rw[e1]⟩;rw[ip B];exact z
 rintro J rfl p1 h1;rw[ll,Bb (by lia)];have s3:=By (o:=.lst<|nY<|P.map f) h1;have g3:qe L p1 (.lst<|nY<|P.map f) p1=some (.lst<|nY<|P.map f):=q9;refine⟨sH _ _,?_⟩;rw[nH];generalize qe L p1 (.lst<|nY<|P.map f)=L3 at s3 g3 ⊢;refine eY (λi J=>J=(I.take<|i-P.length).map λB=>zf<|lQ f B) (by rw[ll];exact big _ (by lia)) trivial (by rw[Nat.zero_sub];rfl) ?_ ?_
 ·rintro i y J hy rfl;rcases sW hy with⟨c,x,ex,rfl⟩|⟨c,B,eB,rfl⟩
  ·exact⟨_,EC _,rfl,by rw[CD c,CD<|BJ c]⟩
  ·obtain⟨h1,h2⟩:=va B<|AF eB;have z:bQ n [zf B,.ref d] L3 λz L4=>jM (λJ L'=>L'=L3/\J=(I.take<|i+1-P.length).map λB=>zf<|lQ f B) (((I.take<|i-P.length).map λB=>zf<|lQ f B)++[z]) L4:=by refine⟨B,d,g,f,rfl,s3 _ _ hd,h2,h1,_,EC _,rfl,?_⟩;rw[Nat.succ_sub c,Bk,eB,AG];rfl
   rw[ip B] at z ⊢;exact z
 rintro J rfl p4 h4;rw[ll,Bj,Bi];have a0:=xu g3 h4;have s4:=s3.trans<|By (o:=.lst<|I.map λB=>zf<|lQ f B) h4;have g4:=(qb (o:=.lst<|I.map λB=>zf<|lQ f B) a0).trans g3;have k4:qe L3 p4 (.lst<|I.map λB=>zf<|lQ f B) p4=some (.lst<|I.map λB=>zf<|lQ f B):=q9;generalize qe L3 p4 (.lst<|I.map λB=>zf<|lQ f B)=L4 at s4 g4 k4 ⊢;walk_at "w";rw[e0];intro p2 h2;have s2:=By (o:=.lst [Y.str t]) h2;refine⟨_,_,q9,s2 _ _ g4,?_,λp3 h3=>?_⟩
 ·rw[jd,Ah];exact BJ (big _ (by show 1+P.length<=20000;lia))
 have s5:=s2.trans<|By (o:=.lst<|[Y.str t]++nY (P.map f)) h3;refine⟨_,_,q9,s5 _ _ k4,?_,λp5 h5=>?_⟩
 ·rw[Aa,jd,Ah,Ah];exact BJ (big _ (by show 1+P.length+I.length<=20000;lia))
 exact qp q9<|dt ((s4.trans s5).trans<|By h5) T
noncomputable def gg:RD "_law_number" bx 0 ["_law_x"] (λ_=>True):=⟨_,λV B c _ _ _ _ _ _ _ I hN J=>(qd<|qr<|gy (vt .int rfl B.bb rfl B.b_int wU<|qv 0)<|jY<|QH<|vt .bool rfl B.bb rfl B.b_bool Qa<|qv 0)⟩
noncomputable def pH:vn:=(gg).1
noncomputable def ui(I:zd)(J:zd):RR "_law_alike" dI 2 ["_law_found","_law_due"] ["_law_found","_law_due","_law_k"] J (λV=>Fy V I):=⟨_,λV B c _ _ U _ _ _ _ _ _ j hN g=>(qa (zm (aC<|qv 1) (qd<|qr<|QC<|qv 0) qz)<|qa (zm (js<|vt .int rfl B.bb rfl B.b_int wU<|qv 1) (qd<|qr<|gy (C_ c j<|jo<|qv 0)<|jY<|aE (im _ _ _ g) (qv 0) (qv 1)<|x6 _) qz)<|qa (zm (js<|vt .str rfl B.bb rfl B.b_str vO<|qv 1) (qd<|qr<|gy (vt .str rfl B.bb rfl B.b_str vO<|qv 0)<|jY<|aE (im _ _ _ g) (qv 0) (qv 1)<|x6 _) qz)<|qa (zm (wu<|dQ (js<|vt .tuple rfl B.bb rfl B.bi bR<|qv 1)<|ax<|aI<|js<|vt .tuple rfl B.bb rfl B.bi bR<|qv 0) (qd<|qr bw) qz)<|qa (zm (wu<|dQ (js<|vt .list rfl B.bb rfl B.be bZ<|qv 1)<|ax<|aI<|js<|vt .list rfl B.bb rfl B.be bZ<|qv 0) (qd<|qr bw) qz)<|qa (zm (N_ g (L_ B.ba<|qv 0)<|L_ B.ba<|qv 1) (qd<|qr bw) qz)<|qa (vi u2 rfl (cK rfl B.bh<|jo<|L_ B.ba<|qv 1) (G_ 2 hN)<|qd<|zm (aI<|js<|C_ U j<|vv (I_ (qv 0)<|qv 2)<|I_ (qv 1)<|qv 2) (qd<|qr bw) qz)<|qd<|qr bw)⟩
noncomputable def Vq(I:zd)(J:zd):vn:=(ui I J).1
inductive bG(ys:List Y)(L:ql)(Q:YK):Prop
 |mk:∀i:Int,(ys=[.int i])->(Q (.bl true) L)->bG ys L Q
theorem Vr:∀ys L Q,bG ys L Q->jj pH 1 ys L Q:=by rintro ys L Q ⟨i,rfl,q⟩;exact jv q
theorem Vs(n:Nat):∀ys L Q,az (n+1) ys L Q->jj (Vq bG<|az n) 3 ys L Q:=by
 rintro ys L Q ⟨x,y,rfl,h,q⟩;rcases h with⟨f,rfl⟩|⟨I,ys,rfl,rfl,l,p⟩|⟨a,b,I,ys,rfl,rfl,o,J,l,p⟩
 ·cases y with
  |non=>exact jv q
  |int i=>
   refine⟨i,rfl,jv ?_⟩;show Q (.bl<|nb false<|decide<|i=i) L;rw[Ax rfl];exact q
  |str i=>
   refine jv ?_;show Q (.bl<|nb false<|decide<|i=i) L;rw[Ax rfl];exact q
  |_=>cases f
 ·have r:=Paired.len p;walk_at "w";refine wn (b:=nb true<|decide<|(I.length:Int)=ys.length) (by rw[r,Ax rfl];rfl) ?_;refine⟨⟨A8 _,by lia⟩,?_⟩;rw[Cg];refine sP (λi U g=>g=L/\∃c,U=[some<|.tup I,some<|.tup ys,c]) ⟨rfl,_,rfl⟩ ?_ ?_
  ·rintro i U g t ⟨rfl,c,rfl⟩;have j:I[i]?=some (I[i]'(by lia)):=Ao (by lia);have ev:ys[i]?=some ys[i]:=Ao t;have C:cI I (0+(i:Int))=some (I[i]'(by lia)):=by rw[B5];exact jt j
   have T:cI ys (0+(i:Int))=some ys[i]:=by rw[B5];exact jt ev
   walk_at "w";rw[C];walk_at "w";rw[T];exact⟨_,_,rfl,EI p j ev,_,EC _,rfl,_,rfl⟩
  ·rintro U g ⟨rfl,c,rfl⟩;exact jv q
 ·have r:=Paired.len p;refine i8 J ?_;walk_at "w";refine i8 J ?_;walk_at "w";refine i8 J ?_;walk_at "w";refine i8 J<|i8 o ?_;walk_at "w";refine qc o (qc J (wn (by rw[r,Ax rfl];rfl) ?_));refine qc J ⟨⟨A8 _,by lia⟩,?_⟩;rw[Cg];refine sP (λi U g=>g=L/\∃c,U=[some<|.ref a,some<|.ref b,c]) ⟨rfl,_,rfl⟩ ?_ ?_
  ·rintro i U g t ⟨rfl,c,rfl⟩;have j:I[i]?=some (I[i]'(by lia)):=Ao (by lia);have ev:ys[i]?=some ys[i]:=Ao t;have C:cI I (0+(i:Int))=some (I[i]'(by lia)):=by rw[B5];exact jt j
   have T:cI ys (0+(i:Int))=some ys[i]:=by rw[B5];exact jt ev
   refine qc o<|qj C<|qc J<|qj T ?_;exact⟨_,_,rfl,EI p j ev,_,EC _,rfl,_,rfl⟩
  ·rintro U g ⟨rfl,c,rfl⟩;exact jv q
theorem Vt(h:m<=n)(I:n<=120):∀ys L Q,w9 m ys L Q->w9 n ys L Q:=by rintro ys L Q ⟨a,J,w,e,U,hd,_,g,j,l,z⟩;exact⟨a,J,w,e,U,by lia,I,g,j,l,z⟩
theorem uy{e:Bool}(h:wd[p]?=some (some<|.nd e i j)):i∈a6 wd/\j∈a6 wd:=⟨Ay.mpr ⟨_,AF h,Ag⟩,Ay.mpr ⟨_,AF h,Ae _ Ag⟩⟩
structure z_(wd:List<|Xw)(lk:W6):Prop where
 lkA:∀c∈lk,c.1<c.2/\∃t n,wd[c.1]?=some (some<|.lf t n)/\wd[c.2]?=some (some<|.lf (!t) n)
 lkN:(vk lk).Nodup
 lkL:∀p,p∈vk lk↔∃t n,wd[p]?=some (some<|.lf t n)
 lkS:lk.Pairwise pI
 ll:lk.length<=60
def Vu(lk:W6)(x:Xi):Prop:=∃z∈lk,Vl x.1 x.2 z
section
variable {ps ps':W6}{u v:Nat}
end
section
variable {A:W6}{G:Xa}
end
section
variable {A:W6}{G:Xa}
end
section
variable {lk0 A0:W6}{Z:List<|Xw}
end
theorem Kc:∀(l m:Xa),l.Nodup->(∀x∈l,x∈m)->l.length<=m.length
 |[],_,_,_=>A2 _
 |x::r,m,nd,h=>by obtain⟨J,U⟩:=AC.mp nd;have g:=Kc r (m.erase x) U λy I=>(List.mem_erase_of_ne (λe:y=x=>J<|e▸I)).mpr<|h y<|Ae _ I;rw[(List.perm_cons_erase<|h x Ag).length_eq,Az,Az];lia
section
variable {A:W6}{b y w z x:Nat}
end
theorem Vv{l:List α}{x:α}(h:l[i]?=some x):l.drop i=x::l.drop (i+1):=by have I:=qx h;rw[BY I];rw[Ao I] at h;rw[AY h]
section
variable {z:Nat}{f:Xh}
def swE(wd:List<|Xw)(lk ct:W6)(f:Xh)(z:Nat):W7:=xi wd lk ct++t_ wd (jb true wd) ((jb true wd).map f)++Fg wd z
theorem oF{r:Nat}{e:Bool}:r∈jb e wd↔∃i j,wd[r]?=some (some<|.nd e i j):=by
 constructor
 ·intro h;obtain⟨_,k,J,I⟩:=dA h;cases k with
  |none=>cases e<;>cases I
  |some k=>
   cases k with|lf=>cases e<;>cases I|nd U i j=>cases e<;>cases U<;>first|exact⟨i,j,J⟩|cases I
 ·rintro⟨i,j,h⟩;exact sE h (by cases e<;>rfl)<|qx h
theorem vS{x:Xi}:∀{es:Xa},x∈t_ wd es (es.map f)↔x.1∈es/\x.2=i_ wd x.1 (f x.1)
 |[]=>⟨λh=>(Bo h).elim,λh=>(Bo h.1).elim⟩
 |p::es=>by
  show x∈(p,i_ wd p<|f p)::t_ wd es (es.map f)↔_;rw[Am,vS,Am];constructor
  ·rintro(rfl|⟨h,e⟩)
   ·exact⟨.inl rfl,rfl⟩
   ·exact⟨.inr h,e⟩
  ·rintro⟨h|h,e⟩
   ·exact .inl<|El h (by rw[e,h])
   ·exact .inr ⟨h,e⟩
theorem Vw{x:Xi}:x∈xi wd lk ct++t_ wd (jb true wd) ((jb true wd).map f)↔x∈lk\/x∈ct\/(∃i j,wd[x.1]?=some (some<|.nd false i j)/\(x.2=i\/x.2=j))\/∃i j,wd[x.1]?=some (some<|.nd true i j)/\x.2=if f x.1=0 then i else j:=by
 have I:x∈ji wd (jb false wd)↔∃i j,wd[x.1]?=some (some<|.nd false i j)/\(x.2=i\/x.2=j):=by
  unfold ji;rw[Ay];constructor
  ·rintro⟨p,J,h⟩;obtain⟨i,j,e⟩:=oF.mp J;rw[e] at h;obtain⟨q,U,rfl⟩:=Bm.mp h;exact⟨i,j,e,(Am.mp U).imp id Aj.mp⟩
  ·rintro⟨i,j,e,h⟩;refine⟨x.1,oF.mpr ⟨i,j,e⟩,?_⟩;rw[e];exact Bm.mpr ⟨x.2,by rcases h with h|h<;>rw[h]<;>simp[jp],rfl⟩
 have g:x∈t_ wd (jb true wd) ((jb true wd).map f)↔∃i j,wd[x.1]?=some (some<|.nd true i j)/\x.2=if f x.1=0 then i else j:=by
  rw[vS,oF];constructor
  ·rintro⟨⟨i,j,e⟩,h⟩;exact⟨i,j,e,by rw[h,oX e]⟩
  ·rintro⟨i,j,e,h⟩;exact⟨⟨i,j,e⟩,by rw[h,oX e]⟩
 unfold xi;rw[Ak,Ak,Ak,I,g,or_assoc,or_assoc]
theorem dJ{x:Xi}:x∈swE wd lk ct f z↔x∈lk\/x∈ct\/(∃i j,wd[x.1]?=some (some<|.nd false i j)/\(x.2=i\/x.2=j))\/(∃i j,wd[x.1]?=some (some<|.nd true i j)/\x.2=if f x.1=0 then i else j)\/(x.1<wd.length/\dE wd x.1=false/\x.2=z):=by
 have I:x∈Fg wd z↔x.1<wd.length/\dE wd x.1=false/\x.2=z:=by refine⟨J',λ ψ=>(by obtain⟨a,b,c⟩:=ψ;exact Bm.mpr ⟨x.1,AN.mpr ⟨AZ.mpr a,by rw[b];rfl⟩,El rfl c.symm⟩)⟩
 unfold swE;rw[Ak,Vw,I,or_assoc,or_assoc,or_assoc]
theorem Vx(c:(xi wd lk ct).length+(jb true wd).length+1=(zr wd).length):(swE wd lk ct f z).length+1=wd.length:=by have:=Vj wd z;unfold swE;rw[Aa,Aa,Vk<|Ah ..];omega
theorem RtX.sw(g:RtX wd lk ct)(l:dE wd z=true)(o:∀r,f r=0\/f r=1):GJ wd.length (swE wd lk ct f z):=λR E I=>by
 have key:∀a,a<wd.length->R a z:=λa J=>by
  cases U:dE wd a with
  |false=>exact I (a,z) (Ac _ (Bm.mpr ⟨a,AN.mpr ⟨AZ.mpr J,by rw[U];rfl⟩,rfl⟩))
  |true=>
   refine g.2 R E.r (λ_ _=>E.s) (λ_ _ _=>E.t) (λx C=>I x<|Al _<|Al _ C) (λp T e i j h k=>?_) a z U l;have m:=I (p,i_ wd p<|f p)<|Al _<|Ac _<|vS.mpr ⟨T,rfl⟩;rw[oX h] at m;rcases o p with e|e<;>rw[e] at m
   ·exact m
   ·exact E.t m<|E.s k
 exactλa b J hb=>E.t (key a J)<|E.s<|key b hb
end
theorem Vy(th:GF wd)(J:z_ wd lk)(hc:∀d∈ct,(∃k,wd[d.1]?=some (some k))/\∃k,wd[d.2]?=some (some k))(ex:∃z,dE wd z=true):CI wd (xi wd lk ct) (jb true wd):=by
 refine⟨λx I=>?_,λp r=>?_,ex⟩
 ·unfold xi at I;rcases Ak.mp I with I|I
  ·rcases Ak.mp I with I|I
   ·obtain⟨_,t,n,g,U⟩:=J.lkA x I;exact⟨aG g,aG U⟩
   ·obtain⟨⟨_,g⟩,_,U⟩:=hc x I;exact⟨aG g,aG U⟩
  ·obtain⟨e,i,j,g,U⟩:=pV I;obtain⟨⟨_,l⟩,_,o⟩:=th _ _ _ _ g;exact⟨aG g,by rcases U with U|U<;>rw[U];exact aG l;exact aG o⟩
 ·obtain⟨i,j,h⟩:=oF.mp r;obtain⟨⟨_,l⟩,_,o⟩:=th _ _ _ _ h;exact⟨true,i,j,h,aG l,aG o⟩
structure u_(wd:List<|Xw)(ct:W6):Prop where
 pu:Ux wd
 ctN:(vk ct).Nodup
 ctP:∀x∈vk ct,x∉a6 wd
 there:∀d∈ct,(∃k,wd[d.1]?=some (some k))/\∃k,wd[d.2]?=some (some k)
theorem RtX.ex(R:RtX wd lk ct):∃z,dE wd z=true:=by have:=R.1;cases h:zr wd with|nil=>rw[h] at this;cases this|cons z r=>exact⟨z,rG.mpr (by rw[h];exact Ag)⟩
theorem Kd :(xi wd lk ct).length=lk.length+ct.length+2*(jb false wd).length:=by
 have key:∀pl:Xa,(∀p∈pl,p∈jb false wd)->(ji wd pl).length=2*pl.length:=λpl=>by
  induction pl with
  |nil=>exactλ_=>rfl
  |cons p r I=>
   intro h;obtain⟨i,j,e⟩:=oF.mp<|h p Ag;have:=I λq J=>h q<|Ae _ J;unfold ji at this ⊢;rw[AR,Aa,this,e,Az];show 2+_=_;lia
 unfold xi;rw[Aa,Aa,key _ λ_ h=>h]
section
variable {ce:W6}{f:Xh}{z:Nat}
theorem Vz(H:CI wd (xi wd lk ct)<|jb true wd)(g:dE wd z=true):∀x∈swE wd lk ct f z,x.1<wd.length/\x.2<wd.length:=λx I=>by
 unfold swE at I;rcases Ak.mp I with I|I
 ·obtain⟨J,U⟩:=H.app.inp x I;exact⟨af J,af U⟩
 ·obtain⟨J,_,U⟩:=J' I;exact⟨J,U▸af g⟩
end
inductive Gw(wd:List<|Xw):Ru->Xa->Prop
 |link {p q:Nat} {t:Bool} {n:Str}:p<q->wd[p]?=some (some<|.lf t n)->wd[q]?=some (some<|.lf (!t) n)->Gw wd (.link p q) [p,q]
 |ei {r i j:Nat} {A:Ru} {E:Xa}:wd[r]?=some (some<|.nd true i j)->Gw wd A E->i∈E->j∈E->i≠j->Gw wd (.ei r A) (E.filter (λx=>!decide (x=i\/x=j))++[r])
 |bo {r i j:Nat} {A B:Ru} {E F:Xa}:wd[r]?=some (some<|.nd false i j)->Gw wd A E->Gw wd B F->i∈E->j∈F->Gw wd (.bo r A B) (E.filter (λx=>!decide (x=i))++[r]++F.filter λx=>!decide (x=j))
 |cu {p q:Nat} {A B:Ru} {E F:Xa}:Gw wd A E->Gw wd B F->p∈E->q∈F->Gw wd (.cu p q A B) (E.filter (λx=>!decide (x=p))++F.filter λx=>!decide (x=q))
def n_(wd:List<|Xw)(p:Nat):Bool:=match wd[p]? with
 |some (some<|.lf _ _)=>true
 |_=>false
theorem yq :n_ wd p=true↔∃t n,wd[p]?=some (some<|.lf t n):=by
 unfold n_;constructor
 ·intro h;split at h
  ·rename_i t n e;exact⟨t,n,e⟩
  ·cases h
 ·rintro⟨t,n,e⟩;rw[e]
def At(wd:List<|Xw)(b:Bool)(p:Nat):Bool:=match wd[p]? with
 |some k=>bY b k
 |none=>false
section
variable {A:Ru}{E:Xa}
theorem Gw.sub(h:Gw wd A E):∀x∈E,x∈qg A:=by
 induction h with
 |link=>exactλx I=>I
 |ei _ _ _ _ _ g=>
  intro x I;rcases Ak.mp I with I|I
  ·exact Ae _<|g x (AN.mp I).1
  ·rw[Aj.mp I];exact Ag
 |bo _ _ _ _ _ J U=>
  intro x I;rcases Ak.mp I with I|I
  ·rcases Ak.mp I with I|I
   ·exact Ae _<|Al _<|J x (AN.mp I).1
   ·rw[Aj.mp I];exact Ag
  ·exact Ae _<|Ac _<|U x (AN.mp I).1
 |cu _ _ _ _ J U=>
  intro x I;rcases Ak.mp I with I|I
  ·exact Al _<|J x (AN.mp I).1
  ·exact Ac _<|U x (AN.mp I).1
theorem Gw.th(h:Gw wd A E):∀x∈qg A,∃k,wd[x]?=some (some k):=by induction h with|link _ g j=>exactλx I=>(Am.mp I).elim (λe=>⟨_,e▸g⟩) λI=>⟨_,Aj.mp I▸j⟩|ei g _ _ _ _ l=>exactλx I=>(Am.mp I).elim (λe=>⟨_,e▸g⟩) (l x)|bo g _ _ _ _ J U=>exactλx I=>(Am.mp I).elim (λe=>⟨_,e▸g⟩) λI=>(Ak.mp I).elim (J x) (U x)|cu _ _ _ _ J U=>exactλx I=>(Ak.mp I).elim (J x)<|U x
theorem Gw.con(h:Gw wd A E)(Q:Eqv R):(∀c∈ze A,R c.1 c.2)->(∀c∈zb A,R c.1 c.2)->(∀r∈qg A,∀e i j,wd[r]?=some (some<|.nd e i j)->(R i j->R r i\/R r j)/\(e=false->R r i/\R r j))->∀a∈qg A,∀b∈qg A,R a b:=by
 have g:∀{l:Xa} {c:Nat},(∀a∈l,R c a)->∀a∈l,∀b∈l,R a b:=λh a I b hb=>Q.t (Q.s<|h a I)<|h b hb
 induction h with
 |@link p q=>
  intro o _ _;have e:R p q:=o (p,q) (by simp[ze]);refine g (c:=p) λa I=>?_;rcases Am.mp I with rfl|I
  ·exact Q.r _
  ·rw[Aj.mp I];exact e
 |@ei r i j A E h1 h2 h3 h4 _ ih=>
  intro o hc C;have ih:=ih o hc λr T=>C r<|Ae _ T;refine g (c:=r) λa I=>?_;rcases Am.mp I with rfl|I
  ·exact Q.r _
  ·rcases (C r Ag _ _ _ h1).1 (ih i (h2.sub _ h3) j<|h2.sub _ h4) with k|k
   ·exact Q.t k<|ih i (h2.sub _ h3) a I
   ·exact Q.t k<|ih j (h2.sub _ h4) a I
 |@bo r i j A B E F h1 h2 h3 h4 h5 J U=>
  intro o hc C;have J:=J (λc h=>o c<|Al _ h) (λc h=>hc c<|Al _ h) λr T=>C r<|Ae _<|Al _ T;have U:=U (λc h=>o c<|Ac _ h) (λc h=>hc c<|Ac _ h) λr T=>C r<|Ae _<|Ac _ T;obtain⟨k1,k2⟩:=(C r Ag _ _ _ h1).2 rfl;refine g (c:=r) λa I=>?_;rcases Am.mp I with rfl|I
  ·exact Q.r _
  ·rcases Ak.mp I with I|I
   ·exact Q.t k1<|J i (h2.sub _ h4) a I
   ·exact Q.t k2<|U j (h3.sub _ h5) a I
 |@cu p q A B E F h2 h3 h4 h5 J U=>
  intro o hc C;have J:=J (λc h=>o c<|Al _ h) (λc h=>hc c<|Ae _<|Al _ h) λr T=>C r<|Al _ T;have U:=U (λc h=>o c<|Ac _ h) (λc h=>hc c<|Ae _<|Ac _ h) λr T=>C r<|Ac _ T;have k:R p q:=hc (p,q) Ag;refine g (c:=p) λa I=>?_;rcases Ak.mp I with I|I
  ·exact J p (h2.sub _ h4) a I
  ·exact Q.t k<|U q (h3.sub _ h5) a I
theorem Gw.ne(h:Gw wd A E):∃x,x∈qg A:=by induction h with|@link p q=>exact⟨p,Ag⟩|@ei r=>exact⟨r,Ag⟩|@bo r=>exact⟨r,Ag⟩|cu _ _ _ _ I _=>exact I.imp λx J=>Al _ J
end
theorem FC{E:Xa}(nd:E.Nodup)(h:i∈E):E.Perm (i::E.filter λx=>!decide (x=i)):=
 (A9 nd<|AC.mpr ⟨by simp,nd.filter _⟩).mpr λx=>by
  by_cases c:x=i
  ·simp[c,h]
  ·simp[c]
theorem VA{E:Xa}(nd:E.Nodup)(h:i∈E)(k:j∈E)(ne:i≠j):E.Perm (i::j::E.filter λx=>!decide (x=i\/x=j)):=
 (A9 nd<|AC.mpr ⟨by simp[ne],AC.mpr ⟨by simp,nd.filter _⟩⟩).mpr λx=>by
  by_cases c:x=i
  ·simp[c,h]
  ·by_cases d:x=j
   ·simp[d,k]
   ·simp[c,d]
abbrev prA(wd:List<|Xw)(r:Nat):Xa:=jp<|wd[r]?.getD none
def o_(wd:List<|Xw)(A:Ru):Xa:=(qg A).flatMap (prA wd)++vk (zb A)
section
variable {A:Ru}{E:Xa}{x:Nat}
theorem rc{r:Nat}{e:Bool}(h:wd[r]?=some (some<|.nd e i j)):prA wd r=[i,j]:=by unfold prA;rw[h];rfl
theorem Gw.part(g:Gw wd A E):(qg A).Nodup->(o_ wd A++E).Perm (qg A):=by
 induction g with
 |@link p q t n _ U h2=>
  intro _;unfold o_ qg prA;rw[AR,AR,U,h2];exact CM _
 |@ei r i j A E U g h3 l ne ih=>
  intro nd;have n2:=(AC.mp nd).2;have ih:=ih n2;have o:=VA (AE.mp<|ih.nodup_iff.mpr n2).2.1 h3 l ne;refine Dp.mpr λa=>?_;have c1:=ih.count_eq a;have c2:=o.count_eq a;unfold o_ at c1 ⊢;rw[qg,AR,rc U,zb];simp only[DG,Ek,Ep] at c1 c2 ⊢;lia
 |@bo r i j A B E F U g g' l h5 I J=>
  intro nd;have n2:=(AC.mp nd).2;obtain⟨C,T,_⟩:=AE.mp n2;have I:=I C;have J:=J T;have r1:=FC (AE.mp<|I.nodup_iff.mpr C).2.1 l;have o:=FC (AE.mp<|J.nodup_iff.mpr T).2.1 h5;refine Dp.mpr λa=>?_;have c1:=I.count_eq a;have c2:=J.count_eq a;have c3:=r1.count_eq a;have c4:=o.count_eq a;unfold o_ at c1 c2 ⊢;rw[qg,AR,rc U,AJ,zb,kq];simp only[DG,Ek,Ep] at c1 c2 c3 c4 ⊢;lia
 |@cu p q A B E F g g' l h5 I J=>
  intro nd;obtain⟨C,T,_⟩:=AE.mp nd;have I:=I C;have J:=J T;have r1:=FC (AE.mp<|I.nodup_iff.mpr C).2.1 l;have o:=FC (AE.mp<|J.nodup_iff.mpr T).2.1 h5;refine Dp.mpr λa=>?_;have c1:=I.count_eq a;have c2:=J.count_eq a;have c3:=r1.count_eq a;have c4:=o.count_eq a;unfold o_ at c1 c2 ⊢;rw[qg,AJ,zb,ke,kq];simp only[DG,Ek,Ep] at c1 c2 c3 c4 ⊢;lia
theorem Gw.nds(g:Gw wd A E)(n:(qg A).Nodup):((qg A).flatMap<|prA wd).Nodup/\(vk<|zb A).Nodup/\(∀x∈(qg A).flatMap (prA wd),x∉vk (zb A))/\E.Nodup/\∀x∈E,x∉o_ wd A:=by obtain⟨a,b,c⟩:=AE.mp<|(g.part n).nodup_iff.mpr n;obtain⟨d,e,f⟩:=AE.mp a;exact⟨d,e,λx I J=>f x I x J rfl,b,λx I J=>c x J x I rfl⟩
theorem Gw.mem(g:Gw wd A E)(n:(qg A).Nodup):x∈E↔x∈qg A/\x∉o_ wd A:=
 ⟨λh=>⟨g.sub _ h,(g.nds n).2.2.2.2 x h⟩,λ ψ=>(by obtain⟨h,k⟩:=ψ;exact (Ak.mp<|(g.part n).mem_iff.mpr h).resolve_left k)⟩
theorem Gw.lv(g:Gw wd A E):vk (ze A)=(qg A).filter (n_ wd)/\(∀c∈ze A,c.1<c.2/\∃t n,wd[c.1]?=some (some<|.lf t n)/\wd[c.2]?=some (some<|.lf (!t) n))/\(ze A).length=(zb A).length+(qg A).countP (At wd false)+1:=by
 have lf:∀{p t n},wd[p]?=some (some<|.lf t n)->n_ wd p=true/\At wd false p=false:=λh=>by unfold n_ At;rw[h];exact⟨rfl,rfl⟩
 have no:∀{p e i j},wd[p]?=some (some<|.nd e i j)->n_ wd p=false/\At wd false p=!e:=λ{p e i j} h=>by unfold n_ At;rw[h];cases e<;>exact⟨rfl,rfl⟩
 induction g with
 |@link p q t n lt U o=>
  obtain⟨a,b⟩:=lf U;obtain⟨c,d⟩:=lf o;refine⟨?_,λc l=>by cases Aj.mp l;exact⟨lt,t,n,U,o⟩,?_⟩
  ·rw[qg,BH,BH,Aw a,Aw c];rfl
  ·rw[qg,Bn,Bn,b,d];rfl
 |ei U _ _ _ _ r=>
  obtain⟨a,b⟩:=no U;rw[qg,BH,Ar (by rw[a];exact AH),Bn,b];exact r
 |bo U _ _ _ _ I J=>
  obtain⟨a,b⟩:=no U;rw[qg,BH,Ar (by rw[a];exact AH),Bn,b,ze,zb,kq,I.1,J.1,Bp,Dx,Aa,Aa,I.2.2,J.2.2];exact⟨rfl,λc l=>(Ak.mp l).elim (I.2.1 c)<|J.2.1 c,by simp;lia⟩
 |cu _ _ _ _ I J=>
  rw[qg,ze,zb,kq,I.1,J.1,Bp,Dx,Aa,Az,Aa,I.2.2,J.2.2];exact⟨rfl,λc l=>(Ak.mp l).elim (I.2.1 c)<|J.2.1 c,by lia⟩
theorem Gw.inn(g:Gw wd A E)(n:(qg A).Nodup):(∀x∈qg A,∃k,wd[x]?=some (some k))/\(∀r∈qg A,∀e i j,wd[r]?=some (some<|.nd e i j)->i∈qg A/\j∈qg A)/\(∀c∈ze A,c.1∈qg A/\c.2∈qg A)/\∀c∈zb A,c.1∈qg A/\c.2∈qg A:=by
 have t:∀{x},x∈o_ wd A->x∈qg A:=λh=>(g.part n).mem_iff.mp<|Al _ h;refine⟨g.th,λr J e i j h=>?_,λc I=>?_,λc I=>?_⟩
 ·have m:∀x∈[i,j],x∈qg A:=λx U=>t (Al _ (Ay.mpr ⟨r,J,by rw[rc h];exact U⟩));exact⟨m i Ag,m j<|Ae _ Ag⟩
 ·have:=ku I;rw[g.lv.1] at this;exact⟨(AN.mp this.1).1,(AN.mp this.2).1⟩
 ·exact⟨t<|Ac _ (ku I).1,t<|Ac _ (ku I).2⟩
end
inductive Du|kn(r:Nat)|ct(p q:Nat)
deriving DecidableEq
def Du.bc(wd:List<|Xw):Du->Bool
 |.kn r=>match wd[r]? with
  |some (some<|.nd false _ _)=>true
  |_=>false
 |.ct _ _=>true
def Du.two(wd:List<|Xw):Du->Xi
 |.kn r=>match wd[r]? with
  |some (some<|.nd _ i j)=>(i,j)
  |_=>(0,0)
 |.ct p q=>(p,q)
theorem ai{r:Nat}{e:Bool}(h:wd[r]?=some (some<|.nd e i j)):(Du.kn r).two wd=(i,j):=by simp[Du.two,h]
theorem g7{r:Nat}{e:Bool}(h:wd[r]?=some (some<|.nd e i j)):(Du.kn r).bc wd=!e:=by cases e<;>simp[Du.bc,h]
structure br(wd:List<|Xw)(lk ct:W6)(F:Xy)(D:List Du):Prop where
 gw:∀A∈F,∃E,Gw wd A E
 nd:(F.flatMap qg).Nodup
 tl:∀x,x∈F.flatMap qg↔(∃k,wd[x]?=some (some k))/\Du.kn x∉D
 dk:∀r,Du.kn r∈D->∃e i j,wd[r]?=some (some<|.nd e i j)
 lk:∀c,c∈lk↔c∈F.flatMap ze
 ct:∀c,c∈ct↔c∈F.flatMap zb\/Du.ct c.1 c.2∈D
 cd:∀c,c∈F.flatMap zb->Du.ct c.1 c.2∉D
 dn:D.Nodup
 cnt:F.length=D.countP (Du.bc wd)+1
def DW(wd:List<|Xw)(F:Xy)(d:Du):Prop:=(∃A∈F,(d.two wd).1∈qg A)/\(∃B∈F,(d.two wd).2∈qg B)/\(d.bc wd=false->∃A∈F,(d.two wd).1∈qg A/\(d.two wd).2∈qg A)
theorem aD:∀{F:Xy},(F.flatMap qg).Nodup->∀{A B:Ru} {x:Nat},A∈F->B∈F->x∈qg A->x∈qg B->A=B
 |[],_,_,_,_,U,_,_,_=>(Bo U).elim
 |C::F,nd,A,B,x,U,o,g,j=>by
  rw[AR] at nd;obtain⟨_,r,p⟩:=AE.mp nd;rcases Am.mp U with e|J
  ·rcases Am.mp o with l|I
   ·rw[e,l]
   ·exact(p x (e▸g) x (Ay.mpr ⟨B,I,j⟩) rfl).elim
  ·rcases Am.mp o with l|I
   ·exact(p x (l▸j) x (Ay.mpr ⟨A,J,g⟩) rfl).elim
   ·exact aD r J I g j
theorem Ke{T:Ru->Du->Prop}:∀{F:Xy} {D:List Du},F.Nodup->(∀A∈F,∃d∈D,T A d)->(∀A∈F,∀B∈F,∀d∈D,T A d->T B d->A=B)->F.length<=D.length
 |[],_,_,_,_=>A2 _
 |A::F,D,nd,h,u=>by
  obtain⟨j,l⟩:=AC.mp nd;obtain⟨d,hd,t⟩:=h A Ag;obtain⟨X,Z,rfl⟩:=BL hd;have:=Ke (T:=T) (D:=X++Z) l (λB J=>by
   obtain⟨U,I,g⟩:=h B<|Ae _ J;refine⟨U,?_,g⟩;rcases Ak.mp I with m|m
   ·exact Al _ m
   ·rcases Am.mp m with rfl|m
    ·exact(j<|u A Ag B (Ae _ J) U hd t g▸J).elim
    ·exact Ac _ m) λB J C o U I=>u B (Ae _ J) C (Ae _ o) U (by
   rcases Ak.mp I with m|m
   ·exact Al _ m
   ·exact Ac _<|Ae _ m)
  rw[Aa] at this ⊢;rw[Az,Az];lia
section
variable {D:List Du}{z:Nat}
theorem br.ndA(G:br wd lk ct F D){A:Ru}(I:A∈F):(qg A).Nodup:=(List.pairwise_flatMap.mp G.nd).1 A I
theorem br.nF(G:br wd lk ct F D):F.Nodup:=by
 have:∀{F:Xy},(∀A∈F,∃x,x∈qg A)->(F.flatMap qg).Nodup->F.Nodup:=λ{F}=>by
  induction F with
  |nil=>exactλ_ _=>Dv
  |cons A F U=>
   intro h nd;rw[AR] at nd;obtain⟨_,j,l⟩:=AE.mp nd;refine AC.mpr ⟨λI=>?_,U (λB o=>h B<|Ae _ o) j⟩;obtain⟨x,J⟩:=h A Ag;exact l x J x (Ay.mpr ⟨A,I,J⟩) rfl
 exact this (λA I=>by obtain⟨E,g⟩:=G.gw A I;exact g.ne) G.nd
theorem br.due(G:br wd lk ct F D){x:Nat}(h:∃k,wd[x]?=some (some k))(n:¬ ∃A∈F,x∈qg A):Du.kn x∈D:=by
 by_cases c:Du.kn x∈D
 ·exact c
 ·obtain⟨A,I,m⟩:=Ay.mp<|(G.tl x).mpr ⟨h,c⟩;exact(n ⟨A,I,m⟩).elim
theorem br.prog(G:br wd lk ct F D)(th:GF wd)(hc:∀d∈ct,(∃k,wd[d.1]?=some (some k))/\∃k,wd[d.2]?=some (some k))(C:∀z,dE wd z=true->∀f:Xh,(∀r,f r=0\/f r=1)->GJ wd.length (swE wd lk ct f z))(hD:D≠[]):∃d∈D,DW wd F d:=by
 refine xA λstuck=>?_;have stuck:∀d∈D,¬DW wd F d:=λd hd g=>stuck ⟨d,hd,g⟩;have one:∀A∈F,∀B∈F,∀d∈D.filter (Du.bc wd),((d.two wd).1∈qg A\/(d.two wd).2∈qg A)->((d.two wd).1∈qg B\/(d.two wd).2∈qg B)->A=B:=λA I B t d hd a b=>by
  obtain⟨hd,bc⟩:=AN.mp hd;have no:∀{A B:Ru},A∈F->B∈F->(d.two wd).1∈qg A->(d.two wd).2∈qg B->False:=λI t a b=>stuck d hd ⟨⟨_,I,a⟩,⟨_,t,b⟩,λe=>by rw[bc] at e;cases e⟩;rcases a with a|a<;>rcases b with b|b
  ·exact aD G.nd I t a b
  ·exact(no I t a b).elim
  ·exact(no t I b a).elim
  ·exact aD G.nd I t a b
 obtain⟨P,U,free⟩:∃P∈F,∀d∈D.filter (Du.bc wd),(d.two wd).1∉qg P/\(d.two wd).2∉qg P:=by
  refine xA λno=>?_;have:=Ke (T:=λA d=>(d.two wd).1∈qg A\/(d.two wd).2∈qg A) (D:=D.filter<|Du.bc wd) G.nF (λA I=>?_) one
  ·rw[G.cnt,Be] at this;lia
  ·refine xA λn=>no ⟨A,I,λd hd=>⟨λa=>n ⟨d,hd,.inl a⟩,λa=>n ⟨d,hd,.inr a⟩⟩⟩
 obtain⟨E,gP⟩:=G.gw P U;obtain⟨t1,t2,_,_⟩:=gP.inn<|G.ndA U;have J:∀r,Du.kn r∈D->∀A∈F,r∉qg A:=λr hr A I m=>((G.tl r).mp<|Ay.mpr ⟨A,I,m⟩).2 hr;obtain⟨y,hy⟩:∃y,Du.kn y∈D:=by
  obtain⟨d,hd⟩:=List.exists_mem_of_ne_nil D hD;cases d with
  |kn r=>exact⟨r,hd⟩
  |ct p q=>
   have m:=(G.ct (p,q)).mpr<|.inr hd;obtain⟨k1,k2⟩:=hc _ m;by_cases c:∃A∈F,p∈qg A
   ·by_cases c':∃A∈F,q∈qg A
    ·exact(stuck _ hd ⟨c,c',λe=>by cases e⟩).elim
    ·exact⟨q,G.due k2 c'⟩
   ·exact⟨p,G.due k1 c⟩
 obtain⟨e0,i0,j0,ey⟩:=G.dk y hy
 classical
 have con:=C y (aG ey) (λr=>if (i_ wd r 0)∈qg P then 1 else 0) (λr=>by by_cases c:i_ wd r 0∈qg P;exact .inr<|Aw c;exact .inl<|Ar c) (λa b=>a∈qg P↔b∈qg P) ⟨λ_=>Er,Iff.symm,Iff.trans⟩;obtain⟨x,hx⟩:=gP.ne;have lt:∀{w:Nat} {k:Kn},wd[w]?=some (some k)->w<wd.length:=λh=>qx h;obtain⟨kx,ex⟩:=t1 x hx;refine J y hy P U<|(con (λc a0=>?_) x y (lt ex)<|lt ey).mp hx;have same:∀{A:Ru},A∈F->∀{a b:Nat},a∈qg A->b∈qg A->(a∈qg P↔b∈qg P):=λI a b ha hb=>⟨λm=>aD G.nd I U ha m▸hb,λm=>aD G.nd I U hb m▸ha⟩;have o:∀{r i j:Nat} {e:Bool},wd[r]?=some (some<|.nd e i j)->(∃A∈F,r∈qg A/\i∈qg A/\j∈qg A)\/(Du.kn r∈D/\r∉qg P):=λ{r i j e} h=>by
  by_cases c:∃A∈F,r∈qg A
  ·obtain⟨A,I,m⟩:=c;obtain⟨EA,gA⟩:=G.gw A I;exact .inl ⟨A,I,m,(gA.inn<|G.ndA I).2.1 r m _ _ _ h⟩
  ·have:=G.due ⟨_,h⟩ c;exact .inr ⟨this,J r this P U⟩
 rcases dJ.mp a0 with m|m|⟨i,j,m,w⟩|⟨i,j,m,w⟩|⟨_,m2,m3⟩
 ·obtain⟨A,I,l⟩:=Ay.mp<|(G.lk c).mp m;obtain⟨EA,gA⟩:=G.gw A I;obtain⟨a,b⟩:=(gA.inn<|G.ndA I).2.2.1 c l;exact same I a b
 ·rcases (G.ct c).mp m with l|l
  ·obtain⟨A,I,l⟩:=Ay.mp l;obtain⟨EA,gA⟩:=G.gw A I;obtain⟨a,b⟩:=(gA.inn<|G.ndA I).2.2.2 c l;exact same I a b
  ·obtain⟨a,b⟩:=free _<|AN.mpr ⟨l,rfl⟩;exact⟨λz=>(a z).elim,λz=>(b z).elim⟩
 ·rcases o m with⟨A,I,a,b,d⟩|⟨l,n⟩
  ·rcases w with w|w<;>rw[w]
   ·exact same I a b
   ·exact same I a d
  ·obtain⟨a,b⟩:=free _ (AN.mpr ⟨l,by rw[g7 m];rfl⟩);rw[ai m] at a b;rcases w with w|w<;>rw[w]
   ·exact⟨λz=>(n z).elim,λz=>(a z).elim⟩
   ·exact⟨λz=>(n z).elim,λz=>(b z).elim⟩
 ·rcases o m with⟨A,I,a,b,d⟩|⟨l,n⟩
  ·have w':c.2=i\/c.2=j:=by
    rw[w];by_cases q:(if i_ wd c.1 0∈qg P then 1 else 0)=0
    ·exact .inl<|Aw q
    ·exact .inr<|Ar q
   rcases w' with w'|w'<;>rw[w']
   ·exact same I a b
   ·exact same I a d
  ·refine⟨λz=>(n z).elim,λz=>?_⟩;have e0:i_ wd c.1 0=i:=oX m 0;rw[w,e0] at z;by_cases ci:i∈qg P
   ·rw[Aw ci,Ar (by decide)] at z;exact(stuck _ l ⟨⟨P,U,by rw[ai m];exact ci⟩,⟨P,U,by rw[ai m];exact z⟩,λ_=>⟨P,U,by rw[ai m];exact ci,by rw[ai m];exact z⟩⟩).elim
   ·rw[Ar ci,Aw rfl] at z;exact(ci z).elim
 ·rw[m3];refine⟨λw=>?_,λw=>(J y hy P U w).elim⟩;obtain⟨k,h⟩:=t1 _ w;rw[aG h] at m2;cases m2
end
end L3
variable {D Z:List L3.Du}
namespace L3
open PySem L2 Words
section
variable {x x0 y0:Xi}{u v k:Nat}{t t':Bool}{n n':Str}
theorem VB(I:u_ wd ct)(J:z_ wd lk)(Rt:RtX wd lk ct)(C:x∈ct):¬Vu lk x:=by
 rintro⟨c0,U,o⟩;have two:∀z,(z=x.1\/z=x.2)↔(z=c0.1\/z=c0.2):=λz=>by rcases o with e|e<;>rw[e];exact Or.comm
 have mp:=ku C;have np:∀z∈a6 wd,¬(z=x.1\/z=x.2):=λz hz h=>by
  rcases h with rfl|rfl
  ·exact I.ctP _ mp.1 hz
  ·exact I.ctP _ mp.2 hz
 have nk:∀{z:Nat} {e:Bool} {i j:Nat},wd[z]?=some (some<|.nd e i j)->¬(z=x.1\/z=x.2):=λ{z e i j} h w=>by
  obtain⟨m1,m2⟩:=ku U;have:z∈vk lk:=by rcases (two z).mp w with rfl|rfl;exact m1;exact m2
  obtain⟨t,n,g⟩:=(J.lkL z).mp this;rw[h] at g;cases g
 have one:∀{l:W6} {d:Xi},(vk l).Nodup->d∈l->(∀z,(z=x.1\/z=x.2)↔(z=d.1\/z=d.2))->∀c∈l,(c.1=x.1\/c.1=x.2)↔(c.2=x.1\/c.2=x.2):=λ{l d} nd hd w c U=>by
  constructor
  ·intro h;cases nL nd U hd (.inl rfl) ((w _).mp h);exact(w _).mpr (.inr rfl)
  ·intro h;cases nL nd U hd (.inr rfl) ((w _).mp h);exact(w _).mpr (.inl rfl)
 have all:=Rt.2 (λa b=>(a=x.1\/a=x.2)↔(b=x.1\/b=x.2)) (λ_=>Er) (λ_ _=>Iff.symm) (λ_ _ _=>Iff.trans) (λc r=>by
  unfold xi at r;rcases Ak.mp r with h|h
  ·rcases Ak.mp h with h|h
   ·exact one J.lkN U two c h
   ·exact one I.ctN C (λz=>Er) c h
  ·obtain⟨e,i,j,h1,T⟩:=pV h;refine⟨λw=>(nk h1 w).elim,λw=>(np _ ?_ w).elim⟩;rcases T with T|T<;>rw[T]
   ·exact(uy h1).1
   ·exact(uy h1).2) λp _ e i j h _=>⟨λw=>(nk h w).elim,λw=>(np _ (uy h).1 w).elim⟩
 have t1:dE wd x.1=true:=by obtain⟨⟨k,h⟩,_⟩:=I.there x C;exact aG h
 have le:=Kc (zr wd) [x.1,x.2] ((ig _ wd wd.length).imp λh=>A6 h) λa ha=>by have:=(all x.1 a t1<|rG.mpr ha).mp<|.inl rfl;rcases this with rfl|rfl<;>simp
 have r1:=Rt.1;rw[Kd] at r1;have:=Cu U;have:=Cu C;have le:(zr wd).length<=2:=le;omega
end
theorem Kf{X Z:W6}{e:Xi}(J:∀c∈X++e::Z,c.1<n/\c.2<n)(U:(X++e::Z).length+1=n)(C:GJ n<|X++e::Z)(h:∀R:Nat->Nat->Prop,Eqv R->(∀c∈X++Z,R c.1 c.2)->R e.1 e.2):False:=by
 have sub:∀c∈X++Z,c∈X++e::Z:=λc I=>(Ak.mp I).elim (Al _) λh=>Ac _<|Ae _ h;have all:=C (λa b=>se (X++Z) id a=se (X++Z) id b) (yn _) λc I=>by
  have k:=h _ (yn<|X++Z) λc I=>mF _ id c I;rcases Ak.mp I with m|m
  ·exact mF _ id c<|Al _ m
  ·rcases Am.mp m with rfl|m
   ·exact k
   ·exact mF _ id c<|Ac _ m
 have g:=J e<|Ac _ Ag;have:=Ur (T:=[e.1]) (λc I=>J c<|sub c I) λx j=>⟨e.1,Aj.mpr rfl,all x e.1 j g.1⟩;rw[Aa] at this U;rw[Az] at U;rw[Bc] at this;lia
section
variable {F':Xy}{A:Ru}
theorem br.perm(G:br wd lk ct F D)(p:F.Perm F'):br wd lk ct F' D where
 gw B I:=G.gw B<|p.mem_iff.mpr I
 nd:=(p.flatMap_right qg).nodup_iff.mp G.nd
 tl x:=(p.flatMap_right qg).mem_iff.symm.trans<|G.tl x
 dk:=G.dk
 lk c:=(G.lk c).trans (p.flatMap_right ze).mem_iff
 ct c:=(G.ct c).trans<|or_congr_left (p.flatMap_right zb).mem_iff
 cd c J:=G.cd c<|(p.flatMap_right zb).mem_iff.mpr J
 dn:=G.dn
 cnt:=by rw[<-p.length_eq];exact G.cnt
theorem br.apart(G:br wd lk ct F D)(I:u_ wd ct)(J:z_ wd lk)(H:CI wd (xi wd lk ct)<|jb true wd)(Rt:RtX wd lk ct){d:Du}(hd:d∈D)(bc:d.bc wd=true)(o:A∈F)(a:(d.two wd).1∈qg A)(b:(d.two wd).2∈qg A):False:=by
 obtain⟨z,tz⟩:=H.ex;have cnt:=Rt.1;have C:=Rt.sw (f:=λ_=>0) tz λ_=>.inl rfl;have l:=Vz (f:=λ_=>0) H tz;have len:=Vx (f:=λ_=>0) (z:=z) cnt;obtain⟨EA,gA⟩:=G.gw A o;obtain⟨t1,t2,t3,t4⟩:=gA.inn<|G.ndA o;have key:∀{e:Xi} {X Z:W6},swE wd lk ct (λ_=>0) z=X++e::Z->(∀c∈ze A,c≠e)->(∀c∈zb A,c≠e)->(∀r∈qg A,∀k i j,wd[r]?=some (some<|.nd k i j)->(r,i)≠e/\(r,j)≠e)->∀R:Nat->Nat->Prop,Eqv R->(∀c∈X++Z,R c.1 c.2)->∀x∈qg A,∀y∈qg A,R x y:=λ{e X Z} T n1 n2 n3 R Q h=>by
  have on:∀c,c∈swE wd lk ct (λ_=>0) z->c≠e->R c.1 c.2:=λc U ne=>by
   rw[T] at U;rcases Ak.mp U with m|m
   ·exact h c<|Al _ m
   ·rcases Am.mp m with m|m
    ·exact(ne m).elim
    ·exact h c<|Ac _ m
  refine gA.con Q (λc U=>on c (dJ.mpr<|.inl<|(G.lk c).mpr<|Ay.mpr ⟨A,o,U⟩)<|n1 c U) (λc U=>on c (dJ.mpr<|.inr<|.inl<|(G.ct c).mpr<|.inl<|Ay.mpr ⟨A,o,U⟩)<|n2 c U) λr hr k i j hk=>?_;obtain⟨m1,m2⟩:=n3 r hr k i j hk;cases k with
  |true=>exact⟨λ_=>.inl<|on (r,i) (dJ.mpr<|.inr<|.inr<|.inr<|.inl ⟨i,j,hk,rfl⟩) m1,nofun⟩
  |false=>
   have k1:=on (r,i) (dJ.mpr<|.inr<|.inr<|.inl ⟨i,j,hk,.inl rfl⟩) m1;have k2:=on (r,j) (dJ.mpr<|.inr<|.inr<|.inl ⟨i,j,hk,.inr rfl⟩) m2;exact⟨λ_=>.inl k1,λ_=>⟨k1,k2⟩⟩
 have due:∀r,Du.kn r∈D->r∉qg A:=λr hr m=>((G.tl r).mp<|Ay.mpr ⟨A,o,m⟩).2 hr;cases d with
 |kn r=>
  obtain⟨e,i,j,h⟩:=G.dk r hd;rw[g7 h] at bc;cases e with
  |true=>cases bc
  |false=>
   rw[ai h] at a b;have nr:=due r hd;have a2:=I.pu.ne _ _ _ _ h;obtain⟨X,Z,T⟩:=BL (dJ.mpr (.inr<|.inr<|.inl ⟨i,j,h,.inr rfl⟩):((r,j):Xi)∈swE wd lk ct (λ_=>0) z);rw[T] at C l len;refine Kf l len C λR Q hR=>?_;have ij:=key T (λc U e=>by obtain⟨_,t,n,g,_⟩:=J.lkA c<|(G.lk c).mpr<|Ay.mpr ⟨A,o,U⟩;rw[e,h] at g;cases g) (λc U e=>nr (by have:=(t4 c U).1;rw[e] at this;exact this)) (λr' a1 k i' j' hk=>⟨λe=>nr (by injection e with e _;exact e▸a1),λe=>nr (by injection e with e _;exact e▸a1)⟩) R Q hR i a j b;have ri:R r i:=by
    have m:=(dJ.mpr (.inr<|.inr<|.inl ⟨i,j,h,.inl rfl⟩):((r,i):Xi)∈swE wd lk ct (λ_=>0) z);rw[T] at m;rcases Ak.mp m with m|m
    ·exact hR _<|Al _ m
    ·rcases Am.mp m with m|m
     ·injection m with _ m;exact(a2 m).elim
     ·exact hR _<|Ac _ m
   exact Q.t ri ij
 |ct p q=>
  have U:=(G.ct (p,q)).mpr<|.inr hd;have mp:=ku U;obtain⟨X,Z,T⟩:=BL (dJ.mpr (.inr<|.inl U):((p,q):Xi)∈swE wd lk ct (λ_=>0) z);rw[T] at C l len;refine Kf l len C λR Q hR=>key T (λc a0 e=>VB I J Rt U ⟨c,(G.lk c).mpr<|Ay.mpr ⟨A,o,a0⟩,.inl e⟩) (λc a0 e=>G.cd c (Ay.mpr ⟨A,o,a0⟩) (by rw[e];exact hd)) (λr hr k i j hk=>⟨λe=>?_,λe=>?_⟩) R Q hR p a q b
  ·injection e with _ e;exact I.ctP _ mp.2<|e▸(uy hk).1
  ·injection e with _ e;exact I.ctP _ mp.2<|e▸(uy hk).2
theorem br.endk(G:br wd lk ct F D)(I:u_ wd ct){r x:Nat}{e:Bool}{E:Xa}(hd:Du.kn r∈D)(h:wd[r]?=some (some<|.nd e i j))(o:x∈jp (some<|.nd e i j))(l:A∈F)(g:Gw wd A E)(m:x∈qg A):x∈E:=by
 refine(g.mem<|G.ndA l).mpr ⟨m,λz=>(Ak.mp z).elim (λz=>?_) λz=>?_⟩
 ·obtain⟨p,U,J⟩:=Ay.mp z;obtain⟨k,t⟩:=g.th p U;unfold prA at J;rw[t] at J;exact((G.tl p).mp<|Ay.mpr ⟨A,l,U⟩).2 (I.pu.un _ _ _ _ _ t h J o▸hd)
 ·obtain⟨c,C,e⟩:=eE z;have:=ku<|(G.ct c).mpr<|.inl<|Ay.mpr ⟨A,l,C⟩;refine I.ctP x ?_<|jD h o;rcases e with rfl|rfl
  ·exact this.1
  ·exact this.2
theorem br.endc(G:br wd lk ct F D)(I:u_ wd ct){x:Nat}{E:Xa}(hd:Du.ct p q∈D)(o:x=p\/x=q)(r:A∈F)(g:Gw wd A E)(m:x∈qg A):x∈E:=by
 have t:=(G.ct (p,q)).mpr<|.inr hd;have mp:=ku t;have T:x∈vk ct:=by rcases o with rfl|rfl;exact mp.1;exact mp.2
 refine(g.mem<|G.ndA r).mpr ⟨m,λz=>(Ak.mp z).elim (λz=>?_) λz=>?_⟩
 ·obtain⟨r',j,J⟩:=Ay.mp z;obtain⟨k,C⟩:=g.th r' j;unfold prA at J;rw[C] at J;exact I.ctP _ T<|jD C J
 ·obtain⟨c,l,e⟩:=eE z;have U:=Ay.mpr ⟨A,r,l⟩;have:=nL I.ctN ((G.ct c).mpr<|.inl U) t e o;exact G.cd c U (by rw[this];exact hd)
def Du.own:Du->Xa
 |.kn r=>[r]
 |.ct _ _=>[]
theorem br.put{X:List Du}{d:Du}{B:Ru}(G:br wd lk ct (As++F0)<|X++d::Z)(gB:∃E,Gw wd B E)(tB:(qg B).Perm<|d.own++As.flatMap qg)(lB:∀c,c∈ze B↔c∈As.flatMap ze)(o:∀c,c∈zb B↔Du.ct c.1 c.2=d\/c∈As.flatMap zb)(n:As.length=(if d.bc wd then 2 else 1)):br wd lk ct (B::F0) (X++Z):=by
 have nd:=G.nd;rw[AJ] at nd;have dn:(X++Z).Nodup/\d∉X++Z:=by have:=(BF.nodup_iff.mp G.dn);exact⟨(AC.mp this).2,(AC.mp this).1⟩
 have I:∀y,y∈X++d::Z↔y=d\/y∈X++Z:=λy=>by rw[BF.mem_iff,Am]
 have nr:∀r,d=.kn r->r∉As.flatMap qg++F0.flatMap qg:=λr e m=>by have:=(G.tl r).mp (by rw[AJ];exact m);exact this.2<|(I _).mpr<|.inl e.symm
 refine⟨λC l=>?_,?_,λx=>?_,λr hr=>G.dk r<|(I _).mpr<|.inr hr,λc=>?_,λc=>?_,λc T hd=>?_,dn.1,?_⟩
 ·rcases Am.mp l with rfl|l
  ·exact gB
  ·exact G.gw C<|Ac _ l
 ·rw[AR,(tB.append_right _).nodup_iff,AA];cases d with|kn r=>exact AC.mpr ⟨nr r rfl,nd⟩|ct p q=>exact nd
 ·have t:=G.tl x;rw[I] at t;rw[AR,(tB.append_right _).mem_iff,AA,Ak,<-AJ,t];cases d with
  |kn r=>
   constructor
   ·rintro(h|⟨J,U⟩)
    ·have h:x=r:=Aj.mp h;obtain⟨e,i,j,g⟩:=G.dk r<|(I _).mpr<|.inl rfl;rw[h];exact⟨⟨_,g⟩,dn.2⟩
    ·exact⟨J,λz=>U<|.inr z⟩
   ·rintro⟨J,U⟩;by_cases c:x=r
    ·exact .inl<|Aj.mpr c
    ·exact .inr ⟨J,λz=>z.elim (λe=>by injection e with e;exact c e) U⟩
  |ct p q=>
   constructor
   ·rintro(h|⟨J,U⟩)
    ·cases h
    ·exact⟨J,λz=>U<|.inr z⟩
   ·rintro⟨J,U⟩;exact .inr ⟨J,λz=>z.elim (λe=>by cases e) U⟩
 ·rw[G.lk c,AR,AJ,Ak,Ak,lB]
 ·have a1:c∈(As++F0).flatMap zb↔c∈As.flatMap zb\/c∈F0.flatMap zb:=by rw[AJ,Ak]
  have a2:c∈(B::F0).flatMap zb↔(Du.ct c.1 c.2=d\/c∈As.flatMap zb)\/c∈F0.flatMap zb:=by rw[AR,Ak,o]
  rw[G.ct c,I,a1,a2];constructor
  ·rintro((h|h)|(h|h))
   ·exact .inl<|.inl<|.inr h
   ·exact .inl<|.inr h
   ·exact .inl<|.inl<|.inl h
   ·exact .inr h
  ·rintro(((h|h)|h)|h)
   ·exact .inr<|.inl h
   ·exact .inl<|.inl h
   ·exact .inl<|.inr h
   ·exact .inr<|.inr h
 ·rw[AR,Ak,o] at T;rcases T with(h|h)|h
  ·exact dn.2<|h▸hd
  ·exact G.cd c (by rw[AJ];exact Al _ h)<|(I _).mpr<|.inr hd
  ·exact G.cd c (by rw[AJ];exact Ac _ h)<|(I _).mpr<|.inr hd
 ·have:=G.cnt;rw[Aa,BF.countP_eq,Bn,n] at this;rw[Az];generalize (X++Z).countP (Du.bc wd)=m at this ⊢;cases h:d.bc wd with|true=>rw[h,Aw rfl,Aw rfl] at this;lia|false=>rw[h,Ar AH,Ar AH] at this;lia
end
section
variable {X:List Du}{A B:Ru}{r:Nat}
theorem br.ei(G:br wd lk ct F<|X++.kn r::Z)(I:u_ wd ct)(h:wd[r]?=some (some<|.nd true i j))(U:F.Perm<|A::F0)(hi:i∈qg A)(l:j∈qg A):br wd lk ct (.ei r A::F0) (X++Z):=by
 have J:A∈F:=U.mem_iff.mpr Ag;obtain⟨E,g⟩:=G.gw A J;have hd:Du.kn r∈X++.kn r::Z:=Ac _ Ag;refine(G.perm U).put (As:=[A]) ⟨_,.ei h g (G.endk I hd h Ag J g hi) (G.endk I hd h (Ae _ Ag) J g l)<|I.pu.ne _ _ _ _ h⟩ ?_ (λc=>?_) (λc=>?_) (by rw[g7 h];rfl)
 ·show(r::qg A).Perm (r::(qg A++[]));rw[Av]
 ·show _↔c∈ze A++[];rw[Av];rfl
 ·show c∈zb A↔_\/c∈zb A++[];rw[Av];exact⟨.inr,λz=>z.elim (λe=>by cases e) id⟩
theorem br.bo(G:br wd lk ct F<|X++.kn r::Z)(I:u_ wd ct)(h:wd[r]?=some (some<|.nd false i j))(J:F.Perm<|A::B::F0)(hi:i∈qg A)(p:j∈qg B):br wd lk ct (.bo r A B::F0) (X++Z):=by
 have U:A∈F:=J.mem_iff.mpr Ag;have l:B∈F:=J.mem_iff.mpr<|Ae _ Ag;obtain⟨E,g⟩:=G.gw A U;obtain⟨t,o⟩:=G.gw B l;have hd:Du.kn r∈X++.kn r::Z:=Ac _ Ag;refine(G.perm J).put (As:=[A,B]) ⟨_,.bo h g o (G.endk I hd h Ag U g hi)<|G.endk I hd h (Ae _ Ag) l o p⟩ ?_ (λc=>?_) (λc=>?_) (by rw[g7 h];rfl)
 ·show(r::(qg A++qg B)).Perm (r::(qg A++(qg B++[])));rw[Av]
 ·show _↔c∈ze A++(ze B++[]);rw[Av];rfl
 ·show c∈zb A++zb B↔_\/c∈zb A++(zb B++[]);rw[Av];exact⟨.inr,λz=>z.elim (λe=>by cases e) id⟩
theorem br.cu(G:br wd lk ct F<|X++.ct p q::Z)(I:u_ wd ct)(J:F.Perm<|A::B::F0)(hi:p∈qg A)(o:q∈qg B):br wd lk ct (.cu p q A B::F0) (X++Z):=by
 have U:A∈F:=J.mem_iff.mpr Ag;have j:B∈F:=J.mem_iff.mpr<|Ae _ Ag;obtain⟨E,g⟩:=G.gw A U;obtain⟨C,l⟩:=G.gw B j;have hd:Du.ct p q∈X++.ct p q::Z:=Ac _ Ag;refine(G.perm J).put (As:=[A,B]) ⟨_,.cu g l (G.endc I hd (.inl rfl) U g hi)<|G.endc I hd (.inr rfl) j l o⟩ ?_ (λc=>?_) (λc=>?_) rfl
 ·show(qg A++qg B).Perm (qg A++(qg B++[]));rw[Av]
 ·show _↔c∈ze A++(ze B++[]);rw[Av];rfl
 ·show c∈(p,q)::(zb A++zb B)↔Du.ct c.1 c.2=.ct p q\/c∈zb A++(zb B++[]);rw[Av,Am];exact or_congr_left ⟨λe=>by rw[e],λe=>by injection e with r t;exact El r t⟩
theorem Kg{C:Ru}(U:A∈F)(g:C∈F)(ne:A≠C):∃F0,F.Perm (A::C::F0):=by obtain⟨X,Z,rfl⟩:=BL U;have J:(X++A::Z).Perm (A::(X++Z)):=BF;have I:=(Am.mp<|J.mem_iff.mp g).resolve_left<|AQ ne;obtain⟨V,W,e⟩:=BL I;exact⟨V++W,J.trans (by rw[e];exact BF.cons A)⟩
theorem VC(I:A∈F):∃F0,F.Perm (A::F0):=by obtain⟨X,Z,rfl⟩:=BL I;exact⟨X++Z,BF⟩
theorem br.end_(G:br wd lk ct F []):∃B E,F=[B]/\Gw wd B E/\(qg B).Nodup/\(∀x,x∈qg B↔∃k,wd[x]?=some (some k))/\(∀c,c∈lk↔c∈ze B)/\∀c,c∈ct↔c∈zb B:=by
 have l:=G.cnt
 match F,l,G with
 |[B],_,G=>
  obtain⟨E,g⟩:=G.gw B Ag;have e:∀{I:Type} (f:Ru->List I),[B].flatMap f=f B:=λf=>Av _;refine⟨B,E,rfl,g,by have:=G.nd;rwa[e] at this,λx=>?_,λc=>?_,λc=>?_⟩
  ·have:=G.tl x;rw[e] at this;rw[this];exact⟨λh=>h.1,λh=>⟨h,Bo⟩⟩
  ·have:=G.lk c;rwa[e] at this
  ·have:=G.ct c;rw[e] at this;rw[this];exact⟨λh=>h.elim id λz=>(Bo z).elim,.inl⟩
 |[],l,_=>cases l
 |_::_::_,l,_=>cases l
end
def k_(wd:List<|Xw)(r:Nat):Bool:=match wd[r]? with
 |some (some<|.nd _ _ _)=>true
 |_=>false
def nK(wd:List<|Xw)(ct:W6):List Du:=((zr wd).filter<|k_ wd).map Du.kn++ct.map λc=>Du.ct c.1 c.2
theorem yZ{r:Nat}:Du.kn r∈nK wd ct↔∃e i j,wd[r]?=some (some<|.nd e i j):=by
 unfold nK;rw[Ak];constructor
 ·rintro(h|h)
  ·obtain⟨I,h,e⟩:=Bm.mp h;cases e;obtain⟨_,h⟩:=AN.mp h;unfold k_ at h;cases e:wd[r]? with
   |none=>rw[e] at h;cases h
   |some k=>
    rw[e] at h;cases k with
    |none=>cases h
    |some k=>
     cases k with|lf=>cases h|nd b i j=>exact⟨b,i,j,rfl⟩
  ·obtain⟨c,_,e⟩:=Bm.mp h;cases e
 ·rintro⟨e,i,j,h⟩;exact .inl (Bm.mpr ⟨r,AN.mpr ⟨sE h rfl<|qx h,by unfold k_;rw[h]⟩,rfl⟩)
theorem VD :Du.ct p q∈nK wd ct↔(p,q)∈ct:=by
 unfold nK;rw[Ak];constructor
 ·rintro(h|h)
  ·obtain⟨_,_,e⟩:=Bm.mp h;cases e
  ·obtain⟨c,I,e⟩:=Bm.mp h;injection e with J U
   rw[<-J,<-U];exact I
 ·intro h;exact .inr<|Bm.mpr ⟨(p,q),h,rfl⟩
theorem qB{α:Type}{t a b c:α->Bool}(h:∀x,(t x).toNat=(a x).toNat+(b x).toNat+(c x).toNat):∀l:List α,l.countP t=l.countP a+l.countP b+l.countP c
 |[]=>rfl
 |x::l=>by
  have e:∀b:Bool,(if b=true then 1 else 0)=b.toNat:=λb=>by cases b<;>rfl
  rw[Bn,Bn,Bn,Bn,qB h l,e,e,e,e,h x];lia
theorem qA(J:z_ wd lk):(zr wd).length=2*lk.length+(jb false wd).length+(jb true wd).length:=by
 have pl:((List.range wd.length).filter<|n_ wd).length=2*lk.length:=by rw[<-eV lk];exact((A9 (CN _ BG) J.lkN).mpr λx=>by rw[AN,J.lkL,yq,AZ];exact⟨λh=>h.2,λ ψ=>(by obtain⟨t,n,h⟩:=ψ;exact ⟨qx h,t,n,h⟩)⟩).length_eq
 rw[<-pl,<-Be];unfold zr jb kY;rw[<-Be,<-Be,<-Be];refine qB (λx=>?_) _;unfold n_;cases wd[x]? with
 |none=>rfl
 |some k=>
  cases k with
  |none=>rfl
  |some k=>
   cases k with|lf=>rfl|nd e=>cases e<;>rfl
theorem br.start(I:u_ wd ct)(J:z_ wd lk)(l:RtX wd lk ct):br wd lk ct (lk.map λc=>.link c.1 c.2) (nK wd ct) where
 gw A o:=by obtain⟨c,U,rfl⟩:=Bm.mp o;obtain⟨lt,t,n,p,C⟩:=J.lkA c U;exact⟨_,.link lt p C⟩
 nd:=by rw[Cs];exact J.lkN
 tl x:=by rw[Cs,yZ];refine(J.lkL x).trans ⟨λ ψ=>(by obtain⟨t,n,h⟩:=ψ;exact ⟨⟨_,h⟩,λ ψ=>by obtain⟨e,i,j,g⟩:=ψ;rw[h] at g;cases g⟩),λ ψ=>?_⟩;obtain⟨⟨k,h⟩,n⟩:=ψ;cases k with|lf t n=>exact⟨t,n,h⟩|nd e i j=>exact(n ⟨e,i,j,h⟩).elim
 dk r T:=yZ.mp T
 lk c:=by rw[Cs,Ay];exact⟨λh=>⟨c,h,Aj.mpr rfl⟩,λ ψ=>by obtain⟨d,hd,h⟩:=ψ;rw[Aj.mp h];exact hd⟩
 ct c:=by rw[VD,Cs,Ay];exact⟨.inr,λh=>h.elim (λ ψ=>(by obtain⟨_,_,h⟩:=ψ;exact (Bo h).elim)) id⟩
 cd c U:=by rw[Cs,Ay] at U;obtain⟨_,_,h⟩:=U;exact(Bo h).elim
 dn:=by
  unfold nK;refine AE.mpr ⟨?_,?_,λa ha b hb e=>?_⟩
  ·exact List.Pairwise.map _ (λa b (h:a≠b) z=>h (by injection z))<|CN _<|(ig _ wd wd.length).imp λh=>A6 h
  ·exact List.Pairwise.map _ (λa b (h:a≠b) z=>h (by injection z with e1 e2;exact El e1 e2))<|bU I.ctN
  ·obtain⟨_,_,rfl⟩:=Bm.mp ha;obtain⟨_,_,z⟩:=Bm.mp hb;rw[<-e] at z;cases z
 cnt:=by
  have r1:=l.1;rw[Kd,qA J] at r1;have k1:(((zr wd).filter<|k_ wd).map Du.kn).countP (Du.bc wd)=(jb false wd).length:=by
   rw[List.countP_map,Dy];unfold zr jb kY;rw[Dy,<-Be];refine BW λx _=>?_;show(((match wd[x]? with|some (some<|.nd false _ _)=>true|_=>false)&&k_ wd x)&&_)=true↔_;unfold k_;cases wd[x]? with
   |none=>exact Er
   |some k=>
    cases k with
    |none=>exact Er
    |some k=>
     cases k with|lf=>exact Er|nd e=>cases e<;>exact Er
  have k2:(ct.map λc=>Du.ct c.1 c.2).countP (Du.bc wd)=ct.length:=by rw[List.countP_map];exact Cd.mpr λ_ _=>rfl
  unfold nK;rw[Dx,k1,k2,Ah];lia
structure lG(n:Nat)(hs:Xa)(kvs:List<|zv×Y)(F:Xy):Prop where
 len:hs.length=n
 rk:∃rk,cr rk hs
 lt:∀A∈F,∀x∈qg A,x<n
 at_:∀A∈F,∃h:Nat,(∀x∈qg A,ju hs x h)/\(∀x,ju hs x h->x∈qg A)/\v4 kvs (.inl (h:Int))=some (zf A)
 un:∀x,x<n->(∀A∈F,x∉qg A)->ju hs x x/\(∀y,ju hs y x->y=x)/\v4 kvs (.inl (x:Int))=none
section
variable {F':Xy}
theorem lG.same(p:lG n hs kvs F)(l:hs'.length=hs.length)(r:∃rk,cr rk hs')(m:∀i s,ju hs i s->ju hs' i s):lG n hs' kvs F:=by
 obtain⟨rk,U⟩:=p.rk;have back:∀{x s:Nat},ju hs' x s->ju hs x s:=λ{x s} t=>by obtain⟨o,J⟩:=U.rep' (i:=x) (by rw[<-l];exact t.lt);rw[t.uniq<|m _ _ J];exact J
 refine⟨l.trans p.len,r,p.lt,λA g=>?_,λx I j=>?_⟩
 ·obtain⟨h,a,b,c⟩:=p.at_ A g;exact⟨h,λx I=>m _ _<|a x I,λx t=>b x<|back t,c⟩
 ·obtain⟨a,b,c⟩:=p.un x I j;exact⟨m _ _ a,λy t=>b y<|back t,c⟩
theorem lG.perm(p:lG n hs kvs F)(e:F.Perm F'):lG n hs kvs F':=⟨p.len,p.rk,λA I=>p.lt A<|e.mem_iff.mpr I,λA I=>p.at_ A<|e.mem_iff.mpr I,λx J h=>p.un x J λA I=>h A<|e.mem_iff.mp I⟩
theorem lG.grow{ps own:Xa}{h:Nat}{B:Ru}(p:lG n hs kvs<|As++F0)(nd:((As++F0).flatMap qg).Nodup)(M:Mgd hs hs' ps h)(tB:∀x,x∈qg B↔x∈own\/∃A∈As,x∈qg A)(r:∀x∈own,x<n/\x∈ps/\∀A∈As++F0,x∉qg A)(p1:∀q∈ps,q∈own\/∃A∈As,q∈qg A)(p2:∀A∈As,∃q∈ps,q∈qg A):lG n hs' (kD kvs (.inl (h:Int))<|zf B) (B::F0):=by
 have T:=λk v=>mj kvs (.inl (h:Int)) k v;obtain⟨rk,hr⟩:=p.rk;have rep:∀{x:Nat},x<n->∃s,ju hs x s:=λ{x} J=>hr.rep' (by rw[p.len];exact J);have key:∀{x s:Nat},ju hs x s->((∃q∈ps,ju hs q s)↔x∈qg B):=λ{x s} t=>by
  rw[tB];constructor
  ·rintro⟨q,l,g⟩;rcases p1 q l with o|⟨A,I,m⟩
   ·obtain⟨a,b,_⟩:=p.un q (r q o).1 (r q o).2.2;cases g.uniq a;exact .inl<|b x t▸o
   ·obtain⟨k,a,b,_⟩:=p.at_ A<|Al _ I;cases g.uniq (a q m);exact .inr ⟨A,I,b x t⟩
  ·rintro(o|⟨A,I,m⟩)
   ·exact⟨x,(r x o).2.1,t⟩
   ·obtain⟨k,a,b,_⟩:=p.at_ A<|Al _ I;obtain⟨q,l,mq⟩:=p2 A I;exact⟨q,l,by rw[t.uniq<|a x m];exact a q mq⟩
 have hB:h∈qg B:=by obtain⟨q,l,g⟩:=M.hd;have th:ju hs h h:=.root g.top;exact(key th).mp ⟨q,l,g⟩
 have back:∀{x s:Nat},ju hs' x s->∃j,ju hs x j/\((x∈qg B/\s=h)\/(x∉qg B/\s=j)):=λ{x s} t=>by
  obtain⟨j,U⟩:=hr.rep' (i:=x) (by rw[<-M.len];exact t.lt);refine⟨j,U,?_⟩;rcases Classical.em (∃q∈ps,ju hs q j) with c|c
  ·exact .inl ⟨(key U).mp c,t.uniq<|M.inn _ _ U c⟩
  ·exact .inr ⟨λz=>c<|(key U).mpr z,t.uniq<|M.out _ _ U c⟩
 have dj:∀A∈F0,∀x∈qg A,x∉qg B:=λA I x J m=>by
  rcases (tB x).mp m with o|⟨A',a0,m⟩
  ·exact(r x o).2.2 A (Ac _ I) J
  ·rw[AJ] at nd;exact(AE.mp nd).2.2 x (Ay.mpr ⟨A',a0,m⟩) x (Ay.mpr ⟨A,I,J⟩) rfl
 have C:∀x∈qg B,x<n:=λx J=>by
  rcases (tB x).mp J with o|⟨A,I,m⟩
  ·exact(r x o).1
  ·exact p.lt A (Al _ I) x m
 refine⟨M.len.trans p.len,M.rk,λA I x J=>?_,λA I=>?_,λx J nx=>?_⟩
 ·rcases Am.mp I with rfl|I
  ·exact C x J
  ·exact p.lt A (Ac _ I) x J
 ·rcases Am.mp I with rfl|I
  ·refine⟨h,λx J=>?_,λx t=>?_,by rw[T,Aw rfl]⟩
   ·obtain⟨s,t⟩:=rep<|C x J;exact M.inn x s t<|(key t).mpr J
   ·obtain⟨j,U,c|⟨c,e⟩⟩:=back t
    ·exact c.1
    ·exact(c<|(key U).mp<|e▸M.hd).elim
  ·obtain⟨k,a,b,v⟩:=p.at_ A<|Ac _ I;have nk:k≠h:=λe=>by obtain⟨q,l,g⟩:=M.hd;have:=b q<|e▸g;exact dj A I q this ((key g).mp ⟨q,l,g⟩)
   refine⟨k,λx J=>M.out x k (a x J) λc=>dj A I x J<|(key<|a x J).mp c,λx t=>?_,?_⟩
   ·obtain⟨j,U,⟨_,e⟩|⟨_,e⟩⟩:=back t
    ·exact(nk e).elim
    ·exact b x<|e▸U
   ·rw[T,Ar λe=>nk (by injection e with e;exact CW.mp e)];exact v
 ·have nB:x∉qg B:=nx B Ag;obtain⟨a,b,v⟩:=p.un x J λA I m=>by
   rcases Ak.mp I with I|I
   ·exact nB<|(tB x).mpr<|.inr ⟨A,I,m⟩
   ·exact nx A (Ae _ I) m
  have nh:x≠h:=λe=>nB<|e▸hB;refine⟨M.out x x a λc=>nB<|(key a).mp c,λy t=>?_,?_⟩
  ·obtain⟨j,U,⟨_,e⟩|⟨_,e⟩⟩:=back t
   ·exact(nh e).elim
   ·exact b y<|e▸U
  ·rw[T,Ar λe=>nh (by injection e with e;exact CW.mp e)];exact v
end
def VE(I:Addr)(J:zd)(p1:zd):vn:=(ja (vh (iE<|z9 (ww I "rule_at" J (qk 0)<|dg<|bX 2 0)<|z9 (ww I "rule_at" J (qk 0)<|dg<|bX 2 1) vm)<|qo 3)
 (ja (di (E8 (yB<|gS false<|bX 3 0)<|yB<|gS false<|bX 3 1) (ah<|yC .non) bP)
 (ja (di (Fv (bX 1 0)<|h_ "either") (ah<|qk 3) bP)
 (ah<|Fm (yB<|ww I "is_one" p1 (qk 0)<|jA (bX 2 0)<|bX 2 1) (IE asg (qk 3) yA<|IC<|lZ 1)<|yC .non))))
def Du.hd(wd:List<|Xw):Du->List Y
 |.kn r=>match wd[r]? with
  |some (some<|.nd e _ _)=>[.str<|kN e,.int (r:Int)]
  |_=>[]
 |.ct p q=>[.str "cut",.int (p:Int),.int (q:Int)]
theorem xJ{o:Addr}:(j_ o d).lookup ("rule_at" : Str)=none:=by unfold j_;rw[AW,show((("rule_at" : Str)==("pieces" : Str)))=false by decide +kernel,AW,show((("rule_at" : Str)==("rules" : Str)))=false by decide +kernel];rfl
theorem VF{o:Addr}:(j_ o d).lookup ("is_one" : Str)=none:=by unfold j_;rw[AW,show((("is_one" : Str)==("pieces" : Str)))=false by decide +kernel,AW,show((("is_one" : Str)==("rules" : Str)))=false by decide +kernel];rfl
theorem GK{r:Nat}{e:Bool}(h:wd[r]?=some (some<|.nd e i j)):(Du.kn r).hd wd=[.str<|kN e,.int (r:Int)]:=by simp[Du.hd,h]
theorem m9(A:Ru):∃xs,zf A=.tup xs:=by cases A<;>exact⟨_,rfl⟩
theorem lG.get(p:lG n hs kvs F){x h:Nat}(J:x<n)(t:ju hs x h):(∃A∈F,x∈qg A/\v4 kvs (.inl (h:Int))=some (zf A))\/((∀A∈F,x∉qg A)/\v4 kvs (.inl (h:Int))=none):=by
 by_cases c:∃A∈F,x∈qg A
 ·obtain⟨A,I,m⟩:=c;obtain⟨k,a,_,v⟩:=p.at_ A I;exact .inl ⟨A,I,m,by rw[t.uniq<|a x m];exact v⟩
 ·have c:∀A∈F,x∉qg A:=λA I m=>c ⟨A,I,m⟩;obtain⟨a,_,v⟩:=p.un x J c;exact .inr ⟨c,by rw[t.uniq a];exact v⟩
theorem lG.eqh(p:lG n hs kvs F)(nd:(F.flatMap qg).Nodup){x y a b:Nat}{A B:Ru}(U:A∈F)(g:B∈F)(o:x∈qg A)(I:y∈qg B)(ta:ju hs x a)(tb:ju hs y b):a=b↔A=B:=by
 obtain⟨k,j,r,_⟩:=p.at_ A U;obtain⟨l,J,t,_⟩:=p.at_ B g;cases ta.uniq (j x o);cases tb.uniq (J y I);constructor
 ·rintro rfl;exact aD nd U g (r y<|J y I) I
 ·rintro rfl;exact(j y I).uniq (J y I)
inductive mI(C P:Addr)(ys:List Y)(L:ql)(Q:YK):Prop
 |mk:∀wd:List (Xw),∀g o hp d t,∀hs:Xa,∀kvs:List (zv×Y),∀F:Xy,∀u:Du,(ys=[.ref g,.tup<|u.hd wd,.ref t])->(oq C P L g o hp d hs kvs)->(lG wd.length hs kvs F)->((F.flatMap qg).Nodup)->(L t=some (.lst<|nY [(u.two wd).1,(u.two wd).2]))->(t≠hp)->((u.two wd).1<wd.length)->((u.two wd).2<wd.length)->((∀r,u=.kn r->∃e i j,wd[r]?=some (some<|.nd e i j)))->((¬DW wd F u->∀hs',lG wd.length hs' kvs F->Q .non (qe L hp<|.lst<|nY hs')))->(∀A∈F,∀B∈F,(u.two wd).1∈qg A->(u.two wd).2∈qg B->DW wd F u->∀hs',lG wd.length hs' kvs F->Q (.tup<|if u.bc wd then [zf A,zf B] else [zf A]) (qe L hp<|.lst<|nY hs'))->mI C P ys L Q
theorem VG{P:Addr}:∀ys L Q,mI C P ys L Q->jj (VE C (ff C P)<|gJ C P) 4 ys L Q:=by
 rintro ys L Q ⟨U,g,o,hp,d,t,hs,T,F,u,rfl,G,p,nd,ht,nt,l1,l2,hk,q1,q2⟩;obtain⟨rk,hr⟩:=p.rk;obtain⟨a,ta⟩:=hr.rep' (i:=(u.two U).1) (by rw[p.len];exact l1);obtain⟨b,tb⟩:=hr.rep' (i:=(u.two U).2) (by rw[p.len];exact l2);have e0:cI (nY [(u.two U).1,(u.two U).2]) ((0:Nat):Int)=some (.int (((u.two U).1:Nat):Int)):=mh rfl;have e1:cI (nY [(u.two U).1,(u.two U).2]) ((1:Nat):Int)=some (.int (((u.two U).2:Nat):Int)):=mh rfl;have kt:∀hs',qe L hp (.lst<|nY hs') t=_:=λhs'=>(qb nt).trans ht;refine zp G.hg ⟨rfl,xJ,qc ht (qj e0 ⟨g,o,hp,d,hs,T,_,a,rfl,G,⟨rk,hr⟩,by rw[p.len];exact l1,ta,λa0 g1 r1 m1=>?_⟩)⟩;have G1:=G.heads (hs':=a0);have p1:=p.same g1 r1 m1;refine zp G1.hg ⟨rfl,xJ,qc (kt _) (qj e1 ⟨g,o,hp,d,a0,T,_,b,rfl,G1,r1,by rw[p1.len];exact l2,m1 _ _ tb,λI g2 r2 m2=>?_⟩)⟩;have p2:=p1.same g2 r2 m2;rw[zc];rcases p.get l1 ta with⟨A,J,mA,eA⟩|⟨nA,eA⟩
 ·rcases p.get l2 tb with⟨B,l,mB,eB⟩|⟨nB,eB⟩
  ·rw[eA,eB];obtain⟨xs,ex⟩:=m9 A;obtain⟨ys,ey⟩:=m9 B;have q3:=q2 A J B l mA mB;rw[ex,ey] at q3 ⊢;cases u with
   |ct x y=>exact jv<|q3 ⟨⟨A,J,mA⟩,⟨B,l,mB⟩,nofun⟩ I p2
   |kn r=>
    obtain⟨e,i,j,h⟩:=hk r rfl;rw[GK h];rw[g7 h] at q3;cases e with
    |false=>exact jv (q3 ⟨⟨A,J,mA⟩,⟨B,l,mB⟩,λz=>by rw[g7 h] at z;cases z⟩ I p2)
    |true=>
     have G2:=G.heads (hs':=I);refine zp G2.hg ⟨rfl,VF,qc (kt _) (qj e0 (qc (kt _) (qj e1 ⟨g,o,hp,d,I,T,_,_,a,b,rfl,G2,r2,by rw[p2.len];exact l1,by rw[p2.len];exact l2,m2 _ _<|m1 _ _ ta,m2 _ _<|m1 _ _ tb,λa1 g3 r3 m3=>?_⟩)))⟩;have p3:=p2.same g3 r3 m3;rw[zc];have eq:=p.eqh nd J l mA mB ta tb;by_cases c:A=B
     ·rw[Ax<|eq.mpr c];exact⟨by show ¬(0=0/\1=2);simp,jv<|q3 ⟨⟨A,J,mA⟩,⟨B,l,mB⟩,λ_=>⟨A,J,mA,c▸mB⟩⟩ a1 p3⟩
     ·rw[AB λz=>c<|eq.mp z];refine jv<|q1 (λ ψ=>?_) a1 p3;obtain⟨_,_,z⟩:=ψ;obtain⟨D,hD,z1,z2⟩:=z (by rw[g7 h];rfl);exact c<|(aD nd J hD mA z1).trans (aD nd l hD mB z2).symm
  ·rw[eA,eB];obtain⟨xs,ex⟩:=m9 A;rw[ex];exact jv<|q1 (λ ψ=>(by obtain⟨_,⟨B,l,z⟩,_⟩:=ψ;exact nB B l z)) I p2
 ·rw[eA];exact jv<|q1 (λ ψ=>(by obtain⟨⟨A,J,z⟩,_⟩:=ψ;exact nA A J z)) I p2
def DuL(wd:List<|Xw)(L:ql)(hp:Addr)(xs:List Y)(D:List Du):Prop:=Paired (λy (u:Du)=>∃t,y=.tup [.tup<|u.hd wd,.ref t]/\L t=some (.lst<|nY [(u.two wd).1,(u.two wd).2])/\t≠hp) xs D
def mG(hp d:Addr)(L L':ql):Prop:=∀b u,b≠hp->b≠d->L b=some u->L' b=some u
section
variable {pj:ql}{p:Addr}{xs:List Y}{o:LO}
theorem mG.refl:mG hp d L L:=λ_ _ _ _ e=>e
theorem mG.trans(h:mG hp d L L')(k:mG hp d L' pj):mG hp d L pj:=λb u I J e=>k b u I J<|h b u I J e
theorem mG.heads:mG hp d L (qe L hp o):=λ_ _ n _ e=>(qb n).trans e
theorem mG.rules:mG hp d L (qe L d o):=λ_ _ _ n e=>(qb n).trans e
theorem qh.prs(s:qh L L'):mG hp d L L':=λb u _ _ e=>s b u e
theorem DuL.len(h:DuL wd L hp xs D):xs.length=D.length:=Paired.len h
theorem Kh{o:Addr}:(j_ o d).lookup ("grow" : Str)=none:=by unfold j_;rw[AW,show((("grow" : Str)==("pieces" : Str)))=false by decide +kernel,AW,show((("grow" : Str)==("rules" : Str)))=false by decide +kernel];rfl
end
structure GrW(wd:List<|Xw)(lk ct:W6):Prop where
 i:u_ wd ct
 j:z_ wd lk
 th:GF wd
 rt:RtX wd lk ct
theorem GrW.ci(W:GrW wd lk ct):CI wd (xi wd lk ct) (jb true wd):=Vy W.th W.j W.i.there W.rt.ex
theorem br.rule{X:List Du}{u:Du}{A B:Ru}(W:GrW wd lk ct)(G:br wd lk ct F<|X++u::Z)(l:A∈F)(hB:B∈F)(mA:(u.two wd).1∈qg A)(U:(u.two wd).2∈qg B)(gr:DW wd F u):
 ∃(R:Ru) (T:Nat) (As F0:Xy),Y.tup (u.hd wd++if u.bc wd then [zf A,zf B] else [zf A])=zf R/\cI (u.hd wd) 1=some (.int (T:Int))/\F.Perm (As++F0)/\br wd lk ct (R::F0) (X++Z)/\(∀x,x∈qg R↔x∈u.own\/∃C∈As,x∈qg C)/\(∀q∈[T,(u.two wd).1,(u.two wd).2],q∈u.own\/∃C∈As,q∈qg C)/\(∀C∈As,∃q∈[T,(u.two wd).1,(u.two wd).2],q∈qg C)/\∀x∈u.own,x=T/\x<wd.length:=by
 have hd:u∈X++u::Z:=Ac _ Ag;cases u with
 |kn r=>
  obtain⟨e,i,j,h⟩:=G.dk r hd;rw[ai h] at mA U ⊢;rw[GK h,g7 h];cases e with
  |true=>
   obtain⟨C,I,c1,c2⟩:=gr.2.2 (by rw[g7 h];rfl);rw[ai h] at c1 c2;cases aD G.nd l I mA c1;obtain⟨F0,g⟩:=VC l;refine⟨.ei r A,r,[A],F0,rfl,rfl,g,G.ei W.i h g c1 c2,λx=>?_,λq J=>?_,λC I=>⟨i,by simp,by rw[Aj.mp I];exact c1⟩,λx o=>⟨Aj.mp o,by rw[Aj.mp o];exact qx h⟩⟩
   ·show x∈r::qg A↔x∈[r]\/_;rw[Am,Aj];exact or_congr_right ⟨λh=>⟨A,Ag,h⟩,λ ψ=>by obtain⟨C,I,h⟩:=ψ;rwa[Aj.mp I] at h⟩
   ·rcases Am.mp J with rfl|J
    ·exact .inl Ag
    ·rcases Am.mp J with rfl|J
     ·exact .inr ⟨A,Ag,c1⟩
     ·rw[Aj.mp J];exact .inr ⟨A,Ag,c2⟩
  |false=>
   have ne:A≠B:=λe=>G.apart W.i W.j W.ci W.rt hd (by rw[g7 h];rfl) l (by rw[ai h];exact mA) (by rw[ai h,e];exact U);obtain⟨F0,g⟩:=Kg l hB ne;refine⟨.bo r A B,r,[A,B],F0,rfl,rfl,g,G.bo W.i h g mA U,λx=>?_,λq J=>?_,λC I=>?_,λx o=>⟨Aj.mp o,by rw[Aj.mp o];exact qx h⟩⟩
   ·show x∈r::(qg A++qg B)↔x∈[r]\/_;rw[Am,Aj,Ak];refine or_congr_right ⟨λh=>h.elim (λh=>⟨A,by simp,h⟩) λh=>⟨B,by simp,h⟩,λ⟨C,I,h⟩=>?_⟩;rcases Am.mp I with rfl|I
    ·exact .inl h
    ·rw[Aj.mp I] at h;exact .inr h
   ·rcases Am.mp J with rfl|J
    ·exact .inl Ag
    ·rcases Am.mp J with rfl|J
     ·exact .inr ⟨A,by simp,mA⟩
     ·rw[Aj.mp J];exact .inr ⟨B,by simp,U⟩
   ·rcases Am.mp I with rfl|I
    ·exact⟨i,by simp,mA⟩
    ·rw[Aj.mp I];exact⟨j,by simp,U⟩
 |ct p q=>
  have ne:A≠B:=λe=>G.apart W.i W.j W.ci W.rt hd rfl l mA (by rw[e];exact U);obtain⟨F0,g⟩:=Kg l hB ne;refine⟨.cu p q A B,p,[A,B],F0,rfl,rfl,g,G.cu W.i g mA U,λx=>?_,λy t=>?_,λC I=>?_,nofun⟩
  ·show x∈qg A++qg B↔x∈[]\/_;rw[Ak];refine⟨λh=>.inr<|h.elim (λh=>⟨A,by simp,h⟩) λh=>⟨B,by simp,h⟩,λh=>?_⟩;rcases h with h|⟨C,I,h⟩
   ·cases h
   ·rcases Am.mp I with rfl|I
    ·exact .inl h
    ·rw[Aj.mp I] at h;exact .inr h
  ·rcases Am.mp t with rfl|t
   ·exact .inr ⟨A,by simp,mA⟩
   ·rcases Am.mp t with rfl|t
    ·exact .inr ⟨A,by simp,mA⟩
    ·rw[Aj.mp t];exact .inr ⟨B,by simp,U⟩
  ·rcases Am.mp I with rfl|I
   ·exact⟨p,by simp[Du.two],mA⟩
   ·rw[Aj.mp I];exact⟨q,by simp[Du.two],U⟩
def VH(I:Addr)(J:zd)(p1:zd):vn:=(ja (vh (hE vm)<|qo 2)
 (ja (l8 (ag<|qk 1) (df 2<|jh (qo 3)<|jh (qo 4) bv) (ja (vh (xm J<|z9 (qk 0)<|jA (qk 3)<|qk 4)<|qo 5)
 (di (yB<|gS false<|qk 5) (aP<|rE vq (qk 2)<|z9 (Fw (qk 3)<|qk 4) vm)<|aP<|ww I "grow" p1 (qk 0)<|z9 (wy yx (qk 3)<|qk 5)<|z9 (wy xO (hE<|dg<|bX 3 1)<|qk 4) vm)))
 (ah<|qk 2)))
theorem br.tlt(W:GrW wd lk ct)(G:br wd lk ct F D){u:Du}(I:u∈D):(u.two wd).1<wd.length/\(u.two wd).2<wd.length:=by
 cases u with
 |kn r=>
  obtain⟨e,i,j,h⟩:=G.dk r I;obtain⟨⟨_,a⟩,_,b⟩:=W.th _ _ _ _ h;rw[ai h];exact⟨qx a,qx b⟩
 |ct p q=>obtain⟨⟨_,J⟩,_,U⟩:=W.i.there _<|(G.ct (p,q)).mpr<|.inr I;exact⟨qx J,qx U⟩
theorem VI(wd:List<|Xw)(u:Du):(u.hd wd).length<=3:=by
 cases u with
 |kn r=>
  show(match wd[r]? with|some (some<|.nd e _ _)=>[Y.str<|kN e,.int (r:Int)]|_=>[]).length<=3;split<;>simp
 |ct p q=>exact An 3
inductive iS(C P:Addr)(ys:List Y)(L:ql)(Q:YK):Prop
 |mk:∀wd:List (Xw),∀lk ct:W7,∀g o hp d a,∀hs:Xa,∀kvs:List (zv×Y),∀F:Xy,∀D:List Du,∀xs:List Y,(ys=[.ref g,.ref a])->(oq C P L g o hp d hs kvs)->(lG wd.length hs kvs F)->(br wd lk ct F D)->(GrW wd lk ct)->(DuL wd L hp xs D)->(L a=some (.lst xs))->(a≠hp)->(kvs.length+D.length<=10000)->(D≠[])->(∀b F' D' hs' my xs' L',mG hp d L L'->oq C P L' g o hp d hs' my->lG wd.length hs' my F'->br wd lk ct F' D'->DuL wd L' hp xs' D'->L' b=some (.lst xs')->b≠hp->D'.length<D.length->my.length+D'.length<=10000->Q (.ref b) L')->iS C P ys L Q
theorem VJ{P:Addr}:∀ys L Q,iS C P ys L Q->jj (VH C (mI C P)<|bS C P) 6 ys L Q:=by
 rintro ys L Q ⟨j,lk,ct,g,o,hp,d,a,hs,a2,F,D,xs,rfl,G,p,I,W,X,ha,ba,kl,hD,q⟩;have big:=a_;have bb:a≠d:=gT ha G.hd λe=>by cases e
 intro b hb;have a1:b≠hp:=λe=>by rw[e,G.hh] at hb;cases hb
 have a3:b≠d:=λe=>by rw[e,G.hd] at hb;cases hb
 refine zG hb λL1 s1 gb=>?_;have G1:=G.sub s1;have P1:mG hp d L L1:=s1.prs;have pr:=I.prog W.th W.i.there (λz tz f hf=>W.rt.sw tz hf) hD;have dl:=X.len;refine aw (jm<|s1 _ _ ha) (λi τ L'=>∃c3 c4 c5 F' Lt hs' J T,τ=[some<|.ref g,some<|.ref a,some<|.ref b,c3,c4,c5]/\mG hp d L L'/\oq C P L' g o hp d hs' J/\lG j.length hs' J F'/\br j lk ct F' (Lt++D.drop i)/\DuL j L hp T Lt/\L' b=some (.lst T)/\Lt.length<=i/\J.length+Lt.length<=a2.length+i/\((∃u∈D.drop i,DW j F' u)\/Lt.length<i)) ⟨_,_,_,F,[],hs,a2,[],rfl,P1,G1,p,I,.nil,gb,An _,by simp,.inl pr⟩ (λi τ L' w=>by obtain⟨_,_,_,_,_,_,_,_,_,k,_⟩:=w;rw[k _ _ ba bb ha,s1 _ _ ha]) ?_ ?_
 ·rintro i y τ L' hy ⟨c3,c4,c5,F',Lt,hs',J,T,rfl,Pr,G',p',I',X',kb,ll,kk,pg⟩;obtain⟨u,eu,t,rfl,ht,nt⟩:=Words.Paired.getP X hy;have hi:=qx eu;have bd:t≠d:=gT ht G.hd λe=>by cases e
  have a4:=Pr _ _ nt bd ht;have ed:D.drop i=u::D.drop (i+1):=Vv eu;rw[ed] at I' pg;have hu:u∈Lt++u::D.drop (i+1):=Ac _ Ag;obtain⟨l1,l2⟩:=I'.tlt W hu;refine⟨j,g,o,hp,d,t,hs',J,F',u,rfl,G',p',I'.nd,a4,nt,l1,l2,λr e=>I'.dk r<|e▸hu,λng U p1=>?_,λA hA B hB mA mB gr U p1=>?_⟩
  ·have a0:qe L' hp (.lst<|nY U) b=some (.lst T):=(qb a1).trans kb;have l:=G'.heads (hs':=U);refine qc a0 (qp a0 ⟨big _ (by rw[X'.len];lia),?_⟩);have G2:oq C P (qe (qe L' hp<|.lst<|nY U) b<|.lst<|T++[.tup [.tup<|u.hd j,.ref t]]) g o hp d U J:=⟨(qb (gT l.hg a0 λe=>by cases e)).trans l.hg,(qb (gT l.ho a0 λe=>by cases e)).trans l.ho,(qb<|AQ a1).trans l.hh,(qb<|AQ a3).trans l.hd⟩;refine⟨_,EC _,_,_,_,F',Lt++[u],U,J,_,rfl,λc v n1 n2 e=>?_,G2,p1,by rw[AA];exact I',Words.Paired.app X'<|.cons ⟨t,rfl,ht,nt⟩ .nil,q9,by rw[Aa];exact De ll,by rw[Aa];show _+(_+1)<=_;lia,?_⟩
   ·have ne:c≠b:=λz=>by rw[z,hb] at e;cases e
    exact(qb ne).trans ((qb n1).trans<|Pr c v n1 n2 e)
   ·rcases pg with⟨w,hw,gw⟩|pg
    ·rcases Am.mp hw with rfl|hw
     ·exact(ng gw).elim
     ·exact .inl ⟨w,hw,gw⟩
    ·exact .inr (by rw[Aa];exact Nat.succ_lt_succ pg)
  ·obtain⟨R,p0,As,F0,eR,e0,pF,IR,tR,a5,be,ow⟩:=I'.rule W hA hB mA mB gr;have a7:qe L' hp (.lst<|nY U) t=some (.lst<|nY [(u.two j).1,(u.two j).2]):=(qb nt).trans a4;have l:=G'.heads (hs':=U);have a0:qe L' hp (.lst<|nY U) b=some (.lst T):=(qb a1).trans kb;have ab:mG hp d L (qe L' hp<|.lst<|nY U):=Pr.trans .heads;show ww C "grow" (bS C P) (qk 0) (z9 (wy yx (qk 3)<|qk 5)<|z9 (wy xO (hE<|z9 (wy og (qk 3)<|yC<|.int 1) vm)<|qk 4) vm) [some<|.ref g,some<|.ref a,some<|.ref b,some<|.tup<|u.hd j,some<|.ref t,some<|.tup<|if u.bc j then [zf A,zf B] else [zf A]] (qe L' hp<|.lst<|nY U) _;generalize qe L' hp (.lst<|nY U)=L2 at a7 l a0 ab ⊢;have al:(if u.bc j then [zf A,zf B] else [zf A]).length<=2:=by split<;>simp
   have hl:=VI j u;refine zp l.hg ⟨rfl,Kh,?_⟩;refine⟨λz=>(by rw[z] at e0;cases e0),by lia,?_⟩;refine qj e0 λp5 h5=>?_;have s5:=By (o:=.lst [.int (p0:Int)]) h5;refine⟨_,_,q9,s5 _ _ a7,by show 1+2<=_;decide,λp6 h6=>?_⟩;have n6:L2 p6=none:=j8 h6;have s6:=s5.trans<|By (o:=.lst<|[.int (p0:Int)]++nY [(u.two j).1,(u.two j).2]) h6;have g6:qe (qe L2 p5<|.lst [.int (p0:Int)]) p6 (.lst<|[.int (p0:Int)]++nY [(u.two j).1,(u.two j).2]) p6=some (.lst<|nY [p0,(u.two j).1,(u.two j).2]):=q9;have G6:=l.sub s6;have ac:=s6 _ _ a0;have au:mG hp d L _:=ab.trans s6.prs;generalize qe (qe L2 p5<|.lst [.int (p0:Int)]) p6 (.lst<|[.int (p0:Int)]++nY [(u.two j).1,(u.two j).2])=L6 at g6 G6 ac au ⊢;have pA:=p1.perm pF;have ndA:=(pF.flatMap_right qg).nodup_iff.mp I'.nd;have av:∀x∈u.own,x<j.length/\x∈[p0,(u.two j).1,(u.two j).2]/\∀A∈As++F0,x∉qg A:=λx hx=>by
    obtain⟨e,lx⟩:=ow x hx;refine⟨lx,by rw[e];exact Ag,λA hA m=>?_⟩;have:=((I'.tl x).mp<|Ay.mpr ⟨A,pF.mem_iff.mpr hA,m⟩).2;cases u with
    |kn r=>rw[Aj.mp hx] at this;exact this hu
    |ct=>cases hx
   have bf:∀q∈[p0,(u.two j).1,(u.two j).2],q<U.length:=λq hq=>by
    rw[p1.len];rcases a5 q hq with h|⟨C,hC,m⟩
    ·exact(av q h).1
    ·exact pA.lt C (Al _ hC) q m
   have bg:p6≠hp:=λe=>by rw[e,l.hh] at n6;cases n6
   refine⟨g,o,hp,d,p6,U,J,_,p0,_,rfl,G6,g6,bg,rfl,bf,p1.rk,big _ (by lia),λaL h M=>?_⟩;rw[eR];have pl:=iD J (.inl (h:Int))<|zf R;refine⟨_,EC _,_,_,_,R::F0,Lt,aL,_,T,rfl,au.trans<|mG.heads.trans .rules,(G6.heads (hs':=aL)).rules,pA.grow ndA M tR av a5 be,IR,X',(qb a3).trans<|(qb a1).trans ac,by lia,by lia,.inr (by lia)⟩
 ·rintro τ L' ⟨c3,c4,c5,F',Lt,hs',J,T,rfl,Pr,G',p',I',X',kb,ll,kk,pg⟩;rw[dl,List.drop_length,Av] at I';rw[dl] at ll kk pg;have lt:Lt.length<D.length:=pg.elim (λ ψ=>by obtain⟨_,h,_⟩:=ψ;rw[List.drop_length] at h;cases h) id;refine jv<|q b F' Lt hs' J T L' Pr G' p' I' ?_ kb a1 lt (by lia);exact EF X' λy u ψ=>(by obtain⟨t,e,ht,nt⟩:=ψ;exact ⟨t,e,Pr _ _ nt (gT ht G.hd λe=>by cases e) ht,nt⟩)
noncomputable def Ki(I:zd)(J:zd):RD "rules_due" fM 2 ["web","due","place","knot","p","q"] (λV=>Fx V I/\Gr V J):=⟨_,λV B c _ _ _ _ _ _ _ U hN g=>(qa (S_ 1 hN<|zj xw)<|qa (vi u2 rfl (vf<|C_ c.1 U<|jo<|J_ 0) (G_ 2 hN)<|qa (S_ 3 hN<|I_ (J_ 0)<|qv 2)<|qd<|zm (N_ g (C_ c.2 U<|jo<|qv 3)<|zj xw) (qd<|za<|z7 (qv 1)<|jo<|zh<|vv (zh<|vv (J_ 3)<|qv 2)<|C_ c.2 U<|jo<|qv 3) qz)<|qa (vi u2 rfl (vf<|J_ 0) (aQ (n:=2) rfl<|zg (G_ 4 hN)<|zg (G_ 5 hN) kg)<|qd<|za<|z7 (qv 1)<|jo<|zh<|vv (zh<|aW j5 (qv 4)<|qv 5)<|zj<|vv (qv 4)<|qv 5)<|qd<|qr<|qv 1)⟩
noncomputable def VL(I:zd)(J:zd):vn:=(Ki I J).1
def DuN(wd:List<|Xw)(L L':ql)(N:Addr)(xs:List Y)(D:List Du):Prop:=Paired (λy (u:Du)=>∃t,y=.tup [.tup<|u.hd wd,.ref t]/\L' t=some (.lst<|nY [(u.two wd).1,(u.two wd).2])/\L t=none/\t≠N) xs D
theorem DuN.mono{L2:ql}{N:Addr}{xs:List Y}(h:DuN wd L L1 N xs D)(s:∀b u,b≠N->L1 b=some u->L2 b=some u):DuN wd L L2 N xs D:=EF h λ_ _ ψ=>(by obtain⟨t,e,k,n,m⟩:=ψ;exact ⟨t,e,s _ _ m k,n,m⟩)
inductive hV(ys:List Y)(L:ql)(Q:YK):Prop
 |mk:∀a l c,∀wd:List (Xw),∀ct:W7,(ys=[bJ a l c])->(L a=some (.lst<|aM wd))->(L c=some (.lst<|j4 ct))->(wd.length<=1000)->(ct.length<=1000)->(∀N xs L',qh L L'->L N=none->L' N=some (.lst xs)->DuN wd L L' N xs (nK wd ct)->Q (.ref N) L')->hV ys L Q
theorem VM:∀ys L Q,hV ys L Q->jj (VL cX cb) 6 ys L Q:=by
 rintro ys L Q ⟨a,l,c,U,ct,rfl,ha,hc,z0,z2,q⟩;have big:=a_;intro N hN;refine zG hN λL1 s1 gN=>?_;refine⟨a,U,rfl,s1 _ _ ha,z0,λp2 h2=>?_⟩;have n2:p2≠N:=AQ<|xu gN h2;show r9 (qe L1 p2<|.lst<|nY<|zr U) p2 _;refine zG h2 λL2 s2 g2=>?_;have gN:=s2 _ _ gN;have s2:=s1.trans s2;have tl:(zr U).length<=U.length:=gC _ _ _;refine aw (jm g2) (λi τ J=>∃c2 c3 g,τ=[some<|bJ a l c,some<|.ref N,c2,c3,none,none]/\qh L J/\J p2=some (.lst<|nY<|zr U)/\J N=some (.lst g)/\g.length<=i/\DuN U L J N g ((((zr U).take i).filter<|k_ U).map Du.kn)) ⟨_,_,[],rfl,s2,g2,gN,An _,.nil⟩ (λi τ J ψ=>by obtain⟨_,_,_,_,_,k,_⟩:=ψ;rw[k,g2]) ?_ ?_
 ·rintro i y τ J hy ⟨c2,c3,g,rfl,s,p,I,xl,X⟩;obtain⟨r,er,rfl⟩:=bO hy;have hi:=qx er;obtain⟨lr,k,ek,kb⟩:=dA<|AF er;have et:(zr U).take (i+1)=(zr U).take i++[r]:=by rw[Bk,er];rfl
  refine qc (s _ _ ha)<|qj (v9 ek) ?_;refine⟨k,rfl,λp3 h3=>?_⟩;refine zG h3 λL3 s3 g3=>?_;have n3:p3≠N:=AQ<|xu I h3;have I:=s3 _ _ I;have p:=s3 _ _ p;have X:=X.mono λb u _ e=>s3 b u e;have s3:=s.trans s3;intro p4 h4;have T:=By (o:=.lst []) h4;refine cZ (n:=0) (m:=0) (by decide) (T _ _ g3) q9 (by rw[iX];exact bD _) .nil ?_;have n4:p4≠N:=AQ<|xu I h4;have I:=T _ _ I;have p:=T _ _ p;have X:=X.mono λb u _ e=>T b u e;have T:=s3.trans T;generalize qe L3 p4 (.lst [])=L4 at T I p X ⊢;cases k with
  |none=>cases kb
  |some k=>
   cases k with
   |lf t n=>
    refine⟨_,EC _,_,_,g,rfl,T,p,I,by lia,?_⟩;rw[et,Bp,List.filter_cons_of_neg (by unfold k_;rw[ek];exact AH),Cw,Av];exact X
   |nd e x y=>
    refine qc I ⟨_,rfl,λj h5=>?_⟩;have n5:j≠N:=AQ<|xu I h5;have s5:=By (o:=.lst<|nY<|jp<|some<|.nd e x y) h5;have g5:qe L4 j (.lst<|nY<|jp<|some<|.nd e x y) j=some (.lst<|nY [x,y]):=q9;have I:=s5 _ _ I;have p:=s5 _ _ p;have X:=X.mono λb u _ e=>s5 b u e;have C:=T.trans s5;have f5:L j=none:=T.none h5;generalize qe L4 j (.lst<|nY<|jp<|some<|.nd e x y)=L5 at C g5 I p X ⊢;refine qp I ⟨big _ (by lia),_,EC _,_,_,_,rfl,C.upd hN,(qb n2).trans p,q9,by rw[Aa];exact De xl,?_⟩;rw[et,Bp,List.filter_cons_of_pos (by unfold k_;rw[ek]),Cw,AG];refine Words.Paired.app (X.mono λb u n e=>(qb n).trans e)<|.cons ⟨j,by rw[GK ek],?_,f5,n5⟩ .nil;rw[ai ek];exact(qb n5).trans g5
 ·rintro τ J ⟨c2,c3,g,rfl,s,p,I,xl,X⟩;rw[jd] at xl;rw[jd,Bi] at X;refine aw (jm<|s _ _ hc) (λi τ J=>∃c2 c3 c4 c5 g,τ=[some<|bJ a l c,some<|.ref N,c2,c3,c4,c5]/\qh L J/\J N=some (.lst g)/\g.length<=U.length+i/\DuN U L J N g (((zr U).filter<|k_ U).map Du.kn++(ct.take i).map λc=>Du.ct c.1 c.2)) ⟨_,_,_,_,g,rfl,s,I,by lia,by simpa using X⟩ (λi τ J ψ=>by obtain⟨_,_,_,_,_,_,s',_⟩:=ψ;rw[s' _ _ hc,s _ _ hc]) ?_ ?_
  ·rintro i y τ J hy ⟨c2,c3,c4,c5,g,rfl,s,I,xl,X⟩;rw[j4,Au] at hy;obtain⟨x,ex,rfl⟩:=AI.mp hy;have hi:=qx ex;refine qc I λj h5=>?_;have n5:j≠N:=AQ<|xu I h5;have s5:=By (o:=.lst [.int (x.1:Int),.int (x.2:Int)]) h5;have g5:qe J j (.lst [.int (x.1:Int),.int (x.2:Int)]) j=some (.lst<|nY [x.1,x.2]):=q9;have I:=s5 _ _ I;have X:=X.mono λb u _ e=>s5 b u e;have C:=s.trans s5;have f5:L j=none:=s.none h5;generalize qe J j (.lst [.int (x.1:Int),.int (x.2:Int)])=L5 at C g5 I X ⊢;refine qp I ⟨big _ (by lia),_,EC _,_,_,_,_,_,rfl,C.upd hN,q9,by rw[Aa];show _+1<=_;lia,?_⟩;rw[Bk,ex,Option.toList_some,AG,<-AA];exact Words.Paired.app (X.mono λb u n e=>(qb n).trans e)<|.cons ⟨j,rfl,(qb n5).trans g5,f5,n5⟩ .nil
  ·rintro τ J ⟨c2,c3,c4,c5,g,rfl,s,I,xl,X⟩;rw[show(j4 ct).length=ct.length from Ah ..,Bi] at X;exact jv<|q N g J s hN I X
def tH(I:Addr)(J:zd)(p1:zd)(p2:zd)(p3:zd)(p4:zd)(p5:zd):vn:=(ja (vh (xm J<|dg<|qk 0)<|qo 1)
 (ja (di (yB<|gS true<|qk 1) I9 bP)
 (ja (vh (uC I p1<|z9 (xa Cf<|dg<|bX 0 0) vm)<|qo 2)
 (ja (l8 (ag<|bX 0 1) (df 2<|jh (qo 3)<|jh (qo 4) bv)<|aP<|ww I "grow" p2 (qk 2)<|z9 (iE<|z9 (h_ "link")<|jA (qk 3)<|qk 4)<|z9 (hE<|jA (qk 3)<|qk 4) vm)
 (ja (vh (xm p3<|dg<|qk 0)<|qo 5)
 (ja (oN (Fv (qk 5)<|hE vm)<|vh (xm p4<|jA (qk 2)<|qk 5)<|qo 5)
 (ah<|iE<|z9 (xa sD<|dg<|bX 0 0)<|z9 (ww I "rule_at" p5 (qk 2)<|z9 (wy og (wy og (bX 0 1)<|lZ 0)<|lZ 0) vm) vm)))))))
theorem Kj{wd:List<|Xw}{L:ql}{hp:Addr}:∀{xs:List Y} {D:List Du},DuL wd L hp xs D->∃ds,Paired (jw L 2) xs ds/\Da.eqs ds []=decide (D=[])
 |_,_,.nil=>⟨[],.nil,rfl⟩
 |_,u::_,.cons J U=>by
  obtain⟨t,rfl,k,_⟩:=J;obtain⟨ds,p,_⟩:=Kj U;have g:∃I,Paired (jw L 0) (u.hd wd) I:=by
   cases u with
   |kn r=>
    show ∃I,Paired (jw L 0) (match wd[r]? with|some (some<|.nd e _ _)=>[Y.str<|kN e,.int (r:Int)]|_=>[]) I;split
    ·exact⟨_,.cons ⟨rfl,rfl⟩<|.cons ⟨rfl,rfl⟩ .nil⟩
    ·exact⟨[],.nil⟩
   |ct p q=>exact⟨_,.cons ⟨rfl,rfl⟩<|.cons ⟨rfl,rfl⟩<|.cons ⟨rfl,rfl⟩ .nil⟩
  obtain⟨I,j⟩:=g;exact⟨_,.cons (.inr (.inl ⟨_,_,rfl,rfl,.cons (.inr<|.inl ⟨_,_,rfl,rfl,j⟩) (.cons (.inr (.inr ⟨_,_,rfl,rfl,jm k,by rw[iX];exact bD _⟩)) .nil)⟩)) p,rfl⟩
inductive cj(C P:Addr)(ys:List Y)(L:ql)(Q:YK):Prop
 |mk:∀a l c,∀wd:List (Xw),∀lk ct:W7,(ys=[bJ a l c])->(L a=some (.lst<|aM wd))->(L l=some (.lst<|j4 lk))->(L c=some (.lst<|j4 ct))->(wd.length<=300)->(ct.length<=300)->(GrW wd lk ct)->(∀a' B E L',qh L L'->L a'=none->L' a'=some (.lst<|aM wd)->Gw wd B E->(qg B).Nodup->(∀x,x∈qg B↔∃k,wd[x]?=some (some k))->(∀c,c∈lk↔c∈ze B)->(∀c,c∈ct↔c∈zb B)->Q (.tup [.ref a',zf B]) L')->cj C P ys L Q
theorem lG.start(n:Nat):lG n (List.range n) [] []:=by have r:∀{i s:Nat},ju (List.range n) i s->s=i:=λ{i s} t=>t.of_top (BX (by have:=t.lt;rwa[Ba] at this));exact⟨Ba,⟨_,uJ _⟩,nofun,nofun,λx I _=>⟨.root<|BX I,λy t=>(r t).symm,rfl⟩⟩
theorem qR(l:W6):(l.map λc=>Ru.link c.1 c.2).flatMap qg=vk l:=by rw[Cs];rfl
theorem VN{P:Addr}{FB:zd}(a7:∀(a l c:Addr) (wd:List<|Xw) (lk ct:W6) (L:ql) (Q:YK),L a=some (.lst<|aM wd)->L l=some (.lst<|j4 lk)->L c=some (.lst<|j4 ct)->wd.length<=300->ct.length<=300->GrW wd lk ct->Q .non L->FB [bJ a l c] L Q):∀ys L Q,cj C P ys L Q->jj (tH C FB (iU C P) (bS C P) hV (iS C P)<|ff C P) 6 ys L Q:=by
 rintro ys L Q ⟨a,l,c,wd,lk,ct,rfl,ha,hl,hc,z0,z2,W,q⟩;have big:=a_;have I0:=br.start W.i W.j W.rt;have ll:=W.j.ll;have pl:(j4 lk).length=lk.length:=Ah ..;refine a7 a l c wd lk ct L _ ha hl hc z0 z2 W ?_;refine qc ha λg hg=>?_;refine⟨g,wd.length,by rw[gK],q9,by lia,λo J d L2 keep G ho ab hd=>⟨rfl,?_⟩⟩;have s2:qh L L2:=λb u e=>keep b u (xu e hg)<|(qb<|xu e hg).trans e;have ac:L J=none:=j8 ab;have nd:L d=none:=j8 hd;have off:∀{b:Addr} {u:LO},L b=some u->b≠J/\b≠d:=λe=>⟨xu e ac,xu e nd⟩;have up:∀{U:ql},mG J d L2 U->qh L U:=λPr b u e=>Pr b u (off e).1 (off e).2<|s2 b u e;refine aw (jm<|s2 _ _ hl) (λi τ U=>∃c3 c4 p I,τ=[some<|bJ a l c,some .non,some<|.ref g,c3,c4,none]/\mG J d L2 U/\oq C P U g o J d p I/\lG wd.length p I ((lk.take i).map λc=>.link c.1 c.2)/\I.length<=i) ⟨_,_,_,[],rfl,.refl,G,lG.start _,An _⟩ (λi τ U ψ=>by obtain⟨_,_,_,_,_,Pr,_⟩:=ψ;rw[up Pr _ _ hl,s2 _ _ hl]) ?_ ?_
 ·rintro i y τ U hy ⟨c3,c4,p,I,rfl,Pr,G',p',kk⟩;rw[j4,Au] at hy;obtain⟨x,ex,rfl⟩:=AI.mp hy;have hi:=qx ex;obtain⟨_,t,n,e1,e2⟩:=W.j.lkA x<|AF ex;have et:lk.take (i+1)=lk.take i++[x]:=by rw[Bk,ex];rfl
  have a3:(vk (lk.take i)++vk [x]).Nodup:=by have:=W.j.lkN;rw[<-A3 (i+1) lk,kq,et,kq] at this;exact(AE.mp this).1
  refine zp G'.hg ⟨rfl,Kh,?_⟩;intro p5 h5;have s5:=By (o:=.lst [.int (x.1:Int),.int (x.2:Int)]) h5;have n5:p5≠J:=AQ<|xu G'.hh h5;have G5:=G'.sub s5;refine⟨g,o,J,d,p5,p,I,[x.1,x.2],x.1,zf<|.link x.1 x.2,rfl,G5,q9,n5,rfl,λq hq=>?_,p'.rk,big _ (by lia),λa4 h M=>?_⟩
  ·rw[p'.len];rcases Am.mp hq with rfl|hq
   ·exact qx e1
   ·rw[Aj.mp hq];exact qx e2
  have pl:=iD I (.inl (h:Int))<|zf<|.link x.1 x.2;refine⟨_,EC _,_,_,a4,_,rfl,(Pr.trans s5.prs).trans<|mG.heads.trans .rules,(G5.heads (hs':=a4)).rules,?_,by lia⟩;have:=lG.grow (As:=[]) (own:=[x.1,x.2]) (B:=.link x.1 x.2) p' (by show(((lk.take i).map λc=>Ru.link c.1 c.2).flatMap qg).Nodup;rw[qR];exact(AE.mp a3).1) M (λy=>⟨.inl,λh=>h.elim id λ ψ=>(by obtain⟨_,h,_⟩:=ψ;exact (Bo h).elim)⟩) (λy hy=>⟨?_,hy,λA hA m=>?_⟩) (λy hy=>.inl hy) nofun
  ·refine this.perm ?_;rw[et,AG];exact BO (l₁:=[Ru.link x.1 x.2])
  ·rcases Am.mp hy with rfl|hy
   ·exact qx e1
   ·rw[Aj.mp hy];exact qx e2
  ·have m':y∈vk (lk.take i):=by rw[<-qR];exact Ay.mpr ⟨A,hA,m⟩
   exact(AE.mp a3).2.2 y m' y hy rfl
 ·rintro τ L3 ⟨c3,c4,p,I,rfl,Pr,G3,p3,kk⟩;rw[pl] at kk;rw[pl,Bi] at p3;have s3:=up Pr;refine⟨a,l,c,wd,ct,rfl,s3 _ _ ha,s3 _ _ hc,by lia,by lia,λN T L4 s4 hN kN X=>?_⟩;have X4:DuL wd L4 J T (nK wd ct):=EF X λy u ψ=>(by obtain⟨t,e,k,n,_⟩:=ψ;exact ⟨t,e,k,λz=>by rw[z,G3.hh] at n;cases n⟩);have G4:=G3.sub s4;have nN:N≠J:=AQ<|xu G3.hh hN;have P4:mG J d L2 L4:=Pr.trans s4.prs;have dl:(nK wd ct).length<=wd.length+ct.length:=by unfold nK;rw[Aa,Ah,Ah];have:=Bd (k_ wd)<|zr wd;have:(zr wd).length<=wd.length:=gC _ _ _;lia
  refine⟨λm τ U=>∃ad p I F D T,τ=[some<|bJ a l c,some .non,some<|.ref g,c3,c4,some<|.ref ad]/\mG J d L2 U/\oq C P U g o J d p I/\lG wd.length p I F/\br wd lk ct F D/\DuL wd U J T D/\U ad=some (.lst T)/\ad≠J/\I.length+D.length<=10000/\m=D.length,⟨_,N,p,I,_,_,T,rfl,P4,G4,p3,I0,X4,kN,nN,by lia,rfl⟩,?_⟩;rintro m τ L5 ⟨ad,p,I,F,D,T,rfl,P5,G5,p5,I5,X5,a1,al,kl,rfl⟩;intro p6 h6;have s6:=By (o:=.lst []) h6;have G6:=G5.sub s6;have P6:mG J d L2 _:=P5.trans s6.prs;have X6:DuL wd (qe L5 p6<|.lst []) J T D:=EF X5 λy u ψ=>(by obtain⟨t,e,k,n⟩:=ψ;exact ⟨t,e,s6 _ _ k,n⟩);obtain⟨ds,pd,ed⟩:=Kj X6;refine cZ (n:=2) (m:=0) (by decide) (s6 _ _ a1) q9 pd .nil ?_;rw[ed];have a1:=s6 _ _ a1;generalize qe L5 p6 (.lst [])=L6 at G6 P6 X6 a1 ⊢;cases D with
  |cons u D=>
   refine fT (by rfl) ⟨λτ U=>∃ad p I F D' T,τ=[some<|bJ a l c,some .non,some<|.ref g,c3,c4,some<|.ref ad]/\mG J d L2 U/\oq C P U g o J d p I/\lG wd.length p I F/\br wd lk ct F D'/\DuL wd U J T D'/\U ad=some (.lst T)/\ad≠J/\I.length+D'.length<=10000/\D'.length<(u::D).length,?_,?_⟩
   ·rintro bd U ⟨ad,p,I,F,D',T,e1,e2,e3,e4,e5,e6,e7,e8,e9,au⟩;exact⟨_,au,ad,p,I,F,D',T,e1,e2,e3,e4,e5,e6,e7,e8,e9,rfl⟩
   ·exact⟨wd,lk,ct,g,o,J,d,ad,p,I,F,_,T,rfl,G6,p5,I5,W,X6,a1,al,kl,nofun,λb F' D' hs' a5 av U aL G' p' I' X' kb nb lt ba=>⟨_,EC _,b,hs',a5,F',D',av,rfl,P6.trans aL,G',p',I',X',kb,nb,ba,lt⟩⟩
  |nil=>
   refine wn (by rfl) ?_;obtain⟨B,E,rfl,gB,nB,tB,lB,cB⟩:=I5.end_;obtain⟨x0,rest,e0⟩:∃x0 rest,lk=x0::rest:=by cases h:lk with|nil=>have:=I0.cnt;rw[h] at this;cases this|cons x r=>exact⟨x,r,rfl⟩
   have s7:=up P6;refine qc (s7 _ _ ha) λa' a2=>?_;have s8:=By (o:=.lst<|aM wd) a2;have G8:=G6.sub s8;have m0:x0∈lk:=by rw[e0];exact Ag
   obtain⟨_,t,n,e1,_⟩:=W.j.lkA x0 m0;have mB:x0.1∈qg B:=(tB _).mpr ⟨_,e1⟩;obtain⟨h,h1,_,hv⟩:=p5.at_ B Ag;have a0:cI (j4 lk) ((0:Nat):Int)=some (Gy x0):=jt (by rw[e0];rfl);refine zp G8.hg ⟨rfl,xJ,qc (s8 _ _<|s7 _ _ hl)<|qj a0 ?_⟩;refine⟨g,o,J,d,p,I,x0.1,h,rfl,G8,p5.rk,by rw[p5.len];exact qx e1,h1 _ mB,λhs' _ _ _=>?_⟩;rw[hv];have bb:a'≠J:=AQ<|xu G6.hh a2;exact jv<|q a' B E _ (λb u e=>(qb (off e).1).trans<|s8 _ _<|s7 b u e) (s7.none a2) ((qb bb).trans q9) gB nB tB lB cB
end L3
namespace TS
open PySem PyProof.Rows PySem.W
section
variable {prog:Xl}{w:Xm}
def TxtV(v:Xj):Prop:=∃b t,v=.str (Words.kL b) t
noncomputable def nmT(x:Keyed):Int:=match x.1 with
 |.str z _=>if z=Words.kL false then 0 else 1
 |_=>0
theorem nm_txt{x:Keyed}{b:Bool}{t:Tok}(e:x.1=.str (Words.kL b) t):nmT x=if b then 1 else 0:=by unfold nmT;rw[e];cases b with|false=>exact Aw rfl|true=>exact Ar (by decide +kernel)
theorem aik:yS prog w A s oneType' (λx=>TxtV x.1) nmT:=by
 constructor;rintro x y ⟨a,t,I⟩ ⟨b,u,J⟩ E Q h;rw[nm_txt I,nm_txt J] at h;rw[I,J,keyLt'_oneType,oneLt'_eq];simp only[if_true];refine Ad<|wpAny_cRoomFor_byValue rfl<|Ad<|wpAny_callSpecialIfBound?_slot (typeIs_str s _ t) slot_str_lt<|call_str_lt<|wpAny_truthy_bool ?_;have e:decide ((Words.kL a).cps.toList<(Words.kL b).cps.toList)=decide ((if a then(1:Int) else 0)<if b then 1 else 0):=by cases a<;>cases b<;>decide +kernel
 rw[e];exact h
theorem vM:∀{vs:W8},(∀v∈vs,TxtV v)->∃I,StrsAre vs I
 |[],_=>⟨[],.nil⟩
 |v::r,h=>by obtain⟨i,t,rfl⟩:=h v<|Ag ..;obtain⟨I,k⟩:=vM (vs:=r) λu J=>h u<|Ae _ J;exact⟨_,.cons _ t k⟩
theorem zJ(h:∀v∈vs,TxtV v)(h2:¬vs.length<2):keyKind' vs.toArray=pure oneType':=by
 obtain⟨I,k⟩:=vM h
 match vs,k,h2 with
 |[],_,h2=>exact absurd (Nat.zero_lt_succ 1) h2
 |[_],_,h2=>exact absurd (Br 1) h2
 |_::_::_,k,_=>exact keyKind_strs k
theorem w_sortedT(J:s.heap.IsList l vs.toArray)(hz:vs.length<=127)(I:∀v∈vs,TxtV v)
 (h:∀h' tk (xs:Xz) D c,s.heap.objs.size<=D->(∀b o,s.heap.get? b=some o->h'.get? b=some o)->h'.get? D=some (seqObj "list" (List.toArray (xs.map (·.2))) c)->xs.Perm (vs.zip vs)->(xs.Pairwise λx y=>nmT x<=nmT y)->Q (.ref D) { s with heap:=h',toks:=tk }):
 wpAny (model prog w) A (call (.builtin "sorted") [.ref l]) Q E s:=by
 exact jS J hz (λA E g _=>⟨⟨λx y U j=>aik.lt x y (I _ (mem_self_zip U).1)<|I _ (mem_self_zip j).1⟩,λp Q q=>by rw[zJ I p];exact Ap q⟩) h
end
end TS
namespace L2
open PySem PySem.Spec PyProof.Rows
def VO(X:Cx):Xp->Hp->VK->Prop:=λxs H Q=>∃(l:Addr) (b:Bool),xs=[.ref l]/\aY X.K H l [.str<|Words.kL b,.str<|Words.kL !b]/\∀D:Addr,H D=none->Q (.ref D) (upd H D<|.lst [.str<|Words.kL false,.str<|Words.kL true])
theorem xG:jg X (.builtin "sorted") (VO X):=by
 intro a2 s σ H xs us Q I r h;obtain⟨l,b,rfl,hl,q⟩:=h;obtain⟨u,rfl,ru⟩:=r.one;cases (show u=Value.ref l from ru);obtain⟨a0,rv,pl,hz⟩:=I.list hl;obtain⟨J,U,rfl⟩:∃J U,a0=[Value.str (Words.kL b) J,Value.str (Words.kL !b) U]:=by
  cases rv with
  |cons h1 r1=>
   cases r1 with
   |cons h2 r2=>
    cases r2;obtain⟨J,e1⟩:=h1;obtain⟨U,e2⟩:=h2;exact⟨J,U,by rw[e1,e2]⟩
 have mem:∀v∈[Value.str (Words.kL b) J,Value.str (Words.kL !b) U],TS.TxtV v:=λv p=>by
  rcases Am.mp p with rfl|p
  ·exact⟨b,J,rfl⟩
  ·rw[Aj.mp p];exact⟨!b,U,rfl⟩
 have n1:TS.nmT (Value.str (Words.kL b) J,Value.str (Words.kL b) J)=if b then 1 else 0:=TS.nm_txt rfl
 have n2:TS.nmT (Value.str (Words.kL !b) U,Value.str (Words.kL !b) U)=if !b then 1 else 0:=TS.nm_txt rfl
 refine jq I.tk (TS.w_sortedT pl.isList (by show 2<=127;decide) mem λh' tk g D c hD hk hg pm pw ht=>?_);have j:∀a∈g,∀c∈g,TS.nmT a<=TS.nmT c->TS.nmT c<=TS.nmT a->a=c:=λa t c C x y=>by
  have two:∀z∈g,z=(Value.str (Words.kL b) J,Value.str (Words.kL b) J)\/z=(Value.str (Words.kL !b) U,Value.str (Words.kL !b) U):=λz hz=>(Am.mp<|pm.mem_iff.mp hz).imp id Aj.mp;rcases two a t with rfl|rfl<;>rcases two c C with rfl|rfl
  ·rfl
  ·rw[n1,n2] at x y;cases b with|false=>exact absurd y (by decide)|true=>exact absurd x (by decide)
  ·rw[n1,n2] at x y;cases b with|false=>exact absurd x (by decide)|true=>exact absurd y (by decide)
  ·rfl
 obtain⟨ts,p,a1⟩:∃ts:W8,zn [V.str<|Words.kL false,.str<|Words.kL true] ts/\g.map (·.2)=ts:=by
  refine⟨_,?_,rfl⟩;cases b with
  |false=>
   have:g=[(Value.str (Words.kL false) J,Value.str (Words.kL false) J),(Value.str (Words.kL true) U,Value.str (Words.kL true) U)]:=Cm (le:=λx y=>TS.nmT x<=TS.nmT y) (λa c t C=>j a t c<|pm.mem_iff.mpr C) pw (List.pairwise_pair.mpr (by show TS.nmT (Value.str (Words.kL false) J,Value.str (Words.kL false) J)<=TS.nmT (Value.str (Words.kL !false) U,Value.str (Words.kL !false) U);rw[n1,n2];decide)) pm;rw[this];exact .cons ⟨J,rfl⟩<|.cons ⟨U,rfl⟩ .nil
  |true=>
   have T:g.Perm [(Value.str (Words.kL false) U,Value.str (Words.kL false) U),(Value.str (Words.kL true) J,Value.str (Words.kL true) J)]:=pm.trans<|.swap ..;have:g=[(Value.str (Words.kL false) U,Value.str (Words.kL false) U),(Value.str (Words.kL true) J,Value.str (Words.kL true) J)]:=Cm (le:=λx y=>TS.nmT x<=TS.nmT y) (λa c t C=>j a t c<|T.mem_iff.mpr C) pw (List.pairwise_pair.mpr (by show TS.nmT (Value.str (Words.kL !true) U,Value.str (Words.kL !true) U)<=TS.nmT (Value.str (Words.kL true) J,Value.str (Words.kL true) J);rw[n1,n2];decide)) T;rw[this];exact .cons ⟨U,rfl⟩<|.cons ⟨J,rfl⟩ .nil
 refine⟨.ref D,_,I.laid (t':=tk) (o:=.lst [.str<|Words.kL false,.str<|Words.kL true]) hk hD ⟨by show 2<=sizeLine;decide,g.map (·.2),c,by rw[a1];exact p,hg⟩,rfl,q D<|I.hok.fresh hD⟩
end L2
namespace L3
open PySem L2
def Kk(xs:List Y)(L:ql)(Q:YK):Prop:=match xs with
 |[.ref a]=>cz L a λys=>∃b:Bool,ys=[.str<|Words.kL b,.str<|Words.kL !b]/\∀D:Addr,L D=none->Q (.ref D) (qe L D<|.lst [.str<|Words.kL false,.str<|Words.kL true])
 |_=>False
theorem VP :jg X (.builtin "sorted") (f_ X.g3 Kk):=ER xG λT H Q ys L Q3 U I z k=>by
 unfold Kk at z;split at z
 ·rename_i a;obtain⟨zs,e,b,rfl,z⟩:=xc z;obtain⟨vs,g,r⟩:=I a _ e;obtain⟨u,rfl,j⟩:=U.inv1;cases (show u=V.ref a from j);obtain⟨l,o,rfl,p,t⟩:=xx.inv2 r;cases (show l=V.str _ from p);cases (show o=V.str _ from t);have C:xx X.g3 H [Y.str<|Words.kL false,.str<|Words.kL true] [V.str<|Words.kL false,.str<|Words.kL true]:=⟨_,_,rfl,rfl,_,_,rfl,rfl,rfl⟩;exact⟨a,b,rfl,ET g,λD J=>k _ _ _ _ (EE J) (I.newL J C) (by rfl)<|z D<|I.none J⟩
 ·exact z.elim
open PySem L2 Words
noncomputable def xZ(I:zd):RD "_law_here" fE 1 ["_law_knots","_law_rule","_law_kind","_law_size","_law_told","_law_r"] (λV=>Fy V I):=⟨_,λV B c _ _ _ _ _ _ _ U hN J=>(qa (zm (wu<|ao (N_ J (J_ 1)<|qv 2)<|ao (N_ J (L_ B.ba<|qv 1)<|qv 3)<|bM<|aI<|js<|C_ c U<|jo<|J_ 1) (qd<|qr bw) qz)<|qa (S_ 5 hN<|J_ 1)<|qa (zm (wu<|ao (aI<|uQ qf<|kC arm (qv 5)<|pL nv<|L_ B.ba<|qv 0)<|ao (aC<|I_ (qv 0)<|qv 5)<|bM<|N_ J (I_ (I_ (qv 0)<|qv 5) qf)<|qv 2) (qd<|qr bw) qz)<|qa (za<|z7 (qv 4)<|jo<|qv 5)<|qd<|qr bw)⟩
noncomputable def VQ(I:zd):vn:=(xZ I).1
inductive k8(ys:List Y)(L:ql)(Q:YK):Prop
 |ei:∀a t,∀wd:List (Xw),∀T:Xa,∀r i j,∀A:Ru,(ys=[.ref a,zf<|.ei r A,.str "either",.int 3,.ref t])->(L a=some (.lst<|aM wd))->(wd[r]?=some (some<|.nd true i j))->(L t=some (.lst<|nY T))->(T.length<=1000)->(Q (.bl true)<|qe L t<|.lst<|nY<|T++[r])->k8 ys L Q
 |bo:∀a t,∀wd:List (Xw),∀T:Xa,∀r i j,∀A B:Ru,(ys=[.ref a,zf<|.bo r A B,.str "both",.int 4,.ref t])->(L a=some (.lst<|aM wd))->(wd[r]?=some (some<|.nd false i j))->(L t=some (.lst<|nY T))->(T.length<=1000)->(Q (.bl true)<|qe L t<|.lst<|nY<|T++[r])->k8 ys L Q
 |no:∀x t,∀R:Ru,∀e:Bool,∀n:Y,(ys=[x,zf R,.str<|kN e,n,t])->(match R with|.ei ..=>e=false|.bo ..=>e=true|_=>True)->(Q (.bl false) L)->k8 ys L Q
theorem VR:∀ys L Q,k8 ys L Q->jj (VQ bG) 6 ys L Q:=by
 have big:=a_;rintro ys L Q (⟨a,t,U,T,r,i,j,A,rfl,I,J,g,l,q⟩|⟨a,t,U,T,r,i,j,A,B,rfl,I,J,g,l,q⟩|⟨x,t,R,e,n,rfl,h,q⟩)
 ·have o:=qx J;refine⟨(r:Int),rfl,qp I ?_⟩;have e:decide (((r:Nat):Int)<(((aM U).length:Nat):Int))=true:=by rw[Ah];exact Ax (Ec.mpr o)
  refine wn (show(!decide (((r:Nat):Int)<(((aM U).length:Nat):Int)))=false by rw[e];rfl) ?_;refine qc I (qj (v9 J) (qc I (qj (v9 J) (qp g (qp g ⟨big _ (by rw[jd];exact AL l (by decide)),?_⟩)))));rw[show nY (T++[r])=nY T++[.int ((r:Nat):Int)] from AG ..] at q;exact jv q
 ·have o:=qx J;refine⟨(r:Int),rfl,qp I ?_⟩;have e:decide (((r:Nat):Int)<(((aM U).length:Nat):Int))=true:=by rw[Ah];exact Ax (Ec.mpr o)
  refine wn (show(!decide (((r:Nat):Int)<(((aM U).length:Nat):Int)))=false by rw[e];rfl) ?_;refine qc I (qj (v9 J) (qc I (qj (v9 J) (qp g (qp g ⟨big _ (by rw[jd];exact AL l (by decide)),?_⟩)))));rw[show nY (T++[r])=nY T++[.int ((r:Nat):Int)] from AG ..] at q;exact jv q
 ·cases R with|link=>cases e<;>exact jv q|ei=>cases h;exact jv q|bo=>cases h;exact jv q|cu=>cases e<;>exact jv q
def VS:vn:=(ja (di (yB<|gS false<|qk 0) (ah<|yC .non) bP)
 (ja (l8 (II<|qk 1) (qo 3)<|di (yB<|wy (vE true) (qk 3)<|qk 0) (ah<|yC .non) bP)
 (GD 3<|ah<|wy Jf (ya 1 (ag<|qk 0) (qo 4) (yB<|wy (vE true) (qk 4)<|qk 1)<|qk 4)<|qk 2)))
noncomputable def vH(I:zd):RD "_law_link_ends" aT 1 ["_law_knots","_law_rule","_law_told","_law_p","_law_q"] (λV=>Fy V I):=⟨_,λV B c _ _ _ _ _ _ _ U hN J=>(qa (zm (wu<|ao (N_ J (L_ B.ba<|qv 1) qf)<|ao (aI<|js<|C_ c U<|jo<|J_ 1)<|bM<|aI<|js<|C_ c U<|jo<|J_ 1) (qd<|qr ky) qz)<|qa (wR (i:=3) (j:=4) rfl hN rfl rfl (by decide) rfl rfl (vv (J_ 1)<|J_ 1) rfl)<|qa (zm (aI<|uQ qf<|kC arm (qv 3)<|kC nv (qv 4)<|pL nv<|L_ B.ba<|qv 0) (qd<|qr ky) qz)<|qa (zm (wu<|ao (aC<|I_ (qv 0)<|qv 3)<|bM<|aC<|I_ (qv 0)<|qv 4) (qd<|qr ky) qz)<|qa (zm (N_ J (aB VP rfl B.bj cY<|jo<|zj<|vv (I_ (I_ (qv 0)<|qv 3) qf)<|I_ (I_ (qv 0)<|qv 4) qf)<|zj<|vv j5 j5) (qd<|qr ky) qz)<|qa (zm (N_ J (I_ (I_ (qv 0)<|qv 3) qf)<|I_ (I_ (qv 0)<|qv 4) qf) (qd<|qr ky) qz)<|qa (za<|z7 (qv 2)<|jo<|qv 3)<|qa (za<|z7 (qv 2)<|jo<|qv 4)<|qd<|qr<|zj<|vv (qv 3)<|qv 4)⟩
noncomputable def VT(I:zd):vn:=(vH I).1
noncomputable def tw(J:zd)(U:zd)(g:zd)(j:zd):RR "_law_ends" f6 3 ["_law_knots","_law_rule","_law_told"] ["_law_knots","_law_rule","_law_told","_law_one","_law_two"] g (λV=>JI V J/\JK V U/\JJ V j):=⟨_,λV B c _ _ I _ _ _ _ _ _ l hN o=>(qa (zm (wu<|ao (aI<|js<|vt .tuple rfl B.bb rfl B.bi bR<|qv 1)<|ao (x5 nv (L_ B.ba<|qv 1) qf<|x6 _)<|bM<|aI<|js<|vt .str rfl B.bb rfl B.b_str vO<|J_ 1) (qd<|qr ky) qz)<|qa (zm (E_ o (J_ 1) j5) (qd<|qr<|C_ c.1 l<|aW (qv 0) (qv 1)<|qv 2) qz)<|qa (zm (js<|C_ c.2.1 l<|v5 (qv 0)<|v5 (qv 1)<|aW j5 qf<|qv 2) (qa (S_ 3 hN<|C_ I l<|aW (qv 0) (J_ 1)<|qv 2)<|qd<|qr<|C_ c.2.2 l<|aW (qv 3) (xz (iC _ _ _) (I_ (qv 0)<|J_ 1) (xr qf) aX)<|zj<|jo<|J_ 1) qz)<|qa (zm (js<|C_ c.2.1 l<|v5 (qv 0)<|v5 (qv 1)<|aW j5 qf<|qv 2) (qa (S_ 3 hN<|C_ I l<|aW (qv 0) (J_ 1)<|qv 2)<|qa (S_ 4 hN<|C_ I l<|aW (qv 0) (J_ 1)<|qv 2)<|qa (S_ 3 hN<|C_ c.2.2 l<|aW (qv 3) (xz (iC _ _ _) (I_ (qv 0)<|J_ 1) (xr qf)<|xr qf)<|zj<|jo<|J_ 1)<|qd<|S_ 4 hN<|C_ c.2.2 l<|aW (qv 4) (xz (iC _ _ _) (I_ (qv 0)<|J_ 1) (xr qf) aX)<|zj xw)<|qd<|zm (wu<|dQ (E_ o (J_ 1) j5)<|ax<|E_ o (L_ B.ba<|qv 1) qf) (qa (S_ 3 hN<|C_ c.2.2 l<|aW (C_ I l<|aW (qv 0) (J_ 1)<|qv 2) (xz (iC _ _ _) (qv 1) (xr qf)<|xr qf)<|zj xw)<|qd<|S_ 4 hN<|C_ c.2.2 l<|aW (C_ I l<|aW (qv 0) (J_ 1)<|qv 2) (xz (iC _ _ _) (qv 1) (xr qf)<|xr qf)<|zj xw)<|qd<|qr ky)<|qa (zm (wu<|ao (aC<|qv 3)<|bM<|aC<|qv 4) (qd<|qr ky) qz)<|qd<|qr<|qm (Jg _ _ _) (qv 3)<|qv 4)⟩
noncomputable def VU(I:zd)(J:zd)(U:zd)(g:zd):vn:=(tw I J U g).1
inductive iF(ys:List Y)(L:ql)(Q:YK):Prop
 |mk:∀a m,∀E P M:Xa,∀f:Nat->Bool,(ys=[.ref a,.tup<|nY P,.ref m])->(L a=some (.lst<|nY E))->(L m=some (.lst<|nY M))->((∀x∈P,x∈E))->((∀x,f x=decide (x∈P)))->(E.length<=1000)->(M.length<=1000)->(∀p L',qh L L'->L p=none->L' p=some (.lst<|nY<|E.filter (λx=>!f x)++M)->Q (.ref p) L')->iF ys L Q
theorem VW:∀ys L Q,iF ys L Q->jj VS 4 ys L Q:=by
 rintro ys L Q ⟨a,m,E,P,M,f,rfl,l,r,t,C,zE,zM,q⟩;have big:=a_;refine aZ ⟨λi I J=>J=L/\∃c,I=[some<|.ref a,some<|.tup<|nY P,some<|.ref m,c],⟨rfl,_,rfl⟩,λ_ _ _ _=>True.intro,?_,?_⟩
 ·rintro i y I J U ⟨rfl,c,rfl⟩;obtain⟨x,ex,rfl⟩:=bO U;refine qc l ⟨rfl,yr _,?_⟩;rw[yJ];exact wn (by rw[Ax<|t x<|AF ex];rfl) ⟨_,EC _,rfl,_,rfl⟩
 ·rintro I J ⟨rfl,c,rfl⟩;refine w6 l λkeep T=>eY (λi g=>g=nY ((E.take i).filter λx=>!f x)) (by rw[jd];exact big _ (by lia)) (T _ rfl) rfl ?_ ?_
  ·rintro i y g U rfl;obtain⟨x,ex,rfl⟩:=bO U;refine⟨rfl,yr _,?_⟩;rw[yJ,<-C];have o:E.take (i+1)=E.take i++[x]:=by rw[Bk,ex];rfl
   cases e:f x with
   |true=>
    refine wn rfl ⟨_,EC _,rfl,?_⟩;rw[o,Bp,BH,Ar (by simp[e])];simp
   |false=>
    refine fT rfl ⟨_,EC _,rfl,?_⟩;rw[o,Bp,BH,Aw (by simp[e]),dR];rfl
  rintro g rfl p5 h5;rw[jd,Bi];have fl:=Bd (λx=>!f x) E;refine zG h5 λL5 j g5=>?_;refine qc g5 (qc (j _ _ r) ⟨rfl,rfl,by rw[jd,jd];exact BJ<|big _ (by lia),λp6 p=>?_⟩);rw[<-dR];exact jv<|q p6 _ (j.trans<|By p) (j.none p) q9
def Kpt(t:Addr)(L L':ql):Prop:=∀b u,b≠t->L b=some u->L' b=some u
theorem Kpt.trans{pj:ql}(h:Kpt t L L')(k:Kpt t L' pj):Kpt t L pj:=λb u n e=>k b u n<|h b u n e
theorem Kpt.put{o:LO}:Kpt t L (qe L t o):=λ_ _ n e=>(qb n).trans e
theorem qh.kpt(s:qh L L'):Kpt t L L':=λb u _ e=>s b u e
theorem Kpt.none{p:Addr}{o:LO}(h:Kpt t L L')(I:L' t=some o)(hp:L' p=none):L p=none:=by cases e:L p with|none=>rfl|some u=>rw[h p u (λz=>by rw[z,I] at hp;cases hp) e] at hp;cases hp
inductive ft(ys:List Y)(L:ql)(Q:YK):Prop
 |mk:∀a t,∀wd:List (Xw),∀T:Xa,∀p q:Nat,∀b:Bool,∀n:Str,(ys=[.ref a,zf<|.link p q,.ref t])->(L a=some (.lst<|aM wd))->(L t=some (.lst<|nY T))->(a≠t)->(p<q)->(wd[p]?=some (some<|.lf b n))->(wd[q]?=some (some<|.lf (!b) n))->(T.length<=1000)->(∀r L',Kpt t L L'->L r=none->L' r=some (.lst<|nY [p,q])->L' t=some (.lst<|nY<|T++[p,q])->Q (.ref r) L')->ft ys L Q
theorem zI:∀ys L Q,ft ys L Q->jj (VT bG) 5 ys L Q:=by
 rintro ys L Q ⟨a,t,C,T,p,q,b,n,rfl,I,J,nat,lt,j,g,zT,k⟩;have big:=a_;have lq:=qx g;refine⟨(p:Int),rfl,⟨(q:Int),rfl,?_⟩⟩;refine fT (b:=decide<|(p:Int)<(q:Int)) (Ax<|Ec.mpr lt)<|qp I ?_;have e:decide (((q:Nat):Int)<(((aM C).length:Nat):Int))=true:=by rw[Ah];exact Ax<|Ec.mpr lq
 refine wn (show(!decide (((q:Nat):Int)<(((aM C).length:Nat):Int)))=false by rw[e];rfl) ?_;refine qc I<|qj (v9 j)<|qc I<|qj (v9 g) ?_;refine qc I<|qj (v9 j)<|qc I<|qj (v9 g) ?_;intro p1 h1;refine qp q9 ⟨b,rfl,λD hD p2 h2=>?_⟩;have U:=((By (o:=.lst [.str<|kL b,.str<|kL !b]) h1).trans<|By (o:=.lst [.str<|kL false,.str<|kL true]) hD).trans<|By (o:=.lst [.str "plain",.str "turned"]) h2;refine cZ (n:=0) (m:=0) (by decide) (By h2 _ _ q9) q9 (.cons ⟨rfl,rfl⟩<|.cons ⟨rfl,rfl⟩ .nil) (.cons ⟨rfl,rfl⟩<|.cons ⟨rfl,rfl⟩ .nil) ?_;generalize qe _ p2 _=L2 at U ⊢;refine wn (by decide) ?_;have I:=U _ _ I;have J:=U _ _ J;refine qc I (qj (v9 j) (qc I (qj (v9 g) (wn (b:=nb true<|decide<|n=n) (by rw[Ax rfl];rfl) ?_))));refine qp J (qp J ⟨big _ (by rw[jd];exact AL zT (by decide)),?_⟩);refine qp q9 (qp q9 ⟨big _ (by rw[Aa,jd];exact AL (Nat.add_le_add_right zT 1) (by decide)),?_⟩);rw[zc];intro r hr;have n0:=j8 hr;have l:t≠r:=xu J n0;refine jv<|k r _ ((U.kpt.trans .put).trans (By hr).kpt) (U.none n0) q9 ?_;rw[qb l,q9,dR,AA];rfl
inductive bA(m:Nat)(ys:List Y)(L:ql)(Q:YK):Prop
 |mk:∀a t,∀wd:List (Xw),∀R:Ru,∀E T:Xa,(ys=[.ref a,zf R,.ref t])->(L a=some (.lst<|aM wd))->(L t=some (.lst<|nY T))->(a≠t)->(Gw wd R E)->(x9 R<=m)->(T.length+(qg R).length<=1000)->(∀p L',Kpt t L L'->L p=none->L' p=some (.lst<|nY E)->L' t=some (.lst<|nY<|T++qg R)->Q (.ref p) L')->bA m ys L Q
theorem VX:∀ys L Q,¬bA 0 ys L Q:=by rintro ys L Q ⟨a,t,I,R,E,T,_,_,_,_,_,h,_⟩;have:=mf R;lia
theorem Gw.len{A:Ru}{E:Xa}(h:Gw wd A E):E.length<=(qg A).length:=by
 induction h with
 |link=>exact An _
 |@ei r i j A E _ _ _ _ _ U=>
  have:=Bd (λx=>!decide (x=i\/x=j)) E;rw[Aa];show _<=(qg A).length+1;exact Nat.add_le_add (AL this U)<|An _
 |@bo r i j A B E F _ _ _ _ _ I J=>
  have g:=Bd (λx=>!decide (x=i)) E;have l:=Bd (λx=>!decide (x=j)) F;rw[Aa,Aa,Bc,qg,Az,Aa];lia
 |@cu p q A B E F _ _ _ _ I J=>
  have g:=Bd (λx=>!decide (x=p)) E;have l:=Bd (λx=>!decide (x=q)) F;rw[Aa,qg,Aa];lia
theorem VY(m:Nat):∀ys L Q,bA (m+1) ys L Q->jj (VU ft k8 (bA m) iF) 5 ys L Q:=by
 rintro ys L Q ⟨a,t,wd,R,E,T,rfl,C,ht,nat,g,hd,zT,k⟩;have big:∀m:Nat,m<=20000->m<=sizeLine:=λm h=>BJ<|Bw h (by decide);cases g with
 |@link p q b n lt h1 h2=>
  have zT:T.length+2<=1000:=zT;exact⟨a,t,wd,T,p,q,b,n,rfl,C,ht,nat,lt,h1,h2,by lia,λr L' kp nr hr a2=>jv<|k r L' kp nr hr a2⟩
 |@ei r i j A E h1 g h3 h4 _=>
  have zT:T.length+((qg A).length+1)<=1000:=zT;have hd:x9 A+1<=m+1:=hd;have gl:=g.len;walk_at "w";refine k8.ei a t wd T r i j A rfl C h1 ht (by lia) ?_;refine⟨a,t,wd,A,E,T++[r],rfl,(qb nat).trans C,q9,nat,g,by lia,by rw[Aa,Bc];lia,λp1 L2 U n1 e1 t2=>?_⟩;have U:=Kpt.put.trans U;have n1:=j8 n1;refine qc (U _ _ nat C)<|qj (v9 h1) ⟨show ¬(HT.sIx 3 0 (some 1)=0/\HT.sIx 3 3 none=3) by decide,λm1 I=>?_⟩;have s3:=By (o:=.lst [.int (r:Int)]) I;refine⟨p1,m1,E,[i,j],[r],λx=>decide<|x=i\/x=j,rfl,s3 _ _ e1,q9,λx hx=>?_,λx=>by simp,by lia,by show 1<=1000;decide,λp4 L4 l n4 e4=>?_⟩
  ·rcases Am.mp hx with rfl|hx
   ·exact h3
   ·cases Aj.mp hx;exact h4
  have l:=s3.trans l;have n5:L2 p4=none:=s3.none n4;refine jv<|k p4 L4 (U.trans l.kpt) (U.none t2 n5) e4 ?_;rw[l _ _ t2,AA];rfl
 |@bo r i j A B E F h1 g g' h4 h5=>
  have zT:T.length+((qg A++qg B).length+1)<=1000:=zT;rw[Aa] at zT;have hd:max (x9 A) (x9 B)+1<=m+1:=hd;have gl:=g.len;have a3:=g'.len;walk_at "w";refine k8.no _ _ (.bo r A B) true _ rfl rfl ?_;walk_at "w";refine k8.bo a t wd T r i j A B rfl C h1 ht (by lia) ?_;refine⟨a,t,wd,A,E,T++[r],rfl,(qb nat).trans C,q9,nat,g,by lia,by rw[Aa,Bc];lia,λp1 L2 U n1 e1 t2=>?_⟩;have U:=Kpt.put.trans U;have n1:=j8 n1;refine⟨a,t,wd,B,F,T++[r]++qg A,rfl,U _ _ nat C,t2,nat,g',by lia,by rw[Aa,Aa,Bc];lia,λp2 L3 k3 n2 e2 t3=>?_⟩;have a4:p1≠t:=AQ<|xu ht n1;have ac:p2≠t:=AQ<|xu t2 n2;have e1:=k3 _ _ a4 e1;have k3:=U.trans k3;refine qc (k3 _ _ nat C)<|qj (v9 h1) ⟨show ¬(HT.sIx 3 0 (some 1)=0/\HT.sIx 3 3 (some 2)=3) by decide,λm1 I=>?_⟩;have l:=By (o:=.lst [.int (r:Int)]) I;refine⟨p1,m1,E,[i],[r],λx=>decide<|x=i,rfl,l _ _ e1,q9,λx hx=>by rw[Aj.mp hx];exact h4,λx=>by simp,by lia,by show 1<=1000;decide,λp4 L4 a5 n4 e4=>?_⟩;have l:=l.trans a5;refine qc (l _ _<|k3 _ _ nat C)<|qj (v9 h1) ⟨show ¬(HT.sIx 3 0 (some 2)=0/\HT.sIx 3 3 none=3) by decide,λm2 a0=>?_⟩;have J:=By (o:=.lst []) a0;refine⟨p2,m2,F,[j],[],λx=>decide<|x=j,rfl,J _ _<|l _ _ e2,q9,λx hx=>by rw[Aj.mp hx];exact h5,λx=>by simp,by lia,A2 _,λp5 L5 a1 n5 e5=>?_⟩;have J:=J.trans a1;rw[Av] at e5;have f1:=Bd (λx=>!decide (x=i)) E;have f2:=Bd (λx=>!decide (x=j)) F;refine qc (J _ _ e4) (qc e5 ⟨rfl,rfl,by rw[jd,jd,Aa,Bc];exact big _ (by lia),λp6 h6=>?_⟩);rw[<-dR];have s6:=(l.trans J).trans<|By (o:=.lst<|nY<|E.filter (λx=>!decide (x=i))++[r]++F.filter λx=>!decide (x=j)) h6;refine jv<|k p6 _ (k3.trans s6.kpt) (k3.none t3<|(l.trans J).none h6) q9 ?_;rw[s6 _ _ t3,AA,AA];rfl
 |@cu p q A B E F g g' h4 h5=>
  have zT:T.length+(qg A++qg B).length<=1000:=zT;rw[Aa] at zT;have hd:max (x9 A) (x9 B)+1<=m+1:=hd;have gl:=g.len;have a3:=g'.len;walk_at "w";refine k8.no _ _ (.cu p q A B) true _ rfl True.intro ?_;walk_at "w";refine k8.no _ _ (.cu p q A B) false _ rfl True.intro ?_;refine⟨a,t,wd,A,E,T,rfl,C,ht,nat,g,by lia,by lia,λp1 L2 U n1 e1 t2=>⟨show ¬(HT.sIx 5 0 (some 1)=0/\HT.sIx 5 5 (some 2)=5) by decide,λm1 I=>?_⟩⟩;have s3:=By (o:=.lst []) I;refine⟨p1,m1,E,[p],[],λx=>decide<|x=p,rfl,s3 _ _ e1,q9,λx hx=>by rw[Aj.mp hx];exact h4,λx=>by simp,by lia,A2 _,λp3 L3 a7 n3 e3=>?_⟩;rw[Av] at e3;have s3:=s3.trans a7;have n3:L2 p3=none:=(By I).none n3;have k3:=U.trans s3.kpt;have ab:p3≠t:=AQ<|xu t2 n3;refine⟨a,t,wd,B,F,T++qg A,rfl,k3 _ _ nat C,s3 _ _ t2,nat,g',by lia,by rw[Aa];lia,λp4 L4 k4 n4 e4 t4=>⟨show ¬(HT.sIx 5 0 (some 2)=0/\HT.sIx 5 5 (some 3)=5) by decide,λm2 a0=>?_⟩⟩;have e3:=k4 _ _ ab e3;have k4:=k3.trans k4;have J:=By (o:=.lst []) a0;refine⟨p4,m2,F,[q],[],λx=>decide<|x=q,rfl,J _ _ e4,q9,λx hx=>by rw[Aj.mp hx];exact h5,λx=>by simp,by lia,A2 _,λp5 L5 a1 n5 e5=>?_⟩;rw[Av] at e5;have J:=J.trans a1;have f1:=Bd (λx=>!decide (x=p)) E;have f2:=Bd (λx=>!decide (x=q)) F;refine qc (J _ _ e3) (qc e5 ⟨rfl,rfl,by rw[jd,jd];exact big _ (by lia),λp6 h6=>?_⟩);rw[<-dR];have s6:=J.trans<|By (o:=.lst<|nY<|E.filter (λx=>!decide (x=p))++F.filter λx=>!decide (x=q)) h6;refine jv<|k p6 _ (k4.trans s6.kpt) (k4.none t4<|J.none h6) q9 ?_;rw[s6 _ _ t4,AA];rfl
theorem VZ:∀ys L Q,k8 ys L Q->ys.length=5:=by intro ys L Q h;cases h with|ei _ _ _ _ _ _ _ _ e=>rw[e];rfl|bo _ _ _ _ _ _ _ _ _ e=>rw[e];rfl|no _ _ _ _ _ e=>rw[e];rfl
section
variable {ks:Xv}{R B:Ru}{E:Xa}{f:Xh}
theorem SR.gw(rn:J1 f (ks.map some) wd)(h:SR ks R E):∃E',Gw wd (lQ f R) E'/\∀x∈E,f x∈E':=by
 have mr:∀{p:Nat},p<ks.length->p∈List.range (ks.map some).length:=λh=>AZ.mpr (by rw[Ah];exact h);have g:∀{p:Nat} {k:Kn},ks[p]?=some k->wd[f p]?=some (l9 f<|some k):=λ{p k} e=>rn.gap.at_ p (mr<|qx e) _ (by rw[Au,e];rfl);have ne:∀{p q:Nat},p<ks.length->q<ks.length->p≠q->f p≠f q:=λhp hq n e=>n<|rn.gap.inj _ (mr hp) _ (mr hq) e
 induction h with
 |@link p q t n E lt h2 J U _=>
  have n:=ne (qx h2) (qx J)<|A6 lt;have h2:=g h2;have J:=g J;refine⟨[min (f p)<|f q,max (f p)<|f q],?_,λx I=>?_⟩
  ·show Gw wd (.link (min (f p)<|f q)<|max (f p)<|f q) _;by_cases c:f p<=f q
   ·rw[Cy c,Df c];exact .link (Nat.lt_of_le_of_ne c n) h2 J
   ·rw[Nat.min_eq_right (by lia),Dk (by lia)];exact .link (by lia) J (by rw[Bool.not_not];exact h2)
  ·rcases (U x).mp I with rfl|rfl<;>simp<;>lia
 |@ei r i j A EA E h1 l J U h5 h6 _ ih=>
  obtain⟨F,gF,m⟩:=ih;have lt:∀x∈EA,x<ks.length:=λx I=>l.lt x<|l.sub x I;refine⟨_,.ei (g h1) gF (m i J) (m j U)<|ne (lt i J) (lt j U) h5,λx I=>?_⟩;rcases (h6 x).mp I with⟨a,b,c⟩|rfl
  ·exact Al _<|AN.mpr ⟨m x a,by simp[ne (lt x a) (lt i J) b,ne (lt x a) (lt j U) c]⟩
  ·exact Ac _<|Aj.mpr rfl
 |@bo r i j A B EA EB E h1 l hB U h5 h6 _ o C=>
  obtain⟨F,gF,m⟩:=o;obtain⟨F',T,m'⟩:=C;have lt:∀x∈EA,x<ks.length:=λx I=>l.lt x<|l.sub x I;have lt':∀x∈EB,x<ks.length:=λx I=>hB.lt x<|hB.sub x I;refine⟨_,.bo (g h1) gF T (m i U)<|m' j h5,λx I=>?_⟩;rcases (h6 x).mp I with⟨a,b⟩|⟨a,b⟩|rfl
  ·exact Al _<|Al _<|AN.mpr ⟨m x a,by simp[ne (lt x a) (lt i U) b]⟩
  ·exact Ac _<|AN.mpr ⟨m' x a,by simp[ne (lt' x a) (lt' j h5) b]⟩
  ·exact Al _<|Ac _<|Aj.mpr rfl
 |@cu p q A B EA EB E w l hB J U _ _ h7 _ o C=>
  obtain⟨F,gF,m⟩:=o;obtain⟨F',T,m'⟩:=C;have lt:∀x∈EA,x<ks.length:=λx I=>l.lt x<|l.sub x I;have lt':∀x∈EB,x<ks.length:=λx I=>hB.lt x<|hB.sub x I;refine⟨_,.cu gF T (m p J)<|m' q U,λx I=>?_⟩;rcases (h7 x).mp I with⟨a,b⟩|⟨a,b⟩
  ·exact Al _<|AN.mpr ⟨m x a,by simp[ne (lt x a) (lt p J) b]⟩
  ·exact Ac _<|AN.mpr ⟨m' x a,by simp[ne (lt' x a) (lt' q U) b]⟩
theorem oK(I:(qg B).Nodup)(tB:∀x,x∈qg B↔∃k,wd[x]?=some (some k)):(qg B).Perm (zr wd):=by
 refine(A9 I<|(ig _ _ _).imp λh=>A6 h).mpr λx=>(tB x).trans ⟨λ ψ=>(by obtain⟨k,h⟩:=ψ;exact sE h rfl<|qx h),λh=>?_⟩;obtain⟨_,k,J,U⟩:=dA h;cases k with
 |none=>cases U
 |some k=>exact⟨k,J⟩
theorem uc{F:Nat->Xa}{x:Nat}:∀{l:Xa},(l.flatMap F).Nodup->∀{a b:Nat},a∈l->b∈l->x∈F a->x∈F b->a=b
 |c::l,nd,a,b,J,I,U,g=>by
  rw[AR] at nd;obtain⟨_,p,o⟩:=AE.mp nd;rcases Am.mp J with e|J
  ·rcases Am.mp I with j|I
   ·rw[e,j]
   ·exact(o x (e▸U) x (Ay.mpr ⟨b,I,g⟩) rfl).elim
  ·rcases Am.mp I with j|I
   ·exact(o x (j▸g) x (Ay.mpr ⟨a,J,U⟩) rfl).elim
   ·exact uc p J I U g
theorem Gw.grw(g:Gw wd B E)(nB:(qg B).Nodup)(tB:∀x,x∈qg B↔∃k,wd[x]?=some (some k))(zB:(qg B).length<=120)(pl:lk.Perm<|ze B)(a0:lk.Pairwise pI)(U:ct.Perm<|zb B):GrW wd lk ct:=by
 obtain⟨_,q1,q2,q3⟩:=g.inn nB;obtain⟨n1,n2,n3,_,_⟩:=g.nds nB;obtain⟨v1,v2,v3⟩:=g.lv;have pr:∀{p:Nat} {k:Kn},wd[p]?=some (some k)->prA wd p=jp (some k):=λh=>by unfold prA;rw[h];rfl
 have I:=gE pl;have J:z_ wd lk:=by
  refine⟨λc o=>v2 c<|pl.mem_iff.mp o,by rw[I.nodup_iff,v1];exact nB.filter _,λp=>?_,a0,?_⟩
  ·rw[I.mem_iff,v1,AN,yq];exact⟨λh=>h.2,λ ψ=>(by obtain⟨t,n,h⟩:=ψ;exact ⟨(tB p).mpr ⟨_,h⟩,t,n,h⟩)⟩
  ·have e:=eV lk;have:=I.length_eq;have l:=Bd (n_ wd)<|qg B;rw[v1] at this;lia
 have kc:(jb false wd).length=(qg B).countP (At wd false):=by rw[(oK nB tB).countP_eq,zr,kY,Dy,jb,kY,<-Be];refine BW λx _=>?_;unfold At;cases wd[x]? with|none=>rfl|some k=>cases k<;>simp[bY,eL]
 have C:∀{x:Nat},dE wd x=true->x∈qg B:=λh=>(tB _).mpr (by
  obtain⟨_,k,ek,kb⟩:=dA<|rG.mp h;cases k with
  |none=>cases kb
  |some k=>exact⟨k,ek⟩)
 refine⟨⟨⟨λp e i j h=>?_,λp q k l x h1 h2 x1 x2=>?_⟩,(gE U).nodup_iff.mpr n2,λx hx hp=>?_,λd hd=>?_⟩,J,λp e i j h=>?_,?_,λT rf sy tr hj hf a b ta tb=>?_⟩
 ·have:=(List.pairwise_flatMap.mp n1).1 p<|(tB p).mpr ⟨_,h⟩;rw[rc h] at this;exactλe=>(AC.mp this).1 (by rw[e];exact Aj.mpr rfl)
 ·exact uc n1 ((tB p).mpr ⟨_,h1⟩) ((tB q).mpr ⟨_,h2⟩) (by rw[pr h1];exact x1) (by rw[pr h2];exact x2)
 ·obtain⟨p,k,e,a1⟩:=qG hp;exact n3 x (Ay.mpr ⟨p,(tB p).mpr ⟨_,e⟩,by rw[pr e];exact a1⟩)<|(gE U).mem_iff.mp hx
 ·obtain⟨a,b⟩:=q3 d<|U.mem_iff.mp hd;exact⟨(tB _).mp a,(tB _).mp b⟩
 ·obtain⟨a,b⟩:=q1 p ((tB p).mpr ⟨_,h⟩) e i j h;exact⟨(tB _).mp a,(tB _).mp b⟩
 ·have e2:=pS (ks:=wd) (pl:=jb false wd) λp hp=>by obtain⟨i,j,h⟩:=Vf hp;exact⟨false,i,j,h⟩
  have s:=qA J;have l1:=pl.length_eq;have l2:=U.length_eq;unfold xi;rw[Aa,Aa,e2];lia
 ·refine g.con (R:=T) ⟨rf,λ{a b}=>sy a b,λ{a b c}=>tr a b c⟩ (λc o=>hj c<|Al _<|Al _<|pl.mem_iff.mpr o) (λc o=>hj c<|Al _<|Ac _<|U.mem_iff.mpr o) (λr _ e i j h=>?_) a (C ta) b<|C tb;cases e with
  |true=>exact⟨λk=>.inl<|hf r (yM h) true i j h k,nofun⟩
  |false=>
   obtain⟨m1,m2⟩:=Ve h<|yM h;have k1:=hj _<|Ac _ m1;exact⟨λ_=>.inl k1,λ_=>⟨k1,hj _<|Ac _ m2⟩⟩
theorem Gw.wb(g:Gw wd B E)(I:(qg B).Nodup)(r:(qg B).length<=120)(t:wd.length<=1000):x9 B<=120/\jB B<=127/\(ze B).Nodup/\(zb B).Nodup/\(∀p∈ze B,p.2<1000000)/\∀p∈zb B,p.2<1000000:=by
 have rd:=w4 B;have C:=cJ B;obtain⟨q0,_,U,j⟩:=g.inn I;have lt:∀x∈qg B,x<1000000:=λx l=>by obtain⟨k,o⟩:=q0 x l;have:=qx o;lia
 exact⟨by lia,by lia,bU (by rw[g.lv.1];exact I.filter _),bU (g.nds I).2.1,λp J=>lt _ (U p J).2,λp J=>lt _ (j p J).2⟩
end
theorem rg{L:ql}{n:Nat}:∀l:W7,Paired (kA L<|n+2) (j4 l)<|j4 l
 |[]=>.nil
 |_::r=>.cons (.tup<|.cons (.flat rfl)<|.cons (.flat rfl) .nil)<|rg r
theorem mK{a b:Addr}{xs:List Y}(I:L a=some (.lst xs))(J:L b=some (.lst xs))(l:xs.length<=1000)(p:Paired (kA L n) xs xs):kA L (n+1) (.ref a) (.ref b):=.inr<|.inr ⟨a,b,xs,xs,rfl,rfl,I,J,l,p⟩
theorem yV{a c I J:Addr}(h1:L a=some (.lst<|aM wd))(h2:L l=some (.lst<|j4 lk))(U:L c=some (.lst<|j4 ct))(g1:L I=some (.lst<|aM wd))(g2:L J=some (.lst<|j4 lk))(g3:L c'=some (.lst<|j4 ct))(g:wd.length<=1000)(j:lk.length<=1000)(o:ct.length<=1000):kA L 4 (bJ a l c) (bJ I J c'):=
 .tup (.cons (mK h1 g1 (by rw[Ah];exact g)<|oR wd) (.cons (mK h2 g2 (by rw[Ah];exact j)<|rg lk) (.cons (mK U g3 (by rw[Ah];exact o)<|rg ct) .nil)))
theorem qD{l m:W6}(h:l.Perm m)(I:l.Pairwise pI)(J:m.Pairwise pI):l=m:=
 Cm (le:=pI) (λa b _ _ U g=>by unfold pI at U g;exact El (by lia) (by lia)) I J h
section
variable {K:Ai}{O N b1 b2 b3 b4 b5 b6 b7 b8 b9:Addr}{a c:Addr}{En:vo}{o0 o1 o3:Option Y}{ki:Int}
end
noncomputable def uU(I:zd)(J:zd):RD "_law_sound" dH 123 ["_law_web_here","_law_rule","_law_told","_law_ends_here","_law_places"] (λV=>JL V I/\JF V J):=⟨_,λV B c _ _ _ _ _ _ _ U hN g=>(qa (S_ 2 hN<|zj xw)<|qa (S_ 3 hN<|C_ c.1 U<|aW (J_ 0) (qv 1)<|qv 2)<|qa (cN ["_law_p"] (i:=4) hN rfl (Or.inl rfl) (EL (by rfl)) rfl (cK rfl B.bh<|jo<|L_ B.ba<|J_ 0) (wM 5) (λ_ _ _ _=>cH<|fu<|I_ (J_ 0)<|qv 5) λ_ _ _ _=>(qv 5))<|qd<|qr<|gy (QD<|qv 3)<|gy (aE (im _ _ _ g) (aB yD rfl B.bj cY<|jo<|qv 2) (qv 4)<|x6 _)<|jY<|aE (im _ _ _ g) (aB yD rfl B.bj cY<|jo<|qv 3) (C_ c.2 U<|jo<|qv 0)<|x6 _)⟩
noncomputable def V0(I:zd)(J:zd):vn:=(uU I J).1
def V1(I:zd)(p1:zd)(p2:zd)(p3:zd)(p4:zd)(p5:zd)(p6:zd)(p7:zd):vn:=(ja (vh (xm I<|dg<|qk 0)<|qo 1)
 (ja (vh (xm p1<|z9 (xm p2<|z9 (xm p3<|z9 (qk 0)<|jA (qk 1)<|lZ 96)<|dg<|qk 1) vm)<|qo 2)
 (ja (vh (xm p4<|dg<|qk 2)<|qo 3)
 (ja (vh (xm p5<|dg<|qk 3)<|qo 4)
 (ja (di (E8 (E9<|yB<|IA .tuple<|qk 4)<|E8 (Fv (ux 4)<|lZ 2)<|E9<|yB<|xm p6<|jA (bX 4 0)<|bX 2 0) (ah<|yC<|.bl false) bP)
 (ja (di (E8 (E9<|yB<|xm p7<|jA (qk 2)<|bX 4 1)<|E9<|yB<|xm p6<|z9 (xm p1<|dg<|qk 4)<|dg<|qk 2) (ah<|yC<|.bl false) bP)
 (ja (aP<|rE vq (bX 4 0)<|dg<|yC .non)
 (ah<|xm p6<|jA (qk 3)<|qk 2))))))))
theorem o6{ms:Xe}{l m:Xa}(pm:ms.Perm (l.map λn:Nat=>(n:Int)))(I:ms.Pairwise λa b:Int=>a<=b)(J:l.Perm m)(U:m.Pairwise λa b=>a<b):ms=m.map λn:Nat=>(n:Int):=
 Cm (le:=λa b:Int=>a<=b) (λa b _ _ h k=>Int.le_antisymm h k) I (BV.mpr<|U.imp λh=>Int.ofNat_le.mpr<|BJ h) (pm.trans<|J.map _)
inductive fz(ys:List Y)(L:ql)(Q:YK):Prop
 |mk:∀a l c,∀wd:List (Xw),∀ct:W7,∀B:Ru,∀E:Xa,(ys=[bJ a l c,zf B])->(L a=some (.lst<|aM wd))->(L c=some (.lst<|j4 ct))->(wd.length<=300)->(ct.length<=300)->(Gw wd B E)->((qg B).Nodup)->((∀x,x∈qg B↔∃k,wd[x]?=some (some k)))->((∀d,d∈ct↔d∈zb B))->((qg B).length<=120)->(∀L',qh L L'->Q (.bl true) L')->fz ys L Q
theorem uj{x:Nat}:dX wd x=true↔∃k,wd[x]?=some (some k):=by
 unfold dX;constructor
 ·intro h;split at h
  ·rename_i k e;exact⟨k,e⟩
  ·cases h
 ·rintro⟨k,e⟩;rw[e]
theorem V2{B:Ru}{E:Xa}(g:Gw wd B E)(J:(qg B).Nodup)(tB:∀x,x∈qg B↔∃k,wd[x]?=some (some k))(U:∀d,d∈ct↔d∈zb B):E.Perm (aj wd (wx wd ct) wd.length):=by
 refine(A9 (g.nds J).2.2.2.1<|BG.filter _).mpr λx=>?_;show x∈E↔x∈(List.range wd.length).filter λp=>dX wd p&&!decide (p∈wx wd ct);rw[g.mem J,AN,AZ,AU,uj,Bool.not_eq_true',decide_eq_false_iff_not,tB];have j:x∈o_ wd B↔x∈wx wd ct:=by
  unfold o_ wx;rw[Ak,Ak];refine or_congr ⟨λh=>?_,λh=>?_⟩ ⟨λh=>?_,λh=>?_⟩
  ·obtain⟨r,l,I⟩:=Ay.mp h;obtain⟨k,e⟩:=(tB r).mp l;unfold prA at I;rw[e] at I;exact jD e I
  ·obtain⟨p,k,e,o⟩:=qG h;exact Ay.mpr ⟨p,(tB p).mpr ⟨_,e⟩,by unfold prA;rw[e];exact o⟩
  ·obtain⟨d,hd,e⟩:=eE h;have:=ku<|(U d).mpr hd;rcases e with rfl|rfl;exact this.1;exact this.2
  ·obtain⟨d,hd,e⟩:=eE h;have:=ku<|(U d).mp hd;rcases e with rfl|rfl;exact this.1;exact this.2
 rw[j];exact⟨λ ψ=>(by obtain⟨⟨k,h⟩,n⟩:=ψ;exact ⟨qx h,⟨k,h⟩,n⟩),λ ψ=>(by obtain⟨_,h,n⟩:=ψ;exact ⟨h,n⟩)⟩
theorem V3:∀ys L Q,fz ys L Q->jj (V0 (bA 120) mQ) 5 ys L Q:=by
 rintro ys L Q ⟨a,l,c,I,ct,B,E,rfl,J,U,z0,z2,g,nB,tB,cB,zB,q⟩;have big:=a_;intro t T;have nat:a≠t:=xu J T;have gl:=g.len;refine⟨a,t,I,B,E,[],rfl,(qb nat).trans J,q9,nat,g,by have:=w4 B;lia,by rw[CY];lia,λp L2 k2 n2 C t2=>?_⟩;have s2:qh L L2:=λb u e=>k2 b u (xu e T)<|By T _ _ e;have J:=s2 _ _ J;have U:=s2 _ _ U;have lw:(aM I).length=I.length:=Ah ..;refine qc J ⟨⟨by rw[lw];lia,by rw[lw];lia⟩,?_⟩;rw[lw,Cg];refine wG (λi zs=>zs=nY (kY eL I i)) (big _ (by lia)) rfl ?_ ?_
 ·rintro i zs hi rfl;obtain⟨k,ek⟩:∃k,I[i]?=some k:=⟨_,Ao hi⟩;refine qc J<|qj (uz ek) ?_;cases k with
  |none=>exact⟨_,EC _,rfl,by rw[iO ek,show eL none=false from rfl,Ar AH,Av]⟩
  |some k=>cases k<;>exact⟨_,EC _,rfl,by rw[iO ek,Aw<|show eL (some _)=true from rfl,dR,B5];rfl⟩
 rintro zs rfl p4 h4;refine zG h4 λL4 r g4=>?_;have J:=r _ _ J;have U:=r _ _ U;have t2:=r _ _ t2;have C:=r _ _ C;have r:=s2.trans r;have dn:∀(L:ql) (l:Xa),Paired (jw L 0) (nY l) ((l.map λn:Nat=>(n:Int)).map λx=>Da.s<|.int x):=λL l=>by rw[iX];exact bD _
 refine qp t2 ⟨(qg B).map λn:Nat=>(n:Int),iX _,by rw[Ah];lia,λD ms hD pm pw=>?_⟩;obtain rfl:=o6 pm pw (oK nB tB)<|ig _ _ _;have j:=By (o:=.lst<|((zr I).map λn:Nat=>(n:Int)).map Y.int) hD;refine⟨rfl,rfl,1,1,_,_,by decide,bC q9<|bD _,bC (j _ _ g4)<|dn _ _,?_⟩;have J:=j _ _ J;have U:=j _ _ U;have C:=j _ _ C;have j:=r.trans j;generalize qe L4 D _=L5 at j J U C ⊢;refine fT (by show Da.eqs _ _=true;exact vB _) ?_;refine qp C ⟨E.map λn:Nat=>(n:Int),iX _,by rw[Ah];lia,λD ms hD pm pw=>?_⟩;obtain rfl:=o6 pm pw (V2 g nB tB cB)<|List.pairwise_lt_range.filter _;have s6:=By (o:=.lst<|((aj I (wx I ct) I.length).map λn:Nat=>(n:Int)).map Y.int) hD;refine⟨a,l,c,I,ct,rfl,s6 _ _ J,s6 _ _ U,by lia,by lia,λp7 h7=>?_⟩;have s7:=By (o:=.lst<|nY<|aj I (wx I ct) I.length) h7;refine cZ (n:=0) (m:=0) (by decide) (s7 _ _ q9) q9 (bD _) (dn _ _) ?_;rw[vB];exact jv<|q _<|(j.trans s6).trans s7
inductive f9(ys:List Y)(L:ql)(Q:YK):Prop
 |mk:∀a l c ks lk ct,(ys=[bJ a l c])->(J9 L a l c ks lk ct)->(RtX ks lk ct)->(Q .non L)->f9 ys L Q
theorem V4:∀ys L Q,f9 ys L Q->jj (uH fc f7 eI io) 9 ys L Q:=by rintro ys L Q ⟨a,l,c,I,lk,ct,rfl,W,J,q⟩;refine⟨a,l,c,I,lk,ct,rfl,W,λr U=>?_⟩;cases U.mpr J;exact jv q
theorem V5(a l c:Addr)(wd:List<|Xw)(lk ct:W6)(L:ql)(Q:YK)(I:L a=some (.lst<|aM wd))(J:L l=some (.lst<|j4 lk))(hc:L c=some (.lst<|j4 ct))(U:wd.length<=300)(g:ct.length<=300)(W:GrW wd lk ct)(q:Q .non L):f9 [bJ a l c] L Q:=
 ⟨a,l,c,wd,lk,ct,rfl,⟨I,J,hc,by lia,by have:=W.j.ll;lia,by lia,W.ci⟩,W.rt,q⟩
theorem wY{P:Addr}:∀ys L Q,cj C P ys L Q->jj (tH C f9 (iU C P) (bS C P) hV (iS C P)<|ff C P) 6 ys L Q:=VN V5
theorem XFG.dn{K:Ai}{P:Addr}(T:K.lookup Pt=some (PySem.W.tabObj #[]))(x:XFG K C P):XFG (lessK Pt K) C P:=⟨Cls.dn T x.cl,(find_dn T).trans x.np,(find_dn T).trans x.nr,XFP.dn T x.xp⟩
theorem V6{P:Addr}:∀ys L Q,mO Pt lamQ ys L Q->jj (V1 mC mE (mP Pt) mM lg (cj C P) (az 4) fz) 5 ys L Q:=by
 rintro ys L Q ⟨ns,rfl,a4,hL,q⟩;have hP:L Pt=some (.tb lamQ):=by rw[hL];exact q9
 clear hL;refine⟨ns,rfl,λst=>?_⟩;refine⟨ns,st,96,_,rfl,rfl,by lia,by decide,λka ks R E L1 s1 n1 g1 T=>?_⟩;refine⟨ka,ks,R,E,st,rfl,g1,T,s1 _ _ hP,λw f I hw r=>?_⟩;have g2:qe L1 w (.lst<|aM I) w=_:=q9;generalize qe L1 w (.lst<|aM I)=L2 at g2 ⊢;obtain⟨F0,g0,_⟩:=T.sr.gw r;have zw:=r.len;have zk:=T.len;have tl:=T.tp.length_eq;have pm:=gL f R;have n0:(qg<|lQ f R).Nodup:=pm.nodup_iff.mpr (qN (T.tp.nodup_iff.mpr BG) λx hx y t=>r.gap.inj x (by rw[Ah];exact T.tp.mem_iff.mp hx) y (by rw[Ah];exact T.tp.mem_iff.mp t));have t0:∀x,x∈qg (lQ f R)↔∃k,I[x]?=some (some k):=λx=>⟨g0.th x,λ ψ=>by obtain⟨k,h⟩:=ψ;obtain⟨y,t,rfl⟩:=r.gap.only x k h;rw[Ah] at t;exact pm.mem_iff.mpr<|Co<|T.tp.mem_iff.mpr t⟩
 have z0:(qg<|lQ f R).length<=96:=by rw[pm.length_eq,Ah,tl,Ba];exact zk
 rw[Ah] at zw;obtain⟨m1,m2,m3,m4,m5,m6⟩:=g0.wb n0 (by lia) (by lia);refine⟨w,aM I,lQ f R,rfl,g2,by lia,by lia,m3,m4,m5,m6,λa l c lk ct L3 s3 _ _ _ _ _ _ e1 e2 e3 pl J pc a0=>?_⟩;have W:=g0.grw n0 t0 (by lia) pl J pc;have ll:=W.j.ll;have cl:ct.length<=120:=by
  have:=a8 I.length _ W.i.ctN λx hx=>by
   obtain⟨d,hd,e⟩:=eE hx;obtain⟨⟨_,h1⟩,_,h2⟩:=W.i.there d hd;rcases e with rfl|rfl
   ·exact qx h1
   ·exact qx h2
  rw[eV] at this;lia
 refine⟨a,l,c,_,_,_,rfl,e1,e2,e3,λa2 l2 c2 L4 s4 _ _ _ _ _ _ j1 j2 j3=>?_⟩;refine⟨a2,l2,c2,I,lk,ct,rfl,j1,j2,j3,by lia,by lia,W,λa5 B F L5 s5 n5 k5 gB nB tB lB cB=>?_⟩;have t5:=s4.trans s5;have f1:=t5 _ _ e1;have f2:=t5 _ _ e2;have f3:=t5 _ _ e3;have zB:(qg B).length<=96:=by rw[((A9 nB n0).mpr λx=>(tB x).trans (t0 x).symm).length_eq];exact z0
 refine⟨_,_,rfl,mK k5 f1 (by rw[Ah];lia)<|oR I,?_⟩;refine⟨a,l,c,I,ct,B,F,rfl,f1,f3,by lia,by lia,gB,nB,tB,cB,by lia,λL6 s6=>?_⟩;obtain⟨b1,b2,nl,nc,b5,b6⟩:=gB.wb nB (by lia) (by lia);refine⟨a5,aM I,B,rfl,s6 _ _ k5,by lia,by lia,nl,nc,b5,b6,λa7 l7 c7 ab ac L7 s7 _ _ _ _ _ _ v1 v2 v3 a1 U a3 g=>?_⟩;have n1:lk.Nodup:=pl.nodup_iff.mpr m3;have n2:ct.Nodup:=pc.nodup_iff.mpr m4;obtain rfl:=qD (a1.trans<|(A9 nl n1).mpr λx=>(lB x).symm) U J;obtain rfl:=qD (a3.trans<|(A9 nc n2).mpr λx=>(cB x).symm) g a0;have p:=s6.trans s7;refine⟨_,_,rfl,yV v1 v2 v3 (p _ _ f1) (p _ _ f2) (p _ _ f3) (by lia) (by lia) (by lia),?_⟩;have k7:=p _ _ k5;have big:I.length<sizeLine:=Bw (show I.length<=20000 by lia) (by decide);refine qp k7 (qp k7 ⟨by rw[Ah];exact big,?_⟩);have up:∀{b:Addr} {u o:LO},L4 b=some u->qe L7 a5 o b=some u:=λe=>(qb<|xu e n5).trans<|p _ _<|s5 _ _ e;exact⟨_,_,rfl,yV (up j1) (up j2) (up j3) (up<|s4 _ _ e1) (up<|s4 _ _ e2) (up<|s4 _ _ e3) (by lia) (by lia) (by lia),jv<|q _⟩
end L3
set_option profiler true
set_option profiler.threshold 4000
end
set_option maxRecDepth 100000
set_option maxHeartbeats 8000000
namespace K43
open PySem L2 L3 Words
abbrev nj:Str:="_law_script"
abbrev nq:Str:="_law_knots"
abbrev nu:Str:="_law_p"
theorem V7{us:W8}{n:Nat}(h:us.length=n+1):∃a r,us=a::r/\r.length=n:=by cases us with|nil=>cases h|cons a r=>exact⟨a,r,rfl,Nat.succ.inj h⟩
structure B_(V:V_):Prop extends B0_ V where
 hp:∃h:Xn,V.K.In h/\h.Ns mainGlobals V.mg
 D0:kj V.K V.Ca "__init__" "Pieces.__init__" gc
 D1:kj V.K V.Ca "head_of" "Pieces.head_of" cg
 D2:kj V.K V.Ca "unite" "Pieces.unite" fK
 D3:qw V.K "is_leaf" qT
 D4:qw V.K "places_there" bT
 D5:qw V.K "parts_of" gn
 D6:qw V.K "eithers_of" dN
 D7:qw V.K "boths_of" gx
 D8:qw V.K "part_edges" dU
 D9:qw V.K "joins_of" gz
 D10:qw V.K "join_steps" hZ
 D11:qw V.K "can_fold" nG
 D12:qw V.K "fold_steps" hU
 D13:qw V.K "steps_by" nz
 D14:qw V.K "all_come_together" we
 D15:qw V.K "right_web" dz
 D16:qw V.K "first_bad" fD
 D17:kj V.K V.Cb "__init__" "Grove.__init__" iI
 D18:kj V.K V.Cb "rule_at" "Grove.rule_at" db
 D19:kj V.K V.Cb "is_one" "Grove.is_one" eJ
 D20:kj V.K V.Cb "grow" "Grove.grow" iY
 D21:qw V.K "rules_due" fM
 D22:qw V.K "arms_for" oC
 D23:qw V.K "grow_all" n8
 D24:qw V.K "tree_of" qQ
 D25:qw V.K "_law_cell_at" bN
 D26:qw V.K "_law_stir" dr
 D27:qw V.K "_law_pick" fA
 D28:qw V.K "_law_mix" gq
 D29:qw V.K "_law_name" f8
 D30:qw V.K "_law_word" fP
 D31:qw V.K "_law_flip" fV
 D32:qw V.K "_law_weight" bz
 D33:qw V.K "_law_mirror" ga
 D34:qw V.K "_law_join" eX
 D35:qw V.K "_law_fold" eS
 D36:qw V.K "_law_cut" oG
 D37:qw V.K "_law_tree" fN
 D38:qw V.K "_law_gather" cA
 D39:qw V.K "_law_web" gp
 D40:qw V.K "_law_open" lM
 D41:DefInT V.K "_law_order" s__law_order V.Pt
 D42:qw V.K "_law_moved" dO
 D43:qw V.K "_law_gapped" cD
 D44:qw V.K "_law_number" bx
 D45:qw V.K "_law_alike" dI
 D46:qw V.K "_law_link_ends" aT
 D47:qw V.K "_law_left" lJ
 D48:qw V.K "_law_here" fE
 D49:qw V.K "_law_ends" f6
 D50:qw V.K "_law_sound" dH
 D51:qw V.K "_law_copy" du
 D52:qw V.K "_law_sown" eG
 md:V.mg "Pieces"=some (.ref V.Ca)
 me:V.mg "Grove"=some (.ref V.Cb)
 cl_Pieces:Cls V.K V.Ca
 mAPieces:PySem.W.makesIn V.K V.Ca=true
 mKPieces:PySem.W.keepIn V.K (.ref V.Ca)=true
 cl_Grove:Cls V.K V.Cb
 mAGrove:PySem.W.makesIn V.K V.Cb=true
 mKGrove:PySem.W.keepIn V.K (.ref V.Cb)=true
 xf:L3.XFG V.K V.Cb V.Ca
abbrev c0(_:V_):Prop:=True
local macro_rules|`(tactic| walk_at "s")=>`(tactic| exact⟨rfl,rfl,rfl,by decide +kernel,rfl,by decide +kernel,by decide +kernel⟩)
local macro_rules|`(tactic| walk_at "l")=>`(tactic| first|exact VZ|(rintro _ _ _ ⟨_,e,_⟩;rw[e];rfl)|(rintro _ _ _ ⟨_,_,e,_⟩;rw[e];rfl)|(rintro _ _ _ ⟨_,_,_,e,_⟩;rw[e];rfl)|(rintro _ _ _ ⟨_,_,_,_,e,_⟩;rw[e];rfl)|(rintro _ _ _ ⟨_,_,_,_,_,e,_⟩;rw[e];rfl)|(rintro _ _ _ ⟨_,_,_,_,_,_,e,_⟩;rw[e];rfl)|(rintro _ _ _ ⟨_,_,_,_,_,_,_,e,_⟩;rw[e];rfl)|(rintro _ _ _ ⟨_,_,_,_,_,_,_,_,e,_⟩;rw[e];rfl)|(rintro _ _ _ ⟨_,_,_,_,_,_,_,_,_,e,_⟩;rw[e];rfl)|(rintro _ _ _ ⟨_,_,_,_,_,_,_,_,_,_,e,_⟩;rw[e];rfl)|(rintro _ _ _ ⟨_,_,_,_,_,_,_,_,_,_,_,_,_,e,_⟩;rw[e];rfl))
local macro_rules|`(tactic| walk_at "x")=>`(tactic| (intro _;walk_at "l"))
local macro_rules|`(tactic| walk_at "b")=>`(tactic| (intro _ _ _ _ _ _ us hl;(repeat (obtain⟨_,_,e,h⟩:=V7 hl;clear hl;subst e;have hl:=h;clear h));cases List.eq_nil_of_length_eq_zero hl;rfl))
section
variable {f:Addr}{fd:FuncData}{x q:Str}{st:Stmt}{ps:Xb}(V:V_)(k:Nat)(N:Xb)
theorem W_{sp:zd}{t:vn}(F:Fun V.K x q st f fd)(U:∀ys L Q,sp ys L Q->jj t N.length ys L Q)(h:∀(fm:Xj) (A:Around) (outer:List Env) (s:Xk) (H:Hp) (E:XK),vz k (A.deeper<|PyProof.Rows.envOfC q (qt st) s.heap.objs.size f fm)->N.Nodup->(A.deeper<|PyProof.Rows.envOfC q (qt st) s.heap.objs.size f fm).units+128<cLine->sd (iQ CX0 V.P V.w V.K V.mg V.base N q (qt st) f fm A outer s H E).nox (j6 st) t)(I:ay N ps (qt st):=by walk_at "s")(len:∀ys L Q,sp ys L Q->ys.length=ps.length:=by walk_at "l"):Fn3 V.P V.w V.K V.mg V.base (k+1) f fd ps sp:=
 QQ F I len λfm A outer s H E J=>⟨t,h fm A outer s H E J I.nd<|Ip J,U⟩
theorem M_{sp:zd}{t:vn}(hp:∃h:Xn,V.K.In h/\h.Ns mainGlobals V.mg)(D:qw V.K x st)(I:∀ys L Q,sp ys L Q->jj t N.length ys L Q)(h:∀f,∀(fm:Xj) (A:Around) (outer:List Env) (s:Xk) (H:Hp) (E:XK),vz k (A.deeper<|PyProof.Rows.envOfC x (qt st) s.heap.objs.size f fm)->N.Nodup->(A.deeper<|PyProof.Rows.envOfC x (qt st) s.heap.objs.size f fm).units+128<cLine->sd (iQ CX0 V.P V.w V.K V.mg V.base N x (qt st) f fm A outer s H E).nox (j6 st) t)(J:ay N ps (qt st):=by walk_at "s")(len:∀ys L Q,sp ys L Q->ys.length=ps.length:=by walk_at "l")(U:∀(kV ir pm:Xj) (an:Option Addr) (fm ct:Xj) (us:W8),us.length=ps.length->bindArgs (PySem.W.fnOf x x (x4 st) (j6 st) (qt st) .none kV ir pm an fm ct) ⟨us,[]⟩=pure (ps.zip us):=by walk_at "b"):Q_ V (k+1) x ps sp:=by obtain⟨_,X,G⟩:=hp;obtain⟨f,fd,F,b,m⟩:=D.use X G U;exact Cal.of (W_ V k N F I (h f) J len) b F.kp m
theorem R_{sp:Nat->zd}{t:Nat->vn}(hp:∃h:Xn,V.K.In h/\h.Ns mainGlobals V.mg)(D:qw V.K x st)(no:∀ys L Q,¬sp 0 ys L Q)(I:∀n ys L Q,sp (n+1) ys L Q->jj (t n) N.length ys L Q)(h:∀n f,Q_ V (n+k) x ps (sp n)->∀(fm:Xj) (A:Around) (outer:List Env) (s:Xk) (H:Hp) (E:XK),vz (n+k) (A.deeper<|PyProof.Rows.envOfC x (qt st) s.heap.objs.size f fm)->N.Nodup->(A.deeper<|PyProof.Rows.envOfC x (qt st) s.heap.objs.size f fm).units+128<cLine->sd (iQ CX0 V.P V.w V.K V.mg V.base N x (qt st) f fm A outer s H E).nox (j6 st) (t n))(n:Nat)(J:ay N ps (qt st):=by walk_at "s")(len:∀n ys L Q,sp n ys L Q->ys.length=ps.length:=by walk_at "x")(U:∀(kV ir pm:Xj) (an:Option Addr) (fm ct:Xj) (us:W8),us.length=ps.length->bindArgs (PySem.W.fnOf x x (x4 st) (j6 st) (qt st) .none kV ir pm an fm ct) ⟨us,[]⟩=pure (ps.zip us):=by walk_at "b"):Q_ V (n+k) x ps (sp n):=by
 obtain⟨_,X,G⟩:=hp;obtain⟨f,fd,F,b,m⟩:=D.use X G U
 induction n with|zero=>exact Cal.of (Fn3.never no) b F.kp m|succ n g=>rw[Nat.add_right_comm];exact Cal.of (W_ V (n+k) N F (I n) (h n f g) J<|len _) b F.kp m
theorem T_{sp:zd}{t:vn}(hp:∃h:Xn,V.K.In h/\h.Ns mainGlobals V.mg)(D:DefInT V.K x st V.Pt)(U:∀ys L Q,sp ys L Q->jj t N.length ys L Q)(h:∀f,∀(fm:Xj) (A:Around) (outer:List Env) (s:Xk) (H:Hp) (E:XK),DT V.K fm V.Pt->vz k (A.deeper<|PyProof.Rows.envOfC x (qt st) s.heap.objs.size f fm)->N.Nodup->(A.deeper<|PyProof.Rows.envOfC x (qt st) s.heap.objs.size f fm).units+128<cLine->sd (iQ CX0 V.P V.w V.K V.mg V.base N x (qt st) f fm A outer s H E).nox (j6 st) t)(I:ay N ps (qt st):=by walk_at "s")(len:∀ys L Q,sp ys L Q->ys.length=ps.length:=by walk_at "l")(g:∀(kV ir pm:Xj) (an:Option Addr) (fm ct:Xj) (us:W8),us.length=ps.length->bindArgs (PySem.W.fnOf x x (x4 st) (j6 st) (qt st) .none kV ir pm an fm ct) ⟨us,[]⟩=pure (ps.zip us):=by walk_at "b"):Q_ V (k+1) x ps sp:=by obtain⟨_,X,G⟩:=hp;obtain⟨f,fd,F,b,m⟩:=D.use X G g;exact Cal.of (T7 F I len λfm A outer s H E C J=>⟨t,h f fm A outer s H E C J I.nd<|Ip J,U⟩) b F.kp m
end
abbrev c1(V:V_):Prop:=c0 V/\aaf V.P V.w V.K V.mg V.base 2 V.Ca ["self","count"] (dy V.Ca)
theorem d1(V:V_)(B:B_ V)(c:c0 V):c1 V:=⟨c,by obtain⟨f,fd,F,b,m⟩:=B.D0.use (ps:=["self","count"]) (by walk_at "b");exact⟨_,_,⟨B.mAPieces,m.at_,m.fn,B.mKPieces⟩,⟨_,rfl,W_ V 0 ["self","count"] F (SV B.xf.xp) λ_ _ _ _ _ _ I hN J=>(qd<|rK (qv 0)<|mV rfl rfl B.be rfl B.bh<|qv 1)⟩,b⟩⟩
abbrev c2(V:V_):Prop:=c1 V/\rF V.P V.w V.K V.mg V.base 1 V.Ca "head_of" ["self","place"] (bp V.Ca)
theorem d2(V:V_)(B:B_ V)(c:c1 V):c2 V:=⟨c,by obtain⟨f,fd,F,b,m⟩:=B.D1.use (ps:=["self","place"]) (by walk_at "b");exact⟨_,_,m,W_ V 0 ["self","place","here"] F (SW B.xf.xp) λ_ _ _ _ _ _ J hN I=>(qa (S_ 2 hN<|qv 1)<|qa (fZ u2 (N_ I (I_ (aV<|qv 0)<|qv 2)<|qv 2)<|qa (rY (aV<|qv 0) (qv 2)<|I_ (aV<|qv 0)<|I_ (aV<|qv 0)<|qv 2)<|qd<|S_ 2 hN<|I_ (aV<|qv 0)<|qv 2)<|qd<|qr<|qv 2),b⟩⟩
abbrev c3(V:V_):Prop:=c2 V/\rF V.P V.w V.K V.mg V.base 2 V.Ca "unite" ["self","p","q"] (cq V.Ca)
theorem d3(V:V_)(B:B_ V)(c:c2 V):c3 V:=⟨c,by obtain⟨f,fd,F,b,m⟩:=B.D2.use (ps:=["self","p","q"]) (by walk_at "b");exact⟨_,_,m,W_ V 1 ["self","p","q","first","second"] F (SX B.xf.xp) λ_ _ _ _ _ _ I hN J=>(qa (S_ 3 hN<|fU (c.2.mono (by decide)) I B.cl_Pieces (qv 0)<|jo<|qv 1)<|qa (S_ 4 hN<|fU (c.2.mono (by decide)) I B.cl_Pieces (qv 0)<|jo<|qv 2)<|qa (rY (aV<|qv 0) (qv 3)<|qv 4)<|qd<|qr<|aE (Gg _ _ _ J) (qv 3) (qv 4)<|x6 _),b⟩⟩
abbrev c4(V:V_):Prop:=c3 V/\Js V (dF)
theorem d4(V:V_)(B:B_ V)(c:c3 V):c4 V:=⟨c,M_ V 0 ["word"] B.hp B.D3 vY λ_ _ _ _ _ _ _ I hN J=>(qd<|qr<|aE (QB _ _ _) (J_ 0) (Q1 B.k_LEAF_KINDS rfl) (by with_unfolding_all rfl))⟩
abbrev c5(V:V_):Prop:=c4 V/\Fx V (cX)
theorem d5(V:V_)(B:B_ V)(c:c4 V):c5 V:=⟨c,M_ V _ _ B.hp B.D4 Tg<|(eM).2 V B.toB0_ ⟨⟩⟩
abbrev c6(V:V_):Prop:=c5 V/\Gr V (cb)
theorem d6(V:V_)(B:B_ V)(c:c5 V):c6 V:=⟨c,M_ V _ _ B.hp B.D5 Tf<|(mZ _).2 V B.toB0_ c.1.2⟩
abbrev c7(V:V_):Prop:=c6 V/\Gs V (eI)
theorem d7(V:V_)(B:B_ V)(c:c6 V):c7 V:=⟨c,M_ V _ _ B.hp B.D6 Th<|(i6).2 V B.toB0_ ⟨⟩⟩
abbrev c8(V:V_):Prop:=c7 V/\Jt V (iP)
theorem d8(V:V_)(B:B_ V)(c:c7 V):c8 V:=⟨c,M_ V _ _ B.hp B.D7 Tj<|(mv _).2 V B.toB0_ c.1.1.2⟩
abbrev c9(V:V_):Prop:=c8 V/\Ju V (gD)
theorem d9(V:V_)(B:B_ V)(c:c8 V):c9 V:=⟨c,M_ V _ _ B.hp B.D8 Tp<|(iR _).2 V B.toB0_ c.1.1.2⟩
abbrev i7(V:V_):Prop:=c9 V/\Gu V (f7)
theorem d10(V:V_)(B:B_ V)(c:c9 V):i7 V:=⟨c,M_ V _ _ B.hp B.D9 Tq<|(oS _ _).2 V B.toB0_ ⟨c.2,c.1.2⟩⟩
abbrev c11(V:V_):Prop:=i7 V/\Sr V (gM V.Ca)
theorem V8(V:V_)(B:B_ V)(c:i7 V):c11 V:=⟨c,M_ V 2 ["pieces","joins","steps","p","q"] B.hp B.D10 Tu λ_ _ _ _ _ _ _ I hN J=>(qa (S_ 2 hN<|zj xw)<|qa (vi u2 rfl (vf<|qv 1) (aQ rfl<|zg (G_ 3 hN)<|zg (G_ 4 hN) kg)<|qd<|zm (js<|fU (c.1.1.1.1.1.1.1.2.mono (by decide)) I B.cl_Pieces (qv 0)<|vv (qv 3)<|qv 4) (qd<|za<|z7 (qv 2)<|jo<|zh<|aW j5 (qv 3)<|qv 4) qz)<|qd<|qr<|qv 2)⟩
abbrev c12(V:V_):Prop:=c11 V/\Ss V (iq V.Ca)
theorem V9(V:V_)(B:B_ V)(c:c11 V):c12 V:=⟨c,M_ V 2 ["pieces","knots","place","heads"] B.hp B.D11 Tv λ_ _ _ _ _ _ _ I hN J=>(qa (cN ["part"] (i:=3) hN rfl (Or.inl rfl) (EL (by rfl)) rfl (vf<|C_ c.1.1.1.1.1.2 I<|jo<|I_ (qv 1)<|qv 2) (fW DP (λ_ _ _ _=>Or.inl rfl) λ_ _ _ _=>rfl) (λ_ _ _ _=>wF) λ_ _ _ _=>(fU (c.1.1.1.1.1.1.1.1.1.2.mono (by decide)) I B.cl_Pieces (qv 0)<|jo<|qv 4))<|qd<|qr<|gy (aE (im _ _ _ J) (J_ 3) (J_ 3)<|x6 _)<|jY<|aE (Gg _ _ _ J) (J_ 3) (fU (c.1.1.1.1.1.1.1.1.1.2.mono (by decide)) I B.cl_Pieces (qv 0)<|jo<|qv 2)<|x6 _)⟩
abbrev GL(V:V_):Prop:=c12 V/\Su V (fi V.Ca)
theorem V'(V:V_)(B:B_ V)(c:c12 V):GL V:=⟨c,M_ V 3 ["pieces","knots","eithers","steps","before","place"] B.hp B.D12 Tw λ_ _ _ _ _ _ _ I hN J=>(qa (S_ 3 hN<|zj xw)<|qa (S_ 4 hN<|Qw Qv qf)<|qa (fZ u2 (x5 nv (qv 4) (L_ B.ba<|qv 3)<|x6 _)<|qa (S_ 4 hN<|L_ B.ba<|qv 3)<|qd<|vi u2 rfl (vf<|qv 2) (G_ 5 hN)<|qd<|zm (js<|C_ c.2 I<|aW (qv 0) (qv 1)<|qv 5) (qa (za<|fU (c.1.1.1.1.1.1.1.1.1.2.mono (by decide)) I B.cl_Pieces (qv 0)<|vv (qv 5)<|I_ (I_ (qv 1)<|qv 5) qf)<|qd<|za<|z7 (qv 3)<|jo<|zh<|vv j5<|qv 5) qz)<|qd<|qr<|qv 3)⟩
abbrev GN(V:V_):Prop:=GL V/\Jv V (fk V.Ca)
theorem Wa(V:V_)(B:B_ V)(c:GL V):GN V:=⟨c,M_ V 4 ["knots","joins","eithers","pieces"] B.hp B.D13 Vg λ_ _ _ _ _ _ _ I hN J=>(qa (S_ 3 hN<|Gn (c.1.1.1.1.1.1.1.1.1.1.1.1.2.mono (by decide)) I rfl B.md<|jo<|L_ B.ba<|qv 0)<|qd<|qr<|qm jf (C_ c.1.1.2 I<|vv (qv 3)<|qv 1)<|C_ c.2 I<|aW (qv 3) (qv 0)<|qv 2)⟩
abbrev GO(V:V_):Prop:=GN V/\Gv V (io)
theorem Wb(V:V_)(B:B_ V)(c:GN V):GO V:=⟨c,M_ V _ _ B.hp B.D14 Vh<|(ak _ _).2 V B.toB0_ ⟨c.1.1.1.1.1.1.1.1.1.2,c.2⟩⟩
abbrev GP(V:V_):Prop:=GO V/\Jw V (fc)
theorem Wc(V:V_)(B:B_ V)(c:GO V):GP V:=⟨c,M_ V _ _ B.hp B.D15 Vi<|(lK _ _ _).2 V B.toB0_ ⟨c.2,c.1.1.1.1.1.1.1.1.2,c.1.1.1.1.1.2⟩⟩
abbrev GQ(V:V_):Prop:=GP V/\Sv V (f9)
theorem We(V:V_)(B:B_ V)(c:GP V):GQ V:=⟨c,M_ V _ _ B.hp B.D16 V4<|(lS _ _ _ _).2 V B.toB0_ ⟨c.2,c.1.1.1.1.1.1.2,c.1.1.1.1.1.1.1.1.1.2,c.1.2⟩⟩
abbrev GR(V:V_):Prop:=GQ V/\aaf V.P V.w V.K V.mg V.base 4 V.Cb ["self","count"] (iU V.Cb V.Ca)
theorem Wf(V:V_)(B:B_ V)(c:GQ V):GR V:=⟨c,by obtain⟨f,fd,F,b,m⟩:=B.D17.use (ps:=["self","count"]) (by walk_at "b");exact⟨_,_,⟨B.mAGrove,m.at_,m.fn,B.mKGrove⟩,⟨_,rfl,W_ V 2 ["self","count"] F (U8 B.xf) λ_ _ _ _ _ _ I hN J=>(qa (rK (qv 0)<|Gn (c.1.1.1.1.1.1.1.1.1.1.1.1.1.1.1.1.2.mono (by decide)) I rfl B.md<|jo<|qv 1)<|qd<|rK (qv 0) sC)⟩,b⟩⟩
abbrev GS(V:V_):Prop:=GR V/\rF V.P V.w V.K V.mg V.base 2 V.Cb "rule_at" ["self","place"] (ff V.Cb V.Ca)
theorem Wg(V:V_)(B:B_ V)(c:GR V):GS V:=⟨c,by obtain⟨f,fd,F,b,m⟩:=B.D18.use (ps:=["self","place"]) (by walk_at "b");exact⟨_,_,m,W_ V 1 ["self","place"] F (U9 B.xf) λ_ _ _ _ _ _ I hN J=>(qd<|qr<|RN (aV<|qv 0)<|fU (c.1.1.1.1.1.1.1.1.1.1.1.1.1.1.1.1.2.mono (by decide)) I B.cl_Pieces (aV<|qv 0)<|jo<|qv 1),b⟩⟩
abbrev GU(V:V_):Prop:=GS V/\rF V.P V.w V.K V.mg V.base 2 V.Cb "is_one" ["self","p","q"] (gJ V.Cb V.Ca)
theorem Wh(V:V_)(B:B_ V)(c:GS V):GU V:=⟨c,by obtain⟨f,fd,F,b,m⟩:=B.D19.use (ps:=["self","p","q"]) (by walk_at "b");exact⟨_,_,m,W_ V 1 ["self","p","q"] F (U_ B.xf) λ_ _ _ _ _ _ I hN J=>(qd<|qr<|aE (im _ _ _ J) (fU (c.1.1.1.1.1.1.1.1.1.1.1.1.1.1.1.1.1.2.mono (by decide)) I B.cl_Pieces (aV<|qv 0)<|jo<|qv 1) (fU (c.1.1.1.1.1.1.1.1.1.1.1.1.1.1.1.1.1.2.mono (by decide)) I B.cl_Pieces (aV<|qv 0)<|jo<|qv 2)<|x6 _),b⟩⟩
abbrev GV(V:V_):Prop:=GU V/\rF V.P V.w V.K V.mg V.base 3 V.Cb "grow" ["self","rule","places"] (bS V.Cb V.Ca)
theorem Wi(V:V_)(B:B_ V)(c:GU V):GV V:=⟨c,by obtain⟨f,fd,F,b,m⟩:=B.D20.use (ps:=["self","rule","places"]) (by walk_at "b");exact⟨_,_,m,W_ V 2 ["self","rule","places","place"] F (Va B.xf) λ_ _ _ _ _ _ I hN J=>(qa (vi u2 rfl (vf<|qv 2) (G_ 3 hN)<|qd<|za<|fU (c.1.1.1.1.1.1.1.1.1.1.1.1.1.1.1.1.1.2.mono (by decide)) I B.cl_Pieces (aV<|qv 0)<|vv (J_ 2)<|qv 3)<|qd<|gH J (aV<|qv 0) (fU (c.1.1.1.1.1.1.1.1.1.1.1.1.1.1.1.1.1.1.2.mono (by decide)) I B.cl_Pieces (aV<|qv 0)<|jo<|J_ 2)<|qv 1),b⟩⟩
abbrev GW(V:V_):Prop:=GV V/\Sw V (hV)
theorem Wj(V:V_)(B:B_ V)(c:GV V):GW V:=⟨c,M_ V _ _ B.hp B.D21 VM<|(Ki _ _).2 V B.toB0_ ⟨c.1.1.1.1.1.1.1.1.1.1.1.1.1.1.1.1.2,c.1.1.1.1.1.1.1.1.1.1.1.1.1.1.1.2⟩⟩
abbrev GX(V:V_):Prop:=GW V/\Sx V (mI V.Cb V.Ca)
theorem Wk(V:V_)(B:B_ V)(c:GW V):GX V:=⟨c,M_ V 2 ["grove","rule","taken","arms"] B.hp B.D22 VG λ_ _ _ _ _ _ _ I hN J=>(qa (S_ 3 hN<|zh<|vv (fU (c.1.1.1.2.mono (by decide)) I B.cl_Grove (qv 0)<|jo<|J_ 2)<|fU (c.1.1.1.2.mono (by decide)) I B.cl_Grove (qv 0)<|jo<|J_ 2)<|qa (zm (wu<|ao (aC<|J_ 3)<|bM<|aC<|J_ 3) (qd<|qr ky) qz)<|qa (zm (N_ J (J_ 1) j5) (qd<|qr<|qv 3) qz)<|qd<|qr<|eQ (js<|fU (c.1.1.2.mono (by decide)) I B.cl_Grove (qv 0)<|vv (J_ 2)<|J_ 2) (xz (iC _ _ _) (qv 3) aX<|xr qf) ky)⟩
abbrev GY(V:V_):Prop:=GX V/\Sy V (iS V.Cb V.Ca)
theorem Wl(V:V_)(B:B_ V)(c:GX V):GY V:=⟨c,M_ V 3 ["grove","due","later","rule","taken","arms"] B.hp B.D23 VJ λ_ _ _ _ _ _ _ I hN J=>(qa (S_ 2 hN<|zj xw)<|qa (vi u2 rfl (vf<|qv 1) (aQ rfl<|zg (G_ 3 hN)<|zg (G_ 4 hN) kg)<|qa (S_ 5 hN<|C_ c.2 I<|aW (qv 0) (qv 3)<|qv 4)<|qd<|zm (aC<|qv 5) (qd<|za<|z7 (qv 2)<|jo<|zh<|vv (qv 3)<|qv 4)<|qd<|za<|fU (c.1.1.2.mono (by decide)) I B.cl_Grove (qv 0)<|vv (qm Vm (qv 3)<|qv 5)<|qm jf (zj<|jo<|J_ 3)<|qv 4)<|qd<|qr<|qv 2)⟩
abbrev GZ(V:V_):Prop:=GY V/\Sz V (cj V.Cb V.Ca)
theorem Wm(V:V_)(B:B_ V)(c:GY V):GZ V:=⟨c,M_ V 8 ["web","choices","grove","p","q","due"] B.hp B.D24 wY λ_ _ _ _ _ _ _ I hN J=>(qa (S_ 1 hN<|C_ c.1.1.1.1.1.1.1.2 I<|jo<|qv 0)<|qa (zm (fu<|qv 1) (qd Rj) qz)<|qa (S_ 2 hN<|Gn (c.1.1.1.1.1.1.2.mono (by decide)) I rfl B.me<|jo<|L_ B.ba<|J_ 0)<|qa (vi u2 rfl (vf<|J_ 0) (aQ rfl<|zg (G_ 3 hN)<|zg (G_ 4 hN) kg)<|qd<|za<|fU (c.1.1.1.2.mono (by decide)) I B.cl_Grove (qv 2)<|vv (zh<|aW j5 (qv 3)<|qv 4)<|zj<|vv (qv 3)<|qv 4)<|qa (S_ 5 hN<|C_ c.1.1.2 I<|jo<|qv 0)<|qa (fZ u2 (N_ J (qv 5)<|zj xw)<|qd<|S_ 5 hN<|C_ c.2 I<|vv (qv 2)<|qv 5)<|qd<|qr<|zh<|vv (cV fF rfl B.be bZ<|jo<|J_ 0)<|fU (c.1.1.1.1.1.2.mono (by decide)) I B.cl_Grove (qv 2)<|jo<|I_ (I_ (J_ 0) qf) qf)⟩
abbrev G7(V:V_):Prop:=GZ V/\Jx V (dS)
theorem Wn(V:V_)(B:B_ V)(c:GZ V):G7 V:=⟨c,M_ V _ _ B.hp B.D25 vR<|(eO).2 V B.toB0_ ⟨⟩⟩
abbrev G9(V:V_):Prop:=G7 V/\SA V (mC)
theorem Wo(V:V_)(B:B_ V)(c:G7 V):G9 V:=⟨c,M_ V _ _ B.hp B.D26 UB<|(kQ).2 V B.toB0_ ⟨⟩⟩
abbrev Ha(V:V_):Prop:=G9 V/\Gx V (iM)
theorem Wp(V:V_)(B:B_ V)(c:G9 V):Ha V:=⟨c,M_ V _ _ B.hp B.D27 UC<|(lF).2 V B.toB0_ ⟨⟩⟩
abbrev Hb(V:V_):Prop:=Ha V/\Jy V (oY)
theorem Wq(V:V_)(B:B_ V)(c:Ha V):Hb V:=⟨c,M_ V _ _ B.hp B.D28 SY<|(oJ).2 V B.toB0_ ⟨⟩⟩
abbrev Hc(V:V_):Prop:=Hb V/\Jz V (hX)
theorem Wr(V:V_)(B:B_ V)(c:Hb V):Hc V:=⟨c,M_ V _ _ B.hp B.D29 TD<|(u0).2 V B.toB0_ ⟨⟩⟩
abbrev Hd(V:V_):Prop:=Hc V/\SD V (wm 120)
theorem Ws(V:V_)(B:B_ V)(c:Hc V):Hd V:=⟨c,R_ V _ _ B.hp B.D30 sI u8 (λn=>(kM _).2 V B.toB0_ ⟨⟩ n) 120⟩
abbrev He(V:V_):Prop:=Hd V/\SE V (aF 120)
theorem Wt(V:V_)(B:B_ V)(c:Hd V):He V:=⟨c,R_ V _ _ B.hp B.D31 S4 S5 (λn=>(yk _).2 V B.toB0_ ⟨⟩ n) 120⟩
abbrev Hf(V:V_):Prop:=He V/\SF V (bH 120)
theorem Wu(V:V_)(B:B_ V)(c:He V):Hf V:=⟨c,R_ V _ _ B.hp B.D32 mU S1 (λn=>(gd _).2 V B.toB0_ ⟨⟩ n) 120⟩
abbrev Hg(V:V_):Prop:=Hf V/\SG V (w9 48)
theorem Wv(V:V_)(B:B_ V)(c:Hf V):Hg V:=⟨c,R_ V 122 [nq,"_law_word_here","_law_left_here","_law_right","_law_turn","_law_same","_law_low","_law_high"] B.hp B.D33 Td (Te (FS:=aF 120) λ_ _ _ h=>h) (λ_ _ I _ _ _ _ _ _ J hN U=>(qa (zm (E_ U (L_ B.ba<|qv 1) qf) (qa (za<|z7 (qv 0)<|jo<|C_ c.1.2 J<|jo<|qv 1)<|qa (za<|z7 (qv 0)<|jo<|qv 1)<|qd<|qr<|zj<|aW (zh<|aW j5 (qm cO (L_ B.ba<|qv 0) qf)<|qm cO (L_ B.ba<|qv 0) qf) (qm cO (L_ B.ba<|qv 0) qf)<|qm cO (L_ B.ba<|qv 0) qf) qz)<|qa (S_ 2 hN<|C_ I J<|vv (qv 0)<|J_ 1)<|qa (S_ 3 hN<|C_ I J<|vv (qv 0)<|J_ 1)<|qa (za<|z7 (qv 0)<|jo<|zh<|aW (I_ (C_ c.1.2 J<|jo<|qv 1) qf) (J_ 2)<|J_ 3)<|qa (za<|z7 (qv 0)<|jo<|zh<|aW (J_ 1) (J_ 2)<|J_ 3)<|qa (wR (i:=4) (j:=5) rfl hN rfl rfl (by decide) rfl rfl (vv (qm cO (L_ B.ba<|qv 0) qf)<|qm cO (L_ B.ba<|qv 0) qf) rfl)<|qa (S_ 6 hN<|eQ (E_ U (J_ 1) j5) (qv 4)<|qv 5)<|qa (S_ 7 hN<|eQ (E_ U (J_ 1) j5) (qv 5)<|qv 4)<|qd<|qr<|zj<|aW (zh<|aW j5 (qv 7)<|zh<|v5 j5<|aW (qv 6) (J_ 2)<|J_ 3) (qv 4)<|qv 5)) 48⟩
abbrev Hh(V:V_):Prop:=Hg V/\JA V (lu)
theorem Ww(V:V_)(B:B_ V)(c:Hg V):Hh V:=⟨c,M_ V _ _ B.hp B.D34 TK<|(JT).2 V B.toB0_ ⟨⟩⟩
abbrev Hi(V:V_):Prop:=Hh V/\JB V (iV)
theorem Wx(V:V_)(B:B_ V)(c:Hh V):Hi V:=⟨c,M_ V _ _ B.hp B.D35 TL<|(yc).2 V B.toB0_ ⟨⟩⟩
abbrev Hj(V:V_):Prop:=Hi V/\JC V (li)
theorem Wy(V:V_)(B:B_ V)(c:Hi V):Hj V:=⟨c,M_ V 170 [nq,"_law_forest","_law_one","_law_two","_law_first",nu,"_law_word_here","_law_second","_law_q","_law_at","_law_end","_law_rule","_law_same","_law_ends_here"] B.hp B.D36 (TU (FS:=aF 120) (MS:=w9 48) (λ_ _ _ h=>h)<|Vt (by decide) (by decide)) λ_ _ _ _ _ _ _ I hN J=>(qa (S_ 4 hN<|cM (qv 1)<|jo<|qm x8 (qv 3)<|L_ B.ba<|qv 1)<|qa (gj (i:=5) hN rfl (Or.inr rfl)<|I_ (J_ 4)<|qm x8 (qm wf (qv 3) qf)<|L_ B.ba<|J_ 4)<|qa (S_ 6 hN<|C_ c.1.1.1.1.1.2 I<|vv (qv 0)<|qv 5)<|qa (rX (zh<|vv ky ky)<|aQ rfl<|zg (G_ 7 hN)<|zg (fw (i:=8) hN rfl<|Or.inr rfl) kg)<|qa (vi u2 rfl (cK rfl B.bh<|jo<|L_ B.ba<|qv 1) (G_ 9 hN)<|qd<|vi u2 rfl (vf<|I_ (I_ (qv 1)<|qv 9) qf) (G_ 10 hN)<|qd<|zm (wu<|dQ (aC<|qv 7)<|ax<|E_ J (C_ c.1.1.1.1.1.2 I<|vv (qv 0)<|qv 10)<|C_ c.1.1.1.1.2 I<|jo<|qv 6) (qd<|rX (zh<|vv (I_ (qv 1)<|qv 9)<|qv 10)<|aQ rfl<|zg (G_ 7 hN)<|zg (fw (i:=8) hN rfl<|Or.inr rfl) kg) qz)<|qa (zm (wu<|dQ (aC<|qv 7)<|ax<|x5 Fo (C_ c.1.1.1.2 I<|jo<|qv 6) qf<|x6 _) (qa (za<|z7 (qv 1)<|jo<|qv 4)<|qd ye) qz)<|wr (zm (aC<|qv 7) (qa (rX (C_ c.1.1.2 I<|vv (qv 0)<|qv 6)<|RH rfl<|zg (G_ 11 hN)<|zg (fw (i:=8) hN rfl<|Or.inr rfl)<|zg (G_ 12 hN) kg)<|qd<|S_ 7 hN<|zj<|vv (qv 11)<|zj<|vv (qv 8)<|qv 12)<|qd<|za<|RJ J (qv 1)<|jo<|qv 7)<|qa (cN ["_law_x"] (i:=13) hN rfl (Or.inl rfl) (EL (by rfl)) rfl (vf<|qm jf (J_ 4)<|J_ 7) (fW DP (λ_ _ _ _=>Or.inl rfl) λ_ _ _ _=>rfl) (λ_ _ _ _=>cH<|x5 (rV _ _ _) (qv 14) (zh<|vv (qv 5)<|qv 8) (by with_unfolding_all rfl)) λ_ _ _ _=>(qv 14))<|qd<|zm (E_ J (qm x8 (qv 2) qf) qf) (qd<|za<|z7 (qv 1)<|jo<|zj<|vv (zh<|v5 j5<|v5 (qv 5)<|aW (qv 8) (J_ 4)<|J_ 7)<|qv 13)<|qd<|za<|z7 (qv 1)<|jo<|zj<|vv (zh<|v5 j5<|v5 (qv 8)<|aW (qv 5) (J_ 7)<|J_ 4)<|qv 13)⟩
abbrev Hk(V:V_):Prop:=Hj V/\JD V (iz)
theorem Wz(V:V_)(B:B_ V)(c:Hj V):Hk V:=⟨c,M_ V _ _ B.hp B.D37 TY<|(yN _ _ _ _ _).2 V B.toB0_ ⟨c.1.1.1.1.1.1.1.1.2,c.1.1.1.1.1.1.1.2,c.1.2,c.1.1.2,c.2⟩⟩
abbrev Hl(V:V_):Prop:=Hk V/\JE V (aR 120)
theorem WA(V:V_)(B:B_ V)(c:Hk V):Hl V:=⟨c,R_ V _ _ B.hp B.D38 UQ UU (λn=>(gf _).2 V B.toB0_ ⟨⟩ n) 120⟩
abbrev Hm(V:V_):Prop:=Hl V/\SH V (mE)
theorem WB(V:V_)(B:B_ V)(c:Hl V):Hm V:=⟨c,M_ V _ _ B.hp B.D39 UV<|(J6 _).2 V B.toB0_ c.2⟩
abbrev Ho(V:V_):Prop:=Hm V/\JF V (mQ)
theorem WC(V:V_)(B:B_ V)(c:Hm V):Ho V:=⟨c,M_ V 0 ["_law_web_here",nq,"_law_links","_law_cuts","_law_taken","_law_knot",nu,"_law_q"] B.hp B.D40 UW λ_ _ _ _ _ _ _ J hN I=>(qa (rX (qv 0)<|aQ rfl<|zg (fw (i:=1) hN rfl<|Or.inr rfl)<|zg (G_ 2 hN)<|zg (G_ 3 hN) kg)<|qa (gj (i:=4) hN rfl (Or.inr rfl) sC)<|qa (vi u2 rfl (vf<|qv 1) (G_ 5 hN)<|qd<|zm (wu<|dQ (fu<|qv 5)<|ax<|E_ I (L_ B.ba<|qv 5) qf) (qa (gH I (qv 4) (J_ 5) bw)<|qd<|gH I (qv 4) (J_ 5) bw) qz)<|qa (vi u2 rfl (vf<|qv 3) (aQ rfl<|zg (G_ 6 hN)<|zg (G_ 7 hN) kg)<|qa (gH I (qv 4) (qv 6) bw)<|qd<|gH I (qv 4) (qv 7) bw)<|qd<|y4 "_law_p'"<|qr<|n9 [nu] (EL (by rfl)) rfl (cK rfl B.bh<|jo<|L_ B.ba<|qv 1) (fW DP (λ_ _ _ _=>Or.inl rfl) λ_ _ _ _=>rfl) (λ_ _ _ _=>cH<|wu<|dQ (fu<|I_ (qv 1)<|qv 8)<|ax<|x5 (UI I) (qv 8) (qv 4) (by with_unfolding_all rfl)) λ_ _ _ _=>(qv 8))⟩
abbrev Hq(V:V_):Prop:=Ho V/\JG V (fq V.Pt)
theorem WD(V:V_)(B:B_ V)(c:Ho V):Hq V:=⟨c,T_ V 1 [nq,"_law_seed","_law_ranks",nu,"_law_knot","_law_rank"] B.hp B.D41 UL λ_ _ _ _ _ _ _ C I hN J=>(qa (gj (i:=2) hN rfl (Or.inr rfl)<|zj xw)<|qa (vi u2 rfl (dM rfl B.bg<|qv 0) (aQ rfl<|zg (G_ 3 hN)<|zg (G_ 4 hN) kg)<|qa (S_ 5 hN<|qm x8 (C_ c.1.1.1.1.1.1.1.1.1.1.1.1.2 I<|aW (qv 1) (qv 3) qf) qf)<|wr (zm (E_ J (L_ B.ba<|qv 4) qf) (qd<|S_ 5 hN<|qm jf (qm jf (qv 5) qf)<|aB IM rfl B.bn Iq<|vv (I_ (qv 2)<|J_ 4)<|I_ (qv 2)<|J_ 4) qz)<|qd<|za<|z7 (qv 2)<|jo<|qv 5)<|qd<|qr<|T6 rfl B.bj (mV rfl rfl B.be rfl B.bh<|L_ B.ba<|qv 0) ⟨rfl,rfl,rfl,by decide +kernel,rfl,rfl,by decide,by decide,by decide⟩ C (Ue I) rfl rfl rfl ⟨_,rfl,rfl⟩ rfl λ_ _ _ _ _ _ _=>rfl)⟩
abbrev Hr(V:V_):Prop:=Hq V/\JH V (bQ 120)
theorem WE(V:V_)(B:B_ V)(c:Hq V):Hr V:=⟨c,R_ V _ _ B.hp B.D42 UM Vp (λn=>(u5 _).2 V B.toB0_ ⟨⟩ n) 120⟩
abbrev Hs(V:V_):Prop:=Hr V/\SI V (mP V.Pt)
theorem WF(V:V_)(B:B_ V)(c:Hr V):Hs V:=⟨c,M_ V _ _ B.hp B.D43 UZ<|(J7 _ _ _).2 V B.toB0_ ⟨c.1.1.1.1.1.1.1.1.1.1.1.1.1.1.1.2,c.1.2,c.2⟩⟩
abbrev Ht(V:V_):Prop:=Hs V/\Fy V (bG)
theorem WG(V:V_)(B:B_ V)(c:Hs V):Ht V:=⟨c,M_ V _ _ B.hp B.D44 Vr<|(gg).2 V B.toB0_ ⟨⟩⟩
abbrev Hu(V:V_):Prop:=Ht V/\SJ V (az 4)
theorem WH(V:V_)(B:B_ V)(c:Ht V):Hu V:=⟨c,R_ V _ _ B.hp B.D45 Vn Vs (λn=>(ui _ _).2 V B.toB0_ c.2 n) 4⟩
abbrev Hv(V:V_):Prop:=Hu V/\JI V (ft)
theorem WI(V:V_)(B:B_ V)(c:Hu V):Hv V:=⟨c,M_ V _ _ B.hp B.D46 zI<|(vH _).2 V B.toB0_ c.1.2⟩
abbrev Hw(V:V_):Prop:=Hv V/\JJ V (iF)
theorem WJ(V:V_)(B:B_ V)(c:Hv V):Hw V:=⟨c,M_ V 0 ["_law_ends_here","_law_parts","_law_more",nu] B.hp B.D47 VW λ_ _ _ _ _ _ _ I hN J=>(qa (zm (aC<|qv 0) (qd<|qr ky) qz)<|qa (vi u2 rfl (s9<|qv 1) (G_ 3 hN)<|qd<|zm (x5 (rV _ _ _) (qv 3) (qv 0) (by with_unfolding_all rfl)) (qd<|qr ky) qz)<|qd<|y4 "_law_p'"<|qr<|qm (Jg _ _ _) (n9 [nu] (EL (by rfl)) rfl (vf<|qv 0) (fW DP (λ_ _ _ _=>Or.inl rfl) λ_ _ _ _=>rfl) (λ_ _ _ _=>cH<|x5 (rV _ _ _) (qv 4) (qv 1) (by with_unfolding_all rfl)) λ_ _ _ _=>(qv 4))<|qv 2)⟩
abbrev Hx(V:V_):Prop:=Hw V/\JK V (k8)
theorem WK(V:V_)(B:B_ V)(c:Hw V):Hx V:=⟨c,M_ V _ _ B.hp B.D48 VR<|(xZ _).2 V B.toB0_ c.1.1.1.2⟩
abbrev Hy(V:V_):Prop:=Hx V/\JL V (bA 120)
theorem WL(V:V_)(B:B_ V)(c:Hx V):Hy V:=⟨c,R_ V _ _ B.hp B.D49 VX VY (λn=>(tw _ _ _ _).2 V B.toB0_ ⟨c.1.1.2,c.2,c.1.2⟩ n) 120⟩
abbrev Hz(V:V_):Prop:=Hy V/\SK V (fz)
theorem WM(V:V_)(B:B_ V)(c:Hy V):Hz V:=⟨c,M_ V _ _ B.hp B.D50 V3<|(uU _ _).2 V B.toB0_ ⟨c.2,c.1.1.1.1.1.1.1.1.1.2⟩⟩
abbrev HA(V:V_):Prop:=Hz V/\SM V (lg)
theorem WN(V:V_)(B:B_ V)(c:Hz V):HA V:=⟨c,M_ V _ _ B.hp B.D51 Uw<|(kO).2 V B.toB0_ ⟨⟩⟩
abbrev Kl(V:V_):Prop:=HA V/\SN V (mM)
theorem WO(V:V_)(B:B_ V)(c:HA V):Kl V:=⟨c,M_ V _ _ B.hp B.D52 UE<|(lD _ _ _).2 V B.toB0_ ⟨c.1.1.1.1.1.1.1.1.1.1.1.1.1.1.1.1.1.1.1.1.1.1.1.1.2,c.1.1.1.1.1.1.1.1.1.1.1.1.1.1.2,c.1.1.1.1.1.1.1.1.1.1.1.1.1.1.1.1.1.1.1.1.1.1.1.1.1.1.2⟩⟩
theorem dL(V:V_)(B:B_ V)(c:Kl V){f:Addr}{fd:FuncData}(F:Fun V.K "law" "law" uf f fd):Fn3 V.P V.w V.K V.mg V.base 174 f fd [nj] (mO V.Pt lamQ):=
 W_ V 173 [nj,"_law_stir_here","_law_web_here","_law_handed","_law_found"] F V6 λ_ _ _ _ _ _ I hN J=>(qa (S_ 1 hN<|C_ c.1.1.1.1.1.1.1.1.1.1.1.1.1.1.1.1.1.1.1.1.1.1.1.1.1.1.2 I<|jo<|qv 0)<|qa (S_ 2 hN<|C_ c.1.1.1.1.1.1.1.1.1.1.1.1.1.2 I<|jo<|C_ c.1.1.1.1.1.1.1.1.1.2 I<|vv (C_ c.2 I<|aW (qv 0) (qv 1) qf)<|qv 1)<|qa (S_ 3 hN<|C_ c.1.2 I<|jo<|qv 2)<|qa (S_ 4 hN<|C_ c.1.1.1.1.1.1.1.1.1.1.1.1.1.1.1.1.1.1.1.1.1.1.1.1.1.1.1.1.2 I<|jo<|qv 3)<|qa (zm (wu<|ao (aI<|js<|vt .tuple rfl B.bb rfl B.bi bR<|qv 4)<|ao (N_ J (L_ B.ba<|qv 4) qf)<|bM<|aI<|js<|C_ c.1.1.1.1.1.1.1.2 I<|vv (J_ 4)<|J_ 2) (qd<|qr bw) qz)<|qa (zm (wu<|ao (aI<|js<|C_ c.1.1.2 I<|vv (qv 2)<|J_ 4)<|bM<|aI<|js<|C_ c.1.1.1.1.1.1.1.2 I<|vv (C_ c.1.1.1.1.1.1.1.1.1.1.1.1.1.2 I<|jo<|qv 4)<|qv 2) (qd<|qr bw) qz)<|qa (za<|z7 (J_ 4)<|jo ky)<|qd<|qr<|C_ c.1.1.1.1.1.1.1.2 I<|vv (qv 3)<|qv 2)
theorem all_mk{l:PySem.W.OpenLaw}{w:Xm}{K:Ai}{h:Xn}{mg:W5}{fa:Addr}{I:Addr}{g:Option Addr}{j:Nat}{o:Array<|Xf}{J U:Tok}{r:Addr}{p:Addr}{Pt:Addr}(X:K.In h)(G:h.Ns mainGlobals mg)(t:mg "law"=some (.ref fa))
 (D0:kj K r "__init__" "Pieces.__init__" gc)
 (D1:kj K r "head_of" "Pieces.head_of" cg)
 (D2:kj K r "unite" "Pieces.unite" fK)
 (D3:qw K "is_leaf" qT)
 (D4:qw K "places_there" bT)
 (D5:qw K "parts_of" gn)
 (D6:qw K "eithers_of" dN)
 (D7:qw K "boths_of" gx)
 (D8:qw K "part_edges" dU)
 (D9:qw K "joins_of" gz)
 (D10:qw K "join_steps" hZ)
 (D11:qw K "can_fold" nG)
 (D12:qw K "fold_steps" hU)
 (D13:qw K "steps_by" nz)
 (D14:qw K "all_come_together" we)
 (D15:qw K "right_web" dz)
 (D16:qw K "first_bad" fD)
 (D17:kj K p "__init__" "Grove.__init__" iI)
 (D18:kj K p "rule_at" "Grove.rule_at" db)
 (D19:kj K p "is_one" "Grove.is_one" eJ)
 (D20:kj K p "grow" "Grove.grow" iY)
 (D21:qw K "rules_due" fM)
 (D22:qw K "arms_for" oC)
 (D23:qw K "grow_all" n8)
 (D24:qw K "tree_of" qQ)
 (D25:qw K "_law_cell_at" bN)
 (D26:qw K "_law_stir" dr)
 (D27:qw K "_law_pick" fA)
 (D28:qw K "_law_mix" gq)
 (D29:qw K "_law_name" f8)
 (D30:qw K "_law_word" fP)
 (D31:qw K "_law_flip" fV)
 (D32:qw K "_law_weight" bz)
 (D33:qw K "_law_mirror" ga)
 (D34:qw K "_law_join" eX)
 (D35:qw K "_law_fold" eS)
 (D36:qw K "_law_cut" oG)
 (D37:qw K "_law_tree" fN)
 (D38:qw K "_law_gather" cA)
 (D39:qw K "_law_web" gp)
 (D40:qw K "_law_open" lM)
 (D41:DefInT K "_law_order" s__law_order Pt)
 (D42:qw K "_law_moved" dO)
 (D43:qw K "_law_gapped" cD)
 (D44:qw K "_law_number" bx)
 (D45:qw K "_law_alike" dI)
 (D46:qw K "_law_link_ends" aT)
 (D47:qw K "_law_left" lJ)
 (D48:qw K "_law_here" fE)
 (D49:qw K "_law_ends" f6)
 (D50:qw K "_law_sound" dH)
 (D51:qw K "_law_copy" du)
 (D52:qw K "_law_sown" eG)
 (D53:qw K "law" uf)
 (aLEAF_KINDS:PySem.W.nsIn K mainGlobals "LEAF_KINDS"=some (some<|.ref I))
 (lLEAF_KINDS:K.lookup I=some ⟨.type "tuple",g,.seq #[.str "plain" J,.str "turned" U] j,o⟩)
 (aCPieces:PySem.W.nsIn K mainGlobals "Pieces"=some (some<|.ref r))
 (aCGrove:PySem.W.nsIn K mainGlobals "Grove"=some (some<|.ref p))
 (clPieces:Cls K r)
 (mAPieces:PySem.W.makesIn K r=true)
 (mKPieces:PySem.W.keepIn K (.ref r)=true)
 (clGrove:Cls K p)
 (mAGrove:PySem.W.makesIn K p=true)
 (mKGrove:PySem.W.keepIn K (.ref p)=true)
 (xf:L3.XFG K p r)
 (zlist:PySem.W.nsIn K mainGlobals "list"=some none)
 (zrange:PySem.W.nsIn K mainGlobals "range"=some none)
 (zenumerate:PySem.W.nsIn K mainGlobals "enumerate"=some none)
 (zlen:PySem.W.nsIn K mainGlobals "len"=some none)
 (zisinstance:PySem.W.nsIn K mainGlobals "isinstance"=some none)
 (ztuple:PySem.W.nsIn K mainGlobals "tuple"=some none)
 (zsorted:PySem.W.nsIn K mainGlobals "sorted"=some none)
 (zmax:PySem.W.nsIn K mainGlobals "max"=some none)
 (zmin:PySem.W.nsIn K mainGlobals "min"=some none)
 (zint:PySem.W.nsIn K mainGlobals "int"=some none)
 (zbool:PySem.W.nsIn K mainGlobals "bool"=some none)
 (zstr:PySem.W.nsIn K mainGlobals "str"=some none):
 ∃fd:FuncData,(∀(s:Xk) (v:Xj),BindsTo s fd ⟨[v],[]⟩ [(nj,v)])/\∀base:Xn,K.In base->base.Ns mainGlobals mg->bL l.prog w K mg base CX0 174 fa fd [nj] (spTopT lamQ K Pt):=by
 obtain⟨fL,kV,C,pm,an,T,ct,aL,FL⟩:=D53.ex;have e:=t.symm.trans<|CA X G aL;cases e;refine⟨PySem.W.fnOf "law" "law" (x4 uf) (j6 uf) (qt uf) .none kV C pm an T ct,λs v=>.of_eq rfl,λbase _ _=>?_⟩;have B:B_ ⟨l.prog,w,K,mg,base,Pt,r,p⟩:=⟨⟨Bq X G zlist,Bq X G zrange,Bq X G zenumerate,Bq X G zlen,Bq X G zisinstance,Bq X G ztuple,Bq X G zsorted,Bq X G zmax,Bq X G zmin,Bq X G zint,Bq X G zbool,Bq X G zstr,⟨I,CA X G aLEAF_KINDS,λH=>⟨I,[V.str "plain",V.str "turned"],rfl,.inr ⟨_,_,_,lLEAF_KINDS,rfl,rfl,by show 2<=sizeLine;decide,.cons ⟨_,rfl⟩<|.cons ⟨_,rfl⟩<|.nil⟩,⟨_,_,rfl,rfl,⟨_,_,rfl,rfl,rfl⟩⟩⟩⟩⟩,⟨h,X,G⟩,D0,D1,D2,D3,D4,D5,D6,D7,D8,D9,D10,D11,D12,D13,D14,D15,D16,D17,D18,D19,D20,D21,D22,D23,D24,D25,D26,D27,D28,D29,D30,D31,D32,D33,D34,D35,D36,D37,D38,D39,D40,D41,D42,D43,D44,D45,D46,D47,D48,D49,D50,D51,D52,CA X G aCPieces,CA X G aCGrove,clPieces,mAPieces,mKPieces,clGrove,mAGrove,mKGrove,xf⟩;exact bL.imp (dL _ B (WO _ B<|WN _ B<|WM _ B<|WL _ B<|WK _ B<|WJ _ B<|WI _ B<|WH _ B<|WG _ B<|WF _ B<|WE _ B<|WD _ B<|WC _ B<|WB _ B<|WA _ B<|Wz _ B<|Wy _ B<|Wx _ B<|Ww _ B<|Wv _ B<|Wu _ B<|Wt _ B<|Ws _ B<|Wr _ B<|Wq _ B<|Wp _ B<|Wo _ B<|Wn _ B<|Wm _ B<|Wl _ B<|Wk _ B<|Wj _ B<|Wi _ B<|Wh _ B<|Wg _ B<|Wf _ B<|We _ B<|Wc _ B<|Wb _ B<|Wa _ B<|V' _ B<|V9 _ B<|V8 _ B<|d10 _ B<|d9 _ B<|d8 _ B<|d7 _ B<|d6 _ B<|d5 _ B<|d4 _ B<|d3 _ B<|d2 _ B<|d1 _ B trivial) FL) λvs H Q E q=>T8 q
theorem def_inT{K:Ai}{x:Str}{st:Stmt}{f Pt:Addr}{oc:Xj}{od an:Option Addr}{mD:Array<|Xf}{kV ir pm fm ct:Xj}(a:PySem.W.nsIn K mainGlobals x=some (some<|.ref f))
 (l:K.lookup f=some ⟨oc,od,.func<|PySem.W.fnOf x x (x4 st) (j6 st) (qt st) .none kV ir pm an fm ct,mD⟩) (c:PySem.W.codeIn K fm x=true) (k:PySem.W.keepIn K (.ref f)=true) (C:DT K fm Pt):DefInT K x st Pt:=
 ⟨f,kV,ir,pm,an,fm,ct,a,⟨⟨oc,od,kV,ir,pm,an,fm,ct,mD,rfl,l,c,C⟩,k⟩⟩
end K43
namespace H43
noncomputable section
open PySem PySem.W PySem.W.X L2 L3 PyProof.Rows
abbrev rr:=PySem.Challenge.rw_oncewise_k43_the_tree_told_back
abbrev p:Xl:=PySem.Challenge.pw_oncewise_k43_the_tree_told_back
abbrev top:=L3.top
abbrev gY(i k:Nat):Stmt:=(bq<|top i).getD k<|.Pass ⟨0,0,0,0⟩
abbrev s(x:Xo):Str:=Str.ofString x
noncomputable abbrev S (x:Xo) (t:Tok):Xj:=.str (Str.ofString x) t
noncomputable abbrev I (i:Int) (t:Tok):Xj:=.int i t
noncomputable abbrev R (a:Addr):Xj:=.ref a
abbrev E(P:Params)(k:Xo)(t:Tok)(v:Xj):DictEntry:=⟨PyData.keyHash P<|Str.ofString k,.str (Str.ofString k) t,v⟩
noncomputable abbrev O (c:Xj) (d:Data):Obj:=⟨c,none,d,#[]⟩
abbrev FN(n q:Xo)(st:Stmt)(I kV ir pm:Xj)(an:Option Addr)(cd ct:Xj):FuncData:=fnOf (Str.ofString n) (Str.ofString q) (x4 st) (j6 st) (qt st) I kV ir pm an cd ct
abbrev FG(n q:Xo)(st:Stmt):FuncData:={ fnOf (Str.ofString n) (Str.ofString q) (x4 st) (j6 st) (qt st) .none .none .none .none none .none .none with globals:=0 }
abbrev tu(l:W9):Obj:=O (.type "tuple")<|.seq l 0
abbrev fo(f:FuncData):Obj:=O (.type "function")<|.func f
abbrev go(f:FuncData):Obj:=O .none<|.func f
abbrev co(n q:Xo)(t l a b c J v:Nat)(o:Bool)(m k:Nat)(x y z u:Xj)(d:Nat):Obj:=O (.type "code")<|.fields #[S n t,S q<|t+1,S "/claim/cut.py"<|t+2,I l 0,I a 0,I b 0,I c 0,I J 0,R v,.bool o,I m 0,R k,x,y,z,u,I d 0,I l 0,S "/claim/cut.py"<|d+1]
abbrev iW:Xj:=S "law_oncewise_k43_the_tree_told_back" 514
abbrev p_:Xj:=S "oncewise.shrinking" 317
abbrev FD:Xj:=S "oncewise.wayback" 409
abbrev HB:Xj:=S "oncewise.webs" 296
abbrev fX(n:Xo)(i:Nat)(m:Xj)(r:Nat):Obj:=fo<|FN n n (top i) .none .none .none m none (R r) .none
abbrev gX(n:Xo)(i:Nat):Obj:=go<|FG n n<|top i
abbrev cF(n:Xo)(t l a v d:Nat):Obj:=co n n t l a 0 0 3 v true 181 (v+1) .none (R<|v+2) (R<|v+3) (R<|v+4) d
abbrev cC(n:Xo)(t l v d:Nat):Obj:=co n n t l 0 0 0 0 v false 181 (v+1) .none .none .none .none d
abbrev cS(n:Xo)(a I k t v:Nat):Obj:=⟨.type "type",none,.cls<|ClassData.mk (s n) [R 24] [R a,R 24,.type "ValueError",.type "Exception",.type "BaseException",.type "object"] I (s n) true [] [] false none false,#[some<|R k,none,some<|S n t,some<|S n v,some<|.builtin "ValueError.__new__",some<|.bool true]⟩
abbrev dB(P:Params)(a q:Nat)(n:Xo)(J b:Nat)(l:Int)(c d r:Nat):Obj:=O (.type "dict")<|.dict #[E P "__module__" a<|S "oncewise.errors" 187,E P "__qualname__" q<|S n J,E P "__firstlineno__" b<|I l c,E P "__static_attributes__" d<|R r] 4
abbrev fR(a b:Nat):Obj:=⟨.type "frame",none,.plain,#[some<|R a,some<|R 3,some<|R b,none,some<|S "oncewise.errors" 187,none,some<|R 0]⟩
abbrev bI(a:Nat):Obj:=O (.type "builtin_function_or_method")<|.fields #[.builtin "object.__init_subclass__",R a]
abbrev sU(a:Nat):Obj:=O (.type "super")<|.fields #[R a,R a,R a]
abbrev Ob:=Params->Obj
def ev{α:Type}:Bool->List α->List α
 |_,[]=>[]
 |true,x::r=>x::ev false r
 |false,_::r=>ev true r
def bt:Nat->List Obj->BT
 |0,_=>.nil
 |_,[]=>.nil
 |n+1,x::r=>.node x (bt n<|ev true r)<|bt n<|ev false r
def env0:Env:={ scope:=p.main.scope,locals:=mainNs,globals:=mainNs,cells:=[],code:=.ref 13,frame:=some 14 }
abbrev cE:Code:=.body (behindTheImports p) env0
abbrev q0:Pos:=⟨0,0,0,0⟩
abbrev an:Xf:=some<|.ref 6
abbrev Pc(n:Nat)(S I:Xm->OsState->SharedT)(l:Xd)(q J:Pos)(w:Xm):Prop:=(λos=>segRunT treeTable p w 11 an 1 n (S w os)<|piecesOf l env0 cE q [topFrame q0])=λos=>some (Flow.next,I w os,cE,J)
abbrev b0:=PySem.W.boot_o_0
abbrev b1:=PySem.W.boot_o_1
abbrev b2:=PySem.W.boot_o_2
abbrev b3:=PySem.W.boot_o_3
abbrev b4:=PySem.W.boot_o_4
abbrev b5:=PySem.W.boot_o_5
abbrev b6:=PySem.W.boot_o_6
abbrev b7:=PySem.W.boot_o_7
abbrev b8:=PySem.W.boot_o_8
abbrev b9:=PySem.W.boot_o_9
abbrev FE:=PySem.W.boot_o_10
def jx:Ob:=λ_=>tu #[]
def aA:Ob:=λ_=>O .none<|.fields #[]
def FF:Ob:=λ_=>cC "<module>" 182 1 11 185
def HE:Ob:=λ_=>⟨(.type "frame"),none,.plain,#[(some<|R 13),(some<|R 3),(some<|R 3),none,(some<|S "__main__" 164),none,(some<|R 0)]⟩
def Km:Ob:=λP=>O (.type "dict")<|.dict #[(E P "__module__" 196<|S "oncewise.errors" 187),(E P "__firstlineno__" 200<|I 2 199),(E P "__static_attributes__" 201<|R 22),(E P "__weakref__" 203<|R 25),(E P "__doc__" 204 .none)] 3
def Ko:Ob:=λ_=>O (.type "getset_descriptor")<|.fields #[S "__weakref__" 202,R 24,(.builtin "ExceptionGroup.__weakref__"),.none]
def FH:Ob:=λ_=>O (.type "builtin_function_or_method")<|.fields #[(.builtin "type.__prepare__"),(.type "type")]
def Kp:Ob:=λP=>O (.type "dict")<|.dict #[(E P "__module__" 214<|S "oncewise.errors" 187),(E P "__firstlineno__" 218<|I 4 217),(E P "__init__" 227<|R 41),(E P "__static_attributes__" 229<|R 42),(E P "__doc__" 230 .none)] 2
def Kq:Ob:=λ_=>fo<|FN "__init__" "NoTree.__init__" (gY 2 0) .none .none .none (S "oncewise.errors" 187) none (R 40) .none
def Kr:Ob:=λ_=>⟨(.type "type"),none,(.cls<|ClassData.mk (s "OnceError") [(.type "ValueError")] [R 24,(.type "ValueError"),(.type "Exception"),(.type "BaseException"),(.type "object")] 23 (s "OnceError") true [] [R 44] false none false),#[(some<|R 15),none,(some<|S "OnceError" 189),(some<|S "OnceError" 197),(some<|.builtin "ValueError.__new__"),(some<|.bool true)]⟩
def Ks:Ob:=λ_=>co "__init__" "NoTree.__init__" 219 6 3 0 0 3 35 true 181 36 .none (R 37) (R 38) (R 39) 225
def Kt:Ob:=λ_=>cS "NoTree" 44 43 28 207 215
def Ku:Ob:=λ_=>O (.type "getset_descriptor")<|.fields #[S "__weakref__" 279,R 77,(.builtin "ExceptionGroup.__weakref__"),.none]
def Kv:Ob:=λ_=>fo<|FN "head_of" "Pieces.head_of" (gY 4 1) .none .none .none (S "oncewise.pieces" 233) none (R 66) .none
def Kw:Ob:=λ_=>co "__init__" "Pieces.__init__" 247 12 2 0 0 3 54 true 181 55 .none (R 56) (R 57) (R 58) 252
def Kx:Ob:=λ_=>co "unite" "Pieces.unite" 264 22 3 0 0 3 68 true 181 69 .none (R 70) (R 71) (R 72) 272
def Ky:Ob:=λ_=>fo<|FN "is_leaf" "is_leaf" (top 7) .none .none .none (S "oncewise.words" 284) none (R 88) .none
def Kz:Ob:=λ_=>⟨(.type "type"),none,(.cls<|ClassData.mk (s "Pieces") [(.type "object")] [R 77,(.type "object")] 76 (s "Pieces") true [] [] false none false),#[none,none,(some<|S "Pieces" 235),(some<|S "Pieces" 243),(some<|.builtin "object.__new__"),(some<|.bool true)]⟩
def KA:Ob:=λ_=>co "places_there" "places_there" 298 32 1 0 0 3 90 true 181 91 .none .none .none (R 92) 301
def KC:Ob:=λ_=>cF "is_leaf" 289 29 1 83 293
def KE:Ob:=λP=>O (.type "dict")<|.dict #[(E P "__module__" 242<|S "oncewise.pieces" 233),(E P "__firstlineno__" 246<|I 10 245),(E P "__init__" 254<|R 60),(E P "head_of" 263<|R 67),(E P "unite" 274<|R 74),(E P "__static_attributes__" 276<|R 75),(E P "__dict__" 278<|R 78),(E P "__weakref__" 280<|R 79),(E P "__doc__" 281 .none)] 4
def KG:Ob:=λ_=>fo<|FN "__init__" "Pieces.__init__" (gY 4 0) .none .none .none (S "oncewise.pieces" 233) none (R 59) .none
def KH:Ob:=λ_=>co "head_of" "Pieces.head_of" 255 15 2 0 0 3 61 true 181 62 .none (R 63) (R 64) (R 65) 261
def KI:Ob:=λ_=>tu #[S "plain" 286,S "turned" 287]
def KJ:Ob:=λ_=>fo<|FN "unite" "Pieces.unite" (gY 4 2) .none .none .none (S "oncewise.pieces" 233) none (R 73) .none
def KL:Ob:=λ_=>O (.type "getset_descriptor")<|.fields #[S "__dict__" 277,R 77,(.builtin "function.__dict__"),(.builtin "function.__dict__#set")]
def KN:Ob:=λ_=>fX "places_there" 9 HB 93
def KO:Ob:=λ_=>fX "boths_of" 13 p_ 110
def KP:Ob:=λ_=>fX "can_fold" 17 p_ 134
def KQ:Ob:=λ_=>fX "right_web" 21 p_ 162
def KR:Ob:=λ_=>co "part_edges" "part_edges" 325 43 2 0 0 3 112 true 181 113 .none .none .none (R 114) 328
def KS:Ob:=λ_=>cF "all_come_together" 377 72 3 150 384
def KU:Ob:=λ_=>fX "joins_of" 15 p_ 122
def KY:Ob:=λ_=>cF "join_steps" 338 50 2 124 346
def KZ:Ob:=λ_=>co "eithers_of" "eithers_of" 311 38 1 0 0 3 102 true 181 103 .none .none .none (R 104) 314
def K1:Ob:=λ_=>cF "first_bad" 394 77 1 164 406
def K2:Ob:=λ_=>fX "parts_of" 10 HB 100
def K3:Ob:=λ_=>fX "steps_by" 19 p_ 148
def K4:Ob:=λ_=>cF "fold_steps" 355 59 3 136 364
def K5:Ob:=λ_=>cF "parts_of" 304 34 1 95 308
def K6:Ob:=λ_=>cF "steps_by" 367 69 3 143 374
def K7:Ob:=λ_=>fX "part_edges" 14 p_ 115
def K8:Ob:=λ_=>fX "all_come_together" 20 p_ 155
def K9:Ob:=λ_=>fX "join_steps" 16 p_ 129
def K_:Ob:=λ_=>cF "right_web" 387 75 1 157 391
def K':Ob:=λ_=>fX "eithers_of" 11 HB 105
def La:Ob:=λ_=>fX "first_bad" 22 p_ 169
def Lb:Ob:=λ_=>cF "joins_of" 331 48 1 117 335
def Lc:Ob:=λ_=>co "can_fold" "can_fold" 349 56 3 0 0 3 131 true 181 132 .none .none .none (R 133) 352
def Ld:Ob:=λ_=>fX "fold_steps" 18 p_ 141
def Le:Ob:=λ_=>co "boths_of" "boths_of" 319 41 1 0 0 3 107 true 181 108 .none .none .none (R 109) 322
def Lf:Ob:=λ_=>fo<|FN "rule_at" "Grove.rule_at" (gY 24 1) .none .none .none (S "oncewise.wayback" 409) none (R 190) .none
def Lg:Ob:=λP=>O (.type "dict")<|.dict #[(E P "__module__" 418<|S "oncewise.wayback" 409),(E P "__firstlineno__" 422<|I 91 421),(E P "__init__" 430<|R 184),(E P "rule_at" 438<|R 191),(E P "is_one" 447<|R 198),(E P "grow" 457<|R 205),(E P "__static_attributes__" 460<|R 206),(E P "__dict__" 462<|R 209),(E P "__weakref__" 464<|R 210),(E P "__doc__" 465 .none)] 4
def Lh:Ob:=λ_=>co "__init__" "Grove.__init__" 423 93 2 0 0 3 178 true 181 179 .none (R 180) (R 181) (R 182) 428
def Li:Ob:=λ_=>fX "rules_due" 25 FD 218
def Lj:Ob:=λ_=>cF "arms_for" 480 116 3 220 487
def Lk:Ob:=λ_=>O (.type "getset_descriptor")<|.fields #[S "__dict__" 461,R 208,(.builtin "function.__dict__"),(.builtin "function.__dict__#set")]
def Ll:Ob:=λ_=>co "is_one" "Grove.is_one" 439 100 3 0 0 3 192 true 181 193 .none (R 194) (R 195) (R 196) 445
def Lm:Ob:=λ_=>fo<|FN "grow" "Grove.grow" (gY 24 3) .none .none .none (S "oncewise.wayback" 409) none (R 204) .none
def Ln:Ob:=λ_=>⟨(.type "type"),none,(.cls<|ClassData.mk (s "Grove") [(.type "object")] [R 208,(.type "object")] 207 (s "Grove") true [] [] false none false),#[none,none,(some<|S "Grove" 411),(some<|S "Grove" 419),(some<|.builtin "object.__new__"),(some<|.bool true)]⟩
def Lo:Ob:=λ_=>fo<|FN "__init__" "Grove.__init__" (gY 24 0) .none .none .none (S "oncewise.wayback" 409) none (R 183) .none
def Lp:Ob:=λ_=>co "grow" "Grove.grow" 448 103 3 0 0 3 199 true 181 200 .none (R 201) (R 202) (R 203) 455
def Lq:Ob:=λ_=>fX "arms_for" 26 FD 225
def Lr:Ob:=λ_=>O (.type "getset_descriptor")<|.fields #[S "__weakref__" 463,R 208,(.builtin "ExceptionGroup.__weakref__"),.none]
def Ls:Ob:=λ_=>cF "rules_due" 468 107 1 213 477
def Lu:Ob:=λ_=>fo<|FN "is_one" "Grove.is_one" (gY 24 2) .none .none .none (S "oncewise.wayback" 409) none (R 197) .none
def Lv:Ob:=λ_=>co "rule_at" "Grove.rule_at" 431 97 2 0 0 3 185 true 181 186 .none (R 187) (R 188) (R 189) 436
def Lw:Ob:=λ_=>fX "_law_flip" 36 iW 286
def Lx:Ob:=λ_=>cF "tree_of" 502 132 1 234 511
def Ly:Ob:=λ_=>cF "_law_word" 557 166 2 274 563
def Lz:Ob:=λ_=>fX "_law_cell_at" 30 iW 246
def LA:Ob:=λ_=>cF "_law_mix" 542 155 3 262 548
def LB:Ob:=λ_=>fX "_law_name" 34 iW 272
def LC:Ob:=λ_=>co "_law_join" "_law_join" 595 193 4 0 0 3 302 true 181 303 .none .none .none (R 304) 598
def LD:Ob:=λ_=>fX "grow_all" 27 FD 232
def LG:Ob:=λ_=>fX "_law_pick" 32 iW 260
def LH:Ob:=λ_=>cF "_law_weight" 574 176 1 288 578
def LI:Ob:=λ_=>fX "_law_mirror" 38 iW 300
def LJ:Ob:=λ_=>cF "_law_stir" 524 148 1 248 531
def LK:Ob:=λ_=>co "_law_name" "_law_name" 551 157 2 0 0 3 269 true 181 270 .none .none .none (R 271) 554
def LL:Ob:=λ_=>fX "tree_of" 28 FD 239
def LM:Ob:=λ_=>cF "grow_all" 490 123 2 227 499
def LN:Ob:=λ_=>fX "_law_word" 35 iW 279
def LP:Ob:=λ_=>cF "_law_pick" 534 153 2 255 539
def LQ:Ob:=λ_=>fX "_law_mix" 33 iW 267
def LR:Ob:=λ_=>cF "_law_mirror" 581 180 2 295 592
def LS:Ob:=λ_=>fX "_law_join" 39 iW 305
def LU:Ob:=λ_=>fX "_law_weight" 37 iW 293
def LV:Ob:=λ_=>cF "_law_cell_at" 516 144 2 241 521
def LW:Ob:=λ_=>cF "_law_flip" 566 171 1 281 571
def LX:Ob:=λ_=>fX "_law_stir" 31 iW 253
def LY:Ob:=λ_=>cF "_law_link_ends" 711 332 3 378 719
def LZ:Ob:=λ_=>fX "_law_order" 46 iW 350
def L8:Ob:=λ_=>co "_law_open" "_law_open" 655 273 1 0 0 3 340 true 181 341 .none .none .none (R 342) 658
def L9:Ob:=λ_=>co "_law_moved" "_law_moved" 673 292 2 0 0 3 352 true 181 353 .none .none .none (R 354) 676
def Ma:Ob:=λ_=>fX "_law_web" 44 iW 338
def Mb:Ob:=λ_=>cF "_law_gather" 636 260 3 326 643
def Mc:Ob:=λ_=>fX "_law_gapped" 48 iW 362
def Md:Ob:=λ_=>cF "_law_number" 695 313 1 364 699
def Me:Ob:=λ_=>fX "_law_fold" 40 iW 312
def Mf:Ob:=λ_=>fX "_law_alike" 50 iW 376
def Mg:Ob:=λ_=>fX "_law_tree" 42 iW 324
def Mh:Ob:=λ_=>co "_law_cut" "_law_cut" 613 209 4 0 0 3 314 true 181 315 .none .none .none (R 316) 616
def Mi:Ob:=λ_=>fX "_law_link_ends" 51 iW 383
def Mj:Ob:=λ_=>fX "_law_open" 45 iW 343
def Ml:Ob:=λ_=>cF "_law_fold" 601 201 4 307 610
def Mm:Ob:=λ_=>cF "_law_alike" 702 315 2 371 708
def Mn:Ob:=λ_=>cF "_law_tree" 619 231 3 319 633
def Mo:Ob:=λ_=>fX "_law_moved" 47 iW 355
def Mp:Ob:=λ_=>fX "_law_gather" 43 iW 331
def Mq:Ob:=λ_=>cF "_law_web" 646 268 1 333 652
def Mr:Ob:=λ_=>fX "_law_number" 49 iW 369
def Ms:Ob:=λ_=>cF "_law_gapped" 679 298 2 357 692
def HF:Ob:=λ_=>cF "_law_order" 661 284 2 345 670
def Mt:Ob:=λ_=>fX "_law_cut" 41 iW 317
def Mu:Ob:=λP=>O (.type "dict")<|.dict #[(E P "__name__" 165<|S "law_oncewise_k43_the_tree_told_back" 514),(E P "__doc__" 166 .none),(E P "__package__" 167 .none),(E P "__loader__" 168<|.builtin "__main__.__loader__#opaque"),(E P "__spec__" 169 .none),(E P "__annotations__" 170<|R 6),(E P "__builtins__" 171<|R 4),(E P "__file__" 173<|S "/claim/cut.py" 172),(E P "__cached__" 174 .none),(E P "OnceError" 206<|R 24),(E P "NoTree" 232<|R 44),(E P "Pieces" 283<|R 77),(E P "LEAF_KINDS" 288<|R 82),(E P "is_leaf" 295<|R 89),(E P "places_there" 303<|R 94),(E P "parts_of" 310<|R 101),(E P "eithers_of" 316<|R 106),(E P "boths_of" 324<|R 111),(E P "part_edges" 330<|R 116),(E P "joins_of" 337<|R 123),(E P "join_steps" 348<|R 130),(E P "can_fold" 354<|R 135),(E P "fold_steps" 366<|R 142),(E P "steps_by" 376<|R 149),(E P "all_come_together" 386<|R 156),(E P "right_web" 393<|R 163),(E P "first_bad" 408<|R 170),(E P "Grove" 467<|R 208),(E P "rules_due" 479<|R 219),(E P "arms_for" 489<|R 226),(E P "grow_all" 501<|R 233),(E P "tree_of" 513<|R 240),(E P "_law_cell_at" 523<|R 247),(E P "_law_stir" 533<|R 254),(E P "_law_pick" 541<|R 261),(E P "_law_mix" 550<|R 268),(E P "_law_name" 556<|R 273),(E P "_law_word" 565<|R 280),(E P "_law_flip" 573<|R 287),(E P "_law_weight" 580<|R 294),(E P "_law_mirror" 594<|R 301),(E P "_law_join" 600<|R 306),(E P "_law_fold" 612<|R 313),(E P "_law_cut" 618<|R 318),(E P "_law_tree" 635<|R 325),(E P "_law_gather" 645<|R 332),(E P "_law_web" 654<|R 339),(E P "_law_open" 660<|R 344),(E P "_law_order" 672<|R 351),(E P "_law_moved" 678<|R 356),(E P "_law_gapped" 694<|R 363),(E P "_law_number" 701<|R 370),(E P "_law_alike" 710<|R 377),(E P "_law_link_ends" 721<|R 384),(E P "_law_left" 727<|R 389),(E P "_law_here" 739<|R 396),(E P "_law_ends" 750<|R 403),(E P "_law_sound" 756<|R 408),(E P "_law_copy" 763<|R 415),(E P "_law_sown" 773<|R 422),(E P "law" 784<|R 429)] 61
def Mv:Ob:=λ_=>fX "_law_copy" 56 iW 414
def Mw:Ob:=λ_=>co "_law_sound" "_law_sound" 751 383 2 0 0 3 404 true 181 405 .none .none .none (R 406) 754
def Mx:Ob:=λ_=>fX "_law_ends" 54 iW 402
def My:Ob:=λ_=>cF "_law_here" 728 354 5 390 737
def Mz:Ob:=λ_=>fX "_law_left" 52 iW 388
def MA:Ob:=λ_=>cF "_law_sown" 764 390 3 416 771
def MB:Ob:=λ_=>fX "law" 58 iW 428
def MC:Ob:=λ_=>fX "_law_sound" 55 iW 407
def MD:Ob:=λ_=>co "_law_left" "_law_left" 722 347 3 0 0 3 385 true 181 386 .none .none .none (R 387) 725
def ME:Ob:=λ_=>fX "_law_here" 53 iW 395
def MF:Ob:=λ_=>cF "law" 774 395 1 423 782
def MG:Ob:=λ_=>cF "_law_ends" 740 362 3 397 748
def MJ:Ob:=λ_=>fX "_law_sown" 57 iW 421
def MK:Ob:=λ_=>cF "_law_copy" 757 388 1 409 761
def awy:List Ob:=[b0,b1,b2,b3,b4,b5,b6,b7,b8,b9,FE,jx,aA,FF,HE]
def ar9:List Ob:=[b0,b1,b2,Mu,b4,b5,b6,b7,b8,b9,FE,jx,λ_=>O .none<|.fields #[I 2 0,I 0 0,R 20,I 4 0,I 0 0,R 33,I 10 0,I 0 0,R 52,I 29 0,I 0 0,R 88,I 32 0,I 0 0,R 93,I 34 0,I 0 0,R 100,I 38 0,I 0 0,R 105,I 41 0,I 0 0,R 110,I 43 0,I 0 0,R 115,I 48 0,I 0 0,R 122,I 50 0,I 0 0,R 129,I 56 0,I 0 0,R 134,I 59 0,I 0 0,R 141,I 69 0,I 0 0,R 148,I 72 0,I 0 0,R 155,I 75 0,I 0 0,R 162,I 77 0,I 0 0,R 169,I 91 0,I 0 0,R 176,I 107 0,I 0 0,R 218,I 116 0,I 0 0,R 225,I 123 0,I 0 0,R 232,I 132 0,I 0 0,R 239,I 144 0,I 0 0,R 246,I 148 0,I 0 0,R 253,I 153 0,I 0 0,R 260,I 155 0,I 0 0,R 267,I 157 0,I 0 0,R 272,I 166 0,I 0 0,R 279,I 171 0,I 0 0,R 286,I 176 0,I 0 0,R 293,I 180 0,I 0 0,R 300,I 193 0,I 0 0,R 305,I 201 0,I 0 0,R 312,I 209 0,I 0 0,R 317,I 231 0,I 0 0,R 324,I 260 0,I 0 0,R 331,I 268 0,I 0 0,R 338,I 273 0,I 0 0,R 343,I 284 0,I 0 0,R 350,I 292 0,I 0 0,R 355,I 298 0,I 0 0,R 362,I 313 0,I 0 0,R 369,I 315 0,I 0 0,R 376,I 332 0,I 0 0,R 383,I 347 0,I 0 0,R 388,I 354 0,I 0 0,R 395,I 362 0,I 0 0,R 402,I 383 0,I 0 0,R 407,I 388 0,I 0 0,R 414,I 390 0,I 0 0,R 421,I 395 0,I 0 0,R 428],FF,HE,λ_=>tu #[(.type "ValueError")],FH,λP=>dB P 196 198 "OnceError" 197 200 2 199 201 22,jx,aA,λ_=>cC "OnceError" 191 2 18 194,λ_=>fR 20 17,jx,Km,Kr,Ko,λ_=>sU 24,λ_=>bI 24,λ_=>tu #[R 24],FH,λP=>O (.type "dict")<|.dict #[(E P "__module__" 214<|S "oncewise.errors" 187),(E P "__qualname__" 216<|S "NoTree" 215),(E P "__firstlineno__" 218<|I 4 217),(E P "__init__" 227<|R 41),(E P "__static_attributes__" 229<|R 42)] 5,jx,λ_=>O .none<|.fields #[I 6 0,I 4 0,R 40],λ_=>cC "NoTree" 209 4 31 212,λ_=>fR 33 30,jx,aA,λ_=>tu #[S "self" 222,S "words" 223,S "choices" 224],jx,λ_=>go<|FG "__init__" "NoTree.__init__"<|gY 2 0,Ks,Kq,λ_=>tu #[S "choices" 228],Kp,Kt,λ_=>sU 44,λ_=>bI 44,jx,FH,λP=>O (.type "dict")<|.dict #[(E P "__module__" 242<|S "oncewise.pieces" 233),(E P "__qualname__" 244<|S "Pieces" 243),(E P "__firstlineno__" 246<|I 10 245),(E P "__init__" 254<|R 60),(E P "head_of" 263<|R 67),(E P "unite" 274<|R 74),(E P "__static_attributes__" 276<|R 75)] 7,jx,λ_=>O .none<|.fields #[I 12 0,I 4 0,R 59,I 15 0,I 4 0,R 66,I 22 0,I 4 0,R 73],λ_=>cC "Pieces" 237 10 50 240,λ_=>⟨(.type "frame"),none,.plain,#[(some<|R 52),(some<|R 3),(some<|R 49),none,(some<|S "oncewise.pieces" 233),none,(some<|R 0)]⟩,jx,aA,λ_=>tu #[S "self" 250,S "count" 251],jx,λ_=>go<|FG "__init__" "Pieces.__init__"<|gY 4 0,Kw,KG,jx,aA,λ_=>tu #[S "self" 258,S "place" 259,S "here" 260],jx,λ_=>go<|FG "head_of" "Pieces.head_of"<|gY 4 1,KH,Kv,jx,aA,λ_=>tu #[S "self" 267,S "p" 268,S "q" 269,S "first" 270,S "second" 271],jx,λ_=>go<|FG "unite" "Pieces.unite"<|gY 4 2,Kx,KJ,λ_=>tu #[S "heads" 275],KE,Kz,KL,Ku,λ_=>sU 77,λ_=>bI 77,KI,jx,aA,λ_=>tu #[S "word" 292],jx,λ_=>gX "is_leaf" 7,KC,Ky,jx,aA,λ_=>gX "places_there" 9,KA,KN,jx,aA,λ_=>tu #[S "knot" 307],jx,λ_=>gX "parts_of" 10,K5,K2,jx,aA,λ_=>gX "eithers_of" 11,KZ,K',jx,aA,λ_=>gX "boths_of" 13,Le,KO,jx,aA,λ_=>gX "part_edges" 14,KR,K7,jx,aA,λ_=>tu #[S "web" 334],jx,λ_=>gX "joins_of" 15,Lb,KU,jx,aA,λ_=>tu #[S "pieces" 341,S "joins" 342,S "steps" 343,S "p" 344,S "q" 345],jx,λ_=>gX "join_steps" 16,KY,K9,jx,aA,λ_=>gX "can_fold" 17,Lc,KP,jx,aA,λ_=>tu #[S "pieces" 358,S "knots" 359,S "eithers" 360,S "steps" 361,S "before" 362,S "place" 363],jx,λ_=>gX "fold_steps" 18,K4,Ld,jx,aA,λ_=>tu #[S "knots" 370,S "joins" 371,S "eithers" 372,S "pieces" 373],jx,λ_=>gX "steps_by" 19,K6,K3,jx,aA,λ_=>tu #[S "knots" 380,S "joins" 381,S "eithers" 382,S "due" 383],jx,λ_=>gX "all_come_together" 20,KS,K8,jx,aA,λ_=>tu #[S "web" 390],jx,λ_=>gX "right_web" 21,K_,KQ,jx,aA,λ_=>tu #[S "web" 397,S "knots" 398,S "joins" 399,S "eithers" 400,S "choices" 401,S "number" 402,S "place" 403,S "left" 404,S "choice" 405],jx,λ_=>gX "first_bad" 22,K1,La,jx,FH,λP=>O (.type "dict")<|.dict #[(E P "__module__" 418<|S "oncewise.wayback" 409),(E P "__qualname__" 420<|S "Grove" 419),(E P "__firstlineno__" 422<|I 91 421),(E P "__init__" 430<|R 184),(E P "rule_at" 438<|R 191),(E P "is_one" 447<|R 198),(E P "grow" 457<|R 205),(E P "__static_attributes__" 460<|R 206)] 8,jx,λ_=>O .none<|.fields #[I 93 0,I 4 0,R 183,I 97 0,I 4 0,R 190,I 100 0,I 4 0,R 197,I 103 0,I 4 0,R 204],λ_=>cC "Grove" 413 91 174 416,λ_=>⟨(.type "frame"),none,.plain,#[(some<|R 176),(some<|R 3),(some<|R 173),none,(some<|S "oncewise.wayback" 409),none,(some<|R 0)]⟩,jx,aA,λ_=>tu #[S "self" 426,S "count" 427],jx,λ_=>go<|FG "__init__" "Grove.__init__"<|gY 24 0,Lh,Lo,jx,aA,λ_=>tu #[S "self" 434,S "place" 435],jx,λ_=>go<|FG "rule_at" "Grove.rule_at"<|gY 24 1,Lv,Lf,jx,aA,λ_=>tu #[S "self" 442,S "p" 443,S "q" 444],jx,λ_=>go<|FG "is_one" "Grove.is_one"<|gY 24 2,Ll,Lu,jx,aA,λ_=>tu #[S "self" 451,S "rule" 452,S "places" 453,S "place" 454],jx,λ_=>go<|FG "grow" "Grove.grow"<|gY 24 3,Lp,Lm,λ_=>tu #[S "pieces" 458,S "rules" 459],Lg,Ln,Lk,Lr,λ_=>sU 208,λ_=>bI 208,jx,aA,λ_=>tu #[S "web" 471,S "due" 472,S "place" 473,S "knot" 474,S "p" 475,S "q" 476],jx,λ_=>gX "rules_due" 25,Ls,Li,jx,aA,λ_=>tu #[S "grove" 483,S "rule" 484,S "taken" 485,S "arms" 486],jx,λ_=>gX "arms_for" 26,Lj,Lq,jx,aA,λ_=>tu #[S "grove" 493,S "due" 494,S "later" 495,S "rule" 496,S "taken" 497,S "arms" 498],jx,λ_=>gX "grow_all" 27,LM,LD,jx,aA,λ_=>tu #[S "web" 505,S "choices" 506,S "grove" 507,S "p" 508,S "q" 509,S "due" 510],jx,λ_=>gX "tree_of" 28,Lx,LL,jx,aA,λ_=>tu #[S "_law_script" 519,S "_law_k" 520],jx,λ_=>gX "_law_cell_at" 30,LV,Lz,jx,aA,λ_=>tu #[S "_law_script" 527,S "_law_total" 528,S "_law_k" 529,S "_law_cell" 530],jx,λ_=>gX "_law_stir" 31,LJ,LX,jx,aA,λ_=>tu #[S "_law_stir_here" 537,S "_law_factor" 538],jx,λ_=>gX "_law_pick" 32,LP,LG,jx,aA,λ_=>tu #[S "_law_cell" 545,S "_law_k" 546,S "_law_factor" 547],jx,λ_=>gX "_law_mix" 33,LA,LQ,jx,aA,λ_=>gX "_law_name" 34,LK,LB,jx,aA,λ_=>tu #[S "_law_knots" 560,S "_law_p" 561,S "_law_knot" 562],jx,λ_=>gX "_law_word" 35,Ly,LN,jx,aA,λ_=>tu #[S "_law_word_here" 569,S "_law_sides" 570],jx,λ_=>gX "_law_flip" 36,LW,Lw,jx,aA,λ_=>tu #[S "_law_word_here" 577],jx,λ_=>gX "_law_weight" 37,LH,LU,jx,aA,λ_=>tu #[S "_law_knots" 584,S "_law_word_here" 585,S "_law_left_here" 586,S "_law_right" 587,S "_law_turn" 588,S "_law_same" 589,S "_law_low" 590,S "_law_high" 591],jx,λ_=>gX "_law_mirror" 38,LR,LI,jx,aA,λ_=>gX "_law_join" 39,LC,LS,jx,aA,λ_=>tu #[S "_law_knots" 604,S "_law_tree_here" 605,S "_law_one" 606,S "_law_two" 607,S "_law_left_here" 608,S "_law_right" 609],jx,λ_=>gX "_law_fold" 40,Ml,Me,jx,aA,λ_=>gX "_law_cut" 41,Mh,Mt,jx,aA,λ_=>tu #[S "_law_cells" 622,S "_law_seed" 623,S "_law_room" 624,S "_law_knots" 625,S "_law_forest" 626,S "_law_k" 627,S "_law_cell" 628,S "_law_one" 629,S "_law_two" 630,S "_law_deed" 631,S "_law_at" 632],jx,λ_=>gX "_law_tree" 42,Mn,Mg,jx,aA,λ_=>tu #[S "_law_rule" 639,S "_law_links" 640,S "_law_cuts" 641,S "_law_arm" 642],jx,λ_=>gX "_law_gather" 43,Mb,Mp,jx,aA,λ_=>tu #[S "_law_tree_here" 649,S "_law_links" 650,S "_law_cuts" 651],jx,λ_=>gX "_law_web" 44,Mq,Ma,jx,aA,λ_=>gX "_law_open" 45,L8,Mj,jx,aA,λ_=>tu #[S "_law_knots" 664,S "_law_seed" 665,S "_law_p" 666,S "_law_knot" 667,S "_law_rank" 668],λ_=>tu #[S "_law_ranks" 669],λ_=>gX "_law_order" 46,HF,LZ,jx,aA,λ_=>gX "_law_moved" 47,L9,Mo,jx,aA,λ_=>tu #[S "_law_tree_here" 682,S "_law_stir_here" 683,S "_law_number_here" 684,S "_law_gap" 685,S "_law_offset" 686,S "_law_at" 687,S "_law_made" 688,S "_law_k" 689,S "_law_p" 690,S "_law_knot" 691],jx,λ_=>gX "_law_gapped" 48,Ms,Mc,jx,aA,λ_=>tu #[S "_law_x" 698],jx,λ_=>gX "_law_number" 49,Md,Mr,jx,aA,λ_=>tu #[S "_law_found" 705,S "_law_due" 706,S "_law_k" 707],jx,λ_=>gX "_law_alike" 50,Mm,Mf,jx,aA,λ_=>tu #[S "_law_knots" 714,S "_law_rule" 715,S "_law_told" 716,S "_law_p" 717,S "_law_q" 718],jx,λ_=>gX "_law_link_ends" 51,LY,Mi,jx,aA,λ_=>gX "_law_left" 52,MD,Mz,jx,aA,λ_=>tu #[S "_law_knots" 731,S "_law_rule" 732,S "_law_kind" 733,S "_law_size" 734,S "_law_told" 735,S "_law_r" 736],jx,λ_=>gX "_law_here" 53,My,ME,jx,aA,λ_=>tu #[S "_law_knots" 743,S "_law_rule" 744,S "_law_told" 745,S "_law_one" 746,S "_law_two" 747],jx,λ_=>gX "_law_ends" 54,MG,Mx,jx,aA,λ_=>gX "_law_sound" 55,Mw,MC,jx,aA,λ_=>tu #[S "_law_web_here" 760],jx,λ_=>gX "_law_copy" 56,MK,Mv,jx,aA,λ_=>tu #[S "_law_script" 767,S "_law_stir_here" 768,S "_law_wide" 769,S "_law_room" 770],jx,λ_=>gX "_law_sown" 57,MA,MJ,jx,aA,λ_=>tu #[S "_law_script" 777,S "_law_stir_here" 778,S "_law_web_here" 779,S "_law_handed" 780,S "_law_found" 781],jx,λ_=>gX "law" 58,MF,MB]
def awb:List Ob:=[b0,b1,b2,b3,b4,b5,b6,b7,b8,b9,FE,jx,aA,FF,HE]
def axp:List Ob:=ar9
def WP(P:Params):Xn:=⟨⟨awy.map (· P)⟩,{}⟩
def FI(P:Params):Xn:=⟨⟨ar9.map (· P)⟩,{}⟩
def WQ(P:Params):BT:=bt 20 (awb.map (· P))
def WR(P:Params):BT:=bt 20 (axp.map (· P))
def sA(w:Xm)(os:OsState):Xk:=⟨WP w.params,#[],{},187,os⟩
def sZ(w:Xm)(os:OsState):Xk:=⟨FI w.params,#[],{},785,os⟩
def MN(w:Xm)(os:OsState):SharedT:=⟨WQ w.params,15,{},#[],{},187,os⟩
def MO(w:Xm)(os:OsState):SharedT:=⟨WR w.params,430,{},#[],{},785,os⟩
def HG:Xd:=((behindTheImports p).drop 0).take 59
theorem WS(w:Xm):(λos=>topGo treeTable p w 11 an 12 ⟨boot_heap w.params,#[],boot_drawn,boot_toks,os⟩<|topStub p)=λos=>some (sA w os,⟨denote treeTable cE,cE,⟨0,0,0,0⟩,[topFrame q0]⟩):=by kernel_rfl
theorem WT(w:Xm):(λos=>segRun treeTable p w 11 an 1 1 (sA w os)<|blockOf (behindTheImports p) env0 cE ⟨0,0,0,0⟩ [topFrame q0])=λos=>some (.next,(MN w os).abs,cE,⟨0,0,0,0⟩):=by kernel_rfl
theorem WU:∀w,Pc 2568 MN MO HG ⟨0,0,0,0⟩ ⟨395,0,405,49⟩ w:=λw=>by kernel_rfl
theorem WV(w:Xm):(λos=>topRun treeTable p w 11 an 2 (MO w os).abs ⟨doneF .next,cE,⟨395,0,405,49⟩,[topFrame q0]⟩)=λos=>some (sZ w os):=by kernel_rfl
theorem WW:HG++([])=behindTheImports p:=by kernel_rfl
theorem WX(w:Xm)(os:OsState):topRun treeTable p w 11 an (12+(1+(2568+(2)))) ⟨boot_heap w.params,#[],boot_drawn,boot_toks,os⟩ (topStub p)=some (sZ w os):=by have h:=(piece_app (l:=HG) (rest:=[]) (segRun_of<|DS (WU w) os)<|piece_nil (env:=env0)<|DS (WV w) os);rw[WW] at h;exact go_top (DS (WS w) os)<|piece_block (DS (WT w) os) h
def as0:Xa:=[0,1,2,3,4,5,6,7,8,9,10,13,23,24,25,40,41,43,44,59,60,66,67,73,74,76,77,78,79,82,88,89,93,94,100,101,105,106,110,111,115,116,122,123,129,130,134,135,141,142,148,149,155,156,162,163,169,170,183,184,190,191,197,198,204,205,207,208,209,210,218,219,225,226,232,233,239,240,246,247,253,254,260,261,267,268,272,273,279,280,286,287,293,294,300,301,305,306,312,313,317,318,324,325,331,332,338,339,343,344,346,350,351,355,356,362,363,369,370,376,377,383,384,388,389,395,396,402,403,407,408,414,415,421,422,428,429]
def vw:Xl:={ p with main:={ p.main with body:=[top 1,top 2,top 4,top 6,top 7,top 9,top 10,top 11,top 13,top 14,top 15,top 16,top 17,top 18,top 19,top 20,top 21,top 22,top 24,top 25,top 26,top 27,top 28,top 30,top 31,top 32,top 33,top 34,top 35,top 36,top 37,top 38,top 39,top 40,top 41,top 42,top 43,top 44,top 45,top 46,top 47,top 48,top 49,top 50,top 51,top 52,top 53,top 54,top 55,top 56,top 57,top 58] } }
def K0:Params->Frag:=λP=>(nat_lit 0,b0 P)::(nat_lit 1,b1 P)::(nat_lit 2,b2 P)::(nat_lit 3,Mu P)::(nat_lit 4,b4 P)::(nat_lit 5,b5 P)::(nat_lit 6,b6 P)::(nat_lit 7,b7 P)::(nat_lit 8,b8 P)::(nat_lit 9,b9 P)::(nat_lit 10,FE P)::(nat_lit 13,FF P)::(nat_lit 23,Km P)::(nat_lit 24,Kr P)::(nat_lit 25,Ko P)::(nat_lit 40,Ks P)::(nat_lit 41,Kq P)::(nat_lit 43,Kp P)::(nat_lit 44,Kt P)::(nat_lit 59,Kw P)::(nat_lit 60,KG P)::(nat_lit 66,KH P)::(nat_lit 67,Kv P)::(nat_lit 73,Kx P)::(nat_lit 74,KJ P)::(nat_lit 76,KE P)::(nat_lit 77,Kz P)::(nat_lit 78,KL P)::(nat_lit 79,Ku P)::(nat_lit 82,KI P)::(nat_lit 88,KC P)::(nat_lit 89,Ky P)::(nat_lit 93,KA P)::(nat_lit 94,KN P)::(nat_lit 100,K5 P)::(nat_lit 101,K2 P)::(nat_lit 105,KZ P)::(nat_lit 106,K' P)::(nat_lit 110,Le P)::(nat_lit 111,KO P)::(nat_lit 115,KR P)::(nat_lit 116,K7 P)::(nat_lit 122,Lb P)::(nat_lit 123,KU P)::(nat_lit 129,KY P)::(nat_lit 130,K9 P)::(nat_lit 134,Lc P)::(nat_lit 135,KP P)::(nat_lit 141,K4 P)::(nat_lit 142,Ld P)::(nat_lit 148,K6 P)::(nat_lit 149,K3 P)::(nat_lit 155,KS P)::(nat_lit 156,K8 P)::(nat_lit 162,K_ P)::(nat_lit 163,KQ P)::(nat_lit 169,K1 P)::(nat_lit 170,La P)::(nat_lit 183,Lh P)::(nat_lit 184,Lo P)::(nat_lit 190,Lv P)::(nat_lit 191,Lf P)::(nat_lit 197,Ll P)::(nat_lit 198,Lu P)::(nat_lit 204,Lp P)::(nat_lit 205,Lm P)::(nat_lit 207,Lg P)::(nat_lit 208,Ln P)::(nat_lit 209,Lk P)::(nat_lit 210,Lr P)::(nat_lit 218,Ls P)::(nat_lit 219,Li P)::(nat_lit 225,Lj P)::(nat_lit 226,Lq P)::(nat_lit 232,LM P)::(nat_lit 233,LD P)::(nat_lit 239,Lx P)::(nat_lit 240,LL P)::(nat_lit 246,LV P)::(nat_lit 247,Lz P)::(nat_lit 253,LJ P)::(nat_lit 254,LX P)::(nat_lit 260,LP P)::(nat_lit 261,LG P)::(nat_lit 267,LA P)::(nat_lit 268,LQ P)::(nat_lit 272,LK P)::(nat_lit 273,LB P)::(nat_lit 279,Ly P)::(nat_lit 280,LN P)::(nat_lit 286,LW P)::(nat_lit 287,Lw P)::(nat_lit 293,LH P)::(nat_lit 294,LU P)::(nat_lit 300,LR P)::(nat_lit 301,LI P)::(nat_lit 305,LC P)::(nat_lit 306,LS P)::(nat_lit 312,Ml P)::(nat_lit 313,Me P)::(nat_lit 317,Mh P)::(nat_lit 318,Mt P)::(nat_lit 324,Mn P)::(nat_lit 325,Mg P)::(nat_lit 331,Mb P)::(nat_lit 332,Mp P)::(nat_lit 338,Mq P)::(nat_lit 339,Ma P)::(nat_lit 343,L8 P)::(nat_lit 344,Mj P)::(nat_lit 346,aA P)::(nat_lit 350,HF P)::(nat_lit 351,LZ P)::(nat_lit 355,L9 P)::(nat_lit 356,Mo P)::(nat_lit 362,Ms P)::(nat_lit 363,Mc P)::(nat_lit 369,Md P)::(nat_lit 370,Mr P)::(nat_lit 376,Mm P)::(nat_lit 377,Mf P)::(nat_lit 383,LY P)::(nat_lit 384,Mi P)::(nat_lit 388,MD P)::(nat_lit 389,Mz P)::(nat_lit 395,My P)::(nat_lit 396,ME P)::(nat_lit 402,MG P)::(nat_lit 403,Mx P)::(nat_lit 407,Mw P)::(nat_lit 408,MC P)::(nat_lit 414,MK P)::(nat_lit 415,Mv P)::(nat_lit 421,MA P)::(nat_lit 422,MJ P)::(nat_lit 428,MF P)::(nat_lit 429,MB P)::[]
abbrev lamC:Nat:=350
abbrev lamT:Nat:=346
abbrev lamO:Ob:=HF
abbrev ls:Xb:=[]
abbrev Xt:Xk->Bool:=λs=>xlAt vw [] s&&recOk (RowW.records rr.row.toRowW) s
theorem WY(w:Xm):((boot_heap w.params).isNs mainGlobals&&(#[]:Array GenState).size==0,(boot_heap w.params).objs.size,(boot_heap w.params).nsMap mainGlobals "__annotations__")=(true,11,an):=by kernel_rfl
theorem WZ:opening p=plainProg p.main.scope.names:=by kernel_rfl
theorem W0(s:Xk):fenceModules? p s=some s:=by kernel_rfl
theorem Fh(w:Xm):(λos=>(staticsOk (importedModules p.main.body) (boot_heap w.params) (FI w.params)&&namesBound p (FI w.params)&&gensDone (sZ w os)&&laidKept (boot_heap w.params) (FI w.params)))=λ_=>true:=by kernel_rfl
theorem W1(w:Xm):(λos=>openSeen vw ls (importedModules p.main.body) Xt true<|sZ w os)=λ_=>openGood vw ls:=by kernel_rfl
theorem W2(w:Xm):(λos=>obsZ as0<|sZ w os)=λ_=>valZ K0 430 785 w:=by kernel_rfl
theorem left_:LeftO p vw ls Xt (obsZ as0) (valZ K0 430 785) 5246:=LeftO.of_pieces (boot_open WZ rfl W0) WY WX rfl λw=>funext λos=>looks_pair (DS (Fh w) os)<|looks_pair (DS (W1 w) os)<|DS (W2 w) os
end
end H43
open PySem PySem.W PyProof.Rows
set_option maxRecDepth 100000 in
set_option maxHeartbeats 0 in
theorem PySem.Challenge.cw_oncewise_k43_the_tree_told_back_holds : PySem.Challenge.rw_oncewise_k43_the_tree_told_back.Holds := by
 w_on;refine holds_law (by unfold OpenLaw.wellSaid OpenRow.wellSaid OpenRow.partSaid looksOpen;walk_at "y";walk_at "y";walk_at "y";walk_at "y";walk_at "y";walk_at "y";all_goals decide +kernel) λJ=>?_
 refine holds_openX (q:=H43.vw) (loose:=H43.ls) (Xt:=H43.Xt) (XP:=XL H43.vw []) (Yf:=PySem.W.X.obsZ H43.as0) (Ya:=PySem.W.X.valZ H43.K0 430 785) (N:=5246) H43.left_ (λs e=>xl_of s (Bool.and_eq_true_iff.mp e).1)
  XL.keeps (by rfl) (by rfl) (by rfl) (λs e=>recFacts_of (Bool.and_eq_true_iff.mp e).2)
  (by rfl) (by decide +kernel) (by decide +kernel) ⟨rfl,rfl,rfl,rfl,rfl,by decide +kernel⟩ ?hw ?hc
 case hw=>w_witness2
 k_fill
 refine L2.walk_ofZT (l:=PySem.Challenge.rw_oncewise_k43_the_tree_told_back) (n:=63) (k:=174) (x:="_law_script") (CX:=L2.CX0) (sp:=L3.spTopT L3.lamQ) rfl (by decide) rfl ⟨rfl,by decide,by decide⟩ (λ_=>rfl) (by decide) ?F ?S ?C
 case F=>
  intro w r t h g G I;have T:(H43.K0 w.params).lookup H43.lamT=some (PySem.W.tabObj #[]):=by k_is
  have U:(H43.K0 w.params).lookup H43.lamC=some (H43.lamO w.params):=by k_is
  have hd:∀h:Xn,h.get? H43.lamC=some (H43.lamO w.params)->PySem.W.CodeHd h H43.lamC H43.lamT:=λh e=>⟨_,_,_,_,_,_,_,_,_,e,rfl,rfl,rfl,rfl,rfl,rfl,rfl,rfl,by decide⟩;have j:(H43.K0 w.params).lookup 4=some (PySem.W.boot_o_4 w.params):=by k_is
  have o:L3.DefInT (L2.lessK H43.lamT<|H43.K0 w.params) "_law_order" L3.s__law_order H43.lamT:=by
   refine' K43.def_inT (L2.ns_dn T ?a) (L2.lk_dn T ?l ?n) (L2.code_dn T ?c) (L2.keep_dn T ?k) ?LC
   (case a=>k_is);(case l=>k_is);(case n=>(intro e;cases e));(case c=>k_is);(case k=>k_is)
   refine'⟨⟨H43.lamC,_,rfl,L2.lk_dn T U ?m,hd⟩,⟨4,_,L2.ns_dn T ?b,by decide,by decide,L2.lk_dn T j ?p,rfl,rfl,rfl⟩⟩
   (case m=>(intro e;cases e));(case b=>k_is);(case p=>(intro e;cases e))
  refine⟨H43.lamT,⟨T,⟨H43.lamC,λh X=>hd h<|X _ _ U⟩,by decide⟩,?_⟩;refine' K43.all_mk (K:=L2.lessK H43.lamT<|H43.K0 w.params) (L2.lessK_in g) G I ?D0 ?D1 ?D2 ?D3 ?D4 ?D5 ?D6 ?D7 ?D8 ?D9 ?D10 ?D11 ?D12 ?D13 ?D14 ?D15 ?D16 ?D17 ?D18 ?D19 ?D20 ?D21 ?D22 ?D23 ?D24 ?D25 ?D26 ?D27 ?D28 ?D29 ?D30 ?D31 ?D32 ?D33 ?D34 ?D35 ?D36 ?D37 ?D38 ?D39 ?D40 ?D41 ?D42 ?D43 ?D44 ?D45 ?D46 ?D47 ?D48 ?D49 ?D50 ?D51 ?D52 ?D53 ?aLEAF_KINDS ?lLEAF_KINDS ?aCPieces ?aCGrove ?clPieces ?mAPieces ?mKPieces ?clGrove ?mAGrove ?mKGrove ?xf ?zlist ?zrange ?zenumerate ?zlen ?zisinstance ?ztuple ?zsorted ?zmax ?zmin ?zint ?zbool ?zstr
  (case aCPieces=>(refine' L2.ns_dn T ?_;k_is))
  (case aCGrove=>(refine' L2.ns_dn T ?_;k_is))
  (case D0|D1|D2|D17|D18|D19|D20=>refine' L3.meth_in ((L2.find_dn T).trans ?a) (L2.lk_dn T ?l ?n) (L2.code_dn T ?c) (L2.keep_dn T ?k)<|L2.isFn_dn T ?i;(case a=>k_is);(case l=>k_is);(case n=>(intro e;cases e));(case c=>k_is);(case k=>k_is);(case i=>k_is))
  (case D3|D4|D5|D6|D7|D8|D9|D10|D11|D12|D13|D14|D15|D16|D21|D22|D23|D24|D25|D26|D27|D28|D29|D30|D31|D32|D33|D34|D35|D36|D37|D38|D39|D40|D42|D43|D44|D45|D46|D47|D48|D49|D50|D51|D52|D53=>refine' L2.def_in (L2.ns_dn T ?a) (L2.lk_dn T ?l ?n) (L2.code_dn T ?c)<|L2.keep_dn T ?k;(case a=>k_is);(case l=>k_is);(case n=>(intro e;cases e));(case c=>k_is);(case k=>k_is))
  (case D41=>exact o)
  (case aLEAF_KINDS=>(refine' L2.ns_dn T ?_;k_is))
  (case lLEAF_KINDS=>(refine' L2.lk_dn T ?x ?n;(case x=>k_is);(case n=>(intro e;cases e))))
  (case clPieces=>refine' L2.Cls.dn T ?_;refine' L2.Cls.mk ?pg ?hd ?po ?sa;(case pg=>k_is);(case hd=>k_is);(case po=>k_is);(case sa=>k_is))
  (case mAPieces=>(refine' L2.makes_dn T ?_;k_is))
  (case mKPieces=>(refine' L2.keep_dn T ?_;k_is))
  (case clGrove=>refine' L2.Cls.dn T ?_;refine' L2.Cls.mk ?pg ?hd ?po ?sa;(case pg=>k_is);(case hd=>k_is);(case po=>k_is);(case sa=>k_is))
  (case mAGrove=>(refine' L2.makes_dn T ?_;k_is))
  (case mKGrove=>(refine' L2.keep_dn T ?_;k_is))
  (case xf=>(refine' L3.XFG.dn T ?_;(refine' L3.XFG.mk ?cl ?np ?nr ?xp;(case cl=>(refine' L2.Cls.mk ?pg ?hd ?po ?sa;(case pg=>k_is);(case hd=>k_is);(case po=>k_is);(case sa=>k_is)));(case np=>(unfold L2.NoAttr;k_is));(case nr=>(unfold L2.NoAttr;k_is));(case xp=>(refine' L3.XFP.mk ?cl ?na;(case cl=>(refine' L2.Cls.mk ?pg ?hd ?po ?sa;(case pg=>k_is);(case hd=>k_is);(case po=>k_is);(case sa=>k_is)));(case na=>(unfold L2.NoAttr;k_is)))))))
  (case zlist|zrange|zenumerate|zlen|zisinstance|ztuple|zsorted|zmax|zmin|zint|zbool|zstr=>(refine' L2.ns_dn T ?_;k_is))
 case S=>exact L3.top_startT
 case C=>exactλ_ _ _ _ z=>z
#print axioms PySem.Challenge.cw_oncewise_k43_the_tree_told_back_holds
