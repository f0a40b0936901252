import PyProof.Rows.All
import Wide.All
import OpenK.AllK
import Wide.FinOn
import Lean
import PyProof.EqAt
import PyProof.EqKinds
import PyProof.TupleCall
import PyProof.NeKinds
import PySem.Challenge.RW_oncewise_k42_some_place_parts
import OpenK.ZGo
set_option genSizeOf false
set_option genInjectivity false
set_option bootstrap.genMatcherCode false
set_option compiler.extract_closed false
set_option hygiene false
local macro_rules|`(tactic| walk_at "t")=>`(tactic| (first|assumption|exact Nat.succ_pos _|exact z8.tk (by assumption)|exact Nat.lt_of_lt_of_le (z8.tk (by assumption)) (Nat.le_add_right _ _)|exact Nat.lt_of_lt_of_le (z8.tk (by assumption)) (by assumption)))
set_option hygiene true
local macro_rules|`(tactic| walk_at "w")=>`(tactic| conv=>whnf)
local macro_rules|`(tactic| walk_at "y")=>`(tactic| ((refine PySem.W.look_both ?_ ?_);(refine PySem.W.look_both ?_ ?_);(refine PySem.W.look_both ?_ ?_);(refine PySem.W.look_both ?_ ?_);(refine PySem.W.look_both ?_ ?_);(refine PySem.W.look_both ?_ ?_)))
set_option Elab.async false
set_option linter.all false
set_option maxRecDepth 100000
abbrev Aa:=@PySem.wpAny_bind
abbrev Ab:=@List.mem_cons_of_mem
abbrev Ac:=@PyProof.Rows.wpS_bind
abbrev Ad:=@List.length_append
abbrev Ae:=@List.mem_append_right
abbrev Af:=@PyProof.Rows.wpS_pure
abbrev Ag:=@List.mem_append
abbrev Ah:=@List.length_map
abbrev Ai:=@List.mem_append_left
abbrev Aj:=@PySem.W.Frag
abbrev Ak:=@List.mem_cons_self
abbrev Al:=@List.getElem?_eq_getElem
abbrev Am:=@List.mem_singleton
abbrev An:=@PySem.wpAny_pure
abbrev Ao:=@List.mem_cons
abbrev Ap:=@Nat.le_refl
abbrev Aq:=@List.getElem?_map
abbrev Ar:=@List.size_toArray
abbrev Au:=@decide_eq_false
abbrev Av:=@decide_eq_true
abbrev Aw:=@Option.map_eq_some_iff
abbrev Ax:=@List.getElem?_append_right
abbrev Ay:=@List.nodup_append
abbrev Az:=@List.mem_filter
abbrev AA:=@List.append_assoc
abbrev AB:=@if_neg
abbrev AC:=@if_pos
abbrev AD:=@List.map_append
abbrev AE:=@List.append_nil
abbrev AF:=@List.mem_of_getElem?
abbrev AG:=@List.map_cons
abbrev AH:=@List.nodup_cons
abbrev AI:=@Bool.false_ne_true
abbrev AJ:=@List.getElem?_append_left
abbrev AK:=@List.length_cons
abbrev AL:=@List.mem_range
abbrev AM:=@PyProof.Rows.wpS_forRange
abbrev AN:=@Nat.le_trans
abbrev AO:=@Option.some.inj
abbrev AQ:=@List.length_take
abbrev AR:=@Nat.lt_of_lt_of_le
abbrev AS:=@List.getElem?_eq_some_iff
abbrev AU:=@Int.natCast_nonneg
abbrev AV:=@List.mem_flatMap
abbrev AW:=@List.pairwise_append
abbrev AX:=@PySem.wpAny_mono
abbrev AY:=@PyProof.Rows.wpS_mono
abbrev AZ:=@List.take_of_length_le
abbrev A1:=@List.flatMap_append
abbrev A2:=@Array.length_toList
abbrev A3:=@Nat.zero_le
abbrev A4:=@Ne.symm
abbrev A5:=@Nat.ne_of_lt
abbrev A6:=@PySem.wpAny_holding
abbrev A7:=@List.length_range
abbrev A8:=@List.filter_append
abbrev A9:=@List.take_length
abbrev Ba:=@Array.toList_append
abbrev Bb:=@Bool.and_eq_true
abbrev Bc:=@List.take_succ
abbrev Bd:=@Array.getElem?_toList
abbrev Be:=@List.take_append_drop
abbrev Bf:=@Nat.le_of_lt
abbrev Bg:=@Nat.le_add_right
abbrev Bh:=@List.lookup_cons
abbrev Bi:=@List.getElem?_set_ne
abbrev Bj:=@List.perm_ext_iff_of_nodup
abbrev Bk:=@Nat.lt_succ_self
abbrev Bl:=@Bool.eq_iff_iff
abbrev Bm:=@List.length_set
abbrev Bn:=@List.flatMap_cons
abbrev Bo:=@PySem.W.mg_none_of
abbrev Bp:=@List.length_filter_le
abbrev Bq:=@Array.size_push
abbrev Br:=@List.filter_nil
abbrev Bt:=@List.mem_map
abbrev Bu:=@PySem.W.kia_one
abbrev Bv:=@List.getD_eq_getElem?_getD
abbrev Bw:=@List.perm_append_right_iff
abbrev Bx:=@List.eq_nil_of_length_eq_zero
abbrev Bz:=@List.perm_append_left_iff
abbrev BA:=@Nat.lt_of_le_of_lt
abbrev BB:=@List.find?_cons
abbrev BC:=@List.length_drop
abbrev BD:=@PySem.mem_of_lookup
abbrev BE:=@List.perm_append_comm
abbrev BF:=@List.getElem_take
abbrev BG:=@List.mem_of_mem_take
abbrev BH:=@Int.le_of_lt
abbrev BI:=@Int.zero_add
abbrev BJ:=@List.getElem_of_mem
abbrev BK:=@PySem.wpAny_field
abbrev BL:=@congrArg
abbrev BM:=@Nat.min_eq_left
abbrev BN:=@Int.le_trans
abbrev BO:=@Bool.false_eq_true
abbrev BP:=@PySem.wpAny_newObj_type
abbrev BQ:=@PySem.wpAny_rule
abbrev BR:=@Nat.add_sub_cancel_left
abbrev BS:=@List.filter_cons
abbrev BU:=@List.filter_cons_of_neg
abbrev BV:=@List.filter_cons_of_pos
abbrev BW:=@List.getElem?_of_mem
abbrev BX:=@List.getElem?_set_self
abbrev BY:=@Int.toNat_natCast
abbrev BZ:=@Array.size_append
abbrev B0:=@List.pairwise_map
abbrev B1:=@Nat.le_succ_of_le
abbrev B3:=@List.filterMap_cons
abbrev B4:=@List.mem_map_of_mem
abbrev B5:=@List.map_map
abbrev B6:=@Nat.le_succ
abbrev B7:=@List.perm_middle
abbrev B8:=@List.mem_filterMap
abbrev B9:=@List.Perm.refl
abbrev Cb:=@List.perm_append_singleton
abbrev Cc:=@decide_eq_true_iff
abbrev Cd:=@List.length_replicate
abbrev Ce:=@List.mem_iff_getElem?
abbrev Cf:=@List.filterMap_append
abbrev Cg:=@List.pairwise_iff_getElem
abbrev Ci:=@List.nil_append
abbrev Cj:=@List.range_succ
abbrev Cm:=@Nat.lt_succ_of_lt
abbrev Cn:=@List.any_cons
abbrev Co:=@List.Pairwise.imp_of_mem
abbrev Cp:=@Int.ofNat_inj
abbrev Cq:=@PyProof.Rows.slot_tuple_getitem
abbrev Cr:=@List.getElem?_replicate
abbrev Cs:=@Nat.min_eq_right
abbrev Ct:=@List.getElem_mem
abbrev Cu:=@Nat.max_eq_right
abbrev Cv:=@Int.mul_le_mul_of_nonneg_right
abbrev Cw:=@List.nodup_range
abbrev Cy:=@List.not_mem_nil
abbrev Cz:=@List.append_of_mem
abbrev CA:=@List.getElem_cons_drop
abbrev CB:=@Nat.max_eq_left
abbrev CC:=@List.length_zip
abbrev CD:=@Nat.lt_irrefl
abbrev CF:=@List.length_singleton
abbrev CG:=@List.getElem?_eq_none
abbrev CH:=@Nat.le_of_ble_eq_true
abbrev CI:=@List.singleton_append
abbrev CK:=@Nat.sub_eq_zero_of_le
abbrev CL:=@PyProof.Rows.callWith_type1
abbrev CM:=@Option.isSome_map
abbrev CN:=@List.filter_congr
abbrev CO:=@List.mem_of_mem_drop
abbrev CP:=@Array.toList_reverse
abbrev CQ:=@Nat.le_sub_one_of_lt
abbrev CS:=@List.nodup_nil
abbrev CT:=@List.Pairwise.filter
abbrev CU:=@Nat.succ_pos
abbrev CV:=@List.all_eq_true
abbrev CW:=@List.flatMap_nil
abbrev CY:=@List.drop_eq_getElem_cons
abbrev CZ:=@List.sublist_append_right
abbrev C0:=@List.getElem?_range
abbrev C1:=@List.reverse_append
abbrev C2:=@List.perm_iff_count
abbrev C3:=@PySem.W.mg_of
abbrev C4:=@List.cons.inj
abbrev C5:=@Nat.le_add_left
abbrev C6:=@Array.size_extract
abbrev C7:=@List.getElem?_take
abbrev C8:=@List.getElem?_drop
abbrev C9:=@List.filterMap_nil
abbrev Dc:=@List.getElem?_cons_succ
abbrev Dd:=@List.length_eraseIdx_le
abbrev De:=@Int.le_refl
abbrev Df:=@List.eraseIdx_cons_succ
abbrev Dg:=@List.eraseIdx_append_of_length_le
abbrev Dh:=@List.map_nil
abbrev Di:=@Array.toList_push
abbrev Dj:=@List.mem_range'_1
abbrev Dk:=@List.count_append
abbrev Dl:=@List.Sublist.refl
abbrev Dm:=@List.mem_eraseIdx_iff_getElem?
abbrev Do:=@List.eq_nil_iff_forall_not_mem
abbrev Dp:=@List.getElem?_zipIdx
abbrev Dq:=@List.take_append_of_le_length
abbrev Dr:=@Nat.not_succ_lt_self
abbrev Ds:=@List.of_mem_zip
abbrev Dt:=@List.length_nil
abbrev Du:=@PySem.W.plainGet_of
abbrev Dv:=@Nat.ne_of_gt
abbrev Dw:=@Nat.zero_add
abbrev Dx:=@Nat.lt_or_ge
abbrev Dy:=@Nat.sub_self
abbrev Dz:=@PySem.W.callWith_K
abbrev DA:=@List.drop_zero
abbrev DB:=@Nat.lt_or_eq_of_le
abbrev DC:=@List.zip_cons_cons
abbrev DD:=@Int.emod_lt_of_pos
abbrev DE:=@PySem.F.slot_dict_getitem
abbrev DF:=@List.filterMap_eq_nil_iff
abbrev DG:=@PySem.W.kitx_list
abbrev DH:=@List.take_sublist
abbrev DI:=@List.getElem_drop
abbrev DJ:=@List.ext_getElem?
abbrev DK:=@List.reverse_perm
abbrev DL:=@List.getElem?_set
abbrev DM:=@List.countP_congr
abbrev DN:=@List.nodup_range'
abbrev DO:=@Bool.not_eq_true'
abbrev DQ:=@PySem.F.args_tuple_add_2
abbrev DR:=@List.all_cons
abbrev DS:=@Bool.and_true
abbrev DU:=@List.getElem_append_left
abbrev DV:=@List.sublist_append_left
abbrev DW:=@List.map_take
abbrev DX:=@List.filterMap_cons_none
abbrev DY:=@List.filterMap_cons_some
abbrev DZ:=@List.length_filterMap_le
abbrev Eb:=@List.mem_of_mem_eraseIdx
abbrev Ed:=@List.range'_succ
abbrev Ef:=@Array.toList_inj
abbrev Eg:=@Array.toList_map
abbrev Ei:=@decide_eq_decide
abbrev Ej:=@List.any_eq_true
abbrev Ek:=@congrFun
abbrev El:=@Nat.le_of_eq
abbrev Ew:=@List.forIn_cons
abbrev Ex:=@Bool.or_eq_true
abbrev Ey:=@List.Perm.of_eq
abbrev Ez:=@beq_false_of_ne
abbrev EC:=@Nat.not_lt_zero
abbrev ED:=@Int.emod_nonneg
abbrev EE:=@Bool.and_false
abbrev EF:=@Int.add_mul
abbrev EG:=@Array.size_map
abbrev EH:=@Bool.true_and
abbrev EI:=@List.sum_cons
abbrev EJ:=@List.map_drop
abbrev EK:=@Nat.sub_le
abbrev oe:=@PySem.Heap.get?_push_of_some
abbrev pj:=@PySem.Heap.lt_size
abbrev pR:=@PySem.Heap.get?_push_size
abbrev p0:=@PySem.PassesOwn.never
abbrev qy:=@PySem.Heap.SameBut.update
abbrev sy:=@PySem.MeetsSeq.plain_remove_loop
abbrev vb:=@PySem.Calls.spliced_cons
abbrev vc:=@PySem.F.slot_enumerate_next
abbrev wh:=@PySem.Calls.spliced_nil
abbrev xp:=@PySem.Heap.size_update
abbrev xT:=@PySem.Heap.get?_update_ne
abbrev ya:=@PySem.Heap.size_push
abbrev y1:=@StateT.run_pure
noncomputable section
namespace L2
open PySem PyProof.Rows
theorem i7{M:Model}{U:Ctx}{p:Pos}{t:Sem Fin}{fs:List Frame}{s s':Shared}{e:End}(h:Runs M U p t fs s e s'):s.toks<=s'.toks:=by induction h with|fresh _ g=>exact AN (B6 _) g|call _ _ I J=>exact AN I J|resumeFresh _ _ _ _ I J=>exact AN I J|resumeSuspended _ _ _ _ I J=>exact AN I J|segRet _ _ I J=>exact AN I J|segGen _ _ I J=>exact AN I J|segSuspGen _ _ _ _ I J=>exact AN I J|_=>first|exact Ap _|assumption
theorem wC{M:Model}{J:Ctx}{p:Pos}{g:Nat}{r:Resume}{s s':Shared}{res:GenResult}(h:Wakes M J p g r s res s'):s.toks<=s'.toks:=by
 unfold Wakes at h;split at h
 ·exact h.elim
 ·split at h
  ·obtain⟨e,U,I,_,_,rfl⟩:=h;have q:=i7 I;exact q
  ·obtain⟨_,rfl⟩:=h;exact Ap _
  ·obtain⟨_,rfl⟩:=h;exact Ap _
 ·obtain⟨e,U,I,_,_,rfl⟩:=h;have q:=i7 I;exact q
 ·obtain⟨_,rfl⟩:=h;exact Ap _
 ·obtain⟨_,rfl⟩:=h;exact Ap _
theorem Ll{α:Type}{M:Model}{T:Ctx}(t:Sem α):∀{Q:α->Pos->Shared->Prop} {E:Value->Pos->Shared->Prop} {p:Pos} {s:Shared} (n:Nat),n<=s.toks->Sem.wp M T t Q E p s->Sem.wp M T t (λa C s'=>Q a C s'/\n<=s'.toks) (λe C s'=>E e C s'/\n<=s'.toks) p s:=by induction t with|pure a=>intro Q E p s n I h;exact⟨h,I⟩|raise e=>intro Q E p s n I h;exact⟨h,I⟩|load a part k J=>rintro Q E p s n I ⟨o,U,j⟩;exact⟨o,U,J o n I j⟩|update a part f k J=>rintro Q E p s n I ⟨U,j⟩;exact⟨U,J () n I j⟩|fresh k J=>intro Q E p s n I h;exact J s.toks n (AN I<|B6 _) h|choose a0 m k J=>rintro Q E p s n I ⟨U,j⟩;exact⟨U,J _ n I j⟩|call c hd g l k J=>rintro Q E p s n I ⟨r,s',U,j⟩;exact⟨r,s',U,J r n (AN I<|i7 U) j⟩|genState g k J=>rintro Q E p s n I ⟨st,U,j⟩;exact⟨st,U,J _ n I j⟩|resume g r l k J=>rintro Q E p s n I ⟨res,s',U,j⟩;exact⟨res,s',U,J _ n (AN I<|wC U) j⟩|rule tag k J=>intro Q E p s n I h;exact J () n I h|«at» pos k J=>intro Q E p s n I h;exact J () n I h|alloc o k J=>intro Q E p s n I h;exact J _ n I h|loadIfAlive a k J=>intro Q E p s n I h;exact J _ n I h|point l k J=>intro Q E p s n I h;exact J _ n I h|ask k J=>intro Q E p s n I h;exact J _ n I h|os q l k J=>intro Q E p s n I h;exact J _ n I h|handled own k J=>intro Q E p s n I h;exact J _ n I h|newGen c k J=>intro Q E p s n I h;exact J _ n I h|stack k J=>intro Q E p s n I h;exact J _ n I h|thread k J=>intro Q E p s n I h;exact J _ n I h|unsupported w=>intro Q E p s n I h;exact h.elim|finish e=>intro Q E p s n I h;exact h.elim|register a k J=>intro Q E p s n I h;exact h.elim|yield v g l k J=>intro Q E p s n I h;exact h.elim|fork c k J=>intro Q E p s n I h;exact h.elim|await a f d l k J=>intro Q E p s n I h;exact h.elim
theorem uR{α:Type}{M:Model}{A:Around}{t:Sem α}{Q:α->Shared->Prop}{E:Value->Shared->Prop}{s:Shared}(h:wpAny M A t Q E s):wpAny M A t (λa s'=>Q a s'/\s.toks<=s'.toks) (λe s'=>E e s'/\s.toks<=s'.toks) s:=
 λJ p I=>Ll t s.toks (Ap _)<|h J p I
theorem jt{α:Type}{M:Model}{A:Around}{t:Sem α}{Q:α->Shared->Prop}{E:Value->Shared->Prop}{s:Shared}(hp:0<s.toks)(h:wpAny M A t (λa s'=>0<s'.toks->Q a s') (λe s'=>0<s'.toks->E e s') s):wpAny M A t Q E s:=
 AX (uR h) (λ_ _ z=>z.1<|AR hp z.2) λ_ _ z=>z.1<|AR hp z.2
end L2
variable {M:PySem.Model}{i j kt m n na p q r t' x1:Nat}{s s':PySem.Shared}{c e mm iter o target tg value:PySem.Expr}{α β κ:Type}{A:PySem.Around}{E Q:PySem.Value->PySem.Shared->Prop}{eH us vs:List PySem.Value}{eK hE oc pm u v:PySem.Value}{base h h':PySem.Heap}{ch fp:List PySem.Addr}{C D Pt c' d dx fa hp it ka l pa pb:PySem.Addr}{kx name px eA x:PySem.Str}{pins:List<|PySem.Addr×PySem.Obj}{apos ft nC p1 p2 p3 p4 p5 pos fy tp:PySem.Pos}{f rk:Nat->Nat}{st:PySem.Stmt}{li es mj:List PySem.Expr}{body:List PySem.Stmt}{B lo:Int}{mA mg:PySem.Str->Option PySem.Value}{kw:List<|PySem.Str×PySem.Value}{prog:PySem.Program}{env:PySem.Env}{fd:PySem.FuncData}{ps:List PySem.Str}{fx scope:PySem.Scope}{ct lk nF:List<|Nat×Nat}{an od:Option PySem.Addr}{mv:Array<|Option PySem.Value}{items:Array PySem.Value}{hs hQ qs:List Nat}{rks:List Int}
namespace L2
open PySem PySem.Spec PyProof.Rows
abbrev j9:=Sum Int Str
def lZ:j9->Value->Bool
 |.inl k,v=>Value.isInt k v
 |.inr x,v=>Value.isStrOf x v
def Lm(w:World):j9->Int
 |.inl k=>hashInt k
 |.inr x=>hashStr w x
theorem xq:∀{k:j9} {v:Value},lZ k v=true->(∃i t,k=Sum.inl i/\v=Value.int i t)\/(∃x t,k=Sum.inr x/\v=Value.str x t)
 |.inl i,v,h=>by obtain⟨t,e⟩:=Value.isInt_shape (k:=i) (v:=v) h;exact .inl ⟨i,t,rfl,e⟩
 |.inr x,v,h=>by obtain⟨t,e⟩:=Value.isStrOf_shape (x:=x) (v:=v) h;exact .inr ⟨x,t,rfl,e⟩
theorem Ln(i:Int)(t:Tok):lZ (.inl i) (.int i t)=true:=by simp[lZ,Value.isInt]
theorem yL(x:Str)(t:Tok):lZ (.inr x) (.str x t)=true:=by simp[lZ,Value.isStrOf]
theorem Lo(a b:Int):decide ((Sum.inl a:j9)=Sum.inl b)=(a==b):=by
 by_cases e:a=b
 ·subst e;simp
 ·have h:¬(Sum.inl a:j9)=Sum.inl b:=λq=>e<|Sum.inl.inj q;rw[Au h];exact(beq_eq_false_iff_ne.mpr e).symm
theorem Lp(a b:Str):decide ((Sum.inr a:j9)=Sum.inr b)=decide (a=b):=by
 by_cases e:a=b
 ·subst e;simp
 ·have h:¬(Sum.inr a:j9)=Sum.inr b:=λq=>e<|Sum.inr.inj q;rw[Au h,Au e]
theorem Lq(a:Int)(b:Str):decide ((Sum.inl a:j9)=Sum.inr b)=false:=Au λq=>nomatch q
theorem Lr(a:Str)(b:Int):decide ((Sum.inr a:j9)=Sum.inl b)=false:=Au λq=>nomatch q
def xo(prog:Program)(w:World):PySem.KeyKind prog w j9 where
 is:=lZ
 hash:=Lm w
 inj:=λv a b g U=>by
  rcases xq g with⟨i,t,rfl,rfl⟩|⟨x,t,rfl,rfl⟩
  ·rcases xq U with⟨j,u,rfl,e⟩|⟨y,u,rfl,e⟩
   ·injection e with I _;rw[I]
   ·exact nomatch e
  ·rcases xq U with⟨j,u,rfl,e⟩|⟨y,u,rfl,e⟩
   ·exact nomatch e
   ·injection e with I _;rw[I]
 byValue:=λk v h=>by rcases xq h with⟨i,t,rfl,rfl⟩|⟨x,t,rfl,rfl⟩<;>rfl
 pyHash:=λJ h=>by
  rcases xq J with⟨i,t,rfl,rfl⟩|⟨x,t,rfl,rfl⟩
  ·exact wpAny_pyHash_int h
  ·exact wpAny_pyHash_str h
 eqBool:=λl J h=>by
  rcases xq l with⟨i,t,rfl,rfl⟩|⟨x,t,rfl,rfl⟩
  ·rcases xq J with⟨j,u,rfl,rfl⟩|⟨y,u,rfl,rfl⟩
   ·rw[Lo] at h;exact wpAny_eqBool_int h
   ·rw[Lq] at h;exact SeqAt.EqAt.int_str i t y u _ _ _ _ h
  ·rcases xq J with⟨j,u,rfl,rfl⟩|⟨y,u,rfl,rfl⟩
   ·rw[Lr] at h;exact SeqAt.EqAt.str_int x t j u _ _ _ _ h
   ·rw[Lp] at h;exact wpAny_eqBool_str h
 «strs» := λk x t v h=>by
  rcases xq h with⟨i,u,rfl,e⟩|⟨y,u,rfl,e⟩
  ·exact nomatch e
  ·injection e with I _
   subst I;cases v<;>rfl
theorem tM(prog:Program)(w:World)(i:Int)(t:Tok):(xo prog w).is (.inl i) (.int i t)=true:=Ln i t
theorem sO(prog:Program)(w:World)(x:Str)(t:Tok):(xo prog w).is (.inr x) (.str x t)=true:=yL x t
set_option genInjectivity true in
inductive V where
 |non|bl (b:Bool)|int (i:Int)|str (x:Str)|byt (b:Array UInt8)|flt (b:UInt64)|ref (a:Addr)|ty (n:String)
 deriving DecidableEq
def zk:V->Value->Prop
 |.non,u=>u=Value.none
 |.bl b,u=>u=Value.bool b
 |.int i,u=>∃t,u=Value.int i t
 |.str x,u=>∃t,u=Value.str x t
 |.byt b,u=>∃t,u=Value.bytes b t
 |.flt b,u=>∃t,u=Value.float b t
 |.ref a,u=>u=Value.ref a
 |.ty n,u=>u=Value.type n
abbrev zn:List V->List Value->Prop:=Paired zk
theorem zn.length{xs:List V}(r:zn xs us):xs.length=us.length:=Paired.length r
theorem zn.get:∀{xs:List V} {us:List Value} {i:Nat} {x:V},zn xs us->xs[i]?=some x->∃u,us[i]?=some u/\zk x u
 |_,_,_,_,.nil,e=>by simp at e
 |_,_,0,_,.cons r _,e=>by simp at e;subst e;exact⟨_,rfl,r⟩
 |_,_,i+1,x,.cons _ t,e=>by obtain⟨u,I,J⟩:=zn.get (i:=i) (x:=x) t (by simpa using e);exact⟨u,by simpa using I,J⟩
theorem zn.set{x:V}{u:Value}(r:zk x u):∀{xs:List V} {us:List Value} (i:Nat),zn xs us->zn (xs.set i x) (us.set i u)
 |_,_,_,.nil=>.nil
 |_,_,0,.cons _ t=>.cons r t
 |_,_,i+1,.cons q t=>.cons q<|zn.set r i t
theorem zn.append:∀{xs ys:List V} {us I:List Value},zn xs us->zn ys I->zn (xs++ys) (us++I):=by
 intro xs ys us I h s
 induction h with|nil=>exact s|cons r t J=>exact .cons r J
theorem zn.take:∀{xs:List V} {us:List Value} (n:Nat),zn xs us->zn (xs.take n) (us.take n)
 |_,_,0,_=>.nil
 |_,_,_+1,.nil=>.nil
 |_,_,n+1,.cons r t=>.cons r<|zn.take n t
theorem zn.drop:∀{xs:List V} {us:List Value} (n:Nat),zn xs us->zn (xs.drop n) (us.drop n)
 |_,_,0,r=>r
 |_,_,_+1,.nil=>.nil
 |_,_,n+1,.cons _ t=>zn.drop n t
def dN:Option V->Option Value->Prop
 |some v,some u=>zk v u
 |none,none=>True
 |_,_=>False
def KV :List (κ×V)->List (κ×Value)->Prop:=Paired λ(p:κ×V) (q:κ×Value)=>p.1=q.1/\zk p.2 q.2
def kV:j9->V
 |.inl i=>.int i
 |.inr x=>.str x
inductive HO where
 |lst (xs:List V)
 |tup (xs:List V)
 |dK (kvs:List<|j9×V)|dT (kvs:List<|List j9×V)
 |set (S:Int->Bool) (n:Nat)
 |ins (C dx:Addr) (fs:List<|Str×V)
 |own (x:Addr)
 |xd (fs:List<|Str×V)
 |met (f x:Addr)
 |rng (lo hi:Int)
 |frz (o:Obj) (u:HO)
 |tbl (ps:Array Value)
 |ext (φ:Heap->Prop)
abbrev Hp:=Addr->Option HO
def upd(H:Hp)(a:Addr)(o:HO):Hp:=λb=>if b=a then some o else H b
theorem zq{H:Hp}{a:Addr}{o:HO}:upd H a o a=some o:=by unfold upd;rw[AC rfl]
theorem qu{H:Hp}{a b:Addr}{o:HO}(h:b≠a):upd H a o b=H b:=by unfold upd;rw[AB h]
theorem Ls{H:Hp}{a:Addr}{o u:HO}:upd (upd H a o) a u=upd H a u:=by funext b;unfold upd;split<;>rfl
theorem Lu{H:Hp}{a b:Addr}{o u:HO}(h:H a=some o)(h':H b=some u)(d:o≠u):a≠b:=by intro e;subst e;rw[h] at h';exact d<|AO h'
theorem zx{H:Hp}{a b:Addr}{o:HO}(h:H a=some o)(h':H b=none):a≠b:=by intro e;subst e;rw[h] at h';cases h'
section
variable (P:Program)(w:World)
def xu(H:Hp)(h:Heap)(a:Addr):HO->Prop
 |.lst xs=>xs.length<=sizeLine/\∃(eH:List Value) (n:Nat),zn xs eH/\h.get? a=some { cls:=.type "list",data:=.seq eH.toArray n }
 |.tup xs=>xs.length<=sizeLine/\∃eH:List Value,zn xs eH/\IsTup h a eH.toArray
 |.dK kvs=>kvs.length<=sizeLine/\(a==sysModules)=false/\∃vs,KV kvs vs/\h.DictOf (xo P w) a vs
 |.dT kvs=>kvs.length<=sizeLine/\(a==sysModules)=false/\∃xs:List (List j9×Addr×Value),
  Paired (λ(p:List j9×V) (q:List j9×Addr×Value)=>p.1=q.1/\H q.2.1=some (.tup<|p.1.map kV)/\zk p.2 q.2.2) kvs xs/\
  ∃o es J,h.get? a=some o/\o.ExactDict/\o.data=.dict es J/\es.toList=xs.map (entryOfKey<|tupleKind<|xo P w)/\(xs.map (·.1)).Nodup
 |.set S n=>h.SetOf (intKind P w) a S n
 |.ins C dx fs=>H dx=some (.own a)/\fs.length<=1000/\dx≠a/\h.get? a=some (PySem.W.instObj C dx)/\
  ∃mA,h.Ns1 dx mA/\(∀f,dN (fs.lookup f)<|mA f)/\PySem.Within mA (fs.map (·.1))
 |.own _=>∃o,h.get? a=some o
 |.xd fs=>∃mA,h.Ns1 a mA/\∀f,dN (fs.lookup f)<|mA f
 |.rng lo hi=>∃t u v,h.get? a=some { cls:=.type "range",data:=.fields #[.int lo t,.int hi u,.int 1 v] }
 |.frz o u=>h.get? a=some o/\xu H h a u
 |.tbl ps=>h.get? a=some { cls:=.none,data:=.fields ps }
 |.met f x=>h.get? a=some (PySem.W.methodObj (.ref f)<|.ref x)
 |.ext I=>I h/\(∃o,h.get? a=some o)/\∀h1 h2:Heap,I h1->(∀o,h1.get? a=some o->h2.get? a=some o)->I h2
def fb(H:Hp)(h:Heap):Prop:=∀a o,H a=some o->xu P w H h a o
end
section
variable {P:Program}{w:World}{H H':Hp}{a:Addr}{o:HO}
theorem xu.lt(x:xu P w H h a o):a<h.objs.size:=by
 cases o with
 |lst J=>obtain⟨_,_,_,_,e⟩:=x;exact pj e
 |tup J=>obtain⟨_,_,_,p⟩:=x;exact p.lt
 |dK I=>obtain⟨_,_,_,_,o,_,_,e,_⟩:=x;exact pj e
 |dT I=>obtain⟨_,_,_,_,o,_,_,e,_⟩:=x;exact pj e
 |set S n=>obtain⟨o,_,_,_,e,_⟩:=x;exact pj e
 |ins C U fs=>obtain⟨_,_,_,e,_⟩:=x;exact pj e
 |own y=>obtain⟨_,e⟩:=x;exact pj e
 |xd fs=>obtain⟨_,⟨_,_,_,e,_⟩,_⟩:=x;exact pj e
 |rng lo g=>obtain⟨_,_,_,e⟩:=x;exact pj e
 |frz j u=>obtain⟨e,_⟩:=x;exact pj e
 |tbl l=>exact pj<|show h.get? a=some _ from x
 |met f y=>exact pj<|show h.get? a=some _ from x
 |ext r=>obtain⟨_,⟨_,e⟩,_⟩:=x;exact pj e
theorem Paired.mapP{F G:α->β->Prop}:∀{l₁:List α} {l₂:List β},Paired F l₁ l₂->(∀a b,F a b->G a b)->Paired G l₁ l₂:=by
 intro l₁ l₂ h f
 induction h with|nil=>exact .nil|cons r t I=>exact .cons (f _ _ r) I
abbrev ER:=@Paired.mapP
theorem xu.stay(x:xu P w H h a o)(k:∀b u,(b=a\/H b=some (.own a))->h.get? b=some u->h'.get? b=some u)
 (ho:∀b,H b=some (.own a)->H' b=some (.own a)) (ht:∀b xs,H b=some (.tup xs)->H' b=some (.tup xs)):xu P w H' h' a o:=by
 induction o with
 |lst xs=>obtain⟨z,g,n,r,e⟩:=x;exact⟨z,g,n,r,k _ _ (.inl rfl) e⟩
 |tup xs=>obtain⟨z,g,r,I,e,c⟩:=x;exact⟨z,g,r,I,k _ _ (.inl rfl) e,c⟩
 |dK j=>obtain⟨z,y,vs,r,I,J,U,e,c⟩:=x;exact⟨z,y,vs,r,I,J,U,k _ _ (.inl rfl) e,c⟩
 |dT j=>
  obtain⟨z,y,xs,r,I,J,U,e,c⟩:=x;exact⟨z,y,xs,ER r λp q z=>⟨z.1,ht _ _ z.2.1,z.2.2⟩,I,J,U,k _ _ (.inl rfl) e,c⟩
 |set S n=>obtain⟨I,J,U,t,e,c⟩:=x;exact⟨I,J,U,t,k _ _ (.inl rfl) e,c⟩
 |ins C dx fs=>
  obtain⟨d,z,ne,e,l,⟨T,J,U,e2,c⟩,r⟩:=x;exact⟨ho _ d,z,ne,k _ _ (.inl rfl) e,l,⟨T,J,U,k _ _ (.inr d) e2,c⟩,r⟩
 |own y=>obtain⟨I,e⟩:=x;exact⟨I,k _ _ (.inl rfl) e⟩
 |xd fs=>obtain⟨l,⟨T,J,U,e,c⟩,r⟩:=x;exact⟨l,⟨T,J,U,k _ _ (.inl rfl) e,c⟩,r⟩
 |rng lo hi=>obtain⟨t,u,v,e⟩:=x;exact⟨t,u,v,k _ _ (.inl rfl) e⟩
 |frz I u ih=>obtain⟨e,q⟩:=x;exact⟨k _ _ (.inl rfl) e,ih q⟩
 |tbl ps=>
  have e:h.get? a=some { cls:=.none,data:=.fields ps }:=x;show h'.get? a=some { cls:=.none,data:=.fields ps };exact k a _ (.inl rfl) e
 |met f y=>
  have e:h.get? a=some (PySem.W.methodObj (.ref f)<|.ref y):=x;show h'.get? a=some (PySem.W.methodObj (.ref f)<|.ref y);exact k a _ (.inl rfl) e
 |ext φ=>obtain⟨p,⟨o,e⟩,st⟩:=x;exact⟨st _ _ p λo q=>k _ _ (.inl rfl) q,⟨o,k _ _ (.inl rfl) e⟩,st⟩
theorem fb.lt(x:fb P w H h)(e:H a=some o):a<h.objs.size:=(x a o e).lt
theorem fb.fresh(x:fb P w H h)(e:h.objs.size<=a):H a=none:=by cases q:H a with|none=>rfl|some u=>exact absurd (AR (x.lt q) e)<|CD _
theorem fb.kept(x:fb P w H h)(k:∀b u,h.get? b=some u->h'.get? b=some u):fb P w H h':=λa o e=>
 (x a o e).stay (λb u _ q=>k b u q) (λ_ q=>q) λ_ _ q=>q
theorem fb.laid(x:fb P w H h)(k:∀b u,h.get? b=some u->h'.get? b=some u)(hp:h.objs.size<=a)(new:xu P w (upd H a o) h' a o):fb P w (upd H a o) h':=λb u e=>by
 have I:=x.fresh hp;by_cases J:b=a
 ·subst J;rw[zq] at e;cases e;exact new
 ·rw[qu J] at e;exact(x b u e).stay (λc v _ q=>k c v q) (λc q=>by rw[qu<|zx q I];exact q) λc U q=>by rw[qu<|zx q I];exact q
end
def Rd(H:Hp)(a:Addr)(u:HO):Prop:=H a=some u\/∃o,H a=some (.frz o u)
theorem Rd.ok{P:Program}{w:World}{H:Hp}{a:Addr}{u:HO}(r:Rd H a u)(x:fb P w H h):xu P w H h a u:=by
 rcases r with r|⟨o,r⟩
 ·exact x a u r
 ·obtain⟨_,q⟩:=x a _ r;exact q
def Bs:Option HO->Prop
 |some (.lst _)=>True
 |some (.dK _)=>True
 |some (.dT _)=>True
 |some (.set _ _)=>True
 |some (.ins _ _ _)=>True
 |some (.ext _)=>True
 |_=>False
section
variable {P:Program}{w:World}{H:Hp}{x e:Addr}{o':HO}
theorem fb.write(ok:fb P w H h)(g:Bs<|H x)(t:e=x\/H e=some (.own x))(k:∀b u,b≠e->h.get? b=some u->h'.get? b=some u)(p:∃u,h'.get? e=some u)
 (new:xu P w (upd H x o') h' x o'):fb P w (upd H x o') h':=λb u q=>by
 have J:∀c y,H c=some (.own y)->c≠x:=λc y r z=>by subst z;rw[r] at g;exact g
 have U:∀c j,H c=some (.tup j)->c≠x:=λc j r z=>by subst z;rw[r] at g;exact g
 by_cases l:b=x
 ·subst l;rw[zq] at q;cases q;exact new
 ·rw[qu l] at q;by_cases I:b=e
  ·have C:H b=some (.own x):=by
    rcases t with z|z
    ·exact absurd (I.trans z) l
    ·rw[I];exact z
   rw[q] at C;cases C;obtain⟨v,T⟩:=p;exact⟨v,by rw[I];exact T⟩
  ·refine(ok b u q).stay (λc v o r=>k c v ?_ r) (λc r=>by rw[qu<|J c b r];exact r) λc j r=>by rw[qu<|U c j r];exact r
   rcases o with rfl|o
   ·exact I
   ·rintro rfl;rcases t with z|z
    ·exact J c b o z
    ·rw[o] at z;cases z;exact l rfl
end
structure Un(fs ex:List Addr)(H H':Hp)(h h':Heap):Prop where
 keep:∀b o,h.get? b=some o->H b=none->b∉fs->b∉ex->h'.get? b=some o
 slot:∀b o,h.get? b=some o->H b=none->b∈fs->b∉ex->∃sl,h'.get? b=some { o with slots:=sl }
 free:∀b o,h.get? b=some o->H b=none->b∉ex->H' b=none
 there:∀b o,h.get? b=some o->b∉ex->∃o',h'.get? b=some o'
 tups:∀b xs,H b=some (.tup xs)->H' b=some (.tup xs)
 frzs:∀b o u,H b=some (.frz o u)->H' b=some (.frz o u)
 tbls:∀b ps,H b=some (.tbl ps)->∃more,H' b=some (.tbl<|ps++more)
section
variable {fs fs' ex ex':List Addr}{H H1 H2:Hp}{h1 h2:Heap}{a x e:Addr}{o:HO}
theorem Un.any(u:Un fs ex H H1 h h1){b:Addr}{I:Obj}(q:h.get? b=some I)(n:H b=none)(J:b∉ex):∃g,h1.get? b=some { I with slots:=g }:=by
 by_cases U:b∈fs
 ·exact u.slot b I q n U J
 ·exact⟨I.slots,u.keep b I q n U J⟩
theorem Un.kept(k:∀b u,h.get? b=some u->h'.get? b=some u):Un fs ex H H h h':=
 ⟨λb I q _ _ _=>k b I q,λb I q _ _ _=>⟨I.slots,k b I q⟩,λ_ _ _ n _=>n,λb I q _=>⟨I,k b I q⟩,λ_ _ q=>q,λ_ _ _ q=>q,λ_ J q=>⟨#[],by rw[q];simp⟩⟩
theorem Un.refl:Un fs ex H H h h:=Un.kept λ_ _ q=>q
theorem Un.laid(k:∀b u,h.get? b=some u->h'.get? b=some u)(hp:h.objs.size<=a)(I:H a=none):Un fs ex H (upd H a o) h h' where
 keep:=λb u q _ _ _=>k b u q
 slot:=λb u q _ _ _=>⟨u.slots,k b u q⟩
 free:=λb u q n _=>by rw[qu<|A5<|AR (pj q) hp];exact n
 there:=λb u q _=>⟨u,k b u q⟩
 tups:=λb J q=>by rw[qu<|zx q I];exact q
 frzs:=λb u J q=>by rw[qu<|zx q I];exact q
 tbls:=λb U q=>⟨#[],by rw[qu<|zx q I,q];simp⟩
theorem Un.write(J:Bs<|H x)(p:e=x\/H e=some (.own x))(k:∀b u,b≠e->h.get? b=some u->h'.get? b=some u)(U:∃u,h'.get? e=some u):Un fs ex H (upd H x o) h h':=by
 have j:∀b,H b=none->b≠x:=λb n z=>by subst z;rw[n] at J;exact J
 have l:∀b,H b=none->b≠e:=λb n z=>by
  subst z;rcases p with r|r
  ·exact j b n r
  ·rw[n] at r;cases r
 have g:∀b u,H b=some u->¬Bs (some u)->b≠x:=λb u q nm z=>by subst z;rw[q] at J;exact nm J
 refine⟨λb u q n _ _=>k b u (l b n) q,λb u q n _ _=>⟨u.slots,k b u (l b n) q⟩,λb u q n _=>by rw[qu<|j b n];exact n,λb u q _=>?_,
  λb t q=>by rw[qu<|g b _ q λz=>z];exact q,λb u t q=>by rw[qu<|g b _ q λz=>z];exact q,λb C q=>⟨#[],by rw[qu<|g b _ q λz=>z,q];simp⟩⟩
 by_cases I:b=e
 ·subst I;exact U
 ·exact⟨u,k b u I q⟩
end
def Fg(h:Heap)(H:Hp):List Addr:=(List.range h.objs.size).filter λa=>(H a).isSome
def qT(h:Heap)(H:Hp):Heap:=PySem.W.hideAll h<|Fg h H
theorem Lv(h:Heap)(H:Hp):(qT h H).objs.size=h.objs.size:=PySem.W.hideAll_size _ _
theorem Lw{H:Hp}{b:Addr}{o:Obj}(e:h.get? b=some o)(n:H b=none):(qT h H).get? b=some o:=
 PySem.W.hideAll_get _ e λI=>by have q:(H b).isSome=true:=(Az.mp I).2;rw[n] at q;simp at q
theorem Lx{H:Hp}{b:Addr}{o:Obj}(e:(qT h H).get? b=some o):h.get? b=some o/\H b=none:=by
 have I:h.get? b=some o:=PySem.W.of_hideAll (Fg h H) e;refine⟨I,?_⟩;cases q:H b with
 |none=>rfl
 |some x=>
  have J:b∈Fg h H:=Az.mpr ⟨AL.mpr<|pj I,by simp[q]⟩;have z:(qT h H).get? b=none:=PySem.W.hideAll_none (Fg h H) J;rw[z] at e;cases e
end L2
variable {xs zs:List L2.V}{H H' H₀:L2.Hp}
namespace L2
open PySem PySem.Spec PyProof.Rows
structure Mod(K:Aj)(mg:Str->Option Value)(base:Heap):Prop where
 kin:K.In base
 glob:base.Ns mainGlobals mg
 blt:∃mb,base.Ns builtinsNs mb/\∀x:Str,x ≠ "__name__" -> mb x=bootBuiltins x
 nolimit:base.NoLimit
structure Cx where
 prog:Program
 w:World
 K:Aj
 mg:Str->Option Value
 base:Heap
 A:Around
 N:List Str
 s₀:Shared
 H₀:Hp
 env:Env
 outer:List Env
 stack:List Env
 ex:List Addr
 fn:Str->Bool
 calm:Bool
 pn:List (Addr×Obj)
 xe:Value->Shared->Prop
def zP(l:List Env):List Addr:=l.filterMap (·.frame)
abbrev Cx.fs(X:Cx):List Addr:=zP X.outer
def u2(I:Scope)(x:Str):Prop:=I.names.lookup x=some .local\/I.names.lookup x=some .cell\/I.names.lookup x=some .free
def Loc(I:Scope)(x:Str):Prop:=I.names.lookup x=some .local\/I.names.lookup x=some .cell
def Ly(env:Env)(h:Heap)(m:Str->Option Value)(x:Str)(u:Value):Prop:=
 (env.kindOf x=some .local/\m x=some u)\/((env.kindOf x=some .cell\/env.kindOf x=some .free)/\∃c,env.cells.lookup x=some c/\h.IsCell c (some u))
structure Cx.Ok(X:Cx):Prop where
 mod:Mod X.K X.mg X.base
 kind:X.env.scope.kind=.function
 glob:X.env.globals=mainGlobals
 blt:X.env.builtins=builtinsNs
 above:X.s₀.heap.objs.size<=X.env.locals
 inj:∀x y c,X.env.cells.lookup x=some c->X.env.cells.lookup y=some c->x=y
 has:∀x,(X.env.kindOf x=some .cell\/X.env.kindOf x=some .free)->∃c,X.env.cells.lookup x=some c
 cab:∀x c,X.fn x=true->X.env.cells.lookup x=some c->X.s₀.heap.objs.size<=c
 hd:X.calm=true->X.A.handled=none
 frames:X.A.frames=some X.stack
 stk:X.stack=X.outer\/(X.stack=X.env::X.outer/\X.env.frame=some X.env.locals)
 exf:∀b∈X.ex,b≠X.env.locals/\∀x c,X.env.cells.lookup x=some c->c≠b
 bs:∀b o,X.base.get? b=some o->X.s₀.heap.get? b=some o/\X.H₀ b=none
 bsz:X.base.objs.size<=X.s₀.heap.objs.size
 noex:∀b o,X.base.get? b=some o->b∉X.ex
 exfs:∀b∈X.ex,b∉X.fs
 funs:X.s₀.heap.FunFrames X.base X.outer
 frf:∀b∈X.fs,X.H₀ b=none
structure z8(X:Cx)(pins:List<|Addr×Obj)(σ:List<|Option V)(H:Hp)(s:Shared):Prop where
 ok:X.Ok
 os:s.os=X.s₀.os
 bare:AllBare s.gens
 base:Un X.fs X.ex X.H₀ H X.s₀.heap s.heap
 loc:∃m,s.heap.Ns X.env.locals m/\∀(i:Nat) (x:Str) (v:V),X.N[i]?=some x->σ[i]?=some (some v)->u2 X.env.scope x->∃u,zk v u/\Ly X.env s.heap m x u
 cell:∀x c,X.env.cells.lookup x=some c->∃v,s.heap.IsCell c v
 free:H X.env.locals=none
 freeC:∀x c,X.env.cells.lookup x=some c->H c=none
 pin:∀p∈X.pn++pins,s.heap.get? p.1=some p.2/\H p.1=none/\p.1≠X.env.locals/\p.1∉X.fs/\∀v,p.2.data≠.cell v
 hok:fb X.prog X.w H s.heap
 len:σ.length=X.N.length
 tk:0<s.toks
section
variable {X:Cx}{σ:List<|Option V}
theorem Cx.Ok.nofr(ok:X.Ok){b:Addr}{o:Obj}(e:X.base.get? b=some o):b∉X.fs:=λI=>by have:=(ok.funs.mem I).1;rw[e] at this;cases this
theorem z8.bs(I:z8 X pins σ H s):∀b o,X.base.get? b=some o->s.heap.get? b=some o/\H b=none:=λb o e=>
 ⟨I.base.keep b o (I.ok.bs b o e).1 (I.ok.bs b o e).2 (I.ok.nofr e)<|I.ok.noex b o e,I.base.free b o (I.ok.bs b o e).1 (I.ok.bs b o e).2<|I.ok.noex b o e⟩
theorem z8.bk(I:z8 X pins σ H s):∀b o,X.base.get? b=some o->s.heap.get? b=some o:=λb o e=>(I.bs b o e).1
theorem z8.mod(I:z8 X pins σ H s):Mod X.K X.mg X.base:=I.ok.mod
theorem z8.kIn(I:z8 X pins σ H s):X.K.In s.heap:=I.ok.mod.kin.keeps I.bk
theorem z8.nolimit(I:z8 X pins σ H s):s.heap.NoLimit:=I.ok.mod.nolimit.keeps I.bk
theorem z8.lt(I:z8 X pins σ H s):X.env.locals<s.heap.objs.size:=let ⟨_,J,_⟩:=I.loc;J.lt
theorem z8.sz(I:z8 X pins σ H s):X.s₀.heap.objs.size<=s.heap.objs.size:=AN I.ok.above<|Bf I.lt
theorem z8.nofs(I:z8 X pins σ H s){a:Addr}(h:s.heap.objs.size<=a):a∉X.fs:=λJ=>by obtain⟨_,o,U,_⟩:=I.ok.funs.mem J;exact absurd (AR (pj U)<|AN I.sz h)<|CD _
theorem z8.cne(I:z8 X pins σ H s):∀x c,X.env.cells.lookup x=some c->c≠X.env.locals:=λx c e z=>by obtain⟨v,o,g,hd⟩:=I.cell x c e;obtain⟨m,⟨j,l,p,J,U,_⟩,_⟩:=I.loc;rw[z,J] at g;cases g;rw[U] at hd;cases hd
theorem z8.funs(I:z8 X pins σ H s):s.heap.FunFrames X.base X.outer:=by
 have all:∀(l:List Env),(∀b∈zP l,b∈X.fs)->X.s₀.heap.FunFrames X.base l->s.heap.FunFrames X.base l:=by
  intro l
  induction l with
  |nil=>intro _ _;trivial
  |cons p r t=>
   intro j C;obtain⟨T,⟨L,o,J,hn,ho,hd⟩,hr⟩:=C;have U:L∈X.fs:=j L (by unfold zP;rw[B3,J];exact Ak);obtain⟨sl,e⟩:=I.base.slot L o ho (I.ok.frf L U) U λz=>I.ok.exfs L z U;exact⟨T,⟨L,_,J,hn,e,hd⟩,t (λb g=>j b (by unfold zP;rw[B3,J];exact Ab _ g)) hr⟩
 exact all X.outer (λ_ g=>g) I.ok.funs
theorem z8.stack(I:z8 X pins σ H s):s.heap.FunFrames X.base X.stack:=by
 rcases I.ok.stk with e|⟨e,J⟩
 ·rw[e];exact I.funs
 ·rw[e];obtain⟨m,U,_⟩:=I.loc;refine .cons (by rw[I.ok.kind];decide) J U ?_ I.funs;exact Heap.get?_none_of_le<|AN I.ok.bsz I.ok.above
theorem z8.stkSub(I:z8 X pins σ H s):∀b∈zP X.stack,b∈X.env.locals::X.fs:=λb J=>by
 rcases I.ok.stk with e|⟨e,U⟩
 ·rw[e] at J;exact Ab _ J
 ·rw[e] at J;unfold zP at J;rw[B3,U] at J;exact J
theorem z8.stkFree(I:z8 X pins σ H s):∀b∈zP X.stack,H b=none:=λb J=>by
 rcases Ao.mp (I.stkSub b J) with e|J
 ·rw[e];exact I.free
 ·obtain⟨_,o,U,_⟩:=I.ok.funs.mem J;exact I.base.free b o U (I.ok.frf b J) λz=>I.ok.exfs b z J
theorem z8.step{g':Array GenState}{d':Drawn}(I:z8 X pins σ H s)
 (U:∀b∈ch,(b∈X.ex\/X.s₀.heap.objs.size<=b)/\b≠X.env.locals/\(∀x c,X.env.cells.lookup x=some c->c≠b)/\∀p∈X.pn++pins,p.1≠b)
 (keep:∀b o,b≠X.env.locals->b∉X.fs->b∉ch->s.heap.get? b=some o->H b=none->h'.get? b=some o)
 (slot:∀b o,b≠X.env.locals->b∈X.fs->b∉ch->s.heap.get? b=some o->H b=none->∃sl,h'.get? b=some { o with slots:=sl }) (free:∀b o,b∉ch->s.heap.get? b=some o->H b=none->H' b=none)
 (there:∀b o,b∉ch->s.heap.get? b=some o->∃o',h'.get? b=some o')
 (tups:∀b xs,H b=some (.tup xs)->H' b=some (.tup xs)) (frzs:∀b o u,H b=some (.frz o u)->H' b=some (.frz o u)) (tbls:∀b ps,H b=some (.tbl ps)->∃more,H' b=some (.tbl<|ps++more))
 (ns:∀m,s.heap.Ns X.env.locals m->h'.Ns X.env.locals m) (hok:fb X.prog X.w H' h') (hg:AllBare g') (ht:0<t':=by walk_at "t"):
 z8 X pins σ H' { s with heap:=h',gens:=g',drawn:=d',toks:=t' }:=by
 have aU:∀b o,X.s₀.heap.get? b=some o->b≠X.env.locals:=λb o e=>A5<|AR (pj e) I.ok.above;have t:∀b o,X.s₀.heap.get? b=some o->b∉X.ex->b∉ch:=λb o e J T=>by
  rcases (U b T).1 with z|z
  ·exact J z
  ·exact absurd (AR (pj e) z)<|CD _
 have g:∀x c,X.env.cells.lookup x=some c->∀v,s.heap.IsCell c v->h'.IsCell c v:=λx c e v ψ=>by
  obtain⟨o,ho,hd⟩:=ψ
  have j:c∉ch:=λz=>(U c z).2.2.1 x c e rfl;by_cases hc:c∈X.fs
  ·obtain⟨sl,q⟩:=slot c o (I.cne x c e) hc j ho<|I.freeC x c e;exact⟨_,q,hd⟩
  ·exact⟨o,keep c o (I.cne x c e) hc j ho<|I.freeC x c e,hd⟩
 refine⟨I.ok,I.os,hg,⟨λb o e n T J=>?_,λb o e n T J=>?_,λb o e n J=>?_,λb o e J=>?_,λb xs e=>tups b xs<|I.base.tups b xs e,λb o xs e=>frzs b o xs<|I.base.frzs b o xs e,λb ps e=>?_⟩,?_,λx c e=>?_,?_,λx c e=>?_,λp hp=>?_,hok,I.len,ht⟩
 ·exact keep b o (aU b o e) T (t b o e J) (I.base.keep b o e n T J)<|I.base.free b o e n J
 ·obtain⟨sl,C⟩:=I.base.slot b o e n T J;obtain⟨a0,e2⟩:=slot b _ (aU b o e) T (t b o e J) C<|I.base.free b o e n J;exact⟨a0,e2⟩
 ·obtain⟨o',C⟩:=I.base.there b o e J;exact free b o' (t b o e J) C<|I.base.free b o e n J
 ·obtain⟨o',C⟩:=I.base.there b o e J;exact there b o' (t b o e J) C
 ·obtain⟨m1,C⟩:=I.base.tbls b ps e;obtain⟨m2,e2⟩:=tbls b _ C;exact⟨m1++m2,by rw[e2,Array.append_assoc]⟩
 ·obtain⟨m,hn,hl⟩:=I.loc;refine⟨m,ns m hn,λi x v C e2 e3=>?_⟩;obtain⟨u,r,l⟩:=hl i x v C e2 e3;refine⟨u,r,?_⟩;rcases l with l|⟨k,c,e,z⟩
  ·exact .inl l
  ·exact .inr ⟨k,c,e,g x c e _ z⟩
 ·obtain⟨v,z⟩:=I.cell x c e;exact⟨v,g x c e v z⟩
 ·obtain⟨m,⟨o,_,_,ho,_⟩,_⟩:=I.loc;exact free _ o (λz=>(U _ z).2.1 rfl) ho I.free
 ·obtain⟨v,o,ho,hd⟩:=I.cell x c e;exact free c o (λz=>(U c z).2.2.1 x c e rfl) ho<|I.freeC x c e
 ·obtain⟨e,n,ne,nf,d⟩:=I.pin p hp;have j:p.1∉ch:=λz=>(U p.1 z).2.2.2 p hp rfl;exact⟨keep p.1 p.2 ne nf j e n,free p.1 p.2 j e n,ne,nf,d⟩
theorem z8.un(I:z8 X pins σ H s)(u:Un X.fs [] H H' s.heap h')(hok:fb X.prog X.w H' h')(T:0<t':=by walk_at "t"):z8 X pins σ H' { s with heap:=h',toks:=t' }:=by obtain⟨m,⟨o,es,ep,l,r⟩,_⟩:=id I.loc;obtain⟨sl,p⟩:=u.any l I.free (by simp);exact I.step (g':=s.gens) (d':=s.drawn) (ch:=[]) (λ_ z=>nomatch z) (λb o _ U _ e n=>u.keep b o e n U (by simp)) (λb o _ U _ e n=>u.slot b o e n U (by simp)) (λb o _ e n=>u.free b o e n (by simp)) (λb o _ e=>u.there b o e (by simp)) u.tups u.frzs u.tbls (λm' t=>by obtain⟨o',g,j,J,C⟩:=t;rw[l] at J;cases J;exact⟨_,g,j,p,C⟩) hok I.bare
theorem z8.call{g':Array GenState}{d':Drawn}(I:z8 X pins σ H s)(u:Un (zP X.stack) ch H H' s.heap h')(hok:fb X.prog X.w H' h')(T:AllBare g')
 (U:∀b∈ch,(b∈X.ex\/X.s₀.heap.objs.size<=b)/\b≠X.env.locals/\(∀x c,X.env.cells.lookup x=some c->c≠b)/\∀p∈X.pn++pins,p.1≠b) (ht:0<t':=by walk_at "t"):
 z8 X pins σ H' { s with heap:=h',gens:=g',drawn:=d',toks:=t' }:=by
 obtain⟨m,⟨o,es,ep,C,r⟩,_⟩:=id I.loc;obtain⟨sl,j⟩:=u.any C I.free λz=>(U _ z).2.1 rfl;exact I.step (ch:=ch) U (λb o j hb J e n=>u.keep b o e n (λz=>(Ao.mp<|I.stkSub b z).elim j hb) J) (λb o _ _ J e n=>u.any e n J) (λb o J e n=>u.free b o e n J) (λb o J e=>u.there b o e J) u.tups u.frzs u.tbls (λm' hm=>by obtain⟨o',l,t,g,r'⟩:=hm;rw[C] at g;cases g;exact⟨_,l,t,j,r'⟩) hok T
theorem z8.turned(I:z8 X pins σ H s)(k:∀b o,b≠it->s.heap.get? b=some o->h'.get? b=some o)(j:H it=none)(g:it≠X.env.locals)
 (h1:it∈X.ex\/X.s₀.heap.objs.size<=it) (h2:∀x c,X.env.cells.lookup x=some c->c≠it) (l:∀p∈X.pn++pins,p.1≠it) (ht:0<t':=by walk_at "t"):z8 X pins σ H { s with heap:=h',toks:=t' }:=by
 have U:∀b u,H b=some u->b≠it:=λb u e z=>by rw[z,j] at e;cases e
 refine I.step (g':=s.gens) (d':=s.drawn) (ch:=[it]) (λb t=>?_) (λb o _ _ J e _=>k b o (λz=>J (by simp[z])) e) (λb o _ _ J e _=>⟨o.slots,k b o (λz=>J (by simp[z])) e⟩) (λ_ _ _ _ n=>n)
  (λb o J e=>⟨o,k b o (λz=>J (by simp[z])) e⟩) (λ_ _ e=>e) (λ_ _ _ e=>e) (λb ps e=>⟨#[],by rw[e];simp⟩) (λm C=>?_) (λb u e=>?_) I.bare
 ·have e:b=it:=by simpa using t
  subst e;exact⟨h1,g,h2,l⟩
 ·obtain⟨o,T,ep,ho,r⟩:=C;exact⟨o,T,ep,k _ o (A4 g) ho,r⟩
 ·refine(I.hok b u e).stay (λc v J q=>k c v ?_ q) (λ_ q=>q) λ_ _ q=>q;rcases J with z|z
  ·rw[z];exact U b u e
  ·exact U c _ z
theorem z8.tok(I:z8 X pins σ H s)(t:Nat)(J:0<t:=by walk_at "t"):z8 X pins σ H { s with toks:=t }:=I.un (h':=s.heap) (t':=t) Un.refl I.hok
theorem z8.kept(I:z8 X pins σ H s)(k:∀b u,s.heap.get? b=some u->h'.get? b=some u)(J:0<t':=by walk_at "t"):z8 X pins σ H { s with heap:=h',toks:=t' }:=I.un (Un.kept k)<|I.hok.kept k
theorem z8.laid{a:Addr}{o:HO}(I:z8 X pins σ H s)(k:∀b u,s.heap.get? b=some u->h'.get? b=some u)(hp:s.heap.objs.size<=a)(new:xu X.prog X.w (upd H a o) h' a o)(J:0<t':=by walk_at "t"):
 z8 X pins σ (upd H a o) { s with heap:=h',toks:=t' }:=I.un (Un.laid k hp<|I.hok.fresh hp)<|I.hok.laid k hp new
theorem z8.write{x e:Addr}{o:HO}(I:z8 X pins σ H s)(U:Bs<|H x)(g:e=x\/H e=some (.own x))(k:∀b u,b≠e->s.heap.get? b=some u->h'.get? b=some u)(J:∃u,h'.get? e=some u)
 (new:xu X.prog X.w (upd H x o) h' x o) (j:0<t':=by walk_at "t"):z8 X pins σ (upd H x o) { s with heap:=h',toks:=t' }:=I.un (Un.write U g k J)<|I.hok.write U g k J new
theorem z8.weak{ir:List<|Option V}(I:z8 X pins σ H s)(U:ir.length=σ.length)(w:∀(i:Nat) v,ir[i]?=some (some v)->σ[i]?=some (some v)):z8 X pins ir H s:=
 ⟨I.ok,I.os,I.bare,I.base,let ⟨m,g,J⟩:=I.loc;⟨m,g,λi x v j l o=>J i x v j (w i v l) o⟩,I.cell,I.free,I.freeC,I.pin,I.hok,U.trans I.len,I.tk⟩
theorem z8.pins_of{J:List<|Addr×Obj}(I:z8 X pins σ H s)(h:∀p∈J,s.heap.get? p.1=some p.2/\H p.1=none/\p.1≠X.env.locals/\p.1∉X.fs/\∀v,p.2.data≠.cell v):z8 X J σ H s:=
 ⟨I.ok,I.os,I.bare,I.base,I.loc,I.cell,I.free,I.freeC,λp U=>(Ag.mp U).elim (λz=>I.pin p<|Ai _ z)<|h p,I.hok,I.len,I.tk⟩
theorem rP{N:List Str}(hN:N.Nodup)(a:N[i]?=some x)(b:N[j]?=some x):i=j:=by obtain⟨U,I⟩:=AS.mp a;obtain⟨g,J⟩:=AS.mp b;exact(List.getElem_inj hN).mp (I.trans J.symm)
theorem oF{v:V}{Q:Unit->Shared->Prop}(I:z8 X pins σ H s)(hN:X.N.Nodup)(hi:X.N[i]?=some x)(t:Loc X.env.scope x)(r:zk v u)
 (h:∀s',z8 X pins (σ.set i<|some v) H s'->(∃a,Heap.SameBut a s.heap s'.heap/\(a=X.env.locals\/X.env.cells.lookup x=some a))->(X.env.kindOf x=some .local->∃m',s'.heap.Ns X.env.locals m'/\m' x=some u)->Q () s') (hf:X.fn x=true\/X.env.scope.names.lookup x=some .local:=by first|exact .inl rfl|exact .inr rfl|assumption):wpAny M A (storeName X.env x u) Q E s:=by
 obtain⟨m,hn,hl⟩:=id I.loc;have a2:(X.env.scope.kind==.class||(X.env.scope.kind==.module&&X.env.locals != X.env.globals))=false:=by rw[I.ok.kind];rfl
 have a0:i<σ.length:=by rw[I.len];exact(AS.mp hi).1
 have cne:=I.cne;have U:∀{a:Addr} {h':Heap},(∃o,s.heap.get? a=some o/\H a=none)->Heap.SameBut a s.heap h'->fb X.prog X.w H h':=λ{a h'} ha J b ob e=>by
  obtain⟨_,_,C⟩:=ha;refine(I.hok b ob e).stay (λc w' l q=>(J.2 c ?_).trans q) (λ_ q=>q) λ_ _ q=>q;rintro rfl;rcases l with rfl|l
  ·rw[C] at e;cases e
  ·rw[C] at l;cases l
 rcases t with T|T
 ·refine wpAny_storeName_local T hn (λh' a3 J=>?_) a2;obtain⟨oL,_,_,ac,_⟩:=id hn;refine h _ ⟨I.ok,I.os,I.bare,⟨λb o e n hb t=>?_,λb o e n hb t=>?_,I.base.free,λb o e t=>?_,I.base.tups,I.base.frzs,I.base.tbls⟩,⟨_,a3,λj y v' g e2 e3=>?_⟩,λy c e=>?_,I.free,I.freeC,λp hp=>?_,U ⟨oL,ac,I.free⟩ J,by simpa using I.len,by first|exact I.tk|exact CU _⟩ ⟨_,J,.inl rfl⟩ λ_=>⟨_,a3,by simp⟩
  ·exact(J.2 b<|A5<|AR (pj e) I.ok.above).trans (I.base.keep b o e n hb t)
  ·obtain⟨sl,g⟩:=I.base.slot b o e n hb t;exact⟨sl,(J.2 b<|A5<|AR (pj e) I.ok.above).trans g⟩
  ·obtain⟨o',g⟩:=I.base.there b o e t;exact⟨o',(J.2 b<|A5<|AR (pj e) I.ok.above).trans g⟩
  ·by_cases hj:j=i
   ·subst hj;rw[hi] at g;cases g;rw[BX a0] at e2;cases e2;exact⟨u,r,.inl ⟨T,by simp⟩⟩
   ·rw[Bi<|A4 hj] at e2;obtain⟨u',r',q⟩:=hl j y v' g e2 e3;refine⟨u',r',?_⟩;rcases q with⟨k,e⟩|⟨k,c,e,z⟩
    ·refine .inl ⟨k,?_⟩;have:y≠x:=λe=>hj<|rP hN g<|e▸hi;simp[this,e]
    ·exact .inr ⟨k,c,e,z.sameBut J<|cne y c e⟩
  ·obtain⟨w',z⟩:=I.cell y c e;exact⟨w',z.sameBut J<|cne y c e⟩
  ·obtain⟨e,n,ne,nf,d⟩:=I.pin p hp;exact⟨(J.2 p.1 ne).trans e,n,ne,nf,d⟩
 ·have a1:X.fn x=true:=by
   rcases hf with z|z
   ·exact z
   ·rw[z] at T;cases T
  obtain⟨c,l⟩:=I.ok.has x<|.inl T;obtain⟨w',z⟩:=I.cell x c l;refine wpAny_storeName_cell I.ok.kind T l z λh' a4 J=>?_;obtain⟨oc,a5,a7⟩:=id z;refine h { s with heap:=h' } ⟨I.ok,I.os,I.bare,⟨λb o e n hb t=>?_,λb o e n hb t=>?_,I.base.free,λb o e t=>?_,I.base.tups,I.base.frzs,I.base.tbls⟩,⟨m,hn.sameBut J<|A4<|cne x c l,λj y v' g e2 e3=>?_⟩,λy c' e=>?_,I.free,I.freeC,λp hp=>?_,U ⟨oc,a5,I.freeC x c l⟩ J,by simpa using I.len,I.tk⟩ ⟨c,J,.inr l⟩ (λz=>by have e:=(show X.env.kindOf x=some .cell from T).symm.trans z;cases e)
  ·exact(J.2 b<|A5<|AR (pj e)<|I.ok.cab x c a1 l).trans (I.base.keep b o e n hb t)
  ·obtain⟨sl,g⟩:=I.base.slot b o e n hb t;exact⟨sl,(J.2 b<|A5<|AR (pj e)<|I.ok.cab x c a1 l).trans g⟩
  ·obtain⟨o',g⟩:=I.base.there b o e t;exact⟨o',(J.2 b<|A5<|AR (pj e)<|I.ok.cab x c a1 l).trans g⟩
  ·by_cases hj:j=i
   ·subst hj;rw[hi] at g;cases g;rw[BX a0] at e2;cases e2;exact⟨u,r,.inr ⟨.inl T,c,l,a4⟩⟩
   ·rw[Bi<|A4 hj] at e2;obtain⟨u',r',q⟩:=hl j y v' g e2 e3;refine⟨u',r',?_⟩;rcases q with q|⟨k,c',e,z'⟩
    ·exact .inl q
    ·refine .inr ⟨k,c',e,z'.sameBut J ?_⟩;rintro rfl;exact hj<|rP hN g<|I.ok.inj _ _ _ e l▸hi
  ·by_cases ab:c'=c
   ·subst ab;exact⟨_,a4⟩
   ·obtain⟨w2,z2⟩:=I.cell y c' e;exact⟨w2,z2.sameBut J ab⟩
  ·obtain⟨e,n,ne,nf,d⟩:=I.pin p hp;refine⟨(J.2 p.1 ?_).trans e,n,ne,nf,d⟩;intro q;rw[q,a5] at e;have q':oc=p.2:=AO e;exact d w' (by rw[<-q'];exact a7)
theorem gb{v:V}{Q:Unit->Shared->Prop}(I:z8 X pins σ H s)(hN:X.N.Nodup)(hi:X.N[i]?=some x)(J:Loc X.env.scope x)(r:zk v u)
 (h:∀s',z8 X pins (σ.set i<|some v) H s'->Q () s') (U:X.fn x=true\/X.env.scope.names.lookup x=some .local:=by first|exact .inl rfl|exact .inr rfl|assumption):wpAny M A (storeName X.env x u) Q E s:=
 oF I hN hi J r (λs' g _ _=>h s' g) U
theorem z8.call'(I:z8 X pins σ H s)(U:s'.os=s.os)(u:Un (zP X.stack) ch H H' s.heap s'.heap)(hok:fb X.prog X.w H' s'.heap)(g:AllBare s'.gens)
 (J:∀b∈ch,(b∈X.ex\/X.s₀.heap.objs.size<=b)/\b≠X.env.locals/\(∀x c,X.env.cells.lookup x=some c->c≠b)/\∀p∈X.pn++pins,p.1≠b) (j:0<s'.toks:=by walk_at "t"):z8 X pins σ H' s':=by
 obtain⟨o,g',d',t',l⟩:=s';have e:l=s.os:=U;subst e;exact I.call (g':=g') (t':=t') (d':=d') u hok g J j
end
abbrev XK:=Value->Option Addr->Hp->Prop
abbrev St:=List<|Option V
abbrev VK:=V->Hp->Prop
abbrev TE:=St->Hp->VK->Prop
abbrev TT:=St->Hp->(Bool->Hp->Prop)->Prop
abbrev TA:=St->Hp->(List V->Hp->Prop)->Prop
structure vJ where
 nx:St->Hp->Prop
 rt:VK
 bk:St->Hp->Prop:=λ_ _=>False
 ct:St->Hp->Prop:=λ_ _=>False
abbrev TS:=vJ->St->Hp->Prop
def EP(X:Cx)(pins:List<|Addr×Obj)(σ:St)(Q:VK)(u:Value)(s':Shared):Prop:=∃v H',z8 X pins σ H' s'/\zk v u/\Q v H'
def TP(X:Cx)(pins:List<|Addr×Obj)(σ:St)(Q:Bool->Hp->Prop)(b:Bool)(s':Shared):Prop:=∃H',z8 X pins σ H' s'/\Q b H'
def AP(X:Cx)(pins:List<|Addr×Obj)(σ:St)(Q:List V->Hp->Prop)(us:List Value)(s':Shared):Prop:=∃vs H',z8 X pins σ H' s'/\zn vs us/\Q vs H'
def SP(X:Cx)(pins:List<|Addr×Obj)(D:vJ)(f:Flow)(s':Shared):Prop:=
 match f with
 |.next=>∃ir H',z8 X pins ir H' s'/\D.nx ir H'
 |.brk=>∃ir H',z8 X pins ir H' s'/\D.bk ir H'
 |.cont=>∃ir H',z8 X pins ir H' s'/\D.ct ir H'
 |.ret u=>∃v ir H',z8 X pins ir H' s'/\zk v u/\D.rt v H'
def PE(X:Cx)(e:Expr)(t:TE):Prop:=
 ∀(pins:List<|Addr×Obj) (s:Shared) (σ:St) (H:Hp) (Q:VK),z8 X pins σ H s->t σ H Q->wpAny (model X.prog X.w) X.A (eval e X.env) (EP X pins σ Q) X.xe s
def PT(X:Cx)(e:Expr)(t:TT):Prop:=
 ∀(pins:List<|Addr×Obj) (s:Shared) (σ:St) (H:Hp) (Q:Bool->Hp->Prop),z8 X pins σ H s->t σ H Q->wpAny (model X.prog X.w) X.A (isTrue e X.env<|eval e X.env) (TP X pins σ Q) X.xe s
def PW(X:Cx)(e:Expr)(t:TT):Prop:=
 ∀(whole:Sem Value) (pins:List<|Addr×Obj) (s:Shared) (σ:St) (H:Hp) (Q:Bool->Hp->Prop),z8 X pins σ H s->t σ H Q->wpAny (model X.prog X.w) X.A (isTrue e X.env whole) (TP X pins σ Q) X.xe s
theorem PW.pt{X:Cx}{t:TT}(h:PW X e t):PT X e t:=h _
def PA(X:Cx)(es:List Expr)(t:TA):Prop:=
 ∀(pos:Pos) (pins:List<|Addr×Obj) (s:Shared) (σ:St) (H:Hp) (Q:List V->Hp->Prop),z8 X pins σ H s->t σ H Q->wpAny (model X.prog X.w) X.A (spliced<|backTo pos<|starEach es X.env) (AP X pins σ Q) X.xe s
def PS(X:Cx)(st:Stmt)(t:TS):Prop:=
 ∀(pins:List<|Addr×Obj) (s:Shared) (σ:St) (H:Hp) (D:vJ),z8 X pins σ H s->t D σ H->wpAny (model X.prog X.w) X.A (exec st X.env) (SP X pins D) X.xe s
def jP(X:Cx)(st:List Stmt)(t:TS):Prop:=
 ∀(pins:List<|Addr×Obj) (s:Shared) (σ:St) (H:Hp) (D:vJ),z8 X pins σ H s->t D σ H->wpAny (model X.prog X.w) X.A (execs st X.env) (SP X pins D) X.xe s
theorem aT{t:Sem α}{Q I:α->Shared->Prop}(h:wpAny M A t Q E s)(J:∀a s,Q a s->I a s):wpAny M A t I E s:=AX h J λ_ _ x=>x
theorem aS{t:Sem Value}{X:Cx}{σ:St}{Q:VK}{I:Value->Shared->Prop}(h:wpAny M A t (EP X pins σ Q) E s)(J:∀v s x H,z8 X pins σ H s->zk x v->Q x H->I v s):wpAny M A t I E s:=aT h λv s ψ=>(by obtain⟨x,H,a,b,c⟩:=ψ;exact J v s x H a b c)
theorem rJ{t:Sem<|List Value}{X:Cx}{σ:St}{Q:List V->Hp->Prop}{I:List Value->Shared->Prop}(h:wpAny M A t (AP X pins σ Q) E s)(J:∀v s x H,z8 X pins σ H s->zn x v->Q x H->I v s):wpAny M A t I E s:=aT h λv s ψ=>(by obtain⟨x,H,a,b,c⟩:=ψ;exact J v s x H a b c)
end L2
variable {t:L2.TA}{X:L2.Cx}{σ:L2.St}
namespace L2
open PySem PySem.Spec PyProof.Rows
section
def Fz(i:Nat):TE:=λσ H Q=>∃v,σ[i]?=some (some v)/\Q v H
def tC(v:V):TE:=λ_ H Q=>Q v H
abbrev Fe(x:Str):Prop:=(x==("__debug__":Str))=false
abbrev Ff(x:Str):Prop:=(x==("__classdict__":Str))=false
theorem Lz(hN:X.N[i]?=some x)(p:u2 X.env.scope x)(hd:Fe x:=by decide)(j:Ff x:=by decide):PE X (.Name x pos) (Fz i):=by
 intro g s t H Q I h;obtain⟨v,e,h⟩:=h;obtain⟨m,C,T⟩:=I.loc;obtain⟨u,r,l⟩:=T i x v hN e p;have x0:EP X g t Q u s:=⟨v,H,I,r,h⟩;rcases l with⟨U,hm⟩|⟨U,c,o,J⟩
 ·exact wpAny_Name (wpAny_loadName_local I.ok.kind U C hm x0) hd
 ·rcases U with U|U
  ·exact wpAny_Name (wpAny_loadName_cell I.ok.kind U o J x0) hd
  ·exact wpAny_Name (wpAny_loadName_free I.ok.kind U o J x0 j) hd
theorem LA{i j pos}:PE X (.Constant (.int i) j pos) (tC<|.int i):=λ_ _ _ H _ I h=>wpAny_Constant_int ⟨.int i,H,I.tok _,⟨_,rfl⟩,h⟩
theorem LB{b j pos}:PE X (.Constant (.bool b) j pos) (tC<|.bl b):=λ_ _ _ H _ I h=>Constant_bool ⟨.bl b,H,I,rfl,h⟩
theorem LC{j pos}:PE X (.Constant .none j pos) (tC .non):=λ_ _ _ H _ I h=>Constant_none ⟨.non,H,I,rfl,h⟩
theorem cj{x j pos}:PE X (.Constant (.str x) j pos) (tC<|.str x):=λ_ _ _ H _ I h=>Calls.Constant_str ⟨.str x,H,I.tok _,⟨_,rfl⟩,h⟩
def Gl(X:Cx)(x:Str):Prop:=X.env.kindOf x=some .globalImplicit
theorem ox(I:z8 X pins σ H s)(J:Gl X x)(U:X.mg x=some u)(h:Q u s)
 (hd:Fe x:=by decide):wpAny (model X.prog X.w) X.A (eval (.Name x pos) X.env) Q E s:=
 Calls.Name_function_global I.ok.kind J (Calls.loadGlobal_global (by rw[I.ok.glob];exact I.mod.glob.keeps I.bk) U h) hd
theorem gJ(I:z8 X pins σ H s)(J:Gl X x)(U:X.mg x=none)(g:bootBuiltins x=some u)(h:Q u s)
 (j:x ≠ "__name__" := by decide) (hd:Fe x:=by decide):wpAny (model X.prog X.w) X.A (eval (.Name x pos) X.env) Q E s:=by
 obtain⟨p,l,o⟩:=I.mod.blt;exact Calls.Name_function_global I.ok.kind J (Calls.loadGlobal_builtin (by rw[I.ok.glob];exact I.mod.glob.keeps I.bk) U (by rw[I.ok.blt];exact l.keeps I.bk) ((o x j).trans g) h) hd
theorem LD{v:V}(J:Gl X x)(U:X.mg x=some u)(r:zk v u)(hd:Fe x:=by decide):PE X (.Name x pos) (tC v):=
 λ_ _ _ H _ I h=>ox I J U ⟨v,H,I,r,h⟩ hd
theorem LG{v:V}(J:Gl X x)(U:X.mg x=none)(g:bootBuiltins x=some u)(r:zk v u)(j:x ≠ "__name__" := by decide)(hd:Fe x:=by decide):PE X (.Name x pos) (tC v):=
 λ_ _ _ H _ I h=>gJ I J U g ⟨v,H,I,r,h⟩ j hd
variable {a b:Expr}{ta tb:TE}
def PC(X:Cx)(op:CmpOp)(a b:Expr)(t:TE):Prop:=
 ∀(pins:List<|Addr×Obj) (s:Shared) (σ:St) (H:Hp) (Q:VK),z8 X pins σ H s->t σ H Q->
  wpAny (model X.prog X.w) X.A (eval a X.env) (λv I=>wpAny (model X.prog X.w) X.A (eval b X.env) (λu J=>wpAny (model X.prog X.w) X.A (compareOp op v u) (EP X pins σ Q) X.xe J) X.xe I) X.xe s
theorem uG(b:Expr){op:CmpOp}(h:op≠.In)(h2:op≠.NotIn):behindInMarks op b=false:=by
 have I:(op==CmpOp.In)=false:=by cases op<;>first|rfl|exact absurd rfl h
 have J:(op==CmpOp.NotIn)=false:=by cases op<;>first|rfl|exact absurd rfl h2
 cases b<;>simp[behindInMarks,I,J]
def G6(ta:TE):TE:=λσ H Q=>ta σ H λx H1=>Q (.bl<|decide<|x=.non) H1
def G7(ta:TE):TE:=λσ H Q=>ta σ H λx H1=>Q (.bl<|!decide (x=.non)) H1
theorem zk.none_iff{x:V}(r:zk x v):(v==Value.none)=decide (x=.non):=by
 cases x with
 |non=>cases r;rfl
 |bl _=>cases r;rfl
 |int _=>obtain⟨t,rfl⟩:=r;rfl
 |str _=>obtain⟨t,rfl⟩:=r;rfl
 |byt _=>obtain⟨t,rfl⟩:=r;rfl
 |flt _=>obtain⟨t,rfl⟩:=r;rfl
 |ref _=>cases r;rfl
 |ty _=>cases r;rfl
theorem G8{j fy}(U:PE X a ta):PC X .Is a (.Constant .none j fy) (G6 ta):=by intro J s g H Q I h;refine aS (U J s g H _ I h) λv t x l o p r=>?_;exact Constant_none (is_none_gen ⟨.bl _,l,o,by rw[p.none_iff];rfl,r⟩)
theorem LH{j fy}(U:PE X a ta):PC X .IsNot a (.Constant .none j fy) (G7 ta):=by intro J s g H Q I h;refine aS (U J s g H _ I h) λv t x l o p r=>?_;exact Constant_none (isnot_none_gen ⟨.bl _,l,o,by rw[p.none_iff];rfl,r⟩)
def tB(t:TE):TT:=λσ H Q=>t σ H λx H1=>∃c,x=.bl c/\Q c H1
theorem LI{op:CmpOp}{t:TE}(h:PC X op a b t)(h1:behindInMarks op b=false:=by first|exact uG _ (by decide) (by decide)|rfl):PE X (.Compare a [op] [b] pos) t:=λJ s U H Q I hw=>wpAny_Compare1 (h J s U H Q I hw) h1
theorem G9{op:CmpOp}{t:TE}(h:PC X op a b t)(h1:behindInMarks op b=false:=by first|exact uG _ (by decide) (by decide)|rfl):PT X (.Compare a [op] [b] pos) (tB t):=by intro J s U H Q I hw;refine wpAny_isTrue_Compare1 (aT (h J s U H _ I hw) λv r h1=>aT h1 λu C g=>aT g λc T ψ=>?_) h1;obtain⟨x,j,l,o,p⟩:=ψ;obtain⟨d,rfl,q⟩:=p;cases o;exact wpAny_truthy_bool ⟨j,l,q⟩
theorem LJ{t:TE}(h:PE X e t)(U:∀whole,isTrue e X.env whole=(do let v <-whole;standAt e.pos;holding [v] (truthy v)):=by intro _;rfl):PT X e (tB t):=by intro J s g H Q I hw;refine isTrue_plain (aS (h J s g H _ I hw) λv r x j l o p=>?_)<|U _;obtain⟨d,rfl,q⟩:=p;cases o;exact wpAny_truthy_bool ⟨j,l,q⟩
variable {tA nG:TT}{rest:List Expr}
def LK(t u:TT):TT:=λσ H Q=>t σ H λc H1=>if c=true then u σ H1 Q else Q false H1
def LL(t u:TT):TT:=λσ H Q=>t σ H λc H1=>if c=true then Q true H1 else u σ H1 Q
def LM(t:TT):TT:=λσ H Q=>t σ H λc H1=>Q (!c) H1
theorem LN(U:PT X a tA):PW X (.BoolOp .And [a] pos) tA:=by intro j J s g H Q I h;refine isTrue_and<|aT (U J s g H Q I h) λc l e=>?_;cases c with|true=>exact isTrue_and_nil e|false=>exact e
theorem LP(U:PT X a tA):PW X (.BoolOp .Or [a] pos) tA:=by intro j J s g H Q I h;refine isTrue_or<|aT (U J s g H Q I h) λc l e=>?_;cases c with|false=>exact isTrue_or_nil e|true=>exact e
theorem LQ(o:PT X a tA)(p:PW X (.BoolOp .And (b::rest) pos) nG):PW X (.BoolOp .And (a::b::rest) pos) (LK tA nG):=by intro r J s U H Q I h;refine isTrue_and<|aT (o J s U H _ I h) λc t ψ=>?_;obtain⟨g,j,l⟩:=ψ;cases c with|true=>exact p r J t U g Q j l|false=>exact⟨g,j,l⟩
theorem LR(o:PT X a tA)(p:PW X (.BoolOp .Or (b::rest) pos) nG):PW X (.BoolOp .Or (a::b::rest) pos) (LL tA nG):=by intro r J s U H Q I h;refine isTrue_or<|aT (o J s U H _ I h) λc t ψ=>?_;obtain⟨g,j,l⟩:=ψ;cases c with|true=>exact⟨g,j,l⟩|false=>exact p r J t U g Q j l
theorem LS(U:PT X a tA):PT X (.UnaryOp .Not a pos) (LM tA):=by intro J s g H Q I h;exact isTrue_not<|U J s g H (λc j=>Q (!c) j) I h
def LU(ta tb:TE):TE:=λσ H Q=>ta σ H λx H1=>∃c,x=.bl c/\if c=true then tb σ H1 Q else Q (.bl false) H1
def LV(ta:TE):TE:=λσ H Q=>ta σ H λx H1=>∃c,x=.bl c/\Q (.bl<|!c) H1
theorem LW{op}{t:TE}(h:PE X a t):PE X (.BoolOp op [a] pos) t:=λJ s U H Q I hw=>BoolOp_one<|h J s U H Q I hw
theorem LX(o:PE X a ta)(p:PE X (.BoolOp .And (b::rest) pos) tb):PE X (.BoolOp .And (a::b::rest) pos) (LU ta tb):=by
 intro J s g H Q I h;refine BoolOp_and<|aS (o J s g H _ I h) λv r x j l t U=>?_;obtain⟨c,rfl,U⟩:=U;cases t;refine wpAny_truthy_bool ?_;cases c with
 |true=>exact p J r g j Q l U
 |false=>exact⟨.bl false,j,l,rfl,U⟩
theorem LY(g:PE X a ta):PE X (.UnaryOp .Not a pos) (LV ta):=by intro J s j H Q I h;refine UnaryOp_<|aS (g J s j H _ I h) λv r x l o p U=>?_;obtain⟨c,rfl,U⟩:=U;cases p;exact not_of<|wpAny_truthy_bool ⟨.bl<|!c,l,o,rfl,U⟩
def LZ(t:TT)(ta tb:TE):TE:=λσ H Q=>t σ H λc H1=>if c=true then ta σ H1 Q else tb σ H1 Q
theorem L9(hc:PT X c tA)(p:PE X a ta)(r:PE X b tb):PE X (.IfExp c a b pos) (LZ tA ta tb):=by intro J s U H Q I h;refine wpAny_IfExp<|aT (hc J s U H _ I h) λd g ψ=>?_;obtain⟨j,l,o⟩:=ψ;cases d with|true=>exact p J g U j Q l o|false=>exact r J g U j Q l o
end
def wr(K:Aj)(H:Hp)(a:Addr)(xs:List V):Prop:=
 Rd H a (.lst xs)\/
  ∃(o:Obj) (eH:Array Value) (n:Nat),K.lookup a=some o/\o.cls=.type "list" /\ o.dict=none/\o.data=.seq eH n/\eH.size<=sizeLine/\zn xs eH.toList
def cT(K:Aj)(H:Hp)(a:Addr)(xs:List V):Prop:=
 Rd H a (.tup xs)\/
  ∃(o:Obj) (eH:Array Value) (n:Nat),K.lookup a=some o/\o.cls=.type "tuple" /\ o.data=.seq eH n/\eH.size<=sizeLine/\zn xs eH.toList
def Ma:Value->Option V
 |.none=>some .non
 |.bool b=>some<|.bl b
 |.int i _=>some<|.int i
 |.str x _=>some<|.str x
 |.bytes b _=>some<|.byt b
 |.float b _=>some<|.flt b
 |.ref a=>some<|.ref a
 |.type n=>some<|.ty n
 |_=>none
theorem zk.abs{x:V}(r:zk x u):Ma u=some x:=by
 cases x with
 |non=>cases r;rfl
 |bl _=>cases r;rfl
 |int _=>obtain⟨t,rfl⟩:=r;rfl
 |str _=>obtain⟨t,rfl⟩:=r;rfl
 |byt _=>obtain⟨t,rfl⟩:=r;rfl
 |flt _=>obtain⟨t,rfl⟩:=r;rfl
 |ref _=>cases r;rfl
 |ty _=>cases r;rfl
theorem zk.inj{x y:V}(r:zk x u)(q:zk y u):x=y:=AO<|r.abs.symm.trans q.abs
theorem zn.inj:∀{xs ys:List V} {us:List Value},zn xs us->zn ys us->xs=ys:=by
 intro xs ys us h k
 induction h generalizing ys with
 |nil=>cases k;rfl
 |cons r t I=>
  cases k with|cons J U=>rw[r.inj J,I U]
section
variable {a:Addr}{ys:List V}
theorem wr.of{K:Aj}(h:H a=some (.lst xs)):wr K H a xs:=.inl<|.inl h
abbrev E9:=@wr.of
theorem cT.of{K:Aj}(h:H a=some (.tup xs)):cT K H a xs:=.inl<|.inl h
theorem z8.list(I:z8 X pins σ H s)(h:wr X.K H a xs):∃eH:List Value,zn xs eH/\PlainL s.heap a eH.toArray/\xs.length<=sizeLine:=by
 rcases h with h|⟨o,eH,n,J,U,hd,g,j,r⟩
 ·obtain⟨z,eH,n,r,e⟩:=h.ok I.hok;exact⟨eH,r,⟨_,n,e,rfl,rfl,rfl⟩,z⟩
 ·refine⟨eH.toList,r,⟨o,n,I.kIn a o J,U,hd,by simpa using g⟩,?_⟩;have e:=r.length;simp only[A2] at e;lia
theorem z8.tuple(I:z8 X pins σ H s)(h:cT X.K H a xs):∃eH:List Value,zn xs eH/\IsTup s.heap a eH.toArray/\xs.length<=sizeLine:=by
 rcases h with h|⟨o,eH,n,J,U,g,j,r⟩
 ·obtain⟨z,eH,r,p⟩:=h.ok I.hok;exact⟨eH,r,p,z⟩
 ·refine⟨eH.toList,r,⟨o,I.kIn a o J,U,n,by simpa using g⟩,?_⟩;have e:=r.length;simp only[A2] at e;lia
theorem z8.list_inj(I:z8 X pins σ H s)(h:wr X.K H a xs)(h':wr X.K H a ys):xs=ys:=by
 obtain⟨U,r,⟨o,n,e,_,_,d⟩,_⟩:=I.list h;obtain⟨J,l,⟨p,t,g,_,_,j⟩,_⟩:=I.list h';rw[e] at g;cases g;rw[d] at j;injection j with d1 _
 have:U=J:=by simpa using BL Array.toList d1
 subst this;exact r.inj l
theorem z8.tuple_inj(I:z8 X pins σ H s)(h:cT X.K H a xs)(h':cT X.K H a ys):xs=ys:=by
 obtain⟨U,r,⟨o,e,_,n,d⟩,_⟩:=I.tuple h;obtain⟨J,l,⟨p,g,_,t,j⟩,_⟩:=I.tuple h';rw[e] at g;cases g;rw[d] at j;injection j with d1 _
 have:U=J:=by simpa using BL Array.toList d1
 subst this;exact r.inj l
end
abbrev Cx.wish(X:Cx)(E:Value->Shared->Prop):Cx:={ X with xe:=E }
abbrev Cx.nox(X:Cx):Cx:=X.wish λ_ _=>False
theorem Cx.Ok.wish(ok:X.Ok)(E:Value->Shared->Prop):(X.wish E).Ok:=
 ⟨ok.mod,ok.kind,ok.glob,ok.blt,ok.above,ok.inj,ok.has,ok.cab,ok.hd,ok.frames,ok.stk,ok.exf,ok.bs,ok.bsz,ok.noex,ok.exfs,ok.funs,ok.frf⟩
theorem Cx.Ok.unwish(ok:(X.wish E).Ok):X.Ok:=
 ⟨ok.mod,ok.kind,ok.glob,ok.blt,ok.above,ok.inj,ok.has,ok.cab,ok.hd,ok.frames,ok.stk,ok.exf,ok.bs,ok.bsz,ok.noex,ok.exfs,ok.funs,ok.frf⟩
theorem z8.wish(I:z8 X pins σ H s)(E:Value->Shared->Prop):z8 (X.wish E) pins σ H s:=⟨I.ok.wish E,I.os,I.bare,I.base,I.loc,I.cell,I.free,I.freeC,I.pin,I.hok,I.len,I.tk⟩
theorem z8.unwish(I:z8 (X.wish E) pins σ H s):z8 X pins σ H s:=⟨I.ok.unwish,I.os,I.bare,I.base,I.loc,I.cell,I.free,I.freeC,I.pin,I.hok,I.len,I.tk⟩
theorem SP.unwish{D:vJ}{f:Flow}(h:SP (X.wish E) pins D f s'):SP X pins D f s':=by
 cases f with
 |next=>obtain⟨J,U,I,q⟩:=h;exact⟨J,U,I.unwish,q⟩
 |brk=>obtain⟨J,U,I,q⟩:=h;exact⟨J,U,I.unwish,q⟩
 |cont=>obtain⟨J,U,I,q⟩:=h;exact⟨J,U,I.unwish,q⟩
 |ret u=>obtain⟨v,J,U,I,r,q⟩:=h;exact⟨v,J,U,I.unwish,r,q⟩
theorem jP.nox{st:List Stmt}{t:TS}(h:jP X.nox st t):jP X st t:=λJ s U H D I hw=>
 AX (h J s U H D (I.wish _) hw) (λ_ _ q=>q.unwish) λ_ _ z=>False.elim z
section
variable {rest:List Stmt}{t u:TS}{te:TE}
def Mb:TS:=λD σ H=>D.nx σ H
def Mc(t u:TS):TS:=λD σ H=>t { D with nx:=u D } σ H
theorem Md:jP X [] Mb:=λ_ _ J H _ I h=>wpAny_execs_nil ⟨J,H,I,h⟩
theorem sQ(h1:PS X st t)(h2:jP X rest u):jP X (st::rest) (Mc t u):=by
 intro J s g H D I h;refine wpAny_execs_cons<|aT (h1 J s g H { D with nx:=u D } I h) λf j q=>?_;cases f with
 |next=>
  obtain⟨U,l,o,q⟩:=q;exact h2 J j U l D o q
 |ret v=>exact q
 |brk=>exact q
 |cont=>exact q
theorem Me(h1:PS X st t):jP X [st] t:=by intro J s U H D I h;refine wpAny_execs_cons<|aT (h1 J s U H D I h) λf g q=>?_;cases f with|next=>exact wpAny_execs_nil q|ret v=>exact q|brk=>exact q|cont=>exact q
def Mf:TS:=λD σ H=>D.ct σ H
theorem rS:PS X (.Continue pos) Mf:=λ_ _ J H _ I h=>wpAny_Continue ⟨J,H,I,h⟩
theorem z8.quiet(I:z8 X pins σ H s):interactive X.env=false:=by simp[interactive,I.ok.kind]
def Mg(te:TE):TS:=λD σ H=>te σ H λ_ H1=>D.nx σ H1
theorem Mh(g:PE X e te)(hs:swapsWith e none pos.line X.env=pure false:=by rfl):PS X (.Expr e pos) (Mg te):=by intro J s U H D I h;exact wpAny_Expr_any (aS (g J s U H _ I h) λv p x j l r o=>⟨U,j,l,o⟩) I.quiet hs
def Mi(te:TE):TS:=λD σ H=>te σ H D.rt
theorem Mj(g:PE X e te):PS X (.Return (some e) pos) (Mi te):=by intro J s U H D I h;exact wpAny_Return_some<|aS (g J s U H _ I h) λv r x j l o p=>⟨x,U,j,l,o,p⟩
def Ml:TS:=λD _ H=>D.rt .non H
theorem Mm:PS X (.Return none pos) Ml:=λ_ _ J H _ I h=>wpAny_Return_none ⟨.non,J,H,I,rfl,h⟩
def Mn(c:TT)(t u:TS):TS:=λD σ H=>c σ H λb H1=>if b=true then t D σ H1 else u D σ H1
theorem Mo{a b:List Stmt}{tc:TT}(hc:PT X c tc)(p:jP X a t)(r:jP X b u):PS X (.If c a b pos) (Mn tc t u):=by intro J s U H D I h;refine wpAny_If<|aT (hc J s U H _ I h) λd g ψ=>?_;obtain⟨j,l,o⟩:=ψ;cases d with|true=>exact p J g U j D l o|false=>exact r J g U j D l o
end
abbrev TG:=V->St->Hp->(St->Hp->Prop)->Prop
abbrev d_:=List V->St->Hp->(St->Hp->Prop)->Prop
def PG(X:Cx)(target:Expr)(t:TG):Prop:=
 ∀(pins:List<|Addr×Obj) (s:Shared) (σ:St) (H:Hp) (v:V) (u:Value) (Q:St->Hp->Prop),z8 X pins σ H s->zk v u->t v σ H Q->
  wpAny (model X.prog X.w) X.A (assign target X.env u) (λ_ s'=>∃ir H',z8 X pins ir H' s'/\Q ir H') X.xe s
def PGs(X:Cx)(ts:List Expr)(t:d_):Prop:=
 ∀(pins:List<|Addr×Obj) (s:Shared) (σ:St) (H:Hp) (vs:List V) (us:List Value) (Q:St->Hp->Prop),z8 X pins σ H s->zn vs us->t vs σ H Q->
  wpAny (model X.prog X.w) X.A (assignInOrder ((assignEach ts X.env).map (·.2)) us) (λ_ s'=>∃ir H',z8 X pins ir H' s'/\Q ir H') X.xe s
abbrev FA:=V->V->V->Hp->(Hp->Prop)->Prop
def G'(X:Cx)(t:FA):Prop:=
 ∀(pins:List<|Addr×Obj) (s:Shared) (σ:St) (H:Hp) (o i v:V) (I J u:Value) (Q:Hp->Prop),z8 X pins σ H s->zk o I->zk i J->zk v u->t o i v H Q->
  wpAny (model X.prog X.w) X.A (setItem I J u) (λ_ s'=>∃H',z8 X pins σ H' s'/\Q H') X.xe s
def eE(i:Nat):TG:=λv σ H Q=>Q (σ.set i<|some v) H
theorem kH(hN:X.N.Nodup)(hi:X.N[i]?=some x)(U:Loc X.env.scope x)(g:X.fn x=true\/X.env.scope.names.lookup x=some .local:=by first|exact .inl rfl|exact .inr rfl|assumption):PG X (.Name x pos) (eE i):=by intro J s l H v u Q I r h;exact wpAny_assign_Name<|gb I hN hi U r (λo j=>⟨_,H,j,h⟩) g
def FC:d_:=λvs σ H Q=>vs=[]/\Q σ H
def rH(t:TG)(u:d_):d_:=λvs σ H Q=>∃v r,vs=v::r/\t v σ H λir H'=>u r ir H' Q
theorem xM:PGs X [] FC:=by intro J s U H g j Q I r h;obtain⟨e,h⟩:=h;subst e;cases r;exact assignInOrder_nil ⟨U,H,I,h⟩
theorem lI{t:TG}{u:d_}(h1:PG X e t)(h2:PGs X es u)
 (hs:(assignEach (e::es) X.env).map (·.2)=assign e X.env::(assignEach es X.env).map (·.2):=by rfl):PGs X (e::es) (rH t u):=by
 intro J s g H T us Q I r h;obtain⟨v,vr,j,h⟩:=h;subst j;cases r with
 |cons r rr=>
  rw[hs];refine assignInOrder_cons<|aT (h1 J s g H _ _ _ I r h) λ_ l ψ=>?_;obtain⟨U,o,p,C⟩:=ψ;exact h2 J l U o _ _ Q p rr C
def FD(K:Aj)(n:Nat)(t:d_):TG:=λv σ H Q=>∃a xs,v=.ref a/\cT K H a xs/\xs.length=n/\t xs σ H Q
theorem Ha{k:Nat}{t:d_}(hc:X.calm=true)(h:PGs X es t)
 (l:(assignEach es X.env).length=n:=by rfl) (U:(assignEach es X.env).findIdx? (·.1)=none:=by rfl):PG X (.Tuple es k pos) (FD X.K n t):=by
 intro J s g H v u Q I r hw;obtain⟨a,p,C,T,hl,hw⟩:=hw;subst C;cases r;obtain⟨a0,j,ht,hz⟩:=I.tuple T;refine assign_Tuple_tuple (I.ok.hd hc) ht (by simp[l,<-hl,j.length]) U λh' hx=>?_;have I1:z8 X J g H { s with heap:=h' }:=I.kept (t':=s.toks) λb o e=>hx b o (A5<|pj e) e;exact h J _ g H p _ Q I1 (by simpa using j) hw
def Mp(to ti:TE)(t:FA):TG:=λv σ H Q=>to σ H λo H1=>ti σ H1 λi H2=>t o i v H2 λI=>Q σ I
theorem Mq{i:Expr}{to ti:TE}{t:FA}(l:PE X o to)(hi:PE X i ti)(hs:G' X t)
 (p:∀v,assign (.Subscript o i pos) X.env v=(do
  let U <-holding [v] (eval o X.env)
  let g <-holding [v,U] (eval i X.env)
  standAt pos
  holding [v,U,g] (setItem U g v)
  release [v,U,g] []):=by intro _;rfl):PG X (.Subscript o i pos) (Mp to ti t):=by
 intro J s j H v u Q I r h;rw[p];refine Aa<|A6<|aS (l J s j H _ I h) λU C x T I1 r1 q1=>?_;refine Aa<|A6<|aS (hi J C j T _ I1 q1) λg s2 y H2 I2 r2 q2=>?_;refine Aa<|wpAny_standAt<|Aa<|A6<|aT (hs J s2 j H2 x y v U g u _ I2 r1 r2 r q2) λ_ s3 ψ=>?_;obtain⟨H3,I3,q3⟩:=ψ;exact wpAny_release ⟨j,H3,I3,q3⟩
def FE(te:TE)(g:TG):TS:=λD σ H=>te σ H λx H1=>g x σ H1 D.nx
theorem Hb{te:TE}{g:TG}(j:PE X e te)(l:PG X tg g)(hs:swapsWithSole [tg] e pos.line X.env=pure false:=by rfl)(hw:swappedStores [tg] e X.env=pure none:=by rfl)
 (h1:(assignEach [tg] X.env).map (·.2)=[assign tg X.env]:=by rfl):PS X (.Assign [tg] e pos) (FE te g):=by
 intro J s U H D I h;refine wpAny_Assign_stores (aS (j J s U H _ I h) λv o x p r t C=>?_) hs hw;rw[h1];exact aT (l J o U p x v _ r t C) λ_ T q=>q
theorem Mr{te:TE}(hN:X.N.Nodup)(hi:X.N[i]?=some x)(U:Loc X.env.scope x)(g:PE X e te)(hs:swapsWith e (some<|.Name x fy) pos.line X.env=pure false:=by rfl)(j:X.fn x=true\/X.env.scope.names.lookup x=some .local:=by first|exact .inl rfl|exact .inr rfl|assumption):
 PS X (.Assign [.Name x fy] e pos) (FE te<|eE i):=by
 intro J s l H D I h;refine wpAny_Assign_Name (aS (g J s l H _ I h) λv T y o p r t=>?_) hs;exact gb p hN hi U r (λs2 C=>⟨_,o,C,t⟩) j
def Ms(i j:Nat)(ta:TA):TS:=λD σ H=>ta σ H λvs H1=>∃v w,vs=[v,w]/\D.nx ((σ.set i<|some v).set j<|some w) H1
theorem Mt{y:Str}{a b:Expr}{ta:TA}{px py pt:Pos}{kt t U}(hc:X.calm=true)(hN:X.N.Nodup)(hi:X.N[i]?=some x)(hj:X.N[j]?=some y)(C:i≠j)
 (hx:X.env.scope.names.lookup x=some .local) (hy:X.env.scope.names.lookup y=some .local) (ha:PA X [a,b] ta)
 (hw:swappedStores [.Tuple [.Name x px,.Name y py] kt pt] (.Tuple [a,b] t U) X.env=pure (some [x,y]))
 (hs:swapsWithSole [.Tuple [.Name x px,.Name y py] kt pt] (.Tuple [a,b] t U) pos.line X.env=pure false:=by rfl):
 PS X (.Assign [.Tuple [.Name x px,.Name y py] kt pt] (.Tuple [a,b] t U) pos) (Ms i j ta):=by
 intro J s σ H D I h;rw[exec_Assign_arm];refine Aa<|wpAny_standAt ?_;rw[hs];refine Aa<|An ?_;rw[AB (by decide)];refine Aa<|Tuple_<|rJ (ha _ J s σ H _ I h) λus g vs H1 I1 r1 T=>?_;obtain⟨v,w,e1,T⟩:=T;subst e1;obtain⟨l,r,rfl,rv,a0⟩:∃l r,us=[l,r]/\zk v l/\zk w r:=by
  cases r1 with
  |cons p q=>
   cases q with
   |cons p' q'=>
    cases q';exact⟨_,_,rfl,p,p'⟩
 refine BP ?_ (by show 2<=sizeLine;decide);have I2:z8 X J σ H1 { g with heap:=g.heap.push { cls:=.type "tuple",data:=.seq [l,r].toArray } }:=I1.kept (t':=g.toks) λb o e=>oe _ e;rw[hw];refine Aa<|An ?_;show wpAny (model X.prog X.w) X.A (do rule "assign.swapped-stores";let items <-unpackItems (.ref g.heap.objs.size) 2 none;assignInOrder [λv=>bindName X.env y v,λv=>bindName X.env x v] items.reverse;pure Flow.next) _ _ _;refine Aa<|BQ<|Aa<|unpackItems_tuple (items:=#[l,r]) (I.ok.hd hc) (IsTup.new g.heap _) λh' a1=>?_;have I3:=I2.kept (h':=h') (t':=g.toks) λb o e=>a1 b o (A5<|pj e) e;show wpAny _ _ (assignInOrder [λv=>bindName X.env y v,λv=>bindName X.env x v] [r,l] >>= λ_=>pure Flow.next) _ _ _;refine Aa<|assignInOrder_cons<|wpAny_bindName<|gb I3 hN hj (.inl hy) a0 (λs2 I4=>?_)<|.inr hy;refine assignInOrder_cons<|wpAny_bindName<|gb I4 hN hi (.inl hx) rv (λs3 I5=>assignInOrder_nil<|An ?_)<|.inr hx;rw[List.set_comm _ _<|A4 C] at I5;exact⟨_,H1,I5,T⟩
def Mu(c:TT)(tb:TS):TS:=λD σ H=>∃W:Nat->St->Hp->Prop,(∃m,W m σ H)/\∀m σ H,W m σ H->
 c σ H λb H1=>if b=true then ∃N:St->Hp->Prop,(∀ir H',N ir H'->∃I,I<m/\W I ir H')/\tb { D with nx:=N,ct:=N,bk:=D.nx } σ H1 else D.nx σ H1
theorem Mv{tc:TT}{tb:TS}(hp:PassesOwn (model X.prog X.w) X.A X.env X.xe)(hc:PT X c tc)(hb:jP X body tb):PS X (.While c body [] pos) (Mu tc tb):=by
 intro J s σ H D I h;obtain⟨W,⟨m0,w0⟩,turn⟩:=h;refine wpAny_While<|codeAny_whileLoop (λn s'=>∃j H',z8 X J j H' s'/\W n j H') ?_ m0 ⟨σ,H,I,w0⟩;rintro n s1 ⟨g,H1,I1,w1⟩;refine wpAny_passesOwn hp<|aT (hc J s1 g H1 _ I1<|turn n g H1 w1) λb s2 ψ=>?_;obtain⟨H2,I2,o⟩:=ψ;cases b with
 |true=>
  obtain⟨N,hN,o⟩:=o;rw[AC rfl];refine wpAny_passesOwn hp<|aT (hb J s2 g H2 _ I2 o) λf s3 p=>?_;cases f with
  |next=>
   obtain⟨U,l,r,t⟩:=p;obtain⟨C,T,w3⟩:=hN U l t;exact⟨C,T,U,l,r,w3⟩
  |cont=>
   obtain⟨U,l,r,t⟩:=p;obtain⟨C,T,w3⟩:=hN U l t;exact⟨C,T,U,l,r,w3⟩
  |brk=>exact p
  |ret v=>exact p
 |false=>
  rw[AB AI];exact wpAny_execs_nil ⟨g,H2,I2,o⟩
structure It where
 go:Nat->Hp->Prop
 yld:Nat->Hp->V->Hp->Prop
 stop:Nat->Hp->Prop
def nQ(X:Cx)(pins:List<|Addr×Obj)(H:Hp)(b:Addr):Prop:=
 H b=none/\b≠X.env.locals/\b∉X.fs/\(b∈X.ex\/X.s₀.heap.objs.size<=b)/\(∀x c,X.env.cells.lookup x=some c->c≠b)/\∀p∈X.pn++pins,p.1≠b
theorem z8.fpOk{b:Addr}(I:z8 X pins σ H s)(J:s.heap.objs.size<=b)(U:H' b=none):nQ X pins H' b:=by
 refine⟨U,Dv<|AR I.lt J,I.nofs J,.inr<|AN I.sz J,λx c e z=>?_,λp g z=>?_⟩
 ·obtain⟨v,q⟩:=I.cell x c e;exact absurd (AR q.lt (by rw[z];exact J))<|CD _
 ·exact absurd (AR (pj (I.pin p g).1) (by rw[z];exact J))<|CD _
structure zK(P:Program)(w:World)(K:Aj)(tg:Expr)(J:It)(fp:List Addr)(it:Addr)(tn:Nat->Heap->Prop):Prop where
 mem:it∈fp
 obj:∀i h,tn i h->∀b∈fp,∃o,h.get? b=some o/\∀v,o.data≠.cell v
 keep:∀i h h',tn i h->(∀b∈fp,∀o,h.get? b=some o->h'.get? b=some o)->tn i h'
 item:∀(X:Cx),X.prog=P->X.w=w->X.K=K->X.calm=true->∀(i:Nat) (pins:List<|Addr×Obj) (s:Shared) (σ:St) (H:Hp) (E:Value->Shared->Prop),z8 X pins σ H s->(∀b∈fp,nQ X pins H b)->tn i s.heap->J.go i H->
  wpAny (model P w) X.A (pyNext<|.ref it) (λr s1=>∃u,r=some u/\
   wpAny (model P w) X.A (letOwnedTupleGo tg (.ref it) u) (λ_ s2=>∃x H',z8 X pins σ H' s2/\zk x u/\J.yld i H x H'/\tn (i+1) s2.heap/\∀b∈fp,H' b=none) E s1) E s
 done:∀(X:Cx),X.prog=P->X.w=w->X.K=K->X.calm=true->∀(i:Nat) (pins:List<|Addr×Obj) (s:Shared) (σ:St) (H:Hp) (E:Value->Shared->Prop),z8 X pins σ H s->(∀b∈fp,nQ X pins H b)->tn i s.heap->J.stop i H->
  wpAny (model P w) X.A (pyNext<|.ref it) (λr s1=>r=none/\z8 X pins σ H s1) E s
 self:∀(A:Around) (i:Nat) (s:Shared) (Q:Value->Shared->Prop) (E:Value->Shared->Prop),tn i s.heap->Q (.ref it) s->wpAny (model P w) A (pyIter<|.ref it) Q E s
abbrev TI:=St->Hp->(It->Hp->Prop)->Prop
def FF(X:Cx)(pins:List<|Addr×Obj)(σ:St)(tg:Expr)(R:It->Hp->Prop)(I:Value)(U:Shared):Prop:=
 ∃(it:Addr) (fp:List Addr) (g:Nat->Heap->Prop) (J:It) (H':Hp),I=.ref it/\z8 X pins σ H' U/\zK X.prog X.w X.K tg J fp it g/\g 0 U.heap/\(∀b∈fp,nQ X pins H' b)/\R J H'
def PI(X:Cx)(tg iter:Expr)(wi:TI):Prop:=
 ∀(pins:List<|Addr×Obj) (s:Shared) (σ:St) (H:Hp) (R:It->Hp->Prop),z8 X pins σ H s->wi σ H R->
  wpAny (model X.prog X.w) X.A (eval iter X.env) (λv I=>wpAny (model X.prog X.w) X.A (pyIter v) (FF X pins σ tg R) X.xe I) X.xe s
theorem FH{o:Obj}{n:String}{vs:Array Value}{Q:Unit->Shared->Prop}(J:s.heap.get? it=some o)(hc:o.cls=.type n)(hd:o.data=.fields vs)
 (U:["enumerate","zip","dict_itemiterator","dict_reverseitemiterator","odict_iterator","itertools.zip_longest","itertools.pairwise"].contains n=false) (I:Q () s):wpAny M A (letOwnedTupleGo tg (.ref it) u) Q E s:=by
 unfold letOwnedTupleGo;cases tg<;>first
  |exact An I
  |(cases u<;>first
   |exact An I
   |(refine Aa (wpAny_load J ?_)
     rw[hc,hd];show wpAny M A (if (["enumerate","zip","dict_itemiterator","dict_reverseitemiterator","odict_iterator","itertools.zip_longest","itertools.pairwise"].contains n&&vs[0]?==some (rawInt _))=true then _ else _) Q E s;rw[AB (by intro h;rw[U,Bool.false_and] at h;cases h)];exact An I))
def FI(K:Aj)(a:Addr):It:=
 ⟨λi H=>∃xs x,wr K H a xs/\xs[i]?=some x,λi H x H'=>H'=H/\∀xs,wr K H a xs->xs[i]?=some x,λi H=>∃xs,wr K H a xs/\xs.length<=i⟩
def FJ(K:Aj)(a:Addr):It:=
 ⟨λi H=>∃xs x,cT K H a xs/\xs[i]?=some x,λi H x H'=>H'=H/\∀xs,cT K H a xs->xs[i]?=some x,λi H=>∃xs,cT K H a xs/\xs.length<=i⟩
def Ck(lo:Int)(n:Nat):It:=⟨λi _=>i<n,λi H x H'=>H'=H/\x=.int (lo+i),λi _=>n<=i⟩
theorem zO{P:Program}{w:World}{K:Aj}(a it:Addr):zK P w K tg (FI K a) [it] it (λi h=>h.IsListIter it a i) where
 mem:=by simp
 obj:=λi h st b U=>by
  have e:b=it:=by simpa using U
  subst e;obtain⟨o,e,c,d⟩:=st;exact⟨o,e,λv z=>by rw[d] at z;cases z⟩
 keep:=λi h j st k=>st.at λo e=>k it (by simp) o e
 item:=by intro X t hw C hc i J s σ H E I l st T;subst t hw C;obtain⟨xs,x,r,hx⟩:=T;obtain⟨a0,rv,p,hz⟩:=I.list r;obtain⟨u,hu,ru⟩:=rv.get hx;obtain⟨f0,f1,f2,f3,f4,f5⟩:=l it (by simp);refine wpAny_pyNext_list_item st p.isList (x:=u) (by simpa using hu) λj g sb=>?_;have I1:z8 X J σ H { s with heap:=j }:=I.turned (t':=s.toks) (λb o U e=>(sb.2 b U).trans e) f0 f1 f3 f4 f5;obtain⟨o,e,c,d⟩:=id g;exact⟨u,rfl,FH (s:={ s with heap:=j }) e c d (by decide) ⟨x,H,I1,ru,⟨rfl,λys hy=>by rw[I.list_inj hy r];exact hx⟩,g,λb U=>(l b U).1⟩⟩
 done:=by intro X t hw C hc i J s σ H E I l st T;subst t hw C;obtain⟨xs,r,hx⟩:=T;obtain⟨a0,rv,p,hz⟩:=I.list r;obtain⟨f0,f1,f2,f3,f4,f5⟩:=l it (by simp);have hl:=rv.length;exact wpAny_pyNext_list_end (I.ok.hd hc) st p.isList (by simp;lia) λj eb=>⟨rfl,I.turned (t':=s.toks) (λb o U e=>eb b o U e) f0 f1 f3 f4 f5⟩
 self:=λ_ _ _ _ _ st h=>wpAny_pyIter_listiter st h
theorem wA{P:Program}{w:World}{K:Aj}(a it:Addr):zK P w K tg (FJ K a) [it] it (λi h=>h.IsTupleIter it a i) where
 mem:=by simp
 obj:=λi h st b U=>by
  have e:b=it:=by simpa using U
  subst e;obtain⟨o,e,c,d⟩:=st;exact⟨o,e,λv z=>by rw[d] at z;cases z⟩
 keep:=λi h l st k=>st.at λo e=>k it (by simp) o e
 item:=by intro X C hw T hc i J s σ H E I r st hg;subst C hw T;obtain⟨xs,x,t,hx⟩:=hg;obtain⟨g,rv,p,hz⟩:=I.tuple t;obtain⟨u,hu,ru⟩:=rv.get hx;obtain⟨f0,f1,f2,f3,f4,f5⟩:=r it (by simp);refine wpAny_pyNext_tuple_item st (show s.heap.IsTuple a g.toArray from p) (x:=u) (by simpa using hu) λl j sb=>?_;have I1:z8 X J σ H { s with heap:=l }:=I.turned (t':=s.toks) (λb o U e=>(sb.2 b U).trans e) f0 f1 f3 f4 f5;obtain⟨o,e,c,d⟩:=id j;exact⟨u,rfl,FH (s:={ s with heap:=l }) e c d (by decide) ⟨x,H,I1,ru,⟨rfl,λys hy=>by rw[I.tuple_inj hy t];exact hx⟩,j,λb U=>(r b U).1⟩⟩
 done:=by intro X C hw T hc i J s σ H E I r st hg;subst C hw T;obtain⟨xs,t,hx⟩:=hg;obtain⟨g,rv,p,hz⟩:=I.tuple t;obtain⟨f0,f1,f2,f3,f4,f5⟩:=r it (by simp);have hl:=rv.length;exact wpAny_pyNext_tuple_end (I.ok.hd hc) st (show s.heap.IsTuple a g.toArray from p) (by simp;lia) λl eb=>⟨rfl,I.turned (t':=s.toks) (λb o U e=>eb b o U e) f0 f1 f3 f4 f5⟩
 self:=λ_ _ _ _ _ st h=>wpAny_pyIter_tupleiter st h
theorem vU{P:Program}{w:World}{K:Aj}(it:Addr)(lo:Int)(n:Nat):zK P w K tg (Ck lo n) [it] it (λi h=>IsRangeIter h it (lo+(i:Nat)*1) ((n:Int)-(i:Nat)) 1) where
 mem:=by simp
 obj:=λi h st b U=>by
  have e:b=it:=by simpa using U
  subst e;exact⟨_,st,λv z=>by have z':Data.fields _=Data.cell v:=z;cases z'⟩
 keep:=λi h j st k=>k it (by simp) _ st
 item:=by intro X p hw r C i J s σ H E I l st T;subst p hw r;obtain⟨f0,f1,f2,f3,f4,f5⟩:=l it (by simp);have W:=Walks.range (prog:=X.prog) (w:=X.w) (I.ok.hd C) it lo 1 n;refine jt I.tk<|W.item i s _ _ T st λv j tk hv g kk ht=>?_;obtain⟨t,rfl⟩:=hv;have I1:z8 X J σ H { s with heap:=j,toks:=tk }:=I.turned (λb o U e=>kk b o (by simpa using U) e) f0 f1 f3 f4 f5;refine⟨_,rfl,FH (s:={ s with heap:=j,toks:=tk }) (n:="range_iterator") g rfl rfl (by decide) ⟨.int<|lo+i,H,I1,⟨t,?_⟩,⟨rfl,rfl⟩,g,λb U=>(l b U).1⟩⟩;rw[Int.mul_one]
 done:=by intro X p hw r C i J s σ H E I l st T;subst p hw r;obtain⟨f0,f1,f2,f3,f4,f5⟩:=l it (by simp);exact wpAny_pyNext_range_end (I.ok.hd C) st (by have:n<=i:=T;lia) λj eb=>⟨rfl,I.turned (t':=s.toks) (λb o U e=>eb b o U e) f0 f1 f3 f4 f5⟩
 self:=λ_ _ _ _ _ st h=>wpAny_pyIter_rangeiter st h
end L2
variable {wi:L2.TI}
namespace L2
open PySem PySem.Spec PyProof.Rows
def Mw(K:Aj)(tl:TE):TI:=λσ H R=>tl σ H λx H1=>∃a,x=.ref a/\(∃xs,wr K H1 a xs)/\R (FI K a) H1
def Mx(K:Aj)(tl:TE):TI:=λσ H R=>tl σ H λx H1=>∃a,x=.ref a/\(∃xs,cT K H1 a xs)/\R (FJ K a) H1
theorem My{l:Expr}{tl:TE}(j:PE X l tl):PI X tg l (Mw X.K tl):=by
 intro J s r H R I h;refine aS (j J s r H _ I h) λv U x t g C T=>?_;obtain⟨a,e,⟨xs,hq⟩,q⟩:=T;subst e;cases C;obtain⟨a0,rv,p,hz⟩:=g.list hq;refine wpAny_pyIter_list p.isList ?_;refine⟨U.heap.objs.size,[U.heap.objs.size],_,_,t,rfl,g.kept (t':=U.toks) λb o e=>oe _ e,zO a _,⟨_,pR _ rfl,rfl,rfl⟩,λb hb=>?_,q⟩;have e:b=U.heap.objs.size:=by simpa using hb
 subst e;exact g.fpOk (Ap _)<|g.hok.fresh<|Ap _
theorem Mz{l:Expr}{tl:TE}(r:PE X l tl):PI X tg l (Mx X.K tl):=by
 intro J s t H R I h;refine aS (r J s t H _ I h) λv U x C g T q1=>?_;obtain⟨a,e,⟨xs,hq⟩,q⟩:=q1;subst e;cases T;obtain⟨j,rv,p,hz⟩:=g.tuple hq;refine wpAny_pyIter_tuple (show U.heap.IsTuple a j.toArray from p) ?_;refine⟨U.heap.objs.size,[U.heap.objs.size],_,_,C,rfl,g.kept (t':=U.toks) λb o e=>oe _ e,wA a _,⟨_,pR _ rfl,rfl,rfl⟩,λb hb=>?_,q⟩;have e:b=U.heap.objs.size:=by simpa using hb
 subst e;exact g.fpOk (Ap _)<|g.hok.fresh<|Ap _
theorem MA{R:It->Hp->Prop}{hi:Int}{t u v:Tok}{tk:Nat}(I:z8 X pins σ H s)(h1 : -(2 ^ 62)<=lo)(h2:lo<2 ^ 62)(U : -(2 ^ 62)<=hi)(g:hi<2 ^ 62)
 (q:R (Ck lo (hi-lo).toNat) H) (r:0<tk:=by walk_at "t"):wpAny (model X.prog X.w) X.A (pyIter<|.ref s.heap.objs.size) (FF X pins σ tg R) E { s with heap:=s.heap.push { cls:=.type "range",data:=.fields #[.int lo t,.int hi u,.int 1 v] },toks:=tk }:=by
 refine wpAny_pyIter_range (IsRange.new ..) (small_one h1 h2 U g) ?_;have J:z8 X pins σ H { s with heap:=s.heap.push { cls:=.type "range",data:=.fields #[.int lo t,.int hi u,.int 1 v] },toks:=tk }:=I.kept λb o e=>oe _ e;refine⟨(s.heap.push { cls:=.type "range",data:=.fields #[.int lo t,.int hi u,.int 1 v] }).objs.size,[(s.heap.push { cls:=.type "range",data:=.fields #[.int lo t,.int hi u,.int 1 v] }).objs.size],_,_,H,rfl,
  J.kept (t':=tk) λb o e=>oe _ e,vU _ lo (hi-lo).toNat,?_,λb j=>?_,q⟩
 ·have l:lo+((0:Nat):Int)*1=lo:=by simp
  have p:(((hi-lo).toNat:Nat):Int)-((0:Nat):Int)=Builtin.Range.rangeSize lo hi 1:=by rw[rangeSize_one];split<;>lia
  show IsRangeIter _ _ (lo+((0:Nat):Int)*1) ((((hi-lo).toNat:Nat):Int)-((0:Nat):Int)) 1;rw[l,p];exact pR _ rfl
 ·have e:b=(s.heap.push { cls:=.type "range",data:=.fields #[.int lo t,.int hi u,.int 1 v] }).objs.size:=by simpa using j
  subst e;exact J.fpOk (Ap _)<|J.hok.fresh<|Ap _
def MB(ta:TA):TI:=λσ H R=>ta σ H λvs H1=>∃j:Int,vs=[.int j] /\ -(2 ^ 62)<=j/\j<2 ^ 62/\R (Ck 0 j.toNat) H1
theorem yA{a:Expr}{ta:TA}{p:Pos}(g:Gl X "range")(l:X.mg "range"=none)(o:PA X [a] ta)(hs:starEach [a] X.env=[(false,eval a X.env)]:=by rfl):PI X tg (.Call (.Name "range" p) [a] [] pos) (MB ta):=by
 intro J s C H R I h;refine Call_<|gJ I g l boot_range<|CL (rJ (o pos J s C H _ I h) λus s1 vs H1 T r1 U=>?_) hs rfl;obtain⟨j,e,U,q2,q⟩:=U;subst e;cases r1 with
 |cons r rr=>
  cases rr;obtain⟨t,rfl⟩:=r;exact call_range_1<|MA T (by lia) (by lia) U q2 (by simpa using q)
def MC(wi:TI)(g:TG)(tb:TS):TS:=λD σ H=>wi σ H λJ H1=>∃W:Nat->Nat->St->Hp->Prop,(∃m,W 0 m σ H1)/\∀i m σ H,W i m σ H->
 (J.stop i H/\D.nx σ H)\/(J.go i H/\∃N:St->Hp->Prop,(∀ir H',N ir H'->∃U,U<m/\W (i+1) U ir H')/\∀x H',J.yld i H x H'->g x σ H' λI H2=>tb { D with nx:=N,ct:=N,bk:=D.nx } I H2)
def m7(fp:List Addr)(h:Heap):List (Addr×Obj):=fp.filterMap λb=>(h.get? b).map λo=>(b,o)
theorem cf{b:Addr}{o:Obj}(I:b∈fp)(e:h.get? b=some o):(b,o)∈m7 fp h:=B8.mpr ⟨b,I,by rw[e];rfl⟩
theorem yx{p:Addr×Obj}(hp:p∈m7 fp h):p.1∈fp/\h.get? p.1=some p.2:=by
 obtain⟨b,I,e⟩:=B8.mp hp;cases q:h.get? b with
 |none=>rw[q] at e;cases e
 |some o=>
  rw[q] at e;have J:(b,o)=p:=AO e;subst J;exact⟨I,q⟩
theorem z8.pinned(I:z8 X pins σ H s)(g:∀b∈fp,nQ X pins H b)(j:∀b∈fp,∃o,s.heap.get? b=some o/\∀v,o.data≠.cell v):z8 X (pins++m7 fp s.heap) σ H s:=
 I.pins_of λp l=>(Ag.mp l).elim (λz=>I.pin p<|Ae _ z) λz=>by obtain⟨J,e⟩:=yx z;obtain⟨r,f1,f2,_⟩:=g p.1 J;obtain⟨o,U,d⟩:=j p.1 J;rw[e] at U;cases U;exact⟨e,r,f1,f2,d⟩
theorem z8.unpinned{pl:List<|Addr×Obj}(I:z8 X (pins++pl) σ H s):z8 X pins σ H s:=I.pins_of λp J=>I.pin p<|Ae _<|Ai _ J
theorem MD{g:TG}{tb:TS}(hp:PassesOwn (model X.prog X.w) X.A X.env X.xe)(hc:X.calm=true)(hi:PI X tg iter wi)(hg:PG X tg g)(l:jP X body tb)
 (hs:∀x,foldedSetIterable iter X.env x=pure x:=by intro _;rfl):PS X (.For tg iter body [] pos) (MC wi g tb):=by
 intro U s σ H D I h;refine wpAny_For (aT (hi U s σ H _ I h) λv s1 h1=>aT h1 λa7 s2 h2=>?_) hs;obtain⟨it,fp,tn,J,H2,e,I2,T,a2,f2,W,⟨m0,w0⟩,turn⟩:=h2;subst e;have p:∀{H':Hp},(∀b∈fp,H' b=none)->∀b∈fp,nQ X U H' b:=λhn b l=>⟨hn b l,(f2 b l).2⟩;refine codeAny_forLoop_any (λn s'=>∃i t H',z8 X U t H' s'/\tn i s'.heap/\(∀b∈fp,H' b=none)/\W i n t H') ?_ m0 ⟨0,σ,H2,I2,a2,λb l=>(f2 b l).1,w0⟩;rintro n s3 ⟨i,C,H3,I3,a0,a1,w3⟩;rcases turn i n C H3 w3 with⟨stop,qn⟩|⟨go,N,hN,step⟩
 ·refine wpAny_passesOwn hp<|aT (T.done X rfl rfl rfl hc i U s3 C H3 X.xe I3 (p a1) a0 stop) λr s4 ψ=>?_;obtain⟨hr,I4⟩:=ψ;subst hr;exact wpAny_execs_nil ⟨C,H3,I4,qn⟩
 ·refine wpAny_passesOwn hp<|aT (T.item X rfl rfl rfl hc i U s3 C H3 X.xe I3 (p a1) a0 go) λr s4 ψ=>?_;obtain⟨u,hr,h4⟩:=ψ;subst hr;refine wpAny_passesOwn hp<|aT h4 λ_ s5 ψ=>?_;obtain⟨x,H5,I5,r5,y5,h_,a3⟩:=ψ;have a4:=I5.pinned (p a3)<|T.obj _ _ h_;refine wpAny_passesOwn hp<|aT (hg _ s5 C H5 x u _ a4 r5<|step x H5 y5) λ_ s6 ψ=>?_;obtain⟨a5,H6,I6,q6⟩:=ψ;refine wpAny_passesOwn hp<|aT (l _ s6 a5 H6 _ I6 q6) λf s7 q7=>?_;have again:∀{j:St} {H7:Hp},z8 X (U++m7 fp s5.heap) j H7 s7->N j H7->∃m,m<n/\∃i t H',z8 X U t H' s7/\tn i s7.heap/\(∀b∈fp,H' b=none)/\W i m t H':=λ{j H7} I7 n7=>by obtain⟨m',hm,w7⟩:=hN j H7 n7;refine⟨m',hm,i+1,j,H7,I7.unpinned,T.keep _ _ _ h_ λb l o e=>(I7.pin (b,o)<|Ae _<|Ae _<|cf l e).1,λb l=>?_,w7⟩;obtain⟨o,e,d⟩:=T.obj _ _ h_ b l;exact(I7.pin (b,o)<|Ae _<|Ae _<|cf l e).2.1
  cases f with
  |next=>obtain⟨j,H7,I7,n7⟩:=q7;exact again I7 n7
  |cont=>obtain⟨j,H7,I7,n7⟩:=q7;exact again I7 n7
  |brk=>obtain⟨j,H7,I7,q7⟩:=q7;exact⟨j,H7,I7.unpinned,q7⟩
  |ret v=>obtain⟨x7,j,H7,I7,r7,q7⟩:=q7;exact⟨x7,j,H7,I7.unpinned,r7,q7⟩
abbrev R2:=V->V->Hp->VK->Prop
def w6(X:Cx)(f:Value->Value->Sem Value)(r:R2):Prop:=
 ∀(pins:List<|Addr×Obj) (s:Shared) (σ:St) (H:Hp) (x y:V) (v u:Value) (Q:VK),z8 X pins σ H s->zk x v->zk y u->r x y H Q->
  wpAny (model X.prog X.w) X.A (f v u) (EP X pins σ Q) X.xe s
def UnR(X:Cx)(f:Value->Sem Value)(r:V->Hp->VK->Prop):Prop:=
 ∀(pins:List<|Addr×Obj) (s:Shared) (σ:St) (H:Hp) (x:V) (v:Value) (Q:VK),z8 X pins σ H s->zk x v->r x H Q->
  wpAny (model X.prog X.w) X.A (f v) (EP X pins σ Q) X.xe s
def jo(X:Cx)(f:Value)(r:List V->Hp->VK->Prop):Prop:=
 ∀(pins:List<|Addr×Obj) (s:Shared) (σ:St) (H:Hp) (xs:List V) (us:List Value) (Q:VK),z8 X pins σ H s->zn xs us->r xs H Q->
  wpAny (model X.prog X.w) X.A (call f us) (EP X pins σ Q) X.xe s
def Db(r:R2)(ta tb:TE):TE:=λσ H Q=>ta σ H λx H1=>tb σ H1 λy H2=>r x y H2 Q
def ME(r:V->Hp->VK->Prop)(ta:TE):TE:=λσ H Q=>ta σ H λx H1=>r x H1 Q
def rI(C:Int->Int->Prop)(g:Int->Int->V):R2:=λx y H Q=>∃i j,x=.int i/\y=.int j/\C i j/\Q (g i j) H
def m_(g:Int->Int->V):R2:=λx y H Q=>∃i j,x=.int i/\y=.int j/\Q (g i j) H
def rU(g:Int->V):V->Hp->VK->Prop:=λx H Q=>∃i,x=.int i/\Q (g i) H
section
variable {a b:Expr}{ta tb tc:TE}
theorem FK(j:PE X a ta)(l:PE X b tb){R:V->V->Hp->Prop}(I:z8 X pins σ H s)
 (h:ta σ H λx H1=>tb σ H1 λy H2=>R x y H2) {f:Value->Value->Sem Value}
 (o:∀v u g x y H2,z8 X pins σ H2 g->zk x v->zk y u->R x y H2->wpAny (model X.prog X.w) X.A (f v u) Q X.xe g):
 wpAny (model X.prog X.w) X.A (eval a X.env) (λv J=>wpAny (model X.prog X.w) X.A (eval b X.env) (λu U=>wpAny (model X.prog X.w) X.A (f v u) Q X.xe U) X.xe J) X.xe s:=by
 refine aS (j pins s σ H _ I h) λv p x H1 r t C=>?_;refine aS (l pins p σ H1 _ r C) λu g y H2 T r2 q2=>?_;exact o v u g x y H2 T t r2 q2
theorem MF{op:Operator}{r:R2}(U:w6 X (binaryOp op) r)(g:PE X a ta)(j:PE X b tb):PE X (.BinOp a op b pos) (Db r ta tb):=by intro J s l H Q I h;exact wpAny_BinOp<|FK g j I h λv u o x y p t C T q=>U J o l p x y v u Q t C T q
theorem MG{op:UnaryOp}{r:V->Hp->VK->Prop}(g:UnR X (unaryOp op) r)(j:PE X a ta):PE X (.UnaryOp op a pos) (ME r ta):=by intro J s U H Q I h;exact UnaryOp_<|aS (j J s U H _ I h) λv l x o p t C=>g J l U o x v Q p t C
theorem FM{f:Value->Value->Sem Value}{C:Int->Int->Prop}{g:Int->Int->Int}
 (rule:∀(i j:Int) (t u:Tok) (s:Shared) (Q:Value->Shared->Prop) (E:Value->Shared->Prop),C i j->Q (.int (g i j) s.toks) { s with toks:=s.toks+1 }->wpAny (model X.prog X.w) X.A (f (.int i t)<|.int j u) Q E s):
 w6 X f (rI C λi j=>.int<|g i j):=by
 intro J s r H x y v u Q I U l h;obtain⟨i,j,rfl,rfl,o,q⟩:=h;obtain⟨t,rfl⟩:=U;obtain⟨p,rfl⟩:=l;exact rule i j t p s _ _ o ⟨.int<|g i j,H,I.tok _,⟨_,rfl⟩,q⟩
theorem Hc{f:Value->Value->Sem Value}{g:Int->Int->Int}
 (rule:∀(i j:Int) (t u:Tok) (s:Shared) (Q:Value->Shared->Prop) (E:Value->Shared->Prop),Q (.int (g i j) s.toks) { s with toks:=s.toks+1 }->wpAny (model X.prog X.w) X.A (f (.int i t)<|.int j u) Q E s):
 w6 X f (m_ λi j=>.int<|g i j):=by
 intro J s p H x y v u Q I U l h;obtain⟨i,j,rfl,rfl,q⟩:=h;obtain⟨t,rfl⟩:=U;obtain⟨o,rfl⟩:=l;exact rule i j t o s _ _ ⟨.int<|g i j,H,I.tok _,⟨_,rfl⟩,q⟩
theorem FO{f:Value->Value->Sem Value}{g:Int->Int->Bool}
 (rule:∀(i j:Int) (t u:Tok) (s:Shared) (Q:Value->Shared->Prop) (E:Value->Shared->Prop),Q (.bool<|g i j) s->wpAny (model X.prog X.w) X.A (f (.int i t)<|.int j u) Q E s):
 w6 X f (m_ λi j=>.bl<|g i j):=by
 intro J s p H x y v u Q I U l h;obtain⟨i,j,rfl,rfl,q⟩:=h;obtain⟨t,rfl⟩:=U;obtain⟨o,rfl⟩:=l;exact rule i j t o s _ _ ⟨.bl<|g i j,H,I,rfl,q⟩
def FP(i j:Int):Prop:=0<j/\j<1073741824
def acw(i j:Int):Prop:=(-(2 ^ 64)<i/\i<2 ^ 64)\/(-(2 ^ 64)<j/\j<2 ^ 64)
theorem acw.ok{i j:Int}(h:acw i j):IntMulOk i j:=by
 rcases h with⟨I,J⟩|⟨I,J⟩
 ·exact .of_left<|intBits_le_64 I J
 ·exact .of_right<|intBits_le_64 I J
theorem MJ:w6 X (binaryOp .Add) (m_ λi j=>.int<|i+j):=Hc λ_ _ _ _ _ _ _ q=>add_int q
theorem MK:w6 X (binaryOp .Sub) (m_ λi j=>.int<|i-j):=Hc λ_ _ _ _ _ _ _ q=>sub_int q
theorem MN:w6 X (binaryOp .Mult) (rI acw λi j=>.int<|i*j):=FM λ_ _ _ _ _ _ _ I q=>mul_int q I.ok
theorem MO:w6 X (binaryOp .FloorDiv) (rI FP λi j=>.int<|i / j):=FM λi j _ _ _ _ _ I q=>by have J:(0:Int)<j:=I.1;have U:j<1073741824:=I.2;exact floordiv_int (by lia) (by rw[Int.fdiv_eq_ediv_of_nonneg i (by lia)];exact q)<|.inl<|PyProof.noPylong_small (by lia)
theorem MQ:w6 X (binaryOp .Mod) (rI (λ_ j=>0<j) λi j=>.int<|i % j):=FM λi j _ _ _ _ _ I q=>by have J:(0:Int)<j:=I;exact mod_int' (by lia) (by rw[Int.fmod_eq_emod_of_nonneg i (by lia)];exact q)
theorem MT{f:Value->Sem Value}{g:Int->Int}
 (rule:∀(i:Int) (t:Tok) (s:Shared) (Q:Value->Shared->Prop) (E:Value->Shared->Prop),Q (.int (g i) s.toks) { s with toks:=s.toks+1 }->wpAny (model X.prog X.w) X.A (f<|.int i t) Q E s):
 UnR X f (rU λi=>.int<|g i):=by
 intro J s j H x v Q I U h;obtain⟨i,rfl,q⟩:=h;obtain⟨t,rfl⟩:=U;exact rule i t s _ _ ⟨.int<|g i,H,I.tok _,⟨_,rfl⟩,q⟩
theorem MU:UnR X (unaryOp .USub) (rU λi=>.int<|-i):=MT λ_ _ _ _ _ q=>neg_int q
end
def Fh:V->V->Bool
 |.non,.non=>true|.non,.int _=>true|.int _,.non=>true|.non,.bl _=>true|.bl _,.non=>true|.non,.str _=>true|.str _,.non=>true
 |.int _,.int _=>true|.bl _,.bl _=>true|.str _,.str _=>true|.byt _,.byt _=>true
 |.int _,.str _=>true|.str _,.int _=>true|.bl _,.str _=>true|.str _,.bl _=>true
 |_,_=>false
def MV:R2:=λx y H Q=>Fh x y=true/\Q (.bl<|decide<|x=y) H
def MW:R2:=λx y H Q=>Fh x y=true/\Q (.bl<|!decide (x=y)) H
theorem wW{i j:Int}:decide (V.int i=V.int j)=(i==j):=by rw[Bl];simp
theorem Hd{i j:Bool}:decide (V.bl i=V.bl j)=(i==j):=by rw[Bl];simp
theorem xI{i j:Str}:decide (V.str i=V.str j)=(i==j):=by rw[Bl];simp
theorem xD{i j:Array UInt8}:decide (V.byt i=V.byt j)=(i.toList==j.toList):=by rw[Bl];cases i;cases j;simp
section
variable {a b:Expr}{ta tb tc:TE}
theorem jk{Q:VK}{k J:Bool}(I:z8 X pins σ H s)(q:Q (.bl k) H)(e:k=J):EP X pins σ Q (.bool J) s:=by subst e;exact⟨.bl k,H,I,rfl,q⟩
theorem He:w6 X (compareOp .Eq) MV:=by
 intro o s p H x y v u Q I l J h;obtain⟨g,q⟩:=h;cases x with
 |non=>
  cases l;cases y with
  |non=>cases J;exact PySem.EqNone.eq_none_none<|jk I q (by simp)
  |bl j=>cases J;exact PySem.EqNone.eq_none_bool<|jk I q (by simp)
  |int j=>obtain⟨U,rfl⟩:=J;exact PySem.EqNone.eq_none_int<|jk I q (by simp)
  |str j=>obtain⟨U,rfl⟩:=J;exact PySem.EqNone.eq_none_str<|jk I q (by simp)
  |_=>exact absurd (show false=true from g) AI
 |bl i=>
  cases l;cases y with
  |non=>cases J;exact PySem.EqNone.eq_bool_none<|jk I q (by simp)
  |bl j=>cases J;exact eq_bool<|jk I q Hd
  |str j=>obtain⟨U,rfl⟩:=J;exact PySem.EqMixed.eq_bool_str<|jk I q (by simp)
  |_=>exact absurd (show false=true from g) AI
 |int i=>
  obtain⟨t,rfl⟩:=l;cases y with
  |non=>cases J;exact PySem.EqNone.eq_int_none<|jk I q (by simp)
  |int j=>obtain⟨U,rfl⟩:=J;exact eq_int<|jk I q wW
  |str j=>obtain⟨U,rfl⟩:=J;exact PySem.EqMixed.eq_int_str<|jk I q (by simp)
  |_=>exact absurd (show false=true from g) AI
 |str i=>
  obtain⟨t,rfl⟩:=l;cases y with
  |non=>cases J;exact PySem.EqNone.eq_str_none<|jk I q (by simp)
  |bl j=>cases J;exact PySem.EqMixed.eq_str_bool<|jk I q (by simp)
  |int j=>obtain⟨U,rfl⟩:=J;exact PySem.EqMixed.eq_str_int<|jk I q (by simp)
  |str j=>obtain⟨U,rfl⟩:=J;exact eq_str<|jk I q xI
  |_=>exact absurd (show false=true from g) AI
 |byt i=>
  obtain⟨t,rfl⟩:=l;cases y with
  |byt j=>obtain⟨U,rfl⟩:=J;exact PySem.W.eq_bytes<|jk I q xD
  |_=>exact absurd (show false=true from g) AI
 |_=>cases y<;>exact absurd (show false=true from g) AI
theorem Hf:w6 X (compareOp .NotEq) MW:=by
 intro o s p H x y v u Q I l J h;obtain⟨g,q⟩:=h;cases x with
 |non=>
  cases l;cases y with
  |non=>cases J;exact PySem.EqNone.ne_none_none<|jk I q (by simp)
  |bl j=>cases J;exact PySem.EqNone.ne_none_bool<|jk I q (by simp)
  |int j=>obtain⟨U,rfl⟩:=J;exact PySem.EqNone.ne_none_int<|jk I q (by simp)
  |str j=>obtain⟨U,rfl⟩:=J;exact PySem.EqNone.ne_none_str<|jk I q (by simp)
  |_=>exact absurd (show false=true from g) AI
 |bl i=>
  cases l;cases y with
  |non=>cases J;exact PySem.EqNone.ne_bool_none<|jk I q (by simp)
  |bl j=>cases J;exact ne_bool<|jk I q<|BL not Hd
  |str j=>obtain⟨U,rfl⟩:=J;exact PySem.EqMixed.ne_bool_str<|jk I q (by simp)
  |_=>exact absurd (show false=true from g) AI
 |int i=>
  obtain⟨t,rfl⟩:=l;cases y with
  |non=>cases J;exact PySem.EqNone.ne_int_none<|jk I q (by simp)
  |int j=>obtain⟨U,rfl⟩:=J;exact ne_int<|jk I q<|BL not wW
  |str j=>obtain⟨U,rfl⟩:=J;exact PySem.EqMixed.ne_int_str<|jk I q (by simp)
  |_=>exact absurd (show false=true from g) AI
 |str i=>
  obtain⟨t,rfl⟩:=l;cases y with
  |non=>cases J;exact PySem.EqNone.ne_str_none<|jk I q (by simp)
  |bl j=>cases J;exact PySem.EqMixed.ne_str_bool<|jk I q (by simp)
  |int j=>obtain⟨U,rfl⟩:=J;exact PySem.EqMixed.ne_str_int<|jk I q (by simp)
  |str j=>obtain⟨U,rfl⟩:=J;exact ne_str<|jk I q<|BL not xI
  |_=>exact absurd (show false=true from g) AI
 |byt i=>
  obtain⟨t,rfl⟩:=l;cases y with
  |byt j=>obtain⟨U,rfl⟩:=J;exact PySem.W.ne_bytes<|jk I q<|BL not xD
  |_=>exact absurd (show false=true from g) AI
 |_=>cases y<;>exact absurd (show false=true from g) AI
theorem MX:w6 X (compareOp .Lt) (m_ λi j=>.bl<|decide<|i<j):=FO λ_ _ _ _ _ _ _ q=>lt_int q
theorem MY:w6 X (compareOp .Gt) (m_ λi j=>.bl<|decide<|j<i):=FO λ_ _ _ _ _ _ _ q=>gt_int q
theorem MZ:w6 X (compareOp .GtE) (m_ λi j=>.bl<|decide<|j<=i):=FO λ_ _ _ _ _ _ _ q=>ge_int q
theorem vf(b:Expr){op:CmpOp}(h:op≠.In:=by decide)(h2:op≠.NotIn:=by decide):behindInMarks op b=false:=by
 have I:(op==CmpOp.In)=false:=by cases op<;>first|rfl|exact absurd rfl h
 have J:(op==CmpOp.NotIn)=false:=by cases op<;>first|rfl|exact absurd rfl h2
 cases b<;>simp[behindInMarks,I,J]
theorem M8{op:CmpOp}{r:R2}(U:w6 X (compareOp op) r)(g:PE X a ta)(j:PE X b tb)(l:behindInMarks op b=false):PE X (.Compare a [op] [b] pos) (Db r ta tb):=by intro J s o H Q I h;exact wpAny_Compare1 (FK g j I h λv u p x y t C T ry q=>U J p o t x y v u Q C T ry q) l
def Hg(t:TE):TT:=λσ H Q=>t σ H λx H'=>∃k,x=.bl k/\Q k H'
theorem M9{op:CmpOp}{r:R2}(g:w6 X (compareOp op) r)(j:PE X a ta)(l:PE X b tb)(o:behindInMarks op b=false):PT X (.Compare a [op] [b] pos) (Hg<|Db r ta tb):=by
 intro J s U H Q I h;refine wpAny_isTrue_Compare1 (aS (j J s U H _ I h) λv p x t C T q1=>aS (l J p U t _ C q1) λu s2 y H2 I2 r2 q2=>
  aT (g J s2 U H2 x y v u _ I2 T r2 q2) λc s3 ⟨z,H3,I3,r3,k,e,q3⟩=>?_) o
 subst e;cases r3;exact wpAny_truthy_bool ⟨H3,I3,q3⟩
theorem iN:(sizeLine:Nat)<2 ^ 63:=by rw[sizeLine_eq];decide
theorem vT:w6 X (binaryOp .Add) (λx y H Q=>∃i j,x=.str i/\y=.str j/\i.length+j.length<=sizeLine/\Q (.str<|i++j) H):=by intro J s p H x y v u Q I U g h;obtain⟨i,j,rfl,rfl,l,q⟩:=h;obtain⟨t,rfl⟩:=U;obtain⟨o,rfl⟩:=g;exact jt I.tk<|add_str (λo r C=>⟨.str<|i++j,H,I.tok _,⟨_,rfl⟩,q⟩) l
theorem sJ{x:V}(r:zn [x] us):∃u,us=[u]/\zk x u:=by cases r with|cons I J=>cases J;exact⟨_,rfl,I⟩
theorem Hh{x y:V}(r:zn [x,y] us):∃u I,us=[u,I]/\zk x u/\zk y I:=by
 cases r with
 |cons J U=>
  cases U with|cons g j=>cases j;exact⟨_,_,rfl,J,g⟩
theorem zQ(hc:X.calm=true):jo X (.builtin "max") (λxs H Q=>∃i j,xs=[.int i,.int j]/\Q (.int<|if j > i then j else i) H):=by
 intro U s g H xs l Q I r h;obtain⟨i,j,rfl,q⟩:=h;obtain⟨u,o,rfl,⟨t,rfl⟩,⟨p,rfl⟩⟩:=Hh r;refine jt I.tk<|max_two_ints (I.ok.hd hc) λC T k ht=>⟨_,H,I.kept k,?_,q⟩;by_cases J:j > i
 ·rw[AC J,AC J];exact⟨_,rfl⟩
 ·rw[AB J,AB J];exact⟨_,rfl⟩
theorem yi(hc:X.calm=true):jo X (.builtin "min") (λxs H Q=>∃i j,xs=[.int i,.int j]/\Q (.int<|if j<i then j else i) H):=by
 intro U s g H xs l Q I r h;obtain⟨i,j,rfl,q⟩:=h;obtain⟨u,o,rfl,⟨t,rfl⟩,⟨p,rfl⟩⟩:=Hh r;refine jt I.tk<|min_two_ints (I.ok.hd hc) λC T k ht=>⟨_,H,I.kept k,?_,q⟩;by_cases J:j<i
 ·rw[AC J,AC J];exact⟨_,rfl⟩
 ·rw[AB J,AB J];exact⟨_,rfl⟩
end
structure u5(h:Heap)(x dx C:Addr)(mA:Str->Option Value):Prop where
 obj:h.get? x=some (PySem.W.instObj C dx)
 ns:h.Ns1 dx mA
 ne:dx≠x
theorem y8(n:h.Ns1 dx mA):∃od,h.get? dx=some od/\∀name,PySem.W.lookIn name od=some (mA name):=by
 obtain⟨o,J,r,U,hd,g,_,j⟩:=n;refine⟨o,U,λname=>?_⟩;have e:=j name;unfold nsFind findBy at e;rw[<-Array.find?_toList] at e;unfold PySem.W.lookIn;rw[hd];dsimp only;split
 ·rename_i y q;rw[q] at e;exact BL some e
 ·rename_i q;rw[q] at e;have a:J.toList.any (·.refKey)=false:=by rw[List.any_eq_false];intro y l;obtain⟨z,t,I⟩:=g y<|Array.mem_toList_iff.mp l;simp[DictEntry.refKey,I]
  have p:¬J.toList.any (·.refKey)=true:=by rw[a];exact AI
  rw[AB p];exact BL some e
theorem u5.look{x:Addr}(I:u5 h x dx C mA):∃od,PySem.W.InstAt h x (PySem.W.instObj C dx) C (some od)/\∀name,PySem.W.lookIn name od=some (mA name):=
 let ⟨od,J,U⟩:=y8 I.ns
 ⟨od,⟨I.obj,rfl,rfl,J⟩,U⟩
section
variable {w:World}{K:Aj}{x f:Addr}
theorem Na{expr:Bool}(X:K.In s.heap)(I:u5 s.heap x dx C mA)(g:PySem.W.plainGet K C name=true)(j:PySem.W.hasDictIn K C=true)
 (l:PySem.W.findIn K (.ref C) name=some none) (o:mA name=some v) (U:PySem.W.handedIn v=true) (h:Q v { s with toks:=s.toks+1 }):
 wpAny (model prog w) A (getAttr (.ref x) name expr) Q E s:=by
 obtain⟨r,J,p⟩:=I.look;exact PySem.W.get_value X J (Du g).1 (PySem.W.findObj_own j l rfl (by rw[p,o])) U h
theorem Nb{pl:Sem Bool}{Q:Value×List Value->Shared->Prop}(X:K.In s.heap)(I:u5 s.heap x dx C mA)(U:PySem.W.plainGet K C name=true)
 (g:PySem.W.findIn K (.ref C) name=some (some<|.ref f)) (j:PySem.W.isFn K (.ref f)=true) (l:mA name=none) (h:Q (.ref f,[.ref x]) s):
 wpAny (model prog w) A (getMethod (.ref x) name pl) Q E s:=by
 obtain⟨o,J,p⟩:=I.look;exact PySem.W.method_fn X J (Du U).1 (Du U).2 g (beq_iff_eq.mp j) (by show(PySem.W.lookIn name o).map (·.isSome)=some false;rw[p,l];rfl) h
theorem Nc{t:List Str}{Q:Unit->Shared->Prop}(X:K.In s.heap)(I:u5 s.heap x dx C mA)
 (hs:PySem.W.findIn K (.ref C) "__setattr__"=some (some<|.builtin "object.__setattr__")) (hp:PySem.W.plainOver K C=true) (T:PySem.W.takerIn K C name=some none) (hh:PySem.W.hasDictIn K C=true)
 (hw:PySem.Within mA t) (hsz:t.length<=sizeLine)
 (h:∀h',u5 h' x dx C (λy=>if y=name then some v else mA y)->Heap.SameBut dx s.heap h'->Q () { s with heap:=h',toks:=s.toks+2 }):
 wpAny (model prog w) A (setAttr (.ref x) name v) Q E s:=by
 obtain⟨od,J,hl⟩:=I.look;refine PySem.W.set_plain X J hs<|PySem.W.osa_open (s:={ s with toks:=s.toks+1 }) (r:=none) X J hp T λb=>?_;obtain⟨cd,hc,j⟩:=PySem.W.any_some hh;have hx:s.heap.get? x=some ⟨.ref C,some dx,.plain,#[]⟩:=I.obj;refine Aa<|An<|Aa<|Aa<|wpAny_loadPart hx<|Aa<|PySem.W.Looks.here (s:={ s with toks:=s.toks+1 }) (PySem.W.looks_clsIn X hc) ?_;rw[j];refine An (a:=some dx)<|Aa<|An<|Aa ?_;refine wpAny_nsSet1 (s:={ s with toks:=s.toks+1 }) I.ns λh' U g=>?_;obtain⟨oD,a0,a1,l,o,p⟩:=U.count<|PySem.Within.cons name v hw;refine Aa (wpAny_lookBehind l (by rw[o];exact pastItsLine_dict (AN p (by rw[AK];lia))) ?_);exact An<|h _ ⟨(g.2 _<|A4 I.ne).trans I.obj,U,I.ne⟩ g
theorem Nd{R:Result->Shared->Prop}(X:K.In s.heap)(I:PySem.W.makesIn K C=true)
 (hi:PySem.W.findIn K (.ref C) "__init__"=some (some<|.ref f)) (J:PySem.W.typeIn K (.ref f)=some (.type "function"))
 (h:codeAny (model prog w) (A.under<|.builtin "type.__call__" ⟨.ref C::vs,kw⟩) (.call (.ref f) ⟨.ref (s.heap.objs.size+1)::vs,kw⟩) (PySem.W.InitBack (s.heap.objs.size+1) R)
  { s with heap:=(s.heap.push PySem.W.emptyDict).push (PySem.W.instObj C s.heap.objs.size) }):
 codeAny (model prog w) A (.call (.ref C) ⟨vs,kw⟩) R s:=by
 obtain⟨U,g,d,t,os⟩:=s;exact PySem.W.make_core (PySem.W.makes_of X I) (PySem.W.looks_findIn X hi) (λself=>PySem.W.bind_fn X self J) (.inl rfl) h
end
def dA(f:Str)(v:V):List (Str×V)->List (Str×V)
 |[]=>[(f,v)]
 |(g,x)::r=>if g=f then(g,v)::r else(g,x)::dA f v r
theorem jL(f g:Str)(v:V):∀fs:List (Str×V),(dA f v fs).lookup g=if g=f then some v else fs.lookup g
 |[]=>by
  show List.lookup g [(f,v)]=_;by_cases h:g=f
  ·have I:(g==f)=true:=beq_iff_eq.mpr h;simp only[List.lookup,I,AC h]
  ·have I:(g==f)=false:=beq_eq_false_iff_ne.mpr h;simp only[List.lookup,I,AB h]
 |(k,x)::r=>by
  have U:=jL f g v r;rw[show dA f v ((k,x)::r)=(if k=f then(k,v)::r else(k,x)::dA f v r) from rfl];by_cases J:k=f
  ·rw[AC J];by_cases h:g=k
   ·have I:(g==k)=true:=beq_iff_eq.mpr h;simp only[List.lookup,I,AC<|h.trans J]
   ·have I:(g==k)=false:=beq_eq_false_iff_ne.mpr h;simp only[List.lookup,I,AB (λe:g=f=>h<|e.trans J.symm)]
  ·rw[AB J];by_cases h:g=k
   ·have I:(g==k)=true:=beq_iff_eq.mpr h;simp only[List.lookup,I,AB (λe:g=f=>J<|h.symm.trans e)]
   ·have I:(g==k)=false:=beq_eq_false_iff_ne.mpr h;simp only[List.lookup,I];exact U
theorem iF(f:Str)(v:V):∀fs:List (Str×V),f∈(dA f v fs).map (·.1)/\∀g,g∈fs.map (·.1)->g∈(dA f v fs).map (·.1)
 |[]=>⟨by simp[dA],λg h=>by simp at h⟩
 |(k,x)::r=>by
  obtain⟨J,U⟩:=iF f v r;rw[show dA f v ((k,x)::r)=(if k=f then(k,v)::r else(k,x)::dA f v r) from rfl];by_cases I:k=f
  ·rw[AC I];subst I;exact⟨by simp,λg h=>by simpa using h⟩
  ·rw[AB I];refine⟨?_,λg h=>?_⟩
   ·rw[AG];exact Ab _ J
   ·rw[AG] at h ⊢;rcases Ao.mp h with e|e
    ·exact Ao.mpr<|.inl e
    ·exact Ab _<|U g e
theorem jG(f:Str)(v:V):∀fs:List (Str×V),(dA f v fs).length<=fs.length+1
 |[]=>by simp[dA]
 |(k,x)::r=>by
  have J:=jG f v r;rw[show dA f v ((k,x)::r)=(if k=f then(k,v)::r else(k,x)::dA f v r) from rfl];by_cases I:k=f
  ·rw[AC I,AK,AK];lia
  ·rw[AB I,AK,AK];lia
theorem dN.some_of{v:V}{o:Option Value}(r:dN (some v) o):∃u,o=some u/\zk v u:=by cases o with|none=>exact(show False from r).elim|some u=>exact⟨u,rfl,r⟩
abbrev EV:=@dN.some_of
theorem dN.none_of{o:Option Value}(r:dN none o):o=none:=by cases o with|none=>rfl|some u=>exact(show False from r).elim
theorem y9{v:V}(r:zk v u):PySem.W.handedIn u=true:=by
 cases v with
 |non=>cases (show u=Value.none from r);rfl
 |bl b=>cases (show u=Value.bool b from r);rfl
 |int i=>obtain⟨t,e⟩:=(show ∃t,u=Value.int i t from r);cases e;rfl
 |str x=>obtain⟨t,e⟩:=(show ∃t,u=Value.str x t from r);cases e;rfl
 |byt b=>obtain⟨t,e⟩:=(show ∃t,u=Value.bytes b t from r);cases e;rfl
 |flt b=>obtain⟨t,e⟩:=(show ∃t,u=Value.float b t from r);cases e;rfl
 |ref a=>cases (show u=Value.ref a from r);rfl
 |ty n=>cases (show u=Value.type n from r);rfl
section
variable {P:Program}{w:World}{a:Addr}{fs fs':List<|Str×V}
theorem kG(hok:fb P w H h)(e:H a=some (.ins C dx fs)):∃mA,u5 h a dx C mA/\(∀f,dN (fs.lookup f)<|mA f)/\PySem.Within mA (fs.map (·.1))/\fs.length<=1000/\H dx=some (.own a):=by obtain⟨d,z,ne,I,mA,n,r,q⟩:=(show xu P w H h a (.ins C dx fs) from hok a _ e);exact⟨mA,⟨I,n,ne⟩,r,q,z,d⟩
end
structure Cls(K:Aj)(C:Addr):Prop where
 pg:PySem.W.plainGet K C Str.empty=true
 hd:PySem.W.hasDictIn K C=true
 po:PySem.W.plainOver K C=true
 sa:PySem.W.findIn K (.ref C) "__setattr__"=some (some<|.builtin "object.__setattr__")
theorem Cls.get{K:Aj}(c:Cls K C)(f:Str):PySem.W.plainGet K C f=true:=c.pg
def NoAttr(K:Aj)(C:Addr)(f:Str):Prop:=PySem.W.findIn K (.ref C) f=some none
theorem NoAttr.taker{K:Aj}{f:Str}(n:NoAttr K C f):PySem.W.takerIn K C f=some none:=by unfold PySem.W.takerIn;rw[show PySem.W.findIn K (.ref C) f=some none from n];rfl
structure DP(K:Aj)(C:Addr)(m:Str)(f:Addr):Prop where
 at_:PySem.W.findIn K (.ref C) m=some (some<|.ref f)
 fn:PySem.W.isFn K (.ref f)=true
 kp:PySem.W.keepIn K (.ref f)=true
section
variable {a:Addr}{fs:List<|Str×V}{f:Str}{v:V}
theorem u0{b:Bool}(I:z8 X pins σ H s)(e:H a=some (.ins C dx fs))(c:Cls X.K C)(n:NoAttr X.K C f)(l:fs.lookup f=some v)
 (h:∀u s',z8 X pins σ H s'->zk v u->Q u s'):wpAny (model X.prog X.w) A (getAttr (.ref a) f b) Q E s:=by
 obtain⟨U,O,r,_,_,_⟩:=kG I.hok e;obtain⟨u,g,J⟩:=EV (v:=v) (o:=U f) (by rw[<-l];exact r f);exact Na I.kIn O (c.get f) c.hd n g (y9 J)<|h u _ (I.tok _) J
theorem uP{m:Str}{g:Addr}{pl:Sem Bool}{Q:Value×List Value->Shared->Prop}(I:z8 X pins σ H s)(e:H a=some (.ins C dx fs))(c:Cls X.K C)(k:DP X.K C m g)(l:fs.lookup m=none)
 (h:Q (.ref g,[.ref a]) s):wpAny (model X.prog X.w) A (getMethod (.ref a) m pl) Q E s:=by
 obtain⟨J,O,r,_,_,_⟩:=kG I.hok e;have U:J m=none:=dN.none_of (by rw[<-l];exact r m);exact Nb I.kIn O (c.get m) k.at_ k.fn U h
theorem uO{y:V}{Q:Unit->Shared->Prop}(I:z8 X pins σ H s)(e:H a=some (.ins C dx fs))(c:Cls X.K C)(n:NoAttr X.K C f)(hl:fs.length<1000)(p:zk y u)
 (h:∀s',z8 X pins σ (upd H a<|.ins C dx<|dA f y fs) s'->Q () s'):wpAny (model X.prog X.w) A (setAttr (.ref a) f u) Q E s:=by
 obtain⟨U,O,r,j,_,l⟩:=kG I.hok e;have t:(fs.map (·.1)).length<=sizeLine:=by rw[Ah,sizeLine_eq];lia
 refine Nc I.kIn O c.sa c.po n.taker c.hd j t λT J sb=>h _ ?_;have hd:∃o,T.get? dx=some o:=let ⟨o,_,_,e',_⟩:=J.ns;⟨o,e'⟩;refine I.write (x:=a) (e:=dx) (by rw[e];exact True.intro) (.inr l) (λb q hb z=>(sb.2 b hb).trans z) hd ?_;refine⟨by rw[qu O.ne];exact l,?_,O.ne,J.obj,_,J.ns,λg=>?_,λg hg=>?_⟩
 ·have:=jG f y fs;lia
 ·show dN ((dA f y fs).lookup g) (if g=f then some u else U g);rw[jL];by_cases q:g=f
  ·rw[AC q,AC q];exact p
  ·rw[AB q,AB q];exact r g
 ·by_cases q:g=f
  ·rw[q];exact(iF f y fs).1
  ·refine(iF f y fs).2 g (j g λz=>hg ?_);show(if g=f then some u else U g)=none;rw[AB q];exact z
theorem z8.made(I:z8 X pins σ H s):z8 X pins σ (upd (upd H s.heap.objs.size<|.own<|s.heap.objs.size+1) (s.heap.objs.size+1)<|.ins C s.heap.objs.size [])
 { s with heap:=(s.heap.push PySem.W.emptyDict).push (PySem.W.instObj C s.heap.objs.size) }:=by
 have J:(s.heap.push PySem.W.emptyDict).get? s.heap.objs.size=some PySem.W.emptyDict:=pR s.heap rfl;have U:((s.heap.push PySem.W.emptyDict).push<|PySem.W.instObj C s.heap.objs.size).get? (s.heap.objs.size+1)=some (PySem.W.instObj C s.heap.objs.size):=by have:=pR (s.heap.push PySem.W.emptyDict) (o:=PySem.W.instObj C s.heap.objs.size) rfl;rwa[ya] at this
 have g:(s.heap.push PySem.W.emptyDict).Ns s.heap.objs.size (λ_=>none):=⟨PySem.W.emptyDict,#[],_,J,rfl,(λe j=>absurd j (by simp)),λ_=>rfl⟩;have l:=I.laid (a:=s.heap.objs.size) (o:=.own<|s.heap.objs.size+1) (h':=s.heap.push PySem.W.emptyDict) (t':=s.toks) (λb u q=>oe _ q) (Ap _) ⟨_,J⟩;refine l.laid (a:=s.heap.objs.size+1) (o:=.ins C s.heap.objs.size []) (t':=s.toks) (λb u q=>oe _ q) (El<|ya _ _) ?_;have ne:s.heap.objs.size≠s.heap.objs.size+1:=A5<|Bk _;refine⟨by rw[qu ne,zq],A3 _,ne,U,λ_=>none,(Heap.Ns1.of_empty g).at λo q=>oe _ q,λ_=>True.intro,λy p=>absurd rfl p⟩
theorem Nf{w:World}{f:Str}(J:attributeBase e f env (eval e env)=eval e env)
 (h:wpAny (model prog w) A (eval e env) (λo I=>wpAny (model prog w) A (getAttr o f true) Q E I) E s):wpAny (model prog w) A (eval (.Attribute e f pos) env) Q E s:=
 Attribute_any_ h (by rw[arm_eval_Attribute,J])
end
def Ng(K:Aj)(ta:TE)(f:Str):TE:=λσ H Q=>ta σ H λx H1=>∃a C dx fs v,x=.ref a/\H1 a=some (.ins C dx fs)/\Cls K C/\NoAttr K C f/\fs.lookup f=some v/\Q v H1
def Nh(K:Aj)(ta tv:TE)(f:Str):TS:=λD σ H=>tv σ H λy H1=>ta σ H1 λx H2=>∃a C dx fs,x=.ref a/\H2 a=some (.ins C dx fs)/\Cls K C/\NoAttr K C f/\fs.length<1000/\
 D.nx σ (upd H2 a<|.ins C dx<|dA f y fs)
section
variable {f:Str}{tpos:Pos}{ta tv:TE}
theorem Ni(U:PE X e ta)(g:attributeBase e f X.env (eval e X.env)=eval e X.env):PE X (.Attribute e f pos) (Ng X.K ta f):=by intro J s j H Q I h;refine Nf g<|aT (U J s j H _ I h) λu s1 ψ=>?_;obtain⟨x,o,p,r,a,C,dx,fs,v,ex,ea,c,n,l,q⟩:=ψ;subst ex;obtain rfl:u=Value.ref a:=r;exact u0 p ea c n l λu' s2 t T=>⟨v,o,t,T,q⟩
theorem Nj(g:PE X o ta)(j:PE X value tv)(hs:swapsWith value (some<|.Attribute o f fy) pos.line X.env=pure false):PS X (.Assign [.Attribute o f fy] value pos) (Nh X.K ta tv f):=by intro J s U H D I h;refine plainObj_wpAny_Assign_Attribute (aS (j J s U H _ I h) λu p y r t T q=>aT (g J p U r _ t q) λov s2 ψ=>?_) hs;obtain⟨x,H2,I2,rx,a,C,dx,fs,ex,ea,c,n,l,q2⟩:=ψ;subst ex;obtain rfl:ov=Value.ref a:=rx;exact uO I2 ea c n l T λs3 I3=>⟨U,_,I3,q2⟩
end
section
variable {c:Value}{b:Bool}
inductive jS(K:Aj)(H:Hp):V->Value->Prop where
 |non:jS K H .non (.type "NoneType")
 |bl (x:Bool):jS K H (.bl x) (.type "bool")
 |int (i:Int):jS K H (.int i) (.type "int")
 |str (x:Str):jS K H (.str x) (.type "str")
 |flt (x:UInt64):jS K H (.flt x) (.type "float")
 |lst {a:Addr} {xs:List V} (e:H a=some (.lst xs)):jS K H (.ref a) (.type "list")
 |frz {a:Addr} {o:Obj} {xs:List V} (e:H a=some (.frz o<|.lst xs)):jS K H (.ref a) (.type "list")
 |tup {a:Addr} {xs:List V} (e:H a=some (.tup xs)):jS K H (.ref a) (.type "tuple")
 |dK {a:Addr} {kvs:List<|j9×V} (e:H a=some (.dK kvs)):jS K H (.ref a) (.type "dict")
 |dT {a:Addr} {kvs:List<|List j9×V} (e:H a=some (.dT kvs)):jS K H (.ref a) (.type "dict")
 |ins {a C dx:Addr} {fs:List<|Str×V} (e:H a=some (.ins C dx fs)) (cl:Cls K C) (ha:PySem.W.findIn K (.ref C) "__class__"=some (some<|.builtin "object.__class__"))
  (hn:PySem.W.specialIn K (.builtin "object.__class__") "__get__"=some (some<|.builtin "getset_descriptor.__get__")) (htk:PySem.W.takesIn K (.builtin "object.__class__")=some true)
  (hm:PySem.W.mroIn K C (.type "object")=some true):jS K H (.ref a) (.ref C)
theorem am{x:V}{t:Value}(I:z8 X pins σ H s)(U:zk x u)(ty:jS X.K H x t)(e:PySem.W.kitOne X.K t c=some b)(h:∀tk,Q (.bool b) { s with toks:=tk }):
 wpAny (model X.prog X.w) A (call (.builtin "isinstance") [u,c]) Q E s:=by
 cases ty with
 |non=>cases (show u=Value.none from U);exact Bu PySem.W.kitx_none I.kIn True.intro e (λz=>nomatch z) h
 |bl y=>cases (show u=Value.bool y from U);exact Bu PySem.W.kitx_bool I.kIn True.intro e (λz=>nomatch z) h
 |int i=>obtain⟨t,q⟩:=(show ∃t,u=Value.int i t from U);cases q;exact Bu PySem.W.kitx_int I.kIn True.intro e (λz=>nomatch z) h
 |str y=>obtain⟨t,q⟩:=(show ∃t,u=Value.str y t from U);cases q;exact Bu PySem.W.kitx_str I.kIn True.intro e (λz=>nomatch z) h
 |flt y=>obtain⟨t,q⟩:=(show ∃t,u=Value.float y t from U);cases q;exact Bu PySem.W.kitx_float I.kIn True.intro e (λz=>nomatch z) h
 |@lst a l ea=>
  cases (show u=Value.ref a from U);obtain⟨_,_,n,_,g⟩:=(show xu X.prog X.w H s.heap a (.lst l) from I.hok a _ ea);exact Bu DG I.kIn ⟨_,g,rfl⟩ e (λz=>nomatch z) h
 |@frz a ob l ea=>
  cases (show u=Value.ref a from U);obtain⟨_,_,_,n,_,g⟩:=(show xu X.prog X.w H s.heap a (.frz ob<|.lst l) from I.hok a _ ea);exact Bu DG I.kIn ⟨_,g,rfl⟩ e (λz=>nomatch z) h
 |@tup a l ea=>
  cases (show u=Value.ref a from U);obtain⟨_,_,_,p⟩:=(show xu X.prog X.w H s.heap a (.tup l) from I.hok a _ ea);obtain⟨o,g,r,_⟩:=p;exact Bu PySem.W.kitx_tuple I.kIn ⟨o,g,r⟩ e (λz=>nomatch z) h
 |@dK a j ea=>
  cases (show u=Value.ref a from U);obtain⟨_,_,vs,_,p⟩:=(show xu X.prog X.w H s.heap a (.dK j) from I.hok a _ ea);obtain⟨o,es,ep,g,r,_⟩:=p;exact Bu PySem.W.kitx_dict I.kIn ⟨o,g,r.1⟩ e (λz=>nomatch z) h
 |@dT a j ea=>
  cases (show u=Value.ref a from U);obtain⟨_,_,l,_,o,es,ep,g,r,_⟩:=(show xu X.prog X.w H s.heap a (.dT j) from I.hok a _ ea);exact Bu PySem.W.kitx_dict I.kIn ⟨o,g,r.1⟩ e (λz=>nomatch z) h
 |@ins a C dx fs ea cl ha hn T hm=>
  cases (show u=Value.ref a from U);obtain⟨mA,O,_⟩:=kG I.hok ea;obtain⟨od,J,_⟩:=O.look;exact Bu (PySem.W.kitx_own (cl.get _) cl.hd ha hn T hm) I.kIn J e (λz=>nomatch z) h
end
structure vo(k:Nat)(A:Around):Prop where
 hd:A.handled=none
 dp:A.depth+3*k+5<recursionLimit
 un:A.units+16*k+200<cLine
theorem vo.mono{k:Nat}(r:vo k A)(h:j<=k):vo j A:=⟨r.hd,by have:=r.dp;lia,by have:=r.un;lia⟩
theorem vo.deeper{k:Nat}(r:vo (k+1) A)(env:Env):vo k (A.deeper env):=
 ⟨r.hd,by have:=r.dp;show A.depth+1+3*k+5<_;lia,by have:=r.un;show A.units+3+16*k+200<_;lia⟩
theorem u7 :(A.under<|.builtin "type.__call__" ⟨.ref C::us,kw⟩).depth=A.depth+1:=by first|rfl|simp[Around.under,Code.weight,Code.isCreation,Code.isGuard,Code.isCaller,Code.frames,Code.isFrame,guardIds]
theorem ud :(A.under<|.builtin "type.__call__" ⟨.ref C::us,kw⟩).units=A.units+1:=by first|rfl|simp[Around.under,Code.cUnits,Code.frames,Code.isFrame]
theorem vo.make{k:Nat}(r:vo (k+1) A)(C:Addr)(us:List Value)(kw:List<|Str×Value):vo k (A.under<|.builtin "type.__call__" ⟨.ref C::us,kw⟩):=
 ⟨r.hd,by have:=r.dp;rw[u7];lia,by have:=r.un;rw[ud];lia⟩
theorem vo.depth{k:Nat}(r:vo k A):A.depth<recursionLimit:=by have:=r.dp;lia
def Nk:TA:=λ_ H Q=>Q [] H
def Nl(ta:TE)(tr:TA):TA:=λσ H Q=>ta σ H λx H1=>tr σ H1 λxs H2=>Q (x::xs) H2
section
variable {te:TE}
theorem kW:PA X [] Nk:=λ_ _ _ _ H Q I h=>wh ⟨[],H,I,.nil,h⟩
abbrev Fb(e:Expr)(es:List Expr)(X:Cx):Prop:=starEach (e::es) X.env=(false,eval e X.env)::starEach es X.env
theorem fH(g:PE X e te)(j:PA X es t)(hs:Fb e es X:=by rfl):PA X (e::es) (Nl te t):=by intro pos J s U H Q I h;rw[hs];show wpAny _ _ (spliced<|(false,eval e X.env)::backTo pos (starEach es X.env)) _ _ s;refine vb<|aS (g J s U H _ I h) λu l x o p r C=>?_;exact rJ (j pos J l U o _ p C) λus s2 T H2 I2 r2 q2=>⟨x::T,H2,I2,.cons r r2,q2⟩
def Nm(t:TA):TE:=λσ H Q=>t σ H λxs H1=>xs.length<=sizeLine/\∀p,H1 p=none->Q (.ref p) (upd H1 p<|.tup xs)
def Nn(t:TA):TE:=λσ H Q=>t σ H λxs H1=>xs.length<=sizeLine/\∀p,H1 p=none->Q (.ref p) (upd H1 p<|.lst xs)
theorem No{x1}(h:PA X es t):PE X (.Tuple es x1 pos) (Nm t):=by intro J s l H Q I o;refine wpAny_Tuple_spliced (aT (h pos J s l H _ I o) λp U ⟨C,g,j,r,z,q⟩=>⟨by rw[<-r.length];exact z,?_⟩);have T:g U.heap.objs.size=none:=j.hok.fresh<|Ap _;refine⟨.ref U.heap.objs.size,upd g U.heap.objs.size<|.tup C,j.laid (t':=U.toks) (λb u e=>oe _ e) (Ap _) ?_,rfl,q _ T⟩;exact⟨z,p,r,⟨_,pR _ rfl,rfl,_,rfl⟩⟩
theorem Np(h:PA X es t):PE X (.List es pos) (Nn t):=by intro J s l H Q I o;refine wpAny_List_spliced (aT (h pos J s l H _ I o) λp U ⟨C,g,j,r,z,q⟩=>⟨by rw[<-r.length];exact z,?_⟩);have T:g U.heap.objs.size=none:=j.hok.fresh<|Ap _;refine⟨.ref U.heap.objs.size,upd g U.heap.objs.size<|.lst C,j.laid (t':=U.toks) (λb u e=>oe _ e) (Ap _) ?_,rfl,q _ T⟩;exact⟨z,p,0,r,pR _ rfl⟩
end
abbrev Sp:=List V->Hp->VK->XK->Prop
abbrev y4:=List Env->Hp->Shared->XK->Value->Shared->Prop
structure u4(P:Program)(w:World)(K:Aj)(mg:Str->Option Value)(base:Heap)(A:Around)(outer:List Env)(s:Shared)(H:Hp):Prop where
 frames:A.frames=some outer
 mod:Mod K mg base
 bs:∀b o,base.get? b=some o->s.heap.get? b=some o/\H b=none
 bsz:base.objs.size<=s.heap.objs.size
 funs:s.heap.FunFrames base outer
 frf:∀b∈zP outer,H b=none
 hok:fb P w H s.heap
 bare:AllBare s.gens
 tk:0<s.toks
def CE(outer:List Env)(P:Program)(w:World)(H:Hp)(s:Shared)(Q:VK)(u:Value)(s':Shared):Prop:=
 ∃v H',s'.os=s.os/\AllBare s'.gens/\Un (zP outer) [] H H' s.heap s'.heap/\fb P w H' s'.heap/\zk v u/\Q v H'/\0<s'.toks
def CR(CX:y4)(outer:List Env)(P:Program)(w:World)(H:Hp)(s:Shared)(Q:VK)(E:XK)(r:Result)(s':Shared):Prop:=
 match r with
 |.ok (.ret u)=>CE outer P w H s Q u s'
 |.ok _=>False
 |.error e=>CX outer H s E e s'
structure bG(P:Program)(w:World)(K:Aj)(mg:Str->Option Value)(base:Heap)(CX:y4)(k:Nat)(f:Addr)(fd:FuncData)(ps:List Str)(sp:Sp):Prop where
 len:∀vs H Q E,sp vs H Q E->vs.length=ps.length
 run:∀(A:Around) (outer:List Env) (s:Shared) (H:Hp) (args:Args) (us:List Value) (vs:List V) (Q:VK) (E:XK),vo k A->u4 P w K mg base A outer s H->BindsTo s fd args (ps.zip us)->zn vs us->sp vs H Q E->
  codeAny (model P w) A (.call (.ref f) args) (CR CX outer P w H s Q E) s
theorem bG.mono{P:Program}{w:World}{K:Aj}{CX:y4}{k:Nat}{f:Addr}{sp:Sp}(F:bG P w K mg base CX j f fd ps sp)(h:j<=k):
 bG P w K mg base CX k f fd ps sp:=⟨F.len,λA I s H args J U Q E g=>F.run A I s H args J U Q E<|g.mono h⟩
theorem bG.imp{P:Program}{w:World}{K:Aj}{CX:y4}{k:Nat}{f:Addr}{sp J:Sp}(F:bG P w K mg base CX k f fd ps sp)
 (h:∀vs H Q E,J vs H Q E->sp vs H Q E):bG P w K mg base CX k f fd ps J:=
 ⟨λvs H Q E q=>F.len vs H Q E<|h _ _ _ _ q,λA I s H args U vs Q E g j l o p=>F.run A I s H args U vs Q E g j l o<|h _ _ _ _ p⟩
theorem u4.make{P:Program}{w:World}{K:Aj}{outer:List Env}(e:u4 P w K mg base A outer s H)(C:Addr)(us:List Value)(kw:List<|Str×Value):
 u4 P w K mg base (A.under<|.builtin "type.__call__" ⟨.ref C::us,kw⟩) outer s H:=⟨by first|exact e.frames|(simpa[Around.under,Code.envs,Code.isFrame,pushEnvs] using e.frames),e.mod,e.bs,e.bsz,e.funs,e.frf,e.hok,e.bare,e.tk⟩
theorem z8.env0(I:z8 X pins σ H s):u4 X.prog X.w X.K X.mg X.base X.A X.stack s H:=
 ⟨I.ok.frames,I.ok.mod,I.bs,AN I.ok.bsz I.sz,I.stack,I.stkFree,I.hok,I.bare,I.tk⟩
theorem z8.after{Q:VK}(I:z8 X pins σ H s)(h:CE X.stack X.prog X.w H s Q u s'):EP X pins σ Q u s':=by obtain⟨v,j,os,bare,un,J,r,q,o⟩:=h;obtain⟨l,g,d,t,U⟩:=s';obtain rfl:U=s.os:=os;exact⟨v,j,I.call (h':=l) (g':=g) (d':=d) (t':=t) (ch:=[]) un J bare λb z=>absurd z (by simp),r,q⟩
def Hi(sp:Sp)(ml:List V)(E:XK)(t:TA):TE:=λσ H Q=>t σ H λvs H1=>sp (vs++ml) H1 Q E
def Nq(C:Addr)(m:Str)(sp:Sp)(ml:List V)(E:XK)(ta:TE)(t:TA):TE:=λσ H Q=>ta σ H λx H1=>∃a dx fs,x=.ref a/\H1 a=some (.ins C dx fs)/\fs.lookup m=none/\
 t σ H1 λvs H2=>sp (x::(vs++ml)) H2 Q E
def Nr(C:Addr)(sp:Sp)(ml:List V)(E:XK)(t:TA):TE:=λσ H Q=>t σ H λvs H1=>∀x dx,H1 x=none->H1 dx=none->dx≠x->
 sp (.ref x::(vs++ml)) (upd (upd H1 dx<|.own x) x<|.ins C dx []) (λv H2=>v=.non/\Q (.ref x) H2) E
def aB(K:Aj)(fd:FuncData)(ps:List Str)(ds:List Value):Prop:=
 ∀(s:Shared) (us:List Value),K.In s.heap->(us++ds).length=ps.length->BindsTo s fd ⟨us,[]⟩ (ps.zip<|us++ds)
theorem aB.all{K:Aj}(h:∀us:List Value,us.length=ps.length->bindArgs fd ⟨us,[]⟩=pure (ps.zip us)):aB K fd ps []:=λs us _ I=>by rw[AE] at I ⊢;exact .of_eq<|h us I
def iG(CX:y4)(X:Cx)(E:XK):Prop:=∀(pins:List<|Addr×Obj) (σ:St) (H:Hp) (s:Shared) (e:Value) (s':Shared),z8 X pins σ H s->CX X.stack H s E e s'->X.xe e s'
section
variable {CX:y4}{k:Nat}{f:Addr}{sp:Sp}{ml:List V}{ds:List Value}{E:XK}{m:Str}{p:Pos}{ta:TE}
theorem Hj{Q:VK}{vs:List V}(F:bG X.prog X.w X.K X.mg X.base CX k f fd ps sp)(g:vo k X.A)(j:aB X.K fd ps ds)(hd:zn ml ds)(l:iG CX X E)
 (I:z8 X pins σ H s) (r:zn vs us) (h:sp (vs++ml) H Q E):wpAny (model X.prog X.w) X.A (call (.ref f) us) (EP X pins σ Q) X.xe s:=by
 have U:zn (vs++ml) (us++ds):=r.append hd;have o:(us++ds).length=ps.length:=by rw[<-U.length];exact F.len _ _ _ _ h
 refine wpAny_call<|codeAny_mono (F.run X.A X.stack s H ⟨us,[]⟩ (us++ds) (vs++ml) Q E g I.env0 (j s us I.kIn o) U h) λr p J=>?_;cases r with
 |error e=>exact l pins σ H s e p I J
 |ok t=>
  cases t with|ret u=>exact I.after J|next=>exact False.elim J|brk=>exact False.elim J|cont=>exact False.elim J
abbrev Fc(p:Pos)(es:List Expr)(X:Cx):Prop:=(backTo p<|starEach es X.env).any (·.1)=false
theorem Nt(F:bG X.prog X.w X.K X.mg X.base CX k f fd ps sp)(l:vo k X.A)(o:Gl X x)(C:X.mg x=some (.ref f))(T:PySem.W.keepIn X.K (.ref f)=true)(hb:aB X.K fd ps ds)(hd:zn ml ds)(hx:iG CX X E)
 (ha:PA X (e::es) t) (U:Fe x:=by decide) (he:Fb e es X:=by rfl) (g:Fc pos es X:=by rfl):
 PE X (.Call (.Name x p) (e::es) [] pos) (Hi sp ml E t):=by
 intro J s σ H Q I h;refine wpAny_Call_Name_kw<|ox I o C ?_ U;refine Dz (h₀:=X.base) I.ok.mod.kin T (rJ (ha pos J s σ H _ I h) λus s1 vs H1 j r q=>⟨j.kIn,?_⟩) he g;exact Hj F l hb hd hx j r q
theorem Nu{pl:Sem Bool}(he:PE X o ta)(c:Cls X.K C)(j:DP X.K C m f)(F:bG X.prog X.w X.K X.mg X.base CX k f fd ps sp)(hr:vo k X.A)(hb:aB X.K fd ps ds)(hd:zn ml ds)(hx:iG CX X E)(ha:PA X (e::es) t)
 (U:Fb e es X:=by rfl) (g:Fc pos es X:=by rfl)
 (ht:eval (.Call (.Attribute o m apos) (e::es) [] pos) X.env=(do
  let p <-eval o X.env
  standAt apos.atName
  let (f,first) <-holding [p] (getMethod p m pl)
  callWith pos f first (backTo pos<|starEach (e::es) X.env) (backToKw pos<|keywordEach [] X.env)):=by rfl):
 PE X (.Call (.Attribute o m apos) (e::es) [] pos) (Nq C m sp ml E ta t):=by
 intro J s T H Q I h;refine PySem.W.methodCall_KW (pl:=pl) (aT (he J s T H _ I h) λu s1 ψ=>?_) ht;obtain⟨x,H1,I1,rx,a,dx,fs,ex,ea,l,q⟩:=ψ;subst ex;obtain rfl:u=Value.ref a:=rx;refine uP I1 ea c j l ?_;refine Dz (first:=[.ref a]) (h₀:=X.base) I.ok.mod.kin j.kp (rJ (ha pos J s1 T H1 _ I1 q) λus s2 vs H2 I2 r q2=>⟨I2.kIn,?_⟩) U g;exact Hj (us:=.ref a::us) (vs:=.ref a::vs) F hr hb hd hx I2 (.cons rfl r) q2
structure Mk(K:Aj)(C f:Addr):Prop where
 makes:PySem.W.makesIn K C=true
 init:PySem.W.findIn K (.ref C) "__init__"=some (some<|.ref f)
 fn:PySem.W.isFn K (.ref f)=true
 kp:PySem.W.keepIn K (.ref C)=true
theorem Nv{Q:VK}{vs:List V}(M:Mk X.K C f)(F:bG X.prog X.w X.K X.mg X.base CX k f fd ps sp)(l:vo (k+1) X.A)(o:aB X.K fd ps ds)(hd:zn ml ds)
 (p:iG CX X E) (I:z8 X pins σ H s) (r:zn vs us)
 (h:∀x dx,H x=none->H dx=none->dx≠x->sp (.ref x::(vs++ml)) (upd (upd H dx<|.own x) x<|.ins C dx []) (λv H2=>v=.non/\Q (.ref x) H2) E):
 wpAny (model X.prog X.w) X.A (call (.ref C) us) (EP X pins σ Q) X.xe s:=by
 have g:=h (s.heap.objs.size+1) s.heap.objs.size (I.hok.fresh<|B6 _) (I.hok.fresh<|Ap _)<|A5<|Bk _;have U:=z8.made (C:=C) I;have j:zn (V.ref (s.heap.objs.size+1)::(vs++ml)) (Value.ref (s.heap.objs.size+1)::(us++ds)):=.cons rfl<|r.append hd;have t:(Value.ref (s.heap.objs.size+1)::us++ds).length=ps.length:=by have e:=j.length;rw[F.len _ _ _ _ g] at e;exact e.symm
 refine wpAny_call (Nd (f:=f) I.kIn M.makes M.init (beq_iff_eq.mp M.fn) (codeAny_mono (F.run _ X.stack _ _ ⟨Value.ref (s.heap.objs.size+1)::us,[]⟩ (Value.ref (s.heap.objs.size+1)::(us++ds)) _ _ E (l.make C us [])
  (U.env0.make C us []) (o _ (Value.ref (s.heap.objs.size+1)::us) U.kIn t) j g) λr T J=>?_))
 cases r with
 |error e=>exact p pins σ _ _ e T U J
 |ok fl=>
  cases fl with
  |ret u=>
   obtain⟨v,H',I3,rv,ev,q3⟩:=U.after J;subst ev;exact⟨rv,⟨V.ref<|s.heap.objs.size+1,H',I3,rfl,q3⟩⟩
  |next=>exact False.elim J
  |brk=>exact False.elim J
  |cont=>exact False.elim J
theorem Nw(M:Mk X.K C f)(F:bG X.prog X.w X.K X.mg X.base CX k f fd ps sp)(l:vo (k+1) X.A)(o:Gl X x)(T:X.mg x=some (.ref C))(hb:aB X.K fd ps ds)(hd:zn ml ds)(hx:iG CX X E)
 (ha:PA X (e::es) t) (U:Fe x:=by decide) (he:Fb e es X:=by rfl) (g:Fc pos es X:=by rfl):
 PE X (.Call (.Name x p) (e::es) [] pos) (Nr C sp ml E t):=by
 intro J s σ H Q I h;refine wpAny_Call_Name_kw<|ox I o T ?_ U;refine Dz (h₀:=X.base) I.ok.mod.kin M.kp (rJ (ha pos J s σ H _ I h) λus s1 vs H1 j r q=>⟨j.kIn,?_⟩) he g;exact Nv M F l hb hd hx j r q
end
section
variable {CX:y4}{k:Nat}{f:Addr}{ks:List Str}{sp:Sp}{E:XK}{m:Str}{p:Pos}{nq:List Keyword}{te ta:TE}{tk:TA}{nm:Option Str}
variable {g:List Value->List Value->List Value}{gV:List V->List V->List V}
end
structure ag(N P:List Str)(sc:Scope):Prop where
 kind:sc.kind=.function
 co:sc.isCoroutine=false
 gen:sc.isGenerator=false
 nd:N.Nodup
 pre:N.take P.length=P
 par:∀x∈P,sc.names.lookup x=some .local\/sc.names.lookup x=some .cell
 nofree:∀y∈sc.names,y.2≠.free
theorem o6{kindOf:Str->Option NameKind}{x:Str}:∀{I:List<|Str×Value} {m:Str->Option Value},(∀v,(x,v)∉I)->bindL kindOf I m x=m x
 |[],_,_=>rfl
 |(n,v)::r,m,h=>by
  unfold bindL;rw[o6 λw hw=>h w<|Ab _ hw];split
  ·have:x≠n:=by rintro rfl;exact h v Ak
   simp[this]
  ·rfl
theorem oX{kindOf:Str->Option NameKind}{x:Str}:∀{I:List<|Str×Value} {m:Str->Option Value},(∀v,(x,v)∉I)->bindC kindOf I m x=m x
 |[],_,_=>rfl
 |(n,v)::r,m,h=>by
  unfold bindC;rw[oX λw hw=>h w<|Ab _ hw];split
  ·rfl
  ·have:x≠n:=by rintro rfl;exact h v Ak
   simp[this]
theorem oJ{kindOf:Str->Option NameKind}{x:Str}{v:Value}:∀{P:List Str} {vs:List Value} {i:Nat} {m:Str->Option Value},P.Nodup->P[i]?=some x->vs[i]?=some v->kindOf x=some .local->
 bindL kindOf (P.zip vs) m x=some v
 |[],_,_,_,_,h,_,_=>by simp at h
 |_::_,[],_,_,_,_,h,_=>by simp at h
 |p::P,w::vs,0,m,nd,I,J,U=>by simp at I J;subst I;subst J;show bindL kindOf ((p,w)::P.zip vs) m p=_;unfold bindL;rw[o6 λv g=>(AH.mp nd).1 (Ds g).1,AC U];simp
 |p::P,w::vs,i+1,m,nd,I,J,U=>by show bindL kindOf ((p,w)::P.zip vs) m x=_;unfold bindL;exact oJ (i:=i) (AH.mp nd).2 (by simpa using I) (by simpa using J) U
theorem oC{kindOf:Str->Option NameKind}{x:Str}{v:Value}:∀{P:List Str} {vs:List Value} {i:Nat} {m:Str->Option Value},P.Nodup->P[i]?=some x->vs[i]?=some v->kindOf x≠some .local->
 bindC kindOf (P.zip vs) m x=some v
 |[],_,_,_,_,h,_,_=>by simp at h
 |_::_,[],_,_,_,_,h,_=>by simp at h
 |p::P,w::vs,0,m,nd,I,J,U=>by simp at I J;subst I;subst J;show bindC kindOf ((p,w)::P.zip vs) m p=_;unfold bindC;rw[oX λv g=>(AH.mp nd).1 (Ds g).1,AB U];simp
 |p::P,w::vs,i+1,m,nd,I,J,U=>by show bindC kindOf ((p,w)::P.zip vs) m x=_;unfold bindC;exact oC (i:=i) (AH.mp nd).2 (by simpa using I) (by simpa using J) U
def start(N:List Str)(vs:List V):St:=vs.map some++List.replicate (N.length-vs.length) none
def g9(CX:y4)(P:Program)(w:World)(K:Aj)(mg:Str->Option Value)(base:Heap)(N:List Str)(eA:Str)(scope:Scope)(f:Addr)(cd:Value)(A:Around)(outer:List Env)(s:Shared)(H:Hp)(E:XK):Cx where
 prog:=P
 w:=w
 K:=K
 mg:=mg
 base:=base
 A:=A.deeper<|envOfC eA scope s.heap.objs.size f cd
 N:=N
 s₀:=s
 H₀:=H
 env:=envOfC eA scope s.heap.objs.size f cd
 outer:=outer
 stack:=envOfC eA scope s.heap.objs.size f cd::outer
 ex:=[]
 calm:=true
 fn:=λ_=>true
 pn:=[]
 xe:=λe s'=>wpAny (model P w) (A.deeper<|envOfC eA scope s.heap.objs.size f cd) (leaving (envOfC eA scope s.heap.objs.size f cd) e) (λ_ I=>CX outer H s E e I) (λe' I=>CX outer H s E e' I) s'
theorem r9{I:Scope}(h:I.names.lookup x=some .cell):∃c,(cellsFrom n I.names []).lookup x=some c:=by have q:=PySem.W.cellsFrom_some I.names n []<|.inl h;exact Option.isSome_iff_exists.mp q
theorem yh{CX:y4}{P:Program}{w:World}{K:Aj}{N:List Str}{f:Addr}{cd:Value}{outer:List Env}{C:Shared}{E:XK}{vs:List V}
 (S:ag N ps scope) (hd:A.handled=none) (J:u4 P w K mg base A outer s H) (hl:vs.length=ps.length) (r:zn vs us)
 (x:InCallC s s.heap.objs.size (bindL (envOfC eA scope s.heap.objs.size f cd).kindOf (ps.zip us) λ_=>none) (cellsFrom (s.heap.objs.size+1) scope.names []) (bindC (envOfC eA scope s.heap.objs.size f cd).kindOf (ps.zip us) λ_=>none) C) (ht:0<C.toks):
 z8 (g9 CX P w K mg base N eA scope f cd A outer s H E) [] (start N vs) H C:=by
 have a0:ps.length<=N.length:=by have:=BL List.length S.pre;rw[AQ] at this;lia
 obtain⟨o,tk,rfl,T⟩:=x.done;have U:∀b:Addr,b∉(g9 CX P w K mg base N eA scope f cd A outer s H E).ex:=λb z=>absurd (show b∈([]:List Addr) from z) (by simp);refine⟨⟨J.mod,S.kind,rfl,rfl,Ap _,λy z c o I=>?_,λy g=>?_,λy c _ h=>?_,λ_=>hd,Around.frames_deeper J.frames,.inr ⟨rfl,rfl⟩,λb z=>absurd z<|U b,J.bs,J.bsz,λb _ _=>U b,λb z=>absurd z<|U b,J.funs,J.frf⟩,
  rfl,J.bare,Un.kept T,⟨_,x.toInCall.ns,λi y v o I h3=>?_⟩,λy c h=>⟨_,x.cell y c h⟩,J.hok.fresh<|Ap _,λy c h=>?_,λp j=>absurd (show p∈([]:List<|Addr×Obj) from j) (by simp),J.hok.kept T,?_,ht⟩
 ·exact name_of_addr x.apart (BD o)<|BD I
 ·have g:scope.names.lookup y=some .cell\/scope.names.lookup y=some .free:=g;rcases g with g|g
  ·exact r9 g
  ·exact absurd rfl<|S.nofree _<|BD g
 ·exact Bf<|x.above y c<|BD h
 ·have t:i<vs.length:=by
   unfold start at I;by_cases t:i<vs.length
   ·exact t
   ·rw[Ax (by simpa using t)] at I;rw[Cr] at I;split at I<;>cases I
  have ha:vs[i]?=some v:=by unfold start at I;rw[AJ (by simpa using t),Aq] at I;cases e:vs[i]? with|none=>rw[e] at I;cases I|some a=>rw[e] at I;cases I;rfl
  obtain⟨u,hu,rv⟩:=r.get ha;have j:ps[i]?=some y:=by rw[<-S.pre,List.getElem?_take_of_lt (by lia)];exact o
  have l:ps.Nodup:=by rw[<-S.pre];exact S.nd.sublist<|DH _ _
  refine⟨u,rv,?_⟩;rcases S.par y (AF j) with k|k
  ·exact .inl ⟨k,oJ l j hu k⟩
  ·obtain⟨c,e⟩:=r9 (n:=s.heap.objs.size+1) k;refine .inr ⟨.inl k,c,e,?_⟩;have q:=x.cell y c e;rw[oC l j hu (by show scope.names.lookup y≠_;rw[k];decide)] at q;exact q
 ·exact J.hok.fresh<|Bf<|x.above y c<|BD h
 ·unfold start;show _=N.length;rw[Ad,Ah,Cd];lia
theorem Hk{CX:y4}{P:Program}{w:World}{K:Aj}{k:Nat}{f:Addr}{U:Arguments}{dV kV ct:Value}
 {N:List Str} {sp:Sp} (lk:K.lookup f=some ⟨oc,od,.func<|PySem.W.fnOf name eA U body scope dV kV hE pm an eK ct,mv⟩) (a0:PySem.W.codeIn K eK eA=true) (S:ag N ps scope)
 (len:∀vs H Q E,sp vs H Q E->vs.length=ps.length)
 (j:∀(A:Around) (outer:List Env) (s:Shared) (H:Hp) (vs:List V) (Q:VK) (E:XK),vo k (A.deeper<|envOfC eA scope s.heap.objs.size f eK)->sp vs H Q E->
  ∃t,jP (g9 CX P w K mg base N eA scope f eK A outer s H E) body t/\t { nx:=λ_ H'=>Q .non H',rt:=Q } (start N vs) H):
 bG P w K mg base CX (k+1) f (PySem.W.fnOf name eA U body scope dV kV hE pm an eK ct) ps sp:=by
 refine⟨len,λA outer s H args us vs Q E hr p hb r T=>?_⟩;have hl:=len _ _ _ _ T;have KX:K.In s.heap:=p.mod.kin.keeps λb o e=>(p.bs b o e).1;have a1:s.heap.NoLimit:=p.mod.nolimit.keeps λb o e=>(p.bs b o e).1;have l:∀y∈ps.zip us,scope.names.lookup y.1=some .local\/(scope.names.lookup y.1=some .cell/\((cellsFrom (s.heap.objs.size+1) scope.names []).lookup y.1).isSome=true):=λ ψ hy=>by
  obtain⟨n,v⟩:=ψ
  rcases S.par n (Ds hy).1 with q|q
  ·exact .inl q
  ·exact .inr ⟨q,PySem.W.cellsFrom_some _ _ _<|.inl q⟩
 refine codeAny_call_function hr.depth (KX _ _ lk) rfl S.co S.gen rfl (PySem.W.codeRec_of KX a0)<|hb _ _ _ _ ?_;refine jt p.tk<|wpAny_newFunctionEnv_cells S.kind l λa3 he s1 x a2=>?_;subst he;refine⟨a1.keeps x.toInCall.keep,codeAny_func ?_⟩;obtain⟨t,ht,hq⟩:=j A outer s H vs Q E (hr.deeper _) T;have I:z8 (g9 CX P w K mg base N eA scope f eK A outer s H E) [] (start N vs) H s1:=yh S hr.hd p hl r x a2;refine AX (ht [] s1 (start N vs) H _ I hq) (λfl s' C=>?_) λe s' C=>C;have x0:∀{g:St} {H':Hp} {v:V} {u:Value},z8 (g9 CX P w K mg base N eA scope f eK A outer s H E) [] g H' s'->zk v u->Q v H'->CE outer P w H s Q u s':=
  λ{g H' v u} J rv q=>⟨v,H',J.os,J.bare,J.base,J.hok,rv,q,J.tk⟩
 cases fl with
 |ret u=>
  obtain⟨v,g,H',J,rv,q⟩:=C;exact x0 J rv q
 |next=>
  obtain⟨g,H',J,q⟩:=C;exact x0 (v:=V.non) (u:=Value.none) J rfl q
 |brk=>
  obtain⟨_,_,_,q⟩:=C;exact False.elim q
 |cont=>
  obtain⟨_,_,_,q⟩:=C;exact False.elim q
section
variable {p:Pos}{id T:String}{r:List V->Hp->VK->Prop}
def Hl(r:List V->Hp->VK->Prop)(t:TA):TE:=λσ H Q=>t σ H λvs H1=>r vs H1 Q
theorem uD(hc:jo X (.builtin id) r)(l:Gl X x)(o:X.mg x=none)(C:bootBuiltins x=some (.builtin id))(T:PA X (e::es) t)(hn:x ≠ "__name__" := by decide)(U:Fe x:=by decide)
 (he:Fb e es X:=by rfl) (g:Fc pos es X:=by rfl):PE X (.Call (.Name x p) (e::es) [] pos) (Hl r t):=by
 intro J s j H Q I h;refine wpAny_Call_Name_kw<|gJ I l o C ?_ hn U;exact PyProof.Rows.callWith_builtin1 (rJ (T pos J s j H _ I h) λus s1 vs H1 I1 r1 q1=>hc J s1 j H1 vs us Q I1 r1 q1) he g
theorem iY(hc:jo X (.type T) r)(l:Gl X x)(o:X.mg x=none)(C:bootBuiltins x=some (.type T))(ha:PA X (e::es) t)(hn:x ≠ "__name__" := by decide)(U:Fe x:=by decide)
 (he:Fb e es X:=by rfl) (g:Fc pos es X:=by rfl):PE X (.Call (.Name x p) (e::es) [] pos) (Hl r t):=by
 intro J s j H Q I h;refine wpAny_Call_Name_kw<|gJ I l o C ?_ hn U;exact CL (rJ (ha pos J s j H _ I h) λus s1 vs H1 I1 r1 q1=>hc J s1 j H1 vs us Q I1 r1 q1) he g
end
section
variable [DecidableEq κ]
def bM(kvs:List<|κ×V)(k:κ):Option V:=(kvs.find? λI=>decide<|I.1=k).map (·.2)
def dr(kvs:List<|κ×V)(k:κ)(v:V):List (κ×V):=
 if (kvs.any λI=>decide<|I.1=k)=true then kvs.map (λI=>if I.1=k then(I.1,v) else I) else kvs++[(k,v)]
theorem mU{p:κ×V}{r:List<|κ×V}{k:κ}(e:p.1=k):bM (p::r) k=some p.2:=by simp[bM,BB,e]
theorem mL{p:κ×V}{r:List<|κ×V}{k:κ}(e:¬p.1=k):bM (p::r) k=bM r k:=by simp[bM,BB,e]
theorem sF(k:κ):∀kvs:List (κ×V),(kvs.any λI=>decide<|I.1=k)=(bM kvs k).isSome
 |[]=>rfl
 |p::r=>by
  rw[Cn];by_cases e:p.1=k
  ·simp only[mU e,Av e,Bool.true_or,Option.isSome_some]
  ·rw[mL e,Au e,Bool.false_or];exact sF k r
theorem dX(kvs:List<|κ×V)(k:κ)(v:V):(dr kvs k v).length<=kvs.length+1:=by
 unfold dr;split
 ·rw[Ah];lia
 ·rw[Ad,AK,Dt];lia
theorem dN.isSome_eq{o:Option V}{u:Option Value}(r:dN o u):o.isSome=u.isSome:=by
 cases o with
 |none=>cases u with|none=>rfl|some _=>exact(show False from r).elim
 |some _=>cases u with|none=>exact(show False from r).elim|some _=>rfl
theorem KV.val{kvs:List<|κ×V}{vs:List<|κ×Value}(r:KV kvs vs)(k:κ):dN (bM kvs k) (valueAt vs k):=by
 unfold KV at r
 induction r with
 |nil=>exact True.intro
 |@cons p q l I h t g=>
  obtain⟨U,j⟩:=h;by_cases e:p.1=k
  ·have J:q.1=k:=U.symm.trans e;have b:valueAt (q::I) k=some q.2:=by simp[valueAt,BB,J]
   rw[mU e,b];exact j
  ·have J:¬q.1=k:=λz=>e<|U.trans z;have b:valueAt (q::I) k=valueAt I k:=by simp[valueAt,BB,J]
   rw[mL e,b];exact g
theorem KV.any{kvs:List<|κ×V}{vs:List<|κ×Value}(r:KV kvs vs)(k:κ):(kvs.any λI=>decide<|I.1=k)=vs.any λI=>decide (I.1=k):=by
 unfold KV at r
 induction r with|nil=>rfl|cons h t J=>rw[Cn,Cn,J,h.1]
theorem KV.repl{kvs:List<|κ×V}{vs:List<|κ×Value}(r:KV kvs vs)(k:κ){y:V}(U:zk y u):
 KV (kvs.map λI=>if I.1=k then(I.1,y) else I) (vs.map λI=>if I.1=k then(I.1,u) else I):=by
 unfold KV at r ⊢
 induction r with
 |nil=>exact .nil
 |@cons p q l o h t g=>
  rw[AG,AG];refine .cons ?_ g;obtain⟨J,j⟩:=h;by_cases e:p.1=k
  ·rw[AC e,AC<|J.symm.trans e];exact⟨J,U⟩
  ·rw[AB e,AB λz=>e<|J.trans z];exact⟨J,j⟩
theorem KV.put{kvs:List<|κ×V}{vs:List<|κ×Value}(r:KV kvs vs)(k:κ){y:V}(I:zk y u):KV (dr kvs k y) (stored vs k u):=by
 unfold dr stored;rw[r.any k];by_cases e:(vs.any λJ=>decide<|J.1=k)=true
 ·rw[AC e,AC e];exact r.repl k I
 ·rw[AB e,AB e];exact Paired.snoc r ⟨rfl,I⟩
theorem KV.length{kvs:List<|κ×V}{vs:List<|κ×Value}(r:KV kvs vs):kvs.length=vs.length:=Paired.length r
end
theorem iy{P:Program}{w:World}{k:j9}(r:zk (kV k) u):(xo P w).is k u=true:=by
 cases k with
 |inl i=>obtain⟨t,e⟩:=(show ∃t,u=Value.int i t from r);subst e;exact tM P w i t
 |inr x=>obtain⟨t,e⟩:=(show ∃t,u=Value.str x t from r);subst e;exact sO P w x t
theorem ny{P:Program}{w:World}:∀{ks:List j9} {us:List Value},zn (ks.map kV) us->ItemsAre (xo P w) ks us
 |[],_,r=>by rw[Dh] at r;cases r;exact .nil
 |k::ks,_,r=>by rw[AG] at r;cases r with|cons h t=>exact .cons (iy h)<|ny t
abbrev KT(H:Hp):List (List j9×V)->List (List j9×Addr×Value)->Prop:=Paired λp q=>p.1=q.1/\H q.2.1=some (.tup<|p.1.map kV)/\zk p.2 q.2.2
theorem KT.val{kvs:List<|List j9×V}{xs:List<|List j9×Addr×Value}(r:KT H kvs xs)(k:List j9):dN (bM kvs k) ((atKey xs k).map (·.2)):=by
 induction r with
 |nil=>exact True.intro
 |@cons p q l I h t g=>
  obtain⟨U,_,j⟩:=h;by_cases e:p.1=k
  ·have J:q.1=k:=U.symm.trans e;have b:atKey (q::I) k=some q.2:=by simp[atKey,BB,J]
   rw[mU e,b];exact j
  ·have J:¬q.1=k:=λz=>e<|U.trans z;have b:atKey (q::I) k=atKey I k:=by simp[atKey,BB,J]
   rw[mL e,b];exact g
theorem KT.repl{kvs:List<|List j9×V}{xs:List<|List j9×Addr×Value}(r:KT H kvs xs)(k:List j9){y:V}(g:zk y u):
 KT H (kvs.map λJ=>if J.1=k then(J.1,y) else J) (xs.map<|putAt k u):=by
 induction r with
 |nil=>exact .nil
 |@cons p q o C h t j=>
  rw[AG,AG];refine .cons ?_ j;obtain⟨I,U,l⟩:=h;unfold putAt;by_cases e:p.1=k
  ·rw[AC e,AC<|I.symm.trans e];exact⟨I,U,g⟩
  ·rw[AB e,AB λz=>e<|I.trans z];exact⟨I,U,l⟩
theorem KT.put{kvs:List<|List j9×V}{xs:List<|List j9×Addr×Value}(r:KT H kvs xs)(k:List j9){b:Addr}{y:V}(J:H b=some (.tup<|k.map kV))(I:zk y u):
 KT H (dr kvs k y) (storedH xs k b u):=by
 have e:(kvs.any λU=>decide<|U.1=k)=(atKey xs k).isSome:=by rw[sF,(r.val k).isSome_eq,CM]
 unfold dr storedH;rw[e];by_cases q:(atKey xs k).isSome=true
 ·rw[AC q,AC q];exact r.repl k I
 ·rw[AB q,AB q];exact Paired.snoc r ⟨rfl,J,I⟩
theorem KT.keeps{kvs:List<|List j9×V}{xs:List<|List j9×Addr×Value}(r:KT H kvs xs)(I:∀b ys,H b=some (.tup ys)->H' b=some (.tup ys)):KT H' kvs xs:=
 ER r λ_ _ z=>⟨z.1,I _ _ z.2.1,z.2.2⟩
section
variable {P:Program}{w:World}{a:Addr}
theorem Hm{u:HO}(ok:fb P w H h)(e:Rd H a u):xu P w H h a u:=e.ok ok
theorem oQ{kvs:List<|j9×V}(ok:fb P w H h)(e:Rd H a<|.dK kvs):kvs.length<=sizeLine/\(a==sysModules)=false/\∃vs,KV kvs vs/\h.DictOf (xo P w) a vs:=
 show xu P w H h a (.dK kvs) from Hm ok e
theorem Ho{kvs:List<|j9×V}(ok:fb P w H h)(e:H a=some (.dK kvs)):kvs.length<=sizeLine/\(a==sysModules)=false/\∃vs,KV kvs vs/\h.DictOf (xo P w) a vs:=oQ ok<|.inl e
theorem lF{ks:List j9}(ok:fb P w H h)(e:H a=some (.tup<|ks.map kV)):(tupleKind<|xo P w).is h ks a:=by obtain⟨_,I,r,o,J,U,n,g⟩:=(show xu P w H h a (.tup<|ks.map kV) from ok a _ e);exact⟨o,I.toArray,n,J,U,g,by simpa using ny r⟩
theorem tJ{kvs:List<|List j9×V}(ok:fb P w H h)(e:Rd H a<|.dT kvs):kvs.length<=sizeLine/\(a==sysModules)=false/\
 ∃xs,KT H kvs xs/\h.DictOfH (tupleKind<|xo P w) a xs:=by
 obtain⟨z,y,xs,r,o,U,g,j,C,T,h4,h5⟩:=(show xu P w H h a (.dT kvs) from Hm ok e);refine⟨z,y,xs,r,o,U,g,j,C,T,h4,λx I=>?_,h5⟩;have all:∀{l:List<|List j9×V} {m:List<|List j9×Addr×Value},KT H l m->∀x∈m,(tupleKind<|xo P w).is h x.1 x.2.1:=by
  intro l m q
  induction q with
  |nil=>intro x I;exact nomatch I
  |@cons p q ps qs J t ih=>
   intro x I;rcases Ao.mp I with e|I
   ·subst e;exact lF ok (by rw[<-J.1];exact J.2.1)
   ·exact ih x I
 exact all r x I
theorem Nx{kvs:List<|List j9×V}(ok:fb P w H h)(e:H a=some (.dT kvs)):kvs.length<=sizeLine/\(a==sysModules)=false/\
 ∃xs,KT H kvs xs/\h.DictOfH (tupleKind<|xo P w) a xs:=tJ ok<|.inl e
end
def ot(H:Hp)(a:Addr)(y:V)(r:Option V):Prop:=
 (∃kvs k,Rd H a (.dK kvs)/\y=kV k/\r=bM kvs k)\/∃kvs k b,Rd H a (.dT kvs)/\y=.ref b/\H b=some (.tup<|k.map kV)/\r=bM kvs k
def Hq(H:Hp)(a:Addr)(y v:V)(H':Hp):Prop:=
 (∃kvs k,H a=some (.dK kvs)/\y=kV k/\kvs.length<sizeLine/\H'=upd H a (.dK<|dr kvs k v))\/
 ∃kvs k b,H a=some (.dT kvs)/\y=.ref b/\H b=some (.tup<|k.map kV)/\kvs.length<sizeLine/\H'=upd H a (.dT<|dr kvs k v)
theorem ot.k{a:Addr}{kvs:List<|j9×V}{k:j9}(e:H a=some (.dK kvs)):ot H a (kV k) (bM kvs k):=.inl ⟨kvs,k,.inl e,rfl,rfl⟩
section
variable {a:Addr}{y v:V}{r:Value}{o:Option V}
theorem z8.big(I:z8 X pins σ H s):sysModules<s.heap.objs.size:=by have h:mainGlobals<s.heap.objs.size:=(I.mod.glob.keeps I.bk).lt;exact Nat.lt_trans (by decide) h
theorem xZ(hu:A.units+1<cLine)(I:z8 X pins σ H s)(g:ot H a y<|some v)(T:zk y u)(h:∀U s',z8 X pins σ H s'->zk v U->Q U s'):
 wpAny (model X.prog X.w) A (getItem (.ref a) u) Q E s:=by
 rcases g with⟨j,k,e,r,l⟩|⟨j,k,b,e,r,eb,l⟩
 ·subst r;obtain⟨z,hd,vs,rel,t⟩:=oQ I.hok e;obtain⟨U,hw,J⟩:=EV (v:=v) (o:=valueAt vs k) (by rw[l];exact rel.val k);exact wpAny_getItem_of (iy T) t.mapOf hw<|h U _ (I.tok _) J
 ·subst r;cases (show u=Value.ref b from T);obtain⟨z,hd,xs,rel,t⟩:=tJ I.hok e;obtain⟨U,hw,J⟩:=EV (v:=v) (o:=(atKey xs k).map (·.2)) (by rw[l];exact rel.val k);obtain⟨p,hp,C⟩:=Aw.mp hw;refine wpAny_getItem_heap (tupleKind_room_in1 hu) (lF I.hok eb) t hp ?_;rw[C];exact h U _ (I.tok _) J
theorem Ny(r:A.units+1<cLine)(I:z8 X pins σ H s)(g:ot H a y o)(p:zk y u)(h:∀s',z8 X pins σ H s'->Q (.bool o.isSome) s'):
 wpAny (model X.prog X.w) A (compareOp .In u<|.ref a) Q E s:=by
 rcases g with⟨J,k,e,U,l⟩|⟨J,k,b,e,U,eb,l⟩
 ·subst U;obtain⟨z,hd,t,rel,j⟩:=oQ I.hok e;refine wpAny_in_of (iy p) hd j.mapOf ?_;rw[<-(rel.val k).isSome_eq,<-l];exact h _<|I.tok _
 ·subst U;cases (show u=Value.ref b from p);obtain⟨z,hd,C,rel,j⟩:=tJ I.hok e;refine wpAny_in_heap (tupleKind_room_in1 r) (lF I.hok eb) hd j ?_;have q:=(rel.val k).isSome_eq;rw[CM] at q;rw[<-q,<-l];exact h _<|I.tok _
theorem Nz(r:A.units+1<cLine)(I:z8 X pins σ H s)(g:ot H a y o)(p:zk y u)(h:∀s',z8 X pins σ H s'->Q (.bool<|!o.isSome) s'):
 wpAny (model X.prog X.w) A (compareOp .NotIn u<|.ref a) Q E s:=by
 rcases g with⟨J,k,e,U,l⟩|⟨J,k,b,e,U,eb,l⟩
 ·subst U;obtain⟨z,hd,t,rel,j⟩:=oQ I.hok e;refine wpAny_notIn_of (iy p) hd j.mapOf ?_;rw[<-(rel.val k).isSome_eq,<-l];exact h _<|I.tok _
 ·subst U;cases (show u=Value.ref b from p);obtain⟨z,hd,C,rel,j⟩:=tJ I.hok e;refine wpAny_notIn_heap (tupleKind_room_in1 r) (lF I.hok eb) hd j ?_;have q:=(rel.val k).isSome_eq;rw[CM] at q;rw[<-q,<-l];exact h _<|I.tok _
theorem oj{J:HO}(I:z8 X pins σ H s)(U:Bs<|H a)(hs:Heap.SameBut a s.heap h')(g:∃q,h'.get? a=some q)(new:xu X.prog X.w (upd H a J) h' a J)(l:0<t':=by walk_at "t"):
 z8 X pins σ (upd H a J) { s with heap:=h',toks:=t' }:=
 I.write (x:=a) (e:=a) U (.inl rfl) (λb q j z=>(hs.2 b j).trans z) g new
theorem Hr{P:Program}{w:World}{kvs:List<|j9×V}{vs:List<|j9×Value}(z:kvs.length<=sizeLine)(hd:(a==sysModules)=false)(rel:KV kvs vs)(I:h'.DictOf (xo P w) a vs):
 xu P w H' h' a (.dK kvs):=⟨z,hd,vs,rel,I⟩
theorem yX{Q:Unit->Shared->Prop}(hu:A.units+1<cLine)(I:z8 X pins σ H s)(g:Hq H a y v H')(ry:zk y u)(rv:zk v r)(h:∀s',z8 X pins σ H' s'->Q () s'):
 wpAny (model X.prog X.w) A (setItem (.ref a) u r) Q E s:=by
 rcases g with⟨J,k,e,o,l,p⟩|⟨J,k,b,e,o,eb,l,p⟩
 ·subst o p;obtain⟨z,hd,vs,rel,t⟩:=Ho I.hok e;have C:vs.length<=sizeLine:=by rw[<-rel.length];exact z
  have T:(dr J k v).length<=sizeLine:=by have:=dX J k v;lia
  refine wpAny_setItem_pairs (hsz:=C) (iy ry) t λh' U hs=>h _ ?_;have he:∃q,h'.get? a=some q:=let ⟨q,_,_,j,_⟩:=U;⟨q,j⟩;exact oj I (by rw[e];exact True.intro) hs he<|Hr T hd (rel.put k rv) U
 ·subst o p;cases (show u=Value.ref b from ry);obtain⟨z,hd,xs,rel,t⟩:=Nx I.hok e;have C:xs.length<=sizeLine:=by rw[<-Paired.length rel];exact z
  have T:(dr J k v).length<=sizeLine:=by have:=dX J k v;lia
  refine wpAny_setItem_heap (hsz:=C) (tupleKind_room_in1 hu) (lF I.hok eb) t λh' U hs=>h _ ?_;obtain⟨q,es,ep,j,h2,h3,h4,_,h5⟩:=U;refine oj I (by rw[e];exact True.intro) hs ⟨q,j⟩ ⟨T,hd,_,(rel.put k eb rv).keeps λc ys ec=>?_,q,es,ep,j,h2,h3,h4,h5⟩;rw[qu<|Lu ec e λz=>nomatch z];exact ec
end
section
variable {a:Addr}{kvs:List<|j9×V}{k:j9}
end
def FQ(i:Expr):Prop:=∀I J,subscripted i false I J=operate [I,J] (getItem I J)
theorem NA{w:World}{slice:Expr}{T id:String}
 (t:typeLookup (.type T) "__getitem__" = pure (some<|.builtin id)) (hs:FQ slice)
 (h:wpAny (model prog w) A (eval value env) (λo U=>wpAny (model prog w) A (eval slice env) (λi I=>I.TypeIs o T/\wpAny (model prog w) A (getItem o i) Q E I) E U) E s):
 wpAny (model prog w) A (eval (.Subscript value slice pos) env) Q E s:=by
 refine Subscript_<|AX h (λo U j=>AX j (λi I J=>?_) λ_ _ x=>x) λ_ _ x=>x;obtain⟨p,J⟩:=J;unfold subscriptTail;refine Aa ?_;rw[getitemInPython_of_ne p.not_modules];refine Aa<|wpAny_specialOf p t ?_;have x0:wpAny (model prog w) A (subscripted slice false o i) (λr g=>wpAny (model prog w) A (letTemporaryGo value o r >>= λ_=>pure r) Q E g) E I:=by rw[hs o i];exact wpAny_operating<|AX J (λr g l=>Aa<|wpAny_letTemporaryGo<|An l) λ_ _ x=>x
 first
  |exact An<|Aa x0
  |exact Aa<|An<|Aa x0
  |exact Aa x0
theorem sV{a:Addr}{y:V}{o:Option V}(I:z8 X pins σ H s)(g:ot H a y o):s.TypeIs (.ref a) "dict" := by
 rcases g with⟨J,k,e,_,_⟩|⟨J,k,b,e,_,_,_⟩
 ·obtain⟨_,_,j,_,U⟩:=oQ I.hok e;exact U.typeIs
 ·obtain⟨_,_,l,_,U⟩:=tJ I.hok e;exact U.typeIs
def NB(td ty:TE):TE:=λσ H Q=>td σ H λx H1=>ty σ H1 λy H2=>∃a v,x=.ref a/\ot H2 a y (some v)/\Q v H2
def NC(td ty tv:TE):TS:=λD σ H=>tv σ H λv H1=>td σ H1 λx H2=>ty σ H2 λy J=>∃a I,x=.ref a/\Hq J a y v I/\D.nx σ I
section
variable {i:Expr}{tpos:Pos}{td ty tv:TE}
theorem ND(p:X.A.units+1<cLine)(r:PE X o td)(hi:PE X i ty)(hs:FQ i):PE X (.Subscript o i pos) (NB td ty):=by intro J s j H Q I h;refine NA DE.lookup hs<|aS (r J s j H _ I h) λu t x C T rx q1=>aT (hi J t j C _ T q1) λiv s2 ψ=>?_;obtain⟨y,H2,l,ry,a,v,ex,g,q2⟩:=ψ;subst ex;obtain rfl:u=Value.ref a:=rx;exact⟨sV l g,xZ p l g ry λw' s3 I3 U=>⟨v,H2,I3,U,q2⟩⟩
theorem NE(j:X.A.units+1<cLine)(l:PE X o td)(hi:PE X i ty)(p:PE X value tv)(hs:swapsWith value (some<|.Subscript o i fy) pos.line X.env=pure false):
 PS X (.Assign [.Subscript o i fy] value pos) (NC td ty tv):=by
 intro J s U H D I h;refine wpAny_Assign_Subscript (aS (p J s U H _ I h) λr t v C T rv q1=>aS (l J t U C _ T q1) λu s2 x H2 I2 rx q2=>aT (hi J s2 U H2 _ I2 q2) λiv s3 ψ=>?_) hs;obtain⟨y,H3,I3,ry,a,H4,ex,g,q3⟩:=ψ;subst ex;obtain rfl:u=Value.ref a:=rx;exact yX j I3 g ry rv λs4 I4=>⟨U,H4,I4,q3⟩
end
theorem sW{P:Program}{w:World}(h:Heap)(I:sysModules<h.objs.size):xu P w H (h.push { cls:=.type "dict",data:=.dict #[] }) h.objs.size (.dK []):=
 ⟨A3 _,beq_eq_false_iff_ne.mpr<|A4<|A5 I,[],.nil,Heap.DictOf.new h⟩
def NF:TE:=λ_ H Q=>∀p,H p=none->Q (.ref p) (upd H p<|.dK [])
theorem NG:PE X (.Dict [] [] pos) NF:=λJ s U H Q I h=>
 wpAny_Dict_empty ⟨.ref s.heap.objs.size,_,I.laid (a:=s.heap.objs.size) (o:=.dK []) (t':=s.toks) (λ_ _ q=>oe _ q) (Ap _)<|sW s.heap I.big,rfl,h _<|I.hok.fresh<|Ap _⟩
def pQ:List (TE×TE)->St->Hp->(List (V×V)->Hp->Prop)->Prop
 |[],_,H,Q=>Q [] H
 |(tk,tv)::r,σ,H,Q=>tk σ H λx H1=>tv σ H1 λy H2=>pQ r σ H2 λps I=>Q ((x,y)::ps) I
abbrev VV:List (V×V)->List (Value×Value)->Prop:=Paired λp q=>zk p.1 q.1/\zk p.2 q.2
def DT(X:Cx)(pos:Pos)(keys:List<|Option Expr)(values:List Expr)(I:List<|TE×TE):Prop:=
 ∀(pins:List<|Addr×Obj) (s:Shared) (σ:St) (H:Hp) (Q:List (V×V)->Hp->Prop),z8 X pins σ H s->pQ I σ H Q->
  wpAny (model X.prog X.w) X.A (evalPairs<|pairTrees keys values X.env pos) (λvs s'=>∃ps H',z8 X pins σ H' s'/\VV ps vs/\Q ps H') X.xe s
theorem NH :DT X pos [] [] []:=λJ s U H Q I h=>pairTrees_nil_walk ⟨[],H,I,.nil,h⟩
theorem gZ{k v:Expr}{ks:List<|Option Expr}{vs:List Expr}{tk tv:TE}{U:List<|TE×TE}(j:PE X k tk)(l:PE X v tv)(o:DT X pos ks vs U):
 DT X pos (some k::ks) (v::vs) ((tk,tv)::U):=λJ s g H Q I h=>
 pairTrees_cons_walk (aS (j J s g H _ I h) λu p x r t C T=>aS (l J p g r _ t T) λw2 s2 y H2 I2 ry q2=>
  aT (o J s2 g H2 _ I2 q2) λws s3 ⟨ps,H3,I3,rel,q3⟩=>⟨(x,y)::ps,H3,I3,.cons ⟨C,ry⟩ rel,q3⟩)
def ie(kvs more:List<|j9×V):List (j9×V):=more.foldl (λI J=>dr I J.1 J.2) kvs
theorem KV.merge:∀{more:List<|j9×V} {rs:List<|j9×Value} {kvs:List<|j9×V} {vs:List<|j9×Value},KV more rs->KV kvs vs->KV (ie kvs more) (merged vs rs):=by
 intro more rs kvs vs r;unfold KV at r
 induction r generalizing kvs vs with
 |nil=>intro q;exact q
 |@cons p q U g h t I=>
  intro J;have e:KV (dr kvs p.1 p.2) (stored vs q.1 q.2):=by have:=J.put p.1 h.2;rw[<-h.1];exact this
  exact I e
theorem fQ:∀(more kvs:List<|j9×V),(ie kvs more).length<=kvs.length+more.length
 |[],kvs=>by show kvs.length<=kvs.length+0;lia
 |p::r,kvs=>by have I:=fQ r<|dr kvs p.1 p.2;have J:=dX kvs p.1 p.2;show(ie (dr kvs p.1 p.2) r).length<=_;rw[AK];lia
theorem nI{P:Program}{w:World}:∀{kvs:List<|j9×V} {I:List<|Value×Value},VV (kvs.map λJ=>(kV J.1,J.2)) I->∃rs,Carries (xo P w) I rs/\KV kvs rs
 |[],_,r=>by rw[Dh] at r;cases r;exact⟨[],True.intro,.nil⟩
 |p::kvs,_,r=>by
  rw[AG] at r;cases r with
  |@cons a b as bs h t=>
   obtain⟨rs,c,q⟩:=nI (P:=P) (w:=w) t;obtain⟨b1,b2⟩:=b;exact⟨(p.1,b2)::rs,⟨iy h.1,rfl,c⟩,.cons ⟨rfl,h.2⟩ q⟩
def NI(I:List<|TE×TE):TE:=λσ H Q=>∀p,H p=none->pQ I σ (upd H p<|.dK []) λps H2=>H2 p=some (.dK [])/\∃kvs:List (j9×V),ps=kvs.map (λJ=>(kV J.1,J.2))/\kvs.length<=15/\Q (.ref p) (upd H2 p<|.dK<|ie [] kvs)
theorem NJ{keys:List<|Option Expr}{values:List Expr}{J:List<|TE×TE}(h:DT X pos keys values J)(U:keys.all (·.isSome)=true)(t:keys.length=values.length)(C:keys≠[])
 (p:keys.length<=15):PE X (.Dict keys values pos) (NI J):=by
 intro g s T H Q I q;have hn:=I.hok.fresh<|Ap s.heap.objs.size;have I1:=I.laid (a:=s.heap.objs.size) (o:=.dK []) (h':=s.heap.push { cls:=.type "dict",data:=.dict #[] }) (t':=s.toks) (λ_ _ q=>oe _ q) (Ap _)<|sW s.heap I.big;refine wpAny_Dict_walk (knd:=xo X.prog X.w) U t C p<|aT (h g _ T _ _ I1<|q _ hn) λws s2 ψ=>?_;obtain⟨ps,H2,r,rel,e,j,ep,lk,q2⟩:=ψ;subst ep;obtain⟨rs,c,rk⟩:=nI (P:=X.prog) (w:=X.w) rel;obtain⟨z,hd,a0,r0,dd⟩:=Ho r.hok e;cases r0;refine⟨rs,c,dd,λh' l hs=>⟨.ref s.heap.objs.size,_,?_,rfl,q2⟩⟩;have hz:(ie [] j).length<=sizeLine:=by have h1:=fQ j [];rw[Dt] at h1;rw[sizeLine_eq];lia
 have he:∃q,h'.get? s.heap.objs.size=some q:=let ⟨q,_,_,hq,_⟩:=l;⟨q,hq⟩;exact oj r (by rw[e];exact True.intro) hs he<|Hr hz hd (rk.merge .nil) l
section
variable {a:Addr}{y d:V}{r:Value}{o:Option V}
end
section
variable {f:Expr}{td ty tx:TE}
end
section
variable {a:Addr}{kvs:List<|j9×V}
end
section
variable {a:Addr}{y:V}
end
end L2
namespace HT
open PySem PyProof.Rows
section
open PySem.SeqAt
open PySem.AutoSeq1 (wpAny_loadPart')
open PySem.MeetsSeq PySem.MeetsSeq2 PySem.MeetsSeq3
end
section
variable {w:World}
theorem cat_tup{t b:Addr}{I:List Value}(ht:IsTup s.heap t vs.toArray)(hb:IsTup s.heap b I.toArray)(p:vs≠[])
 (h1:I=[]->Q (.ref t) s) (h2:I≠[]->Q (.ref s.heap.objs.size) { s with heap:=s.heap.push { cls:=.type "tuple",data:=.seq (vs++I).toArray } })
 (hsz:vs.length+I.length<=sizeLine):wpAny (model prog w) A (binaryOp .Add (.ref t)<|.ref b) Q E s:=by
 obtain⟨⟨cls,r,data,C⟩,o,T,n,hd⟩:=id ht;obtain⟨⟨a0,U,data2,g⟩,J,j,n2,l⟩:=id hb;simp only at T hd j l;subst T hd j l;have e:vs.toArray++I.toArray=(vs++I).toArray:=by simp
 by_cases hw:I=[]
 ·exact concat_meets ⟨_,o,rfl⟩ ⟨_,J,rfl⟩ noFill_tuple_add seq_tuple_add PySem.F.slot_tuple_add PySem.F.entry_tuple_add (DQ _ _)
   (tuple_addW1 t b vs.toArray I.toArray n n2 r U C g (by simpa using p) (by simp[hw])) ⟨o,J,h1 hw⟩
 ·refine concat_meets ⟨_,o,rfl⟩ ⟨_,J,rfl⟩ noFill_tuple_add seq_tuple_add PySem.F.slot_tuple_add PySem.F.entry_tuple_add (DQ _ _)
   (tuple_addW2 t b vs.toArray I.toArray n n2 r U C g (by simpa using p) (by simpa using hw) (by rw[Ar,Ar];exact hsz)) ⟨o,J,?_⟩
  rw[e];exact h2 hw
def sIx(n d:Nat):Option Int->Nat
 |none=>d
 |some v=>if v<0 then(v+(n:Int)).toNat else min v.toNat n
theorem sIx_none(n d:Nat):sIx n d none=d:=rfl
theorem sIx_nat(n d k:Nat):sIx n d (some (k:Int))=min k n:=by show(if (k:Int)<0 then((k:Int)+(n:Int)).toNat else min (k:Int).toNat n)=min k n;rw[AB (by lia),BY]
theorem sIx_le(n d:Nat)(hd:d<=n)(o:Option Int):sIx n d o<=n:=by
 cases o with
 |none=>exact hd
 |some v=>
  show(if v<0 then(v+(n:Int)).toNat else min v.toNat n)<=n;by_cases I:v<0
  ·rw[AC I];lia
  ·rw[AB I];exact Nat.min_le_right _ _
theorem xY(v:Int)(n d:Nat):(if v<0 then max (v+(n:Int)) 0 else min v (n:Int))=((sIx n d (some v):Nat):Int):=by
 show(if v<0 then max (v+(n:Int)) 0 else min v (n:Int))=(((if v<0 then(v+(n:Int)).toNat else min v.toNat n):Nat):Int);by_cases I:v<0
 ·simp only[AC I];lia
 ·simp only[AB I];lia
theorem uo(lo hi:Option Int)(n:Nat):Builtin.Slice.sliceAdjust lo hi 1 (n:Int)=(((sIx n 0 lo:Nat):Int),(sIx n n hi:Int)):=by
 have I:¬((1:Int)<0):=by lia
 unfold Builtin.Slice.sliceAdjust;simp only[I,if_false];refine Prod.ext ?_ ?_
 ·cases lo with|none=>rfl|some v=>exact xY v n 0
 ·cases hi with|none=>rfl|some v=>exact xY v n n
theorem wF(i j:Nat):Builtin.Slice.slicePlaces (i:Int) (j:Int) 1=j-i:=by
 unfold Builtin.Slice.slicePlaces;have I:(1:Int) > 0:=by lia
 simp only[I,if_true,Int.ediv_one];split<;>lia
theorem mn{o:Option Int}{Q:Option Int->Shared->Prop}(p:IsPart v o)(h:Q o s):wpAny (model prog w) A (Builtin.Slice.slicePartIndex v) Q E s:=by cases p with|none=>exact slicePart_none h|int i t=>exact slicePart_int h
theorem ig{j:Addr}{U g:Value}{lo hi:Option Int}{Q:Int×Int×Nat->Shared->Prop}(hs:s.heap.IsSliceOf j U g .none)(pl:IsPart U lo)(l:IsPart g hi)
 (h:Q (((sIx n 0 lo:Nat):Int),1,sIx n n hi-sIx n 0 lo) s):wpAny (model prog w) A (Builtin.Slice.sliceApplied (.ref j)<|pure (n:Int)) Q E s:=by
 obtain⟨os,I,o,J⟩:=id hs;unfold Builtin.Slice.sliceApplied Builtin.Slice.sliceFields;refine Aa<|Aa<|BK I J (x:=U) rfl<|Aa<|BK I J (x:=g) rfl<|Aa<|BK I J (x:=.none) rfl<|An ?_;refine Aa<|slicePart_none ?_;show wpAny _ _ (if ((1:Int)==0)=true then _ else _) _ _ s;rw[AB (by decide)];refine Aa<|mn pl<|Aa<|mn l<|Aa<|An ?_;show wpAny _ _ (match Builtin.Slice.sliceAdjust lo hi 1 (n:Int) with|(lo,hi)=>pure (lo,(1:Int),Builtin.Slice.slicePlaces lo hi 1)) _ _ s;rw[uo lo hi n];show wpAny _ _ (pure (((sIx n 0 lo:Nat):Int),(1:Int),Builtin.Slice.slicePlaces ((sIx n 0 lo:Nat):Int) (sIx n n hi:Int) 1)) _ _ s;rw[wF];exact An h
theorem NK(xs:Array Value)(i k:Nat):((List.range k).filterMap λ(m:Nat)=>xs[((i:Int)+(m:Int)*1).toNat]?).toArray=((xs.toList.drop i).take k).toArray:=by
 have e:(λ(m:Nat)=>xs[((i:Int)+(m:Int)*1).toNat]?)=λm=>xs[i+m]?:=by
  funext m;have:((i:Int)+(m:Int)*1).toNat=i+m:=by lia
  rw[this]
 rw[e];have:=pick_run xs i k;rw[List.filterMap_map] at this;have I:((λx=>xs[x]?)∘λx=>i+x)=λm=>xs[i+m]?:=rfl;rw[I] at this;rw[this]
theorem getItem_tuple_cut{t U:Addr}{p r:Value}{lo hi:Option Int}(J:IsTup s.heap t items)(hs:s.heap.IsSliceOf U p r .none)(pl:IsPart p lo)(C:IsPart r hi)
 (hw:¬(sIx items.size 0 lo=0/\sIx items.size items.size hi=items.size))
 (h:Q (.ref s.heap.objs.size) { s with heap:=s.heap.push { cls:=.type "tuple",data:=.seq ((items.toList.drop<|sIx items.size 0 lo).take<|sIx items.size items.size hi-sIx items.size 0 lo).toArray } })
 (hsz:items.size<=sizeLine):wpAny (model prog w) A (getItem (.ref t)<|.ref U) Q E s:=by
 have I:sizeOk (.seq ((items.toList.drop<|sIx items.size 0 lo).take<|sIx items.size items.size hi-sIx items.size 0 lo).toArray):=by show((items.toList.drop<|sIx items.size 0 lo).take<|sIx items.size items.size hi-sIx items.size 0 lo).toArray.size<=sizeLine;rw[Ar,AQ,BC,A2];lia
 have hj:sIx items.size items.size hi<=items.size:=sIx_le _ _ (Ap _) hi;obtain⟨os,g,j,T⟩:=id hs;have l:s.TypeIs (.ref U) "slice" := ⟨os,g,j⟩;unfold getItem
 try with_reducible refine A6 ?_
 first|refine Aa (An ?_)|skip
 refine Aa<|wpAny_sequenceKey J.typeIs (by decide) ?_;refine Aa (wpAny_callSpecial?_slot (name:=Str.ofString "__getitem__") J.typeIs Cq
  (wpAny_call_entry Cq J.typeIs entry_tuple_getitem ?_<|args_tuple_getitem _ _))
 show wpAny _ _ (Builtin.Tuple.tupleItemsOf (.ref t) >>= _) _ _ s;refine Aa<|tupleItemsOf_ J ?_;refine Aa<|wpAny_typeOf l ?_;rw[AC (by decide)];refine Aa<|ig hs pl C ?_;have o:¬((((sIx items.size 0 lo:Nat):Int)==0&&(1:Int)==1&&(sIx items.size items.size hi-sIx items.size 0 lo)==items.size)=true):=by intro q;rw[Bb,Bb] at q;have q1:((sIx items.size 0 lo:Nat):Int)=0:=eq_of_beq q.1.1;have q2:sIx items.size items.size hi-sIx items.size 0 lo=items.size:=eq_of_beq q.2;exact hw ⟨by lia,by lia⟩
 show wpAny _ _ (if (((sIx items.size 0 lo:Nat):Int)==0&&(1:Int)==1&&(sIx items.size items.size hi-sIx items.size 0 lo)==items.size)=true then _ else _) _ _ s;rw[AB o,NK]
 first
  |exact Aa (m:=Builtin.Tuple.tupleExact _)<|BP (An ⟨_,rfl,An h⟩) I
  |exact Aa (m:=Builtin.Tuple.tupleExact _)<|BP (Aa<|An<|An ⟨_,rfl,An h⟩) I
  |exact Aa<|Aa (m:=Builtin.Tuple.tupleExact _)<|BP (An<|An ⟨_,rfl,An h⟩) I
  |exact Aa<|Aa (m:=Builtin.Tuple.tupleExact _)<|BP (An ⟨_,rfl,An h⟩) I
end
end HT
namespace L2
open PySem PySem.Spec PyProof.Rows
abbrev TO:=St->Hp->(Option Int->Hp->Prop)->Prop
def PO(X:Cx)(e:Option Expr)(t:TO):Prop:=
 ∀(pins:List<|Addr×Obj) (s:Shared) (σ:St) (H:Hp) (Q:Option Int->Hp->Prop),z8 X pins σ H s->t σ H Q->
  wpAny (model X.prog X.w) X.A (evalPart e X.env) (λu s'=>∃o H',z8 X pins σ H' s'/\IsPart u o/\Q o H') X.xe s
def NL:TO:=λ_ H Q=>Q none H
def NM(t:TE):TO:=λσ H Q=>t σ H λx H1=>∃i,x=.int i/\Q (some i) H1
section
variable {te:TE}{lo hi:Option Expr}{tl th:TO}
theorem NN:PO X none NL:=by intro J s U H Q I h;rw[evalPart_none];exact An ⟨none,H,I,.none,h⟩
theorem NO(h:PE X e te):PO X (some e) (NM te):=by intro J s U H Q I hw;rw[evalPart_some];refine aS (h J s U H _ I hw) λu p x g j l o=>?_;obtain⟨i,rfl,q⟩:=o;obtain⟨t,rfl⟩:=l;exact⟨some i,g,j,.int i t,q⟩
def rD(X:Cx)(r:V->Option Int->Option Int->Hp->VK->Prop):Prop:=
 ∀(pins:List<|Addr×Obj) (s:Shared) (σ:St) (H:Hp) (x:V) (v I J:Value) (lo hi:Option Int) (U:Addr) (Q:VK),z8 X pins σ H s->zk x v->s.heap.IsSliceOf U I J .none->IsPart I lo->IsPart J hi->r x lo hi H Q->
  ∃T id,typeLookup (.type T) "__getitem__" = pure (some<|.builtin id)/\s.TypeIs v T/\wpAny (model X.prog X.w) X.A (getItem v<|.ref U) (EP X pins σ Q) X.xe s
theorem rD.or{r U:V->Option Int->Option Int->Hp->VK->Prop}(h:rD X r)(h':rD X U):rD X (λx lo hi H Q=>r x lo hi H Q\/U x lo hi H Q):=by
 intro J s g H x v j l lo hi o Q I p t pl C q;rcases q with q|q
 ·exact h J s g H x v j l lo hi o Q I p t pl C q
 ·exact h' J s g H x v j l lo hi o Q I p t pl C q
def NP(r:V->Option Int->Option Int->Hp->VK->Prop)(te:TE)(tl th:TO):TE:=λσ H Q=>te σ H λx H1=>tl σ H1 λl H2=>th σ H2 λu I=>r x l u I Q
theorem NQ{r:V->Option Int->Option Int->Hp->VK->Prop}(t:rD X r)(C:PE X e te)(hl:PO X lo tl)(hu:PO X hi th):PE X (.Subscript e (.Slice lo hi none p2) pos) (NP r te tl th):=by intro J s g H Q I h;refine Subscript_<|aT (C J s g H _ I h) λv s1 ψ=>?_;obtain⟨x,H1,I1,r1,q1⟩:=ψ;refine wpAny_Slice<|aT (hl J s1 g H1 _ I1 q1) λj s2 ⟨l,H2,I2,pl,q2⟩=>aT (hu J s2 g H2 _ I2 q2) λo U ψ=>?_;obtain⟨u,p,I3,pu,q3⟩:=ψ;rw[evalPart_none];refine An ?_;have I4:z8 X J g p { U with heap:=U.heap.push { cls:=.type "slice",data:=.fields #[j,o,.none] } }:=I3.kept (t':=U.toks) λb ob q=>oe _ q;obtain⟨T,id,hT,ht,hg⟩:=t J { U with heap:=U.heap.push { cls:=.type "slice",data:=.fields #[j,o,.none] } } g p x v j o l u U.heap.objs.size Q I4 r1 (Heap.IsSliceOf.new ..) pl pu q3;show wpAny (model X.prog X.w) X.A (subscriptTail e (.Slice lo hi none p2) v<|.ref U.heap.objs.size) (EP X J g Q) X.xe { U with heap:=U.heap.push { cls:=.type "slice",data:=.fields #[j,o,.none] } };exact tail_any (ops:=[.ref U.heap.objs.size,v]) ht hT hg (by with_unfolding_all rfl)
def rK(xs:List V)(lo hi:Option Int):List V:=(xs.drop<|HT.sIx xs.length 0 lo).take<|HT.sIx xs.length xs.length hi-HT.sIx xs.length 0 lo
theorem ip(xs:List V)(lo hi:Option Int):(rK xs lo hi).length<=xs.length:=by unfold rK;rw[AQ,BC];lia
def NR(K:Aj):V->Option Int->Option Int->Hp->VK->Prop:=λx lo hi H Q=>∃a xs,x=.ref a/\cT K H a xs/\
 ¬(HT.sIx xs.length 0 lo=0/\HT.sIx xs.length xs.length hi=xs.length)/\∀p,H p=none->Q (.ref p) (upd H p<|.tup<|rK xs lo hi)
theorem NS:rD X (NR X.K):=by
 intro l s σ H x v vl vu lo g sl Q I C T pl pu h;obtain⟨a,U,rfl,hx,hw,q⟩:=h;cases C;obtain⟨j,r,p,t⟩:=I.tuple hx;have J:j.toArray.size=U.length:=by rw[Ar];exact r.length.symm
 refine⟨"tuple",_,Cq.lookup,p.typeIs,?_⟩;refine HT.getItem_tuple_cut p T pl pu (by rw[J];exact hw) ?_ (by rw[J];exact t);rw[J];refine⟨.ref s.heap.objs.size,_,I.laid (t':=s.toks) (o:=.tup<|rK U lo g) (λb ob q=>oe _ q) (Ap _) ?_,rfl,q _<|I.hok.fresh<|Ap _⟩;exact⟨AN (ip U lo g) t,_,(r.drop<|HT.sIx U.length 0 lo).take<|HT.sIx U.length U.length g-HT.sIx U.length 0 lo,IsTup.new _ _⟩
def NT(K:Aj):R2:=λx y H Q=>∃a b xs ys,x=.ref a/\y=.ref b/\cT K H a xs/\cT K H b ys/\xs≠[]/\xs.length+ys.length<=sizeLine/\
 (ys=[]->Q (.ref a) H)/\(ys≠[]->∀p,H p=none->Q (.ref p) (upd H p<|.tup<|xs++ys))
theorem zn.nil_iff(r:zn xs us):us=[]↔xs=[]:=by cases r with|nil=>simp|cons _ _=>simp
theorem NU:w6 X (binaryOp .Add) (NT X.K):=by intro g s σ H x y v u Q I p r h;obtain⟨a,b,t,C,rfl,rfl,T,hb,hx,j,q1,q2⟩:=h;cases p;cases r;obtain⟨a0,U,p1,_⟩:=I.tuple T;obtain⟨l,J,p2,_⟩:=I.tuple hb;refine HT.cat_tup p1 p2 (λz=>hx<|U.nil_iff.mp z) (λz=>⟨.ref a,H,I,rfl,q1<|J.nil_iff.mp z⟩) (λz=>?_) (by rw[<-U.length,<-J.length];exact j);refine⟨.ref s.heap.objs.size,_,I.laid (t':=s.toks) (o:=.tup<|t++C) (λb ob q=>oe _ q) (Ap _) ?_,rfl,q2 (λw=>z<|J.nil_iff.mpr w) _<|I.hok.fresh<|Ap _⟩;exact⟨by rw[Ad];exact j,_,U.append J,IsTup.new _ _⟩
end
def uj(n:Nat)(i:Int):Option Nat:=if 0<=i then(if i<n then some i.toNat else none) else if -(n:Int)<=i then some (i+n).toNat else none
def bp(xs:List α)(i:Int):Option α:=(uj xs.length i).bind λj=>xs[j]?
theorem wK{i:Int}(h:uj n i=some j):seqIndex? i n=some j/\j<n /\ -(n:Int)<=i/\i<n:=by
 unfold uj at h;by_cases J:0<=i
 ·rw[AC J] at h;by_cases I:i<n
  ·rw[AC I] at h;have e:i.toNat=j:=AO h;exact⟨by rw[seqIndex_of J I,e],by lia,by lia,I⟩
  ·rw[AB I] at h;cases h
 ·rw[AB J] at h;by_cases I : -(n:Int)<=i
  ·rw[AC I] at h;have e:(i+n).toNat=j:=AO h;exact⟨by rw[seqIndex_neg (by lia) I,e],by lia,I,by lia⟩
  ·rw[AB I] at h;cases h
theorem qS{xs:List α}{i:Int}{v:α}(h:bp xs i=some v):∃j,seqIndex? i xs.length=some j/\xs[j]?=some v/\j<xs.length /\ -(xs.length:Int)<=i/\i<xs.length:=by
 unfold bp at h;cases e:uj xs.length i with
 |none=>rw[e] at h;cases h
 |some j=>
  rw[e] at h;obtain⟨I,J,U,g⟩:=wK e;exact⟨j,I,h,J,U,g⟩
theorem xg{xs:List α}{v:α}(h:xs[j]?=some v):bp xs (j:Int)=some v:=by
 have I:j<xs.length:=(AS.mp h).1;have e:uj xs.length (j:Int)=some j:=by unfold uj;rw[AC (by lia),AC (by lia)];simp
 unfold bp;rw[e];exact h
theorem NV(xs:List α)(v:α):bp (xs++[v]) (-1)=some v:=by
 have I:(xs++[v]).length=xs.length+1:=by simp
 have e:uj (xs++[v]).length (-1)=some xs.length:=by unfold uj;rw[I,AB (by decide),AC (by lia)];congr 1;lia
 unfold bp;rw[e];show(xs++[v])[xs.length]?=some v;simp
def pM(b:Expr):Prop:=∀o i,subscripted b false o i=operate [o,i] (getItem o i)
def IxR(X:Cx)(r:R2):Prop:=
 ∀(value slice:Expr) (pins:List<|Addr×Obj) (s:Shared) (σ:St) (H:Hp) (x y:V) (v u:Value) (Q:VK),z8 X pins σ H s->zk x v->zk y u->r x y H Q->
  subscripted slice false v u=operate [v,u] (getItem v u)->wpAny (model X.prog X.w) X.A (subscriptTail value slice v u) (EP X pins σ Q) X.xe s
def NW(X:Cx)(id:String)(r:V->List V->Hp->VK->Prop):Prop:=
 ∀(pins:List<|Addr×Obj) (s:Shared) (σ:St) (H:Hp) (x:V) (xs:List V) (v:Value) (us:List Value) (Q:VK),z8 X pins σ H s->zk x v->zn xs us->r x xs H Q->
  wpAny (model X.prog X.w) X.A (call (.builtin id)<|v::us) (EP X pins σ Q) X.xe s
section
variable {a b:Expr}{ta tb:TE}
theorem NX{r:R2}(U:IxR X r)(g:PE X a ta)(j:PE X b tb)(hs:pM b):PE X (.Subscript a b pos) (Db r ta tb):=by intro J s l H Q I h;exact Subscript_<|FK g j I h λv u o x y p t C T q=>U a b J o l p x y v u Q t C T q<|hs _ _
def NY(K:Aj):R2:=λx y H Q=>∃p xs i v,x=.ref p/\y=.int i/\wr K H p xs/\bp xs i=some v/\Q v H
def NZ(K:Aj):R2:=λx y H Q=>∃p xs i v,x=.ref p/\y=.int i/\cT K H p xs/\bp xs i=some v/\Q v H
def N0:R2:=λx y H Q=>∃z i c,x=.str z/\y=.int i/\z.length<=sizeLine/\bp z.cps.toList i=some c/\Q (.str ⟨#[c]⟩) H
theorem N4:IxR X (NY X.K):=by
 intro value slice J s C H x y v u Q I rx ry h T;obtain⟨p,xs,i,z,rfl,rfl,hq,he,q⟩:=h;cases rx;obtain⟨t,rfl⟩:=ry;obtain⟨g,r,pl,hz⟩:=I.list hq;obtain⟨j,U,h2,h3,h4,h5⟩:=qS he;obtain⟨w,ew,l⟩:=r.get h2;have hl:=r.length;have hn:=iN;have x0:EP X J C Q w s:=⟨z,H,I,l,q⟩;by_cases h0:0<=i
 ·have o:i.toNat=j:=by rw[seqIndex_of h0 h5] at U;exact AO U
  exact item_listR pl.isList h0 (by lia) (by rw[o];simpa using ew) x0 T
 ·have o:(i+(g.toArray.size:Int)).toNat=j:=by rw[seqIndex_neg (by lia) h4] at U;rw[Ar,<-hl];exact AO U
  exact subscriptTail_builtinR (x:=w) pl.isList.typeIs slot_list_getitem.lookup
   (wpAny_getItem_list_neg (Q:=λr s'=>r=w/\EP X J C Q r s') pl.isList (by lia) (by rw[Ar]<;>lia) (by lia) (by rw[o];simpa using ew) ⟨rfl,x0⟩) T
theorem N5:IxR X (NZ X.K):=by
 intro value slice J s g H x y v u Q I l o h C;obtain⟨p,xs,i,z,rfl,rfl,T,he,q⟩:=h;cases l;obtain⟨t,rfl⟩:=o;obtain⟨a0,r,pl,hz⟩:=I.tuple T;obtain⟨j,h1,h2,h3,h4,h5⟩:=qS he;obtain⟨w,ew,U⟩:=r.get h2;have hl:=r.length;have hn:=iN;have x0:EP X J g Q w s:=⟨z,H,I,U,q⟩;exact subscriptTail_builtinR (x:=w) pl.typeIs slot_tuple_getitem.lookup
  (getItem_tuple (j:=j) (Q:=λr s'=>r=w/\EP X J g Q r s') pl (by lia) (by lia) (by rw[Ar,<-hl];exact h1) (by simpa using ew) ⟨rfl,x0⟩) C
theorem N6:IxR X N0:=by
 intro value slice J s σ H x y v u Q I g l h o;obtain⟨z,i,c,rfl,rfl,hz,p,q⟩:=h;obtain⟨t,rfl⟩:=g;obtain⟨t',rfl⟩:=l;obtain⟨j,U,r,h3,C,T⟩:=qS p;have hl:z.cps.toList.length=z.length:=by simp[Str.length]
 rw[hl] at U C T;have hn:=iN;exact tail_any (typeIs_str s z t) slot_str_getitem.lookup (getItem_str (c:=c) (by have e1:decide (i < -(2 ^ 63:Int))=false:=Au (by lia);have e2:decide (i>=2 ^ 63)=false:=Au (by lia);rw[e1,e2,Bool.or_false]) (by rw[U];simpa using r) ⟨.str ⟨#[c]⟩,H,I.tok _,⟨_,rfl⟩,q⟩) o
theorem uU(eH:List Value)(n j:Nat)(u:Value):Obj.mapSeq (·.setIfInBounds j u) { cls:=.type "list",data:=.seq eH.toArray n }={ cls:=.type "list",data:=.seq (eH.set j u).toArray n }:=by simp[Obj.mapSeq]
theorem z8.lst{p:Addr}(I:z8 X pins σ H s)(h:H p=some (.lst xs)):
 ∃(eH:List Value) (n:Nat),zn xs eH/\s.heap.get? p=some { cls:=.type "list",data:=.seq eH.toArray n }/\xs.length<=sizeLine:=by
 obtain⟨z,eH,n,r,e⟩:=I.hok p _ h;exact⟨eH,n,r,e,z⟩
theorem z8.lstUpd{p:Addr}{ys:List V}{its':List Value}{J:Nat}{f:Obj->Obj}(I:z8 X pins σ H s)(h:H p=some (.lst xs))
 (g:s.heap.get? p=some { cls:=.type "list",data:=.seq eH.toArray n }) (U:f { cls:=.type "list",data:=.seq eH.toArray n }={ cls:=.type "list",data:=.seq its'.toArray J }) (r:zn ys its') (hz:ys.length<=sizeLine) (t:Nat) (l:0<t:=by walk_at "t"):
 z8 X pins σ (upd H p<|.lst ys) { s with heap:=s.heap.update p f,toks:=t }:=by
 have e:(s.heap.update p f).get? p=some { cls:=.type "list",data:=.seq its'.toArray J }:=by rw[Heap.get?_update_self f g (by rw[U]<;>rfl),U]
 refine I.write (x:=p) (e:=p) (by rw[h];trivial) (.inl rfl) (λb u j q=>(Heap.get?_update_other _ _<|A4 j).trans q) ⟨_,e⟩ ?_;exact⟨hz,its',J,r,e⟩
def N7:V->V->V->Hp->(Hp->Prop)->Prop:=λo i v H Q=>∃p xs k j,o=.ref p/\i=.int k/\H p=some (.lst xs)/\uj xs.length k=some j/\Q (upd H p<|.lst<|xs.set j v)
theorem N8:G' X N7:=by
 intro J s σ H o i v ov iv u Q I ro ri rv h;obtain⟨p,xs,k,j,rfl,rfl,hp,hj,q⟩:=h;cases ro;obtain⟨t,rfl⟩:=ri;obtain⟨U,n,r,l,hz⟩:=I.lst hp;obtain⟨g,h2,h3,h4⟩:=wK hj;have C:=r.length;have hn:=iN;have I':z8 X J σ (upd H p<|.lst<|xs.set j v) { s with heap:=s.heap.update p (Obj.mapSeq (·.setIfInBounds j u)) }:=
  I.lstUpd hp l (uU U n j u) (r.set rv j) (by rw[Bm];exact hz) s.toks
 by_cases h0:0<=k
 ·have T:k.toNat=j:=by rw[seqIndex_of h0 h4] at g;exact AO g
  exact PySem.W.ki_setAt l h0 (by lia) (by rw[Ar,<-C];exact h4) (by rw[T];exact⟨_,I',q⟩)
 ·have T:(k+(U.toArray.size:Int)).toNat=j:=by rw[seqIndex_neg (by lia) h3] at g;rw[Ar,<-C];exact AO g
  exact PySem.W.ki_setBack l (by lia) (by rw[Ar,<-C];exact h3) (by lia) (by rw[T];exact⟨_,I',q⟩)
theorem qU(lo hi:Option Int)(n:Nat):(sliceBounds lo hi none n).1=((HT.sIx n 0 lo:Nat):Int)/\(sliceBounds lo hi none n).2.1=((HT.sIx n n hi:Nat):Int)/\(sliceBounds lo hi none n).2.2=1:=by
 refine⟨?_,?_,rfl⟩
 ·cases lo with
  |none=>simp[sliceBounds,HT.sIx]
  |some i=>
   simp only[sliceBounds,HT.sIx,Option.getD_none,show(1:Int) > 0 by decide,if_true];by_cases h:i<0
   ·simp only[h,if_true]<;>lia
   ·simp only[h,if_false]<;>lia
 ·cases hi with
  |none=>simp[sliceBounds,HT.sIx]
  |some i=>
   simp only[sliceBounds,HT.sIx,Option.getD_none,show(1:Int) > 0 by decide,if_true];by_cases h:i<0
   ·simp only[h,if_true]<;>lia
   ·simp only[h,if_false]<;>lia
theorem nW(eH:List Value)(lo hi:Option Int):slicePick eH.toArray lo hi none=((eH.drop<|HT.sIx eH.length 0 lo).take<|HT.sIx eH.length eH.length hi-HT.sIx eH.length 0 lo).toArray:=by obtain⟨I,J,U⟩:=qU lo hi eH.toArray.size;unfold slicePick;rw[I,J,U];simp only[sliceRange_one,pick_run,Ar]<;>rfl
def N9(K:Aj):V->Option Int->Option Int->Hp->VK->Prop:=λx lo hi H Q=>∃a xs,x=.ref a/\wr K H a xs/\∀p,H p=none->Q (.ref p) (upd H p<|.lst<|rK xs lo hi)
theorem N':rD X (N9 X.K):=by intro j s σ H x v vl vu lo g sl Q I p t pl C h;obtain⟨a,J,rfl,T,q⟩:=h;cases p;obtain⟨a0,r,l,hz⟩:=I.list T;have U:=r.length;refine⟨"list",_,slot_list_getitem.lookup,l.isList.typeIs,?_⟩;refine wpAny_getItem_list_slice l.isList t pl C .none (by simp) ?_ (by rw[Ar]<;>lia);rw[nW,<-U];refine⟨.ref s.heap.objs.size,_,I.laid (t':=s.toks) (o:=.lst<|rK J lo g) (λb ob q=>oe _ q) (Ap _) ?_,rfl,q _<|I.hok.fresh<|Ap _⟩;exact⟨AN (ip J lo g) hz,_,0,(r.drop<|HT.sIx J.length 0 lo).take<|HT.sIx J.length J.length g-HT.sIx J.length 0 lo,pR _ rfl⟩
def a9:V->Bool
 |.non=>true
 |.bl _=>true
 |.int _=>true
 |.str _=>true
 |_=>false
def jT:V->V->Bool
 |.non,.non=>true
 |.bl a,.bl b=>a==b
 |.bl a,.int b=>(if a then 1 else 0)==b
 |.int a,.bl b=>a==(if b then 1 else 0)
 |.int a,.int b=>a==b
 |.str a,.str b=>a==b
 |_,_=>false
theorem l9{y x:V}(U:zk y u)(I:zk x v)(j:a9 y=true)(g:a9 x=true):SeqAt.EqAt A s u v (jT y x):=by
 cases y with
 |non=>
  cases U;cases x with
  |non=>cases I;exact SeqAt.EqAt.same _
  |bl b=>cases I;exact SeqAt.EqAt.none_bool b
  |int b=>obtain⟨t,rfl⟩:=I;exact SeqAt.EqAt.none_int b t
  |str b=>obtain⟨t,rfl⟩:=I;exact SeqAt.EqAt.none_str b t
  |_=>exact absurd (show false=true from g) AI
 |bl a=>
  cases U;cases x with
  |non=>cases I;exact SeqAt.EqAt.bool_none a
  |bl b=>cases I;exact SeqAt.EqAt.bool_bool a b
  |int b=>obtain⟨t,rfl⟩:=I;exact SeqAt.EqAt.bool_int a b t
  |str b=>obtain⟨t,rfl⟩:=I;exact SeqAt.EqAt.bool_str a b t
  |_=>exact absurd (show false=true from g) AI
 |int a=>
  obtain⟨J,rfl⟩:=U;cases x with
  |non=>cases I;exact SeqAt.EqAt.int_none a J
  |bl b=>cases I;exact SeqAt.EqAt.int_bool a J b
  |int b=>obtain⟨t,rfl⟩:=I;exact SeqAt.EqAt.int_int a J b t
  |str b=>obtain⟨t,rfl⟩:=I;exact SeqAt.EqAt.int_str a J b t
  |_=>exact absurd (show false=true from g) AI
 |str a=>
  obtain⟨J,rfl⟩:=U;cases x with
  |non=>cases I;exact SeqAt.EqAt.str_none a J
  |bl b=>cases I;exact SeqAt.EqAt.str_bool a J b
  |int b=>obtain⟨t,rfl⟩:=I;exact SeqAt.EqAt.str_int a J b t
  |str b=>obtain⟨t,rfl⟩:=I;exact SeqAt.EqAt.str_str a J b t
  |_=>exact absurd (show false=true from g) AI
 |_=>exact absurd (show false=true from j) AI
def vS(x:V)(u:Value):Bool:=match u with
 |.none=>jT .non x
 |.bool b=>jT (.bl b) x
 |.int i _=>jT (.int i) x
 |.str z _=>jT (.str z) x
 |_=>false
theorem Hs{x y:V}(r:zk y u)(f:a9 y=true):vS x u=jT y x:=by
 cases y with
 |non=>cases r;rfl
 |bl b=>cases r;rfl
 |int i=>obtain⟨t,rfl⟩:=r;rfl
 |str z=>obtain⟨t,rfl⟩:=r;rfl
 |_=>exact absurd (show false=true from f) AI
theorem gY{x:V}:∀{xs:List V} {us:List Value},zn xs us->xs.all a9=true->us.any (vS x)=xs.any λy=>jT y x
 |_,_,.nil,_=>rfl
 |y::xs,u::us,.cons r t,f=>by rw[DR,Bb] at f;rw[Cn,Cn,Hs r f.1,gY t f.2]
theorem ge{x:V}(J:zk x v)(U:a9 x=true):∀{xs:List V} {us:List Value},zn xs us->xs.all a9=true->∀u∈us,SeqAt.EqAt A s u v (vS x u):=by
 intro xs us h
 induction h with
 |nil=>intro _ u I;cases I
 |cons r t g=>
  intro f j I;rw[DR,Bb] at f;rcases Ao.mp I with rfl|I
  ·rw[Hs r f.1];exact l9 r J f.1 U
  ·exact g f.2 j I
def nJ(x:V)(xs:List V):Bool:=xs.any λy=>jT y x
def FR(K:Aj)(neg:Bool):R2:=λx y H Q=>∃p xs,y=.ref p/\(wr K H p xs\/cT K H p xs)/\a9 x=true/\xs.all a9=true/\Q (.bl<|if neg then !nJ x xs else nJ x xs) H
theorem Oa:w6 X (compareOp .In) (FR X.K false):=by
 intro g s C H x y v u Q I j o h;obtain⟨p,T,rfl,U,l,fs,q⟩:=h;cases o;rcases U with U|U
 ·obtain⟨J,r,pl,t⟩:=I.list U;refine SeqAt.in_listAt (vS x) pl.isList (λw hw=>ge j l r fs w (by simpa using hw)) ⟨.bl _,H,I,rfl,?_⟩;rw[show J.toArray.any (vS x)=J.any (vS x) by simp,gY r fs];exact q
 ·obtain⟨J,r,pl,t⟩:=I.tuple U;refine SeqAt.in_tupleAt (vS x) pl (λw hw=>ge j l r fs w (by simpa using hw)) ⟨.bl _,H,I,rfl,?_⟩;rw[show J.toArray.any (vS x)=J.any (vS x) by simp,gY r fs];exact q
theorem pX:w6 X (compareOp .NotIn) (FR X.K true):=by
 intro g s C H x y v u Q I j o h;obtain⟨p,T,rfl,U,l,fs,q⟩:=h;cases o;rcases U with U|U
 ·obtain⟨J,r,pl,t⟩:=I.list U;refine SeqAt.notIn_listAt (vS x) pl.isList (λw hw=>ge j l r fs w (by simpa using hw)) ⟨.bl _,H,I,rfl,?_⟩;rw[show J.toArray.any (vS x)=J.any (vS x) by simp,gY r fs];exact q
 ·obtain⟨J,r,pl,t⟩:=I.tuple U;refine SeqAt.notIn_tupleAt (vS x) pl (λw hw=>ge j l r fs w (by simpa using hw)) ⟨.bl _,H,I,rfl,?_⟩;rw[show J.toArray.any (vS x)=J.any (vS x) by simp,gY r fs];exact q
theorem pI:jo X (.builtin "len") (λxs H Q=>∃p ys,xs=[.ref p]/\(wr X.K H p ys\/cT X.K H p ys)/\Q (.int ys.length) H):=by
 intro l s C H xs T Q I r h;obtain⟨p,ys,rfl,U,q⟩:=h;obtain⟨u,rfl,o⟩:=sJ r;cases o;have hn:=iN;rcases U with U|U
 ·obtain⟨g,j,pl,t⟩:=I.list U;have J:=j.length;exact Calls.call_len_list pl.isList (by simp only[Ar]<;>lia) ⟨.int ys.length,H,I.tok _,⟨s.toks+1,by rw[Ar,J]⟩,q⟩
 ·obtain⟨g,j,pl,t⟩:=I.tuple U;have J:=j.length;exact len_tuple pl (by simp only[Ar]<;>lia) ⟨.int ys.length,H,I.tok _,⟨s.toks+1,by rw[Ar,J]⟩,q⟩
theorem pD:jo X (.builtin "len") (λxs H Q=>∃z,xs=[.str z]/\z.length<=sizeLine/\Q (.int z.length) H):=by intro J s U H xs g Q I r h;obtain⟨z,rfl,j,q⟩:=h;obtain⟨u,rfl,t,rfl⟩:=sJ r;have l:=iN;exact len_str (by lia) ⟨.int z.length,H,I.tok _,⟨_,rfl⟩,q⟩
theorem qF:jo X (.type "list") (λxs H Q=>∃p ys,xs=[.ref p]/\(wr X.K H p ys\/cT X.K H p ys)/\∀l,H l=none->Q (.ref l) (upd H l<|.lst ys)):=by
 intro t s σ H xs us Q I r h;obtain⟨p,ys,rfl,C,q⟩:=h;obtain⟨u,rfl,rx⟩:=sJ r;cases rx;have x0:∀(J:List Value),zn ys J->ys.length<=sizeLine->∀(U:Heap) (g:Nat),(∀b o',s.heap.get? b=some o'->U.get? b=some o')->
  U.get? s.heap.objs.size=some { cls:=.type "list",dict:=none,data:=.seq J.toArray g,slots:=#[] }->EP X t σ Q (.ref s.heap.objs.size) { s with heap:=U }:=λJ j T U g kp e=>
  ⟨.ref s.heap.objs.size,_,I.laid (t':=s.toks) kp (Ap _)<|show xu X.prog X.w _ U _ (.lst ys) from⟨T,J,g,j,e⟩,rfl,q _<|I.hok.fresh<|Ap _⟩
 rcases C with C|C
 ·obtain⟨J,j,pl,T⟩:=I.list C;have a0:=j.length;obtain⟨o,ho,hc,n,hd⟩:=pl.isList;exact call_list_seq p (.inl rfl) ho hc hd (λU g kp e=>x0 J j T U g kp e) (by simp only[Ar]<;>lia)
 ·obtain⟨J,j,pl,T⟩:=I.tuple C;have a0:=j.length;obtain⟨o,ho,hc,n,hd⟩:=pl;exact call_list_seq p (.inr rfl) ho hc hd (λU g kp e=>x0 J j T U g kp e) (by simp only[Ar]<;>lia)
theorem nL:jo X (.type "tuple") (λxs H Q=>∃p ys,xs=[.ref p]/\((wr X.K H p ys/\∀l,H l=none->Q (.ref l) (upd H l<|.tup ys))\/(cT X.K H p ys/\Q (.ref p) H))):=by
 intro J s C H xs us Q I r h;obtain⟨p,ys,rfl,h⟩:=h;obtain⟨u,rfl,rx⟩:=sJ r;cases rx;rcases h with⟨j,q⟩|⟨j,q⟩
 ·obtain⟨U,t,pl,T⟩:=I.list j;have a0:=t.length;refine call_tuple_list pl.isList (λg kp=>?_) (by simp only[Ar]<;>lia);have I1:z8 X J C H { s with heap:=g }:=I.kept (t':=s.toks) kp;have I2:z8 X J C (upd H g.objs.size<|.tup ys) { s with heap:=g.push { cls:=.type "tuple",data:=.seq U.toArray } }:=
   I1.laid (t':=s.toks) (λb o e=>oe _ e) (Ap _) (show xu X.prog X.w _ _ _ (.tup ys) from⟨T,U,t,IsTup.new _ _⟩)
  exact⟨.ref g.objs.size,_,I2,rfl,q _<|I1.hok.fresh<|Ap _⟩
 ·obtain⟨U,t,pl,T⟩:=I.tuple j;exact call_tuple_same pl ⟨.ref p,H,I,rfl,q⟩
def FT(K:Aj)(T:String)(x:V)(H:Hp):Prop:=match x with
 |.str _=>T = "str"
 |.int _=>T = "int"
 |.ref p=>(T = "list" /\ ∃xs,wr K H p xs)\/(T = "tuple" /\ ∃o,K.lookup p=some o/\o.cls=.type "tuple" /\ o.dict=none)\/
  (T = "dict" /\ ((∃kvs,H p=some (.dK kvs))\/∃kvs,H p=some (.dT kvs)))\/(T = "set" /\ ∃S n,H p=some (.set S n))
 |_=>False
theorem Oc{T:String}{x:V}(I:z8 X pins σ H s)(r:zk x v)(ty:FT X.K T x H):
 s.TypeIs v T/\∀a,v=.ref a->∃j,s.heap.get? a=some j/\j.dict=none:=by
 cases x with
 |str z=>
  obtain⟨t,rfl⟩:=r;cases (show T = "str" from ty);exact⟨typeIs_str s z t,λ_ e=>nomatch e⟩
 |int i=>
  obtain⟨t,rfl⟩:=r;cases (show T = "int" from ty);exact⟨typeIs_int s i t,λ_ e=>nomatch e⟩
 |ref p=>
  cases r;rcases ty with⟨rfl,xs,l⟩|⟨rfl,o,J,C,hd⟩|⟨rfl,J⟩|⟨rfl,S,n,J⟩
  ·obtain⟨a0,_,pl,_⟩:=I.list l;refine⟨pl.isList.typeIs,λa e=>?_⟩;cases e;obtain⟨o,n,e,c,hd,_⟩:=pl;exact⟨o,e,hd⟩
  ·refine⟨⟨o,I.kIn p o J,C⟩,λa e=>?_⟩;cases e;exact⟨o,I.kIn _ o J,hd⟩
  ·have z:∃o,s.heap.get? p=some o/\o.ExactDict:=by
    rcases J with⟨U,J⟩|⟨U,J⟩
    ·obtain⟨_,_,_,_,o,_,_,e,ex,_⟩:=I.hok p _ J;exact⟨o,e,ex⟩
    ·obtain⟨_,_,_,_,o,_,_,e,ex,_⟩:=I.hok p _ J;exact⟨o,e,ex⟩
   obtain⟨o,e,ex⟩:=z;refine⟨⟨o,e,ex.1⟩,λa g=>?_⟩;cases g;exact⟨o,e,ex.2.1⟩
  ·obtain⟨o,_,_,_,e,ex,_⟩:=I.hok p _ J;refine⟨⟨o,e,ex.1⟩,λa g=>?_⟩;cases g;exact⟨o,e,ex.2.1⟩
 |_=>exact False.elim ty
def Od(K:Aj)(T:String)(r:V->List V->Hp->VK->Prop)(to:TE)(t:TA):TE:=λσ H Q=>to σ H λx H1=>FT K T x H1/\t σ H1 λxs H2=>r x xs H2 Q
variable {to:TE}{T id:String}{r:V->List V->Hp->VK->Prop}
theorem Ht(pa:PlainAttrs T)(slot:Slot T name id)(p:typeOf (.builtin id)=pure (.type "method_descriptor"))(hm:NW X id r)(ho:PE X o to)(ha:PA X (e::es) t)
 (g:attributeBase o name X.env (eval o X.env)=eval o X.env:=by rfl)
 (l:((backTo ft<|starEach (e::es) X.env).all (λx=>!x.1)&&(backToKw ft<|keywordEach [] X.env).all (λx=>x.1.isSome)
  && decide ((e::es).length+([]:List Keyword).length+(if ([]:List Keyword).isEmpty then 0 else 1)<30))=true:=by rfl)
 (j:(apos.endLine==ft.line)=true:=by rfl) (hs:Fb e es X:=by rfl) (U:Fc ft es X:=by rfl):
 PE X (.Call (.Attribute o name apos) (e::es) [] ft) (Od X.K T r to t):=by
 intro J s C H Q I h;refine wpAny_Call_method_late g l j rfl<|aT (ho J s C H _ I h) λv s1 ψ=>?_;obtain⟨x,H1,I1,r1,ty,q1⟩:=ψ;obtain⟨h1,h2⟩:=Oc I1 r1 ty;refine⟨T,id,pa,slot,p,h1,h2,?_⟩;have hA:=ha ft J s1 C H1 _ I1 q1;rw[hs] at hA ⊢;refine Calls.callWith_builtin (by show(false||(backTo ft<|starEach es X.env).any (·.1))=false;rw[U]<;>rfl)<|Calls.evalArgs_plain ?_;exact aT hA λus s2 ψ=>(by obtain⟨vs,H2,I2,r2,q2⟩:=ψ;exact hm J s2 C H2 x vs v us Q I2 r1 r2 q2)
end
def mO(X:Cx)(id:String)(r:V->List V->Hp->VK->Prop):Prop:=
 ∀(pins:List<|Addr×Obj) (s:Shared) (σ:St) (H:Hp) (x:V) (xs:List V) (v:Value) (us:List Value) (Q:VK),z8 X pins σ H s->zk x v->zn xs us->r x xs H Q->
  wpAny (model X.prog X.w) X.A (call (.builtin id)<|v::us) (EP X pins σ Q) X.xe s
theorem zn.one{x:V}(h:zn [x] us):∃u,us=[u]/\zk x u:=by cases h with|cons r t=>cases t;exact⟨_,rfl,r⟩
theorem zn.two{x y:V}(h:zn [x,y] us):∃u v,us=[u,v]/\zk x u/\zk y v:=by cases h with|cons r t=>cases t with|cons q t=>cases t;exact⟨_,_,rfl,r,q⟩
theorem zn.eraseIdx:∀{xs:List V} {us:List Value} (i:Nat),zn xs us->zn (xs.eraseIdx i) (us.eraseIdx i)
 |_,_,_,.nil=>.nil
 |_,_,0,.cons _ t=>t
 |_,_,i+1,.cons r t=>.cons r<|zn.eraseIdx i t
theorem oN{α:Type}:∀(l:List α) (i:Nat),(l.eraseIdx i).length<=l.length
 |[],_=>Ap _
 |_::_,0=>B6 _
 |_::r,i+1=>Nat.succ_le_succ<|oN r i
section
variable {b:Addr}{ys:List V}
theorem z8.lset{its':List Value}{f:Array Value->Array Value}(I:z8 X pins σ H s)(J:H l=some (.lst xs))
 (e:s.heap.get? l=some { cls:=.type "list",data:=.seq eH.toArray n }) (U:f eH.toArray=its'.toArray) (g:zn ys its') (hz:ys.length<=sizeLine) (p:0<t':=by walk_at "t"):
 z8 X pins σ (upd H l<|.lst ys) { s with heap:=s.heap.update l<|Obj.mapSeq f,toks:=t' }:=by
 have q:=PySem.IsL.update e f;rw[U] at q;refine I.write (x:=l) (e:=l) (by rw[J];exact trivial) (.inl rfl) (λr u j o=>(Heap.get?_update_other s.heap (Obj.mapSeq f)<|A4 j).trans o) ⟨_,q⟩ ?_;exact⟨hz,its',_,g,q⟩
theorem z8.lnew(I:z8 X pins σ H s)(J:zn ys eH)(hz:ys.length<=sizeLine)(U:0<t':=by walk_at "t"):
 z8 X pins σ (upd H s.heap.objs.size<|.lst ys) { s with heap:=s.heap.push { cls:=.type "list",data:=.seq eH.toArray },toks:=t' }:=
 I.laid (λ_ _ q=>oe _ q) (Ap _) ⟨hz,eH,0,J,pR _ rfl⟩
theorem z8.fresh(I:z8 X pins σ H s):H s.heap.objs.size=none:=I.hok.fresh<|Ap _
theorem z8.lstM(I:z8 X pins σ H s)(J:H l=some (.lst xs)):xs.length<=sizeLine/\∃(eH:List Value) (n:Nat),zn xs eH/\xs.length=eH.length/\s.heap.get? l=some { cls:=.type "list",data:=.seq eH.toArray n }:=by obtain⟨z,eH,n,r,e⟩:=I.hok l _ J;exact⟨z,eH,n,r,r.length,e⟩
theorem Oe(h:n<=sizeLine):Builtin.List.listTooLong n=false:=by unfold Builtin.List.listTooLong;exact Au (by lia)
end
def Of:V->List V->Hp->VK->Prop:=λx vs H Q=>∃l xs y,x=.ref l/\vs=[y]/\H l=some (.lst xs)/\xs.length<sizeLine/\Q .non (upd H l<|.lst<|xs++[y])
theorem zZ:mO X "list.append" Of:=by intro U s t H x C v T Q I j o h;obtain⟨l,xs,y,rfl,rfl,g,hz,q⟩:=h;cases j;obtain⟨u,rfl,p⟩:=o.one;obtain⟨z,J,n,r,hl,e⟩:=I.lstM g;refine call_meets F.slot_list_append ⟨_,e,rfl⟩ F.entry_list_append (F.args_list_append_2 _ _) (PySem.list_append l J.toArray n u (by rw[Ar];lia)) ⟨e,?_⟩;refine⟨.non,_,I.lset (its':=J++[u]) g e (by simp) (r.append<|.cons p .nil) ?_,rfl,q⟩;rw[Ad,CF];lia
def Og:V->List V->Hp->VK->Prop:=λx vs H Q=>∃l b xs zs,x=.ref l/\vs=[.ref b]/\H l=some (.lst xs)/\H b=some (.lst zs)/\xs.length+zs.length<=sizeLine/\Q .non (upd H l<|.lst<|xs++zs)
theorem Oh:mO X "list.extend" Og:=by
 intro o s σ H x vs v us Q I t C h;obtain⟨l,b,xs,zs,rfl,rfl,p,T,hz,q⟩:=h;cases t;obtain⟨u,rfl,ru⟩:=C.one;cases ru;obtain⟨z,U,n,r,hl,e⟩:=I.lstM p;obtain⟨z2,J,n2,r2,a0,e2⟩:=I.lstM T;have j:U.toArray.size+J.toArray.size<=sizeLine:=by rw[Ar,Ar];lia
 have g:¬(!U.toArray.isEmpty&&Builtin.List.listTooLong (U.toArray.size+J.toArray.size))=true:=by rw[Oe j,EE];exact AI
 refine call_meets F.slot_list_extend ⟨_,e,rfl⟩ F.entry_list_extend (F.args_list_extend_2 _ _)
  (AutoSeq1.list_extend_list_list_0 l U.toArray n b J.toArray n2 g (by rw[Ar];lia) (by lia)) ⟨e,e2,?_⟩
 refine⟨.non,_,I.lset (its':=U++J) p e (by simp) (r.append r2) ?_,rfl,q⟩;rw[Ad];lia
def Oi:V->List V->Hp->VK->Prop:=λx vs H Q=>∃l xs i k y,x=.ref l/\vs=[.int i]/\H l=some (.lst xs) /\ -(2 ^ 63)<=i/\i<2 ^ 63/\seqIndex? i xs.length=some k/\xs[k]?=some y/\Q y (upd H l<|.lst<|xs.eraseIdx k)
theorem Oj:mO X "list.pop" Oi:=by
 intro g s σ H x vs v us Q I o p h;obtain⟨l,C,i,k,y,rfl,rfl,j,T,h2,hk,hy,q⟩:=h;cases o;obtain⟨u,rfl,ru⟩:=p.one;obtain⟨t,rfl⟩:=ru;obtain⟨z,J,n,r,hl,e⟩:=I.lstM j;obtain⟨w,hw,U⟩:=r.get hy;refine call_meets F.slot_list_pop ⟨_,e,rfl⟩ F.entry_list_pop (F.args_list_pop_2 _ _)
  (MeetsSeq.list_pop_at l J.toArray n i t k w (fitsIndex_both T h2) (by rw[Ar,<-hl];exact hk) (by rw[<-Bd];exact hw) (by rw[Ar];lia)) ⟨e,?_⟩
 refine⟨y,_,I.lset (its':=J.eraseIdx k) j e ?_ (r.eraseIdx k) ?_,U,q⟩
 ·show J.toArray.eraseIdxIfInBounds k=(J.eraseIdx k).toArray;rw[List.eraseIdxIfInBounds_toArray]
 ·have:=oN C k;lia
def Ol:R2:=λx y H Q=>∃l b xs zs,x=.ref l/\y=.ref b/\H l=some (.lst xs)/\H b=some (.lst zs)/\xs.length+zs.length<=sizeLine/\∀p,H p=none->Q (.ref p) (upd H p<|.lst<|xs++zs)
theorem Om:w6 X (binaryOp .Add) Ol:=by
 intro g s σ H x y v u Q I j o h;obtain⟨l,b,xs,zs,rfl,rfl,p,t,hz,q⟩:=h;cases j;cases o;obtain⟨z,U,n,r,hl,e⟩:=I.lstM p;obtain⟨z2,J,n2,C,T,e2⟩:=I.lstM t;refine PySem.P.add_list e e2 ?_ (by rw[Ar,Ar];lia);have ea:U.toArray++J.toArray=(U++J).toArray:=by simp
 rw[ea];exact⟨.ref _,_,I.lnew (t':=s.toks) (r.append C) (by rw[Ad];lia),rfl,q _ I.fresh⟩
section
variable {w:World}
set_option maxRecDepth 100000 in
end
end L2
namespace Att
open PySem PySem.W PySem.Calls PyProof.Rows
theorem jR{P:Params} :∀(I:List Int) (vs:List Value),WellAll P h vs (I.map WData.int)->IntsAre vs I:=by
 intro I
 induction I with
 |nil=>
  intro vs w;rw[Dh] at w;cases w;exact .nil
 |cons n I J=>
  intro vs w;rw[AG] at w;cases w with
  |cons a b=>
   cases a;exact .cons _ _<|J _ b
theorem ye{l:OpenLaw}(hn:l.most=some n){P:Params}{args:List WData}{J:List Value}
 (U:l.row.toRowW.claim.pre args=true) (t:WellAll P h J args):
 ∃a vs I,J=[Value.ref a]/\args=[WData.list<|I.map WData.int]/\h.get? a=some { cls:=.type "list",data:=.seq vs.toArray }/\IntsAre vs I/\I.length<=n:=by
 have C:WShape.hasAll [] args [.list .int]=true:=(pre_splitW U).1;have T:l.pre.holds [] { args:=args }=true:=(pre_splitW U).2;obtain⟨d,r,rfl,h1,h2⟩:=hasAllW_cons C;obtain rfl:=hasAllW_nil h2;obtain⟨xs,rfl,h3⟩:=hasW_list h1;obtain⟨I,rfl⟩:=items_int h3;have g:I.length<=n:=by
  unfold OpenLaw.pre at T;have o:(WTm.not<|.lt (.lit<|.int (n:Int))<|.len<|.arg 0).holds [] { args:=[.list<|I.map .int] }=true:=by have o:=(holds_andW T).1;rw[hn] at o;exact o
  have p:=condW_of o<|w_not<|w_lt w_lit<|w_len_list<|w_arg rfl;rw[Ah] at p;refine Nat.le_of_not_lt λq=>?_;have q':(n:Int)<((I.length:Nat):Int):=by lia
  first
   |(rw[Av q'] at p;exact absurd p (by decide))
   |(simp at p;lia)
 cases t with
 |cons w1 w2=>
  cases w2;cases w1 with|list ho j=>exact⟨_,_,I,rfl,rfl,ho,jR I _ j,g⟩
theorem yz(l:OpenLaw)(args:List WData):l.row.toRowW.claim.post args (.bool true) args=true:=
 postW_of (r:=l.row.toRowW) (X:=(true==true))
  (show WShape.has [] (.bool true) .bool=true by first|rfl|decide|simp[WShape.has,WShape.arms,WShape.armsAll])
  (show(WTm.eq .res<|.lit<|.bool true).value [] { args:=args,res:=some<|.bool true,after:=args }=some (.bool<|true==true) from w_eq_bool (w_res rfl) w_lit) rfl
theorem attach_callZ{l:OpenLaw}{q:Program}{loose:List Str}{XP:(Str->Option Value)->Heap->Prop}{as0:List Addr}{N t:Nat}{K:Params->Frag}{d:DefRec}
 (hn:l.most=some n) (C:d.params.defaults=[]) (ek:∀P,as0=(K P).map (·.1)) (T:0<t)
 (call:∀(w:World) (s₀ I:Shared) (mg mb:Str->Option Value) (fa:Addr) (o:Obj) (pm cd hE:Value) (a:Addr) (vs:List Value) (J:List Int),
  Ground q loose [] XP w s₀ mg mb I.heap->(K w.params).In I.heap->0<I.toks->
  I.heap.get? fa=some o->o.data=.func (docDef d.name d.params d.body d.scope pm cd hE)->I.heap.CodeRec cd d.name->mg d.name=some (.ref fa)->
  I.heap.get? a=some { cls:=.type "list",data:=.seq vs.toArray }->IntsAre vs J->J.length<=n->I.gens=#[]->
  codeAny (model l.prog w) callerA (.call (.ref fa) ⟨[.ref a],[]⟩) (λr s'=>r=.ok (.ret<|.bool true)/\OldK I.heap s'.heap/\s'.os=I.os/\AllBare s'.gens) I):
 WalkX q loose XP (PySem.W.X.obsZ as0) (PySem.W.X.valZ K N t) l.row.toRowW d [] (λf vs=>PySem.call f vs):=by
 intro w s₀ I mg mb G Y fa o pm cd hE dV kV ho hd a0 hD a1 hg args a4 as L g a5 a7 a2 ab;obtain rfl:dV=.none:=Dflts.none hD C;obtain rfl:kV=.none:=Dflts.noKw hD;obtain⟨a,vs,J,rfl,rfl,j,U,p⟩:=ye hn g a2;obtain⟨_,zi,_,zt⟩:=X.z_facts ek Y;have eP:∀J:List Int,ofPy (PyData.list<|J.map PyData.int)=WData.list (J.map WData.int):=λJ=>by
  simp only[ofPy];congr 1
  induction J with|nil=>simp[ofPys]|cons n r ih=>simp only[AG,ofPys,ofPy,ih]
 rw[<-eP] at L;have KX:=InK.keeps w s₀.heap I.heap zi L.keeps;have a3:0<I.toks:=AR T<|X.script_toks L zt;refine enter_call<|codeAny_mono (call w s₀ I mg mb fa o pm cd hE a vs J G KX a3 ho (fd_plain hd) a0 a1 j U p hg) λr s' hq=>?_;obtain⟨rfl,h2,h3,h4⟩:=hq;exact⟨.inl ⟨.bool true,.bool true,[],rfl,λ_=>rfl,.bool true,yz l _,λ_=>⟨List.Pairwise.nil,λ_ hm=>(nomatch hm)⟩⟩,h2,h3,h4⟩
section
variable {w:World}{K:Frag}
end
end Att
namespace L2
open PySem PySem.Spec PyProof.Rows
theorem oZ:∀{vs:List Value} {I:List Int},IntsAre vs I->zn (I.map V.int) vs
 |_,_,.nil=>.nil
 |_,_,.cons n t h=>.cons ⟨t,rfl⟩<|oZ h
def jy(s:Stmt):Arguments:=match s with
 |.FunctionDef _ a _ _ _ _ _ _ _ _=>a
 |_=>{ posonlyargs:=[],args:=[],vararg:=none,kwonlyargs:=[],kw_defaults:=[],kwarg:=none,defaults:=[] }
def j7(s:Stmt):List Stmt:=match s with
 |.FunctionDef _ _ b _ _ _ _ _ _ _=>b
 |_=>[]
def qo(s:Stmt):Scope:=match s with
 |.FunctionDef _ _ _ _ _ _ I _ _ _=>I
 |_=>{ kind:=.function,names:=[],isGenerator:=false,isCoroutine:=false }
abbrev CX0:y4:=λ_ _ _ _ _ _=>False
abbrev E0:XK:=λ_ _ _=>False
theorem FU :iG CX0 X E0:=λ_ _ _ _ _ _ _ h=>h.elim
structure Fun(K:Aj)(x eA:Str)(st:Stmt)(f:Addr)(fd:FuncData):Prop where
 ex:∃(oc:Value) (od:Option Addr) (kV hE pm:Value) (an:Option Addr) (eK ct:Value) (mv:Array<|Option Value),
  fd=PySem.W.fnOf x eA (jy st) (j7 st) (qo st) .none kV hE pm an eK ct/\K.lookup f=some ⟨oc,od,.func fd,mv⟩/\PySem.W.codeIn K eK eA=true
 kp:PySem.W.keepIn K (.ref f)=true
section
variable {P:Program}{w:World}{K:Aj}
theorem Fun.ok{f:Addr}{N:List Str}{k:Nat}{sp:Sp}(F:Fun K x eA st f fd)(S:ag N ps<|qo st)(len:∀vs H Q E,sp vs H Q E->vs.length=ps.length)
 (I:∀(eK:Value) (A:Around) (outer:List Env) (s:Shared) (H:Hp) (vs:List V) (Q:VK) (E:XK),vo k (A.deeper<|envOfC eA (qo st) s.heap.objs.size f eK)->sp vs H Q E->
  ∃t,jP (g9 CX0 P w K mg base N eA (qo st) f eK A outer s H E).nox (j7 st) t/\t { nx:=λ_ H'=>Q .non H',rt:=Q } (start N vs) H):bG P w K mg base CX0 (k+1) f fd ps sp:=by
 obtain⟨o,p,kV,g,pm,an,eK,r,j,rfl,lk,J⟩:=F.ex;refine Hk lk J S len λA outer s H vs Q E l U=>?_;obtain⟨t,h,q⟩:=I eK A outer s H vs Q E l U;exact⟨t,h.nox,q⟩
theorem Hu{f:Addr}{kV ct:Value}(l:K.lookup f=some ⟨oc,od,.func<|PySem.W.fnOf x eA (jy st) (j7 st) (qo st) .none kV hE pm an eK ct,mv⟩)
 (c:PySem.W.codeIn K eK eA=true) (k:PySem.W.keepIn K (.ref f)=true):Fun K x eA st f (PySem.W.fnOf x eA (jy st) (j7 st) (qo st) .none kV hE pm an eK ct):=⟨⟨oc,od,kV,hE,pm,an,eK,ct,mv,rfl,l,c⟩,k⟩
end
theorem nw(h:n<=1000):n<sizeLine:=BA h (by decide)
theorem pv(i:Nat)(hN:X.N[i]?=some x:=by rfl)(J:u2 X.env.scope x:=by first|exact Or.inl rfl|exact Or.inr (Or.inl rfl)|exact Or.inr<|Or.inr rfl)(hd:Fe x:=by decide)
 (I:Ff x:=by decide):PE X (.Name x pos) (Fz i):=Lz hN J hd I
section
variable [DecidableEq κ]
end
end L2
set_option maxHeartbeats 8000000
theorem D_{a b c:Nat}(h:a<b:=by assumption)(k:b<=c:=by assumption):a<c:=AR h k
theorem i9{a b c:Nat}(h:a<=b:=by assumption)(k:b<c:=by assumption):a<c:=BA h k
theorem FV{a b c:Nat}(h:a<=b:=by assumption)(k:b<=c:=by assumption):a<=c:=AN h k
theorem qR{a b c:Nat}(h:a<b:=by assumption)(k:b<c:=by assumption):a<c:=Nat.lt_trans h k
theorem wE{a b c:Nat}(h:a<=b:=by assumption)(k:b<=c:=by decide):a<=c:=AN h k
theorem Fi{a b:Nat}(h:a<=b:=by assumption):a<b+1:=Nat.lt_succ_of_le h
theorem Oo{a b:Nat}(h:a<=b:=by assumption):a<=b+1:=B1 h
theorem iK{a b:Nat}(h:a<b:=by assumption):a<=b:=Bf h
theorem Hv{a b:Nat}(h:a<b:=by assumption):a≠b:=A5 h
theorem Hw{a b:Nat}(h:b<a:=by assumption):a≠b:=Dv h
theorem Ec{a:Nat}(h:a≠0:=by assumption):0<a:=Nat.pos_of_ne_zero h
theorem Op{a b c:Nat}(h:a<b:=by assumption)(k:b<=c:=by assumption):a<=c:=AN (Bf h) k
theorem Hx{a b c:Nat}(h:a<b:=by assumption):a<b+c:=AR h<|Bg _ _
theorem vF{a b:Nat}(h:a=b:=by assumption):a<=b:=El h
theorem yJ{a b:Nat}(h:¬a<b:=by assumption):b<=a:=Nat.le_of_not_lt h
theorem Hy{a b:Nat}(h:¬b<=a:=by assumption):a<b:=Nat.lt_of_not_le h
theorem Hz{a b:Nat}(h:a<b+1:=by assumption):a<=b:=Nat.le_of_lt_succ h
theorem yV{a b:Nat}(h:0<a:=by assumption)(k:0<b:=by decide):a-b<a:=Nat.sub_lt h k
theorem HA{a b c:Nat}(h:a<=c:=by assumption):a-b<=c:=AN (EK _ _) h
theorem oo{a b c:Nat}(h:a<c:=by assumption):a-b<c:=BA (EK _ _) h
theorem yY{a b:Nat}(h:a<=b:=by assumption)(k:a≠b:=by assumption):a<b:=Nat.lt_of_le_of_ne h k
namespace L2
open PySem PySem.Spec PyProof.Rows
def Oq:R2:=λx y H Q=>match x,y with
 |.int i,.int j=>Q (.int<|i+j) H
 |.str a,.str b=>a.length+b.length<=sizeLine/\Q (.str<|a++b) H
 |.ref l,.ref b=>∃xs zs,H l=some (.lst xs)/\H b=some (.lst zs)/\xs.length+zs.length<=sizeLine/\∀p,H p=none->Q (.ref p) (upd H p<|.lst<|xs++zs)
 |_,_=>False
theorem Ot:w6 X (binaryOp .Add) Oq:=by
 intro J s U H x y v u Q I g j h;cases x<;>cases y<;>first
  |exact False.elim h
  |exact MJ J s U H _ _ v u Q I g j ⟨_,_,rfl,rfl,h⟩
  |exact vT J s U H _ _ v u Q I g j ⟨_,_,rfl,rfl,h.1,h.2⟩
  |(obtain⟨l,o,p,r,t,C⟩:=h;exact Om J s U H _ _ v u Q I g j ⟨_,_,l,o,rfl,rfl,p,r,t,C⟩)
def KD(K:Aj)(P:Program)(w:World)(a:Addr)(kvs:List<|j9×V):Prop:=
 (a==sysModules)=false/\kvs.length<=sizeLine/\∀h:Heap,K.In h->∃vs,KV kvs vs/\h.DictOf (xo P w) a vs
def HB(K:Aj)(P:Program)(w:World):R2:=λx y H Q=>match x,y with
 |.str z,.int i=>z.length<=sizeLine/\∃c,bp z.cps.toList i=some c/\Q (.str ⟨#[c]⟩) H
 |.ref p,.int i=>∃xs v,(wr K H p xs\/cT K H p xs)/\bp xs i=some v/\Q v H
 |.ref p,.str k=>∃kvs v,(Rd H p (.dK kvs)\/KD K P w p kvs)/\bM kvs (Sum.inr k)=some v/\Q v H
 |_,_=>False
theorem HE{slice:Expr}{a:Addr}{vs:List<|j9×Value}{k:j9}{J:Value}{v:V}{Q:VK}(I:z8 X pins σ H s)(U:s.heap.DictOf (xo X.prog X.w) a vs)(g:lZ k u=true)
 (hw:valueAt vs k=some J) (r:zk v J) (q:Q v H) (hs:subscripted slice false (.ref a) u=operate [.ref a,u] (getItem (.ref a) u)):wpAny (model X.prog X.w) X.A (subscriptTail value slice (.ref a) u) (EP X pins σ Q) X.xe s:=
 tail_any U.typeIs DE.lookup (wpAny_getItem_of g U.mapOf hw ⟨v,H,I.tok _,r,q⟩) hs
theorem Ou:IxR X (HB X.K X.prog X.w):=by
 intro value slice U s σ H x y v u Q I rx ry q r;cases x with
 |str z=>
  cases y with
  |int i=>
   obtain⟨J,c,g,j⟩:=q;exact N6 value slice U s σ H _ _ v u Q I rx ry ⟨z,i,c,rfl,rfl,J,g,j⟩ r
  |_=>exact q.elim
 |ref p=>
  cases y with
  |int i=>
   obtain⟨xs,t,J,g,j⟩:=q;rcases J with J|J
   ·exact N4 value slice U s σ H _ _ v u Q I rx ry ⟨p,xs,i,t,rfl,rfl,J,g,j⟩ r
   ·exact N5 value slice U s σ H _ _ v u Q I rx ry ⟨p,xs,i,t,rfl,rfl,J,g,j⟩ r
  |str k=>
   obtain⟨a0,t,J,g,j⟩:=q;have C:zk (kV<|Sum.inr k) u:=ry;cases (show v=Value.ref p from rx);rcases J with J|J
   ·obtain⟨z,hd,vs,rel,T⟩:=oQ I.hok J;obtain⟨w2,hw,l⟩:=EV (v:=t) (o:=valueAt vs<|Sum.inr k) (by rw[<-g];exact rel.val _);exact HE I T (iy (P:=X.prog) (w:=X.w) C) hw l j r
   ·obtain⟨hd,z,T⟩:=J;obtain⟨vs,rel,T⟩:=T s.heap I.kIn;obtain⟨w2,hw,l⟩:=EV (v:=t) (o:=valueAt vs<|Sum.inr k) (by rw[<-g];exact rel.val _);exact HE I T (iy (P:=X.prog) (w:=X.w) C) hw l j r
  |_=>exact q.elim
 |_=>cases y<;>exact q.elim
def Ov(K:Aj):List V->Hp->VK->Prop:=λxs H Q=>match xs with
 |[.str z]=>z.length<=sizeLine/\Q (.int z.length) H
 |[.ref p]=>∃ys,(wr K H p ys\/cT K H p ys)/\Q (.int ys.length) H
 |_=>False
theorem zH:jo X (.builtin "len") (Ov X.K):=by
 intro J s U H j g Q I r h;obtain _|⟨x,_|⟨y,t⟩⟩:=j
 ·exact h.elim
 ·cases x with
  |str z=>exact pD J s U H _ g Q I r ⟨z,rfl,h.1,h.2⟩
  |ref p=>
   obtain⟨l,o,C⟩:=h;exact pI J s U H _ g Q I r ⟨p,l,rfl,o,C⟩
  |_=>exact h.elim
 ·cases x<;>exact h.elim
inductive Da where
 |s (v:V)
 |tup (xs:List Da)
 |lst (xs:List Da)
mutual
def Da.eq:Da->Da->Bool
 |.s v,.s w=>jT v w
 |.tup xs,.tup ys=>Da.eqs xs ys
 |.lst xs,.lst ys=>Da.eqs xs ys
 |_,_=>false
def Da.eqs:List Da->List Da->Bool
 |[],[]=>true
 |x::xs,y::ys=>Da.eq x y&&Da.eqs xs ys
 |_,_=>false
end
def xz(K:Aj)(H:Hp):Nat->V->Da->Prop
 |0,v,d=>d=.s v/\a9 v=true
 |n+1,v,d=>(d=.s v/\a9 v=true)\/(∃a xs ds,v=.ref a/\d=.tup ds/\cT K H a xs/\Paired (xz K H n) xs ds)\/(∃a xs ds,v=.ref a/\d=.lst ds/\wr K H a xs/\Paired (xz K H n) xs ds)
theorem Da.eqs_range:∀(ds es:List Da),((List.range<|min ds.length es.length).all (λj=>Da.eq (ds.getD j<|.s .non)<|es.getD j<|.s .non)&&ds.length==es.length)=Da.eqs ds es
 |[],[]=>by simp[Da.eqs]
 |[],e::es=>by simp[Da.eqs]
 |d::ds,[]=>by simp[Da.eqs]
 |d::ds,e::es=>by
  have I:=Da.eqs_range ds es;rw[Da.eqs,<-I];have:min (d::ds).length (e::es).length=min ds.length es.length+1:=by simp only[AK];lia
  rw[this,List.range_succ_eq_map,DR,List.all_map];have J:((d::ds).length==(e::es).length)=(ds.length==es.length):=by simp
  rw[J,Bool.and_assoc];rfl
abbrev ES:=@Da.eqs_range
theorem Paired.at{F:α->β->Prop}:∀{xs:List α} {ys:List β} {j:Nat} {x:α} {y:β},Paired F xs ys->xs[j]?=some x->ys[j]?=some y->F x y:=by
 intro xs ys j x y h
 induction h generalizing j with
 |nil=>intro h _;simp at h
 |cons r t U=>
  intro I J;cases j with|zero=>simp at I J;subst I J;exact r|succ j=>exact U (j:=j) (by simpa using I) (by simpa using J)
abbrev ET:=@Paired.at
theorem gg:∀{v:V},a9 v=true->jT v v=true
 |.non,_=>rfl
 |.bl _,_=>by simp[jT]
 |.int _,_=>by simp[jT]
 |.str _,_=>by simp[jT]
theorem zy{a:Addr}(h:a9 (.ref a)=true):False:=by simp[a9] at h
theorem z8.notBoth(I:z8 X pins σ H s){a:Addr}{ys:List V}(h:cT X.K H a xs)(h':wr X.K H a ys):False:=by
 obtain⟨j,_,⟨o,e,c,_⟩,_⟩:=I.tuple h;obtain⟨U,_,⟨l,p,g,J,_⟩,_⟩:=I.list h';rw[e] at g;cases g;rw[c] at J;injection J with J
 exact absurd J (by decide)
theorem jY(I:z8 X pins σ H s):∀(n:Nat) {m:Nat} {x:V} {d e:Da},xz X.K H n x d->xz X.K H m x e->Da.eq d e=true
 |0,m,x,d,e,h1,g=>by
  obtain⟨rfl,f⟩:=h1;cases m with
  |zero=>obtain⟨rfl,_⟩:=g;exact gg f
  |succ m=>
   rcases g with⟨rfl,_⟩|⟨a,j,l,rfl,_⟩|⟨a,j,l,rfl,_⟩
   ·exact gg f
   ·exact(zy f).elim
   ·exact(zy f).elim
 |n+1,m,x,d,e,h1,g=>by
  have both:∀{j:List V} {l o:List Da} {m:Nat},Paired (xz X.K H n) j l->Paired (xz X.K H m) j o->Da.eqs l o=true:=by
   intro j l o m p
   induction p generalizing o with
   |nil=>intro q;cases q;rfl
   |cons r t ih=>
    intro q;cases q with|cons r' t'=>rw[Da.eqs,jY I n r r',ih t'];rfl
  rcases h1 with⟨rfl,f⟩|⟨a,j,l,rfl,rfl,T,hp⟩|⟨a,j,l,rfl,rfl,T,hp⟩
  ·cases m with
   |zero=>obtain⟨rfl,_⟩:=g;exact gg f
   |succ m=>
    rcases g with⟨rfl,_⟩|⟨a,j,l,rfl,_⟩|⟨a,j,l,rfl,_⟩
    ·exact gg f
    ·exact(zy f).elim
    ·exact(zy f).elim
  ·cases m with
   |zero=>exact(zy g.2).elim
   |succ m=>
    rcases g with⟨_,f⟩|⟨a',ys,o,C,rfl,J,U⟩|⟨a',ys,o,C,rfl,J,U⟩
    ·exact(zy f).elim
    ·cases C;cases I.tuple_inj T J;exact both hp U
    ·cases C;exact(I.notBoth T J).elim
  ·cases m with
   |zero=>exact(zy g.2).elim
   |succ m=>
    rcases g with⟨_,f⟩|⟨a',ys,o,C,rfl,J,U⟩|⟨a',ys,o,C,rfl,J,U⟩
    ·exact(zy f).elim
    ·cases C;exact(I.notBoth J T).elim
    ·cases C;cases I.list_inj T J;exact both hp U
theorem jc{a:Addr}{eH:Array Value}(p:PlainL h a eH):h.IsList a eH:=let ⟨o,n,e,c,_,d⟩:=p;⟨o,e,c,n,d⟩
theorem gx{ys:List V}{ds es:List Da}(px:Paired (xz X.K H n) xs ds)(py:Paired (xz X.K H m) ys es)(I:zn xs us)(J:zn ys vs)
 (p:∀{x y:V} {d e:Da} {u v:Value},xz X.K H n x d->xz X.K H m y e->zk x u->zk y v->SeqAt.EqAt A.in1 s u v (Da.eq d e)):
 ∀j (h1:j<us.toArray.size) (h2:j<vs.toArray.size),SeqAt.EqAt A.in1 s us.toArray[j] vs.toArray[j] (Da.eq (ds.getD j<|.s .non)<|es.getD j<|.s .non):=by
 intro j h1 h2;have C:=px.length;have T:=py.length;have l3:=I.length;have l4:=J.length;rw[Ar] at h1 h2;have U:xs[j]?=some xs[j]:=Al (by lia);have g:ys[j]?=some ys[j]:=Al (by lia);have l:ds[j]?=some ds[j]:=Al (by lia);have o:es[j]?=some es[j]:=Al (by lia);have r:us[j]?=some us[j]:=Al (by lia);have t:vs[j]?=some vs[j]:=Al (by lia);rw[Bv,Bv,l,o];exact p (ET px U l) (ET py g o) (ET I U r)<|ET J g t
theorem oP{a b:Addr}{ys:List V}{ds es:List Da}(I:z8 X pins σ H s)(g:A.units<cLine)(j:cT X.K H a xs)(l:cT X.K H b ys)(px:Paired (xz X.K H n) xs ds)(py:Paired (xz X.K H m) ys es)
 (o:∀{x y:V} {d e:Da} {u v:Value},xz X.K H n x d->xz X.K H m y e->zk x u->zk y v->SeqAt.EqAt A.in1 s u v (Da.eq d e)):SeqAt.RcAt A s (.ref a) (.ref b) (Da.eqs ds es):=by
 obtain⟨r,J,p,_⟩:=I.tuple j;obtain⟨t,U,ty,_⟩:=I.tuple l;have q:=SeqAt.RcAt.tuples p ty g<|gx px py J U o;rw[Ar,Ar,<-J.length,<-U.length,px.length,py.length,ES] at q;exact q
theorem rW{a b:Addr}{ys:List V}{ds es:List Da}(I:z8 X pins σ H s)(l:A.units<cLine)(p:wr X.K H a xs)(r:wr X.K H b ys)(px:Paired (xz X.K H n) xs ds)(py:Paired (xz X.K H m) ys es)
 (t:∀{x y:V} {d e:Da} {u v:Value},xz X.K H n x d->xz X.K H m y e->zk x u->zk y v->SeqAt.EqAt A.in1 s u v (Da.eq d e)):SeqAt.RcAt A s (.ref a) (.ref b) (Da.eqs ds es):=by
 obtain⟨C,U,o,_⟩:=I.list p;obtain⟨T,j,ty,_⟩:=I.list r;by_cases g:C.toArray.size=T.toArray.size
 ·have q:=SeqAt.RcAt.lists (jc o) (jc ty) g l<|gx px py U j t;have J:ds.length=es.length:=by rw[<-px.length,<-py.length,U.length,j.length];simpa using g
  have e:=ES ds es;rw[J,Nat.min_self] at e;rw[<-J] at e;rw[Ar,<-U.length,px.length] at q;simp only[beq_self_eq_true,DS] at e;rw[e] at q;exact q
 ·have q:=SeqAt.RcAt.lists_lengths (jc o) (jc ty) (by simpa using g) l;have J:ds.length≠es.length:=by rw[<-px.length,<-py.length,U.length,j.length];intro z;exact g (by simpa using z)
  have e:=ES ds es;have f:(ds.length==es.length)=false:=by simpa using J
  rw[f,EE] at e;rw[<-e];exact q
theorem iO(I:z8 X pins σ H s):∀(n:Nat) {m:Nat} {A:Around} {x y:V} {d e:Da} {u v:Value},A.units+n<cLine->xz X.K H n x d->xz X.K H m y e->zk x u->zk y v->SeqAt.EqAt A s u v (Da.eq d e):=by
 have J:∀{A:Around} {x:V} {u:Value} {b:Addr} {C:List V},A.units<cLine->a9 x=true->zk x u->(cT X.K H b C\/wr X.K H b C)->SeqAt.EqAt A s u (.ref b) false/\SeqAt.EqAt A s (.ref b) u false:=by
  intro A x u b C g f r h;have h':(∃T,s.heap.IsTuple b T)\/∃T,s.heap.IsList b T:=by
   rcases h with h|h
   ·obtain⟨T,_,t,_⟩:=I.tuple h;exact .inl ⟨_,t⟩
   ·obtain⟨T,_,t,_⟩:=I.list h;exact .inr ⟨_,jc t⟩
  cases x with
  |non=>cases r;rcases h' with⟨_,t⟩|⟨_,t⟩;exact⟨.none_tuple t g,.tuple_none t g⟩;exact⟨.none_list t g,.list_none t g⟩
  |bl k=>cases r;rcases h' with⟨_,t⟩|⟨_,t⟩;exact⟨.bool_tuple k t g,.tuple_bool k t g⟩;exact⟨.bool_list k t g,.list_bool k t g⟩
  |int k=>obtain⟨tk,rfl⟩:=r;rcases h' with⟨_,t⟩|⟨_,t⟩;exact⟨.int_tuple k tk t g,.tuple_int k tk t g⟩;exact⟨.int_list k tk t g,.list_int k tk t g⟩
  |str k=>obtain⟨tk,rfl⟩:=r;rcases h' with⟨_,t⟩|⟨_,t⟩;exact⟨.str_tuple k tk t g,.tuple_str k tk t g⟩;exact⟨.str_list k tk t g,.list_str k tk t g⟩
  |_=>simp[a9] at f
 intro n
 induction n with
 |zero=>
  intro m A x y d e u v g h1 o rx j;obtain⟨rfl,f⟩:=h1;cases m with
  |zero=>obtain⟨rfl,l⟩:=o;exact l9 rx j f l
  |succ m=>
   rcases o with⟨rfl,l⟩|⟨b,C,es,rfl,rfl,U,py⟩|⟨b,C,es,rfl,rfl,U,py⟩
   ·exact l9 rx j f l
   ·cases j;exact(J (by lia) f rx<|.inl U).1
   ·cases j;exact(J (by lia) f rx<|.inr U).1
 |succ n ih=>
  intro m A x y d e u v g h1 o rx j;have a1:A.in1.units+n<cLine:=by show A.units+1+n<cLine;lia
  rcases h1 with⟨rfl,f⟩|⟨a,xs,ds,rfl,rfl,p,px⟩|⟨a,xs,ds,rfl,rfl,p,px⟩
  ·cases m with
   |zero=>obtain⟨rfl,l⟩:=o;exact l9 rx j f l
   |succ m=>
    rcases o with⟨rfl,l⟩|⟨b,C,es,rfl,rfl,U,py⟩|⟨b,C,es,rfl,rfl,U,py⟩
    ·exact l9 rx j f l
    ·cases j;exact(J (by lia) f rx<|.inl U).1
    ·cases j;exact(J (by lia) f rx<|.inr U).1
  ·cases rx;cases m with
   |zero=>obtain⟨rfl,l⟩:=o;exact(J (by lia) l j<|.inl p).2
   |succ m=>
    rcases o with⟨rfl,l⟩|⟨b,C,es,rfl,rfl,U,py⟩|⟨b,C,es,rfl,rfl,U,py⟩
    ·exact(J (by lia) l j<|.inl p).2
    ·cases j;by_cases a0:a=b
     ·subst a0;cases I.tuple_inj p U;have e:Da.eq (.tup ds) (.tup es)=true:=jY I (n+1) (m:=m+1) (x:=.ref a) (.inr<|.inl ⟨a,xs,ds,rfl,rfl,p,px⟩)<|.inr<|.inl ⟨a,xs,es,rfl,rfl,U,py⟩;rw[e];exact .same _
     ·exact .of_refs a0<|oP I (by lia) p U px py λh1 o r1 r2=>ih a1 h1 o r1 r2
    ·cases j;obtain⟨us,vx,tx,_⟩:=I.tuple p;obtain⟨vs,vy,ty,_⟩:=I.list U;exact .tuple_list tx (jc ty) (by lia)
  ·cases rx;cases m with
   |zero=>obtain⟨rfl,l⟩:=o;exact(J (by lia) l j<|.inr p).2
   |succ m=>
    rcases o with⟨rfl,l⟩|⟨b,C,es,rfl,rfl,U,py⟩|⟨b,C,es,rfl,rfl,U,py⟩
    ·exact(J (by lia) l j<|.inr p).2
    ·cases j;obtain⟨us,vx,tx,_⟩:=I.list p;obtain⟨vs,vy,ty,_⟩:=I.tuple U;exact .list_tuple (jc tx) ty (by lia)
    ·cases j;by_cases a0:a=b
     ·subst a0;cases I.list_inj p U;have e:Da.eq (.lst ds) (.lst es)=true:=jY I (n+1) (m:=m+1) (x:=.ref a) (.inr<|.inr ⟨a,xs,ds,rfl,rfl,p,px⟩)<|.inr<|.inr ⟨a,xs,es,rfl,rfl,U,py⟩;rw[e];exact .same _
     ·exact .of_refs a0<|rW I (by lia) p U px py λh1 o r1 r2=>ih a1 h1 o r1 r2
def Ow(K:Aj)(k:Nat):R2:=λx y H Q=>match x,y with
 |.ref a,.ref b=>∃n m d e,n<=k/\xz K H n (.ref a) d/\xz K H m (.ref b) e/\Q (.bl<|Da.eq d e) H
 |x,y=>Fh x y=true/\Q (.bl<|decide<|x=y) H
theorem Ox{k:Nat}(hu:X.A.units+k<cLine):w6 X (compareOp .Eq) (Ow X.K k):=by
 intro J s t H x y v u Q I C T h;cases x with
 |ref a=>
  cases y with
  |ref b=>
   obtain⟨n,m,d,e,hn,l,U,q⟩:=h;cases C;cases T;have x0:∀{k:Bool},k=Da.eq d e->SeqAt.RcAt X.A s (.ref a) (.ref b) k->wpAny (model X.prog X.w) X.A (compareOp .Eq (.ref a)<|.ref b) (EP X J t Q) X.xe s:=λ{k} e' r=>
    r X.prog X.w X.xe (EP X J t Q) (by rw[e'];exact⟨.bl _,H,I,rfl,q⟩)
   cases n with
   |zero=>exact(zy l.2).elim
   |succ n=>
    cases m with
    |zero=>exact(zy U.2).elim
    |succ m=>
     have o:X.A.in1.units+n<cLine:=by show X.A.units+1+n<cLine;lia
     rcases l with⟨_,f⟩|⟨a',xs,ds,e1,rfl,p,px⟩|⟨a',xs,ds,e1,rfl,p,px⟩
     ·exact(zy f).elim
     ·cases e1;rcases U with⟨_,f⟩|⟨b',ys,es,g,rfl,j,py⟩|⟨b',ys,es,g,rfl,j,py⟩
      ·exact(zy f).elim
      ·cases g;exact x0 rfl<|oP I (by lia) p j px py λl U r1 r2=>iO I n o l U r1 r2
      ·cases g;obtain⟨us,vx,tx,_⟩:=I.tuple p;obtain⟨vs,vy,ty,_⟩:=I.list j;exact x0 rfl<|.tuple_list tx (jc ty) (by lia)
     ·cases e1;rcases U with⟨_,f⟩|⟨b',ys,es,g,rfl,j,py⟩|⟨b',ys,es,g,rfl,j,py⟩
      ·exact(zy f).elim
      ·cases g;obtain⟨us,vx,tx,_⟩:=I.list p;obtain⟨vs,vy,ty,_⟩:=I.tuple j;exact x0 rfl<|.list_tuple (jc tx) ty (by lia)
      ·cases g;exact x0 rfl<|rW I (by lia) p j px py λl U r1 r2=>iO I n o l U r1 r2
  |_=>exact He J s t H _ _ v u Q I C T h
 |_=>cases y<;>exact He J s t H _ _ v u Q I C T h
theorem Oy{c:Addr}(I:Gl X x)(J:X.mg x=some (.ref c))(hd:Fe x:=by decide):PE X (.Name x pos) (tC<|.ref c):=LD I J (v:=.ref c) rfl hd
theorem Oz{T:String}(I:Gl X x)(J:X.mg x=none)(U:bootBuiltins x=some (.type T))(g:x ≠ "__name__" := by decide)(hd:Fe x:=by decide):PE X (.Name x pos) (tC<|.ty T):=LG I J U (v:=.ty T) rfl g hd
structure Cal(P:Program)(w:World)(K:Aj)(mg:Str->Option Value)(base:Heap)(k:Nat)(x:Str)(ps:List Str)(sp:Sp):Prop where
 ex:∃f fd,bG P w K mg base CX0 k f fd ps sp/\aB K fd ps []/\PySem.W.keepIn K (.ref f)=true/\mg x=some (.ref f)
theorem OA{k:Nat}{sp:Sp}{p:Pos}(c:Cal X.prog X.w X.K X.mg X.base k x ps sp)(U:vo k X.A)(g:Gl X x)(j:PA X (e::es) t)(I:Fe x:=by decide)
 (l:Fb e es X:=by rfl) (J:Fc pos es X:=by rfl):PE X (.Call (.Name x p) (e::es) [] pos) (Hi sp [] E0 t):=by
 obtain⟨f,fd,F,b,o,m⟩:=c.ex;exact Nt F U g m o b .nil FU j I l J
theorem Cal.mono{P:Program}{w:World}{K:Aj}{k:Nat}{sp:Sp}(c:Cal P w K mg base j x ps sp)(h:j<=k):Cal P w K mg base k x ps sp:=by obtain⟨f,fd,F,b,I,m⟩:=c.ex;exact⟨f,fd,F.mono h,b,I,m⟩
end L2
variable {ds:List L2.Da}
namespace L2
open PySem PySem.Spec PyProof.Rows
def kZ(env:Env):List (Str×NameKind)->List (Str×Addr)->List (Str×Addr)
 |[],cs=>cs
 |(n,k)::r,cs=>kZ env r<|if k==.free then(n,(env.cells.lookup n).getD 0)::cs else cs
def fJ(scope:Scope)(env:Env):List (Str×Addr):=kZ env scope.names []
theorem sg{env:Env}:∀{names:List<|Str×NameKind} {cs:List<|Str×Addr} {p:Str×Addr},p∈kZ env names cs->p∈cs\/((p.1,NameKind.free)∈names/\p.2=(env.cells.lookup p.1).getD 0)
 |[],_,_,h=>.inl h
 |(n,k)::r,cs,p,h=>by
  rcases sg (names:=r) h with q|⟨q,e⟩
  ·by_cases I:(k==NameKind.free)=true
   ·rw[AC I] at q;rcases Ao.mp q with rfl|q
    ·have:k=.free:=by simpa using I
     exact .inr ⟨by rw[this];exact Ak,rfl⟩
    ·exact .inl q
   ·rw[AB I] at q;exact .inl q
  ·exact .inr ⟨Ab _ q,e⟩
theorem sj{env:Env}{x:Str}:∀{names:List<|Str×NameKind} {cs:List<|Str×Addr},((∃c,(x,c)∈cs)\/(x,NameKind.free)∈names)->∃c,(x,c)∈kZ env names cs
 |[],_,.inl h=>h
 |[],_,.inr h=>by simp at h
 |(n,k)::r,cs,h=>by
  refine sj (names:=r) ?_;rcases h with⟨c,h⟩|h
  ·left;by_cases I:(k==NameKind.free)=true
   ·rw[AC I];exact⟨c,Ab _ h⟩
   ·rw[AB I];exact⟨c,h⟩
  ·rcases Ao.mp h with e|h
   ·left;injection e with J U
    subst J;subst U;exact⟨_,Ak⟩
   ·exact .inr h
theorem fU{x:Str}:∀{l:List<|Str×Addr} {c:Addr},(x,c)∈l->∃c',l.lookup x=some c'
 |(n,d)::r,c,h=>by
  rw[Bh];cases I:x==n with
  |true=>exact⟨d,rfl⟩
  |false=>
   rcases Ao.mp h with e|h
   ·injection e with J _;subst J;simp at I
   ·exact fU h
theorem jO(h:∀n,(n,NameKind.free)∈scope.names->∃c,env.cells.lookup n=some c):closureFor scope env=pure (fJ scope env):=by
 unfold closureFor fJ;have key:∀(names:List<|Str×NameKind) (I:List<|Str×Addr),(∀n,(n,NameKind.free)∈names->∃c,env.cells.lookup n=some c)->
  (forIn names I λx (r:List<|Str×Addr)=>(match x with|(name,kind)=>if kind==NameKind.free then do let a <-cellOf env name;pure (ForInStep.yield<|(name,a)::r) else pure (ForInStep.yield r):Sem<|ForInStep<|List<|Str×Addr))=pure (kZ env names I):=by
  intro names
  induction names with
  |nil=>intro I _;rfl
  |cons p r o=>
   intro I J;obtain⟨n,k⟩:=p;rw[Ew];cases U:k==NameKind.free with
   |true=>
    have g:k=.free:=by simpa using U
    subst g;obtain⟨c,t⟩:=J n Ak;have e:cellOf env n=pure c:=by unfold cellOf;rw[t]
    simp only[beq_self_eq_true,if_true,e];have j:kZ env ((n,NameKind.free)::r) I=kZ env r ((n,c)::I):=by show kZ env r _=_;rw[t];rfl
    rw[j];exact o ((n,c)::I) λm l=>J m<|Ab _ l
   |false=>
    simp only[U,BO,if_false];have j:kZ env ((n,k)::r) I=kZ env r I:=by show kZ env r (if (k==NameKind.free)=true then _ else _)=_;rw[U];rfl
    rw[j];exact o I λm l=>J m<|Ab _ l
 exact(BL (· >>= pure)<|key scope.names [] h)
theorem wz{env:Env}{x:Str}:∀{names:List<|Str×NameKind},
 (names.map λ(n,k)=>if (k==NameKind.free&&env.scope.kind==.function&&env.kindOf n==some .cell) then(n,NameKind.cell) else(n,k)).lookup x
  = (names.lookup x).map λk=>if (k==NameKind.free&&env.scope.kind==.function&&env.kindOf x==some .cell) then NameKind.cell else k
 |[]=>rfl
 |(n,k)::r=>by
  have g:=@wz env x r;show List.lookup x ((if (k==NameKind.free&&env.scope.kind==.function&&env.kindOf n==some .cell)=true then(n,NameKind.cell) else(n,k))::_)=_;cases J:x==n with
  |true=>
   have U:x=n:=by simpa using J
   subst U;by_cases I:(k==NameKind.free&&env.scope.kind==.function&&env.kindOf x==some .cell)=true
   ·rw[AC I];simp only[Bh,beq_self_eq_true,Option.map_some];rw[AC I]
   ·rw[AB I];simp only[Bh,beq_self_eq_true,Option.map_some];rw[AB I]
  |false=>
   by_cases I:(k==NameKind.free&&env.scope.kind==.function&&env.kindOf n==some .cell)=true
   ·rw[AC I];simp only[Bh,J];exact g
   ·rw[AB I];simp only[Bh,J];exact g
def Cx.comp(X:Cx)(scope:Scope)(T:List Str)(C:Addr)(fp:List Addr)(s₀:Shared)(H₀:Hp):Cx:=
 { X with N:=X.N++T,s₀:=s₀,H₀:=H₀,env:=compEnvC scope (fJ scope X.env) C X.env,outer:=X.stack,ex:=fp,fn:=λ_=>false,xe:=λ_ _=>False }
structure jf(X:Cx)(scope:Scope):Prop where
 kind:scope.kind=.function
 nocell:∀y∈scope.names,y.2≠.cell
 names:∀y∈scope.names,y.2=.local->scope.names.lookup y.1=some .local
 free:∀n,scope.names.lookup n=some .free->X.env.kindOf n=some .cell\/X.env.kindOf n=some .free
 freeM:∀n,(n,NameKind.free)∈scope.names->X.env.kindOf n=some .cell\/X.env.kindOf n=some .free
 apart:∀x∈X.N,scope.names.lookup x≠some .local
theorem jf.clo(S:jf X scope)(I:z8 X pins σ H s):closureFor scope X.env=pure (fJ scope X.env):=
 jO λn h=>I.ok.has n<|S.freeM n h
theorem jf.cl_old(S:jf X scope)(I:z8 X pins σ H s){c:Addr}(h:(fJ scope X.env).lookup x=some c):X.env.cells.lookup x=some c:=by
 rcases sg (BD h) with q|⟨q,e⟩
 ·simp at q
 ·obtain⟨d,hd⟩:=I.ok.has x<|S.freeM x q;have J:c=(X.env.cells.lookup x).getD 0:=e;rw[hd] at J ⊢;rw[J];rfl
theorem jf.cl_has(_:jf X scope)(h:scope.names.lookup x=some .free):∃c,(fJ scope X.env).lookup x=some c:=by obtain⟨c,I⟩:=sj (env:=X.env) (names:=scope.names) (cs:=[]) (x:=x)<|.inr<|BD h;exact fU I
theorem jf.kindOf(S:jf X scope)(h:(compEnvC scope (fJ scope X.env) C X.env).kindOf x=some .cell\/(compEnvC scope (fJ scope X.env) C X.env).kindOf x=some .free):scope.names.lookup x=some .free:=by
 have e:(compEnvC scope (fJ scope X.env) C X.env).kindOf x=(scope.names.lookup x).map λk=>if (k==NameKind.free&&X.env.scope.kind==.function&&X.env.kindOf x==some .cell) then NameKind.cell else k:=wz
 rw[e] at h;cases I:scope.names.lookup x with
 |none=>rw[I] at h;rcases h with h|h<;>cases h
 |some k=>
  rw[I] at h;cases k with|free=>rfl|cell=>exact absurd rfl (S.nocell _<|BD I)|_=>rcases h with h|h<;>cases h
theorem jf.vis(S:jf X scope)(U:x∈X.N)(h:u2 (compEnvC scope (fJ scope X.env) C X.env).scope x):scope.names.lookup x=some .free:=by
 rcases h with h|h|h
 ·exfalso;have e:(compEnvC scope (fJ scope X.env) C X.env).kindOf x=(scope.names.lookup x).map λk=>if (k==NameKind.free&&X.env.scope.kind==.function&&X.env.kindOf x==some .cell) then NameKind.cell else k:=wz
  have I:(compEnvC scope (fJ scope X.env) C X.env).kindOf x=some .local:=h;rw[e] at I;cases J:scope.names.lookup x with
  |none=>rw[J] at I;cases I
  |some k=>
   rw[J] at I;have I:(if (k==NameKind.free&&X.env.scope.kind==.function&&X.env.kindOf x==some .cell)=true then NameKind.cell else k)=.local:=AO I;split at I
   ·cases I
   ·subst I;exact S.apart x U J
 ·exact S.kindOf (C:=C)<|.inl h
 ·exact S.kindOf (C:=C)<|.inr h
theorem jf.back(S:jf X scope)(h:scope.names.lookup x=some .free):(compEnvC scope (fJ scope X.env) C X.env).kindOf x=some .cell\/(compEnvC scope (fJ scope X.env) C X.env).kindOf x=some .free:=by
 have e:(compEnvC scope (fJ scope X.env) C X.env).kindOf x=(scope.names.lookup x).map λk=>if (k==NameKind.free&&X.env.scope.kind==.function&&X.env.kindOf x==some .cell) then NameKind.cell else k:=wz
 rw[e,h];show some (if _ then _ else _)=_\/some (if _ then _ else _)=_;split
 ·exact .inl rfl
 ·exact .inr rfl
def PF(X:Cx)(mj:List Expr)(t:TT):Prop:=
 ∀(pins:List<|Addr×Obj) (s:Shared) (σ:St) (H:Hp) (Q:Bool->Hp->Prop),z8 X pins σ H s->t σ H Q->
  wpAny (model X.prog X.w) X.A (forIn mj true λc r=>if r=true then do let ok <-isTrue c X.env (eval c X.env);pure (ForInStep.yield ok) else pure (ForInStep.yield r)) (TP X pins σ Q) X.xe s
def OB:TT:=λ_ H Q=>Q true H
theorem OC :PF X [] OB:=λ_ _ _ H _ I h=>An ⟨H,I,h⟩
theorem OD{t:TT}(hc:PT X c t):PF X [c] t:=by intro J s U H Q I h;rw[Ew];simp only[if_true];refine Aa<|Aa<|aT (hc J s U H Q I h) λb g q=>An ?_;exact An q
theorem fM{w:World}{R:Result->Shared->Prop}{it C:Value}(I:Nat->Shared->Prop)
 (turn:∀n s,I n s->wpAny (model prog w) A (pyNext it) (λr J=>match r with
  |none=>R (.ok .next) J
  |some v=>wpAny (model prog w) A (letOwnedTupleGo target it v) (λ_ J=>wpAny (model prog w) A (assign target env v) (λ_ l=>
   wpAny (model prog w) A (forIn mj true λc r=>if r=true then do let ok <-isTrue c env (eval c env);pure (ForInStep.yield ok) else pure (ForInStep.yield r)) (λok g=>
    if ok=true then wpAny (model prog w) A (eval mm env) (λx o=>
     wpAny (model prog w) A (call (.builtin "list.append") [C,x]) (λ_ p=>∃m,m<n/\I m p) (λ_ _=>False) o) (λ_ _=>False) g
    else ∃m,m<n/\I m g) (λ_ _=>False) l) (λ_ _=>False) J) (λ_ _=>False) J) (λ_ _=>False) s)
 (n:Nat) (h:I n s):
 codeAny (model prog w) A (.compLoop (.ListComp mm [⟨target,iter,mj,0⟩] scope pos) 0 it C env) R s:=by
 refine codeAny_loop rfl I (λn s hI=>?_) n h;show wpAny _ A ((compTurn (.ListComp mm [⟨target,iter,mj,0⟩] scope pos) 0 it C env).onRaise (λx=>do noteFrame x env;theTreesLotGoes x)) _ _ s;refine wpAny_noted ?_;rw[compTurn_list];refine Aa<|wpAny_standAt<|Aa<|AX (turn n s hI) (λr J U=>?_) λ_ _ j=>j.elim;cases r with
 |none=>exact An U
 |some v=>
  refine Aa<|AX U (λ_ J U=>?_) λ_ _ j=>j.elim;refine Aa<|AX U (λ_ l T=>Aa<|AX T (λok g t=>?_) λ_ _ j=>j.elim) λ_ _ j=>j.elim;cases ok with
  |false=>exact An ⟨rfl,t⟩
  |true=>
   exact Aa<|Aa<|AX t (λx o a0=>Aa<|AX a0 (λ_ p a1=>An<|An ⟨rfl,a1⟩) λ_ _ j=>j.elim) λ_ _ j=>j.elim
def FW(n:Nat)(wi:TI)(g:TG)(tc:TT)(te:TE):TE:=λσ H Q=>wi σ H λJ H1=>∃W:Nat->Nat->List V->Hp->Prop,(∃m,W 0 m [] H1)/\∀i m ys H,W i m ys H->
 (J.stop i H/\ys.length<=sizeLine/\∀D,H D=none->Q (.ref D) (upd H D<|.lst ys))\/
 (J.go i H/\ys.length<sizeLine/\∀x H',J.yld i H x H'->g x (σ++List.replicate n none) H' λI H2=>tc I H2 λb j=>
  if b=true then te I j λy l=>∃U,U<m/\W (i+1) U (ys++[y]) l else ∃U,U<m/\W (i+1) U ys j)
def oS(g:TG)(n k:Nat):Prop:=∀(σ:St),σ.length=n->∀x H Q,g x (σ++List.replicate k none) H Q->
 g x (σ++List.replicate k none) H λI H2=>((I.length=n+k/\∀(i:Nat) v,(σ++List.replicate k none)[i]?=some (some v)->I[i]?=some (some v))/\Q I H2)
section
variable {T:List Str}{g:TG}{tc:TT}{te:TE}
theorem ltN{b:Addr}{o:Obj}(e:h.get? b=some o):@LT.lt Nat instLTNat b h.objs.size:=pj e
theorem neN{a b:Addr}(h:@Ne Nat a b):a≠b:=h
theorem u_{a b:Addr}(h:@LE.le Nat instLENat a b):a<=b:=h
theorem OE(eH:List Value)(n:Nat)(u:Value):∃I,Obj.mapSeq (·.push u) { cls:=.type "list",data:=.seq eH.toArray n }=({ cls:=.type "list",data:=.seq (eH++[u]).toArray I }:Obj):=
 ⟨_,by simp[Obj.mapSeq];rfl⟩
theorem uk{w:World}(I:s.heap.get? D=some { cls:=.type "list",data:=.seq eH.toArray n })
 (hz:eH.length<=sizeLine) (h:∀h' J,Heap.SameBut D s.heap h'->h'.get? D=some { cls:=.type "list",data:=.seq (eH++[u]).toArray J }->Q .none { s with heap:=h' }):
 wpAny (model prog w) A (call (.builtin "list.append") [.ref D,u]) Q E s:=by
 have g:s.heap.IsList D eH.toArray:=⟨_,I,rfl,n,rfl⟩;refine wpAny_call_entry slot_list_append g.typeIs entry_list_append ?_<|args_list_append _ _;show wpAny _ _ (updateSeq D (·.push u) >>= λ_=>ret .none) _ _ s;refine Aa ?_;obtain⟨J,U⟩:=OE eH n u;refine wpAny_updateSeq (f:=(·.push u)) I rfl (An ⟨.none,rfl,h _ J (qy ..) ?_⟩) (by rw[Ar];exact hz) (by rw[Bq,Ar];exact Nat.succ_le_succ hz);rw[<-U];exact Heap.get?_update_self _ I (by rw[U];rfl)
theorem mx{Q:VK}{ck:Value}{I:Shared}{RR:Value->Addr->Result->Shared->Prop}
 (S:jf X scope) (hc:X.calm=true)
 (hg:∀C fp s₀ H₀,PG (X.comp scope T C fp s₀ H₀) target g) (dV:oS g X.N.length T.length) (hf:∀C fp s₀ H₀,PF (X.comp scope T C fp s₀ H₀) mj tc) (he:∀C fp s₀ H₀,PE (X.comp scope T C fp s₀ H₀) mm te)
 (h:FF X pins σ target (λJ H1=>∃W:Nat->Nat->List V->Hp->Prop,(∃m,W 0 m [] H1)/\∀i m ys H,W i m ys H->
  (J.stop i H/\ys.length<=sizeLine/\∀D,H D=none->Q (.ref D) (upd H D<|.lst ys))\/
  (J.go i H/\ys.length<sizeLine/\∀x H',J.yld i H x H'->g x (σ++List.replicate T.length none) H' λcm H2=>tc cm H2 λb H3=>
   if b=true then te cm H3 λy H4=>∃m',m'<m/\W (i+1) m' (ys++[y]) H4 else ∃m',m'<m/\W (i+1) m' ys H3)) ck I)
 (e4:∀D C s' H' m',z8 X pins σ H' s'->nQ X pins H' C->s'.heap.Ns C m'->Q (.ref D) H'->RR (.ref D) C (.ok .next) s'):
 wpAny (model X.prog X.w) X.A (newList []) (λcn ac=>wpAny (model X.prog X.w) X.A (newFunctionEnv scope X.env.globals (fJ scope X.env) [] X.env.qual none .none<|some X.env) (λbd cv=>
  codeAny (model X.prog X.w) X.A (.compStart (.ListComp mm [⟨target,iter,mj,0⟩] scope pos) 0 ck cn { bd with scope:=relabel scope X.env }) (RR cn bd.locals) cv) E ac) E I:=by
 obtain⟨it,fp,tn,J,H2,rfl,U,Tn,bf,f2,W,⟨m0,w0⟩,turn⟩:=h;refine BP (wpAny_newFunctionEnv S.nocell (by intro y hy;simp at hy) (λav a7 t=>?_) S.kind);dsimp only at a7 t ⊢;generalize bg:I.heap.push { cls:=.type "list",dict:=none,data:=.seq ([]:List Value).toArray }=G at a7 t ⊢;have hC:G.objs.size=I.heap.objs.size+1:=by rw[<-bg,ya]
 obtain⟨D,eD⟩:∃D,I.heap.objs.size=D:=⟨_,rfl⟩;obtain⟨C,eC⟩:∃C,G.objs.size=C:=⟨_,rfl⟩;rw[eD] at hC ⊢;rw[eC] at hC a7 t ⊢;have bh:D≠C:=by lia
 have old:∀b o,I.heap.get? b=some o->av.get? b=some o:=λb o e=>by have j:=ltN e;exact t.extBut b o (neN (by lia))<|oe _<|bg▸oe _ e
 have cw:av.get? D=some { cls:=.type "list",data:=.seq ([]:List Value).toArray 0 }:=by refine t.extBut _ _ bh<|oe _ ?_;rw[<-bg,<-eD];exact pR _ rfl
 have bi:∀b∈fp,@LT.lt Nat instLTNat b I.heap.objs.size:=λb j=>by obtain⟨o,e,_⟩:=Tn.obj _ _ bf b j;exact ltN e
 have cy:@LT.lt Nat instLTNat X.env.locals I.heap.objs.size:=U.lt;have eo:X.s₀.heap.objs.size<=I.heap.objs.size:=U.sz;have HD:H2 D=none:=U.hok.fresh<|u_ (by exact vF);have HC:H2 C=none:=U.hok.fresh<|u_ (by lia);have e5:∀b:Addr,@LE.le Nat instLENat I.heap.objs.size b->b∉zP X.stack:=λb j z=>by
  have q:=U.stkSub b z;rcases Ao.mp q with q|q
  ·rw[<-q] at cy;exact absurd cy<|Nat.not_lt.mpr j
  ·exact U.nofs j q
 have aL:∀x c,X.env.cells.lookup x=some c->@LT.lt Nat instLTNat c I.heap.objs.size:=λx c e=>by obtain⟨v,q⟩:=U.cell x c e;exact q.lt
 let X':Cx:=X.comp scope T C fp I H2
 have bm:X'.Ok:={
  mod:=U.ok.mod,kind:=S.kind,glob:=U.ok.glob,blt:=U.ok.blt
  above:=u_ (by show @LE.le Nat instLENat I.heap.objs.size C;lia)
  inj:=λx y c h1 h2=>U.ok.inj x y c (S.cl_old U h1) (S.cl_old U h2)
  has:=λx hx=>S.cl_has (S.kindOf hx)
  cab:=λx c hx=>absurd (show false=true from hx) (by simp)
  hd:=U.ok.hd,frames:=U.ok.frames,stk:=.inl rfl
  exf:=λb j=>⟨neN (by have:=bi b j;show @Ne Nat b C;lia),λx c e=>(f2 b j).2.2.2.2.1 x c<|S.cl_old U e⟩
  bs:=U.bs,bsz:=AN U.ok.bsz U.sz
  noex:=λb o e j=>by
   obtain⟨e0,n0⟩:=U.ok.bs b o e;rcases (f2 b j).2.2.2.1 with q|q
   ·exact U.ok.noex b o e q
   ·have q':@LE.le Nat instLENat X.s₀.heap.objs.size b:=q;have:=ltN e0;lia
  exfs:=λb j z=>by
   rcases Ao.mp (U.stkSub b z) with q|q
   ·exact(f2 b j).2.1 q
   ·exact(f2 b j).2.2.1 q
  funs:=U.stack,frf:=U.stkFree }
 have I4:∀tk,0<tk->z8 X' pins (σ++List.replicate T.length none) H2 { I with heap:=av,toks:=tk }:=λtk e6=>{
  tk:=e6,ok:=bm,os:=rfl,bare:=U.bare,base:=Un.kept old
  loc:=⟨_,a7,λi x v e1 e2 e3=>by
   have hi:i<σ.length:=by
    by_cases hi:i<σ.length
    ·exact hi
    ·rw[Ax (by exact yJ),Cr] at e2;split at e2<;>cases e2
   rw[AJ hi] at e2;have e7:i<X.N.length:=by rw[<-U.len];exact hi
   have cP:X.N[i]?=some x:=by have:(X.N++T)[i]?=some x:=e1;rw[AJ e7] at this;exact this
   have ca:=S.vis (AF cP) e3;obtain⟨m,hn,hl⟩:=U.loc;have hk:=S.free x ca;obtain⟨u,r,l⟩:=hl i x v cP e2<|.inr hk;refine⟨u,r,.inr ⟨S.back ca,?_⟩⟩;rcases l with⟨l,_⟩|⟨_,c,e,z⟩
   ·rw[l] at hk;rcases hk with q|q<;>cases q
   ·obtain⟨c',e'⟩:=S.cl_has ca;have d0:=S.cl_old U e';rw[e] at d0;cases d0;exact⟨c,e',z.keeps old⟩⟩
  cell:=λx c e=>by obtain⟨v,z⟩:=U.cell x c<|S.cl_old U e;exact⟨v,z.keeps old⟩
  free:=HC,freeC:=λx c e=>U.freeC x c (S.cl_old U e)
  pin:=λp hp=>by
   obtain⟨a,b,c,d,e⟩:=U.pin p hp;have e8:=ltN a;refine⟨old _ _ a,b,neN (by show @Ne Nat p.1 C;lia),λz=>?_,e⟩;rcases Ao.mp (U.stkSub _ z) with q|q
   ·exact c q
   ·exact d q
  hok:=U.hok.kept old
  len:=by show(σ++_).length=(X.N++T).length;rw[Ad,Ad,Cd,U.len] }
 have cc:∀(al:List<|Addr×Obj) (H':Hp),(∀p∈al,p∈pins\/p.1=D)->(∀b∈fp,H' b=none)->∀b∈fp,nQ X' al H' b:=λal H' hp hn b j=>by
  obtain⟨_,q1,q2,q3,q4,q5⟩:=f2 b j;have e8:=bi b j;refine⟨hn b j,neN (by show @Ne Nat b C;lia),bm.exfs b j,.inl j,(bm.exf b j).2,λp e9=>?_⟩;rcases Ag.mp e9 with z|z
  ·exact q5 p<|Ai _ z
  ·rcases hp p z with z|z
   ·exact q5 p<|Ae _ z
   ·rw[z];exact neN (by lia)
 have stay:Tn.keep=Tn.keep:=rfl;have be:∀ac:Shared,ac={ I with heap:=av,toks:=I.toks+([]:List<|Str×Value).length }->
  codeAny (model X.prog X.w) X.A (.compLoop (.ListComp mm [⟨target,iter,mj,0⟩] scope pos) 0 (.ref it) (.ref D) X'.env) (RR (.ref D) C) ac:=by
  rintro ac rfl;refine fM (λn s'=>∃i cg H' ys ab k,z8 X' pins cg H' s'/\(cg.length=X.N.length+T.length/\∀(i:Nat) v,(σ++List.replicate T.length none)[i]?=some (some v)->cg[i]?=some (some v))/\
   s'.heap.get? D=some { cls:=.type "list",data:=.seq (ab:List Value).toArray k }/\zn ys ab/\H' D=none/\tn i s'.heap/\(∀b∈fp,H' b=none)/\W i n ys H') ?_ m0
   ⟨0,_,H2,[],[],0,I4 _ U.tk,⟨by rw[Ad,Cd,U.len],λ_ _ e=>e⟩,cw,.nil,HD,Tn.keep _ _ _ bf λb _ o e=>old b o e,λb j=>(f2 b j).1,w0⟩
  rintro n s3 ⟨i,ep,H3,ys,ab,k,I3,⟨ec,ed⟩,ee,bb,bc,dd,de,w3⟩;have en:ab.length=ys.length:=bb.length.symm;have dj:D∉X'.fs:=e5 D (by exact vF);have dp:D≠X'.env.locals:=bh;have dt:z8 X' (pins++[(D,{ cls:=.type "list",data:=.seq ab.toArray k })]) (σ++List.replicate T.length none) H3 s3:=
   (I3.weak (by rw[ec,Ad,Cd,U.len]) ed).pins_of λp hp=>by
    rcases Ag.mp hp with z|z
    ·exact I3.pin p<|Ae _ z
    ·have e:=Am.mp z;subst e;exact⟨ee,bc,dp,dj,λv z=>by cases z⟩
  have au:∀p∈pins++[(D,({ cls:=.type "list",data:=.seq ab.toArray k }:Obj))],p∈pins\/p.1=D:=λp hp=>by
   rcases Ag.mp hp with z|z
   ·exact .inl z
   ·exact .inr (by rw[Am.mp z])
  rcases turn i n ys H3 w3 with⟨stop,hz,qn⟩|⟨go,hz,step⟩
  ·refine aT (Tn.done X' rfl rfl rfl hc i _ s3 _ H3 _ dt (cc _ H3 au de) dd stop) λr s4 ⟨hr,a0⟩=>?_;subst hr;obtain⟨eg,er,_⟩:=a0.pin (D,_)<|Ae _<|Ae _ Ak;obtain⟨m',eh,_⟩:=a0.loc;have un:Un (zP X.stack) fp H2 (upd H3 D<|.lst ys) I.heap s4.heap:={
    keep:=a0.base.keep,slot:=a0.base.slot
    free:=λb o e n hx=>by have:=ltN e;rw[qu<|neN (by lia)];exact a0.base.free b o e n hx
    there:=a0.base.there
    tups:=λb xs e=>by rw[qu (λz=>by rw[z,HD] at e;cases e)];exact a0.base.tups b xs e
    frzs:=λb o u e=>by rw[qu (λz=>by rw[z,HD] at e;cases e)];exact a0.base.frzs b o u e
    tbls:=λb ps e=>by rw[qu (λz=>by rw[z,HD] at e;cases e)];exact a0.base.tbls b ps e }
   have ej:fb X.prog X.w (upd H3 D<|.lst ys) s4.heap:=λb u e=>by
    by_cases j:b=D
    ·subst j;rw[zq] at e;cases e;exact⟨hz,ab,k,bb,eg⟩
    ·rw[qu j] at e;refine(a0.hok b u e).stay (λ_ _ _ q=>q) (λc q=>?_) λc xs q=>?_
     ·rw[qu<|zx q bc];exact q
     ·rw[qu<|zx q bc];exact q
   have I5:z8 X pins σ (upd H3 D<|.lst ys) s4:=U.call' (ch:=fp) a0.os un ej a0.bare λb j=>⟨(f2 b j).2.2.2.1,(f2 b j).2.1,(f2 b j).2.2.2.2.1,(f2 b j).2.2.2.2.2⟩;refine e4 D C s4 _ m' I5 ?_ eh<|qn D bc;refine⟨by rw[qu<|A4 bh];exact a0.free,?_,?_,.inr ?_,λx c e=>?_,λp hp=>?_⟩
   ·exact neN (by lia)
   ·exact U.nofs<|u_ (by lia)
   ·exact u_ (by lia)
   ·exact neN (by have:=aL x c e;lia)
   ·exact neN (by have:=ltN (U.pin p hp).1;lia)
  ·refine aT (Tn.item X' rfl rfl rfl hc i _ s3 _ H3 _ dt (cc _ H3 au de) dd go) λr s4 ψ=>?_;obtain⟨u,hr,h4⟩:=ψ;subst hr;refine aT h4 λ_ s5 ψ=>?_;obtain⟨x,H5,I5,r5,y5,h_,ek⟩:=ψ;have el:=I5.pinned (cc _ H5 au ek)<|Tn.obj _ _ h_;refine AX ((hg C fp I H2) _ s5 _ H5 x u _ el r5<|dV σ U.len x H5 _<|step x H5 y5) (λ_ s6 ψ=>?_) λ_ _ z=>z;obtain⟨ba,H6,I6,⟨dv,dG⟩,q6⟩:=ψ;refine AX ((hf C fp I H2) _ s6 ba H6 _ I6 q6) (λb s7 ψ=>?_) λ_ _ z=>z;obtain⟨H7,I7,q7⟩:=ψ;have x0:∀{s8:Shared} {H8:Hp} (I8:z8 X' ((pins++[(D,{ cls:=.type "list",data:=.seq ab.toArray k })])++m7 fp s5.heap) ba H8 s8),tn (i+1) s8.heap/\(∀b∈fp,H8 b=none)/\s8.heap.get? D=some { cls:=.type "list",data:=.seq ab.toArray k }/\H8 D=none/\z8 X' pins ba H8 s8:=λ{s8 H8} I8=>by
    refine⟨Tn.keep _ _ _ h_ λb j o e=>(I8.pin (b,o)<|Ae _<|Ae _<|cf j e).1,λb j=>?_,?_,?_,I8.unpinned.unpinned⟩
    ·obtain⟨o,e,d⟩:=Tn.obj _ _ h_ b j;exact(I8.pin (b,o)<|Ae _<|Ae _<|cf j e).2.1
    ·exact(I8.pin (D,_)<|Ae _<|Ai _<|Ae _ Ak).1
    ·exact(I8.pin (D,_)<|Ae _<|Ai _<|Ae _ Ak).2.1
   cases b with
   |false=>
    rw[AB AI] at q7 ⊢;obtain⟨m',hm,w7⟩:=q7;obtain⟨a1,a2,a3,a4,a5⟩:=x0 I7;exact⟨m',hm,i+1,ba,H7,ys,ab,k,a5,⟨dv,dG⟩,a3,bb,a4,a1,a2,w7⟩
   |true=>
    rw[AC rfl] at q7 ⊢;refine AX ((he C fp I H2) _ s7 ba H7 _ I7 q7) (λv s8 ψ=>?_) λ_ _ z=>z;obtain⟨y,H8,I8,r8,m',hm,w8⟩:=ψ;obtain⟨a1,a2,a3,a4,a5⟩:=x0 I8;refine uk a3 (by lia) λh9 k9 dH em=>?_;have nD:∀b∈fp,b≠D:=λb j=>neN (by have:=bi b j;lia);refine⟨m',hm,i+1,ba,H8,ys++[y],ab++[v],k9,?_,⟨dv,dG⟩,em,bb.append<|.cons r8 .nil,a4,Tn.keep _ _ _ a1 λb j o e=>(dH.2 b<|nD b j).trans e,a2,w8⟩;exact a5.turned (t':=s8.toks) (it:=D) (λb o j e=>(dH.2 b j).trans e) a4 dp (.inr (u_ (by show @LE.le Nat instLENat I.heap.objs.size D;exact vF))) (λx c e=>neN (by have:=aL x c<|S.cl_old U e;lia)) λp hp=>neN (by have:=ltN (U.pin p hp).1;lia)
 exact codeAny_compStart_list (be _ rfl)<|Tn.self _ _ _ _ _ (Tn.keep _ _ _ bf λb _ o e=>old b o e)<|be _ rfl
end
section
variable {T:List Str}{g:TG}{tc:TT}{te:TE}
theorem OF(T:List Str)(S:jf X scope)(hc:X.calm=true)(hi:PI X target iter wi)(t:∀C fp s₀ H₀,PG (X.comp scope T C fp s₀ H₀) target g)(j:oS g X.N.length T.length)
 (hf:∀C fp s₀ H₀,PF (X.comp scope T C fp s₀ H₀) mj tc) (he:∀C fp s₀ H₀,PE (X.comp scope T C fp s₀ H₀) mm te)
 (hs:∀x,foldedSetIterable iter X.env x=pure x:=by intro _;rfl):PE X (.ListComp mm [⟨target,iter,mj,0⟩] scope pos) (FW T.length wi g tc te):=by
 intro J s r H Q I h;rw[eval_ListComp];refine wpAny_comprehension_free (use:=none) rfl hs (S.clo I) S.kind S.names<|aT (hi J s r H _ I h) λv s1 h1=>aT h1 λa0 s2 h2=>?_;refine mx (RR:=λl C=>compPost (model X.prog X.w) X.A X.xe none (EP X J r Q) l C) S hc t j hf he h2 ?_;intro D C s' H' m' I' U hn q;exact⟨m',hn,λh' p=>⟨.ref D,H',I'.turned (t':=s'.toks) (it:=C) (λb o hb e=>(p.2 b hb).trans e) U.1 (A4<|A4 U.2.1) U.2.2.2.1 U.2.2.2.2.1 U.2.2.2.2.2,rfl,q⟩⟩
theorem OG(T:List Str){px j:Pos}(hN:X.N.Nodup)(l:X.N[i]?=some x)(hx:Loc X.env.scope x)(S:jf X scope)(hc:X.calm=true)(hi:PI X target iter wi)
 (hg:∀C fp s₀ H₀,PG (X.comp scope T C fp s₀ H₀) target g) (p:oS g X.N.length T.length)
 (hf:∀C fp s₀ H₀,PF (X.comp scope T C fp s₀ H₀) mj tc) (he:∀C fp s₀ H₀,PE (X.comp scope T C fp s₀ H₀) mm te)
 (r:swapsWith (.ListComp mm [⟨target,iter,mj,0⟩] scope j) (some<|.Name x px) pos.line X.env=pure true:=by rfl)
 (t:X.fn x=true\/X.env.scope.names.lookup x=some .local:=by first|exact .inl rfl|exact .inr rfl|assumption)
 (hs:∀x,foldedSetIterable iter X.env x=pure x:=by intro _;rfl):PS X (.Assign [.Name x px] (.ListComp mm [⟨target,iter,mj,0⟩] scope j) pos) (FE (FW T.length wi g tc te)<|eE i):=by
 intro pins s σ H D I h;rw[exec_Assign_Name_used _ _ _ _ r];refine Aa<|wpAny_standAt<|Aa ?_;show wpAny _ X.A (do let _ <-comprehension (.ListComp mm [⟨target,iter,mj,0⟩] scope j) scope X.env _ (newList []) false (eval iter X.env) (some<|assign (.Name x px) X.env)) _ _ s;refine Aa (AX (wpAny_comprehension_free (use:=some<|assign (.Name x px) X.env) (Q:=λ_ U=>SP X pins D .next U) rfl hs (S.clo I) S.kind S.names
  (aT (hi pins s σ H _ I h) λv s1 h1=>aT h1 λa5 s2 h2=>?_)) (λ_ U hq=>An<|An hq) λ_ _ e=>e)
 refine mx (RR:=λa0 C=>compPost (model X.prog X.w) X.A X.xe (some<|assign (.Name x px) X.env) (λ_ U=>SP X pins D .next U) a0 C) (pins:=pins) (σ:=σ) (Q:=λx H1=>eE i x σ H1 D.nx) S hc hg p hf he h2 ?_;intro A C U H' m' I' J hn q;show wpAny _ X.A (assign (.Name x px) X.env<|.ref A) _ _ U;refine wpAny_assign_Name<|oF I' hN l hx (v:=.ref A) rfl (λa1 a2 ψ _=>?_) t;obtain⟨a,hs,ha⟩:=ψ;have a3:C≠a:=by
  rcases ha with z|z
  ·rw[z];exact J.2.1
  ·exactλe=>J.2.2.2.2.1 x a z e.symm
 exact⟨m',hn.sameBut hs a3,λh' a4=>⟨_,H',a2.turned (t':=a1.toks) (it:=C) (λb o hb e=>(a4.2 b hb).trans e) J.1 J.2.1 J.2.2.2.1 J.2.2.2.2.1 J.2.2.2.2.2,q⟩⟩
end
def vv(outer:Scope)(N:List Str)(I:Scope):Bool:=
 decide (I.kind=.function)&&I.names.all (λp=>decide (p.2≠.cell)&&(decide (p.2≠.local)||decide (I.names.lookup p.1=some .local))&&(decide (p.2≠.free)||(decide (outer.names.lookup p.1=some .cell)||decide (outer.names.lookup p.1=some .free))))
  && N.all (λx=>decide<|I.names.lookup x≠some .local)
theorem vv.mk{I:Scope}(h:vv X.env.scope X.N I=true):jf X I:=by
 unfold vv at h;rw[Bb,Bb,CV,CV] at h;obtain⟨⟨l,J⟩,o⟩:=h;have j:∀n,(n,NameKind.free)∈I.names->X.env.kindOf n=some .cell\/X.env.kindOf n=some .free:=λn U=>by
  have q:=J _ U;simp only[Bb,Ex,decide_eq_true_eq] at q;rcases q.2 with z|z
  ·exact absurd rfl z
  ·exact z
 refine⟨of_decide_eq_true l,λy g=>?_,λy g e=>?_,λn U=>j n<|BD U,j,λx p=>of_decide_eq_true<|o x p⟩
 ·have q:=J _ g;simp only[Bb,Ex,decide_eq_true_eq] at q;exact q.1.1
 ·have q:=J _ g;simp only[Bb,Ex,decide_eq_true_eq] at q;rcases q.1.2 with z|z
  ·exact absurd e z
  ·exact z
abbrev EW:=@vv.mk
theorem vX(n:Nat):oS (eE n) n 1:=by
 intro U I x H Q h;refine⟨⟨by simp[I],λi v e=>?_⟩,h⟩;by_cases J:i=n
 ·subst J;rw[Ax (by exact vF)] at e;simp[I] at e
 ·rw[Bi<|A4 J];exact e
theorem n8:bootBuiltins "isinstance"=some (.builtin "isinstance"):=by decide +kernel
theorem cM:bootBuiltins "tuple"=some (.type "tuple"):=by decide +kernel
theorem vY:bootBuiltins "str"=some (.type "str"):=by decide +kernel
theorem vP:bootBuiltins "int"=some (.type "int"):=by decide +kernel
theorem aa:bootBuiltins "list"=some (.type "list"):=by decide +kernel
theorem OH:bootBuiltins "len"=some (.builtin "len"):=by decide +kernel
theorem HF{k:Nat}(I:vo k A):A.units+128<cLine:=by have:=I.un;lia
theorem dU(h:n<=1000):n<=sizeLine:=Bf<|nw h
theorem Cal.of{P:Program}{w:World}{K:Aj}{k:Nat}{sp:Sp}{f:Addr}(F:bG P w K mg base CX0 k f fd ps sp)(b:aB K fd ps [])(I:PySem.W.keepIn K (.ref f)=true)(m:mg x=some (.ref f)):
 Cal P w K mg base k x ps sp:=⟨f,fd,F,b,I,m⟩
theorem bG.never{P:Program}{w:World}{K:Aj}{k:Nat}{sp:Sp}{f:Addr}(no:∀vs H Q E,¬sp vs H Q E):bG P w K mg base CX0 k f fd ps sp:=
 ⟨λvs H Q E h=>absurd h<|no vs H Q E,λA I s H args J vs Q E _ _ _ _ h=>absurd h<|no vs H Q E⟩
section
variable (K:Aj)(P:Program)(w:World)
end
structure qz(K:Aj)(x:Str)(st:Stmt):Prop where
 ex:∃(f:Addr) (kV hE pm:Value) (an:Option Addr) (eK ct:Value),PySem.W.nsIn K mainGlobals x=some (some<|.ref f)/\Fun K x x st f (PySem.W.fnOf x x (jy st) (j7 st) (qo st) .none kV hE pm an eK ct)
theorem def_in{K:Aj}{f:Addr}{kV ct:Value}(a:PySem.W.nsIn K mainGlobals x=some (some<|.ref f))
 (l:K.lookup f=some ⟨oc,od,.func<|PySem.W.fnOf x x (jy st) (j7 st) (qo st) .none kV hE pm an eK ct,mv⟩) (c:PySem.W.codeIn K eK x=true) (k:PySem.W.keepIn K (.ref f)=true):qz K x st:=
 ⟨f,kV,hE,pm,an,eK,ct,a,Hu (st:=st) l c k⟩
theorem qz.use{K:Aj}(D:qz K x st)(X:K.In h)(G:h.Ns mainGlobals mg)
 (I:∀(kV hE pm:Value) (an:Option Addr) (eK ct:Value) (us:List Value),us.length=ps.length->bindArgs (PySem.W.fnOf x x (jy st) (j7 st) (qo st) .none kV hE pm an eK ct) ⟨us,[]⟩=pure (ps.zip us)):
 ∃f fd,Fun K x x st f fd/\aB K fd ps []/\mg x=some (.ref f):=by
 obtain⟨f,kV,hE,pm,an,eK,ct,a,F⟩:=D.ex;exact⟨f,_,F,aB.all<|I kV hE pm an eK ct,C3 X G a⟩
end L2
namespace Words
open PySem L2
inductive Wd where
 |leaf (t:Bool) (n:Str)
 |node (e:Bool) (l r:Wd)
def kL:Bool->Str
 |false => "plain"
 |true => "turned"
def kN:Bool->Str
 |false => "both"
 |true => "either"
def Wd.turn:Wd->Wd
 |.leaf t n=>.leaf (!t) n
 |.node e l r=>.node (!e) l.turn r.turn
def Wd.depth:Wd->Nat
 |.leaf _ _=>1
 |.node _ l r=>max l.depth r.depth+1
def Wd.leaves:Wd->Nat
 |.leaf _ _=>1
 |.node _ l r=>l.leaves+r.leaves
theorem Wd.leaves_pos:∀w:Wd,1<=w.leaves
 |.leaf _ _=>Ap _
 |.node _ l r=>by have:=Wd.leaves_pos l;show 1<=l.leaves+r.leaves;exact Hx
theorem Wd.depth_le:∀w:Wd,w.depth<=w.leaves
 |.leaf _ _=>Ap _
 |.node _ l r=>by have:=Wd.depth_le l;have:=Wd.depth_le r;have:=Wd.leaves_pos l;have:=Wd.leaves_pos r;show max l.depth r.depth+1<=l.leaves+r.leaves;lia
def pq:Wd->Da
 |.leaf t n=>.tup [.s<|.str<|kL t,.s<|.str n]
 |.node e l r=>.tup [.s<|.str<|kN e,pq l,pq r]
def dy(x:Str):Prop:=1<=x.length/\x.length<=8/\∀c∈x.cps.toList,97<=c/\c<=122
def Wd.ok:Wd->Prop
 |.leaf _ n=>dy n
 |.node _ l r=>l.ok/\r.ok
theorem Paired.app{α β:Type}{F:α->β->Prop}:∀{xs I:List α} {ys J:List β},Paired F xs ys->Paired F I J->Paired F (xs++I) (ys++J)
 |_,_,_,_,.nil,s=>s
 |_,_,_,_,.cons r t,s=>.cons r<|Paired.app t s
theorem Paired.getP{F:α->β->Prop}:∀{xs:List α} {ys:List β} {i:Nat} {x:α},Paired F xs ys->xs[i]?=some x->∃y,ys[i]?=some y/\F x y:=by
 intro xs ys i x h
 induction h generalizing i with
 |nil=>intro h;simp at h
 |cons r t I=>
  intro h;cases i with
  |zero=>simp at h;subst h;exact⟨_,rfl,r⟩
  |succ i=>
   obtain⟨y,e,q⟩:=I (i:=i) (by simpa using h);exact⟨y,by simpa using e,q⟩
end Words
namespace L2
open PySem PySem.Spec PyProof.Rows
theorem yd{a b:Addr}{ys:List V}{es:List Da}(I:z8 X pins σ H s)(g:A.units<cLine)(j:cT X.K H a xs)(l:cT X.K H b ys)(px:Paired (xz X.K H n) xs ds)(py:Paired (xz X.K H m) ys es)
 (o:∀{x y:V} {d e:Da} {u v:Value},xz X.K H n x d->xz X.K H m y e->zk x u->zk y v->SeqAt.EqAt A.in1 s u v (Da.eq d e)):SeqAt.RcNeAt A s (.ref a) (.ref b) (!Da.eqs ds es):=by
 obtain⟨r,J,p,_⟩:=I.tuple j;obtain⟨t,U,ty,_⟩:=I.tuple l;have q:=SeqAt.RcNeAt.tuples p ty g<|gx px py J U o;rw[Ar,Ar,<-J.length,<-U.length,px.length,py.length,ES] at q;exact q
theorem OI{a b:Addr}{ys:List V}{es:List Da}(I:z8 X pins σ H s)(l:A.units<cLine)(p:wr X.K H a xs)(r:wr X.K H b ys)(px:Paired (xz X.K H n) xs ds)(py:Paired (xz X.K H m) ys es)
 (t:∀{x y:V} {d e:Da} {u v:Value},xz X.K H n x d->xz X.K H m y e->zk x u->zk y v->SeqAt.EqAt A.in1 s u v (Da.eq d e)):SeqAt.RcNeAt A s (.ref a) (.ref b) (!Da.eqs ds es):=by
 obtain⟨C,U,o,_⟩:=I.list p;obtain⟨T,j,ty,_⟩:=I.list r;by_cases g:C.toArray.size=T.toArray.size
 ·have q:=SeqAt.RcNeAt.lists (jc o) (jc ty) g l<|gx px py U j t;have J:ds.length=es.length:=by rw[<-px.length,<-py.length,U.length,j.length];simpa using g
  have e:=ES ds es;rw[J,Nat.min_self] at e;rw[<-J] at e;rw[Ar,<-U.length,px.length] at q;simp only[beq_self_eq_true,DS] at e;rw[e] at q;exact q
 ·have q:=SeqAt.RcNeAt.lists_lengths (jc o) (jc ty) (by simpa using g) l;have J:ds.length≠es.length:=by rw[<-px.length,<-py.length,U.length,j.length];intro z;exact g (by simpa using z)
  have e:=ES ds es;have f:(ds.length==es.length)=false:=by simpa using J
  rw[f,EE] at e;rw[<-e];exact q
def OJ(K:Aj)(k:Nat):R2:=λx y H Q=>match x,y with
 |.ref a,.ref b=>∃n m d e,n<=k/\xz K H n (.ref a) d/\xz K H m (.ref b) e/\Q (.bl<|!Da.eq d e) H
 |x,y=>Fh x y=true/\Q (.bl<|!decide (x=y)) H
theorem OK{k:Nat}(hu:X.A.units+k<cLine):w6 X (compareOp .NotEq) (OJ X.K k):=by
 intro J s t H x y v u Q I C T h;cases x with
 |ref a=>
  cases y with
  |ref b=>
   obtain⟨n,m,d,e,hn,l,U,q⟩:=h;cases C;cases T;have x0:∀{k:Bool},k=(!Da.eq d e)->SeqAt.RcNeAt X.A s (.ref a) (.ref b) k->wpAny (model X.prog X.w) X.A (compareOp .NotEq (.ref a)<|.ref b) (EP X J t Q) X.xe s:=λ{k} e' r=>
    r X.prog X.w X.xe (EP X J t Q) (by rw[e'];exact⟨.bl _,H,I,rfl,q⟩)
   cases n with
   |zero=>exact(zy l.2).elim
   |succ n=>
    cases m with
    |zero=>exact(zy U.2).elim
    |succ m=>
     have o:X.A.in1.units+n<cLine:=by show X.A.units+1+n<cLine;lia
     rcases l with⟨_,f⟩|⟨a',xs,ds,e1,rfl,p,px⟩|⟨a',xs,ds,e1,rfl,p,px⟩
     ·exact(zy f).elim
     ·cases e1;rcases U with⟨_,f⟩|⟨b',ys,es,g,rfl,j,py⟩|⟨b',ys,es,g,rfl,j,py⟩
      ·exact(zy f).elim
      ·cases g;exact x0 rfl<|yd I (by lia) p j px py λl U r1 r2=>iO I n o l U r1 r2
      ·cases g;obtain⟨us,vx,tx,_⟩:=I.tuple p;obtain⟨vs,vy,ty,_⟩:=I.list j;exact x0 rfl<|.tuple_list tx (jc ty) (by lia)
     ·cases e1;rcases U with⟨_,f⟩|⟨b',ys,es,g,rfl,j,py⟩|⟨b',ys,es,g,rfl,j,py⟩
      ·exact(zy f).elim
      ·cases g;obtain⟨us,vx,tx,_⟩:=I.list p;obtain⟨vs,vy,ty,_⟩:=I.tuple j;exact x0 rfl<|.list_tuple (jc tx) ty (by lia)
      ·cases g;exact x0 rfl<|OI I (by lia) p j px py λl U r1 r2=>iO I n o l U r1 r2
  |_=>exact Hf J s t H _ _ v u Q I C T h
 |_=>cases y<;>exact Hf J s t H _ _ v u Q I C T h
theorem HG:bootBuiltins "max"=some (.builtin "max"):=by decide +kernel
theorem OL:bootBuiltins "bool"=some (.type "bool"):=by decide +kernel
end L2
namespace Words
open PySem L2
def Wd.size:Wd->Nat
 |.leaf _ _=>1
 |.node _ l r=>1+l.size+r.size
theorem Wd.size_eq:∀w:Wd,w.size+1=2*w.leaves
 |.leaf _ _=>rfl
 |.node _ l r=>by have:=Wd.size_eq l;have:=Wd.size_eq r;show 1+l.size+r.size+1=2*(l.leaves+r.leaves);lia
theorem Wd.size_turn:∀w:Wd,w.turn.size=w.size
 |.leaf _ _=>rfl
 |.node _ l r=>by show 1+l.turn.size+r.turn.size=1+l.size+r.size;rw[Wd.size_turn l,Wd.size_turn r]
end Words
namespace L2
open PySem PySem.Spec PyProof.Rows
section
variable {a:Addr}{tr:Option Addr}
end
section
variable {a b T:Addr}{tr:Option Addr}{E1:X1}
end
section
variable {k:Nat}{f:Addr}{sp:Sp}{E1:X1}{p:Pos}
end
section
variable {a T:Addr}{tr:Option Addr}
end
section
variable {a T:Addr}
end
open PySem PySem.Spec PyProof.Rows PySem.W
open Builtin.ObjectAttr in
section
variable {w:World}{K:Frag}{a:Addr}
open Builtin Builtin.ObjectAttr Builtin.Getset_descriptor in
end
def OM(K:Aj)(H:Hp)(a C:Addr):Prop:=∃I,H a=some (.frz I<|.own 0)/\I.cls=.ref C
def qM(H:Hp)(P:Addr)(q:Str):Prop:=∃ps,H P=some (.tbl ps)/\TriplesOk ps.toList/\∀pos I,codeAmong pos ps.toList=some I->∃c' oc vs t,I=.ref c'/\H c'=some (.frz oc<|.own 0)/\oc.data=.fields vs/\vs[1]?=some (.str q t)
theorem qM.keep{P:Addr}{q:Str}(h:qM H P q)(e:H' P=H P)(t:∀b o u,H b=some (.frz o u)->H' b=some (.frz o u)):qM H' P q:=by obtain⟨I,J,U,g⟩:=h;refine⟨I,e.trans J,U,λpos j z=>?_⟩;obtain⟨l,p,r,C,T,e2,e3⟩:=g pos j z;exact⟨l,p,r,C,T,t _ _ _ e2,e3⟩
end L2
namespace L3
open PySem L2
inductive Y where
 |non|bl (b:Bool)|int (i:Int)|str (x:Str)|ref (a:Addr)|ty (n:String)|cd (kvs:List<|Str×Str)|tup (ys:List Y)|sq (ys:List Y)
inductive LO where
 |lst (ys:List Y)|dct (kvs:List<|j9×Y)|ins (C:Addr) (fs:List<|Str×Y)|exc (C:Addr)|tb (q:Str)
abbrev ql:=Addr->Option LO
def qe(L:ql)(a:Addr)(o:LO):ql:=λb=>if b=a then some o else L b
theorem q9{L:ql}{a:Addr}{o:LO}:qe L a o a=some o:=by unfold qe;rw[AC rfl]
theorem qc{L:ql}{a b:Addr}{o:LO}(h:b≠a):qe L a o b=L b:=by unfold qe;rw[AB h]
theorem zh{L:ql}{a:Addr}{o u:LO}:qe (qe L a o) a u=qe L a u:=by funext b;unfold qe;split<;>rfl
theorem aU{L:ql}{a b:Addr}{o:LO}(h:L a=some o)(h':L b=none):a≠b:=by intro e;subst e;rw[h] at h';cases h'
theorem FX{L:ql}{a b:Addr}{o u:LO}(h:L a=some o)(h':L b=some u)(d:o≠u):a≠b:=by intro e;subst e;rw[h] at h';exact d<|AO h'
structure G3 where
 K:Aj
 P:Program
 w:World
abbrev _root_.L2.Cx.g3(X:Cx):G3:=⟨X.K,X.prog,X.w⟩
def SqF(K:Aj)(H:Hp)(a:Addr)(xs:List V):Prop:=(∃o,H a=some (.frz o<|.lst xs))\/
 ∃(o:Obj) (eH:Array Value) (n:Nat),K.lookup a=some o/\o.cls=.type "list" /\ o.dict=none/\o.data=.seq eH n/\eH.size<=sizeLine/\zn xs eH.toList
theorem SqF.sq{K:Aj}{a:Addr}(h:SqF K H a xs):wr K H a xs:=by
 rcases h with⟨o,h⟩|h
 ·exact .inl<|.inr ⟨o,h⟩
 ·exact .inr h
mutual
def RV(G:G3)(H:Hp):Y->V->Prop
 |.non,v=>v=.non
 |.bl b,v=>v=.bl b
 |.int i,v=>v=.int i
 |.str x,v=>v=.str x
 |.ref a,v=>v=.ref a
 |.ty n,v=>v=.ty n
 |.cd kvs,v=>∃a,v=.ref a/\KD G.K G.P G.w a (kvs.map λp=>(Sum.inr p.1,V.str p.2))
 |.tup ys,v=>∃a xs,v=.ref a/\cT G.K H a xs/\xj G H ys xs
 |.sq ys,v=>∃a xs,v=.ref a/\SqF G.K H a xs/\xj G H ys xs
def xj(G:G3)(H:Hp):List Y->List V->Prop
 |[],xs=>xs=[]
 |y::ys,xs=>∃x I,xs=x::I/\RV G H y x/\xj G H ys I
end
def ON:HO->Bool
 |.tup _=>true
 |.frz _ _=>true
 |_=>false
def j5(H H':Hp):Prop:=∀a u,ON u=true->H a=some u->H' a=some u
theorem j5.refl(H:Hp):j5 H H:=λ_ _ _ h=>h
abbrev EM:=@j5.refl
theorem j5.trans{H1 H2:Hp}(a:j5 H H1)(b:j5 H1 H2):j5 H H2:=λc u i h=>b c u i<|a c u i h
theorem j5.new{p:Addr}{o:HO}(h:H p=none):j5 H (upd H p o):=λ_ _ _ q=>by rw[qu<|zx q h];exact q
abbrev EN:=@j5.new
theorem j5.lst{p:Addr}{o:HO}(h:H p=some (.lst zs)):j5 H (upd H p o):=λa u i q=>by rw[qu ?_];exact q;rintro rfl;rw[h] at q;cases q;cases i
abbrev E4:=@j5.lst
theorem cT.ts{K:Aj}{a:Addr}(h:cT K H a xs)(t:j5 H H'):cT K H' a xs:=by
 rcases h with(h|⟨o,h⟩)|h
 ·exact .inl<|.inl<|t _ _ rfl h
 ·exact .inl<|.inr ⟨o,t _ _ rfl h⟩
 ·exact .inr h
theorem SqF.ts{K:Aj}{a:Addr}(h:SqF K H a xs)(t:j5 H H'):SqF K H' a xs:=by
 rcases h with⟨o,h⟩|h
 ·exact .inl ⟨o,t _ _ rfl h⟩
 ·exact .inr h
mutual
theorem RV.ts{G:G3}{H H':Hp}(t:j5 H H'):∀{y:Y} {v:V},RV G H y v->RV G H' y v
 |.non,_,h=>h
 |.bl _,_,h=>h
 |.int _,_,h=>h
 |.str _,_,h=>h
 |.ref _,_,h=>h
 |.ty _,_,h=>h
 |.cd _,_,h=>h
 |.tup _,_,ψ=>(by obtain⟨a,I,e,s,r⟩:=ψ;exact ⟨a,I,e,cT.ts s t,xj.ts t r⟩)
 |.sq _,_,ψ=>(by obtain⟨a,I,e,s,r⟩:=ψ;exact ⟨a,I,e,s.ts t,xj.ts t r⟩)
theorem xj.ts{G:G3}{H H':Hp}(t:j5 H H'):∀{ys:List Y} {xs:List V},xj G H ys xs->xj G H' ys xs
 |[],_,h=>h
 |_::_,_,ψ=>(by obtain⟨x,I,e,r,s⟩:=ψ;exact ⟨x,I,e,RV.ts t r,xj.ts t s⟩)
end
theorem xj.length{G:G3}{H:Hp}:∀{ys:List Y} {xs:List V},xj G H ys xs->ys.length=xs.length
 |[],_,h=>by cases h;rfl
 |_::_,_,ψ=>by obtain⟨x,I,e,_,s⟩:=ψ;subst e;simp[xj.length s]
theorem xj.get{G:G3}{H:Hp}:∀{ys:List Y} {xs:List V} {i:Nat} {y:Y},xj G H ys xs->ys[i]?=some y->∃x,xs[i]?=some x/\RV G H y x
 |[],_,_,_,_,h=>by simp at h
 |_::_,_,0,_,ψ,h=>by obtain⟨x,I,e,r,_⟩:=ψ;subst e;simp at h;subst h;exact⟨x,rfl,r⟩
 |_::_,_,i+1,_,ψ,h=>by obtain⟨x,I,e,_,s⟩:=ψ;subst e;obtain⟨J,q,r⟩:=xj.get (i:=i) s (by simpa using h);exact⟨J,by simpa using q,r⟩
theorem xj.app{G:G3}{H:Hp}:∀{ys zs:List Y} {xs us:List V},xj G H ys xs->xj G H zs us->xj G H (ys++zs) (xs++us)
 |[],_,_,_,h,q=>by cases h;exact q
 |_::_,_,_,_,ψ,q=>by obtain⟨x,I,e,r,s⟩:=ψ;subst e;exact⟨x,I++_,rfl,r,xj.app s q⟩
theorem xj.one{G:G3}{y:Y}{x:V}(r:RV G H y x):xj G H [y] [x]:=⟨x,[],rfl,r,rfl⟩
theorem xj.take{G:G3}{H:Hp}:∀{ys:List Y} {xs:List V} (n:Nat),xj G H ys xs->xj G H (ys.take n) (xs.take n)
 |[],_,n,h=>by cases h;simp[xj]
 |_::_,_,0,_=>by simp[xj]
 |_::_,_,n+1,ψ=>by obtain⟨x,I,e,r,s⟩:=ψ;subst e;exact⟨x,I.take n,rfl,r,xj.take n s⟩
theorem xj.drop{G:G3}{H:Hp}:∀{ys:List Y} {xs:List V} (n:Nat),xj G H ys xs->xj G H (ys.drop n) (xs.drop n)
 |[],_,n,h=>by cases h;simp[xj]
 |_::_,_,0,h=>h
 |_::_,_,n+1,ψ=>by obtain⟨x,I,e,r,s⟩:=ψ;subst e;exact xj.drop n s
theorem xj.setY{G:G3}{H:Hp}{y:Y}{x:V}(r:RV G H y x):∀{ys:List Y} {xs:List V} (i:Nat),xj G H ys xs->xj G H (ys.set i y) (xs.set i x)
 |[],_,_,h=>by cases h;simp[xj]
 |_::_,_,0,ψ=>by obtain⟨J,I,e,_,s⟩:=ψ;subst e;exact⟨x,I,rfl,r,s⟩
 |_::_,_,i+1,ψ=>by obtain⟨J,I,e,q,s⟩:=ψ;subst e;exact⟨J,I.set i x,rfl,q,xj.setY r i s⟩
theorem xj.eraseIdx{G:G3}{H:Hp}:∀{ys:List Y} {xs:List V} (n:Nat),xj G H ys xs->xj G H (ys.eraseIdx n) (xs.eraseIdx n)
 |[],_,n,h=>by cases h;simp[xj]
 |_::_,_,0,ψ=>by obtain⟨x,I,e,r,s⟩:=ψ;subst e;exact s
 |_::_,_,n+1,ψ=>by obtain⟨x,I,e,r,s⟩:=ψ;subst e;exact⟨x,I.eraseIdx n,rfl,r,xj.eraseIdx n s⟩
def RO(G:G3)(H:Hp)(a:Addr):LO->Prop
 |.lst ys=>∃xs,H a=some (.lst xs)/\xj G H ys xs
 |.dct kvs=>∃xs,H a=some (.dK xs)/\Paired (λ(p:j9×Y) (q:j9×V)=>p.1=q.1/\RV G H p.2 q.2) kvs xs
 |.ins C fs=>∃dx xs,H a=some (.ins C dx xs)/\Paired (λ(p:Str×Y) (q:Str×V)=>p.1=q.1/\RV G H p.2 q.2) fs xs
 |.exc C=>OM G.K H a C
 |.tb q=>qM H a q
def j6(G:G3)(H:Hp)(L:ql):Prop:=∀a o,L a=some o->RO G H a o
theorem RO.ex{G:G3}{a:Addr}:∀{o:LO},RO G H a o->∃u,H a=some u
 |.lst _,ψ=>(by obtain⟨_,h,_⟩:=ψ;exact ⟨_,h⟩)
 |.dct _,ψ=>(by obtain⟨_,h,_⟩:=ψ;exact ⟨_,h⟩)
 |.ins _ _,ψ=>(by obtain⟨_,_,h,_⟩:=ψ;exact ⟨_,h⟩)
 |.exc _,ψ=>(by obtain⟨_,h,_⟩:=ψ;exact ⟨_,h⟩)
 |.tb _,ψ=>(by obtain⟨_,h,_⟩:=ψ;exact ⟨_,h⟩)
theorem j6.none{G:G3}{L:ql}(h:j6 G H L){p:Addr}(hp:H p=none):L p=none:=by cases e:L p with|none=>rfl|some o=>obtain⟨u,q⟩:=(h p o e).ex;rw[hp] at q;cases q
theorem RO.keep{G:G3}(t:j5 H H'){a:Addr}(e:H' a=H a):∀{o:LO},RO G H a o->RO G H' a o
 |.lst _,ψ=>(by obtain⟨I,h,r⟩:=ψ;exact ⟨I,e.trans h,r.ts t⟩)
 |.dct _,ψ=>(by obtain⟨I,h,r⟩:=ψ;exact ⟨I,e.trans h,ER r λ_ _ ψ=>(by obtain⟨a,b⟩:=ψ;exact ⟨a,b.ts t⟩)⟩)
 |.ins _ _,ψ=>(by obtain⟨J,I,h,r⟩:=ψ;exact ⟨J,I,e.trans h,ER r λ_ _ ψ=>(by obtain⟨a,b⟩:=ψ;exact ⟨a,b.ts t⟩)⟩)
 |.exc _,ψ=>(by obtain⟨o,h,c⟩:=ψ;exact ⟨o,e.trans h,c⟩)
 |.tb _,h=>qM.keep h e λb o u z=>t b _ rfl z
theorem j6.skip{G:G3}{L:ql}(h:j6 G H L){p:Addr}{o:HO}(hp:H p=.none):j6 G (upd H p o) L:=λa u e=>by obtain⟨x,q⟩:=(h a u e).ex;exact(h a u e).keep (EN hp) (qu<|zx q hp)
theorem j6.newL{G:G3}{L:ql}(h:j6 G H L){p:Addr}{ys:List Y}(hp:H p=.none)(r:xj G H ys xs):j6 G (upd H p<|.lst xs) (qe L p<|.lst ys):=λa u e=>by
 by_cases c:a=p
 ·subst c;rw[q9] at e;cases e;exact⟨xs,zq,r.ts<|EN hp⟩
 ·rw[qc c] at e;exact(h a u e).keep (EN hp) (qu c)
theorem j6.setL{G:G3}{L:ql}(h:j6 G H L){p:Addr}{ys:List Y}(hp:H p=some (.lst zs))(r:xj G H ys xs):j6 G (upd H p<|.lst xs) (qe L p<|.lst ys):=λa u e=>by
 by_cases c:a=p
 ·subst c;rw[q9] at e;cases e;exact⟨xs,zq,r.ts<|E4 hp⟩
 ·rw[qc c] at e;exact(h a u e).keep (E4 hp) (qu c)
def qg(L L':ql):Prop:=∀a o,L a=some o->L' a=some o
theorem qg.refl(L:ql):qg L L:=λ_ _ h=>h
abbrev EL:=@qg.refl
theorem qg.trans{L L1 L2:ql}(a:qg L L1)(b:qg L1 L2):qg L L2:=λc o h=>b c o<|a c o h
theorem qg.new{L:ql}{p:Addr}{o:LO}(h:L p=none):qg L (qe L p o):=λa u e=>by rw[qc<|aU e h];exact e
abbrev By:=@qg.new
theorem j6.sub{G:G3}{L L':ql}(h:j6 G H L')(s:qg L L'):j6 G H L:=λa o e=>h a o<|s a o e
abbrev jm:=List<|Option Y
structure xx(G:G3)(H:Hp)(σ:St)(τ:jm):Prop where
 len:σ.length=τ.length
 get:∀(i:Nat) y,τ[i]?=some (some y)->∃v,σ[i]?=some (some v)/\RV G H y v
theorem xx.ts{G:G3}{τ:jm}(h:xx G H σ τ)(t:j5 H H'):xx G H' σ τ:=
 ⟨h.len,λi y e=>let ⟨v,a,b⟩:=h.get i y e;⟨v,a,b.ts t⟩⟩
theorem xx.set{G:G3}{τ:jm}(h:xx G H σ τ){v:V}{y:Y}(r:RV G H y v):xx G H (σ.set i<|some v) (τ.set i<|some y):=by
 refine⟨by simp[h.len],λj z e=>?_⟩;by_cases c:i=j
 ·subst c;have I:i<τ.length:=by
   by_cases q:i<τ.length
   ·exact q
   ·rw[CG (by simp;omega)] at e;cases e
  rw[BX I] at e;cases e;exact⟨v,BX (by rw[h.len];exact I),r⟩
 ·rw[Bi c] at e ⊢;exact h.get j z e
theorem xx.more{G:G3}{τ:jm}(h:xx G H σ τ)(n:Nat):xx G H (σ++List.replicate n none) (τ++List.replicate n none):=by
 refine⟨by simp[h.len],λj z e=>?_⟩;by_cases c:j<τ.length
 ·rw[AJ c] at e;rw[AJ (by rw[h.len];exact c)];exact h.get j z e
 ·rw[Ax (by omega),Cr] at e;split at e<;>cases e
def v_:jm->Nat->Option Y
 |[],_=>none
 |o::_,0=>o
 |_::r,i+1=>v_ r i
theorem qD:∀(τ:jm) (i:Nat) {y:Y},v_ τ i=some y->τ[i]?=some (some y)
 |[],_,_,h=>by cases h
 |o::_,0,_,h=>by simp[v_] at h;simp[h]
 |_::r,i+1,_,h=>by simp only[Dc];exact qD r i h
abbrev YK:=Y->ql->Prop
abbrev v4:=jm->ql->YK->Prop
abbrev iz:=jm->ql->(Bool->ql->Prop)->Prop
abbrev fg:=jm->ql->(List Y->ql->Prop)->Prop
structure xw where
 nx:jm->ql->Prop
 rt:YK
 bk:jm->ql->Prop:=λ_ _=>False
 ct:jm->ql->Prop:=λ_ _=>False
abbrev kh:=xw->jm->ql->Prop
abbrev lS:=Y->jm->ql->(jm->ql->Prop)->Prop
abbrev rm:=List Y->jm->ql->(jm->ql->Prop)->Prop
abbrev n_:=jm->ql->(List Y->(ql->Prop)->ql->Prop)->Prop
abbrev uJ:=Y->Y->ql->YK->Prop
def uH(G:G3)(H:Hp)(I:YK)(Q:VK):Prop:=∀v H' y L',j5 H H'->j6 G H' L'->RV G H' y v->I y L'->Q v H'
def yc(G:G3)(H:Hp)(I:Bool->ql->Prop)(Q:Bool->Hp->Prop):Prop:=∀b H' L',j5 H H'->j6 G H' L'->I b L'->Q b H'
def HH(G:G3)(H:Hp)(I:List Y->ql->Prop)(Q:List V->Hp->Prop):Prop:=∀vs H' ys L',j5 H H'->j6 G H' L'->xj G H' ys vs->I ys L'->Q vs H'
def nS(G:G3)(H:Hp)(I:jm->ql->Prop)(Q:St->Hp->Prop):Prop:=∀σ H' τ L',j5 H H'->xx G H' σ τ->j6 G H' L'->I τ L'->Q σ H'
theorem uH.ts{G:G3}{I:YK}{Q:VK}(h:uH G H I Q)(t:j5 H H'):uH G H' I Q:=λv J y U g=>h v J y U<|t.trans g
theorem yc.ts{G:G3}{I:Bool->ql->Prop}{Q:Bool->Hp->Prop}(h:yc G H I Q)(t:j5 H H'):yc G H' I Q:=λv J U g=>h v J U<|t.trans g
theorem nS.ts{G:G3}{I:jm->ql->Prop}{Q:St->Hp->Prop}(h:nS G H I Q)(t:j5 H H'):nS G H' I Q:=λv J y U g=>h v J y U<|t.trans g
structure zF(G:G3)(H:Hp)(D3:xw)(D:vJ):Prop where
 nx:nS G H D3.nx D.nx
 rt:uH G H D3.rt D.rt
 bk:nS G H D3.bk D.bk
 ct:nS G H D3.ct D.ct
theorem zF.ts{G:G3}{D3:xw}{D:vJ}(h:zF G H D3 D)(t:j5 H H'):zF G H' D3 D:=⟨h.nx.ts t,h.rt.ts t,h.bk.ts t,h.ct.ts t⟩
def wD(G:G3)(t:v4):TE:=λσ H Q=>∃τ L I,xx G H σ τ/\j6 G H L/\t τ L I/\uH G H I Q
def e_(G:G3)(t:iz):TT:=λσ H Q=>∃τ L I,xx G H σ τ/\j6 G H L/\t τ L I/\yc G H I Q
def HI(G:G3)(t:fg):TA:=λσ H Q=>∃τ L I,xx G H σ τ/\j6 G H L/\t τ L I/\HH G H I Q
def Fj(G:G3)(t:kh):L2.TS:=λD σ H=>∃τ L D3,xx G H σ τ/\j6 G H L/\t D3 τ L/\zF G H D3 D
def Ee(G:G3)(g:lS):TG:=λv σ H Q=>∃y τ L I,RV G H y v/\xx G H σ τ/\j6 G H L/\g y τ L I/\nS G H I Q
def OO(G:G3)(g:rm):d_:=λvs σ H Q=>∃ys τ L I,xj G H ys vs/\xx G H σ τ/\j6 G H L/\g ys τ L I/\nS G H I Q
structure fj(G:G3)(H₀:Hp)(J:It)(ys:List Y)(keep:ql->Prop):Prop where
 go:∀i H L,j5 H₀ H->j6 G H L->keep L->i<ys.length->J.go i H
 yld:∀i H L x H' y,j5 H₀ H->j6 G H L->keep L->ys[i]?=some y->J.yld i H x H'->j5 H H'/\j6 G H' L/\RV G H' y x
 stop:∀H L,j5 H₀ H->j6 G H L->keep L->J.stop ys.length H
def FY(G:G3)(wi:n_):TI:=λσ H R=>∃τ L I,xx G H σ τ/\j6 G H L/\wi τ L I/\∀J H' ys keep L',j5 H H'->j6 G H' L'->fj G H' J ys keep->I ys keep L'->R J H'
def iT(G:G3)(U:uJ):R2:=λx y H Q=>∃x3 I L J,RV G H x3 x/\RV G H I y/\j6 G H L/\U x3 I L J/\uH G H J Q
def f_(G:G3)(J:List Y->ql->YK->Prop):List V->Hp->VK->Prop:=λxs H Q=>∃ys L I,xj G H ys xs/\j6 G H L/\J ys L I/\uH G H I Q
def HJ(G:G3)(J:Y->ql->YK->Prop):V->Hp->VK->Prop:=λx H Q=>∃y L I,RV G H y x/\j6 G H L/\J y L I/\uH G H I Q
theorem PE.imp{t u:TE}(h:PE X e t)(q:∀σ H Q,u σ H Q->t σ H Q):PE X e u:=λJ s σ H Q I z=>h J s σ H Q I<|q σ H Q z
abbrev E5:=@PE.imp
theorem PE.imq{G:G3}{t:TE}{u:v4}(h:PE X e t)(q:∀σ H Q τ L I,xx G H σ τ->j6 G H L->u τ L I->uH G H I Q->t σ H Q):PE X e (wD G u):=E5 h λσ H Q ψ=>(by obtain⟨τ,L,I,a,b,c,d⟩:=ψ;exact q σ H Q τ L I a b c d)
abbrev EO:=@PE.imq
theorem PT.imp{t u:TT}(h:PT X e t)(q:∀σ H Q,u σ H Q->t σ H Q):PT X e u:=λJ s σ H Q I z=>h J s σ H Q I<|q σ H Q z
theorem PT.imq{G:G3}{t:TT}{u:iz}(h:PT X e t)(q:∀σ H Q τ L I,xx G H σ τ->j6 G H L->u τ L I->yc G H I Q->t σ H Q):PT X e (e_ G u):=PT.imp h λσ H Q ψ=>(by obtain⟨τ,L,I,a,b,c,d⟩:=ψ;exact q σ H Q τ L I a b c d)
theorem PW.imp{t u:TT}(h:PW X e t)(q:∀σ H Q,u σ H Q->t σ H Q):PW X e u:=λU J s σ H Q I z=>h U J s σ H Q I<|q σ H Q z
theorem PW.imq{G:G3}{t:TT}{u:iz}(h:PW X e t)(q:∀σ H Q τ L I,xx G H σ τ->j6 G H L->u τ L I->yc G H I Q->t σ H Q):PW X e (e_ G u):=PW.imp h λσ H Q ψ=>(by obtain⟨τ,L,I,a,b,c,d⟩:=ψ;exact q σ H Q τ L I a b c d)
theorem PA.imp{e:List Expr}{u:TA}(h:PA X e t)(q:∀σ H Q,u σ H Q->t σ H Q):PA X e u:=λpos J s σ H Q I z=>h pos J s σ H Q I<|q σ H Q z
theorem PA.imq{G:G3}{e:List Expr}{u:fg}(h:PA X e t)(q:∀σ H Q τ L I,xx G H σ τ->j6 G H L->u τ L I->HH G H I Q->t σ H Q):PA X e (HI G u):=PA.imp h λσ H Q ψ=>(by obtain⟨τ,L,I,a,b,c,d⟩:=ψ;exact q σ H Q τ L I a b c d)
theorem PS.imp{e:Stmt}{t u:L2.TS}(h:PS X e t)(q:∀D σ H,u D σ H->t D σ H):PS X e u:=λJ s σ H Q I z=>h J s σ H Q I<|q _ σ H z
theorem PS.imq{G:G3}{e:Stmt}{t:L2.TS}{u:kh}(h:PS X e t)(q:∀D σ H τ L D3,xx G H σ τ->j6 G H L->u D3 τ L->zF G H D3 D->t D σ H):PS X e (Fj G u):=PS.imp h λD σ H ψ=>(by obtain⟨τ,L,D3,a,b,c,d⟩:=ψ;exact q D σ H τ L D3 a b c d)
abbrev EU:=@PS.imq
theorem jP.imp{e:List Stmt}{t u:L2.TS}(h:jP X e t)(q:∀D σ H,u D σ H->t D σ H):jP X e u:=λJ s σ H Q I z=>h J s σ H Q I<|q _ σ H z
theorem jP.imq{G:G3}{e:List Stmt}{t:L2.TS}{u:kh}(h:jP X e t)(q:∀D σ H τ L D3,xx G H σ τ->j6 G H L->u D3 τ L->zF G H D3 D->t D σ H):jP X e (Fj G u):=jP.imp h λD σ H ψ=>(by obtain⟨τ,L,D3,a,b,c,d⟩:=ψ;exact q D σ H τ L D3 a b c d)
theorem PF.imp{e:List Expr}{t u:TT}(h:PF X e t)(q:∀σ H Q,u σ H Q->t σ H Q):PF X e u:=λJ s σ H Q I z=>h J s σ H Q I<|q σ H Q z
end L3
variable {g:L3.lS}{G:L3.G3}{y:L3.Y}{tA tc:L3.iz}{ta tb te to:L3.v4}{kvs:List<|L2.j9×L3.Y}{hd ys:List L3.Y}{L L' L0 L1:L3.ql}{τ:L3.jm}{gs:L3.rm}{tr:L3.fg}{c6 c7 c8:Option L3.Y}{En:L3.xw}
namespace L3
open PySem L2
def vk(b:Bool)(A B:Prop):Prop:=match b with
 |true=>A
 |false=>B
theorem OP{b:Bool}{A B:Prop}(h:b=true->A)(k:b=false->B):vk b A B:=by cases b with|true=>exact h rfl|false=>exact k rfl
theorem cx{b:Bool}{A B:Prop}(e:b=true)(h:A):vk b A B:=by rw[e];exact h
theorem vi{b:Bool}{A B:Prop}(e:b=false)(h:B):vk b A B:=by rw[e];exact h
theorem jg{p:Prop} [Decidable p]{A B:Prop}(h:p->A)(k:¬p->B):vk (decide p) A B:=by
 by_cases c:p
 ·rw[Av c];exact h c
 ·rw[Au c];exact k c
def nb(neg b:Bool):Bool:=match neg with
 |true=>!b
 |false=>b
def qw(i:Nat)(τ:jm)(L:ql)(Q:YK):Prop:=match v_ τ i with
 |some y=>Q y L
 |none=>False
def yC(y:Y)(_:jm)(L:ql)(Q:YK):Prop:=Q y L
def bL(r:uJ)(ta tb:v4)(τ:jm)(L:ql)(Q:YK):Prop:=ta τ L λx L1=>tb τ L1 λy L2=>r x y L2 Q
def OQ(r:Y->ql->YK->Prop)(ta:v4)(τ:jm)(L:ql)(Q:YK):Prop:=ta τ L λx L1=>r x L1 Q
def yI(C:Int->Int->Prop)(g:Int->Int->Y)(x y:Y)(L:ql)(Q:YK):Prop:=match x,y with
 |.int i,.int j=>C i j/\Q (g i j) L
 |_,_=>False
def i_(g:Int->Int->Y)(x y:Y)(L:ql)(Q:YK):Prop:=match x,y with
 |.int i,.int j=>Q (g i j) L
 |_,_=>False
def OR(x:Y)(L:ql)(Q:YK):Prop:=match x with
 |.int i=>Q (.int<|-i) L
 |_=>False
def dF(L:ql):Y->Option (List Y)
 |.tup ys=>some ys
 |.sq ys=>some ys
 |.ref a=>match L a with
  |some (.lst ys)=>some ys
  |_=>none
 |_=>none
@[irreducible] def cZ (L:ql) (a:Addr) (k:List Y->Prop):Prop:=match L a with
 |some (.lst ys)=>k ys
 |_=>False
theorem x5{a:Addr}{k:List Y->Prop}(h:cZ L a k):∃ys,L a=some (.lst ys)/\k ys:=by
 unfold cZ at h;split at h
 ·rename_i ys e;exact⟨ys,e,h⟩
 ·exact h.elim
theorem qr{a:Addr}{k:List Y->Prop}(e:L a=some (.lst ys))(h:k ys):cZ L a k:=by unfold cZ;rw[e];exact h
def nl(L:ql)(x:Y)(k:List Y->Prop):Prop:=match x with
 |.tup ys=>k ys
 |.sq ys=>k ys
 |.ref a=>cZ L a k
 |_=>False
theorem xn{a:Addr}(h:L a=some (.lst ys)):dF L (.ref a)=some ys:=by show(match L a with|some (.lst ys)=>some ys|_=>none)=some ys;rw[h]
theorem dz{x:Y}{k:List Y->Prop}(h:nl L x k):∃ys,dF L x=some ys/\k ys:=by
 cases x with
 |tup ys=>exact⟨ys,rfl,h⟩
 |sq ys=>exact⟨ys,rfl,h⟩
 |ref a=>obtain⟨ys,e,q⟩:=x5 h;exact⟨ys,xn e,q⟩
 |_=>exact h.elim
theorem oV{a:Addr}(h:dF L (.ref a)=some ys):L a=some (.lst ys):=by
 have I:(match L a with|some (.lst ys)=>some ys|_=>none)=some ys:=h;split at I
 ·rename_i e;cases I;exact e
 ·cases I
theorem OS{x:Y}{k:List Y->Prop}(e:dF L x=some ys)(h:k ys):nl L x k:=by cases x with|tup I=>cases e;exact h|sq I=>cases e;exact h|ref a=>exact qr (oV e) h|_=>cases e
theorem qb{a:Addr}{k:List Y->Prop}(e:L a=some (.lst ys))(h:k ys):nl L (.ref a) k:=OS (xn e) h
def yU(x y:Y)(L:ql)(Q:YK):Prop:=match x,y with
 |.int i,.int j=>Q (.int<|i+j) L
 |.str a,.str b=>a.length+b.length<=sizeLine/\Q (.str<|a++b) L
 |.ref a,.ref b=>∃ys zs,L a=some (.lst ys)/\L b=some (.lst zs)/\ys.length+zs.length<=sizeLine/\∀p,L p=none->Q (.ref p) (qe L p<|.lst<|ys++zs)
 |_,_=>False
def b_(L:ql)(Q:α->ql->Prop):Option α->Prop
 |some v=>Q v L
 |none=>False
def km(kvs:List<|j9×Y)(k:j9):Option Y:=(kvs.find? λp=>decide<|p.1=k).map (·.2)
@[irreducible] def pP (L:ql) (a:Addr) (k:List (j9×Y)->Prop):Prop:=match L a with
 |some (.dct kvs)=>k kvs
 |_=>False
theorem gc{a:Addr}{k:List (j9×Y)->Prop}(h:pP L a k):∃kvs,L a=some (.dct kvs)/\k kvs:=by
 unfold pP at h;split at h
 ·rename_i I e;exact⟨I,e,h⟩
 ·exact h.elim
theorem vm{a:Addr}{k:List (j9×Y)->Prop}(e:L a=some (.dct kvs))(h:k kvs):pP L a k:=by unfold pP;rw[e];exact h
def uI(x y:Y)(L:ql)(Q:YK):Prop:=match x,y with
 |.str z,.int i=>z.length<=sizeLine/\b_ L (λc L=>Q (.str ⟨#[c]⟩) L) (bp z.cps.toList i)
 |.cd kvs,.str k=>b_ L (λs L=>Q (.str s) L)<|kvs.lookup k
 |.ref a,.str k=>pP L a λkvs=>b_ L Q<|km kvs<|.inr k
 |x,.int i=>nl L x λys=>b_ L Q<|bp ys i
 |_,_=>False
def yq(xs:List Y)(L:ql)(Q:YK):Prop:=match xs with
 |[.str z]=>z.length<=sizeLine/\Q (.int z.length) L
 |[x]=>nl L x λys=>Q (.int ys.length) L
 |_=>False
def FZ(xs:List Y)(L:ql)(Q:YK):Prop:=match xs with
 |[.int i,.int j]=>Q (.int<|max i j) L
 |_=>False
def HK(xs:List Y)(L:ql)(Q:YK):Prop:=match xs with
 |[.int i,.int j]=>Q (.int<|min i j) L
 |_=>False
inductive rC where
 |non|bool|int|str|tuple|list|dict
def rC.nm:rC->String
 |.non => "NoneType"
 |.bool => "bool"
 |.int => "int"
 |.str => "str"
 |.tuple => "tuple"
 |.list => "list"
 |.dict => "dict"
def w_(L:ql):Y->Option rC
 |.non=>some .non
 |.bl _=>some .bool
 |.int _=>some .int
 |.str _=>some .str
 |.tup _=>some .tuple
 |.sq _=>some .list
 |.ref a=>match L a with
  |some (.lst _)=>some .list
  |some (.dct _)=>some .dict
  |_=>none
 |_=>none
theorem OT{a:Addr}(h:L a=some (.lst ys)):w_ L (.ref a)=some .list:=by show(match L a with|some (.lst _)=>some rC.list|some (.dct _)=>some .dict|_=>none)=some .list;rw[h]
def F1:rC->rC->Bool
 |.bool,.int=>true
 |.bool,.bool=>true
 |.int,.int=>true
 |.str,.str=>true
 |.tuple,.tuple=>true
 |.list,.list=>true
 |.dict,.dict=>true
 |.non,.non=>true
 |_,_=>false
@[irreducible] def Eh (L:ql) (a:Addr) (k:rC->Prop):Prop:=match w_ L (.ref a) with
 |some T=>k T
 |none=>False
theorem OU{a:Addr}{k:rC->Prop}(h:Eh L a k):∃T,w_ L (.ref a)=some T/\k T:=by
 unfold Eh at h;split at h
 ·rename_i T e;exact⟨T,e,h⟩
 ·exact h.elim
theorem dE{a:Addr}{k:rC->Prop}(e:L a=some (.lst ys))(h:k .list):Eh L a k:=by unfold Eh;rw[OT e];exact h
def HL(L:ql)(x:Y)(k:rC->Prop):Prop:=match x with
 |.non=>k .non
 |.bl _=>k .bool
 |.int _=>k .int
 |.str _=>k .str
 |.tup _=>k .tuple
 |.sq _=>k .list
 |.ref a=>Eh L a k
 |_=>False
theorem OV{x:Y}{k:rC->Prop}(h:HL L x k):∃T,w_ L x=some T/\k T:=by cases x with|ref a=>exact OU h|ty n=>exact h.elim|cd k=>exact h.elim|_=>exact⟨_,rfl,h⟩
def HM(S:rC)(te:v4)(τ:jm)(L:ql)(Q:YK):Prop:=te τ L λx L1=>HL L1 x λT=>Q (.bl<|F1 T S) L1
def fP:Y->Bool
 |.non=>true
 |.bl _=>true
 |.int _=>true
 |.str _=>true
 |_=>false
def bK:Y->V
 |.non=>.non
 |.bl b=>.bl b
 |.int i=>.int i
 |.str x=>.str x
 |_=>.ty "?"
theorem RV.flat :∀{y:Y} {v:V},fP y=true->RV G H y v->v=bK y:=by intro y v e h;cases y<;>first|exact h|cases e
theorem hZ:∀{y:Y},fP y=true->a9 (bK y)=true
 |.non,_=>rfl
 |.bl _,_=>rfl
 |.int _,_=>rfl
 |.str _,_=>rfl
theorem xj.flat :∀{ys:List Y} {xs:List V},ys.all fP=true->xj G H ys xs->xs=ys.map bK
 |[],_,_,h=>h
 |y::ys,_,f,ψ=>by obtain⟨x,I,e,r,s⟩:=ψ;rw[DR,Bb] at f;rw[e,r.flat f.1,s.flat f.2];rfl
def HN:Y->Bool
 |.ref _=>true
 |.sq _=>true
 |_=>false
def jj(L:ql):Nat->Y->Da->Prop
 |0,y,d=>fP y=true/\d=.s (bK y)
 |n+1,y,d=>(fP y=true/\d=.s (bK y))\/(∃ys ds,y=.tup ys/\d=.tup ds/\Paired (jj L n) ys ds)\/(∃ys ds,HN y=true/\d=.lst ds/\dF L y=some ys/\Paired (jj L n) ys ds)
def yT:Y->Bool
 |.ref _=>true
 |.tup _=>true
 |.sq _=>true
 |_=>false
def yr(neg:Bool)(x y:Y)(L:ql)(Q:YK):Prop:=match x,y with
 |.int i,.int j=>Q (.bl<|nb neg<|decide<|i=j) L
 |.str i,.str j=>Q (.bl<|nb neg<|decide<|i=j) L
 |.bl i,.bl j=>Q (.bl<|nb neg<|decide<|i=j) L
 |x,y=>yT x=true/\yT y=true/\∃n m d e,n<=128/\jj L n x d/\jj L m y e/\Q (.bl<|nb neg<|Da.eq d e) L
def nO(neg:Bool)(ta:v4)(τ:jm)(L:ql)(Q:YK):Prop:=ta τ L λx L1=>match x with
 |.non=>Q (.bl<|!neg) L1
 |_=>Q (.bl neg) L1
def yB(t:v4)(τ:jm)(L:ql)(Q:Bool->ql->Prop):Prop:=t τ L λx L1=>match x with
 |.bl c=>Q c L1
 |_=>False
def Em(t u:iz)(τ:jm)(L:ql)(Q:Bool->ql->Prop):Prop:=t τ L λc L1=>vk c (u τ L1 Q)<|Q false L1
def HQ(t u:iz)(τ:jm)(L:ql)(Q:Bool->ql->Prop):Prop:=t τ L λc L1=>vk c (Q true L1)<|u τ L1 Q
def Fk(t:iz)(τ:jm)(L:ql)(Q:Bool->ql->Prop):Prop:=t τ L λc L1=>Q (!c) L1
def OW(ta tb:v4)(τ:jm)(L:ql)(Q:YK):Prop:=ta τ L λx L1=>match x with
 |.bl c=>vk c (tb τ L1 Q)<|Q (.bl false) L1
 |_=>False
def OX(ta:v4)(τ:jm)(L:ql)(Q:YK):Prop:=ta τ L λx L1=>match x with
 |.bl c=>Q (.bl<|!c) L1
 |_=>False
def F2(t:iz)(ta tb:v4)(τ:jm)(L:ql)(Q:YK):Prop:=t τ L λc L1=>vk c (ta τ L1 Q)<|tb τ L1 Q
def aY(_:jm)(L:ql)(Q:List Y->ql->Prop):Prop:=Q [] L
def zj(ta:v4)(tr:fg)(τ:jm)(L:ql)(Q:List Y->ql->Prop):Prop:=ta τ L λx L1=>tr τ L1 λxs L2=>Q (x::xs) L2
def mC(t:fg)(τ:jm)(L:ql)(Q:YK):Prop:=t τ L λys L1=>match Nat.ble ys.length 1000 with
 |true=>Q (.tup ys) L1
 |false=>False
def om(t:fg)(τ:jm)(L:ql)(Q:YK):Prop:=t τ L λys L1=>match Nat.ble ys.length 1000 with
 |true=>∀p,L1 p=none->Q (.ref p) (qe L1 p<|.lst ys)
 |false=>False
def r_(r:List Y->ql->YK->Prop)(t:fg)(τ:jm)(L:ql)(Q:YK):Prop:=t τ L λvs L1=>r vs L1 Q
abbrev Eo:=jm->ql->(Option Int->ql->Prop)->Prop
def xA(_:jm)(L:ql)(Q:Option Int->ql->Prop):Prop:=Q none L
def HR(t:v4)(τ:jm)(L:ql)(Q:Option Int->ql->Prop):Prop:=t τ L λx L1=>match x with
 |.int i=>Q (some i) L1
 |_=>False
def gH(xs:List Y)(lo hi:Option Int):List Y:=(xs.drop<|HT.sIx xs.length 0 lo).take<|HT.sIx xs.length xs.length hi-HT.sIx xs.length 0 lo
def HU(x:Y)(lo hi:Option Int)(L:ql)(Q:YK):Prop:=match x with
 |.ref a=>cZ L a λys=>∀p,L p=none->Q (.ref p) (qe L p<|.lst<|gH ys lo hi)
 |.sq ys=>∀p,L p=none->Q (.ref p) (qe L p<|.lst<|gH ys lo hi)
 |_=>False
def HV(r:Y->Option Int->Option Int->ql->YK->Prop)(te:v4)(tl th:Eo)(τ:jm)(L:ql)(Q:YK):Prop:=te τ L λx L1=>tl τ L1 λl L2=>th τ L2 λu L3=>r x l u L3 Q
def xb(t u:kh)(D:xw)(τ:jm)(L:ql):Prop:=t { D with nx:=u D } τ L
def fY(D:xw)(τ:jm)(L:ql):Prop:=D.nx τ L
def OY(D:xw)(τ:jm)(L:ql):Prop:=D.ct τ L
def eM(te:v4)(D:xw)(τ:jm)(L:ql):Prop:=te τ L λ_ L1=>D.nx τ L1
def gG(te:v4)(D:xw)(τ:jm)(L:ql):Prop:=te τ L D.rt
def HW(D:xw)(_:jm)(L:ql):Prop:=D.rt .non L
def jU(c:iz)(t u:kh)(D:xw)(τ:jm)(L:ql):Prop:=c τ L λb L1=>vk b (t D τ L1)<|u D τ L1
def wb(te:v4)(g:lS)(D:xw)(τ:jm)(L:ql):Prop:=te τ L λx L1=>g x τ L1 D.nx
def fK:jm->Nat->Y->jm
 |[],_,_=>[]
 |_::r,0,y=>some y::r
 |o::r,i+1,y=>o::fK r i y
theorem ae:∀(τ:jm) (i:Nat) (y:Y),fK τ i y=τ.set i (some y)
 |[],_,_=>rfl
 |_::_,0,_=>rfl
 |o::r,i+1,y=>by rw[fK,ae r i y];rfl
def z7(i:Nat)(y:Y)(τ:jm)(L:ql)(Q:jm->ql->Prop):Prop:=Q (fK τ i y) L
def eW(ys:List Y)(τ:jm)(L:ql)(Q:jm->ql->Prop):Prop:=match ys with
 |[]=>Q τ L
 |_=>False
def x6(t:lS)(u:rm)(ys:List Y)(τ:jm)(L:ql)(Q:jm->ql->Prop):Prop:=match ys with
 |[]=>False
 |y::r=>t y τ L λI L'=>u r I L' Q
def hJ(n:Nat)(t:rm)(y:Y)(τ:jm)(L:ql)(Q:jm->ql->Prop):Prop:=match y with
 |.tup ys=>match ys.length==n with
  |true=>t ys τ L Q
  |false=>False
 |_=>False
def HX(i j:Nat)(ta:fg)(D:xw)(τ:jm)(L:ql):Prop:=ta τ L λvs L1=>match vs with
 |[v,w]=>D.nx (fK (fK τ i v) j w) L1
 |_=>False
def dI(W:α->ql->Prop)(x:α)(L:ql):Prop:=∃L',qg L' L/\W x L'
theorem HY{W:α->ql->Prop}{x:α}(h:W x L):dI W x L:=⟨L,EL L,h⟩
def HZ(c:iz)(tb:kh)(D:xw)(τ:jm)(L:ql):Prop:=∃W:Nat->jm->ql->Prop,(∃m,W m τ L)/\∀m τ L,W m τ L->
 c τ L λb L1=>vk b (∃N:jm->ql->Prop,(∀I L',N I L'->∃J,J<m/\W J I L')/\tb { D with nx:=dI N,ct:=dI N,bk:=D.nx } τ L1)<|D.nx τ L1
@[irreducible] def vD (ys:List Y) (keep:ql->Prop) (g:lS) (tb:kh) (D:xw) (τ:jm) (L1:ql):Prop:=∃W:Nat->jm->ql->Prop,W 0 τ L1/\(∀i τ L,W i τ L->keep L)/\
 (∀i y τ L,ys[i]?=some y->W i τ L->g y τ L λI L2=>tb { D with nx:=dI<|W<|i+1,ct:=dI<|W<|i+1,bk:=D.nx } I L2)/\∀τ L,W ys.length τ L->D.nx τ L
theorem kz{keep:ql->Prop}{tb:kh}{D:xw}(h:∃W:Nat->jm->ql->Prop,W 0 τ L1/\(∀i τ L,W i τ L->keep L)/\
 (∀i y τ L,ys[i]?=some y->W i τ L->g y τ L λI L2=>tb { D with nx:=dI<|W<|i+1,ct:=dI<|W<|i+1,bk:=D.nx } I L2)/\∀τ L,W ys.length τ L->D.nx τ L):vD ys keep g tb D τ L1:=by unfold vD;exact h
theorem OZ{keep:ql->Prop}{tb:kh}{D:xw}(h:vD ys keep g tb D τ L1):∃W:Nat->jm->ql->Prop,W 0 τ L1/\(∀i τ L,W i τ L->keep L)/\
 (∀i y τ L,ys[i]?=some y->W i τ L->g y τ L λI L2=>tb { D with nx:=dI<|W<|i+1,ct:=dI<|W<|i+1,bk:=D.nx } I L2)/\∀τ L,W ys.length τ L->D.nx τ L:=by unfold vD at h;exact h
def t8(wi:n_)(g:lS)(tb:kh)(D:xw)(τ:jm)(L:ql):Prop:=wi τ L λys keep L1=>vD ys keep g tb D τ L1
@[irreducible] def nN (L:ql) (a:Addr) (R:List Y->(ql->Prop)->ql->Prop):Prop:=match L a with
 |some (.lst ys)=>R ys (λL=>L a=some (.lst ys)) L
 |_=>False
theorem jx{a:Addr}{R:List Y->(ql->Prop)->ql->Prop}(h:L a=some (.lst ys))(q:∀keep:ql->Prop,(∀L',L' a=L a->keep L')->R ys keep L):nN L a R:=by unfold nN;rw[h];exact q _ λL' I=>I.trans h
theorem lJ{a:Addr}{R:List Y->(ql->Prop)->ql->Prop}(h:nN L a R):∃ys keep,dF L (.ref a)=some ys/\keep L/\(∀L',keep L'->dF L' (.ref a)=some ys)/\R ys keep L:=by
 unfold nN at h;split at h
 ·rename_i ys e;exact⟨ys,_,xn e,e,λL' I=>xn I,h⟩
 ·exact h.elim
def du(tl:v4)(τ:jm)(L:ql)(R:List Y->(ql->Prop)->ql->Prop):Prop:=tl τ L λx L1=>match x with
 |.ref a=>nN L1 a R
 |.sq ys=>R ys (λ_=>True) L1
 |_=>False
def O0(tl:v4)(τ:jm)(L:ql)(R:List Y->(ql->Prop)->ql->Prop):Prop:=tl τ L λx L1=>match x with
 |.tup ys=>R ys (λ_=>True) L1
 |_=>False
def aA(lo:Int)(n:Nat):List Y:=(List.range n).map λk=>.int<|lo+(k:Nat)
def vA(ta:fg)(τ:jm)(L:ql)(R:List Y->(ql->Prop)->ql->Prop):Prop:=ta τ L λvs L1=>match vs with
 |[.int j]=>(-(2 ^ 62)<=j/\j<2 ^ 62)/\R (aA 0 j.toNat) (λ_=>True) L1
 |_=>False
def O1(_:jm)(L:ql)(Q:Bool->ql->Prop):Prop:=Q true L
@[irreducible] def f' (ys:List Y) (keep:ql->Prop) (n:Nat) (g:lS) (tc:iz) (te:v4) (τ:jm) (L1:ql) (Q:YK):Prop:=ys.length<sizeLine/\∃W:Nat->List Y->ql->Prop,W 0 [] L1/\(∀i zs L,W i zs L->keep L)/\
 (∀i y zs L,ys[i]?=some y->W i zs L->g y (τ++List.replicate n none) L λI L2=>tc I L2 λb L3=>vk b (te I L3 λz J=>dI (W<|i+1) (zs++[z]) J)<|dI (W<|i+1) zs L3)/\
 ∀zs L,W ys.length zs L->∀p,L p=none->Q (.ref p) (qe L p<|.lst zs)
theorem H0{keep:ql->Prop}{Q:YK}(h:ys.length<sizeLine/\∃W:Nat->List Y->ql->Prop,W 0 [] L1/\(∀i zs L,W i zs L->keep L)/\
 (∀i y zs L,ys[i]?=some y->W i zs L->g y (τ++List.replicate n none) L λI L2=>tc I L2 λb L3=>vk b (te I L3 λz J=>dI (W<|i+1) (zs++[z]) J)<|dI (W<|i+1) zs L3)/\
 ∀zs L,W ys.length zs L->∀p,L p=none->Q (.ref p) (qe L p<|.lst zs)):f' ys keep n g tc te τ L1 Q:=by unfold f';exact h
theorem O2{keep:ql->Prop}{Q:YK}(h:f' ys keep n g tc te τ L1 Q):ys.length<sizeLine/\∃W:Nat->List Y->ql->Prop,W 0 [] L1/\(∀i zs L,W i zs L->keep L)/\
 (∀i y zs L,ys[i]?=some y->W i zs L->g y (τ++List.replicate n none) L λI L2=>tc I L2 λb L3=>vk b (te I L3 λz J=>dI (W<|i+1) (zs++[z]) J)<|dI (W<|i+1) zs L3)/\
 ∀zs L,W ys.length zs L->∀p,L p=none->Q (.ref p) (qe L p<|.lst zs):=by unfold f' at h;exact h
def x_(n:Nat)(wi:n_)(g:lS)(tc:iz)(te:v4)(τ:jm)(L:ql)(Q:YK):Prop:=wi τ L λys keep L1=>f' ys keep n g tc te τ L1 Q
abbrev zc:=List Y->ql->YK->Prop
def kg(sp:zc)(t:fg)(τ:jm)(L:ql)(Q:YK):Prop:=t τ L λys L1=>sp ys L1 Q
def wx(x:Y)(vs:List Y)(L:ql)(Q:YK):Prop:=match x,vs with
 |.ref a,[v]=>cZ L a λys=>ys.length<sizeLine/\Q .non (qe L a<|.lst<|ys++[v])
 |_,_=>False
def oz(x:Y)(vs:List Y)(L:ql)(Q:YK):Prop:=match x,vs with
 |.ref a,[.ref b]=>cZ L a λys=>cZ L b λzs=>ys.length+zs.length<=sizeLine/\Q .non (qe L a<|.lst<|ys++zs)
 |_,_=>False
end L3
variable {sp:L3.zc}
namespace L3
open PySem L2
theorem w6.imp{f:Value->Value->Sem Value}{r U:R2}(h:w6 X f r)(q:∀x y H Q,U x y H Q->r x y H Q):w6 X f U:=λJ s g H x y v u Q I j l z=>h J s g H x y v u Q I j l<|q x y H Q z
theorem w6.imq{f:Value->Value->Sem Value}{r:R2}{u:uJ}(h:w6 X f r)(q:∀x y H Q x3 I L J,RV G H x3 x->RV G H I y->j6 G H L->u x3 I L J->uH G H J Q->r x y H Q):w6 X f (iT G u):=w6.imp h λx y H Q ψ=>(by obtain⟨x3,I,L,J,a,b,c,d,e⟩:=ψ;exact q x y H Q x3 I L J a b c d e)
abbrev EZ:=@w6.imq
theorem UnR.imp{f:Value->Sem Value}{r U:V->Hp->VK->Prop}(h:UnR X f r)(q:∀x H Q,U x H Q->r x H Q):UnR X f U:=λJ s g H x v Q I j z=>h J s g H x v Q I j<|q x H Q z
theorem jo.imp{f:Value}{r U:List V->Hp->VK->Prop}(h:jo X f r)(q:∀x H Q,U x H Q->r x H Q):jo X f U:=λJ s g H x v Q I j z=>h J s g H x v Q I j<|q x H Q z
theorem jo.imq{f:Value}{r:List V->Hp->VK->Prop}{u:List Y->ql->YK->Prop}(h:jo X f r)(q:∀xs H Q ys L I,xj G H ys xs->j6 G H L->u ys L I->uH G H I Q->r xs H Q):jo X f (f_ G u):=jo.imp h λxs H Q ψ=>(by obtain⟨ys,L,I,a,b,c,d⟩:=ψ;exact q xs H Q ys L I a b c d)
abbrev E7:=@jo.imq
theorem IxR.imp{r U:R2}(h:IxR X r)(q:∀x y H Q,U x y H Q->r x y H Q):IxR X U:=λvalue slice J s g H x y v u Q I j l z=>h value slice J s g H x y v u Q I j l<|q x y H Q z
theorem mO.imp{id:String}{r U:V->List V->Hp->VK->Prop}(h:mO X id r)(q:∀x xs H Q,U x xs H Q->r x xs H Q):mO X id U:=λJ s g H x xs v j Q I l o z=>h J s g H x xs v j Q I l o<|q x xs H Q z
theorem ou{v:V}(U:j6 G H L)(r:RV G H y v)(h:dF L y=some ys):∃p xs,v=.ref p/\(wr G.K H p xs\/cT G.K H p xs)/\xj G H ys xs:=by
 cases y with
 |tup J=>
  obtain⟨a,xs,e,s,q⟩:=r;cases h;exact⟨a,xs,e,.inr s,q⟩
 |sq J=>
  obtain⟨a,xs,e,s,q⟩:=r;cases h;exact⟨a,xs,e,.inl s.sq,q⟩
 |ref a=>
  cases (show v=.ref a from r);have I:(match L a with|some (.lst ys)=>some ys|_=>none)=some ys:=h;split at I
  ·rename_i J e;cases I;obtain⟨xs,g,q⟩:=U a _ e;exact⟨a,xs,rfl,.inl<|E9 g,q⟩
  ·cases I
 |_=>cases h
theorem O3{i:Int}(s:xj G H ys xs)(h:bp ys i=some y):∃x,bp xs i=some x/\RV G H y x:=by
 unfold bp at h ⊢;rw[<-s.length];cases e:uj ys.length i with
 |none=>rw[e] at h;cases h
 |some j=>
  rw[e] at h;exact s.get (i:=j) h
section
variable {a b:Expr}{tc:v4}
abbrev QE(X:Cx)(e:Expr)(t:v4):Prop:=PE X e<|wD X.g3 t
abbrev QT(X:Cx)(e:Expr)(t:iz):Prop:=PT X e<|e_ X.g3 t
abbrev QW(X:Cx)(e:Expr)(t:iz):Prop:=PW X e<|e_ X.g3 t
abbrev QA(X:Cx)(es:List Expr)(t:fg):Prop:=PA X es<|HI X.g3 t
abbrev QS(X:Cx)(st:Stmt)(t:kh):Prop:=PS X st<|Fj X.g3 t
abbrev rB(X:Cx)(st:List Stmt)(t:kh):Prop:=jP X st<|Fj X.g3 t
abbrev QG(X:Cx)(e:Expr)(g:lS):Prop:=PG X e<|Ee X.g3 g
abbrev Ep(X:Cx)(es:List Expr)(g:rm):Prop:=PGs X es<|OO X.g3 g
abbrev QI(X:Cx)(tg it:Expr)(w:n_):Prop:=PI X tg it<|FY X.g3 w
abbrev QF(X:Cx)(es:List Expr)(t:iz):Prop:=PF X es<|e_ X.g3 t
theorem QE.of_var(h:PE X e<|Fz i):QE X e (qw i):=EO h λj H Q l L o I J z k=>by
 unfold qw at z;split at z
 ·rename_i y U;obtain⟨v,ev,g⟩:=I.get i y<|qD _ _ U;exact⟨v,ev,k v H y L (EM _) J g z⟩
 ·exact z.elim
theorem QE.of_c{v:V}(h:PE X e<|tC v)(q:∀H,RV X.g3 H y v):QE X e (yC y):=EO h λJ H Q U L g j I z k=>k v H y L (EM _) I (q H) z
theorem qv(i:Nat)(hN:X.N[i]?=some x:=by rfl)(J:u2 X.env.scope x:=by first|exact Or.inl rfl|exact Or.inr (Or.inl rfl)|exact Or.inr<|Or.inr rfl)(hd:Fe x:=by decide)
 (I:Ff x:=by decide):QE X (.Name x pos) (qw i):=QE.of_var<|pv i hN J hd I
theorem lV :QE X (.Constant .none j pos) (yC .non):=QE.of_c LC λ_=>rfl
theorem vn{b:Bool} :QE X (.Constant (.bool b) j pos) (yC<|.bl b):=QE.of_c LB λ_=>rfl
theorem qf{i:Int} :QE X (.Constant (.int i) j pos) (yC<|.int i):=QE.of_c LA λ_=>rfl
theorem jl :QE X (.Constant (.str x) j pos) (yC<|.str x):=QE.of_c cj λ_=>rfl
theorem O4{c:Addr}(I:Gl X x)(J:X.mg x=some (.ref c))(q:∀H,RV X.g3 H y<|.ref c)(hd:Fe x:=by decide):QE X (.Name x pos) (yC y):=QE.of_c (Oy I J hd) q
theorem xW{r:uJ}(σ:St)(H:Hp)(Q:VK):wD G (bL r ta tb) σ H Q->Db (iT G r) (wD G ta) (wD G tb) σ H Q:=λ ψ=>by
 obtain⟨j,L,t,l,C,z,k⟩:=ψ
 exact ⟨j,L,_,l,C,z,λv H1 y T o I J z1=>⟨j,T,_,l.ts o,I,z1,λv2 H2 y2 L2 p U g z2=>⟨y,y2,L2,t,J.ts p,g,U,z2,k.ts<|o.trans p⟩⟩⟩
theorem qj{op:Operator}{r:uJ}(h:w6 X (binaryOp op)<|iT X.g3 r)(I:QE X a ta)(J:QE X b tb):QE X (.BinOp a op b pos) (bL r ta tb):=E5 (MF h I J) xW
theorem O5{r:uJ}(h:IxR X<|iT X.g3 r)(I:QE X a ta)(J:QE X b tb)(hp:pM b):QE X (.Subscript a b pos) (bL r ta tb):=E5 (NX h I J hp) xW
theorem bO{op:CmpOp}{r:uJ}(h:w6 X (compareOp op)<|iT X.g3 r)(I:QE X a ta)(J:QE X b tb)(U:behindInMarks op b=false):QE X (.Compare a [op] [b] pos) (bL r ta tb):=E5 (M8 h I J U) xW
theorem H9{t:v4}(σ:St)(H:Hp)(Q:Bool->Hp->Prop):e_ G (yB t) σ H Q->Hg (wD G t) σ H Q:=λ ψ=>by
 obtain⟨g,L,C,j,l,z,k⟩:=ψ
 exact ⟨g,L,_,j,l,z,λv o y p r I J U=>by cases y with|bl b=>exact⟨b,J,k b o p r I U⟩|_=>exact U.elim⟩
theorem H_{t:v4}(σ:St)(H:Hp)(Q:Bool->Hp->Prop):e_ G (yB t) σ H Q->L2.tB (wD G t) σ H Q:=H9 σ H Q
theorem je{op:CmpOp}{r:uJ}(h:w6 X (compareOp op)<|iT X.g3 r)(J:QE X a ta)(U:QE X b tb)(g:behindInMarks op b=false):QT X (.Compare a [op] [b] pos) (yB<|bL r ta tb):=
 PT.imp (M9 h J U g) λI H Q q=>by have j:=H9 I H Q q;obtain⟨l,L,o,p,t,z,k⟩:=j;exact xW I H _ ⟨l,L,o,p,t,z,k⟩
theorem xa(h:QE X e te)(I:∀whole,isTrue e X.env whole=(do let v <-whole;standAt e.pos;holding [v] (truthy v)):=by intro _;rfl):QT X e (yB te):=PT.imp (LJ h I) H_
theorem F4{f:Value->Value->Sem Value}{C:Int->Int->Prop}{g:Int->Int->V}{g3:Int->Int->Y}(h:w6 X f<|rI C g)(e:∀i j H,RV X.g3 H (g3 i j)<|g i j):w6 X f (iT X.g3<|yI C g3):=EZ h λx y H Q J I L p U l o z k=>by
 cases J with
 |int i=>
  cases I with|int j=>exact⟨i,j,U,l,z.1,k _ H _ L (EM _) o (e i j H) z.2⟩|_=>exact z.elim
 |_=>cases I<;>exact z.elim
theorem Fl{f:Value->Value->Sem Value}{g:Int->Int->V}{g3:Int->Int->Y}(h:w6 X f<|m_ g)(e:∀i j H,RV X.g3 H (g3 i j)<|g i j):w6 X f (iT X.g3<|i_ g3):=EZ h λx y H Q J I L p U l o z k=>by
 cases J with
 |int i=>
  cases I with|int j=>exact⟨i,j,U,l,k _ H _ L (EM _) o (e i j H) z⟩|_=>exact z.elim
 |_=>cases I<;>exact z.elim
theorem bC:w6 X (binaryOp .Sub) (iT X.g3<|i_ λi j=>.int<|i-j):=Fl MK λ_ _ _=>rfl
theorem lv:w6 X (binaryOp .Mult) (iT X.g3<|yI acw λi j=>.int<|i*j):=F4 MN λ_ _ _=>rfl
theorem w9:w6 X (binaryOp .FloorDiv) (iT X.g3<|yI FP λi j=>.int<|i / j):=F4 MO λ_ _ _=>rfl
theorem jz:w6 X (binaryOp .Mod) (iT X.g3<|yI (λ_ j=>0<j) λi j=>.int<|i % j):=F4 MQ λ_ _ _=>rfl
theorem u6:w6 X (compareOp .Lt) (iT X.g3<|i_ λi j=>.bl<|decide<|i<j):=Fl MX λ_ _ _=>rfl
theorem Er:w6 X (compareOp .Gt) (iT X.g3<|i_ λi j=>.bl<|decide<|j<i):=Fl MY λ_ _ _=>rfl
theorem O6:w6 X (compareOp .GtE) (iT X.g3<|i_ λi j=>.bl<|decide<|j<=i):=Fl MZ λ_ _ _=>rfl
theorem j4:w6 X (binaryOp .Add) (iT X.g3 yU):=EZ Ot λx y H Q t J L Q3 U g I z k=>by
 cases t with
 |int i=>
  cases J with|int j=>cases U;cases g;exact k _ H _ L (EM _) I (by rfl) z|_=>exact z.elim
 |str i=>
  cases J with|str j=>cases U;cases g;exact⟨z.1,k _ H _ L (EM _) I (by rfl) z.2⟩|_=>exact z.elim
 |ref a=>
  cases J with
  |ref b=>
   cases U;cases g;obtain⟨ys,zs,C,T,hz,q⟩:=z;obtain⟨xs,h1,o⟩:=I a _ C;obtain⟨us,h2,r⟩:=I b _ T;refine⟨xs,us,h1,h2,by rw[<-o.length,<-r.length];exact hz,λp l=>?_⟩;exact k _ _ _ _ (EN l) (I.newL l<|o.app r) (by rfl)<|q p<|I.none l
  |_=>exact z.elim
 |_=>cases J<;>exact z.elim
theorem r6{kvs:List<|Str×Str}{k:Str}(h:kvs.lookup k=some x):bM (kvs.map λp=>((Sum.inr p.1:j9),V.str p.2)) (Sum.inr k)=some (V.str x):=by
 induction kvs with
 |nil=>simp at h
 |cons p r I=>
  obtain⟨a,b⟩:=p;unfold bM;rw[AG,BB];rw[Bh] at h;by_cases c:k=a
  ·subst c;simp at h;simp[h]
  ·have c1:(k==a)=false:=by simpa using c
   rw[c1] at h;have c2:decide ((Sum.inr a:j9)=Sum.inr k)=false:=Au λz=>c (Sum.inr.inj z).symm;simp only[c2];exact I h
theorem oA{xs:List<|j9×V}{k:j9}(p:Paired (λ(p:j9×Y) (q:j9×V)=>p.1=q.1/\RV G H p.2 q.2) kvs xs)(h:km kvs k=some y):∃x,bM xs k=some x/\RV G H y x:=by
 induction p with
 |nil=>cases h
 |@cons a b _ _ r t U=>
  obtain⟨I,l⟩:=a;obtain⟨g,j⟩:=b;obtain⟨e,r⟩:=r;cases (show I=g from e);unfold km at h;unfold bM;rw[BB] at h ⊢;by_cases c:I=k
  ·have J:decide (I=k)=true:=Av c;simp only[J] at h ⊢;cases h;exact⟨j,rfl,r⟩
  ·have J:decide (I=k)=false:=Au c;simp only[J] at h ⊢;exact U h
theorem O7(K:Aj)(P:Program)(w:World)(hK:X.K=K:=by rfl)(hP:X.prog=P:=by rfl)(hw:X.w=w:=by rfl):IxR X (iT ⟨K,P,w⟩ uI):=by
 subst hK hP hw;refine IxR.imp Ou λx y H Q ψ=>?_;obtain⟨x3,j,L,Q3,I,l,o,z,k⟩:=ψ;have seq:∀{i:Int} {x3:Y},RV X.g3 H x3 x->y=.int i->(nl L x3 λg=>b_ L Q3<|bp g i)->HB X.K X.prog X.w x y H Q:=by
  intro i x3 I ey z;subst ey;obtain⟨g,es,z⟩:=dz z;obtain⟨p,C,e,sq,rv⟩:=ou o I es;subst e;cases ea:bp g i with
  |none=>rw[ea] at z;exact z.elim
  |some y=>
   rw[ea] at z;obtain⟨x,ex,T⟩:=O3 rv ea;exact⟨C,x,sq,ex,k _ H _ L (EM _) o T z⟩
 cases x3 with
 |str s=>
  cases j with
  |int i=>
   cases I;cases l;obtain⟨z1,r⟩:=z;cases ea:bp s.cps.toList i with
   |none=>rw[ea] at r;exact r.elim
   |some c=>rw[ea] at r;exact⟨z1,c,ea,k _ H _ L (EM _) o (by rfl) r⟩
  |_=>exact z.elim
 |cd J=>
  cases j with
  |str s=>
   obtain⟨a,ea,kd⟩:=I;cases ea;cases l;have U:b_ L (λs L=>Q3 (.str s) L) (J.lookup s):=z;cases el:J.lookup s with
   |none=>rw[el] at U;exact U.elim
   |some t=>rw[el] at U;exact⟨_,_,.inr kd,r6 el,k _ H _ L (EM _) o (by rfl) U⟩
  |int i=>exact z.elim
  |_=>exact z.elim
 |ref a=>
  cases j with
  |int i=>exact seq (x3:=.ref a) I l z
  |str s=>
   cases I;cases l;obtain⟨J,e,U⟩:=gc z;obtain⟨C,e2,pr⟩:=o a _ e;cases ev:km J (Sum.inr s) with
   |none=>rw[ev] at U;exact U.elim
   |some y=>
    rw[ev] at U;obtain⟨x,ex,I⟩:=oA pr ev;exact⟨C,x,.inl<|.inl e2,ex,k _ H _ L (EM _) o I U⟩
  |_=>exact z.elim
 |tup g=>
  cases j with|int i=>exact seq (x3:=.tup g) I l z|_=>exact z.elim
 |sq g=>
  cases j with|int i=>exact seq (x3:=.sq g) I l z|_=>exact z.elim
 |_=>cases j<;>exact z.elim
theorem xj.inv1(h:xj G H [y] xs):∃x,xs=[x]/\RV G H y x:=by obtain⟨x,I,e,r,s⟩:=h;cases (show I=[] from s);exact⟨x,e,r⟩
theorem xj.inv2{J:Y}(h:xj G H [y,J] xs):∃x I,xs=[x,I]/\RV G H y x/\RV G H J I:=by obtain⟨x,U,e,r,s⟩:=h;obtain⟨I,g,j⟩:=s.inv1;exact⟨x,I,by rw[e,g],r,j⟩
theorem O8(K:Aj)(P:Program)(w:World)(g:X.K=K:=by rfl)(j:X.prog=P:=by rfl)(hw:X.w=w:=by rfl):jo X (.builtin "len") (f_ ⟨K,P,w⟩ yq):=by
 subst g j hw;refine E7 zH λC H Q l L T U I z k=>?_;unfold yq at z;split at z
 ·obtain⟨x,rfl,r⟩:=U.inv1;cases r;exact⟨z.1,k _ H _ L (EM _) I (by rfl) z.2⟩
 ·rename_i y _;obtain⟨x,rfl,r⟩:=U.inv1;obtain⟨l,o,z⟩:=dz z;obtain⟨p,t,e,sq,J⟩:=ou I r o;subst e;refine⟨t,sq,?_⟩;rw[<-J.length];exact k _ H _ L (EM _) I (by rfl) z
 ·exact z.elim
theorem O9(i j:Int):(if j > i then j else i)=max i j:=by split<;>lia
theorem O_(i j:Int):(if j<i then j else i)=min i j:=by split<;>lia
theorem Ia(hc:X.calm=true:=by rfl):jo X (.builtin "max") (f_ X.g3 FZ):=E7 (zQ hc) λl H Q o L p I J z k=>by
 unfold FZ at z;split at z
 ·rename_i i j;obtain⟨x,r,rfl,U,g⟩:=I.inv2;cases U;cases g;refine⟨i,j,rfl,?_⟩;rw[O9];exact k _ H _ L (EM _) J (by rfl) z
 ·exact z.elim
theorem O'(hc:X.calm=true:=by rfl):jo X (.builtin "min") (f_ X.g3 HK):=E7 (yi hc) λl H Q o L p I J z k=>by
 unfold HK at z;split at z
 ·rename_i i j;obtain⟨x,r,rfl,U,g⟩:=I.inv2;cases U;cases g;refine⟨i,j,rfl,?_⟩;rw[O_];exact k _ H _ L (EM _) J (by rfl) z
 ·exact z.elim
theorem Ib:UnR X (unaryOp .USub) (HJ X.g3 OR):=UnR.imp MU λx H Q ψ=>by obtain⟨y,L,U,I,J,z,k⟩:=ψ;cases y with|int i=>exact⟨i,I,k _ H _ L (EM _) J (by rfl) z⟩|_=>exact z.elim
theorem Ic{op:UnaryOp}{r:Y->ql->YK->Prop}(h:UnR X (unaryOp op)<|HJ X.g3 r)(U:QE X a ta):QE X (.UnaryOp op a pos) (OQ r ta):=EO (MG h U) λT H Q g L j l o z k=>
 ⟨g,L,_,l,o,z,λv H1 y p t I J C=>⟨y,p,j,J,I,C,k.ts t⟩⟩
end
section
variable {a b:Expr}{tc:v4}
theorem bx{a:Addr}(J:j6 G H L)(h:dF L (.ref a)=some ys):∃xs,wr G.K H a xs/\xj G H ys xs:=by
 have I:(match L a with|some (.lst ys)=>some ys|_=>none)=some ys:=h;split at I
 ·rename_i e;cases I;obtain⟨xs,U,q⟩:=J a _ e;exact⟨xs,E9 U,q⟩
 ·cases I
theorem Pa{v:V}(I:j6 G H L)(r:RV G H y v)(J:HN y=true)(h:dF L y=some ys):∃a xs,v=.ref a/\wr G.K H a xs/\xj G H ys xs:=by
 cases y with
 |ref a=>obtain⟨xs,s,q⟩:=bx I h;exact⟨a,xs,r,s,q⟩
 |sq U=>obtain⟨a,xs,e,s,q⟩:=r;cases h;exact⟨a,xs,e,s.sq,q⟩
 |_=>cases J
theorem zD{G:G3}{v:V}{T:rC}{σ:L2.St}(I:z8 X pins σ H s)(rl:j6 X.g3 H L)(r:RV X.g3 H y v)(J:zk v u)(h:w_ L y=some T)
 {c:Value} {b:Bool} (e:PySem.W.kitOne X.K (.type T.nm) c=some b) (U:∀tk,Q (.bool b) { s with toks:=tk }):
 wpAny (model X.prog X.w) A (call (.builtin "isinstance") [u,c]) Q E s:=by
 cases y with
 |non=>cases h;cases r;exact am I J .non e U
 |bl b=>cases h;cases r;exact am I J (.bl _) e U
 |int i=>cases h;cases r;exact am I J (.int _) e U
 |str x=>cases h;cases r;exact am I J (.str _) e U
 |tup ys=>
  cases h;obtain⟨a,j,rfl,sq,_⟩:=r;cases (show u=Value.ref a from J);obtain⟨l,_,⟨o,p,t,_⟩,_⟩:=I.tuple sq;exact Bu PySem.W.kitx_tuple I.kIn ⟨o,p,t⟩ e (λz=>nomatch z) U
 |sq ys=>
  cases h;obtain⟨a,j,rfl,sq,_⟩:=r;cases (show u=Value.ref a from J);obtain⟨l,_,⟨o,n,p,t,_⟩,_⟩:=I.list sq.sq;exact Bu DG I.kIn ⟨o,p,t⟩ e (λz=>nomatch z) U
 |ref a=>
  cases (show v=.ref a from r);have g:(match L a with|some (.lst _)=>some rC.list|some (.dct _)=>some .dict|_=>none)=some T:=h;split at g
  ·rename_i ys C;cases g;obtain⟨j,e2,_⟩:=rl a _ C;exact am I J (.lst e2) e U
  ·rename_i a0 C;cases g;obtain⟨j,e2,_⟩:=rl a _ C;exact am I J (.dK e2) e U
  ·cases g
 |_=>cases h
theorem Pb(K:Aj):∀T S:rC,PySem.W.kitOne K (.type T.nm) (.type S.nm)=some (F1 T S):=by intro T S;cases T<;>cases S<;>rfl
def Pd(G:G3)(S:rC):List V->Hp->VK->Prop:=λxs H Q=>∃y v L I T,xs=[v,.ty S.nm]/\RV G H y v/\j6 G H L/\w_ L y=some T/\I (.bl<|F1 T S) L/\uH G H I Q
theorem Pe(S:rC):jo X (.builtin "isinstance") (Pd X.g3 S):=by intro J s o H p t Q I r h;obtain⟨y,v,L,C,T,rfl,g,U,ty,q,k⟩:=h;obtain⟨u,c,rfl,j,l⟩:=zn.two r;cases (show c=Value.type S.nm from l);exact jt I.tk<|zD (G:=X.g3) I U g j ty (Pb _ T S) λtk ht=>⟨.bl _,H,I.tok _,rfl,k _ H _ L (EM _) U (by rfl) q⟩
theorem vd{p:Pos}{I:Str}(S:rC)(t:Gl X "isinstance")(C:X.mg "isinstance"=none)(J:Gl X I)(U:X.mg I=none)(g:bootBuiltins I=some (.type S.nm))(ha:QE X a ta)
 (hn:I ≠ "__name__" := by decide) (hd:(I==("__debug__" : Str))=false:=by decide)
 (hs:starEach [a,.Name I p1] X.env=(false,eval a X.env)::starEach [.Name I p1] X.env:=by rfl) (j:starEach [.Name I p1] X.env=(false,eval (.Name I p1) X.env)::starEach [] X.env:=by rfl)
 (hp:(backTo pos<|starEach [.Name I p1] X.env).any (·.1)=false:=by rfl):
 QE X (.Call (.Name "isinstance" p) [a,.Name I p1] [] pos) (HM S ta):=by
 refine E5 (uD (Pe S) t C n8 (fH ha (fH (Oz J U g hn hd) kW j) hs) (by decide) (by decide) hs hp) ?_;rintro σ H Q ⟨τ,L,Q3,rs,rl,z,k⟩;refine⟨τ,L,_,rs,rl,z,λv H1 y L1 t1 l o r=>?_⟩;obtain⟨T,et,r⟩:=OV r;exact⟨y,v,L1,Q3,T,rfl,o,l,et,r,k.ts t1⟩
def zI(neg:Bool)(x y:Y)(L:ql)(Q:YK):Prop:=nl L y λys=>fP x=true/\ys.all fP=true/\Q (.bl<|nb neg<|nJ (bK x)<|ys.map bK) L
theorem Ie(neg:Bool){op:CmpOp}(h:w6 X (compareOp op)<|FR X.K neg):w6 X (compareOp op) (iT X.g3<|zI neg):=EZ h λx y H Q I t L C g j U z k=>by
 obtain⟨J,l,f1,f2,q⟩:=dz z;obtain⟨p,T,e,sq,o⟩:=ou U j l;rw[g.flat f1];rw[o.flat f2] at sq;refine⟨p,_,e,sq,hZ f1,?_,?_⟩
 ·rw[List.all_map,CV];intro y r;exact hZ<|CV.mp f2 y r
 ·have:(if neg=true then !nJ (bK I) (J.map bK) else nJ (bK I) (J.map bK))=(nb neg<|nJ (bK I)<|J.map bK):=by cases neg<;>simp[nb]
  rw[this];exact k _ H _ L (EM _) U (by rfl) q
theorem tI(K:Aj)(P:Program)(w:World)(I:X.K=K:=by rfl)(J:X.prog=P:=by rfl)(hw:X.w=w:=by rfl):w6 X (compareOp .In) (iT ⟨K,P,w⟩<|zI false):=by subst I J hw;exact Ie false Oa
theorem fw(K:Aj)(P:Program)(w:World)(I:X.K=K:=by rfl)(J:X.prog=P:=by rfl)(hw:X.w=w:=by rfl):w6 X (compareOp .NotIn) (iT ⟨K,P,w⟩<|zI true):=by subst I J hw;exact Ie true pX
theorem jj.rep{G:G3}{H:Hp}{L:ql}(j:j6 G H L):∀{n:Nat} {y:Y} {d:Da} {v:V},jj L n y d->RV G H y v->xz G.K H n v d
 |0,y,d,v,ψ,r=>by obtain⟨f,e⟩:=ψ;rw[r.flat f];exact⟨e,hZ f⟩
 |n+1,y,d,v,h,r=>by
  have both:∀{U:List Y} {J:List Da} {I:List V},Paired (jj L n) U J->xj G H U I->Paired (xz G.K H n) I J:=by
   intro U J I p
   induction p generalizing I with
   |nil=>intro r;cases (show I=[] from r);exact .nil
   |cons q t l=>
    rintro⟨x,o,rfl,C,T⟩;exact .cons (jj.rep j q C)<|l T
  rcases h with⟨f,e⟩|⟨U,J,rfl,rfl,p⟩|⟨U,J,hy,rfl,es,p⟩
  ·rw[r.flat f];exact .inl ⟨e,hZ f⟩
  ·obtain⟨a,I,rfl,sq,g⟩:=r;exact .inr<|.inl ⟨a,I,J,rfl,rfl,sq,both p g⟩
  ·obtain⟨a,I,rfl,sq,g⟩:=Pa j r hy es;exact .inr<|.inr ⟨a,I,J,rfl,rfl,sq,both p g⟩
theorem kB{v:V}(h:yT y=true)(r:RV G H y v):∃a,v=.ref a:=by
 cases y with
 |ref a=>exact⟨a,r⟩
 |tup I=>obtain⟨a,J,e,_⟩:=r;exact⟨a,e⟩
 |sq I=>obtain⟨a,J,e,_⟩:=r;exact⟨a,e⟩
 |_=>cases h
theorem uA(K:Aj)(P:Program)(w:World)(g:X.A.units+128<cLine)(l:X.K=K:=by rfl)(o:X.prog=P:=by rfl)(hw:X.w=w:=by rfl):w6 X (compareOp .Eq) (iT ⟨K,P,w⟩<|yr false):=by
 subst l o hw;refine EZ (Ox g) λx y H Q T y3 L p J U I z k=>?_;unfold yr at z;split at z
 ·rename_i i j;cases J;cases U;refine⟨rfl,?_⟩;have:decide (V.int i=V.int j)=nb false (decide<|i=j):=by rw[Bl];simp[nb]
  rw[this];exact k _ H _ L (EM _) I (by rfl) z
 ·rename_i i j;cases J;cases U;refine⟨rfl,?_⟩;have:decide (V.str i=V.str j)=nb false (decide<|i=j):=by rw[Bl];simp[nb]
  rw[this];exact k _ H _ L (EM _) I (by rfl) z
 ·rename_i i j;cases J;cases U;refine⟨rfl,?_⟩;have:decide (V.bl i=V.bl j)=nb false (decide<|i=j):=by rw[Bl];simp[nb]
  rw[this];exact k _ H _ L (EM _) I (by rfl) z
 ·obtain⟨f1,f2,n,m,d,e,r,t,C,q⟩:=z;obtain⟨a,rfl⟩:=kB f1 J;obtain⟨b,rfl⟩:=kB f2 U;have q:p (.bl<|Da.eq d e) L:=q;exact⟨n,m,d,e,r,t.rep I J,C.rep I U,k _ H _ L (EM _) I (by rfl) q⟩
theorem Ig(K:Aj)(P:Program)(w:World)(g:X.A.units+128<cLine)(l:X.K=K:=by rfl)(o:X.prog=P:=by rfl)(hw:X.w=w:=by rfl):w6 X (compareOp .NotEq) (iT ⟨K,P,w⟩<|yr true):=by
 subst l o hw;refine EZ (OK g) λx y H Q T y3 L p J U I z k=>?_;unfold yr at z;split at z
 ·rename_i i j;cases J;cases U;refine⟨rfl,?_⟩;have:(!decide (V.int i=V.int j))=nb true (decide<|i=j):=by show _=!_;congr 1;rw[Bl];simp
  rw[this];exact k _ H _ L (EM _) I (by rfl) z
 ·rename_i i j;cases J;cases U;refine⟨rfl,?_⟩;have:(!decide (V.str i=V.str j))=nb true (decide<|i=j):=by show _=!_;congr 1;rw[Bl];simp
  rw[this];exact k _ H _ L (EM _) I (by rfl) z
 ·rename_i i j;cases J;cases U;refine⟨rfl,?_⟩;have:(!decide (V.bl i=V.bl j))=nb true (decide<|i=j):=by show _=!_;congr 1;rw[Bl];simp
  rw[this];exact k _ H _ L (EM _) I (by rfl) z
 ·obtain⟨f1,f2,n,m,d,e,r,t,C,q⟩:=z;obtain⟨a,rfl⟩:=kB f1 J;obtain⟨b,rfl⟩:=kB f2 U;have q:p (.bl<|!Da.eq d e) L:=q;exact⟨n,m,d,e,r,t.rep I J,C.rep I U,k _ H _ L (EM _) I (by rfl) q⟩
theorem RV.non_iff{v:V}(r:RV G H y v):decide (v=.non)=(match y with|.non=>true|_=>false):=by
 cases y with
 |non=>cases r;rfl
 |cd I=>obtain⟨a,rfl,_⟩:=r;rfl
 |tup J=>obtain⟨a,U,rfl,_⟩:=r;rfl
 |sq J=>obtain⟨a,U,rfl,_⟩:=r;rfl
 |_=>cases r;rfl
theorem Ih(σ:L2.St)(H:Hp)(Q:VK):wD G (nO false ta) σ H Q->G6 (wD G ta) σ H Q:=λ ψ=>by
 obtain⟨U,L,t,g,j,z,k⟩:=ψ
 exact ⟨U,L,_,g,j,z,λv l y o p I J r=>by dsimp only;rw[J.non_iff];cases y<;>exact k _ l _ o p I (by rfl) r⟩
theorem Pf(σ:L2.St)(H:Hp)(Q:VK):wD G (nO true ta) σ H Q->G7 (wD G ta) σ H Q:=λ ψ=>by
 obtain⟨U,L,t,g,j,z,k⟩:=ψ
 exact ⟨U,L,_,g,j,z,λv l y o p I J r=>by dsimp only;rw[J.non_iff];cases y<;>exact k _ l _ o p I (by rfl) r⟩
theorem Pg(h:QE X a ta):QE X (.Compare a [.Is] [.Constant .none j fy] pos) (nO false ta):=E5 (LI<|G8 h) Ih
theorem Ii{t:TE}(h:∀σ H Q,wD G te σ H Q->t σ H Q)(σ:L2.St)(H:Hp)(Q:Bool->Hp->Prop):e_ G (yB te) σ H Q->L2.tB t σ H Q:=λq=>h σ H _<|H_ σ H Q q
theorem lG(h:QE X a ta):QT X (.Compare a [.Is] [.Constant .none j fy] pos) (yB<|nO false ta):=PT.imp (G9<|G8 h)<|Ii Ih
theorem af(h:QE X a ta):QT X (.Compare a [.IsNot] [.Constant .none j fy] pos) (yB<|nO true ta):=PT.imp (G9<|LH h)<|Ii Pf
end
section
variable {a b:Expr}{rest:List Expr}{tc:v4}{tB:iz}
theorem w4(h:QT X a tA):QW X (.BoolOp .And [a] pos) tA:=LN h
theorem dl(h:QT X a tA):QW X (.BoolOp .Or [a] pos) tA:=LP h
theorem vq(h:QT X a tA)(k:QW X (.BoolOp .And (b::rest) pos) tB):QW X (.BoolOp .And (a::b::rest) pos) (Em tA tB):=PW.imq (LQ h k) λt H Q U L o g p z k=>
 ⟨U,L,_,g,p,z,λc r j J I l=>by cases c with|true=>rw[AC rfl];exact⟨U,j,o,g.ts J,I,l,k.ts J⟩|false=>rw[AB AI];exact k _ r j J I l⟩
theorem gw(h:QT X a tA)(k:QW X (.BoolOp .Or (b::rest) pos) tB):QW X (.BoolOp .Or (a::b::rest) pos) (HQ tA tB):=PW.imq (LR h k) λt H Q U L o g p z k=>
 ⟨U,L,_,g,p,z,λc r j J I l=>by cases c with|true=>rw[AC rfl];exact k _ r j J I l|false=>rw[AB AI];exact⟨U,j,o,g.ts J,I,l,k.ts J⟩⟩
theorem wc(h:QW X a tA):QT X a tA:=PW.pt h
theorem aM(h:QT X a tA):QT X (.UnaryOp .Not a pos) (Fk tA):=PT.imq (LS h) λr H Q J L t U g z k=>
 ⟨J,L,_,U,g,z,λc j l o I p=>k _ j l o I p⟩
theorem ut{op:BoolOp}(h:QE X a ta):QE X (.BoolOp op [a] pos) ta:=LW h
theorem uw(h:QE X a ta)(k:QE X (.BoolOp .And (b::rest) pos) tb):QE X (.BoolOp .And (a::b::rest) pos) (OW ta tb):=EO (LX h k) λT H Q U L g o t z k=>
 ⟨U,L,_,o,t,z,λv C y J j I l p=>by
  cases y with
  |bl c=>
   refine⟨c,l,?_⟩;have r:vk c (tb U J g) (g (.bl false) J):=p;cases c with|true=>rw[AC rfl];exact⟨U,J,g,o.ts j,I,r,k.ts j⟩|false=>rw[AB AI];exact k _ C _ J j I (by rfl) r
  |_=>exact p.elim⟩
theorem Ph(h:QE X a ta):QE X (.UnaryOp .Not a pos) (OX ta):=EO (LY h) λt H Q g L C j l z k=>
 ⟨g,L,_,j,l,z,λv o y p r I J U=>by cases y with|bl c=>exact⟨c,J,k _ o _ p r I (by rfl) U⟩|_=>exact U.elim⟩
theorem lM(h:QT X c tA)(p:QE X a ta)(r:QE X b tb):QE X (.IfExp c a b pos) (F2 tA ta tb):=EO (L9 h p r) λC H Q U L j g t z k=>
 ⟨U,L,_,g,t,z,λc T l J I o=>by cases c with|true=>rw[AC rfl];exact⟨U,l,j,g.ts J,I,o,k.ts J⟩|false=>rw[AB AI];exact⟨U,l,j,g.ts J,I,o,k.ts J⟩⟩
theorem vt:QA X [] aY:=PA.imq kW λJ H Q U L g j I z k=>k _ H _ L (EM _) I (by rfl) z
theorem jr(h:QE X e te)(t:QA X es tr)(hs:Fb e es X:=by rfl):QA X (e::es) (zj te tr):=PA.imq (fH h t hs) λσ H Q j L Q3 l C z k=>
 ⟨j,L,_,l,C,z,λv H1 y T o I J z1=>⟨j,T,_,l.ts o,I,z1,λp H2 ys L2 r U g z2=>k (v::p) H2 (y::ys) L2 (o.trans r) U ⟨v,p,rfl,J.ts r,g⟩ z2⟩⟩
theorem zr(h:QA X es tr):QE X (.Tuple es x1 pos) (mC tr):=EO (No h) λσ H Q l L Q3 o r z k=>
 ⟨l,L,_,o,r,z,λt H1 j C T U I J=>by
  cases e:Nat.ble j.length 1000 with
  |false=>rw[e] at J;exact J.elim
  |true=>
   rw[e] at J;have:=CH e;refine⟨dU (by rw[<-I.length];exact this),λp g=>?_⟩;exact k _ _ (.tup j) C (T.trans<|EN g) (U.skip g) ⟨p,t,rfl,cT.of zq,I.ts<|EN g⟩ J⟩
theorem jb(h:QA X es tr):QE X (.List es pos) (om tr):=EO (Np h) λC H Q j L T l o z k=>
 ⟨j,L,_,l,o,z,λvs H1 r L1 t I J U=>by
  cases e:Nat.ble r.length 1000 with
  |false=>rw[e] at U;exact U.elim
  |true=>
   rw[e] at U;have:=CH e;refine⟨dU (by rw[<-J.length];exact this),λp g=>?_⟩;exact k _ _ _ _ (t.trans<|EN g) (I.newL g J) (by rfl)<|U p<|I.none g⟩
theorem ay{p:Pos}{id:String}{r:List Y->ql->YK->Prop}(hc:jo X (.builtin id)<|f_ X.g3 r)(U:Gl X x)(g:X.mg x=none)(j:bootBuiltins x=some (.builtin id))(h:QA X (e::es) tr)
 (l:x ≠ "__name__" := by decide) (hd:Fe x:=by decide) (hs:Fb e es X:=by rfl) (hp:Fc pos es X:=by rfl):
 QE X (.Call (.Name x p) (e::es) [] pos) (r_ r tr):=EO (uD hc U g j h l hd hs hp) λσ H Q o L t C T z k=>
 ⟨o,L,_,C,T,z,λvs H1 ys L1 t1 I J z1=>⟨ys,L1,t,J,I,z1,k.ts t1⟩⟩
def Ij(G:G3)(t:Eo):TO:=λσ H Q=>∃τ L I,xx G H σ τ/\j6 G H L/\t τ L I/\∀(o:Option Int) H' L',j5 H H'->j6 G H' L'->I o L'->Q o H'
abbrev QO(X:Cx)(e:Option Expr)(t:Eo):Prop:=PO X e<|Ij X.g3 t
theorem PO.imp{e:Option Expr}{t u:TO}(h:PO X e t)(q:∀σ H Q,u σ H Q->t σ H Q):PO X e u:=λJ s σ H Q I z=>h J s σ H Q I<|q σ H Q z
theorem PO.imq{e:Option Expr}{t:TO}{u:Eo}(h:PO X e t)(q:∀σ H Q τ L I,xx G H σ τ->j6 G H L->u τ L I->(∀(o:Option Int) H' L',j5 H H'->j6 G H' L'->I o L'->Q o H')->t σ H Q):PO X e (Ij G u):=PO.imp h λσ H Q ψ=>(by obtain⟨τ,L,I,a,b,c,d⟩:=ψ;exact q σ H Q τ L I a b c d)
theorem rD.imp{r U:V->Option Int->Option Int->Hp->VK->Prop}(h:rD X r)(q:∀x lo hi H Q,U x lo hi H Q->r x lo hi H Q):rD X U:=by intro J s g H x v j l lo hi o Q I p t pl C z;exact h J s g H x v j l lo hi o Q I p t pl C<|q _ _ _ _ _ z
theorem aP:QO X none xA:=PO.imq NN λJ H Q U L g j I z k=>k _ H L (EM _) I z
theorem ve(h:QE X e te):QO X (some e) (HR te):=PO.imq (NO h) λt H Q g L C j l z k=>
 ⟨g,L,_,j,l,z,λv o y p r I J U=>by cases y with|int i=>exact⟨i,J,k _ o p r I U⟩|_=>exact U.elim⟩
def Fm(G:G3)(r:Y->Option Int->Option Int->ql->YK->Prop):V->Option Int->Option Int->Hp->VK->Prop:=λx lo hi H Q=>∃y L I,RV G H y x/\j6 G H L/\r y lo hi L I/\uH G H I Q
theorem vj{lo hi:Option Expr}{tl th:Eo}{r:Y->Option Int->Option Int->ql->YK->Prop}(h:rD X<|Fm X.g3 r)(T:QE X a ta)(hl:QO X lo tl)(hh:QO X hi th):QE X (.Subscript a (.Slice lo hi none p2) pos) (HV r ta tl th):=
 EO (NQ h T hl hh) λσ H Q I L Q3 J rl z k=>
 ⟨I,L,_,J,rl,z,λv H1 y L1 U g j z1=>⟨I,L1,_,J.ts U,g,z1,λo H2 L2 l p z2=>⟨I,L2,_,J.ts<|U.trans l,p,z2,λo' H3 L3 C t z3=>⟨y,L3,Q3,j.ts<|l.trans C,t,z3,k.ts<|U.trans<|l.trans C⟩⟩⟩⟩
theorem oh(r:xj G H ys xs)(lo hi:Option Int):xj G H (gH ys lo hi) (rK xs lo hi):=by unfold gH rK;rw[r.length];exact(r.drop _).take _
theorem Pj(K:Aj)(P:Program)(w:World)(l:X.K=K:=by rfl)(o:X.prog=P:=by rfl)(hw:X.w=w:=by rfl):rD X (Fm ⟨K,P,w⟩ HU):=by
 subst l o hw;refine rD.imp N' λx lo g H Q ψ=>?_;obtain⟨y,L,Q3,j,J,z,k⟩:=ψ;cases y with
 |ref a=>
  obtain⟨t,C,T⟩:=x5 z;obtain⟨U,sq,r⟩:=bx J<|xn C;exact⟨a,U,j,sq,λp I=>k _ _ _ _ (EN I) (J.newL I<|oh r lo g) (by rfl)<|T p<|J.none I⟩
 |sq t=>
  obtain⟨a,U,e,sf,r⟩:=j;exact⟨a,U,e,sf.sq,λp I=>k _ _ _ _ (EN I) (J.newL I<|oh r lo g) (by rfl)<|z p<|J.none I⟩
 |_=>exact z.elim
end
section
variable {a b:Expr}{tc:v4}{tB:iz}{rest ni:List Stmt}{t u:kh}
theorem z9:rB X [] fY:=jP.imq Md λD U H g L D3 I J z k=>k.nx _ H _ L (EM _) I J z
theorem qd(h:QS X st t):rB X [st] t:=Me h
theorem qa(h:QS X st t)(k:rB X rest u):rB X (st::rest) (xb t u):=jP.imq (sQ h k) λD T H g L D3 j l z k=>
 ⟨g,L,{ D3 with nx:=u D3 },j,l,z,λo H1 I p r J U C=>⟨I,p,D3,J,U,C,k.ts r⟩,k.rt,k.bk,k.ct⟩
theorem uB:QS X (.Continue pos) OY:=EU rS λD U H g L D3 I J z k=>k.ct _ H _ L (EM _) I J z
theorem zf(h:QE X e te)(hs:swapsWith e none pos.line X.env=pure false:=by rfl):QS X (.Expr e pos) (eM te):=EU (Mh h hs) λD t H g L D3 J j z k=>
 ⟨g,L,_,J,j,z,λv l y o U I p r=>k.nx _ l _ o U (J.ts U) I r⟩
theorem qx(h:QE X e te):QS X (.Return (some e) pos) (gG te):=EU (Mj h) λD g H I L D3 J U z k=>⟨I,L,_,J,U,z,k.rt⟩
theorem xK:QS X (.Return none pos) HW:=EU Mm λD J H U L D3 g I z k=>k.rt _ H _ L (EM _) I (by rfl) z
theorem zv(h:QT X c tA)(o:rB X body t)(p:rB X ni u):QS X (.If c body ni pos) (jU tA t u):=EU (Mo h o p) λD C H U L D3 g r z k=>
 ⟨U,L,_,g,r,z,λc T j J I l=>by cases c with|true=>rw[AC rfl];exact⟨U,j,D3,g.ts J,I,l,k.ts J⟩|false=>rw[AB AI];exact⟨U,j,D3,g.ts J,I,l,k.ts J⟩⟩
theorem bu(hN:X.N.Nodup)(I:X.N[i]?=some x)(r:Loc X.env.scope x)(h:QE X e te)(J:swapsWith e (some<|.Name x fy) pos.line X.env=pure false:=by rfl)
 (U:X.fn x=true\/X.env.scope.names.lookup x=some .local:=by first|exact .inl rfl|exact .inr rfl|assumption):QS X (.Assign [.Name x fy] e pos) (wb te<|z7 i):=EU (Mr hN I r h J U) λD σ H l L D3 o t z k=>
 ⟨l,L,_,o,t,z,λv C y T p g j z1=>k.nx _ C _ T p (show xx _ _ _ (fK l i y) by rw[ae];exact(o.ts p).set j) g z1⟩
theorem im(h:QE X e te)(o:QG X tg g)(h1:swapsWithSole [tg] e pos.line X.env=pure false:=by rfl)(h2:swappedStores [tg] e X.env=pure none:=by rfl)
 (p:(assignEach [tg] X.env).map (·.2)=[assign tg X.env]:=by rfl):QS X (.Assign [tg] e pos) (wb te g):=EU (Hb h o h1 h2 p) λD T H U L D3 j r z k=>
 ⟨U,L,_,j,r,z,λv H1 y t l I J C=>⟨y,U,t,_,J,j.ts l,I,C,k.nx.ts l⟩⟩
theorem PG.imp{t u:TG}(h:PG X e t)(q:∀v σ H Q,u v σ H Q->t v σ H Q):PG X e u:=λJ s σ H x v Q I r z=>h J s σ H x v Q I r<|q _ _ _ _ z
theorem PGs.imp{e:List Expr}{t u:d_}(h:PGs X e t)(q:∀v σ H Q,u v σ H Q->t v σ H Q):PGs X e u:=λJ s σ H x v Q I r z=>h J s σ H x v Q I r<|q _ _ _ _ z
theorem cW(hN:X.N.Nodup)(I:X.N[i]?=some x)(U:Loc X.env.scope x)(J:X.fn x=true\/X.env.scope.names.lookup x=some .local:=by first|exact .inl rfl|exact .inr rfl|assumption):QG X (.Name x pos) (z7 i):=
 PG.imp (kH hN I U J) λv p H Q ψ=>(by obtain⟨y,g,L,r,j,l,o,z,k⟩:=ψ;exact k _ H _ L (EM _) (show xx _ _ _ (fK g i y) by rw[ae];exact l.set j) o z)
theorem kc:Ep X [] eW:=PGs.imp xM λj l H Q ψ=>by obtain⟨I,o,L,p,J,U,g,z,k⟩:=ψ;cases I with|nil=>exact⟨J,k _ H _ L (EM _) U g z⟩|cons y r=>exact z.elim
theorem zg(h:QG X e g)(hs:Ep X es gs)(l:(assignEach (e::es) X.env).map (·.2)=assign e X.env::(assignEach es X.env).map (·.2):=by rfl):Ep X (e::es) (x6 g gs):=
 PGs.imp (lI h hs l) λvs σ H Q ψ=>by
 obtain⟨o,p,L,t,C,T,rl,z,k⟩:=ψ
 cases o with
 |nil=>exact z.elim
 |cons y r=>
  obtain⟨x,xs,rfl,r1,r2⟩:=C;exact⟨x,xs,rfl,y,p,L,_,r1,T,rl,z,λa0 H1 I L1 j J U z1=>⟨r,I,L1,t,r2.ts j,J,U,z1,k.ts j⟩⟩
theorem aN{j:Nat}(hc:X.calm=true)(h:Ep X es gs)(h1:(assignEach es X.env).length=n:=by rfl)(h2:(assignEach es X.env).findIdx? (·.1)=none:=by rfl):QG X (.Tuple es j pos) (hJ n gs):=
 PG.imp (Ha hc h h1 h2) λv C H Q ψ=>by
 obtain⟨y,U,L,g,l,o,p,z,k⟩:=ψ
 cases y with
 |tup I=>
  obtain⟨a,t,rfl,sq,r⟩:=l;have J:(match I.length==n with|true=>gs I U L g|false=>False):=z;split at J
  ·rename_i e;exact⟨a,t,rfl,sq,by rw[<-r.length];exact beq_iff_eq.mp e,I,U,L,g,r,o,p,J,k⟩
  ·exact J.elim
 |_=>exact z.elim
theorem uh{y:Str}{px py pt:Pos}{J:Nat}{I:Pos}(hc:X.calm=true)(hN:X.N.Nodup)(hi:X.N[i]?=some x)(C:X.N[j]?=some y)(U:i≠j)(T:X.env.scope.names.lookup x=some .local)(ly:X.env.scope.names.lookup y=some .local)
 (h:QA X [a,b] tr) (h1:swappedStores [.Tuple [.Name x px,.Name y py] kt pt] (.Tuple [a,b] J I) X.env=pure (some [x,y])) (h2:swapsWithSole [.Tuple [.Name x px,.Name y py] kt pt] (.Tuple [a,b] J I) pos.line X.env=pure false:=by rfl):
 QS X (.Assign [.Tuple [.Name x px,.Name y py] kt pt] (.Tuple [a,b] J I) pos) (HX i j tr):=EU (Mt hc hN hi C U T ly h h1 h2) λD σ H p L D3 r rl z k=>
 ⟨p,L,_,r,rl,z,λvs H1 ys L1 t g l o=>by
  split at o
  ·rename_i v w;obtain⟨x',y',rfl,r1,r2⟩:=l.inv2;exact⟨x',y',rfl,k.nx _ H1 _ L1 t (show xx _ _ _ (fK (fK p i v) j w) by rw[ae,ae];exact((r.ts t).set r1).set r2) g o⟩
  ·exact o.elim⟩
theorem gR(hp:PassesOwn (model X.prog X.w) X.A X.env X.xe)(h:QT X c tA)(hb:rB X body t):QS X (.While c body [] pos) (HZ tA t):=PS.imp (Mv hp h hb) λD σ H ψ=>by
 obtain⟨τ,L,D3,rs,rl,⟨W,⟨m0,w0⟩,turn⟩,k⟩:=ψ
 refine⟨λm r H1=>∃J C,j5 H H1/\xx X.g3 H1 r J/\j6 X.g3 H1 C/\W m J C,⟨m0,τ,L,EM _,rs,rl,w0⟩,?_⟩;rintro m r H1 ⟨J,C,t1,l,a1,w1⟩;refine⟨J,C,_,l,a1,turn m J C w1,λb H2 L2 T a0 z2=>?_⟩;cases b with
 |false=>rw[AB AI];exact k.nx _ H2 _ L2 (t1.trans T) (l.ts T) a0 z2
 |true=>
  rw[AC rfl];obtain⟨N,hN,z2⟩:=z2;refine⟨λU g=>∃I j,j5 H g/\xx X.g3 g U I/\j6 X.g3 g j/\N I j,?_,?_⟩
  ·rintro U g ⟨I,j,t',o,p,n'⟩;obtain⟨m',hm,w'⟩:=hN I j n';exact⟨m',hm,I,j,t',o,p,w'⟩
  ·have nx:nS X.g3 H2 (dI N) (λU g=>∃I j,j5 H g/\xx X.g3 g U I/\j6 X.g3 g j/\N I j):=λU g I j t' o p ψ=>(by obtain⟨L5,s5,n'⟩:=ψ;exact ⟨I,L5,(t1.trans T).trans t',o,p.sub s5,n'⟩);have k2:=k.ts<|t1.trans T;exact⟨J,L2,_,l.ts T,a0,z2,nx,k2.rt,k2.nx,nx⟩
theorem vh{wi:n_}(hp:PassesOwn (model X.prog X.w) X.A X.env X.xe)(hc:X.calm=true)(hi:QI X tg iter wi)(hg:QG X tg g)(hb:rB X body t)(hs:∀x,foldedSetIterable iter X.env x=pure x:=by intro _;rfl):
 QS X (.For tg iter body [] pos) (t8 wi g t):=EU (MD hp hc hi hg hb hs) λD σ H τ L D3 rs rl z k=>by
 refine⟨τ,L,_,rs,rl,z,λJ H1 r keep L1 t1 a2 yl zz=>?_⟩;obtain⟨W,w0,wk,turn,x0⟩:=OZ zz;refine⟨λi m U j=>∃I o,i+m=r.length/\j5 H1 j/\xx X.g3 j U I/\j6 X.g3 j o/\W i I o,⟨r.length,τ,L1,by omega,EM _,rs.ts t1,a2,w0⟩,?_⟩;rintro i m ac H2 ⟨l,L2,al,t2,a0,p,w2⟩;by_cases a1:i<r.length
 ·refine .inr ⟨yl.go i H2 L2 t2 p (wk i l L2 w2) a1,λU j=>∃I o,j5 H1 j/\xx X.g3 j U I/\j6 X.g3 j o/\W (i+1) I o,?_,?_⟩
  ·rintro U j ⟨I,o,t',C,T,w'⟩;exact⟨m-1,by omega,I,o,by omega,t',C,T,w'⟩
  ·intro x H3 y3;have ey:r[i]?=some r[i]:=Al a1;obtain⟨t3,a3,a4⟩:=yl.yld i H2 L2 x H3 _ t2 p (wk i l L2 w2) ey y3;refine⟨r[i],l,L2,_,a4,a0.ts t3,a3,turn i _ l L2 ey w2,λau H4 a5 L4 t4 a7 ab z4=>?_⟩;have nx:nS X.g3 H4 (dI<|W<|i+1) (λU j=>∃I o,j5 H1 j/\xx X.g3 j U I/\j6 X.g3 j o/\W (i+1) I o):=λU j I o t' C T ψ=>(by obtain⟨L5,s5,n'⟩:=ψ;exact ⟨I,L5,((t2.trans t3).trans t4).trans t',C,T.sub s5,n'⟩);have k2:=k.ts<|t1.trans<|(t2.trans t3).trans t4;exact⟨a5,L4,_,a7,ab,z4,nx,k2.rt,k2.nx,nx⟩
 ·have e:i=r.length:=by omega
  subst e;exact .inl ⟨yl.stop H2 L2 t2 p<|wk _ l L2 w2,k.nx _ H2 _ L2 (t1.trans t2) a0 p<|x0 l L2 w2⟩
theorem PI.imp{t u:TI}(h:PI X tg e t)(q:∀σ H Q,u σ H Q->t σ H Q):PI X tg e u:=λJ s σ H Q I z=>h J s σ H Q I<|q σ H Q z
theorem PI.imq{t:TI}{u:n_}(h:PI X tg e t)(q:∀σ H R τ L I,xx G H σ τ->j6 G H L->u τ L I->(∀J H' ys keep L',j5 H H'->j6 G H' L'->fj G H' J ys keep->I ys keep L'->R J H')->t σ H R):PI X tg e (FY G u):=PI.imp h λσ H R ψ=>(by obtain⟨τ,L,I,a,b,c,d⟩:=ψ;exact q σ H R τ L I a b c d)
theorem jB{a:Addr}{keep:ql->Prop}(h:∀H L,j5 H₀ H->j6 G H L->keep L->∃xs,wr G.K H a xs/\xj G H ys xs):fj G H₀ (FI G.K a) ys keep where
 go:=λi H L t I J U=>by
  obtain⟨xs,sq,r⟩:=h H L t I J;have:i<xs.length:=by rw[<-r.length];exact U
  exact⟨xs,xs[i],sq,Al this⟩
 yld:=λi H L x o y t I J g ψ=>by obtain⟨e,f⟩:=ψ;subst e;obtain⟨xs,sq,r⟩:=h _ L t I J;obtain⟨p,j,l⟩:=r.get g;have:=f xs sq;rw[j] at this;cases this;exact⟨EM _,I,l⟩
 stop:=λH L t I J=>by obtain⟨xs,sq,r⟩:=h H L t I J;exact⟨xs,sq,by rw[r.length];exact Ap _⟩
theorem xh(h:QE X e te):QI X tg e (du te):=PI.imq (My h) λσ H R τ L R3 rs l z k=>by
 refine⟨τ,L,_,rs,l,z,λv g y o C I U p=>?_⟩;cases y with
 |ref a=>
  obtain⟨j,keep,es,kp,hk,z2⟩:=lJ p;have T:∀H L,j5 g H->j6 X.g3 H L->keep L->∃J,wr X.K H a J/\xj X.g3 H j J:=λH L _ l e=>bx l<|hk L e;obtain⟨J,sq,_⟩:=T g o (EM _) I kp;exact⟨a,U,⟨J,sq⟩,k _ g j _ o C I (jB T) z2⟩
 |sq j=>
  obtain⟨a,J,e,sf,r⟩:=U;exact⟨a,e,⟨J,sf.sq⟩,k _ g j (λ_=>True) o C I (jB λH L t _ _=>⟨J,(sf.ts t).sq,r.ts t⟩) p⟩
 |_=>exact p.elim
theorem tf(lo:Int)(n:Nat):fj G H₀ (Ck lo n) (aA lo n) (λ_=>True) where
 go:=λi H L t J g j=>show i<n by simpa[aA] using j
 yld:=λi H L x l y t J g U ψ=>by
  obtain⟨e,f⟩:=ψ
  subst e f;refine⟨EM _,J,?_⟩;unfold aA at U;rw[Aq] at U;obtain⟨z,I,e⟩:=Aw.mp U;have:=C0 (i:=i) (n:=n) (by
   by_cases c:i<n
   ·exact c
   ·rw[CG (by simp;omega)] at I;cases I)
  rw[this] at I;cases I;subst e;rfl
 stop:=λH L t J g=>by simp[aA,Ck]
theorem aC{p:Pos}(g:Gl X "range")(l:X.mg "range"=none)(h:QA X [a] tr)(hs:starEach [a] X.env=[(false,eval a X.env)]:=by rfl):QI X tg (.Call (.Name "range" p) [a] [] pos) (vA tr):=
 PI.imq (yA g l h hs) λσ H R o L R3 t C z k=>by
 refine⟨o,L,_,t,C,z,λvs T ys L1 t1 J U I=>?_⟩;split at I
 ·rename_i j;obtain⟨x,rfl,r⟩:=U.inv1;cases r;exact⟨j,rfl,I.1.1,I.1.2,k _ T _ _ L1 t1 J (tf 0 _) I.2⟩
 ·exact I.elim
end
section
variable {T:List Str}{wi:n_}
theorem Ik:QF X [] O1:=PF.imp OC λJ H Q ψ=>(by obtain⟨U,L,g,j,I,z,k⟩:=ψ;exact k _ H L (EM _) I z)
theorem aK(h:QT X c tA):QF X [c] tA:=OD h
theorem Il{g2:TG}(a0:∀v σ H Q,Ee G g v σ H Q->g2 v σ H Q)(σ:L2.St)(H:Hp)(Q:VK):wD G (x_ n wi g tA te) σ H Q->FW n (FY G wi) g2 (e_ G tA) (wD G te) σ H Q:=λ ψ=>by
 obtain⟨τ,L,Q3,rs,rl,z,k⟩:=ψ
 refine⟨τ,L,_,rs,rl,z,λJ H1 l keep L1 t1 a1 yl zz=>?_⟩;obtain⟨hz,W,w0,wk,turn,x0⟩:=O2 zz;refine⟨λi m vs H'=>∃I L',i+m=l.length/\I.length<=i/\j5 H1 H'/\xj G H' I vs/\j6 G H' L'/\W i I L',⟨l.length,[],L1,by exact Nat.add_comm _ _,Ap _,EM _,rfl,a1,w0⟩,?_⟩;rintro i m vs H2 ⟨I,L2,ab,ac,o,U,j,p⟩;by_cases r:i<l.length
 ·refine .inr ⟨yl.go i H2 L2 o j (wk i I L2 p) r,by rw[<-U.length];lia,?_⟩;intro x H3 y3;have ey:l[i]?=some l[i]:=Al r;obtain⟨t3,a2,a3⟩:=yl.yld i H2 L2 x H3 _ o j (wk i I L2 p) ey y3;refine a0 _ _ _ _ ⟨l[i],_,L2,_,a3,(rs.ts<|(t1.trans o).trans t3).more n,a2,turn i _ I L2 ey p,λal H4 t L4 t4 C a4 z4=>?_⟩;refine⟨t,L4,_,C,a4,z4,λb H5 L5 t5 T z5=>?_⟩;cases b with
  |true=>
   rw[AC rfl];refine⟨t,L5,_,C.ts t5,T,z5,λv6 H6 y6 L6 t6 a5 a7 ψ=>?_⟩;obtain⟨L7,s7,z6⟩:=ψ;have tt:=((t3.trans t4).trans t5).trans t6;exact⟨m-1,by omega,I++[y6],L7,by lia,by rw[Ad,CF];exact Fi,o.trans tt,(U.ts tt).app<|xj.one a7,a5.sub s7,z6⟩
  |false=>
   rw[AB AI];have tt:=(t3.trans t4).trans t5;obtain⟨L7,s7,z6⟩:=z5;exact⟨m-1,by lia,I,L7,by lia,by exact Oo,o.trans tt,U.ts tt,T.sub s7,z6⟩
 ·have ei:i=l.length:=by lia
  subst ei;refine .inl ⟨yl.stop H2 L2 o j<|wk _ I L2 p,by rw[<-U.length];lia,λD hD=>?_⟩;exact k _ _ _ _ ((t1.trans o).trans<|EN hD) (j.newL hD U) (by rfl)<|x0 I L2 p D<|j.none hD
structure yp(X:Cx)(scope:Scope)(T:List Str)(target:Expr)(g:lS):Prop where
 ex:∃g2:TG,(∀C fp s₀ H₀,PG (X.comp scope T C fp s₀ H₀) target g2)/\oS g2 X.N.length T.length/\∀v σ H Q,Ee X.g3 g v σ H Q->g2 v σ H Q
theorem Pk(i:Nat)(v:V)(σ:L2.St)(H:Hp)(Q:L2.St->Hp->Prop):Ee G (z7 i) v σ H Q->eE i v σ H Q:=λ ψ=>by
 obtain⟨y,I,L,j,J,U,g,z,k⟩:=ψ
 exact k _ H _ L (EM _) (show xx _ _ _ (fK I i y) by rw[ae];exact U.set J) g z
theorem gt{p:Pos}(hN:(X.N++[x]).Nodup)(J:∀C fp s₀ H₀,Loc (X.comp scope [x] C fp s₀ H₀).env.scope x)(I:∀C fp s₀ H₀,(X.comp scope [x] C fp s₀ H₀).env.scope.names.lookup x=some .local):yp X scope [x] (.Name x p) (z7 X.N.length):=
 ⟨eE X.N.length,λC fp s₀ H₀=>kH (X:=X.comp scope [x] C fp s₀ H₀) hN (by show(X.N++[x])[X.N.length]?=some x;simp) (J C fp s₀ H₀)<|.inr<|I C fp s₀ H₀,vX _,Pk _⟩
theorem Pl{K:Aj}(n:Nat):oS (FD K 2<|rH (eE n)<|rH (eE<|n+1) FC) n 2:=by
 rintro o I x H Q ⟨a,J,e,sq,len,v,r,U,w,g,j,l,q⟩;refine⟨a,J,e,sq,len,v,r,U,w,g,j,l,⟨by simp[I],λi u ei=>?_⟩,q⟩;have p:i<n:=by
  by_cases c:i<n
  ·exact c
  ·rw[Ax (by lia),Cr] at ei;split at ei<;>cases ei
 rw[Bi (by lia),Bi (by exact Hw)];exact ei
theorem Pm(i j:Nat)(v:V)(σ:L2.St)(H:Hp)(Q:L2.St->Hp->Prop):Ee G (hJ 2<|x6 (z7 i)<|x6 (z7 j) eW) v σ H Q->FD G.K 2 (rH (eE i)<|rH (eE j) FC) v σ H Q:=λ ψ=>by
 obtain⟨y,U,L,g,o,p,t,z,k⟩:=ψ
 cases y with
 |tup I=>
  obtain⟨a,xs,rfl,sq,r⟩:=o;have J:(match I.length==2 with|true=>x6 (z7 i) (x6 (z7 j) eW) I U L g|false=>False):=z;split at J
  ·rename_i e;have C:I.length=2:=beq_iff_eq.mp e
   match I,C with
   |[T,y2],_=>
    obtain⟨x1,l,rfl,r1,r2⟩:=r.inv2;have z2:g (fK (fK U i T) j y2) L:=J;exact⟨a,_,rfl,sq,rfl,x1,[l],rfl,l,[],rfl,rfl,k _ H _ L (EM _) (by rw[ae,ae];exact(p.set r1).set r2) t z2⟩
  ·exact J.elim
 |_=>exact z.elim
theorem Pn{y:Str}{p I pt:Pos}(hc:X.calm=true)(hN:(X.N++[x,y]).Nodup)(U:∀C fp s₀ H₀,(X.comp scope [x,y] C fp s₀ H₀).env.scope.names.lookup x=some .local)(J:∀C fp s₀ H₀,(X.comp scope [x,y] C fp s₀ H₀).env.scope.names.lookup y=some .local)
 (h1:∀env,(assignEach [.Name x p,.Name y I] env).length=2:=by intro _;rfl) (h2:∀env,(assignEach [.Name x p,.Name y I] env).findIdx? (·.1)=none:=by intro _;rfl)
 (g:∀env,(assignEach [.Name x p,.Name y I] env).map (·.2)=assign (.Name x p) env::(assignEach [.Name y I] env).map (·.2):=by intro _;rfl) (j:∀env,(assignEach [.Name y I] env).map (·.2)=assign (.Name y I) env::(assignEach [] env).map (·.2):=by intro _;rfl):
 yp X scope [x,y] (.Tuple [.Name x p,.Name y I] kt pt) (hJ 2<|x6 (z7 X.N.length)<|x6 (z7<|X.N.length+1) eW):=
 ⟨_,λC fp s₀ H₀=>Ha (X:=X.comp scope [x,y] C fp s₀ H₀) hc (lI (kH hN (by show(X.N++[x,y])[X.N.length]?=some x;simp) (.inl<|U C fp s₀ H₀)<|.inr<|U C fp s₀ H₀) (lI (kH hN (by show(X.N++[x,y])[X.N.length+1]?=some y;simp) (.inl<|J C fp s₀ H₀)<|.inr<|J C fp s₀ H₀) xM<|j _)<|g _) (h1 _)<|h2 _,Pl _,Pm _ _⟩
theorem fS(T:List Str)(S:jf X scope)(hc:X.calm=true)(hi:QI X target iter wi)(I:yp X scope T target g)
 (J:∀C fp s₀ H₀,QF (X.comp scope T C fp s₀ H₀) mj tA) (U:∀C fp s₀ H₀,QE (X.comp scope T C fp s₀ H₀) mm te)
 (hs:∀x,foldedSetIterable iter X.env x=pure x:=by intro _;rfl):QE X (.ListComp mm [⟨target,iter,mj,0⟩] scope pos) (x_ T.length wi g tA te):=by
 obtain⟨g2,j,l,o⟩:=I.ex;exact E5 (OF T S hc hi j l J U hs)<|Il o
theorem eG(T:List Str){px o:Pos}(hN:X.N.Nodup)(I:X.N[i]?=some x)(hx:Loc X.env.scope x)(S:jf X scope)(hc:X.calm=true)(hi:QI X target iter wi)
 (hg:yp X scope T target g) (hf:∀C fp s₀ H₀,QF (X.comp scope T C fp s₀ H₀) mj tA) (he:∀C fp s₀ H₀,QE (X.comp scope T C fp s₀ H₀) mm te)
 (J:swapsWith (.ListComp mm [⟨target,iter,mj,0⟩] scope o) (some<|.Name x px) pos.line X.env=pure true:=by rfl)
 (U:X.fn x=true\/X.env.scope.names.lookup x=some .local:=by first|exact .inl rfl|exact .inr rfl|assumption)
 (hs:∀x,foldedSetIterable iter X.env x=pure x:=by intro _;rfl):QS X (.Assign [.Name x px] (.ListComp mm [⟨target,iter,mj,0⟩] scope o) pos) (wb (x_ T.length wi g tA te)<|z7 i):=by
 obtain⟨g2,h1,h2,h3⟩:=hg.ex;refine PS.imp (OG (tc:=e_ X.g3 tA) (te:=wD X.g3 te) T hN I hx S hc hi h1 h2 hf he J U hs) λD σ H ψ=>?_;obtain⟨p,L,D3,r,rl,z,k⟩:=ψ;refine Il h3 σ H _ ⟨p,L,_,r,rl,z,λv H1 y L1 t j l z1=>?_⟩;exact k.nx _ H1 _ L1 t (show xx _ _ _ (fK p i y) by rw[ae];exact(r.ts t).set l) j z1
def dn(G:G3)(sp:zc):Sp:=λvs H Q _=>∃ys L I,xj G H ys vs/\j6 G H L/\sp ys L I/\uH G H I Q
abbrev F5(P:Program)(w:World)(K:Aj)(mg:Str->Option Value)(base:Heap)(k:Nat)(x:Str)(ps:List Str)(sp:zc):Prop:=Cal P w K mg base k x ps<|dn ⟨K,P,w⟩ sp
abbrev Fn3(P:Program)(w:World)(K:Aj)(mg:Str->Option Value)(base:Heap)(k:Nat)(f:Addr)(fd:FuncData)(ps:List Str)(sp:zc):Prop:=bG P w K mg base CX0 k f fd ps<|dn ⟨K,P,w⟩ sp
theorem Po{k:Nat}{p:Pos}(c:F5 X.prog X.w X.K X.mg X.base k x ps sp)(j:vo k X.A)(l:Gl X x)(o:QA X (e::es) tr)(I:Fe x:=by decide)
 (r:Fb e es X:=by rfl) (J:Fc pos es X:=by rfl):QE X (.Call (.Name x p) (e::es) [] pos) (kg sp tr):=
 EO (OA c j l o I r J) λσ H Q t L C T rl z k=>
 ⟨t,L,_,T,rl,z,λvs H1 ys L1 t1 U g z1=>⟨ys,L1,C,by rw[AE];exact g,U,z1,k.ts t1⟩⟩
def mE(Q:YK):YK:=λy L=>∃L2,qg L2 L/\Q y L2
def iP(N:List Str)(ys:List Y):jm:=ys.map some++List.replicate (N.length-ys.length) none
theorem oY{N:List Str}{vs:List V}(r:xj G H ys vs):xx G H (L2.start N vs) (iP N ys):=by unfold L2.start iP;rw[<-r.length];refine xx.more ⟨by simp[r.length],λi y e=>?_⟩ _;rw[Aq] at e;obtain⟨g,I,J⟩:=Aw.mp e;cases J;obtain⟨x,ex,U⟩:=r.get I;exact⟨x,by rw[Aq,ex];rfl,U⟩
theorem Pp{P:Program}{w:World}{K:Aj}{f:Addr}{N:List Str}{k:Nat}(F:Fun K x eA st f fd)(S:ag N ps<|qo st)(len:∀ys L Q,sp ys L Q->ys.length=ps.length)
 (I:∀(eK:Value) (A:Around) (outer:List Env) (s:Shared) (H:Hp) (E:XK),vo k (A.deeper<|PyProof.Rows.envOfC eA (qo st) s.heap.objs.size f eK)->
  ∃t,rB (g9 CX0 P w K mg base N eA (qo st) f eK A outer s H E).nox (j7 st) t/\∀ys L Q,sp ys L Q->t { nx:=λ_ L'=>mE Q .non L',rt:=mE Q } (iP N ys) L):Fn3 P w K mg base (k+1) f fd ps sp:=by
 refine F.ok S (λT H Q E ψ=>by obtain⟨ys,L,U,g,C,z,_⟩:=ψ;rw[<-g.length];exact len ys L U z) λeK A outer s H T Q E hr ψ=>?_;obtain⟨ys,L,U,g,C,z,k⟩:=ψ;obtain⟨t,ht,q⟩:=I eK A outer s H E hr;refine⟨_,ht,iP N ys,L,_,oY g,C,q ys L U z,?_⟩;refine⟨λσ j τ L' l a0 J ψ=>(by obtain⟨L2,o,p⟩:=ψ;exact k .non j .non L2 l (J.sub o) (by rfl) p),λv j y L' l J r ψ=>(by obtain⟨L2,o,p⟩:=ψ;exact k v j y L2 l (J.sub o) r p),λ_ _ _ _ _ _ _ z=>z.elim,λ_ _ _ _ _ _ _ z=>z.elim⟩
def o_(G:G3)(r:Y->List Y->ql->YK->Prop):V->List V->Hp->VK->Prop:=λx xs H Q=>∃y ys L I,RV G H y x/\xj G H ys xs/\j6 G H L/\r y ys L I/\uH G H I Q
theorem mO.imq{id:String}{r:V->List V->Hp->VK->Prop}{u:Y->List Y->ql->YK->Prop}(h:mO X id r)(q:∀x xs H Q y ys L I,RV G H y x->xj G H ys xs->j6 G H L->u y ys L I->uH G H I Q->r x xs H Q):mO X id (o_ G u):=mO.imp h λx xs H Q ψ=>(by obtain⟨y,ys,L,I,a,b,c,d,e⟩:=ψ;exact q x xs H Q y ys L I a b c d e)
theorem Pq:mO X "list.append" (o_ X.g3 wx):=mO.imq zZ λx p H Q y t L C U g J z k=>by
 unfold wx at z;split at z
 ·rename_i a v;obtain⟨T,e,z⟩:=x5 z;obtain⟨j,I,r⟩:=J a _ e;obtain⟨l,rfl,o⟩:=g.inv1;exact⟨a,j,l,U,rfl,I,by rw[<-r.length];exact z.1,k _ _ _ _ (E4 I) (J.setL I<|r.app<|xj.one o) (by rfl) z.2⟩
 ·exact z.elim
theorem Pr:mO X "list.extend" (o_ X.g3 oz):=mO.imq Oh λx T H Q y ys L Q3 g j I z k=>by
 unfold oz at z;split at z
 ·rename_i a b;obtain⟨zs,e,z⟩:=x5 z;obtain⟨us,l,z⟩:=x5 z;obtain⟨o,J,r⟩:=I a _ e;obtain⟨p,t,U⟩:=I b _ l;obtain⟨v',rfl,C⟩:=j.inv1;cases C;exact⟨a,b,o,p,g,rfl,J,t,by rw[<-r.length,<-U.length];exact z.1,k _ _ _ _ (E4 J) (I.setL J<|r.app U) (by rfl) z.2⟩
 ·exact z.elim
theorem Ps{a:Addr}(I:j6 G H L)(h:dF L (.ref a)=some ys):FT G.K "list" (.ref a) H:=by obtain⟨J,sq,_⟩:=bx I h;exact .inl ⟨rfl,J,sq⟩
def uz(r:Y->List Y->ql->YK->Prop)(to:v4)(t:fg)(τ:jm)(L:ql)(Q:YK):Prop:=to τ L λx L1=>match x with
 |.ref a=>nl L1 (.ref a) λ_=>t τ L1 λxs L2=>r (.ref a) xs L2 Q
 |_=>False
theorem qP{id:String}{r:Y->List Y->ql->YK->Prop}(h2:Slot "list" name id)(h3:typeOf (.builtin id)=pure (.type "method_descriptor"))(hm:mO X id<|o_ X.g3 r)(ho:QE X o to)(ha:QA X (e::es) tr)
 (h4:attributeBase o name X.env (eval o X.env)=eval o X.env:=by rfl)
 (h5:((backTo ft<|starEach (e::es) X.env).all (λx=>!x.1)&&(backToKw ft<|keywordEach [] X.env).all (λx=>x.1.isSome)&&decide ((e::es).length+([]:List Keyword).length+(if ([]:List Keyword).isEmpty=true then 0 else 1)<30))=true:=by rfl)
 (h6:(apos.endLine==ft.line)=true:=by rfl) (h7:Fb e es X:=by rfl) (h8:Fc ft es X:=by rfl):
 QE X (.Call (.Attribute o name apos) (e::es) [] ft) (uz r to tr):=EO (Ht PySem.F.plainAttrs_list h2 h3 hm ho ha h4 h5 h6 h7 h8) λσ H Q l L Q3 p rl z k=>
 ⟨l,L,_,p,rl,z,λv H1 y L1 t I J U=>by
  split at U
  ·rename_i a;obtain⟨C,es,U⟩:=dz U;exact⟨by cases J;exact Ps I es,l,L1,_,p.ts t,I,U,λvs H2 C L2 T g j z2=>⟨.ref a,C,L2,Q3,J.ts T,j,g,z2,k.ts<|t.trans T⟩⟩
  ·exact U.elim⟩
theorem ze(I:QE X o to)(J:QA X (e::es) tr)(U:attributeBase o "append" X.env (eval o X.env)=eval o X.env:=by rfl)
 (g:((backTo ft<|starEach (e::es) X.env).all (λx=>!x.1)&&(backToKw ft<|keywordEach [] X.env).all (λx=>x.1.isSome)&&decide ((e::es).length+([]:List Keyword).length+(if ([]:List Keyword).isEmpty=true then 0 else 1)<30))=true:=by rfl)
 (j:(apos.endLine==ft.line)=true:=by rfl) (l:Fb e es X:=by rfl) (p:Fc ft es X:=by rfl):
 QE X (.Call (.Attribute o "append" apos) (e::es) [] ft) (uz wx to tr):=qP PySem.F.slot_list_append PySem.F.type_list_append Pq I J U g j l p
theorem oG(I:QE X o to)(J:QA X (e::es) tr)(U:attributeBase o "extend" X.env (eval o X.env)=eval o X.env:=by rfl)
 (g:((backTo ft<|starEach (e::es) X.env).all (λx=>!x.1)&&(backToKw ft<|keywordEach [] X.env).all (λx=>x.1.isSome)&&decide ((e::es).length+([]:List Keyword).length+(if ([]:List Keyword).isEmpty=true then 0 else 1)<30))=true:=by rfl)
 (j:(apos.endLine==ft.line)=true:=by rfl) (l:Fb e es X:=by rfl) (p:Fc ft es X:=by rfl):
 QE X (.Call (.Attribute o "extend" apos) (e::es) [] ft) (uz oz to tr):=qP PySem.F.slot_list_extend PySem.F.type_list_extend Pr I J U g j l p
end
abbrev y_:uJ:=i_ λi j=>.int<|i-j
abbrev ay6:uJ:=yI acw λi j=>.int<|i*j
abbrev Pu:uJ:=yI FP λi j=>.int<|i / j
abbrev Fn:uJ:=yI (λ_ j=>0<j) λi j=>.int<|i % j
abbrev yLt:uJ:=i_ λi j=>.bl<|decide<|i<j
abbrev Pw:uJ:=i_ λi j=>.bl<|decide<|j<i
abbrev yGe:uJ:=i_ λi j=>.bl<|decide<|j<=i
structure Im(G:G3)(mg:Str->Option Value)(x:Str)(y:Y):Prop where
 ex:∃c,mg x=some (.ref c)/\∀H,RV G H y<|.ref c
theorem Px(t:Im X.g3 X.mg x y)(I:Gl X x)(hd:Fe x:=by decide):QE X (.Name x pos) (yC y):=by obtain⟨c,J,q⟩:=t.ex;exact O4 I J q hd
def Io(kvs:List<|Str×Str):LO:=.dct<|kvs.map λp=>(Sum.inr p.1,Y.str p.2)
def Py(kvs:List<|Str×Str)(_:jm)(L:ql)(Q:YK):Prop:=∀p,L p=none->Q (.ref p) (qe L p<|Io kvs)
def s_(kvs:List<|Str×Str):List (j9×V):=kvs.map λp=>(Sum.inr p.1,V.str p.2)
theorem rh{σ:L2.St}{H:Hp}{Q:List (V×V)->Hp->Prop}:∀{kvs:List<|Str×Str},Q (kvs.map λp=>(V.str p.1,V.str p.2)) H->pQ (kvs.map λp=>(tC<|.str p.1,tC<|.str p.2)) σ H Q
 |[],h=>h
 |_::r,h=>rh (kvs:=r) h
theorem xU{G:G3}{H:Hp}:∀kvs:List (Str×Str),Paired (λ(p:j9×Y) (q:j9×V)=>p.1=q.1/\RV G H p.2 q.2) (kvs.map λp=>(Sum.inr p.1,Y.str p.2))<|s_ kvs
 |[]=>.nil
 |_::r=>.cons ⟨rfl,rfl⟩<|xU r
theorem Pz{keys:List<|Option Expr}{values:List Expr}(kvs:List<|Str×Str)(h:DT X pos keys values<|kvs.map λp=>(tC<|.str p.1,tC<|.str p.2))(h1:(keys.all λx=>x.isSome)=true)(h2:keys.length=values.length)(U:keys≠[])(g:keys.length<=15)
 (j:kvs.length<=15:=by decide) (nd:ie [] (s_ kvs)=s_ kvs:=by decide +kernel):QE X (.Dict keys values pos) (Py kvs):=EO (NJ h h1 h2 U g) λl H Q o L r t J z k=>by
 intro p I;refine rh ⟨zq,s_ kvs,by simp[s_,kV],by simpa[s_] using j,?_⟩;rw[nd,Ls];refine k _ _ _ (qe L p<|Io kvs) (EN I) ?_ (by rfl)<|z p<|J.none I;intro a u e;by_cases c:a=p
 ·subst c;rw[q9] at e;cases e;exact⟨s_ kvs,zq,xU kvs⟩
 ·rw[qc c] at e;exact(J a u e).keep (EN I) (qu c)
theorem ow{Q:α->ql->Prop}{o:Option α}(h:b_ L Q o):∃v,o=some v/\Q v L:=by cases o with|none=>exact h.elim|some v=>exact⟨v,rfl,h⟩
theorem iu{kvs:List<|Str×Str}{k:Str}(h:kvs.lookup k=some x):km (kvs.map λp=>((Sum.inr p.1:j9),Y.str p.2)) (Sum.inr k)=some (Y.str x):=by
 induction kvs with
 |nil=>simp at h
 |cons p r I=>
  obtain⟨a,b⟩:=p;unfold km;rw[AG,BB];rw[Bh] at h;by_cases c:k=a
  ·subst c;simp at h;simp[h]
  ·have c1:(k==a)=false:=by simpa using c
   rw[c1] at h;have c2:decide ((Sum.inr a:j9)=Sum.inr k)=false:=Au λz=>c (Sum.inr.inj z).symm;simp only[c2];exact I h
theorem wO(h:(aA lo n)[i]?=some y):i<n/\y=.int (lo+i):=by
 unfold aA at h;rw[Aq] at h;obtain⟨z,I,e⟩:=Aw.mp h;have J:i<n:=by
  by_cases c:i<n
  ·exact c
  ·rw[CG (by simp;exact yJ)] at I;cases I
 rw[C0 J] at I;cases I;exact⟨J,e.symm⟩
theorem lK(lo:Int)(n:Nat):(aA lo n).length=n:=by simp[aA]
theorem hG{tb:kh}{D:xw}(W:Nat->jm->ql->Prop)(J:W 0 τ L)
 (hs:∀i τ L,i<n->W i τ L->g (.int<|lo+i) τ L λI L2=>tb { D with nx:=dI<|W<|i+1,ct:=dI<|W<|i+1,bk:=D.nx } I L2) (hd:∀τ L,W n τ L->D.nx τ L):vD (aA lo n) (λ_=>True) g tb D τ L:=by
 refine kz ⟨W,J,λ_ _ _ _=>trivial,λi y τ L e w=>?_,λτ L w=>hd τ L (by rw[lK] at w;exact w)⟩;obtain⟨U,rfl⟩:=wO e;exact hs i τ L U w
theorem gS{tb:kh}{D:xw}{a:Addr}(h:dF L (.ref a)=some ys)(W:Nat->jm->ql->Prop)(J:W 0 τ L)(U:∀i τ L',W i τ L'->L' a=L a)
 (hs:∀i y τ L,ys[i]?=some y->W i τ L->g y τ L λI L2=>tb { D with nx:=dI<|W<|i+1,ct:=dI<|W<|i+1,bk:=D.nx } I L2) (hd:∀τ L,W ys.length τ L->D.nx τ L):
 nN L a λys keep L1=>vD ys keep g tb D τ L1:=jx (oV h) λkeep j=>kz ⟨W,J,λi τ L' w=>j L'<|U i τ L' w,hs,hd⟩
theorem bJ{keep:ql->Prop}{Q:YK}(I:Nat->List Y->Prop)(hz:ys.length<sizeLine)(j:keep L)(l:I 0 [])
 (turn:∀(i:Nat) y zs,ys[i]?=some y->I i zs->g y (τ++List.replicate n none) L λJ L2=>tc J L2 λb L3=>vk b (te J L3 λz o=>dI (λzs L'=>L'=L/\I (i+1) zs) (zs++[z]) o)<|dI (λzs L'=>L'=L/\I (i+1) zs) zs L3)
 (r:∀zs,I ys.length zs->∀p,L p=none->Q (.ref p) (qe L p<|.lst zs)):f' ys keep n g tc te τ L Q:=by
 refine H0 ⟨hz,λi zs L'=>L'=L/\I i zs,⟨rfl,l⟩,?_,?_,?_⟩
 ·rintro i zs L' ⟨rfl,_⟩;exact j
 ·rintro i y zs L' t ⟨rfl,U⟩;exact turn i y zs t U
 ·rintro zs L' ⟨rfl,U⟩ p C;exact r zs U p C
theorem vW{Q:YK}(I:Nat->List Y->Prop)(hz:m<sizeLine)(j:I 0 [])
 (turn:∀(i:Nat) zs,i<m->I i zs->g (.int<|lo+i) (τ++List.replicate n none) L λJ L2=>tc J L2 λb L3=>vk b (te J L3 λz l=>dI (λzs L'=>L'=L/\I (i+1) zs) (zs++[z]) l)<|dI (λzs L'=>L'=L/\I (i+1) zs) zs L3)
 (o:∀zs,I m zs->∀p,L p=none->Q (.ref p) (qe L p<|.lst zs)):f' (aA lo m) (λ_=>True) n g tc te τ L Q:=by
 refine bJ (keep:=λ_=>True) I (by rw[lK];exact hz) trivial j (λi y zs e U=>?_) λzs U=>o zs (by rw[lK] at U;exact U);obtain⟨r,rfl⟩:=wO e;exact turn i zs r U
theorem oR(ys:List Y)(n:Nat):gH ys (some ((n:Nat):Int)) none=ys.drop n:=by
 unfold gH;rw[HT.sIx_nat,HT.sIx_none];by_cases h:n<=ys.length
 ·rw[BM h,AZ (by rw[BC];simp +arith only)]
 ·rw[Cs (by lia),List.drop_of_length_le<|Ap _,List.drop_of_length_le (by lia),List.take_nil]
theorem xQ(ys:List Y)(n:Nat):gH ys none (some ((n:Nat):Int))=ys.take n:=by
 unfold gH;rw[HT.sIx_nat,HT.sIx_none,DA,Nat.sub_zero];by_cases h:n<=ys.length
 ·rw[BM h]
 ·rw[Cs (by lia),AZ<|Ap _,AZ (by lia)]
theorem bP{I:List α}{f:α->Y}{w:α}(h:I[i]?=some w):bp (I.map f) (i:Int)=some (f w):=xg (by rw[Aq,h];rfl)
def jw(t:kh)(n:Nat)(ys:List Y)(L:ql)(Q:YK):Prop:=t { nx:=λ_ L'=>mE Q .non L',rt:=mE Q } (ys.map some++List.replicate (n-ys.length) none) L
theorem x0{Q:YK}(h:Q y L):mE Q y L:=⟨L,EL L,h⟩
theorem kU{Q:YK}(s:qg L L')(h:Q y L):mE Q y L':=⟨L,s,h⟩
theorem Fn3.never{P:Program}{w:World}{K:Aj}{k:Nat}{f:Addr}(no:∀ys L Q,¬sp ys L Q):Fn3 P w K mg base k f fd ps sp:=
 bG.never λJ H Q E ψ=>(by obtain⟨ys,L,I,_,_,z,_⟩:=ψ;exact no ys L I z)
theorem qg.upd{a:Addr}{o:LO}(s:qg L L')(h:L a=none):qg L (qe L' a o):=λb u e=>by rw[qc<|aU e h];exact s b u e
theorem qg.put{a:Addr}{o:LO}(s:qg L L')(h:L' a=some o):qg (qe L a o) L':=λb u e=>by
 by_cases c:b=a
 ·subst c;rw[q9] at e;cases e;exact h
 ·rw[qc c] at e;exact s b u e
theorem rj{G:G3}{H:Hp}:∀I:List Int,xj G H (I.map Y.int)<|I.map V.int
 |[]=>rfl
 |_::r=>⟨_,_,rfl,rfl,rj r⟩
end L3
namespace L2
open PySem PySem.Spec PyProof.Rows
section
variable {σ:L2.St}
theorem mM(I:z8 X pins σ H s)(U:∀b∈fp,H b=none)(k:∀b o,b∉fp->s.heap.get? b=some o->h'.get? b=some o):fb X.prog X.w H h':=λb u e=>by
 refine(I.hok b u e).stay (λc v g q=>k c v (λz=>?_) q) (λ_ q=>q) λ_ _ q=>q;have J:=U c z;rcases g with w|w
 ·rw[w,e] at J;cases J
 ·rw[w] at J;cases J
theorem zY{fs:List Addr}(k:∀b o,b∉fp->h.get? b=some o->h'.get? b=some o):Un fs fp H H h h':=
 ⟨λb o q _ _ x=>k b o x q,λb o q _ _ x=>⟨o.slots,k b o x q⟩,λ_ _ _ n _=>n,λb o q x=>⟨o,k b o x q⟩,λ_ _ q=>q,λ_ _ _ q=>q,λb I q=>⟨#[],by rw[q];simp⟩⟩
theorem z8.turnedL(I:z8 X pins σ H s)(k:∀b o,b∉fp->s.heap.get? b=some o->h'.get? b=some o)(U:∀b∈fp,nQ X pins H b)(g:0<t':=by walk_at "t"):z8 X pins σ H { s with heap:=h',toks:=t' }:=
 I.call' (s':={ s with heap:=h',toks:=t' }) (ch:=fp) rfl (zY k) (mM I (λb J=>(U b J).1) k) I.bare λb J=>⟨(U b J).2.2.2.1,(U b J).2.1,(U b J).2.2.2.2.1,(U b J).2.2.2.2.2⟩
theorem z8.turnedN{a:Addr}{o:HO}(I:z8 X pins σ H s)(k:∀b o,b∉fp->s.heap.get? b=some o->h'.get? b=some o)(g:∀b∈fp,nQ X pins H b)(l:s.heap.objs.size<=a)
 (new:xu X.prog X.w (upd H a o) h' a o) (r:0<t':=by walk_at "t"):z8 X pins σ (upd H a o) { s with heap:=h',toks:=t' }:=by
 have j:H a=none:=I.hok.fresh l;have lt:∀b J,s.heap.get? b=some J->b≠a:=λb J q=>A5<|AR (pj q) l;refine I.call' (s':={ s with heap:=h',toks:=t' }) (ch:=fp) rfl ?_ ?_ I.bare λb U=>⟨(g b U).2.2.2.1,(g b U).2.1,(g b U).2.2.2.2.1,(g b U).2.2.2.2.2⟩
 ·exact⟨λb J q _ _ x=>k b J x q,λb J q _ _ x=>⟨J.slots,k b J x q⟩,λb J q n _=>by rw[qu<|lt b J q];exact n,λb J q x=>⟨J,k b J x q⟩,
   λb p q=>by rw[qu<|zx q j];exact q,λb J u q=>by rw[qu<|zx q j];exact q,λb t q=>⟨#[],by rw[qu<|zx q j,q];simp⟩⟩
 ·intro b u e;by_cases U:b=a
  ·subst U;rw[zq] at e;cases e;exact new
  ·rw[qu U] at e;have ok:=mM I (h':=h') (λb U=>(g b U).1) k b u e;exact ok.stay (λ_ _ _ q=>q) (λc q=>by rw[qu<|zx q j];exact q) λc p q=>by rw[qu<|zx q j];exact q
end
def F6(K:Aj)(a:Addr):It:=
 ⟨λi H=>∃xs x,wr K H a xs/\xs[i]?=some x,λi H v H'=>∃p x,H p=none/\v=.ref p/\H'=upd H p (.tup [.int i,x])/\∀xs,wr K H a xs->xs[i]?=some x,λi H=>∃xs,wr K H a xs/\xs.length<=i⟩
theorem zE{P:Program}{w:World}{K:Aj}(a e it:Addr)(l:e≠it):zK P w K (.Tuple li x1 tp) (F6 K a) [e,it] e (λi h=>(∃old,IsEnum h e it i old)/\h.IsListIter it a i) where
 mem:=by simp
 obj:=λi h ψ b g=>by
  obtain⟨⟨old,J⟩,U⟩:=ψ
  rcases Ao.mp g with rfl|g
  ·exact⟨_,J,λv z=>by cases z⟩
  ·cases Am.mp g;obtain⟨o,T,hc,hd⟩:=U;exact⟨o,T,λv z=>by rw[hd] at z;cases z⟩
 keep:=λi h h' ψ k=>(by obtain⟨⟨old,J⟩,U⟩:=ψ;exact ⟨⟨old,k e (by simp) _ J⟩,U.at λo q=>k it (by simp) o q⟩)
 item:=by
  rintro X hP hw hK hc i r s σ H E I t ⟨⟨old,J⟩,U⟩ hg;subst hP hw hK;obtain⟨xs,x,C,hx⟩:=hg;obtain⟨a0,rv,p,hz⟩:=I.list C;obtain⟨u,hu,ru⟩:=rv.get hx;refine wpAny_pyNext_enum_item J U p.isList (x:=u) (by simpa using hu) l λh1 a1 a2 ht a5 hk=>⟨.ref s.heap.objs.size,rfl,wpAny_letOwnedTupleGo_enum a1 λh2 a3 j=>?_⟩;have el:e<s.heap.objs.size:=pj J;have il:it<s.heap.objs.size:=by obtain⟨o,T,_⟩:=U;exact pj T
  have kk:∀b o,b∉[e,it]->s.heap.get? b=some o->h2.get? b=some o:=λb o nb q=>by have n1:b≠e:=λz=>nb (by simp[z]);have n2:b≠it:=λz=>nb (by simp[z]);exact j.extBut b o n1<|hk b o n1 n2 q
  have tg:h2.get? s.heap.objs.size=some { cls:=.type "tuple",data:=.seq #[.int i s.toks,u] }:=j.extBut _ _ (Dv el) ht;refine⟨.ref s.heap.objs.size,upd H s.heap.objs.size<|.tup [.int i,x],?_,rfl,⟨_,x,I.hok.fresh<|Ap _,rfl,rfl,λys hy=>by rw[I.list_inj hy C];exact hx⟩,⟨⟨_,a3⟩,a2.at λo q=>j.extBut _ _ (A4 l) q⟩,λb g=>?_⟩
  ·exact I.turnedN (t':=s.toks+1) kk t (Ap _) ⟨by show 2<=sizeLine;decide,[.int i s.toks,u],.cons ⟨_,rfl⟩<|.cons ru .nil,⟨_,tg,rfl,_,rfl⟩⟩
  ·have a4:b<s.heap.objs.size:=by rcases Ao.mp g with rfl|g;exact el;cases Am.mp g;exact il
   rw[qu<|A5 a4];exact(t b g).1
 done:=by rintro X hP hw hK hc i r s σ H E I t ⟨⟨old,J⟩,U⟩ hg;subst hP hw hK;obtain⟨xs,C,hx⟩:=hg;obtain⟨a0,rv,p,hz⟩:=I.list C;have hl:=rv.length;exact wpAny_pyNext_enum_end (I.ok.hd hc) J U p.isList (by simp;omega) λh1 eb=>⟨rfl,I.turnedL (t':=s.toks) (fp:=[e,it]) (λb o nb q=>eb b o (λz=>nb (by simp[z])) q) t⟩
 self:=λ_ _ _ _ _ ψ h=>(by obtain⟨⟨_,J⟩,_⟩:=ψ;exact wpAny_pyIter_enum J h)
def PB(K:Aj)(ta:TA):TI:=λσ H R=>ta σ H λvs H1=>∃a,vs=[.ref a]/\(∃xs,wr K H1 a xs)/\R (F6 K a) H1
theorem hU:bootBuiltins "enumerate"=some (.type "enumerate"):=by decide +kernel
theorem PD{a:Expr}{ta:TA}{p:Pos}(hg:Gl X "enumerate")(hm:X.mg "enumerate"=none)(ha:PA X [a] ta)(hs:starEach [a] X.env=[(false,eval a X.env)]:=by rfl):
 PI X (.Tuple li x1 tp) (.Call (.Name "enumerate" p) [a] [] pos) (PB X.K ta):=by
 intro J s r H R I h;refine Call_<|gJ I hg hm hU<|CL (aT (ha pos J s r H _ I h) λus U ψ=>?_) hs rfl;obtain⟨vs,t,j,r1,q1⟩:=ψ;obtain⟨l,e,⟨xs,hq⟩,q⟩:=q1;subst e;obtain⟨u,rfl,ru⟩:=sJ r1;cases ru;obtain⟨a0,rv,pl,hz⟩:=j.list hq;refine call_enumerate_list pl.isList λC T hi a1 hk=>?_;have I2:z8 X J r t { U with heap:=C }:=j.kept (t':=U.toks) hk;refine wpAny_pyIter_enum (s:={ U with heap:=C }) T ?_;refine⟨U.heap.objs.size+1,[U.heap.objs.size+1,U.heap.objs.size],_,_,t,rfl,I2,zE l _ _<|Nat.succ_ne_self _,⟨⟨_,T⟩,hi⟩,λb o=>?_,q⟩;have g:U.heap.objs.size<=b:=by rcases Ao.mp o with rfl|o;exact B6 _;cases Am.mp o;exact Ap _
 exact j.fpOk g<|j.hok.fresh g
end L2
namespace L3
open PySem L2
theorem jJ{a:Addr}{keep:ql->Prop}(h:∀H L,j5 H₀ H->j6 G H L->keep L->∃xs,wr G.K H a xs/\xj G H ys xs):fj G H₀ (F6 G.K a) (ys.zipIdx.map λp=>Y.tup [.int (p.2:Nat),p.1]) keep where
 go:=λi H L t I J o=>by
  obtain⟨xs,sq,r⟩:=h H L t I J;have:i<xs.length:=by rw[<-r.length];simpa using o
  exact⟨xs,xs[i],sq,Al this⟩
 yld:=λi H L x H' y t I J l ψ=>by obtain⟨p,z,U,C,T,f⟩:=ψ;subst C T;obtain⟨xs,sq,r⟩:=h H L t I J;rw[Aq,Dp] at l;obtain⟨⟨y',j⟩,ey,e3⟩:=Aw.mp l;obtain⟨a0,g,e4⟩:=Aw.mp ey;cases e4;subst e3;obtain⟨x',e',rv⟩:=r.get g;have:=f xs sq;rw[e'] at this;cases this;refine⟨EN U,I.skip U,p,_,rfl,cT.of zq,⟨_,_,rfl,?_,_,_,rfl,rv.ts<|EN U,rfl⟩⟩;show V.int _=V.int _;congr 1;simp
 stop:=λH L t I J=>by obtain⟨xs,sq,r⟩:=h H L t I J;exact⟨xs,sq,by rw[Ah,List.length_zipIdx,r.length];exact Ap _⟩
def jF(ys:List Y):List Y:=ys.zipIdx.map λp=>Y.tup [.int (p.2:Nat),p.1]
theorem cB(h:(jF ys)[i]?=some y):∃z,ys[i]?=some z/\y=.tup [.int i,z]:=by unfold jF at h;rw[Aq,Dp] at h;obtain⟨⟨J,j⟩,U,g⟩:=Aw.mp h;obtain⟨l,I,o⟩:=Aw.mp U;cases o;exact⟨J,I,by rw[<-g];simp⟩
theorem ai(ys:List Y):(jF ys).length=ys.length:=by simp[jF]
def Ip(tl:v4)(τ:jm)(L:ql)(R:List Y->(ql->Prop)->ql->Prop):Prop:=tl τ L λx L1=>match x with
 |.ref a=>nN L1 a λys keep L=>R (jF ys) keep L
 |.sq ys=>R (jF ys) (λ_=>True) L1
 |_=>False
theorem ef{a:Expr}{p:Pos}(hg:Gl X "enumerate")(hm:X.mg "enumerate"=none)(ha:QE X a te)(hs:starEach [a] X.env=[(false,eval a X.env)]:=by rfl)
 (j:starEach [a] X.env=(false,eval a X.env)::starEach [] X.env:=by rfl):QI X (.Tuple li x1 tp) (.Call (.Name "enumerate" p) [a] [] pos) (Ip te):=PI.imq (PD hg hm (fH ha kW j) hs) λσ H R τ L R3 rs l z k=>by
 refine⟨τ,L,_,rs,l,z,λv g y o T I U C=>?_⟩;cases y with
 |ref a=>
  obtain⟨ys,keep,es,kp,hk,z2⟩:=lJ C;have hy:∀H L,j5 g H->j6 X.g3 H L->keep L->∃J,wr X.K H a J/\xj X.g3 H ys J:=λH L _ l e=>bx l<|hk L e;obtain⟨J,sq,_⟩:=hy g o (EM _) I kp;cases U;exact⟨a,rfl,⟨J,sq⟩,k _ g _ _ o T I (jJ hy) z2⟩
 |sq ys=>
  obtain⟨a,J,e,sf,r⟩:=U;subst e;exact⟨a,rfl,⟨J,sf.sq⟩,k _ g _ (λ_=>True) o T I (jJ λH L t _ _=>⟨J,(sf.ts t).sq,r.ts t⟩) C⟩
 |_=>exact C.elim
end L3
namespace L2
open PySem PySem.Spec PyProof.Rows
section
variable {w:World}
end
section
variable {w:World}
end
section
variable {σ:L2.St}
end
end L2
namespace L3
open PySem L2
def xG(xs:List Y)(L:ql)(Q:YK):Prop:=match xs with
 |[x]=>nl L x λys=>∀p,L p=none->Q (.ref p) (qe L p<|.lst ys)
 |_=>False
theorem gj :jo X (.type "list") (f_ X.g3 xG):=E7 qF λt H Q C L T U I z k=>by
 unfold xG at z;split at z
 ·rename_i x;obtain⟨u,rfl,g⟩:=U.inv1;obtain⟨zs,j,z⟩:=dz z;obtain⟨p,o,e,sq,r⟩:=ou I g j;subst e;exact⟨p,o,rfl,sq,λl J=>k _ _ _ _ (EN J) (I.newL J r) (by rfl)<|z l<|I.none J⟩
 ·exact z.elim
theorem eL{T:String}{p:Pos}{r:List Y->ql->YK->Prop}(hc:jo X (.type T)<|f_ X.g3 r)(U:Gl X x)(g:X.mg x=none)(j:bootBuiltins x=some (.type T))(h:QA X (e::es) tr)
 (l:x ≠ "__name__" := by decide) (hd:Fe x:=by decide) (hs:Fb e es X:=by rfl) (hp:Fc pos es X:=by rfl):
 QE X (.Call (.Name x p) (e::es) [] pos) (r_ r tr):=EO (iY hc U g j h l hd hs hp) λσ H Q o L t C rl z k=>
 ⟨o,L,_,C,rl,z,λvs H1 ys L1 t1 I J z1=>⟨ys,L1,t,J,I,z1,k.ts t1⟩⟩
def qC(x:Y)(vs:List Y)(L:ql)(Q:YK):Prop:=match x,vs with
 |.ref a,[.int i]=>cZ L a λys=>0<=i/\i<ys.length/\b_ L (λv L=>Q v<|qe L a<|.lst<|ys.eraseIdx i.toNat) (ys[i.toNat]?)
 |_,_=>False
theorem PH :mO X "list.pop" (o_ X.g3 qC):=λJ s l H x xs v o Q I p t ψ=>by
 obtain⟨y,ys,L,Q3,C,T,j,z,k⟩:=ψ
 unfold qC at z;split at z
 ·rename_i a i;obtain⟨zs,e,h0,h1,z⟩:=x5 z;obtain⟨ws,U,r⟩:=j a _ e;obtain⟨i',rfl,ri⟩:=T.inv1;cases ri;cases g:zs[i.toNat]? with
  |none=>rw[g] at z;exact z.elim
  |some w=>
   rw[g] at z;obtain⟨u,eu,ru⟩:=r.get g;obtain⟨_,_,_,hz⟩:=I.list<|E9 U;have hl:=r.length;have hs:sizeLine<2 ^ 62:=by decide
   refine Oj J s l H x _ v o Q I p t ⟨a,ws,i,i.toNat,u,C,rfl,U,by lia,by lia,?_,eu,k _ _ _ _ (E4 U) (j.setL U<|r.eraseIdx _) (ru.ts<|E4 U) z⟩;unfold seqIndex?;rw[AB (show ¬i<0 by lia),AC (by simp;lia)]
 ·exact z.elim
theorem cQ(I:QE X o to)(J:QA X (e::es) tr)(U:attributeBase o "pop" X.env (eval o X.env)=eval o X.env:=by rfl)
 (g:((backTo ft<|starEach (e::es) X.env).all (λx=>!x.1)&&(backToKw ft<|keywordEach [] X.env).all (λx=>x.1.isSome)&&decide ((e::es).length+([]:List Keyword).length+(if ([]:List Keyword).isEmpty=true then 0 else 1)<30))=true:=by rfl)
 (j:(apos.endLine==ft.line)=true:=by rfl) (l:Fb e es X:=by rfl) (p:Fc ft es X:=by rfl):
 QE X (.Call (.Attribute o "pop" apos) (e::es) [] ft) (uz qC to tr):=qP PySem.F.slot_list_pop PySem.F.type_list_pop PH I J U g j l p
end L3
namespace L2
open PySem PySem.Spec PyProof.Rows
theorem xJ(i:Int)(n d:Nat):max 0 (min (if i<0 then i+(n:Int) else i) n)=((HT.sIx n d (some i):Nat):Int):=by
 simp only[HT.sIx];by_cases h:i<0
 ·simp only[h,if_true]<;>lia
 ·simp only[h,if_false]<;>lia
theorem PJ(l u:Option Int)(n:Nat):Builtin.Str.strSliceIndices l u 1 n=(List.range<|HT.sIx n n u-HT.sIx n 0 l).map (HT.sIx n 0 l+·):=by
 have z:(0:Int)=((HT.sIx n 0 none:Nat):Int):=rfl;have y:(n:Int)=((HT.sIx n n none:Nat):Int):=rfl;unfold Builtin.Str.strSliceIndices;cases l with
 |none=>
  cases u with
  |none=>exact sliceRange_one 0 n
  |some j=>
   show sliceRange 0 (max 0<|min (if j<0 then j+(n:Int) else j) n) 1=_;rw[xJ j n n];exact sliceRange_one 0 _
 |some i=>
  cases u with
  |none=>
   show sliceRange (max 0<|min (if i<0 then i+(n:Int) else i) n) n 1=_;rw[xJ i n 0];exact sliceRange_one _ n
  |some j=>
   show sliceRange (max 0<|min (if i<0 then i+(n:Int) else i) n) (max 0<|min (if j<0 then j+(n:Int) else j) n) 1=_;rw[xJ i n 0,xJ j n n];exact sliceRange_one _ _
theorem oB(x:Str)(l u:Option Int):(Txt.slice x l u).cps.toList=(x.cps.toList.drop<|HT.sIx x.length 0 l).take (HT.sIx x.length x.length u-HT.sIx x.length 0 l):=by
 have U:x.length=x.cps.toList.length:=by simp[Str.length]
 have I:=pick_run x.cps (HT.sIx x.length 0 l)<|HT.sIx x.length x.length u-HT.sIx x.length 0 l;unfold Txt.slice;rw[PJ];split
 ·rename_i h;simp only[beq_self_eq_true,EH,Ah,A7,beq_iff_eq] at h;have g:=HT.sIx_le x.length 0 (A3 _) l;have j:=HT.sIx_le x.length x.length (Ap _) u;have J:HT.sIx x.length 0 l=0:=by lia
  rw[h,J,DA,AZ (by exact vF)]
 ·show(List.filterMap (λi=>x.cps[i]?) _).toArray.toList=_;rw[List.toList_toArray];exact I
def PK:V->Option Int->Option Int->Hp->VK->Prop:=λx lo hi H Q=>∃z,x=.str z/\z.length<=sizeLine/\Q (.str<|Txt.slice z lo hi) H
theorem ajz:rD X PK:=by
 intro J s σ H x v U g lo j sl Q I o p pl r h;obtain⟨z,rfl,C,q⟩:=h;obtain⟨t,rfl⟩:=o;obtain⟨l,rfl,T⟩:∃l:Option (Int×Tok),U=partValue l/\l.map (·.1)=lo:=by cases pl with|none=>exact⟨none,rfl,rfl⟩|int i t=>exact⟨some (i,t),rfl,rfl⟩
 obtain⟨u,rfl,hu⟩:∃u:Option (Int×Tok),g=partValue u/\u.map (·.1)=j:=by cases r with|none=>exact⟨none,rfl,rfl⟩|int i t=>exact⟨some (i,t),rfl,rfl⟩
 subst T hu;refine⟨"str",_,F.slot_str_getitem.lookup,typeIs_str _ _ _,jt I.tk<|wpAny_getItem_str_slice (l:=l) (u:=u) (st:=none) p rfl ?_⟩;exact post_val_or_str ⟨AN (Txt.slice_le z _ _) C,λt' k ht=>⟨.str _,H,I.tok _,⟨t',rfl⟩,q⟩⟩
theorem uS{zs:List Str}:∀{us:List Value},zn (zs.map V.str) us->StrsAre us zs:=by
 induction zs with
 |nil=>intro us r;rw[Dh] at r;cases r;exact .nil
 |cons z zs I=>
  intro us r;rw[AG] at r;cases r with
  |cons J U=>
   obtain⟨t,e⟩:=J;subst e;exact .cons z t<|I U
def PL(K:Aj):V->List V->Hp->VK->Prop:=λx vs H Q=>∃z a zs,x=.str z/\vs=[.ref a]/\wr K H a ((zs:List Str).map V.str)/\(zs.map (·.length)).sum+zs.length*z.length<=16777216/\Q (.str<|Txt.join z zs) H
theorem PM:mO X "str.join" (PL X.K):=by intro J s σ H x vs v us Q I U g h;obtain⟨z,a,zs,rfl,rfl,j,l,q⟩:=h;obtain⟨t,rfl⟩:=U;obtain⟨u,rfl,o⟩:=g.one;cases o;obtain⟨C,r,p,_⟩:=I.list j;exact jt I.tk<|PyProof.Rows.join_list p.isList (by simpa using uS r) l λT k ht=>⟨.str _,H,I.tok _,⟨T,rfl⟩,q⟩
end L2
namespace L3
open PySem L2
def Iq(x:Y)(lo hi:Option Int)(L:ql)(Q:YK):Prop:=match x with
 |.str z=>z.length<=sizeLine/\Q (.str<|Txt.slice z lo hi) L
 |x=>HU x lo hi L Q
theorem jH(K:Aj)(P:Program)(w:World)(U:X.K=K:=by rfl)(g:X.prog=P:=by rfl)(hw:X.w=w:=by rfl):rD X (Fm ⟨K,P,w⟩ Iq):=by refine rD.imp (ajz.or<|Pj K P w U g hw) λx lo l H Q ψ=>?_;obtain⟨y,L,j,I,J,z,k⟩:=ψ;cases y with|str s=>exact .inl ⟨s,I,z.1,k _ H _ L (EM _) J (by rfl) z.2⟩|_=>exact .inr ⟨_,L,j,I,J,z,k⟩
def Ir(r:Y->List Y->ql->YK->Prop)(to:v4)(t:fg)(τ:jm)(L:ql)(Q:YK):Prop:=to τ L λx L1=>match x with
 |.str z=>t τ L1 λxs L2=>r (.str z) xs L2 Q
 |_=>False
theorem PN{id:String}{r:Y->List Y->ql->YK->Prop}(h2:Slot "str" name id)(C:typeOf (.builtin id)=pure (.type "method_descriptor"))(T:mO X id<|o_ X.g3 r)(ho:QE X o to)(ha:QA X (e::es) tr)
 (h4:attributeBase o name X.env (eval o X.env)=eval o X.env:=by rfl)
 (h5:((backTo ft<|starEach (e::es) X.env).all (λx=>!x.1)&&(backToKw ft<|keywordEach [] X.env).all (λx=>x.1.isSome)&&decide ((e::es).length+([]:List Keyword).length+(if ([]:List Keyword).isEmpty=true then 0 else 1)<30))=true:=by rfl)
 (h6:(apos.endLine==ft.line)=true:=by rfl) (h7:Fb e es X:=by rfl) (h8:Fc ft es X:=by rfl):
 QE X (.Call (.Attribute o name apos) (e::es) [] ft) (Ir r to tr):=EO (Ht PySem.F.plainAttrs_str h2 C T ho ha h4 h5 h6 h7 h8) λσ H Q l L Q3 p rl z k=>
 ⟨l,L,_,p,rl,z,λv H1 y L1 t I J U=>by
  split at U
  ·rename_i s;cases J;exact⟨rfl,l,L1,_,p.ts t,I,U,λvs H2 ys L2 t2 g j z2=>⟨.str s,ys,L2,Q3,rfl,j,g,z2,k.ts<|t.trans t2⟩⟩
  ·exact U.elim⟩
theorem rE{G:G3}{H:Hp}:∀{zs:List Str} {xs:List V},xj G H (zs.map Y.str) xs->xs=zs.map V.str
 |[],_,h=>h
 |z::r,_,ψ=>by obtain⟨x,I,e,q,s⟩:=ψ;rw[e,show x=V.str z from q,rE s];rfl
def F7(x:Y)(vs:List Y)(L:ql)(Q:YK):Prop:=match x,vs with
 |.str z,[.ref a]=>cZ L a λys=>∃zs,ys=zs.map Y.str/\(zs.map (·.length)).sum+zs.length*z.length<=16777216/\Q (.str<|Txt.join z zs) L
 |_,_=>False
theorem PP :mO X "str.join" (o_ X.g3 F7):=mO.imq PM λx p H Q y t L C U g I z k=>by
 unfold F7 at z;split at z
 ·rename_i s a;obtain⟨T,e,j,rfl,l,z⟩:=x5 z;obtain⟨ws,J,r⟩:=I a _ e;obtain⟨u,rfl,o⟩:=g.inv1;cases o;rw[rE r] at J;exact⟨s,a,j,U,rfl,E9 J,l,k _ H _ L (EM _) I (by rfl) z⟩
 ·exact z.elim
theorem PQ(I:QE X o to)(J:QA X (e::es) tr)(U:attributeBase o "join" X.env (eval o X.env)=eval o X.env:=by rfl)
 (g:((backTo ft<|starEach (e::es) X.env).all (λx=>!x.1)&&(backToKw ft<|keywordEach [] X.env).all (λx=>x.1.isSome)&&decide ((e::es).length+([]:List Keyword).length+(if ([]:List Keyword).isEmpty=true then 0 else 1)<30))=true:=by rfl)
 (j:(apos.endLine==ft.line)=true:=by rfl) (l:Fb e es X:=by rfl) (p:Fc ft es X:=by rfl):
 QE X (.Call (.Attribute o "join" apos) (e::es) [] ft) (Ir F7 to tr):=PN PySem.F.slot_str_join PySem.F.type_str_join PP I J U g j l p
theorem pC(zs:List Str):(Txt.join "" zs).cps.toList=zs.flatMap λz=>z.cps.toList:=by
 have e:∀zs:List Str,(Str.join "" zs).cps.toList=zs.flatMap λz=>z.cps.toList:=by
  intro zs
  induction zs with
  |nil=>rfl
  |cons z r I=>
   cases r with
   |nil=>simp[Str.join]
   |cons y r=>
    show(z ++ "" ++ Str.join "" (y::r)).cps.toList=_;have:(z ++ "" ++ Str.join "" (y::r)).cps=z.cps++#[]++(Str.join ""<|y::r).cps:=rfl;rw[this];simp only[Ba,I,Bn,Array.append_empty]
 exact(BL (λx:Str=>x.cps.toList)<|StrLaws.glued_eq_join "" zs).trans (e zs)
def F8(t u:kh)(D:xw)(τ:jm)(L:ql):Prop:=∃J:jm->ql->Prop,t { D with nx:=J } τ L/\∀I L',J I L'->u D I L'
theorem w5{rest:List Stmt}{t u:kh}(h:QS X st t)(k:rB X rest u):rB X (st::rest) (F8 t u):=jP.imp (sQ h k) λD σ H ψ=>by
 obtain⟨l,L,D3,o,p,⟨J,z,q⟩,k⟩:=ψ
 exact ⟨l,L,{ D3 with nx:=J },o,p,z,λr H1 I j C U g T=>⟨I,j,D3,U,g,q I j T,k.ts C⟩,k.rt,k.bk,k.ct⟩
theorem fI{a b:Addr}{o u:LO}(h:a≠b):qe (qe L a o) b u=qe (qe L b u) a o:=by
 funext c;by_cases I:c=a
 ·subst I;rw[qc h,q9,q9]
 ·by_cases J:c=b
  ·subst J;rw[q9,qc I,q9]
  ·rw[qc J,qc I,qc I,qc J]
section
variable {E3:X3}
end
section
variable {cp:Pos}
end
section
variable {a:Expr}{p pt:Pos}{v:V}{vs:List V}
end
open PySem L2 PySem.W
section
variable {K:Frag}{t c:Value}{b:Bool}
end
end L3
namespace L2
open PySem PySem.Spec PyProof.Rows
section
variable {a b:Expr}{ta tb:TE}{op op':CmpOp}{ops:List CmpOp}{r:R2}{u:V->TE}
end
end L2
namespace L3
open PySem L2
section
variable {a b:Expr}{op op':CmpOp}{ops:List CmpOp}{r:uJ}{u:Y->v4}
end
end L3
namespace L2
open PySem PySem.Spec PyProof.Rows
end L2
namespace L3
open PySem L2
def Fo:Y->Option j9
 |.int i=>some<|.inl i
 |.str x=>some<|.inr x
 |_=>none
theorem lT{v:V}{k:j9}(h:Fo y=some k)(r:RV G H y v):v=kV k:=by cases y with|int i=>cases h;exact r|str x=>cases h;exact r|_=>cases h
def mJ(kvs:List<|j9×Y)(k:j9)(y:Y):List (j9×Y):=
 if (kvs.any λI=>decide<|I.1=k)=true then kvs.map (λI=>if I.1=k then(I.1,y) else I) else kvs++[(k,y)]
theorem j5.dct{p:Addr}{zs:List<|j9×V}{o:HO}(h:H p=some (.dK zs)):j5 H (upd H p o):=λa u i q=>by rw[qu ?_];exact q;rintro rfl;rw[h] at q;cases q;cases i
theorem PR{xs:List<|j9×V}(p:Paired (λ(p:j9×Y) (q:j9×V)=>p.1=q.1/\RV G H p.2 q.2) kvs xs)(k:j9):(kvs.any λI=>decide<|I.1=k)=xs.any λI=>decide (I.1=k):=by induction p with|nil=>rfl|cons r t J=>rw[Cn,Cn,J,r.1]
theorem PU{xs:List<|j9×V}{v:V}(p:Paired (λ(p:j9×Y) (q:j9×V)=>p.1=q.1/\RV G H p.2 q.2) kvs xs)(k:j9)(r:RV G H y v):
 Paired (λ(p:j9×Y) (q:j9×V)=>p.1=q.1/\RV G H p.2 q.2) (kvs.map λI=>if I.1=k then(I.1,y) else I) (xs.map λI=>if I.1=k then(I.1,v) else I):=by
 induction p with
 |nil=>exact .nil
 |@cons a b _ _ J t U=>
  refine .cons ?_ U;obtain⟨e,q⟩:=J;dsimp only;by_cases c:a.1=k
  ·rw[AC c,AC<|e▸c];exact⟨e,r⟩
  ·rw[AB c,AB λz=>c<|e.trans z];exact⟨e,q⟩
theorem yW{xs:List<|j9×V}{v:V}(p:Paired (λ(p:j9×Y) (q:j9×V)=>p.1=q.1/\RV G H p.2 q.2) kvs xs)(k:j9)(r:RV G H y v):
 Paired (λ(p:j9×Y) (q:j9×V)=>p.1=q.1/\RV G H p.2 q.2) (kvs++[(k,y)]) (xs++[(k,v)]):=by
 induction p with|nil=>exact .cons ⟨rfl,r⟩ .nil|cons I t J=>exact .cons I J
theorem PV{xs:List<|j9×V}{v:V}(p:Paired (λ(p:j9×Y) (q:j9×V)=>p.1=q.1/\RV G H p.2 q.2) kvs xs)(k:j9)(r:RV G H y v):
 Paired (λ(p:j9×Y) (q:j9×V)=>p.1=q.1/\RV G H p.2 q.2) (mJ kvs k y) (dr xs k v):=by
 unfold mJ dr;rw[PR p k];by_cases c:(xs.any λI=>decide<|I.1=k)=true
 ·rw[AC c,AC c];exact PU p k r
 ·rw[AB c,AB c];exact yW p k r
theorem pair_len{R:α->β->Prop}{l:List α}{m:List β}(p:Paired R l m):l.length=m.length:=by induction p with|nil=>rfl|cons _ _ I=>rw[AK,AK,I]
def Iu(_:jm)(L:ql)(Q:YK):Prop:=∀p,L p=none->Q (.ref p) (qe L p<|.dct [])
def PX(td ti:v4)(τ:jm)(L:ql)(Q:YK):Prop:=td τ L λx L1=>ti τ L1 λy L2=>match x,Fo y with
 |.ref a,some k=>pP L2 a λkvs=>b_ L2 Q<|km kvs k
 |_,_=>False
def tE(td ti tv:v4)(D:xw)(τ:jm)(L:ql):Prop:=tv τ L λv L1=>td τ L1 λx L2=>ti τ L2 λy L3=>match x,Fo y with
 |.ref a,some k=>pP L3 a λkvs=>kvs.length<sizeLine/\D.nx τ (qe L3 a<|.dct<|mJ kvs k v)
 |_,_=>False
section
variable {i:Expr}{td ti tv:v4}
theorem xO:QE X (.Dict [] [] pos) Iu:=EO NG λU H Q g L j l J z k=>λp I=>by
 refine k _ _ _ (qe L p<|.dct []) (EN I) (λa u e=>?_) (by rfl)<|z p<|J.none I;by_cases c:a=p
 ·subst c;rw[q9] at e;cases e;exact⟨[],zq,.nil⟩
 ·rw[qc c] at e;exact(J a u e).keep (EN I) (qu c)
theorem dC(hu:X.A.units+128<cLine)(t:QE X o td)(hi:QE X i ti)(hs:FQ i):QE X (.Subscript o i pos) (PX td ti):=EO (ND (by omega) t hi hs) λσ H Q l L Q3 p C z k=>
 ⟨l,L,_,p,C,z,λv H1 x T r J U z1=>⟨l,T,_,p.ts r,J,z1,λw H2 y L2 t2 I g j=>by
  split at j
  ·rename_i a kk ek;obtain⟨a0,e,z3⟩:=gc j;obtain⟨yv,ev,q⟩:=ow z3;obtain⟨xs,e2,pr⟩:=I a _ e;obtain⟨xv,ex,rx⟩:=oA pr ev;exact⟨a,xv,U,.inl ⟨xs,kk,.inl e2,lT ek g,ex.symm⟩,k _ H2 _ L2 (r.trans t2) I rx q⟩
  ·exact j.elim⟩⟩
theorem gQ(hu:X.A.units+128<cLine)(ho:QE X o td)(hi:QE X i ti)(hv:QE X value tv)(hs:swapsWith value (some<|.Subscript o i fy) pos.line X.env=pure false:=by rfl):QS X (.Assign [.Subscript o i fy] value pos) (tE td ti tv):=
 EU (NE (by omega) ho hi hv hs) λD σ H l L D3 J rl z k=>
 ⟨l,L,_,J,rl,z,λv H1 vy L1 U p r z1=>⟨l,L1,_,J.ts U,p,z1,λx H2 xy L2 g t C z2=>⟨l,L2,_,J.ts<|U.trans g,t,z2,λw H3 y L3 T I a0 z3=>by
  split at z3
  ·rename_i a kk ek;obtain⟨a1,e,hl,q⟩:=gc z3;obtain⟨xs,e2,pr⟩:=I a _ e;have j:j5 H3 (upd H3 a<|.dK<|dr xs kk v):=j5.dct e2;cases (show x=V.ref a from C);refine⟨a,_,rfl,.inl ⟨xs,kk,e2,lT ek a0,by rw[<-pair_len pr];exact hl,rfl⟩,?_⟩;refine k.nx _ _ _ _ (((U.trans g).trans T).trans j) (J.ts<|((U.trans g).trans T).trans j) (λb u eb=>?_) q;by_cases c:b=a
   ·subst c;rw[q9] at eb;cases eb;exact⟨_,zq,ER (PV pr kk<|r.ts<|g.trans T) λ_ _ ψ=>(by obtain⟨h1,h2⟩:=ψ;exact ⟨h1,h2.ts j⟩)⟩
   ·rw[qc c] at eb;exact(I b u eb).keep j (qu c)
  ·exact z3.elim⟩⟩⟩
end
def F9(to ti tv:v4)(D:xw)(τ:jm)(L:ql):Prop:=tv τ L λv L1=>to τ L1 λx L2=>ti τ L2 λy L3=>match x,y with
 |.ref a,.int i=>cZ L3 a λys=>b_ L3 (λj L=>D.nx τ<|qe L a<|.lst<|ys.set j v)<|uj ys.length i
 |_,_=>False
section
variable {i:Expr}{ti tv:v4}
theorem qH(ho:QE X o to)(hi:QE X i ti)(hv:QE X value tv)
 (ha:∀v,assign (.Subscript o i fy) X.env v=(do
  let J <-holding [v] (eval o X.env)
  let p <-holding [v,J] (eval i X.env)
  standAt fy
  holding [v,J,p] (setItem J p v)
  release [v,J,p] []):=by intro _;rfl)
 (h1:swapsWithSole [.Subscript o i fy] value pos.line X.env=pure false:=by rfl) (h2:swappedStores [.Subscript o i fy] value X.env=pure none:=by rfl)
 (h3:(assignEach [.Subscript o i fy] X.env).map (·.2)=[assign (.Subscript o i fy) X.env]:=by rfl):QS X (.Assign [.Subscript o i fy] value pos) (F9 to ti tv):=
 EU (Hb hv (Mq ho hi N8 ha) h1 h2 h3) λD σ H t L D3 U rl z k=>
 ⟨t,L,_,U,rl,z,λv H1 vy L1 g C T z1=>⟨t,L1,_,U.ts g,C,z1,λx H2 xy L2 l a0 a1 z2=>⟨t,L2,_,U.ts<|g.trans l,a0,z2,λw H3 y L3 t3 I a2 z3=>by
  split at z3
  ·rename_i a ii;obtain⟨ys,e,z4⟩:=x5 z3;obtain⟨j,ej,q⟩:=ow z4;obtain⟨xs,e2,r⟩:=I a _ e;cases (show x=V.ref a from a1);cases (show w=V.int ii from a2);have tt:j5 H3 (upd H3 a<|.lst<|xs.set j v):=E4 e2;exact⟨a,xs,ii,j,rfl,rfl,e2,by rw[<-r.length];exact ej,k.nx _ _ _ _ (((g.trans l).trans t3).trans tt) (U.ts<|((g.trans l).trans t3).trans tt) (I.setL e2<|xj.setY (T.ts<|l.trans t3) j r) q⟩
  ·exact z3.elim⟩⟩⟩
end
end L3
namespace L2
open PySem PySem.Spec PyProof.Rows
section
variable {v₁ v₂:Expr}{te:TE}{u:Str->TE}
end
end L2
namespace L3
open PySem L2
section
variable {v₁ v₂:Expr}{u:Str->v4}
end
@[irreducible] def vQ (L:ql) (a:Addr) (k:Addr->List (Str×Y)->Prop):Prop:=match L a with
 |some (.ins C fs)=>k C fs
 |_=>False
theorem k8{a:Addr}{fs:List<|Str×Y}{k:Addr->List (Str×Y)->Prop}(e:L a=some (.ins C fs))(h:k C fs):vQ L a k:=by unfold vQ;rw[e];exact h
theorem mK{a:Addr}{k:Addr->List (Str×Y)->Prop}(h:vQ L a k):∃C fs,L a=some (.ins C fs)/\k C fs:=by
 unfold vQ at h;split at h
 ·rename_i C fs e;exact⟨C,fs,e,h⟩
 ·exact h.elim
abbrev Fp(G:G3)(H:Hp):List (Str×Y)->List (Str×V)->Prop:=Paired λ(p:Str×Y) (q:Str×V)=>p.1=q.1/\RV G H p.2 q.2
theorem PY{fs:List<|Str×Y}{xs:List<|Str×V}(p:Fp G H fs xs){f:Str}(h:fs.lookup f=some y):∃v,xs.lookup f=some v/\RV G H y v:=by
 induction p with
 |nil=>cases h
 |@cons a b _ _ r t J=>
  obtain⟨I,j⟩:=a;obtain⟨U,g⟩:=b;obtain⟨e,r⟩:=r;cases (show I=U from e);rw[Bh] at h ⊢;cases c:(f==I) with
  |true=>rw[c] at h;cases h;exact⟨g,rfl,r⟩
  |false=>rw[c] at h;exact J h
theorem PZ{fs:List<|Str×Y}{xs:List<|Str×V}(p:Fp G H fs xs){f:Str}(h:fs.lookup f=none):xs.lookup f=none:=by
 induction p with
 |nil=>rfl
 |@cons a b _ _ r t J=>
  obtain⟨I,g⟩:=a;obtain⟨U,j⟩:=b;obtain⟨e,r⟩:=r;cases (show I=U from e);rw[Bh] at h ⊢;cases c:(f==I) with
  |true=>rw[c] at h;cases h
  |false=>rw[c] at h;exact J h
def xV(f:Str)(y:Y):List (Str×Y)->List (Str×Y)
 |[]=>[(f,y)]
 |(g,x)::r=>if g=f then(g,y)::r else(g,x)::xV f y r
theorem P0{fs:List<|Str×Y}{xs:List<|Str×V}(p:Fp G H fs xs)(f:Str){v:V}(r:RV G H y v):Fp G H (xV f y fs) (dA f v xs):=by
 induction p with
 |nil=>exact .cons ⟨rfl,r⟩ .nil
 |@cons a b _ _ J t U=>
  obtain⟨I,j⟩:=a;obtain⟨g,l⟩:=b;obtain⟨e,q⟩:=J;cases (show I=g from e);unfold xV dA;by_cases c:I=f
  ·rw[AC c,AC c];exact .cons ⟨rfl,r⟩ t
  ·rw[AB c,AB c];exact .cons ⟨rfl,q⟩ U
theorem j5.ins{p:Addr}{zs:List<|Str×V}{o:HO}(h:H p=some (.ins C dx zs)):j5 H (upd H p o):=λa u i q=>by rw[qu ?_];exact q;rintro rfl;rw[h] at q;cases q;cases i
def u9(K:Aj)(f:Str)(te:v4)(τ:jm)(L:ql)(Q:YK):Prop:=te τ L λx L1=>match x with
 |.ref a=>vQ L1 a λC fs=>Cls K C/\NoAttr K C f/\b_ L1 Q (fs.lookup f)
 |_=>False
def Iv(K:Aj)(f:Str)(to tv:v4)(D:xw)(τ:jm)(L:ql):Prop:=tv τ L λv L1=>to τ L1 λx L2=>match x with
 |.ref a=>vQ L2 a λC fs=>Cls K C/\NoAttr K C f/\fs.length<1000/\D.nx τ (qe L2 a<|.ins C<|xV f v fs)
 |_=>False
def F_(C:Addr)(sp:zc)(t:fg)(τ:jm)(L:ql)(Q:YK):Prop:=t τ L λys L1=>∀x,L1 x=none->sp (.ref x::ys) (qe L1 x<|.ins C []) λv L2=>v=.non/\Q (.ref x) L2
section
variable {tv:v4}{p:Pos}{f m:Str}{g:Addr}
theorem i6(h:QE X e te)(j:attributeBase e f X.env (eval e X.env)=eval e X.env:=by rfl):QE X (.Attribute e f pos) (u9 X.K f te):=EO (Ni h j) λσ H Q l L Q3 o p z k=>
 ⟨l,L,_,o,p,z,λv r y t T I J U=>by
  split at U
  ·rename_i a;obtain⟨C,fs,e,c,n,z2⟩:=mK U;obtain⟨y,ey,q⟩:=ow z2;obtain⟨dx,xs,e2,pr⟩:=I a _ e;obtain⟨w,ew,g⟩:=PY pr ey;exact⟨a,C,dx,xs,w,J,e2,c,n,ew,k _ r _ t T I g q⟩
  ·exact U.elim⟩
theorem P1(ho:QE X o to)(hv:QE X value tv)(hs:swapsWith value (some<|.Attribute o f fy) pos.line X.env=pure false:=by rfl):QS X (.Assign [.Attribute o f fy] value pos) (Iv X.K f to tv):=EU (Nj ho hv hs) λD σ H τ L D3 U rl z k=>
 ⟨τ,L,_,U,rl,z,λv H1 vy L1 g j l z1=>⟨τ,L1,_,U.ts g,j,z1,λw H2 y L2 p I r t=>by
  split at t
  ·rename_i a;obtain⟨C,fs,e,c,n,hl,q⟩:=mK t;obtain⟨T,xs,e2,pr⟩:=I a _ e;have J:j5 H2 (upd H2 a<|.ins C T<|dA f v xs):=j5.ins e2;refine⟨a,C,T,xs,r,e2,c,n,by rw[<-pair_len pr];exact hl,k.nx _ _ _ _ ((g.trans p).trans J) (U.ts<|(g.trans p).trans J) (λb u eb=>?_) q⟩;by_cases cc:b=a
   ·subst cc;rw[q9] at eb;cases eb;exact⟨T,_,zq,ER (P0 pr f<|l.ts p) λ_ _ ψ=>(by obtain⟨h1,h2⟩:=ψ;exact ⟨h1,h2.ts J⟩)⟩
   ·rw[qc cc] at eb;exact(I b u eb).keep J (qu cc)
  ·exact t.elim⟩⟩
theorem P2{k:Nat}(M:Mk X.K C g)(F:Fn3 X.prog X.w X.K X.mg X.base k g fd ps sp)(hr:vo (k+1) X.A)(hg:Gl X x)(hm:X.mg x=some (.ref C))(hb:aB X.K fd ps [])(ha:QA X (e::es) tr)
 (l:Fe x:=by decide) (he:Fb e es X:=by rfl) (o:Fc pos es X:=by rfl):
 QE X (.Call (.Name x p) (e::es) [] pos) (F_ C sp tr):=EO (Nw M F hr hg hm hb .nil FU ha l he o) λσ H Q τ L Q3 rs rl z k=>
 ⟨τ,L,_,rs,rl,z,λvs U ys L1 t1 I r z1=>λx J hx j ne=>by
  have ta:j5 U (upd U J<|.own x):=EN j;have t:upd U J (.own x) x=none:=by rw[qu<|A4 ne];exact hx
  have T:j5 U (upd (upd U J<|.own x) x<|.ins C J []):=ta.trans<|EN t;refine⟨.ref x::ys,qe L1 x<|.ins C [],_,⟨.ref x,vs++[],by simp,rfl,by rw[AE];exact r.ts T⟩,λb u eb=>?_,z1 x<|I.none hx,λv H2 y L2 t2 a0 a1 ⟨ev,q⟩=>?_⟩
  ·by_cases cc:b=x
   ·subst cc;rw[q9] at eb;cases eb;exact⟨J,[],zq,.nil⟩
   ·rw[qc cc] at eb;have nd:b≠J:=λz=>by obtain⟨w,ew⟩:=(I b u eb).ex;rw[z,j] at ew;cases ew
    exact(I b u eb).keep T (by rw[qu cc,qu nd])
  ·subst ev;exact⟨a1,k _ H2 _ L2 (t1.trans<|T.trans t2) a0 (by rfl) q⟩⟩
end
open PySem.AutoSeq1 (wpAny_loadPart')
open MeetsSeq MeetsSeq2 MeetsSeq3 SeqRoads2
end L3
namespace Txs
open PySem PySem.Builtin.Str
theorem len_list(x:Str):x.cps.toList.length=x.length:=by simp[Str.length]
end Txs
namespace L2
open PySem PySem.Spec PyProof.Rows
section
variable {isp imk c j1 j2:Nat}{sp mk:Str}{u:Tok}{m:Str->Option Value}{p6 p7 p8 p9 p10:Pos}{Q:Flow->Shared->Prop}
end
end L2
namespace L2
open PySem PySem.Spec PyProof.Rows
end L2
namespace L3
open PySem L2
def kJ(s:Stmt):List Stmt:=match s with
 |.ClassDef _ _ _ b _ _ _ _ _ _ _=>b
 |_=>[]
structure yS(P:Program)(w:World)(K:Aj)(mg:Str->Option Value)(base:Heap)(k:Nat)(C:Addr)(m:Str)(ps:List Str)(sp:zc):Prop where
 ex:∃g fd,DP K C m g/\Fn3 P w K mg base k g fd ps sp/\aB K fd ps []
structure ae3(P:Program)(w:World)(K:Aj)(mg:Str->Option Value)(base:Heap)(k:Nat)(C:Addr)(ps:List Str)(sp:zc):Prop where
 ex:∃g fd,Mk K C g/\(∃j,k=j+1/\Fn3 P w K mg base j g fd ps sp)/\aB K fd ps []
theorem yS.mono{P:Program}{w:World}{K:Aj}{k:Nat}{m:Str}(c:yS P w K mg base j C m ps sp)(h:j<=k):yS P w K mg base k C m ps sp:=by obtain⟨g,fd,M,F,b⟩:=c.ex;exact⟨g,fd,M,F.mono h,b⟩
theorem ae3.mono{P:Program}{w:World}{K:Aj}{k:Nat}(c:ae3 P w K mg base j C ps sp)(h:j<=k):ae3 P w K mg base k C ps sp:=by obtain⟨g,fd,M,⟨i,e,F⟩,b⟩:=c.ex;subst e;exact⟨g,fd,M,⟨k-1,by omega,F.mono (by omega)⟩,b⟩
section
variable {p:Pos}{m:Str}{k:Nat}
theorem P4(ci:ae3 X.prog X.w X.K X.mg X.base k C ps sp)(U:vo k X.A)(l:Gl X x)(o:X.mg x=some (.ref C))(r:QA X (e::es) tr)
 (I:Fe x:=by decide) (t:Fb e es X:=by rfl) (J:Fc pos es X:=by rfl):
 QE X (.Call (.Name x p) (e::es) [] pos) (F_ C sp tr):=by
 obtain⟨g,fd,M,⟨j,T,F⟩,b⟩:=ci.ex;subst T;exact P2 M F U l o b r I t J
end
structure cr(K:Aj)(C:Addr)(x eA:Str)(st:Stmt):Prop where
 ex:∃(f:Addr) (kV hE pm:Value) (an:Option Addr) (eK ct:Value),PySem.W.findIn K (.ref C) x=some (some<|.ref f)/\PySem.W.isFn K (.ref f)=true/\Fun K x eA st f (PySem.W.fnOf x eA (jy st) (j7 st) (qo st) .none kV hE pm an eK ct)
theorem meth_in{K:Aj}{f:Addr}{kV ct:Value}(a:PySem.W.findIn K (.ref C) x=some (some<|.ref f))
 (l:K.lookup f=some ⟨oc,od,.func<|PySem.W.fnOf x eA (jy st) (j7 st) (qo st) .none kV hE pm an eK ct,mv⟩) (c:PySem.W.codeIn K eK eA=true) (k:PySem.W.keepIn K (.ref f)=true) (i:PySem.W.isFn K (.ref f)=true):cr K C x eA st:=
 ⟨f,kV,hE,pm,an,eK,ct,a,i,Hu (st:=st) l c k⟩
theorem cr.use{K:Aj}(D:cr K C x eA st)
 (I:∀(kV hE pm:Value) (an:Option Addr) (eK ct:Value) (us:List Value),us.length=ps.length->bindArgs (PySem.W.fnOf x eA (jy st) (j7 st) (qo st) .none kV hE pm an eK ct) ⟨us,[]⟩=pure (ps.zip us)):
 ∃f fd,Fun K x eA st f fd/\aB K fd ps []/\DP K C x f:=by
 obtain⟨f,kV,hE,pm,an,eK,ct,a,i,F⟩:=D.ex;exact⟨f,_,F,aB.all<|I kV hE pm an eK ct,⟨a,i,F.kp⟩⟩
end L3
namespace L2
open PySem PySem.Spec PyProof.Rows
section
variable {te:TE}
end
end L2
namespace L3
open PySem L2
end L3
namespace L2
open PySem PySem.Spec PyProof.Rows
section
variable {a T:Addr}{tr:Option Addr}
end
section
variable {T:List Str}{g:TG}{tc:TT}{te:TE}
end
section
variable {a b T:Addr}{tr:Option Addr}{E1:X1}
end
section
variable {k:Nat}{f:Addr}{sp:Sp}{E1:X1}{p:Pos}
end
end L2
namespace L3
open PySem L2
section
variable {T:List Str}{wi:n_}{E3:X3}{Ea:Addr->ql->Prop}
end
end L3
namespace L2
open PySem PySem.Spec PyProof.Rows
end L2
namespace L2
open PySem PySem.Spec PyProof.Rows
section
variable {w:World}
theorem se{it t:Addr}{eH:Array Value}(I:t≠it):∀(n i:Nat) (s:Shared) (Q:List Value->Shared->Prop),s.heap.IsListIter it t i->s.heap.IsList t eH->i+n<=eH.size->
 (∀h',h'.IsListIter it t (i+n)->Heap.SameBut it s.heap h'->Q ((eH.toList.drop i).take n) { s with heap:=h' })->wpAny (model prog w) A (draw (.ref it) n) Q E s
 |0,i,s,Q,hit,_,_,g=>by unfold draw;exact An (by simpa using g s.heap hit (Heap.SameBut.refl ..))
 |n+1,i,s,Q,hit,p,r,g=>by
  have J:i<eH.size:=by omega
  unfold draw;refine Aa<|wpAny_pyNext_list_item hit p (x:=eH[i]) (by simp[J]) λg1 j U=>?_;refine Aa<|A6<|se I n (i+1) _ _ j (p.extBut U.extBut I) (by lia) λg2 l o=>An ?_;have e:eH.toList.drop i=eH[i]::eH.toList.drop (i+1):=by simp[CY,J]
  have q:=g g2 (by rw[show i+(n+1)=i+1+n by simp +arith only];exact l)
   (U.trans o)
  rw[e,List.take_succ_cons] at q;exact q
theorem P5{t:Addr}{eH:Array Value}{Q:Unit->Shared->Prop}(T:A.handled=none)(I:s.heap.IsList t eH)(hn:(assignEach li env).length=eH.size)(j:(assignEach li env).findIdx? (·.1)=none)
 (h:∀g,Heap.ExtBut s.heap.objs.size s.heap g->wpAny (model prog w) A (assignInOrder ((assignEach li env).map (·.2)) eH.toList) Q E { s with heap:=g }):wpAny (model prog w) A (assign (.Tuple li x1 pos) env<|.ref t) Q E s:=by
 have J:t≠s.heap.objs.size:=by obtain⟨o,ho,_⟩:=I;exact A5<|pj ho
 rw[arm_assign_Tuple];refine Aa<|wpAny_standAt ?_;unfold unpack;rw[hn,j];refine Aa<|A6 ?_;unfold unpackItems notIterableAtAll;refine Aa<|Aa<|wpAny_specialOf I.typeIs slot_list_iter.lookup ?_;refine An ?_;rw[AB (by simp)];refine Aa<|A6<|wpAny_pyIter_list I ?_;refine Aa<|A6<|se J eH.size 0 _ _ ⟨_,pR _ rfl,rfl,rfl⟩ (I.push _) (by simp +arith only) λg1 l U=>?_;have all:List.take eH.size (List.drop 0 eH.toList)=eH.toList:=by rw[DA];exact AZ (by simp)
 rw[all,AB (by simp)];have p:g1.IsList t eH:=(I.push _).extBut U.extBut J;refine Aa<|A6<|wpAny_pyNext_list_end T l p (by simp) λg2 r=>?_;rw[AB (by simp)];exact An<|h g2 λb o C e=>r b o C<|U.extBut b o C<|oe _ e
end
def P6(K:Aj)(n:Nat)(t:d_):TG:=λv σ H Q=>∃a xs,v=.ref a/\wr K H a xs/\xs.length=n/\t xs σ H Q
theorem P7{k:Nat}{t:d_}(hc:X.calm=true)(h:PGs X es t)
 (l:(assignEach es X.env).length=n:=by rfl) (U:(assignEach es X.env).findIdx? (·.1)=none:=by rfl):PG X (.Tuple es k pos) (P6 X.K n t):=by
 intro J s g H v u Q I r hw;obtain⟨a,p,C,T,hl,hw⟩:=hw;subst C;cases r;obtain⟨a0,j,pl,hz⟩:=I.list T;have ht:=jc pl;refine P5 (I.ok.hd hc) ht (by simp[l,<-hl,j.length]) U λh' hx=>?_;have I1:z8 X J g H { s with heap:=h' }:=I.kept (t':=s.toks) λb o e=>hx b o (A5<|pj e) e;exact h J _ g H p _ Q I1 (by simpa using j) hw
theorem P8(l:Addr)(eH:Array Value)(n:Nat)(x:Value)(b:Nat->Bool)(j:Nat)(C:j<eH.size)(hit:b j=true)(hz:eH.size<=sizeLine):∀(k i:Nat),j-i=k->i<=j->(∀m,i<=m->m<j->b m=false)->
 Meets (Builtin.«list.remove.loop» ⟨[.ref l,x,rawInt i],[]⟩) (λA R s=>s.heap.get? l=some { cls:=.type "list",dict:=none,data:=.seq eH n,slots:=#[] }/\(∀m (hm:m<eH.size),SeqAt.EqAt A.in1 s eH[m] x<|b m)/\R (.ok<|.ret .none) { s with heap:=s.heap.update l (Obj.mapSeq λxs=>xs.eraseIdxIfInBounds j) }):=by
 intro k
 induction k with
 |zero=>
  intro i T p J I w A R s h;obtain⟨hp,g,d,tk,os⟩:=s;obtain⟨U,eq,h⟩:=h;have e:i=j:=by lia
  subst e
  (wp_walk using wpAny_loadPart' U)
  have r:eH[((i:Nat):Int).toNat]?=some eH[i]:=by simp[C]
  rw[r];refine Aa<|eq i C I w _ _ ?_;rw[hit];have t:(eH.eraseIdxIfInBounds i).size<=sizeLine+1:=AN (MeetsSeq.size_erased eH _)<|B1 hz
  (wp_walk using (wpAny_updateSeq U rfl (hz:=hz) (_hz':=t)),wpAny_loadPart' U)
  simpa using h
 |succ k ih=>
  intro i T p J I w A R s h;obtain⟨hp,g,d,tk,os⟩:=s;obtain⟨U,eq,h⟩:=h;have o:i<eH.size:=by exact i9
  (wp_walk using wpAny_loadPart' U)
  have r:eH[((i:Nat):Int).toNat]?=some eH[i]:=by simp[o]
  have hc:((i:Int)+1)=((i+1:Nat):Int):=by rfl
  rw[r];refine Aa<|eq i o I w _ _ ?_;rw[J i (Ap _) (by omega)]
  wp_walk
  rw[hc];refine⟨plainId_quiet sy _,codeAny_builtin MeetsSeq.entry_remove_loop ?_⟩;rw[Around.under_plainId sy _];exact ih (i+1) (by omega) (by omega) (λm h1 h2=>J m (by exact iK) h2) I w A R _ ⟨U,eq,h⟩
theorem P9(l:Addr)(eH:Array Value)(n:Nat)(x:Value)(b:Nat->Bool)(j:Nat)(o:j<eH.size)(hit:b j=true)(hz:eH.size<=sizeLine)(J:∀m,m<j->b m=false):
 Meets (Builtin.«list.remove» ⟨[.ref l,x],[]⟩) (λA R s=>s.heap.get? l=some { cls:=.type "list",dict:=none,data:=.seq eH n,slots:=#[] }/\(∀m (r:m<eH.size),SeqAt.EqAt A.in1 s eH[m] x<|b m)/\R (.ok<|.ret .none) { s with heap:=s.heap.update l (Obj.mapSeq λxs=>xs.eraseIdxIfInBounds j) }):=by
 intro I w A R s h;obtain⟨t,g,d,C,os⟩:=s;obtain⟨U,eq,h⟩:=h
 (wp_walk using wpAny_loadPart' U)
 refine⟨plainId_quiet sy _,codeAny_builtin MeetsSeq.entry_remove_loop ?_⟩;rw[Around.under_plainId sy _];exact P8 l eH n x b j o hit hz _ 0 rfl (A3 _) (λm _ p=>J m p) I w A R _ ⟨U,eq,h⟩
theorem zn.eraseN:∀{xs:List V} {us:List Value} (n:Nat),zn xs us->zn (xs.eraseIdx n) (us.eraseIdx n)
 |[],_,n,.nil=>by simp;exact .nil
 |_::_,_,0,.cons _ t=>t
 |_::_,_,n+1,.cons r t=>.cons r<|zn.eraseN n t
def P_(X:Cx):V->List V->Hp->VK->Prop:=λx vs H Q=>∃l xs y ds e,∃n m j:Nat,x=.ref l/\vs=[y]/\H l=some (.lst xs)/\n<=126/\Paired (xz X.K H n) xs ds/\xz X.K H m y e/\j<ds.length/\(∃d,ds[j]?=some d/\Da.eq d e=true)/\
 (∀(k:Nat) d,k<j->ds[k]?=some d->Da.eq d e=false)/\Q .non (upd H l<|.lst<|xs.eraseIdx j)
theorem yt(hu:X.A.units+128<cLine):mO X "list.remove" (P_ X):=by
 intro a4 s σ H x vs v us Q I rx rv h;obtain⟨l,o,y,g,e,n,m,j,rfl,rfl,hH,hn,pd,ry,hj,⟨dj,t,C⟩,T,q⟩:=h;cases rx;obtain⟨u,rfl,ru⟩:=rv.one;obtain⟨z,J,nn,r,hl,eo⟩:=I.lstM hH;have l1:o.length=g.length:=pd.length;have l2:J.length=o.length:=r.length.symm;obtain⟨arr,U⟩:∃arr:Array Value,arr=J.toArray:=⟨_,rfl⟩;have a0:arr.size=J.length:=by rw[U,Ar]
 have b:Nat->Bool:=λ_=>true;have a1:arr.size<=sizeLine:=by rw[a0];lia
 have M:=P9 l arr nn u (λk=>((g[k]?).map λd=>Da.eq d e).getD false) j (by lia) (by show((g[j]?).map λd=>Da.eq d e).getD false=true;rw[t];exact C) a1 (λk p=>by show((g[k]?).map λd=>Da.eq d e).getD false=false;cases ek:g[k]? with|none=>rfl|some d=>exact T k d p ek)
 rw[U] at M;refine call_meets F.slot_list_remove ⟨_,eo,rfl⟩ F.entry_list_remove (F.args_list_remove_2 _ _) M ⟨eo,λk p=>?_,?_⟩
 ·have a5:k<J.length:=by rw[Ar] at p;exact p
  obtain⟨d,ed,rd⟩:=Words.Paired.getP pd<|Al (by lia:k<o.length);show SeqAt.EqAt _ s _ u (((g[k]?).map λd=>Da.eq d e).getD false);rw[ed];obtain⟨u',a2,a3⟩:=Words.Paired.getP r<|Al (by lia:k<o.length);have eg:J.toArray[k]=u':=by have:=(AS.mp a2).2;simpa using this
  rw[eg];exact iO I n (by show X.A.units+1+n<cLine;lia) rd ry a3 ru
 ·refine⟨.non,_,I.lset (its':=J.eraseIdx j) hH eo ?_ (r.eraseN j) ?_,rfl,q⟩
  ·have:j<J.length:=by lia
   simp[Array.eraseIdxIfInBounds,this]
  ·have:=Dd o j;exact FV
end L2
namespace L3
open PySem L2
def Iw(n:Nat)(t:rm)(y:Y)(τ:jm)(L:ql)(Q:jm->ql->Prop):Prop:=match y with
 |.ref a=>cZ L a λys=>match ys.length==n with
  |true=>t ys τ L Q
  |false=>False
 |_=>False
theorem P'{U:Nat}(hc:X.calm=true)(h:Ep X es gs)(h1:(assignEach es X.env).length=n:=by rfl)(h2:(assignEach es X.env).findIdx? (·.1)=none:=by rfl):QG X (.Tuple es U pos) (Iw n gs):=
 PG.imp (P7 hc h h1 h2) λv σ H Q ψ=>by
 obtain⟨y,g,L,j,l,o,J,z,k⟩:=ψ
 cases y with
 |ref a=>
  cases (show v=.ref a from l);obtain⟨p,e,I⟩:=x5 z;obtain⟨t,C,r⟩:=J a _ e;split at I
  ·rename_i T;exact⟨a,t,rfl,E9 C,by rw[<-r.length];exact beq_iff_eq.mp T,p,g,L,j,r,o,J,I,k⟩
  ·exact I.elim
 |_=>exact z.elim
def kF(x:Y)(vs:List Y)(L:ql)(Q:YK):Prop:=match x,vs with
 |.ref a,[v]=>cZ L a λys=>∃ds e,∃n m j:Nat,n<=126/\Paired (jj L n) ys ds/\jj L m v e/\j<ds.length/\(∃d,ds[j]?=some d/\Da.eq d e=true)/\(∀(k:Nat) d,k<j->ds[k]?=some d->Da.eq d e=false)/\Q .non (qe L a<|.lst<|ys.eraseIdx j)
 |_,_=>False
theorem Qa(C:X.A.units+128<cLine):mO X "list.remove" (o_ X.g3 kF):=mO.imq (yt C) λx I H Q y U L Q3 T r2 g z k=>by
 unfold kF at z;split at z
 ·rename_i a v;obtain⟨zs,e,J,de,n,m,j,hn,pd,dv,hj,hit,l,z⟩:=x5 z;obtain⟨us,o,r⟩:=g a _ e;obtain⟨v',rfl,rv⟩:=r2.inv1;have both:∀{U:List Y} {J:List Da} {I:List V},Paired (jj L n) U J->xj X.g3 H U I->Paired (xz X.K H n) I J:=by
   intro U J I p
   induction p generalizing I with
   |nil=>intro q;cases (show I=[] from q);exact .nil
   |cons h t ih=>
    rintro⟨x,a0,rfl,q1,q2⟩;exact .cons (jj.rep g h q1)<|ih q2
  exact⟨a,us,v',J,de,n,m,j,T,rfl,o,hn,both pd r,jj.rep g dv rv,hj,hit,l,k _ _ _ _ (E4 o) (g.setL o<|r.eraseIdx j) (by rfl) z⟩
 ·exact z.elim
theorem y7(I:X.A.units+128<cLine)(J:QE X o to)(U:QA X (e::es) tr)(g:attributeBase o "remove" X.env (eval o X.env)=eval o X.env:=by rfl)
 (j:((backTo ft<|starEach (e::es) X.env).all (λx=>!x.1)&&(backToKw ft<|keywordEach [] X.env).all (λx=>x.1.isSome)&&decide ((e::es).length+([]:List Keyword).length+(if ([]:List Keyword).isEmpty=true then 0 else 1)<30))=true:=by rfl)
 (l:(apos.endLine==ft.line)=true:=by rfl) (p:Fb e es X:=by rfl) (r:Fc ft es X:=by rfl):
 QE X (.Call (.Attribute o "remove" apos) (e::es) [] ft) (uz kF to tr):=qP PySem.F.slot_list_remove PySem.F.type_list_remove (Qa I) J U g j l p r
end L3
namespace L2
open PySem PySem.Spec PyProof.Rows
end L2
namespace L2
open PySem PySem.Spec PyProof.Rows
def Qb:List V->Hp->VK->Prop:=λxs H Q=>∃n:Int,xs=[.int n]/\∀p,H p=none->Q (.ref p) (upd H p<|.rng 0 n)
theorem Qc:jo X (.type "range") Qb:=by intro J s g H j l Q I r h;obtain⟨n,rfl,q⟩:=h;obtain⟨u,rfl,U⟩:=r.one;obtain⟨t,rfl⟩:=(show ∃t,u=Value.int n t from U);refine call_range_1 ?_;refine⟨.ref s.heap.objs.size,_,I.laid (t':=s.toks+1+1) (o:=.rng 0 n) (λb p q=>oe _ q) (Ap _) ?_,rfl,q _<|I.hok.fresh<|Ap _⟩;exact⟨s.toks,t,s.toks+1,pR _ rfl⟩
theorem uL{I:Array Value}(h:ItemsOf (λi v=>∃t,v=.int (0+(i:Int)*1) t) I n):zn ((List.range n).map λi:Nat=>V.int<|0+(i:Int)) I.toList:=by
 have len:I.toList.length=n:=by rw[A2];exact h.1
 have key:∀(l:List Value) (k:Nat),(∀(j:Nat) v,l[j]?=some v->∃t,v=Value.int (0+((k+j:Nat):Int)*1) t)->zn ((List.range' k l.length).map λi:Nat=>V.int<|0+(i:Int)) l:=by
  intro l
  induction l with
  |nil=>intro k _;exact .nil
  |cons v r g=>
   intro k U;rw[AK,Ed,AG];obtain⟨t,e⟩:=U 0 v rfl;refine .cons ?_<|g (k+1) λj o J=>?_
   ·exact⟨t,by rw[e];simp⟩
   ·have:=U (j+1) o J;rw[show k+1+j=k+(j+1) by simp +arith only];exact this
 have:=key I.toList 0 λj v J=>by rw[Dw];exact h.2 j v (by simpa using J)
 rw[len,<-List.range_eq_range'] at this;exact this
def Qd:List V->Hp->VK->Prop:=λxs H Q=>∃a,∃n:Nat,xs=[.ref a]/\H a=some (.rng 0 n)/\n<=100000/\∀p,H p=none->Q (.ref p) (upd H p<|.lst ((List.range n).map λi:Nat=>V.int<|0+(i:Int)))
theorem Qe(hc:X.calm=true):jo X (.type "list") Qd:=by
 intro g s σ H xs us Q I r h;obtain⟨a,n,rfl,j,l,q⟩:=h;obtain⟨u,rfl,p⟩:=r.one;cases (show u=Value.ref a from p);obtain⟨t,u,v,e⟩:=I.hok a _ j;have hb:(100000:Nat)<=sizeLine:=by decide
 have C:Builtin.Range.rangeSize 0 (n:Int) 1=((n:Nat):Int):=by rw[rangeSize_one];split<;>lia
 refine jt I.tk<|call_list_range (I.ok.hd hc) (show IsRange s.heap a 0 (n:Int) 1 t u v from e) (small_one (by decide) (by decide) (by exact AU _) (by omega)) C (AN l (by decide)) λh' T U c hk hS J ht=>?_;refine⟨.ref s.heap.objs.size,_,I.laid (t':=T) (o:=.lst ((List.range n).map λi:Nat=>V.int<|0+(i:Int))) hk (Ap _) ?_,rfl,q _<|I.hok.fresh<|Ap _⟩;refine⟨by rw[Ah,A7];exact FV,U.toList,c,uL J,?_⟩;rw[hS]
end L2
namespace L3
open PySem L2
theorem Qf:bootBuiltins "range"=some (.type "range"):=by decide +kernel
def kY(te:v4)(τ:jm)(L:ql)(Q:YK):Prop:=te τ L λy L1=>match y with
 |.int n=>(0<=n/\n<=100000)/\∀p,L1 p=none->Q (.ref p) (qe L1 p<|.lst<|aA 0 n.toNat)
 |_=>False
theorem Qg(n:Nat):xj G H (aA 0 n) ((List.range n).map λi:Nat=>V.int<|0+(i:Int)):=by
 unfold aA;generalize List.range n=l
 induction l with|nil=>rfl|cons k r I=>exact⟨_,_,rfl,rfl,I⟩
theorem lH{p I:Pos}(hc:X.calm=true)(T:Gl X "list")(hm:X.mg "list"=none)(j:Gl X "range")(l:X.mg "range"=none)(h:QE X e te)
 (h1:starEach [.Call (.Name "range" p2) [e] [] I] X.env=(false,eval (.Call (.Name "range" p2) [e] [] I) X.env)::starEach [] X.env:=by rfl) (h2:(backTo pos<|starEach [] X.env).any (·.1)=false:=by rfl)
 (C:starEach [e] X.env=(false,eval e X.env)::starEach [] X.env:=by rfl) (h4:(backTo I<|starEach [] X.env).any (·.1)=false:=by rfl):
 QE X (.Call (.Name "list" p) [.Call (.Name "range" p2) [e] [] I] [] pos) (kY te):=
 EO (iY (Qe hc) T hm aa (fH (iY Qc j l Qf (fH h kW C) (by decide) (by decide) C h4) kW h1) (by decide) (by decide) h1 h2) λσ H Q τ L Q3 rs rl z k=>
 ⟨τ,L,_,rs,rl,z,λv H1 y L1 t1 J o U=>by
  cases y with
  |int n=>
   obtain⟨⟨h0,h5⟩,U⟩:=U;cases (show v=V.int n from o);obtain⟨m,rfl⟩:∃m:Nat,n=(m:Int):=⟨n.toNat,by lia⟩;refine⟨_,rfl,λq r=>⟨q,m,rfl,zq,by lia,λp g=>?_⟩⟩;have t:H1 p=none:=by
    by_cases c:p=q
    ·subst c;exact r
    ·rw[qu c] at g;exact g
   exact k _ _ _ _ (t1.trans<|(EN r).trans<|EN g) ((J.skip r).newL g<|Qg m) (by rfl) (U p<|J.none t)
  |_=>exact U.elim⟩
def hW(C:Addr)(m:Str)(sp:zc)(to:v4)(t:fg)(τ:jm)(L:ql)(Q:YK):Prop:=to τ L λx L1=>match x with
 |.ref a=>vQ L1 a λI fs=>I=C/\fs.lookup m=none/\t τ L1 λys L2=>sp (.ref a::ys) L2 Q
 |_=>False
section
variable {m:Str}{g:Addr}
theorem Qh{pl:Sem Bool}{k:Nat}(ho:QE X o to)(c:Cls X.K C)(hm:DP X.K C m g)(F:Fn3 X.prog X.w X.K X.mg X.base k g fd ps sp)(hr:vo k X.A)(hb:aB X.K fd ps [])(ha:QA X (e::es) tr)
 (J:Fb e es X:=by rfl) (U:Fc pos es X:=by rfl)
 (ht:eval (.Call (.Attribute o m apos) (e::es) [] pos) X.env=(do
  let t <-eval o X.env
  standAt apos.atName
  let (f,first) <-holding [t] (getMethod t m pl)
  callWith pos f first (backTo pos<|starEach (e::es) X.env) (backToKw pos<|keywordEach [] X.env)):=by rfl):
 QE X (.Call (.Attribute o m apos) (e::es) [] pos) (hW C m sp to tr):=E5 (Nu (pl:=pl) ho c hm F hr hb .nil FU ha J U ht) λσ H Q ⟨T,L,Q3,rs,rl,z,k⟩=>
 ⟨T,L,_,rs,rl,z,λv H1 y L1 t1 I j l=>by
  split at l
  ·rename_i a;obtain⟨C',fs,e,ec,n,q⟩:=mK l;subst ec;obtain⟨dx,xs,e2,pr⟩:=I a _ e;cases (show v=V.ref a from j);exact⟨a,dx,xs,rfl,e2,PZ pr n,T,L1,_,rs.ts t1,I,q,λvs H2 ys L2 t2 p r z2=>⟨.ref a::ys,L2,Q3,⟨.ref a,vs++[],rfl,rfl,by rw[AE];exact r⟩,p,z2,k.ts<|t1.trans t2⟩⟩
  ·exact l.elim⟩
theorem vV{pl:Sem Bool}{k:Nat}(j:yS X.prog X.w X.K X.mg X.base k C m ps sp)(l:vo k X.A)(c:Cls X.K C)(p:QE X o to)(r:QA X (e::es) tr)
 (I:Fb e es X:=by rfl) (J:Fc pos es X:=by rfl)
 (t:eval (.Call (.Attribute o m apos) (e::es) [] pos) X.env=(do
  let U <-eval o X.env
  standAt apos.atName
  let (f,first) <-holding [U] (getMethod U m pl)
  callWith pos f first (backTo pos<|starEach (e::es) X.env) (backToKw pos<|keywordEach [] X.env)):=by rfl):
 QE X (.Call (.Attribute o m apos) (e::es) [] pos) (hW C m sp to tr):=by
 obtain⟨g,fd,M,F,b⟩:=j.ex;exact Qh (pl:=pl) p c M F l b r I J t
end
end L3
namespace TS
open PySem PyProof.Rows
def Qi:Bool->Keyed->Array Keyed->Nat->Nat->Nat->StateT SortSt Sem (Option Nat):=sortPriv% PySem.Builtin.gallop
section
variable {w:World}
structure Ord(prog:Program)(w:World)(A:Around)(s:Shared)(κ:SortKind)(Ok:Keyed->Prop)(f:Keyed->Int):Prop where
 lt:∀x y,Ok x->Ok y->∀{E:Value->Shared->Prop} {Q:Bool->Shared->Prop},Q (decide<|f x<f y) s->wpAny (model prog w) A (keyLt' κ x.1 y.1) Q E s
variable {κ:SortKind}{Ok:Keyed->Prop}{f:Keyed->Int}
theorem w_lt(O:Ord prog w A s κ Ok f){st:SortSt}{x y:Keyed}{Q:Option Bool->SortSt->Prop}(I:kindOf st=κ)(J:Ok x)(U:Ok y)(h:Q (some<|decide<|f x<f y) st):wpS (model prog w) A E s (lt' x y) Q st:=by rw[lt'_eq];refine Ac<|wpS_get ?_;rw[I];refine Ac<|wpS_lift<|wpAny_attempt<|O.lt x y J U ⟨rfl,?_⟩;exact Af h
theorem x8{arr:Array Keyed}{x:Keyed}{st:SortSt}{Q:Keyed->SortSt->Prop}(h:arr[i]?=some x)(q:Q x st):wpS (model prog w) A E s (elem' arr i) Q st:=by rw[elem'_eq,h];exact Af q
def Ix(left:Bool)(key:Keyed)(arr:Array Keyed)(i:Nat):StateT SortSt Sem (Option Bool):=elem' arr i >>= λx=>if left=true then lt' x key else lt' key x >>= λr=>pure<|r.map λb=>!b
theorem Qj(O:Ord prog w A s κ Ok f){left:Bool}{key x:Keyed}{arr:Array Keyed}{st:SortSt}{Q:Option Bool->SortSt->Prop}(J:kindOf st=κ)(I:Ok key)(U:Ok x)(hi:arr[i]?=some x)
 (q:Q (some<|if left=true then decide (f x<f key) else !decide (f key<f x)) st):wpS (model prog w) A E s (Ix left key arr i) Q st:=by
 refine Ac<|x8 hi ?_;cases left with|true=>exact w_lt O J U I q|false=>exact Ac<|w_lt O J I U<|Af q
theorem bw(O:Ord prog w A s κ Ok f){left:Bool}{key:Keyed}{arr:Array Keyed}{base hint:Nat}{st:SortSt}{Q:Option Nat->SortSt->Prop}(hk:kindOf st=κ)(a2:Ok key)(hh:hint<n)
 (it:Nat->Keyed) (hit:∀i,i<n->arr[base+i]?=some (it i)/\Ok (it i)) (o:Nat->Bool) (a3:∀i,i<n->o i=if left=true then decide (f (it i)<f key) else !decide (f key<f (it i)))
 (mono:∀i j,i<=j->j<n->o j=true->o i=true)
 (q:∀k,k<=n->(∀i,i<k->o i=true)->(∀i,k<=i->i<n->o i=false)->Q (some k) st):wpS (model prog w) A E s (Qi left key arr base n hint) Q st:=by
 have go:∀i,i<n->∀Q':Option Bool->SortSt->Prop,Q' (some<|o i) st->wpS (model prog w) A E s (Ix left key arr<|base+i) Q' st:=λi U Q' h=>Qj O hk a2 (hit i U).2 (hit i U).1 (by rw[<-a3 i U];exact h);refine Ac<|go hint hh _ ?_;dsimp only;cases hb:o hint with
 |true=>
  rw[AC rfl];refine Ac (AY (AM (I:=λx c g=>g=st/\∃l J,c=(none,l,J)/\l<J/\l<n-hint/\o (hint+l)=true/\x+1<=J)
   (Q:=λc g=>g=st/\∃l J,c=(none,l,J)/\l<J/\l<n-hint/\o (hint+l)=true/\(n-hint<=J\/o (hint+J)=false)) ?_ ?_ ⟨rfl,0,1,rfl,by exact Bk _,by omega,hb,by exact Bk _⟩) ?_)
  ·rintro x c g _ hx ⟨rfl,l,J,rfl,h1,h2,r,t⟩;dsimp only;by_cases c:J>=n-hint
   ·rw[AC c];exact Af ⟨rfl,l,J,rfl,h1,h2,r,.inl c⟩
   ·rw[AB c];refine Ac<|go (hint+J) (by lia) _ ?_;dsimp only;cases C:o (hint+J) with
    |true=>
     rw[AB (by simp)];exact Af ⟨rfl,J,2*J+1,rfl,by simp +arith only,by exact Hy,C,by lia⟩
    |false=>
     rw[AC (by simp)];exact Af ⟨rfl,l,J,rfl,h1,h2,r,.inr C⟩
  ·rintro c g ⟨rfl,l,J,rfl,h1,h2,r,t⟩;exact⟨rfl,l,J,rfl,h1,h2,r,.inl (by lia)⟩
  ·rintro c g ⟨rfl,l,J,rfl,h1,h2,r,t⟩;dsimp only;obtain⟨lo,a0⟩:∃lo,lo=hint+l+1:=⟨_,rfl⟩;obtain⟨U,a1⟩:∃U,U=hint+min J (n-hint):=⟨_,rfl⟩;rw[<-a0,<-a1];have g1:lo<=U:=by omega
   have g2:U<=n:=by lia
   have g3:∀i,i<lo->o i=true:=λi U=>mono i (hint+l) (by lia) (by lia) r;have g4:∀i,U<=i->i<n->o i=false:=λi h5 h6=>by
    rcases t with t|t
    ·omega
    ·cases e:o i with
     |false=>rfl
     |true=>
      by_cases c:J<n-hint
      ·rw[mono (hint+J) i (by omega) h6 e] at t;cases t
      ·omega
   refine Ac (AY (AM (I:=λx c sx=>sx=g/\∃lo U,c=(none,lo,U)/\lo<=U/\U<=n/\(∀i,i<lo->o i=true)/\(∀i,U<=i->i<n->o i=false)/\U-lo+x<=n)
    (Q:=λc sx=>sx=g/\∃U,c=(none,U,U)/\U<=n/\(∀i,i<U->o i=true)/\(∀i,U<=i->i<n->o i=false)) ?_ ?_ ⟨rfl,lo,U,rfl,g1,g2,g3,g4,by exact HA⟩) ?_)
   ·rintro x c p _ hx ⟨rfl,lo,U,rfl,k1,T,k3,k4,k5⟩;dsimp only;by_cases c:lo>=U
    ·rw[AC c];have:lo=U:=by lia
     subst this;exact Af ⟨rfl,lo,rfl,T,k3,k4⟩
    ·rw[AB c];refine Ac<|go (lo+(U-lo) / 2) (by lia) _ ?_;dsimp only;cases C:o (lo+(U-lo) / 2) with
     |true=>
      rw[AC rfl];exact Af ⟨rfl,lo+(U-lo) / 2+1,U,rfl,by lia,T,λi h5=>mono i _ (by exact Hz) (by lia) C,k4,by lia⟩
     |false=>
      rw[AB (by simp)];refine Af ⟨rfl,lo,lo+(U-lo) / 2,rfl,by exact Bg _ _,by lia,k3,λi h5 h6=>?_,by omega⟩;cases e:o i with|false=>rfl|true=>rw[mono _ i h5 h6 e] at C;cases C
   ·rintro c p ⟨rfl,lo,U,rfl,k1,T,k3,k4,k5⟩;have:lo=U:=by lia
    subst this;exact⟨rfl,lo,rfl,T,k3,k4⟩
   ·rintro c p ⟨rfl,U,rfl,T,k3,k4⟩;exact Af<|q U T k3 k4
 |false=>
  rw[AB (by simp)];refine Ac (AY (AM (I:=λx c g=>g=st/\∃l J,c=(none,l,J)/\l<J/\l<hint+1/\o (hint-l)=false/\x+1<=J)
   (Q:=λc g=>g=st/\∃l J,c=(none,l,J)/\l<J/\l<hint+1/\o (hint-l)=false/\(hint+1<=J\/o (hint-J)=true)) ?_ ?_ ⟨rfl,0,1,rfl,by lia,by exact CU _,hb,by lia⟩) ?_)
  ·rintro x c g _ hx ⟨rfl,l,J,rfl,h1,h2,r,t⟩;dsimp only;by_cases c:J>=hint+1
   ·rw[AC c];exact Af ⟨rfl,l,J,rfl,h1,h2,r,.inl c⟩
   ·rw[AB c];refine Ac<|go (hint-J) (by exact oo) _ ?_;dsimp only;cases C:o (hint-J) with
    |true=>
     rw[AC rfl];exact Af ⟨rfl,l,J,rfl,h1,h2,r,.inr C⟩
    |false=>
     rw[AB (by simp)];exact Af ⟨rfl,J,2*J+1,rfl,by lia,by exact Hy,C,by lia⟩
  ·rintro c g ⟨rfl,l,J,rfl,h1,h2,r,t⟩;exact⟨rfl,l,J,rfl,h1,h2,r,.inl (by exact qR)⟩
  ·rintro c g ⟨rfl,l,J,rfl,h1,h2,r,t⟩;dsimp only;obtain⟨lo,a0⟩:∃lo,lo=hint+1-min J (hint+1):=⟨_,rfl⟩;obtain⟨U,a1⟩:∃U,U=hint-l:=⟨_,rfl⟩;rw[<-a0,<-a1];have g1:lo<=U:=by omega
   have g2:U<=n:=by omega
   have g3:∀i,i<lo->o i=true:=λi h5=>by
    rcases t with t|t
    ·omega
    ·exact mono i (hint-J) (by omega) (by exact oo) t
   have g4:∀i,U<=i->i<n->o i=false:=λi h5 h6=>by cases e:o i with|false=>rfl|true=>rw[mono (hint-l) i (by lia) h6 e] at r;cases r
   refine Ac (AY (AM (I:=λx c sx=>sx=g/\∃lo U,c=(none,lo,U)/\lo<=U/\U<=n/\(∀i,i<lo->o i=true)/\(∀i,U<=i->i<n->o i=false)/\U-lo+x<=n)
    (Q:=λc sx=>sx=g/\∃U,c=(none,U,U)/\U<=n/\(∀i,i<U->o i=true)/\(∀i,U<=i->i<n->o i=false)) ?_ ?_ ⟨rfl,lo,U,rfl,g1,g2,g3,g4,by exact HA⟩) ?_)
   ·rintro x c p _ hx ⟨rfl,lo,U,rfl,k1,T,k3,k4,k5⟩;dsimp only;by_cases c:lo>=U
    ·rw[AC c];have:lo=U:=by lia
     subst this;exact Af ⟨rfl,lo,rfl,T,k3,k4⟩
    ·rw[AB c];refine Ac<|go (lo+(U-lo) / 2) (by lia) _ ?_;dsimp only;cases C:o (lo+(U-lo) / 2) with
     |true=>
      rw[AC rfl];exact Af ⟨rfl,lo+(U-lo) / 2+1,U,rfl,by lia,T,λi h5=>mono i _ (by lia) (by lia) C,k4,by lia⟩
     |false=>
      rw[AB (by simp)];refine Af ⟨rfl,lo,lo+(U-lo) / 2,rfl,by lia,by lia,k3,λi h5 h6=>?_,by lia⟩;cases e:o i with|false=>rfl|true=>rw[mono _ i h5 h6 e] at C;cases C
   ·rintro c p ⟨rfl,lo,U,rfl,k1,T,k3,k4,k5⟩;have:lo=U:=by lia
    subst this;exact⟨rfl,lo,rfl,T,k3,k4⟩
   ·rintro c p ⟨rfl,U,rfl,T,k3,k4⟩;exact Af<|q U T k3 k4
end
def Qk:Array Keyed->Array Keyed->StateT SortSt Sem (Array Keyed):=sortPriv% PySem.Builtin.mergeLo
def Ql:Array Keyed->Array Keyed->StateT SortSt Sem (Array Keyed):=sortPriv% PySem.Builtin.mergeHi
structure MI(f:Keyed->Int)(la lb fm ra rb:List Keyed):Prop where
 perm:(fm++(ra++rb)).Perm (la++lb)
 so:fm.Pairwise λx y=>f x<=f y
 sa:ra.Pairwise λx y=>f x<=f y
 sb:rb.Pairwise λx y=>f x<=f y
 oa:∀x∈fm,∀y∈ra,f x<=f y
 ob:∀x∈fm,∀y∈rb,f x<=f y
theorem MI.a{f:Keyed->Int}{g j fm seg l U:List Keyed}(h:MI f g j fm (seg++l) U)(hs:∀x∈seg,∀y∈U,f x<=f y):MI f g j (fm++seg) l U:=by
 have sa:=AW.mp h.sa;refine⟨?_,AW.mpr ⟨h.so,sa.1,λx I y J=>h.oa x I y<|Ai _ J⟩,sa.2.1,h.sb,λx I y J=>?_,λx I y J=>?_⟩
 ·have:=h.perm;rw[AA] at this ⊢;exact this
 ·rcases Ag.mp I with I|I
  ·exact h.oa x I y<|Ae _ J
  ·exact sa.2.2 x I y J
 ·rcases Ag.mp I with I|I
  ·exact h.ob x I y J
  ·exact hs x I y J
theorem MI.b{f:Keyed->Int}{l o fm seg U g:List Keyed}(h:MI f l o fm U<|seg++g)(hs:∀x∈seg,∀y∈U,f x<=f y):MI f l o (fm++seg) U g:=by
 have j:=AW.mp h.sb;refine⟨?_,AW.mpr ⟨h.so,j.1,λx I y J=>h.ob x I y<|Ai _ J⟩,h.sa,j.2.1,λx I y J=>?_,λx I y J=>?_⟩
 ·refine List.Perm.trans ?_ h.perm;rw[AA];exact(Bz fm).mpr (by rw[<-AA,<-AA];exact(Bw g).mpr BE)
 ·rcases Ag.mp I with I|I
  ·exact h.oa x I y J
  ·exact hs x I y J
 ·rcases Ag.mp I with I|I
  ·exact h.ob x I y<|Ae _ J
  ·exact j.2.2 x I y J
def ko(f:Keyed->Int)(I J r:List Keyed):Prop:=r.Perm (I++J)/\r.Pairwise λx y=>f x<=f y
theorem MI.ea{f:Keyed->Int}{I J fm U:List Keyed}(h:MI f I J fm U []):ko f I J (fm++U):=⟨by have:=h.perm;rwa[AE] at this,AW.mpr ⟨h.so,h.sa,h.oa⟩⟩
theorem MI.eb{f:Keyed->Int}{g j fm J U:List Keyed}(h:MI f g j fm J U)(hs:∀x∈U,∀y∈J,f x<=f y):ko f g j (fm++U++J):=by
 refine⟨List.Perm.trans ?_ h.perm,?_⟩
 ·rw[AA];exact(Bz fm).mpr BE
 ·rw[AA];refine AW.mpr ⟨h.so,AW.mpr ⟨h.sb,h.sa,hs⟩,λx l y I=>?_⟩;rcases Ag.mp I with I|I
  ·exact h.ob x l y I
  ·exact h.oa x l y I
structure MP(f:Keyed->Int)(a b fm:Array Keyed)(ia ib:Nat):Prop where
 mi:MI f a.toList b.toList fm.toList (a.toList.drop ia) (b.toList.drop ib)
 sz:fm.size=ia+ib
 la:ia<=a.size
 lb:ib<=b.size
theorem Iy(a:Array Keyed)(h:i<a.size):a.toList.drop i=a[i]::a.toList.drop (i+1):=by rw[CY (by simpa using h)];simp
theorem gL(a:Array Keyed)(i j:Nat):(a.extract i j).toList=(a.toList.drop i).take (j-i):=by rw[Array.toList_extract,List.extract_eq_drop_take]
theorem Iz(l:List Keyed)(i k:Nat):(l.drop i).take k++l.drop (i+k)=l.drop i:=by rw[<-List.drop_drop,Be]
theorem qJ{a:Array Keyed}{k:Nat}{x:Keyed}(h:x∈(a.toList.drop i).take k):∃j,∃I:i+j<a.size,j<k/\a[i+j]=x:=by
 obtain⟨j,I,e⟩:=BJ h;rw[AQ,BC] at I;have J:i+j<a.size:=by have:a.toList.length=a.size:=A2;omega
 refine⟨j,J,by omega,?_⟩;rw[<-e];simp
theorem gi{a:Array Keyed}{x:Keyed}(h:x∈a.toList.drop i):∃j,∃I:j<a.size,i<=j/\a[j]=x:=by
 obtain⟨j,I,e⟩:=BJ h;rw[BC] at I;have J:i+j<a.size:=by have:a.toList.length=a.size:=A2;omega
 refine⟨i+j,J,by exact Bg _ _,?_⟩;rw[<-e];simp
theorem c_{f:Keyed->Int}{a:Array Keyed}(s:a.toList.Pairwise λx y=>f x<=f y)(I:i<=j)(J:j<a.size):f (a[i]'(by exact i9))<=f a[j]:=by
 rcases DB I with h|h
 ·have:=Cg.mp s i j (by simpa using (by exact i9:i<a.size)) (by simpa using J) h;simpa using this
 ·subst h;exact De _
section
variable {f:Keyed->Int}{a b fm:Array Keyed}{ia ib:Nat}
theorem MP.segA(M:MP f a b fm ia ib){k:Nat}(J:ia+k<=a.size)(h:∀i (hi:ia+i<a.size),i<k->∀j (I:j<b.size),ib<=j->f a[ia+i]<=f b[j]):MP f a b (fm++a.extract ia (ia+k)) (ia+k) ib:=by
 refine⟨?_,?_,J,M.lb⟩
 ·rw[Ba,gL,show ia+k-ia=k by omega];refine MI.a (by rw[Iz];exact M.mi) λx U y g=>?_;obtain⟨i,hi,l,rfl⟩:=qJ U;obtain⟨j,I,o,rfl⟩:=gi g;exact h i hi l j I o
 ·rw[BZ,C6,M.sz];lia
theorem MP.segB(M:MP f a b fm ia ib){k:Nat}(J:ib+k<=b.size)(h:∀i (hi:ib+i<b.size),i<k->∀j (I:j<a.size),ia<=j->f b[ib+i]<=f a[j]):MP f a b (fm++b.extract ib (ib+k)) ia (ib+k):=by
 refine⟨?_,?_,M.la,J⟩
 ·rw[Ba,gL,show ib+k-ib=k by lia];refine MI.b (by rw[Iz];exact M.mi) λx U y g=>?_;obtain⟨i,hi,l,rfl⟩:=qJ U;obtain⟨j,I,o,rfl⟩:=gi g;exact h i hi l j I o
 ·rw[BZ,C6,M.sz];lia
theorem MP.oneA(M:MP f a b fm ia ib)(hi:ia<a.size)(h:∀j (I:j<b.size),ib<=j->f a[ia]<=f b[j]):MP f a b (fm.push a[ia]) (ia+1) ib:=by refine⟨?_,by rw[Bq,M.sz];simp +arith only,hi,M.lb⟩;rw[Di];refine MI.a (seg:=[a[ia]]) (by rw[CI,<-Iy a hi];exact M.mi) λx J y U=>?_;obtain⟨j,I,g,rfl⟩:=gi U;rw[Am.mp J];exact h j I g
theorem MP.oneB(M:MP f a b fm ia ib)(hi:ib<b.size)(h:∀j (I:j<a.size),ia<=j->f b[ib]<=f a[j]):MP f a b (fm.push b[ib]) ia (ib+1):=by refine⟨?_,by rw[Bq,M.sz];exact Nat.add_assoc _ _ _,M.la,hi⟩;rw[Di];refine MI.b (seg:=[b[ib]]) (by rw[CI,<-Iy b hi];exact M.mi) λx J y U=>?_;obtain⟨j,I,g,rfl⟩:=gi U;rw[Am.mp J];exact h j I g
theorem MP.done(M:MP f a b fm ia ib)(h:ib=b.size):ko f a.toList b.toList (fm++a.extract ia++b.extract ib).toList:=by have e:b.toList.drop ib=[]:=List.drop_eq_nil_of_le (by rw[A2];lia);have m:=M.mi;rw[e] at m;have:=m.ea;rw[Ba,Ba,gL,gL,e,List.take_nil,AE,AZ (by simp)];exact this
theorem MP.last(M:MP f a b fm ia ib)(h:ia+1=a.size)(I:∀x∈b.toList,f x<f (a[a.size-1]'(by omega))):ko f a.toList b.toList (fm++b.extract ib++a.extract ia).toList:=by
 have:=M.mi.eb λx J y U=>by
  obtain⟨j,g,l,rfl⟩:=gi U;have e:j=a.size-1:=by omega
  subst e;exact BH<|I x<|CO J
 rw[Ba,Ba,gL,gL,AZ (by simp),AZ (by simp)];exact this
end
section
variable {w:World}{κ:SortKind}{Ok:Keyed->Prop}{f:Keyed->Int}
abbrev g8(st:SortSt)(g:Nat):SortSt:=SortSt.mk' (kindOf st) (arrOf st) (pendingOf st) g<|failedOf st
theorem tR{c:Prop}{_:Decidable c}{K:β->StateT SortSt Sem α}{y:β}{Q:α->SortSt->Prop}{st:SortSt}(key:∀z,wpS (model prog w) A E s (K z) Q st):∀x,wpS (model prog w) A E s (if c then K x else K y) Q st:=λx=>by
 by_cases h:c
 ·rw[AC h];exact key x
 ·rw[AB h];exact key y
theorem kC{I:Type}{c:Prop}{_:Decidable c}{K T:β->I->StateT SortSt Sem α}{P:β->I->Prop}{x:β}{i:I}{Q:α->SortSt->Prop}{st:SortSt}(key:∀o j,P o j->wpS (model prog w) A E s (K o j) Q st)(J:¬c->P x i)
 (hp:c->(∀o j,P o j->wpS (model prog w) A E s (K o j) Q st)->wpS (model prog w) A E s (T x i) Q st):∀o,x=o->∀j,i=j->wpS (model prog w) A E s (if c then T o j else K o j) Q st:=by
 rintro _ rfl _ rfl;by_cases h:c
 ·rw[AC h];exact hp h key
 ·rw[AB h];exact key x i<|J h
theorem xi{c:Prop} [Decidable c]{x y:StateT SortSt Sem α}{Q:α->SortSt->Prop}{st:SortSt}(h:c)(k:wpS M A E s x Q st):wpS M A E s (if c then x else y) Q st:=by rw[AC h];exact k
theorem ju{c:Prop} [Decidable c]{x y:StateT SortSt Sem α}{Q:α->SortSt->Prop}{st:SortSt}(h:¬c)(k:wpS M A E s y Q st):wpS M A E s (if c then x else y) Q st:=by rw[AB h];exact k
theorem fG{c:Prop} [Decidable c]{x y:StateT SortSt Sem α}{Q:α->SortSt->Prop}{st:SortSt}(h:c->wpS M A E s x Q st)(k:¬c->wpS M A E s y Q st):wpS M A E s (if c then x else y) Q st:=by
 by_cases d:c
 ·rw[AC d];exact h d
 ·rw[AB d];exact k d
theorem zR(O:Ord prog w A s κ Ok f){a b:Array Keyed}{st:SortSt}{Q:Array Keyed->SortSt->Prop}(hk:kindOf st=κ)(cv:∀x∈a.toList,Ok x)(cw:∀x∈b.toList,Ok x)
 (sa:a.toList.Pairwise λx y=>f x<=f y) (sb:b.toList.Pairwise λx y=>f x<=f y) (ha:0<a.size) (hb:0<b.size) (h0:∀x∈a.toList,f b[0]<f x) (hl:∀x∈b.toList,f x<f a[a.size-1])
 (q:∀r g,ko f a.toList b.toList r.toList->Q r (g8 st g)):wpS (model prog w) A E s (Qk a b) Q st:=by
 refine Ac<|wpS_lift<|BQ ⟨rfl,?_⟩;refine Ac<|x8 (x:=b[0]) (by simp[hb]) ?_;dsimp only;have M0:MP f a b #[b[0]] 0 1:=by have M:MP f a b #[] 0 0:=⟨⟨by simp,by simp,by simpa using sa,by simpa using sb,by simp,by simp⟩,rfl,A3 _,A3 _⟩;have:=M.oneB hb λj hj _=>BH<|h0 a[j] (by simp);simpa using this
 by_cases c1:(1==b.size)=true
 ·refine xi c1 ?_;exact Af<|q _ (gallopOf st)<|M0.done (by simpa using c1)
 refine ju c1 ?_;by_cases c2:(0+1==a.size)=true
 ·refine xi c2 ?_;exact Af<|q _ (gallopOf st)<|M0.last (by simpa using c2) hl
 refine ju c2 ?_;have c1:¬1=b.size:=by simpa using c1
 have c2:¬1=a.size:=by simpa using c2
 refine Ac<|wpS_get ?_;have bh:∀i (p:i<a.size),Ok a[i]:=λi p=>cv _ (by simp);have bi:∀i (p:i<b.size),Ok b[i]:=λi p=>cw _ (by simp);have au:∀i (p:i<a.size),a[i]?=some a[i]:=λi p=>by simp[p]
 have av:∀i (p:i<b.size),b[i]?=some b[i]:=λi p=>by simp[p]
 obtain⟨tA,cy⟩:∃t:Nat->Keyed,t=λi=>(a[i]?).getD b[0]:=⟨_,rfl⟩;have a4:∀i (p:i<a.size),tA i=a[i]:=λi p=>by rw[cy];simp[p]
 have cP:∀i (p:i<a.size),a[i]?=some (tA i):=λi p=>by rw[a4 i p];exact au i p
 have d0:∀i (p:i<a.size),Ok (tA i):=λi p=>by rw[a4 i p];exact bh i p
 have dd:∀{i j},i<=j->j<a.size->f (tA i)<=f (tA j):=λ{i j} a0 hj=>by rw[a4 i (by exact i9),a4 j hj];exact c_ sa a0 hj
 obtain⟨tB,de⟩:∃t:Nat->Keyed,t=λi=>(b[i]?).getD b[0]:=⟨_,rfl⟩;have al:∀i (p:i<b.size),tB i=b[i]:=λi p=>by rw[de];simp[p]
 have dj:∀i (p:i<b.size),b[i]?=some (tB i):=λi p=>by rw[al i p];exact av i p
 have dp:∀i (p:i<b.size),Ok (tB i):=λi p=>by rw[al i p];exact bi i p
 have dt:∀{i j},i<=j->j<b.size->f (tB i)<=f (tB j):=λ{i j} a0 hj=>by rw[al i (by exact i9),al j hj];exact c_ sb a0 hj
 refine Ac (AY (AM (I:=λx c C=>(∃g,C=g8 st g)/\∃a5 l U mg,c=(none,a5,l,U,mg)/\MP f a b a5 l U/\l+1<a.size/\U<b.size/\x+1<=a5.size)
  (Q:=λc C=>(∃g,C=g8 st g)/\∃r,c.1=some r/\ko f a.toList b.toList r.toList) ?_ ?_ ⟨⟨gallopOf st,rfl⟩,_,_,_,_,rfl,M0,by exact yY,by exact yY,by simp⟩) ?_)
 ·rintro x c C _ hx ⟨⟨g,rfl⟩,a5,l,U,mg,rfl,M,a2,T,hs⟩;dsimp only;refine Ac (AY (AM (I:=λy c C=>C=g8 st g/\∃J l U ac bc,c=(none,J,l,U,ac,bc)/\MP f a b J l U/\l+1<a.size/\U<b.size/\a5.size+y<=J.size)
   (Q:=λc C=>C=g8 st g/\((∃r,c.1=some r/\ko f a.toList b.toList r.toList)\/∃J l U ac bc,c=(none,J,l,U,ac,bc)/\MP f a b J l U/\l+1<a.size/\U<b.size/\a5.size+1<=J.size)) ?_ ?_ ⟨rfl,_,_,_,_,_,rfl,M,a2,T,Ap _⟩) ?_)
  ·rintro y c C _ hy ⟨rfl,J,l,U,ac,bc,rfl,M,a2,T,cg⟩;have ba:l<a.size:=by exact iK
   dsimp only;refine Ac<|x8 (av U T) ?_;refine Ac<|x8 (au l ba) ?_;refine Ac<|w_lt O hk (bi U T) (bh l ba) ?_;dsimp only;by_cases c:f b[U]<f a[l]
   ·refine xi (Av c) ?_;refine Ac<|x8 (av U T) ?_;have M':=M.oneB T λj hj a0=>BH<|Int.lt_of_lt_of_le c<|c_ sa a0 hj;have s2:(J.push b[U]).size=J.size+1:=Bq _;by_cases e1:(U+1==b.size)=true
    ·refine xi e1 ?_;exact Af ⟨rfl,.inl ⟨_,rfl,M'.done (by simpa using e1)⟩⟩
    ·refine ju e1 ?_;have e1:¬U+1=b.size:=by simpa using e1
     refine fG (λ_=>?_) λ_=>?_
     ·exact Af ⟨rfl,.inr ⟨_,_,_,_,_,rfl,M',a2,by exact yY,by lia⟩⟩
     ·exact Af ⟨rfl,_,_,_,_,_,rfl,M',a2,by lia,by lia⟩
   ·refine ju (by rw[Au c];decide) ?_;refine Ac<|x8 (au l ba) ?_;have M':=M.oneA (by lia) λj hj a0=>BN (by omega)<|c_ sb a0 hj;have s2:(J.push a[l]).size=J.size+1:=Bq _;by_cases e1:(l+1+1==a.size)=true
    ·refine xi e1 ?_;exact Af ⟨rfl,.inl ⟨_,rfl,M'.last (by simpa using e1) hl⟩⟩
    ·refine ju e1 ?_;have e1:¬l+1+1=a.size:=by simpa using e1
     refine fG (λ_=>?_) λ_=>?_
     ·exact Af ⟨rfl,.inr ⟨_,_,_,_,_,rfl,M',by exact yY,T,by lia⟩⟩
     ·exact Af ⟨rfl,_,_,_,_,_,rfl,M',by lia,T,by lia⟩
  ·rintro c C ⟨rfl,J,l,U,ac,bc,rfl,M,a2,T,cg⟩;have:=M.sz;omega
  ·rintro c C ⟨rfl,h⟩;rcases h with⟨r,er,hr⟩|⟨be,l,U,ac,bc,rfl,M,a2,T,cg⟩
   ·obtain⟨c1,c2⟩:=c;cases er;exact Af ⟨⟨g,rfl⟩,r,rfl,hr⟩
   ·dsimp only;refine Ac<|wpS_lift<|BQ ⟨rfl,?_⟩;refine Ac (AY (AM (I:=λy c C=>(∃g,C=g8 st g)/\∃J l U mg ac bc,c=(none,J,l,U,mg,ac,bc)/\MP f a b J l U/\l+1<a.size/\U<b.size/\be.size+y<=J.size)
     (Q:=λc C=>(∃g,C=g8 st g)/\((∃r,c.1=some r/\ko f a.toList b.toList r.toList)\/∃J l U mg ac bc,c=(none,J,l,U,mg,ac,bc)/\MP f a b J l U/\l+1<a.size/\U<b.size/\be.size<=J.size)) ?_ ?_ ⟨⟨g,rfl⟩,_,_,_,_,_,_,rfl,M,a2,T,Ap _⟩) ?_)
    ·rintro y c C _ hy ⟨⟨g',rfl⟩,J,l,U,bm,ac,bc,rfl,M,a2,T,bf⟩;have ba:l<a.size:=by exact iK
     dsimp only;generalize bm-1=dv;revert dv;refine tR (y:=bm) λdG=>?_
     all_goals
      refine Ac<|wpS_modify ?_;refine Ac<|x8 (av U T) ?_;refine Ac<|bw O hk (bi U T) (by lia) (λi=>tA<|l+i) (λi p=>⟨cP _ (by lia),d0 _ (by lia)⟩) (λi=>!decide (f b[U]<f (tA<|l+i))) (λi p=>by rw[AB (by simp)]) (λi j a0 hj h=>?_) λk dH aL bb=>?_
      ·have:=dd (i:=l+i) (j:=l+j) (by lia) (by lia);simp at h ⊢;lia
      have aL:∀i,i<k->f (tA<|l+i)<=f b[U]:=λi p=>by have:=aL i p;simpa using this
      have bb:∀i,k<=i->i<a.size-l->f b[U]<f (tA<|l+i):=λi p hj=>by have:=bb i p hj;simpa using this
      have kl:k<a.size-l:=by
       rcases DB dH with h|h
       ·exact h
       ·exfalso;have h1:=aL (a.size-1-l) (by lia);have h2:=hl b[U] (by simp);rw[show l+(a.size-1-l)=a.size-1 by lia,a4 _ (by exact yV)] at h1;omega
      have M1:MP f a b (J++a.extract l (l+k)) (l+k) U:=M.segA (by lia) λi p ca j hj a0=>by have h1:=aL i ca;rw[a4 _ p] at h1;exact BN h1<|c_ sb a0 hj
      have pB:∀j (hj:j<a.size),l+k<=j->f b[U]<=f a[j]:=λj hj a0=>by have h1:=bb (j-l) (by lia) (by lia);rw[show l+(j-l)=j by lia,a4 _ hj] at h1;lia
      dsimp only;generalize dV:J=o0;generalize e0:l=j0;revert j0;revert o0;refine kC (P:=λ(o:Array Keyed) (j:Nat)=>MP f a b o j U/\J.size<=o.size/\j+1<a.size/\∀j' (hj:j'<a.size),j<=j'->f b[U]<=f a[j']) (x:=J) (i:=l) (λa3 a1 hP=>?tail) (λck=>?hN) λck key=>?hY
      case hN=>
       obtain rfl:k=0:=by lia
       exact⟨M,Ap _,a2,λj hj a0=>pB j hj (by lia)⟩
      case hY=>
       by_cases e1:(l+k+1==a.size)=true
       ·refine xi e1 ?_;exact Af ⟨⟨_,rfl⟩,.inl ⟨_,rfl,M1.last (by simpa using e1) hl⟩⟩
       ·refine ju e1 (ju (show ¬(l+k==a.size)=true by simp;lia) ?_);have e1:¬l+k+1=a.size:=by simpa using e1
        exact key _ _ ⟨M1,by rw[BZ];exact Bg _ _,by lia,pB⟩
      clear pB M1 aL bb;obtain⟨M1,h3,l3,pB⟩:=hP;have cc:a1<a.size:=by exact iK
      all_goals
       refine Ac<|x8 (av U T) ?_;have M2:=M1.oneB T pB;have s2:(a3.push b[U]).size=a3.size+1:=Bq _;by_cases e2:(U+1==b.size)=true
       case' pos=>
        refine xi e2 ?_;exact Af ⟨⟨_,rfl⟩,.inl ⟨_,rfl,M2.done (by simpa using e2)⟩⟩
       case' neg=>
        refine ju e2 ?_;have e2:¬U+1=b.size:=by simpa using e2
        refine Ac<|x8 (au a1 cc) ?_;refine Ac<|bw O hk (bh a1 cc) (by lia) (λi=>tB<|U+1+i) (λi p=>⟨dj _ (by omega),dp _ (by lia)⟩) (λi=>decide<|f (tB<|U+1+i)<f a[a1]) (λi p=>by rw[AC rfl]) (λi j a0 hj h=>?_) λk2 e5 a7 ab=>?_
        ·have:=dt (i:=U+1+i) (j:=U+1+j) (by lia) (by omega);simp at h ⊢;lia
        have a7:∀i,i<k2->f (tB<|U+1+i)<f a[a1]:=λi p=>by have:=a7 i p;simpa using this
        have ab:∀i,k2<=i->i<b.size-(U+1)->f a[a1]<=f (tB<|U+1+i):=λi p hj=>by have:=ab i p hj;simpa using this
        have M3:MP f a b (a3.push b[U]++b.extract (U+1) (U+1+k2)) a1 (U+1+k2):=M2.segB (by omega) λi p ca j hj a0=>by have h1:=a7 i ca;rw[al _ p] at h1;exact BN (BH h1)<|c_ sa a0 hj
        have pA:∀j (hj:j<b.size),U+1+k2<=j->f a[a1]<=f b[j]:=λj hj a0=>by have h1:=ab (j-(U+1)) (by lia) (by omega);rw[show U+1+(j-(U+1))=j by lia,al _ hj] at h1;exact h1
        dsimp only;obtain⟨o3,cm⟩:∃o,o=a3.push b[U]:=⟨_,rfl⟩;obtain⟨bd,cn⟩:∃i,i=U+1:=⟨_,rfl⟩;rw[<-cm] at s2;rw[<-cm,<-cn] at M2 M3 ⊢;rw[<-cn] at pA e5;generalize dV:o3=o0;generalize e0:bd=j0;revert j0;revert o0;refine kC (P:=λ(o:Array Keyed) (j:Nat)=>MP f a b o a1 j/\a3.size+1<=o.size/\j<b.size/\∀j' (hj:j'<b.size),j<=j'->f a[a1]<=f b[j']) (x:=o3) (i:=bd) (λbg e7 hP=>?tail2) (λck=>?hN) λck key=>?hY
        case hN=>
         obtain rfl:k2=0:=by lia
         exact⟨M2,by lia,by lia,λj hj a0=>pA j hj (by lia)⟩
        case hY=>
         by_cases e3:(bd+k2==b.size)=true
         ·refine xi e3 ?_;exact Af ⟨⟨_,rfl⟩,.inl ⟨_,rfl,M3.done (by simpa using e3)⟩⟩
         ·refine ju e3 ?_;have e3:¬bd+k2=b.size:=by simpa using e3
          exact key _ _ ⟨M3,by rw[BZ];lia,by lia,pA⟩
        clear pA M3 a7 ab;obtain⟨M3,h4,l4,pA⟩:=hP
        all_goals
         refine Ac<|x8 (au a1 cc) ?_;have M4:=M3.oneA (by lia) pA;have s4:(bg.push a[a1]).size=bg.size+1:=Bq _;by_cases e4:(a1+1+1==a.size)=true
         ·refine xi e4 ?_;exact Af ⟨⟨_,rfl⟩,.inl ⟨_,rfl,M4.last (by simpa using e4) hl⟩⟩
         ·refine ju e4 ?_;have e4:¬a1+1+1=a.size:=by simpa using e4
          refine fG (λ_=>?_) λ_=>?_
          ·exact Af ⟨⟨_,rfl⟩,.inr ⟨_,_,_,_,_,_,rfl,M4,by exact yY,l4,by lia⟩⟩
          ·exact Af ⟨⟨_,rfl⟩,_,_,_,_,_,_,rfl,M4,by lia,l4,by lia⟩
    ·rintro c C ⟨⟨g',rfl⟩,J,l,U,bm,ac,bc,rfl,M,a2,T,bf⟩;have:=M.sz;omega
    ·rintro c C ⟨⟨g',rfl⟩,h⟩;rcases h with⟨r,er,hr⟩|⟨e6,l,U,dG,ac,bc,rfl,M,a2,T,bf⟩
     ·obtain⟨c1,c2⟩:=c;cases er;exact Af ⟨⟨g',rfl⟩,r,rfl,hr⟩
     ·dsimp only;refine Ac<|wpS_modify ?_;exact Af ⟨⟨_,rfl⟩,_,_,_,_,rfl,M,a2,T,by lia⟩
 ·rintro c C ⟨⟨g,rfl⟩,a5,l,U,mg,rfl,M,a2,T,hs⟩;have:=M.sz;lia
 ·rintro c C ⟨⟨g,rfl⟩,r,er,hr⟩;obtain⟨c1,c2⟩:=c;cases er;exact Af<|q r g hr
end
structure MH(f:Keyed->Int)(la lb ra rb o:List Keyed):Prop where
 perm:(ra++rb++o).Perm (la++lb)
 so:o.Pairwise λx y=>f x<=f y
 sa:ra.Pairwise λx y=>f x<=f y
 sb:rb.Pairwise λx y=>f x<=f y
 oa:∀x∈ra,∀y∈o,f x<=f y
 ob:∀x∈rb,∀y∈o,f x<=f y
theorem MH.a{f:Keyed->Int}{j l o seg U g:List Keyed}(h:MH f j l (U++seg) g o)(hs:∀x∈g,∀y∈seg,f x<=f y):MH f j l U g (seg++o):=by
 have sa:=AW.mp h.sa;refine⟨List.Perm.trans ?_ h.perm,AW.mpr ⟨sa.2.1,h.so,λx J y I=>h.oa x (Ae _ J) y I⟩,sa.1,h.sb,λx J y I=>?_,λx J y I=>?_⟩
 ·rw[<-AA];refine(Bw o).mpr ?_;rw[AA,AA];exact(Bz U).mpr BE
 ·rcases Ag.mp I with I|I
  ·exact sa.2.2 x J y I
  ·exact h.oa x (Ai _ J) y I
 ·rcases Ag.mp I with I|I
  ·exact hs x J y I
  ·exact h.ob x J y I
theorem MH.b{f:Keyed->Int}{l p o seg U g:List Keyed}(h:MH f l p U (g++seg) o)(hs:∀x∈U,∀y∈seg,f x<=f y):MH f l p U g (seg++o):=by
 have j:=AW.mp h.sb;refine⟨?_,AW.mpr ⟨j.2.1,h.so,λx J y I=>h.ob x (Ae _ J) y I⟩,h.sa,j.1,λx J y I=>?_,λx J y I=>?_⟩
 ·have:=h.perm;rw[<-AA,AA U g seg];exact this
 ·rcases Ag.mp I with I|I
  ·exact hs x J y I
  ·exact h.oa x J y I
 ·rcases Ag.mp I with I|I
  ·exact j.2.2 x J y I
  ·exact h.ob x (Ai _ J) y I
theorem MH.ea{f:Keyed->Int}{I J o U:List Keyed}(h:MH f I J [] U o):ko f I J (U++o):=⟨by have:=h.perm;rwa[Ci] at this,AW.mpr ⟨h.sb,h.so,h.ob⟩⟩
theorem MH.eb{f:Keyed->Int}{g j o J U:List Keyed}(h:MH f g j J U o)(hs:∀x∈U,∀y∈J,f x<=f y):ko f g j (U++J++o):=by
 refine⟨List.Perm.trans ?_ h.perm,?_⟩
 ·exact(Bw o).mpr BE
 ·refine AW.mpr ⟨AW.mpr ⟨h.sb,h.sa,hs⟩,h.so,λx I y l=>?_⟩;rcases Ag.mp I with I|I
  ·exact h.ob x I y l
  ·exact h.oa x I y l
structure HP(f:Keyed->Int)(a b fm:Array Keyed)(na nb:Nat):Prop where
 mi:MH f a.toList b.toList (a.toList.take na) (b.toList.take nb) fm.toList.reverse
 sz:fm.size+na+nb=a.size+b.size
 la:na<=a.size
 lb:nb<=b.size
theorem IA(a:Array Keyed)(h:i<a.size):a.toList.take (i+1)=a.toList.take i++[a[i]]:=by rw[Bc];simp[h]
theorem gp{a:Array Keyed}{x:Keyed}(h:x∈a.toList.take i):∃j,∃I:j<a.size,j<i/\a[j]=x:=by
 obtain⟨j,I,e⟩:=BJ h;rw[AQ] at I;have J:j<a.size:=by have:a.toList.length=a.size:=A2;omega
 refine⟨j,J,by omega,?_⟩;rw[<-e];simp
theorem Fq(l:List Keyed){k:Nat}(h:i<=k):l.take i++(l.drop i).take (k-i)=l.take k:=by have:=List.take_add (l:=l) (i:=i) (j:=k-i);rw[show i+(k-i)=k by omega] at this;exact this.symm
section
variable {f:Keyed->Int}{a b fm:Array Keyed}{nb:Nat}
theorem HP.segA(M:HP f a b fm na nb){k:Nat}(J:k<=na)(h:∀i (hi:i<a.size),k<=i->i<na->∀j (I:j<b.size),j<nb->f b[j]<=f a[i]):HP f a b (fm++(a.extract k na).reverse) k nb:=by
 have o:=M.la;refine⟨?_,?_,by exact FV,M.lb⟩
 ·rw[Ba,C1,CP,List.reverse_reverse,gL];refine MH.a (by rw[Fq _ J];exact M.mi) λx U y g=>?_;obtain⟨j,I,l,rfl⟩:=gp U;obtain⟨i,hi,p,rfl⟩:=qJ g;exact h (k+i) hi (by exact Bg _ _) (by lia) j I l
 ·have:=M.sz;rw[BZ,Array.size_reverse,C6];lia
theorem HP.segB(M:HP f a b fm na nb){k:Nat}(J:k<=nb)(h:∀i (hi:i<b.size),k<=i->i<nb->∀j (I:j<a.size),j<na->f a[j]<=f b[i]):HP f a b (fm++(b.extract k nb).reverse) na k:=by
 have o:=M.lb;refine⟨?_,?_,M.la,by lia⟩
 ·rw[Ba,C1,CP,List.reverse_reverse,gL];refine MH.b (by rw[Fq _ J];exact M.mi) λx U y g=>?_;obtain⟨j,I,l,rfl⟩:=gp U;obtain⟨i,hi,p,rfl⟩:=qJ g;exact h (k+i) hi (by lia) (by lia) j I l
 ·have:=M.sz;rw[BZ,Array.size_reverse,C6];lia
theorem HP.oneA(M:HP f a b fm (na+1) nb)(hi:na<a.size)(h:∀j (I:j<b.size),j<nb->f b[j]<=f a[na]):HP f a b (fm.push a[na]) na nb:=by refine⟨?_,by have:=M.sz;rw[Bq];lia,by exact iK,M.lb⟩;rw[Di,C1];refine MH.a (seg:=[a[na]]) (by rw[<-IA a hi];exact M.mi) λx J y U=>?_;obtain⟨j,I,g,rfl⟩:=gp J;rw[Am.mp U];exact h j I g
theorem HP.oneB(M:HP f a b fm na<|nb+1)(hi:nb<b.size)(h:∀j (I:j<a.size),j<na->f a[j]<=f b[nb]):HP f a b (fm.push b[nb]) na nb:=by refine⟨?_,by have:=M.sz;rw[Bq];lia,M.la,by lia⟩;rw[Di,C1];refine MH.b (seg:=[b[nb]]) (by rw[<-IA b hi];exact M.mi) λx J y U=>?_;obtain⟨j,I,g,rfl⟩:=gp J;rw[Am.mp U];exact h j I g
theorem HP.done(M:HP f a b fm na nb)(h:na=0):ko f a.toList b.toList (a.extract 0 na++b.extract 0 nb++fm.reverse).toList:=by subst h;have:=M.mi;rw[List.take_zero] at this;have:=this.ea;rw[Ba,Ba,gL,gL,CP];simpa using this
theorem HP.last(M:HP f a b fm na nb)(h:nb=1)(g:0<b.size)(I:∀x∈a.toList,f b[0]<f x):ko f a.toList b.toList (b.extract 0 nb++a.extract 0 na++fm.reverse).toList:=by
 have:=M.mi.eb λx J y U=>by
  obtain⟨j,l,o,rfl⟩:=gp J;have e:j=0:=by lia
  subst e;exact BH<|I y<|BG U
 rw[Ba,Ba,gL,gL,CP];simpa using this
end
theorem HP.preA{f:Keyed->Int}{a b fm:Array Keyed}{nb:Nat}(M:HP f a b fm na nb)(I:0<na)(h:∀j (J:j<b.size),j<nb->f b[j]<=f (a[na-1]'(by have:=M.la;omega))):HP f a b (fm.push (a[na-1]'(by have:=M.la;omega))) (na-1) nb:=by obtain⟨n,rfl⟩:∃n,na=n+1:=⟨na-1,by lia⟩;have U:=M.la;exact HP.oneA M (by assumption) h
theorem HP.preB{f:Keyed->Int}{a b fm:Array Keyed}{nb:Nat}(M:HP f a b fm na nb)(I:0<nb)(h:∀j (J:j<a.size),j<na->f a[j]<=f (b[nb-1]'(by have:=M.lb;omega))):HP f a b (fm.push (b[nb-1]'(by have:=M.lb;lia))) na (nb-1):=by obtain⟨n,rfl⟩:∃n,nb=n+1:=⟨nb-1,by lia⟩;have U:=M.lb;exact HP.oneB M (by lia) h
section
variable {w:World}{κ:SortKind}{Ok:Keyed->Prop}{f:Keyed->Int}
theorem yM(O:Ord prog w A s κ Ok f){a b:Array Keyed}{st:SortSt}{Q:Array Keyed->SortSt->Prop}(hk:kindOf st=κ)(cm:∀x∈a.toList,Ok x)(cv:∀x∈b.toList,Ok x)
 (sa:a.toList.Pairwise λx y=>f x<=f y) (sb:b.toList.Pairwise λx y=>f x<=f y) (ha:0<a.size) (hb:0<b.size) (h0:∀x∈a.toList,f b[0]<f x) (hl:∀x∈b.toList,f x<f a[a.size-1])
 (q:∀r g,ko f a.toList b.toList r.toList->Q r (g8 st g)):wpS (model prog w) A E s (Ql a b) Q st:=by
 have bh:∀i (U:i<a.size),Ok a[i]:=λi U=>cm _ (by simp);have bi:∀i (U:i<b.size),Ok b[i]:=λi U=>cv _ (by simp);have ab:∀i (U:i<a.size),a[i]?=some a[i]:=λi U=>by simp[U]
 have au:∀i (U:i<b.size),b[i]?=some b[i]:=λi U=>by simp[U]
 obtain⟨tA,cw⟩:∃t:Nat->Keyed,t=λi=>(a[i]?).getD b[0]:=⟨_,rfl⟩;have al:∀i (U:i<a.size),tA i=a[i]:=λi U=>by rw[cw];simp[U]
 have cy:∀i (U:i<a.size),a[0+i]?=some (tA i):=λi U=>by rw[al i U,Dw];exact ab i U
 have cP:∀i (U:i<a.size),Ok (tA i):=λi U=>by rw[al i U];exact bh i U
 have d0:∀{i j},i<=j->j<a.size->f (tA i)<=f (tA j):=λ{i j} p hj=>by rw[al i (by exact i9),al j hj];exact c_ sa p hj
 obtain⟨tB,dd⟩:∃t:Nat->Keyed,t=λi=>(b[i]?).getD b[0]:=⟨_,rfl⟩;have a4:∀i (U:i<b.size),tB i=b[i]:=λi U=>by rw[dd];simp[U]
 have de:∀i (U:i<b.size),b[0+i]?=some (tB i):=λi U=>by rw[a4 i U,Dw];exact au i U
 have dj:∀i (U:i<b.size),Ok (tB i):=λi U=>by rw[a4 i U];exact bi i U
 have dp:∀{i j},i<=j->j<b.size->f (tB i)<=f (tB j):=λ{i j} p hj=>by rw[a4 i (by exact i9),a4 j hj];exact c_ sb p hj
 refine Ac<|wpS_lift<|BQ ⟨rfl,?_⟩;refine Ac<|x8 (x:=a[a.size-1]) (ab _ (by exact yV)) ?_;dsimp only;obtain⟨n0,ec⟩:∃n,a.size=n+1:=⟨a.size-1,by lia⟩;have M0:HP f a b #[a[a.size-1]] (a.size-1) b.size:=by
  have M:HP f a b #[] (a.size-1+1) b.size:=by
   refine⟨⟨?_,by simp,?_,?_,by simp,by simp⟩,by simp;lia,by exact yV,Ap _⟩
   ·rw[AZ (by simp;lia),AZ (by simp)];simp
   ·rw[AZ (by simp;lia)];exact sa
   ·rw[AZ (by simp)];exact sb
  have:=M.oneA (by lia) λj hj _=>BH<|hl b[j] (by simp);simpa using this
 by_cases c1:(a.size-1==0)=true
 ·refine xi c1 ?_;exact Af<|q _ (gallopOf st)<|M0.done (by simpa using c1)
 refine ju c1 ?_;by_cases c2:(b.size==1)=true
 ·refine xi c2 ?_;exact Af<|q _ (gallopOf st)<|M0.last (by simpa using c2) hb h0
 refine ju c2 ?_;have c1:¬a.size-1=0:=by simpa using c1
 have c2:¬b.size=1:=by simpa using c2
 refine Ac<|wpS_get ?_;refine Ac (AY (AM (I:=λx c l=>(∃g,l=g8 st g)/\∃na nb a5 mg,c=(none,na,nb,a5,mg)/\HP f a b a5 na nb/\0<na/\1<nb/\x+1<=a5.size)
  (Q:=λc l=>(∃g,l=g8 st g)/\∃r,c.1=some r/\ko f a.toList b.toList r.toList) ?_ ?_ ⟨⟨gallopOf st,rfl⟩,_,_,_,_,rfl,M0,by exact Ec,by lia,by simp⟩) ?_)
 ·rintro x c l _ hx ⟨⟨g,rfl⟩,na,nb,a5,mg,rfl,M,T,a0,hs⟩;dsimp only;refine Ac (AY (AM (I:=λy c l=>l=g8 st g/\∃na nb J ac bc,c=(none,na,nb,J,ac,bc)/\HP f a b J na nb/\0<na/\1<nb/\a5.size+y<=J.size)
   (Q:=λc l=>l=g8 st g/\((∃r,c.1=some r/\ko f a.toList b.toList r.toList)\/∃na nb J ac bc,c=(none,na,nb,J,ac,bc)/\HP f a b J na nb/\0<na/\1<nb/\a5.size+1<=J.size)) ?_ ?_ ⟨rfl,_,_,_,_,_,rfl,M,T,a0,Ap _⟩) ?_)
  ·rintro y c l _ hy ⟨rfl,na,nb,J,ac,bc,rfl,M,T,a0,ca⟩;have dt:=M.la;have dv:=M.lb;have a1:nb-1<b.size:=by omega
   have av:na-1<a.size:=by lia
   dsimp only;refine Ac<|x8 (au (nb-1) a1) ?_;refine Ac<|x8 (ab (na-1) av) ?_;refine Ac<|w_lt O hk (bi (nb-1) a1) (bh (na-1) av) ?_;dsimp only;by_cases c:f b[nb-1]<f a[na-1]
   ·refine xi (Av c) ?_;refine Ac<|x8 (ab (na-1) av) ?_;have M':=M.preA T λj hj p=>BH<|Int.lt_of_le_of_lt (c_ sb (i:=j) (j:=nb-1) (CQ p) a1) c;have s2:(J.push a[na-1]).size=J.size+1:=Bq _;by_cases e1:(na-1==0)=true
    ·refine xi e1 ?_;exact Af ⟨rfl,.inl ⟨_,rfl,M'.done (by simpa using e1)⟩⟩
    ·refine ju e1 ?_;have e1:¬na-1=0:=by simpa using e1
     refine fG (λ_=>?_) λ_=>?_
     ·exact Af ⟨rfl,.inr ⟨_,_,_,_,_,rfl,M',by exact Ec,a0,by lia⟩⟩
     ·exact Af ⟨rfl,_,_,_,_,_,rfl,M',by lia,a0,by lia⟩
   ·refine ju (by rw[Au c];decide) ?_;refine Ac<|x8 (au (nb-1) a1) ?_;have M':=M.preB (by exact iK) λj hj p=>BN (c_ sa (i:=j) (j:=na-1) (CQ p) av) (by omega);have s2:(J.push b[nb-1]).size=J.size+1:=Bq _;by_cases e1:(nb-1==1)=true
    ·refine xi e1 ?_;exact Af ⟨rfl,.inl ⟨_,rfl,M'.last (by simpa using e1) hb h0⟩⟩
    ·refine ju e1 ?_;have e1:¬nb-1=1:=by simpa using e1
     refine fG (λ_=>?_) λ_=>?_
     ·exact Af ⟨rfl,.inr ⟨_,_,_,_,_,rfl,M',T,by lia,by lia⟩⟩
     ·exact Af ⟨rfl,_,_,_,_,_,rfl,M',T,by lia,by lia⟩
  ·rintro c l ⟨rfl,na,nb,J,ac,bc,rfl,M,T,a0,ca⟩;have:=M.sz;omega
  ·rintro c l ⟨rfl,h⟩;rcases h with⟨r,er,hr⟩|⟨na,nb,be,ac,bc,rfl,M,T,a0,ca⟩
   ·obtain⟨c1,c2⟩:=c;cases er;exact Af ⟨⟨g,rfl⟩,r,rfl,hr⟩
   ·dsimp only;refine Ac<|wpS_lift<|BQ ⟨rfl,?_⟩;refine Ac (AY (AM (I:=λy c l=>(∃g,l=g8 st g)/\∃na nb J mg ac bc,c=(none,na,nb,J,mg,ac,bc)/\HP f a b J na nb/\0<na/\1<nb/\be.size+y<=J.size)
     (Q:=λc l=>(∃g,l=g8 st g)/\((∃r,c.1=some r/\ko f a.toList b.toList r.toList)\/∃na nb J mg ac bc,c=(none,na,nb,J,mg,ac,bc)/\HP f a b J na nb/\0<na/\1<nb/\be.size<=J.size)) ?_ ?_ ⟨⟨g,rfl⟩,_,_,_,_,_,_,rfl,M,T,a0,Ap _⟩) ?_)
    ·rintro y c l _ hy ⟨⟨g',rfl⟩,na,nb,J,bm,ac,bc,rfl,M,T,a0,bf⟩;have dt:=M.la;have dv:=M.lb;have a1:nb-1<b.size:=by omega
     have av:na-1<a.size:=by lia
     dsimp only;generalize bm-1=dG;revert dG;refine tR (y:=bm) λdH=>?_
     all_goals
      refine Ac<|wpS_modify ?_;refine Ac<|x8 (au (nb-1) a1) ?_;refine Ac<|bw O hk (bi (nb-1) a1) (by exact yV) tA (λi U=>⟨cy _ (by exact D_),cP _ (by lia)⟩) (λi=>!decide (f b[nb-1]<f (tA i))) (λi U=>by rw[AB (by simp)]) (λi j p hj h=>?_) λk dV aL ba=>?_
      ·have:=d0 (i:=i) (j:=j) (by lia) (by exact D_);simp at h ⊢;lia
      have aL:∀i,i<k->f (tA i)<=f b[nb-1]:=λi U=>by have:=aL i U;simpa using this
      have ba:∀i,k<=i->i<na->f b[nb-1]<f (tA i):=λi U hj=>by have:=ba i U hj;simpa using this
      have M1:HP f a b (J++(a.extract k na).reverse) k nb:=M.segA dV λi U h1 h2 j hj p=>by have h3:=ba i h1 h2;rw[al _ U] at h3;exact BN (c_ sb (i:=j) (j:=nb-1) (CQ p) a1)<|BH h3
      have pB:∀j (hj:j<a.size),j<k->f a[j]<=f b[nb-1]:=λj hj p=>by have h1:=aL j p;rw[al _ hj] at h1;exact h1
      dsimp only;generalize ed:na-k=cn;generalize e0:J=o0;generalize e5:na=j0;revert j0;revert o0;refine kC (P:=λ(o:Array Keyed) (j:Nat)=>HP f a b o j nb/\J.size<=o.size/\0<j/\∀j' (hj:j'<a.size),j'<j->f a[j']<=f b[nb-1]) (x:=J) (i:=na) (λa2 C hP=>?tail) (λck=>?hN) λck key=>?hY
      case hN=>
       obtain rfl:k=na:=by lia
       exact⟨M,Ap _,by lia,pB⟩
      case hY=>
       by_cases e1:(k==0)=true
       ·refine xi e1 ?_;exact Af ⟨⟨_,rfl⟩,.inl ⟨_,rfl,M1.done (by simpa using e1)⟩⟩
       ·refine ju e1 ?_;have e1:¬k=0:=by simpa using e1
        exact key _ _ ⟨M1,by rw[BZ];exact Bg _ _,by exact Ec,pB⟩
      clear pB M1 aL ba;obtain⟨M1,h3,l3,pB⟩:=hP
      all_goals
       have e8:=M1.la;have bb:C-1<a.size:=by lia
       refine Ac<|x8 (au (nb-1) a1) ?_;have M2:=M1.preB (by exact iK) pB;have s2:(a2.push b[nb-1]).size=a2.size+1:=Bq _;by_cases e2:(nb-1==1)=true
       case' pos=>
        refine xi e2 ?_;exact Af ⟨⟨_,rfl⟩,.inl ⟨_,rfl,M2.last (by simpa using e2) hb h0⟩⟩
       case' neg=>
        refine ju e2 ?_;have e2:¬nb-1=1:=by simpa using e2
        refine Ac<|x8 (ab (C-1) bb) ?_;refine Ac<|bw O hk (bh (C-1) bb) (by lia) tB (λi U=>⟨de _ (by exact qR),dj _ (by lia)⟩) (λi=>decide<|f (tB i)<f a[C-1]) (λi U=>by rw[AC rfl]) (λi j p hj h=>?_) λk2 cc a7 a3=>?_
        ·have:=dp (i:=i) (j:=j) (by lia) (by exact qR);simp at h ⊢;lia
        have a7:∀i,i<k2->f (tB i)<f a[C-1]:=λi U=>by have:=a7 i U;simpa using this
        have a3:∀i,k2<=i->i<nb-1->f a[C-1]<=f (tB i):=λi U hj=>by have:=a3 i U hj;simpa using this
        have k1:0<k2:=by
         rcases Nat.eq_zero_or_pos k2 with h|h
         ·exfalso;have h5:=a3 0 (by exact vF) (by lia);rw[a4 _ hb] at h5;have h6:=h0 a[C-1] (by simp);lia
         ·exact h
        have M3:HP f a b (a2.push b[nb-1]++(b.extract k2<|nb-1).reverse) C k2:=M2.segB cc λi U h1 h2 j hj p=>by have h5:=a3 i h1 h2;rw[a4 _ U] at h5;exact BN (c_ sa (i:=j) (j:=C-1) (CQ p) bb) h5
        have pA:∀j (hj:j<b.size),j<k2->f b[j]<=f a[C-1]:=λj hj p=>by have h5:=a7 j p;rw[a4 _ hj] at h5;exact BH h5
        dsimp only;generalize e6:nb-1-k2=ee;obtain⟨o3,e7⟩:∃o,o=a2.push b[nb-1]:=⟨_,rfl⟩;obtain⟨bd,cg⟩:∃i,i=nb-1:=⟨_,rfl⟩;have eb:b[nb-1]=b[bd]'(by lia):=by subst cg;rfl
        rw[<-e7] at s2 M2 M3 ⊢;rw[<-cg] at M2 M3 e6 cc ⊢;generalize e0:o3=o0;generalize e5:bd=j0;revert j0;revert o0;refine kC (P:=λ(o:Array Keyed) (j:Nat)=>HP f a b o C j/\a2.size+1<=o.size/\1<j/\∀j' (hj:j'<b.size),j'<j->f b[j']<=f a[C-1]) (x:=o3) (i:=bd) (λbg eg hP=>?tail2) (λck=>?hN) λck key=>?hY
        case hN=>
         obtain rfl:k2=bd:=by lia
         exact⟨M2,by lia,by lia,pA⟩
        case hY=>
         by_cases e3:(k2==1)=true
         ·refine xi e3 ?_;exact Af ⟨⟨_,rfl⟩,.inl ⟨_,rfl,M3.last (by simpa using e3) hb h0⟩⟩
         ·refine ju e3 (ju (show ¬(k2==0)=true by simp;exact Hw) ?_);have e3:¬k2=1:=by simpa using e3
          exact key _ _ ⟨M3,by rw[BZ];lia,by lia,pA⟩
        clear pA M3 a7 a3;obtain⟨M3,h4,l4,pA⟩:=hP
        all_goals
         refine Ac<|x8 (ab (C-1) bb) ?_;have M4:=M3.preA l3 pA;have s4:(bg.push a[C-1]).size=bg.size+1:=Bq _;by_cases e4:(C-1==0)=true
         ·refine xi e4 ?_;exact Af ⟨⟨_,rfl⟩,.inl ⟨_,rfl,M4.done (by simpa using e4)⟩⟩
         ·refine ju e4 ?_;have e4:¬C-1=0:=by simpa using e4
          refine fG (λ_=>?_) λ_=>?_
          ·exact Af ⟨⟨_,rfl⟩,.inr ⟨_,_,_,_,_,_,rfl,M4,by exact Ec,l4,by lia⟩⟩
          ·exact Af ⟨⟨_,rfl⟩,_,_,_,_,_,_,rfl,M4,by lia,l4,by lia⟩
    ·rintro c l ⟨⟨g',rfl⟩,na,nb,J,bm,ac,bc,rfl,M,T,a0,bf⟩;have:=M.sz;omega
    ·rintro c l ⟨⟨g',rfl⟩,h⟩;rcases h with⟨r,er,hr⟩|⟨na,nb,e9,dH,ac,bc,rfl,M,T,a0,bf⟩
     ·obtain⟨c1,c2⟩:=c;cases er;exact Af ⟨⟨g',rfl⟩,r,rfl,hr⟩
     ·dsimp only;refine Ac<|wpS_modify ?_;exact Af ⟨⟨_,rfl⟩,_,_,_,_,rfl,M,T,a0,by lia⟩
 ·rintro c l ⟨⟨g,rfl⟩,na,nb,a5,mg,rfl,M,T,a0,hs⟩;have:=M.sz;lia
 ·rintro c l ⟨⟨g,rfl⟩,r,er,hr⟩;obtain⟨c1,c2⟩:=c;cases er;exact Af<|q r g hr
end
theorem Qm{σ:Type}{st I:σ}{Q:PUnit->σ->Prop}(h:Q ⟨⟩ I):wpS M A E s (set I:StateT σ Sem PUnit) Q st:=by unfold wpS;rw[StateT.run_set];exact An ⟨rfl,h⟩
theorem ld{α:Type}:∀(m:List α) (arr:Array α) (i k:Nat),i+k+m.length<=arr.size->((m.zipIdx k).foldl (λ(a:Array α) (I:α×Nat)=>a.setIfInBounds (i+I.2) I.1) arr).toList=arr.toList.take (i+k)++(m++arr.toList.drop (i+k+m.length))
 |[],arr,i,k,h=>by simp
 |x::m,arr,i,k,h=>by
  rw[List.zipIdx_cons,List.foldl_cons];simp only[AK] at h;rw[ld m _ i (k+1) (by simp;lia)];have e:(arr.setIfInBounds (i+k) x).toList=arr.toList.set (i+k) x:=by simp
  have l:arr.toList.length=arr.size:=A2;rw[e,List.drop_set,AC (by exact Bg _ _),<-Nat.add_assoc,Bc,BX (by lia),List.take_set_of_le (by simp +arith only),AK];simp;congr 1;simp +arith only
section
variable {w:World}{κ:SortKind}{Ok:Keyed->Prop}{f:Keyed->Int}
theorem sI{l:List Keyed}(s:l.Pairwise λx y=>f x<=f y)(I:i<=j)(J:j<l.length):f (l[i]'(by exact i9))<=f l[j]:=by
 rcases DB I with h|h
 ·exact Cg.mp s i j (by exact i9) J h
 ·subst h;exact De _
theorem F'{l:List Keyed}{x:Keyed}(h:x∈l):∃i,∃hi:i<l.length,l[i]=x:=BJ h
theorem alt{l:List Keyed}{x:Keyed}(h:x∈l.take m):∃i,∃hi:i<l.length,i<m/\l[i]=x:=by obtain⟨i,hi,rfl⟩:=BJ h;rw[AQ] at hi;exact⟨i,by lia,by lia,BF.symm⟩
theorem Fs{l:List Keyed}{x:Keyed}{k:Nat}(h:x∈l.drop k):∃i,∃hi:i<l.length,k<=i/\l[i]=x:=by obtain⟨i,hi,rfl⟩:=BJ h;rw[BC] at hi;exact⟨k+i,by lia,Bg _ _,DI.symm⟩
theorem Qn(O:Ord prog w A s κ Ok f){st:SortSt}{X Y:List Keyed}{w1 w2:Nat}{Q:Bool->SortSt->Prop}(hk:kindOf st=κ)(hf:failedOf st=none)(hp:pendingOf st=#[(0,X.length,w1),(X.length,Y.length,w2)])(ea:(arrOf st).toList=X++Y)(ok:∀x∈X++Y,Ok x)
 (lX:0<X.length) (lY:0<Y.length) (sX:X.Pairwise λx y=>f x<=f y) (sY:Y.Pairwise λx y=>f x<=f y) (q:∀T,failedOf T=none->(pendingOf T).size=1->(arrOf T).toList.Perm (X++Y)->((arrOf T).toList.Pairwise λx y=>f x<=f y)->Q true T):wpS (model prog w) A E s (mergeAt' 0) Q st:=by
 have a1:(pendingOf st)[0]?=some (0,X.length,w1):=by rw[hp];rfl
 have a2:(pendingOf st)[0+1]?=some (X.length,Y.length,w2):=by rw[hp];rfl
 have a3:(((pendingOf st).setIfInBounds 0 (0,X.length+Y.length,w1)).eraseIdxIfInBounds<|0+1).size=1:=by simp[hp]
 refine Ac<|wpS_get ?_;rw[show(sortPriv% PySem.Builtin.SortState.pending) st=pendingOf st from rfl,a1,a2];dsimp only;refine Ac<|Qm ?_;generalize ((pendingOf st).setIfInBounds 0 (0,X.length+Y.length,w1)).eraseIdxIfInBounds (0+1)=pn at a3 ⊢;have al:∀i (I:i<X.length),(arrOf st)[i]?=some X[i]:=λi I=>by rw[<-Bd,ea,AJ I];simp
 have au:∀i (I:i<Y.length),(arrOf st)[X.length+i]?=some Y[i]:=λi I=>by rw[<-Bd,ea,Ax<|Bg _ _,BR];simp
 have a7:∀x∈X,Ok x:=λx l=>ok x<|Ai _ l;have ab:∀x∈Y,Ok x:=λx l=>ok x<|Ae _ l;obtain⟨tX,av⟩:∃t:Nat->Keyed,t=λi=>(X[i]?).getD X[0]:=⟨_,rfl⟩;have p:∀i (I:i<X.length),tX i=X[i]:=λi I=>by rw[av];simp[I]
 obtain⟨tY,aL⟩:∃t:Nat->Keyed,t=λi=>(Y[i]?).getD X[0]:=⟨_,rfl⟩;have C:∀i (I:i<Y.length),tY i=Y[i]:=λi I=>by rw[aL];simp[I]
 refine Ac<|x8 (x:=Y[0]) (au 0 lY) ?_;refine Ac (bw O hk (ab _<|Ct _) lX tX (λi I=>⟨by rw[p i I,Dw];exact al i I,by rw[p i I];exact a7 _<|Ct _⟩) (λi=>!decide (f Y[0]<f (tX i))) (λi I=>by rw[AB (by simp)]) (λi j ac J h=>?_) λk ba a4 a5=>?_)
 ·have:=sI sX ac J;rw[p j J] at h;rw[p i (by exact i9)];simp at h ⊢;omega
 have a4:∀i (I:i<k),f (X[i]'(by exact D_))<=f Y[0]:=λi I=>by have:=a4 i I;rw[p i (by lia)] at this;simpa using this
 have a5:∀i (J:i<X.length),k<=i->f Y[0]<f X[i]:=λi J I=>by have:=a5 i I J;rw[p i J] at this;simpa using this
 dsimp only;rw[Dw];by_cases c:(X.length-k==0)=true
 ·rw[AC c];have c:X.length-k=0:=by simpa using c
  refine Af (q _ hf a3 (by show(arrOf st).toList.Perm _;rw[ea]) (by show(arrOf st).toList.Pairwise _;rw[ea];refine AW.mpr ⟨sX,sY,λx l y hy=>?_⟩;obtain⟨i,I,rfl⟩:=F' l;obtain⟨j,J,rfl⟩:=F' hy;exact BN (a4 i (by lia))<|sI sY (A3 _) J))
 rw[AB c];have c:k<X.length:=by
  have:¬X.length-k=0:=by simpa using c
  lia
 refine Ac (x8 (x:=X[X.length-1]) (by rw[show k+(X.length-k)-1=X.length-1 by lia];exact al _ (by lia)) ?_);refine Ac (bw O hk (a7 _<|Ct _) (by lia) tY (λi I=>⟨by rw[C i I];exact au i I,by rw[C i I];exact ab _<|Ct _⟩) (λi=>decide<|f (tY i)<f X[X.length-1]) (λi I=>by rw[AC rfl]) (λi j ac J h=>?_) λm bb a0 o=>?_)
 ·have:=sI sY ac J;rw[C j J] at h;rw[C i (by exact i9)];simp at h ⊢;omega
 have a0:∀i (I:i<m),f (Y[i]'(by exact D_))<f X[X.length-1]:=λi I=>by have:=a0 i I;rw[C i (by lia)] at this;simpa using this
 have o:∀i (J:i<Y.length),m<=i->f X[X.length-1]<=f Y[i]:=λi J I=>by have:=o i I J;rw[C i J] at this;simpa using this
 have m0:0<m:=Nat.pos_of_ne_zero λh=>by have h5:=o 0 lY (by lia);have h6:=a5 (X.length-1) (by lia) (by lia);omega
 dsimp only;rw[AB (show ¬(m==0)=true by simp;lia)];have ex:((arrOf st).extract k X.length).toList=X.drop k:=by rw[gL,ea,List.drop_append_of_le_length (by lia),Dq (by simp),AZ (by simp)]
 have ey:((arrOf st).extract X.length<|X.length+m).toList=Y.take m:=by rw[gL,ea,List.drop_left,BR]
 have x0:∀(r:Array Keyed) (g:Nat),ko f (X.drop k) (Y.take m) r.toList->Q (failedOf st).isNone (SortSt.mk' (kindOf st) (r.toList.zipIdx.foldl (λa x=>a.setIfInBounds (k+x.2) x.1)<|arrOf st) pn g<|failedOf st):=by
  rintro r g ⟨hm,hs⟩;have lr:r.toList.length=X.length-k+m:=by rw[hm.length_eq];simp;lia
  have pt:=ld r.toList (arrOf st) k 0 (by rw[lr,<-A2,ea,Ad];lia);rw[ea,lr,Nat.add_zero,show k+(X.length-k+m)=X.length+m by lia,Dq (by lia),List.drop_length_add_append] at pt;rw[hf];refine q _ rfl a3 ((Ey pt).trans ?_)<|Eq.subst (motive:=List.Pairwise λx y=>f x<=f y) pt.symm ?_
  ·have h1:=(Bz<|X.take k).mpr<|(Bw<|Y.drop m).mpr hm;rwa[AA<|X.drop k,Be,<-AA (X.take k) (X.drop k),Be] at h1
  ·refine AW.mpr ⟨sX.sublist<|DH _ _,AW.mpr ⟨hs,sY.sublist<|List.drop_sublist _ _,λx l y hy=>?_⟩,λx l y hy=>?_⟩
   ·obtain⟨j,J,h2,rfl⟩:=Fs hy;rcases Ag.mp (hm.mem_iff.mp l) with h|h
    ·obtain⟨i,I,_,rfl⟩:=Fs h;exact BN (sI sX (by lia) (by lia))<|o j J h2
    ·obtain⟨i,I,h1,rfl⟩:=alt h;exact sI sY (by lia) J
   ·obtain⟨i,I,h1,rfl⟩:=alt l;have low:∀z∈Y,f X[i]<=f z:=λz hz=>by obtain⟨j,J,rfl⟩:=F' hz;exact BN (a4 i h1) (sI sY (A3 _) J)
    rcases Ag.mp hy with h|h
    ·rcases Ag.mp (hm.mem_iff.mp h) with h|h
     ·obtain⟨j,J,h2,rfl⟩:=Fs h;exact sI sX (by lia) J
     ·exact low y<|BG h
    ·exact low y<|CO h
 generalize (arrOf st).extract k X.length=U at ex ⊢;generalize (arrOf st).extract X.length (X.length+m)=V at ey ⊢;have zU:U.size=X.length-k:=by rw[<-A2,ex];simp
 have zV:V.size=m:=by rw[<-A2,ey];simp;lia
 have q5:0<U.size:=by lia
 have q6:0<V.size:=by lia
 have v0:V[0]=Y[0]:=by
  have:V.toList[0]?=(Y.take m)[0]?:=by rw[ey]
  rw[Bd,C7,AC m0] at this;simpa[q6,lY] using this
 have ul:U[U.size-1]=X[X.length-1]:=by
  have:U.toList[U.size-1]?=(X.drop k)[U.size-1]?:=by rw[ex]
  rw[Bd,C8,show k+(U.size-1)=X.length-1 by lia] at this;rw[Array.getElem?_eq_getElem (by lia),Al (by lia)] at this;exact AO this
 have q1:∀x∈U.toList,Ok x:=λx l=>a7 x (CO (by rw[ex] at l;exact l));have q2:∀x∈V.toList,Ok x:=λx l=>ab x (BG (by rw[ey] at l;exact l));have q3:U.toList.Pairwise λx y=>f x<=f y:=by rw[ex];exact sX.sublist<|List.drop_sublist _ _
 have q4:V.toList.Pairwise λx y=>f x<=f y:=by rw[ey];exact sY.sublist<|DH _ _
 have q7:∀x∈U.toList,f V[0]<f x:=λx l=>by rw[v0];rw[ex] at l;obtain⟨i,I,h1,rfl⟩:=Fs l;exact a5 i I h1
 have q8:∀x∈V.toList,f x<f U[U.size-1]:=λx l=>by rw[ul];rw[ey] at l;obtain⟨i,I,h1,rfl⟩:=alt l;exact a0 i h1
 rw[<-ex,<-ey] at x0;split
 ·exact Ac<|zR O hk q1 q2 q3 q4 q5 q6 q7 q8 λr g h=>Ac<|wpS_modify<|Ac<|wpS_get<|Af<|x0 r g h
 ·exact Ac<|yM O hk q1 q2 q3 q4 q5 q6 q7 q8 λr g h=>Ac<|wpS_modify<|Ac<|wpS_get<|Af<|x0 r g h
end
theorem iw{arr:Array α}{P R:List α}(h:arr.toList=P++R)(I:n<=R.length):(mirror arr P.length (P.length+n)<|(P.length+n-P.length) / 2).toList=P++((R.take n).reverse++R.drop n):=by
 have J:arr.size=P.length+R.length:=by rw[<-A2,h];simp
 refine DJ λk=>?_;rw[Bd,getElem?_mirror_all (by lia)];by_cases c:P.length<=k/\k<P.length+n
 ·rw[AC c,<-Bd,h,Ax (by omega),Ax (by lia),AJ (by simp;omega),List.getElem?_reverse (by simp;omega),C7,AQ,AC (by omega)];congr 1;lia
 ·rw[AB c,<-Bd,h];by_cases c2:k<P.length
  ·rw[AJ c2,AJ c2]
  ·rw[Ax (by exact yJ),Ax (by omega),Ax (by simp;lia),C8];congr 1;simp;lia
theorem tV{arr:Array α}{P R:List α}{k l:Nat}(h:arr.toList=P++R)(I:k<R.length)(J:l<=k):(bubble arr (P.length+k)<|P.length+k-(P.length+l)).toList=P++(R.take l++R[k]::((R.drop l).take (k-l)++R.drop (k+1))):=by
 have U:arr.size=P.length+R.length:=by rw[<-A2,h];simp
 refine DJ λi=>?_;rw[Bd,getElem?_bubble (by lia) _ (by exact EK _ _),show P.length+k-(P.length+k-(P.length+l))=P.length+l by omega];by_cases c1:i=P.length+l
 ·rw[AC c1,<-Bd,h,c1,Ax (by exact Bg _ _),Ax (by exact Bg _ _),Ax (by simp;lia)];rw[show P.length+l-P.length-(R.take l).length=0 by simp;lia,show P.length+k-P.length=k by lia,List.getElem?_cons_zero];simp[I]
 ·rw[AB c1];by_cases c2:P.length+l<i/\i<=P.length+k
  ·rw[AC c2,<-Bd,h,Ax (by omega),Ax (by lia),Ax (by simp;lia)];obtain⟨d,hd⟩:∃d,i=P.length+l+d+1:=⟨i-P.length-l-1,by omega⟩;rw[show i-P.length-(R.take l).length=d+1 by simp;lia,Dc,AJ (by simp;omega),C7,AC (by omega),C8];congr 1;omega
  ·rw[AB c2,<-Bd,h];by_cases c3:i<P.length
   ·rw[AJ c3,AJ c3]
   ·rw[Ax (by exact yJ),Ax (by omega)];by_cases c4:i<P.length+l
    ·rw[AJ (by simp;lia),C7,AC (by omega)]
    ·obtain⟨d,hd⟩:∃d,i=P.length+k+d+1:=⟨i-P.length-k-1,by omega⟩;rw[Ax (by simp;lia),show i-P.length-(R.take l).length=(k-l)+d+1 by simp;lia,Dc,Ax (by simp;omega),C8];congr 1;simp;lia
section
variable {w:World}{κ:SortKind}{Ok:Keyed->Prop}{f:Keyed->Int}
structure Tl(κ:SortKind)(Ok:Keyed->Prop)(st:SortSt)(P R:List Keyed):Prop where
 kind:kindOf st=κ
 arr:(arrOf st).toList=P++R
 ok:∀x∈R,Ok x
theorem iJ(O:Ord prog w A s κ Ok f){st:SortSt}{P R:List Keyed}(T:Tl κ Ok st P R)(hi:i<R.length)(J:j<R.length){a b:Nat}(ea:a=P.length+i)(eb:b=P.length+j){Q:Option Bool->SortSt->Prop}(q:Q (some<|decide<|f R[i]<f R[j]) st):wpS (model prog w) A E s (ltAt' a b) Q st:=by
 have I:∀i (hi:i<R.length),(arrOf st)[P.length+i]?=some R[i]:=λi hi=>by rw[<-Bd,T.arr,Ax (by exact Bg _ _),BR];simp
 subst ea eb;rw[ltAt'_eq];refine Ac<|wpS_get ?_;refine Ac<|x8 (I i hi)<|Ac<|x8 (I j J) ?_;exact w_lt O T.kind (T.ok _<|Ct _) (T.ok _<|Ct _) q
def Up(f:Keyed->Int)(R:List Keyed)(n:Nat):Prop:=∀i j (_:i<=j) (_:j<R.length),j<n->f (R[i]'(by exact i9))<=f R[j]
theorem Up.snoc{R:List Keyed}(h:Up f R n)(h1:1<=n)(g:n<R.length)(hs:f (R[n-1]'(by exact oo))<=f R[n]):Up f R (n+1):=λi j I J U=>by
 rcases Dx j n with c|c
 ·exact h i j I J c
 ·have e:j=n:=by lia
  subst e;rcases Dx i j with c2|c2
  ·exact BN (h i (j-1) (by omega) (by exact oo) (by exact yV)) hs
  ·have e:i=j:=by lia
   subst e;exact De _
theorem Up.pair{R:List Keyed}(h:Up f R n)(g:n<=R.length):(R.take n).Pairwise λx y=>f x<=f y:=by rw[Cg];intro i j I J U;rw[AQ] at I J;rw[BF,BF];exact h i j (by exact iK) (by lia) (by lia)
end
section
variable {w:World}{κ:SortKind}{Ok:Keyed->Prop}{f:Keyed->Int}
theorem Tl.same{st:SortSt}{P R R':List Keyed}(T:Tl κ Ok st P R)(p:R'.Perm R){arr:Array Keyed}(h:arr.toList=P++R'):Tl κ Ok (setArr st arr) P R':=⟨T.kind,h,λx I=>T.ok x<|p.mem_iff.mp I⟩
theorem Up.one{R:List Keyed}:Up f R 1:=λi j I J h=>by
 have:i=j:=by lia
 subst this;exact De _
theorem i5{c:Prop}{_:Decidable c}{K T:StateT SortSt Sem α}{P:SortSt->Prop}{Q:α->SortSt->Prop}{st:SortSt}(J:¬c->P st)(key:∀I,P I->wpS (model prog w) A E s K Q I)
 (hp:c->(∀I,P I->wpS (model prog w) A E s K Q I)->wpS (model prog w) A E s T Q st):wpS (model prog w) A E s (if c then T else K) Q st:=by
 by_cases h:c
 ·rw[AC h];exact hp h key
 ·rw[AB h];exact key st<|J h
def fk(f:Keyed->Int)(R:List Keyed)(n:Nat):Prop:=∀i j (_:i<=j) (_:j<R.length),j<n->f R[j]<=f (R[i]'(by exact i9))
theorem IB{R R':List Keyed}(e:R'.map f=R.map f)(h1:i<R'.length)(h2:i<R.length):f R'[i]=f R[i]:=by
 have:(R'.map f)[i]?=(R.map f)[i]?:=by rw[e]
 rw[Aq,Aq,Al h1,Al h2] at this;exact AO this
theorem fk.same{R R':List Keyed}(D:fk f R n)(e:R'.map f=R.map f):fk f R' n:=λi j I U J=>by
 have l:R'.length=R.length:=by have:=BL List.length e;rwa[Ah,Ah] at this
 rw[IB e U (by lia),IB e (by lia) (by lia)];exact D i j I (by lia) J
theorem fk.snoc{R:List Keyed}(h:fk f R n)(h1:1<=n)(g:n<R.length)(hs:f R[n]<=f (R[n-1]'(by exact oo))):fk f R (n+1):=λi j I J U=>by
 rcases Dx j n with c|c
 ·exact h i j I J c
 ·have e:j=n:=by lia
  subst e;rcases Dx i j with c2|c2
  ·exact BN hs<|h i (j-1) (by omega) (by exact oo) (by exact yV)
  ·have e:i=j:=by lia
   subst e;exact De _
theorem mB{arr:Array Keyed}{P R:List Keyed}{a b:Nat}{v:Int}(h:arr.toList=P++R)(U:a<=b)(o:b<=R.length)(g:∀i (_:i<R.length),a<=i->i<b->f R[i]=v):
 ∃R',(mirror arr (P.length+a) (P.length+b)<|(P.length+b-(P.length+a)) / 2).toList=P++R'/\R'.Perm R/\R'.map f=R.map f:=by
 have j:(P++R.take a).length=P.length+a:=by simp;lia
 have I:R=R.take a++((R.drop a).take (b-a)++(R.drop a).drop (b-a)):=by rw[Be,Be]
 have m:=iw (P:=P++R.take a) (R:=R.drop a) (n:=b-a) (by rw[h,AA,Be]) (by simp;lia);rw[j,show P.length+a+(b-a)=P.length+b by lia,AA] at m;refine⟨_,m,?_,?_⟩
 ·refine List.Perm.trans ?_<|Ey I.symm;exact(Bz _).mpr ((Bw _).mpr<|DK _)
 ·have r:((R.drop a).take<|b-a).map f=List.replicate (b-a) v:=by refine List.ext_getElem (by simp;lia) λi p l=>?_;rw[List.getElem_map,BF,DI,List.getElem_replicate];rw[Cd] at l;exact g _ _ (by lia) (by lia)
  have J:=BL (List.map f) I;rw[AD,AD,r] at J;rw[AD,AD,List.map_reverse,r,List.reverse_replicate,J]
theorem Qo(O:Ord prog w A s κ Ok f){st:SortSt}{P R:List Keyed}(T:Tl κ Ok st P R)(h1:1<=R.length){Q:Option Nat->SortSt->Prop}
 (q:∀n R' arr,1<=n->n<=R.length->R'.Perm R->arr.toList=P++R'->Up f R' n->Q (some n) (setArr st arr)):wpS (model prog w) A E s (countRun' P.length R.length) Q st:=by
 have aL:setArr st (arrOf st)=st:=rfl;refine Ac (AY (AM (I:=λx c g=>g=st/\c=(none,x)/\Up f R x)
  (Q:=λc g=>g=st/\∃n,c=(none,n)/\1<=n/\n<=R.length/\Up f R n/\(n=R.length\/∃h:n<R.length,f R[n]<f (R[n-1]'(by exact oo)))) ?_ ?_ ⟨rfl,rfl,Up.one⟩) ?_)
 ·rintro x c g t hx ⟨rfl,rfl,U⟩;dsimp only;refine Ac<|iJ O T (i:=x) (j:=x-1) hx (by exact oo) rfl (by lia) ?_;dsimp only;by_cases c:f R[x]<f (R[x-1]'(by omega))
  ·rw[Av c,AC rfl];exact Af ⟨rfl,x,rfl,t,by exact iK,U,.inr ⟨hx,c⟩⟩
  ·rw[Au c,AB (by simp)];exact Af ⟨rfl,rfl,U.snoc t hx (by omega)⟩
 ·rintro c g ⟨rfl,rfl,U⟩;exact⟨rfl,_,rfl,by lia,by lia,by rw[Cu h1] at *;exact U,.inl (by lia)⟩
 ·rintro c g ⟨rfl,n,rfl,a0,a3,U,a5⟩;dsimp only;by_cases c1:(n==R.length)=true
  ·rw[AC c1];exact Af<|q n R (arrOf g) a0 a3 (B9 _) T.arr U
  rw[AB c1];have c1:¬n=R.length:=by simpa using c1
  have a7:n<R.length:=by exact yY
  have hd:f R[n]<f (R[n-1]'(by omega)):=by
   rcases a5 with h|⟨h,h'⟩
   ·exact absurd h c1
   ·exact h'
  refine i5 (P:=λo=>∃arr R',o=setArr g arr/\arr.toList=P++R'/\R'.Perm R/\fk f R' (n+1)) (λc2=>⟨arrOf g,R,rfl,T.arr,B9 _,?_⟩) ?_ λc2 key=>?_
  ·obtain rfl:n=1:=by lia
   exact fk.snoc (λi j ab hj a4=>by (have e:i=j:=by lia);(subst e;exact De _)) (Ap _) a7<|BH hd
  rotate_left
  ·refine Ac<|iJ O T (i:=0) (j:=n-1) (by assumption) (by exact oo) rfl (by omega) ?_;dsimp only;by_cases c3:f R[0]<f (R[n-1]'(by omega))
   ·rw[Av c3,AC rfl];exact Af<|q n R (arrOf g) a0 a3 (B9 _) T.arr U
   rw[Au c3,AB (by simp)];have al:∀i (_:i<R.length),0<=i->i<n->f R[i]=f R[0]:=λi hi _ av=>by have a1:=U 0 i (A3 _) hi av;have a2:=U i (n-1) (by lia) (by lia) (by lia);lia
   obtain⟨R',m1,m2,m3⟩:=mB (f:=f) T.arr (A3 n) a3 al;refine Ac<|wpS_modify<|key _ ⟨_,R',rfl,m1,m2,fk.same (fk.snoc (λi j ab hj a4=>?_) a0 a7<|BH hd) m3⟩;rw[al j hj (A3 _) a4,al i (by lia) (A3 _) (by lia)];exact De _
  rintro _ ⟨arr,R0,rfl,r,ac,D0⟩;refine Ac<|wpS_lift<|BQ ⟨rfl,?_⟩;have l0:R0.length=R.length:=ac.length_eq;refine Ac (AY (AM (I:=λx c o=>∃J arr R',c=(none,x,J)/\o=setArr g arr/\arr.toList=P++R'/\R'.Perm R/\fk f R' x/\J+1<=x/\∃v,∀i (_:i<R'.length),x-(J+1)<=i->i<x->f R'[i]=v)
   (Q:=λc o=>∃n J arr R',c=(none,n,J)/\o=setArr g arr/\arr.toList=P++R'/\R'.Perm R/\fk f R' n/\J+1<=n/\n<=R.length/\∃v,∀i (_:i<R'.length),n-(J+1)<=i->i<n->f R'[i]=v) ?_ ?_ ⟨0,arr,R0,rfl,rfl,r,ac,D0,by lia,f<|R0[n]'(by lia),λi hi h2 h3=>by (have e:i=n:=by lia);(subst e;rfl)⟩) ?_)
  ·rintro x c o t hx ⟨J,arr,p,rfl,rfl,r,l,D,hq,v,C⟩;have l1:p.length=R.length:=l.length_eq;have T1:=T.same l r;dsimp only;refine Ac<|iJ O T1 (i:=x) (j:=x-1) (by lia) (by lia) rfl (by lia) ?_;dsimp only;by_cases c:f (p[x]'(by lia))<f (p[x-1]'(by omega))
   ·rw[Av c,AC rfl];refine i5 (P:=λo=>∃arr R',o=setArr g arr/\arr.toList=P++R'/\R'.Perm R/\fk f R' (x+1)) (λ_=>⟨arr,p,rfl,r,l,D.snoc (by lia) (by lia)<|BH c⟩) ?_ λc2 key=>?_
    ·rintro _ ⟨arr,R',rfl,r,l,D⟩;exact Af ⟨0,arr,R',rfl,rfl,r,l,D,by lia,f (R'[x]'(by have:=l.length_eq;lia)),λi hi h2 h3=>by (have e:i=x:=by lia);(subst e;rfl)⟩
    ·obtain⟨R',m1,m2,m3⟩:=mB (f:=f) (a:=x-(J+1)) (b:=x) r (by lia) (by lia) C;refine Ac<|wpS_modify<|key _ ⟨_,R',rfl,?_,m2.trans l,fk.same (D.snoc (by lia) (by lia)<|BH c) m3⟩;rw[<-m1];show(mirror arr (P.length+x-(J+1)) (P.length+x)<|(P.length+x-(P.length+x-(J+1))) / 2).toList=_;rw[show P.length+x-(J+1)=P.length+(x-(J+1)) by lia]
   ·rw[Au c,AB (by simp)];refine Ac<|iJ O T1 (i:=x-1) (j:=x) (by omega) (by lia) (by lia) rfl ?_;dsimp only;by_cases c3:f (p[x-1]'(by omega))<f (p[x]'(by lia))
    ·rw[Av c3,AC rfl];exact Af ⟨x,J,arr,p,rfl,rfl,r,l,D,hq,by lia,v,C⟩
    ·rw[Au c3,AB (by simp)];refine Af ⟨J+1,arr,p,rfl,rfl,r,l,D.snoc (by lia) (by lia) (by lia),by lia,v,λi hi h2 h3=>?_⟩;rcases Dx i x with h|h
     ·exact C i hi (by lia) h
     ·have:i=x:=by lia
      subst this;rw[<-C (i-1) (by lia) (by lia) (by lia)];lia
  ·rintro c o ⟨J,arr,p,rfl,rfl,r,l,D,hq,v,C⟩;exact⟨_,J,arr,p,rfl,rfl,r,l,D,hq,by lia,v,C⟩
  ·rintro c o ⟨n,J,arr,p,rfl,rfl,r,l,D,hq,g2,v,C⟩;have l1:p.length=R.length:=l.length_eq;dsimp only;refine i5 (P:=λo=>∃arr R',o=setArr g arr/\arr.toList=P++R'/\R'.Perm R/\fk f R' n) (λ_=>⟨arr,p,rfl,r,l,D⟩) ?_ (λc2 key=>?_)
   rotate_left
   ·obtain⟨R',m1,m2,m3⟩:=mB (f:=f) (a:=n-(J+1)) (b:=n) r (by lia) (by lia) C;refine Ac<|wpS_modify<|key _ ⟨_,R',rfl,?_,m2.trans l,D.same m3⟩;rw[<-m1];show(mirror arr (P.length+n-(J+1)) (P.length+n)<|(P.length+n-(P.length+n-(J+1))) / 2).toList=_;rw[show P.length+n-(J+1)=P.length+(n-(J+1)) by lia]
   clear C D r l l1;rintro _ ⟨arr,p,rfl,r,l,D⟩;have l1:p.length=R.length:=l.length_eq;have T1:=T.same l r;have T':=T1.same (R':=(p.take n).reverse++p.drop n) (((Bw _).mpr<|DK _).trans (by rw[Be]))<|iw r (by lia);obtain⟨R',eR⟩:∃R',R'=(p.take n).reverse++p.drop n:=⟨_,rfl⟩;have au:R'.Perm R:=by rw[eR];exact(((Bw _).mpr<|DK _).trans (by rw[Be])).trans l
   have lR:R'.length=R.length:=au.length_eq;have U':Up f R' n:=λi j ab hj a4=>by
    subst eR;rw[DU (by simp;lia),DU (by simp;lia),List.getElem_reverse,List.getElem_reverse,BF,BF];refine D _ _ ?_ (by simp;omega) ?_
    ·simp;omega
    ·simp;omega
   rw[<-eR] at T';refine Ac<|wpS_modify ?_;refine Ac (AY (AM (I:=λx c o=>o=setArr g (mirror arr P.length (P.length+n)<|(P.length+n-P.length) / 2)/\c=(none,x)/\Up f R' x)
    (Q:=λc o=>o=setArr g (mirror arr P.length (P.length+n)<|(P.length+n-P.length) / 2)/\∃n,c=(none,n)/\1<=n/\n<=R.length/\Up f R' n) ?_ ?_ ⟨rfl,rfl,U'⟩) ?_)
   ·rintro x c o t hx ⟨rfl,rfl,U⟩;dsimp only;refine Ac<|iJ O T' (i:=x) (j:=x-1) (by lia) (by omega) rfl (by lia) ?_;dsimp only;by_cases c:f (R'[x]'(by omega))<f (R'[x-1]'(by omega))
    ·rw[Av c,AC rfl];exact Af ⟨rfl,x,rfl,by lia,by exact iK,U⟩
    ·rw[Au c,AB (by simp)];exact Af ⟨rfl,rfl,U.snoc (by omega) (by lia) (by omega)⟩
   ·rintro c o ⟨rfl,rfl,U⟩;exact⟨rfl,_,rfl,by lia,by lia,U⟩
   ·rintro c o ⟨rfl,n,rfl,k1,k2,U⟩;exact Af<|q n R' _ k1 k2 au T'.arr U
end
section
variable {w:World}{κ:SortKind}{Ok:Keyed->Prop}{f:Keyed->Int}
theorem Up.of{R:List Keyed}(h:(R.take n).Pairwise λx y=>f x<=f y):Up f R n:=λi j I U J=>by have:=sI h (i:=i) (j:=j) I (by simp;lia);rw[BF,BF] at this;exact this
theorem Qp{R:List Keyed}{k l:Nat}(I:k<R.length)(J:l<=k):(R.take l++R[k]::((R.drop l).take (k-l)++R.drop (k+1))).Perm R:=by
 have e:R=R.take l++((R.drop l).take (k-l)++(R[k]::R.drop (k+1))):=by rw[<-AA,Fq _ J,<-CY I,Be]
 refine List.Perm.trans ?_<|Ey e.symm;exact(Bz _).mpr B7.symm
theorem Qq{R:List Keyed}{k l:Nat}(p:k<R.length)(r:l<=k)(U:Up f R k)(lo:∀i (_:i<l),f (R[i]'(by lia))<=f R[k])(hi:∀i (_:i<k),l<=i->f R[k]<=f (R[i]'(by exact qR))):
 Up f (R.take l++R[k]::((R.drop l).take (k-l)++R.drop (k+1))) (k+1):=by
 apply Up.of;have e:R.take l++R[k]::((R.drop l).take (k-l)++R.drop (k+1))=(R.take l++R[k]::(R.drop l).take (k-l))++R.drop (k+1):=by simp
 rw[e,List.take_left' (by simp;lia)];have I:=U.pair<|Bf p;rw[<-Fq R r] at I;have I:=AW.mp I;have t:∀y∈(R.drop l).take (k-l),f R[k]<=f y:=λy J=>by obtain⟨j,o,rfl⟩:=BJ J;rw[AQ,BC] at o;rw[BF,DI];exact hi (l+j) (by lia) (by exact Bg _ _)
 have C:∀x∈R.take l,f x<=f R[k]:=λx g=>by obtain⟨j,o,rfl⟩:=BJ g;rw[AQ] at o;rw[BF];exact lo j (by lia)
 refine AW.mpr ⟨I.1,List.pairwise_cons.mpr ⟨t,I.2.1⟩,λx g y J=>?_⟩;rcases Ao.mp J with rfl|J
 ·exact C x g
 ·exact I.2.2 x g y J
theorem Qr(O:Ord prog w A s κ Ok f){st:SortSt}{P R:List Keyed}(T:Tl κ Ok st P R){ok:Nat}(hn:n<=R.length)(h1:1<=ok)(ho:ok<=n)(U:Up f R ok){Q:Bool->SortSt->Prop}
 (q:∀R' arr,R'.Perm R->arr.toList=P++R'->Up f R' n->Q true (setArr st arr)):wpS (model prog w) A E s (binarySort' P.length n ok) Q st:=by
 have a0:setArr st (arrOf st)=st:=rfl;refine Ac (AY (AM (I:=λx c J=>c=(none,())/\∃R' arr,J=setArr st arr/\R'.Perm R/\arr.toList=P++R'/\Up f R' x)
  (Q:=λc J=>c=(none,())/\∃R' arr,J=setArr st arr/\R'.Perm R/\arr.toList=P++R'/\Up f R' n) ?_ ?_ ⟨rfl,R,arrOf st,rfl,B9 _,T.arr,by rw[CB h1];exact U⟩) ?_)
 ·rintro x c J a1 hx ⟨rfl,R',arr,rfl,p,t,o⟩;have T':=T.same p t;have lR:R'.length=R.length:=p.length_eq;have g:x<R'.length:=by lia
  dsimp only;refine Ac (AY (AM (I:=λy c J=>J=setArr st arr/\∃l r,c=(none,l,r)/\l<=r/\r<=x/\r-l+y<=x/\(∀i (_:i<l) (_:i<R'.length),f R'[i]<=f R'[x])/\(∀i (_:i<x),r<=i->f R'[x]<=f (R'[i]'(by exact qR))))
   (Q:=λc J=>J=setArr st arr/\∃l,c=(none,l,l)/\l<=x/\(∀i (_:i<l) (_:i<R'.length),f R'[i]<=f R'[x])/\(∀i (_:i<x),l<=i->f R'[x]<=f (R'[i]'(by lia)))) ?_ ?_ ⟨rfl,0,x,rfl,A3 _,Ap _,by exact EK _ _,λi h=>by lia,λi h h'=>by omega⟩) ?_)
  ·rintro y c J _ hy ⟨rfl,l,r,rfl,g1,g2,g3,C,g5⟩;dsimp only;by_cases c:l>=r
   ·rw[AC c];obtain rfl:l=r:=by lia
    exact Af ⟨rfl,l,rfl,g2,C,g5⟩
   ·rw[AB c];refine Ac<|iJ O T' (i:=x) (j:=(l+r) / 2) g (by lia) rfl rfl ?_;dsimp only;by_cases e:f R'[x]<f (R'[(l+r) / 2]'(by lia))
    ·rw[Av e,AC rfl];refine Af ⟨rfl,l,(l+r) / 2,rfl,by lia,by lia,by omega,C,λi h h'=>?_⟩;exact BN (BH e)<|o _ _ h' (by exact qR) h
    ·rw[Au e,AB (by simp)];refine Af ⟨rfl,(l+r) / 2+1,r,rfl,by lia,g2,by omega,λi h h'=>?_,g5⟩;exact BN (o i ((l+r) / 2) (by exact Hz) (by lia) (by lia)) (by omega)
  ·rintro c J ⟨rfl,l,r,rfl,g1,g2,g3,C,g5⟩;obtain rfl:l=r:=by lia
   exact⟨rfl,l,rfl,g2,C,g5⟩
  ·rintro c J ⟨rfl,l,rfl,g2,C,g5⟩;dsimp only;refine Ac<|wpS_modify ?_;exact Af ⟨rfl,_,_,rfl,(Qp g g2).trans p,tV t g g2,Qq g g2 o (λi h=>C i h (by lia)) g5⟩
 ·rintro c J ⟨rfl,R',arr,rfl,p,t,o⟩;exact⟨rfl,R',arr,rfl,p,t,by rw[CB h1,Cu ho] at o;exact o⟩
 ·rintro c J ⟨rfl,R',arr,rfl,p,t,o⟩;exact Af<|q R' arr p t o
end
section
variable {w:World}{κ:SortKind}{Ok:Keyed->Prop}{f:Keyed->Int}
theorem Qs{N:Nat}(h:N<128):N<=2*(sortPriv% PySem.Builtin.minRun) N N 0:=by
 show N<=2*minRun' N N 0;cases N with
 |zero=>exact A3 _
 |succ r=>
  rw[minRun'_succ];split
  ·lia
  ·cases r with|zero=>lia|succ r=>rw[minRun'_succ,AC (by lia)];lia
def Ga(f:Keyed->Int)(I:Nat)(pn:Array<|Nat×Nat×Nat)(X Y R:List Keyed):Prop:=
 (pn=#[]/\X=[]/\Y=[])\/(∃w,pn=#[(0,X.length,w)]/\Y=[]/\(I<=X.length\/R=[])/\X.Pairwise λx y=>f x<=f y)\/
  ∃w v,pn=#[(0,X.length,w),(X.length,Y.length,v)]/\0<X.length/\0<Y.length/\R=[]/\(X.Pairwise λx y=>f x<=f y)/\Y.Pairwise λx y=>f x<=f y
theorem vL(O:Ord prog w A s κ Ok f){st:SortSt}{Q:Unit->SortSt->Prop}(a2:(arrOf st).size<128)(hk:kindOf st=κ)(hp:pendingOf st=#[])(hf:failedOf st=none)(ok:∀x∈(arrOf st).toList,Ok x)
 (q:∀g,failedOf g=none->(arrOf g).toList.Perm (arrOf st).toList->((arrOf g).toList.Pairwise λx y=>f x<=f y)->Q () g):wpS (model prog w) A E s sortRuns' Q st:=by
 refine Ac<|wpS_get ?_;dsimp only;have lN:(arrOf st).toList.length=(arrOf st).size:=A2;obtain⟨N,eN⟩:∃N,N=(arrOf st).size:=⟨_,rfl⟩;rw[<-eN] at a2 lN ⊢;obtain⟨Z,eZ⟩:∃Z,Z=(arrOf st).toList:=⟨_,rfl⟩;rw[<-eZ] at lN ok q;have ab:=Qs a2;generalize (sortPriv% PySem.Builtin.minRun) N N 0=mr at ab ⊢;refine Ac (AY (AM (I:=λx c g=>∃X Y R lo,c=(none,lo)/\kindOf g=κ/\failedOf g=none/\(arrOf g).toList=X++Y++R/\(X++Y++R).Perm Z/\lo=(X++Y).length/\Ga f mr (pendingOf g) X Y R/\x<=lo)
  (Q:=λc g=>∃X Y lo,c=(none,lo)/\kindOf g=κ/\failedOf g=none/\(arrOf g).toList=X++Y/\(X++Y).Perm Z/\Ga f mr (pendingOf g) X Y []) ?_ ?_ ⟨[],[],Z,0,rfl,hk,hf,eZ.symm,.refl _,rfl,.inl ⟨hp,rfl,rfl⟩,Ap _⟩) ?_)
 ·rintro x c g _ hx ⟨X,Y,R,lo,rfl,k1,k2,t,r,rfl,k6,k7⟩;dsimp only;have lt:=r.length_eq;rw[Ad,lN] at lt;by_cases c:(X++Y).length>=N
  ·rw[AC c];cases Bx (show R.length=0 by lia);rw[AE] at t r;exact Af ⟨X,Y,_,rfl,k1,k2,t,r,k6⟩
  rw[AB c,show N-(X++Y).length=R.length by lia];have T:Tl κ Ok g (X++Y) R:=⟨k1,t,λx hx=>ok x<|r.mem_iff.mp<|Ae _ hx⟩;refine Ac<|Qo O T (by lia) λn R1 a3 g1 g2 a0 a5 U1=>?_;dsimp only;have l1:=a0.length_eq;have x0:∀{J:SortSt} {R2:List Keyed} {j:Nat} {pn:Array<|Nat×Nat×Nat},kindOf J=κ->failedOf J=none->(arrOf J).toList=X++Y++R2->pendingOf J=pn.push ((X++Y).length,j,0)->((pendingOf g=#[]/\pn=#[])\/∃v,pn=(pendingOf g).modify ((pendingOf g).size-1) λp=>(p.1,p.2.1,v))->R2.Perm R->1<=j->j<=R.length->(mr<=j\/j=R.length)->Up f R2 j->
   ∃X' Y' R' lo,((none,(X++Y).length+j):Option Unit×Nat)=(none,lo)/\kindOf J=κ/\failedOf J=none/\(arrOf J).toList=X'++Y'++R'/\(X'++Y'++R').Perm Z/\lo=(X'++Y').length/\Ga f mr (pendingOf J) X' Y' R'/\x+1<=lo:=λ{J R2 j pn} h1 h2 h3 h4 hn p2 h5 h6 h7 U=>by
   have l2:=p2.length_eq;have ac:(R2.take j).length=j:=by rw[AQ];lia
   have U':=U.pair (by lia);have pz:(X++Y++R2).Perm Z:=((Bz _).mpr p2).trans r;rcases k6 with⟨o,rfl,rfl⟩|⟨w,o,rfl,h8,h9⟩|⟨w,v',o,_,_,rfl,_⟩
   ·have e2:pn=#[]:=by
     rcases hn with⟨_,h⟩|⟨v,h⟩
     ·exact h
     ·rw[h,o];rfl
    refine⟨R2.take j,[],R2.drop j,_,rfl,h1,h2,by rw[h3];simp,by simpa using pz,by simp;lia,.inr (.inl ⟨0,by rw[h4,e2,ac];rfl,rfl,?_,U'⟩),by lia⟩;rcases h7 with h|h
    ·exact .inl (by lia)
    ·exact .inr<|List.drop_eq_nil_of_le (by lia)
   ·have e2:∃v,pn=#[(0,X.length,v)]:=by
     rcases hn with⟨h,_⟩|⟨v,h⟩
     ·rw[o] at h;cases h
     ·exact⟨v,by rw[h,o];rfl⟩
    obtain⟨v,e2⟩:=e2;have r0:R≠[]:=λe=>by rw[e] at h6;exact absurd h6 (by simp;lia)
    have h8:=h8.resolve_right r0;rw[AE] at h3 h4 pz lt c ⊢;have en:j=R2.length:=by rcases h7 with h'|h'<;>lia
    rw[AZ (by lia)] at U';exact⟨X,R2,[],_,rfl,h1,h2,by rw[h3];simp,by simpa using pz,by rw[Ad,en],.inr (.inr ⟨v,0,by rw[h4,e2,en];rfl,by lia,by lia,rfl,h9,U'⟩),by lia⟩
   ·exact absurd h6 (by simp;lia)
  have sz:(pendingOf g).size<=1:=by
   rcases k6 with⟨o,_⟩|⟨w,o,_⟩|⟨w,v',o,_,_,rfl,_⟩
   ·rw[o];exact A3 _
   ·rw[o];exact Ap _
   ·exact absurd lt (by simp at c ⊢;lia)
  by_cases cm:n<mr
  case' pos=>
   rw[AC cm];refine Ac<|wpS_lift<|BQ ⟨rfl,?_⟩;refine Ac<|Qr O (T.same a0 a5) (by lia) g1 (by lia) U1 λR2 a7 al au U2=>?_;rw[AB (by simp)];obtain⟨j,a1⟩:∃j,j=min R.length mr:=⟨_,rfl⟩;rw[<-a1] at U2 ⊢;have p2:R2.Perm R:=al.trans a0;have h7:mr<=j\/j=R.length:=by lia
   obtain⟨l,C⟩:∃l,l=setArr (setArr g a3) a7:=⟨_,rfl⟩
  case' neg=>
   rw[AB cm];obtain⟨j,a1⟩:∃j,j=n:=⟨_,rfl⟩;obtain⟨R2,a4⟩:∃R2,R2=R1:=⟨_,rfl⟩;rw[<-a1,<-a4] at U1;rw[<-a1];have U2:=U1;have p2:R2.Perm R:=by rw[a4];exact a0
   have h7:mr<=j\/j=R.length:=by lia
   obtain⟨l,C⟩:∃l,l=setArr g a3:=⟨_,rfl⟩
  all_goals
   have n1:1<=j:=by lia
   have n3:j<=R.length:=by lia
   have o:kindOf l=κ:=by rw[C];exact k1
   have e2:failedOf l=none:=by rw[C];exact k2
   have e3:(arrOf l).toList=X++Y++R2:=by rw[C];first|exact au|(rw[a4];exact a5)
   have e4:pendingOf l=pendingOf g:=by rw[C]
   rw[<-C];refine Ac<|wpS_get ?_;split
   ·refine Ac<|AY (AM (I:=λy c J=>c=(none,())/\J=l) (Q:=λc J=>c=(none,())/\J=l) ?_ ?_ ⟨rfl,rfl⟩) ?_
    ·rintro y c J _ hy ⟨rfl,rfl⟩;refine Ac<|wpS_get ?_;rw[AB (show ¬(pendingOf J).size > 1 by rw[e4];lia)];exact Af ⟨rfl,rfl⟩
    ·exactλc J h=>h
    ·rintro c J ⟨rfl,rfl⟩;dsimp only;refine Ac<|wpS_modify<|Ac<|wpS_modify<|Af ?_;exact x0 o e2 e3 rfl (.inr ⟨_,by rw[<-e4]⟩) p2 n1 n3 h7 U2
   ·rename_i hb;have hb:(pendingOf l).back?=none:=Option.eq_none_iff_forall_ne_some.mpr λp=>hb p.1 p.2.1 p.2.2;rw[e4,Array.back?_eq_none_iff] at hb;exact Ac<|wpS_modify<|Af<|x0 o e2 e3 rfl (.inl ⟨hb,e4.trans hb⟩) p2 n1 n3 h7 U2
 ·rintro c g ⟨X,Y,R,lo,rfl,k1,k2,t,r,rfl,k6,k7⟩;have lt:=r.length_eq;rw[Ad,lN] at lt;cases Bx (show R.length=0 by lia);rw[AE] at t r;exact⟨X,Y,_,rfl,k1,k2,t,r,k6⟩
 ·rintro c g ⟨X,Y,lo,rfl,k1,k2,t,r,k6⟩;dsimp only;have lt:=r.length_eq;rw[lN] at lt;refine Ac (AY (AM (I:=λy c J=>c=(none,())/\((y=0/\J=g)\/(failedOf J=none/\(pendingOf J).size<=1/\(arrOf J).toList.Perm Z/\(arrOf J).toList.Pairwise λx y=>f x<=f y)))
   (Q:=λc J=>c=(none,())/\failedOf J=none/\(arrOf J).toList.Perm Z/\(arrOf J).toList.Pairwise λx y=>f x<=f y) ?_ ?_ ⟨rfl,.inl ⟨rfl,rfl⟩⟩) ?_)
  ·rintro y c J _ hy ⟨rfl,h⟩;refine Ac<|wpS_get ?_;rcases h with⟨rfl,rfl⟩|⟨h1,h2,h3⟩
   ·rcases k6 with⟨o,rfl,rfl⟩|⟨w,o,rfl,_,h9⟩|⟨w,v,o,lX,lY,_,sX,sY⟩
    ·rw[AC (show(pendingOf J).size<=1 by rw[o];exact A3 _)];exact Af ⟨rfl,k2,by rw[t];exact r,by rw[t];exact .nil⟩
    ·rw[AC (show(pendingOf J).size<=1 by rw[o];exact Ap _)];exact Af ⟨rfl,k2,by rw[t];exact r,by rw[t,AE];exact h9⟩
    ·rw[AB (show ¬(pendingOf J).size<=1 by rw[o];exact Nat.not_succ_le_self 1)];have gen:∀b:Bool,(if b=true then(pendingOf J).size-2-1 else(pendingOf J).size-2)=0:=λb=>by cases b<;>rw[o]<;>rfl
     refine Ac ?_;show wpS _ _ _ _ (mergeAt'<|if _=true then(pendingOf J).size-2-1 else(pendingOf J).size-2) _ _;rw[gen];refine Qn O k1 k2 o t (λx hx=>ok x<|r.mem_iff.mp hx) lX lY sX sY λav b1 b2 b3 b4=>?_;rw[AB (by simp)];exact Af ⟨rfl,.inr ⟨b1,by rw[b2];exact Ap _,b3.trans r,b4⟩⟩
   ·rw[AC h2];exact Af ⟨rfl,h1,h3⟩
  ·rintro c J ⟨rfl,h⟩;rcases h with⟨h0,rfl⟩|⟨h1,_,h3⟩
   ·have e:X++Y=[]:=Bx (by lia);rw[e] at t r;exact⟨rfl,k2,by rw[t];exact r,by rw[t];exact .nil⟩
   ·exact⟨rfl,h1,h3⟩
  ·rintro c J ⟨rfl,h1,h2,h3⟩;exact Af<|q J h1 h2 h3
end
open PySem PyProof.Rows PySem.W
def IC(h:Heap)(B:Int)(x:Keyed):Prop:=∃a o n r p t u,x.1=.ref a/\h.get? a=some o/\o.data=.seq #[.int r t,.int p u] n/\0<=p/\p<B
noncomputable def num(h:Heap)(B:Int)(x:Keyed):Int:=match x.1 with
 |.ref a=>match h.get? a with
  |some o=>match o.data with
   |.seq xs _=>match xs.toList with
    |[.int r _,.int p _]=>r*B+p
    |_=>0
   |_=>0
  |none=>0
 |_=>0
theorem num_of{x:Keyed}{a:Addr}{o:Obj}{r p:Int}{t u:Tok}(I:x.1=.ref a)(J:h.get? a=some o)(U:o.data=.seq #[.int r t,.int p u] n):num h B x=r*B+p:=by unfold num;simp[I,J,U]
theorem sG{w:World} :Ord prog w A s (tuples' true) (IC s.heap B) (num s.heap B):=by
 constructor;rintro x y ⟨a1,o1,n1,I,J,r,t,l,g1,d1,b1,c1⟩ ⟨a2,o2,n2,U,g,C,T,o,g2,d2,b2,c2⟩ E Q h;rw[num_of l g1 d1,num_of o g2 d2] at h;rw[l,o];refine kat_lt g1 d1 g2 d2 ?_;show KatLex prog w A true _ Q [(.int I r,.int U C),(.int J t,.int g T)] 0 s;refine kat_cons<|wpAny_eqBool_int ?_;by_cases c:I=U
 ·subst c;rw[beq_self_eq_true];refine kat_yes<|kat_cons<|wpAny_eqBool_int ?_;by_cases p:J=g
  ·subst p;rw[beq_self_eq_true];refine kat_yes<|kat_nil ?_;have e:decide (I*B+J<I*B+J)=false:=Au (by lia);rw[e] at h;exact h
  ·rw[Ez p];refine kat_no<|kat_one _ _<|PyProof.Rows.lt_int ?_;have e:decide (I*B+J<I*B+g)=decide (J<g):=by
    by_cases z:J<g
    ·rw[Av z];exact Av (by lia)
    ·rw[Au z];exact Au (by lia)
   rw[e] at h;exact h
 ·rw[Ez c];refine kat_no<|oneLt_int ?_;have e:decide (I*B+J<U*B+g)=decide (I<U):=by
   by_cases z:I<U
   ·rw[Av z];have j:(I+1)*B<=U*B:=Cv (by assumption) (by lia);rw[EF,Int.one_mul] at j;exact Av (by omega)
   ·rw[Au z];have j:(U+1)*B<=I*B:=Cv (by lia) (by lia);rw[EF,Int.one_mul] at j;exact Au (by lia)
  rw[e] at h;exact h
section
variable {w:World}
def dZ(h:Heap)(B:Int)(v:Value):Prop:=∃a o n r p t u,v=.ref a/\h.get? a=some o/\o.cls=.type "tuple" /\ o.data=.seq #[.int r t,.int p u] n/\0<=p/\p<B
theorem dZ.pair{x:Keyed}(k:dZ h B x.1):IC h B x:=by obtain⟨a,o,n,r,p,t,u,I,J,_,U,g,j⟩:=k;exact⟨a,o,n,r,p,t,u,I,J,U,g,j⟩
theorem tups{h:Heap}{B:Int}:∀{ks:List Value},(∀v∈ks,dZ h B v)->∃fs,KatTups h ks fs/\fs.length=ks.length/\∀v∈fs,∃r t,v=Value.int r t
 |[],_=>⟨[],trivial,rfl,λv I=>by simp at I⟩
 |k::ks,J=>by
  obtain⟨fs,U,g,j⟩:=tups (ks:=ks) λv I=>J v<|Ab _ I;obtain⟨a,o,n,r,p,t,u,rfl,l,C,T,_,_⟩:=J k<|Ak ..;refine⟨.int r t::fs,KatTups.cons l C T rfl U,by simp[g],λv I=>?_⟩;rcases Ao.mp I with rfl|I
  ·exact⟨r,t,rfl⟩
  ·exact j v I
theorem ID{ks:List Value}{Q:SortKind->Shared->Prop}(I:∀v∈ks,dZ s.heap B v)(j:0<ks.length)(q:Q (tuples' true) s):wpAny (model prog w) A (keyKind' ks.toArray) Q E s:=by
 obtain⟨fs,J,l,U⟩:=tups I;refine kat_kind (T:=.type "int") J (by lia) (λv g=>?_) (by decide) ?_
 ·obtain⟨r,t,rfl⟩:=U v g;exact .now
 ·exact q
theorem lu{R:α->α->Prop}:∀{l:List α},l.length<2->l.Pairwise R
 |[],_=>List.Pairwise.nil
 |[_],_=>List.pairwise_singleton _ _
 |_::_::_,h=>absurd h (by simp)
theorem Qt{a kS:Addr}{ks:List Value}{e l:Nat}{P:PySem.Fin->Shared->Prop}(r:s.heap.get? kS=some (seqObj "list" ks.toArray e))(ha:s.heap.get? a=some (seqObj "list" #[] l))(t:kS≠a)(hl:ks.length=vs.length)(g:vs.length<=127)
 (hk:∀v∈ks,dZ s.heap B v)
 (h:∀h' tk (xs:List Keyed) c,(∀b,b≠kS->b≠a->h'.get? b=s.heap.get? b)->h'.get? a=some (seqObj "list" (List.toArray (xs.map (·.2))) c)->xs.Perm (ks.zip vs)->(xs.Pairwise λx y=>num s.heap B x<=num s.heap B y)->P (.done<|.ret .none) { s with heap:=h',toks:=tk }):
 wpAny (model prog w) A (ksk_end a false vs.toArray l (.ref kS) ks.toArray) P E s:=by
 have hz:vs.length<=sizeLine:=AN g (by decide);have o:(ks.toArray.zip vs.toArray).toList=ks.zip vs:=by simp
 have tail:∀st:SortSt,failedOf st=none->(arrOf st).toList.Perm (ks.zip vs)->((arrOf st).toList.Pairwise λx y=>num s.heap B x<=num s.heap B y)->wpAny (model prog w) A (ksk_tail a false l (.ref kS) st) P E s:=by
  intro st hf hp hs;have s1:=qy s.heap kS<|Obj.mapSeq λ_=>(#[]:Array Value);have J:(s.heap.update kS<|Obj.mapSeq λ_=>(#[]:Array Value)).get? a=some (seqObj "list" #[] l):=(s1.2 a t.symm).trans ha;have s2:=qy (s.heap.update kS<|Obj.mapSeq λ_=>(#[]:Array Value)) a (Obj.mapSeq λ_=>(arrOf st).map (·.2));have len:((arrOf st).map (·.2)).size<=sizeLine:=by have:=hp.length_eq;rw[CC,A2] at this;rw[EG];lia
  unfold ksk_tail
  try dsimp only
  refine Aa (listUpdate_at r rfl ?_ (by rw[Ar];lia)<|A3 _);refine Aa<|wpAny_letGo ?_;refine Aa<|seqEpoch_at J rfl ?_;refine Aa (listUpdate_at J rfl ?_ (A3 _) (by simp only[BO,if_false];exact B1 len));rw[hf];simp only[bne_self_eq_false,BO,if_false];obtain⟨c2,j⟩:∃c2,((s.heap.update kS<|Obj.mapSeq λ_=>(#[]:Array Value)).update a (Obj.mapSeq λ_=>(arrOf st).map (·.2))).get? a=some (seqObj "list" ((arrOf st).map (·.2)) c2):=⟨_,get?_update_seq J λ_=>(arrOf st).map (·.2)⟩;refine An<|h _ _ (arrOf st).toList c2 (λb C T=>?_) ?_ hp hs
  ·exact(s2.2 b T).trans (s1.2 b C)
  ·have em:(arrOf st).map (·.2)=List.toArray ((arrOf st).toList.map (·.2)):=by apply Ef.mp;rw[Eg]
   rw[em] at j ⊢;exact j
 unfold ksk_end;simp only[BO,if_false];by_cases U:vs.toArray.size<2
 ·rw[AC U,AC U];refine Aa<|An ?_;rw[y1];refine Aa<|An ?_;refine tail _ rfl (by show(ks.toArray.zip vs.toArray).toList.Perm _;rw[o]) ?_;show(ks.toArray.zip vs.toArray).toList.Pairwise _;rw[o];rw[Ar] at U;have:(ks.zip vs).length<2:=by rw[CC];lia
  exact lu this
 ·rw[AB U,AB U];rw[Ar] at U;refine Aa<|ID hk (by omega) ?_;refine Aa (AX (vL (E:=E) (sG (B:=B)) (st:=SortSt.mk' (tuples' true) (ks.toArray.zip vs.toArray) #[] 7 none)
   (Q:=λ_ I=>failedOf I=none/\(arrOf I).toList.Perm (ks.zip vs)/\((arrOf I).toList.Pairwise λx y=>num s.heap B x<=num s.heap B y)) (by show(ks.toArray.zip vs.toArray).size<128;simp;lia) rfl rfl rfl (λx p=>?_) λI b1 b2 b3=>⟨b1,?_,b3⟩) ?_ λ_ _ e=>e)
  ·have p:x∈(ks.toArray.zip vs.toArray).toList:=p;rw[o] at p;exact dZ.pair<|hk _ (Ds (a:=x.1) (b:=x.2) p).1
  ·have b2:(arrOf I).toList.Perm (ks.toArray.zip vs.toArray).toList:=b2;rw[o] at b2;exact b2
  ·rintro⟨⟨⟩,I⟩ s' ⟨rfl,b1,b2,b3⟩;exact tail I b1 b2 b3
end
section
variable {w:World}
theorem dZ.ne{a b:Addr}{xs:Array Value}(k:dZ h B v)(e:v=.ref a)(g:h.get? b=some (seqObj "list" xs n)):a≠b:=by
 obtain⟨j,o,m,r,p,t,u,J,U,I,_⟩:=k;rw[e] at J;cases J;rintro rfl;rw[g] at U;cases U;have I:Value.type "list" = Value.type "tuple" := I;injection I with e
 exact absurd e (by decide)
theorem dZ.keeps{b:Addr}{xs:Array Value}(k:dZ h B v)(J:h.get? b=some (seqObj "list" xs n))(U:∀c o,c≠b->h.get? c=some o->h'.get? c=some o):dZ h' B v:=by have g:=k;obtain⟨a,o,m,r,p,t,u,I,j,l,C,T,e6⟩:=k;exact⟨a,o,m,r,p,t,u,I,U a o (g.ne I J) j,l,C,T,e6⟩
theorem yb{x:Keyed}{b:Addr}{xs:Array Value}(k:dZ h B x.1)(g:h.get? b=some (seqObj "list" xs n))(j:∀c o,c≠b->h.get? c=some o->h'.get? c=some o):num h' B x=num h B x:=by have l:=k;obtain⟨a,o,m,r,p,t,u,I,J,C,U,T,e6⟩:=k;rw[num_of I J U,num_of I (j a o (l.ne I g) J) U]
theorem mem_self_zip{x:Keyed}(h:x∈vs.zip vs):x.1∈vs/\x.1=x.2:=by
 induction vs with
 |nil=>simp at h
 |cons v r I=>
  rw[DC] at h;rcases Ao.mp h with rfl|h
  ·exact⟨Ak ..,rfl⟩
  ·exact⟨Ab _ (I h).1,(I h).2⟩
theorem Qu{a:Addr}{P:PySem.Fin->Shared->Prop}(r:s.heap.get? a=some (seqObj "list" vs.toArray n))(hz:vs.length<=127)(hk:∀v∈vs,dZ s.heap B v)
 (h:∀h' tk (xs:List Keyed) c,(∀b o,b≠a->s.heap.get? b=some o->h'.get? b=some o)->h'.get? a=some (seqObj "list" (List.toArray (xs.map (·.2))) c)->xs.Perm (vs.zip vs)->(xs.Pairwise λx y=>num s.heap B x<=num s.heap B y)->P (.done<|.ret .none) { s with heap:=h',toks:=tk }):
 wpAny (model prog w) A (Builtin.«list.sort» ⟨[.ref a],[]⟩) P E s:=by
 have big:(100000:Nat)+1<=sizeLine:=by rw[sizeLine_eq];exact C5 _ _
 have zl:(vs.toArray.zip vs.toArray).toList=vs.zip vs:=by simp
 have s1:=qy s.heap a<|Obj.mapSeq λ_=>(#[]:Array Value);obtain⟨e1,t⟩:∃e1,(s.heap.update a<|Obj.mapSeq λ_=>(#[]:Array Value)).get? a=some (seqObj "list" #[] e1):=⟨_,get?_update_seq r λ_=>#[]⟩;obtain⟨I,U⟩:∃g,g=((s.heap.update a<|Obj.mapSeq λ_=>(#[]:Array Value)).push<|seqObj "tuple" vs.toArray 0).push (seqObj "list" #[] 0):=⟨_,rfl⟩;have k3:∀b o,b≠a->s.heap.get? b=some o->I.get? b=some o:=λb o hb e=>by rw[U];exact oe _<|oe _<|(s1.2 b hb).trans e
 have j:I.get? a=some (seqObj "list" #[] e1):=by rw[U];exact oe _<|oe _ t
 have C:∀v∈vs,dZ I B v:=λv hv=>(hk v hv).keeps r k3;have nk:∀x∈vs.zip vs,num I B x=num s.heap B x:=λx l=>yb (hk _ (mem_self_zip l).1) r k3;have tail:∀st:SortSt,failedOf st=none->(arrOf st).toList.Perm (vs.zip vs)->((arrOf st).toList.Pairwise λx y=>num I B x<=num I B y)->
  ∀tk,P (.done<|.ret .none) { s with heap:=I.update a (Obj.mapSeq λ_=>(arrOf st).map (·.2)),toks:=tk }:=by
  intro st hf T hs tk;have s2:=qy I a (Obj.mapSeq λ_=>(arrOf st).map (·.2));obtain⟨c2,a0⟩:∃c2,(I.update a (Obj.mapSeq λ_=>(arrOf st).map (·.2))).get? a=some (seqObj "list" ((arrOf st).map (·.2)) c2):=⟨_,get?_update_seq j λ_=>(arrOf st).map (·.2)⟩;have em:(arrOf st).map (·.2)=List.toArray ((arrOf st).toList.map (·.2)):=by apply Ef.mp;rw[Eg]
  refine h _ tk (arrOf st).toList c2 (λb o hb e=>(s2.2 b hb).trans<|k3 b o hb e) ?_ T ?_
  ·rw[em] at a0 ⊢;exact a0
  ·refine Co (λ{x y} l hy z=>?_) hs;rw[nk x<|T.mem_iff.mp l,nk y<|T.mem_iff.mp hy] at z;exact z
 have len:∀st:SortSt,(arrOf st).toList.Perm (vs.zip vs)->((arrOf st).map (·.2)).size<=sizeLine+1:=λst T=>by have:=T.length_eq;rw[CC,A2] at this;rw[EG];lia
 rw[list_sort_plain];refine Aa<|listItems_at r rfl ?_;refine Aa (listUpdate_at r rfl ?_ (by rw[Ar];exact wE)<|A3 _);refine Aa<|seqEpoch_at t rfl ?_;refine Aa (wpAny_newTuple ?_ (by show vs.length<=_;lia));refine Aa<|wpAny_newList ?_<|A3 _;refine A6 ?_;show wpAny (model prog w) A _ P E { s with heap:=((s.heap.update a<|Obj.mapSeq λ_=>(#[]:Array Value)).push<|seqObj "tuple" vs.toArray 0).push (seqObj "list" #[] 0) };rw[<-U];dsimp only;by_cases p:vs.toArray.size<2
 ·rw[AC p,AC p];refine Aa<|An ?_;rw[y1];refine Aa<|An ?_;dsimp only;refine Aa<|seqEpoch_at j rfl ?_;have pz:(arrOf<|SortSt.mk' (tuples' true) (vs.toArray.zip vs.toArray) #[] 7 none).toList.Perm (vs.zip vs):=by show(vs.toArray.zip vs.toArray).toList.Perm _;rw[zl]
  refine Aa<|listUpdate_at j rfl ?_ (A3 _)<|len _ pz;simp only[bne_self_eq_false,BO,if_false];refine An<|tail (SortSt.mk' (tuples' true) (vs.toArray.zip vs.toArray) #[] 7 none) rfl pz ?_ _;show(vs.toArray.zip vs.toArray).toList.Pairwise _;rw[zl];rw[Ar] at p;have:(vs.zip vs).length<2:=by rw[CC];lia
  exact lu this
 ·rw[AB p,AB p];rw[Ar] at p;refine Aa<|ID (s:={ s with heap:=I }) C (by lia) ?_;refine Aa (AX (vL (E:=E) (sG (s:={ s with heap:=I }) (B:=B)) (st:=SortSt.mk' (tuples' true) (vs.toArray.zip vs.toArray) #[] 7 none)
   (Q:=λ_ J=>failedOf J=none/\(arrOf J).toList.Perm (vs.zip vs)/\((arrOf J).toList.Pairwise λx y=>num I B x<=num I B y)) (by show(vs.toArray.zip vs.toArray).size<128;simp;lia) rfl rfl rfl (λx l=>?_) λJ b1 b2 b3=>⟨b1,?_,b3⟩) ?_ λ_ _ e=>e)
  ·have l:x∈(vs.toArray.zip vs.toArray).toList:=l;rw[zl] at l;exact dZ.pair<|C _ (mem_self_zip l).1
  ·have b2:(arrOf J).toList.Perm (vs.toArray.zip vs.toArray).toList:=b2;rw[zl] at b2;exact b2
  ·rintro⟨⟨⟩,J⟩ s' ⟨rfl,b1,b2,b3⟩;dsimp only;refine Aa<|seqEpoch_at j rfl ?_;refine Aa<|listUpdate_at j rfl ?_ (A3 _)<|len _ b2;rw[b1];simp only[bne_self_eq_false,BO,if_false];exact An<|tail J b1 b2 b3 _
theorem w_sorted(hl:s.heap.IsList l vs.toArray)(hz:vs.length<=127)(hk:∀v∈vs,dZ s.heap B v)
 (h:∀h' tk (xs:List Keyed) D c,s.heap.objs.size<=D->(∀b o,s.heap.get? b=some o->h'.get? b=some o)->h'.get? D=some (seqObj "list" (List.toArray (xs.map (·.2))) c)->xs.Perm (vs.zip vs)->(xs.Pairwise λx y=>num s.heap B x<=num s.heap B y)->Q (.ref D) { s with heap:=h',toks:=tk }):
 wpAny (model prog w) A (call (.builtin "sorted") [.ref l]) Q E s:=by
 have big:(100000:Nat)+1<=sizeLine:=by rw[sizeLine_eq];lia
 refine Calls.call_function_entry kind_sorted plain_sorted entry_sorted (args_sorted1 _) ?_;unfold Builtin.«sorted»;refine Aa (m:=checkCount "sorted" 1 1 _)<|An ?_;refine Aa<|collect_list hl ?_ (by lia);refine Aa<|wpAny_newList ?_ (by lia);obtain⟨g,C⟩:∃g,g=(s.heap.push<|seqObj "list" #[] 0).update s.heap.objs.size (Obj.mapSeq (· ++ vs.toArray)):=⟨_,rfl⟩;have gs:g.objs.size=s.heap.objs.size+1:=by rw[C,xp,size_push']
 have gk:∀b o,s.heap.get? b=some o->g.get? b=some o:=λb o q=>by have I:b<s.heap.objs.size:=pj q;rw[C,xT _ _ _ _<|A5 I];exact oe _ q
 show wpAny _ _ _ _ _ { s with heap:=((s.heap.push<|seqObj "list" #[] 0).update s.heap.objs.size (Obj.mapSeq (· ++ vs.toArray))).push (seqObj "list" vs.toArray 0) };rw[<-C];have J:(g.push<|seqObj "list" vs.toArray 0).get? g.objs.size=some (seqObj "list" vs.toArray 0):=pR _ rfl;have keep:∀b o,s.heap.get? b=some o->(g.push<|seqObj "list" vs.toArray 0).get? b=some o:=λb o q=>oe _<|gk b o q;have kT:∀v∈vs,dZ (g.push<|seqObj "list" vs.toArray 0) B v:=λv hv=>by obtain⟨a,o,m,r,p,t,u,U,j,r'⟩:=hk v hv;exact⟨a,o,m,r,p,t,u,U,keep _ _ j,r'⟩
 have nk:∀x∈vs.zip vs,num (g.push<|seqObj "list" vs.toArray 0) B x=num s.heap B x:=λx T=>by obtain⟨a,o,m,r,p,t,u,U,j,e3,e4,_⟩:=hk _ (mem_self_zip T).1;rw[num_of U j e4,num_of U (keep _ _ j) e4]
 refine Aa<|A6<|wpAny_call_entry slot_list_sort ⟨_,J,rfl⟩ entry_list_sort ?body<|args_list_sort _
 case body=>
  refine Qu (s:={ s with heap:=g.push (seqObj "list" vs.toArray 0) }) J hz kT λh' tk xs c k1 hD pm pw=>?_;refine⟨_,rfl,An ⟨_,rfl,h h' tk xs g.objs.size c (by rw[gs];exact B6 _) (λb o q=>k1 b o ?_<|keep b o q) hD pm ?_⟩⟩
  ·have I:b<s.heap.objs.size:=pj q;intro z;rw[z,gs] at I;exact Dr I
  ·refine Co (λ{x y} T hy z=>?_) pw;rw[nk x<|pm.mem_iff.mp T,nk y<|pm.mem_iff.mp hy] at z;exact z
end
end TS
namespace L2
open PySem PySem.Spec PyProof.Rows
theorem o7(f:α->β):∀{l m:List β},l.Perm m->∀{T:List α},T.map f=m->∃U:List α,U.Perm T/\U.map f=l:=by
 intro l m p
 induction p with
 |nil=>intro T e;exact⟨T,B9 _,e⟩
 |cons x _ o=>
  intro T e;cases T with
  |nil=>cases e
  |cons t r=>
   rw[AG] at e;obtain⟨I,J⟩:=C4 e;obtain⟨U,C,e'⟩:=o J;exact⟨t::U,C.cons t,by rw[AG,e',I]⟩
 |swap x y l=>
  intro T e
  match T,e with
  |t::u::r,e=>
   rw[AG,AG] at e;obtain⟨I,J⟩:=C4 e;obtain⟨e3,e4⟩:=C4 J;exact⟨u::t::r,List.Perm.swap t u r,by rw[AG,AG,I,e3,e4]⟩
 |trans _ _ g j=>
  intro T e;obtain⟨T1,p1,I⟩:=j e;obtain⟨T2,p2,J⟩:=g I;exact⟨T2,p2.trans p1,J⟩
theorem gD{α β I:Type}{R:β->I->Prop}{g:α->β}{h:α->I}:∀{T:List α},(∀t∈T,R (g t)<|h t)->Paired R (T.map g) (T.map h)
 |[],_=>.nil
 |t::_,k=>.cons (k t<|Ak ..)<|gD λu J=>k u<|Ab _ J
theorem pF{J:Type}{R:α->β->Prop}{S:α->J->Prop}:∀{xs:List α} {ys:List β} {zs:List J},Paired R xs ys->Paired S xs zs->∃T:List (α×β×J),T.map (·.1)=xs/\T.map (λt=>t.2.1)=ys/\T.map (λt=>t.2.2)=zs/\∀t∈T,R t.1 t.2.1/\S t.1 t.2.2
 := by
 intro xs ys zs p q
 induction p generalizing zs with
 |nil=>cases q;exact⟨[],rfl,rfl,rfl,λt I=>by cases I⟩
 |cons r p l=>
  cases q with
  |cons q o=>
   rename_i x y U g z j;obtain⟨T,C,e2,e3,k⟩:=l o;refine⟨(x,y,z)::T,by rw[AG,C],by rw[AG,e2],by rw[AG,e3],λt I=>?_⟩;rcases Ao.mp I with rfl|I
   ·exact⟨r,q⟩
   ·exact k t I
theorem tU{α β:Type}{f:α->β}:∀{l:List α},(∀x∈l,∀y∈l,f x=f y->x=y)->l.Nodup->(l.map f).Nodup
 |[],_,_=>CS
 |a::r,h,n=>by obtain⟨J,U⟩:=AH.mp n;rw[AG];refine AH.mpr ⟨λz=>?_,tU (λx g y I=>h x (Ab _ g) y<|Ab _ I) U⟩;obtain⟨y,I,e⟩:=Bt.mp z;have:=h y (Ab _ I) a (Ak ..) e;exact J<|this▸I
def xX(p q:Int×Int):Prop:=p.1<q.1\/(p.1=q.1/\p.2<=q.2)
abbrev wJ(K:Aj)(H:Hp)(v:V)(p:Int×Int):Prop:=∃a,v=.ref a/\cT K H a [.int p.1,.int p.2]
theorem Qv{p q:Int×Int}(hp:0<=p.2/\p.2<B)(J:0<=q.2/\q.2<B)(h:p.1*B+p.2<=q.1*B+q.2):xX p q:=by
 unfold xX;by_cases c:p.1<q.1
 ·exact .inl c
 ·right;by_cases d:q.1<p.1
  ·have I:(q.1+1)*B<=p.1*B:=Cv (by assumption) (by lia);rw[EF,Int.one_mul] at I;omega
  ·have e:p.1=q.1:=by lia
   rw[e] at h;exact⟨e,by lia⟩
def Qw(X:Cx):List V->Hp->VK->Prop:=λxs H Q=>∃l ys ps,xs=[.ref l]/\wr X.K H l ys/\Paired (wJ X.K H) ys ps/\(∀p∈ps,0<=p.2/\p.2<1000000)/\ps.Nodup/\ys.length<=127/\
 ∀D zs qs,H D=none->Paired (wJ X.K H) zs qs->qs.Perm ps->qs.Pairwise xX->Q (.ref D) (upd H D<|.lst zs)
theorem uK:jo X (.builtin "sorted") (Qw X):=by
 intro a3 s σ H xs us Q I r h;obtain⟨l,ys,ps,rfl,hl,pr,hb,a5,a0,q⟩:=h;obtain⟨u,rfl,ru⟩:=r.one;cases (show u=Value.ref l from ru);obtain⟨p,rv,pl,hz⟩:=I.list hl;have l1:ys.length=p.length:=rv.length;obtain⟨T,e1,e2,e3,kT⟩:=pF rv pr;have U:∀t∈T,(∃a o n g j,t.2.1=Value.ref a/\s.heap.get? a=some o/\o.cls=.type "tuple" /\ o.data=.seq #[.int t.2.2.1 g,.int t.2.2.2 j] n)/\0<=t.2.2.2/\t.2.2.2<1000000:=λt J=>by obtain⟨r1,a,ea,hs⟩:=kT t J;obtain⟨a4,a1,⟨o,g1,g2,n,g3⟩,_⟩:=I.tuple hs;obtain⟨w1,w2,rfl,x1,x2⟩:=a1.two;obtain⟨g,rfl⟩:=(show ∃g,w1=Value.int t.2.2.1 g from x1);obtain⟨j,rfl⟩:=(show ∃j,w2=Value.int t.2.2.2 j from x2);rw[ea] at r1;refine⟨⟨a,o,n,g,j,r1,g1,g2,g3⟩,?_⟩;exact hb _ (by rw[<-e3];exact B4 (f:=λt:V×Value×(Int×Int)=>t.2.2) J)
 have nT:∀t∈T,TS.num s.heap 1000000 (t.2.1,t.2.1)=t.2.2.1*1000000+t.2.2.2:=λt J=>by obtain⟨⟨a,o,n,g,j,g0,g1,g2,g3⟩,_⟩:=U t J;exact TS.num_of g0 g1 g3
 have ez:p.zip p=T.map λt=>(t.2.1,t.2.1):=by rw[<-e2,List.zip_map']
 refine jt I.tk (TS.w_sorted (B:=1000000) pl.isList (by rw[<-l1];exact a0) (λv hv=>?_) λh' tk ks D c hD hk hg pm pw J=>?_)
 ·rw[<-e2] at hv;obtain⟨t,J,rfl⟩:=Bt.mp hv;obtain⟨⟨a,o,n,g,j,g0,g1,g2,g3⟩,b1,b2⟩:=U t J;exact⟨a,o,n,_,_,g,j,g0,g1,g2,g3,b1,b2⟩
 ·rw[ez] at pm;obtain⟨T',pT,eT⟩:=o7 _ pm rfl;subst eT;have C:∀t,t∈T'->t∈T:=λt=>pT.mem_iff.mp;have a2:=B0.mp pw;refine⟨.ref D,_,I.laid (t':=tk) (o:=.lst (T'.map (·.1))) hk hD ?_,rfl,q D (T'.map (·.1)) (T'.map λt=>t.2.2) (I.hok.fresh hD) (gD λt J=>(kT t<|C t J).2) ?_ ?_⟩
  ·refine⟨?_,T'.map λt=>t.2.1,c,gD λt J=>(kT t<|C t J).1,?_⟩
   ·rw[Ah,pT.length_eq];have:T.length=ys.length:=by rw[<-e1,Ah]
    rw[this];exact hz
   ·rw[hg,B5];rfl
  ·rw[<-e3];exact pT.map _
  ·refine B0.mpr<|Co (λ{x y} hx hy z=>?_) a2;rw[nT x<|C x hx,nT y<|C y hy] at z;exact Qv (U x<|C x hx).2 (U y<|C y hy).2 z
end L2
namespace L3
open PySem L2
def Es(p:Int×Int):Y:=.tup [.int p.1,.int p.2]
theorem rg{G:G3}{H:Hp}:∀{ps:List<|Int×Int} {xs:List V},xj G H (ps.map Es) xs->Paired (wJ G.K H) xs ps
 |[],_,h=>by cases (show _=[] from h);exact .nil
 |p::r,_,ψ=>by obtain⟨x,U,e,⟨a,zs,ea,g,j,l,o,I,t,C,T,J,e3⟩,s⟩:=ψ;subst e ea o T e3;cases (show j=V.int p.1 from I);cases (show t=V.int p.2 from J);exact .cons ⟨a,rfl,g⟩<|rg s
theorem Qx :∀{ps:List<|Int×Int} {xs:List V},Paired (wJ G.K H) xs ps->xj G H (ps.map Es) xs:=by
 intro ps xs h
 induction h with
 |nil=>exact rfl
 |cons z t I=>
  obtain⟨a,ea,J⟩:=z;subst ea;exact⟨_,_,rfl,⟨a,_,rfl,J,_,_,rfl,rfl,_,_,rfl,rfl,rfl⟩,I⟩
def l5(xs:List Y)(L:ql)(Q:YK):Prop:=match xs with
 |[.ref a]=>cZ L a λys=>∃ps:List (Int×Int),ys=ps.map Es/\(∀p∈ps,0<=p.2/\p.2<1000000)/\ps.Nodup/\ps.length<=127/\∀(D:Addr) (qs:List<|Int×Int),L D=none->qs.Perm ps->qs.Pairwise xX->Q (.ref D) (qe L D<|.lst<|qs.map Es)
 |_=>False
theorem iI:bootBuiltins "sorted"=some (.builtin "sorted"):=by decide +kernel
theorem wT :jo X (.builtin "sorted") (f_ X.g3 l5):=E7 uK λxs H Q ys L Q3 j J z k=>by
 unfold l5 at z;split at z
 ·rename_i a;obtain⟨l,e,o,rfl,p,U,I,z⟩:=x5 z;obtain⟨t,C,r⟩:=J a _ e;obtain⟨u,rfl,T⟩:=j.inv1;cases (show u=V.ref a from T);have pr:=rg r;exact⟨a,t,o,rfl,E9 C,pr,p,U,by rw[<-r.length,Ah];exact I,λD l qs g pz pm pw=>k _ _ _ _ (EN g) (J.newL g<|Qx pz) (by rfl)<|z D qs (J.none g) pm pw⟩
 ·exact z.elim
open PySem L2 Words
def bn:Wd->Y
 |.leaf t n=>.tup [.str<|kL t,.str n]
 |.node e l r=>.tup [.str<|kN e,bn l,bn r]
def f9:Y:=(.tup [(.str "plain"),(.str "turned")])
theorem qh{Q:α->ql->Prop}{o:Option α}{v:α}(e:o=some v)(h:Q v L):b_ L Q o:=by rw[e];exact h
abbrev oH(i:Int):v4:=yC<|.int i
abbrev t_(x:Str):v4:=yC<|.str x
abbrev iL(i:Nat)(n:Int):v4:=bL uI (qw i)<|yC<|.int n
abbrev wU(i:Nat):v4:=r_ yq<|zj (qw i) aY
abbrev j_(a b:v4):iz:=yB<|bL (yr false) a b
abbrev IE(a b:v4):iz:=yB<|bL (yr true) a b
abbrev IF(a b:v4):v4:=mC<|zj a<|zj b aY
abbrev iD(a:v4):fg:=zj a aY
abbrev pY(a b:v4):fg:=zj a<|zj b aY
def yE:kh:=(gG<|bL (zI false) (iL 0 0)<|yC f9)
def kX:Bool->Bool->Str
 |true,t=>kL t
 |false,e=>kN e
def gF:zc:=λys L Q=>∃lf b rest,ys=[.tup<|.str (kX lf b)::rest]/\Q (.bl lf) L
theorem yf(t:Bool):nJ (.str<|kL t) [.str "plain",.str "turned"]=true:=by cases t<;>decide +kernel
theorem yF(t:Bool):nJ (.str<|kN t) [.str "plain",.str "turned"]=false:=by cases t<;>decide +kernel
theorem vG:∀ys L Q,gF ys L Q->jw yE 1 ys L Q:=by
 rintro ys L Q ⟨lf,b,rest,rfl,q⟩;have I:bp (Y.str (kX lf b)::rest) 0=some (Y.str<|kX lf b):=xg (xs:=Y.str (kX lf b)::rest) (j:=0) rfl;walk_at "w";rw[I];refine⟨rfl,rfl,x0 ?_⟩;cases lf with
 |true=>
  rw[show nb false (nJ (bK<|.str<|kX true b)<|[Y.str "plain",.str "turned"].map bK)=true from yf b];exact q
 |false=>
  rw[show nb false (nJ (bK<|.str<|kX false b)<|[Y.str "plain",.str "turned"].map bK)=false from yF b];exact q
theorem Qy(t:Bool):List.lookup (kL t) [(("plain" : Str),("turned" : Str)),("turned","plain"),("both","either"),("either","both")]=some (kL<|!t):=by cases t<;>decide +kernel
theorem Qz(t:Bool):List.lookup (kN t) [(("plain" : Str),("turned" : Str)),("turned","plain"),("both","either"),("either","both")]=some (kN<|!t):=by cases t<;>decide +kernel
theorem gT(s:qg L L'){p:Addr}(h:L' p=none):L p=none:=by cases e:L p with|none=>rfl|some o=>rw[s _ _ e] at h;cases h
theorem jj.str(x:Str):jj L n (.str x) (.s<|.str x):=by cases n with|zero=>exact⟨rfl,rfl⟩|succ n=>exact .inl ⟨rfl,rfl⟩
abbrev E8:=@jj.str
theorem jj.int(x:Int):jj L n (.int x) (.s<|.int x):=by cases n with|zero=>exact⟨rfl,rfl⟩|succ n=>exact .inl ⟨rfl,rfl⟩
abbrev EX:=@jj.int
theorem gN{L:ql}:∀{wd:Wd} {n:Nat},wd.depth<=n->jj L n (bn wd) (pq wd)
 |.leaf t nm,n+1,_=>.inr<|.inl ⟨_,_,rfl,rfl,.cons (E8 _)<|.cons (E8 _) .nil⟩
 |.node e l r,n+1,h=>by have I:max l.depth r.depth+1<=n+1:=h;exact .inr<|.inl ⟨_,_,rfl,rfl,.cons (E8 _)<|.cons (gN (by lia))<|.cons (gN (by lia)) .nil⟩
theorem fC{a:Addr}(e:L a=some (.lst ys))(p:Paired (jj L n) ys ds):jj L (n+1) (.ref a) (.lst ds):=.inr<|.inr ⟨ys,ds,rfl,rfl,xn e,p⟩
theorem bz(p:Paired (jj L n) ys ds):jj L (n+1) (.tup ys) (.tup ds):=.inr<|.inl ⟨ys,ds,rfl,rfl,p⟩
theorem QB{neg:Bool}{u v:Wd}{Q:YK}(J:u.depth<=128)(q:Q (.bl<|nb neg<|Da.eq (pq u)<|pq v) L):yr neg (bn u) (bn v) L Q:=by
 have I:∀w:Wd,yT (bn w)=true:=λw=>by cases w<;>rfl
 have:yT (bn u)=true/\yT (bn v)=true/\∃n m d e,n<=128/\jj L n (bn u) d/\jj L m (bn v) e/\Q (.bl<|nb neg<|Da.eq d e) L:=
  ⟨I u,I v,u.depth,v.depth,pq u,pq v,J,gN<|Ap _,gN<|Ap _,q⟩
 cases u<;>cases v<;>exact this
theorem gv{neg:Bool}{a b:Addr}{zs:List Y}{es:List Da}{Q:YK}(I:n<128)(ea:L a=some (.lst ys))(eb:L b=some (.lst zs))(pa:Paired (jj L n) ys ds)(pb:Paired (jj L m) zs es)(q:Q (.bl<|nb neg<|Da.eqs ds es) L):
 yr neg (.ref a) (.ref b) L Q:=⟨rfl,rfl,n+1,m+1,_,_,I,fC ea pa,fC eb pb,q⟩
def top(i:Nat):Stmt:=PySem.Challenge.pw_oncewise_k42_some_place_parts.main.body.getD i<|.Pass ⟨0,0,0,0⟩
abbrev fV:Stmt:=(kJ<|top 1).getD 0<|.Pass ⟨0,0,0,0⟩
abbrev cD:Stmt:=(kJ<|top 1).getD 1<|.Pass ⟨0,0,0,0⟩
abbrev da:Stmt:=(kJ<|top 1).getD 2<|.Pass ⟨0,0,0,0⟩
abbrev nv:Stmt:=top 4
abbrev bD:Stmt:=top 6
abbrev ff:Stmt:=top 7
abbrev fc:Stmt:=top 8
abbrev dW:Stmt:=top 9
abbrev i0:Stmt:=top 10
abbrev gI:Stmt:=top 12
abbrev cb:Stmt:=top 13
abbrev eF:Stmt:=top 15
abbrev mZ:Stmt:=top 16
abbrev lh:Stmt:=top 17
abbrev az:Stmt:=top 18
abbrev bY:Stmt:=top 19
abbrev fu:Stmt:=top 20
abbrev ax:Stmt:=top 22
abbrev dw:Stmt:=top 23
abbrev dq:Stmt:=top 24
abbrev fz:Stmt:=top 25
abbrev eJ:Stmt:=top 26
abbrev dh:Stmt:=top 27
abbrev dk:Stmt:=top 28
abbrev bv:Stmt:=top 29
abbrev f8:Stmt:=top 30
abbrev eO:Stmt:=top 31
abbrev dQ:Stmt:=top 32
abbrev mI:Stmt:=top 33
abbrev dY:Stmt:=top 34
abbrev bq:Stmt:=top 35
abbrev gC:Stmt:=top 36
abbrev jC:Stmt:=top 37
abbrev s__law_order:Stmt:=top 38
abbrev ce:Stmt:=top 39
abbrev bj:Stmt:=top 40
abbrev cY:Stmt:=top 42
abbrev bZ:Stmt:=top 43
abbrev cq:Stmt:=top 44
abbrev db:Stmt:=top 45
abbrev dR:Stmt:=top 46
abbrev aZ:Stmt:=top 47
abbrev br:Stmt:=top 48
abbrev cX:Stmt:=top 49
abbrev dB:Stmt:=top 50
abbrev sK:Stmt:=top 51
structure V_ where
 (P:Program) (w:World) (K:Aj) (mg:Str->Option Value) (base:Heap) (Pt:Addr) (Ca:Addr)
structure B0_(V:V_):Prop where
 be:V.mg "list"=none
 bf:V.mg "range"=none
 bg:V.mg "enumerate"=none
 ba:V.mg "len"=none
 bb:V.mg "isinstance"=none
 b_tuple:V.mg "tuple"=none
 bh:V.mg "sorted"=none
 bi:V.mg "max"=none
 b_min:V.mg "min"=none
 b_int:V.mg "int"=none
 b_bool:V.mg "bool"=none
 b_str:V.mg "str"=none
 k_LEAF_KINDS:Im ⟨V.K,V.P,V.w⟩ V.mg "LEAF_KINDS" f9
abbrev Q_(V:V_)(k:Nat)(x:Str)(ps:List Str)(sp:zc):Prop:=F5 V.P V.w V.K V.mg V.base k x ps sp
theorem I_{a b:Expr}(I:QE X a ta)(J:QE X b tb)(hp:pM b:=by exactλ_ _=>rfl):QE X (.Subscript a b pos) (bL uI ta tb):=O5 (O7 X.K X.prog X.w) I J hp
theorem jv{t:v4}(h:QE X e t)(s:starEach [e] X.env=[(false,eval e X.env)]:=by rfl):QA X [e] (zj t aY):=jr h vt s
theorem wg{f:Expr}{t u:v4}(h:QE X e t)(g:QE X f u)(s:starEach [e,f] X.env=[(false,eval e X.env),(false,eval f X.env)]:=by rfl)(r:starEach [f] X.env=[(false,eval f X.env)]:=by rfl):QA X [e,f] (zj t<|zj u aY):=jr h (jv g r) (by show _=_;rw[s,r])
theorem cS{f d:Expr}{t u v:v4}(h:QE X e t)(g:QE X f u)(i:QE X d v)(s:starEach [e,f,d] X.env=[(false,eval e X.env),(false,eval f X.env),(false,eval d X.env)]:=by rfl)(r:starEach [f,d] X.env=[(false,eval f X.env),(false,eval d X.env)]:=by rfl)(q:starEach [d] X.env=[(false,eval d X.env)]:=by rfl):QA X [e,f,d] (zj t<|zj u<|zj v aY):=jr h (wg g i r q) (by show _=_;rw[s,r])
theorem E_{a b:Expr}(I:X.A.units+128<cLine)(J:QE X a ta)(U:QE X b tb):QT X (.Compare a [.Eq] [b] pos) (yB<|bL (yr false) ta tb):=je (uA X.K X.prog X.w I) J U<|vf _
theorem N_{a b:Expr}(I:X.A.units+128<cLine)(J:QE X a ta)(U:QE X b tb):QT X (.Compare a [.NotEq] [b] pos) (yB<|bL (yr true) ta tb):=je (Ig X.K X.prog X.w I) J U<|vf _
theorem S_(i:Nat)(hN:X.N.Nodup)(h:QE X e te)(I:X.N[i]?=some x:=by rfl)(g:Loc X.env.scope x:=by exact Or.inl rfl)(J:swapsWith e (some<|.Name x fy) pos.line X.env=pure false:=by rfl)(U:X.fn x=true\/X.env.scope.names.lookup x=some .local:=by first|exact .inl rfl|exact .inr rfl|assumption):QS X (.Assign [.Name x fy] e pos) (wb te<|z7 i):=bu (i:=i) hN I g h J U
theorem G_(i:Nat)(hN:X.N.Nodup)(I:X.N[i]?=some x:=by rfl)(U:Loc X.env.scope x:=by exact Or.inl rfl)(J:X.fn x=true\/X.env.scope.names.lookup x=some .local:=by first|exact .inl rfl|exact .inr rfl|assumption):QG X (.Name x pos) (z7 i):=cW (i:=i) hN I U J
theorem C_{p:Pos}{k:Nat}(c:F5 X.prog X.w X.K X.mg X.base j x ps sp)(U:vo k X.A)(g:QA X (e::es) tr)(l:j<=k:=by first|decide|exact Ap _|exact AN (by decide)<|C5 _ _)(o:Gl X x:=by rfl)(I:Fe x:=by decide)(r:Fb e es X:=by rfl)(J:Fc pos es X:=by rfl):QE X (.Call (.Name x p) (e::es) [] pos) (kg sp tr):=Po (Cal.mono c l) U o g I r J
theorem J_{n:Int}{k:Nat}{p q:Pos}(i:Nat)(hN:X.N[i]?=some x:=by rfl)(I:u2 X.env.scope x:=by first|exact Or.inl rfl|exact Or.inr (Or.inl rfl)|exact Or.inr<|Or.inr rfl)(hd:Fe x:=by decide)(hc:Ff x:=by decide):QE X (.Subscript (.Name x p) (.Constant (.int n) k q) pos) (bL uI (qw i)<|yC<|.int n):=I_ (qv i hN I hd hc) qf λ_ _=>rfl
theorem L_{t:v4}{p:Pos}(I:X.mg "len"=none)(h:QE X e t)(s:starEach [e] X.env=[(false,eval e X.env)]:=by rfl)(J:Gl X "len" := by rfl):QE X (.Call (.Name "len" p) [e] [] pos) (r_ yq<|zj t aY):=ay (O8 X.K X.prog X.w) J I OH (jv h s) (hs:=s)
theorem Et{l:List Str}(h:decide l.Nodup=true:=by kernel_rfl):l.Nodup:=of_decide_eq_true h
abbrev IG(V:V_)(p:zc):Prop:=Q_ V 1 "is_leaf" ["word"] p
abbrev Gb(V:V_)(p:zc):Prop:=Q_ V 1 "places_there" ["knots"] p
abbrev Gc(V:V_)(p:zc):Prop:=Q_ V 2 "parts_of" ["knot"] p
abbrev IH(V:V_)(p:zc):Prop:=Q_ V 3 "parts_in" ["knots"] p
abbrev II(V:V_)(p:zc):Prop:=Q_ V 1 "places_in" ["pairs"] p
abbrev IJ(V:V_)(p:zc):Prop:=Q_ V 4 "ends_of" ["web"] p
abbrev IK(V:V_)(p:zc):Prop:=Q_ V 2 "boths_of" ["web"] p
abbrev IL(V:V_)(p:zc):Prop:=Q_ V 3 "part_edges" ["knots","places"] p
abbrev Ge(V:V_)(p:zc):Prop:=Q_ V 4 "all_edges" ["web"] p
abbrev QC(V:V_)(p:zc):Prop:=Q_ V 2 "piece_at" ["pieces","knots","place"] p
abbrev Gf(V:V_)(p:zc):Prop:=Q_ V 3 "sides_by" ["knots","edges","p","q"] p
abbrev IM(V:V_)(p:zc):Prop:=Q_ V 5 "parted_boths" ["web"] p
abbrev IP(V:V_)(p:zc):Prop:=Q_ V 5 "parted_cuts" ["web"] p
abbrev QD(V:V_)(p:zc):Prop:=Q_ V 6 "partings" ["web"] p
abbrev IQ(V:V_)(p:zc):Prop:=Q_ V 1 "_law_cell_at" ["_law_script","_law_k"] p
abbrev QH(V:V_)(p:zc):Prop:=Q_ V 1 "_law_stir" ["_law_script"] p
abbrev Gg(V:V_)(p:zc):Prop:=Q_ V 1 "_law_pick" ["_law_stir_here","_law_factor"] p
abbrev IR(V:V_)(p:zc):Prop:=Q_ V 1 "_law_mix" ["_law_cell","_law_k","_law_factor"] p
abbrev IS(V:V_)(p:zc):Prop:=Q_ V 1 "_law_name" ["_law_seed","_law_which"] p
abbrev QJ(V:V_)(p:zc):Prop:=Q_ V 121 "_law_word" ["_law_knots","_law_p"] p
abbrev QK(V:V_)(p:zc):Prop:=Q_ V 121 "_law_flip" ["_law_word_here"] p
abbrev QL(V:V_)(p:zc):Prop:=Q_ V 121 "_law_weight" ["_law_word_here"] p
abbrev QM(V:V_)(p:zc):Prop:=Q_ V 170 "_law_mirror" ["_law_knots","_law_word_here"] p
abbrev IT(V:V_)(p:zc):Prop:=Q_ V 1 "_law_join" ["_law_knots","_law_forest","_law_one","_law_two"] p
abbrev IU(V:V_)(p:zc):Prop:=Q_ V 1 "_law_fold" ["_law_knots","_law_tree_here","_law_one","_law_two"] p
abbrev IV(V:V_)(p:zc):Prop:=Q_ V 171 "_law_cut" ["_law_knots","_law_forest","_law_one","_law_two"] p
abbrev IW(V:V_)(p:zc):Prop:=Q_ V 172 "_law_tree" ["_law_cells","_law_seed","_law_room"] p
abbrev IX(V:V_)(p:zc):Prop:=Q_ V 121 "_law_gather" ["_law_rule","_law_links","_law_cuts"] p
abbrev QN(V:V_)(p:zc):Prop:=Q_ V 122 "_law_web" ["_law_tree_here"] p
abbrev Gh(V:V_)(p:zc):Prop:=Q_ V 1 "_law_open" ["_law_web_here"] p
abbrev IY(V:V_)(p:zc):Prop:=Q_ V 2 "_law_order" ["_law_knots","_law_seed"] p
abbrev IZ(V:V_)(p:zc):Prop:=Q_ V 121 "_law_moved" ["_law_rule","_law_at"] p
abbrev QP(V:V_)(p:zc):Prop:=Q_ V 122 "_law_gapped" ["_law_tree_here","_law_stir_here"] p
abbrev I0(V:V_)(p:zc):Prop:=Q_ V 1 "_law_sides" ["_law_knots","_law_out"] p
abbrev Ft(V:V_)(p:zc):Prop:=Q_ V 1 "_law_number" ["_law_x"] p
abbrev QQ(V:V_)(p:zc):Prop:=Q_ V 6 "_law_alike" ["_law_found","_law_due"] p
abbrev QR(V:V_)(p:zc):Prop:=Q_ V 1 "_law_copy" ["_law_web_here"] p
abbrev QU(V:V_)(p:zc):Prop:=Q_ V 173 "_law_sown" ["_law_script","_law_stir_here","_law_wide"] p
abbrev QV(V:V_)(p:zc):Prop:=Q_ V 2 "_law_stripped" ["_law_web_here"] p
abbrev I9(V:V_)(p:zc):Prop:=Q_ V 2 "_law_rising" ["_law_row"] p
abbrev Ja(V:V_)(p:zc):Prop:=Q_ V 3 "_law_apart" ["_law_web_here","_law_edges","_law_p","_law_q","_law_told","_law_more"] p
abbrev QX(V:V_)(p:zc):Prop:=Q_ V 4 "_law_parts" ["_law_web_here","_law_told"] p
abbrev RD(x:Str)(st:Stmt)(k:Nat)(N:List Str)(h:V_->Prop):=PSigma λt:kh=>∀V:V_,B0_ V->h V->∀f:Addr,∀(eK:Value) (A:Around) (outer:List Env) (s:Shared) (H:Hp) (E:XK),vo k (A.deeper<|PyProof.Rows.envOfC x (qo st) s.heap.objs.size f eK)->N.Nodup->(A.deeper<|PyProof.Rows.envOfC x (qo st) s.heap.objs.size f eK).units+128<cLine->rB (g9 CX0 V.P V.w V.K V.mg V.base N x (qo st) f eK A outer s H E).nox (j7 st) t
abbrev RR(x:Str)(st:Stmt)(k:Nat)(ps N:List Str)(p:zc)(h:V_->Prop):=PSigma λt:kh=>∀V:V_,B0_ V->h V->∀(n:Nat) (f:Addr),Q_ V (n+k) x ps p->∀(eK:Value) (A:Around) (outer:List Env) (s:Shared) (H:Hp) (E:XK),vo (n+k) (A.deeper<|PyProof.Rows.envOfC x (qo st) s.heap.objs.size f eK)->N.Nodup->(A.deeper<|PyProof.Rows.envOfC x (qo st) s.heap.objs.size f eK).units+128<cLine->rB (g9 CX0 V.P V.w V.K V.mg V.base N x (qo st) f eK A outer s H E).nox (j7 st) t
theorem nV{p:Pos}(i:Nat)(hi:X.N.length=i:=by rfl)(hN:(X.N++[x]).Nodup:=by exact Et)(J:∀C fp s₀ H₀,Loc (X.comp scope [x] C fp s₀ H₀).env.scope x:=by exactλ_ _ _ _=>Or.inl rfl)(I:∀C fp s₀ H₀,(X.comp scope [x] C fp s₀ H₀).env.scope.names.lookup x=some .local:=by exactλ_ _ _ _=>rfl):yp X scope [x] (.Name x p) (z7 i):=hi▸gt hN J I
theorem Jb{y:Str}{p I pt:Pos}(i:Nat)(hi:X.N.length=i:=by rfl)(hc:X.calm=true:=by rfl)(hN:(X.N++[x,y]).Nodup:=by exact Et)(U:∀C fp s₀ H₀,(X.comp scope [x,y] C fp s₀ H₀).env.scope.names.lookup x=some .local:=by exactλ_ _ _ _=>rfl)(J:∀C fp s₀ H₀,(X.comp scope [x,y] C fp s₀ H₀).env.scope.names.lookup y=some .local:=by exactλ_ _ _ _=>rfl)(h1:∀env,(assignEach [.Name x p,.Name y I] env).length=2:=by intro _;rfl)(h2:∀env,(assignEach [.Name x p,.Name y I] env).findIdx? (·.1)=none:=by intro _;rfl)(g:∀env,(assignEach [.Name x p,.Name y I] env).map (·.2)=assign (.Name x p) env::(assignEach [.Name y I] env).map (·.2):=by intro _;rfl)(j:∀env,(assignEach [.Name y I] env).map (·.2)=assign (.Name y I) env::(assignEach [] env).map (·.2):=by intro _;rfl):yp X scope [x,y] (.Tuple [.Name x p,.Name y I] kt pt) (hJ 2<|x6 (z7 i)<|x6 (z7<|i+1) eW):=hi▸Pn hc hN U J h1 h2 g j
def nj(K:Aj):kh:=(Iv K "heads" (qw 0)<|kY<|qw 1)
def iU(K:Aj):kh:=(xb (wb (qw 1)<|z7 2)
 (xb (HZ (IE (bL uI (u9 K "heads"<|qw 0)<|qw 2)<|qw 2) (xb (F9 (u9 K "heads"<|qw 0) (qw 2)<|bL uI (u9 K "heads"<|qw 0)<|bL uI (u9 K "heads"<|qw 0)<|qw 2)
 (wb (bL uI (u9 K "heads"<|qw 0)<|qw 2)<|z7 2)))
 (gG<|qw 2)))
def mD(K:Aj)(I:Addr)(J:zc):kh:=(xb (wb (hW I "head_of" J (qw 0)<|iD<|qw 1)<|z7 3)
 (xb (wb (hW I "head_of" J (qw 0)<|iD<|qw 2)<|z7 4)
 (xb (F9 (u9 K "heads"<|qw 0) (qw 3)<|qw 4)
 (gG<|bL (yr true) (qw 3)<|qw 4))))
structure XFP(K:Aj)(C:Addr):Prop where
 cl:Cls K C
 na:NoAttr K C "heads"
def nY(hs:List Nat):List Y:=hs.map λn:Nat=>.int (n:Int)
def qK(hp:Addr):List (Str×Y):=[("heads",.ref hp)]
theorem cG :(qK hp).lookup ("heads" : Str)=some (.ref hp):=by unfold qK;rw[Bh,show((("heads" : Str)==("heads" : Str)))=true by decide +kernel]
theorem ao :(qK hp).lookup ("head_of" : Str)=none:=by unfold qK;rw[Bh,show((("head_of" : Str)==("heads" : Str)))=false by decide +kernel];rfl
theorem vB :(qK hp).lookup ("unite" : Str)=none:=by unfold qK;rw[Bh,show((("unite" : Str)==("heads" : Str)))=false by decide +kernel];rfl
theorem QY(n:Nat):aA 0 n=nY (List.range n):=by unfold aA nY;exact List.map_congr_left λk _=>by rw[BI]
theorem jh(hs:List Nat):(nY hs).length=hs.length:=by unfold nY;rw[Ah]
theorem lE{h:Nat}(e:hs[i]?=some h):bp (nY hs) (i:Int)=some (.int (h:Int)):=xg (by unfold nY;rw[Aq,e];rfl)
theorem Jc(hs:List Nat)(i g:Nat):(nY hs).set i (.int (g:Int))=nY (hs.set i g):=by unfold nY;rw[List.map_set]
theorem wY(h:j<n):uj n (j:Int)=some j:=by unfold uj;rw[AC (by exact AU _),AC (by omega)];rfl
theorem wv{a p:Addr}{o:LO}(h:qe L a o p=none):L p=none:=by
 by_cases c:p=a
 ·subst c;rw[q9] at h;cases h
 ·rw[qc c] at h;exact h
theorem ar{a:Addr}{o:LO}(h:L a=some o):qe L a o=L:=by
 funext b;unfold qe;split
 ·rename_i e;rw[e,h]
 ·rfl
def jN(rk:Nat->Nat)(hs:List Nat):Prop:=∀i h,hs[i]?=some h->h<hs.length/\(h≠i->rk h<rk i)
inductive aV(hs:List Nat):Nat->Nat->Prop
 |root {r:Nat}:hs[r]?=some r->aV hs r r
 |step {i h r:Nat}:hs[i]?=some h->h≠i->aV hs h r->aV hs i r
theorem aV.top(h:aV hs i r):hs[r]?=some r:=by induction h with|root e=>exact e|step _ _ _ I=>exact I
theorem aV.uniq{s:Nat}(h:aV hs i r)(k:aV hs i s):r=s:=by
 induction h generalizing s with
 |root e=>
  cases k with|root _=>rfl|step I ne _=>rw[e] at I;exact absurd (AO I).symm ne
 |step e ne t J=>
  cases k with|root I=>rw[e] at I;exact absurd (AO I) ne|step I _ U=>rw[e] at I;cases I;exact J U
theorem aV.of_top(h:aV hs i r)(e:hs[i]?=some i):r=i:=h.uniq<|.root e
theorem jN.rep{rk:Nat->Nat}{hs:List Nat}(I:jN rk hs):∀(n i:Nat),rk i<n->i<hs.length->∃r,aV hs i r
 |0,_,h,_=>absurd h<|EC _
 |n+1,i,h,J=>by
  have e:hs[i]?=some hs[i]:=Al J;by_cases c:hs[i]=i
  ·exact⟨i,.root (by rw[e,c])⟩
  ·obtain⟨U,g⟩:=I i _ e;obtain⟨r,t⟩:=jN.rep I n hs[i] (by have:=g c;omega) U;exact⟨r,.step e c t⟩
theorem jN.rep'(I:jN rk hs)(hi:i<hs.length):∃r,aV hs i r:=I.rep (rk i+1) i (Bk _) hi
theorem zd{l:List α}{x:α}(h:l[i]?=some x):i<l.length:=(AS.mp h).1
theorem kn{l:List α}{x:α}(h:i<l.length):(l.set i x)[i]?=some x:=by rw[DL];simp[h]
theorem vg{l:List α}{x:α}(h:i≠j):(l.set i x)[j]?=l[j]?:=by rw[DL,AB h]
theorem jN.halve(I:jN rk hs){h g:Nat}(ei:hs[i]?=some h)(ne:h≠i)(J:hs[h]?=some g):jN rk (hs.set i g)/\rk g<rk i:=by
 have U:rk g<rk i:=by
  have l:=(I i h ei).2 ne;by_cases c:g=h
  ·rw[c];exact l
  ·have:=(I h g J).2 c;exact qR
 refine⟨λj x e=>?_,U⟩;rw[Bm];by_cases c:i=j
 ·subst c;rw[kn<|zd ei] at e;cases e;exact⟨(I h _ J).1,λ_=>U⟩
 ·rw[vg c] at e;exact I j x e
theorem iW{rk:Nat->Nat}{hs:List Nat}(l:jN rk hs){i h g:Nat}(ei:hs[i]?=some h)(ne:h≠i)(U:hs[h]?=some g):∀(n j r:Nat),rk j<n->aV hs j r->aV (hs.set i g) j r
 |0,_,_,h,_=>absurd h<|EC _
 |n+1,j,r,hn,t=>by
  have o:=iW l ei ne U n;have p:=(l.halve ei ne U).2;cases t with
  |root e=>
   have c:i≠j:=λc=>by subst c;rw[ei] at e;exact ne<|AO e
   exact .root (by rw[vg c];exact e)
  |step e I t=>
   rename_i C;have lt:=(l j C e).2 I;by_cases c:i=j
   ·subst c;rw[ei] at e;cases e;by_cases d:g=h
    ·subst d;exact .step (kn<|zd ei) I<|o _ r (by lia) t
    ·cases t with
     |root J=>rw[U] at J;exact absurd (AO J) d
     |step J T t2=>
      rw[U] at J;cases J;refine .step (kn<|zd ei) (λz=>?_)<|o _ r (by lia) t2;rw[z] at p;exact CD _ p
   ·exact .step (by rw[vg c];exact e) I<|o _ r (by lia) t
def wH(hs:List Nat):Nat:=(List.range hs.length).countP λi=>decide<|hs[i]?=some i
theorem ym(J:jN rk hs){h g:Nat}(ei:hs[i]?=some h)(ne:h≠i)(U:hs[h]?=some g):wH (hs.set i g)=wH hs:=by
 unfold wH;rw[Bm];refine DM λj l=>?_;have I:=(J.halve ei ne U).2;by_cases c:i=j
 ·subst c;rw[kn<|zd ei,ei];have d:g≠i:=λz=>by rw[z] at I;exact CD _ I
  simp[d,ne]
 ·rw[vg c]
theorem mV{p:Nat->Bool}{a:Nat}(I:p a=true):∀{l:List Nat},l.Nodup->a∈l->l.countP (λj=>p j&&!decide (j=a))+1=l.countP p
 |[],_,h=>by cases h
 |x::r,J,h=>by
  obtain⟨U,g⟩:=AH.mp J;rw[List.countP_cons,List.countP_cons];by_cases c:x=a
  ·subst c;have e:r.countP (λj=>p j&&!decide (j=x))=r.countP p:=by refine DM λj o=>?_;have:j≠x:=λz=>U<|z▸o;simp[this]
   rw[e];simp[I]
  ·have t:a∈r:=by
    rcases Ao.mp h with z|z
    ·exact absurd z.symm c
    ·exact z
   have C:=mV I g t;simp only[Au c,Bool.not_false,DS];lia
theorem jN.join(I:jN rk hs){a b:Nat}(ea:hs[a]?=some a)(eb:hs[b]?=some b):∃J,jN J (hs.set a b):=by
 by_cases c:a=b
 ·subst c;refine⟨rk,λi h e=>?_⟩;rw[Bm];by_cases d:a=i
  ·subst d;rw[kn<|zd ea] at e;cases e;exact I _ _ ea
  ·rw[vg d] at e;exact I i h e
 ·refine⟨λx=>if x=b then 0 else rk x+1,λi h e=>?_⟩;rw[Bm];by_cases d:a=i
  ·subst d;rw[kn<|zd ea] at e;cases e;refine⟨zd eb,λ_=>?_⟩;show(if b=b then 0 else rk b+1)<if a=b then 0 else rk a+1
   rw[AC rfl,AB c];exact CU _
  ·rw[vg d] at e;refine⟨(I i h e).1,λne=>?_⟩;have nb:i≠b:=λz=>by subst z;rw[eb] at e;exact ne (AO e).symm
   show(if h=b then 0 else rk h+1)<if i=b then 0 else rk i+1
   rw[AB nb];have:=(I i h e).2 ne;split<;>lia
theorem QZ{a b:Nat}(ea:hs[a]?=some a)(eb:hs[b]?=some b)(t:aV hs i r):aV (hs.set a b) i (if r=a then b else r):=by
 induction t with
 |root e=>
  rename_i r;by_cases c:r=a
  ·subst c;rw[AC rfl];by_cases d:r=b
   ·subst d;exact .root<|kn<|zd ea
   ·exact .step (kn<|zd ea) (λz=>d z.symm) (.root (by rw[vg d];exact eb))
  ·rw[AB c];exact .root (by rw[vg λz=>c z.symm];exact e)
 |step e ne t I=>
  rename_i i h r;have c:a≠i:=λz=>by subst z;rw[ea] at e;exact ne (AO e).symm
  exact .step (by rw[vg c];exact e) ne I
theorem Q0{a b:Nat}(ea:hs[a]?=some a)(eb:hs[b]?=some b)(ne:a≠b):wH (hs.set a b)+1=wH hs:=by
 unfold wH;rw[Bm];have e:=mV (p:=λi=>decide<|hs[i]?=some i) (a:=a) (Av ea) (l:=List.range hs.length) Cw<|AL.mpr<|zd ea;rw[<-e];congr 1;refine DM λj I=>?_;by_cases c:a=j
 ·subst c;rw[kn<|zd ea];simp[A4 ne]
 ·rw[vg c];simp[A4 c]
def mo(C:Addr):zc:=λys L Q=>∃o,∃n:Nat,∃I:Int,ys=[.ref o,.int I]/\I=(n:Int)/\L o=some (.ins C [])/\n<=1000/\∀hp,L hp=none->Q .non (qe (qe L hp<|.lst<|nY<|List.range n) o<|.ins C<|qK hp)
theorem Q1{K:Aj}(xf:XFP K C):∀ys L Q,mo C ys L Q->jw (nj K) 2 ys L Q:=by rintro ys L Q ⟨o,n,g,rfl,rfl,J,j,q⟩;refine⟨⟨by exact AU _,by lia⟩,λU I=>?_⟩;refine k8 ((qc<|aU J I).trans J) ⟨xf.cl,xf.na,by decide,?_⟩;rw[show((n:Nat):Int).toNat=n from rfl,QY];exact x0<|q U I
def iA(C:Addr):zc:=λys L Q=>∃o hp,∃hs:List Nat,∃p:Nat,∃pi:Int,∃rk,ys=[.ref o,.int pi]/\pi=(p:Int)/\L o=some (.ins C<|qK hp)/\L hp=some (.lst<|nY hs)/\jN rk hs/\p<hs.length/\
 ∀(r:Nat) hQ,hQ.length=hs.length->jN rk hQ->aV hs p r->(∀i s,aV hs i s->aV hQ i s)->wH hQ=wH hs->Q (.int (r:Int)) (qe L hp<|.lst<|nY hQ)
theorem Q2{K:Aj}(xf:XFP K C):∀ys L Q,iA C ys L Q->jw (iU K) 3 ys L Q:=by
 rintro ys L Q ⟨o,hp,hs,p,pi,rk,rfl,rfl,ho,a0,hr,a1,q⟩;obtain⟨r0,t0⟩:=hr.rep' a1;have a3:o≠hp:=FX ho a0 (λe=>by cases e);refine⟨λm τ L'=>∃(J:List Nat) (I:Nat),τ=[some<|.ref o,some<|.int (p:Int),some<|.int (I:Int)]/\L'=qe L hp (.lst<|nY J)/\J.length=hs.length/\jN rk J/\I<hs.length/\aV J I r0/\(∀i s,aV hs i s->aV J i s)/\wH J=wH hs/\m=rk I,⟨_,hs,p,rfl,(ar a0).symm,rfl,hr,a1,t0,λ_ _ h=>h,rfl,rfl⟩,?_⟩;rintro m τ L' ⟨J,I,rfl,rfl,hl,U,hh,t,l,a2,rfl⟩;have j:∀z,(qe L hp<|.lst z) o=some (.ins C<|qK hp):=λz=>(qc a3).trans ho;obtain⟨h,r⟩:∃h,J[I]?=some h:=⟨_,Al (by lia)⟩;refine k8 (j _) ⟨xf.cl,xf.na,qh cG<|qb q9<|qh (lE r) ?_⟩;by_cases c:h=I
 ·subst c;refine vi (by show(!decide (((h:Nat):Int)=(h:Int)))=false;rw[Av rfl];rfl) ?_;have e:=t.of_top r;subst e;exact x0<|q _ J hl U t0 l a2
 ·refine cx (by show(!decide (((h:Nat):Int)=(I:Int)))=true;rw[Au (by lia)];rfl) ?_;refine⟨_,λ_ _ h=>h,?_⟩;obtain⟨g,T⟩:∃g,J[h]?=some g:=⟨_,Al (U I h r).1⟩;refine k8 (j _) ⟨xf.cl,xf.na,qh cG<|k8 (j _) ⟨xf.cl,xf.na,qh cG<|qb q9<|qh (lE r)<|qb q9<|qh (lE T) ?_⟩⟩;refine k8 (j _) ⟨xf.cl,xf.na,qh cG<|qr q9<|qh (v:=I) ?_ ?_⟩
  ·exact wY (by rw[jh];lia)
  rw[zh,Jc];have es:(J.set I g)[I]?=some g:=kn (by lia);refine k8 (j _) ⟨xf.cl,xf.na,qh cG<|qb q9<|qh (lE es) ?_⟩;obtain⟨a4,a5⟩:=U.halve r c T;refine⟨_,EL _,rk g,a5,J.set I g,g,rfl,rfl,by rw[Bm];exact hl,a4,?_,?_,λi s z=>iW U r c T (rk i+1) i s (Bk _)<|l i s z,by rw[ym U r c T];exact a2,rfl⟩
  ·rw[<-hl];exact(U h g T).1
  ·have t2:=iW U r c T (rk I+1) I r0 (Bk _) t;cases t2 with|root e2=>rw[es] at e2;cases e2;exact .root es|step e2 a7 t3=>rw[es] at e2;cases e2;exact t3
def mW(C:Addr):zc:=λys L Q=>∃o hp,∃hs:List Nat,∃p q a b:Nat,∃pi I:Int,ys=[.ref o,.int pi,.int I]/\pi=(p:Int)/\I=(q:Int)/\L o=some (.ins C<|qK hp)/\L hp=some (.lst<|nY hs)/\(∃rk,jN rk hs)/\aV hs p a/\aV hs q b/\p<hs.length/\q<hs.length/\
 ∀hQ,hQ.length=hs.length->(∃rk,jN rk hQ)->(∀i s,aV hs i s->aV hQ i (if s=a then b else s))->(a=b->wH hQ=wH hs)->(a≠b->wH hQ+1=wH hs)->Q (.bl<|!decide (a=b)) (qe L hp<|.lst<|nY hQ)
theorem Q4{K:Aj}(xf:XFP K C):∀ys L Q,mW C ys L Q->jw (mD K C<|iA C) 5 ys L Q:=by
 rintro ys L Q ⟨o,U,hs,p,q,a,b,pi,qi,rfl,rfl,rfl,l,g,⟨rk,hr⟩,ta,tb,t,a3,k⟩;have T:o≠U:=FX l g (λe=>by cases e);have J:∀z,(qe L U<|.lst z) o=some (.ins C<|qK U):=λz=>(qc T).trans l;refine k8 l ⟨rfl,ao,o,U,hs,p,_,rk,rfl,rfl,l,g,hr,t,λr1 a0 l1 k1 t1 r n1=>?_⟩;cases t1.uniq ta;refine k8 (J _) ⟨rfl,ao,o,U,a0,q,_,rk,rfl,rfl,J _,q9,k1,by lia,λr2 I l2 k2 t2 a2 n2=>?_⟩;cases t2.uniq (r _ _ tb);rw[zh];have ea:I[a]?=some a:=(a2 _ _<|r _ _ ta).top;have eb:I[b]?=some b:=(a2 _ _<|r _ _ tb).top;refine k8 (J _) ⟨xf.cl,xf.na,qh cG (qr q9 (qh (v:=a) (wY (by rw[jh];exact zd ea)) ?_))⟩;rw[zh,Jc];have e0:(decide<|(a:Int)=(b:Int))=decide (a=b):=by
  by_cases c:a=b
  ·rw[Av c];exact Av (by lia)
  ·rw[Au c];exact Au (by lia)
 show mE Q (.bl<|!decide ((a:Int)=(b:Int))) _;rw[e0];refine x0 (k (I.set a b) (by rw[Bm];lia) (k2.join ea eb) (λi s z=>QZ ea eb<|a2 _ _<|r _ _ z) (λe=>?_) λne=>?_)
 ·subst e;have:I.set a a=I:=by
   apply DJ;intro j;by_cases c:a=j
   ·subst c;rw[kn<|zd ea,ea]
   ·rw[vg c]
  rw[this,n2,n1]
 ·have:=Q0 ea eb ne;lia
noncomputable def eS:RD "_law_cell_at" ax 0 ["_law_script","_law_k"] (λ_=>True):=⟨_,λV B c _ _ _ _ _ _ _ I hN J=>(qa (zv (je u6 (qv 1) (L_ B.ba<|qv 0)<|vf _) (qd<|qx<|I_ (qv 0)<|qv 1) z9)<|qd<|qx qf)⟩
noncomputable def mP:kh:=(eS).1
noncomputable def kR:RD "_law_mix" fz 0 ["_law_cell","_law_k","_law_factor"] (λ_=>True):=⟨_,λV B c _ _ _ _ _ _ _ I hN J=>(qd<|qx<|qj w9 (qj jz (qj lv (qj j4 (qj j4 (qj lv (qj jz (qv 0) qf) qf)<|qj lv (qv 1)<|qv 1) qf)<|qv 2) qf) qf)⟩
noncomputable def u3:kh:=(kR).1
noncomputable def fO(J:zc):RR "_law_weight" bv 1 ["_law_word_here"] ["_law_word_here"] J (λ_=>True):=⟨_,λV B c _ _ I _ _ _ _ _ _ U hN g=>(qa (zv (E_ g (L_ B.ba<|qv 0) qf) (qd<|qx qf) z9)<|qd<|qx<|qj j4 (qj j4 qf<|C_ I U<|jv<|J_ 0)<|C_ I U<|jv<|J_ 0)⟩
noncomputable def n5(I:zc):kh:=(fO I).1
noncomputable def jK(J:zc):RR "_law_word" dh 1 ["_law_knots","_law_p"] ["_law_knots","_law_p","_law_knot"] J (λ_=>True):=⟨_,λV B c _ _ I _ _ _ _ _ _ U hN g=>(qa (S_ 2 hN<|I_ (qv 0)<|qv 1)<|qa (zv (E_ g (L_ B.ba<|qv 2) qf) (qd<|qx<|qv 2) z9)<|qd<|qx<|zr<|cS (J_ 2) (C_ I U<|wg (qv 0)<|J_ 2)<|C_ I U<|wg (qv 0)<|J_ 2)⟩
noncomputable def sk(I:zc):kh:=(jK I).1
def gB:zc:=λys L Q=>∃I:List Int,∃k:Int,ys=[.sq<|I.map Y.int,.int k]/\0<=k/\∀v,Q (.int v) L
theorem uN:∀ys L Q,gB ys L Q->jw mP 2 ys L Q:=by rintro ys L Q ⟨I,k,rfl,U,q⟩;refine jg (λc=>?_) λc=>x0<|q 0;have J:k<((I.map Y.int).length:Int):=c;rw[Ah] at J;obtain⟨j,rfl⟩:∃j:Nat,k=(j:Int):=⟨k.toNat,by lia⟩;have e:bp (I.map Y.int) (j:Int)=some (Y.int<|I[j]'(by omega)):=bP<|Al _;walk_at "w";rw[e];exact x0<|q _
def qG:zc:=λys L Q=>∃c k f:Int,ys=[.int c,.int k,.int f]/\0<=k/\k<1000000/\0<f/\f<1000000/\∀v,0<=v->v<134217728->Q (.int v) L
theorem Q5:∀ys L Q,qG ys L Q->jw u3 3 ys L Q:=by
 rintro ys L Q ⟨c,k,f,rfl,I,J,U,g,q⟩;refine⟨(by decide:(0:Int)<1000003),.inr ⟨by decide,by decide⟩,.inl ⟨by lia,by lia⟩,.inr ⟨by lia,by lia⟩,(by decide:(0:Int)<2147483647),⟨by decide,by decide⟩,x0<|q _ ?_ ?_⟩
 all_goals
  generalize ((c % 1000003*7+k*k+1)*f)=z;lia
theorem acl(cs:List Nat):(Txt.join ""<|cs.map λc=>(⟨#[c]⟩:Str)).cps.toList=cs:=by
 rw[pC]
 induction cs with|nil=>rfl|cons c r I=>rw[AG,Bn,I];rfl
def cK(n:Nat):zc:=λys L Q=>∃wd,ys=[bn wd]/\wd.depth<=n/\Q (.int wd.size) L
theorem l6:∀ys L Q,¬cK 0 ys L Q:=λys L Q ψ=>by obtain⟨I,_,hd,_⟩:=ψ;cases I<;>simp[Wd.depth] at hd
theorem zS(n:Nat):∀ys L Q,cK (n+1) ys L Q->jw (n5<|cK n) 1 ys L Q:=by
 rintro ys L Q ⟨I,rfl,hd,q⟩;cases I with
 |leaf t n=>exact x0 q
 |node e l r=>
  have J:max l.depth r.depth+1<=n+1:=hd;refine⟨l,rfl,by lia,r,rfl,by lia,x0 ?_⟩;have e:(1+(l.size:Int)+(r.size:Int))=(((Wd.node e l r).size:Nat):Int):=by show _=((1+l.size+r.size:Nat):Int);rfl
  rw[e];exact q
def KW(ks:List Y):Nat->Wd->Prop
 |p,.leaf t n=>ks[p]?=some (.tup [.str<|kL t,.str n])
 |p,.node e l r=>∃i j:Nat,ks[p]?=some (.tup [.str<|kN e,.int i,.int j])/\KW ks i l/\KW ks j r
theorem KW.more{ks:List Y}(ms:List Y):∀{wd:Wd} {p:Nat},KW ks p wd->KW (ks++ms) p wd
 |.leaf _ _,p,h=>by have I:ks[p]?=some _:=h;show(ks++ms)[p]?=some _;rw[AJ (AS.mp I).1];exact I
 |.node _ _ _,p,ψ=>(by obtain⟨i,j,h,a,b⟩:=ψ;exact ⟨i,j,by rw[AJ (AS.mp h).1];exact h,KW.more ms a,KW.more ms b⟩)
def aJ(n:Nat):zc:=λys L Q=>∃k ks p wd,ys=[.ref k,.int ((p:Nat):Int)]/\L k=some (.lst ks)/\KW ks p wd/\wd.depth<=n/\Q (bn wd) L
theorem vI:∀ys L Q,¬aJ 0 ys L Q:=λys L Q ψ=>by obtain⟨k,J,p,I,_,_,_,hd,_⟩:=ψ;cases I<;>simp[Wd.depth] at hd
theorem qY:∀ys L Q,¬aJ 0 ys L Q:=vI
theorem tL(n:Nat):∀ys L Q,aJ (n+1) ys L Q->jw (sk<|aJ n) 3 ys L Q:=by
 rintro ys L Q ⟨k,J,p,U,rfl,I,h,hd,q⟩;cases U with
 |leaf t nm=>exact qb I<|qh (xg h)<|x0 q
 |node e l r=>
  obtain⟨i,j,h,g,o⟩:=h;have C:max l.depth r.depth+1<=n+1:=hd;exact qb I<|qh (xg h) ⟨k,J,i,l,rfl,I,g,by lia,k,J,j,r,rfl,I,o,by lia,x0 q⟩
def k_(l:List Nat):Str:=⟨l.toArray⟩
theorem xE(x:Str):k_ x.cps.toList=x:=by cases x;rfl
noncomputable def wP(J:zc):RR "_law_flip" dk 1 ["_law_word_here"] ["_law_word_here","_law_sides_here"] J (λ_=>True):=⟨_,λV B c _ _ I _ _ _ _ _ _ U hN g=>(qa (S_ 1 hN<|Pz [ ("plain" ,"turned") ,("turned" ,"plain") ,("both" ,"either") ,("either" ,"both") ] (gZ cj cj<|gZ cj cj<|gZ cj cj<|gZ cj cj NH) rfl rfl (List.cons_ne_nil _ _)<|CH rfl)<|qa (zv (E_ g (L_ B.ba<|qv 0) qf) (qd<|qx<|zr<|wg (I_ (qv 1)<|J_ 0)<|J_ 0) z9)<|qd<|qx<|zr<|cS (I_ (qv 1)<|J_ 0) (C_ I U<|jv<|J_ 0)<|C_ I U<|jv<|J_ 0)⟩
noncomputable def Q6(I:zc):kh:=(wP I).1
def Q7(I:zc)(p1:zc):kh:=(xb (jU (j_ (wU 1)<|oH 2) (xb (eM<|uz wx (qw 0)<|zj (kg I<|iD<|qw 1) aY)
 (xb (eM<|uz wx (qw 0)<|iD<|qw 1)
 (gG<|om<|zj (mC<|zj (t_ "link")<|zj (bL y_ (wU 0)<|oH 2)<|zj (bL y_ (wU 0)<|oH 1) aY)<|zj (bL y_ (wU 0)<|oH 2)<|zj (bL y_ (wU 0)<|oH 1) aY))) fY)
 (xb (wb (kg p1<|pY (qw 0)<|iL 1 1)<|z7 2)
 (xb (wb (kg p1<|pY (qw 0)<|iL 1 2)<|z7 3)
 (xb (eM<|uz wx (qw 0)<|zj (mC<|zj (bL uI (kg I<|iD<|qw 1)<|oH 0)<|pY (iL 2 1)<|iL 3 1) aY)
 (xb (eM<|uz wx (qw 0)<|zj (mC<|zj (iL 1 0)<|pY (iL 2 2)<|iL 3 2) aY)
 (xb (HX 4 5<|zj (bL y_ (wU 0)<|oH 2)<|zj (bL y_ (wU 0)<|oH 1) aY)
 (xb (wb (F2 (j_ (iL 1 0)<|t_ "either") (qw 4)<|qw 5)<|z7 6)
 (xb (wb (F2 (j_ (iL 1 0)<|t_ "either") (qw 5)<|qw 4)<|z7 7)
 (gG<|om<|zj (mC<|zj (t_ "either")<|zj (qw 7)<|zj (mC<|zj (t_ "both")<|zj (qw 6)<|pY (iL 2 0)<|iL 3 0) aY)<|pY (qw 4)<|qw 5)))))))))
set_option genInjectivity true in
inductive Kn where
 |lf (t:Bool) (n:Str)|nd (e:Bool) (i j:Nat)
def pU:Kn->Y
 |.lf t n=>.tup [.str<|kL t,.str n]
 |.nd e i j=>.tup [.str<|kN e,.int ((i:Nat):Int),.int ((j:Nat):Int)]
inductive Ru where
 |link (p q:Nat)|ei (r:Nat) (A:Ru)|bo (r:Nat) (A B:Ru)|cu (p q:Nat) (A B:Ru)
def zu:Ru->Y
 |.link p q=>.tup [.str "link",.int ((p:Nat):Int),.int ((q:Nat):Int)]
 |.ei r A=>.tup [.str "either",.int ((r:Nat):Int),zu A]
 |.bo r A B=>.tup [.str "both",.int ((r:Nat):Int),zu A,zu B]
 |.cu p q A B=>.tup [.str "cut",.int ((p:Nat):Int),.int ((q:Nat):Int),zu A,zu B]
def qk:Ru->List Nat
 |.link p q=>[p,q]
 |.ei r A=>r::qk A
 |.bo r A B=>r::(qk A++qk B)
 |.cu _ _ A B=>qk A++qk B
abbrev js(ks:List Kn):List Y:=ks.map pU
def cU(ks:List Kn)(p:Nat)(w:Wd):Prop:=KW (js ks) p w
theorem cU.more{ks:List Kn}{w:Wd}(h:cU ks p w)(ms:List Kn):cU (ks++ms) p w:=by unfold cU js;rw[AD];exact KW.more _ h
def dM(ks:List Kn):Prop:=∀(p:Nat) (k:Kn),ks[p]?=some k->match k with
 |.lf _ n=>dy n
 |.nd _ i j=>i<p/\j<p
theorem dM.snoc{ks:List Kn}{k:Kn}(h:dM ks)(I:match k with|.lf _ n=>dy n|.nd _ i j=>i<ks.length/\j<ks.length):dM (ks++[k]):=by
 intro p J e;by_cases c:p<ks.length
 ·rw[AJ c] at e;exact h p J e
 ·rw[Ax (by exact yJ)] at e;have c2:p=ks.length:=by
   by_cases c3:p-ks.length=0
   ·omega
   ·rw[CG (by simp;exact Ec)] at e;cases e
  subst c2;rw[Dy] at e;cases e;exact I
theorem eQ(l:List α)(x:α)(r:List α):(l++x::r)[l.length]?=some x:=by rw[Ax<|Ap _,Dy];rfl
theorem iM{l r:List α}{x:α}(h:l[p]?=some x):(l++r)[p]?=some x:=by rw[AJ (AS.mp h).1];exact h
inductive SR(ks:List Kn):Ru->List Nat->Prop
 |link {p q:Nat} {t:Bool} {n:Str} {E:List Nat}:p<q->ks[p]?=some (.lf t n)->ks[q]?=some (.lf (!t) n)->(∀x,x∈E↔x=p\/x=q)->E.Nodup->SR ks (.link p q) E
 |ei {r i j:Nat} {A:Ru} {EA E:List Nat}:ks[r]?=some (.nd true i j)->SR ks A EA->i∈EA->j∈EA->i≠j->(∀x,x∈E↔(x∈EA/\x≠i/\x≠j)\/x=r)->E.Nodup->SR ks (.ei r A) E
 |bo {r i j:Nat} {A B:Ru} {EA EB E:List Nat}:ks[r]?=some (.nd false i j)->SR ks A EA->SR ks B EB->i∈EA->j∈EB->(∀x,x∈E↔(x∈EA/\x≠i)\/(x∈EB/\x≠j)\/x=r)->E.Nodup->SR ks (.bo r A B) E
 |cu {p q:Nat} {A B:Ru} {EA EB E:List Nat} {w:Wd}:SR ks A EA->SR ks B EB->p∈EA->q∈EB->cU ks p w->cU ks q w.turn->(∀x,x∈E↔(x∈EA/\x≠p)\/(x∈EB/\x≠q))->E.Nodup->SR ks (.cu p q A B) E
theorem SR.more{ks:List Kn}{R:Ru}{E:List Nat}(h:SR ks R E)(ms:List Kn):SR (ks++ms) R E:=by induction h with|link j r l I J=>exact .link j (iM r) (iM l) I J|ei j _ l I J o p t=>exact .ei (iM j) t l I J o p|bo j _ _ I J o p U g=>exact .bo (iM j) U g I J o p|cu _ _ l I J o p C U g=>exact .cu U g l I (J.more ms) (o.more ms) p C
theorem SR.sub{ks:List Kn}{R:Ru}{E:List Nat}(h:SR ks R E):∀x∈E,x∈qk R:=by
 induction h with
 |link _ _ _ j _=>intro x I;rcases (j x).mp I with rfl|rfl<;>simp[qk]
 |ei _ _ _ _ _ g _ l=>intro x I;rcases (g x).mp I with⟨h,_⟩|rfl;exact Ab _<|l x h;exact Ak ..
 |bo _ _ _ _ _ g _ J U=>
  intro x I;rcases (g x).mp I with⟨h,_⟩|⟨h,_⟩|rfl
  ·exact Ab _<|Ai _<|J x h
  ·exact Ab _<|Ae _<|U x h
  ·exact Ak ..
 |cu _ _ _ _ _ _ o _ J U=>
  intro x I;rcases (o x).mp I with⟨h,_⟩|⟨h,_⟩
  ·exact Ai _<|J x h
  ·exact Ae _<|U x h
def aR(n:Nat):zc:=λys L Q=>∃wd,ys=[bn wd]/\wd.depth<=n/\Q (bn wd.turn) L
theorem Q8:∀ys L Q,¬aR 0 ys L Q:=λys L Q ψ=>by obtain⟨I,_,hd,_⟩:=ψ;cases I<;>simp[Wd.depth] at hd
theorem uc(t:Bool):km ([(("plain" : Str),("turned" : Str)),("turned","plain"),("both","either"),("either","both")].map λp=>((Sum.inr p.1:j9),Y.str p.2)) (Sum.inr<|kL t)=some (.str<|kL<|!t):=iu<|Qy t
theorem ui(t:Bool):km ([(("plain" : Str),("turned" : Str)),("turned","plain"),("both","either"),("either","both")].map λp=>((Sum.inr p.1:j9),Y.str p.2)) (Sum.inr<|kN t)=some (.str<|kN<|!t):=iu<|Qz t
theorem Q9(n:Nat):∀ys L Q,aR (n+1) ys L Q->jw (Q6<|aR n) 2 ys L Q:=by
 rintro ys L Q ⟨J,rfl,hd,q⟩;intro p I;cases J with
 |leaf t nm=>
  refine vm q9<|qh (uc t) ?_;exact kU (By I) q
 |node e l r=>
  have U:max l.depth r.depth+1<=n+1:=hd;refine vm q9<|qh (ui e) ?_;refine⟨l,rfl,by lia,r,rfl,by lia,?_⟩;exact kU (By I) q
structure z_(ks:List Kn)(w:Wd)(ms:List Kn)(R:Ru)(tp sp:Nat):Prop where
 len:ms.length=2*w.size
 sr:SR (ks++ms) R [tp,sp]
 wt:cU (ks++ms) tp w.turn
 ws:cU (ks++ms) sp w
 tm:∀x,x∈qk R↔ks.length<=x/\x<ks.length+ms.length
 nd:(qk R).Nodup
 ok:dM (ks++ms)
theorem cU.leaf{ks:List Kn}{t:Bool}{n:Str}(h:ks[p]?=some (.lf t n)):cU ks p (.leaf t n):=by show(js ks)[p]?=_;rw[Aq,h];rfl
theorem cU.node{ks:List Kn}{e:Bool}{l r:Wd}(h:ks[p]?=some (.nd e i j))(I:cU ks i l)(J:cU ks j r):cU ks p (.node e l r):=by refine⟨i,j,?_,I,J⟩;rw[Aq,h];rfl
abbrev E6:=@cU.node
theorem ss{ks:List Kn}(g:dM ks){t:Bool}{n:Str}(I:dy n):z_ ks (.leaf t n) [.lf (!t) n,.lf t n] (.link ks.length<|ks.length+1) ks.length (ks.length+1):=by
 have J:(ks++[Kn.lf (!t) n,.lf t n])[ks.length]?=some (.lf (!t) n):=eQ _ _ _;have U:(ks++[Kn.lf (!t) n,.lf t n])[ks.length+1]?=some (.lf t n):=by have:=eQ (ks++[Kn.lf (!t) n]) (Kn.lf t n) [];rw[Ad,AA] at this;exact this
 refine⟨rfl,.link (t:=!t) (n:=n) (by exact Bk _) J (by rw[Bool.not_not];exact U) (by simp) (by simp),cU.leaf J,cU.leaf U,λx=>?_,by simp[qk],?_⟩
 ·show x∈[ks.length,ks.length+1]↔ks.length<=x/\x<ks.length+2;simp;lia
 ·have:=(g.snoc (k:=.lf (!t) n) I).snoc (k:=.lf t n) I;rw[AA] at this;exact this
theorem SR.nod{ks:List Kn}{R:Ru}{E:List Nat}(h:SR ks R E):E.Nodup:=by cases h<;>assumption
theorem Ra{x h lo a N:Nat}(I:(h=N/\lo=N+1)\/(h=N+1/\lo=N))(hN:N=a+m+r):x=h\/x=lo\/(a<=x/\x<a+m)\/a+m<=x/\x<a+m+r↔a<=x/\x<N+2:=by subst hN;rcases I with⟨rfl,rfl⟩|⟨rfl,rfl⟩<;>lia
theorem Rb{x a b c d N:Nat}(h:a≠b)(k:c≠d):x∈[b,d,N]↔(x∈[a,b]/\x≠a)\/(x∈[c,d]/\x≠c)\/x=N:=by simp only[Ao,Cy,or_false];lia
theorem Rc{x a b c d N:Nat}(h:a≠b)(k:c≠d):x∈[a,c,N]↔(x∈[a,b]/\x≠b)\/(x∈[c,d]/\x≠d)\/x=N:=by simp only[Ao,Cy,or_false];lia
theorem Rf{x a b N M:Nat}(h:a<N)(k:b<N):x∈[N,M]↔(x∈[a,b,N]/\x≠a/\x≠b)\/x=M:=by simp only[Ao,Cy,or_false];lia
theorem Rg{x a b N M:Nat}(h:a<N)(k:b<N):x∈[M,N]↔(x∈[a,b,N]/\x≠a/\x≠b)\/x=M:=by simp only[Ao,Cy,or_false];lia
theorem Jd{a b N:Nat}(h:a<N)(k:b<N)(d:a≠b):[a,b,N].Nodup:=by rw[AH,AH];simp;lia
theorem Rh{a N t s u v:Nat}(I:a<=t/\t<a+m)(J:a<=s/\s<a+m)(b1:a+m<=u/\u<a+m+r)(b2:a+m<=v/\v<a+m+r)(hN:N=a+m+r):t<N/\s<N/\u<N/\v<N/\t≠u/\s≠v:=by lia
theorem Je{h lo a N:Nat}(I:(h=N/\lo=N+1)\/(h=N+1/\lo=N))(hN:N=a+m+r):¬(h=lo\/(a<=h/\h<a+m)\/a+m<=h/\h<a+m+r)/\¬((a<=lo/\lo<a+m)\/a+m<=lo/\lo<a+m+r):=by lia
theorem Ri{x y a:Nat}(h1:a<=x/\x<a+m)(h2:a+m<=y/\y<a+m+r)(e:x=y):False:=by lia
theorem Rj{ks I g:List Kn}{e:Bool}{l r:Wd}{A B:Ru}{tl J tr U:Nat}(p:z_ ks l I A tl J)(o:z_ (ks++I) r g B tr U){N:Nat}(hN:N=ks.length+(I++g).length):
 z_ ks (.node e l r) (I++g++[.nd (!e) tl tr,.nd e J U]) (.ei (if e=true then N+1 else N)<|.bo (if e=true then N else N+1) A B) N (N+1):=by
 have hA:∀x∈[tl,J],ks.length<=x/\x<ks.length+I.length:=λx T=>(p.tm x).mp<|p.sr.sub x T;have hB:∀x∈[tr,U],ks.length+I.length<=x/\x<ks.length+I.length+g.length:=λx T=>by have:=(o.tm x).mp<|o.sr.sub x T;rw[Ad] at this;exact this
 have a1:=hA tl (by simp);have a2:=hA J (by simp);have b1:=hB tr (by simp);have b2:=hB U (by simp);have nA:tl≠J:=by have:=p.sr.nod;simpa using this
 have nB:tr≠U:=by have:=o.sr.nod;simpa using this
 have t:N=ks.length+I.length+g.length:=by rw[hN,Ad];simp +arith only
 obtain⟨d1,d2,d3,d4,d5,d6⟩:=Rh a1 a2 b1 b2 t;generalize j:ks++(I++g++[Kn.nd (!e) tl tr,.nd e J U])=K;have k1:K=(ks++I)++(g++[Kn.nd (!e) tl tr,.nd e J U]):=by rw[<-j];simp
 have k2:K=((ks++I)++g)++[Kn.nd (!e) tl tr,.nd e J U]:=by rw[<-j];simp
 have k3:K=(((ks++I)++g)++[Kn.nd (!e) tl tr])++[.nd e J U]:=by rw[<-j];simp
 have l2:((ks++I)++g).length=N:=by rw[Ad,Ad];lia
 have g1:K[N]?=some (.nd (!e) tl tr):=by rw[k2,<-l2];exact eQ _ _ _
 have g2:K[N+1]?=some (.nd e J U):=by
  have l3:(((ks++I)++g)++[Kn.nd (!e) tl tr]).length=N+1:=by rw[Ad,l2];rfl
  rw[k3,<-l3];exact eQ _ _ _
 have sA:SR K A [tl,J]:=by rw[k1];exact p.sr.more _
 have sB:SR K B [tr,U]:=by rw[k2];exact o.sr.more _
 have a0:dM K:=by have o1:=o.ok.snoc (k:=.nd (!e) tl tr) (by show tl<((ks++I)++g).length/\tr<((ks++I)++g).length;rw[l2];exact⟨d1,d3⟩);have o2:=o1.snoc (k:=.nd e J U) (by show J<_/\U<_;rw[Ad,l2];exact⟨Cm d2,Cm d4⟩);rw[k3];exact o2
 have tA:=p.tm;have tB:=o.tm;rw[Ad] at tB;have wt:cU K N (Wd.node e l r).turn:=E6 g1 (by rw[k1];exact p.wt.more _) (by rw[k2];exact o.wt.more _);have a3:cU K (N+1) (Wd.node e l r):=E6 g2 (by rw[k1];exact p.ws.more _) (by rw[k2];exact o.ws.more _);have C:(I++g++[Kn.nd (!e) tl tr,.nd e J U]).length=2*(Wd.node e l r).size:=by have h1:=p.len;have h2:=o.len;show _=2*(1+l.size+r.size);rw[Ad,Ad];simp;lia
 have lt:ks.length+(I++g++[Kn.nd (!e) tl tr,.nd e J U]).length=N+2:=by rw[Ad];simp[hN];rfl
 have tt:∀h lo:Nat,(h=N/\lo=N+1)\/(h=N+1/\lo=N)->(∀x,x∈qk (.ei h<|.bo lo A B)↔ks.length<=x/\x<ks.length+(I++g++[Kn.nd (!e) tl tr,.nd e J U]).length)/\(qk<|.ei h<|.bo lo A B).Nodup:=by
  intro h lo hh;constructor
  ·intro x;rw[lt];show x∈h::lo::(qk A++qk B)↔_;rw[Ao,Ao,Ag,tA,tB];exact Ra hh t
  ·show(h::lo::(qk A++qk B)).Nodup;rw[AH,AH,Ay];refine⟨?_,?_,p.nd,o.nd,λx T y hy e=>?_⟩
   ·rw[Ao,Ag,tA,tB];exact(Je hh t).1
   ·rw[Ag,tA,tB];exact(Je hh t).2
   ·exact Ri ((tA x).mp T) ((tB y).mp hy) e
 cases e with
 |true=>
  have s1:SR K (.bo N A B) [J,U,N]:=by exact .bo g1 sA sB (by simp) (by simp) (λx=>Rb nA nB)<|Jd d2 d4 d6
  have s2:SR K (.ei (N+1)<|.bo N A B) [N,N+1]:=by exact .ei g2 s1 (by simp) (by simp) d6 (λx=>Rf d2 d4) (by simp)
  obtain⟨t1,t2⟩:=tt (N+1) N<|.inr ⟨rfl,rfl⟩;exact⟨C,by rw[j];exact s2,by rw[j];exact wt,by rw[j];exact a3,t1,t2,by rw[j];exact a0⟩
 |false=>
  have s1:SR K (.bo (N+1) A B) [tl,tr,N+1]:=by exact .bo g2 sA sB (by simp) (by simp) (λx=>Rc nA nB)<|Jd (Cm d1) (Cm d3) d5
  have s2:SR K (.ei N<|.bo (N+1) A B) [N,N+1]:=by exact .ei g1 s1 (by simp) (by simp) d5 (λx=>Rg (Cm d1)<|Cm d3) (by simp)
  obtain⟨t1,t2⟩:=tt N (N+1)<|.inl ⟨rfl,rfl⟩;exact⟨C,by rw[j];exact s2,by rw[j];exact wt,by rw[j];exact a3,t1,t2,by rw[j];exact a0⟩
def wn(n:Nat):zc:=λys L Q=>∃a,∃ks:List Kn,∃w:Wd,ys=[.ref a,bn w]/\L a=some (.lst<|js ks)/\w.depth<=n/\n<=120/\w.ok/\dM ks/\ks.length+2*w.size<=10000/\
 ∀ms R tp sp p,L p=none->z_ ks w ms R tp sp->Q (.ref p) (qe (qe L a<|.lst<|js<|ks++ms) p<|.lst [zu R,.int ((tp:Nat):Int),.int ((sp:Nat):Int)])
theorem yO:∀ys L Q,¬wn 0 ys L Q:=λys L Q ψ=>by obtain⟨a,J,I,_,_,hd,_⟩:=ψ;cases I<;>simp[Wd.depth] at hd
theorem a_:∀m:Nat,m<=20000->m<sizeLine:=λm h=>BA h (by decide)
theorem yG{FS:zc}(hF:∀ys L Q,aR 120 ys L Q->FS ys L Q)(n:Nat):∀ys L Q,wn (n+1) ys L Q->jw (Q7 FS<|wn n) 8 ys L Q:=by
 rintro ys L Q ⟨a,I,w,rfl,ha,hd,hn,a1,hk,hb,q⟩;have big:=a_;cases w with
 |leaf t nm=>
  have hb:I.length+2*1<=10000:=hb;refine qb ha (hF _ _ _ ⟨.leaf t nm,rfl,by exact CU _,qr ha ⟨big _ (by rw[Ah];lia),?_⟩⟩);refine qb q9 (qr q9 ⟨big _ (by rw[Ad,Ah];simp;lia),?_⟩);rw[zh];have e1:(js I++[bn (Wd.leaf t nm).turn])++[bn<|.leaf t nm]=js (I++[.lf (!t) nm,.lf t nm]):=by unfold js;rw[AD,AA];rfl
  have e2:(js<|I++[Kn.lf (!t) nm,.lf t nm]).length=I.length+2:=by rw[Ah,Ad];rfl
  have i1:((((js<|I++[Kn.lf (!t) nm,.lf t nm]).length:Nat):Int)-2)=((I.length:Nat):Int):=by rw[e2];lia
  have i2:((((js<|I++[Kn.lf (!t) nm,.lf t nm]).length:Nat):Int)-1)=((I.length+1:Nat):Int):=by rw[e2];lia
  have al:(js I++[bn (Wd.leaf t nm).turn])++[.tup [.str<|kL t,.str nm]]=js (I++[.lf (!t) nm,.lf t nm]):=e1
  first|rw[e1]|rw[al]
  refine qb q9<|qb q9<|qb q9<|qb q9 λp hp=>?_;have np:L p=none:=by
   have:p≠a:=λe=>by rw[e,q9] at hp;cases hp
   rw[qc this] at hp;exact hp
  have:=q _ _ _ _ p np<|ss hk a1;have key:[zu<|.link I.length<|I.length+1,Y.int ((I.length:Nat):Int),Y.int ((I.length+1:Nat):Int)]=[.tup [.str "link",.int<|(((js<|I++[Kn.lf (!t) nm,.lf t nm]).length:Nat):Int)-2,.int<|(((js<|I++[Kn.lf (!t) nm,.lf t nm]).length:Nat):Int)-1],.int<|(((js<|I++[Kn.lf (!t) nm,.lf t nm]).length:Nat):Int)-2,.int<|(((js<|I++[Kn.lf (!t) nm,.lf t nm]).length:Nat):Int)-1]:=by rw[i1,i2];rfl
  rw[key] at this;exact x0 this
 |node e l r=>
  have av:max l.depth r.depth+1<=n+1:=hd;have hb:I.length+2*(1+l.size+r.size)<=10000:=hb;refine⟨a,I,l,rfl,ha,by lia,by exact iK,a1.1,hk,by lia,λJ A g j p1 a7 ML=>?_⟩;have a0:a≠p1:=aU ha a7;have aL:=ML.len;refine⟨a,I++J,r,rfl,by rw[qc a0,q9],by lia,by exact iK,a1.2,ML.ok,by rw[Ad];lia,λU B C T p2 a2 MR=>?_⟩;have ba:=MR.len;have au:p1≠p2:=aU q9 a2;have ab:a≠p2:=aU (by rw[qc a0];exact q9) a2;have a3:qe (qe (qe (qe L a<|.lst<|js<|I++J) p1<|.lst [zu A,.int ((g:Nat):Int),.int ((j:Nat):Int)]) a<|.lst<|js<|(I++J)++U) p2 (.lst [zu B,.int ((C:Nat):Int),.int ((T:Nat):Int)]) a=some (.lst<|js<|(I++J)++U):=by rw[qc ab];exact q9
  have h1:qe (qe (qe (qe L a<|.lst<|js<|I++J) p1<|.lst [zu A,.int ((g:Nat):Int),.int ((j:Nat):Int)]) a<|.lst<|js<|(I++J)++U) p2 (.lst [zu B,.int ((C:Nat):Int),.int ((T:Nat):Int)]) p1=some (.lst [zu A,.int ((g:Nat):Int),.int ((j:Nat):Int)]):=by rw[qc au,qc<|A4 a0];exact q9
  have h2:qe (qe (qe (qe L a<|.lst<|js<|I++J) p1<|.lst [zu A,.int ((g:Nat):Int),.int ((j:Nat):Int)]) a<|.lst<|js<|(I++J)++U) p2 (.lst [zu B,.int ((C:Nat):Int),.int ((T:Nat):Int)]) p2=some (.lst [zu B,.int ((C:Nat):Int),.int ((T:Nat):Int)]):=q9;have old:∀b o,b≠a->L b=some o->qe (qe (qe (qe L a<|.lst<|js<|I++J) p1<|.lst [zu A,.int ((g:Nat):Int),.int ((j:Nat):Int)]) a<|.lst<|js<|(I++J)++U) p2 (.lst [zu B,.int ((C:Nat):Int),.int ((T:Nat):Int)]) b=some o:=λb o nb e=>by
   have n1:b≠p1:=aU e a7;have e2:qe (qe L a<|.lst<|js<|I++J) p1 (.lst [zu A,.int ((g:Nat):Int),.int ((j:Nat):Int)]) b=some o:=by rw[qc n1,qc nb];exact e
   have n2:b≠p2:=aU e2 a2;rw[qc n2,qc nb];exact e2
  generalize qe (qe (qe (qe L a<|.lst<|js<|I++J) p1<|.lst [zu A,.int ((g:Nat):Int),.int ((j:Nat):Int)]) a<|.lst<|js<|(I++J)++U) p2 (.lst [zu B,.int ((C:Nat):Int),.int ((T:Nat):Int)])=L2 at a3 h1 h2 old;have bb:(js<|(I++J)++U).length=I.length+J.length+U.length:=by rw[Ah,Ad,Ad]
  refine qb a3 (hF _ _ _ ⟨.node e l r,rfl,by show max l.depth r.depth+1<=120;exact D_,qb h1<|qb h2<|qr a3 ⟨big _ (by lia),?_⟩⟩);have a4:∀o,qe L2 a o p1=some (.lst [zu A,.int ((g:Nat):Int),.int ((j:Nat):Int)]):=λo=>by rw[qc<|A4 a0];exact h1
  have a5:∀o,qe L2 a o p2=some (.lst [zu B,.int ((C:Nat):Int),.int ((T:Nat):Int)]):=λo=>by rw[qc<|A4 ab];exact h2
  refine qb q9 (qb (a4 _) (qb (a5 _) (qr q9 ⟨big _ (by rw[Ad];simp;lia),?_⟩)));rw[zh];obtain⟨N,hN⟩:∃N,N=I.length+(J++U).length:=⟨_,rfl⟩;have e1:(js ((I++J)++U)++[.tup [.str<|kN<|!e,.int ((g:Nat):Int),.int ((C:Nat):Int)]])++[.tup [.str<|kN e,.int ((j:Nat):Int),.int ((T:Nat):Int)]]=js (I++(J++U++[.nd (!e) g C,.nd e j T])):=by unfold js;simp[pU]
  rw[e1];have lN:(js<|I++(J++U++[Kn.nd (!e) g C,.nd e j T])).length=N+2:=by rw[Ah,Ad,Ad,hN];simp;rfl
  have i1:((((js<|I++(J++U++[Kn.nd (!e) g C,.nd e j T])).length:Nat):Int)-2)=((N:Nat):Int):=by rw[lN];lia
  have i2:((((js<|I++(J++U++[Kn.nd (!e) g C,.nd e j T])).length:Nat):Int)-1)=((N+1:Nat):Int):=by rw[lN];lia
  refine qb q9<|qb q9 ?_;have M:=Rj (e:=e) ML MR hN;have done:∀p,qe L2 a (.lst<|js<|I++(J++U++[Kn.nd (!e) g C,.nd e j T])) p=none->∀R,z_ I (.node e l r) (J++U++[Kn.nd (!e) g C,.nd e j T]) R N (N+1)->
   mE Q (.ref p) (qe (qe L2 a<|.lst<|js<|I++(J++U++[Kn.nd (!e) g C,.nd e j T])) p<|.lst [zu R,.int ((N:Nat):Int),.int ((N+1:Nat):Int)]):=λp hp R MM=>by
   have ac:p≠a:=λz=>by rw[z,q9] at hp;cases hp
   rw[qc ac] at hp;have np:L p=none:=by cases z:L p with|none=>rfl|some o=>rw[old p o ac z] at hp;cases hp
   refine kU ?_<|q _ _ _ _ p np MM;intro b o z;by_cases c1:b=p
   ·subst c1;rw[q9] at z ⊢;exact z
   ·rw[qc c1] at z ⊢;by_cases c2:b=a
    ·subst c2;rw[q9] at z ⊢;exact z
    ·rw[qc c2] at z ⊢;exact old b o c2 z
  cases e with
  |true=>
   have key:[zu<|.ei (if true=true then N+1 else N)<|.bo (if true=true then N else N+1) A B,Y.int ((N:Nat):Int),Y.int ((N+1:Nat):Int)]=[.tup [.str "either",.int<|(((js<|I++(J++U++[Kn.nd (!true) g C,.nd true j T])).length:Nat):Int)-1,.tup [.str "both",.int<|(((js<|I++(J++U++[Kn.nd (!true) g C,.nd true j T])).length:Nat):Int)-2,zu A,zu B]],.int<|(((js<|I++(J++U++[Kn.nd (!true) g C,.nd true j T])).length:Nat):Int)-2,.int<|(((js<|I++(J++U++[Kn.nd (!true) g C,.nd true j T])).length:Nat):Int)-1]:=by rw[i1,i2];rfl
   walk_at "w";refine qb (a4 _)<|qb (a5 _) λp hp=>?_;have:=done p hp _ M;rw[key] at this;exact this
  |false=>
   have key:[zu<|.ei (if false=true then N+1 else N)<|.bo (if false=true then N else N+1) A B,Y.int ((N:Nat):Int),Y.int ((N+1:Nat):Int)]=[.tup [.str "either",.int<|(((js<|I++(J++U++[Kn.nd (!false) g C,.nd false j T])).length:Nat):Int)-2,.tup [.str "both",.int<|(((js<|I++(J++U++[Kn.nd (!false) g C,.nd false j T])).length:Nat):Int)-1,zu A,zu B]],.int<|(((js<|I++(J++U++[Kn.nd (!false) g C,.nd false j T])).length:Nat):Int)-2,.int<|(((js<|I++(J++U++[Kn.nd (!false) g C,.nd false j T])).length:Nat):Int)-1]:=by rw[i1,i2];rfl
   walk_at "w";refine qb (a4 _)<|qb (a5 _) λp hp=>?_;have:=done p hp _ M;rw[key] at this;exact this
end L3
variable {R:L3.Ru}{ks ms:List L3.Kn}{fm wd wd':List<|Option L3.Kn}
namespace L3
open PySem L2 Words
noncomputable def l7(I:zc):RD "parts_of" ff 1 ["knot"] (λV=>IG V I):=⟨_,λV B c _ _ _ _ _ _ _ J hN U=>(qa (zv (wc<|gw (lG<|qv 0)<|dl<|xa<|C_ c J<|jv<|qv 0) (qd<|qx<|jb vt) z9)<|qd<|qx<|jb<|wg (J_ 0)<|J_ 0)⟩
noncomputable def wB(I:zc):kh:=(l7 I).1
noncomputable def eI:RD "places_there" bD 0 ["knots"] (λ_=>True):=⟨_,λV B c _ _ _ _ _ _ _ I hN J=>(qd<|qx<|fS ["place","knot" ] (EW (by rfl)) rfl (ef rfl B.bg<|qv 0) (Jb 1) (λ_ _ _ _=>aK<|af<|qv 2) λ_ _ _ _=>(qv 1))⟩
noncomputable def lm:kh:=(eI).1
noncomputable def ix:RD "places_in" dW 0 ["pairs","places","p","q"] (λ_=>True):=⟨_,λV B c _ _ _ _ _ _ _ I hN J=>(qa (S_ 1 hN<|jb vt)<|qa (vh p0 rfl (xh<|qv 0) (aN (n:=2) rfl<|zg (G_ 2 hN)<|zg (G_ 3 hN) kc)<|qa (zf<|ze (qv 1)<|jv<|qv 2)<|qd<|zf<|ze (qv 1)<|jv<|qv 3)<|qd<|qx<|qv 1)⟩
noncomputable def tW:kh:=(ix).1
noncomputable def l8(I:zc):RD "boths_of" gI 1 ["web"] (λV=>Gb V I):=⟨_,λV B c _ _ _ _ _ _ _ J hN U=>(qd<|qx<|fS ["place"] (EW (by rfl)) rfl (xh<|C_ c J<|jv<|J_ 0) (nV 1) (λ_ _ _ _=>aK<|E_ U (I_ (I_ (J_ 0)<|qv 1) qf) jl) λ_ _ _ _=>(qv 1))⟩
noncomputable def vH(I:zc):kh:=(l8 I).1
noncomputable def gu(I:zc):RD "part_edges" cb 2 ["knots","places","edges","place"] (λV=>Gc V I):=⟨_,λV B c _ _ _ _ _ _ _ J hN U=>(qa (S_ 2 hN<|jb vt)<|qa (vh p0 rfl (xh<|qv 1) (cW (i:=3) hN rfl<|Or.inr rfl)<|qd<|zf<|oG (qv 2)<|jv<|fS ["part"] (EW (by rfl)) rfl (xh<|C_ c J<|jv<|I_ (qv 0)<|qv 3) (nV 4) (λ_ _ _ _=>Ik) λ_ _ _ _=>(zr<|wg (qv 3)<|qv 4))<|qd<|qx<|qv 2)⟩
noncomputable def on(I:zc):kh:=(gu I).1
def aX:Option Kn->Y
 |none=>.non
 |some k=>pU k
abbrev x4(ks:List<|Option Kn):List Y:=ks.map aX
def j8:Option Kn->List Nat
 |some (.nd _ i j)=>[i,j]
 |_=>[]
def iB:zc:=λys L Q=>∃k:Option Kn,ys=[aX k]/\∀p,L p=none->Q (.ref p) (qe L p<|.lst<|nY<|j8 k)
theorem Rk:∀ys L Q,iB ys L Q->jw (wB gF) 1 ys L Q:=by
 rintro ys L Q ⟨k,rfl,q⟩;cases k with
 |none=>exactλp I=>x0<|q p I
 |some k=>
  cases k with|lf t n=>exact⟨true,t,_,rfl,λp I=>x0<|q p I⟩|nd e i j=>exact⟨false,e,_,rfl,λp I=>x0<|q p I⟩
def kO(f:Option Kn->Bool)(ks:List<|Option Kn)(i:Nat):List Nat:=(List.range i).filter λp=>match ks[p]? with
 |some k=>f k
 |none=>false
theorem gO{f:Option Kn->Bool}{ks:List<|Option Kn}{k:Option Kn}(h:ks[i]?=some k):kO f ks (i+1)=kO f ks i++if f k=true then [i] else []:=by unfold kO;rw[Cj,A8];congr 1;rw[BS];simp only[h,Br]
theorem v9{f:Option Kn->Bool}{ks:List<|Option Kn}(h:p∈kO f ks i):p<i/\∃k,ks[p]?=some k/\f k=true:=by
 unfold kO at h;obtain⟨J,I⟩:=Az.mp h;refine⟨AL.mp J,?_⟩;split at I
 ·rename_i k e;exact⟨k,e,I⟩
 ·cases I
theorem bV(f:Option Kn->Bool)(ks:List<|Option Kn)(i:Nat):(kO f ks i).length<=i:=by unfold kO;exact AN (Bp _ _) (by rw[A7];simp +arith only)
def pW:Option Kn->Bool
 |some _=>true
 |none=>false
def gf(e:Bool):Option Kn->Bool
 |some (.nd e' _ _)=>decide<|e'=e
 |_=>false
abbrev qm(ks:List<|Option Kn):List Nat:=kO pW ks ks.length
abbrev bX(e:Bool)(ks:List<|Option Kn):List Nat:=kO (gf e) ks ks.length
theorem aW(a b:List Nat):nY (a++b)=nY a++nY b:=by unfold nY;rw[AD]
theorem dS(h:(nY hs)[i]?=some y):∃n,hs[i]?=some n/\y=.int (n:Int):=by unfold nY at h;rw[Aq] at h;obtain⟨n,I,J⟩:=Aw.mp h;exact⟨n,I,J.symm⟩
theorem Rl{f:Option Kn->Bool}{ks:List<|Option Kn}{keep:ql->Prop}{Q:YK}(hz:ks.length<=1000)(j:keep L)
 (turn:∀(i:Nat) (k:Option Kn) (R:List Y->ql->Prop) zs,ks[i]?=some k->(f k=true->R (zs++[.int (i:Int)]) L)->(f k=false->R zs L)->g (.tup [.int (i:Nat),aX k]) (τ++List.replicate 2 none) L λI L2=>tc I L2 λb L3=>vk b (te I L3 λz l=>R (zs++[z]) l)<|R zs L3)
 (o:∀p,L p=none->Q (.ref p) (qe L p<|.lst<|nY<|kO f ks ks.length)):f' (jF<|x4 ks) keep 2 g tc te τ L Q:=by
 refine bJ (λi zs=>zs=nY (kO f ks i)) (by rw[ai,Ah];exact BA hz (by decide)) j rfl ?_ ?_
 ·rintro i y zs r rfl;obtain⟨z,U,rfl⟩:=cB r;rw[Aq] at U;obtain⟨k,J,rfl⟩:=Aw.mp U;refine turn i k _ _ J (λh=>⟨L,EL _,rfl,?_⟩) λh=>⟨L,EL _,rfl,?_⟩
  ·rw[gO J,AC h,aW];rfl
  ·rw[gO J,AB (by rw[h];exact AI),AE]
 ·rintro zs rfl;rw[ai,Ah];exact o
def eV:zc:=λys L Q=>∃a,∃ks:List (Option Kn),ys=[.ref a]/\L a=some (.lst<|x4 ks)/\ks.length<=1000/\∀p,L p=none->Q (.ref p) (qe L p<|.lst<|nY<|qm ks)
theorem Rm:∀ys L Q,eV ys L Q->jw lm 1 ys L Q:=by
 rintro ys L Q ⟨a,o,rfl,I,J,q⟩;refine jx I λkeep U=>Rl (f:=pW) J (U L rfl) (λi k R r t g j=>?_) λp l=>x0<|q p l;cases k with
 |none=>exact j rfl
 |some k=>cases k<;>exact g rfl
abbrev aI(a l c:Addr):Y:=.tup [.ref a,.ref l,.ref c]
def m8:zc:=λys L Q=>∃a l c,∃ks:List (Option Kn),ys=[aI a l c]/\L a=some (.lst<|x4 ks)/\ks.length<=1000/\∀p,L p=none->Q (.ref p) (qe L p<|.lst<|nY<|bX false ks)
theorem Rn(f g:Option Kn->Bool)(ks:List<|Option Kn)(i:Nat):((kO f ks i).filter λp=>match ks[p]? with|some k=>g k|none=>false)=kO (λk=>f k&&g k) ks i:=by unfold kO;rw[List.filter_filter];refine CN λp _=>?_;cases ks[p]? with|none=>rfl|some k=>exact Bool.and_comm _ _
theorem u8(e:Bool)(ks:List<|Option Kn)(i:Nat):kO (λk=>pW k&&gf e k) ks i=kO (gf e) ks i:=by unfold kO;refine CN λp _=>?_;cases ks[p]? with|none=>rfl|some k=>cases k<;>rfl
theorem Ro:∀ys L Q,m8 ys L Q->jw (vH eV) 1 ys L Q:=by
 rintro ys L Q ⟨a,l,c,I,rfl,ha,hz,q⟩;refine⟨a,I,rfl,ha,hz,λp j=>?_⟩;have r:=By (o:=.lst<|nY<|qm I) j _ _ ha;refine jx q9 λkeep kp=>bJ (λi J=>J=nY (((qm I).take i).filter λp=>match I[p]? with|some k=>gf false k|none=>false)) (by rw[jh];exact BA (AN (bV _ _ _) hz) (by decide)) (kp _ rfl) rfl ?_ ?_
 ·rintro i y J ey rfl;obtain⟨n,en,rfl⟩:=dS ey;obtain⟨hn,k,g,hk⟩:=v9<|AF en;have C:(qm I).take (i+1)=(qm I).take i++[n]:=by rw[Bc,en];rfl
  have a1:bp (x4 I) (n:Int)=some (aX k):=xg (by rw[Aq,g];rfl);refine qb r<|qh a1 ?_;cases k with
  |none=>cases hk
  |some k=>
   cases k with
   |lf t nm=>
    have z:dI (λJ L'=>L'=qe L p (.lst<|nY<|qm I)/\J=nY (((qm I).take<|i+1).filter λp=>match I[p]? with|some k=>gf false k|none=>false)) (nY<|((qm I).take i).filter λp=>match I[p]? with|some k=>gf false k|none=>false) (qe L p<|.lst<|nY<|qm I):=by refine⟨_,EL _,rfl,?_⟩;rw[C,A8,BS];simp[g,gf]
    cases t<;>exact z
   |nd e i' j'=>
    cases e with
    |true=>
     refine⟨_,EL _,rfl,?_⟩;rw[C,A8,BS];simp[g,gf]
    |false=>
     refine⟨_,EL _,rfl,?_⟩;rw[C,A8,BS];simp[g,gf,nY]
 ·rintro J rfl T a0;rw[jh,A9,Rn,u8];have U:L T=none:=gT (By j) a0;refine kU (L:=qe L T<|.lst<|nY<|bX false I) ?_<|q T U;exact qg.put ((By (o:=.lst<|nY<|qm I) j).upd U) q9
theorem Rp(a b:Nat):min (a:Int) (b:Int)=((min a b:Nat):Int):=by omega
theorem Rq(a b:Nat):max (a:Int) (b:Int)=((max a b:Nat):Int):=by omega
def Fu(p:Nat×Nat):Y:=.tup [.int ((p.1:Nat):Int),.int ((p.2:Nat):Int)]
abbrev qp(l:List<|Nat×Nat):List Y:=l.map Fu
def za(ks:List<|Option Kn)(pl:List Nat):List (Nat×Nat):=pl.flatMap λp=>match ks[p]? with
 |some k=>(j8 k).map λq=>(p,q)
 |none=>[]
theorem fB(ks:List<|Option Kn)(a b:List Nat):za ks (a++b)=za ks a++za ks b:=by unfold za;rw[A1]
theorem eX{ks:List<|Option Kn}{k:Option Kn}(h:ks[p]?=some k):za ks [p]=(j8 k).map λq=>(p,q):=by unfold za;simp[h]
theorem iX(k:Option Kn):(j8 k).length<=2:=by unfold j8;split<;>simp
theorem wm(ks:List<|Option Kn):∀pl:List Nat,(za ks pl).length<=2*pl.length
 |[]=>by simp[za]
 |p::r=>by
  have I:=wm ks r;have e:=fB ks [p] r;rw[CI] at e;rw[e,Ad,AK];cases h:ks[p]? with
  |none=>
   have:za ks [p]=[]:=by unfold za;simp[h]
   rw[this];simp;lia
  |some k=>
   rw[eX h,Ah];have:=iX k;lia
def i4:zc:=λys L Q=>∃a b,∃ks:List (Option Kn),∃pl:List Nat,ys=[.ref a,.ref b]/\L a=some (.lst<|x4 ks)/\L b=some (.lst<|nY pl)/\pl.length<=1000/\(∀p∈pl,p<ks.length)/\∀p,L p=none->Q (.ref p) (qe L p<|.lst<|qp<|za ks pl)
theorem yo:∀ys L Q,i4 ys L Q->jw (on iB) 4 ys L Q:=by
 rintro ys L Q ⟨a,b,J,pl,rfl,ha,C,hz,T,q⟩;intro p U;have a0:a≠p:=aU ha U;have g:b≠p:=aU C U;refine gS (ys:=nY pl) (xn<|(qc g).trans C) (λi r t=>∃c,r=[some<|.ref a,some<|.ref b,some<|.ref p,c]/\t=qe L p (.lst<|qp<|za J<|pl.take i)) ⟨_,rfl,rfl⟩ ?_ ?_ ?_
 ·rintro i r t ⟨c,rfl,rfl⟩;rw[qc g,qc g]
 ·rintro i y r t hy ⟨c,rfl,rfl⟩;obtain⟨n,en,rfl⟩:=dS hy;have hn:=T n<|AF en;obtain⟨k,ek⟩:∃k,J[n]?=some k:=⟨_,Al hn⟩;have a1:bp (x4 J) (n:Int)=some (aX k):=xg (by rw[Aq,ek];rfl);have et:pl.take (i+1)=pl.take i++[n]:=by rw[Bc,en];rfl
  refine qb q9<|qb ((qc a0).trans ha)<|qh a1 ⟨k,rfl,λp2 I=>?_⟩;refine jx q9 λkeep kp=>bJ (λj zs=>zs=qp (((j8 k).take j).map λq=>(n,q))) (by rw[jh];exact BA (iX k) (by decide)) (kp _ rfl) rfl ?_ ?_
  ·rintro j y zs ey rfl;obtain⟨m,em,rfl⟩:=dS ey;refine⟨_,EL _,rfl,?_⟩;rw[Bc,em,AD];unfold qp;rw[AD];rfl
  ·rintro zs rfl p3 l;rw[jh,A9];have o:p≠p3:=aU ((qc<|aU q9 I).trans q9) l;refine qr ((qc o).trans<|(qc<|aU q9 I).trans q9)<|qr q9 ⟨?_,?_⟩
   ·rw[Ah,Ah,Ah];have h1:=wm J<|pl.take i;have h2:=iX k;have h3:(pl.take i).length<=1000:=by rw[AQ];lia
    have C:(3000:Nat)<=sizeLine:=by decide
    lia
   ·refine⟨qe L p<|.lst<|qp<|za J<|pl.take<|i+1,?_,_,rfl,rfl⟩;have e:qp (za J<|pl.take i)++qp ((j8 k).map λq=>(n,q))=qp (za J<|pl.take<|i+1):=by rw[et,fB,eX ek];unfold qp;rw[AD]
    rw[e];have n2:L p2=none:=gT (By U) I;have n3:L p3=none:=gT ((By U).trans<|By I) l;exact qg.put ((((By U).trans<|By I).trans<|By l).upd U) q9
 ·rintro r t ⟨c,rfl,rfl⟩;rw[jh,A9];exact x0<|q p U
def g_(hs:List Nat)(a b:Nat):Prop:=∃r,aV hs a r/\aV hs b r
def Mon(hs hQ:List Nat):Prop:=∀a b,g_ hs a b->g_ hQ a b
theorem Mon.trans{a b c:List Nat}(h:Mon a b)(k:Mon b c):Mon a c:=λx y z=>k x y<|h x y z
theorem rY{a b:Nat}(h:∀i s,aV hs i s->aV hQ i (if s=a then b else s)):Mon hs hQ:=λ_ _ ψ=>(by obtain⟨_,p,q⟩:=ψ;exact ⟨_,h _ _ p,h _ _ q⟩)
theorem Rr{a b:Nat}(h:∀i s,aV hs i s->aV hQ i (if s=a then b else s))(ta:aV hs p a)(tb:aV hs q b):g_ hQ p q:=by
 have J:=h _ _ ta;have I:=h _ _ tb;rw[AC rfl] at J;refine⟨b,J,?_⟩;by_cases c:b=a
 ·rw[AC c] at I;exact I
 ·rw[AB c] at I;exact I
structure Eqv(R:Nat->Nat->Prop):Prop where
 r:∀a,R a a
 s:∀{a b},R a b->R b a
 t:∀{a b c},R a b->R b c->R a c
def Eu(R:Nat->Nat->Prop)(hs:List Nat):Prop:=∀a b,g_ hs a b->R a b
theorem aV.lt(h:aV hs i r):i<hs.length:=by cases h with|root e=>exact zd e|step e _ _=>exact zd e
theorem yN{R:Nat->Nat->Prop}{a b:Nat}(j:jN rk hs)(hl:hQ.length=hs.length)(h:∀i s,aV hs i s->aV hQ i (if s=a then b else s))(ta:aV hs p a)(tb:aV hs q b)(E:Eqv R)(I:R p q)(F:Eu R hs):Eu R hQ:=λx y ψ=>by
 obtain⟨r,l,o⟩:=ψ
 obtain⟨U,J⟩:=j.rep' (i:=x) (by have:=l.lt;lia);obtain⟨g,ty⟩:=j.rep' (i:=y) (by have:=o.lt;lia);have e:=((h _ _ J).uniq l).trans ((h _ _ ty).uniq o).symm;have C:U=a->R x p:=λz=>F x p ⟨a,z▸J,ta⟩;have T:g=a->R y p:=λz=>F y p ⟨a,z▸ty,ta⟩;by_cases c:U=a
 ·by_cases d:g=a
  ·exact E.t (C c)<|E.s<|T d
  ·rw[AC c,AB d] at e;exact E.t (E.t (C c) I)<|F q y ⟨b,tb,e▸ty⟩
 ·by_cases d:g=a
  ·rw[AB c,AC d] at e;exact E.t (F x q ⟨b,e▸J,tb⟩)<|E.s<|E.t (T d) I
  ·rw[AB c,AB d] at e;exact F x y ⟨U,J,e▸ty⟩
theorem vZ{R:Nat->Nat->Prop}(E:Eqv R)(n:Nat):Eu R (List.range n):=λx y ψ=>by obtain⟨r,p,q⟩:=ψ;have h:∀{i r:Nat},aV (List.range n) i r->r=i:=λ{i r} t=>t.of_top (C0 (by have:=t.lt;rwa[A7] at this));have I:=h p;have J:=h q;subst I;rw[J];exact E.r _
def JnR(hs hQ:List Nat)(ps:List<|Nat×Nat):Prop:=Mon hs hQ/\(∀x∈ps,g_ hQ x.1 x.2)/\∀R,Eqv R->(∀x∈ps,R x.1 x.2)->Eu R hs->Eu R hQ
theorem JnR.snoc{I:List Nat}{ps:List<|Nat×Nat}{a b:Nat}(j:JnR hs hQ ps)(U:jN rk hQ)(g:I.length=hQ.length)(h:∀i s,aV hQ i s->aV I i (if s=a then b else s))(ta:aV hQ p a)(tb:aV hQ q b):JnR hs I (ps++[(p,q)]):=by
 refine⟨j.1.trans<|rY h,λx J=>?_,λR E c F=>yN U g h ta tb E (c (p,q)<|Ae _<|Am.mpr rfl)<|j.2.2 R E (λx J=>c x<|Ai _ J) F⟩;rcases Ag.mp J with J|J
 ·exact rY h _ _<|j.2.1 x J
 ·rw[Am.mp J];exact Rr h ta tb
def Gd(hs hQ:List Nat):Prop:=hQ.length=hs.length/\∃rk,jN rk hQ
theorem gd(a b:Nat):decide ((a:Int)=(b:Int))=decide (a=b):=by
 by_cases c:a=b
 ·rw[Av c];exact Av (by lia)
 ·rw[Au c];exact Au (by lia)
noncomputable def Jf:RD "_law_join" eO 0 ["_law_knots","_law_forest","_law_one","_law_two","_law_first","_law_second","_law_left","_law_right","_law_ends"] (λ_=>True):=⟨_,λV B c _ _ _ _ _ _ _ I hN J=>(qa (S_ 4 hN<|cQ (qv 1)<|jv<|qj jz (qv 3)<|L_ B.ba<|qv 1)<|qa (S_ 5 hN<|cQ (qv 1)<|jv<|qj jz (qv 2)<|L_ B.ba<|qv 1)<|qa (bu (i:=6) hN rfl (Or.inr rfl)<|I_ (J_ 4)<|qj jz (qj w9 (qv 3) qf)<|L_ B.ba<|J_ 4)<|qa (bu (i:=7) hN rfl (Or.inr rfl)<|I_ (J_ 5)<|qj jz (qj w9 (qv 2) qf)<|L_ B.ba<|J_ 5)<|qa (zf<|ze (qv 0)<|jv<|zr<|cS jl (qv 6)<|qv 7)<|qa (eG ["_law_p"] (i:=8) hN rfl (Or.inl rfl) (EW (by rfl)) rfl (xh<|qj j4 (J_ 4)<|J_ 5) (nV 9) (λ_ _ _ _=>aK<|je (fw _ _ _) (qv 9) (zr<|wg (qv 6)<|qv 7) (by with_unfolding_all rfl)) λ_ _ _ _=>(qv 9))<|qd<|zf<|ze (qv 1)<|jv<|jb<|wg (zr<|jr jl<|cS (qj bC (L_ B.ba<|qv 0) qf) (J_ 4)<|J_ 5)<|qj j4 (qv 8)<|jb<|jv<|qj bC (L_ B.ba<|qv 0) qf)⟩
noncomputable def Rs:kh:=(Jf).1
noncomputable def xL:RD "_law_fold" dQ 0 ["_law_knots","_law_tree_here","_law_one","_law_two","_law_left","_law_right"] (λ_=>True):=⟨_,λV B c _ _ _ _ _ _ _ I hN J=>(qa (zv (je u6 (L_ B.ba<|J_ 1) qf<|vf _) (qd xK) z9)<|qa (S_ 4 hN<|cQ (J_ 1)<|jv<|qj jz (qv 3)<|L_ B.ba<|J_ 1)<|qa (S_ 5 hN<|cQ (J_ 1)<|jv<|qj jz (qv 2)<|L_ B.ba<|J_ 1)<|qa (zf<|ze (qv 0)<|jv<|zr<|cS jl (qv 4)<|qv 5)<|qa (qH (qv 1) qf<|zr<|cS jl (qj bC (L_ B.ba<|qv 0) qf)<|J_ 1)<|qd<|zf<|ze (J_ 1)<|jv<|qj bC (L_ B.ba<|qv 0) qf)⟩
noncomputable def Rt:kh:=(xL).1
theorem cJ{ks:List Kn}:∀{w v:Wd} {p:Nat},cU ks p w->cU ks p v->w=v
 |.leaf t n,.leaf g C,p,h,k=>by
  have h:(js ks)[p]?=some (.tup [.str<|kL t,.str n]):=h;have k:(js ks)[p]?=some (.tup [.str<|kL g,.str C]):=k;rw[h] at k;injection k with k;injection k with k;injection k with J I;injection I with I _
  injection J with J;injection I with I
  have:t=g:=by cases t<;>cases g<;>first|rfl|(exfalso;revert J;decide +kernel)
  rw[this,I]
 |.leaf t n,.node e l r,p,h,k=>by obtain⟨i,j,k,_⟩:=k;have h:(js ks)[p]?=some (.tup [.str<|kL t,.str n]):=h;rw[h] at k;injection k with k;injection k with k;injection k with _ k;injection k with _ k;cases k
 |.node e l r,.leaf t n,p,h,k=>by obtain⟨i,j,h,_⟩:=h;have k:(js ks)[p]?=some (.tup [.str<|kL t,.str n]):=k;rw[h] at k;injection k with k;injection k with k;injection k with _ k;injection k with _ k;cases k
 |.node e l r,.node o l' r',p,ψ,χ=>by
  obtain⟨i,j,h,T,hr⟩:=ψ;obtain⟨i',j',k,kl,kr⟩:=χ
  rw[h] at k;injection k with k;injection k with k;injection k with J I;injection I with I U;injection U with U _
  injection J with J;injection I with I;injection U with U
  have e1:i=i':=by lia
  have e2:j=j':=by lia
  subst e1 e2;have:e=o:=by cases e<;>cases o<;>first|rfl|(exfalso;revert J;decide +kernel)
  rw[this,cJ (ks:=ks) T kl,cJ (ks:=ks) hr kr]
theorem ij{ks:List Kn}(I:dM ks):∀(m p:Nat),p<m->p<ks.length->∃w,cU ks p w/\w.depth<=p+1/\w.ok
 |0,p,h,_=>absurd h (by lia)
 |m+1,p,h,g=>by
  obtain⟨k,J⟩:∃k,ks[p]?=some k:=⟨_,Al g⟩;have U:=I p k J;cases k with
  |lf t n=>exact⟨.leaf t n,cU.leaf J,by show 1<=p+1;exact CU _,U⟩
  |nd e i j=>
   have U:i<p/\j<p:=U;obtain⟨l,o,T,C⟩:=ij I m i (by lia) (by omega);obtain⟨r,b1,b2,b3⟩:=ij I m j (by lia) (by lia);exact⟨.node e l r,E6 J o b1,by show max l.depth r.depth+1<=p+1;lia,C,b3⟩
def TV(v:Str->Bool):Wd->Bool
 |.leaf t n=>if t=true then !v n else v n
 |.node e l r=>if e=true then TV v l||TV v r else TV v l&&TV v r
theorem jZ(v:Str->Bool):∀w:Wd,TV v w.turn=!TV v w
 |.leaf t n=>by cases t<;>simp[Wd.turn,TV]
 |.node e l r=>by cases e<;>simp[Wd.turn,TV,jZ v l,jZ v r]
theorem SR.lt{E:List Nat}(h:SR ks R E):∀x∈qk R,x<ks.length:=by
 have lt:∀{p:Nat} {k:Kn},ks[p]?=some k->p<ks.length:=λh=>(AS.mp h).1
 induction h with
 |link _ j l _ _=>intro x I;simp[qk] at I;rcases I with rfl|rfl;exact lt j;exact lt l
 |ei g _ _ _ _ _ _ o=>intro x I;rcases Ao.mp I with rfl|I;exact lt g;exact o x I
 |bo g _ _ _ _ _ _ J U=>
  intro x I;rcases Ao.mp I with rfl|I
  ·exact lt g
  ·rcases Ag.mp I with I|I
   ·exact J x I
   ·exact U x I
 |cu _ _ _ _ _ _ _ _ J U=>
  intro x I;rcases Ag.mp I with I|I
  ·exact J x I
  ·exact U x I
theorem SR.tv(hk:dM ks)(v:Str->Bool){E:List Nat}(h:SR ks R E):∃x∈E,∃w,cU ks x w/\TV v w=true:=by
 have ex:∀{R':Ru} {E':List Nat},SR ks R' E'->∀x∈E',∃w,cU ks x w:=λs x I=>by obtain⟨w,hw,_⟩:=ij hk (x+1) x (by exact Bk _)<|s.lt x<|s.sub x I;exact⟨w,hw⟩
 induction h with
 |@link p q t n E _ h2 h3 h4 _=>
  cases ht:TV v (.leaf t n) with
  |true=>exact⟨p,(h4 p).mpr<|.inl rfl,_,cU.leaf h2,ht⟩
  |false=>
   refine⟨q,(h4 q).mpr<|.inr rfl,_,cU.leaf h3,?_⟩;have:=jZ v<|.leaf t n;rw[ht] at this;exact this
 |@ei r i j A EA E T hA hi hj _ J _ ih=>
  obtain⟨x,I,w,hw,tv⟩:=ih;obtain⟨wi,U⟩:=ex hA i hi;obtain⟨wj,g⟩:=ex hA j hj;by_cases c1:x=i
  ·subst c1;rw[cJ hw U] at tv;exact⟨r,(J r).mpr<|.inr rfl,_,E6 T U g,by simp[TV,tv]⟩
  ·by_cases c2:x=j
   ·subst c2;rw[cJ hw g] at tv;exact⟨r,(J r).mpr<|.inr rfl,_,E6 T U g,by simp[TV,tv]⟩
   ·exact⟨x,(J x).mpr<|.inl ⟨I,c1,c2⟩,w,hw,tv⟩
 |@bo r i j A B EA EB E T hA hB hi hj J _ l o=>
  obtain⟨x,I,w,hw,tv⟩:=l;obtain⟨y,hy,u,C,tu⟩:=o;by_cases c1:x=i
  ·by_cases c2:y=j
   ·subst c1 c2;exact⟨r,(J r).mpr<|.inr<|.inr rfl,_,E6 T hw C,by simp[TV,tv,tu]⟩
   ·exact⟨y,(J y).mpr<|.inr<|.inl ⟨hy,c2⟩,u,C,tu⟩
  ·exact⟨x,(J x).mpr<|.inl ⟨I,c1⟩,w,hw,tv⟩
 |@cu p q A B EA EB E w0 hA hB hp hq a0 a1 h7 _ l o=>
  obtain⟨x,I,w,hw,tv⟩:=l;obtain⟨y,hy,u,C,tu⟩:=o;by_cases c1:x=p
  ·by_cases c2:y=q
   ·subst c1 c2;rw[cJ hw a0] at tv;rw[cJ C a1,jZ,tv] at tu;cases tu
   ·exact⟨y,(h7 y).mpr<|.inr ⟨hy,c2⟩,u,C,tu⟩
  ·exact⟨x,(h7 x).mpr<|.inl ⟨I,c1⟩,w,hw,tv⟩
theorem SR.ends(I:dM ks){E:List Nat}(h:SR ks R E):0<E.length:=by obtain⟨x,J,_⟩:=h.tv I λ_=>true;exact List.length_pos_of_mem J
structure Tr where
 a:Addr
 b:Addr
 R:Ru
 E:List Nat
abbrev zw(E:List Nat):List Y:=E.map λn:Nat=>Y.int (n:Int)
def Tr.ads(t:Tr):List Addr:=[t.a,t.b]
structure bT(L0 L:ql)(ka fa:Addr)(ks:List Kn)(fo:List Tr):Prop where
 hk:L ka=some (.lst<|js ks)
 ht:∀t∈fo,L t.a=some (.lst [zu t.R,.ref t.b])/\L t.b=some (.lst<|zw t.E)
 sr:∀t∈fo,SR ks t.R t.E
 nd:(fo.flatMap λt=>qk t.R).Nodup
 tm:∀x,x∈(fo.flatMap λt=>qk t.R)↔x<ks.length
 ad:(ka::fa::fo.flatMap Tr.ads).Nodup
 ok:dM ks
 sub:qg L0 L
 fr:∀x∈ka::fa::fo.flatMap Tr.ads,L0 x=none
def zo(fo:List Tr):List Y:=fo.map λt=>Y.ref t.a
structure nX(L0 L:ql)(ka fa:Addr)(ks:List Kn)(fo:List Tr):Prop where
 b:bT L0 L ka fa ks fo
 hf:L fa=some (.lst<|zo fo)
def At:Ru->Prop
 |.link _ _=>True
 |.ei _ A=>At A
 |.bo _ A B=>At A/\At B
 |.cu _ _ _ _=>False
def Jg(ks:List Kn)(fo:List Tr)(I:List Kn)(fo':List Tr):Prop:=(∃ms:List Kn,I=ks++ms/\∀k∈ms,∃e i j,k=.nd e i j)/\((∀t∈fo,At t.R)->∀t∈fo',At t.R)
theorem bT.perm{fo fo':List Tr}(h:bT L0 L ka fa ks fo)(p:fo.Perm fo'):bT L0 L ka fa ks fo':=by have J:(fo.flatMap λt=>qk t.R).Perm (fo'.flatMap λt=>qk t.R):=p.flatMap_right _;have U:(fo.flatMap Tr.ads).Perm (fo'.flatMap Tr.ads):=p.flatMap_right _;refine⟨h.hk,λt I=>h.ht t<|p.mem_iff.mpr I,λt I=>h.sr t<|p.mem_iff.mpr I,J.nodup_iff.mp h.nd,λx=>by rw[<-J.mem_iff];exact h.tm x,((U.cons _).cons _).nodup_iff.mp h.ad,h.ok,h.sub,λx g=>h.fr x<|((U.cons _).cons _).mem_iff.mpr g⟩
end L3
variable {fo rest:List L3.Tr}
namespace L3
open PySem L2 Words
noncomputable def rT:RD "_law_name" eJ 0 ["_law_seed","_law_which","_law_letters","_law_size","_law_place","_law_base","_law_sign"] (λ_=>True):=⟨_,λV B c _ _ _ _ _ _ _ J hN I=>(qa (bu (i:=2) hN rfl (Or.inr rfl) jl)<|qa (S_ 3 hN<|qj j4 qf<|qj jz (qv 0) qf)<|qa (S_ 4 hN<|qj jz (qj w9 (qv 0) qf)<|qv 3)<|qa (S_ 5 hN<|PQ jl<|jv<|fS ["_law_k"] (EW (by rfl)) rfl (aC rfl B.bf<|jv qf) (nV 7) (λ_ _ _ _=>Ik) λ_ _ _ _=>(I_ (qv 2)<|qj jz (qj j4 (qj w9 (qv 0) qf)<|qj lv qf<|qv 7) qf))<|qa (zv (E_ I (qj jz (qj w9 (qv 0) qf) qf) qf) (qd<|qx<|vj (jH _ _ _) (qv 5) aP<|ve<|qj j4 qf<|qj jz (qj j4 (qv 1)<|qv 0) qf) z9)<|qa (S_ 6 hN<|I_ (qv 2)<|qj jz (qj j4 (qj j4 (qj w9 (qv 0) qf)<|qj lv qf<|qv 4)<|qv 1) qf)<|qd<|qx<|qj j4 (qj j4 (vj (jH _ _ _) (qv 5) aP<|ve<|qv 4)<|qv 6)<|vj (jH _ _ _) (qv 5) (ve<|qj j4 (qv 4) qf)<|ve<|qv 3)⟩
noncomputable def Rv:kh:=(rT).1
def dc(i:Int):Nat:=97+(i % 26).toNat
theorem xB(i:Int):bp ("abcdefghijklmnopqrstuvwxyz" : Str).cps.toList (i % 26)=some (dc i):=by
 obtain⟨n,I⟩:∃n:Nat,i % 26=n:=⟨(i % 26).toNat,by lia⟩;have h:n<26:=by lia
 unfold dc;rw[I];have key:∀n,n<26->("abcdefghijklmnopqrstuvwxyz" : Str).cps.toList[n]?=some (97+n):=by decide +kernel
 exact xg<|key n h
theorem wI(i:Int):97<=dc i/\dc i<=122:=by unfold dc;lia
def dJ(s:Int):List Nat:=(List.range 8).map λk:Nat=>dc<|s / 64+3*(k:Int)
theorem mG(s:Int):(dJ s).length=8:=by unfold dJ;simp
theorem lW(s:Int):∀c∈dJ s,97<=c/\c<=122:=λc I=>by obtain⟨k,_,rfl⟩:=Bt.mp I;exact wI _
def oW(s:Int):Nat:=(s / 8 % (1+s % 8)).toNat
def szN(s:Int):Nat:=(1+s % 8).toNat
theorem Jh(s:Int):oW s<szN s/\szN s<=8/\s / 8 % (1+s % 8)=(oW s:Int)/\1+s % 8=(szN s:Int):=by
 have I:0<1+s % 8:=by lia
 have J:0<=s / 8 % (1+s % 8):=ED _ (by lia);have U:s / 8 % (1+s % 8)<1+s % 8:=DD _ I;unfold oW szN;lia
def aQ(s w:Int):List Nat:=
 if s / 64 % 3=1 then(dJ s).take (1+(w+s) % 3).toNat
 else((dJ s).take (oW s)++[dc<|s / 64+3*(oW s:Int)+w])++((dJ s).drop<|oW s+1).take (szN s-(oW s+1))
theorem sd(s w:Int):dy (k_<|aQ s w):=by
 have I:(k_<|aQ s w).length=(aQ s w).length:=by rw[<-Txs.len_list];show(aQ s w).toArray.toList.length=_;simp
 have J:(k_<|aQ s w).cps.toList=aQ s w:=by show(aQ s w).toArray.toList=_;simp
 have U:=mG s;obtain⟨g,j,_,_⟩:=Jh s;refine⟨?_,?_,?_⟩
 ·rw[I];unfold aQ;split
  ·rw[AQ];omega
  ·rw[Ad,Ad];simp;simp +arith only
 ·rw[I];unfold aQ;split
  ·rw[AQ];omega
  ·rw[Ad,Ad,AQ,AQ,BC];simp;lia
 ·rw[J];intro c h;unfold aQ at h;split at h
  ·exact lW s c<|BG h
  ·rcases Ag.mp h with h|h
   ·rcases Ag.mp h with h|h
    ·exact lW s c<|BG h
    ·rw[Am.mp h];exact wI _
   ·exact lW s c<|CO<|BG h
def mY:zc:=λys L Q=>∃s w:Int,ys=[.int s,.int w]/\Q (.str<|k_<|aQ s w) L
theorem Rw(h:m<=n)(h2:n<=x.length):(Txt.slice x (some (m:Int))<|some (n:Int)).cps.toList=(x.cps.toList.drop m).take (n-m):=by have e:=oB x (some (m:Int))<|some (n:Int);rw[HT.sIx_nat,HT.sIx_nat,BM h2,BM<|AN h h2] at e;exact e
theorem oK(h:n<=x.length):(Txt.slice x none<|some (n:Int)).cps.toList=x.cps.toList.take n:=by have e:=oB x none<|some (n:Int);rw[HT.sIx_nat,HT.sIx_none,DA,Nat.sub_zero,BM h] at e;exact e
theorem Rx:∀ys L Q,mY ys L Q->jw Rv 7 ys L Q:=by
 rintro ys L Q ⟨s,w,rfl,q⟩;have j:0<1+s % 8:=by lia
 refine⟨(by decide:(0:Int)<8),⟨by decide,by decide⟩,j,⟨by decide,by decide⟩,?_⟩;show f' (aA 0 8) _ _ _ _ _ _ _ _;refine vW (m:=8) (λi zs=>zs=((List.range i).map λk:Nat=>Y.str ⟨#[dc<|s / 64+3*(k:Int)]⟩)) (by decide) rfl ?_ ?_
 ·rintro i _ hi rfl;have I:=xB<|s / 64+3*(0+(i:Int));refine⟨⟨by decide,by decide⟩,.inl ⟨by decide,by decide⟩,(by decide:(0:Int)<26),by decide +kernel,?_⟩;walk_at "w";rw[I];refine⟨_,EL _,rfl,?_⟩;rw[Cj,AD,show(0:Int)+(i:Int)=(i:Int) by simp +arith only];rfl
 ·rintro _ rfl p t;have e0:((List.range 8).map λk:Nat=>Y.str ⟨#[dc<|s / 64+3*(k:Int)]⟩)=((dJ s).map λc=>(⟨#[c]⟩:Str)).map Y.str:=by unfold dJ;rw[B5,B5];rfl
  rw[e0];refine qr q9 ⟨(dJ s).map λc=>(⟨#[c]⟩:Str),rfl,?_,?_⟩
  ·have J:∀U:List Nat,((U.map λc=>(⟨#[c]⟩:Str)).map (·.length)).sum=U.length:=λU=>by induction U with|nil=>rfl|cons c r ih=>rw[AG,AG,EI,ih,AK];show 1+r.length=_;exact Nat.add_comm _ _
   rw[J,mG];show 8+_*0<=_;rw[Nat.mul_zero];decide
  ·have g:=acl<|dJ s;have l:(Txt.join ""<|(dJ s).map λc=>(⟨#[c]⟩:Str)).length=8:=by rw[<-Txs.len_list,g,mG]
   generalize Txt.join "" ((dJ s).map λc=>(⟨#[c]⟩:Str))=base at l g;obtain⟨p1,p2,o,C⟩:=Jh s;refine⟨⟨by decide,by decide⟩,(by decide:(0:Int)<3),?_⟩;refine jg (λc=>?_) λc=>?_
   ·have e:1+(w+s) % 3=((1+(w+s) % 3).toNat:Int):=by lia
    refine⟨(by decide:(0:Int)<3),dU (by lia),kU (By t) ?_⟩;have es:=oK (x:=base) (n:=(1+(w+s) % 3).toNat) (by lia);have eq:Txt.slice base none (some<|1+(w+s) % 3)=k_ (aQ s w):=by rw[e];refine(xE _).symm.trans ?_;rw[es,g];unfold aQ;rw[AC c]
    rw[<-eq] at q;exact q
   ·have I:=xB<|s / 64+3*(s / 8 % (1+s % 8))+w;refine⟨⟨by decide,by decide⟩,.inl ⟨by decide,by decide⟩,(by decide:(0:Int)<26),by decide +kernel,?_⟩;walk_at "w";rw[I];have T:=oK (x:=base) (n:=oW s) (by lia);have s2:=Rw (x:=base) (m:=oW s+1) (n:=szN s) (by assumption) (by lia);have l1:(Txt.slice base none<|some (oW s:Int)).length=oW s:=by rw[<-Txs.len_list,T,AQ,Txs.len_list];lia
    have l2:(Txt.slice base (some ((oW s+1:Nat):Int))<|some (szN s:Int)).length<=8:=by rw[<-Txs.len_list,s2,AQ];lia
    refine⟨dU (by lia),?_⟩;refine⟨dU (by rw[o,l1];show oW s+1<=1000;lia),?_⟩;refine⟨dU (by lia),?_⟩;have J:((oW s:Int)+1)=((oW s+1:Nat):Int):=by rfl
    have l3:(Txt.slice base none (some (oW s:Int))++(⟨#[dc<|s / 64+3*(s / 8 % (1+s % 8))+w]⟩:Str)).length=oW s+1:=by rw[PySem.Str.length_append,l1];rfl
    refine⟨dU ?_,kU (By t) ?_⟩
    ·rw[o] at l3 ⊢;rw[l3,J,C];lia
    ·have eq:(Txt.slice base none (some (oW s:Int))++(⟨#[dc<|s / 64+3*(oW s:Int)+w]⟩:Str))++Txt.slice base (some ((oW s+1:Nat):Int)) (some (szN s:Int))=k_ (aQ s w):=by
      refine(xE _).symm.trans ?_;have ca:∀a b:Str,(a++b).cps.toList=a.cps.toList++b.cps.toList:=λa b=>by show(a.cps++b.cps).toList=_;simp
      rw[ca,ca,T,s2,g];unfold aQ;rw[AB c]
     rw[o,J,C,eq];exact q
theorem Ry(t t':Bool)(n I:Str):Da.eq (pq<|.leaf t n) (pq<|.leaf t' I)=(decide (t=t')&&decide (n=I)):=by
 by_cases h:n=I
 ·subst h;cases t<;>cases t'<;>simp[pq,Da.eq,Da.eqs,jT,kL]<;>decide +kernel
 ·cases t<;>cases t'<;>simp[pq,Da.eq,Da.eqs,jT,kL,h]<;>decide +kernel
theorem iV{α β:Type}(f:α->β):∀(l:List α) (n:Nat),(l.map f).eraseIdx n=(l.eraseIdx n).map f
 |[],n=>by simp
 |_::_,0=>rfl
 |x::r,n+1=>by rw[AG,Df,Df,AG,iV f r n]
theorem x9{α:Type}:∀{l:List α} {j:Nat} {x:α},l[j]?=some x->l.Perm (x::l.eraseIdx j)
 |[],_,_,h=>by simp at h
 |y::r,0,x,h=>by
  have:y=x:=by simpa using h
  subst this;exact .refl _
 |y::r,j+1,x,h=>by have I:=x9 (l:=r) (j:=j) (x:=x) (by simpa using h);rw[Df];exact(I.cons y).trans (.swap _ _ _)
theorem mQ(fo:List Tr)(j:Nat):(zo fo).eraseIdx j=zo (fo.eraseIdx j):=iV _ fo j
theorem qg.none(s:qg L L'){p:Addr}(h:L' p=none):L p=none:=by cases z:L p with|none=>rfl|some o=>rw[s _ _ z] at h;cases h
theorem bT.nkf(h:bT L0 L ka fa ks fo):ka≠fa:=by have ad:=h.ad;rw[AH] at ad;exactλe=>ad.1<|e▸Ak ..
theorem bT.nk(h:bT L0 L ka fa ks fo):∀t∈fo,t.a≠fa/\t.b≠fa/\t.a≠ka/\t.b≠ka:=λt I=>by have ad:=h.ad;rw[AH,AH] at ad;have J:t.a∈fo.flatMap Tr.ads:=AV.mpr ⟨t,I,by simp[Tr.ads]⟩;have U:t.b∈fo.flatMap Tr.ads:=AV.mpr ⟨t,I,by simp[Tr.ads]⟩;exact⟨λe=>ad.2.1<|e▸J,λe=>ad.2.1<|e▸U,λe=>ad.1<|Ab _<|e▸J,λe=>ad.1<|Ab _<|e▸U⟩
theorem bT.setF(h:bT L0 L ka fa ks fo)(o:LO):bT L0 (qe L fa o) ka fa ks fo:=by
 refine⟨by rw[qc h.nkf];exact h.hk,λt I=>?_,h.sr,h.nd,h.tm,h.ad,h.ok,λb u e=>?_,h.fr⟩
 ·obtain⟨J,U,_,_⟩:=h.nk t I;rw[qc J,qc U];exact h.ht t I
 ·have:b≠fa:=λz=>by rw[z,h.fr fa (by simp)] at e;cases e
  rw[qc this];exact h.sub _ _ e
theorem bT.mono(h:bT L0 L ka fa ks fo)(s:qg L L'):bT L0 L' ka fa ks fo:=
 ⟨s _ _ h.hk,λt I=>⟨s _ _ (h.ht t I).1,s _ _ (h.ht t I).2⟩,h.sr,h.nd,h.tm,h.ad,h.ok,h.sub.trans s,h.fr⟩
theorem bT.exs(h:bT L0 L ka fa ks fo):∀z∈fo.flatMap Tr.ads,∃o,L z=some o:=λz I=>by
 obtain⟨t,J,I⟩:=AV.mp I;obtain⟨U,g⟩:=h.ht t J;have I:z=t.a\/z=t.b:=by simpa[Tr.ads] using I
 rcases I with rfl|rfl
 ·exact⟨_,U⟩
 ·exact⟨_,g⟩
theorem Rz{l:List Addr}(nd:l.Nodup)(ex:∀z∈l,∃o,L z=some o)(U:L pa=none)(g:L pb=none)(ne:pa≠pb):(l++[pa,pb]).Nodup:=by
 rw[Ay];refine⟨nd,by simp[ne],λu j v J e=>?_⟩;subst e;obtain⟨o,I⟩:=ex u j;simp at J;rcases J with rfl|rfl
 ·rw[U] at I;cases I
 ·rw[g] at I;cases I
theorem bT.step{old:List Tr}{t':Tr}(h:bT L0 L ka fa ks<|old++rest)(C:L' ka=some (.lst<|js<|ks++ms))(T:L' t'.a=some (.lst [zu t'.R,.ref t'.b])/\L' t'.b=some (.lst<|zw t'.E))
 (keep:∀t∈rest,L' t.a=L t.a/\L' t.b=L t.b) (sub:qg L0 L') (ad:(ka::fa::(rest++[t']).flatMap Tr.ads).Nodup) (fr:∀x∈t'.ads,L0 x=none) (ok:dM<|ks++ms) (sr:SR (ks++ms) t'.R t'.E)
 (tp:(qk t'.R).Perm<|List.range' ks.length ms.length++old.flatMap λt=>qk t.R):bT L0 L' ka fa (ks++ms) (rest++[t']):=by
 have U:=h.nd;have g:=h.tm;rw[A1] at U;have r:((rest++[t']).flatMap λt=>qk t.R)=(rest.flatMap λt=>qk t.R)++qk t'.R:=by rw[A1];simp
 have mem:∀x,x∈qk t'.R↔(ks.length<=x/\x<ks.length+ms.length)\/x∈(old.flatMap λt=>qk t.R):=λx=>by rw[tp.mem_iff,Ag,Dj]
 refine⟨C,λt J=>?_,λt J=>?_,?_,λx=>?_,ad,ok,sub,λx I=>?_⟩
 ·rcases Ag.mp J with J|J
  ·obtain⟨k1,k2⟩:=keep t J;rw[k1,k2];exact h.ht t<|Ae _ J
  ·rw[Am.mp J];exact T
 ·rcases Ag.mp J with J|J
  ·exact(h.sr t<|Ae _ J).more _
  ·rw[Am.mp J];exact sr
 ·rw[r,Ay];rw[Ay] at U;refine⟨U.2.1,tp.nodup_iff.mpr ?_,λx I y j e=>?_⟩
  ·rw[Ay];refine⟨DN,U.1,λx I y j e=>?_⟩;have I:=Dj.mp I;have j:=(g y).mp (by rw[A1];exact Ai _ j);lia
  ·subst e;rcases (mem x).mp j with j|j
   ·have:=(g x).mp (by rw[A1];exact Ae _ I);lia
   ·exact U.2.2 x j x I rfl
 ·rw[r,Ag,mem,Ad];have o:=g x;rw[A1,Ag] at o;constructor
  ·rintro(l|l|l)
   ·have:=o.mp<|.inr l;exact Hx
   ·lia
   ·have:=o.mp<|.inl l;lia
  ·intro l;by_cases c:x<ks.length
   ·rcases o.mpr c with p|p
    ·exact .inr<|.inr p
    ·exact .inl p
   ·exact .inr<|.inl (by lia)
 ·rcases Ao.mp I with rfl|I
  ·exact h.fr _<|Ak ..
  ·rcases Ao.mp I with rfl|I
   ·exact h.fr _<|Ab _<|Ak ..
   ·rw[A1] at I;rcases Ag.mp I with I|I
    ·exact h.fr _ (Ab _ (Ab _ (by rw[A1];exact Ae _ I)))
    ·exact fr x (by simpa using I)
theorem bT.put{M:ql}{old:List Tr}{E:List Nat}{fs:LO}(h:bT L0 L ka fa ks<|old++rest)(U:∀z o,z≠ka->L z=some o->M z=some o)(g:M ka=some (.lst<|js<|ks++ms))(r:M fa=some fs)(na:M pa=none)(nb:M pb=none)(ne:pa≠pb)(s:qg M L')(C:L' pa=some (.lst [zu R,.ref pb]))(T:L' pb=some (.lst<|zw E))
 (ok:dM<|ks++ms) (sr:SR (ks++ms) R E) (tp:(qk R).Perm<|List.range' ks.length ms.length++old.flatMap λt=>qk t.R):bT L0 L' ka fa (ks++ms) (rest++[⟨pa,pb,R,E⟩]):=by
 have J:∀z o,L0 z=some o->M z=some o:=λz o e=>U _ _ (λw=>by rw[w,h.fr ka (by simp)] at e;cases e)<|h.sub _ _ e;have two:∀z,z∈(⟨pa,pb,R,E⟩:Tr).ads->M z=none:=λz I=>by
  have I:z=pa\/z=pb:=by simpa[Tr.ads] using I
  rcases I with rfl|rfl<;>assumption
 refine bT.step (old:=old) (t':=⟨pa,pb,R,E⟩) h (s _ _ g) ⟨C,T⟩ (λt j=>?_) (λz o e=>s _ _<|J z o e) ?_ (λz I=>?_) ok sr tp
 ·obtain⟨_,_,n3,n4⟩:=h.nk t<|Ae _ j;obtain⟨l,p⟩:=h.ht t<|Ae _ j;rw[l,p];exact⟨s _ _<|U _ _ n3 l,s _ _<|U _ _ n4 p⟩
 ·have ad:=h.ad;rw[A1] at ad;have:=Rz (L:=M) ((((CZ ..).cons_cons _).cons_cons _).nodup ad) (λz I=>?_) na nb ne
  ·rw[A1];simpa[Tr.ads] using this
  ·rcases Ao.mp I with rfl|I
   ·exact⟨_,g⟩
   rcases Ao.mp I with rfl|I
   ·exact⟨_,r⟩
   obtain⟨o,e⟩:=h.exs z (by rw[A1];exact Ae _ I);exact⟨o,U _ _ (λw=>(AH.mp ad).1 (by rw[<-w];exact Ab _<|Ae _ I)) e⟩
 ·cases e:L0 z with|none=>rfl|some o=>have w:=J z o e;rw[two z I] at w;cases w
def qE:zc:=λys L Q=>∃L0 ka fa ks fo,∃one two:Int,ys=[.ref ka,.ref fa,.int one,.int two]/\nX L0 L ka fa ks fo/\2<=fo.length/\fo.length<=200/\ks.length<=200/\
 ∀L' I fo',nX L0 L' ka fa I fo'->I.length=ks.length+1->fo'.length+1=fo.length->Jg ks fo I fo'->Q .non L'
theorem o8{l:List α}(h:0<l.length)(k:Int):∃(j:Nat) (x:α),k % (l.length:Int)=(j:Int)/\j<l.length/\l[j]?=some x:=by have I:0<=k % (l.length:Int):=ED _ (by lia);have J:k % (l.length:Int)<(l.length:Int):=DD _ (by omega);refine⟨(k % (l.length:Int)).toNat,l[(k % (l.length:Int)).toNat]'(by lia),by lia,by lia,Al (by lia)⟩
theorem kq:∀(n:Nat) (l:List Nat),l.Nodup->(∀x∈l,x<n)->l.length<=n
 |0,l,_,h=>by cases l with|nil=>exact Ap _|cons x r=>exact absurd (h x<|Ak ..) (by lia)
 |n+1,l,nd,h=>by
  by_cases c:n∈l
  ·have p:=List.perm_cons_erase c;have J:=kq n (l.erase n) (nd.erase n) λx I=>by have:=(List.Nodup.mem_erase_iff nd).mp I;have:=h x this.2;lia
   rw[p.length_eq,AK];exact Fi
  ·exact B1 (kq n l nd λx I=>by have:=h x I;have:x≠n:=λe=>c<|e▸I;lia)
theorem bA(h:bT L0 L ka fa ks fo){t:Tr}(I:t∈fo):0<t.E.length/\t.E.length<=ks.length:=by have s:=h.sr t I;exact⟨s.ends h.ok,kq _ _ s.nod λx J=>s.lt x<|s.sub x J⟩
theorem RA(x l r:Nat):nJ (bK<|.int (x:Int)) (([.int (l:Int),.int (r:Int)]:List Y).map bK)=decide (x=l\/x=r):=by
 show(jT (.int (l:Int)) (.int (x:Int))||(jT (.int (r:Int)) (.int (x:Int))||false))=_;have e:∀a b:Nat,jT (.int (a:Int)) (.int (b:Int))=decide (b=a):=λa b=>by
  show decide ((a:Int)=(b:Int))=decide (b=a);by_cases c:b=a
  ·subst c;simp
  ·rw[Au c];apply Au;lia
 rw[e,e];by_cases I:x=l<;>by_cases J:x=r<;>simp[I,J]
theorem pJ{E:List Nat}(h:0<E.length)(k:Int):∃x,x∈E/\bp (zw E) (k % ((zw E).length:Int))=some (.int ((x:Nat):Int)):=by obtain⟨j,x,I,J,ex⟩:=o8 h k;refine⟨x,AF ex,?_⟩;rw[Ah,I];exact xg (by rw[Aq,ex];rfl)
def vz(E1 E2:List Nat)(l r:Nat):List Nat:=(E1++E2).filter λx=>!decide (x=l\/x=r)
theorem Ji{U:Addr}{E:List Nat}{l k:Nat}{Q:YK}(hp:L U=some (.lst<|zw E))(I:E.length<=1000)
 (C:∀y (g:Bool->ql->Prop),zI true y (.tup [.int (l:Int),.int (r:Int)]) L (λx L'=>match x with|.bl c=>g c L'|_=>False)->tc (fK (τ++List.replicate 1 none) k y) L g)
 (T:∀y,v_ (fK (τ++List.replicate 1 none) k y) k=some y)
 (hq:∀p,L p=none->Q (.ref p) (qe L p<|.lst<|zw<|E.filter λx=>!decide (x=l\/x=r))):
 nN L U λys keep L2=>f' ys keep 1 (z7 k) tc (qw k) τ L2 Q:=by
 refine jx hp λkeep kp=>bJ (λj zs=>zs=zw ((E.take j).filter λx=>!decide (x=l\/x=r))) (by rw[Ah];exact nw I) (kp L rfl) rfl ?_ ?_
 ·rintro j y _ o rfl;obtain⟨x,ex,rfl⟩:∃x:Nat,E[j]?=some x/\y=Y.int (x:Int):=by rw[Aq] at o;obtain⟨x,e1,e2⟩:=Aw.mp o;exact⟨x,e1,e2.symm⟩
  refine C _ _ ⟨rfl,rfl,?_⟩;rw[RA];show vk (!decide (x=l\/x=r)) _ _;have t:(E.take<|j+1).filter (λx=>!decide (x=l\/x=r))=(E.take j).filter (λx=>!decide (x=l\/x=r))++[x].filter (λx=>!decide (x=l\/x=r)):=by rw[Bc,ex,A8];rfl
  by_cases c:x=l\/x=r
  ·refine vi (by rw[Av c];rfl) ?_;refine HY ⟨rfl,?_⟩;rw[t,BU (by simp[c]),Br,AE]
  ·refine cx (by rw[Au c];rfl) ?_;unfold qw;rw[T];refine HY ⟨rfl,?_⟩;rw[t,BV (by simp[c]),Br];unfold zw;rw[AD];rfl
 ·rintro _ rfl p J;rw[Ah,A9];exact hq p J
theorem uf{k:Int}(U:L fa=some (.lst<|zo fo))(h:0<fo.length):∃(j:Nat) (t:Tr),fo[j]?=some t/\0<=k % ((zo fo).length:Int)/\k % ((zo fo).length:Int)<((zo fo).length:Int)/\
 (zo fo)[(k % ((zo fo).length:Int)).toNat]?=some (.ref t.a)/\qe L fa (.lst<|(zo fo).eraseIdx (k % ((zo fo).length:Int)).toNat) fa=some (.lst<|zo<|fo.eraseIdx j):=by
 obtain⟨j,t,J,g,I⟩:=o8 h k;have e:(zo fo).length=fo.length:=Ah ..;rw[e,J];refine⟨j,t,I,by exact AU _,by lia,?_,?_⟩
 ·show(zo fo)[j]?=_;unfold zo;rw[Aq,I];rfl
 ·rw[q9];show some (LO.lst<|(zo fo).eraseIdx j)=_;rw[mQ]
theorem bT.two{t1 t2:Tr}(h:bT L0 L ka fa ks<|t1::t2::rest):∀x,x∈qk t1.R->x∈qk t2.R->False:=by intro x I J;have nd:=h.nd;rw[Bn,Bn,Ay] at nd;exact nd.2.2 x I x (Ai _ J) rfl
theorem xS{E1 E2:List Nat}{l:Nat}(I:l∉E2)(J:r∉E1)(x:Nat):x∈vz E1 E2 l r↔(x∈E1/\x≠l)\/(x∈E2/\x≠r):=by
 unfold vz;rw[Az,Ag];constructor
 ·rintro⟨h,c⟩;have c:¬(x=l\/x=r):=by simpa using c
  rcases h with h|h
  ·exact .inl ⟨h,λe=>c<|.inl e⟩
  ·exact .inr ⟨h,λe=>c<|.inr e⟩
 ·rintro(⟨h,c⟩|⟨h,c⟩)
  ·refine⟨.inl h,?_⟩;have:x≠r:=λe=>J<|e▸h;simp[c,this]
  ·refine⟨.inr h,?_⟩;have:x≠l:=λe=>I<|e▸h;simp[c,this]
theorem xH{E1 E2:List Nat}{l:Nat}(h1:E1.Nodup)(h2:E2.Nodup)(d:∀x,x∈E1->x∈E2->False):(vz E1 E2 l r).Nodup:=by
 unfold vz;have h:(E1++E2).Nodup:=by rw[Ay];exact⟨h1,h2,λx I y J e=>d x I<|e▸J⟩
 exact CT _ h
theorem iQ(a b:List Nat):zw (a++b)=zw a++zw b:=AD
theorem fe(a:List Tr)(t:Tr):zo (a++[t])=zo a++[.ref t.a]:=AD
theorem RB:∀ys L Q,qE ys L Q->jw Rs 9 ys L Q:=by
 rintro ys L Q ⟨L0,ka,fa,j,fo,one,two,rfl,F,h2,cg,bf,q⟩;have big:=a_;have p:∀fo:List Tr,(zo fo).length=fo.length:=λfo=>Ah ..;have U:∀E:List Nat,(zw E).length=E.length:=λE=>Ah ..;obtain⟨j1,I,bg,a1,a2,a3,g⟩:=uf (k:=two) F.hf (by exact iK);have p1:=x9 bg;refine qb F.hf (qb F.hf ⟨(by show(0:Int)<((zo fo).length:Int);rw[p];lia),qr F.hf ⟨a1,a2,qh a3 ?_⟩⟩);have B:=(F.b.perm p1).setF<|.lst<|(zo fo).eraseIdx (two % ((zo fo).length:Int)).toNat;generalize qe L fa _=L1 at g B ⊢;have l1:=p1.length_eq;generalize fo.eraseIdx j1=T at l1 g B p1 ⊢;rw[AK] at l1;obtain⟨j2,J,bh,b1,b2,b3,ab⟩:=uf (k:=one) g (by lia);have p2:=x9 bh;refine qb g (qb g ⟨(by show(0:Int)<((zo T).length:Int);rw[p];lia),qr g ⟨b1,b2,qh b3 ?_⟩⟩);replace B:=(B.perm<|p2.cons _).setF<|.lst<|(zo T).eraseIdx (one % ((zo T).length:Int)).toNat;generalize qe L1 fa _=L2 at ab B ⊢;have l2:=p2.length_eq;have ba:=p1.trans<|p2.cons _;generalize T.eraseIdx j2=rest at l2 ab B ba ⊢;rw[AK] at l2;clear g a1 a2 a3 b1 b2 b3 p1 p2;have m1:I∈I::J::rest:=by simp
 have m2:J∈I::J::rest:=by simp
 obtain⟨a0,ac⟩:=B.ht I m1;obtain⟨a4,al⟩:=B.ht J m2;obtain⟨_,_,n1,n2⟩:=B.nk I m1;obtain⟨_,_,n3,n4⟩:=B.nk J m2;have bi:=bA B m1;have ca:=bA B m2;obtain⟨x,hx,ex⟩:=pJ bi.1<|two / 64;obtain⟨y,hy,ey⟩:=pJ ca.1<|one / 64;refine qb a0 ⟨⟨by decide,by decide⟩,qb a0 (qb ac ⟨(by show(0:Int)<((zw I.E).length:Int);rw[U];omega),qb ac<|qh ex ?_⟩)⟩;refine qb a4 ⟨⟨by decide,by decide⟩,qb a4 (qb al ⟨(by show(0:Int)<((zw J.E).length:Int);rw[U];omega),qb al<|qh ey ?_⟩)⟩;refine qb B.hk (qr B.hk ⟨big _ (by rw[Ah];exact wE),?_⟩);have ek:js j++[.tup [.str "both",.int ((x:Nat):Int),.int ((y:Nat):Int)]]=js (j++[.nd false x y]):=by unfold js;rw[AD];rfl
 rw[ek];have k3:∀z o,z≠ka->L2 z=some o->qe L2 ka (.lst<|js<|j++[.nd false x y]) z=some o:=λz o n e=>(qc n).trans e;have bb:qe L2 ka (.lst<|js<|j++[.nd false x y]) ka=some (.lst<|js<|j++[.nd false x y]):=q9;generalize qe L2 ka _=L3 at bb k3 ⊢;refine qb (k3 _ _ n1 a0) (qb (k3 _ _ n3 a4) ⟨_,_,k3 _ _ n2 ac,k3 _ _ n4 al,dU (by rw[U,U];lia),λpp bc=>?_⟩);rw[<-iQ];refine Ji (E:=I.E++J.E) (l:=x) (r:=y) (k:=9) q9 (by rw[Ad];lia) (λy' Q' h=>h) (λ_=>rfl) λpe bd=>?_;generalize hL:qe (qe L3 pp _) pe _=L4;have s4:qg L3 L4:=by rw[<-hL];exact(By bc).trans (By bd)
 have cc:L4 pe=some (.lst<|zw<|vz I.E J.E x y):=by rw[<-hL];exact q9
 clear hL bc bd;have k4:∀z o,z≠ka->L2 z=some o->L4 z=some o:=λz o n e=>s4 _ _<|k3 z o n e;have au:=s4 _ _ bb;have av:=k4 _ _ (A4 B.nkf) ab;have nn:(((js<|j++[.nd false x y]).length:Nat):Int)-1=((j.length:Nat):Int):=by rw[Ah,Ad];simp
 have lb:(vz I.E J.E x y).length<=(I.E++J.E).length:=Bp ..;rw[Ad] at lb;refine qb av<|qb au<|qb (k4 _ _ n1 a0)<|qb (k4 _ _ n3 a4)<|qb au λpn C=>?_;refine⟨_,_,By C _ _ cc,q9,dU (by rw[U];show _+1<=1000;lia),λpb a5 pa a7=>?_⟩;have be:pb≠pa:=aU q9 a7;have nb:=(By C).none a5;have na:=((By C).trans<|By a5).none a7;generalize hL:qe (qe (qe L4 pn _) pb _) pa _=L7;have s7:qg L4 L7:=by rw[<-hL];exact((By C).trans<|By a5).trans (By a7)
 have ea:L7 pa=some (.lst [zu<|.bo j.length I.R J.R,.ref pb]):=by rw[<-hL,q9];dsimp only;rw[nn];rfl
 have eb:L7 pb=some (.lst<|zw<|vz I.E J.E x y++[j.length]):=by rw[<-hL,qc be,q9];dsimp only;rw[nn,iQ];rfl
 clear hL C a5 a7;refine qr (s7 _ _ av) ⟨big _ (by rw[p];lia),?_⟩;have s1:=B.sr I m1;have s2:=B.sr J m2;have aL:∀z,z∈I.E->z∈J.E->False:=λz h1 h2=>B.two z (s1.sub z h1)<|s2.sub z h2;have bm:=xS (E1:=I.E) (E2:=J.E) (λh=>aL x hx h) λh=>aL y h hy;refine x0 (q _ (j++[.nd false x y]) (rest++[⟨pa,pb,.bo j.length I.R J.R,vz I.E J.E x y++[j.length]⟩]) ⟨(bT.put (old:=[I,J]) B k4 au av na nb (A4 be) s7 ea eb (B.ok.snoc ⟨s1.lt x<|s1.sub x hx,s2.lt y<|s2.sub y hy⟩) (.bo (eQ _ _ _) (s1.more _) (s2.more _) hx hy (λz=>?_) ?_) ?_).setF _,by rw[q9,fe]⟩ (by rw[Ad];rfl) (by rw[Ad];simp;lia) ⟨⟨_,rfl,λk hk=>⟨_,_,_,Am.mp hk⟩⟩,λh t ht=>?_⟩)
 ·rw[Ag,bm,Am,or_assoc]
 ·rw[Ay];refine⟨xH s1.nod s2.nod aL,by simp,λu hu v hv e=>?_⟩;rw[Am.mp hv] at e;rcases (bm u).mp hu with⟨h,_⟩|⟨h,_⟩
  ·have:=s1.lt u<|s1.sub u h;lia
  ·have:=s2.lt u<|s2.sub u h;lia
 ·show(j.length::(qk I.R++qk J.R)).Perm (List.range' j.length 1++([I,J].flatMap λt=>qk t.R));simp[Ed]
 ·have h':∀u∈I::J::rest,At u.R:=λu hu=>h u<|ba.mem_iff.mpr hu;rcases Ag.mp ht with ht|ht
  ·exact h' t<|Ab _<|Ab _ ht
  ·rw[Am.mp ht];exact⟨h' I m1,h' J m2⟩
theorem t9{E:List Nat}{k:Int}(h:0<E.length):∃(j x:Nat),E[j]?=some x/\0<=k % ((zw E).length:Int)/\k % ((zw E).length:Int)<((zw E).length:Int)/\
 (zw E)[(k % ((zw E).length:Int)).toNat]?=some (.int ((x:Nat):Int))/\(zw E).eraseIdx (k % ((zw E).length:Int)).toNat=zw (E.eraseIdx j):=by
 obtain⟨j,x,J,U,I⟩:=o8 h k;have e:(zw E).length=E.length:=Ah ..;rw[e,J];refine⟨j,x,I,by exact AU _,by lia,?_,?_⟩
 ·show(zw E)[j]?=_;rw[Aq,I];rfl
 ·exact iV _ E j
theorem Gi{a:Addr}{o:LO}:∀z u,z≠a->L z=some u->qe L a o z=some u:=λz u n e=>(qc n).trans e
def mR:zc:=λys L Q=>∃L0 ka fa ks,∃pre post:List Tr,∃t:Tr,∃one two:Int,ys=[.ref ka,.ref t.a,.int one,.int two]/\nX L0 L ka fa ks (pre++t::post)/\ks.length<=200/\
 ∀L' I fo',nX L0 L' ka fa I fo'->I.length<=ks.length+1->fo'.length=(pre++t::post).length->Jg ks (pre++t::post) I fo'->Q .non L'
theorem RC:∀ys L Q,mR ys L Q->jw Rt 6 ys L Q:=by
 rintro ys L Q ⟨L0,T,fa,I,pre,post,t,one,two,rfl,F,bb,q⟩;have big:=a_;have mt:t∈pre++t::post:=by simp
 have B:=F.b;obtain⟨ta,tb⟩:=B.ht t mt;have le:=bA B mt;have s:=B.sr t mt;have U:∀E:List Nat,(zw E).length=E.length:=λE=>Ah ..;refine qb ta<|qb tb ?_;refine jg (λc=>?_) λc=>?_
 ·exact x0<|q L I _ F (B6 _) rfl ⟨⟨[],(AE _).symm,λk hk=>by cases hk⟩,λh=>h⟩
 have c:¬(((zw t.E).length:Int)<2):=c;rw[U] at c;have ad:=B.ad;have nkf:=B.nkf;have nk:=B.nk;have r:t.a≠t.b:=by rw[AH,AH,A1,Bn,Ay,Ay] at ad;have:=ad.2.2.2.1.1;simpa[Tr.ads] using this
 obtain⟨C,x,e1,a1,a2,a3,a4⟩:=t9 (k:=two) le.1;refine qb ta (qb tb (qb ta (qb tb ⟨(by show(0:Int)<((zw t.E).length:Int);rw[U];omega),qr tb ⟨a1,a2,qh a3 ?_⟩⟩)));rw[a4];have be:(t.E.eraseIdx C).length+1=t.E.length:=by have:=(x9 e1).length_eq;rw[AK] at this;lia
 have a5:qe L t.b (.lst<|zw<|t.E.eraseIdx C) t.a=some (.lst [zu t.R,.ref t.b]):=by rw[qc r];exact ta
 obtain⟨j2,y,e2,b1,b2,b3,b4⟩:=t9 (E:=t.E.eraseIdx C) (k:=one) (by lia);refine qb a5 (qb q9 (qb a5 (qb q9 ⟨(by show(0:Int)<((zw<|t.E.eraseIdx C).length:Int);rw[U];omega),qr q9 ⟨b1,b2,qh b3 ?_⟩⟩)));rw[b4,zh];have bc:((t.E.eraseIdx C).eraseIdx j2).length+1=(t.E.eraseIdx C).length:=by have:=(x9 e2).length_eq;rw[AK] at this;lia
 have pE:t.E.Perm (x::y::(t.E.eraseIdx C).eraseIdx j2):=(x9 e1).trans<|(x9 e2).cons _;generalize (t.E.eraseIdx C).eraseIdx j2=j at bc pE;have nt:=nk t mt;have k1:=Gi (L:=L) (a:=t.b) (o:=.lst<|zw j);have a7:qe L t.b (.lst<|zw j) t.b=some (.lst<|zw j):=q9;generalize qe L t.b _=L1 at k1 a7 ⊢;have ab:=k1 _ _ (A4 nt.2.2.2) B.hk;refine qb ab (qr ab ⟨big _ (by rw[Ah];exact wE),?_⟩);have ek:js I++[.tup [.str "either",.int ((x:Nat):Int),.int ((y:Nat):Int)]]=js (I++[.nd true x y]):=by unfold js;rw[AD];rfl
 rw[ek];have nn:(((js<|I++[.nd true x y]).length:Nat):Int)-1=((I.length:Nat):Int):=by rw[Ah,Ad];simp
 have k2:=Gi (L:=L1) (a:=T) (o:=.lst<|js<|I++[.nd true x y]);have a0:qe L1 T (.lst<|js<|I++[.nd true x y]) T=some (.lst<|js<|I++[.nd true x y]):=q9;generalize qe L1 T _=L2 at k2 a0 ⊢;have ac:=k2 _ _ nt.2.2.1<|k1 _ _ r ta;refine qb a0<|qb ac<|qr ac<|qh (v:=0) rfl ?_;generalize hL:qe L2 t.a _=L3;have al:L3 t.a=some (.lst [zu<|.ei I.length t.R,.ref t.b]):=by rw[<-hL,q9];dsimp only;rw[nn];rfl
 have k3:∀z o,z≠t.a->L2 z=some o->L3 z=some o:=by rw[<-hL];exact Gi
 clear hL;have au:=k3 _ _ (A4 nt.2.2.1) a0;have av:=k3 _ _ (A4 r)<|k2 _ _ nt.2.2.2 a7;have g:∀b u,b≠t.a->b≠t.b->b≠T->L b=some u->L3 b=some u:=λb u n1 n2 n3 e=>k3 _ _ n1<|k2 _ _ n3<|k1 _ _ n2 e;refine qb al (qb av (qb au (qr av ⟨big _ (by rw[U];lia),?_⟩)));have en:zw j++[.int<|(((js<|I++[.nd true x y]).length:Nat):Int)-1]=zw (j++[I.length]):=by rw[nn];unfold zw;rw[AD];rfl
 have l:=pE.nodup_iff.mp s.nod;rw[AH,AH] at l;have hx:x∈t.E:=pE.mem_iff.mpr (by simp);have hy:y∈t.E:=pE.mem_iff.mpr (by simp);have bd:∀u∈pre++post,u.a≠t.a/\u.a≠t.b/\u.b≠t.a/\u.b≠t.b:=λu J=>by have p:(pre++t::post).Perm (t::(pre++post)):=B7;have aL:=(p.flatMap_right Tr.ads).nodup_iff.mp (by rw[AH,AH] at ad;exact ad.2.2);rw[Bn,Ay] at aL;have k:=aL.2.2;have ma:u.a∈(pre++post).flatMap Tr.ads:=AV.mpr ⟨u,J,by simp[Tr.ads]⟩;have mb:u.b∈(pre++post).flatMap Tr.ads:=AV.mpr ⟨u,J,by simp[Tr.ads]⟩;exact⟨λe=>k t.a (by simp[Tr.ads]) u.a ma e.symm,λe=>k t.b (by simp[Tr.ads]) u.a ma e.symm,λe=>k t.a (by simp[Tr.ads]) u.b mb e.symm,λe=>k t.b (by simp[Tr.ads]) u.b mb e.symm⟩
 refine x0 (q _ (I++[.nd true x y]) (pre++⟨t.a,t.b,.ei I.length t.R,j++[I.length]⟩::post) ⟨?_,?_⟩ (by rw[Ad];exact Ap _) (by simp) ⟨⟨_,rfl,λk hk=>⟨_,_,_,Am.mp hk⟩⟩,λh u J=>?_⟩)
 rotate_right
 ·rcases Ag.mp J with J|J
  ·exact h u<|Ai _ J
  ·rcases Ao.mp J with rfl|J
   ·exact h t mt
   ·exact h u<|Ae _<|Ab _ J
 ·have B':=B.perm (fo':=[t]++(pre++post)) B7;have st:=bT.step (old:=[t]) (rest:=pre++post) (t':=⟨t.a,t.b,.ei I.length t.R,j++[I.length]⟩) (ms:=[.nd true x y]) (L':=qe L3 t.b<|.lst<|zw j++[.int<|(((js<|I++[.nd true x y]).length:Nat):Int)-1]) B' ?_ ⟨?_,?_⟩ (λu J=>?_) (λb o e=>?_) ?_ (λz hz=>?_) ?_ ?_ ?_
  ·exact st.perm (by have p1:((pre++post)++[(⟨t.a,t.b,.ei I.length t.R,j++[I.length]⟩:Tr)]).Perm ((⟨t.a,t.b,.ei I.length t.R,j++[I.length]⟩:Tr)::(pre++post)):=Cb _ _;exact p1.trans B7.symm)
  ·rw[qc<|A4 (nk t mt).2.2.2];exact au
  ·rw[qc r];exact al
  ·rw[q9,en]
  ·have ba:u∈pre++t::post:=by rcases Ag.mp J with h|h;exact Ai _ h;exact Ae _ (Ab _ h)
   obtain⟨n1,n2,n3,n4⟩:=bd u J;obtain⟨k1,k2,k3,k4⟩:=nk u ba;obtain⟨h1,h2⟩:=B.ht u ba;rw[h1,h2,qc n2,qc n4];exact⟨g _ _ n1 n2 k3 h1,g _ _ n3 n4 k4 h2⟩
  ·have fr:=B.fr;have n0:∀z,L0 z=none->b≠z:=λz hz w=>by rw[w,hz] at e;cases e
   have n1:=n0 T<|fr T (by simp);have n2:=n0 t.a<|fr t.a (by simp[Tr.ads]);have n3:=n0 t.b<|fr t.b (by simp[Tr.ads]);rw[qc n3];exact g _ _ n2 n3 n1<|B.sub _ _ e
  ·have p:(pre++t::post).Perm ((pre++post)++[t]):=B7.trans (Cb _ _).symm;have e:((pre++post)++[(⟨t.a,t.b,.ei I.length t.R,j++[I.length]⟩:Tr)]).flatMap Tr.ads=((pre++post)++[t]).flatMap Tr.ads:=by simp[A1,Tr.ads]
   rw[e];exact(((p.flatMap_right Tr.ads).cons _).cons _).nodup_iff.mp ad
  ·have hz:z=t.a\/z=t.b:=by simpa[Tr.ads] using hz
   rcases hz with rfl|rfl
   ·exact B.fr _ (by simp[Tr.ads])
   ·exact B.fr _ (by simp[Tr.ads])
  ·exact B.ok.snoc ⟨s.lt x<|s.sub x hx,s.lt y<|s.sub y hy⟩
  ·refine .ei (eQ _ _ _) (s.more _) hx hy (λe=>l.1 (by rw[e];exact Ak ..)) (λz=>?_) ?_
   ·rw[Ag,Am];have hm:=pE.mem_iff (a:=z);rw[Ao,Ao] at hm;have h1:z∈j->z≠x/\z≠y:=λh=>⟨λe=>l.1 (by rw[<-e];exact Ab _ h),λe=>l.2.1<|e▸h⟩;constructor
    ·rintro(h|h)
     ·exact .inl ⟨hm.mpr<|.inr<|.inr h,h1 h⟩
     ·exact .inr h
    ·rintro(⟨h,c1,c2⟩|h)
     ·rcases hm.mp h with e|e|e
      ·exact absurd e c1
      ·exact absurd e c2
      ·exact .inl e
     ·exact .inr h
   ·rw[Ay];refine⟨l.2.2,by simp,λu J v hv e=>?_⟩;rw[Am.mp hv] at e;have:u∈t.E:=pE.mem_iff.mpr<|Ab _<|Ab _ J;have:=s.lt u<|s.sub u this;lia
  ·show(I.length::qk t.R).Perm (List.range' I.length 1++([t].flatMap λt=>qk t.R));simp[Ed]
 ·have nf:=nk t mt;rw[qc<|A4 nf.2.1];have:=g fa _ (A4 nf.1) (A4 nf.2.1) (A4 nkf) F.hf;rw[this];unfold zo;rw[AD,AD];rfl
def RE(I:zc)(p1:zc)(p2:zc)(p3:zc):kh:=(xb (wb (uz qC (qw 1)<|zj (bL Fn (qw 3)<|wU 1) aY)<|z7 4)
 (xb (wb (bL uI (iL 4 1)<|bL Fn (bL Pu (qw 3)<|oH 64)<|r_ yq<|iD<|iL 4 1)<|z7 5)
 (xb (wb (kg I<|pY (qw 0)<|qw 5)<|z7 6)
 (xb (wb (IF (yC .non)<|yC .non)<|hJ 2<|x6 (z7 7)<|x6 (z7 8) eW)
 (xb (t8 (vA<|iD<|wU 1) (z7 9)<|t8 (du<|bL uI (bL uI (qw 1)<|qw 9)<|oH 1) (z7 10)<|jU (Em (yB<|nO false<|qw 7)<|j_ (kg I<|pY (qw 0)<|qw 10)<|kg p1<|iD<|qw 6) (wb (mC<|zj (bL uI (qw 1)<|qw 9)<|iD<|qw 10)<|hJ 2<|x6 (z7 7)<|x6 (z7 8) eW) fY)
 (xb (jU (Em (yB<|nO false<|qw 7)<|yB<|bL Pw (kg p2<|iD<|qw 6)<|oH 5) (xb (eM<|uz wx (qw 1)<|iD<|qw 4)
 HW) fY)
 (F8 (jU (yB<|nO false<|qw 7) (xb (wb (kg p3<|pY (qw 0)<|qw 6)<|Iw 3<|x6 (z7 11)<|x6 (z7 8)<|x6 (z7 12) eW)
 (wb (om<|zj (qw 11)<|zj (om<|pY (qw 8)<|qw 12) aY)<|z7 7))<|eM<|uz kF (qw 1)<|iD<|qw 7)
 (xb (wb (x_ 1 (du<|bL yU (iL 4 1)<|iL 7 1) (z7 14) (yB<|bL (zI true) (qw 14)<|IF (qw 5)<|qw 8)<|qw 14)<|z7 13)
 (jU (j_ (bL Fn (qw 2)<|oH 2)<|oH 0) (eM<|uz wx (qw 1)<|zj (om<|zj (mC<|zj (t_ "cut")<|zj (qw 5)<|zj (qw 8)<|pY (iL 4 0)<|iL 7 0)<|iD<|qw 13) aY)<|eM<|uz wx (qw 1)<|zj (om<|zj (mC<|zj (t_ "cut")<|zj (qw 8)<|zj (qw 5)<|pY (iL 7 0)<|iL 4 0)<|iD<|qw 13) aY)))))))))
theorem qO:∀a b:List Da,Da.eqs a b=true->a.length=b.length
 |[],[],_=>rfl
 |[],_::_,h=>by cases h
 |_::_,[],h=>by cases h
 |x::r,y::q,h=>by have h:(Da.eq x y&&Da.eqs r q)=true:=h;rw[Bb] at h;rw[AK,AK,qO r q h.2]
theorem RF(u:Wd):∀v:Wd,Da.eq (pq u) (pq v)=true->u=v:=by
 induction u with
 |leaf t n=>
  intro v h;cases v with
  |leaf T n'=>
   rw[Ry,Bb] at h;rw[of_decide_eq_true h.1,of_decide_eq_true h.2]
  |node e l r=>exact absurd (qO _ _ h) (by intro z;cases z)
 |node e l r g j=>
  intro v h;cases v with
  |leaf t n=>exact absurd (qO _ _ h) (by intro z;cases z)
  |node I J U=>
   have h:(jT (.str<|kN e) (.str<|kN I)&&(Da.eq (pq l) (pq J)&&(Da.eq (pq r) (pq U)&&true)))=true:=h;rw[Bb,Bb,Bb] at h;obtain⟨o,p,C,_⟩:=h;have:e=I:=by cases e<;>cases I<;>first|rfl|(exfalso;revert o;decide +kernel)
   rw[this,g J p,j U C]
def v3:Ru->Nat
 |.link _ _=>1
 |.ei _ A=>v3 A+1
 |.bo _ A B=>max (v3 A) (v3 B)+1
 |.cu _ _ A B=>max (v3 A) (v3 B)+1
theorem wo:∀R:Ru,v3 R+1<=(qk R).length
 |.link _ _=>Ap _
 |.ei _ A=>by have:=wo A;simp[v3,qk];lia
 |.bo _ A B=>by have:=wo A;have:=wo B;simp[v3,qk];lia
 |.cu _ _ A B=>by have:=wo A;have:=wo B;simp[v3,qk];lia
def dm:Ru->Da
 |.link p q=>.tup [.s<|.str "link",.s<|.int (p:Int),.s<|.int (q:Int)]
 |.ei r A=>.tup [.s<|.str "either",.s<|.int (r:Int),dm A]
 |.bo r A B=>.tup [.s<|.str "both",.s<|.int (r:Int),dm A,dm B]
 |.cu p q A B=>.tup [.s<|.str "cut",.s<|.int (p:Int),.s<|.int (q:Int),dm A,dm B]
theorem fA{L:ql}:∀{R:Ru} {n:Nat},v3 R<=n->jj L n (zu R) (dm R)
 |.link p q,n+1,_=>bz<|.cons (E8 _)<|.cons (EX _)<|.cons (EX _) .nil
 |.ei r A,n+1,h=>bz (.cons (E8 _) (.cons (EX _) (.cons (fA (by simp[v3] at h;lia)) .nil)))
 |.bo r A B,n+1,h=>bz (.cons (E8 _) (.cons (EX _) (.cons (fA (by simp[v3] at h;lia)) (.cons (fA (by simp[v3] at h;lia)) .nil))))
 |.cu p q A B,n+1,h=>bz (.cons (E8 _) (.cons (EX _) (.cons (EX _) (.cons (fA (by simp[v3] at h;lia)) (.cons (fA (by simp[v3] at h;lia)) .nil)))))
 |.link _ _,0,h=>by simp[v3] at h
 |.ei _ _,0,h=>by simp[v3] at h
 |.bo _ _ _,0,h=>by simp[v3] at h
 |.cu _ _ _ _,0,h=>by simp[v3] at h
theorem aj:∀R:Ru,Da.eq (dm R) (dm R)=true
 |.link p q=>by simp[dm,Da.eq,Da.eqs,jT]
 |.ei r A=>by simp[dm,Da.eq,Da.eqs,jT,aj A]
 |.bo r A B=>by simp[dm,Da.eq,Da.eqs,jT,aj A,aj B]
 |.cu p q A B=>by simp[dm,Da.eq,Da.eqs,jT,aj A,aj B]
def iE(E:List Nat):List Da:=E.map λn:Nat=>Da.s<|.int (n:Int)
theorem wL{L:ql}{n:Nat}:∀E:List Nat,Paired (jj L n) (zw E)<|iE E
 |[]=>.nil
 |_::r=>.cons (EX _)<|wL r
theorem kM:∀E I:List Nat,Da.eqs (iE E) (iE I)=true↔E=I
 |[],[]=>by simp[iE,Da.eqs]
 |[],_::_=>by simp[iE,Da.eqs]
 |_::_,[]=>by simp[iE,Da.eqs]
 |x::r,y::J=>by
  have U:=kM r J;show(Da.eq (.s<|.int (x:Int)) (.s<|.int (y:Int))&&Da.eqs (iE r) (iE J))=true↔_;rw[Bb,U];have:Da.eq (.s<|.int (x:Int)) (.s<|.int (y:Int))=true↔x=y:=by show decide ((x:Int)=(y:Int))=true↔_;rw[Cc];lia
  rw[this];constructor
  ·rintro⟨rfl,rfl⟩;rfl
  ·intro e;injection e with g j;exact⟨g,j⟩
def fN(t:Tr):Da:=.lst [dm t.R,.lst<|iE t.E]
theorem og{t:Tr}(I:L t.a=some (.lst [zu t.R,.ref t.b]))(J:L t.b=some (.lst<|zw t.E))(h:v3 t.R<=n+1):jj L (n+2) (.ref t.a) (fN t):=
 fC I (.cons (fA h)<|.cons (fC J<|wL _) .nil)
theorem RG{t u:Tr}:Da.eq (fN t) (fN u)=true->t.E=u.E:=by intro h;have h:(Da.eq (dm t.R) (dm u.R)&&(Da.eqs (iE t.E) (iE u.E)&&true))=true:=h;rw[Bb,Bb] at h;exact(kM _ _).mp h.2.1
theorem yH(t:Tr):Da.eq (fN t) (fN t)=true:=by show(Da.eq (dm t.R) (dm t.R)&&(Da.eqs (iE t.E) (iE t.E)&&true))=true;rw[aj,(kM _ _).mpr rfl];rfl
theorem bT.rd(h:bT L0 L ka fa ks fo){t:Tr}(I:t∈fo):v3 t.R<=ks.length:=by
 have U:=wo t.R;have nd:(qk t.R).Nodup:=by obtain⟨a,b,rfl⟩:=Cz I;have:=h.nd;rw[A1,Bn,Ay,Ay] at this;exact this.2.1.1
 have:=kq _ _ nd λx J=>(h.sr t I).lt x J;exact Op
theorem bT.one(h:bT L0 L ka fa ks fo){t u:Tr}(hi:fo[i]?=some t)(I:fo[j]?=some u)(e:t.E=u.E):i=j:=by
 by_cases c:i=j
 ·exact c
 ·exfalso;have s:=h.sr t<|AF hi;have l:=s.ends h.ok;obtain⟨x,J⟩:∃x,x∈t.E:=by cases g:t.E with|nil=>rw[g] at l;simp at l|cons x r=>exact⟨x,Ak ..⟩
  have o:=h.sr u<|AF I;have p:=x9 hi;have C:(u::(fo.eraseIdx i))=_:=rfl;have U:u∈fo.eraseIdx i:=by have:fo[j]?=some u:=I;rw[Dm];exact⟨j,λz=>c z.symm,I⟩
  obtain⟨a,b,T⟩:=Cz U;have nd:=(p.flatMap_right λt:Tr=>qk t.R).nodup_iff.mp h.nd;rw[Bn,Ay] at nd;exact nd.2.2 x (s.sub x J) x (AV.mpr ⟨u,U,o.sub x<|e▸J⟩) rfl
theorem lD:∀w:Wd,w.turn.turn=w
 |.leaf t n=>by simp[Wd.turn]
 |.node e l r=>by simp[Wd.turn,lD l,lD r]
theorem cz:∀w:Wd,w.turn.depth=w.depth
 |.leaf t n=>rfl
 |.node e l r=>by simp[Wd.turn,Wd.depth,cz l,cz r]
def Fd(ks:List Kn)(w:Wd)(rest:List Tr)(I J:Y):Prop:=(I=.non/\J=.non)\/∃(j:Nat) (u:Tr) (q:Nat),rest[j]?=some u/\q∈u.E/\cU ks q w.turn/\I=.ref u.a/\J=.int (q:Int)
theorem RH{g j:ql}{t1 u:Tr}{x:Nat}{w:Wd}(B:bT L0 g ka fa ks<|t1::u::rest){fs:LO}(hf:g fa=some fs)(hx:x∈t1.E)(hq:q∈u.E)(o:cU ks x w)(p:cU ks q w.turn){I:Addr}(s:qg g j)(a0:g I=none)
 (he:j I=some (.lst<|zw<|vz t1.E u.E x q)) (J:j pa=none) (hR:R=.cu x q t1.R u.R\/R=.cu q x u.R t1.R):bT L0 (qe j pa<|.lst [zu R,.ref I]) ka fa ks (rest++[⟨pa,I,R,vz t1.E u.E x q⟩]):=by
 have t:I≠pa:=aU he J;have C:=B.sr t1 (by simp);have T:=B.sr u (by simp);have U:∀z,z∈t1.E->z∈u.E->False:=λz h1 h2=>B.two z (C.sub z h1)<|T.sub z h2;have bm:=xS (E1:=t1.E) (E2:=u.E) (λh=>U x hx h) λh=>U q h hq;have nod:=xH (l:=x) (r:=q) C.nod T.nod U;have st:=bT.put (M:=g) (L':=qe j pa<|.lst [zu R,.ref I]) (old:=[t1,u]) (ms:=[]) (R:=R) (E:=vz t1.E u.E x q) (pa:=pa) (pb:=I) B (λ_ _ _ e=>e) (by rw[AE];exact B.hk) hf (s.none J) a0 (A4 t) (s.trans<|By J) q9 (by rw[qc t];exact he) (by rw[AE];exact B.ok) ?_ ?_
 ·rw[AE] at st;exact st
 ·rw[AE];rcases hR with rfl|rfl
  ·exact .cu C T hx hq o p bm nod
  ·exact .cu (w:=w.turn) T C hq hx p (by rw[lD];exact o) (λz=>by rw[bm];exact Or.comm) nod
 ·rcases hR with rfl|rfl
  ·show(qk t1.R++qk u.R).Perm _;simp
  ·show(qk u.R++qk t1.R).Perm _;simpa using BE
def CJ(L0:ql)(ka fa:Addr)(ks:List Kn)(one two:Int)(t1:Tr)(x:Nat)(w:Wd)(n:Nat)(τ:jm)(L:ql):Prop:=∃ms u q rest c9 gy c11 c12,τ=[some<|.ref ka,some<|.ref fa,some<|.int one,some<|.int two,some<|.ref t1.a,some<|.int (x:Int),some<|bn w,some<|.ref u.a,some<|.int ((q:Nat):Int),c9,gy,c11,c12,none]/\
 bT L0 L ka fa (ks++ms) (t1::u::rest)/\L fa=some (.lst<|zo rest)/\q∈u.E/\cU (ks++ms) q w.turn/\ms.length<=10/\rest.length<=n
def pV:zc:=λys L Q=>∃L0 ka fa ks fo,∃one two:Int,ys=[.ref ka,.ref fa,.int one,.int two]/\nX L0 L ka fa ks fo/\1<=fo.length/\fo.length<=110/\ks.length<=110/\
 ∀L' I fo',nX L0 L' ka fa I fo'->I.length<=ks.length+10->1<=fo'.length->fo'.length<=fo.length->Q .non L'
theorem RI{FS MS:zc}(hF:∀ys L Q,aR 120 ys L Q->FS ys L Q)(hM:∀ys L Q,wn 5 ys L Q->MS ys L Q):∀ys L Q,pV ys L Q->jw (RE (aJ 120) FS (cK 120) MS) 14 ys L Q:=by
 rintro ys L Q ⟨L0,ka,fa,ks,fo,one,two,rfl,F,h1,ck,bi,q⟩;have big:=a_;have C:∀fo:List Tr,(zo fo).length=fo.length:=λfo=>Ah ..;obtain⟨j1,I,ba,a1,a2,a3,g⟩:=uf (k:=two) F.hf (by assumption);have l1:(fo.eraseIdx j1).length+1=fo.length:=by have:=(x9 ba).length_eq;rw[AK] at this;lia
 refine qb F.hf (qb F.hf ⟨(by show(0:Int)<((zo fo).length:Int);rw[C];lia),qr F.hf ⟨a1,a2,qh a3 ?_⟩⟩);have B:=(F.b.perm<|x9 ba).setF<|.lst<|(zo fo).eraseIdx (two % ((zo fo).length:Int)).toNat;generalize qe L fa _=L1 at g B ⊢;generalize fo.eraseIdx j1=rest at l1 g B;clear a1 a2 a3;have m1:I∈I::rest:=by simp
 obtain⟨a0,a5⟩:=B.ht I m1;have a7:=bA B m1;have s1:=B.sr I m1;obtain⟨x,hx,ex⟩:=pJ a7.1<|two / 64;refine qb a0 ⟨⟨by decide,by decide⟩,qb a0 (qb a5 ⟨(by show(0:Int)<((zw I.E).length:Int);rw[Ah];omega),qb a5<|qh ex ?_⟩)⟩;obtain⟨w,hw,cn,bb⟩:=ij B.ok (x+1) x (by exact Bk _)<|s1.lt x<|s1.sub x hx;have cv:=s1.lt x<|s1.sub x hx;refine⟨ka,js ks,x,w,rfl,B.hk,hw,by lia,?_⟩;have cw:w.turn.depth=w.depth:=cz w;refine qb g ⟨⟨by show _<=(((zo rest).length:Nat):Int);exact AU _,by show(((zo rest).length:Nat):Int)<_;rw[C];omega⟩,?_⟩;refine hG (λi τ L'=>∃v7 v8 c9 gy,τ=[some<|.ref ka,some<|.ref fa,some<|.int one,some<|.int two,some<|.ref I.a,some<|.int (x:Int),some<|bn w,some v7,some v8,c9,gy,none,none,none]/\L'=L1/\Fd ks w rest v7 v8) ⟨_,_,_,_,rfl,rfl,.inl ⟨rfl,rfl⟩⟩ ?_ ?_
 ·rintro i τ L' hi ⟨v7,v8,c9,gy,rfl,rfl,fd⟩;have hi:i<rest.length:=by have:i<(((zo rest).length:Nat):Int).toNat:=hi;rw[C] at this;assumption
  obtain⟨u,hu⟩:∃u,rest[i]?=some u:=⟨_,Al hi⟩;have mu:u∈I::rest:=Ab _<|AF hu;obtain⟨ua,ub⟩:=B.ht u mu;have ei:(zo rest)[i]?=some (.ref u.a):=by unfold zo;rw[Aq,hu];rfl
  have e0:(0:Int)+(i:Int)=((i:Nat):Int):=by simp +arith only
  rw[e0];have bc:bp (zo rest) ((i:Nat):Int)=some (.ref u.a):=xg ei;have le:=bA B mu;have su:=B.sr u mu;refine qb g<|qh bc<|qb ua ?_;refine gS (ys:=zw u.E) (xn ub) (λk τ ab=>∃v7 v8 gy,τ=[some<|.ref ka,some<|.ref fa,some<|.int one,some<|.int two,some<|.ref I.a,some<|.int (x:Int),some<|bn w,some v7,some v8,some<|.int ((i:Nat):Int),gy,none,none,none]/\ab=L'/\Fd ks w rest v7 v8) ⟨_,_,_,rfl,rfl,fd⟩ ?_ ?_ ?_
  ·rintro k τ _ ⟨_,_,_,_,rfl,_⟩;rfl
  ·rintro k y τ ab ey ⟨v7,v8,gy,rfl,rfl,fd⟩;obtain⟨z,ez,rfl⟩:∃z:Nat,u.E[k]?=some z/\y=Y.int (z:Int):=by rw[Aq] at ey;obtain⟨z,e1,e2⟩:=Aw.mp ey;exact⟨z,e1,e2.symm⟩
   have hz:z∈u.E:=AF ez;rcases fd with⟨rfl,rfl⟩|⟨j,t,q0,h1,h2,h3,rfl,rfl⟩
   ·have bm:=su.lt z<|su.sub z hz;obtain⟨v,hv,cy,cm⟩:=ij B.ok (z+1) z (by exact Bk _) bm;refine⟨ka,js ks,z,v,rfl,B.hk,hv,by lia,hF _ _ _ ⟨w,rfl,by lia,?_⟩⟩;refine QB (u:=v) (v:=w.turn) (by lia) ?_;show vk (Da.eq (pq v)<|pq w.turn) _ _;refine OP (λc=>?_) λc=>?_
    ·have hh:=RF _ _ c;refine qb g<|qh bc ?_;refine⟨_,EL _,?_⟩;exact⟨_,_,_,rfl,rfl,.inr ⟨i,u,z,hu,hz,hh▸hv,rfl,rfl⟩⟩
    ·refine⟨_,EL _,?_⟩;exact⟨_,_,_,rfl,rfl,.inl ⟨rfl,rfl⟩⟩
   ·refine⟨_,EL _,?_⟩;exact⟨_,_,_,rfl,rfl,.inr ⟨j,t,q0,h1,h2,h3,rfl,rfl⟩⟩
  ·rintro τ ab ⟨v7,v8,gy,rfl,rfl,fd⟩;refine⟨_,EL _,?_⟩;exact⟨_,_,_,_,rfl,rfl,fd⟩
 ·rintro τ L' ⟨v7,v8,c9,gy,rfl,rfl,fd⟩;rcases fd with⟨rfl,rfl⟩|⟨j,u,q0,hj,ac,al,rfl,rfl⟩
  case' inl=>
   refine⟨w,rfl,by lia,?_⟩;show vk (decide<|(w.size:Int) > 5) _ _;refine jg (λc=>?_) λc=>?_
   case' refine_1=>
    refine qb g (qr g ⟨big _ (by rw[C];lia),?_⟩);rw[<-fe];exact x0 (q _ ks (rest++[I]) ⟨(B.perm (Cb _ _).symm).setF _,q9⟩ (by exact Bg _ _) (by simp) (by rw[Ad];simp;exact vF))
   case' refine_2=>
    refine⟨CJ L0 ka fa ks one two I x w rest.length,?_,?_⟩
    ·refine hM _ _ _ ⟨ka,ks,w,rfl,B.hk,(by have h1:=w.depth_le;have h2:=w.size_eq;lia),(by decide),bb,B.ok,by lia,λms R tp sp p hp a4=>?_⟩;refine qr q9 ?_;intro pb au T J;have av:qe L' ka (.lst<|js<|ks++ms) p=none:=by rw[qc<|A4<|aU B.hk hp];exact hp
     have bd:pb≠T:=aU q9 J;have nb:=(By av).none au;have na:=((By av).trans<|By au).none J;have be:qe L' ka (.lst<|js<|ks++ms) fa=some (.lst<|zo rest):=by rw[qc<|A4 B.nkf];exact g
     generalize hL:qe (qe (qe _ p _) pb _) T _=LF;have sA:qg (qe L' ka<|.lst<|js<|ks++ms) LF:=by rw[<-hL];exact((By av).trans<|By au).trans (By J)
     have ea:LF T=some (.lst [zu R,.ref pb]):=by rw[<-hL];exact q9
     have eb:LF pb=some (.lst<|zw [tp,sp]):=by rw[<-hL,qc bd];exact q9
     clear hL;refine⟨ms,⟨T,pb,R,[tp,sp]⟩,tp,rest,_,_,_,_,rfl,?_,sA _ _ be,Ak ..,a4.wt,by have:=a4.len;lia,Ap _⟩;have st:=bT.put (old:=[]) B (λz o n e=>(qc n).trans e) q9 be na nb (A4 bd) sA ea eb a4.ok a4.sr (by rw[CW,AE];exact(Bj a4.nd DN).mpr λz=>by rw[a4.tm,Dj]);exact st.perm<|(Cb _ _).trans<|List.Perm.swap _ _ _
  case' inr=>
   refine⟨CJ L0 ka fa ks one two I x w rest.length,?_,?_⟩
   ·refine qb g<|qr g ⟨rest.map fN,fN u,120,120,j,by decide,?_,?_,?_,⟨fN u,?_,yH u⟩,λk d hk ek=>?_,?_⟩
    ·have dd:∀l:List Tr,(∀t∈l,t∈I::rest)->Paired (jj L' 120) (zo l) (l.map fN):=λl=>by
      induction l with
      |nil=>intro _;exact .nil
      |cons t r ih=>
       intro h;have mt:=h t<|Ak ..;obtain⟨h1,h2⟩:=B.ht t mt;have:=B.rd mt;exact .cons (og (n:=118) h1 h2 (by lia))<|ih λt ht=>h t<|Ab _ ht
     exact dd rest λt ht=>Ab _ ht
    ·have mt:u∈I::rest:=Ab _<|AF hj;obtain⟨h1,h2⟩:=B.ht u mt;have:=B.rd mt;exact og (n:=118) h1 h2 (by omega)
    ·rw[Ah];exact(AS.mp hj).1
    ·rw[Aq,hj];rfl
    ·rw[Aq] at ek;obtain⟨v,ev,rfl⟩:=Aw.mp ek;cases c:Da.eq (fN v) (fN u) with
     |false=>rfl
     |true=>
      have:=B.one (i:=k+1) (j:=j+1) (by simpa using ev) (by simpa using hj)<|RG c;lia
    ·rw[mQ];have B2:=(B.perm<|(x9 hj).cons _).setF<|.lst<|zo<|rest.eraseIdx j;exact⟨[],u,q0,rest.eraseIdx j,_,_,_,_,rfl,(AE ks).symm▸B2,q9,ac,(AE ks).symm▸al,A3 _,Dd ..⟩
  all_goals
   rintro cP L' ⟨ms,u,q0,U,c9,gy,c11,c12,rfl,B',hf,ac,al,d0,de⟩;have m1:I∈I::u::U:=by simp
   have m2:u∈I::u::U:=by simp
   obtain⟨a0,a5⟩:=B'.ht I m1;obtain⟨aL,ca⟩:=B'.ht u m2;have a7:=bA B' m1;have cc:=bA B' m2;rw[Ad] at a7 cc;refine qb a0 (qb aL ⟨_,_,a5,ca,dU (by rw[Ah,Ah];omega),λpp bf=>?_⟩);rw[<-iQ];refine Ji (E:=I.E++u.E) (l:=x) (r:=q0) (k:=14) q9 (by rw[Ad];omega) (λy' Q' h=>h) (λ_=>rfl) λpe bg=>?_;have bh:L' pe=none:=(By bf).none bg;generalize hL:qe (qe L' pp _) pe _=L4;have s4:qg L' L4:=by rw[<-hL];exact(By bf).trans (By bg)
   have cg:L4 pe=some (.lst<|zw<|vz I.E u.E x q0):=by rw[<-hL];exact q9
   have done:∀(R:Ru) T,L4 T=none->(R=.cu x q0 I.R u.R\/R=.cu q0 x u.R I.R)->Q .non (qe (qe L4 T<|.lst [zu R,.ref pe]) fa<|.lst<|zo U++[.ref T]):=λR T J hR=>by rw[<-fe U ⟨T,pe,R,vz I.E u.E x q0⟩];exact q _ (ks++ms) (U++[⟨T,pe,R,vz I.E u.E x q0⟩]) ⟨(RH B' hf hx ac (hw.more ms) al s4 bh cg J hR).setF _,q9⟩ (by rw[Ad];omega) (by simp) (by rw[Ad];simp;omega)
   refine⟨(by show(0:Int)<2;decide),?_⟩;show vk (decide<|one % 2=0) _ _;refine jg (λc=>?_) λc=>?_
   ·refine qb (s4 _ _ hf)<|qb (s4 _ _ a0)<|qb (s4 _ _ aL) λT J=>?_;refine qr (By J _ _<|s4 _ _ hf) ⟨big _ (by rw[C];omega),?_⟩;exact x0<|done _ T J<|.inl rfl
   ·refine qb (s4 _ _ hf)<|qb (s4 _ _ aL)<|qb (s4 _ _ a0) λT J=>?_;refine qr (By J _ _<|s4 _ _ hf) ⟨big _ (by rw[C];omega),?_⟩;exact x0<|done _ T J<|.inr rfl
theorem nX.mono(h:nX L0 L ka fa ks fo)(s:qg L L'):nX L0 L' ka fa ks fo:=⟨h.b.mono s,s _ _ h.hf⟩
theorem bT.plus{I:ql}{t':Tr}{fs:LO}(B:bT L0 L ka fa ks rest)(j:L fa=some fs)(sA:qg (qe L ka<|.lst<|js<|ks++ms) I)(ea:I t'.a=some (.lst [zu t'.R,.ref t'.b]))(eb:I t'.b=some (.lst<|zw t'.E))
 (J:qe L ka (.lst<|js<|ks++ms) t'.a=none) (U:qe L ka (.lst<|js<|ks++ms) t'.b=none) (g:t'.a≠t'.b) (ok:dM<|ks++ms) (l:SR (ks++ms) t'.R t'.E) (p:∀x,x∈qk t'.R↔ks.length<=x/\x<ks.length+ms.length) (nd:(qk t'.R).Nodup):
 bT L0 I ka fa (ks++ms) (rest++[t']):=by
 exact bT.put (old:=[]) B (λz o n e=>(qc n).trans e) q9 (by rw[qc<|A4 B.nkf];exact j) J U g sA ea eb ok l (by rw[CW,AE];exact(Bj nd DN).mpr λz=>by rw[p,Dj])
theorem nX.link(F:nX L0 L ka fa ks fo){nm:Str}(j:dy nm)(b:Bool)(J:qe L ka (.lst<|js<|ks++[.lf b nm,.lf (!b) nm]) pb=none)
 (U:qe (qe L ka<|.lst<|js<|ks++[.lf b nm,.lf (!b) nm]) pb (.lst<|zw [ks.length,ks.length+1]) pa=none) {fs:List Y} (g:fs=zo fo++[.ref pa]):
 nX L0 (qe (qe (qe (qe L ka<|.lst<|js<|ks++[.lf b nm,.lf (!b) nm]) pb<|.lst<|zw [ks.length,ks.length+1]) pa<|.lst [zu<|.link ks.length<|ks.length+1,.ref pb]) fa<|.lst fs) ka fa (ks++[.lf b nm,.lf (!b) nm]) (fo++[⟨pa,pb,.link ks.length<|ks.length+1,[ks.length,ks.length+1]⟩]):=by
 have I:pb≠pa:=aU q9 U;have M:=ss F.b.ok (t:=!b) j;rw[Bool.not_not] at M;refine⟨(bT.plus F.b F.hf ((By J).trans<|By U) q9 (by rw[qc I];exact q9) ((By J).none U) J (A4 I) M.ok M.sr M.tm M.nd).setF _,?_⟩;rw[q9,g];unfold zo;rw[AD];rfl
theorem bT.dats(h:bT L0 L ka fa ks fo)(o:ks.length<=120):Paired (jj L 124) (zo fo) (fo.map fN):=by
 have J:∀l:List Tr,(∀t∈l,t∈fo)->Paired (jj L 124) (zo l) (l.map fN):=λl=>by
  induction l with
  |nil=>intro _;exact .nil
  |cons t r U=>
   intro k;have mt:=k t<|Ak ..;obtain⟨g,j⟩:=h.ht t mt;have:=h.rd mt;exact .cons (og (n:=122) g j (by lia))<|U λt I=>k t<|Ab _ I
 exact J fo λt I=>I
theorem xC(fo:List Tr):Da.eqs (fo.map fN) []=decide (fo=[]):=by cases fo<;>rfl
def TW(L0:ql)(ka fa:Addr)(s:Int)(room:Nat)(τ:jm)(L:ql):Prop:=∃c0 c5 c6 c7 c8 c9 gy ks fo,τ=[c0,some<|.int s,some<|.int (room:Int),some<|.ref ka,some<|.ref fa,c5,c6,c7,c8,c9,gy]/\nX L0 L ka fa ks fo/\ks.length+fo.length<=room
theorem TW.of{s:Int}{room:Nat}{c0 c5 c9 gy:Option Y}(F:nX L0 L ka fa ks fo)(h:ks.length+fo.length<=room):TW L0 ka fa s room [c0,some<|.int s,some<|.int (room:Int),some<|.ref ka,some<|.ref fa,c5,c6,c7,c8,c9,gy] L:=⟨_,_,_,_,_,_,_,ks,fo,rfl,F,h⟩
noncomputable def xP(g:zc)(I:zc)(J:zc)(U:zc)(l:zc):RD "_law_tree" dY 171 ["_law_cells","_law_seed","_law_room","_law_knots","_law_forest","_law_k","_law_cell","_law_one","_law_two","_law_deed","_law_at"] (λV=>IR V g/\IS V I/\IU V J/\IT V U/\IV V l):=⟨_,λV B c _ _ _ _ _ _ _ o hN p=>(qa (S_ 3 hN<|jb vt)<|qa (S_ 4 hN<|jb vt)<|qa (vh p0 rfl (ef rfl B.bg<|qv 0) (aN (n:=2) rfl<|zg (G_ 5 hN)<|zg (G_ 6 hN) kc)<|qa (uh (i:=7) (j:=8) rfl hN rfl rfl (by decide) rfl rfl (wg (C_ c.1 o<|cS (qv 6) (qv 5) qf)<|C_ c.1 o<|cS (qv 6) (qv 5) qf) rfl)<|qa (zv (je Er (qj j4 (qj j4 (L_ B.ba<|qv 3)<|L_ B.ba<|qv 4) qf) (qv 2)<|vf _) (qd uB) z9)<|qa (S_ 9 hN<|qj jz (qv 7) qf)<|qa (S_ 7 hN<|qj w9 (qv 7) qf)<|qd<|zv (wc<|gw (je u6 (qv 9) qf<|vf _)<|dl<|E_ p (qv 4)<|jb vt) (qa (zf<|ze (qv 3)<|jv<|zr<|wg jl<|C_ c.2.1 o<|wg (qv 1)<|qj jz (qv 8) qf)<|qa (zf<|ze (qv 3)<|jv<|zr<|wg jl<|C_ c.2.1 o<|wg (qv 1)<|qj jz (qv 8) qf)<|w5 (zv (E_ p (qj jz (qv 7) qf) qf) (qd<|zf<|ze (qv 3)<|jv<|cQ (qv 3)<|jv<|qj bC (L_ B.ba<|qv 3) qf) z9)<|qa (S_ 10 hN<|qj bC (L_ B.ba<|qv 3) qf)<|qd<|zf<|ze (qv 4)<|jv<|jb<|wg (zr<|cS jl (qv 10)<|qj j4 (qv 10) qf)<|jb<|wg (qv 10)<|qj j4 (qv 10) qf)<|qd<|zv (je u6 (qv 9) qf<|vf _) (qd<|zf<|C_ c.2.2.1 o<|jr (qv 3)<|cS (I_ (qv 4)<|qj jz (qv 8)<|L_ B.ba<|qv 4) (qv 7)<|qj w9 (qv 8) qf)<|qd<|zv (wc<|vq (je u6 (qv 9) qf<|vf _)<|w4<|je Er (L_ B.ba<|qv 4) qf<|vf _) (qd<|zf<|C_ c.2.2.2.1 o<|jr (qv 3)<|cS (qv 4) (qv 7)<|qv 8)<|qd<|zf<|C_ c.2.2.2.2 o<|jr (qv 3)<|cS (qv 4) (qv 7)<|qv 8)<|w5 (zv (E_ p (qv 4)<|jb vt) (qa (zf<|ze (qv 3)<|jv<|zr<|wg jl<|C_ c.2.1 o<|wg (qv 1) qf)<|qa (zf<|ze (qv 3)<|jv<|zr<|wg jl<|C_ c.2.1 o<|wg (qv 1) qf)<|qd<|zf<|ze (qv 4)<|jv<|jb<|wg (zr<|cS jl qf qf)<|jb<|wg qf qf) z9)<|qa (gR p0 (je Er (L_ B.ba<|qv 4) qf<|vf _)<|qd<|zf<|C_ c.2.2.2.1 o<|jr (qv 3)<|cS (qv 4) (qj j4 (qj w9 (qv 1) qf)<|L_ B.ba<|qv 4)<|qj w9 (qv 1) qf)<|qd<|qx<|zr<|wg (qv 3)<|I_ (J_ 4) qf)⟩
noncomputable def RJ(g:zc)(I:zc)(J:zc)(U:zc)(j:zc):kh:=(xP g I J U j).1
def lQ:zc:=λys L Q=>∃I,∃J:List Int,∃s:Int,∃room:Nat,ys=[.ref I,.int s,.int (room:Int)]/\L I=some (.lst<|J.map Y.int)/\J.length<=1000/\room<=96/\
 ∀ka ks R E,L ka=none->dM ks->SR ks R E->(qk R).Perm (List.range ks.length)->ks.length<=max room 2->Q (.tup [.ref ka,zu R]) (qe L ka<|.lst<|js ks)
theorem RK:∀ys L Q,lQ ys L Q->jw (RJ qG mY mR qE pV) 11 ys L Q:=by
 rintro ys L Q ⟨cy,ns,s,room,rfl,ab,bb,aL,q⟩;have big:=a_;have U:∀fo:List Tr,(zo fo).length=fo.length:=λfo=>Ah ..;have l:∀I:List Kn,(js I).length=I.length:=λI=>Ah ..;intro J a7 g ac;have nkf:J≠g:=aU q9 ac;have au:L g=none:=(By a7).none ac;have F0:nX L (qe (qe L J<|.lst []) g<|.lst []) J g [] []:=by
  refine⟨⟨by rw[qc nkf];exact q9,λt ht=>by simp at ht,λt ht=>by simp at ht,by simp,by simp,by simp[nkf],λp k e=>by simp at e,(By a7).trans<|By ac,λx hx=>?_⟩,q9⟩;rcases Ao.mp hx with rfl|hx
  ·exact a7
  ·rw[Am.mp hx];exact au
 generalize qe (qe L J<|.lst []) g (.lst [])=L1 at F0;refine jx (F0.b.sub _ _ ab) λkeep kp=>kz ⟨λ_ C L'=>TW L J g s room C L',?_,?_,?_,?_⟩
 ·exact TW.of F0<|A3 _
 ·rintro i C L' ⟨c0,c5,c6,c7,c8,c9,gy,I,fo,rfl,F,hb⟩;exact kp L' (by rw[F.b.sub _ _ ab,F0.b.sub _ _ ab])
 ·rintro i y C L' ey ⟨c0,c5,c6,c7,c8,c9,gy,I,fo,rfl,F,hb⟩;obtain⟨z,ez,rfl⟩:=cB ey;obtain⟨cell,ec,rfl⟩:∃cell:Int,ns[i]?=some cell/\z=Y.int cell:=by rw[Aq] at ez;obtain⟨z,e1,e2⟩:=Aw.mp ez;exact⟨z,e1,e2.symm⟩
  have hi:=(AS.mp ec).1;refine⟨cell,((i:Nat):Int),48271,rfl,by exact AU _,by omega,by decide,by decide,λone h1 bc=>⟨cell,((i:Nat):Int),69621,rfl,by exact AU _,by omega,by decide,by decide,λtwo h2 bd=>?_⟩⟩;refine qb F.b.hk<|qb F.hf ?_;refine jg (λc=>?_) λc=>?_
  ·exact⟨_,EL _,TW.of F hb⟩
  have c:¬((((js I).length:Nat):Int)+(((zo fo).length:Nat):Int)+12 > (room:Int)):=c;rw[l,U] at c;refine⟨(by decide:(0:Int)<9),⟨by decide,by decide⟩,?_⟩;refine jg (λc3=>?_) λc3=>?_
  case' refine_1=>
   obtain⟨L2,av⟩:∃L2,L2=L':=⟨_,rfl⟩;rw[<-av];have T:nX L L2 J g I fo:=by rw[av];exact F
  case' refine_2=>
   intro p hp;refine gv (by decide) (By hp _ _ F.hf) q9 ((F.b.mono<|By hp).dats (by lia)) (.nil:Paired (jj _ 0) _ []) ?_;show vk (Da.eqs (fo.map fN) []) _ _;rw[xC];have T:nX L (qe L' p<|.lst []) J g I fo:=F.mono<|By hp;generalize qe L' p (.lst [])=L2 at T;refine jg (λc0=>?_) λc0=>?_
  case' refine_2.refine_2=>
   have ba:0<fo.length:=by cases fo with|nil=>exact absurd rfl c0|cons _ _=>simp
   have F:=T;refine jg (λc6=>?_) λc6=>?_
   ·obtain⟨j,t,ej,lj,et⟩:=o8 ba two;refine qb F.hf ⟨(by show(0:Int)<((zo fo).length:Int);rw[U];lia),qb F.hf (qh (v:=.ref t.a) (by show bp (zo fo) (two % ((zo fo).length:Int))=_;rw[U,ej];exact xg (by unfold zo;rw[Aq,et];rfl)) ?_)⟩;obtain⟨pre,post,ep⟩:=Cz<|AF et;rw[ep] at F hb;refine⟨⟨by decide,by decide⟩,L,J,g,I,pre,post,t,one / 9,two / 64,rfl,F,by lia,λL3 a0 a1 F3 h1 h2 _=>?_⟩;refine⟨_,EL _,?_⟩;exact TW.of F3 (by rw[ep] at c;lia)
   refine jg (λc8=>?_) λc8=>?_
   ·refine qb F.hf ?_;refine jg (λc1=>?_) λc1=>?_
    ·have c1:(((zo fo).length:Nat):Int) > 1:=c1;rw[U] at c1;refine⟨L,J,g,I,fo,one / 9,two,rfl,F,by lia,by lia,by lia,λL3 a0 a1 F3 h1 h2 _=>?_⟩;refine⟨_,EL _,?_⟩;exact TW.of F3 (by lia)
    ·refine⟨L,J,g,I,fo,one / 9,two,rfl,F,by assumption,by lia,by lia,λL3 a0 a1 F3 h1 h2 h3=>?_⟩;refine⟨_,EL _,?_⟩;exact TW.of F3 (by lia)
   ·refine⟨L,J,g,I,fo,one / 9,two,rfl,F,by lia,by lia,by lia,λL3 a0 a1 F3 h1 h2 h3=>?_⟩;refine⟨_,EL _,?_⟩;exact TW.of F3 (by lia)
  all_goals
   obtain⟨nm,a2⟩:∃nm,nm=k_ (aQ s<|two % 3):=⟨_,rfl⟩;have al:dy nm:=by rw[a2];exact sd _ _
   refine qb T.b.hk ⟨(by decide:(0:Int)<3),s,two % 3,rfl,qr T.b.hk ⟨big _ (by rw[l];omega),?_⟩⟩;refine qb q9 ⟨(by decide:(0:Int)<3),s,two % 3,rfl,qr q9 ⟨big _ (by rw[Ad,l];simp;omega),?_⟩⟩;rw[<-a2,zh];have e1:(js I++[.tup [.str "plain",.str nm]])++[.tup [.str "turned",.str nm]]=js (I++[.lf false nm,.lf true nm]):=by unfold js;rw[AD,AA];rfl
   rw[e1];refine⟨λC L3=>∃(b:Bool) (d0 d10:Option Y),C=[d0,some<|.int s,some<|.int (room:Int),some<|.ref J,some<|.ref g,some<|.int ((i:Nat):Int),some<|.int cell,some<|.int<|one / 9,some<|.int two,some<|.int<|one % 9,d10]/\L3=qe L2 J (.lst<|js<|I++[.lf b nm,.lf (!b) nm]),?_,?_⟩
   ·refine⟨(by decide:(0:Int)<2),?_⟩;show vk (decide<|one / 9 % 2=1) _ _;refine jg (λc2=>?_) λc2=>?_
    ·have l2:(js<|I++[Kn.lf false nm,.lf true nm]).length=I.length+2:=by rw[l,Ad];rfl
     have t2:((((js<|I++[Kn.lf false nm,.lf true nm]).length:Nat):Int)-2).toNat=I.length:=by rw[l2];omega
     refine qb q9<|qb q9<|qb q9<|qr q9 ⟨?_,?_,qh (v:=pU<|.lf false nm) ?_ ?_⟩
     ·show(0:Int)<=(((js<|I++[Kn.lf false nm,.lf true nm]).length:Nat):Int)-2;rw[l2];omega
     ·show(((js<|I++[Kn.lf false nm,.lf true nm]).length:Nat):Int)-2<_;omega
     ·show(js<|I++[Kn.lf false nm,.lf true nm])[((((js<|I++[Kn.lf false nm,.lf true nm]).length:Nat):Int)-2).toNat]?=_;rw[t2];unfold js;rw[Aq,eQ];rfl
     ·rw[zh];refine qr q9 ⟨big _ ?_,?_⟩
      ·refine AN (Dd ..) ?_;show(js<|I++[Kn.lf false nm,.lf true nm]).length<=20000;rw[l2];omega
      ·refine⟨true,_,_,rfl,?_⟩;rw[zh];have e3:(js<|I++[Kn.lf false nm,.lf true nm]).eraseIdx ((((js<|I++[Kn.lf false nm,.lf true nm]).length:Nat):Int)-2).toNat++[pU<|.lf false nm]=js (I++[.lf true nm,.lf false nm]):=by rw[t2];unfold js;rw[AD,Dg (by simp),Ah,Dy,AD,AA];rfl
       rw[e3];rfl
    ·exact⟨false,_,_,rfl,rfl⟩
   ·rintro be L3 ⟨b,d0,d10,rfl,rfl⟩;have l2:(js<|I++[Kn.lf b nm,.lf (!b) nm]).length=I.length+2:=by rw[l,Ad];rfl
    have nn:(((js<|I++[Kn.lf b nm,.lf (!b) nm]).length:Nat):Int)-2=((I.length:Nat):Int):=by rw[l2];omega
    have a3:qe L2 J (.lst<|js<|I++[.lf b nm,.lf (!b) nm]) g=some (.lst<|zo fo):=by rw[qc<|A4 nkf];exact T.hf
    have en:∀z:Int,z=((I.length:Nat):Int)->zw [I.length,I.length+1]=[.int z,.int<|z+1]:=λz e=>by rw[e];rfl
    have er:∀z:Int,z=((I.length:Nat):Int)->zu (.link I.length<|I.length+1)=.tup [.str "link",.int z,.int<|z+1]:=λz e=>by rw[e];rfl
    have en:=en _ nn;have er:=er _ nn;refine qb q9<|qb a3 λpb a4 pa a5=>?_;have H:=T.link al b (pb:=pb) (pa:=pa) a4 (by rw[en];exact a5) rfl;refine qr (((By a4).trans<|By a5) _ _ a3) ⟨big _ (by rw[U];omega),?_⟩;rw[en,er] at H;refine⟨_,EL _,?_⟩;exact TW.of H (by rw[Ad,Ad];simp;omega)
 ·rintro C L' ⟨c0,c5,c6,c7,c8,c9,gy,I,fo,rfl,F,hb⟩;refine⟨λC L3=>∃c0 c5 c6 c7 c8 c9 gy I fo,C=[c0,some<|.int s,some<|.int (room:Int),some<|.ref J,some<|.ref g,c5,c6,c7,c8,c9,gy]/\nX L L3 J g I fo/\1<=fo.length/\I.length+fo.length<=max room 3,?_,?_⟩
  ·intro p hp;refine gv (by decide) (By hp _ _ F.hf) q9 ((F.b.mono<|By hp).dats (by lia)) (.nil:Paired (jj _ 0) _ []) ?_;show vk (Da.eqs (fo.map fN) []) _ _;rw[xC];have T:nX L (qe L' p<|.lst []) J g I fo:=F.mono<|By hp;generalize qe L' p (.lst [])=L2 at T;refine jg (λc0=>?_) λc0=>?_
   ·subst c0;have k0:I=[]:=by cases I with|nil=>rfl|cons k r=>exact absurd ((F.b.tm 0).mpr (by simp)) (by simp)
    subst k0;obtain⟨nm,a2⟩:∃nm,nm=k_ (aQ s 0):=⟨_,rfl⟩;have al:dy nm:=by rw[a2];exact sd _ _
    refine qb T.b.hk ⟨s,0,rfl,qr T.b.hk ⟨big _ (by decide),?_⟩⟩;refine qb q9 ⟨s,0,rfl,qr q9 ⟨big _ (by show 1<=20000;decide),?_⟩⟩;rw[<-a2,zh];have a3:∀o,qe L2 J o g=some (.lst<|zo []):=λo=>by rw[qc<|A4 nkf];exact T.hf
    refine qb (a3 _) λpb a4 pa a5=>?_;have H:=T.link al true (pb:=pb) (pa:=pa) a4 a5 rfl;refine qr (((By a4).trans<|By a5) _ _<|a3 _) ⟨big _ (by show 0<=20000;decide),?_⟩;exact⟨_,_,_,_,_,_,_,_,_,rfl,H,by simp,by simp;lia⟩
   ·exact⟨_,_,_,_,_,_,_,I,fo,rfl,T,(by cases fo with|nil=>exact absurd rfl c0|cons _ _=>simp),by lia⟩
  ·rintro C L' ⟨c0,c5,c6,c7,c8,c9,gy,I,fo,rfl,F,h1,hb⟩;refine⟨λm C L3=>∃c0 c5 c6 c7 c8 c9 gy I fo,C=[c0,some<|.int s,some<|.int (room:Int),some<|.ref J,some<|.ref g,c5,c6,c7,c8,c9,gy]/\nX L L3 J g I fo/\1<=fo.length/\fo.length=m/\I.length+fo.length<=max room 3,⟨_,_,_,_,_,_,_,_,_,_,rfl,F,h1,rfl,hb⟩,?_⟩;rintro m C L' ⟨c0,c5,c6,c7,c8,c9,gy,I,fo,rfl,F,h1,hm,hb⟩;refine qb F.hf ?_;refine jg (λc1=>?_) λc1=>?_
   ·have c1:(((zo fo).length:Nat):Int) > 1:=c1;rw[U] at c1;refine⟨λC L3=>∃c0 c5 c6 c7 c8 c9 gy I fo,C=[c0,some<|.int s,some<|.int (room:Int),some<|.ref J,some<|.ref g,c5,c6,c7,c8,c9,gy]/\nX L L3 J g I fo/\1<=fo.length/\fo.length+1=m/\I.length+fo.length<=max room 3,?_,?_⟩
    ·rintro C L3 ⟨d0,d5,d6,d7,d8,d9,d10,a0,a1,rfl,F3,g1,g2,g3⟩;exact⟨m-1,by lia,_,_,_,_,_,_,_,_,_,rfl,F3,g1,by lia,g3⟩
    ·refine⟨⟨by decide,by decide⟩,qb F.hf ⟨⟨by decide,by decide⟩,L,J,g,I,fo,_,_,rfl,F,by lia,by lia,by lia,λL3 a0 a1 F3 g1 g2 _=>?_⟩⟩;exact⟨_,EL _,_,_,_,_,_,_,_,a0,a1,rfl,F3,by lia,by lia,by lia⟩
   ·have c1:¬((((zo fo).length:Nat):Int) > 1):=c1;rw[U] at c1;obtain⟨t,rfl⟩:∃t,fo=[t]:=by
     match fo,h1,c1 with
     |[t],_,_=>exact⟨t,rfl⟩
     |t::u::r,_,c=>exact absurd (show(((t::u::r).length:Nat):Int) > 1 by simp;lia) c
    have ta:=(F.b.ht t<|Ak ..).1;refine qb F.hf<|qb ta ?_;have tp:(qk t.R).Perm (List.range I.length):=by have nd:=F.b.nd;have tm:=F.b.tm;simp at nd tm;exact(Bj nd Cw).mpr λx=>by rw[tm,AL]
    exact kU (qg.put F.b.sub F.b.hk) (q J I t.R t.E a7 F.b.ok (F.b.sr t<|Ak ..) tp (by simp at hb;lia))
end L3
namespace TS
open PySem PyProof.Rows PySem.W PySem.Calls
section
variable {w:World}
abbrev keyBody(kx px:Str)(p1 p2 p3 p4 p5:Pos)(n:Nat):Expr:=.Tuple [.Subscript (.Name kx p1) (.Name px p2) p3,.Name px p4] n p5
structure lC(h:Heap)(f:Addr)(kx px:Str)(scope:Scope)(kvs:List Value):Prop where
 ex:∃(name eA:Str) (params:Arguments) (p1 p2 p3 p4 p5:Pos) (n:Nat) (pm ctv:Value) (c' cell k:Addr),h.get? f=some (kla_obj name eA params (keyBody kx px p1 p2 p3 p4 p5 n) scope [(kx,cell)] pm c' ctv)/\h.CodeRec (.ref c') eA/\
  h.IsCell cell (some<|.ref k)/\h.IsList k kvs.toArray/\∀v:Value,bindArgs (kla_fn name eA params (keyBody kx px p1 p2 p3 p4 p5 n) scope [(kx,cell)] pm (.ref c') ctv) ⟨[v],[]⟩=pure [(px,v)]
 lim:h.NoLimit
structure KeySc(scope:Scope)(kx px:Str):Prop where
 kind:scope.kind=.function
 co:scope.isCoroutine=false
 gen:scope.isGenerator=false
 nc:∀x∈scope.names,x.2≠.cell
 lp:scope.names.lookup px=some .local
 lk:scope.names.lookup kx=some .free
 d1:(kx==("__debug__" : Str))=false
 d2:(px==("__debug__" : Str))=false
 d3:(kx==("__classdict__" : Str))=false
theorem lC.keeps{f:Addr}{kvs:List Value}(k:lC h f kx px scope kvs)(J:∀b o,h.get? b=some o->h'.get? b=some o):lC h' f kx px scope kvs:=by
 obtain⟨name,U,I,p,r,t,C,T,n,pm,l,c',cell,kk,g1,g2,g3,g4,g5⟩:=k.ex;refine⟨⟨name,U,I,p,r,t,C,T,n,pm,l,c',cell,kk,J _ _ g1,?_,?_,?_,g5⟩,k.lim.keeps J⟩
 ·obtain⟨c,oc,vs,tq,g,j,e3⟩:=g2;exact⟨c,oc,vs,tq,g,J _ _ j,e3⟩
 ·obtain⟨o,g,j⟩:=g3;exact⟨o,J _ _ g,j⟩
 ·obtain⟨o,g,j⟩:=g4;exact⟨o,J _ _ g,j⟩
theorem RL{f:Addr}{kvs:List Value}{u t:Tok}{r:Int}(K:lC s.heap f kx px scope kvs)(S:KeySc scope kx px)(U:A.depth<recursionLimit)(hi:kvs[i]?=some (.int r t))(a0:i<2 ^ 40)
 (h:∀h' tk a,(∀b o,s.heap.get? b=some o->h'.get? b=some o)->h'.get? a=some { cls:=.type "tuple",data:=.seq #[.int r t,.int (i:Int) u] }->Q (.ref a) { s with heap:=h',toks:=tk }):
 wpAny (model prog w) A (call (.ref f) [.int (i:Int) u]) Q E s:=by
 obtain⟨name,I,l,p1,p2,p3,p4,p5,n,pm,a1,p,cell,kk,g1,g2,g3,g4,g5⟩:=K.ex;refine wpAny_call<|kla_callFunE U g1 rfl S.co S.gen rfl g2 ?_;rw[g5];refine An (wpAny_newFunctionEnv S.nc (λx hx=>by rw[Am.mp hx];exact S.lp) (λJ g j=>⟨K.lim.fresh _ j,?_⟩) S.kind);have C:∀b o,s.heap.get? b=some o->J.get? b=some o:=λb o e=>j.extBut b o (A5<|pj e)<|oe _ e;show codeAny _ _ (.expr _<|envX I scope s.heap.objs.size f (.ref p) [(kx,cell)]) _ _;refine kla_codeExpr ?_;have look:(([(px,Value.int (i:Int) u)]:List<|Str×Value).reverse.lookup px)=some (.int (i:Int) u):=by simp
 have kf:(envX I scope s.heap.objs.size f (.ref p) [(kx,cell)]).kindOf kx=some .free:=S.lk;have kp:(envX I scope s.heap.objs.size f (.ref p) [(kx,cell)]).kindOf px=some .local:=S.lp;have cl:(envX I scope s.heap.objs.size f (.ref p) [(kx,cell)]).cells.lookup kx=some cell:=by show([(kx,cell)]:List<|Str×Addr).lookup kx=_;simp
 have ic:J.IsCell cell (some<|.ref kk):=by obtain⟨o,T,e2⟩:=g3;exact⟨o,C _ _ T,e2⟩
 have il:J.IsList kk kvs.toArray:=by obtain⟨o,T,e2⟩:=g4;exact⟨o,C _ _ T,e2⟩
 refine wpAny_Tuple_spliced<|vb<|Subscript_<|wpAny_Name (wpAny_loadName_free S.kind kf cl ic (wpAny_Name (wpAny_loadName_local S.kind kp g look ?_) S.d2) S.d3) S.d1;refine item_listL il (by exact AU _) (by omega) (by rw[show((i:Nat):Int).toNat=i from rfl];exact hi) ?_;refine vb<|wpAny_Name (wpAny_loadName_local S.kind kp g look ?_) S.d2;refine wh ⟨by show 2<=sizeLine;decide,?_⟩;exact h _ _ _ (λb o e=>oe _<|C b o e)<|pR _ rfl
end
theorem RM(f:α->β):∀{l m:List β},l.Perm m->∀{T:List α},T.map f=m->∃U:List α,U.Perm T/\U.map f=l:=by
 intro l m p
 induction p with
 |nil=>intro T e;exact⟨T,B9 _,e⟩
 |cons x _ o=>
  intro T e;cases T with
  |nil=>cases e
  |cons t r=>
   rw[AG] at e;obtain⟨I,J⟩:=C4 e;obtain⟨U,C,e'⟩:=o J;exact⟨t::U,C.cons t,by rw[AG,e',I]⟩
 |swap x y l=>
  intro T e
  match T,e with
  |t::u::r,e=>
   rw[AG,AG] at e;obtain⟨I,J⟩:=C4 e;obtain⟨e3,e4⟩:=C4 J;exact⟨u::t::r,List.Perm.swap t u r,by rw[AG,AG,I,e3,e4]⟩
 |trans _ _ g j=>
  intro T e;obtain⟨T1,p1,I⟩:=j e;obtain⟨T2,p2,J⟩:=g I;exact⟨T2,p2.trans p1,J⟩
def itV(x:Nat×Tok):Value:=.int (x.1:Int) x.2
def Gj(h:Heap)(kS:Addr)(rk:Nat->Int)(k:Value)(x:Nat×Tok):Prop:=∃a t u,k=.ref a/\a≠kS/\h.get? a=some { cls:=.type "tuple",data:=.seq #[.int (rk x.1) t,.int (x.1:Int) u] }
def jA(h:Heap)(kS:Addr)(rk:Nat->Int):List Value->List (Nat×Tok)->Prop
 |[],[]=>True
 |k::ks,x::xs=>Gj h kS rk k x/\jA h kS rk ks xs
 |_,_=>False
theorem jA.len{h:Heap}{kS:Addr}{rk:Nat->Int}:∀{ks:List Value} {xs:List<|Nat×Tok},jA h kS rk ks xs->ks.length=xs.length
 |[],[],_=>rfl
 |_::_,_::_,ψ=>by obtain⟨_,b⟩:=ψ;rw[AK,AK,jA.len b]
 |[],_::_,z=>z.elim
 |_::_,[],z=>z.elim
theorem jA.mem{h:Heap}{kS:Addr}{rk:Nat->Int}:∀{ks:List Value} {xs:List<|Nat×Tok},jA h kS rk ks xs->∀t∈ks.zip xs,Gj h kS rk t.1 t.2
 |[],[],_,t,I=>by cases I
 |_::_,_::_,ψ,t,I=>by
  obtain⟨a,b⟩:=ψ
  rw[DC] at I;rcases Ao.mp I with rfl|I
  ·exact a
  ·exact jA.mem b t I
 |[],_::_,z,_,_=>z.elim
 |_::_,[],z,_,_=>z.elim
section
variable {w:World}
theorem Jj{g:Heap}{f:Addr}{kx px:Str}{scope:Scope}{kvs:List Value}{kS:Addr}{rk:Nat->Int}{body:Value->PUnit->Sem (ForInStep PUnit)}(K:lC g f kx px scope kvs)(S:KeySc scope kx px)(I:A.depth<recursionLimit)(hn:g.get? kS=none)
 (hb:∀(x:Value) (s:Shared) (Q':ForInStep PUnit->Shared->Prop),wpAny (model prog w) A (call (.ref f) [x]) (λk s'=>wpAny (model prog w) A (Builtin.List.listUpdate (.ref kS) (·.push k)) (λ_ T=>Q' (.yield ⟨⟩) T) E s') (λ_ _=>False) s->wpAny (model prog w) A (body x ⟨⟩) Q' E s):
 ∀(ps:List<|Nat×Tok) (ks:List Value) (e:Nat) (s:Shared) (Q:PUnit->Shared->Prop),(∀b o,g.get? b=some o->s.heap.get? b=some o)->s.heap.get? kS=some (seqObj "list" ks.toArray e)->ks.length+ps.length<=100000->
  (∀x∈ps,x.1<2 ^ 40/\∃t,kvs[x.1]?=some (.int (rk x.1) t))->
  (∀h' tk j e',(∀b o,b≠kS->s.heap.get? b=some o->h'.get? b=some o)->h'.get? kS=some (seqObj "list" (ks++j).toArray e')->jA h' kS rk j ps->Q ⟨⟩ { s with heap:=h',toks:=tk })->
  wpAny (model prog w) A (forIn (ps.map itV) PUnit.unit body) Q E s
 |[],ks,e,s,Q,hg,hk,hz,hp,q=>by rw[Dh,List.forIn_nil];exact An (q s.heap s.toks [] e (λ_ _ _ h=>h) (by rw[AE];exact hk) trivial)
 |x::r,ks,e,s,Q,hg,hk,hz,hp,q=>by
  rw[AG,Ew];rw[AK] at hz;obtain⟨a0,t,ht⟩:=hp x<|Ak ..;have big:(100000:Nat)+1<=sizeLine:=by rw[sizeLine_eq];exact C5 _ _
  refine Aa<|hb (itV x) s _<|RL (K.keeps hg) S I ht a0 λl p a k1 ha=>?_;have J:l.get? kS=some (seqObj "list" ks.toArray e):=k1 _ _ hk;have s1:=qy l kS (Obj.mapSeq (·.push (.ref a)));have ea:ks.toArray.push (.ref a)=List.toArray (ks++[.ref a]):=by simp
  obtain⟨c2,a1⟩:∃c2,(l.update kS (Obj.mapSeq (·.push (.ref a)))).get? kS=some (seqObj "list" (List.toArray<|ks++[.ref a]) c2):=⟨_,by rw[<-ea];exact get?_update_seq J (·.push (.ref a))⟩;have C:a≠kS:=λz=>by
   rw[z,J] at ha;have:=BL (λo:Option Obj=>o.map (·.cls)) ha;have z2:some (Value.type "list")=some (Value.type "tuple"):=this;injection z2 with z3
   injection z3 with z4
   exact absurd z4 (by decide)
  refine listUpdate_at (s:={ s with heap:=l,toks:=p }) J rfl ?_ (by rw[Ar];lia) (AN (El<|Bq ..) (by rw[Ar];lia));refine Jj K S I hn hb r (ks++[.ref a]) c2 { s with heap:=l.update kS (Obj.mapSeq (·.push (.ref a))),toks:=p } Q (λb o e=>?_) a1 (by rw[Ad,CF];lia) (λy hy=>hp y<|Ab _ hy) λh' tk j e' kk a2 vs=>?_
  ·have nb:b≠kS:=λz=>by rw[z,hn] at e;cases e
   exact(s1.2 b nb).trans (k1 b o<|hg b o e)
  ·have U:∀b o,b≠kS->l.get? b=some o->h'.get? b=some o:=λb o nb e=>kk b o nb<|(s1.2 b nb).trans e;refine q h' tk (.ref a::j) e' (λb o nb e=>U b o nb<|k1 b o e) (by rw[a2,AA];rfl) ⟨⟨a,t,x.2,rfl,C,U a _ C ha⟩,vs⟩
end
section
variable {w:World}
theorem RN{g:Heap}{f:Addr}{kvs:List Value}{kS a:Addr}{rk:Nat->Int}{ps:List<|Nat×Tok}{e1 e0:Nat}{P:PySem.Fin->Shared->Prop}(K:lC g f kx px scope kvs)(S:KeySc scope kx px)(I:A.depth<recursionLimit)(hn:g.get? kS=none)
 (hg:∀b o,g.get? b=some o->s.heap.get? b=some o) (hk:s.heap.get? kS=some (seqObj "list" #[] e0)) (ha:s.heap.get? a=some (seqObj "list" #[] e1)) (l:kS≠a) (hz:ps.length<=127)
 (hp:∀x∈ps,x.1<2 ^ 40/\∃t,kvs[x.1]?=some (.int (rk x.1) t)) (hB:∀x∈ps,((x.1:Nat):Int)<B) (nd:(ps.map (·.1)).Nodup)
 (h:∀h' tk (qs:List<|Nat×Tok) c,(∀b o,b≠kS->b≠a->s.heap.get? b=some o->h'.get? b=some o)->h'.get? a=some (seqObj "list" (qs.map itV).toArray c)->qs.Perm ps->(qs.Pairwise λx y=>rk x.1*B+(x.1:Int)<=rk y.1*B+(y.1:Int))->P (.done<|.ret .none) { s with heap:=h',toks:=tk }):
 wpAny (model prog w) A (ksk_rest a (.ref f) false (ps.map itV).toArray e1<|.ref kS) P E s:=by
 have big:(100000:Nat)+1<=sizeLine:=by rw[sizeLine_eq];exact C5 _ _
 unfold ksk_rest;refine Aa<|BQ ?_;rw[List.forIn_toArray];refine Aa (Jj (rk:=rk) K S I hn (λx s' Q' hx=>?_) ps [] e0 s _ hg hk (by simp;lia) hp λh' tk ks e' keep J kv=>?_)
 ·refine Aa (wpAny_attempt<|AX hx (λk a4 hk=>?_) λ_ _ hF=>hF.elim)
  try dsimp only
  exact Aa<|AX hk (λ_ s3 q=>An q) λ_ _ e=>e
 ·try dsimp only
  rw[Ci] at J;refine Aa<|listItems_at (s:={ s with heap:=h',toks:=tk }) J rfl ?_;have a0:h'.get? a=some (seqObj "list" #[] e1):=keep _ _ (A4 l) ha;have len:ks.length=ps.length:=kv.len;obtain⟨T,C⟩:∃T,T=ks.zip ps:=⟨_,rfl⟩;have kT:∀t∈T,Gj h' kS rk t.1 t.2:=λt p=>kv.mem t<|C▸p;have e2:T.map (·.2)=ps:=by rw[C];exact List.map_snd_zip (by lia)
  have ez:ks.zip (ps.map itV)=T.map λt=>(t.1,itV t.2):=by rw[C,List.zip_map_right];rfl
  have mp:∀t∈T,t.2∈ps:=λt p=>by rw[<-e2];exact B4 p
  have nT:∀t∈T,num h' B (t.1,itV t.2)=rk t.2.1*B+(t.2.1:Int):=λt p=>by obtain⟨b,tt,u,r,x2,x3⟩:=kT t p;exact num_of r x3 rfl
  have a5:∀x∈ps,(0:Int)<=((x.1:Nat):Int):=λ_ _=>by exact AU _
  refine Qt (s:={ s with heap:=h',toks:=tk }) (vs:=ps.map itV) (ks:=ks) (B:=B) J a0 l (by rw[Ah];exact len) (by rw[Ah];exact hz) (λv hv=>?_) λh2 a1 xs c U hc pm pw=>?_
  ·obtain⟨j,hj⟩:=BW hv;have a2:j<ps.length:=by rw[<-len];exact(AS.mp hj).1
   have hm:(v,ps[j])∈T:=by rw[C];refine Ce.mpr ⟨j,?_⟩;rw[List.getElem?_zip_eq_some];exact⟨hj,Al a2⟩
   obtain⟨b,tt,u,r,x2,x3⟩:=kT _ hm;have r:v=.ref b:=r;exact⟨b,_,_,_,_,tt,u,r,x3,rfl,rfl,by exact AU _,hB _<|mp _ hm⟩
  ·rw[ez] at pm;obtain⟨T',pT,a3⟩:=RM _ pm rfl;subst a3;have mT:∀t,t∈T'->t∈T:=λt=>pT.mem_iff.mp;refine h h2 a1 (T'.map (·.2)) c (λb o n1 n2 e=>?_) ?_ ?_ ?_
   ·rw[U b n1 n2];exact keep b o n1 e
   ·rw[hc,B5,B5];rfl
   ·rw[<-e2];exact pT.map _
   ·refine B0.mpr<|Co (λ{x y} hx hy z=>?_)<|B0.mp pw;rw[nT x<|mT x hx,nT y<|mT y hy] at z;exact z
theorem w_sortedK{f:Addr}{kvs:List Value}{rk:Nat->Int}{ps:List<|Nat×Tok}(K:lC s.heap f kx px scope kvs)(S:KeySc scope kx px)(j:A.in1.in1.depth<recursionLimit)
 (hl:s.heap.IsList l (ps.map itV).toArray) (hz:ps.length<=127)
 (hp:∀x∈ps,x.1<2 ^ 40/\∃t,kvs[x.1]?=some (.int (rk x.1) t)) (hB:∀x∈ps,((x.1:Nat):Int)<B) (nd:(ps.map (·.1)).Nodup)
 (h:∀h' tk (qs:List<|Nat×Tok) D c,s.heap.objs.size<=D->(∀b o,s.heap.get? b=some o->h'.get? b=some o)->h'.get? D=some (seqObj "list" (qs.map itV).toArray c)->qs.Perm ps->(qs.Pairwise λx y=>rk x.1*B+(x.1:Int)<=rk y.1*B+(y.1:Int))->Q (.ref D) { s with heap:=h',toks:=tk }):
 wpAny (model prog w) A (call (.builtin "sorted") [.ref l] [(Str.ofString "key",.ref f)]) Q E s:=by
 have big:(100000:Nat)+1<=sizeLine:=by rw[sizeLine_eq];lia
 have a1:(ps.map itV).length<=100000:=by rw[Ah];lia
 refine call_function_entry_kw kind_sorted plain_sorted entry_sorted (ksk_s1 _ _) ?_;unfold Builtin.«sorted»;refine Aa (m:=checkCount "sorted" 1 1 _)<|An ?_;refine Aa<|collect_list hl ?_ (by exact wE);refine Aa<|wpAny_newList ?_ (by lia);obtain⟨g1,C⟩:∃g1,g1=(s.heap.push<|seqObj "list" #[] 0).update s.heap.objs.size (Obj.mapSeq (· ++ (ps.map itV).toArray)):=⟨_,rfl⟩;have T:g1.objs.size=s.heap.objs.size+1:=by rw[C,xp,size_push']
 have gk:∀b o,s.heap.get? b=some o->g1.get? b=some o:=λb o q=>by have J:b<s.heap.objs.size:=pj q;rw[C,xT _ _ _ _<|A5 J];exact oe _ q
 show wpAny _ _ _ _ _ { s with heap:=((s.heap.push<|seqObj "list" #[] 0).update s.heap.objs.size (Obj.mapSeq (· ++ (ps.map itV).toArray))).push (seqObj "list" (ps.map itV).toArray 0) };rw[<-C];have I:(g1.push<|seqObj "list" (ps.map itV).toArray 0).get? g1.objs.size=some (seqObj "list" (ps.map itV).toArray 0):=pR _ rfl;have keep:∀b o,s.heap.get? b=some o->(g1.push<|seqObj "list" (ps.map itV).toArray 0).get? b=some o:=λb o q=>oe _<|gk b o q;refine Aa<|A6<|wpAny_call_entry_kw slot_list_sort ⟨_,I,rfl⟩ entry_list_sort ?body<|ksk_l1 _ _
 case body=>
  obtain⟨D,eD⟩:∃D,D=g1.objs.size:=⟨_,rfl⟩;rw[<-eD] at I ⊢;show wpAny (model prog w) A.in1.in1 (Builtin.«list.sort» ⟨[.ref D],[(Str.ofString "key",.ref f)]⟩) _ _ _;rw[ksk_t1];obtain⟨g2,p⟩:∃g2,g2=g1.push (seqObj "list" (ps.map itV).toArray 0):=⟨_,rfl⟩;rw[<-p] at I keep ⊢;have s1:=qy g2 D<|Obj.mapSeq λ_=>(#[]:Array Value);obtain⟨e1,r⟩:∃e1,(g2.update D<|Obj.mapSeq λ_=>(#[]:Array Value)).get? D=some (seqObj "list" #[] e1):=⟨_,get?_update_seq I λ_=>#[]⟩;have nD:∀b o,s.heap.get? b=some o->b≠D:=λb o q z=>by have J:b<s.heap.objs.size:=pj q;rw[z,eD,T] at J;exact Dr J
  unfold ksk_tree;refine Aa<|listItems_at (s:={ s with heap:=g2 }) I rfl ?_;refine Aa (listUpdate_at (s:={ s with heap:=g2 }) I rfl ?_ (by rw[Ar];exact wE)<|A3 _);refine Aa<|seqEpoch_at r rfl ?_;refine Aa (wpAny_newTuple ?_ (by show(ps.map itV).length<=_;lia));refine Aa<|wpAny_newList ?_<|A3 _;refine A6 ?_;obtain⟨g3,U⟩:∃g3,g3=(g2.update D<|Obj.mapSeq λ_=>(#[]:Array Value)).push (seqObj "tuple" (ps.map itV).toArray 0):=⟨_,rfl⟩;have k3:∀b o,s.heap.get? b=some o->g3.get? b=some o:=λb o q=>by rw[U];exact oe _<|(s1.2 b<|nD b o q).trans<|keep b o q
  have d3:g3.get? D=some (seqObj "list" #[] e1):=by rw[U];exact oe _ r
  show wpAny (model prog w) A.in1.in1 (ksk_rest D (.ref f) false (ps.map itV).toArray _<|.ref ((g2.update D<|Obj.mapSeq λ_=>(#[]:Array Value)).push<|seqObj "tuple" (ps.map itV).toArray 0).objs.size) _ _ { s with heap:=((g2.update D<|Obj.mapSeq λ_=>(#[]:Array Value)).push<|seqObj "tuple" (ps.map itV).toArray 0).push (seqObj "list" #[] 0) };rw[<-U];have a0:(g3.push<|seqObj "list" #[] 0).get? g3.objs.size=some (seqObj "list" #[] 0):=pR _ rfl;refine RN (s:={ s with heap:=g3.push (seqObj "list" #[] 0) }) (g:=s.heap) (kS:=g3.objs.size) (a:=D) (rk:=rk) (B:=B) K S j (Heap.get?_none_of_le ?_) (λb o q=>oe _<|k3 b o q) a0 (oe _ d3) ?_ hz hp hB nd λh' tk qs c kp hD pm pw=>?_
  ·have l1:g3.objs.size=g1.objs.size+2:=by rw[U,size_push',xp,p,size_push']
   rw[l1,T];exact AN (B6 _)<|Bg _ 2
  ·exact(A5<|pj d3).symm
  ·refine⟨_,rfl,An ⟨_,rfl,h h' tk qs D c (by rw[eD,T];exact B6 _) (λb o q=>?_) hD pm pw⟩⟩;exact kp b o (A5<|pj<|k3 b o q) (nD b o q)<|oe _<|k3 b o q
end
end TS
namespace L2
open PySem PySem.Spec PyProof.Rows
theorem pL{i j:Int}{t u:Tok}{c:Value}(l:List Value)(h:TriplesOk l):TriplesOk (l++[.int i t,.int j u,c]):=by
 fun_induction TriplesOk l with
 |case1=>trivial
 |case2 _ _ _ _ _ rest I=>exact I h
 |case3=>exact h.elim
theorem ur{i j:Int}{t u:Tok}{c I:Value}(l:List Value)(h:TriplesOk l)(e:codeAmong pos (l++[.int i t,.int j u,c])=some I):codeAmong pos l=some I\/I=c:=by
 fun_induction TriplesOk l with
 |case1=>
  right;have e:(if i==pos.line&&j==pos.col then some c else none)=some I:=e;split at e
  ·cases e;rfl
  ·cases e
 |case2 a _ b _ d rest J=>
  have e:(if a==pos.line&&b==pos.col then some d else codeAmong pos (rest++[.int i t,.int j u,c]))=some I:=e;show(if a==pos.line&&b==pos.col then some d else codeAmong pos rest)=some I\/I=c;split at e
  ·rename_i z;rw[AC z];exact .inl e
  ·rename_i z;rw[AB z];exact J h e
 |case3=>exact h.elim
structure yg(K:Aj)(eK:Value)(P:Addr):Prop where
 ex:∃c oc,eK=.ref c/\K.lookup c=some oc/\∀h:Heap,h.get? c=some oc->PySem.W.CodeHd h c P
 bm:∃bm ob,PySem.W.nsIn K mainGlobals "__builtins__"=some (some<|.ref bm)/\bm≠builtinsNs/\bm≠mainGlobals/\K.lookup bm=some ob/\ob.cls=.type "module" /\ ob.dict=some builtinsNs/\ob.data=.plain
theorem rV:∀{l:List Nat} {us:List Value},zn (l.map λi:Nat=>V.int<|0+(i:Int)) us->∃ps:List (Nat×Tok),us=ps.map TS.itV/\ps.map (·.1)=l
 |[],_,.nil=>⟨[],rfl,rfl⟩
 |i::r,_,.cons (b:=u) h t=>by obtain⟨ps,J,U⟩:=rV (l:=r) t;obtain⟨I,g⟩:=(show ∃I,u=Value.int (0+(i:Int)) I from h);refine⟨(i,I)::ps,?_,by rw[AG,U]⟩;rw[AG,J,g];show _=Value.int (i:Int) I::_;rw[BI]
theorem tG:∀ps:List (Nat×Tok),zn (ps.map λx=>V.int ((x.1:Nat):Int))<|ps.map TS.itV
 |[]=>.nil
 |x::r=>.cons ⟨x.2,rfl⟩<|tG r
def RP(P:Addr)(q:Str)(J:Nat)(te:TE):TE:=λσ H Q=>te σ H λv H1=>∃l I,∃n:Nat,∃rks:List Int,v=.ref l/\H1 l=some (.lst ((List.range n).map λi:Nat=>V.int<|0+(i:Int)))/\σ[J]?=some (some<|.ref I)/\H1 I=some (.lst<|rks.map V.int)/\rks.length=n/\n<=127/\qM H1 P q/\
 ∀H2 D (qs:List Nat),(∀b u,b≠P->H1 b=some u->H2 b=some u)->qM H2 P q->H1 D=none->D≠P->H2 D=some (.lst (qs.map λi:Nat=>V.int (i:Int)))->qs.Perm (List.range n)->(qs.Pairwise λi j=>rks.getD i 0*1000000+(i:Int)<=rks.getD j 0*1000000+(j:Int))->Q (.ref D) H2
theorem yw{f kk cell:Addr}{J:Arguments}{p:Value}{Q:VK}(I:z8 X pins σ H s)(S:TS.KeySc fx kx px)(hr:X.A.depth+3<recursionLimit)
 (hf:s.heap.get? f=some (PySem.W.kla_obj name eA J (TS.keyBody kx px p1 p2 p3 p4 p5 x1) fx [(kx,cell)] pm c' p)) (a0:s.heap.CodeRec (.ref c') eA) (r:s.heap.IsCell cell<|some<|.ref kk)
 (hb:∀v:Value,bindArgs (PySem.W.kla_fn name eA J (TS.keyBody kx px p1 p2 p3 p4 p5 x1) fx [(kx,cell)] pm (.ref c') p) ⟨[v],[]⟩=pure [(px,v)])
 (hl:H l=some (.lst ((List.range n).map λi:Nat=>V.int<|0+(i:Int)))) (hk:H kk=some (.lst<|rks.map V.int)) (hn:rks.length=n) (hz:n<=127)
 (q:∀D (qs:List Nat),H D=none->qs.Perm (List.range n)->(qs.Pairwise λi j=>rks.getD i 0*1000000+(i:Int)<=rks.getD j 0*1000000+(j:Int))->Q (.ref D) (upd H D<|.lst (qs.map λi:Nat=>V.int (i:Int)))):
 wpAny (model X.prog X.w) X.A (call (.builtin "sorted") [.ref l] [(Str.ofString "key",.ref f)]) (EP X pins σ Q) X.xe s:=by
 obtain⟨a3,rv,pl,_⟩:=I.list<|E9 hl;obtain⟨g,rk,pk,_⟩:=I.list<|E9 hk;obtain⟨ps,rfl,U⟩:=rV rv;have lk:g.length=n:=by rw[<-rk.length,Ah,hn]
 have lp:ps.length=n:=by have:=BL List.length U;rwa[Ah,A7] at this
 have big:(100000:Nat)<=sizeLine:=by decide
 refine jt I.tk<|TS.w_sortedK (rk:=λi=>rks.getD i 0) (B:=1000000) (kvs:=g) ⟨⟨name,eA,J,p1,p2,p3,p4,p5,x1,pm,p,c',cell,kk,hf,a0,r,pk.isList,hb⟩,I.nolimit⟩ S ?_ pl.isList (by lia) (λx hx=>?_) (λx hx=>?_) ?_ λh' tk qs D c hD keep hg T pw ht=>?_
 ·show X.A.depth<recursionLimit;lia
 ·have C:x.1∈List.range n:=by rw[<-U];exact B4 hx
  have a1:=AL.mp C;refine⟨by lia,?_⟩;have e1:(rks.map V.int)[x.1]?=some (V.int<|rks.getD x.1 0):=by rw[Aq,Al (by lia),Bv,Al (by lia)];rfl
  obtain⟨u,e2,r2⟩:=Words.Paired.getP rk e1;obtain⟨t,rfl⟩:=(show ∃t,u=Value.int (rks.getD x.1 0) t from r2);exact⟨t,e2⟩
 ·have C:x.1∈List.range n:=by rw[<-U];exact B4 hx
  have a1:=AL.mp C;omega
 ·rw[U];exact Cw
 ·have a2:H D=none:=I.hok.fresh hD;refine⟨.ref D,_,I.laid (t':=tk) (o:=.lst ((qs.map (·.1)).map λi:Nat=>V.int (i:Int))) keep hD ?_,rfl,q D (qs.map (·.1)) a2 ?_ ?_⟩
  ·refine⟨?_,qs.map TS.itV,c,?_,hg⟩
   ·rw[Ah,Ah,T.length_eq];lia
   ·rw[B5];exact tG qs
  ·rw[<-U];exact T.map _
  ·exact B0.mpr pw
theorem z8.tabbed{P:Addr}{ps more:Array Value}{oc fo:Obj}{tk:Nat}(I:z8 X pins σ H s)(C:H P=some (.tbl ps))(hx:Heap.ExtBut P s.heap h')(U:h'.get? P=some (PySem.W.tabObj<|ps++more))
 (hc:s.heap.objs.size<=c') (g:h'.get? c'=some oc) (ht:0<tk):z8 X pins σ (upd (upd H P<|.tbl<|ps++more) c'<|.frz oc<|.own 0) { s with heap:=h'.push fo,toks:=tk }:=by
 have nc:H c'=none:=I.hok.fresh hc;have p:∀b,H b=none->b≠P:=λb e z=>by rw[z,C] at e;cases e
 have j:∀b u,H b=some u->b≠c':=λb u e z=>by rw[z,nc] at e;cases e
 have l:∀b o,s.heap.get? b=some o->b≠c':=λb o e=>A5<|AR (pj e) hc;have t:∀b o,b≠P->s.heap.get? b=some o->(h'.push fo).get? b=some o:=λb o n e=>oe _<|hx b o n e;have J:∀b u,H b=some u->(∀ps,u≠.tbl ps)->b≠P:=λb u e d z=>by rw[z,C] at e;cases e;exact d _ rfl
 refine I.step (ch:=[]) (g':=s.gens) (d':=s.drawn) (t':=tk) (λ_ z=>nomatch z) (λb o _ _ _ e n=>t b o (p b n) e) (λb o _ _ _ e n=>⟨o.slots,t b o (p b n) e⟩) (λb o _ e n=>?_) (λb o _ e=>?_) (λb xs e=>?_) (λb o u e=>?_) (λb qs e=>?_) (λm hm=>?_) (λb u e=>?_) I.bare ht
 ·rw[qu<|l b o e,qu<|p b n];exact n
 ·by_cases c:b=P
  ·subst c;exact⟨_,oe _ U⟩
  ·exact⟨o,t b o c e⟩
 ·rw[qu<|j b _ e,qu (J b _ e λ_ z=>by cases z)];exact e
 ·rw[qu<|j b _ e,qu (J b _ e λ_ z=>by cases z)];exact e
 ·rw[qu<|j b _ e];by_cases c:b=P
  ·subst c;rw[C] at e;cases e;exact⟨more,zq⟩
  ·rw[qu c];exact⟨#[],by rw[e];simp⟩
 ·exact(hm.extBut hx<|p _ I.free).push _
 ·by_cases c:b=c'
  ·subst c;rw[zq] at e;cases e;exact⟨oe _ g,_,oe _ g⟩
  ·rw[qu c] at e;by_cases d:b=P
   ·subst d;rw[zq] at e;cases e;exact oe _ U
   ·rw[qu d] at e;refine(I.hok b u e).stay (λa v T r=>t a v ?_ r) (λa r=>?_) (λa xs r=>?_)
    ·rcases T with rfl|T
     ·exact d
     ·exact J a _ T λ_ z=>by cases z
    ·rw[qu<|j a _ r,qu (J a _ r λ_ z=>by cases z)];exact r
    ·rw[qu<|j a _ r,qu (J a _ r λ_ z=>by cases z)];exact r
theorem RQ{te:TE}{J:Arguments}{U p:Pos}{ik:Nat}{P:Addr}{q:Str}(hg:Gl X "sorted")(hm:X.mg "sorted"=none)(he:PE X e te)(S:TS.KeySc fx kx px)(C:yg X.K X.env.code P)(hr:X.A.depth+3<recursionLimit)
 (hq:X.env.qual ++ "<lambda>" = q) (bi:X.N[ik]?=some kx) (al:X.env.scope.names.lookup kx=some .cell) (au:∃cell,X.env.cells.lookup kx=some cell/\closureFor fx X.env=pure [(kx,cell)])
 (av:defaultsOf J X.env=([],[])) (hb:∀(name eA:Str) (cl:List<|Str×Addr) (pm cd ct v:Value),bindArgs (PySem.W.kla_fn name eA J (TS.keyBody kx px p1 p2 p3 p4 p5 x1) fx cl pm cd ct) ⟨[v],[]⟩=pure [(px,v)])
 (h1:starEach [e] X.env=(false,eval e X.env)::starEach [] X.env:=by rfl) (h2:(backTo pos<|starEach [e] X.env).any (·.1)=false:=by rfl)
 (h3:backTo pos (starEach [e] X.env)=(false,eval e X.env)::backTo pos (starEach [] X.env):=by rfl):
 PE X (.Call (.Name "sorted" p) [e] [⟨some "key",.Lambda J (TS.keyBody kx px p1 p2 p3 p4 p5 x1) fx U,nC⟩] pos) (RP P q ik te):=by
 intro a0 s σ H Q I h;refine wpAny_Call_Name_kw<|gJ I hg hm (by decide +kernel:bootBuiltins "sorted"=some (.builtin "sorted")) ?_ (by decide) (by decide);refine PyProof.Rows.callWith_kw ?_ h3 h2;rw[h3];refine vb<|aT (he a0 s σ H _ I h) λv s1 ψ=>?_;obtain⟨x,H1,g,rx,l,kk,n,rks,ev,hl,hs,hk,hn,hz,T,qq⟩:=ψ;refine wh ?_;subst ev;cases (show v=Value.ref l from rx);show wpAny _ _ (evalAll ((do let v <-eval (.Lambda J (TS.keyBody kx px p1 p2 p3 p4 p5 x1) fx U) X.env;standAt pos;pure v)::[])) _ _ s1;refine wpAny_evalAll_cons<|Aa ?_;obtain⟨cell,a2,ab⟩:=au;obtain⟨c,ca,aL,lc,hC⟩:=C.ex;obtain⟨bm,ob,b1,b2,b3,b4,b5,b6,b7⟩:=C.bm;obtain⟨a5,tP,tok,a3⟩:=T;have ba:s1.heap.Ns mainGlobals X.mg:=g.ok.mod.glob.keeps g.bk;have bb:s1.heap.get? P=some (PySem.W.tabObj a5):=g.hok P _ tP;have bc:PySem.W.CodeHd s1.heap c P:=hC _<|g.kIn c ca lc;have a1:∀b o,X.base.get? b=some o->b≠P:=λb o e z=>by have:=(g.bs b o e).2;rw[z,tP] at this;cases this
 have ac:=g.ok.mod.kin bm ob b4;have hB:s1.heap.BuiltinsAt X.mg P:=⟨bm,ob,C3 g.ok.mod.kin g.ok.mod.glob b1,b2,b3,a1 _ _ ac,(g.bs _ _ ac).1,b5,b6,b7⟩;have cc:mainGlobals≠P:=by obtain⟨o,es,ep,e,hd,_⟩:=g.ok.mod.glob;exact a1 _ _ e
 have a4:s1.heap.IsCell cell (some<|.ref kk):=by
  obtain⟨m,_,cg⟩:=g.loc;obtain⟨u,ru,lk⟩:=cg ik kx _ bi hs<|.inr<|.inl al;cases (show u=Value.ref kk from ru);rcases lk with⟨k1,_⟩|⟨_,c2,e2,ck⟩
  ·have k1:X.env.scope.names.lookup kx=some .local:=k1;rw[al] at k1;cases k1
  ·rw[a2] at e2;cases e2;exact ck
 refine PySem.W.kla_eval av ?_;rw[hq];have x0:∀(s2:Shared) (H2:Hp) (f j:Addr) (r pm:Value),z8 X a0 σ H2 s2->s2.heap.get? f=some (PySem.W.kla_obj "<lambda>" q J (TS.keyBody kx px p1 p2 p3 p4 p5 x1) fx [(kx,cell)] pm j r)->s2.heap.CodeRec (.ref j) q->s2.heap.IsCell cell (some<|.ref kk)->
  (∀b u,b≠P->H1 b=some u->H2 b=some u)->qM H2 P q->(∀b,H2 b=none->H1 b=none)->
  wpAny (model X.prog X.w) X.A (do standAt pos;pure (Value.ref f)) (λv s'=>wpAny (model X.prog X.w) X.A (evalAll []) (λvs cm=>wpAny (model X.prog X.w) X.A (call (.builtin "sorted") [.ref l]<|[Str.ofString "key"].zip<|v::vs) (EP X a0 σ Q) X.xe cm) X.xe s') X.xe s2:=by
  intro s2 H2 f j r pm I2 g1 g2 g3 g4 g5 g6;refine Aa<|wpAny_standAt<|An<|wpAny_evalAll_nil ?_;have lP:l≠P:=λz=>by rw[z,tP] at hl;cases hl
  have kP:kk≠P:=λz=>by rw[z,tP] at hk;cases hk
  refine yw (n:=n) (rks:=rks) I2 S hr g1 g2 g3 (λv=>hb _ _ _ _ _ _ v) (g4 _ _ lP hl) (g4 _ _ kP hk) hn hz λD qs hD cn pw=>?_;have bd:D≠P:=λz=>by obtain⟨dd,e2,_⟩:=g5;rw[z,e2] at hD;cases hD
  refine qq _ D qs (λb u n e=>?_) ?_ (g6 D hD) bd zq cn pw
  ·rw[qu<|zx (g4 b u n e) hD];exact g4 b u n e
  ·exact g5.keep (qu<|A4 bd) λb o u e=>by rw[qu<|zx e hD];exact e
 cases hf:codeAmong U a5.toList with
 |some cv=>
  obtain⟨j,oc,vs,t,cw,f1,f2,f3⟩:=a3 U cv hf;subst cw;refine jt g.tk<|PySem.W.kla_makeFunctionHit (mg:=X.mg) ab g.ok.glob ba aL bc bb tok hf hB λr h' tk be de ht=>?_;have I2:z8 X a0 σ H1 { s1 with heap:=h'.push { cls:=.type "function",data:=.func (PySem.W.kla_fn "<lambda>" q J (TS.keyBody kx px p1 p2 p3 p4 p5 x1) fx [(kx,cell)] ((X.mg "__name__").getD .none) (.ref j) r) },toks:=tk }:=g.kept (t':=tk) λb o e=>oe _<|be b o e;obtain⟨a7,_⟩:=I2.hok j _ f1;refine x0 _ H1 _ j r _ I2 (pR _ rfl) ⟨j,oc,vs,t,rfl,a7,f2,f3⟩ ?_ (λb u _ e=>e) ⟨a5,tP,tok,a3⟩ λb e=>e;obtain⟨o,e1,e2⟩:=a4;exact⟨o,oe _<|be _ _ e1,e2⟩
 |none=>
  refine jt g.tk<|PySem.W.kla_makeFunction (mg:=X.mg) ab g.ok.glob ba aL bc bb tok hf cc hB λj r h' tk hx bf dj bg cy ht=>?_;obtain⟨c2,oc,vs,t,e2,a7,f2,f3⟩:=bg;cases e2;have I2:=g.tabbed (fo:=PySem.W.kla_obj "<lambda>" q J (TS.keyBody kx px p1 p2 p3 p4 p5 x1) fx [(kx,cell)] ((X.mg "__name__").getD .none) j r) tP hx cy bf a7 ht;have nc:H1 j=none:=g.hok.fresh bf;have cP:j≠P:=λz=>by rw[z,tP] at nc;cases nc
  refine x0 _ _ _ j r _ I2 (pR _ rfl) ⟨j,oc,vs,t,rfl,oe _ a7,f2,f3⟩ ?_ (λb u n e=>?_) ?_ λb e=>?_
  ·obtain⟨o,e1,e2⟩:=a4;have nP:cell≠P:=λz=>by have:=g.freeC kx cell a2;rw[z,tP] at this;cases this
   exact⟨o,oe _<|hx _ _ nP e1,e2⟩
  ·rw[qu<|zx e nc,qu n];exact e
  ·refine⟨a5++#[rawInt U.line,rawInt U.col,.ref j],by rw[qu<|A4 cP,zq],?_,λbh cv z=>?_⟩
   ·rw[Ba];exact pL _ tok
   ·rw[Ba] at z;rcases ur _ tok z with z|z
    ·obtain⟨d',od,d0,t',k1,k2,k3⟩:=a3 bh cv z;have nP:d'≠P:=λz=>by rw[z,tP] at k2;cases k2
     exact⟨d',od,d0,t',k1,by rw[qu<|zx k2 nc,qu nP];exact k2,k3⟩
    ·exact⟨j,oc,vs,t,z,zq,f2,f3⟩
  ·by_cases d:b=j
   ·subst d;exact nc
   ·rw[qu d] at e;by_cases d2:b=P
    ·subst d2;rw[zq] at e;cases e
    ·rw[qu d2] at e;exact e
end L2
namespace L3
open PySem L2
def Jk(Pt:Addr)(q:Str)(J:Nat)(te:v4)(τ:jm)(L:ql)(Q:YK):Prop:=te τ L λy L1=>match y with
 |.ref l=>cZ L1 l λys=>∃(n:Nat) (rks:List Int) (I:Addr),ys=aA 0 n/\v_ τ J=some (.ref I)/\L1 I=some (.lst<|rks.map Y.int)/\rks.length=n/\n<=127/\L1 Pt=some (.tb q)/\
  ∀(D:Addr) (qs:List Nat),L1 D=none->qs.Perm (List.range n)->(qs.Pairwise λi j=>rks.getD i 0*1000000+(i:Int)<=rks.getD j 0*1000000+(j:Int))->Q (.ref D) (qe L1 D<|.lst (qs.map λi:Nat=>Y.int (i:Int)))
 |_=>False
theorem oI{G:G3}{H:Hp}:∀{l:List Nat} {xs:List V},xj G H (l.map λi:Nat=>Y.int<|0+(i:Int)) xs->xs=l.map λi:Nat=>V.int<|0+(i:Int)
 |[],_,h=>h
 |_::_,_,ψ=>by obtain⟨x,I,e,r,s⟩:=ψ;subst e;cases r;rw[oI s];rfl
theorem hV{G:G3}{H:Hp}:∀{l:List Int} {xs:List V},xj G H (l.map Y.int) xs->xs=l.map V.int
 |[],_,h=>h
 |_::_,_,ψ=>by obtain⟨x,I,e,r,s⟩:=ψ;subst e;cases r;rw[hV s];rfl
theorem rO{G:G3}{H:Hp}:∀qs:List Nat,xj G H (qs.map λi:Nat=>Y.int (i:Int)) (qs.map λi:Nat=>V.int (i:Int))
 |[]=>rfl
 |_::r=>⟨_,_,rfl,rfl,rO r⟩
theorem RS{I:Arguments}{U p:Pos}{r:Nat}{q:Str}(hg:Gl X "sorted")(hm:X.mg "sorted"=none)(he:QE X e te)(S:TS.KeySc fx kx px)(C:yg X.K X.env.code Pt)(hr:X.A.depth+3<recursionLimit)
 (hq:X.env.qual ++ "<lambda>" = q) (t:X.N[r]?=some kx) (a0:X.env.scope.names.lookup kx=some .cell) (g:∃cell,X.env.cells.lookup kx=some cell/\closureFor fx X.env=pure [(kx,cell)])
 (j:defaultsOf I X.env=([],[])) (hb:∀(name eA:Str) (cl:List<|Str×Addr) (pm cd ct v:Value),bindArgs (PySem.W.kla_fn name eA I (TS.keyBody kx px p1 p2 p3 p4 p5 x1) fx cl pm cd ct) ⟨[v],[]⟩=pure [(px,v)])
 (h1:starEach [e] X.env=(false,eval e X.env)::starEach [] X.env:=by rfl) (h2:(backTo pos<|starEach [e] X.env).any (·.1)=false:=by rfl)
 (h3:backTo pos (starEach [e] X.env)=(false,eval e X.env)::backTo pos (starEach [] X.env):=by rfl):
 QE X (.Call (.Name "sorted" p) [e] [⟨some "key",.Lambda I (TS.keyBody kx px p1 p2 p3 p4 p5 x1) fx U,nC⟩] pos) (Jk Pt q r te):=
 EO (RQ hg hm he S C hr hq t a0 g j hb h1 h2 h3) λσ H Q τ L Q3 rs rl z k=>by
  refine⟨τ,L,_,rs,rl,z,λv H1 y L1 t1 J rv z=>?_⟩;cases y with
  |ref l=>
   obtain⟨ys,e1,n,a1,kk,rfl,e2,e3,hn,hz,eP,qq⟩:=x5 z;cases rv;obtain⟨xs,h1,r1⟩:=J l _ e1;obtain⟨xk,h2,r2⟩:=J kk _ e3;have T:qM H1 Pt q:=J Pt _ eP;cases oI r1;cases hV r2;obtain⟨v,hv,rv⟩:=rs.get r _<|qD _ _ e2;cases rv;refine⟨l,kk,n,a1,rfl,h1,hv,h2,hn,hz,T,λH2 D qs kp T2 hD a3 a2 pm pw=>?_⟩;have tb:∃o,H1 Pt=some (.tbl o):=let ⟨o,e,_⟩:=T;⟨o,e⟩;have t2:j5 H1 H2:=λa u i h=>kp a u (λc=>by obtain⟨o,e⟩:=tb;rw[c,e] at h;cases h;cases i) h
   refine k _ _ _ _ (t1.trans t2) (λa u e=>?_) (by rfl)<|qq D qs (J.none hD) pm pw;by_cases c:a=D
   ·subst c;rw[q9] at e;cases e;exact⟨_,a2,rO qs⟩
   ·rw[qc c] at e;by_cases d:a=Pt
    ·subst d;rw[eP] at e;cases e;exact T2
    ·obtain⟨x,hx⟩:=(J a u e).ex;exact(J a u e).keep t2 (by rw[hx];exact kp a x d hx)
  |_=>exact z.elim
structure Gk(K:Aj)(x eA:Str)(st:Stmt)(f:Addr)(fd:FuncData)(Pt:Addr):Prop where
 ex:∃(oc:Value) (od:Option Addr) (kV hE pm:Value) (an:Option Addr) (eK ct:Value) (mv:Array<|Option Value),
  fd=PySem.W.fnOf x eA (jy st) (j7 st) (qo st) .none kV hE pm an eK ct/\K.lookup f=some ⟨oc,od,.func fd,mv⟩/\PySem.W.codeIn K eK eA=true/\yg K eK Pt
 kp:PySem.W.keepIn K (.ref f)=true
theorem RT{P:Program}{w:World}{K:Aj}{f:Addr}{N:List Str}{k:Nat}(F:Gk K x eA st f fd Pt)(S:ag N ps<|qo st)(len:∀ys L Q,sp ys L Q->ys.length=ps.length)
 (I:∀(eK:Value) (A:Around) (outer:List Env) (s:Shared) (H:Hp) (E:XK),yg K eK Pt->vo k (A.deeper<|PyProof.Rows.envOfC eA (qo st) s.heap.objs.size f eK)->
  ∃t,rB (g9 CX0 P w K mg base N eA (qo st) f eK A outer s H E).nox (j7 st) t/\∀ys L Q,sp ys L Q->t { nx:=λ_ L'=>mE Q .non L',rt:=mE Q } (iP N ys) L):Fn3 P w K mg base (k+1) f fd ps sp:=by
 obtain⟨oc,od,kV,g,pm,an,eK,ct,j,rfl,lk,U,C⟩:=F.ex;have F0:Fun K x eA st f _:=⟨⟨oc,od,kV,g,pm,an,eK,ct,j,rfl,lk,U⟩,F.kp⟩;refine Hk lk U S (λvs H Q E ψ=>by obtain⟨ys,L,l,o,rl,z,_⟩:=ψ;rw[<-o.length];exact len ys L l z) λA outer s H vs Q E hr ψ=>?_;obtain⟨ys,L,l,o,rl,z,k⟩:=ψ;obtain⟨t,ht,q⟩:=I eK A outer s H E C hr;refine⟨_,jP.nox ht,iP N ys,L,_,oY o,rl,q ys L l z,?_⟩;exact⟨λσ p τ L' r a1 J ψ=>(by obtain⟨L2,T,q2⟩:=ψ;exact k .non p .non L2 r (J.sub T) (by rfl) q2),λv p y L' r J a0 ψ=>(by obtain⟨L2,T,q2⟩:=ψ;exact k v p y L2 r (J.sub T) a0 q2),λ_ _ _ _ _ _ _ z=>z.elim,λ_ _ _ _ _ _ _ z=>z.elim⟩
def oy(Pt:Addr)(q:Str):zc:=λys L Q=>∃I:List Int,ys=[.sq<|I.map Y.int]/\I.length<=63/\L=qe (λ_=>none) Pt (.tb q)/\∀L',Q (.bl true) L'
def spTopT(q:Str)(K:Aj)(Pt:Addr):Sp:=λvs H Q _=>∃(a:Addr) (I:List Int),vs=[.ref a]/\SqF K H a (I.map V.int)/\I.length<=63/\H Pt=some (.tbl #[])/\∀H',Q (.bl true) H'
theorem RU{q:Str}{vs:List V}{Q:VK}{E:XK}(h:spTopT q G.K Pt vs H Q E):dn G (oy Pt q) vs H Q E:=by
 obtain⟨a,I,rfl,J,U,g,z⟩:=h;refine⟨[.sq<|I.map Y.int],qe (λ_=>none) Pt<|.tb q,λy _=>y=.bl true,xj.one ⟨a,_,rfl,J,rj I⟩,(λb u e=>?_),⟨I,rfl,U,rfl,λ_=>rfl⟩,?_⟩
 ·by_cases c:b=Pt
  ·subst c;rw[q9] at e;cases e;exact⟨#[],g,trivial,λpos o z=>by cases z⟩
  ·rw[qc c] at e;cases e
 ·rintro v j y p _ _ l rfl;cases l;exact z j
end L3
namespace L2
open PySem PySem.Spec PyProof.Rows
def lessK(Pt:Addr):Aj->Aj
 |[]=>[]
 |(a,o)::r=>if a==Pt then lessK Pt r else(a,o)::lessK Pt r
theorem xc{Pt a:Addr}(h:a≠Pt):∀K:Aj,(lessK Pt K).lookup a=K.lookup a
 |[]=>rfl
 |(b,o)::r=>by
  unfold lessK;by_cases c:(b==Pt)=true
  ·rw[AC c,xc h r,Bh];have:(a==b)=false:=by have I:=eq_of_beq c;subst I;exact Ez h
   rw[this]
  ·rw[AB c,Bh,Bh,xc h r]
theorem we{Pt:Addr}:∀K:Aj,(lessK Pt K).lookup Pt=none
 |[]=>rfl
 |(b,o)::r=>by
  unfold lessK;by_cases c:(b==Pt)=true
  ·rw[AC c];exact we r
  ·rw[AB c,Bh];have:(Pt==b)=false:=by cases d:Pt==b with|false=>rfl|true=>exact absurd (beq_iff_eq.mpr (eq_of_beq d).symm) c
   rw[this];exact we r
theorem mN{a:Addr}{K:Aj}{o:Obj}(e:(lessK Pt K).lookup a=some o):a≠Pt/\K.lookup a=some o:=by
 by_cases c:a=Pt
 ·subst c;rw[we] at e;cases e
 ·rw[xc c] at e;exact⟨c,e⟩
theorem lessK_in{K:Aj}(X:K.In h):(lessK Pt K).In h:=λa o e=>X a o (mN e).2
structure Jl(K:Aj)(Pt:Addr):Prop where
 tab:K.lookup Pt=some (PySem.W.tabObj #[])
 hd:∃c,∀h:Heap,K.In h->PySem.W.CodeHd h c Pt
 st:Pt≠cStatics
section
variable {K:Aj}(T:K.lookup Pt=some (PySem.W.tabObj #[]))
include T
theorem ns_dn{a:Addr}{r:Option<|Option Value}(e:PySem.W.nsIn K a x=r):PySem.W.nsIn (lessK Pt K) a x=r:=by
 rw[<-e];unfold PySem.W.nsIn;by_cases c:a=Pt
 ·subst c;rw[we,T]
 ·rw[xc c]
theorem lk_dn{a:Addr}{o:Obj}(e:K.lookup a=some o)(n:o.cls≠.none):(lessK Pt K).lookup a=some o:=by
 rw[xc ?_]
 ·exact e
 ·rintro rfl;rw[T] at e;cases e;exact n rfl
theorem code_dn{cd:Value}{q:Str}(e:PySem.W.codeIn K cd q=true):PySem.W.codeIn (lessK Pt K) cd q=true:=by
 unfold PySem.W.codeIn at e ⊢;split at e
 ·rename_i c;by_cases d:c=Pt
  ·subst d;rw[T] at e;simp at e
  ·rw[xc d];exact e
 ·cases e
theorem RW :PySem.W.ownIn (lessK Pt K) x v=PySem.W.ownIn K x v:=by
 unfold PySem.W.ownIn;split
 ·rfl
 ·rename_i a;by_cases d:a=Pt
  ·subst d;rw[we,T]
  ·rw[xc d];split
   ·exact ns_dn T rfl
   ·rfl
 ·rfl
theorem si{x:Str}:∀l:List Value,PySem.W.alongIn (lessK Pt K) x l=PySem.W.alongIn K x l
 |[]=>rfl
 |c::r=>by unfold PySem.W.alongIn;rw[RW T,si r]
theorem find_dn :PySem.W.findIn (lessK Pt K) v x=PySem.W.findIn K v x:=by
 unfold PySem.W.findIn;split
 ·rfl
 ·rename_i a;by_cases d:a=Pt
  ·subst d;rw[we,T]
  ·rw[xc d];split
   ·exact si T _
   ·rfl
 ·rfl
theorem m9{a:Addr}(n:a≠Pt):PySem.W.specialIn (lessK Pt K) (.ref a) x=PySem.W.specialIn K (.ref a) x:=by unfold PySem.W.specialIn PySem.W.typeIn;dsimp only;rw[xc n];congr 1;funext t;exact find_dn T
theorem keep_dn{f:Value}(e:PySem.W.keepIn K f=true):PySem.W.keepIn (lessK Pt K) f=true:=by
 unfold PySem.W.keepIn at e ⊢;split at e
 ·rename_i a;by_cases d:a=Pt
  ·subst d;rw[T] at e;simp at e
  ·rw[xc d,m9 T d];exact e
 ·cases e
end
theorem zG{P:Program}{w:World}{K:Aj}{mb:Str->Option Value}{CX:y4}{k:Nat}{a:Addr}{sp:Sp}{I:Shared}{T:List Int}
 (KX:K.In I.heap) (TI:Jl K Pt) (a0:I.heap.Ns mainGlobals mg) (hb:I.heap.Ns builtinsNs mb) (ab:∀x:Str,x ≠ "__name__" -> mb x=bootBuiltins x) (a1:I.heap.NoLimit) (hg:I.gens=#[]) (ac:0<I.toks)
 (p:I.heap.get? a=some { cls:=.type "list",data:=.seq vs.toArray }) (hi:IntsAre vs T) (hl:T.length<=sizeLine) (hr:vo k callerA)
 (F:∀base:Heap,(lessK Pt K).In base->base.Ns mainGlobals mg->bG P w (lessK Pt K) mg base CX k fa fd [x] sp) (l:∀(s:Shared) (u:Value),BindsTo s fd ⟨[u],[]⟩ [(x,u)])
 (al:∀H:Hp,H Pt=some (.tbl #[])->(H a=none\/∃o xs,H a=some (.frz o<|.lst xs))->wr (lessK Pt K) H a (T.map V.int)->sp [.ref a] H (λv _=>v=.bl true) λ_ _ _=>False)
 (au:∀H e s',CX [] H I (λ_ _ _=>False) e s'->False):
 codeAny (model P w) callerA (.call (.ref fa) ⟨[.ref a],[]⟩) (λr s'=>r=.ok (.ret<|.bool true)/\OldK I.heap s'.heap/\s'.os=I.os/\AllBare s'.gens) I:=by
 have rv:=oZ hi;have a2:=hi.length;have hP:I.heap.get? Pt=some (PySem.W.tabObj #[]):=KX Pt _ TI.tab;have U:a≠Pt:=λz=>by rw[z,hP] at p;cases p
 have core:∀H:Hp,H Pt=some (.tbl #[])->(∀b,b≠a->b≠Pt->H b=none)->(H a=none\/∃o xs,H a=some (.frz o<|.lst xs))->wr (lessK Pt K) H a (T.map V.int)->(∀u,H a=some u->xu P w H I.heap a u)->(H a≠none->K.lookup a=none)->
  codeAny (model P w) callerA (.call (.ref fa) ⟨[.ref a],[]⟩) (λr s'=>r=.ok (.ret<|.bool true)/\OldK I.heap s'.heap/\s'.os=I.os/\AllBare s'.gens) I:=by
  intro H HP Hn HO HS a3 av;have a4:fb P w H I.heap:=λb u e=>by
   by_cases c:b=a
   ·subst c;exact a3 u e
   ·by_cases d:b=Pt
    ·subst d;rw[HP] at e;cases e;exact hP
    ·rw[Hn b c d] at e;cases e
  have J:∀{b:Addr} {o:Obj},I.heap.get? b=some o->H b=none->(qT I.heap H).get? b=some o:=λe n=>Lw e n;have aL:∀{b:Addr} {o:Obj} {t:Array DictEntry} {C:Nat},I.heap.get? b=some o->o.data=.dict t C->H b=none:=λ{b o t C} e d=>by
   refine Hn b (λz=>?_) λz=>?_
   ·subst z;rw[p] at e;cases e;have d':Data.seq vs.toArray _=Data.dict t C:=d;cases d'
   ·subst z;rw[hP] at e;cases e;have d':Data.fields _=Data.dict t C:=d;cases d'
  have g:∀{b:Addr} {m:Str->Option Value},I.heap.Ns b m->(qT I.heap H).Ns b m:=λ{b m} ψ=>(by obtain⟨o,t,C,e,d,r⟩:=ψ;exact ⟨o,t,C,J e<|aL e d,d,r⟩);have a5:(lessK Pt K).In (qT I.heap H):=λb o e=>by
   obtain⟨n,e⟩:=mN e;refine J (KX b o e) ?_;by_cases c:b=a
   ·subst c;cases q:H b with|none=>rfl|some u=>rw[av (by rw[q];simp)] at e;cases e
   ·exact Hn b c n
  have hM:Mod (lessK Pt K) mg (qT I.heap H):=⟨a5,g a0,⟨mb,g hb,ab⟩,let ⟨mc,h1,h2⟩:=a1;⟨mc,g h1,h2⟩⟩;have e0:u4 P w (lessK Pt K) mg (qT I.heap H) callerA [] I H:=⟨rfl,hM,λb o e=>Lx e,El<|Lv _ _,trivial,λb hb=>absurd (show b∈([]:List Addr) from hb) (by simp),a4,.of_eq hg,ac⟩;refine codeAny_mono ((F _ a5<|g a0).run callerA [] I H ⟨[.ref a],[]⟩ [.ref a] [.ref a] _ _ hr e0 (l I<|.ref a) (.cons rfl .nil)<|al H HP HO HS) λr s' h=>?_;cases r with
  |error e=>exact(au H e s' h).elim
  |ok fl=>
   cases fl with
   |next=>exact False.elim h
   |brk=>exact False.elim h
   |cont=>exact False.elim h
   |ret u=>
    obtain⟨v,H',os,bare,un,j,r',q,_⟩:=h;have q':v=.bl true:=q;subst q';obtain rfl:u=Value.bool true:=r';obtain⟨more,em⟩:=un.tbls Pt _ HP;have gP:s'.heap.get? Pt=some (PySem.W.tabObj<|#[]++more):=j Pt _ em;have kp:∀b o,b≠Pt->I.heap.get? b=some o->s'.heap.get? b=some o:=λb o n e=>by
     have a7:H b=none->s'.heap.get? b=some o:=λz=>un.keep b o e z (by intro z;exact absurd (show b∈([]:List Addr) from z) (by simp)) (by simp);by_cases c:b=a
     ·subst c;rcases HO with z|⟨ob,xs,z⟩
      ·exact a7 z
      ·have z2:=un.frzs _ _ _ z;obtain⟨e1,_⟩:=a4 _ _ z;obtain⟨e2,_⟩:=j _ _ z2;rw[e] at e1;cases e1;exact e2
     ·exact a7<|Hn b c n
    obtain⟨c,hc⟩:=TI.hd;refine⟨rfl,⟨λb o e=>?_,λb o e=>?_⟩,os,bare⟩
    ·by_cases n:b=Pt
     ·subst n;rw[hP] at e;cases e;exact .inr<|.inl ⟨((hc _ KX).tab hP).isCodeTable,rfl,#[],more,rfl,gP⟩
     ·exact .inl<|kp b o n e
    ·by_cases n:b=Pt
     ·subst n;exact⟨_,gP⟩
     ·exact⟨o,kp b o n e⟩
 cases hk:K.lookup a with
 |some o=>
  have e:=KX a o hk;rw[p] at e;cases e;refine core (λb=>if b=Pt then some (.tbl #[]) else none) (AC rfl) (λb _ n=>AB n) (.inl<|AB U) (.inr ⟨_,vs.toArray,_,(xc U K).trans hk,rfl,rfl,rfl,by rw[Ar,a2];exact hl,by simpa using rv⟩) (λu z=>by have z':=(AB U).symm.trans z;cases z') λz=>absurd (AB U) z
 |none=>
  refine core (λb=>if b=a then some (.frz { cls:=.type "list",data:=.seq vs.toArray }<|.lst<|T.map V.int) else if b=Pt then some (.tbl #[]) else none) ((AB<|A4 U).trans<|AC rfl) (λb n1 n2=>(AB n1).trans<|AB n2) (.inr ⟨_,_,AC rfl⟩) (.inl<|.inr ⟨_,AC rfl⟩) (λu z=>?_) λ_=>hk;have z':=(AC rfl).symm.trans z;cases z';exact⟨p,by rw[Ah];exact hl,vs,_,rv,p⟩
theorem walk_ofZT{l:PySem.W.OpenLaw}{k:Nat}{q:Program}{loose:List Str}{XP:(Str->Option Value)->Heap->Prop}{as0:List Addr}{N t:Nat}{d:DefRec}{K:Params->Aj}{CX:y4}{sp:Aj->Addr->Sp}
 (hn:l.most=some n) (r:n<=sizeLine) (C:d.params.defaults=[]) (hr:vo k callerA) (ek:∀P,as0=(K P).map (·.1)) (a0:0<t)
 (F:∀(w:World) (mg:Str->Option Value) (fa:Addr) (h:Heap),(K w.params).In h->h.Ns mainGlobals mg->mg d.name=some (.ref fa)->
  ∃Pt:Addr,Jl (K w.params) Pt/\∃fd:FuncData,(∀(s:Shared) (u:Value),BindsTo s fd ⟨[u],[]⟩ [(x,u)])/\
   ∀base:Heap,(lessK Pt<|K w.params).In base->base.Ns mainGlobals mg->bG l.prog w (lessK Pt<|K w.params) mg base CX k fa fd [x] (sp (lessK Pt<|K w.params) Pt))
 (a1:∀(K:Aj) (Pt:Addr) (H:Hp) (a:Addr) (p:List Int),p.length<=n->H Pt=some (.tbl #[])->(H a=none\/∃o xs,H a=some (.frz o<|.lst xs))->wr K H a (p.map V.int)->sp K Pt [.ref a] H (λv _=>v=.bl true) λ_ _ _=>False)
 (a2:∀(H:Hp) (s:Shared) (e:Value) (s':Shared),CX [] H s (λ_ _ _=>False) e s'->False):
 PySem.W.WalkX q loose XP (PySem.W.X.obsZ as0) (PySem.W.X.valZ K N t) l.row.toRowW d [] (λf vs=>PySem.call f vs):=by
 refine Att.attach_callZ hn C ek a0 λw a4 U mg mb fa o pm cd a5 a vs p G KX tk ho hd a7 a3 j J I hg=>?_;obtain⟨Pt,TI,fd,hb,hF⟩:=F w mg fa _ KX G.T.g a3;exact zG KX TI G.T.g G.T.b G.T.builtins G.T.nolimit hg tk j J (AN I r) hr hF hb (λH hP hO hS=>a1 _ Pt H a p I hP hO hS) λH e s'=>a2 H U e s'
end L2
namespace L3
open PySem L2
theorem top_startT{q:Str}:∀(K:Aj) (Pt:Addr) (H:Hp) (a:Addr) (I:List Int),I.length<=63->H Pt=some (.tbl #[])->(H a=none\/∃o xs,H a=some (.frz o<|.lst xs))->wr K H a (I.map V.int)->spTopT q K Pt [.ref a] H (λv _=>v=.bl true) λ_ _ _=>False:=by
 intro K Pt H a I J U g j;refine⟨a,I,rfl,?_,J,U,λ_=>rfl⟩;rcases j with(h|⟨o,h⟩)|h
 ·rcases g with z|⟨o,xs,z⟩<;>rw[h] at z<;>cases z
 ·exact .inl ⟨o,h⟩
 ·exact .inr h
structure DefInT(K:Aj)(x:Str)(st:Stmt)(Pt:Addr):Prop where
 ex:∃(f:Addr) (kV hE pm:Value) (an:Option Addr) (eK ct:Value),PySem.W.nsIn K mainGlobals x=some (some<|.ref f)/\Gk K x x st f (PySem.W.fnOf x x (jy st) (j7 st) (qo st) .none kV hE pm an eK ct) Pt
theorem DefInT.use{K:Aj}(D:DefInT K x st Pt)(X:K.In h)(G:h.Ns mainGlobals mg)
 (I:∀(kV hE pm:Value) (an:Option Addr) (eK ct:Value) (us:List Value),us.length=ps.length->bindArgs (PySem.W.fnOf x x (jy st) (j7 st) (qo st) .none kV hE pm an eK ct) ⟨us,[]⟩=pure (ps.zip us)):
 ∃f fd,Gk K x x st f fd Pt/\aB K fd ps []/\mg x=some (.ref f):=by
 obtain⟨f,kV,hE,pm,an,eK,ct,a,F⟩:=D.ex;exact⟨f,_,F,.all<|I kV hE pm an eK ct,C3 X G a⟩
end L3
namespace L2
open PySem PySem.Spec PyProof.Rows
section
variable {ir:St}
theorem z8.ren(M:List Str)(I:z8 X pins σ H s)(J:M.length=X.N.length)(hs:ir.length=σ.length)(h:∀(j:Nat) v,ir[j]?=some (some v)->σ[j]?=some (some v)/\X.N[j]?=M[j]?):z8 { X with N:=M } pins ir H s:=by obtain⟨m,U,l⟩:=I.loc;have o:=I.ok;exact { ok:=⟨o.mod,o.kind,o.glob,o.blt,o.above,o.inj,o.has,o.cab,o.hd,o.frames,o.stk,o.exf,o.bs,o.bsz,o.noex,o.exfs,o.funs,o.frf⟩,os:=I.os,bare:=I.bare,base:=I.base,cell:=I.cell,free:=I.free,freeC:=I.freeC,pin:=I.pin,hok:=I.hok,tk:=I.tk,len:=(by rw[hs,I.len];exact J.symm),loc:=⟨m,U,λi x v g p r=>by obtain⟨a,b⟩:=h i v p;exact l i x v (b.trans g) a r⟩ }
theorem tZ{v:V}(h:(σ.set i none)[j]?=some (some v)):j≠i/\σ[j]?=some (some v):=by
 by_cases c:i=j
 ·subst c;rw[List.getElem?_set_self'] at h;cases e:σ[i]? with|none=>rw[e] at h;cases h|some o=>rw[e] at h;cases h
 ·rw[Bi c] at h;exact⟨A4 c,h⟩
def RX(i:Nat)(t:TS):TS:=λD σ H=>t { nx:=λir H'=>D.nx (ir.set i none) H',rt:=D.rt,bk:=λir H'=>D.bk (ir.set i none) H',ct:=λir H'=>D.ct (ir.set i none) H' } (σ.set i none) H
theorem RY{t:TS}(h:PS { X with N:=X.N.set i x } st t):PS X st (RX i t):=by
 intro g s p H D I z;have C:z8 { X with N:=X.N.set i x } g (p.set i none) H s:=I.ren _ (by rw[Bm]) (by rw[Bm]) λj v e=>by obtain⟨a,b⟩:=tZ e;exact⟨b,by rw[Bi<|A4 a]⟩
 refine aT (h g s _ H _ C z) λf o q=>?_;have back:∀{U:St} {l:Hp},z8 { X with N:=X.N.set i x } g U l o->z8 X g (U.set i none) l o:=λ{U l} J=>
  z8.ren (X:={ X with N:=X.N.set i x }) X.N J (by show X.N.length=(X.N.set i x).length;rw[Bm]) (by rw[Bm]) λj v e=>by obtain⟨a,b⟩:=tZ e;exact⟨b,by show(X.N.set i x)[j]?=_;rw[Bi<|A4 a]⟩
 cases f with
 |next=>obtain⟨U,l,J,q⟩:=q;exact⟨_,l,back J,q⟩
 |brk=>obtain⟨U,l,J,q⟩:=q;exact⟨_,l,back J,q⟩
 |cont=>obtain⟨U,l,J,q⟩:=q;exact⟨_,l,back J,q⟩
 |ret u=>obtain⟨v,U,l,J,r,q⟩:=q;exact⟨v,_,l,back J,r,q⟩
end
end L2
namespace L3
open PySem L2
def gm:jm->Nat->jm
 |[],_=>[]
 |_::r,0=>none::r
 |o::r,i+1=>o::gm r i
theorem t7:∀(τ:jm) (i:Nat),gm τ i=τ.set i none
 |[],_=>rfl
 |_::_,0=>rfl
 |o::r,i+1=>by unfold gm;rw[t7 r i];rfl
def Jm(i:Nat)(t:kh)(D:xw)(τ:jm)(L:ql):Prop:=t { nx:=λI L'=>D.nx (gm I i) L',rt:=D.rt,bk:=λI L'=>D.bk (gm I i) L',ct:=λI L'=>D.ct (gm I i) L' } (gm τ i) L
theorem xx.forget(h:xx G H σ τ)(i:Nat):xx G H (σ.set i none) (gm τ i):=by
 rw[t7];refine⟨by rw[Bm,Bm];exact h.len,λj y e=>?_⟩;by_cases c:i=j
 ·subst c;rw[List.getElem?_set_self'] at e;cases I:τ[i]? with|none=>rw[I] at e;cases e|some o=>rw[I] at e;cases e
 ·rw[Bi c] at e ⊢;exact h.get j y e
theorem RZ(x:Str){t:kh}(h:QS { X with N:=X.N.set i x } st t):QS X st (Jm i t):=
 EU (RY h) λD T H p L D3 r C z k=>⟨gm p i,L,_,r.forget i,C,z,
  ⟨λU g j l o I J q=>k.nx _ g _ l o (I.forget i) J q,k.rt,λU g j l o I J q=>k.bk _ g _ l o (I.forget i) J q,λU g j l o I J q=>k.ct _ g _ l o (I.forget i) J q⟩⟩
theorem R4:bootBuiltins "min"=some (.builtin "min"):=by decide +kernel
def R5(x:Y)(lo hi:Option Int)(L:ql)(Q:YK):Prop:=match x with
 |.tup ys=>¬(HT.sIx ys.length 0 lo=0/\HT.sIx ys.length ys.length hi=ys.length)/\Q (.tup<|gH ys lo hi) L
 |_=>False
theorem uE(K:Aj)(P:Program)(w:World)(U:X.K=K:=by rfl)(g:X.prog=P:=by rfl)(hw:X.w=w:=by rfl):rD X (Fm ⟨K,P,w⟩ R5):=by
 subst U g hw;refine rD.imp NS λx lo J H Q ψ=>?_;obtain⟨y,L,Q3,j,l,z,k⟩:=ψ;cases y with
 |tup o=>
  obtain⟨a,t,e,sq,r⟩:=j;obtain⟨C,T⟩:=z;exact⟨a,t,e,sq,by rw[<-r.length];exact C,λp I=>k _ _ (.tup<|gH o lo J) L (EN I) (l.skip I) ⟨p,_,rfl,.inl<|.inl zq,(oh r lo J).ts<|EN I⟩ T⟩
 |_=>exact z.elim
theorem wG{a:Addr}{keep:ql->Prop}(h:∀H L,j5 H₀ H->j6 G H L->keep L->∃xs,cT G.K H a xs/\xj G H ys xs):fj G H₀ (FJ G.K a) ys keep where
 go:=λi H L t I J U=>by
  obtain⟨xs,sq,r⟩:=h H L t I J;have:i<xs.length:=by rw[<-r.length];exact U
  exact⟨xs,xs[i],sq,Al this⟩
 yld:=λi H L x o y t I J g ψ=>by obtain⟨e,f⟩:=ψ;subst e;obtain⟨xs,sq,r⟩:=h _ L t I J;obtain⟨p,j,l⟩:=r.get g;have:=f xs sq;rw[j] at this;cases this;exact⟨EM _,I,l⟩
 stop:=λH L t I J=>by obtain⟨xs,sq,r⟩:=h H L t I J;exact⟨xs,sq,by rw[r.length];exact Ap _⟩
theorem vC(h:QE X e te):QI X tg e (O0 te):=PI.imq (Mz h) λσ H R j L R3 l o z k=>by
 refine⟨j,L,_,l,o,z,λv p y C T I J U=>?_⟩;cases y with
 |tup ys=>
  obtain⟨a,g,e,sq,r⟩:=J;exact⟨a,e,⟨g,sq⟩,k _ p ys (λ_=>True) C T I (wG λH L t _ _=>⟨g,cT.ts sq t,r.ts t⟩) U⟩
 |_=>exact U.elim
theorem R6{k:Nat}(I:vo k A):A.depth+3<recursionLimit:=by have:=I.dp;omega
abbrev lamQ:Str:="_law_order.<locals>.<lambda>"
open PySem L2 Words
def jQ(ks:List<|Option Kn):Prop:=∀(p:Nat) (e:Bool) (i j:Nat),ks[p]?=some (some<|.nd e i j)->i<p/\j<p
def yD(ks:List<|Option Kn)(rks:List Int):Prop:=∀(p:Nat) (e:Bool) (i j:Nat),p<rks.length->ks[p]?=some (some<|.nd e i j)->rks.getD i 0<rks.getD p 0/\rks.getD j 0<rks.getD p 0
theorem mS{r:Int}(h:i<rks.length):(rks++[r]).getD i 0=rks.getD i 0:=by rw[Bv,Bv,AJ h]
theorem R7{r:Int}:(rks++[r]).getD rks.length 0=r:=by rw[Bv,Ax<|Ap _,Dy];rfl
theorem yD.snoc{ks:List<|Option Kn}{r:Int}{k:Option Kn}(ok:jQ ks)(h:yD ks rks)(U:ks[rks.length]?=some k)(g:∀e i j,k=some (.nd e i j)->rks.getD i 0<r/\rks.getD j 0<r):yD ks (rks++[r]):=by
 intro p e i j I J;obtain⟨l,o⟩:=ok p e i j J;rw[Ad] at I;have I:p<rks.length+1:=I;rw[mS (show i<rks.length by lia),mS (show j<rks.length by lia)];by_cases c:p<rks.length
 ·rw[mS c];exact h p e i j c J
 ·have:p=rks.length:=by lia
  subst this;rw[R7];exact g e i j<|AO<|U.symm.trans J
def dD(ks:List<|Option Kn)(qs:List Nat):Prop:=qs.Pairwise λx y=>∀e i j,ks[x]?=some (some<|.nd e i j)->y≠i/\y≠j
theorem R8{ks:List<|Option Kn}(ok:jQ ks)(h:yD ks rks)(I:rks.length=ks.length)(hw:qs.Pairwise λi j=>rks.getD i 0*1000000+(i:Int)<=rks.getD j 0*1000000+(j:Int)):dD ks qs:=by refine hw.imp λ{x y} z e i j ex=>?_;obtain⟨J,U⟩:=ok x e i j ex;obtain⟨g,l⟩:=h x e i j (by rw[I];exact zd ex) ex;exact⟨λc=>by subst c;lia,λc=>by subst c;lia⟩
theorem rF(h:i<rks.length):(rks.map Y.int)[i]?=some (.int<|rks.getD i 0):=by rw[Aq,Bv,Al h];rfl
theorem aD(a:j9)(b:Y)(r:List<|j9×Y)(k:j9):km ((a,b)::r) k=if a=k then some b else km r k:=by
 unfold km;rw[BB];by_cases h:a=k
 ·rw[AC h,show decide ((a,b).1=k)=true from Av h];rfl
 ·rw[AB h,show decide ((a,b).1=k)=false from Au h]
theorem uC(k J:j9)(y:Y):∀kvs:List (j9×Y),km (kvs.map λU=>if U.1=k then(U.1,y) else U) J=if J=k then(km kvs J).map (λ_=>y) else km kvs J
 |[]=>by rw[Dh];split<;>rfl
 |(a,b)::r=>by
  have g:=uC k J y r;rw[AG,aD];by_cases h:a=k
  ·rw[AC<|show(a,b).1=k from h,aD,g];by_cases I:J=k
   ·rw[AC I,AC I,AC<|h.trans I.symm,AC<|h.trans I.symm];rfl
   ·rw[AB I,AB I,AB λz=>I<|z.symm.trans h,AB λz=>I<|z.symm.trans h]
  ·rw[AB<|show ¬(a,b).1=k from h,aD,g];by_cases I:J=k
   ·rw[AC I,AC I,AB λz=>h<|z.trans I,AB λz=>h<|z.trans I]
   ·rw[AB I,AB I]
theorem rp(k I:j9)(y:Y):∀kvs:List (j9×Y),km (kvs++[(k,y)]) I=(km kvs I).or (if k=I then some y else none)
 |[]=>by rw[Ci,aD];have:km [] I=none:=rfl;rw[this];split<;>rfl
 |(a,b)::r=>by rw[List.cons_append,aD,aD,rp k I y r];split<;>rfl
theorem tT(k:j9):∀kvs:List (j9×Y),(kvs.any λI=>decide<|I.1=k)=(km kvs k).isSome
 |[]=>rfl
 |(a,b)::r=>by
  rw[Cn,aD,tT k r];by_cases h:a=k
  ·rw[AC h,show decide ((a,b).1=k)=true from Av h];rfl
  ·rw[AB h,show decide ((a,b).1=k)=false from Au h];rfl
theorem tH(kvs:List<|j9×Y)(k I:j9)(y:Y):km (mJ kvs k y) I=if I=k then some y else km kvs I:=by
 unfold mJ;rw[tT];cases e:km kvs k with
 |some v=>
  rw[AC<|show(some v).isSome=true from rfl,uC];by_cases h:I=k
  ·rw[AC h,AC h,h,e];rfl
  ·rw[AB h,AB h]
 |none=>
  rw[AB (by simp),rp];by_cases h:I=k
  ·rw[AC h,h,e,AC rfl];rfl
  ·rw[AB h,AB λz=>h z.symm];cases km kvs I<;>rfl
theorem sR(kvs:List<|j9×Y)(k:j9)(y:Y):(mJ kvs k y).length<=kvs.length+1:=by
 unfold mJ;split
 ·rw[Ah];omega
 ·rw[Ad];simp
def hX(f:Nat->Nat):Option Kn->Option Kn
 |some (.nd e i j)=>some<|.nd e (f i)<|f j
 |k=>k
theorem uV{g:Nat->Nat}:∀{k:Option Kn},(∀e i j,k=some (.nd e i j)->f i=g i/\f j=g j)->hX f k=hX g k
 |none,_=>rfl
 |some (.lf _ _),_=>rfl
 |some (.nd e i j),h=>by obtain⟨a,b⟩:=h e i j rfl;show some (Kn.nd e (f i)<|f j)=some (Kn.nd e (g i)<|g j);rw[a,b]
structure uq(ks:List<|Option Kn)(ps:List Nat)(f:Nat->Nat)(wd:List<|Option Kn):Prop where
 at_:∀p∈ps,∀k,ks[p]?=some k->wd[f p]?=some (hX f k)
 inj:∀p∈ps,∀q∈ps,f p=f q->p=q
 only:∀x k,wd[x]?=some (some k)->∃p∈ps,x=f p
 ok:jQ wd
theorem uq.nil(ks:List<|Option Kn)(f:Nat->Nat):uq ks [] f []:=⟨λp I=>(Cy I).elim,λp I=>(Cy I).elim,λx k h=>(by simp at h),λp e i j h=>(by simp at h)⟩
theorem jQ.gap(h:jQ wd):jQ (wd++[none]):=by
 intro p e i j I;by_cases c:p<wd.length
 ·rw[AJ c] at I;exact h p e i j I
 ·rw[Ax (by exact yJ)] at I;cases J:p-wd.length with|zero=>rw[J] at I;cases I|succ m=>rw[J] at I;cases I
theorem uq.gap{ks:List<|Option Kn}{ps:List Nat}(h:uq ks ps f wd):uq ks ps f (wd++[none]):=by
 refine⟨λp U k g=>iM<|h.at_ p U k g,h.inj,λx k I=>?_,h.ok.gap⟩;by_cases c:x<wd.length
 ·rw[AJ c] at I;exact h.only x k I
 ·rw[Ax (by lia)] at I;cases J:x-wd.length with|zero=>rw[J] at I;cases I|succ m=>rw[J] at I;cases I
theorem uq.lt{ks:List<|Option Kn}{ps:List Nat}(h:uq ks ps f wd)(hp:p∈ps)(I:p<ks.length):f p<wd.length:=zd<|h.at_ p hp _<|Al I
theorem uq.step{ks:List<|Option Kn}{ps:List Nat}(h:uq ks ps f wd)(r:∀p∈ps,p<ks.length){k:Option Kn}(hp:p∉ps)(C:ks[p]?=some k)(o:∀x∈ps,∀e i j,ks[x]?=some (some<|.nd e i j)->i∈ps/\j∈ps)(J:∀e i j,k=some (.nd e i j)->i∈ps/\j∈ps):
 uq ks (ps++[p]) (λx=>if x=p then wd.length else f x) (wd++[hX f k]):=by
 have old:∀x∈ps,(if x=p then wd.length else f x)=f x:=λx I=>AB λ(c:x=p)=>hp<|c▸I;have ren:∀l,(∀e i j,l=some (.nd e i j)->i∈ps/\j∈ps)->hX (λx=>if x=p then wd.length else f x) l=hX f l:=λl U=>uV λe i j z=>by obtain⟨a,b⟩:=U e i j z;exact⟨old i a,old j b⟩
 refine⟨λx I l U=>?_,λx I y g e=>?_,λx l I=>?_,λx e i j I=>?_⟩
 ·rcases Ag.mp I with I|I
  ·show(wd++[hX f k])[if x=p then wd.length else f x]?=_;rw[old x I,ren l λe i j z=>o x I e i j (by rw[U,z])];exact iM<|h.at_ x I l U
  ·have I:=Am.mp I;subst I;rw[C] at U;cases U;show(wd++[hX f k])[if x=x then wd.length else f x]?=_;rw[AC rfl,ren k J];exact eQ wd _ []
 ·have e:(if x=p then wd.length else f x)=if y=p then wd.length else f y:=e
  rcases Ag.mp I with I|I<;>rcases Ag.mp g with g|g
  ·rw[old x I,old y g] at e;exact h.inj x I y g e
  ·cases Am.mp g;rw[old x I,AC rfl] at e;have:=h.lt I<|r x I;lia
  ·cases Am.mp I;rw[old y g,AC rfl] at e;have:=h.lt g<|r y g;lia
  ·rw[Am.mp I,Am.mp g]
 ·by_cases c:x<wd.length
  ·rw[AJ c] at I;obtain⟨q,t,e⟩:=h.only x l I;exact⟨q,Ai _ t,by rw[e];exact(old q t).symm⟩
  ·refine⟨p,Ae _<|Am.mpr rfl,?_⟩;have:=zd I;rw[Ad] at this;have:x<wd.length+1:=this;show x=if p=p then wd.length else f p
   rw[AC rfl];lia
 ·by_cases c:x<wd.length
  ·rw[AJ c] at I;exact h.ok x e i j I
  ·have:=zd I;rw[Ad] at this;have:x<wd.length+1:=this;have:x=wd.length:=by lia
   subst this;rw[Ax<|Ap _,Dy] at I;have I:hX f k=some (.nd e i j):=AO I;cases k with
   |none=>cases I
   |some k=>
    cases k with
    |lf=>cases I
    |nd T i' j'=>
     obtain⟨a,b⟩:=J T i' j' rfl;cases I;exact⟨h.lt a<|r _ a,h.lt b<|r _ b⟩
theorem lz{ks:List<|Option Kn}(ok:jQ ks)(pm:qs.Perm<|List.range ks.length)(U:dD ks qs)(hp:qs[n]?=some p){e:Bool}(h:ks[p]?=some (some<|.nd e i j)):i∈qs.take n/\j∈qs.take n:=by
 obtain⟨C,T⟩:=ok p e i j h;have hl:=zd h;have o:=zd hp;have ind:∀x,x<ks.length->x≠p->(∀y∈qs.drop (n+1),y≠x)->x∈qs.take n:=λx t ne g=>by
  have I:x∈qs:=pm.mem_iff.mpr<|AL.mpr t;have l:qs=qs.take n++p::qs.drop (n+1):=by rw[Al o] at hp;rw[<-AO hp,CA,Be]
  rw[l] at I;rcases Ag.mp I with I|I
  ·exact I
  ·rcases Ao.mp I with I|I
   ·exact absurd I ne
   ·exact absurd rfl<|g x I
 have r:∀y∈qs.drop (n+1),y≠i/\y≠j:=λy J=>by
  have l:qs=qs.take n++p::qs.drop (n+1):=by rw[Al o] at hp;rw[<-AO hp,CA,Be]
  unfold dD at U;rw[l] at U;have:=(AW.mp U).2.1;exact(List.pairwise_cons.mp this).1 y J e i j h
 exact⟨ind i (by exact qR) (by exact Hv) λy J=>(r y J).1,ind j (by exact qR) (by exact Hv) λy J=>(r y J).2⟩
def nu(p q:Nat×Nat):Prop:=p.1<q.1\/(p.1=q.1/\p.2<=q.2)
def tF(p:Nat×Nat):Int×Int:=((p.1:Int),(p.2:Int))
theorem zX{p q:Nat×Nat}(h:tF p=tF q):p=q:=by obtain⟨a,b⟩:=p;obtain⟨c,d⟩:=q;have I:(a:Int)=c:=BL Prod.fst h;have J:(b:Int)=d:=BL Prod.snd h;rw[Cp.mp I,Cp.mp J]
theorem uF(ps:List<|Nat×Nat):qp ps=(ps.map tF).map Es:=by rw[B5];rfl
theorem Jn{a:Addr}{ps:List<|Nat×Nat}{Q:YK}(U:L a=some (.lst<|qp ps))(g:∀p∈ps,p.2<1000000)(nd:ps.Nodup)(j:ps.length<=127)
 (q:∀D qs,L D=none->qs.Perm ps->qs.Pairwise nu->Q (.ref D) (qe L D<|.lst<|qp qs)):l5 [.ref a] L Q:=by
 refine qr U ⟨ps.map tF,uF ps,λp l=>?_,?_,by rw[Ah];exact j,λD qs o pm t=>?_⟩
 ·obtain⟨r,C,rfl⟩:=Bt.mp l;have:=g r C;exact⟨AU _,by show((r.2:Nat):Int)<1000000;omega⟩
 ·exact tU (λx _ y _ e=>zX e) nd
 ·obtain⟨T,pT,rfl⟩:=o7 tF pm rfl;rw[<-uF];refine q D T o pT<|(B0.mp t).imp λ{x y} z=>?_;unfold nu;rcases z with z|⟨I,J⟩
  ·left;have z:((x.1:Nat):Int)<y.1:=z;lia
  ·right;have I:((x.1:Nat):Int)=y.1:=I;have J:((x.2:Nat):Int)<=y.2:=J;exact⟨by lia,by lia⟩
structure oq(L0:ql)(ks:List<|Option Kn)(qs:List Nat)(d w D:Addr)(i ex:Nat)(f:Nat->Nat)(wd:List<|Option Kn)(kvs:List<|j9×Y)(L:ql):Prop where
 sub:qg L0 L
 hd:L d=some (.dct kvs)
 hw:L w=some (.lst<|x4 wd)
 hD:L D=some (.lst<|nY qs)
 len:kvs.length<=i
 val:∀p:Nat,km kvs (.inl (p:Int))=if p∈qs.take i then some (.int (f p:Int)) else none
 gap:uq ks (qs.take i) f wd
 wlen:wd.length<=2*i+ex
def Jo(f:Nat->Nat)(p:Nat×Nat):Nat×Nat:=(min (f p.1)<|f p.2,max (f p.1)<|f p.2)
def Jp(f:Nat->Nat)(p:Nat×Nat):Nat×Nat:=(f p.1,f p.2)
structure tO(f:Nat->Nat)(ks wd:List<|Option Kn):Prop where
 gap:uq ks (List.range ks.length) f wd
 len:wd.length<=2*ks.length+1
theorem sw(wd:List<|Option Kn)(k:Option Kn):x4 wd++[aX k]=x4 (wd++[k]):=by unfold x4;rw[AD];rfl
theorem ku(wd:List<|Option Kn):(x4 wd).length=wd.length:=Ah ..
theorem oq.wide{ks:List<|Option Kn}{w:Addr}{ex ex':Nat}(G:oq L0 ks qs d w D i ex f wd kvs L)(U:L0 w=none)(I:d≠w)(J:w≠D)(g:uq ks (qs.take i) f wd')(h:wd'.length<=2*i+ex'):
 oq L0 ks qs d w D i ex' f wd' kvs (qe L w<|.lst<|x4 wd'):=
 ⟨G.sub.upd U,(qc I).trans G.hd,q9,(qc<|A4 J).trans G.hD,G.len,G.val,g,h⟩
def qt:Ru->List (Nat×Nat)
 |.link p q=>[(p,q)]
 |.ei _ A=>qt A
 |.bo _ A B=>qt A++qt B
 |.cu _ _ A B=>qt A++qt B
def zb:Ru->List (Nat×Nat)
 |.link _ _=>[]
 |.ei _ A=>zb A
 |.bo _ A B=>zb A++zb B
 |.cu p q A B=>(p,q)::(zb A++zb B)
def iC:Ru->Nat
 |.link _ _=>1
 |.ei _ A=>iC A+1
 |.bo _ A B=>iC A+iC B+1
 |.cu _ _ A B=>iC A+iC B+1
def wu:Ru->List Ru
 |.link _ _=>[]
 |.ei _ A=>[A]
 |.bo _ A B=>[A,B]
 |.cu _ _ A B=>[A,B]
def tN:Ru->List (Nat×Nat)
 |.link p q=>[(p,q)]
 |_=>[]
def uT:Ru->List (Nat×Nat)
 |.cu p q _ _=>[(p,q)]
 |_=>[]
theorem vR(A:Ru):qt A=tN A++(wu A).flatMap qt:=by cases A<;>simp[qt,tN,wu]
theorem zC(A:Ru):zb A=uT A++(wu A).flatMap zb:=by cases A<;>simp[zb,uT,wu]
theorem R9(A:Ru):((wu A).map iC).sum+1=iC A:=by cases A<;>simp[iC,wu]
theorem oU{A B:Ru}(h:B∈wu A):v3 B<v3 A:=by cases A<;>simp[wu] at h<;>(try rcases h with rfl|rfl)<;>(try subst h)<;>simp[v3]<;>omega
theorem oO(l:List<|Nat×Nat)(p:Nat×Nat):qp l++[Fu p]=qp (l++[p]):=by unfold qp;rw[AD];rfl
open Classical in
theorem Sa(n:Nat):jN (λ_=>0) (List.range n):=λi h e=>by
 have I:i<n:=by have:=zd e;rwa[A7] at this
 rw[C0 I] at e;cases e;exact⟨by rw[A7];exact I,λz=>absurd rfl z⟩
def zm(lk:List<|Nat×Nat):List Nat:=lk.flatMap λx=>[x.1,x.2]
theorem xt(a b:List<|Nat×Nat):zm (a++b)=zm a++zm b:=by unfold zm;rw[A1]
theorem bH(x:Nat×Nat):zm [x]=[x.1,x.2]:=by simp[zm]
theorem cI(lk:List<|Nat×Nat):(zm lk).length=2*lk.length:=by
 induction lk with
 |nil=>rfl
 |cons x r I=>
  have:=xt [x] r;rw[CI] at this;rw[this,Ad,I,bH,AK];simp;exact Nat.add_comm _ _
def ph:zc:=λys L Q=>∃a,∃lk:List (Nat×Nat),ys=[.ref a]/\L a=some (.lst<|qp lk)/\lk.length<=1000/\∀p,L p=none->Q (.ref p) (qe L p<|.lst<|nY<|zm lk)
theorem Sb:∀ys L Q,ph ys L Q->jw tW 4 ys L Q:=by
 rintro ys L Q ⟨a,lk,rfl,g,t,q⟩;intro p j;have I:a≠p:=aU g j;refine gS (ys:=qp lk) (xn<|(qc I).trans g) (λi J U=>∃c2 c3,J=[some<|.ref a,some<|.ref p,c2,c3]/\U=qe L p (.lst<|nY<|zm<|lk.take i)) ⟨_,_,rfl,rfl⟩ ?_ ?_ ?_
 ·rintro i J U ⟨c2,c3,rfl,rfl⟩;rw[qc I,qc I]
 ·rintro i y J U l ⟨c2,c3,rfl,rfl⟩;rw[Aq] at l;obtain⟨x,ex,rfl⟩:=Aw.mp l;have o:lk.take (i+1)=lk.take i++[x]:=by rw[Bc,ex];rfl
  have r:(nY<|zm<|lk.take i).length<=2000:=by rw[jh,cI,AQ];lia
  refine qb q9<|qr q9 ⟨BA r (by decide),?_⟩;refine qb q9 (qr q9 ⟨BA (by rw[Ad,CF];exact Fi:_<=2001) (by decide),_,EL _,_,_,rfl,?_⟩);rw[zh,zh,o,xt,bH,aW,AA];rfl
 ·rintro J U ⟨c2,c3,rfl,rfl⟩;rw[Ah,A9];exact x0<|q p j
theorem gE{f:Option Kn->Bool}{ks:List<|Option Kn}{k:Option Kn}(h:ks[p]?=some k)(I:f k=true)(hi:p<i):p∈kO f ks i:=by unfold kO;refine Az.mpr ⟨AL.mpr hi,?_⟩;simp only[h];exact I
theorem bQ(m:Nat)(l:List Nat):nJ (bK<|.int (m:Int)) ((nY l).map bK)=decide (m∈l):=by
 induction l with
 |nil=>rfl
 |cons n r I=>
  have e:nJ (bK<|.int (m:Int)) ((nY<|n::r).map bK)=(jT (bK<|.int (n:Int)) (bK<|.int (m:Int))||nJ (bK<|.int (m:Int)) ((nY r).map bK)):=rfl;rw[e,I];have J:jT (bK<|.int (n:Int)) (bK<|.int (m:Int))=decide (n=m):=gd n m;rw[J];by_cases c:n=m
  ·subst c;simp
  ·by_cases d:m∈r
   ·simp[d]
   ·simp[c,d,A4 c]
theorem bU(l:List Nat):(nY l).all fP=true:=by rw[CV];intro y I;obtain⟨n,_,rfl⟩:=Bt.mp I;rfl
theorem sh{c:Nat×Nat}(h:c∈ct):c.1∈zm ct/\c.2∈zm ct:=by
 induction ct with
 |nil=>cases h
 |cons d r I=>
  have e:zm (d::r)=[d.1,d.2]++zm r:=by rw[<-bH,<-xt];rfl
  rw[e];rcases Ao.mp h with rfl|h
  ·simp
  ·obtain⟨a,b⟩:=I h;exact⟨Ae _ a,Ae _ b⟩
theorem dg{x:Nat}(h:x∈zm ct):∃c∈ct,x=c.1\/x=c.2:=by
 induction ct with
 |nil=>cases h
 |cons d r I=>
  have e:zm (d::r)=[d.1,d.2]++zm r:=by rw[<-bH,<-xt];rfl
  rw[e] at h;rcases Ag.mp h with h|h
  ·exact⟨d,Ak ..,by simpa using h⟩
  ·obtain⟨c,J,U⟩:=I h;exact⟨c,Ab _ J,U⟩
def jW(x:Nat×Nat):Da:=.tup [.s<|.int (x.1:Int),.s<|.int (x.2:Int)]
theorem kI(x y:Nat×Nat):Da.eq (jW x) (jW y)=decide (x=y):=by show(decide ((x.1:Int)=(y.1:Int))&&(decide ((x.2:Int)=(y.2:Int))&&true))=_;rw[DS,<-Bool.decide_and];exact Ei.mpr ⟨λ ψ=>(by obtain⟨I,J⟩:=ψ;exact Prod.ext (Cp.mp I)<|Cp.mp J),λh=>by subst h;exact⟨rfl,rfl⟩⟩
theorem uv(x:Nat×Nat):jj L 1 (Fu x) (jW x):=bz<|.cons (EX _)<|.cons (EX _) .nil
theorem rG{L:ql}:∀l:List (Nat×Nat),Paired (jj L 1) (qp l)<|l.map jW
 |[]=>.nil
 |_::r=>.cons (bz<|.cons (EX _)<|.cons (EX _) .nil)<|rG r
structure Sc(ks:List Kn)(lk:List<|Nat×Nat):Prop where
 nd:(zm lk).Nodup
 lt:∀p∈lk,p.1<p.2
 at_:∀p∈lk,∃t n,ks[p.1]?=some (.lf t n)/\ks[p.2]?=some (.lf (!t) n)
theorem jq(c:Nat×Nat)(r:List<|Nat×Nat):zm (c::r)=c.1::c.2::zm r:=by
 have e:zm (c::r)=[c.1,c.2]++zm r:=by rw[<-bH,<-xt];rfl
 rw[e];rfl
theorem i3{l m:List<|Nat×Nat}(h:l.Perm m):(zm l).Perm (zm m):=by
 induction h with
 |nil=>exact .nil
 |cons x _ I=>rw[jq,jq];exact(I.cons _).cons _
 |swap x y l=>
  rw[jq,jq,jq,jq];exact(BE (l₁:=[y.1,y.2]) (l₂:=[x.1,x.2])).append_right (zm l)
 |trans _ _ J U=>exact J.trans U
theorem aH:∀{l:List<|Nat×Nat},(zm l).Nodup->l.Nodup
 |[],_=>CS
 |c::r,h=>by rw[jq] at h;have I:=AH.mp h;have J:=AH.mp I.2;exact AH.mpr ⟨λU=>I.1<|Ab _ (sh U).1,aH J.2⟩
def Ev(a b:Nat):Nat×Nat:=(min a b,max a b)
theorem cO:∀R:Ru,iC R+1<=(qk R).length
 |.link _ _=>Ap _
 |.ei r A=>by have:=cO A;show iC A+1+1<=(r::qk A).length;rw[AK];exact Fi
 |.bo r A B=>by have:=cO A;have:=cO B;show iC A+iC B+1+1<=(r::(qk A++qk B)).length;rw[AK,Ad];lia
 |.cu _ _ A B=>by have:=cO A;have:=cO B;show iC A+iC B+1+1<=(qk A++qk B).length;rw[Ad];lia
theorem aF:∀R:Ru,∃rest,(zm (qt R)++rest).Perm<|qk R
 |.link p q=>⟨[],.refl _⟩
 |.ei r A=>by obtain⟨u,h⟩:=aF A;exact⟨r::u,B7.trans<|h.cons r⟩
 |.bo r A B=>by obtain⟨u,h⟩:=aF A;obtain⟨v,k⟩:=aF B;refine⟨r::(u++v),?_⟩;show(zm (qt A++qt B)++r::(u++v)).Perm (r::(qk A++qk B));rw[xt];refine B7.trans<|List.Perm.cons r ?_;refine List.Perm.trans ?_<|h.append k;rw[AA,AA];refine List.Perm.append_left _ ?_;rw[<-AA,<-AA];exact List.Perm.append_right _ BE
 |.cu p q A B=>by obtain⟨u,h⟩:=aF A;obtain⟨v,k⟩:=aF B;refine⟨u++v,?_⟩;show(zm (qt A++qt B)++(u++v)).Perm (qk A++qk B);rw[xt];refine List.Perm.trans ?_<|h.append k;rw[AA,AA];refine List.Perm.append_left _ ?_;rw[<-AA,<-AA];exact List.Perm.append_right _ BE
theorem SR.links{E:List Nat}(h:SR ks R E):∀p∈qt R,p.1<p.2/\∃t n,ks[p.1]?=some (.lf t n)/\ks[p.2]?=some (.lf (!t) n):=by induction h with|@link p q t n E g j l r C=>intro x U;rw[Am.mp U];exact⟨g,t,n,j,l⟩|ei _ _ _ _ _ _ _ o=>exact o|bo _ _ _ _ _ _ _ I J=>intro x U;exact(Ag.mp U).elim (I x) (J x)|cu _ _ _ _ _ _ _ _ I J=>intro x U;exact(Ag.mp U).elim (I x) (J x)
theorem SR.lkI{E:List Nat}(h:SR ks R E)(nd:(qk R).Nodup):Sc ks (qt R):=by obtain⟨u,J⟩:=aF R;exact⟨(Ay.mp<|J.nodup_iff.mpr nd).1,λp I=>(h.links p I).1,λp I=>(h.links p I).2⟩
theorem SR.cuts{E:List Nat}(h:SR ks R E):(qk R).Nodup->(zm<|zb R).Nodup/\(∀x∈zm (zb R),x∉E/\x∈qk R):=by
 induction h with
 |link _ _ _ _ _=>exactλ_=>⟨CS,λx I=>by cases I⟩
 |@ei r i j A EA E h1 h2 t h4 h5 C h7 ih=>
  intro nd;obtain⟨n1,n2⟩:=AH.mp<|show(r::qk A).Nodup from nd;obtain⟨a,b⟩:=ih n2;refine⟨a,λx I=>⟨λJ=>?_,Ab _ (b x I).2⟩⟩;rcases (C x).mp J with⟨z,_⟩|rfl
  ·exact(b x I).1 z
  ·exact n1 (b x I).2
 |@bo r i j A B EA EB E h1 h2 t h4 h5 C h7 l o=>
  intro nd;obtain⟨n1,n2⟩:=AH.mp<|show(r::(qk A++qk B)).Nodup from nd;obtain⟨m1,m2,U⟩:=Ay.mp n2;obtain⟨a1,b1⟩:=l m1;obtain⟨a2,b2⟩:=o m2;have sA:=h2.sub;have T:=t.sub;show(zm<|zb A++zb B).Nodup/\∀x∈zm (zb A++zb B),x∉E/\x∈r::(qk A++qk B);rw[xt];refine⟨Ay.mpr ⟨a1,a2,λx I y hy=>U x (b1 x I).2 y (b2 y hy).2⟩,λx I=>?_⟩;rcases Ag.mp I with I|I
  ·refine⟨λJ=>?_,Ab _<|Ai _ (b1 x I).2⟩;rcases (C x).mp J with⟨z,_⟩|⟨z,_⟩|rfl
   ·exact(b1 x I).1 z
   ·exact U x (b1 x I).2 x (T x z) rfl
   ·exact n1<|Ai _ (b1 _ I).2
  ·refine⟨λJ=>?_,Ab _<|Ae _ (b2 x I).2⟩;rcases (C x).mp J with⟨z,_⟩|⟨z,_⟩|rfl
   ·exact U x (sA x z) x (b2 x I).2 rfl
   ·exact(b2 x I).1 z
   ·exact n1<|Ae _ (b2 _ I).2
 |@cu p q A B EA EB E w h1 h2 t h4 h5 C h7 h8 l o=>
  intro nd;obtain⟨m1,m2,U⟩:=Ay.mp<|show(qk A++qk B).Nodup from nd;obtain⟨a1,b1⟩:=l m1;obtain⟨a2,b2⟩:=o m2;have sA:=h1.sub;have T:=h2.sub;show(zm<|(p,q)::(zb A++zb B)).Nodup/\∀x∈zm ((p,q)::(zb A++zb B)),x∉E/\x∈qk A++qk B;rw[jq,xt];have tp:=sA p t;have tq:=T q h4;have a3:p≠q:=λe=>U p tp q tq e;have a0:∀x,x∈zm (zb A)++zm (zb B)->x≠p/\x≠q:=λx I=>by
   rcases Ag.mp I with I|I
   ·exact⟨λe=>(b1 x I).1<|e▸t,λe=>U x (b1 x I).2 q tq e⟩
   ·exact⟨λe=>U p tp x (b2 x I).2 e.symm,λe=>(b2 x I).1<|e▸h4⟩
  refine⟨AH.mpr ⟨λh=>?_,AH.mpr ⟨λh=>(a0 q h).2 rfl,Ay.mpr ⟨a1,a2,λx I y hy=>U x (b1 x I).2 y (b2 y hy).2⟩⟩⟩,λx I=>?_⟩
  ·rcases Ao.mp h with h|h
   ·exact a3 h
   ·exact(a0 p h).1 rfl
  ·have g:x∈E->(x∈EA/\x≠p)\/(x∈EB/\x≠q):=(h7 x).mp;rcases Ao.mp I with rfl|I
   ·exact⟨λJ=>(g J).elim (λz=>z.2 rfl) λz=>U x tp x (T x z.1) rfl,Ai _ tp⟩
   ·rcases Ao.mp I with rfl|I
    ·exact⟨λJ=>(g J).elim (λz=>U x (sA x z.1) x tq rfl) λz=>z.2 rfl,Ae _ tq⟩
    ·rcases Ag.mp I with I|I
     ·exact⟨λJ=>(g J).elim (λz=>(b1 x I).1 z.1) λz=>U x (b1 x I).2 x (T x z.1) rfl,Ai _ (b1 x I).2⟩
     ·exact⟨λJ=>(g J).elim (λz=>U x (sA x z.1) x (b2 x I).2 rfl) λz=>(b2 x I).1 z.1,Ae _ (b2 x I).2⟩
theorem gn(ok:dM ks):jQ (ks.map some):=by intro p e i j h;rw[Aq] at h;obtain⟨k,I,J⟩:=Aw.mp h;cases J;exact ok p _ I
theorem gW(ks:List Kn):x4 (ks.map some)=js ks:=by show(ks.map some).map aX=ks.map pU;rw[B5];rfl
theorem KW.lf{t:Bool}{n:Str}(h:wd[p]?=some (some<|.lf t n)):KW (x4 wd) p (.leaf t n):=by show(x4 wd)[p]?=_;rw[Aq,h];rfl
theorem KW.nd{e:Bool}{l r:Wd}(h:wd[p]?=some (some<|.nd e i j))(I:KW (x4 wd) i l)(J:KW (x4 wd) j r):KW (x4 wd) p (.node e l r):=
 ⟨i,j,by rw[Aq,h];rfl,I,J⟩
theorem zN{k:Kn}{t:Bool}{n:Str}(h:pU k=.tup [.str<|kL t,.str n]):k=.lf t n:=by
 cases k with
 |lf u m=>
  have I:kL u=kL t:=by injection h with h;injection h with h _;injection h
  have J:m=n:=by injection h with h;injection h with _ h;injection h with h _;injection h
  subst J;cases u<;>cases t<;>first|rfl|(exfalso;revert I;decide)
 |nd e i j=>injection h with h;injection h with _ h;injection h with _ h;cases h
theorem yu{k:Kn}{e:Bool}(h:pU k=.tup [.str<|kN e,.int (i:Int),.int (j:Int)]):k=.nd e i j:=by
 cases k with
 |lf u m=>injection h with h;injection h with _ h;injection h with _ h;cases h
 |nd b U g=>
  have l:kN b=kN e:=by injection h with h;injection h with h _;injection h
  have I:((U:Nat):Int)=i:=by injection h with h;injection h with _ h;injection h with h _;injection h
  have J:((g:Nat):Int)=j:=by injection h with h;injection h with _ h;injection h with _ h;injection h with h _;injection h
  have I:=Cp.mp I;have J:=Cp.mp J;subst I J;cases b<;>cases e<;>first|rfl|(exfalso;revert l;decide)
theorem Jq(h:(x4 wd)[p]?=some y):∃o,wd[p]?=some o/\aX o=y:=by rw[Aq] at h;obtain⟨o,a,b⟩:=Aw.mp h;exact⟨o,a,b⟩
theorem KW.inv_lf{t:Bool}{n:Str}(h:KW (x4 wd) p<|.leaf t n):wd[p]?=some (some<|.lf t n):=by
 obtain⟨o,a,b⟩:=Jq<|show(x4 wd)[p]?=some (.tup [.str<|kL t,.str n]) from h;cases o with
 |none=>cases b
 |some k=>rw[a,zN b]
theorem KW.inv_nd{e:Bool}{l r:Wd}(h:KW (x4 wd) p<|.node e l r):∃i j,wd[p]?=some (some<|.nd e i j)/\KW (x4 wd) i l/\KW (x4 wd) j r:=by
 obtain⟨i,j,I,J,U⟩:=h;obtain⟨o,a,b⟩:=Jq I;cases o with
 |none=>cases b
 |some k=>exact⟨i,j,by rw[a,yu b],J,U⟩
theorem KW.dep{wd:List<|Option Kn}(ok:jQ wd):∀{w:Wd} {p:Nat},KW (x4 wd) p w->w.depth<=p+1
 |.leaf t n,p,_=>by show 1<=p+1;exact CU _
 |.node e l r,p,h=>by obtain⟨i,j,a,I,J⟩:=h.inv_nd;have:=ok p e i j a;have:=KW.dep ok I;have:=KW.dep ok J;show max l.depth r.depth+1<=p+1;lia
def wZ(wd:List<|Option Kn):Prop:=∀(p:Nat) (e:Bool) (i j:Nat),wd[p]?=some (some<|.nd e i j)->(∃k,wd[i]?=some (some k))/\∃k,wd[j]?=some (some k)
theorem uY(ok:dM ks):wZ (ks.map some):=by
 intro p e i j h;have lt:=gn ok p e i j h;have J:=zd h;rw[Ah] at J;have I:∀x,x<ks.length->∃k,(ks.map some)[x]?=some (some k):=λx U=>⟨ks[x],by rw[Aq,Al U];rfl⟩
 exact⟨I i (by omega),I j (by lia)⟩
theorem tO.inv(r:tO f fm wd){x:Nat}{k:Kn}(h:wd[x]?=some (some k)):∃p,p<fm.length/\x=f p/\∃o,fm[p]?=some o/\hX f o=some k:=by obtain⟨p,I,e⟩:=r.gap.only x k h;have I:=AL.mp I;have:=r.gap.at_ p (AL.mpr I) _<|Al I;rw[<-e,h] at this;exact⟨p,I,e,_,Al I,(AO this).symm⟩
theorem tO.there(r:tO f fm wd)(th:wZ fm):wZ wd:=by
 intro x e i j h;obtain⟨p,hp,rfl,o,g,I⟩:=r.inv h;cases o with
 |none=>cases I
 |some k=>
  cases k with
  |lf t n=>cases I
  |nd b a c=>
   cases I;obtain⟨⟨l,C⟩,T,e2⟩:=th p e a c g;have J:∀y k,fm[y]?=some (some k)->∃k',wd[f y]?=some (some k'):=λy k U=>by have:=r.gap.at_ y (AL.mpr<|zd U) _ U;cases k with|lf t n=>exact⟨_,this⟩|nd b a c=>exact⟨_,this⟩
   exact⟨J a l C,J c T e2⟩
theorem tO.word(r:tO f fm wd):∀{w:Wd} {p:Nat},KW (x4 fm) p w->KW (x4 wd) (f p) w
 |.leaf t n,p,h=>by have e:=h.inv_lf;exact KW.lf<|r.gap.at_ p (AL.mpr<|zd e) _ e
 |.node b l rr,p,h=>by obtain⟨i,j,e,I,J⟩:=h.inv_nd;exact KW.nd (r.gap.at_ p (AL.mpr<|zd e) _ e) (r.word I)<|r.word J
theorem SR.cutw{E:List Nat}(h:SR ks R E):∀c∈zb R,∃w,cU ks c.1 w/\cU ks c.2 w.turn:=by
 induction h with
 |link _ _ _ _ _=>intro c g;cases g
 |ei _ _ _ _ _ _ _ j=>exact j
 |bo _ _ _ _ _ _ _ I J=>intro x U;exact(Ag.mp U).elim (I x) (J x)
 |@cu p q A B r t E w C T h3 h4 l o h7 h8 I J=>
  intro x U;rcases Ao.mp U with rfl|U
  ·exact⟨w,l,o⟩
  ·exact(Ag.mp U).elim (I x) (J x)
noncomputable def lg(I:zc):RD "parts_in" fc 2 ["knots","parts","knot"] (λV=>Gc V I):=⟨_,λV B c _ _ _ _ _ _ _ J hN U=>(qa (S_ 1 hN<|jb vt)<|qa (vh p0 rfl (xh<|qv 0) (G_ 2 hN)<|qd<|zf<|oG (qv 1)<|jv<|C_ c J<|jv<|qv 2)<|qd<|qx<|qv 1)⟩
noncomputable def vN(I:zc):kh:=(lg I).1
noncomputable def nz(J:zc)(I:zc):RD "ends_of" i0 3 ["web","knots","used"] (λV=>IH V J/\II V I):=⟨_,λV B c _ _ _ _ _ _ _ U hN g=>(qa (S_ 1 hN<|J_ 0)<|qa (bu (i:=2) hN rfl (Or.inr rfl)<|qj j4 (C_ c.1 U<|jv<|qv 1)<|C_ c.2 U<|jv<|J_ 0)<|qd<|qx<|fS ["place","knot" ] (EW (by rfl)) rfl (ef rfl B.bg<|qv 1) (Jb 3) (λ_ _ _ _=>aK<|wc<|vq (af<|qv 4)<|w4<|je (fw _ _ _) (qv 3) (qv 2) (by with_unfolding_all rfl)) λ_ _ _ _=>(qv 3))⟩
noncomputable def Sd(J:zc)(I:zc):kh:=(nz J I).1
noncomputable def jE:RD "_law_copy" db 0 ["_law_web_here"] (λ_=>True):=⟨_,λV B c _ _ _ _ _ _ _ I hN J=>(qd<|qx<|zr<|cS (eL gj rfl B.be aa<|jv<|J_ 0) (eL gj rfl B.be aa<|jv<|J_ 0)<|eL gj rfl B.be aa<|jv<|J_ 0)⟩
noncomputable def sn:kh:=(jE).1
def jp(wd:List<|Option Kn):List Nat:=wd.flatMap j8
theorem fh(wd:List<|Option Kn)(k:Option Kn):jp (wd++[k])=jp wd++j8 k:=by unfold jp;rw[A1,Bn,CW,AE]
theorem mf(k:Option Kn):(j8 k).length<=2:=by cases k with|none=>exact A3 _|some k=>cases k with|lf t n=>exact A3 _|nd e i j=>exact Ap _
theorem fE(wd:List<|Option Kn):(jp wd).length<=2*wd.length:=by
 induction wd with
 |nil=>exact Ap _
 |cons k r I=>
  have e:jp (k::r)=j8 k++jp r:=Bn ..;have:=mf k;rw[e,Ad,AK];lia
def qB:zc:=λys L Q=>∃a,∃wd:List (Option Kn),ys=[.ref a]/\L a=some (.lst<|x4 wd)/\wd.length<=1000/\∀p,L p=none->Q (.ref p) (qe L p<|.lst<|nY<|jp wd)
theorem Se:∀ys L Q,qB ys L Q->jw (vN iB) 3 ys L Q:=by
 rintro ys L Q ⟨a,J,rfl,j,hz,q⟩;have big:=a_;intro p l;have r:qg L (qe L p<|.lst []):=By l;refine jx (r _ _ j) λkeep T=>kz ⟨λi U I=>∃c2,U=[some<|Y.ref a,some<|Y.ref p,c2]/\qg L I/\I p=some (.lst<|nY<|jp<|J.take i),⟨_,rfl,r,q9⟩,?_,?_,?_⟩
 ·rintro i U I ⟨c2,rfl,s,_⟩;exact T I (by rw[s _ _ j,r _ _ j])
 ·rintro i y U I t ⟨c2,rfl,s,g⟩;rw[Aq] at t;obtain⟨k,ek,rfl⟩:=Aw.mp t;have et:J.take (i+1)=J.take i++[k]:=by rw[Bc,ek];rfl
  have pl:=fE<|J.take i;have pk:=mf k;rw[AQ] at pl;refine qb g ⟨k,rfl,λd hd=>?_⟩;have n1:p≠d:=aU g hd;refine qr ((qc n1).trans g)<|qr q9 ⟨?_,?_⟩
  ·rw[jh,jh];exact Bf<|big _ (by lia)
  ·refine⟨_,EL _,_,rfl,(s.trans<|By hd).upd l,?_⟩;rw[q9,et,fh,aW]
 ·rintro U I ⟨c2,rfl,s,g⟩;rw[Ah,A9] at g;refine⟨qe L p<|.lst<|nY<|jp J,λb o e=>?_,q p l⟩;by_cases C:b=p
  ·subst C;rw[q9] at e;rw[<-e];exact g
  ·rw[qc C] at e;exact s _ _ e
def wy(wd:List<|Option Kn)(p:Nat):Bool:=match wd[p]? with
 |some (some _)=>true
 |_=>false
def bR(wd:List<|Option Kn)(us:List Nat)(p:Nat):Bool:=wy wd p&&!(decide<|p∈us)
def ji(wd:List<|Option Kn)(us:List Nat)(i:Nat):List Nat:=(List.range i).filter<|bR wd us
theorem cV(wd:List<|Option Kn)(us:List Nat)(i:Nat):ji wd us (i+1)=ji wd us i++if bR wd us i=true then [i] else []:=by unfold ji;rw[Cj,A8];congr 1;rw[BS,Br]
def zp(wd:List<|Option Kn)(ct:List<|Nat×Nat):List Nat:=jp wd++zm ct
def pS:zc:=λys L Q=>∃a l c,∃wd:List (Option Kn),∃ct:List (Nat×Nat),ys=[aI a l c]/\L a=some (.lst<|x4 wd)/\L c=some (.lst<|qp ct)/\wd.length<=1000/\ct.length<=1000/\∀p,L p=none->Q (.ref p) (qe L p<|.lst<|nY<|ji wd (zp wd ct) wd.length)
theorem Sf:∀ys L Q,pS ys L Q->jw (Sd qB ph) 3 ys L Q:=by
 rintro ys L Q ⟨a,l,c,I,J,rfl,ha,hc,hz,a0,q⟩;have big:=a_;refine⟨a,I,rfl,ha,hz,λr a1=>?_⟩;have s1:qg L (qe L r<|.lst<|nY<|jp I):=By a1;refine⟨c,J,rfl,s1 _ _ hc,a0,λT C=>?_⟩;have s2:qg L (qe (qe L r<|.lst<|nY<|jp I) T<|.lst<|nY<|zm J):=s1.trans<|By C;have a2:r≠T:=aU q9 C;have pl:=fE I;have cl:=cI J;refine⟨_,_,(qc a2).trans q9,q9,?_,λp3 a3=>?_⟩
 ·rw[jh,jh];exact Bf<|big _ (by lia)
 have s3:=s2.trans<|By (o:=.lst<|nY (jp I)++nY (zm J)) a3;have g3:qe (qe (qe L r<|.lst<|nY<|jp I) T<|.lst<|nY<|zm J) p3 (.lst<|nY (jp I)++nY (zm J)) p3=some (.lst<|nY<|zp I J):=by rw[q9];unfold zp;rw[aW]
 generalize qe (qe (qe L r<|.lst<|nY<|jp I) T<|.lst<|nY<|zm J) p3 (.lst<|nY (jp I)++nY (zm J))=U at s3 g3 ⊢;refine jx (s3 _ _ ha) λkeep kp=>bJ (λi g=>g=nY (ji I (zp I J) i)) (by rw[ai,Ah];exact big _ (by exact wE)) (kp _ rfl) rfl ?_ ?_
 ·rintro i y g ey rfl;obtain⟨z,ez,rfl⟩:=cB ey;rw[Aq] at ez;obtain⟨k,ek,rfl⟩:=Aw.mp ez;have no:bR I (zp I J) i=false->dI (λg j=>j=U/\g=nY (ji I (zp I J)<|i+1)) (nY<|ji I (zp I J) i) U:=λh=>⟨U,EL _,rfl,by rw[cV,AB (by rw[h];exact AI),AE]⟩;have yes:bR I (zp I J) i=true->dI (λg j=>j=U/\g=nY (ji I (zp I J)<|i+1)) (nY (ji I (zp I J) i)++[.int (i:Int)]) U:=λh=>⟨U,EL _,rfl,by rw[cV,AC h,aW];rfl⟩;cases k with
  |none=>exact no (by unfold bR wy;rw[ek];rfl)
  |some k=>
   have key:nl U (.ref p3) λys=>fP (.int (i:Int))=true/\ys.all fP=true/\vk (nb true<|nJ (bK<|.int (i:Int))<|ys.map bK) (dI (λg j=>j=U/\g=nY (ji I (zp I J)<|i+1)) (nY (ji I (zp I J) i)++[.int (i:Int)]) U) (dI (λg j=>j=U/\g=nY (ji I (zp I J)<|i+1)) (nY<|ji I (zp I J) i) U):=by
    refine qb g3 ⟨rfl,bU _,?_⟩;rw[bQ];by_cases cu:i∈zp I J
    ·exact vi (by rw[Av cu];rfl) (no (by unfold bR wy;rw[ek,Av cu];rfl))
    ·exact cx (by rw[Au cu];rfl) (yes (by unfold bR wy;rw[ek,Au cu];rfl))
   cases k with|lf t n=>exact key|nd e i' j'=>exact key
 ·rintro g rfl p hp;rw[ai,Ah];refine⟨qe L p<|.lst<|nY<|ji I (zp I J) I.length,λb o e=>?_,q p<|s3.none hp⟩;by_cases cc:b=p
  ·subst cc;rw[q9] at e ⊢;exact e
  ·rw[qc cc] at e ⊢;exact s3 _ _ e
def qW:zc:=λys L Q=>∃a l c,∃xs zs us:List Y,ys=[aI a l c]/\L a=some (.lst xs)/\L l=some (.lst zs)/\L c=some (.lst us)/\∀I J c' L',qg L L'->L I=none->L J=none->L c'=none->I≠J->I≠c'->J≠c'->L' I=some (.lst xs)->L' J=some (.lst zs)->L' c'=some (.lst us)->Q (aI I J c') L'
theorem Sg:∀ys L Q,qW ys L Q->jw sn 1 ys L Q:=by rintro ys L Q ⟨a,l,c,xs,zs,us,rfl,ha,hl,hc,q⟩;refine qb ha λj h1=>?_;have p:=By (o:=.lst xs) h1;refine qb (p _ _ hl) λr t=>?_;have C:=p.trans<|By (o:=.lst zs) t;refine qb (C _ _ hc) λT g=>?_;have I:j≠r:=aU q9 t;have J:r≠T:=aU q9 g;have U:j≠T:=aU ((qc I).trans q9) g;exact x0<|q j r T _ (C.trans<|By g) h1 (p.none t) (C.none g) I U J ((qc U).trans<|(qc I).trans q9) ((qc J).trans q9) q9
def n9(ks:List Kn)(l:List Nat):List Nat:=l.flatMap λp=>j8 ks[p]?
theorem gh(ks:List Kn)(a b:List Nat):n9 ks (a++b)=n9 ks a++n9 ks b:=by unfold n9;rw[A1]
theorem cN(ks:List Kn)(x:Nat)(l:List Nat):n9 ks (x::l)=j8 ks[x]?++n9 ks l:=Bn ..
theorem cR{E:List Nat}(h:E.Nodup)(hi:i∈E):E.Perm ([i]++E.filter λx=>!decide (x=i)):=by
 refine(Bj h ?_).mpr λx=>?_
 ·refine AH.mpr ⟨λz=>?_,h.filter _⟩;have:=(Az.mp z).2;simp at this
 ·rw[Ag,Am,Az];constructor
  ·intro I;by_cases c:x=i
   ·exact .inl c
   ·exact .inr ⟨I,by simp[c]⟩
  ·rintro(rfl|I)
   ·exact hi
   ·exact I.1
theorem SR.part{E:List Nat}(h:SR ks R E):(qk R).Nodup->(n9 ks (qk R)++(zm (zb R)++E)).Perm (qk R):=by
 induction h with
 |@link p q t n U h1 h2 h3 o C=>
  intro _;have e:n9 ks [p,q]=[]:=by rw[cN,cN,h2,h3];rfl
  show(n9 ks [p,q]++([]++U)).Perm [p,q];rw[e,Ci,Ci];refine(Bj C (by simp;lia)).mpr λx=>?_;rw[o x];simp
 |@ei r i j A g U h1 T h3 o C h6 h7 ih=>
  intro nd;obtain⟨n1,n2⟩:=AH.mp nd;have ih:=ih n2;have l:g.Nodup:=(Ay.mp (Ay.mp<|ih.nodup_iff.mpr n2).2.1).2.1;have p1:=cR l h3;have p2:(g.filter λx=>!decide (x=i)).Perm _:=cR (l.filter _) (i:=j) (Az.mpr ⟨o,by simp;exact A4 C⟩);have p3:U.Perm ([r]++(g.filter λx=>!decide (x=i)).filter λx=>!decide (x=j)):=by
   refine(Bj h7<|AH.mpr ⟨λz=>n1<|T.sub _ (Az.mp (Az.mp z).1).1,(l.filter _).filter _⟩).mpr λx=>?_;rw[h6 x,Ao,Az,Az];simp only[DO,decide_eq_false_iff_not];constructor
   ·rintro(⟨a,b,c⟩|rfl)
    ·exact .inr ⟨⟨a,b⟩,c⟩
    ·exact .inl rfl
   ·rintro(rfl|⟨⟨a,b⟩,c⟩)
    ·exact .inr rfl
    ·exact .inl ⟨a,b,c⟩
  show(n9 ks (r::qk A)++(zm (zb A)++U)).Perm ([r]++qk A);rw[cN,h1];show((([i]++[j])++n9 ks (qk A))++(zm (zb A)++U)).Perm _;refine C2.mpr λa=>?_;have c1:=p1.count_eq a;have c2:=p2.count_eq a;have c3:=p3.count_eq a;have c4:=ih.count_eq a;simp only[Dk] at c1 c2 c3 c4 ⊢;lia
 |@bo r i j A B g EB U h1 T hB o C h6 h7 I J=>
  intro nd;obtain⟨n1,n2⟩:=AH.mp nd;obtain⟨m1,m2,m3⟩:=Ay.mp n2;have I:=I m1;have J:=J m2;have l:g.Nodup:=(Ay.mp (Ay.mp<|I.nodup_iff.mpr m1).2.1).2.1;have nB:EB.Nodup:=(Ay.mp (Ay.mp<|J.nodup_iff.mpr m2).2.1).2.1;have p1:=cR l o;have p2:=cR nB C;have p3:U.Perm ([r]++((g.filter λx=>!decide (x=i))++EB.filter λx=>!decide (x=j))):=by
   refine(Bj h7<|AH.mpr ⟨λz=>n1 ?_,Ay.mpr ⟨l.filter _,nB.filter _,λa ha b hb=>m3 a (T.sub _ (Az.mp ha).1) b<|hB.sub _ (Az.mp hb).1⟩⟩).mpr λx=>?_
   ·rcases Ag.mp z with z|z
    ·exact Ai _<|T.sub _ (Az.mp z).1
    ·exact Ae _<|hB.sub _ (Az.mp z).1
   ·rw[h6 x,Ao,Ag,Az,Az];simp only[DO,decide_eq_false_iff_not];constructor
    ·rintro(a|a|rfl)
     ·exact .inr<|.inl a
     ·exact .inr<|.inr a
     ·exact .inl rfl
    ·rintro(rfl|a|a)
     ·exact .inr<|.inr rfl
     ·exact .inl a
     ·exact .inr<|.inl a
  show(n9 ks (r::(qk A++qk B))++(zm (zb A++zb B)++U)).Perm ([r]++(qk A++qk B));rw[cN,h1,gh,xt];show((([i]++[j])++(n9 ks (qk A)++n9 ks (qk B)))++((zm (zb A)++zm (zb B))++U)).Perm _;refine C2.mpr λa=>?_;have c1:=p1.count_eq a;have c2:=p2.count_eq a;have c3:=p3.count_eq a;have c4:=I.count_eq a;have c5:=J.count_eq a;simp only[Dk] at c1 c2 c3 c4 c5 ⊢;lia
 |@cu p q A B g EB U w T hB h3 o C h6 h7 h8 I J=>
  intro n2;obtain⟨m1,m2,m3⟩:=Ay.mp<|show(qk A++qk B).Nodup from n2;have I:=I m1;have J:=J m2;have l:g.Nodup:=(Ay.mp (Ay.mp<|I.nodup_iff.mpr m1).2.1).2.1;have nB:EB.Nodup:=(Ay.mp (Ay.mp<|J.nodup_iff.mpr m2).2.1).2.1;have p1:=cR l h3;have p2:=cR nB o;have p3:U.Perm ((g.filter λx=>!decide (x=p))++EB.filter λx=>!decide (x=q)):=by refine(Bj h8<|Ay.mpr ⟨l.filter _,nB.filter _,λa ha b hb=>m3 a (T.sub _ (Az.mp ha).1) b<|hB.sub _ (Az.mp hb).1⟩).mpr λx=>?_;rw[h7 x,Ag,Az,Az];simp only[DO,decide_eq_false_iff_not]
  show(n9 ks (qk A++qk B)++(zm ((p,q)::(zb A++zb B))++U)).Perm (qk A++qk B);rw[gh,jq,xt];show((n9 ks (qk A)++n9 ks (qk B))++(([p]++[q]++(zm (zb A)++zm (zb B)))++U)).Perm _;refine C2.mpr λa=>?_;have c1:=p1.count_eq a;have c2:=p2.count_eq a;have c3:=p3.count_eq a;have c4:=I.count_eq a;have c5:=J.count_eq a;simp only[Dk] at c1 c2 c3 c4 c5 ⊢;lia
structure dP(wd:List<|Option Kn):Prop where
 ne:∀(p:Nat) (e:Bool) (i j:Nat),wd[p]?=some (some<|.nd e i j)->i≠j
 un:∀(p q:Nat) (k l:Kn) (x:Nat),wd[p]?=some (some k)->wd[q]?=some (some l)->x∈j8 (some k)->x∈j8 (some l)->p=q
theorem yy{x:Nat}(h:x∈jp wd):∃(p:Nat) (k:Kn),wd[p]?=some (some k)/\x∈j8 (some k):=by
 obtain⟨o,J,I⟩:=AV.mp h;obtain⟨p,e⟩:=BW J;cases o with
 |none=>cases I
 |some k=>exact⟨p,k,e,I⟩
theorem eY{x:Nat}{k:Kn}(h:wd[p]?=some (some k))(I:x∈j8 (some k)):x∈jp wd:=AV.mpr ⟨_,AF h,I⟩
theorem Sh{l:List Nat}(h:(n9 ks l).Nodup)(all:∀p,p<ks.length->p∈l):dP (ks.map some):=by
 have I:∀{p:Nat} {k:Kn},(ks.map some)[p]?=some (some k)->ks[p]?=some k/\p∈l:=λ{p k} e=>by rw[Aq] at e;obtain⟨k',r,t⟩:=Aw.mp e;cases t;exact⟨r,all p<|zd r⟩
 clear all;constructor
 ·intro p e i j J;obtain⟨U,g⟩:=I J;obtain⟨a,b,rfl⟩:=Cz g;rw[gh,cN,U] at h;have:=(Ay.mp (Ay.mp h).2.1).1;have:[i,j].Nodup:=this;simpa using this
 ·intro p q k m x J C T hy;obtain⟨U,g⟩:=I J;obtain⟨h3,h4⟩:=I C;by_cases c:p=q
  ·exact c
  ·exfalso;obtain⟨a,b,rfl⟩:=Cz g;have hm:q∈a++b:=by
    rcases Ag.mp h4 with z|z
    ·exact Ai _ z
    ·rcases Ao.mp z with z|z
     ·exact absurd z.symm c
     ·exact Ae _ z
   have pm:(n9 ks<|a++p::b).Perm (j8 (some k)++n9 ks (a++b)):=by rw[gh,cN,U,gh];refine C2.mpr λz=>?_;simp only[Dk];lia
   have n:=pm.nodup_iff.mp h;have o:x∈n9 ks (a++b):=AV.mpr ⟨q,hm,by rw[h3];exact hy⟩;exact(Ay.mp n).2.2 x T x o rfl
theorem tO.part(r:tO f fm wd){x y:Nat}{k:Kn}(h:wd[x]?=some (some k))(I:y∈j8 (some k)):∃(p:Nat) (o:Kn) (a:Nat),x=f p/\fm[p]?=some (some o)/\y=f a/\a∈j8 (some o):=by
 obtain⟨p,g,e,o,U,J⟩:=r.inv h;cases o with
 |none=>cases J
 |some o=>
  cases o with
  |lf t n=>cases J;cases I
  |nd b i j=>
   cases J;have I:y∈[f i,f j]:=I;rcases Ao.mp I with I|I
   ·exact⟨p,_,i,e,U,I,Ak ..⟩
   ·exact⟨p,_,j,e,U,Am.mp I,Ab _<|Ak ..⟩
theorem nH(ok:jQ fm){a:Nat}{o:Kn}(h:fm[p]?=some (some o))(I:a∈j8 (some o)):a<fm.length:=by
 cases o with
 |lf t n=>cases I
 |nd e i j=>
  have:=ok p e i j h;have:=zd h;have I:a∈[i,j]:=I;rcases Ao.mp I with rfl|I
  ·lia
  ·rw[Am.mp I];lia
theorem tO.inj(r:tO f fm wd){a b:Nat}(I:a<fm.length)(J:b<fm.length)(e:f a=f b):a=b:=r.gap.inj a (AL.mpr I) b (AL.mpr J) e
theorem dP.ren(U:dP fm)(ok:jQ fm)(r:tO f fm wd):dP wd:=by
 constructor
 ·intro x e i j h;obtain⟨p,hp,rfl,o,J,I⟩:=r.inv h;cases o with
  |none=>cases I
  |some o=>
   cases o with
   |lf t n=>cases I
   |nd b a c=>
    cases I;have:=ok p e a c J;exactλz=>U.ne p e a c J<|r.inj (by lia) (by lia) z
 ·intro x y k l z h1 h2 hz hw;obtain⟨p,o,a,rfl,g,rfl,C⟩:=r.part h1 hz;obtain⟨q,o',b,rfl,T,eb,hb⟩:=r.part h2 hw;cases r.inj (nH ok g C) (nH ok T hb) eb;rw[U.un p q o o' a g T C hb]
def A_:Option Kn->Bool
 |some (.lf _ _)=>true
 |_=>false
theorem SR.leaves{E:List Nat}(h:SR ks R E):(zm<|qt R).Perm ((qk R).filter λp=>A_ ks[p]?):=by
 induction h with
 |@link p q t n g U h2 l o C=>
  show(zm [(p,q)]).Perm ([p,q].filter λp=>A_ ks[p]?);rw[bH,BS,BS,h2,l];exact B9 _
 |@ei r i j A T g U hA l o C h6 h7 ih=>
  show(zm<|qt A).Perm ((r::qk A).filter λp=>A_ ks[p]?);rw[BS,U];exact ih
 |@bo r i j A B T EB g U hA hB o C h6 h7 I J=>
  show(zm<|qt A++qt B).Perm ((r::(qk A++qk B)).filter λp=>A_ ks[p]?);rw[BS,U,xt];show(zm (qt A)++zm (qt B)).Perm ((qk A++qk B).filter λp=>A_ ks[p]?);rw[A8];exact I.append J
 |@cu p q A B T EB g w hA hB l o C h6 h7 h8 I J=>
  show(zm<|qt A++qt B).Perm ((qk A++qk B).filter λp=>A_ ks[p]?);rw[xt,A8];exact I.append J
theorem qX(f:Nat->Nat):∀lk:List (Nat×Nat),(zm<|lk.map<|Jo f).Perm<|(zm lk).map f
 |[]=>B9 _
 |c::r=>by
  have I:=qX f r;rw[AG,jq,jq,AG,AG];show(min (f c.1) (f c.2)::max (f c.1) (f c.2)::_).Perm _;by_cases h:f c.1<=f c.2
  ·rw[BM h,Cu h];exact(I.cons _).cons _
  ·rw[Cs (by lia),CB (by lia)];exact((I.cons _).cons _).trans (List.Perm.swap _ _ _)
theorem jX(f:Nat->Nat):∀ct:List (Nat×Nat),zm (ct.map<|Jp f)=(zm ct).map f
 |[]=>rfl
 |c::r=>by rw[AG,jq,jq,AG,AG,jX f r];rfl
theorem ak{f:Nat->Nat}:∀{l:List Nat},l.Nodup->(∀a∈l,∀b∈l,f a=f b->a=b)->(l.map f).Nodup
 |[],_,_=>CS
 |a::r,h,g=>by obtain⟨J,U⟩:=AH.mp h;rw[AG,AH];refine⟨λz=>?_,ak U λx j y o=>g x (Ab _ j) y<|Ab _ o⟩;obtain⟨b,I,e⟩:=Bt.mp z;exact J<|g b (Ab _ I) a (Ak ..) e▸I
def a6(f:Nat->Nat):Ru->Ru
 |.link p q=>.link (min (f p)<|f q)<|max (f p)<|f q
 |.ei r A=>.ei (f r)<|a6 f A
 |.bo r A B=>.bo (f r) (a6 f A)<|a6 f B
 |.cu p q A B=>.cu (f p) (f q) (a6 f A)<|a6 f B
theorem aO(f:Nat->Nat):∀R:Ru,(qk<|a6 f R).Perm<|(qk R).map f
 |.link p q=>by
  show [min (f p)<|f q,max (f p)<|f q].Perm [f p,f q];by_cases h:f p<=f q
  ·rw[BM h,Cu h]
  ·rw[Cs (by lia),CB (by lia)];exact List.Perm.swap _ _ _
 |.ei r A=>(aO f A).cons _
 |.bo r A B=>by show(f r::(qk (a6 f A)++qk (a6 f B))).Perm (f r::(qk A++qk B).map f);rw[AD];exact((aO f A).append<|aO f B).cons _
 |.cu p q A B=>by show(qk (a6 f A)++qk (a6 f B)).Perm ((qk A++qk B).map f);rw[AD];exact(aO f A).append (aO f B)
theorem kA{x:Nat}{k:Kn}(h:(ks.map some)[x]?=some (some k)):ks[x]?=some k:=by rw[Aq] at h;obtain⟨I,e,z⟩:=Aw.mp h;cases z;exact e
def eU:Ru->List Ru
 |.link p q=>[.link p q]
 |.ei r A=>.ei r A::eU A
 |.bo r A B=>.bo r A B::(eU A++eU B)
 |.cu p q A B=>.cu p q A B::(eU A++eU B)
theorem rM(A:Ru):eU A=A::(wu A).flatMap eU:=by cases A<;>simp[eU,wu]
end L3
namespace TS
open PySem PyProof.Rows PySem.W
section
variable {w:World}
def IntV(v:Value):Prop:=∃i t,v=.int i t
noncomputable def nmI(x:Keyed):Int:=match x.1 with
 |.int i _=>i
 |_=>0
theorem Si:Ord prog w A s oneType' (λx=>IntV x.1) nmI:=by
 constructor;rintro x y ⟨i,t,I⟩ ⟨j,u,J⟩ E Q h;have U:nmI x=i:=by unfold nmI;rw[I]
 have g:nmI y=j:=by unfold nmI;rw[J]
 rw[U,g] at h;rw[I,J];exact kat_lt_int h
theorem sN:∀{vs:List Value},(∀v∈vs,IntV v)->∃I,IntsAre vs I
 |[],_=>⟨[],.nil⟩
 |v::r,h=>by obtain⟨i,t,rfl⟩:=h v<|Ak ..;obtain⟨I,k⟩:=sN (vs:=r) λu J=>h u<|Ab _ J;exact⟨_,.cons i t k⟩
theorem zJ(h:∀v∈vs,IntV v)(h2:¬vs.length<2):keyKind' vs.toArray=pure oneType':=by
 obtain⟨I,k⟩:=sN h
 match vs,k,h2 with
 |[],_,h2=>exact absurd (Nat.zero_lt_succ 1) h2
 |[_],_,h2=>exact absurd (Bk 1) h2
 |_::_::_,k,_=>exact keyKind_ints k
theorem Sj{a:Addr}{P:PySem.Fin->Shared->Prop}(ho:s.heap.get? a=some (seqObj "list" vs.toArray n))(hz:vs.length<=127)(hk:∀v∈vs,IntV v)
 (h:∀h' tk (xs:List Keyed) c,(∀b o,b≠a->s.heap.get? b=some o->h'.get? b=some o)->h'.get? a=some (seqObj "list" (List.toArray (xs.map (·.2))) c)->xs.Perm (vs.zip vs)->(xs.Pairwise λx y=>nmI x<=nmI y)->P (.done<|.ret .none) { s with heap:=h',toks:=tk }):
 wpAny (model prog w) A (Builtin.«list.sort» ⟨[.ref a],[]⟩) P E s:=by
 have big:(100000:Nat)+1<=sizeLine:=by rw[sizeLine_eq];exact C5 _ _
 have t:(vs.toArray.zip vs.toArray).toList=vs.zip vs:=by simp
 have s1:=qy s.heap a<|Obj.mapSeq λ_=>(#[]:Array Value);obtain⟨e1,p⟩:∃e1,(s.heap.update a<|Obj.mapSeq λ_=>(#[]:Array Value)).get? a=some (seqObj "list" #[] e1):=⟨_,get?_update_seq ho λ_=>#[]⟩;obtain⟨J,U⟩:∃g,g=((s.heap.update a<|Obj.mapSeq λ_=>(#[]:Array Value)).push<|seqObj "tuple" vs.toArray 0).push (seqObj "list" #[] 0):=⟨_,rfl⟩;have k3:∀b o,b≠a->s.heap.get? b=some o->J.get? b=some o:=λb o C e=>by rw[U];exact oe _<|oe _<|(s1.2 b C).trans e
 have j:J.get? a=some (seqObj "list" #[] e1):=by rw[U];exact oe _<|oe _ p
 have tail:∀st:SortSt,(arrOf st).toList.Perm (vs.zip vs)->((arrOf st).toList.Pairwise λx y=>nmI x<=nmI y)->
  ∀tk,P (.done<|.ret .none) { s with heap:=J.update a (Obj.mapSeq λ_=>(arrOf st).map (·.2)),toks:=tk }:=by
  intro st hp hs tk;have s2:=qy J a (Obj.mapSeq λ_=>(arrOf st).map (·.2));obtain⟨c2,r⟩:∃c2,(J.update a (Obj.mapSeq λ_=>(arrOf st).map (·.2))).get? a=some (seqObj "list" ((arrOf st).map (·.2)) c2):=⟨_,get?_update_seq j λ_=>(arrOf st).map (·.2)⟩;have em:(arrOf st).map (·.2)=List.toArray ((arrOf st).toList.map (·.2)):=by apply Ef.mp;rw[Eg]
  refine h _ tk (arrOf st).toList c2 (λb o C e=>(s2.2 b C).trans<|k3 b o C e) ?_ hp hs;rw[em] at r ⊢;exact r
 have len:∀st:SortSt,(arrOf st).toList.Perm (vs.zip vs)->((arrOf st).map (·.2)).size<=sizeLine+1:=λst hp=>by have:=hp.length_eq;rw[CC,A2] at this;rw[EG];lia
 rw[list_sort_plain];refine Aa<|listItems_at ho rfl ?_;refine Aa (listUpdate_at ho rfl ?_ (by rw[Ar];exact wE)<|A3 _);refine Aa<|seqEpoch_at p rfl ?_;refine Aa (wpAny_newTuple ?_ (by show vs.length<=_;lia));refine Aa<|wpAny_newList ?_<|A3 _;refine A6 ?_;show wpAny (model prog w) A _ P E { s with heap:=((s.heap.update a<|Obj.mapSeq λ_=>(#[]:Array Value)).push<|seqObj "tuple" vs.toArray 0).push (seqObj "list" #[] 0) };rw[<-U];dsimp only;by_cases l:vs.toArray.size<2
 ·rw[AC l,AC l];refine Aa<|An ?_;rw[y1];refine Aa<|An ?_;dsimp only;refine Aa<|seqEpoch_at j rfl ?_;have pz:(arrOf<|SortSt.mk' oneType' (vs.toArray.zip vs.toArray) #[] 7 none).toList.Perm (vs.zip vs):=by show(vs.toArray.zip vs.toArray).toList.Perm _;rw[t]
  refine Aa<|listUpdate_at j rfl ?_ (A3 _)<|len _ pz;simp only[bne_self_eq_false,BO,if_false];refine An<|tail (SortSt.mk' oneType' (vs.toArray.zip vs.toArray) #[] 7 none) pz ?_ _;show(vs.toArray.zip vs.toArray).toList.Pairwise _;rw[t];rw[Ar] at l;have:(vs.zip vs).length<2:=by rw[CC];lia
  exact lu this
 ·rw[AB l,AB l];rw[Ar] at l;rw[zJ hk l];refine Aa<|An ?_;refine Aa (AX (vL (E:=E) (Si (s:={ s with heap:=J })) (st:=SortSt.mk' oneType' (vs.toArray.zip vs.toArray) #[] 7 none)
   (Q:=λ_ I=>failedOf I=none/\(arrOf I).toList.Perm (vs.zip vs)/\((arrOf I).toList.Pairwise λx y=>nmI x<=nmI y)) (by show(vs.toArray.zip vs.toArray).size<128;simp;lia) rfl rfl rfl (λx T=>?_) λI b1 b2 b3=>⟨b1,?_,b3⟩) ?_ λ_ _ e=>e)
  ·have T:x∈(vs.toArray.zip vs.toArray).toList:=T;rw[t] at T;exact hk _ (mem_self_zip T).1
  ·have b2:(arrOf I).toList.Perm (vs.toArray.zip vs.toArray).toList:=b2;rw[t] at b2;exact b2
  ·rintro⟨⟨⟩,I⟩ s' ⟨rfl,b1,b2,b3⟩;dsimp only;refine Aa<|seqEpoch_at j rfl ?_;refine Aa<|listUpdate_at j rfl ?_ (A3 _)<|len _ b2;rw[b1];simp only[bne_self_eq_false,BO,if_false];exact An<|tail I b2 b3 _
theorem w_sortedI(p:s.heap.IsList l vs.toArray)(hz:vs.length<=127)(r:∀v∈vs,IntV v)
 (h:∀h' tk (xs:List Keyed) D c,s.heap.objs.size<=D->(∀b o,s.heap.get? b=some o->h'.get? b=some o)->h'.get? D=some (seqObj "list" (List.toArray (xs.map (·.2))) c)->xs.Perm (vs.zip vs)->(xs.Pairwise λx y=>nmI x<=nmI y)->Q (.ref D) { s with heap:=h',toks:=tk }):
 wpAny (model prog w) A (call (.builtin "sorted") [.ref l]) Q E s:=by
 have big:(100000:Nat)+1<=sizeLine:=by rw[sizeLine_eq];lia
 refine Calls.call_function_entry kind_sorted plain_sorted entry_sorted (args_sorted1 _) ?_;unfold Builtin.«sorted»;refine Aa (m:=checkCount "sorted" 1 1 _)<|An ?_;refine Aa<|collect_list p ?_ (by lia);refine Aa<|wpAny_newList ?_ (by lia);obtain⟨g,U⟩:∃g,g=(s.heap.push<|seqObj "list" #[] 0).update s.heap.objs.size (Obj.mapSeq (· ++ vs.toArray)):=⟨_,rfl⟩;have j:g.objs.size=s.heap.objs.size+1:=by rw[U,xp,size_push']
 have t:∀b o,s.heap.get? b=some o->g.get? b=some o:=λb o q=>by have I:b<s.heap.objs.size:=pj q;rw[U,xT _ _ _ _<|A5 I];exact oe _ q
 show wpAny _ _ _ _ _ { s with heap:=((s.heap.push<|seqObj "list" #[] 0).update s.heap.objs.size (Obj.mapSeq (· ++ vs.toArray))).push (seqObj "list" vs.toArray 0) };rw[<-U];have J:(g.push<|seqObj "list" vs.toArray 0).get? g.objs.size=some (seqObj "list" vs.toArray 0):=pR _ rfl;have keep:∀b o,s.heap.get? b=some o->(g.push<|seqObj "list" vs.toArray 0).get? b=some o:=λb o q=>oe _<|t b o q;refine Aa<|A6<|wpAny_call_entry slot_list_sort ⟨_,J,rfl⟩ entry_list_sort ?body<|args_list_sort _
 case body=>
  refine Sj (s:={ s with heap:=g.push (seqObj "list" vs.toArray 0) }) J hz r λh' tk xs c C T pm pw=>?_;refine⟨_,rfl,An ⟨_,rfl,h h' tk xs g.objs.size c (by rw[j];exact B6 _) (λb o q=>C b o ?_<|keep b o q) T pm pw⟩⟩;have I:b<s.heap.objs.size:=pj q;intro z;rw[z,j] at I;exact Dr I
end
end TS
namespace L2
open PySem PySem.Spec PyProof.Rows
theorem mX:∀{I:List Int} {vs:List Value},zn (I.map V.int) vs->IntsAre vs I
 |[],_,.nil=>.nil
 |n::_,_,.cons ψ p=>by obtain⟨t,e⟩:=ψ;subst e;exact .cons n t<|mX p
theorem sM:∀{vs:List Value} {I:List Int},IntsAre vs I->(vs.zip vs).map TS.nmI=I
 |_,_,.nil=>rfl
 |_,_,.cons n t h=>by rw[DC,AG,sM h];rfl
theorem rX:∀{vs:List Value} {I:List Int},IntsAre vs I->∀v∈vs,TS.IntV v:=by
 intro vs I h
 induction h with
 |nil=>intro v h;cases h
 |cons n t k J=>
  intro v h;rcases Ao.mp h with rfl|h
  ·exact⟨n,t,rfl⟩
  ·exact J v h
theorem tS:∀{xs:List PyProof.Rows.Keyed},(∀x∈xs,TS.IntV x.1/\x.1=x.2)->zn ((xs.map TS.nmI).map V.int) (xs.map (·.2))
 |[],_=>.nil
 |x::r,h=>by obtain⟨⟨i,t,e⟩,I⟩:=h x<|Ak ..;refine .cons ⟨t,?_⟩<|tS λy J=>h y<|Ab _ J;show x.2=Value.int (TS.nmI x) t;rw[<-I,e];unfold TS.nmI;rw[e]
def Sk(X:Cx):List V->Hp->VK->Prop:=λxs H Q=>∃(l:Addr) (I:List Int),xs=[.ref l]/\wr X.K H l (I.map V.int)/\I.length<=127/\
 ∀(D:Addr) (ms:List Int),H D=none->ms.Perm I->ms.Pairwise (λa b:Int=>a<=b)->Q (.ref D) (upd H D<|.lst<|ms.map V.int)
theorem uu:jo X (.builtin "sorted") (Sk X):=by
 intro p s σ H xs us Q I r h;obtain⟨l,t,rfl,hl,J,q⟩:=h;obtain⟨u,rfl,ru⟩:=r.one;cases (show u=Value.ref l from ru);obtain⟨g,C,pl,hz⟩:=I.list hl;have j:=mX C;have l1:t.length=g.length:=by have:=C.length;rw[Ah] at this;exact this
 refine jt I.tk (TS.w_sortedI pl.isList (by rw[<-l1];exact J) (rX j) λh' tk U D c T hk hg pm pw ht=>?_);have mk:∀x∈U,TS.IntV x.1/\x.1=x.2:=λx hx=>by obtain⟨m1,m2⟩:=TS.mem_self_zip<|pm.mem_iff.mp hx;exact⟨rX j _ m1,m2⟩
 have pn:(U.map TS.nmI).Perm t:=by rw[<-sM j];exact pm.map _
 refine⟨.ref D,_,I.laid (t':=tk) (o:=.lst<|(U.map TS.nmI).map V.int) hk T ⟨?_,U.map (·.2),c,tS mk,hg⟩,rfl,q D _ (I.hok.fresh T) pn<|B0.mpr pw⟩;rw[Ah,pn.length_eq,<-Ah (f:=V.int)];exact hz
end L2
namespace L3
open PySem L2
def Jr(xs:List Y)(L:ql)(Q:YK):Prop:=match xs with
 |[.ref a]=>cZ L a λys=>∃I:List Int,ys=I.map Y.int/\I.length<=127/\∀(D:Addr) (ms:List Int),L D=none->ms.Perm I->ms.Pairwise (λa b:Int=>a<=b)->Q (.ref D) (qe L D<|.lst<|ms.map Y.int)
 |_=>False
theorem xN{G:G3}{H:Hp}:∀{I:List Int} {xs:List V},xj G H (I.map Y.int) xs->xs=I.map V.int
 |[],_,h=>h
 |n::r,_,ψ=>by obtain⟨x,J,e,U,s⟩:=ψ;subst e;cases (show x=V.int n from U);rw[xN s];rfl
theorem wS{G:G3}{H:Hp}:∀I:List Int,xj G H (I.map Y.int)<|I.map V.int
 |[]=>rfl
 |n::r=>⟨_,_,rfl,rfl,wS r⟩
theorem Sl :jo X (.builtin "sorted") (f_ X.g3 Jr):=E7 uu λC H Q T L Q3 j J z k=>by
 unfold Jr at z;split at z
 ·rename_i a;obtain⟨zs,e,l,rfl,I,z⟩:=x5 z;obtain⟨vs,o,r⟩:=J a _ e;obtain⟨u,rfl,p⟩:=j.inv1;cases (show u=V.ref a from p);cases xN r;exact⟨a,l,rfl,E9 o,I,λD g U pm t=>k _ _ _ _ (EN U) (J.newL U<|wS g) (by rfl)<|z D g (J.none U) pm t⟩
 ·exact z.elim
open PySem L2 Words
theorem gU(l:List Nat):nY l=(l.map λn:Nat=>(n:Int)).map Y.int:=by unfold nY;rw[B5];rfl
theorem fF{L:ql}:∀xs:List Int,Paired (jj L 0) (xs.map Y.int)<|xs.map λx=>Da.s<|.int x
 |[]=>.nil
 |_::r=>.cons ⟨rfl,rfl⟩<|fF r
theorem Sm(l:List Nat):Da.eqs ((l.map λn:Nat=>(n:Int)).map λx=>Da.s<|.int x) ((l.map λn:Nat=>(n:Int)).map λx=>Da.s<|.int x)=true:=by rw[B5];exact(kM l l).mpr rfl
theorem mz(f:Option Kn->Bool)(wd:List<|Option Kn)(n:Nat):(kO f wd n).Pairwise λa b=>a<b:=by unfold kO;exact CT _ List.pairwise_lt_range
theorem KW.ex{w:Wd}(h:KW (x4 wd) p w):∃k,wd[p]?=some (some k):=by cases w with|leaf t n=>exact⟨_,h.inv_lf⟩|node e l r=>obtain⟨i,j,a,_⟩:=h.inv_nd;exact⟨_,a⟩
section
variable {E:List Nat}
theorem SR.rls(h:SR ks R E):∀B∈eU R,(∃EB,SR ks B EB)/\(∀x∈qk B,x∈qk R)/\(qk B).Sublist (qk R)/\v3 B<=v3 R/\(∀c∈zb B,c∈zb R):=by
 induction h with
 |link t h2 T U g=>
  intro B J;cases Am.mp J;exact⟨⟨_,.link t h2 T U g⟩,λ_ h=>h,Dl _,Ap _,λ_ h=>h⟩
 |@ei r i j A EA E t hA T U g h6 h7 ih=>
  intro B J;rcases Ao.mp J with rfl|J
  ·exact⟨⟨_,.ei t hA T U g h6 h7⟩,λ_ h=>h,Dl _,Ap _,λ_ h=>h⟩
  ·obtain⟨a,b,c,d,e⟩:=ih B J;exact⟨a,λx h=>Ab _<|b x h,c.cons _,B1 d,e⟩
 |@bo r i j A B EA EB E t hA J U g h6 h7 l o=>
  intro C I;rcases Ao.mp I with rfl|I
  ·exact⟨⟨_,.bo t hA J U g h6 h7⟩,λ_ h=>h,Dl _,Ap _,λ_ h=>h⟩
  ·rcases Ag.mp I with I|I
   ·obtain⟨a,b,c,d,e⟩:=l C I;exact⟨a,λx h=>Ab _<|Ai _<|b x h,(c.trans<|DV ..).cons _,by show _<=max (v3 A) (v3 B)+1;lia,λx h=>Ai _<|e x h⟩
   ·obtain⟨a,b,c,d,e⟩:=o C I;exact⟨a,λx h=>Ab _<|Ae _<|b x h,(c.trans<|CZ ..).cons _,by show _<=max (v3 A) (v3 B)+1;lia,λx h=>Ae _<|e x h⟩
 |@cu p q A B EA EB E w hA J T U g h6 h7 h8 l o=>
  intro C I;rcases Ao.mp I with rfl|I
  ·exact⟨⟨_,.cu hA J T U g h6 h7 h8⟩,λ_ h=>h,Dl _,Ap _,λ_ h=>h⟩
  ·rcases Ag.mp I with I|I
   ·obtain⟨a,b,c,d,e⟩:=l C I;exact⟨a,λx h=>Ai _<|b x h,c.trans<|DV ..,by show _<=max (v3 A) (v3 B)+1;lia,λx h=>Ab _<|Ai _<|e x h⟩
   ·obtain⟨a,b,c,d,e⟩:=o C I;exact⟨a,λx h=>Ae _<|b x h,c.trans<|CZ ..,by show _<=max (v3 A) (v3 B)+1;lia,λx h=>Ab _<|Ae _<|e x h⟩
theorem aq:∀{R A B:Ru},A∈eU R->B∈eU A->B∈eU R
 |.link p q,A,B,I,J=>by cases Am.mp I;exact J
 |.ei r C,A,B,I,J=>by
  rcases Ao.mp I with rfl|I
  ·exact J
  ·exact Ab _<|aq I J
 |.bo r C D,A,B,I,J=>by
  rcases Ao.mp I with rfl|I
  ·exact J
  ·rcases Ag.mp I with I|I
   ·exact Ab _<|Ai _<|aq I J
   ·exact Ab _<|Ae _<|aq I J
 |.cu p q C D,A,B,I,J=>by
  rcases Ao.mp I with rfl|I
  ·exact J
  ·rcases Ag.mp I with I|I
   ·exact Ab _<|Ai _<|aq I J
   ·exact Ab _<|Ae _<|aq I J
theorem gM(A:Ru):A∈eU A:=by rw[rM];exact Ak ..
theorem Sn{A B:Ru}(h:B∈wu A):B∈eU A:=by rw[rM];exact Ab _<|AV.mpr ⟨B,h,gM B⟩
end
noncomputable def jI:RD "_law_stir" dw 0 ["_law_script","_law_total","_law_k","_law_cell"] (λ_=>True):=⟨_,λV B c _ _ _ _ _ _ _ I hN J=>(qa (S_ 1 hN qf)<|qa (vh p0 rfl (ef rfl B.bg<|qv 0) (aN (n:=2) rfl<|zg (G_ 2 hN)<|zg (G_ 3 hN) kc)<|qd<|S_ 1 hN<|qj jz (qj j4 (qj j4 (qj j4 (qj lv (qv 1) qf)<|qj jz (qv 3) qf)<|qv 2) qf) qf)<|qd<|qx<|qv 1)⟩
noncomputable def rq:kh:=(jI).1
noncomputable def jD:RD "_law_pick" dq 0 ["_law_stir_here","_law_factor"] (λ_=>True):=⟨_,λV B c _ _ _ _ _ _ _ I hN J=>(qd<|qx<|qj w9 (qj jz (qj lv (qv 0)<|qv 1) qf) qf)⟩
noncomputable def rN:kh:=(jD).1
noncomputable def iq(J:zc)(U:zc)(I:zc):RD "_law_sown" dR 172 ["_law_script","_law_stir_here","_law_wide","_law_room"] (λV=>Gg V J/\IW V U/\IQ V I):=⟨_,λV B c _ _ _ _ _ _ _ g hN j=>(qa (S_ 3 hN<|qj j4 qf<|qj jz (C_ c.1 g<|wg (qv 1) qf) qf)<|w5 (zv (E_ j (qj jz (C_ c.1 g<|wg (qv 1) qf) qf) qf) (qd<|S_ 3 hN<|qv 2) z9)<|qd<|qx<|C_ c.2.1 g<|cS (vj (jH _ _ _) (qv 0) (ve qf) aP) (qj jz (C_ c.2.2 g<|wg (qv 0) qf) qf)<|qv 3)⟩
noncomputable def rQ(J:zc)(U:zc)(I:zc):kh:=(iq J U I).1
def oi:zc:=λys L Q=>∃I:List Int,ys=[.sq<|I.map Y.int]/\∀v:Int,Q (.int v) L
theorem So:∀ys L Q,oi ys L Q->jw rq 4 ys L Q:=by
 rintro ys L Q ⟨g,rfl,q⟩;refine kz ⟨λ_ I J=>∃v c2 c3,I=[some<|.sq<|g.map Y.int,some<|.int v,c2,c3]/\J=L,⟨1,_,_,rfl,rfl⟩,λ_ _ _ _=>True.intro,?_,?_⟩
 ·rintro i y I J j ⟨v,c2,c3,rfl,rfl⟩;obtain⟨z,U,rfl⟩:=cB j;rw[Aq] at U;obtain⟨z,l,rfl⟩:=Aw.mp U;exact⟨.inr ⟨by decide,by decide⟩,(by decide:(0:Int)<1000003),(by decide:(0:Int)<2147483647),_,EL _,_,_,_,rfl,rfl⟩
 ·rintro I J ⟨v,c2,c3,rfl,rfl⟩;exact x0<|q v
def kQ:zc:=λys L Q=>∃s f:Int,ys=[.int s,.int f]/\0<f/\f<1000000000/\∀v,0<=v->v<134217728->Q (.int v) L
theorem Sq:∀ys L Q,kQ ys L Q->jw rN 2 ys L Q:=by
 rintro ys L Q ⟨s,f,rfl,I,J,q⟩;refine⟨.inr ⟨by omega,by omega⟩,(by decide:(0:Int)<2147483629),⟨by decide,by decide⟩,x0<|q _ ?_ ?_⟩
 all_goals
  generalize s*f=z;omega
structure xF(ks:List Kn)(R:Ru)(E:List Nat):Prop where
 ok:dM ks
 sr:SR ks R E
 tp:(qk R).Perm (List.range ks.length)
 len:ks.length<=96
theorem yj(I:List Int)(lo hi:Option Int):∃ms:List Int,gH (I.map Y.int) lo hi=ms.map Y.int/\ms.length<=I.length:=by unfold gH;refine⟨(I.drop<|HT.sIx (I.map Y.int).length 0 lo).take<|HT.sIx (I.map Y.int).length (I.map Y.int).length hi-HT.sIx (I.map Y.int).length 0 lo,by rw[DW,EJ],?_⟩;rw[AQ,BC];lia
def qA:zc:=λys L Q=>∃I:List Int,∃s:Int,∃w:Nat,∃wi:Int,ys=[.sq<|I.map Y.int,.int s,.int wi]/\wi=(w:Int)/\I.length<=63/\w<=96/\∀ka ks R E L',qg L L'->L ka=none->L' ka=some (.lst<|js ks)->xF ks R E->Q (.tup [.ref ka,zu R]) L'
theorem Sr:∀ys L Q,qA ys L Q->jw (rQ kQ lQ gB) 4 ys L Q:=by
 rintro ys L Q ⟨I,s,w,wi,rfl,rfl,hn,hw,q⟩;refine⟨s,774511,rfl,by decide,by decide,λv v0 _=>⟨(by decide:(0:Int)<37),?_⟩⟩;refine⟨λg j=>∃r:Nat,r<=96/\g=[some<|.sq<|I.map Y.int,some<|.int s,some<|.int (w:Int),some<|.int (r:Int)]/\j=L,?_,?_⟩
 ·refine⟨s,31337,rfl,by decide,by decide,λu _ _=>⟨(by decide:(0:Int)<8),jg (λ_=>⟨w,hw,rfl,rfl⟩) λ_=>⟨(24+v % 37).toNat,by lia,?_,rfl⟩⟩⟩;rw[show(((24+v % 37).toNat:Nat):Int)=24+v % 37 by lia];rfl
 ·rintro g j ⟨r,o,rfl,rfl⟩ pm J;obtain⟨p,U,t⟩:=yj I (some 1) none;rw[U];exact⟨I,0,rfl,by decide,λc=>⟨(by decide:(0:Int)<1000000000),pm,p,_,r,rfl,q9,by lia,o,λC T R E l ok sr tp hl=>x0<|q C T R E _ ((By J).trans<|By l) (wv l) q9 ⟨ok,sr,tp,by lia⟩⟩⟩
open PySem L2 PyProof.Rows
end L3
namespace L2
open PySem PySem.Spec PyProof.Rows
theorem Ss(neg:Bool)(p:X.A.units+128<cLine):w6 X (compareOp<|if neg then .NotIn else .In) (λx y H Q=>∃a kvs k,y=.ref a/\H a=some (.dK kvs)/\x=kV k/\Q (.bl<|if neg then !(bM kvs k).isSome else(bM kvs k).isSome) H):=by rintro U s r H x y v u Q I g j ⟨a,kvs,k,l,e,ex,q⟩;subst ex l;cases (show u=Value.ref a from j);cases neg with|false=>exact Ny (by omega) I (ot.k e) g λo J=>⟨.bl _,H,J,rfl,q⟩|true=>exact Nz (by omega) I (ot.k e) g λo J=>⟨.bl _,H,J,rfl,q⟩
end L2
namespace L3
open PySem L2
theorem Su{xs:List<|j9×V}(p:Paired (λ(p:j9×Y) (q:j9×V)=>p.1=q.1/\RV G H p.2 q.2) kvs xs)(k:j9):(bM xs k).isSome=(km kvs k).isSome:=by
 unfold bM km;rw[CM,CM]
 induction p with
 |nil=>rfl
 |@cons a b _ _ r t I=>
  rw[BB,BB,r.1];cases decide (b.1=k) with|true=>rfl|false=>exact I
def Fv(neg:Bool)(x y:Y)(L:ql)(Q:YK):Prop:=match y,Fo x with
 |.ref a,some k=>pP L a λkvs=>Q (.bl<|nb neg (km kvs k).isSome) L
 |_,_=>False
theorem Sv(neg:Bool)(j:X.A.units+128<cLine):w6 X (compareOp<|if neg then .NotIn else .In) (iT X.g3<|Fv neg):=EZ (Ss neg j) λx y H Q C T L Q3 l o g z k=>by
 unfold Fv at z;split at z
 ·rename_i a I p;obtain⟨J,e,z⟩:=gc z;obtain⟨U,r,t⟩:=g a _ e;refine⟨a,U,I,o,r,lT p l,?_⟩;have:(if neg=true then !(bM U I).isSome else(bM U I).isSome)=nb neg (km J I).isSome:=by rw[Su t];cases neg<;>simp[nb]
  rw[this];exact k _ H _ L (EM _) g (by rfl) z
 ·exact z.elim
theorem Sw(I:X.A.units+128<cLine):w6 X (compareOp .NotIn) (iT X.g3<|Fv true):=Sv true I
def Js(xs:List Y)(L:ql)(Q:YK):Prop:=match xs with
 |[.ref a]=>cZ L a λys=>Q (.tup ys) L
 |_=>False
theorem Sx :jo X (.type "tuple") (f_ X.g3 Js):=E7 nL λt H Q C L T g J z k=>by
 unfold Js at z;split at z
 ·rename_i a;obtain⟨u,rfl,j⟩:=g.inv1;obtain⟨o,e,z⟩:=x5 z;obtain⟨U,p,r⟩:=J a _ e;cases (show u=V.ref a from j);exact⟨a,U,rfl,.inl ⟨.inl<|.inl p,λl I=>k _ _ (.tup o) L (EN I) (J.skip I) ⟨l,U,rfl,.inl<|.inl zq,r.ts<|EN I⟩ z⟩⟩
 ·exact z.elim
open PySem L2 Words
def plR:Ru->List Nat
 |.link p q=>[p,q]
 |.ei r _=>[r]
 |.bo r _ _=>[r]
 |.cu p q _ _=>[p,q]
theorem tD(A:Ru):0<v3 A:=by cases A<;>simp[v3]
structure UsI(us:List Nat)(kvs:List<|j9×Y):Prop where
 val:∀x:Nat,(km kvs<|.inl (x:Int)).isSome=decide (x∈us)
 len:kvs.length<=us.length
theorem UsI.nil:UsI [] []:=⟨λ_=>rfl,Ap _⟩
theorem UsI.put{us:List Nat}(h:UsI us kvs)(x:Nat)(y:Y):UsI (us++[x]) (mJ kvs (.inl (x:Int)) y):=by
 refine⟨λz=>?_,?_⟩
 ·rw[tH];by_cases e:z=x
  ·subst e;rw[AC rfl,Av<|Ae _<|Am.mpr rfl];rfl
  ·rw[AB λq=>e<|Cp.mp<|Sum.inl.inj q,h.val];refine Ei.mpr ⟨λq=>Ai _ q,λq=>?_⟩;rcases Ag.mp q with q|q
   ·exact q
   ·exact absurd (Am.mp q) e
 ·have:=sR kvs (.inl (x:Int)) y;have:=h.len;rw[Ad];show _<=us.length+1;lia
theorem Sy{k:Option Kn}(h:wd[i]?=some k):bp (x4 wd) (0+(i:Int))=some (aX k):=by rw[BI];exact bP h
def Sz(Pt:Addr)(I:zc):kh:=(xb (wb (om aY)<|z7 2)
 (xb (t8 (Ip<|qw 0) (hJ 2<|x6 (z7 3)<|x6 (z7 4) eW) (xb (wb (bL Fn (kg I<|zj (qw 1)<|pY (qw 3)<|oH 39373)<|oH 40)<|z7 5)
 (F8 (jU (j_ (wU 4)<|oH 3) (wb (bL yU (bL yU (qw 5)<|oH 1)<|r_ FZ<|zj (bL uI (qw 2)<|iL 4 1)<|zj (bL uI (qw 2)<|iL 4 2) aY)<|z7 5) fY)
 (eM<|uz wx (qw 2)<|iD<|qw 5))))
 (gG<|Jk Pt lamQ 2<|kY<|wU 0)))
def iR(Pt:Addr):zc:=λys L Q=>∃a,∃ks:List Kn,∃s:Int,ys=[.ref a,.int s]/\L a=some (.lst<|js ks)/\jQ (ks.map some)/\ks.length<=127/\L Pt=some (.tb lamQ)/\
 ∀D qs,L D=none->qs.Perm (List.range (ks.map some).length)->dD (ks.map some) qs->Q (.ref D) (qe L D<|.lst<|nY qs)
theorem yk :∀ys L Q,iR Pt ys L Q->jw (Sz Pt qG) 6 ys L Q:=by
 rintro ys L Q ⟨a,a5,s,rfl,ha,ok,hz,hP,q⟩;obtain⟨g,U⟩:∃g,g=a5.map some:=⟨_,rfl⟩;rw[<-gW,<-U] at ha;rw[<-U] at ok q;have hz:g.length<=127:=by rw[U,Ah];exact hz
 have all:∀i,g[i]?≠some none:=λi e=>by rw[U,Aq] at e;obtain⟨_,_,z⟩:=Aw.mp e;cases z
 have big:=a_;intro J I;have s0:qg L (qe L J<|.lst []):=By I;have a0:a≠J:=aU ha I;refine jx (s0 _ _ ha) λkeep kp=>kz ⟨λi τ l=>∃rks:List Int,∃c3 c4 c5,τ=[some<|Y.ref a,some<|.int s,some<|Y.ref J,c3,c4,c5]/\l=qe L J (.lst<|rks.map Y.int)/\rks.length=i/\yD g rks,⟨[],_,_,_,rfl,rfl,rfl,λp _ _ _ hp=>by cases hp⟩,?_,?_,?_⟩
 ·rintro i τ l ⟨rks,c3,c4,c5,rfl,rfl,_⟩;exact kp _ (by rw[qc a0,qc a0])
 ·rintro i y τ l hy ⟨rks,c3,c4,c5,rfl,rfl,C,T⟩;obtain⟨z,ez,rfl⟩:=cB hy;rw[Aq] at ez;obtain⟨k,ek,rfl⟩:=Aw.mp ez;have hi:=zd ek;refine⟨s,i,39373,rfl,by exact AU _,by omega,by decide,by decide,λv h0 h1=>?_⟩;have m0:(0:Int)<=v % 40:=ED _ (by decide);have a3:(rks.map Y.int).length=i:=by rw[Ah];exact C
  refine⟨show(0:Int)<40 by decide,λa4 l=>∃r:Int,a4=[some<|Y.ref a,some<|.int s,some<|Y.ref J,some<|.int (i:Nat),some<|aX k,some<|.int r]/\l=qe L J (.lst<|rks.map Y.int)/\∀e i j,k=some (.nd e i j)->rks.getD i 0<r/\rks.getD j 0<r,?_,?_⟩
  ·cases k with
   |none=>exact absurd ek<|all i
   |some k=>
    cases k with
    |lf t n=>exact⟨v % 40,rfl,rfl,λe i j z=>by cases z⟩
    |nd e p1 p2=>
     obtain⟨l1,l2⟩:=ok _ _ _ _ ek;have g1:=xg<|rF (rks:=rks) (i:=p1) (by lia);have g2:=xg<|rF (rks:=rks) (i:=p2) (by lia);refine qb q9<|qh g1 ?_;refine qb q9<|qh g2 ?_;refine⟨v % 40+1+max (rks.getD p1 0) (rks.getD p2 0),rfl,rfl,λe' i' j' z=>?_⟩;cases z;have a1:rks.getD p1 0<=max (rks.getD p1 0) (rks.getD p2 0):=Int.le_max_left ..;have a2:rks.getD p2 0<=max (rks.getD p1 0) (rks.getD p2 0):=Int.le_max_right ..;constructor<;>lia
  ·rintro a4 l ⟨r,rfl,rfl,hr⟩;refine qb q9 (qr q9 ⟨by rw[a3];exact big _ (by lia),?_⟩);refine⟨_,EL _,rks++[r],_,_,_,rfl,?_,by rw[Ad,C];rfl,yD.snoc ok T (by rw[C];exact ek) hr⟩;rw[zh,AD];rfl
 ·rintro τ l ⟨rks,c3,c4,c5,rfl,rfl,C,T⟩;rw[ai,Ah] at C;have s1:qg L (qe L J<|.lst<|rks.map Y.int):=By I;refine qb (s1 _ _ ha) ?_;have lo:(x4 g).length=g.length:=Ah ..;refine⟨⟨AU _,by rw[lo];lia⟩,λp hp=>qr q9 ?_⟩;have a7:J≠p:=aU q9 hp;have ab:Pt≠p:=aU (s1 _ _ hP) hp;have ac:Pt≠J:=aU hP I;refine⟨g.length,rks,J,by rw[BY,lo],rfl,(qc a7).trans q9,C,hz,(qc ab).trans<|(qc ac).trans hP,λD qs hD pm pw=>?_⟩;have al:=wv hD;have au:=wv al;refine⟨qe L D<|.lst<|nY qs,λb o e=>?_,q D qs au pm<|R8 ok T C pw⟩;by_cases c:b=D
  ·subst c;rw[q9] at e ⊢;exact e
  ·rw[qc c] at e ⊢;rw[qc (λz=>by subst z;rw[wv hp] at e;cases e),qc (λz=>by subst z;rw[I] at e;cases e)];exact e
theorem lO(y:Y)(l:List Y):gH (y::l) (some 1) none=l:=by
 unfold gH;have e:HT.sIx (y::l).length 0 (some 1)=1:=by show min 1 (l.length+1)=1;lia
 rw[e];show(l.take<|l.length+1-1)=l;rw[Nat.add_sub_cancel,A9]
theorem pH(y:Y)(l:List Y):¬(HT.sIx (y::l).length 0 (some 1)=0/\HT.sIx (y::l).length (y::l).length none=(y::l).length):=λz=>by
 have e:HT.sIx (y::l).length 0 (some 1)=1:=by show min 1 (l.length+1)=1;lia
 rw[e] at z;exact absurd z.1 (by decide)
def EQ:Ru->Str
 |.link _ _ => "link"
 |.ei _ _ => "either"
 |.bo _ _ _ => "both"
 |.cu _ _ _ _ => "cut"
theorem gq(A:Ru):zu A=.tup (.str (EQ A)::(nY (plR A)++(wu A).map zu)):=by cases A<;>rfl
def cH(n:Nat):zc:=λys L Q=>∃R:Ru,∃d,∃kvs:List (j9×Y),∃f:Nat->Nat,ys=[zu R,.ref d]/\L d=some (.dct kvs)/\(∀B∈eU R,∀x∈plR B,km kvs (.inl (x:Int))=some (.int (f x:Int)))/\v3 R<=n/\Q (zu<|a6 f R) L
theorem SA:∀ys L Q,¬cH 0 ys L Q:=by rintro ys L Q ⟨A,_,_,_,_,_,_,h,_⟩;have:=tD A;lia
theorem qN{P:List Nat}{As:List Ru}(h:(nY P++As.map zu)[i]?=some y):(i<P.length/\∃x,P[i]?=some x/\y=.int (x:Int))\/(P.length<=i/\∃B,As[i-P.length]?=some B/\y=zu B):=by
 by_cases c:i<P.length
 ·rw[AJ (by rw[jh];exact c)] at h;exact .inl ⟨c,dS h⟩
 ·rw[Ax (by rw[jh];lia),jh,Aq] at h;obtain⟨B,e,z⟩:=Aw.mp h;exact .inr ⟨by lia,B,e,z.symm⟩
theorem SR.pl{E:List Nat}(h:SR ks R E):∀B∈eU R,∀x∈plR B,x<ks.length:=λB J x I=>by
 obtain⟨⟨p,s⟩,_⟩:=h.rls B J;have l:=s.lt;cases s with
 |link=>exact l x I
 |ei=>rw[Am.mp I];exact l _<|Ak ..
 |bo=>rw[Am.mp I];exact l _<|Ak ..
 |cu U g j o=>
  rcases Ao.mp I with rfl|I
  ·exact l _<|Ai _<|U.sub _ j
  ·rw[Am.mp I];exact l _<|Ae _<|g.sub _ o
noncomputable def fW(I:zc):RR "_law_gather" bq 1 ["_law_rule","_law_links","_law_cuts"] ["_law_rule","_law_links","_law_cuts","_law_arm"] I (λ_=>True):=⟨_,λV B c _ _ J _ _ _ _ _ _ g hN U=>(w5 (zv (E_ U (J_ 0) jl) (qd<|zf<|ze (qv 1)<|jv<|zr<|wg (J_ 0)<|J_ 0) z9)<|w5 (zv (E_ U (J_ 0) jl) (qd<|zf<|ze (qv 2)<|jv<|zr<|wg (J_ 0)<|J_ 0) z9)<|qd<|vh p0 rfl (vC<|vj (uE _ _ _) (qv 0) (ve qf) aP) (G_ 3 hN)<|qd<|zv (xa<|vd .tuple rfl B.bb rfl B.b_tuple cM<|qv 3) (qd<|zf<|C_ J g<|cS (qv 3) (qv 1)<|qv 2) z9)⟩
noncomputable def nM(I:zc):kh:=(fW I).1
noncomputable def Jt(I:zc):RD "_law_web" gC 121 ["_law_tree_here","_law_links","_law_cuts"] (λV=>IX V I):=⟨_,λV B c _ _ _ _ _ _ _ J hN U=>(qa (S_ 1 hN<|jb vt)<|qa (S_ 2 hN<|jb vt)<|qa (zf<|C_ c J<|cS (J_ 0) (qv 1)<|qv 2)<|qd<|qx<|zr<|cS (eL gj rfl B.be aa<|jv<|J_ 0) (ay wT rfl B.bh iI<|jv<|qv 1)<|ay wT rfl B.bh iI<|jv<|qv 2)⟩
noncomputable def SD(I:zc):kh:=(Jt I).1
abbrev ah(L:ql)(l c:Addr)(lk ct:List<|Nat×Nat):ql:=qe (qe L l<|.lst<|qp lk) c<|.lst<|qp ct
theorem Gm{c:Addr}(h:l≠c):ah L l c lk ct l=some (.lst<|qp lk):=(qc h).trans q9
theorem SE{c:Addr}(h:l≠c):qe (ah L l c lk ct) l (.lst<|qp nF)=ah L l c nF ct:=by unfold ah;rw[fI<|A4 h,zh]
theorem wX{c:Addr}{I:List<|Nat×Nat}(h:l≠c):ah (ah L l c lk ct) l c nF I=ah L l c nF I:=by show qe (qe (ah L l c lk ct) l _) c _=_;rw[SE h,zh]
theorem SF{c:Addr}(h1:L l=some (.lst<|qp lk))(h2:L c=some (.lst<|qp ct)):ah L l c lk ct=L:=by unfold ah;rw[ar h1,ar h2]
def aw(n:Nat):zc:=λys L Q=>∃R:Ru,∃l c,∃lk ct:List (Nat×Nat),ys=[zu R,.ref l,.ref c]/\L l=some (.lst<|qp lk)/\L c=some (.lst<|qp ct)/\l≠c/\v3 R<=n/\lk.length+iC R<=127/\ct.length+iC R<=127/\Q .non (ah L l c (lk++qt R)<|ct++zb R)
theorem y0:∀ys L Q,¬aw 0 ys L Q:=by rintro ys L Q ⟨A,_,_,_,_,_,_,_,_,h,_⟩;have:=tD A;lia
theorem SG(R:Ru):(tN R).length<=1/\(uT R).length<=1:=by cases R<;>simp[tN,uT]
theorem wf:∀R:Ru,(qt R).length+(zb R).length<=iC R
 |.link _ _=>Ap _
 |.ei _ A=>by have:=wf A;show _<=iC A+1;exact B1 this
 |.bo _ A B=>by have:=wf A;have:=wf B;show(qt A++qt B).length+(zb A++zb B).length<=iC A+iC B+1;rw[Ad,Ad];lia
 |.cu p q A B=>by have:=wf A;have:=wf B;show(qt A++qt B).length+((p,q)::(zb A++zb B)).length<=iC A+iC B+1;rw[Ad,AK,Ad];lia
theorem SH{As:List Ru} :((As.take j).flatMap qt).length<=((As.take j).map iC).sum/\((As.take j).flatMap zb).length<=((As.take j).map iC).sum:=by
 generalize As.take j=I
 induction I with
 |nil=>exact⟨Ap _,Ap _⟩
 |cons B r J=>
  have:=wf B;rw[Bn,Bn,Ad,Ad,AG,EI];lia
theorem SI{l:List Nat}{x:Nat}(h:l[j]?=some x):(l.take j).sum+x<=l.sum:=by
 obtain⟨I,e⟩:=AS.mp h;have:l=l.take j++x::l.drop (j+1):=by rw[<-e,CA,Be]
 have:=BL List.sum this;rw[List.sum_append,EI] at this;lia
theorem yK(n:Nat):∀ys L Q,aw (n+1) ys L Q->jw (nM<|aw n) 4 ys L Q:=by
 rintro ys L Q ⟨R,l,c,lk,U,rfl,t,hc,ne,hr,hz,hy,q⟩;have big:=a_;have pl:∀l:List (Nat×Nat),(qp l).length=l.length:=λl=>Ah ..;have rz:=R9 R;have same:ah L l c (lk++[]) (U++[])=L:=by rw[AE,AE];exact SF t hc
 refine⟨λI J=>I=[some<|zu R,some<|.ref l,some<|.ref c,none]/\J=ah L l c (lk++tN R) (U++[]),?_,?_⟩
 ·cases R with|link p s=>exact qr t (qr t ⟨by rw[pl];exact big _ (by lia),rfl,by rw[AE];unfold ah;rw[fI ne,ar hc];exact BL (λz=>qe L l<|.lst z)<|oO lk (p,s)⟩)|ei r A=>exact⟨rfl,same.symm⟩|bo r A B=>exact⟨rfl,same.symm⟩|cu p s A B=>exact⟨rfl,same.symm⟩
 rintro I L1 ⟨rfl,rfl⟩;refine⟨λI J=>I=[some<|zu R,some<|.ref l,some<|.ref c,none]/\J=ah L l c (lk++tN R) (U++uT R),?_,?_⟩
 ·cases R with|link p s=>exact⟨rfl,rfl⟩|ei r A=>exact⟨rfl,rfl⟩|bo r A B=>exact⟨rfl,rfl⟩|cu p s A B=>exact qr q9 (qr q9 ⟨by rw[pl,AE];exact big _ (by lia),rfl,by rw[AE,zh];exact BL (λz=>qe _ c<|.lst z)<|oO U (p,s)⟩)
 rintro I L1 ⟨rfl,rfl⟩;have va:∀B∈wu R,v3 B<=n:=λB hB=>by have:=oU hB;lia
 have lp:(plR R).length<=2:=by cases R<;>simp[plR]
 have ol:=SG R;rw[vR,zC,<-AA,<-AA] at q;have l1:(lk++tN R).length<=lk.length+1:=by rw[Ad];lia
 have l2:(U++uT R).length<=U.length+1:=by rw[Ad];lia
 rw[gq R];generalize lk++tN R=l_ at q l1 ⊢;generalize U++uT R=g at q l2 ⊢;generalize plR R=P at lp ⊢;generalize wu R=As at va rz q ⊢;generalize EQ R=C;have ll:(nY P++As.map zu).length=P.length+As.length:=by rw[Ad,jh,Ah]
 refine⟨pH _ _,?_⟩;rw[lO];refine kz ⟨λi I J=>∃c3,I=[some<|.tup<|.str C::(nY P++As.map zu),some<|.ref l,some<|.ref c,c3]/\J=ah L l c (l_++(As.take<|i-P.length).flatMap qt) (g++(As.take<|i-P.length).flatMap zb),⟨_,rfl,by rw[Nat.zero_sub,List.take_zero,CW,CW,AE,AE]⟩,λ_ _ _ _=>True.intro,?_,?_⟩
 ·rintro i y I J T ⟨c3,rfl,rfl⟩;rcases qN T with⟨o,x,ex,rfl⟩|⟨o,B,eB,rfl⟩
  ·exact⟨_,EL _,_,rfl,by rw[CK o,CK<|Bf o]⟩
  ·have t1:=SH (As:=As) (j:=i-P.length);have t2:=SI (l:=As.map iC) (j:=i-P.length) (x:=iC B) (by rw[Aq,eB];rfl);rw[DW] at t1;have z:aw n [zu B,.ref l,.ref c] (ah L l c (l_++(As.take<|i-P.length).flatMap qt)<|g++(As.take<|i-P.length).flatMap zb) λz L4=>dI (λI J=>∃c3,I=[some<|.tup<|.str C::(nY P++As.map zu),some<|.ref l,some<|.ref c,c3]/\J=ah L l c (l_++(As.take<|i+1-P.length).flatMap qt) (g++(As.take<|i+1-P.length).flatMap zb)) [some<|.tup<|.str C::(nY P++As.map zu),some<|.ref l,some<|.ref c,some<|zu B] L4:=by refine⟨B,l,c,_,_,rfl,Gm ne,q9,ne,va B<|AF eB,by rw[Ad];lia,by rw[Ad];lia,_,EL _,_,rfl,?_⟩;rw[wX ne,Nat.succ_sub o,Bc,eB,A1,A1,AA,AA];simp
   rw[gq B] at z ⊢;exact z
 ·rintro I J ⟨c3,rfl,rfl⟩;rw[ll,BR,A9];exact x0 q
def pG:zc:=λys L Q=>∃a,∃xs:List Y,∃R:Ru,ys=[.tup [.ref a,zu R]]/\L a=some (.lst xs)/\v3 R<=120/\iC R<=127/\(qt R).Nodup/\(zb R).Nodup/\(∀p∈qt R,p.2<1000000)/\(∀p∈zb R,p.2<1000000)/\
 ∀I J c' lk ct L',qg L L'->L I=none->L J=none->L c'=none->I≠J->I≠c'->J≠c'->L' I=some (.lst xs)->L' J=some (.lst<|qp lk)->L' c'=some (.lst<|qp ct)->lk.Perm (qt R)->lk.Pairwise nu->ct.Perm (zb R)->ct.Pairwise nu->Q (aI I J c') L'
theorem SJ:∀ys L Q,pG ys L Q->jw (SD<|aw 120) 3 ys L Q:=by rintro ys L Q ⟨a,xs,R,rfl,ha,hd,hz,n1,n2,b1,b2,q⟩ l hl c hc;have I:l≠c:=aU q9 hc;have p:L c=none:=wv hc;have pz:=wf R;have s0:qg L (ah L l c [] []):=(By hl).trans<|By hc;have e0:qe (qe L l<|.lst []) c (.lst [])=ah L l c [] []:=rfl;have a4:a≠l:=aU ha hl;have a5:a≠c:=aU ha p;rw[e0];refine⟨R,l,c,[],[],rfl,Gm I,q9,I,hd,by rw[Dt];lia,by rw[Dt];lia,?_⟩;rw[wX I,Ci,Ci];have T:qg L (ah L l c (qt R)<|zb R):=((EL _).upd hl).upd p;have g1:ah L l c (qt R) (zb R) l=some (.lst<|qp<|qt R):=Gm I;have g2:ah L l c (qt R) (zb R) c=some (.lst<|qp<|zb R):=q9;generalize ah L l c (qt R) (zb R)=L1 at T g1 g2 ⊢;refine qb (T _ _ ha) λr J=>?_;have s2:=T.trans<|By (o:=.lst xs) J;show l5 [.ref l] (qe L1 r<|.lst xs) λz2 L2=>l5 [.ref c] L2 λz3 L3=>mE Q (.tup [.ref r,z2,z3]) L3;refine Jn (By J _ _ g1) b1 n1 (by lia) λD1 lk U a0 a1=>?_;have s3:=s2.trans<|By (o:=.lst<|qp lk) U;refine Jn (((By J).trans<|By U) _ _ g2) b2 n2 (by lia) λD2 ct g a2 a3=>?_;have j:r≠D1:=aU q9 U;have t:D1≠D2:=aU q9 g;have C:r≠D2:=aU ((qc j).trans q9) g;exact x0<|q r D1 D2 lk ct _ (s3.trans<|By g) (T.none J) (s2.none U) (s3.none g) j C t ((qc C).trans<|(qc j).trans q9) ((qc t).trans q9) q9 a0 a1 a2 a3
def tK:kh:=(xb (wb (qw 0)<|hJ 3<|x6 (z7 1)<|x6 (z7 2)<|x6 (z7 3) eW)
 (xb (wb Iu<|z7 4)
 (xb (t8 (du<|qw 1) (z7 5) (jU (Em (yB<|nO true<|qw 5)<|j_ (wU 5)<|oH 3) (xb (tE (qw 4) (iL 5 1)<|yC<|.bl true)
 (tE (qw 4) (iL 5 2)<|yC<|.bl true)) fY))
 (xb (t8 (du<|qw 3) (hJ 2<|x6 (z7 6)<|x6 (z7 7) eW) (xb (tE (qw 4) (qw 6)<|yC<|.bl true)
 (tE (qw 4) (qw 7)<|yC<|.bl true)))
 (Jm 6<|gG<|x_ 1 (vA<|iD<|wU 1) (z7 8) (Em (yB<|nO true<|bL uI (qw 1)<|qw 8)<|yB<|bL (Fv true) (qw 8)<|qw 4)<|qw 8)))))
def kE:zc:=λys L Q=>∃a l c,∃wd:List (Option Kn),∃ct:List (Nat×Nat),ys=[aI a l c]/\L a=some (.lst<|x4 wd)/\L c=some (.lst<|qp ct)/\wd.length<=1000/\ct.length<=1000/\∀p,L p=none->Q (.ref p) (qe L p<|.lst<|nY<|ji wd (zp wd ct) wd.length)
theorem SK:∀ys L Q,kE ys L Q->jw tK 8 ys L Q:=by
 rintro ys L Q ⟨wa,la,ca,I,l,rfl,e1,e3,wl,cl,q⟩;have big:=a_;intro us T;have s2:qg L (qe L us<|.dct []):=By T;refine jx (s2 _ _ e1) λkeep kp=>kz ⟨λi r j=>∃J c3 c4 c5,r=[some<|aI wa la ca,some<|.ref wa,some<|.ref la,some<|.ref ca,some<|.ref us,c3,c4,c5]/\qg L j/\j us=some (.dct J)/\UsI (jp<|I.take i) J,⟨[],_,_,_,rfl,s2,q9,UsI.nil⟩,?_,?_,?_⟩
 ·rintro i r j ⟨J,c3,c4,c5,rfl,s,_⟩;exact kp j (by rw[s _ _ e1,s2 _ _ e1])
 ·rintro i y r j hy ⟨J,c3,c4,c5,rfl,s,g,U⟩;rw[Aq] at hy;obtain⟨k,ek,rfl⟩:=Aw.mp hy;have et:I.take (i+1)=I.take i++[k]:=by rw[Bc,ek];rfl
  have pl:=fE<|I.take i;rw[AQ] at pl;have ul:=U.len;have stay:j8 k=[]->UsI (jp<|I.take<|i+1) J:=λh=>by rw[et,fh,h,AE];exact U
  cases k with
  |none=>exact⟨_,EL _,_,_,_,_,rfl,s,g,stay rfl⟩
  |some k=>
   cases k with
   |lf t n=>exact⟨_,EL _,_,_,_,_,rfl,s,g,stay rfl⟩
   |nd e i' j'=>
    refine vm g ⟨big _ (by lia),?_⟩;have U1:=U.put i'<|.bl true;have C:=U1.len;rw[Ad] at C;refine vm q9 ⟨big _ (by simp at C;lia),?_⟩;have U2:=U1.put j'<|.bl true;rw[zh];exact⟨_,EL _,_,_,_,_,rfl,s.upd T,q9,by rw[et,fh];rw[AA] at U2;exact U2⟩
 rintro r L2 ⟨J,c3,c4,c5,rfl,s3,g,U⟩;rw[Ah,A9] at U;have pl:=fE I;have a0:=cI l;refine jx (s3 _ _ e3) λkeep kp=>kz ⟨λi r j=>∃J c4 c5,r=[some<|aI wa la ca,some<|.ref wa,some<|.ref la,some<|.ref ca,some<|.ref us,c3,c4,c5]/\qg L j/\j us=some (.dct J)/\UsI (jp I++zm (l.take i)) J,⟨_,_,_,rfl,s3,g,by show UsI (jp I++[]) _;rw[AE];exact U⟩,?_,?_,?_⟩
 ·rintro i r j ⟨J,c4,c5,rfl,s,_⟩;exact kp j (by rw[s _ _ e3,s3 _ _ e3])
 ·rintro i y r j hy ⟨J,c4,c5,rfl,s,g,U⟩;rw[Aq] at hy;obtain⟨pr,ep,rfl⟩:=Aw.mp hy;have et:l.take (i+1)=l.take i++[pr]:=by rw[Bc,ep];rfl
  have pt:=cI<|l.take i;rw[AQ] at pt;have ul:=U.len;rw[Ad] at ul;refine vm g ⟨big _ (by lia),?_⟩;have U1:=U.put pr.1<|.bl true;have C:=U1.len;rw[Ad,Ad] at C;refine vm q9 ⟨big _ (by simp at C;lia),?_⟩;have U2:=U1.put pr.2<|.bl true;rw[zh];exact⟨_,EL _,_,_,_,rfl,s.upd T,q9,by rw[et,xt,bH,<-AA];rw[AA<|_++_] at U2;exact U2⟩
 rintro r L3 ⟨J,a1,a2,rfl,s4,g,U⟩;rw[Ah,A9] at U;have U:UsI (zp I l) J:=U;have C:=s4 _ _ e1;have lw:(x4 I).length=I.length:=Ah ..;refine qb C ⟨⟨AU _,by rw[lw];omega⟩,?_⟩;rw[lw,BY];refine vW (λi o=>o=nY (ji I (zp I l) i)) (big _ (by lia)) rfl ?_ ?_
 ·rintro i o hi rfl;obtain⟨k,ek⟩:∃k,I[i]?=some k:=⟨_,Al hi⟩;have no:bR I (zp I l) i=false->dI (λo j=>j=L3/\o=nY (ji I (zp I l)<|i+1)) (nY<|ji I (zp I l) i) L3:=λh=>⟨L3,EL _,rfl,by rw[cV,AB (by rw[h];exact AI),AE]⟩;have yes:bR I (zp I l) i=true->dI (λo j=>j=L3/\o=nY (ji I (zp I l)<|i+1)) (nY (ji I (zp I l) i)++[.int<|0+(i:Int)]) L3:=λh=>⟨L3,EL _,rfl,by rw[cV,AC h,aW,BI];rfl⟩;refine qb C<|qh (Sy ek) ?_;cases k with
  |none=>exact no (by unfold bR wy;rw[ek];rfl)
  |some k=>
   have key:pP L3 us λJ=>vk (nb true (km J<|.inl<|0+(i:Int)).isSome) (dI (λo j=>j=L3/\o=nY (ji I (zp I l)<|i+1)) (nY (ji I (zp I l) i)++[.int<|0+(i:Int)]) L3) (dI (λo j=>j=L3/\o=nY (ji I (zp I l)<|i+1)) (nY<|ji I (zp I l) i) L3):=by
    refine vm g ?_;rw[show(Sum.inl (0+(i:Int)):j9)=.inl (i:Int) by rw[BI],U.val];by_cases cu:i∈zp I l
    ·exact vi (by rw[Av cu];rfl) (no (by unfold bR wy;rw[ek,Av cu];rfl))
    ·exact cx (by rw[Au cu];rfl) (yes (by unfold bR wy;rw[ek,Au cu];rfl))
   cases k with|lf t n=>exact key|nd e i' j'=>exact key
 ·rintro o rfl p hp;exact kU (qg.put (s4.trans<|By hp) q9)<|q p<|s4.none hp
noncomputable def Ju(U:zc)(I:zc)(J:zc):RD "_law_gapped" bj 121 ["_law_tree_here","_law_stir_here","_law_number_here","_law_gap","_law_offset","_law_at","_law_made","_law_k","_law_p","_law_knot"] (λV=>Gg V U/\IY V I/\IZ V J):=⟨_,λV B c _ _ _ _ _ _ _ j hN g=>(qa (S_ 2 hN<|C_ c.1 j<|wg (qv 1) qf)<|qa (S_ 3 hN qf)<|w5 (zv (E_ g (qj jz (qv 2) qf) qf) (qd<|S_ 3 hN<|qj j4 qf<|qj jz (qj w9 (qv 2) qf) qf) z9)<|qa (S_ 4 hN<|qj jz (qj w9 (qv 2) qf)<|qj j4 (qv 3) qf)<|qa (S_ 5 hN xO)<|qa (S_ 6 hN<|jb vt)<|qa (vh p0 rfl (ef rfl B.bg<|C_ c.2.1 j<|wg (J_ 0)<|qv 1) (aN (n:=2) rfl<|zg (G_ 7 hN)<|zg (G_ 8 hN) kc)<|qa (gR p0 (je u6 (L_ B.ba<|qv 6) (qj j4 (qv 7)<|qj w9 (qj j4 (qv 7)<|qv 4)<|qv 3)<|vf _)<|qd<|zf<|ze (qv 6)<|jv lV)<|qa (gQ g (qv 5) (qv 8)<|L_ B.ba<|qv 6)<|qa (S_ 9 hN<|I_ (J_ 0)<|qv 8)<|qd<|zf<|ze (qv 6)<|jv<|lM (E_ g (L_ B.ba<|qv 9) qf) (qv 9)<|zr<|cS (J_ 9) (dC g (qv 5) (J_ 9) λ_ _=>rfl)<|dC g (qv 5) (J_ 9) λ_ _=>rfl)<|qd<|qx<|zr<|wg (qv 6)<|C_ c.2.2 j<|wg (J_ 0)<|qv 5)⟩
noncomputable def SM(U:zc)(I:zc)(J:zc):kh:=(Ju U I J).1
def pO(Pt:Addr):zc:=λys L Q=>∃a,∃ks:List Kn,∃R:Ru,∃E:List Nat,∃s:Int,ys=[.tup [.ref a,zu R],.int s]/\L a=some (.lst<|js ks)/\xF ks R E/\L Pt=some (.tb lamQ)/\
 ∀w f wd,L w=none->tO f (ks.map some) wd->Q (.tup [.ref w,zu<|a6 f R]) (qe L w<|.lst<|x4 wd)
theorem SN{i off g:Int}(hi:0<=i)(h1:1<=g)(I:off<=g):(i+off) / g<=i+1:=by refine Int.ediv_le_of_le_mul (by lia) ?_;have:=Int.mul_le_mul_of_nonneg_left h1 hi;rw[EF];lia
theorem SO :∀ys L Q,pO Pt ys L Q->jw (SM kQ (iR Pt)<|cH 120) 10 ys L Q:=by
 rintro ys L Q ⟨a,a1,R,E,s,rfl,ha,T,hP,q⟩;have big:=a_;have hz:=T.len;have sr:=T.sr;obtain⟨U,l⟩:∃U,U=a1.map some:=⟨_,rfl⟩;have al:U.length=a1.length:=by rw[l,Ah]
 have ok:jQ U:=by rw[l];exact gn T.ok
 refine⟨s,91827,rfl,by decide,by decide,λnum n0 _=>?_⟩;refine⟨λo L'=>∃g:Int,5<=g/\g<=200/\o=[some<|.tup [.ref a,zu R],some<|.int s,some<|.int num,some<|.int g,none,none,none,none,none,none]/\L'=L,?_,?_⟩
 ·exact⟨(by decide:(0:Int)<3),jg (λ_=>⟨⟨by decide,by decide⟩,(by decide:(0:Int)<9),_,by lia,by lia,rfl,rfl⟩) λ_=>⟨200,by decide,by decide,rfl,rfl⟩⟩
 rintro o L' ⟨g,g1,g2,rfl,rfl⟩;refine⟨⟨by decide,by decide⟩,(show(0:Int)<g+1 by lia),?_⟩;have ho:num / 27 % (g+1)<=g:=by have:=DD (num / 27) (show(0:Int)<g+1 by lia);lia
 show z7 4 (.int<|num / 27 % (g+1)) _ _ _;generalize num / 27 % (g+1)=off at ho ⊢;intro d hd w hw;have a3:L' w=none:=wv hw;have a0:d≠w:=aU q9 hw;have s0:qg L' (qe (qe L' d<|.dct []) w<|.lst []):=(By hd).trans<|By hw;refine⟨a,a1,s,rfl,s0 _ _ ha,by rw[<-l];exact ok,by lia,s0 _ _ hP,λD I hD pm pf=>?_⟩;rw[<-l] at pm pf;have a4:w≠D:=aU q9 hD;have ab:d≠D:=aU ((qc a0).trans q9) hD;have lq:I.length=U.length:=by rw[pm.length_eq,A7]
 have au:I.Nodup:=pm.nodup_iff.mpr Cw;have mq:∀p∈I,p<U.length:=λp hp=>AL.mp<|pm.mem_iff.mp hp;have G0:oq L' U I d w D 0 0 (λ_=>0) [] [] (qe (qe (qe L' d<|.dct []) w<|.lst []) D<|.lst<|nY I):=
  ⟨s0.trans<|By hD,(qc ab).trans<|(qc a0).trans q9,(qc a4).trans q9,q9,Ap _,λp=>rfl,uq.nil _ _,Ap _⟩
 refine jx q9 λkeep kp=>kz ⟨λi o L1=>∃f wd J c7 c8 c9,o=[some<|.tup [.ref a,zu R],some<|.int s,some<|.int num,some<|.int g,some<|.int off,some<|.ref d,some<|.ref w,c7,c8,c9]/\oq L' U I d w D i 0 f wd J L1,⟨_,_,_,_,_,_,rfl,G0⟩,?_,?_,?_⟩
 ·rintro i o L1 ⟨f,wd,J,c7,c8,c9,rfl,G⟩;exact kp L1 (by rw[G.hD,q9])
 ·rintro i y o L1 hy ⟨f,wd,J,c7,c8,c9,rfl,G⟩;obtain⟨z,ez,rfl⟩:=cB hy;obtain⟨p,ep,rfl⟩:=dS ez;have hi:=zd ep;have hp:p<U.length:=mq p<|AF ep;obtain⟨k,hk⟩:∃k,a1[p]?=some k:=⟨_,Al (by lia)⟩;have ac:U[p]?=some (some k):=by rw[l,Aq,hk];rfl
  have pn:p∉I.take i:=λhm=>by
   have e2:I=I.take i++p::I.drop (i+1):=by rw[Al hi] at ep;rw[<-AO ep,CA,Be]
   have nd:=au;rw[e2] at nd;exact(Ay.mp nd).2.2 p hm p (Ak ..) rfl
  have et:I.take (i+1)=I.take i++[p]:=by rw[Bc,ep];rfl
  have a2:∀e i' j',some k=some (.nd e i' j')->i'∈I.take i/\j'∈I.take i:=λe i' j' z=>lz ok pm pf ep (by rw[ac,z]);have a5:∀x∈I.take i,∀e i' j',U[x]?=some (some<|.nd e i' j')->i'∈I.take i/\j'∈I.take i:=λx hx e i' j' z=>by
   obtain⟨n,hn⟩:=BW hx;have av:=zd hn;rw[AQ] at av;rw[List.getElem?_take_of_lt (by lia)] at hn;obtain⟨h1,h2⟩:=lz ok pm pf hn z;have sb:∀y,y∈I.take n->y∈I.take i:=λy hy=>by
    have:I.take n=(I.take i).take n:=by rw[List.take_take,BM (by lia)]
    rw[this] at hy;exact BG hy
   exact⟨sb _ h1,sb _ h2⟩
  have plain:oq L' U I d w D i 1 f wd J L1:=⟨G.sub,G.hd,G.hw,G.hD,G.len,G.val,G.gap,B1 G.wlen⟩;refine⟨λm o L2=>∃wd',o=[some<|.tup [.ref a,zu R],some<|.int s,some<|.int num,some<|.int g,some<|.int off,some<|.ref d,some<|.ref w,some<|.int (i:Int),some<|.int (p:Int),c9]/\oq L' U I d w D i 1 f wd' J L2/\m=2*i+1-wd'.length,⟨_,wd,rfl,plain,rfl⟩,?_⟩;rintro m o L2 ⟨wd',rfl,C,rfl⟩;have wl:=C.wlen;refine qb C.hw ⟨⟨by lia,by lia⟩,?_⟩;refine jg (λc=>?_) λc=>?_
  ·have c:((x4 wd').length:Int)<(i:Int)+((i:Int)+off) / g:=c;rw[ku] at c;have dv:=SN (i:=(i:Int)) (AU _) (show 1<=g by lia) ho;refine⟨λo L3=>∃j,o=[some<|.tup [.ref a,zu R],some<|.int s,some<|.int num,some<|.int g,some<|.int off,some<|.ref d,some<|.ref w,some<|.int (i:Int),some<|.int (p:Int),c9]/\oq L' U I d w D i 1 f j J L3/\j.length=wd'.length+1,?_,?_⟩
   ·rintro o L3 ⟨j,rfl,G2,e⟩;exact⟨2*i+1-j.length,by lia,j,rfl,G2,rfl⟩
   ·refine qb C.hw (qr C.hw ⟨by rw[ku];exact big _ (by lia),?_⟩);have:=C.wide (wd':=wd'++[none]) (ex':=1) a3 a0 a4 C.gap.gap (by rw[Ad];show wd'.length+1<=_;lia);rw[<-sw] at this;exact⟨_,EL _,wd'++[none],rfl,this,Ad⟩
  have vp:∀y:Nat,km (mJ J (.inl (p:Int))<|.int ((wd'.length:Nat):Int)) (.inl (y:Int))=if y∈I.take i++[p] then some (.int (((if y=p then wd'.length else f y):Nat):Int)) else none:=λy=>by
   rw[tH];by_cases e:y=p
   ·subst e;rw[AC rfl,AC rfl,AC<|Ae _<|Am.mpr rfl]
   ·rw[AB λz=>e<|Cp.mp<|Sum.inl.inj z,AB e,C.val];by_cases h:y∈I.take i
    ·rw[AC h,AC<|Ai _ h]
    ·rw[AB h,AB λz=>(Ag.mp z).elim h λz=>e<|Am.mp z]
  have kl:=C.len;refine qb C.hw ?_;rw[ku];refine vm C.hd ⟨big _ (by lia),?_⟩;have aL:a≠d:=aU ha hd;refine qb ((qc aL).trans<|C.sub _ _ ha)<|qh (bP hk) ?_;have a7:qe L2 d (.dct<|mJ J (.inl (p:Int))<|.int ((wd'.length:Nat):Int)) w=some (.lst<|x4 wd'):=(qc<|A4 a0).trans C.hw;have hb:∀x∈I.take i,x<U.length:=λx hx=>mq x<|BG hx;have done:dI (λo L1=>∃f wd J c7 c8 c9,o=[some<|.tup [.ref a,zu R],some<|.int s,some<|.int num,some<|.int g,some<|.int off,some<|.ref d,some<|.ref w,c7,c8,c9]/\oq L' U I d w D (i+1) 0 f wd J L1) [some<|.tup [.ref a,zu R],some<|.int s,some<|.int num,some<|.int g,some<|.int off,some<|.ref d,some<|.ref w,some<|.int (i:Int),some<|.int (p:Int),some<|pU k] (qe (qe L2 d<|.dct<|mJ J (.inl (p:Int))<|.int ((wd'.length:Nat):Int)) w<|.lst<|x4 wd'++[aX<|hX f<|some k]):=by
   rw[sw];refine⟨_,EL _,λx=>if x=p then wd'.length else f x,wd'++[hX f<|some k],_,_,_,_,rfl,(C.sub.upd hd).upd a3,(qc a0).trans q9,q9,(qc<|A4 a4).trans<|(qc<|A4 ab).trans C.hD,?_,λy=>?_,?_,?_⟩
   ·have:=sR J (.inl (p:Int))<|.int ((wd'.length:Nat):Int);lia
   ·rw[et];exact vp y
   ·rw[et];exact C.gap.step hb pn ac a5 a2
   ·rw[Ad];show wd'.length+1<=_;lia
  refine qb a7 ?_;cases k with
  |lf t n=>exact qr a7 ⟨by rw[ku];exact big _ (by lia),done⟩
  |nd e p1 p2=>
   obtain⟨m1,m2⟩:=a2 e p1 p2 rfl;have v1:=vp p1;have v2:=vp p2;rw[AC<|Ai _ m1,AB λ(z:p1=p)=>pn<|z▸m1] at v1;rw[AC<|Ai _ m2,AB λ(z:p2=p)=>pn<|z▸m2] at v2;refine vm ((q9:qe L2 d _ d=some _))<|qh v1 ?_;refine vm ((q9:qe L2 d _ d=some _))<|qh v2 ?_;exact qr a7 ⟨by rw[ku];exact big _ (by lia),done⟩
 ·rintro o L1 ⟨f,wd,J,c7,c8,c9,rfl,G⟩;have eq:(jF<|nY I).length=I.length:=by rw[ai];exact Ah ..
  rw[eq] at G;have et:I.take I.length=I:=A9;have val:∀p,p<U.length->km J (.inl (p:Int))=some (.int (f p:Int)):=λp hp=>by rw[G.val,et,AC<|pm.mem_iff.mpr<|AL.mpr hp]
  have gap:uq U (List.range U.length) f wd:=by have g:=G.gap;rw[et] at g;exact⟨λp hp=>g.at_ p<|pm.mem_iff.mpr hp,λp hp r hr=>g.inj p (pm.mem_iff.mpr hp) r<|pm.mem_iff.mpr hr,λx k hx=>let ⟨r,hr,e⟩:=g.only x k hx;⟨r,pm.mem_iff.mp hr,e⟩,g.ok⟩
  have rd:=wo R;have tl:=T.tp.length_eq;rw[A7] at tl;refine⟨R,d,J,f,rfl,G.hd,λB hB x hx=>val x (by rw[al];exact sr.pl B hB x hx),by lia,?_⟩;have wl:=G.wlen;rw[lq] at wl;exact kU (qg.put G.sub G.hw) (q w f wd a3 ⟨by rw[<-l];exact gap,by rw[<-l];lia⟩)
end L3
namespace L2
open PySem PySem.W
section
variable {K:Aj}(T:K.lookup Pt=some (PySem.W.tabObj #[]))
include T
theorem vO :clsIn (lessK Pt K) C=clsIn K C:=by
 unfold clsIn;by_cases d:C=Pt
 ·subst d;rw[we,T]
 ·rw[xc d]
theorem SQ{b:Value}:mroIn (lessK Pt K) C b=mroIn K C b:=by unfold mroIn;rw[vO T]
theorem SS{t b:Value}:subIn (lessK Pt K) t b=subIn K t b:=by
 unfold subIn;split
 ·rfl
 ·exact SQ T
 ·rfl
end
section
variable {K:Aj}(T:K.lookup Pt=some (PySem.W.tabObj #[]))
include T
theorem isFn_dn{a:Addr}(e:isFn K (.ref a)=true):isFn (lessK Pt K) (.ref a)=true:=by
 unfold isFn at e ⊢;by_cases d:a=Pt
 ·subst d;have h:typeIn K (.ref a)=some Value.none:=by show(List.lookup a K).map _=_;rw[T];rfl
  rw[h] at e;cases e
 ·have h:typeIn (lessK Pt K) (.ref a)=typeIn K (.ref a):=by show(List.lookup a<|lessK Pt K).map _=(List.lookup a K).map _;rw[xc d]
  rw[h];exact e
theorem Cls.dn(c:Cls K C):Cls (lessK Pt K) C:=by
 obtain⟨pg,hd,po,sa⟩:=c;unfold plainGet at pg;unfold hasDictIn at hd;unfold plainOver at po;refine⟨?_,?_,?_,(find_dn T).trans sa⟩
 ·unfold plainGet;rw[find_dn T,find_dn T];exact pg
 ·unfold hasDictIn;rw[vO T];exact hd
 ·unfold plainOver;rw[vO T];exact po
theorem makes_dn(e:makesIn K C=true):makesIn (lessK Pt K) C=true:=by
 unfold makesIn at e ⊢;by_cases d:C=Pt
 ·subst d;rw[T] at e;cases e
 ·have h:typeIn (lessK Pt K) (.ref C)=typeIn K (.ref C):=by show(List.lookup C<|lessK Pt K).map _=(List.lookup C K).map _;rw[xc d]
  have s:∀b,subIn (lessK Pt K) b (.type "type")=subIn K b (.type "type"):=λb=>SS T;unfold instIn at e ⊢;simp only[xc d,m9 T d,h,s];exact e
end
end L2
namespace L3
open PySem L2
theorem XFP.dn{K:Aj}(T:K.lookup Pt=some (PySem.W.tabObj #[]))(x:XFP K C):XFP (lessK Pt K) C:=⟨Cls.dn T x.cl,(find_dn T).trans x.na⟩
open PySem L2 Words
theorem SU{xs:List α}{i:Int}{x:α}(h:uj xs.length i=some j)(e:xs[j]?=some x):bp xs i=some x:=by unfold bp;rw[h];exact e
structure Jv(wd:List<|Option Kn)(lk:List<|Nat×Nat):Prop where
 lkA:∀c∈lk,c.1<c.2/\∃t n,wd[c.1]?=some (some<|.lf t n)/\wd[c.2]?=some (some<|.lf (!t) n)
 lkN:(zm lk).Nodup
 lkL:∀p,p∈zm lk↔∃t n,wd[p]?=some (some<|.lf t n)
 lkS:lk.Pairwise nu
 ll:lk.length<=60
 ne:lk≠[]
 wl:wd.length<=241
theorem SV{a b:Nat}{t:Bool}{n:Str}(J:wd[a]?=some (some<|.lf t n))(I:wd[b]?=some (some<|.lf (!t) n)):(Ev a b).1<(Ev a b).2/\∃t n,wd[(Ev a b).1]?=some (some<|.lf t n)/\wd[(Ev a b).2]?=some (some<|.lf (!t) n):=by
 have U:a≠b:=λh=>by subst h;rw[J] at I;cases t<;>cases I
 unfold Ev;by_cases c:a<b
 ·rw[BM (by lia),Cu (by lia)];exact⟨c,t,n,J,I⟩
 ·rw[Cs (by lia),CB (by lia)];exact⟨by show b<a;lia,!t,n,I,by rw[Bool.not_not];exact J⟩
def um(I:Addr)(J:zc)(p1:zc):kh:=(xb (wb (hW I "head_of" J (qw 0)<|iD<|qw 2)<|z7 3)
 (gG<|x_ 1 (du<|kg p1<|iD<|qw 1) (z7 4) (j_ (hW I "head_of" J (qw 0)<|iD<|qw 4)<|qw 3)<|qw 4))
def uX(I:Addr)(J:zc)(p1:zc)(p2:zc)(p3:zc):kh:=(xb (wb (F_ I J<|iD<|wU 0)<|z7 4)
 (xb (t8 (du<|qw 1) (z7 5)<|eM<|hW I "unite" p1 (qw 4)<|pY (iL 5 0)<|iL 5 1)
 (xb (jU (j_ (hW I "head_of" p2 (qw 4)<|iD<|qw 2)<|hW I "head_of" p2 (qw 4)<|iD<|qw 3) (gG<|yC .non) fY)
 (gG<|mC<|zj (kg p3<|zj (qw 4)<|pY (qw 0)<|qw 2)<|zj (kg p3<|zj (qw 4)<|pY (qw 0)<|qw 3) aY))))
inductive ww(es:List<|Nat×Nat)(p:Nat):Nat->Prop
 |self:ww es p p
 |fwd {a b:Nat}:ww es p a->(a,b)∈es->ww es p b
 |bwd {a b:Nat}:ww es p a->(b,a)∈es->ww es p b
theorem ww.trans{es:List<|Nat×Nat}(h:ww es p q)(k:ww es q r):ww es p r:=by induction k with|self=>exact h|fwd _ m I=>exact .fwd I m|bwd _ m I=>exact .bwd I m
theorem ww.symm{es:List<|Nat×Nat}(h:ww es p q):ww es q p:=by induction h with|self=>exact .self|fwd _ m I=>exact(ww.bwd .self m).trans I|bwd _ m I=>exact(ww.fwd .self m).trans I
theorem wN(es:List<|Nat×Nat):Eqv (ww es):=⟨λ_=>.self,ww.symm,ww.trans⟩
theorem SW{es:List<|Nat×Nat}(g:Gd (List.range n) hs)(j:JnR (List.range n) hs es)(hp:p<n):ww es p q↔g_ hs p q:=by
 obtain⟨U,rk,l⟩:=g;rw[A7] at U;refine⟨λh=>?_,λh=>j.2.2 _ (wN es) (λx o=>.fwd .self o) (vZ (wN es) n) p q h⟩;have J:∀{a b c},g_ hs a b->g_ hs b c->g_ hs a c:=λ ψ χ=>(by obtain⟨r,C,T⟩:=ψ;obtain⟨s,q1,q2⟩:=χ;exact ⟨r,C,T.uniq q1▸q2⟩)
 induction h with
 |self=>
  obtain⟨r,t⟩:=l.rep' (i:=p) (by lia);exact⟨r,t,t⟩
 |fwd _ m I=>exact J I<|j.2.1 _ m
 |bwd _ m I=>obtain⟨r,a,b⟩:=j.2.1 _ m;exact J I ⟨r,b,a⟩
theorem o5{es fs:List<|Nat×Nat}(h:∀x,x∈es↔x∈fs) :ww es p q↔ww fs p q:=by
 have key:∀{es fs:List<|Nat×Nat},(∀x,x∈es->x∈fs)->ww es p q->ww fs p q:=λh k=>by induction k with|self=>exact .self|fwd _ m I=>exact .fwd I (h _ m)|bwd _ m I=>exact .bwd I<|h _ m
 exact⟨key λx=>(h x).mp,key λx=>(h x).mpr⟩
noncomputable def aG(es:List<|Nat×Nat)(p q:Nat):Bool:=@decide (ww es p q)<|Classical.propDecidable _
theorem ja{es:List<|Nat×Nat} :aG es p q=true↔ww es p q:=by unfold aG;exact @Cc _<|Classical.propDecidable _
noncomputable def bE(wd:List<|Option Kn)(es:List<|Nat×Nat)(p:Nat):List Nat:=(qm wd).filter<|aG es p
def fi(C:Addr):zc:=λys L Q=>∃o hp a,∃hs:List Nat,∃wd:List (Option Kn),∃p:Nat,∃m rk:Nat->Nat,ys=[.ref o,.ref a,.int (p:Int)]/\L o=some (.ins C<|qK hp)/\L hp=some (.lst<|nY hs)/\L a=some (.lst<|x4 wd)/\hs.length=wd.length/\wd.length<=1000/\p<wd.length/\jN rk hs/\(∀x,x<wd.length->aV hs x (m x))/\
 ∀D hQ L',hQ.length=hs.length->jN rk hQ->(∀x s,aV hs x s->aV hQ x s)->qg (qe L hp<|.lst<|nY hQ) L'->L D=none->L' D=some (.lst<|nY<|(qm wd).filter λx=>decide<|m x=m p)->Q (.ref D) L'
theorem vK :∀ys L Q,fi C ys L Q->jw (um C (iA C) eV) 4 ys L Q:=by
 rintro ys L Q ⟨o,J,a,hs,g,p,m,rk,rfl,ho,j,ha,hl,hz,a0,hr,hm,q⟩;have T:o≠J:=FX ho j (λe=>by cases e);have a3:a≠J:=λe=>by subst e;rw[ha] at j;cases g with|nil=>exact absurd a0 (EC _)|cons k r=>cases hs with|nil=>exact absurd hl (by simp)|cons b s=>cases k with|none=>cases j|some k=>cases k<;>cases j
 refine k8 ho ⟨rfl,ao,o,J,hs,p,_,rk,rfl,rfl,ho,j,hr,by lia,λr U l1 k1 t1 a1 n1=>?_⟩;cases t1.uniq (hm p a0);refine⟨a,g,rfl,(qc a3).trans ha,hz,λt ht=>?_⟩;have l:J≠t:=aU q9 ht;have a5:o≠t:=aU ((qc T).trans ho) ht;have nt:L t=none:=wv ht;have s1:∀A:List Nat,qg (qe L J<|.lst<|nY A) (qe (qe (qe L J<|.lst<|nY U) t<|.lst<|nY<|qm g) J<|.lst<|nY A):=λA=>by rw[fI l,zh,fI<|A4 l];exact By<|(qc<|A4 l).trans nt
 have x3:∀A,qe (qe (qe L J<|.lst<|nY U) t<|.lst<|nY<|qm g) J A o=some (.ins C<|qK J):=λA=>(qc T).trans<|(qc a5).trans<|(qc T).trans ho;have t4:∀A,qe (qe (qe L J<|.lst<|nY U) t<|.lst<|nY<|qm g) J A t=some (.lst<|nY<|qm g):=λA=>(qc<|A4 l).trans q9;have e0:qe (qe L J<|.lst<|nY U) t (.lst<|nY<|qm g)=qe (qe (qe L J<|.lst<|nY U) t<|.lst<|nY<|qm g) J (.lst<|nY U):=(ar<|(qc l).trans q9).symm;rw[e0];generalize qe (qe L J<|.lst<|nY U) t (.lst<|nY<|qm g)=L3 at s1 x3 t4 ⊢;refine jx (t4 _) λkeep kp=>H0 ⟨by rw[jh];exact BA (AN (bV _ _ _) hz) (by decide),λk zs L'=>∃I,L'=qe L3 J (.lst<|nY I)/\I.length=g.length/\jN rk I/\(∀y s,aV hs y s->aV I y s)/\zs=nY (((qm g).take k).filter λx=>decide<|m x=m p),⟨U,rfl,by lia,k1,a1,rfl⟩,?_,?_,?_⟩
 ·rintro k zs L' ⟨I,rfl,_⟩;exact kp _<|(t4 _).trans (t4 _).symm
 ·rintro k y zs L' hy ⟨I,rfl,l3,k3,r3,rfl⟩;obtain⟨n,en,rfl⟩:=dS hy;have hn:=(v9<|AF en).1;have ek:(qm g).take (k+1)=(qm g).take k++[n]:=by rw[Bc,en];rfl
  refine k8 (x3 _) ⟨rfl,ao,o,J,I,n,_,rk,rfl,rfl,x3 _,q9,k3,by lia,λr a2 l4 k4 t4 a4 n4=>?_⟩;cases t4.uniq (r3 _ _<|hm n hn);show vk (decide<|(m n:Int)=(m p:Int)) _ _;rw[gd];refine jg (λcc=>⟨_,EL _,a2,zh,by lia,k4,λy s z=>a4 y s<|r3 y s z,?_⟩) λcc=>⟨_,EL _,a2,zh,by lia,k4,λy s z=>a4 y s<|r3 y s z,?_⟩
  ·rw[ek,A8,BV (by exact Av cc),Br,aW];rfl
  ·rw[ek,A8,BU (by rw[Au cc];exact AI),Br,AE]
 ·rintro zs L' ⟨I,rfl,l3,k3,r3,rfl⟩ D hD;rw[jh,A9];have sD:=By (o:=.lst<|nY<|(qm g).filter λx=>decide<|m x=m p) hD;exact x0<|q D I _ (by lia) k3 r3 ((s1 I).trans sD) (wv<|(s1 I).none hD) q9
def ga(C:Addr):zc:=λys L Q=>∃a e,∃wd:List (Option Kn),∃es:List (Nat×Nat),∃p q:Nat,ys=[.ref a,.ref e,.int (p:Int),.int (q:Int)]/\L a=some (.lst<|x4 wd)/\L e=some (.lst<|qp es)/\wd.length<=1000/\(∀x∈es,x.1<wd.length/\x.2<wd.length)/\p<wd.length/\q<wd.length/\
 (ww es p q->∀L',qg L L'->Q .non L')/\(¬ww es p q->∀D1 D2 L',qg L L'->L D1=none->L D2=none->D1≠D2->L' D1=some (.lst<|nY<|bE wd es p)->L' D2=some (.lst<|nY<|bE wd es q)->Q (.tup [.ref D1,.ref D2]) L')
theorem SX :∀ys L Q,ga C ys L Q->jw (uX C (mo C) (mW C) (iA C)<|fi C) 6 ys L Q:=by
 rintro ys L Q ⟨a,e,I,T,p,q,rfl,ha,he,hz,hb,j,l,q1,q2⟩;refine qb ha λx hx=>⟨x,I.length,_,rfl,by rw[ku],q9,hz,λJ a0=>⟨rfl,?_⟩⟩;have a3:x≠J:=aU q9 a0;have a4:L J=none:=wv a0;have a5:(qe (qe (qe L x<|.ins C []) J<|.lst<|nY<|List.range I.length) x<|.ins C<|qK J) x=some (.ins C<|qK J):=q9;have a7:(qe (qe (qe L x<|.ins C []) J<|.lst<|nY<|List.range I.length) x<|.ins C<|qK J) J=some (.lst<|nY<|List.range I.length):=(qc<|A4 a3).trans q9;have sub:qg L (qe (qe (qe L x<|.ins C []) J<|.lst<|nY<|List.range I.length) x<|.ins C<|qK J):=(((By hx).trans<|By a0).upd hx);generalize qe (qe (qe L x<|.ins C []) J<|.lst<|nY<|List.range I.length) x (.ins C<|qK J)=L2 at a5 a7 sub ⊢;have ln:(List.range I.length).length=I.length:=A7;have fo:∀A,qe L2 J A x=some (.ins C<|qK J):=λA=>(qc a3).trans a5;have sL:∀A,qg L (qe L2 J A):=λA=>sub.upd a4;refine jx (sub _ _ he) λkeep kp=>kz ⟨λi τ L'=>∃U c5,τ=[some<|.ref a,some<|.ref e,some<|.int (p:Int),some<|.int (q:Int),some<|.ref x,c5]/\L'=qe L2 J (.lst<|nY U)/\Gd (List.range I.length) U/\JnR (List.range I.length) U (T.take i),⟨_,_,rfl,(ar a7).symm,⟨rfl,_,Sa _⟩,λ_ _ z=>z,(λx hx=>by cases hx),λ_ _ _ F=>F⟩,?_,?_,?_⟩
 ·rintro i τ L' ⟨U,c5,rfl,rfl,_⟩;exact kp _ (by rw[sL _ _ _ he,sub _ _ he])
 ·rintro i y τ L' hy ⟨U,c5,rfl,rfl,⟨g1,rk,g2⟩,jn⟩;rw[Aq] at hy;obtain⟨⟨u,v⟩,ex,rfl⟩:=Aw.mp hy;obtain⟨h1,h2⟩:=hb _<|AF ex;have h1:u<I.length:=h1;have h2:v<I.length:=h2;obtain⟨ru,tu⟩:=g2.rep' (i:=u) (by lia);obtain⟨rv,tv⟩:=g2.rep' (i:=v) (by lia);refine k8 (fo _) ⟨rfl,vB,x,J,U,u,v,ru,rv,_,_,rfl,rfl,rfl,fo _,q9,⟨rk,g2⟩,tu,tv,by lia,by lia,λo l2 k2 r2 _ _=>?_⟩;rw[zh];have et:T.take (i+1)=T.take i++[(u,v)]:=by rw[Bc,ex];rfl
  exact⟨_,EL _,o,_,rfl,rfl,⟨by lia,k2⟩,by rw[et];exact jn.snoc g2 l2 r2 tu tv⟩
 rintro τ L' ⟨U,c5,rfl,rfl,g,jn⟩;rw[Ah,A9] at jn;have rc:∀{u v},u<I.length->(ww T u v↔g_ U u v):=λh=>SW g jn h;obtain⟨gl,rk,gr⟩:=g;rw[ln] at gl;have hex:∀n,∃r,n<I.length->aV U n r:=λn=>by
  by_cases c:n<I.length
  ·obtain⟨r,t⟩:=gr.rep' (i:=n) (by lia);exact⟨r,λ_=>t⟩
  ·exact⟨0,λh=>absurd h c⟩
 obtain⟨m,hm⟩:=Classical.axiomOfChoice hex;have cm:∀{u v},u<I.length->v<I.length->(m v=m u↔ww T u v):=λ{u v} hu hv=>by rw[rc hu];exact⟨λe=>⟨m u,hm u hu,e▸hm v hv⟩,λ ψ=>(by obtain⟨r,p,q⟩:=ψ;exact ((hm v hv).uniq q).trans ((hm u hu).uniq p).symm)⟩
 have fl:∀{u},u<I.length->((qm I).filter λx=>decide<|m x=m u)=bE I T u:=λ{u} hu=>by refine CN λv hv=>?_;rw[Bl,Cc,ja];exact cm hu (v9 hv).1
 refine k8 (fo _) ⟨rfl,ao,x,J,U,p,_,rk,rfl,rfl,fo _,q9,gr,by lia,λr1 ab l1 k1 t1 a1 _=>?_⟩;rw[zh];refine k8 (fo _) ⟨rfl,ao,x,J,ab,q,_,rk,rfl,rfl,fo _,q9,k1,by lia,λr2 o l2 k2 t2 a2 _=>?_⟩;rw[zh];cases t1.uniq (hm p j);cases t2.uniq (a1 _ _<|hm q l);show vk (decide<|(m p:Int)=(m q:Int)) _ _;rw[gd];refine jg (λc=>x0<|q1 ((cm j l).mp c.symm) _<|sL _) λc=>?_;have nr:¬ww T p q:=λh=>c ((cm j l).mpr h).symm;have m2:∀y,y<I.length->aV o y (m y):=λy hy=>a2 _ _<|a1 _ _<|hm y hy;refine⟨x,J,a,o,I,p,m,rk,rfl,fo _,q9,sL _ _ _ ha,by lia,hz,j,k2,m2,λD1 ac L3 l3 k3 r3 s3 n1 e1=>?_⟩;rw[zh] at s3;have o3:=s3 _ _<|fo _;have h3:=s3 _ _ q9;have s4:=(sL _).trans s3;refine⟨x,J,a,ac,I,q,m,rk,rfl,o3,h3,s4 _ _ ha,by lia,hz,l,k3,λy hy=>r3 _ _<|m2 y hy,λD2 al L4 l4 k4 r4 s5 n2 e2=>?_⟩;have np:D1≠J:=λz=>by rw[z,q9] at n1;cases n1
 have k1:qe L3 J (.lst<|nY al) D1=some (.lst<|nY<|(qm I).filter λx=>decide<|m x=m p):=(qc np).trans e1;have f1:L D1=none:=(sL _).none n1;have t5:qg L L4:=(s4.upd a4).trans s5;have f2:L D2=none:=s4.none n2;exact x0<|q2 nr D1 D2 L4 t5 f1 f2 (aU e1 n2) (by rw[s5 _ _ k1,fl j]) (by rw[e2,fl l])
end L3
namespace L3
open PySem L2
def Jw(x y:Y)(L:ql)(Q:YK):Prop:=match x,y with
 |.tup xs,.tup ys=>xs≠[]/\xs.length+ys.length<=1000/\Q (.tup<|xs++ys) L
 |_,_=>False
theorem uZ :w6 X (binaryOp .Add) (iT X.g3 Jw):=EZ NU λx y H Q x3 y3 L Q3 T ry g z k=>by
 unfold Jw at z;split at z
 ·rename_i j o;obtain⟨n,l,z⟩:=z;obtain⟨a,I,rfl,r,J⟩:=T;obtain⟨b,t,rfl,s2,C⟩:=ry;have l1:=J.length;have l2:=C.length;refine⟨a,b,I,t,rfl,rfl,r,s2,λe=>n ?_,dU (by lia),λe=>?_,λ_ p U=>?_⟩
  ·subst e;exact Bx l1
  ·subst e;have:o=[]:=Bx l2;subst this;rw[AE] at z;exact k _ H _ L (EM _) g (show RV X.g3 H (.tup j) (.ref a) from⟨a,I,rfl,r,J⟩) z
  ·exact k _ _ _ L (EN U) (g.skip U) (show RV X.g3 (upd H p<|.tup<|I++t) (.tup<|j++o) (.ref p) from⟨p,_,rfl,cT.of zq,(J.app C).ts<|EN U⟩) z
 ·exact z.elim
open PySem L2 Words
noncomputable def gz:RD "_law_sides" cY 0 ["_law_knots","_law_out","_law_row","_law_r"] (λ_=>True):=⟨_,λV B c _ _ _ _ _ _ _ J hN I=>(qa (S_ 2 hN<|jb vt)<|qa (vh p0 rfl (aC rfl B.bf<|jv<|L_ B.ba<|qv 0) (G_ 3 hN)<|qd<|zv (wc<|vq (N_ I (qv 3)<|qv 1)<|vq (af<|I_ (qv 0)<|qv 3)<|w4<|E_ I (L_ B.ba<|I_ (qv 0)<|qv 3) qf) (qa (zf<|ze (qv 2)<|jv<|zr<|wg (qv 3)<|I_ (I_ (qv 0)<|qv 3) qf)<|qd<|zf<|ze (qv 2)<|jv<|zr<|wg (qv 3)<|I_ (I_ (qv 0)<|qv 3) qf) z9)<|qd<|qx<|qv 2)⟩
noncomputable def qQ:kh:=(gz).1
def xr(n fm:Nat):List Nat:=(List.range n).filter λr=>decide<|r≠fm
theorem oT(i fm:Nat):xr (i+1) fm=xr i fm++if i=fm then [] else [i]:=by
 unfold xr;rw[Cj,A8];congr 1;by_cases c:i=fm
 ·rw[AC c,BU (by simp[c]),Br]
 ·rw[AB c,BV (by simp[c]),Br]
def iZ:zc:=λys L Q=>∃a,∃wd:List (Option Kn),∃fm:Nat,ys=[.ref a,.int (fm:Int)]/\L a=some (.lst<|x4 wd)/\wd.length<=1000/\∀D,L D=none->Q (.ref D) (qe L D<|.lst<|qp<|za wd<|xr wd.length fm)
theorem zM:∀ys L Q,iZ ys L Q->jw qQ 4 ys L Q:=by
 rintro ys L Q ⟨a,J,I,rfl,C,hz,q⟩;have big:=a_;intro D T;have g:a≠D:=aU C T;have U:∀o,qe L D o a=some (.lst<|x4 J):=λo=>(qc g).trans C;refine qb (U _) ⟨⟨AU _,by rw[ku];lia⟩,?_⟩;rw[ku,BY];refine hG (λi j l=>∃c3,j=[some<|.ref a,some<|.int (I:Int),some<|.ref D,c3]/\l=qe L D (.lst<|qp<|za J<|xr i I)) ⟨_,rfl,rfl⟩ ?_ ?_
 ·rintro i j l hi ⟨c3,rfl,rfl⟩;obtain⟨k,p⟩:∃k,J[i]?=some k:=⟨_,Al hi⟩;have ei:bp (x4 J) (0+(i:Int))=some (aX k):=by rw[BI];exact bP p
  have el:=wm J<|xr i I;have bl:(xr i I).length<=i:=by have:=Bp (λr=>decide<|r≠I)<|List.range i;rw[A7] at this;exact this
  have stay:(i=I\/j8 k=[])->za J (xr (i+1) I)=za J (xr i I):=λh=>by
   rw[oT,fB];by_cases c:i=I
   ·rw[AC c];exact AE _
   ·rw[AB c,eX p,h.resolve_left c];exact AE _
  show vk (!decide ((0+(i:Int))=(I:Int))) _ _;rw[BI,gd];by_cases c:i=I
  ·exact vi (by rw[Av c];rfl) ⟨_,EL _,_,rfl,by rw[stay<|.inl c]⟩
  ·refine cx (by rw[Au c];rfl) ?_;rw[BI] at ei;refine qb (U _)<|qh ei ?_;cases k with
   |none=>exact⟨_,EL _,_,rfl,by rw[stay<|.inr rfl]⟩
   |some k=>
    cases k with
    |lf t n=>refine qb (U _)<|qh ei ?_;exact⟨_,EL _,_,rfl,by rw[stay<|.inr rfl]⟩
    |nd e x y=>
     refine qb (U _)<|qh ei ?_;refine qb q9 (qb (U _) (qh ei (qr q9 ⟨big _ (by rw[qp,Ah];lia),?_⟩)));rw[zh];refine qb q9 (qb (U _) (qh ei (qr q9 ⟨big _ (by rw[Ad,qp,Ah];show _+1<=_;lia),?_⟩)));rw[zh];refine⟨_,EL _,_,rfl,?_⟩;rw[oT,AB c,fB,eX p];unfold qp;rw[AD,AA];rfl
 ·rintro j l ⟨c3,rfl,rfl⟩;exact x0<|q D T
noncomputable def jM(J:zc)(I:zc):RD "all_edges" eF 3 ["web"] (λV=>IL V J/\Gb V I):=⟨_,λV B c _ _ _ _ _ _ _ U hN g=>(qd<|qx<|qj j4 (qj j4 (J_ 0)<|J_ 0)<|C_ c.1 U<|wg (J_ 0)<|C_ c.2 U<|jv<|J_ 0)⟩
noncomputable def sv(J:zc)(I:zc):kh:=(jM J I).1
noncomputable def df(g:zc)(I:zc)(J:zc)(U:zc):RD "parted_boths" az 4 ["web","knots","ends","edges","parted","place","others","sides"] (λV=>IJ V g/\Ge V I/\IK V J/\Gf V U):=⟨_,λV B c _ _ _ _ _ _ _ j hN l=>(qa (S_ 1 hN<|J_ 0)<|qa (bu (i:=2) hN rfl (Or.inr rfl)<|C_ c.1 j<|jv<|qv 0)<|qa (S_ 3 hN<|C_ c.2.1 j<|jv<|qv 0)<|qa (S_ 4 hN<|jb vt)<|qa (vh p0 rfl (xh<|fS ["both"] (EW (by rfl)) rfl (xh<|C_ c.2.2.1 j<|jv<|qv 0) (nV 8) (λ_ _ _ _=>aK<|je (tI _ _ _) (qv 8) (qv 2) (by with_unfolding_all rfl)) λ_ _ _ _=>(qv 8)) (cW (i:=5) hN rfl<|Or.inr rfl)<|qa (eG ["edge"] (i:=6) hN rfl (Or.inl rfl) (EW (by rfl)) rfl (xh<|qv 3) (nV 8) (λ_ _ _ _=>aK<|N_ l (J_ 8)<|qv 5) λ_ _ _ _=>(qv 8))<|qa (S_ 7 hN<|C_ c.2.2.2 j<|jr (qv 1)<|cS (qv 6) (I_ (I_ (qv 1)<|qv 5) qf)<|I_ (I_ (qv 1)<|qv 5) qf)<|qd<|zv (af<|qv 7) (qd<|zf<|ze (qv 4)<|jv<|qj uZ (zr<|wg jl<|qv 5)<|qv 7) z9)<|qd<|qx<|qv 4)⟩
noncomputable def lL(g:zc)(I:zc)(J:zc)(U:zc):kh:=(df g I J U).1
def jd(ks:List<|Option Kn)(lk ct:List<|Nat×Nat):List (Nat×Nat):=(lk++ct)++za ks (qm ks)
def kK:zc:=λys L Q=>∃a l c,∃ks:List (Option Kn),∃lk ct:List (Nat×Nat),ys=[aI a l c]/\L a=some (.lst<|x4 ks)/\L l=some (.lst<|qp lk)/\L c=some (.lst<|qp ct)/\ks.length<=1000/\lk.length<=1000/\ct.length<=1000/\∀p,L p=none->Q (.ref p) (qe L p<|.lst<|qp<|jd ks lk ct)
theorem SY:∀ys L Q,kK ys L Q->jw (sv i4 eV) 1 ys L Q:=by
 rintro ys L Q ⟨a,l,c,I,lk,U,rfl,ha,hl,hc,hz,a0,a1,q⟩;have hb:(10000:Nat)<sizeLine:=by decide
 refine⟨_,_,hl,hc,by rw[Ah,Ah];lia,λp1 g=>?_⟩;have j:=By (o:=.lst<|qp lk++qp U) g _ _ ha;refine⟨a,I,rfl,j,hz,λp2 J=>?_⟩;have t:=By (o:=.lst<|nY<|qm I) J _ _ j;refine⟨a,p2,I,qm I,rfl,t,q9,AN (bV _ _ _) hz,λp hp=>(v9 hp).1,λp3 r=>?_⟩;have e1:=By (o:=.lst<|qp<|za I<|qm I) r _ _<|By (o:=.lst<|nY<|qm I) J _ _<|q9 (L:=L) (a:=p1) (o:=.lst<|qp lk++qp U);refine⟨_,_,e1,q9,?_,λC T=>?_⟩
 ·have:=wm I<|qm I;have:(qm I).length<=I.length:=bV _ I I.length;rw[Ad,Ah,Ah,Ah];lia
 ·have n1:qg L (qe (qe (qe L p1<|.lst<|qp lk++qp U) p2<|.lst<|nY<|qm I) p3<|.lst<|qp<|za I<|qm I):=((By g).trans<|By J).trans<|By r;have n4:L C=none:=gT n1 T;refine kU (L:=qe L C<|.lst<|qp<|jd I lk U) ?_<|q C n4;have e:qp lk++qp U++qp (za I<|qm I)=qp (jd I lk U):=by unfold qp jd;rw[AD,AD]
  rw[e];exact qg.put (n1.upd n4) q9
abbrev sS:=List Y×List Nat×List Nat
def dO(L:ql)(N:Addr)(xs:List Y)(rs:List sS):Prop:=Paired (λy (r:sS)=>∃D1 D2,y=.tup (r.1++[.ref D1,.ref D2])/\D1≠N/\D2≠N/\L D1=some (.lst<|nY r.2.1)/\L D2=some (.lst<|nY r.2.2)) xs rs
theorem dO.mono{N:Addr}{xs:List Y}{rs:List sS}(t:dO L N xs rs)(s:∀p o,p≠N->L p=some o->L' p=some o):dO L' N xs rs:=ER t λy r ψ=>(by obtain⟨D1,D2,e,I,J,U,g⟩:=ψ;exact ⟨D1,D2,e,I,J,s _ _ I U,s _ _ J g⟩)
noncomputable def p_(wd:List<|Option Kn)(lk ct:List<|Nat×Nat)(r:Nat):Option sS:=match wd[r]? with
 |some (some<|.nd _ i j)=>if aG ((jd wd lk ct).filter λx=>decide<|x.1≠r) i j then none else some ([.str "both",.int (r:Int)],bE wd ((jd wd lk ct).filter λx=>decide<|x.1≠r) i,bE wd ((jd wd lk ct).filter λx=>decide<|x.1≠r) j)
 |_=>none
def bF(wd:List<|Option Kn)(ct:List<|Nat×Nat):List Nat:=(bX false wd).filter λr=>decide<|r∈ji wd (zp wd ct) wd.length
def iS(C:Addr):zc:=λys L Q=>∃a l c,∃wd:List (Option Kn),∃lk ct:List (Nat×Nat),ys=[aI a l c]/\L a=some (.lst<|x4 wd)/\L l=some (.lst<|qp lk)/\L c=some (.lst<|qp ct)/\wd.length<=1000/\lk.length<=1000/\ct.length<=1000/\jQ wd/\(∀x∈jd wd lk ct,x.1<wd.length/\x.2<wd.length)/\∀D xs L',qg L L'->L D=none->L' D=some (.lst xs)->dO L' D xs ((bF wd ct).filterMap<|p_ wd lk ct)->Q (.ref D) L'
theorem yn :∀ys L Q,iS C ys L Q->jw (lL pS kK m8<|ga C) 8 ys L Q:=by
 rintro ys L Q ⟨a,l,c,I,lk,J,rfl,ha,hl,hc,hz,au,a2,ok,hb,q⟩;have big:=a_;refine⟨a,l,c,I,J,rfl,ha,hc,hz,a2,λen av=>?_⟩;have s1:=By (o:=.lst<|nY<|ji I (zp I J) I.length) av;have g:qe L en (.lst<|nY<|ji I (zp I J) I.length) en=_:=q9;generalize qe L en (.lst<|nY<|ji I (zp I J) I.length)=L1 at s1 g ⊢;refine⟨a,l,c,I,lk,J,rfl,s1 _ _ ha,s1 _ _ hl,s1 _ _ hc,hz,au,a2,λea aL=>?_⟩;have s2:=By (o:=.lst<|qp<|jd I lk J) aL;have U:qe L1 ea (.lst<|qp<|jd I lk J) ea=_:=q9;have g:=s2 _ _ g;have s2:=s1.trans s2;generalize qe L1 ea (.lst<|qp<|jd I lk J)=L2 at s2 U g ⊢;intro D hD;have ba:ea≠D:=λz=>by rw[z,hD] at U;cases U
 have s3:=By (o:=.lst []) hD;have fD:=s2.none hD;have U:=s3 _ _ U;have g:=s3 _ _ g;have kD:qe L2 D (.lst []) D=_:=q9;have s3:=s2.trans s3;generalize qe L2 D (.lst [])=L3 at s3 U g kD ⊢;refine⟨a,l,c,I,rfl,s3 _ _ ha,hz,λbo bb=>?_⟩;have s4:=By (o:=.lst<|nY<|bX false I) bb;have U:=s4 _ _ U;have g:=s4 _ _ g;have kD:=s4 _ _ kD;have a3:qe L3 bo (.lst<|nY<|bX false I) bo=_:=q9;have s4:=s3.trans s4;generalize qe L3 bo (.lst<|nY<|bX false I)=L4 at s4 U g kD a3 ⊢;have kl:(bX false I).length<=I.length:=bV _ _ _;refine jx a3 λkeep kp=>bJ (λi zs=>zs=nY (((bX false I).take i).filter λr=>decide<|r∈ji I (zp I J) I.length)) (by rw[jh];exact big _ (by lia)) (kp _ rfl) rfl ?_ ?_
 ·rintro i y zs hy rfl;obtain⟨r,er,rfl⟩:=dS hy;refine qb g ⟨rfl,bU _,?_⟩;show vk (nJ (bK<|.int (r:Int))<|(nY<|ji I (zp I J) I.length).map bK) _ _;rw[bQ];have ek:(bX false I).take (i+1)=(bX false I).take i++[r]:=by rw[Bc,er];rfl
  refine jg (λh=>⟨_,EL _,rfl,?_⟩) λh=>⟨_,EL _,rfl,?_⟩
  ·rw[ek,A8,BV (by exact Av h),Br,aW];rfl
  ·rw[ek,A8,BU (by rw[Au h];exact AI),Br,AE]
 rintro zs rfl pp a0;have bc:pp≠D:=λz=>by rw[z,kD] at a0;cases a0
 rw[jh,A9];have s5:=By (o:=.lst<|nY<|bF I J) a0;have U:=s5 _ _ U;have kD:=s5 _ _ kD;have a1:qe L4 pp (.lst<|nY<|bF I J) pp=_:=q9;have fp:=s4.none a0;have s5:=s4.trans s5;show nN (qe L4 pp<|.lst<|nY<|bF I J) pp _;generalize qe L4 pp (.lst<|nY<|bF I J)=L5 at s5 U kD a1 ⊢;have el:=wm I<|qm I;have tl:(qm I).length<=I.length:=bV _ _ _;have al:(jd I lk J).length<=5000:=by unfold jd;rw[Ad,Ad];lia
 refine jx a1 λkeep kp=>kz ⟨λi τ j=>∃c5 c6 c7 xs,τ=[some<|aI a l c,some<|.ref a,some<|.ref en,some<|.ref ea,some<|.ref D,c5,c6,c7]/\qg L j/\j ea=some (.lst<|qp<|jd I lk J)/\j pp=some (.lst<|nY<|bF I J)/\j D=some (.lst xs)/\xs.length<=i/\dO j D xs (((bF I J).take i).filterMap<|p_ I lk J),⟨_,_,_,[],rfl,s5,U,a1,kD,Ap _,.nil⟩,?_,?_,?_⟩
 ·rintro i τ j ⟨_,_,_,_,rfl,_,_,k,_⟩;exact kp _ (by rw[k,a1])
 ·rintro i y τ j hy ⟨c5,c6,c7,xs,rfl,s,j1,j2,j3,xl,T⟩;obtain⟨r,er,rfl⟩:=dS hy;have hi:=zd er;have hr:=AF er;obtain⟨lr,k,ek,kb⟩:=v9 (Az.mp hr).1;have bl:(bF I J).length<=I.length:=AN (Bp _ _) kl;have et:(bF I J).take (i+1)=(bF I J).take i++[r]:=by rw[Bc,er];rfl
  obtain⟨x,y,rfl⟩:∃x y,k=some (.nd false x y):=by
   cases k with
   |none=>cases kb
   |some k=>
    cases k with|lf=>cases kb|nd e x y=>cases e with|true=>cases kb|false=>exact⟨x,y,rfl⟩
  have ke:=λ(o:qg L j)=>o _ _ ha;refine jx j1 λbd be=>bJ (λi zs=>zs=qp (((jd I lk J).take i).filter λx=>decide<|x.1≠r)) (by rw[qp,Ah];exact big _ (by lia)) (be _ rfl) rfl ?_ ?_
  ·rintro i z zs a4 rfl;rw[qp,Aq] at a4;obtain⟨d,ed,rfl⟩:=Aw.mp a4;have a5:(jd I lk J).take (i+1)=(jd I lk J).take i++[d]:=by rw[Bc,ed];rfl
   show vk (!decide ((d.1:Int)=(r:Int))) _ _;rw[gd];by_cases cc:d.1=r
   ·refine vi (by rw[Av cc];rfl) ⟨_,EL _,rfl,?_⟩;rw[a5,A8,BU (by simp[cc]),Br,AE]
   ·refine cx (by rw[Au cc];rfl) ⟨_,EL _,rfl,?_⟩;rw[a5,A8,BV (by simp[cc]),Br];unfold qp;rw[AD];rfl
  rintro zs rfl p6 bf;rw[show(qp<|jd I lk J).length=(jd I lk J).length from Ah ..,A9];have t6:=By (o:=.lst<|qp<|(jd I lk J).filter λx=>decide<|x.1≠r) bf;have k6:qe j p6 (.lst<|qp<|(jd I lk J).filter λx=>decide<|x.1≠r) p6=_:=q9;have j1:=t6 _ _ j1;have j2:=t6 _ _ j2;have j3:=t6 _ _ j3;have T:=T.mono λp o _ h=>t6 p o h;have s:=s.trans t6;generalize qe j p6 (.lst<|qp<|(jd I lk J).filter λx=>decide<|x.1≠r)=L6 at s k6 j1 j2 j3 T ⊢;have ei:bp (x4 I) (r:Int)=some (aX<|some<|.nd false x y):=bP ek;obtain⟨o1,o2⟩:=ok r false x y ek;refine qb (s _ _ ha)<|qh ei<|qb (s _ _ ha)<|qh ei ?_;have pb:p_ I lk J r=if aG ((jd I lk J).filter λx=>decide<|x.1≠r) x y then none else some ([.str "both",.int (r:Int)],bE I ((jd I lk J).filter λx=>decide<|x.1≠r) x,bE I ((jd I lk J).filter λx=>decide<|x.1≠r) y):=by unfold p_;rw[ek]
  refine⟨a,p6,I,_,x,y,rfl,s _ _ ha,k6,hz,λd hd=>hb d (Az.mp hd).1,by lia,by lia,λrc L7 t=>?_,λnr D1 D2 L7 t f1 f2 bg k1 k2=>?_⟩
  ·refine⟨_,EL _,_,_,_,xs,rfl,s.trans t,t _ _ j1,t _ _ j2,t _ _ j3,by lia,?_⟩;rw[et,Cf,DX (by rw[pb,AC<|ja.mpr rc]),C9,AE];exact T.mono λp o _ h=>t p o h
  ·have a7:=t _ _ j3;refine qb a7 ⟨by simp,by show 2+2<=1000;decide,qr a7 ⟨big _ (by lia),⟨_,EL _,_,_,_,_,rfl,(s.trans t).upd fD,(qc λz=>?_).trans<|t _ _ j1,(qc λz=>?_).trans<|t _ _ j2,q9,by rw[Ad];show _+1<=_;lia,?_⟩⟩⟩
   ·exact ba z
   ·exact bc z
   ·have ab:D1≠D:=λz=>by rw[z,j3] at f1;cases f1
    have ac:D2≠D:=λz=>by rw[z,j3] at f2;cases f2
    rw[et,Cf,DY (by rw[pb,AB λh=>nr<|ja.mp h]),C9];refine Words.Paired.app (dO.mono (L:=L7) (T.mono λp o _ h=>t p o h) λp o n h=>(qc n).trans h)<|.cons ⟨D1,D2,rfl,ab,ac,(qc ab).trans k1,(qc ac).trans k2⟩ .nil
 ·rintro τ j ⟨c5,c6,c7,xs,rfl,s,j1,j2,j3,xl,T⟩;rw[jh,A9] at T;exact x0<|q D xs j s fD j3 T
end L3
variable {rs:List L3.sS}
namespace L3
open PySem L2 Words
noncomputable def mh(I:zc)(J:zc):RD "partings" fu 5 ["web"] (λV=>IM V I/\IP V J):=⟨_,λV B c _ _ _ _ _ _ _ U hN g=>(qd<|qx<|qj j4 (C_ c.1 U<|jv<|qv 0)<|C_ c.2 U<|jv<|qv 0)⟩
noncomputable def uW(I:zc)(J:zc):kh:=(mh I J).1
theorem dO.len{N:Addr}{xs:List Y}(t:dO L N xs rs):xs.length=rs.length:=by
 unfold dO at t
 induction t with|nil=>rfl|cons _ _ I=>rw[AK,AK,I]
theorem dO.new{N p:Addr}{o:LO}{xs:List Y}(t:dO L N xs rs)(h:L p=none):dO (qe L p o) p xs rs:=ER t λy r ψ=>(by obtain⟨D1,D2,e,_,_,I,J⟩:=ψ;exact ⟨D1,D2,e,aU I h,aU J h,(qc<|aU I h).trans I,(qc<|aU J h).trans J⟩)
noncomputable def q_(wd:List<|Option Kn)(lk ct:List<|Nat×Nat)(i:Nat):Option sS:=match ct[i]? with
 |some d=>if aG ((jd wd lk ct).eraseIdx<|lk.length+i) d.1 d.2 then none else some ([.str "cut",.int (d.1:Int),.int (d.2:Int)],bE wd ((jd wd lk ct).eraseIdx<|lk.length+i) d.1,bE wd ((jd wd lk ct).eraseIdx<|lk.length+i) d.2)
 |_=>none
def mF(C:Addr):zc:=λys L Q=>∃a l c,∃wd:List (Option Kn),∃lk ct:List (Nat×Nat),ys=[aI a l c]/\L a=some (.lst<|x4 wd)/\L l=some (.lst<|qp lk)/\L c=some (.lst<|qp ct)/\wd.length<=1000/\lk.length<=1000/\ct.length<=1000/\jQ wd/\(∀x∈jd wd lk ct,x.1<wd.length/\x.2<wd.length)/\∀D xs L',qg L L'->L D=none->L' D=some (.lst xs)->dO L' D xs ((List.range ct.length).filterMap<|q_ wd lk ct)->Q (.ref D) L'
noncomputable def Gn(wd:List<|Option Kn)(lk ct:List<|Nat×Nat):List sS:=(bF wd ct).filterMap (p_ wd lk ct)++(List.range ct.length).filterMap (q_ wd lk ct)
def di(C:Addr):zc:=λys L Q=>∃a l c,∃wd:List (Option Kn),∃lk ct:List (Nat×Nat),ys=[aI a l c]/\L a=some (.lst<|x4 wd)/\L l=some (.lst<|qp lk)/\L c=some (.lst<|qp ct)/\wd.length<=1000/\lk.length<=1000/\ct.length<=1000/\jQ wd/\(∀x∈jd wd lk ct,x.1<wd.length/\x.2<wd.length)/\∀D xs L',qg L L'->L D=none->L' D=some (.lst xs)->dO L' D xs (Gn wd lk ct)->Q (.ref D) L'
theorem sE :∀ys L Q,di C ys L Q->jw (uW (iS C)<|mF C) 1 ys L Q:=by rintro ys L Q ⟨a,l,c,I,lk,J,rfl,T,hl,hc,hz,U,g,ok,hb,q⟩;have big:=a_;refine⟨a,l,c,I,lk,J,rfl,T,hl,hc,hz,U,g,ok,hb,λD xs L1 j f1 k1 T1=>?_⟩;refine⟨a,l,c,I,lk,J,rfl,j _ _ T,j _ _ hl,j _ _ hc,hz,U,g,ok,hb,λE zs L2 r f2 k2 T2=>?_⟩;have e1:=T1.len;have e2:=T2.len;have b1:=DZ (p_ I lk J)<|bF I J;have b2:=DZ (q_ I lk J)<|List.range J.length;have b3:(bF I J).length<=I.length:=AN (Bp _ _)<|bV _ _ _;rw[A7] at b2;refine⟨_,_,r _ _ k1,k2,Bf<|big _ (by lia),λp t=>?_⟩;have s3:=(j.trans r).trans<|By (o:=.lst<|xs++zs) t;exact x0<|q p _ _ s3 ((j.trans r).none t) q9<|Words.Paired.app ((T1.mono λp o _ h=>r p o h).new t)<|T2.new t
theorem xm{ks:List<|Option Kn}{pl:List Nat}{x:Nat×Nat}:x∈za ks pl↔x.1∈pl/\∃k,ks[x.1]?=some k/\x.2∈j8 k:=by
 unfold za;rw[AV];constructor
 ·rintro⟨p,I,h⟩;cases e:ks[p]? with
  |none=>rw[e] at h;cases h
  |some k=>
   rw[e] at h;obtain⟨q,J,rfl⟩:=Bt.mp h;exact⟨I,k,e,J⟩
 ·rintro⟨I,k,e,J⟩;refine⟨x.1,I,?_⟩;rw[e];exact Bt.mpr ⟨x.2,J,rfl⟩
theorem wq{x:Nat×Nat}:(x∈za wd (qm wd)/\x.1≠r)↔x∈za wd (xr wd.length r):=by
 rw[xm,xm];constructor
 ·rintro⟨⟨J,I⟩,n⟩;exact⟨Az.mpr ⟨AL.mpr (v9 J).1,Av n⟩,I⟩
 ·rintro⟨J,k,e,I⟩;obtain⟨U,g⟩:=Az.mp J;refine⟨⟨gE e ?_<|AL.mp U,k,e,I⟩,of_decide_eq_true g⟩;cases k with
  |none=>cases I
  |some k=>rfl
theorem S0(h:∀x∈lk++ct,x.1≠r)(x:Nat×Nat):x∈((jd wd lk ct).filter λx=>decide<|x.1≠r)↔x∈lk++ct++za wd (xr wd.length r):=by
 rw[Az,Cc,Ag,<-wq,jd,Ag];constructor
 ·rintro⟨I|I,n⟩
  ·exact .inl I
  ·exact .inr ⟨I,n⟩
 ·rintro(I|⟨I,n⟩)
  ·exact⟨.inl I,h x I⟩
  ·exact⟨.inr I,n⟩
theorem yR(a b:List α)(c:List α)(i:Nat)(hi:i<b.length):(a++b++c).eraseIdx (a.length+i)=a++b.eraseIdx i++c:=by rw[AA,Dg<|Bg _ _,BR,List.eraseIdx_append_of_lt_length hi,AA]
theorem zA [DecidableEq α]{b:List α}(nd:b.Nodup){d:α}(e:b[i]?=some d)(x:α):x∈b.eraseIdx i↔x∈b/\x≠d:=by
 rw[Dm];constructor
 ·rintro⟨j,n,h⟩;refine⟨AF h,?_⟩;rintro rfl;exact n<|(List.getElem?_inj (zd h) nd).mp<|h.trans e.symm
 ·rintro⟨h,n⟩;obtain⟨j,I⟩:=Ce.mp h;exact⟨j,λz=>n (by rw[z,e] at I;exact(AO I).symm),I⟩
theorem S1(nd:ct.Nodup){d:Nat×Nat}(e:ct[i]?=some d)(x:Nat×Nat):x∈(jd wd lk ct).eraseIdx (lk.length+i)↔x∈lk++(ct.filter λy=>decide<|y≠d)++za wd (xr wd.length wd.length):=by
 have t:x∈za wd (qm wd)↔x∈za wd (xr wd.length wd.length):=by rw[<-wq];exact⟨λh=>⟨h,A5 (v9 (xm.mp h).1).1⟩,λh=>h.1⟩
 rw[jd,yR _ _ _ _<|zd e,Ag,Ag,Ag,Ag,zA nd e,Az,Cc,t]
theorem rZ{es fs:List<|Nat×Nat}(h:∀x,x∈es↔x∈fs)(hp:p∈qm wd)(I:∀x∈es,x.1∈qm wd/\x.2∈qm wd):bE wd es p=(List.range wd.length).filter (aG fs p):=by
 have r:∀q,ww es p q->q∈qm wd:=λq k=>by induction k with|self=>exact hp|fwd _ m _=>exact(I _ m).2|bwd _ m _=>exact(I _ m).1
 have eb:aG es p=aG fs p:=funext λq=>Bl.mpr (by rw[ja,ja];exact o5 h);unfold bE qm kO;rw[List.filter_filter,eb];refine CN λq J=>?_;cases c:aG fs p q with
 |false=>rfl
 |true=>
  have m:=r q (ja.mp (by rw[eb];exact c));unfold qm kO at m;rw[(Az.mp m).2];rfl
noncomputable def jV(n:Nat)(hd:List Y)(es:List<|Nat×Nat)(p q:Nat):Option sS:=if aG es p q then none else some (hd,(List.range n).filter<|aG es p,(List.range n).filter<|aG es q)
theorem wQ{es fs:List<|Nat×Nat}(h:∀x,x∈es↔x∈fs)(hp:p∈qm wd)(J:q∈qm wd)(I:∀x∈es,x.1∈qm wd/\x.2∈qm wd):(if aG es p q then none else some (hd,bE wd es p,bE wd es q))=jV wd.length hd fs p q:=by unfold jV;rw[rZ h hp I,rZ h J I,show aG es p q=aG fs p q from Bl.mpr (by rw[ja,ja];exact o5 h)]
theorem S2{x y:Nat}{e:Bool}(I:wd[r]?=some (some<|.nd e x y))(h:∀x∈lk++ct,x.1≠r)(U:∀x∈jd wd lk ct,x.1∈qm wd/\x.2∈qm wd):p_ wd lk ct r=jV wd.length [.str "both",.int (r:Int)] (lk++ct++za wd (xr wd.length r)) x y:=by have m:∀z∈[x,y],z∈qm wd:=λz J=>(U (r,z)<|Ae _<|xm.mpr ⟨gE I rfl<|zd I,_,I,J⟩).2;unfold p_;rw[I];exact wQ (S0 h) (m x (by simp)) (m y (by simp)) λz J=>U z (Az.mp J).1
theorem S3(nd:ct.Nodup){d:Nat×Nat}(e:ct[i]?=some d)(I:∀x∈jd wd lk ct,x.1∈qm wd/\x.2∈qm wd):q_ wd lk ct i=jV wd.length [.str "cut",.int (d.1:Int),.int (d.2:Int)] (lk++(ct.filter λy=>decide<|y≠d)++za wd (xr wd.length wd.length)) d.1 d.2:=by have m:=I d<|Ai _<|Ae _<|AF e;unfold q_;rw[e];exact wQ (S1 nd e) m.1 m.2 λz J=>I z<|Eb J
theorem S4(wd:List<|Option Kn)(ct:List<|Nat×Nat):bF wd ct=(bX false wd).filter λr=>!decide (r∈zp wd ct):=by
 unfold bF;refine CN λr I=>?_;obtain⟨J,k,U,g⟩:=v9 I;have j:wy wd r=true:=by unfold wy;rw[U];cases k with|none=>cases g|some k=>rfl
 have e:r∈ji wd (zp wd ct) wd.length↔r∉zp wd ct:=by
  unfold ji;rw[Az,bR,j,EH];refine⟨λh=>?_,λh=>⟨AL.mpr J,?_⟩⟩
  ·have:=h.2;intro z;rw[Av z] at this;cases this
  ·rw[Au h];rfl
 by_cases c:r∈zp wd ct
 ·rw[Av c,Au λh=>e.mp h c];rfl
 ·rw[Au c,Av<|e.mpr c];rfl
noncomputable def EY(wd:List<|Option Kn)(lk ct:List<|Nat×Nat)(r:Nat):Option sS:=match wd[r]? with
 |some (some<|.nd _ x y)=>jV wd.length [.str "both",.int (r:Int)] (lk++ct++za wd (xr wd.length r)) x y
 |_=>none
noncomputable def Jx(wd:List<|Option Kn)(lk ct:List<|Nat×Nat)(d:Nat×Nat):Option sS:=jV wd.length [.str "cut",.int (d.1:Int),.int (d.2:Int)] (lk++(ct.filter λy=>decide<|y≠d)++za wd (xr wd.length wd.length)) d.1 d.2
noncomputable def sT(wd:List<|Option Kn)(lk ct:List<|Nat×Nat):List sS:=((bX false wd).filter λr=>!decide (r∈zp wd ct)).filterMap (EY wd lk ct)++ct.filterMap (Jx wd lk ct)
theorem lB{α β:Type}{f g:α->Option β}:∀{l:List α},(∀x∈l,f x=g x)->l.filterMap f=l.filterMap g
 |[],_=>rfl
 |a::l,h=>by rw[B3,B3,h a<|Ak ..,lB λx I=>h x<|Ab _ I]
theorem S5(f:α->Option β)(l:List α)(g:Nat->Option β)(h:∀i d,l[i]?=some d->g i=f d):(List.range l.length).filterMap g=l.filterMap f:=by
 have e:l=(List.range l.length).filterMap λi=>l[i]?:=by
  have:∀n,n<=l.length->l.take n=(List.range n).filterMap λi=>l[i]?:=λn=>by
   induction n with
   |zero=>exactλ_=>rfl
   |succ n U=>
    intro I;rw[Cj,Cf,<-U (Nat.le_of_succ_le I),Bc,B3,Al I];rfl
  have:=this l.length<|Ap _;rwa[A9] at this
 conv=>rhs;rw[e,List.filterMap_filterMap]
 refine lB λi j=>?_;have J:=AL.mp j;rw[h i _<|Al J,Al J];rfl
theorem S6(nd:ct.Nodup)(l:∀x∈lk,∃t n,wd[x.1]?=some (some<|.lf t n))(J:∀x∈jd wd lk ct,x.1∈qm wd/\x.2∈qm wd):Gn wd lk ct=sT wd lk ct:=by
 unfold Gn sT;rw[S4];congr 1
 ·refine lB λr o=>?_;obtain⟨p,U⟩:=Az.mp o;obtain⟨_,k,I,g⟩:=v9 p;cases k with
  |none=>cases g
  |some k=>
   cases k with
   |lf t n=>cases g
   |nd e x y=>
    have C:r∉zp wd ct:=λz=>by rw[Av z] at U;cases U
    rw[S2 I (λd hd=>?_) J]
    ·unfold EY;rw[I]
    ·rintro rfl;rcases Ag.mp hd with hd|hd
     ·obtain⟨t,n,j⟩:=l d hd;rw[I] at j;cases j
     ·exact C<|Ae _<|AV.mpr ⟨d,hd,Ak ..⟩
 ·exact S5 _ _ _ λi d e=>S3 nd e J
end L3
namespace L2
open PySem PySem.Spec PyProof.Rows
open PySem.AutoSeq1 (wpAny_loadPart')
def qL(h:Heap)(l:Addr)(c:Int):Heap:=(h.push { cls:=.type "list_iterator",data:=.fields #[.ref l,.int 0 0] }).push { cls:=.type "enumerate",data:=.fields #[.none,.bool false,.ref h.objs.size,rawInt c,.none,.none] }
theorem rR(l:Addr)(items:Array Value)(n:Nat)(dct:Option Addr)(o:Array<|Option Value)(c:Int)(t:Tok)(T:PySem.Builtin.SmallTypes.fitsIndex c=true):
 Meets (Builtin.«enumerate.__new__» ⟨[.type "enumerate",.ref l],[("start",.int c t)]⟩) λ_ R s=>s.heap.get? l=some ⟨.type "list",dct,.seq items n,o⟩/\R (.ok<|.ret<|.ref (s.heap.push { cls:=.type "list_iterator",data:=.fields #[.ref l,.int 0 0] }).objs.size) { s with heap:=qL s.heap l c }:=.of_wp λU w A R s h=>by
 obtain⟨p,g,d,r,os⟩:=s;obtain⟨I,h⟩:=h;have j:=sub_enumerate;have J:Heap.IsList (Shared.heap ⟨p,g,d,r,os⟩) l items:=⟨_,I,rfl,n,rfl⟩
 wp_walk using wpAny_loadPart' I
 refine wpAny_stack_any λst=>An ?_;split
 ·rename_i C _ _ _ _ _;cases (C==Value.type "enumerate")
  ·wp_walk using wpAny_loadPart' I,wpAny_pyIter_list J
   exact⟨_,rfl,h⟩
  ·wp_walk using wpAny_loadPart' I,wpAny_pyIter_list J
   exact⟨_,rfl,h⟩
 ·wp_walk using wpAny_loadPart' I,wpAny_pyIter_list J
  exact⟨_,rfl,h⟩
theorem vM{self a:Value}{k:Value}:Meets (Builtin.«object.__init__» ⟨[self,a],[("start",k)]⟩) λ_ R s=>s.TypeIs self "enumerate" /\ R (.ok<|.ret .none) s:=.of_wp λI w A R s J=>by
 obtain⟨j,U⟩:=J;have l:=F.called_enumerate.init.lookup;have o:=F.called_enumerate.made;have g:(some "enumerate.__new__" != some "object.__new__")=true:=by decide
 repeat (any_goals (first|assumption|wp_step))
 exact⟨_,rfl,U⟩
theorem uy(a b k:Value):argsOk "object.__init__" ⟨[a,b],[("start",k)]⟩:=by unfold argsOk;rw[signature?_of (id:="object.__init__") (n:=['_','_','t','i','n','i','_','_']) (o:=['t','c','e','j','b','o']) (by kernel_rfl) F.owner_object];kernel_rfl
theorem vE{w:World}{c:Int}{t:Tok}(hL:s.heap.IsList l items)(hf:PySem.Builtin.SmallTypes.fitsIndex c=true)
 (h:∀h',IsEnum h' (s.heap.objs.size+1) s.heap.objs.size c .none->h'.IsListIter s.heap.objs.size l 0->(∀b o,s.heap.get? b=some o->h'.get? b=some o)->Q (.ref<|s.heap.objs.size+1) { s with heap:=h' }):wpAny (model prog w) A (call (.type "enumerate") [.ref l] [("start",.int c t)]) Q E s:=by
 obtain⟨⟨cl,dct,dt,sl⟩,hl,C,n,hd⟩:=hL;replace C:cl=.type "list" := C;replace hd:dt=.seq items n:=hd;subst C hd;have J:=F.called_enumerate;obtain⟨c0,tl,a1⟩:=J.mro;have T:=J.made;have a2:=J.sub;have a3:checkTypeCall "enumerate" ⟨[.ref l],[("start",.int c t)]⟩=pure ():=by kernel_rfl
 have a0:checkBuiltinCall "enumerate.__new__" ⟨[.type "enumerate",.ref l],[("start",.int c t)]⟩=pure ():=by kernel_rfl
 have h1:=J.notType;have h2:=J.canCreate;have hz:(s.heap.push { cls:=.type "list_iterator",data:=.fields #[.ref l,.int 0 0] }).objs.size=s.heap.objs.size+1:=ya ..;have he:IsEnum (qL s.heap l c) (s.heap.objs.size+1) s.heap.objs.size c .none:=by have:=pR (s.heap.push { cls:=.type "list_iterator",data:=.fields #[.ref l,.int 0 0] }) (o:={ cls:=.type "enumerate",data:=.fields #[.none,.bool false,.ref s.heap.objs.size,rawInt c,.none,.none] }) rfl;rw[hz] at this;exact this
 have q:=h _ he ⟨_,oe _<|pR _ rfl,rfl,rfl⟩ λb o x=>oe _<|oe _ x;refine wpAny_call<|codeAny_of_tree ?_;show wpAny _ _ (callAny (.type "enumerate") _) _ _ _;refine An ⟨Code.quiet_builtin _ (by decide +kernel),codeAny_builtin F.entry_type_call ?_⟩;rw[Around.under_plain (weight_type_call_type "enumerate" [.ref l] [("start",.int c t)])<|units_type_call_type "enumerate" [.ref l] [("start",.int c t)]]
 repeat (any_goals (first|assumption|wp_step))
 refine codeAny_mono (codeAny_call_builtin J.plain F.entry_enumerate_new (wpAny_of_eq a0 (rR l items n dct sl c t hf prog w A.in1 (wants (λobj U=>obj=.ref (s.heap.objs.size+1)/\U={ s with heap:=qL s.heap l c }) E) s ⟨hl,by rw[hz];exact⟨rfl,rfl⟩⟩))) λr U hr=>?_;cases r with
 |error e=>exact hr
 |ok fl=>
  cases fl with
  |ret obj=>
   obtain⟨rfl,rfl⟩:=hr;have hT:Shared.TypeIs { s with heap:=qL s.heap l c } (.ref<|s.heap.objs.size+1) "enumerate" := ⟨_,he,rfl⟩;have a4:=J.init.lookup;have a5:=J.init.bind<|.ref<|s.heap.objs.size+1
   repeat (any_goals (first|assumption|wp_step))
   refine codeAny_mono (codeAny_call_builtin J.init.plain F.entry_object_init<|J.init.check _ _ _ _ _ _ _ _ hT (uy ..)<|vM prog w A.in1 (wants (λr g=>r=.none/\Q (.ref<|s.heap.objs.size+1) g) E) _ ⟨hT,rfl,q⟩) λp g I=>?_;cases p with
   |error e=>exact I
   |ok j=>
    cases j with
    |ret r=>
     obtain⟨rfl,hq⟩:=I
     repeat (any_goals (first|assumption|wp_step))
    |_=>exact I.elim
  |_=>exact hr.elim
theorem ug{w:World}{e:Addr}{c:Int}{x old:Value}{Q:Option Value->Shared->Prop}(t:IsEnum s.heap e it c old)(hi:s.heap.IsListIter it l i)(hl:s.heap.IsList l items)(hx:items[i]?=some x)(j:e≠it)
 (q:∀h',IsEnumOut h' e it (c+1) x s.heap.objs.size->h'.IsListIter it l (i+1)->h'.get? s.heap.objs.size=some { cls:=.type "tuple",data:=.seq #[.int c s.toks,x] }->(∀b o,b≠e->b≠it->s.heap.get? b=some o->h'.get? b=some o)->Q (some<|.ref s.heap.objs.size) { s with heap:=h',toks:=s.toks+1 }):wpAny (model prog w) A (pyNext<|.ref e) Q E s:=by
 have hT:s.TypeIs (.ref e) "enumerate" := ⟨_,t,rfl⟩;unfold pyNext;refine Aa<|wpAny_attempt<|wpAny_callSpecial?_slot (name:=Str.ofString "__next__") hT vc<|wpAny_call_entry vc hT F.entry_enumerate_next ?_<|F.args_enumerate_next_1 _;obtain⟨p,g,d,I,os⟩:=s;have el:e<p.objs.size:=pj t;show wpAny _ _ (field (.ref e) 2 >>= _) _ _ _;refine Aa<|BK t rfl (x:=.ref it) rfl<|Aa<|wpAny_nextOf_list_item hi hl hx λJ i1 r=>?_;replace r:Heap.SameBut it p J:=r;have e1:IsEnum J e it c old:=(r.2 e j).trans t;show wpAny _ _ (field (.ref e) 3 >>= _) _ _ ⟨J,g,d,I,os⟩;refine Aa<|BK e1 rfl (x:=rawInt c) rfl ?_;show wpAny _ _ (field (.ref e) 4 >>= _) _ _ ⟨J,g,d,I,os⟩;refine Aa<|BK e1 rfl (x:=.none) rfl ?_;show wpAny _ _ (mkInt c >>= _) _ _ ⟨J,g,d,I,os⟩;refine Aa<|wpAny_mkInt ?_;show wpAny _ _ (setField (.ref e) 3 (rawInt<|c+1) >>= _) _ _ ⟨J,g,d,I+1,os⟩;refine Aa<|wpAny_setField_rec e1 (by simp) λC e2 T=>?_;replace T:Heap.SameBut e J C:=T;replace e2:IsEnum C e it (c+1) old:=e2;refine Aa<|wpAny_setField_rec (s:=⟨C,g,d,I+1,os⟩) e2 (by simp) λU e3 s3=>?_;replace s3:Heap.SameBut e C U:=s3;replace e3:IsEnum U e it (c+1) old:=e3;have sz:U.objs.size=p.objs.size:=by rw[s3.1,T.1,r.1]
 refine Aa<|wpAny_newTuple ?_;have e4:IsEnum (U.push { cls:=.type "tuple",data:=.seq #[.int c I,x] }) e it (c+1) old:=oe _ e3;have t4:(U.push { cls:=.type "tuple",data:=.seq #[.int c I,x] }).get? p.objs.size=some { cls:=.type "tuple",data:=.seq #[.int c I,x] }:=by rw[<-sz];exact pR _ rfl
 have k4:∀b o,b≠e->J.get? b=some o->(U.push { cls:=.type "tuple",data:=.seq #[.int c I,x] }).get? b=some o:=λb o n h=>oe _<|s3.extBut b o n<|T.extBut b o n h;show wpAny _ _ (Builtin.SmallTypes.ownedTupleIsFree (.ref e) >>= _) _ _ ⟨U.push { cls:=.type "tuple",data:=.seq #[.int c I,x] },g,d,I+1,os⟩;rw[sz];generalize U.push { cls:=.type "tuple",data:=.seq #[.int c I,x] }=h4 at e4 t4 k4 ⊢;refine Aa ?_;unfold Builtin.SmallTypes.ownedTupleIsFree;refine Aa<|BK e4 rfl (x:=.none) rfl<|An ?_;simp only[if_true];refine Aa<|BQ<|Aa<|BK e4 rfl (x:=old) rfl<|Aa<|wpAny_setField_rec e4 (by simp) λh5 e5 s5=>?_;replace s5:Heap.SameBut e h4 h5:=s5;replace e5:IsEnum h5 e it (c+1) x:=e5;refine Aa ?_;unfold Builtin.SmallTypes.ownedTupleHandOut;refine Aa<|wpAny_setField_rec (s:=⟨h5,g,d,I+1,os⟩) e5 (by simp) λh6 e6 s6=>?_;replace s6:Heap.SameBut e h5 h6:=s6;replace e6:IsEnumOut h6 e it (c+1) x p.objs.size:=e6;refine wpAny_setField_rec (s:=⟨h6,g,d,I+1,os⟩) e6 (by simp) λh7 e7 s7=>?_;replace s7:Heap.SameBut e h6 h7:=s7;replace e7:IsEnumOut h7 e it (c+1) x p.objs.size:=e7;have k7:∀b o,b≠e->h4.get? b=some o->h7.get? b=some o:=λb o n h=>s7.extBut b o n<|s6.extBut b o n<|s5.extBut b o n h;refine Aa<|wpAny_letGo<|An ⟨_,rfl,An<|q h7 e7 (i1.at λo h=>k7 _ _ (A4 j)<|k4 _ _ (A4 j) h) (k7 _ _ (Dv el) t4) λb o n m h=>k7 b o n<|k4 b o n<|r.extBut b o m h⟩
theorem ue{w:World}{e:Addr}{c:Int}{old:Value}{Q:Option Value->Shared->Prop}(g:A.handled=none)(J:IsEnum s.heap e it c old)(hi:s.heap.IsListIter it l i)(j:s.heap.IsList l items)(p:items[i]?=none)
 (q:∀h',Heap.ExtBut it s.heap h'->Q none { s with heap:=h' }):wpAny (model prog w) A (pyNext<|.ref e) Q E s:=by
 have U:s.TypeIs (.ref e) "enumerate" := ⟨_,J,rfl⟩;unfold pyNext;refine Aa<|wpAny_attempt<|wpAny_callSpecial?_slot (name:=Str.ofString "__next__") U vc<|wpAny_call_entry vc U F.entry_enumerate_next ?_<|F.args_enumerate_next_1 _;show wpAny _ _ (field (.ref e) 2 >>= _) _ _ _;refine Aa<|BK J rfl (x:=.ref it) rfl<|Aa<|wpAny_nextOf_list_end g hi j p λh' x k I=>?_;obtain⟨o,r,t⟩:=I;exact Aa<|wpAny_isInstance (T:="StopIteration") (b:=true) ⟨o,r,t⟩ isSubtype_stop<|An<|q _ k
theorem o9{T:String}{nq:List Keyword}(l:backTo pos (starEach [e] env)=[(false,eval e env)])
 (g:(backToKw pos<|keywordEach nq env).all (·.1.isSome)=true) (j:(backToKw pos<|keywordEach nq env).any (·.1.isNone)=false)
 (h:wpAny M A (eval e env) (λv I=>wpAny M A (evalAll ((backToKw pos<|keywordEach nq env).map (·.2))) (λkvs U=>wpAny M A (call (.type T) [v] (((backToKw pos<|keywordEach nq env).filterMap (·.1)).zip kvs)) Q E U) E I) E s):
 wpAny M A (callWith pos (.type T) [] (backTo pos<|starEach [e] env)<|backToKw pos<|keywordEach nq env) Q E s:=by
 rw[l];unfold callWith;refine Aa<|A6<|AX (evalArgs_kwB (Q:=λa I=>wpAny M A (call (.type T) a.pos a.kw) Q E I) g<|vb<|AX h (λv I J=>wh J) λ_ _ x=>x) (λa I J=>Aa<|wpAny_standAt ?_) λ_ _ x=>x;rw[j];refine Aa<|An ?_;exact Aa<|AX J (λr U o=>Aa<|A6<|wpAny_point<|An o) λ_ _ x=>x
def Go(K:Aj)(a:Addr)(c:Int):It:=
 ⟨λi H=>∃xs x,wr K H a xs/\xs[i]?=some x,λi H v H'=>∃p x,H p=none/\v=.ref p/\H'=upd H p (.tup [.int<|c+i,x])/\∀xs,wr K H a xs->xs[i]?=some x,λi H=>∃xs,wr K H a xs/\xs.length<=i⟩
theorem uM{P:Program}{w:World}{K:Aj}(a e it:Addr)(c:Int)(l:e≠it):zK P w K (.Tuple li x1 tp) (Go K a c) [e,it] e (λi h=>(∃old,IsEnum h e it (c+i) old)/\h.IsListIter it a i) where
 mem:=by simp
 obj:=λi h ψ b g=>by
  obtain⟨⟨old,J⟩,U⟩:=ψ
  rcases Ao.mp g with rfl|g
  ·exact⟨_,J,λv z=>by cases z⟩
  ·cases Am.mp g;obtain⟨o,T,hc,hd⟩:=U;exact⟨o,T,λv z=>by rw[hd] at z;cases z⟩
 keep:=λi h h' ψ k=>(by obtain⟨⟨old,J⟩,U⟩:=ψ;exact ⟨⟨old,k e (by simp) _ J⟩,U.at λo q=>k it (by simp) o q⟩)
 item:=by
  rintro X hP hw hK hc i r s σ H E I t ⟨⟨old,J⟩,U⟩ hg;subst hP hw hK;obtain⟨xs,x,C,hx⟩:=hg;obtain⟨a0,rv,p,hz⟩:=I.list C;obtain⟨u,hu,ru⟩:=rv.get hx;refine ug J U p.isList (x:=u) (by simpa using hu) l λh1 a1 a2 ht hk=>⟨.ref s.heap.objs.size,rfl,wpAny_letOwnedTupleGo_enum a1 λh2 a3 j=>?_⟩;have el:e<s.heap.objs.size:=pj J;have il:it<s.heap.objs.size:=by obtain⟨o,T,_⟩:=U;exact pj T
  have kk:∀b o,b∉[e,it]->s.heap.get? b=some o->h2.get? b=some o:=λb o nb q=>by have n1:b≠e:=λz=>nb (by simp[z]);have n2:b≠it:=λz=>nb (by simp[z]);exact j.extBut b o n1<|hk b o n1 n2 q
  have tg:h2.get? s.heap.objs.size=some { cls:=.type "tuple",data:=.seq #[.int (c+i) s.toks,u] }:=j.extBut _ _ (Dv el) ht;refine⟨.ref s.heap.objs.size,upd H s.heap.objs.size<|.tup [.int<|c+i,x],?_,rfl,⟨_,x,I.hok.fresh<|Ap _,rfl,rfl,λys hy=>by rw[I.list_inj hy C];exact hx⟩,⟨⟨_,by rw[show c+((i+1:Nat):Int)=c+i+1 by rw[Int.natCast_succ,Int.add_assoc]];exact a3⟩,a2.at λo q=>j.extBut _ _ (A4 l) q⟩,λb g=>?_⟩
  ·exact I.turnedN (t':=s.toks+1) kk t (Ap _) ⟨by show 2<=sizeLine;decide,[.int (c+i) s.toks,u],.cons ⟨_,rfl⟩<|.cons ru .nil,⟨_,tg,rfl,_,rfl⟩⟩
  ·have a4:b<s.heap.objs.size:=by rcases Ao.mp g with rfl|g;exact el;cases Am.mp g;exact il
   rw[qu<|A5 a4];exact(t b g).1
 done:=by rintro X hP hw hK hc i r s σ H E I t ⟨⟨old,J⟩,U⟩ hg;subst hP hw hK;obtain⟨xs,C,hx⟩:=hg;obtain⟨a0,rv,p,hz⟩:=I.list C;have hl:=rv.length;exact ue (I.ok.hd hc) J U p.isList (by simp;omega) λh1 eb=>⟨rfl,I.turnedL (t':=s.toks) (fp:=[e,it]) (λb o nb q=>eb b o (λz=>nb (by simp[z])) q) t⟩
 self:=λ_ _ _ _ _ ψ h=>(by obtain⟨⟨_,J⟩,_⟩:=ψ;exact wpAny_pyIter_enum J h)
def S7(K:Aj)(ta tb:TE):TI:=λσ H R=>ta σ H λv H1=>tb σ H1 λk H2=>∃a c,v=.ref a/\k=.int c/\0<=c/\c<1000000/\(∃xs,wr K H2 a xs)/\R (Go K a c) H2
theorem S8{a b:Expr}{ta tb:TE}{p kp:Pos}(hg:Gl X "enumerate")(hm:X.mg "enumerate"=none)(ha:PE X a ta)(g:PE X b tb)(o:backTo pos (starEach [a] X.env)=[(false,eval a X.env)]:=by rfl):
 PI X (.Tuple li x1 tp) (.Call (.Name "enumerate" p) [a] [⟨some "start",b,kp⟩] pos) (S7 X.K ta tb):=by
 intro J s C H R I h;refine wpAny_Call_Name_kw<|gJ I hg hm hU<|o9 o rfl rfl<|aT (ha J s C H _ I h) λu s1 ψ=>?_;obtain⟨v,H1,I1,r1,q1⟩:=ψ;refine kwAll_cons<|aT (g J s1 C H1 _ I1 q1) λu2 U ⟨v2,T,r,r2,l,c,e1,e2,c0,c1,⟨xs,hq⟩,q⟩=>kwAll_nil ?_;subst e1 e2;cases r1;obtain⟨t,rfl⟩:=r2;obtain⟨a0,rv,pl,hz⟩:=r.list hq;refine vE pl.isList (by unfold PySem.Builtin.SmallTypes.fitsIndex;simp;omega) λh1 o hi hk=>?_;have I3:z8 X J C T { U with heap:=h1 }:=r.kept (t':=U.toks) hk;refine wpAny_pyIter_enum (s:={ U with heap:=h1 }) o ?_;refine⟨U.heap.objs.size+1,[U.heap.objs.size+1,U.heap.objs.size],_,_,T,rfl,I3,uM l _ _ c<|Nat.succ_ne_self _,⟨⟨_,by rw[Int.natCast_zero,Int.add_zero];exact o⟩,hi⟩,λb g=>?_,q⟩;have j:U.heap.objs.size<=b:=by rcases Ao.mp g with rfl|g;exact B6 _;cases Am.mp g;exact Ap _
 exact r.fpOk j<|r.hok.fresh j
end L2
namespace L3
open PySem L2
def iH(c:Int)(ys:List Y):List Y:=ys.zipIdx.map λp=>Y.tup [.int<|c+(p.2:Nat),p.1]
theorem oM{c:Int}(h:(iH c ys)[i]?=some y):∃z,ys[i]?=some z/\y=.tup [.int<|c+i,z]:=by unfold iH at h;rw[Aq,Dp] at h;obtain⟨⟨J,j⟩,U,g⟩:=Aw.mp h;obtain⟨l,I,o⟩:=Aw.mp U;cases o;exact⟨J,I,by rw[<-g];simp⟩
theorem fq(c:Int)(ys:List Y):(iH c ys).length=ys.length:=by simp[iH]
theorem qZ{a:Addr}{c:Int}{keep:ql->Prop}(h:∀H L,j5 H₀ H->j6 G H L->keep L->∃xs,wr G.K H a xs/\xj G H ys xs):fj G H₀ (Go G.K a c) (iH c ys) keep where
 go:=λi H L t I J j=>by
  obtain⟨xs,sq,r⟩:=h H L t I J;have:i<xs.length:=by rw[<-r.length,<-fq c ys];exact j
  exact⟨xs,xs[i],sq,Al this⟩
 yld:=λi H L x H' y t I J l ψ=>by obtain⟨p,z,U,o,C,f⟩:=ψ;subst o C;obtain⟨xs,sq,r⟩:=h H L t I J;obtain⟨y',g,rfl⟩:=oM l;obtain⟨x',T,rv⟩:=r.get g;have:=f xs sq;rw[T] at this;cases this;exact⟨EN U,I.skip U,p,_,rfl,cT.of zq,⟨_,_,rfl,rfl,_,_,rfl,rv.ts<|EN U,rfl⟩⟩
 stop:=λH L t I J=>by obtain⟨xs,sq,r⟩:=h H L t I J;exact⟨xs,sq,by rw[fq,r.length];exact Ap _⟩
def S9(tl tk:v4)(τ:jm)(L:ql)(R:List Y->(ql->Prop)->ql->Prop):Prop:=tl τ L λx L1=>∃a,x=.ref a/\tk τ L1 λy L2=>∃c,y=.int c/\0<=c/\c<1000000/\nN L2 a λys keep L=>R (iH c ys) keep L
theorem S'{a b:Expr}{tk:v4}{p g:Pos}(hg:Gl X "enumerate")(hm:X.mg "enumerate"=none)(ha:QE X a te)(hb:QE X b tk)(he:backTo pos (starEach [a] X.env)=[(false,eval a X.env)]:=by rfl):
 QI X (.Tuple li x1 tp) (.Call (.Name "enumerate" p) [a] [⟨some "start",b,g⟩] pos) (S9 te tk):=PI.imq (S8 hg hm ha hb he) λσ H R τ L R3 rs j z k=>by
 refine⟨τ,L,_,rs,j,z,λv H1 y L1 t1 o r t=>?_⟩;obtain⟨l,rfl,t⟩:=t;cases r;refine⟨τ,L1,_,rs.ts t1,o,t,λv C y L2 t2 I T J=>?_⟩;obtain⟨c,rfl,c0,c1,J⟩:=J;obtain⟨ys,keep,es,g,hk,J⟩:=lJ J;cases T;have hy:∀H L,j5 C H->j6 X.g3 H L->keep L->∃U,wr X.K H l U/\xj X.g3 H ys U:=λH L _ j e=>bx j<|hk L e;obtain⟨U,sq,_⟩:=hy C L2 (EM _) I g;exact⟨l,c,rfl,rfl,c0,c1,⟨U,sq⟩,k _ C _ _ L2 (t1.trans t2) I (qZ hy) J⟩
open PySem L2 Words
noncomputable def fZ(I:zc)(J:zc):RD "parted_cuts" bY 4 ["web","edges","parted","number","cut","sides"] (λV=>Ge V I/\Gf V J):=⟨_,λV B c _ _ _ _ _ _ _ U hN g=>(qa (S_ 1 hN<|C_ c.1 U<|jv<|qv 0)<|qa (S_ 2 hN<|jb vt)<|qa (vh p0 rfl (S' rfl B.bg (J_ 0)<|L_ B.ba<|J_ 0) (aN (n:=2) rfl<|zg (G_ 3 hN)<|zg (G_ 4 hN) kc)<|qa (S_ 5 hN<|C_ c.2 U<|jr (J_ 0)<|cS (qj j4 (vj (jH _ _ _) (qv 1) aP<|ve<|qv 3)<|vj (jH _ _ _) (qv 1) (ve<|qj j4 (qv 3) qf) aP) (J_ 4)<|J_ 4)<|qd<|zv (af<|qv 5) (qd<|zf<|ze (qv 2)<|jv<|qj uZ (qj uZ (zr<|jv jl)<|qv 4)<|qv 5) z9)<|qd<|qx<|qv 2)⟩
noncomputable def nZ(I:zc)(J:zc):kh:=(fZ I J).1
theorem Ta :∀ys L Q,mF C ys L Q->jw (nZ kK<|ga C) 6 ys L Q:=by
 rintro ys L Q ⟨a,l,c,I,lk,J,rfl,ha,hl,hc,hz,a4,a5,ok,hb,q⟩;have big:=a_;have pl:∀g:List (Nat×Nat),(qp g).length=g.length:=λg=>Ah ..;have el:=wm I<|qm I;have tl:(qm I).length<=I.length:=bV _ _ _;have al:(jd I lk J).length<=5000:=by unfold jd;rw[Ad,Ad];lia
 refine⟨a,l,c,I,lk,J,rfl,ha,hl,hc,hz,a4,a5,λea a7=>?_⟩;have s2:=By (o:=.lst<|qp<|jd I lk J) a7;have U:qe L ea (.lst<|qp<|jd I lk J) ea=_:=q9;generalize qe L ea (.lst<|qp<|jd I lk J)=L2 at s2 U ⊢;intro D hD;have ab:ea≠D:=λz=>by rw[z,hD] at U;cases U
 have s3:=By (o:=.lst []) hD;have fD:=s2.none hD;have U:=s3 _ _ U;have kD:qe L2 D (.lst []) D=_:=q9;have s3:=s2.trans s3;generalize qe L2 D (.lst [])=L3 at s3 U kD ⊢;refine⟨c,rfl,qb (s3 _ _ hl) ⟨_,rfl,AU _,by rw[pl];lia,?_⟩⟩;rw[pl];refine jx (s3 _ _ hc) λkeep kp=>kz ⟨λi τ j=>∃c3 c4 c5 g,τ=[some<|aI a l c,some<|.ref ea,some<|.ref D,c3,c4,c5]/\qg L j/\j ea=some (.lst<|qp<|jd I lk J)/\j D=some (.lst g)/\g.length<=i/\dO j D g ((List.range i).filterMap<|q_ I lk J),⟨_,_,_,[],rfl,s3,U,kD,Ap _,.nil⟩,?_,?_,?_⟩
 ·rintro i τ j ⟨_,_,_,_,rfl,s,_⟩;exact kp _ (by rw[s _ _ hc,s3 _ _ hc])
 ·rintro i y τ j hy ⟨c3,c4,c5,g,rfl,s,r,j3,xl,T⟩;obtain⟨z,ez,rfl⟩:=oM hy;rw[qp,Aq] at ez;obtain⟨d,ed,rfl⟩:=Aw.mp ez;have hi:=zd ed;have er:((lk.length:Int)+(i:Int))=((lk.length+i:Nat):Int):=by lia
  rw[er];have j0:=r;refine qr r λp5 h5=>?_;rw[xQ];have s5:=By (o:=.lst<|(qp<|jd I lk J).take<|lk.length+i) h5;have g5:qe j p5 (.lst<|(qp<|jd I lk J).take<|lk.length+i) p5=_:=q9;have r:=s5 _ _ r;generalize qe j p5 (.lst<|(qp<|jd I lk J).take<|lk.length+i)=M5 at s5 g5 r ⊢;refine qr r λp6 h6=>?_;have s6:=By (o:=.lst<|(qp<|jd I lk J).drop<|lk.length+i+1) h6;have g6:qe M5 p6 (.lst<|(qp<|jd I lk J).drop<|lk.length+i+1) p6=_:=q9;rw[show(((lk.length+i:Nat):Int)+1)=((lk.length+i+1:Nat):Int) by lia,oR];have r:=s6 _ _ r;have g5:=s6 _ _ g5;have s6:=s5.trans s6;generalize qe M5 p6 (.lst<|(qp<|jd I lk J).drop<|lk.length+i+1)=M6 at s6 g5 g6 r ⊢;refine⟨_,_,g5,g6,by rw[AQ,BC,pl];exact Bf<|big _ (by lia),λp7 h7=>?_⟩;have ee:(qp<|jd I lk J).take (lk.length+i)++(qp<|jd I lk J).drop (lk.length+i+1)=qp ((jd I lk J).eraseIdx<|lk.length+i):=by unfold qp;rw[List.eraseIdx_eq_take_drop_succ,AD,DW,EJ]
  rw[ee];have s7:=s6.trans<|By (o:=.lst<|qp<|(jd I lk J).eraseIdx<|lk.length+i) h7;have g7:qe M6 p7 (.lst<|qp<|(jd I lk J).eraseIdx<|lk.length+i) p7=_:=q9;generalize qe M6 p7 (.lst<|qp<|(jd I lk J).eraseIdx<|lk.length+i)=M7 at s7 g7 ⊢;have md:=hb d<|Ai _<|Ae _<|AF ed;have pb:q_ I lk J i=if aG ((jd I lk J).eraseIdx<|lk.length+i) d.1 d.2 then none else some ([.str "cut",.int (d.1:Int),.int (d.2:Int)],bE I ((jd I lk J).eraseIdx<|lk.length+i) d.1,bE I ((jd I lk J).eraseIdx<|lk.length+i) d.2):=by unfold q_;rw[ed]
  have u:=s.trans s7;have a0:=s7 _ _ j0;have t:=s7 _ _ j3;refine⟨a,p7,I,_,d.1,d.2,rfl,u _ _ ha,g7,hz,λx hx=>hb x<|Eb hx,md.1,md.2,λrc L8 s8=>?_,λnr D1 D2 L8 s8 f1 f2 ac k1 k2=>?_⟩
  ·refine⟨_,EL _,_,_,_,g,rfl,u.trans s8,s8 _ _ a0,s8 _ _ t,by lia,?_⟩;rw[Cj,Cf,DX (by rw[pb,AC<|ja.mpr rc]),C9,AE];exact T.mono λp o _ h=>s8 p o<|s7 p o h
  ·have a1:=s8 _ _ t;refine qb a1 ⟨by simp,by show 1+2<=1000;decide,by simp,by show 3+2<=1000;decide,qr a1 ⟨big _ (by lia),⟨_,EL _,_,_,_,_,rfl,(u.trans s8).upd fD,(qc ab).trans<|s8 _ _ a0,q9,by rw[Ad];show _+1<=_;lia,?_⟩⟩⟩;have a2:D1≠D:=λz=>by rw[z,t] at f1;cases f1
   have a3:D2≠D:=λz=>by rw[z,t] at f2;cases f2
   rw[Cj,Cf,DY (by rw[pb,AB λh=>nr<|ja.mp h]),C9];exact Words.Paired.app (dO.mono (L:=L8) (T.mono λp o _ h=>s8 p o<|s7 p o h) λp o n h=>(qc n).trans h)<|.cons ⟨D1,D2,rfl,a2,a3,(qc a2).trans k1,(qc a3).trans k2⟩ .nil
 ·rintro τ j ⟨c3,c4,c5,g,rfl,s,r,j3,xl,T⟩;rw[fq,pl] at T;exact x0<|q D g j s fD j3 T
end L3
namespace L2
open PySem PySem.Spec PyProof.Rows
section
variable {w:World}
section
variable {t1 t2:Bool}{z TI TO i1 i2 l1 l2 B:Addr}{xs ys:Array Value}
end
end
section
variable {σ:L2.St}{t1 t2:Bool}{z TI TO i1 i2 l1 l2 S:Addr}{ys:List V}{R:Result->Shared->Prop}{res:Value}
end
end L2
namespace L3
open PySem L2
open PySem L2 Words
theorem Paired.len{α β:Type}{F:α->β->Prop}:∀{xs:List α} {ys:List β},Paired F xs ys->xs.length=ys.length
 |_,_,.nil=>rfl
 |_,_,.cons _ r=>BL (· + 1)<|Paired.len r
def mH:Y->Bool
 |.non=>true
 |.int _=>true
 |.str _=>true
 |_=>false
def io(L:ql):Nat->Y->Y->Prop
 |0,_,_=>False
 |n+1,x,y=>(mH x=true/\y=x)\/(∃xs ys,x=.tup xs/\y=.tup ys/\ys.length<=1000/\Paired (io L n) xs ys)\/(∃a b xs ys,x=.ref a/\y=.ref b/\L a=some (.lst xs)/\L b=some (.lst ys)/\ys.length<=1000/\Paired (io L n) xs ys)
theorem io.flat{x:Y}(h:mH x=true):io L (n+1) x x:=.inl ⟨h,rfl⟩
theorem io.tup{xs:List Y}(h:Paired (io L n) xs ys)(l:Nat.ble ys.length 1000=true:=by rfl):io L (n+1) (.tup xs) (.tup ys):=.inr<|.inl ⟨xs,ys,rfl,rfl,CH l,h⟩
theorem rA{L:ql}{n:Nat}:∀wd:List (Option Kn),Paired (io L<|n+2) (x4 wd)<|x4 wd
 |[]=>.nil
 |none::r=>.cons (.flat rfl)<|rA r
 |some (.lf t m)::r=>.cons (.tup<|.cons (.flat rfl)<|.cons (.flat rfl) .nil)<|rA r
 |some (.nd e i j)::r=>.cons (.tup<|.cons (.flat rfl)<|.cons (.flat rfl)<|.cons (.flat rfl) .nil)<|rA r
def cL(n:Nat):zc:=λys L Q=>∃x y,ys=[x,y]/\io L n x y/\Q (.bl true) L
theorem zL:∀ys L Q,¬cL 0 ys L Q:=λys L Q ψ=>(by obtain⟨x,y,_,h,_⟩:=ψ;exact h)
noncomputable def tQ(I:zc):RR "_law_moved" ce 1 ["_law_rule","_law_at"] ["_law_rule","_law_at","_law_places","_law_arms"] I (λ_=>True):=⟨_,λV B c _ _ J _ _ _ _ _ _ g hN U=>(qa (zv (E_ U (J_ 0) jl) (qd<|qx<|zr<|cS jl (ay O' rfl B.b_min R4<|wg (dC U (qv 1) (J_ 0) λ_ _=>rfl)<|dC U (qv 1) (J_ 0) λ_ _=>rfl)<|ay Ia rfl B.bi HG<|wg (dC U (qv 1) (J_ 0) λ_ _=>rfl)<|dC U (qv 1) (J_ 0) λ_ _=>rfl) z9)<|qa (eG ["_law_x"] (i:=2) hN rfl (Or.inl rfl) (EW (by rfl)) rfl (vC<|vj (uE _ _ _) (qv 0) (ve qf) aP) (nV 4) (λ_ _ _ _=>aK<|xa<|vd .int rfl B.bb rfl B.b_int vP<|qv 4) λ_ _ _ _=>(dC U (qv 1) (qv 4) λ_ _=>rfl))<|qa (eG ["_law_x"] (i:=3) hN rfl (Or.inl rfl) (EW (by rfl)) rfl (vC<|vj (uE _ _ _) (qv 0) (ve qf) aP) (nV 4) (λ_ _ _ _=>aK<|xa<|vd .tuple rfl B.bb rfl B.b_tuple cM<|qv 4) λ_ _ _ _=>(C_ J g<|wg (qv 4)<|qv 1))<|qd<|qx<|eL Sx rfl B.b_tuple cM<|jv<|qj j4 (qj j4 (jb<|jv<|J_ 0)<|qv 2)<|qv 3)⟩
noncomputable def Tb(I:zc):kh:=(tQ I).1
theorem zB(n:Nat):∀ys L Q,cH (n+1) ys L Q->jw (Tb<|cH n) 4 ys L Q:=by
 rintro ys L Q ⟨R,d,g,f,rfl,hd,l,hr,q⟩;have big:=a_;by_cases U:∃a b,R=.link a b
 ·obtain⟨a,b,rfl⟩:=U;have v1:=l _ (gM _) a<|Ak ..;have v2:=l _ (gM _) b<|Ab _<|Ak ..;refine vm hd<|qh v1 ?_;refine vm hd<|qh v2 ?_;refine vm hd<|qh v1 ?_;refine vm hd<|qh v2 ?_;refine x0 ?_;have e1:min (f a:Int) (f b:Int)=((min (f a) (f b):Nat):Int):=Rp _ _;have e2:max (f a:Int) (f b:Int)=((max (f a) (f b):Nat):Int):=Rq _ _;have q:Q (.tup [.str "link",.int ((min (f a) (f b):Nat):Int),.int ((max (f a) (f b):Nat):Int)]) L:=q;rw[<-e1,<-e2] at q;exact q
 have hk:EQ R ≠ "link" := by cases R with|link a b=>exact absurd ⟨a,b,rfl⟩ U|ei r A=>show(Str.ofString "either") ≠ "link";decide +kernel|bo r A B=>show(Str.ofString "both") ≠ "link";decide +kernel|cu p s A B=>show(Str.ofString "cut") ≠ "link";decide +kernel
 have T:Q (.tup<|[.str<|EQ R]++nY ((plR R).map f)++(wu R).map λB=>zu<|a6 f B) L:=by cases R with|link a b=>exact absurd ⟨a,b,rfl⟩ U|ei r A=>exact q|bo r A B=>exact q|cu p s A B=>exact q
 have vp:∀x∈plR R,km g (.inl (x:Int))=some (.int (f x:Int)):=l R<|gM R;have va:∀B∈wu R,v3 B<=n/\∀C∈eU B,∀x∈plR C,km g (.inl (x:Int))=some (.int (f x:Int)):=λB hB=>⟨by have:=oU hB;lia,λC hC=>l C<|aq (Sn hB) hC⟩;have lp:(plR R).length<=2:=by cases R<;>simp[plR]
 have lA:(wu R).length<=2:=by cases R<;>simp[wu]
 rw[gq R];generalize plR R=P at vp T lp;generalize wu R=I at va T lA;generalize EQ R=t at hk T;clear q l U hr;have e0:bp (Y.str t::(nY P++I.map zu)) 0=some (Y.str t):=xg (xs:=Y.str t::(nY P++I.map zu)) (j:=0) rfl;have ll:(nY P++I.map zu).length=P.length+I.length:=by rw[Ad,jh,Ah]
 walk_at "w";rw[e0];refine vi (Au hk) ?_;refine⟨pH _ _,?_⟩;rw[lO];refine bJ (λi J=>J=nY ((P.take i).map f)) (by rw[ll];exact big _ (by lia)) trivial rfl ?_ ?_
 ·rintro i y J hy rfl;rcases qN hy with⟨c,x,ex,rfl⟩|⟨c,B,eB,rfl⟩
  ·refine vm hd<|qh (vp x<|AF ex) ⟨_,EL _,rfl,?_⟩;rw[Bc,ex,AD,aW];rfl
  ·have e1:P.take (i+1)=P.take i:=by rw[AZ (by lia),AZ c]
   have z:dI (λJ L'=>L'=L/\J=nY ((P.take<|i+1).map f)) (nY<|(P.take i).map f) L:=⟨_,EL _,rfl,by rw[e1]⟩;rw[gq B];exact z
 rintro J rfl p1 h1;rw[ll,AZ (by lia)];have s3:=By (o:=.lst<|nY<|P.map f) h1;have g3:qe L p1 (.lst<|nY<|P.map f) p1=some (.lst<|nY<|P.map f):=q9;refine⟨pH _ _,?_⟩;rw[lO];generalize qe L p1 (.lst<|nY<|P.map f)=L3 at s3 g3 ⊢;refine bJ (λi J=>J=(I.take<|i-P.length).map λB=>zu<|a6 f B) (by rw[ll];exact big _ (by lia)) trivial (by rw[Nat.zero_sub];rfl) ?_ ?_
 ·rintro i y J hy rfl;rcases qN hy with⟨c,x,ex,rfl⟩|⟨c,B,eB,rfl⟩
  ·exact⟨_,EL _,rfl,by rw[CK c,CK<|Bf c]⟩
  ·obtain⟨h1,h2⟩:=va B<|AF eB;have z:cH n [zu B,.ref d] L3 λz L4=>dI (λJ L'=>L'=L3/\J=(I.take<|i+1-P.length).map λB=>zu<|a6 f B) (((I.take<|i-P.length).map λB=>zu<|a6 f B)++[z]) L4:=by refine⟨B,d,g,f,rfl,s3 _ _ hd,h2,h1,_,EL _,rfl,?_⟩;rw[Nat.succ_sub c,Bc,eB,AD];rfl
   rw[gq B] at z ⊢;exact z
 rintro J rfl p4 h4;rw[ll,BR,A9];have a0:=aU g3 h4;have s4:=s3.trans<|By (o:=.lst<|I.map λB=>zu<|a6 f B) h4;have g4:=(qc (o:=.lst<|I.map λB=>zu<|a6 f B) a0).trans g3;have k4:qe L3 p4 (.lst<|I.map λB=>zu<|a6 f B) p4=some (.lst<|I.map λB=>zu<|a6 f B):=q9;generalize qe L3 p4 (.lst<|I.map λB=>zu<|a6 f B)=L4 at s4 g4 k4 ⊢;walk_at "w";rw[e0];intro p2 h2;have s2:=By (o:=.lst [Y.str t]) h2;refine⟨_,_,q9,s2 _ _ g4,?_,λp3 h3=>?_⟩
 ·rw[jh,Ah];exact Bf (big _ (by show 1+P.length<=20000;lia))
 have s5:=s2.trans<|By (o:=.lst<|[Y.str t]++nY (P.map f)) h3;refine⟨_,_,q9,s5 _ _ k4,?_,λp5 h5=>?_⟩
 ·rw[Ad,jh,Ah,Ah];exact Bf (big _ (by show 1+P.length+I.length<=20000;lia))
 exact qr q9<|kU ((s4.trans s5).trans<|By h5) T
noncomputable def f7:RD "_law_number" bZ 0 ["_law_x"] (λ_=>True):=⟨_,λV B c _ _ _ _ _ _ _ I hN J=>(qd<|qx<|uw (vd .int rfl B.bb rfl B.b_int vP<|qv 0)<|ut<|Ph<|vd .bool rfl B.bb rfl B.b_bool OL<|qv 0)⟩
noncomputable def nK:kh:=(f7).1
noncomputable def sm(I:zc)(J:zc):RR "_law_alike" cq 2 ["_law_found","_law_due"] ["_law_found","_law_due","_law_k"] J (λV=>Ft V I):=⟨_,λV B c _ _ U _ _ _ _ _ _ j hN g=>(qa (zv (lG<|qv 1) (qd<|qx<|Pg<|qv 0) z9)<|qa (zv (xa<|vd .int rfl B.bb rfl B.b_int vP<|qv 1) (qd<|qx<|uw (C_ c j<|jv<|qv 0)<|ut<|bO (uA _ _ _ g) (qv 0) (qv 1)<|vf _) z9)<|qa (zv (xa<|vd .str rfl B.bb rfl B.b_str vY<|qv 1) (qd<|qx<|uw (vd .str rfl B.bb rfl B.b_str vY<|qv 0)<|ut<|bO (uA _ _ _ g) (qv 0) (qv 1)<|vf _) z9)<|qa (zv (wc<|vq (xa<|vd .tuple rfl B.bb rfl B.b_tuple cM<|qv 1)<|w4<|aM<|xa<|vd .tuple rfl B.bb rfl B.b_tuple cM<|qv 0) (qd<|qx vn) z9)<|qa (zv (wc<|vq (xa<|vd .list rfl B.bb rfl B.be aa<|qv 1)<|w4<|aM<|xa<|vd .list rfl B.bb rfl B.be aa<|qv 0) (qd<|qx vn) z9)<|qa (zv (N_ g (L_ B.ba<|qv 0)<|L_ B.ba<|qv 1) (qd<|qx vn) z9)<|qa (vh p0 rfl (aC rfl B.bf<|jv<|L_ B.ba<|qv 1) (G_ 2 hN)<|qd<|zv (aM<|xa<|C_ U j<|wg (I_ (qv 0)<|qv 2)<|I_ (qv 1)<|qv 2) (qd<|qx vn) z9)<|qd<|qx vn)⟩
noncomputable def Tc(I:zc)(J:zc):kh:=(sm I J).1
def cA:zc:=λys L Q=>∃i:Int,ys=[.int i]/\Q (.bl true) L
theorem yP:∀ys L Q,cA ys L Q->jw nK 1 ys L Q:=by rintro ys L Q ⟨i,rfl,q⟩;exact x0 q
theorem yQ(n:Nat):∀ys L Q,cL (n+1) ys L Q->jw (Tc cA<|cL n) 3 ys L Q:=by
 rintro ys L Q ⟨x,y,rfl,h,q⟩;rcases h with⟨f,rfl⟩|⟨I,ys,rfl,rfl,l,p⟩|⟨a,b,I,ys,rfl,rfl,o,J,l,p⟩
 ·cases y with
  |non=>exact x0 q
  |int i=>
   refine⟨i,rfl,x0 ?_⟩;show Q (.bl<|nb false<|decide<|i=i) L;rw[Av rfl];exact q
  |str i=>
   refine x0 ?_;show Q (.bl<|nb false<|decide<|i=i) L;rw[Av rfl];exact q
  |_=>cases f
 ·have r:=Paired.len p;walk_at "w";refine vi (b:=nb true<|decide<|(I.length:Int)=ys.length) (by rw[r,Av rfl];rfl) ?_;refine⟨⟨AU _,by lia⟩,?_⟩;rw[BY];refine hG (λi U g=>g=L/\∃c,U=[some<|.tup I,some<|.tup ys,c]) ⟨rfl,_,rfl⟩ ?_ ?_
  ·rintro i U g t ⟨rfl,c,rfl⟩;have j:I[i]?=some (I[i]'(by lia)):=Al (by lia);have ev:ys[i]?=some ys[i]:=Al t;have C:bp I (0+(i:Int))=some (I[i]'(by lia)):=by rw[BI];exact xg j
   have T:bp ys (0+(i:Int))=some ys[i]:=by rw[BI];exact xg ev
   walk_at "w";rw[C];walk_at "w";rw[T];exact⟨_,_,rfl,ET p j ev,_,EL _,rfl,_,rfl⟩
  ·rintro U g ⟨rfl,c,rfl⟩;exact x0 q
 ·have r:=Paired.len p;refine dE J ?_;walk_at "w";refine dE J ?_;walk_at "w";refine dE J ?_;walk_at "w";refine dE J<|dE o ?_;walk_at "w";refine qb o (qb J (vi (by rw[r,Av rfl];rfl) ?_));refine qb J ⟨⟨AU _,by lia⟩,?_⟩;rw[BY];refine hG (λi U g=>g=L/\∃c,U=[some<|.ref a,some<|.ref b,c]) ⟨rfl,_,rfl⟩ ?_ ?_
  ·rintro i U g t ⟨rfl,c,rfl⟩;have j:I[i]?=some (I[i]'(by lia)):=Al (by lia);have ev:ys[i]?=some ys[i]:=Al t;have C:bp I (0+(i:Int))=some (I[i]'(by lia)):=by rw[BI];exact xg j
   have T:bp ys (0+(i:Int))=some ys[i]:=by rw[BI];exact xg ev
   refine qb o<|qh C<|qb J<|qh T ?_;exact⟨_,_,rfl,ET p j ev,_,EL _,rfl,_,rfl⟩
  ·rintro U g ⟨rfl,c,rfl⟩;exact x0 q
theorem Td(h:m<=n)(I:n<=120):∀ys L Q,wn m ys L Q->wn n ys L Q:=by rintro ys L Q ⟨a,J,w,e,U,hd,_,z⟩;exact⟨a,J,w,e,U,by lia,I,z⟩
theorem xF.nd{E:List Nat}(T:xF ks R E):(qk R).Nodup:=T.tp.nodup_iff.mpr Cw
theorem xF.pairs{E:List Nat}(T:xF ks R E):(qt R).Nodup/\(zb R).Nodup/\(∀p∈qt R,p.1<ks.length/\p.2<ks.length)/\∀p∈zb R,p.1<ks.length/\p.2<ks.length:=by
 have cu:=T.sr.cuts T.nd;refine⟨aH (T.sr.lkI T.nd).nd,aH cu.1,λp I=>?_,λp I=>?_⟩
 ·obtain⟨_,_,_,J,U⟩:=T.sr.links p I;exact⟨zd J,zd U⟩
 ·obtain⟨J,U⟩:=sh I;exact⟨T.sr.lt _ (cu.2 _ J).2,T.sr.lt _ (cu.2 _ U).2⟩
theorem bB(f:Nat->Nat):∀R:Ru,qt (a6 f R)=(qt R).map (Jo f)
 |.link _ _=>rfl
 |.ei _ A=>bB f A
 |.bo _ A B=>by show qt (a6 f A)++qt (a6 f B)=(qt A++qt B).map _;rw[bB f A,bB f B,AD]
 |.cu _ _ A B=>by show qt (a6 f A)++qt (a6 f B)=(qt A++qt B).map _;rw[bB f A,bB f B,AD]
theorem bW(f:Nat->Nat):∀R:Ru,zb (a6 f R)=(zb R).map (Jp f)
 |.link _ _=>rfl
 |.ei _ A=>bW f A
 |.bo _ A B=>by show zb (a6 f A)++zb (a6 f B)=(zb A++zb B).map _;rw[bW f A,bW f B,AD]
 |.cu p q A B=>by show(f p,f q)::(zb (a6 f A)++zb (a6 f B))=((p,q)::(zb A++zb B)).map _;rw[bW f A,bW f B,AG,AD];rfl
structure adj(wd:List<|Option Kn)(ct:List<|Nat×Nat):Prop where
 pu:dP wd
 cw:∀c∈ct,∃w,KW (x4 wd) c.1 w/\KW (x4 wd) c.2 w.turn
 ctN:(zm ct).Nodup
 ctP:∀x∈zm ct,x∉jp wd
 ctS:ct.Pairwise nu
 wl:wd.length<=241
theorem adj.lt(I:adj wd ct){c:Nat×Nat}(hc:c∈ct):c.1<wd.length/\c.2<wd.length:=by obtain⟨w,J,U⟩:=I.cw c hc;obtain⟨_,g⟩:=J.ex;obtain⟨_,j⟩:=U.ex;exact⟨zd g,zd j⟩
theorem adj.len(I:adj wd ct):ct.length<=120:=by
 have:=kq wd.length _ I.ctN λx J=>by
  obtain⟨c,U,e⟩:=dg J;have:=I.lt U;rcases e with rfl|rfl
  ·exact this.1
  ·exact this.2
 rw[cI] at this;have:=I.wl;lia
theorem KW.leafI :∀{w:Wd} {p:Nat},KW (x4 wd) p w->∃(q:Nat) (t:Bool) (n:Str),wd[q]?=some (some<|.lf t n)
 |.leaf t n,p,h=>⟨p,t,n,h.inv_lf⟩
 |.node e l r,p,h=>by obtain⟨i,j,_,I,_⟩:=h.inv_nd;exact I.leafI
theorem xF.cutI{E:List Nat}(T:xF ks R E)(U:tO f (ks.map some) wd)(pl:lk.Perm<|qt<|a6 f R)(a1:lk.Pairwise nu)(pc:ct.Perm<|zb<|a6 f R)(a2:ct.Pairwise nu):adj wd ct/\Jv wd lk:=by
 rw[bB] at pl;rw[bW] at pc;have nd:=T.nd;have hz:=T.len;have lt:∀x∈qk R,x<ks.length:=λx g=>AL.mp<|T.tp.mem_iff.mp g;have N:=(T.sr.part nd).nodup_iff.mpr nd;obtain⟨N1,N2,N3⟩:=Ay.mp N;have U0:dP (ks.map some):=Sh N1 λp hp=>T.tp.mem_iff.mpr<|AL.mpr hp;have a0:=gn T.ok;have lo:(ks.map some).length=ks.length:=Ah ..;have ev:∀{p:Nat} {k:Kn},ks[p]?=some k->(ks.map some)[p]?=some (some k):=λh=>by rw[Aq,h];rfl
 have up:∀{p:Nat} {k:Kn},ks[p]?=some k->wd[f p]?=some (hX f<|some k):=λ{p k} h=>U.gap.at_ p (AL.mpr (by rw[lo];exact zd h)) _<|ev h;have inj:∀a b,a<ks.length->b<ks.length->f a=f b->a=b:=λa b ha hb=>U.inj (by lia) (by lia);have a3:∀x,x∈zm ct->∃y,y∈zm (zb R)/\x=f y:=λx g=>by have:=(i3 pc).mem_iff.mp g;rw[jX] at this;obtain⟨y,J,e⟩:=Bt.mp this;exact⟨y,J,e.symm⟩
 have l:∀y∈zm (zb R),y<ks.length:=λy J=>lt y<|(T.sr.part nd).mem_iff.mp<|Ae _<|Ai _ J;have r:(zm lk).Perm ((zm<|qt R).map f):=(i3 pl).trans<|qX f _;have l_:∀y∈zm (qt R),y<ks.length:=λy J=>lt y (Az.mp<|T.sr.leaves.mem_iff.mp J).1;have wl:=U.len;have I:=T.sr.lkI nd;refine⟨⟨U0.ren a0 U,λc hc=>?_,?_,λx g z=>?_,a2,by lia⟩,λc hc=>?_,?_,λp=>?_,a1,?_,?_,by lia⟩
 ·obtain⟨c0,C,rfl⟩:=Bt.mp<|pc.mem_iff.mp hc;obtain⟨w,w1,w2⟩:=T.sr.cutw c0 C;have e:∀{p w},cU ks p w->KW (x4<|ks.map some) p w:=λh=>by rw[gW];exact h
  exact⟨w,U.word<|e w1,U.word<|e w2⟩
 ·have e:(zm ct).Perm ((zm<|zb R).map f):=by rw[<-jX];exact i3 pc
  exact e.nodup_iff.mpr<|ak (Ay.mp N2).1 λa ha b hb=>inj a b (l a ha)<|l b hb
 ·obtain⟨y,J,rfl⟩:=a3 x g;obtain⟨y',k,h1,h2⟩:=yy z;obtain⟨p,o,a,_,h3,e,h4⟩:=U.part h1 h2;have la:=nH a0 h3 h4;have e1:ks[p]?=some o:=kA h3;cases inj _ _ (l y J) (by lia) e;exact N3 y (AV.mpr ⟨p,T.tp.mem_iff.mpr<|AL.mpr<|zd e1,by rw[e1];exact h4⟩) y (Ai _ J) rfl
 ·obtain⟨c0,C,rfl⟩:=Bt.mp<|pl.mem_iff.mp hc;obtain⟨t,n,h1,h2⟩:=I.at_ c0 C;exact SV (up h1)<|up h2
 ·exact r.nodup_iff.mpr<|ak I.nd λa ha b hb=>inj a b (l_ a ha)<|l_ b hb
 ·rw[r.mem_iff,Bt];constructor
  ·rintro⟨y,J,rfl⟩;have:=(Az.mp<|T.sr.leaves.mem_iff.mp J).2;cases e:ks[y]? with
   |none=>rw[e] at this;cases this
   |some k=>
    cases k with|lf t n=>exact⟨t,n,up e⟩|nd b i j=>rw[e] at this;cases this
  ·rintro⟨t,n,h⟩;obtain⟨y,J,rfl,o,eo,ek⟩:=U.inv h;cases o with
   |none=>cases ek
   |some o=>
    cases o with
    |nd b i j=>cases ek
    |lf t' n'=>
     have e1:=kA eo;exact⟨y,T.sr.leaves.mem_iff.mpr (Az.mpr ⟨T.tp.mem_iff.mpr<|AL.mpr<|zd e1,by rw[e1];rfl⟩),rfl⟩
 ·have h1:=pl.length_eq;have h2:=kq _ _ I.nd l_;rw[Ah] at h1;rw[cI] at h2;lia
 ·intro z;obtain⟨x,g⟩:=List.exists_mem_of_length_pos<|T.sr.ends T.ok;have lx:=T.sr.lt x<|T.sr.sub x g;obtain⟨w,hw,_⟩:=ij T.ok (x+1) x (by exact Bk _) lx;have hw:KW (x4<|ks.map some) x w:=by rw[gW];exact hw
  obtain⟨q,t,n,h⟩:=hw.leafI;have:=T.sr.leaves.mem_iff.mpr (Az.mpr ⟨T.tp.mem_iff.mpr<|AL.mpr<|zd<|kA h,by rw[kA h];rfl⟩);have:=r.mem_iff.mpr<|Bt.mpr ⟨q,this,rfl⟩;rw[z] at this;cases this
section
variable {ps ps':List<|Nat×Nat}{u v:Nat}
end
inductive Dn(wd:List<|Option Kn)(p:Nat):Nat->Prop
 |self:Dn wd p p
 |part {z y:Nat} {k:Kn}:Dn wd p z->wd[z]?=some (some k)->y∈j8 (some k)->Dn wd p y
theorem Dn.le(ok:jQ wd){y:Nat}(h:Dn wd p y):y<=p:=by
 induction h with
 |self=>exact Ap _
 |@part z y k _ e I J=>
  cases k with
  |lf t n=>cases I
  |nd b i j=>
   have:=ok z b i j e;have I:y=i\/y=j:=by simpa[j8] using I
   rcases I with rfl|rfl<;>lia
theorem Dn.up{z y:Nat}{k:Kn}(e:wd[p]?=some (some k))(hz:z∈j8 (some k))(h:Dn wd z y):Dn wd p y:=by induction h with|self=>exact .part .self e hz|part _ I J U=>exact .part U I J
theorem Dn.prt{y:Nat}(h:Dn wd p y):y=p\/y∈jp wd:=by cases h with|self=>exact .inl rfl|part _ e I=>exact .inr<|AV.mpr ⟨_,AF e,I⟩
theorem Dn.meet(U:dP wd){y:Nat}(h:Dn wd p y)(g:Dn wd q y):Dn wd p q\/Dn wd q p:=by
 induction h with
 |self=>exact .inr g
 |@part z y k h e J j=>
  cases g with
  |self=>exact .inl<|.part h e J
  |@part o _ r g l I=>
   cases U.un _ _ _ _ y e l J I;exact j g
theorem pN(U:dP wd){y:Nat}(np:p∉jp wd)(I:q∉jp wd)(h:Dn wd p y)(g:Dn wd q y):p=q:=by
 rcases h.meet U g with h|h
 ·exact(h.prt.resolve_right I).symm
 ·exact h.prt.resolve_right np
theorem sH(ok:jQ wd)(U:dP wd){y:Nat}{e:Bool}(h:wd[p]?=some (some<|.nd e i j))(h1:Dn wd i y)(h2:Dn wd j y):False:=by
 have no:∀{a b:Nat},a∈j8 (some<|.nd e i j)->b∈j8 (some<|.nd e i j)->a≠b->¬Dn wd a b:=λ{a b} I o ne g=>by
  cases g with
  |self=>exact ne rfl
  |@part z _ k g r t=>
   cases U.un _ _ _ _ b h r o t;have C:=g.le ok;obtain⟨T,k2⟩:=ok _ _ _ _ h;have I:a=i\/a=j:=by simpa[j8] using I
   rcases I with rfl|rfl<;>lia
 have J:i∈j8 (some<|.nd e i j):=Ak;have l:j∈j8 (some<|.nd e i j):=Ab _ Ak;have ne:=U.ne _ _ _ _ h;rcases h1.meet U h2 with g|g
 ·exact no J l ne g
 ·exact no l J (A4 ne) g
inductive Met(wd:List<|Option Kn):Nat->Nat->List (Nat×Nat)->List Nat->Prop
 |lf {p q:Nat} {t t':Bool} {n n':Str}:wd[p]?=some (some<|.lf t n)->wd[q]?=some (some<|.lf t' n')->Met wd p q [(p,q)] [p,q]
 |nd {p q i j i' j':Nat} {e e':Bool} {A B:List<|Nat×Nat} {G H:List Nat}:wd[p]?=some (some<|.nd e i j)->wd[q]?=some (some<|.nd e' i' j')->Met wd i i' A G->Met wd j j' B H->Met wd p q (A++B) (p::q::(G++H))
theorem uQ{wd:List<|Option Kn}:∀{w:Wd} {p q:Nat},KW (x4 wd) p w->KW (x4 wd) q w.turn->∃A G,Met wd p q A G
 |.leaf t n,p,q,h,g=>⟨_,_,.lf h.inv_lf g.inv_lf⟩
 |.node e l r,p,q,h,g=>by obtain⟨i,j,I,J,U⟩:=h.inv_nd;obtain⟨i',j',o,g1,g2⟩:=g.inv_nd;obtain⟨A,G,C⟩:=uQ J g1;obtain⟨B,H,T⟩:=uQ U g2;exact⟨_,_,.nd I o C T⟩
section
variable {A:List<|Nat×Nat}{G:List Nat}
theorem Met.dn(M:Met wd p q A G):∀y∈G,Dn wd p y\/Dn wd q y:=by
 induction M with
 |lf _ _=>
  intro y I;rcases Ao.mp I with rfl|I
  ·exact .inl .self
  ·rw[Am.mp I];exact .inr .self
 |@nd p q i j o r e t A B G H g l _ _ J U=>
  intro y I;rcases Ao.mp I with rfl|I
  ·exact .inl .self
  rcases Ao.mp I with rfl|I
  ·exact .inr .self
  rcases Ag.mp I with I|I
  ·exact(J y I).imp (Dn.up g Ak) (Dn.up l Ak)
  ·exact(U y I).imp (Dn.up g<|Ab _ Ak) (Dn.up l<|Ab _ Ak)
theorem Met.nodup(ok:jQ wd)(U:dP wd)(M:Met wd p q A G):(∀y,Dn wd p y->¬Dn wd q y)->G.Nodup:=by
 induction M with
 |@lf p q t t' n n' h1 h2=>
  intro ap;have:p≠q:=λe=>ap p .self<|e▸.self;simp[this]
 |@nd p q i j i' j' e e' A B G H I J m1 m2 a0 a1=>
  intro ap;have o:∀{a b:Nat} {e:Bool},a∈j8 (some<|.nd e a b):=Ak;have r:∀{a b:Nat} {e:Bool},b∈j8 (some<|.nd e a b):=Ab _ Ak;have n1:=a0 λy h h'=>ap y (h.up I o)<|h'.up J o;have n2:=a1 λy h h'=>ap y (h.up I r)<|h'.up J r;have dG:∀y∈G,Dn wd i y\/Dn wd i' y:=m1.dn;have dH:∀y∈H,Dn wd j y\/Dn wd j' y:=m2.dn;obtain⟨l1,l2⟩:=ok _ _ _ _ I;obtain⟨l3,l4⟩:=ok _ _ _ _ J;have C:∀y∈G++H,(Dn wd p y/\y<p)\/(Dn wd q y/\y<q):=λy T=>by
   rcases Ag.mp T with T|T
   ·rcases dG y T with h|h
    ·exact .inl ⟨h.up I o,by have:=h.le ok;lia⟩
    ·exact .inr ⟨h.up J o,by have:=h.le ok;lia⟩
   ·rcases dH y T with h|h
    ·exact .inl ⟨h.up I r,by have:=h.le ok;lia⟩
    ·exact .inr ⟨h.up J r,by have:=h.le ok;lia⟩
  refine AH.mpr ⟨λh=>?_,AH.mpr ⟨λh=>?_,Ay.mpr ⟨n1,n2,λa ha b hb z=>?_⟩⟩⟩
  ·rcases Ao.mp h with e|h
   ·exact ap p .self<|e▸.self
   ·rcases C p h with⟨_,l⟩|⟨h,_⟩
    ·lia
    ·exact ap p .self h
  ·rcases C q h with⟨h,_⟩|⟨_,l⟩
   ·exact ap q h .self
   ·lia
  ·subst z;rcases dG a ha with h|h<;>rcases dH a hb with g|g
   ·exact sH ok U I h g
   ·exact ap a (h.up I o)<|g.up J r
   ·exact ap a (g.up I r)<|h.up J o
   ·exact sH ok U J h g
end
inductive nU(wd:List<|Option Kn):List (Nat×Nat)->List (Nat×Nat)->List Nat->Prop
 |nil:nU wd [] [] []
 |cons {c:Nat×Nat} {ct A B:List<|Nat×Nat} {G H:List Nat}:Met wd c.1 c.2 A G->nU wd ct B H->nU wd (c::ct) (A++B) (G++H)
theorem wM{wd:List<|Option Kn}:∀{ct:List<|Nat×Nat},(∀c∈ct,∃w,KW (x4 wd) c.1 w/\KW (x4 wd) c.2 w.turn)->∃A G,nU wd ct A G
 |[],_=>⟨_,_,.nil⟩
 |c::ct,h=>by obtain⟨w,I,J⟩:=h c Ak;obtain⟨A,G,m⟩:=uQ I J;obtain⟨B,H,n⟩:=wM λd hd=>h d<|Ab _ hd;exact⟨_,_,.cons m n⟩
section
variable {A:List<|Nat×Nat}{G:List Nat}
theorem nU.dn(M:nU wd ct A G):∀y∈G,∃p∈zm ct,Dn wd p y:=by
 induction M with
 |nil=>exact nofun
 |@cons c ct A B G H m _ J=>
  intro y I;rw[jq];rcases Ag.mp I with I|I
  ·rcases m.dn y I with h|h
   ·exact⟨_,Ak,h⟩
   ·exact⟨_,Ab _ Ak,h⟩
  ·obtain⟨p,U,h⟩:=J y I;exact⟨p,Ab _<|Ab _ U,h⟩
theorem nU.nodup(ok:jQ wd)(U:dP wd)(M:nU wd ct A G):(zm ct).Nodup->(∀x∈zm ct,x∉jp wd)->G.Nodup:=by
 induction M with
 |nil=>exactλ_ _=>CS
 |@cons c ct A B G H m o r=>
  intro nd np;rw[jq] at nd np;obtain⟨f1,nd⟩:=AH.mp nd;obtain⟨f2,nd⟩:=AH.mp nd;have j:=np c.1 Ak;have l:=np c.2<|Ab _ Ak;have J:∀p∈zm ct,p∉jp wd:=λp I=>np p<|Ab _<|Ab _ I;refine Ay.mpr ⟨m.nodup ok U λy h g=>f1<|pN U j l h g▸Ak,r nd J,λa t b C z=>?_⟩;subst z;obtain⟨p,I,g⟩:=o.dn a C;rcases m.dn a t with h|h
  ·exact f1<|pN U j (J p I) h g▸Ab _ I
  ·exact f2<|pN U l (J p I) h g▸I
end
section
variable {lk0 A0:List<|Nat×Nat}{Z:List<|Option Kn}
end
section
variable {xs:List Y}{es:List<|Nat×Nat}{P:ql->Prop}
end
section
variable {a c tk:Addr}{S:List Nat}{c0:Option Y}
end
theorem Jy:∀(l m:List Nat),l.Nodup->(∀x∈l,x∈m)->l.length<=m.length
 |[],_,_,_=>A3 _
 |x::r,m,nd,h=>by obtain⟨J,U⟩:=AH.mp nd;have g:=Jy r (m.erase x) U λy I=>(List.mem_erase_of_ne (λe:y=x=>J<|e▸I)).mpr<|h y<|Ab _ I;rw[(List.perm_cons_erase<|h x Ak).length_eq,AK,AK];lia
section
variable {A:List<|Nat×Nat}{b y w z x:Nat}
end
theorem Met.size{A:List<|Nat×Nat}{G:List Nat}(M:Met wd p q A G):∀{w:Wd},KW (x4 wd) p w->G.length=2*w.size:=by
 induction M with
 |lf J _=>
  intro w h;cases w with|leaf=>rfl|node e l r=>obtain⟨_,_,I,_⟩:=h.inv_nd;rw[J] at I;cases I
 |nd J _ _ _ U g=>
  intro w h;cases w with
  |leaf=>have I:=h.inv_lf;rw[J] at I;cases I
  |node e l r=>
   obtain⟨i,j,I,o,t⟩:=h.inv_nd;rw[J] at I;cases I;have:=U o;have:=g t;rw[AK,AK,Ad];show _=2*(1+l.size+r.size);lia
theorem qI{L:ql}{n:Nat}:∀l:List (Nat×Nat),Paired (io L<|n+2) (qp l)<|qp l
 |[]=>.nil
 |_::r=>.cons (.tup<|.cons (.flat rfl)<|.cons (.flat rfl) .nil)<|qI r
theorem qV{a b:Addr}{xs:List Y}(I:L a=some (.lst xs))(J:L b=some (.lst xs))(l:xs.length<=1000)(p:Paired (io L n) xs xs):io L (n+1) (.ref a) (.ref b):=.inr<|.inr ⟨a,b,xs,xs,rfl,rfl,I,J,l,p⟩
theorem Te{a c I J:Addr}(h1:L a=some (.lst<|x4 wd))(h2:L l=some (.lst<|qp lk))(U:L c=some (.lst<|qp ct))(g1:L I=some (.lst<|x4 wd))(g2:L J=some (.lst<|qp lk))(g3:L c'=some (.lst<|qp ct))(g:wd.length<=1000)(j:lk.length<=1000)(o:ct.length<=1000):io L 4 (aI a l c) (aI I J c'):=
 .tup (.cons (qV h1 g1 (by rw[Ah];exact g)<|rA wd) (.cons (qV h2 g2 (by rw[Ah];exact j)<|qI lk) (.cons (qV U g3 (by rw[Ah];exact o)<|qI ct) .nil)))
section
variable {K:Aj}{O N b1 b2 b3 b4 b5 b6 b7 b8 b9:Addr}{a c:Addr}{o0 o1 o3:Option Y}{ki:Int}
end
theorem xF.mvp{E:List Nat}(T:xF ks R E)(j:tO f (ks.map some) wd):v3 (a6 f R)<=96/\iC (a6 f R)<=96/\(qt<|a6 f R).Nodup/\(zb<|a6 f R).Nodup/\(∀p∈qt (a6 f R),p.2<1000000)/\∀p∈zb (a6 f R),p.2<1000000:=by
 have rd:=wo<|a6 f R;have C:=cO<|a6 f R;have o:=(aO f R).length_eq;have r:=T.tp.length_eq;have hz:=T.len;have wl:=j.len;have lo:(ks.map some).length=ks.length:=Ah ..;rw[Ah] at o;rw[A7] at r;obtain⟨_,_,b1,b2⟩:=T.pairs;have inj:∀a b,a<ks.length->b<ks.length->f a=f b->a=b:=λa b U g=>j.inj (by lia) (by lia);have flt:∀p,p<ks.length->f p<wd.length:=λp J=>j.gap.lt (AL.mpr (by lia)) (by lia);have cu:=T.sr.cuts T.nd;rw[bB,bW];have I:∀{l:List<|Nat×Nat},(∀p∈l,p.1<ks.length/\p.2<ks.length)->∀x∈zm l,x<ks.length:=λh x t=>by
  obtain⟨p,J,e⟩:=dg t;rcases e with rfl|rfl
  ·exact(h p J).1
  ·exact(h p J).2
 refine⟨by lia,by lia,aH<|(qX f _).nodup_iff.mpr<|ak (T.sr.lkI T.nd).nd λa U b g=>inj a b (I b1 a U)<|I b1 b g,aH (by rw[jX];exact ak cu.1 λa U b g=>inj a b (I b2 a U)<|I b2 b g),λp J=>?_,λp J=>?_⟩
 ·obtain⟨d,hd,rfl⟩:=Bt.mp J;have:=flt _ (b1 d hd).1;have:=flt _ (b1 d hd).2;show max _ _<_;lia
 ·obtain⟨d,hd,rfl⟩:=Bt.mp J;have:=flt _ (b2 d hd).2;show f d.2<_;lia
theorem xF.depC{E:List Nat}(T:xF ks R E)(U:tO f (ks.map some) wd)(g:ct.Perm<|zb<|a6 f R):∀c∈ct,∃w,KW (x4 wd) c.1 w/\KW (x4 wd) c.2 w.turn/\w.depth<=96:=λc j=>by
 rw[bW] at g;obtain⟨c0,I,rfl⟩:=Bt.mp<|g.mem_iff.mp j;obtain⟨w,J,l⟩:=T.sr.cutw c0 I;have e:∀{p w},cU ks p w->KW (x4<|ks.map some) p w:=λh=>by rw[gW];exact h
 obtain⟨k,o⟩:=(e J).ex;have t:=(e J).dep<|gn T.ok;have r:=zd o;have C:=T.len;rw[Ah] at r;exact⟨w,U.word<|e J,U.word<|e l,by lia⟩
section
variable {K:Aj}{O W T N:Addr}{a c:Addr}{A:List<|Nat×Nat}{G:List Nat}{o0 o1:Option Y}
end
inductive u1(wd:List<|Option Kn):Nat->Nat->List Nat->Prop
 |lf {d p:Nat} {t:Bool} {n:Str}:wd[p]?=some (some<|.lf t n)->u1 wd (d+1) p [p]
 |nd {d p i j:Nat} {e:Bool} {xs ys:List Nat}:wd[p]?=some (some<|.nd e i j)->u1 wd d i xs->u1 wd d j ys->u1 wd (d+1) p ([p]++xs++ys)
theorem pZ{wd:List<|Option Kn}:∀{w:Wd} {n p:Nat},KW (x4 wd) p w->w.depth<=n->∃xs,u1 wd n p xs/\xs.length=w.size
 |.leaf _ _,0,_,_,d=>absurd d (by simp[Wd.depth])
 |.node _ _ _,0,_,_,d=>absurd d (by simp[Wd.depth])
 |.leaf _ _,n+1,p,h,_=>⟨_,.lf h.inv_lf,rfl⟩
 |.node e l r,n+1,p,h,d=>by obtain⟨i,j,I,J,U⟩:=h.inv_nd;simp only[Wd.depth] at d;obtain⟨xs,b1,g⟩:=pZ J (n:=n) (by lia);obtain⟨t,b2,o⟩:=pZ U (n:=n) (by lia);refine⟨_,.nd I b1 b2,?_⟩;rw[Ad,Ad,g,o];rfl
theorem Tf(k:Option Kn)(h:r<wd.length):(x4 wd).take r++[aX k]++(x4 wd).drop (r+1)=x4 (wd.set r k):=by unfold x4;rw[List.set_eq_take_append_cons_drop,AC h,AD,AG,DW,EJ,AA];rfl
section
variable {a c:Addr}{num:Int}
end
section
variable {a c:Addr}{num:Int}
end
theorem Tg{k o z:Option Kn}(h:wd[r]?=some k)(e:(wd.set r o)[p]?=some z):(p=r/\z=o)\/(p≠r/\wd[p]?=some z):=by
 rw[DL] at e;by_cases c:r=p
 ·rw[AC c,AC<|zd h] at e;exact .inl ⟨c.symm,(AO e).symm⟩
 ·rw[AB c] at e;exact .inr ⟨λz=>c z.symm,e⟩
theorem Th{o z:Option Kn}(n:p≠r)(e:wd[p]?=some z):(wd.set r o)[p]?=some z:=by rw[Bi n.symm];exact e
structure WbE(wd:List<|Option Kn)(lk ct:List<|Nat×Nat):Prop where
 ok:jQ wd
 th:wZ wd
 ls:Jv wd lk
 cn:ct.Nodup
 cl:ct.length<=120
 ct:∀d∈ct,(∃k,wd[d.1]?=some (some k))/\∃k,wd[d.2]?=some (some k)
section
variable {e e':Bool}{o:Option Kn}
end
def Ti(wd:List<|Option Kn)(ct:List<|Nat×Nat):Prop:=∀d∈ct,(∃xs,u1 wd 100 d.1 xs/\xs.length<=300)/\∃xs,u1 wd 100 d.2 xs/\xs.length<=300
section
variable {a c:Addr}{s v f:Int}{b:Bool}{Q:YK}
end
theorem nU.szc{A:List<|Nat×Nat}{G:List Nat}(M:nU wd ct A G){c:Nat×Nat}{w:Wd}(h:KW (x4 wd) c.1 w):c∈ct->2*w.size<=G.length:=by
 induction M with
 |nil=>exact nofun
 |cons m _ J=>
  intro I;rw[Ad];rcases Ao.mp I with rfl|I
  ·have:=m.size h;lia
  ·have:=J I;lia
theorem xF.wbE{E:List Nat}(T:xF ks R E)(U:tO f (ks.map some) wd)(pl:lk.Perm<|qt<|a6 f R)(l:lk.Pairwise nu)(t:ct.Perm<|zb<|a6 f R)(o:ct.Pairwise nu):WbE wd lk ct/\Ti wd ct:=by
 obtain⟨I,J⟩:=T.cutI U pl l t o;have ok:=U.gap.ok;refine⟨⟨ok,U.there<|uY T.ok,J,aH I.ctN,I.len,λd hd=>?_⟩,λd hd=>?_⟩
 ·obtain⟨w,j,r⟩:=I.cw d hd;have g:∀{p w},KW (x4 wd) p w->∃k,wd[p]?=some (some k):=λ{p w} h=>by cases w with|leaf=>exact⟨_,h.inv_lf⟩|node=>obtain⟨_,_,e,_⟩:=h.inv_nd;exact⟨_,e⟩
  exact⟨g j,g r⟩
 ·obtain⟨w,j,r,dp⟩:=T.depC U t d hd;obtain⟨A,G,M⟩:=wM I.cw;have C:=M.nodup ok I.pu I.ctN I.ctP;have gl:=kq wd.length _ C λy hy=>by obtain⟨p,hp,h⟩:=M.dn y hy;obtain⟨d,hd,e⟩:=dg hp;have:=I.lt hd;have:=h.le ok;rcases e with rfl|rfl<;>lia
  have sz:=M.szc j hd;have wl:=I.wl;obtain⟨xs,b1,l1⟩:=pZ j (n:=100) (by lia);obtain⟨ys,b2,l2⟩:=pZ r (n:=100) (by rw[cz];lia);exact⟨⟨xs,b1,by lia⟩,ys,b2,by rw[l2,Wd.size_turn];lia⟩
theorem WbE.all(W:WbE wd lk ct):∀x∈jd wd lk ct,x.1∈qm wd/\x.2∈qm wd:=λx I=>by
 have g:∀{p:Nat} {k:Kn},wd[p]?=some (some k)->p∈qm wd:=λ{p k} h=>gE h rfl<|zd h;unfold jd at I;rcases Ag.mp I with I|I
 ·rcases Ag.mp I with I|I
  ·obtain⟨_,t,n,U,J⟩:=W.ls.lkA x I;exact⟨g U,g J⟩
  ·obtain⟨⟨_,U⟩,_,J⟩:=W.ct x I;exact⟨g U,g J⟩
 ·obtain⟨U,k,l,J⟩:=xm.mp I;refine⟨U,?_⟩;cases k with
  |none=>cases J
  |some k=>
   cases k with
   |lf=>cases J
   |nd e i j=>
    obtain⟨⟨_,o⟩,_,r⟩:=W.th _ _ _ _ l;rcases Ao.mp J with h|h
    ·rw[h];exact g o
    ·rw[Am.mp h];exact g r
theorem xR{es:List<|Nat×Nat}{r:sS}(h:jV n hd es p q=some r):r.1=hd/\r.2.1.length<=n/\r.2.2.length<=n:=by
 unfold jV at h;split at h
 ·cases h
 ·cases h;exact⟨rfl,by have:=Bp (aG es p)<|List.range n;rwa[A7] at this,by have:=Bp (aG es q)<|List.range n;rwa[A7] at this⟩
theorem Tj :∀r∈sT wd lk ct,(∀y∈r.1,mH y=true)/\r.1.length<=3/\r.2.1.length<=wd.length/\r.2.2.length<=wd.length:=λr J=>by
 rcases Ag.mp J with J|J
 ·obtain⟨p,_,h⟩:=B8.mp J;unfold EY at h;split at h
  ·obtain⟨e,U,g⟩:=xR h;rw[e];exact⟨λy I=>by rcases Ao.mp I with rfl|I;rfl;cases Am.mp I;rfl,(by decide:2<=3),U,g⟩
  ·cases h
 ·obtain⟨p,_,h⟩:=B8.mp J;obtain⟨e,U,g⟩:=xR h;rw[e];exact⟨λy I=>by rcases Ao.mp I with rfl|I;rfl;rcases Ao.mp I with rfl|I;rfl;cases Am.mp I;rfl,(by decide:3<=3),U,g⟩
inductive Tw(wd:List<|Option Kn):Ru->Prop
 |link {p q:Nat} {t t':Bool} {n n':Str}:wd[p]?=some (some<|.lf t n)->wd[q]?=some (some<|.lf t' n')->Tw wd (.link p q)
 |ei {r i j:Nat} {A:Ru}:wd[r]?=some (some<|.nd true i j)->Tw wd A->i∈qk A->j∈qk A->Tw wd (.ei r A)
 |bo {r i j:Nat} {A B:Ru}:wd[r]?=some (some<|.nd false i j)->Tw wd A->Tw wd B->i∈qk A->j∈qk B->Tw wd (.bo r A B)
 |cu {p q:Nat} {A B:Ru}:Tw wd A->Tw wd B->p∈qk A->q∈qk B->Tw wd (.cu p q A B)
theorem Tw.ex(h:Tw wd R):∀{x},x∈qk R->∃k,wd[x]?=some (some k):=by
 induction h with
 |link g j=>
  intro x I;rcases Ao.mp I with rfl|I
  ·exact⟨_,g⟩
  ·cases Am.mp I;exact⟨_,j⟩
 |ei g _ _ _ l=>
  intro x I;rcases Ao.mp I with rfl|I
  ·exact⟨_,g⟩
  ·exact l I
 |bo g _ _ _ _ J U=>
  intro x I;rcases Ao.mp I with rfl|I
  ·exact⟨_,g⟩
  ·exact(Ag.mp I).elim J U
 |cu _ _ _ _ J U=>exactλI=>(Ag.mp I).elim J U
theorem Tw.clos(h:Tw wd R):∀{x:Nat} {e:Bool} {i j:Nat},x∈qk R->wd[x]?=some (some<|.nd e i j)->i∈qk R/\j∈qk R:=by
 induction h with
 |link g p=>
  intro x e i j I k;rcases Ao.mp I with rfl|I
  ·rw[g] at k;cases k
  ·cases Am.mp I;rw[p] at k;cases k
 |ei g _ r l o=>
  intro x e i j I k;rcases Ao.mp I with rfl|I
  ·rw[g] at k;cases k;exact⟨Ab _ r,Ab _ l⟩
  ·exact⟨Ab _ (o I k).1,Ab _ (o I k).2⟩
 |bo g _ _ l t J U=>
  intro x e i j I k;rcases Ao.mp I with rfl|I
  ·rw[g] at k;cases k;exact⟨Ab _<|Ai _ l,Ab _<|Ae _ t⟩
  ·rcases Ag.mp I with I|I
   ·exact⟨Ab _<|Ai _ (J I k).1,Ab _<|Ai _ (J I k).2⟩
   ·exact⟨Ab _<|Ae _ (U I k).1,Ab _<|Ae _ (U I k).2⟩
 |cu _ _ _ _ J U=>
  intro x e i j I k;rcases Ag.mp I with I|I
  ·exact⟨Ai _ (J I k).1,Ai _ (J I k).2⟩
  ·exact⟨Ae _ (U I k).1,Ae _ (U I k).2⟩
theorem Tw.lnk(h:Tw wd R):∀c∈qt R,c.1∈qk R/\c.2∈qk R:=by
 induction h with
 |link=>intro c I;cases Am.mp I;simp[qk]
 |ei _ _ _ _ g=>exactλc I=>⟨Ab _ (g c I).1,Ab _ (g c I).2⟩
 |bo _ _ _ _ _ J U=>
  intro c I;rcases Ag.mp I with I|I
  ·exact⟨Ab _<|Ai _ (J c I).1,Ab _<|Ai _ (J c I).2⟩
  ·exact⟨Ab _<|Ae _ (U c I).1,Ab _<|Ae _ (U c I).2⟩
 |cu _ _ _ _ J U=>
  intro c I;rcases Ag.mp I with I|I
  ·exact⟨Ai _ (J c I).1,Ai _ (J c I).2⟩
  ·exact⟨Ae _ (U c I).1,Ae _ (U c I).2⟩
theorem Tw.cut(h:Tw wd R):∀c∈zb R,c.1∈qk R/\c.2∈qk R:=by
 induction h with
 |link=>exact nofun
 |ei _ _ _ _ g=>exactλc I=>⟨Ab _ (g c I).1,Ab _ (g c I).2⟩
 |bo _ _ _ _ _ J U=>
  intro c I;rcases Ag.mp I with I|I
  ·exact⟨Ab _<|Ai _ (J c I).1,Ab _<|Ai _ (J c I).2⟩
  ·exact⟨Ab _<|Ae _ (U c I).1,Ab _<|Ae _ (U c I).2⟩
 |cu _ _ j l J U=>
  intro c I;rcases Ao.mp I with rfl|I
  ·exact⟨Ai _ j,Ae _ l⟩
  rcases Ag.mp I with I|I
  ·exact⟨Ai _ (J c I).1,Ai _ (J c I).2⟩
  ·exact⟨Ae _ (U c I).1,Ae _ (U c I).2⟩
theorem aE:∀R:Ru,0<(qt R).length
 |.link _ _=>Nat.one_pos
 |.ei _ A=>aE A
 |.bo _ A B=>by show 0<(qt A++qt B).length;rw[Ad];exact Nat.add_pos_left (aE A) _
 |.cu _ _ A B=>by show 0<(qt A++qt B).length;rw[Ad];exact Nat.add_pos_left (aE A) _
theorem SR.tw(r:tO f (ks.map some) wd){E:List Nat}(h:SR ks R E):Tw wd (a6 f R):=by
 have g:∀{p:Nat} {k:Kn},ks[p]?=some k->wd[f p]?=some (hX f<|some k):=λ{p k} e=>r.gap.at_ p (AL.mpr (by rw[Ah];exact zd e)) _ (by rw[Aq,e];rfl);have m:∀{A:Ru} {x:Nat},x∈qk A->f x∈qk (a6 f A):=λ{A x} C=>(aO f A).mem_iff.mpr<|B4 C
 induction h with
 |@link p q t n E _ I J _ _=>
  have I:=g I;have J:=g J;show Tw wd (.link (min (f p)<|f q)<|max (f p)<|f q);by_cases c:f p<=f q
  ·rw[BM c,Cu c];exact .link I J
  ·rw[Cs (by lia),CB (by lia)];exact .link J I
 |ei l I J o _ _ _ T=>exact .ei (g l) T (m<|I.sub _ J)<|m<|I.sub _ o
 |bo l I J o h5 _ _ U j=>exact .bo (g l) U j (m<|I.sub _ o)<|m<|J.sub _ h5
 |cu l I J o _ _ _ _ U j=>exact .cu U j (m<|l.sub _ J)<|m<|I.sub _ o
structure bN(wd wd':List<|Option Kn)(ct:List<|Nat×Nat)(b:Nat):Prop where
 len:wd'.length=wd.length
 at_:∀p:Nat,wd'[p]?=wd[p]?\/(wd'[p]?=some none/\(∃i j,wd[p]?=some (some<|.nd true i j))/\p∉zm ct/\p∉jp wd')
 dn:∀p i j:Nat,b<=p->wd'[p]?=some (some<|.nd true i j)->p∈zp wd' ct
section
variable {b:Nat}
theorem bN.le(S:bN wd wd' ct b){k:Kn}(h:wd'[p]?=some (some k)):wd[p]?=some (some k):=by
 rcases S.at_ p with e|⟨e,_⟩
 ·rw[<-e];exact h
 ·rw[h] at e;cases e
theorem bN.kept(S:bN wd wd' ct b){k:Kn}(h:wd[p]?=some (some k))(c:(∀i j,k≠.nd true i j)\/p∈zm ct\/p∈jp wd'):wd'[p]?=some (some k):=by
 rcases S.at_ p with e|⟨_,⟨i,j,e⟩,I,J⟩
 ·rw[e];exact h
 ·rw[h] at e;cases e;rcases c with c|c|c
  ·exact(c i j rfl).elim
  ·exact(I c).elim
  ·exact(J c).elim
theorem mw{x:Nat}{e:Bool}(h:wd'[x]?=some (some<|.nd e i j)):i∈jp wd'/\j∈jp wd':=⟨eY h Ak,eY h<|Ab _ Ak⟩
theorem Tw.conn(S:bN wd wd' ct b){es:List<|Nat×Nat}(he:∀(x y:Nat) (k:Kn),wd'[x]?=some (some k)->y∈j8 (some k)->(x,y)∈es)(h:Tw wd R):(∀c∈qt R,c∈es)->(∀c∈zb R,c∈es/\c∈ct)->∀x y,x∈qk R->y∈qk R->(∃k,wd'[x]?=some (some k))->(∃k,wd'[y]?=some (some k))->ww es x y:=by
 induction h with
 |@link p q=>
  intro C _ x y o t _ _;have e:=C (p,q) (by simp[qt]);have I:∀z,z∈qk (.link p q)->ww es p z:=λz J=>by
   rcases Ao.mp J with rfl|J
   ·exact .self
   ·cases Am.mp J;exact .fwd .self e
  exact(I x o).symm.trans (I y t)
 |@ei r i j A h1 h2 T h4 ih=>
  intro C U x y o t tx ty;have ih:=ih C U;by_cases c:∃k,wd'[r]?=some (some k)
  ·obtain⟨k,ek⟩:=c;have a0:=S.le ek;rw[h1] at a0;cases a0;obtain⟨ki,ei⟩:=h2.ex T;have ti:=S.kept ei<|.inr<|.inr (mw ek).1;have I:∀z,z∈qk (.ei r A)->(∃k,wd'[z]?=some (some k))->ww es i z:=λz J tz=>by
    rcases Ao.mp J with rfl|J
    ·exact .bwd .self<|he _ _ _ ek Ak
    ·exact ih i z T J ⟨_,ti⟩ tz
   exact(I x o tx).symm.trans (I y t ty)
  ·rcases Ao.mp o with rfl|o
   ·exact(c tx).elim
   ·rcases Ao.mp t with rfl|t
    ·exact(c ty).elim
    ·exact ih x y o t tx ty
 |@bo r i j A B h1 h2 T h4 h5 g l=>
  intro C U x y o t tx ty;have g:=g (λc U=>C c<|Ai _ U) λc h=>U c<|Ai _ h;have l:=l (λc U=>C c<|Ae _ U) λc h=>U c<|Ae _ h;have er:=S.kept h1<|.inl λi j=>nofun;obtain⟨ki,ei⟩:=h2.ex h4;obtain⟨kj,ej⟩:=T.ex h5;have ti:=S.kept ei<|.inr<|.inr (mw er).1;have tj:=S.kept ej<|.inr<|.inr (mw er).2;have I:∀z,z∈qk (.bo r A B)->(∃k,wd'[z]?=some (some k))->ww es r z:=λz J tz=>by
   rcases Ao.mp J with rfl|J
   ·exact .self
   rcases Ag.mp J with J|J
   ·exact(ww.fwd .self<|he _ _ _ er Ak).trans (g i z h4 J ⟨_,ti⟩ tz)
   ·exact(ww.fwd .self<|he _ _ _ er<|Ab _ Ak).trans (l j z h5 J ⟨_,tj⟩ tz)
  exact(I x o tx).symm.trans (I y t ty)
 |@cu p q A B h1 h2 T h4 g l=>
  intro C U x y o t tx ty;obtain⟨e,m⟩:=U (p,q) Ak;have g:=g (λc U=>C c<|Ai _ U) λc h=>U c<|Ab _<|Ai _ h;have l:=l (λc U=>C c<|Ae _ U) λc h=>U c<|Ab _<|Ae _ h;obtain⟨ki,ei⟩:=h1.ex T;obtain⟨kj,ej⟩:=h2.ex h4;have ti:=S.kept ei<|.inr<|.inl<|AV.mpr ⟨_,m,Ak⟩;have tj:=S.kept ej<|.inr<|.inl<|AV.mpr ⟨_,m,Ab _ Ak⟩;have I:∀z,z∈qk (.cu p q A B)->(∃k,wd'[z]?=some (some k))->ww es p z:=λz J tz=>by
   rcases Ag.mp J with J|J
   ·exact g p z T J ⟨_,ti⟩ tz
   ·exact(ww.fwd .self e).trans (l q z h4 J ⟨_,tj⟩ tz)
  exact(I x o tx).symm.trans (I y t ty)
theorem Jz{es:List<|Nat×Nat}{A:List Nat}(h:∀x∈es,x.1∈A↔x.2∈A)(hp:p∈A)(r:ww es p q):q∈A:=by induction r with|self=>exact hp|fwd _ m I=>exact(h _ m).mp I|bwd _ m I=>exact(h _ m).mpr I
theorem Tw.parts(ok:jQ wd)(S:bN wd wd' ct 0)(h:Tw wd R):(qk R).Nodup->(∀(p:Nat) (k:Kn),wd'[p]?=some (some k)->p∈qk R)->(∀c,c∈ct↔c∈zb R)->(∀c,c∈lk↔c∈qt R)->
 ((qt R).length=1/\bX false wd'=[]/\ct=[])\/(1<(qt R).length/\sT wd' lk ct≠[]):=by
 induction h with
 |@link p q t t' n n' l g=>
  intro _ P C _;refine .inl ⟨rfl,Do.mpr λx I=>?_,Do.mpr λc h=>by cases (C c).mp h⟩;obtain⟨_,k,U,kb⟩:=v9 I;cases k with
  |none=>cases kb
  |some k=>
   have m:=P x k U;have U:=S.le U;rcases Ao.mp m with rfl|m
   ·rw[l] at U;cases U;cases kb
   ·cases Am.mp m;rw[g] at U;cases U;cases kb
 |@ei r i j A l g h3 h4 ih=>
  intro nd P C hl;obtain⟨nr,nA⟩:=AH.mp nd;refine ih nA (λp k e=>?_) C hl;rcases Ao.mp (P p k e) with rfl|m
  ·have e1:=S.le e;rw[l] at e1;cases e1;exfalso;rcases Ag.mp (S.dn _ _ _ (A3 _) e) with u|u
   ·obtain⟨o,ho,I⟩:=AV.mp u;obtain⟨x,ex⟩:=Ce.mp ho;cases o with
    |none=>cases I
    |some k=>
     cases k with
     |lf=>cases I
     |nd e T x2=>
      have m:=P x _ ex;have ex:=S.le ex;have:p∈qk A:=by
       rcases Ao.mp m with rfl|m
       ·rw[l] at ex;cases ex;rcases Ao.mp I with rfl|I
        ·exact h3
        ·cases Am.mp I;exact h4
       ·obtain⟨c1,c2⟩:=g.clos m ex;rcases Ao.mp I with rfl|I
        ·exact c1
        ·cases Am.mp I;exact c2
      exact nr this
   ·obtain⟨c,mc,ec⟩:=dg u;have:=g.cut c<|(C c).mp mc;rcases ec with rfl|rfl
    ·exact nr this.1
    ·exact nr this.2
  ·exact m
 |@bo r i j A B l g h3 h4 h5=>
  intro nd P C hl;obtain⟨nr,a0⟩:=AH.mp nd;obtain⟨nA,nB,dj⟩:=Ay.mp a0;have er:=S.kept l<|.inl λi j=>nofun;have two:∀x y,(x∈qk A/\y∈qk A)\/(x∈qk B/\y∈qk B)->(x∈qk A↔y∈qk A):=λx y h=>by
   rcases h with⟨a,b⟩|⟨a,b⟩
   ·exact⟨λ_=>b,λ_=>a⟩
   ·exact⟨λz=>(dj x z x a rfl).elim,λz=>(dj y z y b rfl).elim⟩
  have cw:∀c∈ct,(c.1∈qk A/\c.2∈qk A)\/(c.1∈qk B/\c.2∈qk B):=λc m=>(Ag.mp<|(C c).mp m).imp (g.cut c)<|h3.cut c;have kw:∀(x:Nat) (e:Bool) (i j:Nat),wd'[x]?=some (some<|.nd e i j)->x≠r->(x∈qk A/\i∈qk A/\j∈qk A)\/(x∈qk B/\i∈qk B/\j∈qk B):=λx e i j ex n=>by
   rcases Ao.mp (P x _ ex) with z|m
   ·exact(n z).elim
   ·exact(Ag.mp m).imp (λm=>⟨m,g.clos m<|S.le ex⟩) λm=>⟨m,h3.clos m<|S.le ex⟩
  have J:∀x,x∈qk A\/x∈qk B->x≠r:=λx h z=>nr<|Ag.mpr<|z▸h;have un:r∉zp wd' ct:=λu=>by
   rcases Ag.mp u with u|u
   ·obtain⟨o,ho,I⟩:=AV.mp u;obtain⟨x,ex⟩:=Ce.mp ho;cases o with
    |none=>cases I
    |some k=>
     cases k with
     |lf=>cases I
     |nd e T x2=>
      have lt:=ok x e T x2<|S.le ex;have m:r=T\/r=x2:=(Ao.mp I).imp id Am.mp;rcases kw x e T x2 ex (by rintro rfl;lia) with⟨_,a,b⟩|⟨_,a,b⟩
      ·rcases m with rfl|rfl
       ·exact J _ (.inl a) rfl
       ·exact J _ (.inl b) rfl
      ·rcases m with rfl|rfl
       ·exact J _ (.inr a) rfl
       ·exact J _ (.inr b) rfl
   ·obtain⟨c,mc,ec⟩:=dg u;rcases cw c mc with⟨a,b⟩|⟨a,b⟩<;>rcases ec with rfl|rfl
    ·exact J _ (.inl a) rfl
    ·exact J _ (.inl b) rfl
    ·exact J _ (.inr a) rfl
    ·exact J _ (.inr b) rfl
  refine .inr ⟨by show 1<(qt A++qt B).length;rw[Ad];have:=aE A;have:=aE B;lia,?_⟩;have nR:¬ww (lk++ct++za wd' (xr wd'.length r)) i j:=λz=>by
   refine dj j (Jz (A:=qk A) (λx I=>?_) h4 z) j h5 rfl;refine two _ _ ?_;rcases Ag.mp I with I|I
   ·rcases Ag.mp I with I|I
    ·exact(Ag.mp<|(hl x).mp I).imp (g.lnk x) (h3.lnk x)
    ·exact cw x I
   ·obtain⟨hb,k,U,hp⟩:=xm.mp I;have nx:x.1≠r:=of_decide_eq_true (Az.mp hb).2;cases k with
    |none=>cases hp
    |some k=>
     cases k with
     |lf=>cases hp
     |nd e T x2=>
      have m:x.2=T\/x.2=x2:=(Ao.mp hp).imp id Am.mp;exact(kw x.1 e T x2 U nx).imp (λ ψ=>(by obtain⟨a,b,c⟩:=ψ;exact ⟨a,m.elim (λz=>z▸b) λz=>z▸c⟩)) λ ψ=>(by obtain⟨a,b,c⟩:=ψ;exact ⟨a,m.elim (λz=>z▸b) λz=>z▸c⟩)
  intro nil;have hm:r∈(bX false wd').filter λr=>!decide (r∈zp wd' ct):=Az.mpr ⟨gE er rfl<|zd er,by rw[Au un];rfl⟩;have:=(List.append_eq_nil_iff.mp nil).1;have:=DF.mp this r hm;unfold EY jV at this;rw[er] at this;simp only at this;rw[AB λh=>nR<|ja.mp h] at this;cases this
 |@cu p q A B l g h3 h4=>
  intro nd P C hl;obtain⟨nA,nB,dj⟩:=Ay.mp nd;have two:∀x y,(x∈qk A/\y∈qk A)\/(x∈qk B/\y∈qk B)->(x∈qk A↔y∈qk A):=λx y h=>by
   rcases h with⟨a,b⟩|⟨a,b⟩
   ·exact⟨λ_=>b,λ_=>a⟩
   ·exact⟨λz=>(dj x z x a rfl).elim,λz=>(dj y z y b rfl).elim⟩
  refine .inr ⟨by show 1<(qt A++qt B).length;rw[Ad];have:=aE A;have:=aE B;lia,?_⟩;have nR:¬ww (lk++(ct.filter λy=>decide<|y≠(p,q))++za wd' (xr wd'.length wd'.length)) p q:=λz=>by
   refine dj q (Jz (A:=qk A) (λx I=>?_) h3 z) q h4 rfl;refine two _ _ ?_;rcases Ag.mp I with I|I
   ·rcases Ag.mp I with I|I
    ·exact(Ag.mp<|(hl x).mp I).imp (l.lnk x) (g.lnk x)
    ·obtain⟨I,n⟩:=Az.mp I;rcases Ao.mp ((C x).mp I) with z|I
     ·exact(of_decide_eq_true n z).elim
     ·exact(Ag.mp I).imp (l.cut x) (g.cut x)
   ·obtain⟨hb,k,U,hp⟩:=xm.mp I;cases k with
    |none=>cases hp
    |some k=>
     cases k with
     |lf=>cases hp
     |nd e T x2=>
      have m:x.2=T\/x.2=x2:=(Ao.mp hp).imp id Am.mp;exact(Ag.mp<|P x.1 _ U).imp (λa=>⟨a,m.elim (λz=>z▸(l.clos a<|S.le U).1) λz=>z▸(l.clos a<|S.le U).2⟩) λa=>⟨a,m.elim (λz=>z▸(g.clos a<|S.le U).1) λz=>z▸(g.clos a<|S.le U).2⟩
  intro nil;have:=DF.mp (List.append_eq_nil_iff.mp nil).2 (p,q)<|(C _).mpr Ak;unfold Jx jV at this;rw[AB λh=>nR<|ja.mp h] at this;cases this
end
end L3
namespace L2
open PySem
theorem Tk(neg:Bool)(hu:X.A.units+128<cLine):w6 X (compareOp<|if neg then .NotIn else .In) (λx y H Q=>∃l xs,∃ds:List Da,∃e,∃n m:Nat,y=.ref l/\H l=some (.lst xs)/\n<=126/\Paired (xz X.K H n) xs ds/\xz X.K H m x e/\(∀u∈xs,∃a,u=.ref a)/\(∀d∈ds,∀d'∈ds,Da.eq d d'=true->Da.eq d e=Da.eq d' e)/\Q (.bl<|if neg then !(ds.any λd=>Da.eq d e) else ds.any λd=>Da.eq d e) H):=by
 classical
 intro a0 s σ H x y v u Q I rx ry h;obtain⟨l,xs,ds,e,n,m,rfl,hH,hn,T,re,rf,cg,q⟩:=h;cases ry;obtain⟨z,J,nn,r,hl,eo⟩:=I.lstM hH;have l2:J.length=xs.length:=r.length.symm
 let f:Value->Bool:=λw=>match w with
  |.ref a=>decide<|∃(k:Nat) (d:Da),xs[k]?=some (V.ref a)/\ds[k]?=some d/\Da.eq d e=true
  |_=>false
 have g:∀k w,J[k]?=some w->∃(a:Addr) (d:Da),w=Value.ref a/\xs[k]?=some (V.ref a)/\ds[k]?=some d/\xz X.K H n (V.ref a) d:=λk w j=>by have hk:=(AS.mp j).1;have ex:=Al (by omega:k<xs.length);obtain⟨d,U,rd⟩:=Words.Paired.getP T ex;obtain⟨u',o,p⟩:=Words.Paired.getP r ex;rw[j] at o;cases o;obtain⟨a,ea⟩:=rf _<|AF ex;rw[ea] at ex rd p;exact⟨a,d,p,ex,U,rd⟩
 have fv:∀{k a d},xs[k]?=some (V.ref a)->ds[k]?=some d->xz X.K H n (V.ref a) d->f (Value.ref a)=Da.eq d e:=λ{k a d} ex U rd=>by
  cases h:Da.eq d e with
  |true=>exact Av ⟨k,d,ex,U,h⟩
  |false=>
   refine Au λ ψ=>?_;obtain⟨k',d',h1,h2,h3⟩:=ψ;have:=cg d (AF U) d' (AF h2)<|jY I n rd<|ET T h1 h2;rw[h,h3] at this;cases this
 have all:∀w,w∈J.toArray->SeqAt.EqAt X.A.in1 s w v (f w):=λw hw=>by obtain⟨k,j⟩:=BW (show w∈J by simpa using hw);obtain⟨a,d,rfl,ex,U,rd⟩:=g k w j;rw[fv ex U rd];exact iO (A:=X.A.in1) I n (by show X.A.units+1+n<cLine;omega) rd re rfl rx
 have this:J.toArray.any f=ds.any λd=>Da.eq d e:=by
  rw[List.any_toArray,Bl,Ej,Ej];constructor
  ·rintro⟨w,hw,C⟩;obtain⟨k,j⟩:=BW hw;obtain⟨a,d,rfl,ex,U,rd⟩:=g k w j;rw[fv ex U rd] at C;exact⟨d,AF U,C⟩
  ·rintro⟨d,hd,C⟩;obtain⟨k,U⟩:=BW hd;have lp:=L3.pair_len T;have hk:=(AS.mp U).1;have ei:=Al (by omega:k<J.length);obtain⟨a,d',ew,ex,t,rd⟩:=g k _ ei;rw[U] at t;cases t;exact⟨_,AF ei,by rw[ew,fv ex U rd];exact C⟩
 cases neg with|false=>exact SeqAt.in_listAt f ⟨_,eo,rfl,nn,rfl⟩ all ⟨.bl _,H,I,by rw[this];rfl,q⟩|true=>exact SeqAt.notIn_listAt f ⟨_,eo,rfl,nn,rfl⟩ all ⟨.bl _,H,I,by rw[this];rfl,q⟩
end L2
namespace L3
open PySem L2
def Gp(neg:Bool)(x y:Y)(L:ql)(Q:YK):Prop:=match y with
 |.ref a=>cZ L a λys=>∃ps:List (Nat×Nat),∃p,x=Fu p/\ys=qp ps/\Q (.bl<|nb neg<|decide<|p∈ps) L
 |_=>False
theorem To(neg:Bool)(g:X.A.units+128<cLine):w6 X (compareOp<|if neg then .NotIn else .In) (iT X.g3<|Gp neg):=EZ (Tk neg g) λx y H Q x3 y3 L Q3 rx ry U z k=>by
 unfold Gp at z;split at z
 ·rename_i a;obtain⟨zs,e,I,p,rfl,rfl,z⟩:=x5 z;obtain⟨us,e2,r⟩:=U a _ e;have both:∀{l:List Y} {o:List Da} {J:List V},Paired (jj L 1) l o->xj X.g3 H l J->Paired (xz X.K H 1) J o:=by
   intro l o J p
   induction p generalizing J with
   |nil=>intro q;cases (show J=[] from q);exact .nil
   |cons h t ih=>
    rintro⟨x,a0,rfl,q1,q2⟩;exact .cons (jj.rep U h q1)<|ih q2
  have T:=both (rG I) r;have ea:((I.map jW).any λd=>Da.eq d<|jW p)=decide (p∈I):=by
   rw[List.any_map,Bl,Ej,Cc];constructor
   ·rintro⟨q,hq,h⟩;have h:Da.eq (jW q) (jW p)=true:=h;rw[kI] at h;exact of_decide_eq_true h▸hq
   ·exactλh=>⟨p,h,by show Da.eq (jW p) (jW p)=true;rw[kI];exact Av rfl⟩
  refine⟨a,us,_,_,1,1,ry,e2,by decide,T,jj.rep U (uv p) rx,λu g=>?_,λd hd d' C h=>?_,?_⟩
  ·obtain⟨j,ej⟩:=BW g;obtain⟨d,ed,rd⟩:=Words.Paired.getP T ej;rw[Aq] at ed;obtain⟨q,_,rfl⟩:=Aw.mp ed;rcases rd with⟨h,_⟩|⟨b,_,_,h,_⟩|⟨b,_,_,h,_⟩
   ·cases h
   ·exact⟨b,h⟩
   ·exact⟨b,h⟩
  ·obtain⟨q,_,rfl⟩:=Bt.mp hd;obtain⟨q',_,rfl⟩:=Bt.mp C;rw[kI] at h;rw[of_decide_eq_true h]
  ·rw[ea,show(if neg=true then !decide (p∈I) else decide (p∈I))=nb neg (decide<|p∈I) by cases neg<;>simp[nb]];exact k _ _ _ _ (EM _) U (by rfl) z
 ·exact z.elim
theorem Tp(I:X.A.units+128<cLine):w6 X (compareOp .NotIn) (iT X.g3<|Gp true):=To true I
open PySem L2 Words
noncomputable def JA(I:zc):RD "_law_stripped" aZ 1 ["_law_web_here","_law_knots","_law_links","_law_cuts","_law_r"] (λV=>Gh V I):=⟨_,λV B c _ _ _ _ _ _ _ J hN U=>(qa (im (qv 0)<|aN (n:=3) rfl<|zg (G_ 1 hN)<|zg (G_ 2 hN)<|zg (G_ 3 hN) kc)<|qa (S_ 4 hN<|qj bC (L_ B.ba<|qv 1) qf)<|qa (gR p0 (je O6 (qv 4) qf<|vf _)<|w5 (zv (wc<|vq (af<|I_ (qv 1)<|qv 4)<|vq (E_ U (I_ (I_ (qv 1)<|qv 4) qf) jl)<|w4<|je (tI _ _ _) (qv 4) (C_ c J<|jv<|zr<|cS (qv 1) (qv 2)<|qv 3) (by with_unfolding_all rfl)) (qd<|S_ 1 hN<|qj j4 (qj j4 (vj (jH _ _ _) (qv 1) aP<|ve<|qv 4)<|jb<|jv lV)<|vj (jH _ _ _) (qv 1) (ve<|qj j4 (qv 4) qf) aP) z9)<|qd<|S_ 4 hN<|qj bC (qv 4) qf)<|qd<|qx<|zr<|cS (qv 1) (qv 2)<|qv 3)⟩
noncomputable def Tq(I:zc):kh:=(JA I).1
theorem oE{x:Nat}(h:x∈jp (wd.set r none)):x∈jp wd:=by
 obtain⟨o,I,J⟩:=AV.mp h;rcases List.mem_or_eq_of_mem_set I with I|rfl
 ·exact AV.mpr ⟨o,I,J⟩
 ·cases J
theorem bN.start(ok:jQ wd):bN wd wd ct wd.length:=⟨rfl,λ_=>.inl rfl,λp i j h e=>absurd (zd e)<|Nat.not_lt.mpr h⟩
theorem bN.stay(S:bN wd wd' ct<|r+1)(h:∀i j,wd'[r]?=some (some<|.nd true i j)->r∈zp wd' ct):bN wd wd' ct r:=⟨S.len,S.at_,λp i j I e=>by
 by_cases c:p=r
 ·subst c;exact h i j e
 ·exact S.dn p i j (by lia) e⟩
theorem bN.gone(ok:jQ wd)(S:bN wd wd' ct<|r+1)(e:wd'[r]?=some (some<|.nd true i j))(n:r∉zp wd' ct):bN wd (wd'.set r none) ct r:=by
 have l:r∉zm ct:=λz=>n<|Ae _ z;have t:r∉jp wd':=λz=>n<|Ai _ z;refine⟨by rw[Bm];exact S.len,λp=>?_,λp C T hp ep=>?_⟩
 ·by_cases c:p=r
  ·subst c;exact .inr ⟨by rw[BX<|zd e],⟨i,j,S.le e⟩,l,λz=>t<|oE z⟩
  ·rw[Bi<|A4 c];rcases S.at_ p with h|⟨h1,h2,h3,h4⟩
   ·exact .inl h
   ·exact .inr ⟨h1,h2,h3,λz=>h4<|oE z⟩
 ·rcases Tg e ep with⟨_,z⟩|⟨ne,J⟩
  ·cases z
  ·rcases Ag.mp (S.dn p C T (by lia) J) with u|u
   ·obtain⟨o,ho,I⟩:=AV.mp u;obtain⟨x,ex⟩:=Ce.mp ho;cases o with
    |none=>cases I
    |some k=>
     cases k with
     |lf=>cases I
     |nd e0 U g=>
      have lt:=ok x e0 U g<|S.le ex;have m:p=U\/p=g:=(Ao.mp I).imp id Am.mp;exact Ai _ (eY (Th (by rcases m with rfl|rfl<;>lia) ex) I)
   ·exact Ae _ u
def pK:zc:=λys L Q=>∃a l c,∃wd:List (Option Kn),∃ct:List (Nat×Nat),ys=[aI a l c]/\L a=some (.lst<|x4 wd)/\L c=some (.lst<|qp ct)/\wd.length<=300/\ct.length<=300/\jQ wd/\∀D wd' L',qg L L'->L' D=some (.lst<|x4 wd')->bN wd wd' ct 0->Q (aI D l c) L'
theorem nE{us:List Nat}{k:Kn}(h:wd[r]?=some (some k)):r∈ji wd us wd.length↔r∉us:=by
 unfold ji;rw[Az,bR];have I:wy wd r=true:=by unfold wy;rw[h]
 rw[I,EH];refine⟨λh z=>?_,λJ=>⟨AL.mpr<|zd h,?_⟩⟩
 ·have:=h.2;rw[Av z] at this;cases this
 ·rw[Au J];rfl
theorem Ts:∀ys L Q,pK ys L Q->jw (Tq kE) 5 ys L Q:=by
 rintro ys L Q ⟨a,l,c,T,U,rfl,ha,hc,z0,z2,ok,q⟩;have big:=a_;refine qb ha ?_;rw[ku];refine⟨λm τ g=>∃D I,τ=[some<|aI a l c,some<|.ref D,some<|.ref l,some<|.ref c,some<|.int<|(m:Int)-1]/\qg L g/\g D=some (.lst<|x4 I)/\m<=T.length/\bN T I U m,⟨T.length,a,T,rfl,EL _,ha,Ap _,bN.start ok⟩,?_⟩;rintro m τ L1 ⟨D,I,rfl,s,hD,hm,S⟩;have wl:=S.len;show vk (decide<|(m:Int)-1>=0) _ _;cases m with
 |zero=>exact vi rfl<|x0<|q D I L1 s hD S
 |succ r=>
  rw[show((r+1:Nat):Int)-1=(r:Int) by lia];refine cx (Av<|AU _) ⟨λτ g=>∃D I,τ=[some<|aI a l c,some<|.ref D,some<|.ref l,some<|.ref c,some<|.int<|(r:Int)-1]/\qg L g/\g D=some (.lst<|x4 I)/\r<=T.length/\bN T I U r,?_,?_⟩
  ·rintro a1 g ⟨D',J,rfl,h⟩;exact⟨r,Bk _,D',J,rfl,h⟩
  ·refine⟨λτ g=>∃D I,τ=[some<|aI a l c,some<|.ref D,some<|.ref l,some<|.ref c,some<|.int (r:Int)]/\qg L g/\g D=some (.lst<|x4 I)/\bN T I U r,?_,?_⟩
   ·have hr:r<I.length:=by lia
    obtain⟨k,ek⟩:∃k,I[r]?=some k:=⟨_,Al hr⟩;have ei:bp (x4 I) (r:Int)=some (aX k):=bP ek;have no:(∀i j,k≠some (.nd true i j))->∃D1 a0,[some<|aI a l c,some<|Y.ref D,some<|.ref l,some<|.ref c,some<|.int (r:Int)]=[some<|aI a l c,some<|.ref D1,some<|.ref l,some<|.ref c,some<|.int (r:Int)]/\qg L L1/\L1 D1=some (.lst<|x4 a0)/\bN T a0 U r:=λh=>⟨D,I,rfl,s,hD,S.stay λi j e=>by rw[ek] at e;exact(h i j<|AO e).elim⟩;refine qr hD<|qh ei ?_;cases k with
    |none=>exact no λi j=>nofun
    |some k=>
     cases k with
     |lf t n=>refine qb hD<|qh ei ?_;cases t<;>exact no λi j=>nofun
     |nd e x y=>
      refine qb hD<|qh ei ?_;cases e with
      |false=>exact no λi j=>nofun
      |true=>
       refine⟨D,l,c,I,U,rfl,hD,s _ _ hc,by lia,by lia,λp hp=>?_⟩;have s2:=By (o:=.lst<|nY<|ji I (zp I U) I.length) hp;have g2:qe L1 p (.lst<|nY<|ji I (zp I U) I.length) p=_:=q9;have C:=s2 _ _ hD;have s2:=s.trans s2;generalize qe L1 p (.lst<|nY<|ji I (zp I U) I.length)=L2 at s2 g2 C ⊢;refine qb g2 ⟨rfl,bU _,?_⟩;show vk (nJ (bK<|.int (r:Int))<|(nY<|ji I (zp I U) I.length).map bK) _ _;rw[bQ];by_cases cu:r∈zp I U
       ·exact vi (Au λh=>(nE ek).mp h cu) ⟨D,I,rfl,s2,C,S.stay λ_ _ _=>cu⟩
       refine cx (Av<|(nE ek).mpr cu) ?_;have ol:(x4 I).length=I.length:=ku I;refine qr C λp5 h5=>?_;rw[xQ];have s5:=By (o:=.lst<|(x4 I).take r) h5;have g5:qe L2 p5 (.lst<|(x4 I).take r) p5=_:=q9;have a5:=s5 _ _ C;generalize qe L2 p5 (.lst<|(x4 I).take r)=L5 at s5 g5 a5 ⊢;intro p6 h6;have s6:=By (o:=.lst [aX none]) h6;have g6:qe L5 p6 (.lst [aX none]) p6=_:=q9;refine⟨_,_,s6 _ _ g5,g6,by rw[AQ,ol];exact Bf (big _ (by show _+1<=_;lia)),λp7 h7=>?_⟩;have s7:=s6.trans<|By (o:=.lst<|(x4 I).take r++[aX none]) h7;have a7:=s7 _ _ a5;have g7:qe (qe L5 p6<|.lst [aX none]) p7 (.lst<|(x4 I).take r++[aX none]) p7=_:=q9;show HV Iq (qw 1) (HR<|bL yU (qw 4)<|yC<|.int 1) xA _ (qe (qe L5 p6<|.lst [aX none]) p7<|.lst<|(x4 I).take r++[aX none]) _;generalize qe (qe L5 p6<|.lst [aX none]) p7 (.lst<|(x4 I).take r++[aX none])=L7 at s7 a7 g7 ⊢;refine qr a7 λp8 h8=>?_;show yU (.ref p7) (.ref p8) (qe L7 p8<|.lst<|gH (x4 I) (some<|(r:Int)+1) none) _;rw[show((r:Int)+1)=((r+1:Nat):Int) by lia,oR];have s8:=By (o:=.lst<|(x4 I).drop<|r+1) h8;refine⟨_,_,s8 _ _ g7,q9,by rw[Ad,AQ,BC,ol];exact Bf (big _ (by show _+1+_<=_;lia)),λp9 h9=>?_⟩;exact⟨p9,I.set r none,rfl,(((s2.trans s5).trans s7).trans s8).trans<|By h9,by rw[q9,Tf _ hr],S.gone ok ek cu⟩
   ·rintro τ g ⟨D',J,rfl,s',h1,h2⟩;exact⟨_,EL _,D',J,rfl,s',h1,by lia,h2⟩
noncomputable def fT(I:zc):RD "_law_rising" br 1 ["_law_row","_law_k"] (λV=>Ft V I):=⟨_,λV B c _ _ _ _ _ _ _ J hN U=>(qa (zv (aM<|xa<|vd .list rfl B.bb rfl B.be aa<|qv 0) (qd<|qx vn) z9)<|qa (vh p0 rfl (aC rfl B.bf<|jv<|L_ B.ba<|qv 0) (G_ 1 hN)<|qd<|zv (wc<|gw (aM<|xa<|C_ c J<|jv<|I_ (qv 0)<|qv 1)<|dl<|wc<|vq (je Er (qv 1) qf<|vf _)<|w4<|aM<|je u6 (I_ (qv 0)<|qj bC (qv 1) qf) (I_ (qv 0)<|qv 1)<|vf _) (qd<|qx vn) z9)<|qd<|qx vn)⟩
noncomputable def n6(I:zc):kh:=(fT I).1
noncomputable def wV(I:zc):RD "_law_apart" cX 2 ["_law_web_here","_law_edges","_law_p","_law_q","_law_told","_law_more","_law_left","_law_right","_law_a","_law_b"] (λV=>I9 V I):=⟨_,λV B c _ _ _ _ _ _ _ J hN U=>(qa (uh (i:=6) (j:=7) rfl hN rfl rfl (by decide) rfl rfl (wg (I_ (qv 4)<|Ic Ib qf)<|I_ (qv 4)<|Ic Ib qf) rfl)<|qa (zv (wc<|gw (aM<|xa<|C_ c J<|jv<|qv 6)<|dl<|aM<|xa<|C_ c J<|jv<|qv 7) (qd<|qx vn) z9)<|qa (zv (wc<|gw (je (fw _ _ _) (qv 2) (qv 6) (by with_unfolding_all rfl))<|dl<|je (fw _ _ _) (qv 3) (qv 7) (by with_unfolding_all rfl)) (qd<|qx vn) z9)<|qa (zv (N_ U (ay Sl rfl B.bh iI<|jv<|qj j4 (qj j4 (qv 6)<|qv 7)<|qv 5)<|fS ["_law_x"] (EW (by rfl)) rfl (aC rfl B.bf<|jv<|L_ B.ba<|J_ 0) (nV 10) (λ_ _ _ _=>aK<|af<|I_ (J_ 0)<|qv 10) λ_ _ _ _=>(qv 10)) (qd<|qx vn) z9)<|qa (vh p0 rfl (xh<|qv 1) (aN (n:=2) rfl<|zg (G_ 8 hN)<|zg (G_ 9 hN) kc)<|qd<|zv (N_ U (bO (tI _ _ _) (qv 8) (qv 6) (by with_unfolding_all rfl))<|bO (tI _ _ _) (qv 9) (qv 6) (by with_unfolding_all rfl)) (qd<|qx vn) z9)<|qd<|qx vn)⟩
noncomputable def Tt(I:zc):kh:=(wV I).1
def i8:zc:=λys L Q=>∃a,∃xs:List Nat,ys=[.ref a]/\L a=some (.lst<|nY xs)/\xs.Pairwise (λa b=>a<b)/\xs.length<=1000/\Q (.bl true) L
theorem zW:∀ys L Q,i8 ys L Q->jw (n6 cA) 2 ys L Q:=by
 rintro ys L Q ⟨a,I,rfl,J,o,r,q⟩;refine dE J ?_;refine qb J ⟨⟨AU _,by rw[jh];lia⟩,?_⟩;rw[jh,BY];refine hG (λi U g=>∃c1,U=[some<|.ref a,c1]/\g=L) ⟨_,rfl,rfl⟩ ?_ ?_
 ·rintro i U g l ⟨c1,rfl,rfl⟩;rw[BI];have e:I[i]?=some I[i]:=Al l;refine qb J<|qh (lE e) ⟨_,rfl,?_⟩;show vk (decide<|(i:Int) > 0) _ _;refine jg (λc=>?_) λc=>⟨_,EL _,_,rfl,rfl⟩;obtain⟨j,rfl⟩:∃j,i=j+1:=⟨i-1,by lia⟩;have p:I[j]?=some I[j]:=Al (by lia);refine qb J (qh (v:=.int ((I[j]:Nat):Int)) (by rw[show((j+1:Nat):Int)-1=(j:Int) by lia];exact lE p)<|qb J<|qh (lE e) ?_);have lt:=Cg.mp o j (j+1) (by lia) l<|Bk _;exact vi (by rw[Av<|Int.ofNat_lt.mpr lt];rfl) ⟨_,EL _,_,rfl,rfl⟩
 ·rintro U g ⟨c1,rfl,rfl⟩;exact x0 q
def lU:zc:=λys L Q=>∃a l c e D1 D2 M,∃wd:List (Option Kn),∃es:List (Nat×Nat),∃hd:List Y,∃p q:Nat,∃ls rs ms:List Nat,ys=[aI a l c,.ref e,.int (p:Int),.int (q:Int),.tup<|hd++[.ref D1,.ref D2],.ref M]/\L a=some (.lst<|x4 wd)/\L e=some (.lst<|qp es)/\L D1=some (.lst<|nY ls)/\L D2=some (.lst<|nY rs)/\L M=some (.lst<|nY ms)/\wd.length<=1000/\(qm wd).length<=127/\ls.Pairwise (λa b=>a<b)/\rs.Pairwise (λa b=>a<b)/\p∈ls/\q∈rs/\(ls++rs++ms).Perm (qm wd)/\(∀x∈es,x.1∈ls↔x.2∈ls)/\∀L',qg L L'->Q (.bl true) L'
theorem Tu:∀ys L Q,lU ys L Q->jw (Tt i8) 10 ys L Q:=by
 rintro ys L Q ⟨a,l,c,e,D1,D2,M,I,es,hd,p,q,ls,J,r,rfl,ha,he,g,t,hM,z0,z1,pl,pr,mp,mq,pm,hs,k⟩;have big:=a_;have len:=pm.length_eq;rw[Ad,Ad] at len;have e1:bp (hd++[Y.ref D1,.ref D2]) (-1)=some (.ref D2):=by rw[show hd++[Y.ref D1,Y.ref D2]=(hd++[.ref D1])++[.ref D2] by simp];exact NV _ _
 have e2:bp (hd++[Y.ref D1,.ref D2]) (-2)=some (.ref D1):=by refine SU (j:=hd.length) ?_ (by simp);rw[Ad];unfold uj;simp;constructor<;>lia
 walk_at "w";rw[e2];walk_at "w";rw[e1];refine⟨D1,ls,rfl,g,pl,by lia,?_⟩;refine⟨D2,J,rfl,t,pr,by lia,?_⟩;refine qb g ⟨rfl,bU _,?_⟩;show vk (nb true<|nJ (bK<|.int (p:Int))<|(nY ls).map bK) _ _;rw[bQ];refine vi (by rw[Av mp];rfl)<|qb t ⟨rfl,bU _,?_⟩;show vk (nb true<|nJ (bK<|.int (q:Int))<|(nY J).map bK) _ _;rw[bQ];refine vi (by rw[Av mq];rfl) ?_;refine⟨_,_,g,t,by rw[jh,jh];exact Bf<|big _ (by lia),λp1 k1=>?_⟩;have s1:=By (o:=.lst<|nY ls++nY J) k1;have g1:qe L p1 (.lst<|nY ls++nY J) p1=_:=q9;generalize qe L p1 (.lst<|nY ls++nY J)=L1 at s1 g1 ⊢;refine⟨_,_,g1,s1 _ _ hM,by rw[Ad,jh,jh,jh];exact Bf<|big _ (by lia),λp2 k2=>?_⟩;have en:nY ls++nY J++nY r=nY (ls++J++r):=by rw[aW,aW]
 rw[en];have s2:=s1.trans<|By (o:=.lst<|nY<|ls++J++r) k2;have g2:qe L1 p2 (.lst<|nY<|ls++J++r) p2=_:=q9;generalize qe L1 p2 (.lst<|nY<|ls++J++r)=L2 at s2 g2 ⊢;refine qr g2 ⟨_,gU _,by rw[Ah,Ad,Ad];lia,λD3 vs k3 pv pw=>?_⟩;have ev:vs=(qm I).map λn:Nat=>(n:Int):=by refine List.Perm.eq_of_pairwise (le:=λa b:Int=>a<=b) (λa b _ _ g t=>Int.le_antisymm g t) pw ?_<|pv.trans<|pm.map _;exact B0.mpr<|(mz _ I I.length).imp λh=>Int.ofNat_le.mpr<|Bf h
 subst ev;rw[<-gU];have s3:=s2.trans<|By (o:=.lst<|nY<|qm I) k3;have g3:qe L2 D3 (.lst<|nY<|qm I) D3=_:=q9;generalize qe L2 D3 (.lst<|nY<|qm I)=L3 at s3 g3 ⊢;have a3:=s3 _ _ ha;refine qb a3 ⟨⟨AU _,by rw[ku];lia⟩,?_⟩;rw[ku,BY];refine vW (λi zs=>zs=nY (kO pW I i)) (big _ (by lia)) rfl ?_ ?_
 ·rintro i zs hi rfl;obtain⟨kk,ek⟩:∃k,I[i]?=some k:=⟨_,Al hi⟩;rw[BI];refine qb a3<|qh (bP ek) ?_;cases kk with
  |none=>exact⟨_,EL _,rfl,by rw[gO ek];exact BL nY (AE _).symm⟩
  |some kk=>cases kk<;>exact⟨_,EL _,rfl,by rw[gO ek,aW];rfl⟩
 rintro zs rfl p4 k4;have U:=By (o:=.lst<|nY<|qm I) k4;refine gv (n:=0) (m:=0) (by decide) (U _ _ g3) q9 (by rw[gU];exact fF _) (by rw[gU];exact fF _) ?_;refine vi (by rw[Sm];rfl) ?_;have U:=s3.trans U;generalize qe L3 p4 (.lst<|nY<|qm I)=L4 at U ⊢;have e4:=U _ _ he;have d4:=U _ _ g;refine gS (xn e4) (λi T C=>C=L4/\∃c8 c9,T=[some<|aI a l c,some<|.ref e,some<|.int (p:Int),some<|.int (q:Int),some<|.tup<|hd++[.ref D1,.ref D2],some<|.ref M,some<|.ref D1,some<|.ref D2,c8,c9]) ⟨rfl,_,_,rfl⟩ (λi T C w=>by rw[w.1]) ?_ ?_
 ·rintro i y T C hy ⟨rfl,c8,c9,rfl⟩;rw[qp,Aq] at hy;obtain⟨x,ex,rfl⟩:=Aw.mp hy;refine qb d4 ⟨rfl,bU _,qb d4 ⟨rfl,bU _,?_⟩⟩;show vk (nb true<|decide<|nJ (bK<|.int (x.1:Int)) ((nY ls).map bK)=nJ (bK<|.int (x.2:Int)) ((nY ls).map bK)) _ _;rw[bQ,bQ];exact vi (by rw[Av<|Ei.mpr<|hs x<|AF ex];rfl) ⟨_,EL _,rfl,_,_,rfl⟩
 ·rintro T C ⟨rfl,c8,c9,rfl⟩;exact x0<|k C U
noncomputable def o4(I:zc)(g:zc)(J:zc)(U:zc):RD "_law_parts" dB 3 ["_law_web_here","_law_told","_law_knots","_law_links","_law_cuts","_law_r","_law_edges"] (λV=>Ft V I/\Gh V g/\Ja V J/\I0 V U):=⟨_,λV B c _ _ _ _ _ _ _ j hN l=>(qa (im (qv 0)<|aN (n:=3) rfl<|zg (G_ 2 hN)<|zg (G_ 3 hN)<|zg (G_ 4 hN) kc)<|qa (zv (wc<|gw (aM<|xa<|vd .tuple rfl B.bb rfl B.b_tuple cM<|qv 1)<|gw (je (fw _ _ _) (L_ B.ba<|qv 1) (zr<|wg qf qf) (by with_unfolding_all rfl))<|dl<|aM<|xa<|vd .str rfl B.bb rfl B.b_str vY<|J_ 1) (qd<|qx vn) z9)<|qa (zv (wc<|vq (E_ l (J_ 1) jl)<|vq (E_ l (L_ B.ba<|qv 1) qf)<|w4<|xa<|C_ c.1 j<|jv<|J_ 1) (qa (S_ 5 hN<|J_ 1)<|qa (zv (wc<|gw (je (fw _ _ _) (qv 5) (C_ c.2.1 j<|jv<|qv 0) (by with_unfolding_all rfl))<|dl<|N_ l (I_ (I_ (qv 2)<|qv 5) qf) jl) (qd<|qx vn) z9)<|qd<|qx<|C_ c.2.2.1 j<|jr (qv 0)<|jr (qj j4 (qj j4 (qv 3)<|qv 4)<|C_ c.2.2.2 j<|wg (qv 2)<|qv 5)<|jr (I_ (I_ (qv 2)<|qv 5) qf)<|cS (I_ (I_ (qv 2)<|qv 5) qf) (qv 1)<|jb<|jv<|qv 5) z9)<|qa (zv (wc<|vq (E_ l (J_ 1) jl)<|vq (E_ l (L_ B.ba<|qv 1) qf)<|vq (xa<|C_ c.1 j<|jv<|J_ 1)<|w4<|xa<|C_ c.1 j<|jv<|J_ 1) (qa (zv (je (Tp l) (vj (uE _ _ _) (qv 1) (ve qf)<|ve qf) (qv 4) (by with_unfolding_all rfl)) (qd<|qx vn) z9)<|qa (S_ 6 hN<|qj j4 (qj j4 (qv 3)<|fS ["_law_x"] (EW (by rfl)) rfl (xh<|qv 4) (nV 7) (λ_ _ _ _=>aK<|N_ l (qv 7)<|vj (uE _ _ _) (qv 1) (ve qf)<|ve qf) λ_ _ _ _=>(qv 7))<|C_ c.2.2.2 j<|wg (qv 2)<|L_ B.ba<|qv 2)<|qd<|qx<|C_ c.2.2.1 j<|jr (qv 0)<|jr (qv 6)<|jr (J_ 1)<|cS (J_ 1) (qv 1)<|jb vt) z9)<|qd<|qx vn)⟩
noncomputable def zT(I:zc)(g:zc)(J:zc)(U:zc):kh:=(o4 I g J U).1
section
variable {th ms:List Nat}{es F:List<|Nat×Nat}
theorem my(nd:th.Nodup)(lt:∀z∈th,z<n)(hp:p∈th)(r:q∈th)(l:∀z∈es,z.1∈th/\z.2∈th)(t:∀z∈ms,z∈th)(j:ms.Nodup)(off:∀z∈ms,¬ww es p z/\¬ww es q z)(C:¬ww es p q)(all:∀z∈th,ww es p z\/ww es q z\/z∈ms):((List.range n).filter (aG es p)++(List.range n).filter (aG es q)++ms).Perm th:=by
 have U:∀{a z},a∈th->ww es a z->z∈th:=λI k=>by induction k with|self=>exact I|fwd _ m _=>exact(l _ m).2|bwd _ m _=>exact(l _ m).1
 have J:∀{a z},z∈(List.range n).filter (aG es a)->ww es a z:=λh=>ja.mp (Az.mp h).2;have o:∀a,((List.range n).filter<|aG es a).Nodup:=λa=>CT _ Cw;refine(Bj (Ay.mpr ⟨Ay.mpr ⟨o p,o q,λa I b g z=>C<|(J I).trans<|z▸(J g).symm⟩,j,λa I b g z=>?_⟩) nd).mpr λz=>⟨λh=>?_,λh=>?_⟩
 ·subst z;rcases Ag.mp I with I|I
  ·exact(off _ g).1 (J I)
  ·exact(off _ g).2 (J I)
 ·rcases Ag.mp h with h|h
  ·rcases Ag.mp h with h|h
   ·exact U hp<|J h
   ·exact U r<|J h
  ·exact t z h
 ·rcases all z h with k|k|k
  ·exact Ai _<|Ai _<|Az.mpr ⟨AL.mpr<|lt z h,ja.mpr k⟩
  ·exact Ai _<|Ae _<|Az.mpr ⟨AL.mpr<|lt z h,ja.mpr k⟩
  ·exact Ae _ k
theorem Tv(J:∀z∈F,z∈es\/z=(r,p)\/z=(r,q))(off:∀z∈es,z.1≠r/\z.2≠r){z:Nat}(h:ww F p z):ww es p z\/ww es q z\/z∈[r]:=by
 induction h with
 |self=>exact .inl .self
 |@fwd a b _ m I=>
  rcases J _ m with m|m|m
  ·rcases I with k|k|k
   ·exact .inl<|.fwd k m
   ·exact .inr<|.inl<|.fwd k m
   ·exact((off _ m).1<|Am.mp k).elim
  ·cases m;exact .inl .self
  ·cases m;exact .inr<|.inl .self
 |@bwd a b _ m I=>
  rcases J _ m with m|m|m
  ·rcases I with k|k|k
   ·exact .inl<|.bwd k m
   ·exact .inr<|.inl<|.bwd k m
   ·exact((off _ m).2<|Am.mp k).elim
  ·cases m;exact .inr<|.inr Ak
  ·cases m;exact .inr<|.inr Ak
theorem Tx(J:∀z∈F,z∈es\/z=(p,q)){z:Nat}(h:ww F p z):ww es p z\/ww es q z:=by
 induction h with
 |self=>exact .inl .self
 |@fwd a b _ m I=>
  rcases J _ m with m|m
  ·exact I.imp (.fwd · m) (.fwd · m)
  ·cases m;exact .inr .self
 |@bwd a b _ m I=>
  rcases J _ m with m|m
  ·exact I.imp (.bwd · m) (.bwd · m)
  ·cases m;exact .inl .self
theorem wR(I:p≠r)(off:∀z∈es,z.1≠r/\z.2≠r):¬ww es p r:=λh=>by
 have:∀z,ww es p z->z≠r:=λz h=>by induction h with|self=>exact I|fwd _ m _=>exact(off _ m).2|bwd _ m _=>exact(off _ m).1
 exact this r h rfl
end
def gA:zc:=λys L Q=>∃a l c D1 D2,∃wd:List (Option Kn),∃lk ct:List (Nat×Nat),∃r:sS,ys=[aI a l c,.tup<|r.1++[.ref D1,.ref D2]]/\L a=some (.lst<|x4 wd)/\L l=some (.lst<|qp lk)/\L c=some (.lst<|qp ct)/\WbE wd lk ct/\(qm wd).length<=127/\(∀x∈qm wd,∀y∈qm wd,ww (jd wd lk ct) x y)/\r∈sT wd lk ct/\L D1=some (.lst<|nY r.2.1)/\L D2=some (.lst<|nY r.2.2)/\∀L',qg L L'->Q (.bl true) L'
theorem rL{es:List<|Nat×Nat}{r:sS}(h:jV n hd es p q=some r):¬ww es p q/\r=(hd,(List.range n).filter<|aG es p,(List.range n).filter<|aG es q):=by
 unfold jV at h;split at h
 ·cases h
 ·rename_i c;exact⟨λk=>c<|ja.mpr k,(AO h).symm⟩
theorem bS(n:Nat)(f:Nat->Bool):((List.range n).filter f).Pairwise λa b=>a<b:=CT _ List.pairwise_lt_range
theorem sP{es:List<|Nat×Nat}(x:Nat×Nat)(h1:x∈es)(lt:∀z∈es,z.1<n/\z.2<n):x.1∈(List.range n).filter (aG es p)↔x.2∈(List.range n).filter (aG es p):=by rw[Az,Az,ja,ja];exact⟨λh=>⟨AL.mpr (lt x h1).2,.fwd h.2 h1⟩,λh=>⟨AL.mpr (lt x h1).1,.bwd h.2 h1⟩⟩
theorem ux:∀ys L Q,gA ys L Q->jw (zT cA kE lU iZ) 7 ys L Q:=by
 rintro ys L Q ⟨a,l,c,D1,D2,I,lk,U,r,rfl,T,hl,hc,W,z1,cn,hr,h1,h2,k⟩;have big:=a_;have wl:=W.ls.wl;have ll:=W.ls.ll;have cl:=W.cl;have al:=W.all;have pl:∀xs:List (Nat×Nat),(qp xs).length=xs.length:=λxs=>Ah ..;have a1:(qm I).Nodup:=(mz _ I I.length).imp λh=>A5 h;have g:∀z∈qm I,z<I.length:=λz J=>(v9 J).1;rcases Ag.mp hr with hr|hr
 ·obtain⟨o,ho,h⟩:=B8.mp hr;obtain⟨ho,un⟩:=Az.mp ho;have un:o∉zp I U:=λz=>by rw[Av z] at un;cases un
  obtain⟨lo,kk,C,kb⟩:=v9 ho;obtain⟨x,y,rfl⟩:∃x y,kk=some (.nd false x y):=by
   cases kk with
   |none=>cases kb
   |some k=>
    cases k with|lf=>cases kb|nd e x y=>cases e with|true=>cases kb|false=>exact⟨x,y,rfl⟩
  unfold EY at h;rw[C] at h;obtain⟨nr,rfl⟩:=rL h;have ei:bp (x4 I) (o:Int)=some (aX<|some<|.nd false x y):=bP C;have pa:∀z∈[x,y],z∈jp I:=λz J=>eY C J;have ht:∀z∈[x,y],z∈qm I/\z≠o:=λz J=>⟨(al (o,z)<|Ae _<|xm.mpr ⟨gE C rfl lo,_,C,J⟩).2,λe=>un<|Ai _<|e▸pa z J⟩;have hx:=ht x Ak;have hy:=ht y<|Ab _ Ak;have off:∀z∈lk++U++za I (xr I.length o),z.1≠o/\z.2≠o:=λz J=>by
   rcases Ag.mp J with J|J
   ·rcases Ag.mp J with J|J
    ·obtain⟨_,t,n,g1,g2⟩:=W.ls.lkA z J;exact⟨λe=>(by rw[e,C] at g1;cases g1),λe=>(by rw[e,C] at g2;cases g2)⟩
    ·exact⟨λe=>un<|Ae _<|AV.mpr ⟨z,J,by simp[e]⟩,λe=>un<|Ae _<|AV.mpr ⟨z,J,by simp[e]⟩⟩
   ·obtain⟨hb,k,a0,hp⟩:=xm.mp J;exact⟨of_decide_eq_true (Az.mp hb).2,λe=>un<|Ai _<|e▸AV.mpr ⟨_,AF a0,hp⟩⟩
  have j:∀z∈lk++U++za I (xr I.length o),z∈jd I lk U:=λz J=>by
   rcases Ag.mp J with J|J
   ·exact Ai _ J
   ·exact Ae _ (wq.mpr J).1
  have hF:∀z∈jd I lk U,z∈lk++U++za I (xr I.length o)\/z=(o,x)\/z=(o,y):=λz J=>by
   rcases Ag.mp J with J|J
   ·exact .inl<|Ai _ J
   ·by_cases e:z.1=o
    ·obtain⟨_,k,a0,hp⟩:=xm.mp J;rw[e,C] at a0;cases a0;rcases Ao.mp hp with h|h
     ·exact .inr<|.inl<|Prod.ext e h
     ·exact .inr<|.inr<|Prod.ext e<|Am.mp h
    ·exact .inl<|Ae _<|wq.mp ⟨J,e⟩
  have pm:=my (n:=I.length) (ms:=[o]) a1 g hx.1 hy.1 (λz J=>al z<|j z J) (λz J=>by rw[Am.mp J];exact gE C rfl lo) (List.pairwise_singleton _ _) (λz J=>by rw[Am.mp J];exact⟨wR hx.2 off,wR hy.2 off⟩) nr λz J=>Tv hF off<|cn x hx.1 z J;refine⟨rfl,rfl,?_⟩;refine⟨_,rfl,?_⟩;refine⟨a,l,c,I,U,rfl,T,hc,by lia,by lia,λp1 k1=>?_⟩;have s1:=By (o:=.lst<|nY<|ji I (zp I U) I.length) k1;refine qb q9 ⟨rfl,bU _,?_⟩;show vk (nb true<|nJ (bK<|.int (o:Int))<|(nY<|ji I (zp I U) I.length).map bK) _ _;rw[bQ];generalize qe L p1 (.lst<|nY<|ji I (zp I U) I.length)=L1 at s1 ⊢;refine vi (by rw[Av<|(nE C).mpr un];rfl) ?_;refine qb (s1 _ _ T)<|qh ei ?_;refine⟨_,_,s1 _ _ hl,s1 _ _ hc,by rw[pl,pl];exact Bf<|big _ (by lia),λp2 k2=>?_⟩;have s2:=s1.trans<|By (o:=.lst<|qp lk++qp U) k2;have g2:qe L1 p2 (.lst<|qp lk++qp U) p2=_:=q9;generalize qe L1 p2 (.lst<|qp lk++qp U)=L2 at s2 g2 ⊢;refine⟨a,I,o,rfl,s2 _ _ T,by lia,λp3 k3=>?_⟩;have p:=By (o:=.lst<|qp<|za I<|xr I.length o) k3;have g3:qe L2 p3 (.lst<|qp<|za I<|xr I.length o) p3=_:=q9;have g2:=p _ _ g2;have p:=s2.trans p;generalize qe L2 p3 (.lst<|qp<|za I<|xr I.length o)=L3 at p g3 g2 ⊢;have el:=wm I<|xr I.length o;have bl:(xr I.length o).length<=I.length:=by have:=Bp (λr=>decide<|r≠o)<|List.range I.length;rw[A7] at this;exact this
  refine⟨_,_,g2,g3,by rw[Ad,pl,pl,pl];exact Bf<|big _ (by lia),λp4 k4=>?_⟩;have e4:qp lk++qp U++qp (za I<|xr I.length o)=qp (lk++U++za I (xr I.length o)):=by unfold qp;rw[AD,AD]
  rw[e4];have s4:=p.trans<|By (o:=.lst<|qp<|lk++U++za I (xr I.length o)) k4;have g4:qe L3 p4 (.lst<|qp<|lk++U++za I (xr I.length o)) p4=_:=q9;generalize qe L3 p4 (.lst<|qp<|lk++U++za I (xr I.length o))=L4 at s4 g4 ⊢;refine qb (s4 _ _ T)<|qh ei<|qb (s4 _ _ T)<|qh ei λp5 k5=>?_;have s5:=By (o:=.lst [Y.int (o:Int)]) k5;have s6:=s4.trans s5;exact⟨a,l,c,p4,D1,D2,p5,I,_,[.str "both",.int (o:Int)],x,y,_,_,[o],rfl,s6 _ _ T,s5 _ _ g4,s6 _ _ h1,s6 _ _ h2,q9,by lia,z1,bS _ _,bS _ _,Az.mpr ⟨AL.mpr<|g x hx.1,ja.mpr .self⟩,Az.mpr ⟨AL.mpr<|g y hy.1,ja.mpr .self⟩,pm,λz J=>sP z J λz J=>⟨g _ (al z<|j z J).1,g _ (al z<|j z J).2⟩,λL' s7=>x0<|k L'<|s6.trans s7⟩
 ·obtain⟨d,hd,h⟩:=B8.mp hr;obtain⟨nr,rfl⟩:=rL h;have j:∀z∈lk++(U.filter λy=>decide<|y≠d)++za I (xr I.length I.length),z∈jd I lk U:=λz J=>by
   rcases Ag.mp J with J|J
   ·rcases Ag.mp J with J|J
    ·exact Ai _<|Ai _ J
    ·exact Ai _<|Ae _ (Az.mp J).1
   ·exact Ae _ (wq.mpr J).1
  have hF:∀z∈jd I lk U,z∈lk++(U.filter λy=>decide<|y≠d)++za I (xr I.length I.length)\/z=(d.1,d.2):=λz J=>by
   rcases Ag.mp J with J|J
   ·rcases Ag.mp J with J|J
    ·exact .inl<|Ai _<|Ai _ J
    ·by_cases e:z=d
     ·exact .inr e
     ·exact .inl<|Ai _<|Ae _<|Az.mpr ⟨J,Av e⟩
   ·exact .inl<|Ae _<|wq.mp ⟨J,A5<|g _ (xm.mp J).1⟩
  obtain⟨hx,hy⟩:=al d<|Ai _<|Ae _ hd;have pm:=my (n:=I.length) (ms:=[]) a1 g hx hy (λz J=>al z<|j z J) nofun CS nofun nr λz J=>(Tx hF<|cn d.1 hx z J).imp id .inl;refine⟨rfl,rfl,?_⟩;refine⟨_,rfl,_,rfl,?_⟩;refine⟨by show ¬(1=0/\_);simp,qr hc ⟨U,d,rfl,rfl,vi (by rw[Av hd];rfl) ?_⟩⟩;refine jx hc λkeep kp=>bJ (λi zs=>zs=qp ((U.take i).filter λy=>decide<|y≠d)) (by rw[pl];exact big _ (by lia)) (kp _ rfl) rfl ?_ ?_
  ·rintro i z zs J rfl;rw[qp,Aq] at J;obtain⟨x,ex,rfl⟩:=Aw.mp J;have et:U.take (i+1)=U.take i++[x]:=by rw[Bc,ex];rfl
   refine⟨by show ¬(1=0/\_);simp,rfl,rfl,1,1,_,_,by decide,uv x,uv d,?_⟩;show vk (nb true<|Da.eq (jW x)<|jW d) _ _;rw[kI];by_cases cc:x=d
   ·refine vi (by rw[Av cc];rfl) ⟨_,EL _,rfl,?_⟩;rw[et,A8,BU (by simp[cc]),Br,AE]
   ·refine cx (by rw[Au cc];rfl) ⟨_,EL _,rfl,?_⟩;rw[et,A8,BV (by simp[cc]),Br];unfold qp;rw[AD];rfl
  rintro zs rfl p1 k1;rw[pl,A9];have fl:=Bp (λy=>decide<|y≠d) U;have s1:=By (o:=.lst<|qp<|U.filter λy=>decide<|y≠d) k1;have g1:qe L p1 (.lst<|qp<|U.filter λy=>decide<|y≠d) p1=_:=q9;generalize qe L p1 (.lst<|qp<|U.filter λy=>decide<|y≠d)=L1 at s1 g1 ⊢;refine⟨_,_,s1 _ _ hl,g1,by rw[pl,pl];exact Bf<|big _ (by lia),λp2 k2=>?_⟩;have s2:=s1.trans<|By (o:=.lst<|qp lk++qp (U.filter λy=>decide<|y≠d)) k2;have g2:qe L1 p2 (.lst<|qp lk++qp (U.filter λy=>decide<|y≠d)) p2=_:=q9;generalize qe L1 p2 (.lst<|qp lk++qp (U.filter λy=>decide<|y≠d))=L2 at s2 g2 ⊢;refine qb (s2 _ _ T) ?_;rw[ku];refine⟨a,I,I.length,rfl,s2 _ _ T,by lia,λp3 k3=>?_⟩;have p:=By (o:=.lst<|qp<|za I<|xr I.length I.length) k3;have g3:qe L2 p3 (.lst<|qp<|za I<|xr I.length I.length) p3=_:=q9;have g2:=p _ _ g2;have p:=s2.trans p;generalize qe L2 p3 (.lst<|qp<|za I<|xr I.length I.length)=L3 at p g3 g2 ⊢;have el:=wm I<|xr I.length I.length;have bl:(xr I.length I.length).length<=I.length:=by have:=Bp (λr=>decide<|r≠I.length)<|List.range I.length;rw[A7] at this;exact this
  refine⟨_,_,g2,g3,by rw[Ad,pl,pl,pl];exact Bf<|big _ (by lia),λp4 k4=>?_⟩;have e4:qp lk++qp (U.filter λy=>decide<|y≠d)++qp (za I<|xr I.length I.length)=qp (lk++(U.filter λy=>decide<|y≠d)++za I (xr I.length I.length)):=by unfold qp;rw[AD,AD]
  rw[e4];have s4:=p.trans<|By (o:=.lst<|qp<|lk++(U.filter λy=>decide<|y≠d)++za I (xr I.length I.length)) k4;have g4:qe L3 p4 (.lst<|qp<|lk++(U.filter λy=>decide<|y≠d)++za I (xr I.length I.length)) p4=_:=q9;generalize qe L3 p4 (.lst<|qp<|lk++(U.filter λy=>decide<|y≠d)++za I (xr I.length I.length))=L4 at s4 g4 ⊢;intro p5 k5;have s5:=By (o:=.lst []) k5;have s6:=s4.trans s5;exact⟨a,l,c,p4,D1,D2,p5,I,_,[.str "cut",.int (d.1:Int),.int (d.2:Int)],d.1,d.2,_,_,[],rfl,s6 _ _ T,s5 _ _ g4,s6 _ _ h1,s6 _ _ h2,q9,by lia,z1,bS _ _,bS _ _,Az.mpr ⟨AL.mpr<|g _ hx,ja.mpr .self⟩,Az.mpr ⟨AL.mpr<|g _ hy,ja.mpr .self⟩,pm,λz J=>sP z J λz J=>⟨g _ (al z<|j z J).1,g _ (al z<|j z J).2⟩,λL' s7=>x0<|k L'<|s6.trans s7⟩
def Tz(I:zc)(p1:zc)(p2:zc)(p3:zc)(p4:zc)(p5:zc)(p6:zc)(p7:zc)(p8:zc):kh:=(xb (wb (kg I<|iD<|qw 0)<|z7 1)
 (xb (wb (kg p1<|zj (kg p2<|zj (qw 0)<|pY (qw 1)<|oH 96)<|iD<|qw 1)<|z7 2)
 (xb (wb (kg p3<|zj (kg p4<|iD<|qw 2) aY)<|z7 3)
 (xb (wb (kg p5<|iD<|qw 3)<|z7 4)
 (xb (wb (kg p6<|iD<|qw 4)<|z7 5)
 (xb (jU (HQ (Fk<|yB<|kg p7<|pY (qw 4)<|qw 3)<|Fk<|yB<|HM .list<|qw 5) (gG<|yC<|.bl false) fY)
 (xb (jU (IE (bL (yr false) (qw 5)<|om aY)<|bL (yr false) (r_ yq<|iD<|iL 3 1)<|oH 1) (gG<|yC<|.bl false) fY)
 (xb (t8 (du<|qw 5) (z7 6)<|jU (Fk<|yB<|kg p8<|pY (qw 3)<|qw 6) (gG<|yC<|.bl false) fY)
 (gG<|yC<|.bl true)))))))))
section
variable {b:Nat}
theorem bN.wbE(S:bN wd wd' ct b)(W:WbE wd lk ct):WbE wd' lk ct:=by
 have lf:∀{p:Nat} {t:Bool} {n:Str},wd[p]?=some (some<|.lf t n)->wd'[p]?=some (some<|.lf t n):=λh=>S.kept h<|.inl λi j=>nofun;refine⟨λp e i j h=>W.ok p e i j<|S.le h,λp e i j h=>?_,⟨λc U=>?_,W.ls.lkN,λp=>(W.ls.lkL p).trans ?_,W.ls.lkS,W.ls.ll,W.ls.ne,by rw[S.len];exact W.ls.wl⟩,W.cn,W.cl,λd hd=>?_⟩
 ·obtain⟨⟨I,g1⟩,J,g2⟩:=W.th p e i j<|S.le h;exact⟨⟨I,S.kept g1<|.inr<|.inr (mw h).1⟩,J,S.kept g2<|.inr<|.inr (mw h).2⟩
 ·obtain⟨lt,t,n,l,o⟩:=W.ls.lkA c U;exact⟨lt,t,n,lf l,lf o⟩
 ·exact⟨λ ψ=>(by obtain⟨t,n,g⟩:=ψ;exact ⟨t,n,lf g⟩),λ ψ=>(by obtain⟨t,n,g⟩:=ψ;exact ⟨t,n,S.le g⟩)⟩
 ·obtain⟨⟨I,g1⟩,J,g2⟩:=W.ct d hd;exact⟨⟨I,S.kept g1<|.inr<|.inl<|AV.mpr ⟨d,hd,Ak⟩⟩,J,S.kept g2<|.inr<|.inl<|AV.mpr ⟨d,hd,Ab _ Ak⟩⟩
end
theorem sC{L:ql}{N:Addr}:∀{xs:List Y} {rs:List sS},dO L N xs rs->(∀r∈rs,∀y∈r.1,mH y=true)->∃ds,Paired (jj L 2) xs ds/\Da.eqs ds []=decide (rs=[])
 |_,_,.nil,_=>⟨[],.nil,rfl⟩
 |_,r::_,.cons j l,h=>by
  obtain⟨D1,D2,rfl,_,_,o,t⟩:=j;obtain⟨ds,p,_⟩:=sC l λr C=>h r<|Ab _ C;have T:∀I:List Y,(∀y∈I,mH y=true)->Paired (jj L 1) I (I.map λy=>Da.s<|bK y):=λI=>by
   induction I with
   |nil=>exactλ_=>.nil
   |cons y I ih=>
    intro g;refine .cons (.inl ⟨?_,rfl⟩)<|ih λz hz=>g z<|Ab _ hz;have:=g y Ak;cases y<;>first|rfl|cases this
  have J:∀{D:Addr} {U:List Nat},L D=some (.lst<|nY U)->∃d,jj L 1 (.ref D) d:=λ{D U} g=>⟨_,.inr (.inr ⟨_,_,rfl,rfl,xn g,by rw[gU];exact fF _⟩)⟩;obtain⟨d1,g1⟩:=J o;obtain⟨d2,g2⟩:=J t;exact⟨_,.cons (.inr<|.inl ⟨_,_,rfl,rfl,Words.Paired.app (T _<|h r Ak)<|.cons g1<|.cons g2 .nil⟩) p,rfl⟩
theorem TB :∀ys L Q,oy Pt lamQ ys L Q->jw (Tz oi (pO Pt) qA pK pG qW (di C) (cL 4) gA) 7 ys L Q:=by
 rintro ys L Q ⟨ns,rfl,a5,hL,q⟩;have hP:L Pt=some (.tb lamQ):=by rw[hL];exact q9
 clear hL;refine⟨ns,rfl,λst=>?_⟩;refine⟨ns,st,96,_,rfl,rfl,by lia,by decide,λka ks R E L1 s1 n1 g1 T=>?_⟩;refine⟨ka,ks,R,E,st,rfl,g1,T,s1 _ _ hP,λw f wd hw rn=>?_⟩;have g2:qe L1 w (.lst<|x4 wd) w=_:=q9;generalize qe L1 w (.lst<|x4 wd)=L2 at g2 ⊢;obtain⟨m1,m2,m3,m4,m5,m6⟩:=T.mvp rn;refine⟨w,x4 wd,a6 f R,rfl,g2,by lia,by lia,m3,m4,m5,m6,λa l c lk ct L3 s3 _ _ _ _ _ _ e1 e2 e3 pl a0 pc a3=>?_⟩;obtain⟨W0,_⟩:=T.wbE rn pl a0 pc a3;have a7:=W0.ls.wl;have cl:=W0.cl;refine⟨a,l,c,wd,ct,rfl,e1,e3,by lia,by lia,W0.ok,λa1 I L4 s4 j S=>?_⟩;have U:=s4 _ _ e2;have k3:=s4 _ _ e3;have W:=S.wbE W0;have wl:=W.ls.wl;have ll:=W.ls.ll;have al:=W.all;have tw:=T.sr.tw rn;have a4:(qk<|a6 f R).Nodup:=(aO f R).nodup_iff.mpr (ak T.nd λx J y hy=>rn.inj (by have:=AL.mp<|T.tp.mem_iff.mp J;rw[Ah];exact this) (by have:=AL.mp<|T.tp.mem_iff.mp hy;rw[Ah];exact this));have g:∀(p:Nat) (k:Kn),I[p]?=some (some k)->p∈qk (a6 f R):=λp k h=>by obtain⟨x,J,rfl⟩:=rn.gap.only p k (S.le h);rw[Ah] at J;exact(aO f R).mem_iff.mpr (B4<|T.tp.mem_iff.mpr J)
 have cn:∀x∈qm I,∀y∈qm I,ww (jd I lk ct) x y:=λx J y hy=>by
  have th:∀z∈qm I,∃k,I[z]?=some (some k):=λz hz=>by
   obtain⟨_,k,ek,kb⟩:=v9 hz;cases k with
   |none=>cases kb
   |some k=>exact⟨k,ek⟩
  obtain⟨kx,ex⟩:=th x J;obtain⟨ky,ey⟩:=th y hy;exact tw.conn S (λx y k h m=>Ae _<|xm.mpr ⟨gE h rfl<|zd h,_,h,m⟩) (λc hc=>Ai _<|Ai _<|pl.mem_iff.mpr hc) (λc hc=>⟨Ai _<|Ae _<|pc.mem_iff.mpr hc,pc.mem_iff.mpr hc⟩) x y (g x _ ex) (g y _ ey) ⟨_,ex⟩ ⟨_,ey⟩
 have tl:(qm I).length<=127:=by
  have h1:=(T.tp.length_eq);have h2:=(aO f R).length_eq;rw[A7] at h1;rw[Ah] at h2;have h3:(qm I).length<=(qk<|a6 f R).length:=by
   refine Jy _ _ ((mz _ I I.length).imp λh=>A5 h) λz hz=>?_;obtain⟨_,k,ek,kb⟩:=v9 hz;cases k with
   |none=>cases kb
   |some k=>exact g z k ek
  have:=T.len;lia
 have tp:=tw.parts (lk:=lk) W0.ok S a4 g (λc=>pc.mem_iff) λc=>pl.mem_iff;rw[<-pl.length_eq] at tp;have hb:∀x∈jd I lk ct,x.1<I.length/\x.2<I.length:=λx J=>⟨(v9 (al x J).1).1,(v9 (al x J).2).1⟩;refine⟨a1,l,c,_,_,_,rfl,j,U,k3,λa2 l2 c2 L5 s5 _ _ _ _ _ _ j1 j2 j3=>?_⟩;refine⟨a2,l2,c2,I,lk,ct,rfl,j1,j2,j3,by lia,by lia,by lia,W.ok,hb,λD xs L6 s6 f6 k6 T6=>?_⟩;have t6:=s5.trans s6;have j:=t6 _ _ j;have U:=t6 _ _ U;have k3:=t6 _ _ k3;refine⟨_,_,rfl,Te (s6 _ _ j1) (s6 _ _ j2) (s6 _ _ j3) j U k3 (by lia) (by lia) (by lia),?_⟩;have eq:=S6 W.cn (λx J=>by obtain⟨_,t,n,h1,_⟩:=W.ls.lkA x J;exact⟨t,n,h1⟩) al;rw[eq] at T6;refine dE k6 λp7 h7=>?_;have s7:=By (o:=.lst []) h7;obtain⟨ds,pd,ed⟩:=sC (T6.mono λp o _ h=>s7 p o h) λr hr=>(Tj r hr).1;refine gv (n:=2) (m:=0) (by decide) (s7 _ _ k6) q9 pd .nil ?_;have T6:=T6.mono λp o _ h=>s7 p o h;have k6:=s7 _ _ k6;have j:=s7 _ _ j;have U:=s7 _ _ U;have k3:=s7 _ _ k3;generalize qe L6 p7 (.lst [])=L7 at T6 k6 j U k3 ⊢;rw[ed];refine qb U ?_;have e8:(qp lk).length=lk.length:=Ah ..;have e9:decide (sT I lk ct=[])=decide (((qp lk).length:Int)=1):=by
  rw[e8];rcases tp with⟨h1,h2,h3⟩|⟨h1,h2⟩
  ·rw[Av (show((lk.length:Nat):Int)=1 by lia),Av];unfold sT;rw[h2,h3];rfl
  ·rw[Au h2,Au (show ¬((lk.length:Nat):Int)=1 by lia)]
 refine vi (b:=nb true<|decide<|decide (sT I lk ct=[])=decide (((qp lk).length:Int)=1)) (by rw[Av e9];rfl) ?_;refine gS (xn k6) (λi τ L'=>qg L7 L'/\∃c2 c4 c6,τ=[some<|.sq<|ns.map Y.int,some<|.int st,c2,some<|aI a1 l c,c4,some<|.ref D,c6]) ⟨EL _,_,_,_,rfl⟩ (λi τ L' w=>by rw[w.1 _ _ k6,k6]) ?_ ?_
 ·rintro i y τ L' hy ⟨s8,c2,c4,c6,rfl⟩;obtain⟨r,er,hr⟩:=Words.Paired.getP T6 hy;obtain⟨D1,D2,rfl,_,_,g1,g2⟩:=hr;exact⟨a1,l,c,D1,D2,I,lk,ct,r,rfl,s8 _ _ j,s8 _ _ U,s8 _ _ k3,W,tl,cn,AF er,s8 _ _ g1,s8 _ _ g2,λL9 s9=>⟨_,EL _,s8.trans s9,_,_,_,rfl⟩⟩
 ·rintro τ L' ⟨s8,c2,c4,c6,rfl⟩;exact x0<|q L'
end L3
end
set_option maxRecDepth 100000
set_option maxHeartbeats 8000000
namespace K42
open PySem L2 L3 Words
abbrev ng:Str:="_law_script"
abbrev nh:Str:="_law_knots"
theorem TC{us:List Value}{n:Nat}(h:us.length=n+1):∃a r,us=a::r/\r.length=n:=by cases us with|nil=>cases h|cons a r=>exact⟨a,r,rfl,Nat.succ.inj h⟩
structure B_(V:V_):Prop extends B0_ V where
 hp:∃h:Heap,V.K.In h/\h.Ns mainGlobals V.mg
 D0:cr V.K V.Ca "__init__" "Pieces.__init__" fV
 D1:cr V.K V.Ca "head_of" "Pieces.head_of" cD
 D2:cr V.K V.Ca "unite" "Pieces.unite" da
 D3:qz V.K "is_leaf" nv
 D4:qz V.K "places_there" bD
 D5:qz V.K "parts_of" ff
 D6:qz V.K "parts_in" fc
 D7:qz V.K "places_in" dW
 D8:qz V.K "ends_of" i0
 D9:qz V.K "boths_of" gI
 D10:qz V.K "part_edges" cb
 D11:qz V.K "all_edges" eF
 D12:qz V.K "piece_at" mZ
 D13:qz V.K "sides_by" lh
 D14:qz V.K "parted_boths" az
 D15:qz V.K "parted_cuts" bY
 D16:qz V.K "partings" fu
 D17:qz V.K "_law_cell_at" ax
 D18:qz V.K "_law_stir" dw
 D19:qz V.K "_law_pick" dq
 D20:qz V.K "_law_mix" fz
 D21:qz V.K "_law_name" eJ
 D22:qz V.K "_law_word" dh
 D23:qz V.K "_law_flip" dk
 D24:qz V.K "_law_weight" bv
 D25:qz V.K "_law_mirror" f8
 D26:qz V.K "_law_join" eO
 D27:qz V.K "_law_fold" dQ
 D28:qz V.K "_law_cut" mI
 D29:qz V.K "_law_tree" dY
 D30:qz V.K "_law_gather" bq
 D31:qz V.K "_law_web" gC
 D32:qz V.K "_law_open" jC
 D33:DefInT V.K "_law_order" s__law_order V.Pt
 D34:qz V.K "_law_moved" ce
 D35:qz V.K "_law_gapped" bj
 D36:qz V.K "_law_sides" cY
 D37:qz V.K "_law_number" bZ
 D38:qz V.K "_law_alike" cq
 D39:qz V.K "_law_copy" db
 D40:qz V.K "_law_sown" dR
 D41:qz V.K "_law_stripped" aZ
 D42:qz V.K "_law_rising" br
 D43:qz V.K "_law_apart" cX
 D44:qz V.K "_law_parts" dB
 me:V.mg "Pieces"=some (.ref V.Ca)
 cl_Pieces:Cls V.K V.Ca
 mAPieces:PySem.W.makesIn V.K V.Ca=true
 mKPieces:PySem.W.keepIn V.K (.ref V.Ca)=true
 xf:L3.XFP V.K V.Ca
abbrev c0(_:V_):Prop:=True
local macro_rules|`(tactic| walk_at "s")=>`(tactic| exact⟨rfl,rfl,rfl,by decide +kernel,rfl,by decide +kernel,by decide +kernel⟩)
local macro_rules|`(tactic| walk_at "l")=>`(tactic| first|(rintro _ _ _ ⟨_,e,_⟩;rw[e];rfl)|(rintro _ _ _ ⟨_,_,e,_⟩;rw[e];rfl)|(rintro _ _ _ ⟨_,_,_,e,_⟩;rw[e];rfl)|(rintro _ _ _ ⟨_,_,_,_,e,_⟩;rw[e];rfl)|(rintro _ _ _ ⟨_,_,_,_,_,e,_⟩;rw[e];rfl)|(rintro _ _ _ ⟨_,_,_,_,_,_,e,_⟩;rw[e];rfl)|(rintro _ _ _ ⟨_,_,_,_,_,_,_,e,_⟩;rw[e];rfl)|(rintro _ _ _ ⟨_,_,_,_,_,_,_,_,e,_⟩;rw[e];rfl)|(rintro _ _ _ ⟨_,_,_,_,_,_,_,_,_,e,_⟩;rw[e];rfl)|(rintro _ _ _ ⟨_,_,_,_,_,_,_,_,_,_,_,_,_,_,_,e,_⟩;rw[e];rfl))
local macro_rules|`(tactic| walk_at "x")=>`(tactic| (intro _;walk_at "l"))
local macro_rules|`(tactic| walk_at "b")=>`(tactic| (intro _ _ _ _ _ _ us hl;(repeat (obtain⟨_,_,e,h⟩:=TC hl;clear hl;subst e;have hl:=h;clear h));cases List.eq_nil_of_length_eq_zero hl;rfl))
section
variable {f:Addr}{fd:FuncData}{x q:Str}{st:Stmt}{ps:List Str}(V:V_)(k:Nat)(N:List Str)
theorem W_{sp:zc}{t:kh}(F:Fun V.K x q st f fd)(U:∀ys L Q,sp ys L Q->jw t N.length ys L Q)(h:∀(eK:Value) (A:Around) (outer:List Env) (s:Shared) (H:Hp) (E:XK),vo k (A.deeper<|PyProof.Rows.envOfC q (qo st) s.heap.objs.size f eK)->N.Nodup->(A.deeper<|PyProof.Rows.envOfC q (qo st) s.heap.objs.size f eK).units+128<cLine->rB (g9 CX0 V.P V.w V.K V.mg V.base N q (qo st) f eK A outer s H E).nox (j7 st) t)(I:ag N ps (qo st):=by walk_at "s")(len:∀ys L Q,sp ys L Q->ys.length=ps.length:=by walk_at "l"):Fn3 V.P V.w V.K V.mg V.base (k+1) f fd ps sp:=
 Pp F I len λeK A outer s H E J=>⟨t,h eK A outer s H E J I.nd<|HF J,U⟩
theorem M_{sp:zc}{t:kh}(hp:∃h:Heap,V.K.In h/\h.Ns mainGlobals V.mg)(D:qz V.K x st)(I:∀ys L Q,sp ys L Q->jw t N.length ys L Q)(h:∀f,∀(eK:Value) (A:Around) (outer:List Env) (s:Shared) (H:Hp) (E:XK),vo k (A.deeper<|PyProof.Rows.envOfC x (qo st) s.heap.objs.size f eK)->N.Nodup->(A.deeper<|PyProof.Rows.envOfC x (qo st) s.heap.objs.size f eK).units+128<cLine->rB (g9 CX0 V.P V.w V.K V.mg V.base N x (qo st) f eK A outer s H E).nox (j7 st) t)(J:ag N ps (qo st):=by walk_at "s")(len:∀ys L Q,sp ys L Q->ys.length=ps.length:=by walk_at "l")(U:∀(kV hE pm:Value) (an:Option Addr) (eK ct:Value) (us:List Value),us.length=ps.length->bindArgs (PySem.W.fnOf x x (jy st) (j7 st) (qo st) .none kV hE pm an eK ct) ⟨us,[]⟩=pure (ps.zip us):=by walk_at "b"):Q_ V (k+1) x ps sp:=by obtain⟨_,X,G⟩:=hp;obtain⟨f,fd,F,b,m⟩:=D.use X G U;exact Cal.of (W_ V k N F I (h f) J len) b F.kp m
theorem R_{sp:Nat->zc}{t:Nat->kh}(hp:∃h:Heap,V.K.In h/\h.Ns mainGlobals V.mg)(D:qz V.K x st)(no:∀ys L Q,¬sp 0 ys L Q)(I:∀n ys L Q,sp (n+1) ys L Q->jw (t n) N.length ys L Q)(h:∀n f,Q_ V (n+k) x ps (sp n)->∀(eK:Value) (A:Around) (outer:List Env) (s:Shared) (H:Hp) (E:XK),vo (n+k) (A.deeper<|PyProof.Rows.envOfC x (qo st) s.heap.objs.size f eK)->N.Nodup->(A.deeper<|PyProof.Rows.envOfC x (qo st) s.heap.objs.size f eK).units+128<cLine->rB (g9 CX0 V.P V.w V.K V.mg V.base N x (qo st) f eK A outer s H E).nox (j7 st) (t n))(n:Nat)(J:ag N ps (qo st):=by walk_at "s")(len:∀n ys L Q,sp n ys L Q->ys.length=ps.length:=by walk_at "x")(U:∀(kV hE pm:Value) (an:Option Addr) (eK ct:Value) (us:List Value),us.length=ps.length->bindArgs (PySem.W.fnOf x x (jy st) (j7 st) (qo st) .none kV hE pm an eK ct) ⟨us,[]⟩=pure (ps.zip us):=by walk_at "b"):Q_ V (n+k) x ps (sp n):=by
 obtain⟨_,X,G⟩:=hp;obtain⟨f,fd,F,b,m⟩:=D.use X G U
 induction n with|zero=>exact Cal.of (Fn3.never no) b F.kp m|succ n g=>rw[Nat.add_right_comm];exact Cal.of (W_ V (n+k) N F (I n) (h n f g) J<|len _) b F.kp m
theorem T_{sp:zc}{t:kh}(hp:∃h:Heap,V.K.In h/\h.Ns mainGlobals V.mg)(D:DefInT V.K x st V.Pt)(U:∀ys L Q,sp ys L Q->jw t N.length ys L Q)(h:∀f,∀(eK:Value) (A:Around) (outer:List Env) (s:Shared) (H:Hp) (E:XK),yg V.K eK V.Pt->vo k (A.deeper<|PyProof.Rows.envOfC x (qo st) s.heap.objs.size f eK)->N.Nodup->(A.deeper<|PyProof.Rows.envOfC x (qo st) s.heap.objs.size f eK).units+128<cLine->rB (g9 CX0 V.P V.w V.K V.mg V.base N x (qo st) f eK A outer s H E).nox (j7 st) t)(I:ag N ps (qo st):=by walk_at "s")(len:∀ys L Q,sp ys L Q->ys.length=ps.length:=by walk_at "l")(g:∀(kV hE pm:Value) (an:Option Addr) (eK ct:Value) (us:List Value),us.length=ps.length->bindArgs (PySem.W.fnOf x x (jy st) (j7 st) (qo st) .none kV hE pm an eK ct) ⟨us,[]⟩=pure (ps.zip us):=by walk_at "b"):Q_ V (k+1) x ps sp:=by obtain⟨_,X,G⟩:=hp;obtain⟨f,fd,F,b,m⟩:=D.use X G g;exact Cal.of (RT F I len λeK A outer s H E C J=>⟨t,h f eK A outer s H E C J I.nd<|HF J,U⟩) b F.kp m
end
abbrev c1(V:V_):Prop:=c0 V/\ae3 V.P V.w V.K V.mg V.base 2 V.Ca ["self","count"] (mo V.Ca)
theorem d1(V:V_)(B:B_ V)(c:c0 V):c1 V:=⟨c,by obtain⟨f,fd,F,b,m⟩:=B.D0.use (ps:=["self","count"]) (by walk_at "b");exact⟨_,_,⟨B.mAPieces,m.at_,m.fn,B.mKPieces⟩,⟨_,rfl,W_ V 0 ["self","count"] F (Q1 B.xf) λ_ _ _ _ _ _ I hN J=>(qd<|P1 (qv 0)<|lH rfl rfl B.be rfl B.bf<|qv 1)⟩,b⟩⟩
abbrev c2(V:V_):Prop:=c1 V/\yS V.P V.w V.K V.mg V.base 1 V.Ca "head_of" ["self","place"] (iA V.Ca)
theorem d2(V:V_)(B:B_ V)(c:c1 V):c2 V:=⟨c,by obtain⟨f,fd,F,b,m⟩:=B.D1.use (ps:=["self","place"]) (by walk_at "b");exact⟨_,_,m,W_ V 0 ["self","place","here"] F (Q2 B.xf) λ_ _ _ _ _ _ J hN I=>(qa (S_ 2 hN<|qv 1)<|qa (gR p0 (N_ I (I_ (i6<|qv 0)<|qv 2)<|qv 2)<|qa (qH (i6<|qv 0) (qv 2)<|I_ (i6<|qv 0)<|I_ (i6<|qv 0)<|qv 2)<|qd<|S_ 2 hN<|I_ (i6<|qv 0)<|qv 2)<|qd<|qx<|qv 2),b⟩⟩
abbrev c3(V:V_):Prop:=c2 V/\yS V.P V.w V.K V.mg V.base 2 V.Ca "unite" ["self","p","q"] (mW V.Ca)
theorem d3(V:V_)(B:B_ V)(c:c2 V):c3 V:=⟨c,by obtain⟨f,fd,F,b,m⟩:=B.D2.use (ps:=["self","p","q"]) (by walk_at "b");exact⟨_,_,m,W_ V 1 ["self","p","q","first","second"] F (Q4 B.xf) λ_ _ _ _ _ _ I hN J=>(qa (S_ 3 hN<|vV (c.2.mono (by decide)) I B.cl_Pieces (qv 0)<|jv<|qv 1)<|qa (S_ 4 hN<|vV (c.2.mono (by decide)) I B.cl_Pieces (qv 0)<|jv<|qv 2)<|qa (qH (i6<|qv 0) (qv 3)<|qv 4)<|qd<|qx<|bO (Ig _ _ _ J) (qv 3) (qv 4)<|vf _),b⟩⟩
abbrev c4(V:V_):Prop:=c3 V/\IG V (gF)
theorem d4(V:V_)(B:B_ V)(c:c3 V):c4 V:=⟨c,M_ V 0 ["word"] B.hp B.D3 vG λ_ _ _ _ _ _ _ I hN J=>(qd<|qx<|bO (tI _ _ _) (J_ 0) (Px B.k_LEAF_KINDS rfl) (by with_unfolding_all rfl))⟩
abbrev c5(V:V_):Prop:=c4 V/\Gb V (eV)
theorem d5(V:V_)(B:B_ V)(c:c4 V):c5 V:=⟨c,M_ V _ _ B.hp B.D4 Rm<|(eI).2 V B.toB0_ ⟨⟩⟩
abbrev c6(V:V_):Prop:=c5 V/\Gc V (iB)
theorem d6(V:V_)(B:B_ V)(c:c5 V):c6 V:=⟨c,M_ V _ _ B.hp B.D5 Rk<|(l7 _).2 V B.toB0_ c.1.2⟩
abbrev c7(V:V_):Prop:=c6 V/\IH V (qB)
theorem d7(V:V_)(B:B_ V)(c:c6 V):c7 V:=⟨c,M_ V _ _ B.hp B.D6 Se<|(lg _).2 V B.toB0_ c.2⟩
abbrev c8(V:V_):Prop:=c7 V/\II V (ph)
theorem d8(V:V_)(B:B_ V)(c:c7 V):c8 V:=⟨c,M_ V _ _ B.hp B.D7 Sb<|(ix).2 V B.toB0_ ⟨⟩⟩
abbrev c9(V:V_):Prop:=c8 V/\IJ V (pS)
theorem d9(V:V_)(B:B_ V)(c:c8 V):c9 V:=⟨c,M_ V _ _ B.hp B.D8 Sf<|(nz _ _).2 V B.toB0_ ⟨c.1.2,c.2⟩⟩
abbrev gy(V:V_):Prop:=c9 V/\IK V (m8)
theorem d10(V:V_)(B:B_ V)(c:c9 V):gy V:=⟨c,M_ V _ _ B.hp B.D9 Ro<|(l8 _).2 V B.toB0_ c.1.1.1.1.2⟩
abbrev c11(V:V_):Prop:=gy V/\IL V (i4)
theorem TD(V:V_)(B:B_ V)(c:gy V):c11 V:=⟨c,M_ V _ _ B.hp B.D10 yo<|(gu _).2 V B.toB0_ c.1.1.1.1.2⟩
abbrev c12(V:V_):Prop:=c11 V/\Ge V (kK)
theorem TF(V:V_)(B:B_ V)(c:c11 V):c12 V:=⟨c,M_ V _ _ B.hp B.D11 SY<|(jM _ _).2 V B.toB0_ ⟨c.2,c.1.1.1.1.1.1.2⟩⟩
abbrev Gq(V:V_):Prop:=c12 V/\QC V (fi V.Ca)
theorem TH(V:V_)(B:B_ V)(c:c12 V):Gq V:=⟨c,M_ V 1 ["pieces","knots","place","head"] B.hp B.D12 vK λ_ _ _ _ _ _ _ I hN J=>(qa (bu (i:=3) hN rfl (Or.inr rfl)<|vV (c.1.1.1.1.1.1.1.1.1.1.2.mono (by decide)) I B.cl_Pieces (qv 0)<|jv<|qv 2)<|qd<|qx<|fS ["other"] (EW (by rfl)) rfl (xh<|C_ c.1.1.1.1.1.1.1.2 I<|jv<|qv 1) (gt Et (λ_ _ _ _=>Or.inl rfl) λ_ _ _ _=>rfl) (λ_ _ _ _=>aK<|E_ J (vV (c.1.1.1.1.1.1.1.1.1.1.2.mono (by decide)) I B.cl_Pieces (qv 0)<|jv<|qv 4)<|qv 3) λ_ _ _ _=>(qv 4))⟩
abbrev Gr(V:V_):Prop:=Gq V/\Gf V (ga V.Ca)
theorem TJ(V:V_)(B:B_ V)(c:Gq V):Gr V:=⟨c,M_ V 2 ["knots","edges","p","q","pieces","edge"] B.hp B.D13 SX λ_ _ _ _ _ _ _ I hN J=>(qa (S_ 4 hN<|P4 (c.1.1.1.1.1.1.1.1.1.1.1.1.2.mono (by decide)) I rfl B.me<|jv<|L_ B.ba<|qv 0)<|qa (vh p0 rfl (xh<|qv 1) (G_ 5 hN)<|qd<|zf<|vV (c.1.1.1.1.1.1.1.1.1.1.2.mono (by decide)) I B.cl_Pieces (qv 4)<|wg (J_ 5)<|J_ 5)<|qa (zv (E_ J (vV (c.1.1.1.1.1.1.1.1.1.1.1.2.mono (by decide)) I B.cl_Pieces (qv 4)<|jv<|qv 2)<|vV (c.1.1.1.1.1.1.1.1.1.1.1.2.mono (by decide)) I B.cl_Pieces (qv 4)<|jv<|qv 3) (qd<|qx lV) z9)<|qd<|qx<|zr<|wg (C_ c.2 I<|cS (qv 4) (qv 0)<|qv 2)<|C_ c.2 I<|cS (qv 4) (qv 0)<|qv 3)⟩
abbrev Gs(V:V_):Prop:=Gr V/\IM V (iS V.Ca)
theorem TK(V:V_)(B:B_ V)(c:Gr V):Gs V:=⟨c,M_ V _ _ B.hp B.D14 yn<|(df _ _ _ _).2 V B.toB0_ ⟨c.1.1.1.1.1.2,c.1.1.2,c.1.1.1.1.2,c.2⟩⟩
abbrev Gu(V:V_):Prop:=Gs V/\IP V (mF V.Ca)
theorem TL(V:V_)(B:B_ V)(c:Gs V):Gu V:=⟨c,M_ V _ _ B.hp B.D15 Ta<|(fZ _ _).2 V B.toB0_ ⟨c.1.1.1.2,c.1.2⟩⟩
abbrev Gv(V:V_):Prop:=Gu V/\QD V (di V.Ca)
theorem TM(V:V_)(B:B_ V)(c:Gu V):Gv V:=⟨c,M_ V _ _ B.hp B.D16 sE<|(mh _ _).2 V B.toB0_ ⟨c.1.2,c.2⟩⟩
abbrev Gw(V:V_):Prop:=Gv V/\IQ V (gB)
theorem TN(V:V_)(B:B_ V)(c:Gv V):Gw V:=⟨c,M_ V _ _ B.hp B.D17 uN<|(eS).2 V B.toB0_ ⟨⟩⟩
abbrev Gx(V:V_):Prop:=Gw V/\QH V (oi)
theorem TQ(V:V_)(B:B_ V)(c:Gw V):Gx V:=⟨c,M_ V _ _ B.hp B.D18 So<|(jI).2 V B.toB0_ ⟨⟩⟩
abbrev Gy(V:V_):Prop:=Gx V/\Gg V (kQ)
theorem TR(V:V_)(B:B_ V)(c:Gx V):Gy V:=⟨c,M_ V _ _ B.hp B.D19 Sq<|(jD).2 V B.toB0_ ⟨⟩⟩
abbrev Gz(V:V_):Prop:=Gy V/\IR V (qG)
theorem TU(V:V_)(B:B_ V)(c:Gy V):Gz V:=⟨c,M_ V _ _ B.hp B.D20 Q5<|(kR).2 V B.toB0_ ⟨⟩⟩
abbrev GA(V:V_):Prop:=Gz V/\IS V (mY)
theorem TX(V:V_)(B:B_ V)(c:Gz V):GA V:=⟨c,M_ V _ _ B.hp B.D21 Rx<|(rT).2 V B.toB0_ ⟨⟩⟩
abbrev GB(V:V_):Prop:=GA V/\QJ V (aJ 120)
theorem TY(V:V_)(B:B_ V)(c:GA V):GB V:=⟨c,R_ V _ _ B.hp B.D22 qY tL (λn=>(jK _).2 V B.toB0_ ⟨⟩ n) 120⟩
abbrev GC(V:V_):Prop:=GB V/\QK V (aR 120)
theorem TZ(V:V_)(B:B_ V)(c:GB V):GC V:=⟨c,R_ V _ _ B.hp B.D23 Q8 Q9 (λn=>(wP _).2 V B.toB0_ ⟨⟩ n) 120⟩
abbrev GD(V:V_):Prop:=GC V/\QL V (cK 120)
theorem T0(V:V_)(B:B_ V)(c:GC V):GD V:=⟨c,R_ V _ _ B.hp B.D24 l6 zS (λn=>(fO _).2 V B.toB0_ ⟨⟩ n) 120⟩
abbrev GF(V:V_):Prop:=GD V/\QM V (wn 48)
theorem T3(V:V_)(B:B_ V)(c:GD V):GF V:=⟨c,R_ V 122 [nh,"_law_word_here","_law_left","_law_right","_law_turn","_law_same","_law_low","_law_high"] B.hp B.D25 yO (yG (FS:=aR 120) λ_ _ _ h=>h) (λ_ _ I _ _ _ _ _ _ J hN U=>(qa (zv (E_ U (L_ B.ba<|qv 1) qf) (qa (zf<|ze (qv 0)<|jv<|C_ c.1.2 J<|jv<|qv 1)<|qa (zf<|ze (qv 0)<|jv<|qv 1)<|qd<|qx<|jb<|cS (zr<|cS jl (qj bC (L_ B.ba<|qv 0) qf)<|qj bC (L_ B.ba<|qv 0) qf) (qj bC (L_ B.ba<|qv 0) qf)<|qj bC (L_ B.ba<|qv 0) qf) z9)<|qa (S_ 2 hN<|C_ I J<|wg (qv 0)<|J_ 1)<|qa (S_ 3 hN<|C_ I J<|wg (qv 0)<|J_ 1)<|qa (zf<|ze (qv 0)<|jv<|zr<|cS (I_ (C_ c.1.2 J<|jv<|qv 1) qf) (J_ 2)<|J_ 3)<|qa (zf<|ze (qv 0)<|jv<|zr<|cS (J_ 1) (J_ 2)<|J_ 3)<|qa (uh (i:=4) (j:=5) rfl hN rfl rfl (by decide) rfl rfl (wg (qj bC (L_ B.ba<|qv 0) qf)<|qj bC (L_ B.ba<|qv 0) qf) rfl)<|qa (S_ 6 hN<|lM (E_ U (J_ 1) jl) (qv 4)<|qv 5)<|qa (S_ 7 hN<|lM (E_ U (J_ 1) jl) (qv 5)<|qv 4)<|qd<|qx<|jb<|cS (zr<|cS jl (qv 7)<|zr<|jr jl<|cS (qv 6) (J_ 2)<|J_ 3) (qv 4)<|qv 5)) 48⟩
abbrev GG(V:V_):Prop:=GF V/\IT V (qE)
theorem T4(V:V_)(B:B_ V)(c:GF V):GG V:=⟨c,M_ V _ _ B.hp B.D26 RB<|(Jf).2 V B.toB0_ ⟨⟩⟩
abbrev GH(V:V_):Prop:=GG V/\IU V (mR)
theorem T5(V:V_)(B:B_ V)(c:GG V):GH V:=⟨c,M_ V _ _ B.hp B.D27 RC<|(xL).2 V B.toB0_ ⟨⟩⟩
abbrev GI(V:V_):Prop:=GH V/\IV V (pV)
theorem T7(V:V_)(B:B_ V)(c:GH V):GI V:=⟨c,M_ V 170 [nh,"_law_forest","_law_one","_law_two","_law_first","_law_p","_law_word_here","_law_second","_law_q","_law_at","_law_end","_law_rule","_law_same","_law_ends"] B.hp B.D28 (RI (FS:=aR 120) (MS:=wn 48) (λ_ _ _ h=>h)<|Td (by decide) (by decide)) λ_ _ _ _ _ _ _ I hN J=>(qa (S_ 4 hN<|cQ (qv 1)<|jv<|qj jz (qv 3)<|L_ B.ba<|qv 1)<|qa (bu (i:=5) hN rfl (Or.inr rfl)<|I_ (J_ 4)<|qj jz (qj w9 (qv 3) qf)<|L_ B.ba<|J_ 4)<|qa (S_ 6 hN<|C_ c.1.1.1.1.1.2 I<|wg (qv 0)<|qv 5)<|qa (im (zr<|wg lV lV)<|aN rfl<|zg (G_ 7 hN)<|zg (cW (i:=8) hN rfl<|Or.inr rfl) kc)<|qa (vh p0 rfl (aC rfl B.bf<|jv<|L_ B.ba<|qv 1) (G_ 9 hN)<|qd<|vh p0 rfl (xh<|I_ (I_ (qv 1)<|qv 9) qf) (G_ 10 hN)<|qd<|zv (wc<|vq (lG<|qv 7)<|w4<|E_ J (C_ c.1.1.1.1.1.2 I<|wg (qv 0)<|qv 10)<|C_ c.1.1.1.1.2 I<|jv<|qv 6) (qd<|im (zr<|wg (I_ (qv 1)<|qv 9)<|qv 10)<|aN rfl<|zg (G_ 7 hN)<|zg (cW (i:=8) hN rfl<|Or.inr rfl) kc) z9)<|qa (zv (wc<|vq (lG<|qv 7)<|w4<|je Er (C_ c.1.1.1.2 I<|jv<|qv 6) qf<|vf _) (qa (zf<|ze (qv 1)<|jv<|qv 4)<|qd xK) z9)<|w5 (zv (lG<|qv 7) (qa (im (C_ c.1.1.2 I<|wg (qv 0)<|qv 6)<|P' rfl<|zg (G_ 11 hN)<|zg (cW (i:=8) hN rfl<|Or.inr rfl)<|zg (G_ 12 hN) kc)<|qd<|S_ 7 hN<|jb<|wg (qv 11)<|jb<|wg (qv 8)<|qv 12)<|qd<|zf<|y7 J (qv 1)<|jv<|qv 7)<|qa (eG ["_law_x"] (i:=13) hN rfl (Or.inl rfl) (EW (by rfl)) rfl (xh<|qj j4 (J_ 4)<|J_ 7) (gt Et (λ_ _ _ _=>Or.inl rfl) λ_ _ _ _=>rfl) (λ_ _ _ _=>aK<|je (fw _ _ _) (qv 14) (zr<|wg (qv 5)<|qv 8) (by with_unfolding_all rfl)) λ_ _ _ _=>(qv 14))<|qd<|zv (E_ J (qj jz (qv 2) qf) qf) (qd<|zf<|ze (qv 1)<|jv<|jb<|wg (zr<|jr jl<|jr (qv 5)<|cS (qv 8) (J_ 4)<|J_ 7)<|qv 13)<|qd<|zf<|ze (qv 1)<|jv<|jb<|wg (zr<|jr jl<|jr (qv 8)<|cS (qv 5) (J_ 7)<|J_ 4)<|qv 13)⟩
abbrev GJ(V:V_):Prop:=GI V/\IW V (lQ)
theorem T8(V:V_)(B:B_ V)(c:GI V):GJ V:=⟨c,M_ V _ _ B.hp B.D29 RK<|(xP _ _ _ _ _).2 V B.toB0_ ⟨c.1.1.1.1.1.1.1.1.2,c.1.1.1.1.1.1.1.2,c.1.2,c.1.1.2,c.2⟩⟩
abbrev GK(V:V_):Prop:=GJ V/\IX V (aw 120)
theorem T9(V:V_)(B:B_ V)(c:GJ V):GK V:=⟨c,R_ V _ _ B.hp B.D30 y0 yK (λn=>(fW _).2 V B.toB0_ ⟨⟩ n) 120⟩
abbrev GL(V:V_):Prop:=GK V/\QN V (pG)
theorem Ua(V:V_)(B:B_ V)(c:GK V):GL V:=⟨c,M_ V _ _ B.hp B.D31 SJ<|(Jt _).2 V B.toB0_ c.2⟩
abbrev GN(V:V_):Prop:=GL V/\Gh V (kE)
theorem Ub(V:V_)(B:B_ V)(c:GL V):GN V:=⟨c,M_ V 0 ["_law_web_here",nh,"_law_links","_law_cuts","_law_taken","_law_knot","_law_p","_law_q"] B.hp B.D32 SK λ_ _ _ _ _ _ _ J hN I=>(qa (im (qv 0)<|aN rfl<|zg (cW (i:=1) hN rfl<|Or.inr rfl)<|zg (G_ 2 hN)<|zg (G_ 3 hN) kc)<|qa (bu (i:=4) hN rfl (Or.inr rfl) xO)<|qa (vh p0 rfl (xh<|qv 1) (G_ 5 hN)<|qd<|zv (wc<|vq (af<|qv 5)<|w4<|E_ I (L_ B.ba<|qv 5) qf) (qa (gQ I (qv 4) (J_ 5) vn)<|qd<|gQ I (qv 4) (J_ 5) vn) z9)<|qa (vh p0 rfl (xh<|qv 3) (aN rfl<|zg (G_ 6 hN)<|zg (G_ 7 hN) kc)<|qa (gQ I (qv 4) (qv 6) vn)<|qd<|gQ I (qv 4) (qv 7) vn)<|qd<|RZ "_law_p'"<|qx<|fS ["_law_p"] (EW (by rfl)) rfl (aC rfl B.bf<|jv<|L_ B.ba<|qv 1) (gt Et (λ_ _ _ _=>Or.inl rfl) λ_ _ _ _=>rfl) (λ_ _ _ _=>aK<|wc<|vq (af<|I_ (qv 1)<|qv 8)<|w4<|je (Sw I) (qv 8) (qv 4) (by with_unfolding_all rfl)) λ_ _ _ _=>(qv 8))⟩
abbrev GO(V:V_):Prop:=GN V/\IY V (iR V.Pt)
theorem Uc(V:V_)(B:B_ V)(c:GN V):GO V:=⟨c,T_ V 1 [nh,"_law_seed","_law_ranks","_law_p","_law_knot","_law_rank"] B.hp B.D33 yk λ_ _ _ _ _ _ _ C I hN J=>(qa (bu (i:=2) hN rfl (Or.inr rfl)<|jb vt)<|qa (vh p0 rfl (ef rfl B.bg<|qv 0) (aN rfl<|zg (G_ 3 hN)<|zg (G_ 4 hN) kc)<|qa (S_ 5 hN<|qj jz (C_ c.1.1.1.1.1.1.1.1.1.1.1.1.2 I<|cS (qv 1) (qv 3) qf) qf)<|w5 (zv (E_ J (L_ B.ba<|qv 4) qf) (qd<|S_ 5 hN<|qj j4 (qj j4 (qv 5) qf)<|ay Ia rfl B.bi HG<|wg (I_ (qv 2)<|J_ 4)<|I_ (qv 2)<|J_ 4) z9)<|qd<|zf<|ze (qv 2)<|jv<|qv 5)<|qd<|qx<|RS rfl B.bh (lH rfl rfl B.be rfl B.bf<|L_ B.ba<|qv 0) ⟨rfl,rfl,rfl,by decide +kernel,rfl,rfl,by decide,by decide,by decide⟩ C (R6 I) rfl rfl rfl ⟨_,rfl,rfl⟩ rfl λ_ _ _ _ _ _ _=>rfl)⟩
abbrev GP(V:V_):Prop:=GO V/\IZ V (cH 120)
theorem Ud(V:V_)(B:B_ V)(c:GO V):GP V:=⟨c,R_ V _ _ B.hp B.D34 SA zB (λn=>(tQ _).2 V B.toB0_ ⟨⟩ n) 120⟩
abbrev GQ(V:V_):Prop:=GP V/\QP V (pO V.Pt)
theorem Ue(V:V_)(B:B_ V)(c:GP V):GQ V:=⟨c,M_ V _ _ B.hp B.D35 SO<|(Ju _ _ _).2 V B.toB0_ ⟨c.1.1.1.1.1.1.1.1.1.1.1.1.1.1.1.2,c.1.2,c.2⟩⟩
abbrev GR(V:V_):Prop:=GQ V/\I0 V (iZ)
theorem Uf(V:V_)(B:B_ V)(c:GQ V):GR V:=⟨c,M_ V _ _ B.hp B.D36 zM<|(gz).2 V B.toB0_ ⟨⟩⟩
abbrev GS(V:V_):Prop:=GR V/\Ft V (cA)
theorem Ug(V:V_)(B:B_ V)(c:GR V):GS V:=⟨c,M_ V _ _ B.hp B.D37 yP<|(f7).2 V B.toB0_ ⟨⟩⟩
abbrev GU(V:V_):Prop:=GS V/\QQ V (cL 4)
theorem Uh(V:V_)(B:B_ V)(c:GS V):GU V:=⟨c,R_ V _ _ B.hp B.D38 zL yQ (λn=>(sm _ _).2 V B.toB0_ c.2 n) 4⟩
abbrev GV(V:V_):Prop:=GU V/\QR V (qW)
theorem Ui(V:V_)(B:B_ V)(c:GU V):GV V:=⟨c,M_ V _ _ B.hp B.D39 Sg<|(jE).2 V B.toB0_ ⟨⟩⟩
abbrev GW(V:V_):Prop:=GV V/\QU V (qA)
theorem Uj(V:V_)(B:B_ V)(c:GV V):GW V:=⟨c,M_ V _ _ B.hp B.D40 Sr<|(iq _ _ _).2 V B.toB0_ ⟨c.1.1.1.1.1.1.1.1.1.1.1.1.1.1.1.1.1.1.1.1.2,c.1.1.1.1.1.1.1.1.1.1.2,c.1.1.1.1.1.1.1.1.1.1.1.1.1.1.1.1.1.1.1.1.1.1.2⟩⟩
abbrev GX(V:V_):Prop:=GW V/\QV V (pK)
theorem Uk(V:V_)(B:B_ V)(c:GW V):GX V:=⟨c,M_ V _ _ B.hp B.D41 Ts<|(JA _).2 V B.toB0_ c.1.1.1.1.1.1.1.1.2⟩
abbrev GY(V:V_):Prop:=GX V/\I9 V (i8)
theorem Ul(V:V_)(B:B_ V)(c:GX V):GY V:=⟨c,M_ V _ _ B.hp B.D42 zW<|(fT _).2 V B.toB0_ c.1.1.1.1.2⟩
abbrev GZ(V:V_):Prop:=GY V/\Ja V (lU)
theorem Um(V:V_)(B:B_ V)(c:GY V):GZ V:=⟨c,M_ V _ _ B.hp B.D43 Tu<|(wV _).2 V B.toB0_ c.2⟩
abbrev JB(V:V_):Prop:=GZ V/\QX V (gA)
theorem Uo(V:V_)(B:B_ V)(c:GZ V):JB V:=⟨c,M_ V _ _ B.hp B.D44 ux<|(o4 _ _ _ _).2 V B.toB0_ ⟨c.1.1.1.1.1.1.2,c.1.1.1.1.1.1.1.1.1.1.1.2,c.2,c.1.1.1.1.1.1.1.2⟩⟩
theorem dL(V:V_)(B:B_ V)(c:JB V){f:Addr}{fd:FuncData}(F:Fun V.K "law" "law" sK f fd):Fn3 V.P V.w V.K V.mg V.base 174 f fd [ng] (oy V.Pt lamQ):=
 W_ V 173 [ng,"_law_stir_here","_law_tree_here","_law_web_here","_law_handed","_law_found","_law_told"] F TB λ_ _ _ _ _ _ I hN J=>(qa (S_ 1 hN<|C_ c.1.1.1.1.1.1.1.1.1.1.1.1.1.1.1.1.1.1.1.1.1.1.1.1.1.1.2 I<|jv<|qv 0)<|qa (S_ 2 hN<|C_ c.1.1.1.1.1.1.1.1.1.2 I<|wg (C_ c.1.1.1.1.2 I<|cS (qv 0) (qv 1) qf)<|qv 1)<|qa (S_ 3 hN<|C_ c.1.1.1.2 I<|jv<|C_ c.1.1.1.1.1.1.1.1.1.1.1.1.1.2 I<|jv<|qv 2)<|qa (S_ 4 hN<|C_ c.1.1.1.1.1.2 I<|jv<|qv 3)<|qa (S_ 5 hN<|C_ c.1.1.1.1.1.1.1.1.1.1.1.1.1.1.1.1.1.1.1.1.1.1.1.1.1.1.1.1.2 I<|jv<|qv 4)<|qa (zv (wc<|gw (aM<|xa<|C_ c.1.1.1.1.1.1.2 I<|wg (qv 4)<|qv 3)<|dl<|aM<|xa<|vd .list rfl B.bb rfl B.be aa<|qv 5) (qd<|qx vn) z9)<|qa (zv (N_ J (bO (uA _ _ _ J) (qv 5) (jb vt)<|vf _)<|bO (uA _ _ _ J) (L_ B.ba<|J_ 3) qf<|vf _) (qd<|qx vn) z9)<|qa (vh p0 rfl (xh<|qv 5) (G_ 6 hN)<|qd<|zv (aM<|xa<|C_ c.2 I<|wg (qv 3)<|qv 6) (qd<|qx vn) z9)<|qd<|qx vn)
theorem all_mk{l:PySem.W.OpenLaw}{w:World}{K:Aj}{h:Heap}{mg:Str->Option Value}{fa:Addr}{I:Addr}{g:Option Addr}{j:Nat}{o:Array<|Option Value}{J U:Tok}{p:Addr}{Pt:Addr}(X:K.In h)(G:h.Ns mainGlobals mg)(r:mg "law"=some (.ref fa))
 (D0:cr K p "__init__" "Pieces.__init__" fV)
 (D1:cr K p "head_of" "Pieces.head_of" cD)
 (D2:cr K p "unite" "Pieces.unite" da)
 (D3:qz K "is_leaf" nv)
 (D4:qz K "places_there" bD)
 (D5:qz K "parts_of" ff)
 (D6:qz K "parts_in" fc)
 (D7:qz K "places_in" dW)
 (D8:qz K "ends_of" i0)
 (D9:qz K "boths_of" gI)
 (D10:qz K "part_edges" cb)
 (D11:qz K "all_edges" eF)
 (D12:qz K "piece_at" mZ)
 (D13:qz K "sides_by" lh)
 (D14:qz K "parted_boths" az)
 (D15:qz K "parted_cuts" bY)
 (D16:qz K "partings" fu)
 (D17:qz K "_law_cell_at" ax)
 (D18:qz K "_law_stir" dw)
 (D19:qz K "_law_pick" dq)
 (D20:qz K "_law_mix" fz)
 (D21:qz K "_law_name" eJ)
 (D22:qz K "_law_word" dh)
 (D23:qz K "_law_flip" dk)
 (D24:qz K "_law_weight" bv)
 (D25:qz K "_law_mirror" f8)
 (D26:qz K "_law_join" eO)
 (D27:qz K "_law_fold" dQ)
 (D28:qz K "_law_cut" mI)
 (D29:qz K "_law_tree" dY)
 (D30:qz K "_law_gather" bq)
 (D31:qz K "_law_web" gC)
 (D32:qz K "_law_open" jC)
 (D33:DefInT K "_law_order" s__law_order Pt)
 (D34:qz K "_law_moved" ce)
 (D35:qz K "_law_gapped" bj)
 (D36:qz K "_law_sides" cY)
 (D37:qz K "_law_number" bZ)
 (D38:qz K "_law_alike" cq)
 (D39:qz K "_law_copy" db)
 (D40:qz K "_law_sown" dR)
 (D41:qz K "_law_stripped" aZ)
 (D42:qz K "_law_rising" br)
 (D43:qz K "_law_apart" cX)
 (D44:qz K "_law_parts" dB)
 (D45:qz K "law" sK)
 (aLEAF_KINDS:PySem.W.nsIn K mainGlobals "LEAF_KINDS"=some (some<|.ref I))
 (lLEAF_KINDS:K.lookup I=some ⟨.type "tuple",g,.seq #[.str "plain" J,.str "turned" U] j,o⟩)
 (aCPieces:PySem.W.nsIn K mainGlobals "Pieces"=some (some<|.ref p))
 (clPieces:Cls K p)
 (mAPieces:PySem.W.makesIn K p=true)
 (mKPieces:PySem.W.keepIn K (.ref p)=true)
 (xf:L3.XFP K p)
 (zlist:PySem.W.nsIn K mainGlobals "list"=some none)
 (zrange:PySem.W.nsIn K mainGlobals "range"=some none)
 (zenumerate:PySem.W.nsIn K mainGlobals "enumerate"=some none)
 (zlen:PySem.W.nsIn K mainGlobals "len"=some none)
 (zisinstance:PySem.W.nsIn K mainGlobals "isinstance"=some none)
 (ztuple:PySem.W.nsIn K mainGlobals "tuple"=some none)
 (zsorted:PySem.W.nsIn K mainGlobals "sorted"=some none)
 (zmax:PySem.W.nsIn K mainGlobals "max"=some none)
 (zmin:PySem.W.nsIn K mainGlobals "min"=some none)
 (zint:PySem.W.nsIn K mainGlobals "int"=some none)
 (zbool:PySem.W.nsIn K mainGlobals "bool"=some none)
 (zstr:PySem.W.nsIn K mainGlobals "str"=some none):
 ∃fd:FuncData,(∀(s:Shared) (v:Value),BindsTo s fd ⟨[v],[]⟩ [(ng,v)])/\∀base:Heap,K.In base->base.Ns mainGlobals mg->bG l.prog w K mg base CX0 174 fa fd [ng] (spTopT lamQ K Pt):=by
 obtain⟨fL,kV,t,pm,an,C,T,aL,FL⟩:=D45.ex;have e:=r.symm.trans<|C3 X G aL;cases e;refine⟨PySem.W.fnOf "law" "law" (jy sK) (j7 sK) (qo sK) .none kV t pm an C T,λs v=>.of_eq rfl,λbase _ _=>?_⟩;have B:B_ ⟨l.prog,w,K,mg,base,Pt,p⟩:=⟨⟨Bo X G zlist,Bo X G zrange,Bo X G zenumerate,Bo X G zlen,Bo X G zisinstance,Bo X G ztuple,Bo X G zsorted,Bo X G zmax,Bo X G zmin,Bo X G zint,Bo X G zbool,Bo X G zstr,⟨I,C3 X G aLEAF_KINDS,λH=>⟨I,[V.str "plain",V.str "turned"],rfl,.inr ⟨_,_,_,lLEAF_KINDS,rfl,rfl,by show 2<=sizeLine;decide,.cons ⟨_,rfl⟩<|.cons ⟨_,rfl⟩<|.nil⟩,⟨_,_,rfl,rfl,⟨_,_,rfl,rfl,rfl⟩⟩⟩⟩⟩,⟨h,X,G⟩,D0,D1,D2,D3,D4,D5,D6,D7,D8,D9,D10,D11,D12,D13,D14,D15,D16,D17,D18,D19,D20,D21,D22,D23,D24,D25,D26,D27,D28,D29,D30,D31,D32,D33,D34,D35,D36,D37,D38,D39,D40,D41,D42,D43,D44,C3 X G aCPieces,clPieces,mAPieces,mKPieces,xf⟩;exact bG.imp (dL _ B (Uo _ B<|Um _ B<|Ul _ B<|Uk _ B<|Uj _ B<|Ui _ B<|Uh _ B<|Ug _ B<|Uf _ B<|Ue _ B<|Ud _ B<|Uc _ B<|Ub _ B<|Ua _ B<|T9 _ B<|T8 _ B<|T7 _ B<|T5 _ B<|T4 _ B<|T3 _ B<|T0 _ B<|TZ _ B<|TY _ B<|TX _ B<|TU _ B<|TR _ B<|TQ _ B<|TN _ B<|TM _ B<|TL _ B<|TK _ B<|TJ _ B<|TH _ B<|TF _ B<|TD _ B<|d10 _ B<|d9 _ B<|d8 _ B<|d7 _ B<|d6 _ B<|d5 _ B<|d4 _ B<|d3 _ B<|d2 _ B<|d1 _ B trivial) FL) λvs H Q E q=>RU q
theorem def_inT{K:Aj}{x:Str}{st:Stmt}{f Pt:Addr}{oc:Value}{od an:Option Addr}{mv:Array<|Option Value}{kV hE pm eK ct:Value}(a:PySem.W.nsIn K mainGlobals x=some (some<|.ref f))
 (l:K.lookup f=some ⟨oc,od,.func<|PySem.W.fnOf x x (jy st) (j7 st) (qo st) .none kV hE pm an eK ct,mv⟩) (c:PySem.W.codeIn K eK x=true) (k:PySem.W.keepIn K (.ref f)=true) (C:yg K eK Pt):DefInT K x st Pt:=
 ⟨f,kV,hE,pm,an,eK,ct,a,⟨⟨oc,od,kV,hE,pm,an,eK,ct,mv,rfl,l,c,C⟩,k⟩⟩
end K42
namespace H42
noncomputable section
open PySem PySem.W PySem.W.X L2 L3 PyProof.Rows
abbrev rr:=PySem.Challenge.rw_oncewise_k42_some_place_parts
abbrev p:Program:=PySem.Challenge.pw_oncewise_k42_some_place_parts
abbrev top:=L3.top
abbrev yZ(i k:Nat):Stmt:=(kJ<|top i).getD k<|.Pass ⟨0,0,0,0⟩
abbrev s(x:String):Str:=Str.ofString x
noncomputable abbrev S (x:String) (t:Tok):Value:=.str (Str.ofString x) t
noncomputable abbrev I (i:Int) (t:Tok):Value:=.int i t
noncomputable abbrev R (a:Addr):Value:=.ref a
abbrev E(P:Params)(k:String)(t:Tok)(v:Value):DictEntry:=⟨PyData.keyHash P<|Str.ofString k,.str (Str.ofString k) t,v⟩
noncomputable abbrev O (c:Value) (d:Data):Obj:=⟨c,none,d,#[]⟩
abbrev FN(n q:String)(st:Stmt)(I kV hE pm:Value)(an:Option Addr)(cd ct:Value):FuncData:=fnOf (Str.ofString n) (Str.ofString q) (jy st) (j7 st) (qo st) I kV hE pm an cd ct
abbrev FG(n q:String)(st:Stmt):FuncData:={ fnOf (Str.ofString n) (Str.ofString q) (jy st) (j7 st) (qo st) .none .none .none .none none .none .none with globals:=0 }
abbrev tu(l:Array Value):Obj:=O (.type "tuple")<|.seq l 0
abbrev fo(f:FuncData):Obj:=O (.type "function")<|.func f
abbrev go(f:FuncData):Obj:=O .none<|.func f
abbrev co(n q:String)(t l a b c J v:Nat)(o:Bool)(m k:Nat)(x y z u:Value)(d:Nat):Obj:=O (.type "code")<|.fields #[S n t,S q<|t+1,S "/claim/cut.py"<|t+2,I l 0,I a 0,I b 0,I c 0,I J 0,R v,.bool o,I m 0,R k,x,y,z,u,I d 0,I l 0,S "/claim/cut.py"<|d+1]
abbrev gK:Value:=S "law_oncewise_k42_some_place_parts" 356
abbrev A':Value:=S "oncewise.wayback" 304
abbrev Fa:Value:=S "oncewise.webs" 250
abbrev JC:Value:=S "oncewise.shrinking" 290
abbrev fX(n:String)(i:Nat)(m:Value)(r:Nat):Obj:=fo<|FN n n (top i) .none .none .none m none (R r) .none
abbrev gX(n:String)(i:Nat):Obj:=go<|FG n n<|top i
abbrev cF(n:String)(t l a v d:Nat):Obj:=co n n t l a 0 0 3 v true 181 (v+1) .none (R<|v+2) (R<|v+3) (R<|v+4) d
abbrev cC(n:String)(t l v d:Nat):Obj:=co n n t l 0 0 0 0 v false 181 (v+1) .none .none .none .none d
abbrev fR(a b:Nat):Obj:=⟨.type "frame",none,.plain,#[some<|R a,some<|R 3,some<|R b,none,some<|S "oncewise.pieces" 187,none,some<|R 0]⟩
abbrev bI(a:Nat):Obj:=O (.type "builtin_function_or_method")<|.fields #[.builtin "object.__init_subclass__",R a]
abbrev sU(a:Nat):Obj:=O (.type "super")<|.fields #[R a,R a,R a]
abbrev Ob:=Params->Obj
def ev{α:Type}:Bool->List α->List α
 |_,[]=>[]
 |true,x::r=>x::ev false r
 |false,_::r=>ev true r
def bt:Nat->List Obj->BT
 |0,_=>.nil
 |_,[]=>.nil
 |n+1,x::r=>.node x (bt n<|ev true r)<|bt n<|ev false r
def env0:Env:={ scope:=p.main.scope,locals:=mainNs,globals:=mainNs,cells:=[],code:=.ref 13,frame:=some 14 }
abbrev cE:Code:=.body (behindTheImports p) env0
abbrev q0:Pos:=⟨0,0,0,0⟩
abbrev an:Option Value:=some<|.ref 6
abbrev Pc(n:Nat)(S I:World->OsState->SharedT)(l:List Stmt)(q J:Pos)(w:World):Prop:=(λos=>segRunT treeTable p w 11 an 1 n (S w os)<|piecesOf l env0 cE q [topFrame q0])=λos=>some (Flow.next,I w os,cE,J)
abbrev b0:=PySem.W.boot_o_0
abbrev b1:=PySem.W.boot_o_1
abbrev b2:=PySem.W.boot_o_2
abbrev b3:=PySem.W.boot_o_3
abbrev b4:=PySem.W.boot_o_4
abbrev b5:=PySem.W.boot_o_5
abbrev b6:=PySem.W.boot_o_6
abbrev b7:=PySem.W.boot_o_7
abbrev b8:=PySem.W.boot_o_8
abbrev b9:=PySem.W.boot_o_9
abbrev Fw:=PySem.W.boot_o_10
def v5:Ob:=λ_=>tu #[]
def a8:Ob:=λ_=>O .none<|.fields #[]
def Fx:Ob:=λ_=>cC "<module>" 182 1 11 185
def G1:Ob:=λ_=>⟨(.type "frame"),none,.plain,#[(some<|R 13),(some<|R 3),(some<|R 3),none,(some<|S "__main__" 164),none,(some<|R 0)]⟩
def JD:Ob:=λ_=>O (.type "getset_descriptor")<|.fields #[S "__weakref__" 233,R 45,(.builtin "ExceptionGroup.__weakref__"),.none]
def JE:Ob:=λ_=>fo<|FN "head_of" "Pieces.head_of" (yZ 1 1) .none .none .none (S "oncewise.pieces" 187) none (R 34) .none
def JF:Ob:=λ_=>co "__init__" "Pieces.__init__" 201 4 2 0 0 3 22 true 181 23 .none (R 24) (R 25) (R 26) 206
def JG:Ob:=λ_=>co "unite" "Pieces.unite" 218 14 3 0 0 3 36 true 181 37 .none (R 38) (R 39) (R 40) 226
def JH:Ob:=λ_=>fo<|FN "is_leaf" "is_leaf" (top 4) .none .none .none (S "oncewise.words" 238) none (R 56) .none
def JI:Ob:=λ_=>⟨(.type "type"),none,(.cls<|ClassData.mk (s "Pieces") [(.type "object")] [R 45,(.type "object")] 44 (s "Pieces") true [] [] false none false),#[none,none,(some<|S "Pieces" 189),(some<|S "Pieces" 197),(some<|.builtin "object.__new__"),(some<|.bool true)]⟩
def JJ:Ob:=λ_=>co "places_there" "places_there" 252 24 1 0 0 3 58 true 181 59 .none .none .none (R 60) 255
def JK:Ob:=λ_=>cF "is_leaf" 243 21 1 51 247
def JL:Ob:=λ_=>fo<|FN "__init__" "Pieces.__init__" (yZ 1 0) .none .none .none (S "oncewise.pieces" 187) none (R 27) .none
def JM:Ob:=λP=>O (.type "dict")<|.dict #[(E P "__module__" 196<|S "oncewise.pieces" 187),(E P "__firstlineno__" 200<|I 2 199),(E P "__init__" 208<|R 28),(E P "head_of" 217<|R 35),(E P "unite" 228<|R 42),(E P "__static_attributes__" 230<|R 43),(E P "__dict__" 232<|R 46),(E P "__weakref__" 234<|R 47),(E P "__doc__" 235 .none)] 4
def JN:Ob:=λ_=>co "head_of" "Pieces.head_of" 209 7 2 0 0 3 29 true 181 30 .none (R 31) (R 32) (R 33) 215
def JO:Ob:=λ_=>tu #[S "plain" 240,S "turned" 241]
def JP:Ob:=λ_=>fo<|FN "unite" "Pieces.unite" (yZ 1 2) .none .none .none (S "oncewise.pieces" 187) none (R 41) .none
def JQ:Ob:=λ_=>O (.type "getset_descriptor")<|.fields #[S "__dict__" 231,R 45,(.builtin "function.__dict__"),(.builtin "function.__dict__#set")]
def JR:Ob:=λ_=>fX "places_there" 6 Fa 61
def JS:Ob:=λ_=>cF "partings" 349 85 1 130 353
def JT:Ob:=λ_=>co "ends_of" "ends_of" 284 41 1 0 0 3 84 true 181 85 .none .none .none (R 86) 287
def JU:Ob:=λ_=>fX "places_in" 9 Fa 82
def JV:Ob:=λ_=>cF "parts_in" 265 30 1 70 271
def JW:Ob:=λ_=>fX "parted_cuts" 19 A' 128
def JX:Ob:=λ_=>co "part_edges" "part_edges" 298 48 2 0 0 3 94 true 181 95 .none .none .none (R 96) 301
def JY:Ob:=λ_=>fX "all_edges" 15 A' 104
def JZ:Ob:=λ_=>co "parted_boths" "parted_boths" 331 66 1 0 0 3 118 true 181 119 .none .none .none (R 120) 334
def J0:Ob:=λ_=>fX "parts_of" 7 Fa 68
def J1:Ob:=λ_=>fX "sides_by" 17 A' 116
def J2:Ob:=λ_=>co "piece_at" "piece_at" 313 56 3 0 0 3 106 true 181 107 .none .none .none (R 108) 316
def J3:Ob:=λ_=>fX "boths_of" 12 JC 92
def J4:Ob:=λ_=>cF "parted_cuts" 337 77 1 123 346
def J5:Ob:=λ_=>fX "partings" 20 A' 135
def J6:Ob:=λ_=>cF "all_edges" 306 54 1 99 310
def J7:Ob:=λ_=>fX "ends_of" 10 Fa 87
def J8:Ob:=λ_=>cF "parts_of" 258 26 1 63 262
def J9:Ob:=λ_=>cF "sides_by" 319 59 4 111 328
def J':Ob:=λ_=>fX "parts_in" 8 Fa 75
def Ka:Ob:=λ_=>co "boths_of" "boths_of" 292 46 1 0 0 3 89 true 181 90 .none .none .none (R 91) 295
def Kb:Ob:=λ_=>fX "part_edges" 13 JC 97
def Kc:Ob:=λ_=>cF "places_in" 274 35 1 77 281
def Kd:Ob:=λ_=>fX "parted_boths" 18 A' 121
def Ke:Ob:=λ_=>fX "piece_at" 16 A' 109
def Kf:Ob:=λ_=>fX "_law_cell_at" 22 gK 142
def Kg:Ob:=λ_=>cF "_law_word" 399 110 2 170 405
def Kh:Ob:=λ_=>fX "_law_flip" 28 gK 182
def Ki:Ob:=λ_=>cF "_law_mix" 384 99 3 158 390
def Kj:Ob:=λ_=>fX "_law_fold" 32 gK 208
def Kk:Ob:=λ_=>co "_law_join" "_law_join" 437 137 4 0 0 3 198 true 181 199 .none .none .none (R 200) 440
def Kl:Ob:=λ_=>fX "_law_name" 26 gK 168
def Km:Ob:=λ_=>fX "_law_mirror" 30 gK 196
def Ko:Ob:=λ_=>cF "_law_stir" 366 92 1 144 373
def Kp:Ob:=λ_=>co "_law_cut" "_law_cut" 455 153 4 0 0 3 210 true 181 211 .none .none .none (R 212) 458
def Kq:Ob:=λ_=>fX "_law_pick" 24 gK 156
def Kr:Ob:=λ_=>fX "_law_tree" 34 gK 220
def Ks:Ob:=λ_=>cF "_law_weight" 416 120 1 184 420
def Kt:Ob:=λ_=>cF "_law_fold" 443 145 4 203 452
def Ku:Ob:=λ_=>fX "_law_word" 27 gK 175
def Kv:Ob:=λ_=>co "_law_name" "_law_name" 393 101 2 0 0 3 165 true 181 166 .none .none .none (R 167) 396
def Kw:Ob:=λ_=>cF "_law_mirror" 423 124 2 191 434
def Kx:Ob:=λ_=>fX "_law_mix" 25 gK 163
def Ky:Ob:=λ_=>cF "_law_pick" 376 97 2 151 381
def Kz:Ob:=λ_=>cF "_law_tree" 461 175 3 215 475
def KA:Ob:=λ_=>fX "_law_join" 31 gK 201
def KC:Ob:=λ_=>fX "_law_stir" 23 gK 149
def KE:Ob:=λ_=>fX "_law_cut" 33 gK 213
def KG:Ob:=λ_=>cF "_law_flip" 408 115 1 177 413
def KH:Ob:=λ_=>cF "_law_cell_at" 358 88 2 137 363
def KI:Ob:=λ_=>fX "_law_weight" 29 gK 189
def KJ:Ob:=λ_=>fX "_law_sides" 42 gK 270
def KL:Ob:=λ_=>co "_law_open" "_law_open" 497 217 1 0 0 3 236 true 181 237 .none .none .none (R 238) 500
def KN:Ob:=λ_=>fX "_law_order" 38 gK 246
def KO:Ob:=λ_=>fX "_law_gapped" 40 gK 258
def KP:Ob:=λ_=>cF "_law_copy" 569 296 1 286 573
def KQ:Ob:=λ_=>cF "_law_gather" 478 204 3 222 485
def KR:Ob:=λ_=>fX "_law_sown" 46 gK 298
def KS:Ob:=λ_=>fX "_law_web" 36 gK 234
def KU:Ob:=λ_=>co "_law_moved" "_law_moved" 515 236 2 0 0 3 248 true 181 249 .none .none .none (R 250) 518
def KY:Ob:=λ_=>cF "_law_stripped" 586 303 1 300 594
def KZ:Ob:=λ_=>cF "_law_number" 553 277 1 272 557
def K1:Ob:=λ_=>fX "_law_alike" 44 gK 284
def K2:Ob:=λ_=>fX "_law_open" 37 gK 239
def K3:Ob:=λ_=>fX "_law_copy" 45 gK 291
def K4:Ob:=λ_=>fX "_law_gather" 35 gK 227
def K5:Ob:=λ_=>cF "_law_alike" 560 279 2 279 566
def K6:Ob:=λ_=>fX "_law_moved" 39 gK 251
def K7:Ob:=λ_=>cF "_law_gapped" 521 242 2 253 534
def K8:Ob:=λ_=>fX "_law_stripped" 47 gK 305
def K9:Ob:=λ_=>cF "_law_sown" 576 298 3 293 583
def K_:Ob:=λ_=>cF "_law_web" 488 212 1 229 494
def K':Ob:=λ_=>fX "_law_number" 43 gK 277
def G4:Ob:=λ_=>cF "_law_order" 503 228 2 241 512
def La:Ob:=λ_=>cF "_law_sides" 543 270 2 265 550
def Lb:Ob:=λP=>O (.type "dict")<|.dict #[(E P "__name__" 165<|S "law_oncewise_k42_some_place_parts" 356),(E P "__doc__" 166 .none),(E P "__package__" 167 .none),(E P "__loader__" 168<|.builtin "__main__.__loader__#opaque"),(E P "__spec__" 169 .none),(E P "__annotations__" 170<|R 6),(E P "__builtins__" 171<|R 4),(E P "__file__" 173<|S "/claim/cut.py" 172),(E P "__cached__" 174 .none),(E P "Pieces" 237<|R 45),(E P "LEAF_KINDS" 242<|R 50),(E P "is_leaf" 249<|R 57),(E P "places_there" 257<|R 62),(E P "parts_of" 264<|R 69),(E P "parts_in" 273<|R 76),(E P "places_in" 283<|R 83),(E P "ends_of" 289<|R 88),(E P "boths_of" 297<|R 93),(E P "part_edges" 303<|R 98),(E P "all_edges" 312<|R 105),(E P "piece_at" 318<|R 110),(E P "sides_by" 330<|R 117),(E P "parted_boths" 336<|R 122),(E P "parted_cuts" 348<|R 129),(E P "partings" 355<|R 136),(E P "_law_cell_at" 365<|R 143),(E P "_law_stir" 375<|R 150),(E P "_law_pick" 383<|R 157),(E P "_law_mix" 392<|R 164),(E P "_law_name" 398<|R 169),(E P "_law_word" 407<|R 176),(E P "_law_flip" 415<|R 183),(E P "_law_weight" 422<|R 190),(E P "_law_mirror" 436<|R 197),(E P "_law_join" 442<|R 202),(E P "_law_fold" 454<|R 209),(E P "_law_cut" 460<|R 214),(E P "_law_tree" 477<|R 221),(E P "_law_gather" 487<|R 228),(E P "_law_web" 496<|R 235),(E P "_law_open" 502<|R 240),(E P "_law_order" 514<|R 247),(E P "_law_moved" 520<|R 252),(E P "_law_gapped" 536<|R 259),(E P "_law_reach" 542<|R 264),(E P "_law_sides" 552<|R 271),(E P "_law_number" 559<|R 278),(E P "_law_alike" 568<|R 285),(E P "_law_copy" 575<|R 292),(E P "_law_sown" 585<|R 299),(E P "_law_stripped" 596<|R 306),(E P "_law_rising" 604<|R 313),(E P "_law_apart" 610<|R 318),(E P "_law_parts" 616<|R 323),(E P "law" 629<|R 330)] 55
def Lc:Ob:=λ_=>fX "_law_parts" 50 gK 322
def Ld:Ob:=λ_=>cF "law" 617 345 1 324 627
def Le:Ob:=λ_=>fX "_law_rising" 48 gK 312
def Lf:Ob:=λ_=>co "_law_apart" "_law_apart" 605 318 6 0 0 3 314 true 181 315 .none .none .none (R 316) 608
def Lg:Ob:=λ_=>cF "_law_rising" 597 311 1 307 602
def Lh:Ob:=λ_=>co "_law_parts" "_law_parts" 611 330 2 0 0 3 319 true 181 320 .none .none .none (R 321) 614
def Li:Ob:=λ_=>fX "law" 51 gK 329
def Lj:Ob:=λ_=>fX "_law_apart" 49 gK 317
def atn:List Ob:=[b0,b1,b2,b3,b4,b5,b6,b7,b8,b9,Fw,v5,a8,Fx,G1]
def aoz:List Ob:=[b0,b1,b2,Lb,b4,b5,b6,b7,b8,b9,Fw,v5,λ_=>O .none<|.fields #[I 2 0,I 0 0,R 20,I 21 0,I 0 0,R 56,I 24 0,I 0 0,R 61,I 26 0,I 0 0,R 68,I 30 0,I 0 0,R 75,I 35 0,I 0 0,R 82,I 41 0,I 0 0,R 87,I 46 0,I 0 0,R 92,I 48 0,I 0 0,R 97,I 54 0,I 0 0,R 104,I 56 0,I 0 0,R 109,I 59 0,I 0 0,R 116,I 66 0,I 0 0,R 121,I 77 0,I 0 0,R 128,I 85 0,I 0 0,R 135,I 88 0,I 0 0,R 142,I 92 0,I 0 0,R 149,I 97 0,I 0 0,R 156,I 99 0,I 0 0,R 163,I 101 0,I 0 0,R 168,I 110 0,I 0 0,R 175,I 115 0,I 0 0,R 182,I 120 0,I 0 0,R 189,I 124 0,I 0 0,R 196,I 137 0,I 0 0,R 201,I 145 0,I 0 0,R 208,I 153 0,I 0 0,R 213,I 175 0,I 0 0,R 220,I 204 0,I 0 0,R 227,I 212 0,I 0 0,R 234,I 217 0,I 0 0,R 239,I 228 0,I 0 0,R 246,I 236 0,I 0 0,R 251,I 242 0,I 0 0,R 258,I 257 0,I 0 0,R 263,I 270 0,I 0 0,R 270,I 277 0,I 0 0,R 277,I 279 0,I 0 0,R 284,I 296 0,I 0 0,R 291,I 298 0,I 0 0,R 298,I 303 0,I 0 0,R 305,I 311 0,I 0 0,R 312,I 318 0,I 0 0,R 317,I 330 0,I 0 0,R 322,I 345 0,I 0 0,R 329],Fx,G1,v5,λ_=>O (.type "builtin_function_or_method")<|.fields #[(.builtin "type.__prepare__"),(.type "type")],λP=>O (.type "dict")<|.dict #[(E P "__module__" 196<|S "oncewise.pieces" 187),(E P "__qualname__" 198<|S "Pieces" 197),(E P "__firstlineno__" 200<|I 2 199),(E P "__init__" 208<|R 28),(E P "head_of" 217<|R 35),(E P "unite" 228<|R 42),(E P "__static_attributes__" 230<|R 43)] 7,v5,λ_=>O .none<|.fields #[I 4 0,I 4 0,R 27,I 7 0,I 4 0,R 34,I 14 0,I 4 0,R 41],λ_=>cC "Pieces" 191 2 18 194,λ_=>fR 20 17,v5,a8,λ_=>tu #[S "self" 204,S "count" 205],v5,λ_=>go<|FG "__init__" "Pieces.__init__"<|yZ 1 0,JF,JL,v5,a8,λ_=>tu #[S "self" 212,S "place" 213,S "here" 214],v5,λ_=>go<|FG "head_of" "Pieces.head_of"<|yZ 1 1,JN,JE,v5,a8,λ_=>tu #[S "self" 221,S "p" 222,S "q" 223,S "first" 224,S "second" 225],v5,λ_=>go<|FG "unite" "Pieces.unite"<|yZ 1 2,JG,JP,λ_=>tu #[S "heads" 229],JM,JI,JQ,JD,λ_=>sU 45,λ_=>bI 45,JO,v5,a8,λ_=>tu #[S "word" 246],v5,λ_=>gX "is_leaf" 4,JK,JH,v5,a8,λ_=>gX "places_there" 6,JJ,JR,v5,a8,λ_=>tu #[S "knot" 261],v5,λ_=>gX "parts_of" 7,J8,J0,v5,a8,λ_=>tu #[S "knots" 268,S "parts" 269,S "knot" 270],v5,λ_=>gX "parts_in" 8,JV,J',v5,a8,λ_=>tu #[S "pairs" 277,S "places" 278,S "p" 279,S "q" 280],v5,λ_=>gX "places_in" 9,Kc,JU,v5,a8,λ_=>gX "ends_of" 10,JT,J7,v5,a8,λ_=>gX "boths_of" 12,Ka,J3,v5,a8,λ_=>gX "part_edges" 13,JX,Kb,v5,a8,λ_=>tu #[S "web" 309],v5,λ_=>gX "all_edges" 15,J6,JY,v5,a8,λ_=>gX "piece_at" 16,J2,Ke,v5,a8,λ_=>tu #[S "knots" 322,S "edges" 323,S "p" 324,S "q" 325,S "pieces" 326,S "edge" 327],v5,λ_=>gX "sides_by" 17,J9,J1,v5,a8,λ_=>gX "parted_boths" 18,JZ,Kd,v5,a8,λ_=>tu #[S "web" 340,S "edges" 341,S "parted" 342,S "number" 343,S "cut" 344,S "sides" 345],v5,λ_=>gX "parted_cuts" 19,J4,JW,v5,a8,λ_=>tu #[S "web" 352],v5,λ_=>gX "partings" 20,JS,J5,v5,a8,λ_=>tu #[S "_law_script" 361,S "_law_k" 362],v5,λ_=>gX "_law_cell_at" 22,KH,Kf,v5,a8,λ_=>tu #[S "_law_script" 369,S "_law_total" 370,S "_law_k" 371,S "_law_cell" 372],v5,λ_=>gX "_law_stir" 23,Ko,KC,v5,a8,λ_=>tu #[S "_law_stir_here" 379,S "_law_factor" 380],v5,λ_=>gX "_law_pick" 24,Ky,Kq,v5,a8,λ_=>tu #[S "_law_cell" 387,S "_law_k" 388,S "_law_factor" 389],v5,λ_=>gX "_law_mix" 25,Ki,Kx,v5,a8,λ_=>gX "_law_name" 26,Kv,Kl,v5,a8,λ_=>tu #[S "_law_knots" 402,S "_law_p" 403,S "_law_knot" 404],v5,λ_=>gX "_law_word" 27,Kg,Ku,v5,a8,λ_=>tu #[S "_law_word_here" 411,S "_law_sides_here" 412],v5,λ_=>gX "_law_flip" 28,KG,Kh,v5,a8,λ_=>tu #[S "_law_word_here" 419],v5,λ_=>gX "_law_weight" 29,Ks,KI,v5,a8,λ_=>tu #[S "_law_knots" 426,S "_law_word_here" 427,S "_law_left" 428,S "_law_right" 429,S "_law_turn" 430,S "_law_same" 431,S "_law_low" 432,S "_law_high" 433],v5,λ_=>gX "_law_mirror" 30,Kw,Km,v5,a8,λ_=>gX "_law_join" 31,Kk,KA,v5,a8,λ_=>tu #[S "_law_knots" 446,S "_law_tree_here" 447,S "_law_one" 448,S "_law_two" 449,S "_law_left" 450,S "_law_right" 451],v5,λ_=>gX "_law_fold" 32,Kt,Kj,v5,a8,λ_=>gX "_law_cut" 33,Kp,KE,v5,a8,λ_=>tu #[S "_law_cells" 464,S "_law_seed" 465,S "_law_room" 466,S "_law_knots" 467,S "_law_forest" 468,S "_law_k" 469,S "_law_cell" 470,S "_law_one" 471,S "_law_two" 472,S "_law_deed" 473,S "_law_at" 474],v5,λ_=>gX "_law_tree" 34,Kz,Kr,v5,a8,λ_=>tu #[S "_law_rule" 481,S "_law_links" 482,S "_law_cuts" 483,S "_law_arm" 484],v5,λ_=>gX "_law_gather" 35,KQ,K4,v5,a8,λ_=>tu #[S "_law_tree_here" 491,S "_law_links" 492,S "_law_cuts" 493],v5,λ_=>gX "_law_web" 36,K_,KS,v5,a8,λ_=>gX "_law_open" 37,KL,K2,v5,a8,λ_=>tu #[S "_law_knots" 506,S "_law_seed" 507,S "_law_p" 508,S "_law_knot" 509,S "_law_rank" 510],λ_=>tu #[S "_law_ranks" 511],λ_=>gX "_law_order" 38,G4,KN,v5,a8,λ_=>gX "_law_moved" 39,KU,K6,v5,a8,λ_=>tu #[S "_law_tree_here" 524,S "_law_stir_here" 525,S "_law_number_here" 526,S "_law_gap" 527,S "_law_offset" 528,S "_law_at" 529,S "_law_made" 530,S "_law_k" 531,S "_law_p" 532,S "_law_knot" 533],v5,λ_=>gX "_law_gapped" 40,K7,KO,v5,a8,λ_=>gX "_law_reach" 41,λ_=>co "_law_reach" "_law_reach" 537 257 3 0 0 3 260 true 181 261 .none .none .none (R 262) 540,λ_=>fX "_law_reach" 41 gK 263,v5,a8,λ_=>tu #[S "_law_knots" 546,S "_law_out" 547,S "_law_row" 548,S "_law_r" 549],v5,λ_=>gX "_law_sides" 42,La,KJ,v5,a8,λ_=>tu #[S "_law_x" 556],v5,λ_=>gX "_law_number" 43,KZ,K',v5,a8,λ_=>tu #[S "_law_found" 563,S "_law_due" 564,S "_law_k" 565],v5,λ_=>gX "_law_alike" 44,K5,K1,v5,a8,λ_=>tu #[S "_law_web_here" 572],v5,λ_=>gX "_law_copy" 45,KP,K3,v5,a8,λ_=>tu #[S "_law_script" 579,S "_law_stir_here" 580,S "_law_wide" 581,S "_law_room" 582],v5,λ_=>gX "_law_sown" 46,K9,KR,v5,a8,λ_=>tu #[S "_law_web_here" 589,S "_law_knots" 590,S "_law_links" 591,S "_law_cuts" 592,S "_law_r" 593],v5,λ_=>gX "_law_stripped" 47,KY,K8,v5,a8,λ_=>tu #[S "_law_row" 600,S "_law_k" 601],v5,λ_=>gX "_law_rising" 48,Lg,Le,v5,a8,λ_=>gX "_law_apart" 49,Lf,Lj,v5,a8,λ_=>gX "_law_parts" 50,Lh,Lc,v5,a8,λ_=>tu #[S "_law_script" 620,S "_law_stir_here" 621,S "_law_tree_here" 622,S "_law_web_here" 623,S "_law_handed" 624,S "_law_found" 625,S "_law_told" 626],v5,λ_=>gX "law" 51,Ld,Li]
def ash:List Ob:=[b0,b1,b2,b3,b4,b5,b6,b7,b8,b9,Fw,v5,a8,Fx,G1]
def atw:List Ob:=aoz
def Uq(P:Params):Heap:=⟨⟨atn.map (· P)⟩,{}⟩
def Fy(P:Params):Heap:=⟨⟨aoz.map (· P)⟩,{}⟩
def Ur(P:Params):BT:=bt 20 (ash.map (· P))
def Us(P:Params):BT:=bt 20 (atw.map (· P))
def sA(w:World)(os:OsState):Shared:=⟨Uq w.params,#[],{},187,os⟩
def sZ(w:World)(os:OsState):Shared:=⟨Fy w.params,#[],{},630,os⟩
def Lk(w:World)(os:OsState):SharedT:=⟨Ur w.params,15,{},#[],{},187,os⟩
def h_(w:World)(os:OsState):SharedT:=⟨Us w.params,331,{},#[],{},630,os⟩
def G5:List Stmt:=((behindTheImports p).drop 0).take 52
theorem Ut(w:World):(λos=>topGo treeTable p w 11 an 12 ⟨boot_heap w.params,#[],boot_drawn,boot_toks,os⟩<|topStub p)=λos=>some (sA w os,⟨denote treeTable cE,cE,⟨0,0,0,0⟩,[topFrame q0]⟩):=by kernel_rfl
theorem Uu(w:World):(λos=>segRun treeTable p w 11 an 1 1 (sA w os)<|blockOf (behindTheImports p) env0 cE ⟨0,0,0,0⟩ [topFrame q0])=λos=>some (.next,(Lk w os).abs,cE,⟨0,0,0,0⟩):=by kernel_rfl
theorem Uv:∀w,Pc 1680 Lk h_ G5 ⟨0,0,0,0⟩ ⟨345,0,358,15⟩ w:=λw=>by kernel_rfl
theorem Uw(w:World):(λos=>topRun treeTable p w 11 an 2 (h_ w os).abs ⟨doneF .next,cE,⟨345,0,358,15⟩,[topFrame q0]⟩)=λos=>some (sZ w os):=by kernel_rfl
theorem Ux:G5++([])=behindTheImports p:=by kernel_rfl
theorem Uy(w:World)(os:OsState):topRun treeTable p w 11 an (12+(1+(1680+(2)))) ⟨boot_heap w.params,#[],boot_drawn,boot_toks,os⟩ (topStub p)=some (sZ w os):=by have h:=(piece_app (l:=G5) (rest:=[]) (segRun_of<|Ek (Uv w) os)<|piece_nil (env:=env0)<|Ek (Uw w) os);rw[Ux] at h;exact go_top (Ek (Ut w) os)<|piece_block (Ek (Uu w) os) h
def as0:List Nat:=[0,1,2,3,4,5,6,7,8,9,10,13,27,28,34,35,41,42,44,45,46,47,50,56,57,61,62,68,69,75,76,82,83,87,88,92,93,97,98,104,105,109,110,116,117,121,122,128,129,135,136,142,143,149,150,156,157,163,164,168,169,175,176,182,183,189,190,196,197,201,202,208,209,213,214,220,221,227,228,234,235,239,240,242,246,247,251,252,258,259,270,271,277,278,284,285,291,292,298,299,305,306,312,313,317,318,322,323,329,330]
def vw:Program:={ p with main:={ p.main with body:=[top 1,top 3,top 4,top 6,top 7,top 8,top 9,top 10,top 12,top 13,top 15,top 16,top 17,top 18,top 19,top 20,top 22,top 23,top 24,top 25,top 26,top 27,top 28,top 29,top 30,top 31,top 32,top 33,top 34,top 35,top 36,top 37,top 38,top 39,top 40,top 41,top 42,top 43,top 44,top 45,top 46,top 47,top 48,top 49,top 50,top 51] } }
def K0:Params->Frag:=λP=>(nat_lit 0,b0 P)::(nat_lit 1,b1 P)::(nat_lit 2,b2 P)::(nat_lit 3,Lb P)::(nat_lit 4,b4 P)::(nat_lit 5,b5 P)::(nat_lit 6,b6 P)::(nat_lit 7,b7 P)::(nat_lit 8,b8 P)::(nat_lit 9,b9 P)::(nat_lit 10,Fw P)::(nat_lit 13,Fx P)::(nat_lit 27,JF P)::(nat_lit 28,JL P)::(nat_lit 34,JN P)::(nat_lit 35,JE P)::(nat_lit 41,JG P)::(nat_lit 42,JP P)::(nat_lit 44,JM P)::(nat_lit 45,JI P)::(nat_lit 46,JQ P)::(nat_lit 47,JD P)::(nat_lit 50,JO P)::(nat_lit 56,JK P)::(nat_lit 57,JH P)::(nat_lit 61,JJ P)::(nat_lit 62,JR P)::(nat_lit 68,J8 P)::(nat_lit 69,J0 P)::(nat_lit 75,JV P)::(nat_lit 76,J' P)::(nat_lit 82,Kc P)::(nat_lit 83,JU P)::(nat_lit 87,JT P)::(nat_lit 88,J7 P)::(nat_lit 92,Ka P)::(nat_lit 93,J3 P)::(nat_lit 97,JX P)::(nat_lit 98,Kb P)::(nat_lit 104,J6 P)::(nat_lit 105,JY P)::(nat_lit 109,J2 P)::(nat_lit 110,Ke P)::(nat_lit 116,J9 P)::(nat_lit 117,J1 P)::(nat_lit 121,JZ P)::(nat_lit 122,Kd P)::(nat_lit 128,J4 P)::(nat_lit 129,JW P)::(nat_lit 135,JS P)::(nat_lit 136,J5 P)::(nat_lit 142,KH P)::(nat_lit 143,Kf P)::(nat_lit 149,Ko P)::(nat_lit 150,KC P)::(nat_lit 156,Ky P)::(nat_lit 157,Kq P)::(nat_lit 163,Ki P)::(nat_lit 164,Kx P)::(nat_lit 168,Kv P)::(nat_lit 169,Kl P)::(nat_lit 175,Kg P)::(nat_lit 176,Ku P)::(nat_lit 182,KG P)::(nat_lit 183,Kh P)::(nat_lit 189,Ks P)::(nat_lit 190,KI P)::(nat_lit 196,Kw P)::(nat_lit 197,Km P)::(nat_lit 201,Kk P)::(nat_lit 202,KA P)::(nat_lit 208,Kt P)::(nat_lit 209,Kj P)::(nat_lit 213,Kp P)::(nat_lit 214,KE P)::(nat_lit 220,Kz P)::(nat_lit 221,Kr P)::(nat_lit 227,KQ P)::(nat_lit 228,K4 P)::(nat_lit 234,K_ P)::(nat_lit 235,KS P)::(nat_lit 239,KL P)::(nat_lit 240,K2 P)::(nat_lit 242,a8 P)::(nat_lit 246,G4 P)::(nat_lit 247,KN P)::(nat_lit 251,KU P)::(nat_lit 252,K6 P)::(nat_lit 258,K7 P)::(nat_lit 259,KO P)::(nat_lit 270,La P)::(nat_lit 271,KJ P)::(nat_lit 277,KZ P)::(nat_lit 278,K' P)::(nat_lit 284,K5 P)::(nat_lit 285,K1 P)::(nat_lit 291,KP P)::(nat_lit 292,K3 P)::(nat_lit 298,K9 P)::(nat_lit 299,KR P)::(nat_lit 305,KY P)::(nat_lit 306,K8 P)::(nat_lit 312,Lg P)::(nat_lit 313,Le P)::(nat_lit 317,Lf P)::(nat_lit 318,Lj P)::(nat_lit 322,Lh P)::(nat_lit 323,Lc P)::(nat_lit 329,Ld P)::(nat_lit 330,Li P)::[]
abbrev lamC:Nat:=246
abbrev lamT:Nat:=242
abbrev lamO:Ob:=G4
abbrev ls:List Str:=[]
abbrev Xt:Shared->Bool:=λs=>xlAt vw [] s&&recOk (RowW.records rr.row.toRowW) s
theorem Uz(w:World):((boot_heap w.params).isNs mainGlobals&&(#[]:Array GenState).size==0,(boot_heap w.params).objs.size,(boot_heap w.params).nsMap mainGlobals "__annotations__")=(true,11,an):=by kernel_rfl
theorem UA:opening p=plainProg p.main.scope.names:=by kernel_rfl
theorem arm(s:Shared):fenceModules? p s=some s:=by kernel_rfl
theorem l_(w:World):(λos=>(staticsOk (importedModules p.main.body) (boot_heap w.params) (Fy w.params)&&namesBound p (Fy w.params)&&gensDone (sZ w os)&&laidKept (boot_heap w.params) (Fy w.params)))=λ_=>true:=by kernel_rfl
theorem UB(w:World):(λos=>openSeen vw ls (importedModules p.main.body) Xt true<|sZ w os)=λ_=>openGood vw ls:=by kernel_rfl
theorem UC(w:World):(λos=>obsZ as0<|sZ w os)=λ_=>valZ K0 331 630 w:=by kernel_rfl
theorem left_:LeftO p vw ls Xt (obsZ as0) (valZ K0 331 630) 3476:=LeftO.of_pieces (boot_open UA rfl arm) Uz Uy rfl λw=>funext λos=>looks_pair (Ek (l_ w) os)<|looks_pair (Ek (UB w) os)<|Ek (UC w) os
end
end H42
open PySem PySem.W PyProof.Rows
set_option maxRecDepth 100000 in
set_option maxHeartbeats 0 in
theorem PySem.Challenge.cw_oncewise_k42_some_place_parts_holds : PySem.Challenge.rw_oncewise_k42_some_place_parts.Holds := by
 w_on;refine holds_law (by unfold OpenLaw.wellSaid OpenRow.wellSaid OpenRow.partSaid looksOpen;walk_at "y";walk_at "y";walk_at "y";walk_at "y";walk_at "y";walk_at "y";all_goals decide +kernel) λJ=>?_
 refine holds_openX (q:=H42.vw) (loose:=H42.ls) (Xt:=H42.Xt) (XP:=XL H42.vw []) (Yf:=PySem.W.X.obsZ H42.as0) (Ya:=PySem.W.X.valZ H42.K0 331 630) (N:=3476) H42.left_ (λs e=>xl_of s (Bool.and_eq_true_iff.mp e).1)
  XL.keeps (by rfl) (by rfl) (by rfl) (λs e=>recFacts_of (Bool.and_eq_true_iff.mp e).2)
  (by rfl) (by decide +kernel) (by decide +kernel) ⟨rfl,rfl,rfl,rfl,rfl,by decide +kernel⟩ ?hw ?hc
 case hw=>w_witness2
 k_fill
 refine L2.walk_ofZT (l:=PySem.Challenge.rw_oncewise_k42_some_place_parts) (n:=63) (k:=174) (x:="_law_script") (CX:=L2.CX0) (sp:=L3.spTopT L3.lamQ) rfl (by decide) rfl ⟨rfl,by decide,by decide⟩ (λ_=>rfl) (by decide) ?F ?S ?C
 case F=>
  intro w r t h g G I;have T:(H42.K0 w.params).lookup H42.lamT=some (PySem.W.tabObj #[]):=by k_is
  have U:(H42.K0 w.params).lookup H42.lamC=some (H42.lamO w.params):=by k_is
  have hd:∀h:Heap,h.get? H42.lamC=some (H42.lamO w.params)->PySem.W.CodeHd h H42.lamC H42.lamT:=λh e=>⟨_,_,_,_,_,_,_,_,_,e,rfl,rfl,rfl,rfl,rfl,rfl,rfl,rfl,by decide⟩;have j:(H42.K0 w.params).lookup 4=some (PySem.W.boot_o_4 w.params):=by k_is
  have o:L3.DefInT (L2.lessK H42.lamT<|H42.K0 w.params) "_law_order" L3.s__law_order H42.lamT:=by
   refine' K42.def_inT (L2.ns_dn T ?a) (L2.lk_dn T ?l ?n) (L2.code_dn T ?c) (L2.keep_dn T ?k) ?LC
   (case a=>k_is);(case l=>k_is);(case n=>(intro e;cases e));(case c=>k_is);(case k=>k_is)
   refine'⟨⟨H42.lamC,_,rfl,L2.lk_dn T U ?m,hd⟩,⟨4,_,L2.ns_dn T ?b,by decide,by decide,L2.lk_dn T j ?p,rfl,rfl,rfl⟩⟩
   (case m=>(intro e;cases e));(case b=>k_is);(case p=>(intro e;cases e))
  refine⟨H42.lamT,⟨T,⟨H42.lamC,λh X=>hd h<|X _ _ U⟩,by decide⟩,?_⟩;refine' K42.all_mk (K:=L2.lessK H42.lamT<|H42.K0 w.params) (L2.lessK_in g) G I ?D0 ?D1 ?D2 ?D3 ?D4 ?D5 ?D6 ?D7 ?D8 ?D9 ?D10 ?D11 ?D12 ?D13 ?D14 ?D15 ?D16 ?D17 ?D18 ?D19 ?D20 ?D21 ?D22 ?D23 ?D24 ?D25 ?D26 ?D27 ?D28 ?D29 ?D30 ?D31 ?D32 ?D33 ?D34 ?D35 ?D36 ?D37 ?D38 ?D39 ?D40 ?D41 ?D42 ?D43 ?D44 ?D45 ?aLEAF_KINDS ?lLEAF_KINDS ?aCPieces ?clPieces ?mAPieces ?mKPieces ?xf ?zlist ?zrange ?zenumerate ?zlen ?zisinstance ?ztuple ?zsorted ?zmax ?zmin ?zint ?zbool ?zstr
  (case aCPieces=>(refine' L2.ns_dn T ?_;k_is))
  (case D0|D1|D2=>refine' L3.meth_in ((L2.find_dn T).trans ?a) (L2.lk_dn T ?l ?n) (L2.code_dn T ?c) (L2.keep_dn T ?k)<|L2.isFn_dn T ?i;(case a=>k_is);(case l=>k_is);(case n=>(intro e;cases e));(case c=>k_is);(case k=>k_is);(case i=>k_is))
  (case D3|D4|D5|D6|D7|D8|D9|D10|D11|D12|D13|D14|D15|D16|D17|D18|D19|D20|D21|D22|D23|D24|D25|D26|D27|D28|D29|D30|D31|D32|D34|D35|D36|D37|D38|D39|D40|D41|D42|D43|D44|D45=>refine' L2.def_in (L2.ns_dn T ?a) (L2.lk_dn T ?l ?n) (L2.code_dn T ?c)<|L2.keep_dn T ?k;(case a=>k_is);(case l=>k_is);(case n=>(intro e;cases e));(case c=>k_is);(case k=>k_is))
  (case D33=>exact o)
  (case aLEAF_KINDS=>(refine' L2.ns_dn T ?_;k_is))
  (case lLEAF_KINDS=>(refine' L2.lk_dn T ?x ?n;(case x=>k_is);(case n=>(intro e;cases e))))
  (case clPieces=>refine' L2.Cls.dn T ?_;refine' L2.Cls.mk ?pg ?hd ?po ?sa;(case pg=>k_is);(case hd=>k_is);(case po=>k_is);(case sa=>k_is))
  (case mAPieces=>(refine' L2.makes_dn T ?_;k_is))
  (case mKPieces=>(refine' L2.keep_dn T ?_;k_is))
  (case xf=>(refine' L3.XFP.dn T ?_;(refine' L3.XFP.mk ?cl ?na;(case cl=>(refine' L2.Cls.mk ?pg ?hd ?po ?sa;(case pg=>k_is);(case hd=>k_is);(case po=>k_is);(case sa=>k_is)));(case na=>(unfold L2.NoAttr;k_is)))))
  (case zlist|zrange|zenumerate|zlen|zisinstance|ztuple|zsorted|zmax|zmin|zint|zbool|zstr=>(refine' L2.ns_dn T ?_;k_is))
 case S=>exact L3.top_startT
 case C=>exactλ_ _ _ _ z=>z
#print axioms PySem.Challenge.cw_oncewise_k42_some_place_parts_holds
