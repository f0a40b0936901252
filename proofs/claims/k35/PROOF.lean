import PyProof.Rows.All
import Wide.All
import OpenK.AllK
import Wide.FinOn
import Lean
import PyProof.EqAt
import PyProof.EqKinds
import PyProof.TupleCall
import PyProof.NeKinds
import PySem.Challenge.RW_oncewise_k35_shrinking_walked
import OpenK.ZGo
set_option genSizeOf false
set_option bootstrap.genMatcherCode false
set_option compiler.extract_closed false
set_option hygiene false
local macro_rules|`(tactic| walk_at "t")=>`(tactic| (first|assumption|exact Nat.succ_pos _|exact z9.tk (by assumption)|exact Nat.lt_of_lt_of_le (z9.tk (by assumption)) (Nat.le_add_right _ _)|exact Nat.lt_of_lt_of_le (z9.tk (by assumption)) (by assumption)))
set_option hygiene true
local macro_rules|`(tactic| walk_at "w")=>`(tactic| conv=>whnf)
local macro_rules|`(tactic| walk_at "y")=>`(tactic| ((refine PySem.W.look_both ?_ ?_);(refine PySem.W.look_both ?_ ?_);(refine PySem.W.look_both ?_ ?_);(refine PySem.W.look_both ?_ ?_);(refine PySem.W.look_both ?_ ?_);(refine PySem.W.look_both ?_ ?_)))
set_option Elab.async false
set_option linter.all false
set_option maxRecDepth 100000
abbrev Aa:=@PySem.wpAny_bind
abbrev Ab:=@PyProof.Rows.wpS_bind
abbrev Ac:=@List.length_append
abbrev Ad:=@PyProof.Rows.wpS_pure
abbrev Ae:=@PySem.W.Frag
abbrev Af:=@List.length_map
abbrev Ag:=@List.mem_append_right
abbrev Ah:=@List.mem_cons_of_mem
abbrev Ai:=@PySem.wpAny_pure
abbrev Aj:=@List.getElem?_eq_getElem
abbrev Ak:=@List.mem_append
abbrev Al:=@Nat.le_refl
abbrev Am:=@List.getElem?_append_right
abbrev An:=@List.getElem?_map
abbrev Ao:=@decide_eq_true
abbrev Ap:=@List.mem_singleton
abbrev Aq:=@decide_eq_false
abbrev Ar:=@List.size_toArray
abbrev As:=@if_neg
abbrev Au:=@List.mem_append_left
abbrev Av:=@List.mem_cons_self
abbrev Aw:=@if_pos
abbrev Ax:=@List.mem_cons
abbrev Ay:=@Option.map_eq_some_iff
abbrev Az:=@List.mem_of_getElem?
abbrev AA:=@List.nodup_cons
abbrev AB:=@List.getElem?_append_left
abbrev AC:=@Bool.false_ne_true
abbrev AD:=@List.map_append
abbrev AE:=@List.append_assoc
abbrev AF:=@List.length_cons
abbrev AG:=@List.map_cons
abbrev AH:=@Ne.symm
abbrev AI:=@List.nodup_append
abbrev AJ:=@PyProof.Rows.wpS_forRange
abbrev AK:=@Nat.le_trans
abbrev AL:=@Array.length_toList
abbrev AM:=@Nat.lt_of_lt_of_le
abbrev AN:=@List.pairwise_append
abbrev AO:=@List.flatMap_append
abbrev AQ:=@List.append_nil
abbrev AR:=@Bool.and_eq_true
abbrev AS:=@List.mem_range
abbrev AU:=@List.getElem?_eq_some_iff
abbrev AV:=@PyProof.Rows.wpS_mono
abbrev AW:=@Option.some.inj
abbrev AX:=@List.length_take
abbrev AY:=@Int.natCast_nonneg
abbrev AZ:=@PySem.wpAny_mono
abbrev A1:=@List.flatMap_cons
abbrev A2:=@Nat.le_add_right
abbrev A3:=@Array.getElem?_toList
abbrev A4:=@Nat.ne_of_lt
abbrev A5:=@List.length_range
abbrev A6:=@Array.toList_append
abbrev A7:=@List.getElem_of_mem
abbrev A8:=@Nat.lt_of_le_of_lt
abbrev A9:=@List.not_mem_nil
abbrev Ba:=@PySem.wpAny_field
abbrev Bb:=@List.lookup_cons
abbrev Bc:=@List.take_length
abbrev Bd:=@List.mem_flatMap
abbrev Be:=@PySem.wpAny_holding
abbrev Bf:=@List.take_succ
abbrev Bg:=@Nat.lt_succ_self
abbrev Bh:=@List.length_singleton
abbrev Bi:=@List.perm_append_comm
abbrev Bj:=@PySem.W.mg_none_of
abbrev Bk:=@List.take_of_length_le
abbrev Bl:=@List.perm_append_right_iff
abbrev Bm:=@List.take_append_drop
abbrev Bn:=@PySem.wpAny_newObj_type
abbrev Bo:=@Nat.zero_le
abbrev Bp:=@List.length_set
abbrev Bq:=@Array.size_push
abbrev Br:=@List.getElem?_set_ne
abbrev Bs:=@Bool.eq_iff_iff
abbrev Bt:=@PySem.W.kia_one
abbrev Bu:=@PySem.wpAny_rule
abbrev Bv:=@List.getD_eq_getElem?_getD
abbrev Bw:=@List.getElem_take
abbrev Bx:=@List.mem_of_mem_take
abbrev Bz:=@List.perm_append_left_iff
abbrev BA:=@List.find?_cons
abbrev BB:=@List.length_drop
abbrev BC:=@PySem.mem_of_lookup
abbrev BD:=@Nat.le_of_lt
abbrev BE:=@List.mem_map
abbrev BF:=@PySem.wpAny_seqItems
abbrev BG:=@List.mem_erase_of_ne
abbrev BH:=@congrArg
abbrev BI:=@List.mem_filter
abbrev BJ:=@Int.le_trans
abbrev BK:=@List.filter_append
abbrev BL:=@decide_eq_true_iff
abbrev BM:=@Array.size_append
abbrev BN:=@Int.le_of_lt
abbrev BO:=@List.Perm.refl
abbrev BP:=@List.map_map
abbrev BQ:=@List.drop_eq_getElem_cons
abbrev BR:=@List.length_replicate
abbrev BS:=@List.nodup_range
abbrev BU:=@List.take_append_of_le_length
abbrev BV:=@List.eq_nil_of_length_eq_zero
abbrev BW:=@List.getElem?_of_mem
abbrev BX:=@PySem.W.kia_tup
abbrev BY:=@Nat.not_lt_zero
abbrev BZ:=@List.getElem?_range
abbrev B3:=@List.getElem?_set_self
abbrev B4:=@PyProof.Rows.callWith_type1
abbrev B5:=@Int.ofNat_inj
abbrev B6:=@List.perm_middle
abbrev B7:=@Bool.false_eq_true
abbrev B8:=@List.perm_append_singleton
abbrev B9:=@List.perm_ext_iff_of_nodup
abbrev Cb:=@List.singleton_append
abbrev Cc:=@List.pairwise_iff_getElem
abbrev Cd:=@List.filter_nil
abbrev Ce:=@Nat.min_eq_left
abbrev Cf:=@PySem.W.look_both
abbrev Cg:=@Int.toNat_natCast
abbrev Ci:=@List.getElem_drop
abbrev Cj:=@List.pairwise_map
abbrev Ck:=@Nat.lt_succ_of_lt
abbrev Cm:=@List.any_cons
abbrev Cn:=@List.Pairwise.imp_of_mem
abbrev Co:=@PyProof.Rows.slot_tuple_getitem
abbrev Cp:=@List.map_congr_left
abbrev Cq:=@List.mem_map_of_mem
abbrev Cr:=@List.getElem?_replicate
abbrev Cs:=@List.eraseIdx_cons_succ
abbrev Ct:=@Nat.add_sub_cancel_left
abbrev Cu:=@List.getElem_mem
abbrev Cv:=@Int.mul_le_mul_of_nonneg_right
abbrev Cw:=@Nat.le_succ
abbrev Cy:=@Nat.sub_self
abbrev Cz:=@Nat.lt_irrefl
abbrev CA:=@List.getElem?_eq_none
abbrev CB:=@List.length_filter_le
abbrev CC:=@PySem.W.kitx_list
abbrev CD:=@Option.isSome_map
abbrev CF:=@Array.toList_push
abbrev CG:=@List.flatten_cons
abbrev CH:=@List.countP_congr
abbrev CK:=@List.mem_of_mem_drop
abbrev CL:=@Array.toList_reverse
abbrev CM:=@Nat.le_sub_one_of_lt
abbrev CN:=@Nat.succ_pos
abbrev CO:=@List.all_eq_true
abbrev CP:=@Nat.max_eq_right
abbrev CQ:=@List.countP_cons
abbrev CS:=@List.filterMap_cons
abbrev CU:=@List.reverse_append
abbrev CV:=@List.flatten_append
abbrev CW:=@PySem.W.mg_of
abbrev CY:=@List.cons.inj
abbrev CZ:=@List.forIn_cons
abbrev C0:=@Nat.le_add_left
abbrev C1:=@Nat.max_eq_left
abbrev C2:=@Array.size_extract
abbrev C3:=@List.getElem?_cons_succ
abbrev C4:=@List.length_eraseIdx_le
abbrev C5:=@Int.le_refl
abbrev C6:=@List.filter_cons_of_neg
abbrev C7:=@List.filter_cons_of_pos
abbrev C8:=@List.eraseIdx_append_of_length_le
abbrev C9:=@Nat.ne_of_gt
abbrev Dc:=@List.take_sublist
abbrev De:=@List.map_nil
abbrev Df:=@Nat.lt_trans
abbrev Dg:=@Bool.and_false
abbrev Dh:=@Nat.le_succ_of_le
abbrev Di:=@Nat.zero_add
abbrev Dj:=@List.drop_drop
abbrev Dk:=@List.drop_left
abbrev Dl:=@List.getElem_cons_drop
abbrev Dm:=@List.mem_range'_1
abbrev Dn:=@List.Perm.append_right
abbrev Do:=@List.eraseIdxIfInBounds_toArray
abbrev Dp:=@Nat.le_of_ble_eq_true
abbrev Dq:=@List.Perm.append_left
abbrev Dr:=@List.filter_cons
abbrev Ds:=@List.sum_cons
abbrev Dt:=@List.drop_append_of_le_length
abbrev Du:=@List.of_mem_zip
abbrev Dv:=@List.length_zip
abbrev Dw:=@Int.emod_nonneg
abbrev Dx:=@PySem.W.plainGet_of
abbrev Dy:=@List.length_pos_iff
abbrev Dz:=@Int.add_mul_emod_self_right
abbrev DA:=@PySem.W.kitx_tuple
abbrev DB:=@PySem.W.callWith_K
abbrev DC:=@Nat.lt_or_eq_of_le
abbrev DD:=@List.getElem?_take
abbrev DE:=@List.getElem?_drop
abbrev DF:=@List.nodup_nil
abbrev DG:=@Int.emod_lt_of_pos
abbrev DH:=@List.append_of_mem
abbrev DI:=@PySem.F.slot_dict_getitem
abbrev DJ:=@PySem.W.kitx_dict
abbrev DK:=@List.ext_getElem?
abbrev DL:=@List.nodup_range'
abbrev DM:=@List.set_comm
abbrev DN:=@List.getElem?_take_of_lt
abbrev DO:=@List.all_cons
abbrev DP:=@Bool.and_true
abbrev DQ:=@Bool.true_and
abbrev DR:=@List.getElem_append_left
abbrev DS:=@PySem.F.plainAttrs_list
abbrev DU:=@List.zipIdx_cons
abbrev DV:=@List.range'_succ
abbrev DW:=@List.getElem?_set_self'
abbrev DX:=@List.flatMap_nil
abbrev DY:=@Nat.min_eq_right
abbrev DZ:=@List.any_eq_true
abbrev Eb:=@congrFun
abbrev Ec:=@Nat.le_of_eq
abbrev Ed:=@PySem.W.cellsFrom_some
abbrev Ee:=@Nat.add_comm
abbrev Ef:=@Nat.lt_or_ge
abbrev Eg:=@Int.zero_add
abbrev Eh:=@List.length_pos_of_mem
abbrev Ei:=@Bool.or_eq_true
abbrev Ej:=@List.nil_append
abbrev Ek:=@beq_false_of_ne
abbrev El:=@Nat.one_ne_zero
abbrev Em:=@List.forIn_nil
abbrev Eo:=@List.drop_zero
abbrev Ep:=@Nat.add_assoc
abbrev Er:=@Nat.sub_le
abbrev Es:=@Prod.ext
abbrev u3:=@PySem.Heap.get?_push_of_some
abbrev vb:=@PySem.Heap.lt_size
abbrev vc:=@PySem.Heap.get?_push_size
abbrev wh:=@PySem.PassesOwn.never
abbrev xp:=@PySem.Heap.SameBut.update
abbrev xT:=@PySem.F.slot_tuple_iterator_next
abbrev ya:=@PySem.MeetsSeq.plain_remove_loop
abbrev At:=@PySem.Heap.size_push
abbrev Db:=@PySem.Calls.spliced_cons
abbrev Dd:=@PySem.Heap.get?_update_self
abbrev DT:=@PySem.F.slot_zip_next
abbrev Ev:=@Sum.inl.inj
noncomputable section
namespace L2
open PySem PyProof.Rows
def i9{M:Model}{U:Ctx}{p:Pos}{t:Sem Fin}{fs:List Frame}{s s':Shared}{e:End}(h:Runs M U p t fs s e s'):s.toks<=s'.toks:=by induction h with|fresh _ g=>exact AK (Cw _) g|call _ _ I J=>exact AK I J|resumeFresh _ _ _ _ I J=>exact AK I J|resumeSuspended _ _ _ _ I J=>exact AK I J|segRet _ _ I J=>exact AK I J|segGen _ _ I J=>exact AK I J|segSuspGen _ _ _ _ I J=>exact AK I J|_=>first|exact Al _|assumption
def vV{M:Model}{J:Ctx}{p:Pos}{g:Nat}{r:Resume}{s s':Shared}{res:GenResult}(h:Wakes M J p g r s res s'):s.toks<=s'.toks:=by
 unfold Wakes at h;split at h
 ·exact h.elim
 ·split at h
  ·obtain⟨e,U,I,_,_,rfl⟩:=h;have q:=i9 I;exact q
  ·obtain⟨_,rfl⟩:=h;exact Al _
  ·obtain⟨_,rfl⟩:=h;exact Al _
 ·obtain⟨e,U,I,_,_,rfl⟩:=h;have q:=i9 I;exact q
 ·obtain⟨_,rfl⟩:=h;exact Al _
 ·obtain⟨_,rfl⟩:=h;exact Al _
def agx{α:Type}{M:Model}{T:Ctx}(t:Sem α):∀{Q:α->Pos->Shared->Prop} {E:Value->Pos->Shared->Prop} {p:Pos} {s:Shared} (n:Nat),n<=s.toks->Sem.wp M T t Q E p s->Sem.wp M T t (λa C s'=>Q a C s'/\n<=s'.toks) (λe C s'=>E e C s'/\n<=s'.toks) p s:=by induction t with|pure a=>intro Q E p s n I h;exact⟨h,I⟩|raise e=>intro Q E p s n I h;exact⟨h,I⟩|load a part k J=>intro Q E p s n I ⟨o,U,j⟩;exact⟨o,U,J o n I j⟩|update a part f k J=>intro Q E p s n I ⟨U,j⟩;exact⟨U,J () n I j⟩|fresh k J=>intro Q E p s n I h;exact J s.toks n (AK I (Cw _)) h|choose a0 m k J=>intro Q E p s n I ⟨U,j⟩;exact⟨U,J _ n I j⟩|call c hd g l k J=>intro Q E p s n I ⟨r,s',U,j⟩;exact⟨r,s',U,J r n (AK I (i9 U)) j⟩|genState g k J=>intro Q E p s n I ⟨st,U,j⟩;exact⟨st,U,J _ n I j⟩|resume g r l k J=>intro Q E p s n I ⟨res,s',U,j⟩;exact⟨res,s',U,J _ n (AK I (vV U)) j⟩|rule tag k J=>intro Q E p s n I h;exact J () n I h|«at» pos k J=>intro Q E p s n I h;exact J () n I h|alloc o k J=>intro Q E p s n I h;exact J _ n I h|loadIfAlive a k J=>intro Q E p s n I h;exact J _ n I h|point l k J=>intro Q E p s n I h;exact J _ n I h|ask k J=>intro Q E p s n I h;exact J _ n I h|os q l k J=>intro Q E p s n I h;exact J _ n I h|handled own k J=>intro Q E p s n I h;exact J _ n I h|newGen c k J=>intro Q E p s n I h;exact J _ n I h|stack k J=>intro Q E p s n I h;exact J _ n I h|thread k J=>intro Q E p s n I h;exact J _ n I h|unsupported w=>intro Q E p s n I h;exact h.elim|finish e=>intro Q E p s n I h;exact h.elim|register a k J=>intro Q E p s n I h;exact h.elim|yield v g l k J=>intro Q E p s n I h;exact h.elim|fork c k J=>intro Q E p s n I h;exact h.elim|await a f d l k J=>intro Q E p s n I h;exact h.elim
def wI{α:Type}{M:Model}{A:Around}{t:Sem α}{Q:α->Shared->Prop}{E:Value->Shared->Prop}{s:Shared}(h:wpAny M A t Q E s):wpAny M A t (λa s'=>Q a s'/\s.toks<=s'.toks) (λe s'=>E e s'/\s.toks<=s'.toks) s:=
 λJ p I=>agx t s.toks (Al _) (h J p I)
def xj{α:Type}{M:Model}{A:Around}{t:Sem α}{Q:α->Shared->Prop}{E:Value->Shared->Prop}{s:Shared}(hp:0<s.toks)(h:wpAny M A t (λa s'=>0<s'.toks->Q a s') (λe s'=>0<s'.toks->E e s') s):wpAny M A t Q E s:=
 AZ (wI h) (λ_ _ z=>z.1 (AM hp z.2)) λ_ _ z=>z.1 (AM hp z.2)
end L2
variable {M:PySem.Model}{d i j kt m n na p t' x1:Nat}{t t1 t2:Bool}{s s':PySem.Shared}{c e ni o target tg value:PySem.Expr}{α β κ:Type}{A:PySem.Around}{E Q:PySem.Value->PySem.Shared->Prop}{eH us vs:List PySem.Value}{fx ir oc pm u:PySem.Value}{base h h':PySem.Heap}{ch fp:List PySem.Addr}{C Pt dx f fa hp it ka l l1 l2 pa:PySem.Addr}{kx name px q eA x:PySem.Str}{pins:List (PySem.Addr×PySem.Obj)}{apos eK pC p1 p2 p3 p4 p5 pos hQ py tp:PySem.Pos}{st:PySem.Stmt}{ml es m3:List PySem.Expr}{body:List PySem.Stmt}{R:Nat->Nat->Prop}{B lo:Int}{hs hE mn pl qs:List Nat}{mA mg:PySem.Str->Option PySem.Value}{kw:List (PySem.Str×PySem.Value)}{prog:PySem.Program}{env:PySem.Env}{fd:PySem.FuncData}{ps:List PySem.Str}{fy scope:PySem.Scope}{ct lk:List (Nat×Nat)}{an od:Option PySem.Addr}{nC:Array (Option PySem.Value)}{rk:Nat->Nat}{rks:List Int}
namespace L2
open PySem PySem.Spec PyProof.Rows
abbrev jp:=Sum Int Str
def oX:jp->Value->Bool
 |.inl k,v=>Value.isInt k v
 |.inr x,v=>Value.isStrOf x v
def as4(w:World):jp->Int
 |.inl k=>hashInt k
 |.inr x=>hashStr w x
theorem vm:∀{k:jp} {v:Value},oX k v=true->(∃i t,k=Sum.inl i/\v=Value.int i t)\/(∃x t,k=Sum.inr x/\v=Value.str x t)
 |.inl i,v,h=>by obtain⟨t,e⟩:=Value.isInt_shape (k:=i) (v:=v) h;exact .inl ⟨i,t,rfl,e⟩
 |.inr x,v,h=>by obtain⟨t,e⟩:=Value.isStrOf_shape (x:=x) (v:=v) h;exact .inr ⟨x,t,rfl,e⟩
def yw(i:Int)(t:Tok):oX (.inl i) (.int i t)=true:=by simp[oX,Value.isInt]
def aae(x:Str)(t:Tok):oX (.inr x) (.str x t)=true:=by simp[oX,Value.isStrOf]
def amm(a b:Int):decide ((Sum.inl a:jp)=Sum.inl b)=(a==b):=by
 by_cases e:a=b
 ·subst e;simp
 ·have h:¬(Sum.inl a:jp)=Sum.inl b:=λq=>e (Ev q);rw[Aq h];exact(beq_eq_false_iff_ne.mpr e).symm
def akf(a b:Str):decide ((Sum.inr a:jp)=Sum.inr b)=decide (a=b):=by
 by_cases e:a=b
 ·subst e;simp
 ·have h:¬(Sum.inr a:jp)=Sum.inr b:=λq=>e (Sum.inr.inj q);rw[Aq h,Aq e]
def amr(a:Int)(b:Str):decide ((Sum.inl a:jp)=Sum.inr b)=false:=Aq (λq=>nomatch q)
def ald(a:Str)(b:Int):decide ((Sum.inr a:jp)=Sum.inl b)=false:=Aq (λq=>nomatch q)
def vk(prog:Program)(w:World):PySem.KeyKind prog w jp where
 is:=oX
 hash:=as4 w
 inj:=λv a b g U=>by
  rcases vm g with⟨i,t,rfl,rfl⟩|⟨x,t,rfl,rfl⟩
  ·rcases vm U with⟨j,u,rfl,e⟩|⟨y,u,rfl,e⟩
   ·injection e with I _;rw[I]
   ·exact nomatch e
  ·rcases vm U with⟨j,u,rfl,e⟩|⟨y,u,rfl,e⟩
   ·exact nomatch e
   ·injection e with I _;rw[I]
 byValue:=λk v h=>by rcases vm h with⟨i,t,rfl,rfl⟩|⟨x,t,rfl,rfl⟩<;>rfl
 pyHash:=λJ h=>by
  rcases vm J with⟨i,t,rfl,rfl⟩|⟨x,t,rfl,rfl⟩
  ·exact wpAny_pyHash_int h
  ·exact wpAny_pyHash_str h
 eqBool:=λl J h=>by
  rcases vm l with⟨i,t,rfl,rfl⟩|⟨x,t,rfl,rfl⟩
  ·rcases vm J with⟨j,u,rfl,rfl⟩|⟨y,u,rfl,rfl⟩
   ·rw[amm] at h;exact wpAny_eqBool_int h
   ·rw[amr] at h;exact SeqAt.EqAt.int_str i t y u _ _ _ _ h
  ·rcases vm J with⟨j,u,rfl,rfl⟩|⟨y,u,rfl,rfl⟩
   ·rw[ald] at h;exact SeqAt.EqAt.str_int x t j u _ _ _ _ h
   ·rw[akf] at h;exact wpAny_eqBool_str h
 «strs» := λk x t v h=>by
  rcases vm h with⟨i,u,rfl,e⟩|⟨y,u,rfl,e⟩
  ·exact nomatch e
  ·injection e with I _
   subst I;cases v<;>rfl
def sn(prog:Program)(w:World)(i:Int)(t:Tok):(vk prog w).is (.inl i) (.int i t)=true:=yw i t
def sj(prog:Program)(w:World)(x:Str)(t:Tok):(vk prog w).is (.inr x) (.str x t)=true:=aae x t
inductive V where
 |non|bl (b:Bool)|int (i:Int)|str (x:Str)|byt (b:Array UInt8)|flt (b:UInt64)|ref (a:Addr)|ty (n:String)
 deriving DecidableEq
def zv:V->Value->Prop
 |.non,u=>u=Value.none
 |.bl b,u=>u=Value.bool b
 |.int i,u=>∃t,u=Value.int i t
 |.str x,u=>∃t,u=Value.str x t
 |.byt b,u=>∃t,u=Value.bytes b t
 |.flt b,u=>∃t,u=Value.float b t
 |.ref a,u=>u=Value.ref a
 |.ty n,u=>u=Value.type n
abbrev zq:List V->List Value->Prop:=Paired zv
theorem zq.length{xs:List V}(r:zq xs us):xs.length=us.length:=Paired.length r
theorem zq.get:∀{xs:List V} {us:List Value} {i:Nat} {x:V},zq xs us->xs[i]?=some x->∃u,us[i]?=some u/\zv x u
 |_,_,_,_,.nil,e=>by simp at e
 |_,_,0,_,.cons r _,e=>by simp at e;subst e;exact⟨_,rfl,r⟩
 |_,_,i+1,x,.cons _ t,e=>by obtain⟨u,I,J⟩:=zq.get (i:=i) (x:=x) t (by simpa using e);exact⟨u,by simpa using I,J⟩
theorem zq.set{x:V}{u:Value}(r:zv x u):∀{xs:List V} {us:List Value} (i:Nat),zq xs us->zq (xs.set i x) (us.set i u)
 |_,_,_,.nil=>.nil
 |_,_,0,.cons _ t=>.cons r t
 |_,_,i+1,.cons q t=>.cons q (zq.set r i t)
theorem zq.append:∀{xs ys:List V} {us I:List Value},zq xs us->zq ys I->zq (xs++ys) (us++I)
 |_,_,_,_,.nil,s=>s
 |_,_,_,_,.cons r t,s=>.cons r (zq.append t s)
theorem zq.take:∀{xs:List V} {us:List Value} (n:Nat),zq xs us->zq (xs.take n) (us.take n)
 |_,_,0,_=>.nil
 |_,_,_+1,.nil=>.nil
 |_,_,n+1,.cons r t=>.cons r (zq.take n t)
theorem zq.drop:∀{xs:List V} {us:List Value} (n:Nat),zq xs us->zq (xs.drop n) (us.drop n)
 |_,_,0,r=>r
 |_,_,_+1,.nil=>.nil
 |_,_,n+1,.cons _ t=>zq.drop n t
def dy:Option V->Option Value->Prop
 |some v,some u=>zv v u
 |none,none=>True
 |_,_=>False
def KV :List (κ×V)->List (κ×Value)->Prop:=Paired λ(p:κ×V) (q:κ×Value)=>p.1=q.1/\zv p.2 q.2
def kV:jp->V
 |.inl i=>.int i
 |.inr x=>.str x
inductive HO where
 |lst (xs:List V)
 |tup (xs:List V)
 |dK (kvs:List (jp×V))|dT (kvs:List (List jp×V))
 |set (S:Int->Bool) (n:Nat)
 |ins (C dx:Addr) (fs:List (Str×V))
 |own (x:Addr)
 |xd (fs:List (Str×V))
 |met (f x:Addr)
 |rng (lo hi:Int)
 |frz (o:Obj) (u:HO)
 |tbl (ps:Array Value)
 |ext (φ:Heap->Prop)
abbrev Hp:=Addr->Option HO
def upd(H:Hp)(a:Addr)(o:HO):Hp:=λb=>if b=a then some o else H b
def j8{H:Hp}{a:Addr}{o:HO}:upd H a o a=some o:=by unfold upd;rw[Aw rfl]
def qt{H:Hp}{a b:Addr}{o:HO}(h:b≠a):upd H a o b=H b:=by unfold upd;rw[As h]
def aid{H:Hp}{a:Addr}{o u:HO}:upd (upd H a o) a u=upd H a u:=by funext b;unfold upd;split<;>rfl
def ao3{H:Hp}{a b:Addr}{o u:HO}(h:H a=some o)(h':H b=some u)(d:o≠u):a≠b:=by intro e;subst e;rw[h] at h';exact d (AW h')
def jd{H:Hp}{a b:Addr}{o:HO}(h:H a=some o)(h':H b=none):a≠b:=by intro e;subst e;rw[h] at h';cases h'
section
variable (P:Program)(w:World)
def vg(H:Hp)(h:Heap)(a:Addr):HO->Prop
 |.lst xs=>xs.length<=sizeLine/\∃(eH:List Value) (n:Nat),zq xs eH/\h.get? a=some { cls:=.type "list",data:=.seq eH.toArray n }
 |.tup xs=>xs.length<=sizeLine/\∃eH:List Value,zq xs eH/\IsTup h a eH.toArray
 |.dK kvs=>kvs.length<=sizeLine/\(a==sysModules)=false/\∃vs,KV kvs vs/\h.DictOf (vk P w) a vs
 |.dT kvs=>kvs.length<=sizeLine/\(a==sysModules)=false/\∃xs:List (List jp×Addr×Value),
  Paired (λ(p:List jp×V) (q:List jp×Addr×Value)=>p.1=q.1/\H q.2.1=some (.tup (p.1.map kV))/\zv p.2 q.2.2) kvs xs/\
  ∃o es J,h.get? a=some o/\o.ExactDict/\o.data=.dict es J/\es.toList=xs.map (entryOfKey (tupleKind (vk P w)))/\(xs.map (·.1)).Nodup
 |.set S n=>h.SetOf (intKind P w) a S n
 |.ins C dx fs=>H dx=some (.own a)/\fs.length<=1000/\dx≠a/\h.get? a=some (PySem.W.instObj C dx)/\
  ∃mA,h.Ns1 dx mA/\(∀f,dy (fs.lookup f) (mA f))/\PySem.Within mA (fs.map (·.1))
 |.own _=>∃o,h.get? a=some o
 |.xd fs=>∃mA,h.Ns1 a mA/\∀f,dy (fs.lookup f) (mA f)
 |.rng lo hi=>∃t u v,h.get? a=some { cls:=.type "range",data:=.fields #[.int lo t,.int hi u,.int 1 v] }
 |.frz o u=>h.get? a=some o/\vg H h a u
 |.tbl ps=>h.get? a=some { cls:=.none,data:=.fields ps }
 |.met f x=>h.get? a=some (PySem.W.methodObj (.ref f) (.ref x))
 |.ext I=>I h/\(∃o,h.get? a=some o)/\∀h1 h2:Heap,I h1->(∀o,h1.get? a=some o->h2.get? a=some o)->I h2
def gC(H:Hp)(h:Heap):Prop:=∀a o,H a=some o->vg P w H h a o
end
section
variable {P:Program}{w:World}{H H':Hp}{a:Addr}{o:HO}
theorem vg.lt(x:vg P w H h a o):a<h.objs.size:=by
 cases o with
 |lst J=>obtain⟨_,_,_,_,e⟩:=x;exact vb e
 |tup J=>obtain⟨_,_,_,p⟩:=x;exact p.lt
 |dK I=>obtain⟨_,_,_,_,o,_,_,e,_⟩:=x;exact vb e
 |dT I=>obtain⟨_,_,_,_,o,_,_,e,_⟩:=x;exact vb e
 |set S n=>obtain⟨o,_,_,_,e,_⟩:=x;exact vb e
 |ins C U fs=>obtain⟨_,_,_,e,_⟩:=x;exact vb e
 |own y=>obtain⟨_,e⟩:=x;exact vb e
 |xd fs=>obtain⟨_,⟨_,_,_,e,_⟩,_⟩:=x;exact vb e
 |rng lo g=>obtain⟨_,_,_,e⟩:=x;exact vb e
 |frz ob u=>obtain⟨e,_⟩:=x;exact vb e
 |tbl j=>exact vb (show h.get? a=some _ from x)
 |met f y=>exact vb (show h.get? a=some _ from x)
 |ext l=>obtain⟨_,⟨_,e⟩,_⟩:=x;exact vb e
theorem Paired.mapP{α β:Type}{F G:α->β->Prop}:∀{l₁:List α} {l₂:List β},Paired F l₁ l₂->(∀a b,F a b->G a b)->Paired G l₁ l₂
 |_,_,.nil,_=>.nil
 |_,_,.cons r t,f=>.cons (f _ _ r) (Paired.mapP t f)
abbrev EH:=@Paired.mapP
def vg.stay(x:vg P w H h a o)(k:∀b u,(b=a\/H b=some (.own a))->h.get? b=some u->h'.get? b=some u)
 (ho:∀b,H b=some (.own a)->H' b=some (.own a)) (ht:∀b xs,H b=some (.tup xs)->H' b=some (.tup xs)):vg P w H' h' a o:=by
 induction o with
 |lst xs=>obtain⟨z,U,n,r,e⟩:=x;exact⟨z,U,n,r,k _ _ (.inl rfl) e⟩
 |tup xs=>obtain⟨z,U,r,ob,e,c⟩:=x;exact⟨z,U,r,ob,k _ _ (.inl rfl) e,c⟩
 |dK g=>obtain⟨z,y,vs,r,ob,I,J,e,c⟩:=x;exact⟨z,y,vs,r,ob,I,J,k _ _ (.inl rfl) e,c⟩
 |dT g=>
  obtain⟨z,y,xs,r,ob,I,J,e,c⟩:=x;exact⟨z,y,xs,EH r λp q z=>⟨z.1,ht _ _ z.2.1,z.2.2⟩,ob,I,J,k _ _ (.inl rfl) e,c⟩
 |set S n=>obtain⟨ob,I,J,t,e,c⟩:=x;exact⟨ob,I,J,t,k _ _ (.inl rfl) e,c⟩
 |ins C dx fs=>
  obtain⟨d,z,ne,e,j,⟨l,I,J,e2,c⟩,r⟩:=x;exact⟨ho _ d,z,ne,k _ _ (.inl rfl) e,j,⟨l,I,J,k _ _ (.inr d) e2,c⟩,r⟩
 |own y=>obtain⟨ob,e⟩:=x;exact⟨ob,k _ _ (.inl rfl) e⟩
 |xd fs=>obtain⟨j,⟨l,I,J,e,c⟩,r⟩:=x;exact⟨j,⟨l,I,J,k _ _ (.inl rfl) e,c⟩,r⟩
 |rng lo hi=>obtain⟨t,u,v,e⟩:=x;exact⟨t,u,v,k _ _ (.inl rfl) e⟩
 |frz ob u ih=>obtain⟨e,q⟩:=x;exact⟨k _ _ (.inl rfl) e,ih q⟩
 |tbl T=>
  have e:h.get? a=some { cls:=.none,data:=.fields T }:=x;show h'.get? a=some { cls:=.none,data:=.fields T };exact k a _ (.inl rfl) e
 |met f y=>
  have e:h.get? a=some (PySem.W.methodObj (.ref f) (.ref y)):=x;show h'.get? a=some (PySem.W.methodObj (.ref f) (.ref y));exact k a _ (.inl rfl) e
 |ext φ=>obtain⟨p,⟨o,e⟩,st⟩:=x;exact⟨st _ _ p λo q=>k _ _ (.inl rfl) q,⟨o,k _ _ (.inl rfl) e⟩,st⟩
theorem gC.lt(x:gC P w H h)(e:H a=some o):a<h.objs.size:=(x a o e).lt
def gC.fresh(x:gC P w H h)(e:h.objs.size<=a):H a=none:=by cases q:H a with|none=>rfl|some u=>exact absurd (AM (x.lt q) e) (Cz _)
def gC.kept(x:gC P w H h)(k:∀b u,h.get? b=some u->h'.get? b=some u):gC P w H h':=λa o e=>
 (x a o e).stay (λb u _ q=>k b u q) (λ_ q=>q) λ_ _ q=>q
def gC.laid(x:gC P w H h)(k:∀b u,h.get? b=some u->h'.get? b=some u)(hp:h.objs.size<=a)(new:vg P w (upd H a o) h' a o):gC P w (upd H a o) h':=λb u e=>by
 have I:=x.fresh hp;by_cases J:b=a
 ·subst J;rw[j8] at e;cases e;exact new
 ·rw[qt J] at e;exact(x b u e).stay (λc v _ q=>k c v q) (λc q=>by rw[qt (jd q I)];exact q) λc U q=>by rw[qt (jd q I)];exact q
end
def Rd(H:Hp)(a:Addr)(u:HO):Prop:=H a=some u\/∃o,H a=some (.frz o u)
def Rd.ok{P:Program}{w:World}{H:Hp}{a:Addr}{u:HO}(r:Rd H a u)(x:gC P w H h):vg P w H h a u:=by
 rcases r with r|⟨o,r⟩
 ·exact x a u r
 ·obtain⟨_,q⟩:=x a _ r;exact q
def Mut:Option HO->Prop
 |some (.lst _)=>True
 |some (.dK _)=>True
 |some (.dT _)=>True
 |some (.set _ _)=>True
 |some (.ins _ _ _)=>True
 |some (.ext _)=>True
 |_=>False
section
variable {P:Program}{w:World}{H:Hp}{x e:Addr}{o':HO}
def gC.write(ok:gC P w H h)(g:Mut (H x))(t:e=x\/H e=some (.own x))(k:∀b u,b≠e->h.get? b=some u->h'.get? b=some u)(p:∃u,h'.get? e=some u)
 (new:vg P w (upd H x o') h' x o'):gC P w (upd H x o') h':=λb u q=>by
 have J:∀c y,H c=some (.own y)->c≠x:=λc y r z=>by subst z;rw[r] at g;exact g
 have U:∀c j,H c=some (.tup j)->c≠x:=λc j r z=>by subst z;rw[r] at g;exact g
 by_cases l:b=x
 ·subst l;rw[j8] at q;cases q;exact new
 ·rw[qt l] at q;by_cases I:b=e
  ·have C:H b=some (.own x):=by
    rcases t with z|z
    ·exact absurd (I.trans z) l
    ·rw[I];exact z
   rw[q] at C;cases C;obtain⟨v,T⟩:=p;exact⟨v,by rw[I];exact T⟩
  ·refine(ok b u q).stay (λc v o r=>k c v ?_ r) (λc r=>by rw[qt (J c b r)];exact r) λc j r=>by rw[qt (U c j r)];exact r
   rcases o with rfl|o
   ·exact I
   ·rintro rfl;rcases t with z|z
    ·exact J c b o z
    ·rw[o] at z;cases z;exact l rfl
end
structure Un(fs ex:List Addr)(H H':Hp)(h h':Heap):Prop where
 keep:∀b o,h.get? b=some o->H b=none->b∉fs->b∉ex->h'.get? b=some o
 slot:∀b o,h.get? b=some o->H b=none->b∈fs->b∉ex->∃sl,h'.get? b=some { o with slots:=sl }
 free:∀b o,h.get? b=some o->H b=none->b∉ex->H' b=none
 there:∀b o,h.get? b=some o->b∉ex->∃o',h'.get? b=some o'
 tups:∀b xs,H b=some (.tup xs)->H' b=some (.tup xs)
 frzs:∀b o u,H b=some (.frz o u)->H' b=some (.frz o u)
 tbls:∀b ps,H b=some (.tbl ps)->∃more,H' b=some (.tbl (ps++more))
section
variable {fs fs' ex ex':List Addr}{H H1 H2:Hp}{h1 h2:Heap}{a x e:Addr}{o:HO}
def Un.any(u:Un fs ex H H1 h h1){b:Addr}{ob:Obj}(q:h.get? b=some ob)(n:H b=none)(I:b∉ex):∃U,h1.get? b=some { ob with slots:=U }:=by
 by_cases J:b∈fs
 ·exact u.slot b ob q n J I
 ·exact⟨ob.slots,u.keep b ob q n J I⟩
def Un.kept(k:∀b u,h.get? b=some u->h'.get? b=some u):Un fs ex H H h h':=
 ⟨λb ob q _ _ _=>k b ob q,λb ob q _ _ _=>⟨ob.slots,k b ob q⟩,λ_ _ _ n _=>n,λb ob q _=>⟨ob,k b ob q⟩,λ_ _ q=>q,λ_ _ _ q=>q,λ_ I q=>⟨#[],by rw[q];simp⟩⟩
def Un.refl:Un fs ex H H h h:=Un.kept λ_ _ q=>q
def Un.laid(k:∀b u,h.get? b=some u->h'.get? b=some u)(hp:h.objs.size<=a)(I:H a=none):Un fs ex H (upd H a o) h h' where
 keep:=λb u q _ _ _=>k b u q
 slot:=λb u q _ _ _=>⟨u.slots,k b u q⟩
 free:=λb u q n _=>by rw[qt (A4 (AM (vb q) hp))];exact n
 there:=λb u q _=>⟨u,k b u q⟩
 tups:=λb J q=>by rw[qt (jd q I)];exact q
 frzs:=λb u J q=>by rw[qt (jd q I)];exact q
 tbls:=λb U q=>⟨#[],by rw[qt (jd q I),q];simp⟩
def Un.write(J:Mut (H x))(p:e=x\/H e=some (.own x))(k:∀b u,b≠e->h.get? b=some u->h'.get? b=some u)(U:∃u,h'.get? e=some u):Un fs ex H (upd H x o) h h':=by
 have j:∀b,H b=none->b≠x:=λb n z=>by subst z;rw[n] at J;exact J
 have l:∀b,H b=none->b≠e:=λb n z=>by
  subst z;rcases p with r|r
  ·exact j b n r
  ·rw[n] at r;cases r
 have g:∀b u,H b=some u->¬Mut (some u)->b≠x:=λb u q nm z=>by subst z;rw[q] at J;exact nm J
 refine⟨λb u q n _ _=>k b u (l b n) q,λb u q n _ _=>⟨u.slots,k b u (l b n) q⟩,λb u q n _=>by rw[qt (j b n)];exact n,λb u q _=>?_,
  λb t q=>by rw[qt (g b _ q λz=>z)];exact q,λb u t q=>by rw[qt (g b _ q λz=>z)];exact q,λb C q=>⟨#[],by rw[qt (g b _ q λz=>z),q];simp⟩⟩
 by_cases I:b=e
 ·subst I;exact U
 ·exact⟨u,k b u I q⟩
end
def trk(h:Heap)(H:Hp):List Addr:=(List.range h.objs.size).filter λa=>(H a).isSome
def sD(h:Heap)(H:Hp):Heap:=PySem.W.hideAll h (trk h H)
def abj(h:Heap)(H:Hp):(sD h H).objs.size=h.objs.size:=PySem.W.hideAll_size _ _
def adb{H:Hp}{b:Addr}{o:Obj}(e:h.get? b=some o)(n:H b=none):(sD h H).get? b=some o:=
 PySem.W.hideAll_get _ e λI=>by have q:(H b).isSome=true:=(BI.mp I).2;rw[n] at q;simp at q
def ahz{H:Hp}{b:Addr}{o:Obj}(e:(sD h H).get? b=some o):h.get? b=some o/\H b=none:=by
 have I:h.get? b=some o:=PySem.W.of_hideAll (trk h H) e;refine⟨I,?_⟩;cases q:H b with
 |none=>rfl
 |some x=>
  have J:b∈trk h H:=BI.mpr ⟨AS.mpr (vb I),by simp[q]⟩;have z:(sD h H).get? b=none:=PySem.W.hideAll_none (trk h H) J;rw[z] at e;cases e
end L2
variable {xs zs:List L2.V}{H H' H₀:L2.Hp}{v:L2.V}
namespace L2
open PySem PySem.Spec PyProof.Rows
structure Mod(K:Ae)(mg:Str->Option Value)(base:Heap):Prop where
 kin:K.In base
 glob:base.Ns mainGlobals mg
 blt:∃mb,base.Ns builtinsNs mb/\∀x:Str,x ≠ "__name__" -> mb x=bootBuiltins x
 nolimit:base.NoLimit
structure Cx where
 prog:Program
 w:World
 K:Ae
 mg:Str->Option Value
 base:Heap
 A:Around
 N:List Str
 s₀:Shared
 H₀:Hp
 env:Env
 outer:List Env
 stack:List Env
 ex:List Addr
 fn:Str->Bool
 calm:Bool
 pn:List (Addr×Obj)
 xe:Value->Shared->Prop
def zU(l:List Env):List Addr:=l.filterMap (·.frame)
abbrev Cx.fs(X:Cx):List Addr:=zU X.outer
def Vis(I:Scope)(x:Str):Prop:=I.names.lookup x=some .local\/I.names.lookup x=some .cell\/I.names.lookup x=some .free
def Loc(I:Scope)(x:Str):Prop:=I.names.lookup x=some .local\/I.names.lookup x=some .cell
def ary(env:Env)(h:Heap)(m:Str->Option Value)(x:Str)(u:Value):Prop:=
 (env.kindOf x=some .local/\m x=some u)\/((env.kindOf x=some .cell\/env.kindOf x=some .free)/\∃c,env.cells.lookup x=some c/\h.IsCell c (some u))
structure Cx.Ok(X:Cx):Prop where
 mod:Mod X.K X.mg X.base
 kind:X.env.scope.kind=.function
 glob:X.env.globals=mainGlobals
 blt:X.env.builtins=builtinsNs
 above:X.s₀.heap.objs.size<=X.env.locals
 inj:∀x y c,X.env.cells.lookup x=some c->X.env.cells.lookup y=some c->x=y
 has:∀x,(X.env.kindOf x=some .cell\/X.env.kindOf x=some .free)->∃c,X.env.cells.lookup x=some c
 cab:∀x c,X.fn x=true->X.env.cells.lookup x=some c->X.s₀.heap.objs.size<=c
 hd:X.calm=true->X.A.handled=none
 frames:X.A.frames=some X.stack
 stk:X.stack=X.outer\/(X.stack=X.env::X.outer/\X.env.frame=some X.env.locals)
 exf:∀b∈X.ex,b≠X.env.locals/\∀x c,X.env.cells.lookup x=some c->c≠b
 bs:∀b o,X.base.get? b=some o->X.s₀.heap.get? b=some o/\X.H₀ b=none
 bsz:X.base.objs.size<=X.s₀.heap.objs.size
 noex:∀b o,X.base.get? b=some o->b∉X.ex
 exfs:∀b∈X.ex,b∉X.fs
 funs:X.s₀.heap.FunFrames X.base X.outer
 frf:∀b∈X.fs,X.H₀ b=none
structure z9(X:Cx)(pins:List (Addr×Obj))(σ:List (Option V))(H:Hp)(s:Shared):Prop where
 ok:X.Ok
 os:s.os=X.s₀.os
 bare:AllBare s.gens
 base:Un X.fs X.ex X.H₀ H X.s₀.heap s.heap
 loc:∃m,s.heap.Ns X.env.locals m/\∀(i:Nat) (x:Str) (v:V),X.N[i]?=some x->σ[i]?=some (some v)->Vis X.env.scope x->∃u,zv v u/\ary X.env s.heap m x u
 cell:∀x c,X.env.cells.lookup x=some c->∃v,s.heap.IsCell c v
 free:H X.env.locals=none
 freeC:∀x c,X.env.cells.lookup x=some c->H c=none
 pin:∀p∈X.pn++pins,s.heap.get? p.1=some p.2/\H p.1=none/\p.1≠X.env.locals/\p.1∉X.fs/\∀v,p.2.data≠.cell v
 hok:gC X.prog X.w H s.heap
 len:σ.length=X.N.length
 tk:0<s.toks
section
variable {X:Cx}{σ:List (Option V)}
theorem Cx.Ok.nofr(ok:X.Ok){b:Addr}{o:Obj}(e:X.base.get? b=some o):b∉X.fs:=λI=>by have:=(ok.funs.mem I).1;rw[e] at this;cases this
theorem z9.bs(I:z9 X pins σ H s):∀b o,X.base.get? b=some o->s.heap.get? b=some o/\H b=none:=λb o e=>
 ⟨I.base.keep b o (I.ok.bs b o e).1 (I.ok.bs b o e).2 (I.ok.nofr e) (I.ok.noex b o e),I.base.free b o (I.ok.bs b o e).1 (I.ok.bs b o e).2 (I.ok.noex b o e)⟩
def z9.bk(I:z9 X pins σ H s):∀b o,X.base.get? b=some o->s.heap.get? b=some o:=λb o e=>(I.bs b o e).1
theorem z9.mod(I:z9 X pins σ H s):Mod X.K X.mg X.base:=I.ok.mod
def z9.kIn(I:z9 X pins σ H s):X.K.In s.heap:=I.ok.mod.kin.keeps I.bk
theorem z9.nolimit(I:z9 X pins σ H s):s.heap.NoLimit:=I.ok.mod.nolimit.keeps I.bk
theorem z9.lt(I:z9 X pins σ H s):X.env.locals<s.heap.objs.size:=let ⟨_,J,_⟩:=I.loc;J.lt
def z9.sz(I:z9 X pins σ H s):X.s₀.heap.objs.size<=s.heap.objs.size:=AK I.ok.above (BD I.lt)
def z9.nofs(I:z9 X pins σ H s){a:Addr}(h:s.heap.objs.size<=a):a∉X.fs:=λJ=>by obtain⟨_,o,U,_⟩:=I.ok.funs.mem J;exact absurd (AM (vb U) (AK I.sz h)) (Cz _)
def z9.cne(I:z9 X pins σ H s):∀x c,X.env.cells.lookup x=some c->c≠X.env.locals:=λx c e z=>by obtain⟨v,o,g,hd⟩:=I.cell x c e;obtain⟨m,⟨j,l,p,J,U,_⟩,_⟩:=I.loc;rw[z,J] at g;cases g;rw[U] at hd;cases hd
theorem z9.funs(I:z9 X pins σ H s):s.heap.FunFrames X.base X.outer:=by
 have all:∀(l:List Env),(∀b∈zU l,b∈X.fs)->X.s₀.heap.FunFrames X.base l->s.heap.FunFrames X.base l:=by
  intro l
  induction l with
  |nil=>intro _ _;trivial
  |cons p r t=>
   intro j C;obtain⟨T,⟨L,o,J,hn,ho,hd⟩,hr⟩:=C;have U:L∈X.fs:=j L (by unfold zU;rw[CS,J];exact Av);obtain⟨sl,e⟩:=I.base.slot L o ho (I.ok.frf L U) U λz=>I.ok.exfs L z U;exact⟨T,⟨L,_,J,hn,e,hd⟩,t (λb g=>j b (by unfold zU;rw[CS,J];exact Ah _ g)) hr⟩
 exact all X.outer (λ_ g=>g) I.ok.funs
def z9.stack(I:z9 X pins σ H s):s.heap.FunFrames X.base X.stack:=by
 rcases I.ok.stk with e|⟨e,J⟩
 ·rw[e];exact I.funs
 ·rw[e];obtain⟨m,U,_⟩:=I.loc;refine .cons (by rw[I.ok.kind];decide) J U ?_ I.funs;exact Heap.get?_none_of_le (AK I.ok.bsz I.ok.above)
def z9.stkSub(I:z9 X pins σ H s):∀b∈zU X.stack,b∈X.env.locals::X.fs:=λb J=>by
 rcases I.ok.stk with e|⟨e,U⟩
 ·rw[e] at J;exact Ah _ J
 ·rw[e] at J;unfold zU at J;rw[CS,U] at J;exact J
def z9.stkFree(I:z9 X pins σ H s):∀b∈zU X.stack,H b=none:=λb J=>by
 rcases Ax.mp (I.stkSub b J) with e|J
 ·rw[e];exact I.free
 ·obtain⟨_,o,U,_⟩:=I.ok.funs.mem J;exact I.base.free b o U (I.ok.frf b J) λz=>I.ok.exfs b z J
def z9.step{g':Array GenState}{d':Drawn}(I:z9 X pins σ H s)
 (U:∀b∈ch,(b∈X.ex\/X.s₀.heap.objs.size<=b)/\b≠X.env.locals/\(∀x c,X.env.cells.lookup x=some c->c≠b)/\∀p∈X.pn++pins,p.1≠b)
 (keep:∀b o,b≠X.env.locals->b∉X.fs->b∉ch->s.heap.get? b=some o->H b=none->h'.get? b=some o)
 (slot:∀b o,b≠X.env.locals->b∈X.fs->b∉ch->s.heap.get? b=some o->H b=none->∃sl,h'.get? b=some { o with slots:=sl }) (free:∀b o,b∉ch->s.heap.get? b=some o->H b=none->H' b=none)
 (there:∀b o,b∉ch->s.heap.get? b=some o->∃o',h'.get? b=some o')
 (tups:∀b xs,H b=some (.tup xs)->H' b=some (.tup xs)) (frzs:∀b o u,H b=some (.frz o u)->H' b=some (.frz o u)) (tbls:∀b ps,H b=some (.tbl ps)->∃more,H' b=some (.tbl (ps++more)))
 (ns:∀m,s.heap.Ns X.env.locals m->h'.Ns X.env.locals m) (hok:gC X.prog X.w H' h') (hg:AllBare g') (ht:0<t':=by walk_at "t"):
 z9 X pins σ H' { s with heap:=h',gens:=g',drawn:=d',toks:=t' }:=by
 have xn:∀b o,X.s₀.heap.get? b=some o->b≠X.env.locals:=λb o e=>A4 (AM (vb e) I.ok.above);have t:∀b o,X.s₀.heap.get? b=some o->b∉X.ex->b∉ch:=λb o e J T=>by
  rcases (U b T).1 with z|z
  ·exact J z
  ·exact absurd (AM (vb e) z) (Cz _)
 have g:∀x c,X.env.cells.lookup x=some c->∀v,s.heap.IsCell c v->h'.IsCell c v:=λx c e v ⟨o,ho,hd⟩=>by
  have j:c∉ch:=λz=>(U c z).2.2.1 x c e rfl;by_cases hc:c∈X.fs
  ·obtain⟨sl,q⟩:=slot c o (I.cne x c e) hc j ho (I.freeC x c e);exact⟨_,q,hd⟩
  ·exact⟨o,keep c o (I.cne x c e) hc j ho (I.freeC x c e),hd⟩
 refine⟨I.ok,I.os,hg,⟨λb o e n T J=>?_,λb o e n T J=>?_,λb o e n J=>?_,λb o e J=>?_,λb xs e=>tups b xs (I.base.tups b xs e),λb o xs e=>frzs b o xs (I.base.frzs b o xs e),λb ps e=>?_⟩,?_,λx c e=>?_,?_,λx c e=>?_,λp hp=>?_,hok,I.len,ht⟩
 ·exact keep b o (xn b o e) T (t b o e J) (I.base.keep b o e n T J) (I.base.free b o e n J)
 ·obtain⟨sl,C⟩:=I.base.slot b o e n T J;obtain⟨a0,e2⟩:=slot b _ (xn b o e) T (t b o e J) C (I.base.free b o e n J);exact⟨a0,e2⟩
 ·obtain⟨o',C⟩:=I.base.there b o e J;exact free b o' (t b o e J) C (I.base.free b o e n J)
 ·obtain⟨o',C⟩:=I.base.there b o e J;exact there b o' (t b o e J) C
 ·obtain⟨m1,C⟩:=I.base.tbls b ps e;obtain⟨m2,e2⟩:=tbls b _ C;exact⟨m1++m2,by rw[e2,Array.append_assoc]⟩
 ·obtain⟨m,hn,hl⟩:=I.loc;refine⟨m,ns m hn,λi x v C e2 e3=>?_⟩;obtain⟨u,r,l⟩:=hl i x v C e2 e3;refine⟨u,r,?_⟩;rcases l with l|⟨k,c,e,z⟩
  ·exact .inl l
  ·exact .inr ⟨k,c,e,g x c e _ z⟩
 ·obtain⟨v,z⟩:=I.cell x c e;exact⟨v,g x c e v z⟩
 ·obtain⟨m,⟨o,_,_,ho,_⟩,_⟩:=I.loc;exact free _ o (λz=>(U _ z).2.1 rfl) ho I.free
 ·obtain⟨v,o,ho,hd⟩:=I.cell x c e;exact free c o (λz=>(U c z).2.2.1 x c e rfl) ho (I.freeC x c e)
 ·obtain⟨e,n,ne,nf,d⟩:=I.pin p hp;have j:p.1∉ch:=λz=>(U p.1 z).2.2.2 p hp rfl;exact⟨keep p.1 p.2 ne nf j e n,free p.1 p.2 j e n,ne,nf,d⟩
def z9.un(I:z9 X pins σ H s)(u:Un X.fs [] H H' s.heap h')(hok:gC X.prog X.w H' h')(T:0<t':=by walk_at "t"):z9 X pins σ H' { s with heap:=h',toks:=t' }:=by obtain⟨m,⟨o,es,ep,l,r⟩,_⟩:=id I.loc;obtain⟨sl,p⟩:=u.any l I.free (by simp);exact I.step (g':=s.gens) (d':=s.drawn) (ch:=[]) (λ_ z=>nomatch z) (λb o _ U _ e n=>u.keep b o e n U (by simp)) (λb o _ U _ e n=>u.slot b o e n U (by simp)) (λb o _ e n=>u.free b o e n (by simp)) (λb o _ e=>u.there b o e (by simp)) u.tups u.frzs u.tbls (λm' t=>by obtain⟨o',g,j,J,C⟩:=t;rw[l] at J;cases J;exact⟨_,g,j,p,C⟩) hok I.bare
def z9.call{g':Array GenState}{d':Drawn}(I:z9 X pins σ H s)(u:Un (zU X.stack) ch H H' s.heap h')(hok:gC X.prog X.w H' h')(T:AllBare g')
 (U:∀b∈ch,(b∈X.ex\/X.s₀.heap.objs.size<=b)/\b≠X.env.locals/\(∀x c,X.env.cells.lookup x=some c->c≠b)/\∀p∈X.pn++pins,p.1≠b) (ht:0<t':=by walk_at "t"):
 z9 X pins σ H' { s with heap:=h',gens:=g',drawn:=d',toks:=t' }:=by
 obtain⟨m,⟨o,es,ep,C,r⟩,_⟩:=id I.loc;obtain⟨sl,j⟩:=u.any C I.free λz=>(U _ z).2.1 rfl;exact I.step (ch:=ch) U (λb o j hb J e n=>u.keep b o e n (λz=>(Ax.mp (I.stkSub b z)).elim j hb) J) (λb o _ _ J e n=>u.any e n J) (λb o J e n=>u.free b o e n J) (λb o J e=>u.there b o e J) u.tups u.frzs u.tbls (λm' hm=>by obtain⟨o',l,t,g,r'⟩:=hm;rw[C] at g;cases g;exact⟨_,l,t,j,r'⟩) hok T
def z9.turned(I:z9 X pins σ H s)(k:∀b o,b≠it->s.heap.get? b=some o->h'.get? b=some o)(j:H it=none)(g:it≠X.env.locals)
 (h1:it∈X.ex\/X.s₀.heap.objs.size<=it) (h2:∀x c,X.env.cells.lookup x=some c->c≠it) (l:∀p∈X.pn++pins,p.1≠it) (ht:0<t':=by walk_at "t"):z9 X pins σ H { s with heap:=h',toks:=t' }:=by
 have U:∀b u,H b=some u->b≠it:=λb u e z=>by rw[z,j] at e;cases e
 refine I.step (g':=s.gens) (d':=s.drawn) (ch:=[it]) (λb t=>?_) (λb o _ _ J e _=>k b o (λz=>J (by simp[z])) e) (λb o _ _ J e _=>⟨o.slots,k b o (λz=>J (by simp[z])) e⟩) (λ_ _ _ _ n=>n)
  (λb o J e=>⟨o,k b o (λz=>J (by simp[z])) e⟩) (λ_ _ e=>e) (λ_ _ _ e=>e) (λb ps e=>⟨#[],by rw[e];simp⟩) (λm C=>?_) (λb u e=>?_) I.bare
 ·have e:b=it:=by simpa using t
  subst e;exact⟨h1,g,h2,l⟩
 ·obtain⟨o,T,ep,ho,r⟩:=C;exact⟨o,T,ep,k _ o (AH g) ho,r⟩
 ·refine(I.hok b u e).stay (λc v J q=>k c v ?_ q) (λ_ q=>q) λ_ _ q=>q;rcases J with z|z
  ·rw[z];exact U b u e
  ·exact U c _ z
def z9.tok(I:z9 X pins σ H s)(t:Nat)(J:0<t:=by walk_at "t"):z9 X pins σ H { s with toks:=t }:=I.un (h':=s.heap) (t':=t) Un.refl I.hok
theorem z9.kept(I:z9 X pins σ H s)(k:∀b u,s.heap.get? b=some u->h'.get? b=some u)(J:0<t':=by walk_at "t"):z9 X pins σ H { s with heap:=h',toks:=t' }:=I.un (Un.kept k) (I.hok.kept k)
theorem z9.laid{a:Addr}{o:HO}(I:z9 X pins σ H s)(k:∀b u,s.heap.get? b=some u->h'.get? b=some u)(hp:s.heap.objs.size<=a)(new:vg X.prog X.w (upd H a o) h' a o)(J:0<t':=by walk_at "t"):
 z9 X pins σ (upd H a o) { s with heap:=h',toks:=t' }:=I.un (Un.laid k hp (I.hok.fresh hp)) (I.hok.laid k hp new)
theorem z9.write{x e:Addr}{o:HO}(I:z9 X pins σ H s)(U:Mut (H x))(g:e=x\/H e=some (.own x))(k:∀b u,b≠e->s.heap.get? b=some u->h'.get? b=some u)(J:∃u,h'.get? e=some u)
 (new:vg X.prog X.w (upd H x o) h' x o) (j:0<t':=by walk_at "t"):z9 X pins σ (upd H x o) { s with heap:=h',toks:=t' }:=I.un (Un.write U g k J) (I.hok.write U g k J new)
def z9.weak{ky:List (Option V)}(I:z9 X pins σ H s)(U:ky.length=σ.length)(w:∀(i:Nat) v,ky[i]?=some (some v)->σ[i]?=some (some v)):z9 X pins ky H s:=
 ⟨I.ok,I.os,I.bare,I.base,let ⟨m,g,J⟩:=I.loc;⟨m,g,λi x v j l o=>J i x v j (w i v l) o⟩,I.cell,I.free,I.freeC,I.pin,I.hok,U.trans I.len,I.tk⟩
def z9.pins_of{J:List (Addr×Obj)}(I:z9 X pins σ H s)(h:∀p∈J,s.heap.get? p.1=some p.2/\H p.1=none/\p.1≠X.env.locals/\p.1∉X.fs/\∀v,p.2.data≠.cell v):z9 X J σ H s:=
 ⟨I.ok,I.os,I.bare,I.base,I.loc,I.cell,I.free,I.freeC,λp U=>(Ak.mp U).elim (λz=>I.pin p (Au _ z)) (h p),I.hok,I.len,I.tk⟩
def ug{N:List Str}(hN:N.Nodup)(a:N[i]?=some x)(b:N[j]?=some x):i=j:=by obtain⟨U,I⟩:=AU.mp a;obtain⟨g,J⟩:=AU.mp b;exact(List.getElem_inj hN).mp (I.trans J.symm)
def ph{Q:Unit->Shared->Prop}(I:z9 X pins σ H s)(hN:X.N.Nodup)(hi:X.N[i]?=some x)(t:Loc X.env.scope x)(r:zv v u)
 (h:∀s',z9 X pins (σ.set i (some v)) H s'->(∃a,Heap.SameBut a s.heap s'.heap/\(a=X.env.locals\/X.env.cells.lookup x=some a))->(X.env.kindOf x=some .local->∃m',s'.heap.Ns X.env.locals m'/\m' x=some u)->Q () s') (hf:X.fn x=true\/X.env.scope.names.lookup x=some .local:=by first|exact .inl rfl|exact .inr rfl|assumption):wpAny M A (storeName X.env x u) Q E s:=by
 obtain⟨m,hn,hl⟩:=id I.loc;have a2:(X.env.scope.kind==.class||(X.env.scope.kind==.module&&X.env.locals != X.env.globals))=false:=by rw[I.ok.kind];rfl
 have a0:i<σ.length:=by rw[I.len];exact(AU.mp hi).1
 have cne:=I.cne;have U:∀{a:Addr} {h':Heap},(∃o,s.heap.get? a=some o/\H a=none)->Heap.SameBut a s.heap h'->gC X.prog X.w H h':=λ{a h'} ha J b ob e=>by
  obtain⟨_,_,C⟩:=ha;refine(I.hok b ob e).stay (λc w' l q=>(J.2 c ?_).trans q) (λ_ q=>q) λ_ _ q=>q;rintro rfl;rcases l with rfl|l
  ·rw[C] at e;cases e
  ·rw[C] at l;cases l
 rcases t with T|T
 ·refine wpAny_storeName_local T hn (λh' a3 J=>?_) a2;obtain⟨oL,_,_,aL,_⟩:=id hn;refine h _ ⟨I.ok,I.os,I.bare,⟨λb o e n hb t=>?_,λb o e n hb t=>?_,I.base.free,λb o e t=>?_,I.base.tups,I.base.frzs,I.base.tbls⟩,⟨_,a3,λj y v' g e2 e3=>?_⟩,λy c e=>?_,I.free,I.freeC,λp hp=>?_,U ⟨oL,aL,I.free⟩ J,by simpa using I.len,by first|exact I.tk|exact CN _⟩ ⟨_,J,.inl rfl⟩ (λ_=>⟨_,a3,by simp⟩)
  ·exact(J.2 b (A4 (AM (vb e) I.ok.above))).trans (I.base.keep b o e n hb t)
  ·obtain⟨sl,g⟩:=I.base.slot b o e n hb t;exact⟨sl,(J.2 b (A4 (AM (vb e) I.ok.above))).trans g⟩
  ·obtain⟨o',g⟩:=I.base.there b o e t;exact⟨o',(J.2 b (A4 (AM (vb e) I.ok.above))).trans g⟩
  ·by_cases hj:j=i
   ·subst hj;rw[hi] at g;cases g;rw[B3 a0] at e2;cases e2;exact⟨u,r,.inl ⟨T,by simp⟩⟩
   ·rw[Br (AH hj)] at e2;obtain⟨u',r',q⟩:=hl j y v' g e2 e3;refine⟨u',r',?_⟩;rcases q with⟨k,e⟩|⟨k,c,e,z⟩
    ·refine .inl ⟨k,?_⟩;have:y≠x:=λe=>hj (ug hN g (e▸hi));simp[this,e]
    ·exact .inr ⟨k,c,e,z.sameBut J (cne y c e)⟩
  ·obtain⟨w',z⟩:=I.cell y c e;exact⟨w',z.sameBut J (cne y c e)⟩
  ·obtain⟨e,n,ne,nf,d⟩:=I.pin p hp;exact⟨(J.2 p.1 ne).trans e,n,ne,nf,d⟩
 ·have a1:X.fn x=true:=by
   rcases hf with z|z
   ·exact z
   ·rw[z] at T;cases T
  obtain⟨c,l⟩:=I.ok.has x (.inl T);obtain⟨w',z⟩:=I.cell x c l;refine wpAny_storeName_cell I.ok.kind T l z (λh' a4 J=>?_);obtain⟨oc,a5,ab⟩:=id z;refine h { s with heap:=h' } ⟨I.ok,I.os,I.bare,⟨λb o e n hb t=>?_,λb o e n hb t=>?_,I.base.free,λb o e t=>?_,I.base.tups,I.base.frzs,I.base.tbls⟩,⟨m,hn.sameBut J (AH (cne x c l)),λj y v' g e2 e3=>?_⟩,λy c' e=>?_,I.free,I.freeC,λp hp=>?_,U ⟨oc,a5,I.freeC x c l⟩ J,by simpa using I.len,I.tk⟩ ⟨c,J,.inr l⟩ (λz=>by have e:=(show X.env.kindOf x=some .cell from T).symm.trans z;cases e)
  ·exact(J.2 b (A4 (AM (vb e) (I.ok.cab x c a1 l)))).trans (I.base.keep b o e n hb t)
  ·obtain⟨sl,g⟩:=I.base.slot b o e n hb t;exact⟨sl,(J.2 b (A4 (AM (vb e) (I.ok.cab x c a1 l)))).trans g⟩
  ·obtain⟨o',g⟩:=I.base.there b o e t;exact⟨o',(J.2 b (A4 (AM (vb e) (I.ok.cab x c a1 l)))).trans g⟩
  ·by_cases hj:j=i
   ·subst hj;rw[hi] at g;cases g;rw[B3 a0] at e2;cases e2;exact⟨u,r,.inr ⟨.inl T,c,l,a4⟩⟩
   ·rw[Br (AH hj)] at e2;obtain⟨u',r',q⟩:=hl j y v' g e2 e3;refine⟨u',r',?_⟩;rcases q with q|⟨k,c',e,z'⟩
    ·exact .inl q
    ·refine .inr ⟨k,c',e,z'.sameBut J ?_⟩;rintro rfl;exact hj (ug hN g (I.ok.inj _ _ _ e l▸hi))
  ·by_cases ac:c'=c
   ·subst ac;exact⟨_,a4⟩
   ·obtain⟨w2,z2⟩:=I.cell y c' e;exact⟨w2,z2.sameBut J ac⟩
  ·obtain⟨e,n,ne,nf,d⟩:=I.pin p hp;refine⟨(J.2 p.1 ?_).trans e,n,ne,nf,d⟩;intro q;rw[q,a5] at e;have q':oc=p.2:=AW e;exact d w' (by rw[<-q'];exact ab)
def bG{Q:Unit->Shared->Prop}(I:z9 X pins σ H s)(hN:X.N.Nodup)(hi:X.N[i]?=some x)(J:Loc X.env.scope x)(r:zv v u)
 (h:∀s',z9 X pins (σ.set i (some v)) H s'->Q () s') (U:X.fn x=true\/X.env.scope.names.lookup x=some .local:=by first|exact .inl rfl|exact .inr rfl|assumption):wpAny M A (storeName X.env x u) Q E s:=
 ph I hN hi J r (λs' g _ _=>h s' g) U
def z9.call'(I:z9 X pins σ H s)(U:s'.os=s.os)(u:Un (zU X.stack) ch H H' s.heap s'.heap)(hok:gC X.prog X.w H' s'.heap)(g:AllBare s'.gens)
 (J:∀b∈ch,(b∈X.ex\/X.s₀.heap.objs.size<=b)/\b≠X.env.locals/\(∀x c,X.env.cells.lookup x=some c->c≠b)/\∀p∈X.pn++pins,p.1≠b) (j:0<s'.toks:=by walk_at "t"):z9 X pins σ H' s':=by
 obtain⟨o,g',d',t',l⟩:=s';have e:l=s.os:=U;subst e;exact I.call (g':=g') (t':=t') (d':=d') u hok g J j
end
abbrev XK:=Value->Option Addr->Hp->Prop
abbrev St:=List (Option V)
abbrev VK:=V->Hp->Prop
abbrev TE:=St->Hp->VK->Prop
abbrev TT:=St->Hp->(Bool->Hp->Prop)->Prop
abbrev TA:=St->Hp->(List V->Hp->Prop)->Prop
structure wM where
 nx:St->Hp->Prop
 rt:VK
 bk:St->Hp->Prop:=λ_ _=>False
 ct:St->Hp->Prop:=λ_ _=>False
abbrev TS:=wM->St->Hp->Prop
def EP(X:Cx)(pins:List (Addr×Obj))(σ:St)(Q:VK)(u:Value)(s':Shared):Prop:=∃v H',z9 X pins σ H' s'/\zv v u/\Q v H'
def TP(X:Cx)(pins:List (Addr×Obj))(σ:St)(Q:Bool->Hp->Prop)(b:Bool)(s':Shared):Prop:=∃H',z9 X pins σ H' s'/\Q b H'
def AP(X:Cx)(pins:List (Addr×Obj))(σ:St)(Q:List V->Hp->Prop)(us:List Value)(s':Shared):Prop:=∃vs H',z9 X pins σ H' s'/\zq vs us/\Q vs H'
def SP(X:Cx)(pins:List (Addr×Obj))(D:wM)(f:Flow)(s':Shared):Prop:=
 match f with
 |.next=>∃ky H',z9 X pins ky H' s'/\D.nx ky H'
 |.brk=>∃ky H',z9 X pins ky H' s'/\D.bk ky H'
 |.cont=>∃ky H',z9 X pins ky H' s'/\D.ct ky H'
 |.ret u=>∃v ky H',z9 X pins ky H' s'/\zv v u/\D.rt v H'
def PE(X:Cx)(e:Expr)(t:TE):Prop:=
 ∀(pins:List (Addr×Obj)) (s:Shared) (σ:St) (H:Hp) (Q:VK),z9 X pins σ H s->t σ H Q->wpAny (model X.prog X.w) X.A (eval e X.env) (EP X pins σ Q) X.xe s
def PT(X:Cx)(e:Expr)(t:TT):Prop:=
 ∀(pins:List (Addr×Obj)) (s:Shared) (σ:St) (H:Hp) (Q:Bool->Hp->Prop),z9 X pins σ H s->t σ H Q->wpAny (model X.prog X.w) X.A (isTrue e X.env (eval e X.env)) (TP X pins σ Q) X.xe s
def PW(X:Cx)(e:Expr)(t:TT):Prop:=
 ∀(whole:Sem Value) (pins:List (Addr×Obj)) (s:Shared) (σ:St) (H:Hp) (Q:Bool->Hp->Prop),z9 X pins σ H s->t σ H Q->wpAny (model X.prog X.w) X.A (isTrue e X.env whole) (TP X pins σ Q) X.xe s
def PW.pt{X:Cx}{t:TT}(h:PW X e t):PT X e t:=h _
def PA(X:Cx)(es:List Expr)(t:TA):Prop:=
 ∀(pos:Pos) (pins:List (Addr×Obj)) (s:Shared) (σ:St) (H:Hp) (Q:List V->Hp->Prop),z9 X pins σ H s->t σ H Q->wpAny (model X.prog X.w) X.A (spliced (backTo pos (starEach es X.env))) (AP X pins σ Q) X.xe s
def PS(X:Cx)(st:Stmt)(t:TS):Prop:=
 ∀(pins:List (Addr×Obj)) (s:Shared) (σ:St) (H:Hp) (D:wM),z9 X pins σ H s->t D σ H->wpAny (model X.prog X.w) X.A (exec st X.env) (SP X pins D) X.xe s
def lJ(X:Cx)(st:List Stmt)(t:TS):Prop:=
 ∀(pins:List (Addr×Obj)) (s:Shared) (σ:St) (H:Hp) (D:wM),z9 X pins σ H s->t D σ H->wpAny (model X.prog X.w) X.A (execs st X.env) (SP X pins D) X.xe s
def aT{t:Sem α}{Q I:α->Shared->Prop}(h:wpAny M A t Q E s)(J:∀a s,Q a s->I a s):wpAny M A t I E s:=AZ h J λ_ _ x=>x
def af{t:Sem Value}{X:Cx}{σ:St}{Q:VK}{I:Value->Shared->Prop}(h:wpAny M A t (EP X pins σ Q) E s)(J:∀v s x H,z9 X pins σ H s->zv x v->Q x H->I v s):wpAny M A t I E s:=aT h λv s ⟨x,H,a,b,c⟩=>J v s x H a b c
def sk{t:Sem (List Value)}{X:Cx}{σ:St}{Q:List V->Hp->Prop}{I:List Value->Shared->Prop}(h:wpAny M A t (AP X pins σ Q) E s)(J:∀v s x H,z9 X pins σ H s->zq x v->Q x H->I v s):wpAny M A t I E s:=aT h λv s ⟨x,H,a,b,c⟩=>J v s x H a b c
end L2
variable {r:L2.V->Option Int->Option Int->L2.Hp->L2.VK->Prop}{X:L2.Cx}{σ:L2.St}
namespace L2
open PySem PySem.Spec PyProof.Rows
section
def al1(i:Nat):TE:=λσ H Q=>∃v,σ[i]?=some (some v)/\Q v H
def tC(v:V):TE:=λ_ H Q=>Q v H
abbrev Ew(x:Str):Prop:=(x==("__debug__":Str))=false
abbrev Ex(x:Str):Prop:=(x==("__classdict__":Str))=false
def al5(hN:X.N[i]?=some x)(p:Vis X.env.scope x)(hd:Ew x:=by decide)(j:Ex x:=by decide):PE X (.Name x pos) (al1 i):=by
 intro g s t H Q I h;obtain⟨v,e,h⟩:=h;obtain⟨m,C,T⟩:=I.loc;obtain⟨u,r,l⟩:=T i x v hN e p;have k6:EP X g t Q u s:=⟨v,H,I,r,h⟩;rcases l with⟨U,hm⟩|⟨U,c,o,J⟩
 ·exact wpAny_Name (wpAny_loadName_local I.ok.kind U C hm k6) hd
 ·rcases U with U|U
  ·exact wpAny_Name (wpAny_loadName_cell I.ok.kind U o J k6) hd
  ·exact wpAny_Name (wpAny_loadName_free I.ok.kind U o J k6 j) hd
def al9{i j pos}:PE X (.Constant (.int i) j pos) (tC (.int i)):=λ_ _ _ H _ I h=>wpAny_Constant_int ⟨.int i,H,I.tok _,⟨_,rfl⟩,h⟩
def aoo{b j pos}:PE X (.Constant (.bool b) j pos) (tC (.bl b)):=λ_ _ _ H _ I h=>Constant_bool ⟨.bl b,H,I,rfl,h⟩
def als{j pos}:PE X (.Constant .none j pos) (tC .non):=λ_ _ _ H _ I h=>Constant_none ⟨.non,H,I,rfl,h⟩
def df{x j pos}:PE X (.Constant (.str x) j pos) (tC (.str x)):=λ_ _ _ H _ I h=>Calls.Constant_str ⟨.str x,H,I.tok _,⟨_,rfl⟩,h⟩
def Gl(X:Cx)(x:Str):Prop:=X.env.kindOf x=some .globalImplicit
def rZ(I:z9 X pins σ H s)(J:Gl X x)(U:X.mg x=some u)(h:Q u s)
 (hd:Ew x:=by decide):wpAny (model X.prog X.w) X.A (eval (.Name x pos) X.env) Q E s:=
 Calls.Name_function_global I.ok.kind J (Calls.loadGlobal_global (by rw[I.ok.glob];exact I.mod.glob.keeps I.bk) U h) hd
def gg(I:z9 X pins σ H s)(J:Gl X x)(U:X.mg x=none)(g:bootBuiltins x=some u)(h:Q u s)
 (j:x ≠ "__name__" := by decide) (hd:Ew x:=by decide):wpAny (model X.prog X.w) X.A (eval (.Name x pos) X.env) Q E s:=by
 obtain⟨p,l,o⟩:=I.mod.blt;exact Calls.Name_function_global I.ok.kind J (Calls.loadGlobal_builtin (by rw[I.ok.glob];exact I.mod.glob.keeps I.bk) U (by rw[I.ok.blt];exact l.keeps I.bk) ((o x j).trans g) h) hd
def ahy(J:Gl X x)(U:X.mg x=some u)(r:zv v u)(hd:Ew x:=by decide):PE X (.Name x pos) (tC v):=
 λ_ _ _ H _ I h=>rZ I J U ⟨v,H,I,r,h⟩ hd
def agv(J:Gl X x)(U:X.mg x=none)(g:bootBuiltins x=some u)(r:zv v u)(j:x ≠ "__name__" := by decide)(hd:Ew x:=by decide):PE X (.Name x pos) (tC v):=
 λ_ _ _ H _ I h=>gg I J U g ⟨v,H,I,r,h⟩ j hd
variable {a b:Expr}{ta tb:TE}
def PC(X:Cx)(op:CmpOp)(a b:Expr)(t:TE):Prop:=
 ∀(pins:List (Addr×Obj)) (s:Shared) (σ:St) (H:Hp) (Q:VK),z9 X pins σ H s->t σ H Q->
  wpAny (model X.prog X.w) X.A (eval a X.env) (λv I=>wpAny (model X.prog X.w) X.A (eval b X.env) (λu J=>wpAny (model X.prog X.w) X.A (compareOp op v u) (EP X pins σ Q) X.xe J) X.xe I) X.xe s
def uE(b:Expr){op:CmpOp}(h:op≠.In)(h2:op≠.NotIn):behindInMarks op b=false:=by
 have I:(op==CmpOp.In)=false:=by cases op<;>first|rfl|exact absurd rfl h
 have J:(op==CmpOp.NotIn)=false:=by cases op<;>first|rfl|exact absurd rfl h2
 cases b<;>simp[behindInMarks,I,J]
def ani(ta:TE):TE:=λσ H Q=>ta σ H λx H1=>Q (.bl (decide (x=.non))) H1
def ajt(ta:TE):TE:=λσ H Q=>ta σ H λx H1=>Q (.bl (!decide (x=.non))) H1
def zv.none_iff{x:V}{v:Value}(r:zv x v):(v==Value.none)=decide (x=.non):=by
 cases x with
 |non=>cases r;rfl
 |bl _=>cases r;rfl
 |int _=>obtain⟨t,rfl⟩:=r;rfl
 |str _=>obtain⟨t,rfl⟩:=r;rfl
 |byt _=>obtain⟨t,rfl⟩:=r;rfl
 |flt _=>obtain⟨t,rfl⟩:=r;rfl
 |ref _=>cases r;rfl
 |ty _=>cases r;rfl
def acu{j hQ}(U:PE X a ta):PC X .Is a (.Constant .none j hQ) (ani ta):=by intro J s g H Q I h;refine af (U J s g H _ I h) λv t x l o p r=>?_;exact Constant_none (is_none_gen ⟨.bl _,l,o,by rw[p.none_iff];rfl,r⟩)
def aii{j hQ}(U:PE X a ta):PC X .IsNot a (.Constant .none j hQ) (ajt ta):=by intro J s g H Q I h;refine af (U J s g H _ I h) λv t x l o p r=>?_;exact Constant_none (isnot_none_gen ⟨.bl _,l,o,by rw[p.none_iff];rfl,r⟩)
def tB(t:TE):TT:=λσ H Q=>t σ H λx H1=>∃c,x=.bl c/\Q c H1
def amn{op:CmpOp}{t:TE}(h:PC X op a b t)(h1:behindInMarks op b=false:=by first|exact uE _ (by decide) (by decide)|rfl):PE X (.Compare a [op] [b] pos) t:=λJ s U H Q I hw=>wpAny_Compare1 (h J s U H Q I hw) h1
def afh{op:CmpOp}{t:TE}(h:PC X op a b t)(h1:behindInMarks op b=false:=by first|exact uE _ (by decide) (by decide)|rfl):PT X (.Compare a [op] [b] pos) (tB t):=by intro J s U H Q I hw;refine wpAny_isTrue_Compare1 (aT (h J s U H _ I hw) λv r h1=>aT h1 λu C g=>aT g λc T ⟨x,j,l,o,p⟩=>?_) h1;obtain⟨d,rfl,q⟩:=p;cases o;exact wpAny_truthy_bool ⟨j,l,q⟩
def alm{t:TE}(h:PE X e t)(U:∀whole,isTrue e X.env whole=(do let v <-whole;standAt e.pos;holding [v] (truthy v)):=by intro _;rfl):PT X e (tB t):=by intro J s g H Q I hw;refine isTrue_plain (af (h J s g H _ I hw) λv r x j l o p=>?_) (U _);obtain⟨d,rfl,q⟩:=p;cases o;exact wpAny_truthy_bool ⟨j,l,q⟩
variable {tA qy:TT}{rest:List Expr}
def ar5(t u:TT):TT:=λσ H Q=>t σ H λc H1=>if c=true then u σ H1 Q else Q false H1
def tOr(t u:TT):TT:=λσ H Q=>t σ H λc H1=>if c=true then Q true H1 else u σ H1 Q
def asd(t:TT):TT:=λσ H Q=>t σ H λc H1=>Q (!c) H1
def ahi(U:PT X a tA):PW X (.BoolOp .And [a] pos) tA:=by intro j J s g H Q I h;refine isTrue_and (aT (U J s g H Q I h) λc l e=>?_);cases c with|true=>exact isTrue_and_nil e|false=>exact e
def ajy(U:PT X a tA):PW X (.BoolOp .Or [a] pos) tA:=by intro j J s g H Q I h;refine isTrue_or (aT (U J s g H Q I h) λc l e=>?_);cases c with|false=>exact isTrue_or_nil e|true=>exact e
def amw(o:PT X a tA)(p:PW X (.BoolOp .And (b::rest) pos) qy):PW X (.BoolOp .And (a::b::rest) pos) (ar5 tA qy):=by intro r J s U H Q I h;refine isTrue_and (aT (o J s U H _ I h) λc t ⟨g,j,l⟩=>?_);cases c with|true=>exact p r J t U g Q j l|false=>exact⟨g,j,l⟩
def apm(o:PT X a tA)(p:PW X (.BoolOp .Or (b::rest) pos) qy):PW X (.BoolOp .Or (a::b::rest) pos) (tOr tA qy):=by intro r J s U H Q I h;refine isTrue_or (aT (o J s U H _ I h) λc t ⟨g,j,l⟩=>?_);cases c with|true=>exact⟨g,j,l⟩|false=>exact p r J t U g Q j l
def ak5(U:PT X a tA):PT X (.UnaryOp .Not a pos) (asd tA):=by intro J s g H Q I h;exact isTrue_not (U J s g H (λc j=>Q (!c) j) I h)
def api(ta tb:TE):TE:=λσ H Q=>ta σ H λx H1=>∃c,x=.bl c/\if c=true then tb σ H1 Q else Q (.bl false) H1
def ap7(ta:TE):TE:=λσ H Q=>ta σ H λx H1=>∃c,x=.bl c/\Q (.bl (!c)) H1
def ak8{op}{t:TE}(h:PE X a t):PE X (.BoolOp op [a] pos) t:=λJ s U H Q I hw=>BoolOp_one (h J s U H Q I hw)
def al0(o:PE X a ta)(p:PE X (.BoolOp .And (b::rest) pos) tb):PE X (.BoolOp .And (a::b::rest) pos) (api ta tb):=by
 intro J s g H Q I h;refine BoolOp_and (af (o J s g H _ I h) λv r x j l t U=>?_);obtain⟨c,rfl,U⟩:=U;cases t;refine wpAny_truthy_bool ?_;cases c with
 |true=>exact p J r g j Q l U
 |false=>exact⟨.bl false,j,l,rfl,U⟩
def akb(g:PE X a ta):PE X (.UnaryOp .Not a pos) (ap7 ta):=by intro J s j H Q I h;refine UnaryOp_ (af (g J s j H _ I h) λv r x l o p U=>?_);obtain⟨c,rfl,U⟩:=U;cases p;exact not_of (wpAny_truthy_bool ⟨.bl (!c),l,o,rfl,U⟩)
def tIf(t:TT)(ta tb:TE):TE:=λσ H Q=>t σ H λc H1=>if c=true then ta σ H1 Q else tb σ H1 Q
def adn(hc:PT X c tA)(p:PE X a ta)(r:PE X b tb):PE X (.IfExp c a b pos) (tIf tA ta tb):=by intro J s U H Q I h;refine wpAny_IfExp (aT (hc J s U H _ I h) λd g ⟨j,l,o⟩=>?_);cases d with|true=>exact p J g U j Q l o|false=>exact r J g U j Q l o
end
def a9(K:Ae)(H:Hp)(a:Addr)(xs:List V):Prop:=
 Rd H a (.lst xs)\/
  ∃(o:Obj) (eH:Array Value) (n:Nat),K.lookup a=some o/\o.cls=.type "list" /\ o.dict=none/\o.data=.seq eH n/\eH.size<=sizeLine/\zq xs eH.toList
def dq(K:Ae)(H:Hp)(a:Addr)(xs:List V):Prop:=
 Rd H a (.tup xs)\/
  ∃(o:Obj) (eH:Array Value) (n:Nat),K.lookup a=some o/\o.cls=.type "tuple" /\ o.data=.seq eH n/\eH.size<=sizeLine/\zq xs eH.toList
def as6:Value->Option V
 |.none=>some .non
 |.bool b=>some (.bl b)
 |.int i _=>some (.int i)
 |.str x _=>some (.str x)
 |.bytes b _=>some (.byt b)
 |.float b _=>some (.flt b)
 |.ref a=>some (.ref a)
 |.type n=>some (.ty n)
 |_=>none
def zv.abs{x:V}(r:zv x u):as6 u=some x:=by
 cases x with
 |non=>cases r;rfl
 |bl _=>cases r;rfl
 |int _=>obtain⟨t,rfl⟩:=r;rfl
 |str _=>obtain⟨t,rfl⟩:=r;rfl
 |byt _=>obtain⟨t,rfl⟩:=r;rfl
 |flt _=>obtain⟨t,rfl⟩:=r;rfl
 |ref _=>cases r;rfl
 |ty _=>cases r;rfl
def zv.inj{x y:V}(r:zv x u)(q:zv y u):x=y:=AW (r.abs.symm.trans q.abs)
theorem zq.inj:∀{xs ys:List V} {us:List Value},zq xs us->zq ys us->xs=ys
 |_,_,_,.nil,.nil=>rfl
 |_,_,_,.cons r t,.cons I J=>by rw[r.inj I,zq.inj t J]
section
variable {a:Addr}{ys:List V}
def a9.of{K:Ae}(h:H a=some (.lst xs)):a9 K H a xs:=.inl (.inl h)
abbrev EU:=@a9.of
def dq.of{K:Ae}(h:H a=some (.tup xs)):dq K H a xs:=.inl (.inl h)
def z9.list(I:z9 X pins σ H s)(h:a9 X.K H a xs):∃eH:List Value,zq xs eH/\PlainL s.heap a eH.toArray/\xs.length<=sizeLine:=by
 rcases h with h|⟨o,eH,n,J,U,hd,g,j,r⟩
 ·obtain⟨z,eH,n,r,e⟩:=h.ok I.hok;exact⟨eH,r,⟨_,n,e,rfl,rfl,rfl⟩,z⟩
 ·refine⟨eH.toList,r,⟨o,n,I.kIn a o J,U,hd,by simpa using g⟩,?_⟩;have e:=r.length;simp only[AL] at e;lia
def z9.tuple(I:z9 X pins σ H s)(h:dq X.K H a xs):∃eH:List Value,zq xs eH/\IsTup s.heap a eH.toArray/\xs.length<=sizeLine:=by
 rcases h with h|⟨o,eH,n,J,U,g,j,r⟩
 ·obtain⟨z,eH,r,p⟩:=h.ok I.hok;exact⟨eH,r,p,z⟩
 ·refine⟨eH.toList,r,⟨o,I.kIn a o J,U,n,by simpa using g⟩,?_⟩;have e:=r.length;simp only[AL] at e;lia
def z9.list_inj(I:z9 X pins σ H s)(h:a9 X.K H a xs)(h':a9 X.K H a ys):xs=ys:=by
 obtain⟨U,r,⟨o,n,e,_,_,d⟩,_⟩:=I.list h;obtain⟨J,l,⟨p,t,g,_,_,j⟩,_⟩:=I.list h';rw[e] at g;cases g;rw[d] at j;injection j with d1 _
 have:U=J:=by simpa using BH Array.toList d1
 subst this;exact r.inj l
def z9.tuple_inj(I:z9 X pins σ H s)(h:dq X.K H a xs)(h':dq X.K H a ys):xs=ys:=by
 obtain⟨U,r,⟨o,e,_,n,d⟩,_⟩:=I.tuple h;obtain⟨J,l,⟨p,g,_,t,j⟩,_⟩:=I.tuple h';rw[e] at g;cases g;rw[d] at j;injection j with d1 _
 have:U=J:=by simpa using BH Array.toList d1
 subst this;exact r.inj l
end
abbrev Cx.wish(X:Cx)(E:Value->Shared->Prop):Cx:={ X with xe:=E }
abbrev Cx.nox(X:Cx):Cx:=X.wish λ_ _=>False
theorem Cx.Ok.wish(ok:X.Ok)(E:Value->Shared->Prop):(X.wish E).Ok:=
 ⟨ok.mod,ok.kind,ok.glob,ok.blt,ok.above,ok.inj,ok.has,ok.cab,ok.hd,ok.frames,ok.stk,ok.exf,ok.bs,ok.bsz,ok.noex,ok.exfs,ok.funs,ok.frf⟩
theorem Cx.Ok.unwish(ok:(X.wish E).Ok):X.Ok:=
 ⟨ok.mod,ok.kind,ok.glob,ok.blt,ok.above,ok.inj,ok.has,ok.cab,ok.hd,ok.frames,ok.stk,ok.exf,ok.bs,ok.bsz,ok.noex,ok.exfs,ok.funs,ok.frf⟩
theorem z9.wish(I:z9 X pins σ H s)(E:Value->Shared->Prop):z9 (X.wish E) pins σ H s:=⟨I.ok.wish E,I.os,I.bare,I.base,I.loc,I.cell,I.free,I.freeC,I.pin,I.hok,I.len,I.tk⟩
theorem z9.unwish(I:z9 (X.wish E) pins σ H s):z9 X pins σ H s:=⟨I.ok.unwish,I.os,I.bare,I.base,I.loc,I.cell,I.free,I.freeC,I.pin,I.hok,I.len,I.tk⟩
theorem SP.unwish{D:wM}{f:Flow}(h:SP (X.wish E) pins D f s'):SP X pins D f s':=by
 cases f with
 |next=>obtain⟨J,U,I,q⟩:=h;exact⟨J,U,I.unwish,q⟩
 |brk=>obtain⟨J,U,I,q⟩:=h;exact⟨J,U,I.unwish,q⟩
 |cont=>obtain⟨J,U,I,q⟩:=h;exact⟨J,U,I.unwish,q⟩
 |ret u=>obtain⟨v,J,U,I,r,q⟩:=h;exact⟨v,J,U,I.unwish,r,q⟩
def lJ.nox{st:List Stmt}{t:TS}(h:lJ X.nox st t):lJ X st t:=λJ s U H D I hw=>
 AZ (h J s U H D (I.wish _) hw) (λ_ _ q=>q.unwish) λ_ _ z=>False.elim z
section
variable {rest:List Stmt}{t u:TS}{te:TE}
def anq:TS:=λD σ H=>D.nx σ H
def asq(t u:TS):TS:=λD σ H=>t { D with nx:=u D } σ H
def ags:lJ X [] anq:=λ_ _ J H _ I h=>wpAny_execs_nil ⟨J,H,I,h⟩
def tM(h1:PS X st t)(h2:lJ X rest u):lJ X (st::rest) (asq t u):=by
 intro J s g H D I h;refine wpAny_execs_cons (aT (h1 J s g H { D with nx:=u D } I h) λf j q=>?_);cases f with
 |next=>
  obtain⟨U,l,o,q⟩:=q;exact h2 J j U l D o q
 |ret v=>exact q
 |brk=>exact q
 |cont=>exact q
def ag2(h1:PS X st t):lJ X [st] t:=by intro J s U H D I h;refine wpAny_execs_cons (aT (h1 J s U H D I h) λf g q=>?_);cases f with|next=>exact wpAny_execs_nil q|ret v=>exact q|brk=>exact q|cont=>exact q
def aot:TS:=λD σ H=>D.ct σ H
def uJ:PS X (.Continue pos) aot:=λ_ _ J H _ I h=>wpAny_Continue ⟨J,H,I,h⟩
def z9.quiet(I:z9 X pins σ H s):interactive X.env=false:=by simp[interactive,I.ok.kind]
def aov(te:TE):TS:=λD σ H=>te σ H λ_ H1=>D.nx σ H1
def aga(g:PE X e te)(hs:swapsWith e none pos.line X.env=pure false:=by rfl):PS X (.Expr e pos) (aov te):=by intro J s U H D I h;exact wpAny_Expr_any (af (g J s U H _ I h) λv p x j l r o=>⟨U,j,l,o⟩) I.quiet hs
def as3(te:TE):TS:=λD σ H=>te σ H D.rt
def alv(g:PE X e te):PS X (.Return (some e) pos) (as3 te):=by intro J s U H D I h;exact wpAny_Return_some (af (g J s U H _ I h) λv r x j l o p=>⟨x,U,j,l,o,p⟩)
def ao1:TS:=λD _ H=>D.rt .non H
def ahp:PS X (.Return none pos) ao1:=λ_ _ J H _ I h=>wpAny_Return_none ⟨.non,J,H,I,rfl,h⟩
def asy(c:TT)(t u:TS):TS:=λD σ H=>c σ H λb H1=>if b=true then t D σ H1 else u D σ H1
def apg{a b:List Stmt}{tc:TT}(hc:PT X c tc)(p:lJ X a t)(r:lJ X b u):PS X (.If c a b pos) (asy tc t u):=by intro J s U H D I h;refine wpAny_If (aT (hc J s U H _ I h) λd g ⟨j,l,o⟩=>?_);cases d with|true=>exact p J g U j D l o|false=>exact r J g U j D l o
end
abbrev TG:=V->St->Hp->(St->Hp->Prop)->Prop
abbrev TGs:=List V->St->Hp->(St->Hp->Prop)->Prop
def PG(X:Cx)(target:Expr)(t:TG):Prop:=
 ∀(pins:List (Addr×Obj)) (s:Shared) (σ:St) (H:Hp) (v:V) (u:Value) (Q:St->Hp->Prop),z9 X pins σ H s->zv v u->t v σ H Q->
  wpAny (model X.prog X.w) X.A (assign target X.env u) (λ_ s'=>∃ky H',z9 X pins ky H' s'/\Q ky H') X.xe s
def PGs(X:Cx)(ts:List Expr)(t:TGs):Prop:=
 ∀(pins:List (Addr×Obj)) (s:Shared) (σ:St) (H:Hp) (vs:List V) (us:List Value) (Q:St->Hp->Prop),z9 X pins σ H s->zq vs us->t vs σ H Q->
  wpAny (model X.prog X.w) X.A (assignInOrder ((assignEach ts X.env).map (·.2)) us) (λ_ s'=>∃ky H',z9 X pins ky H' s'/\Q ky H') X.xe s
abbrev ajv:=V->V->V->Hp->(Hp->Prop)->Prop
def aoy(X:Cx)(t:ajv):Prop:=
 ∀(pins:List (Addr×Obj)) (s:Shared) (σ:St) (H:Hp) (o i v:V) (I J u:Value) (Q:Hp->Prop),z9 X pins σ H s->zv o I->zv i J->zv v u->t o i v H Q->
  wpAny (model X.prog X.w) X.A (setItem I J u) (λ_ s'=>∃H',z9 X pins σ H' s'/\Q H') X.xe s
def e9(i:Nat):TG:=λv σ H Q=>Q (σ.set i (some v)) H
def lU(hN:X.N.Nodup)(hi:X.N[i]?=some x)(U:Loc X.env.scope x)(g:X.fn x=true\/X.env.scope.names.lookup x=some .local:=by first|exact .inl rfl|exact .inr rfl|assumption):PG X (.Name x pos) (e9 i):=by intro J s l H v u Q I r h;exact wpAny_assign_Name (bG I hN hi U r (λo j=>⟨_,H,j,h⟩) g)
def ajw:TGs:=λvs σ H Q=>vs=[]/\Q σ H
def u9(t:TG)(u:TGs):TGs:=λvs σ H Q=>∃v r,vs=v::r/\t v σ H λky H'=>u r ky H' Q
def yN:PGs X [] ajw:=by intro J s U H g j Q I r h;obtain⟨e,h⟩:=h;subst e;cases r;exact assignInOrder_nil ⟨U,H,I,h⟩
def mF{t:TG}{u:TGs}(h1:PG X e t)(h2:PGs X es u)
 (hs:(assignEach (e::es) X.env).map (·.2)=assign e X.env::(assignEach es X.env).map (·.2):=by rfl):PGs X (e::es) (u9 t u):=by
 intro J s g H T us Q I r h;obtain⟨v,vr,j,h⟩:=h;subst j;cases r with
 |cons r rr=>
  rw[hs];refine assignInOrder_cons (aT (h1 J s g H _ _ _ I r h) λ_ l ⟨U,o,p,C⟩=>?_);exact h2 J l U o _ _ Q p rr C
def ams(K:Ae)(n:Nat)(t:TGs):TG:=λv σ H Q=>∃a xs,v=.ref a/\dq K H a xs/\xs.length=n/\t xs σ H Q
def adu{k:Nat}{t:TGs}(hc:X.calm=true)(h:PGs X es t)
 (l:(assignEach es X.env).length=n:=by rfl) (U:(assignEach es X.env).findIdx? (·.1)=none:=by rfl):PG X (.Tuple es k pos) (ams X.K n t):=by
 intro J s g H v u Q I r hw;obtain⟨a,p,C,T,hl,hw⟩:=hw;subst C;cases r;obtain⟨a0,j,ht,hz⟩:=I.tuple T;refine assign_Tuple_tuple (I.ok.hd hc) ht (by simp[l,<-hl,j.length]) U λh' hx=>?_;have I1:z9 X J g H { s with heap:=h' }:=I.kept (t':=s.toks) λb o e=>hx b o (A4 (vb e)) e;exact h J _ g H p _ Q I1 (by simpa using j) hw
def arq(to ti:TE)(t:ajv):TG:=λv σ H Q=>to σ H λo H1=>ti σ H1 λi H2=>t o i v H2 λI=>Q σ I
def an0{i:Expr}{to ti:TE}{t:ajv}(l:PE X o to)(hi:PE X i ti)(hs:aoy X t)
 (p:∀v,assign (.Subscript o i pos) X.env v=(do
  let U <-holding [v] (eval o X.env)
  let g <-holding [v,U] (eval i X.env)
  standAt pos
  holding [v,U,g] (setItem U g v)
  release [v,U,g] []):=by intro _;rfl):PG X (.Subscript o i pos) (arq to ti t):=by
 intro J s j H v u Q I r h;rw[p];refine Aa (Be (af (l J s j H _ I h) λU C x T I1 r1 q1=>?_));refine Aa (Be (af (hi J C j T _ I1 q1) λg s2 y H2 I2 r2 q2=>?_));refine Aa (wpAny_standAt (Aa (Be (aT (hs J s2 j H2 x y v U g u _ I2 r1 r2 r q2) λ_ s3 ⟨H3,I3,q3⟩=>?_))));exact wpAny_release ⟨j,H3,I3,q3⟩
def ak4(te:TE)(g:TG):TS:=λD σ H=>te σ H λx H1=>g x σ H1 D.nx
def aee{te:TE}{g:TG}(j:PE X e te)(l:PG X tg g)(hs:swapsWithSole [tg] e pos.line X.env=pure false:=by rfl)(hw:swappedStores [tg] e X.env=pure none:=by rfl)
 (h1:(assignEach [tg] X.env).map (·.2)=[assign tg X.env]:=by rfl):PS X (.Assign [tg] e pos) (ak4 te g):=by
 intro J s U H D I h;refine wpAny_Assign_stores (af (j J s U H _ I h) λv o x p r t C=>?_) hs hw;rw[h1];exact aT (l J o U p x v _ r t C) λ_ T q=>q
def akd{te:TE}(hN:X.N.Nodup)(hi:X.N[i]?=some x)(U:Loc X.env.scope x)(g:PE X e te)(hs:swapsWith e (some (.Name x hQ)) pos.line X.env=pure false:=by rfl)(j:X.fn x=true\/X.env.scope.names.lookup x=some .local:=by first|exact .inl rfl|exact .inr rfl|assumption):
 PS X (.Assign [.Name x hQ] e pos) (ak4 te (e9 i)):=by
 intro J s l H D I h;refine wpAny_Assign_Name (af (g J s l H _ I h) λv T y o p r t=>?_) hs;exact bG p hN hi U r (λs2 C=>⟨_,o,C,t⟩) j
def ash(i j:Nat)(ta:TA):TS:=λD σ H=>ta σ H λvs H1=>∃v w,vs=[v,w]/\D.nx ((σ.set i (some v)).set j (some w)) H1
def ak1{y:Str}{a b:Expr}{ta:TA}{px pt:Pos}{kt t U}(hc:X.calm=true)(hN:X.N.Nodup)(hi:X.N[i]?=some x)(hj:X.N[j]?=some y)(C:i≠j)
 (hx:X.env.scope.names.lookup x=some .local) (hy:X.env.scope.names.lookup y=some .local) (ha:PA X [a,b] ta)
 (hw:swappedStores [.Tuple [.Name x px,.Name y py] kt pt] (.Tuple [a,b] t U) X.env=pure (some [x,y]))
 (hs:swapsWithSole [.Tuple [.Name x px,.Name y py] kt pt] (.Tuple [a,b] t U) pos.line X.env=pure false:=by rfl):
 PS X (.Assign [.Tuple [.Name x px,.Name y py] kt pt] (.Tuple [a,b] t U) pos) (ash i j ta):=by
 intro J s σ H D I h;rw[exec_Assign_arm];refine Aa (wpAny_standAt ?_);rw[hs];refine Aa (Ai ?_);rw[As (by decide)];refine Aa (Tuple_ (sk (ha _ J s σ H _ I h) λus g vs H1 I1 r1 T=>?_));obtain⟨v,w,e1,T⟩:=T;subst e1;obtain⟨l,r,rfl,rv,a0⟩:∃l r,us=[l,r]/\zv v l/\zv w r:=by
  cases r1 with
  |cons p q=>
   cases q with
   |cons p' q'=>
    cases q';exact⟨_,_,rfl,p,p'⟩
 refine Bn ?_ (by show 2<=sizeLine;decide);have I2:z9 X J σ H1 { g with heap:=g.heap.push { cls:=.type "tuple",data:=.seq [l,r].toArray } }:=I1.kept (t':=g.toks) λb o e=>u3 _ e;rw[hw];refine Aa (Ai ?_);show wpAny (model X.prog X.w) X.A (do rule "assign.swapped-stores";let items <-unpackItems (.ref g.heap.objs.size) 2 none;assignInOrder [λv=>bindName X.env y v,λv=>bindName X.env x v] items.reverse;pure Flow.next) _ _ _;refine Aa (Bu (Aa (unpackItems_tuple (items:=#[l,r]) (I.ok.hd hc) (IsTup.new g.heap _) λh' a1=>?_)));have I3:=I2.kept (h':=h') (t':=g.toks) λb o e=>a1 b o (A4 (vb e)) e;show wpAny _ _ (assignInOrder [λv=>bindName X.env y v,λv=>bindName X.env x v] [r,l] >>= λ_=>pure Flow.next) _ _ _;refine Aa (assignInOrder_cons (wpAny_bindName (bG I3 hN hj (.inl hy) a0 (λs2 I4=>?_) (.inr hy))));refine assignInOrder_cons (wpAny_bindName (bG I4 hN hi (.inl hx) rv (λs3 I5=>assignInOrder_nil (Ai ?_)) (.inr hx)));rw[DM _ _ (AH C)] at I5;exact⟨_,H1,I5,T⟩
def alp(c:TT)(tb:TS):TS:=λD σ H=>∃W:Nat->St->Hp->Prop,(∃m,W m σ H)/\∀m σ H,W m σ H->
 c σ H λb H1=>if b=true then ∃N:St->Hp->Prop,(∀ky H',N ky H'->∃I,I<m/\W I ky H')/\tb { D with nx:=N,ct:=N,bk:=D.nx } σ H1 else D.nx σ H1
def ae8{tc:TT}{tb:TS}(hp:PassesOwn (model X.prog X.w) X.A X.env X.xe)(hc:PT X c tc)(hb:lJ X body tb):PS X (.While c body [] pos) (alp tc tb):=by
 intro J s σ H D I h;obtain⟨W,⟨m0,w0⟩,turn⟩:=h;refine wpAny_While (codeAny_whileLoop (λn s'=>∃j H',z9 X J j H' s'/\W n j H') ?_ m0 ⟨σ,H,I,w0⟩);rintro n s1 ⟨g,H1,I1,w1⟩;refine wpAny_passesOwn hp (aT (hc J s1 g H1 _ I1 (turn n g H1 w1)) λb s2 ⟨H2,I2,o⟩=>?_);cases b with
 |true=>
  obtain⟨N,hN,o⟩:=o;rw[Aw rfl];refine wpAny_passesOwn hp (aT (hb J s2 g H2 _ I2 o) λf s3 p=>?_);cases f with
  |next=>
   obtain⟨U,l,r,t⟩:=p;obtain⟨C,T,w3⟩:=hN U l t;exact⟨C,T,U,l,r,w3⟩
  |cont=>
   obtain⟨U,l,r,t⟩:=p;obtain⟨C,T,w3⟩:=hN U l t;exact⟨C,T,U,l,r,w3⟩
  |brk=>exact p
  |ret v=>exact p
 |false=>
  rw[As AC];exact wpAny_execs_nil ⟨g,H2,I2,o⟩
structure It where
 go:Nat->Hp->Prop
 yld:Nat->Hp->V->Hp->Prop
 stop:Nat->Hp->Prop
def oh(X:Cx)(pins:List (Addr×Obj))(H:Hp)(b:Addr):Prop:=
 H b=none/\b≠X.env.locals/\b∉X.fs/\(b∈X.ex\/X.s₀.heap.objs.size<=b)/\(∀x c,X.env.cells.lookup x=some c->c≠b)/\∀p∈X.pn++pins,p.1≠b
def z9.fpOk{b:Addr}(I:z9 X pins σ H s)(J:s.heap.objs.size<=b)(U:H' b=none):oh X pins H' b:=by
 refine⟨U,C9 (AM I.lt J),I.nofs J,.inr (AK I.sz J),λx c e z=>?_,λp g z=>?_⟩
 ·obtain⟨v,q⟩:=I.cell x c e;exact absurd (AM q.lt (by rw[z];exact J)) (Cz _)
 ·exact absurd (AM (vb (I.pin p g).1) (by rw[z];exact J)) (Cz _)
structure aau(P:Program)(w:World)(K:Ae)(tg:Expr)(J:It)(fp:List Addr)(it:Addr)(tn:Nat->Heap->Prop):Prop where
 mem:it∈fp
 obj:∀i h,tn i h->∀b∈fp,∃o,h.get? b=some o/\∀v,o.data≠.cell v
 keep:∀i h h',tn i h->(∀b∈fp,∀o,h.get? b=some o->h'.get? b=some o)->tn i h'
 item:∀(X:Cx),X.prog=P->X.w=w->X.K=K->X.calm=true->∀(i:Nat) (pins:List (Addr×Obj)) (s:Shared) (σ:St) (H:Hp) (E:Value->Shared->Prop),z9 X pins σ H s->(∀b∈fp,oh X pins H b)->tn i s.heap->J.go i H->
  wpAny (model P w) X.A (pyNext (.ref it)) (λr s1=>∃u,r=some u/\
   wpAny (model P w) X.A (letOwnedTupleGo tg (.ref it) u) (λ_ s2=>∃x H',z9 X pins σ H' s2/\zv x u/\J.yld i H x H'/\tn (i+1) s2.heap/\∀b∈fp,H' b=none) E s1) E s
 done:∀(X:Cx),X.prog=P->X.w=w->X.K=K->X.calm=true->∀(i:Nat) (pins:List (Addr×Obj)) (s:Shared) (σ:St) (H:Hp) (E:Value->Shared->Prop),z9 X pins σ H s->(∀b∈fp,oh X pins H b)->tn i s.heap->J.stop i H->
  wpAny (model P w) X.A (pyNext (.ref it)) (λr s1=>r=none/\z9 X pins σ H s1) E s
 self:∀(A:Around) (i:Nat) (s:Shared) (Q:Value->Shared->Prop) (E:Value->Shared->Prop),tn i s.heap->Q (.ref it) s->wpAny (model P w) A (pyIter (.ref it)) Q E s
abbrev TI:=St->Hp->(It->Hp->Prop)->Prop
def PIE(X:Cx)(pins:List (Addr×Obj))(σ:St)(tg:Expr)(R:It->Hp->Prop)(I:Value)(U:Shared):Prop:=
 ∃(it:Addr) (fp:List Addr) (g:Nat->Heap->Prop) (J:It) (H':Hp),I=.ref it/\z9 X pins σ H' U/\aau X.prog X.w X.K tg J fp it g/\g 0 U.heap/\(∀b∈fp,oh X pins H' b)/\R J H'
def PI(X:Cx)(tg iter:Expr)(wi:TI):Prop:=
 ∀(pins:List (Addr×Obj)) (s:Shared) (σ:St) (H:Hp) (R:It->Hp->Prop),z9 X pins σ H s->wi σ H R->
  wpAny (model X.prog X.w) X.A (eval iter X.env) (λv I=>wpAny (model X.prog X.w) X.A (pyIter v) (PIE X pins σ tg R) X.xe I) X.xe s
def aes{o:Obj}{n:String}{vs:Array Value}{Q:Unit->Shared->Prop}(J:s.heap.get? it=some o)(hc:o.cls=.type n)(hd:o.data=.fields vs)
 (U:["enumerate","zip","dict_itemiterator","dict_reverseitemiterator","odict_iterator","itertools.zip_longest","itertools.pairwise"].contains n=false) (I:Q () s):wpAny M A (letOwnedTupleGo tg (.ref it) u) Q E s:=by
 unfold letOwnedTupleGo;cases tg<;>first
  |exact Ai I
  |(cases u<;>first
   |exact Ai I
   |(refine Aa (wpAny_load J ?_)
     rw[hc,hd];show wpAny M A (if (["enumerate","zip","dict_itemiterator","dict_reverseitemiterator","odict_iterator","itertools.zip_longest","itertools.pairwise"].contains n&&vs[0]?==some (rawInt _))=true then _ else _) Q E s;rw[As (by intro h;rw[U,Bool.false_and] at h;cases h)];exact Ai I))
def Itl(K:Ae)(a:Addr):It:=
 ⟨λi H=>∃xs x,a9 K H a xs/\xs[i]?=some x,λi H x H'=>H'=H/\∀xs,a9 K H a xs->xs[i]?=some x,λi H=>∃xs,a9 K H a xs/\xs.length<=i⟩
def Itt(K:Ae)(a:Addr):It:=
 ⟨λi H=>∃xs x,dq K H a xs/\xs[i]?=some x,λi H x H'=>H'=H/\∀xs,dq K H a xs->xs[i]?=some x,λi H=>∃xs,dq K H a xs/\xs.length<=i⟩
def Itr(lo:Int)(n:Nat):It:=⟨λi _=>i<n,λi H x H'=>H'=H/\x=.int (lo+i),λi _=>n<=i⟩
def zR{P:Program}{w:World}{K:Ae}(a it:Addr):aau P w K tg (Itl K a) [it] it (λi h=>h.IsListIter it a i) where
 mem:=by simp
 obj:=λi h st b U=>by
  have e:b=it:=by simpa using U
  subst e;obtain⟨o,e,c,d⟩:=st;exact⟨o,e,λv z=>by rw[d] at z;cases z⟩
 keep:=λi h j st k=>st.at λo e=>k it (by simp) o e
 item:=by intro X t hw C hc i J s σ H E I l st T;subst t hw C;obtain⟨xs,x,r,hx⟩:=T;obtain⟨a0,rv,p,hz⟩:=I.list r;obtain⟨u,hu,ru⟩:=rv.get hx;obtain⟨f0,f1,f2,f3,f4,f5⟩:=l it (by simp);refine wpAny_pyNext_list_item st p.isList (x:=u) (by simpa using hu) λj g sb=>?_;have I1:z9 X J σ H { s with heap:=j }:=I.turned (t':=s.toks) (λb o U e=>(sb.2 b U).trans e) f0 f1 f3 f4 f5;obtain⟨o,e,c,d⟩:=id g;exact⟨u,rfl,aes (s:={ s with heap:=j }) e c d (by decide) ⟨x,H,I1,ru,⟨rfl,λys hy=>by rw[I.list_inj hy r];exact hx⟩,g,λb U=>(l b U).1⟩⟩
 done:=by intro X t hw C hc i J s σ H E I l st T;subst t hw C;obtain⟨xs,r,hx⟩:=T;obtain⟨a0,rv,p,hz⟩:=I.list r;obtain⟨f0,f1,f2,f3,f4,f5⟩:=l it (by simp);have hl:=rv.length;exact wpAny_pyNext_list_end (I.ok.hd hc) st p.isList (by simp;lia) λj eb=>⟨rfl,I.turned (t':=s.toks) (λb o U e=>eb b o U e) f0 f1 f3 f4 f5⟩
 self:=λ_ _ _ _ _ st h=>wpAny_pyIter_listiter st h
def xC{P:Program}{w:World}{K:Ae}(a it:Addr):aau P w K tg (Itt K a) [it] it (λi h=>h.IsTupleIter it a i) where
 mem:=by simp
 obj:=λi h st b U=>by
  have e:b=it:=by simpa using U
  subst e;obtain⟨o,e,c,d⟩:=st;exact⟨o,e,λv z=>by rw[d] at z;cases z⟩
 keep:=λi h l st k=>st.at λo e=>k it (by simp) o e
 item:=by intro X C hw T hc i J s σ H E I r st hg;subst C hw T;obtain⟨xs,x,t,hx⟩:=hg;obtain⟨g,rv,p,hz⟩:=I.tuple t;obtain⟨u,hu,ru⟩:=rv.get hx;obtain⟨f0,f1,f2,f3,f4,f5⟩:=r it (by simp);refine wpAny_pyNext_tuple_item st (show s.heap.IsTuple a g.toArray from p) (x:=u) (by simpa using hu) λl j sb=>?_;have I1:z9 X J σ H { s with heap:=l }:=I.turned (t':=s.toks) (λb o U e=>(sb.2 b U).trans e) f0 f1 f3 f4 f5;obtain⟨o,e,c,d⟩:=id j;exact⟨u,rfl,aes (s:={ s with heap:=l }) e c d (by decide) ⟨x,H,I1,ru,⟨rfl,λys hy=>by rw[I.tuple_inj hy t];exact hx⟩,j,λb U=>(r b U).1⟩⟩
 done:=by intro X C hw T hc i J s σ H E I r st hg;subst C hw T;obtain⟨xs,t,hx⟩:=hg;obtain⟨g,rv,p,hz⟩:=I.tuple t;obtain⟨f0,f1,f2,f3,f4,f5⟩:=r it (by simp);have hl:=rv.length;exact wpAny_pyNext_tuple_end (I.ok.hd hc) st (show s.heap.IsTuple a g.toArray from p) (by simp;lia) λl eb=>⟨rfl,I.turned (t':=s.toks) (λb o U e=>eb b o U e) f0 f1 f3 f4 f5⟩
 self:=λ_ _ _ _ _ st h=>wpAny_pyIter_tupleiter st h
theorem wC{P:Program}{w:World}{K:Ae}(it:Addr)(lo:Int)(n:Nat):aau P w K tg (Itr lo n) [it] it (λi h=>IsRangeIter h it (lo+(i:Nat)*1) ((n:Int)-(i:Nat)) 1) where
 mem:=by simp
 obj:=λi h st b U=>by
  have e:b=it:=by simpa using U
  subst e;exact⟨_,st,λv z=>by have z':Data.fields _=Data.cell v:=z;cases z'⟩
 keep:=λi h j st k=>k it (by simp) _ st
 item:=by intro X p hw r C i J s σ H E I l st T;subst p hw r;obtain⟨f0,f1,f2,f3,f4,f5⟩:=l it (by simp);have W:=Walks.range (prog:=X.prog) (w:=X.w) (I.ok.hd C) it lo 1 n;refine xj I.tk (W.item i s _ _ T st λv j tk hv g kk ht=>?_);obtain⟨t,rfl⟩:=hv;have I1:z9 X J σ H { s with heap:=j,toks:=tk }:=I.turned (λb o U e=>kk b o (by simpa using U) e) f0 f1 f3 f4 f5;refine⟨_,rfl,aes (s:={ s with heap:=j,toks:=tk }) (n:="range_iterator") g rfl rfl (by decide) ⟨.int (lo+i),H,I1,⟨t,?_⟩,⟨rfl,rfl⟩,g,λb U=>(l b U).1⟩⟩;rw[Int.mul_one]
 done:=by intro X p hw r C i J s σ H E I l st T;subst p hw r;obtain⟨f0,f1,f2,f3,f4,f5⟩:=l it (by simp);exact wpAny_pyNext_range_end (I.ok.hd C) st (by have:n<=i:=T;lia) λj eb=>⟨rfl,I.turned (t':=s.toks) (λb o U e=>eb b o U e) f0 f1 f3 f4 f5⟩
 self:=λ_ _ _ _ _ st h=>wpAny_pyIter_rangeiter st h
end L2
variable {wi:L2.TI}
namespace L2
open PySem PySem.Spec PyProof.Rows
def ap0(K:Ae)(tl:TE):TI:=λσ H R=>tl σ H λx H1=>∃a,x=.ref a/\(∃xs,a9 K H1 a xs)/\R (Itl K a) H1
def at3(K:Ae)(tl:TE):TI:=λσ H R=>tl σ H λx H1=>∃a,x=.ref a/\(∃xs,dq K H1 a xs)/\R (Itt K a) H1
def ahv{l:Expr}{tl:TE}(j:PE X l tl):PI X tg l (ap0 X.K tl):=by
 intro J s r H R I h;refine af (j J s r H _ I h) λv U x t g C T=>?_;obtain⟨a,e,⟨xs,hq⟩,q⟩:=T;subst e;cases C;obtain⟨a0,rv,p,hz⟩:=g.list hq;refine wpAny_pyIter_list p.isList ?_;refine⟨U.heap.objs.size,[U.heap.objs.size],_,_,t,rfl,g.kept (t':=U.toks) λb o e=>u3 _ e,zR a _,⟨_,vc _ rfl,rfl,rfl⟩,λb hb=>?_,q⟩;have e:b=U.heap.objs.size:=by simpa using hb
 subst e;exact g.fpOk (Al _) (g.hok.fresh (Al _))
def alk{l:Expr}{tl:TE}(r:PE X l tl):PI X tg l (at3 X.K tl):=by
 intro J s t H R I h;refine af (r J s t H _ I h) λv U x C g T q1=>?_;obtain⟨a,e,⟨xs,hq⟩,q⟩:=q1;subst e;cases T;obtain⟨j,rv,p,hz⟩:=g.tuple hq;refine wpAny_pyIter_tuple (show U.heap.IsTuple a j.toArray from p) ?_;refine⟨U.heap.objs.size,[U.heap.objs.size],_,_,C,rfl,g.kept (t':=U.toks) λb o e=>u3 _ e,xC a _,⟨_,vc _ rfl,rfl,rfl⟩,λb hb=>?_,q⟩;have e:b=U.heap.objs.size:=by simpa using hb
 subst e;exact g.fpOk (Al _) (g.hok.fresh (Al _))
def aeb{R:It->Hp->Prop}{hi:Int}{t u v:Tok}{tk:Nat}(I:z9 X pins σ H s)(h1 : -(2 ^ 62)<=lo)(h2:lo<2 ^ 62)(U : -(2 ^ 62)<=hi)(g:hi<2 ^ 62)
 (q:R (Itr lo (hi-lo).toNat) H) (r:0<tk:=by walk_at "t"):wpAny (model X.prog X.w) X.A (pyIter (.ref s.heap.objs.size)) (PIE X pins σ tg R) E { s with heap:=s.heap.push { cls:=.type "range",data:=.fields #[.int lo t,.int hi u,.int 1 v] },toks:=tk }:=by
 refine wpAny_pyIter_range (IsRange.new ..) (small_one h1 h2 U g) ?_;have J:z9 X pins σ H { s with heap:=s.heap.push { cls:=.type "range",data:=.fields #[.int lo t,.int hi u,.int 1 v] },toks:=tk }:=I.kept λb o e=>u3 _ e;refine⟨(s.heap.push { cls:=.type "range",data:=.fields #[.int lo t,.int hi u,.int 1 v] }).objs.size,[(s.heap.push { cls:=.type "range",data:=.fields #[.int lo t,.int hi u,.int 1 v] }).objs.size],_,_,H,rfl,
  J.kept (t':=tk) λb o e=>u3 _ e,wC _ lo (hi-lo).toNat,?_,λb j=>?_,q⟩
 ·have l:lo+((0:Nat):Int)*1=lo:=by simp
  have p:(((hi-lo).toNat:Nat):Int)-((0:Nat):Int)=Builtin.Range.rangeSize lo hi 1:=by rw[rangeSize_one];split<;>lia
  show IsRangeIter _ _ (lo+((0:Nat):Int)*1) ((((hi-lo).toNat:Nat):Int)-((0:Nat):Int)) 1;rw[l,p];exact vc _ rfl
 ·have e:b=(s.heap.push { cls:=.type "range",data:=.fields #[.int lo t,.int hi u,.int 1 v] }).objs.size:=by simpa using j
  subst e;exact J.fpOk (Al _) (J.hok.fresh (Al _))
def aoc(ta:TA):TI:=λσ H R=>ta σ H λvs H1=>∃j:Int,vs=[.int j] /\ -(2 ^ 62)<=j/\j<2 ^ 62/\R (Itr 0 j.toNat) H1
def yy{a:Expr}{ta:TA}{p:Pos}(g:Gl X "range")(l:X.mg "range"=none)(o:PA X [a] ta)(hs:starEach [a] X.env=[(false,eval a X.env)]:=by rfl):PI X tg (.Call (.Name "range" p) [a] [] pos) (aoc ta):=by
 intro J s C H R I h;refine Call_ (gg I g l boot_range (B4 (sk (o pos J s C H _ I h) λus s1 vs H1 T r1 U=>?_) hs rfl));obtain⟨j,e,U,q2,q⟩:=U;subst e;cases r1 with
 |cons r rr=>
  cases rr;obtain⟨t,rfl⟩:=r;exact call_range_1 (aeb T (by lia) (by lia) U q2 (by simpa using q))
def asa(wi:TI)(g:TG)(tb:TS):TS:=λD σ H=>wi σ H λJ H1=>∃W:Nat->Nat->St->Hp->Prop,(∃m,W 0 m σ H1)/\∀i m σ H,W i m σ H->
 (J.stop i H/\D.nx σ H)\/(J.go i H/\∃N:St->Hp->Prop,(∀ky H',N ky H'->∃U,U<m/\W (i+1) U ky H')/\∀x H',J.yld i H x H'->g x σ H' λI H2=>tb { D with nx:=N,ct:=N,bk:=D.nx } I H2)
def mE(fp:List Addr)(h:Heap):List (Addr×Obj):=fp.filterMap λb=>(h.get? b).map λo=>(b,o)
def dY{b:Addr}{o:Obj}(I:b∈fp)(e:h.get? b=some o):(b,o)∈mE fp h:=List.mem_filterMap.mpr ⟨b,I,by rw[e];rfl⟩
def zC{p:Addr×Obj}(hp:p∈mE fp h):p.1∈fp/\h.get? p.1=some p.2:=by
 obtain⟨b,I,e⟩:=List.mem_filterMap.mp hp;cases q:h.get? b with
 |none=>rw[q] at e;cases e
 |some o=>
  rw[q] at e;have J:(b,o)=p:=AW e;subst J;exact⟨I,q⟩
def z9.pinned(I:z9 X pins σ H s)(g:∀b∈fp,oh X pins H b)(j:∀b∈fp,∃o,s.heap.get? b=some o/\∀v,o.data≠.cell v):z9 X (pins++mE fp s.heap) σ H s:=
 I.pins_of λp l=>(Ak.mp l).elim (λz=>I.pin p (Ag _ z)) λz=>by obtain⟨J,e⟩:=zC z;obtain⟨r,f1,f2,_⟩:=g p.1 J;obtain⟨o,U,d⟩:=j p.1 J;rw[e] at U;cases U;exact⟨e,r,f1,f2,d⟩
def z9.unpinned{pl:List (Addr×Obj)}(I:z9 X (pins++pl) σ H s):z9 X pins σ H s:=I.pins_of λp J=>I.pin p (Ag _ (Au _ J))
def ak6{iter:Expr}{g:TG}{tb:TS}(hp:PassesOwn (model X.prog X.w) X.A X.env X.xe)(hc:X.calm=true)(hi:PI X tg iter wi)(hg:PG X tg g)(l:lJ X body tb)
 (hs:∀x,foldedSetIterable iter X.env x=pure x:=by intro _;rfl):PS X (.For tg iter body [] pos) (asa wi g tb):=by
 intro U s σ H D I h;refine wpAny_For (aT (hi U s σ H _ I h) λv s1 h1=>aT h1 λac s2 h2=>?_) hs;obtain⟨it,fp,tn,J,H2,e,I2,T,a3,f2,W,⟨m0,w0⟩,turn⟩:=h2;subst e;have p:∀{H':Hp},(∀b∈fp,H' b=none)->∀b∈fp,oh X U H' b:=λhn b l=>⟨hn b l,(f2 b l).2⟩;refine codeAny_forLoop_any (λn s'=>∃i t H',z9 X U t H' s'/\tn i s'.heap/\(∀b∈fp,H' b=none)/\W i n t H') ?_ m0 ⟨0,σ,H2,I2,a3,λb l=>(f2 b l).1,w0⟩;rintro n s3 ⟨i,C,H3,I3,a1,a2,w3⟩;rcases turn i n C H3 w3 with⟨stop,qn⟩|⟨go,N,hN,step⟩
 ·refine wpAny_passesOwn hp (aT (T.done X rfl rfl rfl hc i U s3 C H3 X.xe I3 (p a2) a1 stop) λr s4 ⟨hr,I4⟩=>?_);subst hr;exact wpAny_execs_nil ⟨C,H3,I4,qn⟩
 ·refine wpAny_passesOwn hp (aT (T.item X rfl rfl rfl hc i U s3 C H3 X.xe I3 (p a2) a1 go) λr s4 ⟨u,hr,h4⟩=>?_);subst hr;refine wpAny_passesOwn hp (aT h4 λ_ s5 ⟨x,H5,I5,r5,y5,a0,a4⟩=>?_);have a5:=I5.pinned (p a4) (T.obj _ _ a0);refine wpAny_passesOwn hp (aT (hg _ s5 C H5 x u _ a5 r5 (step x H5 y5)) λ_ s6 ⟨ab,H6,I6,q6⟩=>?_);refine wpAny_passesOwn hp (aT (l _ s6 ab H6 _ I6 q6) λf s7 q7=>?_);have again:∀{j:St} {H7:Hp},z9 X (U++mE fp s5.heap) j H7 s7->N j H7->∃m,m<n/\∃i t H',z9 X U t H' s7/\tn i s7.heap/\(∀b∈fp,H' b=none)/\W i m t H':=λ{j H7} I7 n7=>by obtain⟨m',hm,w7⟩:=hN j H7 n7;refine⟨m',hm,i+1,j,H7,I7.unpinned,T.keep _ _ _ a0 λb l o e=>(I7.pin (b,o) (Ag _ (Ag _ (dY l e)))).1,λb l=>?_,w7⟩;obtain⟨o,e,d⟩:=T.obj _ _ a0 b l;exact(I7.pin (b,o) (Ag _ (Ag _ (dY l e)))).2.1
  cases f with
  |next=>obtain⟨j,H7,I7,n7⟩:=q7;exact again I7 n7
  |cont=>obtain⟨j,H7,I7,n7⟩:=q7;exact again I7 n7
  |brk=>obtain⟨j,H7,I7,q7⟩:=q7;exact⟨j,H7,I7.unpinned,q7⟩
  |ret v=>obtain⟨x7,j,H7,I7,r7,q7⟩:=q7;exact⟨x7,j,H7,I7.unpinned,r7,q7⟩
abbrev R2:=V->V->Hp->VK->Prop
def aC(X:Cx)(f:Value->Value->Sem Value)(r:R2):Prop:=
 ∀(pins:List (Addr×Obj)) (s:Shared) (σ:St) (H:Hp) (x y:V) (v u:Value) (Q:VK),z9 X pins σ H s->zv x v->zv y u->r x y H Q->
  wpAny (model X.prog X.w) X.A (f v u) (EP X pins σ Q) X.xe s
def UnR(X:Cx)(f:Value->Sem Value)(r:V->Hp->VK->Prop):Prop:=
 ∀(pins:List (Addr×Obj)) (s:Shared) (σ:St) (H:Hp) (x:V) (v:Value) (Q:VK),z9 X pins σ H s->zv x v->r x H Q->
  wpAny (model X.prog X.w) X.A (f v) (EP X pins σ Q) X.xe s
def xi(X:Cx)(f:Value)(r:List V->Hp->VK->Prop):Prop:=
 ∀(pins:List (Addr×Obj)) (s:Shared) (σ:St) (H:Hp) (xs:List V) (us:List Value) (Q:VK),z9 X pins σ H s->zq xs us->r xs H Q->
  wpAny (model X.prog X.w) X.A (call f us) (EP X pins σ Q) X.xe s
def tOp(r:R2)(ta tb:TE):TE:=λσ H Q=>ta σ H λx H1=>tb σ H1 λy H2=>r x y H2 Q
def tUn(r:V->Hp->VK->Prop)(ta:TE):TE:=λσ H Q=>ta σ H λx H1=>r x H1 Q
def rI(C:Int->Int->Prop)(g:Int->Int->V):R2:=λx y H Q=>∃i j,x=.int i/\y=.int j/\C i j/\Q (g i j) H
def rI0(g:Int->Int->V):R2:=λx y H Q=>∃i j,x=.int i/\y=.int j/\Q (g i j) H
def rU(g:Int->V):V->Hp->VK->Prop:=λx H Q=>∃i,x=.int i/\Q (g i) H
section
variable {a b:Expr}{ta tb tc:TE}
def amj(j:PE X a ta)(l:PE X b tb){R:V->V->Hp->Prop}(I:z9 X pins σ H s)
 (h:ta σ H λx H1=>tb σ H1 λy H2=>R x y H2) {f:Value->Value->Sem Value}
 (o:∀v u g x y H2,z9 X pins σ H2 g->zv x v->zv y u->R x y H2->wpAny (model X.prog X.w) X.A (f v u) Q X.xe g):
 wpAny (model X.prog X.w) X.A (eval a X.env) (λv J=>wpAny (model X.prog X.w) X.A (eval b X.env) (λu U=>wpAny (model X.prog X.w) X.A (f v u) Q X.xe U) X.xe J) X.xe s:=by
 refine af (j pins s σ H _ I h) λv p x H1 r t C=>?_;refine af (l pins p σ H1 _ r C) λu g y H2 T r2 q2=>?_;exact o v u g x y H2 T t r2 q2
def anw{op:Operator}{r:R2}(U:aC X (binaryOp op) r)(g:PE X a ta)(j:PE X b tb):PE X (.BinOp a op b pos) (tOp r ta tb):=by intro J s l H Q I h;exact wpAny_BinOp (amj g j I h λv u o x y p t C T q=>U J o l p x y v u Q t C T q)
def aoe{op:UnaryOp}{r:V->Hp->VK->Prop}(g:UnR X (unaryOp op) r)(j:PE X a ta):PE X (.UnaryOp op a pos) (tUn r ta):=by intro J s U H Q I h;exact UnaryOp_ (af (j J s U H _ I h) λv l x o p t C=>g J l U o x v Q p t C)
def opI{f:Value->Value->Sem Value}{C:Int->Int->Prop}{g:Int->Int->Int}
 (rule:∀(i j:Int) (t u:Tok) (s:Shared) (Q:Value->Shared->Prop) (E:Value->Shared->Prop),C i j->Q (.int (g i j) s.toks) { s with toks:=s.toks+1 }->wpAny (model X.prog X.w) X.A (f (.int i t) (.int j u)) Q E s):
 aC X f (rI C λi j=>.int (g i j)):=by
 intro J s r H x y v u Q I U l h;obtain⟨i,j,rfl,rfl,o,q⟩:=h;obtain⟨t,rfl⟩:=U;obtain⟨p,rfl⟩:=l;exact rule i j t p s _ _ o ⟨.int (g i j),H,I.tok _,⟨_,rfl⟩,q⟩
def aow{f:Value->Value->Sem Value}{g:Int->Int->Int}
 (rule:∀(i j:Int) (t u:Tok) (s:Shared) (Q:Value->Shared->Prop) (E:Value->Shared->Prop),Q (.int (g i j) s.toks) { s with toks:=s.toks+1 }->wpAny (model X.prog X.w) X.A (f (.int i t) (.int j u)) Q E s):
 aC X f (rI0 λi j=>.int (g i j)):=by
 intro J s p H x y v u Q I U l h;obtain⟨i,j,rfl,rfl,q⟩:=h;obtain⟨t,rfl⟩:=U;obtain⟨o,rfl⟩:=l;exact rule i j t o s _ _ ⟨.int (g i j),H,I.tok _,⟨_,rfl⟩,q⟩
def ao7{f:Value->Value->Sem Value}{g:Int->Int->Bool}
 (rule:∀(i j:Int) (t u:Tok) (s:Shared) (Q:Value->Shared->Prop) (E:Value->Shared->Prop),Q (.bool (g i j)) s->wpAny (model X.prog X.w) X.A (f (.int i t) (.int j u)) Q E s):
 aC X f (rI0 λi j=>.bl (g i j)):=by
 intro J s p H x y v u Q I U l h;obtain⟨i,j,rfl,rfl,q⟩:=h;obtain⟨t,rfl⟩:=U;obtain⟨o,rfl⟩:=l;exact rule i j t o s _ _ ⟨.bl (g i j),H,I,rfl,q⟩
def ala(i j:Int):Prop:=0<j/\j<1073741824
def am7(i j:Int):Prop:=0<=j/\j<=1000000/\i.natAbs<2 ^ 64
def acj(i j:Int):Prop:=(-(2 ^ 64)<i/\i<2 ^ 64)\/(-(2 ^ 64)<j/\j<2 ^ 64)
def acj.ok{i j:Int}(h:acj i j):IntMulOk i j:=by
 rcases h with⟨I,J⟩|⟨I,J⟩
 ·exact .of_left (intBits_le_64 I J)
 ·exact .of_right (intBits_le_64 I J)
def ali:aC X (binaryOp .Add) (rI0 λi j=>.int (i+j)):=aow λ_ _ _ _ _ _ _ q=>add_int q
def aku:aC X (binaryOp .Sub) (rI0 λi j=>.int (i-j)):=aow λ_ _ _ _ _ _ _ q=>sub_int q
def amz:aC X (binaryOp .Mult) (rI acj λi j=>.int (i*j)):=opI λ_ _ _ _ _ _ _ I q=>mul_int q I.ok
def ah5:aC X (binaryOp .FloorDiv) (rI ala λi j=>.int (i / j)):=opI λi j _ _ _ _ _ I q=>by have J:(0:Int)<j:=I.1;have U:j<1073741824:=I.2;exact floordiv_int (by lia) (by rw[Int.fdiv_eq_ediv_of_nonneg i (by lia)];exact q) (.inl (PyProof.noPylong_small (by lia)))
def akl:aC X (binaryOp .Mod) (rI (λ_ j=>0<j) λi j=>.int (i % j)):=opI λi j _ _ _ _ _ I q=>by have J:(0:Int)<j:=I;exact mod_int' (by lia) (by rw[Int.fmod_eq_emod_of_nonneg i (by lia)];exact q)
def al8:aC X (binaryOp .Pow) (rI am7 λi j=>.int (i ^ j.toNat)):=opI λ_ _ _ _ _ _ _ I q=>pow_int_small I.1 I.2.1 I.2.2 q
def unI{f:Value->Sem Value}{g:Int->Int}
 (rule:∀(i:Int) (t:Tok) (s:Shared) (Q:Value->Shared->Prop) (E:Value->Shared->Prop),Q (.int (g i) s.toks) { s with toks:=s.toks+1 }->wpAny (model X.prog X.w) X.A (f (.int i t)) Q E s):
 UnR X f (rU λi=>.int (g i)):=by
 intro J s j H x v Q I U h;obtain⟨i,rfl,q⟩:=h;obtain⟨t,rfl⟩:=U;exact rule i t s _ _ ⟨.int (g i),H,I.tok _,⟨_,rfl⟩,q⟩
def akj:UnR X (unaryOp .USub) (rU λi=>.int (-i)):=unI λ_ _ _ _ _ q=>neg_int q
end
def agg:V->V->Bool
 |.non,.non=>true|.non,.int _=>true|.int _,.non=>true|.non,.bl _=>true|.bl _,.non=>true|.non,.str _=>true|.str _,.non=>true
 |.int _,.int _=>true|.bl _,.bl _=>true|.str _,.str _=>true|.byt _,.byt _=>true
 |.int _,.str _=>true|.str _,.int _=>true|.bl _,.str _=>true|.str _,.bl _=>true
 |_,_=>false
def rEq:R2:=λx y H Q=>agg x y=true/\Q (.bl (decide (x=y))) H
def rNe:R2:=λx y H Q=>agg x y=true/\Q (.bl (!decide (x=y))) H
def yO{i j:Int}:decide (V.int i=V.int j)=(i==j):=by rw[Bs];simp
def afb{i j:Bool}:decide (V.bl i=V.bl j)=(i==j):=by rw[Bs];simp
def xW{i j:Str}:decide (V.str i=V.str j)=(i==j):=by rw[Bs];simp
def ym{i j:Array UInt8}:decide (V.byt i=V.byt j)=(i.toList==j.toList):=by rw[Bs];cases i;cases j;simp
section
variable {a b:Expr}{ta tb tc:TE}
def x5{Q:VK}{k J:Bool}(I:z9 X pins σ H s)(q:Q (.bl k) H)(e:k=J):EP X pins σ Q (.bool J) s:=by subst e;exact⟨.bl k,H,I,rfl,q⟩
def ajj:aC X (compareOp .Eq) rEq:=by
 intro o s p H x y v u Q I l J h;obtain⟨g,q⟩:=h;cases x with
 |non=>
  cases l;cases y with
  |non=>cases J;exact PySem.EqNone.eq_none_none (x5 I q (by simp))
  |bl j=>cases J;exact PySem.EqNone.eq_none_bool (x5 I q (by simp))
  |int j=>obtain⟨U,rfl⟩:=J;exact PySem.EqNone.eq_none_int (x5 I q (by simp))
  |str j=>obtain⟨U,rfl⟩:=J;exact PySem.EqNone.eq_none_str (x5 I q (by simp))
  |_=>exact absurd (show false=true from g) AC
 |bl i=>
  cases l;cases y with
  |non=>cases J;exact PySem.EqNone.eq_bool_none (x5 I q (by simp))
  |bl j=>cases J;exact eq_bool (x5 I q afb)
  |str j=>obtain⟨U,rfl⟩:=J;exact PySem.EqMixed.eq_bool_str (x5 I q (by simp))
  |_=>exact absurd (show false=true from g) AC
 |int i=>
  obtain⟨t,rfl⟩:=l;cases y with
  |non=>cases J;exact PySem.EqNone.eq_int_none (x5 I q (by simp))
  |int j=>obtain⟨U,rfl⟩:=J;exact eq_int (x5 I q yO)
  |str j=>obtain⟨U,rfl⟩:=J;exact PySem.EqMixed.eq_int_str (x5 I q (by simp))
  |_=>exact absurd (show false=true from g) AC
 |str i=>
  obtain⟨t,rfl⟩:=l;cases y with
  |non=>cases J;exact PySem.EqNone.eq_str_none (x5 I q (by simp))
  |bl j=>cases J;exact PySem.EqMixed.eq_str_bool (x5 I q (by simp))
  |int j=>obtain⟨U,rfl⟩:=J;exact PySem.EqMixed.eq_str_int (x5 I q (by simp))
  |str j=>obtain⟨U,rfl⟩:=J;exact eq_str (x5 I q xW)
  |_=>exact absurd (show false=true from g) AC
 |byt i=>
  obtain⟨t,rfl⟩:=l;cases y with
  |byt j=>obtain⟨U,rfl⟩:=J;exact PySem.W.eq_bytes (x5 I q ym)
  |_=>exact absurd (show false=true from g) AC
 |_=>cases y<;>exact absurd (show false=true from g) AC
def aiz:aC X (compareOp .NotEq) rNe:=by
 intro o s p H x y v u Q I l J h;obtain⟨g,q⟩:=h;cases x with
 |non=>
  cases l;cases y with
  |non=>cases J;exact PySem.EqNone.ne_none_none (x5 I q (by simp))
  |bl j=>cases J;exact PySem.EqNone.ne_none_bool (x5 I q (by simp))
  |int j=>obtain⟨U,rfl⟩:=J;exact PySem.EqNone.ne_none_int (x5 I q (by simp))
  |str j=>obtain⟨U,rfl⟩:=J;exact PySem.EqNone.ne_none_str (x5 I q (by simp))
  |_=>exact absurd (show false=true from g) AC
 |bl i=>
  cases l;cases y with
  |non=>cases J;exact PySem.EqNone.ne_bool_none (x5 I q (by simp))
  |bl j=>cases J;exact ne_bool (x5 I q (BH not afb))
  |str j=>obtain⟨U,rfl⟩:=J;exact PySem.EqMixed.ne_bool_str (x5 I q (by simp))
  |_=>exact absurd (show false=true from g) AC
 |int i=>
  obtain⟨t,rfl⟩:=l;cases y with
  |non=>cases J;exact PySem.EqNone.ne_int_none (x5 I q (by simp))
  |int j=>obtain⟨U,rfl⟩:=J;exact ne_int (x5 I q (BH not yO))
  |str j=>obtain⟨U,rfl⟩:=J;exact PySem.EqMixed.ne_int_str (x5 I q (by simp))
  |_=>exact absurd (show false=true from g) AC
 |str i=>
  obtain⟨t,rfl⟩:=l;cases y with
  |non=>cases J;exact PySem.EqNone.ne_str_none (x5 I q (by simp))
  |bl j=>cases J;exact PySem.EqMixed.ne_str_bool (x5 I q (by simp))
  |int j=>obtain⟨U,rfl⟩:=J;exact PySem.EqMixed.ne_str_int (x5 I q (by simp))
  |str j=>obtain⟨U,rfl⟩:=J;exact ne_str (x5 I q (BH not xW))
  |_=>exact absurd (show false=true from g) AC
 |byt i=>
  obtain⟨t,rfl⟩:=l;cases y with
  |byt j=>obtain⟨U,rfl⟩:=J;exact PySem.W.ne_bytes (x5 I q (BH not ym))
  |_=>exact absurd (show false=true from g) AC
 |_=>cases y<;>exact absurd (show false=true from g) AC
def ap9:aC X (compareOp .Lt) (rI0 λi j=>.bl (decide (i<j))):=ao7 λ_ _ _ _ _ _ _ q=>lt_int q
def apn:aC X (compareOp .Gt) (rI0 λi j=>.bl (decide (j<i))):=ao7 λ_ _ _ _ _ _ _ q=>gt_int q
def xa(b:Expr){op:CmpOp}(h:op≠.In:=by decide)(h2:op≠.NotIn:=by decide):behindInMarks op b=false:=by
 have I:(op==CmpOp.In)=false:=by cases op<;>first|rfl|exact absurd rfl h
 have J:(op==CmpOp.NotIn)=false:=by cases op<;>first|rfl|exact absurd rfl h2
 cases b<;>simp[behindInMarks,I,J]
def agi{op:CmpOp}{r:R2}(U:aC X (compareOp op) r)(g:PE X a ta)(j:PE X b tb)(l:behindInMarks op b=false):PE X (.Compare a [op] [b] pos) (tOp r ta tb):=by intro J s o H Q I h;exact wpAny_Compare1 (amj g j I h λv u p x y t C T ry q=>U J p o t x y v u Q C T ry q) l
def adz(t:TE):TT:=λσ H Q=>t σ H λx H'=>∃k,x=.bl k/\Q k H'
def ahk{op:CmpOp}{r:R2}(g:aC X (compareOp op) r)(j:PE X a ta)(l:PE X b tb)(o:behindInMarks op b=false):PT X (.Compare a [op] [b] pos) (adz (tOp r ta tb)):=by
 intro J s U H Q I h;refine wpAny_isTrue_Compare1 (af (j J s U H _ I h) λv p x t C T q1=>af (l J p U t _ C q1) λu s2 y H2 I2 r2 q2=>
  aT (g J s2 U H2 x y v u _ I2 T r2 q2) λc s3 ⟨z,H3,I3,r3,k,e,q3⟩=>?_) o
 subst e;cases r3;exact wpAny_truthy_bool ⟨H3,I3,q3⟩
def jD:(sizeLine:Nat)<2 ^ 63:=by rw[sizeLine_eq];decide
def vW:aC X (binaryOp .Add) (λx y H Q=>∃i j,x=.str i/\y=.str j/\i.length+j.length<=sizeLine/\Q (.str (i++j)) H):=by intro J s p H x y v u Q I U g h;obtain⟨i,j,rfl,rfl,l,q⟩:=h;obtain⟨t,rfl⟩:=U;obtain⟨o,rfl⟩:=g;exact xj I.tk (add_str (λo r C=>⟨.str (i++j),H,I.tok _,⟨_,rfl⟩,q⟩) l)
def yD{x:V}(r:zq [x] us):∃u,us=[u]/\zv x u:=by cases r with|cons I J=>cases J;exact⟨_,rfl,I⟩
def ajd{x y:V}(r:zq [x,y] us):∃u I,us=[u,I]/\zv x u/\zv y I:=by
 cases r with
 |cons J U=>
  cases U with|cons g j=>cases j;exact⟨_,_,rfl,J,g⟩
def ab1(hc:X.calm=true):xi X (.builtin "max") (λxs H Q=>∃i j,xs=[.int i,.int j]/\Q (.int (if j > i then j else i)) H):=by
 intro U s g H xs l Q I r h;obtain⟨i,j,rfl,q⟩:=h;obtain⟨u,o,rfl,⟨t,rfl⟩,⟨p,rfl⟩⟩:=ajd r;refine xj I.tk (max_two_ints (I.ok.hd hc) λC T k ht=>⟨_,H,I.kept k,?_,q⟩);by_cases J:j > i
 ·rw[Aw J,Aw J];exact⟨_,rfl⟩
 ·rw[As J,As J];exact⟨_,rfl⟩
def aam(hc:X.calm=true):xi X (.builtin "min") (λxs H Q=>∃i j,xs=[.int i,.int j]/\Q (.int (if j<i then j else i)) H):=by
 intro U s g H xs l Q I r h;obtain⟨i,j,rfl,q⟩:=h;obtain⟨u,o,rfl,⟨t,rfl⟩,⟨p,rfl⟩⟩:=ajd r;refine xj I.tk (min_two_ints (I.ok.hd hc) λC T k ht=>⟨_,H,I.kept k,?_,q⟩);by_cases J:j<i
 ·rw[Aw J,Aw J];exact⟨_,rfl⟩
 ·rw[As J,As J];exact⟨_,rfl⟩
end
structure vH(h:Heap)(x dx C:Addr)(mA:Str->Option Value):Prop where
 obj:h.get? x=some (PySem.W.instObj C dx)
 ns:h.Ns1 dx mA
 ne:dx≠x
def aa2(n:h.Ns1 dx mA):∃od,h.get? dx=some od/\∀name,PySem.W.lookIn name od=some (mA name):=by
 obtain⟨o,J,r,U,hd,g,_,j⟩:=n;refine⟨o,U,λname=>?_⟩;have e:=j name;unfold nsFind findBy at e;rw[<-Array.find?_toList] at e;unfold PySem.W.lookIn;rw[hd];dsimp only;split
 ·rename_i y q;rw[q] at e;exact BH some e
 ·rename_i q;rw[q] at e;have a:J.toList.any (·.refKey)=false:=by rw[List.any_eq_false];intro y l;obtain⟨z,t,I⟩:=g y (Array.mem_toList_iff.mp l);simp[DictEntry.refKey,I]
  have p:¬J.toList.any (·.refKey)=true:=by rw[a];exact AC
  rw[As p];exact BH some e
def vH.look{x:Addr}(I:vH h x dx C mA):∃od,PySem.W.InstAt h x (PySem.W.instObj C dx) C (some od)/\∀name,PySem.W.lookIn name od=some (mA name):=
 let ⟨od,J,U⟩:=aa2 I.ns
 ⟨od,⟨I.obj,rfl,rfl,J⟩,U⟩
section
variable {w:World}{K:Ae}{x:Addr}{v:Value}
def ah7{expr:Bool}(X:K.In s.heap)(I:vH s.heap x dx C mA)(g:PySem.W.plainGet K C name=true)(j:PySem.W.hasDictIn K C=true)
 (l:PySem.W.findIn K (.ref C) name=some none) (o:mA name=some v) (U:PySem.W.handedIn v=true) (h:Q v { s with toks:=s.toks+1 }):
 wpAny (model prog w) A (getAttr (.ref x) name expr) Q E s:=by
 obtain⟨r,J,p⟩:=I.look;exact PySem.W.get_value X J (Dx g).1 (PySem.W.findObj_own j l rfl (by rw[p,o])) U h
def acn{pl:Sem Bool}{Q:Value×List Value->Shared->Prop}(X:K.In s.heap)(I:vH s.heap x dx C mA)(U:PySem.W.plainGet K C name=true)
 (g:PySem.W.findIn K (.ref C) name=some (some (.ref f))) (j:PySem.W.isFn K (.ref f)=true) (l:mA name=none) (h:Q (.ref f,[.ref x]) s):
 wpAny (model prog w) A (getMethod (.ref x) name pl) Q E s:=by
 obtain⟨o,J,p⟩:=I.look;exact PySem.W.method_fn X J (Dx U).1 (Dx U).2 g (beq_iff_eq.mp j) (by show(PySem.W.lookIn name o).map (·.isSome)=some false;rw[p,l];rfl) h
def ag6{t:List Str}{Q:Unit->Shared->Prop}(X:K.In s.heap)(I:vH s.heap x dx C mA)
 (hs:PySem.W.findIn K (.ref C) "__setattr__"=some (some (.builtin "object.__setattr__"))) (hp:PySem.W.plainOver K C=true) (T:PySem.W.takerIn K C name=some none) (hh:PySem.W.hasDictIn K C=true)
 (hw:PySem.Within mA t) (hsz:t.length<=sizeLine)
 (h:∀h',vH h' x dx C (λy=>if y=name then some v else mA y)->Heap.SameBut dx s.heap h'->Q () { s with heap:=h',toks:=s.toks+2 }):
 wpAny (model prog w) A (setAttr (.ref x) name v) Q E s:=by
 obtain⟨od,J,hl⟩:=I.look;refine PySem.W.set_plain X J hs (PySem.W.osa_open (s:={ s with toks:=s.toks+1 }) (r:=none) X J hp T λb=>?_);obtain⟨cd,hc,j⟩:=PySem.W.any_some hh;have hx:s.heap.get? x=some ⟨.ref C,some dx,.plain,#[]⟩:=I.obj;refine Aa (Ai (Aa (Aa (wpAny_loadPart hx (Aa (PySem.W.Looks.here (s:={ s with toks:=s.toks+1 }) (PySem.W.looks_clsIn X hc) ?_))))));rw[j];refine Ai (a:=some dx) (Aa (Ai (Aa ?_)));refine wpAny_nsSet1 (s:={ s with toks:=s.toks+1 }) I.ns λh' U g=>?_;obtain⟨oD,a0,a1,l,o,p⟩:=U.count (PySem.Within.cons name v hw);refine Aa (wpAny_lookBehind l (by rw[o];exact pastItsLine_dict (AK p (by rw[AF];lia))) ?_);exact Ai (h _ ⟨(g.2 _ (AH I.ne)).trans I.obj,U,I.ne⟩ g)
def afa{R:Result->Shared->Prop}(X:K.In s.heap)(I:PySem.W.makesIn K C=true)
 (hi:PySem.W.findIn K (.ref C) "__init__"=some (some (.ref f))) (J:PySem.W.typeIn K (.ref f)=some (.type "function"))
 (h:codeAny (model prog w) (A.under (.builtin "type.__call__" ⟨.ref C::vs,kw⟩)) (.call (.ref f) ⟨.ref (s.heap.objs.size+1)::vs,kw⟩) (PySem.W.InitBack (s.heap.objs.size+1) R)
  { s with heap:=(s.heap.push PySem.W.emptyDict).push (PySem.W.instObj C s.heap.objs.size) }):
 codeAny (model prog w) A (.call (.ref C) ⟨vs,kw⟩) R s:=by
 obtain⟨U,g,d,t,os⟩:=s;exact PySem.W.make_core (PySem.W.makes_of X I) (PySem.W.looks_findIn X hi) (λself=>PySem.W.bind_fn X self J) (.inl rfl) h
end
def dF(f:Str)(v:V):List (Str×V)->List (Str×V)
 |[]=>[(f,v)]
 |(g,x)::r=>if g=f then(g,v)::r else(g,x)::dF f v r
theorem jW(f g:Str)(v:V):∀fs:List (Str×V),(dF f v fs).lookup g=if g=f then some v else fs.lookup g
 |[]=>by
  show List.lookup g [(f,v)]=_;by_cases h:g=f
  ·have I:(g==f)=true:=beq_iff_eq.mpr h;simp only[List.lookup,I,Aw h]
  ·have I:(g==f)=false:=beq_eq_false_iff_ne.mpr h;simp only[List.lookup,I,As h]
 |(k,x)::r=>by
  have U:=jW f g v r;rw[show dF f v ((k,x)::r)=(if k=f then(k,v)::r else(k,x)::dF f v r) from rfl];by_cases J:k=f
  ·rw[Aw J];by_cases h:g=k
   ·have I:(g==k)=true:=beq_iff_eq.mpr h;simp only[List.lookup,I,Aw (h.trans J)]
   ·have I:(g==k)=false:=beq_eq_false_iff_ne.mpr h;simp only[List.lookup,I,As (λe:g=f=>h (e.trans J.symm))]
  ·rw[As J];by_cases h:g=k
   ·have I:(g==k)=true:=beq_iff_eq.mpr h;simp only[List.lookup,I,As (λe:g=f=>J (h.symm.trans e))]
   ·have I:(g==k)=false:=beq_eq_false_iff_ne.mpr h;simp only[List.lookup,I];exact U
theorem jC(f:Str)(v:V):∀fs:List (Str×V),f∈(dF f v fs).map (·.1)/\∀g,g∈fs.map (·.1)->g∈(dF f v fs).map (·.1)
 |[]=>⟨by simp[dF],λg h=>by simp at h⟩
 |(k,x)::r=>by
  obtain⟨J,U⟩:=jC f v r;rw[show dF f v ((k,x)::r)=(if k=f then(k,v)::r else(k,x)::dF f v r) from rfl];by_cases I:k=f
  ·rw[Aw I];subst I;exact⟨by simp,λg h=>by simpa using h⟩
  ·rw[As I];refine⟨?_,λg h=>?_⟩
   ·rw[AG];exact Ah _ J
   ·rw[AG] at h ⊢;rcases Ax.mp h with e|e
    ·exact Ax.mpr (.inl e)
    ·exact Ah _ (U g e)
theorem jX(f:Str)(v:V):∀fs:List (Str×V),(dF f v fs).length<=fs.length+1
 |[]=>by simp[dF]
 |(k,x)::r=>by
  have J:=jX f v r;rw[show dF f v ((k,x)::r)=(if k=f then(k,v)::r else(k,x)::dF f v r) from rfl];by_cases I:k=f
  ·rw[Aw I,AF,AF];lia
  ·rw[As I,AF,AF];lia
def dy.some_of{o:Option Value}(r:dy (some v) o):∃u,o=some u/\zv v u:=by cases o with|none=>exact(show False from r).elim|some u=>exact⟨u,rfl,r⟩
abbrev EL:=@dy.some_of
def dy.none_of{o:Option Value}(r:dy none o):o=none:=by cases o with|none=>rfl|some u=>exact(show False from r).elim
def ab2(r:zv v u):PySem.W.handedIn u=true:=by
 cases v with
 |non=>cases (show u=Value.none from r);rfl
 |bl b=>cases (show u=Value.bool b from r);rfl
 |int i=>obtain⟨t,e⟩:=(show ∃t,u=Value.int i t from r);cases e;rfl
 |str x=>obtain⟨t,e⟩:=(show ∃t,u=Value.str x t from r);cases e;rfl
 |byt b=>obtain⟨t,e⟩:=(show ∃t,u=Value.bytes b t from r);cases e;rfl
 |flt b=>obtain⟨t,e⟩:=(show ∃t,u=Value.float b t from r);cases e;rfl
 |ref a=>cases (show u=Value.ref a from r);rfl
 |ty n=>cases (show u=Value.type n from r);rfl
section
variable {P:Program}{w:World}{a:Addr}{fs fs':List (Str×V)}
def l5(hok:gC P w H h)(e:H a=some (.ins C dx fs)):∃mA,vH h a dx C mA/\(∀f,dy (fs.lookup f) (mA f))/\PySem.Within mA (fs.map (·.1))/\fs.length<=1000/\H dx=some (.own a):=by obtain⟨d,z,ne,ob,mA,n,r,q⟩:=(show vg P w H h a (.ins C dx fs) from hok a _ e);exact⟨mA,⟨ob,n,ne⟩,r,q,z,d⟩
end
structure Cls(K:Ae)(C:Addr):Prop where
 pg:PySem.W.plainGet K C Str.empty=true
 hd:PySem.W.hasDictIn K C=true
 po:PySem.W.plainOver K C=true
 sa:PySem.W.findIn K (.ref C) "__setattr__"=some (some (.builtin "object.__setattr__"))
def Cls.get{K:Ae}(c:Cls K C)(f:Str):PySem.W.plainGet K C f=true:=c.pg
def NoAttr(K:Ae)(C:Addr)(f:Str):Prop:=PySem.W.findIn K (.ref C) f=some none
def NoAttr.taker{K:Ae}{f:Str}(n:NoAttr K C f):PySem.W.takerIn K C f=some none:=by unfold PySem.W.takerIn;rw[show PySem.W.findIn K (.ref C) f=some none from n];rfl
structure ad9(K:Ae)(C:Addr)(m:Str)(f:Addr):Prop where
 at_:PySem.W.findIn K (.ref C) m=some (some (.ref f))
 fn:PySem.W.isFn K (.ref f)=true
 kp:PySem.W.keepIn K (.ref f)=true
section
variable {a:Addr}{fs:List (Str×V)}{f:Str}
def wE{b:Bool}(I:z9 X pins σ H s)(e:H a=some (.ins C dx fs))(c:Cls X.K C)(n:NoAttr X.K C f)(l:fs.lookup f=some v)
 (h:∀u s',z9 X pins σ H s'->zv v u->Q u s'):wpAny (model X.prog X.w) A (getAttr (.ref a) f b) Q E s:=by
 obtain⟨U,O,r,_,_,_⟩:=l5 I.hok e;obtain⟨u,g,J⟩:=EL (v:=v) (o:=U f) (by rw[<-l];exact r f);exact ah7 I.kIn O (c.get f) c.hd n g (ab2 J) (h u _ (I.tok _) J)
def wY{m:Str}{g:Addr}{pl:Sem Bool}{Q:Value×List Value->Shared->Prop}(I:z9 X pins σ H s)(e:H a=some (.ins C dx fs))(c:Cls X.K C)(k:ad9 X.K C m g)(l:fs.lookup m=none)
 (h:Q (.ref g,[.ref a]) s):wpAny (model X.prog X.w) A (getMethod (.ref a) m pl) Q E s:=by
 obtain⟨J,O,r,_,_,_⟩:=l5 I.hok e;have U:J m=none:=dy.none_of (by rw[<-l];exact r m);exact acn I.kIn O (c.get m) k.at_ k.fn U h
def vM{y:V}{Q:Unit->Shared->Prop}(I:z9 X pins σ H s)(e:H a=some (.ins C dx fs))(c:Cls X.K C)(n:NoAttr X.K C f)(hl:fs.length<1000)(p:zv y u)
 (h:∀s',z9 X pins σ (upd H a (.ins C dx (dF f y fs))) s'->Q () s'):wpAny (model X.prog X.w) A (setAttr (.ref a) f u) Q E s:=by
 obtain⟨U,O,r,j,_,l⟩:=l5 I.hok e;have t:(fs.map (·.1)).length<=sizeLine:=by rw[Af,sizeLine_eq];lia
 refine ag6 I.kIn O c.sa c.po n.taker c.hd j t λT J sb=>h _ ?_;have hd:∃o,T.get? dx=some o:=let ⟨o,_,_,e',_⟩:=J.ns;⟨o,e'⟩;refine I.write (x:=a) (e:=dx) (by rw[e];exact True.intro) (.inr l) (λb q hb z=>(sb.2 b hb).trans z) hd ?_;refine⟨by rw[qt O.ne];exact l,?_,O.ne,J.obj,_,J.ns,λg=>?_,λg hg=>?_⟩
 ·have:=jX f y fs;lia
 ·show dy ((dF f y fs).lookup g) (if g=f then some u else U g);rw[jW];by_cases q:g=f
  ·rw[Aw q,Aw q];exact p
  ·rw[As q,As q];exact r g
 ·by_cases q:g=f
  ·rw[q];exact(jC f y fs).1
  ·refine(jC f y fs).2 g (j g λz=>hg ?_);show(if g=f then some u else U g)=none;rw[As q];exact z
def z9.made(I:z9 X pins σ H s):z9 X pins σ (upd (upd H s.heap.objs.size (.own (s.heap.objs.size+1))) (s.heap.objs.size+1) (.ins C s.heap.objs.size []))
 { s with heap:=(s.heap.push PySem.W.emptyDict).push (PySem.W.instObj C s.heap.objs.size) }:=by
 have J:(s.heap.push PySem.W.emptyDict).get? s.heap.objs.size=some PySem.W.emptyDict:=vc s.heap rfl;have U:((s.heap.push PySem.W.emptyDict).push (PySem.W.instObj C s.heap.objs.size)).get? (s.heap.objs.size+1)=some (PySem.W.instObj C s.heap.objs.size):=by have:=vc (s.heap.push PySem.W.emptyDict) (o:=PySem.W.instObj C s.heap.objs.size) rfl;rwa[At] at this
 have g:(s.heap.push PySem.W.emptyDict).Ns s.heap.objs.size (λ_=>none):=⟨PySem.W.emptyDict,#[],_,J,rfl,(λe j=>absurd j (by simp)),λ_=>rfl⟩;have l:=I.laid (a:=s.heap.objs.size) (o:=.own (s.heap.objs.size+1)) (h':=s.heap.push PySem.W.emptyDict) (t':=s.toks) (λb u q=>u3 _ q) (Al _) ⟨_,J⟩;refine l.laid (a:=s.heap.objs.size+1) (o:=.ins C s.heap.objs.size []) (t':=s.toks) (λb u q=>u3 _ q) (Ec (At _ _)) ?_;have ne:s.heap.objs.size≠s.heap.objs.size+1:=A4 (Bg _);refine⟨by rw[qt ne,j8],Bo _,ne,U,λ_=>none,(Heap.Ns1.of_empty g).at λo q=>u3 _ q,λ_=>True.intro,λy p=>absurd rfl p⟩
def aim{w:World}{f:Str}(J:attributeBase e f env (eval e env)=eval e env)
 (h:wpAny (model prog w) A (eval e env) (λo I=>wpAny (model prog w) A (getAttr o f true) Q E I) E s):wpAny (model prog w) A (eval (.Attribute e f pos) env) Q E s:=
 Attribute_any_ h (by rw[arm_eval_Attribute,J])
end
def asx(K:Ae)(ta:TE)(f:Str):TE:=λσ H Q=>ta σ H λx H1=>∃a C dx fs v,x=.ref a/\H1 a=some (.ins C dx fs)/\Cls K C/\NoAttr K C f/\fs.lookup f=some v/\Q v H1
def arc(K:Ae)(ta tv:TE)(f:Str):TS:=λD σ H=>tv σ H λy H1=>ta σ H1 λx H2=>∃a C dx fs,x=.ref a/\H2 a=some (.ins C dx fs)/\Cls K C/\NoAttr K C f/\fs.length<1000/\
 D.nx σ (upd H2 a (.ins C dx (dF f y fs)))
section
variable {f:Str}{tpos:Pos}{ta tv:TE}
def aki(U:PE X e ta)(g:attributeBase e f X.env (eval e X.env)=eval e X.env):PE X (.Attribute e f pos) (asx X.K ta f):=by intro J s j H Q I h;refine aim g (aT (U J s j H _ I h) λu s1 ⟨x,o,p,r,a,C,dx,fs,v,ex,ea,c,n,l,q⟩=>?_);subst ex;obtain rfl:u=Value.ref a:=r;exact wE p ea c n l λu' s2 t T=>⟨v,o,t,T,q⟩
def alx(g:PE X o ta)(j:PE X value tv)(hs:swapsWith value (some (.Attribute o f hQ)) pos.line X.env=pure false):PS X (.Assign [.Attribute o f hQ] value pos) (arc X.K ta tv f):=by intro J s U H D I h;refine plainObj_wpAny_Assign_Attribute (af (j J s U H _ I h) λu p y r t T q=>aT (g J p U r _ t q) λov s2 ⟨x,H2,I2,rx,a,C,dx,fs,ex,ea,c,n,l,q2⟩=>?_) hs;subst ex;obtain rfl:ov=Value.ref a:=rx;exact vM I2 ea c n l T λs3 I3=>⟨U,_,I3,q2⟩
end
section
variable {c:Value}{b:Bool}
inductive lF(K:Ae)(H:Hp):V->Value->Prop where
 |non:lF K H .non (.type "NoneType")
 |bl (x:Bool):lF K H (.bl x) (.type "bool")
 |int (i:Int):lF K H (.int i) (.type "int")
 |str (x:Str):lF K H (.str x) (.type "str")
 |flt (x:UInt64):lF K H (.flt x) (.type "float")
 |lst {a:Addr} {xs:List V} (e:H a=some (.lst xs)):lF K H (.ref a) (.type "list")
 |frz {a:Addr} {o:Obj} {xs:List V} (e:H a=some (.frz o (.lst xs))):lF K H (.ref a) (.type "list")
 |tup {a:Addr} {xs:List V} (e:H a=some (.tup xs)):lF K H (.ref a) (.type "tuple")
 |dK {a:Addr} {kvs:List (jp×V)} (e:H a=some (.dK kvs)):lF K H (.ref a) (.type "dict")
 |dT {a:Addr} {kvs:List (List jp×V)} (e:H a=some (.dT kvs)):lF K H (.ref a) (.type "dict")
 |ins {a C dx:Addr} {fs:List (Str×V)} (e:H a=some (.ins C dx fs)) (cl:Cls K C) (ha:PySem.W.findIn K (.ref C) "__class__"=some (some (.builtin "object.__class__")))
  (hn:PySem.W.specialIn K (.builtin "object.__class__") "__get__"=some (some (.builtin "getset_descriptor.__get__"))) (htk:PySem.W.takesIn K (.builtin "object.__class__")=some true)
  (hm:PySem.W.mroIn K C (.type "object")=some true):lF K H (.ref a) (.ref C)
def bB{x:V}{t:Value}(I:z9 X pins σ H s)(U:zv x u)(ty:lF X.K H x t)(e:PySem.W.kitOne X.K t c=some b)(h:∀tk,Q (.bool b) { s with toks:=tk }):
 wpAny (model X.prog X.w) A (call (.builtin "isinstance") [u,c]) Q E s:=by
 cases ty with
 |non=>cases (show u=Value.none from U);exact Bt PySem.W.kitx_none I.kIn True.intro e (λz=>nomatch z) h
 |bl y=>cases (show u=Value.bool y from U);exact Bt PySem.W.kitx_bool I.kIn True.intro e (λz=>nomatch z) h
 |int i=>obtain⟨t,q⟩:=(show ∃t,u=Value.int i t from U);cases q;exact Bt PySem.W.kitx_int I.kIn True.intro e (λz=>nomatch z) h
 |str y=>obtain⟨t,q⟩:=(show ∃t,u=Value.str y t from U);cases q;exact Bt PySem.W.kitx_str I.kIn True.intro e (λz=>nomatch z) h
 |flt y=>obtain⟨t,q⟩:=(show ∃t,u=Value.float y t from U);cases q;exact Bt PySem.W.kitx_float I.kIn True.intro e (λz=>nomatch z) h
 |@lst a l ea=>
  cases (show u=Value.ref a from U);obtain⟨_,_,n,_,g⟩:=(show vg X.prog X.w H s.heap a (.lst l) from I.hok a _ ea);exact Bt CC I.kIn ⟨_,g,rfl⟩ e (λz=>nomatch z) h
 |@frz a ob l ea=>
  cases (show u=Value.ref a from U);obtain⟨_,_,_,n,_,g⟩:=(show vg X.prog X.w H s.heap a (.frz ob (.lst l)) from I.hok a _ ea);exact Bt CC I.kIn ⟨_,g,rfl⟩ e (λz=>nomatch z) h
 |@tup a l ea=>
  cases (show u=Value.ref a from U);obtain⟨_,_,_,p⟩:=(show vg X.prog X.w H s.heap a (.tup l) from I.hok a _ ea);obtain⟨o,g,r,_⟩:=p;exact Bt DA I.kIn ⟨o,g,r⟩ e (λz=>nomatch z) h
 |@dK a j ea=>
  cases (show u=Value.ref a from U);obtain⟨_,_,vs,_,p⟩:=(show vg X.prog X.w H s.heap a (.dK j) from I.hok a _ ea);obtain⟨o,es,ep,g,r,_⟩:=p;exact Bt DJ I.kIn ⟨o,g,r.1⟩ e (λz=>nomatch z) h
 |@dT a j ea=>
  cases (show u=Value.ref a from U);obtain⟨_,_,l,_,o,es,ep,g,r,_⟩:=(show vg X.prog X.w H s.heap a (.dT j) from I.hok a _ ea);exact Bt DJ I.kIn ⟨o,g,r.1⟩ e (λz=>nomatch z) h
 |@ins a C dx fs ea cl ha hn T hm=>
  cases (show u=Value.ref a from U);obtain⟨mA,O,_⟩:=l5 I.hok ea;obtain⟨od,J,_⟩:=O.look;exact Bt (PySem.W.kitx_own (cl.get _) cl.hd ha hn T hm) I.kIn J e (λz=>nomatch z) h
end
structure wq(k:Nat)(A:Around):Prop where
 hd:A.handled=none
 dp:A.depth+3*k+5<recursionLimit
 un:A.units+16*k+200<cLine
def wq.mono{k:Nat}(r:wq k A)(h:j<=k):wq j A:=⟨r.hd,by have:=r.dp;lia,by have:=r.un;lia⟩
def wq.deeper{k:Nat}(r:wq (k+1) A)(env:Env):wq k (A.deeper env):=
 ⟨r.hd,by have:=r.dp;show A.depth+1+3*k+5<_;lia,by have:=r.un;show A.units+3+16*k+200<_;lia⟩
def wF :(A.under (.builtin "type.__call__" ⟨.ref C::us,kw⟩)).depth=A.depth+1:=by first|rfl|simp[Around.under,Code.weight,Code.isCreation,Code.isGuard,Code.isCaller,Code.frames,Code.isFrame,guardIds]
def wP :(A.under (.builtin "type.__call__" ⟨.ref C::us,kw⟩)).units=A.units+1:=by first|rfl|simp[Around.under,Code.cUnits,Code.frames,Code.isFrame]
def wq.make{k:Nat}(r:wq (k+1) A)(C:Addr)(us:List Value)(kw:List (Str×Value)):wq k (A.under (.builtin "type.__call__" ⟨.ref C::us,kw⟩)):=
 ⟨r.hd,by have:=r.dp;rw[wF];lia,by have:=r.un;rw[wP];lia⟩
def wq.depth{k:Nat}(r:wq k A):A.depth<recursionLimit:=by have:=r.dp;lia
def art:TA:=λ_ H Q=>Q [] H
def apl(ta:TE)(tr:TA):TA:=λσ H Q=>ta σ H λx H1=>tr σ H1 λxs H2=>Q (x::xs) H2
section
variable {te:TE}{t:TA}
def gR:PA X [] art:=λ_ _ _ _ H Q I h=>Calls.spliced_nil ⟨[],H,I,.nil,h⟩
abbrev Et(e:Expr)(es:List Expr)(X:Cx):Prop:=starEach (e::es) X.env=(false,eval e X.env)::starEach es X.env
def aa(g:PE X e te)(j:PA X es t)(hs:Et e es X:=by rfl):PA X (e::es) (apl te t):=by intro pos J s U H Q I h;rw[hs];show wpAny _ _ (spliced ((false,eval e X.env)::backTo pos (starEach es X.env))) _ _ s;refine Db (af (g J s U H _ I h) λu l x o p r C=>?_);exact sk (j pos J l U o _ p C) λus s2 T H2 I2 r2 q2=>⟨x::T,H2,I2,.cons r r2,q2⟩
def at8(t:TA):TE:=λσ H Q=>t σ H λxs H1=>xs.length<=sizeLine/\∀p,H1 p=none->Q (.ref p) (upd H1 p (.tup xs))
def aqs(t:TA):TE:=λσ H Q=>t σ H λxs H1=>xs.length<=sizeLine/\∀p,H1 p=none->Q (.ref p) (upd H1 p (.lst xs))
def adv{x1}(h:PA X es t):PE X (.Tuple es x1 pos) (at8 t):=by intro J s l H Q I o;refine wpAny_Tuple_spliced (aT (h pos J s l H _ I o) λp U ⟨C,g,j,r,z,q⟩=>⟨by rw[<-r.length];exact z,?_⟩);have T:g U.heap.objs.size=none:=j.hok.fresh (Al _);refine⟨.ref U.heap.objs.size,upd g U.heap.objs.size (.tup C),j.laid (t':=U.toks) (λb u e=>u3 _ e) (Al _) ?_,rfl,q _ T⟩;exact⟨z,p,r,⟨_,vc _ rfl,rfl,_,rfl⟩⟩
def ak0(h:PA X es t):PE X (.List es pos) (aqs t):=by intro J s l H Q I o;refine wpAny_List_spliced (aT (h pos J s l H _ I o) λp U ⟨C,g,j,r,z,q⟩=>⟨by rw[<-r.length];exact z,?_⟩);have T:g U.heap.objs.size=none:=j.hok.fresh (Al _);refine⟨.ref U.heap.objs.size,upd g U.heap.objs.size (.lst C),j.laid (t':=U.toks) (λb u e=>u3 _ e) (Al _) ?_,rfl,q _ T⟩;exact⟨z,p,0,r,vc _ rfl⟩
end
abbrev Sp:=List V->Hp->VK->XK->Prop
abbrev CXT:=List Env->Hp->Shared->XK->Value->Shared->Prop
structure wT(P:Program)(w:World)(K:Ae)(mg:Str->Option Value)(base:Heap)(A:Around)(outer:List Env)(s:Shared)(H:Hp):Prop where
 frames:A.frames=some outer
 mod:Mod K mg base
 bs:∀b o,base.get? b=some o->s.heap.get? b=some o/\H b=none
 bsz:base.objs.size<=s.heap.objs.size
 funs:s.heap.FunFrames base outer
 frf:∀b∈zU outer,H b=none
 hok:gC P w H s.heap
 bare:AllBare s.gens
 tk:0<s.toks
def CE(outer:List Env)(P:Program)(w:World)(H:Hp)(s:Shared)(Q:VK)(u:Value)(s':Shared):Prop:=
 ∃v H',s'.os=s.os/\AllBare s'.gens/\Un (zU outer) [] H H' s.heap s'.heap/\gC P w H' s'.heap/\zv v u/\Q v H'/\0<s'.toks
def CR(CX:CXT)(outer:List Env)(P:Program)(w:World)(H:Hp)(s:Shared)(Q:VK)(E:XK)(r:Result)(s':Shared):Prop:=
 match r with
 |.ok (.ret u)=>CE outer P w H s Q u s'
 |.ok _=>False
 |.error e=>CX outer H s E e s'
structure bH(P:Program)(w:World)(K:Ae)(mg:Str->Option Value)(base:Heap)(CX:CXT)(k:Nat)(f:Addr)(fd:FuncData)(ps:List Str)(sp:Sp):Prop where
 len:∀vs H Q E,sp vs H Q E->vs.length=ps.length
 run:∀(A:Around) (outer:List Env) (s:Shared) (H:Hp) (args:Args) (us:List Value) (vs:List V) (Q:VK) (E:XK),wq k A->wT P w K mg base A outer s H->BindsTo s fd args (ps.zip us)->zq vs us->sp vs H Q E->
  codeAny (model P w) A (.call (.ref f) args) (CR CX outer P w H s Q E) s
theorem bH.mono{P:Program}{w:World}{K:Ae}{CX:CXT}{k:Nat}{sp:Sp}(F:bH P w K mg base CX j f fd ps sp)(h:j<=k):
 bH P w K mg base CX k f fd ps sp:=⟨F.len,λA I s H args J U Q E g=>F.run A I s H args J U Q E (g.mono h)⟩
def bH.imp{P:Program}{w:World}{K:Ae}{CX:CXT}{k:Nat}{sp J:Sp}(F:bH P w K mg base CX k f fd ps sp)
 (h:∀vs H Q E,J vs H Q E->sp vs H Q E):bH P w K mg base CX k f fd ps J:=
 ⟨λvs H Q E q=>F.len vs H Q E (h _ _ _ _ q),λA I s H args U vs Q E g j l o p=>F.run A I s H args U vs Q E g j l o (h _ _ _ _ p)⟩
def wT.make{P:Program}{w:World}{K:Ae}{outer:List Env}(e:wT P w K mg base A outer s H)(C:Addr)(us:List Value)(kw:List (Str×Value)):
 wT P w K mg base (A.under (.builtin "type.__call__" ⟨.ref C::us,kw⟩)) outer s H:=⟨by first|exact e.frames|(simpa[Around.under,Code.envs,Code.isFrame,pushEnvs] using e.frames),e.mod,e.bs,e.bsz,e.funs,e.frf,e.hok,e.bare,e.tk⟩
def z9.env0(I:z9 X pins σ H s):wT X.prog X.w X.K X.mg X.base X.A X.stack s H:=
 ⟨I.ok.frames,I.ok.mod,I.bs,AK I.ok.bsz I.sz,I.stack,I.stkFree,I.hok,I.bare,I.tk⟩
def z9.after{Q:VK}(I:z9 X pins σ H s)(h:CE X.stack X.prog X.w H s Q u s'):EP X pins σ Q u s':=by obtain⟨v,j,os,bare,un,J,r,q,o⟩:=h;obtain⟨l,g,d,t,U⟩:=s';obtain rfl:U=s.os:=os;exact⟨v,j,I.call (h':=l) (g':=g) (d':=d) (t':=t) (ch:=[]) un J bare (λb z=>absurd z (by simp)),r,q⟩
def ajk(sp:Sp)(mv:List V)(E:XK)(t:TA):TE:=λσ H Q=>t σ H λvs H1=>sp (vs++mv) H1 Q E
def apj(C:Addr)(m:Str)(sp:Sp)(mv:List V)(E:XK)(ta:TE)(t:TA):TE:=λσ H Q=>ta σ H λx H1=>∃a dx fs,x=.ref a/\H1 a=some (.ins C dx fs)/\fs.lookup m=none/\
 t σ H1 λvs H2=>sp (x::(vs++mv)) H2 Q E
def ann(C:Addr)(sp:Sp)(mv:List V)(E:XK)(t:TA):TE:=λσ H Q=>t σ H λvs H1=>∀x dx,H1 x=none->H1 dx=none->dx≠x->
 sp (.ref x::(vs++mv)) (upd (upd H1 dx (.own x)) x (.ins C dx [])) (λv H2=>v=.non/\Q (.ref x) H2) E
def aW(K:Ae)(fd:FuncData)(ps:List Str)(ds:List Value):Prop:=
 ∀(s:Shared) (us:List Value),K.In s.heap->(us++ds).length=ps.length->BindsTo s fd ⟨us,[]⟩ (ps.zip (us++ds))
def aW.all{K:Ae}(h:∀us:List Value,us.length=ps.length->bindArgs fd ⟨us,[]⟩=pure (ps.zip us)):aW K fd ps []:=λs us _ I=>by rw[AQ] at I ⊢;exact .of_eq (h us I)
def ix(CX:CXT)(X:Cx)(E:XK):Prop:=∀(pins:List (Addr×Obj)) (σ:St) (H:Hp) (s:Shared) (e:Value) (s':Shared),z9 X pins σ H s->CX X.stack H s E e s'->X.xe e s'
section
variable {CX:CXT}{k:Nat}{sp:Sp}{mv:List V}{ds:List Value}{E:XK}{m:Str}{p:Pos}{ta:TE}{t:TA}
def ad5{Q:VK}{vs:List V}(F:bH X.prog X.w X.K X.mg X.base CX k f fd ps sp)(g:wq k X.A)(j:aW X.K fd ps ds)(hd:zq mv ds)(l:ix CX X E)
 (I:z9 X pins σ H s) (r:zq vs us) (h:sp (vs++mv) H Q E):wpAny (model X.prog X.w) X.A (call (.ref f) us) (EP X pins σ Q) X.xe s:=by
 have U:zq (vs++mv) (us++ds):=r.append hd;have o:(us++ds).length=ps.length:=by rw[<-U.length];exact F.len _ _ _ _ h
 refine wpAny_call (codeAny_mono (F.run X.A X.stack s H ⟨us,[]⟩ (us++ds) (vs++mv) Q E g I.env0 (j s us I.kIn o) U h) λr p J=>?_);cases r with
 |error e=>exact l pins σ H s e p I J
 |ok t=>
  cases t with|ret u=>exact I.after J|next=>exact False.elim J|brk=>exact False.elim J|cont=>exact False.elim J
abbrev Eu(p:Pos)(es:List Expr)(X:Cx):Prop:=(backTo p (starEach es X.env)).any (·.1)=false
def afv(F:bH X.prog X.w X.K X.mg X.base CX k f fd ps sp)(l:wq k X.A)(o:Gl X x)(C:X.mg x=some (.ref f))(T:PySem.W.keepIn X.K (.ref f)=true)(hb:aW X.K fd ps ds)(hd:zq mv ds)(hx:ix CX X E)
 (ha:PA X (e::es) t) (U:Ew x:=by decide) (he:Et e es X:=by rfl) (g:Eu pos es X:=by rfl):
 PE X (.Call (.Name x p) (e::es) [] pos) (ajk sp mv E t):=by
 intro J s σ H Q I h;refine wpAny_Call_Name_kw (rZ I o C ?_ U);refine DB (h₀:=X.base) I.ok.mod.kin T (sk (ha pos J s σ H _ I h) λus s1 vs H1 j r q=>⟨j.kIn,?_⟩) he g;exact ad5 F l hb hd hx j r q
def agb{pl:Sem Bool}(he:PE X o ta)(c:Cls X.K C)(j:ad9 X.K C m f)(F:bH X.prog X.w X.K X.mg X.base CX k f fd ps sp)(hr:wq k X.A)(hb:aW X.K fd ps ds)(hd:zq mv ds)(hx:ix CX X E)(ha:PA X (e::es) t)
 (U:Et e es X:=by rfl) (g:Eu pos es X:=by rfl)
 (ht:eval (.Call (.Attribute o m apos) (e::es) [] pos) X.env=(do
  let p <-eval o X.env
  standAt apos.atName
  let (f,first) <-holding [p] (getMethod p m pl)
  callWith pos f first (backTo pos (starEach (e::es) X.env)) (backToKw pos (keywordEach [] X.env))):=by rfl):
 PE X (.Call (.Attribute o m apos) (e::es) [] pos) (apj C m sp mv E ta t):=by
 intro J s T H Q I h;refine PySem.W.methodCall_KW (pl:=pl) (aT (he J s T H _ I h) λu s1 ⟨x,H1,I1,rx,a,dx,fs,ex,ea,l,q⟩=>?_) ht;subst ex;obtain rfl:u=Value.ref a:=rx;refine wY I1 ea c j l ?_;refine DB (first:=[.ref a]) (h₀:=X.base) I.ok.mod.kin j.kp (sk (ha pos J s1 T H1 _ I1 q) λus s2 vs H2 I2 r q2=>⟨I2.kIn,?_⟩) U g;exact ad5 (us:=.ref a::us) (vs:=.ref a::vs) F hr hb hd hx I2 (.cons rfl r) q2
structure Mk(K:Ae)(C f:Addr):Prop where
 makes:PySem.W.makesIn K C=true
 init:PySem.W.findIn K (.ref C) "__init__"=some (some (.ref f))
 fn:PySem.W.isFn K (.ref f)=true
 kp:PySem.W.keepIn K (.ref C)=true
def aeg{Q:VK}{vs:List V}(M:Mk X.K C f)(F:bH X.prog X.w X.K X.mg X.base CX k f fd ps sp)(l:wq (k+1) X.A)(o:aW X.K fd ps ds)(hd:zq mv ds)
 (p:ix CX X E) (I:z9 X pins σ H s) (r:zq vs us)
 (h:∀x dx,H x=none->H dx=none->dx≠x->sp (.ref x::(vs++mv)) (upd (upd H dx (.own x)) x (.ins C dx [])) (λv H2=>v=.non/\Q (.ref x) H2) E):
 wpAny (model X.prog X.w) X.A (call (.ref C) us) (EP X pins σ Q) X.xe s:=by
 have g:=h (s.heap.objs.size+1) s.heap.objs.size (I.hok.fresh (Cw _)) (I.hok.fresh (Al _)) (A4 (Bg _));have U:=z9.made (C:=C) I;have j:zq (V.ref (s.heap.objs.size+1)::(vs++mv)) (Value.ref (s.heap.objs.size+1)::(us++ds)):=.cons rfl (r.append hd);have t:(Value.ref (s.heap.objs.size+1)::us++ds).length=ps.length:=by have e:=j.length;rw[F.len _ _ _ _ g] at e;exact e.symm
 refine wpAny_call (afa (f:=f) I.kIn M.makes M.init (beq_iff_eq.mp M.fn) (codeAny_mono (F.run _ X.stack _ _ ⟨Value.ref (s.heap.objs.size+1)::us,[]⟩ (Value.ref (s.heap.objs.size+1)::(us++ds)) _ _ E (l.make C us [])
  (U.env0.make C us []) (o _ (Value.ref (s.heap.objs.size+1)::us) U.kIn t) j g) λr T J=>?_))
 cases r with
 |error e=>exact p pins σ _ _ e T U J
 |ok fl=>
  cases fl with
  |ret u=>
   obtain⟨v,H',I3,rv,ev,q3⟩:=U.after J;subst ev;exact⟨rv,⟨V.ref (s.heap.objs.size+1),H',I3,rfl,q3⟩⟩
  |next=>exact False.elim J
  |brk=>exact False.elim J
  |cont=>exact False.elim J
def air(M:Mk X.K C f)(F:bH X.prog X.w X.K X.mg X.base CX k f fd ps sp)(l:wq (k+1) X.A)(o:Gl X x)(T:X.mg x=some (.ref C))(hb:aW X.K fd ps ds)(hd:zq mv ds)(hx:ix CX X E)
 (ha:PA X (e::es) t) (U:Ew x:=by decide) (he:Et e es X:=by rfl) (g:Eu pos es X:=by rfl):
 PE X (.Call (.Name x p) (e::es) [] pos) (ann C sp mv E t):=by
 intro J s σ H Q I h;refine wpAny_Call_Name_kw (rZ I o T ?_ U);refine DB (h₀:=X.base) I.ok.mod.kin M.kp (sk (ha pos J s σ H _ I h) λus s1 vs H1 j r q=>⟨j.kIn,?_⟩) he g;exact aeg M F l hb hd hx j r q
end
section
variable {CX:CXT}{k:Nat}{ks:List Str}{sp:Sp}{E:XK}{m:Str}{p:Pos}{kws:List Keyword}{te ta:TE}{t tk:TA}{nm:Option Str}
variable {g:List Value->List Value->List Value}{gV:List V->List V->List V}
end
structure bA(N P:List Str)(sc:Scope):Prop where
 kind:sc.kind=.function
 co:sc.isCoroutine=false
 gen:sc.isGenerator=false
 nd:N.Nodup
 pre:N.take P.length=P
 par:∀x∈P,sc.names.lookup x=some .local\/sc.names.lookup x=some .cell
 nofree:∀y∈sc.names,y.2≠.free
theorem pV{kindOf:Str->Option NameKind}{x:Str}:∀{I:List (Str×Value)} {m:Str->Option Value},(∀v,(x,v)∉I)->bindL kindOf I m x=m x
 |[],_,_=>rfl
 |(n,v)::r,m,h=>by
  unfold bindL;rw[pV λw hw=>h w (Ah _ hw)];split
  ·have:x≠n:=by rintro rfl;exact h v Av
   simp[this]
  ·rfl
theorem pS{kindOf:Str->Option NameKind}{x:Str}:∀{I:List (Str×Value)} {m:Str->Option Value},(∀v,(x,v)∉I)->bindC kindOf I m x=m x
 |[],_,_=>rfl
 |(n,v)::r,m,h=>by
  unfold bindC;rw[pS λw hw=>h w (Ah _ hw)];split
  ·rfl
  ·have:x≠n:=by rintro rfl;exact h v Av
   simp[this]
theorem pQ{kindOf:Str->Option NameKind}{x:Str}{v:Value}:∀{P:List Str} {vs:List Value} {i:Nat} {m:Str->Option Value},P.Nodup->P[i]?=some x->vs[i]?=some v->kindOf x=some .local->
 bindL kindOf (P.zip vs) m x=some v
 |[],_,_,_,_,h,_,_=>by simp at h
 |_::_,[],_,_,_,_,h,_=>by simp at h
 |p::P,w::vs,0,m,nd,I,J,U=>by simp at I J;subst I;subst J;show bindL kindOf ((p,w)::P.zip vs) m p=_;unfold bindL;rw[pV λv g=>(AA.mp nd).1 (Du g).1,Aw U];simp
 |p::P,w::vs,i+1,m,nd,I,J,U=>by show bindL kindOf ((p,w)::P.zip vs) m x=_;unfold bindL;exact pQ (i:=i) (AA.mp nd).2 (by simpa using I) (by simpa using J) U
theorem qA{kindOf:Str->Option NameKind}{x:Str}{v:Value}:∀{P:List Str} {vs:List Value} {i:Nat} {m:Str->Option Value},P.Nodup->P[i]?=some x->vs[i]?=some v->kindOf x≠some .local->
 bindC kindOf (P.zip vs) m x=some v
 |[],_,_,_,_,h,_,_=>by simp at h
 |_::_,[],_,_,_,_,h,_=>by simp at h
 |p::P,w::vs,0,m,nd,I,J,U=>by simp at I J;subst I;subst J;show bindC kindOf ((p,w)::P.zip vs) m p=_;unfold bindC;rw[pS λv g=>(AA.mp nd).1 (Du g).1,As U];simp
 |p::P,w::vs,i+1,m,nd,I,J,U=>by show bindC kindOf ((p,w)::P.zip vs) m x=_;unfold bindC;exact qA (i:=i) (AA.mp nd).2 (by simpa using I) (by simpa using J) U
def start(N:List Str)(vs:List V):St:=vs.map some++List.replicate (N.length-vs.length) none
def lG(CX:CXT)(P:Program)(w:World)(K:Ae)(mg:Str->Option Value)(base:Heap)(N:List Str)(eA:Str)(scope:Scope)(f:Addr)(cd:Value)(A:Around)(outer:List Env)(s:Shared)(H:Hp)(E:XK):Cx where
 prog:=P
 w:=w
 K:=K
 mg:=mg
 base:=base
 A:=A.deeper (envOfC eA scope s.heap.objs.size f cd)
 N:=N
 s₀:=s
 H₀:=H
 env:=envOfC eA scope s.heap.objs.size f cd
 outer:=outer
 stack:=envOfC eA scope s.heap.objs.size f cd::outer
 ex:=[]
 calm:=true
 fn:=λ_=>true
 pn:=[]
 xe:=λe s'=>wpAny (model P w) (A.deeper (envOfC eA scope s.heap.objs.size f cd)) (leaving (envOfC eA scope s.heap.objs.size f cd) e) (λ_ I=>CX outer H s E e I) (λJ I=>CX outer H s E J I) s'
def tE{I:Scope}(h:I.names.lookup x=some .cell):∃c,(cellsFrom n I.names []).lookup x=some c:=by have q:=Ed I.names n [] (.inl h);exact Option.isSome_iff_exists.mp q
def aa3{CX:CXT}{P:Program}{w:World}{K:Ae}{N:List Str}{cd:Value}{outer:List Env}{C:Shared}{E:XK}{vs:List V}
 (S:bA N ps scope) (hd:A.handled=none) (J:wT P w K mg base A outer s H) (hl:vs.length=ps.length) (r:zq vs us)
 (x:InCallC s s.heap.objs.size (bindL (envOfC eA scope s.heap.objs.size f cd).kindOf (ps.zip us) λ_=>none) (cellsFrom (s.heap.objs.size+1) scope.names []) (bindC (envOfC eA scope s.heap.objs.size f cd).kindOf (ps.zip us) λ_=>none) C) (ht:0<C.toks):
 z9 (lG CX P w K mg base N eA scope f cd A outer s H E) [] (start N vs) H C:=by
 have a0:ps.length<=N.length:=by have:=BH List.length S.pre;rw[AX] at this;lia
 obtain⟨o,tk,rfl,T⟩:=x.done;have U:∀b:Addr,b∉(lG CX P w K mg base N eA scope f cd A outer s H E).ex:=λb z=>absurd (show b∈([]:List Addr) from z) (by simp);refine⟨⟨J.mod,S.kind,rfl,rfl,Al _,λy z c o I=>?_,λy g=>?_,λy c _ h=>?_,λ_=>hd,Around.frames_deeper J.frames,.inr ⟨rfl,rfl⟩,λb z=>absurd z (U b),J.bs,J.bsz,λb _ _=>U b,λb z=>absurd z (U b),J.funs,J.frf⟩,
  rfl,J.bare,Un.kept T,⟨_,x.toInCall.ns,λi y v o I h3=>?_⟩,λy c h=>⟨_,x.cell y c h⟩,J.hok.fresh (Al _),λy c h=>?_,λp j=>absurd (show p∈([]:List (Addr×Obj)) from j) (by simp),J.hok.kept T,?_,ht⟩
 ·exact name_of_addr x.apart (BC o) (BC I)
 ·have g:scope.names.lookup y=some .cell\/scope.names.lookup y=some .free:=g;rcases g with g|g
  ·exact tE g
  ·exact absurd rfl (S.nofree _ (BC g))
 ·exact BD (x.above y c (BC h))
 ·have t:i<vs.length:=by
   unfold start at I;by_cases t:i<vs.length
   ·exact t
   ·rw[Am (by simpa using t)] at I;rw[Cr] at I;split at I<;>cases I
  have ha:vs[i]?=some v:=by unfold start at I;rw[AB (by simpa using t),An] at I;cases e:vs[i]? with|none=>rw[e] at I;cases I|some a=>rw[e] at I;cases I;rfl
  obtain⟨u,hu,rv⟩:=r.get ha;have j:ps[i]?=some y:=by rw[<-S.pre,DN (by lia)];exact o
  have l:ps.Nodup:=by rw[<-S.pre];exact S.nd.sublist (Dc _ _)
  refine⟨u,rv,?_⟩;rcases S.par y (Az j) with k|k
  ·exact .inl ⟨k,pQ l j hu k⟩
  ·obtain⟨c,e⟩:=tE (n:=s.heap.objs.size+1) k;refine .inr ⟨.inl k,c,e,?_⟩;have q:=x.cell y c e;rw[qA l j hu (by show scope.names.lookup y≠_;rw[k];decide)] at q;exact q
 ·exact J.hok.fresh (BD (x.above y c (BC h)))
 ·unfold start;show _=N.length;rw[Ac,Af,BR];lia
def ajb{CX:CXT}{P:Program}{w:World}{K:Ae}{k:Nat}{U:Arguments}{dV kV ct:Value}
 {N:List Str} {sp:Sp} (lk:K.lookup f=some ⟨oc,od,.func (PySem.W.fnOf name eA U body scope dV kV ir pm an fx ct),nC⟩) (a0:PySem.W.codeIn K fx eA=true) (S:bA N ps scope)
 (len:∀vs H Q E,sp vs H Q E->vs.length=ps.length)
 (j:∀(A:Around) (outer:List Env) (s:Shared) (H:Hp) (vs:List V) (Q:VK) (E:XK),wq k (A.deeper (envOfC eA scope s.heap.objs.size f fx))->sp vs H Q E->
  ∃t,lJ (lG CX P w K mg base N eA scope f fx A outer s H E) body t/\t { nx:=λ_ H'=>Q .non H',rt:=Q } (start N vs) H):
 bH P w K mg base CX (k+1) f (PySem.W.fnOf name eA U body scope dV kV ir pm an fx ct) ps sp:=by
 refine⟨len,λA outer s H args us vs Q E hr p hb r T=>?_⟩;have hl:=len _ _ _ _ T;have KX:K.In s.heap:=p.mod.kin.keeps λb o e=>(p.bs b o e).1;have a1:s.heap.NoLimit:=p.mod.nolimit.keeps λb o e=>(p.bs b o e).1;have l:∀y∈ps.zip us,scope.names.lookup y.1=some .local\/(scope.names.lookup y.1=some .cell/\((cellsFrom (s.heap.objs.size+1) scope.names []).lookup y.1).isSome=true):=λ⟨n,v⟩ hy=>by
  rcases S.par n (Du hy).1 with q|q
  ·exact .inl q
  ·exact .inr ⟨q,Ed _ _ _ (.inl q)⟩
 refine codeAny_call_function hr.depth (KX _ _ lk) rfl S.co S.gen rfl (PySem.W.codeRec_of KX a0) (hb _ _ _ _ ?_);refine xj p.tk (wpAny_newFunctionEnv_cells S.kind l λa3 he s1 x a2=>?_);subst he;refine⟨a1.keeps x.toInCall.keep,codeAny_func ?_⟩;obtain⟨t,ht,hq⟩:=j A outer s H vs Q E (hr.deeper _) T;have I:z9 (lG CX P w K mg base N eA scope f fx A outer s H E) [] (start N vs) H s1:=aa3 S hr.hd p hl r x a2;refine AZ (ht [] s1 (start N vs) H _ I hq) (λfl s' C=>?_) λe s' C=>C;have k6:∀{g:St} {H':Hp} {v:V} {u:Value},z9 (lG CX P w K mg base N eA scope f fx A outer s H E) [] g H' s'->zv v u->Q v H'->CE outer P w H s Q u s':=
  λ{g H' v u} J rv q=>⟨v,H',J.os,J.bare,J.base,J.hok,rv,q,J.tk⟩
 cases fl with
 |ret u=>
  obtain⟨v,g,H',J,rv,q⟩:=C;exact k6 J rv q
 |next=>
  obtain⟨g,H',J,q⟩:=C;exact k6 (v:=V.non) (u:=Value.none) J rfl q
 |brk=>
  obtain⟨_,_,_,q⟩:=C;exact False.elim q
 |cont=>
  obtain⟨_,_,_,q⟩:=C;exact False.elim q
section
variable {p:Pos}{t:TA}{id T:String}{r:List V->Hp->VK->Prop}
def tCB(r:List V->Hp->VK->Prop)(t:TA):TE:=λσ H Q=>t σ H λvs H1=>r vs H1 Q
def oE(hc:xi X (.builtin id) r)(l:Gl X x)(o:X.mg x=none)(C:bootBuiltins x=some (.builtin id))(T:PA X (e::es) t)(hn:x ≠ "__name__" := by decide)(U:Ew x:=by decide)
 (he:Et e es X:=by rfl) (g:Eu pos es X:=by rfl):PE X (.Call (.Name x p) (e::es) [] pos) (tCB r t):=by
 intro J s j H Q I h;refine wpAny_Call_Name_kw (gg I l o C ?_ hn U);exact PyProof.Rows.callWith_builtin1 (sk (T pos J s j H _ I h) λus s1 vs H1 I1 r1 q1=>hc J s1 j H1 vs us Q I1 r1 q1) he g
def im(hc:xi X (.type T) r)(l:Gl X x)(o:X.mg x=none)(C:bootBuiltins x=some (.type T))(ha:PA X (e::es) t)(hn:x ≠ "__name__" := by decide)(U:Ew x:=by decide)
 (he:Et e es X:=by rfl) (g:Eu pos es X:=by rfl):PE X (.Call (.Name x p) (e::es) [] pos) (tCB r t):=by
 intro J s j H Q I h;refine wpAny_Call_Name_kw (gg I l o C ?_ hn U);exact B4 (sk (ha pos J s j H _ I h) λus s1 vs H1 I1 r1 q1=>hc J s1 j H1 vs us Q I1 r1 q1) he g
end
section
variable [DecidableEq κ]
def bX(kvs:List (κ×V))(k:κ):Option V:=(kvs.find? λI=>decide (I.1=k)).map (·.2)
def eO(kvs:List (κ×V))(k:κ)(v:V):List (κ×V):=
 if (kvs.any λI=>decide (I.1=k))=true then kvs.map (λI=>if I.1=k then(I.1,v) else I) else kvs++[(k,v)]
def oK{p:κ×V}{r:List (κ×V)}{k:κ}(e:p.1=k):bX (p::r) k=some p.2:=by simp[bX,BA,e]
def mP{p:κ×V}{r:List (κ×V)}{k:κ}(e:¬p.1=k):bX (p::r) k=bX r k:=by simp[bX,BA,e]
theorem uG(k:κ):∀kvs:List (κ×V),(kvs.any λI=>decide (I.1=k))=(bX kvs k).isSome
 |[]=>rfl
 |p::r=>by
  rw[Cm];by_cases e:p.1=k
  ·simp only[oK e,Ao e,Bool.true_or,Option.isSome_some]
  ·rw[mP e,Aq e,Bool.false_or];exact uG k r
def eB(kvs:List (κ×V))(k:κ)(v:V):(eO kvs k v).length<=kvs.length+1:=by
 unfold eO;split
 ·rw[Af];lia
 ·rw[Ac,AF,List.length_nil];lia
def dy.isSome_eq{o:Option V}{u:Option Value}(r:dy o u):o.isSome=u.isSome:=by
 cases o with
 |none=>cases u with|none=>rfl|some _=>exact(show False from r).elim
 |some _=>cases u with|none=>exact(show False from r).elim|some _=>rfl
def KV.val{kvs:List (κ×V)}{vs:List (κ×Value)}(r:KV kvs vs)(k:κ):dy (bX kvs k) (valueAt vs k):=by
 unfold KV at r
 induction r with
 |nil=>exact True.intro
 |@cons p q l I h t g=>
  obtain⟨U,j⟩:=h;by_cases e:p.1=k
  ·have J:q.1=k:=U.symm.trans e;have b:valueAt (q::I) k=some q.2:=by simp[valueAt,BA,J]
   rw[oK e,b];exact j
  ·have J:¬q.1=k:=λz=>e (U.trans z);have b:valueAt (q::I) k=valueAt I k:=by simp[valueAt,BA,J]
   rw[mP e,b];exact g
def KV.any{kvs:List (κ×V)}{vs:List (κ×Value)}(r:KV kvs vs)(k:κ):(kvs.any λI=>decide (I.1=k))=vs.any λI=>decide (I.1=k):=by
 unfold KV at r
 induction r with|nil=>rfl|cons h t J=>rw[Cm,Cm,J,h.1]
def KV.repl{kvs:List (κ×V)}{vs:List (κ×Value)}(r:KV kvs vs)(k:κ){y:V}(U:zv y u):
 KV (kvs.map λI=>if I.1=k then(I.1,y) else I) (vs.map λI=>if I.1=k then(I.1,u) else I):=by
 unfold KV at r ⊢
 induction r with
 |nil=>exact .nil
 |@cons p q l o h t g=>
  rw[AG,AG];refine .cons ?_ g;obtain⟨J,j⟩:=h;by_cases e:p.1=k
  ·rw[Aw e,Aw (J.symm.trans e)];exact⟨J,U⟩
  ·rw[As e,As (λz=>e (J.trans z))];exact⟨J,j⟩
def KV.put{kvs:List (κ×V)}{vs:List (κ×Value)}(r:KV kvs vs)(k:κ){y:V}(I:zv y u):KV (eO kvs k y) (stored vs k u):=by
 unfold eO stored;rw[r.any k];by_cases e:(vs.any λJ=>decide (J.1=k))=true
 ·rw[Aw e,Aw e];exact r.repl k I
 ·rw[As e,As e];exact Paired.snoc r ⟨rfl,I⟩
theorem KV.length{kvs:List (κ×V)}{vs:List (κ×Value)}(r:KV kvs vs):kvs.length=vs.length:=Paired.length r
end
def kJ{P:Program}{w:World}{k:jp}(r:zv (kV k) u):(vk P w).is k u=true:=by
 cases k with
 |inl i=>obtain⟨t,e⟩:=(show ∃t,u=Value.int i t from r);subst e;exact sn P w i t
 |inr x=>obtain⟨t,e⟩:=(show ∃t,u=Value.str x t from r);subst e;exact sj P w x t
theorem pY{P:Program}{w:World}:∀{ks:List jp} {us:List Value},zq (ks.map kV) us->ItemsAre (vk P w) ks us
 |[],_,r=>by rw[De] at r;cases r;exact .nil
 |k::ks,_,r=>by rw[AG] at r;cases r with|cons h t=>exact .cons (kJ h) (pY t)
abbrev KT(H:Hp):List (List jp×V)->List (List jp×Addr×Value)->Prop:=Paired λp q=>p.1=q.1/\H q.2.1=some (.tup (p.1.map kV))/\zv p.2 q.2.2
def KT.val{kvs:List (List jp×V)}{xs:List (List jp×Addr×Value)}(r:KT H kvs xs)(k:List jp):dy (bX kvs k) ((atKey xs k).map (·.2)):=by
 induction r with
 |nil=>exact True.intro
 |@cons p q l I h t g=>
  obtain⟨U,_,j⟩:=h;by_cases e:p.1=k
  ·have J:q.1=k:=U.symm.trans e;have b:atKey (q::I) k=some q.2:=by simp[atKey,BA,J]
   rw[oK e,b];exact j
  ·have J:¬q.1=k:=λz=>e (U.trans z);have b:atKey (q::I) k=atKey I k:=by simp[atKey,BA,J]
   rw[mP e,b];exact g
def KT.repl{kvs:List (List jp×V)}{xs:List (List jp×Addr×Value)}(r:KT H kvs xs)(k:List jp){y:V}(g:zv y u):
 KT H (kvs.map λJ=>if J.1=k then(J.1,y) else J) (xs.map (putAt k u)):=by
 induction r with
 |nil=>exact .nil
 |@cons p q o C h t j=>
  rw[AG,AG];refine .cons ?_ j;obtain⟨I,U,l⟩:=h;unfold putAt;by_cases e:p.1=k
  ·rw[Aw e,Aw (I.symm.trans e)];exact⟨I,U,g⟩
  ·rw[As e,As (λz=>e (I.trans z))];exact⟨I,U,l⟩
def KT.put{kvs:List (List jp×V)}{xs:List (List jp×Addr×Value)}(r:KT H kvs xs)(k:List jp){b:Addr}{y:V}(J:H b=some (.tup (k.map kV)))(I:zv y u):
 KT H (eO kvs k y) (storedH xs k b u):=by
 have e:(kvs.any λU=>decide (U.1=k))=(atKey xs k).isSome:=by rw[uG,(r.val k).isSome_eq,CD]
 unfold eO storedH;rw[e];by_cases q:(atKey xs k).isSome=true
 ·rw[Aw q,Aw q];exact r.repl k I
 ·rw[As q,As q];exact Paired.snoc r ⟨rfl,J,I⟩
def KT.keeps{kvs:List (List jp×V)}{xs:List (List jp×Addr×Value)}(r:KT H kvs xs)(I:∀b ys,H b=some (.tup ys)->H' b=some (.tup ys)):KT H' kvs xs:=
 EH r λ_ _ z=>⟨z.1,I _ _ z.2.1,z.2.2⟩
section
variable {P:Program}{w:World}{a:Addr}
def aj0{u:HO}(ok:gC P w H h)(e:Rd H a u):vg P w H h a u:=e.ok ok
def pK{kvs:List (jp×V)}(ok:gC P w H h)(e:Rd H a (.dK kvs)):kvs.length<=sizeLine/\(a==sysModules)=false/\∃vs,KV kvs vs/\h.DictOf (vk P w) a vs:=
 show vg P w H h a (.dK kvs) from aj0 ok e
def aje{kvs:List (jp×V)}(ok:gC P w H h)(e:H a=some (.dK kvs)):kvs.length<=sizeLine/\(a==sysModules)=false/\∃vs,KV kvs vs/\h.DictOf (vk P w) a vs:=pK ok (.inl e)
def nV{ks:List jp}(ok:gC P w H h)(e:H a=some (.tup (ks.map kV))):(tupleKind (vk P w)).is h ks a:=by obtain⟨_,I,r,o,J,U,n,g⟩:=(show vg P w H h a (.tup (ks.map kV)) from ok a _ e);exact⟨o,I.toArray,n,J,U,g,by simpa using pY r⟩
def uT{kvs:List (List jp×V)}(ok:gC P w H h)(e:Rd H a (.dT kvs)):kvs.length<=sizeLine/\(a==sysModules)=false/\
 ∃xs,KT H kvs xs/\h.DictOfH (tupleKind (vk P w)) a xs:=by
 obtain⟨z,y,xs,r,o,U,g,j,C,T,h4,h5⟩:=(show vg P w H h a (.dT kvs) from aj0 ok e);refine⟨z,y,xs,r,o,U,g,j,C,T,h4,λx I=>?_,h5⟩;have all:∀{l:List (List jp×V)} {m:List (List jp×Addr×Value)},KT H l m->∀x∈m,(tupleKind (vk P w)).is h x.1 x.2.1:=by
  intro l m q
  induction q with
  |nil=>intro x I;exact nomatch I
  |@cons p q ps qs J t ih=>
   intro x I;rcases Ax.mp I with e|I
   ·subst e;exact nV ok (by rw[<-J.1];exact J.2.1)
   ·exact ih x I
 exact all r x I
def aop{kvs:List (List jp×V)}(ok:gC P w H h)(e:H a=some (.dT kvs)):kvs.length<=sizeLine/\(a==sysModules)=false/\
 ∃xs,KT H kvs xs/\h.DictOfH (tupleKind (vk P w)) a xs:=uT ok (.inl e)
end
def sT(H:Hp)(a:Addr)(y:V)(r:Option V):Prop:=
 (∃kvs k,Rd H a (.dK kvs)/\y=kV k/\r=bX kvs k)\/∃kvs k b,Rd H a (.dT kvs)/\y=.ref b/\H b=some (.tup (k.map kV))/\r=bX kvs k
def ap5(H:Hp)(a:Addr)(y v:V)(H':Hp):Prop:=
 (∃kvs k,H a=some (.dK kvs)/\y=kV k/\kvs.length<sizeLine/\H'=upd H a (.dK (eO kvs k v)))\/
 ∃kvs k b,H a=some (.dT kvs)/\y=.ref b/\H b=some (.tup (k.map kV))/\kvs.length<sizeLine/\H'=upd H a (.dT (eO kvs k v))
theorem sT.k{a:Addr}{kvs:List (jp×V)}{k:jp}(e:H a=some (.dK kvs)):sT H a (kV k) (bX kvs k):=.inl ⟨kvs,k,.inl e,rfl,rfl⟩
section
variable {a:Addr}{y:V}{r:Value}{o:Option V}
def z9.big(I:z9 X pins σ H s):sysModules<s.heap.objs.size:=by have h:mainGlobals<s.heap.objs.size:=(I.mod.glob.keeps I.bk).lt;exact Df (by decide) h
def aaz(hu:A.units+1<cLine)(I:z9 X pins σ H s)(g:sT H a y (some v))(T:zv y u)(h:∀U s',z9 X pins σ H s'->zv v U->Q U s'):
 wpAny (model X.prog X.w) A (getItem (.ref a) u) Q E s:=by
 rcases g with⟨j,k,e,r,l⟩|⟨j,k,b,e,r,eb,l⟩
 ·subst r;obtain⟨z,hd,vs,rel,t⟩:=pK I.hok e;obtain⟨U,hw,J⟩:=EL (v:=v) (o:=valueAt vs k) (by rw[l];exact rel.val k);exact wpAny_getItem_of (kJ T) t.mapOf hw (h U _ (I.tok _) J)
 ·subst r;cases (show u=Value.ref b from T);obtain⟨z,hd,xs,rel,t⟩:=uT I.hok e;obtain⟨U,hw,J⟩:=EL (v:=v) (o:=(atKey xs k).map (·.2)) (by rw[l];exact rel.val k);obtain⟨p,hp,C⟩:=Ay.mp hw;refine wpAny_getItem_heap (tupleKind_room_in1 hu) (nV I.hok eb) t hp ?_;rw[C];exact h U _ (I.tok _) J
def arn(r:A.units+1<cLine)(I:z9 X pins σ H s)(g:sT H a y o)(p:zv y u)(h:∀s',z9 X pins σ H s'->Q (.bool o.isSome) s'):
 wpAny (model X.prog X.w) A (compareOp .In u (.ref a)) Q E s:=by
 rcases g with⟨J,k,e,U,l⟩|⟨J,k,b,e,U,eb,l⟩
 ·subst U;obtain⟨z,hd,t,rel,j⟩:=pK I.hok e;refine wpAny_in_of (kJ p) hd j.mapOf ?_;rw[<-(rel.val k).isSome_eq,<-l];exact h _ (I.tok _)
 ·subst U;cases (show u=Value.ref b from p);obtain⟨z,hd,C,rel,j⟩:=uT I.hok e;refine wpAny_in_heap (tupleKind_room_in1 r) (nV I.hok eb) hd j ?_;have q:=(rel.val k).isSome_eq;rw[CD] at q;rw[<-q,<-l];exact h _ (I.tok _)
def aig(r:A.units+1<cLine)(I:z9 X pins σ H s)(g:sT H a y o)(p:zv y u)(h:∀s',z9 X pins σ H s'->Q (.bool (!o.isSome)) s'):
 wpAny (model X.prog X.w) A (compareOp .NotIn u (.ref a)) Q E s:=by
 rcases g with⟨J,k,e,U,l⟩|⟨J,k,b,e,U,eb,l⟩
 ·subst U;obtain⟨z,hd,t,rel,j⟩:=pK I.hok e;refine wpAny_notIn_of (kJ p) hd j.mapOf ?_;rw[<-(rel.val k).isSome_eq,<-l];exact h _ (I.tok _)
 ·subst U;cases (show u=Value.ref b from p);obtain⟨z,hd,C,rel,j⟩:=uT I.hok e;refine wpAny_notIn_heap (tupleKind_room_in1 r) (nV I.hok eb) hd j ?_;have q:=(rel.val k).isSome_eq;rw[CD] at q;rw[<-q,<-l];exact h _ (I.tok _)
def qX{ob:HO}(I:z9 X pins σ H s)(J:Mut (H a))(hs:Heap.SameBut a s.heap h')(U:∃q,h'.get? a=some q)(new:vg X.prog X.w (upd H a ob) h' a ob)(j:0<t':=by walk_at "t"):
 z9 X pins σ (upd H a ob) { s with heap:=h',toks:=t' }:=
 I.write (x:=a) (e:=a) J (.inl rfl) (λb q g z=>(hs.2 b g).trans z) U new
def ael{P:Program}{w:World}{kvs:List (jp×V)}{vs:List (jp×Value)}(z:kvs.length<=sizeLine)(hd:(a==sysModules)=false)(rel:KV kvs vs)(I:h'.DictOf (vk P w) a vs):
 vg P w H' h' a (.dK kvs):=⟨z,hd,vs,rel,I⟩
def abf{Q:Unit->Shared->Prop}(hu:A.units+1<cLine)(I:z9 X pins σ H s)(g:ap5 H a y v H')(ry:zv y u)(rv:zv v r)(h:∀s',z9 X pins σ H' s'->Q () s'):
 wpAny (model X.prog X.w) A (setItem (.ref a) u r) Q E s:=by
 rcases g with⟨J,k,e,o,l,p⟩|⟨J,k,b,e,o,eb,l,p⟩
 ·subst o p;obtain⟨z,hd,vs,rel,t⟩:=aje I.hok e;have C:vs.length<=sizeLine:=by rw[<-rel.length];exact z
  have T:(eO J k v).length<=sizeLine:=by have:=eB J k v;lia
  refine wpAny_setItem_pairs (hsz:=C) (kJ ry) t λh' U hs=>h _ ?_;have he:∃q,h'.get? a=some q:=let ⟨q,_,_,j,_⟩:=U;⟨q,j⟩;exact qX I (by rw[e];exact True.intro) hs he (ael T hd (rel.put k rv) U)
 ·subst o p;cases (show u=Value.ref b from ry);obtain⟨z,hd,xs,rel,t⟩:=aop I.hok e;have C:xs.length<=sizeLine:=by rw[<-Paired.length rel];exact z
  have T:(eO J k v).length<=sizeLine:=by have:=eB J k v;lia
  refine wpAny_setItem_heap (hsz:=C) (tupleKind_room_in1 hu) (nV I.hok eb) t λh' U hs=>h _ ?_;obtain⟨q,es,ep,j,h2,h3,h4,_,h5⟩:=U;refine qX I (by rw[e];exact True.intro) hs ⟨q,j⟩ ⟨T,hd,_,(rel.put k eb rv).keeps λc ys ec=>?_,q,es,ep,j,h2,h3,h4,h5⟩;rw[qt (ao3 ec e (λz=>nomatch z))];exact ec
end
section
variable {a:Addr}{kvs:List (jp×V)}{k:jp}
end
def akc(i:Expr):Prop:=∀I J,subscripted i false I J=operate [I,J] (getItem I J)
def agw{w:World}{slice:Expr}{T id:String}
 (t:typeLookup (.type T) "__getitem__" = pure (some (.builtin id))) (hs:akc slice)
 (h:wpAny (model prog w) A (eval value env) (λo U=>wpAny (model prog w) A (eval slice env) (λi I=>I.TypeIs o T/\wpAny (model prog w) A (getItem o i) Q E I) E U) E s):
 wpAny (model prog w) A (eval (.Subscript value slice pos) env) Q E s:=by
 refine Subscript_ (AZ h (λo U j=>AZ j (λi I J=>?_) λ_ _ x=>x) λ_ _ x=>x);obtain⟨p,J⟩:=J;unfold subscriptTail;refine Aa ?_;rw[getitemInPython_of_ne p.not_modules];refine Aa (wpAny_specialOf p t ?_);have k6:wpAny (model prog w) A (subscripted slice false o i) (λr g=>wpAny (model prog w) A (letTemporaryGo value o r >>= λ_=>pure r) Q E g) E I:=by rw[hs o i];exact wpAny_operating (AZ J (λr g l=>Aa (wpAny_letTemporaryGo (Ai l))) λ_ _ x=>x)
 first
  |exact Ai (Aa k6)
  |exact Aa (Ai (Aa k6))
  |exact Aa k6
def tG{a:Addr}{y:V}{o:Option V}(I:z9 X pins σ H s)(g:sT H a y o):s.TypeIs (.ref a) "dict" := by
 rcases g with⟨J,k,e,_,_⟩|⟨J,k,b,e,_,_,_⟩
 ·obtain⟨_,_,j,_,U⟩:=pK I.hok e;exact U.typeIs
 ·obtain⟨_,_,l,_,U⟩:=uT I.hok e;exact U.typeIs
def anm(td ty:TE):TE:=λσ H Q=>td σ H λx H1=>ty σ H1 λy H2=>∃a v,x=.ref a/\sT H2 a y (some v)/\Q v H2
def anu(td ty tv:TE):TS:=λD σ H=>tv σ H λv H1=>td σ H1 λx H2=>ty σ H2 λy J=>∃a I,x=.ref a/\ap5 J a y v I/\D.nx σ I
section
variable {i:Expr}{tpos:Pos}{td ty tv:TE}
def ah4(p:X.A.units+1<cLine)(r:PE X o td)(hi:PE X i ty)(hs:akc i):PE X (.Subscript o i pos) (anm td ty):=by intro J s j H Q I h;refine agw DI.lookup hs (af (r J s j H _ I h) λu t x C T rx q1=>aT (hi J t j C _ T q1) λiv s2 ⟨y,H2,l,ry,a,v,ex,g,q2⟩=>?_);subst ex;obtain rfl:u=Value.ref a:=rx;exact⟨tG l g,aaz p l g ry λw' s3 I3 U=>⟨v,H2,I3,U,q2⟩⟩
def ahd(j:X.A.units+1<cLine)(l:PE X o td)(hi:PE X i ty)(p:PE X value tv)(hs:swapsWith value (some (.Subscript o i hQ)) pos.line X.env=pure false):
 PS X (.Assign [.Subscript o i hQ] value pos) (anu td ty tv):=by
 intro J s U H D I h;refine wpAny_Assign_Subscript (af (p J s U H _ I h) λr t v C T rv q1=>af (l J t U C _ T q1) λu s2 x H2 I2 rx q2=>aT (hi J s2 U H2 _ I2 q2) λiv s3 ⟨y,H3,I3,ry,a,H4,ex,g,q3⟩=>?_) hs;subst ex;obtain rfl:u=Value.ref a:=rx;exact abf j I3 g ry rv λs4 I4=>⟨U,H4,I4,q3⟩
end
def t8{P:Program}{w:World}(h:Heap)(I:sysModules<h.objs.size):vg P w H (h.push { cls:=.type "dict",data:=.dict #[] }) h.objs.size (.dK []):=
 ⟨Bo _,beq_eq_false_iff_ne.mpr (AH (A4 I)),[],.nil,Heap.DictOf.new h⟩
def alu:TE:=λ_ H Q=>∀p,H p=none->Q (.ref p) (upd H p (.dK []))
def act:PE X (.Dict [] [] pos) alu:=λJ s U H Q I h=>
 wpAny_Dict_empty ⟨.ref s.heap.objs.size,_,I.laid (a:=s.heap.objs.size) (o:=.dK []) (t':=s.toks) (λ_ _ q=>u3 _ q) (Al _) (t8 s.heap I.big),rfl,h _ (I.hok.fresh (Al _))⟩
def rB:List (TE×TE)->St->Hp->(List (V×V)->Hp->Prop)->Prop
 |[],_,H,Q=>Q [] H
 |(tk,tv)::r,σ,H,Q=>tk σ H λx H1=>tv σ H1 λy H2=>rB r σ H2 λps I=>Q ((x,y)::ps) I
abbrev VV:List (V×V)->List (Value×Value)->Prop:=Paired λp q=>zv p.1 q.1/\zv p.2 q.2
def PPs(X:Cx)(pos:Pos)(keys:List (Option Expr))(values:List Expr)(I:List (TE×TE)):Prop:=
 ∀(pins:List (Addr×Obj)) (s:Shared) (σ:St) (H:Hp) (Q:List (V×V)->Hp->Prop),z9 X pins σ H s->rB I σ H Q->
  wpAny (model X.prog X.w) X.A (evalPairs (pairTrees keys values X.env pos)) (λvs s'=>∃ps H',z9 X pins σ H' s'/\VV ps vs/\Q ps H') X.xe s
def ag7 :PPs X pos [] [] []:=λJ s U H Q I h=>pairTrees_nil_walk ⟨[],H,I,.nil,h⟩
def hZ{k v:Expr}{ks:List (Option Expr)}{vs:List Expr}{tk tv:TE}{U:List (TE×TE)}(j:PE X k tk)(l:PE X v tv)(o:PPs X pos ks vs U):
 PPs X pos (some k::ks) (v::vs) ((tk,tv)::U):=λJ s g H Q I h=>
 pairTrees_cons_walk (af (j J s g H _ I h) λu p x r t C T=>af (l J p g r _ t T) λw2 s2 y H2 I2 ry q2=>
  aT (o J s2 g H2 _ I2 q2) λws s3 ⟨ps,H3,I3,rel,q3⟩=>⟨(x,y)::ps,H3,I3,.cons ⟨C,ry⟩ rel,q3⟩)
def jK(kvs more:List (jp×V)):List (jp×V):=more.foldl (λI J=>eO I J.1 J.2) kvs
def KV.merge:∀{more:List (jp×V)} {I:List (jp×Value)} {kvs:List (jp×V)} {vs:List (jp×Value)},KV more I->KV kvs vs->KV (jK kvs more) (merged vs I):=by
 intro more I kvs vs r;unfold KV at r
 induction r generalizing kvs vs with
 |nil=>intro q;exact q
 |@cons p q g j h t J=>
  intro U;have e:KV (eO kvs p.1 p.2) (stored vs q.1 q.2):=by have:=U.put p.1 h.2;rw[<-h.1];exact this
  exact J e
theorem fk:∀(more kvs:List (jp×V)),(jK kvs more).length<=kvs.length+more.length
 |[],kvs=>by show kvs.length<=kvs.length+0;lia
 |p::r,kvs=>by have I:=fk r (eO kvs p.1 p.2);have J:=eB kvs p.1 p.2;show(jK (eO kvs p.1 p.2) r).length<=_;rw[AF];lia
theorem m7{P:Program}{w:World}:∀{kvs:List (jp×V)} {J:List (Value×Value)},VV (kvs.map λU=>(kV U.1,U.2)) J->∃I,Carries (vk P w) J I/\KV kvs I
 |[],_,r=>by rw[De] at r;cases r;exact⟨[],True.intro,.nil⟩
 |p::kvs,_,r=>by
  rw[AG] at r;cases r with
  |@cons a b as bs h t=>
   obtain⟨I,c,q⟩:=m7 (P:=P) (w:=w) t;obtain⟨b1,b2⟩:=b;exact⟨(p.1,b2)::I,⟨kJ h.1,rfl,c⟩,.cons ⟨rfl,h.2⟩ q⟩
def ang(I:List (TE×TE)):TE:=λσ H Q=>∀p,H p=none->rB I σ (upd H p (.dK [])) λps H2=>H2 p=some (.dK [])/\∃kvs:List (jp×V),ps=kvs.map (λJ=>(kV J.1,J.2))/\kvs.length<=15/\Q (.ref p) (upd H2 p (.dK (jK [] kvs)))
def ai8{keys:List (Option Expr)}{values:List Expr}{J:List (TE×TE)}(h:PPs X pos keys values J)(U:keys.all (·.isSome)=true)(t:keys.length=values.length)(C:keys≠[])
 (p:keys.length<=15):PE X (.Dict keys values pos) (ang J):=by
 intro g s T H Q I q;have hn:=I.hok.fresh (Al s.heap.objs.size);have I1:=I.laid (a:=s.heap.objs.size) (o:=.dK []) (h':=s.heap.push { cls:=.type "dict",data:=.dict #[] }) (t':=s.toks) (λ_ _ q=>u3 _ q) (Al _) (t8 s.heap I.big);refine wpAny_Dict_walk (knd:=vk X.prog X.w) U t C p (aT (h g _ T _ _ I1 (q _ hn)) λws s2 ⟨ps,H2,r,rel,e,j,ep,lk,q2⟩=>?_);subst ep;obtain⟨rs,c,rk⟩:=m7 (P:=X.prog) (w:=X.w) rel;obtain⟨z,hd,a0,r0,dd⟩:=aje r.hok e;cases r0;refine⟨rs,c,dd,λh' l hs=>⟨.ref s.heap.objs.size,_,?_,rfl,q2⟩⟩;have hz:(jK [] j).length<=sizeLine:=by have h1:=fk j [];rw[List.length_nil] at h1;rw[sizeLine_eq];lia
 have he:∃q,h'.get? s.heap.objs.size=some q:=let ⟨q,_,_,hq,_⟩:=l;⟨q,hq⟩;exact qX r (by rw[e];exact True.intro) hs he (ael hz hd (rk.merge .nil) l)
section
variable {a:Addr}{y d:V}{r:Value}{o:Option V}
end
section
variable {f:Expr}{td ty tx:TE}
end
section
variable {a:Addr}{kvs:List (jp×V)}
end
section
variable {a:Addr}{y:V}
end
end L2
namespace HT
open PySem PyProof.Rows
section
open PySem.SeqAt
open PySem.AutoSeq1 (wpAny_loadPart')
open PySem.MeetsSeq PySem.MeetsSeq2 PySem.MeetsSeq3
end
section
variable {w:World}
def sIx(n d:Nat):Option Int->Nat
 |none=>d
 |some v=>if v<0 then(v+(n:Int)).toNat else min v.toNat n
def sIx_none(n d:Nat):sIx n d none=d:=rfl
def sIx_nat(n d k:Nat):sIx n d (some (k:Int))=min k n:=by show(if (k:Int)<0 then((k:Int)+(n:Int)).toNat else min (k:Int).toNat n)=min k n;rw[As (by lia),Cg]
def sIx_le(n d:Nat)(hd:d<=n)(o:Option Int):sIx n d o<=n:=by
 cases o with
 |none=>exact hd
 |some v=>
  show(if v<0 then(v+(n:Int)).toNat else min v.toNat n)<=n;by_cases I:v<0
  ·rw[Aw I];lia
  ·rw[As I];exact Nat.min_le_right _ _
def yX(v:Int)(n d:Nat):(if v<0 then max (v+(n:Int)) 0 else min v (n:Int))=((sIx n d (some v):Nat):Int):=by
 show(if v<0 then max (v+(n:Int)) 0 else min v (n:Int))=(((if v<0 then(v+(n:Int)).toNat else min v.toNat n):Nat):Int);by_cases I:v<0
 ·simp only[Aw I];lia
 ·simp only[As I];lia
def vK(lo hi:Option Int)(n:Nat):Builtin.Slice.sliceAdjust lo hi 1 (n:Int)=(((sIx n 0 lo:Nat):Int),(sIx n n hi:Int)):=by
 have I:¬((1:Int)<0):=by lia
 unfold Builtin.Slice.sliceAdjust;simp only[I,if_false];refine Es ?_ ?_
 ·cases lo with|none=>rfl|some v=>exact yX v n 0
 ·cases hi with|none=>rfl|some v=>exact yX v n n
def xI(i j:Nat):Builtin.Slice.slicePlaces (i:Int) (j:Int) 1=j-i:=by
 unfold Builtin.Slice.slicePlaces;have I:(1:Int) > 0:=by lia
 simp only[I,if_true,Int.ediv_one];split<;>lia
def oA{v:Value}{o:Option Int}{Q:Option Int->Shared->Prop}(p:IsPart v o)(h:Q o s):wpAny (model prog w) A (Builtin.Slice.slicePartIndex v) Q E s:=by cases p with|none=>exact slicePart_none h|int i t=>exact slicePart_int h
def ip{j:Addr}{U g:Value}{lo hi:Option Int}{Q:Int×Int×Nat->Shared->Prop}(hs:s.heap.IsSliceOf j U g .none)(pl:IsPart U lo)(l:IsPart g hi)
 (h:Q (((sIx n 0 lo:Nat):Int),1,sIx n n hi-sIx n 0 lo) s):wpAny (model prog w) A (Builtin.Slice.sliceApplied (.ref j) (pure (n:Int))) Q E s:=by
 obtain⟨os,I,o,J⟩:=id hs;unfold Builtin.Slice.sliceApplied Builtin.Slice.sliceFields;refine Aa (Aa (Ba I J (x:=U) rfl (Aa (Ba I J (x:=g) rfl (Aa (Ba I J (x:=.none) rfl (Ai ?_)))))));refine Aa (slicePart_none ?_);show wpAny _ _ (if ((1:Int)==0)=true then _ else _) _ _ s;rw[As (by decide)];refine Aa (oA pl (Aa (oA l (Aa (Ai ?_)))));show wpAny _ _ (match Builtin.Slice.sliceAdjust lo hi 1 (n:Int) with|(lo,hi)=>pure (lo,(1:Int),Builtin.Slice.slicePlaces lo hi 1)) _ _ s;rw[vK lo hi n];show wpAny _ _ (pure (((sIx n 0 lo:Nat):Int),(1:Int),Builtin.Slice.slicePlaces ((sIx n 0 lo:Nat):Int) (sIx n n hi:Int) 1)) _ _ s;rw[xI];exact Ai h
def adc(xs:Array Value)(i k:Nat):((List.range k).filterMap λ(m:Nat)=>xs[((i:Int)+(m:Int)*1).toNat]?).toArray=((xs.toList.drop i).take k).toArray:=by
 have e:(λ(m:Nat)=>xs[((i:Int)+(m:Int)*1).toNat]?)=λm=>xs[i+m]?:=by
  funext m;have:((i:Int)+(m:Int)*1).toNat=i+m:=by lia
  rw[this]
 rw[e];have:=pick_run xs i k;rw[List.filterMap_map] at this;have I:((λx=>xs[x]?)∘λx=>i+x)=λm=>xs[i+m]?:=rfl;rw[I] at this;rw[this]
def getItem_tuple_cut{t U:Addr}{items:Array Value}{p r:Value}{lo hi:Option Int}(J:IsTup s.heap t items)(hs:s.heap.IsSliceOf U p r .none)(pl:IsPart p lo)(C:IsPart r hi)
 (hw:¬(sIx items.size 0 lo=0/\sIx items.size items.size hi=items.size))
 (h:Q (.ref s.heap.objs.size) { s with heap:=s.heap.push { cls:=.type "tuple",data:=.seq ((items.toList.drop (sIx items.size 0 lo)).take (sIx items.size items.size hi-sIx items.size 0 lo)).toArray } })
 (hsz:items.size<=sizeLine):wpAny (model prog w) A (getItem (.ref t) (.ref U)) Q E s:=by
 have I:sizeOk (.seq ((items.toList.drop (sIx items.size 0 lo)).take (sIx items.size items.size hi-sIx items.size 0 lo)).toArray):=by show((items.toList.drop (sIx items.size 0 lo)).take (sIx items.size items.size hi-sIx items.size 0 lo)).toArray.size<=sizeLine;rw[Ar,AX,BB,AL];lia
 have hj:sIx items.size items.size hi<=items.size:=sIx_le _ _ (Al _) hi;obtain⟨os,g,j,T⟩:=id hs;have l:s.TypeIs (.ref U) "slice" := ⟨os,g,j⟩;unfold getItem
 try with_reducible refine Be ?_
 first|refine Aa (Ai ?_)|skip
 refine Aa (wpAny_sequenceKey J.typeIs (by decide) ?_);refine Aa (wpAny_callSpecial?_slot (name:=Str.ofString "__getitem__") J.typeIs Co
  (wpAny_call_entry Co J.typeIs entry_tuple_getitem ?_ (args_tuple_getitem _ _)))
 show wpAny _ _ (Builtin.Tuple.tupleItemsOf (.ref t) >>= _) _ _ s;refine Aa (tupleItemsOf_ J ?_);refine Aa (wpAny_typeOf l ?_);rw[Aw (by decide)];refine Aa (ip hs pl C ?_);have o:¬((((sIx items.size 0 lo:Nat):Int)==0&&(1:Int)==1&&(sIx items.size items.size hi-sIx items.size 0 lo)==items.size)=true):=by intro q;rw[AR,AR] at q;have q1:((sIx items.size 0 lo:Nat):Int)=0:=eq_of_beq q.1.1;have q2:sIx items.size items.size hi-sIx items.size 0 lo=items.size:=eq_of_beq q.2;exact hw ⟨by lia,by lia⟩
 show wpAny _ _ (if (((sIx items.size 0 lo:Nat):Int)==0&&(1:Int)==1&&(sIx items.size items.size hi-sIx items.size 0 lo)==items.size)=true then _ else _) _ _ s;rw[As o,adc]
 first
  |exact Aa (m:=Builtin.Tuple.tupleExact _) (Bn (Ai ⟨_,rfl,Ai h⟩) I)
  |exact Aa (m:=Builtin.Tuple.tupleExact _) (Bn (Aa (Ai (Ai ⟨_,rfl,Ai h⟩))) I)
  |exact Aa (Aa (m:=Builtin.Tuple.tupleExact _) (Bn (Ai (Ai ⟨_,rfl,Ai h⟩)) I))
  |exact Aa (Aa (m:=Builtin.Tuple.tupleExact _) (Bn (Ai ⟨_,rfl,Ai h⟩) I))
end
end HT
namespace L2
open PySem PySem.Spec PyProof.Rows
abbrev TO:=St->Hp->(Option Int->Hp->Prop)->Prop
def PO(X:Cx)(e:Option Expr)(t:TO):Prop:=
 ∀(pins:List (Addr×Obj)) (s:Shared) (σ:St) (H:Hp) (Q:Option Int->Hp->Prop),z9 X pins σ H s->t σ H Q->
  wpAny (model X.prog X.w) X.A (evalPart e X.env) (λu s'=>∃o H',z9 X pins σ H' s'/\IsPart u o/\Q o H') X.xe s
def ai7:TO:=λ_ H Q=>Q none H
def anc(t:TE):TO:=λσ H Q=>t σ H λx H1=>∃i,x=.int i/\Q (some i) H1
section
variable {te:TE}{lo hi:Option Expr}{tl th:TO}
def ag5:PO X none ai7:=by intro J s U H Q I h;rw[evalPart_none];exact Ai ⟨none,H,I,.none,h⟩
def ag8(h:PE X e te):PO X (some e) (anc te):=by intro J s U H Q I hw;rw[evalPart_some];refine af (h J s U H _ I hw) λu p x g j l o=>?_;obtain⟨i,rfl,q⟩:=o;obtain⟨t,rfl⟩:=l;exact⟨some i,g,j,.int i t,q⟩
def sW(X:Cx)(r:V->Option Int->Option Int->Hp->VK->Prop):Prop:=
 ∀(pins:List (Addr×Obj)) (s:Shared) (σ:St) (H:Hp) (x:V) (v I J:Value) (lo hi:Option Int) (U:Addr) (Q:VK),z9 X pins σ H s->zv x v->s.heap.IsSliceOf U I J .none->IsPart I lo->IsPart J hi->r x lo hi H Q->
  ∃T id,typeLookup (.type T) "__getitem__" = pure (some (.builtin id))/\s.TypeIs v T/\wpAny (model X.prog X.w) X.A (getItem v (.ref U)) (EP X pins σ Q) X.xe s
def sW.or{U:V->Option Int->Option Int->Hp->VK->Prop}(h:sW X r)(h':sW X U):sW X (λx lo hi H Q=>r x lo hi H Q\/U x lo hi H Q):=by
 intro J s g H x v j l lo hi o Q I p t C T q;rcases q with q|q
 ·exact h J s g H x v j l lo hi o Q I p t C T q
 ·exact h' J s g H x v j l lo hi o Q I p t C T q
def tSl(r:V->Option Int->Option Int->Hp->VK->Prop)(te:TE)(tl th:TO):TE:=λσ H Q=>te σ H λx H1=>tl σ H1 λl H2=>th σ H2 λu I=>r x l u I Q
def ae4(t:sW X r)(C:PE X e te)(hl:PO X lo tl)(hu:PO X hi th):PE X (.Subscript e (.Slice lo hi none p2) pos) (tSl r te tl th):=by intro J s g H Q I h;refine Subscript_ (aT (C J s g H _ I h) λv s1 ⟨x,H1,I1,r1,q1⟩=>?_);refine wpAny_Slice (aT (hl J s1 g H1 _ I1 q1) λj s2 ⟨l,H2,I2,pl,q2⟩=>aT (hu J s2 g H2 _ I2 q2) λo U ⟨u,p,I3,pu,q3⟩=>?_);rw[evalPart_none];refine Ai ?_;have I4:z9 X J g p { U with heap:=U.heap.push { cls:=.type "slice",data:=.fields #[j,o,.none] } }:=I3.kept (t':=U.toks) λb ob q=>u3 _ q;obtain⟨T,id,hT,ht,hg⟩:=t J { U with heap:=U.heap.push { cls:=.type "slice",data:=.fields #[j,o,.none] } } g p x v j o l u U.heap.objs.size Q I4 r1 (Heap.IsSliceOf.new ..) pl pu q3;show wpAny (model X.prog X.w) X.A (subscriptTail e (.Slice lo hi none p2) v (.ref U.heap.objs.size)) (EP X J g Q) X.xe { U with heap:=U.heap.push { cls:=.type "slice",data:=.fields #[j,o,.none] } };exact tail_any (ops:=[.ref U.heap.objs.size,v]) ht hT hg (by with_unfolding_all rfl)
def si(xs:List V)(lo hi:Option Int):List V:=(xs.drop (HT.sIx xs.length 0 lo)).take (HT.sIx xs.length xs.length hi-HT.sIx xs.length 0 lo)
def kU(xs:List V)(lo hi:Option Int):(si xs lo hi).length<=xs.length:=by unfold si;rw[AX,BB];lia
def aro(K:Ae):V->Option Int->Option Int->Hp->VK->Prop:=λx lo hi H Q=>∃a xs,x=.ref a/\dq K H a xs/\
 ¬(HT.sIx xs.length 0 lo=0/\HT.sIx xs.length xs.length hi=xs.length)/\∀p,H p=none->Q (.ref p) (upd H p (.tup (si xs lo hi)))
def aks:sW X (aro X.K):=by
 intro l s σ H x v vl vu lo g sl Q I C T pl pu h;obtain⟨a,U,rfl,hx,hw,q⟩:=h;cases C;obtain⟨j,r,p,t⟩:=I.tuple hx;have J:j.toArray.size=U.length:=by rw[Ar];exact r.length.symm
 refine⟨"tuple",_,Co.lookup,p.typeIs,?_⟩;refine HT.getItem_tuple_cut p T pl pu (by rw[J];exact hw) ?_ (by rw[J];exact t);rw[J];refine⟨.ref s.heap.objs.size,_,I.laid (t':=s.toks) (o:=.tup (si U lo g)) (λb ob q=>u3 _ q) (Al _) ?_,rfl,q _ (I.hok.fresh (Al _))⟩;exact⟨AK (kU U lo g) t,_,(r.drop (HT.sIx U.length 0 lo)).take (HT.sIx U.length U.length g-HT.sIx U.length 0 lo),IsTup.new _ _⟩
end
def ixN(n:Nat)(i:Int):Option Nat:=if 0<=i then(if i<n then some i.toNat else none) else if -(n:Int)<=i then some (i+n).toNat else none
def eG(xs:List α)(i:Int):Option α:=(ixN xs.length i).bind λj=>xs[j]?
def yY{i:Int}(h:ixN n i=some j):seqIndex? i n=some j/\j<n /\ -(n:Int)<=i/\i<n:=by
 unfold ixN at h;by_cases J:0<=i
 ·rw[Aw J] at h;by_cases I:i<n
  ·rw[Aw I] at h;have e:i.toNat=j:=AW h;exact⟨by rw[seqIndex_of J I,e],by lia,by lia,I⟩
  ·rw[As I] at h;cases h
 ·rw[As J] at h;by_cases I : -(n:Int)<=i
  ·rw[Aw I] at h;have e:(i+n).toNat=j:=AW h;exact⟨by rw[seqIndex_neg (by lia) I,e],by lia,I,by lia⟩
  ·rw[As I] at h;cases h
def rH{xs:List α}{i:Int}{v:α}(h:eG xs i=some v):∃j,seqIndex? i xs.length=some j/\xs[j]?=some v/\j<xs.length /\ -(xs.length:Int)<=i/\i<xs.length:=by
 unfold eG at h;cases e:ixN xs.length i with
 |none=>rw[e] at h;cases h
 |some j=>
  rw[e] at h;obtain⟨I,J,U,g⟩:=yY e;exact⟨j,I,h,J,U,g⟩
def vj{xs:List α}{v:α}(h:xs[j]?=some v):eG xs (j:Int)=some v:=by
 have I:j<xs.length:=(AU.mp h).1;have e:ixN xs.length (j:Int)=some j:=by unfold ixN;rw[Aw (by lia),Aw (by lia)];simp
 unfold eG;rw[e];exact h
def rW(b:Expr):Prop:=∀o i,subscripted b false o i=operate [o,i] (getItem o i)
def IxR(X:Cx)(r:R2):Prop:=
 ∀(value slice:Expr) (pins:List (Addr×Obj)) (s:Shared) (σ:St) (H:Hp) (x y:V) (v u:Value) (Q:VK),z9 X pins σ H s->zv x v->zv y u->r x y H Q->
  subscripted slice false v u=operate [v,u] (getItem v u)->wpAny (model X.prog X.w) X.A (subscriptTail value slice v u) (EP X pins σ Q) X.xe s
def MtR(X:Cx)(id:String)(r:V->List V->Hp->VK->Prop):Prop:=
 ∀(pins:List (Addr×Obj)) (s:Shared) (σ:St) (H:Hp) (x:V) (xs:List V) (v:Value) (us:List Value) (Q:VK),z9 X pins σ H s->zv x v->zq xs us->r x xs H Q->
  wpAny (model X.prog X.w) X.A (call (.builtin id) (v::us)) (EP X pins σ Q) X.xe s
section
variable {a b:Expr}{ta tb:TE}
def aoh{r:R2}(U:IxR X r)(g:PE X a ta)(j:PE X b tb)(hs:rW b):PE X (.Subscript a b pos) (tOp r ta tb):=by intro J s l H Q I h;exact Subscript_ (amj g j I h λv u o x y p t C T q=>U a b J o l p x y v u Q t C T q (hs _ _))
def aqv(K:Ae):R2:=λx y H Q=>∃p xs i v,x=.ref p/\y=.int i/\a9 K H p xs/\eG xs i=some v/\Q v H
def ard(K:Ae):R2:=λx y H Q=>∃p xs i v,x=.ref p/\y=.int i/\dq K H p xs/\eG xs i=some v/\Q v H
def asn:R2:=λx y H Q=>∃z i c,x=.str z/\y=.int i/\z.length<=sizeLine/\eG z.cps.toList i=some c/\Q (.str ⟨#[c]⟩) H
def agy:IxR X (aqv X.K):=by
 intro value slice J s T H x y v u Q I rx ry h hs;obtain⟨p,xs,i,z,rfl,rfl,hq,he,q⟩:=h;cases rx;obtain⟨t,rfl⟩:=ry;obtain⟨g,r,l,hz⟩:=I.list hq;obtain⟨j,U,h2,h3,h4,h5⟩:=rH he;obtain⟨w,ew,o⟩:=r.get h2;have hl:=r.length;have hn:=jD;have k6:EP X J T Q w s:=⟨z,H,I,o,q⟩;by_cases h0:0<=i
 ·have C:i.toNat=j:=by rw[seqIndex_of h0 h5] at U;exact AW U
  exact item_listR l.isList h0 (by lia) (by rw[C];simpa using ew) k6 hs
 ·have C:(i+(g.toArray.size:Int)).toNat=j:=by rw[seqIndex_neg (by lia) h4] at U;rw[Ar,<-hl];exact AW U
  exact subscriptTail_builtinR (x:=w) l.isList.typeIs slot_list_getitem.lookup
   (wpAny_getItem_list_neg (Q:=λr s'=>r=w/\EP X J T Q r s') l.isList (by lia) (by rw[Ar]<;>lia) (by lia) (by rw[C];simpa using ew) ⟨rfl,k6⟩) hs
def alw:IxR X (ard X.K):=by
 intro value slice J s g H x y v u Q I o C h T;obtain⟨p,xs,i,z,rfl,rfl,hq,he,q⟩:=h;cases o;obtain⟨t,rfl⟩:=C;obtain⟨a0,r,l,hz⟩:=I.tuple hq;obtain⟨j,h1,h2,h3,h4,h5⟩:=rH he;obtain⟨w,ew,U⟩:=r.get h2;have hl:=r.length;have hn:=jD;have k6:EP X J g Q w s:=⟨z,H,I,U,q⟩;exact subscriptTail_builtinR (x:=w) l.typeIs slot_tuple_getitem.lookup
  (getItem_tuple (j:=j) (Q:=λr s'=>r=w/\EP X J g Q r s') l (by lia) (by lia) (by rw[Ar,<-hl];exact h1) (by simpa using ew) ⟨rfl,k6⟩) T
def am2:IxR X asn:=by
 intro value slice J s σ H x y v u Q I g l h o;obtain⟨z,i,c,rfl,rfl,hz,p,q⟩:=h;obtain⟨t,rfl⟩:=g;obtain⟨t',rfl⟩:=l;obtain⟨j,U,r,h3,C,T⟩:=rH p;have hl:z.cps.toList.length=z.length:=by simp[Str.length]
 rw[hl] at U C T;have hn:=jD;exact tail_any (typeIs_str s z t) slot_str_getitem.lookup (getItem_str (c:=c) (by have e1:decide (i < -(2 ^ 63:Int))=false:=Aq (by lia);have e2:decide (i>=2 ^ 63)=false:=Aq (by lia);rw[e1,e2,Bool.or_false]) (by rw[U];simpa using r) ⟨.str ⟨#[c]⟩,H,I.tok _,⟨_,rfl⟩,q⟩) o
def vC(eH:List Value)(n j:Nat)(u:Value):Obj.mapSeq (·.setIfInBounds j u) { cls:=.type "list",data:=.seq eH.toArray n }={ cls:=.type "list",data:=.seq (eH.set j u).toArray n }:=by simp[Obj.mapSeq]
def z9.lst{p:Addr}(I:z9 X pins σ H s)(h:H p=some (.lst xs)):
 ∃(eH:List Value) (n:Nat),zq xs eH/\s.heap.get? p=some { cls:=.type "list",data:=.seq eH.toArray n }/\xs.length<=sizeLine:=by
 obtain⟨z,eH,n,r,e⟩:=I.hok p _ h;exact⟨eH,n,r,e,z⟩
def z9.lstUpd{p:Addr}{ys:List V}{its':List Value}{J:Nat}{f:Obj->Obj}(I:z9 X pins σ H s)(h:H p=some (.lst xs))
 (g:s.heap.get? p=some { cls:=.type "list",data:=.seq eH.toArray n }) (U:f { cls:=.type "list",data:=.seq eH.toArray n }={ cls:=.type "list",data:=.seq its'.toArray J }) (r:zq ys its') (hz:ys.length<=sizeLine) (t:Nat) (l:0<t:=by walk_at "t"):
 z9 X pins σ (upd H p (.lst ys)) { s with heap:=s.heap.update p f,toks:=t }:=by
 have e:(s.heap.update p f).get? p=some { cls:=.type "list",data:=.seq its'.toArray J }:=by rw[Dd f g (by rw[U]<;>rfl),U]
 refine I.write (x:=p) (e:=p) (by rw[h];trivial) (.inl rfl) (λb u j q=>(Heap.get?_update_other _ _ (AH j)).trans q) ⟨_,e⟩ ?_;exact⟨hz,its',J,r,e⟩
def aoi:V->V->V->Hp->(Hp->Prop)->Prop:=λo i v H Q=>∃p xs k j,o=.ref p/\i=.int k/\H p=some (.lst xs)/\ixN xs.length k=some j/\Q (upd H p (.lst (xs.set j v)))
def acx:aoy X aoi:=by
 intro J s σ H o i v ov iv u Q I ro ri rv h;obtain⟨p,xs,k,j,rfl,rfl,hp,hj,q⟩:=h;cases ro;obtain⟨t,rfl⟩:=ri;obtain⟨U,n,r,l,hz⟩:=I.lst hp;obtain⟨g,h2,h3,h4⟩:=yY hj;have C:=r.length;have hn:=jD;have I':z9 X J σ (upd H p (.lst (xs.set j v))) { s with heap:=s.heap.update p (Obj.mapSeq (·.setIfInBounds j u)) }:=
  I.lstUpd hp l (vC U n j u) (r.set rv j) (by rw[Bp];exact hz) s.toks
 by_cases h0:0<=k
 ·have T:k.toNat=j:=by rw[seqIndex_of h0 h4] at g;exact AW g
  exact PySem.W.ki_setAt l h0 (by lia) (by rw[Ar,<-C];exact h4) (by rw[T];exact⟨_,I',q⟩)
 ·have T:(k+(U.toArray.size:Int)).toNat=j:=by rw[seqIndex_neg (by lia) h3] at g;rw[Ar,<-C];exact AW g
  exact PySem.W.ki_setBack l (by lia) (by rw[Ar,<-C];exact h3) (by lia) (by rw[T];exact⟨_,I',q⟩)
def qQ(lo hi:Option Int)(n:Nat):(sliceBounds lo hi none n).1=((HT.sIx n 0 lo:Nat):Int)/\(sliceBounds lo hi none n).2.1=((HT.sIx n n hi:Nat):Int)/\(sliceBounds lo hi none n).2.2=1:=by
 refine⟨?_,?_,rfl⟩
 ·cases lo with
  |none=>simp[sliceBounds,HT.sIx]
  |some i=>
   simp only[sliceBounds,HT.sIx,Option.getD_none,show(1:Int) > 0 by decide,if_true];by_cases h:i<0
   ·simp only[h,if_true]<;>lia
   ·simp only[h,if_false]<;>lia
 ·cases hi with
  |none=>simp[sliceBounds,HT.sIx]
  |some i=>
   simp only[sliceBounds,HT.sIx,Option.getD_none,show(1:Int) > 0 by decide,if_true];by_cases h:i<0
   ·simp only[h,if_true]<;>lia
   ·simp only[h,if_false]<;>lia
def oj(eH:List Value)(lo hi:Option Int):slicePick eH.toArray lo hi none=((eH.drop (HT.sIx eH.length 0 lo)).take (HT.sIx eH.length eH.length hi-HT.sIx eH.length 0 lo)).toArray:=by obtain⟨I,J,U⟩:=qQ lo hi eH.toArray.size;unfold slicePick;rw[I,J,U];simp only[sliceRange_one,pick_run,Ar]<;>rfl
def are(K:Ae):V->Option Int->Option Int->Hp->VK->Prop:=λx lo hi H Q=>∃a xs,x=.ref a/\a9 K H a xs/\∀p,H p=none->Q (.ref p) (upd H p (.lst (si xs lo hi)))
def ah6:sW X (are X.K):=by intro j s σ H x v vl vu lo g sl Q I p t C T h;obtain⟨a,J,rfl,hx,q⟩:=h;cases p;obtain⟨a0,r,l,hz⟩:=I.list hx;have U:=r.length;refine⟨"list",_,slot_list_getitem.lookup,l.isList.typeIs,?_⟩;refine wpAny_getItem_list_slice l.isList t C T .none (by simp) ?_ (by rw[Ar]<;>lia);rw[oj,<-U];refine⟨.ref s.heap.objs.size,_,I.laid (t':=s.toks) (o:=.lst (si J lo g)) (λb ob q=>u3 _ q) (Al _) ?_,rfl,q _ (I.hok.fresh (Al _))⟩;exact⟨AK (kU J lo g) hz,_,0,(r.drop (HT.sIx J.length 0 lo)).take (HT.sIx J.length J.length g-HT.sIx J.length 0 lo),vc _ rfl⟩
def au:V->Bool
 |.non=>true
 |.bl _=>true
 |.int _=>true
 |.str _=>true
 |_=>false
def lK:V->V->Bool
 |.non,.non=>true
 |.bl a,.bl b=>a==b
 |.bl a,.int b=>(if a then 1 else 0)==b
 |.int a,.bl b=>a==(if b then 1 else 0)
 |.int a,.int b=>a==b
 |.str a,.str b=>a==b
 |_,_=>false
def o8{y x:V}{v:Value}(U:zv y u)(I:zv x v)(j:au y=true)(g:au x=true):SeqAt.EqAt A s u v (lK y x):=by
 cases y with
 |non=>
  cases U;cases x with
  |non=>cases I;exact SeqAt.EqAt.same _
  |bl b=>cases I;exact SeqAt.EqAt.none_bool b
  |int b=>obtain⟨t,rfl⟩:=I;exact SeqAt.EqAt.none_int b t
  |str b=>obtain⟨t,rfl⟩:=I;exact SeqAt.EqAt.none_str b t
  |_=>exact absurd (show false=true from g) AC
 |bl a=>
  cases U;cases x with
  |non=>cases I;exact SeqAt.EqAt.bool_none a
  |bl b=>cases I;exact SeqAt.EqAt.bool_bool a b
  |int b=>obtain⟨t,rfl⟩:=I;exact SeqAt.EqAt.bool_int a b t
  |str b=>obtain⟨t,rfl⟩:=I;exact SeqAt.EqAt.bool_str a b t
  |_=>exact absurd (show false=true from g) AC
 |int a=>
  obtain⟨J,rfl⟩:=U;cases x with
  |non=>cases I;exact SeqAt.EqAt.int_none a J
  |bl b=>cases I;exact SeqAt.EqAt.int_bool a J b
  |int b=>obtain⟨t,rfl⟩:=I;exact SeqAt.EqAt.int_int a J b t
  |str b=>obtain⟨t,rfl⟩:=I;exact SeqAt.EqAt.int_str a J b t
  |_=>exact absurd (show false=true from g) AC
 |str a=>
  obtain⟨J,rfl⟩:=U;cases x with
  |non=>cases I;exact SeqAt.EqAt.str_none a J
  |bl b=>cases I;exact SeqAt.EqAt.str_bool a J b
  |int b=>obtain⟨t,rfl⟩:=I;exact SeqAt.EqAt.str_int a J b t
  |str b=>obtain⟨t,rfl⟩:=I;exact SeqAt.EqAt.str_str a J b t
  |_=>exact absurd (show false=true from g) AC
 |_=>exact absurd (show false=true from j) AC
def vL(x:V)(u:Value):Bool:=match u with
 |.none=>lK .non x
 |.bool b=>lK (.bl b) x
 |.int i _=>lK (.int i) x
 |.str z _=>lK (.str z) x
 |_=>false
def aen{x y:V}(r:zv y u)(f:au y=true):vL x u=lK y x:=by
 cases y with
 |non=>cases r;rfl
 |bl b=>cases r;rfl
 |int i=>obtain⟨t,rfl⟩:=r;rfl
 |str z=>obtain⟨t,rfl⟩:=r;rfl
 |_=>exact absurd (show false=true from f) AC
theorem hJ{x:V}:∀{xs:List V} {us:List Value},zq xs us->xs.all au=true->us.any (vL x)=xs.any λy=>lK y x
 |_,_,.nil,_=>rfl
 |y::xs,u::us,.cons r t,f=>by rw[DO,AR] at f;rw[Cm,Cm,aen r f.1,hJ t f.2]
theorem fI{A:Around}{s:Shared}{x:V}{v:Value}(J:zv x v)(U:au x=true):∀{xs:List V} {us:List Value},zq xs us->xs.all au=true->∀u∈us,SeqAt.EqAt A s u v (vL x u)
 |_,_,.nil,_=>λu I=>by cases I
 |y::xs,u::us,.cons r t,f=>λg I=>by
  rw[DO,AR] at f;rcases Ax.mp I with rfl|I
  ·rw[aen r f.1];exact o8 r J f.1 U
  ·exact fI J U t f.2 g I
def vF(x:V)(xs:List V):Bool:=xs.any λy=>lK y x
def rIn(K:Ae)(neg:Bool):R2:=λx y H Q=>∃p xs,y=.ref p/\(a9 K H p xs\/dq K H p xs)/\au x=true/\xs.all au=true/\Q (.bl (if neg then !vF x xs else vF x xs)) H
def abd:aC X (compareOp .In) (rIn X.K false):=by
 intro j s T H x y v u Q I l t h;obtain⟨p,xs,rfl,U,o,fs,q⟩:=h;cases t;rcases U with U|U
 ·obtain⟨J,r,g,C⟩:=I.list U;refine SeqAt.in_listAt (vL x) g.isList (λw hw=>fI l o r fs w (by simpa using hw)) ⟨.bl _,H,I,rfl,?_⟩;rw[show J.toArray.any (vL x)=J.any (vL x) by simp,hJ r fs];exact q
 ·obtain⟨J,r,g,C⟩:=I.tuple U;refine SeqAt.in_tupleAt (vL x) g (λw hw=>fI l o r fs w (by simpa using hw)) ⟨.bl _,H,I,rfl,?_⟩;rw[show J.toArray.any (vL x)=J.any (vL x) by simp,hJ r fs];exact q
def rJ:aC X (compareOp .NotIn) (rIn X.K true):=by
 intro j s T H x y v u Q I l t h;obtain⟨p,xs,rfl,U,o,fs,q⟩:=h;cases t;rcases U with U|U
 ·obtain⟨J,r,g,C⟩:=I.list U;refine SeqAt.notIn_listAt (vL x) g.isList (λw hw=>fI l o r fs w (by simpa using hw)) ⟨.bl _,H,I,rfl,?_⟩;rw[show J.toArray.any (vL x)=J.any (vL x) by simp,hJ r fs];exact q
 ·obtain⟨J,r,g,C⟩:=I.tuple U;refine SeqAt.notIn_tupleAt (vL x) g (λw hw=>fI l o r fs w (by simpa using hw)) ⟨.bl _,H,I,rfl,?_⟩;rw[show J.toArray.any (vL x)=J.any (vL x) by simp,hJ r fs];exact q
def rg:xi X (.builtin "len") (λxs H Q=>∃p ys,xs=[.ref p]/\(a9 X.K H p ys\/dq X.K H p ys)/\Q (.int ys.length) H):=by
 intro o s T H xs us Q I r h;obtain⟨p,ys,rfl,U,q⟩:=h;obtain⟨u,rfl,t⟩:=yD r;cases t;have hn:=jD;rcases U with U|U
 ·obtain⟨g,j,l,C⟩:=I.list U;have J:=j.length;exact Calls.call_len_list l.isList (by simp only[Ar]<;>lia) ⟨.int ys.length,H,I.tok _,⟨s.toks+1,by rw[Ar,J]⟩,q⟩
 ·obtain⟨g,j,l,C⟩:=I.tuple U;have J:=j.length;exact len_tuple l (by simp only[Ar]<;>lia) ⟨.int ys.length,H,I.tok _,⟨s.toks+1,by rw[Ar,J]⟩,q⟩
def rP:xi X (.builtin "len") (λxs H Q=>∃z,xs=[.str z]/\z.length<=sizeLine/\Q (.int z.length) H):=by intro J s U H xs g Q I r h;obtain⟨z,rfl,j,q⟩:=h;obtain⟨u,rfl,t,rfl⟩:=yD r;have l:=jD;exact len_str (by lia) ⟨.int z.length,H,I.tok _,⟨_,rfl⟩,q⟩
def r9:xi X (.type "list") (λxs H Q=>∃p ys,xs=[.ref p]/\(a9 X.K H p ys\/dq X.K H p ys)/\∀l,H l=none->Q (.ref l) (upd H l (.lst ys))):=by
 intro t s σ H xs us Q I r h;obtain⟨p,ys,rfl,C,q⟩:=h;obtain⟨u,rfl,rx⟩:=yD r;cases rx;have k6:∀(J:List Value),zq ys J->ys.length<=sizeLine->∀(U:Heap) (g:Nat),(∀b o',s.heap.get? b=some o'->U.get? b=some o')->
  U.get? s.heap.objs.size=some { cls:=.type "list",dict:=none,data:=.seq J.toArray g,slots:=#[] }->EP X t σ Q (.ref s.heap.objs.size) { s with heap:=U }:=λJ j T U g kp e=>
  ⟨.ref s.heap.objs.size,_,I.laid (t':=s.toks) kp (Al _) (show vg X.prog X.w _ U _ (.lst ys) from⟨T,J,g,j,e⟩),rfl,q _ (I.hok.fresh (Al _))⟩
 rcases C with C|C
 ·obtain⟨J,j,pl,T⟩:=I.list C;have a0:=j.length;obtain⟨o,ho,hc,n,hd⟩:=pl.isList;exact call_list_seq p (.inl rfl) ho hc hd (λU g kp e=>k6 J j T U g kp e) (by simp only[Ar]<;>lia)
 ·obtain⟨J,j,pl,T⟩:=I.tuple C;have a0:=j.length;obtain⟨o,ho,hc,n,hd⟩:=pl;exact call_list_seq p (.inr rfl) ho hc hd (λU g kp e=>k6 J j T U g kp e) (by simp only[Ar]<;>lia)
def tyV(K:Ae)(T:String)(x:V)(H:Hp):Prop:=match x with
 |.str _=>T = "str"
 |.int _=>T = "int"
 |.ref p=>(T = "list" /\ ∃xs,a9 K H p xs)\/(T = "tuple" /\ ∃o,K.lookup p=some o/\o.cls=.type "tuple" /\ o.dict=none)\/
  (T = "dict" /\ ((∃kvs,H p=some (.dK kvs))\/∃kvs,H p=some (.dT kvs)))\/(T = "set" /\ ∃S n,H p=some (.set S n))
 |_=>False
def abw{T:String}{x:V}{v:Value}(I:z9 X pins σ H s)(r:zv x v)(ty:tyV X.K T x H):
 s.TypeIs v T/\∀a,v=.ref a->∃ob,s.heap.get? a=some ob/\ob.dict=none:=by
 cases x with
 |str z=>
  obtain⟨t,rfl⟩:=r;cases (show T = "str" from ty);exact⟨typeIs_str s z t,λ_ e=>nomatch e⟩
 |int i=>
  obtain⟨t,rfl⟩:=r;cases (show T = "int" from ty);exact⟨typeIs_int s i t,λ_ e=>nomatch e⟩
 |ref p=>
  cases r;rcases ty with⟨rfl,xs,l⟩|⟨rfl,o,J,C,hd⟩|⟨rfl,J⟩|⟨rfl,S,n,J⟩
  ·obtain⟨a0,_,j,_⟩:=I.list l;refine⟨j.isList.typeIs,λa e=>?_⟩;cases e;obtain⟨o,n,e,c,hd,_⟩:=j;exact⟨o,e,hd⟩
  ·refine⟨⟨o,I.kIn p o J,C⟩,λa e=>?_⟩;cases e;exact⟨o,I.kIn _ o J,hd⟩
  ·have z:∃o,s.heap.get? p=some o/\o.ExactDict:=by
    rcases J with⟨U,J⟩|⟨U,J⟩
    ·obtain⟨_,_,_,_,o,_,_,e,ex,_⟩:=I.hok p _ J;exact⟨o,e,ex⟩
    ·obtain⟨_,_,_,_,o,_,_,e,ex,_⟩:=I.hok p _ J;exact⟨o,e,ex⟩
   obtain⟨o,e,ex⟩:=z;refine⟨⟨o,e,ex.1⟩,λa g=>?_⟩;cases g;exact⟨o,e,ex.2.1⟩
  ·obtain⟨o,_,_,_,e,ex,_⟩:=I.hok p _ J;refine⟨⟨o,e,ex.1⟩,λa g=>?_⟩;cases g;exact⟨o,e,ex.2.1⟩
 |_=>exact False.elim ty
def aqy(K:Ae)(T:String)(r:V->List V->Hp->VK->Prop)(to:TE):TE:=λσ H Q=>to σ H λx H1=>tyV K T x H1/\r x [] H1 Q
def tBM(K:Ae)(T:String)(r:V->List V->Hp->VK->Prop)(to:TE)(t:TA):TE:=λσ H Q=>to σ H λx H1=>tyV K T x H1/\t σ H1 λxs H2=>r x xs H2 Q
variable {to:TE}{t:TA}{T id:String}{r:V->List V->Hp->VK->Prop}
def akq(pa:PlainAttrs T)(slot:Slot T name id)(j:typeOf (.builtin id)=pure (.type "method_descriptor"))(C:MtR X id r)(ho:PE X o to)
 (U:attributeBase o name X.env (eval o X.env)=eval o X.env:=by rfl) (g:(apos.endLine==eK.line)=true:=by rfl):PE X (.Call (.Attribute o name apos) [] [] eK) (aqy X.K T r to):=by
 intro J s l H Q I h;refine wpAny_Call_method0_late U g (aT (ho J s l H _ I h) λv s1 ⟨x,H1,p,t,ty,q1⟩=>?_);obtain⟨h1,h2⟩:=abw p t ty;exact⟨T,id,pa,slot,j,h1,h2,Calls.callWith_builtin rfl (PySem.evalArgs_none (C J s1 l H1 x [] v [] Q p t .nil q1))⟩
def ajc(pa:PlainAttrs T)(slot:Slot T name id)(p:typeOf (.builtin id)=pure (.type "method_descriptor"))(hm:MtR X id r)(ho:PE X o to)(ha:PA X (e::es) t)
 (g:attributeBase o name X.env (eval o X.env)=eval o X.env:=by rfl)
 (l:((backTo eK (starEach (e::es) X.env)).all (λx=>!x.1)&&(backToKw eK (keywordEach [] X.env)).all (λx=>x.1.isSome)
  && decide ((e::es).length+([]:List Keyword).length+(if ([]:List Keyword).isEmpty then 0 else 1)<30))=true:=by rfl)
 (j:(apos.endLine==eK.line)=true:=by rfl) (hs:Et e es X:=by rfl) (U:Eu eK es X:=by rfl):
 PE X (.Call (.Attribute o name apos) (e::es) [] eK) (tBM X.K T r to t):=by
 intro J s C H Q I h;refine wpAny_Call_method_late g l j rfl (aT (ho J s C H _ I h) λv s1 ⟨x,H1,I1,r1,ty,q1⟩=>?_);obtain⟨h1,h2⟩:=abw I1 r1 ty;refine⟨T,id,pa,slot,p,h1,h2,?_⟩;have hA:=ha eK J s1 C H1 _ I1 q1;rw[hs] at hA ⊢;refine Calls.callWith_builtin (by show(false||(backTo eK (starEach es X.env)).any (·.1))=false;rw[U]<;>rfl) (Calls.evalArgs_plain ?_);exact aT hA λus s2 ⟨vs,H2,I2,r2,q2⟩=>hm J s2 C H2 x vs v us Q I2 r1 r2 q2
end
def iy(X:Cx)(id:String)(r:V->List V->Hp->VK->Prop):Prop:=
 ∀(pins:List (Addr×Obj)) (s:Shared) (σ:St) (H:Hp) (x:V) (xs:List V) (v:Value) (us:List Value) (Q:VK),z9 X pins σ H s->zv x v->zq xs us->r x xs H Q->
  wpAny (model X.prog X.w) X.A (call (.builtin id) (v::us)) (EP X pins σ Q) X.xe s
def zq.one{x:V}(h:zq [x] us):∃u,us=[u]/\zv x u:=by cases h with|cons r t=>cases t;exact⟨_,rfl,r⟩
def zq.two{x y:V}(h:zq [x,y] us):∃u v,us=[u,v]/\zv x u/\zv y v:=by cases h with|cons r t=>cases t with|cons q t=>cases t;exact⟨_,_,rfl,r,q⟩
theorem zq.zero:∀{us:List Value},zq [] us->us=[]
 |_,.nil=>rfl
def zq.dropLast(h:zq xs us):zq xs.dropLast us.dropLast:=by
 induction h with
 |nil=>exact .nil
 |cons r t I=>
  cases t with|nil=>exact .nil|cons q J=>exact .cons r I
theorem zq.eraseIdx:∀{xs:List V} {us:List Value} (i:Nat),zq xs us->zq (xs.eraseIdx i) (us.eraseIdx i)
 |_,_,_,.nil=>.nil
 |_,_,0,.cons _ t=>t
 |_,_,i+1,.cons r t=>.cons r (zq.eraseIdx i t)
def vQ(l:List α):l.eraseIdx (l.length-1)=l.dropLast:=by
 induction l with
 |nil=>rfl
 |cons a r I=>
  cases r with
  |nil=>rfl
  |cons b r=>
   have e:(a::b::r).length-1=((b::r).length-1)+1:=by have J:(a::b::r).length=r.length+2:=rfl;have U:(b::r).length=r.length+1:=rfl;lia
   rw[e,Cs,I]
   all_goals rfl
theorem pN{α:Type}:∀(l:List α) (i:Nat),(l.eraseIdx i).length<=l.length
 |[],_=>Al _
 |_::_,0=>Cw _
 |_::r,i+1=>Nat.succ_le_succ (pN r i)
section
variable {b:Addr}{ys:List V}
def z9.lset{its':List Value}{f:Array Value->Array Value}(I:z9 X pins σ H s)(J:H l=some (.lst xs))
 (e:s.heap.get? l=some { cls:=.type "list",data:=.seq eH.toArray n }) (U:f eH.toArray=its'.toArray) (g:zq ys its') (hz:ys.length<=sizeLine) (p:0<t':=by walk_at "t"):
 z9 X pins σ (upd H l (.lst ys)) { s with heap:=s.heap.update l (Obj.mapSeq f),toks:=t' }:=by
 have q:=PySem.IsL.update e f;rw[U] at q;refine I.write (x:=l) (e:=l) (by rw[J];exact trivial) (.inl rfl) (λr u j o=>(Heap.get?_update_other s.heap (Obj.mapSeq f) (AH j)).trans o) ⟨_,q⟩ ?_;exact⟨hz,its',_,g,q⟩
def z9.lnew(I:z9 X pins σ H s)(J:zq ys eH)(hz:ys.length<=sizeLine)(U:0<t':=by walk_at "t"):
 z9 X pins σ (upd H s.heap.objs.size (.lst ys)) { s with heap:=s.heap.push { cls:=.type "list",data:=.seq eH.toArray },toks:=t' }:=
 I.laid (λ_ _ q=>u3 _ q) (Al _) ⟨hz,eH,0,J,vc _ rfl⟩
theorem z9.fresh(I:z9 X pins σ H s):H s.heap.objs.size=none:=I.hok.fresh (Al _)
def z9.lstM(I:z9 X pins σ H s)(J:H l=some (.lst xs)):xs.length<=sizeLine/\∃(eH:List Value) (n:Nat),zq xs eH/\xs.length=eH.length/\s.heap.get? l=some { cls:=.type "list",data:=.seq eH.toArray n }:=by obtain⟨z,eH,n,r,e⟩:=I.hok l _ J;exact⟨z,eH,n,r,r.length,e⟩
def afm(h:n<=sizeLine):Builtin.List.listTooLong n=false:=by unfold Builtin.List.listTooLong;exact Aq (by lia)
end
def afz:V->List V->Hp->VK->Prop:=λx vs H Q=>∃l xs y,x=.ref l/\vs=[y]/\H l=some (.lst xs)/\xs.length<sizeLine/\Q .non (upd H l (.lst (xs++[y])))
def zE:iy X "list.append" afz:=by intro U s t H x C v T Q I j o h;obtain⟨l,xs,y,rfl,rfl,g,hz,q⟩:=h;cases j;obtain⟨u,rfl,p⟩:=o.one;obtain⟨z,J,n,r,hl,e⟩:=I.lstM g;refine call_meets F.slot_list_append ⟨_,e,rfl⟩ F.entry_list_append (F.args_list_append_2 _ _) (PySem.list_append l J.toArray n u (by rw[Ar];lia)) ⟨e,?_⟩;refine⟨.non,_,I.lset (its':=J++[u]) g e (by simp) (r.append (.cons p .nil)) ?_,rfl,q⟩;rw[Ac,Bh];lia
def agh:V->List V->Hp->VK->Prop:=λx vs H Q=>∃l b xs zs,x=.ref l/\vs=[.ref b]/\H l=some (.lst xs)/\H b=some (.lst zs)/\xs.length+zs.length<=sizeLine/\Q .non (upd H l (.lst (xs++zs)))
def yq:iy X "list.extend" agh:=by
 intro o s σ H x vs v us Q I t C h;obtain⟨l,b,xs,zs,rfl,rfl,p,T,hz,q⟩:=h;cases t;obtain⟨u,rfl,ru⟩:=C.one;cases ru;obtain⟨z,U,n,r,hl,e⟩:=I.lstM p;obtain⟨z2,J,n2,r2,a0,e2⟩:=I.lstM T;have j:U.toArray.size+J.toArray.size<=sizeLine:=by rw[Ar,Ar];lia
 have g:¬(!U.toArray.isEmpty&&Builtin.List.listTooLong (U.toArray.size+J.toArray.size))=true:=by rw[afm j,Dg];exact AC
 refine call_meets F.slot_list_extend ⟨_,e,rfl⟩ F.entry_list_extend (F.args_list_extend_2 _ _)
  (AutoSeq1.list_extend_list_list_0 l U.toArray n b J.toArray n2 g (by rw[Ar];lia) (by lia)) ⟨e,e2,?_⟩
 refine⟨.non,_,I.lset (its':=U++J) p e (by simp) (r.append r2) ?_,rfl,q⟩;rw[Ac];lia
def arf:V->List V->Hp->VK->Prop:=λx vs H Q=>∃l xs y,x=.ref l/\vs=[]/\H l=some (.lst xs)/\xs[xs.length-1]?=some y/\Q y (upd H l (.lst xs.dropLast))
def akr:iy X "list.pop" arf:=by
 intro j s σ H x vs v us Q I p t h;obtain⟨l,xs,y,rfl,rfl,o,C,q⟩:=h;cases p;have U:=t.zero;subst U;obtain⟨z,J,n,r,T,e⟩:=I.lstM o;obtain⟨u,hu,ru⟩:=r.get C;have g:J.toArray[J.toArray.size-1]?=some u:=by show J.toArray[J.length-1]?=some u;rw[<-A3,<-T];exact hu
 refine call_meets F.slot_list_pop ⟨_,e,rfl⟩ F.entry_list_pop (F.args_list_pop_1 _) (MeetsSeq.list_pop_last l J.toArray n u g (by rw[Ar];lia)) ⟨e,?_⟩;refine⟨y,_,I.lset (its':=J.dropLast) o e ?_ r.dropLast ?_,ru,q⟩
 ·show J.toArray.eraseIdxIfInBounds (J.toArray.size-1)=J.dropLast.toArray;rw[Ar,Do,vQ]
 ·rw[List.length_dropLast];lia
def akm:V->List V->Hp->VK->Prop:=λx vs H Q=>∃l xs i k y,x=.ref l/\vs=[.int i]/\H l=some (.lst xs) /\ -(2 ^ 63)<=i/\i<2 ^ 63/\seqIndex? i xs.length=some k/\xs[k]?=some y/\Q y (upd H l (.lst (xs.eraseIdx k)))
def afj:iy X "list.pop" akm:=by
 intro g s σ H x vs v us Q I o p h;obtain⟨l,C,i,k,y,rfl,rfl,j,T,h2,hk,hy,q⟩:=h;cases o;obtain⟨u,rfl,ru⟩:=p.one;obtain⟨t,rfl⟩:=ru;obtain⟨z,J,n,r,hl,e⟩:=I.lstM j;obtain⟨w,hw,U⟩:=r.get hy;refine call_meets F.slot_list_pop ⟨_,e,rfl⟩ F.entry_list_pop (F.args_list_pop_2 _ _)
  (MeetsSeq.list_pop_at l J.toArray n i t k w (fitsIndex_both T h2) (by rw[Ar,<-hl];exact hk) (by rw[<-A3];exact hw) (by rw[Ar];lia)) ⟨e,?_⟩
 refine⟨y,_,I.lset (its':=J.eraseIdx k) j e ?_ (r.eraseIdx k) ?_,U,q⟩
 ·show J.toArray.eraseIdxIfInBounds k=(J.eraseIdx k).toArray;rw[Do]
 ·have:=pN C k;lia
def aqe:R2:=λx y H Q=>∃l b xs zs,x=.ref l/\y=.ref b/\H l=some (.lst xs)/\H b=some (.lst zs)/\xs.length+zs.length<=sizeLine/\∀p,H p=none->Q (.ref p) (upd H p (.lst (xs++zs)))
def akz:aC X (binaryOp .Add) aqe:=by
 intro g s σ H x y v u Q I j o h;obtain⟨l,b,xs,zs,rfl,rfl,p,t,hz,q⟩:=h;cases j;cases o;obtain⟨z,U,n,r,hl,e⟩:=I.lstM p;obtain⟨z2,J,n2,C,T,e2⟩:=I.lstM t;refine PySem.P.add_list e e2 ?_ (by rw[Ar,Ar];lia);have ea:U.toArray++J.toArray=(U++J).toArray:=by simp
 rw[ea];exact⟨.ref _,_,I.lnew (t':=s.toks) (r.append C) (by rw[Ac];lia),rfl,q _ I.fresh⟩
section
variable {w:World}
set_option maxRecDepth 100000 in
end
end L2
namespace Att
open PySem PySem.W PySem.Calls PyProof.Rows
def lE{P:Params} :∀(I:List Int) (vs:List Value),WellAll P h vs (I.map WData.int)->IntsAre vs I:=by
 intro I
 induction I with
 |nil=>
  intro vs w;rw[De] at w;cases w;exact .nil
 |cons n I J=>
  intro vs w;rw[AG] at w;cases w with
  |cons a b=>
   cases a;exact .cons _ _ (J _ b)
def aan{l:OpenLaw}(hn:l.most=some n){P:Params}{args:List WData}{J:List Value}
 (U:l.row.toRowW.claim.pre args=true) (t:WellAll P h J args):
 ∃a vs I,J=[Value.ref a]/\args=[WData.list (I.map WData.int)]/\h.get? a=some { cls:=.type "list",data:=.seq vs.toArray }/\IntsAre vs I/\I.length<=n:=by
 have C:WShape.hasAll [] args [.list .int]=true:=(pre_splitW U).1;have T:l.pre.holds [] { args:=args }=true:=(pre_splitW U).2;obtain⟨d,r,rfl,h1,h2⟩:=hasAllW_cons C;obtain rfl:=hasAllW_nil h2;obtain⟨xs,rfl,h3⟩:=hasW_list h1;obtain⟨I,rfl⟩:=items_int h3;have g:I.length<=n:=by
  unfold OpenLaw.pre at T;have o:(WTm.not (.lt (.lit (.int (n:Int))) (.len (.arg 0)))).holds [] { args:=[.list (I.map .int)] }=true:=by have o:=(holds_andW T).1;rw[hn] at o;exact o
  have p:=condW_of o (w_not (w_lt w_lit (w_len_list (w_arg rfl))));rw[Af] at p;refine Nat.le_of_not_lt λq=>?_;have q':(n:Int)<((I.length:Nat):Int):=by lia
  first
   |(rw[Ao q'] at p;exact absurd p (by decide))
   |(simp at p;lia)
 cases t with
 |cons w1 w2=>
  cases w2;cases w1 with|list ho j=>exact⟨_,_,I,rfl,rfl,ho,lE I _ j,g⟩
def yu(l:OpenLaw)(args:List WData):l.row.toRowW.claim.post args (.bool true) args=true:=
 postW_of (r:=l.row.toRowW) (X:=(true==true))
  (show WShape.has [] (.bool true) .bool=true by first|rfl|decide|simp[WShape.has,WShape.arms,WShape.armsAll])
  (show(WTm.eq .res (.lit (.bool true))).value [] { args:=args,res:=some (.bool true),after:=args }=some (.bool (true==true)) from w_eq_bool (w_res rfl) w_lit) rfl
theorem attach_callZ{l:OpenLaw}{q:Program}{loose:List Str}{XP:(Str->Option Value)->Heap->Prop}{as0:List Addr}{N t:Nat}{K:Params->Frag}{d:DefRec}
 (hn:l.most=some n) (C:d.params.defaults=[]) (ek:∀P,as0=(K P).map (·.1)) (T:0<t)
 (call:∀(w:World) (s₀ I:Shared) (mg mb:Str->Option Value) (fa:Addr) (o:Obj) (pm cd ir:Value) (a:Addr) (vs:List Value) (J:List Int),
  Ground q loose [] XP w s₀ mg mb I.heap->(K w.params).In I.heap->0<I.toks->
  I.heap.get? fa=some o->o.data=.func (docDef d.name d.params d.body d.scope pm cd ir)->I.heap.CodeRec cd d.name->mg d.name=some (.ref fa)->
  I.heap.get? a=some { cls:=.type "list",data:=.seq vs.toArray }->IntsAre vs J->J.length<=n->I.gens=#[]->
  codeAny (model l.prog w) callerA (.call (.ref fa) ⟨[.ref a],[]⟩) (λr s'=>r=.ok (.ret (.bool true))/\OldK I.heap s'.heap/\s'.os=I.os/\AllBare s'.gens) I):
 WalkX q loose XP (PySem.W.X.obsZ as0) (PySem.W.X.valZ K N t) l.row.toRowW d [] (λf vs=>PySem.call f vs):=by
 intro w s₀ I mg mb G Y fa o pm cd ir dV kV ho hd a0 hD a1 hg args a4 as L g a5 ab a2 ac;obtain rfl:dV=.none:=Dflts.none hD C;obtain rfl:kV=.none:=Dflts.noKw hD;obtain⟨a,vs,J,rfl,rfl,j,U,p⟩:=aan hn g a2;obtain⟨_,zi,_,zt⟩:=X.z_facts ek Y;have eP:∀J:List Int,ofPy (PyData.list (J.map PyData.int))=WData.list (J.map WData.int):=λJ=>by
  simp only[ofPy];congr 1
  induction J with|nil=>simp[ofPys]|cons n r ih=>simp only[AG,ofPys,ofPy,ih]
 rw[<-eP] at L;have KX:=InK.keeps w s₀.heap I.heap zi L.keeps;have a3:0<I.toks:=AM T (X.script_toks L zt);refine enter_call (codeAny_mono (call w s₀ I mg mb fa o pm cd ir a vs J G KX a3 ho (fd_plain hd) a0 a1 j U p hg) λr s' hq=>?_);obtain⟨rfl,h2,h3,h4⟩:=hq;exact⟨.inl ⟨.bool true,.bool true,[],rfl,λ_=>rfl,.bool true,yu l _,λ_=>⟨List.Pairwise.nil,λ_ hm=>(nomatch hm)⟩⟩,h2,h3,h4⟩
section
variable {w:World}{K:Frag}
end
end Att
namespace L2
open PySem PySem.Spec PyProof.Rows
theorem qD:∀{vs:List Value} {I:List Int},IntsAre vs I->zq (I.map V.int) vs
 |_,_,.nil=>.nil
 |_,_,.cons n t h=>.cons ⟨t,rfl⟩ (qD h)
def xu(s:Stmt):Arguments:=match s with
 |.FunctionDef _ a _ _ _ _ _ _ _ _=>a
 |_=>{ posonlyargs:=[],args:=[],vararg:=none,kwonlyargs:=[],kw_defaults:=[],kwarg:=none,defaults:=[] }
def js(s:Stmt):List Stmt:=match s with
 |.FunctionDef _ _ b _ _ _ _ _ _ _=>b
 |_=>[]
def qz(s:Stmt):Scope:=match s with
 |.FunctionDef _ _ _ _ _ _ I _ _ _=>I
 |_=>{ kind:=.function,names:=[],isGenerator:=false,isCoroutine:=false }
abbrev CX0:CXT:=λ_ _ _ _ _ _=>False
abbrev E0:XK:=λ_ _ _=>False
def ac9 :ix CX0 X E0:=λ_ _ _ _ _ _ _ h=>h.elim
structure Fun(K:Ae)(x eA:Str)(st:Stmt)(f:Addr)(fd:FuncData):Prop where
 ex:∃(oc:Value) (od:Option Addr) (kV ir pm:Value) (an:Option Addr) (fx ct:Value) (nC:Array (Option Value)),
  fd=PySem.W.fnOf x eA (xu st) (js st) (qz st) .none kV ir pm an fx ct/\K.lookup f=some ⟨oc,od,.func fd,nC⟩/\PySem.W.codeIn K fx eA=true
 kp:PySem.W.keepIn K (.ref f)=true
section
variable {P:Program}{w:World}{K:Ae}
def Fun.ok{N:List Str}{k:Nat}{sp:Sp}(F:Fun K x eA st f fd)(S:bA N ps (qz st))(len:∀vs H Q E,sp vs H Q E->vs.length=ps.length)
 (I:∀(fx:Value) (A:Around) (outer:List Env) (s:Shared) (H:Hp) (vs:List V) (Q:VK) (E:XK),wq k (A.deeper (envOfC eA (qz st) s.heap.objs.size f fx))->sp vs H Q E->
  ∃t,lJ (lG CX0 P w K mg base N eA (qz st) f fx A outer s H E).nox (js st) t/\t { nx:=λ_ H'=>Q .non H',rt:=Q } (start N vs) H):bH P w K mg base CX0 (k+1) f fd ps sp:=by
 obtain⟨o,p,kV,g,pm,an,fx,r,j,rfl,lk,J⟩:=F.ex;refine ajb lk J S len λA outer s H vs Q E l U=>?_;obtain⟨t,h,q⟩:=I fx A outer s H vs Q E l U;exact⟨t,h.nox,q⟩
def ad3{kV ct:Value}(l:K.lookup f=some ⟨oc,od,.func (PySem.W.fnOf x eA (xu st) (js st) (qz st) .none kV ir pm an fx ct),nC⟩)
 (c:PySem.W.codeIn K fx eA=true) (k:PySem.W.keepIn K (.ref f)=true):Fun K x eA st f (PySem.W.fnOf x eA (xu st) (js st) (qz st) .none kV ir pm an fx ct):=⟨⟨oc,od,kV,ir,pm,an,fx,ct,nC,rfl,l,c⟩,k⟩
end
def qG(h:n<=1000):n<sizeLine:=A8 h (by decide)
def pv(i:Nat)(hN:X.N[i]?=some x:=by rfl)(J:Vis X.env.scope x:=by first|exact Or.inl rfl|exact Or.inr (Or.inl rfl)|exact Or.inr (Or.inr rfl))(hd:Ew x:=by decide)
 (I:Ex x:=by decide):PE X (.Name x pos) (al1 i):=al5 hN J hd I
section
variable [DecidableEq κ]
end
end L2
set_option maxHeartbeats 8000000
def zX{a b c:Nat}(h:a<b:=by assumption)(k:b<=c:=by assumption):a<c:=AM h k
def jA{a b c:Nat}(h:a<=b:=by assumption)(k:b<c:=by assumption):a<c:=A8 h k
def ajx{a b c:Nat}(h:a<=b:=by assumption)(k:b<=c:=by assumption):a<=c:=AK h k
def i0{a b c:Nat}(h:a<b:=by assumption)(k:b<c:=by assumption):a<c:=Df h k
def dG{a b c:Nat}(h:a<=b:=by assumption)(k:b<=c:=by decide):a<=c:=AK h k
def uM{a b:Nat}(h:a<=b:=by assumption):a<b+1:=Nat.lt_succ_of_le h
def afc{a b:Nat}(h:a<=b:=by assumption):a<=b+1:=Dh h
def gL{a b:Nat}(h:a<b:=by assumption):a<=b:=BD h
def ao0{a b:Nat}(h:a<b:=by assumption):a≠b:=A4 h
def ako{a b:Nat}(h:b<a:=by assumption):a≠b:=C9 h
def acw{a:Nat}(h:a≠0:=by assumption):0<a:=Nat.pos_of_ne_zero h
def aky{a b c:Nat}(h:a<b:=by assumption)(k:b<=c:=by assumption):a<=c:=AK (BD h) k
def al6{a b c:Nat}(h:a<b:=by assumption):a<b+c:=AM h (A2 _ _)
def rE{a b:Nat}(h:a=b:=by assumption):a<=b:=Ec h
def wZ{a b:Nat}(h:¬a<b:=by assumption):b<=a:=Nat.le_of_not_lt h
def anj{a b:Nat}(h:¬b<=a:=by assumption):a<b:=Nat.lt_of_not_le h
def aou{a b:Nat}(h:a<b+1:=by assumption):a<=b:=Nat.le_of_lt_succ h
def apa{a b c:Nat}(h:a<=b:=by assumption)(k:c<=d:=by assumption):a+c<=b+d:=Nat.add_le_add h k
def sM{a b:Nat}(h:0<a:=by assumption)(k:0<b:=by decide):a-b<a:=Nat.sub_lt h k
def apc{a b c:Nat}(h:a<=c:=by assumption):a-b<=c:=AK (Er _ _) h
def ox{a b c:Nat}(h:a<c:=by assumption):a-b<c:=A8 (Er _ _) h
def zB{a b:Nat}(h:a<=b:=by assumption)(k:a≠b:=by assumption):a<b:=Nat.lt_of_le_of_ne h k
namespace L2
open PySem PySem.Spec PyProof.Rows
def aqa:R2:=λx y H Q=>match x,y with
 |.int i,.int j=>Q (.int (i+j)) H
 |.str a,.str b=>a.length+b.length<=sizeLine/\Q (.str (a++b)) H
 |.ref l,.ref b=>∃xs zs,H l=some (.lst xs)/\H b=some (.lst zs)/\xs.length+zs.length<=sizeLine/\∀p,H p=none->Q (.ref p) (upd H p (.lst (xs++zs)))
 |_,_=>False
def ah8:aC X (binaryOp .Add) aqa:=by
 intro J s U H x y v u Q I g j h;cases x<;>cases y<;>first
  |exact False.elim h
  |exact ali J s U H _ _ v u Q I g j ⟨_,_,rfl,rfl,h⟩
  |exact vW J s U H _ _ v u Q I g j ⟨_,_,rfl,rfl,h.1,h.2⟩
  |(obtain⟨l,o,p,r,t,C⟩:=h;exact akz J s U H _ _ v u Q I g j ⟨_,_,l,o,rfl,rfl,p,r,t,C⟩)
def KD(K:Ae)(P:Program)(w:World)(a:Addr)(kvs:List (jp×V)):Prop:=
 (a==sysModules)=false/\kvs.length<=sizeLine/\∀h:Heap,K.In h->∃vs,KV kvs vs/\h.DictOf (vk P w) a vs
def uIx(K:Ae)(P:Program)(w:World):R2:=λx y H Q=>match x,y with
 |.str z,.int i=>z.length<=sizeLine/\∃c,eG z.cps.toList i=some c/\Q (.str ⟨#[c]⟩) H
 |.ref p,.int i=>∃xs v,(a9 K H p xs\/dq K H p xs)/\eG xs i=some v/\Q v H
 |.ref p,.str k=>∃kvs v,(Rd H p (.dK kvs)\/KD K P w p kvs)/\bX kvs (Sum.inr k)=some v/\Q v H
 |_,_=>False
def afe{slice:Expr}{a:Addr}{vs:List (jp×Value)}{k:jp}{J:Value}{Q:VK}(I:z9 X pins σ H s)(U:s.heap.DictOf (vk X.prog X.w) a vs)(g:oX k u=true)
 (hw:valueAt vs k=some J) (r:zv v J) (q:Q v H) (hs:subscripted slice false (.ref a) u=operate [.ref a,u] (getItem (.ref a) u)):wpAny (model X.prog X.w) X.A (subscriptTail value slice (.ref a) u) (EP X pins σ Q) X.xe s:=
 tail_any U.typeIs DI.lookup (wpAny_getItem_of g U.mapOf hw ⟨v,H,I.tok _,r,q⟩) hs
def aqm:IxR X (uIx X.K X.prog X.w):=by
 intro value slice U s σ H x y v u Q I rx ry q r;cases x with
 |str z=>
  cases y with
  |int i=>
   obtain⟨J,c,g,j⟩:=q;exact am2 value slice U s σ H _ _ v u Q I rx ry ⟨z,i,c,rfl,rfl,J,g,j⟩ r
  |_=>exact q.elim
 |ref p=>
  cases y with
  |int i=>
   obtain⟨xs,t,J,g,j⟩:=q;rcases J with J|J
   ·exact agy value slice U s σ H _ _ v u Q I rx ry ⟨p,xs,i,t,rfl,rfl,J,g,j⟩ r
   ·exact alw value slice U s σ H _ _ v u Q I rx ry ⟨p,xs,i,t,rfl,rfl,J,g,j⟩ r
  |str k=>
   obtain⟨a0,t,J,g,j⟩:=q;have C:zv (kV (Sum.inr k)) u:=ry;cases (show v=Value.ref p from rx);rcases J with J|J
   ·obtain⟨z,hd,vs,rel,T⟩:=pK I.hok J;obtain⟨w2,hw,l⟩:=EL (v:=t) (o:=valueAt vs (Sum.inr k)) (by rw[<-g];exact rel.val _);exact afe I T (kJ (P:=X.prog) (w:=X.w) C) hw l j r
   ·obtain⟨hd,z,T⟩:=J;obtain⟨vs,rel,T⟩:=T s.heap I.kIn;obtain⟨w2,hw,l⟩:=EL (v:=t) (o:=valueAt vs (Sum.inr k)) (by rw[<-g];exact rel.val _);exact afe I T (kJ (P:=X.prog) (w:=X.w) C) hw l j r
  |_=>exact q.elim
 |_=>cases y<;>exact q.elim
def arw(K:Ae):List V->Hp->VK->Prop:=λxs H Q=>match xs with
 |[.str z]=>z.length<=sizeLine/\Q (.int z.length) H
 |[.ref p]=>∃ys,(a9 K H p ys\/dq K H p ys)/\Q (.int ys.length) H
 |_=>False
def ab7:xi X (.builtin "len") (arw X.K):=by
 intro J s U H j g Q I r h
 match j,h with
 |[.str z],h=>exact rP J s U H _ g Q I r ⟨z,rfl,h.1,h.2⟩
 |[.ref p],h=>
  obtain⟨l,o,t⟩:=h;exact rg J s U H _ g Q I r ⟨p,l,rfl,o,t⟩
inductive Da where
 |s (v:V)
 |tup (xs:List Da)
 |lst (xs:List Da)
mutual
def Da.eq:Da->Da->Bool
 |.s v,.s w=>lK v w
 |.tup xs,.tup ys=>Da.eqs xs ys
 |.lst xs,.lst ys=>Da.eqs xs ys
 |_,_=>false
def Da.eqs:List Da->List Da->Bool
 |[],[]=>true
 |x::xs,y::ys=>Da.eq x y&&Da.eqs xs ys
 |_,_=>false
end
def k7(K:Ae)(H:Hp):Nat->V->Da->Prop
 |0,v,d=>d=.s v/\au v=true
 |n+1,v,d=>(d=.s v/\au v=true)\/(∃a xs ds,v=.ref a/\d=.tup ds/\dq K H a xs/\Paired (k7 K H n) xs ds)\/(∃a xs ds,v=.ref a/\d=.lst ds/\a9 K H a xs/\Paired (k7 K H n) xs ds)
theorem Da.eqs_range:∀(ds es:List Da),((List.range (min ds.length es.length)).all (λj=>Da.eq (ds.getD j (.s .non)) (es.getD j (.s .non)))&&ds.length==es.length)=Da.eqs ds es
 |[],[]=>by simp[Da.eqs]
 |[],e::es=>by simp[Da.eqs]
 |d::ds,[]=>by simp[Da.eqs]
 |d::ds,e::es=>by
  have I:=Da.eqs_range ds es;rw[Da.eqs,<-I];have:min (d::ds).length (e::es).length=min ds.length es.length+1:=by simp only[AF];lia
  rw[this,List.range_succ_eq_map,DO,List.all_map];have J:((d::ds).length==(e::es).length)=(ds.length==es.length):=by simp
  rw[J,Bool.and_assoc];rfl
abbrev EG:=@Da.eqs_range
theorem Paired.at{α β:Type}{F:α->β->Prop}:∀{xs:List α} {ys:List β} {j:Nat} {x:α} {y:β},Paired F xs ys->xs[j]?=some x->ys[j]?=some y->F x y
 |_,_,_,_,_,.nil,h,_=>by simp at h
 |_,_,0,_,_,.cons r _,I,J=>by simp at I J;subst I J;exact r
 |_,_,j+1,_,_,.cons _ t,I,J=>Paired.at (j:=j) t (by simpa using I) (by simpa using J)
abbrev EI:=@Paired.at
theorem iT:∀{v:V},au v=true->lK v v=true
 |.non,_=>rfl
 |.bl _,_=>by simp[lK]
 |.int _,_=>by simp[lK]
 |.str _,_=>by simp[lK]
def jc{a:Addr}(h:au (.ref a)=true):False:=by simp[au] at h
def z9.notBoth(I:z9 X pins σ H s){a:Addr}{ys:List V}(h:dq X.K H a xs)(h':a9 X.K H a ys):False:=by
 obtain⟨j,_,⟨o,e,c,_⟩,_⟩:=I.tuple h;obtain⟨U,_,⟨l,p,g,J,_⟩,_⟩:=I.list h';rw[e] at g;cases g;rw[c] at J;injection J with J
 exact absurd J (by decide)
theorem lO(I:z9 X pins σ H s):∀(n:Nat) {m:Nat} {x:V} {d e:Da},k7 X.K H n x d->k7 X.K H m x e->Da.eq d e=true
 |0,m,x,d,e,h1,g=>by
  obtain⟨rfl,f⟩:=h1;cases m with
  |zero=>obtain⟨rfl,_⟩:=g;exact iT f
  |succ m=>
   rcases g with⟨rfl,_⟩|⟨a,j,l,rfl,_⟩|⟨a,j,l,rfl,_⟩
   ·exact iT f
   ·exact(jc f).elim
   ·exact(jc f).elim
 |n+1,m,x,d,e,h1,g=>by
  have both:∀{j:List V} {l o:List Da} {m:Nat},Paired (k7 X.K H n) j l->Paired (k7 X.K H m) j o->Da.eqs l o=true:=by
   intro j l o m p
   induction p generalizing o with
   |nil=>intro q;cases q;rfl
   |cons r t ih=>
    intro q;cases q with|cons r' t'=>rw[Da.eqs,lO I n r r',ih t'];rfl
  rcases h1 with⟨rfl,f⟩|⟨a,j,l,rfl,rfl,T,hp⟩|⟨a,j,l,rfl,rfl,T,hp⟩
  ·cases m with
   |zero=>obtain⟨rfl,_⟩:=g;exact iT f
   |succ m=>
    rcases g with⟨rfl,_⟩|⟨a,j,l,rfl,_⟩|⟨a,j,l,rfl,_⟩
    ·exact iT f
    ·exact(jc f).elim
    ·exact(jc f).elim
  ·cases m with
   |zero=>exact(jc g.2).elim
   |succ m=>
    rcases g with⟨_,f⟩|⟨a',ys,o,C,rfl,J,U⟩|⟨a',ys,o,C,rfl,J,U⟩
    ·exact(jc f).elim
    ·cases C;cases I.tuple_inj T J;exact both hp U
    ·cases C;exact(I.notBoth T J).elim
  ·cases m with
   |zero=>exact(jc g.2).elim
   |succ m=>
    rcases g with⟨_,f⟩|⟨a',ys,o,C,rfl,J,U⟩|⟨a',ys,o,C,rfl,J,U⟩
    ·exact(jc f).elim
    ·cases C;exact(I.notBoth J T).elim
    ·cases C;cases I.list_inj T J;exact both hp U
def jr{a:Addr}{eH:Array Value}(p:PlainL h a eH):h.IsList a eH:=let ⟨o,n,e,c,_,d⟩:=p;⟨o,e,c,n,d⟩
def gw{ys:List V}{ds es:List Da}(px:Paired (k7 X.K H n) xs ds)(py:Paired (k7 X.K H m) ys es)(I:zq xs us)(J:zq ys vs)
 (p:∀{x y:V} {d e:Da} {u v:Value},k7 X.K H n x d->k7 X.K H m y e->zv x u->zv y v->SeqAt.EqAt A.in1 s u v (Da.eq d e)):
 ∀j (h1:j<us.toArray.size) (h2:j<vs.toArray.size),SeqAt.EqAt A.in1 s us.toArray[j] vs.toArray[j] (Da.eq (ds.getD j (.s .non)) (es.getD j (.s .non))):=by
 intro j h1 h2;have C:=px.length;have T:=py.length;have l3:=I.length;have l4:=J.length;rw[Ar] at h1 h2;have U:xs[j]?=some xs[j]:=Aj (by lia);have g:ys[j]?=some ys[j]:=Aj (by lia);have l:ds[j]?=some ds[j]:=Aj (by lia);have o:es[j]?=some es[j]:=Aj (by lia);have r:us[j]?=some us[j]:=Aj (by lia);have t:vs[j]?=some vs[j]:=Aj (by lia);rw[Bv,Bv,l,o];exact p (EI px U l) (EI py g o) (EI I U r) (EI J g t)
def qJ{a b:Addr}{ys:List V}{ds es:List Da}(I:z9 X pins σ H s)(g:A.units<cLine)(j:dq X.K H a xs)(l:dq X.K H b ys)(px:Paired (k7 X.K H n) xs ds)(py:Paired (k7 X.K H m) ys es)
 (o:∀{x y:V} {d e:Da} {u v:Value},k7 X.K H n x d->k7 X.K H m y e->zv x u->zv y v->SeqAt.EqAt A.in1 s u v (Da.eq d e)):SeqAt.RcAt A s (.ref a) (.ref b) (Da.eqs ds es):=by
 obtain⟨r,J,p,_⟩:=I.tuple j;obtain⟨t,U,ty,_⟩:=I.tuple l;have q:=SeqAt.RcAt.tuples p ty g (gw px py J U o);rw[Ar,Ar,<-J.length,<-U.length,px.length,py.length,EG] at q;exact q
def uX{a b:Addr}{ys:List V}{ds es:List Da}(I:z9 X pins σ H s)(l:A.units<cLine)(p:a9 X.K H a xs)(r:a9 X.K H b ys)(px:Paired (k7 X.K H n) xs ds)(py:Paired (k7 X.K H m) ys es)
 (t:∀{x y:V} {d e:Da} {u v:Value},k7 X.K H n x d->k7 X.K H m y e->zv x u->zv y v->SeqAt.EqAt A.in1 s u v (Da.eq d e)):SeqAt.RcAt A s (.ref a) (.ref b) (Da.eqs ds es):=by
 obtain⟨C,U,o,_⟩:=I.list p;obtain⟨T,j,ty,_⟩:=I.list r;by_cases g:C.toArray.size=T.toArray.size
 ·have q:=SeqAt.RcAt.lists (jr o) (jr ty) g l (gw px py U j t);have J:ds.length=es.length:=by rw[<-px.length,<-py.length,U.length,j.length];simpa using g
  have e:=EG ds es;rw[J,Nat.min_self] at e;rw[<-J] at e;rw[Ar,<-U.length,px.length] at q;simp only[beq_self_eq_true,DP] at e;rw[e] at q;exact q
 ·have q:=SeqAt.RcAt.lists_lengths (jr o) (jr ty) (by simpa using g) l;have J:ds.length≠es.length:=by rw[<-px.length,<-py.length,U.length,j.length];intro z;exact g (by simpa using z)
  have e:=EG ds es;have f:(ds.length==es.length)=false:=by simpa using J
  rw[f,Dg] at e;rw[<-e];exact q
def jS(I:z9 X pins σ H s):∀(n:Nat) {m:Nat} {A:Around} {x y:V} {d e:Da} {u v:Value},A.units+n<cLine->k7 X.K H n x d->k7 X.K H m y e->zv x u->zv y v->SeqAt.EqAt A s u v (Da.eq d e):=by
 have J:∀{A:Around} {x:V} {u:Value} {b:Addr} {C:List V},A.units<cLine->au x=true->zv x u->(dq X.K H b C\/a9 X.K H b C)->SeqAt.EqAt A s u (.ref b) false/\SeqAt.EqAt A s (.ref b) u false:=by
  intro A x u b C g f r h;have h':(∃T,s.heap.IsTuple b T)\/∃T,s.heap.IsList b T:=by
   rcases h with h|h
   ·obtain⟨T,_,t,_⟩:=I.tuple h;exact .inl ⟨_,t⟩
   ·obtain⟨T,_,t,_⟩:=I.list h;exact .inr ⟨_,jr t⟩
  cases x with
  |non=>cases r;rcases h' with⟨_,t⟩|⟨_,t⟩;exact⟨.none_tuple t g,.tuple_none t g⟩;exact⟨.none_list t g,.list_none t g⟩
  |bl k=>cases r;rcases h' with⟨_,t⟩|⟨_,t⟩;exact⟨.bool_tuple k t g,.tuple_bool k t g⟩;exact⟨.bool_list k t g,.list_bool k t g⟩
  |int k=>obtain⟨tk,rfl⟩:=r;rcases h' with⟨_,t⟩|⟨_,t⟩;exact⟨.int_tuple k tk t g,.tuple_int k tk t g⟩;exact⟨.int_list k tk t g,.list_int k tk t g⟩
  |str k=>obtain⟨tk,rfl⟩:=r;rcases h' with⟨_,t⟩|⟨_,t⟩;exact⟨.str_tuple k tk t g,.tuple_str k tk t g⟩;exact⟨.str_list k tk t g,.list_str k tk t g⟩
  |_=>simp[au] at f
 intro n
 induction n with
 |zero=>
  intro m A x y d e u v g h1 o rx j;obtain⟨rfl,f⟩:=h1;cases m with
  |zero=>obtain⟨rfl,l⟩:=o;exact o8 rx j f l
  |succ m=>
   rcases o with⟨rfl,l⟩|⟨b,C,es,rfl,rfl,U,py⟩|⟨b,C,es,rfl,rfl,U,py⟩
   ·exact o8 rx j f l
   ·cases j;exact(J (by lia) f rx (.inl U)).1
   ·cases j;exact(J (by lia) f rx (.inr U)).1
 |succ n ih=>
  intro m A x y d e u v g h1 o rx j;have a1:A.in1.units+n<cLine:=by show A.units+1+n<cLine;lia
  rcases h1 with⟨rfl,f⟩|⟨a,xs,ds,rfl,rfl,p,px⟩|⟨a,xs,ds,rfl,rfl,p,px⟩
  ·cases m with
   |zero=>obtain⟨rfl,l⟩:=o;exact o8 rx j f l
   |succ m=>
    rcases o with⟨rfl,l⟩|⟨b,C,es,rfl,rfl,U,py⟩|⟨b,C,es,rfl,rfl,U,py⟩
    ·exact o8 rx j f l
    ·cases j;exact(J (by lia) f rx (.inl U)).1
    ·cases j;exact(J (by lia) f rx (.inr U)).1
  ·cases rx;cases m with
   |zero=>obtain⟨rfl,l⟩:=o;exact(J (by lia) l j (.inl p)).2
   |succ m=>
    rcases o with⟨rfl,l⟩|⟨b,C,es,rfl,rfl,U,py⟩|⟨b,C,es,rfl,rfl,U,py⟩
    ·exact(J (by lia) l j (.inl p)).2
    ·cases j;by_cases a0:a=b
     ·subst a0;cases I.tuple_inj p U;have e:Da.eq (.tup ds) (.tup es)=true:=lO I (n+1) (m:=m+1) (x:=.ref a) (.inr (.inl ⟨a,xs,ds,rfl,rfl,p,px⟩)) (.inr (.inl ⟨a,xs,es,rfl,rfl,U,py⟩));rw[e];exact .same _
     ·exact .of_refs a0 (qJ I (by lia) p U px py λh1 o r1 r2=>ih a1 h1 o r1 r2)
    ·cases j;obtain⟨us,vx,tx,_⟩:=I.tuple p;obtain⟨vs,vy,ty,_⟩:=I.list U;exact .tuple_list tx (jr ty) (by lia)
  ·cases rx;cases m with
   |zero=>obtain⟨rfl,l⟩:=o;exact(J (by lia) l j (.inr p)).2
   |succ m=>
    rcases o with⟨rfl,l⟩|⟨b,C,es,rfl,rfl,U,py⟩|⟨b,C,es,rfl,rfl,U,py⟩
    ·exact(J (by lia) l j (.inr p)).2
    ·cases j;obtain⟨us,vx,tx,_⟩:=I.list p;obtain⟨vs,vy,ty,_⟩:=I.tuple U;exact .list_tuple (jr tx) ty (by lia)
    ·cases j;by_cases a0:a=b
     ·subst a0;cases I.list_inj p U;have e:Da.eq (.lst ds) (.lst es)=true:=lO I (n+1) (m:=m+1) (x:=.ref a) (.inr (.inr ⟨a,xs,ds,rfl,rfl,p,px⟩)) (.inr (.inr ⟨a,xs,es,rfl,rfl,U,py⟩));rw[e];exact .same _
     ·exact .of_refs a0 (uX I (by lia) p U px py λh1 o r1 r2=>ih a1 h1 o r1 r2)
def uEq(K:Ae)(k:Nat):R2:=λx y H Q=>match x,y with
 |.ref a,.ref b=>∃n m d e,n<=k/\k7 K H n (.ref a) d/\k7 K H m (.ref b) e/\Q (.bl (Da.eq d e)) H
 |x,y=>agg x y=true/\Q (.bl (decide (x=y))) H
def alg{k:Nat}(hu:X.A.units+k<cLine):aC X (compareOp .Eq) (uEq X.K k):=by
 intro J s t H x y v u Q I C T h;cases x with
 |ref a=>
  cases y with
  |ref b=>
   obtain⟨n,m,d,e,hn,l,U,q⟩:=h;cases C;cases T;have k6:∀{k:Bool},k=Da.eq d e->SeqAt.RcAt X.A s (.ref a) (.ref b) k->wpAny (model X.prog X.w) X.A (compareOp .Eq (.ref a) (.ref b)) (EP X J t Q) X.xe s:=λ{k} e' r=>
    r X.prog X.w X.xe (EP X J t Q) (by rw[e'];exact⟨.bl _,H,I,rfl,q⟩)
   cases n with
   |zero=>exact(jc l.2).elim
   |succ n=>
    cases m with
    |zero=>exact(jc U.2).elim
    |succ m=>
     have o:X.A.in1.units+n<cLine:=by show X.A.units+1+n<cLine;lia
     rcases l with⟨_,f⟩|⟨a',xs,ds,e1,rfl,p,px⟩|⟨a',xs,ds,e1,rfl,p,px⟩
     ·exact(jc f).elim
     ·cases e1;rcases U with⟨_,f⟩|⟨b',ys,es,g,rfl,j,py⟩|⟨b',ys,es,g,rfl,j,py⟩
      ·exact(jc f).elim
      ·cases g;exact k6 rfl (qJ I (by lia) p j px py λl U r1 r2=>jS I n o l U r1 r2)
      ·cases g;obtain⟨us,vx,tx,_⟩:=I.tuple p;obtain⟨vs,vy,ty,_⟩:=I.list j;exact k6 rfl (.tuple_list tx (jr ty) (by lia))
     ·cases e1;rcases U with⟨_,f⟩|⟨b',ys,es,g,rfl,j,py⟩|⟨b',ys,es,g,rfl,j,py⟩
      ·exact(jc f).elim
      ·cases g;obtain⟨us,vx,tx,_⟩:=I.list p;obtain⟨vs,vy,ty,_⟩:=I.tuple j;exact k6 rfl (.list_tuple (jr tx) ty (by lia))
      ·cases g;exact k6 rfl (uX I (by lia) p j px py λl U r1 r2=>jS I n o l U r1 r2)
  |_=>exact ajj J s t H _ _ v u Q I C T h
 |_=>cases y<;>exact ajj J s t H _ _ v u Q I C T h
def ap8{c:Addr}(I:Gl X x)(J:X.mg x=some (.ref c))(hd:Ew x:=by decide):PE X (.Name x pos) (tC (.ref c)):=ahy I J (v:=.ref c) rfl hd
def adp{T:String}(I:Gl X x)(J:X.mg x=none)(U:bootBuiltins x=some (.type T))(g:x ≠ "__name__" := by decide)(hd:Ew x:=by decide):PE X (.Name x pos) (tC (.ty T)):=agv I J U (v:=.ty T) rfl g hd
structure Cal(P:Program)(w:World)(K:Ae)(mg:Str->Option Value)(base:Heap)(k:Nat)(x:Str)(ps:List Str)(sp:Sp):Prop where
 ex:∃f fd,bH P w K mg base CX0 k f fd ps sp/\aW K fd ps []/\PySem.W.keepIn K (.ref f)=true/\mg x=some (.ref f)
def ark{k:Nat}{sp:Sp}{t:TA}{p:Pos}(c:Cal X.prog X.w X.K X.mg X.base k x ps sp)(U:wq k X.A)(g:Gl X x)(j:PA X (e::es) t)(I:Ew x:=by decide)
 (l:Et e es X:=by rfl) (J:Eu pos es X:=by rfl):PE X (.Call (.Name x p) (e::es) [] pos) (ajk sp [] E0 t):=by
 obtain⟨f,fd,F,b,o,m⟩:=c.ex;exact afv F U g m o b .nil ac9 j I l J
theorem Cal.mono{P:Program}{w:World}{K:Ae}{k:Nat}{sp:Sp}(c:Cal P w K mg base j x ps sp)(h:j<=k):Cal P w K mg base k x ps sp:=by obtain⟨f,fd,F,b,I,m⟩:=c.ex;exact⟨f,fd,F.mono h,b,I,m⟩
end L2
variable {ds:List L2.Da}
namespace L2
open PySem PySem.Spec PyProof.Rows
def oW(env:Env):List (Str×NameKind)->List (Str×Addr)->List (Str×Addr)
 |[],cs=>cs
 |(n,k)::r,cs=>oW env r (if k==.free then(n,(env.cells.lookup n).getD 0)::cs else cs)
def f8(scope:Scope)(env:Env):List (Str×Addr):=oW env scope.names []
theorem u6{env:Env}:∀{names:List (Str×NameKind)} {cs:List (Str×Addr)} {p:Str×Addr},p∈oW env names cs->p∈cs\/((p.1,NameKind.free)∈names/\p.2=(env.cells.lookup p.1).getD 0)
 |[],_,_,h=>.inl h
 |(n,k)::r,cs,p,h=>by
  rcases u6 (names:=r) h with q|⟨q,e⟩
  ·by_cases I:(k==NameKind.free)=true
   ·rw[Aw I] at q;rcases Ax.mp q with rfl|q
    ·have:k=.free:=by simpa using I
     exact .inr ⟨by rw[this];exact Av,rfl⟩
    ·exact .inl q
   ·rw[As I] at q;exact .inl q
  ·exact .inr ⟨Ah _ q,e⟩
theorem tT{env:Env}{x:Str}:∀{names:List (Str×NameKind)} {cs:List (Str×Addr)},((∃c,(x,c)∈cs)\/(x,NameKind.free)∈names)->∃c,(x,c)∈oW env names cs
 |[],_,.inl h=>h
 |[],_,.inr h=>by simp at h
 |(n,k)::r,cs,h=>by
  refine tT (names:=r) ?_;rcases h with⟨c,h⟩|h
  ·left;by_cases I:(k==NameKind.free)=true
   ·rw[Aw I];exact⟨c,Ah _ h⟩
   ·rw[As I];exact⟨c,h⟩
  ·rcases Ax.mp h with e|h
   ·left;injection e with J U
    subst J;subst U;exact⟨_,Av⟩
   ·exact .inr h
theorem fg{x:Str}:∀{l:List (Str×Addr)} {c:Addr},(x,c)∈l->∃I,l.lookup x=some I
 |(n,d)::r,c,h=>by
  rw[Bb];cases J:x==n with
  |true=>exact⟨d,rfl⟩
  |false=>
   rcases Ax.mp h with e|h
   ·injection e with U _;subst U;simp at J
   ·exact fg h
def lI(h:∀n,(n,NameKind.free)∈scope.names->∃c,env.cells.lookup n=some c):closureFor scope env=pure (f8 scope env):=by
 unfold closureFor f8;have key:∀(names:List (Str×NameKind)) (I:List (Str×Addr)),(∀n,(n,NameKind.free)∈names->∃c,env.cells.lookup n=some c)->
  (forIn names I λx (r:List (Str×Addr))=>(match x with|(name,kind)=>if kind==NameKind.free then do let a <-cellOf env name;pure (ForInStep.yield ((name,a)::r)) else pure (ForInStep.yield r):Sem (ForInStep (List (Str×Addr)))))=pure (oW env names I):=by
  intro names
  induction names with
  |nil=>intro I _;rfl
  |cons p r o=>
   intro I J;obtain⟨n,k⟩:=p;rw[CZ];cases U:k==NameKind.free with
   |true=>
    have g:k=.free:=by simpa using U
    subst g;obtain⟨c,t⟩:=J n Av;have e:cellOf env n=pure c:=by unfold cellOf;rw[t]
    simp only[beq_self_eq_true,if_true,e];have j:oW env ((n,NameKind.free)::r) I=oW env r ((n,c)::I):=by show oW env r _=_;rw[t];rfl
    rw[j];exact o ((n,c)::I) λm l=>J m (Ah _ l)
   |false=>
    simp only[U,B7,if_false];have j:oW env ((n,k)::r) I=oW env r I:=by show oW env r (if (k==NameKind.free)=true then _ else _)=_;rw[U];rfl
    rw[j];exact o I λm l=>J m (Ah _ l)
 exact(BH (· >>= pure) (key scope.names [] h))
theorem aU{env:Env}{x:Str}:∀{names:List (Str×NameKind)},
 (names.map λ(n,k)=>if (k==NameKind.free&&env.scope.kind==.function&&env.kindOf n==some .cell) then(n,NameKind.cell) else(n,k)).lookup x
  = (names.lookup x).map λk=>if (k==NameKind.free&&env.scope.kind==.function&&env.kindOf x==some .cell) then NameKind.cell else k
 |[]=>rfl
 |(n,k)::r=>by
  have g:=@aU env x r;show List.lookup x ((if (k==NameKind.free&&env.scope.kind==.function&&env.kindOf n==some .cell)=true then(n,NameKind.cell) else(n,k))::_)=_;cases J:x==n with
  |true=>
   have U:x=n:=by simpa using J
   subst U;by_cases I:(k==NameKind.free&&env.scope.kind==.function&&env.kindOf x==some .cell)=true
   ·rw[Aw I];simp only[Bb,beq_self_eq_true,Option.map_some];rw[Aw I]
   ·rw[As I];simp only[Bb,beq_self_eq_true,Option.map_some];rw[As I]
  |false=>
   by_cases I:(k==NameKind.free&&env.scope.kind==.function&&env.kindOf n==some .cell)=true
   ·rw[Aw I];simp only[Bb,J];exact g
   ·rw[As I];simp only[Bb,J];exact g
def Cx.comp(X:Cx)(scope:Scope)(T:List Str)(C:Addr)(fp:List Addr)(s₀:Shared)(H₀:Hp):Cx:=
 { X with N:=X.N++T,s₀:=s₀,H₀:=H₀,env:=compEnvC scope (f8 scope X.env) C X.env,outer:=X.stack,ex:=fp,fn:=λ_=>false,xe:=λ_ _=>False }
structure jv(X:Cx)(scope:Scope):Prop where
 kind:scope.kind=.function
 nocell:∀y∈scope.names,y.2≠.cell
 names:∀y∈scope.names,y.2=.local->scope.names.lookup y.1=some .local
 free:∀n,scope.names.lookup n=some .free->X.env.kindOf n=some .cell\/X.env.kindOf n=some .free
 freeM:∀n,(n,NameKind.free)∈scope.names->X.env.kindOf n=some .cell\/X.env.kindOf n=some .free
 apart:∀x∈X.N,scope.names.lookup x≠some .local
def jv.clo(S:jv X scope)(I:z9 X pins σ H s):closureFor scope X.env=pure (f8 scope X.env):=
 lI λn h=>I.ok.has n (S.freeM n h)
def jv.cl_old(S:jv X scope)(I:z9 X pins σ H s){c:Addr}(h:(f8 scope X.env).lookup x=some c):X.env.cells.lookup x=some c:=by
 rcases u6 (BC h) with q|⟨q,e⟩
 ·simp at q
 ·obtain⟨d,hd⟩:=I.ok.has x (S.freeM x q);have J:c=(X.env.cells.lookup x).getD 0:=e;rw[hd] at J ⊢;rw[J];rfl
def jv.cl_has(_:jv X scope)(h:scope.names.lookup x=some .free):∃c,(f8 scope X.env).lookup x=some c:=by obtain⟨c,I⟩:=tT (env:=X.env) (names:=scope.names) (cs:=[]) (x:=x) (.inr (BC h));exact fg I
theorem jv.kindOf(S:jv X scope)(h:(compEnvC scope (f8 scope X.env) C X.env).kindOf x=some .cell\/(compEnvC scope (f8 scope X.env) C X.env).kindOf x=some .free):scope.names.lookup x=some .free:=by
 have e:(compEnvC scope (f8 scope X.env) C X.env).kindOf x=(scope.names.lookup x).map λk=>if (k==NameKind.free&&X.env.scope.kind==.function&&X.env.kindOf x==some .cell) then NameKind.cell else k:=aU
 rw[e] at h;cases I:scope.names.lookup x with
 |none=>rw[I] at h;rcases h with h|h<;>cases h
 |some k=>
  rw[I] at h;cases k with|free=>rfl|cell=>exact absurd rfl (S.nocell _ (BC I))|_=>rcases h with h|h<;>cases h
def jv.vis(S:jv X scope)(U:x∈X.N)(h:Vis (compEnvC scope (f8 scope X.env) C X.env).scope x):scope.names.lookup x=some .free:=by
 rcases h with h|h|h
 ·exfalso;have e:(compEnvC scope (f8 scope X.env) C X.env).kindOf x=(scope.names.lookup x).map λk=>if (k==NameKind.free&&X.env.scope.kind==.function&&X.env.kindOf x==some .cell) then NameKind.cell else k:=aU
  have I:(compEnvC scope (f8 scope X.env) C X.env).kindOf x=some .local:=h;rw[e] at I;cases J:scope.names.lookup x with
  |none=>rw[J] at I;cases I
  |some k=>
   rw[J] at I;have I:(if (k==NameKind.free&&X.env.scope.kind==.function&&X.env.kindOf x==some .cell)=true then NameKind.cell else k)=.local:=AW I;split at I
   ·cases I
   ·subst I;exact S.apart x U J
 ·exact S.kindOf (C:=C) (.inl h)
 ·exact S.kindOf (C:=C) (.inr h)
def jv.back(S:jv X scope)(h:scope.names.lookup x=some .free):(compEnvC scope (f8 scope X.env) C X.env).kindOf x=some .cell\/(compEnvC scope (f8 scope X.env) C X.env).kindOf x=some .free:=by
 have e:(compEnvC scope (f8 scope X.env) C X.env).kindOf x=(scope.names.lookup x).map λk=>if (k==NameKind.free&&X.env.scope.kind==.function&&X.env.kindOf x==some .cell) then NameKind.cell else k:=aU
 rw[e,h];show some (if _ then _ else _)=_\/some (if _ then _ else _)=_;split
 ·exact .inl rfl
 ·exact .inr rfl
def PF(X:Cx)(m3:List Expr)(t:TT):Prop:=
 ∀(pins:List (Addr×Obj)) (s:Shared) (σ:St) (H:Hp) (Q:Bool->Hp->Prop),z9 X pins σ H s->t σ H Q->
  wpAny (model X.prog X.w) X.A (forIn m3 true λc r=>if r=true then do let ok <-isTrue c X.env (eval c X.env);pure (ForInStep.yield ok) else pure (ForInStep.yield r)) (TP X pins σ Q) X.xe s
def asb:TT:=λ_ H Q=>Q true H
def am3 :PF X [] asb:=λ_ _ _ H _ I h=>Ai ⟨H,I,h⟩
def am8{t:TT}(hc:PT X c t):PF X [c] t:=by intro J s U H Q I h;rw[CZ];simp only[if_true];refine Aa (Aa (aT (hc J s U H Q I h) λb g q=>Ai ?_));exact Ai q
def ff{w:World}{R:Result->Shared->Prop}{iter:Expr}{it C:Value}(I:Nat->Shared->Prop)
 (turn:∀n s,I n s->wpAny (model prog w) A (pyNext it) (λr J=>match r with
  |none=>R (.ok .next) J
  |some v=>wpAny (model prog w) A (letOwnedTupleGo target it v) (λ_ J=>wpAny (model prog w) A (assign target env v) (λ_ l=>
   wpAny (model prog w) A (forIn m3 true λc r=>if r=true then do let ok <-isTrue c env (eval c env);pure (ForInStep.yield ok) else pure (ForInStep.yield r)) (λok g=>
    if ok=true then wpAny (model prog w) A (eval ni env) (λx o=>
     wpAny (model prog w) A (call (.builtin "list.append") [C,x]) (λ_ p=>∃m,m<n/\I m p) (λ_ _=>False) o) (λ_ _=>False) g
    else ∃m,m<n/\I m g) (λ_ _=>False) l) (λ_ _=>False) J) (λ_ _=>False) J) (λ_ _=>False) s)
 (n:Nat) (h:I n s):
 codeAny (model prog w) A (.compLoop (.ListComp ni [⟨target,iter,m3,0⟩] scope pos) 0 it C env) R s:=by
 refine codeAny_loop rfl I (λn s hI=>?_) n h;show wpAny _ A ((compTurn (.ListComp ni [⟨target,iter,m3,0⟩] scope pos) 0 it C env).onRaise (λx=>do noteFrame x env;theTreesLotGoes x)) _ _ s;refine wpAny_noted ?_;rw[compTurn_list];refine Aa (wpAny_standAt (Aa (AZ (turn n s hI) (λr J U=>?_) λ_ _ j=>j.elim)));cases r with
 |none=>exact Ai U
 |some v=>
  refine Aa (AZ U (λ_ J U=>?_) λ_ _ j=>j.elim);refine Aa (AZ U (λ_ l T=>Aa (AZ T (λok g t=>?_) λ_ _ j=>j.elim)) λ_ _ j=>j.elim);cases ok with
  |false=>exact Ai ⟨rfl,t⟩
  |true=>
   exact Aa (Aa (AZ t (λx o a0=>Aa (AZ a0 (λ_ p a1=>Ai (Ai ⟨rfl,a1⟩)) λ_ _ j=>j.elim)) λ_ _ j=>j.elim))
def tLC(n:Nat)(wi:TI)(g:TG)(tc:TT)(te:TE):TE:=λσ H Q=>wi σ H λJ H1=>∃W:Nat->Nat->List V->Hp->Prop,(∃m,W 0 m [] H1)/\∀i m ys H,W i m ys H->
 (J.stop i H/\ys.length<=sizeLine/\∀D,H D=none->Q (.ref D) (upd H D (.lst ys)))\/
 (J.go i H/\ys.length<sizeLine/\∀x H',J.yld i H x H'->g x (σ++List.replicate n none) H' λI H2=>tc I H2 λb j=>
  if b=true then te I j λy l=>∃U,U<m/\W (i+1) U (ys++[y]) l else ∃U,U<m/\W (i+1) U ys j)
def qF(g:TG)(n k:Nat):Prop:=∀(σ:St),σ.length=n->∀x H Q,g x (σ++List.replicate k none) H Q->
 g x (σ++List.replicate k none) H λI H2=>((I.length=n+k/\∀(i:Nat) v,(σ++List.replicate k none)[i]?=some (some v)->I[i]?=some (some v))/\Q I H2)
section
variable {T:List Str}{iter:Expr}{g:TG}{tc:TT}{te:TE}
def ltN{b:Addr}{o:Obj}(e:h.get? b=some o):@LT.lt Nat instLTNat b h.objs.size:=vb e
def vA{a b:Addr}(h:@Ne Nat a b):a≠b:=h
def leN{a b:Addr}(h:@LE.le Nat instLENat a b):a<=b:=h
def acq(eH:List Value)(n:Nat)(u:Value):∃I,Obj.mapSeq (·.push u) { cls:=.type "list",data:=.seq eH.toArray n }=({ cls:=.type "list",data:=.seq (eH++[u]).toArray I }:Obj):=
 ⟨_,by simp[Obj.mapSeq];rfl⟩
def xP{w:World}{D:Addr}(I:s.heap.get? D=some { cls:=.type "list",data:=.seq eH.toArray n })
 (hz:eH.length<=sizeLine) (h:∀h' J,Heap.SameBut D s.heap h'->h'.get? D=some { cls:=.type "list",data:=.seq (eH++[u]).toArray J }->Q .none { s with heap:=h' }):
 wpAny (model prog w) A (call (.builtin "list.append") [.ref D,u]) Q E s:=by
 have g:s.heap.IsList D eH.toArray:=⟨_,I,rfl,n,rfl⟩;refine wpAny_call_entry slot_list_append g.typeIs entry_list_append ?_ (args_list_append _ _);show wpAny _ _ (updateSeq D (·.push u) >>= λ_=>ret .none) _ _ s;refine Aa ?_;obtain⟨J,U⟩:=acq eH n u;refine wpAny_updateSeq (f:=(·.push u)) I rfl (Ai ⟨.none,rfl,h _ J (xp ..) ?_⟩) (by rw[Ar];exact hz) (by rw[Bq,Ar];exact Nat.succ_le_succ hz);rw[<-U];exact Dd _ I (by rw[U];rfl)
theorem mX{Q:VK}{ca:Value}{I:Shared}{RR:Value->Addr->Result->Shared->Prop}
 (S:jv X scope) (hc:X.calm=true)
 (hg:∀C fp s₀ H₀,PG (X.comp scope T C fp s₀ H₀) target g) (dp:qF g X.N.length T.length) (hf:∀C fp s₀ H₀,PF (X.comp scope T C fp s₀ H₀) m3 tc) (he:∀C fp s₀ H₀,PE (X.comp scope T C fp s₀ H₀) ni te)
 (h:PIE X pins σ target (λJ H1=>∃W:Nat->Nat->List V->Hp->Prop,(∃m,W 0 m [] H1)/\∀i m ys H,W i m ys H->
  (J.stop i H/\ys.length<=sizeLine/\∀D,H D=none->Q (.ref D) (upd H D (.lst ys)))\/
  (J.go i H/\ys.length<sizeLine/\∀x H',J.yld i H x H'->g x (σ++List.replicate T.length none) H' λcc H2=>tc cc H2 λb H3=>
   if b=true then te cc H3 λy H4=>∃m',m'<m/\W (i+1) m' (ys++[y]) H4 else ∃m',m'<m/\W (i+1) m' ys H3)) ca I)
 (dt:∀D C s' H' m',z9 X pins σ H' s'->oh X pins H' C->s'.heap.Ns C m'->Q (.ref D) H'->RR (.ref D) C (.ok .next) s'):
 wpAny (model X.prog X.w) X.A (newList []) (λcg aL=>wpAny (model X.prog X.w) X.A (newFunctionEnv scope X.env.globals (f8 scope X.env) [] X.env.qual none .none (some X.env)) (λbh ck=>
  codeAny (model X.prog X.w) X.A (.compStart (.ListComp ni [⟨target,iter,m3,0⟩] scope pos) 0 ca cg { bh with scope:=relabel scope X.env }) (RR cg bh.locals) ck) E aL) E I:=by
 obtain⟨it,fp,tn,J,H2,rfl,U,Tn,bj,f2,W,⟨m0,w0⟩,turn⟩:=h;refine Bn (wpAny_newFunctionEnv S.nocell (by intro y hy;simp at hy) (λbc ab t=>?_) S.kind);dsimp only at ab t ⊢;generalize bm:I.heap.push { cls:=.type "list",dict:=none,data:=.seq ([]:List Value).toArray }=G at ab t ⊢;have hC:G.objs.size=I.heap.objs.size+1:=by rw[<-bm,At]
 obtain⟨D,eD⟩:∃D,I.heap.objs.size=D:=⟨_,rfl⟩;obtain⟨C,eC⟩:∃C,G.objs.size=C:=⟨_,rfl⟩;rw[eD] at hC ⊢;rw[eC] at hC ab t ⊢;have bn:D≠C:=by lia
 have old:∀b o,I.heap.get? b=some o->bc.get? b=some o:=λb o e=>by have j:=ltN e;exact t.extBut b o (vA (by lia)) (u3 _ (bm▸u3 _ e))
 have cm:bc.get? D=some { cls:=.type "list",data:=.seq ([]:List Value).toArray 0 }:=by refine t.extBut _ _ bn (u3 _ ?_);rw[<-bm,<-eD];exact vc _ rfl
 have bp:∀b∈fp,@LT.lt Nat instLTNat b I.heap.objs.size:=λb j=>by obtain⟨o,e,_⟩:=Tn.obj _ _ bj b j;exact ltN e
 have cn:@LT.lt Nat instLTNat X.env.locals I.heap.objs.size:=U.lt;have el:X.s₀.heap.objs.size<=I.heap.objs.size:=U.sz;have HD:H2 D=none:=U.hok.fresh (leN (by exact rE));have HC:H2 C=none:=U.hok.fresh (leN (by lia));have dv:∀b:Addr,@LE.le Nat instLENat I.heap.objs.size b->b∉zU X.stack:=λb j z=>by
  have q:=U.stkSub b z;rcases Ax.mp q with q|q
  ·rw[<-q] at cn;exact absurd cn (Nat.not_lt.mpr j)
  ·exact U.nofs j q
 have bd:∀x c,X.env.cells.lookup x=some c->@LT.lt Nat instLTNat c I.heap.objs.size:=λx c e=>by obtain⟨v,q⟩:=U.cell x c e;exact q.lt
 let X':Cx:=X.comp scope T C fp I H2
 have bq:X'.Ok:={
  mod:=U.ok.mod,kind:=S.kind,glob:=U.ok.glob,blt:=U.ok.blt
  above:=leN (by show @LE.le Nat instLENat I.heap.objs.size C;lia)
  inj:=λx y c h1 h2=>U.ok.inj x y c (S.cl_old U h1) (S.cl_old U h2)
  has:=λx hx=>S.cl_has (S.kindOf hx)
  cab:=λx c hx=>absurd (show false=true from hx) (by simp)
  hd:=U.ok.hd,frames:=U.ok.frames,stk:=.inl rfl
  exf:=λb j=>⟨vA (by have:=bp b j;show @Ne Nat b C;lia),λx c e=>(f2 b j).2.2.2.2.1 x c (S.cl_old U e)⟩
  bs:=U.bs,bsz:=AK U.ok.bsz U.sz
  noex:=λb o e j=>by
   obtain⟨e0,n0⟩:=U.ok.bs b o e;rcases (f2 b j).2.2.2.1 with q|q
   ·exact U.ok.noex b o e q
   ·have q':@LE.le Nat instLENat X.s₀.heap.objs.size b:=q;have:=ltN e0;lia
  exfs:=λb j z=>by
   rcases Ax.mp (U.stkSub b z) with q|q
   ·exact(f2 b j).2.1 q
   ·exact(f2 b j).2.2.1 q
  funs:=U.stack,frf:=U.stkFree }
 have I4:∀tk,0<tk->z9 X' pins (σ++List.replicate T.length none) H2 { I with heap:=bc,toks:=tk }:=λtk dV=>{
  tk:=dV,ok:=bq,os:=rfl,bare:=U.bare,base:=Un.kept old
  loc:=⟨_,ab,λi x v e1 e2 e3=>by
   have hi:i<σ.length:=by
    by_cases hi:i<σ.length
    ·exact hi
    ·rw[Am (by exact wZ),Cr] at e2;split at e2<;>cases e2
   rw[AB hi] at e2;have e4:i<X.N.length:=by rw[<-U.len];exact hi
   have cv:X.N[i]?=some x:=by have:(X.N++T)[i]?=some x:=e1;rw[AB e4] at this;exact this
   have br:=S.vis (Az cv) e3;obtain⟨m,hn,hl⟩:=U.loc;have hk:=S.free x br;obtain⟨u,r,l⟩:=hl i x v cv e2 (.inr hk);refine⟨u,r,.inr ⟨S.back br,?_⟩⟩;rcases l with⟨l,_⟩|⟨_,c,e,z⟩
   ·rw[l] at hk;rcases hk with q|q<;>cases q
   ·obtain⟨c',e'⟩:=S.cl_has br;have cx:=S.cl_old U e';rw[e] at cx;cases cx;exact⟨c,e',z.keeps old⟩⟩
  cell:=λx c e=>by obtain⟨v,z⟩:=U.cell x c (S.cl_old U e);exact⟨v,z.keeps old⟩
  free:=HC,freeC:=λx c e=>U.freeC x c (S.cl_old U e)
  pin:=λp hp=>by
   obtain⟨a,b,c,d,e⟩:=U.pin p hp;have e5:=ltN a;refine⟨old _ _ a,b,vA (by show @Ne Nat p.1 C;lia),λz=>?_,e⟩;rcases Ax.mp (U.stkSub _ z) with q|q
   ·exact c q
   ·exact d q
  hok:=U.hok.kept old
  len:=by show(σ++_).length=(X.N++T).length;rw[Ac,Ac,BR,U.len] }
 have bu:∀(ba:List (Addr×Obj)) (H':Hp),(∀p∈ba,p∈pins\/p.1=D)->(∀b∈fp,H' b=none)->∀b∈fp,oh X' ba H' b:=λba H' hp hn b j=>by
  obtain⟨_,q1,q2,q3,q4,q5⟩:=f2 b j;have e5:=bp b j;refine⟨hn b j,vA (by show @Ne Nat b C;lia),bq.exfs b j,.inl j,(bq.exf b j).2,λp e6=>?_⟩;rcases Ak.mp e6 with z|z
  ·exact q5 p (Au _ z)
  ·rcases hp p z with z|z
   ·exact q5 p (Ag _ z)
   ·rw[z];exact vA (by lia)
 have stay:Tn.keep=Tn.keep:=rfl;have bi:∀aL:Shared,aL={ I with heap:=bc,toks:=I.toks+([]:List (Str×Value)).length }->
  codeAny (model X.prog X.w) X.A (.compLoop (.ListComp ni [⟨target,iter,m3,0⟩] scope pos) 0 (.ref it) (.ref D) X'.env) (RR (.ref D) C) aL:=by
  rintro aL rfl;refine ff (λn s'=>∃i bv H' ys ac k,z9 X' pins bv H' s'/\(bv.length=X.N.length+T.length/\∀(i:Nat) v,(σ++List.replicate T.length none)[i]?=some (some v)->bv[i]?=some (some v))/\
   s'.heap.get? D=some { cls:=.type "list",data:=.seq (ac:List Value).toArray k }/\zq ys ac/\H' D=none/\tn i s'.heap/\(∀b∈fp,H' b=none)/\W i n ys H') ?_ m0
   ⟨0,_,H2,[],[],0,I4 _ U.tk,⟨by rw[Ac,BR,U.len],λ_ _ e=>e⟩,cm,.nil,HD,Tn.keep _ _ _ bj λb _ o e=>old b o e,λb j=>(f2 b j).1,w0⟩
  rintro n s3 ⟨i,em,H3,ys,ac,k,I3,⟨e7,e8⟩,ec,bf,bg,cy,cI,w3⟩;have ek:ac.length=ys.length:=bf.length.symm;have cP:D∉X'.fs:=dv D (by exact rE);have d0:D≠X'.env.locals:=bn;have dd:z9 X' (pins++[(D,{ cls:=.type "list",data:=.seq ac.toArray k })]) (σ++List.replicate T.length none) H3 s3:=
   (I3.weak (by rw[e7,Ac,BR,U.len]) e8).pins_of λp hp=>by
    rcases Ak.mp hp with z|z
    ·exact I3.pin p (Ag _ z)
    ·have e:=Ap.mp z;subst e;exact⟨ec,bg,d0,cP,λv z=>by cases z⟩
  have bb:∀p∈pins++[(D,({ cls:=.type "list",data:=.seq ac.toArray k }:Obj))],p∈pins\/p.1=D:=λp hp=>by
   rcases Ak.mp hp with z|z
   ·exact .inl z
   ·exact .inr (by rw[Ap.mp z])
  rcases turn i n ys H3 w3 with⟨stop,hz,qn⟩|⟨go,hz,step⟩
  ·refine aT (Tn.done X' rfl rfl rfl hc i _ s3 _ H3 _ dd (bu _ H3 bb cI) cy stop) λr s4 ⟨hr,a0⟩=>?_;subst hr;obtain⟨ed,en,_⟩:=a0.pin (D,_) (Ag _ (Ag _ Av));obtain⟨m',ee,_⟩:=a0.loc;have un:Un (zU X.stack) fp H2 (upd H3 D (.lst ys)) I.heap s4.heap:={
    keep:=a0.base.keep,slot:=a0.base.slot
    free:=λb o e n hx=>by have:=ltN e;rw[qt (vA (by lia))];exact a0.base.free b o e n hx
    there:=a0.base.there
    tups:=λb xs e=>by rw[qt (λz=>by rw[z,HD] at e;cases e)];exact a0.base.tups b xs e
    frzs:=λb o u e=>by rw[qt (λz=>by rw[z,HD] at e;cases e)];exact a0.base.frzs b o u e
    tbls:=λb ps e=>by rw[qt (λz=>by rw[z,HD] at e;cases e)];exact a0.base.tbls b ps e }
   have ef:gC X.prog X.w (upd H3 D (.lst ys)) s4.heap:=λb u e=>by
    by_cases j:b=D
    ·subst j;rw[j8] at e;cases e;exact⟨hz,ac,k,bf,ed⟩
    ·rw[qt j] at e;refine(a0.hok b u e).stay (λ_ _ _ q=>q) (λc q=>?_) λc xs q=>?_
     ·rw[qt (jd q bg)];exact q
     ·rw[qt (jd q bg)];exact q
   have I5:z9 X pins σ (upd H3 D (.lst ys)) s4:=U.call' (ch:=fp) a0.os un ef a0.bare λb j=>⟨(f2 b j).2.2.2.1,(f2 b j).2.1,(f2 b j).2.2.2.2.1,(f2 b j).2.2.2.2.2⟩;refine dt D C s4 _ m' I5 ?_ ee (qn D bg);refine⟨by rw[qt (AH bn)];exact a0.free,?_,?_,.inr ?_,λx c e=>?_,λp hp=>?_⟩
   ·exact vA (by lia)
   ·exact U.nofs (leN (by lia))
   ·exact leN (by lia)
   ·exact vA (by have:=bd x c e;lia)
   ·exact vA (by have:=ltN (U.pin p hp).1;lia)
  ·refine aT (Tn.item X' rfl rfl rfl hc i _ s3 _ H3 _ dd (bu _ H3 bb cI) cy go) λr s4 ⟨u,hr,h4⟩=>?_;subst hr;refine aT h4 λ_ s5 ⟨x,H5,I5,r5,y5,bw,eg⟩=>?_;have eh:=I5.pinned (bu _ H5 bb eg) (Tn.obj _ _ bw);refine AZ ((hg C fp I H2) _ s5 _ H5 x u _ eh r5 (dp σ U.len x H5 _ (step x H5 y5))) (λ_ s6 ⟨be,H6,I6,⟨de,di⟩,q6⟩=>?_) λ_ _ z=>z;refine AZ ((hf C fp I H2) _ s6 be H6 _ I6 q6) (λb s7 ⟨H7,I7,q7⟩=>?_) λ_ _ z=>z;have k6:∀{s8:Shared} {H8:Hp} (I8:z9 X' ((pins++[(D,{ cls:=.type "list",data:=.seq ac.toArray k })])++mE fp s5.heap) be H8 s8),tn (i+1) s8.heap/\(∀b∈fp,H8 b=none)/\s8.heap.get? D=some { cls:=.type "list",data:=.seq ac.toArray k }/\H8 D=none/\z9 X' pins be H8 s8:=λ{s8 H8} I8=>by
    refine⟨Tn.keep _ _ _ bw λb j o e=>(I8.pin (b,o) (Ag _ (Ag _ (dY j e)))).1,λb j=>?_,?_,?_,I8.unpinned.unpinned⟩
    ·obtain⟨o,e,d⟩:=Tn.obj _ _ bw b j;exact(I8.pin (b,o) (Ag _ (Ag _ (dY j e)))).2.1
    ·exact(I8.pin (D,_) (Ag _ (Au _ (Ag _ Av)))).1
    ·exact(I8.pin (D,_) (Ag _ (Au _ (Ag _ Av)))).2.1
   cases b with
   |false=>
    rw[As AC] at q7 ⊢;obtain⟨m',hm,w7⟩:=q7;obtain⟨a1,a2,a3,a4,a5⟩:=k6 I7;exact⟨m',hm,i+1,be,H7,ys,ac,k,a5,⟨de,di⟩,a3,bf,a4,a1,a2,w7⟩
   |true=>
    rw[Aw rfl] at q7 ⊢;refine AZ ((he C fp I H2) _ s7 be H7 _ I7 q7) (λv s8 ⟨y,H8,I8,r8,m',hm,w8⟩=>?_) λ_ _ z=>z;obtain⟨a1,a2,a3,a4,a5⟩:=k6 I8;refine xP a3 (by lia) λh9 k9 dj ej=>?_;have nD:∀b∈fp,b≠D:=λb j=>vA (by have:=bp b j;lia);refine⟨m',hm,i+1,be,H8,ys++[y],ac++[v],k9,?_,⟨de,di⟩,ej,bf.append (.cons r8 .nil),a4,Tn.keep _ _ _ a1 λb j o e=>(dj.2 b (nD b j)).trans e,a2,w8⟩;exact a5.turned (t':=s8.toks) (it:=D) (λb o j e=>(dj.2 b j).trans e) a4 d0 (.inr (leN (by show @LE.le Nat instLENat I.heap.objs.size D;exact rE))) (λx c e=>vA (by have:=bd x c (S.cl_old U e);lia)) λp hp=>vA (by have:=ltN (U.pin p hp).1;lia)
 exact codeAny_compStart_list (bi _ rfl) (Tn.self _ _ _ _ _ (Tn.keep _ _ _ bj λb _ o e=>old b o e) (bi _ rfl))
end
section
variable {T:List Str}{iter:Expr}{g:TG}{tc:TT}{te:TE}
def anf(T:List Str)(S:jv X scope)(hc:X.calm=true)(hi:PI X target iter wi)(t:∀C fp s₀ H₀,PG (X.comp scope T C fp s₀ H₀) target g)(j:qF g X.N.length T.length)
 (hf:∀C fp s₀ H₀,PF (X.comp scope T C fp s₀ H₀) m3 tc) (he:∀C fp s₀ H₀,PE (X.comp scope T C fp s₀ H₀) ni te)
 (hs:∀x,foldedSetIterable iter X.env x=pure x:=by intro _;rfl):PE X (.ListComp ni [⟨target,iter,m3,0⟩] scope pos) (tLC T.length wi g tc te):=by
 intro J s r H Q I h;rw[eval_ListComp];refine wpAny_comprehension_free (use:=none) rfl hs (S.clo I) S.kind S.names (aT (hi J s r H _ I h) λv s1 h1=>aT h1 λa0 s2 h2=>?_);refine mX (RR:=λl C=>compPost (model X.prog X.w) X.A X.xe none (EP X J r Q) l C) S hc t j hf he h2 ?_;intro D C s' H' m' I' U hn q;exact⟨m',hn,λh' p=>⟨.ref D,H',I'.turned (t':=s'.toks) (it:=C) (λb o hb e=>(p.2 b hb).trans e) U.1 (AH (AH U.2.1)) U.2.2.2.1 U.2.2.2.2.1 U.2.2.2.2.2,rfl,q⟩⟩
theorem acz(T:List Str){px j:Pos}(hN:X.N.Nodup)(l:X.N[i]?=some x)(hx:Loc X.env.scope x)(S:jv X scope)(hc:X.calm=true)(hi:PI X target iter wi)
 (hg:∀C fp s₀ H₀,PG (X.comp scope T C fp s₀ H₀) target g) (p:qF g X.N.length T.length)
 (hf:∀C fp s₀ H₀,PF (X.comp scope T C fp s₀ H₀) m3 tc) (he:∀C fp s₀ H₀,PE (X.comp scope T C fp s₀ H₀) ni te)
 (r:swapsWith (.ListComp ni [⟨target,iter,m3,0⟩] scope j) (some (.Name x px)) pos.line X.env=pure true:=by rfl)
 (t:X.fn x=true\/X.env.scope.names.lookup x=some .local:=by first|exact .inl rfl|exact .inr rfl|assumption)
 (hs:∀x,foldedSetIterable iter X.env x=pure x:=by intro _;rfl):PS X (.Assign [.Name x px] (.ListComp ni [⟨target,iter,m3,0⟩] scope j) pos) (ak4 (tLC T.length wi g tc te) (e9 i)):=by
 intro pins s σ H D I h;rw[exec_Assign_Name_used _ _ _ _ r];refine Aa (wpAny_standAt (Aa ?_));show wpAny _ X.A (do let _ <-comprehension (.ListComp ni [⟨target,iter,m3,0⟩] scope j) scope X.env _ (newList []) false (eval iter X.env) (some (assign (.Name x px) X.env))) _ _ s;refine Aa (AZ (wpAny_comprehension_free (use:=some (assign (.Name x px) X.env)) (Q:=λ_ U=>SP X pins D .next U) rfl hs (S.clo I) S.kind S.names
  (aT (hi pins s σ H _ I h) λv s1 h1=>aT h1 λa5 s2 h2=>?_)) (λ_ U hq=>Ai (Ai hq)) λ_ _ e=>e)
 refine mX (RR:=λa0 C=>compPost (model X.prog X.w) X.A X.xe (some (assign (.Name x px) X.env)) (λ_ U=>SP X pins D .next U) a0 C) (pins:=pins) (σ:=σ) (Q:=λx H1=>e9 i x σ H1 D.nx) S hc hg p hf he h2 ?_;intro A C U H' m' I' J hn q;show wpAny _ X.A (assign (.Name x px) X.env (.ref A)) _ _ U;refine wpAny_assign_Name (ph I' hN l hx (v:=.ref A) rfl (λa1 a2 ⟨a,hs,ha⟩ _=>?_) t);have a3:C≠a:=by
  rcases ha with z|z
  ·rw[z];exact J.2.1
  ·exactλe=>J.2.2.2.2.1 x a z e.symm
 exact⟨m',hn.sameBut hs a3,λh' a4=>⟨_,H',a2.turned (t':=a1.toks) (it:=C) (λb o hb e=>(a4.2 b hb).trans e) J.1 J.2.1 J.2.2.2.1 J.2.2.2.2.1 J.2.2.2.2.2,q⟩⟩
end
def vh(outer:Scope)(N:List Str)(I:Scope):Bool:=
 decide (I.kind=.function)&&I.names.all (λp=>decide (p.2≠.cell)&&(decide (p.2≠.local)||decide (I.names.lookup p.1=some .local))&&(decide (p.2≠.free)||(decide (outer.names.lookup p.1=some .cell)||decide (outer.names.lookup p.1=some .free))))
  && N.all (λx=>decide (I.names.lookup x≠some .local))
def vh.mk{I:Scope}(h:vh X.env.scope X.N I=true):jv X I:=by
 unfold vh at h;rw[AR,AR,CO,CO] at h;obtain⟨⟨l,J⟩,o⟩:=h;have j:∀n,(n,NameKind.free)∈I.names->X.env.kindOf n=some .cell\/X.env.kindOf n=some .free:=λn U=>by
  have q:=J _ U;simp only[AR,Ei,decide_eq_true_eq] at q;rcases q.2 with z|z
  ·exact absurd rfl z
  ·exact z
 refine⟨of_decide_eq_true l,λy g=>?_,λy g e=>?_,λn U=>j n (BC U),j,λx p=>of_decide_eq_true (o x p)⟩
 ·have q:=J _ g;simp only[AR,Ei,decide_eq_true_eq] at q;exact q.1.1
 ·have q:=J _ g;simp only[AR,Ei,decide_eq_true_eq] at q;rcases q.1.2 with z|z
  ·exact absurd e z
  ·exact z
abbrev EJ:=@vh.mk
def xB(n:Nat):qF (e9 n) n 1:=by
 intro U I x H Q h;refine⟨⟨by simp[I],λi v e=>?_⟩,h⟩;by_cases J:i=n
 ·subst J;rw[Am (by exact rE)] at e;simp[I] at e
 ·rw[Br (AH J)];exact e
def gH:bootBuiltins "isinstance"=some (.builtin "isinstance"):=by decide +kernel
def fJ:bootBuiltins "tuple"=some (.type "tuple"):=by decide +kernel
def xS:bootBuiltins "str"=some (.type "str"):=by decide +kernel
def rN:bootBuiltins "int"=some (.type "int"):=by decide +kernel
def bx:bootBuiltins "list"=some (.type "list"):=by decide +kernel
def alq:bootBuiltins "len"=some (.builtin "len"):=by decide +kernel
def huK{k:Nat}(I:wq k A):A.units+128<cLine:=by have:=I.un;lia
def gB(h:n<=1000):n<=sizeLine:=BD (qG h)
def Cal.of{P:Program}{w:World}{K:Ae}{k:Nat}{sp:Sp}(F:bH P w K mg base CX0 k f fd ps sp)(b:aW K fd ps [])(I:PySem.W.keepIn K (.ref f)=true)(m:mg x=some (.ref f)):
 Cal P w K mg base k x ps sp:=⟨f,fd,F,b,I,m⟩
def bH.never{P:Program}{w:World}{K:Ae}{k:Nat}{sp:Sp}(no:∀vs H Q E,¬sp vs H Q E):bH P w K mg base CX0 k f fd ps sp:=
 ⟨λvs H Q E h=>absurd h (no vs H Q E),λA I s H args J vs Q E _ _ _ _ h=>absurd h (no vs H Q E)⟩
section
variable (K:Ae)(P:Program)(w:World)
end
structure z0(K:Ae)(x:Str)(st:Stmt):Prop where
 ex:∃(f:Addr) (kV ir pm:Value) (an:Option Addr) (fx ct:Value),PySem.W.nsIn K mainGlobals x=some (some (.ref f))/\Fun K x x st f (PySem.W.fnOf x x (xu st) (js st) (qz st) .none kV ir pm an fx ct)
def def_in{K:Ae}{kV ct:Value}(a:PySem.W.nsIn K mainGlobals x=some (some (.ref f)))
 (l:K.lookup f=some ⟨oc,od,.func (PySem.W.fnOf x x (xu st) (js st) (qz st) .none kV ir pm an fx ct),nC⟩) (c:PySem.W.codeIn K fx x=true) (k:PySem.W.keepIn K (.ref f)=true):z0 K x st:=
 ⟨f,kV,ir,pm,an,fx,ct,a,ad3 (st:=st) l c k⟩
def z0.use{K:Ae}(D:z0 K x st)(X:K.In h)(G:h.Ns mainGlobals mg)
 (I:∀(kV ir pm:Value) (an:Option Addr) (fx ct:Value) (us:List Value),us.length=ps.length->bindArgs (PySem.W.fnOf x x (xu st) (js st) (qz st) .none kV ir pm an fx ct) ⟨us,[]⟩=pure (ps.zip us)):
 ∃f fd,Fun K x x st f fd/\aW K fd ps []/\mg x=some (.ref f):=by
 obtain⟨f,kV,ir,pm,an,fx,ct,a,F⟩:=D.ex;exact⟨f,_,F,aW.all (I kV ir pm an fx ct),CW X G a⟩
end L2
namespace Words
open PySem L2
inductive Wd where
 |leaf (t:Bool) (n:Str)
 |node (e:Bool) (l r:Wd)
def kL:Bool->Str
 |false => "plain"
 |true => "turned"
def kN:Bool->Str
 |false => "both"
 |true => "either"
def Wd.turn:Wd->Wd
 |.leaf t n=>.leaf (!t) n
 |.node e l r=>.node (!e) l.turn r.turn
def Wd.depth:Wd->Nat
 |.leaf _ _=>1
 |.node _ l r=>max l.depth r.depth+1
def Wd.leaves:Wd->Nat
 |.leaf _ _=>1
 |.node _ l r=>l.leaves+r.leaves
theorem Wd.leaves_pos:∀w:Wd,1<=w.leaves
 |.leaf _ _=>Al _
 |.node _ l r=>by have:=Wd.leaves_pos l;show 1<=l.leaves+r.leaves;exact al6
abbrev EN:=@Wd.leaves_pos
theorem Wd.depth_le:∀w:Wd,w.depth<=w.leaves
 |.leaf _ _=>Al _
 |.node _ l r=>by have:=Wd.depth_le l;have:=Wd.depth_le r;have:=EN l;have:=EN r;show max l.depth r.depth+1<=l.leaves+r.leaves;lia
def rY:Wd->Da
 |.leaf t n=>.tup [.s (.str (kL t)),.s (.str n)]
 |.node e l r=>.tup [.s (.str (kN e)),rY l,rY r]
def fE(x:Str):Prop:=1<=x.length/\x.length<=8/\∀c∈x.cps.toList,97<=c/\c<=122
def Wd.ok:Wd->Prop
 |.leaf _ n=>fE n
 |.node _ l r=>l.ok/\r.ok
theorem Paired.getP{α β:Type}{F:α->β->Prop}:∀{xs:List α} {ys:List β} {i:Nat} {x:α},Paired F xs ys->xs[i]?=some x->∃y,ys[i]?=some y/\F x y
 |_,_,_,_,.nil,h=>by simp at h
 |_,_,0,_,.cons (b:=y) r _,h=>by simp at h;subst h;exact⟨y,rfl,r⟩
 |_,_,i+1,_,.cons _ t,h=>by obtain⟨y,e,q⟩:=Paired.getP (i:=i) t (by simpa using h);exact⟨y,by simpa using e,q⟩
end Words
namespace L2
open PySem PySem.Spec PyProof.Rows
def abm{a b:Addr}{ys:List V}{es:List Da}(I:z9 X pins σ H s)(g:A.units<cLine)(j:dq X.K H a xs)(l:dq X.K H b ys)(px:Paired (k7 X.K H n) xs ds)(py:Paired (k7 X.K H m) ys es)
 (o:∀{x y:V} {d e:Da} {u v:Value},k7 X.K H n x d->k7 X.K H m y e->zv x u->zv y v->SeqAt.EqAt A.in1 s u v (Da.eq d e)):SeqAt.RcNeAt A s (.ref a) (.ref b) (!Da.eqs ds es):=by
 obtain⟨r,J,p,_⟩:=I.tuple j;obtain⟨t,U,ty,_⟩:=I.tuple l;have q:=SeqAt.RcNeAt.tuples p ty g (gw px py J U o);rw[Ar,Ar,<-J.length,<-U.length,px.length,py.length,EG] at q;exact q
def acy{a b:Addr}{ys:List V}{es:List Da}(I:z9 X pins σ H s)(l:A.units<cLine)(p:a9 X.K H a xs)(r:a9 X.K H b ys)(px:Paired (k7 X.K H n) xs ds)(py:Paired (k7 X.K H m) ys es)
 (t:∀{x y:V} {d e:Da} {u v:Value},k7 X.K H n x d->k7 X.K H m y e->zv x u->zv y v->SeqAt.EqAt A.in1 s u v (Da.eq d e)):SeqAt.RcNeAt A s (.ref a) (.ref b) (!Da.eqs ds es):=by
 obtain⟨C,U,o,_⟩:=I.list p;obtain⟨T,j,ty,_⟩:=I.list r;by_cases g:C.toArray.size=T.toArray.size
 ·have q:=SeqAt.RcNeAt.lists (jr o) (jr ty) g l (gw px py U j t);have J:ds.length=es.length:=by rw[<-px.length,<-py.length,U.length,j.length];simpa using g
  have e:=EG ds es;rw[J,Nat.min_self] at e;rw[<-J] at e;rw[Ar,<-U.length,px.length] at q;simp only[beq_self_eq_true,DP] at e;rw[e] at q;exact q
 ·have q:=SeqAt.RcNeAt.lists_lengths (jr o) (jr ty) (by simpa using g) l;have J:ds.length≠es.length:=by rw[<-px.length,<-py.length,U.length,j.length];intro z;exact g (by simpa using z)
  have e:=EG ds es;have f:(ds.length==es.length)=false:=by simpa using J
  rw[f,Dg] at e;rw[<-e];exact q
def uNe(K:Ae)(k:Nat):R2:=λx y H Q=>match x,y with
 |.ref a,.ref b=>∃n m d e,n<=k/\k7 K H n (.ref a) d/\k7 K H m (.ref b) e/\Q (.bl (!Da.eq d e)) H
 |x,y=>agg x y=true/\Q (.bl (!decide (x=y))) H
def ame{k:Nat}(hu:X.A.units+k<cLine):aC X (compareOp .NotEq) (uNe X.K k):=by
 intro J s t H x y v u Q I C T h;cases x with
 |ref a=>
  cases y with
  |ref b=>
   obtain⟨n,m,d,e,hn,l,U,q⟩:=h;cases C;cases T;have k6:∀{k:Bool},k=(!Da.eq d e)->SeqAt.RcNeAt X.A s (.ref a) (.ref b) k->wpAny (model X.prog X.w) X.A (compareOp .NotEq (.ref a) (.ref b)) (EP X J t Q) X.xe s:=λ{k} e' r=>
    r X.prog X.w X.xe (EP X J t Q) (by rw[e'];exact⟨.bl _,H,I,rfl,q⟩)
   cases n with
   |zero=>exact(jc l.2).elim
   |succ n=>
    cases m with
    |zero=>exact(jc U.2).elim
    |succ m=>
     have o:X.A.in1.units+n<cLine:=by show X.A.units+1+n<cLine;lia
     rcases l with⟨_,f⟩|⟨a',xs,ds,e1,rfl,p,px⟩|⟨a',xs,ds,e1,rfl,p,px⟩
     ·exact(jc f).elim
     ·cases e1;rcases U with⟨_,f⟩|⟨b',ys,es,g,rfl,j,py⟩|⟨b',ys,es,g,rfl,j,py⟩
      ·exact(jc f).elim
      ·cases g;exact k6 rfl (abm I (by lia) p j px py λl U r1 r2=>jS I n o l U r1 r2)
      ·cases g;obtain⟨us,vx,tx,_⟩:=I.tuple p;obtain⟨vs,vy,ty,_⟩:=I.list j;exact k6 rfl (.tuple_list tx (jr ty) (by lia))
     ·cases e1;rcases U with⟨_,f⟩|⟨b',ys,es,g,rfl,j,py⟩|⟨b',ys,es,g,rfl,j,py⟩
      ·exact(jc f).elim
      ·cases g;obtain⟨us,vx,tx,_⟩:=I.list p;obtain⟨vs,vy,ty,_⟩:=I.tuple j;exact k6 rfl (.list_tuple (jr tx) ty (by lia))
      ·cases g;exact k6 rfl (acy I (by lia) p j px py λl U r1 r2=>jS I n o l U r1 r2)
  |_=>exact aiz J s t H _ _ v u Q I C T h
 |_=>cases y<;>exact aiz J s t H _ _ v u Q I C T h
def qW:bootBuiltins "max"=some (.builtin "max"):=by decide +kernel
def gt:bootBuiltins "bool"=some (.type "bool"):=by decide +kernel
end L2
namespace Words
open PySem L2
def Wd.size:Wd->Nat
 |.leaf _ _=>1
 |.node _ l r=>1+l.size+r.size
theorem Wd.size_eq:∀w:Wd,w.size+1=2*w.leaves
 |.leaf _ _=>rfl
 |.node _ l r=>by have:=Wd.size_eq l;have:=Wd.size_eq r;show 1+l.size+r.size+1=2*(l.leaves+r.leaves);lia
end Words
namespace L2
open PySem PySem.Spec PyProof.Rows
section
variable {a:Addr}{tr:Option Addr}
end
section
variable {a b T:Addr}{tr:Option Addr}{E1:X1}
end
section
variable {k:Nat}{sp:Sp}{E1:X1}{p:Pos}{t:TA}
end
section
variable {a T:Addr}{tr:Option Addr}
end
section
variable {a T:Addr}
end
open PySem PySem.Spec PyProof.Rows PySem.W
open Builtin.ObjectAttr in
section
variable {w:World}{K:Frag}{a:Addr}
open Builtin Builtin.ObjectAttr Builtin.Getset_descriptor in
end
def ane(K:Ae)(H:Hp)(a C:Addr):Prop:=∃I,H a=some (.frz I (.own 0))/\I.cls=.ref C
def qN(H:Hp)(P:Addr)(q:Str):Prop:=∃ps,H P=some (.tbl ps)/\TriplesOk ps.toList/\∀pos I,codeAmong pos ps.toList=some I->∃J oc vs t,I=.ref J/\H J=some (.frz oc (.own 0))/\oc.data=.fields vs/\vs[1]?=some (.str q t)
def qN.keep{P:Addr}(h:qN H P q)(e:H' P=H P)(t:∀b o u,H b=some (.frz o u)->H' b=some (.frz o u)):qN H' P q:=by obtain⟨I,J,U,g⟩:=h;refine⟨I,e.trans J,U,λpos j z=>?_⟩;obtain⟨l,p,r,C,T,e2,e3⟩:=g pos j z;exact⟨l,p,r,C,T,t _ _ _ e2,e3⟩
end L2
namespace L3
open PySem L2
inductive Y where
 |non|bl (b:Bool)|int (i:Int)|str (x:Str)|ref (a:Addr)|ty (n:String)|cd (kvs:List (Str×Str))|tup (ys:List Y)|sq (ys:List Y)
inductive LO where
 |lst (ys:List Y)|dct (kvs:List (jp×Y))|ins (C:Addr) (fs:List (Str×Y))|exc (C:Addr)|tb (q:Str)
abbrev qm:=Addr->Option LO
def qe(L:qm)(a:Addr)(o:LO):qm:=λb=>if b=a then some o else L b
def q9{L:qm}{a:Addr}{o:LO}:qe L a o a=some o:=by unfold qe;rw[Aw rfl]
def qb{L:qm}{a b:Addr}{o:LO}(h:b≠a):qe L a o b=L b:=by unfold qe;rw[As h]
def jz{L:qm}{a:Addr}{o u:LO}:qe (qe L a o) a u=qe L a u:=by funext b;unfold qe;split<;>rfl
def xn{L:qm}{a b:Addr}{o:LO}(h:L a=some o)(h':L b=none):a≠b:=by intro e;subst e;rw[h] at h';cases h'
def aex{L:qm}{a b:Addr}{o u:LO}(h:L a=some o)(h':L b=some u)(d:o≠u):a≠b:=by intro e;subst e;rw[h] at h';exact d (AW h')
structure G3 where
 K:Ae
 P:Program
 w:World
abbrev _root_.L2.Cx.g3(X:Cx):G3:=⟨X.K,X.prog,X.w⟩
def SqF(K:Ae)(H:Hp)(a:Addr)(xs:List V):Prop:=(∃o,H a=some (.frz o (.lst xs)))\/
 ∃(o:Obj) (eH:Array Value) (n:Nat),K.lookup a=some o/\o.cls=.type "list" /\ o.dict=none/\o.data=.seq eH n/\eH.size<=sizeLine/\zq xs eH.toList
def SqF.sq{K:Ae}{a:Addr}(h:SqF K H a xs):a9 K H a xs:=by
 rcases h with⟨o,h⟩|h
 ·exact .inl (.inr ⟨o,h⟩)
 ·exact .inr h
mutual
def RV(G:G3)(H:Hp):Y->V->Prop
 |.non,v=>v=.non
 |.bl b,v=>v=.bl b
 |.int i,v=>v=.int i
 |.str x,v=>v=.str x
 |.ref a,v=>v=.ref a
 |.ty n,v=>v=.ty n
 |.cd kvs,v=>∃a,v=.ref a/\KD G.K G.P G.w a (kvs.map λp=>(Sum.inr p.1,V.str p.2))
 |.tup ys,v=>∃a xs,v=.ref a/\dq G.K H a xs/\ve G H ys xs
 |.sq ys,v=>∃a xs,v=.ref a/\SqF G.K H a xs/\ve G H ys xs
def ve(G:G3)(H:Hp):List Y->List V->Prop
 |[],xs=>xs=[]
 |y::ys,xs=>∃x I,xs=x::I/\RV G H y x/\ve G H ys I
end
def Imm:HO->Bool
 |.tup _=>true
 |.frz _ _=>true
 |_=>false
def je(H H':Hp):Prop:=∀a u,Imm u=true->H a=some u->H' a=some u
def je.refl(H:Hp):je H H:=λ_ _ _ h=>h
abbrev ED:=@je.refl
def je.trans{H1 H2:Hp}(a:je H H1)(b:je H1 H2):je H H2:=λc u i h=>b c u i (a c u i h)
def je.new{p:Addr}{o:HO}(h:H p=none):je H (upd H p o):=λ_ _ _ q=>by rw[qt (jd q h)];exact q
abbrev EE:=@je.new
def je.lst{p:Addr}{o:HO}(h:H p=some (.lst zs)):je H (upd H p o):=λa u i q=>by rw[qt ?_];exact q;rintro rfl;rw[h] at q;cases q;cases i
abbrev EO:=@je.lst
def dq.ts{K:Ae}{a:Addr}(h:dq K H a xs)(t:je H H'):dq K H' a xs:=by
 rcases h with(h|⟨o,h⟩)|h
 ·exact .inl (.inl (t _ _ rfl h))
 ·exact .inl (.inr ⟨o,t _ _ rfl h⟩)
 ·exact .inr h
def SqF.ts{K:Ae}{a:Addr}(h:SqF K H a xs)(t:je H H'):SqF K H' a xs:=by
 rcases h with⟨o,h⟩|h
 ·exact .inl ⟨o,t _ _ rfl h⟩
 ·exact .inr h
mutual
theorem RV.ts{G:G3}{H H':Hp}(t:je H H'):∀{y:Y} {v:V},RV G H y v->RV G H' y v
 |.non,_,h=>h
 |.bl _,_,h=>h
 |.int _,_,h=>h
 |.str _,_,h=>h
 |.ref _,_,h=>h
 |.ty _,_,h=>h
 |.cd _,_,h=>h
 |.tup _,_,⟨a,I,e,s,r⟩=>⟨a,I,e,dq.ts s t,ve.ts t r⟩
 |.sq _,_,⟨a,I,e,s,r⟩=>⟨a,I,e,s.ts t,ve.ts t r⟩
theorem ve.ts{G:G3}{H H':Hp}(t:je H H'):∀{ys:List Y} {xs:List V},ve G H ys xs->ve G H' ys xs
 |[],_,h=>h
 |_::_,_,⟨x,I,e,r,s⟩=>⟨x,I,e,RV.ts t r,ve.ts t s⟩
end
theorem ve.length{G:G3}{H:Hp}:∀{ys:List Y} {xs:List V},ve G H ys xs->ys.length=xs.length
 |[],_,h=>by cases h;rfl
 |_::_,_,⟨x,I,e,_,s⟩=>by subst e;simp[ve.length s]
theorem ve.get{G:G3}{H:Hp}:∀{ys:List Y} {xs:List V} {i:Nat} {y:Y},ve G H ys xs->ys[i]?=some y->∃x,xs[i]?=some x/\RV G H y x
 |[],_,_,_,_,h=>by simp at h
 |_::_,_,0,_,⟨x,I,e,r,_⟩,h=>by subst e;simp at h;subst h;exact⟨x,rfl,r⟩
 |_::_,_,i+1,_,⟨x,I,e,_,s⟩,h=>by subst e;obtain⟨J,q,r⟩:=ve.get (i:=i) s (by simpa using h);exact⟨J,by simpa using q,r⟩
theorem ve.app{G:G3}{H:Hp}:∀{ys zs:List Y} {xs us:List V},ve G H ys xs->ve G H zs us->ve G H (ys++zs) (xs++us)
 |[],_,_,_,h,q=>by cases h;exact q
 |_::_,_,_,_,⟨x,I,e,r,s⟩,q=>by subst e;exact⟨x,I++_,rfl,r,ve.app s q⟩
def ve.one{G:G3}{y:Y}{x:V}(r:RV G H y x):ve G H [y] [x]:=⟨x,[],rfl,r,rfl⟩
theorem ve.take{G:G3}{H:Hp}:∀{ys:List Y} {xs:List V} (n:Nat),ve G H ys xs->ve G H (ys.take n) (xs.take n)
 |[],_,n,h=>by cases h;simp[ve]
 |_::_,_,0,_=>by simp[ve]
 |_::_,_,n+1,⟨x,I,e,r,s⟩=>by subst e;exact⟨x,I.take n,rfl,r,ve.take n s⟩
theorem ve.drop{G:G3}{H:Hp}:∀{ys:List Y} {xs:List V} (n:Nat),ve G H ys xs->ve G H (ys.drop n) (xs.drop n)
 |[],_,n,h=>by cases h;simp[ve]
 |_::_,_,0,h=>h
 |_::_,_,n+1,⟨x,I,e,r,s⟩=>by subst e;exact ve.drop n s
theorem ve.setY{G:G3}{H:Hp}{y:Y}{x:V}(r:RV G H y x):∀{ys:List Y} {xs:List V} (i:Nat),ve G H ys xs->ve G H (ys.set i y) (xs.set i x)
 |[],_,_,h=>by cases h;simp[ve]
 |_::_,_,0,⟨J,I,e,_,s⟩=>by subst e;exact⟨x,I,rfl,r,s⟩
 |_::_,_,i+1,⟨J,I,e,q,s⟩=>by subst e;exact⟨J,I.set i x,rfl,q,ve.setY r i s⟩
def ve.dropLast{G:G3}{ys:List Y}(h:ve G H ys xs):ve G H ys.dropLast xs.dropLast:=by rw[List.dropLast_eq_take,List.dropLast_eq_take,h.length];exact h.take _
theorem ve.eraseIdx{G:G3}{H:Hp}:∀{ys:List Y} {xs:List V} (n:Nat),ve G H ys xs->ve G H (ys.eraseIdx n) (xs.eraseIdx n)
 |[],_,n,h=>by cases h;simp[ve]
 |_::_,_,0,⟨x,I,e,r,s⟩=>by subst e;exact s
 |_::_,_,n+1,⟨x,I,e,r,s⟩=>by subst e;exact⟨x,I.eraseIdx n,rfl,r,ve.eraseIdx n s⟩
def RO(G:G3)(H:Hp)(a:Addr):LO->Prop
 |.lst ys=>∃xs,H a=some (.lst xs)/\ve G H ys xs
 |.dct kvs=>∃xs,H a=some (.dK xs)/\Paired (λ(p:jp×Y) (q:jp×V)=>p.1=q.1/\RV G H p.2 q.2) kvs xs
 |.ins C fs=>∃dx xs,H a=some (.ins C dx xs)/\Paired (λ(p:Str×Y) (q:Str×V)=>p.1=q.1/\RV G H p.2 q.2) fs xs
 |.exc C=>ane G.K H a C
 |.tb q=>qN H a q
def jb(G:G3)(H:Hp)(L:qm):Prop:=∀a o,L a=some o->RO G H a o
theorem RO.ex{G:G3}{a:Addr}:∀{o:LO},RO G H a o->∃u,H a=some u
 |.lst _,⟨_,h,_⟩=>⟨_,h⟩
 |.dct _,⟨_,h,_⟩=>⟨_,h⟩
 |.ins _ _,⟨_,_,h,_⟩=>⟨_,h⟩
 |.exc _,⟨_,h,_⟩=>⟨_,h⟩
 |.tb _,⟨_,h,_⟩=>⟨_,h⟩
theorem jb.none{G:G3}{L:qm}(h:jb G H L){p:Addr}(hp:H p=none):L p=none:=by cases e:L p with|none=>rfl|some o=>obtain⟨u,q⟩:=(h p o e).ex;rw[hp] at q;cases q
theorem RO.keep{G:G3}(t:je H H'){a:Addr}(e:H' a=H a):∀{o:LO},RO G H a o->RO G H' a o
 |.lst _,⟨I,h,r⟩=>⟨I,e.trans h,r.ts t⟩
 |.dct _,⟨I,h,r⟩=>⟨I,e.trans h,EH r λ_ _ ⟨a,b⟩=>⟨a,b.ts t⟩⟩
 |.ins _ _,⟨J,I,h,r⟩=>⟨J,I,e.trans h,EH r λ_ _ ⟨a,b⟩=>⟨a,b.ts t⟩⟩
 |.exc _,⟨o,h,c⟩=>⟨o,e.trans h,c⟩
 |.tb _,h=>qN.keep h e λb o u z=>t b _ rfl z
def jb.skip{G:G3}{L:qm}(h:jb G H L){p:Addr}{o:HO}(hp:H p=.none):jb G (upd H p o) L:=λa u e=>by obtain⟨x,q⟩:=(h a u e).ex;exact(h a u e).keep (EE hp) (qt (jd q hp))
def jb.newL{G:G3}{L:qm}(h:jb G H L){p:Addr}{ys:List Y}(hp:H p=.none)(r:ve G H ys xs):jb G (upd H p (.lst xs)) (qe L p (.lst ys)):=λa u e=>by
 by_cases c:a=p
 ·subst c;rw[q9] at e;cases e;exact⟨xs,j8,r.ts (EE hp)⟩
 ·rw[qb c] at e;exact(h a u e).keep (EE hp) (qt c)
def jb.setL{G:G3}{L:qm}(h:jb G H L){p:Addr}{ys:List Y}(hp:H p=some (.lst zs))(r:ve G H ys xs):jb G (upd H p (.lst xs)) (qe L p (.lst ys)):=λa u e=>by
 by_cases c:a=p
 ·subst c;rw[q9] at e;cases e;exact⟨xs,j8,r.ts (EO hp)⟩
 ·rw[qb c] at e;exact(h a u e).keep (EO hp) (qt c)
def qj(L L':qm):Prop:=∀a o,L a=some o->L' a=some o
def qj.refl(L:qm):qj L L:=λ_ _ h=>h
abbrev EC:=@qj.refl
def qj.trans{L L1 L2:qm}(a:qj L L1)(b:qj L1 L2):qj L L2:=λc o h=>b c o (a c o h)
def qj.new{L:qm}{p:Addr}{o:LO}(h:L p=none):qj L (qe L p o):=λa u e=>by rw[qb (xn e h)];exact e
abbrev By:=@qj.new
def jb.sub{G:G3}{L L':qm}(h:jb G H L')(s:qj L L'):jb G H L:=λa o e=>h a o (s a o e)
abbrev jy:=List (Option Y)
structure vn(G:G3)(H:Hp)(σ:St)(τ:jy):Prop where
 len:σ.length=τ.length
 get:∀(i:Nat) y,τ[i]?=some (some y)->∃v,σ[i]?=some (some v)/\RV G H y v
theorem vn.ts{G:G3}{τ:jy}(h:vn G H σ τ)(t:je H H'):vn G H' σ τ:=
 ⟨h.len,λi y e=>let ⟨v,a,b⟩:=h.get i y e;⟨v,a,b.ts t⟩⟩
def vn.set{G:G3}{τ:jy}(h:vn G H σ τ){y:Y}(r:RV G H y v):vn G H (σ.set i (some v)) (τ.set i (some y)):=by
 refine⟨by simp[h.len],λj z e=>?_⟩;by_cases c:i=j
 ·subst c;have I:i<τ.length:=by
   by_cases q:i<τ.length
   ·exact q
   ·rw[CA (by simp;omega)] at e;cases e
  rw[B3 I] at e;cases e;exact⟨v,B3 (by rw[h.len];exact I),r⟩
 ·rw[Br c] at e ⊢;exact h.get j z e
def vn.more{G:G3}{τ:jy}(h:vn G H σ τ)(n:Nat):vn G H (σ++List.replicate n none) (τ++List.replicate n none):=by
 refine⟨by simp[h.len],λj z e=>?_⟩;by_cases c:j<τ.length
 ·rw[AB c] at e;rw[AB (by rw[h.len];exact c)];exact h.get j z e
 ·rw[Am (by omega),Cr] at e;split at e<;>cases e
def vE:jy->Nat->Option Y
 |[],_=>none
 |o::_,0=>o
 |_::r,i+1=>vE r i
theorem qO:∀(τ:jy) (i:Nat) {y:Y},vE τ i=some y->τ[i]?=some (some y)
 |[],_,_,h=>by cases h
 |o::_,0,_,h=>by simp[vE] at h;simp[h]
 |_::r,i+1,_,h=>by simp only[C3];exact qO r i h
abbrev YK:=Y->qm->Prop
abbrev xx:=jy->qm->YK->Prop
abbrev hX:=jy->qm->(Bool->qm->Prop)->Prop
abbrev fC:=jy->qm->(List Y->qm->Prop)->Prop
structure ke where
 nx:jy->qm->Prop
 rt:YK
 bk:jy->qm->Prop:=λ_ _=>False
 ct:jy->qm->Prop:=λ_ _=>False
abbrev ww:=ke->jy->qm->Prop
abbrev jH:=Y->jy->qm->(jy->qm->Prop)->Prop
abbrev t9:=List Y->jy->qm->(jy->qm->Prop)->Prop
abbrev TI3:=jy->qm->(List Y->(qm->Prop)->qm->Prop)->Prop
abbrev pW:=Y->Y->qm->YK->Prop
def s9(G:G3)(H:Hp)(I:YK)(Q:VK):Prop:=∀v H' y L',je H H'->jb G H' L'->RV G H' y v->I y L'->Q v H'
def zI(G:G3)(H:Hp)(I:Bool->qm->Prop)(Q:Bool->Hp->Prop):Prop:=∀b H' L',je H H'->jb G H' L'->I b L'->Q b H'
def aor(G:G3)(H:Hp)(I:List Y->qm->Prop)(Q:List V->Hp->Prop):Prop:=∀vs H' ys L',je H H'->jb G H' L'->ve G H' ys vs->I ys L'->Q vs H'
def pH(G:G3)(H:Hp)(I:jy->qm->Prop)(Q:St->Hp->Prop):Prop:=∀σ H' τ L',je H H'->vn G H' σ τ->jb G H' L'->I τ L'->Q σ H'
def s9.ts{G:G3}{I:YK}{Q:VK}(h:s9 G H I Q)(t:je H H'):s9 G H' I Q:=λv J y U g=>h v J y U (t.trans g)
def zI.ts{G:G3}{I:Bool->qm->Prop}{Q:Bool->Hp->Prop}(h:zI G H I Q)(t:je H H'):zI G H' I Q:=λv J U g=>h v J U (t.trans g)
def pH.ts{G:G3}{I:jy->qm->Prop}{Q:St->Hp->Prop}(h:pH G H I Q)(t:je H H'):pH G H' I Q:=λv J y U g=>h v J y U (t.trans g)
structure ab0(G:G3)(H:Hp)(D3:ke)(D:wM):Prop where
 nx:pH G H D3.nx D.nx
 rt:s9 G H D3.rt D.rt
 bk:pH G H D3.bk D.bk
 ct:pH G H D3.ct D.ct
theorem ab0.ts{G:G3}{D3:ke}{D:wM}(h:ab0 G H D3 D)(t:je H H'):ab0 G H' D3 D:=⟨h.nx.ts t,h.rt.ts t,h.bk.ts t,h.ct.ts t⟩
def sF(G:G3)(t:xx):TE:=λσ H Q=>∃τ L I,vn G H σ τ/\jb G H L/\t τ L I/\s9 G H I Q
def upT(G:G3)(t:hX):TT:=λσ H Q=>∃τ L I,vn G H σ τ/\jb G H L/\t τ L I/\zI G H I Q
def upA(G:G3)(t:fC):TA:=λσ H Q=>∃τ L I,vn G H σ τ/\jb G H L/\t τ L I/\aor G H I Q
def upS(G:G3)(t:ww):L2.TS:=λD σ H=>∃τ L D3,vn G H σ τ/\jb G H L/\t D3 τ L/\ab0 G H D3 D
def upG(G:G3)(g:jH):TG:=λv σ H Q=>∃y τ L I,RV G H y v/\vn G H σ τ/\jb G H L/\g y τ L I/\pH G H I Q
def asc(G:G3)(g:t9):TGs:=λvs σ H Q=>∃ys τ L I,ve G H ys vs/\vn G H σ τ/\jb G H L/\g ys τ L I/\pH G H I Q
structure gM(G:G3)(H₀:Hp)(J:It)(ys:List Y)(keep:qm->Prop):Prop where
 go:∀i H L,je H₀ H->jb G H L->keep L->i<ys.length->J.go i H
 yld:∀i H L x H' y,je H₀ H->jb G H L->keep L->ys[i]?=some y->J.yld i H x H'->je H H'/\jb G H' L/\RV G H' y x
 stop:∀H L,je H₀ H->jb G H L->keep L->J.stop ys.length H
def upI(G:G3)(wi:TI3):TI:=λσ H R=>∃τ L I,vn G H σ τ/\jb G H L/\wi τ L I/\∀J H' ys keep L',je H H'->jb G H' L'->gM G H' J ys keep->I ys keep L'->R J H'
def iO(G:G3)(U:pW):R2:=λx y H Q=>∃x3 I L J,RV G H x3 x/\RV G H I y/\jb G H L/\U x3 I L J/\s9 G H J Q
def upL(G:G3)(J:List Y->qm->YK->Prop):List V->Hp->VK->Prop:=λxs H Q=>∃ys L I,ve G H ys xs/\jb G H L/\J ys L I/\s9 G H I Q
def upU(G:G3)(J:Y->qm->YK->Prop):V->Hp->VK->Prop:=λx H Q=>∃y L I,RV G H y x/\jb G H L/\J y L I/\s9 G H I Q
def PE.imp{t u:TE}(h:PE X e t)(q:∀σ H Q,u σ H Q->t σ H Q):PE X e u:=λJ s σ H Q I z=>h J s σ H Q I (q σ H Q z)
abbrev ER:=@PE.imp
def PE.imq{G:G3}{t:TE}{u:xx}(h:PE X e t)(q:∀σ H Q τ L I,vn G H σ τ->jb G H L->u τ L I->s9 G H I Q->t σ H Q):PE X e (sF G u):=ER h λσ H Q ⟨τ,L,I,a,b,c,d⟩=>q σ H Q τ L I a b c d
abbrev EF:=@PE.imq
def PT.imp{t u:TT}(h:PT X e t)(q:∀σ H Q,u σ H Q->t σ H Q):PT X e u:=λJ s σ H Q I z=>h J s σ H Q I (q σ H Q z)
def PT.imq{G:G3}{t:TT}{u:hX}(h:PT X e t)(q:∀σ H Q τ L I,vn G H σ τ->jb G H L->u τ L I->zI G H I Q->t σ H Q):PT X e (upT G u):=PT.imp h λσ H Q ⟨τ,L,I,a,b,c,d⟩=>q σ H Q τ L I a b c d
def PW.imp{t u:TT}(h:PW X e t)(q:∀σ H Q,u σ H Q->t σ H Q):PW X e u:=λU J s σ H Q I z=>h U J s σ H Q I (q σ H Q z)
def PW.imq{G:G3}{t:TT}{u:hX}(h:PW X e t)(q:∀σ H Q τ L I,vn G H σ τ->jb G H L->u τ L I->zI G H I Q->t σ H Q):PW X e (upT G u):=PW.imp h λσ H Q ⟨τ,L,I,a,b,c,d⟩=>q σ H Q τ L I a b c d
def PA.imp{e:List Expr}{t u:TA}(h:PA X e t)(q:∀σ H Q,u σ H Q->t σ H Q):PA X e u:=λpos J s σ H Q I z=>h pos J s σ H Q I (q σ H Q z)
def PA.imq{G:G3}{e:List Expr}{t:TA}{u:fC}(h:PA X e t)(q:∀σ H Q τ L I,vn G H σ τ->jb G H L->u τ L I->aor G H I Q->t σ H Q):PA X e (upA G u):=PA.imp h λσ H Q ⟨τ,L,I,a,b,c,d⟩=>q σ H Q τ L I a b c d
def PS.imp{e:Stmt}{t u:L2.TS}(h:PS X e t)(q:∀D σ H,u D σ H->t D σ H):PS X e u:=λJ s σ H Q I z=>h J s σ H Q I (q _ σ H z)
def PS.imq{G:G3}{e:Stmt}{t:L2.TS}{u:ww}(h:PS X e t)(q:∀D σ H τ L D3,vn G H σ τ->jb G H L->u D3 τ L->ab0 G H D3 D->t D σ H):PS X e (upS G u):=PS.imp h λD σ H ⟨τ,L,D3,a,b,c,d⟩=>q D σ H τ L D3 a b c d
abbrev EK:=@PS.imq
def lJ.imp{e:List Stmt}{t u:L2.TS}(h:lJ X e t)(q:∀D σ H,u D σ H->t D σ H):lJ X e u:=λJ s σ H Q I z=>h J s σ H Q I (q _ σ H z)
def lJ.imq{G:G3}{e:List Stmt}{t:L2.TS}{u:ww}(h:lJ X e t)(q:∀D σ H τ L D3,vn G H σ τ->jb G H L->u D3 τ L->ab0 G H D3 D->t D σ H):lJ X e (upS G u):=lJ.imp h λD σ H ⟨τ,L,D3,a,b,c,d⟩=>q D σ H τ L D3 a b c d
def PF.imp{e:List Expr}{t u:TT}(h:PF X e t)(q:∀σ H Q,u σ H Q->t σ H Q):PF X e u:=λJ s σ H Q I z=>h J s σ H Q I (q σ H Q z)
end L3
variable {g:L3.jH}{y:L3.Y}{D:L3.ke}{tA tc:L3.hX}{ta tb te to:L3.xx}{kvs:List (L2.jp×L3.Y)}{ys:List L3.Y}{L L' L0 L1:L3.qm}{G:L3.G3}{τ:L3.jy}{gs:L3.t9}{tr:L3.fC}
namespace L3
open PySem L2
def xt(b:Bool)(A B:Prop):Prop:=match b with
 |true=>A
 |false=>B
def ain{b:Bool}{A B:Prop}(h:b=true->A)(k:b=false->B):xt b A B:=by cases b with|true=>exact h rfl|false=>exact k rfl
def ap{b:Bool}{A B:Prop}(e:b=true)(h:A):xt b A B:=by rw[e];exact h
def aF{b:Bool}{A B:Prop}(e:b=false)(h:B):xt b A B:=by rw[e];exact h
def zo{p:Prop} [Decidable p]{A B:Prop}(h:p->A)(k:¬p->B):xt (decide p) A B:=by
 by_cases c:p
 ·rw[Ao c];exact h c
 ·rw[Aq c];exact k c
def yE{p:Prop} [Decidable p]{A B:Prop}(c:¬p)(h:B):xt (decide p) A B:=by rw[Aq c];exact h
def nb(neg b:Bool):Bool:=match neg with
 |true=>!b
 |false=>b
def qa(i:Nat)(τ:jy)(L:qm)(Q:YK):Prop:=match vE τ i with
 |some y=>Q y L
 |none=>False
def yC(y:Y)(_:jy)(L:qm)(Q:YK):Prop:=Q y L
def zj(r:pW)(ta tb:xx)(τ:jy)(L:qm)(Q:YK):Prop:=ta τ L λx L1=>tb τ L1 λy L2=>r x y L2 Q
def yUn(r:Y->qm->YK->Prop)(ta:xx)(τ:jy)(L:qm)(Q:YK):Prop:=ta τ L λx L1=>r x L1 Q
def yI(C:Int->Int->Prop)(g:Int->Int->Y)(x y:Y)(L:qm)(Q:YK):Prop:=match x,y with
 |.int i,.int j=>C i j/\Q (g i j) L
 |_,_=>False
def yI0(g:Int->Int->Y)(x y:Y)(L:qm)(Q:YK):Prop:=match x,y with
 |.int i,.int j=>Q (g i j) L
 |_,_=>False
def anz(x:Y)(L:qm)(Q:YK):Prop:=match x with
 |.int i=>Q (.int (-i)) L
 |_=>False
def cj(L:qm):Y->Option (List Y)
 |.tup ys=>some ys
 |.sq ys=>some ys
 |.ref a=>match L a with
  |some (.lst ys)=>some ys
  |_=>none
 |_=>none
@[irreducible] def dr (L:qm) (a:Addr) (k:List Y->Prop):Prop:=match L a with
 |some (.lst ys)=>k ys
 |_=>False
def vq{a:Addr}{k:List Y->Prop}(h:dr L a k):∃ys,L a=some (.lst ys)/\k ys:=by
 unfold dr at h;split at h
 ·rename_i ys e;exact⟨ys,e,h⟩
 ·exact h.elim
def qo{a:Addr}{k:List Y->Prop}(e:L a=some (.lst ys))(h:k ys):dr L a k:=by unfold dr;rw[e];exact h
def jN(L:qm)(x:Y)(k:List Y->Prop):Prop:=match x with
 |.tup ys=>k ys
 |.sq ys=>k ys
 |.ref a=>dr L a k
 |_=>False
def w4{a:Addr}(h:L a=some (.lst ys)):cj L (.ref a)=some ys:=by show(match L a with|some (.lst ys)=>some ys|_=>none)=some ys;rw[h]
def ai{x:Y}{k:List Y->Prop}(h:jN L x k):∃ys,cj L x=some ys/\k ys:=by
 cases x with
 |tup ys=>exact⟨ys,rfl,h⟩
 |sq ys=>exact⟨ys,rfl,h⟩
 |ref a=>obtain⟨ys,e,q⟩:=vq h;exact⟨ys,w4 e,q⟩
 |_=>exact h.elim
def jG{a:Addr}(h:cj L (.ref a)=some ys):L a=some (.lst ys):=by
 have I:(match L a with|some (.lst ys)=>some ys|_=>none)=some ys:=h;split at I
 ·rename_i e;cases I;exact e
 ·cases I
def aic{x:Y}{k:List Y->Prop}(e:cj L x=some ys)(h:k ys):jN L x k:=by cases x with|tup I=>cases e;exact h|sq I=>cases e;exact h|ref a=>exact qo (jG e) h|_=>cases e
def qd{a:Addr}{k:List Y->Prop}(e:L a=some (.lst ys))(h:k ys):jN L (.ref a) k:=aic (w4 e) h
def kz(x y:Y)(L:qm)(Q:YK):Prop:=match x,y with
 |.int i,.int j=>Q (.int (i+j)) L
 |.str a,.str b=>a.length+b.length<=sizeLine/\Q (.str (a++b)) L
 |.ref a,.ref b=>∃ys zs,L a=some (.lst ys)/\L b=some (.lst zs)/\ys.length+zs.length<=sizeLine/\∀p,L p=none->Q (.ref p) (qe L p (.lst (ys++zs)))
 |_,_=>False
def yc(L:qm)(Q:α->qm->Prop):Option α->Prop
 |some v=>Q v L
 |none=>False
def aE(kvs:List (jp×Y))(k:jp):Option Y:=(kvs.find? λp=>decide (p.1=k)).map (·.2)
@[irreducible] def u0 (L:qm) (a:Addr) (k:List (jp×Y)->Prop):Prop:=match L a with
 |some (.dct kvs)=>k kvs
 |_=>False
def gn{a:Addr}{k:List (jp×Y)->Prop}(h:u0 L a k):∃kvs,L a=some (.dct kvs)/\k kvs:=by
 unfold u0 at h;split at h
 ·rename_i I e;exact⟨I,e,h⟩
 ·exact h.elim
def zu{a:Addr}{k:List (jp×Y)->Prop}(e:L a=some (.dct kvs))(h:k kvs):u0 L a k:=by unfold u0;rw[e];exact h
def aR(x y:Y)(L:qm)(Q:YK):Prop:=match x,y with
 |.str z,.int i=>z.length<=sizeLine/\yc L (λc L=>Q (.str ⟨#[c]⟩) L) (eG z.cps.toList i)
 |.cd kvs,.str k=>yc L (λs L=>Q (.str s) L) (kvs.lookup k)
 |.ref a,.str k=>u0 L a λkvs=>yc L Q (aE kvs (.inr k))
 |x,.int i=>jN L x λys=>yc L Q (eG ys i)
 |_,_=>False
def du(xs:List Y)(L:qm)(Q:YK):Prop:=match xs with
 |[.str z]=>z.length<=sizeLine/\Q (.int z.length) L
 |[x]=>jN L x λys=>Q (.int ys.length) L
 |_=>False
def uP(xs:List Y)(L:qm)(Q:YK):Prop:=match xs with
 |[.int i,.int j]=>Q (.int (max i j)) L
 |_=>False
def uA(xs:List Y)(L:qm)(Q:YK):Prop:=match xs with
 |[.int i,.int j]=>Q (.int (min i j)) L
 |_=>False
inductive kD where
 |non|bool|int|str|tuple|list|dict
def kD.nm:kD->String
 |.non => "NoneType"
 |.bool => "bool"
 |.int => "int"
 |.str => "str"
 |.tuple => "tuple"
 |.list => "list"
 |.dict => "dict"
def tyY(L:qm):Y->Option kD
 |.non=>some .non
 |.bl _=>some .bool
 |.int _=>some .int
 |.str _=>some .str
 |.tup _=>some .tuple
 |.sq _=>some .list
 |.ref a=>match L a with
  |some (.lst _)=>some .list
  |some (.dct _)=>some .dict
  |_=>none
 |_=>none
def tyL{a:Addr}(h:L a=some (.lst ys)):tyY L (.ref a)=some .list:=by show(match L a with|some (.lst _)=>some kD.list|some (.dct _)=>some .dict|_=>none)=some .list;rw[h]
def cO:kD->kD->Bool
 |.bool,.int=>true
 |.bool,.bool=>true
 |.int,.int=>true
 |.str,.str=>true
 |.tuple,.tuple=>true
 |.list,.list=>true
 |.dict,.dict=>true
 |.non,.non=>true
 |_,_=>false
@[irreducible] def tyK (L:qm) (a:Addr) (k:kD->Prop):Prop:=match tyY L (.ref a) with
 |some T=>k T
 |none=>False
def agp{a:Addr}{k:kD->Prop}(h:tyK L a k):∃T,tyY L (.ref a)=some T/\k T:=by
 unfold tyK at h;split at h
 ·rename_i T e;exact⟨T,e,h⟩
 ·exact h.elim
def cD{a:Addr}{k:kD->Prop}(e:L a=some (.lst ys))(h:k .list):tyK L a k:=by unfold tyK;rw[tyL e];exact h
def amb(L:qm)(x:Y)(k:kD->Prop):Prop:=match x with
 |.non=>k .non
 |.bl _=>k .bool
 |.int _=>k .int
 |.str _=>k .str
 |.tup _=>k .tuple
 |.sq _=>k .list
 |.ref a=>tyK L a k
 |_=>False
def sg{x:Y}{k:kD->Prop}(h:amb L x k):∃T,tyY L x=some T/\k T:=by cases x with|ref a=>exact agp h|ty n=>exact h.elim|cd k=>exact h.elim|_=>exact⟨_,rfl,h⟩
def aQ(S:kD)(te:xx)(τ:jy)(L:qm)(Q:YK):Prop:=te τ L λx L1=>amb L1 x λT=>Q (.bl (cO T S)) L1
def uI(S I:kD)(te:xx)(τ:jy)(L:qm)(Q:YK):Prop:=te τ L λx L1=>amb L1 x λT=>Q (.bl (cO T S||cO T I)) L1
def gF:Y->Bool
 |.non=>true
 |.bl _=>true
 |.int _=>true
 |.str _=>true
 |_=>false
def gi:Y->V
 |.non=>.non
 |.bl b=>.bl b
 |.int i=>.int i
 |.str x=>.str x
 |_=>.ty "?"
theorem RV.flat :∀{y:Y} {v:V},gF y=true->RV G H y v->v=gi y
 |.non,_,_,h=>h
 |.bl _,_,_,h=>h
 |.int _,_,_,h=>h
 |.str _,_,_,h=>h
theorem gx:∀{y:Y},gF y=true->au (gi y)=true
 |.non,_=>rfl
 |.bl _,_=>rfl
 |.int _,_=>rfl
 |.str _,_=>rfl
theorem ve.flat :∀{ys:List Y} {xs:List V},ys.all gF=true->ve G H ys xs->xs=ys.map gi
 |[],_,_,h=>h
 |y::ys,_,f,⟨x,I,e,r,s⟩=>by rw[DO,AR] at f;rw[e,r.flat f.1,s.flat f.2];rfl
def ajo:Y->Bool
 |.ref _=>true
 |.sq _=>true
 |_=>false
def ju(L:qm):Nat->Y->Da->Prop
 |0,y,d=>gF y=true/\d=.s (gi y)
 |n+1,y,d=>(gF y=true/\d=.s (gi y))\/(∃ys ds,y=.tup ys/\d=.tup ds/\Paired (ju L n) ys ds)\/(∃ys ds,ajo y=true/\d=.lst ds/\cj L y=some ys/\Paired (ju L n) ys ds)
def aaq:Y->Bool
 |.ref _=>true
 |.tup _=>true
 |.sq _=>true
 |_=>false
def mj(neg:Bool)(x y:Y)(L:qm)(Q:YK):Prop:=match x,y with
 |.int i,.int j=>Q (.bl (nb neg (decide (i=j)))) L
 |.str i,.str j=>Q (.bl (nb neg (decide (i=j)))) L
 |.bl i,.bl j=>Q (.bl (nb neg (decide (i=j)))) L
 |x,y=>aaq x=true/\aaq y=true/\∃n m d e,n<=128/\ju L n x d/\ju L m y e/\Q (.bl (nb neg (Da.eq d e))) L
def cR(neg:Bool)(ta:xx)(τ:jy)(L:qm)(Q:YK):Prop:=ta τ L λx L1=>match x with
 |.non=>Q (.bl (!neg)) L1
 |_=>Q (.bl neg) L1
def yB(t:xx)(τ:jy)(L:qm)(Q:Bool->qm->Prop):Prop:=t τ L λx L1=>match x with
 |.bl c=>Q c L1
 |_=>False
def bV(t u:hX)(τ:jy)(L:qm)(Q:Bool->qm->Prop):Prop:=t τ L λc L1=>xt c (u τ L1 Q) (Q false L1)
def u5(t u:hX)(τ:jy)(L:qm)(Q:Bool->qm->Prop):Prop:=t τ L λc L1=>xt c (Q true L1) (u τ L1 Q)
def tZ(t:hX)(τ:jy)(L:qm)(Q:Bool->qm->Prop):Prop:=t τ L λc L1=>Q (!c) L1
def fz(ta tb:xx)(τ:jy)(L:qm)(Q:YK):Prop:=ta τ L λx L1=>match x with
 |.bl c=>xt c (tb τ L1 Q) (Q (.bl false) L1)
 |_=>False
def aj8(ta:xx)(τ:jy)(L:qm)(Q:YK):Prop:=ta τ L λx L1=>match x with
 |.bl c=>Q (.bl (!c)) L1
 |_=>False
def yIf(t:hX)(ta tb:xx)(τ:jy)(L:qm)(Q:YK):Prop:=t τ L λc L1=>xt c (ta τ L1 Q) (tb τ L1 Q)
def qx(_:jy)(L:qm)(Q:List Y->qm->Prop):Prop:=Q [] L
def qf(ta:xx)(tr:fC)(τ:jy)(L:qm)(Q:List Y->qm->Prop):Prop:=ta τ L λx L1=>tr τ L1 λxs L2=>Q (x::xs) L2
def ko(t:fC)(τ:jy)(L:qm)(Q:YK):Prop:=t τ L λys L1=>match Nat.ble ys.length 1000 with
 |true=>Q (.tup ys) L1
 |false=>False
def kc(t:fC)(τ:jy)(L:qm)(Q:YK):Prop:=t τ L λys L1=>match Nat.ble ys.length 1000 with
 |true=>∀p,L1 p=none->Q (.ref p) (qe L1 p (.lst ys))
 |false=>False
def cY(r:List Y->qm->YK->Prop)(t:fC)(τ:jy)(L:qm)(Q:YK):Prop:=t τ L λvs L1=>r vs L1 Q
abbrev TO3:=jy->qm->(Option Int->qm->Prop)->Prop
def fO(_:jy)(L:qm)(Q:Option Int->qm->Prop):Prop:=Q none L
def kK(t:xx)(τ:jy)(L:qm)(Q:Option Int->qm->Prop):Prop:=t τ L λx L1=>match x with
 |.int i=>Q (some i) L1
 |_=>False
def ui(xs:List Y)(lo hi:Option Int):List Y:=(xs.drop (HT.sIx xs.length 0 lo)).take (HT.sIx xs.length xs.length hi-HT.sIx xs.length 0 lo)
def anx(x:Y)(lo hi:Option Int)(L:qm)(Q:YK):Prop:=match x with
 |.ref a=>dr L a λys=>∀p,L p=none->Q (.ref p) (qe L p (.lst (ui ys lo hi)))
 |.sq ys=>∀p,L p=none->Q (.ref p) (qe L p (.lst (ui ys lo hi)))
 |_=>False
def ySl(r:Y->Option Int->Option Int->qm->YK->Prop)(te:xx)(tl th:TO3)(τ:jy)(L:qm)(Q:YK):Prop:=te τ L λx L1=>tl τ L1 λl L2=>th τ L2 λu L3=>r x l u L3 Q
def qr(t u:ww)(D:ke)(τ:jy)(L:qm):Prop:=t { D with nx:=u D } τ L
def jm(D:ke)(τ:jy)(L:qm):Prop:=D.nx τ L
def ajf(D:ke)(τ:jy)(L:qm):Prop:=D.ct τ L
def jw(te:xx)(D:ke)(τ:jy)(L:qm):Prop:=te τ L λ_ L1=>D.nx τ L1
def ji(te:xx)(D:ke)(τ:jy)(L:qm):Prop:=te τ L D.rt
def ad7(D:ke)(_:jy)(L:qm):Prop:=D.rt .non L
def xc(c:hX)(t u:ww)(D:ke)(τ:jy)(L:qm):Prop:=c τ L λb L1=>xt b (t D τ L1) (u D τ L1)
def zr(te:xx)(g:jH)(D:ke)(τ:jy)(L:qm):Prop:=te τ L λx L1=>g x τ L1 D.nx
def bU:jy->Nat->Y->jy
 |[],_,_=>[]
 |_::r,0,y=>some y::r
 |o::r,i+1,y=>o::bU r i y
theorem aH:∀(τ:jy) (i:Nat) (y:Y),bU τ i y=τ.set i (some y)
 |[],_,_=>rfl
 |_::_,0,_=>rfl
 |o::r,i+1,y=>by rw[bU,aH r i y];rfl
def qg(i:Nat)(y:Y)(τ:jy)(L:qm)(Q:jy->qm->Prop):Prop:=Q (bU τ i y) L
def wf(ys:List Y)(τ:jy)(L:qm)(Q:jy->qm->Prop):Prop:=match ys with
 |[]=>Q τ L
 |_=>False
def zn(t:jH)(u:t9)(ys:List Y)(τ:jy)(L:qm)(Q:jy->qm->Prop):Prop:=match ys with
 |[]=>False
 |y::r=>t y τ L λI L'=>u r I L' Q
def aD(n:Nat)(t:t9)(y:Y)(τ:jy)(L:qm)(Q:jy->qm->Prop):Prop:=match y with
 |.tup ys=>match ys.length==n with
  |true=>t ys τ L Q
  |false=>False
 |_=>False
def aej(i j:Nat)(ta:fC)(D:ke)(τ:jy)(L:qm):Prop:=ta τ L λvs L1=>match vs with
 |[v,w]=>D.nx (bU (bU τ i v) j w) L1
 |_=>False
def dz(W:α->qm->Prop)(x:α)(L:qm):Prop:=∃L',qj L' L/\W x L'
def frg{W:α->qm->Prop}{x:α}(h:W x L):dz W x L:=⟨L,EC L,h⟩
def i5(c:hX)(tb:ww)(D:ke)(τ:jy)(L:qm):Prop:=∃W:Nat->jy->qm->Prop,(∃m,W m τ L)/\∀m τ L,W m τ L->
 c τ L λb L1=>xt b (∃N:jy->qm->Prop,(∀I L',N I L'->∃J,J<m/\W J I L')/\tb { D with nx:=dz N,ct:=dz N,bk:=D.nx } τ L1) (D.nx τ L1)
@[irreducible] def uV (ys:List Y) (keep:qm->Prop) (g:jH) (tb:ww) (D:ke) (τ:jy) (L1:qm):Prop:=∃W:Nat->jy->qm->Prop,W 0 τ L1/\(∀i τ L,W i τ L->keep L)/\
 (∀i y τ L,ys[i]?=some y->W i τ L->g y τ L λI L2=>tb { D with nx:=dz (W (i+1)),ct:=dz (W (i+1)),bk:=D.nx } I L2)/\∀τ L,W ys.length τ L->D.nx τ L
def wm{keep:qm->Prop}{tb:ww}(h:∃W:Nat->jy->qm->Prop,W 0 τ L1/\(∀i τ L,W i τ L->keep L)/\
 (∀i y τ L,ys[i]?=some y->W i τ L->g y τ L λI L2=>tb { D with nx:=dz (W (i+1)),ct:=dz (W (i+1)),bk:=D.nx } I L2)/\∀τ L,W ys.length τ L->D.nx τ L):uV ys keep g tb D τ L1:=by unfold uV;exact h
def af6{keep:qm->Prop}{tb:ww}(h:uV ys keep g tb D τ L1):∃W:Nat->jy->qm->Prop,W 0 τ L1/\(∀i τ L,W i τ L->keep L)/\
 (∀i y τ L,ys[i]?=some y->W i τ L->g y τ L λI L2=>tb { D with nx:=dz (W (i+1)),ct:=dz (W (i+1)),bk:=D.nx } I L2)/\∀τ L,W ys.length τ L->D.nx τ L:=by unfold uV at h;exact h
def dP(wi:TI3)(g:jH)(tb:ww)(D:ke)(τ:jy)(L:qm):Prop:=wi τ L λys keep L1=>uV ys keep g tb D τ L1
@[irreducible] def sm (L:qm) (a:Addr) (R:List Y->(qm->Prop)->qm->Prop):Prop:=match L a with
 |some (.lst ys)=>R ys (λL=>L a=some (.lst ys)) L
 |_=>False
def x4{a:Addr}{R:List Y->(qm->Prop)->qm->Prop}(h:L a=some (.lst ys))(q:∀keep:qm->Prop,(∀L',L' a=L a->keep L')->R ys keep L):sm L a R:=by unfold sm;rw[h];exact q _ λL' I=>I.trans h
def uN{a:Addr}{R:List Y->(qm->Prop)->qm->Prop}(h:sm L a R):∃ys keep,cj L (.ref a)=some ys/\keep L/\(∀L',keep L'->cj L' (.ref a)=some ys)/\R ys keep L:=by
 unfold sm at h;split at h
 ·rename_i ys e;exact⟨ys,_,w4 e,e,λL' I=>w4 I,h⟩
 ·exact h.elim
def xm(tl:xx)(τ:jy)(L:qm)(R:List Y->(qm->Prop)->qm->Prop):Prop:=tl τ L λx L1=>match x with
 |.ref a=>sm L1 a R
 |.sq ys=>R ys (λ_=>True) L1
 |_=>False
def adq(tl:xx)(τ:jy)(L:qm)(R:List Y->(qm->Prop)->qm->Prop):Prop:=tl τ L λx L1=>match x with
 |.tup ys=>R ys (λ_=>True) L1
 |_=>False
def aX(lo:Int)(n:Nat):List Y:=(List.range n).map λk=>.int (lo+(k:Nat))
def ij(ta:fC)(τ:jy)(L:qm)(R:List Y->(qm->Prop)->qm->Prop):Prop:=ta τ L λvs L1=>match vs with
 |[.int j]=>(-(2 ^ 62)<=j/\j<2 ^ 62)/\R (aX 0 j.toNat) (λ_=>True) L1
 |_=>False
def xG(_:jy)(L:qm)(Q:Bool->qm->Prop):Prop:=Q true L
@[irreducible] def yJ (ys:List Y) (keep:qm->Prop) (n:Nat) (g:jH) (tc:hX) (te:xx) (τ:jy) (L1:qm) (Q:YK):Prop:=ys.length<sizeLine/\∃W:Nat->List Y->qm->Prop,W 0 [] L1/\(∀i zs L,W i zs L->keep L)/\
 (∀i y zs L,ys[i]?=some y->W i zs L->g y (τ++List.replicate n none) L λI L2=>tc I L2 λb L3=>xt b (te I L3 λz J=>dz (W (i+1)) (zs++[z]) J) (dz (W (i+1)) zs L3))/\
 ∀zs L,W ys.length zs L->∀p,L p=none->Q (.ref p) (qe L p (.lst zs))
def xF{keep:qm->Prop}{Q:YK}(h:ys.length<sizeLine/\∃W:Nat->List Y->qm->Prop,W 0 [] L1/\(∀i zs L,W i zs L->keep L)/\
 (∀i y zs L,ys[i]?=some y->W i zs L->g y (τ++List.replicate n none) L λI L2=>tc I L2 λb L3=>xt b (te I L3 λz J=>dz (W (i+1)) (zs++[z]) J) (dz (W (i+1)) zs L3))/\
 ∀zs L,W ys.length zs L->∀p,L p=none->Q (.ref p) (qe L p (.lst zs))):yJ ys keep n g tc te τ L1 Q:=by unfold yJ;exact h
def agu{keep:qm->Prop}{Q:YK}(h:yJ ys keep n g tc te τ L1 Q):ys.length<sizeLine/\∃W:Nat->List Y->qm->Prop,W 0 [] L1/\(∀i zs L,W i zs L->keep L)/\
 (∀i y zs L,ys[i]?=some y->W i zs L->g y (τ++List.replicate n none) L λI L2=>tc I L2 λb L3=>xt b (te I L3 λz J=>dz (W (i+1)) (zs++[z]) J) (dz (W (i+1)) zs L3))/\
 ∀zs L,W ys.length zs L->∀p,L p=none->Q (.ref p) (qe L p (.lst zs)):=by unfold yJ at h;exact h
def mC(n:Nat)(wi:TI3)(g:jH)(tc:hX)(te:xx)(τ:jy)(L:qm)(Q:YK):Prop:=wi τ L λys keep L1=>yJ ys keep n g tc te τ L1 Q
abbrev jx:=List Y->qm->YK->Prop
def zd(sp:jx)(t:fC)(τ:jy)(L:qm)(Q:YK):Prop:=t τ L λys L1=>sp ys L1 Q
def j5(x:Y)(vs:List Y)(L:qm)(Q:YK):Prop:=match x,vs with
 |.ref a,[v]=>dr L a λys=>ys.length<sizeLine/\Q .non (qe L a (.lst (ys++[v])))
 |_,_=>False
def bZ(x:Y)(vs:List Y)(L:qm)(Q:YK):Prop:=match x,vs with
 |.ref a,[.ref b]=>dr L a λys=>dr L b λzs=>ys.length+zs.length<=sizeLine/\Q .non (qe L a (.lst (ys++zs)))
 |_,_=>False
def aay(x:Y)(vs:List Y)(L:qm)(Q:YK):Prop:=match x,vs with
 |.ref a,[]=>dr L a λys=>yc L (λv L=>Q v (qe L a (.lst ys.dropLast))) (ys[ys.length-1]?)
 |_,_=>False
end L3
variable {sp:L3.jx}
namespace L3
open PySem L2
def aC.imp{f:Value->Value->Sem Value}{r U:R2}(h:aC X f r)(q:∀x y H Q,U x y H Q->r x y H Q):aC X f U:=λJ s g H x y v u Q I j l z=>h J s g H x y v u Q I j l (q x y H Q z)
def aC.imq{f:Value->Value->Sem Value}{r:R2}{u:pW}(h:aC X f r)(q:∀x y H Q x3 I L J,RV G H x3 x->RV G H I y->jb G H L->u x3 I L J->s9 G H J Q->r x y H Q):aC X f (iO G u):=aC.imp h λx y H Q ⟨x3,I,L,J,a,b,c,d,e⟩=>q x y H Q x3 I L J a b c d e
abbrev ES:=@aC.imq
def UnR.imp{f:Value->Sem Value}{r U:V->Hp->VK->Prop}(h:UnR X f r)(q:∀x H Q,U x H Q->r x H Q):UnR X f U:=λJ s g H x v Q I j z=>h J s g H x v Q I j (q x H Q z)
def xi.imp{f:Value}{r U:List V->Hp->VK->Prop}(h:xi X f r)(q:∀x H Q,U x H Q->r x H Q):xi X f U:=λJ s g H x v Q I j z=>h J s g H x v Q I j (q x H Q z)
def xi.imq{f:Value}{r:List V->Hp->VK->Prop}{u:List Y->qm->YK->Prop}(h:xi X f r)(q:∀xs H Q ys L I,ve G H ys xs->jb G H L->u ys L I->s9 G H I Q->r xs H Q):xi X f (upL G u):=xi.imp h λxs H Q ⟨ys,L,I,a,b,c,d⟩=>q xs H Q ys L I a b c d
def IxR.imp{r U:R2}(h:IxR X r)(q:∀x y H Q,U x y H Q->r x y H Q):IxR X U:=λvalue slice J s g H x y v u Q I j l z=>h value slice J s g H x y v u Q I j l (q x y H Q z)
def iy.imp{id:String}{r U:V->List V->Hp->VK->Prop}(h:iy X id r)(q:∀x xs H Q,U x xs H Q->r x xs H Q):iy X id U:=λJ s g H x xs v j Q I l o z=>h J s g H x xs v j Q I l o (q x xs H Q z)
def qT(U:jb G H L)(r:RV G H y v)(h:cj L y=some ys):∃p xs,v=.ref p/\(a9 G.K H p xs\/dq G.K H p xs)/\ve G H ys xs:=by
 cases y with
 |tup J=>
  obtain⟨a,xs,e,s,q⟩:=r;cases h;exact⟨a,xs,e,.inr s,q⟩
 |sq J=>
  obtain⟨a,xs,e,s,q⟩:=r;cases h;exact⟨a,xs,e,.inl s.sq,q⟩
 |ref a=>
  cases (show v=.ref a from r);have I:(match L a with|some (.lst ys)=>some ys|_=>none)=some ys:=h;split at I
  ·rename_i J e;cases I;obtain⟨xs,g,q⟩:=U a _ e;exact⟨a,xs,rfl,.inl (EU g),q⟩
  ·cases I
 |_=>cases h
def ake{i:Int}(s:ve G H ys xs)(h:eG ys i=some y):∃x,eG xs i=some x/\RV G H y x:=by
 unfold eG at h ⊢;rw[<-s.length];cases e:ixN ys.length i with
 |none=>rw[e] at h;cases h
 |some j=>
  rw[e] at h;exact s.get (i:=j) h
section
variable {a b:Expr}{tc:xx}
abbrev QE(X:Cx)(e:Expr)(t:xx):Prop:=PE X e (sF X.g3 t)
abbrev QT(X:Cx)(e:Expr)(t:hX):Prop:=PT X e (upT X.g3 t)
abbrev QW(X:Cx)(e:Expr)(t:hX):Prop:=PW X e (upT X.g3 t)
abbrev QA(X:Cx)(es:List Expr)(t:fC):Prop:=PA X es (upA X.g3 t)
abbrev QS(X:Cx)(st:Stmt)(t:ww):Prop:=PS X st (upS X.g3 t)
abbrev uv(X:Cx)(st:List Stmt)(t:ww):Prop:=lJ X st (upS X.g3 t)
abbrev QG(X:Cx)(e:Expr)(g:jH):Prop:=PG X e (upG X.g3 g)
abbrev QGs(X:Cx)(es:List Expr)(g:t9):Prop:=PGs X es (asc X.g3 g)
abbrev QI(X:Cx)(tg it:Expr)(w:TI3):Prop:=PI X tg it (upI X.g3 w)
abbrev QF(X:Cx)(es:List Expr)(t:hX):Prop:=PF X es (upT X.g3 t)
def QE.of_var(h:PE X e (al1 i)):QE X e (qa i):=EF h λj H Q l L o I J z k=>by
 unfold qa at z;split at z
 ·rename_i y U;obtain⟨v,ev,g⟩:=I.get i y (qO _ _ U);exact⟨v,ev,k v H y L (ED _) J g z⟩
 ·exact z.elim
def QE.of_c(h:PE X e (tC v))(q:∀H,RV X.g3 H y v):QE X e (yC y):=EF h λJ H Q U L g j I z k=>k v H y L (ED _) I (q H) z
def qv(i:Nat)(hN:X.N[i]?=some x:=by rfl)(J:Vis X.env.scope x:=by first|exact Or.inl rfl|exact Or.inr (Or.inl rfl)|exact Or.inr (Or.inr rfl))(hd:Ew x:=by decide)
 (I:Ex x:=by decide):QE X (.Name x pos) (qa i):=QE.of_var (pv i hN J hd I)
def bP :QE X (.Constant .none j pos) (yC .non):=QE.of_c als λ_=>rfl
def gD{b:Bool} :QE X (.Constant (.bool b) j pos) (yC (.bl b)):=QE.of_c aoo λ_=>rfl
def qk{i:Int} :QE X (.Constant (.int i) j pos) (yC (.int i)):=QE.of_c al9 λ_=>rfl
def ja :QE X (.Constant (.str x) j pos) (yC (.str x)):=QE.of_c df λ_=>rfl
def apf{c:Addr}(I:Gl X x)(J:X.mg x=some (.ref c))(q:∀H,RV X.g3 H y (.ref c))(hd:Ew x:=by decide):QE X (.Name x pos) (yC y):=QE.of_c (ap8 I J hd) q
def yk{r:pW}(σ:St)(H:Hp)(Q:VK):sF G (zj r ta tb) σ H Q->tOp (iO G r) (sF G ta) (sF G tb) σ H Q:=λ⟨j,L,t,l,C,z,k⟩=>
 ⟨j,L,_,l,C,z,λv H1 y T o I J z1=>⟨j,T,_,l.ts o,I,z1,λv2 H2 y2 L2 p U g z2=>⟨y,y2,L2,t,J.ts p,g,U,z2,k.ts (o.trans p)⟩⟩⟩
def qp{op:Operator}{r:pW}(h:aC X (binaryOp op) (iO X.g3 r))(I:QE X a ta)(J:QE X b tb):QE X (.BinOp a op b pos) (zj r ta tb):=ER (anw h I J) yk
def ao8{r:pW}(h:IxR X (iO X.g3 r))(I:QE X a ta)(J:QE X b tb)(hp:rW b):QE X (.Subscript a b pos) (zj r ta tb):=ER (aoh h I J hp) yk
def aJ{op:CmpOp}{r:pW}(h:aC X (compareOp op) (iO X.g3 r))(I:QE X a ta)(J:QE X b tb)(U:behindInMarks op b=false):QE X (.Compare a [op] [b] pos) (zj r ta tb):=ER (agi h I J U) yk
def alt{t:xx}(σ:St)(H:Hp)(Q:Bool->Hp->Prop):upT G (yB t) σ H Q->adz (sF G t) σ H Q:=λ⟨g,L,C,j,l,z,k⟩=>
 ⟨g,L,_,j,l,z,λv o y p r I J U=>by cases y with|bl b=>exact⟨b,J,k b o p r I U⟩|_=>exact U.elim⟩
def aiy{t:xx}(σ:St)(H:Hp)(Q:Bool->Hp->Prop):upT G (yB t) σ H Q->L2.tB (sF G t) σ H Q:=alt σ H Q
def x0{op:CmpOp}{r:pW}(h:aC X (compareOp op) (iO X.g3 r))(J:QE X a ta)(U:QE X b tb)(g:behindInMarks op b=false):QT X (.Compare a [op] [b] pos) (yB (zj r ta tb)):=
 PT.imp (ahk h J U g) λI H Q q=>by have j:=alt I H Q q;obtain⟨l,L,o,p,t,z,k⟩:=j;exact yk I H _ ⟨l,L,o,p,t,z,k⟩
def we(h:QE X e te)(I:∀whole,isTrue e X.env whole=(do let v <-whole;standAt e.pos;holding [v] (truthy v)):=by intro _;rfl):QT X e (yB te):=PT.imp (alm h I) aiy
def OpI{f:Value->Value->Sem Value}{C:Int->Int->Prop}{g:Int->Int->V}{g3:Int->Int->Y}(h:aC X f (rI C g))(e:∀i j H,RV X.g3 H (g3 i j) (g i j)):aC X f (iO X.g3 (yI C g3)):=ES h λx y H Q J I L p U l o z k=>by
 cases J with
 |int i=>
  cases I with|int j=>exact⟨i,j,U,l,z.1,k _ H _ L (ED _) o (e i j H) z.2⟩|_=>exact z.elim
 |_=>cases I<;>exact z.elim
def amv{f:Value->Value->Sem Value}{g:Int->Int->V}{g3:Int->Int->Y}(h:aC X f (rI0 g))(e:∀i j H,RV X.g3 H (g3 i j) (g i j)):aC X f (iO X.g3 (yI0 g3)):=ES h λx y H Q J I L p U l o z k=>by
 cases J with
 |int i=>
  cases I with|int j=>exact⟨i,j,U,l,k _ H _ L (ED _) o (e i j H) z⟩|_=>exact z.elim
 |_=>cases I<;>exact z.elim
def bz:aC X (binaryOp .Sub) (iO X.g3 (yI0 λi j=>.int (i-j))):=amv aku λ_ _ _=>rfl
def qH:aC X (binaryOp .Mult) (iO X.g3 (yI acj λi j=>.int (i*j))):=OpI amz λ_ _ _=>rfl
def aO:aC X (binaryOp .FloorDiv) (iO X.g3 (yI ala λi j=>.int (i / j))):=OpI ah5 λ_ _ _=>rfl
def xq:aC X (binaryOp .Mod) (iO X.g3 (yI (λ_ j=>0<j) λi j=>.int (i % j))):=OpI akl λ_ _ _=>rfl
def aph:aC X (binaryOp .Pow) (iO X.g3 (yI am7 λi j=>.int (i ^ j.toNat))):=OpI al8 λ_ _ _=>rfl
def oq:aC X (compareOp .Lt) (iO X.g3 (yI0 λi j=>.bl (decide (i<j)))):=amv ap9 λ_ _ _=>rfl
def ago:aC X (compareOp .Gt) (iO X.g3 (yI0 λi j=>.bl (decide (j<i)))):=amv apn λ_ _ _=>rfl
def xg:aC X (binaryOp .Add) (iO X.g3 kz):=ES ah8 λx y H Q t J L Q3 U g I z k=>by
 cases t with
 |int i=>
  cases J with|int j=>cases U;cases g;exact k _ H _ L (ED _) I (by rfl) z|_=>exact z.elim
 |str i=>
  cases J with|str j=>cases U;cases g;exact⟨z.1,k _ H _ L (ED _) I (by rfl) z.2⟩|_=>exact z.elim
 |ref a=>
  cases J with
  |ref b=>
   cases U;cases g;obtain⟨ys,zs,C,T,hz,q⟩:=z;obtain⟨xs,h1,o⟩:=I a _ C;obtain⟨us,h2,r⟩:=I b _ T;refine⟨xs,us,h1,h2,by rw[<-o.length,<-r.length];exact hz,λp l=>?_⟩;exact k _ _ _ _ (EE l) (I.newL l (o.app r)) (by rfl) (q p (I.none l))
  |_=>exact z.elim
 |_=>cases J<;>exact z.elim
def u7{kvs:List (Str×Str)}{k:Str}(h:kvs.lookup k=some x):bX (kvs.map λp=>((Sum.inr p.1:jp),V.str p.2)) (Sum.inr k)=some (V.str x):=by
 induction kvs with
 |nil=>simp at h
 |cons p r I=>
  obtain⟨a,b⟩:=p;unfold bX;rw[AG,BA];rw[Bb] at h;by_cases c:k=a
  ·subst c;simp at h;simp[h]
  ·have c1:(k==a)=false:=by simpa using c
   rw[c1] at h;have c2:decide ((Sum.inr a:jp)=Sum.inr k)=false:=Aq λz=>c (Sum.inr.inj z).symm;simp only[c2];exact I h
def pM{xs:List (jp×V)}{k:jp}(p:Paired (λ(p:jp×Y) (q:jp×V)=>p.1=q.1/\RV G H p.2 q.2) kvs xs)(h:aE kvs k=some y):∃x,bX xs k=some x/\RV G H y x:=by
 induction p with
 |nil=>cases h
 |@cons a b _ _ r t U=>
  obtain⟨I,l⟩:=a;obtain⟨g,j⟩:=b;obtain⟨e,r⟩:=r;cases (show I=g from e);unfold aE at h;unfold bX;rw[BA] at h ⊢;by_cases c:I=k
  ·have J:decide (I=k)=true:=Ao c;simp only[J] at h ⊢;cases h;exact⟨j,rfl,r⟩
  ·have J:decide (I=k)=false:=Aq c;simp only[J] at h ⊢;exact U h
def ap1(K:Ae)(P:Program)(w:World)(hK:X.K=K:=by rfl)(hP:X.prog=P:=by rfl)(hw:X.w=w:=by rfl):IxR X (iO ⟨K,P,w⟩ aR):=by
 subst hK hP hw;refine IxR.imp aqm λx y H Q ⟨x3,j,L,Q3,I,l,o,z,k⟩=>?_;have seq:∀{i:Int} {x3:Y},RV X.g3 H x3 x->y=.int i->(jN L x3 λg=>yc L Q3 (eG g i))->uIx X.K X.prog X.w x y H Q:=by
  intro i x3 I ey z;subst ey;obtain⟨g,es,z⟩:=ai z;obtain⟨p,C,e,sq,rv⟩:=qT o I es;subst e;cases ea:eG g i with
  |none=>rw[ea] at z;exact z.elim
  |some y=>
   rw[ea] at z;obtain⟨x,ex,T⟩:=ake rv ea;exact⟨C,x,sq,ex,k _ H _ L (ED _) o T z⟩
 cases x3 with
 |str s=>
  cases j with
  |int i=>
   cases I;cases l;obtain⟨z1,r⟩:=z;cases ea:eG s.cps.toList i with
   |none=>rw[ea] at r;exact r.elim
   |some c=>rw[ea] at r;exact⟨z1,c,ea,k _ H _ L (ED _) o (by rfl) r⟩
  |_=>exact z.elim
 |cd J=>
  cases j with
  |str s=>
   obtain⟨a,ea,kd⟩:=I;cases ea;cases l;have U:yc L (λs L=>Q3 (.str s) L) (J.lookup s):=z;cases el:J.lookup s with
   |none=>rw[el] at U;exact U.elim
   |some t=>rw[el] at U;exact⟨_,_,.inr kd,u7 el,k _ H _ L (ED _) o (by rfl) U⟩
  |int i=>exact z.elim
  |_=>exact z.elim
 |ref a=>
  cases j with
  |int i=>exact seq (x3:=.ref a) I l z
  |str s=>
   cases I;cases l;obtain⟨J,e,U⟩:=gn z;obtain⟨C,e2,pr⟩:=o a _ e;cases ev:aE J (Sum.inr s) with
   |none=>rw[ev] at U;exact U.elim
   |some y=>
    rw[ev] at U;obtain⟨x,ex,I⟩:=pM pr ev;exact⟨C,x,.inl (.inl e2),ex,k _ H _ L (ED _) o I U⟩
  |_=>exact z.elim
 |tup g=>
  cases j with|int i=>exact seq (x3:=.tup g) I l z|_=>exact z.elim
 |sq g=>
  cases j with|int i=>exact seq (x3:=.sq g) I l z|_=>exact z.elim
 |_=>cases j<;>exact z.elim
def ve.inv1(h:ve G H [y] xs):∃x,xs=[x]/\RV G H y x:=by obtain⟨x,I,e,r,s⟩:=h;cases (show I=[] from s);exact⟨x,e,r⟩
def ve.inv2{J:Y}(h:ve G H [y,J] xs):∃x I,xs=[x,I]/\RV G H y x/\RV G H J I:=by obtain⟨x,U,e,r,s⟩:=h;obtain⟨I,g,j⟩:=s.inv1;exact⟨x,I,by rw[e,g],r,j⟩
def aka(K:Ae)(P:Program)(w:World)(g:X.K=K:=by rfl)(j:X.prog=P:=by rfl)(hw:X.w=w:=by rfl):xi X (.builtin "len") (upL ⟨K,P,w⟩ du):=by
 subst g j hw;refine xi.imq ab7 λC H Q l L T U I z k=>?_;unfold du at z;split at z
 ·obtain⟨x,rfl,r⟩:=U.inv1;cases r;exact⟨z.1,k _ H _ L (ED _) I (by rfl) z.2⟩
 ·rename_i y _;obtain⟨x,rfl,r⟩:=U.inv1;obtain⟨l,o,z⟩:=ai z;obtain⟨p,t,e,sq,J⟩:=qT I r o;subst e;refine⟨t,sq,?_⟩;rw[<-J.length];exact k _ H _ L (ED _) I (by rfl) z
 ·exact z.elim
def am9(i j:Int):(if j > i then j else i)=max i j:=by split<;>lia
def amg(i j:Int):(if j<i then j else i)=min i j:=by split<;>lia
def yh(hc:X.calm=true:=by rfl):xi X (.builtin "max") (upL X.g3 uP):=xi.imq (ab1 hc) λl H Q o L p I J z k=>by
 unfold uP at z;split at z
 ·rename_i i j;obtain⟨x,r,rfl,U,g⟩:=I.inv2;cases U;cases g;refine⟨i,j,rfl,?_⟩;rw[am9];exact k _ H _ L (ED _) J (by rfl) z
 ·exact z.elim
def yV(hc:X.calm=true:=by rfl):xi X (.builtin "min") (upL X.g3 uA):=xi.imq (aam hc) λl H Q o L p I J z k=>by
 unfold uA at z;split at z
 ·rename_i i j;obtain⟨x,r,rfl,U,g⟩:=I.inv2;cases U;cases g;refine⟨i,j,rfl,?_⟩;rw[amg];exact k _ H _ L (ED _) J (by rfl) z
 ·exact z.elim
def anp:UnR X (unaryOp .USub) (upU X.g3 anz):=UnR.imp akj λx H Q ⟨y,L,U,I,J,z,k⟩=>by cases y with|int i=>exact⟨i,I,k _ H _ L (ED _) J (by rfl) z⟩|_=>exact z.elim
def ano{op:UnaryOp}{r:Y->qm->YK->Prop}(h:UnR X (unaryOp op) (upU X.g3 r))(U:QE X a ta):QE X (.UnaryOp op a pos) (yUn r ta):=EF (aoe h U) λT H Q g L j l o z k=>
 ⟨g,L,_,l,o,z,λv H1 y p t I J C=>⟨y,p,j,J,I,C,k.ts t⟩⟩
end
section
variable {a b:Expr}{tc:xx}
def eJ{a:Addr}(J:jb G H L)(h:cj L (.ref a)=some ys):∃xs,a9 G.K H a xs/\ve G H ys xs:=by
 have I:(match L a with|some (.lst ys)=>some ys|_=>none)=some ys:=h;split at I
 ·rename_i e;cases I;obtain⟨xs,U,q⟩:=J a _ e;exact⟨xs,EU U,q⟩
 ·cases I
def aab(I:jb G H L)(r:RV G H y v)(J:ajo y=true)(h:cj L y=some ys):∃a xs,v=.ref a/\a9 G.K H a xs/\ve G H ys xs:=by
 cases y with
 |ref a=>obtain⟨xs,s,q⟩:=eJ I h;exact⟨a,xs,r,s,q⟩
 |sq U=>obtain⟨a,xs,e,s,q⟩:=r;cases h;exact⟨a,xs,e,s.sq,q⟩
 |_=>cases J
def abk{G:G3}{T:kD}{σ:L2.St}(I:z9 X pins σ H s)(rl:jb X.g3 H L)(r:RV X.g3 H y v)(J:zv v u)(h:tyY L y=some T)
 {c:Value} {b:Bool} (e:PySem.W.kitOne X.K (.type T.nm) c=some b) (U:∀tk,Q (.bool b) { s with toks:=tk }):
 wpAny (model X.prog X.w) A (call (.builtin "isinstance") [u,c]) Q E s:=by
 cases y with
 |non=>cases h;cases r;exact bB I J .non e U
 |bl b=>cases h;cases r;exact bB I J (.bl _) e U
 |int i=>cases h;cases r;exact bB I J (.int _) e U
 |str x=>cases h;cases r;exact bB I J (.str _) e U
 |tup ys=>
  cases h;obtain⟨a,j,rfl,sq,_⟩:=r;cases (show u=Value.ref a from J);obtain⟨l,_,⟨o,p,t,_⟩,_⟩:=I.tuple sq;exact Bt DA I.kIn ⟨o,p,t⟩ e (λz=>nomatch z) U
 |sq ys=>
  cases h;obtain⟨a,j,rfl,sq,_⟩:=r;cases (show u=Value.ref a from J);obtain⟨l,_,⟨o,n,p,t,_⟩,_⟩:=I.list sq.sq;exact Bt CC I.kIn ⟨o,p,t⟩ e (λz=>nomatch z) U
 |ref a=>
  cases (show v=.ref a from r);have g:(match L a with|some (.lst _)=>some kD.list|some (.dct _)=>some .dict|_=>none)=some T:=h;split at g
  ·rename_i ys C;cases g;obtain⟨j,e2,_⟩:=rl a _ C;exact bB I J (.lst e2) e U
  ·rename_i a0 C;cases g;obtain⟨j,e2,_⟩:=rl a _ C;exact bB I J (.dK e2) e U
  ·cases g
 |_=>cases h
def rX(K:Ae):∀T S:kD,PySem.W.kitOne K (.type T.nm) (.type S.nm)=some (cO T S):=by intro T S;cases T<;>cases S<;>rfl
def akt(G:G3)(S:kD):List V->Hp->VK->Prop:=λxs H Q=>∃y v L I T,xs=[v,.ty S.nm]/\RV G H y v/\jb G H L/\tyY L y=some T/\I (.bl (cO T S)) L/\s9 G H I Q
def amk(S:kD):xi X (.builtin "isinstance") (akt X.g3 S):=by intro J s o H p t Q I r h;obtain⟨y,v,L,C,T,rfl,g,U,ty,q,k⟩:=h;obtain⟨u,c,rfl,j,l⟩:=zq.two r;cases (show c=Value.type S.nm from l);exact xj I.tk (abk (G:=X.g3) I U g j ty (rX _ T S) λtk ht=>⟨.bl _,H,I.tok _,rfl,k _ H _ L (ED _) U (by rfl) q⟩)
def va{p:Pos}{I:Str}(S:kD)(r:Gl X "isinstance")(t:X.mg "isinstance"=none)(J:Gl X I)(U:X.mg I=none)(g:bootBuiltins I=some (.type S.nm))(C:QE X a ta)
 (hn:I ≠ "__name__" := by decide) (hd:(I==("__debug__" : Str))=false:=by decide)
 (hs:starEach [a,.Name I p1] X.env=(false,eval a X.env)::starEach [.Name I p1] X.env:=by rfl) (mn:starEach [.Name I p1] X.env=(false,eval (.Name I p1) X.env)::starEach [] X.env:=by rfl)
 (hp:(backTo pos (starEach [.Name I p1] X.env)).any (·.1)=false:=by rfl):
 QE X (.Call (.Name "isinstance" p) [a,.Name I p1] [] pos) (aQ S ta):=by
 refine ER (oE (amk S) r t gH (aa C (aa (adp J U g hn hd) gR mn) hs) (by decide) (by decide) hs hp) ?_;rintro σ H Q ⟨τ,L,Q3,rs,rl,z,k⟩;refine⟨τ,L,_,rs,rl,z,λv H1 y L1 t1 j l o=>?_⟩;obtain⟨T,et,o⟩:=sg o;exact⟨y,v,L1,Q3,T,rfl,l,j,et,o,k.ts t1⟩
def pF(neg:Bool)(x y:Y)(L:qm)(Q:YK):Prop:=jN L y λys=>gF x=true/\ys.all gF=true/\Q (.bl (nb neg (vF (gi x) (ys.map gi)))) L
def aog(neg:Bool){op:CmpOp}(h:aC X (compareOp op) (rIn X.K neg)):aC X (compareOp op) (iO X.g3 (pF neg)):=ES h λx y H Q I t L C g j U z k=>by
 obtain⟨J,l,f1,f2,q⟩:=ai z;obtain⟨p,T,e,sq,o⟩:=qT U j l;rw[g.flat f1];rw[o.flat f2] at sq;refine⟨p,_,e,sq,gx f1,?_,?_⟩
 ·rw[List.all_map,CO];intro y r;exact gx (CO.mp f2 y r)
 ·have:(if neg=true then !vF (gi I) (J.map gi) else vF (gi I) (J.map gi))=(nb neg (vF (gi I) (J.map gi))):=by cases neg<;>simp[nb]
  rw[this];exact k _ H _ L (ED _) U (by rfl) q
def ac3(K:Ae)(P:Program)(w:World)(I:X.K=K:=by rfl)(J:X.prog=P:=by rfl)(hw:X.w=w:=by rfl):aC X (compareOp .In) (iO ⟨K,P,w⟩ (pF false)):=by subst I J hw;exact aog false abd
def xL(K:Ae)(P:Program)(w:World)(I:X.K=K:=by rfl)(J:X.prog=P:=by rfl)(hw:X.w=w:=by rfl):aC X (compareOp .NotIn) (iO ⟨K,P,w⟩ (pF true)):=by subst I J hw;exact aog true rJ
theorem ju.rep{G:G3}{H:Hp}{L:qm}(j:jb G H L):∀{n:Nat} {y:Y} {d:Da} {v:V},ju L n y d->RV G H y v->k7 G.K H n v d
 |0,y,d,v,⟨f,e⟩,r=>by rw[r.flat f];exact⟨e,gx f⟩
 |n+1,y,d,v,h,r=>by
  have both:∀{U:List Y} {J:List Da} {I:List V},Paired (ju L n) U J->ve G H U I->Paired (k7 G.K H n) I J:=by
   intro U J I p
   induction p generalizing I with
   |nil=>intro r;cases (show I=[] from r);exact .nil
   |cons q t l=>
    rintro⟨x,o,rfl,C,T⟩;exact .cons (ju.rep j q C) (l T)
  rcases h with⟨f,e⟩|⟨U,J,rfl,rfl,p⟩|⟨U,J,hy,rfl,es,p⟩
  ·rw[r.flat f];exact .inl ⟨e,gx f⟩
  ·obtain⟨a,I,rfl,sq,g⟩:=r;exact .inr (.inl ⟨a,I,J,rfl,rfl,sq,both p g⟩)
  ·obtain⟨a,I,rfl,sq,g⟩:=aab j r hy es;exact .inr (.inr ⟨a,I,J,rfl,rfl,sq,both p g⟩)
def l0(h:aaq y=true)(r:RV G H y v):∃a,v=.ref a:=by
 cases y with
 |ref a=>exact⟨a,r⟩
 |tup I=>obtain⟨a,J,e,_⟩:=r;exact⟨a,e⟩
 |sq I=>obtain⟨a,J,e,_⟩:=r;exact⟨a,e⟩
 |_=>cases h
theorem eF(K:Ae)(P:Program)(w:World)(g:X.A.units+128<cLine)(l:X.K=K:=by rfl)(o:X.prog=P:=by rfl)(hw:X.w=w:=by rfl):aC X (compareOp .Eq) (iO ⟨K,P,w⟩ (mj false)):=by
 subst l o hw;refine ES (alg g) λx y H Q T y3 L p J U I z k=>?_;unfold mj at z;split at z
 ·rename_i i j;cases J;cases U;refine⟨rfl,?_⟩;have:decide (V.int i=V.int j)=nb false (decide (i=j)):=by rw[Bs];simp[nb]
  rw[this];exact k _ H _ L (ED _) I (by rfl) z
 ·rename_i i j;cases J;cases U;refine⟨rfl,?_⟩;have:decide (V.str i=V.str j)=nb false (decide (i=j)):=by rw[Bs];simp[nb]
  rw[this];exact k _ H _ L (ED _) I (by rfl) z
 ·rename_i i j;cases J;cases U;refine⟨rfl,?_⟩;have:decide (V.bl i=V.bl j)=nb false (decide (i=j)):=by rw[Bs];simp[nb]
  rw[this];exact k _ H _ L (ED _) I (by rfl) z
 ·obtain⟨f1,f2,n,m,d,e,r,t,C,q⟩:=z;obtain⟨a,rfl⟩:=l0 f1 J;obtain⟨b,rfl⟩:=l0 f2 U;have q:p (.bl (Da.eq d e)) L:=q;exact⟨n,m,d,e,r,t.rep I J,C.rep I U,k _ H _ L (ED _) I (by rfl) q⟩
theorem y8(K:Ae)(P:Program)(w:World)(g:X.A.units+128<cLine)(l:X.K=K:=by rfl)(o:X.prog=P:=by rfl)(hw:X.w=w:=by rfl):aC X (compareOp .NotEq) (iO ⟨K,P,w⟩ (mj true)):=by
 subst l o hw;refine ES (ame g) λx y H Q T y3 L p J U I z k=>?_;unfold mj at z;split at z
 ·rename_i i j;cases J;cases U;refine⟨rfl,?_⟩;have:(!decide (V.int i=V.int j))=nb true (decide (i=j)):=by show _=!_;congr 1;rw[Bs];simp
  rw[this];exact k _ H _ L (ED _) I (by rfl) z
 ·rename_i i j;cases J;cases U;refine⟨rfl,?_⟩;have:(!decide (V.str i=V.str j))=nb true (decide (i=j)):=by show _=!_;congr 1;rw[Bs];simp
  rw[this];exact k _ H _ L (ED _) I (by rfl) z
 ·rename_i i j;cases J;cases U;refine⟨rfl,?_⟩;have:(!decide (V.bl i=V.bl j))=nb true (decide (i=j)):=by show _=!_;congr 1;rw[Bs];simp
  rw[this];exact k _ H _ L (ED _) I (by rfl) z
 ·obtain⟨f1,f2,n,m,d,e,r,t,C,q⟩:=z;obtain⟨a,rfl⟩:=l0 f1 J;obtain⟨b,rfl⟩:=l0 f2 U;have q:p (.bl (!Da.eq d e)) L:=q;exact⟨n,m,d,e,r,t.rep I J,C.rep I U,k _ H _ L (ED _) I (by rfl) q⟩
def RV.non_iff(r:RV G H y v):decide (v=.non)=(match y with|.non=>true|_=>false):=by
 cases y with
 |non=>cases r;rfl
 |cd I=>obtain⟨a,rfl,_⟩:=r;rfl
 |tup J=>obtain⟨a,U,rfl,_⟩:=r;rfl
 |sq J=>obtain⟨a,U,rfl,_⟩:=r;rfl
 |_=>cases r;rfl
def adk(σ:L2.St)(H:Hp)(Q:VK):sF G (cR false ta) σ H Q->ani (sF G ta) σ H Q:=λ⟨U,L,t,g,j,z,k⟩=>
 ⟨U,L,_,g,j,z,λv l y o p I J r=>by dsimp only;rw[J.non_iff];cases y<;>exact k _ l _ o p I (by rfl) r⟩
def aik(σ:L2.St)(H:Hp)(Q:VK):sF G (cR true ta) σ H Q->ajt (sF G ta) σ H Q:=λ⟨U,L,t,g,j,z,k⟩=>
 ⟨U,L,_,g,j,z,λv l y o p I J r=>by dsimp only;rw[J.non_iff];cases y<;>exact k _ l _ o p I (by rfl) r⟩
def ak3(h:QE X a ta):QE X (.Compare a [.Is] [.Constant .none j hQ] pos) (cR false ta):=ER (amn (acu h)) adk
def ajs{t:TE}(h:∀σ H Q,sF G te σ H Q->t σ H Q)(σ:L2.St)(H:Hp)(Q:Bool->Hp->Prop):upT G (yB te) σ H Q->L2.tB t σ H Q:=λq=>h σ H _ (aiy σ H Q q)
def i4(h:QE X a ta):QT X (.Compare a [.Is] [.Constant .none j hQ] pos) (yB (cR false ta)):=PT.imp (afh (acu h)) (ajs adk)
def bY(h:QE X a ta):QT X (.Compare a [.IsNot] [.Constant .none j hQ] pos) (yB (cR true ta)):=PT.imp (afh (aii h)) (ajs aik)
end
section
variable {a b:Expr}{rest:List Expr}{tc:xx}{tB:hX}
def vo(h:QT X a tA):QW X (.BoolOp .And [a] pos) tA:=ahi h
def aZ(h:QT X a tA):QW X (.BoolOp .Or [a] pos) tA:=ajy h
def kg(h:QT X a tA)(k:QW X (.BoolOp .And (b::rest) pos) tB):QW X (.BoolOp .And (a::b::rest) pos) (bV tA tB):=PW.imq (amw h k) λt H Q U L o g p z k=>
 ⟨U,L,_,g,p,z,λc r j J I l=>by cases c with|true=>rw[Aw rfl];exact⟨U,j,o,g.ts J,I,l,k.ts J⟩|false=>rw[As AC];exact k _ r j J I l⟩
def aw(h:QT X a tA)(k:QW X (.BoolOp .Or (b::rest) pos) tB):QW X (.BoolOp .Or (a::b::rest) pos) (u5 tA tB):=PW.imq (apm h k) λt H Q U L o g p z k=>
 ⟨U,L,_,g,p,z,λc r j J I l=>by cases c with|true=>rw[Aw rfl];exact k _ r j J I l|false=>rw[As AC];exact⟨U,j,o,g.ts J,I,l,k.ts J⟩⟩
def vf(h:QW X a tA):QT X a tA:=PW.pt h
def gf(h:QT X a tA):QT X (.UnaryOp .Not a pos) (tZ tA):=PT.imq (ak5 h) λr H Q J L t U g z k=>
 ⟨J,L,_,U,g,z,λc j l o I p=>k _ j l o I p⟩
def fF{op:BoolOp}(h:QE X a ta):QE X (.BoolOp op [a] pos) ta:=ak8 h
def da(h:QE X a ta)(k:QE X (.BoolOp .And (b::rest) pos) tb):QE X (.BoolOp .And (a::b::rest) pos) (fz ta tb):=EF (al0 h k) λT H Q U L g o t z k=>
 ⟨U,L,_,o,t,z,λv C y J j I l p=>by
  cases y with
  |bl c=>
   refine⟨c,l,?_⟩;have r:xt c (tb U J g) (g (.bl false) J):=p;cases c with|true=>rw[Aw rfl];exact⟨U,J,g,o.ts j,I,r,k.ts j⟩|false=>rw[As AC];exact k _ C _ J j I (by rfl) r
  |_=>exact p.elim⟩
def ak7(h:QE X a ta):QE X (.UnaryOp .Not a pos) (aj8 ta):=EF (akb h) λt H Q g L C j l z k=>
 ⟨g,L,_,j,l,z,λv o y p r I J U=>by cases y with|bl c=>exact⟨c,J,k _ o _ p r I (by rfl) U⟩|_=>exact U.elim⟩
def fD(h:QT X c tA)(p:QE X a ta)(r:QE X b tb):QE X (.IfExp c a b pos) (yIf tA ta tb):=EF (adn h p r) λC H Q U L j g t z k=>
 ⟨U,L,_,g,t,z,λc T l J I o=>by cases c with|true=>rw[Aw rfl];exact⟨U,l,j,g.ts J,I,o,k.ts J⟩|false=>rw[As AC];exact⟨U,l,j,g.ts J,I,o,k.ts J⟩⟩
def vi:QA X [] qx:=PA.imq gR λJ H Q U L g j I z k=>k _ H _ L (ED _) I (by rfl) z
def v9(h:QE X e te)(t:QA X es tr)(hs:Et e es X:=by rfl):QA X (e::es) (qf te tr):=PA.imq (aa h t hs) λσ H Q j L Q3 l C z k=>
 ⟨j,L,_,l,C,z,λv H1 y T o I J z1=>⟨j,T,_,l.ts o,I,z1,λp H2 ys L2 r U g z2=>k (v::p) H2 (y::ys) L2 (o.trans r) U ⟨v,p,rfl,J.ts r,g⟩ z2⟩⟩
def zp(h:QA X es tr):QE X (.Tuple es x1 pos) (ko tr):=EF (adv h) λσ H Q l L Q3 o r z k=>
 ⟨l,L,_,o,r,z,λt H1 j C T U I J=>by
  cases e:Nat.ble j.length 1000 with
  |false=>rw[e] at J;exact J.elim
  |true=>
   rw[e] at J;have:=Dp e;refine⟨gB (by rw[<-I.length];exact this),λp g=>?_⟩;exact k _ _ (.tup j) C (T.trans (EE g)) (U.skip g) ⟨p,t,rfl,dq.of j8,I.ts (EE g)⟩ J⟩
def j9(h:QA X es tr):QE X (.List es pos) (kc tr):=EF (ak0 h) λC H Q j L T l o z k=>
 ⟨j,L,_,l,o,z,λvs H1 r L1 t I J U=>by
  cases e:Nat.ble r.length 1000 with
  |false=>rw[e] at U;exact U.elim
  |true=>
   rw[e] at U;have:=Dp e;refine⟨gB (by rw[<-J.length];exact this),λp g=>?_⟩;exact k _ _ _ _ (t.trans (EE g)) (I.newL g J) (by rfl) (U p (I.none g))⟩
def vv{p:Pos}{id:String}{r:List Y->qm->YK->Prop}(hc:xi X (.builtin id) (upL X.g3 r))(U:Gl X x)(g:X.mg x=none)(j:bootBuiltins x=some (.builtin id))(h:QA X (e::es) tr)
 (l:x ≠ "__name__" := by decide) (hd:Ew x:=by decide) (hs:Et e es X:=by rfl) (hp:Eu pos es X:=by rfl):
 QE X (.Call (.Name x p) (e::es) [] pos) (cY r tr):=EF (oE hc U g j h l hd hs hp) λσ H Q o L t C T z k=>
 ⟨o,L,_,C,T,z,λvs H1 ys L1 t1 I J z1=>⟨ys,L1,t,J,I,z1,k.ts t1⟩⟩
def upO(G:G3)(t:TO3):TO:=λσ H Q=>∃τ L I,vn G H σ τ/\jb G H L/\t τ L I/\∀(o:Option Int) H' L',je H H'->jb G H' L'->I o L'->Q o H'
abbrev QO(X:Cx)(e:Option Expr)(t:TO3):Prop:=PO X e (upO X.g3 t)
def PO.imp{e:Option Expr}{t u:TO}(h:PO X e t)(q:∀σ H Q,u σ H Q->t σ H Q):PO X e u:=λJ s σ H Q I z=>h J s σ H Q I (q σ H Q z)
def PO.imq{e:Option Expr}{t:TO}{u:TO3}(h:PO X e t)(q:∀σ H Q τ L I,vn G H σ τ->jb G H L->u τ L I->(∀(o:Option Int) H' L',je H H'->jb G H' L'->I o L'->Q o H')->t σ H Q):PO X e (upO G u):=PO.imp h λσ H Q ⟨τ,L,I,a,b,c,d⟩=>q σ H Q τ L I a b c d
def sW.imp{U:V->Option Int->Option Int->Hp->VK->Prop}(h:sW X r)(q:∀x lo hi H Q,U x lo hi H Q->r x lo hi H Q):sW X U:=by intro J s g H x v j l lo hi o Q I p t C T z;exact h J s g H x v j l lo hi o Q I p t C T (q _ _ _ _ _ z)
def iR:QO X none fO:=PO.imq ag5 λJ H Q U L g j I z k=>k _ H L (ED _) I z
def dM(h:QE X e te):QO X (some e) (kK te):=PO.imq (ag8 h) λt H Q g L C j l z k=>
 ⟨g,L,_,j,l,z,λv o y p r I J U=>by cases y with|int i=>exact⟨i,J,k _ o p r I U⟩|_=>exact U.elim⟩
def ai2(G:G3)(r:Y->Option Int->Option Int->qm->YK->Prop):V->Option Int->Option Int->Hp->VK->Prop:=λx lo hi H Q=>∃y L I,RV G H y x/\jb G H L/\r y lo hi L I/\s9 G H I Q
def cT{lo hi:Option Expr}{tl th:TO3}{r:Y->Option Int->Option Int->qm->YK->Prop}(h:sW X (ai2 X.g3 r))(T:QE X a ta)(hl:QO X lo tl)(hh:QO X hi th):QE X (.Subscript a (.Slice lo hi none p2) pos) (ySl r ta tl th):=
 EF (ae4 h T hl hh) λσ H Q I L Q3 J rl z k=>
 ⟨I,L,_,J,rl,z,λv H1 y L1 U g j z1=>⟨I,L1,_,J.ts U,g,z1,λo H2 L2 l p z2=>⟨I,L2,_,J.ts (U.trans l),p,z2,λo' H3 L3 C t z3=>⟨y,L3,Q3,j.ts (l.trans C),t,z3,k.ts (U.trans (l.trans C))⟩⟩⟩⟩
def qP(r:ve G H ys xs)(lo hi:Option Int):ve G H (ui ys lo hi) (si xs lo hi):=by unfold ui si;rw[r.length];exact(r.drop _).take _
def anv(K:Ae)(P:Program)(w:World)(l:X.K=K:=by rfl)(o:X.prog=P:=by rfl)(hw:X.w=w:=by rfl):sW X (ai2 ⟨K,P,w⟩ anx):=by
 subst l o hw;refine sW.imp ah6 λx lo g H Q ⟨y,L,Q3,j,J,z,k⟩=>?_;cases y with
 |ref a=>
  obtain⟨t,C,T⟩:=vq z;obtain⟨U,sq,r⟩:=eJ J (w4 C);exact⟨a,U,j,sq,λp I=>k _ _ _ _ (EE I) (J.newL I (qP r lo g)) (by rfl) (T p (J.none I))⟩
 |sq t=>
  obtain⟨a,U,e,sf,r⟩:=j;exact⟨a,U,e,sf.sq,λp I=>k _ _ _ _ (EE I) (J.newL I (qP r lo g)) (by rfl) (z p (J.none I))⟩
 |_=>exact z.elim
end
section
variable {a b iter:Expr}{tc:xx}{tB:hX}{rest oi:List Stmt}{t u:ww}
def zb:uv X [] jm:=lJ.imq ags λD U H g L D3 I J z k=>k.nx _ H _ L (ED _) I J z
def qh(h:QS X st t):uv X [st] t:=ag2 h
def qc(h:QS X st t)(k:uv X rest u):uv X (st::rest) (qr t u):=lJ.imq (tM h k) λD T H g L D3 j l z k=>
 ⟨g,L,{ D3 with nx:=u D3 },j,l,z,λo H1 I p r J U C=>⟨I,p,D3,J,U,C,k.ts r⟩,k.rt,k.bk,k.ct⟩
def tF:QS X (.Continue pos) ajf:=EK uJ λD U H g L D3 I J z k=>k.ct _ H _ L (ED _) I J z
def zg(h:QE X e te)(hs:swapsWith e none pos.line X.env=pure false:=by rfl):QS X (.Expr e pos) (jw te):=EK (aga h hs) λD t H g L D3 J j z k=>
 ⟨g,L,_,J,j,z,λv l y o U I p r=>k.nx _ l _ o U (J.ts U) I r⟩
def qw(h:QE X e te):QS X (.Return (some e) pos) (ji te):=EK (alv h) λD g H I L D3 J U z k=>⟨I,L,_,J,U,z,k.rt⟩
def yT:QS X (.Return none pos) ad7:=EK ahp λD J H U L D3 g I z k=>k.rt _ H _ L (ED _) I (by rfl) z
def j7(h:QT X c tA)(o:uv X body t)(p:uv X oi u):QS X (.If c body oi pos) (xc tA t u):=EK (apg h o p) λD C H U L D3 g r z k=>
 ⟨U,L,_,g,r,z,λc T j J I l=>by cases c with|true=>rw[Aw rfl];exact⟨U,j,D3,g.ts J,I,l,k.ts J⟩|false=>rw[As AC];exact⟨U,j,D3,g.ts J,I,l,k.ts J⟩⟩
def aS(hN:X.N.Nodup)(I:X.N[i]?=some x)(r:Loc X.env.scope x)(h:QE X e te)(J:swapsWith e (some (.Name x hQ)) pos.line X.env=pure false:=by rfl)
 (U:X.fn x=true\/X.env.scope.names.lookup x=some .local:=by first|exact .inl rfl|exact .inr rfl|assumption):QS X (.Assign [.Name x hQ] e pos) (zr te (qg i)):=EK (akd hN I r h J U) λD σ H l L D3 o t z k=>
 ⟨l,L,_,o,t,z,λv C y T p g j z1=>k.nx _ C _ T p (show vn _ _ _ (bU l i y) by rw[aH];exact(o.ts p).set j) g z1⟩
def eS(h:QE X e te)(o:QG X tg g)(h1:swapsWithSole [tg] e pos.line X.env=pure false:=by rfl)(h2:swappedStores [tg] e X.env=pure none:=by rfl)
 (p:(assignEach [tg] X.env).map (·.2)=[assign tg X.env]:=by rfl):QS X (.Assign [tg] e pos) (zr te g):=EK (aee h o h1 h2 p) λD T H U L D3 j r z k=>
 ⟨U,L,_,j,r,z,λv H1 y t l I J C=>⟨y,U,t,_,J,j.ts l,I,C,k.nx.ts l⟩⟩
def PG.imp{t u:TG}(h:PG X e t)(q:∀v σ H Q,u v σ H Q->t v σ H Q):PG X e u:=λJ s σ H x v Q I r z=>h J s σ H x v Q I r (q _ _ _ _ z)
def PGs.imp{e:List Expr}{t u:TGs}(h:PGs X e t)(q:∀v σ H Q,u v σ H Q->t v σ H Q):PGs X e u:=λJ s σ H x v Q I r z=>h J s σ H x v Q I r (q _ _ _ _ z)
def iU(hN:X.N.Nodup)(I:X.N[i]?=some x)(U:Loc X.env.scope x)(J:X.fn x=true\/X.env.scope.names.lookup x=some .local:=by first|exact .inl rfl|exact .inr rfl|assumption):QG X (.Name x pos) (qg i):=
 PG.imp (lU hN I U J) λv p H Q ⟨y,g,L,r,j,l,o,z,k⟩=>k _ H _ L (ED _) (show vn _ _ _ (bU g i y) by rw[aH];exact l.set j) o z
def k8:QGs X [] wf:=PGs.imp yN λj l H Q ⟨I,o,L,p,J,U,g,z,k⟩=>by cases I with|nil=>exact⟨J,k _ H _ L (ED _) U g z⟩|cons y r=>exact z.elim
def zk(h:QG X e g)(hs:QGs X es gs)(l:(assignEach (e::es) X.env).map (·.2)=assign e X.env::(assignEach es X.env).map (·.2):=by rfl):QGs X (e::es) (zn g gs):=
 PGs.imp (mF h hs l) λvs σ H Q ⟨o,p,L,t,C,T,rl,z,k⟩=>by
 cases o with
 |nil=>exact z.elim
 |cons y r=>
  obtain⟨x,xs,rfl,r1,r2⟩:=C;exact⟨x,xs,rfl,y,p,L,_,r1,T,rl,z,λa0 H1 I L1 j J U z1=>⟨r,I,L1,t,r2.ts j,J,U,z1,k.ts j⟩⟩
def aK{j:Nat}(hc:X.calm=true)(h:QGs X es gs)(h1:(assignEach es X.env).length=n:=by rfl)(h2:(assignEach es X.env).findIdx? (·.1)=none:=by rfl):QG X (.Tuple es j pos) (aD n gs):=
 PG.imp (adu hc h h1 h2) λv C H Q ⟨y,U,L,g,l,o,p,z,k⟩=>by
 cases y with
 |tup I=>
  obtain⟨a,t,rfl,sq,r⟩:=l;have J:(match I.length==n with|true=>gs I U L g|false=>False):=z;split at J
  ·rename_i e;exact⟨a,t,rfl,sq,by rw[<-r.length];exact beq_iff_eq.mp e,I,U,L,g,r,o,p,J,k⟩
  ·exact J.elim
 |_=>exact z.elim
def rD{y:Str}{px pt:Pos}{J:Nat}{I:Pos}(hc:X.calm=true)(hN:X.N.Nodup)(hi:X.N[i]?=some x)(C:X.N[j]?=some y)(U:i≠j)(T:X.env.scope.names.lookup x=some .local)(ly:X.env.scope.names.lookup y=some .local)
 (h:QA X [a,b] tr) (h1:swappedStores [.Tuple [.Name x px,.Name y py] kt pt] (.Tuple [a,b] J I) X.env=pure (some [x,y])) (h2:swapsWithSole [.Tuple [.Name x px,.Name y py] kt pt] (.Tuple [a,b] J I) pos.line X.env=pure false:=by rfl):
 QS X (.Assign [.Tuple [.Name x px,.Name y py] kt pt] (.Tuple [a,b] J I) pos) (aej i j tr):=EK (ak1 hc hN hi C U T ly h h1 h2) λD σ H p L D3 r rl z k=>
 ⟨p,L,_,r,rl,z,λvs H1 ys L1 t g l o=>by
  split at o
  ·rename_i v w;obtain⟨x',y',rfl,r1,r2⟩:=l.inv2;exact⟨x',y',rfl,k.nx _ H1 _ L1 t (show vn _ _ _ (bU (bU p i v) j w) by rw[aH,aH];exact((r.ts t).set r1).set r2) g o⟩
  ·exact o.elim⟩
def fA(hp:PassesOwn (model X.prog X.w) X.A X.env X.xe)(h:QT X c tA)(hb:uv X body t):QS X (.While c body [] pos) (i5 tA t):=PS.imp (ae8 hp h hb) λD σ H ⟨τ,L,D3,rs,rl,⟨W,⟨m0,w0⟩,turn⟩,k⟩=>by
 refine⟨λm r H1=>∃J C,je H H1/\vn X.g3 H1 r J/\jb X.g3 H1 C/\W m J C,⟨m0,τ,L,ED _,rs,rl,w0⟩,?_⟩;rintro m r H1 ⟨J,C,t1,l,a1,w1⟩;refine⟨J,C,_,l,a1,turn m J C w1,λb H2 L2 T a0 z2=>?_⟩;cases b with
 |false=>rw[As AC];exact k.nx _ H2 _ L2 (t1.trans T) (l.ts T) a0 z2
 |true=>
  rw[Aw rfl];obtain⟨N,hN,z2⟩:=z2;refine⟨λU g=>∃I j,je H g/\vn X.g3 g U I/\jb X.g3 g j/\N I j,?_,?_⟩
  ·rintro U g ⟨I,j,t',o,p,n'⟩;obtain⟨m',hm,w'⟩:=hN I j n';exact⟨m',hm,I,j,t',o,p,w'⟩
  ·have nx:pH X.g3 H2 (dz N) (λU g=>∃I j,je H g/\vn X.g3 g U I/\jb X.g3 g j/\N I j):=λU g I j t' o p ⟨L5,s5,n'⟩=>⟨I,L5,(t1.trans T).trans t',o,p.sub s5,n'⟩;have k2:=k.ts (t1.trans T);exact⟨J,L2,_,l.ts T,a0,z2,nx,k2.rt,k2.nx,nx⟩
def wc{wi:TI3}(hp:PassesOwn (model X.prog X.w) X.A X.env X.xe)(hc:X.calm=true)(hi:QI X tg iter wi)(hg:QG X tg g)(hb:uv X body t)(hs:∀x,foldedSetIterable iter X.env x=pure x:=by intro _;rfl):
 QS X (.For tg iter body [] pos) (dP wi g t):=EK (ak6 hp hc hi hg hb hs) λD σ H τ L D3 rs rl z k=>by
 refine⟨τ,L,_,rs,rl,z,λJ H1 r keep L1 t1 a2 yl zz=>?_⟩;obtain⟨W,w0,wk,turn,k6⟩:=af6 zz;refine⟨λi m U j=>∃I o,i+m=r.length/\je H1 j/\vn X.g3 j U I/\jb X.g3 j o/\W i I o,⟨r.length,τ,L1,by omega,ED _,rs.ts t1,a2,w0⟩,?_⟩;rintro i m aL H2 ⟨l,L2,ba,t2,a0,p,w2⟩;by_cases a1:i<r.length
 ·refine .inr ⟨yl.go i H2 L2 t2 p (wk i l L2 w2) a1,λU j=>∃I o,je H1 j/\vn X.g3 j U I/\jb X.g3 j o/\W (i+1) I o,?_,?_⟩
  ·rintro U j ⟨I,o,t',C,T,w'⟩;exact⟨m-1,by omega,I,o,by omega,t',C,T,w'⟩
  ·intro x H3 y3;have ey:r[i]?=some r[i]:=Aj a1;obtain⟨t3,a3,a4⟩:=yl.yld i H2 L2 x H3 _ t2 p (wk i l L2 w2) ey y3;refine⟨r[i],l,L2,_,a4,a0.ts t3,a3,turn i _ l L2 ey w2,λbb H4 a5 L4 t4 ab ac z4=>?_⟩;have nx:pH X.g3 H4 (dz (W (i+1))) (λU j=>∃I o,je H1 j/\vn X.g3 j U I/\jb X.g3 j o/\W (i+1) I o):=λU j I o t' C T ⟨L5,s5,n'⟩=>⟨I,L5,((t2.trans t3).trans t4).trans t',C,T.sub s5,n'⟩;have k2:=k.ts (t1.trans ((t2.trans t3).trans t4));exact⟨a5,L4,_,ab,ac,z4,nx,k2.rt,k2.nx,nx⟩
 ·have e:i=r.length:=by omega
  subst e;exact .inl ⟨yl.stop H2 L2 t2 p (wk _ l L2 w2),k.nx _ H2 _ L2 (t1.trans t2) a0 p (k6 l L2 w2)⟩
def PI.imp{t u:TI}(h:PI X tg e t)(q:∀σ H Q,u σ H Q->t σ H Q):PI X tg e u:=λJ s σ H Q I z=>h J s σ H Q I (q σ H Q z)
def PI.imq{t:TI}{u:TI3}(h:PI X tg e t)(q:∀σ H R τ L I,vn G H σ τ->jb G H L->u τ L I->(∀J H' ys keep L',je H H'->jb G H' L'->gM G H' J ys keep->I ys keep L'->R J H')->t σ H R):PI X tg e (upI G u):=PI.imp h λσ H R ⟨τ,L,I,a,b,c,d⟩=>q σ H R τ L I a b c d
def kQ{a:Addr}{keep:qm->Prop}(h:∀H L,je H₀ H->jb G H L->keep L->∃xs,a9 G.K H a xs/\ve G H ys xs):gM G H₀ (Itl G.K a) ys keep where
 go:=λi H L t I J U=>by
  obtain⟨xs,sq,r⟩:=h H L t I J;have:i<xs.length:=by rw[<-r.length];exact U
  exact⟨xs,xs[i],sq,Aj this⟩
 yld:=λi H L x o y t I J g ⟨e,f⟩=>by subst e;obtain⟨xs,sq,r⟩:=h _ L t I J;obtain⟨p,j,l⟩:=r.get g;have:=f xs sq;rw[j] at this;cases this;exact⟨ED _,I,l⟩
 stop:=λH L t I J=>by obtain⟨xs,sq,r⟩:=h H L t I J;exact⟨xs,sq,by rw[r.length];exact Al _⟩
def x8(h:QE X e te):QI X tg e (xm te):=PI.imq (ahv h) λσ H R τ L R3 rs l z k=>by
 refine⟨τ,L,_,rs,l,z,λv g y o C I U p=>?_⟩;cases y with
 |ref a=>
  obtain⟨j,keep,es,kp,hk,z2⟩:=uN p;have T:∀H L,je g H->jb X.g3 H L->keep L->∃J,a9 X.K H a J/\ve X.g3 H j J:=λH L _ l e=>eJ l (hk L e);obtain⟨J,sq,_⟩:=T g o (ED _) I kp;exact⟨a,U,⟨J,sq⟩,k _ g j _ o C I (kQ T) z2⟩
 |sq j=>
  obtain⟨a,J,e,sf,r⟩:=U;exact⟨a,e,⟨J,sf.sq⟩,k _ g j (λ_=>True) o C I (kQ λH L t _ _=>⟨J,(sf.ts t).sq,r.ts t⟩) p⟩
 |_=>exact p.elim
def uc(lo:Int)(n:Nat):gM G H₀ (Itr lo n) (aX lo n) (λ_=>True) where
 go:=λi H L t J g j=>show i<n by simpa[aX] using j
 yld:=λi H L x l y t J g U ⟨e,f⟩=>by
  subst e f;refine⟨ED _,J,?_⟩;unfold aX at U;rw[An] at U;obtain⟨z,I,e⟩:=Ay.mp U;have:=BZ (i:=i) (n:=n) (by
   by_cases c:i<n
   ·exact c
   ·rw[CA (by simp;omega)] at I;cases I)
  rw[this] at I;cases I;subst e;rfl
 stop:=λH L t J g=>by simp[aX,Itr]
def dE{p:Pos}(g:Gl X "range")(l:X.mg "range"=none)(h:QA X [a] tr)(hs:starEach [a] X.env=[(false,eval a X.env)]:=by rfl):QI X tg (.Call (.Name "range" p) [a] [] pos) (ij tr):=
 PI.imq (yy g l h hs) λσ H R o L R3 t C z k=>by
 refine⟨o,L,_,t,C,z,λvs T ys L1 t1 J U I=>?_⟩;split at I
 ·rename_i j;obtain⟨x,rfl,r⟩:=U.inv1;cases r;exact⟨j,rfl,I.1.1,I.1.2,k _ T _ _ L1 t1 J (uc 0 _) I.2⟩
 ·exact I.elim
end
section
variable {T:List Str}{iter:Expr}{wi:TI3}
def jQ:QF X [] xG:=PF.imp am3 λJ H Q ⟨U,L,g,j,I,z,k⟩=>k _ H L (ED _) I z
def a8(h:QT X c tA):QF X [c] tA:=am8 h
def aj6{g2:TG}(a0:∀v σ H Q,upG G g v σ H Q->g2 v σ H Q)(σ:L2.St)(H:Hp)(Q:VK):sF G (mC n wi g tA te) σ H Q->tLC n (upI G wi) g2 (upT G tA) (sF G te) σ H Q:=λ⟨τ,L,Q3,rs,rl,z,k⟩=>by
 refine⟨τ,L,_,rs,rl,z,λJ H1 l keep L1 t1 a1 yl zz=>?_⟩;obtain⟨hz,W,w0,wk,turn,k6⟩:=agu zz;refine⟨λi m vs H'=>∃I L',i+m=l.length/\I.length<=i/\je H1 H'/\ve G H' I vs/\jb G H' L'/\W i I L',⟨l.length,[],L1,by exact Ee _ _,Al _,ED _,rfl,a1,w0⟩,?_⟩;rintro i m vs H2 ⟨I,L2,ac,aL,o,U,j,p⟩;by_cases r:i<l.length
 ·refine .inr ⟨yl.go i H2 L2 o j (wk i I L2 p) r,by rw[<-U.length];lia,?_⟩;intro x H3 y3;have ey:l[i]?=some l[i]:=Aj r;obtain⟨t3,a2,a3⟩:=yl.yld i H2 L2 x H3 _ o j (wk i I L2 p) ey y3;refine a0 _ _ _ _ ⟨l[i],_,L2,_,a3,(rs.ts ((t1.trans o).trans t3)).more n,a2,turn i _ I L2 ey p,λba H4 t L4 t4 C a4 z4=>?_⟩;refine⟨t,L4,_,C,a4,z4,λb H5 L5 t5 T z5=>?_⟩;cases b with
  |true=>
   rw[Aw rfl];refine⟨t,L5,_,C.ts t5,T,z5,λv6 H6 y6 L6 t6 a5 ab ⟨L7,s7,z6⟩=>?_⟩;have tt:=((t3.trans t4).trans t5).trans t6;exact⟨m-1,by omega,I++[y6],L7,by lia,by rw[Ac,Bh];exact uM,o.trans tt,(U.ts tt).app (ve.one ab),a5.sub s7,z6⟩
  |false=>
   rw[As AC];have tt:=(t3.trans t4).trans t5;obtain⟨L7,s7,z6⟩:=z5;exact⟨m-1,by lia,I,L7,by lia,by exact afc,o.trans tt,U.ts tt,T.sub s7,z6⟩
 ·have ei:i=l.length:=by lia
  subst ei;refine .inl ⟨yl.stop H2 L2 o j (wk _ I L2 p),by rw[<-U.length];lia,λD hD=>?_⟩;exact k _ _ _ _ ((t1.trans o).trans (EE hD)) (j.newL hD U) (by rfl) (k6 I L2 p D (j.none hD))
structure TGx(X:Cx)(scope:Scope)(T:List Str)(target:Expr)(g:jH):Prop where
 ex:∃g2:TG,(∀C fp s₀ H₀,PG (X.comp scope T C fp s₀ H₀) target g2)/\qF g2 X.N.length T.length/\∀v σ H Q,upG X.g3 g v σ H Q->g2 v σ H Q
def ai0(i:Nat)(v:V)(σ:L2.St)(H:Hp)(Q:L2.St->Hp->Prop):upG G (qg i) v σ H Q->e9 i v σ H Q:=λ⟨y,I,L,j,J,U,g,z,k⟩=>
 k _ H _ L (ED _) (show vn _ _ _ (bU I i y) by rw[aH];exact U.set J) g z
def v5{p:Pos}(hN:(X.N++[x]).Nodup)(J:∀C fp s₀ H₀,Loc (X.comp scope [x] C fp s₀ H₀).env.scope x)(I:∀C fp s₀ H₀,(X.comp scope [x] C fp s₀ H₀).env.scope.names.lookup x=some .local):TGx X scope [x] (.Name x p) (qg X.N.length):=
 ⟨e9 X.N.length,λC fp s₀ H₀=>lU (X:=X.comp scope [x] C fp s₀ H₀) hN (by show(X.N++[x])[X.N.length]?=some x;simp) (J C fp s₀ H₀) (.inr (I C fp s₀ H₀)),xB _,ai0 _⟩
def zO{K:Ae}(n:Nat):qF (ams K 2 (u9 (e9 n) (u9 (e9 (n+1)) ajw))) n 2:=by
 rintro o I x H Q ⟨a,J,e,sq,len,v,r,U,w,g,j,l,q⟩;refine⟨a,J,e,sq,len,v,r,U,w,g,j,l,⟨by simp[I],λi u ei=>?_⟩,q⟩;have p:i<n:=by
  by_cases c:i<n
  ·exact c
  ·rw[Am (by lia),Cr] at ei;split at ei<;>cases ei
 rw[Br (by lia),Br (by exact ako)];exact ei
def akn(i j:Nat)(v:V)(σ:L2.St)(H:Hp)(Q:L2.St->Hp->Prop):upG G (aD 2 (zn (qg i) (zn (qg j) wf))) v σ H Q->ams G.K 2 (u9 (e9 i) (u9 (e9 j) ajw)) v σ H Q:=λ⟨y,U,L,g,o,p,t,z,k⟩=>by
 cases y with
 |tup I=>
  obtain⟨a,xs,rfl,sq,r⟩:=o;have J:(match I.length==2 with|true=>zn (qg i) (zn (qg j) wf) I U L g|false=>False):=z;split at J
  ·rename_i e;have C:I.length=2:=beq_iff_eq.mp e
   match I,C with
   |[T,y2],_=>
    obtain⟨x1,l,rfl,r1,r2⟩:=r.inv2;have z2:g (bU (bU U i T) j y2) L:=J;exact⟨a,_,rfl,sq,rfl,x1,[l],rfl,l,[],rfl,rfl,k _ H _ L (ED _) (by rw[aH,aH];exact(p.set r1).set r2) t z2⟩
  ·exact J.elim
 |_=>exact z.elim
def lQ{y:Str}{p I pt:Pos}(hc:X.calm=true)(hN:(X.N++[x,y]).Nodup)(U:∀C fp s₀ H₀,(X.comp scope [x,y] C fp s₀ H₀).env.scope.names.lookup x=some .local)(J:∀C fp s₀ H₀,(X.comp scope [x,y] C fp s₀ H₀).env.scope.names.lookup y=some .local)
 (h1:∀env,(assignEach [.Name x p,.Name y I] env).length=2:=by intro _;rfl) (h2:∀env,(assignEach [.Name x p,.Name y I] env).findIdx? (·.1)=none:=by intro _;rfl)
 (g:∀env,(assignEach [.Name x p,.Name y I] env).map (·.2)=assign (.Name x p) env::(assignEach [.Name y I] env).map (·.2):=by intro _;rfl) (j:∀env,(assignEach [.Name y I] env).map (·.2)=assign (.Name y I) env::(assignEach [] env).map (·.2):=by intro _;rfl):
 TGx X scope [x,y] (.Tuple [.Name x p,.Name y I] kt pt) (aD 2 (zn (qg X.N.length) (zn (qg (X.N.length+1)) wf))):=
 ⟨_,λC fp s₀ H₀=>adu (X:=X.comp scope [x,y] C fp s₀ H₀) hc (mF (lU hN (by show(X.N++[x,y])[X.N.length]?=some x;simp) (.inl (U C fp s₀ H₀)) (.inr (U C fp s₀ H₀))) (mF (lU hN (by show(X.N++[x,y])[X.N.length+1]?=some y;simp) (.inl (J C fp s₀ H₀)) (.inr (J C fp s₀ H₀))) yN (j _)) (g _)) (h1 _) (h2 _),zO _,akn _ _⟩
def cG(T:List Str)(S:jv X scope)(hc:X.calm=true)(hi:QI X target iter wi)(I:TGx X scope T target g)
 (J:∀C fp s₀ H₀,QF (X.comp scope T C fp s₀ H₀) m3 tA) (U:∀C fp s₀ H₀,QE (X.comp scope T C fp s₀ H₀) ni te)
 (hs:∀x,foldedSetIterable iter X.env x=pure x:=by intro _;rfl):QE X (.ListComp ni [⟨target,iter,m3,0⟩] scope pos) (mC T.length wi g tA te):=by
 obtain⟨g2,j,l,o⟩:=I.ex;exact ER (anf T S hc hi j l J U hs) (aj6 o)
def fM(T:List Str){px o:Pos}(hN:X.N.Nodup)(I:X.N[i]?=some x)(hx:Loc X.env.scope x)(S:jv X scope)(hc:X.calm=true)(hi:QI X target iter wi)
 (hg:TGx X scope T target g) (hf:∀C fp s₀ H₀,QF (X.comp scope T C fp s₀ H₀) m3 tA) (he:∀C fp s₀ H₀,QE (X.comp scope T C fp s₀ H₀) ni te)
 (J:swapsWith (.ListComp ni [⟨target,iter,m3,0⟩] scope o) (some (.Name x px)) pos.line X.env=pure true:=by rfl)
 (U:X.fn x=true\/X.env.scope.names.lookup x=some .local:=by first|exact .inl rfl|exact .inr rfl|assumption)
 (hs:∀x,foldedSetIterable iter X.env x=pure x:=by intro _;rfl):QS X (.Assign [.Name x px] (.ListComp ni [⟨target,iter,m3,0⟩] scope o) pos) (zr (mC T.length wi g tA te) (qg i)):=by
 obtain⟨g2,h1,h2,h3⟩:=hg.ex;refine PS.imp (acz (tc:=upT X.g3 tA) (te:=sF X.g3 te) T hN I hx S hc hi h1 h2 hf he J U hs) λD σ H ⟨p,L,D3,r,rl,z,k⟩=>?_;refine aj6 h3 σ H _ ⟨p,L,_,r,rl,z,λv H1 y L1 t j l z1=>?_⟩;exact k.nx _ H1 _ L1 t (show vn _ _ _ (bU p i y) by rw[aH];exact(r.ts t).set l) j z1
def dn(G:G3)(sp:jx):Sp:=λvs H Q _=>∃ys L I,ve G H ys vs/\jb G H L/\sp ys L I/\s9 G H I Q
abbrev amq(P:Program)(w:World)(K:Ae)(mg:Str->Option Value)(base:Heap)(k:Nat)(x:Str)(ps:List Str)(sp:jx):Prop:=Cal P w K mg base k x ps (dn ⟨K,P,w⟩ sp)
abbrev Fn3(P:Program)(w:World)(K:Ae)(mg:Str->Option Value)(base:Heap)(k:Nat)(f:Addr)(fd:FuncData)(ps:List Str)(sp:jx):Prop:=bH P w K mg base CX0 k f fd ps (dn ⟨K,P,w⟩ sp)
def at0{k:Nat}{p:Pos}(c:amq X.prog X.w X.K X.mg X.base k x ps sp)(j:wq k X.A)(l:Gl X x)(o:QA X (e::es) tr)(I:Ew x:=by decide)
 (r:Et e es X:=by rfl) (J:Eu pos es X:=by rfl):QE X (.Call (.Name x p) (e::es) [] pos) (zd sp tr):=
 EF (ark c j l o I r J) λσ H Q t L C T rl z k=>
 ⟨t,L,_,T,rl,z,λvs H1 ys L1 t1 U g z1=>⟨ys,L1,C,by rw[AQ];exact g,U,z1,k.ts t1⟩⟩
def gc(Q:YK):YK:=λy L=>∃L2,qj L2 L/\Q y L2
def i6(N:List Str)(ys:List Y):jy:=ys.map some++List.replicate (N.length-ys.length) none
def pJ{N:List Str}{vs:List V}(r:ve G H ys vs):vn G H (L2.start N vs) (i6 N ys):=by unfold L2.start i6;rw[<-r.length];refine vn.more ⟨by simp[r.length],λi y e=>?_⟩ _;rw[An] at e;obtain⟨g,I,J⟩:=Ay.mp e;cases J;obtain⟨x,ex,U⟩:=r.get I;exact⟨x,by rw[An,ex];rfl,U⟩
def ok3{P:Program}{w:World}{K:Ae}{N:List Str}{k:Nat}(F:Fun K x eA st f fd)(S:bA N ps (qz st))(len:∀ys L Q,sp ys L Q->ys.length=ps.length)
 (I:∀(fx:Value) (A:Around) (outer:List Env) (s:Shared) (H:Hp) (E:XK),wq k (A.deeper (PyProof.Rows.envOfC eA (qz st) s.heap.objs.size f fx))->
  ∃t,uv (lG CX0 P w K mg base N eA (qz st) f fx A outer s H E).nox (js st) t/\∀ys L Q,sp ys L Q->t { nx:=λ_ L'=>gc Q .non L',rt:=gc Q } (i6 N ys) L):Fn3 P w K mg base (k+1) f fd ps sp:=by
 refine F.ok S (λT H Q E ⟨ys,L,U,g,C,z,_⟩=>by rw[<-g.length];exact len ys L U z) λfx A outer s H T Q E hr ⟨ys,L,U,g,C,z,k⟩=>?_;obtain⟨t,ht,q⟩:=I fx A outer s H E hr;refine⟨_,ht,i6 N ys,L,_,pJ g,C,q ys L U z,?_⟩;refine⟨λσ j τ L' l a0 J ⟨L2,o,p⟩=>k .non j .non L2 l (J.sub o) (by rfl) p,λv j y L' l J r ⟨L2,o,p⟩=>k v j y L2 l (J.sub o) r p,λ_ _ _ _ _ _ _ z=>z.elim,λ_ _ _ _ _ _ _ z=>z.elim⟩
def upM(G:G3)(r:Y->List Y->qm->YK->Prop):V->List V->Hp->VK->Prop:=λx xs H Q=>∃y ys L I,RV G H y x/\ve G H ys xs/\jb G H L/\r y ys L I/\s9 G H I Q
def iy.imq{id:String}{r:V->List V->Hp->VK->Prop}{u:Y->List Y->qm->YK->Prop}(h:iy X id r)(q:∀x xs H Q y ys L I,RV G H y x->ve G H ys xs->jb G H L->u y ys L I->s9 G H I Q->r x xs H Q):iy X id (upM G u):=iy.imp h λx xs H Q ⟨y,ys,L,I,a,b,c,d,e⟩=>q x xs H Q y ys L I a b c d e
def adr:iy X "list.append" (upM X.g3 j5):=iy.imq zE λx p H Q y t L C U g J z k=>by
 unfold j5 at z;split at z
 ·rename_i a v;obtain⟨T,e,z⟩:=vq z;obtain⟨j,I,r⟩:=J a _ e;obtain⟨l,rfl,o⟩:=g.inv1;exact⟨a,j,l,U,rfl,I,by rw[<-r.length];exact z.1,k _ _ _ _ (EO I) (J.setL I (r.app (ve.one o))) (by rfl) z.2⟩
 ·exact z.elim
def aeu:iy X "list.extend" (upM X.g3 bZ):=iy.imq yq λx T H Q y ys L Q3 g j I z k=>by
 unfold bZ at z;split at z
 ·rename_i a b;obtain⟨zs,e,z⟩:=vq z;obtain⟨us,l,z⟩:=vq z;obtain⟨o,J,r⟩:=I a _ e;obtain⟨p,t,U⟩:=I b _ l;obtain⟨v',rfl,C⟩:=j.inv1;cases C;exact⟨a,b,o,p,g,rfl,J,t,by rw[<-r.length,<-U.length];exact z.1,k _ _ _ _ (EO J) (I.setL J (r.app U)) (by rfl) z.2⟩
 ·exact z.elim
def ao2:iy X "list.pop" (upM X.g3 aay):=iy.imq akr λx l H Q y T L Q3 o p U z k=>by
 unfold aay at z;split at z
 ·rename_i a;obtain⟨g,e,z⟩:=vq z;obtain⟨t,I,r⟩:=U a _ e;cases (show l=[] from p);cases J:g[g.length-1]? with
  |none=>rw[J] at z;exact z.elim
  |some v=>
   rw[J] at z;obtain⟨u,j,C⟩:=r.get J;rw[r.length] at j;exact⟨a,t,u,o,rfl,I,j,k _ _ _ _ (EO I) (U.setL I r.dropLast) (C.ts (EO I)) z⟩
 ·exact z.elim
def y7{a:Addr}(I:jb G H L)(h:cj L (.ref a)=some ys):tyV G.K "list" (.ref a) H:=by obtain⟨J,sq,_⟩:=eJ I h;exact .inl ⟨rfl,J,sq⟩
def am(r:Y->List Y->qm->YK->Prop)(to:xx)(t:fC)(τ:jy)(L:qm)(Q:YK):Prop:=to τ L λx L1=>match x with
 |.ref a=>jN L1 (.ref a) λ_=>t τ L1 λxs L2=>r (.ref a) xs L2 Q
 |_=>False
def rq{id:String}{r:Y->List Y->qm->YK->Prop}(h2:Slot "list" name id)(h3:typeOf (.builtin id)=pure (.type "method_descriptor"))(hm:iy X id (upM X.g3 r))(ho:QE X o to)(ha:QA X (e::es) tr)
 (h4:attributeBase o name X.env (eval o X.env)=eval o X.env:=by rfl)
 (h5:((backTo eK (starEach (e::es) X.env)).all (λx=>!x.1)&&(backToKw eK (keywordEach [] X.env)).all (λx=>x.1.isSome)&&decide ((e::es).length+([]:List Keyword).length+(if ([]:List Keyword).isEmpty=true then 0 else 1)<30))=true:=by rfl)
 (h6:(apos.endLine==eK.line)=true:=by rfl) (h7:Et e es X:=by rfl) (h8:Eu eK es X:=by rfl):
 QE X (.Call (.Attribute o name apos) (e::es) [] eK) (am r to tr):=EF (ajc DS h2 h3 hm ho ha h4 h5 h6 h7 h8) λσ H Q l L Q3 p rl z k=>
 ⟨l,L,_,p,rl,z,λv H1 y L1 t I J U=>by
  split at U
  ·rename_i a;obtain⟨C,es,U⟩:=ai U;exact⟨by cases J;exact y7 I es,l,L1,_,p.ts t,I,U,λvs H2 C L2 T g j z2=>⟨.ref a,C,L2,Q3,J.ts T,j,g,z2,k.ts (t.trans T)⟩⟩
  ·exact U.elim⟩
def alr{id:String}{r:Y->List Y->qm->YK->Prop}(h2:Slot "list" name id)(g:typeOf (.builtin id)=pure (.type "method_descriptor"))(j:iy X id (upM X.g3 r))(l:QE X o to)
 (p:attributeBase o name X.env (eval o X.env)=eval o X.env:=by rfl) (t:(apos.endLine==eK.line)=true:=by rfl):
 QE X (.Call (.Attribute o name apos) [] [] eK) (am r to qx):=EF (akq DS h2 g j l p t) λσ H Q C L T rs rl z k=>
 ⟨C,L,_,rs,rl,z,λv H1 y L1 t1 I J U=>by
  split at U
  ·rename_i a;obtain⟨ys,es,U⟩:=ai U;exact⟨by cases J;exact y7 I es,.ref a,[],L1,T,J,rfl,I,U,k.ts t1⟩
  ·exact U.elim⟩
def zf(I:QE X o to)(J:QA X (e::es) tr)(U:attributeBase o "append" X.env (eval o X.env)=eval o X.env:=by rfl)
 (g:((backTo eK (starEach (e::es) X.env)).all (λx=>!x.1)&&(backToKw eK (keywordEach [] X.env)).all (λx=>x.1.isSome)&&decide ((e::es).length+([]:List Keyword).length+(if ([]:List Keyword).isEmpty=true then 0 else 1)<30))=true:=by rfl)
 (j:(apos.endLine==eK.line)=true:=by rfl) (l:Et e es X:=by rfl) (p:Eu eK es X:=by rfl):
 QE X (.Call (.Attribute o "append" apos) (e::es) [] eK) (am j5 to tr):=rq PySem.F.slot_list_append PySem.F.type_list_append adr I J U g j l p
def cz(I:QE X o to)(J:QA X (e::es) tr)(U:attributeBase o "extend" X.env (eval o X.env)=eval o X.env:=by rfl)
 (g:((backTo eK (starEach (e::es) X.env)).all (λx=>!x.1)&&(backToKw eK (keywordEach [] X.env)).all (λx=>x.1.isSome)&&decide ((e::es).length+([]:List Keyword).length+(if ([]:List Keyword).isEmpty=true then 0 else 1)<30))=true:=by rfl)
 (j:(apos.endLine==eK.line)=true:=by rfl) (l:Et e es X:=by rfl) (p:Eu eK es X:=by rfl):
 QE X (.Call (.Attribute o "extend" apos) (e::es) [] eK) (am bZ to tr):=rq PySem.F.slot_list_extend PySem.F.type_list_extend aeu I J U g j l p
def ae1(I:QE X o to)(J:attributeBase o "pop" X.env (eval o X.env)=eval o X.env:=by rfl)(U:(apos.endLine==eK.line)=true:=by rfl):
 QE X (.Call (.Attribute o "pop" apos) [] [] eK) (am aay to qx):=alr PySem.F.slot_list_pop PySem.F.type_list_pop ao2 I J U
end
abbrev gr:pW:=yI0 λi j=>.int (i-j)
abbrev aat:pW:=yI acj λi j=>.int (i*j)
abbrev bO:pW:=yI ala λi j=>.int (i / j)
abbrev aG:pW:=yI (λ_ j=>0<j) λi j=>.int (i % j)
abbrev ar2:pW:=yI am7 λi j=>.int (i ^ j.toNat)
abbrev yLt:pW:=yI0 λi j=>.bl (decide (i<j))
abbrev yGt:pW:=yI0 λi j=>.bl (decide (j<i))
structure ap6(G:G3)(mg:Str->Option Value)(x:Str)(y:Y):Prop where
 ex:∃c,mg x=some (.ref c)/\∀H,RV G H y (.ref c)
def amf(t:ap6 X.g3 X.mg x y)(I:Gl X x)(hd:Ew x:=by decide):QE X (.Name x pos) (yC y):=by obtain⟨c,J,q⟩:=t.ex;exact apf I J q hd
def aj3(kvs:List (Str×Str)):LO:=.dct (kvs.map λp=>(Sum.inr p.1,Y.str p.2))
def aji(kvs:List (Str×Str))(_:jy)(L:qm)(Q:YK):Prop:=∀p,L p=none->Q (.ref p) (qe L p (aj3 kvs))
def kvV(kvs:List (Str×Str)):List (jp×V):=kvs.map λp=>(Sum.inr p.1,V.str p.2)
theorem uS{σ:L2.St}{H:Hp}{Q:List (V×V)->Hp->Prop}:∀{kvs:List (Str×Str)},Q (kvs.map λp=>(V.str p.1,V.str p.2)) H->rB (kvs.map λp=>(tC (.str p.1),tC (.str p.2))) σ H Q
 |[],h=>h
 |_::r,h=>uS (kvs:=r) h
theorem yL{G:G3}{H:Hp}:∀kvs:List (Str×Str),Paired (λ(p:jp×Y) (q:jp×V)=>p.1=q.1/\RV G H p.2 q.2) (kvs.map λp=>(Sum.inr p.1,Y.str p.2)) (kvV kvs)
 |[]=>.nil
 |_::r=>.cons ⟨rfl,rfl⟩ (yL r)
def agk{keys:List (Option Expr)}{values:List Expr}(kvs:List (Str×Str))(h:PPs X pos keys values (kvs.map λp=>(tC (.str p.1),tC (.str p.2))))(h1:(keys.all λx=>x.isSome)=true)(h2:keys.length=values.length)(U:keys≠[])(g:keys.length<=15)
 (j:kvs.length<=15:=by decide) (nd:jK [] (kvV kvs)=kvV kvs:=by decide +kernel):QE X (.Dict keys values pos) (aji kvs):=EF (ai8 h h1 h2 U g) λl H Q o L r t J z k=>by
 intro p I;refine uS ⟨j8,kvV kvs,by simp[kvV,kV],by simpa[kvV] using j,?_⟩;rw[nd,aid];refine k _ _ _ (qe L p (aj3 kvs)) (EE I) ?_ (by rfl) (z p (J.none I));intro a u e;by_cases c:a=p
 ·subst c;rw[q9] at e;cases e;exact⟨kvV kvs,j8,yL kvs⟩
 ·rw[qb c] at e;exact(J a u e).keep (EE I) (qt c)
def rO{Q:α->qm->Prop}{o:Option α}(h:yc L Q o):∃v,o=some v/\Q v L:=by cases o with|none=>exact h.elim|some v=>exact⟨v,rfl,h⟩
def jU{kvs:List (Str×Str)}{k:Str}(h:kvs.lookup k=some x):aE (kvs.map λp=>((Sum.inr p.1:jp),Y.str p.2)) (Sum.inr k)=some (Y.str x):=by
 induction kvs with
 |nil=>simp at h
 |cons p r I=>
  obtain⟨a,b⟩:=p;unfold aE;rw[AG,BA];rw[Bb] at h;by_cases c:k=a
  ·subst c;simp at h;simp[h]
  ·have c1:(k==a)=false:=by simpa using c
   rw[c1] at h;have c2:decide ((Sum.inr a:jp)=Sum.inr k)=false:=Aq λz=>c (Sum.inr.inj z).symm;simp only[c2];exact I h
def yQ(h:(aX lo n)[i]?=some y):i<n/\y=.int (lo+i):=by
 unfold aX at h;rw[An] at h;obtain⟨z,I,e⟩:=Ay.mp h;have J:i<n:=by
  by_cases c:i<n
  ·exact c
  ·rw[CA (by simp;exact wZ)] at I;cases I
 rw[BZ J] at I;cases I;exact⟨J,e.symm⟩
def oN(lo:Int)(n:Nat):(aX lo n).length=n:=by simp[aX]
def yf{tb:ww}(W:Nat->jy->qm->Prop)(J:W 0 τ L)
 (hs:∀i τ L,i<n->W i τ L->g (.int (lo+i)) τ L λI L2=>tb { D with nx:=dz (W (i+1)),ct:=dz (W (i+1)),bk:=D.nx } I L2) (hd:∀τ L,W n τ L->D.nx τ L):uV (aX lo n) (λ_=>True) g tb D τ L:=by
 refine wm ⟨W,J,λ_ _ _ _=>trivial,λi y τ L e w=>?_,λτ L w=>hd τ L (by rw[oN] at w;exact w)⟩;obtain⟨U,rfl⟩:=yQ e;exact hs i τ L U w
def ach{a:Addr}{v:Y}{Q:YK}(e:L a=some (.lst (ys++[v])))(q:Q v (qe L a (.lst ys))):jN L (.ref a) (λ_=>qx τ L λxs L2=>aay (.ref a) xs L2 Q):=by
 refine qd e (qo e ?_);have:(ys++[v])[(ys++[v]).length-1]?=some v:=by simp
 rw[this,List.dropLast_concat];exact q
def l9{tb:ww}{a:Addr}(h:cj L (.ref a)=some ys)(W:Nat->jy->qm->Prop)(J:W 0 τ L)(U:∀i τ L',W i τ L'->L' a=L a)
 (hs:∀i y τ L,ys[i]?=some y->W i τ L->g y τ L λI L2=>tb { D with nx:=dz (W (i+1)),ct:=dz (W (i+1)),bk:=D.nx } I L2) (hd:∀τ L,W ys.length τ L->D.nx τ L):
 sm L a λys keep L1=>uV ys keep g tb D τ L1:=x4 (jG h) λkeep j=>wm ⟨W,J,λi τ L' w=>j L' (U i τ L' w),hs,hd⟩
def ar{keep:qm->Prop}{Q:YK}(I:Nat->List Y->Prop)(hz:ys.length<sizeLine)(j:keep L)(l:I 0 [])
 (turn:∀(i:Nat) y zs,ys[i]?=some y->I i zs->g y (τ++List.replicate n none) L λJ L2=>tc J L2 λb L3=>xt b (te J L3 λz o=>dz (λzs L'=>L'=L/\I (i+1) zs) (zs++[z]) o) (dz (λzs L'=>L'=L/\I (i+1) zs) zs L3))
 (r:∀zs,I ys.length zs->∀p,L p=none->Q (.ref p) (qe L p (.lst zs))):yJ ys keep n g tc te τ L Q:=by
 refine xF ⟨hz,λi zs L'=>L'=L/\I i zs,⟨rfl,l⟩,?_,?_,?_⟩
 ·rintro i zs L' ⟨rfl,_⟩;exact j
 ·rintro i y zs L' t ⟨rfl,U⟩;exact turn i y zs t U
 ·rintro zs L' ⟨rfl,U⟩ p C;exact r zs U p C
def wH{Q:YK}(I:Nat->List Y->Prop)(hz:m<sizeLine)(j:I 0 [])
 (turn:∀(i:Nat) zs,i<m->I i zs->g (.int (lo+i)) (τ++List.replicate n none) L λJ L2=>tc J L2 λb L3=>xt b (te J L3 λz l=>dz (λzs L'=>L'=L/\I (i+1) zs) (zs++[z]) l) (dz (λzs L'=>L'=L/\I (i+1) zs) zs L3))
 (o:∀zs,I m zs->∀p,L p=none->Q (.ref p) (qe L p (.lst zs))):yJ (aX lo m) (λ_=>True) n g tc te τ L Q:=by
 refine ar (keep:=λ_=>True) I (by rw[oN];exact hz) trivial j (λi y zs e U=>?_) λzs U=>o zs (by rw[oN] at U;exact U);obtain⟨r,rfl⟩:=yQ e;exact turn i zs r U
def wn{I:List α}{f:α->Y}{w:α}(h:I[i]?=some w):eG (I.map f) (i:Int)=some (f w):=vj (by rw[An,h];rfl)
def aft{keep:qm->Prop}{Q:YK}(f:Y->Option Y)(hz:ys.length<sizeLine)(j:keep L)
 (turn:∀(i:Nat) y (W:List Y->qm->Prop) zs,ys[i]?=some y->W (zs++(f y).toList) L->g y (τ++List.replicate n none) L λI L2=>tc I L2 λb L3=>xt b (te I L3 λz l=>dz W (zs++[z]) l) (dz W zs L3))
 (o:∀p,L p=none->Q (.ref p) (qe L p (.lst (ys.filterMap f)))):yJ ys keep n g tc te τ L Q:=by
 refine xF ⟨hz,λi zs J=>J=L/\zs=(ys.take i).filterMap f,⟨rfl,by simp⟩,?_,?_,?_⟩
 ·rintro i zs J ⟨rfl,_⟩;exact j
 ·rintro i y zs J U ⟨rfl,rfl⟩;refine turn i y _ _ U ⟨rfl,?_⟩;rw[Bf,U,List.filterMap_append];congr 1
 ·rintro zs J ⟨rfl,rfl⟩ p r;rw[Bc];exact o p r
def xr(t:ww)(n:Nat)(ys:List Y)(L:qm)(Q:YK):Prop:=t { nx:=λ_ L'=>gc Q .non L',rt:=gc Q } (ys.map some++List.replicate (n-ys.length) none) L
def k6{Q:YK}(h:Q y L):gc Q y L:=⟨L,EC L,h⟩
def bW{Q:YK}(s:qj L L')(h:Q y L):gc Q y L':=⟨L,s,h⟩
theorem Fn3.never{P:Program}{w:World}{K:Ae}{k:Nat}(no:∀ys L Q,¬sp ys L Q):Fn3 P w K mg base k f fd ps sp:=
 bH.never λJ H Q E ⟨ys,L,I,_,_,z,_⟩=>no ys L I z
def qj.upd{a:Addr}{o:LO}(s:qj L L')(h:L a=none):qj L (qe L' a o):=λb u e=>by rw[qb (xn e h)];exact s b u e
def qj.put{a:Addr}{o:LO}(s:qj L L')(h:L' a=some o):qj (qe L a o) L':=λb u e=>by
 by_cases c:b=a
 ·subst c;rw[q9] at e;cases e;exact h
 ·rw[qb c] at e;exact s b u e
theorem tf{G:G3}{H:Hp}:∀I:List Int,ve G H (I.map Y.int) (I.map V.int)
 |[]=>rfl
 |_::r=>⟨_,_,rfl,rfl,tf r⟩
end L3
namespace L2
open PySem PySem.Spec PyProof.Rows
section
variable {σ:L2.St}
def oJ(I:z9 X pins σ H s)(U:∀b∈fp,H b=none)(k:∀b o,b∉fp->s.heap.get? b=some o->h'.get? b=some o):gC X.prog X.w H h':=λb u e=>by
 refine(I.hok b u e).stay (λc v g q=>k c v (λz=>?_) q) (λ_ q=>q) λ_ _ q=>q;have J:=U c z;rcases g with w|w
 ·rw[w,e] at J;cases J
 ·rw[w] at J;cases J
def zA{fs:List Addr}(k:∀b o,b∉fp->h.get? b=some o->h'.get? b=some o):Un fs fp H H h h':=
 ⟨λb o q _ _ x=>k b o x q,λb o q _ _ x=>⟨o.slots,k b o x q⟩,λ_ _ _ n _=>n,λb o q x=>⟨o,k b o x q⟩,λ_ _ q=>q,λ_ _ _ q=>q,λb I q=>⟨#[],by rw[q];simp⟩⟩
def z9.turnedL(I:z9 X pins σ H s)(k:∀b o,b∉fp->s.heap.get? b=some o->h'.get? b=some o)(U:∀b∈fp,oh X pins H b)(g:0<t':=by walk_at "t"):z9 X pins σ H { s with heap:=h',toks:=t' }:=
 I.call' (s':={ s with heap:=h',toks:=t' }) (ch:=fp) rfl (zA k) (oJ I (λb J=>(U b J).1) k) I.bare λb J=>⟨(U b J).2.2.2.1,(U b J).2.1,(U b J).2.2.2.2.1,(U b J).2.2.2.2.2⟩
def z9.turnedN{a:Addr}{o:HO}(I:z9 X pins σ H s)(k:∀b o,b∉fp->s.heap.get? b=some o->h'.get? b=some o)(U:∀b∈fp,oh X pins H b)(j:s.heap.objs.size<=a)
 (new:vg X.prog X.w (upd H a o) h' a o) (p:0<t':=by walk_at "t"):z9 X pins σ (upd H a o) { s with heap:=h',toks:=t' }:=by
 have g:H a=none:=I.hok.fresh j;have lt:∀b ob,s.heap.get? b=some ob->b≠a:=λb ob q=>A4 (AM (vb q) j);refine I.call' (s':={ s with heap:=h',toks:=t' }) (ch:=fp) rfl ?_ ?_ I.bare λb J=>⟨(U b J).2.2.2.1,(U b J).2.1,(U b J).2.2.2.2.1,(U b J).2.2.2.2.2⟩
 ·exact⟨λb ob q _ _ x=>k b ob x q,λb ob q _ _ x=>⟨ob.slots,k b ob x q⟩,λb ob q n _=>by rw[qt (lt b ob q)];exact n,λb ob q x=>⟨ob,k b ob x q⟩,
   λb l q=>by rw[qt (jd q g)];exact q,λb ob u q=>by rw[qt (jd q g)];exact q,λb r q=>⟨#[],by rw[qt (jd q g),q];simp⟩⟩
 ·intro b u e;by_cases J:b=a
  ·subst J;rw[j8] at e;cases e;exact new
  ·rw[qt J] at e;have ok:=oJ I (h':=h') (λb J=>(U b J).1) k b u e;exact ok.stay (λ_ _ _ q=>q) (λc q=>by rw[qt (jd q g)];exact q) λc l q=>by rw[qt (jd q g)];exact q
end
def Ite(K:Ae)(a:Addr):It:=
 ⟨λi H=>∃xs x,a9 K H a xs/\xs[i]?=some x,λi H v H'=>∃p x,H p=none/\v=.ref p/\H'=upd H p (.tup [.int i,x])/\∀xs,a9 K H a xs->xs[i]?=some x,λi H=>∃xs,a9 K H a xs/\xs.length<=i⟩
def zY{P:Program}{w:World}{K:Ae}(a e it:Addr)(l:e≠it):aau P w K (.Tuple ml x1 tp) (Ite K a) [e,it] e (λi h=>(∃old,IsEnum h e it i old)/\h.IsListIter it a i) where
 mem:=by simp
 obj:=λi h ⟨⟨old,J⟩,U⟩ b g=>by
  rcases Ax.mp g with rfl|g
  ·exact⟨_,J,λv z=>by cases z⟩
  ·cases Ap.mp g;obtain⟨o,T,hc,hd⟩:=U;exact⟨o,T,λv z=>by rw[hd] at z;cases z⟩
 keep:=λi h h' ⟨⟨old,J⟩,U⟩ k=>⟨⟨old,k e (by simp) _ J⟩,U.at λo q=>k it (by simp) o q⟩
 item:=by
  intro X hP hw hK hc i r s σ H E I t ⟨⟨old,J⟩,U⟩ hg;subst hP hw hK;obtain⟨xs,x,C,hx⟩:=hg;obtain⟨a0,rv,p,hz⟩:=I.list C;obtain⟨u,hu,ru⟩:=rv.get hx;refine wpAny_pyNext_enum_item J U p.isList (x:=u) (by simpa using hu) l λh1 a1 a2 ht a5 hk=>⟨.ref s.heap.objs.size,rfl,wpAny_letOwnedTupleGo_enum a1 λh2 a3 j=>?_⟩;have el:e<s.heap.objs.size:=vb J;have il:it<s.heap.objs.size:=by obtain⟨o,T,_⟩:=U;exact vb T
  have kk:∀b o,b∉[e,it]->s.heap.get? b=some o->h2.get? b=some o:=λb o nb q=>by have n1:b≠e:=λz=>nb (by simp[z]);have n2:b≠it:=λz=>nb (by simp[z]);exact j.extBut b o n1 (hk b o n1 n2 q)
  have tg:h2.get? s.heap.objs.size=some { cls:=.type "tuple",data:=.seq #[.int i s.toks,u] }:=j.extBut _ _ (C9 el) ht;refine⟨.ref s.heap.objs.size,upd H s.heap.objs.size (.tup [.int i,x]),?_,rfl,⟨_,x,I.hok.fresh (Al _),rfl,rfl,λys hy=>by rw[I.list_inj hy C];exact hx⟩,⟨⟨_,a3⟩,a2.at λo q=>j.extBut _ _ (AH l) q⟩,λb g=>?_⟩
  ·exact I.turnedN (t':=s.toks+1) kk t (Al _) ⟨by show 2<=sizeLine;decide,[.int i s.toks,u],.cons ⟨_,rfl⟩ (.cons ru .nil),⟨_,tg,rfl,_,rfl⟩⟩
  ·have a4:b<s.heap.objs.size:=by rcases Ax.mp g with rfl|g;exact el;cases Ap.mp g;exact il
   rw[qt (A4 a4)];exact(t b g).1
 done:=by intro X hP hw hK hc i r s σ H E I t ⟨⟨old,J⟩,U⟩ hg;subst hP hw hK;obtain⟨xs,C,hx⟩:=hg;obtain⟨a0,rv,p,hz⟩:=I.list C;have hl:=rv.length;exact wpAny_pyNext_enum_end (I.ok.hd hc) J U p.isList (by simp;omega) λh1 eb=>⟨rfl,I.turnedL (t':=s.toks) (fp:=[e,it]) (λb o nb q=>eb b o (λz=>nb (by simp[z])) q) t⟩
 self:=λ_ _ _ _ _ ⟨⟨_,J⟩,_⟩ h=>wpAny_pyIter_enum J h
def ans(K:Ae)(ta:TA):TI:=λσ H R=>ta σ H λvs H1=>∃a,vs=[.ref a]/\(∃xs,a9 K H1 a xs)/\R (Ite K a) H1
def sE:bootBuiltins "enumerate"=some (.type "enumerate"):=by decide +kernel
def ahc{a:Expr}{ta:TA}{p:Pos}(hg:Gl X "enumerate")(hm:X.mg "enumerate"=none)(ha:PA X [a] ta)(hs:starEach [a] X.env=[(false,eval a X.env)]:=by rfl):
 PI X (.Tuple ml x1 tp) (.Call (.Name "enumerate" p) [a] [] pos) (ans X.K ta):=by
 intro J s r H R I h;refine Call_ (gg I hg hm sE (B4 (aT (ha pos J s r H _ I h) λus U ⟨vs,t,j,r1,q1⟩=>?_) hs rfl));obtain⟨l,e,⟨xs,hq⟩,q⟩:=q1;subst e;obtain⟨u,rfl,ru⟩:=yD r1;cases ru;obtain⟨a0,rv,pl,hz⟩:=j.list hq;refine call_enumerate_list pl.isList λC T hi a1 hk=>?_;have I2:z9 X J r t { U with heap:=C }:=j.kept (t':=U.toks) hk;refine wpAny_pyIter_enum (s:={ U with heap:=C }) T ?_;refine⟨U.heap.objs.size+1,[U.heap.objs.size+1,U.heap.objs.size],_,_,t,rfl,I2,zY l _ _ (Nat.succ_ne_self _),⟨⟨_,T⟩,hi⟩,λb o=>?_,q⟩;have g:U.heap.objs.size<=b:=by rcases Ax.mp o with rfl|o;exact Cw _;cases Ap.mp o;exact Al _
 exact j.fpOk g (j.hok.fresh g)
end L2
namespace L3
open PySem L2
theorem kY{a:Addr}{keep:qm->Prop}(h:∀H L,je H₀ H->jb G H L->keep L->∃xs,a9 G.K H a xs/\ve G H ys xs):gM G H₀ (Ite G.K a) (ys.zipIdx.map λp=>Y.tup [.int (p.2:Nat),p.1]) keep where
 go:=λi H L t I J o=>by
  obtain⟨xs,sq,r⟩:=h H L t I J;have:i<xs.length:=by rw[<-r.length];simpa using o
  exact⟨xs,xs[i],sq,Aj this⟩
 yld:=λi H L x H' y t I J l ⟨p,z,U,C,T,f⟩=>by subst C T;obtain⟨xs,sq,r⟩:=h H L t I J;rw[An,List.getElem?_zipIdx] at l;obtain⟨⟨y',j⟩,ey,e3⟩:=Ay.mp l;obtain⟨a0,g,e4⟩:=Ay.mp ey;cases e4;subst e3;obtain⟨x',e',rv⟩:=r.get g;have:=f xs sq;rw[e'] at this;cases this;refine⟨EE U,I.skip U,p,_,rfl,dq.of j8,⟨_,_,rfl,?_,_,_,rfl,rv.ts (EE U),rfl⟩⟩;show V.int _=V.int _;congr 1;simp
 stop:=λH L t I J=>by obtain⟨xs,sq,r⟩:=h H L t I J;exact⟨xs,sq,by rw[Af,List.length_zipIdx,r.length];exact Al _⟩
def oU(ys:List Y):List Y:=ys.zipIdx.map λp=>Y.tup [.int (p.2:Nat),p.1]
def eM(h:(oU ys)[i]?=some y):∃z,ys[i]?=some z/\y=.tup [.int i,z]:=by unfold oU at h;rw[An,List.getElem?_zipIdx] at h;obtain⟨⟨J,j⟩,U,g⟩:=Ay.mp h;obtain⟨l,I,o⟩:=Ay.mp U;cases o;exact⟨J,I,by rw[<-g];simp⟩
def fT(ys:List Y):(oU ys).length=ys.length:=by simp[oU]
def gQ(tl:xx)(τ:jy)(L:qm)(R:List Y->(qm->Prop)->qm->Prop):Prop:=tl τ L λx L1=>match x with
 |.ref a=>sm L1 a λys keep L=>R (oU ys) keep L
 |.sq ys=>R (oU ys) (λ_=>True) L1
 |_=>False
def fQ{a:Expr}{p:Pos}(hg:Gl X "enumerate")(hm:X.mg "enumerate"=none)(ha:QE X a te)(hs:starEach [a] X.env=[(false,eval a X.env)]:=by rfl)
 (mn:starEach [a] X.env=(false,eval a X.env)::starEach [] X.env:=by rfl):QI X (.Tuple ml x1 tp) (.Call (.Name "enumerate" p) [a] [] pos) (gQ te):=PI.imq (ahc hg hm (aa ha gR mn) hs) λσ H R τ L R3 rs j z k=>by
 refine⟨τ,L,_,rs,j,z,λv g y l C I U o=>?_⟩;cases y with
 |ref a=>
  obtain⟨T,keep,es,kp,hk,z2⟩:=uN o;have hy:∀H L,je g H->jb X.g3 H L->keep L->∃J,a9 X.K H a J/\ve X.g3 H T J:=λH L _ j e=>eJ j (hk L e);obtain⟨J,sq,_⟩:=hy g l (ED _) I kp;cases U;exact⟨a,rfl,⟨J,sq⟩,k _ g _ _ l C I (kY hy) z2⟩
 |sq T=>
  obtain⟨a,J,e,sf,r⟩:=U;subst e;exact⟨a,rfl,⟨J,sf.sq⟩,k _ g _ (λ_=>True) l C I (kY λH L t _ _=>⟨J,(sf.ts t).sq,r.ts t⟩) o⟩
 |_=>exact o.elim
end L3
namespace L2
open PySem PySem.Spec PyProof.Rows
def iZ(t:Bool)(h:Heap)(it l:Addr)(k:Nat):Prop:=match t with
 |false=>h.IsListIter it l k
 |true=>h.IsTupleIter it l k
def pL(t:Bool)(h:Heap)(l:Addr)(xs:Array Value):Prop:=match t with
 |false=>h.IsList l xs
 |true=>h.IsTuple l xs
def iZ.on{k:Nat}(x:iZ t h it l k)(e:∀o,h.get? it=some o->h'.get? it=some o):iZ t h' it l k:=by cases t with|false=>exact Heap.IsListIter.at x e|true=>exact Heap.IsTupleIter.at x e
def pL.on{xs:Array Value}(x:pL t h l xs)(e:∀o,h.get? l=some o->h'.get? l=some o):pL t h' l xs:=by cases t with|false=>exact Heap.IsList.at x e|true=>exact Heap.IsTuple.at x e
def iZ.ob{k:Nat}(x:iZ t h it l k):∃o,h.get? it=some o/\∀v,o.data≠.cell v:=by
 cases t with
 |false=>obtain⟨o,e,c,d⟩:=x;exact⟨o,e,λv z=>by rw[d] at z;cases z⟩
 |true=>obtain⟨o,e,c,d⟩:=x;exact⟨o,e,λv z=>by rw[d] at z;cases z⟩
def yS(l:Addr):¬((Value.ref l==Value.none)=true):=AC
section
variable {w:World}
def vP{xs:Array Value}{x:Value}(hi:s.heap.IsTupleIter it l i)(U:s.heap.IsTuple l xs)(g:xs[i]?=some x)
 (q:∀h',h'.IsTupleIter it l (i+1)->Heap.SameBut it s.heap h'->Q x { s with heap:=h' }):wpAny (model prog w) A (Builtin.SmallTypes.nextOf (.ref it)) Q E s:=by
 obtain⟨o,J,ci,I⟩:=id hi;obtain⟨u,ul,_,n,dl⟩:=U;unfold Builtin.SmallTypes.nextOf;refine Aa (wpAny_callSpecial?_slot (name:="__next__") hi.typeIs xT (wpAny_call_entry xT hi.typeIs F.entry_tuple_iterator_next ?_ (F.args_tuple_iterator_next_1 _)));refine Aa (m:=field (.ref it) 0) (Ba J I (x:=.ref l) rfl ?_);rw[As (yS l)];refine Aa (m:=field (.ref it) 1) (Ba J I (x:=.int i 0) rfl (Aa (m:=seqItems? (.ref l)) (BF ul dl ?_)));simp only[Cg,g];refine Aa (wpAny_setField J I (by simp) (Ai ⟨x,rfl,Ai (q _ ⟨_,Dd _ J (Obj.isFreed_of_fields (Obj.data_mapFields I _)),(Obj.cls_mapFields ..).trans ci,?_⟩ (xp ..))⟩));rw[Obj.data_mapFields I];simp[rawInt]
def aa9{xs:Array Value}(U:A.handled=none)(hi:s.heap.IsTupleIter it l i)(g:s.heap.IsTuple l xs)(j:xs[i]?=none)
 (q:∀h' e,Heap.ExtBut it s.heap h'->(∃o,h'.get? e=some o/\o.cls=.type "StopIteration")->E (.ref e) { s with heap:=h' }):wpAny (model prog w) A (Builtin.SmallTypes.nextOf (.ref it)) Q E s:=by
 obtain⟨o,I,ci,J⟩:=id hi;obtain⟨u,ul,_,n,dl⟩:=g;unfold Builtin.SmallTypes.nextOf;refine Aa (wpAny_callSpecial?_slot (name:="__next__") hi.typeIs xT (wpAny_call_entry xT hi.typeIs F.entry_tuple_iterator_next ?_ (F.args_tuple_iterator_next_1 _)));refine Aa (m:=field (.ref it) 0) (Ba I J (x:=.ref l) rfl ?_);rw[As (yS l)];refine Aa (m:=field (.ref it) 1) (Ba I J (x:=.int i 0) rfl (Aa (m:=seqItems? (.ref l)) (BF ul dl ?_)));simp only[Cg,j];refine Aa (Bu (Aa (wpAny_setField I J (by simp) ?_)));refine Aa (m:=newExc (.type "StopIteration") []) ?_;simp only[newExc,newTuple];refine Aa (Bn (Aa (m:=firstArgMember _ _) (wpAny_of_eq (a:=Value.none) (by first|rfl|(simp only[firstArgMember];rfl)) (Bn ?_ (by size_fits)))) (by size_fits));simp only[raiseNew];refine Aa (wpAny_handled ?_)
 first|rw[show A.in1.handled=none from U]|rw[U]
 exact Aa (Ai (wpAny_throw (q _ _ (((xp ..).extBut.push _).push _) ⟨_,vc _ rfl,rfl⟩)))
def iZ.next{xs:Array Value}{x:Value}(hi:iZ t s.heap it l i)(I:pL t s.heap l xs)(J:xs[i]?=some x)
 (q:∀h',iZ t h' it l (i+1)->Heap.SameBut it s.heap h'->Q x { s with heap:=h' }):wpAny (model prog w) A (Builtin.SmallTypes.nextOf (.ref it)) Q E s:=by
 cases t with|false=>exact wpAny_nextOf_list_item hi I J q|true=>exact vP hi I J q
def iZ.stop{xs:Array Value}(I:A.handled=none)(hi:iZ t s.heap it l i)(J:pL t s.heap l xs)(U:xs[i]?=none)
 (q:∀h' e,Heap.ExtBut it s.heap h'->(∃o,h'.get? e=some o/\o.cls=.type "StopIteration")->E (.ref e) { s with heap:=h' }):wpAny (model prog w) A (Builtin.SmallTypes.nextOf (.ref it)) Q E s:=by
 cases t with|false=>exact wpAny_nextOf_list_end I hi J U q|true=>exact aa9 I hi J U q
structure ZAp(z TI TO i1 i2 l1 l2:Addr):Prop where
 n1:TI≠z
 n2:TO≠z
 n3:i1≠z
 n4:i2≠z
 n5:TO≠i1
 n6:TO≠i2
 n7:i1≠i2
 n8:l1≠z
 n9:l1≠TO
 n10:l1≠i1
 n11:l1≠i2
 n12:l2≠z
 n13:l2≠TO
 n14:l2≠i1
 n15:l2≠i2
def af0{z TI TO J U:Addr}{k:Nat}{xs ys:Array Value}{x y a b:Value}(D:ZAp z TI TO J U l1 l2)(hz:IsZip s.heap z TI TO .none)(hI:IsPair s.heap TI (.ref J) (.ref U))(hO:IsPair s.heap TO a b)
 (h1:iZ t1 s.heap J l1 k) (h2:iZ t2 s.heap U l2 k) (q1:pL t1 s.heap l1 xs) (q2:pL t2 s.heap l2 ys) (hx:xs[k]?=some x) (hy:ys[k]?=some y)
 (q:∀h',IsZip h' z TI TO (rawInt s.heap.objs.size)->IsPair h' TO x y->iZ t1 h' J l1 (k+1)->iZ t2 h' U l2 (k+1)->IsPair h' s.heap.objs.size x y->
  (∀c o,c≠z->c≠TO->c≠J->c≠U->s.heap.get? c=some o->h'.get? c=some o)->Q (.ref s.heap.objs.size) { s with heap:=h' }):
 wpAny (model prog w) A (Builtin.«zip.__next__» ⟨[.ref z],[]⟩) (λk6 s'=>∃v,k6=.done (.ret v)/\Q v s') E s:=by
 refine Aa (m:=field (.ref z) 2) (Ba hz rfl (x:=.bool false) rfl (Aa (m:=field (.ref z) 3) (Ba hz rfl (x:=.ref TI) rfl (Aa (BF hI rfl ?_)))));refine Aa (m:=Builtin.SmallTypes.ownedTupleIsFree (.ref z)) ?_;unfold Builtin.SmallTypes.ownedTupleIsFree;refine Aa (Ba hz rfl (x:=.none) rfl (Ai ?_));simp only[if_true];refine Aa (Bu (Aa (Ba hz rfl (x:=.ref TO) rfl (Aa (wpAny_setField_rec hz (by simp) λg1 z1 g=>?_)))));have a5:IsZip g1 z TI TO .ellipsis:=z1;refine Aa ?_;simp only[DU,List.zipIdx_nil,CZ,Em];refine Aa (Aa (wpAny_onRaise (Aa (m:=Builtin.SmallTypes.nextOf (.ref J)) ((h1.on λo e=>g.extBut _ _ D.n3 e).next (q1.on λo e=>g.extBut _ _ D.n8 e) hx λg2 ab p=>Ai ?_))));have O2:IsPair g2 TO a b:=p.extBut _ _ D.n5 (g.extBut _ _ D.n2 hO);refine Aa (BF O2 rfl (Aa (wpAny_updateSeq_pair O2 λg3 O3 r=>Aa (wpAny_letGo (Ai ?_)))));have ac:IsPair g3 TO x b:=O3;refine Aa (Aa (wpAny_onRaise (Aa (m:=Builtin.SmallTypes.nextOf (.ref U)) (iZ.next (l:=l2) (i:=k) (xs:=ys) (x:=y) (t:=t2) (h2.on λo e=>r.extBut _ _ (AH D.n6) (p.extBut _ _ (AH D.n7) (g.extBut _ _ D.n4 e)))
  (q2.on λo e=>r.extBut _ _ D.n13 (p.extBut _ _ D.n14 (g.extBut _ _ D.n12 e))) hy λg4 aL C=>Ai ?_))))
 have O4:IsPair g4 TO x b:=C.extBut _ _ D.n6 ac;refine Aa (BF O4 rfl (Aa (wpAny_updateSeq_pair O4 λI O5 T=>Aa (wpAny_letGo (Ai (Ai ?_))))));have a0:IsPair I TO x y:=O5;refine Aa (BF a0 rfl (Aa (wpAny_newTuple ?_)));have sz:I.objs.size=s.heap.objs.size:=by rw[T.1,C.1,r.1,p.1,g.1]
 have z5:IsZip I z TI TO .ellipsis:=T.extBut _ _ (AH D.n2) (C.extBut _ _ (AH D.n4) (r.extBut _ _ (AH D.n2) (p.extBut _ _ (AH D.n3) a5)));have k5:∀c o,c≠z->c≠TO->c≠J->c≠U->s.heap.get? c=some o->I.get? c=some o:=λc o j a2 a3 a4 e=>T.extBut _ _ a2 (C.extBut _ _ a4 (r.extBut _ _ a2 (p.extBut _ _ a3 (g.extBut _ _ j e))));have zl:z<I.objs.size:=vb z5;refine Aa (m:=Builtin.SmallTypes.ownedTupleHandOut (.ref z) (.ref I.objs.size)) ?_;unfold Builtin.SmallTypes.ownedTupleHandOut;refine Aa (wpAny_setField_rec (show IsZip (I.push { cls:=.type "tuple",data:=.seq #[x,y] }) z TI TO .ellipsis from u3 _ z5) (by simp) λg7 z7 e7=>?_);have ba:IsZip g7 z TI TO (rawInt I.objs.size):=z7;refine wpAny_setField_rec ba (by simp) λg8 z8 e8=>Ai ⟨_,rfl,?_⟩;have bb:IsZip g8 z TI TO (rawInt I.objs.size):=z8;have up:∀c o,c≠z->I.get? c=some o->g8.get? c=some o:=λc o j e=>e8.extBut _ _ j (e7.extBut _ _ j (u3 _ e));have T8:IsPair g8 I.objs.size x y:=e8.extBut _ _ (C9 zl) (e7.extBut _ _ (C9 zl) (vc _ rfl));have k6:=q g8 (by rw[<-sz];exact bb) (up _ _ D.n2 a0) (ab.on λo e=>up _ o D.n3 (T.extBut _ _ (AH D.n5) (C.extBut _ _ D.n7 (r.extBut _ _ (AH D.n5) e)))) (aL.on λo e=>up _ o D.n4 (T.extBut _ _ (AH D.n6) e))
  (by rw[<-sz];exact T8) λc o j a2 a3 a4 e=>up c o j (k5 c o j a2 a3 a4 e)
 show Q (.ref I.objs.size) _;rw[sz];exact k6
def ac8{z TI TO J U:Addr}{k:Nat}{xs ys:Array Value}{a b:Value}{Q:Fin->Shared->Prop}(hh:A.handled=none)(D:ZAp z TI TO J U l1 l2)(hz:IsZip s.heap z TI TO .none)(hI:IsPair s.heap TI (.ref J) (.ref U))(hO:IsPair s.heap TO a b)
 (h1:iZ t1 s.heap J l1 k) (h2:iZ t2 s.heap U l2 k) (q1:pL t1 s.heap l1 xs) (q2:pL t2 s.heap l2 ys) (g:xs[k]?=none\/ys[k]?=none)
 (q:∀h' e,(∀c o,c≠z->c≠TO->c≠J->c≠U->s.heap.get? c=some o->h'.get? c=some o)->(∃o,h'.get? e=some o/\o.cls=.type "StopIteration")->E (.ref e) { s with heap:=h' }):
 wpAny (model prog w) A (Builtin.«zip.__next__» ⟨[.ref z],[]⟩) Q E s:=by
 refine Aa (m:=field (.ref z) 2) (Ba hz rfl (x:=.bool false) rfl (Aa (m:=field (.ref z) 3) (Ba hz rfl (x:=.ref TI) rfl (Aa (BF hI rfl ?_)))));refine Aa (m:=Builtin.SmallTypes.ownedTupleIsFree (.ref z)) ?_;unfold Builtin.SmallTypes.ownedTupleIsFree;refine Aa (Ba hz rfl (x:=.none) rfl (Ai ?_));simp only[if_true];refine Aa (Bu (Aa (Ba hz rfl (x:=.ref TO) rfl (Aa (wpAny_setField_rec hz (by simp) λg1 z1 I=>?_)))));have j:IsZip g1 z TI TO .ellipsis:=z1;refine Aa ?_;simp only[DU,List.zipIdx_nil,CZ,Em];refine Aa (Aa (wpAny_onRaise (Aa (m:=Builtin.SmallTypes.nextOf (.ref J)) ?_)));have p:=h1.on λo e=>I.extBut _ _ D.n3 e;have r:=q1.on λo e=>I.extBut _ _ D.n8 e;cases hx:xs[k]? with
 |none=>
  refine iZ.stop hh p r hx λg2 e s2 he=>?_;obtain⟨oe,ge,ce⟩:=he;have z2:IsZip g2 z TI TO .ellipsis:=s2 _ _ (AH D.n3) j;have nz:e≠z:=λw=>by subst w;rw[z2] at ge;cases ge;simp at ce
  exact wpAny_setField_rec z2 (by simp) λg3 _ s3=>q g3 e (λc o C _ a3 _ w=>s3.extBut _ _ C (s2 _ _ a3 (I.extBut _ _ C w))) ⟨oe,s3.extBut _ _ nz ge,ce⟩
 |some x=>
  have hy:ys[k]?=none:=by rcases g with h|h;rw[hx] at h;cases h;exact h
  refine iZ.next p r hx λg2 a0 T=>Ai ?_;have O2:IsPair g2 TO a b:=T.extBut _ _ D.n5 (I.extBut _ _ D.n2 hO);refine Aa (BF O2 rfl (Aa (wpAny_updateSeq_pair O2 λg3 O3 e3=>Aa (wpAny_letGo (Ai ?_)))));refine Aa (Aa (wpAny_onRaise (Aa (m:=Builtin.SmallTypes.nextOf (.ref U)) (iZ.stop (t:=t2) (l:=l2) (i:=k) (xs:=ys) hh (h2.on λo e=>e3.extBut _ _ (AH D.n6) (T.extBut _ _ (AH D.n7) (I.extBut _ _ D.n4 e)))
   (q2.on λo e=>e3.extBut _ _ D.n13 (T.extBut _ _ D.n14 (I.extBut _ _ D.n12 e))) hy λg4 e s4 he=>?_))))
  obtain⟨oe,ge,ce⟩:=he;have z4:IsZip g4 z TI TO .ellipsis:=s4 _ _ (AH D.n4) (e3.extBut _ _ (AH D.n2) (T.extBut _ _ (AH D.n3) j));have nz:e≠z:=λw=>by subst w;rw[z4] at ge;cases ge;simp at ce
  exact wpAny_setField_rec z4 (by simp) λg5 _ s5=>q g5 e (λc o C a2 a3 a4 w=>s5.extBut _ _ C (s4 _ _ a4 (e3.extBut _ _ a2 (T.extBut _ _ a3 (I.extBut _ _ C w))))) ⟨oe,s5.extBut _ _ nz ge,ce⟩
end
def ad1(t:Bool):String:=if t then "tuple_iterator" else "list_iterator"
section
variable {w:World}
def pL.iter{xs:Array Value}(I:pL t s.heap l xs)(q:Q (.ref s.heap.objs.size) { s with heap:=s.heap.push { cls:=.type (ad1 t),data:=.fields #[.ref l,.int 0 0] } }):wpAny (model prog w) A (pyIter (.ref l)) Q E s:=by cases t with|false=>exact wpAny_pyIter_list I q|true=>exact wpAny_pyIter_tuple I q
end
def iZ.new(e:h.get? it=some { cls:=.type (ad1 t),data:=.fields #[.ref l,.int 0 0] }):iZ t h it l 0:=by cases t with|false=>exact⟨_,e,rfl,rfl⟩|true=>exact⟨_,e,rfl,rfl⟩
abbrev zh1(t1:Bool)(h:Heap)(l1:Addr):Heap:=h.push { cls:=.type (ad1 t1),data:=.fields #[.ref l1,.int 0 0] }
abbrev zh2(t1 t2:Bool)(h:Heap)(l1 l2:Addr):Heap:=(zh1 t1 h l1).push { cls:=.type (ad1 t2),data:=.fields #[.ref l2,.int 0 0] }
abbrev zh3(t1 t2:Bool)(h:Heap)(l1 l2:Addr):Heap:=(zh2 t1 t2 h l1 l2).push { cls:=.type "tuple",data:=.seq #[.ref h.objs.size,.ref (zh1 t1 h l1).objs.size] }
abbrev zh4(t1 t2:Bool)(h:Heap)(l1 l2:Addr):Heap:=(zh3 t1 t2 h l1 l2).push { cls:=.type "tuple",data:=.seq #[.none,.none] }
abbrev zh5(t1 t2:Bool)(h:Heap)(l1 l2:Addr):Heap:=(zh4 t1 t2 h l1 l2).push { cls:=.type "zip",data:=.fields #[.none,.bool false,.bool false,.ref (zh2 t1 t2 h l1 l2).objs.size,.ref (zh3 t1 t2 h l1 l2).objs.size] }
def xQ(t1 t2:Bool)(l1 l2:Addr)(xs ys:Array Value):Meets (Builtin.«zip.__new__» ⟨[.type "zip",.ref l1,.ref l2],[]⟩) (λ_ R s=>pL t1 s.heap l1 xs/\pL t2 s.heap l2 ys/\R (.ok (.ret (.ref (zh4 t1 t2 s.heap l1 l2).objs.size))) { s with heap:=zh5 t1 t2 s.heap l1 l2 }):=
 .of_wp λI w A R s h=>by
  obtain⟨J,g,d,U,os⟩:=s;obtain⟨l,p,h⟩:=h;have j:=sub_zip;have r:pL t1 (Shared.heap ⟨J,g,d,U,os⟩) l1 xs:=l;have t:pL t2 (Shared.heap ⟨J.push { cls:=.type (ad1 t1),data:=.fields #[.ref l1,.int 0 0] },g,d,U,os⟩) l2 ys:=p.on λo e=>u3 _ e
  wp_walk using pL.iter r,pL.iter t
  exact⟨_,rfl,h⟩
def zQ{w:World}{xs ys:Array Value}(p:pL t1 s.heap l1 xs)(r:pL t2 s.heap l2 ys)
 (q:∀h',IsZip h' (s.heap.objs.size+4) (s.heap.objs.size+2) (s.heap.objs.size+3) .none->IsPair h' (s.heap.objs.size+2) (.ref s.heap.objs.size) (.ref (s.heap.objs.size+1))->IsPair h' (s.heap.objs.size+3) .none .none->
  iZ t1 h' s.heap.objs.size l1 0->iZ t2 h' (s.heap.objs.size+1) l2 0->(∀c o,s.heap.get? c=some o->h'.get? c=some o)->Q (.ref (s.heap.objs.size+4)) { s with heap:=h' }):
 wpAny (model prog w) A (call (.type "zip") [.ref l1,.ref l2]) Q E s:=by
 refine callType_new F.called_zip (by decide) (F.typeCall_zip_2 _ _) (F.newCall_zip_2 _ _) (λobj=>F.args_object_init_3 obj _ _) F.entry_zip_new (xQ t1 t2 l1 l2 xs ys) ⟨p,r,?_⟩;have I:(zh1 t1 s.heap l1).objs.size=s.heap.objs.size+1:=At ..;have J:(zh2 t1 t2 s.heap l1 l2).objs.size=s.heap.objs.size+2:=by rw[At,I]
 have U:(zh3 t1 t2 s.heap l1 l2).objs.size=s.heap.objs.size+3:=by rw[At,J]
 have j:(zh4 t1 t2 s.heap l1 l2).objs.size=s.heap.objs.size+4:=by rw[At,U]
 have g:(zh5 t1 t2 s.heap l1 l2).get? (zh4 t1 t2 s.heap l1 l2).objs.size=some _:=vc _ rfl;have l:(zh5 t1 t2 s.heap l1 l2).get? (zh3 t1 t2 s.heap l1 l2).objs.size=some _:=u3 _ (vc _ rfl);have g3:(zh5 t1 t2 s.heap l1 l2).get? (zh2 t1 t2 s.heap l1 l2).objs.size=some _:=u3 _ (u3 _ (vc _ rfl));have g2:(zh5 t1 t2 s.heap l1 l2).get? (zh1 t1 s.heap l1).objs.size=some _:=u3 _ (u3 _ (u3 _ (vc _ rfl)));have g1:(zh5 t1 t2 s.heap l1 l2).get? s.heap.objs.size=some _:=u3 _ (u3 _ (u3 _ (u3 _ (vc _ rfl))));show _/\_;rw[J,U,j] at g;rw[I,J] at g3;rw[U] at l;rw[I] at g2;rw[j];exact⟨⟨_,g,rfl⟩,q _ g g3 l (iZ.new g1) (iZ.new g2) λc o e=>u3 _ (u3 _ (u3 _ (u3 _ (u3 _ e))))⟩
def Sq(t:Bool)(K:Ae)(H:Hp)(a:Addr)(xs:List V):Prop:=match t with
 |false=>a9 K H a xs
 |true=>dq K H a xs
section
variable {σ:L2.St}
def z9.seq{a:Addr}(I:z9 X pins σ H s)(h:Sq t X.K H a xs):∃eH:List Value,zq xs eH/\pL t s.heap a eH.toArray/\xs.length<=sizeLine:=by
 cases t with
 |false=>obtain⟨eH,v,p,z⟩:=I.list h;exact⟨eH,v,p.isList,z⟩
 |true=>obtain⟨eH,v,p,z⟩:=I.tuple h;exact⟨eH,v,p,z⟩
def z9.seq_inj{a:Addr}{ys:List V}(I:z9 X pins σ H s)(h:Sq t X.K H a xs)(h':Sq t X.K H a ys):xs=ys:=by cases t with|false=>exact I.list_inj h h'|true=>exact I.tuple_inj h h'
end
def Itz(t1 t2:Bool)(K:Ae)(a b:Addr):It:=
 ⟨λi H=>∃xs ys x y,Sq t1 K H a xs/\Sq t2 K H b ys/\xs[i]?=some x/\ys[i]?=some y,
  λi H v H'=>∃p x y,H p=none/\v=.ref p/\H'=upd H p (.tup [x,y])/\(∀xs,Sq t1 K H a xs->xs[i]?=some x)/\∀ys,Sq t2 K H b ys->ys[i]?=some y,
  λi H=>∃xs ys,Sq t1 K H a xs/\Sq t2 K H b ys/\(xs.length<=i\/ys.length<=i)⟩
def ad0{P:Program}{w:World}{K:Ae}(a b z TI TO l p:Addr)(D:ZAp z TI TO l p a b)(d1:TI≠TO)(d2:TI≠l)(d3:TI≠p):
 aau P w K (.Tuple ml x1 tp) (Itz t1 t2 K a b) [z,TI,TO,l,p] z (λi h=>IsZip h z TI TO .none/\IsPair h TI (.ref l) (.ref p)/\(∃u v,IsPair h TO u v)/\iZ t1 h l a i/\iZ t2 h p b i) where
 mem:=by simp
 obj:=λi h ⟨U,r,⟨u,v,t⟩,C,h2⟩ c j=>by
  simp only[Ax,A9,or_false] at j;rcases j with rfl|rfl|rfl|rfl|rfl
  ·exact⟨_,U,λv z=>by cases z⟩
  ·exact⟨_,r,λv z=>by cases z⟩
  ·exact⟨_,t,λv z=>by cases z⟩
  ·exact C.ob
  ·exact h2.ob
 keep:=λi h h' ⟨U,r,⟨u,v,t⟩,C,h2⟩ k=>⟨k z (by simp) _ U,k TI (by simp) _ r,⟨u,v,k TO (by simp) _ t⟩,C.on λo q=>k l (by simp) o q,h2.on λo q=>k p (by simp) o q⟩
 item:=by
  intro X hP hw hK j i a2 s σ H E I hf ⟨U,r,⟨u,v,t⟩,C,h2⟩ hg;subst hP hw hK;obtain⟨xs,ys,x,y,q1,q2,hx,hy⟩:=hg;obtain⟨a3,a0,p1,_⟩:=I.seq q1;obtain⟨a4,a1,p2,_⟩:=I.seq q2;obtain⟨ux,a5,ab⟩:=a0.get hx;obtain⟨uy,ac,aL⟩:=a1.get hy;have hT:s.TypeIs (.ref z) "zip" := ⟨_,U,rfl⟩;unfold pyNext;refine Aa (wpAny_attempt (wpAny_callSpecial?_slot (name:="__next__") hT DT (wpAny_call_entry DT hT F.entry_zip_next
   (af0 D U r t C h2 p1 p2 (x:=ux) (y:=uy) (by simpa using a5) (by simpa using ac) λg1 gz gO ba bb gT gk=>Ai ⟨.ref s.heap.objs.size,rfl,wpAny_letOwnedTupleGo_zip gz λg2 bc J=>?_⟩) (F.args_zip_next_1 _))))
  have lz:z<s.heap.objs.size:=vb U;have bd:∀c∈[z,TI,TO,l,p],c<s.heap.objs.size:=λc j=>by
   simp only[Ax,A9,or_false] at j;rcases j with rfl|rfl|rfl|rfl|rfl
   ·exact lz
   ·exact vb r
   ·exact vb t
   ·obtain⟨o,e,_⟩:=C.ob;exact vb e
   ·obtain⟨o,e,_⟩:=h2.ob;exact vb e
  have kk:∀c o,c∉[z,TI,TO,l,p]->s.heap.get? c=some o->g2.get? c=some o:=λc o g q=>by simp only[Ax,A9,or_false,not_or] at g;exact J.extBut c o g.1 (gk c o g.1 g.2.2.1 g.2.2.2.1 g.2.2.2.2 q)
  have tg:g2.get? s.heap.objs.size=some { cls:=.type "tuple",data:=.seq #[ux,uy] }:=J.extBut _ _ (C9 lz) gT;refine⟨.ref s.heap.objs.size,upd H s.heap.objs.size (.tup [x,y]),?_,rfl,⟨_,x,y,I.hok.fresh (Al _),rfl,rfl,λzs hq=>by rw[I.seq_inj hq q1];exact hx,λzs hq=>by rw[I.seq_inj hq q2];exact hy⟩,?_,λc j=>?_⟩
  ·exact I.turnedN (t':=s.toks) kk hf (Al _) ⟨by show 2<=sizeLine;decide,[ux,uy],.cons ab (.cons aL .nil),⟨_,tg,rfl,_,rfl⟩⟩
  ·exact⟨bc,J.extBut _ _ D.n1 (gk _ _ D.n1 d1 d2 d3 r),⟨_,_,J.extBut _ _ D.n2 gO⟩,ba.on λo q=>J.extBut _ _ D.n3 q,bb.on λo q=>J.extBut _ _ D.n4 q⟩
  ·rw[qt (A4 (bd c j))];exact(hf c j).1
 done:=by
  intro X hP hw hK j i a2 s σ H E I hf ⟨U,r,⟨u,v,t⟩,C,h2⟩ hg;subst hP hw hK;obtain⟨xs,ys,q1,q2,hl⟩:=hg;obtain⟨a3,a0,p1,_⟩:=I.seq q1;obtain⟨a4,a1,p2,_⟩:=I.seq q2;have l1:=a0.length;have l2:=a1.length;have hT:s.TypeIs (.ref z) "zip" := ⟨_,U,rfl⟩;unfold pyNext;refine Aa (wpAny_attempt (wpAny_callSpecial?_slot (name:="__next__") hT DT (wpAny_call_entry DT hT F.entry_zip_next
   (ac8 (I.ok.hd j) D U r t C h2 p1 p2 (by rcases hl with h|h;exact .inl (by simp;lia);exact .inr (by simp;lia)) λg1 e gk he=>?_) (F.args_zip_next_1 _))))
  obtain⟨o,ho,be⟩:=he;refine Aa (wpAny_isInstance (T:="StopIteration") (b:=true) ⟨o,ho,be⟩ isSubtype_stop (Ai ⟨rfl,?_⟩));exact I.turnedL (t':=s.toks) (fp:=[z,TI,TO,l,p]) (λc o g q=>by simp only[Ax,A9,or_false,not_or] at g;exact gk c o g.1 g.2.2.1 g.2.2.2.1 g.2.2.2.2 q) hf
 self:=λ_ _ _ _ _ ⟨U,_⟩ h=>wpAny_pyIter_zip U h
def aqc(K:Ae)(ta:TA):TI:=λσ H R=>ta σ H λvs H1=>∃t1 t2 a b,vs=[.ref a,.ref b]/\(∃xs,Sq t1 K H1 a xs)/\(∃xs,Sq t2 K H1 b xs)/\R (Itz t1 t2 K a b) H1
def akw:bootBuiltins "zip"=some (.type "zip"):=by decide +kernel
def am4{a b:Expr}{ta:TA}{p:Pos}(hg:Gl X "zip")(hm:X.mg "zip"=none)(ha:PA X [a,b] ta)(hs:starEach [a,b] X.env=[(false,eval a X.env),(false,eval b X.env)]:=by rfl)
 (mn:starEach [b] X.env=[(false,eval b X.env)]:=by rfl):PI X (.Tuple ml x1 tp) (.Call (.Name "zip" p) [a,b] [] pos) (aqc X.K ta):=by
 intro U s σ H R I h;refine Call_ (gg I hg hm akw (B4 (aT (ha pos U s σ H _ I h) λus J ⟨vs,H1,g,r1,q1⟩=>?_) (by rw[hs,mn]) (by rw[mn];rfl)));obtain⟨t1,t2,l,r,e,⟨xs,hx⟩,⟨ys,hy⟩,q⟩:=q1;subst e;obtain⟨u1,u2,rfl,t,C⟩:=zq.two r1;cases t;cases C;obtain⟨ab,_,T,_⟩:=g.seq hx;obtain⟨ac,_,p2,_⟩:=g.seq hy;have a0:l<J.heap.objs.size:=by
  cases t1 with
  |false=>obtain⟨o,e,_⟩:=T;exact vb e
  |true=>obtain⟨o,e,_⟩:=T;exact vb e
 have a1:r<J.heap.objs.size:=by
  cases t2 with
  |false=>obtain⟨o,e,_⟩:=p2;exact vb e
  |true=>obtain⟨o,e,_⟩:=p2;exact vb e
 refine zQ T p2 λg1 gz gI gO a2 a3 gk=>?_;have I2:z9 X U σ H1 { J with heap:=g1 }:=g.kept (t':=J.toks) gk;refine wpAny_pyIter_zip (s:={ J with heap:=g1 }) gz ?_;refine⟨_,[_,J.heap.objs.size+2,J.heap.objs.size+3,J.heap.objs.size,J.heap.objs.size+1],_,_,H1,rfl,I2,ad0 l r _ _ _ _ _ ?_ (vA (by lia)) (vA (by lia)) (vA (by lia)),⟨gz,gI,⟨_,_,gO⟩,a2,a3⟩,λc hc=>?_,q⟩
 ·have a4:@LT.lt Nat instLTNat l J.heap.objs.size:=a0;have a5:@LT.lt Nat instLTNat r J.heap.objs.size:=a1;constructor<;>exact vA (by lia)
 ·have j:J.heap.objs.size<=c:=by simp only[Ax,A9,or_false] at hc;rcases hc with rfl|rfl|rfl|rfl|rfl<;>exact leN (by simp +arith only)
  exact g.fpOk j (g.hok.fresh j)
end L2
namespace L3
open PySem L2
def sJ(I:qm):Y->qm->Prop
 |.ref a,L=>L a=I a
 |_,_=>True
theorem lA(L:qm):∀y:Y,sJ L y L
 |.ref _=>rfl
 |.non=>trivial
 |.bl _=>trivial
 |.int _=>trivial
 |.str _=>trivial
 |.ty _=>trivial
 |.cd _=>trivial
 |.tup _=>trivial
 |.sq _=>trivial
def yH{H1:Hp}(r:RV G H1 y v)(h:cj L1 y=some ys):∃t p,v=.ref p/\∀H L,je H1 H->jb G H L->sJ L1 y L->∃xs,Sq t G.K H p xs/\ve G H ys xs:=by
 cases y with
 |tup I=>
  obtain⟨a,xs,e,s,q⟩:=r;cases h;exact⟨true,a,e,λH L t _ _=>⟨xs,dq.ts s t,q.ts t⟩⟩
 |sq I=>
  obtain⟨a,xs,e,s,q⟩:=r;cases h;exact⟨false,a,e,λH L t _ _=>⟨xs,(s.ts t).sq,q.ts t⟩⟩
 |ref a=>
  have e:=jG h;exact⟨false,a,r,λH L _ J U=>let ⟨xs,g,q⟩:=J a _ (U.trans e);⟨xs,EU g,q⟩⟩
 |_=>cases h
def wQ(xs ys:List Y):List Y:=List.zipWith (λa b=>Y.tup [a,b]) xs ys
def y9{xs:List Y}(h:(wQ xs ys)[i]?=some y):∃a b,xs[i]?=some a/\ys[i]?=some b/\y=.tup [a,b]:=by
 unfold wQ at h;rw[List.getElem?_zipWith] at h;cases I:xs[i]? with
 |none=>rw[I] at h;simp at h
 |some a=>
  cases J:ys[i]? with|none=>rw[I,J] at h;simp at h|some b=>rw[I,J] at h;simp at h;exact⟨a,b,rfl,rfl,h.symm⟩
def oB(xs ys:List Y):(wQ xs ys).length=min xs.length ys.length:=by simp[wQ]
def wO{a b:Addr}{xs:List Y}{keep:qm->Prop}(h1:∀H L,je H₀ H->jb G H L->keep L->∃us,Sq t1 G.K H a us/\ve G H xs us)(h2:∀H L,je H₀ H->jb G H L->keep L->∃us,Sq t2 G.K H b us/\ve G H ys us):
 gM G H₀ (Itz t1 t2 G.K a b) (wQ xs ys) keep where
 go:=λi H L t I J hi=>by obtain⟨us,g,j⟩:=h1 H L t I J;obtain⟨U,l,o⟩:=h2 H L t I J;rw[oB] at hi;have l1:=j.length;have l2:=o.length;exact⟨us,U,us[i]'(by lia),U[i]'(by lia),g,l,Aj _,Aj _⟩
 yld:=λi H L x H' y t I J hy ⟨p,u,v,r,e1,e2,f1,f2⟩=>by subst e1 e2;obtain⟨us,g,j⟩:=h1 H L t I J;obtain⟨U,l,o⟩:=h2 H L t I J;obtain⟨c,d,ec,ed,rfl⟩:=y9 hy;obtain⟨u',eu,ru⟩:=j.get ec;obtain⟨v',ev,rv⟩:=o.get ed;have C:=f1 us g;rw[eu] at C;cases C;have T:=f2 U l;rw[ev] at T;cases T;exact⟨EE r,I.skip r,p,_,rfl,dq.of j8,⟨_,_,rfl,ru.ts (EE r),_,_,rfl,rv.ts (EE r),rfl⟩⟩
 stop:=λH L t I J=>by obtain⟨us,g,j⟩:=h1 H L t I J;obtain⟨U,l,o⟩:=h2 H L t I J;have l1:=j.length;have l2:=o.length;exact⟨us,U,g,l,by rw[oB];lia⟩
def aja(ta:fC)(τ:jy)(L:qm)(R:List Y->(qm->Prop)->qm->Prop):Prop:=ta τ L λvs L1=>match vs with
 |[x,y]=>jN L1 x λxs=>jN L1 y λys=>R (wQ xs ys) (λL=>sJ L1 x L/\sJ L1 y L) L1
 |_=>False
def am5{a b:Expr}{p:Pos}(hg:Gl X "zip")(hm:X.mg "zip"=none)(ha:QA X [a,b] tr)(hs:starEach [a,b] X.env=[(false,eval a X.env),(false,eval b X.env)]:=by rfl)
 (mn:starEach [b] X.env=[(false,eval b X.env)]:=by rfl):QI X (.Tuple ml x1 tp) (.Call (.Name "zip" p) [a,b] [] pos) (aja tr):=PI.imq (am4 hg hm ha hs mn) λσ H R τ L R3 rs U z k=>by
 refine⟨τ,L,_,rs,U,z,λvs g ys j t1 I l J=>?_⟩;split at J
 ·rename_i x y;obtain⟨u,v,rfl,ru,rv⟩:=l.inv2;obtain⟨xs,ex,J⟩:=ai J;obtain⟨zs,ez,J⟩:=ai J;obtain⟨o,p1,rfl,T⟩:=yH ru ex;obtain⟨r,p2,rfl,k2⟩:=yH rv ez;obtain⟨us,s1,_⟩:=T g j (ED _) I (lA _ _);obtain⟨ws,s2,_⟩:=k2 g j (ED _) I (lA _ _);exact⟨o,r,p1,p2,rfl,⟨us,s1⟩,⟨ws,s2⟩,k _ g _ _ j t1 I (wO (λH L t U C=>T H L t U C.1) λH L t U C=>k2 H L t U C.2) J⟩
 ·exact J.elim
def hU(xs:List Y)(L:qm)(Q:YK):Prop:=match xs with
 |[x]=>jN L x λys=>∀p,L p=none->Q (.ref p) (qe L p (.lst ys))
 |_=>False
def oM :xi X (.type "list") (upL X.g3 hU):=xi.imq r9 λt H Q C L T U I z k=>by
 unfold hU at z;split at z
 ·rename_i x;obtain⟨u,rfl,g⟩:=U.inv1;obtain⟨zs,j,z⟩:=ai z;obtain⟨p,o,e,sq,r⟩:=qT I g j;subst e;exact⟨p,o,rfl,sq,λl J=>k _ _ _ _ (EE J) (I.newL J r) (by rfl) (z l (I.none J))⟩
 ·exact z.elim
def iH{T:String}{p:Pos}{r:List Y->qm->YK->Prop}(hc:xi X (.type T) (upL X.g3 r))(U:Gl X x)(g:X.mg x=none)(j:bootBuiltins x=some (.type T))(h:QA X (e::es) tr)
 (l:x ≠ "__name__" := by decide) (hd:Ew x:=by decide) (hs:Et e es X:=by rfl) (hp:Eu pos es X:=by rfl):
 QE X (.Call (.Name x p) (e::es) [] pos) (cY r tr):=EF (im hc U g j h l hd hs hp) λσ H Q o L t C rl z k=>
 ⟨o,L,_,C,rl,z,λvs H1 ys L1 t1 I J z1=>⟨ys,L1,t,J,I,z1,k.ts t1⟩⟩
def dN(x:Y)(vs:List Y)(L:qm)(Q:YK):Prop:=match x,vs with
 |.ref a,[.int i]=>dr L a λys=>0<=i/\i<ys.length/\yc L (λv L=>Q v (qe L a (.lst (ys.eraseIdx i.toNat)))) (ys[i.toNat]?)
 |_,_=>False
def agt :iy X "list.pop" (upM X.g3 dN):=λJ s l H x xs v o Q I p t ⟨y,ys,L,Q3,C,T,j,z,k⟩=>by
 unfold dN at z;split at z
 ·rename_i a i;obtain⟨zs,e,h0,h1,z⟩:=vq z;obtain⟨ws,U,r⟩:=j a _ e;obtain⟨i',rfl,ri⟩:=T.inv1;cases ri;cases g:zs[i.toNat]? with
  |none=>rw[g] at z;exact z.elim
  |some w=>
   rw[g] at z;obtain⟨u,eu,ru⟩:=r.get g;obtain⟨_,_,_,hz⟩:=I.list (EU U);have hl:=r.length;have hs:sizeLine<2 ^ 62:=by decide
   refine afj J s l H x _ v o Q I p t ⟨a,ws,i,i.toNat,u,C,rfl,U,by lia,by lia,?_,eu,k _ _ _ _ (EO U) (j.setL U (r.eraseIdx _)) (ru.ts (EO U)) z⟩;unfold seqIndex?;rw[As (show ¬i<0 by lia),Aw (by simp;lia)]
 ·exact z.elim
def cX(I:QE X o to)(J:QA X (e::es) tr)(U:attributeBase o "pop" X.env (eval o X.env)=eval o X.env:=by rfl)
 (g:((backTo eK (starEach (e::es) X.env)).all (λx=>!x.1)&&(backToKw eK (keywordEach [] X.env)).all (λx=>x.1.isSome)&&decide ((e::es).length+([]:List Keyword).length+(if ([]:List Keyword).isEmpty=true then 0 else 1)<30))=true:=by rfl)
 (j:(apos.endLine==eK.line)=true:=by rfl) (l:Et e es X:=by rfl) (p:Eu eK es X:=by rfl):
 QE X (.Call (.Attribute o "pop" apos) (e::es) [] eK) (am dN to tr):=rq PySem.F.slot_list_pop PySem.F.type_list_pop agt I J U g j l p
end L3
namespace L2
open PySem PySem.Spec PyProof.Rows
def yZ(i:Int)(n d:Nat):max 0 (min (if i<0 then i+(n:Int) else i) n)=((HT.sIx n d (some i):Nat):Int):=by
 simp only[HT.sIx];by_cases h:i<0
 ·simp only[h,if_true]<;>lia
 ·simp only[h,if_false]<;>lia
def aad(l u:Option Int)(n:Nat):Builtin.Str.strSliceIndices l u 1 n=(List.range (HT.sIx n n u-HT.sIx n 0 l)).map (HT.sIx n 0 l+·):=by
 have z:(0:Int)=((HT.sIx n 0 none:Nat):Int):=rfl;have y:(n:Int)=((HT.sIx n n none:Nat):Int):=rfl;unfold Builtin.Str.strSliceIndices;cases l with
 |none=>
  cases u with
  |none=>exact sliceRange_one 0 n
  |some j=>
   show sliceRange 0 (max 0 (min (if j<0 then j+(n:Int) else j) n)) 1=_;rw[yZ j n n];exact sliceRange_one 0 _
 |some i=>
  cases u with
  |none=>
   show sliceRange (max 0 (min (if i<0 then i+(n:Int) else i) n)) n 1=_;rw[yZ i n 0];exact sliceRange_one _ n
  |some j=>
   show sliceRange (max 0 (min (if i<0 then i+(n:Int) else i) n)) (max 0 (min (if j<0 then j+(n:Int) else j) n)) 1=_;rw[yZ i n 0,yZ j n n];exact sliceRange_one _ _
def pX(x:Str)(l u:Option Int):(Txt.slice x l u).cps.toList=(x.cps.toList.drop (HT.sIx x.length 0 l)).take (HT.sIx x.length x.length u-HT.sIx x.length 0 l):=by
 have U:x.length=x.cps.toList.length:=by simp[Str.length]
 have I:=pick_run x.cps (HT.sIx x.length 0 l) (HT.sIx x.length x.length u-HT.sIx x.length 0 l);unfold Txt.slice;rw[aad];split
 ·rename_i h;simp only[beq_self_eq_true,DQ,Af,A5,beq_iff_eq] at h;have g:=HT.sIx_le x.length 0 (Bo _) l;have j:=HT.sIx_le x.length x.length (Al _) u;have J:HT.sIx x.length 0 l=0:=by lia
  rw[h,J,Eo,Bk (by exact rE)]
 ·show(List.filterMap (λi=>x.cps[i]?) _).toArray.toList=_;rw[List.toList_toArray];exact I
def aqi:V->Option Int->Option Int->Hp->VK->Prop:=λx lo hi H Q=>∃z,x=.str z/\z.length<=sizeLine/\Q (.str (Txt.slice z lo hi)) H
def amx:sW X aqi:=by
 intro J s σ H x v U g lo j sl Q I o p r C h;obtain⟨z,rfl,T,q⟩:=h;obtain⟨t,rfl⟩:=o;obtain⟨l,rfl,hl⟩:∃l:Option (Int×Tok),U=partValue l/\l.map (·.1)=lo:=by cases r with|none=>exact⟨none,rfl,rfl⟩|int i t=>exact⟨some (i,t),rfl,rfl⟩
 obtain⟨u,rfl,hu⟩:∃u:Option (Int×Tok),g=partValue u/\u.map (·.1)=j:=by cases C with|none=>exact⟨none,rfl,rfl⟩|int i t=>exact⟨some (i,t),rfl,rfl⟩
 subst hl hu;refine⟨"str",_,F.slot_str_getitem.lookup,typeIs_str _ _ _,xj I.tk (wpAny_getItem_str_slice (l:=l) (u:=u) (st:=none) p rfl ?_)⟩;exact post_val_or_str ⟨AK (Txt.slice_le z _ _) T,λt' k ht=>⟨.str _,H,I.tok _,⟨t',rfl⟩,q⟩⟩
def vT{zs:List Str}:∀{us:List Value},zq (zs.map V.str) us->StrsAre us zs:=by
 induction zs with
 |nil=>intro us r;rw[De] at r;cases r;exact .nil
 |cons z zs I=>
  intro us r;rw[AG] at r;cases r with
  |cons J U=>
   obtain⟨t,e⟩:=J;subst e;exact .cons z t (I U)
def apd(K:Ae):V->List V->Hp->VK->Prop:=λx vs H Q=>∃z a zs,x=.str z/\vs=[.ref a]/\a9 K H a ((zs:List Str).map V.str)/\(zs.map (·.length)).sum+zs.length*z.length<=16777216/\Q (.str (Txt.join z zs)) H
def agr:iy X "str.join" (apd X.K):=by intro J s σ H x vs v us Q I U g h;obtain⟨z,a,zs,rfl,rfl,j,l,q⟩:=h;obtain⟨t,rfl⟩:=U;obtain⟨u,rfl,o⟩:=g.one;cases o;obtain⟨C,r,p,_⟩:=I.list j;exact xj I.tk (PyProof.Rows.join_list p.isList (by simpa using vT r) l λT k ht=>⟨.str _,H,I.tok _,⟨T,rfl⟩,q⟩)
end L2
namespace L3
open PySem L2
def ai3(x:Y)(lo hi:Option Int)(L:qm)(Q:YK):Prop:=match x with
 |.str z=>z.length<=sizeLine/\Q (.str (Txt.slice z lo hi)) L
 |x=>anx x lo hi L Q
def ac7(K:Ae)(P:Program)(w:World)(U:X.K=K:=by rfl)(g:X.prog=P:=by rfl)(hw:X.w=w:=by rfl):sW X (ai2 ⟨K,P,w⟩ ai3):=by refine sW.imp (amx.or (anv K P w U g hw)) λx lo l H Q ⟨y,L,j,I,J,z,k⟩=>?_;cases y with|str s=>exact .inl ⟨s,I,z.1,k _ H _ L (ED _) J (by rfl) z.2⟩|_=>exact .inr ⟨_,L,j,I,J,z,k⟩
def yBS(r:Y->List Y->qm->YK->Prop)(to:xx)(t:fC)(τ:jy)(L:qm)(Q:YK):Prop:=to τ L λx L1=>match x with
 |.str z=>t τ L1 λxs L2=>r (.str z) xs L2 Q
 |_=>False
def al3{id:String}{r:Y->List Y->qm->YK->Prop}(h2:Slot "str" name id)(C:typeOf (.builtin id)=pure (.type "method_descriptor"))(T:iy X id (upM X.g3 r))(ho:QE X o to)(ha:QA X (e::es) tr)
 (h4:attributeBase o name X.env (eval o X.env)=eval o X.env:=by rfl)
 (h5:((backTo eK (starEach (e::es) X.env)).all (λx=>!x.1)&&(backToKw eK (keywordEach [] X.env)).all (λx=>x.1.isSome)&&decide ((e::es).length+([]:List Keyword).length+(if ([]:List Keyword).isEmpty=true then 0 else 1)<30))=true:=by rfl)
 (h6:(apos.endLine==eK.line)=true:=by rfl) (h7:Et e es X:=by rfl) (h8:Eu eK es X:=by rfl):
 QE X (.Call (.Attribute o name apos) (e::es) [] eK) (yBS r to tr):=EF (ajc PySem.F.plainAttrs_str h2 C T ho ha h4 h5 h6 h7 h8) λσ H Q l L Q3 p rl z k=>
 ⟨l,L,_,p,rl,z,λv H1 y L1 t I J U=>by
  split at U
  ·rename_i s;cases J;exact⟨rfl,l,L1,_,p.ts t,I,U,λvs H2 ys L2 t2 g j z2=>⟨.str s,ys,L2,Q3,rfl,j,g,z2,k.ts (t.trans t2)⟩⟩
  ·exact U.elim⟩
theorem uO{G:G3}{H:Hp}:∀{zs:List Str} {xs:List V},ve G H (zs.map Y.str) xs->xs=zs.map V.str
 |[],_,h=>h
 |z::r,_,⟨x,I,e,q,s⟩=>by rw[e,show x=V.str z from q,uO s];rfl
def yM(x:Y)(vs:List Y)(L:qm)(Q:YK):Prop:=match x,vs with
 |.str z,[.ref a]=>dr L a λys=>∃zs,ys=zs.map Y.str/\(zs.map (·.length)).sum+zs.length*z.length<=16777216/\Q (.str (Txt.join z zs)) L
 |_,_=>False
def al4 :iy X "str.join" (upM X.g3 yM):=iy.imq agr λx p H Q y t L C U g I z k=>by
 unfold yM at z;split at z
 ·rename_i s a;obtain⟨T,e,j,rfl,l,z⟩:=vq z;obtain⟨ws,J,r⟩:=I a _ e;obtain⟨u,rfl,o⟩:=g.inv1;cases o;rw[uO r] at J;exact⟨s,a,j,U,rfl,EU J,l,k _ H _ L (ED _) I (by rfl) z⟩
 ·exact z.elim
def ag1(I:QE X o to)(J:QA X (e::es) tr)(U:attributeBase o "join" X.env (eval o X.env)=eval o X.env:=by rfl)
 (g:((backTo eK (starEach (e::es) X.env)).all (λx=>!x.1)&&(backToKw eK (keywordEach [] X.env)).all (λx=>x.1.isSome)&&decide ((e::es).length+([]:List Keyword).length+(if ([]:List Keyword).isEmpty=true then 0 else 1)<30))=true:=by rfl)
 (j:(apos.endLine==eK.line)=true:=by rfl) (l:Et e es X:=by rfl) (p:Eu eK es X:=by rfl):
 QE X (.Call (.Attribute o "join" apos) (e::es) [] eK) (yBS yM to tr):=al3 PySem.F.slot_str_join PySem.F.type_str_join al4 I J U g j l p
def r6(zs:List Str):(Txt.join "" zs).cps.toList=zs.flatMap λz=>z.cps.toList:=by
 have e:∀zs:List Str,(Str.join "" zs).cps.toList=zs.flatMap λz=>z.cps.toList:=by
  intro zs
  induction zs with
  |nil=>rfl
  |cons z r I=>
   cases r with
   |nil=>simp[Str.join]
   |cons y r=>
    show(z ++ "" ++ Str.join "" (y::r)).cps.toList=_;have:(z ++ "" ++ Str.join "" (y::r)).cps=z.cps++#[]++(Str.join "" (y::r)).cps:=rfl;rw[this];simp only[A6,I,A1,Array.append_empty]
 exact(BH (λx:Str=>x.cps.toList) (StrLaws.glued_eq_join "" zs)).trans (e zs)
def agn(K:Ae)(T S I:kD):PySem.W.kitAny K (.type T.nm) [.type S.nm,.type I.nm]=some (cO T S||cO T I):=by show(match PySem.W.kitOne K (.type T.nm) (.type S.nm) with|some true=>some true|some false=>(match PySem.W.kitOne K (.type T.nm) (.type I.nm) with|some true=>some true|some false=>some false|none=>none)|none=>none)=_;rw[rX,rX];cases cO T S<;>cases cO T I<;>rfl
def ab3{T S j:kD}{a:Addr}{σ:L2.St}(I:z9 X pins σ H s)(rl:jb X.g3 H L)(r:RV X.g3 H y v)(g:zv v u)(h:tyY L y=some T)(ha:H a=some (.tup [.ty S.nm,.ty j.nm]))
 (J:∀tk,Q (.bool (cO T S||cO T j)) { s with toks:=tk }):wpAny (model X.prog X.w) A (call (.builtin "isinstance") [u,.ref a]) Q E s:=by
 obtain⟨_,a0,vs,⟨⟨oc,od,dt,sl⟩,U,h2,n,h3⟩⟩:=(show vg X.prog X.w H s.heap a (.tup [.ty S.nm,.ty j.nm]) from I.hok a _ ha);obtain⟨u1,u2,rfl,r1,r2⟩:=zq.two vs;cases (show u1=Value.type S.nm from r1);cases (show u2=Value.type j.nm from r2);cases (show oc=_ from h2);cases (show dt=_ from h3);have e:=agn X.K T S j;cases y with
 |non=>cases h;cases r;cases (show u=Value.none from g);exact BX PySem.W.kitx_none I.kIn True.intro U e (λz=>nomatch z) J
 |bl b=>cases h;cases r;cases (show u=Value.bool b from g);exact BX PySem.W.kitx_bool I.kIn True.intro U e (λz=>nomatch z) J
 |int i=>cases h;cases r;obtain⟨t,q⟩:=(show ∃t,u=Value.int i t from g);cases q;exact BX PySem.W.kitx_int I.kIn True.intro U e (λz=>nomatch z) J
 |str x=>cases h;cases r;obtain⟨t,q⟩:=(show ∃t,u=Value.str x t from g);cases q;exact BX PySem.W.kitx_str I.kIn True.intro U e (λz=>nomatch z) J
 |tup ys=>
  cases h;obtain⟨b,l,rfl,sq,_⟩:=r;cases (show u=Value.ref b from g);obtain⟨_,_,⟨o,g1,g2,_⟩,_⟩:=I.tuple sq;exact BX DA I.kIn ⟨o,g1,g2⟩ U e (λz=>nomatch z) J
 |sq ys=>
  cases h;obtain⟨b,l,rfl,sq,_⟩:=r;cases (show u=Value.ref b from g);obtain⟨_,_,⟨o,_,g1,g2,_⟩,_⟩:=I.list sq.sq;exact BX CC I.kIn ⟨o,g1,g2⟩ U e (λz=>nomatch z) J
 |ref b=>
  cases (show v=.ref b from r);cases (show u=Value.ref b from g);have C:(match L b with|some (.lst _)=>some kD.list|some (.dct _)=>some .dict|_=>none)=some T:=h;split at C
  ·rename_i ys el;cases C;obtain⟨l,e2,_⟩:=rl b _ el;obtain⟨_,_,⟨o,_,g1,g2,_⟩,_⟩:=I.list (EU e2);exact BX CC I.kIn ⟨o,g1,g2⟩ U e (λz=>nomatch z) J
  ·rename_i a1 el;cases C;obtain⟨l,e2,_⟩:=rl b _ el;obtain⟨_,_,ws,_,p⟩:=(show vg X.prog X.w H s.heap b (.dK l) from I.hok b _ e2);obtain⟨o,es,ep,g1,g2,_⟩:=p;exact BX DJ I.kIn ⟨o,g1,g2.1⟩ U e (λz=>nomatch z) J
  ·cases C
 |_=>cases h
def zK(G:G3)(S I:kD):List V->Hp->VK->Prop:=λxs H Q=>∃y v L J T a,xs=[v,.ref a]/\H a=some (.tup [.ty S.nm,.ty I.nm])/\RV G H y v/\jb G H L/\tyY L y=some T/\J (.bl (cO T S||cO T I)) L/\s9 G H J Q
def yn(S g:kD):xi X (.builtin "isinstance") (zK X.g3 S g):=by intro J s t H C us Q I r h;obtain⟨y,v,L,Q3,T,a,rfl,j,l,U,ty,q,k⟩:=h;obtain⟨u,c,rfl,o,p⟩:=zq.two r;cases (show c=Value.ref a from p);exact xj I.tk (ab3 I U l o ty j λtk ht=>⟨.bl _,H,I.tok _,rfl,k _ H _ L (ED _) U (by rfl) q⟩)
def wD{a:Expr}{p pt:Pos}{J I:Str}(S l:kD)(hg:Gl X "isinstance")(hm:X.mg "isinstance"=none)(o:Gl X J)(r:X.mg J=none)(t:bootBuiltins J=some (.type S.nm))(U:Gl X I)(g:X.mg I=none)(j:bootBuiltins I=some (.type l.nm))(ha:QE X a ta)
 (hn:J ≠ "__name__" := by decide) (hd:(J==("__debug__" : Str))=false:=by decide) (C:I ≠ "__name__" := by decide) (a0:(I==("__debug__" : Str))=false:=by decide)
 (hs:starEach [a,.Tuple [.Name J p1,.Name I p2] kt pt] X.env=(false,eval a X.env)::starEach [.Tuple [.Name J p1,.Name I p2] kt pt] X.env:=by rfl)
 (mn:starEach [.Tuple [.Name J p1,.Name I p2] kt pt] X.env=(false,eval (.Tuple [.Name J p1,.Name I p2] kt pt) X.env)::starEach [] X.env:=by rfl)
 (a1:starEach [.Name J p1,.Name I p2] X.env=(false,eval (.Name J p1) X.env)::starEach [.Name I p2] X.env:=by rfl) (a2:starEach [.Name I p2] X.env=(false,eval (.Name I p2) X.env)::starEach [] X.env:=by rfl)
 (hp:(backTo pos (starEach [.Tuple [.Name J p1,.Name I p2] kt pt] X.env)).any (·.1)=false:=by rfl):
 QE X (.Call (.Name "isinstance" p) [a,.Tuple [.Name J p1,.Name I p2] kt pt] [] pos) (uI S l ta):=by
 refine ER (oE (yn S l) hg hm gH (aa ha (aa (adv (aa (adp o r t hn hd) (aa (adp U g j C a0) gR a2) a1)) gR mn) hs) (by decide) (by decide) hs hp) ?_;rintro σ H Q ⟨τ,L,Q3,rs,rl,z,k⟩;refine⟨τ,L,_,rs,rl,z,λv H1 y L1 t1 a3 a4 z1=>?_⟩;obtain⟨T,et,z1⟩:=sg z1;refine⟨by show 2<=sizeLine;decide,λq hq=>?_⟩;exact⟨y,v,L1,Q3,T,q,rfl,j8,a4.ts (EE hq),a3.skip hq,et,z1,k.ts (t1.trans (EE hq))⟩
def eE(t u:ww)(D:ke)(τ:jy)(L:qm):Prop:=∃J:jy->qm->Prop,t { D with nx:=J } τ L/\∀I L',J I L'->u D I L'
def w5{rest:List Stmt}{t u:ww}(h:QS X st t)(k:uv X rest u):uv X (st::rest) (eE t u):=lJ.imp (tM h k) λD σ H ⟨l,L,D3,o,p,⟨J,z,q⟩,k⟩=>
 ⟨l,L,{ D3 with nx:=J },o,p,z,λr H1 I j C U g T=>⟨I,j,D3,U,g,q I j T,k.ts C⟩,k.rt,k.bk,k.ct⟩
def jF{a b:Addr}{o u:LO}(h:a≠b):qe (qe L a o) b u=qe (qe L b u) a o:=by
 funext c;by_cases I:c=a
 ·subst I;rw[qb h,q9,q9]
 ·by_cases J:c=b
  ·subst J;rw[q9,qb I,q9]
  ·rw[qb J,qb I,qb I,qb J]
section
variable {E3:X3}
end
section
variable {cp:Pos}
end
section
variable {a:Expr}{p pt:Pos}{vs:List V}
end
open PySem L2 PySem.W
section
variable {K:Frag}{D:Addr}{t c:Value}{b:Bool}
end
end L3
namespace L2
open PySem PySem.Spec PyProof.Rows
def i8(X:Cx)(ops:List CmpOp)(es:List Expr)(t:V->TE):Prop:=∀(pos:Pos) (pins:List (Addr×Obj)) (s:Shared) (σ:St) (H:Hp) (x:V) (v:Value) (Q:Bool->Hp->Prop),z9 X pins σ H s->zv x v->(t x σ H λz H'=>∃k,z=.bl k/\Q k H')->wpAny (model X.prog X.w) X.A (testChain pos v ops (evalEach es X.env)) (TP X pins σ Q) X.xe s
def aiw(r:R2)(tb:TE):V->TE:=λx σ H Q=>tb σ H λy H1=>r x y H1 Q
def aj9(r:R2)(tb:TE)(u:V->TE):V->TE:=λx σ H Q=>tb σ H λy H1=>r x y H1 λz H2=>∃k,z=.bl k/\(if k=true then u y σ H2 Q else Q (.bl false) H2)
section
variable {a b:Expr}{ta tb:TE}{op pj:CmpOp}{ops:List CmpOp}{r:R2}{u:V->TE}
def zJ(g:aC X (compareOp op) r)(j:PE X b tb):i8 X [op] [b] (aiw r tb):=by intro pos J s U H x v Q I l h;refine test_last (aT (j J s U H _ I h) λo p ⟨y,t,C,T,q1⟩=>aT (g J p U t x y v o _ C l T q1) λd s2 ⟨z,H2,I2,r2,k,e,q2⟩=>?_);subst e;cases r2;exact wpAny_truthy_bool ⟨H2,I2,q2⟩
def zN(t:aC X (compareOp op) r)(C:PE X b tb)(T:i8 X (pj::ops) (c::es) u):i8 X (op::pj::ops) (b::c::es) (aj9 r tb u):=by
 intro pos J s U H x v Q I rx h;refine test_link (aT (C J s U H _ I h) λg s1 ⟨y,H1,I1,j,q1⟩=>aT (t J s1 U H1 x y v g _ I1 rx j q1) λd s2 ⟨z,l,o,r2,k,e,p⟩=>?_);subst e;cases r2;refine wpAny_truthy_bool ?_;cases k with
 |false=>
  obtain⟨k',e',q'⟩:=p;cases e';exact ite_ff ⟨l,o,q'⟩
 |true=>exact ite_tt (T pos J s2 U l y g Q o j p)
def aa8(U:PE X a ta)(h:i8 X (op::pj::ops) (b::c::es) u)(g:lastMarks (op::pj::ops) (b::c::es)=false):PT X (.Compare a (op::pj::ops) (b::c::es) pos) (adz λσ H Q=>ta σ H λx H1=>u x σ H1 Q):=by intro J s σ H Q I j;exact isTrue_chain (aT (U J s σ H _ I j) λv l ⟨x,H1,o,p,r⟩=>h pos J l σ H1 x v Q o p r) g
end
end L2
namespace L3
open PySem L2
def vN(ta:xx)(u:Y->xx)(τ:jy)(L:qm)(Q:YK):Prop:=ta τ L λx L1=>u x τ L1 Q
def aby(r:pW)(tb:xx)(x:Y)(τ:jy)(L:qm)(Q:YK):Prop:=tb τ L λy L1=>r x y L1 Q
def afg(r:pW)(tb:xx)(u:Y->xx)(x:Y)(τ:jy)(L:qm)(Q:YK):Prop:=tb τ L λy L1=>r x y L1 λz L2=>match z with
 |.bl k=>xt k (u y τ L2 Q) (Q (.bl false) L2)
 |_=>False
def upC(G:G3)(u:Y->xx):V->TE:=λx σ H Q=>∃y τ L I,RV G H y x/\vn G H σ τ/\jb G H L/\u y τ L I/\s9 G H I Q
def i8.imp{ops:List CmpOp}{t u:V->TE}(h:i8 X ops es t)(q:∀x σ H Q,u x σ H Q->t x σ H Q):i8 X ops es u:=λpos J s σ H x v Q I r z=>h pos J s σ H x v Q I r (q _ _ _ _ z)
def afr{r:pW}(x:V)(σ:L2.St)(H:Hp)(Q:VK):upC G (aby r tb) x σ H Q->aiw (iO G r) (sF G tb) x σ H Q:=λ⟨y,g,L,j,l,o,p,z,k⟩=>
 ⟨g,L,_,o,p,z,λv H1 t C U I J T=>⟨y,t,C,j,l.ts U,J,I,T,k.ts U⟩⟩
def afw{r:pW}{u:Y->xx}(x:V)(σ:L2.St)(H:Hp)(Q:VK):upC G (afg r tb u) x σ H Q->aj9 (iO G r) (sF G tb) (upC G u) x σ H Q:=λ⟨y,j,L,l,rv,T,rl,z,k⟩=>
 ⟨j,L,_,T,rl,z,λv H1 o L1 U p I z1=>⟨y,o,L1,_,rv.ts U,I,p,z1,λv2 H2 y2 L2 g J t z2=>by
  cases y2 with
  |bl C=>
   refine⟨C,t,?_⟩;have z3:xt C (u o j L2 l) (l (.bl false) L2):=z2;cases C with|true=>rw[Aw rfl];exact⟨o,j,L2,l,I.ts g,T.ts (U.trans g),J,z3,k.ts (U.trans g)⟩|false=>rw[As AC];exact k _ H2 _ L2 (U.trans g) J (by rfl) z3
  |_=>exact z2.elim⟩⟩
section
variable {a b:Expr}{op pj:CmpOp}{ops:List CmpOp}{r:pW}{u:Y->xx}
def aa5(I:aC X (compareOp op) (iO X.g3 r))(J:QE X b tb):i8 X [op] [b] (upC X.g3 (aby r tb)):=i8.imp (zJ I J) afr
def aal(I:aC X (compareOp op) (iO X.g3 r))(J:QE X b tb)(U:i8 X (pj::ops) (c::es) (upC X.g3 u)):i8 X (op::pj::ops) (b::c::es) (upC X.g3 (afg r tb u)):=i8.imp (zN I J U) afw
def ad4(σ:L2.St)(H:Hp)(Q:VK):sF G (vN ta u) σ H Q->(λσ H Q=>sF G ta σ H λx H1=>upC G u x σ H1 Q) σ H Q:=λ⟨U,L,l,g,o,z,k⟩=>
 ⟨U,L,_,g,o,z,λv H1 y p j I J r=>⟨y,U,p,l,J,g.ts j,I,r,k.ts j⟩⟩
def abz(J:QE X a ta)(h:i8 X (op::pj::ops) (b::c::es) (upC X.g3 u))(U:lastMarks (op::pj::ops) (b::c::es)=false:=by with_unfolding_all rfl):QT X (.Compare a (op::pj::ops) (b::c::es) pos) (yB (vN ta u)):=
 PT.imp (aa8 J h U) λI H Q q=>ad4 I H _ (alt I H Q q)
end
end L3
namespace L2
open PySem PySem.Spec PyProof.Rows
end L2
namespace L3
open PySem L2
def aiu:Y->Option jp
 |.int i=>some (.inl i)
 |.str x=>some (.inr x)
 |_=>none
def mZ{k:jp}(h:aiu y=some k)(r:RV G H y v):v=kV k:=by cases y with|int i=>cases h;exact r|str x=>cases h;exact r|_=>cases h
def og(kvs:List (jp×Y))(k:jp)(y:Y):List (jp×Y):=
 if (kvs.any λI=>decide (I.1=k))=true then kvs.map (λI=>if I.1=k then(I.1,y) else I) else kvs++[(k,y)]
def je.dct{p:Addr}{zs:List (jp×V)}{o:HO}(h:H p=some (.dK zs)):je H (upd H p o):=λa u i q=>by rw[qt ?_];exact q;rintro rfl;rw[h] at q;cases q;cases i
def ad8{xs:List (jp×V)}(p:Paired (λ(p:jp×Y) (q:jp×V)=>p.1=q.1/\RV G H p.2 q.2) kvs xs)(k:jp):(kvs.any λI=>decide (I.1=k))=xs.any λI=>decide (I.1=k):=by induction p with|nil=>rfl|cons r t J=>rw[Cm,Cm,J,r.1]
def aea{xs:List (jp×V)}(p:Paired (λ(p:jp×Y) (q:jp×V)=>p.1=q.1/\RV G H p.2 q.2) kvs xs)(k:jp)(r:RV G H y v):
 Paired (λ(p:jp×Y) (q:jp×V)=>p.1=q.1/\RV G H p.2 q.2) (kvs.map λI=>if I.1=k then(I.1,y) else I) (xs.map λI=>if I.1=k then(I.1,v) else I):=by
 induction p with
 |nil=>exact .nil
 |@cons a b _ _ J t U=>
  refine .cons ?_ U;obtain⟨e,q⟩:=J;dsimp only;by_cases c:a.1=k
  ·rw[Aw c,Aw (e▸c)];exact⟨e,r⟩
  ·rw[As c,As (λz=>c (e.trans z))];exact⟨e,q⟩
def abc{xs:List (jp×V)}(p:Paired (λ(p:jp×Y) (q:jp×V)=>p.1=q.1/\RV G H p.2 q.2) kvs xs)(k:jp)(r:RV G H y v):
 Paired (λ(p:jp×Y) (q:jp×V)=>p.1=q.1/\RV G H p.2 q.2) (kvs++[(k,y)]) (xs++[(k,v)]):=by
 induction p with|nil=>exact .cons ⟨rfl,r⟩ .nil|cons I t J=>exact .cons I J
def ae3{xs:List (jp×V)}(p:Paired (λ(p:jp×Y) (q:jp×V)=>p.1=q.1/\RV G H p.2 q.2) kvs xs)(k:jp)(r:RV G H y v):
 Paired (λ(p:jp×Y) (q:jp×V)=>p.1=q.1/\RV G H p.2 q.2) (og kvs k y) (eO xs k v):=by
 unfold og eO;rw[ad8 p k];by_cases c:(xs.any λI=>decide (I.1=k))=true
 ·rw[Aw c,Aw c];exact aea p k r
 ·rw[As c,As c];exact abc p k r
def pair_len{R:α->β->Prop}{l:List α}{m:List β}(p:Paired R l m):l.length=m.length:=by induction p with|nil=>rfl|cons _ _ I=>rw[AF,AF,I]
def af2(_:jy)(L:qm)(Q:YK):Prop:=∀p,L p=none->Q (.ref p) (qe L p (.dct []))
def vz(td ti:xx)(τ:jy)(L:qm)(Q:YK):Prop:=td τ L λx L1=>ti τ L1 λy L2=>match x,aiu y with
 |.ref a,some k=>u0 L2 a λkvs=>yc L2 Q (aE kvs k)
 |_,_=>False
def yU(td ti tv:xx)(D:ke)(τ:jy)(L:qm):Prop:=tv τ L λv L1=>td τ L1 λx L2=>ti τ L2 λy L3=>match x,aiu y with
 |.ref a,some k=>u0 L3 a λkvs=>kvs.length<sizeLine/\D.nx τ (qe L3 a (.dct (og kvs k v)))
 |_,_=>False
section
variable {i:Expr}{td ti tv:xx}
def yg:QE X (.Dict [] [] pos) af2:=EF act λU H Q g L j l J z k=>λp I=>by
 refine k _ _ _ (qe L p (.dct [])) (EE I) (λa u e=>?_) (by rfl) (z p (J.none I));by_cases c:a=p
 ·subst c;rw[q9] at e;cases e;exact⟨[],j8,.nil⟩
 ·rw[qb c] at e;exact(J a u e).keep (EE I) (qt c)
def jg(hu:X.A.units+128<cLine)(t:QE X o td)(hi:QE X i ti)(hs:akc i):QE X (.Subscript o i pos) (vz td ti):=EF (ah4 (by omega) t hi hs) λσ H Q l L Q3 p C z k=>
 ⟨l,L,_,p,C,z,λv H1 x T r J U z1=>⟨l,T,_,p.ts r,J,z1,λw H2 y L2 t2 I g j=>by
  split at j
  ·rename_i a kk ek;obtain⟨a0,e,z3⟩:=gn j;obtain⟨yv,ev,q⟩:=rO z3;obtain⟨xs,e2,pr⟩:=I a _ e;obtain⟨xv,ex,rx⟩:=pM pr ev;exact⟨a,xv,U,.inl ⟨xs,kk,.inl e2,mZ ek g,ex.symm⟩,k _ H2 _ L2 (r.trans t2) I rx q⟩
  ·exact j.elim⟩⟩
theorem rL(hu:X.A.units+128<cLine)(ho:QE X o td)(hi:QE X i ti)(hv:QE X value tv)(hs:swapsWith value (some (.Subscript o i hQ)) pos.line X.env=pure false:=by rfl):QS X (.Assign [.Subscript o i hQ] value pos) (yU td ti tv):=
 EK (ahd (by omega) ho hi hv hs) λD σ H l L D3 J rl z k=>
 ⟨l,L,_,J,rl,z,λv H1 vy L1 U p r z1=>⟨l,L1,_,J.ts U,p,z1,λx H2 xy L2 g t C z2=>⟨l,L2,_,J.ts (U.trans g),t,z2,λw H3 y L3 T I a0 z3=>by
  split at z3
  ·rename_i a kk ek;obtain⟨a1,e,hl,q⟩:=gn z3;obtain⟨xs,e2,pr⟩:=I a _ e;have j:je H3 (upd H3 a (.dK (eO xs kk v))):=je.dct e2;cases (show x=V.ref a from C);refine⟨a,_,rfl,.inl ⟨xs,kk,e2,mZ ek a0,by rw[<-pair_len pr];exact hl,rfl⟩,?_⟩;refine k.nx _ _ _ _ (((U.trans g).trans T).trans j) (J.ts (((U.trans g).trans T).trans j)) (λb u eb=>?_) q;by_cases c:b=a
   ·subst c;rw[q9] at eb;cases eb;exact⟨_,j8,EH (ae3 pr kk (r.ts (g.trans T))) λ_ _ ⟨h1,h2⟩=>⟨h1,h2.ts j⟩⟩
   ·rw[qb c] at eb;exact(I b u eb).keep j (qt c)
  ·exact z3.elim⟩⟩⟩
end
def yF(to ti tv:xx)(D:ke)(τ:jy)(L:qm):Prop:=tv τ L λv L1=>to τ L1 λx L2=>ti τ L2 λy L3=>match x,y with
 |.ref a,.int i=>dr L3 a λys=>yc L3 (λj L=>D.nx τ (qe L a (.lst (ys.set j v)))) (ixN ys.length i)
 |_,_=>False
section
variable {i:Expr}{ti tv:xx}
theorem qY(ho:QE X o to)(hi:QE X i ti)(hv:QE X value tv)
 (ha:∀v,assign (.Subscript o i hQ) X.env v=(do
  let J <-holding [v] (eval o X.env)
  let p <-holding [v,J] (eval i X.env)
  standAt hQ
  holding [v,J,p] (setItem J p v)
  release [v,J,p] []):=by intro _;rfl)
 (h1:swapsWithSole [.Subscript o i hQ] value pos.line X.env=pure false:=by rfl) (h2:swappedStores [.Subscript o i hQ] value X.env=pure none:=by rfl)
 (h3:(assignEach [.Subscript o i hQ] X.env).map (·.2)=[assign (.Subscript o i hQ) X.env]:=by rfl):QS X (.Assign [.Subscript o i hQ] value pos) (yF to ti tv):=
 EK (aee hv (an0 ho hi acx ha) h1 h2 h3) λD σ H t L D3 U rl z k=>
 ⟨t,L,_,U,rl,z,λv H1 vy L1 g C T z1=>⟨t,L1,_,U.ts g,C,z1,λx H2 xy L2 l a0 a1 z2=>⟨t,L2,_,U.ts (g.trans l),a0,z2,λw H3 y L3 t3 I a2 z3=>by
  split at z3
  ·rename_i a ii;obtain⟨ys,e,z4⟩:=vq z3;obtain⟨j,ej,q⟩:=rO z4;obtain⟨xs,e2,r⟩:=I a _ e;cases (show x=V.ref a from a1);cases (show w=V.int ii from a2);have tt:je H3 (upd H3 a (.lst (xs.set j v))):=EO e2;exact⟨a,xs,ii,j,rfl,rfl,e2,by rw[<-r.length];exact ej,k.nx _ _ _ _ (((g.trans l).trans t3).trans tt) (U.ts (((g.trans l).trans t3).trans tt)) (I.setL e2 (ve.setY (T.ts (l.trans t3)) j r)) q⟩
  ·exact z3.elim⟩⟩⟩
end
end L3
namespace L2
open PySem PySem.Spec PyProof.Rows
section
variable {v₁ v₂:Expr}{te:TE}{u:Str->TE}
end
end L2
namespace L3
open PySem L2
section
variable {v₁ v₂:Expr}{u:Str->xx}
end
@[irreducible] def xA (L:qm) (a:Addr) (k:Addr->List (Str×Y)->Prop):Prop:=match L a with
 |some (.ins C fs)=>k C fs
 |_=>False
def wx{a:Addr}{fs:List (Str×Y)}{k:Addr->List (Str×Y)->Prop}(e:L a=some (.ins C fs))(h:k C fs):xA L a k:=by unfold xA;rw[e];exact h
def nX{a:Addr}{k:Addr->List (Str×Y)->Prop}(h:xA L a k):∃C fs,L a=some (.ins C fs)/\k C fs:=by
 unfold xA at h;split at h
 ·rename_i C fs e;exact⟨C,fs,e,h⟩
 ·exact h.elim
abbrev PrF(G:G3)(H:Hp):List (Str×Y)->List (Str×V)->Prop:=Paired λ(p:Str×Y) (q:Str×V)=>p.1=q.1/\RV G H p.2 q.2
def aib{fs:List (Str×Y)}{xs:List (Str×V)}(p:PrF G H fs xs){f:Str}(h:fs.lookup f=some y):∃v,xs.lookup f=some v/\RV G H y v:=by
 induction p with
 |nil=>cases h
 |@cons a b _ _ r t J=>
  obtain⟨I,j⟩:=a;obtain⟨U,g⟩:=b;obtain⟨e,r⟩:=r;cases (show I=U from e);rw[Bb] at h ⊢;cases c:(f==I) with
  |true=>rw[c] at h;cases h;exact⟨g,rfl,r⟩
  |false=>rw[c] at h;exact J h
def acd{fs:List (Str×Y)}{xs:List (Str×V)}(p:PrF G H fs xs){f:Str}(h:fs.lookup f=none):xs.lookup f=none:=by
 induction p with
 |nil=>rfl
 |@cons a b _ _ r t J=>
  obtain⟨I,g⟩:=a;obtain⟨U,j⟩:=b;obtain⟨e,r⟩:=r;cases (show I=U from e);rw[Bb] at h ⊢;cases c:(f==I) with
  |true=>rw[c] at h;cases h
  |false=>rw[c] at h;exact J h
def xV(f:Str)(y:Y):List (Str×Y)->List (Str×Y)
 |[]=>[(f,y)]
 |(g,x)::r=>if g=f then(g,y)::r else(g,x)::xV f y r
def ahq{fs:List (Str×Y)}{xs:List (Str×V)}(p:PrF G H fs xs)(f:Str)(r:RV G H y v):PrF G H (xV f y fs) (dF f v xs):=by
 induction p with
 |nil=>exact .cons ⟨rfl,r⟩ .nil
 |@cons a b _ _ J t U=>
  obtain⟨I,j⟩:=a;obtain⟨g,l⟩:=b;obtain⟨e,q⟩:=J;cases (show I=g from e);unfold xV dF;by_cases c:I=f
  ·rw[Aw c,Aw c];exact .cons ⟨rfl,r⟩ t
  ·rw[As c,As c];exact .cons ⟨rfl,q⟩ U
def je.ins{p:Addr}{zs:List (Str×V)}{o:HO}(h:H p=some (.ins C dx zs)):je H (upd H p o):=λa u i q=>by rw[qt ?_];exact q;rintro rfl;rw[h] at q;cases q;cases i
def vJ(K:Ae)(f:Str)(te:xx)(τ:jy)(L:qm)(Q:YK):Prop:=te τ L λx L1=>match x with
 |.ref a=>xA L1 a λC fs=>Cls K C/\NoAttr K C f/\yc L1 Q (fs.lookup f)
 |_=>False
def ajl(K:Ae)(f:Str)(to tv:xx)(D:ke)(τ:jy)(L:qm):Prop:=tv τ L λv L1=>to τ L1 λx L2=>match x with
 |.ref a=>xA L2 a λC fs=>Cls K C/\NoAttr K C f/\fs.length<1000/\D.nx τ (qe L2 a (.ins C (xV f v fs)))
 |_=>False
def adj(C:Addr)(sp:jx)(t:fC)(τ:jy)(L:qm)(Q:YK):Prop:=t τ L λys L1=>∀x,L1 x=none->sp (.ref x::ys) (qe L1 x (.ins C [])) λv L2=>v=.non/\Q (.ref x) L2
section
variable {tv:xx}{p:Pos}{f m:Str}{g:Addr}
def jI(h:QE X e te)(j:attributeBase e f X.env (eval e X.env)=eval e X.env:=by rfl):QE X (.Attribute e f pos) (vJ X.K f te):=EF (aki h j) λσ H Q l L Q3 o p z k=>
 ⟨l,L,_,o,p,z,λv r y t T I J U=>by
  split at U
  ·rename_i a;obtain⟨C,fs,e,c,n,z2⟩:=nX U;obtain⟨y,ey,q⟩:=rO z2;obtain⟨dx,xs,e2,pr⟩:=I a _ e;obtain⟨w,ew,g⟩:=aib pr ey;exact⟨a,C,dx,xs,w,J,e2,c,n,ew,k _ r _ t T I g q⟩
  ·exact U.elim⟩
def aih(ho:QE X o to)(hv:QE X value tv)(hs:swapsWith value (some (.Attribute o f hQ)) pos.line X.env=pure false:=by rfl):QS X (.Assign [.Attribute o f hQ] value pos) (ajl X.K f to tv):=EK (alx ho hv hs) λD σ H τ L D3 U rl z k=>
 ⟨τ,L,_,U,rl,z,λv H1 vy L1 g j l z1=>⟨τ,L1,_,U.ts g,j,z1,λw H2 y L2 p I r t=>by
  split at t
  ·rename_i a;obtain⟨C,fs,e,c,n,hl,q⟩:=nX t;obtain⟨T,xs,e2,pr⟩:=I a _ e;have J:je H2 (upd H2 a (.ins C T (dF f v xs))):=je.ins e2;refine⟨a,C,T,xs,r,e2,c,n,by rw[<-pair_len pr];exact hl,k.nx _ _ _ _ ((g.trans p).trans J) (U.ts ((g.trans p).trans J)) (λb u eb=>?_) q⟩;by_cases cc:b=a
   ·subst cc;rw[q9] at eb;cases eb;exact⟨T,_,j8,EH (ahq pr f (l.ts p)) λ_ _ ⟨h1,h2⟩=>⟨h1,h2.ts J⟩⟩
   ·rw[qb cc] at eb;exact(I b u eb).keep J (qt cc)
  ·exact t.elim⟩⟩
def age{k:Nat}(M:Mk X.K C g)(F:Fn3 X.prog X.w X.K X.mg X.base k g fd ps sp)(hr:wq (k+1) X.A)(hg:Gl X x)(hm:X.mg x=some (.ref C))(hb:aW X.K fd ps [])(ha:QA X (e::es) tr)
 (l:Ew x:=by decide) (he:Et e es X:=by rfl) (o:Eu pos es X:=by rfl):
 QE X (.Call (.Name x p) (e::es) [] pos) (adj C sp tr):=EF (air M F hr hg hm hb .nil ac9 ha l he o) λσ H Q τ L Q3 rs rl z k=>
 ⟨τ,L,_,rs,rl,z,λvs U ys L1 t1 I r z1=>λx J hx j ne=>by
  have ta:je U (upd U J (.own x)):=EE j;have t:upd U J (.own x) x=none:=by rw[qt (AH ne)];exact hx
  have T:je U (upd (upd U J (.own x)) x (.ins C J [])):=ta.trans (EE t);refine⟨.ref x::ys,qe L1 x (.ins C []),_,⟨.ref x,vs++[],by simp,rfl,by rw[AQ];exact r.ts T⟩,λb u eb=>?_,z1 x (I.none hx),λv H2 y L2 t2 a0 a1 ⟨ev,q⟩=>?_⟩
  ·by_cases cc:b=x
   ·subst cc;rw[q9] at eb;cases eb;exact⟨J,[],j8,.nil⟩
   ·rw[qb cc] at eb;have nd:b≠J:=λz=>by obtain⟨w,ew⟩:=(I b u eb).ex;rw[z,j] at ew;cases ew
    exact(I b u eb).keep T (by rw[qt cc,qt nd])
  ·subst ev;exact⟨a1,k _ H2 _ L2 (t1.trans (T.trans t2)) a0 (by rfl) q⟩⟩
end
open PySem.AutoSeq1 (wpAny_loadPart')
open MeetsSeq MeetsSeq2 MeetsSeq3 SeqRoads2
end L3
namespace Txs
open PySem PySem.Builtin.Str
def len_list(x:Str):x.cps.toList.length=x.length:=by simp[Str.length]
end Txs
namespace L2
open PySem PySem.Spec PyProof.Rows
section
variable {isp imk c j1 j2:Nat}{sp mk:Str}{u:Tok}{m:Str->Option Value}{p6 p7 p8 p9 p10:Pos}{Q:Flow->Shared->Prop}
end
end L2
namespace L2
open PySem PySem.Spec PyProof.Rows
end L2
namespace L3
open PySem L2
def lM(s:Stmt):List Stmt:=match s with
 |.ClassDef _ _ _ b _ _ _ _ _ _ _=>b
 |_=>[]
structure ab8(P:Program)(w:World)(K:Ae)(mg:Str->Option Value)(base:Heap)(k:Nat)(C:Addr)(m:Str)(ps:List Str)(sp:jx):Prop where
 ex:∃g fd,ad9 K C m g/\Fn3 P w K mg base k g fd ps sp/\aW K fd ps []
structure adl(P:Program)(w:World)(K:Ae)(mg:Str->Option Value)(base:Heap)(k:Nat)(C:Addr)(ps:List Str)(sp:jx):Prop where
 ex:∃g fd,Mk K C g/\(∃j,k=j+1/\Fn3 P w K mg base j g fd ps sp)/\aW K fd ps []
theorem ab8.mono{P:Program}{w:World}{K:Ae}{k:Nat}{m:Str}(c:ab8 P w K mg base j C m ps sp)(h:j<=k):ab8 P w K mg base k C m ps sp:=by obtain⟨g,fd,M,F,b⟩:=c.ex;exact⟨g,fd,M,F.mono h,b⟩
theorem adl.mono{P:Program}{w:World}{K:Ae}{k:Nat}(c:adl P w K mg base j C ps sp)(h:j<=k):adl P w K mg base k C ps sp:=by obtain⟨g,fd,M,⟨i,e,F⟩,b⟩:=c.ex;subst e;exact⟨g,fd,M,⟨k-1,by omega,F.mono (by omega)⟩,b⟩
section
variable {p:Pos}{m:Str}{k:Nat}
def aoj(ci:adl X.prog X.w X.K X.mg X.base k C ps sp)(U:wq k X.A)(l:Gl X x)(o:X.mg x=some (.ref C))(r:QA X (e::es) tr)
 (I:Ew x:=by decide) (t:Et e es X:=by rfl) (J:Eu pos es X:=by rfl):
 QE X (.Call (.Name x p) (e::es) [] pos) (adj C sp tr):=by
 obtain⟨g,fd,M,⟨j,T,F⟩,b⟩:=ci.ex;subst T;exact age M F U l o b r I t J
end
structure dI(K:Ae)(C:Addr)(x eA:Str)(st:Stmt):Prop where
 ex:∃(f:Addr) (kV ir pm:Value) (an:Option Addr) (fx ct:Value),PySem.W.findIn K (.ref C) x=some (some (.ref f))/\PySem.W.isFn K (.ref f)=true/\Fun K x eA st f (PySem.W.fnOf x eA (xu st) (js st) (qz st) .none kV ir pm an fx ct)
def meth_in{K:Ae}{kV ct:Value}(a:PySem.W.findIn K (.ref C) x=some (some (.ref f)))
 (l:K.lookup f=some ⟨oc,od,.func (PySem.W.fnOf x eA (xu st) (js st) (qz st) .none kV ir pm an fx ct),nC⟩) (c:PySem.W.codeIn K fx eA=true) (k:PySem.W.keepIn K (.ref f)=true) (i:PySem.W.isFn K (.ref f)=true):dI K C x eA st:=
 ⟨f,kV,ir,pm,an,fx,ct,a,i,ad3 (st:=st) l c k⟩
def dI.use{K:Ae}(D:dI K C x eA st)
 (I:∀(kV ir pm:Value) (an:Option Addr) (fx ct:Value) (us:List Value),us.length=ps.length->bindArgs (PySem.W.fnOf x eA (xu st) (js st) (qz st) .none kV ir pm an fx ct) ⟨us,[]⟩=pure (ps.zip us)):
 ∃f fd,Fun K x eA st f fd/\aW K fd ps []/\ad9 K C x f:=by
 obtain⟨f,kV,ir,pm,an,fx,ct,a,i,F⟩:=D.ex;exact⟨f,_,F,aW.all (I kV ir pm an fx ct),⟨a,i,F.kp⟩⟩
end L3
namespace L2
open PySem PySem.Spec PyProof.Rows
section
variable {te:TE}
end
end L2
namespace L3
open PySem L2
end L3
namespace L2
open PySem PySem.Spec PyProof.Rows
section
variable {a T:Addr}{tr:Option Addr}
end
section
variable {T:List Str}{iter:Expr}{g:TG}{tc:TT}{te:TE}
end
section
variable {a b T:Addr}{tr:Option Addr}{E1:X1}
end
section
variable {k:Nat}{sp:Sp}{E1:X1}{p:Pos}{t:TA}
end
end L2
namespace L3
open PySem L2
section
variable {T:List Str}{iter:Expr}{wi:TI3}{E3:X3}{Ea:Addr->qm->Prop}
end
end L3
namespace L2
open PySem PySem.Spec PyProof.Rows
end L2
namespace L2
open PySem PySem.Spec PyProof.Rows
section
variable {w:World}
theorem tJ{it t:Addr}{eH:Array Value}(I:t≠it):∀(n i:Nat) (s:Shared) (Q:List Value->Shared->Prop),s.heap.IsListIter it t i->s.heap.IsList t eH->i+n<=eH.size->
 (∀h',h'.IsListIter it t (i+n)->Heap.SameBut it s.heap h'->Q ((eH.toList.drop i).take n) { s with heap:=h' })->wpAny (model prog w) A (draw (.ref it) n) Q E s
 |0,i,s,Q,hit,_,_,g=>by unfold draw;exact Ai (by simpa using g s.heap hit (Heap.SameBut.refl ..))
 |n+1,i,s,Q,hit,p,r,g=>by
  have J:i<eH.size:=by omega
  unfold draw;refine Aa (wpAny_pyNext_list_item hit p (x:=eH[i]) (by simp[J]) λg1 j U=>?_);refine Aa (Be (tJ I n (i+1) _ _ j (p.extBut U.extBut I) (by lia) λg2 l o=>Ai ?_));have e:eH.toList.drop i=eH[i]::eH.toList.drop (i+1):=by simp[BQ,J]
  have q:=g g2 (by rw[show i+(n+1)=i+1+n by simp +arith only];exact l)
   (U.trans o)
  rw[e,List.take_succ_cons] at q;exact q
def agj{t:Addr}{eH:Array Value}{Q:Unit->Shared->Prop}(T:A.handled=none)(I:s.heap.IsList t eH)(hn:(assignEach ml env).length=eH.size)(j:(assignEach ml env).findIdx? (·.1)=none)
 (h:∀g,Heap.ExtBut s.heap.objs.size s.heap g->wpAny (model prog w) A (assignInOrder ((assignEach ml env).map (·.2)) eH.toList) Q E { s with heap:=g }):wpAny (model prog w) A (assign (.Tuple ml x1 pos) env (.ref t)) Q E s:=by
 have J:t≠s.heap.objs.size:=by obtain⟨o,ho,_⟩:=I;exact A4 (vb ho)
 rw[arm_assign_Tuple];refine Aa (wpAny_standAt ?_);unfold unpack;rw[hn,j];refine Aa (Be ?_);unfold unpackItems notIterableAtAll;refine Aa (Aa (wpAny_specialOf I.typeIs slot_list_iter.lookup ?_));refine Ai ?_;rw[As (by simp)];refine Aa (Be (wpAny_pyIter_list I ?_));refine Aa (Be (tJ J eH.size 0 _ _ ⟨_,vc _ rfl,rfl,rfl⟩ (I.push _) (by simp +arith only) λg1 l U=>?_));have all:List.take eH.size (List.drop 0 eH.toList)=eH.toList:=by rw[Eo];exact Bk (by simp)
 rw[all,As (by simp)];have p:g1.IsList t eH:=(I.push _).extBut U.extBut J;refine Aa (Be (wpAny_pyNext_list_end T l p (by simp) λg2 r=>?_));rw[As (by simp)];exact Ai (h g2 λb o C e=>r b o C (U.extBut b o C (u3 _ e)))
end
def aqd(K:Ae)(n:Nat)(t:TGs):TG:=λv σ H Q=>∃a xs,v=.ref a/\a9 K H a xs/\xs.length=n/\t xs σ H Q
def alh{k:Nat}{t:TGs}(hc:X.calm=true)(h:PGs X es t)
 (l:(assignEach es X.env).length=n:=by rfl) (U:(assignEach es X.env).findIdx? (·.1)=none:=by rfl):PG X (.Tuple es k pos) (aqd X.K n t):=by
 intro J s g H v u Q I r hw;obtain⟨a,p,C,T,hl,hw⟩:=hw;subst C;cases r;obtain⟨a0,j,pl,hz⟩:=I.list T;have ht:=jr pl;refine agj (I.ok.hd hc) ht (by simp[l,<-hl,j.length]) U λh' hx=>?_;have I1:z9 X J g H { s with heap:=h' }:=I.kept (t':=s.toks) λb o e=>hx b o (A4 (vb e)) e;exact h J _ g H p _ Q I1 (by simpa using j) hw
def ahe(l:Addr)(eH:Array Value)(n:Nat)(x:Value)(b:Nat->Bool)(j:Nat)(C:j<eH.size)(hit:b j=true)(hz:eH.size<=sizeLine):∀(k i:Nat),j-i=k->i<=j->(∀m,i<=m->m<j->b m=false)->
 Meets (Builtin.«list.remove.loop» ⟨[.ref l,x,rawInt i],[]⟩) (λA R s=>s.heap.get? l=some { cls:=.type "list",dict:=none,data:=.seq eH n,slots:=#[] }/\(∀m (hm:m<eH.size),SeqAt.EqAt A.in1 s eH[m] x (b m))/\R (.ok (.ret .none)) { s with heap:=s.heap.update l (Obj.mapSeq λxs=>xs.eraseIdxIfInBounds j) }):=by
 intro k
 induction k with
 |zero=>
  intro i T p J I w A R s h;obtain⟨hp,g,d,tk,os⟩:=s;obtain⟨U,eq,h⟩:=h;have e:i=j:=by lia
  subst e
  (wp_walk using wpAny_loadPart' U)
  have r:eH[((i:Nat):Int).toNat]?=some eH[i]:=by simp[C]
  rw[r];refine Aa (eq i C I w _ _ ?_);rw[hit];have t:(eH.eraseIdxIfInBounds i).size<=sizeLine+1:=AK (MeetsSeq.size_erased eH _) (Dh hz)
  (wp_walk using (wpAny_updateSeq U rfl (hz:=hz) (_hz':=t)),wpAny_loadPart' U)
  simpa using h
 |succ k ih=>
  intro i T p J I w A R s h;obtain⟨hp,g,d,tk,os⟩:=s;obtain⟨U,eq,h⟩:=h;have o:i<eH.size:=by exact jA
  (wp_walk using wpAny_loadPart' U)
  have r:eH[((i:Nat):Int).toNat]?=some eH[i]:=by simp[o]
  have hc:((i:Int)+1)=((i+1:Nat):Int):=by rfl
  rw[r];refine Aa (eq i o I w _ _ ?_);rw[J i (Al _) (by omega)]
  wp_walk
  rw[hc];refine⟨plainId_quiet ya _,codeAny_builtin MeetsSeq.entry_remove_loop ?_⟩;rw[Around.under_plainId ya _];exact ih (i+1) (by omega) (by omega) (λm h1 h2=>J m (by exact gL) h2) I w A R _ ⟨U,eq,h⟩
def af1(l:Addr)(eH:Array Value)(n:Nat)(x:Value)(b:Nat->Bool)(j:Nat)(o:j<eH.size)(hit:b j=true)(hz:eH.size<=sizeLine)(J:∀m,m<j->b m=false):
 Meets (Builtin.«list.remove» ⟨[.ref l,x],[]⟩) (λA R s=>s.heap.get? l=some { cls:=.type "list",dict:=none,data:=.seq eH n,slots:=#[] }/\(∀m (r:m<eH.size),SeqAt.EqAt A.in1 s eH[m] x (b m))/\R (.ok (.ret .none)) { s with heap:=s.heap.update l (Obj.mapSeq λxs=>xs.eraseIdxIfInBounds j) }):=by
 intro I w A R s h;obtain⟨t,g,d,C,os⟩:=s;obtain⟨U,eq,h⟩:=h
 (wp_walk using wpAny_loadPart' U)
 refine⟨plainId_quiet ya _,codeAny_builtin MeetsSeq.entry_remove_loop ?_⟩;rw[Around.under_plainId ya _];exact ahe l eH n x b j o hit hz _ 0 rfl (Bo _) (λm _ p=>J m p) I w A R _ ⟨U,eq,h⟩
theorem zq.eraseN:∀{xs:List V} {us:List Value} (n:Nat),zq xs us->zq (xs.eraseIdx n) (us.eraseIdx n)
 |[],_,n,.nil=>by simp;exact .nil
 |_::_,_,0,.cons _ t=>t
 |_::_,_,n+1,.cons r t=>.cons r (zq.eraseN n t)
def agz(X:Cx):V->List V->Hp->VK->Prop:=λx vs H Q=>∃l xs y ds e,∃n m j:Nat,x=.ref l/\vs=[y]/\H l=some (.lst xs)/\n<=126/\Paired (k7 X.K H n) xs ds/\k7 X.K H m y e/\j<ds.length/\(∃d,ds[j]?=some d/\Da.eq d e=true)/\
 (∀(k:Nat) d,k<j->ds[k]?=some d->Da.eq d e=false)/\Q .non (upd H l (.lst (xs.eraseIdx j)))
def abo(hu:X.A.units+128<cLine):iy X "list.remove" (agz X):=by
 intro a4 s σ H x vs v us Q I rx rv h;obtain⟨l,o,y,g,e,n,m,j,rfl,rfl,hH,hn,pd,ry,hj,⟨dj,t,C⟩,T,q⟩:=h;cases rx;obtain⟨u,rfl,ru⟩:=rv.one;obtain⟨z,J,nn,r,hl,eo⟩:=I.lstM hH;have l1:o.length=g.length:=pd.length;have l2:J.length=o.length:=r.length.symm;obtain⟨arr,U⟩:∃arr:Array Value,arr=J.toArray:=⟨_,rfl⟩;have a0:arr.size=J.length:=by rw[U,Ar]
 have b:Nat->Bool:=λ_=>true;have a1:arr.size<=sizeLine:=by rw[a0];lia
 have M:=af1 l arr nn u (λk=>((g[k]?).map λd=>Da.eq d e).getD false) j (by lia) (by show((g[j]?).map λd=>Da.eq d e).getD false=true;rw[t];exact C) a1 (λk p=>by show((g[k]?).map λd=>Da.eq d e).getD false=false;cases ek:g[k]? with|none=>rfl|some d=>exact T k d p ek)
 rw[U] at M;refine call_meets F.slot_list_remove ⟨_,eo,rfl⟩ F.entry_list_remove (F.args_list_remove_2 _ _) M ⟨eo,λk p=>?_,?_⟩
 ·have a5:k<J.length:=by rw[Ar] at p;exact p
  obtain⟨d,ed,rd⟩:=Words.Paired.getP pd (Aj (by lia:k<o.length));show SeqAt.EqAt _ s _ u (((g[k]?).map λd=>Da.eq d e).getD false);rw[ed];obtain⟨u',a2,a3⟩:=Words.Paired.getP r (Aj (by lia:k<o.length));have eg:J.toArray[k]=u':=by have:=(AU.mp a2).2;simpa using this
  rw[eg];exact jS I n (by show X.A.units+1+n<cLine;lia) rd ry a3 ru
 ·refine⟨.non,_,I.lset (its':=J.eraseIdx j) hH eo ?_ (r.eraseN j) ?_,rfl,q⟩
  ·have:j<J.length:=by lia
   simp[Array.eraseIdxIfInBounds,this]
  ·have:=C4 o j;exact ajx
end L2
namespace L3
open PySem L2
def ajn(n:Nat)(t:t9)(y:Y)(τ:jy)(L:qm)(Q:jy->qm->Prop):Prop:=match y with
 |.ref a=>dr L a λys=>match ys.length==n with
  |true=>t ys τ L Q
  |false=>False
 |_=>False
def alo{U:Nat}(hc:X.calm=true)(h:QGs X es gs)(h1:(assignEach es X.env).length=n:=by rfl)(h2:(assignEach es X.env).findIdx? (·.1)=none:=by rfl):QG X (.Tuple es U pos) (ajn n gs):=
 PG.imp (alh hc h h1 h2) λv σ H Q ⟨y,g,L,j,l,o,J,z,k⟩=>by
 cases y with
 |ref a=>
  cases (show v=.ref a from l);obtain⟨p,e,I⟩:=vq z;obtain⟨t,C,r⟩:=J a _ e;split at I
  ·rename_i T;exact⟨a,t,rfl,EU C,by rw[<-r.length];exact beq_iff_eq.mp T,p,g,L,j,r,o,J,I,k⟩
  ·exact I.elim
 |_=>exact z.elim
def lZ(x:Y)(vs:List Y)(L:qm)(Q:YK):Prop:=match x,vs with
 |.ref a,[v]=>dr L a λys=>∃ds e,∃n m j:Nat,n<=126/\Paired (ju L n) ys ds/\ju L m v e/\j<ds.length/\(∃d,ds[j]?=some d/\Da.eq d e=true)/\(∀(k:Nat) d,k<j->ds[k]?=some d->Da.eq d e=false)/\Q .non (qe L a (.lst (ys.eraseIdx j)))
 |_,_=>False
def aep(C:X.A.units+128<cLine):iy X "list.remove" (upM X.g3 lZ):=iy.imq (abo C) λx I H Q y U L Q3 T r2 g z k=>by
 unfold lZ at z;split at z
 ·rename_i a v;obtain⟨zs,e,J,de,n,m,j,hn,pd,dv,hj,hit,l,z⟩:=vq z;obtain⟨us,o,r⟩:=g a _ e;obtain⟨v',rfl,rv⟩:=r2.inv1;have both:∀{U:List Y} {J:List Da} {I:List V},Paired (ju L n) U J->ve X.g3 H U I->Paired (k7 X.K H n) I J:=by
   intro U J I p
   induction p generalizing I with
   |nil=>intro q;cases (show I=[] from q);exact .nil
   |cons h t ih=>
    rintro⟨x,a0,rfl,q1,q2⟩;exact .cons (ju.rep g h q1) (ih q2)
  exact⟨a,us,v',J,de,n,m,j,T,rfl,o,hn,both pd r,ju.rep g dv rv,hj,hit,l,k _ _ _ _ (EO o) (g.setL o (r.eraseIdx j)) (by rfl) z⟩
 ·exact z.elim
def aak(I:X.A.units+128<cLine)(J:QE X o to)(U:QA X (e::es) tr)(g:attributeBase o "remove" X.env (eval o X.env)=eval o X.env:=by rfl)
 (j:((backTo eK (starEach (e::es) X.env)).all (λx=>!x.1)&&(backToKw eK (keywordEach [] X.env)).all (λx=>x.1.isSome)&&decide ((e::es).length+([]:List Keyword).length+(if ([]:List Keyword).isEmpty=true then 0 else 1)<30))=true:=by rfl)
 (l:(apos.endLine==eK.line)=true:=by rfl) (p:Et e es X:=by rfl) (r:Eu eK es X:=by rfl):
 QE X (.Call (.Attribute o "remove" apos) (e::es) [] eK) (am lZ to tr):=rq PySem.F.slot_list_remove PySem.F.type_list_remove (aep I) J U g j l p r
end L3
namespace L2
open PySem PySem.Spec PyProof.Rows
end L2
namespace L2
open PySem PySem.Spec PyProof.Rows
def asu:List V->Hp->VK->Prop:=λxs H Q=>∃n:Int,xs=[.int n]/\∀p,H p=none->Q (.ref p) (upd H p (.rng 0 n))
def acp:xi X (.type "range") asu:=by intro J s g H j l Q I r h;obtain⟨n,rfl,q⟩:=h;obtain⟨u,rfl,U⟩:=r.one;obtain⟨t,rfl⟩:=(show ∃t,u=Value.int n t from U);refine call_range_1 ?_;refine⟨.ref s.heap.objs.size,_,I.laid (t':=s.toks+1+1) (o:=.rng 0 n) (λb ob q=>u3 _ q) (Al _) ?_,rfl,q _ (I.hok.fresh (Al _))⟩;exact⟨s.toks,t,s.toks+1,vc _ rfl⟩
def vB{I:Array Value}(h:ItemsOf (λi v=>∃t,v=.int (0+(i:Int)*1) t) I n):zq ((List.range n).map λi:Nat=>V.int (0+(i:Int))) I.toList:=by
 have len:I.toList.length=n:=by rw[AL];exact h.1
 have key:∀(l:List Value) (k:Nat),(∀(j:Nat) v,l[j]?=some v->∃t,v=Value.int (0+((k+j:Nat):Int)*1) t)->zq ((List.range' k l.length).map λi:Nat=>V.int (0+(i:Int))) l:=by
  intro l
  induction l with
  |nil=>intro k _;exact .nil
  |cons v r g=>
   intro k U;rw[AF,DV,AG];obtain⟨t,e⟩:=U 0 v rfl;refine .cons ?_ (g (k+1) λj o J=>?_)
   ·exact⟨t,by rw[e];simp⟩
   ·have:=U (j+1) o J;rw[show k+1+j=k+(j+1) by simp +arith only];exact this
 have:=key I.toList 0 λj v J=>by rw[Di];exact h.2 j v (by simpa using J)
 rw[len,<-List.range_eq_range'] at this;exact this
def aom:List V->Hp->VK->Prop:=λxs H Q=>∃a,∃n:Nat,xs=[.ref a]/\H a=some (.rng 0 n)/\n<=100000/\∀p,H p=none->Q (.ref p) (upd H p (.lst ((List.range n).map λi:Nat=>V.int (0+(i:Int)))))
theorem aax(hc:X.calm=true):xi X (.type "list") aom:=by
 intro g s σ H xs us Q I r h;obtain⟨a,n,rfl,j,l,q⟩:=h;obtain⟨u,rfl,p⟩:=r.one;cases (show u=Value.ref a from p);obtain⟨t,u,v,e⟩:=I.hok a _ j;have hb:(100000:Nat)<=sizeLine:=by decide
 have C:Builtin.Range.rangeSize 0 (n:Int) 1=((n:Nat):Int):=by rw[rangeSize_one];split<;>lia
 refine xj I.tk (call_list_range (I.ok.hd hc) (show IsRange s.heap a 0 (n:Int) 1 t u v from e) (small_one (by decide) (by decide) (by exact AY _) (by omega)) C (AK l (by decide)) λh' T U c hk hS J ht=>?_);refine⟨.ref s.heap.objs.size,_,I.laid (t':=T) (o:=.lst ((List.range n).map λi:Nat=>V.int (0+(i:Int)))) hk (Al _) ?_,rfl,q _ (I.hok.fresh (Al _))⟩;refine⟨by rw[Af,A5];exact ajx,U.toList,c,vB J,?_⟩;rw[hS]
def apo:List V->Hp->VK->Prop:=λxs H Q=>∃b:Bool,xs=[.bl b]/\Q (.int (if b=true then 1 else 0)) H
def aa0:xi X (.type "int") apo:=by intro J s g H j l Q I r h;obtain⟨b,rfl,q⟩:=h;obtain⟨u,rfl,U⟩:=r.one;cases (show u=Value.bool b from U);exact call_int_bool ⟨.int _,_,I.tok (s.toks+1),⟨_,rfl⟩,q⟩
end L2
namespace L3
open PySem L2
def akh:bootBuiltins "range"=some (.type "range"):=by decide +kernel
def nW(te:xx)(τ:jy)(L:qm)(Q:YK):Prop:=te τ L λy L1=>match y with
 |.int n=>(0<=n/\n<=100000)/\∀p,L1 p=none->Q (.ref p) (qe L1 p (.lst (aX 0 n.toNat)))
 |_=>False
def agd(n:Nat):ve G H (aX 0 n) ((List.range n).map λi:Nat=>V.int (0+(i:Int))):=by
 unfold aX;generalize List.range n=l
 induction l with|nil=>rfl|cons k r I=>exact⟨_,_,rfl,rfl,I⟩
theorem oG{p I:Pos}(hc:X.calm=true)(T:Gl X "list")(hm:X.mg "list"=none)(j:Gl X "range")(l:X.mg "range"=none)(h:QE X e te)
 (h1:starEach [.Call (.Name "range" p2) [e] [] I] X.env=(false,eval (.Call (.Name "range" p2) [e] [] I) X.env)::starEach [] X.env:=by rfl) (h2:(backTo pos (starEach [] X.env)).any (·.1)=false:=by rfl)
 (C:starEach [e] X.env=(false,eval e X.env)::starEach [] X.env:=by rfl) (h4:(backTo I (starEach [] X.env)).any (·.1)=false:=by rfl):
 QE X (.Call (.Name "list" p) [.Call (.Name "range" p2) [e] [] I] [] pos) (nW te):=
 EF (im (aax hc) T hm bx (aa (im acp j l akh (aa h gR C) (by decide) (by decide) C h4) gR h1) (by decide) (by decide) h1 h2) λσ H Q τ L Q3 rs rl z k=>
 ⟨τ,L,_,rs,rl,z,λv H1 y L1 t1 J o U=>by
  cases y with
  |int n=>
   obtain⟨⟨h0,h5⟩,U⟩:=U;cases (show v=V.int n from o);obtain⟨m,rfl⟩:∃m:Nat,n=(m:Int):=⟨n.toNat,by lia⟩;refine⟨_,rfl,λq r=>⟨q,m,rfl,j8,by lia,λp g=>?_⟩⟩;have t:H1 p=none:=by
    by_cases c:p=q
    ·subst c;exact r
    ·rw[qt c] at g;exact g
   exact k _ _ _ _ (t1.trans ((EE r).trans (EE g))) ((J.skip r).newL g (agd m)) (by rfl) (U p (J.none t))
  |_=>exact U.elim⟩
def af7(xs:List Y)(L:qm)(Q:YK):Prop:=match xs with
 |[.bl b]=>Q (.int (if b=true then 1 else 0)) L
 |_=>False
theorem ajz :xi X (.type "int") (upL X.g3 af7):=xi.imq aa0 λg H Q j L l I J z k=>by
 unfold af7 at z;split at z
 ·rename_i b;obtain⟨u,rfl,U⟩:=I.inv1;cases (show u=V.bl b from U);exact⟨b,rfl,k _ _ _ _ (ED _) J (by rfl) z⟩
 ·exact z.elim
def kF(C:Addr)(m:Str)(sp:jx)(to:xx)(t:fC)(τ:jy)(L:qm)(Q:YK):Prop:=to τ L λx L1=>match x with
 |.ref a=>xA L1 a λI fs=>I=C/\fs.lookup m=none/\t τ L1 λys L2=>sp (.ref a::ys) L2 Q
 |_=>False
section
variable {m:Str}{g:Addr}
theorem aio{pl:Sem Bool}{k:Nat}(ho:QE X o to)(c:Cls X.K C)(hm:ad9 X.K C m g)(F:Fn3 X.prog X.w X.K X.mg X.base k g fd ps sp)(hr:wq k X.A)(hb:aW X.K fd ps [])(ha:QA X (e::es) tr)
 (J:Et e es X:=by rfl) (U:Eu pos es X:=by rfl)
 (ht:eval (.Call (.Attribute o m apos) (e::es) [] pos) X.env=(do
  let t <-eval o X.env
  standAt apos.atName
  let (f,first) <-holding [t] (getMethod t m pl)
  callWith pos f first (backTo pos (starEach (e::es) X.env)) (backToKw pos (keywordEach [] X.env))):=by rfl):
 QE X (.Call (.Attribute o m apos) (e::es) [] pos) (kF C m sp to tr):=ER (agb (pl:=pl) ho c hm F hr hb .nil ac9 ha J U ht) λσ H Q ⟨T,L,Q3,rs,rl,z,k⟩=>
 ⟨T,L,_,rs,rl,z,λv H1 y L1 t1 I j l=>by
  split at l
  ·rename_i a;obtain⟨C',fs,e,ec,n,q⟩:=nX l;subst ec;obtain⟨dx,xs,e2,pr⟩:=I a _ e;cases (show v=V.ref a from j);exact⟨a,dx,xs,rfl,e2,acd pr n,T,L1,_,rs.ts t1,I,q,λvs H2 ys L2 t2 p r z2=>⟨.ref a::ys,L2,Q3,⟨.ref a,vs++[],rfl,rfl,by rw[AQ];exact r⟩,p,z2,k.ts (t1.trans t2)⟩⟩
  ·exact l.elim⟩
def aao{pl:Sem Bool}{k:Nat}(j:ab8 X.prog X.w X.K X.mg X.base k C m ps sp)(l:wq k X.A)(c:Cls X.K C)(p:QE X o to)(r:QA X (e::es) tr)
 (I:Et e es X:=by rfl) (J:Eu pos es X:=by rfl)
 (t:eval (.Call (.Attribute o m apos) (e::es) [] pos) X.env=(do
  let U <-eval o X.env
  standAt apos.atName
  let (f,first) <-holding [U] (getMethod U m pl)
  callWith pos f first (backTo pos (starEach (e::es) X.env)) (backToKw pos (keywordEach [] X.env))):=by rfl):
 QE X (.Call (.Attribute o m apos) (e::es) [] pos) (kF C m sp to tr):=by
 obtain⟨g,fd,M,F,b⟩:=j.ex;exact aio (pl:=pl) p c M F l b r I J t
end
end L3
namespace TS
open PySem PyProof.Rows
def ahr:Bool->Keyed->Array Keyed->Nat->Nat->Nat->StateT SortSt Sem (Option Nat):=sortPriv% PySem.Builtin.gallop
section
variable {w:World}
structure Ord(prog:Program)(w:World)(A:Around)(s:Shared)(κ:SortKind)(Ok:Keyed->Prop)(f:Keyed->Int):Prop where
 lt:∀x y,Ok x->Ok y->∀{E:Value->Shared->Prop} {Q:Bool->Shared->Prop},Q (decide (f x<f y)) s->wpAny (model prog w) A (keyLt' κ x.1 y.1) Q E s
variable {κ:SortKind}{Ok:Keyed->Prop}{f:Keyed->Int}
def w_lt(O:Ord prog w A s κ Ok f){st:SortSt}{x y:Keyed}{Q:Option Bool->SortSt->Prop}(I:kindOf st=κ)(J:Ok x)(U:Ok y)(h:Q (some (decide (f x<f y))) st):wpS (model prog w) A E s (lt' x y) Q st:=by rw[lt'_eq];refine Ab (wpS_get ?_);rw[I];refine Ab (wpS_lift (wpAny_attempt (O.lt x y J U ⟨rfl,?_⟩)));exact Ad h
def xz{arr:Array Keyed}{x:Keyed}{st:SortSt}{Q:Keyed->SortSt->Prop}(h:arr[i]?=some x)(q:Q x st):wpS (model prog w) A E s (elem' arr i) Q st:=by rw[elem'_eq,h];exact Ad q
def bey(left:Bool)(key:Keyed)(arr:Array Keyed)(i:Nat):StateT SortSt Sem (Option Bool):=elem' arr i >>= λx=>if left=true then lt' x key else lt' key x >>= λr=>pure (r.map λb=>!b)
def aob(O:Ord prog w A s κ Ok f){left:Bool}{key x:Keyed}{arr:Array Keyed}{st:SortSt}{Q:Option Bool->SortSt->Prop}(J:kindOf st=κ)(I:Ok key)(U:Ok x)(hi:arr[i]?=some x)
 (q:Q (some (if left=true then decide (f x<f key) else !decide (f key<f x))) st):wpS (model prog w) A E s (bey left key arr i) Q st:=by
 refine Ab (xz hi ?_);cases left with|true=>exact w_lt O J U I q|false=>exact Ab (w_lt O J I U (Ad q))
def dD(O:Ord prog w A s κ Ok f){left:Bool}{key:Keyed}{arr:Array Keyed}{base hint:Nat}{st:SortSt}{Q:Option Nat->SortSt->Prop}(hk:kindOf st=κ)(a2:Ok key)(hh:hint<n)
 (it:Nat->Keyed) (hit:∀i,i<n->arr[base+i]?=some (it i)/\Ok (it i)) (o:Nat->Bool) (a3:∀i,i<n->o i=if left=true then decide (f (it i)<f key) else !decide (f key<f (it i)))
 (mono:∀i j,i<=j->j<n->o j=true->o i=true)
 (q:∀k,k<=n->(∀i,i<k->o i=true)->(∀i,k<=i->i<n->o i=false)->Q (some k) st):wpS (model prog w) A E s (ahr left key arr base n hint) Q st:=by
 have go:∀i,i<n->∀Q':Option Bool->SortSt->Prop,Q' (some (o i)) st->wpS (model prog w) A E s (bey left key arr (base+i)) Q' st:=λi U Q' h=>aob O hk a2 (hit i U).2 (hit i U).1 (by rw[<-a3 i U];exact h);refine Ab (go hint hh _ ?_);dsimp only;cases hb:o hint with
 |true=>
  rw[Aw rfl];refine Ab (AV (AJ (I:=λx c g=>g=st/\∃l J,c=(none,l,J)/\l<J/\l<n-hint/\o (hint+l)=true/\x+1<=J)
   (Q:=λc g=>g=st/\∃l J,c=(none,l,J)/\l<J/\l<n-hint/\o (hint+l)=true/\(n-hint<=J\/o (hint+J)=false)) ?_ ?_ ⟨rfl,0,1,rfl,by exact Bg _,by omega,hb,by exact Bg _⟩) ?_)
  ·rintro x c g _ hx ⟨rfl,l,J,rfl,h1,h2,r,t⟩;dsimp only;by_cases c:J>=n-hint
   ·rw[Aw c];exact Ad ⟨rfl,l,J,rfl,h1,h2,r,.inl c⟩
   ·rw[As c];refine Ab (go (hint+J) (by lia) _ ?_);dsimp only;cases C:o (hint+J) with
    |true=>
     rw[As (by simp)];exact Ad ⟨rfl,J,2*J+1,rfl,by simp +arith only,by exact anj,C,by lia⟩
    |false=>
     rw[Aw (by simp)];exact Ad ⟨rfl,l,J,rfl,h1,h2,r,.inr C⟩
  ·rintro c g ⟨rfl,l,J,rfl,h1,h2,r,t⟩;exact⟨rfl,l,J,rfl,h1,h2,r,.inl (by lia)⟩
  ·rintro c g ⟨rfl,l,J,rfl,h1,h2,r,t⟩;dsimp only;obtain⟨lo,a0⟩:∃lo,lo=hint+l+1:=⟨_,rfl⟩;obtain⟨U,a1⟩:∃U,U=hint+min J (n-hint):=⟨_,rfl⟩;rw[<-a0,<-a1];have g1:lo<=U:=by omega
   have g2:U<=n:=by lia
   have g3:∀i,i<lo->o i=true:=λi U=>mono i (hint+l) (by lia) (by lia) r;have g4:∀i,U<=i->i<n->o i=false:=λi h5 h6=>by
    rcases t with t|t
    ·omega
    ·cases e:o i with
     |false=>rfl
     |true=>
      by_cases c:J<n-hint
      ·rw[mono (hint+J) i (by omega) h6 e] at t;cases t
      ·omega
   refine Ab (AV (AJ (I:=λx c sx=>sx=g/\∃lo U,c=(none,lo,U)/\lo<=U/\U<=n/\(∀i,i<lo->o i=true)/\(∀i,U<=i->i<n->o i=false)/\U-lo+x<=n)
    (Q:=λc sx=>sx=g/\∃U,c=(none,U,U)/\U<=n/\(∀i,i<U->o i=true)/\(∀i,U<=i->i<n->o i=false)) ?_ ?_ ⟨rfl,lo,U,rfl,g1,g2,g3,g4,by exact apc⟩) ?_)
   ·rintro x c p _ hx ⟨rfl,lo,U,rfl,k1,T,k3,k4,k5⟩;dsimp only;by_cases c:lo>=U
    ·rw[Aw c];have:lo=U:=by lia
     subst this;exact Ad ⟨rfl,lo,rfl,T,k3,k4⟩
    ·rw[As c];refine Ab (go (lo+(U-lo) / 2) (by lia) _ ?_);dsimp only;cases C:o (lo+(U-lo) / 2) with
     |true=>
      rw[Aw rfl];exact Ad ⟨rfl,lo+(U-lo) / 2+1,U,rfl,by lia,T,λi h5=>mono i _ (by exact aou) (by lia) C,k4,by lia⟩
     |false=>
      rw[As (by simp)];refine Ad ⟨rfl,lo,lo+(U-lo) / 2,rfl,by exact A2 _ _,by lia,k3,λi h5 h6=>?_,by omega⟩;cases e:o i with|false=>rfl|true=>rw[mono _ i h5 h6 e] at C;cases C
   ·rintro c p ⟨rfl,lo,U,rfl,k1,T,k3,k4,k5⟩;have:lo=U:=by lia
    subst this;exact⟨rfl,lo,rfl,T,k3,k4⟩
   ·rintro c p ⟨rfl,U,rfl,T,k3,k4⟩;exact Ad (q U T k3 k4)
 |false=>
  rw[As (by simp)];refine Ab (AV (AJ (I:=λx c g=>g=st/\∃l J,c=(none,l,J)/\l<J/\l<hint+1/\o (hint-l)=false/\x+1<=J)
   (Q:=λc g=>g=st/\∃l J,c=(none,l,J)/\l<J/\l<hint+1/\o (hint-l)=false/\(hint+1<=J\/o (hint-J)=true)) ?_ ?_ ⟨rfl,0,1,rfl,by lia,by exact CN _,hb,by lia⟩) ?_)
  ·rintro x c g _ hx ⟨rfl,l,J,rfl,h1,h2,r,t⟩;dsimp only;by_cases c:J>=hint+1
   ·rw[Aw c];exact Ad ⟨rfl,l,J,rfl,h1,h2,r,.inl c⟩
   ·rw[As c];refine Ab (go (hint-J) (by exact ox) _ ?_);dsimp only;cases C:o (hint-J) with
    |true=>
     rw[Aw rfl];exact Ad ⟨rfl,l,J,rfl,h1,h2,r,.inr C⟩
    |false=>
     rw[As (by simp)];exact Ad ⟨rfl,J,2*J+1,rfl,by lia,by exact anj,C,by lia⟩
  ·rintro c g ⟨rfl,l,J,rfl,h1,h2,r,t⟩;exact⟨rfl,l,J,rfl,h1,h2,r,.inl (by exact i0)⟩
  ·rintro c g ⟨rfl,l,J,rfl,h1,h2,r,t⟩;dsimp only;obtain⟨lo,a0⟩:∃lo,lo=hint+1-min J (hint+1):=⟨_,rfl⟩;obtain⟨U,a1⟩:∃U,U=hint-l:=⟨_,rfl⟩;rw[<-a0,<-a1];have g1:lo<=U:=by omega
   have g2:U<=n:=by omega
   have g3:∀i,i<lo->o i=true:=λi h5=>by
    rcases t with t|t
    ·omega
    ·exact mono i (hint-J) (by omega) (by exact ox) t
   have g4:∀i,U<=i->i<n->o i=false:=λi h5 h6=>by cases e:o i with|false=>rfl|true=>rw[mono (hint-l) i (by lia) h6 e] at r;cases r
   refine Ab (AV (AJ (I:=λx c sx=>sx=g/\∃lo U,c=(none,lo,U)/\lo<=U/\U<=n/\(∀i,i<lo->o i=true)/\(∀i,U<=i->i<n->o i=false)/\U-lo+x<=n)
    (Q:=λc sx=>sx=g/\∃U,c=(none,U,U)/\U<=n/\(∀i,i<U->o i=true)/\(∀i,U<=i->i<n->o i=false)) ?_ ?_ ⟨rfl,lo,U,rfl,g1,g2,g3,g4,by exact apc⟩) ?_)
   ·rintro x c p _ hx ⟨rfl,lo,U,rfl,k1,T,k3,k4,k5⟩;dsimp only;by_cases c:lo>=U
    ·rw[Aw c];have:lo=U:=by lia
     subst this;exact Ad ⟨rfl,lo,rfl,T,k3,k4⟩
    ·rw[As c];refine Ab (go (lo+(U-lo) / 2) (by lia) _ ?_);dsimp only;cases C:o (lo+(U-lo) / 2) with
     |true=>
      rw[Aw rfl];exact Ad ⟨rfl,lo+(U-lo) / 2+1,U,rfl,by lia,T,λi h5=>mono i _ (by lia) (by lia) C,k4,by lia⟩
     |false=>
      rw[As (by simp)];refine Ad ⟨rfl,lo,lo+(U-lo) / 2,rfl,by lia,by lia,k3,λi h5 h6=>?_,by lia⟩;cases e:o i with|false=>rfl|true=>rw[mono _ i h5 h6 e] at C;cases C
   ·rintro c p ⟨rfl,lo,U,rfl,k1,T,k3,k4,k5⟩;have:lo=U:=by lia
    subst this;exact⟨rfl,lo,rfl,T,k3,k4⟩
   ·rintro c p ⟨rfl,U,rfl,T,k3,k4⟩;exact Ad (q U T k3 k4)
end
def af5:Array Keyed->Array Keyed->StateT SortSt Sem (Array Keyed):=sortPriv% PySem.Builtin.mergeLo
def aei:Array Keyed->Array Keyed->StateT SortSt Sem (Array Keyed):=sortPriv% PySem.Builtin.mergeHi
structure MI(f:Keyed->Int)(la lb fm ra rb:List Keyed):Prop where
 perm:(fm++(ra++rb)).Perm (la++lb)
 so:fm.Pairwise λx y=>f x<=f y
 sa:ra.Pairwise λx y=>f x<=f y
 sb:rb.Pairwise λx y=>f x<=f y
 oa:∀x∈fm,∀y∈ra,f x<=f y
 ob:∀x∈fm,∀y∈rb,f x<=f y
def MI.a{f:Keyed->Int}{g j fm seg l U:List Keyed}(h:MI f g j fm (seg++l) U)(hs:∀x∈seg,∀y∈U,f x<=f y):MI f g j (fm++seg) l U:=by
 have sa:=AN.mp h.sa;refine⟨?_,AN.mpr ⟨h.so,sa.1,λx I y J=>h.oa x I y (Au _ J)⟩,sa.2.1,h.sb,λx I y J=>?_,λx I y J=>?_⟩
 ·have:=h.perm;rw[AE] at this ⊢;exact this
 ·rcases Ak.mp I with I|I
  ·exact h.oa x I y (Ag _ J)
  ·exact sa.2.2 x I y J
 ·rcases Ak.mp I with I|I
  ·exact h.ob x I y J
  ·exact hs x I y J
def MI.b{f:Keyed->Int}{l o fm seg U g:List Keyed}(h:MI f l o fm U (seg++g))(hs:∀x∈seg,∀y∈U,f x<=f y):MI f l o (fm++seg) U g:=by
 have j:=AN.mp h.sb;refine⟨?_,AN.mpr ⟨h.so,j.1,λx I y J=>h.ob x I y (Au _ J)⟩,h.sa,j.2.1,λx I y J=>?_,λx I y J=>?_⟩
 ·refine List.Perm.trans ?_ h.perm;rw[AE];exact(Bz fm).mpr (by rw[<-AE,<-AE];exact(Bl g).mpr Bi)
 ·rcases Ak.mp I with I|I
  ·exact h.oa x I y J
  ·exact hs x I y J
 ·rcases Ak.mp I with I|I
  ·exact h.ob x I y (Ag _ J)
  ·exact j.2.2 x I y J
def wr(f:Keyed->Int)(I J r:List Keyed):Prop:=r.Perm (I++J)/\r.Pairwise λx y=>f x<=f y
def MI.ea{f:Keyed->Int}{I J fm U:List Keyed}(h:MI f I J fm U []):wr f I J (fm++U):=⟨by have:=h.perm;rwa[AQ] at this,AN.mpr ⟨h.so,h.sa,h.oa⟩⟩
def MI.eb{f:Keyed->Int}{g j fm J U:List Keyed}(h:MI f g j fm J U)(hs:∀x∈U,∀y∈J,f x<=f y):wr f g j (fm++U++J):=by
 refine⟨List.Perm.trans ?_ h.perm,?_⟩
 ·rw[AE];exact(Bz fm).mpr Bi
 ·rw[AE];refine AN.mpr ⟨h.so,AN.mpr ⟨h.sb,h.sa,hs⟩,λx l y I=>?_⟩;rcases Ak.mp I with I|I
  ·exact h.ob x l y I
  ·exact h.oa x l y I
structure MP(f:Keyed->Int)(a b fm:Array Keyed)(ia ib:Nat):Prop where
 mi:MI f a.toList b.toList fm.toList (a.toList.drop ia) (b.toList.drop ib)
 sz:fm.size=ia+ib
 la:ia<=a.size
 lb:ib<=b.size
def ajr(a:Array Keyed)(h:i<a.size):a.toList.drop i=a[i]::a.toList.drop (i+1):=by rw[BQ (by simpa using h)];simp
def iI(a:Array Keyed)(i j:Nat):(a.extract i j).toList=(a.toList.drop i).take (j-i):=by rw[Array.toList_extract,List.extract_eq_drop_take]
def jj(l:List Keyed)(i k:Nat):(l.drop i).take k++l.drop (i+k)=l.drop i:=by rw[<-Dj,Bm]
def rm{a:Array Keyed}{k:Nat}{x:Keyed}(h:x∈(a.toList.drop i).take k):∃j,∃I:i+j<a.size,j<k/\a[i+j]=x:=by
 obtain⟨j,I,e⟩:=A7 h;rw[AX,BB] at I;have J:i+j<a.size:=by have:a.toList.length=a.size:=AL;omega
 refine⟨j,J,by omega,?_⟩;rw[<-e];simp
def iS{a:Array Keyed}{x:Keyed}(h:x∈a.toList.drop i):∃j,∃I:j<a.size,i<=j/\a[j]=x:=by
 obtain⟨j,I,e⟩:=A7 h;rw[BB] at I;have J:i+j<a.size:=by have:a.toList.length=a.size:=AL;omega
 refine⟨i+j,J,by exact A2 _ _,?_⟩;rw[<-e];simp
def srt{f:Keyed->Int}{a:Array Keyed}(s:a.toList.Pairwise λx y=>f x<=f y)(I:i<=j)(J:j<a.size):f (a[i]'(by exact jA))<=f a[j]:=by
 rcases DC I with h|h
 ·have:=Cc.mp s i j (by simpa using (by exact jA:i<a.size)) (by simpa using J) h;simpa using this
 ·subst h;exact C5 _
section
variable {f:Keyed->Int}{a b fm:Array Keyed}{ia ib:Nat}
def MP.segA(M:MP f a b fm ia ib){k:Nat}(J:ia+k<=a.size)(h:∀i (hi:ia+i<a.size),i<k->∀j (I:j<b.size),ib<=j->f a[ia+i]<=f b[j]):MP f a b (fm++a.extract ia (ia+k)) (ia+k) ib:=by
 refine⟨?_,?_,J,M.lb⟩
 ·rw[A6,iI,show ia+k-ia=k by omega];refine MI.a (by rw[jj];exact M.mi) λx U y g=>?_;obtain⟨i,hi,l,rfl⟩:=rm U;obtain⟨j,I,o,rfl⟩:=iS g;exact h i hi l j I o
 ·rw[BM,C2,M.sz];lia
def MP.segB(M:MP f a b fm ia ib){k:Nat}(J:ib+k<=b.size)(h:∀i (hi:ib+i<b.size),i<k->∀j (I:j<a.size),ia<=j->f b[ib+i]<=f a[j]):MP f a b (fm++b.extract ib (ib+k)) ia (ib+k):=by
 refine⟨?_,?_,M.la,J⟩
 ·rw[A6,iI,show ib+k-ib=k by lia];refine MI.b (by rw[jj];exact M.mi) λx U y g=>?_;obtain⟨i,hi,l,rfl⟩:=rm U;obtain⟨j,I,o,rfl⟩:=iS g;exact h i hi l j I o
 ·rw[BM,C2,M.sz];lia
def MP.oneA(M:MP f a b fm ia ib)(hi:ia<a.size)(h:∀j (I:j<b.size),ib<=j->f a[ia]<=f b[j]):MP f a b (fm.push a[ia]) (ia+1) ib:=by refine⟨?_,by rw[Bq,M.sz];simp +arith only,hi,M.lb⟩;rw[CF];refine MI.a (seg:=[a[ia]]) (by rw[Cb,<-ajr a hi];exact M.mi) λx J y U=>?_;obtain⟨j,I,g,rfl⟩:=iS U;rw[Ap.mp J];exact h j I g
def MP.oneB(M:MP f a b fm ia ib)(hi:ib<b.size)(h:∀j (I:j<a.size),ia<=j->f b[ib]<=f a[j]):MP f a b (fm.push b[ib]) ia (ib+1):=by refine⟨?_,by rw[Bq,M.sz];exact Ep _ _ _,M.la,hi⟩;rw[CF];refine MI.b (seg:=[b[ib]]) (by rw[Cb,<-ajr b hi];exact M.mi) λx J y U=>?_;obtain⟨j,I,g,rfl⟩:=iS U;rw[Ap.mp J];exact h j I g
def MP.done(M:MP f a b fm ia ib)(h:ib=b.size):wr f a.toList b.toList (fm++a.extract ia++b.extract ib).toList:=by have e:b.toList.drop ib=[]:=List.drop_eq_nil_of_le (by rw[AL];lia);have m:=M.mi;rw[e] at m;have:=m.ea;rw[A6,A6,iI,iI,e,List.take_nil,AQ,Bk (by simp)];exact this
def MP.last(M:MP f a b fm ia ib)(h:ia+1=a.size)(I:∀x∈b.toList,f x<f (a[a.size-1]'(by omega))):wr f a.toList b.toList (fm++b.extract ib++a.extract ia).toList:=by
 have:=M.mi.eb λx J y U=>by
  obtain⟨j,g,l,rfl⟩:=iS U;have e:j=a.size-1:=by omega
  subst e;exact BN (I x (CK J))
 rw[A6,A6,iI,iI,Bk (by simp),Bk (by simp)];exact this
end
section
variable {w:World}{κ:SortKind}{Ok:Keyed->Prop}{f:Keyed->Int}
abbrev gq(st:SortSt)(g:Nat):SortSt:=SortSt.mk' (kindOf st) (arrOf st) (pendingOf st) g (failedOf st)
def uh{c:Prop}{_:Decidable c}{K:β->StateT SortSt Sem α}{y:β}{Q:α->SortSt->Prop}{st:SortSt}(key:∀z,wpS (model prog w) A E s (K z) Q st):∀x,wpS (model prog w) A E s (if c then K x else K y) Q st:=λx=>by
 by_cases h:c
 ·rw[Aw h];exact key x
 ·rw[As h];exact key y
def lW{I:Type}{c:Prop}{_:Decidable c}{K T:β->I->StateT SortSt Sem α}{P:β->I->Prop}{x:β}{i:I}{Q:α->SortSt->Prop}{st:SortSt}(key:∀o j,P o j->wpS (model prog w) A E s (K o j) Q st)(J:¬c->P x i)
 (hp:c->(∀o j,P o j->wpS (model prog w) A E s (K o j) Q st)->wpS (model prog w) A E s (T x i) Q st):∀o,x=o->∀j,i=j->wpS (model prog w) A E s (if c then T o j else K o j) Q st:=by
 rintro _ rfl _ rfl;by_cases h:c
 ·rw[Aw h];exact hp h key
 ·rw[As h];exact key x i (J h)
theorem zD(O:Ord prog w A s κ Ok f){a b:Array Keyed}{st:SortSt}{Q:Array Keyed->SortSt->Prop}(hk:kindOf st=κ)(cc:∀x∈a.toList,Ok x)(cg:∀x∈b.toList,Ok x)
 (sa:a.toList.Pairwise λx y=>f x<=f y) (sb:b.toList.Pairwise λx y=>f x<=f y) (ha:0<a.size) (hb:0<b.size) (h0:∀x∈a.toList,f b[0]<f x) (hl:∀x∈b.toList,f x<f a[a.size-1])
 (q:∀r g,wr f a.toList b.toList r.toList->Q r (gq st g)):wpS (model prog w) A E s (af5 a b) Q st:=by
 refine Ab (wpS_lift (Bu ⟨rfl,?_⟩));refine Ab (xz (x:=b[0]) (by simp[hb]) ?_);dsimp only;have M0:MP f a b #[b[0]] 0 1:=by have M:MP f a b #[] 0 0:=⟨⟨by simp,by simp,by simpa using sa,by simpa using sb,by simp,by simp⟩,rfl,Bo _,Bo _⟩;have:=M.oneB hb λj hj _=>BN (h0 a[j] (by simp));simpa using this
 by_cases c1:(1==b.size)=true
 ·rw[Aw c1];exact Ad (q _ (gallopOf st) (M0.done (by simpa using c1)))
 rw[As c1];by_cases c2:(0+1==a.size)=true
 ·rw[Aw c2];exact Ad (q _ (gallopOf st) (M0.last (by simpa using c2) hl))
 rw[As c2];have c1:¬1=b.size:=by simpa using c1
 have c2:¬1=a.size:=by simpa using c2
 refine Ab (wpS_get ?_);have bn:∀i (p:i<a.size),Ok a[i]:=λi p=>cc _ (by simp);have bp:∀i (p:i<b.size),Ok b[i]:=λi p=>cg _ (by simp);have bb:∀i (p:i<a.size),a[i]?=some a[i]:=λi p=>by simp[p]
 have bd:∀i (p:i<b.size),b[i]?=some b[i]:=λi p=>by simp[p]
 obtain⟨tA,cm⟩:∃t:Nat->Keyed,t=λi=>(a[i]?).getD b[0]:=⟨_,rfl⟩;have a4:∀i (p:i<a.size),tA i=a[i]:=λi p=>by rw[cm];simp[p]
 have cn:∀i (p:i<a.size),a[i]?=some (tA i):=λi p=>by rw[a4 i p];exact bb i p
 have cv:∀i (p:i<a.size),Ok (tA i):=λi p=>by rw[a4 i p];exact bn i p
 have cx:∀{i j},i<=j->j<a.size->f (tA i)<=f (tA j):=λ{i j} a0 hj=>by rw[a4 i (by exact jA),a4 j hj];exact srt sa a0 hj
 obtain⟨tB,cy⟩:∃t:Nat->Keyed,t=λi=>(b[i]?).getD b[0]:=⟨_,rfl⟩;have ba:∀i (p:i<b.size),tB i=b[i]:=λi p=>by rw[cy];simp[p]
 have cI:∀i (p:i<b.size),b[i]?=some (tB i):=λi p=>by rw[ba i p];exact bd i p
 have cP:∀i (p:i<b.size),Ok (tB i):=λi p=>by rw[ba i p];exact bp i p
 have d0:∀{i j},i<=j->j<b.size->f (tB i)<=f (tB j):=λ{i j} a0 hj=>by rw[ba i (by exact jA),ba j hj];exact srt sb a0 hj
 refine Ab (AV (AJ (I:=λx c C=>(∃g,C=gq st g)/\∃a5 l U mg,c=(none,a5,l,U,mg)/\MP f a b a5 l U/\l+1<a.size/\U<b.size/\x+1<=a5.size)
  (Q:=λc C=>(∃g,C=gq st g)/\∃r,c.1=some r/\wr f a.toList b.toList r.toList) ?_ ?_ ⟨⟨gallopOf st,rfl⟩,_,_,_,_,rfl,M0,by exact zB,by exact zB,by simp⟩) ?_)
 ·rintro x c C _ hx ⟨⟨g,rfl⟩,a5,l,U,mg,rfl,M,a2,T,hs⟩;dsimp only;refine Ab (AV (AJ (I:=λy c C=>C=gq st g/\∃J l U ac bc,c=(none,J,l,U,ac,bc)/\MP f a b J l U/\l+1<a.size/\U<b.size/\a5.size+y<=J.size)
   (Q:=λc C=>C=gq st g/\((∃r,c.1=some r/\wr f a.toList b.toList r.toList)\/∃J l U ac bc,c=(none,J,l,U,ac,bc)/\MP f a b J l U/\l+1<a.size/\U<b.size/\a5.size+1<=J.size)) ?_ ?_ ⟨rfl,_,_,_,_,_,rfl,M,a2,T,Al _⟩) ?_)
  ·rintro y c C _ hy ⟨rfl,J,l,U,ac,bc,rfl,M,a2,T,bv⟩;have bf:l<a.size:=by exact gL
   dsimp only;refine Ab (xz (bd U T) ?_);refine Ab (xz (bb l bf) ?_);refine Ab (w_lt O hk (bp U T) (bn l bf) ?_);dsimp only;by_cases c:f b[U]<f a[l]
   ·rw[Ao c,Aw rfl];refine Ab (xz (bd U T) ?_);have M':=M.oneB T λj hj a0=>BN (Int.lt_of_lt_of_le c (srt sa a0 hj));have s2:(J.push b[U]).size=J.size+1:=Bq _;by_cases e1:(U+1==b.size)=true
    ·rw[Aw e1];exact Ad ⟨rfl,.inl ⟨_,rfl,M'.done (by simpa using e1)⟩⟩
    ·rw[As e1];have e1:¬U+1=b.size:=by simpa using e1
     split
     ·exact Ad ⟨rfl,.inr ⟨_,_,_,_,_,rfl,M',a2,by exact zB,by lia⟩⟩
     ·exact Ad ⟨rfl,_,_,_,_,_,rfl,M',a2,by lia,by lia⟩
   ·rw[Aq c,As (by simp)];refine Ab (xz (bb l bf) ?_);have M':=M.oneA (by lia) λj hj a0=>BJ (by omega) (srt sb a0 hj);have s2:(J.push a[l]).size=J.size+1:=Bq _;by_cases e1:(l+1+1==a.size)=true
    ·rw[Aw e1];exact Ad ⟨rfl,.inl ⟨_,rfl,M'.last (by simpa using e1) hl⟩⟩
    ·rw[As e1];have e1:¬l+1+1=a.size:=by simpa using e1
     split
     ·exact Ad ⟨rfl,.inr ⟨_,_,_,_,_,rfl,M',by exact zB,T,by lia⟩⟩
     ·exact Ad ⟨rfl,_,_,_,_,_,rfl,M',by lia,T,by lia⟩
  ·rintro c C ⟨rfl,J,l,U,ac,bc,rfl,M,a2,T,bv⟩;have:=M.sz;omega
  ·rintro c C ⟨rfl,h⟩;rcases h with⟨r,er,hr⟩|⟨bi,l,U,ac,bc,rfl,M,a2,T,bv⟩
   ·obtain⟨c1,c2⟩:=c;cases er;exact Ad ⟨⟨g,rfl⟩,r,rfl,hr⟩
   ·dsimp only;refine Ab (wpS_lift (Bu ⟨rfl,?_⟩));refine Ab (AV (AJ (I:=λy c C=>(∃g,C=gq st g)/\∃J l U mg ac bc,c=(none,J,l,U,mg,ac,bc)/\MP f a b J l U/\l+1<a.size/\U<b.size/\bi.size+y<=J.size)
     (Q:=λc C=>(∃g,C=gq st g)/\((∃r,c.1=some r/\wr f a.toList b.toList r.toList)\/∃J l U mg ac bc,c=(none,J,l,U,mg,ac,bc)/\MP f a b J l U/\l+1<a.size/\U<b.size/\bi.size<=J.size)) ?_ ?_ ⟨⟨g,rfl⟩,_,_,_,_,_,_,rfl,M,a2,T,Al _⟩) ?_)
    ·rintro y c C _ hy ⟨⟨g',rfl⟩,J,l,U,bq,ac,bc,rfl,M,a2,T,bj⟩;have bf:l<a.size:=by exact gL
     dsimp only;generalize bq-1=dd;revert dd;refine uh (y:=bq) λde=>?_
     all_goals
      refine Ab (wpS_modify ?_);refine Ab (xz (bd U T) ?_);refine Ab (dD O hk (bp U T) (by lia) (λi=>tA (l+i)) (λi p=>⟨cn _ (by lia),cv _ (by lia)⟩) (λi=>!decide (f b[U]<f (tA (l+i)))) (λi p=>by rw[As (by simp)]) (λi j a0 hj h=>?_) λk di be bg=>?_)
      ·have:=cx (i:=l+i) (j:=l+j) (by lia) (by lia);simp at h ⊢;lia
      have be:∀i,i<k->f (tA (l+i))<=f b[U]:=λi p=>by have:=be i p;simpa using this
      have bg:∀i,k<=i->i<a.size-l->f b[U]<f (tA (l+i)):=λi p hj=>by have:=bg i p hj;simpa using this
      have kl:k<a.size-l:=by
       rcases DC di with h|h
       ·exact h
       ·exfalso;have h1:=be (a.size-1-l) (by lia);have h2:=hl b[U] (by simp);rw[show l+(a.size-1-l)=a.size-1 by lia,a4 _ (by exact sM)] at h1;omega
      have M1:MP f a b (J++a.extract l (l+k)) (l+k) U:=M.segA (by lia) λi p br j hj a0=>by have h1:=be i br;rw[a4 _ p] at h1;exact BJ h1 (srt sb a0 hj)
      have pB:∀j (hj:j<a.size),l+k<=j->f b[U]<=f a[j]:=λj hj a0=>by have h1:=bg (j-l) (by lia) (by lia);rw[show l+(j-l)=j by lia,a4 _ hj] at h1;lia
      dsimp only;generalize dj:J=o0;generalize dp:l=j0;revert j0;revert o0;refine lW (P:=λ(o:Array Keyed) (j:Nat)=>MP f a b o j U/\J.size<=o.size/\j+1<a.size/\∀j' (hj:j'<a.size),j<=j'->f b[U]<=f a[j']) (x:=J) (i:=l) (λa3 a1 hP=>?tail) (λck=>?hN) (λck key=>?hY)
      case hN=>
       obtain rfl:k=0:=by lia
       exact⟨M,Al _,a2,λj hj a0=>pB j hj (by lia)⟩
      case hY=>
       by_cases e1:(l+k+1==a.size)=true
       ·rw[Aw e1];exact Ad ⟨⟨_,rfl⟩,.inl ⟨_,rfl,M1.last (by simpa using e1) hl⟩⟩
       ·rw[As e1,As (show ¬(l+k==a.size)=true by simp;lia)];have e1:¬l+k+1=a.size:=by simpa using e1
        exact key _ _ ⟨M1,by rw[BM];exact A2 _ _,by lia,pB⟩
      clear pB M1 be bg;obtain⟨M1,h3,l3,pB⟩:=hP;have bu:a1<a.size:=by exact gL
      all_goals
       refine Ab (xz (bd U T) ?_);have M2:=M1.oneB T pB;have s2:(a3.push b[U]).size=a3.size+1:=Bq _;by_cases e2:(U+1==b.size)=true
       case' pos=>
        rw[Aw e2];exact Ad ⟨⟨_,rfl⟩,.inl ⟨_,rfl,M2.done (by simpa using e2)⟩⟩
       case' neg=>
        rw[As e2];have e2:¬U+1=b.size:=by simpa using e2
        refine Ab (xz (bb a1 bu) ?_);refine Ab (dD O hk (bn a1 bu) (by lia) (λi=>tB (U+1+i)) (λi p=>⟨cI _ (by omega),cP _ (by lia)⟩) (λi=>decide (f (tB (U+1+i))<f a[a1])) (λi p=>by rw[Aw rfl]) (λi j a0 hj h=>?_) λk2 dt ab aL=>?_)
        ·have:=d0 (i:=U+1+i) (j:=U+1+j) (by lia) (by omega);simp at h ⊢;lia
        have ab:∀i,i<k2->f (tB (U+1+i))<f a[a1]:=λi p=>by have:=ab i p;simpa using this
        have aL:∀i,k2<=i->i<b.size-(U+1)->f a[a1]<=f (tB (U+1+i)):=λi p hj=>by have:=aL i p hj;simpa using this
        have M3:MP f a b (a3.push b[U]++b.extract (U+1) (U+1+k2)) a1 (U+1+k2):=M2.segB (by omega) λi p br j hj a0=>by have h1:=ab i br;rw[ba _ p] at h1;exact BJ (BN h1) (srt sa a0 hj)
        have pA:∀j (hj:j<b.size),U+1+k2<=j->f a[a1]<=f b[j]:=λj hj a0=>by have h1:=aL (j-(U+1)) (by lia) (by omega);rw[show U+1+(j-(U+1))=j by lia,ba _ hj] at h1;exact h1
        dsimp only;obtain⟨o3,bw⟩:∃o,o=a3.push b[U]:=⟨_,rfl⟩;obtain⟨bh,ca⟩:∃i,i=U+1:=⟨_,rfl⟩;rw[<-bw] at s2;rw[<-bw,<-ca] at M2 M3 ⊢;rw[<-ca] at pA dt;generalize dj:o3=o0;generalize dp:bh=j0;revert j0;revert o0;refine lW (P:=λ(o:Array Keyed) (j:Nat)=>MP f a b o a1 j/\a3.size+1<=o.size/\j<b.size/\∀j' (hj:j'<b.size),j<=j'->f a[a1]<=f b[j']) (x:=o3) (i:=bh) (λbm dV hP=>?tail2) (λck=>?hN) (λck key=>?hY)
        case hN=>
         obtain rfl:k2=0:=by lia
         exact⟨M2,by lia,by lia,λj hj a0=>pA j hj (by lia)⟩
        case hY=>
         by_cases e3:(bh+k2==b.size)=true
         ·rw[Aw e3];exact Ad ⟨⟨_,rfl⟩,.inl ⟨_,rfl,M3.done (by simpa using e3)⟩⟩
         ·rw[As e3];have e3:¬bh+k2=b.size:=by simpa using e3
          exact key _ _ ⟨M3,by rw[BM];lia,by lia,pA⟩
        clear pA M3 ab aL;obtain⟨M3,h4,l4,pA⟩:=hP
        all_goals
         refine Ab (xz (bb a1 bu) ?_);have M4:=M3.oneA (by lia) pA;have s4:(bm.push a[a1]).size=bm.size+1:=Bq _;by_cases e4:(a1+1+1==a.size)=true
         ·rw[Aw e4];exact Ad ⟨⟨_,rfl⟩,.inl ⟨_,rfl,M4.last (by simpa using e4) hl⟩⟩
         ·rw[As e4];have e4:¬a1+1+1=a.size:=by simpa using e4
          split
          ·exact Ad ⟨⟨_,rfl⟩,.inr ⟨_,_,_,_,_,_,rfl,M4,by exact zB,l4,by lia⟩⟩
          ·exact Ad ⟨⟨_,rfl⟩,_,_,_,_,_,_,rfl,M4,by lia,l4,by lia⟩
    ·rintro c C ⟨⟨g',rfl⟩,J,l,U,bq,ac,bc,rfl,M,a2,T,bj⟩;have:=M.sz;omega
    ·rintro c C ⟨⟨g',rfl⟩,h⟩;rcases h with⟨r,er,hr⟩|⟨dv,l,U,de,ac,bc,rfl,M,a2,T,bj⟩
     ·obtain⟨c1,c2⟩:=c;cases er;exact Ad ⟨⟨g',rfl⟩,r,rfl,hr⟩
     ·dsimp only;refine Ab (wpS_modify ?_);exact Ad ⟨⟨_,rfl⟩,_,_,_,_,rfl,M,a2,T,by lia⟩
 ·rintro c C ⟨⟨g,rfl⟩,a5,l,U,mg,rfl,M,a2,T,hs⟩;have:=M.sz;lia
 ·rintro c C ⟨⟨g,rfl⟩,r,er,hr⟩;obtain⟨c1,c2⟩:=c;cases er;exact Ad (q r g hr)
end
structure MH(f:Keyed->Int)(la lb ra rb o:List Keyed):Prop where
 perm:(ra++rb++o).Perm (la++lb)
 so:o.Pairwise λx y=>f x<=f y
 sa:ra.Pairwise λx y=>f x<=f y
 sb:rb.Pairwise λx y=>f x<=f y
 oa:∀x∈ra,∀y∈o,f x<=f y
 ob:∀x∈rb,∀y∈o,f x<=f y
def MH.a{f:Keyed->Int}{j l o seg U g:List Keyed}(h:MH f j l (U++seg) g o)(hs:∀x∈g,∀y∈seg,f x<=f y):MH f j l U g (seg++o):=by
 have sa:=AN.mp h.sa;refine⟨List.Perm.trans ?_ h.perm,AN.mpr ⟨sa.2.1,h.so,λx J y I=>h.oa x (Ag _ J) y I⟩,sa.1,h.sb,λx J y I=>?_,λx J y I=>?_⟩
 ·rw[<-AE];refine(Bl o).mpr ?_;rw[AE,AE];exact(Bz U).mpr Bi
 ·rcases Ak.mp I with I|I
  ·exact sa.2.2 x J y I
  ·exact h.oa x (Au _ J) y I
 ·rcases Ak.mp I with I|I
  ·exact hs x J y I
  ·exact h.ob x J y I
def MH.b{f:Keyed->Int}{l p o seg U g:List Keyed}(h:MH f l p U (g++seg) o)(hs:∀x∈U,∀y∈seg,f x<=f y):MH f l p U g (seg++o):=by
 have j:=AN.mp h.sb;refine⟨?_,AN.mpr ⟨j.2.1,h.so,λx J y I=>h.ob x (Ag _ J) y I⟩,h.sa,j.1,λx J y I=>?_,λx J y I=>?_⟩
 ·have:=h.perm;rw[<-AE,AE U g seg];exact this
 ·rcases Ak.mp I with I|I
  ·exact hs x J y I
  ·exact h.oa x J y I
 ·rcases Ak.mp I with I|I
  ·exact j.2.2 x J y I
  ·exact h.ob x (Au _ J) y I
def MH.ea{f:Keyed->Int}{I J o U:List Keyed}(h:MH f I J [] U o):wr f I J (U++o):=⟨by have:=h.perm;rwa[Ej] at this,AN.mpr ⟨h.sb,h.so,h.ob⟩⟩
def MH.eb{f:Keyed->Int}{g j o J U:List Keyed}(h:MH f g j J U o)(hs:∀x∈U,∀y∈J,f x<=f y):wr f g j (U++J++o):=by
 refine⟨List.Perm.trans ?_ h.perm,?_⟩
 ·exact(Bl o).mpr Bi
 ·refine AN.mpr ⟨AN.mpr ⟨h.sb,h.sa,hs⟩,h.so,λx I y l=>?_⟩;rcases Ak.mp I with I|I
  ·exact h.ob x I y l
  ·exact h.oa x I y l
structure HP(f:Keyed->Int)(a b fm:Array Keyed)(na nb:Nat):Prop where
 mi:MH f a.toList b.toList (a.toList.take na) (b.toList.take nb) fm.toList.reverse
 sz:fm.size+na+nb=a.size+b.size
 la:na<=a.size
 lb:nb<=b.size
def ajq(a:Array Keyed)(h:i<a.size):a.toList.take (i+1)=a.toList.take i++[a[i]]:=by rw[Bf];simp[h]
def iP{a:Array Keyed}{x:Keyed}(h:x∈a.toList.take i):∃j,∃I:j<a.size,j<i/\a[j]=x:=by
 obtain⟨j,I,e⟩:=A7 h;rw[AX] at I;have J:j<a.size:=by have:a.toList.length=a.size:=AL;omega
 refine⟨j,J,by omega,?_⟩;rw[<-e];simp
def ai4(l:List Keyed){k:Nat}(h:i<=k):l.take i++(l.drop i).take (k-i)=l.take k:=by have:=List.take_add (l:=l) (i:=i) (j:=k-i);rw[show i+(k-i)=k by omega] at this;exact this.symm
section
variable {f:Keyed->Int}{a b fm:Array Keyed}{nb:Nat}
def HP.segA(M:HP f a b fm na nb){k:Nat}(J:k<=na)(h:∀i (hi:i<a.size),k<=i->i<na->∀j (I:j<b.size),j<nb->f b[j]<=f a[i]):HP f a b (fm++(a.extract k na).reverse) k nb:=by
 have o:=M.la;refine⟨?_,?_,by exact ajx,M.lb⟩
 ·rw[A6,CU,CL,List.reverse_reverse,iI];refine MH.a (by rw[ai4 _ J];exact M.mi) λx U y g=>?_;obtain⟨j,I,l,rfl⟩:=iP U;obtain⟨i,hi,p,rfl⟩:=rm g;exact h (k+i) hi (by exact A2 _ _) (by lia) j I l
 ·have:=M.sz;rw[BM,Array.size_reverse,C2];lia
def HP.segB(M:HP f a b fm na nb){k:Nat}(J:k<=nb)(h:∀i (hi:i<b.size),k<=i->i<nb->∀j (I:j<a.size),j<na->f a[j]<=f b[i]):HP f a b (fm++(b.extract k nb).reverse) na k:=by
 have o:=M.lb;refine⟨?_,?_,M.la,by lia⟩
 ·rw[A6,CU,CL,List.reverse_reverse,iI];refine MH.b (by rw[ai4 _ J];exact M.mi) λx U y g=>?_;obtain⟨j,I,l,rfl⟩:=iP U;obtain⟨i,hi,p,rfl⟩:=rm g;exact h (k+i) hi (by lia) (by lia) j I l
 ·have:=M.sz;rw[BM,Array.size_reverse,C2];lia
def HP.oneA(M:HP f a b fm (na+1) nb)(hi:na<a.size)(h:∀j (I:j<b.size),j<nb->f b[j]<=f a[na]):HP f a b (fm.push a[na]) na nb:=by refine⟨?_,by have:=M.sz;rw[Bq];lia,by exact gL,M.lb⟩;rw[CF,CU];refine MH.a (seg:=[a[na]]) (by rw[<-ajq a hi];exact M.mi) λx J y U=>?_;obtain⟨j,I,g,rfl⟩:=iP J;rw[Ap.mp U];exact h j I g
def HP.oneB(M:HP f a b fm na (nb+1))(hi:nb<b.size)(h:∀j (I:j<a.size),j<na->f a[j]<=f b[nb]):HP f a b (fm.push b[nb]) na nb:=by refine⟨?_,by have:=M.sz;rw[Bq];lia,M.la,by lia⟩;rw[CF,CU];refine MH.b (seg:=[b[nb]]) (by rw[<-ajq b hi];exact M.mi) λx J y U=>?_;obtain⟨j,I,g,rfl⟩:=iP J;rw[Ap.mp U];exact h j I g
def HP.done(M:HP f a b fm na nb)(h:na=0):wr f a.toList b.toList (a.extract 0 na++b.extract 0 nb++fm.reverse).toList:=by subst h;have:=M.mi;rw[List.take_zero] at this;have:=this.ea;rw[A6,A6,iI,iI,CL];simpa using this
def HP.last(M:HP f a b fm na nb)(h:nb=1)(g:0<b.size)(I:∀x∈a.toList,f b[0]<f x):wr f a.toList b.toList (b.extract 0 nb++a.extract 0 na++fm.reverse).toList:=by
 have:=M.mi.eb λx J y U=>by
  obtain⟨j,l,o,rfl⟩:=iP J;have e:j=0:=by lia
  subst e;exact BN (I y (Bx U))
 rw[A6,A6,iI,iI,CL];simpa using this
end
def HP.preA{f:Keyed->Int}{a b fm:Array Keyed}{nb:Nat}(M:HP f a b fm na nb)(I:0<na)(h:∀j (J:j<b.size),j<nb->f b[j]<=f (a[na-1]'(by have:=M.la;omega))):HP f a b (fm.push (a[na-1]'(by have:=M.la;omega))) (na-1) nb:=by obtain⟨n,rfl⟩:∃n,na=n+1:=⟨na-1,by lia⟩;have U:=M.la;exact HP.oneA M (by assumption) h
def HP.preB{f:Keyed->Int}{a b fm:Array Keyed}{nb:Nat}(M:HP f a b fm na nb)(I:0<nb)(h:∀j (J:j<a.size),j<na->f a[j]<=f (b[nb-1]'(by have:=M.lb;omega))):HP f a b (fm.push (b[nb-1]'(by have:=M.lb;lia))) na (nb-1):=by obtain⟨n,rfl⟩:∃n,nb=n+1:=⟨nb-1,by lia⟩;have U:=M.lb;exact HP.oneB M (by lia) h
section
variable {w:World}{κ:SortKind}{Ok:Keyed->Prop}{f:Keyed->Int}
def cH{c:Prop} [Decidable c]{x y:StateT SortSt Sem α}{Q:α->SortSt->Prop}{st:SortSt}(h:c)(k:wpS M A E s x Q st):wpS M A E s (if c then x else y) Q st:=by rw[Aw h];exact k
def az{c:Prop} [Decidable c]{x y:StateT SortSt Sem α}{Q:α->SortSt->Prop}{st:SortSt}(h:¬c)(k:wpS M A E s y Q st):wpS M A E s (if c then x else y) Q st:=by rw[As h];exact k
theorem aas(O:Ord prog w A s κ Ok f){a b:Array Keyed}{st:SortSt}{Q:Array Keyed->SortSt->Prop}(hk:kindOf st=κ)(bw:∀x∈a.toList,Ok x)(ca:∀x∈b.toList,Ok x)
 (sa:a.toList.Pairwise λx y=>f x<=f y) (sb:b.toList.Pairwise λx y=>f x<=f y) (ha:0<a.size) (hb:0<b.size) (h0:∀x∈a.toList,f b[0]<f x) (hl:∀x∈b.toList,f x<f a[a.size-1])
 (q:∀r g,wr f a.toList b.toList r.toList->Q r (gq st g)):wpS (model prog w) A E s (aei a b) Q st:=by
 have bn:∀i (U:i<a.size),Ok a[i]:=λi U=>bw _ (by simp);have bp:∀i (U:i<b.size),Ok b[i]:=λi U=>ca _ (by simp);have aL:∀i (U:i<a.size),a[i]?=some a[i]:=λi U=>by simp[U]
 have bb:∀i (U:i<b.size),b[i]?=some b[i]:=λi U=>by simp[U]
 obtain⟨tA,cc⟩:∃t:Nat->Keyed,t=λi=>(a[i]?).getD b[0]:=⟨_,rfl⟩;have ba:∀i (U:i<a.size),tA i=a[i]:=λi U=>by rw[cc];simp[U]
 have cg:∀i (U:i<a.size),a[0+i]?=some (tA i):=λi U=>by rw[ba i U,Di];exact aL i U
 have cm:∀i (U:i<a.size),Ok (tA i):=λi U=>by rw[ba i U];exact bn i U
 have cv:∀{i j},i<=j->j<a.size->f (tA i)<=f (tA j):=λ{i j} p hj=>by rw[ba i (by exact jA),ba j hj];exact srt sa p hj
 obtain⟨tB,cx⟩:∃t:Nat->Keyed,t=λi=>(b[i]?).getD b[0]:=⟨_,rfl⟩;have a4:∀i (U:i<b.size),tB i=b[i]:=λi U=>by rw[cx];simp[U]
 have cy:∀i (U:i<b.size),b[0+i]?=some (tB i):=λi U=>by rw[a4 i U,Di];exact bb i U
 have cI:∀i (U:i<b.size),Ok (tB i):=λi U=>by rw[a4 i U];exact bp i U
 have cP:∀{i j},i<=j->j<b.size->f (tB i)<=f (tB j):=λ{i j} p hj=>by rw[a4 i (by exact jA),a4 j hj];exact srt sb p hj
 refine Ab (wpS_lift (Bu ⟨rfl,?_⟩));refine Ab (xz (x:=a[a.size-1]) (aL _ (by exact sM)) ?_);dsimp only;obtain⟨n0,e6⟩:∃n,a.size=n+1:=⟨a.size-1,by lia⟩;have M0:HP f a b #[a[a.size-1]] (a.size-1) b.size:=by
  have M:HP f a b #[] (a.size-1+1) b.size:=by
   refine⟨⟨?_,by simp,?_,?_,by simp,by simp⟩,by simp;lia,by exact sM,Al _⟩
   ·rw[Bk (by simp;lia),Bk (by simp)];simp
   ·rw[Bk (by simp;lia)];exact sa
   ·rw[Bk (by simp)];exact sb
  have:=M.oneA (by lia) λj hj _=>BN (hl b[j] (by simp));simpa using this
 by_cases c1:(a.size-1==0)=true
 ·refine cH c1 ?_;exact Ad (q _ (gallopOf st) (M0.done (by simpa using c1)))
 refine az c1 ?_;by_cases c2:(b.size==1)=true
 ·refine cH c2 ?_;exact Ad (q _ (gallopOf st) (M0.last (by simpa using c2) hb h0))
 refine az c2 ?_;have c1:¬a.size-1=0:=by simpa using c1
 have c2:¬b.size=1:=by simpa using c2
 refine Ab (wpS_get ?_);refine Ab (AV (AJ (I:=λx c l=>(∃g,l=gq st g)/\∃na nb a5 mg,c=(none,na,nb,a5,mg)/\HP f a b a5 na nb/\0<na/\1<nb/\x+1<=a5.size)
  (Q:=λc l=>(∃g,l=gq st g)/\∃r,c.1=some r/\wr f a.toList b.toList r.toList) ?_ ?_ ⟨⟨gallopOf st,rfl⟩,_,_,_,_,rfl,M0,by exact acw,by lia,by simp⟩) ?_)
 ·rintro x c l _ hx ⟨⟨g,rfl⟩,na,nb,a5,mg,rfl,M,T,a0,hs⟩;dsimp only;refine Ab (AV (AJ (I:=λy c l=>l=gq st g/\∃na nb J ac bc,c=(none,na,nb,J,ac,bc)/\HP f a b J na nb/\0<na/\1<nb/\a5.size+y<=J.size)
   (Q:=λc l=>l=gq st g/\((∃r,c.1=some r/\wr f a.toList b.toList r.toList)\/∃na nb J ac bc,c=(none,na,nb,J,ac,bc)/\HP f a b J na nb/\0<na/\1<nb/\a5.size+1<=J.size)) ?_ ?_ ⟨rfl,_,_,_,_,_,rfl,M,T,a0,Al _⟩) ?_)
  ·rintro y c l _ hy ⟨rfl,na,nb,J,ac,bc,rfl,M,T,a0,br⟩;have d0:=M.la;have dd:=M.lb;have a1:nb-1<b.size:=by omega
   have bd:na-1<a.size:=by lia
   dsimp only;refine Ab (xz (bb (nb-1) a1) ?_);refine Ab (xz (aL (na-1) bd) ?_);refine Ab (w_lt O hk (bp (nb-1) a1) (bn (na-1) bd) ?_);dsimp only;by_cases c:f b[nb-1]<f a[na-1]
   ·rw[Ao c,Aw rfl];refine Ab (xz (aL (na-1) bd) ?_);have M':=M.preA T λj hj p=>BN (Int.lt_of_le_of_lt (srt sb (i:=j) (j:=nb-1) (CM p) a1) c);have s2:(J.push a[na-1]).size=J.size+1:=Bq _;by_cases e1:(na-1==0)=true
    ·refine cH e1 ?_;exact Ad ⟨rfl,.inl ⟨_,rfl,M'.done (by simpa using e1)⟩⟩
    ·refine az e1 ?_;have e1:¬na-1=0:=by simpa using e1
     split
     ·exact Ad ⟨rfl,.inr ⟨_,_,_,_,_,rfl,M',by exact acw,a0,by lia⟩⟩
     ·exact Ad ⟨rfl,_,_,_,_,_,rfl,M',by lia,a0,by lia⟩
   ·rw[Aq c,As (by simp)];refine Ab (xz (bb (nb-1) a1) ?_);have M':=M.preB (by exact gL) λj hj p=>BJ (srt sa (i:=j) (j:=na-1) (CM p) bd) (by omega);have s2:(J.push b[nb-1]).size=J.size+1:=Bq _;by_cases e1:(nb-1==1)=true
    ·refine cH e1 ?_;exact Ad ⟨rfl,.inl ⟨_,rfl,M'.last (by simpa using e1) hb h0⟩⟩
    ·refine az e1 ?_;have e1:¬nb-1=1:=by simpa using e1
     split
     ·exact Ad ⟨rfl,.inr ⟨_,_,_,_,_,rfl,M',T,by lia,by lia⟩⟩
     ·exact Ad ⟨rfl,_,_,_,_,_,rfl,M',T,by lia,by lia⟩
  ·rintro c l ⟨rfl,na,nb,J,ac,bc,rfl,M,T,a0,br⟩;have:=M.sz;omega
  ·rintro c l ⟨rfl,h⟩;rcases h with⟨r,er,hr⟩|⟨na,nb,bi,ac,bc,rfl,M,T,a0,br⟩
   ·obtain⟨c1,c2⟩:=c;cases er;exact Ad ⟨⟨g,rfl⟩,r,rfl,hr⟩
   ·dsimp only;refine Ab (wpS_lift (Bu ⟨rfl,?_⟩));refine Ab (AV (AJ (I:=λy c l=>(∃g,l=gq st g)/\∃na nb J mg ac bc,c=(none,na,nb,J,mg,ac,bc)/\HP f a b J na nb/\0<na/\1<nb/\bi.size+y<=J.size)
     (Q:=λc l=>(∃g,l=gq st g)/\((∃r,c.1=some r/\wr f a.toList b.toList r.toList)\/∃na nb J mg ac bc,c=(none,na,nb,J,mg,ac,bc)/\HP f a b J na nb/\0<na/\1<nb/\bi.size<=J.size)) ?_ ?_ ⟨⟨g,rfl⟩,_,_,_,_,_,_,rfl,M,T,a0,Al _⟩) ?_)
    ·rintro y c l _ hy ⟨⟨g',rfl⟩,na,nb,J,bq,ac,bc,rfl,M,T,a0,bj⟩;have d0:=M.la;have dd:=M.lb;have a1:nb-1<b.size:=by omega
     have bd:na-1<a.size:=by lia
     dsimp only;generalize bq-1=de;revert de;refine uh (y:=bq) λdi=>?_
     all_goals
      refine Ab (wpS_modify ?_);refine Ab (xz (bb (nb-1) a1) ?_);refine Ab (dD O hk (bp (nb-1) a1) (by exact sM) tA (λi U=>⟨cg _ (by exact zX),cm _ (by lia)⟩) (λi=>!decide (f b[nb-1]<f (tA i))) (λi U=>by rw[As (by simp)]) (λi j p hj h=>?_) λk dj be bf=>?_)
      ·have:=cv (i:=i) (j:=j) (by lia) (by exact zX);simp at h ⊢;lia
      have be:∀i,i<k->f (tA i)<=f b[nb-1]:=λi U=>by have:=be i U;simpa using this
      have bf:∀i,k<=i->i<na->f b[nb-1]<f (tA i):=λi U hj=>by have:=bf i U hj;simpa using this
      have M1:HP f a b (J++(a.extract k na).reverse) k nb:=M.segA dj λi U h1 h2 j hj p=>by have h3:=bf i h1 h2;rw[ba _ U] at h3;exact BJ (srt sb (i:=j) (j:=nb-1) (CM p) a1) (BN h3)
      have pB:∀j (hj:j<a.size),j<k->f a[j]<=f b[nb-1]:=λj hj p=>by have h1:=be j p;rw[ba _ hj] at h1;exact h1
      dsimp only;generalize e7:na-k=cn;generalize dp:J=o0;generalize dt:na=j0;revert j0;revert o0;refine lW (P:=λ(o:Array Keyed) (j:Nat)=>HP f a b o j nb/\J.size<=o.size/\0<j/\∀j' (hj:j'<a.size),j'<j->f a[j']<=f b[nb-1]) (x:=J) (i:=na) (λa2 C hP=>?tail) (λck=>?hN) (λck key=>?hY)
      case hN=>
       obtain rfl:k=na:=by lia
       exact⟨M,Al _,by lia,pB⟩
      case hY=>
       by_cases e1:(k==0)=true
       ·refine cH e1 ?_;exact Ad ⟨⟨_,rfl⟩,.inl ⟨_,rfl,M1.done (by simpa using e1)⟩⟩
       ·refine az e1 ?_;have e1:¬k=0:=by simpa using e1
        exact key _ _ ⟨M1,by rw[BM];exact A2 _ _,by exact acw,pB⟩
      clear pB M1 be bf;obtain⟨M1,h3,l3,pB⟩:=hP
      all_goals
       have e0:=M1.la;have bg:C-1<a.size:=by lia
       refine Ab (xz (bb (nb-1) a1) ?_);have M2:=M1.preB (by exact gL) pB;have s2:(a2.push b[nb-1]).size=a2.size+1:=Bq _;by_cases e2:(nb-1==1)=true
       case' pos=>
        refine cH e2 ?_;exact Ad ⟨⟨_,rfl⟩,.inl ⟨_,rfl,M2.last (by simpa using e2) hb h0⟩⟩
       case' neg=>
        refine az e2 ?_;have e2:¬nb-1=1:=by simpa using e2
        refine Ab (xz (aL (C-1) bg) ?_);refine Ab (dD O hk (bn (C-1) bg) (by lia) tB (λi U=>⟨cy _ (by exact i0),cI _ (by lia)⟩) (λi=>decide (f (tB i)<f a[C-1])) (λi U=>by rw[Aw rfl]) (λi j p hj h=>?_) λk2 bu ab a3=>?_)
        ·have:=cP (i:=i) (j:=j) (by lia) (by exact i0);simp at h ⊢;lia
        have ab:∀i,i<k2->f (tB i)<f a[C-1]:=λi U=>by have:=ab i U;simpa using this
        have a3:∀i,k2<=i->i<nb-1->f a[C-1]<=f (tB i):=λi U hj=>by have:=a3 i U hj;simpa using this
        have k1:0<k2:=by
         rcases Nat.eq_zero_or_pos k2 with h|h
         ·exfalso;have h5:=a3 0 (by exact rE) (by lia);rw[a4 _ hb] at h5;have h6:=h0 a[C-1] (by simp);lia
         ·exact h
        have M3:HP f a b (a2.push b[nb-1]++(b.extract k2 (nb-1)).reverse) C k2:=M2.segB bu λi U h1 h2 j hj p=>by have h5:=a3 i h1 h2;rw[a4 _ U] at h5;exact BJ (srt sa (i:=j) (j:=C-1) (CM p) bg) h5
        have pA:∀j (hj:j<b.size),j<k2->f b[j]<=f a[C-1]:=λj hj p=>by have h5:=ab j p;rw[a4 _ hj] at h5;exact BN h5
        dsimp only;generalize dv:nb-1-k2=e8;obtain⟨o3,dV⟩:∃o,o=a2.push b[nb-1]:=⟨_,rfl⟩;obtain⟨bh,bv⟩:∃i,i=nb-1:=⟨_,rfl⟩;have eb:b[nb-1]=b[bh]'(by lia):=by subst bv;rfl
        rw[<-dV] at s2 M2 M3 ⊢;rw[<-bv] at M2 M3 dv bu ⊢;generalize dp:o3=o0;generalize dt:bh=j0;revert j0;revert o0;refine lW (P:=λ(o:Array Keyed) (j:Nat)=>HP f a b o C j/\a2.size+1<=o.size/\1<j/\∀j' (hj:j'<b.size),j'<j->f b[j']<=f a[C-1]) (x:=o3) (i:=bh) (λbm ec hP=>?tail2) (λck=>?hN) (λck key=>?hY)
        case hN=>
         obtain rfl:k2=bh:=by lia
         exact⟨M2,by lia,by lia,pA⟩
        case hY=>
         by_cases e3:(k2==1)=true
         ·refine cH e3 ?_;exact Ad ⟨⟨_,rfl⟩,.inl ⟨_,rfl,M3.last (by simpa using e3) hb h0⟩⟩
         ·refine az e3 (az (show ¬(k2==0)=true by simp;exact ako) ?_);have e3:¬k2=1:=by simpa using e3
          exact key _ _ ⟨M3,by rw[BM];lia,by lia,pA⟩
        clear pA M3 ab a3;obtain⟨M3,h4,l4,pA⟩:=hP
        all_goals
         refine Ab (xz (aL (C-1) bg) ?_);have M4:=M3.preA l3 pA;have s4:(bm.push a[C-1]).size=bm.size+1:=Bq _;by_cases e4:(C-1==0)=true
         ·refine cH e4 ?_;exact Ad ⟨⟨_,rfl⟩,.inl ⟨_,rfl,M4.done (by simpa using e4)⟩⟩
         ·refine az e4 ?_;have e4:¬C-1=0:=by simpa using e4
          split
          ·exact Ad ⟨⟨_,rfl⟩,.inr ⟨_,_,_,_,_,_,rfl,M4,by exact acw,l4,by lia⟩⟩
          ·exact Ad ⟨⟨_,rfl⟩,_,_,_,_,_,_,rfl,M4,by lia,l4,by lia⟩
    ·rintro c l ⟨⟨g',rfl⟩,na,nb,J,bq,ac,bc,rfl,M,T,a0,bj⟩;have:=M.sz;omega
    ·rintro c l ⟨⟨g',rfl⟩,h⟩;rcases h with⟨r,er,hr⟩|⟨na,nb,e5,di,ac,bc,rfl,M,T,a0,bj⟩
     ·obtain⟨c1,c2⟩:=c;cases er;exact Ad ⟨⟨g',rfl⟩,r,rfl,hr⟩
     ·dsimp only;refine Ab (wpS_modify ?_);exact Ad ⟨⟨_,rfl⟩,_,_,_,_,rfl,M,T,a0,by lia⟩
 ·rintro c l ⟨⟨g,rfl⟩,na,nb,a5,mg,rfl,M,T,a0,hs⟩;have:=M.sz;lia
 ·rintro c l ⟨⟨g,rfl⟩,r,er,hr⟩;obtain⟨c1,c2⟩:=c;cases er;exact Ad (q r g hr)
end
def cL(f:Keyed->Int):List (Nat×Nat×Nat)->List (List Keyed)->Nat->Prop
 |[],[],_=>True
 |(st,n,_)::ps,l::ls,s=>st=s/\n=l.length/\0<l.length/\(l.Pairwise λx y=>f x<=f y)/\cL f ps ls (s+l.length)
 |_,_,_=>False
theorem cL.split{f:Keyed->Int}:∀{ps:List (Nat×Nat×Nat)} {pre:List (List Keyed)} {A B:List Keyed} {post:List (List Keyed)} {s:Nat},cL f ps (pre++A::B::post) s->
 ∃I J g j,ps=I++(s+pre.flatten.length,A.length,g)::(s+pre.flatten.length+A.length,B.length,j)::J/\I.length=pre.length/\0<A.length/\0<B.length/\(A.Pairwise λx y=>f x<=f y)/\(B.Pairwise λx y=>f x<=f y)/\
  ∀C w,C.length=A.length+B.length->(C.Pairwise λx y=>f x<=f y)->cL f (I++(s+pre.flatten.length,A.length+B.length,w)::J) (pre++C::post) s
 |[],[],A,B,post,s,h=>by exact h.elim
 |[_],[],A,B,post,s,h=>by exact h.2.2.2.2.elim
 |(a1,a2,o)::(b1,b2,b3)::ps,[],A,B,post,s,h=>by
  obtain⟨p,r,t,T,k1,k2,k3,k4,k5⟩:=h;refine⟨[],ps,o,b3,?_,rfl,t,k3,T,k4,λC w U hs=>⟨rfl,U.symm,by lia,hs,?_⟩⟩
  ·simp[p,r,k1,k2]
  ·rw[U];have:=k5;rw[Ep] at this;exact this
 |[],_::_,A,B,post,s,h=>by exact h.elim
 |(a1,a2,o)::ps,l::pre,A,B,post,s,h=>by
  obtain⟨p,r,t,T,k⟩:=h;obtain⟨I,J,g,j,e,e1,e2,e3,e4,e5,e6⟩:=cL.split k;have en:s+(l::pre).flatten.length=s+l.length+pre.flatten.length:=by simp;simp +arith only
  refine⟨(a1,a2,o)::I,J,g,j,?_,by simp[e1],e2,e3,e4,e5,λC w U hs=>⟨p,r,t,T,?_⟩⟩
  ·rw[en,e];rfl
  ·rw[en];exact e6 C w U hs
def aiv{σ:Type}{st I:σ}{Q:PUnit->σ->Prop}(h:Q ⟨⟩ I):wpS M A E s (set I:StateT σ Sem PUnit) Q st:=by unfold wpS;rw[StateT.run_set];exact Ai ⟨rfl,h⟩
theorem oO{α:Type}:∀(m:List α) (arr:Array α) (i k:Nat),i+k+m.length<=arr.size->((m.zipIdx k).foldl (λ(a:Array α) (I:α×Nat)=>a.setIfInBounds (i+I.2) I.1) arr).toList=arr.toList.take (i+k)++(m++arr.toList.drop (i+k+m.length))
 |[],arr,i,k,h=>by simp
 |x::m,arr,i,k,h=>by
  rw[DU,List.foldl_cons];simp only[AF] at h;rw[oO m _ i (k+1) (by simp;lia)];have e:(arr.setIfInBounds (i+k) x).toList=arr.toList.set (i+k) x:=by simp
  have l:arr.toList.length=arr.size:=AL;rw[e,List.drop_set,Aw (by exact A2 _ _),<-Ep,Bf,B3 (by lia),List.take_set_of_le (by simp +arith only),AF];simp;congr 1;simp +arith only
structure bM(κ:SortKind)(Ok:Keyed->Prop)(f:Keyed->Int)(st:SortSt)(jj:List (List Keyed))(rest:List Keyed):Prop where
 kind:kindOf st=κ
 failed:failedOf st=none
 arr:(arrOf st).toList=jj.flatten++rest
 pend:cL f (pendingOf st).toList jj 0
 ok:∀x∈(arrOf st).toList,Ok x
section
variable {w:World}{κ:SortKind}{Ok:Keyed->Prop}{f:Keyed->Int}
def ud{l:List Keyed}(s:l.Pairwise λx y=>f x<=f y)(I:i<=j)(J:j<l.length):f (l[i]'(by exact jA))<=f l[j]:=by
 rcases DC I with h|h
 ·exact Cc.mp s i j (by exact jA) J h
 ·subst h;exact C5 _
def abx{p:Array α}{I J:List α}{u v z:α}(h:p.toList=I++u::v::J):((p.setIfInBounds I.length z).eraseIdxIfInBounds (I.length+1)).toList=I++z::J:=by
 have g:p.size=I.length+(J.length+2):=by rw[<-AL,h];simp
 have U:I.length+1<(p.setIfInBounds I.length z).size:=by rw[Array.size_setIfInBounds];lia
 rw[Array.eraseIdxIfInBounds,dif_pos U,Array.toList_eraseIdx,Array.toList_setIfInBounds,h,List.set_append_right _ _ (Al _),Cy,List.set_cons_zero,C8 (by exact A2 _ _),Ct];rfl
def zL(O:Ord prog w A s κ Ok f){st:SortSt}{pre post:List (List Keyed)}{X Y rest:List Keyed}{Q:Bool->SortSt->Prop}(G:bM κ Ok f st (pre++X::Y::post) rest)
 (q:∀l C,bM κ Ok f l (pre++C::post) rest->C.Perm (X++Y)->Q true l):wpS (model prog w) A E s (mergeAt' pre.length) Q st:=by
 obtain⟨P1,P2,w1,w2,ep,e1,lX,lY,sX,sY,done⟩:=G.pend.split;simp only[Di] at ep done;have a1:(pendingOf st)[pre.length]?=some (pre.flatten.length,X.length,w1):=by rw[<-A3,ep,<-e1,Am (Al _),Cy];rfl
 have a2:(pendingOf st)[pre.length+1]?=some (pre.flatten.length+X.length,Y.length,w2):=by rw[<-A3,ep,<-e1,Am (by exact A2 _ _),Ct];rfl
 refine Ab (wpS_get ?_);rw[show(sortPriv% PySem.Builtin.SortState.pending) st=pendingOf st from rfl,a1,a2];dsimp only;refine Ab (aiv ?_);have ea:(arrOf st).toList=pre.flatten++(X++(Y++(post.flatten++rest))):=by rw[G.arr];simp
 have aL:∀i (I:i<X.length),(arrOf st)[pre.flatten.length+i]?=some X[i]:=λi I=>by rw[<-A3,ea,Am (by exact A2 _ _),Ct,AB I];simp
 have ba:∀i (I:i<Y.length),(arrOf st)[pre.flatten.length+X.length+i]?=some Y[i]:=λi I=>by rw[<-A3,ea,Am (by simp +arith only),Am (by omega),AB (by omega)];rw[show pre.flatten.length+X.length+i-pre.flatten.length-X.length=i by omega];simp
 have a3:∀x∈X,Ok x:=λx J=>G.ok x (by rw[ea];simp[J]);have a4:∀x∈Y,Ok x:=λx J=>G.ok x (by rw[ea];simp[J]);have pz:=abx (z:=(pre.flatten.length,X.length+Y.length,w1)) ep;rw[e1] at pz;have good:∀(l:SortSt) (C:List Keyed),kindOf l=kindOf st->failedOf l=failedOf st->pendingOf l=((pendingOf st).setIfInBounds pre.length (pre.flatten.length,X.length+Y.length,w1)).eraseIdxIfInBounds (pre.length+1)->
  (arrOf l).toList=pre.flatten++(C++(post.flatten++rest))->C.Perm (X++Y)->(C.Pairwise λx y=>f x<=f y)->bM κ Ok f l (pre++C::post) rest:=λl C g1 g2 g3 g4 g5 g6=>by
  refine⟨g1.trans G.kind,g2.trans G.failed,by rw[g4];simp,?_,λx J=>?_⟩
  ·rw[g3,pz];exact done C w1 (by rw[g5.length_eq,Ac]) g6
  ·rw[g4] at J;rcases Ak.mp J with h|h
   ·exact G.ok x (by rw[ea];exact Au _ h)
   ·rcases Ak.mp h with h|h
    ·rcases Ak.mp (g5.mem_iff.mp h) with h|h
     ·exact a3 x h
     ·exact a4 x h
    ·exact G.ok x (by rw[ea];exact Ag _ (Ag _ (Ag _ h)))
 obtain⟨tX,bb⟩:∃t:Nat->Keyed,t=λi=>(X[i]?).getD X[0]:=⟨_,rfl⟩;have p:∀i (I:i<X.length),tX i=X[i]:=λi I=>by rw[bb];simp[I]
 obtain⟨tY,bc⟩:∃t:Nat->Keyed,t=λi=>(Y[i]?).getD X[0]:=⟨_,rfl⟩;have T:∀i (I:i<Y.length),tY i=Y[i]:=λi I=>by rw[bc];simp[I]
 refine Ab (xz (x:=Y[0]) (by have:=ba 0 lY;simpa using this) ?_);refine Ab (dD O G.kind (a4 _ (Cu _)) lX tX (λi I=>⟨by rw[p i I];exact aL i I,by rw[p i I];exact a3 _ (Cu _)⟩) (λi=>!decide (f Y[0]<f (tX i))) (λi I=>by rw[As (by simp)]) (λi j ac U h=>?_) λk be a5 ab=>?_)
 ·have:=ud sX ac U;rw[p j U] at h;rw[p i (by exact jA)];simp at h ⊢;omega
 have a5:∀i (I:i<k),f (X[i]'(by exact zX))<=f Y[0]:=λi I=>by have:=a5 i I;rw[p i (by lia)] at this;simpa using this
 have ab:∀i (U:i<X.length),k<=i->f Y[0]<f X[i]:=λi U I=>by have:=ab i I U;rw[p i U] at this;simpa using this
 dsimp only;by_cases c:(X.length-k==0)=true
 ·rw[Aw c];have c:X.length<=k:=by
   have:X.length-k=0:=by simpa using c
   omega
  refine Ad (q _ (X++Y) (good _ _ rfl rfl rfl (by rw[AE];exact ea) (BO _) (AN.mpr ⟨sX,sY,λx J y hy=>?_⟩)) (BO _));obtain⟨i,I,rfl⟩:=A7 J;obtain⟨j,U,rfl⟩:=A7 hy;exact BJ (a5 i (by exact zX)) (ud sY (Bo _) U)
 rw[As c];have c:k<X.length:=by
  have:¬X.length-k=0:=by simpa using c
  lia
 refine Ab (xz (x:=X[X.length-1]) (by have:=aL (X.length-1) (by lia);rw[show pre.flatten.length+k+(X.length-k)-1=pre.flatten.length+(X.length-1) by lia];exact this) ?_);refine Ab (dD O G.kind (a3 _ (Cu _)) (by exact sM) tY (λi I=>⟨by rw[T i I];exact ba i I,by rw[T i I];exact a4 _ (Cu _)⟩) (λi=>decide (f (tY i)<f X[X.length-1])) (λi I=>by rw[Aw rfl]) (λi j ac U h=>?_) λm bf a0 o=>?_)
 ·have:=ud sY ac U;rw[T j U] at h;rw[T i (by exact jA)];simp at h ⊢;omega
 have a0:∀i (I:i<m),f (Y[i]'(by exact zX))<f X[X.length-1]:=λi I=>by have:=a0 i I;rw[T i (by lia)] at this;simpa using this
 have o:∀i (U:i<Y.length),m<=i->f X[X.length-1]<=f Y[i]:=λi U I=>by have:=o i I U;rw[T i U] at this;simpa using this
 have m0:0<m:=by
  rcases Nat.eq_zero_or_pos m with h|h
  ·exfalso;have h5:=o 0 lY (by exact rE);have h6:=ab (X.length-1) (by exact sM) (by omega);omega
  ·exact h
 dsimp only;rw[As (show ¬(m==0)=true by simp;exact ako)];have bd:(arrOf st).size=pre.flatten.length+(X.length+(Y.length+(post.flatten++rest).length)):=by rw[<-AL,ea];simp
 have ex:((arrOf st).extract (pre.flatten.length+k) (pre.flatten.length+X.length)).toList=X.drop k:=by rw[iI,ea,<-Dj,Dk,Dt (by lia),BU (by simp;lia),Bk (by simp;lia)]
 have ey:((arrOf st).extract (pre.flatten.length+X.length) (pre.flatten.length+X.length+m)).toList=Y.take m:=by rw[iI,ea,<-Dj,Dk,Dk,show pre.flatten.length+X.length+m-(pre.flatten.length+X.length)=m by lia,BU (by lia)]
 have zx:((arrOf st).extract (pre.flatten.length+k) (pre.flatten.length+X.length)).size=X.length-k:=by rw[<-AL,ex];simp
 have zy:((arrOf st).extract (pre.flatten.length+X.length) (pre.flatten.length+X.length+m)).size=m:=by rw[<-AL,ey];simp;lia
 have q1:∀x∈((arrOf st).extract (pre.flatten.length+k) (pre.flatten.length+X.length)).toList,Ok x:=λx J=>a3 x (CK (by rw[ex] at J;exact J));have q2:∀x∈((arrOf st).extract (pre.flatten.length+X.length) (pre.flatten.length+X.length+m)).toList,Ok x:=λx J=>a4 x (Bx (by rw[ey] at J;exact J));have q3:((arrOf st).extract (pre.flatten.length+k) (pre.flatten.length+X.length)).toList.Pairwise λx y=>f x<=f y:=by rw[ex];exact sX.sublist (List.drop_sublist _ _)
 have q4:((arrOf st).extract (pre.flatten.length+X.length) (pre.flatten.length+X.length+m)).toList.Pairwise λx y=>f x<=f y:=by rw[ey];exact sY.sublist (Dc _ _)
 have q5:0<((arrOf st).extract (pre.flatten.length+k) (pre.flatten.length+X.length)).size:=by lia
 have q6:0<((arrOf st).extract (pre.flatten.length+X.length) (pre.flatten.length+X.length+m)).size:=by omega
 have y0:((arrOf st).extract (pre.flatten.length+X.length) (pre.flatten.length+X.length+m))[0]=Y[0]:=by
  have:((arrOf st).extract (pre.flatten.length+X.length) (pre.flatten.length+X.length+m)).toList[0]'(by rw[ey,AX];lia)=Y[0]:=by simp only[ey];simp
  rw[<-this];simp
 have xl:((arrOf st).extract (pre.flatten.length+k) (pre.flatten.length+X.length))[((arrOf st).extract (pre.flatten.length+k) (pre.flatten.length+X.length)).size-1]=X[X.length-1]:=by
  have:((arrOf st).extract (pre.flatten.length+k) (pre.flatten.length+X.length)).toList[((arrOf st).extract (pre.flatten.length+k) (pre.flatten.length+X.length)).size-1]'(by rw[ex,zx,BB];lia)=X[X.length-1]:=by simp only[ex,zx];rw[Ci];congr 1;lia
  rw[<-this];simp
 have q7:∀x∈((arrOf st).extract (pre.flatten.length+k) (pre.flatten.length+X.length)).toList,f ((arrOf st).extract (pre.flatten.length+X.length) (pre.flatten.length+X.length+m))[0]<f x:=λx J=>by rw[y0];rw[ex] at J;obtain⟨i,I,rfl⟩:=A7 J;rw[Ci];rw[BB] at I;exact ab _ (by lia) (by exact A2 _ _)
 have q8:∀x∈((arrOf st).extract (pre.flatten.length+X.length) (pre.flatten.length+X.length+m)).toList,f x<f ((arrOf st).extract (pre.flatten.length+k) (pre.flatten.length+X.length))[((arrOf st).extract (pre.flatten.length+k) (pre.flatten.length+X.length)).size-1]:=λx J=>by rw[xl];rw[ey] at J;obtain⟨i,I,rfl⟩:=A7 J;rw[Bw];rw[AX] at I;exact a0 _ (by lia)
 have k6:∀(r:Array Keyed) (g:Nat),wr f (X.drop k) (Y.take m) r.toList->Q (failedOf st).isNone (SortSt.mk' (kindOf st) (r.toList.zipIdx.foldl (λa x=>a.setIfInBounds (pre.flatten.length+k+x.2) x.1) (arrOf st)) (((pendingOf st).setIfInBounds pre.length (pre.flatten.length,X.length+Y.length,w1)).eraseIdxIfInBounds (pre.length+1)) g (failedOf st)):=by
  rintro r g ⟨hm,hs⟩;have lr:r.toList.length=X.length-k+m:=by rw[hm.length_eq];simp;lia
  have ef:(failedOf st).isNone=true:=by rw[G.failed];rfl
  have pm:(X.take k++(r.toList++Y.drop m)).Perm (X++Y):=by
   have h1:(r.toList++Y.drop m).Perm (X.drop k++Y):=by refine((Bl (Y.drop m)).mpr hm).trans ?_;rw[AE,Bm]
   refine((Bz (X.take k)).mpr h1).trans ?_;rw[<-AE,Bm]
  have so:(X.take k++(r.toList++Y.drop m)).Pairwise λx y=>f x<=f y:=by
   refine AN.mpr ⟨sX.sublist (Dc _ _),AN.mpr ⟨hs,sY.sublist (List.drop_sublist _ _),λx J y hy=>?_⟩,λx J y hy=>?_⟩
   ·obtain⟨j,U,rfl⟩:=A7 hy;rw[Ci];rw[BB] at U;rcases Ak.mp (hm.mem_iff.mp J) with h|h
    ·obtain⟨i,I,rfl⟩:=A7 h;rw[Ci];rw[BB] at I;exact BJ (ud sX (by lia) (by exact sM)) (o _ (by lia) (by exact A2 _ _))
    ·obtain⟨i,I,rfl⟩:=A7 h;rw[Bw];rw[AX] at I;exact ud sY (by lia) (by lia)
   ·obtain⟨i,I,rfl⟩:=A7 J;rw[Bw];rw[AX] at I;have low:∀z∈Y,f (X[i]'(by lia))<=f z:=λz hz=>by obtain⟨j,U,rfl⟩:=A7 hz;exact BJ (a5 i (by lia)) (ud sY (Bo _) U)
    rcases Ak.mp hy with h|h
    ·rcases Ak.mp (hm.mem_iff.mp h) with h|h
     ·obtain⟨j,U,rfl⟩:=A7 h;rw[Ci];rw[BB] at U;exact ud sX (by lia) (by lia)
     ·exact low y (Bx h)
    ·exact low y (CK h)
  have pt:=oO r.toList (arrOf st) (pre.flatten.length+k) 0 (by rw[bd,lr,Ac];lia);have et:(arrOf st).toList.take (pre.flatten.length+k+0)++(r.toList++(arrOf st).toList.drop (pre.flatten.length+k+0+r.toList.length))=pre.flatten++((X.take k++(r.toList++Y.drop m))++(post.flatten++rest)):=by
   have h1:(arrOf st).toList.take (pre.flatten.length+k+0)=pre.flatten++X.take k:=by rw[ea,Nat.add_zero,List.take_length_add_append,BU (by lia)]
   have h2:(arrOf st).toList.drop (pre.flatten.length+k+0+r.toList.length)=Y.drop m++(post.flatten++rest):=by rw[ea,lr,show pre.flatten.length+k+0+(X.length-k+m)=pre.flatten.length+(X.length+m) by lia,<-Dj,Dk,<-Dj,Dk,Dt (by lia)]
   rw[h1,h2];simp
  rw[ef];exact q _ _ (good _ _ rfl rfl rfl (pt.trans et) pm so) pm
 split
 ·exact Ab (zD O G.kind q1 q2 q3 q4 q5 q6 q7 q8 λr g h=>Ab (wpS_modify (Ab (wpS_get (Ad (k6 r g (by rw[ex,ey] at h;exact h)))))))
 ·exact Ab (aas O G.kind q1 q2 q3 q4 q5 q6 q7 q8 λr g h=>Ab (wpS_modify (Ab (wpS_get (Ad (k6 r g (by rw[ex,ey] at h;exact h)))))))
end
def uk{arr:Array α}{P R:List α}(h:arr.toList=P++R)(I:n<=R.length):(mirror arr P.length (P.length+n) ((P.length+n-P.length) / 2)).toList=P++((R.take n).reverse++R.drop n):=by
 have J:arr.size=P.length+R.length:=by rw[<-AL,h];simp
 refine DK λk=>?_;rw[A3,getElem?_mirror_all (by lia)];by_cases c:P.length<=k/\k<P.length+n
 ·rw[Aw c,<-A3,h,Am (by omega),Am (by lia),AB (by simp;omega),List.getElem?_reverse (by simp;omega),DD,AX,Aw (by omega)];congr 1;lia
 ·rw[As c,<-A3,h];by_cases c2:k<P.length
  ·rw[AB c2,AB c2]
  ·rw[Am (by exact wZ),Am (by omega),Am (by simp;lia),DE];congr 1;simp;lia
def uY{arr:Array α}{P R:List α}{k l:Nat}(h:arr.toList=P++R)(I:k<R.length)(J:l<=k):(bubble arr (P.length+k) (P.length+k-(P.length+l))).toList=P++(R.take l++R[k]::((R.drop l).take (k-l)++R.drop (k+1))):=by
 have U:arr.size=P.length+R.length:=by rw[<-AL,h];simp
 refine DK λi=>?_;rw[A3,getElem?_bubble (by lia) _ (by exact Er _ _),show P.length+k-(P.length+k-(P.length+l))=P.length+l by omega];by_cases c1:i=P.length+l
 ·rw[Aw c1,<-A3,h,c1,Am (by exact A2 _ _),Am (by exact A2 _ _),Am (by simp;lia)];rw[show P.length+l-P.length-(R.take l).length=0 by simp;lia,show P.length+k-P.length=k by lia,List.getElem?_cons_zero];simp[I]
 ·rw[As c1];by_cases c2:P.length+l<i/\i<=P.length+k
  ·rw[Aw c2,<-A3,h,Am (by omega),Am (by lia),Am (by simp;lia)];obtain⟨d,hd⟩:∃d,i=P.length+l+d+1:=⟨i-P.length-l-1,by omega⟩;rw[show i-P.length-(R.take l).length=d+1 by simp;lia,C3,AB (by simp;omega),DD,Aw (by omega),DE];congr 1;omega
  ·rw[As c2,<-A3,h];by_cases c3:i<P.length
   ·rw[AB c3,AB c3]
   ·rw[Am (by exact wZ),Am (by omega)];by_cases c4:i<P.length+l
    ·rw[AB (by simp;lia),DD,Aw (by omega)]
    ·obtain⟨d,hd⟩:∃d,i=P.length+k+d+1:=⟨i-P.length-k-1,by omega⟩;rw[Am (by simp;lia),show i-P.length-(R.take l).length=(k-l)+d+1 by simp;lia,C3,Am (by simp;omega),DE];congr 1;simp;lia
section
variable {w:World}{κ:SortKind}{Ok:Keyed->Prop}{f:Keyed->Int}
structure Tl(κ:SortKind)(Ok:Keyed->Prop)(st:SortSt)(P R:List Keyed):Prop where
 kind:kindOf st=κ
 arr:(arrOf st).toList=P++R
 ok:∀x∈R,Ok x
def jB(O:Ord prog w A s κ Ok f){st:SortSt}{P R:List Keyed}(T:Tl κ Ok st P R)(hi:i<R.length)(J:j<R.length){a b:Nat}(ea:a=P.length+i)(eb:b=P.length+j){Q:Option Bool->SortSt->Prop}(q:Q (some (decide (f R[i]<f R[j]))) st):wpS (model prog w) A E s (ltAt' a b) Q st:=by
 have I:∀i (hi:i<R.length),(arrOf st)[P.length+i]?=some R[i]:=λi hi=>by rw[<-A3,T.arr,Am (by exact A2 _ _),Ct];simp
 subst ea eb;rw[ltAt'_eq];refine Ab (wpS_get ?_);refine Ab (xz (I i hi) (Ab (xz (I j J) ?_)));exact w_lt O T.kind (T.ok _ (Cu _)) (T.ok _ (Cu _)) q
def Up(f:Keyed->Int)(R:List Keyed)(n:Nat):Prop:=∀i j (_:i<=j) (_:j<R.length),j<n->f (R[i]'(by exact jA))<=f R[j]
def Up.snoc{R:List Keyed}(h:Up f R n)(h1:1<=n)(g:n<R.length)(hs:f (R[n-1]'(by exact ox))<=f R[n]):Up f R (n+1):=λi j I J U=>by
 rcases Ef j n with c|c
 ·exact h i j I J c
 ·have e:j=n:=by lia
  subst e;rcases Ef i j with c2|c2
  ·exact BJ (h i (j-1) (by omega) (by exact ox) (by exact sM)) hs
  ·have e:i=j:=by lia
   subst e;exact C5 _
def Up.pair{R:List Keyed}(h:Up f R n)(g:n<=R.length):(R.take n).Pairwise λx y=>f x<=f y:=by rw[Cc];intro i j I J U;rw[AX] at I J;rw[Bw,Bw];exact h i j (by exact gL) (by lia) (by lia)
end
section
variable {w:World}{κ:SortKind}{Ok:Keyed->Prop}{f:Keyed->Int}
def Tl.same{st:SortSt}{P R R':List Keyed}(T:Tl κ Ok st P R)(p:R'.Perm R){arr:Array Keyed}(h:arr.toList=P++R'):Tl κ Ok (setArr st arr) P R':=⟨T.kind,h,λx I=>T.ok x (p.mem_iff.mp I)⟩
def Up.one{R:List Keyed}:Up f R 1:=λi j I J h=>by
 have:i=j:=by lia
 subst this;exact C5 _
def ahl(O:Ord prog w A s κ Ok f){st:SortSt}{P R:List Keyed}(T:Tl κ Ok st P R)(h1:1<=R.length)(inj:∀i j (_:i<j) (_:j<R.length),f (R[i]'(by exact i0))≠f R[j]){Q:Option Nat->SortSt->Prop}
 (q:∀n R' arr,1<=n->n<=R.length->R'.Perm R->arr.toList=P++R'->Up f R' n->Q (some n) (setArr st arr)):wpS (model prog w) A E s (countRun' P.length R.length) Q st:=by
 have a2:setArr st (arrOf st)=st:=rfl;refine Ab (AV (AJ (I:=λx c g=>g=st/\c=(none,x)/\Up f R x)
  (Q:=λc g=>g=st/\∃n,c=(none,n)/\1<=n/\n<=R.length/\Up f R n/\(n=R.length\/∃h:n<R.length,f R[n]<f (R[n-1]'(by exact ox)))) ?_ ?_ ⟨rfl,rfl,Up.one⟩) ?_)
 ·rintro x c g l o ⟨rfl,rfl,U⟩;dsimp only;refine Ab (jB O T (i:=x) (j:=x-1) o (by exact ox) rfl (by lia) ?_);dsimp only;by_cases c:f R[x]<f (R[x-1]'(by omega))
  ·rw[Ao c,Aw rfl];exact Ad ⟨rfl,x,rfl,l,by exact gL,U,.inr ⟨o,c⟩⟩
  ·rw[Aq c,As (by simp)];exact Ad ⟨rfl,rfl,U.snoc l o (by omega)⟩
 ·rintro c g ⟨rfl,rfl,U⟩;exact⟨rfl,_,rfl,by lia,by lia,by rw[CP h1] at *;exact U,.inl (by lia)⟩
 ·rintro c g ⟨rfl,n,rfl,t,C,U,a0⟩;dsimp only;by_cases c1:(n==R.length)=true
  ·rw[Aw c1];exact Ad (q n R (arrOf g) t C (BO _) T.arr U)
  rw[As c1];have c1:¬n=R.length:=by simpa using c1
  have a3:n<R.length:=by exact zB
  by_cases c2:n > 1
  ·rw[Aw c2];refine Ab (jB O T (i:=0) (j:=n-1) (by assumption) (by exact ox) rfl (by omega) ?_);have:f R[0]<f (R[n-1]'(by omega)):=by have h3:=U 0 (n-1) (by exact C0 _ _) (by omega) (by exact sM);have h4:=inj 0 (n-1) (by omega) (by exact ox);omega
   dsimp only;rw[Ao this,Aw rfl];exact Ad (q n R (arrOf g) t C (BO _) T.arr U)
  rw[As c2];obtain rfl:n=1:=by lia
  refine Ab (wpS_lift (Bu ⟨rfl,?_⟩));have hd:f R[1]<f R[0]:=by
   rcases a0 with h|⟨h,h'⟩
   ·omega
   ·exact h'
  refine Ab (AV (AJ (I:=λx c J=>J=g/\c=(none,x,0)/\∀i j (_:i<=j) (_:j<R.length),j<x->f R[j]<=f (R[i]'(by exact jA)))
   (Q:=λc J=>J=g/\∃n,c=(none,n,0)/\2<=n/\n<=R.length/\∀i j (_:i<=j) (_:j<R.length),j<n->f R[j]<=f (R[i]'(by omega))) ?_ ?_ ⟨rfl,rfl,?_⟩) ?_)
  ·rintro x c J l o ⟨rfl,rfl,D⟩;dsimp only;refine Ab (jB O T (i:=x) (j:=x-1) o (by exact ox) rfl (by lia) ?_);dsimp only;by_cases c:f R[x]<f (R[x-1]'(by omega))
   ·rw[Ao c,Aw rfl,As (by simp)];refine Ad ⟨rfl,rfl,λi j p hj a1=>?_⟩;rcases Ef j x with h|h
    ·exact D i j p hj h
    ·have e:j=x:=by lia
     subst e;rcases Ef i j with h2|h2
     ·exact BJ (BN c) (D i (j-1) (by omega) (by exact ox) (by omega))
     ·have e:i=j:=by lia
      subst e;exact C5 _
   ·rw[Aq c,As (by simp)];refine Ab (jB O T (i:=x-1) (j:=x) (by omega) o (by lia) rfl ?_);have h4:=inj (x-1) x (by omega) o;have:f (R[x-1]'(by omega))<f R[x]:=by lia
    dsimp only;rw[Ao this,Aw rfl];exact Ad ⟨rfl,x,rfl,by omega,by exact gL,D⟩
  ·rintro c J ⟨rfl,rfl,D⟩;exact⟨rfl,_,rfl,by lia,by lia,D⟩
  ·intro i j p hj a1;have:j=0\/j=1:=by lia
   rcases this with rfl|rfl
   ·have:i=0:=by lia
    subst this;exact C5 _
   ·have:i=0\/i=1:=by lia
    rcases this with rfl|rfl
    ·exact BN hd
    ·exact C5 _
  ·rintro c J ⟨rfl,n,rfl,g1,g2,D⟩;dsimp only;rw[As (by simp)];have T':=T.same (R':=(R.take n).reverse++R.drop n) (((Bl _).mpr (List.reverse_perm _)).trans (by rw[Bm])) (uk T.arr g2);obtain⟨R',eR⟩:∃R',R'=(R.take n).reverse++R.drop n:=⟨_,rfl⟩;have pR:R'.Perm R:=by rw[eR];exact((Bl _).mpr (List.reverse_perm _)).trans (by rw[Bm])
   have lR:R'.length=R.length:=pR.length_eq;have U':Up f R' n:=λi j p hj a4=>by
    subst eR;rw[DR (by simp;lia),DR (by simp;lia),List.getElem_reverse,List.getElem_reverse,Bw,Bw];refine D _ _ ?_ (by simp;omega) ?_
    ·simp;omega
    ·simp;omega
   rw[<-eR] at T';refine Ab (wpS_modify ?_);refine Ab (AV (AJ (I:=λx c r=>r=setArr J (mirror (arrOf J) P.length (P.length+n) ((P.length+n-P.length) / 2))/\c=(none,x)/\Up f R' x)
    (Q:=λc r=>r=setArr J (mirror (arrOf J) P.length (P.length+n) ((P.length+n-P.length) / 2))/\∃n,c=(none,n)/\1<=n/\n<=R.length/\Up f R' n) ?_ ?_ ⟨rfl,rfl,U'⟩) ?_)
   ·rintro x c r l o ⟨rfl,rfl,U⟩;dsimp only;refine Ab (jB O T' (i:=x) (j:=x-1) (by lia) (by omega) rfl (by lia) ?_);dsimp only;by_cases c:f (R'[x]'(by omega))<f (R'[x-1]'(by omega))
    ·rw[Ao c,Aw rfl];exact Ad ⟨rfl,x,rfl,by exact aky,by exact gL,U⟩
    ·rw[Aq c,As (by simp)];exact Ad ⟨rfl,rfl,U.snoc (by omega) (by lia) (by omega)⟩
   ·rintro c r ⟨rfl,rfl,U⟩;exact⟨rfl,_,rfl,by lia,by lia,U⟩
   ·rintro c r ⟨rfl,n,rfl,k1,k2,U⟩;exact Ad (q n R' _ k1 k2 pR T'.arr U)
end
section
variable {w:World}{κ:SortKind}{Ok:Keyed->Prop}{f:Keyed->Int}
def Up.of{R:List Keyed}(h:(R.take n).Pairwise λx y=>f x<=f y):Up f R n:=λi j I U J=>by have:=ud h (i:=i) (j:=j) I (by simp;lia);rw[Bw,Bw] at this;exact this
def ac5{R:List Keyed}{k l:Nat}(I:k<R.length)(J:l<=k):(R.take l++R[k]::((R.drop l).take (k-l)++R.drop (k+1))).Perm R:=by
 have e:R=R.take l++((R.drop l).take (k-l)++(R[k]::R.drop (k+1))):=by rw[<-AE,ai4 _ J,<-BQ I,Bm]
 refine List.Perm.trans ?_ (List.Perm.of_eq e.symm);exact(Bz _).mpr B6.symm
def alz{R:List Keyed}{k l:Nat}(p:k<R.length)(r:l<=k)(U:Up f R k)(lo:∀i (_:i<l),f (R[i]'(by lia))<=f R[k])(hi:∀i (_:i<k),l<=i->f R[k]<=f (R[i]'(by exact i0))):
 Up f (R.take l++R[k]::((R.drop l).take (k-l)++R.drop (k+1))) (k+1):=by
 apply Up.of;have e:R.take l++R[k]::((R.drop l).take (k-l)++R.drop (k+1))=(R.take l++R[k]::(R.drop l).take (k-l))++R.drop (k+1):=by simp
 rw[e,List.take_left' (by simp;lia)];have I:=U.pair (BD p);rw[<-ai4 R r] at I;have I:=AN.mp I;have t:∀y∈(R.drop l).take (k-l),f R[k]<=f y:=λy J=>by obtain⟨j,o,rfl⟩:=A7 J;rw[AX,BB] at o;rw[Bw,Ci];exact hi (l+j) (by lia) (by exact A2 _ _)
 have C:∀x∈R.take l,f x<=f R[k]:=λx g=>by obtain⟨j,o,rfl⟩:=A7 g;rw[AX] at o;rw[Bw];exact lo j (by lia)
 refine AN.mpr ⟨I.1,List.pairwise_cons.mpr ⟨t,I.2.1⟩,λx g y J=>?_⟩;rcases Ax.mp J with rfl|J
 ·exact C x g
 ·exact I.2.2 x g y J
def ap2(O:Ord prog w A s κ Ok f){st:SortSt}{P R:List Keyed}(T:Tl κ Ok st P R){ok:Nat}(hn:n<=R.length)(h1:1<=ok)(ho:ok<=n)(U:Up f R ok){Q:Bool->SortSt->Prop}
 (q:∀R' arr,R'.Perm R->arr.toList=P++R'->Up f R' n->Q true (setArr st arr)):wpS (model prog w) A E s (binarySort' P.length n ok) Q st:=by
 have a0:setArr st (arrOf st)=st:=rfl;refine Ab (AV (AJ (I:=λx c J=>c=(none,())/\∃R' arr,J=setArr st arr/\R'.Perm R/\arr.toList=P++R'/\Up f R' x)
  (Q:=λc J=>c=(none,())/\∃R' arr,J=setArr st arr/\R'.Perm R/\arr.toList=P++R'/\Up f R' n) ?_ ?_ ⟨rfl,R,arrOf st,rfl,BO _,T.arr,by rw[C1 h1];exact U⟩) ?_)
 ·rintro x c J a1 hx ⟨rfl,R',arr,rfl,p,t,o⟩;have T':=T.same p t;have lR:R'.length=R.length:=p.length_eq;have g:x<R'.length:=by lia
  dsimp only;refine Ab (AV (AJ (I:=λy c J=>J=setArr st arr/\∃l r,c=(none,l,r)/\l<=r/\r<=x/\r-l+y<=x/\(∀i (_:i<l) (_:i<R'.length),f R'[i]<=f R'[x])/\(∀i (_:i<x),r<=i->f R'[x]<=f (R'[i]'(by exact i0))))
   (Q:=λc J=>J=setArr st arr/\∃l,c=(none,l,l)/\l<=x/\(∀i (_:i<l) (_:i<R'.length),f R'[i]<=f R'[x])/\(∀i (_:i<x),l<=i->f R'[x]<=f (R'[i]'(by lia)))) ?_ ?_ ⟨rfl,0,x,rfl,Bo _,Al _,by exact Er _ _,λi h=>by lia,λi h h'=>by omega⟩) ?_)
  ·rintro y c J _ hy ⟨rfl,l,r,rfl,g1,g2,g3,C,g5⟩;dsimp only;by_cases c:l>=r
   ·rw[Aw c];obtain rfl:l=r:=by lia
    exact Ad ⟨rfl,l,rfl,g2,C,g5⟩
   ·rw[As c];refine Ab (jB O T' (i:=x) (j:=(l+r) / 2) g (by lia) rfl rfl ?_);dsimp only;by_cases e:f R'[x]<f (R'[(l+r) / 2]'(by lia))
    ·rw[Ao e,Aw rfl];refine Ad ⟨rfl,l,(l+r) / 2,rfl,by lia,by lia,by omega,C,λi h h'=>?_⟩;exact BJ (BN e) (o _ _ h' (by exact i0) h)
    ·rw[Aq e,As (by simp)];refine Ad ⟨rfl,(l+r) / 2+1,r,rfl,by lia,g2,by omega,λi h h'=>?_,g5⟩;exact BJ (o i ((l+r) / 2) (by exact aou) (by lia) (by lia)) (by omega)
  ·rintro c J ⟨rfl,l,r,rfl,g1,g2,g3,C,g5⟩;obtain rfl:l=r:=by lia
   exact⟨rfl,l,rfl,g2,C,g5⟩
  ·rintro c J ⟨rfl,l,rfl,g2,C,g5⟩;dsimp only;refine Ab (wpS_modify ?_);exact Ad ⟨rfl,_,_,rfl,(ac5 g g2).trans p,uY t g g2,alz g g2 o (λi h=>C i h (by lia)) g5⟩
 ·rintro c J ⟨rfl,R',arr,rfl,p,t,o⟩;exact⟨rfl,R',arr,rfl,p,t,by rw[C1 h1,CP ho] at o;exact o⟩
 ·rintro c J ⟨rfl,R',arr,rfl,p,t,o⟩;exact Ad (q R' arr p t o)
end
section
variable {w:World}{κ:SortKind}{Ok:Keyed->Prop}{f:Keyed->Int}
theorem cL.len:∀{ps:List (Nat×Nat×Nat)} {jj:List (List Keyed)} {s:Nat},cL f ps jj s->ps.length=jj.length/\jj.length<=jj.flatten.length
 |[],[],_,_=>⟨rfl,Al _⟩
 |_::_,[],_,h=>h.elim
 |[],_::_,_,h=>h.elim
 |(_,_,_)::ps,l::ls,s,h=>by obtain⟨_,_,I,_,k⟩:=h;have:=cL.len k;rw[AF,AF,CG,Ac];lia
theorem cL.repow{w:Nat}:∀{ps:List (Nat×Nat×Nat)} {jj:List (List Keyed)} {s:Nat} (i:Nat),cL f ps jj s->cL f (ps.modify i λp=>(p.1,p.2.1,w)) jj s
 |[],[],_,i,_=>by simp[cL]
 |_::_,[],_,_,h=>h.elim
 |[],_::_,_,_,h=>h.elim
 |(_,_,_)::ps,l::ls,s,0,h=>h
 |(_,_,_)::ps,l::ls,s,i+1,h=>by obtain⟨I,J,U,g,k⟩:=h;exact⟨I,J,U,g,cL.repow i k⟩
theorem cL.snoc{l:List Keyed}(I:0<l.length)(hs:l.Pairwise λx y=>f x<=f y):∀{ps:List (Nat×Nat×Nat)} {jj:List (List Keyed)} {s:Nat},cL f ps jj s->∀{m:Nat},m=s+jj.flatten.length->cL f (ps++[(m,l.length,0)]) (jj++[l]) s
 |[],[],_,_,m,e=>⟨by simpa using e,rfl,I,hs,trivial⟩
 |_::_,[],_,h,_,_=>h.elim
 |[],_::_,_,h,_,_=>h.elim
 |(_,_,_)::ps,o::ls,s,h,m,e=>by obtain⟨J,U,g,j,k⟩:=h;exact⟨J,U,g,j,cL.snoc I hs k (by rw[e];simp;simp +arith only)⟩
def aml{l:List α}(h:i+1<l.length):l=l.take i++l[i]::l[i+1]::l.drop (i+2):=by rw[<-BQ h,<-BQ (by omega),Bm]
def uq(O:Ord prog w A s κ Ok f){st:SortSt}{jj:List (List Keyed)}{rest:List Keyed}{Q:Bool->SortSt->Prop}(G:bM κ Ok f st jj rest)(hi:i+1<jj.length)
 (q:∀J I,bM κ Ok f J I rest->I.flatten.Perm jj.flatten->I.length+1=jj.length->Q true J):wpS (model prog w) A E s (mergeAt' i) Q st:=by
 have e:=aml hi;have g:(jj.take i).length=i:=by simp;lia
 rw[e] at G;have j:∀C:List Keyed,C.Perm (jj[i]++jj[i+1])->(jj.take i++C::jj.drop (i+2)).flatten.Perm jj.flatten:=λC U=>by have l:jj.flatten=(jj.take i++jj[i]::jj[i+1]::jj.drop (i+2)).flatten:=BH List.flatten e;rw[l,CV,CV,CG,CG,CG];refine(Bz _).mpr ?_;rw[<-AE];exact(Bl _).mpr U
 have:=zL O (E:=E) (Q:=Q) G λJ C o U=>q J _ o (j C U) (by simp;lia);rw[g] at this;exact this
theorem bM.push{st:SortSt}{jj:List (List Keyed)}{rest:List Keyed}(G:bM κ Ok f st jj rest)(I:n<=rest.length)(h1:1<=n)(U:Up f rest n):bM κ Ok f (setPending st ((pendingOf st).push (jj.flatten.length,n,0))) (jj++[rest.take n]) (rest.drop n):=by
 refine⟨G.kind,G.failed,?_,?_,G.ok⟩
 ·have:=G.arr;show(arrOf st).toList=_;rw[this,CV,AE];simp
 ·show cL f ((pendingOf st).push _).toList _ 0;rw[CF];have:=cL.snoc (l:=rest.take n) (by simp;lia) (U.pair I) G.pend (m:=jj.flatten.length) (by simp +arith only);rw[show(rest.take n).length=n by simp;lia] at this;exact this
theorem bM.repow{st:SortSt}{jj:List (List Keyed)}{rest:List Keyed}{w:Nat}(G:bM κ Ok f st jj rest):bM κ Ok f (setPending st ((pendingOf st).modify i λp=>(p.1,p.2.1,w))) jj rest:=by refine⟨G.kind,G.failed,G.arr,?_,G.ok⟩;show cL f ((pendingOf st).modify i λp=>(p.1,p.2.1,w)).toList _ 0;rw[Array.toList_modify];exact G.pend.repow i
def bM.set{st:SortSt}{jj:List (List Keyed)}{rest R:List Keyed}{arr:Array Keyed}(G:bM κ Ok f st jj rest)(p:R.Perm rest)(e:arr.toList=jj.flatten++R):bM κ Ok f (setArr st arr) jj R:=
 ⟨G.kind,G.failed,e,G.pend,λx I=>G.ok x (by
  have I:x∈arr.toList:=I;rw[e] at I;rw[G.arr];rcases Ak.mp I with h|h
  ·exact Au _ h
  ·exact Ag _ (p.mem_iff.mp h))⟩
theorem ac2(O:Ord prog w A s κ Ok f){st:SortSt}{Q:Unit->SortSt->Prop}(hk:kindOf st=κ)(hp:pendingOf st=#[])(hf:failedOf st=none)(ok:∀x∈(arrOf st).toList,Ok x)(inj:((arrOf st).toList.map f).Nodup)
 (q:∀g,failedOf g=none->(arrOf g).toList.Perm (arrOf st).toList->((arrOf g).toList.Pairwise λx y=>f x<=f y)->Q () g):wpS (model prog w) A E s sortRuns' Q st:=by
 refine Ab (wpS_get ?_);dsimp only;have G0:bM κ Ok f st [] (arrOf st).toList:=⟨hk,hf,rfl,by rw[hp];trivial,ok⟩;obtain⟨N,eN⟩:∃N,N=(arrOf st).size:=⟨_,rfl⟩;rw[<-eN];generalize bj:(sortPriv% PySem.Builtin.minRun) N N 0=mr;refine Ab (AV (AJ (I:=λx c g=>∃jj rest lo,c=(none,lo)/\bM κ Ok f g jj rest/\lo=jj.flatten.length/\(jj.flatten++rest).Perm (arrOf st).toList/\x<=lo)
  (Q:=λc g=>∃jj lo,c=(none,lo)/\bM κ Ok f g jj []/\jj.flatten.Perm (arrOf st).toList) ?_ ?_ ⟨[],(arrOf st).toList,0,rfl,G0,rfl,BO _,Al _⟩) ?_)
 ·rintro x c g _ hx ⟨jj,rest,lo,rfl,G,aL,pm,bf⟩;dsimp only;have lt:jj.flatten.length+rest.length=N:=by have h1:=pm.length_eq;have h2:(arrOf st).toList.length=(arrOf st).size:=AL;rw[Ac] at h1;lia
  by_cases c:lo>=N
  ·rw[Aw c];have:rest=[]:=BV (by lia);subst this;exact Ad ⟨jj,lo,rfl,G,by simpa using pm⟩
  rw[As c];subst aL;have er:N-jj.flatten.length=rest.length:=by lia
  rw[er];have T:Tl κ Ok g jj.flatten rest:=⟨G.kind,G.arr,λx hx=>G.ok x (by rw[G.arr];exact Ag _ hx)⟩;have nd:(rest.map f).Nodup:=by have h2:=(pm.map f).nodup_iff.mpr inj;rw[AD,AI] at h2;exact h2.2.1
  have ba:∀i j (_:i<j) (_:j<rest.length),f (rest[i]'(by exact i0))≠f rest[j]:=λi j bg hj e=>by have h2:=Cc.mp nd i j (by simp;exact i0) (by simpa using hj) bg;simp at h2;exact h2 e
  refine Ab (ahl O T (by lia) ba λn R1 a3 g1 g2 a1 bb U1=>?_);dsimp only;have T1:=T.same a1 bb;have G1:=G.set a1 bb;have l1:R1.length=rest.length:=a1.length_eq;by_cases cm:n<mr
  case' pos=>
   rw[Aw cm];refine Ab (wpS_lift (Bu ⟨rfl,?_⟩));refine Ab (ap2 O T1 (by lia) g1 (by lia) U1 λR2 bc bd bh U2=>?_);rw[As (by simp)];have G2:=G1.set bd bh;obtain⟨C,a4⟩:∃C,C=min rest.length mr:=⟨_,rfl⟩;rw[<-a4] at U2 ⊢;have p2:R2.Perm rest:=bd.trans a1;have k1:1<=C:=by lia
   have k2:C<=rest.length:=by lia
   obtain⟨a0,a5⟩:∃a0,a0=setArr (setArr g a3) bc:=⟨_,rfl⟩;rw[<-a5] at G2 ⊢
  case' neg=>
   rw[As cm];have G2:=G1;obtain⟨C,a4⟩:∃C,C=n:=⟨_,rfl⟩;obtain⟨R2,ab⟩:∃R2,R2=R1:=⟨_,rfl⟩;rw[<-a4] at U1 ⊢;rw[<-ab] at G2;have U2:Up f R2 C:=by rw[ab];exact U1
   have p2:R2.Perm rest:=by rw[ab];exact a1
   have k1:1<=C:=by lia
   have k2:C<=rest.length:=by lia
   obtain⟨a0,a5⟩:∃a0,a0=setArr g a3:=⟨_,rfl⟩;rw[<-a5] at G2 ⊢
  all_goals
   have l2:R2.length=rest.length:=p2.length_eq;have k6:∀(U:SortSt) (J:List (List Keyed)),bM κ Ok f U J R2->J.flatten.Perm jj.flatten->∃r a2 ac,((none,jj.flatten.length+C):Option Unit×Nat)=(none,ac)/\bM κ Ok f (setPending U ((pendingOf U).push (jj.flatten.length,C,0))) r a2/\ac=r.flatten.length/\(r.flatten++a2).Perm (arrOf st).toList/\x+1<=ac:=λU J G3 o=>by
    have G4:=G3.push (by lia) k1 U2;rw[o.length_eq] at G4;refine⟨_,_,_,rfl,G4,?_,?_,by exact apa⟩
    ·rw[CV,Ac,o.length_eq];simp;lia
    ·have:(J++[R2.take C]).flatten++R2.drop C=J.flatten++R2:=by simp
     rw[this];exact((Bl R2).mpr o).trans (((Bz _).mpr p2).trans pm)
   refine Ab (wpS_get ?_);split
   ·refine Ab (AV (AJ (I:=λy c U=>c=(none,())/\∃J,bM κ Ok f U J R2/\J.flatten.Perm jj.flatten)
     (Q:=λc U=>c=(none,())/\∃J,bM κ Ok f U J R2/\J.flatten.Perm jj.flatten) ?_ ?_ ⟨rfl,jj,G2,BO _⟩) ?_)
    ·rintro y c U _ hy ⟨rfl,J,G3,o⟩;have pl:=G3.pend.len.1;have bi:(pendingOf U).size=J.length:=by rw[<-pl,AL]
     refine Ab (wpS_get ?_);by_cases cs:(pendingOf U).size > 1
     ·rw[Aw cs];split
      ·split
       ·exact Ad ⟨rfl,J,G3,o⟩
       ·refine Ab (uq O G3 (by show(pendingOf U).size-2+1<J.length;lia) λst4 t G4 p4 l4=>?_);rw[As (by simp)];exact Ad ⟨rfl,t,G4,p4.trans o⟩
      ·exact Ad ⟨rfl,J,G3,o⟩
     ·rw[As cs];exact Ad ⟨rfl,J,G3,o⟩
    ·rintro c U h;exact h
    ·rintro c U ⟨rfl,J,G3,o⟩;dsimp only;refine Ab (wpS_modify (Ab (wpS_modify (Ad ?_))));exact k6 _ J G3.repow o
   ·exact Ab (wpS_modify (Ad (k6 a0 jj G2 (BO _))))
 ·rintro c g ⟨jj,rest,lo,rfl,G,aL,pm,bf⟩;have lt:jj.flatten.length+rest.length=N:=by have h1:=pm.length_eq;have h2:(arrOf st).toList.length=(arrOf st).size:=AL;rw[Ac] at h1;lia
  have:rest=[]:=BV (by lia);subst this;exact⟨jj,lo,rfl,G,by simpa using pm⟩
 ·rintro c g ⟨jj,lo,rfl,G,pm⟩;dsimp only;have ls:jj.length<=N:=by have h1:=G.pend.len.2;have h3:=pm.length_eq;have h2:(arrOf st).toList.length=(arrOf st).size:=AL;lia
  refine Ab (AV (AJ (I:=λy c U=>c=(none,())/\∃J,bM κ Ok f U J []/\J.flatten.Perm (arrOf st).toList/\J.length+y<=N)
   (Q:=λc U=>c=(none,())/\∃J,bM κ Ok f U J []/\J.flatten.Perm (arrOf st).toList/\J.length<=1) ?_ ?_ ⟨rfl,jj,G,pm,by omega⟩) ?_)
  ·rintro y c U _ hy ⟨rfl,J,G3,o,h3⟩;have pl:=G3.pend.len.1;have bi:(pendingOf U).size=J.length:=by rw[<-pl,AL]
   refine Ab (wpS_get ?_);by_cases cs:(pendingOf U).size<=1
   ·rw[Aw cs];exact Ad ⟨rfl,J,G3,o,by lia⟩
   ·rw[As cs];refine Ab (uq O G3 ?_ λst4 t G4 p4 l4=>?_)
    ·have gen:∀b:Bool,(if b=true then(pendingOf U).size-2-1 else(pendingOf U).size-2)+1<J.length:=λb=>by cases b with|true=>rw[Aw rfl];omega|false=>rw[As (by simp)];lia
     exact gen _
    ·rw[As (by simp)];exact Ad ⟨rfl,t,G4,p4.trans o,by lia⟩
  ·rintro c U ⟨rfl,J,G3,o,h3⟩;exact⟨rfl,J,G3,o,by lia⟩
  ·rintro c U ⟨rfl,J,G3,o,h3⟩;refine Ad (q U G3.failed ?_ ?_)
   ·rw[G3.arr,AQ];exact o
   ·rw[G3.arr,AQ]
    match J,h3,G3.pend with
    |[],_,_=>simp
    |[l],_,h=>
     rw[CG,List.flatten_nil,AQ];cases be:(pendingOf U).toList with
     |nil=>rw[be] at h;exact h.elim
     |cons p ps=>
      rw[be] at h;obtain⟨p1,p2,o⟩:=p;exact h.2.2.2.1
end
open PySem PyProof.Rows PySem.W
def aoa(h:Heap)(B:Int)(x:Keyed):Prop:=∃a o n r p t u,x.1=.ref a/\h.get? a=some o/\o.data=.seq #[.int r t,.int p u] n/\0<=p/\p<B
noncomputable def num(h:Heap)(B:Int)(x:Keyed):Int:=match x.1 with
 |.ref a=>match h.get? a with
  |some o=>match o.data with
   |.seq xs _=>match xs.toList with
    |[.int r _,.int p _]=>r*B+p
    |_=>0
   |_=>0
  |none=>0
 |_=>0
def num_of{x:Keyed}{a:Addr}{o:Obj}{r p:Int}{t u:Tok}(I:x.1=.ref a)(J:h.get? a=some o)(U:o.data=.seq #[.int r t,.int p u] n):num h B x=r*B+p:=by unfold num;simp[I,J,U]
def tI{w:World} :Ord prog w A s (tuples' true) (aoa s.heap B) (num s.heap B):=by
 constructor;rintro x y ⟨a1,o1,n1,I,J,r,t,l,g1,d1,b1,c1⟩ ⟨a2,o2,n2,U,g,C,T,o,g2,d2,b2,c2⟩ E Q h;rw[num_of l g1 d1,num_of o g2 d2] at h;rw[l,o];refine kat_lt g1 d1 g2 d2 ?_;show KatLex prog w A true _ Q [(.int I r,.int U C),(.int J t,.int g T)] 0 s;refine kat_cons (wpAny_eqBool_int ?_);by_cases c:I=U
 ·subst c;rw[beq_self_eq_true];refine kat_yes (kat_cons (wpAny_eqBool_int ?_));by_cases p:J=g
  ·subst p;rw[beq_self_eq_true];refine kat_yes (kat_nil ?_);have e:decide (I*B+J<I*B+J)=false:=Aq (by lia);rw[e] at h;exact h
  ·rw[Ek p];refine kat_no (kat_one _ _ (PyProof.Rows.lt_int ?_));have e:decide (I*B+J<I*B+g)=decide (J<g):=by
    by_cases z:J<g
    ·rw[Ao z];exact Ao (by lia)
    ·rw[Aq z];exact Aq (by lia)
   rw[e] at h;exact h
 ·rw[Ek c];refine kat_no (oneLt_int ?_);have e:decide (I*B+J<U*B+g)=decide (I<U):=by
   by_cases z:I<U
   ·rw[Ao z];have j:(I+1)*B<=U*B:=Cv (by assumption) (by lia);rw[Int.add_mul,Int.one_mul] at j;exact Ao (by omega)
   ·rw[Aq z];have j:(U+1)*B<=I*B:=Cv (by lia) (by lia);rw[Int.add_mul,Int.one_mul] at j;exact Aq (by lia)
  rw[e] at h;exact h
section
variable {w:World}
def fG(h:Heap)(B:Int)(v:Value):Prop:=∃a o n r p t u,v=.ref a/\h.get? a=some o/\o.cls=.type "tuple" /\ o.data=.seq #[.int r t,.int p u] n/\0<=p/\p<B
def fG.pair{x:Keyed}(k:fG h B x.1):aoa h B x:=by obtain⟨a,o,n,r,p,t,u,I,J,_,U,g,j⟩:=k;exact⟨a,o,n,r,p,t,u,I,J,U,g,j⟩
theorem tups{h:Heap}{B:Int}:∀{ks:List Value},(∀v∈ks,fG h B v)->∃fs,KatTups h ks fs/\fs.length=ks.length/\∀v∈fs,∃r t,v=Value.int r t
 |[],_=>⟨[],trivial,rfl,λv I=>by simp at I⟩
 |k::ks,J=>by
  obtain⟨fs,U,g,j⟩:=tups (ks:=ks) λv I=>J v (Ah _ I);obtain⟨a,o,n,r,p,t,u,rfl,l,C,T,_,_⟩:=J k (Av ..);refine⟨.int r t::fs,KatTups.cons l C T rfl U,by simp[g],λv I=>?_⟩;rcases Ax.mp I with rfl|I
  ·exact⟨r,t,rfl⟩
  ·exact j v I
def af4{ks:List Value}{Q:SortKind->Shared->Prop}(I:∀v∈ks,fG s.heap B v)(j:0<ks.length)(q:Q (tuples' true) s):wpAny (model prog w) A (keyKind' ks.toArray) Q E s:=by
 obtain⟨fs,J,l,U⟩:=tups I;refine kat_kind (T:=.type "int") J (by lia) (λv g=>?_) (by decide) ?_
 ·obtain⟨r,t,rfl⟩:=U v g;exact .now
 ·exact q
theorem tR{R:α->α->Prop}:∀{l:List α},l.length<2->l.Pairwise R
 |[],_=>List.Pairwise.nil
 |[_],_=>List.pairwise_singleton _ _
 |_::_::_,h=>absurd h (by simp)
def ant{a kS:Addr}{ks:List Value}{e l:Nat}{P:PySem.Fin->Shared->Prop}(p:s.heap.get? kS=some (seqObj "list" ks.toArray e))(ha:s.heap.get? a=some (seqObj "list" #[] l))(r:kS≠a)(hl:ks.length=vs.length)(hz:vs.length<=sizeLine)
 (T:∀v∈ks,fG s.heap B v) (inj:((ks.zip vs).map (num s.heap B)).Nodup)
 (h:∀h' tk (xs:List Keyed) c,(∀b,b≠kS->b≠a->h'.get? b=s.heap.get? b)->h'.get? a=some (seqObj "list" (List.toArray (xs.map (·.2))) c)->xs.Perm (ks.zip vs)->(xs.Pairwise λx y=>num s.heap B x<=num s.heap B y)->P (.done (.ret .none)) { s with heap:=h',toks:=tk }):
 wpAny (model prog w) A (ksk_end a false vs.toArray l (.ref kS) ks.toArray) P E s:=by
 have g:(ks.toArray.zip vs.toArray).toList=ks.zip vs:=by simp
 have tail:∀st:SortSt,failedOf st=none->(arrOf st).toList.Perm (ks.zip vs)->((arrOf st).toList.Pairwise λx y=>num s.heap B x<=num s.heap B y)->wpAny (model prog w) A (ksk_tail a false l (.ref kS) st) P E s:=by
  intro st hf hp hs;have s1:=xp s.heap kS (Obj.mapSeq λ_=>(#[]:Array Value));have J:(s.heap.update kS (Obj.mapSeq λ_=>(#[]:Array Value))).get? a=some (seqObj "list" #[] l):=(s1.2 a r.symm).trans ha;have s2:=xp (s.heap.update kS (Obj.mapSeq λ_=>(#[]:Array Value))) a (Obj.mapSeq λ_=>(arrOf st).map (·.2));have len:((arrOf st).map (·.2)).size<=sizeLine:=by have:=hp.length_eq;rw[Dv,AL] at this;rw[Array.size_map];lia
  unfold ksk_tail
  try dsimp only
  refine Aa (listUpdate_at p rfl ?_ (by rw[Ar];lia) (Bo _));refine Aa (wpAny_letGo ?_);refine Aa (seqEpoch_at J rfl ?_);refine Aa (listUpdate_at J rfl ?_ (Bo _) (by simp only[B7,if_false];exact Dh len));rw[hf];simp only[bne_self_eq_false,B7,if_false];obtain⟨c2,j⟩:∃c2,((s.heap.update kS (Obj.mapSeq λ_=>(#[]:Array Value))).update a (Obj.mapSeq λ_=>(arrOf st).map (·.2))).get? a=some (seqObj "list" ((arrOf st).map (·.2)) c2):=⟨_,get?_update_seq J λ_=>(arrOf st).map (·.2)⟩;refine Ai (h _ _ (arrOf st).toList c2 (λb t C=>?_) ?_ hp hs)
  ·exact(s2.2 b C).trans (s1.2 b t)
  ·have em:(arrOf st).map (·.2)=List.toArray ((arrOf st).toList.map (·.2)):=by apply Array.toList_inj.mp;rw[Array.toList_map]
   rw[em] at j ⊢;exact j
 unfold ksk_end;simp only[B7,if_false];by_cases U:vs.toArray.size<2
 ·rw[Aw U,Aw U];refine Aa (Ai ?_);rw[StateT.run_pure];refine Aa (Ai ?_);refine tail _ rfl (by show(ks.toArray.zip vs.toArray).toList.Perm _;rw[g]) ?_;show(ks.toArray.zip vs.toArray).toList.Pairwise _;rw[g];rw[Ar] at U;have:(ks.zip vs).length<2:=by rw[Dv];lia
  exact tR this
 ·rw[As U,As U];rw[Ar] at U;refine Aa (af4 T (by omega) ?_);refine Aa (AZ (ac2 (E:=E) (tI (B:=B)) (st:=SortSt.mk' (tuples' true) (ks.toArray.zip vs.toArray) #[] 7 none)
   (Q:=λ_ I=>failedOf I=none/\(arrOf I).toList.Perm (ks.zip vs)/\((arrOf I).toList.Pairwise λx y=>num s.heap B x<=num s.heap B y)) rfl rfl rfl (λx o=>?_) ?_ λI b1 b2 b3=>⟨b1,?_,b3⟩) ?_ λ_ _ e=>e)
  ·have o:x∈(ks.toArray.zip vs.toArray).toList:=o;rw[g] at o;exact fG.pair (T _ (Du (a:=x.1) (b:=x.2) o).1)
  ·show((ks.toArray.zip vs.toArray).toList.map _).Nodup;rw[g];exact inj
  ·have b2:(arrOf I).toList.Perm (ks.toArray.zip vs.toArray).toList:=b2;rw[g] at b2;exact b2
  ·rintro⟨⟨⟩,I⟩ s' ⟨rfl,b1,b2,b3⟩;exact tail I b1 b2 b3
end
section
variable {w:World}
def fG.ne{v:Value}{a b:Addr}{xs:Array Value}(k:fG h B v)(e:v=.ref a)(g:h.get? b=some (seqObj "list" xs n)):a≠b:=by
 obtain⟨j,o,m,r,p,t,u,J,U,I,_⟩:=k;rw[e] at J;cases J;rintro rfl;rw[g] at U;cases U;have I:Value.type "list" = Value.type "tuple" := I;injection I with e
 exact absurd e (by decide)
def fG.keeps{v:Value}{b:Addr}{xs:Array Value}(k:fG h B v)(J:h.get? b=some (seqObj "list" xs n))(U:∀c o,c≠b->h.get? c=some o->h'.get? c=some o):fG h' B v:=by have g:=k;obtain⟨a,o,m,r,p,t,u,I,j,l,C,T,e6⟩:=k;exact⟨a,o,m,r,p,t,u,I,U a o (g.ne I J) j,l,C,T,e6⟩
def aa1{x:Keyed}{b:Addr}{xs:Array Value}(k:fG h B x.1)(g:h.get? b=some (seqObj "list" xs n))(j:∀c o,c≠b->h.get? c=some o->h'.get? c=some o):num h' B x=num h B x:=by have l:=k;obtain⟨a,o,m,r,p,t,u,I,J,C,U,T,e6⟩:=k;rw[num_of I J U,num_of I (j a o (l.ne I g) J) U]
def dR{x:Keyed}(h:x∈vs.zip vs):x.1∈vs/\x.1=x.2:=by
 induction vs with
 |nil=>simp at h
 |cons v r I=>
  rw[List.zip_cons_cons] at h;rcases Ax.mp h with rfl|h
  ·exact⟨Av ..,rfl⟩
  ·exact⟨Ah _ (I h).1,(I h).2⟩
def ai1{a:Addr}{P:PySem.Fin->Shared->Prop}(r:s.heap.get? a=some (seqObj "list" vs.toArray n))(hz:vs.length<=100000)(hk:∀v∈vs,fG s.heap B v)(inj:((vs.zip vs).map (num s.heap B)).Nodup)
 (h:∀h' tk (xs:List Keyed) c,(∀b o,b≠a->s.heap.get? b=some o->h'.get? b=some o)->h'.get? a=some (seqObj "list" (List.toArray (xs.map (·.2))) c)->xs.Perm (vs.zip vs)->(xs.Pairwise λx y=>num s.heap B x<=num s.heap B y)->P (.done (.ret .none)) { s with heap:=h',toks:=tk }):
 wpAny (model prog w) A (Builtin.«list.sort» ⟨[.ref a],[]⟩) P E s:=by
 have big:(100000:Nat)+1<=sizeLine:=by rw[sizeLine_eq];exact C0 _ _
 have t:(vs.toArray.zip vs.toArray).toList=vs.zip vs:=by simp
 have s1:=xp s.heap a (Obj.mapSeq λ_=>(#[]:Array Value));obtain⟨e1,C⟩:∃e1,(s.heap.update a (Obj.mapSeq λ_=>(#[]:Array Value))).get? a=some (seqObj "list" #[] e1):=⟨_,get?_update_seq r λ_=>#[]⟩;obtain⟨I,U⟩:∃g,g=((s.heap.update a (Obj.mapSeq λ_=>(#[]:Array Value))).push (seqObj "tuple" vs.toArray 0)).push (seqObj "list" #[] 0):=⟨_,rfl⟩;have k3:∀b o,b≠a->s.heap.get? b=some o->I.get? b=some o:=λb o hb e=>by rw[U];exact u3 _ (u3 _ ((s1.2 b hb).trans e))
 have j:I.get? a=some (seqObj "list" #[] e1):=by rw[U];exact u3 _ (u3 _ C)
 have T:∀v∈vs,fG I B v:=λv hv=>(hk v hv).keeps r k3;have nk:∀x∈vs.zip vs,num I B x=num s.heap B x:=λx l=>aa1 (hk _ (dR l).1) r k3;have a0:((vs.zip vs).map (num I B)).Nodup:=by rw[Cp nk];exact inj
 have tail:∀st:SortSt,failedOf st=none->(arrOf st).toList.Perm (vs.zip vs)->((arrOf st).toList.Pairwise λx y=>num I B x<=num I B y)->
  ∀tk,P (.done (.ret .none)) { s with heap:=I.update a (Obj.mapSeq λ_=>(arrOf st).map (·.2)),toks:=tk }:=by
  intro st hf hp hs tk;have s2:=xp I a (Obj.mapSeq λ_=>(arrOf st).map (·.2));obtain⟨c2,a1⟩:∃c2,(I.update a (Obj.mapSeq λ_=>(arrOf st).map (·.2))).get? a=some (seqObj "list" ((arrOf st).map (·.2)) c2):=⟨_,get?_update_seq j λ_=>(arrOf st).map (·.2)⟩;have em:(arrOf st).map (·.2)=List.toArray ((arrOf st).toList.map (·.2)):=by apply Array.toList_inj.mp;rw[Array.toList_map]
  refine h _ tk (arrOf st).toList c2 (λb o hb e=>(s2.2 b hb).trans (k3 b o hb e)) ?_ hp ?_
  ·rw[em] at a1 ⊢;exact a1
  ·refine Cn (λ{x y} l hy z=>?_) hs;rw[nk x (hp.mem_iff.mp l),nk y (hp.mem_iff.mp hy)] at z;exact z
 have len:∀st:SortSt,(arrOf st).toList.Perm (vs.zip vs)->((arrOf st).map (·.2)).size<=sizeLine+1:=λst hp=>by have:=hp.length_eq;rw[Dv,AL] at this;rw[Array.size_map];lia
 rw[list_sort_plain];refine Aa (listItems_at r rfl ?_);refine Aa (listUpdate_at r rfl ?_ (by rw[Ar];exact dG) (Bo _));refine Aa (seqEpoch_at C rfl ?_);refine Aa (wpAny_newTuple ?_ (by show vs.length<=_;lia));refine Aa (wpAny_newList ?_ (Bo _));refine Be ?_;show wpAny (model prog w) A _ P E { s with heap:=((s.heap.update a (Obj.mapSeq λ_=>(#[]:Array Value))).push (seqObj "tuple" vs.toArray 0)).push (seqObj "list" #[] 0) };rw[<-U];dsimp only;by_cases p:vs.toArray.size<2
 ·rw[Aw p,Aw p];refine Aa (Ai ?_);rw[StateT.run_pure];refine Aa (Ai ?_);dsimp only;refine Aa (seqEpoch_at j rfl ?_);have pz:(arrOf (SortSt.mk' (tuples' true) (vs.toArray.zip vs.toArray) #[] 7 none)).toList.Perm (vs.zip vs):=by show(vs.toArray.zip vs.toArray).toList.Perm _;rw[t]
  refine Aa (listUpdate_at j rfl ?_ (Bo _) (len _ pz));simp only[bne_self_eq_false,B7,if_false];refine Ai (tail (SortSt.mk' (tuples' true) (vs.toArray.zip vs.toArray) #[] 7 none) rfl pz ?_ _);show(vs.toArray.zip vs.toArray).toList.Pairwise _;rw[t];rw[Ar] at p;have:(vs.zip vs).length<2:=by rw[Dv];lia
  exact tR this
 ·rw[As p,As p];rw[Ar] at p;refine Aa (af4 (s:={ s with heap:=I }) T (by lia) ?_);refine Aa (AZ (ac2 (E:=E) (tI (s:={ s with heap:=I }) (B:=B)) (st:=SortSt.mk' (tuples' true) (vs.toArray.zip vs.toArray) #[] 7 none)
   (Q:=λ_ J=>failedOf J=none/\(arrOf J).toList.Perm (vs.zip vs)/\((arrOf J).toList.Pairwise λx y=>num I B x<=num I B y)) rfl rfl rfl (λx l=>?_) ?_ λJ b1 b2 b3=>⟨b1,?_,b3⟩) ?_ λ_ _ e=>e)
  ·have l:x∈(vs.toArray.zip vs.toArray).toList:=l;rw[t] at l;exact fG.pair (T _ (dR l).1)
  ·show((vs.toArray.zip vs.toArray).toList.map _).Nodup;rw[t];exact a0
  ·have b2:(arrOf J).toList.Perm (vs.toArray.zip vs.toArray).toList:=b2;rw[t] at b2;exact b2
  ·rintro⟨⟨⟩,J⟩ s' ⟨rfl,b1,b2,b3⟩;dsimp only;refine Aa (seqEpoch_at j rfl ?_);refine Aa (listUpdate_at j rfl ?_ (Bo _) (len _ b2));rw[b1];simp only[bne_self_eq_false,B7,if_false];exact Ai (tail J b1 b2 b3 _)
def w_sorted(hl:s.heap.IsList l vs.toArray)(hz:vs.length<=100000)(hk:∀v∈vs,fG s.heap B v)(inj:((vs.zip vs).map (num s.heap B)).Nodup)
 (h:∀h' tk (xs:List Keyed) D c,s.heap.objs.size<=D->(∀b o,s.heap.get? b=some o->h'.get? b=some o)->h'.get? D=some (seqObj "list" (List.toArray (xs.map (·.2))) c)->xs.Perm (vs.zip vs)->(xs.Pairwise λx y=>num s.heap B x<=num s.heap B y)->Q (.ref D) { s with heap:=h',toks:=tk }):
 wpAny (model prog w) A (call (.builtin "sorted") [.ref l]) Q E s:=by
 have big:(100000:Nat)+1<=sizeLine:=by rw[sizeLine_eq];lia
 refine Calls.call_function_entry kind_sorted plain_sorted entry_sorted (args_sorted1 _) ?_;unfold Builtin.«sorted»;refine Aa (m:=checkCount "sorted" 1 1 _) (Ai ?_);refine Aa (collect_list hl ?_ (by lia));refine Aa (wpAny_newList ?_ (by lia));obtain⟨g,C⟩:∃g,g=(s.heap.push (seqObj "list" #[] 0)).update s.heap.objs.size (Obj.mapSeq (· ++ vs.toArray)):=⟨_,rfl⟩;have gs:g.objs.size=s.heap.objs.size+1:=by rw[C,Heap.size_update,size_push']
 have gk:∀b o,s.heap.get? b=some o->g.get? b=some o:=λb o q=>by have I:b<s.heap.objs.size:=vb q;rw[C,Heap.get?_update_ne _ _ _ _ (A4 I)];exact u3 _ q
 show wpAny _ _ _ _ _ { s with heap:=((s.heap.push (seqObj "list" #[] 0)).update s.heap.objs.size (Obj.mapSeq (· ++ vs.toArray))).push (seqObj "list" vs.toArray 0) };rw[<-C];have J:(g.push (seqObj "list" vs.toArray 0)).get? g.objs.size=some (seqObj "list" vs.toArray 0):=vc _ rfl;have keep:∀b o,s.heap.get? b=some o->(g.push (seqObj "list" vs.toArray 0)).get? b=some o:=λb o q=>u3 _ (gk b o q);have kT:∀v∈vs,fG (g.push (seqObj "list" vs.toArray 0)) B v:=λv hv=>by obtain⟨a,o,m,r,p,t,u,U,j,r'⟩:=hk v hv;exact⟨a,o,m,r,p,t,u,U,keep _ _ j,r'⟩
 have nk:∀x∈vs.zip vs,num (g.push (seqObj "list" vs.toArray 0)) B x=num s.heap B x:=λx T=>by obtain⟨a,o,m,r,p,t,u,U,j,e3,e4,_⟩:=hk _ (dR T).1;rw[num_of U j e4,num_of U (keep _ _ j) e4]
 refine Aa (Be (wpAny_call_entry slot_list_sort ⟨_,J,rfl⟩ entry_list_sort ?body (args_list_sort _)))
 case body=>
  refine ai1 (s:={ s with heap:=g.push (seqObj "list" vs.toArray 0) }) J hz kT (by rw[Cp nk];exact inj) λh' tk xs c k1 hD pm pw=>?_;refine⟨_,rfl,Ai ⟨_,rfl,h h' tk xs g.objs.size c (by rw[gs];exact Cw _) (λb o q=>k1 b o ?_ (keep b o q)) hD pm ?_⟩⟩
  ·have I:b<s.heap.objs.size:=vb q;intro z;rw[z,gs] at I;exact Nat.not_succ_lt_self I
  ·refine Cn (λ{x y} T hy z=>?_) pw;rw[nk x (pm.mem_iff.mp T),nk y (pm.mem_iff.mp hy)] at z;exact z
end
end TS
namespace L2
open PySem PySem.Spec PyProof.Rows
def qK(f:α->β):∀{l m:List β},l.Perm m->∀{T:List α},T.map f=m->∃U:List α,U.Perm T/\U.map f=l:=by
 intro l m p
 induction p with
 |nil=>intro T e;exact⟨T,BO _,e⟩
 |cons x _ o=>
  intro T e;cases T with
  |nil=>cases e
  |cons t r=>
   rw[AG] at e;obtain⟨I,J⟩:=CY e;obtain⟨U,C,e'⟩:=o J;exact⟨t::U,C.cons t,by rw[AG,e',I]⟩
 |swap x y l=>
  intro T e
  match T,e with
  |t::u::r,e=>
   rw[AG,AG] at e;obtain⟨I,J⟩:=CY e;obtain⟨e3,e4⟩:=CY J;exact⟨u::t::r,List.Perm.swap t u r,by rw[AG,AG,I,e3,e4]⟩
 |trans _ _ g j=>
  intro T e;obtain⟨T1,p1,I⟩:=j e;obtain⟨T2,p2,J⟩:=g I;exact⟨T2,p2.trans p1,J⟩
theorem gJ{α β I:Type}{R:β->I->Prop}{g:α->β}{h:α->I}:∀{T:List α},(∀t∈T,R (g t) (h t))->Paired R (T.map g) (T.map h)
 |[],_=>.nil
 |t::_,k=>.cons (k t (Av ..)) (gJ λu J=>k u (Ah _ J))
theorem gv{α β J:Type}{R:α->β->Prop}{S:α->J->Prop}:∀{xs:List α} {ys:List β} {zs:List J},Paired R xs ys->Paired S xs zs->∃T:List (α×β×J),T.map (·.1)=xs/\T.map (λt=>t.2.1)=ys/\T.map (λt=>t.2.2)=zs/\∀t∈T,R t.1 t.2.1/\S t.1 t.2.2
 |_,_,_,.nil,.nil=>⟨[],rfl,rfl,rfl,λt I=>by cases I⟩
 |_,_,_,.cons (a:=x) (b:=y) r p,.cons (b:=z) q U=>by
  obtain⟨T,g,j,l,k⟩:=gv p U;refine⟨(x,y,z)::T,by rw[AG,g],by rw[AG,j],by rw[AG,l],λt I=>?_⟩;rcases Ax.mp I with rfl|I
  ·exact⟨r,q⟩
  ·exact k t I
theorem eI{α β:Type}{f:α->β}:∀{l:List α},(∀x∈l,∀y∈l,f x=f y->x=y)->l.Nodup->(l.map f).Nodup
 |[],_,_=>DF
 |a::r,h,n=>by obtain⟨J,U⟩:=AA.mp n;rw[AG];refine AA.mpr ⟨λz=>?_,eI (λx g y I=>h x (Ah _ g) y (Ah _ I)) U⟩;obtain⟨y,I,e⟩:=BE.mp z;have:=h y (Ah _ I) a (Av ..) e;exact J (this▸I)
def sw(p q:Int×Int):Prop:=p.1<q.1\/(p.1=q.1/\p.2<=q.2)
abbrev yG(K:Ae)(H:Hp)(v:V)(p:Int×Int):Prop:=∃a,v=.ref a/\dq K H a [.int p.1,.int p.2]
def xD{p q:Int×Int}(hp:0<=p.2/\p.2<B)(J:0<=q.2/\q.2<B)(h:p.1*B+p.2<=q.1*B+q.2):sw p q:=by
 unfold sw;by_cases c:p.1<q.1
 ·exact .inl c
 ·right;by_cases d:q.1<p.1
  ·have I:(q.1+1)*B<=p.1*B:=Cv (by assumption) (by lia);rw[Int.add_mul,Int.one_mul] at I;omega
  ·have e:p.1=q.1:=by lia
   rw[e] at h;exact⟨e,by lia⟩
def ag0{p q:Int×Int}(hp:0<=p.2/\p.2<B)(I:0<=q.2/\q.2<B)(h:p.1*B+p.2=q.1*B+q.2):p=q:=by
 have J:=xD hp I (by omega);have U:=xD I hp (by omega);unfold sw at J U;have g:p.1=q.1:=by lia
 have j:p.2=q.2:=by lia
 exact Es g j
def amu(X:Cx):List V->Hp->VK->Prop:=λxs H Q=>∃l ys ps,xs=[.ref l]/\a9 X.K H l ys/\Paired (yG X.K H) ys ps/\(∀p∈ps,0<=p.2/\p.2<1000000)/\ps.Nodup/\ys.length<=100000/\
 ∀D zs qs,H D=none->Paired (yG X.K H) zs qs->qs.Perm ps->qs.Pairwise sw->Q (.ref D) (upd H D (.lst zs))
def xK:xi X (.builtin "sorted") (amu X):=by
 intro a4 s σ H xs us Q I r h;obtain⟨l,ys,ps,rfl,hl,pr,hb,a1,a0,q⟩:=h;obtain⟨u,rfl,ru⟩:=r.one;cases (show u=Value.ref l from ru);obtain⟨U,rv,pl,hz⟩:=I.list hl;have l1:ys.length=U.length:=rv.length;obtain⟨T,e1,e2,e3,kT⟩:=gv rv pr;have g:∀t∈T,(∃a o n j C,t.2.1=Value.ref a/\s.heap.get? a=some o/\o.cls=.type "tuple" /\ o.data=.seq #[.int t.2.2.1 j,.int t.2.2.2 C] n)/\0<=t.2.2.2/\t.2.2.2<1000000:=λt J=>by obtain⟨r1,a,ea,hs⟩:=kT t J;obtain⟨a5,a2,⟨o,g1,g2,n,g3⟩,_⟩:=I.tuple hs;obtain⟨w1,w2,rfl,x1,x2⟩:=a2.two;obtain⟨j,rfl⟩:=(show ∃j,w1=Value.int t.2.2.1 j from x1);obtain⟨C,rfl⟩:=(show ∃C,w2=Value.int t.2.2.2 C from x2);rw[ea] at r1;refine⟨⟨a,o,n,j,C,r1,g1,g2,g3⟩,?_⟩;exact hb _ (by rw[<-e3];exact Cq (f:=λt:V×Value×(Int×Int)=>t.2.2) J)
 have nT:∀t∈T,TS.num s.heap 1000000 (t.2.1,t.2.1)=t.2.2.1*1000000+t.2.2.2:=λt J=>by obtain⟨⟨a,o,n,j,C,g0,g1,g2,g3⟩,_⟩:=g t J;exact TS.num_of g0 g1 g3
 have ez:U.zip U=T.map λt=>(t.2.1,t.2.1):=by rw[<-e2,List.zip_map']
 have inj:((U.zip U).map (TS.num s.heap 1000000)).Nodup:=by
  rw[ez,BP];have e4:T.map (TS.num s.heap 1000000∘λt=>(t.2.1,t.2.1))=(T.map λt=>t.2.2).map λp:Int×Int=>p.1*1000000+p.2:=by rw[BP];exact Cp λt J=>nT t J
  rw[e4,e3];exact eI (λx hx y hy e=>ag0 (hb x hx) (hb y hy) e) a1
 refine xj I.tk (TS.w_sorted (B:=1000000) pl.isList (by rw[<-l1];exact a0) (λv hv=>?_) inj λh' tk ks D c hD hk hg pm pw J=>?_)
 ·rw[<-e2] at hv;obtain⟨t,J,rfl⟩:=BE.mp hv;obtain⟨⟨a,o,n,j,C,g0,g1,g2,g3⟩,b1,b2⟩:=g t J;exact⟨a,o,n,_,_,j,C,g0,g1,g2,g3,b1,b2⟩
 ·rw[ez] at pm;obtain⟨T',pT,eT⟩:=qK _ pm rfl;subst eT;have mT:∀t,t∈T'->t∈T:=λt=>pT.mem_iff.mp;have a3:=Cj.mp pw;refine⟨.ref D,_,I.laid (t':=tk) (o:=.lst (T'.map (·.1))) hk hD ?_,rfl,q D (T'.map (·.1)) (T'.map λt=>t.2.2) (I.hok.fresh hD) (gJ λt J=>(kT t (mT t J)).2) ?_ ?_⟩
  ·refine⟨?_,T'.map (λt=>t.2.1),c,gJ λt J=>(kT t (mT t J)).1,?_⟩
   ·rw[Af,pT.length_eq];have:T.length=ys.length:=by rw[<-e1,Af]
    rw[this];exact hz
   ·rw[hg,BP];rfl
  ·rw[<-e3];exact pT.map _
  ·refine Cj.mpr (Cn (λ{x y} hx hy z=>?_) a3);rw[nT x (mT x hx),nT y (mT y hy)] at z;exact xD (g x (mT x hx)).2 (g y (mT y hy)).2 z
end L2
namespace L3
open PySem L2
def prY(p:Int×Int):Y:=.tup [.int p.1,.int p.2]
theorem sv{G:G3}{H:Hp}:∀{ps:List (Int×Int)} {xs:List V},ve G H (ps.map prY) xs->Paired (yG G.K H) xs ps
 |[],_,h=>by cases (show _=[] from h);exact .nil
 |p::r,_,⟨x,U,e,⟨a,zs,ea,g,j,l,o,I,t,C,T,J,e3⟩,s⟩=>by subst e ea o T e3;cases (show j=V.int p.1 from I);cases (show t=V.int p.2 from J);exact .cons ⟨a,rfl,g⟩ (sv s)
theorem tV{G:G3}{H:Hp}:∀{ps:List (Int×Int)} {xs:List V},Paired (yG G.K H) xs ps->ve G H (ps.map prY) xs
 |_,_,.nil=>rfl
 |_,_,.cons ⟨a,ea,I⟩ t=>by subst ea;exact⟨_,_,rfl,⟨a,_,rfl,I,_,_,rfl,rfl,_,_,rfl,rfl,rfl⟩,tV t⟩
def db(xs:List Y)(L:qm)(Q:YK):Prop:=match xs with
 |[.ref a]=>dr L a λys=>∃ps:List (Int×Int),ys=ps.map prY/\(∀p∈ps,0<=p.2/\p.2<1000000)/\ps.Nodup/\ps.length<=100000/\∀(D:Addr) (qs:List (Int×Int)),L D=none->qs.Perm ps->qs.Pairwise sw->Q (.ref D) (qe L D (.lst (qs.map prY)))
 |_=>False
def cZ:bootBuiltins "sorted"=some (.builtin "sorted"):=by decide +kernel
theorem hG :xi X (.builtin "sorted") (upL X.g3 db):=xi.imq xK λxs H Q ys L Q3 j J z k=>by
 unfold db at z;split at z
 ·rename_i a;obtain⟨l,e,o,rfl,p,U,I,z⟩:=vq z;obtain⟨t,C,r⟩:=J a _ e;obtain⟨u,rfl,T⟩:=j.inv1;cases (show u=V.ref a from T);have pr:=sv r;exact⟨a,t,o,rfl,EU C,pr,p,U,by rw[<-r.length,Af];exact I,λD l qs g pz pm pw=>k _ _ _ _ (EE g) (J.newL g (tV pz)) (by rfl) (z D qs (J.none g) pm pw)⟩
 ·exact z.elim
open PySem L2 Words
def cJ:Wd->Y
 |.leaf t n=>.tup [.str (kL t),.str n]
 |.node e l r=>.tup [.str (kN e),cJ l,cJ r]
def ft:Y:=(.tup [(.str "plain"),(.str "turned")])
def ql{Q:α->qm->Prop}{o:Option α}{v:α}(e:o=some v)(h:Q v L):yc L Q o:=by rw[e];exact h
abbrev jk(i:Int):xx:=yC (.int i)
abbrev dS(x:Str):xx:=yC (.str x)
abbrev x9(i:Nat)(n:Int):xx:=zj aR (qa i) (yC (.int n))
abbrev bQ(i:Nat):xx:=cY du (qf (qa i) qx)
abbrev cU(a b:xx):hX:=yB (zj (mj false) a b)
abbrev qR(a b:xx):hX:=yB (zj (mj true) a b)
abbrev rdT(a b:xx):xx:=ko (qf a (qf b qx))
abbrev aI(a:xx):fC:=qf a qx
abbrev aB(a b:xx):fC:=qf a (qf b qx)
def ab9:ww:=(ji (zj (pF false) (x9 0 0) (yC ft)))
def kX:Bool->Bool->Str
 |true,t=>kL t
 |false,e=>kN e
def gS:jx:=λys L Q=>∃lf b rest,ys=[.tup (.str (kX lf b)::rest)]/\Q (.bl lf) L
def yt(t:Bool):vF (.str (kL t)) [.str "plain",.str "turned"]=true:=by cases t<;>decide +kernel
def aa7(t:Bool):vF (.str (kN t)) [.str "plain",.str "turned"]=false:=by cases t<;>decide +kernel
def wJ:∀ys L Q,gS ys L Q->xr ab9 1 ys L Q:=by
 rintro ys L Q ⟨lf,b,rest,rfl,q⟩;have I:eG (Y.str (kX lf b)::rest) 0=some (Y.str (kX lf b)):=vj (xs:=Y.str (kX lf b)::rest) (j:=0) rfl;walk_at "w";rw[I];refine⟨rfl,rfl,k6 ?_⟩;cases lf with
 |true=>
  rw[show nb false (vF (gi (.str (kX true b))) ([Y.str "plain",.str "turned"].map gi))=true from yt b];exact q
 |false=>
  rw[show nb false (vF (gi (.str (kX false b))) ([Y.str "plain",.str "turned"].map gi))=false from aa7 b];exact q
def zZ(t:Bool):List.lookup (kL t) [(("plain" : Str),("turned" : Str)),("turned","plain"),("both","either"),("either","both")]=some (kL (!t)):=by cases t<;>decide +kernel
def yz(t:Bool):List.lookup (kN t) [(("plain" : Str),("turned" : Str)),("turned","plain"),("both","either"),("either","both")]=some (kN (!t)):=by cases t<;>decide +kernel
def dB(s:qj L L'){p:Addr}(h:L' p=none):L p=none:=by cases e:L p with|none=>rfl|some o=>rw[s _ _ e] at h;cases h
def ju.str(x:Str):ju L n (.str x) (.s (.str x)):=by cases n with|zero=>exact⟨rfl,rfl⟩|succ n=>exact .inl ⟨rfl,rfl⟩
abbrev EV:=@ju.str
def ju.int(x:Int):ju L n (.int x) (.s (.int x)):=by cases n with|zero=>exact⟨rfl,rfl⟩|succ n=>exact .inl ⟨rfl,rfl⟩
abbrev EM:=@ju.int
theorem iX{L:qm}:∀{wd:Wd} {n:Nat},wd.depth<=n->ju L n (cJ wd) (rY wd)
 |.leaf t nm,n+1,_=>.inr (.inl ⟨_,_,rfl,rfl,.cons (EV _) (.cons (EV _) .nil)⟩)
 |.node e l r,n+1,h=>by have I:max l.depth r.depth+1<=n+1:=h;exact .inr (.inl ⟨_,_,rfl,rfl,.cons (EV _) (.cons (iX (by lia)) (.cons (iX (by lia)) .nil))⟩)
def fZ{a:Addr}(e:L a=some (.lst ys))(p:Paired (ju L n) ys ds):ju L (n+1) (.ref a) (.lst ds):=.inr (.inr ⟨ys,ds,rfl,rfl,w4 e,p⟩)
def cq(p:Paired (ju L n) ys ds):ju L (n+1) (.tup ys) (.tup ds):=.inr (.inl ⟨ys,ds,rfl,rfl,p⟩)
def afi{neg:Bool}{u v:Wd}{Q:YK}(J:u.depth<=128)(q:Q (.bl (nb neg (Da.eq (rY u) (rY v)))) L):mj neg (cJ u) (cJ v) L Q:=by
 have I:∀w:Wd,aaq (cJ w)=true:=λw=>by cases w<;>rfl
 have:aaq (cJ u)=true/\aaq (cJ v)=true/\∃n m d e,n<=128/\ju L n (cJ u) d/\ju L m (cJ v) e/\Q (.bl (nb neg (Da.eq d e))) L:=
  ⟨I u,I v,u.depth,v.depth,rY u,rY v,J,iX (Al _),iX (Al _),q⟩
 cases u<;>cases v<;>exact this
def aj{neg:Bool}{a b:Addr}{zs:List Y}{es:List Da}{Q:YK}(I:n<128)(ea:L a=some (.lst ys))(eb:L b=some (.lst zs))(pa:Paired (ju L n) ys ds)(pb:Paired (ju L m) zs es)(q:Q (.bl (nb neg (Da.eqs ds es))) L):
 mj neg (.ref a) (.ref b) L Q:=⟨rfl,rfl,n+1,m+1,_,_,I,fZ ea pa,fZ eb pb,q⟩
def ow(K:Ae):ww:=(ajl K "heads" (qa 0) (nW (qa 1)))
def ig(K:Ae):ww:=(qr (zr (qa 1) (qg 2))
 (qr (i5 (qR (zj aR (vJ K "heads" (qa 0)) (qa 2)) (qa 2)) (qr (yF (vJ K "heads" (qa 0)) (qa 2) (zj aR (vJ K "heads" (qa 0)) (zj aR (vJ K "heads" (qa 0)) (qa 2))))
 (zr (zj aR (vJ K "heads" (qa 0)) (qa 2)) (qg 2))))
 (ji (qa 2))))
def mG(K:Ae)(I:Addr)(J:jx):ww:=(qr (zr (kF I "head_of" J (qa 0) (aI (qa 1))) (qg 3))
 (qr (zr (kF I "head_of" J (qa 0) (aI (qa 2))) (qg 4))
 (qr (yF (vJ K "heads" (qa 0)) (qa 3) (qa 4))
 (ji (zj (mj true) (qa 3) (qa 4))))))
structure XFP(K:Ae)(C:Addr):Prop where
 cl:Cls K C
 na:NoAttr K C "heads"
def nY(hs:List Nat):List Y:=hs.map λn:Nat=>.int (n:Int)
def mJ(hp:Addr):List (Str×Y):=[("heads",.ref hp)]
def cN :(mJ hp).lookup ("heads" : Str)=some (.ref hp):=by unfold mJ;rw[Bb,show((("heads" : Str)==("heads" : Str)))=true by decide +kernel]
def fN :(mJ hp).lookup ("head_of" : Str)=none:=by unfold mJ;rw[Bb,show((("head_of" : Str)==("heads" : Str)))=false by decide +kernel];rfl
def mI :(mJ hp).lookup ("unite" : Str)=none:=by unfold mJ;rw[Bb,show((("unite" : Str)==("heads" : Str)))=false by decide +kernel];rfl
def aif(n:Nat):aX 0 n=nY (List.range n):=by unfold aX nY;exact Cp λk _=>by rw[Eg]
def wb(hs:List Nat):(nY hs).length=hs.length:=by unfold nY;rw[Af]
def uB{h:Nat}(e:hs[i]?=some h):eG (nY hs) (i:Int)=some (.int (h:Int)):=vj (by unfold nY;rw[An,e];rfl)
def af8(hs:List Nat)(i g:Nat):(nY hs).set i (.int (g:Int))=nY (hs.set i g):=by unfold nY;rw[List.map_set]
def y4(h:j<n):ixN n (j:Int)=some j:=by unfold ixN;rw[Aw (by exact AY _),Aw (by omega)];rfl
def jo{a p:Addr}{o:LO}(h:qe L a o p=none):L p=none:=by
 by_cases c:p=a
 ·subst c;rw[q9] at h;cases h
 ·rw[qb c] at h;exact h
def cW{a:Addr}{o:LO}(h:L a=some o):qe L a o=L:=by
 funext b;unfold qe;split
 ·rename_i e;rw[e,h]
 ·rfl
def fe(rk:Nat->Nat)(hs:List Nat):Prop:=∀i h,hs[i]?=some h->h<hs.length/\(h≠i->rk h<rk i)
inductive wz(hs:List Nat):Nat->Nat->Prop
 |root {r:Nat}:hs[r]?=some r->wz hs r r
 |step {i h r:Nat}:hs[i]?=some h->h≠i->wz hs h r->wz hs i r
def wz.top{r:Nat}(h:wz hs i r):hs[r]?=some r:=by induction h with|root e=>exact e|step _ _ _ I=>exact I
def wz.uniq{r s:Nat}(h:wz hs i r)(k:wz hs i s):r=s:=by
 induction h generalizing s with
 |root e=>
  cases k with|root _=>rfl|step I ne _=>rw[e] at I;exact absurd (AW I).symm ne
 |step e ne t J=>
  cases k with|root I=>rw[e] at I;exact absurd (AW I) ne|step I _ U=>rw[e] at I;cases I;exact J U
def wz.of_top{r:Nat}(h:wz hs i r)(e:hs[i]?=some i):r=i:=h.uniq (.root e)
theorem fe.rep{rk:Nat->Nat}{hs:List Nat}(I:fe rk hs):∀(n i:Nat),rk i<n->i<hs.length->∃r,wz hs i r
 |0,_,h,_=>absurd h (BY _)
 |n+1,i,h,J=>by
  have e:hs[i]?=some hs[i]:=Aj J;by_cases c:hs[i]=i
  ·exact⟨i,.root (by rw[e,c])⟩
  ·obtain⟨U,g⟩:=I i _ e;obtain⟨r,t⟩:=fe.rep I n hs[i] (by have:=g c;omega) U;exact⟨r,.step e c t⟩
def fe.rep'(I:fe rk hs)(hi:i<hs.length):∃r,wz hs i r:=I.rep (rk i+1) i (Bg _) hi
def ze{l:List α}{x:α}(h:l[i]?=some x):i<l.length:=(AU.mp h).1
def wv{l:List α}{x:α}(h:i<l.length):(l.set i x)[i]?=some x:=by rw[List.getElem?_set];simp[h]
def kh{l:List α}{x:α}(h:i≠j):(l.set i x)[j]?=l[j]?:=by rw[List.getElem?_set,As h]
def fe.halve(I:fe rk hs){h g:Nat}(ei:hs[i]?=some h)(ne:h≠i)(J:hs[h]?=some g):fe rk (hs.set i g)/\rk g<rk i:=by
 have U:rk g<rk i:=by
  have l:=(I i h ei).2 ne;by_cases c:g=h
  ·rw[c];exact l
  ·have:=(I h g J).2 c;exact i0
 refine⟨λj x e=>?_,U⟩;rw[Bp];by_cases c:i=j
 ·subst c;rw[wv (ze ei)] at e;cases e;exact⟨(I h _ J).1,λ_=>U⟩
 ·rw[kh c] at e;exact I j x e
theorem jL{rk:Nat->Nat}{hs:List Nat}(l:fe rk hs){i h g:Nat}(ei:hs[i]?=some h)(ne:h≠i)(U:hs[h]?=some g):∀(n j r:Nat),rk j<n->wz hs j r->wz (hs.set i g) j r
 |0,_,_,h,_=>absurd h (BY _)
 |n+1,j,r,hn,t=>by
  have o:=jL l ei ne U n;have p:=(l.halve ei ne U).2;cases t with
  |root e=>
   have c:i≠j:=λc=>by subst c;rw[ei] at e;exact ne (AW e)
   exact .root (by rw[kh c];exact e)
  |step e I t=>
   rename_i C;have lt:=(l j C e).2 I;by_cases c:i=j
   ·subst c;rw[ei] at e;cases e;by_cases d:g=h
    ·subst d;exact .step (wv (ze ei)) I (o _ r (by lia) t)
    ·cases t with
     |root J=>rw[U] at J;exact absurd (AW J) d
     |step J T t2=>
      rw[U] at J;cases J;refine .step (wv (ze ei)) (λz=>?_) (o _ r (by lia) t2);rw[z] at p;exact Cz _ p
   ·exact .step (by rw[kh c];exact e) I (o _ r (by lia) t)
def dm(hs:List Nat):Nat:=(List.range hs.length).countP λi=>decide (hs[i]?=some i)
def aah(J:fe rk hs){h g:Nat}(ei:hs[i]?=some h)(ne:h≠i)(U:hs[h]?=some g):dm (hs.set i g)=dm hs:=by
 unfold dm;rw[Bp];refine CH λj l=>?_;have I:=(J.halve ei ne U).2;by_cases c:i=j
 ·subst c;rw[wv (ze ei),ei];have d:g≠i:=λz=>by rw[z] at I;exact Cz _ I
  simp[d,ne]
 ·rw[kh c]
theorem dQ{p:Nat->Bool}{a:Nat}(I:p a=true):∀{l:List Nat},l.Nodup->a∈l->l.countP (λj=>p j&&!decide (j=a))+1=l.countP p
 |[],_,h=>by cases h
 |x::r,J,h=>by
  obtain⟨U,g⟩:=AA.mp J;rw[CQ,CQ];by_cases c:x=a
  ·subst c;have e:r.countP (λj=>p j&&!decide (j=x))=r.countP p:=by refine CH λj o=>?_;have:j≠x:=λz=>U (z▸o);simp[this]
   rw[e];simp[I]
  ·have t:a∈r:=by
    rcases Ax.mp h with z|z
    ·exact absurd z.symm c
    ·exact z
   have C:=dQ I g t;simp only[Aq c,Bool.not_false,DP];lia
def fe.join(I:fe rk hs){a b:Nat}(ea:hs[a]?=some a)(eb:hs[b]?=some b):∃J,fe J (hs.set a b):=by
 by_cases c:a=b
 ·subst c;refine⟨rk,λi h e=>?_⟩;rw[Bp];by_cases d:a=i
  ·subst d;rw[wv (ze ea)] at e;cases e;exact I _ _ ea
  ·rw[kh d] at e;exact I i h e
 ·refine⟨λx=>if x=b then 0 else rk x+1,λi h e=>?_⟩;rw[Bp];by_cases d:a=i
  ·subst d;rw[wv (ze ea)] at e;cases e;refine⟨ze eb,λ_=>?_⟩;show(if b=b then 0 else rk b+1)<if a=b then 0 else rk a+1
   rw[Aw rfl,As c];exact CN _
  ·rw[kh d] at e;refine⟨(I i h e).1,λne=>?_⟩;have nb:i≠b:=λz=>by subst z;rw[eb] at e;exact ne (AW e).symm
   show(if h=b then 0 else rk h+1)<if i=b then 0 else rk i+1
   rw[As nb];have:=(I i h e).2 ne;split<;>lia
def ae9{a b:Nat}(ea:hs[a]?=some a)(eb:hs[b]?=some b){r:Nat}(t:wz hs i r):wz (hs.set a b) i (if r=a then b else r):=by
 induction t with
 |root e=>
  rename_i r;by_cases c:r=a
  ·subst c;rw[Aw rfl];by_cases d:r=b
   ·subst d;exact .root (wv (ze ea))
   ·exact .step (wv (ze ea)) (λz=>d z.symm) (.root (by rw[kh d];exact eb))
  ·rw[As c];exact .root (by rw[kh (λz=>c z.symm)];exact e)
 |step e ne t I=>
  rename_i i h r;have c:a≠i:=λz=>by subst z;rw[ea] at e;exact ne (AW e).symm
  exact .step (by rw[kh c];exact e) ne I
def ac1{a b:Nat}(ea:hs[a]?=some a)(eb:hs[b]?=some b)(ne:a≠b):dm (hs.set a b)+1=dm hs:=by
 unfold dm;rw[Bp];have e:=dQ (p:=λi=>decide (hs[i]?=some i)) (a:=a) (Ao ea) (l:=List.range hs.length) BS (AS.mpr (ze ea));rw[<-e];congr 1;refine CH λj I=>?_;by_cases c:a=j
 ·subst c;rw[wv (ze ea)];simp[AH ne]
 ·rw[kh c];simp[AH c]
def mY(C:Addr):jx:=λys L Q=>∃o,∃n:Nat,∃I:Int,ys=[.ref o,.int I]/\I=(n:Int)/\L o=some (.ins C [])/\n<=1000/\∀hp,L hp=none->Q .non (qe (qe L hp (.lst (nY (List.range n)))) o (.ins C (mJ hp)))
def ae7{K:Ae}(xf:XFP K C):∀ys L Q,mY C ys L Q->xr (ow K) 2 ys L Q:=by rintro ys L Q ⟨o,n,g,rfl,rfl,J,j,q⟩;refine⟨⟨by exact AY _,by lia⟩,λU I=>?_⟩;refine wx ((qb (xn J I)).trans J) ⟨xf.cl,xf.na,by decide,?_⟩;rw[show((n:Nat):Int).toNat=n from rfl,aif];exact k6 (q U I)
def ld(C:Addr):jx:=λys L Q=>∃o hp,∃hs:List Nat,∃p:Nat,∃pi:Int,∃rk,ys=[.ref o,.int pi]/\pi=(p:Int)/\L o=some (.ins C (mJ hp))/\L hp=some (.lst (nY hs))/\fe rk hs/\p<hs.length/\
 ∀(r:Nat) hE,hE.length=hs.length->fe rk hE->wz hs p r->(∀i s,wz hs i s->wz hE i s)->dm hE=dm hs->Q (.int (r:Int)) (qe L hp (.lst (nY hE)))
def ail{K:Ae}(xf:XFP K C):∀ys L Q,ld C ys L Q->xr (ig K) 3 ys L Q:=by
 rintro ys L Q ⟨o,hp,hs,p,pi,rk,rfl,rfl,ho,a0,hr,a1,q⟩;obtain⟨r0,t0⟩:=hr.rep' a1;have a3:o≠hp:=aex ho a0 (λe=>by cases e);refine⟨λm τ L'=>∃(J:List Nat) (I:Nat),τ=[some (.ref o),some (.int (p:Int)),some (.int (I:Int))]/\L'=qe L hp (.lst (nY J))/\J.length=hs.length/\fe rk J/\I<hs.length/\wz J I r0/\(∀i s,wz hs i s->wz J i s)/\dm J=dm hs/\m=rk I,⟨_,hs,p,rfl,(cW a0).symm,rfl,hr,a1,t0,λ_ _ h=>h,rfl,rfl⟩,?_⟩;rintro m τ L' ⟨J,I,rfl,rfl,hl,U,hh,t,l,a2,rfl⟩;have j:∀z,(qe L hp (.lst z)) o=some (.ins C (mJ hp)):=λz=>(qb a3).trans ho;obtain⟨h,r⟩:∃h,J[I]?=some h:=⟨_,Aj (by lia)⟩;refine wx (j _) ⟨xf.cl,xf.na,ql cN (qd q9 (ql (uB r) ?_))⟩;by_cases c:h=I
 ·subst c;refine aF (by show(!decide (((h:Nat):Int)=(h:Int)))=false;rw[Ao rfl];rfl) ?_;have e:=t.of_top r;subst e;exact k6 (q _ J hl U t0 l a2)
 ·refine ap (by show(!decide (((h:Nat):Int)=(I:Int)))=true;rw[Aq (by lia)];rfl) ?_;refine⟨_,λ_ _ h=>h,?_⟩;obtain⟨g,T⟩:∃g,J[h]?=some g:=⟨_,Aj (U I h r).1⟩;refine wx (j _) ⟨xf.cl,xf.na,ql cN (wx (j _) ⟨xf.cl,xf.na,ql cN (qd q9 (ql (uB r) (qd q9 (ql (uB T) ?_))))⟩)⟩;refine wx (j _) ⟨xf.cl,xf.na,ql cN (qo q9 (ql (v:=I) ?_ ?_))⟩
  ·exact y4 (by rw[wb];lia)
  rw[jz,af8];have es:(J.set I g)[I]?=some g:=wv (by lia);refine wx (j _) ⟨xf.cl,xf.na,ql cN (qd q9 (ql (uB es) ?_))⟩;obtain⟨a4,a5⟩:=U.halve r c T;refine⟨_,EC _,rk g,a5,J.set I g,g,rfl,rfl,by rw[Bp];exact hl,a4,?_,?_,λi s z=>jL U r c T (rk i+1) i s (Bg _) (l i s z),by rw[aah U r c T];exact a2,rfl⟩
  ·rw[<-hl];exact(U h g T).1
  ·have t2:=jL U r c T (rk I+1) I r0 (Bg _) t;cases t2 with|root e2=>rw[es] at e2;cases e2;exact .root es|step e2 ab t3=>rw[es] at e2;cases e2;exact t3
def iK(C:Addr):jx:=λys L Q=>∃o hp,∃hs:List Nat,∃p q a b:Nat,∃pi I:Int,ys=[.ref o,.int pi,.int I]/\pi=(p:Int)/\I=(q:Int)/\L o=some (.ins C (mJ hp))/\L hp=some (.lst (nY hs))/\(∃rk,fe rk hs)/\wz hs p a/\wz hs q b/\p<hs.length/\q<hs.length/\
 ∀hE,hE.length=hs.length->(∃rk,fe rk hE)->(∀i s,wz hs i s->wz hE i (if s=a then b else s))->(a=b->dm hE=dm hs)->(a≠b->dm hE+1=dm hs)->Q (.bl (!decide (a=b))) (qe L hp (.lst (nY hE)))
def acb{K:Ae}(xf:XFP K C):∀ys L Q,iK C ys L Q->xr (mG K C (ld C)) 5 ys L Q:=by
 rintro ys L Q ⟨o,U,hs,p,q,a,b,pi,qi,rfl,rfl,rfl,l,g,⟨rk,hr⟩,ta,tb,t,a3,k⟩;have T:o≠U:=aex l g (λe=>by cases e);have J:∀z,(qe L U (.lst z)) o=some (.ins C (mJ U)):=λz=>(qb T).trans l;refine wx l ⟨rfl,fN,o,U,hs,p,_,rk,rfl,rfl,l,g,hr,t,λr1 a0 l1 k1 t1 r n1=>?_⟩;cases t1.uniq ta;refine wx (J _) ⟨rfl,fN,o,U,a0,q,_,rk,rfl,rfl,J _,q9,k1,by lia,λr2 I l2 k2 t2 a2 n2=>?_⟩;cases t2.uniq (r _ _ tb);rw[jz];have ea:I[a]?=some a:=(a2 _ _ (r _ _ ta)).top;have eb:I[b]?=some b:=(a2 _ _ (r _ _ tb)).top;refine wx (J _) ⟨xf.cl,xf.na,ql cN (qo q9 (ql (v:=a) (y4 (by rw[wb];exact ze ea)) ?_))⟩;rw[jz,af8];have e0:(decide ((a:Int)=(b:Int)))=decide (a=b):=by
  by_cases c:a=b
  ·rw[Ao c];exact Ao (by lia)
  ·rw[Aq c];exact Aq (by lia)
 show gc Q (.bl (!decide ((a:Int)=(b:Int)))) _;rw[e0];refine k6 (k (I.set a b) (by rw[Bp];lia) (k2.join ea eb) (λi s z=>ae9 ea eb (a2 _ _ (r _ _ z))) (λe=>?_) (λne=>?_))
 ·subst e;have:I.set a a=I:=by
   apply DK;intro j;by_cases c:a=j
   ·subst c;rw[wv (ze ea),ea]
   ·rw[kh c]
  rw[this,n2,n1]
 ·have:=ac1 ea eb ne;lia
def qS:ww:=(ji (fz (aQ .int (qa 0)) (aj8 (aQ .bool (qa 0)))))
def oQ:jx:=λys L Q=>∃i,ys=[.int i]/\Q (.bl true) L
def aec:∀ys L Q,oQ ys L Q->xr qS 1 ys L Q:=by rintro ys L Q ⟨i,rfl,q⟩;exact k6 q
def oF:ww:=(qr (xc (yB (zj yLt (qa 1) (bQ 0))) (ji (zj aR (qa 0) (qa 1))) jm)
 (ji (jk 0)))
def vR:ww:=(ji (zj bO (zj aG (zj aat (zj kz (zj kz (zj aat (zj aG (qa 0) (jk 1000003)) (jk 7)) (zj aat (qa 1) (qa 1))) (jk 1)) (qa 2)) (jk 2147483647)) (jk 16)))
def oo(I:jx):ww:=(qr (xc (cU (bQ 0) (jk 2)) (ji (jk 1)) jm)
 (ji (zj kz (zj kz (jk 1) (zd I (aI (x9 0 1)))) (zd I (aI (x9 0 2))))))
def u8(I:jx):ww:=(qr (xc (u5 (yB (aQ .bool (qa 0))) (yB (aQ .bool (qa 1)))) (ji (fz (aQ .bool (qa 0)) (fz (aQ .bool (qa 1)) (zj (mj false) (qa 0) (qa 1))))) jm)
 (qr (xc (yB (uI .list .tuple (qa 1))) (qr (xc (u5 (qR (aQ .list (qa 0)) (aQ .list (qa 1))) (qR (aQ .tuple (qa 0)) (aQ .tuple (qa 1)))) (ji (yC (.bl false))) jm)
 (qr (xc (qR (bQ 0) (bQ 1)) (ji (yC (.bl false))) jm)
 (qr (dP (aja (aB (qa 0) (qa 1))) (aD 2 (zn (qg 2) (zn (qg 3) wf))) (xc (tZ (yB (zd I (aB (qa 2) (qa 3))))) (ji (yC (.bl false))) jm))
 (ji (yC (.bl true)))))) jm)
 (qr (xc (yB (aQ .int (qa 1))) (ji (fz (aQ .int (qa 0)) (zj (mj false) (qa 0) (qa 1)))) jm)
 (qr (xc (yB (aQ .str (qa 1))) (ji (fz (aQ .str (qa 0)) (zj (mj false) (qa 0) (qa 1)))) jm)
 (ji (cR false (qa 0)))))))
def uU(I:jx):ww:=(qr (zr (zj aR (qa 0) (qa 1)) (qg 2))
 (qr (xc (cU (bQ 2) (jk 2)) (ji (qa 2)) jm)
 (ji (ko (qf (x9 2 0) (qf (zd I (aB (qa 0) (x9 2 1))) (qf (zd I (aB (qa 0) (x9 2 2))) qx)))))))
def gZ:jx:=λys L Q=>∃I:List Int,∃k:Int,ys=[.sq (I.map Y.int),.int k]/\0<=k/\∀v,Q (.int v) L
def vU:∀ys L Q,gZ ys L Q->xr oF 2 ys L Q:=by rintro ys L Q ⟨I,k,rfl,U,q⟩;refine zo (λc=>?_) λc=>k6 (q 0);have J:k<((I.map Y.int).length:Int):=c;rw[Af] at J;obtain⟨j,rfl⟩:∃j:Nat,k=(j:Int):=⟨k.toNat,by lia⟩;have e:eG (I.map Y.int) (j:Int)=some (Y.int (I[j]'(by omega))):=wn (Aj _);walk_at "w";rw[e];exact k6 (q _)
def eY:jx:=λys L Q=>∃c k f:Int,ys=[.int c,.int k,.int f]/\0<=k/\k<1000000/\0<f/\f<1000000/\∀v,0<=v->v<134217728->Q (.int v) L
def alf:∀ys L Q,eY ys L Q->xr vR 3 ys L Q:=by
 rintro ys L Q ⟨c,k,f,rfl,I,J,U,g,q⟩;refine⟨(by decide:(0:Int)<1000003),.inr ⟨by decide,by decide⟩,.inl ⟨by lia,by lia⟩,.inr ⟨by lia,by lia⟩,(by decide:(0:Int)<2147483647),⟨by decide,by decide⟩,k6 (q _ ?_ ?_)⟩
 all_goals
  generalize ((c % 1000003*7+k*k+1)*f)=z;lia
def aca(cs:List Nat):(Txt.join "" (cs.map λc=>(⟨#[c]⟩:Str))).cps.toList=cs:=by
 rw[r6]
 induction cs with|nil=>rfl|cons c r I=>rw[AG,A1,I];rfl
def cQ(n:Nat):jx:=λys L Q=>∃wd,ys=[cJ wd]/\wd.depth<=n/\Q (.int wd.size) L
def oV:∀ys L Q,¬cQ 0 ys L Q:=λys L Q ⟨I,_,hd,_⟩=>by cases I<;>simp[Wd.depth] at hd
def zM(n:Nat):∀ys L Q,cQ (n+1) ys L Q->xr (oo (cQ n)) 1 ys L Q:=by
 rintro ys L Q ⟨I,rfl,hd,q⟩;cases I with
 |leaf t n=>exact k6 q
 |node e l r=>
  have J:max l.depth r.depth+1<=n+1:=hd;refine⟨l,rfl,by lia,r,rfl,by lia,k6 ?_⟩;have e:(1+(l.size:Int)+(r.size:Int))=(((Wd.node e l r).size:Nat):Int):=by show _=((1+l.size+r.size:Nat):Int);rfl
  rw[e];exact q
def dh(L:qm):Nat->Y->Y->Prop
 |0,_,_=>False
 |n+1,x,y=>(gF x=true/\y=x)\/(∃xs ys,x=.tup xs/\y=.tup ys/\Paired (dh L n) xs ys)\/(∃a b xs ys,x=.ref a/\y=.ref b/\L a=some (.lst xs)/\L b=some (.lst ys)/\Paired (dh L n) xs ys)
def dh.flat{x:Y}(h:gF x=true):dh L (n+1) x x:=.inl ⟨h,rfl⟩
def dc(n:Nat):jx:=λys L Q=>∃x y,ys=[x,y]/\dh L n x y/\Q (.bl true) L
def sK:∀ys L Q,¬dc 0 ys L Q:=λys L Q ⟨x,y,_,h,_⟩=>h
def yb{xs:List Y}{keep:qm->Prop}{tb:ww}(W:Nat->jy->qm->Prop)(J:W 0 τ L)(U:∀i τ L',W i τ L'->keep L')
 (hs:∀i x y τ L,xs[i]?=some x->ys[i]?=some y->W i τ L->g (.tup [x,y]) τ L λI L2=>tb { D with nx:=dz (W (i+1)),ct:=dz (W (i+1)),bk:=D.nx } I L2) (hd:∀τ L,W (min xs.length ys.length) τ L->D.nx τ L):
 uV (wQ xs ys) keep g tb D τ L:=wm ⟨W,J,U,λi y τ L e w=>by obtain⟨a,b,ea,eb,rfl⟩:=y9 e;exact hs i a b τ L ea eb w,λτ L w=>hd τ L (by rw[oB] at w;exact w)⟩
def ag9(n:Nat):∀ys L Q,dc (n+1) ys L Q->xr (u8 (dc n)) 4 ys L Q:=by
 rintro ys L Q ⟨x,y,rfl,h,q⟩;rcases h with⟨f,rfl⟩|⟨j,ys,rfl,rfl,p⟩|⟨a,b,j,ys,rfl,rfl,g,U,p⟩
 ·cases y with
  |non=>exact k6 q
  |bl b=>
   refine k6 ?_;show Q (.bl (nb false (decide (b=b)))) L;rw[Ao rfl];exact q
  |int i=>
   refine k6 ?_;show Q (.bl (nb false (decide (i=i)))) L;rw[Ao rfl];exact q
  |str i=>
   refine k6 ?_;show Q (.bl (nb false (decide (i=i)))) L;rw[Ao rfl];exact q
  |_=>cases f
 ·have l:=p.length;walk_at "w";refine aF (b:=nb true (decide ((j.length:Int)=ys.length))) (by rw[l,Ao rfl];rfl) ?_;refine yb (λi I J=>J=L/\∃c d,I=[some (.tup j),some (.tup ys),c,d]) ⟨rfl,_,_,rfl⟩ (λi I J w=>⟨trivial,trivial⟩) ?_ ?_
  ·rintro i u v I J o ev ⟨rfl,c,d,rfl⟩;exact⟨u,v,rfl,EI p o ev,_,EC _,rfl,_,_,rfl⟩
  ·rintro I J ⟨rfl,c,d,rfl⟩;exact k6 q
 ·have l:=p.length;refine cD g (cD U ?_);walk_at "w";refine cD U ?_;walk_at "w";refine cD g (cD U ?_);walk_at "w";refine cD g (cD U ?_);walk_at "w";refine qd g (qd U (aF (by rw[l,Ao rfl];rfl) ?_));walk_at "w";refine qo g (qo U ?_);refine yb (λi I J=>J=L/\∃c d,I=[some (.ref a),some (.ref b),c,d]) ⟨rfl,_,_,rfl⟩ (λi I J ⟨e,_⟩=>by subst e;exact⟨rfl,rfl⟩) ?_ ?_
  ·rintro i u v I J o ev ⟨rfl,c,d,rfl⟩;exact⟨u,v,rfl,EI p o ev,_,EC _,rfl,_,_,rfl⟩
  ·rintro I J ⟨rfl,c,d,rfl⟩;exact k6 q
def KW(ks:List Y):Nat->Wd->Prop
 |p,.leaf t n=>ks[p]?=some (.tup [.str (kL t),.str n])
 |p,.node e l r=>∃i j:Nat,ks[p]?=some (.tup [.str (kN e),.int i,.int j])/\KW ks i l/\KW ks j r
theorem KW.more{ks:List Y}(ms:List Y):∀{wd:Wd} {p:Nat},KW ks p wd->KW (ks++ms) p wd
 |.leaf _ _,p,h=>by have I:ks[p]?=some _:=h;show(ks++ms)[p]?=some _;rw[AB (AU.mp I).1];exact I
 |.node _ _ _,p,⟨i,j,h,a,b⟩=>⟨i,j,by rw[AB (AU.mp h).1];exact h,KW.more ms a,KW.more ms b⟩
def a6(n:Nat):jx:=λys L Q=>∃k ks p wd,ys=[.ref k,.int ((p:Nat):Int)]/\L k=some (.lst ks)/\KW ks p wd/\wd.depth<=n/\Q (cJ wd) L
def vY:∀ys L Q,¬a6 0 ys L Q:=λys L Q ⟨k,J,p,I,_,_,_,hd,_⟩=>by cases I<;>simp[Wd.depth] at hd
def rF:∀ys L Q,¬a6 0 ys L Q:=vY
def tD(n:Nat):∀ys L Q,a6 (n+1) ys L Q->xr (uU (a6 n)) 3 ys L Q:=by
 rintro ys L Q ⟨k,J,p,U,rfl,I,h,hd,q⟩;cases U with
 |leaf t nm=>exact qd I (ql (vj h) (k6 q))
 |node e l r=>
  obtain⟨i,j,h,g,o⟩:=h;have C:max l.depth r.depth+1<=n+1:=hd;exact qd I (ql (vj h) ⟨k,J,i,l,rfl,I,g,by lia,k,J,j,r,rfl,I,o,by lia,k6 q⟩)
def mkS(l:List Nat):Str:=⟨l.toArray⟩
def ye(x:Str):mkS x.cps.toList=x:=by cases x;rfl
def ahw(I:jx):ww:=(qr (zr (aji [("plain","turned"),("turned","plain"),("both","either"),("either","both")]) (qg 1))
 (qr (xc (cU (bQ 0) (jk 2)) (ji (ko (qf (zj aR (qa 1) (x9 0 0)) (aI (x9 0 1))))) jm)
 (ji (ko (qf (zj aR (qa 1) (x9 0 0)) (qf (zd I (aI (x9 0 1))) (qf (zd I (aI (x9 0 2))) qx)))))))
def ade(I:jx)(p1:jx):ww:=(qr (xc (cU (bQ 1) (jk 2)) (qr (jw (am j5 (qa 0) (qf (zd I (aI (qa 1))) qx)))
 (qr (jw (am j5 (qa 0) (aI (qa 1))))
 (ji (kc (qf (ko (qf (dS "link") (qf (zj gr (bQ 0) (jk 2)) (qf (zj gr (bQ 0) (jk 1)) qx)))) (qf (zj gr (bQ 0) (jk 2)) (qf (zj gr (bQ 0) (jk 1)) qx))))))) jm)
 (qr (zr (zd p1 (aB (qa 0) (x9 1 1))) (qg 2))
 (qr (zr (zd p1 (aB (qa 0) (x9 1 2))) (qg 3))
 (qr (jw (am j5 (qa 0) (qf (ko (qf (zj aR (zd I (aI (qa 1))) (jk 0)) (aB (x9 2 1) (x9 3 1)))) qx)))
 (qr (jw (am j5 (qa 0) (qf (ko (qf (x9 1 0) (aB (x9 2 2) (x9 3 2)))) qx)))
 (qr (aej 4 5 (qf (zj gr (bQ 0) (jk 2)) (qf (zj gr (bQ 0) (jk 1)) qx)))
 (qr (zr (yIf (cU (x9 1 0) (dS "either")) (qa 4) (qa 5)) (qg 6))
 (qr (zr (yIf (cU (x9 1 0) (dS "either")) (qa 5) (qa 4)) (qg 7))
 (ji (kc (qf (ko (qf (dS "either") (qf (qa 7) (qf (ko (qf (dS "both") (qf (qa 6) (aB (x9 2 0) (x9 3 0))))) qx)))) (aB (qa 4) (qa 5)))))))))))))
inductive Kn where
 |lf (t:Bool) (n:Str)|nd (e:Bool) (i j:Nat)
def rK:Kn->Y
 |.lf t n=>.tup [.str (kL t),.str n]
 |.nd e i j=>.tup [.str (kN e),.int ((i:Nat):Int),.int ((j:Nat):Int)]
inductive Ru where
 |link (p q:Nat)|ei (r:Nat) (A:Ru)|bo (r:Nat) (A B:Ru)|cu (p q:Nat) (A B:Ru)
def zh:Ru->Y
 |.link p q=>.tup [.str "link",.int ((p:Nat):Int),.int ((q:Nat):Int)]
 |.ei r A=>.tup [.str "either",.int ((r:Nat):Int),zh A]
 |.bo r A B=>.tup [.str "both",.int ((r:Nat):Int),zh A,zh B]
 |.cu p q A B=>.tup [.str "cut",.int ((p:Nat):Int),.int ((q:Nat):Int),zh A,zh B]
def j6:Ru->List Nat
 |.link p q=>[p,q]
 |.ei r A=>r::j6 A
 |.bo r A B=>r::(j6 A++j6 B)
 |.cu _ _ A B=>j6 A++j6 B
abbrev jf(ks:List Kn):List Y:=ks.map rK
def dU(ks:List Kn)(p:Nat)(w:Wd):Prop:=KW (jf ks) p w
theorem dU.more{ks:List Kn}{w:Wd}(h:dU ks p w)(ms:List Kn):dU (ks++ms) p w:=by unfold dU jf;rw[AD];exact KW.more _ h
def aq(ks:List Kn):Prop:=∀(p:Nat) (k:Kn),ks[p]?=some k->match k with
 |.lf _ n=>fE n
 |.nd _ i j=>i<p/\j<p
def aq.snoc{ks:List Kn}{k:Kn}(h:aq ks)(I:match k with|.lf _ n=>fE n|.nd _ i j=>i<ks.length/\j<ks.length):aq (ks++[k]):=by
 intro p J e;by_cases c:p<ks.length
 ·rw[AB c] at e;exact h p J e
 ·rw[Am (by exact wZ)] at e;have c2:p=ks.length:=by
   by_cases c3:p-ks.length=0
   ·omega
   ·rw[CA (by simp;exact acw)] at e;cases e
  subst c2;rw[Cy] at e;cases e;exact I
def dg(l:List α)(x:α)(r:List α):(l++x::r)[l.length]?=some x:=by rw[Am (Al _),Cy];rfl
def jE{l r:List α}{x:α}(h:l[p]?=some x):(l++r)[p]?=some x:=by rw[AB (AU.mp h).1];exact h
inductive SR(ks:List Kn):Ru->List Nat->Prop
 |link {p q:Nat} {t:Bool} {n:Str} {E:List Nat}:p<q->ks[p]?=some (.lf t n)->ks[q]?=some (.lf (!t) n)->(∀x,x∈E↔x=p\/x=q)->E.Nodup->SR ks (.link p q) E
 |ei {r i j:Nat} {A:Ru} {EA E:List Nat}:ks[r]?=some (.nd true i j)->SR ks A EA->i∈EA->j∈EA->i≠j->(∀x,x∈E↔(x∈EA/\x≠i/\x≠j)\/x=r)->E.Nodup->SR ks (.ei r A) E
 |bo {r i j:Nat} {A B:Ru} {EA EB E:List Nat}:ks[r]?=some (.nd false i j)->SR ks A EA->SR ks B EB->i∈EA->j∈EB->(∀x,x∈E↔(x∈EA/\x≠i)\/(x∈EB/\x≠j)\/x=r)->E.Nodup->SR ks (.bo r A B) E
 |cu {p q:Nat} {A B:Ru} {EA EB E:List Nat} {w:Wd}:SR ks A EA->SR ks B EB->p∈EA->q∈EB->dU ks p w->dU ks q w.turn->(∀x,x∈E↔(x∈EA/\x≠p)\/(x∈EB/\x≠q))->E.Nodup->SR ks (.cu p q A B) E
theorem SR.more{ks:List Kn}{R:Ru}{E:List Nat}(h:SR ks R E)(ms:List Kn):SR (ks++ms) R E:=by induction h with|link j r l I J=>exact .link j (jE r) (jE l) I J|ei j _ l I J o p t=>exact .ei (jE j) t l I J o p|bo j _ _ I J o p U g=>exact .bo (jE j) U g I J o p|cu _ _ l I J o p C U g=>exact .cu U g l I (J.more ms) (o.more ms) p C
def SR.sub{ks:List Kn}{R:Ru}{E:List Nat}(h:SR ks R E):∀x∈E,x∈j6 R:=by
 induction h with
 |link _ _ _ j _=>intro x I;rcases (j x).mp I with rfl|rfl<;>simp[j6]
 |ei _ _ _ _ _ g _ l=>intro x I;rcases (g x).mp I with⟨h,_⟩|rfl;exact Ah _ (l x h);exact Av ..
 |bo _ _ _ _ _ g _ J U=>
  intro x I;rcases (g x).mp I with⟨h,_⟩|⟨h,_⟩|rfl
  ·exact Ah _ (Au _ (J x h))
  ·exact Ah _ (Ag _ (U x h))
  ·exact Av ..
 |cu _ _ _ _ _ _ o _ J U=>
  intro x I;rcases (o x).mp I with⟨h,_⟩|⟨h,_⟩
  ·exact Au _ (J x h)
  ·exact Ag _ (U x h)
def cV(n:Nat):jx:=λys L Q=>∃wd,ys=[cJ wd]/\wd.depth<=n/\Q (cJ wd.turn) L
def ado:∀ys L Q,¬cV 0 ys L Q:=λys L Q ⟨I,_,hd,_⟩=>by cases I<;>simp[Wd.depth] at hd
def wN(t:Bool):aE ([(("plain" : Str),("turned" : Str)),("turned","plain"),("both","either"),("either","both")].map λp=>((Sum.inr p.1:jp),Y.str p.2)) (Sum.inr (kL t))=some (.str (kL (!t))):=jU (zZ t)
def wG(t:Bool):aE ([(("plain" : Str),("turned" : Str)),("turned","plain"),("both","either"),("either","both")].map λp=>((Sum.inr p.1:jp),Y.str p.2)) (Sum.inr (kN t))=some (.str (kN (!t))):=jU (yz t)
def acv(n:Nat):∀ys L Q,cV (n+1) ys L Q->xr (ahw (cV n)) 2 ys L Q:=by
 rintro ys L Q ⟨J,rfl,hd,q⟩;intro p I;cases J with
 |leaf t nm=>
  refine zu q9 (ql (wN t) ?_);exact bW (By I) q
 |node e l r=>
  have U:max l.depth r.depth+1<=n+1:=hd;refine zu q9 (ql (wG e) ?_);refine⟨l,rfl,by lia,r,rfl,by lia,?_⟩;exact bW (By I) q
structure Mir(ks:List Kn)(w:Wd)(ms:List Kn)(R:Ru)(tp sp:Nat):Prop where
 len:ms.length=2*w.size
 sr:SR (ks++ms) R [tp,sp]
 wt:dU (ks++ms) tp w.turn
 ws:dU (ks++ms) sp w
 tm:∀x,x∈j6 R↔ks.length<=x/\x<ks.length+ms.length
 nd:(j6 R).Nodup
 ok:aq (ks++ms)
def dU.leaf{ks:List Kn}{n:Str}(h:ks[p]?=some (.lf t n)):dU ks p (.leaf t n):=by show(jf ks)[p]?=_;rw[An,h];rfl
def dU.node{ks:List Kn}{e:Bool}{l r:Wd}(h:ks[p]?=some (.nd e i j))(I:dU ks i l)(J:dU ks j r):dU ks p (.node e l r):=by refine⟨i,j,?_,I,J⟩;rw[An,h];rfl
abbrev ET:=@dU.node
def uK{ks:List Kn}(g:aq ks){n:Str}(I:fE n):Mir ks (.leaf t n) [.lf (!t) n,.lf t n] (.link ks.length (ks.length+1)) ks.length (ks.length+1):=by
 have J:(ks++[Kn.lf (!t) n,.lf t n])[ks.length]?=some (.lf (!t) n):=dg _ _ _;have U:(ks++[Kn.lf (!t) n,.lf t n])[ks.length+1]?=some (.lf t n):=by have:=dg (ks++[Kn.lf (!t) n]) (Kn.lf t n) [];rw[Ac,AE] at this;exact this
 refine⟨rfl,.link (t:=!t) (n:=n) (by exact Bg _) J (by rw[Bool.not_not];exact U) (by simp) (by simp),dU.leaf J,dU.leaf U,λx=>?_,by simp[j6],?_⟩
 ·show x∈[ks.length,ks.length+1]↔ks.length<=x/\x<ks.length+2;simp;lia
 ·have:=(g.snoc (k:=.lf (!t) n) I).snoc (k:=.lf t n) I;rw[AE] at this;exact this
def SR.nod{ks:List Kn}{R:Ru}{E:List Nat}(h:SR ks R E):E.Nodup:=by cases h<;>assumption
def arv{x h lo a r N:Nat}(I:(h=N/\lo=N+1)\/(h=N+1/\lo=N))(hN:N=a+m+r):x=h\/x=lo\/(a<=x/\x<a+m)\/a+m<=x/\x<a+m+r↔a<=x/\x<N+2:=by subst hN;rcases I with⟨rfl,rfl⟩|⟨rfl,rfl⟩<;>lia
def at5{x a b c N:Nat}(h:a≠b)(k:c≠d):x∈[b,d,N]↔(x∈[a,b]/\x≠a)\/(x∈[c,d]/\x≠c)\/x=N:=by simp only[Ax,A9,or_false];lia
def aqp{x a b c N:Nat}(h:a≠b)(k:c≠d):x∈[a,c,N]↔(x∈[a,b]/\x≠b)\/(x∈[c,d]/\x≠d)\/x=N:=by simp only[Ax,A9,or_false];lia
def arm{x a b N M:Nat}(h:a<N)(k:b<N):x∈[N,M]↔(x∈[a,b,N]/\x≠a/\x≠b)\/x=M:=by simp only[Ax,A9,or_false];lia
def ata{x a b N M:Nat}(h:a<N)(k:b<N):x∈[M,N]↔(x∈[a,b,N]/\x≠a/\x≠b)\/x=M:=by simp only[Ax,A9,or_false];lia
def ape{a b N:Nat}(h:a<N)(k:b<N)(d:a≠b):[a,b,N].Nodup:=by rw[AA,AA];simp;lia
def asv{a r N t s u v:Nat}(I:a<=t/\t<a+m)(J:a<=s/\s<a+m)(b1:a+m<=u/\u<a+m+r)(b2:a+m<=v/\v<a+m+r)(hN:N=a+m+r):t<N/\s<N/\u<N/\v<N/\t≠u/\s≠v:=by lia
def anl{h lo a r N:Nat}(I:(h=N/\lo=N+1)\/(h=N+1/\lo=N))(hN:N=a+m+r):¬(h=lo\/(a<=h/\h<a+m)\/a+m<=h/\h<a+m+r)/\¬((a<=lo/\lo<a+m)\/a+m<=lo/\lo<a+m+r):=by lia
def ar7{x y a r:Nat}(h1:a<=x/\x<a+m)(h2:a+m<=y/\y<a+m+r)(e:x=y):False:=by lia
def ae2{ks I g:List Kn}{e:Bool}{l r:Wd}{A B:Ru}{tl J tr U:Nat}(p:Mir ks l I A tl J)(o:Mir (ks++I) r g B tr U){N:Nat}(hN:N=ks.length+(I++g).length):
 Mir ks (.node e l r) (I++g++[.nd (!e) tl tr,.nd e J U]) (.ei (if e=true then N+1 else N) (.bo (if e=true then N else N+1) A B)) N (N+1):=by
 have hA:∀x∈[tl,J],ks.length<=x/\x<ks.length+I.length:=λx T=>(p.tm x).mp (p.sr.sub x T);have hB:∀x∈[tr,U],ks.length+I.length<=x/\x<ks.length+I.length+g.length:=λx T=>by have:=(o.tm x).mp (o.sr.sub x T);rw[Ac] at this;exact this
 have a1:=hA tl (by simp);have a2:=hA J (by simp);have b1:=hB tr (by simp);have b2:=hB U (by simp);have nA:tl≠J:=by have:=p.sr.nod;simpa using this
 have nB:tr≠U:=by have:=o.sr.nod;simpa using this
 have t:N=ks.length+I.length+g.length:=by rw[hN,Ac];simp +arith only
 obtain⟨d1,d2,d3,d4,d5,d6⟩:=asv a1 a2 b1 b2 t;generalize j:ks++(I++g++[Kn.nd (!e) tl tr,.nd e J U])=K;have k1:K=(ks++I)++(g++[Kn.nd (!e) tl tr,.nd e J U]):=by rw[<-j];simp
 have k2:K=((ks++I)++g)++[Kn.nd (!e) tl tr,.nd e J U]:=by rw[<-j];simp
 have k3:K=(((ks++I)++g)++[Kn.nd (!e) tl tr])++[.nd e J U]:=by rw[<-j];simp
 have l2:((ks++I)++g).length=N:=by rw[Ac,Ac];lia
 have g1:K[N]?=some (.nd (!e) tl tr):=by rw[k2,<-l2];exact dg _ _ _
 have g2:K[N+1]?=some (.nd e J U):=by
  have l3:(((ks++I)++g)++[Kn.nd (!e) tl tr]).length=N+1:=by rw[Ac,l2];rfl
  rw[k3,<-l3];exact dg _ _ _
 have sA:SR K A [tl,J]:=by rw[k1];exact p.sr.more _
 have sB:SR K B [tr,U]:=by rw[k2];exact o.sr.more _
 have a0:aq K:=by have o1:=o.ok.snoc (k:=.nd (!e) tl tr) (by show tl<((ks++I)++g).length/\tr<((ks++I)++g).length;rw[l2];exact⟨d1,d3⟩);have o2:=o1.snoc (k:=.nd e J U) (by show J<_/\U<_;rw[Ac,l2];exact⟨Ck d2,Ck d4⟩);rw[k3];exact o2
 have tA:=p.tm;have tB:=o.tm;rw[Ac] at tB;have wt:dU K N (Wd.node e l r).turn:=ET g1 (by rw[k1];exact p.wt.more _) (by rw[k2];exact o.wt.more _);have a3:dU K (N+1) (Wd.node e l r):=ET g2 (by rw[k1];exact p.ws.more _) (by rw[k2];exact o.ws.more _);have C:(I++g++[Kn.nd (!e) tl tr,.nd e J U]).length=2*(Wd.node e l r).size:=by have h1:=p.len;have h2:=o.len;show _=2*(1+l.size+r.size);rw[Ac,Ac];simp;lia
 have lt:ks.length+(I++g++[Kn.nd (!e) tl tr,.nd e J U]).length=N+2:=by rw[Ac];simp[hN];rfl
 have tt:∀h lo:Nat,(h=N/\lo=N+1)\/(h=N+1/\lo=N)->(∀x,x∈j6 (.ei h (.bo lo A B))↔ks.length<=x/\x<ks.length+(I++g++[Kn.nd (!e) tl tr,.nd e J U]).length)/\(j6 (.ei h (.bo lo A B))).Nodup:=by
  intro h lo hh;constructor
  ·intro x;rw[lt];show x∈h::lo::(j6 A++j6 B)↔_;rw[Ax,Ax,Ak,tA,tB];exact arv hh t
  ·show(h::lo::(j6 A++j6 B)).Nodup;rw[AA,AA,AI];refine⟨?_,?_,p.nd,o.nd,λx T y hy e=>?_⟩
   ·rw[Ax,Ak,tA,tB];exact(anl hh t).1
   ·rw[Ak,tA,tB];exact(anl hh t).2
   ·exact ar7 ((tA x).mp T) ((tB y).mp hy) e
 cases e with
 |true=>
  have s1:SR K (.bo N A B) [J,U,N]:=by exact .bo g1 sA sB (by simp) (by simp) (λx=>at5 nA nB) (ape d2 d4 d6)
  have s2:SR K (.ei (N+1) (.bo N A B)) [N,N+1]:=by exact .ei g2 s1 (by simp) (by simp) d6 (λx=>arm d2 d4) (by simp)
  obtain⟨t1,t2⟩:=tt (N+1) N (.inr ⟨rfl,rfl⟩);exact⟨C,by rw[j];exact s2,by rw[j];exact wt,by rw[j];exact a3,t1,t2,by rw[j];exact a0⟩
 |false=>
  have s1:SR K (.bo (N+1) A B) [tl,tr,N+1]:=by exact .bo g2 sA sB (by simp) (by simp) (λx=>aqp nA nB) (ape (Ck d1) (Ck d3) d5)
  have s2:SR K (.ei N (.bo (N+1) A B)) [N,N+1]:=by exact .ei g1 s1 (by simp) (by simp) d5 (λx=>ata (Ck d1) (Ck d3)) (by simp)
  obtain⟨t1,t2⟩:=tt N (N+1) (.inl ⟨rfl,rfl⟩);exact⟨C,by rw[j];exact s2,by rw[j];exact wt,by rw[j];exact a3,t1,t2,by rw[j];exact a0⟩
def dC(n:Nat):jx:=λys L Q=>∃a,∃ks:List Kn,∃w:Wd,ys=[.ref a,cJ w]/\L a=some (.lst (jf ks))/\w.depth<=n/\n<=120/\w.ok/\aq ks/\ks.length+2*w.size<=10000/\
 ∀ms R tp sp p,L p=none->Mir ks w ms R tp sp->Q (.ref p) (qe (qe L a (.lst (jf (ks++ms)))) p (.lst [zh R,.int ((tp:Nat):Int),.int ((sp:Nat):Int)]))
def aaj:∀ys L Q,¬dC 0 ys L Q:=λys L Q ⟨a,J,I,_,_,hd,_⟩=>by cases I<;>simp[Wd.depth] at hd
def bg_:∀m:Nat,m<=20000->m<sizeLine:=λm h=>A8 h (by decide)
def zW(n:Nat):∀ys L Q,dC (n+1) ys L Q->xr (ade (cV 120) (dC n)) 8 ys L Q:=by
 rintro ys L Q ⟨a,I,w,rfl,ha,hd,hn,a1,hk,hb,q⟩;have big:=bg_;cases w with
 |leaf t nm=>
  have hb:I.length+2*1<=10000:=hb;refine qd ha ⟨.leaf t nm,rfl,by exact CN _,qo ha ⟨big _ (by rw[Af];lia),?_⟩⟩;refine qd q9 (qo q9 ⟨big _ (by rw[Ac,Af];simp;lia),?_⟩);rw[jz];have e1:(jf I++[cJ (Wd.leaf t nm).turn])++[cJ (.leaf t nm)]=jf (I++[.lf (!t) nm,.lf t nm]):=by unfold jf;rw[AD,AE];rfl
  have e2:(jf (I++[Kn.lf (!t) nm,.lf t nm])).length=I.length+2:=by rw[Af,Ac];rfl
  have i1:((((jf (I++[Kn.lf (!t) nm,.lf t nm])).length:Nat):Int)-2)=((I.length:Nat):Int):=by rw[e2];lia
  have i2:((((jf (I++[Kn.lf (!t) nm,.lf t nm])).length:Nat):Int)-1)=((I.length+1:Nat):Int):=by rw[e2];lia
  have ba:(jf I++[cJ (Wd.leaf t nm).turn])++[.tup [.str (kL t),.str nm]]=jf (I++[.lf (!t) nm,.lf t nm]):=e1
  first|rw[e1]|rw[ba]
  refine qd q9 (qd q9 (qd q9 (qd q9 λp hp=>?_)));have np:L p=none:=by
   have:p≠a:=λe=>by rw[e,q9] at hp;cases hp
   rw[qb this] at hp;exact hp
  have:=q _ _ _ _ p np (uK hk a1);have key:[zh (.link I.length (I.length+1)),Y.int ((I.length:Nat):Int),Y.int ((I.length+1:Nat):Int)]=[.tup [.str "link",.int ((((jf (I++[Kn.lf (!t) nm,.lf t nm])).length:Nat):Int)-2),.int ((((jf (I++[Kn.lf (!t) nm,.lf t nm])).length:Nat):Int)-1)],.int ((((jf (I++[Kn.lf (!t) nm,.lf t nm])).length:Nat):Int)-2),.int ((((jf (I++[Kn.lf (!t) nm,.lf t nm])).length:Nat):Int)-1)]:=by rw[i1,i2];rfl
  rw[key] at this;exact k6 this
 |node e l r=>
  have bc:max l.depth r.depth+1<=n+1:=hd;have hb:I.length+2*(1+l.size+r.size)<=10000:=hb;refine⟨a,I,l,rfl,ha,by lia,by exact gL,a1.1,hk,by lia,λJ A g j p1 ab ML=>?_⟩;have a0:a≠p1:=xn ha ab;have bd:=ML.len;refine⟨a,I++J,r,rfl,by rw[qb a0,q9],by lia,by exact gL,a1.2,ML.ok,by rw[Ac];lia,λU B C T p2 a2 MR=>?_⟩;have be:=MR.len;have bb:p1≠p2:=xn q9 a2;have ac:a≠p2:=xn (by rw[qb a0];exact q9) a2;have a3:qe (qe (qe (qe L a (.lst (jf (I++J)))) p1 (.lst [zh A,.int ((g:Nat):Int),.int ((j:Nat):Int)])) a (.lst (jf ((I++J)++U)))) p2 (.lst [zh B,.int ((C:Nat):Int),.int ((T:Nat):Int)]) a=some (.lst (jf ((I++J)++U))):=by rw[qb ac];exact q9
  have h1:qe (qe (qe (qe L a (.lst (jf (I++J)))) p1 (.lst [zh A,.int ((g:Nat):Int),.int ((j:Nat):Int)])) a (.lst (jf ((I++J)++U)))) p2 (.lst [zh B,.int ((C:Nat):Int),.int ((T:Nat):Int)]) p1=some (.lst [zh A,.int ((g:Nat):Int),.int ((j:Nat):Int)]):=by rw[qb bb,qb (AH a0)];exact q9
  have h2:qe (qe (qe (qe L a (.lst (jf (I++J)))) p1 (.lst [zh A,.int ((g:Nat):Int),.int ((j:Nat):Int)])) a (.lst (jf ((I++J)++U)))) p2 (.lst [zh B,.int ((C:Nat):Int),.int ((T:Nat):Int)]) p2=some (.lst [zh B,.int ((C:Nat):Int),.int ((T:Nat):Int)]):=q9;have old:∀b o,b≠a->L b=some o->qe (qe (qe (qe L a (.lst (jf (I++J)))) p1 (.lst [zh A,.int ((g:Nat):Int),.int ((j:Nat):Int)])) a (.lst (jf ((I++J)++U)))) p2 (.lst [zh B,.int ((C:Nat):Int),.int ((T:Nat):Int)]) b=some o:=λb o nb e=>by
   have n1:b≠p1:=xn e ab;have e2:qe (qe L a (.lst (jf (I++J)))) p1 (.lst [zh A,.int ((g:Nat):Int),.int ((j:Nat):Int)]) b=some o:=by rw[qb n1,qb nb];exact e
   have n2:b≠p2:=xn e2 a2;rw[qb n2,qb nb];exact e2
  generalize qe (qe (qe (qe L a (.lst (jf (I++J)))) p1 (.lst [zh A,.int ((g:Nat):Int),.int ((j:Nat):Int)])) a (.lst (jf ((I++J)++U)))) p2 (.lst [zh B,.int ((C:Nat):Int),.int ((T:Nat):Int)])=L2 at a3 h1 h2 old;have bf:(jf ((I++J)++U)).length=I.length+J.length+U.length:=by rw[Af,Ac,Ac]
  refine qd a3 ⟨.node e l r,rfl,by show max l.depth r.depth+1<=120;exact zX,qd h1 (qd h2 (qo a3 ⟨big _ (by lia),?_⟩))⟩;have a4:∀o,qe L2 a o p1=some (.lst [zh A,.int ((g:Nat):Int),.int ((j:Nat):Int)]):=λo=>by rw[qb (AH a0)];exact h1
  have a5:∀o,qe L2 a o p2=some (.lst [zh B,.int ((C:Nat):Int),.int ((T:Nat):Int)]):=λo=>by rw[qb (AH ac)];exact h2
  refine qd q9 (qd (a4 _) (qd (a5 _) (qo q9 ⟨big _ (by rw[Ac];simp;lia),?_⟩)));rw[jz];obtain⟨N,hN⟩:∃N,N=I.length+(J++U).length:=⟨_,rfl⟩;have e1:(jf ((I++J)++U)++[.tup [.str (kN (!e)),.int ((g:Nat):Int),.int ((C:Nat):Int)]])++[.tup [.str (kN e),.int ((j:Nat):Int),.int ((T:Nat):Int)]]=jf (I++(J++U++[.nd (!e) g C,.nd e j T])):=by unfold jf;simp[rK]
  rw[e1];have lN:(jf (I++(J++U++[Kn.nd (!e) g C,.nd e j T]))).length=N+2:=by rw[Af,Ac,Ac,hN];simp;rfl
  have i1:((((jf (I++(J++U++[Kn.nd (!e) g C,.nd e j T]))).length:Nat):Int)-2)=((N:Nat):Int):=by rw[lN];lia
  have i2:((((jf (I++(J++U++[Kn.nd (!e) g C,.nd e j T]))).length:Nat):Int)-1)=((N+1:Nat):Int):=by rw[lN];lia
  refine qd q9 (qd q9 ?_);have M:=ae2 (e:=e) ML MR hN;have done:∀p,qe L2 a (.lst (jf (I++(J++U++[Kn.nd (!e) g C,.nd e j T])))) p=none->∀R,Mir I (.node e l r) (J++U++[Kn.nd (!e) g C,.nd e j T]) R N (N+1)->
   gc Q (.ref p) (qe (qe L2 a (.lst (jf (I++(J++U++[Kn.nd (!e) g C,.nd e j T]))))) p (.lst [zh R,.int ((N:Nat):Int),.int ((N+1:Nat):Int)])):=λp hp R MM=>by
   have aL:p≠a:=λz=>by rw[z,q9] at hp;cases hp
   rw[qb aL] at hp;have np:L p=none:=by cases z:L p with|none=>rfl|some o=>rw[old p o aL z] at hp;cases hp
   refine bW ?_ (q _ _ _ _ p np MM);intro b o z;by_cases c1:b=p
   ·subst c1;rw[q9] at z ⊢;exact z
   ·rw[qb c1] at z ⊢;by_cases c2:b=a
    ·subst c2;rw[q9] at z ⊢;exact z
    ·rw[qb c2] at z ⊢;exact old b o c2 z
  cases e with
  |true=>
   have key:[zh (.ei (if true=true then N+1 else N) (.bo (if true=true then N else N+1) A B)),Y.int ((N:Nat):Int),Y.int ((N+1:Nat):Int)]=[.tup [.str "either",.int ((((jf (I++(J++U++[Kn.nd (!true) g C,.nd true j T]))).length:Nat):Int)-1),.tup [.str "both",.int ((((jf (I++(J++U++[Kn.nd (!true) g C,.nd true j T]))).length:Nat):Int)-2),zh A,zh B]],.int ((((jf (I++(J++U++[Kn.nd (!true) g C,.nd true j T]))).length:Nat):Int)-2),.int ((((jf (I++(J++U++[Kn.nd (!true) g C,.nd true j T]))).length:Nat):Int)-1)]:=by rw[i1,i2];rfl
   walk_at "w";refine qd (a4 _) (qd (a5 _) λp hp=>?_);have:=done p hp _ M;rw[key] at this;exact this
  |false=>
   have key:[zh (.ei (if false=true then N+1 else N) (.bo (if false=true then N else N+1) A B)),Y.int ((N:Nat):Int),Y.int ((N+1:Nat):Int)]=[.tup [.str "either",.int ((((jf (I++(J++U++[Kn.nd (!false) g C,.nd false j T]))).length:Nat):Int)-2),.tup [.str "both",.int ((((jf (I++(J++U++[Kn.nd (!false) g C,.nd false j T]))).length:Nat):Int)-1),zh A,zh B]],.int ((((jf (I++(J++U++[Kn.nd (!false) g C,.nd false j T]))).length:Nat):Int)-2),.int ((((jf (I++(J++U++[Kn.nd (!false) g C,.nd false j T]))).length:Nat):Int)-1)]:=by rw[i1,i2];rfl
   walk_at "w";refine qd (a4 _) (qd (a5 _) λp hp=>?_);have:=done p hp _ M;rw[key] at this;exact this
end L3
variable {ks fm wd:List (Option L3.Kn)}
namespace L3
open PySem L2 Words
def vX(I:jx):ww:=(qr (xc (u5 (yB (cR false (qa 0))) (yB (zd I (aI (qa 0))))) (ji (kc qx)) jm)
 (ji (kc (aB (x9 0 1) (x9 0 2)))))
def mm:ww:=(ji (mC 2 (gQ (qa 0)) (aD 2 (zn (qg 1) (zn (qg 2) wf))) (yB (cR true (qa 2))) (qa 1)))
def sQ:ww:=(ji (mC 2 (gQ (x9 0 0)) (aD 2 (zn (qg 1) (zn (qg 2) wf))) (bV (yB (cR true (qa 2))) (cU (x9 2 0) (dS "either"))) (qa 1)))
def wB(I:jx):ww:=(ji (mC 1 (xm (zd I (aI (x9 0 0)))) (qg 1) (cU (zj aR (zj aR (x9 0 0) (qa 1)) (jk 0)) (dS "both")) (qa 1)))
def rG(I:jx):ww:=(qr (zr (kc qx) (qg 2))
 (qr (dP (xm (qa 1)) (qg 3) (jw (am bZ (qa 2) (qf (mC 1 (xm (zd I (qf (zj aR (qa 0) (qa 3)) qx))) (qg 4) xG (rdT (qa 3) (qa 4))) qx))))
 (ji (qa 2))))
def xO(I:jx)(p1:jx):ww:=(ji (zj kz (zj kz (x9 0 1) (x9 0 2)) (zd I (qf (x9 0 0) (qf (zd p1 (aI (qa 0))) qx)))))
def gb:Option Kn->Y
 |none=>.non
 |some k=>rK k
abbrev w6(ks:List (Option Kn)):List Y:=ks.map gb
def ao:Option Kn->List Nat
 |some (.nd _ i j)=>[i,j]
 |_=>[]
def iL:jx:=λys L Q=>∃k:Option Kn,ys=[gb k]/\∀p,L p=none->Q (.ref p) (qe L p (.lst (nY (ao k))))
def af3:∀ys L Q,iL ys L Q->xr (vX gS) 1 ys L Q:=by
 rintro ys L Q ⟨k,rfl,q⟩;cases k with
 |none=>exactλp I=>k6 (q p I)
 |some k=>
  cases k with|lf t n=>exact⟨true,t,_,rfl,λp I=>k6 (q p I)⟩|nd e i j=>exact⟨false,e,_,rfl,λp I=>k6 (q p I)⟩
def jJ(f:Option Kn->Bool)(ks:List (Option Kn))(i:Nat):List Nat:=(List.range i).filter λp=>match ks[p]? with
 |some k=>f k
 |none=>false
def cS{f:Option Kn->Bool}{k:Option Kn}(h:ks[i]?=some k):jJ f ks (i+1)=jJ f ks i++if f k=true then [i] else []:=by unfold jJ;rw[List.range_succ,BK];congr 1;rw[Dr];simp only[h,Cd]
def sP{f:Option Kn->Bool}(h:p∈jJ f ks i):p<i/\∃k,ks[p]?=some k/\f k=true:=by
 unfold jJ at h;obtain⟨J,I⟩:=BI.mp h;refine⟨AS.mp J,?_⟩;split at I
 ·rename_i k e;exact⟨k,e,I⟩
 ·cases I
def fV(f:Option Kn->Bool)(ks:List (Option Kn))(i:Nat):(jJ f ks i).length<=i:=by unfold jJ;exact AK (CB _ _) (by rw[A5];simp +arith only)
def fH:Option Kn->Bool
 |some _=>true
 |none=>false
def ag(e:Bool):Option Kn->Bool
 |some (.nd I _ _)=>decide (I=e)
 |_=>false
abbrev za(ks:List (Option Kn)):List Nat:=jJ fH ks ks.length
abbrev xh(e:Bool)(ks:List (Option Kn)):List Nat:=jJ (ag e) ks ks.length
def eX(a b:List Nat):nY (a++b)=nY a++nY b:=by unfold nY;rw[AD]
def dZ(h:(nY hs)[i]?=some y):∃n,hs[i]?=some n/\y=.int (n:Int):=by unfold nY at h;rw[An] at h;obtain⟨n,I,J⟩:=Ay.mp h;exact⟨n,I,J.symm⟩
def uR{f:Option Kn->Bool}{keep:qm->Prop}{Q:YK}(hz:ks.length<=1000)(j:keep L)
 (turn:∀(i:Nat) (k:Option Kn) (R:List Y->qm->Prop) zs,ks[i]?=some k->(f k=true->R (zs++[.int (i:Int)]) L)->(f k=false->R zs L)->g (.tup [.int (i:Nat),gb k]) (τ++List.replicate 2 none) L λI L2=>tc I L2 λb L3=>xt b (te I L3 λz l=>R (zs++[z]) l) (R zs L3))
 (o:∀p,L p=none->Q (.ref p) (qe L p (.lst (nY (jJ f ks ks.length))))):yJ (oU (w6 ks)) keep 2 g tc te τ L Q:=by
 refine ar (λi zs=>zs=nY (jJ f ks i)) (by rw[fT,Af];exact A8 hz (by decide)) j rfl ?_ ?_
 ·rintro i y zs r rfl;obtain⟨z,U,rfl⟩:=eM r;rw[An] at U;obtain⟨k,J,rfl⟩:=Ay.mp U;refine turn i k _ _ J (λh=>⟨L,EC _,rfl,?_⟩) (λh=>⟨L,EC _,rfl,?_⟩)
  ·rw[cS J,Aw h,eX];rfl
  ·rw[cS J,As (by rw[h];exact AC),AQ]
 ·rintro zs rfl;rw[fT,Af];exact o
def iE:jx:=λys L Q=>∃a,∃ks:List (Option Kn),ys=[.ref a]/\L a=some (.lst (w6 ks))/\ks.length<=1000/\∀p,L p=none->Q (.ref p) (qe L p (.lst (nY (za ks))))
def aco:∀ys L Q,iE ys L Q->xr mm 1 ys L Q:=by
 rintro ys L Q ⟨a,o,rfl,I,J,q⟩;refine x4 I λkeep U=>uR (f:=fH) J (U L rfl) (λi k R r t g j=>?_) λp l=>k6 (q p l);cases k with
 |none=>exact j rfl
 |some k=>cases k<;>exact g rfl
abbrev ay(a l c:Addr):Y:=.tup [.ref a,.ref l,.ref c]
def hV:jx:=λys L Q=>∃a l c,∃ks:List (Option Kn),ys=[ay a l c]/\L a=some (.lst (w6 ks))/\ks.length<=1000/\∀p,L p=none->Q (.ref p) (qe L p (.lst (nY (xh true ks))))
def aey:∀ys L Q,hV ys L Q->xr sQ 1 ys L Q:=by
 rintro ys L Q ⟨a,l,c,C,rfl,J,U,q⟩;refine x4 J λkeep g=>uR (f:=ag true) U (g L rfl) (λi k R T ek o I=>?_) λp r=>k6 (q p r);cases k with
 |none=>exact I rfl
 |some k=>
  cases k with
  |lf t n=>cases t<;>exact I rfl
  |nd e i j=>
   cases e with|true=>exact o rfl|false=>exact I rfl
def oT:jx:=λys L Q=>∃a l c,∃ks:List (Option Kn),ys=[ay a l c]/\L a=some (.lst (w6 ks))/\ks.length<=1000/\∀p,L p=none->Q (.ref p) (qe L p (.lst (nY (xh false ks))))
def ahj(f g:Option Kn->Bool)(ks:List (Option Kn))(i:Nat):((jJ f ks i).filter λp=>match ks[p]? with|some k=>g k|none=>false)=jJ (λk=>f k&&g k) ks i:=by unfold jJ;rw[List.filter_filter];refine List.filter_congr λp _=>?_;cases ks[p]? with|none=>rfl|some k=>exact Bool.and_comm _ _
def xJ(e:Bool)(ks:List (Option Kn))(i:Nat):jJ (λk=>fH k&&ag e k) ks i=jJ (ag e) ks i:=by unfold jJ;refine List.filter_congr λp _=>?_;cases ks[p]? with|none=>rfl|some k=>cases k<;>rfl
def ae0:∀ys L Q,oT ys L Q->xr (wB iE) 1 ys L Q:=by
 rintro ys L Q ⟨a,l,c,I,rfl,ha,hz,q⟩;refine⟨a,I,rfl,ha,hz,λp j=>?_⟩;have r:=By (o:=.lst (nY (za I))) j _ _ ha;refine x4 q9 λkeep kp=>ar (λi J=>J=nY (((za I).take i).filter λp=>match I[p]? with|some k=>ag false k|none=>false)) (by rw[wb];exact A8 (AK (fV _ _ _) hz) (by decide)) (kp _ rfl) rfl ?_ ?_
 ·rintro i y J ey rfl;obtain⟨n,en,rfl⟩:=dZ ey;obtain⟨hn,k,g,hk⟩:=sP (Az en);have C:(za I).take (i+1)=(za I).take i++[n]:=by rw[Bf,en];rfl
  have a1:eG (w6 I) (n:Int)=some (gb k):=vj (by rw[An,g];rfl);refine qd r (ql a1 ?_);cases k with
  |none=>cases hk
  |some k=>
   cases k with
   |lf t nm=>
    have z:dz (λJ L'=>L'=qe L p (.lst (nY (za I)))/\J=nY (((za I).take (i+1)).filter λp=>match I[p]? with|some k=>ag false k|none=>false)) (nY (((za I).take i).filter λp=>match I[p]? with|some k=>ag false k|none=>false)) (qe L p (.lst (nY (za I)))):=by refine⟨_,EC _,rfl,?_⟩;rw[C,BK,Dr];simp[g,ag]
    cases t<;>exact z
   |nd e i' j'=>
    cases e with
    |true=>
     refine⟨_,EC _,rfl,?_⟩;rw[C,BK,Dr];simp[g,ag]
    |false=>
     refine⟨_,EC _,rfl,?_⟩;rw[C,BK,Dr];simp[g,ag,nY]
 ·rintro J rfl T a0;rw[wb,Bc,ahj,xJ];have U:L T=none:=dB (By j) a0;refine bW (L:=qe L T (.lst (nY (xh false I)))) ?_ (q T U);exact qj.put ((By (o:=.lst (nY (za I))) j).upd U) q9
def aqk(a b:Nat):min (a:Int) (b:Int)=((min a b:Nat):Int):=by omega
def aqq(a b:Nat):max (a:Int) (b:Int)=((max a b:Nat):Int):=by omega
def qC(p:Nat×Nat):Y:=.tup [.int ((p.1:Nat):Int),.int ((p.2:Nat):Int)]
abbrev qu(l:List (Nat×Nat)):List Y:=l.map qC
def xo(ks:List (Option Kn))(pl:List Nat):List (Nat×Nat):=pl.flatMap λp=>match ks[p]? with
 |some k=>(ao k).map λq=>(p,q)
 |none=>[]
def jR(ks:List (Option Kn))(a b:List Nat):xo ks (a++b)=xo ks a++xo ks b:=by unfold xo;rw[AO]
def iz{k:Option Kn}(h:ks[p]?=some k):xo ks [p]=(ao k).map λq=>(p,q):=by unfold xo;simp[h]
def jP(k:Option Kn):(ao k).length<=2:=by unfold ao;split<;>simp
theorem fW(ks:List (Option Kn)):∀pl:List Nat,(xo ks pl).length<=2*pl.length
 |[]=>by simp[xo]
 |p::r=>by
  have I:=fW ks r;have e:=jR ks [p] r;rw[Cb] at e;rw[e,Ac,AF];cases h:ks[p]? with
  |none=>
   have:xo ks [p]=[]:=by unfold xo;simp[h]
   rw[this];simp;lia
  |some k=>
   rw[iz h,Af];have:=jP k;lia
def iu:jx:=λys L Q=>∃a b,∃ks:List (Option Kn),∃pl:List Nat,ys=[.ref a,.ref b]/\L a=some (.lst (w6 ks))/\L b=some (.lst (nY pl))/\pl.length<=1000/\(∀p∈pl,p<ks.length)/\∀p,L p=none->Q (.ref p) (qe L p (.lst (qu (xo ks pl))))
def aa6:∀ys L Q,iu ys L Q->xr (rG iL) 4 ys L Q:=by
 rintro ys L Q ⟨a,b,U,J,rfl,ha,T,hz,a0,q⟩;intro p g;have a2:a≠p:=xn ha g;have l:b≠p:=xn T g;refine l9 (ys:=nY J) (w4 ((qb l).trans T)) (λi t C=>∃c,t=[some (.ref a),some (.ref b),some (.ref p),c]/\C=qe L p (.lst (qu (xo U (J.take i))))) ⟨_,rfl,rfl⟩ ?_ ?_ ?_
 ·rintro i t C ⟨c,rfl,rfl⟩;rw[qb l,qb l]
 ·rintro i y t C hy ⟨c,rfl,rfl⟩;obtain⟨n,en,rfl⟩:=dZ hy;have hn:=a0 n (Az en);obtain⟨k,ek⟩:∃k,U[n]?=some k:=⟨_,Aj hn⟩;have a1:eG (w6 U) (n:Int)=some (gb k):=vj (by rw[An,ek];rfl);have et:J.take (i+1)=J.take i++[n]:=by rw[Bf,en];rfl
  refine qd q9 (qd ((qb a2).trans ha) (ql a1 ⟨k,rfl,λp2 I=>?_⟩));refine x4 q9 λkeep kp=>ar (λj zs=>zs=qu (((ao k).take j).map λq=>(n,q))) (by rw[wb];exact A8 (jP k) (by decide)) (kp _ rfl) rfl ?_ ?_
  ·rintro j y zs ey rfl;obtain⟨m,em,rfl⟩:=dZ ey;refine⟨_,EC _,rfl,?_⟩;rw[Bf,em,AD];unfold qu;rw[AD];rfl
  ·rintro zs rfl p3 o;rw[wb,Bc];have r:p≠p3:=xn ((qb (xn q9 I)).trans q9) o;refine qo ((qb r).trans ((qb (xn q9 I)).trans q9)) (qo q9 ⟨?_,?_⟩)
   ·rw[Af,Af,Af];have h1:=fW U (J.take i);have h2:=jP k;have h3:(J.take i).length<=1000:=by rw[AX];lia
    have T:(3000:Nat)<=sizeLine:=by decide
    lia
   ·refine⟨qe L p (.lst (qu (xo U (J.take (i+1))))),?_,_,rfl,rfl⟩;have e:qu (xo U (J.take i))++qu ((ao k).map λq=>(n,q))=qu (xo U (J.take (i+1))):=by rw[et,jR,iz ek];unfold qu;rw[AD]
    rw[e];have n2:L p2=none:=dB (By g) I;have n3:L p3=none:=dB ((By g).trans (By I)) o;exact qj.put ((((By g).trans (By I)).trans (By o)).upd g) q9
 ·rintro t C ⟨c,rfl,rfl⟩;rw[wb,Bc];exact k6 (q p g)
def v4(ks:List (Option Kn))(lk ct:List (Nat×Nat)):List (Nat×Nat):=(lk++ct)++xo ks (xh false ks)
def iQ:jx:=λys L Q=>∃a l c,∃ks:List (Option Kn),∃lk ct:List (Nat×Nat),ys=[ay a l c]/\L a=some (.lst (w6 ks))/\L l=some (.lst (qu lk))/\L c=some (.lst (qu ct))/\ks.length<=1000/\lk.length<=1000/\ct.length<=1000/\∀p,L p=none->Q (.ref p) (qe L p (.lst (qu (v4 ks lk ct))))
def aed:∀ys L Q,iQ ys L Q->xr (xO iu oT) 1 ys L Q:=by
 rintro ys L Q ⟨a,l,c,I,lk,U,rfl,ha,hl,hc,hz,a0,a1,q⟩;have hb:(10000:Nat)<sizeLine:=by decide
 refine⟨_,_,hl,hc,by rw[Af,Af];lia,λp1 g=>?_⟩;have j:=By (o:=.lst (qu lk++qu U)) g _ _ ha;refine⟨a,l,c,I,rfl,j,hz,λp2 J=>?_⟩;have t:=By (o:=.lst (nY (xh false I))) J _ _ j;refine⟨a,p2,I,xh false I,rfl,t,q9,AK (fV _ _ _) hz,λp hp=>(sP hp).1,λp3 r=>?_⟩;have e1:=By (o:=.lst (qu (xo I (xh false I)))) r _ _ (By (o:=.lst (nY (xh false I))) J _ _ (q9 (L:=L) (a:=p1) (o:=.lst (qu lk++qu U))));refine⟨_,_,e1,q9,?_,λC T=>?_⟩
 ·have:=fW I (xh false I);have:(xh false I).length<=I.length:=fV (ag false) I I.length;rw[Ac,Af,Af,Af];lia
 ·have n1:qj L (qe (qe (qe L p1 (.lst (qu lk++qu U))) p2 (.lst (nY (xh false I)))) p3 (.lst (qu (xo I (xh false I))))):=((By g).trans (By J)).trans (By r);have n4:L C=none:=dB n1 T;refine bW (L:=qe L C (.lst (qu (v4 I lk U)))) ?_ (q C n4);have e:qu lk++qu U++qu (xo I (xh false I))=qu (v4 I lk U):=by unfold qu v4;rw[AD,AD]
  rw[e];exact qj.put (n1.upd n4) q9
end L3
namespace TS
open PySem PyProof.Rows PySem.W PySem.Calls
section
variable {w:World}
abbrev keyBody(kx px:Str)(p1 p2 p3 p4 p5:Pos)(n:Nat):Expr:=.Tuple [.Subscript (.Name kx p1) (.Name px p2) p3,.Name px p4] n p5
structure lu(h:Heap)(f:Addr)(kx px:Str)(scope:Scope)(kvs:List Value):Prop where
 ex:∃(name eA:Str) (params:Arguments) (p1 p2 p3 p4 p5:Pos) (n:Nat) (pm ctv:Value) (c' cell k:Addr),h.get? f=some (kla_obj name eA params (keyBody kx px p1 p2 p3 p4 p5 n) scope [(kx,cell)] pm c' ctv)/\h.CodeRec (.ref c') eA/\
  h.IsCell cell (some (.ref k))/\h.IsList k kvs.toArray/\∀v:Value,bindArgs (kla_fn name eA params (keyBody kx px p1 p2 p3 p4 p5 n) scope [(kx,cell)] pm (.ref c') ctv) ⟨[v],[]⟩=pure [(px,v)]
 lim:h.NoLimit
structure KeySc(scope:Scope)(kx px:Str):Prop where
 kind:scope.kind=.function
 co:scope.isCoroutine=false
 gen:scope.isGenerator=false
 nc:∀x∈scope.names,x.2≠.cell
 lp:scope.names.lookup px=some .local
 lk:scope.names.lookup kx=some .free
 d1:(kx==("__debug__" : Str))=false
 d2:(px==("__debug__" : Str))=false
 d3:(kx==("__classdict__" : Str))=false
theorem lu.keeps{kvs:List Value}(k:lu h f kx px scope kvs)(J:∀b o,h.get? b=some o->h'.get? b=some o):lu h' f kx px scope kvs:=by
 obtain⟨name,U,I,p,r,t,C,T,n,pm,l,c',cell,kk,g1,g2,g3,g4,g5⟩:=k.ex;refine⟨⟨name,U,I,p,r,t,C,T,n,pm,l,c',cell,kk,J _ _ g1,?_,?_,?_,g5⟩,k.lim.keeps J⟩
 ·obtain⟨c,oc,vs,tq,g,j,e3⟩:=g2;exact⟨c,oc,vs,tq,g,J _ _ j,e3⟩
 ·obtain⟨o,g,j⟩:=g3;exact⟨o,J _ _ g,j⟩
 ·obtain⟨o,g,j⟩:=g4;exact⟨o,J _ _ g,j⟩
def aoq{kvs:List Value}{u t:Tok}{r:Int}(K:lu s.heap f kx px scope kvs)(S:KeySc scope kx px)(U:A.depth<recursionLimit)(hi:kvs[i]?=some (.int r t))(a0:i<2 ^ 40)
 (h:∀h' tk a,(∀b o,s.heap.get? b=some o->h'.get? b=some o)->h'.get? a=some { cls:=.type "tuple",data:=.seq #[.int r t,.int (i:Int) u] }->Q (.ref a) { s with heap:=h',toks:=tk }):
 wpAny (model prog w) A (call (.ref f) [.int (i:Int) u]) Q E s:=by
 obtain⟨name,I,l,p1,p2,p3,p4,p5,n,pm,a1,p,cell,kk,g1,g2,g3,g4,g5⟩:=K.ex;refine wpAny_call (kla_callFunE U g1 rfl S.co S.gen rfl g2 ?_);rw[g5];refine Ai (wpAny_newFunctionEnv S.nc (λx hx=>by rw[Ap.mp hx];exact S.lp) (λJ g j=>⟨K.lim.fresh _ j,?_⟩) S.kind);have C:∀b o,s.heap.get? b=some o->J.get? b=some o:=λb o e=>j.extBut b o (A4 (vb e)) (u3 _ e);show codeAny _ _ (.expr _ (envX I scope s.heap.objs.size f (.ref p) [(kx,cell)])) _ _;refine kla_codeExpr ?_;have look:(([(px,Value.int (i:Int) u)]:List (Str×Value)).reverse.lookup px)=some (.int (i:Int) u):=by simp
 have kf:(envX I scope s.heap.objs.size f (.ref p) [(kx,cell)]).kindOf kx=some .free:=S.lk;have kp:(envX I scope s.heap.objs.size f (.ref p) [(kx,cell)]).kindOf px=some .local:=S.lp;have cl:(envX I scope s.heap.objs.size f (.ref p) [(kx,cell)]).cells.lookup kx=some cell:=by show([(kx,cell)]:List (Str×Addr)).lookup kx=_;simp
 have ic:J.IsCell cell (some (.ref kk)):=by obtain⟨o,T,e2⟩:=g3;exact⟨o,C _ _ T,e2⟩
 have il:J.IsList kk kvs.toArray:=by obtain⟨o,T,e2⟩:=g4;exact⟨o,C _ _ T,e2⟩
 refine wpAny_Tuple_spliced (Db (Subscript_ (wpAny_Name (wpAny_loadName_free S.kind kf cl ic (wpAny_Name (wpAny_loadName_local S.kind kp g look ?_) S.d2) S.d3) S.d1)));refine item_listL il (by exact AY _) (by omega) (by rw[show((i:Nat):Int).toNat=i from rfl];exact hi) ?_;refine Db (wpAny_Name (wpAny_loadName_local S.kind kp g look ?_) S.d2);refine Calls.spliced_nil ⟨by show 2<=sizeLine;decide,?_⟩;exact h _ _ _ (λb o e=>u3 _ (C b o e)) (vc _ rfl)
end
def abv(f:α->β):∀{l m:List β},l.Perm m->∀{T:List α},T.map f=m->∃U:List α,U.Perm T/\U.map f=l:=by
 intro l m p
 induction p with
 |nil=>intro T e;exact⟨T,BO _,e⟩
 |cons x _ o=>
  intro T e;cases T with
  |nil=>cases e
  |cons t r=>
   rw[AG] at e;obtain⟨I,J⟩:=CY e;obtain⟨U,C,e'⟩:=o J;exact⟨t::U,C.cons t,by rw[AG,e',I]⟩
 |swap x y l=>
  intro T e
  match T,e with
  |t::u::r,e=>
   rw[AG,AG] at e;obtain⟨I,J⟩:=CY e;obtain⟨e3,e4⟩:=CY J;exact⟨u::t::r,List.Perm.swap t u r,by rw[AG,AG,I,e3,e4]⟩
 |trans _ _ g j=>
  intro T e;obtain⟨T1,p1,I⟩:=j e;obtain⟨T2,p2,J⟩:=g I;exact⟨T2,p2.trans p1,J⟩
def itV(x:Nat×Tok):Value:=.int (x.1:Int) x.2
def amp(h:Heap)(kS:Addr)(rk:Nat->Int)(k:Value)(x:Nat×Tok):Prop:=∃a t u,k=.ref a/\a≠kS/\h.get? a=some { cls:=.type "tuple",data:=.seq #[.int (rk x.1) t,.int (x.1:Int) u] }
def jV(h:Heap)(kS:Addr)(rk:Nat->Int):List Value->List (Nat×Tok)->Prop
 |[],[]=>True
 |k::ks,x::xs=>amp h kS rk k x/\jV h kS rk ks xs
 |_,_=>False
theorem jV.len{h:Heap}{kS:Addr}{rk:Nat->Int}:∀{ks:List Value} {xs:List (Nat×Tok)},jV h kS rk ks xs->ks.length=xs.length
 |[],[],_=>rfl
 |_::_,_::_,⟨_,b⟩=>by rw[AF,AF,jV.len b]
 |[],_::_,z=>z.elim
 |_::_,[],z=>z.elim
theorem jV.mem{h:Heap}{kS:Addr}{rk:Nat->Int}:∀{ks:List Value} {xs:List (Nat×Tok)},jV h kS rk ks xs->∀t∈ks.zip xs,amp h kS rk t.1 t.2
 |[],[],_,t,I=>by cases I
 |_::_,_::_,⟨a,b⟩,t,I=>by
  rw[List.zip_cons_cons] at I;rcases Ax.mp I with rfl|I
  ·exact a
  ·exact jV.mem b t I
 |[],_::_,z,_,_=>z.elim
 |_::_,[],z,_,_=>z.elim
section
variable {w:World}
theorem ace{g:Heap}{f:Addr}{kx px:Str}{scope:Scope}{kvs:List Value}{kS:Addr}{rk:Nat->Int}{body:Value->PUnit->Sem (ForInStep PUnit)}(K:lu g f kx px scope kvs)(S:KeySc scope kx px)(I:A.depth<recursionLimit)(hn:g.get? kS=none)
 (hb:∀(x:Value) (s:Shared) (Q':ForInStep PUnit->Shared->Prop),wpAny (model prog w) A (call (.ref f) [x]) (λk s'=>wpAny (model prog w) A (Builtin.List.listUpdate (.ref kS) (·.push k)) (λ_ T=>Q' (.yield ⟨⟩) T) E s') (λ_ _=>False) s->wpAny (model prog w) A (body x ⟨⟩) Q' E s):
 ∀(ps:List (Nat×Tok)) (ks:List Value) (e:Nat) (s:Shared) (Q:PUnit->Shared->Prop),(∀b o,g.get? b=some o->s.heap.get? b=some o)->s.heap.get? kS=some (seqObj "list" ks.toArray e)->ks.length+ps.length<=100000->
  (∀x∈ps,x.1<2 ^ 40/\∃t,kvs[x.1]?=some (.int (rk x.1) t))->
  (∀h' tk j e',(∀b o,b≠kS->s.heap.get? b=some o->h'.get? b=some o)->h'.get? kS=some (seqObj "list" (ks++j).toArray e')->jV h' kS rk j ps->Q ⟨⟩ { s with heap:=h',toks:=tk })->
  wpAny (model prog w) A (forIn (ps.map itV) PUnit.unit body) Q E s
 |[],ks,e,s,Q,hg,hk,hz,hp,q=>by rw[De,Em];exact Ai (q s.heap s.toks [] e (λ_ _ _ h=>h) (by rw[AQ];exact hk) trivial)
 |x::r,ks,e,s,Q,hg,hk,hz,hp,q=>by
  rw[AG,CZ];rw[AF] at hz;obtain⟨a0,t,ht⟩:=hp x (Av ..);have big:(100000:Nat)+1<=sizeLine:=by rw[sizeLine_eq];exact C0 _ _
  refine Aa (hb (itV x) s _ (aoq (K.keeps hg) S I ht a0 λl p a k1 ha=>?_));have J:l.get? kS=some (seqObj "list" ks.toArray e):=k1 _ _ hk;have s1:=xp l kS (Obj.mapSeq (·.push (.ref a)));have ea:ks.toArray.push (.ref a)=List.toArray (ks++[.ref a]):=by simp
  obtain⟨c2,a1⟩:∃c2,(l.update kS (Obj.mapSeq (·.push (.ref a)))).get? kS=some (seqObj "list" (List.toArray (ks++[.ref a])) c2):=⟨_,by rw[<-ea];exact get?_update_seq J (·.push (.ref a))⟩;have C:a≠kS:=λz=>by
   rw[z,J] at ha;have:=BH (λo:Option Obj=>o.map (·.cls)) ha;have z2:some (Value.type "list")=some (Value.type "tuple"):=this;injection z2 with z3
   injection z3 with z4
   exact absurd z4 (by decide)
  refine listUpdate_at (s:={ s with heap:=l,toks:=p }) J rfl ?_ (by rw[Ar];lia) (AK (Ec (Bq ..)) (by rw[Ar];lia));refine ace K S I hn hb r (ks++[.ref a]) c2 { s with heap:=l.update kS (Obj.mapSeq (·.push (.ref a))),toks:=p } Q (λb o e=>?_) a1 (by rw[Ac,Bh];lia) (λy hy=>hp y (Ah _ hy)) λh' tk j e' kk a2 vs=>?_
  ·have nb:b≠kS:=λz=>by rw[z,hn] at e;cases e
   exact(s1.2 b nb).trans (k1 b o (hg b o e))
  ·have U:∀b o,b≠kS->l.get? b=some o->h'.get? b=some o:=λb o nb e=>kk b o nb ((s1.2 b nb).trans e);refine q h' tk (.ref a::j) e' (λb o nb e=>U b o nb (k1 b o e)) (by rw[a2,AE];rfl) ⟨⟨a,t,x.2,rfl,C,U a _ C ha⟩,vs⟩
end
theorem t7{α β J:Type}{F:α->β}{G:α->J}:∀{l:List α},(∀x∈l,∀y∈l,F x=F y->G x=G y)->(l.map G).Nodup->(l.map F).Nodup
 |[],_,_=>DF
 |a::r,h,n=>by rw[AG] at n ⊢;obtain⟨U,g⟩:=AA.mp n;refine AA.mpr ⟨λz=>?_,t7 (λx j y I=>h x (Ah _ j) y (Ah _ I)) g⟩;obtain⟨y,I,e⟩:=BE.mp z;have:=h y (Ah _ I) a (Av ..) e;exact U (this▸Cq I)
def aev{I J p1 p2:Int}(h1:0<=p1)(h2:p1<B)(U:0<=p2)(g:p2<B)(e:I*B+p1=J*B+p2):p1=p2:=by
 have o:B≠0:=by lia
 have j:(I*B+p1) % B=p1:=by rw[Int.add_comm,Dz];exact Int.emod_eq_of_lt h1 h2
 have l:(J*B+p2) % B=p2:=by rw[Int.add_comm,Dz];exact Int.emod_eq_of_lt U g
 rw[<-j,e,l]
section
variable {w:World}
def ak2{g:Heap}{kvs:List Value}{kS a:Addr}{rk:Nat->Int}{ps:List (Nat×Tok)}{e1 e0:Nat}{P:PySem.Fin->Shared->Prop}(K:lu g f kx px scope kvs)(S:KeySc scope kx px)(I:A.depth<recursionLimit)(hn:g.get? kS=none)
 (hg:∀b o,g.get? b=some o->s.heap.get? b=some o) (hk:s.heap.get? kS=some (seqObj "list" #[] e0)) (ha:s.heap.get? a=some (seqObj "list" #[] e1)) (r:kS≠a) (hz:ps.length<=100000)
 (hp:∀x∈ps,x.1<2 ^ 40/\∃t,kvs[x.1]?=some (.int (rk x.1) t)) (hB:∀x∈ps,((x.1:Nat):Int)<B) (nd:(ps.map (·.1)).Nodup)
 (h:∀h' tk (qs:List (Nat×Tok)) c,(∀b o,b≠kS->b≠a->s.heap.get? b=some o->h'.get? b=some o)->h'.get? a=some (seqObj "list" (qs.map itV).toArray c)->qs.Perm ps->(qs.Pairwise λx y=>rk x.1*B+(x.1:Int)<=rk y.1*B+(y.1:Int))->P (.done (.ret .none)) { s with heap:=h',toks:=tk }):
 wpAny (model prog w) A (ksk_rest a (.ref f) false (ps.map itV).toArray e1 (.ref kS)) P E s:=by
 have big:(100000:Nat)+1<=sizeLine:=by rw[sizeLine_eq];exact C0 _ _
 unfold ksk_rest;refine Aa (Bu ?_);rw[List.forIn_toArray];refine Aa (ace (rk:=rk) K S I hn (λx s' Q' p=>?_) ps [] e0 s _ hg hk (by simpa using hz) hp λh' tk ks e' keep J kv=>?_)
 ·refine Aa (wpAny_attempt (AZ p (λk a5 hk=>?_) λ_ _ hF=>hF.elim))
  try dsimp only
  exact Aa (AZ hk (λ_ s3 q=>Ai q) λ_ _ e=>e)
 ·try dsimp only
  rw[Ej] at J;refine Aa (listItems_at (s:={ s with heap:=h',toks:=tk }) J rfl ?_);have a1:h'.get? a=some (seqObj "list" #[] e1):=keep _ _ (AH r) ha;have len:ks.length=ps.length:=kv.len;obtain⟨T,eT⟩:∃T,T=ks.zip ps:=⟨_,rfl⟩;have kT:∀t∈T,amp h' kS rk t.1 t.2:=λt U=>kv.mem t (eT▸U);have e2:T.map (·.2)=ps:=by rw[eT];exact List.map_snd_zip (by lia)
  have ez:ks.zip (ps.map itV)=T.map λt=>(t.1,itV t.2):=by rw[eT,List.zip_map_right];rfl
  have mp:∀t∈T,t.2∈ps:=λt U=>by rw[<-e2];exact Cq U
  have nT:∀t∈T,num h' B (t.1,itV t.2)=rk t.2.1*B+(t.2.1:Int):=λt U=>by obtain⟨b,tt,u,C,x2,x3⟩:=kT t U;exact num_of C x3 rfl
  have a0:∀x∈ps,(0:Int)<=((x.1:Nat):Int):=λ_ _=>by exact AY _
  have inj:((ks.zip (ps.map itV)).map (num h' B)).Nodup:=by
   rw[ez,BP];have e4:T.map (num h' B∘λt=>(t.1,itV t.2))=(T.map (·.2)).map λx:Nat×Tok=>rk x.1*B+(x.1:Int):=by rw[BP];exact Cp λt U=>nT t U
   rw[e4,e2];refine t7 (G:=λx:Nat×Tok=>x.1) (λx p y hy e=>?_) nd;have:=aev (a0 x p) (hB x p) (a0 y hy) (hB y hy) e;lia
  refine ant (s:={ s with heap:=h',toks:=tk }) (vs:=ps.map itV) (ks:=ks) (B:=B) J a1 r (by rw[Af];exact len) (by rw[Af];exact dG) (λv hv=>?_) inj λh2 a2 xs c l hc pm pw=>?_
  ·obtain⟨j,hj⟩:=BW hv;have a3:j<ps.length:=by rw[<-len];exact(AU.mp hj).1
   have hm:(v,ps[j])∈T:=by rw[eT];refine List.mem_iff_getElem?.mpr ⟨j,?_⟩;rw[List.getElem?_zip_eq_some];exact⟨hj,Aj a3⟩
   obtain⟨b,tt,u,C,x2,x3⟩:=kT _ hm;have C:v=.ref b:=C;exact⟨b,_,_,_,_,tt,u,C,x3,rfl,rfl,by exact AY _,hB _ (mp _ hm)⟩
  ·rw[ez] at pm;obtain⟨T',pT,a4⟩:=abv _ pm rfl;subst a4;have mT:∀t,t∈T'->t∈T:=λt=>pT.mem_iff.mp;refine h h2 a2 (T'.map (·.2)) c (λb o n1 n2 e=>?_) ?_ ?_ ?_
   ·rw[l b n1 n2];exact keep b o n1 e
   ·rw[hc,BP,BP];rfl
   ·rw[<-e2];exact pT.map _
   ·refine Cj.mpr (Cn (λ{x y} p hy z=>?_) (Cj.mp pw));rw[nT x (mT x p),nT y (mT y hy)] at z;exact z
def w_sortedK{kvs:List Value}{rk:Nat->Int}{ps:List (Nat×Tok)}(K:lu s.heap f kx px scope kvs)(S:KeySc scope kx px)(j:A.in1.in1.depth<recursionLimit)
 (hl:s.heap.IsList l (ps.map itV).toArray) (hz:ps.length<=100000)
 (hp:∀x∈ps,x.1<2 ^ 40/\∃t,kvs[x.1]?=some (.int (rk x.1) t)) (hB:∀x∈ps,((x.1:Nat):Int)<B) (nd:(ps.map (·.1)).Nodup)
 (h:∀h' tk (qs:List (Nat×Tok)) D c,s.heap.objs.size<=D->(∀b o,s.heap.get? b=some o->h'.get? b=some o)->h'.get? D=some (seqObj "list" (qs.map itV).toArray c)->qs.Perm ps->(qs.Pairwise λx y=>rk x.1*B+(x.1:Int)<=rk y.1*B+(y.1:Int))->Q (.ref D) { s with heap:=h',toks:=tk }):
 wpAny (model prog w) A (call (.builtin "sorted") [.ref l] [(Str.ofString "key",.ref f)]) Q E s:=by
 have big:(100000:Nat)+1<=sizeLine:=by rw[sizeLine_eq];lia
 have a1:(ps.map itV).length<=100000:=by rw[Af];exact hz
 refine call_function_entry_kw kind_sorted plain_sorted entry_sorted (ksk_s1 _ _) ?_;unfold Builtin.«sorted»;refine Aa (m:=checkCount "sorted" 1 1 _) (Ai ?_);refine Aa (collect_list hl ?_ (by exact dG));refine Aa (wpAny_newList ?_ (by lia));obtain⟨g1,C⟩:∃g1,g1=(s.heap.push (seqObj "list" #[] 0)).update s.heap.objs.size (Obj.mapSeq (· ++ (ps.map itV).toArray)):=⟨_,rfl⟩;have T:g1.objs.size=s.heap.objs.size+1:=by rw[C,Heap.size_update,size_push']
 have gk:∀b o,s.heap.get? b=some o->g1.get? b=some o:=λb o q=>by have J:b<s.heap.objs.size:=vb q;rw[C,Heap.get?_update_ne _ _ _ _ (A4 J)];exact u3 _ q
 show wpAny _ _ _ _ _ { s with heap:=((s.heap.push (seqObj "list" #[] 0)).update s.heap.objs.size (Obj.mapSeq (· ++ (ps.map itV).toArray))).push (seqObj "list" (ps.map itV).toArray 0) };rw[<-C];have I:(g1.push (seqObj "list" (ps.map itV).toArray 0)).get? g1.objs.size=some (seqObj "list" (ps.map itV).toArray 0):=vc _ rfl;have keep:∀b o,s.heap.get? b=some o->(g1.push (seqObj "list" (ps.map itV).toArray 0)).get? b=some o:=λb o q=>u3 _ (gk b o q);refine Aa (Be (wpAny_call_entry_kw slot_list_sort ⟨_,I,rfl⟩ entry_list_sort ?body (ksk_l1 _ _)))
 case body=>
  obtain⟨D,eD⟩:∃D,D=g1.objs.size:=⟨_,rfl⟩;rw[<-eD] at I ⊢;show wpAny (model prog w) A.in1.in1 (Builtin.«list.sort» ⟨[.ref D],[(Str.ofString "key",.ref f)]⟩) _ _ _;rw[ksk_t1];obtain⟨g2,p⟩:∃g2,g2=g1.push (seqObj "list" (ps.map itV).toArray 0):=⟨_,rfl⟩;rw[<-p] at I keep ⊢;have s1:=xp g2 D (Obj.mapSeq λ_=>(#[]:Array Value));obtain⟨e1,r⟩:∃e1,(g2.update D (Obj.mapSeq λ_=>(#[]:Array Value))).get? D=some (seqObj "list" #[] e1):=⟨_,get?_update_seq I λ_=>#[]⟩;have nD:∀b o,s.heap.get? b=some o->b≠D:=λb o q z=>by have J:b<s.heap.objs.size:=vb q;rw[z,eD,T] at J;exact Nat.not_succ_lt_self J
  unfold ksk_tree;refine Aa (listItems_at (s:={ s with heap:=g2 }) I rfl ?_);refine Aa (listUpdate_at (s:={ s with heap:=g2 }) I rfl ?_ (by rw[Ar];exact dG) (Bo _));refine Aa (seqEpoch_at r rfl ?_);refine Aa (wpAny_newTuple ?_ (by show(ps.map itV).length<=_;lia));refine Aa (wpAny_newList ?_ (Bo _));refine Be ?_;obtain⟨g3,U⟩:∃g3,g3=(g2.update D (Obj.mapSeq λ_=>(#[]:Array Value))).push (seqObj "tuple" (ps.map itV).toArray 0):=⟨_,rfl⟩;have k3:∀b o,s.heap.get? b=some o->g3.get? b=some o:=λb o q=>by rw[U];exact u3 _ ((s1.2 b (nD b o q)).trans (keep b o q))
  have d3:g3.get? D=some (seqObj "list" #[] e1):=by rw[U];exact u3 _ r
  show wpAny (model prog w) A.in1.in1 (ksk_rest D (.ref f) false (ps.map itV).toArray _ (.ref ((g2.update D (Obj.mapSeq λ_=>(#[]:Array Value))).push (seqObj "tuple" (ps.map itV).toArray 0)).objs.size)) _ _ { s with heap:=((g2.update D (Obj.mapSeq λ_=>(#[]:Array Value))).push (seqObj "tuple" (ps.map itV).toArray 0)).push (seqObj "list" #[] 0) };rw[<-U];have a0:(g3.push (seqObj "list" #[] 0)).get? g3.objs.size=some (seqObj "list" #[] 0):=vc _ rfl;refine ak2 (s:={ s with heap:=g3.push (seqObj "list" #[] 0) }) (g:=s.heap) (kS:=g3.objs.size) (a:=D) (rk:=rk) (B:=B) K S j (Heap.get?_none_of_le ?_) (λb o q=>u3 _ (k3 b o q)) a0 (u3 _ d3) ?_ hz hp hB nd λh' tk qs c kp hD pm pw=>?_
  ·have l1:g3.objs.size=g1.objs.size+2:=by rw[U,size_push',Heap.size_update,p,size_push']
   rw[l1,T];exact AK (Cw _) (A2 _ 2)
  ·exact(A4 (vb d3)).symm
  ·refine⟨_,rfl,Ai ⟨_,rfl,h h' tk qs D c (by rw[eD,T];exact Cw _) (λb o q=>?_) hD pm pw⟩⟩;exact kp b o (A4 (vb (k3 b o q))) (nD b o q) (u3 _ (k3 b o q))
end
end TS
namespace L2
open PySem PySem.Spec PyProof.Rows
def qM{i j:Int}{t u:Tok}{c:Value}(l:List Value)(h:TriplesOk l):TriplesOk (l++[.int i t,.int j u,c]):=by
 fun_induction TriplesOk l with
 |case1=>trivial
 |case2 _ _ _ _ _ rest I=>exact I h
 |case3=>exact h.elim
def xR{i j:Int}{t u:Tok}{c I:Value}(l:List Value)(h:TriplesOk l)(e:codeAmong pos (l++[.int i t,.int j u,c])=some I):codeAmong pos l=some I\/I=c:=by
 fun_induction TriplesOk l with
 |case1=>
  right;have e:(if i==pos.line&&j==pos.col then some c else none)=some I:=e;split at e
  ·cases e;rfl
  ·cases e
 |case2 a _ b _ d rest J=>
  have e:(if a==pos.line&&b==pos.col then some d else codeAmong pos (rest++[.int i t,.int j u,c]))=some I:=e;show(if a==pos.line&&b==pos.col then some d else codeAmong pos rest)=some I\/I=c;split at e
  ·rename_i z;rw[Aw z];exact .inl e
  ·rename_i z;rw[As z];exact J h e
 |case3=>exact h.elim
structure zP(K:Ae)(fx:Value)(P:Addr):Prop where
 ex:∃c oc,fx=.ref c/\K.lookup c=some oc/\∀h:Heap,h.get? c=some oc->PySem.W.CodeHd h c P
 bm:∃bm ob,PySem.W.nsIn K mainGlobals "__builtins__"=some (some (.ref bm))/\bm≠builtinsNs/\bm≠mainGlobals/\K.lookup bm=some ob/\ob.cls=.type "module" /\ ob.dict=some builtinsNs/\ob.data=.plain
theorem uF:∀{l:List Nat} {us:List Value},zq (l.map λi:Nat=>V.int (0+(i:Int))) us->∃ps:List (Nat×Tok),us=ps.map TS.itV/\ps.map (·.1)=l
 |[],_,.nil=>⟨[],rfl,rfl⟩
 |i::r,_,.cons (b:=u) h t=>by obtain⟨ps,J,U⟩:=uF (l:=r) t;obtain⟨I,g⟩:=(show ∃I,u=Value.int (0+(i:Int)) I from h);refine⟨(i,I)::ps,?_,by rw[AG,U]⟩;rw[AG,J,g];show _=Value.int (i:Int) I::_;rw[Eg]
theorem tw:∀ps:List (Nat×Tok),zq (ps.map λx=>V.int ((x.1:Nat):Int)) (ps.map TS.itV)
 |[]=>.nil
 |x::r=>.cons ⟨x.2,rfl⟩ (tw r)
def akv(P:Addr)(q:Str)(J:Nat)(te:TE):TE:=λσ H Q=>te σ H λv H1=>∃l I,∃n:Nat,∃rks:List Int,v=.ref l/\H1 l=some (.lst ((List.range n).map λi:Nat=>V.int (0+(i:Int))))/\σ[J]?=some (some (.ref I))/\H1 I=some (.lst (rks.map V.int))/\rks.length=n/\n<=1000/\qN H1 P q/\
 ∀H2 D (qs:List Nat),(∀b u,b≠P->H1 b=some u->H2 b=some u)->qN H2 P q->H1 D=none->D≠P->H2 D=some (.lst (qs.map λi:Nat=>V.int (i:Int)))->qs.Perm (List.range n)->(qs.Pairwise λi j=>rks.getD i 0*1000000+(i:Int)<=rks.getD j 0*1000000+(j:Int))->Q (.ref D) H2
def aar{kk cell c':Addr}{J:Arguments}{p:Value}{Q:VK}(I:z9 X pins σ H s)(S:TS.KeySc fy kx px)(hr:X.A.depth+3<recursionLimit)
 (hf:s.heap.get? f=some (PySem.W.kla_obj name eA J (TS.keyBody kx px p1 p2 p3 p4 p5 x1) fy [(kx,cell)] pm c' p)) (a0:s.heap.CodeRec (.ref c') eA) (r:s.heap.IsCell cell (some (.ref kk)))
 (hb:∀v:Value,bindArgs (PySem.W.kla_fn name eA J (TS.keyBody kx px p1 p2 p3 p4 p5 x1) fy [(kx,cell)] pm (.ref c') p) ⟨[v],[]⟩=pure [(px,v)])
 (hl:H l=some (.lst ((List.range n).map λi:Nat=>V.int (0+(i:Int))))) (hk:H kk=some (.lst (rks.map V.int))) (hn:rks.length=n) (hz:n<=1000)
 (q:∀D (qs:List Nat),H D=none->qs.Perm (List.range n)->(qs.Pairwise λi j=>rks.getD i 0*1000000+(i:Int)<=rks.getD j 0*1000000+(j:Int))->Q (.ref D) (upd H D (.lst (qs.map λi:Nat=>V.int (i:Int))))):
 wpAny (model X.prog X.w) X.A (call (.builtin "sorted") [.ref l] [(Str.ofString "key",.ref f)]) (EP X pins σ Q) X.xe s:=by
 obtain⟨a3,rv,pl,_⟩:=I.list (EU hl);obtain⟨g,rk,pk,_⟩:=I.list (EU hk);obtain⟨ps,rfl,U⟩:=uF rv;have lk:g.length=n:=by rw[<-rk.length,Af,hn]
 have lp:ps.length=n:=by have:=BH List.length U;rwa[Af,A5] at this
 have big:(100000:Nat)<=sizeLine:=by decide
 refine xj I.tk (TS.w_sortedK (rk:=λi=>rks.getD i 0) (B:=1000000) (kvs:=g) ⟨⟨name,eA,J,p1,p2,p3,p4,p5,x1,pm,p,c',cell,kk,hf,a0,r,pk.isList,hb⟩,I.nolimit⟩ S ?_ pl.isList (by lia) (λx hx=>?_) (λx hx=>?_) ?_ λh' tk qs D c hD keep hg T pw ht=>?_)
 ·show X.A.depth<recursionLimit;lia
 ·have C:x.1∈List.range n:=by rw[<-U];exact Cq hx
  have a1:=AS.mp C;refine⟨by lia,?_⟩;have e1:(rks.map V.int)[x.1]?=some (V.int (rks.getD x.1 0)):=by rw[An,Aj (by lia),Bv,Aj (by lia)];rfl
  obtain⟨u,e2,r2⟩:=Words.Paired.getP rk e1;obtain⟨t,rfl⟩:=(show ∃t,u=Value.int (rks.getD x.1 0) t from r2);exact⟨t,e2⟩
 ·have C:x.1∈List.range n:=by rw[<-U];exact Cq hx
  have a1:=AS.mp C;omega
 ·rw[U];exact BS
 ·have a2:H D=none:=I.hok.fresh hD;refine⟨.ref D,_,I.laid (t':=tk) (o:=.lst ((qs.map (·.1)).map λi:Nat=>V.int (i:Int))) keep hD ?_,rfl,q D (qs.map (·.1)) a2 ?_ ?_⟩
  ·refine⟨?_,qs.map TS.itV,c,?_,hg⟩
   ·rw[Af,Af,T.length_eq];lia
   ·rw[BP];exact tw qs
  ·rw[<-U];exact T.map _
  ·exact Cj.mpr pw
def z9.tabbed{P U:Addr}{ps more:Array Value}{oc fo:Obj}{tk:Nat}(I:z9 X pins σ H s)(T:H P=some (.tbl ps))(hx:Heap.ExtBut P s.heap h')(g:h'.get? P=some (PySem.W.tabObj (ps++more)))
 (hc:s.heap.objs.size<=U) (j:h'.get? U=some oc) (ht:0<tk):z9 X pins σ (upd (upd H P (.tbl (ps++more))) U (.frz oc (.own 0))) { s with heap:=h'.push fo,toks:=tk }:=by
 have nc:H U=none:=I.hok.fresh hc;have t:∀b,H b=none->b≠P:=λb e z=>by rw[z,T] at e;cases e
 have l:∀b u,H b=some u->b≠U:=λb u e z=>by rw[z,nc] at e;cases e
 have p:∀b o,s.heap.get? b=some o->b≠U:=λb o e=>A4 (AM (vb e) hc);have C:∀b o,b≠P->s.heap.get? b=some o->(h'.push fo).get? b=some o:=λb o n e=>u3 _ (hx b o n e);have J:∀b u,H b=some u->(∀ps,u≠.tbl ps)->b≠P:=λb u e d z=>by rw[z,T] at e;cases e;exact d _ rfl
 refine I.step (ch:=[]) (g':=s.gens) (d':=s.drawn) (t':=tk) (λ_ z=>nomatch z) (λb o _ _ _ e n=>C b o (t b n) e) (λb o _ _ _ e n=>⟨o.slots,C b o (t b n) e⟩) (λb o _ e n=>?_) (λb o _ e=>?_) (λb xs e=>?_) (λb o u e=>?_) (λb qs e=>?_) (λm hm=>?_) (λb u e=>?_) I.bare ht
 ·rw[qt (p b o e),qt (t b n)];exact n
 ·by_cases c:b=P
  ·subst c;exact⟨_,u3 _ g⟩
  ·exact⟨o,C b o c e⟩
 ·rw[qt (l b _ e),qt (J b _ e λ_ z=>by cases z)];exact e
 ·rw[qt (l b _ e),qt (J b _ e λ_ z=>by cases z)];exact e
 ·rw[qt (l b _ e)];by_cases c:b=P
  ·subst c;rw[T] at e;cases e;exact⟨more,j8⟩
  ·rw[qt c];exact⟨#[],by rw[e];simp⟩
 ·exact(hm.extBut hx (t _ I.free)).push _
 ·by_cases c:b=U
  ·subst c;rw[j8] at e;cases e;exact⟨u3 _ j,_,u3 _ j⟩
  ·rw[qt c] at e;by_cases d:b=P
   ·subst d;rw[j8] at e;cases e;exact u3 _ g
   ·rw[qt d] at e;refine(I.hok b u e).stay (λa v ha r=>C a v ?_ r) (λa r=>?_) (λa xs r=>?_)
    ·rcases ha with rfl|ha
     ·exact d
     ·exact J a _ ha λ_ z=>by cases z
    ·rw[qt (l a _ r),qt (J a _ r λ_ z=>by cases z)];exact r
    ·rw[qt (l a _ r),qt (J a _ r λ_ z=>by cases z)];exact r
def abu{te:TE}{J:Arguments}{U p:Pos}{ik:Nat}{P:Addr}(hg:Gl X "sorted")(hm:X.mg "sorted"=none)(he:PE X e te)(S:TS.KeySc fy kx px)(C:zP X.K X.env.code P)(hr:X.A.depth+3<recursionLimit)
 (hq:X.env.qual ++ "<lambda>" = q) (bq:X.N[ik]?=some kx) (ba:X.env.scope.names.lookup kx=some .cell) (bb:∃cell,X.env.cells.lookup kx=some cell/\closureFor fy X.env=pure [(kx,cell)])
 (bc:defaultsOf J X.env=([],[])) (hb:∀(name eA:Str) (cl:List (Str×Addr)) (pm cd ct v:Value),bindArgs (PySem.W.kla_fn name eA J (TS.keyBody kx px p1 p2 p3 p4 p5 x1) fy cl pm cd ct) ⟨[v],[]⟩=pure [(px,v)])
 (h1:starEach [e] X.env=(false,eval e X.env)::starEach [] X.env:=by rfl) (h2:(backTo pos (starEach [e] X.env)).any (·.1)=false:=by rfl)
 (h3:backTo pos (starEach [e] X.env)=(false,eval e X.env)::backTo pos (starEach [] X.env):=by rfl):
 PE X (.Call (.Name "sorted" p) [e] [⟨some "key",.Lambda J (TS.keyBody kx px p1 p2 p3 p4 p5 x1) fy U,pC⟩] pos) (akv P q ik te):=by
 intro a0 s σ H Q I h;refine wpAny_Call_Name_kw (gg I hg hm (by decide +kernel:bootBuiltins "sorted"=some (.builtin "sorted")) ?_ (by decide) (by decide));refine PyProof.Rows.callWith_kw ?_ h3 h2;rw[h3];refine Db (aT (he a0 s σ H _ I h) λv s1 ⟨x,H1,g,rx,l,kk,n,rks,ev,hl,hs,hk,hn,hz,T,qq⟩=>?_);refine Calls.spliced_nil ?_;subst ev;cases (show v=Value.ref l from rx);show wpAny _ _ (evalAll ((do let v <-eval (.Lambda J (TS.keyBody kx px p1 p2 p3 p4 p5 x1) fy U) X.env;standAt pos;pure v)::[])) _ _ s1;refine wpAny_evalAll_cons (Aa ?_);obtain⟨cell,a2,ac⟩:=bb;obtain⟨c,br,bd,lc,hC⟩:=C.ex;obtain⟨bm,ob,b1,b2,b3,b4,b5,b6,b7⟩:=C.bm;obtain⟨a5,tP,tok,a3⟩:=T;have be:s1.heap.Ns mainGlobals X.mg:=g.ok.mod.glob.keeps g.bk;have bf:s1.heap.get? P=some (PySem.W.tabObj a5):=g.hok P _ tP;have bg:PySem.W.CodeHd s1.heap c P:=hC _ (g.kIn c br lc);have a1:∀b o,X.base.get? b=some o->b≠P:=λb o e z=>by have:=(g.bs b o e).2;rw[z,tP] at this;cases this
 have aL:=g.ok.mod.kin bm ob b4;have hB:s1.heap.BuiltinsAt X.mg P:=⟨bm,ob,CW g.ok.mod.kin g.ok.mod.glob b1,b2,b3,a1 _ _ aL,(g.bs _ _ aL).1,b5,b6,b7⟩;have bu:mainGlobals≠P:=by obtain⟨o,es,ep,e,hd,_⟩:=g.ok.mod.glob;exact a1 _ _ e
 have a4:s1.heap.IsCell cell (some (.ref kk)):=by
  obtain⟨m,_,bv⟩:=g.loc;obtain⟨u,ru,lk⟩:=bv ik kx _ bq hs (.inr (.inl ba));cases (show u=Value.ref kk from ru);rcases lk with⟨k1,_⟩|⟨_,c2,e2,bw⟩
  ·have k1:X.env.scope.names.lookup kx=some .local:=k1;rw[ba] at k1;cases k1
  ·rw[a2] at e2;cases e2;exact bw
 refine PySem.W.kla_eval bc ?_;rw[hq];have k6:∀(s2:Shared) (H2:Hp) (f j:Addr) (r pm:Value),z9 X a0 σ H2 s2->s2.heap.get? f=some (PySem.W.kla_obj "<lambda>" q J (TS.keyBody kx px p1 p2 p3 p4 p5 x1) fy [(kx,cell)] pm j r)->s2.heap.CodeRec (.ref j) q->s2.heap.IsCell cell (some (.ref kk))->
  (∀b u,b≠P->H1 b=some u->H2 b=some u)->qN H2 P q->(∀b,H2 b=none->H1 b=none)->
  wpAny (model X.prog X.w) X.A (do standAt pos;pure (Value.ref f)) (λv s'=>wpAny (model X.prog X.w) X.A (evalAll []) (λvs ca=>wpAny (model X.prog X.w) X.A (call (.builtin "sorted") [.ref l] ([Str.ofString "key"].zip (v::vs))) (EP X a0 σ Q) X.xe ca) X.xe s') X.xe s2:=by
  intro s2 H2 f j r pm I2 g1 g2 g3 g4 g5 g6;refine Aa (wpAny_standAt (Ai (wpAny_evalAll_nil ?_)));have lP:l≠P:=λz=>by rw[z,tP] at hl;cases hl
  have kP:kk≠P:=λz=>by rw[z,tP] at hk;cases hk
  refine aar (n:=n) (rks:=rks) I2 S hr g1 g2 g3 (λv=>hb _ _ _ _ _ _ v) (g4 _ _ lP hl) (g4 _ _ kP hk) hn hz λD qs hD cc pw=>?_;have bh:D≠P:=λz=>by obtain⟨cn,e2,_⟩:=g5;rw[z,e2] at hD;cases hD
  refine qq _ D qs (λb u n e=>?_) ?_ (g6 D hD) bh j8 cc pw
  ·rw[qt (jd (g4 b u n e) hD)];exact g4 b u n e
  ·exact g5.keep (qt (AH bh)) λb o u e=>by rw[qt (jd e hD)];exact e
 cases hf:codeAmong U a5.toList with
 |some cv=>
  obtain⟨j,oc,vs,t,cg,f1,f2,f3⟩:=a3 U cv hf;subst cg;refine xj g.tk (PySem.W.kla_makeFunctionHit (mg:=X.mg) ac g.ok.glob be bd bg bf tok hf hB λr h' tk bi cx ht=>?_);have I2:z9 X a0 σ H1 { s1 with heap:=h'.push { cls:=.type "function",data:=.func (PySem.W.kla_fn "<lambda>" q J (TS.keyBody kx px p1 p2 p3 p4 p5 x1) fy [(kx,cell)] ((X.mg "__name__").getD .none) (.ref j) r) },toks:=tk }:=g.kept (t':=tk) λb o e=>u3 _ (bi b o e);obtain⟨ab,_⟩:=I2.hok j _ f1;refine k6 _ H1 _ j r _ I2 (vc _ rfl) ⟨j,oc,vs,t,rfl,ab,f2,f3⟩ ?_ (λb u _ e=>e) ⟨a5,tP,tok,a3⟩ (λb e=>e);obtain⟨o,e1,e2⟩:=a4;exact⟨o,u3 _ (bi _ _ e1),e2⟩
 |none=>
  refine xj g.tk (PySem.W.kla_makeFunction (mg:=X.mg) ac g.ok.glob be bd bg bf tok hf bu hB λj r h' tk hx bj cy bn ck ht=>?_);obtain⟨c2,oc,vs,t,e2,ab,f2,f3⟩:=bn;cases e2;have I2:=g.tabbed (fo:=PySem.W.kla_obj "<lambda>" q J (TS.keyBody kx px p1 p2 p3 p4 p5 x1) fy [(kx,cell)] ((X.mg "__name__").getD .none) j r) tP hx ck bj ab ht;have nc:H1 j=none:=g.hok.fresh bj;have cP:j≠P:=λz=>by rw[z,tP] at nc;cases nc
  refine k6 _ _ _ j r _ I2 (vc _ rfl) ⟨j,oc,vs,t,rfl,u3 _ ab,f2,f3⟩ ?_ (λb u n e=>?_) ?_ (λb e=>?_)
  ·obtain⟨o,e1,e2⟩:=a4;have nP:cell≠P:=λz=>by have:=g.freeC kx cell a2;rw[z,tP] at this;cases this
   exact⟨o,u3 _ (hx _ _ nP e1),e2⟩
  ·rw[qt (jd e nc),qt n];exact e
  ·refine⟨a5++#[rawInt U.line,rawInt U.col,.ref j],by rw[qt (AH cP),j8],?_,λbp cv z=>?_⟩
   ·rw[A6];exact qM _ tok
   ·rw[A6] at z;rcases xR _ tok z with z|z
    ·obtain⟨d',od,cm,t',k1,k2,k3⟩:=a3 bp cv z;have nP:d'≠P:=λz=>by rw[z,tP] at k2;cases k2
     exact⟨d',od,cm,t',k1,by rw[qt (jd k2 nc),qt nP];exact k2,k3⟩
    ·exact⟨j,oc,vs,t,z,j8,f2,f3⟩
  ·by_cases d:b=j
   ·subst d;exact nc
   ·rw[qt d] at e;by_cases d2:b=P
    ·subst d2;rw[j8] at e;cases e
    ·rw[qt d2] at e;exact e
end L2
namespace L3
open PySem L2
def aek(Pt:Addr)(q:Str)(J:Nat)(te:xx)(τ:jy)(L:qm)(Q:YK):Prop:=te τ L λy L1=>match y with
 |.ref l=>dr L1 l λys=>∃(n:Nat) (rks:List Int) (I:Addr),ys=aX 0 n/\vE τ J=some (.ref I)/\L1 I=some (.lst (rks.map Y.int))/\rks.length=n/\n<=1000/\L1 Pt=some (.tb q)/\
  ∀(D:Addr) (qs:List Nat),L1 D=none->qs.Perm (List.range n)->(qs.Pairwise λi j=>rks.getD i 0*1000000+(i:Int)<=rks.getD j 0*1000000+(j:Int))->Q (.ref D) (qe L1 D (.lst (qs.map λi:Nat=>Y.int (i:Int))))
 |_=>False
theorem qE{G:G3}{H:Hp}:∀{l:List Nat} {xs:List V},ve G H (l.map λi:Nat=>Y.int (0+(i:Int))) xs->xs=l.map λi:Nat=>V.int (0+(i:Int))
 |[],_,h=>h
 |_::_,_,⟨x,I,e,r,s⟩=>by subst e;cases r;rw[qE s];rfl
theorem gl{G:G3}{H:Hp}:∀{l:List Int} {xs:List V},ve G H (l.map Y.int) xs->xs=l.map V.int
 |[],_,h=>h
 |_::_,_,⟨x,I,e,r,s⟩=>by subst e;cases r;rw[gl s];rfl
theorem uZ{G:G3}{H:Hp}:∀qs:List Nat,ve G H (qs.map λi:Nat=>Y.int (i:Int)) (qs.map λi:Nat=>V.int (i:Int))
 |[]=>rfl
 |_::r=>⟨_,_,rfl,rfl,uZ r⟩
def aeq{I:Arguments}{U p:Pos}{r:Nat}(hg:Gl X "sorted")(hm:X.mg "sorted"=none)(he:QE X e te)(S:TS.KeySc fy kx px)(C:zP X.K X.env.code Pt)(hr:X.A.depth+3<recursionLimit)
 (hq:X.env.qual ++ "<lambda>" = q) (t:X.N[r]?=some kx) (a0:X.env.scope.names.lookup kx=some .cell) (g:∃cell,X.env.cells.lookup kx=some cell/\closureFor fy X.env=pure [(kx,cell)])
 (j:defaultsOf I X.env=([],[])) (hb:∀(name eA:Str) (cl:List (Str×Addr)) (pm cd ct v:Value),bindArgs (PySem.W.kla_fn name eA I (TS.keyBody kx px p1 p2 p3 p4 p5 x1) fy cl pm cd ct) ⟨[v],[]⟩=pure [(px,v)])
 (h1:starEach [e] X.env=(false,eval e X.env)::starEach [] X.env:=by rfl) (h2:(backTo pos (starEach [e] X.env)).any (·.1)=false:=by rfl)
 (h3:backTo pos (starEach [e] X.env)=(false,eval e X.env)::backTo pos (starEach [] X.env):=by rfl):
 QE X (.Call (.Name "sorted" p) [e] [⟨some "key",.Lambda I (TS.keyBody kx px p1 p2 p3 p4 p5 x1) fy U,pC⟩] pos) (aek Pt q r te):=
 EF (abu hg hm he S C hr hq t a0 g j hb h1 h2 h3) λσ H Q τ L Q3 rs rl z k=>by
  refine⟨τ,L,_,rs,rl,z,λv H1 y L1 t1 J rv z=>?_⟩;cases y with
  |ref l=>
   obtain⟨ys,e1,n,a1,kk,rfl,e2,e3,hn,hz,eP,qq⟩:=vq z;cases rv;obtain⟨xs,h1,r1⟩:=J l _ e1;obtain⟨xk,h2,r2⟩:=J kk _ e3;have T:qN H1 Pt q:=J Pt _ eP;cases qE r1;cases gl r2;obtain⟨v,hv,rv⟩:=rs.get r _ (qO _ _ e2);cases rv;refine⟨l,kk,n,a1,rfl,h1,hv,h2,hn,hz,T,λH2 D qs kp T2 hD a3 a2 pm pw=>?_⟩;have tb:∃o,H1 Pt=some (.tbl o):=let ⟨o,e,_⟩:=T;⟨o,e⟩;have t2:je H1 H2:=λa u i h=>kp a u (λc=>by obtain⟨o,e⟩:=tb;rw[c,e] at h;cases h;cases i) h
   refine k _ _ _ _ (t1.trans t2) (λa u e=>?_) (by rfl) (qq D qs (J.none hD) pm pw);by_cases c:a=D
   ·subst c;rw[q9] at e;cases e;exact⟨_,a2,uZ qs⟩
   ·rw[qb c] at e;by_cases d:a=Pt
    ·subst d;rw[eP] at e;cases e;exact T2
    ·obtain⟨x,hx⟩:=(J a u e).ex;exact(J a u e).keep t2 (by rw[hx];exact kp a x d hx)
  |_=>exact z.elim
structure alc(K:Ae)(x eA:Str)(st:Stmt)(f:Addr)(fd:FuncData)(Pt:Addr):Prop where
 ex:∃(oc:Value) (od:Option Addr) (kV ir pm:Value) (an:Option Addr) (fx ct:Value) (nC:Array (Option Value)),
  fd=PySem.W.fnOf x eA (xu st) (js st) (qz st) .none kV ir pm an fx ct/\K.lookup f=some ⟨oc,od,.func fd,nC⟩/\PySem.W.codeIn K fx eA=true/\zP K fx Pt
 kp:PySem.W.keepIn K (.ref f)=true
def ase{P:Program}{w:World}{K:Ae}{N:List Str}{k:Nat}(F:alc K x eA st f fd Pt)(S:bA N ps (qz st))(len:∀ys L Q,sp ys L Q->ys.length=ps.length)
 (I:∀(fx:Value) (A:Around) (outer:List Env) (s:Shared) (H:Hp) (E:XK),zP K fx Pt->wq k (A.deeper (PyProof.Rows.envOfC eA (qz st) s.heap.objs.size f fx))->
  ∃t,uv (lG CX0 P w K mg base N eA (qz st) f fx A outer s H E).nox (js st) t/\∀ys L Q,sp ys L Q->t { nx:=λ_ L'=>gc Q .non L',rt:=gc Q } (i6 N ys) L):Fn3 P w K mg base (k+1) f fd ps sp:=by
 obtain⟨oc,od,kV,g,pm,an,fx,ct,j,rfl,lk,U,C⟩:=F.ex;have F0:Fun K x eA st f _:=⟨⟨oc,od,kV,g,pm,an,fx,ct,j,rfl,lk,U⟩,F.kp⟩;refine ajb lk U S (λvs H Q E ⟨ys,L,l,o,rl,z,_⟩=>by rw[<-o.length];exact len ys L l z) λA outer s H vs Q E hr ⟨ys,L,l,o,rl,z,k⟩=>?_;obtain⟨t,ht,q⟩:=I fx A outer s H E C hr;refine⟨_,lJ.nox ht,i6 N ys,L,_,pJ o,rl,q ys L l z,?_⟩;exact⟨λσ p τ L' r a1 J ⟨L2,T,q2⟩=>k .non p .non L2 r (J.sub T) (by rfl) q2,λv p y L' r J a0 ⟨L2,T,q2⟩=>k v p y L2 r (J.sub T) a0 q2,λ_ _ _ _ _ _ _ z=>z.elim,λ_ _ _ _ _ _ _ z=>z.elim⟩
def rA(Pt:Addr)(q:Str):jx:=λys L Q=>∃I:List Int,ys=[.sq (I.map Y.int)]/\I.length<=63/\L=qe (λ_=>none) Pt (.tb q)/\∀L',Q (.bl true) L'
def spTopT(q:Str)(K:Ae)(Pt:Addr):Sp:=λvs H Q _=>∃(a:Addr) (I:List Int),vs=[.ref a]/\SqF K H a (I.map V.int)/\I.length<=63/\H Pt=some (.tbl #[])/\∀H',Q (.bl true) H'
def afy{vs:List V}{Q:VK}{E:XK}(h:spTopT q G.K Pt vs H Q E):dn G (rA Pt q) vs H Q E:=by
 obtain⟨a,I,rfl,J,U,g,z⟩:=h;refine⟨[.sq (I.map Y.int)],qe (λ_=>none) Pt (.tb q),λy _=>y=.bl true,ve.one ⟨a,_,rfl,J,tf I⟩,(λb u e=>?_),⟨I,rfl,U,rfl,λ_=>rfl⟩,?_⟩
 ·by_cases c:b=Pt
  ·subst c;rw[q9] at e;cases e;exact⟨#[],g,trivial,λpos o z=>by cases z⟩
  ·rw[qb c] at e;cases e
 ·rintro v j y p _ _ l rfl;cases l;exact z j
end L3
namespace L2
open PySem PySem.Spec PyProof.Rows
def lessK(Pt:Addr):Ae->Ae
 |[]=>[]
 |(a,o)::r=>if a==Pt then lessK Pt r else(a,o)::lessK Pt r
theorem v0{Pt a:Addr}(h:a≠Pt):∀K:Ae,(lessK Pt K).lookup a=K.lookup a
 |[]=>rfl
 |(b,o)::r=>by
  unfold lessK;by_cases c:(b==Pt)=true
  ·rw[Aw c,v0 h r,Bb];have:(a==b)=false:=by have I:=eq_of_beq c;subst I;exact Ek h
   rw[this]
  ·rw[As c,Bb,Bb,v0 h r]
theorem aN{Pt:Addr}:∀K:Ae,(lessK Pt K).lookup Pt=none
 |[]=>rfl
 |(b,o)::r=>by
  unfold lessK;by_cases c:(b==Pt)=true
  ·rw[Aw c];exact aN r
  ·rw[As c,Bb];have:(Pt==b)=false:=by cases d:Pt==b with|false=>rfl|true=>exact absurd (beq_iff_eq.mpr (eq_of_beq d).symm) c
   rw[this];exact aN r
def oI{a:Addr}{K:Ae}{o:Obj}(e:(lessK Pt K).lookup a=some o):a≠Pt/\K.lookup a=some o:=by
 by_cases c:a=Pt
 ·subst c;rw[aN] at e;cases e
 ·rw[v0 c] at e;exact⟨c,e⟩
def lessK_in{K:Ae}(X:K.In h):(lessK Pt K).In h:=λa o e=>X a o (oI e).2
structure aj2(K:Ae)(Pt:Addr):Prop where
 tab:K.lookup Pt=some (PySem.W.tabObj #[])
 hd:∃c,∀h:Heap,K.In h->PySem.W.CodeHd h c Pt
 st:Pt≠cStatics
section
variable {K:Ae}(T:K.lookup Pt=some (PySem.W.tabObj #[]))
include T
def ns_dn{a:Addr}{r:Option (Option Value)}(e:PySem.W.nsIn K a x=r):PySem.W.nsIn (lessK Pt K) a x=r:=by
 rw[<-e];unfold PySem.W.nsIn;by_cases c:a=Pt
 ·subst c;rw[aN,T]
 ·rw[v0 c]
def lk_dn{a:Addr}{o:Obj}(e:K.lookup a=some o)(n:o.cls≠.none):(lessK Pt K).lookup a=some o:=by
 rw[v0 ?_]
 ·exact e
 ·rintro rfl;rw[T] at e;cases e;exact n rfl
def code_dn{cd:Value}(e:PySem.W.codeIn K cd q=true):PySem.W.codeIn (lessK Pt K) cd q=true:=by
 unfold PySem.W.codeIn at e ⊢;split at e
 ·rename_i c;by_cases d:c=Pt
  ·subst d;rw[T] at e;simp at e
  ·rw[v0 d];exact e
 ·cases e
def akp{v:Value}:PySem.W.ownIn (lessK Pt K) x v=PySem.W.ownIn K x v:=by
 unfold PySem.W.ownIn;split
 ·rfl
 ·rename_i a;by_cases d:a=Pt
  ·subst d;rw[aN,T]
  ·rw[v0 d];split
   ·exact ns_dn T rfl
   ·rfl
 ·rfl
theorem tK{x:Str}:∀l:List Value,PySem.W.alongIn (lessK Pt K) x l=PySem.W.alongIn K x l
 |[]=>rfl
 |c::r=>by unfold PySem.W.alongIn;rw[akp T,tK r]
def find_dn{v:Value}:PySem.W.findIn (lessK Pt K) v x=PySem.W.findIn K v x:=by
 unfold PySem.W.findIn;split
 ·rfl
 ·rename_i a;by_cases d:a=Pt
  ·subst d;rw[aN,T]
  ·rw[v0 d];split
   ·exact tK T _
   ·rfl
 ·rfl
def lv{a:Addr}(n:a≠Pt):PySem.W.specialIn (lessK Pt K) (.ref a) x=PySem.W.specialIn K (.ref a) x:=by unfold PySem.W.specialIn PySem.W.typeIn;dsimp only;rw[v0 n];congr 1;funext t;exact find_dn T
def keep_dn{f:Value}(e:PySem.W.keepIn K f=true):PySem.W.keepIn (lessK Pt K) f=true:=by
 unfold PySem.W.keepIn at e ⊢;split at e
 ·rename_i a;by_cases d:a=Pt
  ·subst d;rw[T] at e;simp at e
  ·rw[v0 d,lv T d];exact e
 ·cases e
end
def aba{P:Program}{w:World}{K:Ae}{mb:Str->Option Value}{CX:CXT}{k:Nat}{a:Addr}{sp:Sp}{I:Shared}{T:List Int}
 (KX:K.In I.heap) (TI:aj2 K Pt) (a0:I.heap.Ns mainGlobals mg) (hb:I.heap.Ns builtinsNs mb) (ac:∀x:Str,x ≠ "__name__" -> mb x=bootBuiltins x) (a1:I.heap.NoLimit) (hg:I.gens=#[]) (aL:0<I.toks)
 (p:I.heap.get? a=some { cls:=.type "list",data:=.seq vs.toArray }) (hi:IntsAre vs T) (hl:T.length<=sizeLine) (hr:wq k callerA)
 (F:∀base:Heap,(lessK Pt K).In base->base.Ns mainGlobals mg->bH P w (lessK Pt K) mg base CX k fa fd [x] sp) (l:∀(s:Shared) (u:Value),BindsTo s fd ⟨[u],[]⟩ [(x,u)])
 (ba:∀H:Hp,H Pt=some (.tbl #[])->(H a=none\/∃o xs,H a=some (.frz o (.lst xs)))->a9 (lessK Pt K) H a (T.map V.int)->sp [.ref a] H (λv _=>v=.bl true) λ_ _ _=>False)
 (bb:∀H e s',CX [] H I (λ_ _ _=>False) e s'->False):
 codeAny (model P w) callerA (.call (.ref fa) ⟨[.ref a],[]⟩) (λr s'=>r=.ok (.ret (.bool true))/\OldK I.heap s'.heap/\s'.os=I.os/\AllBare s'.gens) I:=by
 have rv:=qD hi;have a2:=hi.length;have hP:I.heap.get? Pt=some (PySem.W.tabObj #[]):=KX Pt _ TI.tab;have U:a≠Pt:=λz=>by rw[z,hP] at p;cases p
 have core:∀H:Hp,H Pt=some (.tbl #[])->(∀b,b≠a->b≠Pt->H b=none)->(H a=none\/∃o xs,H a=some (.frz o (.lst xs)))->a9 (lessK Pt K) H a (T.map V.int)->(∀u,H a=some u->vg P w H I.heap a u)->(H a≠none->K.lookup a=none)->
  codeAny (model P w) callerA (.call (.ref fa) ⟨[.ref a],[]⟩) (λr s'=>r=.ok (.ret (.bool true))/\OldK I.heap s'.heap/\s'.os=I.os/\AllBare s'.gens) I:=by
  intro H HP Hn HO HS a3 bc;have a4:gC P w H I.heap:=λb u e=>by
   by_cases c:b=a
   ·subst c;exact a3 u e
   ·by_cases d:b=Pt
    ·subst d;rw[HP] at e;cases e;exact hP
    ·rw[Hn b c d] at e;cases e
  have J:∀{b:Addr} {o:Obj},I.heap.get? b=some o->H b=none->(sD I.heap H).get? b=some o:=λe n=>adb e n;have bd:∀{b:Addr} {o:Obj} {t:Array DictEntry} {C:Nat},I.heap.get? b=some o->o.data=.dict t C->H b=none:=λ{b o t C} e d=>by
   refine Hn b (λz=>?_) λz=>?_
   ·subst z;rw[p] at e;cases e;have d':Data.seq vs.toArray _=Data.dict t C:=d;cases d'
   ·subst z;rw[hP] at e;cases e;have d':Data.fields _=Data.dict t C:=d;cases d'
  have g:∀{b:Addr} {m:Str->Option Value},I.heap.Ns b m->(sD I.heap H).Ns b m:=λ{b m} ⟨o,t,C,e,d,r⟩=>⟨o,t,C,J e (bd e d),d,r⟩;have a5:(lessK Pt K).In (sD I.heap H):=λb o e=>by
   obtain⟨n,e⟩:=oI e;refine J (KX b o e) ?_;by_cases c:b=a
   ·subst c;cases q:H b with|none=>rfl|some u=>rw[bc (by rw[q];simp)] at e;cases e
   ·exact Hn b c n
  have hM:Mod (lessK Pt K) mg (sD I.heap H):=⟨a5,g a0,⟨mb,g hb,ac⟩,let ⟨mc,h1,h2⟩:=a1;⟨mc,g h1,h2⟩⟩;have e0:wT P w (lessK Pt K) mg (sD I.heap H) callerA [] I H:=⟨rfl,hM,λb o e=>ahz e,Ec (abj _ _),trivial,λb hb=>absurd (show b∈([]:List Addr) from hb) (by simp),a4,.of_eq hg,aL⟩;refine codeAny_mono ((F _ a5 (g a0)).run callerA [] I H ⟨[.ref a],[]⟩ [.ref a] [.ref a] _ _ hr e0 (l I (.ref a)) (.cons rfl .nil) (ba H HP HO HS)) λr s' h=>?_;cases r with
  |error e=>exact(bb H e s' h).elim
  |ok fl=>
   cases fl with
   |next=>exact False.elim h
   |brk=>exact False.elim h
   |cont=>exact False.elim h
   |ret u=>
    obtain⟨v,H',os,bare,un,j,r',q,_⟩:=h;have q':v=.bl true:=q;subst q';obtain rfl:u=Value.bool true:=r';obtain⟨more,em⟩:=un.tbls Pt _ HP;have gP:s'.heap.get? Pt=some (PySem.W.tabObj (#[]++more)):=j Pt _ em;have kp:∀b o,b≠Pt->I.heap.get? b=some o->s'.heap.get? b=some o:=λb o n e=>by
     have ab:H b=none->s'.heap.get? b=some o:=λz=>un.keep b o e z (by intro z;exact absurd (show b∈([]:List Addr) from z) (by simp)) (by simp);by_cases c:b=a
     ·subst c;rcases HO with z|⟨ob,xs,z⟩
      ·exact ab z
      ·have z2:=un.frzs _ _ _ z;obtain⟨e1,_⟩:=a4 _ _ z;obtain⟨e2,_⟩:=j _ _ z2;rw[e] at e1;cases e1;exact e2
     ·exact ab (Hn b c n)
    obtain⟨c,hc⟩:=TI.hd;refine⟨rfl,⟨λb o e=>?_,λb o e=>?_⟩,os,bare⟩
    ·by_cases n:b=Pt
     ·subst n;rw[hP] at e;cases e;exact .inr (.inl ⟨((hc _ KX).tab hP).isCodeTable,rfl,#[],more,rfl,gP⟩)
     ·exact .inl (kp b o n e)
    ·by_cases n:b=Pt
     ·subst n;exact⟨_,gP⟩
     ·exact⟨o,kp b o n e⟩
 cases hk:K.lookup a with
 |some o=>
  have e:=KX a o hk;rw[p] at e;cases e;refine core (λb=>if b=Pt then some (.tbl #[]) else none) (Aw rfl) (λb _ n=>As n) (.inl (As U)) (.inr ⟨_,vs.toArray,_,(v0 U K).trans hk,rfl,rfl,rfl,by rw[Ar,a2];exact hl,by simpa using rv⟩) (λu z=>by have z':=(As U).symm.trans z;cases z') λz=>absurd (As U) z
 |none=>
  refine core (λb=>if b=a then some (.frz { cls:=.type "list",data:=.seq vs.toArray } (.lst (T.map V.int))) else if b=Pt then some (.tbl #[]) else none) ((As (AH U)).trans (Aw rfl)) (λb n1 n2=>(As n1).trans (As n2)) (.inr ⟨_,_,Aw rfl⟩) (.inl (.inr ⟨_,Aw rfl⟩)) (λu z=>?_) λ_=>hk;have z':=(Aw rfl).symm.trans z;cases z';exact⟨p,by rw[Af];exact hl,vs,_,rv,p⟩
def walk_ofZT{l:PySem.W.OpenLaw}{k:Nat}{q:Program}{loose:List Str}{XP:(Str->Option Value)->Heap->Prop}{as0:List Addr}{N t:Nat}{d:DefRec}{K:Params->Ae}{CX:CXT}{sp:Ae->Addr->Sp}
 (hn:l.most=some n) (r:n<=sizeLine) (C:d.params.defaults=[]) (hr:wq k callerA) (ek:∀P,as0=(K P).map (·.1)) (a0:0<t)
 (F:∀(w:World) (mg:Str->Option Value) (fa:Addr) (h:Heap),(K w.params).In h->h.Ns mainGlobals mg->mg d.name=some (.ref fa)->
  ∃Pt:Addr,aj2 (K w.params) Pt/\∃fd:FuncData,(∀(s:Shared) (u:Value),BindsTo s fd ⟨[u],[]⟩ [(x,u)])/\
   ∀base:Heap,(lessK Pt (K w.params)).In base->base.Ns mainGlobals mg->bH l.prog w (lessK Pt (K w.params)) mg base CX k fa fd [x] (sp (lessK Pt (K w.params)) Pt))
 (a1:∀(K:Ae) (Pt:Addr) (H:Hp) (a:Addr) (p:List Int),p.length<=n->H Pt=some (.tbl #[])->(H a=none\/∃o xs,H a=some (.frz o (.lst xs)))->a9 K H a (p.map V.int)->sp K Pt [.ref a] H (λv _=>v=.bl true) λ_ _ _=>False)
 (a2:∀(H:Hp) (s:Shared) (e:Value) (s':Shared),CX [] H s (λ_ _ _=>False) e s'->False):
 PySem.W.WalkX q loose XP (PySem.W.X.obsZ as0) (PySem.W.X.valZ K N t) l.row.toRowW d [] (λf vs=>PySem.call f vs):=by
 refine Att.attach_callZ hn C ek a0 λw a4 U mg mb fa o pm cd a5 a vs p G KX tk ho hd ab a3 j J I hg=>?_;obtain⟨Pt,TI,fd,hb,hF⟩:=F w mg fa _ KX G.T.g a3;exact aba KX TI G.T.g G.T.b G.T.builtins G.T.nolimit hg tk j J (AK I r) hr hF hb (λH hP hO hS=>a1 _ Pt H a p I hP hO hS) λH e s'=>a2 H U e s'
end L2
namespace L3
open PySem L2
def top_startT :∀(K:Ae) (Pt:Addr) (H:Hp) (a:Addr) (I:List Int),I.length<=63->H Pt=some (.tbl #[])->(H a=none\/∃o xs,H a=some (.frz o (.lst xs)))->a9 K H a (I.map V.int)->spTopT q K Pt [.ref a] H (λv _=>v=.bl true) λ_ _ _=>False:=by
 intro K Pt H a I J U g j;refine⟨a,I,rfl,?_,J,U,λ_=>rfl⟩;rcases j with(h|⟨o,h⟩)|h
 ·rcases g with z|⟨o,xs,z⟩<;>rw[h] at z<;>cases z
 ·exact .inl ⟨o,h⟩
 ·exact .inr h
structure DefInT(K:Ae)(x:Str)(st:Stmt)(Pt:Addr):Prop where
 ex:∃(f:Addr) (kV ir pm:Value) (an:Option Addr) (fx ct:Value),PySem.W.nsIn K mainGlobals x=some (some (.ref f))/\alc K x x st f (PySem.W.fnOf x x (xu st) (js st) (qz st) .none kV ir pm an fx ct) Pt
def DefInT.use{K:Ae}(D:DefInT K x st Pt)(X:K.In h)(G:h.Ns mainGlobals mg)
 (I:∀(kV ir pm:Value) (an:Option Addr) (fx ct:Value) (us:List Value),us.length=ps.length->bindArgs (PySem.W.fnOf x x (xu st) (js st) (qz st) .none kV ir pm an fx ct) ⟨us,[]⟩=pure (ps.zip us)):
 ∃f fd,alc K x x st f fd Pt/\aW K fd ps []/\mg x=some (.ref f):=by
 obtain⟨f,kV,ir,pm,an,fx,ct,a,F⟩:=D.ex;exact⟨f,_,F,.all (I kV ir pm an fx ct),CW X G a⟩
end L3
namespace L2
open PySem PySem.Spec PyProof.Rows
section
variable {ky:St}
def z9.ren(M:List Str)(I:z9 X pins σ H s)(J:M.length=X.N.length)(hs:ky.length=σ.length)(h:∀(j:Nat) v,ky[j]?=some (some v)->σ[j]?=some (some v)/\X.N[j]?=M[j]?):z9 { X with N:=M } pins ky H s:=by obtain⟨m,U,l⟩:=I.loc;have o:=I.ok;exact { ok:=⟨o.mod,o.kind,o.glob,o.blt,o.above,o.inj,o.has,o.cab,o.hd,o.frames,o.stk,o.exf,o.bs,o.bsz,o.noex,o.exfs,o.funs,o.frf⟩,os:=I.os,bare:=I.bare,base:=I.base,cell:=I.cell,free:=I.free,freeC:=I.freeC,pin:=I.pin,hok:=I.hok,tk:=I.tk,len:=(by rw[hs,I.len];exact J.symm),loc:=⟨m,U,λi x v g p r=>by obtain⟨a,b⟩:=h i v p;exact l i x v (b.trans g) a r⟩ }
def um(h:(σ.set i none)[j]?=some (some v)):j≠i/\σ[j]?=some (some v):=by
 by_cases c:i=j
 ·subst c;rw[DW] at h;cases e:σ[i]? with|none=>rw[e] at h;cases h|some o=>rw[e] at h;cases h
 ·rw[Br c] at h;exact⟨AH c,h⟩
def aoz(i:Nat)(t:TS):TS:=λD σ H=>t { nx:=λky H'=>D.nx (ky.set i none) H',rt:=D.rt,bk:=λky H'=>D.bk (ky.set i none) H',ct:=λky H'=>D.ct (ky.set i none) H' } (σ.set i none) H
def ait{t:TS}(h:PS { X with N:=X.N.set i x } st t):PS X st (aoz i t):=by
 intro g s p H D I z;have C:z9 { X with N:=X.N.set i x } g (p.set i none) H s:=I.ren _ (by rw[Bp]) (by rw[Bp]) λj v e=>by obtain⟨a,b⟩:=um e;exact⟨b,by rw[Br (AH a)]⟩
 refine aT (h g s _ H _ C z) λf o q=>?_;have back:∀{U:St} {l:Hp},z9 { X with N:=X.N.set i x } g U l o->z9 X g (U.set i none) l o:=λ{U l} J=>
  z9.ren (X:={ X with N:=X.N.set i x }) X.N J (by show X.N.length=(X.N.set i x).length;rw[Bp]) (by rw[Bp]) λj v e=>by obtain⟨a,b⟩:=um e;exact⟨b,by show(X.N.set i x)[j]?=_;rw[Br (AH a)]⟩
 cases f with
 |next=>obtain⟨U,l,J,q⟩:=q;exact⟨_,l,back J,q⟩
 |brk=>obtain⟨U,l,J,q⟩:=q;exact⟨_,l,back J,q⟩
 |cont=>obtain⟨U,l,J,q⟩:=q;exact⟨_,l,back J,q⟩
 |ret u=>obtain⟨v,U,l,J,r,q⟩:=q;exact⟨v,_,l,back J,r,q⟩
def aon(i j k:Nat)(ta:TA):TS:=λD σ H=>ta σ H λvs H1=>∃u v w,vs=[u,v,w]/\D.nx (((σ.set i (some u)).set j (some v)).set k (some w)) H1
def afx{k:Nat}{y z:Str}{a b:Expr}{ta:TA}{px C pt:Pos}{kt T U}(hc:X.calm=true)(hN:X.N.Nodup)(hi:X.N[i]?=some x)(hj:X.N[j]?=some y)(hk:X.N[k]?=some z)(a0:i≠j)(a1:i≠k)(a2:j≠k)
 (hx:X.env.scope.names.lookup x=some .local) (hy:X.env.scope.names.lookup y=some .local) (hz:X.env.scope.names.lookup z=some .local) (ha:PA X [a,b,c] ta)
 (hw:swappedStores [.Tuple [.Name x px,.Name y py,.Name z C] kt pt] (.Tuple [a,b,c] T U) X.env=pure (some [x,y,z]))
 (hs:swapsWithSole [.Tuple [.Name x px,.Name y py,.Name z C] kt pt] (.Tuple [a,b,c] T U) pos.line X.env=pure false:=by rfl):
 PS X (.Assign [.Tuple [.Name x px,.Name y py,.Name z C] kt pt] (.Tuple [a,b,c] T U) pos) (aon i j k ta):=by
 intro J s σ H D I h;rw[exec_Assign_arm];refine Aa (wpAny_standAt ?_);rw[hs];refine Aa (Ai ?_);rw[As (by decide)];refine Aa (Tuple_ (aT (ha _ J s σ H _ I h) λus g ⟨vs,H1,I1,r1,q1⟩=>?_));obtain⟨v,w,v3,e1,q1⟩:=q1;subst e1;obtain⟨l,r,t,rfl,rv,a3,r3⟩:∃l r t,us=[l,r,t]/\zv v l/\zv w r/\zv v3 t:=by
  cases r1 with
  |cons p q=>
   cases q with
   |cons p' q'=>
    cases q' with
    |cons a4 a5=>
     cases a5;exact⟨_,_,_,rfl,p,p',a4⟩
 refine Bn ?_ (by show 3<=sizeLine;decide);have I2:z9 X J σ H1 { g with heap:=g.heap.push { cls:=.type "tuple",data:=.seq [l,r,t].toArray } }:=I1.kept (t':=g.toks) λb o e=>u3 _ e;rw[hw];refine Aa (Ai ?_);show wpAny (model X.prog X.w) X.A (do rule "assign.swapped-stores";let items <-unpackItems (.ref g.heap.objs.size) 3 none;assignInOrder [λv=>bindName X.env z v,λv=>bindName X.env y v,λv=>bindName X.env x v] items.reverse;pure Flow.next) _ _ _;refine Aa (Bu (Aa (unpackItems_tuple (items:=#[l,r,t]) (I.ok.hd hc) (IsTup.new g.heap _) λh' ab=>?_)));have I3:=I2.kept (h':=h') (t':=g.toks) λb o e=>ab b o (A4 (vb e)) e;show wpAny _ _ (assignInOrder [λv=>bindName X.env z v,λv=>bindName X.env y v,λv=>bindName X.env x v] [t,r,l] >>= λ_=>pure Flow.next) _ _ _;refine Aa (assignInOrder_cons (wpAny_bindName (bG I3 hN hk (.inl hz) r3 (λs2 I4=>?_) (.inr hz))));refine assignInOrder_cons (wpAny_bindName (bG I4 hN hj (.inl hy) a3 (λs3 I5=>?_) (.inr hy)));refine assignInOrder_cons (wpAny_bindName (bG I5 hN hi (.inl hx) rv (λs4 I6=>assignInOrder_nil (Ai ?_)) (.inr hx)));rw[DM _ _ (AH a0),DM _ _ (AH a1),DM _ _ (AH a2)] at I6;exact⟨_,H1,I6,q1⟩
end
end L2
namespace L3
open PySem L2
def gm:jy->Nat->jy
 |[],_=>[]
 |_::r,0=>none::r
 |o::r,i+1=>o::gm r i
theorem uf:∀(τ:jy) (i:Nat),gm τ i=τ.set i none
 |[],_=>rfl
 |_::_,0=>rfl
 |o::r,i+1=>by unfold gm;rw[uf r i];rfl
def yP(i:Nat)(t:ww)(D:ke)(τ:jy)(L:qm):Prop:=t { nx:=λI L'=>D.nx (gm I i) L',rt:=D.rt,bk:=λI L'=>D.bk (gm I i) L',ct:=λI L'=>D.ct (gm I i) L' } (gm τ i) L
def vn.forget(h:vn G H σ τ)(i:Nat):vn G H (σ.set i none) (gm τ i):=by
 rw[uf];refine⟨by rw[Bp,Bp];exact h.len,λj y e=>?_⟩;by_cases c:i=j
 ·subst c;rw[DW] at e;cases I:τ[i]? with|none=>rw[I] at e;cases e|some o=>rw[I] at e;cases e
 ·rw[Br c] at e ⊢;exact h.get j y e
def rT(x:Str){t:ww}(h:QS { X with N:=X.N.set i x } st t):QS X st (yP i t):=
 EK (ait h) λD T H p L D3 r C z k=>⟨gm p i,L,_,r.forget i,C,z,
  ⟨λU g j l o I J q=>k.nx _ g _ l o (I.forget i) J q,k.rt,λU g j l o I J q=>k.bk _ g _ l o (I.forget i) J q,λU g j l o I J q=>k.ct _ g _ l o (I.forget i) J q⟩⟩
def ajp(i j k:Nat)(ta:fC)(D:ke)(τ:jy)(L:qm):Prop:=ta τ L λys L'=>match ys with
 |[u,v,w]=>D.nx (bU (bU (bU τ i u) j v) k w) L'
 |_=>False
def ahu{k:Nat}{y z:Str}{a b:Expr}{px J pt:Pos}{U:Nat}{I:Pos}(hc:X.calm=true)(hN:X.N.Nodup)(hi:X.N[i]?=some x)(hj:X.N[j]?=some y)(hk:X.N[k]?=some z)(g:i≠j)(l:i≠k)(o:j≠k)
 (lx:X.env.scope.names.lookup x=some .local) (ly:X.env.scope.names.lookup y=some .local) (lz:X.env.scope.names.lookup z=some .local) (h:QA X [a,b,c] tr)
 (h1:swappedStores [.Tuple [.Name x px,.Name y py,.Name z J] kt pt] (.Tuple [a,b,c] U I) X.env=pure (some [x,y,z])) (h2:swapsWithSole [.Tuple [.Name x px,.Name y py,.Name z J] kt pt] (.Tuple [a,b,c] U I) pos.line X.env=pure false:=by rfl):
 QS X (.Assign [.Tuple [.Name x px,.Name y py,.Name z J] kt pt] (.Tuple [a,b,c] U I) pos) (ajp i j k tr):=EK (afx hc hN hi hj hk g l o lx ly lz h h1 h2) λD σ H T L D3 rs rl z kk=>
 ⟨T,L,_,rs,rl,z,λvs H1 ys L1 t1 p r t=>by
  split at t
  ·rename_i u v w;obtain⟨x1,a0,rfl,r1,x2,a1,rfl,r2,x3,C,rfl,r3,e3⟩:=r;cases (show C=[] from e3);exact⟨x1,x2,x3,rfl,kk.nx _ H1 _ L1 t1 (show vn _ _ _ (bU (bU (bU T i u) j v) k w) by rw[aH,aH,aH];exact(((rs.ts t1).set r1).set r2).set r3) p t⟩
  ·exact t.elim⟩
def sS:bootBuiltins "min"=some (.builtin "min"):=by decide +kernel
def ais(x:Y)(lo hi:Option Int)(L:qm)(Q:YK):Prop:=match x with
 |.tup ys=>¬(HT.sIx ys.length 0 lo=0/\HT.sIx ys.length ys.length hi=ys.length)/\Q (.tup (ui ys lo hi)) L
 |_=>False
def aez(K:Ae)(P:Program)(w:World)(U:X.K=K:=by rfl)(g:X.prog=P:=by rfl)(hw:X.w=w:=by rfl):sW X (ai2 ⟨K,P,w⟩ ais):=by
 subst U g hw;refine sW.imp aks λx lo J H Q ⟨y,L,Q3,j,l,z,k⟩=>?_;cases y with
 |tup o=>
  obtain⟨a,t,e,sq,r⟩:=j;obtain⟨C,T⟩:=z;exact⟨a,t,e,sq,by rw[<-r.length];exact C,λp I=>k _ _ (.tup (ui o lo J)) L (EE I) (l.skip I) ⟨p,_,rfl,.inl (.inl j8),(qP r lo J).ts (EE I)⟩ T⟩
 |_=>exact z.elim
def wX{a:Addr}{keep:qm->Prop}(h:∀H L,je H₀ H->jb G H L->keep L->∃xs,dq G.K H a xs/\ve G H ys xs):gM G H₀ (Itt G.K a) ys keep where
 go:=λi H L t I J U=>by
  obtain⟨xs,sq,r⟩:=h H L t I J;have:i<xs.length:=by rw[<-r.length];exact U
  exact⟨xs,xs[i],sq,Aj this⟩
 yld:=λi H L x o y t I J g ⟨e,f⟩=>by subst e;obtain⟨xs,sq,r⟩:=h _ L t I J;obtain⟨p,j,l⟩:=r.get g;have:=f xs sq;rw[j] at this;cases this;exact⟨ED _,I,l⟩
 stop:=λH L t I J=>by obtain⟨xs,sq,r⟩:=h H L t I J;exact⟨xs,sq,by rw[r.length];exact Al _⟩
def afl(h:QE X e te):QI X tg e (adq te):=PI.imq (alk h) λσ H R j L R3 l o z k=>by
 refine⟨j,L,_,l,o,z,λv p y C T I J U=>?_⟩;cases y with
 |tup ys=>
  obtain⟨a,g,e,sq,r⟩:=J;exact⟨a,e,⟨g,sq⟩,k _ p ys (λ_=>True) C T I (wX λH L t _ _=>⟨g,dq.ts sq t,r.ts t⟩) U⟩
 |_=>exact U.elim
def dp3{k:Nat}(I:wq k A):A.depth+3<recursionLimit:=by have:=I.dp;omega
abbrev lamQ:Str:="_law_order.<locals>.<lambda>"
open PySem L2 Words
def sO(Pt:Addr)(I:jx):ww:=(qr (zr (kc qx) (qg 2))
 (qr (dP (gQ (qa 0)) (aD 2 (zn (qg 3) (zn (qg 4) wf))) (qr (zr (zj aG (zd I (qf (qa 1) (aB (qa 3) (jk 39373)))) (jk 40)) (qg 5))
 (eE (xc (bV (yB (cR true (qa 4))) (cU (bQ 4) (jk 3))) (zr (zj kz (zj kz (qa 5) (jk 1)) (cY uP (qf (zj aR (qa 2) (x9 4 1)) (qf (zj aR (qa 2) (x9 4 2)) qx)))) (qg 5)) jm)
 (jw (am j5 (qa 2) (aI (qa 5)))))))
 (ji (aek Pt lamQ 2 (nW (bQ 0))))))
def uz(ks:List (Option Kn)):Prop:=∀(p:Nat) (e:Bool) (i j:Nat),ks[p]?=some (some (.nd e i j))->i<p/\j<p
def zH(ks:List (Option Kn))(rks:List Int):Prop:=∀(p:Nat) (e:Bool) (i j:Nat),p<rks.length->ks[p]?=some (some (.nd e i j))->rks.getD i 0<rks.getD p 0/\rks.getD j 0<rks.getD p 0
def mW{r:Int}(h:i<rks.length):(rks++[r]).getD i 0=rks.getD i 0:=by rw[Bv,Bv,AB h]
def ad6{r:Int}:(rks++[r]).getD rks.length 0=r:=by rw[Bv,Am (Al _),Cy];rfl
def zH.snoc{r:Int}{k:Option Kn}(ok:uz ks)(h:zH ks rks)(U:ks[rks.length]?=some k)(g:∀e i j,k=some (.nd e i j)->rks.getD i 0<r/\rks.getD j 0<r):zH ks (rks++[r]):=by
 intro p e i j I J;obtain⟨l,o⟩:=ok p e i j J;rw[Ac] at I;have I:p<rks.length+1:=I;rw[mW (show i<rks.length by lia),mW (show j<rks.length by lia)];by_cases c:p<rks.length
 ·rw[mW c];exact h p e i j c J
 ·have:p=rks.length:=by lia
  subst this;rw[ad6];exact g e i j (AW (U.symm.trans J))
def dJ(ks:List (Option Kn))(qs:List Nat):Prop:=qs.Pairwise λx y=>∀e i j,ks[x]?=some (some (.nd e i j))->y≠i/\y≠j
def aef(ok:uz ks)(h:zH ks rks)(I:rks.length=ks.length)(hw:qs.Pairwise λi j=>rks.getD i 0*1000000+(i:Int)<=rks.getD j 0*1000000+(j:Int)):dJ ks qs:=by refine hw.imp λ{x y} z e i j ex=>?_;obtain⟨J,U⟩:=ok x e i j ex;obtain⟨g,l⟩:=h x e i j (by rw[I];exact ze ex) ex;exact⟨λc=>by subst c;lia,λc=>by subst c;lia⟩
def mR(Pt:Addr):jx:=λys L Q=>∃a,∃ks:List (Option Kn),∃s:Int,ys=[.ref a,.int s]/\L a=some (.lst (w6 ks))/\uz ks/\ks.length<=1000/\L Pt=some (.tb lamQ)/\
 ∀D qs,L D=none->qs.Perm (List.range ks.length)->dJ ks qs->Q (.ref D) (qe L D (.lst (nY qs)))
def uC(h:i<rks.length):(rks.map Y.int)[i]?=some (.int (rks.getD i 0)):=by rw[An,Bv,Aj h];rfl
def af9 :∀ys L Q,mR Pt ys L Q->xr (sO Pt eY) 6 ys L Q:=by
 rintro ys L Q ⟨a,ks,s,rfl,ha,ok,hz,hP,q⟩;have big:=bg_;intro J I;have s0:qj L (qe L J (.lst [])):=By I;have C:a≠J:=xn ha I;refine x4 (s0 _ _ ha) λkeep kp=>wm ⟨λi τ U=>∃rks:List Int,∃c3 c4 c5,τ=[some (Y.ref a),some (.int s),some (Y.ref J),c3,c4,c5]/\U=qe L J (.lst (rks.map Y.int))/\rks.length=i/\zH ks rks,⟨[],_,_,_,rfl,rfl,rfl,λp _ _ _ T=>by cases T⟩,?_,?_,?_⟩
 ·rintro i τ U ⟨rks,c3,c4,c5,rfl,rfl,_⟩;exact kp _ (by rw[qb C,qb C])
 ·rintro i y τ U hy ⟨rks,c3,c4,c5,rfl,rfl,g,l⟩;obtain⟨z,ez,rfl⟩:=eM hy;rw[An] at ez;obtain⟨k,ek,rfl⟩:=Ay.mp ez;have hi:=ze ek;refine⟨s,i,39373,rfl,by exact AY _,by omega,by decide,by decide,λv h0 h1=>?_⟩;have m0:(0:Int)<=v % 40:=Dw _ (by decide);have lens:(rks.map Y.int).length=i:=by rw[Af];exact g
  refine⟨show(0:Int)<40 by decide,λa0 U=>∃r:Int,a0=[some (Y.ref a),some (.int s),some (Y.ref J),some (.int (i:Nat)),some (gb k),some (.int r)]/\U=qe L J (.lst (rks.map Y.int))/\∀e i j,k=some (.nd e i j)->rks.getD i 0<r/\rks.getD j 0<r,?_,?_⟩
  ·cases k with
   |none=>exact⟨v % 40,rfl,rfl,λe i j z=>by cases z⟩
   |some k=>
    cases k with
    |lf t n=>exact⟨v % 40,rfl,rfl,λe i j z=>by cases z⟩
    |nd e p1 p2=>
     obtain⟨l1,l2⟩:=ok _ _ _ _ ek;have g1:=vj (uC (rks:=rks) (i:=p1) (by lia));have g2:=vj (uC (rks:=rks) (i:=p2) (by lia));refine qd q9 (ql g1 ?_);refine qd q9 (ql g2 ?_);refine⟨v % 40+1+max (rks.getD p1 0) (rks.getD p2 0),rfl,rfl,λe' i' j' z=>?_⟩;cases z;have a1:rks.getD p1 0<=max (rks.getD p1 0) (rks.getD p2 0):=Int.le_max_left ..;have a2:rks.getD p2 0<=max (rks.getD p1 0) (rks.getD p2 0):=Int.le_max_right ..;constructor<;>lia
  ·rintro a0 U ⟨r,rfl,rfl,hr⟩;refine qd q9 (qo q9 ⟨by rw[lens];exact big _ (by lia),?_⟩);refine⟨_,EC _,rks++[r],_,_,_,rfl,?_,by rw[Ac,g];rfl,zH.snoc ok l (by rw[g];exact ek) hr⟩;rw[jz,AD];rfl
 ·rintro τ U ⟨rks,c3,c4,c5,rfl,rfl,g,l⟩;rw[fT,Af] at g;have s1:qj L (qe L J (.lst (rks.map Y.int))):=By I;refine qd (s1 _ _ ha) ?_;have lo:(w6 ks).length=ks.length:=Af ..;refine⟨⟨AY _,by rw[lo];lia⟩,λp T=>qo q9 ?_⟩;have a3:J≠p:=xn q9 T;have a4:Pt≠p:=xn (s1 _ _ hP) T;have a5:Pt≠J:=xn hP I;refine⟨ks.length,rks,J,by rw[Cg,lo],rfl,(qb a3).trans q9,g,hz,(qb a4).trans ((qb a5).trans hP),λD qs hD pm pw=>?_⟩;have ab:=jo hD;have ac:=jo ab;refine⟨qe L D (.lst (nY qs)),λb o e=>?_,q D qs ac pm (aef ok l g pw)⟩;by_cases c:b=D
  ·subst c;rw[q9] at e ⊢;exact e
  ·rw[qb c] at e ⊢;rw[qb (λz=>by subst z;rw[jo T] at e;cases e),qb (λz=>by subst z;rw[I] at e;cases e)];exact e
def abt:ww:=(qr (zr (dS "abcdefghijklmnopqrstuvwxyz") (qg 2))
 (qr (zr (zj kz (jk 1) (zj aG (qa 0) (jk 8))) (qg 3))
 (qr (zr (zj aG (zj bO (qa 0) (jk 8)) (qa 3)) (qg 4))
 (qr (zr (yBS yM (dS "") (qf (mC 1 (ij (aI (jk 8))) (qg 7) xG (zj aR (qa 2) (zj aG (zj kz (zj bO (qa 0) (jk 64)) (zj aat (jk 3) (qa 7))) (jk 26)))) qx)) (qg 5))
 (qr (xc (cU (zj aG (zj bO (qa 0) (jk 64)) (jk 3)) (jk 1)) (ji (ySl ai3 (qa 5) fO (kK (zj kz (jk 1) (zj aG (zj kz (qa 1) (qa 0)) (jk 3)))))) jm)
 (qr (zr (zj aR (qa 2) (zj aG (zj kz (zj kz (zj bO (qa 0) (jk 64)) (zj aat (jk 3) (qa 4))) (qa 1)) (jk 26))) (qg 6))
 (ji (zj kz (zj kz (ySl ai3 (qa 5) fO (kK (qa 4))) (qa 6)) (ySl ai3 (qa 5) (kK (zj kz (qa 4) (jk 1))) (kK (qa 3)))))))))))
def eV(i:Int):Nat:=97+(i % 26).toNat
def xU(i:Int):eG ("abcdefghijklmnopqrstuvwxyz" : Str).cps.toList (i % 26)=some (eV i):=by
 obtain⟨n,I⟩:∃n:Nat,i % 26=n:=⟨(i % 26).toNat,by lia⟩;have h:n<26:=by lia
 unfold eV;rw[I];have key:∀n,n<26->("abcdefghijklmnopqrstuvwxyz" : Str).cps.toList[n]?=some (97+n):=by decide +kernel
 exact vj (key n h)
def yW(i:Int):97<=eV i/\eV i<=122:=by unfold eV;lia
def dk(s:Int):List Nat:=(List.range 8).map λk:Nat=>eV (s / 64+3*(k:Int))
def m6(s:Int):(dk s).length=8:=by unfold dk;simp
def mf(s:Int):∀c∈dk s,97<=c/\c<=122:=λc I=>by obtain⟨k,_,rfl⟩:=BE.mp I;exact yW _
def qI(s:Int):Nat:=(s / 8 % (1+s % 8)).toNat
def szN(s:Int):Nat:=(1+s % 8).toNat
def aj7(s:Int):qI s<szN s/\szN s<=8/\s / 8 % (1+s % 8)=(qI s:Int)/\1+s % 8=(szN s:Int):=by
 have I:0<1+s % 8:=by lia
 have J:0<=s / 8 % (1+s % 8):=Dw _ (by lia);have U:s / 8 % (1+s % 8)<1+s % 8:=DG _ I;unfold qI szN;lia
def ah(s w:Int):List Nat:=
 if s / 64 % 3=1 then(dk s).take (1+(w+s) % 3).toNat
 else((dk s).take (qI s)++[eV (s / 64+3*(qI s:Int)+w)])++((dk s).drop (qI s+1)).take (szN s-(qI s+1))
def tS(s w:Int):fE (mkS (ah s w)):=by
 have I:(mkS (ah s w)).length=(ah s w).length:=by rw[<-Txs.len_list];show(ah s w).toArray.toList.length=_;simp
 have J:(mkS (ah s w)).cps.toList=ah s w:=by show(ah s w).toArray.toList=_;simp
 have U:=m6 s;obtain⟨g,j,_,_⟩:=aj7 s;refine⟨?_,?_,?_⟩
 ·rw[I];unfold ah;split
  ·rw[AX];omega
  ·rw[Ac,Ac];simp;simp +arith only
 ·rw[I];unfold ah;split
  ·rw[AX];omega
  ·rw[Ac,Ac,AX,AX,BB];simp;lia
 ·rw[J];intro c h;unfold ah at h;split at h
  ·exact mf s c (Bx h)
  ·rcases Ak.mp h with h|h
   ·rcases Ak.mp h with h|h
    ·exact mf s c (Bx h)
    ·rw[Ap.mp h];exact yW _
   ·exact mf s c (CK (Bx h))
def oZ:jx:=λys L Q=>∃s w:Int,ys=[.int s,.int w]/\Q (.str (mkS (ah s w))) L
def abn(h:m<=n)(h2:n<=x.length):(Txt.slice x (some (m:Int)) (some (n:Int))).cps.toList=(x.cps.toList.drop m).take (n-m):=by have e:=pX x (some (m:Int)) (some (n:Int));rw[HT.sIx_nat,HT.sIx_nat,Ce h2,Ce (AK h h2)] at e;exact e
def pI(h:n<=x.length):(Txt.slice x none (some (n:Int))).cps.toList=x.cps.toList.take n:=by have e:=pX x none (some (n:Int));rw[HT.sIx_nat,HT.sIx_none,Eo,Nat.sub_zero,Ce h] at e;exact e
def adx:∀ys L Q,oZ ys L Q->xr abt 7 ys L Q:=by
 rintro ys L Q ⟨s,w,rfl,q⟩;have j:0<1+s % 8:=by lia
 refine⟨(by decide:(0:Int)<8),⟨by decide,by decide⟩,j,⟨by decide,by decide⟩,?_⟩;show yJ (aX 0 8) _ _ _ _ _ _ _ _;refine wH (m:=8) (λi zs=>zs=((List.range i).map λk:Nat=>Y.str ⟨#[eV (s / 64+3*(k:Int))]⟩)) (by decide) rfl ?_ ?_
 ·rintro i _ hi rfl;have I:=xU (s / 64+3*(0+(i:Int)));refine⟨⟨by decide,by decide⟩,.inl ⟨by decide,by decide⟩,(by decide:(0:Int)<26),by decide +kernel,?_⟩;walk_at "w";rw[I];refine⟨_,EC _,rfl,?_⟩;rw[List.range_succ,AD,show(0:Int)+(i:Int)=(i:Int) by simp +arith only];rfl
 ·rintro _ rfl p t;have e0:((List.range 8).map λk:Nat=>Y.str ⟨#[eV (s / 64+3*(k:Int))]⟩)=((dk s).map λc=>(⟨#[c]⟩:Str)).map Y.str:=by unfold dk;rw[BP,BP];rfl
  rw[e0];refine qo q9 ⟨(dk s).map λc=>(⟨#[c]⟩:Str),rfl,?_,?_⟩
  ·have J:∀U:List Nat,((U.map λc=>(⟨#[c]⟩:Str)).map (·.length)).sum=U.length:=λU=>by induction U with|nil=>rfl|cons c r ih=>rw[AG,AG,Ds,ih,AF];show 1+r.length=_;exact Ee _ _
   rw[J,m6];show 8+_*0<=_;rw[Nat.mul_zero];decide
  ·have g:=aca (dk s);have l:(Txt.join "" ((dk s).map λc=>(⟨#[c]⟩:Str))).length=8:=by rw[<-Txs.len_list,g,m6]
   generalize Txt.join "" ((dk s).map λc=>(⟨#[c]⟩:Str))=base at l g;obtain⟨p1,p2,o,C⟩:=aj7 s;refine⟨⟨by decide,by decide⟩,(by decide:(0:Int)<3),?_⟩;refine zo (λc=>?_) λc=>?_
   ·have e:1+(w+s) % 3=((1+(w+s) % 3).toNat:Int):=by lia
    refine⟨(by decide:(0:Int)<3),gB (by lia),bW (By t) ?_⟩;have es:=pI (x:=base) (n:=(1+(w+s) % 3).toNat) (by lia);have eq:Txt.slice base none (some (1+(w+s) % 3))=mkS (ah s w):=by rw[e];refine(ye _).symm.trans ?_;rw[es,g];unfold ah;rw[Aw c]
    rw[<-eq] at q;exact q
   ·have I:=xU (s / 64+3*(s / 8 % (1+s % 8))+w);refine⟨⟨by decide,by decide⟩,.inl ⟨by decide,by decide⟩,(by decide:(0:Int)<26),by decide +kernel,?_⟩;walk_at "w";rw[I];have T:=pI (x:=base) (n:=qI s) (by lia);have s2:=abn (x:=base) (m:=qI s+1) (n:=szN s) (by assumption) (by lia);have l1:(Txt.slice base none (some (qI s:Int))).length=qI s:=by rw[<-Txs.len_list,T,AX,Txs.len_list];lia
    have l2:(Txt.slice base (some ((qI s+1:Nat):Int)) (some (szN s:Int))).length<=8:=by rw[<-Txs.len_list,s2,AX];lia
    refine⟨gB (by lia),?_⟩;refine⟨gB (by rw[o,l1];show qI s+1<=1000;lia),?_⟩;refine⟨gB (by lia),?_⟩;have J:((qI s:Int)+1)=((qI s+1:Nat):Int):=by rfl
    have l3:(Txt.slice base none (some (qI s:Int))++(⟨#[eV (s / 64+3*(s / 8 % (1+s % 8))+w)]⟩:Str)).length=qI s+1:=by rw[PySem.Str.length_append,l1];rfl
    refine⟨gB ?_,bW (By t) ?_⟩
    ·rw[o] at l3 ⊢;rw[l3,J,C];lia
    ·have eq:(Txt.slice base none (some (qI s:Int))++(⟨#[eV (s / 64+3*(qI s:Int)+w)]⟩:Str))++Txt.slice base (some ((qI s+1:Nat):Int)) (some (szN s:Int))=mkS (ah s w):=by
      refine(ye _).symm.trans ?_;have ca:∀a b:Str,(a++b).cps.toList=a.cps.toList++b.cps.toList:=λa b=>by show(a.cps++b.cps).toList=_;simp
      rw[ca,ca,T,s2,g];unfold ah;rw[As c]
     rw[o,J,C,eq];exact q
def ah3(t t':Bool)(n I:Str):Da.eq (rY (.leaf t n)) (rY (.leaf t' I))=(decide (t=t')&&decide (n=I)):=by
 by_cases h:n=I
 ·subst h;cases t<;>cases t'<;>simp[rY,Da.eq,Da.eqs,lK,kL]<;>decide +kernel
 ·cases t<;>cases t'<;>simp[rY,Da.eq,Da.eqs,lK,kL,h]<;>decide +kernel
theorem i7{α β:Type}(f:α->β):∀(l:List α) (n:Nat),(l.map f).eraseIdx n=(l.eraseIdx n).map f
 |[],n=>by simp
 |_::_,0=>rfl
 |x::r,n+1=>by rw[AG,Cs,Cs,AG,i7 f r n]
def a7(a:jp)(b:Y)(r:List (jp×Y))(k:jp):aE ((a,b)::r) k=if a=k then some b else aE r k:=by
 unfold aE;rw[BA];by_cases h:a=k
 ·rw[Aw h,show decide ((a,b).1=k)=true from Ao h];rfl
 ·rw[As h,show decide ((a,b).1=k)=false from Aq h]
theorem uQ(k J:jp)(y:Y):∀kvs:List (jp×Y),aE (kvs.map λU=>if U.1=k then(U.1,y) else U) J=if J=k then(aE kvs J).map (λ_=>y) else aE kvs J
 |[]=>by rw[De];split<;>rfl
 |(a,b)::r=>by
  have g:=uQ k J y r;rw[AG,a7];by_cases h:a=k
  ·rw[Aw (show(a,b).1=k from h),a7,g];by_cases I:J=k
   ·rw[Aw I,Aw I,Aw (h.trans I.symm),Aw (h.trans I.symm)];rfl
   ·rw[As I,As I,As (λz=>I (z.symm.trans h)),As (λz=>I (z.symm.trans h))]
  ·rw[As (show ¬(a,b).1=k from h),a7,g];by_cases I:J=k
   ·rw[Aw I,Aw I,As (λz=>h (z.trans I)),As (λz=>h (z.trans I))]
   ·rw[As I,As I]
theorem ur(k I:jp)(y:Y):∀kvs:List (jp×Y),aE (kvs++[(k,y)]) I=(aE kvs I).or (if k=I then some y else none)
 |[]=>by rw[Ej,a7];have:aE [] I=none:=rfl;rw[this];split<;>rfl
 |(a,b)::r=>by rw[List.cons_append,a7,a7,ur k I y r];split<;>rfl
theorem tH(k:jp):∀kvs:List (jp×Y),(kvs.any λI=>decide (I.1=k))=(aE kvs k).isSome
 |[]=>rfl
 |(a,b)::r=>by
  rw[Cm,a7,tH k r];by_cases h:a=k
  ·rw[Aw h,show decide ((a,b).1=k)=true from Ao h];rfl
  ·rw[As h,show decide ((a,b).1=k)=false from Aq h];rfl
def mQ(kvs:List (jp×Y))(k I:jp)(y:Y):aE (og kvs k y) I=if I=k then some y else aE kvs I:=by
 unfold og;rw[tH];cases e:aE kvs k with
 |some v=>
  rw[Aw (show(some v).isSome=true from rfl),uQ];by_cases h:I=k
  ·rw[Aw h,Aw h,h,e];rfl
  ·rw[As h,As h]
 |none=>
  rw[As (by simp),ur];by_cases h:I=k
  ·rw[Aw h,h,e,Aw rfl];rfl
  ·rw[As h,As (λz=>h z.symm)];cases aE kvs I<;>rfl
def o4(kvs:List (jp×Y))(k:jp)(y:Y):(og kvs k y).length<=kvs.length+1:=by
 unfold og;split
 ·rw[Af];omega
 ·rw[Ac];simp
def ot(I:jx)(p1:jx):ww:=(qr (zr af2 (qg 5))
 (qr (zr (kc qx) (qg 6))
 (qr (dP (xm (zd I (aB (qa 0) (qa 3)))) (qg 7) (eE (xc (bV (yB (qa 4)) (cU (zj aG (zd p1 (qf (qa 3) (aB (qa 7) (jk 40692)))) (jk 3)) (jk 0))) (jw (am j5 (qa 6) (aI (yC .non)))) jm)
 (qr (yU (qa 5) (qa 7) (bQ 6))
 (qr (zr (zj aR (qa 0) (qa 7)) (qg 8))
 (eE (xc (bV (yB (cR true (qa 8))) (cU (bQ 8) (jk 3))) (zr (ko (qf (x9 8 0) (qf (vz (qa 5) (x9 8 1)) (qf (vz (qa 5) (x9 8 2)) qx)))) (qg 8)) jm)
 (jw (am j5 (qa 6) (aI (qa 8)))))))))
 (qr (yP 7 (zr (cY db (qf (mC 2 (xm (qa 1)) (aD 2 (zn (qg 9) (zn (qg 10) wf))) xG (ko (qf (cY uA (qf (vz (qa 5) (qa 9)) (qf (vz (qa 5) (qa 10)) qx))) (qf (cY uP (qf (vz (qa 5) (qa 9)) (qf (vz (qa 5) (qa 10)) qx))) qx)))) qx)) (qg 1)))
 (qr (yP 7 (zr (cY db (qf (mC 2 (xm (qa 2)) (aD 2 (zn (qg 9) (zn (qg 10) wf))) xG (ko (qf (vz (qa 5) (qa 9)) (qf (vz (qa 5) (qa 10)) qx)))) qx)) (qg 2)))
 (ji (ko (qf (zj kz (qa 6) (mC 1 (ij (qf (cY af7 (aI (qa 4))) qx)) (qg 9) xG (yC .non))) (aB (qa 1) (qa 2))))))))))
def lD(f:Nat->Nat):Option Kn->Option Kn
 |some (.nd e i j)=>some (.nd e (f i) (f j))
 |k=>k
theorem vG{f g:Nat->Nat}:∀{k:Option Kn},(∀e i j,k=some (.nd e i j)->f i=g i/\f j=g j)->lD f k=lD g k
 |none,_=>rfl
 |some (.lf _ _),_=>rfl
 |some (.nd e i j),h=>by obtain⟨a,b⟩:=h e i j rfl;show some (Kn.nd e (f i) (f j))=some (Kn.nd e (g i) (g j));rw[a,b]
structure sV(ks:List (Option Kn))(ps:List Nat)(f:Nat->Nat)(wd:List (Option Kn)):Prop where
 at_:∀p∈ps,∀k,ks[p]?=some k->wd[f p]?=some (lD f k)
 inj:∀p∈ps,∀q∈ps,f p=f q->p=q
 only:∀x k,wd[x]?=some (some k)->∃p∈ps,x=f p
 ok:uz wd
def sV.nil(ks:List (Option Kn))(f:Nat->Nat):sV ks [] f []:=⟨λp I=>(A9 I).elim,λp I=>(A9 I).elim,λx k h=>(by simp at h),λp e i j h=>(by simp at h)⟩
def uz.gap(h:uz wd):uz (wd++[none]):=by
 intro p e i j I;by_cases c:p<wd.length
 ·rw[AB c] at I;exact h p e i j I
 ·rw[Am (by exact wZ)] at I;cases J:p-wd.length with|zero=>rw[J] at I;cases I|succ m=>rw[J] at I;cases I
theorem sV.gap{ps:List Nat}{f:Nat->Nat}(h:sV ks ps f wd):sV ks ps f (wd++[none]):=by
 refine⟨λp U k g=>jE (h.at_ p U k g),h.inj,λx k I=>?_,h.ok.gap⟩;by_cases c:x<wd.length
 ·rw[AB c] at I;exact h.only x k I
 ·rw[Am (by lia)] at I;cases J:x-wd.length with|zero=>rw[J] at I;cases I|succ m=>rw[J] at I;cases I
def sV.lt{ps:List Nat}{f:Nat->Nat}(h:sV ks ps f wd)(hp:p∈ps)(I:p<ks.length):f p<wd.length:=ze (h.at_ p hp _ (Aj I))
def sV.step{ps:List Nat}{f:Nat->Nat}(h:sV ks ps f wd)(r:∀p∈ps,p<ks.length){k:Option Kn}(hp:p∉ps)(C:ks[p]?=some k)(o:∀x∈ps,∀e i j,ks[x]?=some (some (.nd e i j))->i∈ps/\j∈ps)(J:∀e i j,k=some (.nd e i j)->i∈ps/\j∈ps):
 sV ks (ps++[p]) (λx=>if x=p then wd.length else f x) (wd++[lD f k]):=by
 have old:∀x∈ps,(if x=p then wd.length else f x)=f x:=λx I=>As λ(c:x=p)=>hp (c▸I);have ren:∀l,(∀e i j,l=some (.nd e i j)->i∈ps/\j∈ps)->lD (λx=>if x=p then wd.length else f x) l=lD f l:=λl U=>vG λe i j z=>by obtain⟨a,b⟩:=U e i j z;exact⟨old i a,old j b⟩
 refine⟨λx I l U=>?_,λx I y g e=>?_,λx l I=>?_,λx e i j I=>?_⟩
 ·rcases Ak.mp I with I|I
  ·show(wd++[lD f k])[if x=p then wd.length else f x]?=_;rw[old x I,ren l λe i j z=>o x I e i j (by rw[U,z])];exact jE (h.at_ x I l U)
  ·have I:=Ap.mp I;subst I;rw[C] at U;cases U;show(wd++[lD f k])[if x=x then wd.length else f x]?=_;rw[Aw rfl,ren k J];exact dg wd _ []
 ·have e:(if x=p then wd.length else f x)=if y=p then wd.length else f y:=e
  rcases Ak.mp I with I|I<;>rcases Ak.mp g with g|g
  ·rw[old x I,old y g] at e;exact h.inj x I y g e
  ·cases Ap.mp g;rw[old x I,Aw rfl] at e;have:=h.lt I (r x I);lia
  ·cases Ap.mp I;rw[old y g,Aw rfl] at e;have:=h.lt g (r y g);lia
  ·rw[Ap.mp I,Ap.mp g]
 ·by_cases c:x<wd.length
  ·rw[AB c] at I;obtain⟨q,t,e⟩:=h.only x l I;exact⟨q,Au _ t,by rw[e];exact(old q t).symm⟩
  ·refine⟨p,Ag _ (Ap.mpr rfl),?_⟩;have:=ze I;rw[Ac] at this;have:x<wd.length+1:=this;show x=if p=p then wd.length else f p
   rw[Aw rfl];lia
 ·by_cases c:x<wd.length
  ·rw[AB c] at I;exact h.ok x e i j I
  ·have:=ze I;rw[Ac] at this;have:x<wd.length+1:=this;have:x=wd.length:=by lia
   subst this;rw[Am (Al _),Cy] at I;have I:lD f k=some (.nd e i j):=AW I;cases k with
   |none=>cases I
   |some k=>
    cases k with
    |lf=>cases I
    |nd T i' j'=>
     obtain⟨a,b⟩:=J T i' j' rfl;cases I;exact⟨h.lt a (r _ a),h.lt b (r _ b)⟩
def mS(ok:uz ks)(pm:qs.Perm (List.range ks.length))(U:dJ ks qs)(hp:qs[n]?=some p){e:Bool}(h:ks[p]?=some (some (.nd e i j))):i∈qs.take n/\j∈qs.take n:=by
 obtain⟨C,T⟩:=ok p e i j h;have hl:=ze h;have o:=ze hp;have ind:∀x,x<ks.length->x≠p->(∀y∈qs.drop (n+1),y≠x)->x∈qs.take n:=λx t ne g=>by
  have I:x∈qs:=pm.mem_iff.mpr (AS.mpr t);have l:qs=qs.take n++p::qs.drop (n+1):=by rw[Aj o] at hp;rw[<-AW hp,Dl,Bm]
  rw[l] at I;rcases Ak.mp I with I|I
  ·exact I
  ·rcases Ax.mp I with I|I
   ·exact absurd I ne
   ·exact absurd rfl (g x I)
 have r:∀y∈qs.drop (n+1),y≠i/\y≠j:=λy J=>by
  have l:qs=qs.take n++p::qs.drop (n+1):=by rw[Aj o] at hp;rw[<-AW hp,Dl,Bm]
  unfold dJ at U;rw[l] at U;have:=(AN.mp U).2.1;exact(List.pairwise_cons.mp this).1 y J e i j h
 exact⟨ind i (by exact i0) (by exact ao0) λy J=>(r y J).1,ind j (by exact i0) (by exact ao0) λy J=>(r y J).2⟩
def amo:ww:=(qr (zr (am dN (qa 1) (qf (zj aG (qa 3) (bQ 1)) qx)) (qg 4))
 (qr (zr (am dN (qa 1) (qf (zj aG (qa 2) (bQ 1)) qx)) (qg 5))
 (qr (zr (zj aR (x9 4 1) (zj aG (zj bO (qa 3) (jk 64)) (cY du (aI (x9 4 1))))) (qg 6))
 (qr (zr (zj aR (x9 5 1) (zj aG (zj bO (qa 2) (jk 64)) (cY du (aI (x9 5 1))))) (qg 7))
 (qr (jw (am j5 (qa 0) (qf (ko (qf (dS "both") (aB (qa 6) (qa 7)))) qx)))
 (qr (zr (mC 1 (xm (zj kz (x9 4 1) (x9 5 1))) (qg 9) (yB (zj (pF true) (qa 9) (rdT (qa 6) (qa 7)))) (qa 9)) (qg 8))
 (jw (am j5 (qa 1) (qf (kc (qf (ko (qf (dS "both") (qf (zj gr (bQ 0) (jk 1)) (aB (x9 4 0) (x9 5 0))))) (qf (zj kz (qa 8) (kc (qf (zj gr (bQ 0) (jk 1)) qx))) qx))) qx)))))))))
def aht:ww:=(qr (xc (yB (zj yLt (cY du (aI (x9 1 1))) (jk 2))) ad7 jm)
 (qr (zr (am dN (x9 1 1) (qf (zj aG (qa 3) (cY du (aI (x9 1 1)))) qx)) (qg 4))
 (qr (zr (am dN (x9 1 1) (qf (zj aG (qa 2) (cY du (aI (x9 1 1)))) qx)) (qg 5))
 (qr (jw (am j5 (qa 0) (qf (ko (qf (dS "either") (aB (qa 4) (qa 5)))) qx)))
 (qr (yF (qa 1) (jk 0) (ko (qf (dS "either") (qf (zj gr (bQ 0) (jk 1)) (aI (x9 1 0))))))
 (jw (am j5 (x9 1 1) (qf (zj gr (bQ 0) (jk 1)) qx))))))))
theorem cr{ks:List Kn}:∀{w v:Wd} {p:Nat},dU ks p w->dU ks p v->w=v
 |.leaf t n,.leaf g C,p,h,k=>by
  have h:(jf ks)[p]?=some (.tup [.str (kL t),.str n]):=h;have k:(jf ks)[p]?=some (.tup [.str (kL g),.str C]):=k;rw[h] at k;injection k with k;injection k with k;injection k with J I;injection I with I _
  injection J with J;injection I with I
  have:t=g:=by cases t<;>cases g<;>first|rfl|(exfalso;revert J;decide +kernel)
  rw[this,I]
 |.leaf t n,.node e l r,p,h,k=>by obtain⟨i,j,k,_⟩:=k;have h:(jf ks)[p]?=some (.tup [.str (kL t),.str n]):=h;rw[h] at k;injection k with k;injection k with k;injection k with _ k;injection k with _ k;cases k
 |.node e l r,.leaf t n,p,h,k=>by obtain⟨i,j,h,_⟩:=h;have k:(jf ks)[p]?=some (.tup [.str (kL t),.str n]):=k;rw[h] at k;injection k with k;injection k with k;injection k with _ k;injection k with _ k;cases k
 |.node e l r,.node o l' r',p,⟨i,j,h,T,hr⟩,⟨i',j',k,kl,kr⟩=>by
  rw[h] at k;injection k with k;injection k with k;injection k with J I;injection I with I U;injection U with U _
  injection J with J;injection I with I;injection U with U
  have e1:i=i':=by lia
  have e2:j=j':=by lia
  subst e1 e2;have:e=o:=by cases e<;>cases o<;>first|rfl|(exfalso;revert J;decide +kernel)
  rw[this,cr (ks:=ks) T kl,cr (ks:=ks) hr kr]
theorem oR{ks:List Kn}(I:aq ks):∀(m p:Nat),p<m->p<ks.length->∃w,dU ks p w/\w.depth<=p+1/\w.ok
 |0,p,h,_=>absurd h (by lia)
 |m+1,p,h,g=>by
  obtain⟨k,J⟩:∃k,ks[p]?=some k:=⟨_,Aj g⟩;have U:=I p k J;cases k with
  |lf t n=>exact⟨.leaf t n,dU.leaf J,by show 1<=p+1;exact CN _,U⟩
  |nd e i j=>
   have U:i<p/\j<p:=U;obtain⟨l,o,T,C⟩:=oR I m i (by lia) (by omega);obtain⟨r,b1,b2,b3⟩:=oR I m j (by lia) (by lia);exact⟨.node e l r,ET J o b1,by show max l.depth r.depth+1<=p+1;lia,C,b3⟩
def TV(v:Str->Bool):Wd->Bool
 |.leaf t n=>if t=true then !v n else v n
 |.node e l r=>if e=true then TV v l||TV v r else TV v l&&TV v r
theorem l8(v:Str->Bool):∀w:Wd,TV v w.turn=!TV v w
 |.leaf t n=>by cases t<;>simp[Wd.turn,TV]
 |.node e l r=>by cases e<;>simp[Wd.turn,TV,l8 v l,l8 v r]
theorem SR.lt{ks:List Kn}{R:Ru}{E:List Nat}(h:SR ks R E):∀x∈j6 R,x<ks.length:=by
 have lt:∀{p:Nat} {k:Kn},ks[p]?=some k->p<ks.length:=λh=>(AU.mp h).1
 induction h with
 |link _ j l _ _=>intro x I;simp[j6] at I;rcases I with rfl|rfl;exact lt j;exact lt l
 |ei g _ _ _ _ _ _ o=>intro x I;rcases Ax.mp I with rfl|I;exact lt g;exact o x I
 |bo g _ _ _ _ _ _ J U=>
  intro x I;rcases Ax.mp I with rfl|I
  ·exact lt g
  ·rcases Ak.mp I with I|I
   ·exact J x I
   ·exact U x I
 |cu _ _ _ _ _ _ _ _ J U=>
  intro x I;rcases Ak.mp I with I|I
  ·exact J x I
  ·exact U x I
theorem SR.tv{ks:List Kn}(hk:aq ks)(v:Str->Bool){R:Ru}{E:List Nat}(h:SR ks R E):∃x∈E,∃w,dU ks x w/\TV v w=true:=by
 have ex:∀{R':Ru} {E':List Nat},SR ks R' E'->∀x∈E',∃w,dU ks x w:=λs x I=>by obtain⟨w,hw,_⟩:=oR hk (x+1) x (by exact Bg _) (s.lt x (s.sub x I));exact⟨w,hw⟩
 induction h with
 |@link p q t n E _ h2 h3 h4 _=>
  cases ht:TV v (.leaf t n) with
  |true=>exact⟨p,(h4 p).mpr (.inl rfl),_,dU.leaf h2,ht⟩
  |false=>
   refine⟨q,(h4 q).mpr (.inr rfl),_,dU.leaf h3,?_⟩;have:=l8 v (.leaf t n);rw[ht] at this;exact this
 |@ei r i j A EA E T hA hi hj _ J _ ih=>
  obtain⟨x,I,w,hw,tv⟩:=ih;obtain⟨wi,U⟩:=ex hA i hi;obtain⟨wj,g⟩:=ex hA j hj;by_cases c1:x=i
  ·subst c1;rw[cr hw U] at tv;exact⟨r,(J r).mpr (.inr rfl),_,ET T U g,by simp[TV,tv]⟩
  ·by_cases c2:x=j
   ·subst c2;rw[cr hw g] at tv;exact⟨r,(J r).mpr (.inr rfl),_,ET T U g,by simp[TV,tv]⟩
   ·exact⟨x,(J x).mpr (.inl ⟨I,c1,c2⟩),w,hw,tv⟩
 |@bo r i j A B EA EB E T hA hB hi hj J _ l o=>
  obtain⟨x,I,w,hw,tv⟩:=l;obtain⟨y,hy,u,C,tu⟩:=o;by_cases c1:x=i
  ·by_cases c2:y=j
   ·subst c1 c2;exact⟨r,(J r).mpr (.inr (.inr rfl)),_,ET T hw C,by simp[TV,tv,tu]⟩
   ·exact⟨y,(J y).mpr (.inr (.inl ⟨hy,c2⟩)),u,C,tu⟩
  ·exact⟨x,(J x).mpr (.inl ⟨I,c1⟩),w,hw,tv⟩
 |@cu p q A B EA EB E w0 hA hB hp hq a0 a1 h7 _ l o=>
  obtain⟨x,I,w,hw,tv⟩:=l;obtain⟨y,hy,u,C,tu⟩:=o;by_cases c1:x=p
  ·by_cases c2:y=q
   ·subst c1 c2;rw[cr hw a0] at tv;rw[cr C a1,l8,tv] at tu;cases tu
   ·exact⟨y,(h7 y).mpr (.inr ⟨hy,c2⟩),u,C,tu⟩
  ·exact⟨x,(h7 x).mpr (.inl ⟨I,c1⟩),w,hw,tv⟩
def SR.ends{ks:List Kn}(I:aq ks){R:Ru}{E:List Nat}(h:SR ks R E):0<E.length:=by obtain⟨x,J,_⟩:=h.tv I λ_=>true;exact Eh J
structure Tr where
 a:Addr
 b:Addr
 R:Ru
 E:List Nat
abbrev zc(E:List Nat):List Y:=E.map λn:Nat=>Y.int (n:Int)
def Tr.ads(t:Tr):List Addr:=[t.a,t.b]
structure cM(L0 L:qm)(ka fa:Addr)(ks:List Kn)(fo:List Tr):Prop where
 hk:L ka=some (.lst (jf ks))
 ht:∀t∈fo,L t.a=some (.lst [zh t.R,.ref t.b])/\L t.b=some (.lst (zc t.E))
 sr:∀t∈fo,SR ks t.R t.E
 nd:(fo.flatMap λt=>j6 t.R).Nodup
 tm:∀x,x∈(fo.flatMap λt=>j6 t.R)↔x<ks.length
 ad:(ka::fa::fo.flatMap Tr.ads).Nodup
 ok:aq ks
 sub:qj L0 L
 fr:∀x∈ka::fa::fo.flatMap Tr.ads,L0 x=none
def zm(fo:List Tr):List Y:=fo.map λt=>Y.ref t.a
structure oy(L0 L:qm)(ka fa:Addr)(ks:List Kn)(fo:List Tr):Prop where
 b:cM L0 L ka fa ks fo
 hf:L fa=some (.lst (zm fo))
def noC:Ru->Prop
 |.link _ _=>True
 |.ei _ A=>noC A
 |.bo _ A B=>noC A/\noC B
 |.cu _ _ _ _=>False
def Ext(ks:List Kn)(fo:List Tr)(I:List Kn)(fo':List Tr):Prop:=(∃ms:List Kn,I=ks++ms/\∀k∈ms,∃e i j,k=.nd e i j)/\((∀t∈fo,noC t.R)->∀t∈fo',noC t.R)
def cM.perm{ks:List Kn}{fo fo':List Tr}(h:cM L0 L ka fa ks fo)(p:fo.Perm fo'):cM L0 L ka fa ks fo':=by have J:(fo.flatMap λt=>j6 t.R).Perm (fo'.flatMap λt=>j6 t.R):=p.flatMap_right _;have U:(fo.flatMap Tr.ads).Perm (fo'.flatMap Tr.ads):=p.flatMap_right _;refine⟨h.hk,λt I=>h.ht t (p.mem_iff.mpr I),λt I=>h.sr t (p.mem_iff.mpr I),J.nodup_iff.mp h.nd,λx=>by rw[<-J.mem_iff];exact h.tm x,((U.cons _).cons _).nodup_iff.mp h.ad,h.ok,h.sub,λx g=>h.fr x (((U.cons _).cons _).mem_iff.mpr g)⟩
end L3
variable {fo rest:List L3.Tr}
namespace L3
open PySem L2 Words
theorem xb{α:Type}:∀{l:List α} {j:Nat} {x:α},l[j]?=some x->l.Perm (x::l.eraseIdx j)
 |[],_,_,h=>by simp at h
 |y::r,0,x,h=>by
  have:y=x:=by simpa using h
  subst this;exact .refl _
 |y::r,j+1,x,h=>by have I:=xb (l:=r) (j:=j) (x:=x) (by simpa using h);rw[Cs];exact(I.cons y).trans (.swap _ _ _)
def m9(fo:List Tr)(j:Nat):(zm fo).eraseIdx j=zm (fo.eraseIdx j):=i7 _ fo j
def cM.step{ks ms:List Kn}{old:List Tr}{t':Tr}(h:cM L0 L ka fa ks (old++rest))(C:L' ka=some (.lst (jf (ks++ms))))(T:L' t'.a=some (.lst [zh t'.R,.ref t'.b])/\L' t'.b=some (.lst (zc t'.E)))
 (keep:∀t∈rest,L' t.a=L t.a/\L' t.b=L t.b) (sub:qj L0 L') (ad:(ka::fa::(rest++[t']).flatMap Tr.ads).Nodup) (fr:∀x∈t'.ads,L0 x=none) (ok:aq (ks++ms)) (sr:SR (ks++ms) t'.R t'.E)
 (tp:(j6 t'.R).Perm (List.range' ks.length ms.length++old.flatMap λt=>j6 t.R)):cM L0 L' ka fa (ks++ms) (rest++[t']):=by
 have U:=h.nd;have g:=h.tm;rw[AO] at U;have r:((rest++[t']).flatMap λt=>j6 t.R)=(rest.flatMap λt=>j6 t.R)++j6 t'.R:=by rw[AO];simp
 have mem:∀x,x∈j6 t'.R↔(ks.length<=x/\x<ks.length+ms.length)\/x∈(old.flatMap λt=>j6 t.R):=λx=>by rw[tp.mem_iff,Ak,Dm]
 refine⟨C,λt J=>?_,λt J=>?_,?_,λx=>?_,ad,ok,sub,λx I=>?_⟩
 ·rcases Ak.mp J with J|J
  ·obtain⟨k1,k2⟩:=keep t J;rw[k1,k2];exact h.ht t (Ag _ J)
  ·rw[Ap.mp J];exact T
 ·rcases Ak.mp J with J|J
  ·exact(h.sr t (Ag _ J)).more _
  ·rw[Ap.mp J];exact sr
 ·rw[r,AI];rw[AI] at U;refine⟨U.2.1,tp.nodup_iff.mpr ?_,λx I y j e=>?_⟩
  ·rw[AI];refine⟨DL,U.1,λx I y j e=>?_⟩;have I:=Dm.mp I;have j:=(g y).mp (by rw[AO];exact Au _ j);lia
  ·subst e;rcases (mem x).mp j with j|j
   ·have:=(g x).mp (by rw[AO];exact Ag _ I);lia
   ·exact U.2.2 x j x I rfl
 ·rw[r,Ak,mem,Ac];have o:=g x;rw[AO,Ak] at o;constructor
  ·rintro(l|l|l)
   ·have:=o.mp (.inr l);exact al6
   ·lia
   ·have:=o.mp (.inl l);lia
  ·intro l;by_cases c:x<ks.length
   ·rcases o.mpr c with p|p
    ·exact .inr (.inr p)
    ·exact .inl p
   ·exact .inr (.inl (by lia))
 ·rcases Ax.mp I with rfl|I
  ·exact h.fr _ (Av ..)
  ·rcases Ax.mp I with rfl|I
   ·exact h.fr _ (Ah _ (Av ..))
   ·rw[AO] at I;rcases Ak.mp I with I|I
    ·exact h.fr _ (Ah _ (Ah _ (by rw[AO];exact Ag _ I)))
    ·exact fr x (by simpa using I)
def rR:jx:=λys L Q=>∃L0 ka fa ks fo,∃one two:Int,ys=[.ref ka,.ref fa,.int one,.int two]/\oy L0 L ka fa ks fo/\2<=fo.length/\fo.length<=200/\ks.length<=200/\
 ∀L' I fo',oy L0 L' ka fa I fo'->I.length=ks.length+1->fo'.length+1=fo.length->Ext ks fo I fo'->Q .non L'
def jO{l:List α}(h:0<l.length)(k:Int):∃(j:Nat) (x:α),k % (l.length:Int)=(j:Int)/\j<l.length/\l[j]?=some x:=by have I:0<=k % (l.length:Int):=Dw _ (by lia);have J:k % (l.length:Int)<(l.length:Int):=DG _ (by omega);refine⟨(k % (l.length:Int)).toNat,l[(k % (l.length:Int)).toNat]'(by lia),by lia,by lia,Aj (by lia)⟩
theorem cB:∀(n:Nat) (l:List Nat),l.Nodup->(∀x∈l,x<n)->l.length<=n
 |0,l,_,h=>by cases l with|nil=>exact Al _|cons x r=>exact absurd (h x (Av ..)) (by lia)
 |n+1,l,nd,h=>by
  by_cases c:n∈l
  ·have p:=List.perm_cons_erase c;have J:=cB n (l.erase n) (nd.erase n) λx I=>by have:=(List.Nodup.mem_erase_iff nd).mp I;have:=h x this.2;lia
   rw[p.length_eq,AF];exact uM
  ·exact Dh (cB n l nd λx I=>by have:=h x I;have:x≠n:=λe=>c (e▸I);lia)
def bN{ks:List Kn}(h:cM L0 L ka fa ks fo){t:Tr}(I:t∈fo):0<t.E.length/\t.E.length<=ks.length:=by have s:=h.sr t I;exact⟨s.ends h.ok,cB _ _ s.nod λx J=>s.lt x (s.sub x J)⟩
def ai5(x l r:Nat):vF (gi (.int (x:Int))) (([.int (l:Int),.int (r:Int)]:List Y).map gi)=decide (x=l\/x=r):=by
 show(lK (.int (l:Int)) (.int (x:Int))||(lK (.int (r:Int)) (.int (x:Int))||false))=_;have e:∀a b:Nat,lK (.int (a:Int)) (.int (b:Int))=decide (b=a):=λa b=>by
  show decide ((a:Int)=(b:Int))=decide (b=a);by_cases c:b=a
  ·subst c;simp
  ·rw[Aq c];apply Aq;lia
 rw[e,e];by_cases I:x=l<;>by_cases J:x=r<;>simp[I,J]
def sG{E:List Nat}(h:0<E.length)(k:Int):∃x,x∈E/\eG (zc E) (k % ((zc E).length:Int))=some (.int ((x:Nat):Int)):=by obtain⟨j,x,I,J,ex⟩:=jO h k;refine⟨x,Az ex,?_⟩;rw[Af,I];exact vj (by rw[An,ex];rfl)
def xw(E1 E2:List Nat)(l r:Nat):List Nat:=(E1++E2).filter λx=>!decide (x=l\/x=r)
def aem{U:Addr}{E:List Nat}{l r k:Nat}{Q:YK}(hp:L U=some (.lst (zc E)))(I:E.length<=1000)
 (C:∀y (g:Bool->qm->Prop),pF true y (.tup [.int (l:Int),.int (r:Int)]) L (λx L'=>match x with|.bl c=>g c L'|_=>False)->tc (bU (τ++List.replicate 1 none) k y) L g)
 (T:∀y,vE (bU (τ++List.replicate 1 none) k y) k=some y)
 (hq:∀p,L p=none->Q (.ref p) (qe L p (.lst (zc (E.filter λx=>!decide (x=l\/x=r)))))):
 sm L U λys keep L2=>yJ ys keep 1 (qg k) tc (qa k) τ L2 Q:=by
 refine x4 hp λkeep kp=>ar (λj zs=>zs=zc ((E.take j).filter λx=>!decide (x=l\/x=r))) (by rw[Af];exact qG I) (kp L rfl) rfl ?_ ?_
 ·rintro j y _ o rfl;obtain⟨x,ex,rfl⟩:∃x:Nat,E[j]?=some x/\y=Y.int (x:Int):=by rw[An] at o;obtain⟨x,e1,e2⟩:=Ay.mp o;exact⟨x,e1,e2.symm⟩
  refine C _ _ ⟨rfl,rfl,?_⟩;rw[ai5];show xt (!decide (x=l\/x=r)) _ _;have t:(E.take (j+1)).filter (λx=>!decide (x=l\/x=r))=(E.take j).filter (λx=>!decide (x=l\/x=r))++[x].filter (λx=>!decide (x=l\/x=r)):=by rw[Bf,ex,BK];rfl
  by_cases c:x=l\/x=r
  ·refine aF (by rw[Ao c];rfl) ?_;refine frg ⟨rfl,?_⟩;rw[t,C6 (by simp[c]),Cd,AQ]
  ·refine ap (by rw[Aq c];rfl) ?_;unfold qa;rw[T];refine frg ⟨rfl,?_⟩;rw[t,C7 (by simp[c]),Cd];unfold zc;rw[AD];rfl
 ·rintro _ rfl p J;rw[Af,Bc];exact hq p J
def vI{k:Int}(U:L fa=some (.lst (zm fo)))(h:0<fo.length):∃(j:Nat) (t:Tr),fo[j]?=some t/\0<=k % ((zm fo).length:Int)/\k % ((zm fo).length:Int)<((zm fo).length:Int)/\
 (zm fo)[(k % ((zm fo).length:Int)).toNat]?=some (.ref t.a)/\qe L fa (.lst ((zm fo).eraseIdx (k % ((zm fo).length:Int)).toNat)) fa=some (.lst (zm (fo.eraseIdx j))):=by
 obtain⟨j,t,J,g,I⟩:=jO h k;have e:(zm fo).length=fo.length:=Af ..;rw[e,J];refine⟨j,t,I,by exact AY _,by lia,?_,?_⟩
 ·show(zm fo)[j]?=_;unfold zm;rw[An,I];rfl
 ·rw[q9];show some (LO.lst ((zm fo).eraseIdx j))=_;rw[m9]
def cM.two{ks:List Kn}{t1 t2:Tr}(h:cM L0 L ka fa ks (t1::t2::rest)):∀x,x∈j6 t1.R->x∈j6 t2.R->False:=by intro x I J;have nd:=h.nd;rw[A1,A1,AI] at nd;exact nd.2.2 x I x (Au _ J) rfl
def sR{E1 E2:List Nat}{l r:Nat}(I:l∉E2)(J:r∉E1)(x:Nat):x∈xw E1 E2 l r↔(x∈E1/\x≠l)\/(x∈E2/\x≠r):=by
 unfold xw;rw[BI,Ak];constructor
 ·rintro⟨h,c⟩;have c:¬(x=l\/x=r):=by simpa using c
  rcases h with h|h
  ·exact .inl ⟨h,λe=>c (.inl e)⟩
  ·exact .inr ⟨h,λe=>c (.inr e)⟩
 ·rintro(⟨h,c⟩|⟨h,c⟩)
  ·refine⟨.inl h,?_⟩;have:x≠r:=λe=>J (e▸h);simp[c,this]
  ·refine⟨.inr h,?_⟩;have:x≠l:=λe=>I (e▸h);simp[c,this]
def qU{E1 E2:List Nat}{l r:Nat}(h1:E1.Nodup)(h2:E2.Nodup)(d:∀x,x∈E1->x∈E2->False):(xw E1 E2 l r).Nodup:=by
 unfold xw;have h:(E1++E2).Nodup:=by rw[AI];exact⟨h1,h2,λx I y J e=>d x I (e▸J)⟩
 exact List.Pairwise.filter _ h
theorem aho:∀ys L Q,rR ys L Q->xr amo 9 ys L Q:=by
 rintro ys L Q ⟨L0,p,T,U,fo,one,two,rfl,F,h2,dp,cn,q⟩;have big:=bg_;have aL:∀fo:List Tr,(zm fo).length=fo.length:=λfo=>Af ..;obtain⟨j1,I,br,a1,a2,a3,a0⟩:=vI (k:=two) F.hf (by exact gL);have l1:(fo.eraseIdx j1).length+1=fo.length:=by have:=(xb br).length_eq;rw[AF] at this;lia
 refine qd F.hf (qd F.hf ⟨(by show(0:Int)<((zm fo).length:Int);rw[aL];lia),qo F.hf ⟨a1,a2,ql a3 ?_⟩⟩);have ba:∀b o,b≠T->L b=some o->qe L T (.lst ((zm fo).eraseIdx (two % ((zm fo).length:Int)).toNat)) b=some o:=λb o nb e=>by rw[qb nb];exact e
 generalize qe L T (.lst ((zm fo).eraseIdx (two % ((zm fo).length:Int)).toNat))=L1 at a0 ba;obtain⟨j2,J,bu,b1,b2,b3,bn⟩:=vI (k:=one) a0 (by lia);have l2:((fo.eraseIdx j1).eraseIdx j2).length+1=(fo.eraseIdx j1).length:=by have:=(xb bu).length_eq;rw[AF] at this;lia
 refine qd a0 (qd a0 ⟨(by show(0:Int)<((zm (fo.eraseIdx j1)).length:Int);rw[aL];lia),qo a0 ⟨b1,b2,ql b3 ?_⟩⟩);have g:∀b o,b≠T->L b=some o->qe L1 T (.lst ((zm (fo.eraseIdx j1)).eraseIdx (one % ((zm (fo.eraseIdx j1)).length:Int)).toNat)) b=some o:=λb o nb e=>by rw[qb nb];exact ba b o nb e
 generalize qe L1 T (.lst ((zm (fo.eraseIdx j1)).eraseIdx (one % ((zm (fo.eraseIdx j1)).length:Int)).toNat))=L2 at bn g;have bp:fo.Perm (I::J::(fo.eraseIdx j1).eraseIdx j2):=(xb br).trans ((xb bu).cons _);have B:cM L0 L p T U (I::J::(fo.eraseIdx j1).eraseIdx j2):=F.b.perm bp;generalize (fo.eraseIdx j1).eraseIdx j2=rest at l2 bn B bp;clear a0 ba a1 a2 a3 b1 b2 b3;have m1:I∈I::J::rest:=by simp
 have m2:J∈I::J::rest:=by simp
 have ad:=B.ad;have nk:∀t∈I::J::rest,t.a≠T/\t.b≠T/\t.a≠p/\t.b≠p:=λt ht=>by rw[AA,AA] at ad;have ma:t.a∈(I::J::rest).flatMap Tr.ads:=Bd.mpr ⟨t,ht,by simp[Tr.ads]⟩;have mb:t.b∈(I::J::rest).flatMap Tr.ads:=Bd.mpr ⟨t,ht,by simp[Tr.ads]⟩;exact⟨λe=>ad.2.1 (e▸ma),λe=>ad.2.1 (e▸mb),λe=>ad.1 (Ah _ (e▸ma)),λe=>ad.1 (Ah _ (e▸mb))⟩
 have nkf:p≠T:=by rw[AA] at ad;exactλe=>ad.1 (e▸Av ..)
 have bv:L2 p=some (.lst (jf U)):=g p _ nkf B.hk;have a4:=g I.a _ (nk I m1).1 (B.ht I m1).1;have bb:=g I.b _ (nk I m1).2.1 (B.ht I m1).2;have a5:=g J.a _ (nk J m2).1 (B.ht J m2).1;have bc:=g J.b _ (nk J m2).2.1 (B.ht J m2).2;have cv:=bN B m1;have cx:=bN B m2;obtain⟨x,hx,ex⟩:=sG cv.1 (two / 64);obtain⟨y,hy,ey⟩:=sG cx.1 (one / 64);refine qd a4 ⟨⟨by decide,by decide⟩,qd a4 (qd bb ⟨(by show(0:Int)<((zc I.E).length:Int);rw[Af];omega),qd bb (ql ex ?_)⟩)⟩;refine qd a5 ⟨⟨by decide,by decide⟩,qd a5 (qd bc ⟨(by show(0:Int)<((zc J.E).length:Int);rw[Af];omega),qd bc (ql ey ?_)⟩)⟩;refine qd bv (qo bv ⟨big _ (by rw[Af];exact dG),?_⟩);have ek:jf U++[.tup [.str "both",.int ((x:Nat):Int),.int ((y:Nat):Int)]]=jf (U++[.nd false x y]):=by unfold jf;rw[AD];rfl
 rw[ek];have bw:qe L2 p (.lst (jf (U++[.nd false x y]))) p=some (.lst (jf (U++[.nd false x y]))):=q9;have j:∀b o,b≠p->L2 b=some o->qe L2 p (.lst (jf (U++[.nd false x y]))) b=some o:=λb o nb e=>by rw[qb nb];exact e
 generalize qe L2 p (.lst (jf (U++[.nd false x y])))=L3 at bw j;have a4:=j _ _ (nk I m1).2.2.1 a4;have bb:=j _ _ (nk I m1).2.2.2 bb;have a5:=j _ _ (nk J m2).2.2.1 a5;have bc:=j _ _ (nk J m2).2.2.2 bc;have cy:=j _ _ (AH nkf) bn;refine qd a4 (qd a5 ⟨_,_,bb,bc,gB (by rw[Af,Af];lia),λpp cI=>?_⟩);have en:zc I.E++zc J.E=zc (I.E++J.E):=by unfold zc;rw[AD]
 rw[en];refine aem (E:=I.E++J.E) (l:=x) (r:=y) (k:=9) q9 (by rw[Ac];lia) (λy' Q' h=>h) (λ_=>rfl) λpe cP=>?_;have s4:qj L3 (qe (qe L3 pp (.lst (zc (I.E++J.E)))) pe (.lst (zc ((I.E++J.E).filter λz=>!decide (z=x\/z=y))))):=(By cI).trans (By cP);have bq:qe (qe L3 pp (.lst (zc (I.E++J.E)))) pe (.lst (zc ((I.E++J.E).filter λz=>!decide (z=x\/z=y)))) pe=some (.lst (zc (xw I.E J.E x y))):=q9;generalize qe (qe L3 pp (.lst (zc (I.E++J.E)))) pe (.lst (zc ((I.E++J.E).filter λz=>!decide (z=x\/z=y))))=L4 at s4 bq;have bd:=s4 _ _ bw;have be:=s4 _ _ cy;have nn:(((jf (U++[.nd false x y])).length:Nat):Int)-1=((U.length:Nat):Int):=by rw[Af,Ac];simp
 refine qd be (qd bd (qd (s4 _ _ a4) (qd (s4 _ _ a5) (qd bd λpn bf=>?_))));refine⟨_,_,By bf _ _ bq,q9,gB (by have:=qU (l:=x) (r:=y) (B.sr I m1).nod (B.sr J m2).nod (λz h1 h2=>B.two z ((B.sr I m1).sub z h1) ((B.sr J m2).sub z h2));have:=CB (λz=>!decide (z=x\/z=y)) (I.E++J.E);rw[Ac] at this;rw[Af];unfold xw;show _+1<=1000;lia),λC bg pa bh=>?_⟩;have s7:=(By (o:=.lst [.int ((((jf (U++[.nd false x y])).length:Nat):Int)-1)]) bf).trans ((By (o:=.lst (zc (xw I.E J.E x y)++[.int ((((jf (U++[.nd false x y])).length:Nat):Int)-1)])) bg).trans (By (o:=.lst [.tup [.str "both",.int ((((jf (U++[.nd false x y])).length:Nat):Int)-1),zh I.R,zh J.R],.ref C]) bh));refine qo (s7 _ _ be) ⟨big _ (by rw[aL];lia),?_⟩;have ca:C≠pa:=xn q9 bh;have bj:∀L6:qm,qe L6 pa (.lst [.tup [.str "both",.int ((((jf (U++[.nd false x y])).length:Nat):Int)-1),zh I.R,zh J.R],.ref C]) pa=some (.lst [zh (.bo U.length I.R J.R),.ref C]):=λL6=>by rw[q9,nn];rfl
 have bm:∀L5 o,qe (qe L5 C (.lst (zc (xw I.E J.E x y)++[.int ((((jf (U++[.nd false x y])).length:Nat):Int)-1)]))) pa o C=some (.lst (zc (xw I.E J.E x y++[U.length]))):=λL5 o=>by rw[qb ca,q9,nn];unfold zc;rw[AD];rfl
 have ea:=bj (qe (qe L4 pn (.lst [.int ((((jf (U++[.nd false x y])).length:Nat):Int)-1)])) C (.lst (zc (xw I.E J.E x y)++[.int ((((jf (U++[.nd false x y])).length:Nat):Int)-1)])));have eb:=bm (qe L4 pn (.lst [.int ((((jf (U++[.nd false x y])).length:Nat):Int)-1)])) (.lst [.tup [.str "both",.int ((((jf (U++[.nd false x y])).length:Nat):Int)-1),zh I.R,zh J.R],.ref C]);have ab:L4 pa=none:=by cases z:L4 pa with|none=>rfl|some o=>rw[((By bf).trans (By bg)) _ _ z] at bh;cases bh
 have ac:L4 C=none:=by cases z:L4 C with|none=>rfl|some o=>rw[(By bf) _ _ z] at bg;cases bg
 generalize qe (qe (qe L4 pn (.lst [.int ((((jf (U++[.nd false x y])).length:Nat):Int)-1)])) C (.lst (zc (xw I.E J.E x y)++[.int ((((jf (U++[.nd false x y])).length:Nat):Int)-1)]))) pa (.lst [.tup [.str "both",.int ((((jf (U++[.nd false x y])).length:Nat):Int)-1),zh I.R,zh J.R],.ref C])=L7 at s7 ea eb;clear bf bg bh bj bm bq;have up:∀b o,b≠T->b≠p->L b=some o->L4 b=some o:=λb o n1 n2 e=>s4 _ _ (j _ _ n2 (g _ _ n1 e));have dt:=s7 _ _ be;have cc:pa≠T:=λe=>by rw[e,be] at ab;cases ab
 have cg:C≠T:=λe=>by rw[e,be] at ac;cases ac
 have s1:=B.sr I m1;have s2:=B.sr J m2;have bi:∀z,z∈I.E->z∈J.E->False:=λz h1 h2=>B.two z (s1.sub z h1) (s2.sub z h2);refine k6 (q _ (U++[.nd false x y]) (rest++[⟨pa,C,.bo U.length I.R J.R,xw I.E J.E x y++[U.length]⟩]) ⟨?_,?_⟩ (by rw[Ac];rfl) (by rw[Ac];simp;lia) ⟨⟨_,rfl,λk hk=>⟨_,_,_,Ap.mp hk⟩⟩,λh t ht=>?_⟩)
 rotate_right
 ·have h':∀u∈I::J::rest,noC u.R:=λu hu=>h u (bp.mem_iff.mpr hu);rcases Ak.mp ht with ht|ht
  ·exact h' t (Ah _ (Ah _ ht))
  ·rw[Ap.mp ht];exact⟨h' I m1,h' J m2⟩
 ·refine cM.step (old:=[I,J]) (t':=⟨pa,C,.bo U.length I.R J.R,xw I.E J.E x y++[U.length]⟩) B ?_ ⟨?_,?_⟩ (λt ht=>?_) (λb o e=>?_) ?_ (λz hz=>?_) ?_ ?_ ?_
  ·rw[qb nkf];exact s7 _ _ bd
  ·rw[qb cc];exact ea
  ·rw[qb cg];exact eb
  ·have mt:t∈I::J::rest:=Ah _ (Ah _ ht);obtain⟨n1,n2,n3,n4⟩:=nk t mt;obtain⟨h1,h2⟩:=B.ht t mt;rw[h1,h2,qb n1,qb n2];exact⟨s7 _ _ (up _ _ n1 n3 h1),s7 _ _ (up _ _ n2 n4 h2)⟩
  ·have n1:b≠p:=λz=>by rw[z,B.fr p (by simp)] at e;cases e
   have n2:b≠T:=λz=>by rw[z,B.fr T (by simp)] at e;cases e
   rw[qb n2];exact s7 _ _ (up _ _ n2 n1 (B.sub _ _ e))
  ·rw[AA,AA] at ad;obtain⟨d1,d2,d3⟩:=ad;have d0:(rest.flatMap Tr.ads).Nodup:=by rw[A1,A1,AI,AI] at d3;exact d3.2.1.2.1
   have ck:∀z∈rest.flatMap Tr.ads,z∈(I::J::rest).flatMap Tr.ads:=λz hz=>by rw[A1,A1];exact Ag _ (Ag _ hz)
   have cm:∀z∈rest.flatMap Tr.ads,∃o,L4 z=some o:=λz hz=>by
    obtain⟨t,ht,hz⟩:=Bd.mp hz;have mt:t∈I::J::rest:=Ah _ (Ah _ ht);obtain⟨n1,n2,n3,n4⟩:=nk t mt;obtain⟨h1,h2⟩:=B.ht t mt;have hz:z=t.a\/z=t.b:=by simpa[Tr.ads] using hz
    rcases hz with rfl|rfl
    ·exact⟨_,up _ _ n1 n3 h1⟩
    ·exact⟨_,up _ _ n2 n4 h2⟩
   have dd:pa≠p:=λe=>by rw[e,bd] at ab;cases ab
   have de:C≠p:=λe=>by rw[e,bd] at ac;cases ac
   have di:pa∉rest.flatMap Tr.ads:=λhz=>by obtain⟨o,e⟩:=cm _ hz;rw[ab] at e;cases e
   have dj:C∉rest.flatMap Tr.ads:=λhz=>by obtain⟨o,e⟩:=cm _ hz;rw[ac] at e;cases e
   rw[AO];rw[AA,AA,AI];refine⟨?_,?_,d0,?_,?_⟩
   ·intro z;rcases Ax.mp z with z|z
    ·exact nkf z
    ·rcases Ak.mp z with z|z
     ·exact d1 (Ah _ (ck _ z))
     ·simp[Tr.ads] at z;rcases z with z|z;exact dd z.symm;exact de z.symm
   ·intro z;rcases Ak.mp z with z|z
    ·exact d2 (ck _ z)
    ·simp[Tr.ads] at z;rcases z with z|z;exact cc z.symm;exact cg z.symm
   ·simp[Tr.ads];exact AH ca
   ·intro u hu v hv e;simp[Tr.ads] at hv;subst e;rcases hv with rfl|rfl
    ·exact di hu
    ·exact dj hu
  ·have hz:z=pa\/z=C:=by simpa[Tr.ads] using hz
   cases w:L0 z with
   |none=>rfl
   |some o=>
    have n1:z≠p:=λe=>by rw[e,B.fr p (by simp)] at w;cases w
    have n2:z≠T:=λe=>by rw[e,B.fr T (by simp)] at w;cases w
    have:=up _ _ n2 n1 (B.sub _ _ w);rcases hz with rfl|rfl
    ·rw[ab] at this;cases this
    ·rw[ac] at this;cases this
  ·exact B.ok.snoc ⟨s1.lt x (s1.sub x hx),s2.lt y (s2.sub y hy)⟩
  ·refine .bo (dg _ _ _) (s1.more _) (s2.more _) hx hy (λz=>?_) ?_
   ·rw[Ak,sR (λh=>bi x hx h) (λh=>bi y h hy),Ap];constructor
    ·rintro((h|h)|h)
     ·exact .inl h
     ·exact .inr (.inl h)
     ·exact .inr (.inr h)
    ·rintro(h|h|h)
     ·exact .inl (.inl h)
     ·exact .inl (.inr h)
     ·exact .inr h
   ·rw[AI];refine⟨qU s1.nod s2.nod bi,by simp,λu hu v hv e=>?_⟩;rw[Ap.mp hv] at e;have:=(sR (λh=>bi x hx h) (λh=>bi y h hy) u).mp hu;rcases this with⟨h,_⟩|⟨h,_⟩
    ·have:=s1.lt u (s1.sub u h);lia
    ·have:=s2.lt u (s2.sub u h);lia
  ·show(U.length::(j6 I.R++j6 J.R)).Perm (List.range' U.length 1++([I,J].flatMap λt=>j6 t.R));simp[DV]
 ·rw[q9];unfold zm;rw[AD];rfl
def uj{E:List Nat}{k:Int}(h:0<E.length):∃(j x:Nat),E[j]?=some x/\0<=k % ((zc E).length:Int)/\k % ((zc E).length:Int)<((zc E).length:Int)/\
 (zc E)[(k % ((zc E).length:Int)).toNat]?=some (.int ((x:Nat):Int))/\(zc E).eraseIdx (k % ((zc E).length:Int)).toNat=zc (E.eraseIdx j):=by
 obtain⟨j,x,J,U,I⟩:=jO h k;have e:(zc E).length=E.length:=Af ..;rw[e,J];refine⟨j,x,I,by exact AY _,by lia,?_,?_⟩
 ·show(zc E)[j]?=_;rw[An,I];rfl
 ·exact i7 _ E j
def mK:jx:=λys L Q=>∃L0 ka fa ks,∃pre post:List Tr,∃t:Tr,∃one two:Int,ys=[.ref ka,.ref t.a,.int one,.int two]/\oy L0 L ka fa ks (pre++t::post)/\ks.length<=200/\
 ∀L' I fo',oy L0 L' ka fa I fo'->I.length<=ks.length+1->fo'.length=(pre++t::post).length->Ext ks (pre++t::post) I fo'->Q .non L'
theorem ady:∀ys L Q,mK ys L Q->xr aht 6 ys L Q:=by
 rintro ys L Q ⟨L0,j,fa,I,pre,post,t,one,two,rfl,F,bc,q⟩;have big:=bg_;have mt:t∈pre++t::post:=by simp
 have B:=F.b;obtain⟨ta,tb⟩:=B.ht t mt;have le:=bN B mt;have s:=B.sr t mt;have l:∀E:List Nat,(zc E).length=E.length:=λE=>Af ..;refine qd ta (qd tb ?_);refine zo (λc=>?_) λc=>?_
 ·exact k6 (q L I _ F (Cw _) rfl ⟨⟨[],(AQ _).symm,λk hk=>by cases hk⟩,λh=>h⟩)
 have c:¬(((zc t.E).length:Int)<2):=c;rw[l] at c;have ad:=B.ad;have nkf:j≠fa:=by rw[AA] at ad;exactλe=>ad.1 (e▸Av ..)
 have nk:∀u∈pre++t::post,u.a≠fa/\u.b≠fa/\u.a≠j/\u.b≠j:=λu U=>by rw[AA,AA] at ad;have ma:u.a∈(pre++t::post).flatMap Tr.ads:=Bd.mpr ⟨u,U,by simp[Tr.ads]⟩;have mb:u.b∈(pre++t::post).flatMap Tr.ads:=Bd.mpr ⟨u,U,by simp[Tr.ads]⟩;exact⟨λe=>ad.2.1 (e▸ma),λe=>ad.2.1 (e▸mb),λe=>ad.1 (Ah _ (e▸ma)),λe=>ad.1 (Ah _ (e▸mb))⟩
 have a0:t.a≠t.b:=by rw[AA,AA,AO,A1,AI,AI] at ad;have:=ad.2.2.2.1.1;simpa[Tr.ads] using this
 obtain⟨j1,x,e1,a1,a2,a3,a4⟩:=uj (k:=two) le.1;refine qd ta (qd tb (qd ta (qd tb ⟨(by show(0:Int)<((zc t.E).length:Int);rw[l];omega),qo tb ⟨a1,a2,ql a3 ?_⟩⟩)));rw[a4];have bf:(t.E.eraseIdx j1).length+1=t.E.length:=by have:=(xb e1).length_eq;rw[AF] at this;lia
 have ab:qe L t.b (.lst (zc (t.E.eraseIdx j1))) t.a=some (.lst [zh t.R,.ref t.b]):=by rw[qb a0];exact ta
 obtain⟨j2,y,e2,b1,b2,b3,b4⟩:=uj (E:=t.E.eraseIdx j1) (k:=one) (by lia);refine qd ab (qd q9 (qd ab (qd q9 ⟨(by show(0:Int)<((zc (t.E.eraseIdx j1)).length:Int);rw[l];omega),qo q9 ⟨b1,b2,ql b3 ?_⟩⟩)));rw[b4,jz];have bd:((t.E.eraseIdx j1).eraseIdx j2).length+1=(t.E.eraseIdx j1).length:=by have:=(xb e2).length_eq;rw[AF] at this;lia
 have pE:t.E.Perm (x::y::(t.E.eraseIdx j1).eraseIdx j2):=(xb e1).trans ((xb e2).cons _);generalize (t.E.eraseIdx j1).eraseIdx j2=g at bd pE;have ac:qe L t.b (.lst (zc g)) j=some (.lst (jf I)):=by rw[qb (AH (nk t mt).2.2.2)];exact B.hk
 refine qd ac (qo ac ⟨big _ (by rw[Af];exact dG),?_⟩);have ek:jf I++[.tup [.str "either",.int ((x:Nat):Int),.int ((y:Nat):Int)]]=jf (I++[.nd true x y]):=by unfold jf;rw[AD];rfl
 rw[ek];have nn:(((jf (I++[.nd true x y])).length:Nat):Int)-1=((I.length:Nat):Int):=by rw[Af,Ac];simp
 have aL:qe (qe L t.b (.lst (zc g))) j (.lst (jf (I++[.nd true x y]))) t.a=some (.lst [zh t.R,.ref t.b]):=by rw[qb (nk t mt).2.2.1,qb a0];exact ta
 refine qd q9 (qd aL ?_);refine qo aL (ql (v:=0) rfl ?_);have a5:qe (qe (qe L t.b (.lst (zc g))) j (.lst (jf (I++[.nd true x y])))) t.a (.lst ([zh t.R,.ref t.b].set 0 (.tup [.str "either",.int ((((jf (I++[.nd true x y])).length:Nat):Int)-1),zh t.R]))) t.a=some (.lst [zh (.ei I.length t.R),.ref t.b]):=by rw[q9,nn];rfl
 have r:∀o,qe (qe (qe L t.b (.lst (zc g))) j (.lst (jf (I++[.nd true x y])))) t.a o j=some (.lst (jf (I++[.nd true x y]))):=λo=>by rw[qb (AH (nk t mt).2.2.1)];exact q9
 have C:∀o,qe (qe (qe L t.b (.lst (zc g))) j (.lst (jf (I++[.nd true x y])))) t.a o t.b=some (.lst (zc g)):=λo=>by rw[qb (AH a0),qb (nk t mt).2.2.2];exact q9
 have J:∀o b u,b≠t.a->b≠t.b->b≠j->L b=some u->qe (qe (qe L t.b (.lst (zc g))) j (.lst (jf (I++[.nd true x y])))) t.a o b=some u:=λo b u n1 n2 n3 e=>by rw[qb n1,qb n3,qb n2];exact e
 have r:=r (.lst ([zh t.R,.ref t.b].set 0 (.tup [.str "either",.int ((((jf (I++[.nd true x y])).length:Nat):Int)-1),zh t.R])));have C:=C (.lst ([zh t.R,.ref t.b].set 0 (.tup [.str "either",.int ((((jf (I++[.nd true x y])).length:Nat):Int)-1),zh t.R])));have J:=J (.lst ([zh t.R,.ref t.b].set 0 (.tup [.str "either",.int ((((jf (I++[.nd true x y])).length:Nat):Int)-1),zh t.R])));generalize qe (qe (qe L t.b (.lst (zc g))) j (.lst (jf (I++[.nd true x y])))) t.a (.lst ([zh t.R,.ref t.b].set 0 (.tup [.str "either",.int ((((jf (I++[.nd true x y])).length:Nat):Int)-1),zh t.R])))=L3 at a5 r C J;refine qd a5 (qd C (qd r (qo C ⟨big _ (by rw[l];lia),?_⟩)));have en:zc g++[.int ((((jf (I++[.nd true x y])).length:Nat):Int)-1)]=zc (g++[I.length]):=by rw[nn];unfold zc;rw[AD];rfl
 have T:=pE.nodup_iff.mp s.nod;rw[AA,AA] at T;have hx:x∈t.E:=pE.mem_iff.mpr (by simp);have hy:y∈t.E:=pE.mem_iff.mpr (by simp);have be:∀u∈pre++post,u.a≠t.a/\u.a≠t.b/\u.b≠t.a/\u.b≠t.b:=λu U=>by have p:(pre++t::post).Perm (t::(pre++post)):=B6;have ba:=(p.flatMap_right Tr.ads).nodup_iff.mp (by rw[AA,AA] at ad;exact ad.2.2);rw[A1,AI] at ba;have k:=ba.2.2;have ma:u.a∈(pre++post).flatMap Tr.ads:=Bd.mpr ⟨u,U,by simp[Tr.ads]⟩;have mb:u.b∈(pre++post).flatMap Tr.ads:=Bd.mpr ⟨u,U,by simp[Tr.ads]⟩;exact⟨λe=>k t.a (by simp[Tr.ads]) u.a ma e.symm,λe=>k t.b (by simp[Tr.ads]) u.a ma e.symm,λe=>k t.a (by simp[Tr.ads]) u.b mb e.symm,λe=>k t.b (by simp[Tr.ads]) u.b mb e.symm⟩
 refine k6 (q _ (I++[.nd true x y]) (pre++⟨t.a,t.b,.ei I.length t.R,g++[I.length]⟩::post) ⟨?_,?_⟩ (by rw[Ac];exact Al _) (by simp) ⟨⟨_,rfl,λk hk=>⟨_,_,_,Ap.mp hk⟩⟩,λh u U=>?_⟩)
 rotate_right
 ·rcases Ak.mp U with U|U
  ·exact h u (Au _ U)
  ·rcases Ax.mp U with rfl|U
   ·exact h t mt
   ·exact h u (Ag _ (Ah _ U))
 ·have B':=B.perm (fo':=[t]++(pre++post)) B6;have st:=cM.step (old:=[t]) (rest:=pre++post) (t':=⟨t.a,t.b,.ei I.length t.R,g++[I.length]⟩) (ms:=[.nd true x y]) (L':=qe L3 t.b (.lst (zc g++[.int ((((jf (I++[.nd true x y])).length:Nat):Int)-1)]))) B' ?_ ⟨?_,?_⟩ (λu U=>?_) (λb o e=>?_) ?_ (λz hz=>?_) ?_ ?_ ?_
  ·exact st.perm (by have p1:((pre++post)++[(⟨t.a,t.b,.ei I.length t.R,g++[I.length]⟩:Tr)]).Perm ((⟨t.a,t.b,.ei I.length t.R,g++[I.length]⟩:Tr)::(pre++post)):=B8 _ _;exact p1.trans B6.symm)
  ·rw[qb (AH (nk t mt).2.2.2)];exact r
  ·rw[qb a0];exact a5
  ·rw[q9,en]
  ·have bb:u∈pre++t::post:=by rcases Ak.mp U with h|h;exact Au _ h;exact Ag _ (Ah _ h)
   obtain⟨n1,n2,n3,n4⟩:=be u U;obtain⟨k1,k2,k3,k4⟩:=nk u bb;obtain⟨h1,h2⟩:=B.ht u bb;rw[h1,h2,qb n2,qb n4];exact⟨J _ _ n1 n2 k3 h1,J _ _ n3 n4 k4 h2⟩
  ·have fr:=B.fr;have n0:∀z,L0 z=none->b≠z:=λz hz w=>by rw[w,hz] at e;cases e
   have n1:=n0 j (fr j (by simp));have n2:=n0 t.a (fr t.a (by simp[Tr.ads]));have n3:=n0 t.b (fr t.b (by simp[Tr.ads]));rw[qb n3];exact J _ _ n2 n3 n1 (B.sub _ _ e)
  ·have p:(pre++t::post).Perm ((pre++post)++[t]):=B6.trans (B8 _ _).symm;have e:((pre++post)++[(⟨t.a,t.b,.ei I.length t.R,g++[I.length]⟩:Tr)]).flatMap Tr.ads=((pre++post)++[t]).flatMap Tr.ads:=by simp[AO,Tr.ads]
   rw[e];exact(((p.flatMap_right Tr.ads).cons _).cons _).nodup_iff.mp ad
  ·have hz:z=t.a\/z=t.b:=by simpa[Tr.ads] using hz
   rcases hz with rfl|rfl
   ·exact B.fr _ (by simp[Tr.ads])
   ·exact B.fr _ (by simp[Tr.ads])
  ·exact B.ok.snoc ⟨s.lt x (s.sub x hx),s.lt y (s.sub y hy)⟩
  ·refine .ei (dg _ _ _) (s.more _) hx hy (λe=>T.1 (by rw[e];exact Av ..)) (λz=>?_) ?_
   ·rw[Ak,Ap];have hm:=pE.mem_iff (a:=z);rw[Ax,Ax] at hm;have h1:z∈g->z≠x/\z≠y:=λh=>⟨λe=>T.1 (by rw[<-e];exact Ah _ h),λe=>T.2.1 (e▸h)⟩;constructor
    ·rintro(h|h)
     ·exact .inl ⟨hm.mpr (.inr (.inr h)),h1 h⟩
     ·exact .inr h
    ·rintro(⟨h,c1,c2⟩|h)
     ·rcases hm.mp h with e|e|e
      ·exact absurd e c1
      ·exact absurd e c2
      ·exact .inl e
     ·exact .inr h
   ·rw[AI];refine⟨T.2.2,by simp,λu U v hv e=>?_⟩;rw[Ap.mp hv] at e;have:u∈t.E:=pE.mem_iff.mpr (Ah _ (Ah _ U));have:=s.lt u (s.sub u this);lia
  ·show(I.length::j6 t.R).Perm (List.range' I.length 1++([t].flatMap λt=>j6 t.R));simp[DV]
 ·have nf:=nk t mt;rw[qb (AH nf.2.1)];have:=J fa _ (AH nf.1) (AH nf.2.1) (AH nkf) F.hf;rw[this];unfold zm;rw[AD,AD];rfl
def am6(I:jx)(p1:jx)(p2:jx)(p3:jx):ww:=(qr (zr (am dN (qa 1) (qf (zj aG (qa 3) (bQ 1)) qx)) (qg 4))
 (qr (zr (zj aR (x9 4 1) (zj aG (zj bO (qa 3) (jk 64)) (cY du (aI (x9 4 1))))) (qg 5))
 (qr (zr (zd I (aB (qa 0) (qa 5))) (qg 6))
 (qr (zr (rdT (yC .non) (yC .non)) (aD 2 (zn (qg 7) (zn (qg 8) wf))))
 (qr (dP (ij (aI (bQ 1))) (qg 9) (dP (xm (zj aR (zj aR (qa 1) (qa 9)) (jk 1))) (qg 10) (xc (bV (yB (cR false (qa 7))) (cU (zd I (aB (qa 0) (qa 10))) (zd p1 (aI (qa 6))))) (zr (ko (qf (zj aR (qa 1) (qa 9)) (aI (qa 10)))) (aD 2 (zn (qg 7) (zn (qg 8) wf)))) jm)))
 (qr (xc (bV (yB (cR false (qa 7))) (yB (zj yGt (zd p2 (aI (qa 6))) (jk 5)))) (qr (jw (am j5 (qa 1) (aI (qa 4))))
 ad7) jm)
 (eE (xc (yB (cR false (qa 7))) (qr (zr (zd p3 (aB (qa 0) (qa 6))) (ajn 3 (zn (qg 11) (zn (qg 8) (zn (qg 12) wf)))))
 (zr (kc (qf (qa 11) (qf (kc (aB (qa 8) (qa 12))) qx))) (qg 7))) (jw (am lZ (qa 1) (aI (qa 7)))))
 (qr (zr (mC 1 (xm (zj kz (x9 4 1) (x9 7 1))) (qg 14) (yB (zj (pF true) (qa 14) (rdT (qa 5) (qa 8)))) (qa 14)) (qg 13))
 (xc (cU (zj aG (qa 2) (jk 2)) (jk 0)) (jw (am j5 (qa 1) (qf (kc (qf (ko (qf (dS "cut") (qf (qa 5) (qf (qa 8) (aB (x9 4 0) (x9 7 0)))))) (aI (qa 13)))) qx))) (jw (am j5 (qa 1) (qf (kc (qf (ko (qf (dS "cut") (qf (qa 8) (qf (qa 5) (aB (x9 7 0) (x9 4 0)))))) (aI (qa 13)))) qx))))))))))))
theorem rQ:∀a b:List Da,Da.eqs a b=true->a.length=b.length
 |[],[],_=>rfl
 |[],_::_,h=>by cases h
 |_::_,[],h=>by cases h
 |x::r,y::q,h=>by have h:(Da.eq x y&&Da.eqs r q)=true:=h;rw[AR] at h;rw[AF,AF,rQ r q h.2]
def ah1(u:Wd):∀v:Wd,Da.eq (rY u) (rY v)=true->u=v:=by
 induction u with
 |leaf t n=>
  intro v h;cases v with
  |leaf T n'=>
   rw[ah3,AR] at h;rw[of_decide_eq_true h.1,of_decide_eq_true h.2]
  |node e l r=>exact absurd (rQ _ _ h) (by intro z;cases z)
 |node e l r g j=>
  intro v h;cases v with
  |leaf t n=>exact absurd (rQ _ _ h) (by intro z;cases z)
  |node I J U=>
   have h:(lK (.str (kN e)) (.str (kN I))&&(Da.eq (rY l) (rY J)&&(Da.eq (rY r) (rY U)&&true)))=true:=h;rw[AR,AR,AR] at h;obtain⟨o,p,C,_⟩:=h;have:e=I:=by cases e<;>cases I<;>first|rfl|(exfalso;revert o;decide +kernel)
   rw[this,g J p,j U C]
def aV:Ru->Nat
 |.link _ _=>1
 |.ei _ A=>aV A+1
 |.bo _ A B=>max (aV A) (aV B)+1
 |.cu _ _ A B=>max (aV A) (aV B)+1
theorem aY:∀R:Ru,aV R+1<=(j6 R).length
 |.link _ _=>Al _
 |.ei _ A=>by have:=aY A;simp[aV,j6];lia
 |.bo _ A B=>by have:=aY A;have:=aY B;simp[aV,j6];lia
 |.cu _ _ A B=>by have:=aY A;have:=aY B;simp[aV,j6];lia
def cf:Ru->Da
 |.link p q=>.tup [.s (.str "link"),.s (.int (p:Int)),.s (.int (q:Int))]
 |.ei r A=>.tup [.s (.str "either"),.s (.int (r:Int)),cf A]
 |.bo r A B=>.tup [.s (.str "both"),.s (.int (r:Int)),cf A,cf B]
 |.cu p q A B=>.tup [.s (.str "cut"),.s (.int (p:Int)),.s (.int (q:Int)),cf A,cf B]
theorem dW{L:qm}:∀{R:Ru} {n:Nat},aV R<=n->ju L n (zh R) (cf R)
 |.link p q,n+1,_=>cq (.cons (EV _) (.cons (EM _) (.cons (EM _) .nil)))
 |.ei r A,n+1,h=>cq (.cons (EV _) (.cons (EM _) (.cons (dW (by simp[aV] at h;lia)) .nil)))
 |.bo r A B,n+1,h=>cq (.cons (EV _) (.cons (EM _) (.cons (dW (by simp[aV] at h;lia)) (.cons (dW (by simp[aV] at h;lia)) .nil))))
 |.cu p q A B,n+1,h=>cq (.cons (EV _) (.cons (EM _) (.cons (EM _) (.cons (dW (by simp[aV] at h;lia)) (.cons (dW (by simp[aV] at h;lia)) .nil)))))
 |.link _ _,0,h=>by simp[aV] at h
 |.ei _ _,0,h=>by simp[aV] at h
 |.bo _ _ _,0,h=>by simp[aV] at h
 |.cu _ _ _ _,0,h=>by simp[aV] at h
theorem bD:∀R:Ru,Da.eq (cf R) (cf R)=true
 |.link p q=>by simp[cf,Da.eq,Da.eqs,lK]
 |.ei r A=>by simp[cf,Da.eq,Da.eqs,lK,bD A]
 |.bo r A B=>by simp[cf,Da.eq,Da.eqs,lK,bD A,bD B]
 |.cu p q A B=>by simp[cf,Da.eq,Da.eqs,lK,bD A,bD B]
def gK(E:List Nat):List Da:=E.map λn:Nat=>Da.s (.int (n:Int))
theorem l6{L:qm}{n:Nat}:∀E:List Nat,Paired (ju L n) (zc E) (gK E)
 |[]=>.nil
 |_::r=>.cons (EM _) (l6 r)
theorem rM:∀E I:List Nat,Da.eqs (gK E) (gK I)=true↔E=I
 |[],[]=>by simp[gK,Da.eqs]
 |[],_::_=>by simp[gK,Da.eqs]
 |_::_,[]=>by simp[gK,Da.eqs]
 |x::r,y::J=>by
  have U:=rM r J;show(Da.eq (.s (.int (x:Int))) (.s (.int (y:Int)))&&Da.eqs (gK r) (gK J))=true↔_;rw[AR,U];have:Da.eq (.s (.int (x:Int))) (.s (.int (y:Int)))=true↔x=y:=by show decide ((x:Int)=(y:Int))=true↔_;rw[BL];lia
  rw[this];constructor
  ·rintro⟨rfl,rfl⟩;rfl
  ·intro e;injection e with g j;exact⟨g,j⟩
def f7(t:Tr):Da:=.lst [cf t.R,.lst (gK t.E)]
def rV{t:Tr}(I:L t.a=some (.lst [zh t.R,.ref t.b]))(J:L t.b=some (.lst (zc t.E)))(h:aV t.R<=n+1):ju L (n+2) (.ref t.a) (f7 t):=
 fZ I (.cons (dW h) (.cons (fZ J (l6 _)) .nil))
def ahb{t u:Tr}:Da.eq (f7 t) (f7 u)=true->t.E=u.E:=by intro h;have h:(Da.eq (cf t.R) (cf u.R)&&(Da.eqs (gK t.E) (gK u.E)&&true))=true:=h;rw[AR,AR] at h;exact(rM _ _).mp h.2.1
def aaa(t:Tr):Da.eq (f7 t) (f7 t)=true:=by show(Da.eq (cf t.R) (cf t.R)&&(Da.eqs (gK t.E) (gK t.E)&&true))=true;rw[bD,(rM _ _).mpr rfl];rfl
def cM.rd{ks:List Kn}(h:cM L0 L ka fa ks fo){t:Tr}(I:t∈fo):aV t.R<=ks.length:=by
 have U:=aY t.R;have nd:(j6 t.R).Nodup:=by obtain⟨a,b,rfl⟩:=DH I;have:=h.nd;rw[AO,A1,AI,AI] at this;exact this.2.1.1
 have:=cB _ _ nd λx J=>(h.sr t I).lt x J;exact aky
def cM.one{ks:List Kn}(h:cM L0 L ka fa ks fo){t u:Tr}(hi:fo[i]?=some t)(I:fo[j]?=some u)(e:t.E=u.E):i=j:=by
 by_cases c:i=j
 ·exact c
 ·exfalso;have s:=h.sr t (Az hi);have l:=s.ends h.ok;obtain⟨x,J⟩:∃x,x∈t.E:=by cases g:t.E with|nil=>rw[g] at l;simp at l|cons x r=>exact⟨x,Av ..⟩
  have o:=h.sr u (Az I);have p:=xb hi;have C:(u::(fo.eraseIdx i))=_:=rfl;have U:u∈fo.eraseIdx i:=by have:fo[j]?=some u:=I;rw[List.mem_eraseIdx_iff_getElem?];exact⟨j,λz=>c z.symm,I⟩
  obtain⟨a,b,T⟩:=DH U;have nd:=(p.flatMap_right λt:Tr=>j6 t.R).nodup_iff.mp h.nd;rw[A1,AI] at nd;exact nd.2.2 x (s.sub x J) x (Bd.mpr ⟨u,U,o.sub x (e▸J)⟩) rfl
theorem qj.none(s:qj L L'){p:Addr}(h:L' p=none):L p=none:=by cases z:L p with|none=>rfl|some o=>rw[s _ _ z] at h;cases h
def cM.nkf{ks:List Kn}(h:cM L0 L ka fa ks fo):ka≠fa:=by have ad:=h.ad;rw[AA] at ad;exactλe=>ad.1 (e▸Av ..)
def cM.nk{ks:List Kn}(h:cM L0 L ka fa ks fo):∀t∈fo,t.a≠fa/\t.b≠fa/\t.a≠ka/\t.b≠ka:=λt I=>by have ad:=h.ad;rw[AA,AA] at ad;have J:t.a∈fo.flatMap Tr.ads:=Bd.mpr ⟨t,I,by simp[Tr.ads]⟩;have U:t.b∈fo.flatMap Tr.ads:=Bd.mpr ⟨t,I,by simp[Tr.ads]⟩;exact⟨λe=>ad.2.1 (e▸J),λe=>ad.2.1 (e▸U),λe=>ad.1 (Ah _ (e▸J)),λe=>ad.1 (Ah _ (e▸U))⟩
def cM.setF{ks:List Kn}(h:cM L0 L ka fa ks fo)(o:LO):cM L0 (qe L fa o) ka fa ks fo:=by
 refine⟨by rw[qb h.nkf];exact h.hk,λt I=>?_,h.sr,h.nd,h.tm,h.ad,h.ok,λb u e=>?_,h.fr⟩
 ·obtain⟨J,U,_,_⟩:=h.nk t I;rw[qb J,qb U];exact h.ht t I
 ·have:b≠fa:=λz=>by rw[z,h.fr fa (by simp)] at e;cases e
  rw[qb this];exact h.sub _ _ e
def cM.mono{ks:List Kn}(h:cM L0 L ka fa ks fo)(s:qj L L'):cM L0 L' ka fa ks fo:=
 ⟨s _ _ h.hk,λt I=>⟨s _ _ (h.ht t I).1,s _ _ (h.ht t I).2⟩,h.sr,h.nd,h.tm,h.ad,h.ok,h.sub.trans s,h.fr⟩
def cM.exs{ks:List Kn}(h:cM L0 L ka fa ks fo):∀z∈fo.flatMap Tr.ads,∃o,L z=some o:=λz I=>by
 obtain⟨t,J,I⟩:=Bd.mp I;obtain⟨U,g⟩:=h.ht t J;have I:z=t.a\/z=t.b:=by simpa[Tr.ads] using I
 rcases I with rfl|rfl
 ·exact⟨_,U⟩
 ·exact⟨_,g⟩
def wA{l:List Addr}{pb:Addr}(nd:l.Nodup)(ex:∀z∈l,∃o,L z=some o)(U:L pa=none)(g:L pb=none)(ne:pa≠pb):(l++[pa,pb]).Nodup:=by
 rw[AI];refine⟨nd,by simp[ne],λu j v J e=>?_⟩;subst e;obtain⟨o,I⟩:=ex u j;simp at J;rcases J with rfl|rfl
 ·rw[U] at I;cases I
 ·rw[g] at I;cases I
theorem mw:∀w:Wd,w.turn.turn=w
 |.leaf t n=>by simp[Wd.turn]
 |.node e l r=>by simp[Wd.turn,mw l,mw r]
theorem g9:∀w:Wd,w.turn.depth=w.depth
 |.leaf t n=>rfl
 |.node e l r=>by simp[Wd.turn,Wd.depth,g9 l,g9 r]
def Fd(ks:List Kn)(w:Wd)(rest:List Tr)(I J:Y):Prop:=(I=.non/\J=.non)\/∃(j:Nat) (u:Tr) (q:Nat),rest[j]?=some u/\q∈u.E/\dU ks q w.turn/\I=.ref u.a/\J=.int (q:Int)
def adh{g p:qm}{ks:List Kn}{t1 u:Tr}{x q:Nat}{w:Wd}(B:cM L0 g ka fa ks (t1::u::rest)){fs:LO}(hf:g fa=some fs)(hx:x∈t1.E)(hq:q∈u.E)(C:dU ks x w)(T:dU ks q w.turn){I:Addr}(s:qj g p)(a0:g I=none)
 (he:p I=some (.lst (zc (xw t1.E u.E x q)))) (j:p pa=none) {R:Ru} (hR:R=.cu x q t1.R u.R\/R=.cu q x u.R t1.R):cM L0 (qe p pa (.lst [zh R,.ref I])) ka fa ks (rest++[⟨pa,I,R,xw t1.E u.E x q⟩]):=by
 have a1:I≠pa:=xn he j;have U:g pa=none:=s.none j;have s':qj g (qe p pa (.lst [zh R,.ref I])):=s.trans (By j);have s1:=B.sr t1 (by simp);have s2:=B.sr u (by simp);have o:∀z,z∈t1.E->z∈u.E->False:=λz h1 h2=>B.two z (s1.sub z h1) (s2.sub z h2);have k0:ks++[]=ks:=AQ ks;have bm:=sR (E1:=t1.E) (E2:=u.E) (λh=>o x hx h) (λh=>o q h hq);have nod:=qU (l:=x) (r:=q) s1.nod s2.nod o;have st:=cM.step (L':=qe p pa (.lst [zh R,.ref I])) (old:=[t1,u]) (rest:=rest) (ms:=[]) (t':=⟨pa,I,R,xw t1.E u.E x q⟩) B (by rw[k0];exact s' _ _ B.hk) ⟨q9,by rw[qb a1];exact he⟩ (λt ht=>?_) (B.sub.trans s') ?_ (λz J=>?_) (by rw[k0];exact B.ok) ?_ ?_
 ·rw[k0] at st;exact st
 ·obtain⟨h1,h2⟩:=B.ht t (Ah _ (Ah _ ht));rw[h1,h2];exact⟨s' _ _ h1,s' _ _ h2⟩
 ·have nd:(ka::fa::rest.flatMap Tr.ads).Nodup:=by
   have:=B.ad;rw[A1,A1,AA,AA,AI,AI] at this;rw[AA,AA];obtain⟨d1,d2,_,⟨_,d3,_⟩,_⟩:=this;refine⟨λz=>d1 ?_,λz=>d2 (Ag _ (Ag _ z)),d3⟩;rcases Ax.mp z with z|z
   ·rw[z];exact Av ..
   ·exact Ah _ (Ag _ (Ag _ z))
  have:=wA (L:=g) nd (λz J=>?_) U a0 (AH a1)
  ·rw[AO];simpa[Tr.ads] using this
  ·rcases Ax.mp J with rfl|J
   ·exact⟨_,B.hk⟩
   ·rcases Ax.mp J with rfl|J
    ·exact⟨_,hf⟩
    ·exact B.exs z (by rw[A1,A1];exact Ag _ (Ag _ J))
 ·have J:z=pa\/z=I:=by simpa[Tr.ads] using J
  rcases J with rfl|rfl
  ·exact B.sub.none U
  ·exact B.sub.none a0
 ·rw[k0];rcases hR with rfl|rfl
  ·exact .cu s1 s2 hx hq C T bm nod
  ·exact .cu (w:=w.turn) s2 s1 hq hx T (by rw[mw];exact C) (λz=>by rw[bm];exact Or.comm) nod
 ·rcases hR with rfl|rfl
  ·show(j6 t1.R++j6 u.R).Perm _;simp
  ·show(j6 u.R++j6 t1.R).Perm _;simpa using Bi
def CJ(L0:qm)(ka fa:Addr)(ks:List Kn)(one two:Int)(t1:Tr)(x:Nat)(w:Wd)(n:Nat)(τ:jy)(L:qm):Prop:=∃ms u q rest c9 bS c11 c12,τ=[some (.ref ka),some (.ref fa),some (.int one),some (.int two),some (.ref t1.a),some (.int (x:Int)),some (cJ w),some (.ref u.a),some (.int ((q:Nat):Int)),c9,bS,c11,c12,none]/\
 cM L0 L ka fa (ks++ms) (t1::u::rest)/\L fa=some (.lst (zm rest))/\q∈u.E/\dU (ks++ms) q w.turn/\ms.length<=10/\rest.length<=n
def rh:jx:=λys L Q=>∃L0 ka fa ks fo,∃one two:Int,ys=[.ref ka,.ref fa,.int one,.int two]/\oy L0 L ka fa ks fo/\1<=fo.length/\fo.length<=110/\ks.length<=110/\
 ∀L' I fo',oy L0 L' ka fa I fo'->I.length<=ks.length+10->1<=fo'.length->fo'.length<=fo.length->Q .non L'
theorem ahx:∀ys L Q,rh ys L Q->xr (am6 (a6 120) (cV 120) (cQ 120) (dC 5)) 14 ys L Q:=by
 rintro ys L Q ⟨L0,U,fa,T,fo,one,two,rfl,F,h1,cg,bu,q⟩;have big:=bg_;have a0:∀fo:List Tr,(zm fo).length=fo.length:=λfo=>Af ..;obtain⟨j1,I,bf,a1,a2,a3,g⟩:=vI (k:=two) F.hf (by assumption);have l1:(fo.eraseIdx j1).length+1=fo.length:=by have:=(xb bf).length_eq;rw[AF] at this;lia
 refine qd F.hf (qd F.hf ⟨(by show(0:Int)<((zm fo).length:Int);rw[a0];lia),qo F.hf ⟨a1,a2,ql a3 ?_⟩⟩);have B:cM L0 (qe L fa (.lst ((zm fo).eraseIdx (two % ((zm fo).length:Int)).toNat))) U fa T (I::fo.eraseIdx j1):=(F.b.perm (xb bf)).setF _;generalize qe L fa (.lst ((zm fo).eraseIdx (two % ((zm fo).length:Int)).toNat))=L1 at g B;generalize fo.eraseIdx j1=rest at l1 g B;clear a1 a2 a3;have m1:I∈I::rest:=by simp
 obtain⟨a4,ab⟩:=B.ht I m1;have ac:=bN B m1;have s1:=B.sr I m1;obtain⟨x,hx,ex⟩:=sG ac.1 (two / 64);refine qd a4 ⟨⟨by decide,by decide⟩,qd a4 (qd ab ⟨(by show(0:Int)<((zc I.E).length:Int);rw[Af];omega),qd ab (ql ex ?_)⟩)⟩;obtain⟨w,hw,cm,bg⟩:=oR B.ok (x+1) x (by exact Bg _) (s1.lt x (s1.sub x hx));have cn:=s1.lt x (s1.sub x hx);refine⟨U,jf T,x,w,rfl,B.hk,hw,by lia,?_⟩;have cv:w.turn.depth=w.depth:=g9 w;refine qd g ⟨⟨by show _<=(((zm rest).length:Nat):Int);exact AY _,by show(((zm rest).length:Nat):Int)<_;rw[a0];omega⟩,?_⟩;refine yf (λi τ L'=>∃v7 v8 c9 bS,τ=[some (.ref U),some (.ref fa),some (.int one),some (.int two),some (.ref I.a),some (.int (x:Int)),some (cJ w),some v7,some v8,c9,bS,none,none,none]/\L'=L1/\Fd T w rest v7 v8) ⟨_,_,_,_,rfl,rfl,.inl ⟨rfl,rfl⟩⟩ ?_ ?_
 ·rintro i τ L' hi ⟨v7,v8,c9,bS,rfl,rfl,fd⟩;have hi:i<rest.length:=by have:i<(((zm rest).length:Nat):Int).toNat:=hi;rw[a0] at this;assumption
  obtain⟨u,hu⟩:∃u,rest[i]?=some u:=⟨_,Aj hi⟩;have mu:u∈I::rest:=Ah _ (Az hu);obtain⟨ua,ub⟩:=B.ht u mu;have ei:(zm rest)[i]?=some (.ref u.a):=by unfold zm;rw[An,hu];rfl
  have e0:(0:Int)+(i:Int)=((i:Nat):Int):=by simp +arith only
  rw[e0];have bh:eG (zm rest) ((i:Nat):Int)=some (.ref u.a):=vj ei;have le:=bN B mu;have su:=B.sr u mu;refine qd g (ql bh (qd ua ?_));refine l9 (ys:=zc u.E) (w4 ub) (λk τ aL=>∃v7 v8 bS,τ=[some (.ref U),some (.ref fa),some (.int one),some (.int two),some (.ref I.a),some (.int (x:Int)),some (cJ w),some v7,some v8,some (.int ((i:Nat):Int)),bS,none,none,none]/\aL=L'/\Fd T w rest v7 v8) ⟨_,_,_,rfl,rfl,fd⟩ ?_ ?_ ?_
  ·rintro k τ _ ⟨_,_,_,_,rfl,_⟩;rfl
  ·rintro k y τ aL ey ⟨v7,v8,bS,rfl,rfl,fd⟩;obtain⟨z,ez,rfl⟩:∃z:Nat,u.E[k]?=some z/\y=Y.int (z:Int):=by rw[An] at ey;obtain⟨z,e1,e2⟩:=Ay.mp ey;exact⟨z,e1,e2.symm⟩
   have hz:z∈u.E:=Az ez;rcases fd with⟨rfl,rfl⟩|⟨j,t,q0,h1,h2,h3,rfl,rfl⟩
   ·have bv:=su.lt z (su.sub z hz);obtain⟨v,hv,cx,ck⟩:=oR B.ok (z+1) z (by exact Bg _) bv;refine⟨U,jf T,z,v,rfl,B.hk,hv,by lia,w,rfl,by lia,?_⟩;refine afi (u:=v) (v:=w.turn) (by lia) ?_;show xt (Da.eq (rY v) (rY w.turn)) _ _;refine ain (λc=>?_) λc=>?_
    ·have hh:=ah1 _ _ c;refine qd g (ql bh ?_);refine⟨_,EC _,?_⟩;exact⟨_,_,_,rfl,rfl,.inr ⟨i,u,z,hu,hz,hh▸hv,rfl,rfl⟩⟩
    ·refine⟨_,EC _,?_⟩;exact⟨_,_,_,rfl,rfl,.inl ⟨rfl,rfl⟩⟩
   ·refine⟨_,EC _,?_⟩;exact⟨_,_,_,rfl,rfl,.inr ⟨j,t,q0,h1,h2,h3,rfl,rfl⟩⟩
  ·rintro τ aL ⟨v7,v8,bS,rfl,rfl,fd⟩;refine⟨_,EC _,?_⟩;exact⟨_,_,_,_,rfl,rfl,fd⟩
 ·rintro τ L' ⟨v7,v8,c9,bS,rfl,rfl,fd⟩;rcases fd with⟨rfl,rfl⟩|⟨j,u,q0,hj,ba,bb,rfl,rfl⟩
  case' inl=>
   refine⟨w,rfl,by lia,?_⟩;show xt (decide ((w.size:Int) > 5)) _ _;refine zo (λc=>?_) λc=>?_
   case' refine_1=>
    refine qd g (qo g ⟨big _ (by rw[a0];lia),?_⟩);have er:zm rest++[.ref I.a]=zm (rest++[I]):=by unfold zm;rw[AD];rfl
    rw[er];exact k6 (q _ T (rest++[I]) ⟨(B.perm (B8 _ _).symm).setF _,q9⟩ (by exact A2 _ _) (by simp) (by rw[Ac];simp;exact rE))
   case' refine_2=>
    refine⟨CJ L0 U fa T one two I x w rest.length,?_,?_⟩
    ·refine⟨U,T,w,rfl,B.hk,(by have h1:=w.depth_le;have h2:=w.size_eq;lia),(by decide),bg,B.ok,by lia,λms R tp sp p hp a5=>?_⟩;refine qo q9 ?_;intro pb bc pa C;have bw:U≠p:=xn B.hk hp;have bd:qe L' U (.lst (jf (T++ms))) p=none:=by rw[qb (AH bw)];exact hp
     have sA:qj (qe L' U (.lst (jf (T++ms)))) _:=((By bd).trans (By bc)).trans (By (o:=.lst [zh R,.ref pb]) C);have bi:pb≠pa:=xn q9 C;have bj:qe L' U (.lst (jf (T++ms))) pb=none:=(By bd).none bc;have bm:qe L' U (.lst (jf (T++ms))) pa=none:=((By bd).trans (By bc)).none C;have ea:qe (qe (qe (qe L' U (.lst (jf (T++ms)))) p (.lst [zh R,.int (tp:Int),.int (sp:Int)])) pb (.lst [.int (tp:Int),.int (sp:Int)])) pa (.lst [zh R,.ref pb]) pa=some (.lst [zh R,.ref pb]):=q9;have eb:qe (qe (qe (qe L' U (.lst (jf (T++ms)))) p (.lst [zh R,.int (tp:Int),.int (sp:Int)])) pb (.lst [.int (tp:Int),.int (sp:Int)])) pa (.lst [zh R,.ref pb]) pb=some (.lst (zc [tp,sp])):=by rw[qb bi];exact q9
     refine⟨ms,⟨pa,pb,R,[tp,sp]⟩,tp,rest,_,_,_,_,rfl,?_,sA _ _ (by rw[qb (AH B.nkf)];exact g),Av ..,a5.wt,by have:=a5.len;lia,Al _⟩;generalize qe (qe (qe (qe L' U (.lst (jf (T++ms)))) p (.lst [zh R,.int (tp:Int),.int (sp:Int)])) pb (.lst [.int (tp:Int),.int (sp:Int)])) pa (.lst [zh R,.ref pb])=LF at sA ea eb;have keep:∀z o,z≠U->L' z=some o->LF z=some o:=λz o n e=>sA _ _ (by rw[qb n];exact e);have st:=cM.step (L':=LF) (old:=[]) (rest:=I::rest) (ms:=ms) (t':=⟨pa,pb,R,[tp,sp]⟩) B (sA _ _ q9) ⟨ea,eb⟩ (λt ht=>?_) (λz o e=>?_) ?_ (λz hz=>?_) a5.ok a5.sr ?_
     ·exact st.perm ((B8 _ _).trans (List.Perm.swap _ _ _))
     ·obtain⟨n1,n2,n3,n4⟩:=B.nk t ht;obtain⟨h1,h2⟩:=B.ht t ht;rw[h1,h2];exact⟨keep _ _ n3 h1,keep _ _ n4 h2⟩
     ·exact keep _ _ (λz=>by rw[z,B.fr U (by simp)] at e;cases e) (B.sub _ _ e)
     ·have:=wA (L:=qe L' U (.lst (jf (T++ms)))) B.ad (λz hz=>?_) bm bj (AH bi)
      ·rw[AO];simpa[Tr.ads] using this
      ·by_cases c:z=U
       ·rw[c];exact⟨_,q9⟩
       ·rw[qb c];rcases Ax.mp hz with rfl|hz
        ·exact absurd rfl c
        ·rcases Ax.mp hz with rfl|hz
         ·exact⟨_,g⟩
         ·exact B.exs z hz
     ·have hz:z=pa\/z=pb:=by simpa[Tr.ads] using hz
      cases e:L0 z with
      |none=>rfl
      |some o=>
       have n:z≠U:=λz'=>by rw[z',B.fr U (by simp)] at e;cases e
       have:=B.sub _ _ e;have e2:qe L' U (.lst (jf (T++ms))) z=some o:=by rw[qb n];exact this
       rcases hz with rfl|rfl
       ·rw[bm] at e2;cases e2
       ·rw[bj] at e2;cases e2
     ·rw[DX,AQ];exact(B9 a5.nd DL).mpr λz=>by rw[a5.tm,Dm]
  case' inr=>
   refine⟨CJ L0 U fa T one two I x w rest.length,?_,?_⟩
   ·refine qd g (qo g ⟨rest.map f7,f7 u,120,120,j,by decide,?_,?_,?_,⟨f7 u,?_,aaa u⟩,λk d hk ek=>?_,?_⟩)
    ·have dd:∀l:List Tr,(∀t∈l,t∈I::rest)->Paired (ju L' 120) (zm l) (l.map f7):=λl=>by
      induction l with
      |nil=>intro _;exact .nil
      |cons t r ih=>
       intro h;have mt:=h t (Av ..);obtain⟨h1,h2⟩:=B.ht t mt;have:=B.rd mt;exact .cons (rV (n:=118) h1 h2 (by lia)) (ih λt ht=>h t (Ah _ ht))
     exact dd rest λt ht=>Ah _ ht
    ·have mt:u∈I::rest:=Ah _ (Az hj);obtain⟨h1,h2⟩:=B.ht u mt;have:=B.rd mt;exact rV (n:=118) h1 h2 (by omega)
    ·rw[Af];exact(AU.mp hj).1
    ·rw[An,hj];rfl
    ·rw[An] at ek;obtain⟨v,ev,rfl⟩:=Ay.mp ek;cases c:Da.eq (f7 v) (f7 u) with
     |false=>rfl
     |true=>
      have:=B.one (i:=k+1) (j:=j+1) (by simpa using ev) (by simpa using hj) (ahb c);lia
    ·rw[m9];have B2:=(B.perm ((xb hj).cons _)).setF (.lst (zm (rest.eraseIdx j)));exact⟨[],u,q0,rest.eraseIdx j,_,_,_,_,rfl,(AQ T).symm▸B2,q9,ba,(AQ T).symm▸bb,Bo _,C4 ..⟩
  all_goals
   rintro cy L' ⟨ms,u,q0,J,c9,bS,c11,c12,rfl,B',hf,ba,bb,cI,cP⟩;have m1:I∈I::u::J:=by simp
   have m2:u∈I::u::J:=by simp
   obtain⟨a4,ab⟩:=B'.ht I m1;obtain⟨be,ca⟩:=B'.ht u m2;have ac:=bN B' m1;have cc:=bN B' m2;rw[Ac] at ac cc;refine qd a4 (qd be ⟨_,_,ab,ca,gB (by rw[Af,Af];omega),λpp bn=>?_⟩);have en:zc I.E++zc u.E=zc (I.E++u.E):=by unfold zc;rw[AD]
   rw[en];refine aem (E:=I.E++u.E) (l:=x) (r:=q0) (k:=14) q9 (by rw[Ac];omega) (λy' Q' h=>h) (λ_=>rfl) λpe bp=>?_;have s4:qj L' (qe (qe L' pp (.lst (zc (I.E++u.E)))) pe (.lst (zc ((I.E++u.E).filter λz=>!decide (z=x\/z=q0))))):=(By bn).trans (By bp);have bq:qe (qe L' pp (.lst (zc (I.E++u.E)))) pe (.lst (zc ((I.E++u.E).filter λz=>!decide (z=x\/z=q0)))) pe=some (.lst (zc (xw I.E u.E x q0))):=q9;have br:L' pe=none:=(By bn).none bp;generalize qe (qe L' pp (.lst (zc (I.E++u.E)))) pe (.lst (zc ((I.E++u.E).filter λz=>!decide (z=x\/z=q0))))=L4 at s4 bq;have done:∀(R:Ru) pa,L4 pa=none->(R=.cu x q0 I.R u.R\/R=.cu q0 x u.R I.R)->Q .non (qe (qe L4 pa (.lst [zh R,.ref pe])) fa (.lst (zm J++[.ref pa]))):=λR pa C hR=>by
    have er:zm J++[.ref pa]=zm (J++[⟨pa,pe,R,xw I.E u.E x q0⟩]):=by unfold zm;rw[AD];rfl
    rw[er];exact q _ (T++ms) (J++[⟨pa,pe,R,xw I.E u.E x q0⟩]) ⟨(adh B' hf hx ba (hw.more ms) bb s4 br bq C hR).setF _,q9⟩ (by rw[Ac];omega) (by simp) (by rw[Ac];simp;omega)
   refine⟨(by show(0:Int)<2;decide),?_⟩;show xt (decide (one % 2=0)) _ _;refine zo (λc=>?_) λc=>?_
   ·refine qd (s4 _ _ hf) (qd (s4 _ _ a4) (qd (s4 _ _ be) λpa C=>?_));refine qo (By C _ _ (s4 _ _ hf)) ⟨big _ (by rw[a0];omega),?_⟩;exact k6 (done _ pa C (.inl rfl))
   ·refine qd (s4 _ _ hf) (qd (s4 _ _ be) (qd (s4 _ _ a4) λpa C=>?_));refine qo (By C _ _ (s4 _ _ hf)) ⟨big _ (by rw[a0];omega),?_⟩;exact k6 (done _ pa C (.inr rfl))
def aly(I:jx)(p1:jx)(p2:jx)(p3:jx)(p4:jx):ww:=(qr (zr (kc qx) (qg 3))
 (qr (zr (kc qx) (qg 4))
 (qr (dP (gQ (qa 0)) (aD 2 (zn (qg 5) (zn (qg 6) wf))) (qr (aej 7 8 (qf (zd I (qf (qa 6) (aB (qa 5) (jk 48271)))) (qf (zd I (qf (qa 6) (aB (qa 5) (jk 69621)))) qx)))
 (qr (xc (yB (zj yGt (zj kz (zj kz (bQ 3) (bQ 4)) (jk 12)) (qa 2))) ajf jm)
 (qr (zr (zj aG (qa 7) (jk 9)) (qg 9))
 (qr (zr (zj bO (qa 7) (jk 9)) (qg 7))
 (xc (u5 (yB (zj yLt (qa 9) (jk 3))) (cU (qa 4) (kc qx))) (qr (jw (am j5 (qa 3) (qf (ko (qf (dS "plain") (qf (zd p1 (qf (qa 1) (qf (zj aG (qa 8) (jk 3)) qx))) qx))) qx)))
 (qr (jw (am j5 (qa 3) (qf (ko (qf (dS "turned") (qf (zd p1 (qf (qa 1) (qf (zj aG (qa 8) (jk 3)) qx))) qx))) qx)))
 (eE (xc (cU (zj aG (qa 7) (jk 2)) (jk 1)) (jw (am j5 (qa 3) (qf (am dN (qa 3) (qf (zj gr (bQ 3) (jk 2)) qx)) qx))) jm)
 (qr (zr (zj gr (bQ 3) (jk 2)) (qg 10))
 (jw (am j5 (qa 4) (qf (kc (qf (ko (qf (dS "link") (qf (qa 10) (qf (zj kz (qa 10) (jk 1)) qx)))) (qf (kc (qf (qa 10) (qf (zj kz (qa 10) (jk 1)) qx))) qx))) qx))))))) (xc (yB (zj yLt (qa 9) (jk 6))) (jw (zd p2 (qf (qa 3) (qf (zj aR (qa 4) (zj aG (qa 8) (bQ 4))) (qf (qa 7) (qf (zj bO (qa 8) (jk 64)) qx)))))) (xc (bV (yB (zj yLt (qa 9) (jk 8))) (yB (zj yGt (bQ 4) (jk 1)))) (jw (zd p3 (qf (qa 3) (qf (qa 4) (aB (qa 7) (qa 8)))))) (jw (zd p4 (qf (qa 3) (qf (qa 4) (aB (qa 7) (qa 8))))))))))))))
 (eE (xc (cU (qa 4) (kc qx)) (qr (jw (am j5 (qa 3) (qf (ko (qf (dS "turned") (qf (zd p1 (aB (qa 1) (jk 0))) qx))) qx)))
 (qr (jw (am j5 (qa 3) (qf (ko (qf (dS "plain") (qf (zd p1 (aB (qa 1) (jk 0))) qx))) qx)))
 (jw (am j5 (qa 4) (qf (kc (qf (ko (qf (dS "link") (aB (jk 0) (jk 1)))) (qf (kc (aB (jk 0) (jk 1))) qx))) qx))))) jm)
 (qr (i5 (yB (zj yGt (bQ 4) (jk 1))) (jw (zd p3 (qf (qa 3) (qf (qa 4) (qf (zj kz (zj bO (qa 1) (jk 7)) (bQ 4)) (qf (zj bO (qa 1) (jk 3)) qx)))))))
 (ji (ko (qf (qa 3) (qf (zj aR (x9 4 0) (jk 0)) qx)))))))))
theorem oy.mono{ks:List Kn}(h:oy L0 L ka fa ks fo)(s:qj L L'):oy L0 L' ka fa ks fo:=⟨h.b.mono s,s _ _ h.hf⟩
def cM.plus{J:qm}{ks ms:List Kn}{t':Tr}{fs:LO}(B:cM L0 L ka fa ks rest)(T:L fa=some fs)(sA:qj (qe L ka (.lst (jf (ks++ms)))) J)(ea:J t'.a=some (.lst [zh t'.R,.ref t'.b]))(eb:J t'.b=some (.lst (zc t'.E)))
 (U:qe L ka (.lst (jf (ks++ms))) t'.a=none) (g:qe L ka (.lst (jf (ks++ms))) t'.b=none) (l:t'.a≠t'.b) (ok:aq (ks++ms)) (sr:SR (ks++ms) t'.R t'.E) (tm:∀x,x∈j6 t'.R↔ks.length<=x/\x<ks.length+ms.length) (nd:(j6 t'.R).Nodup):
 cM L0 J ka fa (ks++ms) (rest++[t']):=by
 have keep:∀z o,z≠ka->L z=some o->J z=some o:=λz o n e=>sA _ _ (by rw[qb n];exact e);refine cM.step (old:=[]) (rest:=rest) (ms:=ms) (t':=t') B (sA _ _ q9) ⟨ea,eb⟩ (λt p=>?_) (λz o e=>?_) ?_ (λz I=>?_) ok sr ?_
 ·obtain⟨n1,n2,n3,n4⟩:=B.nk t p;obtain⟨r,C⟩:=B.ht t p;rw[r,C];exact⟨keep _ _ n3 r,keep _ _ n4 C⟩
 ·exact keep _ _ (λz=>by rw[z,B.fr ka (by simp)] at e;cases e) (B.sub _ _ e)
 ·have:=wA (L:=qe L ka (.lst (jf (ks++ms)))) B.ad (λz I=>?_) U g l
  ·rw[AO];simpa[Tr.ads] using this
  ·by_cases c:z=ka
   ·rw[c];exact⟨_,q9⟩
   ·rw[qb c];rcases Ax.mp I with rfl|I
    ·exact absurd rfl c
    ·rcases Ax.mp I with rfl|I
     ·exact⟨_,T⟩
     ·exact B.exs z I
 ·have I:z=t'.a\/z=t'.b:=by simpa[Tr.ads] using I
  cases e:L0 z with
  |none=>rfl
  |some o=>
   have n:z≠ka:=λz'=>by rw[z',B.fr ka (by simp)] at e;cases e
   have:=B.sub _ _ e;have j:qe L ka (.lst (jf (ks++ms))) z=some o:=by rw[qb n];exact this
   rcases I with rfl|rfl
   ·rw[U] at j;cases j
   ·rw[g] at j;cases j
 ·rw[DX,AQ];exact(B9 nd DL).mpr λz=>by rw[tm,Dm]
theorem oy.link{ks:List Kn}(F:oy L0 L ka fa ks fo){nm:Str}(j:fE nm)(b:Bool){pb:Addr}(J:qe L ka (.lst (jf (ks++[.lf b nm,.lf (!b) nm]))) pb=none)
 (U:qe (qe L ka (.lst (jf (ks++[.lf b nm,.lf (!b) nm])))) pb (.lst (zc [ks.length,ks.length+1])) pa=none) {fs:List Y} (g:fs=zm fo++[.ref pa]):
 oy L0 (qe (qe (qe (qe L ka (.lst (jf (ks++[.lf b nm,.lf (!b) nm])))) pb (.lst (zc [ks.length,ks.length+1]))) pa (.lst [zh (.link ks.length (ks.length+1)),.ref pb])) fa (.lst fs)) ka fa (ks++[.lf b nm,.lf (!b) nm]) (fo++[⟨pa,pb,.link ks.length (ks.length+1),[ks.length,ks.length+1]⟩]):=by
 have I:pb≠pa:=xn q9 U;have M:=uK F.b.ok (t:=!b) j;rw[Bool.not_not] at M;refine⟨(cM.plus F.b F.hf ((By J).trans (By U)) q9 (by rw[qb I];exact q9) ((By J).none U) J (AH I) M.ok M.sr M.tm M.nd).setF _,?_⟩;rw[q9,g];unfold zm;rw[AD];rfl
def cM.dats{ks:List Kn}(h:cM L0 L ka fa ks fo)(o:ks.length<=120):Paired (ju L 124) (zm fo) (fo.map f7):=by
 have J:∀l:List Tr,(∀t∈l,t∈fo)->Paired (ju L 124) (zm l) (l.map f7):=λl=>by
  induction l with
  |nil=>intro _;exact .nil
  |cons t r U=>
   intro k;have mt:=k t (Av ..);obtain⟨g,j⟩:=h.ht t mt;have:=h.rd mt;exact .cons (rV (n:=122) g j (by lia)) (U λt I=>k t (Ah _ I))
 exact J fo λt I=>I
def yA(fo:List Tr):Da.eqs (fo.map f7) []=decide (fo=[]):=by cases fo<;>rfl
def lL:jx:=λys L Q=>∃I,∃J:List Int,∃s:Int,∃room:Nat,ys=[I,.int s,.int (room:Int)]/\I=.sq (J.map Y.int)/\J.length<=1000/\room<=120/\
 ∀ka ks R E,L ka=none->aq ks->SR ks R E->(j6 R).Perm (List.range ks.length)->ks.length<=max room 2->Q (.tup [.ref ka,zh R]) (qe L ka (.lst (jf ks)))
def TW(L0:qm)(ka fa:Addr)(s:Int)(room:Nat)(τ:jy)(L:qm):Prop:=∃c0 c5 c6 c7 c8 c9 bS ks fo,τ=[c0,some (.int s),some (.int (room:Int)),some (.ref ka),some (.ref fa),c5,c6,c7,c8,c9,bS]/\oy L0 L ka fa ks fo/\ks.length+fo.length<=room
def TW.of{s:Int}{room:Nat}{ks:List Kn}{c0 c5 c6 c7 c8 c9 bS:Option Y}(F:oy L0 L ka fa ks fo)(h:ks.length+fo.length<=room):TW L0 ka fa s room [c0,some (.int s),some (.int (room:Int)),some (.ref ka),some (.ref fa),c5,c6,c7,c8,c9,bS] L:=⟨_,_,_,_,_,_,_,ks,fo,rfl,F,h⟩
def aia:∀ys L Q,lL ys L Q->xr (aly eY oZ mK rR rh) 11 ys L Q:=by
 rintro ys L Q ⟨cy,ns,s,room,rfl,bc,bf,bd,q⟩;have big:=bg_;have U:∀fo:List Tr,(zm fo).length=fo.length:=λfo=>Af ..;have l:∀I:List Kn,(jf I).length=I.length:=λI=>Af ..;intro J ab g ac;have nkf:J≠g:=xn q9 ac;have ba:L g=none:=(By ab).none ac;have F0:oy L (qe (qe L J (.lst [])) g (.lst [])) J g [] []:=by
  refine⟨⟨by rw[qb nkf];exact q9,λt ht=>by simp at ht,λt ht=>by simp at ht,by simp,by simp,by simp[nkf],λp k e=>by simp at e,(By ab).trans (By ac),λx hx=>?_⟩,q9⟩;rcases Ax.mp hx with rfl|hx
  ·exact ab
  ·rw[Ap.mp hx];exact ba
 generalize qe (qe L J (.lst [])) g (.lst [])=L1 at F0;subst bc
 all_goals
  refine wm ⟨λ_ C L'=>TW L J g s room C L',?_,?_,?_,?_⟩
  ·exact TW.of F0 (Bo _)
  ·rintro i C L' ⟨c0,c5,c6,c7,c8,c9,bS,I,fo,rfl,F,hb⟩;exact True.intro
  ·rintro i y C L' ey ⟨c0,c5,c6,c7,c8,c9,bS,I,fo,rfl,F,hb⟩;obtain⟨z,ez,rfl⟩:=eM ey;obtain⟨cell,ec,rfl⟩:∃cell:Int,ns[i]?=some cell/\z=Y.int cell:=by rw[An] at ez;obtain⟨z,e1,e2⟩:=Ay.mp ez;exact⟨z,e1,e2.symm⟩
   have hi:=(AU.mp ec).1;refine⟨cell,((i:Nat):Int),48271,rfl,by exact AY _,by omega,by decide,by decide,λone h1 bg=>⟨cell,((i:Nat):Int),69621,rfl,by exact AY _,by omega,by decide,by decide,λtwo h2 bh=>?_⟩⟩;refine qd F.b.hk (qd F.hf ?_);refine zo (λc=>?_) λc=>?_
   ·exact⟨_,EC _,TW.of F hb⟩
   have c:¬((((jf I).length:Nat):Int)+(((zm fo).length:Nat):Int)+12 > (room:Int)):=c;rw[l,U] at c;refine⟨(by decide:(0:Int)<9),⟨by decide,by decide⟩,?_⟩;refine zo (λc3=>?_) λc3=>?_
   case' refine_1=>
    obtain⟨L2,bb⟩:∃L2,L2=L':=⟨_,rfl⟩;rw[<-bb];have T:oy L L2 J g I fo:=by rw[bb];exact F
   case' refine_2=>
    intro p hp;refine aj (by decide) (By hp _ _ F.hf) q9 ((F.b.mono (By hp)).dats (by lia)) (.nil:Paired (ju _ 0) _ []) ?_;show xt (Da.eqs (fo.map f7) []) _ _;rw[yA];have T:oy L (qe L' p (.lst [])) J g I fo:=F.mono (By hp);generalize qe L' p (.lst [])=L2 at T;refine zo (λc0=>?_) λc0=>?_
   case' refine_2.refine_2=>
    have be:0<fo.length:=by cases fo with|nil=>exact absurd rfl c0|cons _ _=>simp
    have F:=T;refine zo (λc6=>?_) λc6=>?_
    ·obtain⟨j,t,ej,lj,et⟩:=jO be two;refine qd F.hf ⟨(by show(0:Int)<((zm fo).length:Int);rw[U];lia),qd F.hf (ql (v:=.ref t.a) (by show eG (zm fo) (two % ((zm fo).length:Int))=_;rw[U,ej];exact vj (by unfold zm;rw[An,et];rfl)) ?_)⟩;obtain⟨pre,post,ep⟩:=DH (Az et);rw[ep] at F hb;refine⟨⟨by decide,by decide⟩,L,J,g,I,pre,post,t,one / 9,two / 64,rfl,F,by lia,λL3 a0 a1 F3 h1 h2 _=>?_⟩;refine⟨_,EC _,?_⟩;exact TW.of F3 (by rw[ep] at c;lia)
    refine zo (λc8=>?_) λc8=>?_
    ·refine qd F.hf ?_;refine zo (λc1=>?_) λc1=>?_
     ·have c1:(((zm fo).length:Nat):Int) > 1:=c1;rw[U] at c1;refine⟨L,J,g,I,fo,one / 9,two,rfl,F,by lia,by lia,by lia,λL3 a0 a1 F3 h1 h2 _=>?_⟩;refine⟨_,EC _,?_⟩;exact TW.of F3 (by lia)
     ·refine⟨L,J,g,I,fo,one / 9,two,rfl,F,by assumption,by lia,by lia,λL3 a0 a1 F3 h1 h2 h3=>?_⟩;refine⟨_,EC _,?_⟩;exact TW.of F3 (by lia)
    ·refine⟨L,J,g,I,fo,one / 9,two,rfl,F,by lia,by lia,by lia,λL3 a0 a1 F3 h1 h2 h3=>?_⟩;refine⟨_,EC _,?_⟩;exact TW.of F3 (by lia)
   all_goals
    obtain⟨nm,a2⟩:∃nm,nm=mkS (ah s (two % 3)):=⟨_,rfl⟩;have aL:fE nm:=by rw[a2];exact tS _ _
    refine qd T.b.hk ⟨(by decide:(0:Int)<3),s,two % 3,rfl,qo T.b.hk ⟨big _ (by rw[l];omega),?_⟩⟩;refine qd q9 ⟨(by decide:(0:Int)<3),s,two % 3,rfl,qo q9 ⟨big _ (by rw[Ac,l];simp;omega),?_⟩⟩;rw[<-a2,jz];have e1:(jf I++[.tup [.str "plain",.str nm]])++[.tup [.str "turned",.str nm]]=jf (I++[.lf false nm,.lf true nm]):=by unfold jf;rw[AD,AE];rfl
    rw[e1];refine⟨λC L3=>∃(b:Bool) (d0 d10:Option Y),C=[d0,some (.int s),some (.int (room:Int)),some (.ref J),some (.ref g),some (.int ((i:Nat):Int)),some (.int cell),some (.int (one / 9)),some (.int two),some (.int (one % 9)),d10]/\L3=qe L2 J (.lst (jf (I++[.lf b nm,.lf (!b) nm]))),?_,?_⟩
    ·refine⟨(by decide:(0:Int)<2),?_⟩;show xt (decide (one / 9 % 2=1)) _ _;refine zo (λc2=>?_) λc2=>?_
     ·have l2:(jf (I++[Kn.lf false nm,.lf true nm])).length=I.length+2:=by rw[l,Ac];rfl
      have t2:((((jf (I++[Kn.lf false nm,.lf true nm])).length:Nat):Int)-2).toNat=I.length:=by rw[l2];omega
      refine qd q9 (qd q9 (qd q9 (qo q9 ⟨?_,?_,ql (v:=rK (.lf false nm)) ?_ ?_⟩)))
      ·show(0:Int)<=(((jf (I++[Kn.lf false nm,.lf true nm])).length:Nat):Int)-2;rw[l2];omega
      ·show(((jf (I++[Kn.lf false nm,.lf true nm])).length:Nat):Int)-2<_;omega
      ·show(jf (I++[Kn.lf false nm,.lf true nm]))[((((jf (I++[Kn.lf false nm,.lf true nm])).length:Nat):Int)-2).toNat]?=_;rw[t2];unfold jf;rw[An,dg];rfl
      ·rw[jz];refine qo q9 ⟨big _ ?_,?_⟩
       ·refine AK (C4 ..) ?_;show(jf (I++[Kn.lf false nm,.lf true nm])).length<=20000;rw[l2];omega
       ·refine⟨true,_,_,rfl,?_⟩;rw[jz];have e3:(jf (I++[Kn.lf false nm,.lf true nm])).eraseIdx ((((jf (I++[Kn.lf false nm,.lf true nm])).length:Nat):Int)-2).toNat++[rK (.lf false nm)]=jf (I++[.lf true nm,.lf false nm]):=by rw[t2];unfold jf;rw[AD,C8 (by simp),Af,Cy,AD,AE];rfl
        rw[e3];rfl
     ·exact⟨false,_,_,rfl,rfl⟩
    ·rintro bi L3 ⟨b,d0,d10,rfl,rfl⟩;have l2:(jf (I++[Kn.lf b nm,.lf (!b) nm])).length=I.length+2:=by rw[l,Ac];rfl
     have nn:(((jf (I++[Kn.lf b nm,.lf (!b) nm])).length:Nat):Int)-2=((I.length:Nat):Int):=by rw[l2];omega
     have a3:qe L2 J (.lst (jf (I++[.lf b nm,.lf (!b) nm]))) g=some (.lst (zm fo)):=by rw[qb (AH nkf)];exact T.hf
     have en:∀z:Int,z=((I.length:Nat):Int)->zc [I.length,I.length+1]=[.int z,.int (z+1)]:=λz e=>by rw[e];rfl
     have er:∀z:Int,z=((I.length:Nat):Int)->zh (.link I.length (I.length+1))=.tup [.str "link",.int z,.int (z+1)]:=λz e=>by rw[e];rfl
     have en:=en _ nn;have er:=er _ nn;refine qd q9 (qd a3 λpb a4 pa a5=>?_);have H:=T.link aL b (pb:=pb) (pa:=pa) a4 (by rw[en];exact a5) rfl;refine qo (((By a4).trans (By a5)) _ _ a3) ⟨big _ (by rw[U];omega),?_⟩;rw[en,er] at H;refine⟨_,EC _,?_⟩;exact TW.of H (by rw[Ac,Ac];simp;omega)
  ·rintro C L' ⟨c0,c5,c6,c7,c8,c9,bS,I,fo,rfl,F,hb⟩;refine⟨λC L3=>∃c0 c5 c6 c7 c8 c9 bS I fo,C=[c0,some (.int s),some (.int (room:Int)),some (.ref J),some (.ref g),c5,c6,c7,c8,c9,bS]/\oy L L3 J g I fo/\1<=fo.length/\I.length+fo.length<=max room 3,?_,?_⟩
   ·intro p hp;refine aj (by decide) (By hp _ _ F.hf) q9 ((F.b.mono (By hp)).dats (by lia)) (.nil:Paired (ju _ 0) _ []) ?_;show xt (Da.eqs (fo.map f7) []) _ _;rw[yA];have T:oy L (qe L' p (.lst [])) J g I fo:=F.mono (By hp);generalize qe L' p (.lst [])=L2 at T;refine zo (λc0=>?_) λc0=>?_
    ·subst c0;have k0:I=[]:=by cases I with|nil=>rfl|cons k r=>exact absurd ((F.b.tm 0).mpr (by simp)) (by simp)
     subst k0;obtain⟨nm,a2⟩:∃nm,nm=mkS (ah s 0):=⟨_,rfl⟩;have aL:fE nm:=by rw[a2];exact tS _ _
     refine qd T.b.hk ⟨s,0,rfl,qo T.b.hk ⟨big _ (by decide),?_⟩⟩;refine qd q9 ⟨s,0,rfl,qo q9 ⟨big _ (by show 1<=20000;decide),?_⟩⟩;rw[<-a2,jz];have a3:∀o,qe L2 J o g=some (.lst (zm [])):=λo=>by rw[qb (AH nkf)];exact T.hf
     refine qd (a3 _) λpb a4 pa a5=>?_;have H:=T.link aL true (pb:=pb) (pa:=pa) a4 a5 rfl;refine qo (((By a4).trans (By a5)) _ _ (a3 _)) ⟨big _ (by show 0<=20000;decide),?_⟩;exact⟨_,_,_,_,_,_,_,_,_,rfl,H,by simp,by simp;lia⟩
    ·exact⟨_,_,_,_,_,_,_,I,fo,rfl,T,(by cases fo with|nil=>exact absurd rfl c0|cons _ _=>simp),by lia⟩
   ·rintro C L' ⟨c0,c5,c6,c7,c8,c9,bS,I,fo,rfl,F,h1,hb⟩;refine⟨λm C L3=>∃c0 c5 c6 c7 c8 c9 bS I fo,C=[c0,some (.int s),some (.int (room:Int)),some (.ref J),some (.ref g),c5,c6,c7,c8,c9,bS]/\oy L L3 J g I fo/\1<=fo.length/\fo.length=m/\I.length+fo.length<=max room 3,⟨_,_,_,_,_,_,_,_,_,_,rfl,F,h1,rfl,hb⟩,?_⟩;rintro m C L' ⟨c0,c5,c6,c7,c8,c9,bS,I,fo,rfl,F,h1,hm,hb⟩;refine qd F.hf ?_;refine zo (λc1=>?_) λc1=>?_
    ·have c1:(((zm fo).length:Nat):Int) > 1:=c1;rw[U] at c1;refine⟨λC L3=>∃c0 c5 c6 c7 c8 c9 bS I fo,C=[c0,some (.int s),some (.int (room:Int)),some (.ref J),some (.ref g),c5,c6,c7,c8,c9,bS]/\oy L L3 J g I fo/\1<=fo.length/\fo.length+1=m/\I.length+fo.length<=max room 3,?_,?_⟩
     ·rintro C L3 ⟨d0,d5,d6,d7,d8,d9,d10,a0,a1,rfl,F3,g1,g2,g3⟩;exact⟨m-1,by lia,_,_,_,_,_,_,_,_,_,rfl,F3,g1,by lia,g3⟩
     ·refine⟨⟨by decide,by decide⟩,qd F.hf ⟨⟨by decide,by decide⟩,L,J,g,I,fo,_,_,rfl,F,by lia,by lia,by lia,λL3 a0 a1 F3 g1 g2 _=>?_⟩⟩;exact⟨_,EC _,_,_,_,_,_,_,_,a0,a1,rfl,F3,by lia,by lia,by lia⟩
    ·have c1:¬((((zm fo).length:Nat):Int) > 1):=c1;rw[U] at c1;obtain⟨t,rfl⟩:∃t,fo=[t]:=by
      match fo,h1,c1 with
      |[t],_,_=>exact⟨t,rfl⟩
      |t::u::r,_,c=>exact absurd (show(((t::u::r).length:Nat):Int) > 1 by simp;lia) c
     have ta:=(F.b.ht t (Av ..)).1;refine qd F.hf (qd ta ?_);refine bW (qj.put F.b.sub F.b.hk) (q J I t.R t.E ab F.b.ok (F.b.sr t (Av ..)) ?_ ?_)
     ·have nd:=F.b.nd;have tm:=F.b.tm;simp at nd tm;exact(B9 nd BS).mpr λx=>by rw[tm,AS]
     ·simp at hb;lia
def m5(p q:Nat×Nat):Prop:=p.1<q.1\/(p.1=q.1/\p.2<=q.2)
def ue(p:Nat×Nat):Int×Int:=((p.1:Int),(p.2:Int))
def abl{p q:Nat×Nat}(h:ue p=ue q):p=q:=by obtain⟨a,b⟩:=p;obtain⟨c,d⟩:=q;have I:(a:Int)=c:=BH Prod.fst h;have J:(b:Int)=d:=BH Prod.snd h;rw[B5.mp I,B5.mp J]
def uD(ps:List (Nat×Nat)):qu ps=(ps.map ue).map prY:=by rw[BP];rfl
def se{a:Addr}{ps:List (Nat×Nat)}{Q:YK}(U:L a=some (.lst (qu ps)))(g:∀p∈ps,p.2<1000000)(nd:ps.Nodup)(j:ps.length<=100000)
 (q:∀D qs,L D=none->qs.Perm ps->qs.Pairwise m5->Q (.ref D) (qe L D (.lst (qu qs)))):db [.ref a] L Q:=by
 refine qo U ⟨ps.map ue,uD ps,λp l=>?_,?_,by rw[Af];exact j,λD qs o pm t=>?_⟩
 ·obtain⟨r,C,rfl⟩:=BE.mp l;have:=g r C;exact⟨AY _,by show((r.2:Nat):Int)<1000000;omega⟩
 ·exact eI (λx _ y _ e=>abl e) nd
 ·obtain⟨T,pT,rfl⟩:=qK ue pm rfl;rw[<-uD];refine q D T o pT ((Cj.mp t).imp λ{x y} z=>?_);unfold m5;rcases z with z|⟨I,J⟩
  ·left;have z:((x.1:Nat):Int)<y.1:=z;lia
  ·right;have I:((x.1:Nat):Int)=y.1:=I;have J:((x.2:Nat):Int)<=y.2:=J;exact⟨by lia,by lia⟩
def tW{m:Nat×Nat->Nat×Nat}{keep:qm->Prop}{Q:YK}(hz:lk.length<=1000)(l:keep L)
 (turn:∀(i:Nat) (I:Nat×Nat) (R:List Y->qm->Prop) zs,lk[i]?=some I->R (zs++[qC (m I)]) L->g (qC I) (τ++List.replicate 2 none) L λJ L2=>tc J L2 λb L3=>xt b (te J L3 λz o=>R (zs++[z]) o) (R zs L3))
 (r:∀p,L p=none->Q (.ref p) (qe L p (.lst (qu (lk.map m))))):yJ (qu lk) keep 2 g tc te τ L Q:=by
 refine ar (λi zs=>zs=qu ((lk.take i).map m)) (by rw[Af];exact A8 hz (by decide)) l rfl ?_ ?_
 ·rintro i y zs U rfl;rw[An] at U;obtain⟨I,j,rfl⟩:=Ay.mp U;refine turn i I _ _ j ⟨L,EC _,rfl,?_⟩;rw[Bf,j,AD];show _=(_++_:List (Nat×Nat)).map qC;rw[AD];rfl
 ·rintro zs rfl p t;rw[Af,Bc];exact r p t
structure wV(L0:qm)(ks:List (Option Kn))(qs:List Nat)(d w D:Addr)(i ex:Nat)(f:Nat->Nat)(wd:List (Option Kn))(kvs:List (jp×Y))(L:qm):Prop where
 sub:qj L0 L
 hd:L d=some (.dct kvs)
 hw:L w=some (.lst (w6 wd))
 hD:L D=some (.lst (nY qs))
 len:kvs.length<=i
 val:∀p:Nat,aE kvs (.inl (p:Int))=if p∈qs.take i then some (.int (f p:Int)) else none
 gap:sV ks (qs.take i) f wd
 wlen:wd.length<=2*i+ex
def mmP(f:Nat->Nat)(p:Nat×Nat):Nat×Nat:=(min (f p.1) (f p.2),max (f p.1) (f p.2))
def ppP(f:Nat->Nat)(p:Nat×Nat):Nat×Nat:=(f p.1,f p.2)
structure Ren(f:Nat->Nat)(ks wd:List (Option Kn)):Prop where
 gap:sV ks (List.range ks.length) f wd
 len:wd.length<=2*ks.length+1
def fS(Pt:Addr):jx:=λys L Q=>∃a l c,∃ks:List (Option Kn),∃lk ct:List (Nat×Nat),∃s:Int,∃b:Bool,ys=[.ref a,.ref l,.ref c,.int s,.bl b]/\L a=some (.lst (w6 ks))/\L l=some (.lst (qu lk))/\L c=some (.lst (qu ct))/\uz ks/\ks.length<=400/\L Pt=some (.tb lamQ)/\
 lk.Nodup/\(∀p∈lk,p.1<p.2/\p.2<ks.length)/\lk.length<=1000/\ct.Nodup/\(∀p∈ct,p.1<ks.length/\p.2<ks.length)/\ct.length<=1000/\
 ∀f wd I J U g j L',Ren f ks wd->I.Perm (lk.map (mmP f))->I.Pairwise m5->J.Perm (ct.map (ppP f))->J.Pairwise m5->qj L L'->L U=none->L g=none->L j=none->U≠g->U≠j->g≠j->L' U=some (.lst (w6 wd))->L' g=some (.lst (qu I))->L' j=some (.lst (qu J))->Q (ay U g j) L'
def iG(wd:List (Option Kn))(k:Option Kn):w6 wd++[gb k]=w6 (wd++[k]):=by unfold w6;rw[AD];rfl
def ae(wd:List (Option Kn)):(w6 wd).length=wd.length:=Af ..
def wV.wide{d w D:Addr}{ex ex':Nat}{f:Nat->Nat}{wd':List (Option Kn)}(G:wV L0 ks qs d w D i ex f wd kvs L)(U:L0 w=none)(I:d≠w)(J:w≠D)(g:sV ks (qs.take i) f wd')(h:wd'.length<=2*i+ex'):
 wV L0 ks qs d w D i ex' f wd' kvs (qe L w (.lst (w6 wd'))):=
 ⟨G.sub.upd U,(qb I).trans G.hd,q9,(qb (AH J)).trans G.hD,G.len,G.val,g,h⟩
theorem sV.gaps{ps:List Nat}{f:Nat->Nat}(h:sV ks ps f wd):∀n,sV ks ps f (wd++List.replicate n none)
 |0=>by rw[List.replicate_zero,AQ];exact h
 |n+1=>by rw[List.replicate_succ',<-AE];exact(h.gaps n).gap
def apk{a b c:Nat}(h1:min a b=min c d)(h2:max a b=max c d):(a=c/\b=d)\/(a=d/\b=c):=by lia
theorem yo :∀ys L Q,fS Pt ys L Q->xr (ot (mR Pt) eY) 9 ys L Q:=by
 rintro ys L Q ⟨a,l,c,j,lk,ct,s,b,rfl,ha,hl,hc,ok,hz,hP,ca,a3,cc,cg,a4,ck,q⟩;have big:=bg_;intro d hd w hw;have be:L w=none:=jo hw;have a0:d≠w:=xn q9 hw;have s0:qj L (qe (qe L d (.dct [])) w (.lst [])):=(By hd).trans (By hw);refine⟨a,j,s,rfl,s0 _ _ ha,ok,by exact dG,s0 _ _ hP,λD I hD pm pf=>?_⟩;have dt:L D=none:=jo (jo hD);have bb:w≠D:=xn q9 hD;have bf:d≠D:=xn ((qb a0).trans q9) hD;have lq:I.length=j.length:=by rw[pm.length_eq,A5]
 have cm:I.Nodup:=pm.nodup_iff.mpr BS;have mq:∀p∈I,p<j.length:=λp C=>AS.mp (pm.mem_iff.mp C);have G0:wV L j I d w D 0 0 (λ_=>0) [] [] (qe (qe (qe L d (.dct [])) w (.lst [])) D (.lst (nY I))):=
  ⟨s0.trans (By hD),(qb bf).trans ((qb a0).trans q9),(qb bb).trans q9,q9,Al _,λp=>rfl,sV.nil _ _,Al _⟩
 refine x4 q9 λkeep kp=>wm ⟨λi τ L'=>∃f T J c7 c8,τ=[some (Y.ref a),some (Y.ref l),some (Y.ref c),some (.int s),some (.bl b),some (Y.ref d),some (Y.ref w),c7,c8]/\wV L j I d w D i 0 f T J L',⟨_,_,_,_,_,rfl,G0⟩,?_,?_,?_⟩
 ·rintro i τ L' ⟨f,T,J,c7,c8,rfl,G⟩;exact kp L' (by rw[G.hD,q9])
 ·rintro i y τ L' hy ⟨f,T,J,c7,c8,rfl,G⟩;obtain⟨p,ep,rfl⟩:=dZ hy;have hi:=ze ep;have C:p<j.length:=mq p (Az ep);obtain⟨k,hk⟩:∃k,j[p]?=some k:=⟨_,Aj C⟩;have pn:p∉I.take i:=λhm=>by
   have e2:I=I.take i++p::I.drop (i+1):=by rw[Aj hi] at ep;rw[<-AW ep,Dl,Bm]
   have nd:=cm;rw[e2] at nd;exact(AI.mp nd).2.2 p hm p (Av ..) rfl
  have et:I.take (i+1)=I.take i++[p]:=by rw[Bf,ep];rfl
  refine⟨λa2 L1=>∃wd',a2=[some (Y.ref a),some (Y.ref l),some (Y.ref c),some (.int s),some (.bl b),some (Y.ref d),some (Y.ref w),some (.int (p:Nat)),c8]/\wV L j I d w D i 1 f wd' J L1,?_,?_⟩
  ·have plain:wV L j I d w D i 1 f T J L':=⟨G.sub,G.hd,G.hw,G.hD,G.len,G.val,G.gap,by have:=G.wlen;exact afc⟩;cases b with
   |false=>exact⟨T,rfl,plain⟩
   |true=>
    refine⟨s,(p:Nat),40692,rfl,by exact AY _,by omega,by decide,by decide,λv h0 h1=>?_⟩;refine⟨show(0:Int)<3 by decide,?_⟩;refine zo (λg=>?_) λg=>⟨T,rfl,plain⟩;refine qd G.hw (qo G.hw ⟨by rw[ae];have:=G.wlen;exact big _ (by lia),?_⟩);refine⟨T++[none],rfl,?_⟩;have:=G.wide (wd':=T++[none]) (ex':=1) be a0 bb G.gap.gap (by rw[Ac];have:=G.wlen;show T.length+1<=_;exact uM);rw[<-iG] at this;exact this
  ·rintro a2 L1 ⟨wd',rfl,G1⟩;have aL:∀e i' j',k=some (.nd e i' j')->i'∈I.take i/\j'∈I.take i:=λe i' j' z=>mS ok pm pf ep (by rw[hk,z]);have bc:∀x∈I.take i,∀e i' j',j[x]?=some (some (.nd e i' j'))->i'∈I.take i/\j'∈I.take i:=λx hx e i' j' z=>by
    obtain⟨n,hn⟩:=BW hx;have cn:=ze hn;rw[AX] at cn;rw[DN (by lia)] at hn;obtain⟨h1,h2⟩:=mS ok pm pf hn z;have sb:∀y,y∈I.take n->y∈I.take i:=λy hy=>by
     have:I.take n=(I.take i).take n:=by rw[List.take_take,Ce (by lia)]
     rw[this] at hy;exact Bx hy
    exact⟨sb _ h1,sb _ h2⟩
   have vp:∀y:Nat,aE (og J (.inl (p:Int)) (.int ((wd'.length:Nat):Int))) (.inl (y:Int))=if y∈I.take i++[p] then some (.int (((if y=p then wd'.length else f y):Nat):Int)) else none:=λy=>by
    rw[mQ];by_cases e:y=p
    ·subst e;rw[Aw rfl,Aw rfl,Aw (Ag _ (Ap.mpr rfl))]
    ·rw[As (λz=>e (B5.mp (Ev z))),As e,G1.val];by_cases h:y∈I.take i
     ·rw[Aw h,Aw (Au _ h)]
     ·rw[As h,As λz=>(Ak.mp z).elim h λz=>e (Ap.mp z)]
   have wl:=G1.wlen;have kl:=G1.len;refine qd G1.hw ?_;rw[ae];refine zu G1.hd ⟨big _ (by lia),?_⟩;have cv:a≠d:=xn ha hd;refine qd ((qb cv).trans (G1.sub _ _ ha)) (ql (wn hk) ?_);have dv:∀{o},qe L1 d o d=some o:=q9;refine⟨λa2 L2=>a2=[some (Y.ref a),some (Y.ref l),some (Y.ref c),some (.int s),some (.bl b),some (Y.ref d),some (Y.ref w),some (.int (p:Nat)),some (gb (lD f k))]/\L2=qe L1 d (.dct (og J (.inl (p:Int)) (.int ((wd'.length:Nat):Int)))),?_,?_⟩
   ·cases k with
    |none=>exact⟨rfl,rfl⟩
    |some k=>
     cases k with
     |lf t n=>exact⟨rfl,rfl⟩
     |nd e p1 p2=>
      obtain⟨m1,m2⟩:=aL e p1 p2 rfl;have v1:=vp p1;have v2:=vp p2;rw[Aw (Au _ m1),As λ(z:p1=p)=>pn (z▸m1)] at v1;rw[Aw (Au _ m2),As λ(z:p2=p)=>pn (z▸m2)] at v2;refine zu q9 (ql v1 ?_);refine zu q9 (ql v2 ?_);exact⟨rfl,rfl⟩
   ·rintro a2 L2 ⟨rfl,rfl⟩;have bg:qe L1 d (.dct (og J (.inl (p:Int)) (.int ((wd'.length:Nat):Int)))) w=some (.lst (w6 wd')):=(qb (AH a0)).trans G1.hw;refine qd bg (qo bg ⟨by rw[ae];exact big _ (by lia),?_⟩);rw[iG];have hb:∀x∈I.take i,x<j.length:=λx hx=>mq x (Bx hx);refine⟨_,EC _,λx=>if x=p then wd'.length else f x,wd'++[lD f k],_,_,_,rfl,(G1.sub.upd hd).upd be,(qb a0).trans q9,q9,(qb (AH bb)).trans ((qb (AH bf)).trans G1.hD),?_,λy=>?_,?_,?_⟩
    ·have:=o4 J (.inl (p:Int)) (.int ((wd'.length:Nat):Int));lia
    ·rw[et];exact vp y
    ·rw[et];exact G1.gap.step hb pn hk bc aL
    ·rw[Ac];show wd'.length+1<=_;exact uM
 ·rintro τ L' ⟨f,T,J,c7,c8,rfl,G⟩;have eq:(nY I).length=I.length:=Af ..;rw[eq] at G;have et:I.take I.length=I:=Bc;have val:∀p,p<j.length->aE J (.inl (p:Int))=some (.int (f p:Int)):=λp C=>by rw[G.val,et,Aw (pm.mem_iff.mpr (AS.mpr C))]
  have gap:sV j (List.range j.length) f T:=by have g:=G.gap;rw[et] at g;exact⟨λp C=>g.at_ p (pm.mem_iff.mpr C),λp C r hr=>g.inj p (pm.mem_iff.mpr C) r (pm.mem_iff.mpr hr),λx k hx=>let ⟨r,hr,e⟩:=g.only x k hx;⟨r,pm.mem_iff.mp hr,e⟩,g.ok⟩
  have flt:∀p,p<j.length->f p<T.length:=λp C=>gap.lt (AS.mpr C) C;have inj:∀p r,p<j.length->r<j.length->f p=f r->p=r:=λp r C hr e=>gap.inj p (AS.mpr C) r (AS.mpr hr) e;have wl:T.length<=2*j.length:=by have:=G.wlen;rw[lq] at this;lia
  refine x4 (G.sub _ _ hl) λkeep kp=>tW (m:=mmP f) cc (kp _ rfl) (λi U R zs bd hR=>?_) λp1 bh=>?_
  ·obtain⟨l1,l2⟩:=a3 U (Az bd);have v1:=val U.1 (by exact i0);have v2:=val U.2 l2;refine zu G.hd (ql v1 ?_);refine zu G.hd (ql v2 ?_);refine zu G.hd (ql v1 ?_);refine zu G.hd (ql v2 ?_);have e1:min ((f U.1:Nat):Int) ((f U.2:Nat):Int)=((min (f U.1) (f U.2):Nat):Int):=aqk _ _;have e2:max ((f U.1:Nat):Int) ((f U.2:Nat):Int)=((max (f U.1) (f U.2):Nat):Int):=aqq _ _;have cx:R (zs++[.tup [.int (min ((f U.1:Nat):Int) ((f U.2:Nat):Int)),.int (max ((f U.1:Nat):Int) ((f U.2:Nat):Int))]]) L':=by rw[e1,e2];exact hR
   exact cx
  have b1:∀p∈lk.map (mmP f),p.2<1000000:=λp C=>by obtain⟨r,hr,rfl⟩:=BE.mp C;obtain⟨h1,h2⟩:=a3 r hr;have:=flt r.1 (by lia);have:=flt r.2 h2;exact Nat.max_lt.mpr ⟨by lia,by lia⟩
  have n1:(lk.map (mmP f)).Nodup:=eI (λx hx y hy e=>by
   obtain⟨x1,x2⟩:=a3 x hx;obtain⟨y1,y2⟩:=a3 y hy;have m1:min (f x.1) (f x.2)=min (f y.1) (f y.2):=BH Prod.fst e;have m2:max (f x.1) (f x.2)=max (f y.1) (f y.2):=BH Prod.snd e;have a1:x.1=y.1/\x.2=y.2:=by
    rcases apk m1 m2 with⟨c1,c2⟩|⟨c1,c2⟩
    ·exact⟨inj x.1 y.1 (Df x1 x2) (Df y1 y2) c1,inj x.2 y.2 x2 y2 c2⟩
    ·have e3:=inj x.1 y.2 (Df x1 x2) y2 c1;have e4:=inj x.2 y.1 x2 (Df y1 y2) c2;rw[e3,e4] at x1;exact absurd x1 (Nat.lt_asymm y1)
   exact Es a1.1 a1.2) ca
  dsimp only[qx];refine se (ps:=lk.map (mmP f)) q9 b1 n1 (by rw[Af];exact dG) λD1 bi bj cy cI=>?_;have dj:L p1=none:=G.sub.none bh;have bm:=jo bj;have bn:L D1=none:=G.sub.none bm;have S1:qj L' (qe (qe L' p1 (.lst (qu (lk.map (mmP f))))) D1 (.lst (qu bi))):=(By bh).trans (By bj);refine x4 (S1 _ _ (G.sub _ _ hc)) λkeep kp=>tW (m:=ppP f) ck (kp _ rfl) (λi U R zs bd hR=>?_) λp2 a5=>?_
  ·obtain⟨l1,l2⟩:=a4 U (Az bd);refine zu (S1 _ _ G.hd) (ql (val U.1 l1) ?_);refine zu (S1 _ _ G.hd) (ql (val U.2 l2) ?_);exact hR
  have b2:∀p∈ct.map (ppP f),p.2<1000000:=λp C=>by obtain⟨r,hr,rfl⟩:=BE.mp C;obtain⟨h1,h2⟩:=a4 r hr;have:=flt r.2 h2;show f r.2<1000000;lia
  have n2:(ct.map (ppP f)).Nodup:=eI (λx hx y hy e=>by obtain⟨x1,x2⟩:=a4 x hx;obtain⟨y1,y2⟩:=a4 y hy;exact Es (inj _ _ x1 y1 (BH Prod.fst e)) (inj _ _ x2 y2 (BH Prod.snd e))) cg
  dsimp only[qx];refine se (ps:=ct.map (ppP f)) q9 b2 n2 (by rw[Af];exact dG) λD2 bp bq cP d0=>?_;have ba:=jo bq;have S2:=S1.trans ((By a5).trans (By (o:=.lst (qu bp)) bq));have br:L D2=none:=G.sub.none (S1.none ba);have ab:D1≠D2:=xn q9 ba;obtain⟨m,hm,dV⟩:∃m:Nat,(if b=true then(1:Int) else 0)=(m:Int)/\m<=1:=by cases b;exact⟨0,rfl,by exact Bo _⟩;exact⟨1,rfl,by exact Bg _⟩
  walk_at "w";rw[hm];refine⟨⟨by exact AY _,by omega⟩,?_⟩;rw[Cg];refine wH (λi zs=>zs=w6 (List.replicate i none)) (big _ (by exact dG)) rfl ?_ ?_
  ·rintro i zs hi rfl;refine⟨_,EC _,rfl,?_⟩;rw[List.replicate_succ'];exact iG _ none
  rintro zs rfl p3 ac;have S3:=S2.trans (By (o:=.lst (w6 (List.replicate m none))) ac);refine⟨_,_,S3 _ _ G.hw,q9,?_,λp4 bu=>?_⟩
  ·rw[ae,ae,BR];exact BD (big _ (by lia))
  have h4:=jo bu;have dd:L p4=none:=G.sub.none (S2.none h4);have bv:D2≠p4:=xn q9 h4;have bw:D1≠p4:=xn ((qb ab).trans ((qb (xn q9 a5)).trans q9)) h4;have dp:=jo ac;have de:D1≠p3:=xn ((qb ab).trans ((qb (xn q9 a5)).trans q9)) ac;have di:D2≠p3:=xn q9 ac;have eo:w6 T++w6 (List.replicate m none)=w6 (T++List.replicate m none):=by unfold w6;rw[AD]
  rw[eo];refine k6 (q f (T++List.replicate m none) bi bp p4 D1 D2 _ ⟨gap.gaps m,?_⟩ cy cI cP d0 ((G.sub.trans S3).trans (By bu)) dd bn br (AH bw) (AH bv) ab q9 ?_ ?_)
  ·rw[Ac,BR];exact apa
  ·rw[qb bw,qb de,qb ab,qb (xn q9 a5),q9]
  ·rw[qb bv,qb di,q9]
def tN:ww:=(qr (ajp 1 2 3 (qf (kc qx) (qf (kc qx) (qf (kc (aI (qa 0))) qx))))
 (qr (i5 (qR (qa 3) (kc qx)) (qr (zr (am aay (qa 3) qx) (qg 4))
 (eE (xc (cU (x9 4 0) (dS "link")) (jw (am j5 (qa 1) (qf (rdT (x9 4 1) (x9 4 2)) qx))) jm)
 (eE (xc (cU (x9 4 0) (dS "cut")) (jw (am j5 (qa 2) (qf (rdT (x9 4 1) (x9 4 2)) qx))) jm)
 (jw (am bZ (qa 3) (qf (mC 1 (adq (ySl ais (qa 4) (kK (jk 2)) fO)) (qg 5) (yB (aQ .tuple (qa 5))) (qa 5)) qx)))))))
 (ji (ko (qf (cY db (aI (qa 1))) (qf (cY db (aI (qa 2))) qx))))))
def j4:Ru->List (Nat×Nat)
 |.link p q=>[(p,q)]
 |.ei _ A=>j4 A
 |.bo _ A B=>j4 A++j4 B
 |.cu _ _ A B=>j4 A++j4 B
def jh:Ru->List (Nat×Nat)
 |.link _ _=>[]
 |.ei _ A=>jh A
 |.bo _ A B=>jh A++jh B
 |.cu p q A B=>(p,q)::(jh A++jh B)
def l7:Ru->Nat
 |.link _ _=>1
 |.ei _ A=>l7 A+1
 |.bo _ A B=>l7 A+l7 B+1
 |.cu _ _ A B=>l7 A+l7 B+1
def ak:Ru->List Ru
 |.link _ _=>[]
 |.ei _ A=>[A]
 |.bo _ A B=>[A,B]
 |.cu _ _ A B=>[A,B]
def pD:Ru->List (Nat×Nat)
 |.link p q=>[(p,q)]
 |_=>[]
def rS:Ru->List (Nat×Nat)
 |.cu p q _ _=>[(p,q)]
 |_=>[]
def wS(A:Ru):j4 A=pD A++(ak A).flatMap j4:=by cases A<;>simp[j4,pD,ak]
def ab6(A:Ru):jh A=rS A++(ak A).flatMap jh:=by cases A<;>simp[jh,rS,ak]
def uo(A:Ru):((ak A).map l7).sum+1=l7 A:=by cases A<;>simp[l7,ak]
def afs(A:Ru):0<l7 A:=by cases A<;>simp[l7]
def ab5{A B:Ru}(h:B∈ak A):aV B<aV A:=by cases A<;>simp[ak] at h<;>(try rcases h with rfl|rfl)<;>(try subst h)<;>simp[aV]<;>omega
def o5:Ru->List Y
 |.link _ q=>[.int ((q:Nat):Int)]
 |.ei _ A=>[zh A]
 |.bo _ A B=>[zh A,zh B]
 |.cu _ q A B=>[.int ((q:Nat):Int),zh A,zh B]
def ahn:Y->Option Y
 |.tup ys=>some (.tup ys)
 |_=>none
def yj(A:Ru):ahn (zh A)=some (zh A):=by cases A<;>rfl
def xX(i:Int):ahn (.int i)=none:=rfl
def yr(A:Ru):(o5 A).filterMap ahn=(ak A).map zh:=by cases A<;>simp[o5,ak,CS,yj,xX]
def acm{A:Ru}(h:y∈o5 A):(∃q:Nat,y=.int (q:Int))\/∃B,y=zh B:=by
 cases A<;>simp[o5] at h
 ·exact .inl ⟨_,h⟩
 ·exact .inr ⟨_,h⟩
 ·rcases h with h|h<;>exact .inr ⟨_,h⟩
 ·rcases h with h|h|h
  ·exact .inl ⟨_,h⟩
  ·exact .inr ⟨_,h⟩
  ·exact .inr ⟨_,h⟩
structure kM(R:Ru)(lk ct:List (Nat×Nat))(st:List Ru):Prop where
 pl:(lk++st.flatMap j4).Perm (j4 R)
 pc:(ct++st.flatMap jh).Perm (jh R)
 sz:(st.map l7).sum<=l7 R
 dp:∀A∈st,aV A<=aV R
def kM.start(R:Ru):kM R [] [] [R]:=⟨by simp,by simp,by simp,λA I=>by simp at I;subst I;exact Al _⟩
def kM.step{R A:Ru}{st:List Ru}(h:kM R lk ct (st++[A])):kM R (lk++pD A) (ct++rS A) (st++ak A):=by
 have pm:∀{X U V W:List (Nat×Nat)},(X++U++(V++W)).Perm (X++(V++(U++W))):=λ{X U V W}=>by rw[AE];refine Dq X ?_;rw[<-AE,<-AE];exact Dn W Bi
 refine⟨?_,?_,?_,λB I=>?_⟩
 ·refine List.Perm.trans ?_ h.pl;rw[AO,AO];have:[A].flatMap j4=pD A++(ak A).flatMap j4:=by rw[<-wS];simp
  rw[this];exact pm
 ·refine List.Perm.trans ?_ h.pc;rw[AO,AO];have:[A].flatMap jh=rS A++(ak A).flatMap jh:=by rw[<-ab6];simp
  rw[this];exact pm
 ·have:=h.sz;have:=uo A;simp at *;lia
 ·rcases Ak.mp I with I|I
  ·exact h.dp B (Au _ I)
  ·have:=ab5 I;have:=h.dp A (Ag _ (Ap.mpr rfl));exact aky
def lV:jx:=λys L Q=>∃R:Ru,ys=[zh R]/\aV R<=120/\l7 R<=1000/\(j4 R).Nodup/\(jh R).Nodup/\(∀p∈j4 R,p.2<1000000)/\(∀p∈jh R,p.2<1000000)/\(j4 R).length<=1000/\(jh R).length<=1000/\
 ∀I J lk ct,L I=none->L J=none->I≠J->lk.Perm (j4 R)->lk.Pairwise m5->ct.Perm (jh R)->ct.Pairwise m5->Q (.tup [.ref I,.ref J]) (qe (qe L I (.lst (qu lk))) J (.lst (qu ct)))
def io(l:List (Nat×Nat))(p:Nat×Nat):qu l++[qC p]=qu (l++[p]):=by unfold qu;rw[AD];rfl
def aeh(st:List Ru):Da.eqs (st.map cf) []=decide (st=[]):=by cases st<;>rfl
theorem oH{L:qm}{n:Nat}:∀{st:List Ru},(∀A∈st,aV A<=n)->Paired (ju L n) (st.map zh) (st.map cf)
 |[],_=>.nil
 |A::r,h=>.cons (dW (h A (Av ..))) (oH λB I=>h B (Ah _ I))
def ai6:∀ys L Q,lV ys L Q->xr tN 5 ys L Q:=by
 rintro ys L Q ⟨R,rfl,hd,hz,bd,be,b1,b2,z1,z2,q⟩;have big:=bg_;intro g ab J a5 I a0;have a1:g≠J:=xn q9 a5;have a2:J≠I:=xn q9 a0;have a3:g≠I:=xn ((qb a1).trans q9) a0;have ac:L J=none:=jo a5;have a4:L I=none:=jo (jo a0);have S0:qj L (qe (qe (qe L g (.lst [])) J (.lst [])) I (.lst [zh R])):=((By ab).trans (By a5)).trans (By a0);refine⟨λm τ j=>∃lk t st c4,τ=[some (zh R),some (Y.ref g),some (Y.ref J),some (Y.ref I),c4]/\qj L j/\j g=some (.lst (qu lk))/\j J=some (.lst (qu t))/\j I=some (.lst (st.map zh))/\kM R lk t st/\m=(st.map l7).sum,⟨_,[],[],[R],_,rfl,S0,(qb a3).trans ((qb a1).trans q9),(qb a2).trans q9,q9,kM.start R,rfl⟩,?_⟩;rintro m τ j ⟨lk,t,st,c4,rfl,s,h1,h2,h3,T,rfl⟩;intro p hp;refine aj (n:=120) (m:=0) (by decide) (By hp _ _ h3) q9 (oH λA hA=>AK (T.dp A hA) hd) (.nil:Paired (ju _ 0) _ []) ?_;have bf:g≠p:=xn h1 hp;have bg:J≠p:=xn h2 hp;have bh:I≠p:=xn h3 hp;have s2:qj L (qe j p (.lst [])):=s.trans (By hp);replace h1:=(qb (o:=.lst []) bf).trans h1;replace h2:=(qb (o:=.lst []) bg).trans h2;replace h3:=(qb (o:=.lst []) bh).trans h3;generalize qe j p (.lst [])=L2 at s2 h1 h2 h3 ⊢;show xt (!(Da.eqs (st.map cf) [])) _ _;rw[aeh];rcases List.eq_nil_or_concat st with rfl|⟨iY,A,rfl⟩
 ·refine aF rfl ?_;have pl:lk.Perm (j4 R):=by have:=T.pl;simpa using this
  have pc:t.Perm (jh R):=by have:=T.pc;simpa using this
  dsimp only[ji,ko,cY,qf,aI,aB,rdT,qa,vE,qx];refine se h1 (λx hx=>b1 x (pl.mem_iff.mp hx)) (pl.nodup_iff.mpr bd) (by rw[pl.length_eq];exact dG) λD1 bi aL bj bm=>?_;have n1:J≠D1:=xn h2 aL;refine se ((qb n1).trans h2) (λx hx=>b2 x (pc.mem_iff.mp hx)) (pc.nodup_iff.mpr be) (by rw[pc.length_eq];exact dG) λD2 bn ba bp bq=>?_;have br:D1≠D2:=xn q9 ba;have bb:=s2.none aL;have bc:=s2.none (jo ba);refine⟨_,λz o e=>?_,q D1 D2 bi bn bb bc br (bj.trans pl) bm (bp.trans pc) bq⟩;by_cases c1:z=D2
  ·subst c1;rw[q9] at e ⊢;exact e
  ·rw[qb c1] at e ⊢;by_cases c2:z=D1
   ·subst c2;rw[q9] at e ⊢;exact e
   ·rw[qb c2] at e ⊢;exact s2 _ _ e
 ·rw[List.concat_eq_append] at *;have T1:=T.step;have ne:iY++[A]≠[]:=by simp
  rw[Aq ne];refine ap rfl ⟨λU j=>∃m',m'<((iY++[A]).map l7).sum/\∃lk t st c4,U=[some (zh R),some (Y.ref g),some (Y.ref J),some (Y.ref I),c4]/\qj L j/\j g=some (.lst (qu lk))/\j J=some (.lst (qu t))/\j I=some (.lst (st.map zh))/\kM R lk t st/\m'=(st.map l7).sum,λU j h=>h,?_⟩;rw[AD] at h3;refine ach h3 ?_;refine⟨λU L3=>U=[some (zh R),some (Y.ref g),some (Y.ref J),some (Y.ref I),some (zh A)]/\qj L L3/\L3 g=some (.lst (qu (lk++pD A)))/\L3 J=some (.lst (qu t))/\L3 I=some (.lst (iY.map zh)),?_,?_⟩
  ·have C:qj L (qe L2 I (.lst (iY.map zh))):=s2.upd a4;have g1:qe L2 I (.lst (iY.map zh)) g=some (.lst (qu lk)):=(qb a3).trans h1;have g2:qe L2 I (.lst (iY.map zh)) J=some (.lst (qu t)):=(qb a2).trans h2;have g3:qe L2 I (.lst (iY.map zh)) I=some (.lst (iY.map zh)):=q9;generalize qe L2 I (.lst (iY.map zh))=L3 at C g1 g2 g3 ⊢;cases A with
   |link p0 q0=>
    refine qd g1 (qo g1 ⟨?_,?_⟩)
    ·have:=T.pl.length_eq;rw[Ac] at this;rw[Af];exact big _ (by lia)
    ·exact⟨rfl,C.upd ab,by rw[q9];exact BH (λl=>some (LO.lst l)) (io lk (p0,q0)),(qb (AH a1)).trans g2,(qb (AH a3)).trans g3⟩
   |ei r0 A0=>exact⟨rfl,C,by rw[g1];simp[pD],g2,g3⟩
   |bo r0 A0 B0=>exact⟨rfl,C,by rw[g1];simp[pD],g2,g3⟩
   |cu p0 q0 A0 B0=>exact⟨rfl,C,by rw[g1];simp[pD],g2,g3⟩
  ·rintro U L3 ⟨rfl,C,g1,g2,g3⟩;refine⟨λU L3=>U=[some (zh R),some (Y.ref g),some (Y.ref J),some (Y.ref I),some (zh A)]/\qj L L3/\L3 g=some (.lst (qu (lk++pD A)))/\L3 J=some (.lst (qu (t++rS A)))/\L3 I=some (.lst (iY.map zh)),?_,?_⟩
   ·cases A with
    |cu p0 q0 A0 B0=>
     refine qd g2 (qo g2 ⟨?_,?_⟩)
     ·have:=T.pc.length_eq;rw[Ac] at this;rw[Af];exact big _ (by lia)
     ·exact⟨rfl,C.upd ac,(qb a1).trans g1,by rw[q9];exact BH (λl=>some (LO.lst l)) (io t (p0,q0)),(qb (AH a2)).trans g3⟩
    |ei r0 A0=>exact⟨rfl,C,g1,by rw[g2];simp[rS],g3⟩
    |bo r0 A0 B0=>exact⟨rfl,C,g1,by rw[g2];simp[rS],g3⟩
    |link p0 q0=>exact⟨rfl,C,g1,by rw[g2];simp[rS],g3⟩
   ·rintro U L3 ⟨rfl,C,g1,g2,g3⟩;obtain⟨ys,e,bu⟩:∃ys,zh A=.tup ys/\ui ys (some 2) none=o5 A:=by cases A<;>exact⟨_,rfl,rfl⟩
    rw[e];have key:∀(zs:List Y) (keep:qm->Prop) (Q':YK),zs=o5 A->keep L3->(∀p,L3 p=none->Q' (.ref p) (qe L3 p (.lst ((ak A).map zh))))->yJ zs keep 1 (qg 5) (yB (aQ kD.tuple (qa 5))) (qa 5) [some (zh R),some (Y.ref g),some (Y.ref J),some (Y.ref I),some (.tup ys)] L3 Q':=by
     rintro zs keep Q' rfl hk hq;refine aft ahn ?_ hk (λi y W us ey hW=>?_) (by rw[yr];exact hq)
     ·cases A<;>exact big _ (by simp[o5])
     ·rcases acm (Az ey) with⟨n,rfl⟩|⟨B,rfl⟩
      ·rw[xX] at hW;refine⟨_,EC _,?_⟩;simpa using hW
      ·rw[yj] at hW;cases B<;>exact⟨_,EC _,hW⟩
    refine qd g3 ?_;walk_at "w";refine⟨by cases A<;>(cases e;first|exactλh=>absurd (show HT.sIx 3 0 (some 2)=0 from h.1) (by decide)|exactλh=>absurd (show HT.sIx 4 0 (some 2)=0 from h.1) (by decide)|exactλh=>absurd (show HT.sIx 5 0 (some 2)=0 from h.1) (by decide)),?_⟩;walk_at "w";refine key (ui ys (some 2) none) (λ_=>True) _ bu trivial λp hp=>?_;have bv:I≠p:=xn g3 hp;have bw:g≠p:=xn g1 hp;have cc:J≠p:=xn g2 hp;have cg:=T.sz;have ck:=uo A;have cm:=T1.sz;have lens:∀l:List Ru,l.length<=(l.map l7).sum:=λl=>by induction l with|nil=>exact Al _|cons B r ih=>have:=afs B;simp;lia
    have l1:=lens (iY++ak A);refine qo ((qb bv).trans g3) (qo q9 ⟨?_,?_⟩)
    ·rw[Af,Af];rw[Ac] at l1;exact BD (big _ (by lia))
    refine⟨_,EC _,((iY++ak A).map l7).sum,?_,lk++pD A,t++rS A,iY++ak A,_,rfl,(C.trans (By hp)).upd a4,(qb a3).trans ((qb bw).trans g1),(qb a2).trans ((qb cc).trans g2),?_,T1,rfl⟩
    ·simp;exact rE
    ·rw[q9,AD]
def qV(I:Addr)(J:jx):ww:=(qr (zr (kc qx) (qg 2))
 (qr (dP (xm (qa 1)) (aD 2 (zn (qg 3) (zn (qg 4) wf))) (xc (yB (kF I "unite" J (qa 0) (aB (qa 3) (qa 4)))) (jw (am j5 (qa 2) (qf (ko (qf (dS "join") (aB (qa 3) (qa 4)))) qx))) jm))
 (ji (qa 2))))
def xM(I:Addr)(J:jx)(p1:jx):ww:=(qr (zr (mC 1 (xm (zd J (qf (zj aR (qa 1) (qa 2)) qx))) (qg 4) xG (kF I "head_of" p1 (qa 0) (aI (qa 4)))) (qg 3))
 (ji (fz (zj (mj false) (x9 3 0) (x9 3 1)) (zj (mj true) (x9 3 0) (kF I "head_of" p1 (qa 0) (aI (qa 2)))))))
def sC(I:Addr)(J:jx)(p1:jx):ww:=(qr (zr (kc qx) (qg 3))
 (qr (zr (yUn anz (jk 1)) (qg 4))
 (qr (i5 (yB (zj yLt (qa 4) (bQ 3))) (qr (zr (bQ 3) (qg 4))
 (dP (xm (qa 2)) (qg 5) (xc (yB (zd J (qf (qa 0) (aB (qa 1) (qa 5))))) (qr (jw (kF I "unite" p1 (qa 0) (qf (qa 5) (qf (zj aR (zj aR (qa 1) (qa 5)) (jk 1)) qx))))
 (jw (am j5 (qa 3) (qf (rdT (dS "fold") (qa 5)) qx)))) jm))))
 (ji (qa 3)))))
def wL(I:Addr)(J:jx)(p1:jx)(p2:jx):ww:=(qr (zr (adj I J (aI (bQ 0))) (qg 3))
 (ji (zj kz (zd p1 (aB (qa 3) (qa 1))) (zd p2 (qf (qa 3) (aB (qa 0) (qa 2)))))))
def fc(I:jx)(p1:jx):ww:=(qr (zr (zj gr (cY du (qf (zd I (aI (qa 0))) qx)) (jk 1)) (qg 3))
 (ji (fz (zj (mj false) (zj kz (bQ 1) (bQ 2)) (qa 3)) (zj (mj false) (cY du (qf (zd p1 (qf (qa 0) (aB (qa 1) (qa 2)))) qx)) (qa 3)))))
def u4(I:jx)(p1:jx)(p2:jx):ww:=(ji (zd I (qf (x9 0 0) (qf (zd p2 (aI (qa 0))) (qf (zd p1 (aI (qa 0))) qx)))))
def o7(hs:List Nat)(a b:Nat):Prop:=∃r,wz hs a r/\wz hs b r
def Mon(hs hE:List Nat):Prop:=∀a b,o7 hs a b->o7 hE a b
def Mon.trans{a b c:List Nat}(h:Mon a b)(k:Mon b c):Mon a c:=λx y z=>k x y (h x y z)
def gy(h:∀x s,wz hs x s->wz hE x s):Mon hs hE:=λ_ _ ⟨r,p,q⟩=>⟨r,h _ _ p,h _ _ q⟩
def lw{a b:Nat}(h:∀i s,wz hs i s->wz hE i (if s=a then b else s)):Mon hs hE:=λ_ _ ⟨_,p,q⟩=>⟨_,h _ _ p,h _ _ q⟩
def adi{a b q:Nat}(h:∀i s,wz hs i s->wz hE i (if s=a then b else s))(ta:wz hs p a)(tb:wz hs q b):o7 hE p q:=by
 have J:=h _ _ ta;have I:=h _ _ tb;rw[Aw rfl] at J;refine⟨b,J,?_⟩;by_cases c:b=a
 ·rw[Aw c] at I;exact I
 ·rw[As c] at I;exact I
def m8{a b I J:Nat}(h:∀x s,wz hs x s->wz hE x s)(ta:wz hs a I)(tb:wz hs b J):o7 hE a b->o7 hs a b:=λ⟨r,p,q⟩=>by have U:=(h _ _ ta).uniq p;have g:=(h _ _ tb).uniq q;exact⟨r,U▸ta,g▸tb⟩
def ai9(ks:List (Option Kn))(hs es:List Nat):Prop:=∀p∈es,∀e i j,ks[p]?=some (some (.nd e i j))->o7 hs i j->o7 hs p i
structure Eqv(R:Nat->Nat->Prop):Prop where
 r:∀a,R a a
 s:∀{a b},R a b->R b a
 t:∀{a b c},R a b->R b c->R a c
def pG(R:Nat->Nat->Prop)(hs:List Nat):Prop:=∀a b,o7 hs a b->R a b
def wz.lt{r:Nat}(h:wz hs i r):i<hs.length:=by cases h with|root e=>exact ze e|step e _ _=>exact ze e
def pZ(I:fe rk hs)(U:hE.length=hs.length)(h:∀x s,wz hs x s->wz hE x s)(F:pG R hs):pG R hE:=λx y ⟨r,p,q⟩=>by obtain⟨g,J⟩:=I.rep' (i:=x) (by have:=p.lt;lia);obtain⟨j,ty⟩:=I.rep' (i:=y) (by have:=q.lt;lia);exact F x y (m8 h J ty ⟨r,p,q⟩)
def qL{a b q:Nat}(j:fe rk hs)(hl:hE.length=hs.length)(h:∀i s,wz hs i s->wz hE i (if s=a then b else s))(ta:wz hs p a)(tb:wz hs q b)(E:Eqv R)(I:R p q)(F:pG R hs):pG R hE:=λx y ⟨r,l,o⟩=>by
 obtain⟨U,J⟩:=j.rep' (i:=x) (by have:=l.lt;lia);obtain⟨g,ty⟩:=j.rep' (i:=y) (by have:=o.lt;lia);have e:=((h _ _ J).uniq l).trans ((h _ _ ty).uniq o).symm;have C:U=a->R x p:=λz=>F x p ⟨a,z▸J,ta⟩;have T:g=a->R y p:=λz=>F y p ⟨a,z▸ty,ta⟩;by_cases c:U=a
 ·by_cases d:g=a
  ·exact E.t (C c) (E.s (T d))
  ·rw[Aw c,As d] at e;exact E.t (E.t (C c) I) (F q y ⟨b,tb,e▸ty⟩)
 ·by_cases d:g=a
  ·rw[As c,Aw d] at e;exact E.t (F x q ⟨b,e▸J,tb⟩) (E.s (E.t (T d) I))
  ·rw[As c,As d] at e;exact F x y ⟨U,J,e▸ty⟩
def lg(E:Eqv R)(n:Nat):pG R (List.range n):=λx y ⟨r,p,q⟩=>by have h:∀{i r:Nat},wz (List.range n) i r->r=i:=λ{i r} t=>t.of_top (BZ (by have:=t.lt;rwa[A5] at this));have I:=h p;have J:=h q;subst I;rw[J];exact E.r _
def JnR(hs hE:List Nat)(ps:List (Nat×Nat)):Prop:=Mon hs hE/\(∀x∈ps,o7 hE x.1 x.2)/\∀R,Eqv R->(∀x∈ps,R x.1 x.2)->pG R hs->pG R hE
def FoC(ks:List (Option Kn))(es:List Nat)(R:Nat->Nat->Prop):Prop:=∀p∈es,∀e i j,ks[p]?=some (some (.nd e i j))->R i j->R p i
def FoR(ks:List (Option Kn))(hs hE es:List Nat):Prop:=Mon hs hE/\∀R,Eqv R->FoC ks es R->pG R hs->pG R hE
def JnR.snoc{ps:List (Nat×Nat)}{a b q:Nat}(j:JnR hs hE ps)(J:fe rk hE)(U:mn.length=hE.length)(h:∀i s,wz hE i s->wz mn i (if s=a then b else s))(ta:wz hE p a)(tb:wz hE q b):JnR hs mn (ps++[(p,q)]):=by
 refine⟨j.1.trans (lw h),λx I=>?_,λR E c F=>qL J U h ta tb E (c (p,q) (Ag _ (Ap.mpr rfl))) (j.2.2 R E (λx I=>c x (Au _ I)) F)⟩;rcases Ak.mp I with I|I
 ·exact lw h _ _ (j.2.1 x I)
 ·rw[Ap.mp I];exact adi h ta tb
def Gd(hs hE:List Nat):Prop:=hE.length=hs.length/\∃rk,fe rk hE
def aq8:(100000:Nat)<=sizeLine:=by decide
def lh(C:Addr):jx:=λys L Q=>∃o hp a,∃hs:List Nat,∃ks:List (Option Kn),∃p i j:Nat,∃e:Bool,∃pi:Int,ys=[.ref o,.ref a,.int pi]/\pi=(p:Int)/\L o=some (.ins C (mJ hp))/\L hp=some (.lst (nY hs))/\L a=some (.lst (w6 ks))/\a≠hp/\(∃rk,fe rk hs)/\
 ks[p]?=some (some (.nd e i j))/\p<hs.length/\i<hs.length/\j<hs.length/\
 ∀I J U hE,wz hs i I->wz hs j J->wz hs p U->Gd hs hE->(∀x s,wz hs x s->wz hE x s)->dm hE=dm hs->Q (.bl (decide (I=J)&&!decide (I=U))) (qe L hp (.lst (nY hE)))
def aA(a b:Nat):decide ((a:Int)=(b:Int))=decide (a=b):=by
 by_cases c:a=b
 ·rw[Ao c];exact Ao (by lia)
 ·rw[Aq c];exact Aq (by lia)
def acl :∀ys L Q,lh C ys L Q->xr (xM C iL (ld C)) 4 ys L Q:=by
 rintro ys L Q ⟨o,J,a,hs,ks,p,i,j,e,pi,rfl,rfl,ho,a0,ha,bf,⟨rk,hr⟩,ek,bb,a4,a5,q⟩;have a1:eG (w6 ks) (p:Int)=some (gb (some (.nd e i j))):=vj (by rw[An,ek];rfl);obtain⟨g,ti⟩:=hr.rep' a4;obtain⟨l,tj⟩:=hr.rep' a5;obtain⟨rp,tp⟩:=hr.rep' bb;refine qd ha (ql a1 ⟨some (.nd e i j),rfl,λT t=>?_⟩);have bc:o≠J:=aex ho a0 (λe=>by cases e);have bd:o≠T:=xn ho t;have ab:J≠T:=xn a0 t;have fo:∀A Z,(qe (qe L T Z) J A) o=some (.ins C (mJ J)):=λA Z=>(qb bc).trans ((qb bd).trans ho);refine x4 q9 λkeep kp=>xF ⟨by show 2<sizeLine;decide,λk zs L'=>∃I,L'=qe (qe L T (.lst (nY [i,j]))) J (.lst (nY I))/\I.length=hs.length/\fe rk I/\(∀x s,wz hs x s->wz I x s)/\dm I=dm hs/\zs=nY ([g,l].take k),⟨hs,?_,rfl,hr,λ_ _ h=>h,rfl,rfl⟩,?_,?_,?_⟩
 ·exact(cW ((qb ab).trans a0)).symm
 ·rintro k zs L' ⟨I,rfl,_⟩;exact kp _ (by rw[qb (AH ab)];rfl)
 ·rintro k y zs L' hy ⟨I,rfl,l1,k1,t1,n1,rfl⟩;obtain⟨n,en,rfl⟩:=dZ hy;have hn:n<hs.length/\∃rn,wz hs n rn/\nY ([g,l].take k)++[.int (rn:Int)]=nY ([g,l].take (k+1)):=by
   match k,en with
   |0,en=>cases en;exact⟨a4,g,ti,rfl⟩
   |1,en=>cases en;exact⟨a5,l,tj,rfl⟩
  obtain⟨hn,rn,tn,be⟩:=hn;refine wx (fo _ _) ⟨rfl,fN,o,J,I,n,_,rk,rfl,rfl,fo _ _,q9,k1,by lia,λr U l2 k2 t2 a2 n2=>?_⟩;cases t2.uniq (t1 _ _ tn);exact⟨_,EC _,U,jz,by lia,k2,λx s z=>a2 x s (t1 x s z),by lia,be⟩
 ·rintro zs L' ⟨I,rfl,l1,k1,t1,n1,rfl⟩ p3 a3;have ac:L p3=none:=dB (By t) (jo a3);have aL:J≠p3:=xn q9 a3;have f0:eG (nY ([g,l].take (nY (ao (some (Kn.nd e i j)))).length)) 0=some (.int (g:Int)):=rfl;have f1:eG (nY ([g,l].take (nY (ao (some (Kn.nd e i j)))).length)) 1=some (.int (l:Int)):=rfl;refine qd q9 (ql f0 (qd q9 (ql f1 ?_)));have ba:∀Z,(qe (qe (qe L T (.lst (nY [i,j]))) J (.lst (nY I))) p3 Z) o=some (.ins C (mJ J)):=λZ=>(qb (xn (fo _ _) a3)).trans (fo _ _);have sub:∀(U:List Nat) Z,qj (qe L J (.lst (nY U))) (qe (qe (qe (qe L T (.lst (nY [i,j]))) J (.lst (nY I))) p3 Z) J (.lst (nY U))):=λU Z b u e=>by
   by_cases c:b=J
   ·subst c;rw[q9] at e ⊢;exact e
   ·rw[qb c] at e;rw[qb c,qb (xn e ac),qb c,qb (xn e t)];exact e
  show xt (decide ((g:Int)=(l:Int))) _ _;rw[aA];refine zo (λc=>?_) (λc=>?_)
  ·refine qd q9 (ql f0 ?_);refine wx (ba _) ⟨rfl,fN,o,J,I,p,_,rk,rfl,rfl,ba _,(qb aL).trans q9,k1,by lia,λr U l2 k2 t2 a2 n2=>?_⟩;cases t2.uniq (t1 _ _ tp);show gc Q (.bl (!decide ((g:Int)=(rp:Int)))) _;rw[aA];have:=q g l rp U ti tj tp ⟨by lia,rk,k2⟩ (λx s z=>a2 x s (t1 x s z)) (by lia);rw[Ao c,DQ] at this;exact bW (sub U _) this
  ·have:=q g l rp I ti tj tp ⟨by lia,rk,k1⟩ t1 n1;rw[Aq c,Bool.false_and] at this;refine bW (L:=qe L J (.lst (nY I))) (λb u eb=>?_) this;have z:=sub I (.lst (nY ([g,l].take (nY (ao (some (Kn.nd e i j)))).length))) b u;have e2:qe (qe (qe (qe L T (.lst (nY [i,j]))) J (.lst (nY I))) p3 (.lst (nY ([g,l].take (nY (ao (some (Kn.nd e i j)))).length)))) J (.lst (nY I))=qe (qe (qe L T (.lst (nY [i,j]))) J (.lst (nY I))) p3 (.lst (nY ([g,l].take (nY (ao (some (Kn.nd e i j)))).length))):=cW ((qb aL).trans q9);rw[e2] at z;exact z eb
def ao4(ks:List (Option Kn))(n p:Nat):Prop:=∃e i j,ks[p]?=some (some (.nd e i j))/\p<n/\i<n/\j<n
def ac0(hs:List Nat):dm hs<=hs.length:=by unfold dm;exact AK (List.countP_le_length) (by rw[A5];simp +arith only)
def mk1(m:Nat->Nat)(e:Nat×Nat):Nat->Nat:=λx=>if m x=m e.1 then m e.2 else m x
def kB(es:List (Nat×Nat))(m:Nat->Nat):Nat->Nat:=es.foldl mk1 m
open Classical in
def adw(n:Nat):fe (λ_=>0) (List.range n):=λi h e=>by
 have I:i<n:=by have:=ze e;rwa[A5] at this
 rw[BZ I] at e;cases e;exact⟨by rw[A5];exact I,λz=>absurd rfl z⟩
def abe(n:Nat):dm (List.range n)=n:=by unfold dm;rw[A5];refine Eq.trans (List.countP_eq_length.mpr λi I=>?_) A5;exact Ao (BZ (AS.mp I))
def pO :(v4 ks lk ct).length<=lk.length+ct.length+2*ks.length:=by unfold v4;rw[Ac,Ac];have I:=fW ks (xh false ks);have J:(xh false ks).length<=ks.length:=fV (ag false) ks ks.length;lia
def mH(ks:List Kn):Nat->Nat->Nat
 |0,_=>1
 |n+1,p=>match ks[p]? with
  |some (.nd _ i j)=>1+mH ks n i+mH ks n j
  |_=>1
def bR(ks:List Kn)(p:Nat):Nat:=mH ks (p+1) p
theorem ah9(ks:List Kn):∀n p,1<=mH ks n p
 |0,_=>Al _
 |n+1,p=>by
  unfold mH;split
  ·simp +arith only
  ·exact Al _
theorem iF{ks:List Kn}(ok:aq ks):∀(n m p:Nat),p<n->p<m->mH ks n p=mH ks m p
 |0,_,_,h,_=>absurd h (BY _)
 |_+1,0,_,_,h=>absurd h (BY _)
 |n+1,m+1,p,I,J=>by
  show(match ks[p]? with|some (.nd _ i j)=>1+mH ks n i+mH ks n j|_=>1)=match ks[p]? with|some (.nd _ i j)=>1+mH ks m i+mH ks m j|_=>1
  cases e:ks[p]? with
  |none=>rfl
  |some k=>
   cases k with
   |lf t n=>rfl
   |nd b i j=>
    have:=ok p _ e;have:i<p/\j<p:=this;show 1+mH ks n i+mH ks n j=1+mH ks m i+mH ks m j;rw[iF ok n m i (by lia) (by lia),iF ok n m j (by lia) (by lia)]
def ah2(ks:List Kn)(p:Nat):1<=bR ks p:=ah9 ks _ _
def vS{ks:List Kn}{n:Str}(e:ks[p]?=some (.lf t n)):bR ks p=1:=by show(match ks[p]? with|some (.nd _ i j)=>1+mH ks p i+mH ks p j|_=>1)=1;rw[e]
def vO{ks:List Kn}(ok:aq ks){b:Bool}(e:ks[p]?=some (.nd b i j)):bR ks p=1+bR ks i+bR ks j:=by have h:i<p/\j<p:=ok p _ e;show(match ks[p]? with|some (.nd _ i j)=>1+mH ks p i+mH ks p j|_=>1)=_;rw[e];show 1+mH ks p i+mH ks p j=1+mH ks (i+1) i+mH ks (j+1) j;rw[iF ok p (i+1) i (by omega) (by exact Bg _),iF ok p (j+1) j (by omega) (by exact Bg _)]
def wo(f:Nat->Nat)(l:List Nat):Nat:=(l.map f).sum
def wy(f:Nat->Nat)(x:Nat)(l:List Nat):wo f (x::l)=f x+wo f l:=by unfold wo;rw[AG,Ds]
def wu(f:Nat->Nat)(l m:List Nat):wo f (l++m)=wo f l+wo f m:=by unfold wo;rw[AD,List.sum_append]
def aP{f:Nat->Nat}{l:List Nat}{x:Nat}(h:x∈l):wo f l=f x+wo f (l.erase x):=by have:=((List.perm_cons_erase h).map f).sum_nat;unfold wo;rw[this,AG,Ds]
theorem fB{f:Nat->Nat}:∀{E U:List Nat},E.Nodup->(∀x∈E,x∈U)->wo f E<=wo f U
 |[],_,_,_=>Bo _
 |x::E,U,nd,h=>by obtain⟨J,g⟩:=AA.mp nd;rw[wy,aP (h x (Av ..))];have:=fB (f:=f) (E:=E) (U:=U.erase x) g λy I=>(BG (λ(z:y=x)=>J (z▸I))).mpr (h y (Ah _ I));lia
def cK(f:Nat->Nat)(l:List (Nat×Nat)):Nat:=(l.map λc=>f c.1+f c.2).sum
def kZ(f:Nat->Nat)(l m:List (Nat×Nat)):cK f (l++m)=cK f l+cK f m:=by unfold cK;rw[AD,List.sum_append]
def SR.weight{ks:List Kn}(ok:aq ks){R:Ru}{E:List Nat}(h:SR ks R E):wo (bR ks) E+cK (bR ks) (jh R)<=(j6 R).length:=by
 induction h with
 |@link p q t n E C h2 g I l=>
  have:=fB (f:=bR ks) (U:=[p,q]) l λx J=>by rcases (I x).mp J with rfl|rfl<;>simp
  have e:wo (bR ks) [p,q]=2:=by unfold wo;simp[vS h2,vS g]
  show wo (bR ks) E+0<=2;lia
 |@ei r i j A o E C h2 g I l h6 T ih=>
  have hj:j∈o.erase i:=(BG (AH l)).mpr I;have s1:=fB (f:=bR ks) (U:=(o.erase i).erase j++[r]) T λx J=>by
   rcases (h6 x).mp J with⟨a,b,c⟩|rfl
   ·exact Au _ ((BG c).mpr ((BG b).mpr a))
   ·simp
  have s2:=aP (f:=bR ks) g;have s3:=aP (f:=bR ks) hj;have s4:=vO ok C;rw[wu,wy] at s1;have e0:wo (bR ks) []=0:=rfl;show _+cK _ (jh A)<=(r::j6 A).length;rw[AF];lia
 |@bo r i j A B o EB E C h2 g I l h6 T a0 a1=>
  have s1:=fB (f:=bR ks) (U:=o.erase i++(EB.erase j++[r])) T λx J=>by
   rcases (h6 x).mp J with⟨a,b⟩|⟨a,b⟩|rfl
   ·exact Au _ ((BG b).mpr a)
   ·exact Ag _ (Au _ ((BG b).mpr a))
   ·simp
  have s2:=aP (f:=bR ks) I;have s3:=aP (f:=bR ks) l;have s4:=vO ok C;rw[wu,wu,wy] at s1;have e0:wo (bR ks) []=0:=rfl;show _+cK _ (jh A++jh B)<=(r::(j6 A++j6 B)).length;rw[AF,Ac,kZ];lia
 |@cu p q A B o EB E w C h2 g I l h6 T h8 a0 a1=>
  have s1:=fB (f:=bR ks) (U:=o.erase p++EB.erase q) h8 λx J=>by
   rcases (T x).mp J with⟨a,b⟩|⟨a,b⟩
   ·exact Au _ ((BG b).mpr a)
   ·exact Ag _ ((BG b).mpr a)
  have s2:=aP (f:=bR ks) g;have s3:=aP (f:=bR ks) I;rw[wu] at s1;have e1:cK (bR ks) (jh (.cu p q A B))=bR ks p+bR ks q+(cK (bR ks) (jh A)+cK (bR ks) (jh B)):=by show cK _ ((p,q)::(jh A++jh B))=_;rw[<-kZ];unfold cK;rw[AG,Ds]
  show _<=(j6 A++j6 B).length;rw[Ac,e1];lia
def x6(lk:List (Nat×Nat)):List Nat:=lk.flatMap λx=>[x.1,x.2]
def kj(a b:List (Nat×Nat)):x6 (a++b)=x6 a++x6 b:=by unfold x6;rw[AO]
def bK(x:Nat×Nat):x6 [x]=[x.1,x.2]:=by simp[x6]
def vt(lk:List (Nat×Nat)):(x6 lk).length=2*lk.length:=by
 induction lk with
 |nil=>rfl
 |cons x r I=>
  have:=kj [x] r;rw[Cb] at this;rw[this,Ac,I,bK,AF];simp;exact Ee _ _
def amt{f:Option Kn->Bool}{k:Option Kn}(h:ks[p]?=some k)(I:f k=true)(hi:p<i):p∈jJ f ks i:=by unfold jJ;refine BI.mpr ⟨AS.mpr hi,?_⟩;simp only[h];exact I
def rc(m:Nat)(l:List Nat):vF (gi (.int (m:Int))) ((nY l).map gi)=decide (m∈l):=by
 induction l with
 |nil=>rfl
 |cons n r I=>
  have e:vF (gi (.int (m:Int))) ((nY (n::r)).map gi)=(lK (gi (.int (n:Int))) (gi (.int (m:Int)))||vF (gi (.int (m:Int))) ((nY r).map gi)):=rfl;rw[e,I];have J:lK (gi (.int (n:Int))) (gi (.int (m:Int)))=decide (n=m):=aA n m;rw[J];by_cases c:n=m
  ·subst c;simp
  ·by_cases d:m∈r
   ·simp[d]
   ·simp[c,d,AH c]
def yR(l:List Nat):(nY l).all gF=true:=by rw[CO];intro y I;obtain⟨n,_,rfl⟩:=BE.mp I;rfl
def me:ww:=(qr (zr (kc qx) (qg 2))
 (qr (dP (xm (qa 1)) (aD 2 (zn (qg 3) (zn (qg 4) wf))) (jw (am bZ (qa 2) (qf (kc (aB (qa 3) (qa 4))) qx))))
 (qr (zr (kc qx) (qg 5))
 (qr (i5 (qR (qa 2) (kc qx)) (qr (zr (am aay (qa 2) qx) (qg 3))
 (qr (jw (am j5 (qa 5) (aI (qa 3))))
 (xc (cU (cY du (qf (zj aR (qa 0) (qa 3)) qx)) (jk 3)) (jw (am bZ (qa 2) (qf (kc (qf (zj aR (zj aR (qa 0) (qa 3)) (jk 1)) (qf (zj aR (zj aR (qa 0) (qa 3)) (jk 2)) qx))) qx))) jm))))
 (ji (qa 5))))))
structure mV(ks:List Kn)(ct:List (Nat×Nat))(qs st:List Nat):Prop where
 cut:∀c∈ct,(c.1∈qs\/c.1∈st)/\(c.2∈qs\/c.2∈st)
 part:∀p∈qs,∀e i j,ks[p]?=some (.nd e i j)->(i∈qs\/i∈st)/\(j∈qs\/j∈st)
 lt:∀p∈st,p<ks.length
 sz:qs.length+wo (bR ks) st<=1000
theorem iJ(ks:List Kn):∀l:List Nat,l.length<=wo (bR ks) l
 |[]=>Al _
 |x::r=>by have:=iJ ks r;have:=ah2 ks x;rw[wy,AF];lia
theorem bC(f:Nat->Nat):∀l:List (Nat×Nat),wo f (x6 l)=cK f l
 |[]=>rfl
 |c::r=>by
  have e:x6 (c::r)=[c.1,c.2]++x6 r:=by rw[<-bK,<-kj];rfl
  rw[e,wu,bC f r,wy,wy];show f c.1+(f c.2+wo f [])+cK f r=_;have I:wo f []=0:=rfl;unfold cK;rw[I,AG,Ds];rfl
def eQ{c:Nat×Nat}(h:c∈ct):c.1∈x6 ct/\c.2∈x6 ct:=by
 induction ct with
 |nil=>cases h
 |cons d r I=>
  have e:x6 (d::r)=[d.1,d.2]++x6 r:=by rw[<-bK,<-kj];rfl
  rw[e];rcases Ax.mp h with rfl|h
  ·simp
  ·obtain⟨a,b⟩:=I h;exact⟨Ag _ a,Ag _ b⟩
def uL{x:Nat}(h:x∈x6 ct):∃c∈ct,x=c.1\/x=c.2:=by
 induction ct with
 |nil=>cases h
 |cons d r I=>
  have e:x6 (d::r)=[d.1,d.2]++x6 r:=by rw[<-bK,<-kj];rfl
  rw[e] at h;rcases Ak.mp h with h|h
  ·exact⟨d,Av ..,by simpa using h⟩
  ·obtain⟨c,J,U⟩:=I h;exact⟨c,Ah _ J,U⟩
def lH(ks:List Kn)(p:Nat):List Nat:=match ks[p]? with
 |some (.nd _ i j)=>[i,j]
 |_=>[]
def mV.step{ks:List Kn}(ok:aq ks){st:List Nat}(h:mV ks ct qs (st++[p])):mV ks ct (qs++[p]) (st++lH ks p)/\wo (bR ks) (st++lH ks p)<wo (bR ks) (st++[p]):=by
 have J:∀x,(x∈qs\/x∈st++[p])->(x∈qs++[p]\/x∈st++lH ks p):=λx I=>by
  rcases I with I|I
  ·exact .inl (Au _ I)
  ·rcases Ak.mp I with I|I
   ·exact .inr (Au _ I)
   ·exact .inl (Ag _ I)
 have o:=h.sz;have r:wo (bR ks) (st++[p])=wo (bR ks) st+bR ks p:=by rw[wu,wy];rfl
 have C:wo (bR ks) (st++lH ks p)+1=wo (bR ks) st+bR ks p:=by
  rw[wu];unfold lH;cases e:ks[p]? with
  |none=>
   have:=h.lt p (Ag _ (Ap.mpr rfl));rw[Aj this] at e;cases e
  |some k=>
   cases k with
   |lf t n=>
    have:=vS e;show wo _ st+0+1=_;lia
   |nd b i j=>
    have:=vO ok e;show wo (bR ks) st+wo (bR ks) [i,j]+1=_;rw[wy,wy];have T:wo (bR ks) []=0:=rfl;lia
 refine⟨⟨λc g=>⟨J _ (h.cut c g).1,J _ (h.cut c g).2⟩,λx I e i j U=>?_,λx I=>?_,?_⟩,by lia⟩
 ·rcases Ak.mp I with I|I
  ·exact⟨J _ (h.part x I e i j U).1,J _ (h.part x I e i j U).2⟩
  ·have I:=Ap.mp I;subst I;have:lH ks x=[i,j]:=by unfold lH;rw[U]
   rw[this];simp
 ·rcases Ak.mp I with I|I
  ·exact h.lt x (Au _ I)
  ·unfold lH at I;split at I
   ·rename_i b i j e;have:=ze e;have l:i<p/\j<p:=ok p _ e;have:x=i\/x=j:=by simpa using I
    lia
   ·cases I
 ·rw[Ac,Bh];lia
def gN:jx:=λys L Q=>∃a c,∃ks:List Kn,∃ct:List (Nat×Nat),ys=[.ref a,.ref c]/\L a=some (.lst (jf ks))/\L c=some (.lst (qu ct))/\aq ks/\(∀x∈ct,x.1<ks.length/\x.2<ks.length)/\cK (bR ks) ct<=1000/\ks.length<=1000/\
 ∀D qs,L D=none->mV ks ct qs []->Q (.ref D) (qe L D (.lst (nY qs)))
def ac4(l:List Nat):Da.eqs (gK l) []=decide (l=[]):=by cases l<;>rfl
theorem wK:∀ys L Q,gN ys L Q->xr me 6 ys L Q:=by
 rintro ys L Q ⟨a,c,l,r,rfl,ha,hc,ok,hb,hz,hn,q⟩;have big:=bg_;have lp:(x6 r).length<=1000:=AK (iJ l _) (by rw[bC];exact hz);intro I C;have s0:qj L (qe L I (.lst [])):=By C;refine x4 (s0 _ _ hc) λkeep kp=>wm ⟨λi τ g=>∃c3 c4 c5,τ=[some (Y.ref a),some (Y.ref c),some (Y.ref I),c3,c4,c5]/\qj L g/\g I=some (.lst (nY (x6 (r.take i)))),⟨_,_,_,rfl,s0,q9⟩,?_,?_,?_⟩
 ·rintro i τ g ⟨c3,c4,c5,rfl,s,h⟩;exact kp g (by rw[s _ _ hc,s0 _ _ hc])
 ·rintro i y τ g hy ⟨c3,c4,c5,rfl,s,h⟩;rw[An] at hy;obtain⟨pr,ep,rfl⟩:=Ay.mp hy;have et:r.take (i+1)=r.take i++[pr]:=by rw[Bf,ep];rfl
  refine qd h ?_;intro p hp;have a5:I≠p:=xn h hp;have ll:(x6 (r.take i)).length<=(x6 r).length:=by rw[vt,vt,AX];lia
  refine qo ((qb a5).trans h) (qo q9 ⟨?_,?_⟩)
  ·rw[wb];exact BD (big _ (by simp;lia))
  ·refine⟨_,EC _,_,_,_,rfl,(s.trans (By hp)).upd C,?_⟩;rw[q9,et,kj,bK,eX];rfl
 ·rintro τ g ⟨c3,c4,c5,rfl,s,h⟩;rw[Af,Bc] at h;intro J a2;have T:I≠J:=xn h a2;have a1:L J=none:=s.none a2;have B0:mV l r [] (x6 r):=⟨λx hx=>⟨.inr (eQ hx).1,.inr (eQ hx).2⟩,λx hx=>(A9 hx).elim,λx hx=>by obtain⟨d,hd,e⟩:=uL hx;have:=hb d hd;lia,by rw[bC];show 0+_<=1000;lia⟩
  refine⟨λm τ g=>∃U st c3 c4,τ=[some (Y.ref a),some (Y.ref c),some (Y.ref I),c3,c4,some (Y.ref J)]/\qj L g/\g I=some (.lst (nY st))/\g J=some (.lst (nY U))/\mV l r U st/\m=wo (bR l) st,⟨_,[],x6 r,_,_,rfl,s.trans (By a2),(qb T).trans h,q9,B0,rfl⟩,?_⟩;rintro m τ L1 ⟨U,st,c3,c4,rfl,s1,h1,h2,B,rfl⟩;intro p hp;refine aj (n:=0) (m:=0) (by decide) (By hp _ _ h1) q9 (l6 st) (.nil:Paired (ju _ 0) _ []) ?_;have ab:I≠p:=xn h1 hp;have ac:J≠p:=xn h2 hp;have s2:qj L (qe L1 p (.lst [])):=s1.trans (By hp);replace h1:=(qb (o:=.lst []) ab).trans h1;replace h2:=(qb (o:=.lst []) ac).trans h2;generalize qe L1 p (.lst [])=L2 at s2 h1 h2 ⊢;show xt (!(Da.eqs (gK st) [])) _ _;rw[ac4];rcases List.eq_nil_or_concat st with rfl|⟨iY,x,rfl⟩
  ·refine aF rfl ?_;refine⟨qe L J (.lst (nY U)),λb o e=>?_,q J U a1 B⟩;by_cases cc:b=J
   ·subst cc;rw[q9] at e;rw[<-e];exact h2
   ·rw[qb cc] at e;exact s2 _ _ e
  ·rw[List.concat_eq_append] at *;obtain⟨B1,a0⟩:=B.step ok;have ne:iY++[x]≠[]:=by simp
   rw[Aq ne];refine ap rfl ⟨λa4 g=>∃m',m'<wo (bR l) (iY++[x])/\∃U st c3 c4,a4=[some (Y.ref a),some (Y.ref c),some (Y.ref I),c3,c4,some (Y.ref J)]/\qj L g/\g I=some (.lst (nY st))/\g J=some (.lst (nY U))/\mV l r U st/\m'=wo (bR l) st,λa4 g h=>h,?_⟩;rw[eX] at h1;refine ach h1 ?_;have g1:qe L2 I (.lst (nY iY)) I=some (.lst (nY iY)):=q9;have g2:qe L2 I (.lst (nY iY)) J=some (.lst (nY U)):=(qb (AH T)).trans h2;have s3:qj L (qe L2 I (.lst (nY iY))):=s2.upd C;generalize qe L2 I (.lst (nY iY))=L3 at g1 g2 s3 ⊢;have aL:=B.sz;refine qd g2 (qo g2 ⟨by rw[wb];exact big _ (by lia),?_⟩);have k1:qe L3 J (.lst (nY U++[.int ((x:Nat):Int)])) I=some (.lst (nY iY)):=(qb T).trans g1;have k2:qe L3 J (.lst (nY U++[.int ((x:Nat):Int)])) J=some (.lst (nY (U++[x]))):=by rw[q9,eX];rfl
   have s4:qj L (qe L3 J (.lst (nY U++[.int ((x:Nat):Int)]))):=s3.upd a1;generalize qe L3 J (.lst (nY U++[.int ((x:Nat):Int)]))=L4 at k1 k2 s4 ⊢;have hx:=B.lt x (Ag _ (Ap.mpr rfl));obtain⟨k,ek⟩:∃k,l[x]?=some k:=⟨_,Aj hx⟩;have ga:=s4 _ _ ha;refine qd ga (ql (wn ek) ?_);cases k with
   |lf t n=>
    have e0:lH l x=[]:=by unfold lH;rw[ek]
    rw[e0,AQ] at B1 a0;exact⟨_,EC _,_,a0,U++[x],iY,_,_,rfl,s4,k1,k2,B1,rfl⟩
   |nd b i j=>
    have e0:lH l x=[i,j]:=by unfold lH;rw[ek]
    rw[e0] at B1 a0;refine qd k1 ?_;refine qd ga (ql (wn ek) ?_);refine qd ga (ql (wn ek) ?_);intro p2 a3;have n1:I≠p2:=xn k1 a3;have n2:J≠p2:=xn k2 a3;have l1:=iJ l (iY++[i,j]);have z1:=B1.sz;refine qo ((qb n1).trans k1) (qo q9 ⟨?_,?_⟩)
    ·rw[wb];rw[Ac] at l1;exact BD (big _ (by simp at l1 ⊢;lia))
    ·refine⟨_,EC _,_,a0,U++[x],iY++[i,j],_,_,rfl,(s4.trans (By a3)).upd C,?_,(qb (AH T)).trans ((qb n2).trans k2),B1,rfl⟩;rw[q9,eX];rfl
def gh(p th:Nat->Bool)(l:List Nat):l.countP p=l.countP (λx=>p x&&th x)+l.countP (λx=>p x&&!th x):=by
 induction l with
 |nil=>rfl
 |cons x r I=>
  rw[CQ,CQ,CQ,I];cases th x<;>cases p x<;>simp<;>lia
def abh{th:Nat->Bool}(C:hs.length=n)(J:fe rk hs)(sep:∀a b,o7 hs a b->a=b\/(th a=true/\th b=true))
 (all:∀a b,a<n->b<n->th a=true->th b=true->o7 hs a b) {z:Nat} (hz:z<n) (T:th z=true):dm hs=(List.range n).countP (λx=>!th x)+1:=by
 unfold dm;rw[C,gh _ th,Ee];congr 1
 ·refine CH λx U=>?_;have U:=AS.mp U;rw[AR,BL];refine⟨λh=>h.2,λh=>⟨?_,h⟩⟩;obtain⟨r,t⟩:=J.rep' (i:=x) (by lia);rcases sep x r ⟨r,t,.root t.top⟩ with e|⟨e,_⟩
  ·rw[e];exact t.top
  ·rw[e] at h;cases h
 ·obtain⟨r,t⟩:=J.rep' (i:=z) (by lia);have I:=t.top;have rl:=ze I;have g:th r=true:=(sep z r ⟨r,t,.root I⟩).elim (λe=>e▸T) λh=>h.2;have e:=dQ (p:=λi=>decide (hs[i]?=some i)&&th i) (a:=r) (by rw[Ao I,g];rfl) (l:=List.range n) BS (AS.mpr (by lia));rw[<-e];have zero:(List.range n).countP (λj=>(decide (hs[j]?=some j)&&th j)&&!decide (j=r))=0:=List.countP_eq_zero.mpr λj hj h=>by rw[AR,AR,BL] at h;obtain⟨⟨j1,j2⟩,o⟩:=h;obtain⟨s,p,q⟩:=all j r (AS.mp hj) (by lia) j2 g;have:j=r:=(p.of_top j1).symm.trans (q.of_top I);rw[Ao this] at o;cases o
  rw[zero]
def oz(I:jx)(p1:jx):ww:=(qr (zr (zd I (aB (qa 0) (qa 1))) (qg 4))
 (qr (zr (kc qx) (qg 5))
 (qr (dP (xm (qa 0)) (qg 6) (xc (cU (bQ 6) (jk 3)) (jw (am bZ (qa 5) (qf (kc (aB (x9 6 1) (x9 6 2))) qx))) jm))
 (qr (yP 6 (zr (cY du (qf (mC 1 (xm (qa 0)) (qg 11) (cU (x9 11 0) (dS "either")) (qa 11)) qx)) (qg 7)))
 (qr (zr (kc qx) (qg 8))
 (qr (dP (gQ (qa 0)) (aD 2 (zn (qg 9) (zn (qg 6) wf))) (qr (zr (zj aG (zd p1 (qf (qa 2) (aB (qa 9) (jk 30269)))) (jk 8)) (qg 10))
 (xc (u5 (cU (bQ 6) (jk 2)) (yB (zj (pF false) (qa 9) (qa 4)))) (jw (am j5 (qa 8) (aI (qa 6)))) (xc (cU (zj aG (zj bO (qa 2) (jk 3)) (jk 2)) (jk 1)) (jw (am j5 (qa 8) (qf (yIf (bV (cU (zj aG (qa 10) (jk 2)) (jk 0)) (yB (zj (pF true) (qa 9) (qa 5)))) (yC .non) (qa 6)) qx))) (xc (bV (yB (zj yLt (qa 10) (jk 3))) (cU (x9 6 0) (dS "either"))) (qr (jw (am j5 (qa 8) (qf (ko (qf (dS "both") (aB (x9 6 1) (x9 6 2)))) qx)))
 (zr (zj gr (qa 7) (jk 1)) (qg 7))) (xc (bV (yB (zj yLt (qa 10) (jk 3))) (yB (zj yLt (qa 7) (qa 3)))) (qr (jw (am j5 (qa 8) (qf (ko (qf (dS "either") (aB (x9 6 1) (x9 6 2)))) qx)))
 (zr (zj kz (qa 7) (jk 1)) (qg 7))) (jw (am j5 (qa 8) (aI (qa 6))))))))))
 (ji (qa 8))))))))
def prK:Kn->List Nat
 |.nd _ i j=>[i,j]
 |.lf _ _=>[]
def al(ks:List Kn):List Nat:=ks.flatMap prK
def aff{ks:List Kn}{r:Nat}{e:Bool}(h:ks[r]?=some (.nd e i j)):i∈al ks/\j∈al ks:=
 ⟨Bd.mpr ⟨_,Az h,by simp[prK]⟩,Bd.mpr ⟨_,Az h,by simp[prK]⟩⟩
def afk(ks:List Kn):(al ks).length<=2*ks.length:=by
 induction ks with
 |nil=>exact Al _
 |cons k r I=>
  have e:al (k::r)=prK k++al r:=A1 ..;have:(prK k).length<=2:=by cases k<;>simp[prK]
  rw[e,Ac,AF];lia
def pP(ks:List Kn)(k:Kn):al (ks++[k])=al ks++prK k:=by unfold al;rw[AO,A1,DX,AQ]
structure bF(ks:List Kn)(kept:List Nat)(n:Nat)(fm:List (Option Kn)):Prop where
 len:fm.length=n
 lf:∀p t m,p<n->ks[p]?=some (.lf t m)->fm[p]?=some (some (.lf t m))
 kp:∀p∈kept,p<n->∀k,ks[p]?=some k->fm[p]?=some (some k)
 nd:∀p e i j,p<n->ks[p]?=some (.nd e i j)->(fm[p]?=some none/\p∉al ks)\/∃e',fm[p]?=some (some (.nd e' i j))
def bF.nil(ks:List Kn)(kept:List Nat):bF ks kept 0 []:=⟨rfl,λ_ _ _ h=>absurd h (BY _),λ_ _ h=>absurd h (BY _),λ_ _ _ _ h=>absurd h (BY _)⟩
def bF.snoc{ks:List Kn}{kept:List Nat}(T:bF ks kept n fm){k:Kn}{o:Option Kn}(h:ks[n]?=some k)(U:∀t m,k=.lf t m->o=some k)(g:n∈kept->o=some k)
 (l:∀e i j,k=.nd e i j->(o=none/\n∉al ks)\/∃J,o=some (.nd J i j)):bF ks kept (n+1) (fm++[o]):=by
 have old:∀p,p<n->(fm++[o])[p]?=fm[p]?:=λp I=>AB (by rw[T.len];exact I);have new:(fm++[o])[n]?=some o:=by rw[<-T.len];exact dg fm o []
 refine⟨by rw[Ac,T.len];rfl,λp t m I e=>?_,λp I r C e=>?_,λp b i j I e=>?_⟩
 ·by_cases c:p<n
  ·rw[old p c];exact T.lf p t m c e
  ·have:p=n:=by lia
   subst this;rw[h] at e;cases e;rw[new,U t m rfl]
 ·by_cases c:p<n
  ·rw[old p c];exact T.kp p I c C e
  ·have:p=n:=by lia
   subst this;rw[h] at e;cases e;rw[new,g I]
 ·by_cases c:p<n
  ·rw[old p c];exact T.nd p b i j c e
  ·have:p=n:=by lia
   subst this;rw[h] at e;cases e;rw[new];rcases l b i j rfl with⟨a1,a2⟩|⟨J,a⟩
   ·exact .inl ⟨by rw[a1],a2⟩
   ·exact .inr ⟨J,by rw[a]⟩
def fU:jx:=λys L Q=>∃a c,∃ks:List Kn,∃ct:List (Nat×Nat),∃s m:Int,ys=[.ref a,.ref c,.int s,.int m]/\L a=some (.lst (jf ks))/\L c=some (.lst (qu ct))/\aq ks/\(∀x∈ct,x.1<ks.length/\x.2<ks.length)/\cK (bR ks) ct<=1000/\ks.length<=1000/\
 ∀D qs fm,L D=none->mV ks ct qs []->bF ks qs ks.length fm->Q (.ref D) (qe L D (.lst (w6 fm)))
def aaw:∀ys L Q,fU ys L Q->xr (oz gN eY) 11 ys L Q:=by
 rintro ys L Q ⟨a,c,U,ct,s,m,rfl,ha,hc,ok,hb,hz,hn,q⟩;have big:=bg_;refine⟨a,c,U,ct,rfl,ha,hc,ok,hb,hz,hn,λD g hD B=>?_⟩;have s1:qj L (qe L D (.lst (nY g))):=By hD;have a3:qe L D (.lst (nY g)) D=some (.lst (nY g)):=q9;generalize qe L D (.lst (nY g))=L1 at s1 a3 ⊢;intro l a4;have s2:qj L (qe L1 l (.lst [])):=s1.trans (By a4);have ab:L l=none:=s1.none a4;have ac:D≠l:=xn a3 a4;refine x4 (s2 _ _ ha) λkeep kp=>wm ⟨λi τ J=>∃c6 c7 c8 c9 bS,τ=[some (Y.ref a),some (Y.ref c),some (.int s),some (.int m),some (Y.ref D),some (Y.ref l),c6,c7,c8,c9,bS]/\qj L J/\J D=some (.lst (nY g))/\J l=some (.lst (nY (al (U.take i)))),⟨_,_,_,_,_,rfl,s2,(qb ac).trans a3,q9⟩,?_,?_,?_⟩
 ·rintro i τ J ⟨c6,c7,c8,c9,bS,rfl,r,_⟩;exact kp J (by rw[r _ _ ha,s2 _ _ ha])
 ·rintro i y τ J hy ⟨c6,c7,c8,c9,bS,rfl,r,g1,g2⟩;rw[An] at hy;obtain⟨k,ek,rfl⟩:=Ay.mp hy;have et:U.take (i+1)=U.take i++[k]:=by rw[Bf,ek];rfl
  have pl:=afk (U.take i);rw[AX] at pl;cases k with
  |lf t n=>exact⟨_,EC _,_,_,_,_,_,rfl,r,g1,by rw[et,pP];show _=some (LO.lst (nY (al (U.take i)++[])));rw[AQ];exact g2⟩
  |nd e p1 p2=>
   refine qd g2 ?_;intro p hp;have n1:l≠p:=xn g2 hp;have n2:D≠p:=xn g1 hp;refine qo ((qb n1).trans g2) (qo q9 ⟨?_,?_⟩)
   ·rw[wb];exact BD (big _ (by simp;lia))
   ·refine⟨_,EC _,_,_,_,_,_,rfl,(r.trans (By hp)).upd ab,(qb ac).trans ((qb n2).trans g1),?_⟩;rw[q9,et,pP,eX];rfl
 ·rintro τ J ⟨c6,c7,c8,c9,bS,rfl,r,g1,g2⟩;rw[Af,Bc] at g2;refine x4 (r _ _ ha) λkeep kp=>ar (λi C=>C.length<=i) (by rw[Af];exact big _ (by exact dG)) (kp _ rfl) (Al _) ?_ ?_
  ·rintro i y C ey hl;rw[An] at ey;obtain⟨k,ek,rfl⟩:=Ay.mp ey;have no:dz (λC a5=>a5=J/\C.length<=i+1) C J:=⟨_,EC _,rfl,by exact afc⟩;have yes:∀z,dz (λC a5=>a5=J/\C.length<=i+1) (C++[z]) J:=λz=>⟨_,EC _,rfl,by rw[Ac,Bh];exact uM⟩;cases k with
   |lf t n=>cases t<;>exact no
   |nd e p1 p2=>
    cases e with|true=>exact yes _|false=>exact no
  rintro C bb p hp;refine qo q9 ?_;have s3:qj L (qe J p (.lst C)):=r.trans (By hp);have k1:qe J p (.lst C) D=some (.lst (nY g)):=(qb (xn g1 hp)).trans g1;have k2:qe J p (.lst C) l=some (.lst (nY (al U))):=(qb (xn g2 hp)).trans g2;generalize qe J p (.lst C)=L2 at s3 k1 k2 ⊢;intro mk a1;have a2:L mk=none:=s3.none a1;have s4:qj L (qe L2 mk (.lst [])):=s3.trans (By a1);have aL:D≠mk:=xn k1 a1;have ba:l≠mk:=xn k2 a1;refine x4 (s4 _ _ ha) λkeep kp=>wm ⟨λi τ J=>∃c6,∃j:Int,∃c9 bS I,τ=[some (Y.ref a),some (Y.ref c),some (.int s),some (.int m),some (Y.ref D),some (Y.ref l),c6,some (.int j),some (Y.ref mk),c9,bS]/\qj L J/\J D=some (.lst (nY g))/\J l=some (.lst (nY (al U)))/\J mk=some (.lst (w6 I))/\bF U g i I,⟨_,_,_,_,[],rfl,s4,(qb aL).trans k1,(qb ba).trans k2,q9,bF.nil _ _⟩,?_,?_,?_⟩
  ·rintro i τ J ⟨c6,j,c9,bS,I,rfl,r,_⟩;exact kp J (by rw[r _ _ ha,s4 _ _ ha])
  ·rintro i y τ J hy ⟨c6,j,c9,bS,I,rfl,r,g1,g2,g3,T⟩;obtain⟨z,ez,rfl⟩:=eM hy;rw[An] at ez;obtain⟨k,ek,rfl⟩:=Ay.mp ez;have hi:=ze ek;have ol:=T.len;refine⟨s,i,30269,rfl,by exact AY _,by omega,by decide,by decide,λv h0 h1=>?_⟩;refine⟨show(0:Int)<8 by decide,?_⟩;have add:∀(o:Option Kn) (y:Y) (a0:Int),gb o=y->bF U g (i+1) (I++[o])->dz (λ(τ:jy) (J:qm)=>∃c6,∃j:Int,∃c9 bS I,τ=[some (Y.ref a),some (Y.ref c),some (.int s),some (.int m),some (Y.ref D),some (Y.ref l),c6,some (.int j),some (Y.ref mk),c9,bS]/\qj L J/\J D=some (.lst (nY g))/\J l=some (.lst (nY (al U)))/\J mk=some (.lst (w6 I))/\bF U g (i+1) I) [some (Y.ref a),some (Y.ref c),some (.int s),some (.int m),some (Y.ref D),some (Y.ref l),some (rK k),some (.int a0),some (Y.ref mk),some (.int ((i:Nat):Int)),some (.int (v % 8))] (qe J mk (.lst (w6 I++[y]))):=λo y a0 ey T'=>
    ⟨_,EC _,_,_,_,_,I++[o],rfl,r.upd a2,(qb aL).trans g1,(qb ba).trans g2,by rw[q9,<-ey,iG],T'⟩
   have len:(w6 I).length<sizeLine:=by rw[ae,ol];exact big _ (by lia)
   cases k with
   |lf t n=>
    have T':bF U g (i+1) (I++[some (.lf t n)]):=T.snoc ek (λ_ _ h=>by rw[h]) (λ_=>rfl) (λ_ _ _ h=>by cases h);exact qd g3 (qo g3 ⟨len,add _ _ j rfl T'⟩)
   |nd e p1 p2=>
    refine qd g1 ⟨rfl,yR _,?_⟩;rw[rc];by_cases ck:i∈g
    ·have T':bF U g (i+1) (I++[some (.nd e p1 p2)]):=T.snoc ek (λ_ _ h=>by cases h) (λ_=>rfl) (λ_ _ _ h=>.inr ⟨e,by cases h;rfl⟩);refine ap (by rw[Ao ck];rfl) ?_;exact qd g3 (qo g3 ⟨len,add _ _ j rfl T'⟩)
    refine aF (by rw[Aq ck];rfl) ?_;have T':∀e',bF U g (i+1) (I++[some (.nd e' p1 p2)]):=λe'=>T.snoc ek (λ_ _ h=>by cases h) (λh=>absurd h ck) (λ_ _ _ h=>.inr ⟨e',by cases h;rfl⟩);refine⟨⟨by decide,by decide⟩,show(0:Int)<2 by decide,?_⟩;refine zo (λh=>?_) (λh=>?_)
    ·refine qd g3 ?_;refine⟨show(0:Int)<2 by decide,?_⟩;refine zo (λh2=>?_) (λh2=>?_)
     ·refine qd g2 ⟨rfl,yR _,?_⟩;rw[rc];by_cases cp:i∈al U
      ·refine aF (by rw[Ao cp];rfl) ?_;exact qo g3 ⟨len,add _ _ j rfl (T' e)⟩
      ·refine ap (by rw[Aq cp];rfl) ?_;have T2:bF U g (i+1) (I++[none]):=T.snoc ek (λ_ _ h=>by cases h) (λh=>absurd h ck) (λ_ _ _ h=>.inl ⟨rfl,cp⟩);exact qo g3 ⟨len,add _ _ j rfl T2⟩
     ·exact qo g3 ⟨len,add _ _ j rfl (T' e)⟩
    ·have same:∀(a0:Int),_:=λa0=>add (some (.nd e p1 p2)) _ a0 rfl (T' e);refine zo (λh2=>?_) (λh2=>?_)
     ·cases e with
      |true=>exact qd g3 (qo g3 ⟨len,add (some (.nd false p1 p2)) _ (j-1) rfl (T' false)⟩)
      |false=>
       refine zo (λh2=>?_) (λh2=>?_)
       ·refine zo (λh3=>?_) (λh3=>?_)
        ·exact qd g3 (qo g3 ⟨len,add (some (.nd true p1 p2)) _ (j+1) rfl (T' true)⟩)
        ·exact qd g3 (qo g3 ⟨len,same j⟩)
       ·exact qd g3 (qo g3 ⟨len,same j⟩)
     ·refine zo (λh3=>absurd h3 h2) (λh3=>?_);exact qd g3 (qo g3 ⟨len,same j⟩)
  ·rintro τ J ⟨c6,j,c9,bS,I,rfl,r,g1,g2,g3,T⟩;rw[fT,Af] at T;refine⟨qe L mk (.lst (w6 I)),λb o e=>?_,q mk g I a2 B T⟩;by_cases cc:b=mk
   ·subst cc;rw[q9] at e;rw[<-e];exact g3
   ·rw[qb cc] at e;exact r _ _ e
def mh:ww:=(qr (zr (zj aR (qa 1) (zj aG (qa 2) (bQ 1))) (qg 4))
 (qr (zr (mC 1 (xm (qa 1)) (qg 12) (bV (qR (qa 12) (qa 4)) (cU (zj aR (zj aR (qa 0) (x9 12 0)) (jk 1)) (zj aR (zj aR (qa 0) (x9 4 0)) (jk 1)))) (qa 12)) (qg 5))
 (qr (xc (cU (qa 5) (kc qx)) (ji (qa 1)) jm)
 (qr (zr (zj aR (qa 5) (zj aG (qa 3) (bQ 5))) (qg 6))
 (qr (zr (yIf (cU (zj aR (zj aR (qa 0) (x9 4 0)) (jk 0)) (dS "plain")) (qa 4) (rdT (x9 4 1) (x9 4 0))) (aD 2 (zn (qg 7) (zn (qg 8) wf))))
 (qr (zr (yIf (cU (zj aR (zj aR (qa 0) (x9 6 0)) (jk 0)) (dS "plain")) (qa 6) (rdT (x9 6 1) (x9 6 0))) (aD 2 (zn (qg 9) (zn (qg 10) wf))))
 (qr (zr (mC 1 (xm (qa 1)) (qg 12) (bV (qR (qa 12) (qa 4)) (qR (qa 12) (qa 6))) (qa 12)) (qg 11))
 (ji (cY db (qf (zj kz (qa 11) (kc (qf (ko (qf (cY uA (aB (qa 7) (qa 10))) (qf (cY uP (aB (qa 7) (qa 10))) qx))) (qf (ko (qf (cY uA (aB (qa 9) (qa 8))) (qf (cY uP (aB (qa 9) (qa 8))) qx))) qx)))) qx))))))))))
def dw(x:Nat×Nat):Da:=.tup [.s (.int (x.1:Int)),.s (.int (x.2:Int))]
def fY(x y:Nat×Nat):Da.eq (dw x) (dw y)=decide (x=y):=by show(decide ((x.1:Int)=(y.1:Int))&&(decide ((x.2:Int)=(y.2:Int))&&true))=_;rw[DP,<-Bool.decide_and];exact decide_eq_decide.mpr ⟨λ⟨I,J⟩=>Es (B5.mp I) (B5.mp J),λh=>by subst h;exact⟨rfl,rfl⟩⟩
def gY(x:Nat×Nat):ju L 1 (qC x) (dw x):=cq (.cons (EM _) (.cons (EM _) .nil))
theorem mL{L:qm}:∀l:List (Nat×Nat),Paired (ju L 1) (qu l) (l.map dw)
 |[]=>.nil
 |_::r=>.cons (cq (.cons (EM _) (.cons (EM _) .nil))) (mL r)
def ahs(l:List (Nat×Nat)):Da.eqs (l.map dw) []=decide (l=[]):=by cases l<;>rfl
def xZ{f:Nat×Nat->Bool}{keep:qm->Prop}{Q:YK}(hz:lk.length<=1000)(o:keep L)
 (turn:∀(i:Nat) (I:Nat×Nat) (R:List Y->qm->Prop) zs,lk[i]?=some I->(f I=true->R (zs++[qC I]) L)->(f I=false->R zs L)->g (qC I) (τ++List.replicate 1 none) L λJ L2=>tc J L2 λb L3=>xt b (te J L3 λz r=>R (zs++[z]) r) (R zs L3))
 (t:∀p,L p=none->Q (.ref p) (qe L p (.lst (qu (lk.filter f))))):yJ (qu lk) keep 1 g tc te τ L Q:=by
 refine ar (λi zs=>zs=qu ((lk.take i).filter f)) (by rw[Af];exact A8 hz (by decide)) o rfl ?_ ?_
 ·rintro i y zs U rfl;rw[An] at U;obtain⟨I,j,rfl⟩:=Ay.mp U;have l:lk.take (i+1)=lk.take i++[I]:=by rw[Bf,j];rfl
  refine turn i I _ _ j (λh=>⟨L,EC _,rfl,?_⟩) λh=>⟨L,EC _,rfl,?_⟩
  ·rw[l,BK,C7 h,Cd,<-io]
  ·rw[l,BK,C6 (by rw[h];simp),Cd,AQ]
 ·rintro zs rfl p C;rw[Af,Bc];exact t p C
structure LkI(ks:List Kn)(lk:List (Nat×Nat)):Prop where
 nd:(x6 lk).Nodup
 lt:∀p∈lk,p.1<p.2
 at_:∀p∈lk,∃t n,ks[p.1]?=some (.lf t n)/\ks[p.2]?=some (.lf (!t) n)
def ki(c:Nat×Nat)(r:List (Nat×Nat)):x6 (c::r)=c.1::c.2::x6 r:=by
 have e:x6 (c::r)=[c.1,c.2]++x6 r:=by rw[<-bK,<-kj];rfl
 rw[e];rfl
def cw{l m:List (Nat×Nat)}(h:l.Perm m):(x6 l).Perm (x6 m):=by
 induction h with
 |nil=>exact .nil
 |cons x _ I=>rw[ki,ki];exact(I.cons _).cons _
 |swap x y l=>
  rw[ki,ki,ki,ki];exact(Bi (l₁:=[y.1,y.2]) (l₂:=[x.1,x.2])).append_right (x6 l)
 |trans _ _ J U=>exact J.trans U
theorem aM:∀{l:List (Nat×Nat)},(x6 l).Nodup->l.Nodup
 |[],_=>DF
 |c::r,h=>by rw[ki] at h;have I:=AA.mp h;have J:=AA.mp I.2;exact AA.mpr ⟨λU=>I.1 (Ah _ (eQ U).1),aM J.2⟩
def aie{l:List (Nat×Nat)}(nd:l.Nodup){x y:Nat×Nat}(I:x∈l)(J:y∈l)(ne:x≠y):l.Perm (x::y::l.filter λz=>decide (z≠x)&&decide (z≠y)):=by
 refine(B9 nd ?_).mpr λz=>?_
 ·refine AA.mpr ⟨λh=>?_,AA.mpr ⟨λh=>?_,nd.filter _⟩⟩
  ·rcases Ax.mp h with h|h
   ·exact ne h
   ·simp at h
  ·simp at h
 ·by_cases c1:z=x
  ·subst c1;simp[I]
  ·by_cases c2:z=y
   ·subst c2;simp[J]
   ·simp[c1,c2]
def f9(a b:Nat):Nat×Nat:=(min a b,max a b)
def yK(a b:Nat)(r:List Nat):(min a b::max a b::r).Perm (a::b::r):=by
 by_cases c:a<=b
 ·rw[Ce c,CP c]
 ·rw[DY (by lia),C1 (by lia)];exact List.Perm.swap ..
def jq(t:Bool)(p:Nat×Nat):Nat×Nat:=if t=true then(p.2,p.1) else p
def kC(t:Bool)(p:Nat×Nat)(r:List Nat):((jq t p).1::(jq t p).2::r).Perm (p.1::p.2::r):=by cases t with|true=>exact List.Perm.swap ..|false=>exact .refl _
def LkI.cross{ks:List Kn}(I:LkI ks lk){x y:Nat×Nat}(C:x∈lk)(T:y∈lk)(ne:x≠y){u:Bool}{n:Str}(x1:ks[x.1]?=some (.lf t n))(g:ks[x.2]?=some (.lf (!t) n))(j:ks[y.1]?=some (.lf u n))(l:ks[y.2]?=some (.lf (!u) n)):
 (x6 ((lk.filter λz=>decide (z≠x)&&decide (z≠y))++[f9 (jq t x).1 (jq u y).2,f9 (jq u y).1 (jq t x).2])).Perm (x6 lk)/\
 LkI ks ((lk.filter λz=>decide (z≠x)&&decide (z≠y))++[f9 (jq t x).1 (jq u y).2,f9 (jq u y).1 (jq t x).2]):=by
 have pm:=cw (aie (aM I.nd) C T ne);rw[ki,ki] at pm;generalize o:(lk.filter λz=>decide (z≠x)&&decide (z≠y))=rest at pm;have r:(x6 (rest++[f9 (jq t x).1 (jq u y).2,f9 (jq u y).1 (jq t x).2])).Perm (x6 lk):=by rw[kj,ki,bK];refine Bi.trans (List.Perm.trans ?_ pm.symm);refine(yK (jq t x).1 (jq u y).2 _).trans ?_;refine(((yK (jq u y).1 (jq t x).2 (x6 rest)).cons _).cons _).trans ?_;refine List.Perm.trans ?_ (kC t x _);refine List.Perm.cons _ ?_;refine List.Perm.trans ?_ ((kC u y _).cons _);refine(Bi (l₁:=[(jq u y).2,(jq u y).1]) (l₂:=[(jq t x).2])).append_right (x6 rest) |>.trans ?_;exact(List.Perm.swap ..).cons _
 have J:ks[(jq t x).1]?=some (.lf false n)/\ks[(jq t x).2]?=some (.lf true n):=by cases t;exact⟨x1,g⟩;exact⟨g,x1⟩
 have U:ks[(jq u y).1]?=some (.lf false n)/\ks[(jq u y).2]?=some (.lf true n):=by cases u;exact⟨j,l⟩;exact⟨l,j⟩
 have two:∀a b,ks[a]?=some (.lf false n)->ks[b]?=some (.lf true n)->(f9 a b).1<(f9 a b).2/\∃t n,ks[(f9 a b).1]?=some (.lf t n)/\ks[(f9 a b).2]?=some (.lf (!t) n):=λa b ea eb=>by
  have a0:a≠b:=λh=>by subst h;rw[ea] at eb;cases eb
  unfold f9;by_cases c:a<b
  ·rw[Ce (by exact gL),CP (by lia)];exact⟨c,false,n,ea,eb⟩
  ·rw[DY (by exact wZ),C1 (by lia)];exact⟨by show b<a;lia,true,n,eb,ea⟩
 refine⟨r,r.nodup_iff.mpr I.nd,λp h=>?_,λp h=>?_⟩
 ·rcases Ak.mp h with h|h
  ·rw[<-o] at h;exact I.lt p (BI.mp h).1
  ·rcases Ax.mp h with rfl|h
   ·exact(two _ _ J.1 U.2).1
   ·rw[Ap.mp h];exact(two _ _ U.1 J.2).1
 ·rcases Ak.mp h with h|h
  ·rw[<-o] at h;exact I.at_ p (BI.mp h).1
  ·rcases Ax.mp h with rfl|h
   ·exact(two _ _ J.1 U.2).2
   ·rw[Ap.mp h];exact(two _ _ U.1 J.2).2
def LkI.perm{ks:List Kn}{l m:List (Nat×Nat)}(I:LkI ks l)(p:m.Perm l):LkI ks m:=⟨(cw p).nodup_iff.mpr I.nd,λx J=>I.lt x (p.mem_iff.mp J),λx J=>I.at_ x (p.mem_iff.mp J)⟩
def dH:jx:=λys L Q=>∃a l,∃ks:List Kn,∃lk:List (Nat×Nat),∃one two:Int,ys=[.ref a,.ref l,.int one,.int two]/\L a=some (.lst (jf ks))/\L l=some (.lst (qu lk))/\LkI ks lk/\lk≠[]/\lk.length<=900/\ks.length<=1000/\
 Q (.ref l) L/\∀D I,L D=none->LkI ks I->I.length=lk.length->(x6 I).Perm (x6 lk)->I.Pairwise m5->Q (.ref D) (qe L D (.lst (qu I)))
def iN(ks:List Kn)(p:Nat):Str:=match ks[p]? with
 |some (.lf _ n)=>n
 |_ => ""
def lS{ks:List Kn}{n:Str}(e:ks[p]?=some (.lf t n)):iN ks p=n:=by unfold iN;rw[e]
def adf{l:List (Nat×Nat)}{x:Nat×Nat}(h:l[i]?=some x):(qu l)[i]?=some (qC x):=by rw[An,h];rfl
def ag4:ww:=(qr (zr (mC 1 (xm (qa 1)) (qg 12) (bV (qR (qa 12) (qa 4)) (qR (qa 12) (qa 6))) (qa 12)) (qg 11))
 (ji (cY db (qf (zj kz (qa 11) (kc (qf (ko (qf (cY uA (aB (qa 7) (qa 10))) (qf (cY uP (aB (qa 7) (qa 10))) qx))) (qf (ko (qf (cY uA (aB (qa 9) (qa 8))) (qf (cY uP (aB (qa 9) (qa 8))) qx))) qx)))) qx))))
def dX{En:ke}{c0 c2 c3 c5:Option Y}{x y:Nat×Nat}{A B C D:Nat}(hl:L l=some (.lst (qu lk)))(hz:lk.length<=900)
 (nd:((lk.filter λz=>decide (z≠x)&&decide (z≠y))++[f9 A D,f9 C B]).Nodup) (hb:∀p∈(lk.filter λz=>decide (z≠x)&&decide (z≠y))++[f9 A D,f9 C B],p.2<1000000)
 (q:∀L' g qs,qj L L'->L' g=none->qs.Perm ((lk.filter λz=>decide (z≠x)&&decide (z≠y))++[f9 A D,f9 C B])->qs.Pairwise m5->En.rt (.ref g) (qe L' g (.lst (qu qs)))):
 ag4 En [c0,some (.ref l),c2,c3,some (qC x),c5,some (qC y),some (.int (A:Int)),some (.int (B:Int)),some (.int (C:Int)),some (.int (D:Int)),none] L:=by
 have big:=bg_;refine x4 hl λkeep kp=>xZ (f:=λz=>decide (z≠x)&&decide (z≠y)) (by exact dG) (kp _ rfl) (λi J R zs ep hy j=>?_) λp hp=>?_
 ·refine⟨rfl,rfl,1,1,dw J,dw x,by decide,gY J,gY x,?_⟩;rw[fY];by_cases c:J=x
  ·refine aF (by rw[Ao c];rfl) (j (by rw[Aq (by simpa using c)];rfl))
  ·refine ap (by rw[Aq c];rfl) ?_;refine⟨rfl,rfl,1,1,dw J,dw y,by decide,gY J,gY y,?_⟩;rw[fY];by_cases c2:J=y
   ·refine aF (by rw[Ao c2];rfl) (j (by rw[Aq (by simpa using c2:¬J≠y),Dg]))
   ·refine ap (by rw[Aq c2];rfl) (hy (by rw[Ao c,Ao c2];rfl))
 obtain⟨I,o⟩:∃I,I=lk.filter λz=>decide (z≠x)&&decide (z≠y):=⟨_,rfl⟩;rw[<-o] at nd hb q ⊢;have lr:I.length<=lk.length:=by rw[o];exact CB ..
 intro U r;have e1:(Y.tup [.int (min (A:Int) (D:Int)),.int (max (A:Int) (D:Int))])=qC (f9 A D):=by
  have t:min (A:Int) (D:Int)=((min A D:Nat):Int):=by omega
  have e3:max (A:Int) (D:Int)=((max A D:Nat):Int):=by omega
  unfold qC f9;rw[t,e3]
 have t:(Y.tup [.int (min (C:Int) (B:Int)),.int (max (C:Int) (B:Int))])=qC (f9 C B):=by
  have t:min (C:Int) (B:Int)=((min C B:Nat):Int):=by omega
  have e3:max (C:Int) (B:Int)=((max C B:Nat):Int):=by omega
  unfold qC f9;rw[t,e3]
 have h2:qe (qe L p (.lst (qu I))) U (.lst [Y.tup [.int (min (A:Int) (D:Int)),.int (max (A:Int) (D:Int))],Y.tup [.int (min (C:Int) (B:Int)),.int (max (C:Int) (B:Int))]]) U=some (.lst (qu [f9 A D,f9 C B])):=by rw[q9,e1,t];rfl
 have np:p≠U:=xn q9 r;have h1:qe (qe L p (.lst (qu I))) U (.lst [Y.tup [.int (min (A:Int) (D:Int)),.int (max (A:Int) (D:Int))],Y.tup [.int (min (C:Int) (B:Int)),.int (max (C:Int) (B:Int))]]) p=some (.lst (qu I)):=(qb np).trans q9;have sL:qj L (qe (qe L p (.lst (qu I))) U (.lst [Y.tup [.int (min (A:Int) (D:Int)),.int (max (A:Int) (D:Int))],Y.tup [.int (min (C:Int) (B:Int)),.int (max (C:Int) (B:Int))]])):=(By hp).trans (By r);refine⟨_,_,h1,h2,?_,λp3 T=>?_⟩
 ·rw[Af,Af];exact BD (big _ (by simp;lia))
 generalize qe (qe L p (.lst (qu I))) U (.lst [Y.tup [.int (min (A:Int) (D:Int)),.int (max (A:Int) (D:Int))],Y.tup [.int (min (C:Int) (B:Int)),.int (max (C:Int) (B:Int))]])=L1 at h1 h2 sL T ⊢;have ea:qu I++qu [f9 A D,f9 C B]=qu (I++[f9 A D,f9 C B]):=by unfold qu;rw[AD]
 rw[ea];dsimp only[qx];refine se (ps:=I++[f9 A D,f9 C B]) q9 hb nd (by rw[Ac];show I.length+2<=_;lia) λg qs hD pm pw=>?_;exact q _ g qs (sL.trans (By T)) hD pm pw
def wU:∀ys L Q,dH ys L Q->xr mh 12 ys L Q:=by
 rintro ys L Q ⟨a,l,J,lk,one,two,rfl,ha,hl,I,ne,hz,hn,q0,q⟩;have big:=bg_;have a1:0<lk.length:=Dy.mpr ne;obtain⟨j1,x,e1,h1,ex⟩:=jO a1 one;have pl:(qu lk).length=lk.length:=Af ..;have mx:=Az ex;obtain⟨t,n,x1,x2⟩:=I.at_ x mx;refine qd hl ⟨by show(0:Int)<((qu lk).length:Int);rw[pl];lia,qd hl (ql (by rw[pl,e1];exact vj (adf ex):eG (qu lk) (one % ((qu lk).length:Int))=some (qC x)) ?_)⟩;refine x4 hl λkeep kp=>xZ (f:=λz=>decide (z≠x)&&decide (iN J z.1=iN J x.1)) (by exact dG) (kp _ rfl) (λi pr R zs ep hy a2=>?_) λp hp=>?_
 ·obtain⟨t2,n2,p1,p2⟩:=I.at_ pr (Az ep);refine⟨rfl,rfl,1,1,dw pr,dw x,by decide,gY pr,gY x,?_⟩;rw[fY];by_cases c:pr=x
  ·refine aF (by rw[Ao c];rfl) (a2 (by rw[Aq (by simpa using c)];rfl))
  ·refine ap (by rw[Aq c];rfl) ?_;refine qd ha (ql (wn p1) ?_);refine qd ha (ql (wn x1) ?_);have en:(decide (iN J pr.1=iN J x.1))=decide (n2=n):=by rw[lS p1,lS x1]
   refine zo (λh=>hy ?_) (λh=>a2 ?_)
   ·rw[en,Ao h,Ao c];rfl
   ·rw[en,Aq h,Dg]
 have np:l≠p:=xn hl hp;have s1:qj L (qe L p (.lst (qu (lk.filter λz=>decide (z≠x)&&decide (iN J z.1=iN J x.1))))):=By hp;have g1:qe L p (.lst (qu (lk.filter λz=>decide (z≠x)&&decide (iN J z.1=iN J x.1)))) p=some (.lst (qu (lk.filter λz=>decide (z≠x)&&decide (iN J z.1=iN J x.1)))):=q9;obtain⟨mt,C⟩:∃mt,mt=lk.filter λz=>decide (z≠x)&&decide (iN J z.1=iN J x.1):=⟨_,rfl⟩;rw[<-C] at s1 g1 ⊢;have lm:mt.length<=lk.length:=by rw[C];exact CB ..
 generalize qe L p (.lst (qu mt))=L1 at s1 g1 ⊢;intro p2 T;refine aj (n:=1) (m:=0) (by decide) (By T _ _ g1) q9 (mL mt) (.nil:Paired (ju _ 0) _ []) ?_;have s2:qj L (qe L1 p2 (.lst [])):=s1.trans (By T);have g2:qe L1 p2 (.lst []) p=some (.lst (qu mt)):=By T _ _ g1;generalize qe L1 p2 (.lst [])=L2 at s2 g2 ⊢;show xt (Da.eqs (mt.map dw) []) _ _;rw[ahs];by_cases cm:mt=[]
 ·refine ap (by rw[Ao cm]) ?_;exact⟨L,s2,q0⟩
 refine aF (by rw[Aq cm]) ?_;obtain⟨j2,y,e2,h2,ey⟩:=jO (Dy.mpr cm) two;have pm:(qu mt).length=mt.length:=Af ..;have my:=Az ey;rw[C] at my;obtain⟨my,cy⟩:=BI.mp my;rw[AR,BL,BL] at cy;obtain⟨u,n',y1,y2⟩:=I.at_ y my;have a3:n'=n:=by rw[<-lS y1,<-lS x1];exact cy.2
 subst a3;have U:=s2 _ _ hl;have a0:=s2 _ _ ha;refine qd g2 ⟨by show(0:Int)<((qu mt).length:Int);rw[pm];have:=Dy.mpr cm;lia,qd g2 (ql (by rw[pm,e2];exact vj (adf ey):eG (qu mt) (two % ((qu mt).length:Int))=some (qC y)) ?_)⟩;obtain⟨cp,cI⟩:=I.cross mx my (AH cy.1) x1 x2 y1 y2;have tail:∀L' r qs,qj L2 L'->L' r=none->qs.Perm ((lk.filter λz=>decide (z≠x)&&decide (z≠y))++[f9 (jq t x).1 (jq u y).2,f9 (jq u y).1 (jq t x).2])->qs.Pairwise m5->gc Q (.ref r) (qe L' r (.lst (qu qs))):=λL' r qs sl hD pq pw=>by
  have a4:L r=none:=s2.none (sl.none hD);refine⟨qe L r (.lst (qu qs)),λb o e=>?_,q r qs a4 (cI.perm pq) ?_ ((cw pq).trans cp) pw⟩
  ·by_cases c:b=r
   ·subst c;rw[q9] at e ⊢;exact e
   ·rw[qb c] at e ⊢;exact sl _ _ (s2 _ _ e)
  ·have l1:=cp.length_eq;rw[vt,vt] at l1;rw[pq.length_eq];lia
 have g:=aM cI.nd;have j:∀p∈(lk.filter λz=>decide (z≠x)&&decide (z≠y))++[f9 (jq t x).1 (jq u y).2,f9 (jq u y).1 (jq t x).2],p.2<1000000:=λp hp=>by obtain⟨_,_,_,h⟩:=cI.at_ p hp;have:=ze h;lia
 refine qd a0 (ql (wn x1) ?_);cases t with
 |false=>
  refine qd a0 (ql (wn y1) ?_);cases u with|false=>exact dX U hz g j tail|true=>exact dX U hz g j tail
 |true=>
  refine qd a0 (ql (wn y1) ?_);cases u with|false=>exact dX U hz g j tail|true=>exact dX U hz g j tail
def oY(I:jx)(p1:jx)(p2:jx)(p3:jx)(p4:jx)(p5:jx):ww:=(qr (zr (zd I (qf (qa 1) (aB (jk 5) (jk 16807)))) (qg 4))
 (qr (zr (zj (mj false) (zj aG (qa 4) (jk 4)) (jk 1)) (qg 5))
 (eE (xc (yB (qa 5)) (zr (cY uA (aB (qa 2) (jk 57))) (qg 2)) jm)
 (qr (zr (zd p1 (qf (qa 0) (aB (qa 1) (qa 2)))) (aD 2 (zn (qg 6) (zn (qg 7) wf))))
 (qr (zr (zd p2 (aI (qa 7))) (aD 2 (zn (qg 8) (zn (qg 9) wf))))
 (qr (dP (ij (qf (zj aG (zj bO (qa 4) (jk 4)) (jk 3)) qx)) (qg 10) (zr (zd p3 (qf (qa 6) (qf (qa 8) (qf (zd I (qf (qa 1) (qf (zj kz (jk 11) (qa 10)) (aI (jk 16807))))) (qf (zd I (qf (qa 1) (qf (zj kz (jk 17) (qa 10)) (aI (jk 40692))))) qx))))) (qg 8)))
 (eE (xc (cU (zj aG (zj bO (qa 4) (jk 12)) (jk 2)) (jk 1)) (zr (zd p4 (qf (qa 6) (qf (qa 9) (aB (qa 1) (qa 3))))) (qg 6)) jm)
 (ji (zd p5 (qf (qa 6) (qf (qa 8) (qf (qa 9) (aB (qa 1) (qa 5))))))))))))))
theorem dA:∀R:Ru,l7 R+1<=(j6 R).length
 |.link _ _=>Al _
 |.ei r A=>by have:=dA A;show l7 A+1+1<=(r::j6 A).length;rw[AF];exact uM
 |.bo r A B=>by have:=dA A;have:=dA B;show l7 A+l7 B+1+1<=(r::(j6 A++j6 B)).length;rw[AF,Ac];lia
 |.cu _ _ A B=>by have:=dA A;have:=dA B;show l7 A+l7 B+1+1<=(j6 A++j6 B).length;rw[Ac];lia
theorem ku:∀R:Ru,∃rest,(x6 (j4 R)++rest).Perm (j6 R)
 |.link p q=>⟨[],.refl _⟩
 |.ei r A=>by obtain⟨u,h⟩:=ku A;exact⟨r::u,B6.trans (h.cons r)⟩
 |.bo r A B=>by obtain⟨u,h⟩:=ku A;obtain⟨v,k⟩:=ku B;refine⟨r::(u++v),?_⟩;show(x6 (j4 A++j4 B)++r::(u++v)).Perm (r::(j6 A++j6 B));rw[kj];refine B6.trans (List.Perm.cons r ?_);refine List.Perm.trans ?_ (h.append k);rw[AE,AE];refine Dq _ ?_;rw[<-AE,<-AE];exact Dn _ Bi
 |.cu p q A B=>by obtain⟨u,h⟩:=ku A;obtain⟨v,k⟩:=ku B;refine⟨u++v,?_⟩;show(x6 (j4 A++j4 B)++(u++v)).Perm (j6 A++j6 B);rw[kj];refine List.Perm.trans ?_ (h.append k);rw[AE,AE];refine Dq _ ?_;rw[<-AE,<-AE];exact Dn _ Bi
def SR.links{ks:List Kn}{R:Ru}{E:List Nat}(h:SR ks R E):∀p∈j4 R,p.1<p.2/\∃t n,ks[p.1]?=some (.lf t n)/\ks[p.2]?=some (.lf (!t) n):=by induction h with|@link p q t n E g j l r C=>intro x U;rw[Ap.mp U];exact⟨g,t,n,j,l⟩|ei _ _ _ _ _ _ _ o=>exact o|bo _ _ _ _ _ _ _ I J=>intro x U;exact(Ak.mp U).elim (I x) (J x)|cu _ _ _ _ _ _ _ _ I J=>intro x U;exact(Ak.mp U).elim (I x) (J x)
def SR.lkI{ks:List Kn}{R:Ru}{E:List Nat}(h:SR ks R E)(nd:(j6 R).Nodup):LkI ks (j4 R):=by obtain⟨u,J⟩:=ku R;exact⟨(AI.mp (J.nodup_iff.mpr nd)).1,λp I=>(h.links p I).1,λp I=>(h.links p I).2⟩
def SR.cuts{ks:List Kn}{R:Ru}{E:List Nat}(h:SR ks R E):(j6 R).Nodup->(x6 (jh R)).Nodup/\(∀x∈x6 (jh R),x∉E/\x∈j6 R):=by
 induction h with
 |link _ _ _ _ _=>exactλ_=>⟨DF,λx I=>by cases I⟩
 |@ei r i j A EA E h1 h2 t h4 h5 C h7 ih=>
  intro nd;obtain⟨n1,n2⟩:=AA.mp (show(r::j6 A).Nodup from nd);obtain⟨a,b⟩:=ih n2;refine⟨a,λx I=>⟨λJ=>?_,Ah _ (b x I).2⟩⟩;rcases (C x).mp J with⟨z,_⟩|rfl
  ·exact(b x I).1 z
  ·exact n1 (b x I).2
 |@bo r i j A B EA EB E h1 h2 t h4 h5 C h7 l o=>
  intro nd;obtain⟨n1,n2⟩:=AA.mp (show(r::(j6 A++j6 B)).Nodup from nd);obtain⟨m1,m2,U⟩:=AI.mp n2;obtain⟨a1,b1⟩:=l m1;obtain⟨a2,b2⟩:=o m2;have sA:=h2.sub;have T:=t.sub;show(x6 (jh A++jh B)).Nodup/\∀x∈x6 (jh A++jh B),x∉E/\x∈r::(j6 A++j6 B);rw[kj];refine⟨AI.mpr ⟨a1,a2,λx I y hy=>U x (b1 x I).2 y (b2 y hy).2⟩,λx I=>?_⟩;rcases Ak.mp I with I|I
  ·refine⟨λJ=>?_,Ah _ (Au _ (b1 x I).2)⟩;rcases (C x).mp J with⟨z,_⟩|⟨z,_⟩|rfl
   ·exact(b1 x I).1 z
   ·exact U x (b1 x I).2 x (T x z) rfl
   ·exact n1 (Au _ (b1 _ I).2)
  ·refine⟨λJ=>?_,Ah _ (Ag _ (b2 x I).2)⟩;rcases (C x).mp J with⟨z,_⟩|⟨z,_⟩|rfl
   ·exact U x (sA x z) x (b2 x I).2 rfl
   ·exact(b2 x I).1 z
   ·exact n1 (Ag _ (b2 _ I).2)
 |@cu p q A B EA EB E w h1 h2 t h4 h5 C h7 h8 l o=>
  intro nd;obtain⟨m1,m2,U⟩:=AI.mp (show(j6 A++j6 B).Nodup from nd);obtain⟨a1,b1⟩:=l m1;obtain⟨a2,b2⟩:=o m2;have sA:=h1.sub;have T:=h2.sub;show(x6 ((p,q)::(jh A++jh B))).Nodup/\∀x∈x6 ((p,q)::(jh A++jh B)),x∉E/\x∈j6 A++j6 B;rw[ki,kj];have tp:=sA p t;have tq:=T q h4;have a3:p≠q:=λe=>U p tp q tq e;have a0:∀x,x∈x6 (jh A)++x6 (jh B)->x≠p/\x≠q:=λx I=>by
   rcases Ak.mp I with I|I
   ·exact⟨λe=>(b1 x I).1 (e▸t),λe=>U x (b1 x I).2 q tq e⟩
   ·exact⟨λe=>U p tp x (b2 x I).2 e.symm,λe=>(b2 x I).1 (e▸h4)⟩
  refine⟨AA.mpr ⟨λh=>?_,AA.mpr ⟨λh=>(a0 q h).2 rfl,AI.mpr ⟨a1,a2,λx I y hy=>U x (b1 x I).2 y (b2 y hy).2⟩⟩⟩,λx I=>?_⟩
  ·rcases Ax.mp h with h|h
   ·exact a3 h
   ·exact(a0 p h).1 rfl
  ·have g:x∈E->(x∈EA/\x≠p)\/(x∈EB/\x≠q):=(h7 x).mp;rcases Ax.mp I with rfl|I
   ·exact⟨λJ=>(g J).elim (λz=>z.2 rfl) λz=>U x tp x (T x z.1) rfl,Au _ tp⟩
   ·rcases Ax.mp I with rfl|I
    ·exact⟨λJ=>(g J).elim (λz=>U x (sA x z.1) x tq rfl) λz=>z.2 rfl,Ag _ tq⟩
    ·rcases Ak.mp I with I|I
     ·exact⟨λJ=>(g J).elim (λz=>(b1 x I).1 z.1) λz=>U x (b1 x I).2 x (T x z.1) rfl,Au _ (b1 x I).2⟩
     ·exact⟨λJ=>(g J).elim (λz=>U x (sA x z.1) x (b2 x I).2 rfl) λz=>(b2 x I).1 z.1,Ag _ (b2 x I).2⟩
structure tL(wd:List (Option Kn))(lk' ct':List (Nat×Nat)):Prop where
 ex:∃(ks:List Kn) (R:Ru) (E:List Nat) (lk ct:List (Nat×Nat)) (fm:List (Option Kn)) (f:Nat->Nat),aq ks/\SR ks R E/\(j6 R).Perm (List.range ks.length)/\ks.length<=120/\
  LkI ks lk/\(x6 lk).Perm (x6 (j4 R))/\ct.Perm (jh R)/\(fm=ks.map some\/∃qs,mV ks ct qs []/\bF ks qs ks.length fm)/\Ren f fm wd/\lk'.Perm (lk.map (mmP f))/\lk'.Pairwise m5/\ct'.Perm (ct.map (ppP f))/\ct'.Pairwise m5
def bF.okO{ks:List Kn}(ok:aq ks)(T:bF ks qs ks.length fm):uz fm:=by
 intro p e i j h;have J:p<ks.length:=by have:=ze h;rw[T.len] at this;exact this
 cases I:ks[p]? with
 |none=>rw[Aj J] at I;cases I
 |some k=>
  cases k with
  |lf t n=>
   have:=T.lf p t n J I;rw[h] at this;cases this
  |nd l U g=>
   have lt:U<p/\g<p:=ok p _ I;rcases T.nd p l U g J I with⟨z,_⟩|⟨o,z⟩
   ·rw[h] at z;cases z
   ·rw[h] at z;cases z;exact lt
def oS{ks:List Kn}(ok:aq ks):uz (ks.map some):=by intro p e i j h;rw[An] at h;obtain⟨k,I,J⟩:=Ay.mp h;cases J;exact ok p _ I
def tQ(ks:List Kn):w6 (ks.map some)=jf ks:=by show(ks.map some).map gb=ks.map rK;rw[BP];rfl
def oC(ks:List Kn):∀l:List (Nat×Nat),2*l.length<=cK (bR ks) l:=λl=>by have:=iJ ks (x6 l);rw[bC,vt] at this;exact this
def zF{f:Nat->Nat}{l m:List (Nat×Nat)}(h:l.Perm m):cK f l=cK f m:=by rw[<-bC,<-bC];exact((cw h).map f).sum_nat
def wR(Pt:Addr):jx:=λys L Q=>∃g,∃j:List Int,∃s m:Int,∃room:Nat,ys=[g,.int s,.int (room:Int),.int m]/\g=.sq (j.map Y.int)/\j.length<=1000/\room<=120/\L Pt=some (.tb lamQ)/\
 ∀I J U wd lk ct L',tL wd lk ct->qj L L'->L I=none->L J=none->L U=none->I≠J->I≠U->J≠U->L' I=some (.lst (w6 wd))->L' J=some (.lst (qu lk))->L' U=some (.lst (qu ct))->Q (ay I J U) L'
def aij(Pt:Addr):jx:=λys L Q=>∃g,∃j:List Int,∃s m:Int,∃room:Nat,ys=[g,.int s,.int (room:Int),.int m]/\g=.sq (j.map Y.int)/\j.length<=1000/\room<=120/\L Pt=some (.tb lamQ)/\
 ∀I J U wd lk ct L',tL wd lk ct->(∃f:Nat->Nat,∀x k,wd[x]?=some (some k)->∃p,p<max room 2/\x=f p)->qj L L'->L I=none->L J=none->L U=none->I≠J->I≠U->J≠U->L' I=some (.lst (w6 wd))->L' J=some (.lst (qu lk))->L' U=some (.lst (qu ct))->Q (ay I J U) L'
def bT(ks:List (Option Kn))(p:Nat):Bool:=match ks[p]? with
 |some k=>fH k
 |none=>false
def bL{k:Kn}(h:ks[p]?=some (some k)):bT ks p=true:=by unfold bT;rw[h];rfl
def km(h:bT ks p=true):p<ks.length:=by
 unfold bT at h;split at h
 ·rename_i k e;exact ze e
 ·cases h
def aaf(ks:List (Option Kn)):(za ks).length=(List.range ks.length).countP (bT ks):=by rw[List.countP_eq_length_filter];rfl
def cA :bT ks p=true↔p∈za ks:=by
 constructor
 ·intro h;exact BI.mpr ⟨AS.mpr (km h),h⟩
 ·intro h;exact(BI.mp h).2
def aip(ks:List (Option Kn))(ps:List (Nat×Nat)):Prop:=∀x∈ps,bT ks x.1=true/\bT ks x.2=true
structure CT(ks:List (Option Kn))(ps:List (Nat×Nat))(es:List Nat):Prop where
 inp:aip ks ps
 nds:∀p∈es,∃e i j,ks[p]?=some (some (Kn.nd e i j))/\bT ks i=true/\bT ks j=true
 one:∀R:Nat->Nat->Prop,(∀a,R a a)->(∀a b,R a b->R b a)->(∀a b c,R a b->R b c->R a c)->(∀x∈ps,R x.1 x.2)->
  (∀p∈es,∀e i j,ks[p]?=some (some (Kn.nd e i j))->R i j->R p i)->∀a b,bT ks a=true->bT ks b=true->R a b
 ex:∃z,bT ks z=true
def amy(ks:List (Option Kn)):Eqv λa b=>a=b\/(bT ks a=true/\bT ks b=true):=⟨λa=>.inl rfl,λh=>h.elim (λe=>.inl e.symm) λh=>.inr ⟨h.2,h.1⟩,λ{a b c} h k=>by
 rcases h with rfl|h
 ·exact k
 ·rcases k with rfl|k
  ·exact .inr h
  ·exact .inr ⟨h.1,k.2⟩⟩
def agm(hs:List Nat):Eqv λa b=>a=b\/o7 hs a b:=⟨λa=>.inl rfl,λh=>h.elim (λe=>.inl e.symm) λ⟨r,p,q⟩=>.inr ⟨r,q,p⟩,λ{a b c} h k=>by
 rcases h with rfl|⟨r,p,q⟩
 ·exact k
 ·rcases k with rfl|⟨s,I,J⟩
  ·exact .inr ⟨r,p,q⟩
  ·exact .inr ⟨r,p,by rw[q.uniq I];exact J⟩⟩
def uW(I:fe rk hs){a b:Nat}(J:a<hs.length)(h:a=b\/o7 hs a b):o7 hs a b:=by
 rcases h with rfl|h
 ·obtain⟨r,t⟩:=I.rep' J;exact⟨r,t,t⟩
 ·exact h
theorem CT.all{ps:List (Nat×Nat)}{es:List Nat}(H:CT ks ps es)(J:hs.length=ks.length)(U:fe rk hs)(h1:∀x∈ps,o7 hs x.1 x.2)(h2:ai9 ks hs es):∀a b,a<ks.length->b<ks.length->bT ks a=true->bT ks b=true->o7 hs a b:=λa b o _ C tb=>by have E:=agm hs;refine uW U (by rw[J];exact o) (H.one (λa b=>a=b\/o7 hs a b) E.r (λ_ _=>E.s) (λ_ _ _=>E.t) (λx T=>.inr (h1 x T)) (λp g e i j l h=>?_) a b C tb);obtain⟨e',i',j',I,hi,_⟩:=H.nds p g;rw[l] at I;cases I;exact .inr (h2 p g e i j l (uW U (by rw[J];exact km hi) h))
theorem qB{ks:List (Option Kn)}:∀{pl:List Nat},(∀p∈pl,∃e i j,ks[p]?=some (some (Kn.nd e i j)))->(xo ks pl).length=2*pl.length
 |[],_=>rfl
 |p::r,h=>by have J:=qB (pl:=r) λq U=>h q (Ah _ U);obtain⟨e,i,j,g⟩:=h p (Av ..);have I:=jR ks [p] r;rw[Cb] at I;rw[I,Ac,AF,iz g,J];show 2+2*r.length=2*(r.length+1);lia
def abb{e:Bool}(h:ks[p]?=some (some (.nd e i j)))(hp:p∈pl):(p,i)∈xo ks pl/\(p,j)∈xo ks pl:=by
 unfold xo;constructor<;>refine Bd.mpr ⟨p,hp,?_⟩<;>rw[h]
 ·exact Av ..
 ·exact Ah _ (Av ..)
def aap{x:Nat×Nat}(h:x∈xo ks pl):∃e i j,ks[x.1]?=some (some (.nd e i j))/\(x.2=i\/x.2=j):=by
 unfold xo at h;obtain⟨p,g,J⟩:=Bd.mp h;split at J
 ·rename_i k U;obtain⟨q,I,rfl⟩:=BE.mp J;cases k with
  |none=>cases I
  |some k=>
   cases k with
   |lf t n=>cases I
   |nd e i j=>
    have I:q∈[i,j]:=I;refine⟨e,i,j,U,?_⟩;rcases Ax.mp I with rfl|I
    ·exact .inl rfl
    ·exact .inr (Ap.mp I)
 ·cases J
def lT{e:Bool}(h:p∈xh e ks):∃i j,ks[p]?=some (some (.nd e i j)):=by
 obtain⟨_,k,J,I⟩:=sP h;cases k with
 |none=>cases I
 |some k=>
  cases k with
  |lf t n=>cases I
  |nd U i j=>
   have:U=e:=of_decide_eq_true I;subst this;exact⟨i,j,J⟩
def yd{e:Bool}(h:ks[p]?=some (some (.nd e i j))):p∈xh e ks:=amt h (Ao rfl) (ze h)
def yx{th:Nat->Bool}(g:hs.length=n)(I:fe rk hs)(sep:∀a b,o7 hs a b->a=b\/(th a=true/\th b=true))
 (h:dm hs=(List.range n).countP (λx=>!th x)+1) {a b:Nat} (C:a<n) (T:b<n) (ta:th a=true) (tb:th b=true):o7 hs a b:=by
 have gone:(List.range n).countP (λx=>decide (hs[x]?=some x)&&!th x)=(List.range n).countP λx=>!th x:=CH λx U=>by
  have U:=AS.mp U;rw[AR,BL];refine⟨λh=>h.2,λh=>⟨?_,h⟩⟩;obtain⟨r,t⟩:=I.rep' (i:=x) (by omega);rcases sep x r ⟨r,t,.root t.top⟩ with e|⟨e,_⟩
  ·rw[e];exact t.top
  ·rw[e] at h;cases h
 unfold dm at h;rw[g,gh _ th,gone] at h;obtain⟨r,t⟩:=I.rep' (i:=a) (by omega);obtain⟨s,u⟩:=I.rep' (i:=b) (by omega);have J:=t.top;have st:=u.top;have o:th r=true:=(sep a r ⟨r,t,.root J⟩).elim (λe=>e▸ta) λh=>h.2;have ts:th s=true:=(sep b s ⟨s,u,.root st⟩).elim (λe=>e▸tb) λh=>h.2;have e:=dQ (p:=λi=>decide (hs[i]?=some i)&&th i) (a:=r) (by rw[Ao J,o];rfl) (l:=List.range n) BS (AS.mpr (by have:=ze J;omega));have z:(List.range n).countP (λj=>(decide (hs[j]?=some j)&&th j)&&!decide (j=r))=0:=by omega
 by_cases c:s=r
 ·exact⟨r,t,c▸u⟩
 ·exact absurd (by rw[Ao st,ts,Aq c];rfl) (List.countP_eq_zero.mp z s (AS.mpr (by have:=ze st;omega)))
def CmT(ks:List (Option Kn))(ps:List (Nat×Nat))(es:List Nat):Prop:=∀R:Nat->Nat->Prop,(∀a,R a a)->(∀a b,R a b->R b a)->(∀a b c,R a b->R b c->R a c)->(∀x∈ps,R x.1 x.2)->
 (∀p∈es,∀e i j,ks[p]?=some (some (Kn.nd e i j))->R i j->R p i)->∀a b,bT ks a=true->bT ks b=true->R a b
structure CI(ks:List (Option Kn))(ps:List (Nat×Nat))(es:List Nat):Prop where
 inp:aip ks ps
 nds:∀p∈es,∃e i j,ks[p]?=some (some (Kn.nd e i j))/\bT ks i=true/\bT ks j=true
 ex:∃z,bT ks z=true
def CI.ndAt{ps:List (Nat×Nat)}{es:List Nat}(H:CI ks ps es):∀p∈es,ao4 ks ks.length p:=λp J=>by obtain⟨e,i,j,I,U,g⟩:=H.nds p J;exact⟨e,i,j,I,ze I,km U,km g⟩
structure aol(L:qm)(a l c:Addr)(ks:List (Option Kn))(lk ct:List (Nat×Nat)):Prop where
 ha:L a=some (.lst (w6 ks))
 hl:L l=some (.lst (qu lk))
 hc:L c=some (.lst (qu ct))
 z1:ks.length<=1000
 z2:lk.length<=1000
 z3:ct.length<=1000
 in_:CI ks (v4 ks lk ct) (xh true ks)
def RtX(ks:List (Option Kn))(lk ct:List (Nat×Nat)):Prop:=(v4 ks lk ct).length+(xh true ks).length+1=(za ks).length/\CmT ks (v4 ks lk ct) (xh true ks)
def jM:jx:=λys L Q=>∃a l c ks lk ct,ys=[ay a l c]/\aol L a l c ks lk ct/\∀r,(r=true↔RtX ks lk ct)->Q (.bl r) L
end L3
namespace L2
open PySem
theorem aln(hu:X.A.units+128<cLine):aC X (compareOp .In) (λx y H Q=>∃l xs,∃ds:List Da,∃e,∃n m:Nat,y=.ref l/\H l=some (.lst xs)/\n<=126/\Paired (k7 X.K H n) xs ds/\k7 X.K H m x e/\(∀u∈xs,∃a,u=.ref a)/\(∀d∈ds,∀d'∈ds,Da.eq d d'=true->Da.eq d e=Da.eq d' e)/\Q (.bl (ds.any λd=>Da.eq d e)) H):=by
 classical
 intro a0 s σ H x y v u Q I rx ry h;obtain⟨l,xs,ds,e,n,m,rfl,hH,hn,T,re,rf,cg,q⟩:=h;cases ry;obtain⟨z,U,nn,r,hl,eo⟩:=I.lstM hH;have l2:U.length=xs.length:=r.length.symm
 let f:Value->Bool:=λw=>match w with
  |.ref a=>decide (∃(k:Nat) (d:Da),xs[k]?=some (V.ref a)/\ds[k]?=some d/\Da.eq d e=true)
  |_=>false
 have g:∀k w,U[k]?=some w->∃(a:Addr) (d:Da),w=Value.ref a/\xs[k]?=some (V.ref a)/\ds[k]?=some d/\k7 X.K H n (V.ref a) d:=λk w j=>by have hk:=(AU.mp j).1;have ex:=Aj (by omega:k<xs.length);obtain⟨d,J,rd⟩:=Words.Paired.getP T ex;obtain⟨u',o,p⟩:=Words.Paired.getP r ex;rw[j] at o;cases o;obtain⟨a,ea⟩:=rf _ (Az ex);rw[ea] at ex rd p;exact⟨a,d,p,ex,J,rd⟩
 have fv:∀{k a d},xs[k]?=some (V.ref a)->ds[k]?=some d->k7 X.K H n (V.ref a) d->f (Value.ref a)=Da.eq d e:=λ{k a d} ex J rd=>by
  cases h:Da.eq d e with
  |true=>exact Ao ⟨k,d,ex,J,h⟩
  |false=>
   refine Aq λ⟨k',d',h1,h2,h3⟩=>?_;have:=cg d (Az J) d' (Az h2) (lO I n rd (EI T h1 h2));rw[h,h3] at this;cases this
 refine SeqAt.in_listAt f ⟨_,eo,rfl,nn,rfl⟩ (λw hw=>?_) ?_
 ·obtain⟨k,j⟩:=BW (show w∈U by simpa using hw);obtain⟨a,d,rfl,ex,J,rd⟩:=g k w j;rw[fv ex J rd];exact jS (A:=X.A.in1) I n (by show X.A.units+1+n<cLine;omega) rd re rfl rx
 ·refine⟨.bl _,H,I,?_,q⟩;have:U.toArray.any f=ds.any λd=>Da.eq d e:=by
   rw[List.any_toArray,Bs,DZ,DZ];constructor
   ·rintro⟨w,hw,C⟩;obtain⟨k,j⟩:=BW hw;obtain⟨a,d,rfl,ex,J,rd⟩:=g k w j;rw[fv ex J rd] at C;exact⟨d,Az J,C⟩
   ·rintro⟨d,hd,C⟩;obtain⟨k,J⟩:=BW hd;have lp:=L3.pair_len T;have hk:=(AU.mp J).1;have ei:=Aj (by omega:k<U.length);obtain⟨a,d',ew,ex,t,rd⟩:=g k _ ei;rw[J] at t;cases t;exact⟨_,Az ei,by rw[ew,fv ex J rd];exact C⟩
  rw[this];rfl
end L2
namespace L3
open PySem L2
def ahf(x y:Y)(L:qm)(Q:YK):Prop:=match y with
 |.ref a=>dr L a λys=>∃ps:List (Nat×Nat),∃p,x=qC p/\ys=qu ps/\Q (.bl (decide (p∈ps))) L
 |_=>False
def aix(U:X.A.units+128<cLine):aC X (compareOp .In) (iO X.g3 ahf):=ES (aln U) λx y H Q x3 y3 L Q3 rx ry J z k=>by
 unfold ahf at z;split at z
 ·rename_i a;obtain⟨zs,e,g,p,rfl,rfl,z⟩:=vq z;obtain⟨us,e2,r⟩:=J a _ e;have both:∀{l:List Y} {o:List Da} {I:List V},Paired (ju L 1) l o->ve X.g3 H l I->Paired (k7 X.K H 1) I o:=by
   intro l o I p
   induction p generalizing I with
   |nil=>intro q;cases (show I=[] from q);exact .nil
   |cons h t ih=>
    rintro⟨x,a0,rfl,q1,q2⟩;exact .cons (ju.rep J h q1) (ih q2)
  have T:=both (mL g) r;have ea:((g.map dw).any λd=>Da.eq d (dw p))=decide (p∈g):=by
   rw[List.any_map,Bs,DZ,BL];constructor
   ·rintro⟨q,hq,h⟩;have h:Da.eq (dw q) (dw p)=true:=h;rw[fY] at h;exact of_decide_eq_true h▸hq
   ·exactλh=>⟨p,h,by show Da.eq (dw p) (dw p)=true;rw[fY];exact Ao rfl⟩
  refine⟨a,us,_,_,1,1,ry,e2,by decide,T,ju.rep J (gY p) rx,λu U=>?_,λd hd d' C h=>?_,?_⟩
  ·obtain⟨j,ej⟩:=BW U;obtain⟨d,ed,rd⟩:=Words.Paired.getP T ej;rw[An] at ed;obtain⟨q,_,rfl⟩:=Ay.mp ed;rcases rd with⟨h,_⟩|⟨b,_,_,h,_⟩|⟨b,_,_,h,_⟩
   ·cases h
   ·exact⟨b,h⟩
   ·exact⟨b,h⟩
  ·obtain⟨q,_,rfl⟩:=BE.mp hd;obtain⟨q',_,rfl⟩:=BE.mp C;rw[fY] at h;rw[of_decide_eq_true h]
  ·rw[ea];exact k _ _ _ _ (ED _) J (by rfl) z
 ·exact z.elim
open PySem L2 Words
def aeo(I:jx)(p1:jx)(p2:jx):ww:=(ji (zd I (qf (x9 0 0) (qf (zd p2 (aI (qa 0))) (qf (zd p1 (aI (qa 0))) qx)))))
def ao5(a s:Nat):(if s=a then a else s)=s:=by split<;>simp_all
abbrev vZ:=Bool×Nat×Nat
def stY:vZ->Y
 |(false,p,q)=>.tup [.str "join",.int (p:Int),.int (q:Int)]
 |(true,p,_)=>.tup [.str "fold",.int (p:Int)]
def iA(I:List vZ):List Y:=I.map stY
def ax(I:List vZ):(iA I).length=I.length:=Af ..
def aer(a b:List vZ):iA (a++b)=iA a++iA b:=AD ..
def yi(a:List vZ)(x:vZ):iA (a++[x])=iA a++[stY x]:=AD ..
def lC(I:List vZ):List (Nat×Nat):=I.map (·.2)
def StK(ks:List (Option Kn))(ps:List (Nat×Nat))(es:List Nat)(m:Nat->Nat)(p q:Nat):Bool->Prop
 |false=>(p,q)∈ps
 |true=>p∈es/\∃e j,ks[p]?=some (some (Kn.nd e q j))/\m q=m j
def ale(ks:List (Option Kn))(ps:List (Nat×Nat))(es:List Nat)(I:List vZ):Prop:=∀k b p q,I[k]?=some (b,p,q)->kB (lC (I.take k)) id p≠kB (lC (I.take k)) id q/\StK ks ps es (kB (lC (I.take k)) id) p q b
structure uw(ks:List (Option Kn))(ps:List (Nat×Nat))(es:List Nat)(ss:List vZ)(hs:List Nat):Prop where
 ok:ale ks ps es ss
 lb:∀x y,x<hs.length->y<hs.length->(kB (lC ss) id x=kB (lC ss) id y↔o7 hs x y)
def uw.nil(ks:List (Option Kn))(ps:List (Nat×Nat))(es:List Nat)(n:Nat):uw ks ps es [] (List.range n):=⟨λk b p q h=>by simp at h,λx y I J=>by
 rw[A5] at I J;constructor
 ·intro h;have h:x=y:=h;subst h;have e:(List.range n)[x]?=some x:=BZ I;exact⟨x,.root e,.root e⟩
 ·intro h;exact lg (R:=λa b=>a=b) ⟨λ_=>rfl,λh=>h.symm,λh k=>h.trans k⟩ n x y h⟩
def uw.same{ps:List (Nat×Nat)}{es:List Nat}{I:List vZ}(G:uw ks ps es I hs)(J:fe rk hs)(U:mn.length=hs.length)(t:∀x s,wz hs x s->wz mn x s):uw ks ps es I mn:=⟨G.ok,λx y g j=>by obtain⟨u,tu⟩:=J.rep' (i:=x) (by lia);obtain⟨v,tv⟩:=J.rep' (i:=y) (by lia);exact(G.lb x y (by lia) (by lia)).trans ⟨gy t x y,m8 t tu tv⟩⟩
def uw.step{ps:List (Nat×Nat)}{es:List Nat}{I:List vZ}{a b q:Nat}(G:uw ks ps es I hs)(hr:fe rk hs)(hl:mn.length=hs.length)(r:∀i s,wz hs i s->wz mn i (if s=a then b else s))(ta:wz hs p a)(tb:wz hs q b)(T:a≠b)(hk:StK ks ps es (kB (lC I) id) p q t):uw ks ps es (I++[(t,p,q)]) mn:=by
 have hp:=ta.lt;have hq:=tb.lt;have key:∀{x y g l},x<hs.length->y<hs.length->wz hs x g->wz hs y l->(kB (lC I) id x=kB (lC I) id y↔g=l):=λ{x y g l} hx hy j ty=>(G.lb x y hx hy).trans ⟨λ⟨s,u,v⟩=>(j.uniq u).trans (ty.uniq v).symm,λe=>⟨g,j,e▸ty⟩⟩;refine⟨λk b' p' q' h=>?_,λx y hx hy=>?_⟩
 ·by_cases c:k<I.length
  ·rw[AB c] at h;rw[BU (BD c)];exact G.ok k b' p' q' h
  ·have hb:=ze h;rw[Ac,Bh] at hb;have ek:k=I.length:=by omega
   subst ek;rw[Am (Al _),Cy] at h;cases h;rw[List.take_left' rfl];exact⟨λe=>T ((key hp hq ta tb).mp e),hk⟩
 ·have e:kB (lC (I++[(t,p,q)])) id=mk1 (kB (lC I) id) (p,q):=by unfold lC kB;rw[AD,List.foldl_append];rfl
  rw[e];have J:x<hs.length:=by lia
  have U:y<hs.length:=by lia
  obtain⟨g,j⟩:=hr.rep' J;obtain⟨l,ty⟩:=hr.rep' U;have o:=key J hp j ta;have C:=key U hp ty ta;have cn:o7 mn x y↔(if g=a then b else g)=if l=a then b else l:=⟨λ⟨s,u,v⟩=>((r _ _ j).uniq u).trans ((r _ _ ty).uniq v).symm,λe=>⟨_,r _ _ j,e▸r _ _ ty⟩⟩
  rw[cn];unfold mk1;by_cases c:g=a<;>by_cases d:l=a
  ·rw[Aw (o.mpr c),Aw (C.mpr d),Aw c,Aw d];exact⟨λ_=>rfl,λ_=>rfl⟩
  ·rw[Aw (o.mpr c),As λz=>d (C.mp z),Aw c,As d];exact key hq U tb ty
  ·rw[As λz=>c (o.mp z),Aw (C.mpr d),As c,Aw d];exact key J hq j tb
  ·rw[As λz=>c (o.mp z),As λz=>d (C.mp z),As c,As d];exact key J U j ty
def gW(C:Addr):jx:=λys L Q=>∃o hp j,∃hs:List Nat,∃ps:List (Nat×Nat),∃ks:List (Option Kn),∃es:List Nat,ys=[.ref o,.ref j]/\L o=some (.ins C (mJ hp))/\L hp=some (.lst (nY hs))/\L j=some (.lst (qu ps))/\j≠hp/\(∃rk,fe rk hs)/\(∀x∈ps,x.1<hs.length/\x.2<hs.length)/\ps.length<=10000/\uw ks ps es [] hs/\
 ∀s I hE,L s=none->Gd hs hE->I.length<=ps.length->I.length+dm hE=dm hs->JnR hs hE ps->uw ks ps es I hE->Q (.ref s) (qe (qe L hp (.lst (nY hE))) s (.lst (iA I)))
theorem wW :∀ys L Q,gW C ys L Q->xr (qV C (iK C)) 5 ys L Q:=by
 rintro ys L Q ⟨o,U,j,r,t,ks,es,rfl,ho,T,hj,a5,ab,ac,hz,G0,q⟩;intro s l;have aL:o≠U:=aex ho T (λe=>by cases e);have ba:o≠s:=xn ho l;have a4:U≠s:=xn T l;have a0:j≠s:=xn hj l;have fo:∀A Z,(qe (qe L U A) s Z) o=some (.ins C (mJ U)):=λA Z=>(qb ba).trans ((qb aL).trans ho);have fh:∀A Z,(qe (qe L U A) s Z) U=some A:=λA Z=>(qb a4).trans q9;have fj:∀A Z,(qe (qe L U A) s Z) j=some (.lst (qu t)):=λA Z=>(qb a0).trans ((qb a5).trans hj);have e0:qe L s (.lst [])=qe (qe L U (.lst (nY r))) s (.lst []):=by rw[cW T]
 refine l9 (ys:=qu t) (w4 ((qb a0).trans hj)) (λi τ L'=>∃I J c3 c4,τ=[some (.ref o),some (.ref j),some (.ref s),c3,c4]/\L'=qe (qe L U (.lst (nY I))) s (.lst (iA J))/\Gd r I/\J.length<=i/\J.length+dm I=dm r/\JnR r I (t.take i)/\uw ks t es J I) ⟨r,[],_,_,rfl,e0,⟨rfl,ab⟩,Al _,Di _,⟨λ_ _ z=>z,(λx hx=>by cases hx),λ_ _ _ F=>F⟩,G0⟩ ?_ ?_ ?_
 ·rintro i τ L' ⟨I,J,c3,c4,rfl,rfl,_⟩;rw[fj,qb a0,hj]
 ·rintro i y τ L' hy ⟨I,J,c3,c4,rfl,rfl,⟨g1,rk,g2⟩,a1,a2,jn,G⟩;rw[An] at hy;obtain⟨⟨p,q'⟩,ex,rfl⟩:=Ay.mp hy;obtain⟨h1,h2⟩:=ac _ (Az ex);have h1:p<r.length:=h1;have h2:q'<r.length:=h2;have hi:=ze ex;obtain⟨a,ta⟩:=g2.rep' (i:=p) (by lia);obtain⟨b,tb⟩:=g2.rep' (i:=q') (by lia);refine wx (fo _ _) ⟨rfl,mI,o,U,I,p,q',a,b,_,_,rfl,rfl,rfl,fo _ _,fh _ _,⟨rk,g2⟩,ta,tb,by lia,by lia,λa3 l2 k2 r2 e1 e2=>?_⟩;rw[jF (AH a4),jz];have nw:JnR r a3 (t.take (i+1)):=by
   have et:t.take (i+1)=t.take i++[(p,q')]:=by rw[Bf,ex];rfl
   rw[et];exact jn.snoc g2 l2 r2 ta tb
  by_cases c:a=b
  ·refine aF (by rw[Ao c];rfl) ⟨_,EC _,a3,J,_,_,rfl,rfl,⟨by lia,k2⟩,by exact afc,by rw[e1 c];exact a2,nw,G.same g2 l2 λx s z=>by have:=r2 x s z;rw[c,ao5] at this;exact this⟩
  ·refine ap (by rw[Aq c];rfl) ?_;have:=e2 c;refine qd q9 (qo q9 ⟨A8 (by rw[ax];lia:(iA J).length<=10000) (by decide),_,EC _,a3,J++[(false,p,q')],_,_,rfl,by rw[yi];exact jz,⟨by lia,k2⟩,?_,?_,nw,G.step g2 l2 r2 ta tb c (Az ex)⟩)
   ·rw[Ac,Bh];exact uM
   ·rw[Ac,Bh];lia
 ·rintro τ L' ⟨I,J,c3,c4,rfl,rfl,g,a1,a2,jn,G⟩;rw[Af] at a1 jn;rw[Bc] at jn;exact k6 (q s J I l g a1 a2 jn G)
def gU(C:Addr):jx:=λys L Q=>∃o hp a b,∃hs:List Nat,∃ks:List (Option Kn),∃es:List Nat,∃ps:List (Nat×Nat),∃J:List vZ,ys=[.ref o,.ref a,.ref b]/\L o=some (.ins C (mJ hp))/\L hp=some (.lst (nY hs))/\L a=some (.lst (w6 ks))/\L b=some (.lst (nY es))/\a≠hp/\b≠hp/\(∃rk,fe rk hs)/\(∀p∈es,ao4 ks hs.length p)/\hs.length<=1000/\uw ks ps es J hs/\
 ∀s I hE,L s=none->Gd hs hE->I.length+dm hE=dm hs->(FoR ks hs hE es/\ai9 ks hE es)->uw ks ps es (J++I) hE->Q (.ref s) (qe (qe L hp (.lst (nY hE))) s (.lst (iA I)))
theorem xH :∀ys L Q,gU C ys L Q->xr (sC C (lh C) (iK C)) 6 ys L Q:=by
 rintro ys L Q ⟨o,l,a,b,hs,ks,es,ps,s1,rfl,ho,a4,ha,hb,ab,be,bg,ac,bm,G0,q⟩;intro s a0;have bh:o≠l:=aex ho a4 (λe=>by cases e);have bi:o≠s:=xn ho a0;have a5:l≠s:=xn a4 a0;have fo:∀A Z,(qe (qe L l A) s Z) o=some (.ins C (mJ l)):=λA Z=>(qb bi).trans ((qb bh).trans ho);have fh:∀A Z,(qe (qe L l A) s Z) l=some A:=λA Z=>(qb a5).trans q9;have fa:∀A Z,(qe (qe L l A) s Z) a=some (.lst (w6 ks)):=λA Z=>(qb (xn ha a0)).trans ((qb ab).trans ha);have fb:∀A Z,(qe (qe L l A) s Z) b=some (.lst (nY es)):=λA Z=>(qb (xn hb a0)).trans ((qb be).trans hb);have e0:qe L s (.lst [])=qe (qe L l (.lst (nY hs))) s (.lst []):=by rw[cW a4]
 refine⟨λm τ L'=>∃j t,∃bf:Int,∃c5,τ=[some (.ref o),some (.ref a),some (.ref b),some (.ref s),some (.int bf),c5]/\L'=qe (qe L l (.lst (nY j))) s (.lst (iA t))/\Gd hs j/\t.length+dm j=dm hs/\(FoR ks hs j es/\(bf<(t.length:Int)\/ai9 ks j es))/\m=2*dm j+(if bf<(t.length:Int) then 1 else 0)/\uw ks ps es (s1++t) j,⟨_,hs,[],-1,_,rfl,e0,⟨rfl,bg⟩,Di _,⟨⟨λ_ _ z=>z,λ_ _ _ F=>F⟩,.inl (by decide)⟩,rfl,by rw[AQ];exact G0⟩,?_⟩;rintro m τ L' ⟨j,t,bf,c5,rfl,rfl,g,aL,⟨mo,sh⟩,rfl,GG⟩;refine qd q9 ?_;show xt (decide (bf<((iA t).length:Int))) _ _;rw[ax];refine zo (λc=>?_) (λc=>k6 (q s t j a0 g aL ⟨mo,sh.resolve_left c⟩ GG));refine⟨_,λ_ _ h=>h,qd q9 ?_⟩;rw[ax];refine l9 (ys:=nY es) (w4 (fb _ _)) (λi τ L'=>∃J I c5,τ=[some (.ref o),some (.ref a),some (.ref b),some (.ref s),some (.int (t.length:Int)),c5]/\L'=qe (qe L l (.lst (nY J))) s (.lst (iA I))/\Gd hs J/\I.length+dm J=dm hs/\t.length<=I.length/\(FoR ks hs J es/\(t.length<I.length\/ai9 ks J (es.take i)))/\uw ks ps es (s1++I) J) ⟨j,t,_,rfl,rfl,g,aL,Al _,⟨mo,.inr λp l=>by cases l⟩,GG⟩ ?_ ?_ ?_
 ·rintro i τ L' ⟨J,I,c5,rfl,rfl,_⟩;rw[fb,fb]
 ·rintro i y τ L' hy ⟨J,I,c5,rfl,rfl,⟨g1,rk,g2⟩,a3,ba,⟨T,a2⟩,G⟩;obtain⟨p,ep,rfl⟩:=dZ hy;obtain⟨e,i',j',ek,h1,h2,h3⟩:=ac p (Az ep);have a1:eG (w6 ks) (p:Int)=some (gb (some (.nd e i' j'))):=vj (by rw[An,ek];rfl);refine⟨o,l,a,J,ks,p,i',j',e,_,rfl,rfl,fo _ _,fh _ _,fa _ _,ab,⟨rk,g2⟩,ek,by lia,by lia,by lia,λri rj rp bb ti tj tp ⟨l3,k3⟩ U n3=>?_⟩;rw[jF (AH a5),jz];cases cc:(decide (ri=rj)&&!decide (ri=rp)) with
  |false=>
   refine⟨_,EC _,bb,I,_,rfl,rfl,⟨by lia,k3⟩,by lia,ba,⟨⟨T.1.trans (gy U),λR E c F=>pZ g2 l3 U (T.2 R E c F)⟩,a2.imp id λsh=>?_⟩,G.same g2 l3 U⟩;have et:es.take (i+1)=es.take i++[p]:=by rw[Bf,ep];rfl
   rw[et];intro x hx f u v ex cx;rcases Ak.mp hx with hx|hx
   ·obtain⟨f',u',v',bc,_,hu,hv⟩:=ac x (Bx hx);rw[ex] at bc;cases bc;obtain⟨ru,tu⟩:=g2.rep' (i:=u) (by lia);obtain⟨rv,tv⟩:=g2.rep' (i:=v) (by lia);exact gy U _ _ (sh x hx f u v ex (m8 U tu tv cx))
   ·rw[Ap.mp hx] at ex ⊢;rw[ek] at ex;cases ex;obtain⟨r,c3,c4⟩:=cx;have e5:=(U _ _ ti).uniq c3;have e6:=(U _ _ tj).uniq c4;rw[Ao (e5.trans e6.symm),DQ] at cc;by_cases e7:ri=rp
    ·exact⟨ri,e7▸U _ _ tp,U _ _ ti⟩
    ·rw[Aq e7] at cc;cases cc
  |true=>
   have c2:ri≠rp:=by have:=(AR _ _▸cc).2;intro z;rw[Ao z] at this;cases this
   refine wx (fo _ _) ⟨rfl,mI,qd (fa _ _) (ql a1 ⟨o,l,bb,p,i',rp,ri,_,_,rfl,rfl,rfl,fo _ _,fh _ _,k3,U _ _ tp,U _ _ ti,by lia,by lia,λbj l4 k4 r4 e1 e2=>?_⟩)⟩;rw[jF (AH a5),jz];have e3:=e2 (AH c2);have bn:=ac0 hs;have c1:ri=rj:=of_decide_eq_true (AR _ _▸cc).1;obtain⟨bp,bd⟩:=k3;have G3:=G.same g2 l3 U;refine qd q9 (qo q9 ⟨A8 (by rw[ax];lia:(iA I).length<=1000) (by decide),_,EC _,bj,I++[(true,p,i')],_,rfl,by rw[yi];exact jz,⟨by lia,k4⟩,?_,?_,⟨⟨(T.1.trans (gy U)).trans (lw r4),λR E c F=>?_⟩,.inl (by rw[Ac,Bh];exact uM)⟩,?_⟩)
   ·rw[Ac,Bh];lia
   ·rw[Ac,Bh];exact afc
   ·have F3:=pZ g2 l3 U (T.2 R E c F);exact qL bd l4 r4 (U _ _ tp) (U _ _ ti) E (c p (Az ep) e i' j' ek (F3 _ _ ⟨ri,U _ _ ti,c1▸U _ _ tj⟩)) F3
   ·rw[<-AE];exact G3.step bd l4 r4 (U _ _ tp) (U _ _ ti) (AH c2) ⟨Az ep,e,j',ek,(G3.lb _ _ (by lia) (by lia)).mpr ⟨ri,U _ _ ti,c1▸U _ _ tj⟩⟩
 ·rintro τ L' ⟨J,I,c5,rfl,rfl,g2,a3,ba,⟨T,a2⟩,G⟩;rw[wb,Bc] at a2;refine⟨_,EC _,2*dm J+(if ((t.length:Nat):Int)<(I.length:Int) then 1 else 0),?_,J,I,_,_,rfl,rfl,g2,a3,⟨T,a2.imp (λz=>by lia) id⟩,rfl,G⟩;rw[Aw c];split<;>lia
structure StF(ks:List (Option Kn))(ps:List (Nat×Nat))(es:List Nat)(ss:List vZ):Prop where
 ok:ale ks ps es ss
 jn:∀x∈ps,kB (lC ss) id x.1=kB (lC ss) id x.2
 fo:∀p∈es,∀e i j,ks[p]?=some (some (Kn.nd e i j))->kB (lC ss) id i=kB (lC ss) id j->kB (lC ss) id p=kB (lC ss) id i
 one:(∀a b,bT ks a=true->bT ks b=true->kB (lC ss) id a=kB (lC ss) id b)↔CmT ks ps es
 len:ss.length+1=(za ks).length↔CmT ks ps es
 le:ss.length<=ks.length
def fP(C:Addr):jx:=λys L Q=>∃a j b,∃ks:List (Option Kn),∃ps:List (Nat×Nat),∃es:List Nat,ys=[.ref a,.ref j,.ref b]/\L a=some (.lst (w6 ks))/\L j=some (.lst (qu ps))/\L b=some (.lst (nY es))/\ks.length<=1000/\ps.length<=10000/\CI ks ps es/\
 ∀I p,L p=none->StF ks ps es I->Q (.ref p) (qe L p (.lst (iA I)))
theorem abi :∀ys L Q,fP C ys L Q->xr (wL C (mY C) (gW C) (gU C)) 4 ys L Q:=by
 rintro ys L Q ⟨a,j,b,J,ps,es,rfl,ha,hj,hb,hz,bb,H,q⟩;refine qd ha λx t=>⟨x,J.length,_,rfl,by rw[Af],q9,hz,λI a3=>⟨rfl,?_⟩⟩;have a5:x≠I:=xn q9 a3;have U:L I=none:=jo a3;have T:(qe (qe (qe L x (.ins C [])) I (.lst (nY (List.range J.length)))) x (.ins C (mJ I))) x=some (.ins C (mJ I)):=q9;have a4:(qe (qe (qe L x (.ins C [])) I (.lst (nY (List.range J.length)))) x (.ins C (mJ I))) I=some (.lst (nY (List.range J.length))):=(qb (AH a5)).trans q9;have sub:qj L (qe (qe (qe L x (.ins C [])) I (.lst (nY (List.range J.length)))) x (.ins C (mJ I))):=(((By t).trans (By a3)).upd t);generalize qe (qe (qe L x (.ins C [])) I (.lst (nY (List.range J.length)))) x (.ins C (mJ I))=L2 at T a4 sub;have ln:(List.range J.length).length=J.length:=A5;refine⟨x,I,j,List.range J.length,ps,J,es,rfl,T,a4,sub _ _ hj,xn hj U,⟨_,adw _⟩,λy hy=>by rw[ln];exact⟨km (H.inp y hy).1,km (H.inp y hy).2⟩,bb,uw.nil _ _ _ _,λs1 a0 ab n1 g1 z1 r1 m1 G1=>?_⟩;have a1:I≠s1:=xn a4 n1;refine⟨x,I,a,b,ab,J,es,ps,a0,rfl,(qb (xn T n1)).trans ((qb a5).trans T),(qb a1).trans q9,(qb (xn (sub _ _ ha) n1)).trans ((qb (xn ha U)).trans (sub _ _ ha)),(qb (xn (sub _ _ hb) n1)).trans ((qb (xn hb U)).trans (sub _ _ hb)),xn ha U,xn hb U,g1.2,λp I=>by rw[g1.1,ln];exact H.ndAt p I,by rw[g1.1,ln];exact hz,G1,λs2 ac g n2 g2 r2 m2 G2=>?_⟩;have e1:(qe (qe (qe (qe L2 I (.lst (nY ab))) s1 (.lst (iA a0))) I (.lst (nY g))) s2 (.lst (iA ac))) s1=some (.lst (iA a0)):=(qb (xn q9 n2)).trans ((qb (AH a1)).trans q9);have l1:=ac0 (List.range J.length);rw[ln] at l1;have bf:=aq8;refine⟨_,_,e1,q9,by rw[ax,ax];lia,?_⟩;rw[<-aer];intro p4 bc;have bd:L2 p4=none:=jo (jo (jo (jo bc)));have aL:L p4=none:=dB sub bd;refine bW (L:=qe L p4 (.lst (iA (a0++ac)))) (λy u e=>?_) (q _ p4 aL ?_)
 rotate_left
 ·obtain⟨l2,bg,k2⟩:=g2;have l:g.length=J.length:=by rw[l2,g1.1,ln]
  rw[abe] at r1;have a2:∀c:CmT J ps es,∀a b,a<J.length->b<J.length->bT J a=true->bT J b=true->o7 g a b:=λc=>CT.all ⟨H.inp,H.nds,c,H.ex⟩ l k2 (λx t=>m2.1.1 _ _ (m1.2.1 x t)) m2.2;obtain⟨z,tz⟩:=H.ex;have F:∀R,Eqv R->(∀x∈ps,R x.1 x.2)->FoC J es R->pG R g:=λR E I hf=>m2.1.2 R E hf (m1.2.2 R E I (lg E _));have sep:=F _ (amy J) (λx t=>.inr (H.inp x t)) λp I e i j ek _=>.inr ⟨bL ek,by obtain⟨e',i',j',o,hi,_⟩:=H.nds p I;rw[ek] at o;cases o;exact hi⟩;have ba:=gh (λ_=>true) (bT J) (List.range J.length);rw[List.countP_eq_length.mpr (λ_ _=>rfl),A5] at ba;simp only[DQ] at ba;have sd:(∀a b,bT J a=true->bT J b=true->o7 g a b)->CmT J ps es:=λh R rf sy tr I hf a b r tb=>F R ⟨rf,λh=>sy _ _ h,λh k=>tr _ _ _ h k⟩ I hf a b (h a b r tb);refine⟨G2.ok,λx t=>?_,λp I e i j ek z=>?_,?_,?_,by rw[Ac];lia⟩
  ·exact(G2.lb _ _ (by rw[l];exact km (H.inp x t).1) (by rw[l];exact km (H.inp x t).2)).mpr (m2.1.1 _ _ (m1.2.1 x t))
  ·obtain⟨e',i',j',o,hi,hj⟩:=H.nds p I;rw[ek] at o;cases o;have li:=km hi;have lj:=km hj;have lp:=ze ek;exact(G2.lb _ _ (by lia) (by lia)).mpr (m2.2 p I e i j ek ((G2.lb _ _ (by lia) (by lia)).mp z))
  ·constructor
   ·exactλh=>sd λa b r tb=>(G2.lb _ _ (by have:=km r;lia) (by have:=km tb;lia)).mp (h a b r tb)
   ·exactλc a b r tb=>(G2.lb _ _ (by have:=km r;lia) (by have:=km tb;lia)).mpr (a2 c a b (km r) (km tb) r tb)
  rw[Ac,aaf];refine⟨λz R rf sy tr I hf a b r tb=>F R ⟨rf,λh=>sy _ _ h,λh k=>tr _ _ _ h k⟩ I hf a b (yx l k2 sep (by lia) (km r) (km tb) r tb),λc=>?_⟩;have rt:=abh l k2 sep (a2 c) (km tz) tz;lia
 by_cases c:y=p4
 ·subst c;rw[q9] at e ⊢;exact e
 ·rw[qb c] at e;have e2:=sub _ _ e;have be:L2 s2=none:=jo (jo n2);rw[qb c,qb (xn e2 be),qb (xn e U),qb (xn e2 n1),qb (xn e U)];exact e2
def sI:jx:=λys L Q=>∃a j b,∃ks:List (Option Kn),∃ps:List (Nat×Nat),∃es:List Nat,ys=[.ref a,.ref j,.ref b]/\L a=some (.lst (w6 ks))/\L j=some (.lst (qu ps))/\L b=some (.lst (nY es))/\ks.length<=1000/\ps.length<=10000/\CI ks ps es/\∀r,(r=true↔ps.length+es.length+1=(za ks).length/\CmT ks ps es)->Q (.bl r) L
def agl :∀ys L Q,sI ys L Q->xr (fc iE (fP C)) 4 ys L Q:=by rintro ys L Q ⟨a,j,b,J,o,p,rfl,r,t,T,hz,U,H,q⟩;refine⟨a,J,rfl,r,hz,λp1 g=>qd q9 ?_⟩;have I:qj L (qe L p1 (.lst (nY (za J)))):=By g;refine qd (I _ _ t) (qd (I _ _ T) ?_);show xt (decide (((qu o).length:Int)+((nY p).length:Int)=((nY (za J)).length:Int)-1)) _ _;rw[wb,wb,Af];refine zo (λc=>?_) (λc=>bW I (q _ ⟨(λz=>by cases z),λz=>absurd (by lia) c⟩));refine⟨a,j,b,J,o,p,rfl,I _ _ r,I _ _ t,I _ _ T,hz,U,H,λss p2 l hq=>qd q9 ?_⟩;show gc Q (.bl (decide (((iA ss).length:Int)=((za J).length:Int)-1))) _;rw[ax];refine bW (I.trans (By l)) (q _ ⟨λz=>⟨by lia,hq.len.mp (by have:=of_decide_eq_true z;lia)⟩,λz=>Ao ?_⟩);have:=hq.len.mpr z.2;omega
def abg:∀ys L Q,jM ys L Q->xr (u4 sI hV iQ) 1 ys L Q:=by rintro ys L Q ⟨a,l,c,ks,lk,ct,rfl,W,q⟩;refine⟨a,l,c,ks,lk,ct,rfl,W.ha,W.hl,W.hc,W.z1,W.z2,W.z3,λU J=>?_⟩;have g:qj L (qe L U (.lst (qu (v4 ks lk ct)))):=By J;refine⟨a,l,c,ks,rfl,g _ _ W.ha,W.z1,λp I=>?_⟩;have j:=g.trans (By (o:=.lst (nY (xh true ks))) I);have C:=pO (ks:=ks) (lk:=lk) (ct:=ct);have:=W.z1;have:=W.z2;have:=W.z3;exact⟨a,U,p,ks,_,_,rfl,j _ _ W.ha,By I _ _ q9,q9,W.z1,by lia,W.in_,λr t=>bW j (q r t)⟩
def jT:jx:=λys L Q=>∃a l c ks lk ct,ys=[ay a l c]/\aol L a l c ks lk ct/\∀I p,L p=none->StF ks (v4 ks lk ct) (xh true ks) I->Q (.ref p) (qe L p (.lst (iA I)))
def aa4 :∀ys L Q,jT ys L Q->xr (aeo (fP C) hV iQ) 1 ys L Q:=by rintro ys L Q ⟨a,l,c,ks,lk,ct,rfl,W,q⟩;refine⟨a,l,c,ks,lk,ct,rfl,W.ha,W.hl,W.hc,W.z1,W.z2,W.z3,λj U=>?_⟩;have p:qj L (qe L j (.lst (qu (v4 ks lk ct)))):=By U;refine⟨a,l,c,ks,rfl,p _ _ W.ha,W.z1,λr I=>?_⟩;have g:=p.trans (By (o:=.lst (nY (xh true ks))) I);have jl:=pO (ks:=ks) (lk:=lk) (ct:=ct);have:=W.z1;have:=W.z2;have:=W.z3;exact⟨a,j,r,ks,_,_,rfl,g _ _ W.ha,By I _ _ q9,q9,W.z1,by lia,W.in_,λt T J F=>bW (qj.put (g.trans (By J)) q9) (q t T (g.none J) F)⟩
def agc :∀ys L Q,aij Pt ys L Q->xr (oY eY lL lV dH fU (fS Pt)) 11 ys L Q:=by
 rintro ys L Q ⟨cy,ns,s,m,room,rfl,be,bf,a4,hP,q⟩;have big:=bg_;refine⟨s,5,16807,rfl,by decide,by decide,by decide,by decide,λv h0 h1=>?_⟩;refine⟨show(0:Int)<4 by decide,?_⟩;refine⟨λa0 C=>∃I:Nat,(I<=120/\I<=room)/\a0=[some cy,some (.int s),some (.int (I:Int)),some (.int m),some (.int v),some (.bl (decide (v % 4=1))),none,none,none,none,none]/\C=L,?_,?_⟩
 ·refine zo (λh=>?_) (λh=>?_)
  ·refine⟨min room 57,⟨by lia,by lia⟩,?_,rfl⟩;have e:min (room:Int) 57=((min room 57:Nat):Int):=by lia
   rw[<-e,Ao h];rfl
  ·exact⟨room,⟨a4,Al _⟩,by rw[Aq h];rfl,rfl⟩
 rintro a0 C ⟨I,⟨hr,cm⟩,rfl,rfl⟩;refine⟨cy,ns,s,I,rfl,be,bf,hr,λg J R E bg ok a1 tp kl=>?_⟩;have a5:J.length<=120:=by lia
 have tl:(j6 R).length=J.length:=by rw[tp.length_eq,A5]
 have tn:(j6 R).Nodup:=tp.nodup_iff.mpr BS;have ab:∀x∈j6 R,x<J.length:=λx hx=>AS.mp (tp.mem_iff.mp hx);have LI:=a1.lkI tn;obtain⟨cn,ac⟩:=a1.cuts tn;have cv:=a1.weight ok;have cx:cK (bR J) (jh R)<=120:=by lia
 have cl:=oC J (jh R);have aL:∀x∈jh R,x.1<J.length/\x.2<J.length:=λx hx=>⟨ab _ (ac _ (eQ hx).1).2,ab _ (ac _ (eQ hx).2).2⟩;have ll:2*(j4 R).length<=J.length:=by obtain⟨u,hu⟩:=ku R;have:=hu.length_eq;rw[Ac,vt] at this;lia
 have bh:∀x∈j4 R,x.1<J.length/\x.2<J.length:=λx hx=>by obtain⟨_,t,n,a,b⟩:=a1.links x hx;exact⟨ze a,ze b⟩
 have bi:j4 R≠[]:=by
  have:∀R:Ru,1<=(j4 R).length:=λR=>by induction R with|link p q=>exact Al _|ei r A ih=>exact ih|bo r A B ih _=>show 1<=(j4 A++j4 B).length;rw[Ac];exact al6|cu p q A B ih _=>show 1<=(j4 A++j4 B).length;rw[Ac];lia
  intro e;have:=this R;rw[e] at this;simp at this
 have s1:qj C (qe C g (.lst (jf J))):=By bg;have rd:=aY R;have rz:=dA R;refine⟨R,rfl,by lia,by lia,aM LI.nd,aM cn,λp hp=>by have:=(bh p hp).2;lia,λp hp=>by have:=(aL p hp).2;lia,by lia,by lia,λla j lk o ba bb bc pl cI pc cP=>?_⟩;have bj:g≠la:=xn q9 ba;have bm:g≠j:=xn q9 bb;have bd:(qe (qe C g (.lst (jf J))) la (.lst (qu lk))) j=none:=(qb (AH bc)).trans bb;have s2:qj C (qe (qe (qe C g (.lst (jf J))) la (.lst (qu lk))) j (.lst (qu o))):=(s1.trans (By ba)).trans (By bd);have g1:qe (qe (qe C g (.lst (jf J))) la (.lst (qu lk))) j (.lst (qu o)) g=some (.lst (jf J)):=(qb bm).trans ((qb bj).trans q9);have g2:qe (qe (qe C g (.lst (jf J))) la (.lst (qu lk))) j (.lst (qu o)) la=some (.lst (qu lk)):=(qb bc).trans q9;have g3:qe (qe (qe C g (.lst (jf J))) la (.lst (qu lk))) j (.lst (qu o)) j=some (.lst (qu o)):=q9;generalize qe (qe (qe C g (.lst (jf J))) la (.lst (qu lk))) j (.lst (qu o))=L1 at s2 g1 g2 g3 ⊢;have b0:(0:Int)<=v / 4 % 3:=Dw _ (by decide);have b1:v / 4 % 3<3:=DG _ (by decide);have rng:∃r:Nat,v / 4 % 3=(r:Int)/\r<3:=⟨(v / 4 % 3).toNat,by lia,by lia⟩;obtain⟨r,er,d0⟩:=rng;have a2:∀l2:List (Nat×Nat),(x6 l2).Perm (x6 (j4 R))->l2.length=(j4 R).length:=λl2 p=>by have:=p.length_eq;rw[vt,vt] at this;lia
 refine⟨⟨by decide,by decide⟩,show(0:Int)<3 by decide,⟨by lia,by lia⟩,?_⟩;refine yf (λi τ L2=>∃l xY bS,τ=[some cy,some (.int s),some (.int (I:Int)),some (.int m),some (.int v),some (.bl (decide (v % 4=1))),some (.ref g),some (zh R),some (.ref l),some (.ref j),bS]/\qj C L2/\L2 g=some (.lst (jf J))/\L2 l=some (.lst (qu xY))/\L2 j=some (.lst (qu o))/\LkI J xY/\(x6 xY).Perm (x6 (j4 R))) ⟨la,lk,_,rfl,s2,g1,g2,g3,LI.perm pl,cw pl⟩ ?_ ?_
 ·rintro i τ L2 hi ⟨l,xY,bS,rfl,s3,k1,k2,k3,I2,p2⟩;have l2:=a2 xY p2;refine⟨s,11+(0+(i:Int)),16807,rfl,by exact AY _,by omega,by decide,by decide,λv1 _ _=>?_⟩;refine⟨s,17+(0+(i:Int)),40692,rfl,by exact AY _,by omega,by decide,by decide,λv2 _ _=>?_⟩;refine⟨g,l,J,xY,v1,v2,rfl,k1,k2,I2,λe=>?_,by lia,by exact dG,?_,λD lk3 hD I3 l3 p3 dd=>?_⟩
  ·rw[e] at l2;exact bi (BV l2.symm)
  ·exact⟨_,EC _,l,xY,_,rfl,s3,k1,k2,k3,I2,p2⟩
  ·have bn:g≠D:=xn k1 hD;have bp:j≠D:=xn k3 hD;exact⟨_,EC _,D,lk3,_,rfl,s3.trans (By hD),(qb bn).trans k1,q9,(qb bp).trans k3,I3,p3.trans p2⟩
 rintro τ L2 ⟨l,xY,bS,rfl,s3,k1,k2,k3,I2,p2⟩;have l2:=a2 xY p2;have lc:o.length=(jh R).length:=pc.length_eq;have a3:∀x∈o,x.1<J.length/\x.2<J.length:=λx hx=>aL x (pc.mem_iff.mp hx);refine⟨λa0 L3=>∃kb U,a0=[some cy,some (.int s),some (.int (I:Int)),some (.int m),some (.int v),some (.bl (decide (v % 4=1))),some (.ref kb),some (zh R),some (.ref l),some (.ref j),bS]/\qj C L3/\L3 kb=some (.lst (w6 U))/\L3 l=some (.lst (qu xY))/\L3 j=some (.lst (qu o))/\(U=J.map some\/∃qs,mV J o qs []/\bF J qs J.length U),?_,?_⟩
 ·refine⟨⟨by decide,by decide⟩,show(0:Int)<2 by decide,?_⟩;refine zo (λh=>?_) (λh=>?_)
  ·refine⟨g,j,J,o,s,m,rfl,k1,k3,ok,a3,by rw[zF pc];exact dG,by exact dG,λD qs U hD B T=>?_⟩;exact⟨D,U,rfl,s3.trans (By hD),q9,(qb (xn k2 hD)).trans k2,(qb (xn k3 hD)).trans k3,.inr ⟨qs,B,T⟩⟩
  ·exact⟨g,J.map some,rfl,s3,by rw[tQ];exact k1,k2,k3,.inl rfl⟩
 rintro a0 L3 ⟨kb,U,rfl,s4,j1,j2,j3,ho⟩;have okO:uz U:=by
  rcases ho with rfl|⟨qs,B,T⟩
  ·exact oS ok
  ·exact T.okO ok
 have lo:U.length=J.length:=by
  rcases ho with rfl|⟨qs,B,T⟩
  ·exact Af ..
  ·exact T.len
 refine⟨kb,l,j,U,xY,o,s,_,rfl,j1,j2,j3,okO,by lia,s4 _ _ hP,aM I2.nd,λp hp=>⟨I2.lt p hp,?_⟩,by lia,pc.nodup_iff.mpr (aM cn),λp hp=>by rw[lo];exact a3 p hp,by lia,λf wd bq br wa bu bv L4 rn bw cc cg ck sl nw nl nc n1 n2 n3 e1 e2 e3=>?_⟩
 ·obtain⟨_,_,_,h⟩:=I2.at_ p hp;rw[lo];exact ze h
 ·refine k6 (q wa bu bv wd bq br L4 ⟨J,R,E,xY,o,U,f,ok,a1,tp,a5,I2,p2,pc,ho,rn,bw,cc,cg,ck⟩ ⟨f,λx k h=>?_⟩ (s4.trans sl) (s4.none nw) (s4.none nl) (s4.none nc) n1 n2 n3 e1 e2 e3);obtain⟨p,hp,e⟩:=rn.gap.only x k h;have hp:=AS.mp hp;exact⟨p,by lia,e⟩
def amc :∀ys L Q,wR Pt ys L Q->xr (oY eY lL lV dH fU (fS Pt)) 11 ys L Q:=by rintro ys L Q ⟨I,J,s,m,room,U,g,j,l,o,q⟩;exact agc ys L Q ⟨I,J,s,m,room,U,g,j,l,o,λp r t C lk T L' W _=>q p r t C lk T L' W⟩
def KW.lf{n:Str}(h:wd[p]?=some (some (.lf t n))):KW (w6 wd) p (.leaf t n):=by show(w6 wd)[p]?=_;rw[An,h];rfl
def KW.nd{e:Bool}{l r:Wd}(h:wd[p]?=some (some (.nd e i j)))(I:KW (w6 wd) i l)(J:KW (w6 wd) j r):KW (w6 wd) p (.node e l r):=
 ⟨i,j,by rw[An,h];rfl,I,J⟩
def aav{k:Kn}{n:Str}(h:rK k=.tup [.str (kL t),.str n]):k=.lf t n:=by
 cases k with
 |lf u m=>
  have I:kL u=kL t:=by injection h with h;injection h with h _;injection h
  have J:m=n:=by injection h with h;injection h with _ h;injection h with h _;injection h
  subst J;cases u<;>cases t<;>first|rfl|(exfalso;revert I;decide)
 |nd e i j=>injection h with h;injection h with _ h;injection h with _ h;cases h
def zT{k:Kn}{e:Bool}(h:rK k=.tup [.str (kN e),.int (i:Int),.int (j:Int)]):k=.nd e i j:=by
 cases k with
 |lf u m=>injection h with h;injection h with _ h;injection h with _ h;cases h
 |nd b U g=>
  have l:kN b=kN e:=by injection h with h;injection h with h _;injection h
  have I:((U:Nat):Int)=i:=by injection h with h;injection h with _ h;injection h with h _;injection h
  have J:((g:Nat):Int)=j:=by injection h with h;injection h with _ h;injection h with _ h;injection h with h _;injection h
  have I:=B5.mp I;have J:=B5.mp J;subst I J;cases b<;>cases e<;>first|rfl|(exfalso;revert l;decide)
def afd(h:(w6 wd)[p]?=some y):∃o,wd[p]?=some o/\gb o=y:=by rw[An] at h;obtain⟨o,a,b⟩:=Ay.mp h;exact⟨o,a,b⟩
def KW.inv_lf{n:Str}(h:KW (w6 wd) p (.leaf t n)):wd[p]?=some (some (.lf t n)):=by
 obtain⟨o,a,b⟩:=afd (show(w6 wd)[p]?=some (.tup [.str (kL t),.str n]) from h);cases o with
 |none=>cases b
 |some k=>rw[a,aav b]
def KW.inv_nd{e:Bool}{l r:Wd}(h:KW (w6 wd) p (.node e l r)):∃i j,wd[p]?=some (some (.nd e i j))/\KW (w6 wd) i l/\KW (w6 wd) j r:=by
 obtain⟨i,j,I,J,U⟩:=h;obtain⟨o,a,b⟩:=afd I;cases o with
 |none=>cases b
 |some k=>exact⟨i,j,by rw[a,zT b],J,U⟩
theorem KW.dep{wd:List (Option Kn)}(ok:uz wd):∀{w:Wd} {p:Nat},KW (w6 wd) p w->w.depth<=p+1
 |.leaf t n,p,_=>by show 1<=p+1;exact CN _
 |.node e l r,p,h=>by obtain⟨i,j,a,I,J⟩:=h.inv_nd;have:=ok p e i j a;have:=KW.dep ok I;have:=KW.dep ok J;show max l.depth r.depth+1<=p+1;lia
def mD(wd:List (Option Kn)):Prop:=∀(p:Nat) (e:Bool) (i j:Nat),wd[p]?=some (some (.nd e i j))->(∃k,wd[i]?=some (some k))/\∃k,wd[j]?=some (some k)
theorem sN{wd:List (Option Kn)}(ok:uz wd)(th:mD wd):∀(n p:Nat) (k:Kn),p<n->wd[p]?=some (some k)->∃w,KW (w6 wd) p w
 |0,_,_,h,_=>absurd h (BY _)
 |n+1,p,.lf t m,_,e=>⟨_,KW.lf e⟩
 |n+1,p,.nd b i j,h,e=>by have:=ok p b i j e;obtain⟨⟨I,J⟩,U,g⟩:=th p b i j e;obtain⟨l,o⟩:=sN ok th n i I (by lia) J;obtain⟨r,C⟩:=sN ok th n j U (by lia) g;exact⟨_,KW.nd e o C⟩
def xE{ks:List Kn}(ok:aq ks):mD (ks.map some):=by
 intro p e i j h;have lt:=oS ok p e i j h;have J:=ze h;rw[Af] at J;have I:∀x,x<ks.length->∃k,(ks.map some)[x]?=some (some k):=λx U=>⟨ks[x],by rw[An,Aj U];rfl⟩
 exact⟨I i (by omega),I j (by lia)⟩
def bF.inv{ks:List Kn}(T:bF ks qs ks.length fm){e:Bool}(h:fm[p]?=some (some (.nd e i j))):∃I,ks[p]?=some (.nd I i j):=by
 have U:p<ks.length:=by have:=ze h;rw[T.len] at this;exact this
 cases J:ks[p]? with
 |none=>rw[Aj U] at J;cases J
 |some k=>
  cases k with
  |lf t n=>
   have:=T.lf p t n U J;rw[h] at this;cases this
  |nd I g l=>
   rcases T.nd p I g l U J with⟨z,_⟩|⟨o,z⟩
   ·rw[h] at z;cases z
   ·rw[h] at z;cases z;exact⟨I,rfl⟩
def bF.there{ks:List Kn}(ok:aq ks)(T:bF ks qs ks.length fm):mD fm:=by
 intro p e i j h;obtain⟨r,J⟩:=T.inv h;have lt:i<p/\j<p:=ok p _ J;have C:=ze J;obtain⟨g,l⟩:=aff J;have I:∀x,x<ks.length->x∈al ks->∃k,fm[x]?=some (some k):=λx U o=>by
  cases ex:ks[x]? with
  |none=>rw[Aj U] at ex;cases ex
  |some k=>
   cases k with
   |lf t n=>exact⟨_,T.lf x t n U ex⟩
   |nd b a c=>
    rcases T.nd x b a c U ex with⟨_,z⟩|⟨e2,z⟩
    ·exact absurd o z
    ·exact⟨_,z⟩
 exact⟨I i (by lia) g,I j (by lia) l⟩
def Ren.inv{f:Nat->Nat}(r:Ren f fm wd){x:Nat}{k:Kn}(h:wd[x]?=some (some k)):∃p,p<fm.length/\x=f p/\∃o,fm[p]?=some o/\lD f o=some k:=by obtain⟨p,I,e⟩:=r.gap.only x k h;have I:=AS.mp I;have:=r.gap.at_ p (AS.mpr I) _ (Aj I);rw[<-e,h] at this;exact⟨p,I,e,_,Aj I,(AW this).symm⟩
def Ren.there{f:Nat->Nat}(r:Ren f fm wd)(th:mD fm):mD wd:=by
 intro x e i j h;obtain⟨p,hp,rfl,o,g,I⟩:=r.inv h;cases o with
 |none=>cases I
 |some k=>
  cases k with
  |lf t n=>cases I
  |nd b a c=>
   cases I;obtain⟨⟨l,C⟩,T,e2⟩:=th p e a c g;have J:∀y k,fm[y]?=some (some k)->∃k',wd[f y]?=some (some k'):=λy k U=>by have:=r.gap.at_ y (AS.mpr (ze U)) _ U;cases k with|lf t n=>exact⟨_,this⟩|nd b a c=>exact⟨_,this⟩
   exact⟨J a l C,J c T e2⟩
theorem Ren.word{f:Nat->Nat}(r:Ren f fm wd):∀{w:Wd} {p:Nat},KW (w6 fm) p w->KW (w6 wd) (f p) w
 |.leaf t n,p,h=>by have e:=h.inv_lf;exact KW.lf (r.gap.at_ p (AS.mpr (ze e)) _ e)
 |.node b l rr,p,h=>by obtain⟨i,j,e,I,J⟩:=h.inv_nd;exact KW.nd (r.gap.at_ p (AS.mpr (ze e)) _ e) (r.word I) (r.word J)
def SR.cutw{ks:List Kn}{R:Ru}{E:List Nat}(h:SR ks R E):∀c∈jh R,∃w,dU ks c.1 w/\dU ks c.2 w.turn:=by
 induction h with
 |link _ _ _ _ _=>intro c g;cases g
 |ei _ _ _ _ _ _ _ j=>exact j
 |bo _ _ _ _ _ _ _ I J=>intro x U;exact(Ak.mp U).elim (I x) (J x)
 |@cu p q A B r t E w C T h3 h4 l o h7 h8 I J=>
  intro x U;rcases Ax.mp U with rfl|U
  ·exact⟨w,l,o⟩
  ·exact(Ak.mp U).elim (I x) (J x)
theorem f6{ks:List Kn}{ct:List (Nat×Nat)}{qs:List Nat}{fm:List (Option Kn)}(B:mV ks ct qs [])(T:bF ks qs ks.length fm):∀{w:Wd} {p:Nat},p∈qs->KW (w6 (ks.map some)) p w->KW (w6 fm) p w
 |.leaf t n,p,J,h=>by have e:=h.inv_lf;rw[An] at e;obtain⟨k,I,U⟩:=Ay.mp e;cases U;exact KW.lf (T.kp p J (ze I) _ I)
 |.node b l r,p,J,h=>by obtain⟨i,j,e,C,hr⟩:=h.inv_nd;rw[An] at e;obtain⟨k,I,U⟩:=Ay.mp e;cases U;obtain⟨g,o⟩:=B.part p J _ _ _ I;have g:i∈qs:=g.resolve_right (A9);have o:j∈qs:=o.resolve_right (A9);exact KW.nd (T.kp p J (ze I) _ I) (f6 B T g C) (f6 B T o hr)
structure arb(wd:List (Option Kn))(ct:List (Nat×Nat)):Prop where
 ok:uz wd
 len:wd.length<=241
 there:mD wd
 word:∀x k,wd[x]?=some (some k)->∃w,KW (w6 wd) x w/\w.depth<=120
 cut:∀c∈ct,∃w,KW (w6 wd) c.1 w/\KW (w6 wd) c.2 w.turn/\w.depth<=120
 ctl:ct.length<=60
theorem tL.webI(W:tL wd lk ct):arb wd ct/\lk.length<=60:=by
 obtain⟨U,R,E,a3,a4,J,f,ok,C,tp,hk,I,pl,pc,ho,g,a2,_,a0,_⟩:=W.ex;have okO:uz J:=by
  rcases ho with rfl|⟨qs,B,T⟩
  ·exact oS ok
  ·exact T.okO ok
 have lo:J.length=U.length:=by
  rcases ho with rfl|⟨qs,B,T⟩
  ·exact Af ..
  ·exact T.len
 have th:mD J:=by
  rcases ho with rfl|⟨qs,B,T⟩
  ·exact xE ok
  ·exact T.there ok
 have tl:(j6 R).length=U.length:=by rw[tp.length_eq,A5]
 have wg:=C.weight ok;have cl:=oC U (jh R);have ll:2*(j4 R).length<=U.length:=by obtain⟨u,hu⟩:=ku R;have:=hu.length_eq;rw[Ac,vt] at this;lia
 have l1:lk.length=(j4 R).length:=by have h1:=a2.length_eq;have h2:=pl.length_eq;rw[Af] at h1;rw[vt,vt] at h2;lia
 have l2:ct.length=(jh R).length:=by have h1:=a0.length_eq;rw[Af,pc.length_eq] at h1;exact h1
 refine⟨⟨g.gap.ok,by have:=g.len;lia,g.there th,λx k e=>?_,λc hc=>?_,by lia⟩,by lia⟩
 ·obtain⟨p,hp,rfl,o,eo,ek⟩:=g.inv e;cases o with
  |none=>cases ek
  |some k0=>
   obtain⟨w,hw⟩:=sN okO th (p+1) p k0 (by exact Bg _) eo;have:=KW.dep okO hw;exact⟨w,g.word hw,by lia⟩
 ·obtain⟨c0,a1,rfl⟩:=BE.mp (a0.mem_iff.mp hc);obtain⟨w,w1,w2⟩:=C.cutw c0 (pc.mem_iff.mp a1);have q1:KW (w6 J) c0.1 w/\KW (w6 J) c0.2 w.turn:=by
   have e:∀{p w},dU U p w->KW (w6 (U.map some)) p w:=λh=>by rw[tQ];exact h
   rcases ho with rfl|⟨qs,B,T⟩
   ·exact⟨e w1,e w2⟩
   ·obtain⟨m1,m2⟩:=B.cut c0 a1;exact⟨f6 B T (m1.resolve_right A9) (e w1),f6 B T (m2.resolve_right A9) (e w2)⟩
  have hp:c0.1<U.length:=by
   have:∀{w:Wd} {p:Nat},KW (w6 J) p w->p<J.length:=λ{w p} h=>by cases w with|leaf t n=>exact ze h.inv_lf|node e l r=>obtain⟨i,j,a,_⟩:=h.inv_nd;exact ze a
   rw[<-lo];exact this q1.1
  have:=KW.dep okO q1.1;exact⟨w,g.word q1.1,g.word q1.2,by lia⟩
def tO:ww:=(ji (ko (qf (cY hU (aI (x9 0 0))) (qf (cY hU (aI (x9 0 1))) (qf (cY hU (aI (x9 0 2))) qx)))))
def rC:jx:=λys L Q=>∃a l c,∃xs zs us:List Y,ys=[ay a l c]/\L a=some (.lst xs)/\L l=some (.lst zs)/\L c=some (.lst us)/\∀I J U L',qj L L'->L I=none->L J=none->L U=none->I≠J->I≠U->J≠U->L' I=some (.lst xs)->L' J=some (.lst zs)->L' U=some (.lst us)->Q (ay I J U) L'
def agq:∀ys L Q,rC ys L Q->xr tO 1 ys L Q:=by rintro ys L Q ⟨a,l,c,xs,zs,us,rfl,ha,hl,hc,q⟩;refine qd ha λj h1=>?_;have p:=By (o:=.lst xs) h1;refine qd (p _ _ hl) λr t=>?_;have C:=p.trans (By (o:=.lst zs) t);refine qd (C _ _ hc) λT g=>?_;have I:j≠r:=xn q9 t;have J:r≠T:=xn q9 g;have U:j≠T:=xn ((qb I).trans q9) g;exact k6 (q j r T _ (C.trans (By g)) h1 (p.none t) (C.none g) I U J ((qb U).trans ((qb I).trans q9)) ((qb J).trans q9) q9)
def nU{xs:List Y}(h:∀x∈xs,dh L n x x):Paired (dh L n) xs xs:=by induction xs with|nil=>exact .nil|cons x r I=>exact .cons (h x (Av ..)) (I λy J=>h y (Ah _ J))
def uH(l:List (Nat×Nat)):Paired (dh L (n+2)) (qu l) (qu l):=nU λx I=>by obtain⟨m,_,rfl⟩:=BE.mp I;exact .inr (.inl ⟨_,_,rfl,rfl,.cons (.flat rfl) (.cons (.flat rfl) .nil)⟩)
def afu(l:List (Option Kn)):Paired (dh L (n+2)) (w6 l) (w6 l):=nU λx I=>by
 obtain⟨m,_,rfl⟩:=BE.mp I;cases m with
 |none=>exact .flat rfl
 |some k=>
  cases k with|lf t n=>exact .inr (.inl ⟨_,_,rfl,rfl,.cons (.flat rfl) (.cons (.flat rfl) .nil)⟩)|nd e i j=>exact .inr (.inl ⟨_,_,rfl,rfl,.cons (.flat rfl) (.cons (.flat rfl) (.cons (.flat rfl) .nil))⟩)
def gj{a b:Addr}{xs:List Y}(I:L a=some (.lst xs))(J:L b=some (.lst xs))(p:Paired (dh L n) xs xs):dh L (n+1) (.ref a) (.ref b):=.inr (.inr ⟨a,b,xs,xs,rfl,rfl,I,J,p⟩)
def ahm{k:Option Kn}(h:wd[i]?=some k):eG (w6 wd) (0+(i:Int))=some (gb k):=by rw[Eg];exact wn h
end L3
namespace L2
open PySem PySem.W
section
variable {K:Ae}(T:K.lookup Pt=some (PySem.W.tabObj #[]))
include T
def xN :clsIn (lessK Pt K) C=clsIn K C:=by
 unfold clsIn;by_cases d:C=Pt
 ·subst d;rw[aN,T]
 ·rw[v0 d]
def am1{b:Value}:mroIn (lessK Pt K) C b=mroIn K C b:=by unfold mroIn;rw[xN T]
def alb{t b:Value}:subIn (lessK Pt K) t b=subIn K t b:=by
 unfold subIn;split
 ·rfl
 ·exact am1 T
 ·rfl
end
end L2
namespace L3
open PySem L2 Words
def tL.lens(W:tL wd lk ct):wd.length<=241/\ct.length<=60/\lk.length<=60:=by
 obtain⟨J,R,E,o,p,U,f,ok,g,r,hk,I,t,C,ho,rn,j,_,l,_⟩:=W.ex;have lo:U.length=J.length:=by
  rcases ho with rfl|⟨qs,B,T⟩
  ·exact Af ..
  ·exact T.len
 have tl:(j6 R).length=J.length:=by rw[r.length_eq,A5]
 have wg:=g.weight ok;have cl:=oC J (jh R);have ll:2*(j4 R).length<=J.length:=by obtain⟨u,hu⟩:=ku R;have:=hu.length_eq;rw[Ac,vt] at this;lia
 have h1:=j.length_eq;have h2:=t.length_eq;have h3:=l.length_eq;have h4:=C.length_eq;have h5:=rn.len;rw[Af] at h1 h3;rw[vt,vt] at h2;exact⟨by lia,by lia,by lia⟩
def ahg(f:Option Kn->Bool)(wd:List (Option Kn))(n:Nat):(jJ f wd n).Nodup:=by unfold jJ;exact BS.filter _
def adt(a b:List (Nat×Nat)):qu (a++b)=qu a++qu b:=by unfold qu;rw[AD]
def sH:ww:=(ji (cY du (qf (mC 1 (xm (x9 0 0)) (qg 2) (bV (yB (cR true (qa 2))) (cU (x9 2 0) (qa 1))) (qa 2)) qx)))
end L3
namespace TS
open PySem PyProof.Rows PySem.W
section
variable {w:World}
end
end TS
namespace L2
open PySem PySem.Spec PyProof.Rows
end L2
namespace L2
open PySem PySem.Spec PyProof.Rows
def aew(neg:Bool)(p:X.A.units+128<cLine):aC X (compareOp (if neg then .NotIn else .In)) (λx y H Q=>∃a kvs k,y=.ref a/\H a=some (.dK kvs)/\x=kV k/\Q (.bl (if neg then !(bX kvs k).isSome else(bX kvs k).isSome)) H):=by intro U s r H x y v u Q I g j ⟨a,kvs,k,l,e,ex,q⟩;subst ex l;cases (show u=Value.ref a from j);cases neg with|false=>exact arn (by omega) I (sT.k e) g λo J=>⟨.bl _,H,J,rfl,q⟩|true=>exact aig (by omega) I (sT.k e) g λo J=>⟨.bl _,H,J,rfl,q⟩
end L2
namespace L3
open PySem L2
def aac{xs:List (jp×V)}(p:Paired (λ(p:jp×Y) (q:jp×V)=>p.1=q.1/\RV G H p.2 q.2) kvs xs)(k:jp):(bX xs k).isSome=(aE kvs k).isSome:=by
 unfold bX aE;rw[CD,CD]
 induction p with
 |nil=>rfl
 |@cons a b _ _ r t I=>
  rw[BA,BA,r.1];cases decide (b.1=k) with|true=>rfl|false=>exact I
def ag3(neg:Bool)(x y:Y)(L:qm)(Q:YK):Prop:=match y,aiu x with
 |.ref a,some k=>u0 L a λkvs=>Q (.bl (nb neg (aE kvs k).isSome)) L
 |_,_=>False
def am0(neg:Bool)(j:X.A.units+128<cLine):aC X (compareOp (if neg then .NotIn else .In)) (iO X.g3 (ag3 neg)):=ES (aew neg j) λx y H Q C T L Q3 l o g z k=>by
 unfold ag3 at z;split at z
 ·rename_i a I p;obtain⟨J,e,z⟩:=gn z;obtain⟨U,r,t⟩:=g a _ e;refine⟨a,U,I,o,r,mZ p l,?_⟩;have:(if neg=true then !(bX U I).isSome else(bX U I).isSome)=nb neg (aE J I).isSome:=by rw[aac t];cases neg<;>simp[nb]
  rw[this];exact k _ H _ L (ED _) g (by rfl) z
 ·exact z.elim
def amh(I:X.A.units+128<cLine):aC X (compareOp .NotIn) (iO X.g3 (ag3 true)):=am0 true I
open PySem L2 Words
def ou:ww:=(ji (mC 1 (ij (qf (cY du (aI (x9 0 0))) qx)) (qg 1) (yB (cR true (zj aR (x9 0 0) (qa 1)))) (qa 1)))
section
variable {nd:Addr}{ad:Nat->Addr}{f:Nat->List Nat}
end
def dO:jx:=λys L Q=>∃a l c,∃wd:List (Option Kn),ys=[ay a l c]/\L a=some (.lst (w6 wd))/\wd.length<=1000/\∀p,L p=none->Q (.ref p) (qe L p (.lst (nY (za wd))))
def vD:∀ys L Q,dO ys L Q->xr ou 1 ys L Q:=by
 rintro ys L Q ⟨a,l,c,J,rfl,g,j,q⟩;refine qd g ⟨⟨AY _,by rw[ae];omega⟩,?_⟩;rw[ae,Cg];refine wH (λi I=>I=nY (jJ fH J i)) (A8 j (by decide)) rfl ?_ ?_
 ·rintro i I o rfl;obtain⟨k,U⟩:∃k,J[i]?=some k:=⟨_,Aj o⟩;refine qd g (ql (ahm U) ?_);cases k with
  |none=>exact⟨L,EC _,rfl,by rw[cS U,As (by exact AC),AQ]⟩
  |some k=>
   have yes:dz (λI r=>r=L/\I=nY (jJ fH J (i+1))) (nY (jJ fH J i)++[.int (0+(i:Int))]) L:=⟨L,EC _,rfl,by rw[cS U,Aw (show fH (some k)=true from rfl),eX,Eg];rfl⟩;cases k with|lf t n=>exact yes|nd e T j'=>exact yes
 ·rintro I rfl p C;exact k6 (q p C)
def tU(I:jx):ww:=(qr (zr (qa 0) (aD 3 (zn (qg 3) (zn (qg 4) (zn (qg 5) wf)))))
 (qr (xc (u5 (tZ (yB (aQ .tuple (qa 2)))) (u5 (yB (zj yLt (bQ 2) (jk 2))) (tZ (yB (aQ .str (x9 2 0)))))) (ji (yC .non)) jm)
 (qr (xc (qR (mC 1 (adq (ySl ais (qa 2) (kK (jk 1)) fO)) (qg 9) (u5 (tZ (yB (zd I (aI (qa 9))))) (yB (zj (ag3 true) (qa 9) (qa 1)))) (qa 9)) (kc qx)) (ji (yC .non)) jm)
 (qr (xc (bV (cU (x9 2 0) (dS "fold")) (bV (cU (bQ 2) (jk 2)) (cU (zj aR (zj aR (qa 3) (x9 2 1)) (jk 0)) (dS "either")))) (qr (zr (x9 2 1) (qg 6))
 (qr (xc (u5 (qR (vz (qa 1) (zj aR (zj aR (qa 3) (qa 6)) (jk 1))) (vz (qa 1) (zj aR (zj aR (qa 3) (qa 6)) (jk 2)))) (cU (vz (qa 1) (qa 6)) (vz (qa 1) (zj aR (zj aR (qa 3) (qa 6)) (jk 1))))) (ji (yC .non)) jm)
 (ji (ko (qf (qa 6) (qf (zj aR (zj aR (qa 3) (qa 6)) (jk 1)) qx)))))) jm)
 (qr (xc (u5 (qR (x9 2 0) (dS "join")) (u5 (qR (bQ 2) (jk 3)) (cU (vz (qa 1) (x9 2 1)) (vz (qa 1) (x9 2 2))))) (ji (yC .non)) jm)
 (qr (aej 7 8 (aB (x9 2 1) (x9 2 2)))
 (qr (xc (u5 (yB (zj ahf (rdT (qa 7) (qa 8)) (qa 4))) (u5 (yB (zj ahf (rdT (qa 7) (qa 8)) (qa 5))) (bV (cU (zj aR (zj aR (qa 3) (qa 7)) (jk 0)) (dS "both")) (yB (zj (pF false) (qa 8) (ySl ais (zj aR (qa 3) (qa 7)) (kK (jk 1)) fO)))))) (ji (rdT (qa 7) (qa 8))) jm)
 (ji (yC .non)))))))))
def om(I:jx)(p1:jx):ww:=(qr (zr af2 (qg 2))
 (qr (dP (xm (zd I (aI (qa 0)))) (qg 3) (yU (qa 2) (qa 3) (qa 3)))
 (qr (dP (xm (qa 1)) (qg 4) (qr (zr (zd p1 (qf (qa 0) (aB (qa 2) (qa 4)))) (qg 5))
 (qr (xc (yB (cR false (qa 5))) (ji (yC .non)) jm)
 (qr (aej 6 7 (qf (vz (qa 2) (x9 5 0)) (qf (vz (qa 2) (x9 5 1)) qx)))
 (dP (xm (zd I (aI (qa 0)))) (qg 3) (xc (cU (vz (qa 2) (qa 3)) (qa 6)) (yU (qa 2) (qa 3) (qa 7)) jm))))))
 (ji (qa 2)))))
def qZ:ww:=(qr (dP (xm (zj kz (x9 0 1) (x9 0 2))) (aD 2 (zn (qg 2) (zn (qg 3) wf))) (xc (qR (vz (qa 1) (qa 2)) (vz (qa 1) (qa 3))) (ji (yC (.bl false))) jm))
 (qr (dP (gQ (x9 0 0)) (aD 2 (zn (qg 4) (zn (qg 5) wf))) (qr (xc (bV (yB (cR true (qa 5))) (bV (cU (x9 5 0) (dS "both")) (u5 (qR (vz (qa 1) (qa 4)) (vz (qa 1) (x9 5 1))) (qR (vz (qa 1) (qa 4)) (vz (qa 1) (x9 5 2)))))) (ji (yC (.bl false))) jm)
 (xc (bV (yB (cR true (qa 5))) (bV (cU (x9 5 0) (dS "either")) (yB (vN (vz (qa 1) (x9 5 1)) (afg (mj false) (vz (qa 1) (x9 5 2)) (aby (mj true) (vz (qa 1) (qa 4)))))))) (ji (yC (.bl false))) jm)))
 (ji (yC (.bl true)))))
def aiq(I:jx)(p1:jx)(p2:jx)(p3:jx)(p4:jx)(p5:jx)(p6:jx)(p7:jx)(p8:jx)(p9:jx):ww:=(qr (zr (zd I (qf (qa 0) (qf (zj aG (zd p1 (aB (qa 0) (jk 0))) (zj ar2 (jk 10) (jk 9))) (aB (jk 80) (jk 100))))) (qg 1))
 (qr (zr (zd p2 (aI (qa 1))) (qg 2))
 (qr (zr (zd p3 (aI (qa 2))) (qg 3))
 (qr (xc (u5 (tZ (yB (aQ .list (qa 3)))) (tZ (yB (zd p4 (aB (qa 2) (qa 1)))))) (ji (yC (.bl false))) jm)
 (qr (zr (zd p5 (aB (qa 1) (qa 3))) (qg 4))
 (qr (xc (u5 (yB (cR false (qa 4))) (tZ (yB (zd p6 (aB (qa 1) (qa 4)))))) (ji (yC (.bl false))) jm)
 (qr (zr (zj kz (zj kz (zj kz (cY du (aI (x9 1 1))) (cY du (aI (x9 1 2)))) (zd p7 (aB (qa 1) (dS "either")))) (zj aat (jk 2) (zd p7 (aB (qa 1) (dS "both"))))) (qg 5))
 (qr (zr (zd p8 (aI (qa 1))) (qg 6))
 (qr (zr (zj (mj false) (mC 1 (xm (qa 6)) (qg 8) (qR (vz (qa 4) (qa 8)) (vz (qa 4) (x9 6 0))) (qa 8)) (kc qx)) (qg 7))
 (ji (fz (zd p4 (qf (zd p9 (aI (qa 2))) (qf (fz (qa 7) (zj (mj false) (bQ 3) (qa 5))) qx))) (zd p4 (aB (qa 2) (qa 1))))))))))))))
def ahh(wd:List (Option Kn))(kvs:List (jp×Y))(m:Nat->Nat):Prop:=∀x,bT wd x=true->aE kvs (.inl (x:Int))=some (.int (m x:Int))
def ThP(wd:List (Option Kn)):Prop:=∀(p:Nat) (e:Bool) (i j:Nat),wd[p]?=some (some (.nd e i j))->bT wd i=true/\bT wd j=true
def mN:jx:=λys L Q=>∃a l c d,∃wd:List (Option Kn),∃lk ct:List (Nat×Nat),∃kvs,∃m:Nat->Nat,∃b:Bool,∃p q:Nat,ys=[ay a l c,.ref d,stY (b,p,q)]/\L a=some (.lst (w6 wd))/\L l=some (.lst (qu lk))/\L c=some (.lst (qu ct))/\L d=some (.dct kvs)/\ahh wd kvs m/\ThP wd/\bT wd p=true/\bT wd q=true/\m p≠m q/\StK wd (v4 wd lk ct) (xh true wd) m p q b/\Q (qC (p,q)) L
def adm:∀ys L Q,mN ys L Q->xr (tU oQ) 9 ys L Q:=by
 rintro ys L Q ⟨a,l,c,d,wd,lk,ct,a1,m,b,p,J,rfl,ha,hl,hc,hd,V,tp,h1,h2,ne,K,q⟩;have v1:=V _ h1;have v2:=V _ h2;cases b with
 |false=>
  refine⟨λh=>El h.1,?_⟩;refine ar (λi g=>g=[]) (by show 2<sizeLine;decide) trivial rfl ?_ ?_
  ·rintro i y g hy rfl;have e:y=.int (p:Int)\/y=.int (J:Int):=by
    match i,hy with
    |0,h=>cases h;exact .inl rfl
    |1,h=>cases h;exact .inr rfl
   rcases e with rfl|rfl
   ·exact⟨_,rfl,zu hd (aF (by rw[v1];rfl) ⟨L,EC _,rfl,rfl⟩)⟩
   ·exact⟨_,rfl,zu hd (aF (by rw[v2];rfl) ⟨L,EC _,rfl,rfl⟩)⟩
  rintro g rfl T t e2 U;have I:=(By (o:=.lst []) t).trans (By (o:=.lst []) U);have f1:=By (o:=.lst []) U _ _ (q9 (L:=L) (a:=T) (o:=.lst []));refine aj (n:=0) (m:=0) (by decide) f1 q9 (.nil:Paired (ju _ 0) _ []) (.nil:Paired (ju _ 0) _ []) ?_;generalize qe (qe L T (.lst [])) e2 (.lst [])=L2 at I ⊢;refine zu (I _ _ hd) (ql v1 (zu (I _ _ hd) (ql v2 ?_)));show xt (decide ((m p:Int)=(m J:Int))) _ _;rw[aA];refine yE ne ?_;refine qo (I _ _ hl) ⟨lk,(p,J),rfl,rfl,?_⟩;refine zo (λ_=>bW I q) λn1=>?_;refine qo (I _ _ hc) ⟨ct,(p,J),rfl,rfl,?_⟩;refine zo (λ_=>bW I q) λn2=>?_;have K:(p,J)∈v4 wd lk ct:=K;rcases Ak.mp K with K|K
  ·exact absurd (Ak.mp K) λh=>h.elim n1 n2
  obtain⟨r,hr,hx⟩:=Bd.mp K;obtain⟨i,j,C⟩:=lT hr;rw[C] at hx;have hx:(p,J)∈[(r,i),(r,j)]:=hx;have er:p=r/\J∈[i,j]:=by
   rcases Ax.mp hx with h|h
   ·cases h;exact⟨rfl,Av ..⟩
   ·cases Ap.mp h;exact⟨rfl,Ah _ (Ap.mpr rfl)⟩
  obtain⟨rfl,hq⟩:=er;refine qd (I _ _ ha) (ql (wn C) ?_);refine qd (I _ _ ha) (ql (wn C) ?_);refine⟨λh=>El h.1,rfl,rfl,?_⟩;show xt (nb false (vF (gi (.int (J:Int))) ((nY [i,j]).map gi))) _ _;rw[rc];exact ap (by rw[Ao hq];rfl) (bW I q)
 |true=>
  obtain⟨hp,e,j,C,ej⟩:=K;obtain⟨i',j',a0⟩:=lT hp;rw[C] at a0;cases a0;have v3:=V _ (tp _ _ _ _ C).2;refine⟨λh=>El h.1,?_⟩;refine ar (λi g=>g=[]) (by show 1<sizeLine;decide) trivial rfl ?_ ?_
  ·rintro i y g hy rfl;have e:y=.int (p:Int):=by
    match i,hy with
    |0,h=>cases h;rfl
   subst e;exact⟨_,rfl,zu hd (aF (by rw[v1];rfl) ⟨L,EC _,rfl,rfl⟩)⟩
  rintro g rfl T t e2 U;have I:=(By (o:=.lst []) t).trans (By (o:=.lst []) U);have f1:=By (o:=.lst []) U _ _ (q9 (L:=L) (a:=T) (o:=.lst []));refine aj (n:=0) (m:=0) (by decide) f1 q9 (.nil:Paired (ju _ 0) _ []) (.nil:Paired (ju _ 0) _ []) ?_;generalize qe (qe L T (.lst [])) e2 (.lst [])=L2 at I ⊢;have kn:∀{k:Y->qm->Prop} ,k (gb (some (.nd true J j))) L2->jN L2 (.ref a) λys=>yc L2 k (eG ys (p:Int)):=λh=>qd (I _ _ ha) (ql (wn C) h);refine kn (kn (zu (I _ _ hd) (ql v2 (kn (zu (I _ _ hd) (ql v3 ?_))))));show xt (!decide ((m J:Int)=(m j:Int))) _ _;rw[aA,Ao ej];refine zu (I _ _ hd) (ql v1 (kn (zu (I _ _ hd) (ql v2 ?_))));show xt (decide ((m p:Int)=(m J:Int))) _ _;rw[aA];exact yE ne (kn (bW I q))
def ae6{I:List vZ}{k q:Nat}{b:Bool}(h:I[k]?=some (b,p,q)):kB (lC (I.take (k+1))) id=mk1 (kB (lC (I.take k)) id) (p,q):=by unfold lC kB;rw[Bf,h,Option.toList_some,AD,List.foldl_append];rfl
def iw:jx:=λys L Q=>∃a l c s,∃wd:List (Option Kn),∃lk ct:List (Nat×Nat),∃I:List vZ,ys=[ay a l c,.ref s]/\L a=some (.lst (w6 wd))/\L l=some (.lst (qu lk))/\L c=some (.lst (qu ct))/\L s=some (.lst (iA I))/\wd.length<=241/\I.length<=1000/\ThP wd/\CI wd (v4 wd lk ct) (xh true wd)/\ale wd (v4 wd lk ct) (xh true wd) I/\
 ∀d kvs,L d=none->ahh wd kvs (kB (lC I) id)->Q (.ref d) (qe L d (.dct kvs))
def aai:∀ys L Q,iw ys L Q->xr (om dO mN) 8 ys L Q:=by
 rintro ys L Q ⟨a,l,c,s,J,lk,ct,ss,rfl,ha,hl,hc,hs,zw,zs,tp,C,ok,q⟩;have big:∀m:Nat,m<=1000000->m<sizeLine:=λm h=>A8 h (by decide);have tl:(za J).length<=241:=AK (fV _ _ _) zw;have nd:(za J).Nodup:=ahg _ _ _;intro d hd;have s0:qj L (qe L d (.dct [])):=By hd;refine⟨a,l,c,J,rfl,s0 _ _ ha,by omega,λpa a0=>?_⟩;have a1:d≠pa:=xn q9 a0;refine x4 q9 λkeep kp=>wm ⟨λi o t=>∃I c3,o=[some (ay a l c),some (.ref s),some (.ref d),c3,none,none,none,none]/\qj L t/\t pa=some (.lst (nY (za J)))/\t d=some (.dct I)/\I.length<=i/\∀x∈(za J).take i,aE I (.inl (x:Int))=some (.int (x:Int)),⟨[],_,rfl,s0.trans (By a0),q9,(qb a1).trans q9,Al _,λx hx=>by cases hx⟩,?_,?_,?_⟩
 ·rintro i o t ⟨I,c3,rfl,s1,g,_⟩;exact kp _ (g.trans q9.symm)
 ·rintro i y o t hy ⟨I,c3,rfl,s1,g,T,kl,V⟩;obtain⟨x,ex,rfl⟩:=dZ hy;have hi:=ze ex;have et:(za J).take (i+1)=(za J).take i++[x]:=by rw[Bf,ex];rfl
  refine zu T ⟨big _ (by omega),_,EC _,_,_,rfl,s1.upd hd,(qb (AH a1)).trans g,q9,?_,λz hz=>?_⟩
  ·have:=o4 I (.inl (x:Int)) (.int (x:Int));omega
  ·rw[mQ];by_cases e:z=x
   ·rw[e,Aw rfl]
   ·rw[As λz=>e (B5.mp (Ev z))];rw[et] at hz;exact(Ak.mp hz).elim (V z) λh=>absurd (Ap.mp h) e
 rintro o L1 ⟨I,c3,rfl,s1,_,T,kl,V⟩;rw[wb] at kl V;rw[Bc] at V;have ab:(iA ss).length=ss.length:=ax ss;refine x4 (s1 _ _ hs) λkeep kp=>wm ⟨λk o t=>∃I c3 c4 c5 c6 c7,o=[some (ay a l c),some (.ref s),some (.ref d),c3,c4,c5,c6,c7]/\qj L t/\t d=some (.dct I)/\I.length<=(k+1)*241/\ahh J I (kB (lC (ss.take k)) id),⟨I,_,_,_,_,_,rfl,s1,T,by omega,λx hx=>V x (cA.mp hx)⟩,?_,?_,?_⟩
 ·rintro k o t ⟨I,c3,c4,c5,c6,c7,rfl,s2,_⟩;exact kp _ (by rw[s2 _ _ hs,s1 _ _ hs])
 ·rintro k y o t hy ⟨I,c3,c4,c5,c6,c7,rfl,s2,T,kl,V⟩;rw[show iA ss=ss.map stY from rfl,An] at hy;obtain⟨⟨b,p,r⟩,ek,rfl⟩:=Ay.mp hy;have hk:=ze ek;obtain⟨ne,K⟩:=ok k b p r ek;have th:bT J p=true/\bT J r=true:=by cases b with|false=>exact C.inp (p,r) K|true=>obtain⟨_,e,j,e1,_⟩:=K;exact⟨bL e1,(tp _ _ _ _ e1).1⟩
  have em:=ae6 ek;generalize kB (lC (ss.take k)) id=m at ne K V em;refine⟨a,l,c,d,J,lk,ct,I,m,b,p,r,rfl,s2 _ _ ha,s2 _ _ hl,s2 _ _ hc,T,V,tp,th.1,th.2,ne,K,?_⟩;refine zu T (ql (V p th.1) (zu T (ql (V r th.2) ?_)));refine⟨a,l,c,J,rfl,s2 _ _ ha,by omega,λpb a2=>?_⟩;have a3:d≠pb:=xn T a2;refine x4 q9 λac aL=>wm ⟨λi o L3=>∃U c3,o=[some (ay a l c),some (.ref s),some (.ref d),c3,some (stY (b,p,r)),some (qC (p,r)),some (.int (m p:Int)),some (.int (m r:Int))]/\qj L L3/\L3 pb=some (.lst (nY (za J)))/\L3 d=some (.dct U)/\U.length<=(k+1)*241+i/\∀x,bT J x=true->aE U (.inl (x:Int))=some (.int (((if x∈(za J).take i then mk1 m (p,r) x else m x):Nat):Int)),⟨I,_,rfl,s2.trans (By a2),q9,(qb a3).trans T,kl,λx hx=>by rw[As (by exact A9)];exact V x hx⟩,?_,?_,?_⟩
  ·rintro i o L3 ⟨U,c3,rfl,s3,g,_⟩;exact aL _ (g.trans q9.symm)
  ·rintro i y o L3 hy ⟨U,c3,rfl,s3,g,g2,a4,V2⟩;obtain⟨x,ex,rfl⟩:=dZ hy;have hi:=ze ex;have et:(za J).take (i+1)=(za J).take i++[x]:=by rw[Bf,ex];rfl
   have hx:x∉(za J).take i:=λh=>by have n2:((za J).take (i+1)).Nodup:=nd.sublist (Dc ..);rw[et] at n2;exact(AI.mp n2).2.2 x h x (Ap.mpr rfl) rfl
   have vx:=V2 x (cA.mpr (Az ex));rw[As hx] at vx;have a5:∀z,z≠x->((if z∈(za J).take (i+1) then mk1 m (p,r) z else m z)=if z∈(za J).take i then mk1 m (p,r) z else m z):=λz hz=>by
    rw[et];by_cases h:z∈(za J).take i
    ·rw[Aw h,Aw (Au _ h)]
    ·rw[As h,As λh2=>(Ak.mp h2).elim h λh3=>hz (Ap.mp h3)]
   have own:(if x∈(za J).take (i+1) then mk1 m (p,r) x else m x)=mk1 m (p,r) x:=Aw (by rw[et];exact Ag _ (Ap.mpr rfl));refine zu g2 (ql vx ?_);show xt (decide ((m x:Int)=(m p:Int))) _ _;rw[aA];have kb:(k+1)*241<=1000*241:=Nat.mul_le_mul_right _ (by omega);refine zo (λcc=>?_) λcc=>?_
   ·refine zu g2 ⟨big _ (by omega),_,EC _,_,_,rfl,s3.upd hd,(qb (AH a3)).trans g,q9,?_,λz hz=>?_⟩
    ·have:=o4 U (.inl (x:Int)) (.int (m r:Int));omega
    ·rw[mQ];by_cases e:z=x
     ·rw[e,Aw rfl,own];unfold mk1;rw[Aw cc]
     ·rw[As λz=>e (B5.mp (Ev z)),a5 z e];exact V2 z hz
   ·refine⟨_,EC _,U,_,rfl,s3,g,g2,by omega,λz hz=>?_⟩;by_cases e:z=x
    ·rw[e,own,vx];unfold mk1;rw[As cc]
    ·rw[a5 z e];exact V2 z hz
  ·rintro o L3 ⟨U,c3,rfl,s3,g,g2,a4,V2⟩;rw[wb] at a4 V2;refine⟨_,EC _,U,_,_,_,_,_,rfl,s3,g2,by rw[Nat.succ_mul];omega,λx hx=>?_⟩;have:=V2 x hx;rw[Bc,Aw (cA.mp hx)] at this;rw[em];exact this
 ·rintro o t ⟨I,c3,c4,c5,c6,c7,rfl,s2,T,kl,V⟩;rw[ab,Bc] at V;exact bW (s2.put T) (q d I hd V)
def nZ:jx:=λys L Q=>∃a l c d,∃wd:List (Option Kn),∃lk ct:List (Nat×Nat),∃kvs,∃m:Nat->Nat,ys=[ay a l c,.ref d]/\L a=some (.lst (w6 wd))/\L l=some (.lst (qu lk))/\L c=some (.lst (qu ct))/\L d=some (.dct kvs)/\lk.length<=1000/\ct.length<=1000/\ahh wd kvs m/\ThP wd/\CI wd (v4 wd lk ct) (xh true wd)/\(∀x∈v4 wd lk ct,m x.1=m x.2)/\
 (∀p∈xh true wd,∀e i j,wd[p]?=some (some (Kn.nd e i j))->m i=m j->m p=m i)/\Q (.bl true) L
def ada:∀ys L Q,nZ ys L Q->xr qZ 6 ys L Q:=by
 rintro ys L Q ⟨a,l,c,d,T,lk,o,a0,m,rfl,ha,hl,hc,hd,z1,z2,V,tp,C,jn,fo,q⟩;have big:=bg_;have a1:∀{x y:Nat} {U:qm} {k:Y->qm->Prop},U d=some (.dct a0)->bT T x=true->bT T y=true->k (.bl (decide (m x=m y))) U->True:=λ_ _ _ _=>trivial;clear a1;refine⟨_,_,hl,hc,?_,λe he=>?_⟩
 ·unfold qu;rw[Af,Af];exact BD (big _ (by omega))
 have p:qj L (qe L e (.lst (qu lk++qu o))):=By he;rw[<-adt] at p ⊢;have g1:qe L e (.lst (qu (lk++o))) e=some (.lst (qu (lk++o))):=q9;generalize qe L e (.lst (qu (lk++o)))=L1 at p g1 ⊢;have I:=p _ _ hd;refine x4 g1 λkeep kp=>wm ⟨λi J U=>∃c2 c3,J=[some (ay a l c),some (.ref d),c2,c3,none,none]/\U=L1,⟨_,_,rfl,rfl⟩,?_,?_,?_⟩
 ·rintro i J U ⟨c2,c3,rfl,rfl⟩;exact kp _ rfl
 ·rintro i y J U hy ⟨c2,c3,rfl,rfl⟩;rw[An] at hy;obtain⟨⟨u,v⟩,ex,rfl⟩:=Ay.mp hy;have hm:(u,v)∈v4 T lk o:=Au _ (Az ex);obtain⟨t1,t2⟩:=C.inp _ hm;have e2:m u=m v:=jn _ hm;refine zu I (ql (V u t1) (zu I (ql (V v t2) ?_)));show xt (!decide ((m u:Int)=(m v:Int))) _ _;rw[aA,Ao e2];exact⟨_,EC _,_,_,rfl,rfl⟩
 rintro J U ⟨c2,c3,rfl,rfl⟩;refine x4 (p _ _ ha) λkeep kp=>wm ⟨λi J L2=>∃c4 c5,J=[some (ay a l c),some (.ref d),c2,c3,c4,c5]/\L2=U,⟨_,_,rfl,rfl⟩,?_,?_,?_⟩
 ·rintro i J L2 ⟨c4,c5,rfl,rfl⟩;exact kp _ rfl
 ·rintro i y J L2 hy ⟨c4,c5,rfl,rfl⟩;obtain⟨z,ez,rfl⟩:=eM hy;rw[An] at ez;obtain⟨k,g,rfl⟩:=Ay.mp ez;cases k with
  |none=>exact⟨_,EC _,_,_,rfl,rfl⟩
  |some k=>
   cases k with
   |lf t n=>cases t<;>exact⟨_,EC _,_,_,rfl,rfl⟩
   |nd b r j=>
    obtain⟨t1,t2⟩:=tp _ _ _ _ g;have t0:=bL g;cases b with
    |false=>
     obtain⟨m1,m2⟩:=abb (pl:=xh false T) g (yd g);have e1:m i=m r:=jn _ (Ag _ m1);have e2:m i=m j:=jn _ (Ag _ m2);refine zu I (ql (V i t0) (zu I (ql (V r t1) ?_)));show xt (!decide ((m i:Int)=(m r:Int))) _ _;rw[aA,Ao e1];refine zu I (ql (V i t0) (zu I (ql (V j t2) ?_)));show xt (!decide ((m i:Int)=(m j:Int))) _ _;rw[aA,Ao e2];exact⟨_,EC _,_,_,rfl,rfl⟩
    |true=>
     have f1:=fo i (yd g) _ _ _ g;refine zu I (ql (V r t1) (zu I (ql (V j t2) ?_)));show xt (decide ((m r:Int)=(m j:Int))) _ _;rw[aA];refine zo (λc1=>?_) λc1=>⟨_,EC _,_,_,rfl,rfl⟩;refine zu I (ql (V i t0) ?_);show xt (!decide ((m j:Int)=(m i:Int))) _ _;rw[aA,Ao (c1.symm.trans (f1 c1).symm)];exact⟨_,EC _,_,_,rfl,rfl⟩
 ·rintro J L2 ⟨c4,c5,rfl,rfl⟩;exact bW p q
end L3
namespace L2
open PySem PySem.W
section
variable {K:Ae}(T:K.lookup Pt=some (PySem.W.tabObj #[]))
include T
def isFn_dn{a:Addr}(e:isFn K (.ref a)=true):isFn (lessK Pt K) (.ref a)=true:=by
 unfold isFn at e ⊢;by_cases d:a=Pt
 ·subst d;have h:typeIn K (.ref a)=some Value.none:=by show(List.lookup a K).map _=_;rw[T];rfl
  rw[h] at e;cases e
 ·have h:typeIn (lessK Pt K) (.ref a)=typeIn K (.ref a):=by show(List.lookup a (lessK Pt K)).map _=(List.lookup a K).map _;rw[v0 d]
  rw[h];exact e
def Cls.dn(c:Cls K C):Cls (lessK Pt K) C:=by
 obtain⟨pg,hd,po,sa⟩:=c;unfold plainGet at pg;unfold hasDictIn at hd;unfold plainOver at po;refine⟨?_,?_,?_,(find_dn T).trans sa⟩
 ·unfold plainGet;rw[find_dn T,find_dn T];exact pg
 ·unfold hasDictIn;rw[xN T];exact hd
 ·unfold plainOver;rw[xN T];exact po
def makes_dn(e:makesIn K C=true):makesIn (lessK Pt K) C=true:=by
 unfold makesIn at e ⊢;by_cases d:C=Pt
 ·subst d;rw[T] at e;cases e
 ·have h:typeIn (lessK Pt K) (.ref C)=typeIn K (.ref C):=by show(List.lookup C (lessK Pt K)).map _=(List.lookup C K).map _;rw[v0 d]
  have s:∀b,subIn (lessK Pt K) b (.type "type")=subIn K b (.type "type"):=λb=>alb T;unfold instIn at e ⊢;simp only[v0 d,lv T d,h,s];exact e
end
end L2
namespace L3
open PySem L2
theorem XFP.dn{K:Ae}(T:K.lookup Pt=some (PySem.W.tabObj #[]))(x:XFP K C):XFP (lessK Pt K) C:=⟨Cls.dn T x.cl,(find_dn T).trans x.na⟩
open PySem L2 Words
def tL.ci(W:tL wd lk ct):CI wd (v4 wd lk ct) (xh true wd):=by
 have WI:=W.webI.1;have i3:∀(p:Nat) (e:Bool) (i j:Nat),wd[p]?=some (some (Kn.nd e i j))->bT wd i=true/\bT wd j=true:=λp e i j h=>by obtain⟨⟨k1,U⟩,k2,g⟩:=WI.there p e i j h;exact⟨bL U,bL g⟩
 have kw:∀{p w},KW (w6 wd) p w->bT wd p=true:=λ{p w} h=>by cases w with|leaf t n=>exact bL h.inv_lf|node e l r=>obtain⟨i,j,a,_⟩:=h.inv_nd;exact bL a
 have i2:aip wd ct:=λx J=>by obtain⟨w,U,g,_⟩:=WI.cut x J;exact⟨kw U,kw g⟩
 obtain⟨ks,R,E,a2,a3,a0,f,ok,a4,tp,hk,I,pl,pc,ho,rn,a1,_,a5,_⟩:=W.ex;have lf:∀{p t n},ks[p]?=some (Kn.lf t n)->bT wd (f p)=true:=λ{p t n} h=>by
  have e:a0[p]?=some (some (.lf t n)):=by
   rcases ho with rfl|⟨qs,B,T⟩
   ·rw[An,h];rfl
   ·exact T.lf p t n (ze h) h
  exact bL (rn.gap.at_ p (AS.mpr (ze e)) _ e)
 have i1:aip wd lk:=λx J=>by
  obtain⟨y,hy,rfl⟩:=BE.mp (a1.mem_iff.mp J);obtain⟨t,n,U,g⟩:=I.at_ y hy;have C:=lf U;have t2:=lf g;show bT wd (min (f y.1) (f y.2))=true/\bT wd (max (f y.1) (f y.2))=true;by_cases c:f y.1<=f y.2
  ·rw[Ce c,CP c];exact⟨C,t2⟩
  ·rw[DY (by lia),C1 (by lia)];exact⟨t2,C⟩
 refine⟨λx J=>?_,λp hp=>?_,?_⟩
 ·rcases Ak.mp J with J|J
  ·rcases Ak.mp J with J|J
   ·exact i1 x J
   ·exact i2 x J
  ·obtain⟨e,i,j,U,g⟩:=aap J;obtain⟨C,t2⟩:=i3 _ _ _ _ U;exact⟨bL U,g.elim (λe=>e▸C) λe=>e▸t2⟩
 ·obtain⟨i,j,h⟩:=lT hp;exact⟨true,i,j,h,i3 _ _ _ _ h⟩
 ·have one:∀R:Ru,∃x,x∈x6 (j4 R):=λR=>by
   induction R with
   |link p q=>exact⟨p,Av ..⟩
   |ei r A o=>exact o
   |bo r A B o _=>obtain⟨x,J⟩:=o;exact⟨x,by show x∈x6 (j4 A++j4 B);rw[kj];exact Au _ J⟩
   |cu p q A B o _=>obtain⟨x,J⟩:=o;exact⟨x,by show x∈x6 (j4 A++j4 B);rw[kj];exact Au _ J⟩
  obtain⟨x,J⟩:=one R;obtain⟨c,hc,_⟩:=uL (pl.mem_iff.mpr J);obtain⟨t,n,U,_⟩:=I.at_ c hc;exact⟨_,lf U⟩
def iq:jx:=λys L Q=>∃a l c,∃wd:List (Option Kn),∃e:Bool,ys=[ay a l c,.str (kN e)]/\L a=some (.lst (w6 wd))/\wd.length<=1000/\Q (.int ((xh e wd).length:Int)) L
def zS:∀ys L Q,iq ys L Q->xr sH 2 ys L Q:=by
 rintro ys L Q ⟨a,l,c,U,e,rfl,r,C,q⟩;refine x4 r λkeep T=>ar (λi J=>J.length=(jJ (ag e) U i).length) (by rw[ae];exact A8 C (by decide)) (T _ rfl) rfl ?_ ?_
 ·rintro i y J j I;rw[An] at j;obtain⟨k,o,rfl⟩:=Ay.mp j;have no:ag e k=false->dz (λJ g=>g=L/\J.length=(jJ (ag e) U (i+1)).length) J L:=λh=>⟨L,EC _,rfl,by rw[cS o,As (by rw[h];exact AC),AQ];exact I⟩;have yes:∀z,ag e k=true->dz (λJ g=>g=L/\J.length=(jJ (ag e) U (i+1)).length) (J++[z]) L:=λz h=>⟨L,EC _,rfl,by rw[cS o,Aw h,Ac,Ac,I];rfl⟩;cases k with
  |none=>exact no rfl
  |some k=>
   cases k with|lf t n=>cases t<;>cases e<;>exact no rfl|nd b i' j'=>cases b<;>cases e<;>first|exact yes _ rfl|exact no rfl
 ·intro J I p hp;rw[ae] at I;refine qd q9 (bW (By hp) ?_);rw[I];exact q
def zG :(v4 wd lk ct).length=lk.length+ct.length+2*(xh false wd).length:=by unfold v4;rw[Ac,Ac,qB λp I=>⟨_,lT I⟩]
def acf :∀ys L Q,rA Pt lamQ ys L Q->xr (aiq (wR Pt) gZ rC jT (dc 124) iw nZ iq dO jM) 8 ys L Q:=by
 rintro ys L Q ⟨ns,rfl,a5,hL,q⟩;have hP:L Pt=some (.tb lamQ):=by rw[hL];exact q9
 clear hL;refine⟨ns,0,rfl,by decide,λv=>⟨⟨by decide,by decide,by decide⟩,(show(0:Int)<10 ^ (9:Int).toNat by decide),_,ns,_,100,80,rfl,rfl,by exact dG,by decide,hP,λg T ca wd lk ct L1 W s1 nw nl nc n1 n2 n3 e1 e2 e3=>?_⟩⟩;obtain⟨wl,cl,ll⟩:=W.lens;have C:=W.ci;have tp:ThP wd:=λp e i j h=>by obtain⟨⟨k1,h1⟩,k2,h2⟩:=W.webI.1.there p e i j h;exact⟨bL h1,bL h2⟩
 clear hP nw nl nc s1 W;refine⟨g,T,ca,_,_,_,rfl,e1,e2,e3,λa l c L2 s2 _ _ _ _ _ _ h1 h2 h3=>?_⟩;refine⟨a,l,c,wd,lk,ct,rfl,⟨h1,h2,h3,by omega,by omega,by omega,C⟩,λss st a2 F=>?_⟩;have s3:qj L2 (qe L2 st (.lst (iA ss))):=By a2;have gs:qe L2 st (.lst (iA ss)) st=some (.lst (iA ss)):=q9;have s4:=s2.trans s3;replace h1:=s3 _ _ h1;replace h2:=s3 _ _ h2;replace h3:=s3 _ _ h3;generalize qe L2 st (.lst (iA ss))=L3 at s3 s4 gs h1 h2 h3 ⊢;have k1:=s4 _ _ e1;have k2:=s4 _ _ e2;have k3:=s4 _ _ e3;clear s2 s3 s4 e1 e2 e3 n1 n2 n3;have same:∀{L':qm},qj L3 L'->dh L' 124 (ay a l c) (ay g T ca):=λ{L'} s=>.inr (.inl ⟨_,_,rfl,rfl,.cons (gj (s _ _ h1) (s _ _ k1) (afu (n:=120) wd)) (.cons (gj (s _ _ h2) (s _ _ k2) (uH (n:=120) lk)) (.cons (gj (s _ _ h3) (s _ _ k3) (uH (n:=120) ct)) .nil))⟩);refine cD gs ⟨_,_,rfl,same (EC _),?_⟩;refine⟨g,T,ca,st,wd,lk,ct,ss,rfl,k1,k2,k3,gs,wl,by have:=F.le;omega,tp,C,F.ok,λd J hd V=>?_⟩;have U:qj L3 (qe L3 d (.dct J)):=By hd;have gd:qe L3 d (.dct J) d=some (.dct J):=q9;generalize qe L3 d (.dct J)=L4 at U gd ⊢;have jn:=F.jn;have fo:=F.fo;have one:=F.one;have len:=F.len;obtain⟨m,em⟩:∃m,m=kB (lC ss) id:=⟨_,rfl⟩;rw[<-em] at V jn fo one;refine⟨g,T,ca,d,wd,lk,ct,J,m,rfl,U _ _ k1,U _ _ k2,U _ _ k3,gd,by omega,by omega,V,tp,C,jn,fo,?_⟩;refine qd (U _ _ k2) (qd (U _ _ k3) ?_);refine⟨g,T,ca,wd,true,rfl,U _ _ k1,by omega,?_⟩;refine⟨g,T,ca,wd,false,rfl,U _ _ k1,by omega,.inl ⟨by decide,by decide⟩,?_⟩;refine⟨g,T,ca,wd,rfl,U _ _ k1,by omega,λpa a1=>?_⟩;have s6:=U.trans (By (o:=.lst (nY (za wd))) a1);replace gd:=By (o:=.lst (nY (za wd))) a1 _ _ gd;have gp:qe L4 pa (.lst (nY (za wd))) pa=some (.lst (nY (za wd))):=q9;generalize qe L4 pa (.lst (nY (za wd)))=L5 at s6 gd gp ⊢;have tl:(za wd).length<=241:=AK (fV _ _ _) wl;refine x4 gp λkeep kp=>ar (λi zs=>zs=nY (((za wd).take i).filter λx=>!decide (m x=m ((za wd).headD 0)))) (by rw[wb];exact A8 tl (by decide)) (kp _ rfl) rfl ?_ ?_
 ·rintro i y zs hy rfl;obtain⟨x,ex,rfl⟩:=dZ hy;have hx:=Az ex;have et:(za wd).take (i+1)=(za wd).take i++[x]:=by rw[Bf,ex];rfl
  obtain⟨t,I⟩:∃t,(za wd)[0]?=some t:=⟨_,Aj (Eh hx)⟩;have eh:(za wd).headD 0=t:=by cases h:za wd with|nil=>rw[h] at I;cases I|cons a r=>rw[h] at I;exact AW I
  rw[eh,et];refine zu gd (ql (V x (cA.mpr hx)) (qd gp (ql (uB (i:=0) I) (zu gd (ql (V t (cA.mpr (Az I))) ?_)))));show xt (!decide ((m x:Int)=(m t:Int))) _ _;rw[aA,BK];by_cases cc:m x=m t
  ·rw[Ao cc];exact⟨L5,EC _,rfl,by rw[C6 (by rw[Ao cc];exact AC),Cd,AQ]⟩
  ·rw[Aq cc];exact⟨L5,EC _,rfl,by rw[C7 (by rw[Aq cc];rfl),Cd,eX];rfl⟩
 rintro zs rfl p1 a3 p2 a0;rw[wb,Bc] at a0 ⊢;have s7:=(By (o:=.lst (nY ((za wd).filter λx=>!decide (m x=m ((za wd).headD 0))))) a3).trans (By (o:=.lst []) a0);have f1:=By (o:=.lst []) a0 _ _ (q9 (L:=L5) (a:=p1) (o:=.lst (nY ((za wd).filter λx=>!decide (m x=m ((za wd).headD 0))))));refine aj (n:=0) (m:=0) (by decide) f1 q9 (l6 _) (.nil:Paired (ju _ 0) _ []) ?_;rw[ac4];have s8:=s6.trans s7;generalize qe (qe L5 p1 (.lst (nY ((za wd).filter λx=>!decide (m x=m ((za wd).headD 0)))))) p2 (.lst [])=L6 at s8 ⊢;refine⟨a,l,c,wd,lk,ct,rfl,⟨s8 _ _ h1,s8 _ _ h2,s8 _ _ h3,by omega,by omega,by omega,C⟩,λr hr=>?_⟩;have all:((za wd).filter λx=>!decide (m x=m ((za wd).headD 0)))=[]↔CmT wd (v4 wd lk ct) (xh true wd):=by
  rw[<-one,List.filter_eq_nil_iff];constructor
  ·intro h x y hx hy;have e:∀z,bT wd z=true->m z=m ((za wd).headD 0):=λz hz=>by have:=h z (cA.mp hz);simpa using this
   rw[e x hx,e y hy]
  ·intro h x hx;have e:=h x ((za wd).headD 0) (cA.mpr hx) (cA.mpr (by cases h:za wd with|nil=>rw[h] at hx;cases hx|cons a r=>exact Av ..))
   simp[e]
 have jt:=zG (wd:=wd) (lk:=lk) (ct:=ct);have last:∀v:Bool,r=v->dc 124 [.bl r,.bl v] L6 (λx L'=>match x with|.bl b=>xt b (dc 124 [ay a l c,ay g T ca] L' (gc Q)) (gc Q (.bl b) L')|_=>False):=λv e=>by subst e;exact⟨_,_,rfl,.flat rfl,_,_,rfl,same s8,k6 (q _)⟩
 show xt (decide (_=[])) _ _;refine zo (λc1=>?_) λc1=>?_
 ·have cm:=all.mp c1;refine qd (s8 _ _ gs) ?_;refine last (decide (((iA ss).length:Int)=((qu lk).length:Int)+((qu ct).length:Int)+((xh true wd).length:Int)+2*((xh false wd).length:Int))) ?_;have a4:=ax ss;have l1:(qu lk).length=lk.length:=Af ..;have l2:(qu ct).length=ct.length:=Af ..;have:=len.mpr cm;rw[Bs,BL,hr];unfold RtX;rw[a4,l1,l2];exact⟨λh=>by omega,λh=>⟨by omega,cm⟩⟩
 ·refine last false ?_;cases r with|false=>rfl|true=>exact absurd (all.mpr (hr.mp rfl).2) c1
end L3
end
set_option maxRecDepth 100000
set_option maxHeartbeats 8000000
namespace K35
open PySem L2 L3 Words
abbrev ng:Str:="_law_knots"
abbrev nh:Str:="_law_web_here"
abbrev nj:Str:="_law_seed"
abbrev nq:Str:="_law_p"
abbrev nr:Str:="_law_word_here"
abbrev nt:Str:="_law_one"
abbrev nu:Str:="_law_script"
abbrev nv:Str:="_law_cuts"
abbrev ny:Str:="_law_two"
abbrev nE:Str:="_law_links"
abbrev nF:Str:="_law_knot"
abbrev nG:Str:="_law_label"
abbrev nH:Str:="_law_forest"
abbrev nI:Str:="_law_k"
abbrev nJ:Str:="_law_found"
abbrev nK:Str:="_law_q"
abbrev nL:Str:="_law_step_here"
abbrev nM:Str:="_law_rule"
abbrev nN:Str:="_law_room"
abbrev nO:Str:="_law_most"
abbrev nQ:Str:="_law_cell_at"
abbrev nR:Str:="_law_crossed"
abbrev nS:Str:="_law_beneath"
def top(i:Nat):Stmt:=PySem.Challenge.pw_oncewise_k35_shrinking_walked.main.body.getD i (.Pass ⟨0,0,0,0⟩)
theorem arj{us:List Value}{n:Nat}(h:us.length=n+1):∃a r,us=a::r/\r.length=n:=by cases us with|nil=>cases h|cons a r=>exact⟨a,r,rfl,Nat.succ.inj h⟩
abbrev fi:Stmt:=(lM (top 1)).getD 0 (.Pass ⟨0,0,0,0⟩)
abbrev cb:Stmt:=(lM (top 1)).getD 1 (.Pass ⟨0,0,0,0⟩)
abbrev eZ:Stmt:=(lM (top 1)).getD 2 (.Pass ⟨0,0,0,0⟩)
abbrev pU:Stmt:=top 4
abbrev eW:Stmt:=top 6
abbrev m4:Stmt:=top 7
abbrev iC:Stmt:=top 8
abbrev o6:Stmt:=top 10
abbrev iB:Stmt:=top 11
abbrev mM:Stmt:=top 12
abbrev iV:Stmt:=top 13
abbrev oP:Stmt:=top 14
abbrev iM:Stmt:=top 15
abbrev mB:Stmt:=top 16
abbrev av:Stmt:=top 18
abbrev jZ:Stmt:=top 19
abbrev ut:Stmt:=top 17
abbrev eU:Stmt:=top 21
abbrev jY:Stmt:=top 22
abbrev mz:Stmt:=top 23
abbrev kA:Stmt:=top 24
abbrev kR:Stmt:=top 25
abbrev kH:Stmt:=top 26
abbrev fu:Stmt:=top 27
abbrev gA:Stmt:=top 28
abbrev kE:Stmt:=top 29
abbrev lB:Stmt:=top 30
abbrev mO:Stmt:=top 31
abbrev kI:Stmt:=top 32
abbrev kW:Stmt:=top 33
abbrev fK:Stmt:=top 34
abbrev eL:Stmt:=top 35
abbrev gE:Stmt:=top 36
abbrev s__law_order:Stmt:=top 37
abbrev fw:Stmt:=top 38
abbrev mU:Stmt:=top 39
abbrev kO:Stmt:=top 40
abbrev gu:Stmt:=top 42
abbrev fq:Stmt:=top 43
abbrev iW:Stmt:=top 41
abbrev kG:Stmt:=top 44
abbrev gG:Stmt:=top 45
abbrev iD:Stmt:=top 46
abbrev uu:Stmt:=top 47
structure V_ where
 (P:Program) (w:World) (K:Ae) (mg:Str->Option Value) (base:Heap) (Pt:Addr) (Ca:Addr)
structure B_(V:V_):Prop where
 hp:∃h:Heap,V.K.In h/\h.Ns mainGlobals V.mg
 be:V.mg "list"=none
 bg:V.mg "range"=none
 bh:V.mg "enumerate"=none
 ba:V.mg "len"=none
 bb:V.mg "isinstance"=none
 bp:V.mg "bool"=none
 bj:V.mg "tuple"=none
 bw:V.mg "zip"=none
 br:V.mg "int"=none
 bv:V.mg "str"=none
 bi:V.mg "sorted"=none
 bu:V.mg "max"=none
 bq:V.mg "min"=none
 D0:dI V.K V.Ca "__init__" "Pieces.__init__" fi
 D1:dI V.K V.Ca "head_of" "Pieces.head_of" cb
 D2:dI V.K V.Ca "unite" "Pieces.unite" eZ
 D3:z0 V.K "is_leaf" pU
 D4:z0 V.K "places_there" eW
 D5:z0 V.K "parts_of" m4
 D6:z0 V.K "eithers_of" iC
 D7:z0 V.K "boths_of" o6
 D8:z0 V.K "part_edges" iB
 D9:z0 V.K "joins_of" mM
 D10:z0 V.K "join_steps" iV
 D11:z0 V.K "can_fold" oP
 D12:z0 V.K "fold_steps" iM
 D13:z0 V.K "steps_by" mB
 D14:z0 V.K "all_come_together" av
 D15:z0 V.K "right_web" jZ
 D16:z0 V.K "shrunk" ut
 D17:z0 V.K nQ eU
 D18:z0 V.K "_law_same" jY
 D19:z0 V.K "_law_mix" mz
 D20:z0 V.K "_law_name" kA
 D21:z0 V.K "_law_word" kR
 D22:z0 V.K "_law_flip" kH
 D23:z0 V.K "_law_weight" fu
 D24:z0 V.K "_law_mirror" gA
 D25:z0 V.K "_law_join" kE
 D26:z0 V.K "_law_fold" lB
 D27:z0 V.K "_law_cut" mO
 D28:z0 V.K "_law_tree" kI
 D29:z0 V.K "_law_told" kW
 D30:z0 V.K nR fK
 D31:z0 V.K nS eL
 D32:z0 V.K "_law_recast" gE
 D33:DefInT V.K "_law_order" s__law_order V.Pt
 D34:z0 V.K "_law_gapped" fw
 D35:z0 V.K "_law_web" mU
 D36:z0 V.K "_law_copy" kO
 D37:z0 V.K "_law_count" gu
 D38:z0 V.K "_law_places" fq
 D39:z0 V.K "_law_whole" iW
 D40:z0 V.K "_law_step" kG
 D41:z0 V.K "_law_walked" gG
 D42:z0 V.K "_law_ended" iD
 k_LEAF_KINDS:ap6 ⟨V.K,V.P,V.w⟩ V.mg "LEAF_KINDS" ft
 md:V.mg "Pieces"=some (.ref V.Ca)
 cl_Pieces:Cls V.K V.Ca
 mAPieces:PySem.W.makesIn V.K V.Ca=true
 mKPieces:PySem.W.keepIn V.K (.ref V.Ca)=true
 xf:L3.XFP V.K V.Ca
abbrev Q_(V:V_)(k:Nat)(x:Str)(ps:List Str)(sp:jx):Prop:=amq V.P V.w V.K V.mg V.base k x ps sp
abbrev c0(_:V_):Prop:=True
local macro_rules|`(tactic| walk_at "s")=>`(tactic| exact⟨rfl,rfl,rfl,by decide +kernel,rfl,by decide +kernel,by decide +kernel⟩)
local macro_rules|`(tactic| walk_at "l")=>`(tactic| first|(rintro _ _ _ ⟨_,e,_⟩;rw[e];rfl)|(rintro _ _ _ ⟨_,_,e,_⟩;rw[e];rfl)|(rintro _ _ _ ⟨_,_,_,e,_⟩;rw[e];rfl)|(rintro _ _ _ ⟨_,_,_,_,e,_⟩;rw[e];rfl)|(rintro _ _ _ ⟨_,_,_,_,_,e,_⟩;rw[e];rfl)|(rintro _ _ _ ⟨_,_,_,_,_,_,e,_⟩;rw[e];rfl)|(rintro _ _ _ ⟨_,_,_,_,_,_,_,e,_⟩;rw[e];rfl)|(rintro _ _ _ ⟨_,_,_,_,_,_,_,_,e,_⟩;rw[e];rfl)|(rintro _ _ _ ⟨_,_,_,_,_,_,_,_,_,e,_⟩;rw[e];rfl)|(rintro _ _ _ ⟨_,_,_,_,_,_,_,_,_,_,e,_⟩;rw[e];rfl)|(rintro _ _ _ ⟨_,_,_,_,_,_,_,_,_,_,_,_,e,_⟩;rw[e];rfl))
local macro_rules|`(tactic| walk_at "x")=>`(tactic| (intro _;walk_at "l"))
local macro_rules|`(tactic| walk_at "b")=>`(tactic| (intro _ _ _ _ _ _ us hl;(repeat (obtain⟨_,_,e,h⟩:=arj hl;clear hl;subst e;have hl:=h;clear h));cases List.eq_nil_of_length_eq_zero hl;rfl))
section
variable {f:Addr}{fd:FuncData}{x q:Str}{st:Stmt}{ps:List Str}(V:V_)(k:Nat)(N:List Str)
theorem W_{sp:jx}{t:ww}(F:Fun V.K x q st f fd)(U:∀ys L Q,sp ys L Q->xr t N.length ys L Q)(h:∀(fx:Value) (A:Around) (outer:List Env) (s:Shared) (H:Hp) (E:XK),wq k (A.deeper (PyProof.Rows.envOfC q (qz st) s.heap.objs.size f fx))->N.Nodup->(A.deeper (PyProof.Rows.envOfC q (qz st) s.heap.objs.size f fx)).units+128<cLine->uv (lG CX0 V.P V.w V.K V.mg V.base N q (qz st) f fx A outer s H E).nox (js st) t)(I:bA N ps (qz st):=by walk_at "s")(len:∀ys L Q,sp ys L Q->ys.length=ps.length:=by walk_at "l"):Fn3 V.P V.w V.K V.mg V.base (k+1) f fd ps sp:=
 ok3 F I len λfx A outer s H E J=>⟨t,h fx A outer s H E J I.nd (huK J),U⟩
theorem M_{sp:jx}{t:ww}(hp:∃h:Heap,V.K.In h/\h.Ns mainGlobals V.mg)(D:z0 V.K x st)(I:∀ys L Q,sp ys L Q->xr t N.length ys L Q)(h:∀f,∀(fx:Value) (A:Around) (outer:List Env) (s:Shared) (H:Hp) (E:XK),wq k (A.deeper (PyProof.Rows.envOfC x (qz st) s.heap.objs.size f fx))->N.Nodup->(A.deeper (PyProof.Rows.envOfC x (qz st) s.heap.objs.size f fx)).units+128<cLine->uv (lG CX0 V.P V.w V.K V.mg V.base N x (qz st) f fx A outer s H E).nox (js st) t)(J:bA N ps (qz st):=by walk_at "s")(len:∀ys L Q,sp ys L Q->ys.length=ps.length:=by walk_at "l")(U:∀(kV ir pm:Value) (an:Option Addr) (fx ct:Value) (us:List Value),us.length=ps.length->bindArgs (PySem.W.fnOf x x (xu st) (js st) (qz st) .none kV ir pm an fx ct) ⟨us,[]⟩=pure (ps.zip us):=by walk_at "b"):Q_ V (k+1) x ps sp:=by obtain⟨_,X,G⟩:=hp;obtain⟨f,fd,F,b,m⟩:=D.use X G U;exact Cal.of (W_ V k N F I (h f) J len) b F.kp m
theorem R_{sp:Nat->jx}{t:Nat->ww}(hp:∃h:Heap,V.K.In h/\h.Ns mainGlobals V.mg)(D:z0 V.K x st)(no:∀ys L Q,¬sp 0 ys L Q)(I:∀n ys L Q,sp (n+1) ys L Q->xr (t n) N.length ys L Q)(h:∀n f,Q_ V (n+k) x ps (sp n)->∀(fx:Value) (A:Around) (outer:List Env) (s:Shared) (H:Hp) (E:XK),wq (n+k) (A.deeper (PyProof.Rows.envOfC x (qz st) s.heap.objs.size f fx))->N.Nodup->(A.deeper (PyProof.Rows.envOfC x (qz st) s.heap.objs.size f fx)).units+128<cLine->uv (lG CX0 V.P V.w V.K V.mg V.base N x (qz st) f fx A outer s H E).nox (js st) (t n))(n:Nat)(J:bA N ps (qz st):=by walk_at "s")(len:∀n ys L Q,sp n ys L Q->ys.length=ps.length:=by walk_at "x")(U:∀(kV ir pm:Value) (an:Option Addr) (fx ct:Value) (us:List Value),us.length=ps.length->bindArgs (PySem.W.fnOf x x (xu st) (js st) (qz st) .none kV ir pm an fx ct) ⟨us,[]⟩=pure (ps.zip us):=by walk_at "b"):Q_ V (n+k) x ps (sp n):=by
 obtain⟨_,X,G⟩:=hp;obtain⟨f,fd,F,b,m⟩:=D.use X G U
 induction n with|zero=>exact Cal.of (Fn3.never no) b F.kp m|succ n g=>rw[Nat.add_right_comm];exact Cal.of (W_ V (n+k) N F (I n) (h n f g) J (len _)) b F.kp m
theorem T_{sp:jx}{t:ww}(hp:∃h:Heap,V.K.In h/\h.Ns mainGlobals V.mg)(D:DefInT V.K x st V.Pt)(U:∀ys L Q,sp ys L Q->xr t N.length ys L Q)(h:∀f,∀(fx:Value) (A:Around) (outer:List Env) (s:Shared) (H:Hp) (E:XK),zP V.K fx V.Pt->wq k (A.deeper (PyProof.Rows.envOfC x (qz st) s.heap.objs.size f fx))->N.Nodup->(A.deeper (PyProof.Rows.envOfC x (qz st) s.heap.objs.size f fx)).units+128<cLine->uv (lG CX0 V.P V.w V.K V.mg V.base N x (qz st) f fx A outer s H E).nox (js st) t)(I:bA N ps (qz st):=by walk_at "s")(len:∀ys L Q,sp ys L Q->ys.length=ps.length:=by walk_at "l")(g:∀(kV ir pm:Value) (an:Option Addr) (fx ct:Value) (us:List Value),us.length=ps.length->bindArgs (PySem.W.fnOf x x (xu st) (js st) (qz st) .none kV ir pm an fx ct) ⟨us,[]⟩=pure (ps.zip us):=by walk_at "b"):Q_ V (k+1) x ps sp:=by obtain⟨_,X,G⟩:=hp;obtain⟨f,fd,F,b,m⟩:=D.use X G g;exact Cal.of (ase F I len λfx A outer s H E C J=>⟨t,h f fx A outer s H E C J I.nd (huK J),U⟩) b F.kp m
end
theorem I_{X:Cx}{a b:Expr}{ta tb:xx}{pos:Pos}(I:QE X a ta)(J:QE X b tb)(hp:rW b:=by exactλ_ _=>rfl):QE X (.Subscript a b pos) (zj aR ta tb):=ao8 (ap1 X.K X.prog X.w) I J hp
theorem vd{X:Cx}{e:Expr}{t:xx}(h:QE X e t)(s:starEach [e] X.env=[(false,eval e X.env)]:=by rfl):QA X [e] (qf t qx):=v9 h vi s
theorem kq{X:Cx}{e f:Expr}{t u:xx}(h:QE X e t)(g:QE X f u)(s:starEach [e,f] X.env=[(false,eval e X.env),(false,eval f X.env)]:=by rfl)(r:starEach [f] X.env=[(false,eval f X.env)]:=by rfl):QA X [e,f] (qf t (qf u qx)):=v9 h (vd g r) (by show _=_;rw[s,r])
theorem bJ{X:Cx}{e f d:Expr}{t u v:xx}(h:QE X e t)(g:QE X f u)(i:QE X d v)(s:starEach [e,f,d] X.env=[(false,eval e X.env),(false,eval f X.env),(false,eval d X.env)]:=by rfl)(r:starEach [f,d] X.env=[(false,eval f X.env),(false,eval d X.env)]:=by rfl)(q:starEach [d] X.env=[(false,eval d X.env)]:=by rfl):QA X [e,f,d] (qf t (qf u (qf v qx))):=v9 h (kq g i r q) (by show _=_;rw[s,r])
theorem E_{X:Cx}{a b:Expr}{ta tb:xx}{pos:Pos}(I:X.A.units+128<cLine)(J:QE X a ta)(U:QE X b tb):QT X (.Compare a [.Eq] [b] pos) (yB (zj (mj false) ta tb)):=x0 (eF X.K X.prog X.w I) J U (xa _)
theorem N_{X:Cx}{a b:Expr}{ta tb:xx}{pos:Pos}(I:X.A.units+128<cLine)(J:QE X a ta)(U:QE X b tb):QT X (.Compare a [.NotEq] [b] pos) (yB (zj (mj true) ta tb)):=x0 (y8 X.K X.prog X.w I) J U (xa _)
theorem S_{X:Cx}{x:Str}{e:Expr}{te:xx}{pos hQ:Pos}(i:Nat)(hN:X.N.Nodup)(h:QE X e te)(I:X.N[i]?=some x:=by rfl)(g:Loc X.env.scope x:=by exact Or.inl rfl)(J:swapsWith e (some (.Name x hQ)) pos.line X.env=pure false:=by rfl)(U:X.fn x=true\/X.env.scope.names.lookup x=some .local:=by first|exact .inl rfl|exact .inr rfl|assumption):QS X (.Assign [.Name x hQ] e pos) (zr te (qg i)):=aS (i:=i) hN I g h J U
theorem G_{X:Cx}{x:Str}{pos:Pos}(i:Nat)(hN:X.N.Nodup)(I:X.N[i]?=some x:=by rfl)(U:Loc X.env.scope x:=by exact Or.inl rfl)(J:X.fn x=true\/X.env.scope.names.lookup x=some .local:=by first|exact .inl rfl|exact .inr rfl|assumption):QG X (.Name x pos) (qg i):=iU (i:=i) hN I U J
theorem C_{X:Cx}{e:Expr}{es:List Expr}{tr:fC}{pos p:Pos}{j k:Nat}{x:Str}{ps:List Str}{sp:jx}(c:amq X.prog X.w X.K X.mg X.base j x ps sp)(U:wq k X.A)(g:QA X (e::es) tr)(l:j<=k:=by first|decide|exact Al _|exact AK (by decide) (C0 _ _))(o:Gl X x:=by rfl)(I:Ew x:=by decide)(r:Et e es X:=by rfl)(J:Eu pos es X:=by rfl):QE X (.Call (.Name x p) (e::es) [] pos) (zd sp tr):=at0 (Cal.mono c l) U o g I r J
theorem J_{X:Cx}{x:Str}{n:Int}{k:Nat}{p q pos:Pos}(i:Nat)(hN:X.N[i]?=some x:=by rfl)(I:Vis X.env.scope x:=by first|exact Or.inl rfl|exact Or.inr (Or.inl rfl)|exact Or.inr (Or.inr rfl))(hd:Ew x:=by decide)(hc:Ex x:=by decide):QE X (.Subscript (.Name x p) (.Constant (.int n) k q) pos) (zj aR (qa i) (yC (.int n))):=I_ (qv i hN I hd hc) qk (λ_ _=>rfl)
theorem L_{X:Cx}{e:Expr}{t:xx}{p pos:Pos}(I:X.mg "len"=none)(h:QE X e t)(s:starEach [e] X.env=[(false,eval e X.env)]:=by rfl)(J:Gl X "len" := by rfl):QE X (.Call (.Name "len" p) [e] [] pos) (cY du (qf t qx)):=vv (aka X.K X.prog X.w) J I alq (vd h s) (hs:=s)
theorem o9{l:List Str}(h:decide l.Nodup=true:=by kernel_rfl):l.Nodup:=of_decide_eq_true h
abbrev c1(V:V_):Prop:=c0 V/\adl V.P V.w V.K V.mg V.base 2 V.Ca ["self","count"] (mY V.Ca)
theorem d1(V:V_)(B:B_ V)(c:c0 V):c1 V:=⟨c,by obtain⟨f,fd,F,b,m⟩:=B.D0.use (ps:=["self","count"]) (by walk_at "b");exact⟨_,_,⟨B.mAPieces,m.at_,m.fn,B.mKPieces⟩,⟨_,rfl,W_ V 0 ["self","count"] F (ae7 B.xf) λ_ _ _ _ _ _ I hN J=>(qh (aih (qv 0) (oG rfl rfl B.be rfl B.bg (qv 1))))⟩,b⟩⟩
abbrev c2(V:V_):Prop:=c1 V/\ab8 V.P V.w V.K V.mg V.base 1 V.Ca "head_of" ["self","place"] (ld V.Ca)
theorem d2(V:V_)(B:B_ V)(c:c1 V):c2 V:=⟨c,by obtain⟨f,fd,F,b,m⟩:=B.D1.use (ps:=["self","place"]) (by walk_at "b");exact⟨_,_,m,W_ V 0 ["self","place","here"] F (ail B.xf) λ_ _ _ _ _ _ J hN I=>(qc (S_ 2 hN (qv 1)) (qc (fA wh (N_ I (I_ (jI (qv 0)) (qv 2)) (qv 2)) (qc (qY (jI (qv 0)) (qv 2) (I_ (jI (qv 0)) (I_ (jI (qv 0)) (qv 2)))) (qh (S_ 2 hN (I_ (jI (qv 0)) (qv 2)))))) (qh (qw (qv 2))))),b⟩⟩
abbrev c3(V:V_):Prop:=c2 V/\ab8 V.P V.w V.K V.mg V.base 2 V.Ca "unite" ["self","p","q"] (iK V.Ca)
theorem d3(V:V_)(B:B_ V)(c:c2 V):c3 V:=⟨c,by obtain⟨f,fd,F,b,m⟩:=B.D2.use (ps:=["self","p","q"]) (by walk_at "b");exact⟨_,_,m,W_ V 1 ["self","p","q","first","second"] F (acb B.xf) λ_ _ _ _ _ _ I hN J=>(qc (S_ 3 hN (aao (c.2.mono (by decide)) I B.cl_Pieces (qv 0) (vd (qv 1)))) (qc (S_ 4 hN (aao (c.2.mono (by decide)) I B.cl_Pieces (qv 0) (vd (qv 2)))) (qc (qY (jI (qv 0)) (qv 3) (qv 4)) (qh (qw (aJ (y8 _ _ _ J) (qv 3) (qv 4) (xa _))))))),b⟩⟩
abbrev c4(V:V_):Prop:=c3 V/\Q_ V 1 "is_leaf" ["word"] gS
theorem d4(V:V_)(B:B_ V)(c:c3 V):c4 V:=⟨c,M_ V 0 ["word"] B.hp B.D3 wJ λ_ _ _ _ _ _ _ I hN J=>(qh (qw (aJ (ac3 _ _ _) (J_ 0) (amf B.k_LEAF_KINDS rfl) (by with_unfolding_all rfl))))⟩
abbrev c5(V:V_):Prop:=c4 V/\Q_ V 1 "places_there" ["knots"] iE
theorem d5(V:V_)(B:B_ V)(c:c4 V):c5 V:=⟨c,M_ V 0 ["knots"] B.hp B.D4 aco λ_ _ _ _ _ _ _ I hN J=>(qh (qw (cG ["place","knot" ] (EJ (by rfl)) rfl (fQ rfl B.bh (qv 0)) (lQ rfl o9 (λ_ _ _ _=>rfl) (λ_ _ _ _=>rfl)) (λ_ _ _ _=>a8 (bY (qv 2))) (λ_ _ _ _=>(qv 1)))))⟩
abbrev c6(V:V_):Prop:=c5 V/\Q_ V 2 "parts_of" ["knot"] iL
theorem d6(V:V_)(B:B_ V)(c:c5 V):c6 V:=⟨c,M_ V 1 ["knot"] B.hp B.D5 af3 λ_ _ _ _ _ _ _ I hN J=>(qc (j7 (vf (aw (i4 (qv 0)) (aZ (we (C_ c.1.2 I (vd (qv 0))))))) (qh (qw (j9 vi))) zb) (qh (qw (j9 (kq (J_ 0) (J_ 0))))))⟩
abbrev c7(V:V_):Prop:=c6 V/\Q_ V 1 "eithers_of" ["web"] hV
theorem d7(V:V_)(B:B_ V)(c:c6 V):c7 V:=⟨c,M_ V 0 ["web"] B.hp B.D6 aey λ_ _ _ _ _ _ _ J hN I=>(qh (qw (cG ["place","knot" ] (EJ (by rfl)) rfl (fQ rfl B.bh (J_ 0)) (lQ rfl o9 (λ_ _ _ _=>rfl) (λ_ _ _ _=>rfl)) (λ_ _ _ _=>a8 (vf (kg (bY (qv 2)) (vo (E_ I (J_ 2) ja))))) (λ_ _ _ _=>(qv 1)))))⟩
abbrev c8(V:V_):Prop:=c7 V/\Q_ V 2 "boths_of" ["web"] oT
theorem d8(V:V_)(B:B_ V)(c:c7 V):c8 V:=⟨c,M_ V 1 ["web"] B.hp B.D7 ae0 λ_ _ _ _ _ _ _ I hN J=>(qh (qw (cG ["place"] (EJ (by rfl)) rfl (x8 (C_ c.1.1.2 I (vd (J_ 0)))) (v5 o9 (λ_ _ _ _=>Or.inl rfl) (λ_ _ _ _=>rfl)) (λ_ _ _ _=>a8 (E_ J (I_ (I_ (J_ 0) (qv 1)) qk) ja)) (λ_ _ _ _=>(qv 1)))))⟩
abbrev c9(V:V_):Prop:=c8 V/\Q_ V 3 "part_edges" ["knots","places"] iu
theorem d9(V:V_)(B:B_ V)(c:c8 V):c9 V:=⟨c,M_ V 2 ["knots","places","edges","place"] B.hp B.D8 aa6 λ_ _ _ _ _ _ _ I hN J=>(qc (S_ 2 hN (j9 vi)) (qc (wc wh rfl (x8 (qv 1)) (iU (i:=3) hN rfl (Or.inr rfl)) (qh (zg (cz (qv 2) (vd (cG ["part"] (EJ (by rfl)) rfl (x8 (C_ c.1.1.2 I (vd (I_ (qv 0) (qv 3))))) (v5 o9 (λ_ _ _ _=>Or.inl rfl) (λ_ _ _ _=>rfl)) (λ_ _ _ _=>jQ) (λ_ _ _ _=>(zp (kq (qv 3) (qv 4)))))))))) (qh (qw (qv 2)))))⟩
abbrev bS(V:V_):Prop:=c9 V/\Q_ V 4 "joins_of" ["web"] iQ
theorem d10(V:V_)(B:B_ V)(c:c9 V):bS V:=⟨c,M_ V 3 ["web"] B.hp B.D9 aed λ_ _ _ _ _ _ _ I hN J=>(qh (qw (qp xg (qp xg (J_ 0) (J_ 0)) (C_ c.2 I (kq (J_ 0) (C_ c.1.2 I (vd (qv 0))))))))⟩
abbrev c11(V:V_):Prop:=bS V/\Q_ V 3 "join_steps" ["pieces","joins"] (gW V.Ca)
theorem d11(V:V_)(B:B_ V)(c:bS V):c11 V:=⟨c,M_ V 2 ["pieces","joins","steps","p","q"] B.hp B.D10 wW λ_ _ _ _ _ _ _ I hN J=>(qc (S_ 2 hN (j9 vi)) (qc (wc wh rfl (x8 (qv 1)) (aK rfl (zk (G_ 3 hN) (zk (G_ 4 hN) k8))) (qh (j7 (we (aao (c.1.1.1.1.1.1.1.2.mono (by decide)) I B.cl_Pieces (qv 0) (kq (qv 3) (qv 4)))) (qh (zg (zf (qv 2) (vd (zp (bJ ja (qv 3) (qv 4))))))) zb))) (qh (qw (qv 2)))))⟩
abbrev c12(V:V_):Prop:=c11 V/\Q_ V 3 "can_fold" ["pieces","knots","place"] (lh V.Ca)
theorem d12(V:V_)(B:B_ V)(c:c11 V):c12 V:=⟨c,M_ V 2 ["pieces","knots","place","heads"] B.hp B.D11 acl λ_ _ _ _ _ _ _ I hN J=>(qc (fM ["part"] (i:=3) hN rfl (Or.inl rfl) (EJ (by rfl)) rfl (x8 (C_ c.1.1.1.1.1.2 I (vd (I_ (qv 1) (qv 2))))) (v5 o9 (λ_ _ _ _=>Or.inl rfl) (λ_ _ _ _=>rfl)) (λ_ _ _ _=>jQ) (λ_ _ _ _=>(aao (c.1.1.1.1.1.1.1.1.1.2.mono (by decide)) I B.cl_Pieces (qv 0) (vd (qv 4))))) (qh (qw (da (aJ (eF _ _ _ J) (J_ 3) (J_ 3) (xa _)) (fF (aJ (y8 _ _ _ J) (J_ 3) (aao (c.1.1.1.1.1.1.1.1.1.2.mono (by decide)) I B.cl_Pieces (qv 0) (vd (qv 2))) (xa _)))))))⟩
abbrev c13(V:V_):Prop:=c12 V/\Q_ V 4 "fold_steps" ["pieces","knots","eithers"] (gU V.Ca)
theorem d13(V:V_)(B:B_ V)(c:c12 V):c13 V:=⟨c,M_ V 3 ["pieces","knots","eithers","steps","before","place"] B.hp B.D12 xH λ_ _ _ _ _ _ _ I hN J=>(qc (S_ 3 hN (j9 vi)) (qc (S_ 4 hN (ano anp qk)) (qc (fA wh (x0 oq (qv 4) (L_ B.ba (qv 3)) (xa _)) (qc (S_ 4 hN (L_ B.ba (qv 3))) (qh (wc wh rfl (x8 (qv 2)) (G_ 5 hN) (qh (j7 (we (C_ c.2 I (bJ (qv 0) (qv 1) (qv 5)))) (qc (zg (aao (c.1.1.1.1.1.1.1.1.1.2.mono (by decide)) I B.cl_Pieces (qv 0) (kq (qv 5) (I_ (I_ (qv 1) (qv 5)) qk)))) (qh (zg (zf (qv 3) (vd (zp (kq ja (qv 5)))))))) zb)))))) (qh (qw (qv 3))))))⟩
abbrev c14(V:V_):Prop:=c13 V/\Q_ V 5 "steps_by" ["knots","joins","eithers"] (fP V.Ca)
theorem d14(V:V_)(B:B_ V)(c:c13 V):c14 V:=⟨c,M_ V 4 ["knots","joins","eithers","pieces"] B.hp B.D13 abi λ_ _ _ _ _ _ _ I hN J=>(qc (S_ 3 hN (aoj (c.1.1.1.1.1.1.1.1.1.1.1.1.2.mono (by decide)) I rfl B.md (vd (L_ B.ba (qv 0))))) (qh (qw (qp xg (C_ c.1.1.2 I (kq (qv 3) (qv 1))) (C_ c.2 I (bJ (qv 3) (qv 0) (qv 2)))))))⟩
abbrev c15(V:V_):Prop:=c14 V/\Q_ V 6 "all_come_together" ["knots","joins","eithers"] sI
theorem d15(V:V_)(B:B_ V)(c:c14 V):c15 V:=⟨c,M_ V 5 ["knots","joins","eithers","due"] B.hp B.D14 agl λ_ _ _ _ _ _ _ I hN J=>(qc (S_ 3 hN (qp bz (L_ B.ba (C_ c.1.1.1.1.1.1.1.1.1.2 I (vd (qv 0)))) qk)) (qh (qw (da (aJ (eF _ _ _ J) (qp xg (L_ B.ba (qv 1)) (L_ B.ba (qv 2))) (qv 3) (xa _)) (fF (aJ (eF _ _ _ J) (L_ B.ba (C_ c.2 I (bJ (qv 0) (qv 1) (qv 2)))) (qv 3) (xa _)))))))⟩
abbrev c16(V:V_):Prop:=c15 V/\Q_ V 7 "right_web" ["web"] jM
theorem d16(V:V_)(B:B_ V)(c:c15 V):c16 V:=⟨c,M_ V 6 ["web"] B.hp B.D15 abg λ_ _ _ _ _ _ _ I hN J=>(qh (qw (C_ c.2 I (bJ (J_ 0) (C_ c.1.1.1.1.1.2 I (vd (qv 0))) (C_ c.1.1.1.1.1.1.1.1.2 I (vd (qv 0)))))))⟩
abbrev c17(V:V_):Prop:=c16 V/\Q_ V 6 "shrunk" ["web"] jT
theorem d17(V:V_)(B:B_ V)(c:c16 V):c17 V:=⟨c,M_ V 5 ["web"] B.hp B.D16 aa4 λ_ _ _ _ _ _ _ I hN J=>(qh (qw (C_ c.1.1.2 I (bJ (J_ 0) (C_ c.1.1.1.1.1.1.2 I (vd (qv 0))) (C_ c.1.1.1.1.1.1.1.1.1.2 I (vd (qv 0)))))))⟩
abbrev c18(V:V_):Prop:=c17 V/\Q_ V 1 nQ [nu,nI] gZ
theorem d18(V:V_)(B:B_ V)(c:c17 V):c18 V:=⟨c,M_ V 0 [nu,nI] B.hp B.D17 vU λ_ _ _ _ _ _ _ I hN J=>(qc (j7 (x0 oq (qv 1) (L_ B.ba (qv 0)) (xa _)) (qh (qw (I_ (qv 0) (qv 1)))) zb) (qh (qw qk)))⟩
abbrev c19(V:V_):Prop:=c18 V/\Q_ V 125 "_law_same" [nJ,"_law_due"] (dc 124)
theorem d19(V:V_)(B:B_ V)(c:c18 V):c19 V:=⟨c,R_ V 1 [nJ,"_law_due",nt,"_law_other"] B.hp B.D18 sK ag9 (λ_ _ I _ _ _ _ _ _ U hN J=>(qc (j7 (vf (aw (we (va .bool rfl B.bb rfl B.bp gt (qv 0))) (aZ (we (va .bool rfl B.bb rfl B.bp gt (qv 1)))))) (qh (qw (da (va .bool rfl B.bb rfl B.bp gt (qv 0)) (da (va .bool rfl B.bb rfl B.bp gt (qv 1)) (fF (aJ (eF _ _ _ J) (qv 0) (qv 1) (xa _))))))) zb) (qc (j7 (we (wD .list .tuple rfl B.bb rfl B.be bx rfl B.bj fJ (qv 1))) (qc (j7 (vf (aw (N_ J (va .list rfl B.bb rfl B.be bx (qv 0)) (va .list rfl B.bb rfl B.be bx (qv 1))) (aZ (N_ J (va .tuple rfl B.bb rfl B.bj fJ (qv 0)) (va .tuple rfl B.bb rfl B.bj fJ (qv 1)))))) (qh (qw gD)) zb) (qc (j7 (N_ J (L_ B.ba (qv 0)) (L_ B.ba (qv 1))) (qh (qw gD)) zb) (qc (wc wh rfl (am5 rfl B.bw (kq (qv 0) (qv 1))) (aK rfl (zk (G_ 2 hN) (zk (G_ 3 hN) k8))) (qh (j7 (gf (we (C_ I U (kq (qv 2) (qv 3))))) (qh (qw gD)) zb))) (qh (qw gD))))) zb) (qc (j7 (we (va .int rfl B.bb rfl B.br rN (qv 1))) (qh (qw (da (va .int rfl B.bb rfl B.br rN (qv 0)) (fF (aJ (eF _ _ _ J) (qv 0) (qv 1) (xa _)))))) zb) (qc (j7 (we (va .str rfl B.bb rfl B.bv xS (qv 1))) (qh (qw (da (va .str rfl B.bb rfl B.bv xS (qv 0)) (fF (aJ (eF _ _ _ J) (qv 0) (qv 1) (xa _)))))) zb) (qh (qw (ak3 (qv 0))))))))) 124⟩
abbrev c20(V:V_):Prop:=c19 V/\Q_ V 1 "_law_mix" ["_law_cell",nI,"_law_factor"] eY
theorem d20(V:V_)(B:B_ V)(c:c19 V):c20 V:=⟨c,M_ V 0 ["_law_cell",nI,"_law_factor"] B.hp B.D19 alf λ_ _ _ _ _ _ _ I hN J=>(qh (qw (qp aO (qp xq (qp qH (qp xg (qp xg (qp qH (qp xq (qv 0) qk) qk) (qp qH (qv 1) (qv 1))) qk) (qv 2)) qk) qk)))⟩
abbrev c21(V:V_):Prop:=c20 V/\Q_ V 1 "_law_name" [nj,"_law_which"] oZ
theorem d21(V:V_)(B:B_ V)(c:c20 V):c21 V:=⟨c,M_ V 0 [nj,"_law_which","_law_letters","_law_size","_law_place","_law_base","_law_sign"] B.hp B.D20 adx λ_ _ _ _ _ _ _ J hN I=>(qc (aS (i:=2) hN rfl (Or.inr rfl) ja) (qc (S_ 3 hN (qp xg qk (qp xq (qv 0) qk))) (qc (S_ 4 hN (qp xq (qp aO (qv 0) qk) (qv 3))) (qc (S_ 5 hN (ag1 ja (vd (cG [nI] (EJ (by rfl)) rfl (dE rfl B.bg (vd qk)) (v5 o9 (λ_ _ _ _=>Or.inl rfl) (λ_ _ _ _=>rfl)) (λ_ _ _ _=>jQ) (λ_ _ _ _=>(I_ (qv 2) (qp xq (qp xg (qp aO (qv 0) qk) (qp qH qk (qv 7))) qk))))))) (qc (j7 (E_ I (qp xq (qp aO (qv 0) qk) qk) qk) (qh (qw (cT (ac7 _ _ _) (qv 5) iR (dM (qp xg qk (qp xq (qp xg (qv 1) (qv 0)) qk)))))) zb) (qc (S_ 6 hN (I_ (qv 2) (qp xq (qp xg (qp xg (qp aO (qv 0) qk) (qp qH qk (qv 4))) (qv 1)) qk))) (qh (qw (qp xg (qp xg (cT (ac7 _ _ _) (qv 5) iR (dM (qv 4))) (qv 6)) (cT (ac7 _ _ _) (qv 5) (dM (qp xg (qv 4) qk)) (dM (qv 3))))))))))))⟩
abbrev c22(V:V_):Prop:=c21 V/\Q_ V 121 "_law_word" [ng,nq] (a6 120)
theorem d22(V:V_)(B:B_ V)(c:c21 V):c22 V:=⟨c,R_ V 1 [ng,nq,nF] B.hp B.D21 rF tD (λ_ _ I _ _ _ _ _ _ J hN U=>(qc (S_ 2 hN (I_ (qv 0) (qv 1))) (qc (j7 (E_ U (L_ B.ba (qv 2)) qk) (qh (qw (qv 2))) zb) (qh (qw (zp (bJ (J_ 2) (C_ I J (kq (qv 0) (J_ 2))) (C_ I J (kq (qv 0) (J_ 2)))))))))) 120⟩
abbrev c23(V:V_):Prop:=c22 V/\Q_ V 121 "_law_flip" [nr] (cV 120)
theorem d23(V:V_)(B:B_ V)(c:c22 V):c23 V:=⟨c,R_ V 1 [nr,"_law_sides"] B.hp B.D22 ado acv (λ_ _ I _ _ _ _ _ _ J hN U=>(qc (S_ 1 hN (agk [ ("plain" ,"turned") ,("turned" ,"plain") ,("both" ,"either") ,("either" ,"both") ] (hZ df df (hZ df df (hZ df df (hZ df df ag7)))) rfl rfl (List.cons_ne_nil _ _) (Dp rfl))) (qc (j7 (E_ U (L_ B.ba (qv 0)) qk) (qh (qw (zp (kq (I_ (qv 1) (J_ 0)) (J_ 0))))) zb) (qh (qw (zp (bJ (I_ (qv 1) (J_ 0)) (C_ I J (vd (J_ 0))) (C_ I J (vd (J_ 0)))))))))) 120⟩
abbrev c24(V:V_):Prop:=c23 V/\Q_ V 121 "_law_weight" [nr] (cQ 120)
theorem d24(V:V_)(B:B_ V)(c:c23 V):c24 V:=⟨c,R_ V 1 [nr] B.hp B.D23 oV zM (λ_ _ I _ _ _ _ _ _ J hN U=>(qc (j7 (E_ U (L_ B.ba (qv 0)) qk) (qh (qw qk)) zb) (qh (qw (qp xg (qp xg qk (C_ I J (vd (J_ 0)))) (C_ I J (vd (J_ 0)))))))) 120⟩
abbrev c25(V:V_):Prop:=c24 V/\Q_ V 127 "_law_mirror" [ng,nr] (dC 5)
theorem d25(V:V_)(B:B_ V)(c:c24 V):c25 V:=⟨c,R_ V 122 [ng,nr,"_law_left","_law_right","_law_turn","_law_same_here","_law_low","_law_high"] B.hp B.D24 aaj zW (λ_ _ I _ _ _ _ _ _ J hN U=>(qc (j7 (E_ U (L_ B.ba (qv 1)) qk) (qc (zg (zf (qv 0) (vd (C_ c.1.2 J (vd (qv 1)))))) (qc (zg (zf (qv 0) (vd (qv 1)))) (qh (qw (j9 (bJ (zp (bJ ja (qp bz (L_ B.ba (qv 0)) qk) (qp bz (L_ B.ba (qv 0)) qk))) (qp bz (L_ B.ba (qv 0)) qk) (qp bz (L_ B.ba (qv 0)) qk))))))) zb) (qc (S_ 2 hN (C_ I J (kq (qv 0) (J_ 1)))) (qc (S_ 3 hN (C_ I J (kq (qv 0) (J_ 1)))) (qc (zg (zf (qv 0) (vd (zp (bJ (I_ (C_ c.1.2 J (vd (qv 1))) qk) (J_ 2) (J_ 3)))))) (qc (zg (zf (qv 0) (vd (zp (bJ (J_ 1) (J_ 2) (J_ 3)))))) (qc (rD (i:=4) (j:=5) rfl hN rfl rfl (by decide) rfl rfl (kq (qp bz (L_ B.ba (qv 0)) qk) (qp bz (L_ B.ba (qv 0)) qk)) rfl) (qc (S_ 6 hN (fD (E_ U (J_ 1) ja) (qv 4) (qv 5))) (qc (S_ 7 hN (fD (E_ U (J_ 1) ja) (qv 5) (qv 4))) (qh (qw (j9 (bJ (zp (bJ ja (qv 7) (zp (v9 ja (bJ (qv 6) (J_ 2) (J_ 3)))))) (qv 4) (qv 5)))))))))))))) 5⟩
abbrev c26(V:V_):Prop:=c25 V/\Q_ V 1 "_law_join" [ng,nH,nt,ny] rR
theorem d26(V:V_)(B:B_ V)(c:c25 V):c26 V:=⟨c,M_ V 0 [ng,nH,nt,ny,"_law_first","_law_second","_law_left","_law_right","_law_ends"] B.hp B.D25 aho λ_ _ _ _ _ _ _ I hN J=>(qc (S_ 4 hN (cX (qv 1) (vd (qp xq (qv 3) (L_ B.ba (qv 1)))))) (qc (S_ 5 hN (cX (qv 1) (vd (qp xq (qv 2) (L_ B.ba (qv 1)))))) (qc (aS (i:=6) hN rfl (Or.inr rfl) (I_ (J_ 4) (qp xq (qp aO (qv 3) qk) (L_ B.ba (J_ 4))))) (qc (aS (i:=7) hN rfl (Or.inr rfl) (I_ (J_ 5) (qp xq (qp aO (qv 2) qk) (L_ B.ba (J_ 5))))) (qc (zg (zf (qv 0) (vd (zp (bJ ja (qv 6) (qv 7)))))) (qc (fM [nq] (i:=8) hN rfl (Or.inl rfl) (EJ (by rfl)) rfl (x8 (qp xg (J_ 4) (J_ 5))) (v5 o9 (λ_ _ _ _=>Or.inl rfl) (λ_ _ _ _=>rfl)) (λ_ _ _ _=>a8 (x0 (xL _ _ _) (qv 9) (zp (kq (qv 6) (qv 7))) (by with_unfolding_all rfl))) (λ_ _ _ _=>(qv 9))) (qh (zg (zf (qv 1) (vd (j9 (kq (zp (v9 ja (bJ (qp bz (L_ B.ba (qv 0)) qk) (J_ 4) (J_ 5)))) (qp xg (qv 8) (j9 (vd (qp bz (L_ B.ba (qv 0)) qk))))))))))))))))⟩
abbrev c27(V:V_):Prop:=c26 V/\Q_ V 1 "_law_fold" [ng,"_law_tree_here",nt,ny] mK
theorem d27(V:V_)(B:B_ V)(c:c26 V):c27 V:=⟨c,M_ V 0 [ng,"_law_tree_here",nt,ny,"_law_left","_law_right"] B.hp B.D26 ady λ_ _ _ _ _ _ _ I hN J=>(qc (j7 (x0 oq (L_ B.ba (J_ 1)) qk (xa _)) (qh yT) zb) (qc (S_ 4 hN (cX (J_ 1) (vd (qp xq (qv 3) (L_ B.ba (J_ 1)))))) (qc (S_ 5 hN (cX (J_ 1) (vd (qp xq (qv 2) (L_ B.ba (J_ 1)))))) (qc (zg (zf (qv 0) (vd (zp (bJ ja (qv 4) (qv 5)))))) (qc (qY (qv 1) qk (zp (bJ ja (qp bz (L_ B.ba (qv 0)) qk) (J_ 1)))) (qh (zg (zf (J_ 1) (vd (qp bz (L_ B.ba (qv 0)) qk))))))))))⟩
abbrev c28(V:V_):Prop:=c27 V/\Q_ V 128 "_law_cut" [ng,nH,nt,ny] rh
theorem d28(V:V_)(B:B_ V)(c:c27 V):c28 V:=⟨c,M_ V 127 [ng,nH,nt,ny,"_law_first",nq,nr,"_law_second",nK,"_law_at","_law_end",nM,"_law_same_here","_law_ends"] B.hp B.D27 ahx λ_ _ _ _ _ _ _ I hN J=>(qc (S_ 4 hN (cX (qv 1) (vd (qp xq (qv 3) (L_ B.ba (qv 1)))))) (qc (aS (i:=5) hN rfl (Or.inr rfl) (I_ (J_ 4) (qp xq (qp aO (qv 3) qk) (L_ B.ba (J_ 4))))) (qc (S_ 6 hN (C_ c.1.1.1.1.1.2 I (kq (qv 0) (qv 5)))) (qc (eS (zp (kq bP bP)) (aK rfl (zk (G_ 7 hN) (zk (iU (i:=8) hN rfl (Or.inr rfl)) k8)))) (qc (wc wh rfl (dE rfl B.bg (vd (L_ B.ba (qv 1)))) (G_ 9 hN) (qh (wc wh rfl (x8 (I_ (I_ (qv 1) (qv 9)) qk)) (G_ 10 hN) (qh (j7 (vf (kg (i4 (qv 7)) (vo (E_ J (C_ c.1.1.1.1.1.2 I (kq (qv 0) (qv 10))) (C_ c.1.1.1.1.2 I (vd (qv 6))))))) (qh (eS (zp (kq (I_ (qv 1) (qv 9)) (qv 10))) (aK rfl (zk (G_ 7 hN) (zk (iU (i:=8) hN rfl (Or.inr rfl)) k8))))) zb))))) (qc (j7 (vf (kg (i4 (qv 7)) (vo (x0 ago (C_ c.1.1.1.2 I (vd (qv 6))) qk (xa _))))) (qc (zg (zf (qv 1) (vd (qv 4)))) (qh yT)) zb) (w5 (j7 (i4 (qv 7)) (qc (eS (C_ c.1.1.2 I (kq (qv 0) (qv 6))) (alo rfl (zk (G_ 11 hN) (zk (iU (i:=8) hN rfl (Or.inr rfl)) (zk (G_ 12 hN) k8))))) (qh (S_ 7 hN (j9 (kq (qv 11) (j9 (kq (qv 8) (qv 12)))))))) (qh (zg (aak J (qv 1) (vd (qv 7)))))) (qc (fM ["_law_x"] (i:=13) hN rfl (Or.inl rfl) (EJ (by rfl)) rfl (x8 (qp xg (J_ 4) (J_ 7))) (v5 o9 (λ_ _ _ _=>Or.inl rfl) (λ_ _ _ _=>rfl)) (λ_ _ _ _=>a8 (x0 (xL _ _ _) (qv 14) (zp (kq (qv 5) (qv 8))) (by with_unfolding_all rfl))) (λ_ _ _ _=>(qv 14))) (qh (j7 (E_ J (qp xq (qv 2) qk) qk) (qh (zg (zf (qv 1) (vd (j9 (kq (zp (v9 ja (v9 (qv 5) (bJ (qv 8) (J_ 4) (J_ 7))))) (qv 13))))))) (qh (zg (zf (qv 1) (vd (j9 (kq (zp (v9 ja (v9 (qv 8) (bJ (qv 5) (J_ 7) (J_ 4))))) (qv 13)))))))))))))))))⟩
abbrev c29(V:V_):Prop:=c28 V/\Q_ V 129 "_law_tree" ["_law_cells",nj,nN] lL
theorem d29(V:V_)(B:B_ V)(c:c28 V):c29 V:=⟨c,M_ V 128 ["_law_cells",nj,nN,ng,nH,nI,"_law_cell",nt,ny,"_law_deed","_law_at"] B.hp B.D28 aia λ_ _ _ _ _ _ _ I hN J=>(qc (S_ 3 hN (j9 vi)) (qc (S_ 4 hN (j9 vi)) (qc (wc wh rfl (fQ rfl B.bh (qv 0)) (aK rfl (zk (G_ 5 hN) (zk (G_ 6 hN) k8))) (qc (rD (i:=7) (j:=8) rfl hN rfl rfl (by decide) rfl rfl (kq (C_ c.1.1.1.1.1.1.1.1.2 I (bJ (qv 6) (qv 5) qk)) (C_ c.1.1.1.1.1.1.1.1.2 I (bJ (qv 6) (qv 5) qk))) rfl) (qc (j7 (x0 ago (qp xg (qp xg (L_ B.ba (qv 3)) (L_ B.ba (qv 4))) qk) (qv 2) (xa _)) (qh tF) zb) (qc (S_ 9 hN (qp xq (qv 7) qk)) (qc (S_ 7 hN (qp aO (qv 7) qk)) (qh (j7 (vf (aw (x0 oq (qv 9) qk (xa _)) (aZ (E_ J (qv 4) (j9 vi))))) (qc (zg (zf (qv 3) (vd (zp (kq ja (C_ c.1.1.1.1.1.1.1.2 I (kq (qv 1) (qp xq (qv 8) qk)))))))) (qc (zg (zf (qv 3) (vd (zp (kq ja (C_ c.1.1.1.1.1.1.1.2 I (kq (qv 1) (qp xq (qv 8) qk)))))))) (w5 (j7 (E_ J (qp xq (qv 7) qk) qk) (qh (zg (zf (qv 3) (vd (cX (qv 3) (vd (qp bz (L_ B.ba (qv 3)) qk))))))) zb) (qc (S_ 10 hN (qp bz (L_ B.ba (qv 3)) qk)) (qh (zg (zf (qv 4) (vd (j9 (kq (zp (bJ ja (qv 10) (qp xg (qv 10) qk))) (j9 (kq (qv 10) (qp xg (qv 10) qk))))))))))))) (qh (j7 (x0 oq (qv 9) qk (xa _)) (qh (zg (C_ c.1.2 I (v9 (qv 3) (bJ (I_ (qv 4) (qp xq (qv 8) (L_ B.ba (qv 4)))) (qv 7) (qp aO (qv 8) qk)))))) (qh (j7 (vf (kg (x0 oq (qv 9) qk (xa _)) (vo (x0 ago (L_ B.ba (qv 4)) qk (xa _))))) (qh (zg (C_ c.1.1.2 I (v9 (qv 3) (bJ (qv 4) (qv 7) (qv 8)))))) (qh (zg (C_ c.2 I (v9 (qv 3) (bJ (qv 4) (qv 7) (qv 8))))))))))))))))) (w5 (j7 (E_ J (qv 4) (j9 vi)) (qc (zg (zf (qv 3) (vd (zp (kq ja (C_ c.1.1.1.1.1.1.1.2 I (kq (qv 1) qk))))))) (qc (zg (zf (qv 3) (vd (zp (kq ja (C_ c.1.1.1.1.1.1.1.2 I (kq (qv 1) qk))))))) (qh (zg (zf (qv 4) (vd (j9 (kq (zp (bJ ja qk qk)) (j9 (kq qk qk)))))))))) zb) (qc (fA wh (x0 ago (L_ B.ba (qv 4)) qk (xa _)) (qh (zg (C_ c.1.1.2 I (v9 (qv 3) (bJ (qv 4) (qp xg (qp aO (qv 1) qk) (L_ B.ba (qv 4))) (qp aO (qv 1) qk))))))) (qh (qw (zp (kq (qv 3) (I_ (J_ 4) qk))))))))))⟩
abbrev c30(V:V_):Prop:=c29 V/\Q_ V 1 "_law_told" [nM] lV
theorem d30(V:V_)(B:B_ V)(c:c29 V):c30 V:=⟨c,M_ V 0 [nM,nE,nv,"_law_todo","_law_here"] B.hp B.D29 ai6 λ_ _ _ _ _ _ _ J hN I=>(qc (ahu (i:=1) (j:=2) (k:=3) rfl hN rfl rfl rfl (by decide) (by decide) (by decide) rfl rfl rfl (bJ (j9 vi) (j9 vi) (j9 (vd (qv 0)))) rfl) (qc (fA wh (N_ I (qv 3) (j9 vi)) (qc (S_ 4 hN (ae1 (qv 3))) (w5 (j7 (E_ I (J_ 4) ja) (qh (zg (zf (qv 1) (vd (zp (kq (J_ 4) (J_ 4))))))) zb) (w5 (j7 (E_ I (J_ 4) ja) (qh (zg (zf (qv 2) (vd (zp (kq (J_ 4) (J_ 4))))))) zb) (qh (zg (cz (qv 3) (vd (cG ["_law_arm"] (EJ (by rfl)) rfl (afl (cT (aez _ _ _) (qv 4) (dM qk) iR)) (v5 o9 (λ_ _ _ _=>Or.inl rfl) (λ_ _ _ _=>rfl)) (λ_ _ _ _=>a8 (we (va .tuple rfl B.bb rfl B.bj fJ (qv 5)))) (λ_ _ _ _=>(qv 5))))))))))) (qh (qw (zp (kq (vv hG rfl B.bi cZ (vd (qv 1))) (vv hG rfl B.bi cZ (vd (qv 2)))))))))⟩
abbrev c31(V:V_):Prop:=c30 V/\Q_ V 1 nR [ng,nE,nt,ny] dH
theorem d31(V:V_)(B:B_ V)(c:c30 V):c31 V:=⟨c,M_ V 0 [ng,nE,nt,ny,"_law_first","_law_mates","_law_second","_law_a","_law_b","_law_c","_law_d","_law_rest"] B.hp B.D30 wU λ_ _ _ _ _ _ _ J hN I=>(qc (aS (i:=4) hN rfl (Or.inr rfl) (I_ (qv 1) (qp xq (qv 2) (L_ B.ba (qv 1))))) (qc (fM ["_law_x"] (i:=5) hN rfl (Or.inl rfl) (EJ (by rfl)) rfl (x8 (qv 1)) (v5 o9 (λ_ _ _ _=>Or.inl rfl) (λ_ _ _ _=>rfl)) (λ_ _ _ _=>a8 (vf (kg (N_ I (qv 12) (qv 4)) (vo (E_ I (I_ (I_ (qv 0) (J_ 12)) qk) (I_ (I_ (qv 0) (J_ 4)) qk)))))) (λ_ _ _ _=>(qv 12))) (qc (j7 (E_ I (qv 5) (j9 vi)) (qh (qw (qv 1))) zb) (qc (aS (i:=6) hN rfl (Or.inr rfl) (I_ (qv 5) (qp xq (qv 3) (L_ B.ba (qv 5))))) (qc (eS (fD (E_ I (I_ (I_ (qv 0) (J_ 4)) qk) ja) (qv 4) (zp (kq (J_ 4) (J_ 4)))) (aK rfl (zk (G_ 7 hN) (zk (G_ 8 hN) k8)))) (qc (eS (fD (E_ I (I_ (I_ (qv 0) (J_ 6)) qk) ja) (qv 6) (zp (kq (J_ 6) (J_ 6)))) (aK rfl (zk (G_ 9 hN) (zk (G_ 10 hN) k8)))) (qc (fM ["_law_x"] (i:=11) hN rfl (Or.inl rfl) (EJ (by rfl)) rfl (x8 (qv 1)) (v5 o9 (λ_ _ _ _=>Or.inl rfl) (λ_ _ _ _=>rfl)) (λ_ _ _ _=>a8 (vf (kg (N_ I (qv 12) (qv 4)) (vo (N_ I (qv 12) (qv 6)))))) (λ_ _ _ _=>(qv 12))) (qh (qw (vv hG rfl B.bi cZ (vd (qp xg (qv 11) (j9 (kq (zp (kq (vv yV rfl B.bq sS (kq (qv 7) (qv 10))) (vv yh rfl B.bu qW (kq (qv 7) (qv 10))))) (zp (kq (vv yV rfl B.bq sS (kq (qv 9) (qv 8))) (vv yh rfl B.bu qW (kq (qv 9) (qv 8)))))))))))))))))))⟩
abbrev c32(V:V_):Prop:=c31 V/\Q_ V 1 nS [ng,nv] gN
theorem d32(V:V_)(B:B_ V)(c:c31 V):c32 V:=⟨c,M_ V 0 [ng,nv,"_law_todo",nq,nK,"_law_beneath_here"] B.hp B.D31 wK λ_ _ _ _ _ _ _ J hN I=>(qc (S_ 2 hN (j9 vi)) (qc (wc wh rfl (x8 (qv 1)) (aK rfl (zk (G_ 3 hN) (zk (G_ 4 hN) k8))) (qh (zg (cz (qv 2) (vd (j9 (kq (qv 3) (qv 4)))))))) (qc (S_ 5 hN (j9 vi)) (qc (fA wh (N_ I (qv 2) (j9 vi)) (qc (S_ 3 hN (ae1 (qv 2))) (qc (zg (zf (qv 5) (vd (qv 3)))) (qh (j7 (E_ I (L_ B.ba (I_ (qv 0) (qv 3))) qk) (qh (zg (cz (qv 2) (vd (j9 (kq (I_ (I_ (qv 0) (qv 3)) qk) (I_ (I_ (qv 0) (qv 3)) qk))))))) zb))))) (qh (qw (qv 5)))))))⟩
abbrev c33(V:V_):Prop:=c32 V/\Q_ V 2 "_law_recast" [ng,nv,nj,nO] fU
theorem d33(V:V_)(B:B_ V)(c:c32 V):c33 V:=⟨c,M_ V 1 [ng,nv,nj,nO,"_law_kept","_law_parts",nF,"_law_many","_law_made",nq,"_law_bits"] B.hp B.D32 aaw λ_ _ _ _ _ _ _ J hN I=>(qc (S_ 4 hN (C_ c.2 J (kq (qv 0) (qv 1)))) (qc (S_ 5 hN (j9 vi)) (qc (wc wh rfl (x8 (qv 0)) (G_ 6 hN) (qh (j7 (E_ I (L_ B.ba (qv 6)) qk) (qh (zg (cz (qv 5) (vd (j9 (kq (J_ 6) (J_ 6))))))) zb))) (qc (rT "_law_knot'" (aS (i:=7) o9 rfl (Or.inl rfl) (L_ B.ba (cG [nF] (EJ (by rfl)) rfl (x8 (qv 0)) (v5 o9 (λ_ _ _ _=>Or.inl rfl) (λ_ _ _ _=>rfl)) (λ_ _ _ _=>a8 (E_ I (J_ 11) ja)) (λ_ _ _ _=>(qv 11)))))) (qc (S_ 8 hN (j9 vi)) (qc (wc wh rfl (fQ rfl B.bh (qv 0)) (aK rfl (zk (G_ 9 hN) (zk (G_ 6 hN) k8))) (qc (S_ 10 hN (qp xq (C_ c.1.1.1.1.1.1.1.1.1.1.1.1.2 J (bJ (qv 2) (qv 9) qk)) qk)) (qh (j7 (vf (aw (E_ I (L_ B.ba (qv 6)) qk) (aZ (x0 (ac3 _ _ _) (qv 9) (qv 4) (by with_unfolding_all rfl))))) (qh (zg (zf (qv 8) (vd (qv 6))))) (qh (j7 (E_ I (qp xq (qp aO (qv 2) qk) qk) qk) (qh (zg (zf (qv 8) (vd (fD (vf (kg (E_ I (qp xq (qv 10) qk) qk) (vo (x0 (xL _ _ _) (qv 9) (qv 5) (by with_unfolding_all rfl))))) bP (qv 6)))))) (qh (j7 (vf (kg (x0 oq (qv 10) qk (xa _)) (vo (E_ I (J_ 6) ja)))) (qc (zg (zf (qv 8) (vd (zp (bJ ja (J_ 6) (J_ 6)))))) (qh (S_ 7 hN (qp bz (qv 7) qk)))) (qh (j7 (vf (kg (x0 oq (qv 10) qk (xa _)) (vo (x0 oq (qv 7) (qv 3) (xa _))))) (qc (zg (zf (qv 8) (vd (zp (bJ ja (J_ 6) (J_ 6)))))) (qh (S_ 7 hN (qp xg (qv 7) qk)))) (qh (zg (zf (qv 8) (vd (qv 6))))))))))))))) (qh (qw (qv 8)))))))))⟩
abbrev c34(V:V_):Prop:=c33 V/\Q_ V 2 "_law_order" [ng,nj] (mR V.Pt)
theorem d34(V:V_)(B:B_ V)(c:c33 V):c34 V:=⟨c,T_ V 1 [ng,nj,"_law_keys",nq,nF,"_law_rank"] B.hp B.D33 af9 λ_ _ _ _ _ _ _ C I hN J=>(qc (aS (i:=2) hN rfl (Or.inr rfl) (j9 vi)) (qc (wc wh rfl (fQ rfl B.bh (qv 0)) (aK rfl (zk (G_ 3 hN) (zk (G_ 4 hN) k8))) (qc (S_ 5 hN (qp xq (C_ c.1.1.1.1.1.1.1.1.1.1.1.1.1.2 I (bJ (qv 1) (qv 3) qk)) qk)) (w5 (j7 (vf (kg (bY (qv 4)) (vo (E_ J (L_ B.ba (qv 4)) qk)))) (qh (S_ 5 hN (qp xg (qp xg (qv 5) qk) (vv yh rfl B.bu qW (kq (I_ (qv 2) (J_ 4)) (I_ (qv 2) (J_ 4))))))) zb) (qh (zg (zf (qv 2) (vd (qv 5)))))))) (qh (qw (aeq rfl B.bi (oG rfl rfl B.be rfl B.bg (L_ B.ba (qv 0))) ⟨rfl,rfl,rfl,by decide +kernel,rfl,rfl,by decide,by decide,by decide⟩ C (dp3 I) rfl rfl rfl ⟨_,rfl,rfl⟩ rfl (λ_ _ _ _ _ _ _=>rfl))))))⟩
abbrev c35(V:V_):Prop:=c34 V/\Q_ V 3 "_law_gapped" [ng,nE,nv,nj,"_law_gaps"] (fS V.Pt)
theorem d35(V:V_)(B:B_ V)(c:c34 V):c35 V:=⟨c,M_ V 2 [ng,nE,nv,nj,"_law_gaps","_law_at","_law_wide",nq,nF] B.hp B.D34 yo λ_ _ _ _ _ _ _ J hN I=>(qc (aS (i:=5) hN rfl (Or.inr rfl) yg) (qc (S_ 6 hN (j9 vi)) (qc (wc wh rfl (x8 (C_ c.2 J (kq (qv 0) (qv 3)))) (G_ 7 hN) (w5 (j7 (vf (kg (we (qv 4)) (vo (E_ I (qp xq (C_ c.1.1.1.1.1.1.1.1.1.1.1.1.1.1.2 J (bJ (qv 3) (qv 7) qk)) qk) qk)))) (qh (zg (zf (qv 6) (vd bP)))) zb) (qc (rL I (qv 5) (qv 7) (L_ B.ba (qv 6))) (qc (S_ 8 hN (I_ (qv 0) (qv 7))) (w5 (j7 (vf (kg (bY (qv 8)) (vo (E_ I (L_ B.ba (qv 8)) qk)))) (qh (S_ 8 hN (zp (bJ (J_ 8) (jg I (qv 5) (J_ 8) (λ_ _=>rfl)) (jg I (qv 5) (J_ 8) (λ_ _=>rfl)))))) zb) (qh (zg (zf (qv 6) (vd (qv 8)))))))))) (qc (rT "_law_p'" (aS (i:=1) o9 rfl (Or.inl rfl) (vv hG rfl B.bi cZ (vd (cG [nq,nK ] (EJ (by rfl)) rfl (x8 (qv 1)) (lQ rfl o9 (λ_ _ _ _=>rfl) (λ_ _ _ _=>rfl)) (λ_ _ _ _=>jQ) (λ_ _ _ _=>(zp (kq (vv yV rfl B.bq sS (kq (jg I (qv 5) (qv 9) (λ_ _=>rfl)) (jg I (qv 5) (qv 10) (λ_ _=>rfl)))) (vv yh rfl B.bu qW (kq (jg I (qv 5) (qv 9) (λ_ _=>rfl)) (jg I (qv 5) (qv 10) (λ_ _=>rfl)))))))))))) (qc (rT "_law_p'" (aS (i:=2) o9 rfl (Or.inl rfl) (vv hG rfl B.bi cZ (vd (cG [nq,nK ] (EJ (by rfl)) rfl (x8 (qv 2)) (lQ rfl o9 (λ_ _ _ _=>rfl) (λ_ _ _ _=>rfl)) (λ_ _ _ _=>jQ) (λ_ _ _ _=>(zp (kq (jg I (qv 5) (qv 9) (λ_ _=>rfl)) (jg I (qv 5) (qv 10) (λ_ _=>rfl)))))))))) (qh (qw (zp (bJ (qp xg (qv 6) (cG [nI] (EJ (by rfl)) rfl (dE rfl B.bg (vd (iH ajz rfl B.br rN (vd (qv 4))))) (v5 o9 (λ_ _ _ _=>Or.inl rfl) (λ_ _ _ _=>rfl)) (λ_ _ _ _=>jQ) (λ_ _ _ _=>bP))) (qv 1) (qv 2))))))))))⟩
abbrev c36(V:V_):Prop:=c35 V/\Q_ V 130 "_law_web" [nu,nj,nN,nO] (wR V.Pt)
theorem d36(V:V_)(B:B_ V)(c:c35 V):c36 V:=⟨c,M_ V 129 [nu,nj,nN,nO,"_law_bits","_law_gaps",ng,nM,nE,nv,nI] B.hp B.D35 amc λ_ _ _ _ _ _ _ I hN J=>(qc (S_ 4 hN (C_ c.1.1.1.1.1.1.1.1.1.1.1.1.1.1.1.2 I (bJ (qv 1) qk qk))) (qc (S_ 5 hN (aJ (eF _ _ _ J) (qp xq (qv 4) qk) qk (xa _))) (w5 (j7 (we (qv 5)) (qh (S_ 2 hN (vv yV rfl B.bq sS (kq (qv 2) qk)))) zb) (qc (eS (C_ c.1.1.1.1.1.1.2 I (bJ (qv 0) (qv 1) (qv 2))) (aK rfl (zk (G_ 6 hN) (zk (G_ 7 hN) k8)))) (qc (eS (C_ c.1.1.1.1.1.2 I (vd (qv 7))) (aK rfl (zk (G_ 8 hN) (zk (G_ 9 hN) k8)))) (qc (wc wh rfl (dE rfl B.bg (vd (qp xq (qp aO (qv 4) qk) qk))) (G_ 10 hN) (qh (S_ 8 hN (C_ c.1.1.1.1.2 I (v9 (qv 6) (bJ (qv 8) (C_ c.1.1.1.1.1.1.1.1.1.1.1.1.1.1.1.2 I (bJ (qv 1) (qp xg qk (qv 10)) qk)) (C_ c.1.1.1.1.1.1.1.1.1.1.1.1.1.1.1.2 I (bJ (qv 1) (qp xg qk (qv 10)) qk)))))))) (w5 (j7 (E_ J (qp xq (qp aO (qv 4) qk) qk) qk) (qh (S_ 6 hN (C_ c.1.1.2 I (v9 (qv 6) (bJ (qv 9) (qv 1) (qv 3)))))) zb) (qh (qw (C_ c.2 I (v9 (qv 6) (v9 (qv 8) (bJ (qv 9) (qv 1) (qv 5))))))))))))))⟩
abbrev c37(V:V_):Prop:=c36 V/\Q_ V 1 "_law_copy" [nh] rC
theorem d37(V:V_)(B:B_ V)(c:c36 V):c37 V:=⟨c,M_ V 0 [nh] B.hp B.D36 agq λ_ _ _ _ _ _ _ I hN J=>(qh (qw (zp (bJ (iH oM rfl B.be bx (vd (J_ 0))) (iH oM rfl B.be bx (vd (J_ 0))) (iH oM rfl B.be bx (vd (J_ 0)))))))⟩
abbrev c38(V:V_):Prop:=c37 V/\Q_ V 1 "_law_count" [nh,"_law_kind"] iq
theorem d38(V:V_)(B:B_ V)(c:c37 V):c38 V:=⟨c,M_ V 0 [nh,"_law_kind"] B.hp B.D37 zS λ_ _ _ _ _ _ _ J hN I=>(qh (qw (L_ B.ba (cG [nF] (EJ (by rfl)) rfl (x8 (J_ 0)) (v5 o9 (λ_ _ _ _=>Or.inl rfl) (λ_ _ _ _=>rfl)) (λ_ _ _ _=>a8 (vf (kg (bY (qv 2)) (vo (E_ I (J_ 2) (qv 1)))))) (λ_ _ _ _=>(qv 2))))))⟩
abbrev c39(V:V_):Prop:=c38 V/\Q_ V 1 "_law_places" [nh] dO
theorem d39(V:V_)(B:B_ V)(c:c38 V):c39 V:=⟨c,M_ V 0 [nh] B.hp B.D38 vD λ_ _ _ _ _ _ _ I hN J=>(qh (qw (cG [nq] (EJ (by rfl)) rfl (dE rfl B.bg (vd (L_ B.ba (J_ 0)))) (v5 o9 (λ_ _ _ _=>Or.inl rfl) (λ_ _ _ _=>rfl)) (λ_ _ _ _=>a8 (bY (I_ (J_ 0) (qv 1)))) (λ_ _ _ _=>(qv 1)))))⟩
abbrev c40(V:V_):Prop:=c39 V/\Q_ V 1 "_law_whole" [nJ] oQ
theorem d40(V:V_)(B:B_ V)(c:c39 V):c40 V:=⟨c,M_ V 0 [nJ] B.hp B.D39 aec λ_ _ _ _ _ _ _ I hN J=>(qh (qw (da (va .int rfl B.bb rfl B.br rN (qv 0)) (fF (ak7 (va .bool rfl B.bb rfl B.bp gt (qv 0)))))))⟩
abbrev c41(V:V_):Prop:=c40 V/\Q_ V 2 "_law_step" [nh,nG,nL] mN
theorem d41(V:V_)(B:B_ V)(c:c40 V):c41 V:=⟨c,M_ V 1 [nh,nG,nL,ng,nE,nv,"_law_r",nq,nK] B.hp B.D40 adm λ_ _ _ _ _ _ _ J hN I=>(qc (eS (qv 0) (aK rfl (zk (G_ 3 hN) (zk (G_ 4 hN) (zk (G_ 5 hN) k8))))) (qc (j7 (vf (aw (gf (we (va .tuple rfl B.bb rfl B.bj fJ (qv 2)))) (aw (x0 oq (L_ B.ba (qv 2)) qk (xa _)) (aZ (gf (we (va .str rfl B.bb rfl B.bv xS (J_ 2)))))))) (qh (qw bP)) zb) (qc (j7 (N_ I (cG ["_law_x"] (EJ (by rfl)) rfl (afl (cT (aez _ _ _) (qv 2) (dM qk) iR)) (v5 o9 (λ_ _ _ _=>Or.inl rfl) (λ_ _ _ _=>rfl)) (λ_ _ _ _=>a8 (vf (aw (gf (we (C_ c.2 J (vd (qv 9))))) (aZ (x0 (amh I) (qv 9) (qv 1) (by with_unfolding_all rfl)))))) (λ_ _ _ _=>(qv 9))) (j9 vi)) (qh (qw bP)) zb) (qc (j7 (vf (kg (E_ I (J_ 2) ja) (kg (E_ I (L_ B.ba (qv 2)) qk) (vo (E_ I (I_ (I_ (qv 3) (J_ 2)) qk) ja))))) (qc (S_ 6 hN (J_ 2)) (qc (j7 (vf (aw (N_ I (jg I (qv 1) (I_ (I_ (qv 3) (qv 6)) qk) (λ_ _=>rfl)) (jg I (qv 1) (I_ (I_ (qv 3) (qv 6)) qk) (λ_ _=>rfl))) (aZ (E_ I (jg I (qv 1) (qv 6) (λ_ _=>rfl)) (jg I (qv 1) (I_ (I_ (qv 3) (qv 6)) qk) (λ_ _=>rfl)))))) (qh (qw bP)) zb) (qh (qw (zp (kq (qv 6) (I_ (I_ (qv 3) (qv 6)) qk))))))) zb) (qc (j7 (vf (aw (N_ I (J_ 2) ja) (aw (N_ I (L_ B.ba (qv 2)) qk) (aZ (E_ I (jg I (qv 1) (J_ 2) (λ_ _=>rfl)) (jg I (qv 1) (J_ 2) (λ_ _=>rfl))))))) (qh (qw bP)) zb) (qc (rD (i:=7) (j:=8) rfl hN rfl rfl (by decide) rfl rfl (kq (J_ 2) (J_ 2)) rfl) (qc (j7 (vf (aw (x0 (aix I) (zp (kq (qv 7) (qv 8))) (qv 4) (by with_unfolding_all rfl)) (aw (x0 (aix I) (zp (kq (qv 7) (qv 8))) (qv 5) (by with_unfolding_all rfl)) (aZ (vf (kg (E_ I (I_ (I_ (qv 3) (qv 7)) qk) ja) (vo (x0 (ac3 _ _ _) (qv 8) (cT (aez _ _ _) (I_ (qv 3) (qv 7)) (dM qk) iR) (by with_unfolding_all rfl))))))))) (qh (qw (zp (kq (qv 7) (qv 8))))) zb) (qh (qw bP)))))))))⟩
abbrev c42(V:V_):Prop:=c41 V/\Q_ V 3 "_law_walked" [nh,"_law_steps"] iw
theorem d42(V:V_)(B:B_ V)(c:c41 V):c42 V:=⟨c,M_ V 2 [nh,"_law_steps",nG,nq,nL,"_law_pair","_law_old","_law_kept"] B.hp B.D41 aai λ_ _ _ _ _ _ _ J hN I=>(qc (S_ 2 hN yg) (qc (wc wh rfl (x8 (C_ c.1.1.2 J (vd (qv 0)))) (G_ 3 hN) (qh (rL I (qv 2) (qv 3) (qv 3)))) (qc (wc wh rfl (x8 (qv 1)) (G_ 4 hN) (qc (S_ 5 hN (C_ c.2 J (bJ (qv 0) (qv 2) (qv 4)))) (qc (j7 (i4 (qv 5)) (qh (qw bP)) zb) (qc (rD (i:=6) (j:=7) rfl hN rfl rfl (by decide) rfl rfl (kq (jg I (qv 2) (J_ 5) (λ_ _=>rfl)) (jg I (qv 2) (J_ 5) (λ_ _=>rfl))) rfl) (qh (wc wh rfl (x8 (C_ c.1.1.2 J (vd (qv 0)))) (G_ 3 hN) (qh (j7 (E_ I (jg I (qv 2) (qv 3) (λ_ _=>rfl)) (qv 6)) (qh (rL I (qv 2) (qv 3) (qv 7))) zb)))))))) (qh (qw (qv 2))))))⟩
abbrev c43(V:V_):Prop:=c42 V/\Q_ V 1 "_law_ended" [nh,nG] nZ
theorem d43(V:V_)(B:B_ V)(c:c42 V):c43 V:=⟨c,M_ V 0 [nh,nG,nq,nK,"_law_r",nF] B.hp B.D42 ada λ_ _ _ _ _ _ _ J hN I=>(qc (wc wh rfl (x8 (qp xg (J_ 0) (J_ 0))) (aK rfl (zk (G_ 2 hN) (zk (G_ 3 hN) k8))) (qh (j7 (N_ I (jg I (qv 1) (qv 2) (λ_ _=>rfl)) (jg I (qv 1) (qv 3) (λ_ _=>rfl))) (qh (qw gD)) zb))) (qc (wc wh rfl (fQ rfl B.bh (J_ 0)) (aK rfl (zk (G_ 4 hN) (zk (G_ 5 hN) k8))) (qc (j7 (vf (kg (bY (qv 5)) (kg (E_ I (J_ 5) ja) (vo (vf (aw (N_ I (jg I (qv 1) (qv 4) (λ_ _=>rfl)) (jg I (qv 1) (J_ 5) (λ_ _=>rfl))) (aZ (N_ I (jg I (qv 1) (qv 4) (λ_ _=>rfl)) (jg I (qv 1) (J_ 5) (λ_ _=>rfl)))))))))) (qh (qw gD)) zb) (qh (j7 (vf (kg (bY (qv 5)) (kg (E_ I (J_ 5) ja) (vo (abz (jg I (qv 1) (J_ 5) (λ_ _=>rfl)) (aal (eF _ _ _ I) (jg I (qv 1) (J_ 5) (λ_ _=>rfl)) (aa5 (y8 _ _ _ I) (jg I (qv 1) (qv 4) (λ_ _=>rfl))))))))) (qh (qw gD)) zb)))) (qh (qw gD))))⟩
theorem dL(V:V_)(B:B_ V)(c:c43 V){f:Addr}{fd:FuncData}(F:Fun V.K "law" "law" uu f fd):Fn3 V.P V.w V.K V.mg V.base 131 f fd [nu] (rA V.Pt lamQ):=
 W_ V 130 [nu,nh,"_law_handed","_law_steps",nG,"_law_due","_law_places_here",nt] F acf λ_ _ _ _ _ _ I hN J=>(qc (S_ 1 hN (C_ c.1.1.1.1.1.1.1.2 I (v9 (qv 0) (bJ (qp xq (C_ c.1.1.1.1.1.1.1.1.1.1.1.1.1.1.1.1.1.1.1.1.1.1.1.1.1.2 I (kq (qv 0) qk)) (qp aph qk qk)) qk qk)))) (qc (S_ 2 hN (C_ c.1.1.1.1.1.1.2 I (vd (qv 1)))) (qc (S_ 3 hN (C_ c.1.1.1.1.1.1.1.1.1.1.1.1.1.1.1.1.1.1.1.1.1.1.1.1.1.1.2 I (vd (qv 2)))) (qc (j7 (vf (aw (gf (we (va .list rfl B.bb rfl B.be bx (qv 3)))) (aZ (gf (we (C_ c.1.1.1.1.1.1.1.1.1.1.1.1.1.1.1.1.1.1.1.1.1.1.1.1.2 I (kq (qv 2) (qv 1)))))))) (qh (qw gD)) zb) (qc (aS (i:=4) hN rfl (Or.inr rfl) (C_ c.1.2 I (kq (qv 1) (qv 3)))) (qc (j7 (vf (aw (i4 (qv 4)) (aZ (gf (we (C_ c.2 I (kq (qv 1) (qv 4)))))))) (qh (qw gD)) zb) (qc (S_ 5 hN (qp xg (qp xg (qp xg (L_ B.ba (J_ 1)) (L_ B.ba (J_ 1))) (C_ c.1.1.1.1.1.2 I (kq (qv 1) ja))) (qp qH qk (C_ c.1.1.1.1.1.2 I (kq (qv 1) ja))))) (qc (aS (i:=6) hN rfl (Or.inr rfl) (C_ c.1.1.1.1.2 I (vd (qv 1)))) (qc (S_ 7 hN (aJ (eF _ _ _ J) (cG [nq] (EJ (by rfl)) rfl (x8 (qv 6)) (v5 o9 (λ_ _ _ _=>Or.inl rfl) (λ_ _ _ _=>rfl)) (λ_ _ _ _=>a8 (N_ J (jg J (qv 4) (qv 8) (λ_ _=>rfl)) (jg J (qv 4) (J_ 6) (λ_ _=>rfl)))) (λ_ _ _ _=>(qv 8))) (j9 vi) (xa _))) (qh (qw (da (C_ c.1.1.1.1.1.1.1.1.1.1.1.1.1.1.1.1.1.1.1.1.1.1.1.1.2 I (kq (C_ c.1.1.1.1.1.1.1.1.1.1.1.1.1.1.1.1.1.1.1.1.1.1.1.1.1.1.1.2 I (vd (qv 2))) (da (qv 7) (fF (aJ (eF _ _ _ J) (L_ B.ba (qv 3)) (qv 5) (xa _)))))) (fF (C_ c.1.1.1.1.1.1.1.1.1.1.1.1.1.1.1.1.1.1.1.1.1.1.1.1.2 I (kq (qv 2) (qv 1))))))))))))))))
theorem all_mk{l:PySem.W.OpenLaw}{w:World}{K:Ae}{h:Heap}{mg:Str->Option Value}{fa:Addr}{I:Addr}{g:Option Addr}{j:Nat}{o:Array (Option Value)}{J U:Tok}{p:Addr}{Pt:Addr}(X:K.In h)(G:h.Ns mainGlobals mg)(r:mg "law"=some (.ref fa))
 (D0:dI K p "__init__" "Pieces.__init__" fi)
 (D1:dI K p "head_of" "Pieces.head_of" cb)
 (D2:dI K p "unite" "Pieces.unite" eZ)
 (D3:z0 K "is_leaf" pU)
 (D4:z0 K "places_there" eW)
 (D5:z0 K "parts_of" m4)
 (D6:z0 K "eithers_of" iC)
 (D7:z0 K "boths_of" o6)
 (D8:z0 K "part_edges" iB)
 (D9:z0 K "joins_of" mM)
 (D10:z0 K "join_steps" iV)
 (D11:z0 K "can_fold" oP)
 (D12:z0 K "fold_steps" iM)
 (D13:z0 K "steps_by" mB)
 (D14:z0 K "all_come_together" av)
 (D15:z0 K "right_web" jZ)
 (D16:z0 K "shrunk" ut)
 (D17:z0 K nQ eU)
 (D18:z0 K "_law_same" jY)
 (D19:z0 K "_law_mix" mz)
 (D20:z0 K "_law_name" kA)
 (D21:z0 K "_law_word" kR)
 (D22:z0 K "_law_flip" kH)
 (D23:z0 K "_law_weight" fu)
 (D24:z0 K "_law_mirror" gA)
 (D25:z0 K "_law_join" kE)
 (D26:z0 K "_law_fold" lB)
 (D27:z0 K "_law_cut" mO)
 (D28:z0 K "_law_tree" kI)
 (D29:z0 K "_law_told" kW)
 (D30:z0 K nR fK)
 (D31:z0 K nS eL)
 (D32:z0 K "_law_recast" gE)
 (D33:DefInT K "_law_order" s__law_order Pt)
 (D34:z0 K "_law_gapped" fw)
 (D35:z0 K "_law_web" mU)
 (D36:z0 K "_law_copy" kO)
 (D37:z0 K "_law_count" gu)
 (D38:z0 K "_law_places" fq)
 (D39:z0 K "_law_whole" iW)
 (D40:z0 K "_law_step" kG)
 (D41:z0 K "_law_walked" gG)
 (D42:z0 K "_law_ended" iD)
 (D43:z0 K "law" uu)
 (aLEAF_KINDS:PySem.W.nsIn K mainGlobals "LEAF_KINDS"=some (some (.ref I)))
 (lLEAF_KINDS:K.lookup I=some ⟨.type "tuple",g,.seq #[.str "plain" J,.str "turned" U] j,o⟩)
 (aCPieces:PySem.W.nsIn K mainGlobals "Pieces"=some (some (.ref p)))
 (clPieces:Cls K p)
 (mAPieces:PySem.W.makesIn K p=true)
 (mKPieces:PySem.W.keepIn K (.ref p)=true)
 (xf:L3.XFP K p)
 (zlist:PySem.W.nsIn K mainGlobals "list"=some none)
 (zrange:PySem.W.nsIn K mainGlobals "range"=some none)
 (zenumerate:PySem.W.nsIn K mainGlobals "enumerate"=some none)
 (zlen:PySem.W.nsIn K mainGlobals "len"=some none)
 (zisinstance:PySem.W.nsIn K mainGlobals "isinstance"=some none)
 (zbool:PySem.W.nsIn K mainGlobals "bool"=some none)
 (ztuple:PySem.W.nsIn K mainGlobals "tuple"=some none)
 (zzip:PySem.W.nsIn K mainGlobals "zip"=some none)
 (zint:PySem.W.nsIn K mainGlobals "int"=some none)
 (zstr:PySem.W.nsIn K mainGlobals "str"=some none)
 (zsorted:PySem.W.nsIn K mainGlobals "sorted"=some none)
 (zmax:PySem.W.nsIn K mainGlobals "max"=some none)
 (zmin:PySem.W.nsIn K mainGlobals "min"=some none):
 ∃fd:FuncData,(∀(s:Shared) (v:Value),BindsTo s fd ⟨[v],[]⟩ [(nu,v)])/\∀base:Heap,K.In base->base.Ns mainGlobals mg->bH l.prog w K mg base CX0 131 fa fd [nu] (spTopT lamQ K Pt):=by
 obtain⟨fL,kV,t,pm,an,C,T,aL,FL⟩:=D43.ex;have e:=r.symm.trans (CW X G aL);cases e;refine⟨PySem.W.fnOf "law" "law" (xu uu) (js uu) (qz uu) .none kV t pm an C T,λs v=>.of_eq rfl,λbase _ _=>?_⟩;have B:B_ ⟨l.prog,w,K,mg,base,Pt,p⟩:=⟨⟨h,X,G⟩,Bj X G zlist,Bj X G zrange,Bj X G zenumerate,Bj X G zlen,Bj X G zisinstance,Bj X G zbool,Bj X G ztuple,Bj X G zzip,Bj X G zint,Bj X G zstr,Bj X G zsorted,Bj X G zmax,Bj X G zmin,D0,D1,D2,D3,D4,D5,D6,D7,D8,D9,D10,D11,D12,D13,D14,D15,D16,D17,D18,D19,D20,D21,D22,D23,D24,D25,D26,D27,D28,D29,D30,D31,D32,D33,D34,D35,D36,D37,D38,D39,D40,D41,D42,⟨I,CW X G aLEAF_KINDS,λH=>⟨I,[V.str "plain",V.str "turned"],rfl,.inr ⟨_,_,_,lLEAF_KINDS,rfl,rfl,by show 2<=sizeLine;decide,.cons ⟨_,rfl⟩ (.cons ⟨_,rfl⟩ (.nil))⟩,⟨_,_,rfl,rfl,⟨_,_,rfl,rfl,rfl⟩⟩⟩⟩,CW X G aCPieces,clPieces,mAPieces,mKPieces,xf⟩;exact bH.imp (dL _ B (d43 _ B (d42 _ B (d41 _ B (d40 _ B (d39 _ B (d38 _ B (d37 _ B (d36 _ B (d35 _ B (d34 _ B (d33 _ B (d32 _ B (d31 _ B (d30 _ B (d29 _ B (d28 _ B (d27 _ B (d26 _ B (d25 _ B (d24 _ B (d23 _ B (d22 _ B (d21 _ B (d20 _ B (d19 _ B (d18 _ B (d17 _ B (d16 _ B (d15 _ B (d14 _ B (d13 _ B (d12 _ B (d11 _ B (d10 _ B (d9 _ B (d8 _ B (d7 _ B (d6 _ B (d5 _ B (d4 _ B (d3 _ B (d2 _ B (d1 _ B trivial))))))))))))))))))))))))))))))))))))))))))) FL) λvs H Q E q=>afy q
theorem def_inT{K:Ae}{x:Str}{st:Stmt}{f Pt:Addr}{oc:Value}{od an:Option Addr}{nC:Array (Option Value)}{kV ir pm fx ct:Value}(a:PySem.W.nsIn K mainGlobals x=some (some (.ref f)))
 (l:K.lookup f=some ⟨oc,od,.func (PySem.W.fnOf x x (xu st) (js st) (qz st) .none kV ir pm an fx ct),nC⟩) (c:PySem.W.codeIn K fx x=true) (k:PySem.W.keepIn K (.ref f)=true) (C:zP K fx Pt):DefInT K x st Pt:=
 ⟨f,kV,ir,pm,an,fx,ct,a,⟨⟨oc,od,kV,ir,pm,an,fx,ct,nC,rfl,l,c,C⟩,k⟩⟩
end K35
namespace H35
noncomputable section
open PySem PySem.W PySem.W.X L2 L3 PyProof.Rows
abbrev rr:=PySem.Challenge.rw_oncewise_k35_shrinking_walked
abbrev p:Program:=PySem.Challenge.pw_oncewise_k35_shrinking_walked
abbrev top:=K35.top
abbrev zV(i k:Nat):Stmt:=(lM (top i)).getD k (.Pass ⟨0,0,0,0⟩)
abbrev s(x:String):Str:=Str.ofString x
noncomputable abbrev S (x:String) (t:Tok):Value:=.str (Str.ofString x) t
noncomputable abbrev I (i:Int) (t:Tok):Value:=.int i t
noncomputable abbrev R (a:Addr):Value:=.ref a
abbrev E(P:Params)(k:String)(t:Tok)(v:Value):DictEntry:=⟨PyData.keyHash P (Str.ofString k),.str (Str.ofString k) t,v⟩
noncomputable abbrev O (c:Value) (d:Data):Obj:=⟨c,none,d,#[]⟩
abbrev FN(n q:String)(st:Stmt)(I kV ir pm:Value)(an:Option Addr)(cd ct:Value):FuncData:=fnOf (Str.ofString n) (Str.ofString q) (xu st) (js st) (qz st) I kV ir pm an cd ct
abbrev FG(n q:String)(st:Stmt):FuncData:={ fnOf (Str.ofString n) (Str.ofString q) (xu st) (js st) (qz st) .none .none .none .none none .none .none with globals:=0 }
abbrev tu(l:Array Value):Obj:=O (.type "tuple") (.seq l 0)
abbrev fo(f:FuncData):Obj:=O (.type "function") (.func f)
abbrev go(f:FuncData):Obj:=O .none (.func f)
abbrev co(n q:String)(t l a b c J v:Nat)(o:Bool)(m k:Nat)(x y z u:Value)(d:Nat):Obj:=O (.type "code") (.fields #[S n t,S q (t+1),S "/claim/cut.py" (t+2),I l 0,I a 0,I b 0,I c 0,I J 0,R v,.bool o,I m 0,R k,x,y,z,u,I d 0,I l 0,S "/claim/cut.py" (d+1)])
abbrev ie:Value:=S "law_oncewise_k35_shrinking_walked" 355
abbrev m1_:Value:=S "oncewise.shrinking" 271
abbrev m3_:Value:=S "oncewise.webs" 250
abbrev fX(n:String)(i:Nat)(m:Value)(r:Nat):Obj:=fo (FN n n (top i) .none .none .none m none (R r) .none)
abbrev gX(n:String)(i:Nat):Obj:=go (FG n n (top i))
abbrev cF(n:String)(t l a v d:Nat):Obj:=co n n t l a 0 0 3 v true 181 (v+1) .none (R (v+2)) (R (v+3)) (R (v+4)) d
abbrev cC(n:String)(t l v d:Nat):Obj:=co n n t l 0 0 0 0 v false 181 (v+1) .none .none .none .none d
abbrev fR(a b:Nat):Obj:=⟨.type "frame",none,.plain,#[some (R a),some (R 3),some (R b),none,some (S "oncewise.pieces" 187),none,some (R 0)]⟩
abbrev bI(a:Nat):Obj:=O (.type "builtin_function_or_method") (.fields #[.builtin "object.__init_subclass__",R a])
abbrev sU(a:Nat):Obj:=O (.type "super") (.fields #[R a,R a,R a])
abbrev Ob:=Params->Obj
def ev{α:Type}:Bool->List α->List α
 |_,[]=>[]
 |true,x::r=>x::ev false r
 |false,_::r=>ev true r
def bt:Nat->List Obj->BT
 |0,_=>.nil
 |_,[]=>.nil
 |n+1,x::r=>.node x (bt n (ev true r)) (bt n (ev false r))
def env0:Env:={ scope:=p.main.scope,locals:=mainNs,globals:=mainNs,cells:=[],code:=.ref 13,frame:=some 14 }
abbrev cE:Code:=.body (behindTheImports p) env0
abbrev q0:Pos:=⟨0,0,0,0⟩
abbrev an:Option Value:=some (.ref 6)
abbrev Pc(n:Nat)(S I:World->OsState->SharedT)(l:List Stmt)(q J:Pos)(w:World):Prop:=(λos=>segRunT treeTable p w 11 an 1 n (S w os) (piecesOf l env0 cE q [topFrame q0]))=λos=>some (Flow.next,I w os,cE,J)
abbrev b0:=PySem.W.boot_o_0
abbrev b1:=PySem.W.boot_o_1
abbrev b2:=PySem.W.boot_o_2
abbrev b3:=PySem.W.boot_o_3
abbrev b4:=PySem.W.boot_o_4
abbrev b5:=PySem.W.boot_o_5
abbrev b6:=PySem.W.boot_o_6
abbrev b7:=PySem.W.boot_o_7
abbrev b8:=PySem.W.boot_o_8
abbrev b9:=PySem.W.boot_o_9
abbrev b10:=PySem.W.boot_o_10
def w9:Ob:=λ_=>tu #[]
def bE:Ob:=λ_=>O .none (.fields #[])
def xac:Ob:=λ_=>cC "<module>" 182 1 11 185
def xad:Ob:=λ_=>⟨(.type "frame"),none,.plain,#[(some (R 13)),(some (R 3)),(some (R 3)),none,(some (S "__main__" 164)),none,(some (R 0))]⟩
def xag:Ob:=λ_=>O (.type "getset_descriptor") (.fields #[S "__weakref__" 233,R 45,(.builtin "ExceptionGroup.__weakref__"),.none])
def xaj:Ob:=λ_=>fo (FN "head_of" "Pieces.head_of" (zV 1 1) .none .none .none (S "oncewise.pieces" 187) none (R 34) .none)
def xak:Ob:=λ_=>co "__init__" "Pieces.__init__" 201 4 2 0 0 3 22 true 181 23 .none (R 24) (R 25) (R 26) 206
def xap:Ob:=λ_=>co "unite" "Pieces.unite" 218 14 3 0 0 3 36 true 181 37 .none (R 38) (R 39) (R 40) 226
def xaq:Ob:=λ_=>fo (FN "is_leaf" "is_leaf" (top 4) .none .none .none (S "oncewise.words" 238) none (R 56) .none)
def xat:Ob:=λ_=>⟨(.type "type"),none,(.cls (ClassData.mk (s "Pieces") [(.type "object")] [R 45,(.type "object")] 44 (s "Pieces") true [] [] false none false)),#[none,none,(some (S "Pieces" 189)),(some (S "Pieces" 197)),(some (.builtin "object.__new__")),(some (.bool true))]⟩
def xau:Ob:=λ_=>co "places_there" "places_there" 252 24 1 0 0 3 58 true 181 59 .none .none .none (R 60) 255
def xaz:Ob:=λ_=>cF "is_leaf" 243 21 1 51 247
def xa2:Ob:=λ_=>fo (FN "__init__" "Pieces.__init__" (zV 1 0) .none .none .none (S "oncewise.pieces" 187) none (R 27) .none)
def xa3:Ob:=λP=>O (.type "dict") (.dict #[(E P "__module__" 196 (S "oncewise.pieces" 187)),(E P "__firstlineno__" 200 (I 2 199)),(E P "__init__" 208 (R 28)),(E P "head_of" 217 (R 35)),(E P "unite" 228 (R 42)),(E P "__static_attributes__" 230 (R 43)),(E P "__dict__" 232 (R 46)),(E P "__weakref__" 234 (R 47)),(E P "__doc__" 235 .none)] 4)
def xa5:Ob:=λ_=>co "head_of" "Pieces.head_of" 209 7 2 0 0 3 29 true 181 30 .none (R 31) (R 32) (R 33) 215
def xa6:Ob:=λ_=>tu #[S "plain" 240,S "turned" 241]
def xa8:Ob:=λ_=>fo (FN "unite" "Pieces.unite" (zV 1 2) .none .none .none (S "oncewise.pieces" 187) none (R 41) .none)
def xba:Ob:=λ_=>O (.type "getset_descriptor") (.fields #[S "__dict__" 231,R 45,(.builtin "function.__dict__"),(.builtin "function.__dict__#set")])
def xbb:Ob:=λ_=>fX "places_there" 6 m3_ 61
def xbe:Ob:=λ_=>fX "boths_of" 10 m1_ 78
def xbg:Ob:=λ_=>fX "can_fold" 14 m1_ 102
def xbj:Ob:=λ_=>fX "all_come_together" 18 m1_ 130
def xbk:Ob:=λ_=>co "part_edges" "part_edges" 279 35 2 0 0 3 80 true 181 81 .none .none .none (R 82) 282
def xbm:Ob:=λ_=>fX "joins_of" 12 m1_ 90
def xbn:Ob:=λ_=>cF "shrunk" 331 64 1 118 335
def xbq:Ob:=λ_=>cF "join_steps" 292 42 2 92 300
def xbr:Ob:=λ_=>fX "_law_cell_at" 21 ie 144
def xbt:Ob:=λ_=>co "eithers_of" "eithers_of" 265 30 1 0 0 3 70 true 181 71 .none .none .none (R 72) 268
def xbu:Ob:=λ_=>cF "right_web" 348 69 1 132 352
def xbw:Ob:=λ_=>fX "parts_of" 7 m3_ 68
def xby:Ob:=λ_=>fX "steps_by" 16 m1_ 116
def xb1:Ob:=λ_=>cF "fold_steps" 309 51 3 104 318
def xb3:Ob:=λ_=>cF "_law_cell_at" 357 72 2 139 362
def xb8:Ob:=λ_=>cF "parts_of" 258 26 1 63 262
def xb9:Ob:=λ_=>fX "part_edges" 11 m1_ 83
def xca:Ob:=λ_=>cF "steps_by" 321 61 3 111 328
def xcc:Ob:=λ_=>fX "shrunk" 17 m1_ 123
def xcd:Ob:=λ_=>cF "all_come_together" 338 66 3 125 345
def xce:Ob:=λ_=>fX "join_steps" 13 m1_ 97
def xcg:Ob:=λ_=>fX "eithers_of" 8 m3_ 73
def xch:Ob:=λ_=>fX "right_web" 19 m1_ 137
def xcj:Ob:=λ_=>cF "joins_of" 285 40 1 85 289
def xcm:Ob:=λ_=>co "can_fold" "can_fold" 303 48 3 0 0 3 99 true 181 100 .none .none .none (R 101) 306
def xcn:Ob:=λ_=>co "boths_of" "boths_of" 273 33 1 0 0 3 75 true 181 76 .none .none .none (R 77) 276
def xco:Ob:=λ_=>fX "fold_steps" 15 m1_ 109
def xcr:Ob:=λ_=>cF "_law_mirror" 414 118 2 186 425
def xcs:Ob:=λ_=>fX "_law_mix" 23 ie 158
def xcv:Ob:=λ_=>cF "_law_same" 365 76 2 146 372
def xcw:Ob:=λ_=>cF "_law_tree" 452 169 3 210 466
def xcz:Ob:=λ_=>co "_law_name" "_law_name" 384 95 2 0 0 3 160 true 181 161 .none .none .none (R 162) 387
def xc0:Ob:=λ_=>cF "_law_fold" 434 139 4 198 443
def xc1:Ob:=λ_=>fX "_law_word" 25 ie 170
def xc4:Ob:=λ_=>co "_law_crossed" "_law_crossed" 475 208 4 0 0 3 222 true 181 223 .none .none .none (R 224) 478
def xc5:Ob:=λ_=>fX "_law_cut" 31 ie 208
def xc6:Ob:=λ_=>cF "_law_flip" 399 109 1 172 404
def xc8:Ob:=λ_=>fX "_law_weight" 27 ie 184
def xc9:Ob:=λ_=>fX "_law_join" 29 ie 196
def xdc:Ob:=λ_=>fX "_law_told" 33 ie 220
def xdd:Ob:=λ_=>fX "_law_mirror" 28 ie 191
def xdf:Ob:=λ_=>co "_law_cut" "_law_cut" 446 147 4 0 0 3 205 true 181 206 .none .none .none (R 207) 449
def xdi:Ob:=λ_=>fX "_law_same" 22 ie 151
def xdj:Ob:=λ_=>fX "_law_tree" 32 ie 215
def xdk:Ob:=λ_=>cF "_law_weight" 407 114 1 179 411
def xdm:Ob:=λ_=>co "_law_join" "_law_join" 428 131 4 0 0 3 193 true 181 194 .none .none .none (R 195) 431
def xdn:Ob:=λ_=>fX "_law_name" 24 ie 163
def xdq:Ob:=λ_=>fX "_law_fold" 30 ie 203
def xdr:Ob:=λ_=>co "_law_told" "_law_told" 469 198 1 0 0 3 217 true 181 218 .none .none .none (R 219) 472
def xdu:Ob:=λ_=>fX "_law_crossed" 34 ie 225
def xdv:Ob:=λ_=>fX "_law_flip" 26 ie 177
def xdx:Ob:=λ_=>cF "_law_word" 390 104 2 165 396
def xd1:Ob:=λ_=>cF "_law_mix" 375 93 3 153 381
def xd3:Ob:=λP=>O (.type "dict") (.dict #[(E P "__name__" 165 (S "law_oncewise_k35_shrinking_walked" 355)),(E P "__doc__" 166 .none),(E P "__package__" 167 .none),(E P "__loader__" 168 (.builtin "__main__.__loader__#opaque")),(E P "__spec__" 169 .none),(E P "__annotations__" 170 (R 6)),(E P "__builtins__" 171 (R 4)),(E P "__file__" 173 (S "/claim/cut.py" 172)),(E P "__cached__" 174 .none),(E P "Pieces" 237 (R 45)),(E P "LEAF_KINDS" 242 (R 50)),(E P "is_leaf" 249 (R 57)),(E P "places_there" 257 (R 62)),(E P "parts_of" 264 (R 69)),(E P "eithers_of" 270 (R 74)),(E P "boths_of" 278 (R 79)),(E P "part_edges" 284 (R 84)),(E P "joins_of" 291 (R 91)),(E P "join_steps" 302 (R 98)),(E P "can_fold" 308 (R 103)),(E P "fold_steps" 320 (R 110)),(E P "steps_by" 330 (R 117)),(E P "shrunk" 337 (R 124)),(E P "all_come_together" 347 (R 131)),(E P "right_web" 354 (R 138)),(E P "_law_cell_at" 364 (R 145)),(E P "_law_same" 374 (R 152)),(E P "_law_mix" 383 (R 159)),(E P "_law_name" 389 (R 164)),(E P "_law_word" 398 (R 171)),(E P "_law_flip" 406 (R 178)),(E P "_law_weight" 413 (R 185)),(E P "_law_mirror" 427 (R 192)),(E P "_law_join" 433 (R 197)),(E P "_law_fold" 445 (R 204)),(E P "_law_cut" 451 (R 209)),(E P "_law_tree" 468 (R 216)),(E P "_law_told" 474 (R 221)),(E P "_law_crossed" 480 (R 226)),(E P "_law_beneath" 492 (R 233)),(E P "_law_recast" 498 (R 238)),(E P "_law_order" 510 (R 245)),(E P "_law_gapped" 516 (R 250)),(E P "_law_web" 533 (R 257)),(E P "_law_copy" 540 (R 264)),(E P "_law_whole" 547 (R 271)),(E P "_law_count" 553 (R 276)),(E P "_law_places" 559 (R 281)),(E P "_law_step" 565 (R 286)),(E P "_law_walked" 579 (R 293)),(E P "_law_ended" 591 (R 300)),(E P "law" 597 (R 305))] 52)
def xd5:Ob:=λ_=>fX "_law_whole" 41 ie 270
def xd7:Ob:=λ_=>cF "_law_copy" 534 286 1 258 538
def xeb:Ob:=λ_=>co "_law_count" "_law_count" 548 290 2 0 0 3 272 true 181 273 .none .none .none (R 274) 551
def xee:Ob:=λ_=>cF "_law_ended" 580 324 2 294 589
def xef:Ob:=λ_=>fX "_law_web" 39 ie 256
def xeh:Ob:=λ_=>fX "law" 47 ie 304
def xej:Ob:=λ_=>fX "_law_beneath" 35 ie 232
def xek:Ob:=λ_=>fX "_law_places" 43 ie 280
def xel:Ob:=λ_=>co "_law_gapped" "_law_gapped" 511 260 5 0 0 3 246 true 181 247 .none .none .none (R 248) 514
def xem:Ob:=λ_=>fX "_law_walked" 45 ie 292
def xeo:Ob:=λ_=>fX "_law_order" 37 ie 244
def xeq:Ob:=λ_=>co "_law_recast" "_law_recast" 493 229 4 0 0 3 234 true 181 235 .none .none .none (R 236) 496
def xer:Ob:=λ_=>co "_law_step" "_law_step" 560 294 3 0 0 3 282 true 181 283 .none .none .none (R 284) 563
def xet:Ob:=λ_=>cF "_law_web" 517 274 4 251 531
def xeu:Ob:=λ_=>co "law" "law" 592 334 1 0 0 3 301 true 181 302 .none .none .none (R 303) 595
def xev:Ob:=λ_=>fX "_law_copy" 40 ie 263
def xex:Ob:=λ_=>cF "_law_beneath" 481 218 2 227 490
def xey:Ob:=λ_=>co "_law_places" "_law_places" 554 292 1 0 0 3 277 true 181 278 .none .none .none (R 279) 557
def xe2:Ob:=λ_=>cF "_law_walked" 566 311 2 287 577
def xe3:Ob:=λ_=>fX "_law_count" 42 ie 275
def xe4:Ob:=λ_=>cF "_law_order" 499 252 2 239 508
def xe5:Ob:=λ_=>fX "_law_ended" 46 ie 299
def xfb:Ob:=λ_=>fX "_law_gapped" 38 ie 249
def xfd:Ob:=λ_=>cF "_law_whole" 541 288 1 265 545
def xfe:Ob:=λ_=>fX "_law_recast" 36 ie 237
def xff:Ob:=λ_=>fX "_law_step" 44 ie 285
def asj:List Ob:=[b0,b1,b2,b3,b4,b5,b6,b7,b8,b9,b10,w9,bE,xac,xad]
def ao9:List Ob:=[b0,b1,b2,xd3,b4,b5,b6,b7,b8,b9,b10,w9,λ_=>O .none (.fields #[I 2 0,I 0 0,R 20,I 21 0,I 0 0,R 56,I 24 0,I 0 0,R 61,I 26 0,I 0 0,R 68,I 30 0,I 0 0,R 73,I 33 0,I 0 0,R 78,I 35 0,I 0 0,R 83,I 40 0,I 0 0,R 90,I 42 0,I 0 0,R 97,I 48 0,I 0 0,R 102,I 51 0,I 0 0,R 109,I 61 0,I 0 0,R 116,I 64 0,I 0 0,R 123,I 66 0,I 0 0,R 130,I 69 0,I 0 0,R 137,I 72 0,I 0 0,R 144,I 76 0,I 0 0,R 151,I 93 0,I 0 0,R 158,I 95 0,I 0 0,R 163,I 104 0,I 0 0,R 170,I 109 0,I 0 0,R 177,I 114 0,I 0 0,R 184,I 118 0,I 0 0,R 191,I 131 0,I 0 0,R 196,I 139 0,I 0 0,R 203,I 147 0,I 0 0,R 208,I 169 0,I 0 0,R 215,I 198 0,I 0 0,R 220,I 208 0,I 0 0,R 225,I 218 0,I 0 0,R 232,I 229 0,I 0 0,R 237,I 252 0,I 0 0,R 244,I 260 0,I 0 0,R 249,I 274 0,I 0 0,R 256,I 286 0,I 0 0,R 263,I 288 0,I 0 0,R 270,I 290 0,I 0 0,R 275,I 292 0,I 0 0,R 280,I 294 0,I 0 0,R 285,I 311 0,I 0 0,R 292,I 324 0,I 0 0,R 299,I 334 0,I 0 0,R 304]),xac,xad,w9,λ_=>O (.type "builtin_function_or_method") (.fields #[(.builtin "type.__prepare__"),(.type "type")]),λP=>O (.type "dict") (.dict #[(E P "__module__" 196 (S "oncewise.pieces" 187)),(E P "__qualname__" 198 (S "Pieces" 197)),(E P "__firstlineno__" 200 (I 2 199)),(E P "__init__" 208 (R 28)),(E P "head_of" 217 (R 35)),(E P "unite" 228 (R 42)),(E P "__static_attributes__" 230 (R 43))] 7),w9,λ_=>O .none (.fields #[I 4 0,I 4 0,R 27,I 7 0,I 4 0,R 34,I 14 0,I 4 0,R 41]),λ_=>cC "Pieces" 191 2 18 194,λ_=>fR 20 17,w9,bE,λ_=>tu #[S "self" 204,S "count" 205],w9,λ_=>go (FG "__init__" "Pieces.__init__" (zV 1 0)),xak,xa2,w9,bE,λ_=>tu #[S "self" 212,S "place" 213,S "here" 214],w9,λ_=>go (FG "head_of" "Pieces.head_of" (zV 1 1)),xa5,xaj,w9,bE,λ_=>tu #[S "self" 221,S "p" 222,S "q" 223,S "first" 224,S "second" 225],w9,λ_=>go (FG "unite" "Pieces.unite" (zV 1 2)),xap,xa8,λ_=>tu #[S "heads" 229],xa3,xat,xba,xag,λ_=>sU 45,λ_=>bI 45,xa6,w9,bE,λ_=>tu #[S "word" 246],w9,λ_=>gX "is_leaf" 4,xaz,xaq,w9,bE,λ_=>gX "places_there" 6,xau,xbb,w9,bE,λ_=>tu #[S "knot" 261],w9,λ_=>gX "parts_of" 7,xb8,xbw,w9,bE,λ_=>gX "eithers_of" 8,xbt,xcg,w9,bE,λ_=>gX "boths_of" 10,xcn,xbe,w9,bE,λ_=>gX "part_edges" 11,xbk,xb9,w9,bE,λ_=>tu #[S "web" 288],w9,λ_=>gX "joins_of" 12,xcj,xbm,w9,bE,λ_=>tu #[S "pieces" 295,S "joins" 296,S "steps" 297,S "p" 298,S "q" 299],w9,λ_=>gX "join_steps" 13,xbq,xce,w9,bE,λ_=>gX "can_fold" 14,xcm,xbg,w9,bE,λ_=>tu #[S "pieces" 312,S "knots" 313,S "eithers" 314,S "steps" 315,S "before" 316,S "place" 317],w9,λ_=>gX "fold_steps" 15,xb1,xco,w9,bE,λ_=>tu #[S "knots" 324,S "joins" 325,S "eithers" 326,S "pieces" 327],w9,λ_=>gX "steps_by" 16,xca,xby,w9,bE,λ_=>tu #[S "web" 334],w9,λ_=>gX "shrunk" 17,xbn,xcc,w9,bE,λ_=>tu #[S "knots" 341,S "joins" 342,S "eithers" 343,S "due" 344],w9,λ_=>gX "all_come_together" 18,xcd,xbj,w9,bE,λ_=>tu #[S "web" 351],w9,λ_=>gX "right_web" 19,xbu,xch,w9,bE,λ_=>tu #[S "_law_script" 360,S "_law_k" 361],w9,λ_=>gX "_law_cell_at" 21,xb3,xbr,w9,bE,λ_=>tu #[S "_law_found" 368,S "_law_due" 369,S "_law_one" 370,S "_law_other" 371],w9,λ_=>gX "_law_same" 22,xcv,xdi,w9,bE,λ_=>tu #[S "_law_cell" 378,S "_law_k" 379,S "_law_factor" 380],w9,λ_=>gX "_law_mix" 23,xd1,xcs,w9,bE,λ_=>gX "_law_name" 24,xcz,xdn,w9,bE,λ_=>tu #[S "_law_knots" 393,S "_law_p" 394,S "_law_knot" 395],w9,λ_=>gX "_law_word" 25,xdx,xc1,w9,bE,λ_=>tu #[S "_law_word_here" 402,S "_law_sides" 403],w9,λ_=>gX "_law_flip" 26,xc6,xdv,w9,bE,λ_=>tu #[S "_law_word_here" 410],w9,λ_=>gX "_law_weight" 27,xdk,xc8,w9,bE,λ_=>tu #[S "_law_knots" 417,S "_law_word_here" 418,S "_law_left" 419,S "_law_right" 420,S "_law_turn" 421,S "_law_same_here" 422,S "_law_low" 423,S "_law_high" 424],w9,λ_=>gX "_law_mirror" 28,xcr,xdd,w9,bE,λ_=>gX "_law_join" 29,xdm,xc9,w9,bE,λ_=>tu #[S "_law_knots" 437,S "_law_tree_here" 438,S "_law_one" 439,S "_law_two" 440,S "_law_left" 441,S "_law_right" 442],w9,λ_=>gX "_law_fold" 30,xc0,xdq,w9,bE,λ_=>gX "_law_cut" 31,xdf,xc5,w9,bE,λ_=>tu #[S "_law_cells" 455,S "_law_seed" 456,S "_law_room" 457,S "_law_knots" 458,S "_law_forest" 459,S "_law_k" 460,S "_law_cell" 461,S "_law_one" 462,S "_law_two" 463,S "_law_deed" 464,S "_law_at" 465],w9,λ_=>gX "_law_tree" 32,xcw,xdj,w9,bE,λ_=>gX "_law_told" 33,xdr,xdc,w9,bE,λ_=>gX "_law_crossed" 34,xc4,xdu,w9,bE,λ_=>tu #[S "_law_knots" 484,S "_law_cuts" 485,S "_law_todo" 486,S "_law_p" 487,S "_law_q" 488,S "_law_beneath_here" 489],w9,λ_=>gX "_law_beneath" 35,xex,xej,w9,bE,λ_=>gX "_law_recast" 36,xeq,xfe,w9,bE,λ_=>tu #[S "_law_knots" 502,S "_law_seed" 503,S "_law_p" 504,S "_law_knot" 505,S "_law_rank" 506],λ_=>tu #[S "_law_keys" 507],λ_=>gX "_law_order" 37,xe4,xeo,w9,bE,λ_=>gX "_law_gapped" 38,xel,xfb,w9,bE,λ_=>tu #[S "_law_script" 520,S "_law_seed" 521,S "_law_room" 522,S "_law_most" 523,S "_law_bits" 524,S "_law_gaps" 525,S "_law_knots" 526,S "_law_rule" 527,S "_law_links" 528,S "_law_cuts" 529,S "_law_k" 530],w9,λ_=>gX "_law_web" 39,xet,xef,w9,bE,λ_=>tu #[S "_law_web_here" 537],w9,λ_=>gX "_law_copy" 40,xd7,xev,w9,bE,λ_=>tu #[S "_law_found" 544],w9,λ_=>gX "_law_whole" 41,xfd,xd5,w9,bE,λ_=>gX "_law_count" 42,xeb,xe3,w9,bE,λ_=>gX "_law_places" 43,xey,xek,w9,bE,λ_=>gX "_law_step" 44,xer,xff,w9,bE,λ_=>tu #[S "_law_web_here" 569,S "_law_steps" 570,S "_law_label" 571,S "_law_p" 572,S "_law_step_here" 573,S "_law_pair" 574,S "_law_old" 575,S "_law_kept" 576],w9,λ_=>gX "_law_walked" 45,xe2,xem,w9,bE,λ_=>tu #[S "_law_web_here" 583,S "_law_label" 584,S "_law_p" 585,S "_law_q" 586,S "_law_r" 587,S "_law_knot" 588],w9,λ_=>gX "_law_ended" 46,xee,xe5,w9,bE,λ_=>gX "law" 47,xeu,xeh]
def asm:List Ob:=[b0,b1,b2,b3,b4,b5,b6,b7,b8,b9,b10,w9,bE,xac,xad]
def ar8:List Ob:=ao9
def hpA(P:Params):Heap:=⟨⟨asj.map (· P)⟩,{}⟩
def hpZ(P:Params):Heap:=⟨⟨ao9.map (· P)⟩,{}⟩
def tr0(P:Params):BT:=bt 20 (asm.map (· P))
def tr4(P:Params):BT:=bt 20 (ar8.map (· P))
def sA(w:World)(os:OsState):Shared:=⟨hpA w.params,#[],{},187,os⟩
def sZ(w:World)(os:OsState):Shared:=⟨hpZ w.params,#[],{},598,os⟩
def iY(w:World)(os:OsState):SharedT:=⟨tr0 w.params,15,{},#[],{},187,os⟩
def st4(w:World)(os:OsState):SharedT:=⟨tr4 w.params,306,{},#[],{},598,os⟩
def an1:List Stmt:=((behindTheImports p).drop 0).take 48
theorem ar6(w:World):(λos=>topGo treeTable p w 11 an 12 ⟨boot_heap w.params,#[],boot_drawn,boot_toks,os⟩ (topStub p))=λos=>some (sA w os,⟨denote treeTable cE,cE,⟨0,0,0,0⟩,[topFrame q0]⟩):=by kernel_rfl
theorem aqf(w:World):(λos=>segRun treeTable p w 11 an 1 1 (sA w os) (blockOf (behindTheImports p) env0 cE ⟨0,0,0,0⟩ [topFrame q0]))=λos=>some (.next,(iY w os).abs,cE,⟨0,0,0,0⟩):=by kernel_rfl
theorem pc1:∀w,Pc 1570 iY st4 an1 ⟨0,0,0,0⟩ ⟨334,0,346,128⟩ w:=λw=>by kernel_rfl
theorem as9(w:World):(λos=>topRun treeTable p w 11 an 2 (st4 w os).abs ⟨doneF .next,cE,⟨334,0,346,128⟩,[topFrame q0]⟩)=λos=>some (sZ w os):=by kernel_rfl
theorem aox:an1++([])=behindTheImports p:=by kernel_rfl
theorem arp(w:World)(os:OsState):topRun treeTable p w 11 an (12+(1+(1570+(2)))) ⟨boot_heap w.params,#[],boot_drawn,boot_toks,os⟩ (topStub p)=some (sZ w os):=by have h:=(piece_app (l:=an1) (rest:=[]) (segRun_of (Eb (pc1 w) os)) (piece_nil (env:=env0) (Eb (as9 w) os)));rw[aox] at h;exact go_top (Eb (ar6 w) os) (piece_block (Eb (aqf w) os) h)
def as0:List Nat:=[0,1,2,3,4,5,6,7,8,9,10,13,27,28,34,35,41,42,44,45,46,47,50,56,57,61,62,68,69,73,74,78,79,83,84,90,91,97,98,102,103,109,110,116,117,123,124,130,131,137,138,144,145,151,152,158,159,163,164,170,171,177,178,184,185,191,192,196,197,203,204,208,209,215,216,220,221,225,226,232,233,237,238,240,244,245,249,250,256,257,263,264,270,271,275,276,280,281,285,286,292,293,299,300,304,305]
def vw:Program:={ p with main:={ p.main with body:=[top 1,top 3,top 4,top 6,top 7,top 8,top 10,top 11,top 12,top 13,top 14,top 15,top 16,top 17,top 18,top 19,top 21,top 22,top 23,top 24,top 25,top 26,top 27,top 28,top 29,top 30,top 31,top 32,top 33,top 34,top 35,top 36,top 37,top 38,top 39,top 40,top 41,top 42,top 43,top 44,top 45,top 46,top 47] } }
def K0:Params->Frag:=λP=>(nat_lit 0,b0 P)::(nat_lit 1,b1 P)::(nat_lit 2,b2 P)::(nat_lit 3,xd3 P)::(nat_lit 4,b4 P)::(nat_lit 5,b5 P)::(nat_lit 6,b6 P)::(nat_lit 7,b7 P)::(nat_lit 8,b8 P)::(nat_lit 9,b9 P)::(nat_lit 10,b10 P)::(nat_lit 13,xac P)::(nat_lit 27,xak P)::(nat_lit 28,xa2 P)::(nat_lit 34,xa5 P)::(nat_lit 35,xaj P)::(nat_lit 41,xap P)::(nat_lit 42,xa8 P)::(nat_lit 44,xa3 P)::(nat_lit 45,xat P)::(nat_lit 46,xba P)::(nat_lit 47,xag P)::(nat_lit 50,xa6 P)::(nat_lit 56,xaz P)::(nat_lit 57,xaq P)::(nat_lit 61,xau P)::(nat_lit 62,xbb P)::(nat_lit 68,xb8 P)::(nat_lit 69,xbw P)::(nat_lit 73,xbt P)::(nat_lit 74,xcg P)::(nat_lit 78,xcn P)::(nat_lit 79,xbe P)::(nat_lit 83,xbk P)::(nat_lit 84,xb9 P)::(nat_lit 90,xcj P)::(nat_lit 91,xbm P)::(nat_lit 97,xbq P)::(nat_lit 98,xce P)::(nat_lit 102,xcm P)::(nat_lit 103,xbg P)::(nat_lit 109,xb1 P)::(nat_lit 110,xco P)::(nat_lit 116,xca P)::(nat_lit 117,xby P)::(nat_lit 123,xbn P)::(nat_lit 124,xcc P)::(nat_lit 130,xcd P)::(nat_lit 131,xbj P)::(nat_lit 137,xbu P)::(nat_lit 138,xch P)::(nat_lit 144,xb3 P)::(nat_lit 145,xbr P)::(nat_lit 151,xcv P)::(nat_lit 152,xdi P)::(nat_lit 158,xd1 P)::(nat_lit 159,xcs P)::(nat_lit 163,xcz P)::(nat_lit 164,xdn P)::(nat_lit 170,xdx P)::(nat_lit 171,xc1 P)::(nat_lit 177,xc6 P)::(nat_lit 178,xdv P)::(nat_lit 184,xdk P)::(nat_lit 185,xc8 P)::(nat_lit 191,xcr P)::(nat_lit 192,xdd P)::(nat_lit 196,xdm P)::(nat_lit 197,xc9 P)::(nat_lit 203,xc0 P)::(nat_lit 204,xdq P)::(nat_lit 208,xdf P)::(nat_lit 209,xc5 P)::(nat_lit 215,xcw P)::(nat_lit 216,xdj P)::(nat_lit 220,xdr P)::(nat_lit 221,xdc P)::(nat_lit 225,xc4 P)::(nat_lit 226,xdu P)::(nat_lit 232,xex P)::(nat_lit 233,xej P)::(nat_lit 237,xeq P)::(nat_lit 238,xfe P)::(nat_lit 240,bE P)::(nat_lit 244,xe4 P)::(nat_lit 245,xeo P)::(nat_lit 249,xel P)::(nat_lit 250,xfb P)::(nat_lit 256,xet P)::(nat_lit 257,xef P)::(nat_lit 263,xd7 P)::(nat_lit 264,xev P)::(nat_lit 270,xfd P)::(nat_lit 271,xd5 P)::(nat_lit 275,xeb P)::(nat_lit 276,xe3 P)::(nat_lit 280,xey P)::(nat_lit 281,xek P)::(nat_lit 285,xer P)::(nat_lit 286,xff P)::(nat_lit 292,xe2 P)::(nat_lit 293,xem P)::(nat_lit 299,xee P)::(nat_lit 300,xe5 P)::(nat_lit 304,xeu P)::(nat_lit 305,xeh P)::[]
abbrev lamC:Nat:=244
abbrev lamT:Nat:=240
abbrev lamO:Ob:=xe4
abbrev ls:List Str:=[]
abbrev Xt:Shared->Bool:=λs=>xlAt vw [] s&&recOk (RowW.records rr.row.toRowW) s
theorem aof(w:World):((boot_heap w.params).isNs mainGlobals&&(#[]:Array GenState).size==0,(boot_heap w.params).objs.size,(boot_heap w.params).nsMap mainGlobals "__annotations__")=(true,11,an):=by kernel_rfl
theorem arz:opening p=plainProg p.main.scope.names:=by kernel_rfl
theorem aq9(s:Shared):fenceModules? p s=some s:=by kernel_rfl
theorem lk1(w:World):(λos=>(staticsOk (importedModules p.main.body) (boot_heap w.params) (hpZ w.params)&&namesBound p (hpZ w.params)&&gensDone (sZ w os)&&laidKept (boot_heap w.params) (hpZ w.params)))=λ_=>true:=by kernel_rfl
theorem xY(w:World):(λos=>openSeen vw ls (importedModules p.main.body) Xt true (sZ w os))=λ_=>openGood vw ls:=by kernel_rfl
theorem lk3(w:World):(λos=>obsZ as0 (sZ w os))=λ_=>valZ K0 306 598 w:=by kernel_rfl
theorem left_:LeftO p vw ls Xt (obsZ as0) (valZ K0 306 598) 3258:=LeftO.of_pieces (boot_open arz rfl aq9) aof arp rfl λw=>funext λos=>looks_pair (Eb (lk1 w) os) (looks_pair (Eb (xY w) os) (Eb (lk3 w) os))
end
end H35
open PySem PySem.W PyProof.Rows
set_option maxRecDepth 100000 in
set_option maxHeartbeats 0 in
theorem PySem.Challenge.cw_oncewise_k35_shrinking_walked_holds : PySem.Challenge.rw_oncewise_k35_shrinking_walked.Holds := by
 w_on;refine holds_law (by unfold OpenLaw.wellSaid OpenRow.wellSaid OpenRow.partSaid looksOpen;walk_at "y";walk_at "y";walk_at "y";walk_at "y";walk_at "y";walk_at "y";all_goals decide +kernel) λJ=>?_
 refine holds_openX (q:=H35.vw) (loose:=H35.ls) (Xt:=H35.Xt) (XP:=XL H35.vw []) (Yf:=PySem.W.X.obsZ H35.as0) (Ya:=PySem.W.X.valZ H35.K0 306 598) (N:=3258) H35.left_ (λs e=>xl_of s (Bool.and_eq_true_iff.mp e).1)
  XL.keeps (by rfl) (by rfl) (by rfl) (λs e=>recFacts_of (Bool.and_eq_true_iff.mp e).2)
  (by rfl) (by decide +kernel) (by decide +kernel) ⟨rfl,rfl,rfl,rfl,rfl,by decide +kernel⟩ ?hw ?hc
 case hw=>w_witness2
 k_fill
 refine L2.walk_ofZT (l:=PySem.Challenge.rw_oncewise_k35_shrinking_walked) (n:=63) (k:=131) (x:="_law_script") (CX:=L2.CX0) (sp:=L3.spTopT L3.lamQ) rfl (by decide) rfl ⟨rfl,by decide,by decide⟩ (λ_=>rfl) (by decide) ?F ?S ?C
 case F=>
  intro w r t h g G I;have T:(H35.K0 w.params).lookup H35.lamT=some (PySem.W.tabObj #[]):=by k_is
  have U:(H35.K0 w.params).lookup H35.lamC=some (H35.lamO w.params):=by k_is
  have hd:∀h:Heap,h.get? H35.lamC=some (H35.lamO w.params)->PySem.W.CodeHd h H35.lamC H35.lamT:=λh e=>⟨_,_,_,_,_,_,_,_,_,e,rfl,rfl,rfl,rfl,rfl,rfl,rfl,rfl,by decide⟩;have j:(H35.K0 w.params).lookup 4=some (PySem.W.boot_o_4 w.params):=by k_is
  have o:L3.DefInT (L2.lessK H35.lamT (H35.K0 w.params)) "_law_order" K35.s__law_order H35.lamT:=by
   refine' K35.def_inT (L2.ns_dn T ?a) (L2.lk_dn T ?l ?n) (L2.code_dn T ?c) (L2.keep_dn T ?k) ?LC
   (case a=>k_is);(case l=>k_is);(case n=>(intro e;cases e));(case c=>k_is);(case k=>k_is)
   refine'⟨⟨H35.lamC,_,rfl,L2.lk_dn T U ?m,hd⟩,⟨4,_,L2.ns_dn T ?b,by decide,by decide,L2.lk_dn T j ?p,rfl,rfl,rfl⟩⟩
   (case m=>(intro e;cases e));(case b=>k_is);(case p=>(intro e;cases e))
  refine⟨H35.lamT,⟨T,⟨H35.lamC,λh X=>hd h (X _ _ U)⟩,by decide⟩,?_⟩;refine' K35.all_mk (K:=L2.lessK H35.lamT (H35.K0 w.params)) (L2.lessK_in g) G I ?D0 ?D1 ?D2 ?D3 ?D4 ?D5 ?D6 ?D7 ?D8 ?D9 ?D10 ?D11 ?D12 ?D13 ?D14 ?D15 ?D16 ?D17 ?D18 ?D19 ?D20 ?D21 ?D22 ?D23 ?D24 ?D25 ?D26 ?D27 ?D28 ?D29 ?D30 ?D31 ?D32 ?D33 ?D34 ?D35 ?D36 ?D37 ?D38 ?D39 ?D40 ?D41 ?D42 ?D43 ?aLEAF_KINDS ?lLEAF_KINDS ?aCPieces ?clPieces ?mAPieces ?mKPieces ?xf ?zlist ?zrange ?zenumerate ?zlen ?zisinstance ?zbool ?ztuple ?zzip ?zint ?zstr ?zsorted ?zmax ?zmin
  (case aCPieces=>(refine' L2.ns_dn T ?_;k_is))
  (case D0|D1|D2=>refine' L3.meth_in ((L2.find_dn T).trans ?a) (L2.lk_dn T ?l ?n) (L2.code_dn T ?c) (L2.keep_dn T ?k) (L2.isFn_dn T ?i);(case a=>k_is);(case l=>k_is);(case n=>(intro e;cases e));(case c=>k_is);(case k=>k_is);(case i=>k_is))
  (case D3|D4|D5|D6|D7|D8|D9|D10|D11|D12|D13|D14|D15|D16|D17|D18|D19|D20|D21|D22|D23|D24|D25|D26|D27|D28|D29|D30|D31|D32|D34|D35|D36|D37|D38|D39|D40|D41|D42|D43=>refine' L2.def_in (L2.ns_dn T ?a) (L2.lk_dn T ?l ?n) (L2.code_dn T ?c) (L2.keep_dn T ?k);(case a=>k_is);(case l=>k_is);(case n=>(intro e;cases e));(case c=>k_is);(case k=>k_is))
  (case D33=>exact o)
  (case aLEAF_KINDS=>(refine' L2.ns_dn T ?_;k_is))
  (case lLEAF_KINDS=>(refine' L2.lk_dn T ?x ?n;(case x=>k_is);(case n=>(intro e;cases e))))
  (case clPieces=>refine' L2.Cls.dn T ?_;refine' L2.Cls.mk ?pg ?hd ?po ?sa;(case pg=>k_is);(case hd=>k_is);(case po=>k_is);(case sa=>k_is))
  (case mAPieces=>(refine' L2.makes_dn T ?_;k_is))
  (case mKPieces=>(refine' L2.keep_dn T ?_;k_is))
  (case xf=>(refine' L3.XFP.dn T ?_;(refine' L3.XFP.mk ?cl ?na;(case cl=>(refine' L2.Cls.mk ?pg ?hd ?po ?sa;(case pg=>k_is);(case hd=>k_is);(case po=>k_is);(case sa=>k_is)));(case na=>(unfold L2.NoAttr;k_is)))))
  (case zlist|zrange|zenumerate|zlen|zisinstance|zbool|ztuple|zzip|zint|zstr|zsorted|zmax|zmin=>(refine' L2.ns_dn T ?_;k_is))
 case S=>exact L3.top_startT
 case C=>exactλ_ _ _ _ z=>z
#print axioms PySem.Challenge.cw_oncewise_k35_shrinking_walked_holds
