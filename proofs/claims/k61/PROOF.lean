import PyProof.Rows.All
import Wide.All
import OpenK.AllK
import Wide.FinOn
import Lean
import PyProof.EqAt
import PyProof.EqKinds
import PyProof.TupleCall
import PyProof.NeKinds
import PySem.Challenge.RW_oncewise_k61_one_exchange
import OpenK.ZGo
set_option genSizeOf false
set_option bootstrap.genMatcherCode false
set_option compiler.extract_closed false
set_option hygiene false
local macro_rules|`(tactic| walk_at "t")=>`(tactic| (first|assumption|exact Nat.succ_pos _|exact za.tk (by assumption)|exact Nat.lt_of_lt_of_le (za.tk (by assumption)) (Nat.le_add_right _ _)|exact Nat.lt_of_lt_of_le (za.tk (by assumption)) (by assumption)))
set_option hygiene true
local macro_rules|`(tactic| walk_at "w")=>`(tactic| conv=>whnf)
local macro_rules|`(tactic| walk_at "y")=>`(tactic| ((refine PySem.W.look_both ?_ ?_);(refine PySem.W.look_both ?_ ?_);(refine PySem.W.look_both ?_ ?_);(refine PySem.W.look_both ?_ ?_);(refine PySem.W.look_both ?_ ?_);(refine PySem.W.look_both ?_ ?_)))
set_option Elab.async false
set_option linter.all false
set_option maxRecDepth 100000
abbrev Aa:=@PySem.wpAny_bind
abbrev Ab:=@List.length_map
abbrev Ac:=@List.length_append
abbrev Ad:=@PySem.W.Frag
abbrev Ae:=@List.mem_cons_of_mem
abbrev Af:=@List.getElem?_eq_getElem
abbrev Ag:=@PySem.wpAny_pure
abbrev Ah:=@List.mem_append_right
abbrev Ai:=@List.mem_singleton
abbrev Aj:=@Nat.le_refl
abbrev Ak:=@List.mem_cons_self
abbrev Al:=@List.size_toArray
abbrev Am:=@List.map_append
abbrev An:=@List.getElem?_map
abbrev Ao:=@List.mem_cons
abbrev Ap:=@Option.map_eq_some_iff
abbrev Aq:=@List.mem_append
abbrev Ar:=@List.mem_append_left
abbrev Au:=@decide_eq_false
abbrev Av:=@PyProof.Rows.wpS_bind
abbrev Aw:=@List.getElem?_append_right
abbrev Ax:=@List.nodup_append
abbrev Ay:=@Bool.false_ne_true
abbrev Az:=@List.flatMap_append
abbrev AA:=@List.nodup_cons
abbrev AB:=@if_pos
abbrev AC:=@if_neg
abbrev AD:=@List.mem_of_getElem?
abbrev AE:=@decide_eq_true
abbrev AF:=@Ne.symm
abbrev AG:=@List.getElem?_append_left
abbrev AH:=@PyProof.Rows.wpS_pure
abbrev AI:=@Nat.lt_of_lt_of_le
abbrev AJ:=@List.length_cons
abbrev AK:=@List.map_cons
abbrev AL:=@List.getElem?_eq_some_iff
abbrev AM:=@Nat.le_trans
abbrev AN:=@Option.some.inj
abbrev AO:=@PySem.wpAny_mono
abbrev AQ:=@PySem.wpAny_field
abbrev AR:=@List.append_assoc
abbrev AS:=@List.flatMap_cons
abbrev AU:=@List.mem_filter
abbrev AV:=@Nat.ne_of_lt
abbrev AW:=@List.mem_map
abbrev AX:=@List.append_nil
abbrev AY:=@PySem.wpAny_holding
abbrev AZ:=@Int.toNat_natCast
abbrev A1:=@Bool.and_eq_true
abbrev A2:=@PySem.W.mg_none_of
abbrev A3:=@List.length_take
abbrev A4:=@List.mem_flatMap
abbrev A5:=@Int.natCast_nonneg
abbrev A6:=@List.perm_ext_iff_of_nodup
abbrev A7:=@List.length_singleton
abbrev A8:=@List.take_append_drop
abbrev A9:=@List.take_length
abbrev Ba:=@List.cons_ne_nil
abbrev Bb:=@List.mem_range
abbrev Bc:=@List.take_succ
abbrev Bd:=@PySem.wpAny_seqItems
abbrev Be:=@Array.getElem?_toList
abbrev Bf:=@Nat.zero_le
abbrev Bg:=@PySem.W.mg_of
abbrev Bh:=@PySem.W.kia_one
abbrev Bi:=@Nat.le_of_lt
abbrev Bj:=@Nat.le_of_ble_eq_true
abbrev Bk:=@List.find?_cons
abbrev Bl:=@PySem.wpAny_newObj_type
abbrev Bm:=@List.getD_eq_getElem?_getD
abbrev Bo:=@List.lookup_cons
abbrev Bp:=@PyProof.Rows.wpS_forRange
abbrev Bq:=@List.take_of_length_le
abbrev Br:=@List.not_mem_nil
abbrev Bs:=@PySem.mem_of_lookup
abbrev Bt:=@congrArg
abbrev Bu:=@Array.length_toList
abbrev Bv:=@List.getElem_take
abbrev Bw:=@Bool.eq_iff_iff
abbrev Bx:=@PySem.W.hideAll_none
abbrev Bz:=@List.perm_iff_count
abbrev BA:=@Nat.le_add_right
abbrev BB:=@PySem.wpAny_rule
abbrev BC:=@List.all_eq_true
abbrev BD:=@List.getElem?_set_ne
abbrev BE:=@List.eq_nil_of_length_eq_zero
abbrev BF:=@Bool.eq_false_iff
abbrev BG:=@List.length_range
abbrev BH:=@Nat.lt_succ_of_lt
abbrev BI:=@List.count_append
abbrev BJ:=@List.length_reverse
abbrev BK:=@List.getElem?_set_self
abbrev BL:=@PyProof.Rows.callWith_type1
abbrev BM:=@List.map_map
abbrev BN:=@List.getElem_cons_drop
abbrev BO:=@Bool.false_eq_true
abbrev BP:=@List.perm_append_singleton
abbrev BQ:=@List.length_replicate
abbrev BR:=@List.sublist_append_right
abbrev BS:=@List.forIn_cons
abbrev BU:=@PySem.W.look_both
abbrev BV:=@Nat.le_succ
abbrev BW:=@Nat.le_succ_of_le
abbrev BX:=@List.mem_of_mem_take
abbrev BY:=@List.any_cons
abbrev BZ:=@PyProof.Rows.slot_tuple_getitem
abbrev B1:=@List.eraseIdx_cons_succ
abbrev B3:=@List.Perm.refl
abbrev B4:=@List.nodup_range
abbrev B5:=@PySem.W.of_hideAll
abbrev B6:=@PySem.W.funFrames_hide
abbrev B7:=@Nat.sub_self
abbrev B8:=@Int.zero_add
abbrev B9:=@List.filter_append
abbrev Cm:=@Nat.min_eq_left
abbrev Cn:=@Nat.lt_irrefl
abbrev Co:=@List.getElem?_eq_none
abbrev Cp:=@List.eq_nil_or_concat
abbrev Cq:=@List.concat_eq_append
abbrev Cr:=@Option.isSome_map
abbrev Cs:=@Bool.not_eq_true'
abbrev Ct:=@List.perm_append_right_iff
abbrev Cu:=@List.length_drop
abbrev Cv:=@List.perm_middle
abbrev Cw:=@Nat.lt_succ_self
abbrev Cy:=@List.drop_eq_getElem_cons
abbrev Cz:=@List.findIdx?_eq_none_iff
abbrev CA:=@PySem.W.hideAll_get
abbrev CB:=@List.filterMap_cons
abbrev CC:=@List.cons.inj
abbrev CD:=@List.sublist_append_left
abbrev CF:=@List.nil_append
abbrev CG:=@Nat.lt_of_le_of_lt
abbrev CH:=@List.getElem?_take
abbrev CI:=@List.append_of_mem
abbrev CK:=@List.getElem?_replicate
abbrev CL:=@List.getElem?_cons_succ
abbrev CM:=@List.length_eraseIdx_le
abbrev CN:=@List.findIdx?_eq_some_iff_getElem
abbrev CO:=@Nat.succ_pos
abbrev CP:=@Nat.ne_of_gt
abbrev CQ:=@List.map_nil
abbrev CS:=@List.forIn_nil
abbrev CT:=@List.mem_range'_1
abbrev CU:=@List.Sublist.refl
abbrev CV:=@List.flatMap_singleton
abbrev CW:=@List.eraseIdxIfInBounds_toArray
abbrev CY:=@List.getElem?_reverse
abbrev CZ:=@Nat.max_eq_right
abbrev C0:=@Int.mul_le_mul_of_nonneg_right
abbrev C1:=@List.filter_cons
abbrev C2:=@Int.le_refl
abbrev C3:=@List.pairwise_append
abbrev C4:=@List.getElem?_of_mem
abbrev C5:=@List.of_mem_zip
abbrev C6:=@Nat.max_eq_left
abbrev C7:=@List.sum_append
abbrev C8:=@List.getElem?_range
abbrev C9:=@Array.toList_append
abbrev Dd:=@List.mem_map_of_mem
abbrev De:=@Nat.lt_or_ge
abbrev Df:=@Int.le_of_lt
abbrev Dg:=@List.mem_filterMap
abbrev Di:=@Option.isSome_some
abbrev Dj:=@List.drop_zero
abbrev Dk:=@PySem.F.excBase_ValueError
abbrev Dl:=@List.getElem?_drop
abbrev Dm:=@congrFun
abbrev Dn:=@PySem.F.slot_dict_getitem
abbrev Do:=@List.pairwise_iff_getElem
abbrev Dp:=@List.perm_append_left_iff
abbrev Dq:=@List.getElem?_zip_eq_some
abbrev Dr:=@PySem.W.kitx_list
abbrev Ds:=@List.reverse_perm
abbrev Dt:=@List.pairwise_map
abbrev Du:=@List.nodup_range'
abbrev Dv:=@List.getElem?_take_of_lt
abbrev Dw:=@PySem.F.args_tuple_add_2
abbrev Dx:=@List.all_cons
abbrev Dy:=@List.getElem_append_left
abbrev Dz:=@Int.ofNat_inj
abbrev DA:=@PySem.F.entry_tuple_add
abbrev DB:=@Nat.succ_le_succ
abbrev DC:=@PySem.F.plainAttrs_list
abbrev DD:=@List.range'_succ
abbrev DE:=@Nat.add_sub_cancel_left
abbrev DF:=@List.cons_append
abbrev DG:=@PySem.W.cellsFrom_some
abbrev DH:=@PySem.F.slot_tuple_add
abbrev DI:=@Int.le_trans
abbrev DJ:=@Nat.sub_zero
abbrev DK:=@List.filter_eq_nil_iff
abbrev DL:=@Array.size_push
abbrev DM:=@Bool.or_eq_true
abbrev DN:=@beq_false_of_ne
abbrev DO:=@List.length_zip
abbrev DP:=@Nat.le_add_left
abbrev DQ:=@Int.emod_nonneg
abbrev DR:=@Bool.and_false
abbrev As:=@PySem.Heap.get?_push_of_some
abbrev At:=@PySem.Heap.lt_size
abbrev Db:=@PySem.Heap.get?_push_size
abbrev DT:=@PySem.PassesOwn.never
abbrev Ef:=@PySem.Heap.get?_update_other
abbrev Eg:=@PySem.Heap.SameBut.update
abbrev Eh:=@PySem.Heap.get?_update_self
abbrev Ei:=@PySem.F.slot_tuple_iterator_next
abbrev Ej:=@PySem.MeetsSeq.plain_remove_loop
abbrev Ek:=@PySem.W.look_both
abbrev El:=@PySem.Calls.spliced_cons
abbrev Em:=@PySem.Around.under_plainId
abbrev En:=@PySem.F.plain_extend_loop
abbrev Eo:=@PySem.Calls.spliced_nil
abbrev Ep:=@PySem.Heap.size_push
abbrev Er:=@PySem.F.slot_zip_next
abbrev Es:=@Sum.inr.inj
noncomputable section
namespace L2
open PySem PyProof.Rows
theorem iU{M:Model}{g:Ctx}{p:Pos}{t:Sem Fin}{fs:List Frame}{s s':Shared}{e:End}(h:Runs M g p t fs s e s'):s.toks<=s'.toks:=by induction h with|fresh _ j=>exact AM (BV _) j|call _ _ J U=>exact AM J U|resumeFresh _ _ _ _ J U=>exact AM J U|resumeSuspended _ _ _ _ J U=>exact AM J U|segRet _ _ J U=>exact AM J U|segGen _ _ J U=>exact AM J U|segSuspGen _ _ _ _ J U=>exact AM J U|_=>first|exact Aj _|assumption
theorem vI{M:Model}{U:Ctx}{p:Pos}{g:Nat}{r:Resume}{s s':Shared}{res:GenResult}(h:Wakes M U p g r s res s'):s.toks<=s'.toks:=by
 unfold Wakes at h;split at h
 ·exact h.elim
 ·split at h
  ·obtain⟨e,j,J,_,_,rfl⟩:=h;have q:=iU J;exact q
  ·obtain⟨_,rfl⟩:=h;exact Aj _
  ·obtain⟨_,rfl⟩:=h;exact Aj _
 ·obtain⟨e,j,J,_,_,rfl⟩:=h;have q:=iU J;exact q
 ·obtain⟨_,rfl⟩:=h;exact Aj _
 ·obtain⟨_,rfl⟩:=h;exact Aj _
theorem agf{α:Type}{M:Model}{C:Ctx}(t:Sem α):∀{Q:α->Pos->Shared->Prop} {E:Value->Pos->Shared->Prop} {p:Pos} {s:Shared} (n:Nat),n<=s.toks->Sem.wp M C t Q E p s->Sem.wp M C t (λa j s'=>Q a j s'/\n<=s'.toks) (λe j s'=>E e j s'/\n<=s'.toks) p s:=by induction t with|pure a=>intro Q E p s n J h;exact⟨h,J⟩|raise e=>intro Q E p s n J h;exact⟨h,J⟩|load a part k U=>intro Q E p s n J ⟨o,h1,h2⟩;exact⟨o,h1,U o n J h2⟩|update a part f k U=>intro Q E p s n J ⟨h1,h2⟩;exact⟨h1,U () n J h2⟩|fresh k U=>intro Q E p s n J h;exact U s.toks n (AM J (BV _)) h|choose I m k U=>intro Q E p s n J ⟨h1,h2⟩;exact⟨h1,U _ n J h2⟩|call c hd g l k U=>intro Q E p s n J ⟨r,s',h1,h2⟩;exact⟨r,s',h1,U r n (AM J (iU h1)) h2⟩|genState g k U=>intro Q E p s n J ⟨st,h1,h2⟩;exact⟨st,h1,U _ n J h2⟩|resume g r l k U=>intro Q E p s n J ⟨res,s',h1,h2⟩;exact⟨res,s',h1,U _ n (AM J (vI h1)) h2⟩|rule tag k U=>intro Q E p s n J h;exact U () n J h|«at» pos k U=>intro Q E p s n J h;exact U () n J h|alloc o k U=>intro Q E p s n J h;exact U _ n J h|loadIfAlive a k U=>intro Q E p s n J h;exact U _ n J h|point l k U=>intro Q E p s n J h;exact U _ n J h|ask k U=>intro Q E p s n J h;exact U _ n J h|os q l k U=>intro Q E p s n J h;exact U _ n J h|handled own k U=>intro Q E p s n J h;exact U _ n J h|newGen c k U=>intro Q E p s n J h;exact U _ n J h|stack k U=>intro Q E p s n J h;exact U _ n J h|thread k U=>intro Q E p s n J h;exact U _ n J h|unsupported w=>intro Q E p s n J h;exact h.elim|finish e=>intro Q E p s n J h;exact h.elim|register a k U=>intro Q E p s n J h;exact h.elim|yield v g l k U=>intro Q E p s n J h;exact h.elim|fork c k U=>intro Q E p s n J h;exact h.elim|await a f d l k U=>intro Q E p s n J h;exact h.elim
theorem uo{α:Type}{M:Model}{A:Around}{t:Sem α}{Q:α->Shared->Prop}{E:Value->Shared->Prop}{s:Shared}(h:wpAny M A t Q E s):wpAny M A t (λa s'=>Q a s'/\s.toks<=s'.toks) (λe s'=>E e s'/\s.toks<=s'.toks) s:=
 λU p J=>agf t s.toks (Aj _) (h U p J)
theorem x4{α:Type}{M:Model}{A:Around}{t:Sem α}{Q:α->Shared->Prop}{E:Value->Shared->Prop}{s:Shared}(J:0<s.toks)(h:wpAny M A t (λa s'=>0<s'.toks->Q a s') (λe s'=>0<s'.toks->E e s') s):wpAny M A t Q E s:=
 AO (uo h) (λ_ _ z=>z.1 (AI J z.2)) λ_ _ z=>z.1 (AI J z.2)
end L2
variable {M:PySem.Model}{apos eW wh ya lp np p p1 p2 p3 p4 p5 pos fy tp:PySem.Pos}{t t1 t2:Bool}{s s':PySem.Shared}{c e nw o target tg value:PySem.Expr}{α κ:Type}{A:PySem.Around}{E Q xe:PySem.Value->PySem.Shared->Prop}{eH us:List PySem.Value}{C Dc Pt a b dx f i1 i2 it ka l l1 l2 pa z:PySem.Addr}{cd fm ct gh oc pm u:PySem.Value}{base h h':PySem.Heap}{d i j m n t' x1:Nat}{ch fp:List PySem.Addr}{kx name px q eK x:PySem.Str}{pins:List (PySem.Addr×PySem.Obj)}{nC st:PySem.Stmt}{oi es ni:List PySem.Expr}{body kt:List PySem.Stmt}{lo:Int}{mA mg:PySem.Str->Option PySem.Value}{fd:PySem.FuncData}{ps:List PySem.Str}{fx scope:PySem.Scope}{outer:List PySem.Env}{an od:Option PySem.Addr}{sy:Array (Option PySem.Value)}{prog:PySem.Program}{env:PySem.Env}{rks:List Int}
namespace L2
open PySem PySem.Spec PyProof.Rows
abbrev jf:=Sum Int Str
def l5:jf->Value->Bool
 |.inl k,v=>Value.isInt k v
 |.inr x,v=>Value.isStrOf x v
def aqv(w:World):jf->Int
 |.inl k=>hashInt k
 |.inr x=>hashStr w x
theorem vi:∀{k:jf} {v:Value},l5 k v=true->(∃i t,k=Sum.inl i/\v=Value.int i t)\/(∃x t,k=Sum.inr x/\v=Value.str x t)
 |.inl i,v,h=>by obtain⟨t,e⟩:=Value.isInt_shape (k:=i) (v:=v) h;exact .inl ⟨i,t,rfl,e⟩
 |.inr x,v,h=>by obtain⟨t,e⟩:=Value.isStrOf_shape (x:=x) (v:=v) h;exact .inr ⟨x,t,rfl,e⟩
theorem zF(i:Int)(t:Tok):l5 (.inl i) (.int i t)=true:=by simp[l5,Value.isInt]
theorem iL(x:Str)(t:Tok):l5 (.inr x) (.str x t)=true:=by simp[l5,Value.isStrOf]
theorem aly(a b:Int):decide ((Sum.inl a:jf)=Sum.inl b)=(a==b):=by
 by_cases e:a=b
 ·subst e;simp
 ·have h:¬(Sum.inl a:jf)=Sum.inl b:=λq=>e (Sum.inl.inj q);rw[Au h];exact(beq_eq_false_iff_ne.mpr e).symm
theorem al2(a b:Str):decide ((Sum.inr a:jf)=Sum.inr b)=decide (a=b):=by
 by_cases e:a=b
 ·subst e;simp
 ·have h:¬(Sum.inr a:jf)=Sum.inr b:=λq=>e (Es q);rw[Au h,Au e]
theorem aj7(a:Int)(b:Str):decide ((Sum.inl a:jf)=Sum.inr b)=false:=Au (λq=>nomatch q)
theorem ajm(a:Str)(b:Int):decide ((Sum.inr a:jf)=Sum.inl b)=false:=Au (λq=>nomatch q)
def v9(prog:Program)(w:World):PySem.KeyKind prog w jf where
 is:=l5
 hash:=aqv w
 inj:=λv a b l g=>by
  rcases vi l with⟨i,t,rfl,rfl⟩|⟨x,t,rfl,rfl⟩
  ·rcases vi g with⟨j,u,rfl,e⟩|⟨y,u,rfl,e⟩
   ·injection e with J _;rw[J]
   ·exact nomatch e
  ·rcases vi g with⟨j,u,rfl,e⟩|⟨y,u,rfl,e⟩
   ·exact nomatch e
   ·injection e with J _;rw[J]
 byValue:=λk v h=>by rcases vi h with⟨i,t,rfl,rfl⟩|⟨x,t,rfl,rfl⟩<;>rfl
 pyHash:=λU h=>by
  rcases vi U with⟨i,t,rfl,rfl⟩|⟨x,t,rfl,rfl⟩
  ·exact wpAny_pyHash_int h
  ·exact wpAny_pyHash_str h
 eqBool:=λo U h=>by
  rcases vi o with⟨i,t,rfl,rfl⟩|⟨x,t,rfl,rfl⟩
  ·rcases vi U with⟨j,u,rfl,rfl⟩|⟨y,u,rfl,rfl⟩
   ·rw[aly] at h;exact wpAny_eqBool_int h
   ·rw[aj7] at h;exact SeqAt.EqAt.int_str i t y u _ _ _ _ h
  ·rcases vi U with⟨j,u,rfl,rfl⟩|⟨y,u,rfl,rfl⟩
   ·rw[ajm] at h;exact SeqAt.EqAt.str_int x t j u _ _ _ _ h
   ·rw[al2] at h;exact wpAny_eqBool_str h
 «strs» := λk x t v h=>by
  rcases vi h with⟨i,u,rfl,e⟩|⟨y,u,rfl,e⟩
  ·exact nomatch e
  ·injection e with J _
   subst J;cases v<;>rfl
theorem rZ(prog:Program)(w:World)(i:Int)(t:Tok):(v9 prog w).is (.inl i) (.int i t)=true:=zF i t
theorem rS(prog:Program)(w:World)(x:Str)(t:Tok):(v9 prog w).is (.inr x) (.str x t)=true:=iL x t
inductive V where
 |non|bl (b:Bool)|int (i:Int)|str (x:Str)|byt (b:Array UInt8)|flt (b:UInt64)|ref (a:Addr)|ty (n:String)
 deriving DecidableEq
def zu:V->Value->Prop
 |.non,u=>u=Value.none
 |.bl b,u=>u=Value.bool b
 |.int i,u=>∃t,u=Value.int i t
 |.str x,u=>∃t,u=Value.str x t
 |.byt b,u=>∃t,u=Value.bytes b t
 |.flt b,u=>∃t,u=Value.float b t
 |.ref a,u=>u=Value.ref a
 |.ty n,u=>u=Value.type n
abbrev zq:List V->List Value->Prop:=Paired zu
theorem zq.length{xs:List V}(r:zq xs us):xs.length=us.length:=Paired.length r
theorem zq.get:∀{xs:List V} {us:List Value} {i:Nat} {x:V},zq xs us->xs[i]?=some x->∃u,us[i]?=some u/\zu x u
 |_,_,_,_,.nil,e=>by simp at e
 |_,_,0,_,.cons r _,e=>by simp at e;subst e;exact⟨_,rfl,r⟩
 |_,_,i+1,x,.cons _ t,e=>by obtain⟨u,h1,h2⟩:=zq.get (i:=i) (x:=x) t (by simpa using e);exact⟨u,by simpa using h1,h2⟩
theorem zq.set{x:V}{u:Value}(r:zu x u):∀{xs:List V} {us:List Value} (i:Nat),zq xs us->zq (xs.set i x) (us.set i u)
 |_,_,_,.nil=>.nil
 |_,_,0,.cons _ t=>.cons r t
 |_,_,i+1,.cons q t=>.cons q (zq.set r i t)
theorem zq.append:∀{xs ys:List V} {us J:List Value},zq xs us->zq ys J->zq (xs++ys) (us++J)
 |_,_,_,_,.nil,s=>s
 |_,_,_,_,.cons r t,s=>.cons r (zq.append t s)
theorem zq.take:∀{xs:List V} {us:List Value} (n:Nat),zq xs us->zq (xs.take n) (us.take n)
 |_,_,0,_=>.nil
 |_,_,_+1,.nil=>.nil
 |_,_,n+1,.cons r t=>.cons r (zq.take n t)
theorem zq.drop:∀{xs:List V} {us:List Value} (n:Nat),zq xs us->zq (xs.drop n) (us.drop n)
 |_,_,0,r=>r
 |_,_,_+1,.nil=>.nil
 |_,_,n+1,.cons _ t=>zq.drop n t
def iI:Option V->Option Value->Prop
 |some v,some u=>zu v u
 |none,none=>True
 |_,_=>False
def KV :List (κ×V)->List (κ×Value)->Prop:=Paired λ(p:κ×V) (q:κ×Value)=>p.1=q.1/\zu p.2 q.2
def kV:jf->V
 |.inl i=>.int i
 |.inr x=>.str x
inductive HO where
 |lst (xs:List V)
 |tup (xs:List V)
 |dK (kvs:List (jf×V))|dT (kvs:List (List jf×V))
 |set (S:Int->Bool) (n:Nat)
 |ins (C dx:Addr) (fs:List (Str×V))
 |own (x:Addr)
 |xd (fs:List (Str×V))
 |met (f x:Addr)
 |rng (lo hi:Int)
 |frz (o:Obj) (u:HO)
 |tbl (ps:Array Value)
 |ext (φ:Heap->Prop)
abbrev Hp:=Addr->Option HO
def upd(H:Hp)(a:Addr)(o:HO):Hp:=λb=>if b=a then some o else H b
theorem zg{H:Hp}{o:HO}:upd H a o a=some o:=by unfold upd;rw[AB rfl]
theorem qo{H:Hp}{o:HO}(h:b≠a):upd H a o b=H b:=by unfold upd;rw[AC h]
theorem wK{H:Hp}{o u:HO}:upd (upd H a o) a u=upd H a u:=by funext b;unfold upd;split<;>rfl
theorem aou{H:Hp}{o u:HO}(h:H a=some o)(h':H b=some u)(d:o≠u):a≠b:=by intro e;subst e;rw[h] at h';exact d (AN h')
theorem zr{H:Hp}{o:HO}(h:H a=some o)(h':H b=none):a≠b:=by intro e;subst e;rw[h] at h';cases h'
section
variable (P:Program)(w:World)
def xq(H:Hp)(h:Heap)(a:Addr):HO->Prop
 |.lst xs=>xs.length<=sizeLine/\∃(eH:List Value) (n:Nat),zq xs eH/\h.get? a=some { cls:=.type "list",data:=.seq eH.toArray n }
 |.tup xs=>xs.length<=sizeLine/\∃eH:List Value,zq xs eH/\IsTup h a eH.toArray
 |.dK kvs=>kvs.length<=sizeLine/\(a==sysModules)=false/\∃vs,KV kvs vs/\h.DictOf (v9 P w) a vs
 |.dT kvs=>kvs.length<=sizeLine/\(a==sysModules)=false/\∃xs:List (List jf×Addr×Value),
  Paired (λ(p:List jf×V) (q:List jf×Addr×Value)=>p.1=q.1/\H q.2.1=some (.tup (p.1.map kV))/\zu p.2 q.2.2) kvs xs/\
  ∃o es U,h.get? a=some o/\o.ExactDict/\o.data=.dict es U/\es.toList=xs.map (entryOfKey (tupleKind (v9 P w)))/\(xs.map (·.1)).Nodup
 |.set S n=>h.SetOf (intKind P w) a S n
 |.ins C dx fs=>H dx=some (.own a)/\fs.length<=1000/\dx≠a/\h.get? a=some (PySem.W.instObj C dx)/\
  ∃mA,h.Ns1 dx mA/\(∀f,iI (fs.lookup f) (mA f))/\PySem.Within mA (fs.map (·.1))
 |.own _=>∃o,h.get? a=some o
 |.xd fs=>∃mA,h.Ns1 a mA/\∀f,iI (fs.lookup f) (mA f)
 |.rng lo hi=>∃t u v,h.get? a=some { cls:=.type "range",data:=.fields #[.int lo t,.int hi u,.int 1 v] }
 |.frz o u=>h.get? a=some o/\xq H h a u
 |.tbl ps=>h.get? a=some { cls:=.none,data:=.fields ps }
 |.met f x=>h.get? a=some (PySem.W.methodObj (.ref f) (.ref x))
 |.ext J=>J h/\(∃o,h.get? a=some o)/\∀h1 h2:Heap,J h1->(∀o,h1.get? a=some o->h2.get? a=some o)->J h2
def dU(H:Hp)(h:Heap):Prop:=∀a o,H a=some o->xq P w H h a o
end
section
variable {P:Program}{w:World}{H H':Hp}{o:HO}
theorem xq.lt(x:xq P w H h a o):a<h.objs.size:=by
 cases o with
 |lst U=>obtain⟨_,_,_,_,e⟩:=x;exact At e
 |tup U=>obtain⟨_,_,_,p⟩:=x;exact p.lt
 |dK J=>obtain⟨_,_,_,_,o,_,_,e,_⟩:=x;exact At e
 |dT J=>obtain⟨_,_,_,_,o,_,_,e,_⟩:=x;exact At e
 |set S n=>obtain⟨o,_,_,_,e,_⟩:=x;exact At e
 |ins C g fs=>obtain⟨_,_,_,e,_⟩:=x;exact At e
 |own y=>obtain⟨_,e⟩:=x;exact At e
 |xd fs=>obtain⟨_,⟨_,_,_,e,_⟩,_⟩:=x;exact At e
 |rng lo j=>obtain⟨_,_,_,e⟩:=x;exact At e
 |frz ob u=>obtain⟨e,_⟩:=x;exact At e
 |tbl l=>exact At (show h.get? a=some _ from x)
 |met f y=>exact At (show h.get? a=some _ from x)
 |ext r=>obtain⟨_,⟨_,e⟩,_⟩:=x;exact At e
theorem Paired.mapP{α U:Type}{F G:α->U->Prop}:∀{l₁:List α} {J:List U},Paired F l₁ J->(∀a b,F a b->G a b)->Paired G l₁ J
 |_,_,.nil,_=>.nil
 |_,_,.cons r t,f=>.cons (f _ _ r) (Paired.mapP t f)
abbrev DX:=@Paired.mapP
theorem xq.stay(x:xq P w H h a o)(k:∀b u,(b=a\/H b=some (.own a))->h.get? b=some u->h'.get? b=some u)
 (ho:∀b,H b=some (.own a)->H' b=some (.own a)) (ht:∀b xs,H b=some (.tup xs)->H' b=some (.tup xs)):xq P w H' h' a o:=by
 induction o with
 |lst xs=>obtain⟨z,g,n,r,e⟩:=x;exact⟨z,g,n,r,k _ _ (.inl rfl) e⟩
 |tup xs=>obtain⟨z,g,r,ob,e,c⟩:=x;exact⟨z,g,r,ob,k _ _ (.inl rfl) e,c⟩
 |dK j=>obtain⟨z,y,vs,r,ob,J,U,e,c⟩:=x;exact⟨z,y,vs,r,ob,J,U,k _ _ (.inl rfl) e,c⟩
 |dT j=>
  obtain⟨z,y,xs,r,ob,J,U,e,c⟩:=x;exact⟨z,y,xs,DX r λp q z=>⟨z.1,ht _ _ z.2.1,z.2.2⟩,ob,J,U,k _ _ (.inl rfl) e,c⟩
 |set S n=>obtain⟨ob,J,U,t,e,c⟩:=x;exact⟨ob,J,U,t,k _ _ (.inl rfl) e,c⟩
 |ins C dx fs=>
  obtain⟨d,z,ne,e,l,⟨I,J,U,e2,c⟩,r⟩:=x;exact⟨ho _ d,z,ne,k _ _ (.inl rfl) e,l,⟨I,J,U,k _ _ (.inr d) e2,c⟩,r⟩
 |own y=>obtain⟨ob,e⟩:=x;exact⟨ob,k _ _ (.inl rfl) e⟩
 |xd fs=>obtain⟨l,⟨I,J,U,e,c⟩,r⟩:=x;exact⟨l,⟨I,J,U,k _ _ (.inl rfl) e,c⟩,r⟩
 |rng lo hi=>obtain⟨t,u,v,e⟩:=x;exact⟨t,u,v,k _ _ (.inl rfl) e⟩
 |frz ob u ih=>obtain⟨e,q⟩:=x;exact⟨k _ _ (.inl rfl) e,ih q⟩
 |tbl T=>
  have e:h.get? a=some { cls:=.none,data:=.fields T }:=x;show h'.get? a=some { cls:=.none,data:=.fields T };exact k a _ (.inl rfl) e
 |met f y=>
  have e:h.get? a=some (PySem.W.methodObj (.ref f) (.ref y)):=x;show h'.get? a=some (PySem.W.methodObj (.ref f) (.ref y));exact k a _ (.inl rfl) e
 |ext φ=>obtain⟨p,⟨o,e⟩,st⟩:=x;exact⟨st _ _ p λo q=>k _ _ (.inl rfl) q,⟨o,k _ _ (.inl rfl) e⟩,st⟩
theorem dU.lt(x:dU P w H h)(e:H a=some o):a<h.objs.size:=(x a o e).lt
theorem dU.fresh(x:dU P w H h)(e:h.objs.size<=a):H a=none:=by cases q:H a with|none=>rfl|some u=>exact absurd (AI (x.lt q) e) (Cn _)
theorem dU.kept(x:dU P w H h)(k:∀b u,h.get? b=some u->h'.get? b=some u):dU P w H h':=λa o e=>
 (x a o e).stay (λb u _ q=>k b u q) (λ_ q=>q) λ_ _ q=>q
theorem dU.laid(x:dU P w H h)(k:∀b u,h.get? b=some u->h'.get? b=some u)(g:h.objs.size<=a)(new:xq P w (upd H a o) h' a o):dU P w (upd H a o) h':=λb u e=>by
 have J:=x.fresh g;by_cases U:b=a
 ·subst U;rw[zg] at e;cases e;exact new
 ·rw[qo U] at e;exact(x b u e).stay (λc v _ q=>k c v q) (λc q=>by rw[qo (zr q J)];exact q) λc j q=>by rw[qo (zr q J)];exact q
end
def Rd(H:Hp)(a:Addr)(u:HO):Prop:=H a=some u\/∃o,H a=some (.frz o u)
theorem Rd.ok{P:Program}{w:World}{H:Hp}{u:HO}(r:Rd H a u)(x:dU P w H h):xq P w H h a u:=by
 rcases r with r|⟨o,r⟩
 ·exact x a u r
 ·obtain⟨_,q⟩:=x a _ r;exact q
def Mut:Option HO->Prop
 |some (.lst _)=>True
 |some (.dK _)=>True
 |some (.dT _)=>True
 |some (.set _ _)=>True
 |some (.ins _ _ _)=>True
 |some (.ext _)=>True
 |_=>False
section
variable {P:Program}{w:World}{H:Hp}{x e:Addr}{o':HO}
theorem dU.write(ok:dU P w H h)(j:Mut (H x))(C:e=x\/H e=some (.own x))(k:∀b u,b≠e->h.get? b=some u->h'.get? b=some u)(t:∃u,h'.get? e=some u)
 (new:xq P w (upd H x o') h' x o'):dU P w (upd H x o') h':=λb u q=>by
 have U:∀c y,H c=some (.own y)->c≠x:=λc y r z=>by subst z;rw[r] at j;exact j
 have g:∀c l,H c=some (.tup l)->c≠x:=λc l r z=>by subst z;rw[r] at j;exact j
 by_cases o:b=x
 ·subst o;rw[zg] at q;cases q;exact new
 ·rw[qo o] at q;by_cases J:b=e
  ·have I:H b=some (.own x):=by
    rcases C with z|z
    ·exact absurd (J.trans z) o
    ·rw[J];exact z
   rw[q] at I;cases I;obtain⟨v,T⟩:=t;exact⟨v,by rw[J];exact T⟩
  ·refine(ok b u q).stay (λc v p r=>k c v ?_ r) (λc r=>by rw[qo (U c b r)];exact r) λc l r=>by rw[qo (g c l r)];exact r
   rcases p with rfl|p
   ·exact J
   ·rintro rfl;rcases C with z|z
    ·exact U c b p z
    ·rw[p] at z;cases z;exact o rfl
end
structure Un(fs ex:List Addr)(H H':Hp)(h h':Heap):Prop where
 keep:∀b o,h.get? b=some o->H b=none->b∉fs->b∉ex->h'.get? b=some o
 slot:∀b o,h.get? b=some o->H b=none->b∈fs->b∉ex->∃sl,h'.get? b=some { o with slots:=sl }
 free:∀b o,h.get? b=some o->H b=none->b∉ex->H' b=none
 there:∀b o,h.get? b=some o->b∉ex->∃o',h'.get? b=some o'
 tups:∀b xs,H b=some (.tup xs)->H' b=some (.tup xs)
 frzs:∀b o u,H b=some (.frz o u)->H' b=some (.frz o u)
 tbls:∀b ps,H b=some (.tbl ps)->∃more,H' b=some (.tbl (ps++more))
section
variable {fs fs' ex ex':List Addr}{H H1 H2:Hp}{h1 h2:Heap}{x e:Addr}{o:HO}
theorem Un.any(u:Un fs ex H H1 h h1){ob:Obj}(q:h.get? b=some ob)(n:H b=none)(J:b∉ex):∃g,h1.get? b=some { ob with slots:=g }:=by
 by_cases U:b∈fs
 ·exact u.slot b ob q n U J
 ·exact⟨ob.slots,u.keep b ob q n U J⟩
theorem Un.kept(k:∀b u,h.get? b=some u->h'.get? b=some u):Un fs ex H H h h':=
 ⟨λb ob q _ _ _=>k b ob q,λb ob q _ _ _=>⟨ob.slots,k b ob q⟩,λ_ _ _ n _=>n,λb ob q _=>⟨ob,k b ob q⟩,λ_ _ q=>q,λ_ _ _ q=>q,λ_ J q=>⟨#[],by rw[q];simp⟩⟩
theorem Un.refl:Un fs ex H H h h:=Un.kept λ_ _ q=>q
theorem Un.laid(k:∀b u,h.get? b=some u->h'.get? b=some u)(U:h.objs.size<=a)(J:H a=none):Un fs ex H (upd H a o) h h' where
 keep:=λb u q _ _ _=>k b u q
 slot:=λb u q _ _ _=>⟨u.slots,k b u q⟩
 free:=λb u q n _=>by rw[qo (AV (AI (At q) U))];exact n
 there:=λb u q _=>⟨u,k b u q⟩
 tups:=λb g q=>by rw[qo (zr q J)];exact q
 frzs:=λb u g q=>by rw[qo (zr q J)];exact q
 tbls:=λb j q=>⟨#[],by rw[qo (zr q J),q];simp⟩
theorem Un.write(U:Mut (H x))(t:e=x\/H e=some (.own x))(k:∀b u,b≠e->h.get? b=some u->h'.get? b=some u)(g:∃u,h'.get? e=some u):Un fs ex H (upd H x o) h h':=by
 have l:∀b,H b=none->b≠x:=λb n z=>by subst z;rw[n] at U;exact U
 have p:∀b,H b=none->b≠e:=λb n z=>by
  subst z;rcases t with r|r
  ·exact l b n r
  ·rw[n] at r;cases r
 have j:∀b u,H b=some u->¬Mut (some u)->b≠x:=λb u q nm z=>by subst z;rw[q] at U;exact nm U
 refine⟨λb u q n _ _=>k b u (p b n) q,λb u q n _ _=>⟨u.slots,k b u (p b n) q⟩,λb u q n _=>by rw[qo (l b n)];exact n,λb u q _=>?_,
  λb C q=>by rw[qo (j b _ q λz=>z)];exact q,λb u C q=>by rw[qo (j b _ q λz=>z)];exact q,λb I q=>⟨#[],by rw[qo (j b _ q λz=>z),q];simp⟩⟩
 by_cases J:b=e
 ·subst J;exact g
 ·exact⟨u,k b u J q⟩
end
def trk(h:Heap)(H:Hp):List Addr:=(List.range h.objs.size).filter λa=>(H a).isSome
def pF(h:Heap)(H:Hp):Heap:=PySem.W.hideAll h (trk h H)
theorem yr(h:Heap)(H:Hp):(pF h H).objs.size=h.objs.size:=PySem.W.hideAll_size _ _
theorem adb{H:Hp}{o:Obj}(e:h.get? b=some o)(n:H b=none):(pF h H).get? b=some o:=
 CA _ e λJ=>by have q:(H b).isSome=true:=(AU.mp J).2;rw[n] at q;simp at q
theorem ahh{H:Hp}{o:Obj}(e:(pF h H).get? b=some o):h.get? b=some o/\H b=none:=by
 have J:h.get? b=some o:=B5 (trk h H) e;refine⟨J,?_⟩;cases q:H b with
 |none=>rfl
 |some x=>
  have U:b∈trk h H:=AU.mpr ⟨Bb.mpr (At J),by simp[q]⟩;have z:(pF h H).get? b=none:=Bx (trk h H) U;rw[z] at e;cases e
end L2
variable {vs xs zs:List L2.V}{H H' H₀:L2.Hp}{v:L2.V}
namespace L2
open PySem PySem.Spec PyProof.Rows
structure Mod(K:Ad)(mg:Str->Option Value)(base:Heap):Prop where
 kin:K.In base
 glob:base.Ns mainGlobals mg
 blt:∃mb,base.Ns builtinsNs mb/\∀x:Str,x ≠ "__name__" -> mb x=bootBuiltins x
 nolimit:base.NoLimit
structure Cx where
 prog:Program
 w:World
 K:Ad
 mg:Str->Option Value
 base:Heap
 A:Around
 N:List Str
 s₀:Shared
 H₀:Hp
 env:Env
 outer:List Env
 stack:List Env
 ex:List Addr
 fn:Str->Bool
 calm:Bool
 pn:List (Addr×Obj)
 xe:Value->Shared->Prop
def bK(l:List Env):List Addr:=l.filterMap (·.frame)
abbrev Cx.fs(X:Cx):List Addr:=bK X.outer
def Vis(J:Scope)(x:Str):Prop:=J.names.lookup x=some .local\/J.names.lookup x=some .cell\/J.names.lookup x=some .free
def Loc(J:Scope)(x:Str):Prop:=J.names.lookup x=some .local\/J.names.lookup x=some .cell
def apt(env:Env)(h:Heap)(m:Str->Option Value)(x:Str)(u:Value):Prop:=
 (env.kindOf x=some .local/\m x=some u)\/((env.kindOf x=some .cell\/env.kindOf x=some .free)/\∃c,env.cells.lookup x=some c/\h.IsCell c (some u))
structure Cx.Ok(X:Cx):Prop where
 mod:Mod X.K X.mg X.base
 kind:X.env.scope.kind=.function
 glob:X.env.globals=mainGlobals
 blt:X.env.builtins=builtinsNs
 above:X.s₀.heap.objs.size<=X.env.locals
 inj:∀x y c,X.env.cells.lookup x=some c->X.env.cells.lookup y=some c->x=y
 has:∀x,(X.env.kindOf x=some .cell\/X.env.kindOf x=some .free)->∃c,X.env.cells.lookup x=some c
 cab:∀x c,X.fn x=true->X.env.cells.lookup x=some c->X.s₀.heap.objs.size<=c
 hd:X.calm=true->X.A.handled=none
 frames:X.A.frames=some X.stack
 stk:X.stack=X.outer\/(X.stack=X.env::X.outer/\X.env.frame=some X.env.locals)
 exf:∀b∈X.ex,b≠X.env.locals/\∀x c,X.env.cells.lookup x=some c->c≠b
 bs:∀b o,X.base.get? b=some o->X.s₀.heap.get? b=some o/\X.H₀ b=none
 bsz:X.base.objs.size<=X.s₀.heap.objs.size
 noex:∀b o,X.base.get? b=some o->b∉X.ex
 exfs:∀b∈X.ex,b∉X.fs
 funs:X.s₀.heap.FunFrames X.base X.outer
 frf:∀b∈X.fs,X.H₀ b=none
structure za(X:Cx)(pins:List (Addr×Obj))(σ:List (Option V))(H:Hp)(s:Shared):Prop where
 ok:X.Ok
 os:s.os=X.s₀.os
 bare:AllBare s.gens
 base:Un X.fs X.ex X.H₀ H X.s₀.heap s.heap
 loc:∃m,s.heap.Ns X.env.locals m/\∀(i:Nat) (x:Str) (v:V),X.N[i]?=some x->σ[i]?=some (some v)->Vis X.env.scope x->∃u,zu v u/\apt X.env s.heap m x u
 cell:∀x c,X.env.cells.lookup x=some c->∃v,s.heap.IsCell c v
 free:H X.env.locals=none
 freeC:∀x c,X.env.cells.lookup x=some c->H c=none
 pin:∀p∈X.pn++pins,s.heap.get? p.1=some p.2/\H p.1=none/\p.1≠X.env.locals/\p.1∉X.fs/\∀v,p.2.data≠.cell v
 hok:dU X.prog X.w H s.heap
 len:σ.length=X.N.length
 tk:0<s.toks
section
variable {X:Cx}{σ:List (Option V)}
theorem Cx.Ok.nofr(ok:X.Ok){o:Obj}(e:X.base.get? b=some o):b∉X.fs:=λJ=>by have:=(ok.funs.mem J).1;rw[e] at this;cases this
theorem za.bs(I:za X pins σ H s):∀b o,X.base.get? b=some o->s.heap.get? b=some o/\H b=none:=λb o e=>
 ⟨I.base.keep b o (I.ok.bs b o e).1 (I.ok.bs b o e).2 (I.ok.nofr e) (I.ok.noex b o e),I.base.free b o (I.ok.bs b o e).1 (I.ok.bs b o e).2 (I.ok.noex b o e)⟩
theorem za.bk(I:za X pins σ H s):∀b o,X.base.get? b=some o->s.heap.get? b=some o:=λb o e=>(I.bs b o e).1
theorem za.mod(I:za X pins σ H s):Mod X.K X.mg X.base:=I.ok.mod
theorem za.kIn(I:za X pins σ H s):X.K.In s.heap:=I.ok.mod.kin.keeps I.bk
theorem za.nolimit(I:za X pins σ H s):s.heap.NoLimit:=I.ok.mod.nolimit.keeps I.bk
theorem za.lt(I:za X pins σ H s):X.env.locals<s.heap.objs.size:=let ⟨_,J,_⟩:=I.loc;J.lt
theorem za.sz(I:za X pins σ H s):X.s₀.heap.objs.size<=s.heap.objs.size:=AM I.ok.above (Bi I.lt)
theorem za.nofs(I:za X pins σ H s)(h:s.heap.objs.size<=a):a∉X.fs:=λJ=>by obtain⟨_,o,U,_⟩:=I.ok.funs.mem J;exact absurd (AI (At U) (AM I.sz h)) (Cn _)
theorem za.cne(I:za X pins σ H s):∀x c,X.env.cells.lookup x=some c->c≠X.env.locals:=λx c e z=>by obtain⟨v,o,g,hd⟩:=I.cell x c e;obtain⟨m,⟨j,l,p,J,U,_⟩,_⟩:=I.loc;rw[z,J] at g;cases g;rw[U] at hd;cases hd
theorem za.funs(I:za X pins σ H s):s.heap.FunFrames X.base X.outer:=by
 have all:∀(l:List Env),(∀b∈bK l,b∈X.fs)->X.s₀.heap.FunFrames X.base l->s.heap.FunFrames X.base l:=by
  intro l
  induction l with
  |nil=>intro _ _;trivial
  |cons p r t=>
   intro j C;obtain⟨T,⟨L,o,J,hn,ho,hd⟩,hr⟩:=C;have U:L∈X.fs:=j L (by unfold bK;rw[CB,J];exact Ak);obtain⟨sl,e⟩:=I.base.slot L o ho (I.ok.frf L U) U λz=>I.ok.exfs L z U;exact⟨T,⟨L,_,J,hn,e,hd⟩,t (λb g=>j b (by unfold bK;rw[CB,J];exact Ae _ g)) hr⟩
 exact all X.outer (λ_ g=>g) I.ok.funs
theorem za.stack(I:za X pins σ H s):s.heap.FunFrames X.base X.stack:=by
 rcases I.ok.stk with e|⟨e,J⟩
 ·rw[e];exact I.funs
 ·rw[e];obtain⟨m,U,_⟩:=I.loc;refine .cons (by rw[I.ok.kind];decide) J U ?_ I.funs;exact Heap.get?_none_of_le (AM I.ok.bsz I.ok.above)
theorem za.stkSub(I:za X pins σ H s):∀b∈bK X.stack,b∈X.env.locals::X.fs:=λb J=>by
 rcases I.ok.stk with e|⟨e,U⟩
 ·rw[e] at J;exact Ae _ J
 ·rw[e] at J;unfold bK at J;rw[CB,U] at J;exact J
theorem za.stkFree(I:za X pins σ H s):∀b∈bK X.stack,H b=none:=λb J=>by
 rcases Ao.mp (I.stkSub b J) with e|J
 ·rw[e];exact I.free
 ·obtain⟨_,o,U,_⟩:=I.ok.funs.mem J;exact I.base.free b o U (I.ok.frf b J) λz=>I.ok.exfs b z J
theorem za.step{g':Array GenState}{d':Drawn}(I:za X pins σ H s)
 (U:∀b∈ch,(b∈X.ex\/X.s₀.heap.objs.size<=b)/\b≠X.env.locals/\(∀x c,X.env.cells.lookup x=some c->c≠b)/\∀p∈X.pn++pins,p.1≠b)
 (keep:∀b o,b≠X.env.locals->b∉X.fs->b∉ch->s.heap.get? b=some o->H b=none->h'.get? b=some o)
 (slot:∀b o,b≠X.env.locals->b∈X.fs->b∉ch->s.heap.get? b=some o->H b=none->∃sl,h'.get? b=some { o with slots:=sl }) (free:∀b o,b∉ch->s.heap.get? b=some o->H b=none->H' b=none)
 (there:∀b o,b∉ch->s.heap.get? b=some o->∃o',h'.get? b=some o')
 (tups:∀b xs,H b=some (.tup xs)->H' b=some (.tup xs)) (frzs:∀b o u,H b=some (.frz o u)->H' b=some (.frz o u)) (tbls:∀b ps,H b=some (.tbl ps)->∃more,H' b=some (.tbl (ps++more)))
 (ns:∀m,s.heap.Ns X.env.locals m->h'.Ns X.env.locals m) (hok:dU X.prog X.w H' h') (hg:AllBare g') (ht:0<t':=by walk_at "t"):
 za X pins σ H' { s with heap:=h',gens:=g',drawn:=d',toks:=t' }:=by
 have km:∀b o,X.s₀.heap.get? b=some o->b≠X.env.locals:=λb o e=>AV (AI (At e) I.ok.above);have t:∀b o,X.s₀.heap.get? b=some o->b∉X.ex->b∉ch:=λb o e J T=>by
  rcases (U b T).1 with z|z
  ·exact J z
  ·exact absurd (AI (At e) z) (Cn _)
 have g:∀x c,X.env.cells.lookup x=some c->∀v,s.heap.IsCell c v->h'.IsCell c v:=λx c e v ⟨o,ho,hd⟩=>by
  have j:c∉ch:=λz=>(U c z).2.2.1 x c e rfl;by_cases hc:c∈X.fs
  ·obtain⟨sl,q⟩:=slot c o (I.cne x c e) hc j ho (I.freeC x c e);exact⟨_,q,hd⟩
  ·exact⟨o,keep c o (I.cne x c e) hc j ho (I.freeC x c e),hd⟩
 refine⟨I.ok,I.os,hg,⟨λb o e n T J=>?_,λb o e n T J=>?_,λb o e n J=>?_,λb o e J=>?_,λb xs e=>tups b xs (I.base.tups b xs e),λb o xs e=>frzs b o xs (I.base.frzs b o xs e),λb ps e=>?_⟩,?_,λx c e=>?_,?_,λx c e=>?_,λp hp=>?_,hok,I.len,ht⟩
 ·exact keep b o (km b o e) T (t b o e J) (I.base.keep b o e n T J) (I.base.free b o e n J)
 ·obtain⟨sl,C⟩:=I.base.slot b o e n T J;obtain⟨a1,e2⟩:=slot b _ (km b o e) T (t b o e J) C (I.base.free b o e n J);exact⟨a1,e2⟩
 ·obtain⟨o',C⟩:=I.base.there b o e J;exact free b o' (t b o e J) C (I.base.free b o e n J)
 ·obtain⟨o',C⟩:=I.base.there b o e J;exact there b o' (t b o e J) C
 ·obtain⟨m1,C⟩:=I.base.tbls b ps e;obtain⟨m2,e2⟩:=tbls b _ C;exact⟨m1++m2,by rw[e2,Array.append_assoc]⟩
 ·obtain⟨m,hn,hl⟩:=I.loc;refine⟨m,ns m hn,λi x v C e2 e3=>?_⟩;obtain⟨u,r,l⟩:=hl i x v C e2 e3;refine⟨u,r,?_⟩;rcases l with l|⟨k,c,e,z⟩
  ·exact .inl l
  ·exact .inr ⟨k,c,e,g x c e _ z⟩
 ·obtain⟨v,z⟩:=I.cell x c e;exact⟨v,g x c e v z⟩
 ·obtain⟨m,⟨o,_,_,ho,_⟩,_⟩:=I.loc;exact free _ o (λz=>(U _ z).2.1 rfl) ho I.free
 ·obtain⟨v,o,ho,hd⟩:=I.cell x c e;exact free c o (λz=>(U c z).2.2.1 x c e rfl) ho (I.freeC x c e)
 ·obtain⟨e,n,ne,nf,d⟩:=I.pin p hp;have j:p.1∉ch:=λz=>(U p.1 z).2.2.2 p hp rfl;exact⟨keep p.1 p.2 ne nf j e n,free p.1 p.2 j e n,ne,nf,d⟩
theorem za.un(I:za X pins σ H s)(u:Un X.fs [] H H' s.heap h')(hok:dU X.prog X.w H' h')(T:0<t':=by walk_at "t"):za X pins σ H' { s with heap:=h',toks:=t' }:=by obtain⟨m,⟨o,es,ep,l,r⟩,_⟩:=id I.loc;obtain⟨sl,p⟩:=u.any l I.free (by simp);exact I.step (g':=s.gens) (d':=s.drawn) (ch:=[]) (λ_ z=>nomatch z) (λb o _ U _ e n=>u.keep b o e n U (by simp)) (λb o _ U _ e n=>u.slot b o e n U (by simp)) (λb o _ e n=>u.free b o e n (by simp)) (λb o _ e=>u.there b o e (by simp)) u.tups u.frzs u.tbls (λm' t=>by obtain⟨o',g,j,J,C⟩:=t;rw[l] at J;cases J;exact⟨_,g,j,p,C⟩) hok I.bare
theorem za.call{g':Array GenState}{d':Drawn}(I:za X pins σ H s)(u:Un (bK X.stack) ch H H' s.heap h')(hok:dU X.prog X.w H' h')(T:AllBare g')
 (U:∀b∈ch,(b∈X.ex\/X.s₀.heap.objs.size<=b)/\b≠X.env.locals/\(∀x c,X.env.cells.lookup x=some c->c≠b)/\∀p∈X.pn++pins,p.1≠b) (ht:0<t':=by walk_at "t"):
 za X pins σ H' { s with heap:=h',gens:=g',drawn:=d',toks:=t' }:=by
 obtain⟨m,⟨o,es,ep,C,r⟩,_⟩:=id I.loc;obtain⟨sl,j⟩:=u.any C I.free λz=>(U _ z).2.1 rfl;exact I.step (ch:=ch) U (λb o j hb J e n=>u.keep b o e n (λz=>(Ao.mp (I.stkSub b z)).elim j hb) J) (λb o _ _ J e n=>u.any e n J) (λb o J e n=>u.free b o e n J) (λb o J e=>u.there b o e J) u.tups u.frzs u.tbls (λm' hm=>by obtain⟨o',l,t,g,r'⟩:=hm;rw[C] at g;cases g;exact⟨_,l,t,j,r'⟩) hok T
theorem za.turned(I:za X pins σ H s)(k:∀b o,b≠it->s.heap.get? b=some o->h'.get? b=some o)(j:H it=none)(g:it≠X.env.locals)
 (h1:it∈X.ex\/X.s₀.heap.objs.size<=it) (h2:∀x c,X.env.cells.lookup x=some c->c≠it) (h3:∀p∈X.pn++pins,p.1≠it) (ht:0<t':=by walk_at "t"):za X pins σ H { s with heap:=h',toks:=t' }:=by
 have U:∀b u,H b=some u->b≠it:=λb u e z=>by rw[z,j] at e;cases e
 refine I.step (g':=s.gens) (d':=s.drawn) (ch:=[it]) (λb l=>?_) (λb o _ _ J e _=>k b o (λz=>J (by simp[z])) e) (λb o _ _ J e _=>⟨o.slots,k b o (λz=>J (by simp[z])) e⟩) (λ_ _ _ _ n=>n)
  (λb o J e=>⟨o,k b o (λz=>J (by simp[z])) e⟩) (λ_ _ e=>e) (λ_ _ _ e=>e) (λb ps e=>⟨#[],by rw[e];simp⟩) (λm t=>?_) (λb u e=>?_) I.bare
 ·have e:b=it:=by simpa using l
  subst e;exact⟨h1,g,h2,h3⟩
 ·obtain⟨o,C,T,ho,r⟩:=t;exact⟨o,C,T,k _ o (AF g) ho,r⟩
 ·refine(I.hok b u e).stay (λc v J q=>k c v ?_ q) (λ_ q=>q) λ_ _ q=>q;rcases J with z|z
  ·rw[z];exact U b u e
  ·exact U c _ z
theorem za.tok(I:za X pins σ H s)(t:Nat)(J:0<t:=by walk_at "t"):za X pins σ H { s with toks:=t }:=I.un (h':=s.heap) (t':=t) Un.refl I.hok
theorem za.kept(I:za X pins σ H s)(k:∀b u,s.heap.get? b=some u->h'.get? b=some u)(J:0<t':=by walk_at "t"):za X pins σ H { s with heap:=h',toks:=t' }:=I.un (Un.kept k) (I.hok.kept k)
theorem za.laid{o:HO}(I:za X pins σ H s)(k:∀b u,s.heap.get? b=some u->h'.get? b=some u)(J:s.heap.objs.size<=a)(new:xq X.prog X.w (upd H a o) h' a o)(U:0<t':=by walk_at "t"):
 za X pins σ (upd H a o) { s with heap:=h',toks:=t' }:=I.un (Un.laid k J (I.hok.fresh J)) (I.hok.laid k J new)
theorem za.write{x e:Addr}{o:HO}(I:za X pins σ H s)(U:Mut (H x))(g:e=x\/H e=some (.own x))(k:∀b u,b≠e->s.heap.get? b=some u->h'.get? b=some u)(J:∃u,h'.get? e=some u)
 (new:xq X.prog X.w (upd H x o) h' x o) (j:0<t':=by walk_at "t"):za X pins σ (upd H x o) { s with heap:=h',toks:=t' }:=I.un (Un.write U g k J) (I.hok.write U g k J new)
theorem za.weak{hQ:List (Option V)}(I:za X pins σ H s)(U:hQ.length=σ.length)(w:∀(i:Nat) v,hQ[i]?=some (some v)->σ[i]?=some (some v)):za X pins hQ H s:=
 ⟨I.ok,I.os,I.bare,I.base,let ⟨m,g,J⟩:=I.loc;⟨m,g,λi x v j l o=>J i x v j (w i v l) o⟩,I.cell,I.free,I.freeC,I.pin,I.hok,U.trans I.len,I.tk⟩
theorem za.pins_of{J:List (Addr×Obj)}(I:za X pins σ H s)(h:∀p∈J,s.heap.get? p.1=some p.2/\H p.1=none/\p.1≠X.env.locals/\p.1∉X.fs/\∀v,p.2.data≠.cell v):za X J σ H s:=
 ⟨I.ok,I.os,I.bare,I.base,I.loc,I.cell,I.free,I.freeC,λp U=>(Aq.mp U).elim (λz=>I.pin p (Ar _ z)) (h p),I.hok,I.len,I.tk⟩
theorem lH{N:List Str}(J:N.Nodup)(a:N[i]?=some x)(b:N[j]?=some x):i=j:=by obtain⟨h1,U⟩:=AL.mp a;obtain⟨h2,g⟩:=AL.mp b;exact(List.getElem_inj J).mp (U.trans g.symm)
theorem o8{Q:Unit->Shared->Prop}(I:za X pins σ H s)(hN:X.N.Nodup)(hi:X.N[i]?=some x)(t:Loc X.env.scope x)(r:zu v u)
 (h:∀s',za X pins (σ.set i (some v)) H s'->(∃a,Heap.SameBut a s.heap s'.heap/\(a=X.env.locals\/X.env.cells.lookup x=some a))->(X.env.kindOf x=some .local->∃m',s'.heap.Ns X.env.locals m'/\m' x=some u)->Q () s') (hf:X.fn x=true\/X.env.scope.names.lookup x=some .local:=by first|exact .inl rfl|exact .inr rfl|assumption):wpAny M A (storeName X.env x u) Q E s:=by
 obtain⟨m,hn,hl⟩:=id I.loc;have a3:(X.env.scope.kind==.class||(X.env.scope.kind==.module&&X.env.locals != X.env.globals))=false:=by rw[I.ok.kind];rfl
 have a1:i<σ.length:=by rw[I.len];exact(AL.mp hi).1
 have cne:=I.cne;have U:∀{a:Addr} {h':Heap},(∃o,s.heap.get? a=some o/\H a=none)->Heap.SameBut a s.heap h'->dU X.prog X.w H h':=λ{a h'} ha J b ob e=>by
  obtain⟨_,_,C⟩:=ha;refine(I.hok b ob e).stay (λc w' l q=>(J.2 c ?_).trans q) (λ_ q=>q) λ_ _ q=>q;rintro rfl;rcases l with rfl|l
  ·rw[C] at e;cases e
  ·rw[C] at l;cases l
 rcases t with T|T
 ·refine wpAny_storeName_local T hn (λh' a4 J=>?_) a3;obtain⟨oL,_,_,av,_⟩:=id hn;refine h _ ⟨I.ok,I.os,I.bare,⟨λb o e n hb t=>?_,λb o e n hb t=>?_,I.base.free,λb o e t=>?_,I.base.tups,I.base.frzs,I.base.tbls⟩,⟨_,a4,λj y v' g e2 e3=>?_⟩,λy c e=>?_,I.free,I.freeC,λp hp=>?_,U ⟨oL,av,I.free⟩ J,by simpa using I.len,by first|exact I.tk|exact CO _⟩ ⟨_,J,.inl rfl⟩ (λ_=>⟨_,a4,by simp⟩)
  ·exact(J.2 b (AV (AI (At e) I.ok.above))).trans (I.base.keep b o e n hb t)
  ·obtain⟨sl,g⟩:=I.base.slot b o e n hb t;exact⟨sl,(J.2 b (AV (AI (At e) I.ok.above))).trans g⟩
  ·obtain⟨o',g⟩:=I.base.there b o e t;exact⟨o',(J.2 b (AV (AI (At e) I.ok.above))).trans g⟩
  ·by_cases hj:j=i
   ·subst hj;rw[hi] at g;cases g;rw[BK a1] at e2;cases e2;exact⟨u,r,.inl ⟨T,by simp⟩⟩
   ·rw[BD (AF hj)] at e2;obtain⟨u',r',q⟩:=hl j y v' g e2 e3;refine⟨u',r',?_⟩;rcases q with⟨k,e⟩|⟨k,c,e,z⟩
    ·refine .inl ⟨k,?_⟩;have:y≠x:=λe=>hj (lH hN g (e▸hi));simp[this,e]
    ·exact .inr ⟨k,c,e,z.sameBut J (cne y c e)⟩
  ·obtain⟨w',z⟩:=I.cell y c e;exact⟨w',z.sameBut J (cne y c e)⟩
  ·obtain⟨e,n,ne,nf,d⟩:=I.pin p hp;exact⟨(J.2 p.1 ne).trans e,n,ne,nf,d⟩
 ·have a2:X.fn x=true:=by
   rcases hf with z|z
   ·exact z
   ·rw[z] at T;cases T
  obtain⟨c,l⟩:=I.ok.has x (.inl T);obtain⟨w',z⟩:=I.cell x c l;refine wpAny_storeName_cell I.ok.kind T l z (λh' a5 J=>?_);obtain⟨oc,ag,al⟩:=id z;refine h { s with heap:=h' } ⟨I.ok,I.os,I.bare,⟨λb o e n hb t=>?_,λb o e n hb t=>?_,I.base.free,λb o e t=>?_,I.base.tups,I.base.frzs,I.base.tbls⟩,⟨m,hn.sameBut J (AF (cne x c l)),λj y v' g e2 e3=>?_⟩,λy c' e=>?_,I.free,I.freeC,λp hp=>?_,U ⟨oc,ag,I.freeC x c l⟩ J,by simpa using I.len,I.tk⟩ ⟨c,J,.inr l⟩ (λz=>by have e:=(show X.env.kindOf x=some .cell from T).symm.trans z;cases e)
  ·exact(J.2 b (AV (AI (At e) (I.ok.cab x c a2 l)))).trans (I.base.keep b o e n hb t)
  ·obtain⟨sl,g⟩:=I.base.slot b o e n hb t;exact⟨sl,(J.2 b (AV (AI (At e) (I.ok.cab x c a2 l)))).trans g⟩
  ·obtain⟨o',g⟩:=I.base.there b o e t;exact⟨o',(J.2 b (AV (AI (At e) (I.ok.cab x c a2 l)))).trans g⟩
  ·by_cases hj:j=i
   ·subst hj;rw[hi] at g;cases g;rw[BK a1] at e2;cases e2;exact⟨u,r,.inr ⟨.inl T,c,l,a5⟩⟩
   ·rw[BD (AF hj)] at e2;obtain⟨u',r',q⟩:=hl j y v' g e2 e3;refine⟨u',r',?_⟩;rcases q with q|⟨k,c',e,z'⟩
    ·exact .inl q
    ·refine .inr ⟨k,c',e,z'.sameBut J ?_⟩;rintro rfl;exact hj (lH hN g (I.ok.inj _ _ _ e l▸hi))
  ·by_cases au:c'=c
   ·subst au;exact⟨_,a5⟩
   ·obtain⟨w2,z2⟩:=I.cell y c' e;exact⟨w2,z2.sameBut J au⟩
  ·obtain⟨e,n,ne,nf,d⟩:=I.pin p hp;refine⟨(J.2 p.1 ?_).trans e,n,ne,nf,d⟩;intro q;rw[q,ag] at e;have q':oc=p.2:=AN e;exact d w' (by rw[<-q'];exact al)
theorem du{Q:Unit->Shared->Prop}(I:za X pins σ H s)(J:X.N.Nodup)(hi:X.N[i]?=some x)(U:Loc X.env.scope x)(r:zu v u)
 (h:∀s',za X pins (σ.set i (some v)) H s'->Q () s') (g:X.fn x=true\/X.env.scope.names.lookup x=some .local:=by first|exact .inl rfl|exact .inr rfl|assumption):wpAny M A (storeName X.env x u) Q E s:=
 o8 I J hi U r (λs' j _ _=>h s' j) g
theorem za.call'(I:za X pins σ H s)(U:s'.os=s.os)(u:Un (bK X.stack) ch H H' s.heap s'.heap)(hok:dU X.prog X.w H' s'.heap)(g:AllBare s'.gens)
 (J:∀b∈ch,(b∈X.ex\/X.s₀.heap.objs.size<=b)/\b≠X.env.locals/\(∀x c,X.env.cells.lookup x=some c->c≠b)/\∀p∈X.pn++pins,p.1≠b) (j:0<s'.toks:=by walk_at "t"):za X pins σ H' s':=by
 obtain⟨o,g',d',t',l⟩:=s';have e:l=s.os:=U;subst e;exact I.call (g':=g') (t':=t') (d':=d') u hok g J j
end
abbrev XK:=Value->Option Addr->Hp->Prop
abbrev St:=List (Option V)
abbrev VK:=V->Hp->Prop
abbrev TE:=St->Hp->VK->Prop
abbrev TT:=St->Hp->(Bool->Hp->Prop)->Prop
abbrev TA:=St->Hp->(List V->Hp->Prop)->Prop
structure jK where
 nx:St->Hp->Prop
 rt:VK
 bk:St->Hp->Prop:=λ_ _=>False
 ct:St->Hp->Prop:=λ_ _=>False
abbrev TS:=jK->St->Hp->Prop
def EP(X:Cx)(pins:List (Addr×Obj))(σ:St)(Q:VK)(u:Value)(s':Shared):Prop:=∃v H',za X pins σ H' s'/\zu v u/\Q v H'
def TP(X:Cx)(pins:List (Addr×Obj))(σ:St)(Q:Bool->Hp->Prop)(b:Bool)(s':Shared):Prop:=∃H',za X pins σ H' s'/\Q b H'
def AP(X:Cx)(pins:List (Addr×Obj))(σ:St)(Q:List V->Hp->Prop)(us:List Value)(s':Shared):Prop:=∃vs H',za X pins σ H' s'/\zq vs us/\Q vs H'
def SP(X:Cx)(pins:List (Addr×Obj))(D:jK)(f:Flow)(s':Shared):Prop:=
 match f with
 |.next=>∃hQ H',za X pins hQ H' s'/\D.nx hQ H'
 |.brk=>∃hQ H',za X pins hQ H' s'/\D.bk hQ H'
 |.cont=>∃hQ H',za X pins hQ H' s'/\D.ct hQ H'
 |.ret u=>∃v hQ H',za X pins hQ H' s'/\zu v u/\D.rt v H'
def PE(X:Cx)(e:Expr)(t:TE):Prop:=
 ∀(pins:List (Addr×Obj)) (s:Shared) (σ:St) (H:Hp) (Q:VK),za X pins σ H s->t σ H Q->wpAny (model X.prog X.w) X.A (eval e X.env) (EP X pins σ Q) X.xe s
def PT(X:Cx)(e:Expr)(t:TT):Prop:=
 ∀(pins:List (Addr×Obj)) (s:Shared) (σ:St) (H:Hp) (Q:Bool->Hp->Prop),za X pins σ H s->t σ H Q->wpAny (model X.prog X.w) X.A (isTrue e X.env (eval e X.env)) (TP X pins σ Q) X.xe s
def PW(X:Cx)(e:Expr)(t:TT):Prop:=
 ∀(whole:Sem Value) (pins:List (Addr×Obj)) (s:Shared) (σ:St) (H:Hp) (Q:Bool->Hp->Prop),za X pins σ H s->t σ H Q->wpAny (model X.prog X.w) X.A (isTrue e X.env whole) (TP X pins σ Q) X.xe s
theorem PW.pt{X:Cx}{t:TT}(h:PW X e t):PT X e t:=h _
def PA(X:Cx)(es:List Expr)(t:TA):Prop:=
 ∀(pos:Pos) (pins:List (Addr×Obj)) (s:Shared) (σ:St) (H:Hp) (Q:List V->Hp->Prop),za X pins σ H s->t σ H Q->wpAny (model X.prog X.w) X.A (spliced (backTo pos (starEach es X.env))) (AP X pins σ Q) X.xe s
def PS(X:Cx)(st:Stmt)(t:TS):Prop:=
 ∀(pins:List (Addr×Obj)) (s:Shared) (σ:St) (H:Hp) (D:jK),za X pins σ H s->t D σ H->wpAny (model X.prog X.w) X.A (exec st X.env) (SP X pins D) X.xe s
def fN(X:Cx)(st:List Stmt)(t:TS):Prop:=
 ∀(pins:List (Addr×Obj)) (s:Shared) (σ:St) (H:Hp) (D:jK),za X pins σ H s->t D σ H->wpAny (model X.prog X.w) X.A (execs st X.env) (SP X pins D) X.xe s
theorem aI{t:Sem α}{Q J:α->Shared->Prop}(h:wpAny M A t Q E s)(U:∀a s,Q a s->J a s):wpAny M A t J E s:=AO h U λ_ _ x=>x
theorem a9{t:Sem Value}{X:Cx}{σ:St}{Q:VK}{J:Value->Shared->Prop}(h:wpAny M A t (EP X pins σ Q) E s)(U:∀v s x H,za X pins σ H s->zu x v->Q x H->J v s):wpAny M A t J E s:=aI h λv s ⟨x,H,a,b,c⟩=>U v s x H a b c
theorem yi{t:Sem (List Value)}{X:Cx}{σ:St}{Q:List V->Hp->Prop}{J:List Value->Shared->Prop}(h:wpAny M A t (AP X pins σ Q) E s)(U:∀v s x H,za X pins σ H s->zq x v->Q x H->J v s):wpAny M A t J E s:=aI h λv s ⟨x,H,a,b,c⟩=>U v s x H a b c
end L2
variable {r:L2.V->Option Int->Option Int->L2.Hp->L2.VK->Prop}{X:L2.Cx}{σ:L2.St}{tc:L2.TT}
namespace L2
open PySem PySem.Spec PyProof.Rows
section
def ajj(i:Nat):TE:=λσ H Q=>∃v,σ[i]?=some (some v)/\Q v H
def tC(v:V):TE:=λ_ H Q=>Q v H
abbrev Ed(x:Str):Prop:=(x==("__debug__":Str))=false
abbrev Ee(x:Str):Prop:=(x==("__classdict__":Str))=false
theorem ajt(p:X.N[i]?=some x)(t:Vis X.env.scope x)(hd:Ed x:=by decide)(j:Ee x:=by decide):PE X (.Name x pos) (ajj i):=by
 intro g s C H Q I h;obtain⟨v,e,h⟩:=h;obtain⟨m,T,hl⟩:=I.loc;obtain⟨u,r,l⟩:=hl i x v p e t;have jw:EP X g C Q u s:=⟨v,H,I,r,h⟩;rcases l with⟨U,hm⟩|⟨U,c,o,J⟩
 ·exact wpAny_Name (wpAny_loadName_local I.ok.kind U T hm jw) hd
 ·rcases U with U|U
  ·exact wpAny_Name (wpAny_loadName_cell I.ok.kind U o J jw) hd
  ·exact wpAny_Name (wpAny_loadName_free I.ok.kind U o J jw j) hd
theorem alj{i j pos}:PE X (.Constant (.int i) j pos) (tC (.int i)):=λ_ _ _ H _ I h=>wpAny_Constant_int ⟨.int i,H,I.tok _,⟨_,rfl⟩,h⟩
theorem an0{b j pos}:PE X (.Constant (.bool b) j pos) (tC (.bl b)):=λ_ _ _ H _ I h=>Constant_bool ⟨.bl b,H,I,rfl,h⟩
theorem am7{j pos}:PE X (.Constant .none j pos) (tC .non):=λ_ _ _ H _ I h=>Constant_none ⟨.non,H,I,rfl,h⟩
theorem dC{x j pos}:PE X (.Constant (.str x) j pos) (tC (.str x)):=λ_ _ _ H _ I h=>Calls.Constant_str ⟨.str x,H,I.tok _,⟨_,rfl⟩,h⟩
def Gl(X:Cx)(x:Str):Prop:=X.env.kindOf x=some .globalImplicit
theorem eh(I:za X pins σ H s)(J:Gl X x)(U:X.mg x=some u)(h:Q u s)
 (hd:Ed x:=by decide):wpAny (model X.prog X.w) X.A (eval (.Name x pos) X.env) Q E s:=
 Calls.Name_function_global I.ok.kind J (Calls.loadGlobal_global (by rw[I.ok.glob];exact I.mod.glob.keeps I.bk) U h) hd
theorem ck(I:za X pins σ H s)(J:Gl X x)(U:X.mg x=none)(g:bootBuiltins x=some u)(h:Q u s)
 (j:x ≠ "__name__" := by decide) (hd:Ed x:=by decide):wpAny (model X.prog X.w) X.A (eval (.Name x pos) X.env) Q E s:=by
 obtain⟨l,h1,h2⟩:=I.mod.blt;exact Calls.Name_function_global I.ok.kind J (Calls.loadGlobal_builtin (by rw[I.ok.glob];exact I.mod.glob.keeps I.bk) U (by rw[I.ok.blt];exact h1.keeps I.bk) ((h2 x j).trans g) h) hd
theorem vP(J:Gl X x)(U:X.mg x=some u)(r:zu v u)(hd:Ed x:=by decide):PE X (.Name x pos) (tC v):=
 λ_ _ _ H _ I h=>eh I J U ⟨v,H,I,r,h⟩ hd
theorem agl(J:Gl X x)(U:X.mg x=none)(g:bootBuiltins x=some u)(r:zu v u)(j:x ≠ "__name__" := by decide)(hd:Ed x:=by decide):PE X (.Name x pos) (tC v):=
 λ_ _ _ H _ I h=>ck I J U g ⟨v,H,I,r,h⟩ j hd
variable {a b:Expr}{ta tb:TE}
def PC(X:Cx)(op:CmpOp)(a b:Expr)(t:TE):Prop:=
 ∀(pins:List (Addr×Obj)) (s:Shared) (σ:St) (H:Hp) (Q:VK),za X pins σ H s->t σ H Q->
  wpAny (model X.prog X.w) X.A (eval a X.env) (λv J=>wpAny (model X.prog X.w) X.A (eval b X.env) (λu U=>wpAny (model X.prog X.w) X.A (compareOp op v u) (EP X pins σ Q) X.xe U) X.xe J) X.xe s
theorem rV(b:Expr){op:CmpOp}(h:op≠.In)(h2:op≠.NotIn):behindInMarks op b=false:=by
 have J:(op==CmpOp.In)=false:=by cases op<;>first|rfl|exact absurd rfl h
 have U:(op==CmpOp.NotIn)=false:=by cases op<;>first|rfl|exact absurd rfl h2
 cases b<;>simp[behindInMarks,J,U]
def amq(ta:TE):TE:=λσ H Q=>ta σ H λx H1=>Q (.bl (decide (x=.non))) H1
def aio(ta:TE):TE:=λσ H Q=>ta σ H λx H1=>Q (.bl (!decide (x=.non))) H1
theorem zu.none_iff{x:V}{v:Value}(r:zu x v):(v==Value.none)=decide (x=.non):=by
 cases x with
 |non=>cases r;rfl
 |bl _=>cases r;rfl
 |int _=>obtain⟨t,rfl⟩:=r;rfl
 |str _=>obtain⟨t,rfl⟩:=r;rfl
 |byt _=>obtain⟨t,rfl⟩:=r;rfl
 |flt _=>obtain⟨t,rfl⟩:=r;rfl
 |ref _=>cases r;rfl
 |ty _=>cases r;rfl
theorem aee{j fy}(U:PE X a ta):PC X .Is a (.Constant .none j fy) (amq ta):=by intro J s g H Q I h;refine a9 (U J s g H _ I h) λv t x l o p r=>?_;exact Constant_none (is_none_gen ⟨.bl _,l,o,by rw[p.none_iff];rfl,r⟩)
theorem ah9{j fy}(U:PE X a ta):PC X .IsNot a (.Constant .none j fy) (aio ta):=by intro J s g H Q I h;refine a9 (U J s g H _ I h) λv t x l o p r=>?_;exact Constant_none (isnot_none_gen ⟨.bl _,l,o,by rw[p.none_iff];rfl,r⟩)
def tB(t:TE):TT:=λσ H Q=>t σ H λx H1=>∃c,x=.bl c/\Q c H1
theorem aa4{op:CmpOp}{t:TE}(h:PC X op a b t)(h1:behindInMarks op b=false:=by first|exact rV _ (by decide) (by decide)|rfl):PE X (.Compare a [op] [b] pos) t:=λJ s U H Q I hw=>wpAny_Compare1 (h J s U H Q I hw) h1
theorem alq{op:CmpOp}{t:TE}(h:PC X op a b t)(h1:behindInMarks op b=false:=by first|exact rV _ (by decide) (by decide)|rfl):PT X (.Compare a [op] [b] pos) (tB t):=by intro J s U H Q I hw;refine wpAny_isTrue_Compare1 (aI (h J s U H _ I hw) λv p h1=>aI h1 λu r h2=>aI h2 λc C ⟨x,g,j,l,o⟩=>?_) h1;obtain⟨d,rfl,q⟩:=o;cases l;exact wpAny_truthy_bool ⟨g,j,q⟩
theorem ajx{t:TE}(h:PE X e t)(U:∀whole,isTrue e X.env whole=(do let v <-whole;standAt e.pos;holding [v] (truthy v)):=by intro _;rfl):PT X e (tB t):=by intro J s g H Q I hw;refine isTrue_plain (a9 (h J s g H _ I hw) λv r x j l o p=>?_) (U _);obtain⟨d,rfl,q⟩:=p;cases o;exact wpAny_truthy_bool ⟨j,l,q⟩
variable {tA y1:TT}{rest:List Expr}
def asc(t u:TT):TT:=λσ H Q=>t σ H λc H1=>if c=true then u σ H1 Q else Q false H1
def tOr(t u:TT):TT:=λσ H Q=>t σ H λc H1=>if c=true then Q true H1 else u σ H1 Q
def aqt(t:TT):TT:=λσ H Q=>t σ H λc H1=>Q (!c) H1
theorem ah3(U:PT X a tA):PW X (.BoolOp .And [a] pos) tA:=by intro j J s g H Q I h;refine isTrue_and (aI (U J s g H Q I h) λc l e=>?_);cases c with|true=>exact isTrue_and_nil e|false=>exact e
theorem ala(U:PT X a tA):PW X (.BoolOp .Or [a] pos) tA:=by intro j J s g H Q I h;refine isTrue_or (aI (U J s g H Q I h) λc l e=>?_);cases c with|false=>exact isTrue_or_nil e|true=>exact e
theorem am6(o:PT X a tA)(p:PW X (.BoolOp .And (b::rest) pos) y1):PW X (.BoolOp .And (a::b::rest) pos) (asc tA y1):=by intro r J s U H Q I h;refine isTrue_and (aI (o J s U H _ I h) λc t ⟨g,j,l⟩=>?_);cases c with|true=>exact p r J t U g Q j l|false=>exact⟨g,j,l⟩
theorem amu(o:PT X a tA)(p:PW X (.BoolOp .Or (b::rest) pos) y1):PW X (.BoolOp .Or (a::b::rest) pos) (tOr tA y1):=by intro r J s U H Q I h;refine isTrue_or (aI (o J s U H _ I h) λc t ⟨g,j,l⟩=>?_);cases c with|true=>exact⟨g,j,l⟩|false=>exact p r J t U g Q j l
theorem al6(U:PT X a tA):PT X (.UnaryOp .Not a pos) (aqt tA):=by intro J s g H Q I h;exact isTrue_not (U J s g H (λc j=>Q (!c) j) I h)
def ao5(ta tb:TE):TE:=λσ H Q=>ta σ H λx H1=>∃c,x=.bl c/\if c=true then tb σ H1 Q else Q (.bl false) H1
def aoa(ta:TE):TE:=λσ H Q=>ta σ H λx H1=>∃c,x=.bl c/\Q (.bl (!c)) H1
theorem akc{op}{t:TE}(h:PE X a t):PE X (.BoolOp op [a] pos) t:=λJ s U H Q I hw=>BoolOp_one (h J s U H Q I hw)
theorem aks(o:PE X a ta)(p:PE X (.BoolOp .And (b::rest) pos) tb):PE X (.BoolOp .And (a::b::rest) pos) (ao5 ta tb):=by
 intro J s g H Q I h;refine BoolOp_and (a9 (o J s g H _ I h) λv r x j l t U=>?_);obtain⟨c,rfl,U⟩:=U;cases t;refine wpAny_truthy_bool ?_;cases c with
 |true=>exact p J r g j Q l U
 |false=>exact⟨.bl false,j,l,rfl,U⟩
theorem aji(g:PE X a ta):PE X (.UnaryOp .Not a pos) (aoa ta):=by intro J s j H Q I h;refine UnaryOp_ (a9 (g J s j H _ I h) λv r x l o p U=>?_);obtain⟨c,rfl,U⟩:=U;cases p;exact not_of (wpAny_truthy_bool ⟨.bl (!c),l,o,rfl,U⟩)
def tIf(t:TT)(ta tb:TE):TE:=λσ H Q=>t σ H λc H1=>if c=true then ta σ H1 Q else tb σ H1 Q
theorem acp(hc:PT X c tA)(p:PE X a ta)(r:PE X b tb):PE X (.IfExp c a b pos) (tIf tA ta tb):=by intro J s U H Q I h;refine wpAny_IfExp (aI (hc J s U H _ I h) λd g ⟨j,l,o⟩=>?_);cases d with|true=>exact p J g U j Q l o|false=>exact r J g U j Q l o
end
def aJ(K:Ad)(H:Hp)(a:Addr)(xs:List V):Prop:=
 Rd H a (.lst xs)\/
  ∃(o:Obj) (eH:Array Value) (n:Nat),K.lookup a=some o/\o.cls=.type "list" /\ o.dict=none/\o.data=.seq eH n/\eH.size<=sizeLine/\zq xs eH.toList
def cB(K:Ad)(H:Hp)(a:Addr)(xs:List V):Prop:=
 Rd H a (.tup xs)\/
  ∃(o:Obj) (eH:Array Value) (n:Nat),K.lookup a=some o/\o.cls=.type "tuple" /\ o.data=.seq eH n/\eH.size<=sizeLine/\zq xs eH.toList
def aqp:Value->Option V
 |.none=>some .non
 |.bool b=>some (.bl b)
 |.int i _=>some (.int i)
 |.str x _=>some (.str x)
 |.bytes b _=>some (.byt b)
 |.float b _=>some (.flt b)
 |.ref a=>some (.ref a)
 |.type n=>some (.ty n)
 |_=>none
theorem zu.abs{x:V}(r:zu x u):aqp u=some x:=by
 cases x with
 |non=>cases r;rfl
 |bl _=>cases r;rfl
 |int _=>obtain⟨t,rfl⟩:=r;rfl
 |str _=>obtain⟨t,rfl⟩:=r;rfl
 |byt _=>obtain⟨t,rfl⟩:=r;rfl
 |flt _=>obtain⟨t,rfl⟩:=r;rfl
 |ref _=>cases r;rfl
 |ty _=>cases r;rfl
theorem zu.inj{x y:V}(r:zu x u)(q:zu y u):x=y:=AN (r.abs.symm.trans q.abs)
theorem zq.inj:∀{xs ys:List V} {us:List Value},zq xs us->zq ys us->xs=ys
 |_,_,_,.nil,.nil=>rfl
 |_,_,_,.cons r t,.cons J U=>by rw[r.inj J,zq.inj t U]
section
variable {ys:List V}
theorem aJ.of{K:Ad}(h:H a=some (.lst xs)):aJ K H a xs:=.inl (.inl h)
theorem cB.of{K:Ad}(h:H a=some (.tup xs)):cB K H a xs:=.inl (.inl h)
theorem za.list(I:za X pins σ H s)(h:aJ X.K H a xs):∃eH:List Value,zq xs eH/\PlainL s.heap a eH.toArray/\xs.length<=sizeLine:=by
 rcases h with h|⟨o,eH,n,J,U,hd,g,j,r⟩
 ·obtain⟨z,eH,n,r,e⟩:=h.ok I.hok;exact⟨eH,r,⟨_,n,e,rfl,rfl,rfl⟩,z⟩
 ·refine⟨eH.toList,r,⟨o,n,I.kIn a o J,U,hd,by simpa using g⟩,?_⟩;have e:=r.length;simp only[Bu] at e;lia
theorem za.tuple(I:za X pins σ H s)(h:cB X.K H a xs):∃eH:List Value,zq xs eH/\IsTup s.heap a eH.toArray/\xs.length<=sizeLine:=by
 rcases h with h|⟨o,eH,n,J,U,g,j,r⟩
 ·obtain⟨z,eH,r,p⟩:=h.ok I.hok;exact⟨eH,r,p,z⟩
 ·refine⟨eH.toList,r,⟨o,I.kIn a o J,U,n,by simpa using g⟩,?_⟩;have e:=r.length;simp only[Bu] at e;lia
theorem za.list_inj(I:za X pins σ H s)(h:aJ X.K H a xs)(h':aJ X.K H a ys):xs=ys:=by
 obtain⟨U,r,⟨o,n,e,_,_,d⟩,_⟩:=I.list h;obtain⟨J,l,⟨p,t,g,_,_,j⟩,_⟩:=I.list h';rw[e] at g;cases g;rw[d] at j;injection j with d1 _
 have:U=J:=by simpa using Bt Array.toList d1
 subst this;exact r.inj l
theorem za.tuple_inj(I:za X pins σ H s)(h:cB X.K H a xs)(h':cB X.K H a ys):xs=ys:=by
 obtain⟨U,r,⟨o,e,_,n,d⟩,_⟩:=I.tuple h;obtain⟨J,l,⟨p,g,_,t,j⟩,_⟩:=I.tuple h';rw[e] at g;cases g;rw[d] at j;injection j with d1 _
 have:U=J:=by simpa using Bt Array.toList d1
 subst this;exact r.inj l
end
abbrev Cx.wish(X:Cx)(E:Value->Shared->Prop):Cx:={ X with xe:=E }
abbrev Cx.nox(X:Cx):Cx:=X.wish λ_ _=>False
theorem Cx.Ok.wish(ok:X.Ok)(E:Value->Shared->Prop):(X.wish E).Ok:=
 ⟨ok.mod,ok.kind,ok.glob,ok.blt,ok.above,ok.inj,ok.has,ok.cab,ok.hd,ok.frames,ok.stk,ok.exf,ok.bs,ok.bsz,ok.noex,ok.exfs,ok.funs,ok.frf⟩
theorem Cx.Ok.unwish(ok:(X.wish E).Ok):X.Ok:=
 ⟨ok.mod,ok.kind,ok.glob,ok.blt,ok.above,ok.inj,ok.has,ok.cab,ok.hd,ok.frames,ok.stk,ok.exf,ok.bs,ok.bsz,ok.noex,ok.exfs,ok.funs,ok.frf⟩
theorem za.wish(I:za X pins σ H s)(E:Value->Shared->Prop):za (X.wish E) pins σ H s:=⟨I.ok.wish E,I.os,I.bare,I.base,I.loc,I.cell,I.free,I.freeC,I.pin,I.hok,I.len,I.tk⟩
theorem za.unwish(I:za (X.wish E) pins σ H s):za X pins σ H s:=⟨I.ok.unwish,I.os,I.bare,I.base,I.loc,I.cell,I.free,I.freeC,I.pin,I.hok,I.len,I.tk⟩
theorem SP.unwish{D:jK}{f:Flow}(h:SP (X.wish E) pins D f s'):SP X pins D f s':=by
 cases f with
 |next=>obtain⟨J,U,I,q⟩:=h;exact⟨J,U,I.unwish,q⟩
 |brk=>obtain⟨J,U,I,q⟩:=h;exact⟨J,U,I.unwish,q⟩
 |cont=>obtain⟨J,U,I,q⟩:=h;exact⟨J,U,I.unwish,q⟩
 |ret u=>obtain⟨v,J,U,I,r,q⟩:=h;exact⟨v,J,U,I.unwish,r,q⟩
theorem fN.nox{st:List Stmt}{t:TS}(h:fN X.nox st t):fN X st t:=λJ s U H D I hw=>
 AO (h J s U H D (I.wish _) hw) (λ_ _ q=>q.unwish) λ_ _ z=>False.elim z
section
variable {rest:List Stmt}{t u:TS}{te:TE}
def anj:TS:=λD σ H=>D.nx σ H
def arp(t u:TS):TS:=λD σ H=>t { D with nx:=u D } σ H
theorem agz:fN X [] anj:=λ_ _ J H _ I h=>wpAny_execs_nil ⟨J,H,I,h⟩
theorem rg(h1:PS X st t)(h2:fN X rest u):fN X (st::rest) (arp t u):=by
 intro J s g H D I h;refine wpAny_execs_cons (aI (h1 J s g H { D with nx:=u D } I h) λf j q=>?_);cases f with
 |next=>
  obtain⟨U,l,o,q⟩:=q;exact h2 J j U l D o q
 |ret v=>exact q
 |brk=>exact q
 |cont=>exact q
theorem qR(h1:PS X st t):fN X [st] t:=by intro J s U H D I h;refine wpAny_execs_cons (aI (h1 J s U H D I h) λf g q=>?_);cases f with|next=>exact wpAny_execs_nil q|ret v=>exact q|brk=>exact q|cont=>exact q
def an8:TS:=λD σ H=>D.ct σ H
theorem r6:PS X (.Continue pos) an8:=λ_ _ J H _ I h=>wpAny_Continue ⟨J,H,I,h⟩
theorem za.quiet(I:za X pins σ H s):interactive X.env=false:=by simp[interactive,I.ok.kind]
def an9(te:TE):TS:=λD σ H=>te σ H λ_ H1=>D.nx σ H1
theorem wS(g:PE X e te)(hs:swapsWith e none pos.line X.env=pure false:=by rfl):PS X (.Expr e pos) (an9 te):=by intro J s U H D I h;exact wpAny_Expr_any (a9 (g J s U H _ I h) λv p x j l r o=>⟨U,j,l,o⟩) I.quiet hs
def asx(te:TE):TS:=λD σ H=>te σ H D.rt
theorem akq(g:PE X e te):PS X (.Return (some e) pos) (asx te):=by intro J s U H D I h;exact wpAny_Return_some (a9 (g J s U H _ I h) λv r x j l o p=>⟨x,U,j,l,o,p⟩)
def aos:TS:=λD _ H=>D.rt .non H
theorem agk:PS X (.Return none pos) aos:=λ_ _ J H _ I h=>wpAny_Return_none ⟨.non,J,H,I,rfl,h⟩
def ary(c:TT)(t u:TS):TS:=λD σ H=>c σ H λb H1=>if b=true then t D σ H1 else u D σ H1
theorem anz{a b:List Stmt}(hc:PT X c tc)(p:fN X a t)(r:fN X b u):PS X (.If c a b pos) (ary tc t u):=by intro J s U H D I h;refine wpAny_If (aI (hc J s U H _ I h) λd g ⟨j,l,o⟩=>?_);cases d with|true=>exact p J g U j D l o|false=>exact r J g U j D l o
end
abbrev TG:=V->St->Hp->(St->Hp->Prop)->Prop
abbrev TGs:=List V->St->Hp->(St->Hp->Prop)->Prop
def PG(X:Cx)(target:Expr)(t:TG):Prop:=
 ∀(pins:List (Addr×Obj)) (s:Shared) (σ:St) (H:Hp) (v:V) (u:Value) (Q:St->Hp->Prop),za X pins σ H s->zu v u->t v σ H Q->
  wpAny (model X.prog X.w) X.A (assign target X.env u) (λ_ s'=>∃hQ H',za X pins hQ H' s'/\Q hQ H') X.xe s
def PGs(X:Cx)(ts:List Expr)(t:TGs):Prop:=
 ∀(pins:List (Addr×Obj)) (s:Shared) (σ:St) (H:Hp) (vs:List V) (us:List Value) (Q:St->Hp->Prop),za X pins σ H s->zq vs us->t vs σ H Q->
  wpAny (model X.prog X.w) X.A (assignInOrder ((assignEach ts X.env).map (·.2)) us) (λ_ s'=>∃hQ H',za X pins hQ H' s'/\Q hQ H') X.xe s
abbrev akk:=V->V->V->Hp->(Hp->Prop)->Prop
def aom(X:Cx)(t:akk):Prop:=
 ∀(pins:List (Addr×Obj)) (s:Shared) (σ:St) (H:Hp) (o i v:V) (J U u:Value) (Q:Hp->Prop),za X pins σ H s->zu o J->zu i U->zu v u->t o i v H Q->
  wpAny (model X.prog X.w) X.A (setItem J U u) (λ_ s'=>∃H',za X pins σ H' s'/\Q H') X.xe s
def l6(i:Nat):TG:=λv σ H Q=>Q (σ.set i (some v)) H
theorem xA(U:X.N.Nodup)(hi:X.N[i]?=some x)(g:Loc X.env.scope x)(j:X.fn x=true\/X.env.scope.names.lookup x=some .local:=by first|exact .inl rfl|exact .inr rfl|assumption):PG X (.Name x pos) (l6 i):=by intro J s o H v u Q I r h;exact wpAny_assign_Name (du I U hi g r (λp l=>⟨_,H,l,h⟩) j)
def aq6:TGs:=λvs σ H Q=>vs=[]/\Q σ H
def an7(t:TG)(u:TGs):TGs:=λvs σ H Q=>∃v r,vs=v::r/\t v σ H λhQ H'=>u r hQ H' Q
theorem ags:PGs X [] aq6:=by intro J s U H g j Q I r h;obtain⟨e,h⟩:=h;subst e;cases r;exact assignInOrder_nil ⟨U,H,I,h⟩
theorem aai{t:TG}{u:TGs}(h1:PG X e t)(h2:PGs X es u)
 (hs:(assignEach (e::es) X.env).map (·.2)=assign e X.env::(assignEach es X.env).map (·.2):=by rfl):PGs X (e::es) (an7 t u):=by
 intro J s g H T us Q I r h;obtain⟨v,vr,j,h⟩:=h;subst j;cases r with
 |cons r rr=>
  rw[hs];refine assignInOrder_cons (aI (h1 J s g H _ _ _ I r h) λ_ l ⟨U,o,p,C⟩=>?_);exact h2 J l U o _ _ Q p rr C
def ar8(K:Ad)(n:Nat)(t:TGs):TG:=λv σ H Q=>∃a xs,v=.ref a/\cB K H a xs/\xs.length=n/\t xs σ H Q
theorem aj6{k:Nat}{t:TGs}(hc:X.calm=true)(h:PGs X es t)
 (l:(assignEach es X.env).length=n:=by rfl) (U:(assignEach es X.env).findIdx? (·.1)=none:=by rfl):PG X (.Tuple es k pos) (ar8 X.K n t):=by
 intro J s g H v u Q I r hw;obtain⟨a,p,C,T,hl,hw⟩:=hw;subst C;cases r;obtain⟨a1,j,ht,hz⟩:=I.tuple T;refine assign_Tuple_tuple (I.ok.hd hc) ht (by simp[l,<-hl,j.length]) U λh' hx=>?_;have I1:za X J g H { s with heap:=h' }:=I.kept (t':=s.toks) λb o e=>hx b o (AV (At e)) e;exact h J _ g H p _ Q I1 (by simpa using j) hw
def apy(to ti:TE)(t:akk):TG:=λv σ H Q=>to σ H λo H1=>ti σ H1 λi H2=>t o i v H2 λJ=>Q σ J
theorem ajf{i:Expr}{to ti:TE}{t:akk}(l:PE X o to)(hi:PE X i ti)(hs:aom X t)
 (p:∀v,assign (.Subscript o i pos) X.env v=(do
  let U <-holding [v] (eval o X.env)
  let g <-holding [v,U] (eval i X.env)
  standAt pos
  holding [v,U,g] (setItem U g v)
  release [v,U,g] []):=by intro _;rfl):PG X (.Subscript o i pos) (apy to ti t):=by
 intro J s j H v u Q I r h;rw[p];refine Aa (AY (a9 (l J s j H _ I h) λU C x T I1 r1 q1=>?_));refine Aa (AY (a9 (hi J C j T _ I1 q1) λg s2 y H2 I2 r2 q2=>?_));refine Aa (wpAny_standAt (Aa (AY (aI (hs J s2 j H2 x y v U g u _ I2 r1 r2 r q2) λ_ s3 ⟨H3,I3,q3⟩=>?_))));exact wpAny_release ⟨j,H3,I3,q3⟩
def ake(te:TE)(g:TG):TS:=λD σ H=>te σ H λx H1=>g x σ H1 D.nx
theorem aca{te:TE}{g:TG}(j:PE X e te)(l:PG X tg g)(hs:swapsWithSole [tg] e pos.line X.env=pure false:=by rfl)(hw:swappedStores [tg] e X.env=pure none:=by rfl)
 (h1:(assignEach [tg] X.env).map (·.2)=[assign tg X.env]:=by rfl):PS X (.Assign [tg] e pos) (ake te g):=by
 intro J s U H D I h;refine wpAny_Assign_stores (a9 (j J s U H _ I h) λv o x p r t C=>?_) hs hw;rw[h1];exact aI (l J o U p x v _ r t C) λ_ T q=>q
theorem ac7{te:TE}(U:X.N.Nodup)(hi:X.N[i]?=some x)(g:Loc X.env.scope x)(j:PE X e te)(hs:swapsWith e (some (.Name x fy)) pos.line X.env=pure false:=by rfl)(l:X.fn x=true\/X.env.scope.names.lookup x=some .local:=by first|exact .inl rfl|exact .inr rfl|assumption):
 PS X (.Assign [.Name x fy] e pos) (ake te (l6 i)):=by
 intro J s o H D I h;refine wpAny_Assign_Name (a9 (j J s o H _ I h) λv s1 y p r t C=>?_) hs;exact du r U hi g t (λs2 T=>⟨_,p,T,C⟩) l
def ara(i j:Nat)(ta:TA):TS:=λD σ H=>ta σ H λvs H1=>∃v w,vs=[v,w]/\D.nx ((σ.set i (some v)).set j (some w)) H1
theorem ajy{y:Str}{a b:Expr}{ta:TA}{px py pt:Pos}{t k2 U}(hc:X.calm=true)(hN:X.N.Nodup)(hi:X.N[i]?=some x)(hj:X.N[j]?=some y)(C:i≠j)
 (hx:X.env.scope.names.lookup x=some .local) (hy:X.env.scope.names.lookup y=some .local) (ha:PA X [a,b] ta)
 (hw:swappedStores [.Tuple [.Name x px,.Name y py] t pt] (.Tuple [a,b] k2 U) X.env=pure (some [x,y]))
 (hs:swapsWithSole [.Tuple [.Name x px,.Name y py] t pt] (.Tuple [a,b] k2 U) pos.line X.env=pure false:=by rfl):
 PS X (.Assign [.Tuple [.Name x px,.Name y py] t pt] (.Tuple [a,b] k2 U) pos) (ara i j ta):=by
 intro J s σ H D I h;rw[exec_Assign_arm];refine Aa (wpAny_standAt ?_);rw[hs];refine Aa (Ag ?_);rw[AC (by decide)];refine Aa (Tuple_ (yi (ha _ J s σ H _ I h) λus g vs H1 I1 r1 T=>?_));obtain⟨v,w,e1,T⟩:=T;subst e1;obtain⟨l,r,rfl,rv,a1⟩:∃l r,us=[l,r]/\zu v l/\zu w r:=by
  cases r1 with
  |cons p q=>
   cases q with
   |cons p' q'=>
    cases q';exact⟨_,_,rfl,p,p'⟩
 refine Bl ?_ (by show 2<=sizeLine;decide);have I2:za X J σ H1 { g with heap:=g.heap.push { cls:=.type "tuple",data:=.seq [l,r].toArray } }:=I1.kept (t':=g.toks) λb o e=>As _ e;rw[hw];refine Aa (Ag ?_);show wpAny (model X.prog X.w) X.A (do rule "assign.swapped-stores";let items <-unpackItems (.ref g.heap.objs.size) 2 none;assignInOrder [λv=>bindName X.env y v,λv=>bindName X.env x v] items.reverse;pure Flow.next) _ _ _;refine Aa (BB (Aa (unpackItems_tuple (items:=#[l,r]) (I.ok.hd hc) (IsTup.new g.heap _) λh' a2=>?_)));have I3:=I2.kept (h':=h') (t':=g.toks) λb o e=>a2 b o (AV (At e)) e;show wpAny _ _ (assignInOrder [λv=>bindName X.env y v,λv=>bindName X.env x v] [r,l] >>= λ_=>pure Flow.next) _ _ _;refine Aa (assignInOrder_cons (wpAny_bindName (du I3 hN hj (.inl hy) a1 (λs2 I4=>?_) (.inr hy))));refine assignInOrder_cons (wpAny_bindName (du I4 hN hi (.inl hx) rv (λs3 I5=>assignInOrder_nil (Ag ?_)) (.inr hx)));rw[List.set_comm _ _ (AF C)] at I5;exact⟨_,H1,I5,T⟩
def al3(c:TT)(tb:TS):TS:=λD σ H=>∃W:Nat->St->Hp->Prop,(∃m,W m σ H)/\∀m σ H,W m σ H->
 c σ H λb H1=>if b=true then ∃N:St->Hp->Prop,(∀hQ H',N hQ H'->∃J,J<m/\W J hQ H')/\tb { D with nx:=N,ct:=N,bk:=D.nx } σ H1 else D.nx σ H1
theorem aeh{tb:TS}(hp:PassesOwn (model X.prog X.w) X.A X.env X.xe)(hc:PT X c tc)(hb:fN X body tb):PS X (.While c body [] pos) (al3 tc tb):=by
 intro J s σ H D I h;obtain⟨W,⟨m0,w0⟩,turn⟩:=h;refine wpAny_While (codeAny_whileLoop (λn s'=>∃j H',za X J j H' s'/\W n j H') ?_ m0 ⟨σ,H,I,w0⟩);rintro n s1 ⟨g,H1,I1,w1⟩;refine wpAny_passesOwn hp (aI (hc J s1 g H1 _ I1 (turn n g H1 w1)) λb s2 ⟨H2,I2,o⟩=>?_);cases b with
 |true=>
  obtain⟨N,hN,o⟩:=o;rw[AB rfl];refine wpAny_passesOwn hp (aI (hb J s2 g H2 _ I2 o) λf s3 p=>?_);cases f with
  |next=>
   obtain⟨U,l,r,t⟩:=p;obtain⟨C,T,w3⟩:=hN U l t;exact⟨C,T,U,l,r,w3⟩
  |cont=>
   obtain⟨U,l,r,t⟩:=p;obtain⟨C,T,w3⟩:=hN U l t;exact⟨C,T,U,l,r,w3⟩
  |brk=>exact p
  |ret v=>exact p
 |false=>
  rw[AC Ay];exact wpAny_execs_nil ⟨g,H2,I2,o⟩
structure It where
 go:Nat->Hp->Prop
 yld:Nat->Hp->V->Hp->Prop
 stop:Nat->Hp->Prop
def jJ(X:Cx)(pins:List (Addr×Obj))(H:Hp)(b:Addr):Prop:=
 H b=none/\b≠X.env.locals/\b∉X.fs/\(b∈X.ex\/X.s₀.heap.objs.size<=b)/\(∀x c,X.env.cells.lookup x=some c->c≠b)/\∀p∈X.pn++pins,p.1≠b
theorem za.fpOk(I:za X pins σ H s)(J:s.heap.objs.size<=b)(U:H' b=none):jJ X pins H' b:=by
 refine⟨U,CP (AI I.lt J),I.nofs J,.inr (AM I.sz J),λx c e z=>?_,λp g z=>?_⟩
 ·obtain⟨v,q⟩:=I.cell x c e;exact absurd (AI q.lt (by rw[z];exact J)) (Cn _)
 ·exact absurd (AI (At (I.pin p g).1) (by rw[z];exact J)) (Cn _)
structure yb(P:Program)(w:World)(K:Ad)(tg:Expr)(J:It)(fp:List Addr)(it:Addr)(tn:Nat->Heap->Prop):Prop where
 mem:it∈fp
 obj:∀i h,tn i h->∀b∈fp,∃o,h.get? b=some o/\∀v,o.data≠.cell v
 keep:∀i h h',tn i h->(∀b∈fp,∀o,h.get? b=some o->h'.get? b=some o)->tn i h'
 item:∀(X:Cx),X.prog=P->X.w=w->X.K=K->X.calm=true->∀(i:Nat) (pins:List (Addr×Obj)) (s:Shared) (σ:St) (H:Hp) (E:Value->Shared->Prop),za X pins σ H s->(∀b∈fp,jJ X pins H b)->tn i s.heap->J.go i H->
  wpAny (model P w) X.A (pyNext (.ref it)) (λr s1=>∃u,r=some u/\
   wpAny (model P w) X.A (letOwnedTupleGo tg (.ref it) u) (λ_ s2=>∃x H',za X pins σ H' s2/\zu x u/\J.yld i H x H'/\tn (i+1) s2.heap/\∀b∈fp,H' b=none) E s1) E s
 done:∀(X:Cx),X.prog=P->X.w=w->X.K=K->X.calm=true->∀(i:Nat) (pins:List (Addr×Obj)) (s:Shared) (σ:St) (H:Hp) (E:Value->Shared->Prop),za X pins σ H s->(∀b∈fp,jJ X pins H b)->tn i s.heap->J.stop i H->
  wpAny (model P w) X.A (pyNext (.ref it)) (λr s1=>r=none/\za X pins σ H s1) E s
 self:∀(A:Around) (i:Nat) (s:Shared) (Q:Value->Shared->Prop) (E:Value->Shared->Prop),tn i s.heap->Q (.ref it) s->wpAny (model P w) A (pyIter (.ref it)) Q E s
abbrev TI:=St->Hp->(It->Hp->Prop)->Prop
def PIE(X:Cx)(pins:List (Addr×Obj))(σ:St)(tg:Expr)(R:It->Hp->Prop)(U:Value)(g:Shared):Prop:=
 ∃(it:Addr) (fp:List Addr) (j:Nat->Heap->Prop) (J:It) (H':Hp),U=.ref it/\za X pins σ H' g/\yb X.prog X.w X.K tg J fp it j/\j 0 g.heap/\(∀b∈fp,jJ X pins H' b)/\R J H'
def PI(X:Cx)(tg iter:Expr)(wi:TI):Prop:=
 ∀(pins:List (Addr×Obj)) (s:Shared) (σ:St) (H:Hp) (R:It->Hp->Prop),za X pins σ H s->wi σ H R->
  wpAny (model X.prog X.w) X.A (eval iter X.env) (λv J=>wpAny (model X.prog X.w) X.A (pyIter v) (PIE X pins σ tg R) X.xe J) X.xe s
theorem wE{o:Obj}{n:String}{vs:Array Value}{Q:Unit->Shared->Prop}(U:s.heap.get? it=some o)(hc:o.cls=.type n)(hd:o.data=.fields vs)
 (g:["enumerate","zip","dict_itemiterator","dict_reverseitemiterator","odict_iterator","itertools.zip_longest","itertools.pairwise"].contains n=false) (J:Q () s):wpAny M A (letOwnedTupleGo tg (.ref it) u) Q E s:=by
 unfold letOwnedTupleGo;cases tg<;>first
  |exact Ag J
  |(cases u<;>first
   |exact Ag J
   |(refine Aa (wpAny_load U ?_)
     rw[hc,hd];show wpAny M A (if (["enumerate","zip","dict_itemiterator","dict_reverseitemiterator","odict_iterator","itertools.zip_longest","itertools.pairwise"].contains n&&vs[0]?==some (rawInt _))=true then _ else _) Q E s;rw[AC (by intro h;rw[g,Bool.false_and] at h;cases h)];exact Ag J))
def Itl(K:Ad)(a:Addr):It:=
 ⟨λi H=>∃xs x,aJ K H a xs/\xs[i]?=some x,λi H x H'=>H'=H/\∀xs,aJ K H a xs->xs[i]?=some x,λi H=>∃xs,aJ K H a xs/\xs.length<=i⟩
def Itt(K:Ad)(a:Addr):It:=
 ⟨λi H=>∃xs x,cB K H a xs/\xs[i]?=some x,λi H x H'=>H'=H/\∀xs,cB K H a xs->xs[i]?=some x,λi H=>∃xs,cB K H a xs/\xs.length<=i⟩
def Itr(lo:Int)(n:Nat):It:=⟨λi _=>i<n,λi H x H'=>H'=H/\x=.int (lo+i),λi _=>n<=i⟩
theorem zN{P:Program}{w:World}{K:Ad}(a it:Addr):yb P w K tg (Itl K a) [it] it (λi h=>h.IsListIter it a i) where
 mem:=by simp
 obj:=λi h st b U=>by
  have e:b=it:=by simpa using U
  subst e;obtain⟨o,e,c,d⟩:=st;exact⟨o,e,λv z=>by rw[d] at z;cases z⟩
 keep:=λi h j st k=>st.at λo e=>k it (by simp) o e
 item:=by intro X t hw C hc i J s σ H E I l st T;subst t hw C;obtain⟨xs,x,r,hx⟩:=T;obtain⟨a1,rv,p,hz⟩:=I.list r;obtain⟨u,hu,ru⟩:=rv.get hx;obtain⟨f0,f1,f2,f3,f4,f5⟩:=l it (by simp);refine wpAny_pyNext_list_item st p.isList (x:=u) (by simpa using hu) λj g sb=>?_;have I1:za X J σ H { s with heap:=j }:=I.turned (t':=s.toks) (λb o U e=>(sb.2 b U).trans e) f0 f1 f3 f4 f5;obtain⟨o,e,c,d⟩:=id g;exact⟨u,rfl,wE (s:={ s with heap:=j }) e c d (by decide) ⟨x,H,I1,ru,⟨rfl,λys hy=>by rw[I.list_inj hy r];exact hx⟩,g,λb U=>(l b U).1⟩⟩
 done:=by intro X t hw C hc i J s σ H E I l st T;subst t hw C;obtain⟨xs,r,hx⟩:=T;obtain⟨a1,rv,p,hz⟩:=I.list r;obtain⟨f0,f1,f2,f3,f4,f5⟩:=l it (by simp);have hl:=rv.length;exact wpAny_pyNext_list_end (I.ok.hd hc) st p.isList (by simp;lia) λj eb=>⟨rfl,I.turned (t':=s.toks) (λb o U e=>eb b o U e) f0 f1 f3 f4 f5⟩
 self:=λ_ _ _ _ _ st h=>wpAny_pyIter_listiter st h
theorem uX{P:Program}{w:World}{K:Ad}(a it:Addr):yb P w K tg (Itt K a) [it] it (λi h=>h.IsTupleIter it a i) where
 mem:=by simp
 obj:=λi h st b U=>by
  have e:b=it:=by simpa using U
  subst e;obtain⟨o,e,c,d⟩:=st;exact⟨o,e,λv z=>by rw[d] at z;cases z⟩
 keep:=λi h l st k=>st.at λo e=>k it (by simp) o e
 item:=by intro X C hw T hc i J s σ H E I r st hg;subst C hw T;obtain⟨xs,x,t,hx⟩:=hg;obtain⟨g,rv,p,hz⟩:=I.tuple t;obtain⟨u,hu,ru⟩:=rv.get hx;obtain⟨f0,f1,f2,f3,f4,f5⟩:=r it (by simp);refine wpAny_pyNext_tuple_item st (show s.heap.IsTuple a g.toArray from p) (x:=u) (by simpa using hu) λl j sb=>?_;have I1:za X J σ H { s with heap:=l }:=I.turned (t':=s.toks) (λb o U e=>(sb.2 b U).trans e) f0 f1 f3 f4 f5;obtain⟨o,e,c,d⟩:=id j;exact⟨u,rfl,wE (s:={ s with heap:=l }) e c d (by decide) ⟨x,H,I1,ru,⟨rfl,λys hy=>by rw[I.tuple_inj hy t];exact hx⟩,j,λb U=>(r b U).1⟩⟩
 done:=by intro X C hw T hc i J s σ H E I r st hg;subst C hw T;obtain⟨xs,t,hx⟩:=hg;obtain⟨g,rv,p,hz⟩:=I.tuple t;obtain⟨f0,f1,f2,f3,f4,f5⟩:=r it (by simp);have hl:=rv.length;exact wpAny_pyNext_tuple_end (I.ok.hd hc) st (show s.heap.IsTuple a g.toArray from p) (by simp;lia) λl eb=>⟨rfl,I.turned (t':=s.toks) (λb o U e=>eb b o U e) f0 f1 f3 f4 f5⟩
 self:=λ_ _ _ _ _ st h=>wpAny_pyIter_tupleiter st h
theorem uJ{P:Program}{w:World}{K:Ad}(it:Addr)(lo:Int)(n:Nat):yb P w K tg (Itr lo n) [it] it (λi h=>IsRangeIter h it (lo+(i:Nat)*1) ((n:Int)-(i:Nat)) 1) where
 mem:=by simp
 obj:=λi h st b U=>by
  have e:b=it:=by simpa using U
  subst e;exact⟨_,st,λv z=>by have z':Data.fields _=Data.cell v:=z;cases z'⟩
 keep:=λi h j st k=>k it (by simp) _ st
 item:=by intro X p hw r C i J s σ H E I l st T;subst p hw r;obtain⟨f0,f1,f2,f3,f4,f5⟩:=l it (by simp);have W:=Walks.range (prog:=X.prog) (w:=X.w) (I.ok.hd C) it lo 1 n;refine x4 I.tk (W.item i s _ _ T st λv j tk hv g kk ht=>?_);obtain⟨t,rfl⟩:=hv;have I1:za X J σ H { s with heap:=j,toks:=tk }:=I.turned (λb o U e=>kk b o (by simpa using U) e) f0 f1 f3 f4 f5;refine⟨_,rfl,wE (s:={ s with heap:=j,toks:=tk }) (n:="range_iterator") g rfl rfl (by decide) ⟨.int (lo+i),H,I1,⟨t,?_⟩,⟨rfl,rfl⟩,g,λb U=>(l b U).1⟩⟩;rw[Int.mul_one]
 done:=by intro X p hw r C i J s σ H E I l st T;subst p hw r;obtain⟨f0,f1,f2,f3,f4,f5⟩:=l it (by simp);exact wpAny_pyNext_range_end (I.ok.hd C) st (by have:n<=i:=T;lia) λj eb=>⟨rfl,I.turned (t':=s.toks) (λb o U e=>eb b o U e) f0 f1 f3 f4 f5⟩
 self:=λ_ _ _ _ _ st h=>wpAny_pyIter_rangeiter st h
end L2
variable {wi:L2.TI}
namespace L2
open PySem PySem.Spec PyProof.Rows
def anc(K:Ad)(tl:TE):TI:=λσ H R=>tl σ H λx H1=>∃a,x=.ref a/\(∃xs,aJ K H1 a xs)/\R (Itl K a) H1
def aqs(K:Ad)(tl:TE):TI:=λσ H R=>tl σ H λx H1=>∃a,x=.ref a/\(∃xs,cB K H1 a xs)/\R (Itt K a) H1
theorem afi{l:Expr}{tl:TE}(j:PE X l tl):PI X tg l (anc X.K tl):=by
 intro J s r H R I h;refine a9 (j J s r H _ I h) λv U x t g C T=>?_;obtain⟨a,e,⟨xs,hq⟩,q⟩:=T;subst e;cases C;obtain⟨a1,rv,p,hz⟩:=g.list hq;refine wpAny_pyIter_list p.isList ?_;refine⟨U.heap.objs.size,[U.heap.objs.size],_,_,t,rfl,g.kept (t':=U.toks) λb o e=>As _ e,zN a _,⟨_,Db _ rfl,rfl,rfl⟩,λb hb=>?_,q⟩;have e:b=U.heap.objs.size:=by simpa using hb
 subst e;exact g.fpOk (Aj _) (g.hok.fresh (Aj _))
theorem al4{l:Expr}{tl:TE}(r:PE X l tl):PI X tg l (aqs X.K tl):=by
 intro J s t H R I h;refine a9 (r J s t H _ I h) λv U x C g T q1=>?_;obtain⟨a,e,⟨xs,hq⟩,q⟩:=q1;subst e;cases T;obtain⟨j,rv,p,hz⟩:=g.tuple hq;refine wpAny_pyIter_tuple (show U.heap.IsTuple a j.toArray from p) ?_;refine⟨U.heap.objs.size,[U.heap.objs.size],_,_,C,rfl,g.kept (t':=U.toks) λb o e=>As _ e,uX a _,⟨_,Db _ rfl,rfl,rfl⟩,λb hb=>?_,q⟩;have e:b=U.heap.objs.size:=by simpa using hb
 subst e;exact g.fpOk (Aj _) (g.hok.fresh (Aj _))
theorem aej{R:It->Hp->Prop}{hi:Int}{t u v:Tok}{tk:Nat}(I:za X pins σ H s)(h1 : -(2 ^ 62)<=lo)(h2:lo<2 ^ 62)(h3 : -(2 ^ 62)<=hi)(U:hi<2 ^ 62)
 (q:R (Itr lo (hi-lo).toNat) H) (p:0<tk:=by walk_at "t"):wpAny (model X.prog X.w) X.A (pyIter (.ref s.heap.objs.size)) (PIE X pins σ tg R) E { s with heap:=s.heap.push { cls:=.type "range",data:=.fields #[.int lo t,.int hi u,.int 1 v] },toks:=tk }:=by
 refine wpAny_pyIter_range (IsRange.new ..) (small_one h1 h2 h3 U) ?_;have J:za X pins σ H { s with heap:=s.heap.push { cls:=.type "range",data:=.fields #[.int lo t,.int hi u,.int 1 v] },toks:=tk }:=I.kept λb o e=>As _ e;refine⟨(s.heap.push { cls:=.type "range",data:=.fields #[.int lo t,.int hi u,.int 1 v] }).objs.size,[(s.heap.push { cls:=.type "range",data:=.fields #[.int lo t,.int hi u,.int 1 v] }).objs.size],_,_,H,rfl,
  J.kept (t':=tk) λb o e=>As _ e,uJ _ lo (hi-lo).toNat,?_,λb g=>?_,q⟩
 ·have j:lo+((0:Nat):Int)*1=lo:=by simp
  have l:(((hi-lo).toNat:Nat):Int)-((0:Nat):Int)=Builtin.Range.rangeSize lo hi 1:=by rw[rangeSize_one];split<;>lia
  show IsRangeIter _ _ (lo+((0:Nat):Int)*1) ((((hi-lo).toNat:Nat):Int)-((0:Nat):Int)) 1;rw[j,l];exact Db _ rfl
 ·have e:b=(s.heap.push { cls:=.type "range",data:=.fields #[.int lo t,.int hi u,.int 1 v] }).objs.size:=by simpa using g
  subst e;exact J.fpOk (Aj _) (J.hok.fresh (Aj _))
def ao8(ta:TA):TI:=λσ H R=>ta σ H λvs H1=>∃j:Int,vs=[.int j] /\ -(2 ^ 62)<=j/\j<2 ^ 62/\R (Itr 0 j.toNat) H1
theorem yS{a:Expr}{ta:TA}(g:Gl X "range")(l:X.mg "range"=none)(o:PA X [a] ta)(hs:starEach [a] X.env=[(false,eval a X.env)]:=by rfl):PI X tg (.Call (.Name "range" p) [a] [] pos) (ao8 ta):=by
 intro J s C H R I h;refine Call_ (ck I g l boot_range (BL (yi (o pos J s C H _ I h) λus s1 vs H1 T r1 U=>?_) hs rfl));obtain⟨j,e,U,q2,q⟩:=U;subst e;cases r1 with
 |cons r rr=>
  cases rr;obtain⟨t,rfl⟩:=r;exact call_range_1 (aej T (by lia) (by lia) U q2 (by simpa using q))
def aru(wi:TI)(g:TG)(tb:TS):TS:=λD σ H=>wi σ H λJ H1=>∃W:Nat->Nat->St->Hp->Prop,(∃m,W 0 m σ H1)/\∀i m σ H,W i m σ H->
 (J.stop i H/\D.nx σ H)\/(J.go i H/\∃N:St->Hp->Prop,(∀hQ H',N hQ H'->∃j,j<m/\W (i+1) j hQ H')/\∀x H',J.yld i H x H'->g x σ H' λU H2=>tb { D with nx:=N,ct:=N,bk:=D.nx } U H2)
def mO(fp:List Addr)(h:Heap):List (Addr×Obj):=fp.filterMap λb=>(h.get? b).map λo=>(b,o)
theorem cj{o:Obj}(J:b∈fp)(e:h.get? b=some o):(b,o)∈mO fp h:=Dg.mpr ⟨b,J,by rw[e];rfl⟩
theorem yP{p:Addr×Obj}(J:p∈mO fp h):p.1∈fp/\h.get? p.1=some p.2:=by
 obtain⟨b,U,e⟩:=Dg.mp J;cases q:h.get? b with
 |none=>rw[q] at e;cases e
 |some o=>
  rw[q] at e;have g:(b,o)=p:=AN e;subst g;exact⟨U,q⟩
theorem za.pinned(I:za X pins σ H s)(g:∀b∈fp,jJ X pins H b)(j:∀b∈fp,∃o,s.heap.get? b=some o/\∀v,o.data≠.cell v):za X (pins++mO fp s.heap) σ H s:=
 I.pins_of λp l=>(Aq.mp l).elim (λz=>I.pin p (Ah _ z)) λz=>by obtain⟨J,e⟩:=yP z;obtain⟨r,f1,f2,_⟩:=g p.1 J;obtain⟨o,U,d⟩:=j p.1 J;rw[e] at U;cases U;exact⟨e,r,f1,f2,d⟩
theorem za.unpinned{pl:List (Addr×Obj)}(I:za X (pins++pl) σ H s):za X pins σ H s:=I.pins_of λp J=>I.pin p (Ah _ (Ar _ J))
theorem akj{iter:Expr}{g:TG}{tb:TS}(hp:PassesOwn (model X.prog X.w) X.A X.env X.xe)(hc:X.calm=true)(hi:PI X tg iter wi)(hg:PG X tg g)(l:fN X body tb)
 (hs:∀x,foldedSetIterable iter X.env x=pure x:=by intro _;rfl):PS X (.For tg iter body [] pos) (aru wi g tb):=by
 intro U s σ H D I h;refine wpAny_For (aI (hi U s σ H _ I h) λv s1 h1=>aI h1 λau s2 h2=>?_) hs;obtain⟨it,fp,tn,J,H2,e,I2,T,a4,f2,W,⟨m0,w0⟩,turn⟩:=h2;subst e;have p:∀{H':Hp},(∀b∈fp,H' b=none)->∀b∈fp,jJ X U H' b:=λhn b l=>⟨hn b l,(f2 b l).2⟩;refine codeAny_forLoop_any (λn s'=>∃i t H',za X U t H' s'/\tn i s'.heap/\(∀b∈fp,H' b=none)/\W i n t H') ?_ m0 ⟨0,σ,H2,I2,a4,λb l=>(f2 b l).1,w0⟩;rintro n s3 ⟨i,C,H3,I3,a2,a3,w3⟩;rcases turn i n C H3 w3 with⟨stop,qn⟩|⟨go,N,hN,step⟩
 ·refine wpAny_passesOwn hp (aI (T.done X rfl rfl rfl hc i U s3 C H3 X.xe I3 (p a3) a2 stop) λr s4 ⟨hr,I4⟩=>?_);subst hr;exact wpAny_execs_nil ⟨C,H3,I4,qn⟩
 ·refine wpAny_passesOwn hp (aI (T.item X rfl rfl rfl hc i U s3 C H3 X.xe I3 (p a3) a2 go) λr s4 ⟨u,hr,h4⟩=>?_);subst hr;refine wpAny_passesOwn hp (aI h4 λ_ s5 ⟨x,H5,I5,r5,y5,a1,a5⟩=>?_);have ag:=I5.pinned (p a5) (T.obj _ _ a1);refine wpAny_passesOwn hp (aI (hg _ s5 C H5 x u _ ag r5 (step x H5 y5)) λ_ s6 ⟨al,H6,I6,q6⟩=>?_);refine wpAny_passesOwn hp (aI (l _ s6 al H6 _ I6 q6) λf s7 q7=>?_);have again:∀{j:St} {H7:Hp},za X (U++mO fp s5.heap) j H7 s7->N j H7->∃m,m<n/\∃i t H',za X U t H' s7/\tn i s7.heap/\(∀b∈fp,H' b=none)/\W i m t H':=λ{j H7} I7 n7=>by obtain⟨m',hm,w7⟩:=hN j H7 n7;refine⟨m',hm,i+1,j,H7,I7.unpinned,T.keep _ _ _ a1 λb l o e=>(I7.pin (b,o) (Ah _ (Ah _ (cj l e)))).1,λb l=>?_,w7⟩;obtain⟨o,e,d⟩:=T.obj _ _ a1 b l;exact(I7.pin (b,o) (Ah _ (Ah _ (cj l e)))).2.1
  cases f with
  |next=>obtain⟨j,H7,I7,n7⟩:=q7;exact again I7 n7
  |cont=>obtain⟨j,H7,I7,n7⟩:=q7;exact again I7 n7
  |brk=>obtain⟨j,H7,I7,q7⟩:=q7;exact⟨j,H7,I7.unpinned,q7⟩
  |ret v=>obtain⟨x7,j,H7,I7,r7,q7⟩:=q7;exact⟨x7,j,H7,I7.unpinned,r7,q7⟩
abbrev R2:=V->V->Hp->VK->Prop
def kh(X:Cx)(f:Value->Value->Sem Value)(r:R2):Prop:=
 ∀(pins:List (Addr×Obj)) (s:Shared) (σ:St) (H:Hp) (x y:V) (v u:Value) (Q:VK),za X pins σ H s->zu x v->zu y u->r x y H Q->
  wpAny (model X.prog X.w) X.A (f v u) (EP X pins σ Q) X.xe s
def UnR(X:Cx)(f:Value->Sem Value)(r:V->Hp->VK->Prop):Prop:=
 ∀(pins:List (Addr×Obj)) (s:Shared) (σ:St) (H:Hp) (x:V) (v:Value) (Q:VK),za X pins σ H s->zu x v->r x H Q->
  wpAny (model X.prog X.w) X.A (f v) (EP X pins σ Q) X.xe s
def x8(X:Cx)(f:Value)(r:List V->Hp->VK->Prop):Prop:=
 ∀(pins:List (Addr×Obj)) (s:Shared) (σ:St) (H:Hp) (xs:List V) (us:List Value) (Q:VK),za X pins σ H s->zq xs us->r xs H Q->
  wpAny (model X.prog X.w) X.A (call f us) (EP X pins σ Q) X.xe s
def tOp(r:R2)(ta tb:TE):TE:=λσ H Q=>ta σ H λx H1=>tb σ H1 λy H2=>r x y H2 Q
def tUn(r:V->Hp->VK->Prop)(ta:TE):TE:=λσ H Q=>ta σ H λx H1=>r x H1 Q
def rI(C:Int->Int->Prop)(g:Int->Int->V):R2:=λx y H Q=>∃i j,x=.int i/\y=.int j/\C i j/\Q (g i j) H
def rI0(g:Int->Int->V):R2:=λx y H Q=>∃i j,x=.int i/\y=.int j/\Q (g i j) H
def rU(g:Int->V):V->Hp->VK->Prop:=λx H Q=>∃i,x=.int i/\Q (g i) H
section
variable {a b:Expr}{ta tb tc:TE}
theorem alu(j:PE X a ta)(l:PE X b tb){R:V->V->Hp->Prop}(I:za X pins σ H s)
 (h:ta σ H λx H1=>tb σ H1 λy H2=>R x y H2) {f:Value->Value->Sem Value}
 (o:∀v u g x y H2,za X pins σ H2 g->zu x v->zu y u->R x y H2->wpAny (model X.prog X.w) X.A (f v u) Q X.xe g):
 wpAny (model X.prog X.w) X.A (eval a X.env) (λv J=>wpAny (model X.prog X.w) X.A (eval b X.env) (λu U=>wpAny (model X.prog X.w) X.A (f v u) Q X.xe U) X.xe J) X.xe s:=by
 refine a9 (j pins s σ H _ I h) λv p x H1 r t C=>?_;refine a9 (l pins p σ H1 _ r C) λu g y H2 T r2 q2=>?_;exact o v u g x y H2 T t r2 q2
theorem ao0{op:Operator}{r:R2}(U:kh X (binaryOp op) r)(g:PE X a ta)(j:PE X b tb):PE X (.BinOp a op b pos) (tOp r ta tb):=by intro J s l H Q I h;exact wpAny_BinOp (alu g j I h λv u o x y p t C T q=>U J o l p x y v u Q t C T q)
theorem aoh{op:UnaryOp}{r:V->Hp->VK->Prop}(g:UnR X (unaryOp op) r)(j:PE X a ta):PE X (.UnaryOp op a pos) (tUn r ta):=by intro J s U H Q I h;exact UnaryOp_ (a9 (j J s U H _ I h) λv l x o p t C=>g J l U o x v Q p t C)
theorem opI{f:Value->Value->Sem Value}{C:Int->Int->Prop}{g:Int->Int->Int}
 (rule:∀(i j:Int) (t u:Tok) (s:Shared) (Q:Value->Shared->Prop) (E:Value->Shared->Prop),C i j->Q (.int (g i j) s.toks) { s with toks:=s.toks+1 }->wpAny (model X.prog X.w) X.A (f (.int i t) (.int j u)) Q E s):
 kh X f (rI C λi j=>.int (g i j)):=by
 intro J s r H x y v u Q I U l h;obtain⟨i,j,rfl,rfl,o,q⟩:=h;obtain⟨t,rfl⟩:=U;obtain⟨p,rfl⟩:=l;exact rule i j t p s _ _ o ⟨.int (g i j),H,I.tok _,⟨_,rfl⟩,q⟩
theorem anx{f:Value->Value->Sem Value}{g:Int->Int->Int}
 (rule:∀(i j:Int) (t u:Tok) (s:Shared) (Q:Value->Shared->Prop) (E:Value->Shared->Prop),Q (.int (g i j) s.toks) { s with toks:=s.toks+1 }->wpAny (model X.prog X.w) X.A (f (.int i t) (.int j u)) Q E s):
 kh X f (rI0 λi j=>.int (g i j)):=by
 intro J s p H x y v u Q I U l h;obtain⟨i,j,rfl,rfl,q⟩:=h;obtain⟨t,rfl⟩:=U;obtain⟨o,rfl⟩:=l;exact rule i j t o s _ _ ⟨.int (g i j),H,I.tok _,⟨_,rfl⟩,q⟩
theorem ahu{f:Value->Value->Sem Value}{g:Int->Int->Bool}
 (rule:∀(i j:Int) (t u:Tok) (s:Shared) (Q:Value->Shared->Prop) (E:Value->Shared->Prop),Q (.bool (g i j)) s->wpAny (model X.prog X.w) X.A (f (.int i t) (.int j u)) Q E s):
 kh X f (rI0 λi j=>.bl (g i j)):=by
 intro J s p H x y v u Q I U l h;obtain⟨i,j,rfl,rfl,q⟩:=h;obtain⟨t,rfl⟩:=U;obtain⟨o,rfl⟩:=l;exact rule i j t o s _ _ ⟨.bl (g i j),H,I,rfl,q⟩
def ajp(i j:Int):Prop:=0<j/\j<1073741824
def am5(i j:Int):Prop:=0<=j/\j<=1000000/\i.natAbs<2 ^ 64
def ad3(i j:Int):Prop:=(-(2 ^ 64)<i/\i<2 ^ 64)\/(-(2 ^ 64)<j/\j<2 ^ 64)
theorem ad3.ok{i j:Int}(h:ad3 i j):IntMulOk i j:=by
 rcases h with⟨h1,h2⟩|⟨h1,h2⟩
 ·exact .of_left (intBits_le_64 h1 h2)
 ·exact .of_right (intBits_le_64 h1 h2)
theorem aj3:kh X (binaryOp .Add) (rI0 λi j=>.int (i+j)):=anx λ_ _ _ _ _ _ _ q=>add_int q
theorem akw:kh X (binaryOp .Sub) (rI0 λi j=>.int (i-j)):=anx λ_ _ _ _ _ _ _ q=>sub_int q
theorem aj8:kh X (binaryOp .Mult) (rI ad3 λi j=>.int (i*j)):=opI λ_ _ _ _ _ _ _ J q=>mul_int q J.ok
theorem agt:kh X (binaryOp .FloorDiv) (rI ajp λi j=>.int (i / j)):=opI λi j _ _ _ _ _ J q=>by have h1:(0:Int)<j:=J.1;have h2:j<1073741824:=J.2;exact floordiv_int (by lia) (by rw[Int.fdiv_eq_ediv_of_nonneg i (by lia)];exact q) (.inl (PyProof.noPylong_small (by lia)))
theorem aku:kh X (binaryOp .Mod) (rI (λ_ j=>0<j) λi j=>.int (i % j)):=opI λi j _ _ _ _ _ J q=>by have h1:(0:Int)<j:=J;exact mod_int' (by lia) (by rw[Int.fmod_eq_emod_of_nonneg i (by lia)];exact q)
theorem aki:kh X (binaryOp .Pow) (rI am5 λi j=>.int (i ^ j.toNat)):=opI λ_ _ _ _ _ _ _ J q=>pow_int_small J.1 J.2.1 J.2.2 q
theorem unI{f:Value->Sem Value}{g:Int->Int}
 (rule:∀(i:Int) (t:Tok) (s:Shared) (Q:Value->Shared->Prop) (E:Value->Shared->Prop),Q (.int (g i) s.toks) { s with toks:=s.toks+1 }->wpAny (model X.prog X.w) X.A (f (.int i t)) Q E s):
 UnR X f (rU λi=>.int (g i)):=by
 intro J s j H x v Q I U h;obtain⟨i,rfl,q⟩:=h;obtain⟨t,rfl⟩:=U;exact rule i t s _ _ ⟨.int (g i),H,I.tok _,⟨_,rfl⟩,q⟩
theorem alc:UnR X (unaryOp .USub) (rU λi=>.int (-i)):=unI λ_ _ _ _ _ q=>neg_int q
end
def agb:V->V->Bool
 |.non,.non=>true|.non,.int _=>true|.int _,.non=>true|.non,.bl _=>true|.bl _,.non=>true|.non,.str _=>true|.str _,.non=>true
 |.int _,.int _=>true|.bl _,.bl _=>true|.str _,.str _=>true|.byt _,.byt _=>true
 |.int _,.str _=>true|.str _,.int _=>true|.bl _,.str _=>true|.str _,.bl _=>true
 |_,_=>false
def rEq:R2:=λx y H Q=>agb x y=true/\Q (.bl (decide (x=y))) H
def rNe:R2:=λx y H Q=>agb x y=true/\Q (.bl (!decide (x=y))) H
theorem wO{i j:Int}:decide (V.int i=V.int j)=(i==j):=by rw[Bw];simp
theorem acb{i j:Bool}:decide (V.bl i=V.bl j)=(i==j):=by rw[Bw];simp
theorem vW{i j:Str}:decide (V.str i=V.str j)=(i==j):=by rw[Bw];simp
theorem wZ{i j:Array UInt8}:decide (V.byt i=V.byt j)=(i.toList==j.toList):=by rw[Bw];cases i;cases j;simp
section
variable {a b:Expr}{ta tb tc:TE}
theorem js{Q:VK}{k J:Bool}(I:za X pins σ H s)(q:Q (.bl k) H)(e:k=J):EP X pins σ Q (.bool J) s:=by subst e;exact⟨.bl k,H,I,rfl,q⟩
theorem aip:kh X (compareOp .Eq) rEq:=by
 intro o s p H x y v u Q I l J h;obtain⟨g,q⟩:=h;cases x with
 |non=>
  cases l;cases y with
  |non=>cases J;exact PySem.EqNone.eq_none_none (js I q (by simp))
  |bl j=>cases J;exact PySem.EqNone.eq_none_bool (js I q (by simp))
  |int j=>obtain⟨U,rfl⟩:=J;exact PySem.EqNone.eq_none_int (js I q (by simp))
  |str j=>obtain⟨U,rfl⟩:=J;exact PySem.EqNone.eq_none_str (js I q (by simp))
  |_=>exact absurd (show false=true from g) Ay
 |bl i=>
  cases l;cases y with
  |non=>cases J;exact PySem.EqNone.eq_bool_none (js I q (by simp))
  |bl j=>cases J;exact eq_bool (js I q acb)
  |str j=>obtain⟨U,rfl⟩:=J;exact PySem.EqMixed.eq_bool_str (js I q (by simp))
  |_=>exact absurd (show false=true from g) Ay
 |int i=>
  obtain⟨t,rfl⟩:=l;cases y with
  |non=>cases J;exact PySem.EqNone.eq_int_none (js I q (by simp))
  |int j=>obtain⟨U,rfl⟩:=J;exact eq_int (js I q wO)
  |str j=>obtain⟨U,rfl⟩:=J;exact PySem.EqMixed.eq_int_str (js I q (by simp))
  |_=>exact absurd (show false=true from g) Ay
 |str i=>
  obtain⟨t,rfl⟩:=l;cases y with
  |non=>cases J;exact PySem.EqNone.eq_str_none (js I q (by simp))
  |bl j=>cases J;exact PySem.EqMixed.eq_str_bool (js I q (by simp))
  |int j=>obtain⟨U,rfl⟩:=J;exact PySem.EqMixed.eq_str_int (js I q (by simp))
  |str j=>obtain⟨U,rfl⟩:=J;exact eq_str (js I q vW)
  |_=>exact absurd (show false=true from g) Ay
 |byt i=>
  obtain⟨t,rfl⟩:=l;cases y with
  |byt j=>obtain⟨U,rfl⟩:=J;exact PySem.W.eq_bytes (js I q wZ)
  |_=>exact absurd (show false=true from g) Ay
 |_=>cases y<;>exact absurd (show false=true from g) Ay
theorem ai9:kh X (compareOp .NotEq) rNe:=by
 intro o s p H x y v u Q I l J h;obtain⟨g,q⟩:=h;cases x with
 |non=>
  cases l;cases y with
  |non=>cases J;exact PySem.EqNone.ne_none_none (js I q (by simp))
  |bl j=>cases J;exact PySem.EqNone.ne_none_bool (js I q (by simp))
  |int j=>obtain⟨U,rfl⟩:=J;exact PySem.EqNone.ne_none_int (js I q (by simp))
  |str j=>obtain⟨U,rfl⟩:=J;exact PySem.EqNone.ne_none_str (js I q (by simp))
  |_=>exact absurd (show false=true from g) Ay
 |bl i=>
  cases l;cases y with
  |non=>cases J;exact PySem.EqNone.ne_bool_none (js I q (by simp))
  |bl j=>cases J;exact ne_bool (js I q (Bt not acb))
  |str j=>obtain⟨U,rfl⟩:=J;exact PySem.EqMixed.ne_bool_str (js I q (by simp))
  |_=>exact absurd (show false=true from g) Ay
 |int i=>
  obtain⟨t,rfl⟩:=l;cases y with
  |non=>cases J;exact PySem.EqNone.ne_int_none (js I q (by simp))
  |int j=>obtain⟨U,rfl⟩:=J;exact ne_int (js I q (Bt not wO))
  |str j=>obtain⟨U,rfl⟩:=J;exact PySem.EqMixed.ne_int_str (js I q (by simp))
  |_=>exact absurd (show false=true from g) Ay
 |str i=>
  obtain⟨t,rfl⟩:=l;cases y with
  |non=>cases J;exact PySem.EqNone.ne_str_none (js I q (by simp))
  |bl j=>cases J;exact PySem.EqMixed.ne_str_bool (js I q (by simp))
  |int j=>obtain⟨U,rfl⟩:=J;exact PySem.EqMixed.ne_str_int (js I q (by simp))
  |str j=>obtain⟨U,rfl⟩:=J;exact ne_str (js I q (Bt not vW))
  |_=>exact absurd (show false=true from g) Ay
 |byt i=>
  obtain⟨t,rfl⟩:=l;cases y with
  |byt j=>obtain⟨U,rfl⟩:=J;exact PySem.W.ne_bytes (js I q (Bt not wZ))
  |_=>exact absurd (show false=true from g) Ay
 |_=>cases y<;>exact absurd (show false=true from g) Ay
theorem amr:kh X (compareOp .Lt) (rI0 λi j=>.bl (decide (i<j))):=ahu λ_ _ _ _ _ _ _ q=>lt_int q
theorem aoy:kh X (compareOp .LtE) (rI0 λi j=>.bl (decide (i<=j))):=ahu λ_ _ _ _ _ _ _ q=>le_int q
theorem ao6:kh X (compareOp .Gt) (rI0 λi j=>.bl (decide (j<i))):=ahu λ_ _ _ _ _ _ _ q=>gt_int q
theorem aoj:kh X (compareOp .GtE) (rI0 λi j=>.bl (decide (j<=i))):=ahu λ_ _ _ _ _ _ _ q=>ge_int q
theorem xn(b:Expr){op:CmpOp}(h:op≠.In:=by decide)(h2:op≠.NotIn:=by decide):behindInMarks op b=false:=by
 have J:(op==CmpOp.In)=false:=by cases op<;>first|rfl|exact absurd rfl h
 have U:(op==CmpOp.NotIn)=false:=by cases op<;>first|rfl|exact absurd rfl h2
 cases b<;>simp[behindInMarks,J,U]
theorem agi{op:CmpOp}{r:R2}(U:kh X (compareOp op) r)(g:PE X a ta)(j:PE X b tb)(l:behindInMarks op b=false):PE X (.Compare a [op] [b] pos) (tOp r ta tb):=by intro J s o H Q I h;exact wpAny_Compare1 (alu g j I h λv u p x y t C T ry q=>U J p o t x y v u Q C T ry q) l
def ae0(t:TE):TT:=λσ H Q=>t σ H λx H'=>∃k,x=.bl k/\Q k H'
theorem afd{op:CmpOp}{r:R2}(g:kh X (compareOp op) r)(j:PE X a ta)(l:PE X b tb)(o:behindInMarks op b=false):PT X (.Compare a [op] [b] pos) (ae0 (tOp r ta tb)):=by
 intro J s U H Q I h;refine wpAny_isTrue_Compare1 (a9 (j J s U H _ I h) λv p x t C T q1=>a9 (l J p U t _ C q1) λu s2 y H2 I2 r2 q2=>
  aI (g J s2 U H2 x y v u _ I2 T r2 q2) λc s3 ⟨z,H3,I3,r3,k,e,q3⟩=>?_) o
 subst e;cases r3;exact wpAny_truthy_bool ⟨H3,I3,q3⟩
theorem iB:(sizeLine:Nat)<2 ^ 63:=by rw[sizeLine_eq];decide
theorem u9:kh X (binaryOp .Add) (λx y H Q=>∃i j,x=.str i/\y=.str j/\i.length+j.length<=sizeLine/\Q (.str (i++j)) H):=by intro J s p H x y v u Q I U g h;obtain⟨i,j,rfl,rfl,l,q⟩:=h;obtain⟨t,rfl⟩:=U;obtain⟨o,rfl⟩:=g;exact x4 I.tk (add_str (λo tk r=>⟨.str (i++j),H,I.tok _,⟨_,rfl⟩,q⟩) l)
theorem l8{x:V}(r:zq [x] us):∃u,us=[u]/\zu x u:=by cases r with|cons J U=>cases U;exact⟨_,rfl,J⟩
theorem aiw{x y:V}(r:zq [x,y] us):∃u J,us=[u,J]/\zu x u/\zu y J:=by
 cases r with
 |cons U g=>
  cases g with|cons j l=>cases l;exact⟨_,_,rfl,U,j⟩
theorem yx(hc:X.calm=true):x8 X (.builtin "max") (λxs H Q=>∃i j,xs=[.int i,.int j]/\Q (.int (if j > i then j else i)) H):=by
 intro U s g H xs l Q I r h;obtain⟨i,j,rfl,q⟩:=h;obtain⟨u,o,rfl,⟨t,rfl⟩,⟨p,rfl⟩⟩:=aiw r;refine x4 I.tk (max_two_ints (I.ok.hd hc) λC tk k T=>⟨_,H,I.kept k,?_,q⟩);by_cases J:j > i
 ·rw[AB J,AB J];exact⟨_,rfl⟩
 ·rw[AC J,AC J];exact⟨_,rfl⟩
theorem zK(hc:X.calm=true):x8 X (.builtin "min") (λxs H Q=>∃i j,xs=[.int i,.int j]/\Q (.int (if j<i then j else i)) H):=by
 intro U s g H xs l Q I r h;obtain⟨i,j,rfl,q⟩:=h;obtain⟨u,o,rfl,⟨t,rfl⟩,⟨p,rfl⟩⟩:=aiw r;refine x4 I.tk (min_two_ints (I.ok.hd hc) λC tk k T=>⟨_,H,I.kept k,?_,q⟩);by_cases J:j<i
 ·rw[AB J,AB J];exact⟨_,rfl⟩
 ·rw[AC J,AC J];exact⟨_,rfl⟩
end
structure am8(h:Heap)(x dx C:Addr)(mA:Str->Option Value):Prop where
 obj:h.get? x=some (PySem.W.instObj C dx)
 ns:h.Ns1 dx mA
 ne:dx≠x
theorem yQ(n:h.Ns1 dx mA):∃od,h.get? dx=some od/\∀name,PySem.W.lookIn name od=some (mA name):=by
 obtain⟨o,U,C,g,hd,j,_,l⟩:=n;refine⟨o,g,λname=>?_⟩;have e:=l name;unfold nsFind findBy at e;rw[<-Array.find?_toList] at e;unfold PySem.W.lookIn;rw[hd];dsimp only;split
 ·rename_i y q;rw[q] at e;exact Bt some e
 ·rename_i q;rw[q] at e;have a:U.toList.any (·.refKey)=false:=by rw[List.any_eq_false];intro y p;obtain⟨z,t,J⟩:=j y (Array.mem_toList_iff.mp p);simp[DictEntry.refKey,J]
  have r:¬U.toList.any (·.refKey)=true:=by rw[a];exact Ay
  rw[AC r];exact Bt some e
theorem am8.look{x:Addr}(I:am8 h x dx C mA):∃od,PySem.W.InstAt h x (PySem.W.instObj C dx) C (some od)/\∀name,PySem.W.lookIn name od=some (mA name):=
 let ⟨od,J,U⟩:=yQ I.ns
 ⟨od,⟨I.obj,rfl,rfl,J⟩,U⟩
section
variable {w:World}{K:Ad}{x:Addr}{v:Value}
end
theorem iI.some_of{o:Option Value}(r:iI (some v) o):∃u,o=some u/\zu v u:=by cases o with|none=>exact(show False from r).elim|some u=>exact⟨u,rfl,r⟩
abbrev EL:=@iI.some_of
section
variable {P:Program}{w:World}{fs fs':List (Str×V)}
theorem ahx(hok:dU P w H h)(e:H a=some (.ins C dx fs)):∃mA,am8 h a dx C mA/\(∀f,iI (fs.lookup f) (mA f))/\PySem.Within mA (fs.map (·.1))/\fs.length<=1000/\H dx=some (.own a):=by obtain⟨d,z,ne,ob,mA,n,r,q⟩:=(show xq P w H h a (.ins C dx fs) from hok a _ e);exact⟨mA,⟨ob,n,ne⟩,r,q,z,d⟩
end
structure Cls(K:Ad)(C:Addr):Prop where
 pg:PySem.W.plainGet K C Str.empty=true
 hd:PySem.W.hasDictIn K C=true
 po:PySem.W.plainOver K C=true
 sa:PySem.W.findIn K (.ref C) "__setattr__"=some (some (.builtin "object.__setattr__"))
theorem Cls.get{K:Ad}(c:Cls K C)(f:Str):PySem.W.plainGet K C f=true:=c.pg
section
variable {fs:List (Str×V)}{f:Str}
end
section
variable {f:Str}{tpos:Pos}{ta tv:TE}
end
section
variable {c:Value}{b:Bool}
inductive jQ(K:Ad)(H:Hp):V->Value->Prop where
 |non:jQ K H .non (.type "NoneType")
 |bl (x:Bool):jQ K H (.bl x) (.type "bool")
 |int (i:Int):jQ K H (.int i) (.type "int")
 |str (x:Str):jQ K H (.str x) (.type "str")
 |flt (x:UInt64):jQ K H (.flt x) (.type "float")
 |lst {a:Addr} {xs:List V} (e:H a=some (.lst xs)):jQ K H (.ref a) (.type "list")
 |frz {a:Addr} {o:Obj} {xs:List V} (e:H a=some (.frz o (.lst xs))):jQ K H (.ref a) (.type "list")
 |tup {a:Addr} {xs:List V} (e:H a=some (.tup xs)):jQ K H (.ref a) (.type "tuple")
 |dK {a:Addr} {kvs:List (jf×V)} (e:H a=some (.dK kvs)):jQ K H (.ref a) (.type "dict")
 |dT {a:Addr} {kvs:List (List jf×V)} (e:H a=some (.dT kvs)):jQ K H (.ref a) (.type "dict")
 |ins {a C dx:Addr} {fs:List (Str×V)} (e:H a=some (.ins C dx fs)) (cl:Cls K C) (ha:PySem.W.findIn K (.ref C) "__class__"=some (some (.builtin "object.__class__")))
  (hn:PySem.W.specialIn K (.builtin "object.__class__") "__get__"=some (some (.builtin "getset_descriptor.__get__"))) (htk:PySem.W.takesIn K (.builtin "object.__class__")=some true)
  (hm:PySem.W.mroIn K C (.type "object")=some true):jQ K H (.ref a) (.ref C)
theorem ax{x:V}{t:Value}(I:za X pins σ H s)(U:zu x u)(ty:jQ X.K H x t)(e:PySem.W.kitOne X.K t c=some b)(h:∀tk,Q (.bool b) { s with toks:=tk }):
 wpAny (model X.prog X.w) A (call (.builtin "isinstance") [u,c]) Q E s:=by
 cases ty with
 |non=>cases (show u=Value.none from U);exact Bh PySem.W.kitx_none I.kIn True.intro e (λz=>nomatch z) h
 |bl y=>cases (show u=Value.bool y from U);exact Bh PySem.W.kitx_bool I.kIn True.intro e (λz=>nomatch z) h
 |int i=>obtain⟨t,q⟩:=(show ∃t,u=Value.int i t from U);cases q;exact Bh PySem.W.kitx_int I.kIn True.intro e (λz=>nomatch z) h
 |str y=>obtain⟨t,q⟩:=(show ∃t,u=Value.str y t from U);cases q;exact Bh PySem.W.kitx_str I.kIn True.intro e (λz=>nomatch z) h
 |flt y=>obtain⟨t,q⟩:=(show ∃t,u=Value.float y t from U);cases q;exact Bh PySem.W.kitx_float I.kIn True.intro e (λz=>nomatch z) h
 |@lst a l g=>
  cases (show u=Value.ref a from U);obtain⟨_,_,n,_,h1⟩:=(show xq X.prog X.w H s.heap a (.lst l) from I.hok a _ g);exact Bh Dr I.kIn ⟨_,h1,rfl⟩ e (λz=>nomatch z) h
 |@frz a ob l g=>
  cases (show u=Value.ref a from U);obtain⟨_,_,_,n,_,h1⟩:=(show xq X.prog X.w H s.heap a (.frz ob (.lst l)) from I.hok a _ g);exact Bh Dr I.kIn ⟨_,h1,rfl⟩ e (λz=>nomatch z) h
 |@tup a l g=>
  cases (show u=Value.ref a from U);obtain⟨_,_,_,p⟩:=(show xq X.prog X.w H s.heap a (.tup l) from I.hok a _ g);obtain⟨o,h1,h2,_⟩:=p;exact Bh PySem.W.kitx_tuple I.kIn ⟨o,h1,h2⟩ e (λz=>nomatch z) h
 |@dK a j g=>
  cases (show u=Value.ref a from U);obtain⟨_,_,vs,_,p⟩:=(show xq X.prog X.w H s.heap a (.dK j) from I.hok a _ g);obtain⟨o,T,ep,h1,h2,_⟩:=p;exact Bh PySem.W.kitx_dict I.kIn ⟨o,h1,h2.1⟩ e (λz=>nomatch z) h
 |@dT a j g=>
  cases (show u=Value.ref a from U);obtain⟨_,_,l,_,o,T,ep,h1,h2,_⟩:=(show xq X.prog X.w H s.heap a (.dT j) from I.hok a _ g);exact Bh PySem.W.kitx_dict I.kIn ⟨o,h1,h2.1⟩ e (λz=>nomatch z) h
 |@ins a C dx fs g cl ha hn r hm=>
  cases (show u=Value.ref a from U);obtain⟨mA,O,_⟩:=ahx I.hok g;obtain⟨od,J,_⟩:=O.look;exact Bh (PySem.W.kitx_own (cl.get _) cl.hd ha hn r hm) I.kIn J e (λz=>nomatch z) h
end
structure wb(k:Nat)(A:Around):Prop where
 hd:A.handled=none
 dp:A.depth+3*k+5<recursionLimit
 un:A.units+16*k+200<cLine
theorem wb.mono{k:Nat}(r:wb k A)(h:j<=k):wb j A:=⟨r.hd,by have:=r.dp;lia,by have:=r.un;lia⟩
theorem wb.deeper{k:Nat}(r:wb (k+1) A)(env:Env):wb k (A.deeper env):=
 ⟨r.hd,by have:=r.dp;show A.depth+1+3*k+5<_;lia,by have:=r.un;show A.units+3+16*k+200<_;lia⟩
theorem wb.depth{k:Nat}(r:wb k A):A.depth<recursionLimit:=by have:=r.dp;lia
def aqm:TA:=λ_ H Q=>Q [] H
def aox(ta:TE)(tr:TA):TA:=λσ H Q=>ta σ H λx H1=>tr σ H1 λxs H2=>Q (x::xs) H2
section
variable {te:TE}{t:TA}
theorem dD:PA X [] aqm:=λ_ _ _ _ H Q I h=>Eo ⟨[],H,I,.nil,h⟩
abbrev Eb(e:Expr)(es:List Expr)(X:Cx):Prop:=starEach (e::es) X.env=(false,eval e X.env)::starEach es X.env
theorem wn(g:PE X e te)(j:PA X es t)(hs:Eb e es X:=by rfl):PA X (e::es) (aox te t):=by intro pos J s U H Q I h;rw[hs];show wpAny _ _ (spliced ((false,eval e X.env)::backTo pos (starEach es X.env))) _ _ s;refine El (a9 (g J s U H _ I h) λu l x o p r C=>?_);exact yi (j pos J l U o _ p C) λus s2 T H2 I2 r2 q2=>⟨x::T,H2,I2,.cons r r2,q2⟩
def atd(t:TA):TE:=λσ H Q=>t σ H λxs H1=>xs.length<=sizeLine/\∀p,H1 p=none->Q (.ref p) (upd H1 p (.tup xs))
def aqf(t:TA):TE:=λσ H Q=>t σ H λxs H1=>xs.length<=sizeLine/\∀p,H1 p=none->Q (.ref p) (upd H1 p (.lst xs))
theorem acw{x1}(h:PA X es t):PE X (.Tuple es x1 pos) (atd t):=by intro J s l H Q I o;refine wpAny_Tuple_spliced (aI (h pos J s l H _ I o) λp U ⟨C,g,j,r,z,q⟩=>⟨by rw[<-r.length];exact z,?_⟩);have T:g U.heap.objs.size=none:=j.hok.fresh (Aj _);refine⟨.ref U.heap.objs.size,upd g U.heap.objs.size (.tup C),j.laid (t':=U.toks) (λb u e=>As _ e) (Aj _) ?_,rfl,q _ T⟩;exact⟨z,p,r,⟨_,Db _ rfl,rfl,_,rfl⟩⟩
theorem acy(h:PA X es t):PE X (.List es pos) (aqf t):=by intro J s l H Q I o;refine wpAny_List_spliced (aI (h pos J s l H _ I o) λp U ⟨C,g,j,r,z,q⟩=>⟨by rw[<-r.length];exact z,?_⟩);have T:g U.heap.objs.size=none:=j.hok.fresh (Aj _);refine⟨.ref U.heap.objs.size,upd g U.heap.objs.size (.lst C),j.laid (t':=U.toks) (λb u e=>As _ e) (Aj _) ?_,rfl,q _ T⟩;exact⟨z,p,0,r,Db _ rfl⟩
end
abbrev Sp:=List V->Hp->VK->XK->Prop
abbrev wJ:=List Env->Hp->Shared->XK->Value->Shared->Prop
structure af9(P:Program)(w:World)(K:Ad)(mg:Str->Option Value)(base:Heap)(A:Around)(outer:List Env)(s:Shared)(H:Hp):Prop where
 frames:A.frames=some outer
 mod:Mod K mg base
 bs:∀b o,base.get? b=some o->s.heap.get? b=some o/\H b=none
 bsz:base.objs.size<=s.heap.objs.size
 funs:s.heap.FunFrames base outer
 frf:∀b∈bK outer,H b=none
 hok:dU P w H s.heap
 bare:AllBare s.gens
 tk:0<s.toks
def CE(outer:List Env)(P:Program)(w:World)(H:Hp)(s:Shared)(Q:VK)(u:Value)(s':Shared):Prop:=
 ∃v H',s'.os=s.os/\AllBare s'.gens/\Un (bK outer) [] H H' s.heap s'.heap/\dU P w H' s'.heap/\zu v u/\Q v H'/\0<s'.toks
def CR(CX:wJ)(outer:List Env)(P:Program)(w:World)(H:Hp)(s:Shared)(Q:VK)(E:XK)(r:Result)(s':Shared):Prop:=
 match r with
 |.ok (.ret u)=>CE outer P w H s Q u s'
 |.ok _=>False
 |.error e=>CX outer H s E e s'
structure bA(P:Program)(w:World)(K:Ad)(mg:Str->Option Value)(base:Heap)(CX:wJ)(k:Nat)(f:Addr)(fd:FuncData)(ps:List Str)(sp:Sp):Prop where
 len:∀vs H Q E,sp vs H Q E->vs.length=ps.length
 run:∀(A:Around) (outer:List Env) (s:Shared) (H:Hp) (args:Args) (us:List Value) (vs:List V) (Q:VK) (E:XK),wb k A->af9 P w K mg base A outer s H->BindsTo s fd args (ps.zip us)->zq vs us->sp vs H Q E->
  codeAny (model P w) A (.call (.ref f) args) (CR CX outer P w H s Q E) s
theorem bA.mono{P:Program}{w:World}{K:Ad}{CX:wJ}{k:Nat}{sp:Sp}(F:bA P w K mg base CX j f fd ps sp)(h:j<=k):
 bA P w K mg base CX k f fd ps sp:=⟨F.len,λA J s H args U g Q E l=>F.run A J s H args U g Q E (l.mono h)⟩
theorem bA.imp{P:Program}{w:World}{K:Ad}{CX:wJ}{k:Nat}{sp U:Sp}(F:bA P w K mg base CX k f fd ps sp)
 (h:∀vs H Q E,U vs H Q E->sp vs H Q E):bA P w K mg base CX k f fd ps U:=
 ⟨λvs H Q E q=>F.len vs H Q E (h _ _ _ _ q),λA J s H args g vs Q E j l o p r=>F.run A J s H args g vs Q E j l o p (h _ _ _ _ r)⟩
theorem za.env0(I:za X pins σ H s):af9 X.prog X.w X.K X.mg X.base X.A X.stack s H:=
 ⟨I.ok.frames,I.ok.mod,I.bs,AM I.ok.bsz I.sz,I.stack,I.stkFree,I.hok,I.bare,I.tk⟩
theorem za.after{Q:VK}(I:za X pins σ H s)(h:CE X.stack X.prog X.w H s Q u s'):EP X pins σ Q u s':=by obtain⟨v,j,os,bare,un,J,r,q,o⟩:=h;obtain⟨l,g,d,t,U⟩:=s';obtain rfl:U=s.os:=os;exact⟨v,j,I.call (h':=l) (g':=g) (d':=d) (t':=t) (ch:=[]) un J bare (λb z=>absurd z (by simp)),r,q⟩
def ail(sp:Sp)(xT:List V)(E:XK)(t:TA):TE:=λσ H Q=>t σ H λvs H1=>sp (vs++xT) H1 Q E
def dM(K:Ad)(fd:FuncData)(ps:List Str)(ds:List Value):Prop:=
 ∀(s:Shared) (us:List Value),K.In s.heap->(us++ds).length=ps.length->BindsTo s fd ⟨us,[]⟩ (ps.zip (us++ds))
theorem dM.all{K:Ad}(h:∀us:List Value,us.length=ps.length->bindArgs fd ⟨us,[]⟩=pure (ps.zip us)):dM K fd ps []:=λs us _ J=>by rw[AX] at J ⊢;exact .of_eq (h us J)
def uF(CX:wJ)(X:Cx)(E:XK):Prop:=∀(pins:List (Addr×Obj)) (σ:St) (H:Hp) (s:Shared) (e:Value) (s':Shared),za X pins σ H s->CX X.stack H s E e s'->X.xe e s'
section
variable {CX:wJ}{k:Nat}{sp:Sp}{xT:List V}{ds:List Value}{E:XK}{m:Str}{ta:TE}{t:TA}
theorem ak9{Q:VK}(F:bA X.prog X.w X.K X.mg X.base CX k f fd ps sp)(g:wb k X.A)(j:dM X.K fd ps ds)(hd:zq xT ds)(l:uF CX X E)
 (I:za X pins σ H s) (r:zq vs us) (h:sp (vs++xT) H Q E):wpAny (model X.prog X.w) X.A (call (.ref f) us) (EP X pins σ Q) X.xe s:=by
 have U:zq (vs++xT) (us++ds):=r.append hd;have o:(us++ds).length=ps.length:=by rw[<-U.length];exact F.len _ _ _ _ h
 refine wpAny_call (codeAny_mono (F.run X.A X.stack s H ⟨us,[]⟩ (us++ds) (vs++xT) Q E g I.env0 (j s us I.kIn o) U h) λr p J=>?_);cases r with
 |error e=>exact l pins σ H s e p I J
 |ok t=>
  cases t with|ret u=>exact I.after J|next=>exact False.elim J|brk=>exact False.elim J|cont=>exact False.elim J
abbrev Ec(p:Pos)(es:List Expr)(X:Cx):Prop:=(backTo p (starEach es X.env)).any (·.1)=false
theorem afg(F:bA X.prog X.w X.K X.mg X.base CX k f fd ps sp)(l:wb k X.A)(o:Gl X x)(C:X.mg x=some (.ref f))(T:PySem.W.keepIn X.K (.ref f)=true)(hb:dM X.K fd ps ds)(hd:zq xT ds)(hx:uF CX X E)
 (ha:PA X (e::es) t) (U:Ed x:=by decide) (he:Eb e es X:=by rfl) (g:Ec pos es X:=by rfl):
 PE X (.Call (.Name x p) (e::es) [] pos) (ail sp xT E t):=by
 intro J s σ H Q I h;refine wpAny_Call_Name_kw (eh I o C ?_ U);refine PySem.W.callWith_K (h₀:=X.base) I.ok.mod.kin T (yi (ha pos J s σ H _ I h) λus s1 vs H1 j r q=>⟨j.kIn,?_⟩) he g;exact ak9 F l hb hd hx j r q
end
section
variable {CX:wJ}{k:Nat}{ks:List Str}{sp:Sp}{E:XK}{m:Str}{kws:List Keyword}{te ta:TE}{t tk:TA}{nm:Option Str}
variable {g:List Value->List Value->List Value}{gV:List V->List V->List V}
end
structure aG(N P:List Str)(sc:Scope):Prop where
 kind:sc.kind=.function
 co:sc.isCoroutine=false
 gen:sc.isGenerator=false
 nd:N.Nodup
 pre:N.take P.length=P
 par:∀x∈P,sc.names.lookup x=some .local\/sc.names.lookup x=some .cell
 nofree:∀y∈sc.names,y.2≠.free
theorem oF{kindOf:Str->Option NameKind}{x:Str}:∀{J:List (Str×Value)} {m:Str->Option Value},(∀v,(x,v)∉J)->bindL kindOf J m x=m x
 |[],_,_=>rfl
 |(n,v)::r,m,h=>by
  unfold bindL;rw[oF λw hw=>h w (Ae _ hw)];split
  ·have:x≠n:=by rintro rfl;exact h v Ak
   simp[this]
  ·rfl
theorem oY{kindOf:Str->Option NameKind}{x:Str}:∀{J:List (Str×Value)} {m:Str->Option Value},(∀v,(x,v)∉J)->bindC kindOf J m x=m x
 |[],_,_=>rfl
 |(n,v)::r,m,h=>by
  unfold bindC;rw[oY λw hw=>h w (Ae _ hw)];split
  ·rfl
  ·have:x≠n:=by rintro rfl;exact h v Ak
   simp[this]
theorem oV{kindOf:Str->Option NameKind}{x:Str}{v:Value}:∀{P:List Str} {vs:List Value} {i:Nat} {m:Str->Option Value},P.Nodup->P[i]?=some x->vs[i]?=some v->kindOf x=some .local->
 bindL kindOf (P.zip vs) m x=some v
 |[],_,_,_,_,h,_,_=>by simp at h
 |_::_,[],_,_,_,_,h,_=>by simp at h
 |p::P,w::vs,0,m,nd,h1,h2,J=>by simp at h1 h2;subst h1;subst h2;show bindL kindOf ((p,w)::P.zip vs) m p=_;unfold bindL;rw[oF λv U=>(AA.mp nd).1 (C5 U).1,AB J];simp
 |p::P,w::vs,i+1,m,nd,h1,h2,J=>by show bindL kindOf ((p,w)::P.zip vs) m x=_;unfold bindL;exact oV (i:=i) (AA.mp nd).2 (by simpa using h1) (by simpa using h2) J
theorem oC{kindOf:Str->Option NameKind}{x:Str}{v:Value}:∀{P:List Str} {vs:List Value} {i:Nat} {m:Str->Option Value},P.Nodup->P[i]?=some x->vs[i]?=some v->kindOf x≠some .local->
 bindC kindOf (P.zip vs) m x=some v
 |[],_,_,_,_,h,_,_=>by simp at h
 |_::_,[],_,_,_,_,h,_=>by simp at h
 |p::P,w::vs,0,m,nd,h1,h2,J=>by simp at h1 h2;subst h1;subst h2;show bindC kindOf ((p,w)::P.zip vs) m p=_;unfold bindC;rw[oY λv U=>(AA.mp nd).1 (C5 U).1,AC J];simp
 |p::P,w::vs,i+1,m,nd,h1,h2,J=>by show bindC kindOf ((p,w)::P.zip vs) m x=_;unfold bindC;exact oC (i:=i) (AA.mp nd).2 (by simpa using h1) (by simpa using h2) J
def start(N:List Str)(vs:List V):St:=vs.map some++List.replicate (N.length-vs.length) none
def cn(CX:wJ)(P:Program)(w:World)(K:Ad)(mg:Str->Option Value)(base:Heap)(N:List Str)(eK:Str)(scope:Scope)(f:Addr)(cd:Value)(A:Around)(outer:List Env)(s:Shared)(H:Hp)(E:XK):Cx where
 prog:=P
 w:=w
 K:=K
 mg:=mg
 base:=base
 A:=A.deeper (envOfC eK scope s.heap.objs.size f cd)
 N:=N
 s₀:=s
 H₀:=H
 env:=envOfC eK scope s.heap.objs.size f cd
 outer:=outer
 stack:=envOfC eK scope s.heap.objs.size f cd::outer
 ex:=[]
 calm:=true
 fn:=λ_=>true
 pn:=[]
 xe:=λe s'=>wpAny (model P w) (A.deeper (envOfC eK scope s.heap.objs.size f cd)) (leaving (envOfC eK scope s.heap.objs.size f cd) e) (λ_ J=>CX outer H s E e J) (λU J=>CX outer H s E U J) s'
theorem ss{J:Scope}(h:J.names.lookup x=some .cell):∃c,(cellsFrom n J.names []).lookup x=some c:=by have q:=DG J.names n [] (.inl h);exact Option.isSome_iff_exists.mp q
theorem yU{CX:wJ}{P:Program}{w:World}{K:Ad}{N:List Str}{t:Shared}{E:XK}
 (S:aG N ps scope) (hd:A.handled=none) (J:af9 P w K mg base A outer s H) (hl:vs.length=ps.length) (r:zq vs us)
 (x:InCallC s s.heap.objs.size (bindL (envOfC eK scope s.heap.objs.size f cd).kindOf (ps.zip us) λ_=>none) (cellsFrom (s.heap.objs.size+1) scope.names []) (bindC (envOfC eK scope s.heap.objs.size f cd).kindOf (ps.zip us) λ_=>none) t) (T:0<t.toks):
 za (cn CX P w K mg base N eK scope f cd A outer s H E) [] (start N vs) H t:=by
 have a1:ps.length<=N.length:=by have:=Bt List.length S.pre;rw[A3] at this;lia
 obtain⟨h1,tk,rfl,C⟩:=x.done;have U:∀b:Addr,b∉(cn CX P w K mg base N eK scope f cd A outer s H E).ex:=λb z=>absurd (show b∈([]:List Addr) from z) (by simp);refine⟨⟨J.mod,S.kind,rfl,rfl,Aj _,λy z c h1 h2=>?_,λy g=>?_,λy c _ h=>?_,λ_=>hd,Around.frames_deeper J.frames,.inr ⟨rfl,rfl⟩,λb z=>absurd z (U b),J.bs,J.bsz,λb _ _=>U b,λb z=>absurd z (U b),J.funs,J.frf⟩,
  rfl,J.bare,Un.kept C,⟨_,x.toInCall.ns,λi y v h1 h2 h3=>?_⟩,λy c h=>⟨_,x.cell y c h⟩,J.hok.fresh (Aj _),λy c h=>?_,λp j=>absurd (show p∈([]:List (Addr×Obj)) from j) (by simp),J.hok.kept C,?_,T⟩
 ·exact name_of_addr x.apart (Bs h1) (Bs h2)
 ·have g:scope.names.lookup y=some .cell\/scope.names.lookup y=some .free:=g;rcases g with g|g
  ·exact ss g
  ·exact absurd rfl (S.nofree _ (Bs g))
 ·exact Bi (x.above y c (Bs h))
 ·have o:i<vs.length:=by
   unfold start at h2;by_cases o:i<vs.length
   ·exact o
   ·rw[Aw (by simpa using o)] at h2;rw[CK] at h2;split at h2<;>cases h2
  have ha:vs[i]?=some v:=by unfold start at h2;rw[AG (by simpa using o),An] at h2;cases e:vs[i]? with|none=>rw[e] at h2;cases h2|some a=>rw[e] at h2;cases h2;rfl
  obtain⟨u,I,rv⟩:=r.get ha;have j:ps[i]?=some y:=by rw[<-S.pre,Dv (by lia)];exact h1
  have l:ps.Nodup:=by rw[<-S.pre];exact S.nd.sublist (List.take_sublist _ _)
  refine⟨u,rv,?_⟩;rcases S.par y (AD j) with k|k
  ·exact .inl ⟨k,oV l j I k⟩
  ·obtain⟨c,e⟩:=ss (n:=s.heap.objs.size+1) k;refine .inr ⟨.inl k,c,e,?_⟩;have q:=x.cell y c e;rw[oC l j I (by show scope.names.lookup y≠_;rw[k];decide)] at q;exact q
 ·exact J.hok.fresh (Bi (x.above y c (Bs h)))
 ·unfold start;show _=N.length;rw[Ac,Ab,BQ];lia
theorem aby{CX:wJ}{P:Program}{w:World}{K:Ad}{k:Nat}{U:Arguments}{dV kV:Value}
 {N:List Str} {sp:Sp} (lk:K.lookup f=some ⟨oc,od,.func (PySem.W.fnOf name eK U body scope dV kV gh pm an fm ct),sy⟩) (a1:PySem.W.codeIn K fm eK=true) (S:aG N ps scope)
 (len:∀vs H Q E,sp vs H Q E->vs.length=ps.length)
 (j:∀(A:Around) (outer:List Env) (s:Shared) (H:Hp) (vs:List V) (Q:VK) (E:XK),wb k (A.deeper (envOfC eK scope s.heap.objs.size f fm))->sp vs H Q E->
  ∃t,fN (cn CX P w K mg base N eK scope f fm A outer s H E) body t/\t { nx:=λ_ H'=>Q .non H',rt:=Q } (start N vs) H):
 bA P w K mg base CX (k+1) f (PySem.W.fnOf name eK U body scope dV kV gh pm an fm ct) ps sp:=by
 refine⟨len,λA outer s H args us vs Q E hr p hb r T=>?_⟩;have hl:=len _ _ _ _ T;have KX:K.In s.heap:=p.mod.kin.keeps λb o e=>(p.bs b o e).1;have a2:s.heap.NoLimit:=p.mod.nolimit.keeps λb o e=>(p.bs b o e).1;have l:∀y∈ps.zip us,scope.names.lookup y.1=some .local\/(scope.names.lookup y.1=some .cell/\((cellsFrom (s.heap.objs.size+1) scope.names []).lookup y.1).isSome=true):=λ⟨n,v⟩ hy=>by
  rcases S.par n (C5 hy).1 with q|q
  ·exact .inl q
  ·exact .inr ⟨q,DG _ _ _ (.inl q)⟩
 refine codeAny_call_function hr.depth (KX _ _ lk) rfl S.co S.gen rfl (PySem.W.codeRec_of KX a1) (hb _ _ _ _ ?_);refine x4 p.tk (wpAny_newFunctionEnv_cells S.kind l λa4 he s1 x a3=>?_);subst he;refine⟨a2.keeps x.toInCall.keep,codeAny_func ?_⟩;obtain⟨t,ht,hq⟩:=j A outer s H vs Q E (hr.deeper _) T;have I:za (cn CX P w K mg base N eK scope f fm A outer s H E) [] (start N vs) H s1:=yU S hr.hd p hl r x a3;refine AO (ht [] s1 (start N vs) H _ I hq) (λfl s' C=>?_) λe s' C=>C;have jw:∀{g:St} {H':Hp} {v:V} {u:Value},za (cn CX P w K mg base N eK scope f fm A outer s H E) [] g H' s'->zu v u->Q v H'->CE outer P w H s Q u s':=
  λ{g H' v u} J rv q=>⟨v,H',J.os,J.bare,J.base,J.hok,rv,q,J.tk⟩
 cases fl with
 |ret u=>
  obtain⟨v,g,H',J,rv,q⟩:=C;exact jw J rv q
 |next=>
  obtain⟨g,H',J,q⟩:=C;exact jw (v:=V.non) (u:=Value.none) J rfl q
 |brk=>
  obtain⟨_,_,_,q⟩:=C;exact False.elim q
 |cont=>
  obtain⟨_,_,_,q⟩:=C;exact False.elim q
end L2
variable {sp:L2.Sp}
namespace L2
open PySem PySem.Spec PyProof.Rows
section
variable {t:TA}{id T:String}{r:List V->Hp->VK->Prop}
def tCB(r:List V->Hp->VK->Prop)(t:TA):TE:=λσ H Q=>t σ H λvs H1=>r vs H1 Q
theorem gT(hc:x8 X (.builtin id) r)(l:Gl X x)(o:X.mg x=none)(C:bootBuiltins x=some (.builtin id))(T:PA X (e::es) t)(hn:x ≠ "__name__" := by decide)(U:Ed x:=by decide)
 (he:Eb e es X:=by rfl) (g:Ec pos es X:=by rfl):PE X (.Call (.Name x p) (e::es) [] pos) (tCB r t):=by
 intro J s j H Q I h;refine wpAny_Call_Name_kw (ck I l o C ?_ hn U);exact PyProof.Rows.callWith_builtin1 (yi (T pos J s j H _ I h) λus s1 vs H1 I1 r1 q1=>hc J s1 j H1 vs us Q I1 r1 q1) he g
theorem hY(hc:x8 X (.type T) r)(l:Gl X x)(o:X.mg x=none)(C:bootBuiltins x=some (.type T))(ha:PA X (e::es) t)(hn:x ≠ "__name__" := by decide)(U:Ed x:=by decide)
 (he:Eb e es X:=by rfl) (g:Ec pos es X:=by rfl):PE X (.Call (.Name x p) (e::es) [] pos) (tCB r t):=by
 intro J s j H Q I h;refine wpAny_Call_Name_kw (ck I l o C ?_ hn U);exact BL (yi (ha pos J s j H _ I h) λus s1 vs H1 I1 r1 q1=>hc J s1 j H1 vs us Q I1 r1 q1) he g
end
section
variable [DecidableEq κ]
def ao(kvs:List (κ×V))(k:κ):Option V:=(kvs.find? λJ=>decide (J.1=k)).map (·.2)
def eF(kvs:List (κ×V))(k:κ)(v:V):List (κ×V):=
 if (kvs.any λJ=>decide (J.1=k))=true then kvs.map (λJ=>if J.1=k then(J.1,v) else J) else kvs++[(k,v)]
theorem lG{p:κ×V}{r:List (κ×V)}{k:κ}(e:p.1=k):ao (p::r) k=some p.2:=by simp[ao,Bk,e]
theorem lC{p:κ×V}{r:List (κ×V)}{k:κ}(e:¬p.1=k):ao (p::r) k=ao r k:=by simp[ao,Bk,e]
theorem sM(k:κ):∀kvs:List (κ×V),(kvs.any λJ=>decide (J.1=k))=(ao kvs k).isSome
 |[]=>rfl
 |p::r=>by
  rw[BY];by_cases e:p.1=k
  ·simp only[lG e,AE e,Bool.true_or,Di]
  ·rw[lC e,Au e,Bool.false_or];exact sM k r
theorem dz(kvs:List (κ×V))(k:κ)(v:V):(eF kvs k v).length<=kvs.length+1:=by
 unfold eF;split
 ·rw[Ab];lia
 ·rw[Ac,AJ,List.length_nil];lia
theorem iI.isSome_eq{o:Option V}{u:Option Value}(r:iI o u):o.isSome=u.isSome:=by
 cases o with
 |none=>cases u with|none=>rfl|some _=>exact(show False from r).elim
 |some _=>cases u with|none=>exact(show False from r).elim|some _=>rfl
theorem KV.val{kvs:List (κ×V)}{vs:List (κ×Value)}(r:KV kvs vs)(k:κ):iI (ao kvs k) (valueAt vs k):=by
 unfold KV at r
 induction r with
 |nil=>exact True.intro
 |@cons p q j J h t g=>
  obtain⟨h1,h2⟩:=h;by_cases e:p.1=k
  ·have U:q.1=k:=h1.symm.trans e;have b:valueAt (q::J) k=some q.2:=by simp[valueAt,Bk,U]
   rw[lG e,b];exact h2
  ·have U:¬q.1=k:=λz=>e (h1.trans z);have b:valueAt (q::J) k=valueAt J k:=by simp[valueAt,Bk,U]
   rw[lC e,b];exact g
theorem KV.any{kvs:List (κ×V)}{vs:List (κ×Value)}(r:KV kvs vs)(k:κ):(kvs.any λJ=>decide (J.1=k))=vs.any λJ=>decide (J.1=k):=by
 unfold KV at r
 induction r with|nil=>rfl|cons h t U=>rw[BY,BY,U,h.1]
theorem KV.repl{kvs:List (κ×V)}{vs:List (κ×Value)}(r:KV kvs vs)(k:κ){y:V}(U:zu y u):
 KV (kvs.map λJ=>if J.1=k then(J.1,y) else J) (vs.map λJ=>if J.1=k then(J.1,u) else J):=by
 unfold KV at r ⊢
 induction r with
 |nil=>exact .nil
 |@cons p q j l h t g=>
  rw[AK,AK];refine .cons ?_ g;obtain⟨h1,h2⟩:=h;by_cases e:p.1=k
  ·rw[AB e,AB (h1.symm.trans e)];exact⟨h1,U⟩
  ·rw[AC e,AC (λz=>e (h1.trans z))];exact⟨h1,h2⟩
theorem KV.put{kvs:List (κ×V)}{vs:List (κ×Value)}(r:KV kvs vs)(k:κ){y:V}(J:zu y u):KV (eF kvs k y) (stored vs k u):=by
 unfold eF stored;rw[r.any k];by_cases e:(vs.any λU=>decide (U.1=k))=true
 ·rw[AB e,AB e];exact r.repl k J
 ·rw[AC e,AC e];exact Paired.snoc r ⟨rfl,J⟩
theorem KV.length{kvs:List (κ×V)}{vs:List (κ×Value)}(r:KV kvs vs):kvs.length=vs.length:=Paired.length r
end
theorem im{P:Program}{w:World}{k:jf}(r:zu (kV k) u):(v9 P w).is k u=true:=by
 cases k with
 |inl i=>obtain⟨t,e⟩:=(show ∃t,u=Value.int i t from r);subst e;exact rZ P w i t
 |inr x=>obtain⟨t,e⟩:=(show ∃t,u=Value.str x t from r);subst e;exact rS P w x t
theorem oR{P:Program}{w:World}:∀{ks:List jf} {us:List Value},zq (ks.map kV) us->ItemsAre (v9 P w) ks us
 |[],_,r=>by rw[CQ] at r;cases r;exact .nil
 |k::ks,_,r=>by rw[AK] at r;cases r with|cons h t=>exact .cons (im h) (oR t)
abbrev KT(H:Hp):List (List jf×V)->List (List jf×Addr×Value)->Prop:=Paired λp q=>p.1=q.1/\H q.2.1=some (.tup (p.1.map kV))/\zu p.2 q.2.2
theorem KT.val{kvs:List (List jf×V)}{xs:List (List jf×Addr×Value)}(r:KT H kvs xs)(k:List jf):iI (ao kvs k) ((atKey xs k).map (·.2)):=by
 induction r with
 |nil=>exact True.intro
 |@cons p q j J h t g=>
  obtain⟨h1,_,h2⟩:=h;by_cases e:p.1=k
  ·have U:q.1=k:=h1.symm.trans e;have b:atKey (q::J) k=some q.2:=by simp[atKey,Bk,U]
   rw[lG e,b];exact h2
  ·have U:¬q.1=k:=λz=>e (h1.trans z);have b:atKey (q::J) k=atKey J k:=by simp[atKey,Bk,U]
   rw[lC e,b];exact g
theorem KT.repl{kvs:List (List jf×V)}{xs:List (List jf×Addr×Value)}(r:KT H kvs xs)(k:List jf){y:V}(U:zu y u):
 KT H (kvs.map λJ=>if J.1=k then(J.1,y) else J) (xs.map (putAt k u)):=by
 induction r with
 |nil=>exact .nil
 |@cons p q j l h t g=>
  rw[AK,AK];refine .cons ?_ g;obtain⟨h1,h2,h3⟩:=h;unfold putAt;by_cases e:p.1=k
  ·rw[AB e,AB (h1.symm.trans e)];exact⟨h1,h2,U⟩
  ·rw[AC e,AC (λz=>e (h1.trans z))];exact⟨h1,h2,h3⟩
theorem KT.put{kvs:List (List jf×V)}{xs:List (List jf×Addr×Value)}(r:KT H kvs xs)(k:List jf){y:V}(U:H b=some (.tup (k.map kV)))(J:zu y u):
 KT H (eF kvs k y) (storedH xs k b u):=by
 have e:(kvs.any λg=>decide (g.1=k))=(atKey xs k).isSome:=by rw[sM,(r.val k).isSome_eq,Cr]
 unfold eF storedH;rw[e];by_cases q:(atKey xs k).isSome=true
 ·rw[AB q,AB q];exact r.repl k J
 ·rw[AC q,AC q];exact Paired.snoc r ⟨rfl,U,J⟩
theorem KT.keeps{kvs:List (List jf×V)}{xs:List (List jf×Addr×Value)}(r:KT H kvs xs)(J:∀b ys,H b=some (.tup ys)->H' b=some (.tup ys)):KT H' kvs xs:=
 DX r λ_ _ z=>⟨z.1,J _ _ z.2.1,z.2.2⟩
section
variable {P:Program}{w:World}
theorem aii{u:HO}(ok:dU P w H h)(e:Rd H a u):xq P w H h a u:=e.ok ok
theorem oS{kvs:List (jf×V)}(ok:dU P w H h)(e:Rd H a (.dK kvs)):kvs.length<=sizeLine/\(a==sysModules)=false/\∃vs,KV kvs vs/\h.DictOf (v9 P w) a vs:=
 show xq P w H h a (.dK kvs) from aii ok e
theorem aia{kvs:List (jf×V)}(ok:dU P w H h)(e:H a=some (.dK kvs)):kvs.length<=sizeLine/\(a==sysModules)=false/\∃vs,KV kvs vs/\h.DictOf (v9 P w) a vs:=oS ok (.inl e)
theorem lv{ks:List jf}(ok:dU P w H h)(e:H a=some (.tup (ks.map kV))):(tupleKind (v9 P w)).is h ks a:=by obtain⟨_,J,r,o,h1,h2,n,h3⟩:=(show xq P w H h a (.tup (ks.map kV)) from ok a _ e);exact⟨o,J.toArray,n,h1,h2,h3,by simpa using oR r⟩
theorem rN{kvs:List (List jf×V)}(ok:dU P w H h)(e:Rd H a (.dT kvs)):kvs.length<=sizeLine/\(a==sysModules)=false/\
 ∃xs,KT H kvs xs/\h.DictOfH (tupleKind (v9 P w)) a xs:=by
 obtain⟨z,y,xs,r,o,g,j,h1,h2,h3,C,I⟩:=(show xq P w H h a (.dT kvs) from aii ok e);refine⟨z,y,xs,r,o,g,j,h1,h2,h3,C,λx J=>?_,I⟩;have all:∀{l:List (List jf×V)} {m:List (List jf×Addr×Value)},KT H l m->∀x∈m,(tupleKind (v9 P w)).is h x.1 x.2.1:=by
  intro l m q
  induction q with
  |nil=>intro x J;exact nomatch J
  |@cons p q ps qs U t T=>
   intro x J;rcases Ao.mp J with e|J
   ·subst e;exact lv ok (by rw[<-U.1];exact U.2.1)
   ·exact T x J
 exact all r x J
theorem aow{kvs:List (List jf×V)}(ok:dU P w H h)(e:H a=some (.dT kvs)):kvs.length<=sizeLine/\(a==sysModules)=false/\
 ∃xs,KT H kvs xs/\h.DictOfH (tupleKind (v9 P w)) a xs:=rN ok (.inl e)
end
def qP(H:Hp)(a:Addr)(y:V)(r:Option V):Prop:=
 (∃kvs k,Rd H a (.dK kvs)/\y=kV k/\r=ao kvs k)\/∃kvs k b,Rd H a (.dT kvs)/\y=.ref b/\H b=some (.tup (k.map kV))/\r=ao kvs k
def anq(H:Hp)(a:Addr)(y v:V)(H':Hp):Prop:=
 (∃kvs k,H a=some (.dK kvs)/\y=kV k/\kvs.length<sizeLine/\H'=upd H a (.dK (eF kvs k v)))\/
 ∃kvs k b,H a=some (.dT kvs)/\y=.ref b/\H b=some (.tup (k.map kV))/\kvs.length<sizeLine/\H'=upd H a (.dT (eF kvs k v))
theorem qP.k{kvs:List (jf×V)}{k:jf}(e:H a=some (.dK kvs)):qP H a (kV k) (ao kvs k):=.inl ⟨kvs,k,.inl e,rfl,rfl⟩
section
variable {y:V}{r:Value}{o:Option V}
theorem za.big(I:za X pins σ H s):sysModules<s.heap.objs.size:=by have h:mainGlobals<s.heap.objs.size:=(I.mod.glob.keeps I.bk).lt;exact Nat.lt_trans (by decide) h
theorem zO(hu:A.units+1<cLine)(I:za X pins σ H s)(g:qP H a y (some v))(T:zu y u)(h:∀U s',za X pins σ H s'->zu v U->Q U s'):
 wpAny (model X.prog X.w) A (getItem (.ref a) u) Q E s:=by
 rcases g with⟨j,k,e,r,l⟩|⟨j,k,b,e,r,eb,l⟩
 ·subst r;obtain⟨z,hd,vs,rel,t⟩:=oS I.hok e;obtain⟨U,hw,J⟩:=EL (v:=v) (o:=valueAt vs k) (by rw[l];exact rel.val k);exact wpAny_getItem_of (im T) t.mapOf hw (h U _ (I.tok _) J)
 ·subst r;cases (show u=Value.ref b from T);obtain⟨z,hd,xs,rel,t⟩:=rN I.hok e;obtain⟨U,hw,J⟩:=EL (v:=v) (o:=(atKey xs k).map (·.2)) (by rw[l];exact rel.val k);obtain⟨p,hp,C⟩:=Ap.mp hw;refine wpAny_getItem_heap (tupleKind_room_in1 hu) (lv I.hok eb) t hp ?_;rw[C];exact h U _ (I.tok _) J
theorem aqd(r:A.units+1<cLine)(I:za X pins σ H s)(g:qP H a y o)(p:zu y u)(h:∀s',za X pins σ H s'->Q (.bool o.isSome) s'):
 wpAny (model X.prog X.w) A (compareOp .In u (.ref a)) Q E s:=by
 rcases g with⟨J,k,e,U,l⟩|⟨J,k,b,e,U,t,l⟩
 ·subst U;obtain⟨z,hd,C,rel,j⟩:=oS I.hok e;refine wpAny_in_of (im p) hd j.mapOf ?_;rw[<-(rel.val k).isSome_eq,<-l];exact h _ (I.tok _)
 ·subst U;cases (show u=Value.ref b from p);obtain⟨z,hd,T,rel,j⟩:=rN I.hok e;refine wpAny_in_heap (tupleKind_room_in1 r) (lv I.hok t) hd j ?_;have q:=(rel.val k).isSome_eq;rw[Cr] at q;rw[<-q,<-l];exact h _ (I.tok _)
theorem agv(r:A.units+1<cLine)(I:za X pins σ H s)(g:qP H a y o)(p:zu y u)(h:∀s',za X pins σ H s'->Q (.bool (!o.isSome)) s'):
 wpAny (model X.prog X.w) A (compareOp .NotIn u (.ref a)) Q E s:=by
 rcases g with⟨J,k,e,U,l⟩|⟨J,k,b,e,U,t,l⟩
 ·subst U;obtain⟨z,hd,C,rel,j⟩:=oS I.hok e;refine wpAny_notIn_of (im p) hd j.mapOf ?_;rw[<-(rel.val k).isSome_eq,<-l];exact h _ (I.tok _)
 ·subst U;cases (show u=Value.ref b from p);obtain⟨z,hd,T,rel,j⟩:=rN I.hok e;refine wpAny_notIn_heap (tupleKind_room_in1 r) (lv I.hok t) hd j ?_;have q:=(rel.val k).isSome_eq;rw[Cr] at q;rw[<-q,<-l];exact h _ (I.tok _)
theorem pI{ob:HO}(I:za X pins σ H s)(J:Mut (H a))(hs:Heap.SameBut a s.heap h')(U:∃q,h'.get? a=some q)(new:xq X.prog X.w (upd H a ob) h' a ob)(j:0<t':=by walk_at "t"):
 za X pins σ (upd H a ob) { s with heap:=h',toks:=t' }:=
 I.write (x:=a) (e:=a) J (.inl rfl) (λb q g z=>(hs.2 b g).trans z) U new
theorem ac1{P:Program}{w:World}{kvs:List (jf×V)}{vs:List (jf×Value)}(z:kvs.length<=sizeLine)(hd:(a==sysModules)=false)(rel:KV kvs vs)(dd:h'.DictOf (v9 P w) a vs):
 xq P w H' h' a (.dK kvs):=⟨z,hd,vs,rel,dd⟩
theorem yH{Q:Unit->Shared->Prop}(hu:A.units+1<cLine)(I:za X pins σ H s)(g:anq H a y v H')(ry:zu y u)(rv:zu v r)(h:∀s',za X pins σ H' s'->Q () s'):
 wpAny (model X.prog X.w) A (setItem (.ref a) u r) Q E s:=by
 rcases g with⟨J,k,e,o,l,p⟩|⟨J,k,b,e,o,eb,l,p⟩
 ·subst o p;obtain⟨z,hd,vs,rel,t⟩:=aia I.hok e;have C:vs.length<=sizeLine:=by rw[<-rel.length];exact z
  have T:(eF J k v).length<=sizeLine:=by have:=dz J k v;lia
  refine wpAny_setItem_pairs (hsz:=C) (im ry) t λh' U hs=>h _ ?_;have he:∃q,h'.get? a=some q:=let ⟨q,_,_,j,_⟩:=U;⟨q,j⟩;exact pI I (by rw[e];exact True.intro) hs he (ac1 T hd (rel.put k rv) U)
 ·subst o p;cases (show u=Value.ref b from ry);obtain⟨z,hd,xs,rel,t⟩:=aow I.hok e;have C:xs.length<=sizeLine:=by rw[<-Paired.length rel];exact z
  have T:(eF J k v).length<=sizeLine:=by have:=dz J k v;lia
  refine wpAny_setItem_heap (hsz:=C) (tupleKind_room_in1 hu) (lv I.hok eb) t λh' U hs=>h _ ?_;obtain⟨q,es,ep,j,h2,h3,h4,_,h5⟩:=U;refine pI I (by rw[e];exact True.intro) hs ⟨q,j⟩ ⟨T,hd,_,(rel.put k eb rv).keeps λc ys ec=>?_,q,es,ep,j,h2,h3,h4,h5⟩;rw[qo (aou ec e (λz=>nomatch z))];exact ec
end
section
variable {kvs:List (jf×V)}{k:jf}
end
def alm(i:Expr):Prop:=∀J U,subscripted i false J U=operate [J,U] (getItem J U)
theorem ah1{w:World}{slice:Expr}{T id:String}
 (C:typeLookup (.type T) "__getitem__" = pure (some (.builtin id))) (hs:alm slice)
 (h:wpAny (model prog w) A (eval value env) (λo g=>wpAny (model prog w) A (eval slice env) (λi J=>J.TypeIs o T/\wpAny (model prog w) A (getItem o i) Q E J) E g) E s):
 wpAny (model prog w) A (eval (.Subscript value slice pos) env) Q E s:=by
 refine Subscript_ (AO h (λo g l=>AO l (λi J U=>?_) λ_ _ x=>x) λ_ _ x=>x);obtain⟨t,U⟩:=U;unfold subscriptTail;refine Aa ?_;rw[getitemInPython_of_ne t.not_modules];refine Aa (wpAny_specialOf t C ?_);have jw:wpAny (model prog w) A (subscripted slice false o i) (λr j=>wpAny (model prog w) A (letTemporaryGo value o r >>= λ_=>pure r) Q E j) E J:=by rw[hs o i];exact wpAny_operating (AO U (λr j p=>Aa (wpAny_letTemporaryGo (Ag p))) λ_ _ x=>x)
 first
  |exact Ag (Aa jw)
  |exact Aa (Ag (Aa jw))
  |exact Aa jw
theorem sw{y:V}{o:Option V}(I:za X pins σ H s)(g:qP H a y o):s.TypeIs (.ref a) "dict" := by
 rcases g with⟨J,k,e,_,_⟩|⟨J,k,b,e,_,_,_⟩
 ·obtain⟨_,_,j,_,U⟩:=oS I.hok e;exact U.typeIs
 ·obtain⟨_,_,l,_,U⟩:=rN I.hok e;exact U.typeIs
def ana(td ty:TE):TE:=λσ H Q=>td σ H λx H1=>ty σ H1 λy H2=>∃a v,x=.ref a/\qP H2 a y (some v)/\Q v H2
def aop(td ty tv:TE):TS:=λD σ H=>tv σ H λv H1=>td σ H1 λx H2=>ty σ H2 λy U=>∃a J,x=.ref a/\anq U a y v J/\D.nx σ J
section
variable {i:Expr}{tpos:Pos}{td ty tv:TE}
theorem agp(p:X.A.units+1<cLine)(r:PE X o td)(hi:PE X i ty)(hs:alm i):PE X (.Subscript o i pos) (ana td ty):=by intro J s j H Q I h;refine ah1 Dn.lookup hs (a9 (r J s j H _ I h) λu t x C T rx q1=>aI (hi J t j C _ T q1) λiv s2 ⟨y,H2,l,ry,a,v,ex,g,q2⟩=>?_);subst ex;obtain rfl:u=Value.ref a:=rx;exact⟨sw l g,zO p l g ry λw' s3 I3 U=>⟨v,H2,I3,U,q2⟩⟩
theorem ahq(j:X.A.units+1<cLine)(l:PE X o td)(hi:PE X i ty)(p:PE X value tv)(hs:swapsWith value (some (.Subscript o i fy)) pos.line X.env=pure false):
 PS X (.Assign [.Subscript o i fy] value pos) (aop td ty tv):=by
 intro J s U H D I h;refine wpAny_Assign_Subscript (a9 (p J s U H _ I h) λr t v C T rv q1=>a9 (l J t U C _ T q1) λu s2 x H2 I2 rx q2=>aI (hi J s2 U H2 _ I2 q2) λiv s3 ⟨y,H3,I3,ry,a,H4,ex,g,q3⟩=>?_) hs;subst ex;obtain rfl:u=Value.ref a:=rx;exact yH j I3 g ry rv λs4 I4=>⟨U,H4,I4,q3⟩
end
theorem sL{P:Program}{w:World}(h:Heap)(J:sysModules<h.objs.size):xq P w H (h.push { cls:=.type "dict",data:=.dict #[] }) h.objs.size (.dK []):=
 ⟨Bf _,beq_eq_false_iff_ne.mpr (AF (AV J)),[],.nil,Heap.DictOf.new h⟩
def ak4:TE:=λ_ H Q=>∀p,H p=none->Q (.ref p) (upd H p (.dK []))
theorem acu:PE X (.Dict [] [] pos) ak4:=λJ s U H Q I h=>
 wpAny_Dict_empty ⟨.ref s.heap.objs.size,_,I.laid (a:=s.heap.objs.size) (o:=.dK []) (t':=s.toks) (λ_ _ q=>As _ q) (Aj _) (sL s.heap I.big),rfl,h _ (I.hok.fresh (Aj _))⟩
def rA:List (TE×TE)->St->Hp->(List (V×V)->Hp->Prop)->Prop
 |[],_,H,Q=>Q [] H
 |(tk,tv)::r,σ,H,Q=>tk σ H λx H1=>tv σ H1 λy H2=>rA r σ H2 λps J=>Q ((x,y)::ps) J
abbrev VV:List (V×V)->List (Value×Value)->Prop:=Paired λp q=>zu p.1 q.1/\zu p.2 q.2
def PPs(X:Cx)(pos:Pos)(keys:List (Option Expr))(values:List Expr)(J:List (TE×TE)):Prop:=
 ∀(pins:List (Addr×Obj)) (s:Shared) (σ:St) (H:Hp) (Q:List (V×V)->Hp->Prop),za X pins σ H s->rA J σ H Q->
  wpAny (model X.prog X.w) X.A (evalPairs (pairTrees keys values X.env pos)) (λvs s'=>∃ps H',za X pins σ H' s'/\VV ps vs/\Q ps H') X.xe s
theorem ahy :PPs X pos [] [] []:=λJ s U H Q I h=>pairTrees_nil_walk ⟨[],H,I,.nil,h⟩
theorem gi{k v:Expr}{ks:List (Option Expr)}{vs:List Expr}{tk tv:TE}{U:List (TE×TE)}(j:PE X k tk)(l:PE X v tv)(o:PPs X pos ks vs U):
 PPs X pos (some k::ks) (v::vs) ((tk,tv)::U):=λJ s g H Q I h=>
 pairTrees_cons_walk (a9 (j J s g H _ I h) λu p x r t C T=>a9 (l J p g r _ t T) λw2 s2 y H2 I2 ry q2=>
  aI (o J s2 g H2 _ I2 q2) λws s3 ⟨ps,H3,I3,rel,q3⟩=>⟨(x,y)::ps,H3,I3,.cons ⟨C,ry⟩ rel,q3⟩)
def hZ(kvs more:List (jf×V)):List (jf×V):=more.foldl (λJ U=>eF J U.1 U.2) kvs
theorem KV.merge:∀{more:List (jf×V)} {J:List (jf×Value)} {kvs:List (jf×V)} {vs:List (jf×Value)},KV more J->KV kvs vs->KV (hZ kvs more) (merged vs J):=by
 intro more J kvs vs r;unfold KV at r
 induction r generalizing kvs vs with
 |nil=>intro q;exact q
 |@cons p q j l h t U=>
  intro g;have e:KV (eF kvs p.1 p.2) (stored vs q.1 q.2):=by have:=g.put p.1 h.2;rw[<-h.1];exact this
  exact U e
theorem fJ:∀(more kvs:List (jf×V)),(hZ kvs more).length<=kvs.length+more.length
 |[],kvs=>by show kvs.length<=kvs.length+0;lia
 |p::r,kvs=>by have h1:=fJ r (eF kvs p.1 p.2);have h2:=dz kvs p.1 p.2;show(hZ (eF kvs p.1 p.2) r).length<=_;rw[AJ];lia
theorem mC{P:Program}{w:World}:∀{kvs:List (jf×V)} {U:List (Value×Value)},VV (kvs.map λg=>(kV g.1,g.2)) U->∃J,Carries (v9 P w) U J/\KV kvs J
 |[],_,r=>by rw[CQ] at r;cases r;exact⟨[],True.intro,.nil⟩
 |p::kvs,_,r=>by
  rw[AK] at r;cases r with
  |@cons a b as bs h t=>
   obtain⟨J,c,q⟩:=mC (P:=P) (w:=w) t;obtain⟨b1,b2⟩:=b;exact⟨(p.1,b2)::J,⟨im h.1,rfl,c⟩,.cons ⟨rfl,h.2⟩ q⟩
def ank(J:List (TE×TE)):TE:=λσ H Q=>∀p,H p=none->rA J σ (upd H p (.dK [])) λps H2=>H2 p=some (.dK [])/\∃kvs:List (jf×V),ps=kvs.map (λU=>(kV U.1,U.2))/\kvs.length<=15/\Q (.ref p) (upd H2 p (.dK (hZ [] kvs)))
theorem afs{keys:List (Option Expr)}{values:List Expr}{J:List (TE×TE)}(h:PPs X pos keys values J)(U:keys.all (·.isSome)=true)(t:keys.length=values.length)(h0:keys≠[])
 (p:keys.length<=15):PE X (.Dict keys values pos) (ank J):=by
 intro g s C H Q I q;have T:=I.hok.fresh (Aj s.heap.objs.size);have I1:=I.laid (a:=s.heap.objs.size) (o:=.dK []) (h':=s.heap.push { cls:=.type "dict",data:=.dict #[] }) (t':=s.toks) (λ_ _ q=>As _ q) (Aj _) (sL s.heap I.big);refine wpAny_Dict_walk (knd:=v9 X.prog X.w) U t h0 p (aI (h g _ C _ _ I1 (q _ T)) λws s2 ⟨ps,H2,r,rel,e,j,ep,lk,q2⟩=>?_);subst ep;obtain⟨rs,c,rk⟩:=mC (P:=X.prog) (w:=X.w) rel;obtain⟨z,hd,a1,r0,dd⟩:=aia r.hok e;cases r0;refine⟨rs,c,dd,λh' l hs=>⟨.ref s.heap.objs.size,_,?_,rfl,q2⟩⟩;have hz:(hZ [] j).length<=sizeLine:=by have h1:=fJ j [];rw[List.length_nil] at h1;rw[sizeLine_eq];lia
 have he:∃q,h'.get? s.heap.objs.size=some q:=let ⟨q,_,_,hq,_⟩:=l;⟨q,hq⟩;exact pI r (by rw[e];exact True.intro) hs he (ac1 hz hd (rk.merge .nil) l)
section
variable {y d:V}{r:Value}{o:Option V}
end
section
variable {f:Expr}{td ty tx:TE}
end
section
variable {kvs:List (jf×V)}
end
section
variable {y:V}
end
end L2
namespace HT
open PySem PyProof.Rows
section
open PySem.SeqAt
open PySem.AutoSeq1 (wpAny_loadPart')
open PySem.MeetsSeq PySem.MeetsSeq2 PySem.MeetsSeq3
end
section
variable {w:World}
theorem cat_tup{t:Addr}{vs J:List Value}(ht:IsTup s.heap t vs.toArray)(hb:IsTup s.heap b J.toArray)(r:vs≠[])
 (h1:J=[]->Q (.ref t) s) (h2:J≠[]->Q (.ref s.heap.objs.size) { s with heap:=s.heap.push { cls:=.type "tuple",data:=.seq (vs++J).toArray } })
 (hsz:vs.length+J.length<=sizeLine):wpAny (model prog w) A (binaryOp .Add (.ref t) (.ref b)) Q E s:=by
 obtain⟨⟨cls,C,data,I⟩,p,T,n,hd⟩:=id ht;obtain⟨⟨a1,g,data2,j⟩,U,l,n2,o⟩:=id hb;simp only at T hd l o;subst T hd l o;have e:vs.toArray++J.toArray=(vs++J).toArray:=by simp
 by_cases hw:J=[]
 ·exact concat_meets ⟨_,p,rfl⟩ ⟨_,U,rfl⟩ noFill_tuple_add seq_tuple_add DH DA (Dw _ _)
   (tuple_addW1 t b vs.toArray J.toArray n n2 C g I j (by simpa using r) (by simp[hw])) ⟨p,U,h1 hw⟩
 ·refine concat_meets ⟨_,p,rfl⟩ ⟨_,U,rfl⟩ noFill_tuple_add seq_tuple_add DH DA (Dw _ _)
   (tuple_addW2 t b vs.toArray J.toArray n n2 C g I j (by simpa using r) (by simpa using hw) (by rw[Al,Al];exact hsz)) ⟨p,U,?_⟩
  rw[e];exact h2 hw
def sIx(n d:Nat):Option Int->Nat
 |none=>d
 |some v=>if v<0 then(v+(n:Int)).toNat else min v.toNat n
theorem sIx_none(n d:Nat):sIx n d none=d:=rfl
theorem sIx_nat(n d k:Nat):sIx n d (some (k:Int))=min k n:=by show(if (k:Int)<0 then((k:Int)+(n:Int)).toNat else min (k:Int).toNat n)=min k n;rw[AC (by lia),AZ]
theorem sIx_le(n d:Nat)(hd:d<=n)(o:Option Int):sIx n d o<=n:=by
 cases o with
 |none=>exact hd
 |some v=>
  show(if v<0 then(v+(n:Int)).toNat else min v.toNat n)<=n;by_cases J:v<0
  ·rw[AB J];lia
  ·rw[AC J];exact Nat.min_le_right _ _
theorem wI(v:Int)(n d:Nat):(if v<0 then max (v+(n:Int)) 0 else min v (n:Int))=((sIx n d (some v):Nat):Int):=by
 show(if v<0 then max (v+(n:Int)) 0 else min v (n:Int))=(((if v<0 then(v+(n:Int)).toNat else min v.toNat n):Nat):Int);by_cases J:v<0
 ·simp only[AB J];lia
 ·simp only[AC J];lia
theorem vD(lo hi:Option Int)(n:Nat):Builtin.Slice.sliceAdjust lo hi 1 (n:Int)=(((sIx n 0 lo:Nat):Int),(sIx n n hi:Int)):=by
 have h1:¬((1:Int)<0):=by lia
 unfold Builtin.Slice.sliceAdjust;simp only[h1,if_false];refine Prod.ext ?_ ?_
 ·cases lo with|none=>rfl|some v=>exact wI v n 0
 ·cases hi with|none=>rfl|some v=>exact wI v n n
theorem uv(i j:Nat):Builtin.Slice.slicePlaces (i:Int) (j:Int) 1=j-i:=by
 unfold Builtin.Slice.slicePlaces;have h1:(1:Int) > 0:=by lia
 simp only[h1,if_true,Int.ediv_one];split<;>lia
theorem mD{v:Value}{o:Option Int}{Q:Option Int->Shared->Prop}(p:IsPart v o)(h:Q o s):wpAny (model prog w) A (Builtin.Slice.slicePartIndex v) Q E s:=by cases p with|none=>exact slicePart_none h|int i t=>exact slicePart_int h
theorem i7{l:Addr}{g j:Value}{lo hi:Option Int}{Q:Int×Int×Nat->Shared->Prop}(hs:s.heap.IsSliceOf l g j .none)(pl:IsPart g lo)(o:IsPart j hi)
 (h:Q (((sIx n 0 lo:Nat):Int),1,sIx n n hi-sIx n 0 lo) s):wpAny (model prog w) A (Builtin.Slice.sliceApplied (.ref l) (pure (n:Int))) Q E s:=by
 obtain⟨os,J,p,U⟩:=id hs;unfold Builtin.Slice.sliceApplied Builtin.Slice.sliceFields;refine Aa (Aa (AQ J U (x:=g) rfl (Aa (AQ J U (x:=j) rfl (Aa (AQ J U (x:=.none) rfl (Ag ?_)))))));refine Aa (slicePart_none ?_);show wpAny _ _ (if ((1:Int)==0)=true then _ else _) _ _ s;rw[AC (by decide)];refine Aa (mD pl (Aa (mD o (Aa (Ag ?_)))));show wpAny _ _ (match Builtin.Slice.sliceAdjust lo hi 1 (n:Int) with|(lo,hi)=>pure (lo,(1:Int),Builtin.Slice.slicePlaces lo hi 1)) _ _ s;rw[vD lo hi n];show wpAny _ _ (pure (((sIx n 0 lo:Nat):Int),(1:Int),Builtin.Slice.slicePlaces ((sIx n 0 lo:Nat):Int) (sIx n n hi:Int) 1)) _ _ s;rw[uv];exact Ag h
theorem ae5(xs:Array Value)(i k:Nat):((List.range k).filterMap λ(m:Nat)=>xs[((i:Int)+(m:Int)*1).toNat]?).toArray=((xs.toList.drop i).take k).toArray:=by
 have e:(λ(m:Nat)=>xs[((i:Int)+(m:Int)*1).toNat]?)=λm=>xs[i+m]?:=by
  funext m;have:((i:Int)+(m:Int)*1).toNat=i+m:=by lia
  rw[this]
 rw[e];have:=pick_run xs i k;rw[List.filterMap_map] at this;have J:((λx=>xs[x]?)∘λx=>i+x)=λm=>xs[i+m]?:=rfl;rw[J] at this;rw[this]
theorem getItem_tuple_cut{t g:Addr}{items:Array Value}{r C:Value}{lo hi:Option Int}(U:IsTup s.heap t items)(hs:s.heap.IsSliceOf g r C .none)(pl:IsPart r lo)(I:IsPart C hi)
 (hw:¬(sIx items.size 0 lo=0/\sIx items.size items.size hi=items.size))
 (h:Q (.ref s.heap.objs.size) { s with heap:=s.heap.push { cls:=.type "tuple",data:=.seq ((items.toList.drop (sIx items.size 0 lo)).take (sIx items.size items.size hi-sIx items.size 0 lo)).toArray } })
 (hsz:items.size<=sizeLine):wpAny (model prog w) A (getItem (.ref t) (.ref g)) Q E s:=by
 have J:sizeOk (.seq ((items.toList.drop (sIx items.size 0 lo)).take (sIx items.size items.size hi-sIx items.size 0 lo)).toArray):=by show((items.toList.drop (sIx items.size 0 lo)).take (sIx items.size items.size hi-sIx items.size 0 lo)).toArray.size<=sizeLine;rw[Al,A3,Cu,Bu];lia
 have hj:sIx items.size items.size hi<=items.size:=sIx_le _ _ (Aj _) hi;obtain⟨os,j,l,T⟩:=id hs;have o:s.TypeIs (.ref g) "slice" := ⟨os,j,l⟩;unfold getItem
 try with_reducible refine AY ?_
 first|refine Aa (Ag ?_)|skip
 refine Aa (wpAny_sequenceKey U.typeIs (by decide) ?_);refine Aa (wpAny_callSpecial?_slot (name:=Str.ofString "__getitem__") U.typeIs BZ
  (wpAny_call_entry BZ U.typeIs entry_tuple_getitem ?_ (args_tuple_getitem _ _)))
 show wpAny _ _ (Builtin.Tuple.tupleItemsOf (.ref t) >>= _) _ _ s;refine Aa (tupleItemsOf_ U ?_);refine Aa (wpAny_typeOf o ?_);rw[AB (by decide)];refine Aa (i7 hs pl I ?_);have p:¬((((sIx items.size 0 lo:Nat):Int)==0&&(1:Int)==1&&(sIx items.size items.size hi-sIx items.size 0 lo)==items.size)=true):=by intro q;rw[A1,A1] at q;have q1:((sIx items.size 0 lo:Nat):Int)=0:=eq_of_beq q.1.1;have q2:sIx items.size items.size hi-sIx items.size 0 lo=items.size:=eq_of_beq q.2;exact hw ⟨by lia,by lia⟩
 show wpAny _ _ (if (((sIx items.size 0 lo:Nat):Int)==0&&(1:Int)==1&&(sIx items.size items.size hi-sIx items.size 0 lo)==items.size)=true then _ else _) _ _ s;rw[AC p,ae5]
 first
  |exact Aa (m:=Builtin.Tuple.tupleExact _) (Bl (Ag ⟨_,rfl,Ag h⟩) J)
  |exact Aa (m:=Builtin.Tuple.tupleExact _) (Bl (Aa (Ag (Ag ⟨_,rfl,Ag h⟩))) J)
  |exact Aa (Aa (m:=Builtin.Tuple.tupleExact _) (Bl (Ag (Ag ⟨_,rfl,Ag h⟩)) J))
  |exact Aa (Aa (m:=Builtin.Tuple.tupleExact _) (Bl (Ag ⟨_,rfl,Ag h⟩) J))
end
end HT
namespace L2
open PySem PySem.Spec PyProof.Rows
abbrev TO:=St->Hp->(Option Int->Hp->Prop)->Prop
def PO(X:Cx)(e:Option Expr)(t:TO):Prop:=
 ∀(pins:List (Addr×Obj)) (s:Shared) (σ:St) (H:Hp) (Q:Option Int->Hp->Prop),za X pins σ H s->t σ H Q->
  wpAny (model X.prog X.w) X.A (evalPart e X.env) (λu s'=>∃o H',za X pins σ H' s'/\IsPart u o/\Q o H') X.xe s
def af6:TO:=λ_ H Q=>Q none H
def ann(t:TE):TO:=λσ H Q=>t σ H λx H1=>∃i,x=.int i/\Q (some i) H1
section
variable {te:TE}{lo hi:Option Expr}{tl th:TO}
theorem aha:PO X none af6:=by intro J s U H Q I h;rw[evalPart_none];exact Ag ⟨none,H,I,.none,h⟩
theorem aev(h:PE X e te):PO X (some e) (ann te):=by intro J s U H Q I hw;rw[evalPart_some];refine a9 (h J s U H _ I hw) λu p x g j l o=>?_;obtain⟨i,rfl,q⟩:=o;obtain⟨t,rfl⟩:=l;exact⟨some i,g,j,.int i t,q⟩
def rG(X:Cx)(r:V->Option Int->Option Int->Hp->VK->Prop):Prop:=
 ∀(pins:List (Addr×Obj)) (s:Shared) (σ:St) (H:Hp) (x:V) (v J U:Value) (lo hi:Option Int) (g:Addr) (Q:VK),za X pins σ H s->zu x v->s.heap.IsSliceOf g J U .none->IsPart J lo->IsPart U hi->r x lo hi H Q->
  ∃T id,typeLookup (.type T) "__getitem__" = pure (some (.builtin id))/\s.TypeIs v T/\wpAny (model X.prog X.w) X.A (getItem v (.ref g)) (EP X pins σ Q) X.xe s
theorem rG.or{U:V->Option Int->Option Int->Hp->VK->Prop}(h:rG X r)(h':rG X U):rG X (λx lo hi H Q=>r x lo hi H Q\/U x lo hi H Q):=by
 intro J s g H x v j l lo hi o Q I p t pl C q;rcases q with q|q
 ·exact h J s g H x v j l lo hi o Q I p t pl C q
 ·exact h' J s g H x v j l lo hi o Q I p t pl C q
def tSl(r:V->Option Int->Option Int->Hp->VK->Prop)(te:TE)(tl th:TO):TE:=λσ H Q=>te σ H λx H1=>tl σ H1 λl H2=>th σ H2 λu J=>r x l u J Q
theorem aeg(t:rG X r)(C:PE X e te)(hl:PO X lo tl)(hu:PO X hi th):PE X (.Subscript e (.Slice lo hi none p2) pos) (tSl r te tl th):=by intro J s g H Q I h;refine Subscript_ (aI (C J s g H _ I h) λv s1 ⟨x,H1,I1,r1,q1⟩=>?_);refine wpAny_Slice (aI (hl J s1 g H1 _ I1 q1) λj s2 ⟨l,H2,I2,pl,q2⟩=>aI (hu J s2 g H2 _ I2 q2) λo U ⟨u,p,I3,pu,q3⟩=>?_);rw[evalPart_none];refine Ag ?_;have I4:za X J g p { U with heap:=U.heap.push { cls:=.type "slice",data:=.fields #[j,o,.none] } }:=I3.kept (t':=U.toks) λb ob q=>As _ q;obtain⟨T,id,hT,ht,hg⟩:=t J { U with heap:=U.heap.push { cls:=.type "slice",data:=.fields #[j,o,.none] } } g p x v j o l u U.heap.objs.size Q I4 r1 (Heap.IsSliceOf.new ..) pl pu q3;show wpAny (model X.prog X.w) X.A (subscriptTail e (.Slice lo hi none p2) v (.ref U.heap.objs.size)) (EP X J g Q) X.xe { U with heap:=U.heap.push { cls:=.type "slice",data:=.fields #[j,o,.none] } };exact tail_any (ops:=[.ref U.heap.objs.size,v]) ht hT hg (by with_unfolding_all rfl)
def sj(xs:List V)(lo hi:Option Int):List V:=(xs.drop (HT.sIx xs.length 0 lo)).take (HT.sIx xs.length xs.length hi-HT.sIx xs.length 0 lo)
theorem i9(xs:List V)(lo hi:Option Int):(sj xs lo hi).length<=xs.length:=by unfold sj;rw[A3,Cu];lia
def at0(K:Ad):V->Option Int->Option Int->Hp->VK->Prop:=λx lo hi H Q=>∃a xs,x=.ref a/\cB K H a xs/\
 ¬(HT.sIx xs.length 0 lo=0/\HT.sIx xs.length xs.length hi=xs.length)/\∀p,H p=none->Q (.ref p) (upd H p (.tup (sj xs lo hi)))
theorem ako:rG X (at0 X.K):=by
 intro l s σ H x v vl vu lo g sl Q I C T pl pu h;obtain⟨a,U,rfl,hx,hw,q⟩:=h;cases C;obtain⟨j,r,p,t⟩:=I.tuple hx;have J:j.toArray.size=U.length:=by rw[Al];exact r.length.symm
 refine⟨"tuple",_,BZ.lookup,p.typeIs,?_⟩;refine HT.getItem_tuple_cut p T pl pu (by rw[J];exact hw) ?_ (by rw[J];exact t);rw[J];refine⟨.ref s.heap.objs.size,_,I.laid (t':=s.toks) (o:=.tup (sj U lo g)) (λb ob q=>As _ q) (Aj _) ?_,rfl,q _ (I.hok.fresh (Aj _))⟩;exact⟨AM (i9 U lo g) t,_,(r.drop (HT.sIx U.length 0 lo)).take (HT.sIx U.length U.length g-HT.sIx U.length 0 lo),IsTup.new _ _⟩
def ao2(K:Ad):R2:=λx y H Q=>∃a b xs ys,x=.ref a/\y=.ref b/\cB K H a xs/\cB K H b ys/\xs≠[]/\xs.length+ys.length<=sizeLine/\
 (ys=[]->Q (.ref a) H)/\(ys≠[]->∀p,H p=none->Q (.ref p) (upd H p (.tup (xs++ys))))
theorem zq.nil_iff(r:zq xs us):us=[]↔xs=[]:=by cases r with|nil=>simp|cons _ _=>simp
theorem ag0:kh X (binaryOp .Add) (ao2 X.K):=by intro g s σ H x y v u Q I p r h;obtain⟨a,b,t,C,rfl,rfl,T,hb,hx,j,q1,q2⟩:=h;cases p;cases r;obtain⟨a1,U,p1,_⟩:=I.tuple T;obtain⟨l,J,p2,_⟩:=I.tuple hb;refine HT.cat_tup p1 p2 (λz=>hx (U.nil_iff.mp z)) (λz=>⟨.ref a,H,I,rfl,q1 (J.nil_iff.mp z)⟩) (λz=>?_) (by rw[<-U.length,<-J.length];exact j);refine⟨.ref s.heap.objs.size,_,I.laid (t':=s.toks) (o:=.tup (t++C)) (λb ob q=>As _ q) (Aj _) ?_,rfl,q2 (λw=>z (J.nil_iff.mpr w)) _ (I.hok.fresh (Aj _))⟩;exact⟨by rw[Ac];exact j,_,U.append J,IsTup.new _ _⟩
end
def ixN(n:Nat)(i:Int):Option Nat:=if 0<=i then(if i<n then some i.toNat else none) else if -(n:Int)<=i then some (i+n).toNat else none
def dQ(xs:List α)(i:Int):Option α:=(ixN xs.length i).bind λj=>xs[j]?
theorem wG{i:Int}(h:ixN n i=some j):seqIndex? i n=some j/\j<n /\ -(n:Int)<=i/\i<n:=by
 unfold ixN at h;by_cases h0:0<=i
 ·rw[AB h0] at h;by_cases h1:i<n
  ·rw[AB h1] at h;have e:i.toNat=j:=AN h;exact⟨by rw[seqIndex_of h0 h1,e],by lia,by lia,h1⟩
  ·rw[AC h1] at h;cases h
 ·rw[AC h0] at h;by_cases h1 : -(n:Int)<=i
  ·rw[AB h1] at h;have e:(i+n).toNat=j:=AN h;exact⟨by rw[seqIndex_neg (by lia) h1,e],by lia,h1,by lia⟩
  ·rw[AC h1] at h;cases h
theorem qM{xs:List α}{i:Int}{v:α}(h:dQ xs i=some v):∃j,seqIndex? i xs.length=some j/\xs[j]?=some v/\j<xs.length /\ -(xs.length:Int)<=i/\i<xs.length:=by
 unfold dQ at h;cases e:ixN xs.length i with
 |none=>rw[e] at h;cases h
 |some j=>
  rw[e] at h;obtain⟨h1,h2,h3,J⟩:=wG e;exact⟨j,h1,h,h2,h3,J⟩
theorem x6{xs:List α}{v:α}(h:xs[j]?=some v):dQ xs (j:Int)=some v:=by
 have J:j<xs.length:=(AL.mp h).1;have e:ixN xs.length (j:Int)=some j:=by unfold ixN;rw[AB (by lia),AB (by lia)];simp
 unfold dQ;rw[e];exact h
theorem gb(xs:List α)(v:α):dQ (xs++[v]) (-1)=some v:=by
 have J:(xs++[v]).length=xs.length+1:=by simp
 have e:ixN (xs++[v]).length (-1)=some xs.length:=by unfold ixN;rw[J,AC (by decide),AB (by lia)];congr 1;lia
 unfold dQ;rw[e];show(xs++[v])[xs.length]?=some v;simp
def gj(b:Expr):Prop:=∀o i,subscripted b false o i=operate [o,i] (getItem o i)
def IxR(X:Cx)(r:R2):Prop:=
 ∀(value slice:Expr) (pins:List (Addr×Obj)) (s:Shared) (σ:St) (H:Hp) (x y:V) (v u:Value) (Q:VK),za X pins σ H s->zu x v->zu y u->r x y H Q->
  subscripted slice false v u=operate [v,u] (getItem v u)->wpAny (model X.prog X.w) X.A (subscriptTail value slice v u) (EP X pins σ Q) X.xe s
def MtR(X:Cx)(id:String)(r:V->List V->Hp->VK->Prop):Prop:=
 ∀(pins:List (Addr×Obj)) (s:Shared) (σ:St) (H:Hp) (x:V) (xs:List V) (v:Value) (us:List Value) (Q:VK),za X pins σ H s->zu x v->zq xs us->r x xs H Q->
  wpAny (model X.prog X.w) X.A (call (.builtin id) (v::us)) (EP X pins σ Q) X.xe s
section
variable {a b:Expr}{ta tb:TE}
theorem ada{r:R2}(U:IxR X r)(g:PE X a ta)(j:PE X b tb)(hs:gj b):PE X (.Subscript a b pos) (tOp r ta tb):=by intro J s l H Q I h;exact Subscript_ (alu g j I h λv u o x y p t C T q=>U a b J o l p x y v u Q t C T q (hs _ _))
def aqc(K:Ad):R2:=λx y H Q=>∃p xs i v,x=.ref p/\y=.int i/\aJ K H p xs/\dQ xs i=some v/\Q v H
def as6(K:Ad):R2:=λx y H Q=>∃p xs i v,x=.ref p/\y=.int i/\cB K H p xs/\dQ xs i=some v/\Q v H
def arf:R2:=λx y H Q=>∃z i c,x=.str z/\y=.int i/\z.length<=sizeLine/\dQ z.cps.toList i=some c/\Q (.str ⟨#[c]⟩) H
theorem afc:IxR X (aqc X.K):=by
 intro value slice J s o H x y v u Q I rx ry h C;obtain⟨p,xs,i,z,rfl,rfl,hq,he,q⟩:=h;cases rx;obtain⟨t,rfl⟩:=ry;obtain⟨U,r,pl,hz⟩:=I.list hq;obtain⟨j,h1,h2,h3,h4,h5⟩:=qM he;obtain⟨w,T,g⟩:=r.get h2;have hl:=r.length;have hn:=iB;have jw:EP X J o Q w s:=⟨z,H,I,g,q⟩;by_cases h0:0<=i
 ·have l:i.toNat=j:=by rw[seqIndex_of h0 h5] at h1;exact AN h1
  exact item_listR pl.isList h0 (by lia) (by rw[l];simpa using T) jw C
 ·have l:(i+(U.toArray.size:Int)).toNat=j:=by rw[seqIndex_neg (by lia) h4] at h1;rw[Al,<-hl];exact AN h1
  exact subscriptTail_builtinR (x:=w) pl.isList.typeIs slot_list_getitem.lookup
   (wpAny_getItem_list_neg (Q:=λr s'=>r=w/\EP X J o Q r s') pl.isList (by lia) (by rw[Al]<;>lia) (by lia) (by rw[l];simpa using T) ⟨rfl,jw⟩) C
theorem al8:IxR X (as6 X.K):=by
 intro value slice J s g H x y v u Q I l o h C;obtain⟨p,xs,i,z,rfl,rfl,T,he,q⟩:=h;cases l;obtain⟨t,rfl⟩:=o;obtain⟨a1,r,pl,hz⟩:=I.tuple T;obtain⟨j,h1,h2,h3,h4,h5⟩:=qM he;obtain⟨w,ew,U⟩:=r.get h2;have hl:=r.length;have hn:=iB;have jw:EP X J g Q w s:=⟨z,H,I,U,q⟩;exact subscriptTail_builtinR (x:=w) pl.typeIs slot_tuple_getitem.lookup
  (getItem_tuple (j:=j) (Q:=λr s'=>r=w/\EP X J g Q r s') pl (by lia) (by lia) (by rw[Al,<-hl];exact h1) (by simpa using ew) ⟨rfl,jw⟩) C
theorem akz:IxR X arf:=by
 intro value slice J s σ H x y v u Q I U g h l;obtain⟨z,i,c,rfl,rfl,hz,o,q⟩:=h;obtain⟨t,rfl⟩:=U;obtain⟨t',rfl⟩:=g;obtain⟨j,h1,h2,h3,p,r⟩:=qM o;have C:z.cps.toList.length=z.length:=by simp[Str.length]
 rw[C] at h1 p r;have hn:=iB;exact tail_any (typeIs_str s z t) slot_str_getitem.lookup (getItem_str (c:=c) (by have T:decide (i < -(2 ^ 63:Int))=false:=Au (by lia);have e2:decide (i>=2 ^ 63)=false:=Au (by lia);rw[T,e2,Bool.or_false]) (by rw[h1];simpa using h2) ⟨.str ⟨#[c]⟩,H,I.tok _,⟨_,rfl⟩,q⟩) l
theorem uw(eH:List Value)(n j:Nat)(u:Value):Obj.mapSeq (·.setIfInBounds j u) { cls:=.type "list",data:=.seq eH.toArray n }={ cls:=.type "list",data:=.seq (eH.set j u).toArray n }:=by simp[Obj.mapSeq]
theorem za.lst{p:Addr}(I:za X pins σ H s)(h:H p=some (.lst xs)):
 ∃(eH:List Value) (n:Nat),zq xs eH/\s.heap.get? p=some { cls:=.type "list",data:=.seq eH.toArray n }/\xs.length<=sizeLine:=by
 obtain⟨z,eH,n,r,e⟩:=I.hok p _ h;exact⟨eH,n,r,e,z⟩
theorem za.lstUpd{p:Addr}{ys:List V}{its':List Value}{J:Nat}{f:Obj->Obj}(I:za X pins σ H s)(h:H p=some (.lst xs))
 (g:s.heap.get? p=some { cls:=.type "list",data:=.seq eH.toArray n }) (U:f { cls:=.type "list",data:=.seq eH.toArray n }={ cls:=.type "list",data:=.seq its'.toArray J }) (r:zq ys its') (hz:ys.length<=sizeLine) (t:Nat) (l:0<t:=by walk_at "t"):
 za X pins σ (upd H p (.lst ys)) { s with heap:=s.heap.update p f,toks:=t }:=by
 have e:(s.heap.update p f).get? p=some { cls:=.type "list",data:=.seq its'.toArray J }:=by rw[Eh f g (by rw[U]<;>rfl),U]
 refine I.write (x:=p) (e:=p) (by rw[h];trivial) (.inl rfl) (λb u j q=>(Ef _ _ (AF j)).trans q) ⟨_,e⟩ ?_;exact⟨hz,its',J,r,e⟩
def ao4:V->V->V->Hp->(Hp->Prop)->Prop:=λo i v H Q=>∃p xs k j,o=.ref p/\i=.int k/\H p=some (.lst xs)/\ixN xs.length k=some j/\Q (upd H p (.lst (xs.set j v)))
theorem aba:aom X ao4:=by
 intro J s σ H o i v ov iv u Q I ro ri rv h;obtain⟨p,xs,k,j,rfl,rfl,T,hj,q⟩:=h;cases ro;obtain⟨t,rfl⟩:=ri;obtain⟨U,n,r,g,hz⟩:=I.lst T;obtain⟨h1,h2,h3,h4⟩:=wG hj;have l:=r.length;have hn:=iB;have I':za X J σ (upd H p (.lst (xs.set j v))) { s with heap:=s.heap.update p (Obj.mapSeq (·.setIfInBounds j u)) }:=
  I.lstUpd T g (uw U n j u) (r.set rv j) (by rw[List.length_set];exact hz) s.toks
 by_cases h0:0<=k
 ·have C:k.toNat=j:=by rw[seqIndex_of h0 h4] at h1;exact AN h1
  exact PySem.W.ki_setAt g h0 (by lia) (by rw[Al,<-l];exact h4) (by rw[C];exact⟨_,I',q⟩)
 ·have C:(k+(U.toArray.size:Int)).toNat=j:=by rw[seqIndex_neg (by lia) h3] at h1;rw[Al,<-l];exact AN h1
  exact PySem.W.ki_setBack g (by lia) (by rw[Al,<-l];exact h3) (by lia) (by rw[C];exact⟨_,I',q⟩)
theorem qC(lo hi:Option Int)(n:Nat):(sliceBounds lo hi none n).1=((HT.sIx n 0 lo:Nat):Int)/\(sliceBounds lo hi none n).2.1=((HT.sIx n n hi:Nat):Int)/\(sliceBounds lo hi none n).2.2=1:=by
 refine⟨?_,?_,rfl⟩
 ·cases lo with
  |none=>simp[sliceBounds,HT.sIx]
  |some i=>
   simp only[sliceBounds,HT.sIx,Option.getD_none,show(1:Int) > 0 by decide,if_true];by_cases h:i<0
   ·simp only[h,if_true]<;>lia
   ·simp only[h,if_false]<;>lia
 ·cases hi with
  |none=>simp[sliceBounds,HT.sIx]
  |some i=>
   simp only[sliceBounds,HT.sIx,Option.getD_none,show(1:Int) > 0 by decide,if_true];by_cases h:i<0
   ·simp only[h,if_true]<;>lia
   ·simp only[h,if_false]<;>lia
theorem m9(eH:List Value)(lo hi:Option Int):slicePick eH.toArray lo hi none=((eH.drop (HT.sIx eH.length 0 lo)).take (HT.sIx eH.length eH.length hi-HT.sIx eH.length 0 lo)).toArray:=by obtain⟨h1,h2,h3⟩:=qC lo hi eH.toArray.size;unfold slicePick;rw[h1,h2,h3];simp only[sliceRange_one,pick_run,Al]<;>rfl
def aqh(K:Ad):V->Option Int->Option Int->Hp->VK->Prop:=λx lo hi H Q=>∃a xs,x=.ref a/\aJ K H a xs/\∀p,H p=none->Q (.ref p) (upd H p (.lst (sj xs lo hi)))
theorem afl:rG X (aqh X.K):=by intro j s σ H x v vl vu lo g sl Q I p t pl C h;obtain⟨a,J,rfl,T,q⟩:=h;cases p;obtain⟨a1,r,l,hz⟩:=I.list T;have U:=r.length;refine⟨"list",_,slot_list_getitem.lookup,l.isList.typeIs,?_⟩;refine wpAny_getItem_list_slice l.isList t pl C .none (by simp) ?_ (by rw[Al]<;>lia);rw[m9,<-U];refine⟨.ref s.heap.objs.size,_,I.laid (t':=s.toks) (o:=.lst (sj J lo g)) (λb ob q=>As _ q) (Aj _) ?_,rfl,q _ (I.hok.fresh (Aj _))⟩;exact⟨AM (i9 J lo g) hz,_,0,(r.drop (HT.sIx J.length 0 lo)).take (HT.sIx J.length J.length g-HT.sIx J.length 0 lo),Db _ rfl⟩
def ae:V->Bool
 |.non=>true
 |.bl _=>true
 |.int _=>true
 |.str _=>true
 |_=>false
def iN:V->V->Bool
 |.non,.non=>true
 |.bl a,.bl b=>a==b
 |.bl a,.int b=>(if a then 1 else 0)==b
 |.int a,.bl b=>a==(if b then 1 else 0)
 |.int a,.int b=>a==b
 |.str a,.str b=>a==b
 |_,_=>false
theorem lM{y x:V}{v:Value}(g:zu y u)(J:zu x v)(l:ae y=true)(j:ae x=true):SeqAt.EqAt A s u v (iN y x):=by
 cases y with
 |non=>
  cases g;cases x with
  |non=>cases J;exact SeqAt.EqAt.same _
  |bl b=>cases J;exact SeqAt.EqAt.none_bool b
  |int b=>obtain⟨t,rfl⟩:=J;exact SeqAt.EqAt.none_int b t
  |str b=>obtain⟨t,rfl⟩:=J;exact SeqAt.EqAt.none_str b t
  |_=>exact absurd (show false=true from j) Ay
 |bl a=>
  cases g;cases x with
  |non=>cases J;exact SeqAt.EqAt.bool_none a
  |bl b=>cases J;exact SeqAt.EqAt.bool_bool a b
  |int b=>obtain⟨t,rfl⟩:=J;exact SeqAt.EqAt.bool_int a b t
  |str b=>obtain⟨t,rfl⟩:=J;exact SeqAt.EqAt.bool_str a b t
  |_=>exact absurd (show false=true from j) Ay
 |int a=>
  obtain⟨U,rfl⟩:=g;cases x with
  |non=>cases J;exact SeqAt.EqAt.int_none a U
  |bl b=>cases J;exact SeqAt.EqAt.int_bool a U b
  |int b=>obtain⟨t,rfl⟩:=J;exact SeqAt.EqAt.int_int a U b t
  |str b=>obtain⟨t,rfl⟩:=J;exact SeqAt.EqAt.int_str a U b t
  |_=>exact absurd (show false=true from j) Ay
 |str a=>
  obtain⟨U,rfl⟩:=g;cases x with
  |non=>cases J;exact SeqAt.EqAt.str_none a U
  |bl b=>cases J;exact SeqAt.EqAt.str_bool a U b
  |int b=>obtain⟨t,rfl⟩:=J;exact SeqAt.EqAt.str_int a U b t
  |str b=>obtain⟨t,rfl⟩:=J;exact SeqAt.EqAt.str_str a U b t
  |_=>exact absurd (show false=true from j) Ay
 |_=>exact absurd (show false=true from l) Ay
def uz(x:V)(u:Value):Bool:=match u with
 |.none=>iN .non x
 |.bool b=>iN (.bl b) x
 |.int i _=>iN (.int i) x
 |.str z _=>iN (.str z) x
 |_=>false
theorem adx{x y:V}(r:zu y u)(f:ae y=true):uz x u=iN y x:=by
 cases y with
 |non=>cases r;rfl
 |bl b=>cases r;rfl
 |int i=>obtain⟨t,rfl⟩:=r;rfl
 |str z=>obtain⟨t,rfl⟩:=r;rfl
 |_=>exact absurd (show false=true from f) Ay
theorem g0{x:V}:∀{xs:List V} {us:List Value},zq xs us->xs.all ae=true->us.any (uz x)=xs.any λy=>iN y x
 |_,_,.nil,_=>rfl
 |y::xs,u::us,.cons r t,f=>by rw[Dx,A1] at f;rw[BY,BY,adx r f.1,g0 t f.2]
theorem dh{A:Around}{s:Shared}{x:V}{v:Value}(U:zu x v)(g:ae x=true):∀{xs:List V} {us:List Value},zq xs us->xs.all ae=true->∀u∈us,SeqAt.EqAt A s u v (uz x u)
 |_,_,.nil,_=>λu J=>by cases J
 |y::xs,u::us,.cons r t,f=>λj J=>by
  rw[Dx,A1] at f;rcases Ao.mp J with rfl|J
  ·rw[adx r f.1];exact lM r U f.1 g
  ·exact dh U g t f.2 j J
def u3(x:V)(xs:List V):Bool:=xs.any λy=>iN y x
def rIn(K:Ad)(neg:Bool):R2:=λx y H Q=>∃p xs,y=.ref p/\(aJ K H p xs\/cB K H p xs)/\ae x=true/\xs.all ae=true/\Q (.bl (if neg then !u3 x xs else u3 x xs)) H
theorem yY:kh X (compareOp .In) (rIn X.K false):=by
 intro g s C H x y v u Q I j o h;obtain⟨p,T,rfl,U,l,fs,q⟩:=h;cases o;rcases U with U|U
 ·obtain⟨J,r,pl,t⟩:=I.list U;refine SeqAt.in_listAt (uz x) pl.isList (λw hw=>dh j l r fs w (by simpa using hw)) ⟨.bl _,H,I,rfl,?_⟩;rw[show J.toArray.any (uz x)=J.any (uz x) by simp,g0 r fs];exact q
 ·obtain⟨J,r,pl,t⟩:=I.tuple U;refine SeqAt.in_tupleAt (uz x) pl (λw hw=>dh j l r fs w (by simpa using hw)) ⟨.bl _,H,I,rfl,?_⟩;rw[show J.toArray.any (uz x)=J.any (uz x) by simp,g0 r fs];exact q
theorem qU:kh X (compareOp .NotIn) (rIn X.K true):=by
 intro g s C H x y v u Q I j o h;obtain⟨p,T,rfl,U,l,fs,q⟩:=h;cases o;rcases U with U|U
 ·obtain⟨J,r,pl,t⟩:=I.list U;refine SeqAt.notIn_listAt (uz x) pl.isList (λw hw=>dh j l r fs w (by simpa using hw)) ⟨.bl _,H,I,rfl,?_⟩;rw[show J.toArray.any (uz x)=J.any (uz x) by simp,g0 r fs];exact q
 ·obtain⟨J,r,pl,t⟩:=I.tuple U;refine SeqAt.notIn_tupleAt (uz x) pl (λw hw=>dh j l r fs w (by simpa using hw)) ⟨.bl _,H,I,rfl,?_⟩;rw[show J.toArray.any (uz x)=J.any (uz x) by simp,g0 r fs];exact q
theorem pM:x8 X (.builtin "len") (λxs H Q=>∃p ys,xs=[.ref p]/\(aJ X.K H p ys\/cB X.K H p ys)/\Q (.int ys.length) H):=by
 intro l s C H xs T Q I r h;obtain⟨p,ys,rfl,U,q⟩:=h;obtain⟨u,rfl,o⟩:=l8 r;cases o;have hn:=iB;rcases U with U|U
 ·obtain⟨g,j,pl,t⟩:=I.list U;have J:=j.length;exact Calls.call_len_list pl.isList (by simp only[Al]<;>lia) ⟨.int ys.length,H,I.tok _,⟨s.toks+1,by rw[Al,J]⟩,q⟩
 ·obtain⟨g,j,pl,t⟩:=I.tuple U;have J:=j.length;exact len_tuple pl (by simp only[Al]<;>lia) ⟨.int ys.length,H,I.tok _,⟨s.toks+1,by rw[Al,J]⟩,q⟩
theorem qX:x8 X (.builtin "len") (λxs H Q=>∃z,xs=[.str z]/\z.length<=sizeLine/\Q (.int z.length) H):=by intro J s U H xs g Q I r h;obtain⟨z,rfl,j,q⟩:=h;obtain⟨u,rfl,t,rfl⟩:=l8 r;have l:=iB;exact len_str (by lia) ⟨.int z.length,H,I.tok _,⟨_,rfl⟩,q⟩
theorem qZ:x8 X (.type "list") (λxs H Q=>∃p ys,xs=[.ref p]/\(aJ X.K H p ys\/cB X.K H p ys)/\∀l,H l=none->Q (.ref l) (upd H l (.lst ys))):=by
 intro t s σ H xs us Q I r h;obtain⟨p,ys,rfl,C,q⟩:=h;obtain⟨u,rfl,rx⟩:=l8 r;cases rx;have jw:∀(J:List Value),zq ys J->ys.length<=sizeLine->∀(U:Heap) (g:Nat),(∀b o',s.heap.get? b=some o'->U.get? b=some o')->
  U.get? s.heap.objs.size=some { cls:=.type "list",dict:=none,data:=.seq J.toArray g,slots:=#[] }->EP X t σ Q (.ref s.heap.objs.size) { s with heap:=U }:=λJ j T U g kp e=>
  ⟨.ref s.heap.objs.size,_,I.laid (t':=s.toks) kp (Aj _) (show xq X.prog X.w _ U _ (.lst ys) from⟨T,J,g,j,e⟩),rfl,q _ (I.hok.fresh (Aj _))⟩
 rcases C with C|C
 ·obtain⟨J,j,pl,T⟩:=I.list C;have a1:=j.length;obtain⟨o,ho,hc,n,hd⟩:=pl.isList;exact call_list_seq p (.inl rfl) ho hc hd (λU g kp e=>jw J j T U g kp e) (by simp only[Al]<;>lia)
 ·obtain⟨J,j,pl,T⟩:=I.tuple C;have a1:=j.length;obtain⟨o,ho,hc,n,hd⟩:=pl;exact call_list_seq p (.inr rfl) ho hc hd (λU g kp e=>jw J j T U g kp e) (by simp only[Al]<;>lia)
theorem mZ:x8 X (.type "tuple") (λxs H Q=>∃p ys,xs=[.ref p]/\((aJ X.K H p ys/\∀l,H l=none->Q (.ref l) (upd H l (.tup ys)))\/(cB X.K H p ys/\Q (.ref p) H))):=by
 intro J s C H xs us Q I r h;obtain⟨p,ys,rfl,h⟩:=h;obtain⟨u,rfl,rx⟩:=l8 r;cases rx;rcases h with⟨j,q⟩|⟨j,q⟩
 ·obtain⟨U,t,pl,T⟩:=I.list j;have a1:=t.length;refine call_tuple_list pl.isList (λg kp=>?_) (by simp only[Al]<;>lia);have I1:za X J C H { s with heap:=g }:=I.kept (t':=s.toks) kp;have I2:za X J C (upd H g.objs.size (.tup ys)) { s with heap:=g.push { cls:=.type "tuple",data:=.seq U.toArray } }:=
   I1.laid (t':=s.toks) (λb o e=>As _ e) (Aj _) (show xq X.prog X.w _ _ _ (.tup ys) from⟨T,U,t,IsTup.new _ _⟩)
  exact⟨.ref g.objs.size,_,I2,rfl,q _ (I1.hok.fresh (Aj _))⟩
 ·obtain⟨U,t,pl,T⟩:=I.tuple j;exact call_tuple_same pl ⟨.ref p,H,I,rfl,q⟩
def tyV(K:Ad)(T:String)(x:V)(H:Hp):Prop:=match x with
 |.str _=>T = "str"
 |.int _=>T = "int"
 |.ref p=>(T = "list" /\ ∃xs,aJ K H p xs)\/(T = "tuple" /\ ∃o,K.lookup p=some o/\o.cls=.type "tuple" /\ o.dict=none)\/
  (T = "dict" /\ ((∃kvs,H p=some (.dK kvs))\/∃kvs,H p=some (.dT kvs)))\/(T = "set" /\ ∃S n,H p=some (.set S n))
 |_=>False
theorem ab3{T:String}{x:V}{v:Value}(I:za X pins σ H s)(r:zu x v)(ty:tyV X.K T x H):
 s.TypeIs v T/\∀a,v=.ref a->∃ob,s.heap.get? a=some ob/\ob.dict=none:=by
 cases x with
 |str z=>
  obtain⟨t,rfl⟩:=r;cases (show T = "str" from ty);exact⟨typeIs_str s z t,λ_ e=>nomatch e⟩
 |int i=>
  obtain⟨t,rfl⟩:=r;cases (show T = "int" from ty);exact⟨typeIs_int s i t,λ_ e=>nomatch e⟩
 |ref p=>
  cases r;rcases ty with⟨rfl,xs,j⟩|⟨rfl,o,J,l,hd⟩|⟨rfl,J⟩|⟨rfl,S,n,J⟩
  ·obtain⟨C,_,pl,_⟩:=I.list j;refine⟨pl.isList.typeIs,λa e=>?_⟩;cases e;obtain⟨o,n,e,c,hd,_⟩:=pl;exact⟨o,e,hd⟩
  ·refine⟨⟨o,I.kIn p o J,l⟩,λa e=>?_⟩;cases e;exact⟨o,I.kIn _ o J,hd⟩
  ·have z:∃o,s.heap.get? p=some o/\o.ExactDict:=by
    rcases J with⟨U,J⟩|⟨U,J⟩
    ·obtain⟨_,_,_,_,o,_,_,e,ex,_⟩:=I.hok p _ J;exact⟨o,e,ex⟩
    ·obtain⟨_,_,_,_,o,_,_,e,ex,_⟩:=I.hok p _ J;exact⟨o,e,ex⟩
   obtain⟨o,e,ex⟩:=z;refine⟨⟨o,e,ex.1⟩,λa g=>?_⟩;cases g;exact⟨o,e,ex.2.1⟩
  ·obtain⟨o,_,_,_,e,ex,_⟩:=I.hok p _ J;refine⟨⟨o,e,ex.1⟩,λa g=>?_⟩;cases g;exact⟨o,e,ex.2.1⟩
 |_=>exact False.elim ty
def ard(K:Ad)(T:String)(r:V->List V->Hp->VK->Prop)(to:TE):TE:=λσ H Q=>to σ H λx H1=>tyV K T x H1/\r x [] H1 Q
def tBM(K:Ad)(T:String)(r:V->List V->Hp->VK->Prop)(to:TE)(t:TA):TE:=λσ H Q=>to σ H λx H1=>tyV K T x H1/\t σ H1 λxs H2=>r x xs H2 Q
variable {to:TE}{t:TA}{T id:String}{r:V->List V->Hp->VK->Prop}
theorem am2(pa:PlainAttrs T)(slot:Slot T name id)(j:typeOf (.builtin id)=pure (.type "method_descriptor"))(C:MtR X id r)(ho:PE X o to)
 (U:attributeBase o name X.env (eval o X.env)=eval o X.env:=by rfl) (g:(apos.endLine==eW.line)=true:=by rfl):PE X (.Call (.Attribute o name apos) [] [] eW) (ard X.K T r to):=by
 intro J s l H Q I h;refine wpAny_Call_method0_late U g (aI (ho J s l H _ I h) λv s1 ⟨x,H1,p,t,ty,q1⟩=>?_);obtain⟨h1,h2⟩:=ab3 p t ty;exact⟨T,id,pa,slot,j,h1,h2,Calls.callWith_builtin rfl (PySem.evalArgs_none (C J s1 l H1 x [] v [] Q p t .nil q1))⟩
theorem ain(pa:PlainAttrs T)(slot:Slot T name id)(p:typeOf (.builtin id)=pure (.type "method_descriptor"))(hm:MtR X id r)(ho:PE X o to)(ha:PA X (e::es) t)
 (g:attributeBase o name X.env (eval o X.env)=eval o X.env:=by rfl)
 (l:((backTo eW (starEach (e::es) X.env)).all (λx=>!x.1)&&(backToKw eW (keywordEach [] X.env)).all (λx=>x.1.isSome)
  && decide ((e::es).length+([]:List Keyword).length+(if ([]:List Keyword).isEmpty then 0 else 1)<30))=true:=by rfl)
 (j:(apos.endLine==eW.line)=true:=by rfl) (hs:Eb e es X:=by rfl) (U:Ec eW es X:=by rfl):
 PE X (.Call (.Attribute o name apos) (e::es) [] eW) (tBM X.K T r to t):=by
 intro J s C H Q I h;refine wpAny_Call_method_late g l j rfl (aI (ho J s C H _ I h) λv s1 ⟨x,H1,I1,r1,ty,q1⟩=>?_);obtain⟨h1,h2⟩:=ab3 I1 r1 ty;refine⟨T,id,pa,slot,p,h1,h2,?_⟩;have hA:=ha eW J s1 C H1 _ I1 q1;rw[hs] at hA ⊢;refine Calls.callWith_builtin (by show(false||(backTo eW (starEach es X.env)).any (·.1))=false;rw[U]<;>rfl) (Calls.evalArgs_plain ?_);exact aI hA λus s2 ⟨vs,H2,I2,r2,q2⟩=>hm J s2 C H2 x vs v us Q I2 r1 r2 q2
end
def iX(X:Cx)(id:String)(r:V->List V->Hp->VK->Prop):Prop:=
 ∀(pins:List (Addr×Obj)) (s:Shared) (σ:St) (H:Hp) (x:V) (xs:List V) (v:Value) (us:List Value) (Q:VK),za X pins σ H s->zu x v->zq xs us->r x xs H Q->
  wpAny (model X.prog X.w) X.A (call (.builtin id) (v::us)) (EP X pins σ Q) X.xe s
theorem zq.one{x:V}(h:zq [x] us):∃u,us=[u]/\zu x u:=by cases h with|cons r t=>cases t;exact⟨_,rfl,r⟩
theorem zq.two{x y:V}(h:zq [x,y] us):∃u v,us=[u,v]/\zu x u/\zu y v:=by cases h with|cons r t=>cases t with|cons q t=>cases t;exact⟨_,_,rfl,r,q⟩
theorem zq.zero:∀{us:List Value},zq [] us->us=[]
 |_,.nil=>rfl
theorem zq.dropLast(h:zq xs us):zq xs.dropLast us.dropLast:=by
 induction h with
 |nil=>exact .nil
 |cons r t J=>
  cases t with|nil=>exact .nil|cons q U=>exact .cons r J
theorem zq.eraseIdx:∀{xs:List V} {us:List Value} (i:Nat),zq xs us->zq (xs.eraseIdx i) (us.eraseIdx i)
 |_,_,_,.nil=>.nil
 |_,_,0,.cons _ t=>t
 |_,_,i+1,.cons r t=>.cons r (zq.eraseIdx i t)
theorem uG(l:List α):l.eraseIdx (l.length-1)=l.dropLast:=by
 induction l with
 |nil=>rfl
 |cons a r J=>
  cases r with
  |nil=>rfl
  |cons b r=>
   have e:(a::b::r).length-1=((b::r).length-1)+1:=by have h1:(a::b::r).length=r.length+2:=rfl;have h2:(b::r).length=r.length+1:=rfl;lia
   rw[e,B1,J]
   all_goals rfl
theorem o4{α:Type}:∀(l:List α) (i:Nat),(l.eraseIdx i).length<=l.length
 |[],_=>Aj _
 |_::_,0=>BV _
 |_::r,i+1=>DB (o4 r i)
section
variable {ys:List V}
theorem za.lset{its':List Value}{f:Array Value->Array Value}(I:za X pins σ H s)(J:H l=some (.lst xs))
 (e:s.heap.get? l=some { cls:=.type "list",data:=.seq eH.toArray n }) (U:f eH.toArray=its'.toArray) (g:zq ys its') (hz:ys.length<=sizeLine) (p:0<t':=by walk_at "t"):
 za X pins σ (upd H l (.lst ys)) { s with heap:=s.heap.update l (Obj.mapSeq f),toks:=t' }:=by
 have q:=PySem.IsL.update e f;rw[U] at q;refine I.write (x:=l) (e:=l) (by rw[J];exact trivial) (.inl rfl) (λr u j o=>(Ef s.heap (Obj.mapSeq f) (AF j)).trans o) ⟨_,q⟩ ?_;exact⟨hz,its',_,g,q⟩
theorem za.lnew(I:za X pins σ H s)(J:zq ys eH)(hz:ys.length<=sizeLine)(U:0<t':=by walk_at "t"):
 za X pins σ (upd H s.heap.objs.size (.lst ys)) { s with heap:=s.heap.push { cls:=.type "list",data:=.seq eH.toArray },toks:=t' }:=
 I.laid (λ_ _ q=>As _ q) (Aj _) ⟨hz,eH,0,J,Db _ rfl⟩
theorem za.fresh(I:za X pins σ H s):H s.heap.objs.size=none:=I.hok.fresh (Aj _)
theorem za.lstM(I:za X pins σ H s)(J:H l=some (.lst xs)):xs.length<=sizeLine/\∃(eH:List Value) (n:Nat),zq xs eH/\xs.length=eH.length/\s.heap.get? l=some { cls:=.type "list",data:=.seq eH.toArray n }:=by obtain⟨z,eH,n,r,e⟩:=I.hok l _ J;exact⟨z,eH,n,r,r.length,e⟩
theorem ach(h:n<=sizeLine):Builtin.List.listTooLong n=false:=by unfold Builtin.List.listTooLong;exact Au (by lia)
end
def ah4:V->List V->Hp->VK->Prop:=λx vs H Q=>∃l xs y,x=.ref l/\vs=[y]/\H l=some (.lst xs)/\xs.length<sizeLine/\Q .non (upd H l (.lst (xs++[y])))
theorem zT:iX X "list.append" ah4:=by intro U s t H x C v T Q I j o h;obtain⟨l,xs,y,rfl,rfl,g,hz,q⟩:=h;cases j;obtain⟨u,rfl,p⟩:=o.one;obtain⟨z,J,n,r,hl,e⟩:=I.lstM g;refine call_meets F.slot_list_append ⟨_,e,rfl⟩ F.entry_list_append (F.args_list_append_2 _ _) (PySem.list_append l J.toArray n u (by rw[Al];lia)) ⟨e,?_⟩;refine⟨.non,_,I.lset (its':=J++[u]) g e (by simp) (r.append (.cons p .nil)) ?_,rfl,q⟩;rw[Ac,A7];lia
def afn:V->List V->Hp->VK->Prop:=λx vs H Q=>∃l b xs zs,x=.ref l/\vs=[.ref b]/\H l=some (.lst xs)/\H b=some (.lst zs)/\xs.length+zs.length<=sizeLine/\Q .non (upd H l (.lst (xs++zs)))
theorem zH:iX X "list.extend" afn:=by
 intro o s σ H x vs v us Q I t C h;obtain⟨l,b,xs,zs,rfl,rfl,p,T,hz,q⟩:=h;cases t;obtain⟨u,rfl,ru⟩:=C.one;cases ru;obtain⟨z,U,n,r,hl,e⟩:=I.lstM p;obtain⟨z2,J,n2,r2,a1,e2⟩:=I.lstM T;have j:U.toArray.size+J.toArray.size<=sizeLine:=by rw[Al,Al];lia
 have g:¬(!U.toArray.isEmpty&&Builtin.List.listTooLong (U.toArray.size+J.toArray.size))=true:=by rw[ach j,DR];exact Ay
 refine call_meets F.slot_list_extend ⟨_,e,rfl⟩ F.entry_list_extend (F.args_list_extend_2 _ _)
  (AutoSeq1.list_extend_list_list_0 l U.toArray n b J.toArray n2 g (by rw[Al];lia) (by lia)) ⟨e,e2,?_⟩
 refine⟨.non,_,I.lset (its':=U++J) p e (by simp) (r.append r2) ?_,rfl,q⟩;rw[Ac];lia
def aq4:V->List V->Hp->VK->Prop:=λx vs H Q=>∃l xs y,x=.ref l/\vs=[]/\H l=some (.lst xs)/\xs[xs.length-1]?=some y/\Q y (upd H l (.lst xs.dropLast))
theorem am0:iX X "list.pop" aq4:=by
 intro j s σ H x vs v us Q I p t h;obtain⟨l,xs,y,rfl,rfl,o,C,q⟩:=h;cases p;have U:=t.zero;subst U;obtain⟨z,J,n,r,T,e⟩:=I.lstM o;obtain⟨u,hu,ru⟩:=r.get C;have g:J.toArray[J.toArray.size-1]?=some u:=by show J.toArray[J.length-1]?=some u;rw[<-Be,<-T];exact hu
 refine call_meets F.slot_list_pop ⟨_,e,rfl⟩ F.entry_list_pop (F.args_list_pop_1 _) (MeetsSeq.list_pop_last l J.toArray n u g (by rw[Al];lia)) ⟨e,?_⟩;refine⟨y,_,I.lset (its':=J.dropLast) o e ?_ r.dropLast ?_,ru,q⟩
 ·show J.toArray.eraseIdxIfInBounds (J.toArray.size-1)=J.dropLast.toArray;rw[Al,CW,uG]
 ·rw[List.length_dropLast];lia
def ajv:V->List V->Hp->VK->Prop:=λx vs H Q=>∃l xs i k y,x=.ref l/\vs=[.int i]/\H l=some (.lst xs) /\ -(2 ^ 63)<=i/\i<2 ^ 63/\seqIndex? i xs.length=some k/\xs[k]?=some y/\Q y (upd H l (.lst (xs.eraseIdx k)))
theorem acx:iX X "list.pop" ajv:=by
 intro g s σ H x vs v us Q I o p h;obtain⟨l,C,i,k,y,rfl,rfl,j,h1,h2,T,hy,q⟩:=h;cases o;obtain⟨u,rfl,ru⟩:=p.one;obtain⟨t,rfl⟩:=ru;obtain⟨z,J,n,r,hl,e⟩:=I.lstM j;obtain⟨w,hw,U⟩:=r.get hy;refine call_meets F.slot_list_pop ⟨_,e,rfl⟩ F.entry_list_pop (F.args_list_pop_2 _ _)
  (MeetsSeq.list_pop_at l J.toArray n i t k w (fitsIndex_both h1 h2) (by rw[Al,<-hl];exact T) (by rw[<-Be];exact hw) (by rw[Al];lia)) ⟨e,?_⟩
 refine⟨y,_,I.lset (its':=J.eraseIdx k) j e ?_ (r.eraseIdx k) ?_,U,q⟩
 ·show J.toArray.eraseIdxIfInBounds k=(J.eraseIdx k).toArray;rw[CW]
 ·have:=o4 C k;lia
def atf:R2:=λx y H Q=>∃l b xs zs,x=.ref l/\y=.ref b/\H l=some (.lst xs)/\H b=some (.lst zs)/\xs.length+zs.length<=sizeLine/\∀p,H p=none->Q (.ref p) (upd H p (.lst (xs++zs)))
theorem ama:kh X (binaryOp .Add) atf:=by
 intro g s σ H x y v u Q I j o h;obtain⟨l,b,xs,zs,rfl,rfl,p,t,hz,q⟩:=h;cases j;cases o;obtain⟨z,U,n,r,hl,e⟩:=I.lstM p;obtain⟨z2,J,n2,C,T,e2⟩:=I.lstM t;refine PySem.P.add_list e e2 ?_ (by rw[Al,Al];lia);have ea:U.toArray++J.toArray=(U++J).toArray:=by simp
 rw[ea];exact⟨.ref _,_,I.lnew (t':=s.toks) (r.append C) (by rw[Ac];lia),rfl,q _ I.fresh⟩
section
variable {w:World}
set_option maxRecDepth 100000 in
end
end L2
namespace Att
open PySem PySem.W PySem.Calls PyProof.Rows
theorem jP{P:Params} :∀(J:List Int) (vs:List Value),WellAll P h vs (J.map WData.int)->IntsAre vs J:=by
 intro J
 induction J with
 |nil=>
  intro vs w;rw[CQ] at w;cases w;exact .nil
 |cons n J U=>
  intro vs w;rw[AK] at w;cases w with
  |cons a b=>
   cases a;exact .cons _ _ (U _ b)
theorem yf{l:OpenLaw}(hn:l.most=some n){P:Params}{args:List WData}{U:List Value}
 (g:l.row.toRowW.claim.pre args=true) (C:WellAll P h U args):
 ∃a vs J,U=[Value.ref a]/\args=[WData.list (J.map WData.int)]/\h.get? a=some { cls:=.type "list",data:=.seq vs.toArray }/\IntsAre vs J/\J.length<=n:=by
 have I:WShape.hasAll [] args [.list .int]=true:=(pre_splitW g).1;have T:l.pre.holds [] { args:=args }=true:=(pre_splitW g).2;obtain⟨d,r,rfl,h1,h2⟩:=hasAllW_cons I;obtain rfl:=hasAllW_nil h2;obtain⟨xs,rfl,h3⟩:=hasW_list h1;obtain⟨J,rfl⟩:=items_int h3;have j:J.length<=n:=by
  unfold OpenLaw.pre at T;have p:(WTm.not (.lt (.lit (.int (n:Int))) (.len (.arg 0)))).holds [] { args:=[.list (J.map .int)] }=true:=by have p:=(holds_andW T).1;rw[hn] at p;exact p
  have t:=condW_of p (w_not (w_lt w_lit (w_len_list (w_arg rfl))));rw[Ab] at t;refine Nat.le_of_not_lt λq=>?_;have q':(n:Int)<((J.length:Nat):Int):=by lia
  first
   |(rw[AE q'] at t;exact absurd t (by decide))
   |(simp at t;lia)
 cases C with
 |cons w1 w2=>
  cases w2;cases w1 with|list ho o=>exact⟨_,_,J,rfl,rfl,ho,jP J _ o,j⟩
theorem yk(l:OpenLaw)(args:List WData):l.row.toRowW.claim.post args (.bool true) args=true:=
 postW_of (r:=l.row.toRowW) (X:=(true==true))
  (show WShape.has [] (.bool true) .bool=true by first|rfl|decide|simp[WShape.has,WShape.arms,WShape.armsAll])
  (show(WTm.eq .res (.lit (.bool true))).value [] { args:=args,res:=some (.bool true),after:=args }=some (.bool (true==true)) from w_eq_bool (w_res rfl) w_lit) rfl
theorem attach_callZ{l:OpenLaw}{q:Program}{loose:List Str}{XP:(Str->Option Value)->Heap->Prop}{as0:List Addr}{N t:Nat}{K:Params->Frag}{d:DefRec}
 (hn:l.most=some n) (I:d.params.defaults=[]) (ek:∀P,as0=(K P).map (·.1)) (T:0<t)
 (call:∀(w:World) (s₀ J:Shared) (mg mb:Str->Option Value) (fa:Addr) (o:Obj) (pm cd gh:Value) (a:Addr) (vs:List Value) (U:List Int),
  Ground q loose [] XP w s₀ mg mb J.heap->(K w.params).In J.heap->0<J.toks->
  J.heap.get? fa=some o->o.data=.func (docDef d.name d.params d.body d.scope pm cd gh)->J.heap.CodeRec cd d.name->mg d.name=some (.ref fa)->
  J.heap.get? a=some { cls:=.type "list",data:=.seq vs.toArray }->IntsAre vs U->U.length<=n->J.gens=#[]->
  codeAny (model l.prog w) callerA (.call (.ref fa) ⟨[.ref a],[]⟩) (λr s'=>r=.ok (.ret (.bool true))/\OldK J.heap s'.heap/\s'.os=J.os/\AllBare s'.gens) J):
 WalkX q loose XP (PySem.W.X.obsZ as0) (PySem.W.X.valZ K N t) l.row.toRowW d [] (λf vs=>PySem.call f vs):=by
 intro w s₀ J mg mb G Y fa o pm cd gh dV kV ho hd a1 hD a2 hg args a5 as L j ag al a3 au;obtain rfl:dV=.none:=Dflts.none hD I;obtain rfl:kV=.none:=Dflts.noKw hD;obtain⟨a,vs,U,rfl,rfl,p,g,C⟩:=yf hn j a3;obtain⟨_,zi,_,zt⟩:=X.z_facts ek Y;have eP:∀U:List Int,ofPy (PyData.list (U.map PyData.int))=WData.list (U.map WData.int):=λU=>by
  simp only[ofPy];congr 1
  induction U with|nil=>simp[ofPys]|cons n r ih=>simp only[AK,ofPys,ofPy,ih]
 rw[<-eP] at L;have KX:=InK.keeps w s₀.heap J.heap zi L.keeps;have a4:0<J.toks:=AI T (X.script_toks L zt);refine enter_call (codeAny_mono (call w s₀ J mg mb fa o pm cd gh a vs U G KX a4 ho (fd_plain hd) a1 a2 p g C hg) λr s' hq=>?_);obtain⟨rfl,h2,h3,h4⟩:=hq;exact⟨.inl ⟨.bool true,.bool true,[],rfl,λ_=>rfl,.bool true,yk l _,λ_=>⟨List.Pairwise.nil,λ_ hm=>(nomatch hm)⟩⟩,h2,h3,h4⟩
section
variable {w:World}{K:Frag}
end
end Att
namespace L2
open PySem PySem.Spec PyProof.Rows
theorem o7:∀{vs:List Value} {J:List Int},IntsAre vs J->zq (J.map V.int) vs
 |_,_,.nil=>.nil
 |_,_,.cons n t h=>.cons ⟨t,rfl⟩ (o7 h)
def vd(s:Stmt):Arguments:=match s with
 |.FunctionDef _ a _ _ _ _ _ _ _ _=>a
 |_=>{ posonlyargs:=[],args:=[],vararg:=none,kwonlyargs:=[],kw_defaults:=[],kwarg:=none,defaults:=[] }
def jh(s:Stmt):List Stmt:=match s with
 |.FunctionDef _ _ b _ _ _ _ _ _ _=>b
 |_=>[]
def qy(s:Stmt):Scope:=match s with
 |.FunctionDef _ _ _ _ _ _ J _ _ _=>J
 |_=>{ kind:=.function,names:=[],isGenerator:=false,isCoroutine:=false }
abbrev CX0:wJ:=λ_ _ _ _ _ _=>False
abbrev E0:XK:=λ_ _ _=>False
theorem anp :uF CX0 X E0:=λ_ _ _ _ _ _ _ h=>h.elim
structure Fun(K:Ad)(x eK:Str)(st:Stmt)(f:Addr)(fd:FuncData):Prop where
 ex:∃(oc:Value) (od:Option Addr) (kV gh pm:Value) (an:Option Addr) (fm ct:Value) (sy:Array (Option Value)),
  fd=PySem.W.fnOf x eK (vd st) (jh st) (qy st) .none kV gh pm an fm ct/\K.lookup f=some ⟨oc,od,.func fd,sy⟩/\PySem.W.codeIn K fm eK=true
 kp:PySem.W.keepIn K (.ref f)=true
section
variable {P:Program}{w:World}{K:Ad}
theorem Fun.ok{N:List Str}{k:Nat}(F:Fun K x eK st f fd)(S:aG N ps (qy st))(len:∀vs H Q E,sp vs H Q E->vs.length=ps.length)
 (J:∀(fm:Value) (A:Around) (outer:List Env) (s:Shared) (H:Hp) (vs:List V) (Q:VK) (E:XK),wb k (A.deeper (envOfC eK (qy st) s.heap.objs.size f fm))->sp vs H Q E->
  ∃t,fN (cn CX0 P w K mg base N eK (qy st) f fm A outer s H E).nox (jh st) t/\t { nx:=λ_ H'=>Q .non H',rt:=Q } (start N vs) H):bA P w K mg base CX0 (k+1) f fd ps sp:=by
 obtain⟨p,r,kV,j,pm,an,fm,C,l,rfl,lk,U⟩:=F.ex;refine aby lk U S len λA outer s H vs Q E o g=>?_;obtain⟨t,h,q⟩:=J fm A outer s H vs Q E o g;exact⟨t,h.nox,q⟩
theorem akx{kV:Value}(l:K.lookup f=some ⟨oc,od,.func (PySem.W.fnOf x eK (vd st) (jh st) (qy st) .none kV gh pm an fm ct),sy⟩)
 (c:PySem.W.codeIn K fm eK=true) (k:PySem.W.keepIn K (.ref f)=true):Fun K x eK st f (PySem.W.fnOf x eK (vd st) (jh st) (qy st) .none kV gh pm an fm ct):=⟨⟨oc,od,kV,gh,pm,an,fm,ct,sy,rfl,l,c⟩,k⟩
end
theorem oO(h:n<=1000):n<sizeLine:=CG h (by decide)
theorem pv(i:Nat)(U:X.N[i]?=some x:=by rfl)(g:Vis X.env.scope x:=by first|exact Or.inl rfl|exact Or.inr (Or.inl rfl)|exact Or.inr (Or.inr rfl))(hd:Ed x:=by decide)
 (J:Ee x:=by decide):PE X (.Name x pos) (ajj i):=ajt U g hd J
section
variable [DecidableEq κ]
end
end L2
set_option maxHeartbeats 8000000
theorem aqn{a b c:Nat}(h:a<b:=by assumption)(k:b<=c:=by assumption):a<c:=AI h k
theorem ae8{a b c:Nat}(h:a<=b:=by assumption)(k:b<c:=by assumption):a<c:=CG h k
theorem an5{a b c:Nat}(h:a<=b:=by assumption)(k:b<=c:=by assumption):a<=c:=AM h k
theorem abd{a b c:Nat}(h:a<b:=by assumption)(k:b<c:=by assumption):a<c:=Nat.lt_trans h k
theorem agy{a b c:Nat}(h:a<=b:=by assumption)(k:b<=c:=by decide):a<=c:=AM h k
theorem als{a b:Nat}(h:a<=b:=by assumption):a<b+1:=Nat.lt_succ_of_le h
theorem atc{a b:Nat}(h:a<=b:=by assumption):a<=b+1:=BW h
theorem vH{a b:Nat}(h:a<b:=by assumption):a<=b:=Bi h
theorem an3{a b:Nat}(h:a<b:=by assumption):a≠b:=AV h
theorem aqk{a:Nat}(h:a≠0:=by assumption):0<a:=Nat.pos_of_ne_zero h
theorem amt{a b c:Nat}(h:a<b:=by assumption)(k:b<=c:=by assumption):a<=c:=AM (Bi h) k
theorem an2{a b c:Nat}(h:a<b:=by assumption):a<b+c:=AI h (BA _ _)
theorem yz{a b:Nat}(h:a=b:=by assumption):a<=b:=Nat.le_of_eq h
theorem aa9{a b:Nat}(h:¬a<b:=by assumption):b<=a:=Nat.le_of_not_lt h
theorem ar2{a b:Nat}(h:a<b+1:=by assumption):a<=b:=Nat.le_of_lt_succ h
theorem ap3{a b:Nat}(h:0<a:=by assumption)(k:0<b:=by decide):a-b<a:=Nat.sub_lt h k
theorem uH{a b c:Nat}(h:a<c:=by assumption):a-b<c:=CG (Nat.sub_le _ _) h
theorem at6{a b:Nat}(h:a<=b:=by assumption)(k:a≠b:=by assumption):a<b:=Nat.lt_of_le_of_ne h k
namespace L2
open PySem PySem.Spec PyProof.Rows
def as8:R2:=λx y H Q=>match x,y with
 |.int i,.int j=>Q (.int (i+j)) H
 |.str a,.str b=>a.length+b.length<=sizeLine/\Q (.str (a++b)) H
 |.ref l,.ref b=>∃xs zs,H l=some (.lst xs)/\H b=some (.lst zs)/\xs.length+zs.length<=sizeLine/\∀p,H p=none->Q (.ref p) (upd H p (.lst (xs++zs)))
 |_,_=>False
theorem agn:kh X (binaryOp .Add) as8:=by
 intro J s U H x y v u Q I g j h;cases x<;>cases y<;>first
  |exact False.elim h
  |exact aj3 J s U H _ _ v u Q I g j ⟨_,_,rfl,rfl,h⟩
  |exact u9 J s U H _ _ v u Q I g j ⟨_,_,rfl,rfl,h.1,h.2⟩
  |(obtain⟨l,o,h1,h2,h3,p⟩:=h;exact ama J s U H _ _ v u Q I g j ⟨_,_,l,o,rfl,rfl,h1,h2,h3,p⟩)
def KD(K:Ad)(P:Program)(w:World)(a:Addr)(kvs:List (jf×V)):Prop:=
 (a==sysModules)=false/\kvs.length<=sizeLine/\∀h:Heap,K.In h->∃vs,KV kvs vs/\h.DictOf (v9 P w) a vs
def uIx(K:Ad)(P:Program)(w:World):R2:=λx y H Q=>match x,y with
 |.str z,.int i=>z.length<=sizeLine/\∃c,dQ z.cps.toList i=some c/\Q (.str ⟨#[c]⟩) H
 |.ref p,.int i=>∃xs v,(aJ K H p xs\/cB K H p xs)/\dQ xs i=some v/\Q v H
 |.ref p,.str k=>∃kvs v,(Rd H p (.dK kvs)\/KD K P w p kvs)/\ao kvs (Sum.inr k)=some v/\Q v H
 |_,_=>False
theorem aag{slice:Expr}{vs:List (jf×Value)}{k:jf}{J:Value}{Q:VK}(I:za X pins σ H s)(dd:s.heap.DictOf (v9 X.prog X.w) a vs)(U:l5 k u=true)
 (hw:valueAt vs k=some J) (r:zu v J) (q:Q v H) (hs:subscripted slice false (.ref a) u=operate [.ref a,u] (getItem (.ref a) u)):wpAny (model X.prog X.w) X.A (subscriptTail value slice (.ref a) u) (EP X pins σ Q) X.xe s:=
 tail_any dd.typeIs Dn.lookup (wpAny_getItem_of U dd.mapOf hw ⟨v,H,I.tok _,r,q⟩) hs
theorem amx:IxR X (uIx X.K X.prog X.w):=by
 intro value slice J s T H x y v u Q I t C q g;cases x with
 |str z=>
  cases y with
  |int i=>
   obtain⟨h1,c,h2,h3⟩:=q;exact akz value slice J s T H _ _ v u Q I t C ⟨z,i,c,rfl,rfl,h1,h2,h3⟩ g
  |_=>exact q.elim
 |ref p=>
  cases y with
  |int i=>
   obtain⟨xs,j,h1,h2,h3⟩:=q;rcases h1 with h1|h1
   ·exact afc value slice J s T H _ _ v u Q I t C ⟨p,xs,i,j,rfl,rfl,h1,h2,h3⟩ g
   ·exact al8 value slice J s T H _ _ v u Q I t C ⟨p,xs,i,j,rfl,rfl,h1,h2,h3⟩ g
  |str k=>
   obtain⟨a1,j,h1,h2,h3⟩:=q;have l:zu (kV (Sum.inr k)) u:=C;cases (show v=Value.ref p from t);rcases h1 with h1|h1
   ·obtain⟨z,hd,vs,rel,r⟩:=oS I.hok h1;obtain⟨w2,hw,U⟩:=EL (v:=j) (o:=valueAt vs (Sum.inr k)) (by rw[<-h2];exact rel.val _);exact aag I r (im (P:=X.prog) (w:=X.w) l) hw U h3 g
   ·obtain⟨hd,z,r⟩:=h1;obtain⟨vs,rel,r⟩:=r s.heap I.kIn;obtain⟨w2,hw,U⟩:=EL (v:=j) (o:=valueAt vs (Sum.inr k)) (by rw[<-h2];exact rel.val _);exact aag I r (im (P:=X.prog) (w:=X.w) l) hw U h3 g
  |_=>exact q.elim
 |_=>cases y<;>exact q.elim
def aso(K:Ad):List V->Hp->VK->Prop:=λxs H Q=>match xs with
 |[.str z]=>z.length<=sizeLine/\Q (.int z.length) H
 |[.ref p]=>∃ys,(aJ K H p ys\/cB K H p ys)/\Q (.int ys.length) H
 |_=>False
theorem xM:x8 X (.builtin "len") (aso X.K):=by
 intro J s U H j g Q I r h
 match j,h with
 |[.str z],h=>exact qX J s U H _ g Q I r ⟨z,rfl,h.1,h.2⟩
 |[.ref p],h=>
  obtain⟨l,h1,h2⟩:=h;exact pM J s U H _ g Q I r ⟨p,l,rfl,h1,h2⟩
inductive Da where
 |s (v:V)
 |tup (xs:List Da)
 |lst (xs:List Da)
mutual
def Da.eq:Da->Da->Bool
 |.s v,.s w=>iN v w
 |.tup xs,.tup ys=>Da.eqs xs ys
 |.lst xs,.lst ys=>Da.eqs xs ys
 |_,_=>false
def Da.eqs:List Da->List Da->Bool
 |[],[]=>true
 |x::xs,y::ys=>Da.eq x y&&Da.eqs xs ys
 |_,_=>false
end
def kc(K:Ad)(H:Hp):Nat->V->Da->Prop
 |0,v,d=>d=.s v/\ae v=true
 |n+1,v,d=>(d=.s v/\ae v=true)\/(∃a xs ds,v=.ref a/\d=.tup ds/\cB K H a xs/\Paired (kc K H n) xs ds)\/(∃a xs ds,v=.ref a/\d=.lst ds/\aJ K H a xs/\Paired (kc K H n) xs ds)
theorem Da.eqs_range:∀(ds es:List Da),((List.range (min ds.length es.length)).all (λj=>Da.eq (ds.getD j (.s .non)) (es.getD j (.s .non)))&&ds.length==es.length)=Da.eqs ds es
 |[],[]=>by simp[Da.eqs]
 |[],e::es=>by simp[Da.eqs]
 |d::ds,[]=>by simp[Da.eqs]
 |d::ds,e::es=>by
  have J:=Da.eqs_range ds es;rw[Da.eqs,<-J];have:min (d::ds).length (e::es).length=min ds.length es.length+1:=by simp only[AJ];lia
  rw[this,List.range_succ_eq_map,Dx,List.all_map];have h2:((d::ds).length==(e::es).length)=(ds.length==es.length):=by simp
  rw[h2,Bool.and_assoc];rfl
abbrev DY:=@Da.eqs_range
theorem Paired.at{α J:Type}{F:α->J->Prop}:∀{xs:List α} {ys:List J} {j:Nat} {x:α} {y:J},Paired F xs ys->xs[j]?=some x->ys[j]?=some y->F x y
 |_,_,_,_,_,.nil,h,_=>by simp at h
 |_,_,0,_,_,.cons r _,h1,h2=>by simp at h1 h2;subst h1 h2;exact r
 |_,_,j+1,_,_,.cons _ t,h1,h2=>Paired.at (j:=j) t (by simpa using h1) (by simpa using h2)
abbrev DZ:=@Paired.at
theorem gC:∀{v:V},ae v=true->iN v v=true
 |.non,_=>rfl
 |.bl _,_=>by simp[iN]
 |.int _,_=>by simp[iN]
 |.str _,_=>by simp[iN]
theorem jb(h:ae (.ref a)=true):False:=by simp[ae] at h
theorem za.notBoth(I:za X pins σ H s){ys:List V}(h:cB X.K H a xs)(h':aJ X.K H a ys):False:=by
 obtain⟨j,_,⟨o,e,c,_⟩,_⟩:=I.tuple h;obtain⟨U,_,⟨l,p,g,J,_⟩,_⟩:=I.list h';rw[e] at g;cases g;rw[c] at J;injection J with J
 exact absurd J (by decide)
theorem pB(I:za X pins σ H s):∀(n:Nat) {m:Nat} {x:V} {d e:Da},kc X.K H n x d->kc X.K H m x e->Da.eq d e=true
 |0,m,x,d,e,h1,h2=>by
  obtain⟨rfl,f⟩:=h1;cases m with
  |zero=>obtain⟨rfl,_⟩:=h2;exact gC f
  |succ m=>
   rcases h2 with⟨rfl,_⟩|⟨a,g,j,rfl,_⟩|⟨a,g,j,rfl,_⟩
   ·exact gC f
   ·exact(jb f).elim
   ·exact(jb f).elim
 |n+1,m,x,d,e,h1,h2=>by
  have both:∀{g:List V} {j l:List Da} {m:Nat},Paired (kc X.K H n) g j->Paired (kc X.K H m) g l->Da.eqs j l=true:=by
   intro g j l m p
   induction p generalizing l with
   |nil=>intro q;cases q;rfl
   |cons r t ih=>
    intro q;cases q with|cons r' t'=>rw[Da.eqs,pB I n r r',ih t'];rfl
  rcases h1 with⟨rfl,f⟩|⟨a,g,j,rfl,rfl,C,T⟩|⟨a,g,j,rfl,rfl,C,T⟩
  ·cases m with
   |zero=>obtain⟨rfl,_⟩:=h2;exact gC f
   |succ m=>
    rcases h2 with⟨rfl,_⟩|⟨a,g,j,rfl,_⟩|⟨a,g,j,rfl,_⟩
    ·exact gC f
    ·exact(jb f).elim
    ·exact(jb f).elim
  ·cases m with
   |zero=>exact(jb h2.2).elim
   |succ m=>
    rcases h2 with⟨_,f⟩|⟨a',ys,l,o,rfl,J,U⟩|⟨a',ys,l,o,rfl,J,U⟩
    ·exact(jb f).elim
    ·cases o;cases I.tuple_inj C J;exact both T U
    ·cases o;exact(I.notBoth C J).elim
  ·cases m with
   |zero=>exact(jb h2.2).elim
   |succ m=>
    rcases h2 with⟨_,f⟩|⟨a',ys,l,o,rfl,J,U⟩|⟨a',ys,l,o,rfl,J,U⟩
    ·exact(jb f).elim
    ·cases o;exact(I.notBoth J C).elim
    ·cases o;cases I.list_inj C J;exact both T U
theorem j7{eH:Array Value}(p:PlainL h a eH):h.IsList a eH:=let ⟨o,n,e,c,_,d⟩:=p;⟨o,e,c,n,d⟩
theorem gH{ys:List V}{ds es:List Da}{vs:List Value}(px:Paired (kc X.K H n) xs ds)(py:Paired (kc X.K H m) ys es)(J:zq xs us)(U:zq ys vs)
 (r:∀{x y:V} {d e:Da} {u v:Value},kc X.K H n x d->kc X.K H m y e->zu x u->zu y v->SeqAt.EqAt A.in1 s u v (Da.eq d e)):
 ∀j (h1:j<us.toArray.size) (h2:j<vs.toArray.size),SeqAt.EqAt A.in1 s us.toArray[j] vs.toArray[j] (Da.eq (ds.getD j (.s .non)) (es.getD j (.s .non))):=by
 intro j h1 h2;have I:=px.length;have T:=py.length;have l3:=J.length;have l4:=U.length;rw[Al] at h1 h2;have g:xs[j]?=some xs[j]:=Af (by lia);have l:ys[j]?=some ys[j]:=Af (by lia);have o:ds[j]?=some ds[j]:=Af (by lia);have p:es[j]?=some es[j]:=Af (by lia);have t:us[j]?=some us[j]:=Af (by lia);have C:vs[j]?=some vs[j]:=Af (by lia);rw[Bm,Bm,o,p];exact r (DZ px g o) (DZ py l p) (DZ J g t) (DZ U l C)
theorem oM{ys:List V}{ds es:List Da}(I:za X pins σ H s)(g:A.units<cLine)(j:cB X.K H a xs)(l:cB X.K H b ys)(px:Paired (kc X.K H n) xs ds)(py:Paired (kc X.K H m) ys es)
 (o:∀{x y:V} {d e:Da} {u v:Value},kc X.K H n x d->kc X.K H m y e->zu x u->zu y v->SeqAt.EqAt A.in1 s u v (Da.eq d e)):SeqAt.RcAt A s (.ref a) (.ref b) (Da.eqs ds es):=by
 obtain⟨r,J,p,_⟩:=I.tuple j;obtain⟨t,U,ty,_⟩:=I.tuple l;have q:=SeqAt.RcAt.tuples p ty g (gH px py J U o);rw[Al,Al,<-J.length,<-U.length,px.length,py.length,DY] at q;exact q
theorem sW{ys:List V}{ds es:List Da}(I:za X pins σ H s)(l:A.units<cLine)(p:aJ X.K H a xs)(r:aJ X.K H b ys)(px:Paired (kc X.K H n) xs ds)(py:Paired (kc X.K H m) ys es)
 (t:∀{x y:V} {d e:Da} {u v:Value},kc X.K H n x d->kc X.K H m y e->zu x u->zu y v->SeqAt.EqAt A.in1 s u v (Da.eq d e)):SeqAt.RcAt A s (.ref a) (.ref b) (Da.eqs ds es):=by
 obtain⟨C,U,o,_⟩:=I.list p;obtain⟨T,j,ty,_⟩:=I.list r;by_cases g:C.toArray.size=T.toArray.size
 ·have q:=SeqAt.RcAt.lists (j7 o) (j7 ty) g l (gH px py U j t);have J:ds.length=es.length:=by rw[<-px.length,<-py.length,U.length,j.length];simpa using g
  have e:=DY ds es;rw[J,Nat.min_self] at e;rw[<-J] at e;rw[Al,<-U.length,px.length] at q;simp only[beq_self_eq_true,Bool.and_true] at e;rw[e] at q;exact q
 ·have q:=SeqAt.RcAt.lists_lengths (j7 o) (j7 ty) (by simpa using g) l;have J:ds.length≠es.length:=by rw[<-px.length,<-py.length,U.length,j.length];intro z;exact g (by simpa using z)
  have e:=DY ds es;have f:(ds.length==es.length)=false:=by simpa using J
  rw[f,DR] at e;rw[<-e];exact q
theorem lh(I:za X pins σ H s):∀(n:Nat) {m:Nat} {A:Around} {x y:V} {d e:Da} {u v:Value},A.units+n<cLine->kc X.K H n x d->kc X.K H m y e->zu x u->zu y v->SeqAt.EqAt A s u v (Da.eq d e):=by
 have J:∀{A:Around} {x:V} {u:Value} {b:Addr} {p:List V},A.units<cLine->ae x=true->zu x u->(cB X.K H b p\/aJ X.K H b p)->SeqAt.EqAt A s u (.ref b) false/\SeqAt.EqAt A s (.ref b) u false:=by
  intro A x u b p g f r h;have h':(∃C,s.heap.IsTuple b C)\/∃C,s.heap.IsList b C:=by
   rcases h with h|h
   ·obtain⟨C,_,t,_⟩:=I.tuple h;exact .inl ⟨_,t⟩
   ·obtain⟨C,_,t,_⟩:=I.list h;exact .inr ⟨_,j7 t⟩
  cases x with
  |non=>cases r;rcases h' with⟨_,t⟩|⟨_,t⟩;exact⟨.none_tuple t g,.tuple_none t g⟩;exact⟨.none_list t g,.list_none t g⟩
  |bl k=>cases r;rcases h' with⟨_,t⟩|⟨_,t⟩;exact⟨.bool_tuple k t g,.tuple_bool k t g⟩;exact⟨.bool_list k t g,.list_bool k t g⟩
  |int k=>obtain⟨tk,rfl⟩:=r;rcases h' with⟨_,t⟩|⟨_,t⟩;exact⟨.int_tuple k tk t g,.tuple_int k tk t g⟩;exact⟨.int_list k tk t g,.list_int k tk t g⟩
  |str k=>obtain⟨tk,rfl⟩:=r;rcases h' with⟨_,t⟩|⟨_,t⟩;exact⟨.str_tuple k tk t g,.tuple_str k tk t g⟩;exact⟨.str_list k tk t g,.list_str k tk t g⟩
  |_=>simp[ae] at f
 intro n
 induction n with
 |zero=>
  intro m A x y d e u v g h1 h2 T j;obtain⟨rfl,f⟩:=h1;cases m with
  |zero=>obtain⟨rfl,l⟩:=h2;exact lM T j f l
  |succ m=>
   rcases h2 with⟨rfl,l⟩|⟨b,p,es,rfl,rfl,U,py⟩|⟨b,p,es,rfl,rfl,U,py⟩
   ·exact lM T j f l
   ·cases j;exact(J (by lia) f T (.inl U)).1
   ·cases j;exact(J (by lia) f T (.inr U)).1
 |succ n ih=>
  intro m A x y d e u v g h1 h2 T j;have a2:A.in1.units+n<cLine:=by show A.units+1+n<cLine;lia
  rcases h1 with⟨rfl,f⟩|⟨a,xs,ds,rfl,rfl,o,px⟩|⟨a,xs,ds,rfl,rfl,o,px⟩
  ·cases m with
   |zero=>obtain⟨rfl,l⟩:=h2;exact lM T j f l
   |succ m=>
    rcases h2 with⟨rfl,l⟩|⟨b,p,es,rfl,rfl,U,py⟩|⟨b,p,es,rfl,rfl,U,py⟩
    ·exact lM T j f l
    ·cases j;exact(J (by lia) f T (.inl U)).1
    ·cases j;exact(J (by lia) f T (.inr U)).1
  ·cases T;cases m with
   |zero=>obtain⟨rfl,l⟩:=h2;exact(J (by lia) l j (.inl o)).2
   |succ m=>
    rcases h2 with⟨rfl,l⟩|⟨b,p,es,rfl,rfl,U,py⟩|⟨b,p,es,rfl,rfl,U,py⟩
    ·exact(J (by lia) l j (.inl o)).2
    ·cases j;by_cases a1:a=b
     ·subst a1;cases I.tuple_inj o U;have e:Da.eq (.tup ds) (.tup es)=true:=pB I (n+1) (m:=m+1) (x:=.ref a) (.inr (.inl ⟨a,xs,ds,rfl,rfl,o,px⟩)) (.inr (.inl ⟨a,xs,es,rfl,rfl,U,py⟩));rw[e];exact .same _
     ·exact .of_refs a1 (oM I (by lia) o U px py λh1 h2 r1 r2=>ih a2 h1 h2 r1 r2)
    ·cases j;obtain⟨us,vx,tx,_⟩:=I.tuple o;obtain⟨vs,vy,ty,_⟩:=I.list U;exact .tuple_list tx (j7 ty) (by lia)
  ·cases T;cases m with
   |zero=>obtain⟨rfl,l⟩:=h2;exact(J (by lia) l j (.inr o)).2
   |succ m=>
    rcases h2 with⟨rfl,l⟩|⟨b,p,es,rfl,rfl,U,py⟩|⟨b,p,es,rfl,rfl,U,py⟩
    ·exact(J (by lia) l j (.inr o)).2
    ·cases j;obtain⟨us,vx,tx,_⟩:=I.list o;obtain⟨vs,vy,ty,_⟩:=I.tuple U;exact .list_tuple (j7 tx) ty (by lia)
    ·cases j;by_cases a1:a=b
     ·subst a1;cases I.list_inj o U;have e:Da.eq (.lst ds) (.lst es)=true:=pB I (n+1) (m:=m+1) (x:=.ref a) (.inr (.inr ⟨a,xs,ds,rfl,rfl,o,px⟩)) (.inr (.inr ⟨a,xs,es,rfl,rfl,U,py⟩));rw[e];exact .same _
     ·exact .of_refs a1 (sW I (by lia) o U px py λh1 h2 r1 r2=>ih a2 h1 h2 r1 r2)
def uEq(K:Ad)(k:Nat):R2:=λx y H Q=>match x,y with
 |.ref a,.ref b=>∃n m d e,n<=k/\kc K H n (.ref a) d/\kc K H m (.ref b) e/\Q (.bl (Da.eq d e)) H
 |x,y=>agb x y=true/\Q (.bl (decide (x=y))) H
theorem am9{k:Nat}(hu:X.A.units+k<cLine):kh X (compareOp .Eq) (uEq X.K k):=by
 intro J s o H x y v u Q I p t h;cases x with
 |ref a=>
  cases y with
  |ref b=>
   obtain⟨n,m,d,e,hn,h1,h2,q⟩:=h;cases p;cases t;have jw:∀{k:Bool},k=Da.eq d e->SeqAt.RcAt X.A s (.ref a) (.ref b) k->wpAny (model X.prog X.w) X.A (compareOp .Eq (.ref a) (.ref b)) (EP X J o Q) X.xe s:=λ{k} e' r=>
    r X.prog X.w X.xe (EP X J o Q) (by rw[e'];exact⟨.bl _,H,I,rfl,q⟩)
   cases n with
   |zero=>exact(jb h1.2).elim
   |succ n=>
    cases m with
    |zero=>exact(jb h2.2).elim
    |succ m=>
     have j:X.A.in1.units+n<cLine:=by show X.A.units+1+n<cLine;lia
     rcases h1 with⟨_,f⟩|⟨a',xs,ds,C,rfl,l,T⟩|⟨a',xs,ds,C,rfl,l,T⟩
     ·exact(jb f).elim
     ·cases C;rcases h2 with⟨_,f⟩|⟨b',ys,es,U,rfl,g,py⟩|⟨b',ys,es,U,rfl,g,py⟩
      ·exact(jb f).elim
      ·cases U;exact jw rfl (oM I (by lia) l g T py λh1 h2 r1 r2=>lh I n j h1 h2 r1 r2)
      ·cases U;obtain⟨us,vx,tx,_⟩:=I.tuple l;obtain⟨vs,vy,ty,_⟩:=I.list g;exact jw rfl (.tuple_list tx (j7 ty) (by lia))
     ·cases C;rcases h2 with⟨_,f⟩|⟨b',ys,es,U,rfl,g,py⟩|⟨b',ys,es,U,rfl,g,py⟩
      ·exact(jb f).elim
      ·cases U;obtain⟨us,vx,tx,_⟩:=I.list l;obtain⟨vs,vy,ty,_⟩:=I.tuple g;exact jw rfl (.list_tuple (j7 tx) ty (by lia))
      ·cases U;exact jw rfl (sW I (by lia) l g T py λh1 h2 r1 r2=>lh I n j h1 h2 r1 r2)
  |_=>exact aip J s o H _ _ v u Q I p t h
 |_=>cases y<;>exact aip J s o H _ _ v u Q I p t h
theorem aiv{c:Addr}(J:Gl X x)(U:X.mg x=some (.ref c))(hd:Ed x:=by decide):PE X (.Name x pos) (tC (.ref c)):=vP J U (v:=.ref c) rfl hd
theorem aif{T:String}(J:Gl X x)(U:X.mg x=none)(g:bootBuiltins x=some (.type T))(j:x ≠ "__name__" := by decide)(hd:Ed x:=by decide):PE X (.Name x pos) (tC (.ty T)):=agl J U g (v:=.ty T) rfl j hd
structure Cal(P:Program)(w:World)(K:Ad)(mg:Str->Option Value)(base:Heap)(k:Nat)(x:Str)(ps:List Str)(sp:Sp):Prop where
 ex:∃f fd,bA P w K mg base CX0 k f fd ps sp/\dM K fd ps []/\PySem.W.keepIn K (.ref f)=true/\mg x=some (.ref f)
theorem ar9{k:Nat}{t:TA}(c:Cal X.prog X.w X.K X.mg X.base k x ps sp)(g:wb k X.A)(j:Gl X x)(l:PA X (e::es) t)(J:Ed x:=by decide)
 (o:Eb e es X:=by rfl) (U:Ec pos es X:=by rfl):PE X (.Call (.Name x p) (e::es) [] pos) (ail sp [] E0 t):=by
 obtain⟨f,fd,F,b,r,m⟩:=c.ex;exact afg F g j m r b .nil anp l J o U
theorem Cal.mono{P:Program}{w:World}{K:Ad}{k:Nat}(c:Cal P w K mg base j x ps sp)(h:j<=k):Cal P w K mg base k x ps sp:=by obtain⟨f,fd,F,b,J,m⟩:=c.ex;exact⟨f,fd,F.mono h,b,J,m⟩
end L2
variable {ds:List L2.Da}
namespace L2
open PySem PySem.Spec PyProof.Rows
def mK(env:Env):List (Str×NameKind)->List (Str×Addr)->List (Str×Addr)
 |[],cs=>cs
 |(n,k)::r,cs=>mK env r (if k==.free then(n,(env.cells.lookup n).getD 0)::cs else cs)
def fF(scope:Scope)(env:Env):List (Str×Addr):=mK env scope.names []
theorem rW{env:Env}:∀{names:List (Str×NameKind)} {cs:List (Str×Addr)} {p:Str×Addr},p∈mK env names cs->p∈cs\/((p.1,NameKind.free)∈names/\p.2=(env.cells.lookup p.1).getD 0)
 |[],_,_,h=>.inl h
 |(n,k)::r,cs,p,h=>by
  rcases rW (names:=r) h with q|⟨q,e⟩
  ·by_cases J:(k==NameKind.free)=true
   ·rw[AB J] at q;rcases Ao.mp q with rfl|q
    ·have:k=.free:=by simpa using J
     exact .inr ⟨by rw[this];exact Ak,rfl⟩
    ·exact .inl q
   ·rw[AC J] at q;exact .inl q
  ·exact .inr ⟨Ae _ q,e⟩
theorem rX{env:Env}{x:Str}:∀{names:List (Str×NameKind)} {cs:List (Str×Addr)},((∃c,(x,c)∈cs)\/(x,NameKind.free)∈names)->∃c,(x,c)∈mK env names cs
 |[],_,.inl h=>h
 |[],_,.inr h=>by simp at h
 |(n,k)::r,cs,h=>by
  refine rX (names:=r) ?_;rcases h with⟨c,h⟩|h
  ·left;by_cases J:(k==NameKind.free)=true
   ·rw[AB J];exact⟨c,Ae _ h⟩
   ·rw[AC J];exact⟨c,h⟩
  ·rcases Ao.mp h with e|h
   ·left;injection e with U g
    subst U;subst g;exact⟨_,Ak⟩
   ·exact .inr h
theorem fO{x:Str}:∀{l:List (Str×Addr)} {c:Addr},(x,c)∈l->∃J,l.lookup x=some J
 |(n,d)::r,c,h=>by
  rw[Bo];cases U:x==n with
  |true=>exact⟨d,rfl⟩
  |false=>
   rcases Ao.mp h with e|h
   ·injection e with g _;subst g;simp at U
   ·exact fO h
theorem jO(h:∀n,(n,NameKind.free)∈scope.names->∃c,env.cells.lookup n=some c):closureFor scope env=pure (fF scope env):=by
 unfold closureFor fF;have key:∀(names:List (Str×NameKind)) (J:List (Str×Addr)),(∀n,(n,NameKind.free)∈names->∃c,env.cells.lookup n=some c)->
  (forIn names J λx (r:List (Str×Addr))=>(match x with|(name,kind)=>if kind==NameKind.free then do let a <-cellOf env name;pure (ForInStep.yield ((name,a)::r)) else pure (ForInStep.yield r):Sem (ForInStep (List (Str×Addr)))))=pure (mK env names J):=by
  intro names
  induction names with
  |nil=>intro J _;rfl
  |cons p r t=>
   intro J U;obtain⟨n,k⟩:=p;rw[BS];cases g:k==NameKind.free with
   |true=>
    have j:k=.free:=by simpa using g
    subst j;obtain⟨c,C⟩:=U n Ak;have e:cellOf env n=pure c:=by unfold cellOf;rw[C]
    simp only[beq_self_eq_true,if_true,e];have l:mK env ((n,NameKind.free)::r) J=mK env r ((n,c)::J):=by show mK env r _=_;rw[C];rfl
    rw[l];exact t ((n,c)::J) λm o=>U m (Ae _ o)
   |false=>
    simp only[g,BO,if_false];have l:mK env ((n,k)::r) J=mK env r J:=by show mK env r (if (k==NameKind.free)=true then _ else _)=_;rw[g];rfl
    rw[l];exact t J λm o=>U m (Ae _ o)
 exact(Bt (· >>= pure) (key scope.names [] h))
theorem wy{env:Env}{x:Str}:∀{names:List (Str×NameKind)},
 (names.map λ(n,k)=>if (k==NameKind.free&&env.scope.kind==.function&&env.kindOf n==some .cell) then(n,NameKind.cell) else(n,k)).lookup x
  = (names.lookup x).map λk=>if (k==NameKind.free&&env.scope.kind==.function&&env.kindOf x==some .cell) then NameKind.cell else k
 |[]=>rfl
 |(n,k)::r=>by
  have j:=@wy env x r;show List.lookup x ((if (k==NameKind.free&&env.scope.kind==.function&&env.kindOf n==some .cell)=true then(n,NameKind.cell) else(n,k))::_)=_;cases U:x==n with
  |true=>
   have g:x=n:=by simpa using U
   subst g;by_cases J:(k==NameKind.free&&env.scope.kind==.function&&env.kindOf x==some .cell)=true
   ·rw[AB J];simp only[Bo,beq_self_eq_true,Option.map_some];rw[AB J]
   ·rw[AC J];simp only[Bo,beq_self_eq_true,Option.map_some];rw[AC J]
  |false=>
   by_cases J:(k==NameKind.free&&env.scope.kind==.function&&env.kindOf n==some .cell)=true
   ·rw[AB J];simp only[Bo,U];exact j
   ·rw[AC J];simp only[Bo,U];exact j
def Cx.comp(X:Cx)(scope:Scope)(T:List Str)(C:Addr)(fp:List Addr)(s₀:Shared)(H₀:Hp):Cx:=
 { X with N:=X.N++T,s₀:=s₀,H₀:=H₀,env:=compEnvC scope (fF scope X.env) C X.env,outer:=X.stack,ex:=fp,fn:=λ_=>false,xe:=λ_ _=>False }
structure ji(X:Cx)(scope:Scope):Prop where
 kind:scope.kind=.function
 nocell:∀y∈scope.names,y.2≠.cell
 names:∀y∈scope.names,y.2=.local->scope.names.lookup y.1=some .local
 free:∀n,scope.names.lookup n=some .free->X.env.kindOf n=some .cell\/X.env.kindOf n=some .free
 freeM:∀n,(n,NameKind.free)∈scope.names->X.env.kindOf n=some .cell\/X.env.kindOf n=some .free
 apart:∀x∈X.N,scope.names.lookup x≠some .local
theorem ji.clo(S:ji X scope)(I:za X pins σ H s):closureFor scope X.env=pure (fF scope X.env):=
 jO λn h=>I.ok.has n (S.freeM n h)
theorem ji.cl_old(S:ji X scope)(I:za X pins σ H s){c:Addr}(h:(fF scope X.env).lookup x=some c):X.env.cells.lookup x=some c:=by
 rcases rW (Bs h) with q|⟨q,e⟩
 ·simp at q
 ·obtain⟨d,hd⟩:=I.ok.has x (S.freeM x q);have J:c=(X.env.cells.lookup x).getD 0:=e;rw[hd] at J ⊢;rw[J];rfl
theorem ji.cl_has(_:ji X scope)(h:scope.names.lookup x=some .free):∃c,(fF scope X.env).lookup x=some c:=by obtain⟨c,J⟩:=rX (env:=X.env) (names:=scope.names) (cs:=[]) (x:=x) (.inr (Bs h));exact fO J
theorem ji.kindOf(S:ji X scope)(h:(compEnvC scope (fF scope X.env) C X.env).kindOf x=some .cell\/(compEnvC scope (fF scope X.env) C X.env).kindOf x=some .free):scope.names.lookup x=some .free:=by
 have e:(compEnvC scope (fF scope X.env) C X.env).kindOf x=(scope.names.lookup x).map λk=>if (k==NameKind.free&&X.env.scope.kind==.function&&X.env.kindOf x==some .cell) then NameKind.cell else k:=wy
 rw[e] at h;cases J:scope.names.lookup x with
 |none=>rw[J] at h;rcases h with h|h<;>cases h
 |some k=>
  rw[J] at h;cases k with|free=>rfl|cell=>exact absurd rfl (S.nocell _ (Bs J))|_=>rcases h with h|h<;>cases h
theorem ji.vis(S:ji X scope)(g:x∈X.N)(h:Vis (compEnvC scope (fF scope X.env) C X.env).scope x):scope.names.lookup x=some .free:=by
 rcases h with h|h|h
 ·exfalso;have e:(compEnvC scope (fF scope X.env) C X.env).kindOf x=(scope.names.lookup x).map λk=>if (k==NameKind.free&&X.env.scope.kind==.function&&X.env.kindOf x==some .cell) then NameKind.cell else k:=wy
  have J:(compEnvC scope (fF scope X.env) C X.env).kindOf x=some .local:=h;rw[e] at J;cases U:scope.names.lookup x with
  |none=>rw[U] at J;cases J
  |some k=>
   rw[U] at J;have J:(if (k==NameKind.free&&X.env.scope.kind==.function&&X.env.kindOf x==some .cell)=true then NameKind.cell else k)=.local:=AN J;split at J
   ·cases J
   ·subst J;exact S.apart x g U
 ·exact S.kindOf (C:=C) (.inl h)
 ·exact S.kindOf (C:=C) (.inr h)
theorem ji.back(S:ji X scope)(h:scope.names.lookup x=some .free):(compEnvC scope (fF scope X.env) C X.env).kindOf x=some .cell\/(compEnvC scope (fF scope X.env) C X.env).kindOf x=some .free:=by
 have e:(compEnvC scope (fF scope X.env) C X.env).kindOf x=(scope.names.lookup x).map λk=>if (k==NameKind.free&&X.env.scope.kind==.function&&X.env.kindOf x==some .cell) then NameKind.cell else k:=wy
 rw[e,h];show some (if _ then _ else _)=_\/some (if _ then _ else _)=_;split
 ·exact .inl rfl
 ·exact .inr rfl
def PF(X:Cx)(ni:List Expr)(t:TT):Prop:=
 ∀(pins:List (Addr×Obj)) (s:Shared) (σ:St) (H:Hp) (Q:Bool->Hp->Prop),za X pins σ H s->t σ H Q->
  wpAny (model X.prog X.w) X.A (forIn ni true λc r=>if r=true then do let ok <-isTrue c X.env (eval c X.env);pure (ForInStep.yield ok) else pure (ForInStep.yield r)) (TP X pins σ Q) X.xe s
def asd:TT:=λ_ H Q=>Q true H
theorem ajz :PF X [] asd:=λ_ _ _ H _ I h=>Ag ⟨H,I,h⟩
theorem alp{t:TT}(hc:PT X c t):PF X [c] t:=by intro J s U H Q I h;rw[BS];simp only[if_true];refine Aa (Aa (aI (hc J s U H Q I h) λb g q=>Ag ?_));exact Ag q
theorem fD{w:World}{R:Result->Shared->Prop}{iter:Expr}{it C:Value}(I:Nat->Shared->Prop)
 (turn:∀n s,I n s->wpAny (model prog w) A (pyNext it) (λr J=>match r with
  |none=>R (.ok .next) J
  |some v=>wpAny (model prog w) A (letOwnedTupleGo target it v) (λ_ J=>wpAny (model prog w) A (assign target env v) (λ_ l=>
   wpAny (model prog w) A (forIn ni true λc r=>if r=true then do let ok <-isTrue c env (eval c env);pure (ForInStep.yield ok) else pure (ForInStep.yield r)) (λok g=>
    if ok=true then wpAny (model prog w) A (eval nw env) (λx o=>
     wpAny (model prog w) A (call (.builtin "list.append") [C,x]) (λ_ p=>∃m,m<n/\I m p) (λ_ _=>False) o) (λ_ _=>False) g
    else ∃m,m<n/\I m g) (λ_ _=>False) l) (λ_ _=>False) J) (λ_ _=>False) J) (λ_ _=>False) s)
 (n:Nat) (h:I n s):
 codeAny (model prog w) A (.compLoop (.ListComp nw [⟨target,iter,ni,0⟩] scope pos) 0 it C env) R s:=by
 refine codeAny_loop rfl I (λn s hI=>?_) n h;show wpAny _ A ((compTurn (.ListComp nw [⟨target,iter,ni,0⟩] scope pos) 0 it C env).onRaise (λx=>do noteFrame x env;theTreesLotGoes x)) _ _ s;refine wpAny_noted ?_;rw[compTurn_list];refine Aa (wpAny_standAt (Aa (AO (turn n s hI) (λr J U=>?_) λ_ _ j=>j.elim)));cases r with
 |none=>exact Ag U
 |some v=>
  refine Aa (AO U (λ_ J U=>?_) λ_ _ j=>j.elim);refine Aa (AO U (λ_ l T=>Aa (AO T (λok g t=>?_) λ_ _ j=>j.elim)) λ_ _ j=>j.elim);cases ok with
  |false=>exact Ag ⟨rfl,t⟩
  |true=>
   exact Aa (Aa (AO t (λx o a1=>Aa (AO a1 (λ_ p a2=>Ag (Ag ⟨rfl,a2⟩)) λ_ _ j=>j.elim)) λ_ _ j=>j.elim))
def tLC(n:Nat)(wi:TI)(g:TG)(tc:TT)(te:TE):TE:=λσ H Q=>wi σ H λJ H1=>∃W:Nat->Nat->List V->Hp->Prop,(∃m,W 0 m [] H1)/\∀i m ys H,W i m ys H->
 (J.stop i H/\ys.length<=sizeLine/\∀D,H D=none->Q (.ref D) (upd H D (.lst ys)))\/
 (J.go i H/\ys.length<sizeLine/\∀x H',J.yld i H x H'->g x (σ++List.replicate n none) H' λU H2=>tc U H2 λb l=>
  if b=true then te U l λy o=>∃j,j<m/\W (i+1) j (ys++[y]) o else ∃j,j<m/\W (i+1) j ys l)
def rQ(g:TG)(n k:Nat):Prop:=∀(σ:St),σ.length=n->∀x H Q,g x (σ++List.replicate k none) H Q->
 g x (σ++List.replicate k none) H λJ H2=>((J.length=n+k/\∀(i:Nat) v,(σ++List.replicate k none)[i]?=some (some v)->J[i]?=some (some v))/\Q J H2)
section
variable {T:List Str}{iter:Expr}{g:TG}{te:TE}
theorem ltN{o:Obj}(e:h.get? b=some o):@LT.lt Nat instLTNat b h.objs.size:=At e
theorem tU(h:@Ne Nat a b):a≠b:=h
theorem leN(h:@LE.le Nat instLENat a b):a<=b:=h
theorem aak(eH:List Value)(n:Nat)(u:Value):∃J,Obj.mapSeq (·.push u) { cls:=.type "list",data:=.seq eH.toArray n }=({ cls:=.type "list",data:=.seq (eH++[u]).toArray J }:Obj):=
 ⟨_,by simp[Obj.mapSeq];rfl⟩
theorem uN{w:World}{D:Addr}(J:s.heap.get? D=some { cls:=.type "list",data:=.seq eH.toArray n })
 (hz:eH.length<=sizeLine) (h:∀h' U,Heap.SameBut D s.heap h'->h'.get? D=some { cls:=.type "list",data:=.seq (eH++[u]).toArray U }->Q .none { s with heap:=h' }):
 wpAny (model prog w) A (call (.builtin "list.append") [.ref D,u]) Q E s:=by
 have j:s.heap.IsList D eH.toArray:=⟨_,J,rfl,n,rfl⟩;refine wpAny_call_entry slot_list_append j.typeIs entry_list_append ?_ (args_list_append _ _);show wpAny _ _ (updateSeq D (·.push u) >>= λ_=>ret .none) _ _ s;refine Aa ?_;obtain⟨U,g⟩:=aak eH n u;refine wpAny_updateSeq (f:=(·.push u)) J rfl (Ag ⟨.none,rfl,h _ U (Eg ..) ?_⟩) (by rw[Al];exact hz) (by rw[DL,Al];exact DB hz);rw[<-g];exact Eh _ J (by rw[g];rfl)
theorem lg{Q:VK}{cb:Value}{U:Shared}{RR:Value->Addr->Result->Shared->Prop}
 (S:ji X scope) (hc:X.calm=true)
 (hg:∀C fp s₀ H₀,PG (X.comp scope T C fp s₀ H₀) target g) (e4:rQ g X.N.length T.length) (hf:∀C fp s₀ H₀,PF (X.comp scope T C fp s₀ H₀) ni tc) (he:∀C fp s₀ H₀,PE (X.comp scope T C fp s₀ H₀) nw te)
 (h:PIE X pins σ target (λJ H1=>∃W:Nat->Nat->List V->Hp->Prop,(∃m,W 0 m [] H1)/\∀i m ys H,W i m ys H->
  (J.stop i H/\ys.length<=sizeLine/\∀D,H D=none->Q (.ref D) (upd H D (.lst ys)))\/
  (J.go i H/\ys.length<sizeLine/\∀x H',J.yld i H x H'->g x (σ++List.replicate T.length none) H' λcc H2=>tc cc H2 λb H3=>
   if b=true then te cc H3 λy H4=>∃m',m'<m/\W (i+1) m' (ys++[y]) H4 else ∃m',m'<m/\W (i+1) m' ys H3)) cb U)
 (e5:∀D C s' H' m',za X pins σ H' s'->jJ X pins H' C->s'.heap.Ns C m'->Q (.ref D) H'->RR (.ref D) C (.ok .next) s'):
 wpAny (model X.prog X.w) X.A (newList []) (λcm av=>wpAny (model X.prog X.w) X.A (newFunctionEnv scope X.env.globals (fF scope X.env) [] X.env.qual none .none (some X.env)) (λbh cv=>
  codeAny (model X.prog X.w) X.A (.compStart (.ListComp nw [⟨target,iter,ni,0⟩] scope pos) 0 cb cm { bh with scope:=relabel scope X.env }) (RR cm bh.locals) cv) E av) E U:=by
 obtain⟨it,fp,tn,J,H2,rfl,j,Tn,bj,f2,W,⟨m0,w0⟩,turn⟩:=h;refine Bl (wpAny_newFunctionEnv S.nocell (by intro y hy;simp at hy) (λbb al I=>?_) S.kind);dsimp only at al I ⊢;generalize bn:U.heap.push { cls:=.type "list",dict:=none,data:=.seq ([]:List Value).toArray }=G at al I ⊢;have hC:G.objs.size=U.heap.objs.size+1:=by rw[<-bn,Ep]
 obtain⟨D,eD⟩:∃D,U.heap.objs.size=D:=⟨_,rfl⟩;obtain⟨C,eC⟩:∃C,G.objs.size=C:=⟨_,rfl⟩;rw[eD] at hC ⊢;rw[eC] at hC al I ⊢;have bp:D≠C:=by lia
 have old:∀b o,U.heap.get? b=some o->bb.get? b=some o:=λb o e=>by have t:=ltN e;exact I.extBut b o (tU (by lia)) (As _ (bn▸As _ e))
 have cy:bb.get? D=some { cls:=.type "list",data:=.seq ([]:List Value).toArray 0 }:=by refine I.extBut _ _ bp (As _ ?_);rw[<-bn,<-eD];exact Db _ rfl
 have bq:∀b∈fp,@LT.lt Nat instLTNat b U.heap.objs.size:=λb t=>by obtain⟨o,e,_⟩:=Tn.obj _ _ bj b t;exact ltN e
 have cP:@LT.lt Nat instLTNat X.env.locals U.heap.objs.size:=j.lt;have er:X.s₀.heap.objs.size<=U.heap.objs.size:=j.sz;have HD:H2 D=none:=j.hok.fresh (leN (by exact yz));have HC:H2 C=none:=j.hok.fresh (leN (by lia));have e6:∀b:Addr,@LE.le Nat instLENat U.heap.objs.size b->b∉bK X.stack:=λb t z=>by
  have q:=j.stkSub b z;rcases Ao.mp q with q|q
  ·rw[<-q] at cP;exact absurd cP (Nat.not_lt.mpr t)
  ·exact j.nofs t q
 have bc:∀x c,X.env.cells.lookup x=some c->@LT.lt Nat instLTNat c U.heap.objs.size:=λx c e=>by obtain⟨v,q⟩:=j.cell x c e;exact q.lt
 let X':Cx:=X.comp scope T C fp U H2
 have br:X'.Ok:={
  mod:=j.ok.mod,kind:=S.kind,glob:=j.ok.glob,blt:=j.ok.blt
  above:=leN (by show @LE.le Nat instLENat U.heap.objs.size C;lia)
  inj:=λx y c h1 h2=>j.ok.inj x y c (S.cl_old j h1) (S.cl_old j h2)
  has:=λx hx=>S.cl_has (S.kindOf hx)
  cab:=λx c hx=>absurd (show false=true from hx) (by simp)
  hd:=j.ok.hd,frames:=j.ok.frames,stk:=.inl rfl
  exf:=λb t=>⟨tU (by have:=bq b t;show @Ne Nat b C;lia),λx c e=>(f2 b t).2.2.2.2.1 x c (S.cl_old j e)⟩
  bs:=j.bs,bsz:=AM j.ok.bsz j.sz
  noex:=λb o e t=>by
   obtain⟨e0,n0⟩:=j.ok.bs b o e;rcases (f2 b t).2.2.2.1 with q|q
   ·exact j.ok.noex b o e q
   ·have q':@LE.le Nat instLENat X.s₀.heap.objs.size b:=q;have:=ltN e0;lia
  exfs:=λb t z=>by
   rcases Ao.mp (j.stkSub b z) with q|q
   ·exact(f2 b t).2.1 q
   ·exact(f2 b t).2.2.1 q
  funs:=j.stack,frf:=j.stkFree }
 have I4:∀tk,0<tk->za X' pins (σ++List.replicate T.length none) H2 { U with heap:=bb,toks:=tk }:=λtk e7=>{
  tk:=e7,ok:=br,os:=rfl,bare:=j.bare,base:=Un.kept old
  loc:=⟨_,al,λi x v e1 e2 e3=>by
   have hi:i<σ.length:=by
    by_cases hi:i<σ.length
    ·exact hi
    ·rw[Aw (by exact aa9),CK] at e2;split at e2<;>cases e2
   rw[AG hi] at e2;have e8:i<X.N.length:=by rw[<-j.len];exact hi
   have d0:X.N[i]?=some x:=by have:(X.N++T)[i]?=some x:=e1;rw[AG e8] at this;exact this
   have bu:=S.vis (AD d0) e3;obtain⟨m,hn,hl⟩:=j.loc;have hk:=S.free x bu;obtain⟨u,r,l⟩:=hl i x v d0 e2 (.inr hk);refine⟨u,r,.inr ⟨S.back bu,?_⟩⟩;rcases l with⟨l,_⟩|⟨_,c,e,z⟩
   ·rw[l] at hk;rcases hk with q|q<;>cases q
   ·obtain⟨c',e'⟩:=S.cl_has bu;have de:=S.cl_old j e';rw[e] at de;cases de;exact⟨c,e',z.keeps old⟩⟩
  cell:=λx c e=>by obtain⟨v,z⟩:=j.cell x c (S.cl_old j e);exact⟨v,z.keeps old⟩
  free:=HC,freeC:=λx c e=>j.freeC x c (S.cl_old j e)
  pin:=λp hp=>by
   obtain⟨a,b,c,d,e⟩:=j.pin p hp;have ea:=ltN a;refine⟨old _ _ a,b,tU (by show @Ne Nat p.1 C;lia),λz=>?_,e⟩;rcases Ao.mp (j.stkSub _ z) with q|q
   ·exact c q
   ·exact d q
  hok:=j.hok.kept old
  len:=by show(σ++_).length=(X.N++T).length;rw[Ac,Ac,BQ,j.len] }
 have bv:∀(aL:List (Addr×Obj)) (H':Hp),(∀p∈aL,p∈pins\/p.1=D)->(∀b∈fp,H' b=none)->∀b∈fp,jJ X' aL H' b:=λaL H' hp hn b t=>by
  obtain⟨_,q1,q2,q3,q4,q5⟩:=f2 b t;have ea:=bq b t;refine⟨hn b t,tU (by show @Ne Nat b C;lia),br.exfs b t,.inl t,(br.exf b t).2,λp eb=>?_⟩;rcases Aq.mp eb with z|z
  ·exact q5 p (Ar _ z)
  ·rcases hp p z with z|z
   ·exact q5 p (Ah _ z)
   ·rw[z];exact tU (by lia)
 have stay:Tn.keep=Tn.keep:=rfl;have bi:∀av:Shared,av={ U with heap:=bb,toks:=U.toks+([]:List (Str×Value)).length }->
  codeAny (model X.prog X.w) X.A (.compLoop (.ListComp nw [⟨target,iter,ni,0⟩] scope pos) 0 (.ref it) (.ref D) X'.env) (RR (.ref D) C) av:=by
  rintro av rfl;refine fD (λn s'=>∃i bw H' ys au k,za X' pins bw H' s'/\(bw.length=X.N.length+T.length/\∀(i:Nat) v,(σ++List.replicate T.length none)[i]?=some (some v)->bw[i]?=some (some v))/\
   s'.heap.get? D=some { cls:=.type "list",data:=.seq (au:List Value).toArray k }/\zq ys au/\H' D=none/\tn i s'.heap/\(∀b∈fp,H' b=none)/\W i n ys H') ?_ m0
   ⟨0,_,H2,[],[],0,I4 _ j.tk,⟨by rw[Ac,BQ,j.len],λ_ _ e=>e⟩,cy,.nil,HD,Tn.keep _ _ _ bj λb _ o e=>old b o e,λb t=>(f2 b t).1,w0⟩
  rintro n s3 ⟨i,et,H3,ys,au,k,I3,⟨ec,ed⟩,ee,bf,bg,di,dj,w3⟩;have ep:au.length=ys.length:=bf.length.symm;have dp:D∉X'.fs:=e6 D (by exact yz);have dr:D≠X'.env.locals:=bp;have dv:za X' (pins++[(D,{ cls:=.type "list",data:=.seq au.toArray k })]) (σ++List.replicate T.length none) H3 s3:=
   (I3.weak (by rw[ec,Ac,BQ,j.len]) ed).pins_of λp hp=>by
    rcases Aq.mp hp with z|z
    ·exact I3.pin p (Ah _ z)
    ·have e:=Ai.mp z;subst e;exact⟨ee,bg,dr,dp,λv z=>by cases z⟩
  have ba:∀p∈pins++[(D,({ cls:=.type "list",data:=.seq au.toArray k }:Obj))],p∈pins\/p.1=D:=λp hp=>by
   rcases Aq.mp hp with z|z
   ·exact .inl z
   ·exact .inr (by rw[Ai.mp z])
  rcases turn i n ys H3 w3 with⟨stop,hz,qn⟩|⟨go,hz,step⟩
  ·refine aI (Tn.done X' rfl rfl rfl hc i _ s3 _ H3 _ dv (bv _ H3 ba dj) di stop) λr s4 ⟨hr,ag⟩=>?_;subst hr;obtain⟨eg,eu,_⟩:=ag.pin (D,_) (Ah _ (Ah _ Ak));obtain⟨m',ej,_⟩:=ag.loc;have un:Un (bK X.stack) fp H2 (upd H3 D (.lst ys)) U.heap s4.heap:={
    keep:=ag.base.keep,slot:=ag.base.slot
    free:=λb o e n hx=>by have:=ltN e;rw[qo (tU (by lia))];exact ag.base.free b o e n hx
    there:=ag.base.there
    tups:=λb xs e=>by rw[qo (λz=>by rw[z,HD] at e;cases e)];exact ag.base.tups b xs e
    frzs:=λb o u e=>by rw[qo (λz=>by rw[z,HD] at e;cases e)];exact ag.base.frzs b o u e
    tbls:=λb ps e=>by rw[qo (λz=>by rw[z,HD] at e;cases e)];exact ag.base.tbls b ps e }
   have ek:dU X.prog X.w (upd H3 D (.lst ys)) s4.heap:=λb u e=>by
    by_cases t:b=D
    ·subst t;rw[zg] at e;cases e;exact⟨hz,au,k,bf,eg⟩
    ·rw[qo t] at e;refine(ag.hok b u e).stay (λ_ _ _ q=>q) (λc q=>?_) λc xs q=>?_
     ·rw[qo (zr q bg)];exact q
     ·rw[qo (zr q bg)];exact q
   have I5:za X pins σ (upd H3 D (.lst ys)) s4:=j.call' (ch:=fp) ag.os un ek ag.bare λb t=>⟨(f2 b t).2.2.2.1,(f2 b t).2.1,(f2 b t).2.2.2.2.1,(f2 b t).2.2.2.2.2⟩;refine e5 D C s4 _ m' I5 ?_ ej (qn D bg);refine⟨by rw[qo (AF bp)];exact ag.free,?_,?_,.inr ?_,λx c e=>?_,λp hp=>?_⟩
   ·exact tU (by lia)
   ·exact j.nofs (leN (by lia))
   ·exact leN (by lia)
   ·exact tU (by have:=bc x c e;lia)
   ·exact tU (by have:=ltN (j.pin p hp).1;lia)
  ·refine aI (Tn.item X' rfl rfl rfl hc i _ s3 _ H3 _ dv (bv _ H3 ba dj) di go) λr s4 ⟨u,hr,h4⟩=>?_;subst hr;refine aI h4 λ_ s5 ⟨x,H5,I5,r5,y5,bS,el⟩=>?_;have en:=I5.pinned (bv _ H5 ba el) (Tn.obj _ _ bS);refine AO ((hg C fp U H2) _ s5 _ H5 x u _ en r5 (e4 σ j.len x H5 _ (step x H5 y5))) (λ_ s6 ⟨bd,H6,I6,⟨dI,dS⟩,q6⟩=>?_) λ_ _ z=>z;refine AO ((hf C fp U H2) _ s6 bd H6 _ I6 q6) (λb s7 ⟨H7,I7,q7⟩=>?_) λ_ _ z=>z;have jw:∀{s8:Shared} {H8:Hp} (I8:za X' ((pins++[(D,{ cls:=.type "list",data:=.seq au.toArray k })])++mO fp s5.heap) bd H8 s8),tn (i+1) s8.heap/\(∀b∈fp,H8 b=none)/\s8.heap.get? D=some { cls:=.type "list",data:=.seq au.toArray k }/\H8 D=none/\za X' pins bd H8 s8:=λ{s8 H8} I8=>by
    refine⟨Tn.keep _ _ _ bS λb t o e=>(I8.pin (b,o) (Ah _ (Ah _ (cj t e)))).1,λb t=>?_,?_,?_,I8.unpinned.unpinned⟩
    ·obtain⟨o,e,d⟩:=Tn.obj _ _ bS b t;exact(I8.pin (b,o) (Ah _ (Ah _ (cj t e)))).2.1
    ·exact(I8.pin (D,_) (Ah _ (Ar _ (Ah _ Ak)))).1
    ·exact(I8.pin (D,_) (Ah _ (Ar _ (Ah _ Ak)))).2.1
   cases b with
   |false=>
    rw[AC Ay] at q7 ⊢;obtain⟨m',hm,w7⟩:=q7;obtain⟨a1,a2,a3,a4,a5⟩:=jw I7;exact⟨m',hm,i+1,bd,H7,ys,au,k,a5,⟨dI,dS⟩,a3,bf,a4,a1,a2,w7⟩
   |true=>
    rw[AB rfl] at q7 ⊢;refine AO ((he C fp U H2) _ s7 bd H7 _ I7 q7) (λv s8 ⟨y,H8,I8,r8,m',hm,w8⟩=>?_) λ_ _ z=>z;obtain⟨a1,a2,a3,a4,a5⟩:=jw I8;refine uN a3 (by lia) λh9 k9 dV eo=>?_;have nD:∀b∈fp,b≠D:=λb t=>tU (by have:=bq b t;lia);refine⟨m',hm,i+1,bd,H8,ys++[y],au++[v],k9,?_,⟨dI,dS⟩,eo,bf.append (.cons r8 .nil),a4,Tn.keep _ _ _ a1 λb t o e=>(dV.2 b (nD b t)).trans e,a2,w8⟩;exact a5.turned (t':=s8.toks) (it:=D) (λb o t e=>(dV.2 b t).trans e) a4 dr (.inr (leN (by show @LE.le Nat instLENat U.heap.objs.size D;exact yz))) (λx c e=>tU (by have:=bc x c (S.cl_old j e);lia)) λp hp=>tU (by have:=ltN (j.pin p hp).1;lia)
 exact codeAny_compStart_list (bi _ rfl) (Tn.self _ _ _ _ _ (Tn.keep _ _ _ bj λb _ o e=>old b o e) (bi _ rfl))
end
section
variable {T:List Str}{iter:Expr}{g:TG}{te:TE}
theorem anr(T:List Str)(S:ji X scope)(hc:X.calm=true)(hi:PI X target iter wi)(t:∀C fp s₀ H₀,PG (X.comp scope T C fp s₀ H₀) target g)(j:rQ g X.N.length T.length)
 (hf:∀C fp s₀ H₀,PF (X.comp scope T C fp s₀ H₀) ni tc) (he:∀C fp s₀ H₀,PE (X.comp scope T C fp s₀ H₀) nw te)
 (hs:∀x,foldedSetIterable iter X.env x=pure x:=by intro _;rfl):PE X (.ListComp nw [⟨target,iter,ni,0⟩] scope pos) (tLC T.length wi g tc te):=by
 intro J s r H Q I h;rw[eval_ListComp];refine wpAny_comprehension_free (use:=none) rfl hs (S.clo I) S.kind S.names (aI (hi J s r H _ I h) λv s1 h1=>aI h1 λa1 s2 h2=>?_);refine lg (RR:=λl C=>compPost (model X.prog X.w) X.A X.xe none (EP X J r Q) l C) S hc t j hf he h2 ?_;intro D C s' H' m' I' U hn q;exact⟨m',hn,λh' p=>⟨.ref D,H',I'.turned (t':=s'.toks) (it:=C) (λb o hb e=>(p.2 b hb).trans e) U.1 (AF (AF U.2.1)) U.2.2.2.1 U.2.2.2.2.1 U.2.2.2.2.2,rfl,q⟩⟩
theorem aay(T:List Str){px:Pos}(hN:X.N.Nodup)(j:X.N[i]?=some x)(hx:Loc X.env.scope x)(S:ji X scope)(hc:X.calm=true)(hi:PI X target iter wi)
 (hg:∀C fp s₀ H₀,PG (X.comp scope T C fp s₀ H₀) target g) (l:rQ g X.N.length T.length)
 (hf:∀C fp s₀ H₀,PF (X.comp scope T C fp s₀ H₀) ni tc) (he:∀C fp s₀ H₀,PE (X.comp scope T C fp s₀ H₀) nw te)
 (p:swapsWith (.ListComp nw [⟨target,iter,ni,0⟩] scope lp) (some (.Name x px)) pos.line X.env=pure true:=by rfl)
 (r:X.fn x=true\/X.env.scope.names.lookup x=some .local:=by first|exact .inl rfl|exact .inr rfl|assumption)
 (hs:∀x,foldedSetIterable iter X.env x=pure x:=by intro _;rfl):PS X (.Assign [.Name x px] (.ListComp nw [⟨target,iter,ni,0⟩] scope lp) pos) (ake (tLC T.length wi g tc te) (l6 i)):=by
 intro pins s σ H D I h;rw[exec_Assign_Name_used _ _ _ _ p];refine Aa (wpAny_standAt (Aa ?_));show wpAny _ X.A (do let _ <-comprehension (.ListComp nw [⟨target,iter,ni,0⟩] scope lp) scope X.env _ (newList []) false (eval iter X.env) (some (assign (.Name x px) X.env))) _ _ s;refine Aa (AO (wpAny_comprehension_free (use:=some (assign (.Name x px) X.env)) (Q:=λ_ U=>SP X pins D .next U) rfl hs (S.clo I) S.kind S.names
  (aI (hi pins s σ H _ I h) λv s1 h1=>aI h1 λa5 s2 h2=>?_)) (λ_ U hq=>Ag (Ag hq)) λ_ _ e=>e)
 refine lg (RR:=λt C=>compPost (model X.prog X.w) X.A X.xe (some (assign (.Name x px) X.env)) (λ_ U=>SP X pins D .next U) t C) (pins:=pins) (σ:=σ) (Q:=λx H1=>l6 i x σ H1 D.nx) S hc hg l hf he h2 ?_;intro A C U H' m' I' J hn q;show wpAny _ X.A (assign (.Name x px) X.env (.ref A)) _ _ U;refine wpAny_assign_Name (o8 I' hN j hx (v:=.ref A) rfl (λa1 a2 ⟨a,hs,ha⟩ _=>?_) r);have a3:C≠a:=by
  rcases ha with z|z
  ·rw[z];exact J.2.1
  ·exactλe=>J.2.2.2.2.1 x a z e.symm
 exact⟨m',hn.sameBut hs a3,λh' a4=>⟨_,H',a2.turned (t':=a1.toks) (it:=C) (λb o hb e=>(a4.2 b hb).trans e) J.1 J.2.1 J.2.2.2.1 J.2.2.2.2.1 J.2.2.2.2.2,q⟩⟩
end
def aR(outer:Scope)(N:List Str)(J:Scope):Bool:=
 decide (J.kind=.function)&&J.names.all (λp=>decide (p.2≠.cell)&&(decide (p.2≠.local)||decide (J.names.lookup p.1=some .local))&&(decide (p.2≠.free)||(decide (outer.names.lookup p.1=some .cell)||decide (outer.names.lookup p.1=some .free))))
  && N.all (λx=>decide (J.names.lookup x≠some .local))
theorem aR.mk{J:Scope}(h:aR X.env.scope X.N J=true):ji X J:=by
 unfold aR at h;rw[A1,A1,BC,BC] at h;obtain⟨⟨h1,h2⟩,h3⟩:=h;have j:∀n,(n,NameKind.free)∈J.names->X.env.kindOf n=some .cell\/X.env.kindOf n=some .free:=λn U=>by
  have q:=h2 _ U;simp only[A1,DM,decide_eq_true_eq] at q;rcases q.2 with z|z
  ·exact absurd rfl z
  ·exact z
 refine⟨of_decide_eq_true h1,λy g=>?_,λy g e=>?_,λn U=>j n (Bs U),j,λx l=>of_decide_eq_true (h3 x l)⟩
 ·have q:=h2 _ g;simp only[A1,DM,decide_eq_true_eq] at q;exact q.1.1
 ·have q:=h2 _ g;simp only[A1,DM,decide_eq_true_eq] at q;rcases q.1.2 with z|z
  ·exact absurd e z
  ·exact z
abbrev EO:=@aR.mk
theorem ut(n:Nat):rQ (l6 n) n 1:=by
 intro g J x H Q h;refine⟨⟨by simp[J],λi v e=>?_⟩,h⟩;by_cases U:i=n
 ·subst U;rw[Aw (by exact yz)] at e;simp[J] at e
 ·rw[BD (AF U)];exact e
theorem bR:bootBuiltins "isinstance"=some (.builtin "isinstance"):=by decide +kernel
theorem dt:bootBuiltins "tuple"=some (.type "tuple"):=by decide +kernel
theorem aax:bootBuiltins "str"=some (.type "str"):=by decide +kernel
theorem tz:bootBuiltins "int"=some (.type "int"):=by decide +kernel
theorem aC:bootBuiltins "list"=some (.type "list"):=by decide +kernel
theorem aje:bootBuiltins "len"=some (.builtin "len"):=by decide +kernel
theorem huK{k:Nat}(J:wb k A):A.units+128<cLine:=by have:=J.un;lia
theorem small(h:n<=1000):n<=sizeLine:=Bi (oO h)
theorem Cal.of{P:Program}{w:World}{K:Ad}{k:Nat}(F:bA P w K mg base CX0 k f fd ps sp)(b:dM K fd ps [])(J:PySem.W.keepIn K (.ref f)=true)(m:mg x=some (.ref f)):
 Cal P w K mg base k x ps sp:=⟨f,fd,F,b,J,m⟩
theorem bA.never{P:Program}{w:World}{K:Ad}{k:Nat}(no:∀vs H Q E,¬sp vs H Q E):bA P w K mg base CX0 k f fd ps sp:=
 ⟨λvs H Q E h=>absurd h (no vs H Q E),λA J s H args U vs Q E _ _ _ _ h=>absurd h (no vs H Q E)⟩
section
variable (K:Ad)(P:Program)(w:World)
end
structure qz(K:Ad)(x:Str)(st:Stmt):Prop where
 ex:∃(f:Addr) (kV gh pm:Value) (an:Option Addr) (fm ct:Value),PySem.W.nsIn K mainGlobals x=some (some (.ref f))/\Fun K x x st f (PySem.W.fnOf x x (vd st) (jh st) (qy st) .none kV gh pm an fm ct)
theorem def_in{K:Ad}{kV:Value}(a:PySem.W.nsIn K mainGlobals x=some (some (.ref f)))
 (l:K.lookup f=some ⟨oc,od,.func (PySem.W.fnOf x x (vd st) (jh st) (qy st) .none kV gh pm an fm ct),sy⟩) (c:PySem.W.codeIn K fm x=true) (k:PySem.W.keepIn K (.ref f)=true):qz K x st:=
 ⟨f,kV,gh,pm,an,fm,ct,a,akx (st:=st) l c k⟩
theorem qz.use{K:Ad}(D:qz K x st)(X:K.In h)(G:h.Ns mainGlobals mg)
 (J:∀(kV gh pm:Value) (an:Option Addr) (fm ct:Value) (us:List Value),us.length=ps.length->bindArgs (PySem.W.fnOf x x (vd st) (jh st) (qy st) .none kV gh pm an fm ct) ⟨us,[]⟩=pure (ps.zip us)):
 ∃f fd,Fun K x x st f fd/\dM K fd ps []/\mg x=some (.ref f):=by
 obtain⟨f,kV,gh,pm,an,fm,ct,a,F⟩:=D.ex;exact⟨f,_,F,dM.all (J kV gh pm an fm ct),Bg X G a⟩
end L2
namespace Words
open PySem L2
inductive Wd where
 |leaf (t:Bool) (n:Str)
 |node (e:Bool) (l r:Wd)
def kL:Bool->Str
 |false => "plain"
 |true => "turned"
def kN:Bool->Str
 |false => "both"
 |true => "either"
def Wd.turn:Wd->Wd
 |.leaf t n=>.leaf (!t) n
 |.node e l r=>.node (!e) l.turn r.turn
def Wd.depth:Wd->Nat
 |.leaf _ _=>1
 |.node _ l r=>max l.depth r.depth+1
def Wd.leaves:Wd->Nat
 |.leaf _ _=>1
 |.node _ l r=>l.leaves+r.leaves
theorem Wd.leaves_pos:∀w:Wd,1<=w.leaves
 |.leaf _ _=>Aj _
 |.node _ l r=>by have:=Wd.leaves_pos l;show 1<=l.leaves+r.leaves;exact an2
abbrev EG:=@Wd.leaves_pos
theorem Wd.depth_le:∀w:Wd,w.depth<=w.leaves
 |.leaf _ _=>Aj _
 |.node _ l r=>by have:=Wd.depth_le l;have:=Wd.depth_le r;have:=EG l;have:=EG r;show max l.depth r.depth+1<=l.leaves+r.leaves;lia
def qG:Wd->Da
 |.leaf t n=>.tup [.s (.str (kL t)),.s (.str n)]
 |.node e l r=>.tup [.s (.str (kN e)),qG l,qG r]
def df(x:Str):Prop:=1<=x.length/\x.length<=8/\∀c∈x.cps.toList,97<=c/\c<=122
def Wd.ok:Wd->Prop
 |.leaf _ n=>df n
 |.node _ l r=>l.ok/\r.ok
theorem Paired.app{α g:Type}{F:α->g->Prop}:∀{xs J:List α} {ys U:List g},Paired F xs ys->Paired F J U->Paired F (xs++J) (ys++U)
 |_,_,_,_,.nil,s=>s
 |_,_,_,_,.cons r t,s=>.cons r (Paired.app t s)
theorem Paired.getP{α J:Type}{F:α->J->Prop}:∀{xs:List α} {ys:List J} {i:Nat} {x:α},Paired F xs ys->xs[i]?=some x->∃y,ys[i]?=some y/\F x y
 |_,_,_,_,.nil,h=>by simp at h
 |_,_,0,_,.cons (b:=y) r _,h=>by simp at h;subst h;exact⟨y,rfl,r⟩
 |_,_,i+1,_,.cons _ t,h=>by obtain⟨y,e,q⟩:=Paired.getP (i:=i) t (by simpa using h);exact⟨y,by simpa using e,q⟩
end Words
namespace L2
open PySem PySem.Spec PyProof.Rows
theorem yT{ys:List V}{es:List Da}(I:za X pins σ H s)(g:A.units<cLine)(j:cB X.K H a xs)(l:cB X.K H b ys)(px:Paired (kc X.K H n) xs ds)(py:Paired (kc X.K H m) ys es)
 (o:∀{x y:V} {d e:Da} {u v:Value},kc X.K H n x d->kc X.K H m y e->zu x u->zu y v->SeqAt.EqAt A.in1 s u v (Da.eq d e)):SeqAt.RcNeAt A s (.ref a) (.ref b) (!Da.eqs ds es):=by
 obtain⟨r,J,p,_⟩:=I.tuple j;obtain⟨t,U,ty,_⟩:=I.tuple l;have q:=SeqAt.RcNeAt.tuples p ty g (gH px py J U o);rw[Al,Al,<-J.length,<-U.length,px.length,py.length,DY] at q;exact q
theorem ad4{ys:List V}{es:List Da}(I:za X pins σ H s)(l:A.units<cLine)(p:aJ X.K H a xs)(r:aJ X.K H b ys)(px:Paired (kc X.K H n) xs ds)(py:Paired (kc X.K H m) ys es)
 (t:∀{x y:V} {d e:Da} {u v:Value},kc X.K H n x d->kc X.K H m y e->zu x u->zu y v->SeqAt.EqAt A.in1 s u v (Da.eq d e)):SeqAt.RcNeAt A s (.ref a) (.ref b) (!Da.eqs ds es):=by
 obtain⟨C,U,o,_⟩:=I.list p;obtain⟨T,j,ty,_⟩:=I.list r;by_cases g:C.toArray.size=T.toArray.size
 ·have q:=SeqAt.RcNeAt.lists (j7 o) (j7 ty) g l (gH px py U j t);have J:ds.length=es.length:=by rw[<-px.length,<-py.length,U.length,j.length];simpa using g
  have e:=DY ds es;rw[J,Nat.min_self] at e;rw[<-J] at e;rw[Al,<-U.length,px.length] at q;simp only[beq_self_eq_true,Bool.and_true] at e;rw[e] at q;exact q
 ·have q:=SeqAt.RcNeAt.lists_lengths (j7 o) (j7 ty) (by simpa using g) l;have J:ds.length≠es.length:=by rw[<-px.length,<-py.length,U.length,j.length];intro z;exact g (by simpa using z)
  have e:=DY ds es;have f:(ds.length==es.length)=false:=by simpa using J
  rw[f,DR] at e;rw[<-e];exact q
def uNe(K:Ad)(k:Nat):R2:=λx y H Q=>match x,y with
 |.ref a,.ref b=>∃n m d e,n<=k/\kc K H n (.ref a) d/\kc K H m (.ref b) e/\Q (.bl (!Da.eq d e)) H
 |x,y=>agb x y=true/\Q (.bl (!decide (x=y))) H
theorem akt{k:Nat}(hu:X.A.units+k<cLine):kh X (compareOp .NotEq) (uNe X.K k):=by
 intro J s o H x y v u Q I p t h;cases x with
 |ref a=>
  cases y with
  |ref b=>
   obtain⟨n,m,d,e,hn,h1,h2,q⟩:=h;cases p;cases t;have jw:∀{k:Bool},k=(!Da.eq d e)->SeqAt.RcNeAt X.A s (.ref a) (.ref b) k->wpAny (model X.prog X.w) X.A (compareOp .NotEq (.ref a) (.ref b)) (EP X J o Q) X.xe s:=λ{k} e' r=>
    r X.prog X.w X.xe (EP X J o Q) (by rw[e'];exact⟨.bl _,H,I,rfl,q⟩)
   cases n with
   |zero=>exact(jb h1.2).elim
   |succ n=>
    cases m with
    |zero=>exact(jb h2.2).elim
    |succ m=>
     have j:X.A.in1.units+n<cLine:=by show X.A.units+1+n<cLine;lia
     rcases h1 with⟨_,f⟩|⟨a',xs,ds,C,rfl,l,T⟩|⟨a',xs,ds,C,rfl,l,T⟩
     ·exact(jb f).elim
     ·cases C;rcases h2 with⟨_,f⟩|⟨b',ys,es,U,rfl,g,py⟩|⟨b',ys,es,U,rfl,g,py⟩
      ·exact(jb f).elim
      ·cases U;exact jw rfl (yT I (by lia) l g T py λh1 h2 r1 r2=>lh I n j h1 h2 r1 r2)
      ·cases U;obtain⟨us,vx,tx,_⟩:=I.tuple l;obtain⟨vs,vy,ty,_⟩:=I.list g;exact jw rfl (.tuple_list tx (j7 ty) (by lia))
     ·cases C;rcases h2 with⟨_,f⟩|⟨b',ys,es,U,rfl,g,py⟩|⟨b',ys,es,U,rfl,g,py⟩
      ·exact(jb f).elim
      ·cases U;obtain⟨us,vx,tx,_⟩:=I.list l;obtain⟨vs,vy,ty,_⟩:=I.tuple g;exact jw rfl (.list_tuple (j7 tx) ty (by lia))
      ·cases U;exact jw rfl (ad4 I (by lia) l g T py λh1 h2 r1 r2=>lh I n j h1 h2 r1 r2)
  |_=>exact ai9 J s o H _ _ v u Q I p t h
 |_=>cases y<;>exact ai9 J s o H _ _ v u Q I p t h
theorem abr:bootBuiltins "max"=some (.builtin "max"):=by decide +kernel
theorem afr:bootBuiltins "bool"=some (.type "bool"):=by decide +kernel
end L2
namespace Words
open PySem L2
def Wd.size:Wd->Nat
 |.leaf _ _=>1
 |.node _ l r=>1+l.size+r.size
theorem Wd.size_eq:∀w:Wd,w.size+1=2*w.leaves
 |.leaf _ _=>rfl
 |.node _ l r=>by have:=Wd.size_eq l;have:=Wd.size_eq r;show 1+l.size+r.size+1=2*(l.leaves+r.leaves);lia
end Words
namespace L2
open PySem PySem.Spec PyProof.Rows
theorem xq.get{P:Program}{w:World}{o:HO}(x:xq P w H h a o):∃ob,h.get? a=some ob:=by
 cases o with
 |lst U=>obtain⟨_,_,_,_,e⟩:=x;exact⟨_,e⟩
 |tup U=>obtain⟨_,_,_,_,e,_⟩:=x;exact⟨_,e⟩
 |dK J=>obtain⟨_,_,_,_,o,_,_,e,_⟩:=x;exact⟨_,e⟩
 |dT J=>obtain⟨_,_,_,_,o,_,_,e,_⟩:=x;exact⟨_,e⟩
 |set S n=>obtain⟨o,_,_,_,e,_⟩:=x;exact⟨_,e⟩
 |ins C g fs=>obtain⟨_,_,_,e,_⟩:=x;exact⟨_,e⟩
 |own y=>exact x
 |xd fs=>obtain⟨_,⟨_,_,_,e,_⟩,_⟩:=x;exact⟨_,e⟩
 |rng lo j=>obtain⟨_,_,_,e⟩:=x;exact⟨_,e⟩
 |frz ob u=>obtain⟨e,_⟩:=x;exact⟨_,e⟩
 |tbl l=>exact⟨_,show h.get? a=some _ from x⟩
 |met f y=>exact⟨_,show h.get? a=some _ from x⟩
 |ext p=>obtain⟨_,e,_⟩:=x;exact e
def oB(h0 h:Heap)(H:Hp)(a C:Addr)(tr:Option Addr):Prop:=
 h0.get? a=none/\H a=none/\∃J vs a0,h.get? a=some J/\J.cls=.ref C/\J.data=.fields vs/\vs[0]?=some a0/\
  match tr with
  |none=>vs[1]?=some .none
  |some T=>vs[1]?=some (.ref T)/\h0.get? T=none/\H T=none/\T≠a/\∃U ts,h.get? T=some U/\U.data=.fields ts/\ts[3]?=some .none
def aa(a:Addr)(tr:Option Addr)(fs:List Addr):List Addr:=a::(tr.toList++fs)
section
variable {tr:Option Addr}
theorem jU{l:List Env}(h:env∈l)(e:env.frame=some b):b∈bK l:=Dg.mpr ⟨env,h,e⟩
theorem kA(I:za X pins σ H s)(hs:X.stack=X.env::X.outer)(hx:X.ex=[])(new:X.s₀.heap.get? a=none)(free:H a=none)(j:∀T,tr=some T->X.s₀.heap.get? T=none/\H T=none){a0 fl:Value}
 (k1:(PySem.W.hideAll s.heap (aa a tr (bK X.stack))).StaysIn h') (k2:h'.FunFrames (PySem.W.hideAll s.heap (aa a tr (bK X.stack))) X.stack) (k3:h'.TracedAtW (PySem.W.hideAll s.heap (aa a tr (bK X.stack))) a (.ref C) a0 fl)
 (k4:∀b o,s.heap.get? b=some o->(∀vs,o.data≠.fields vs)->∃sl,h'.get? b=some { o with slots:=sl }):
 Un X.fs [] X.H₀ H X.s₀.heap h'/\dU X.prog X.w H h'/\∃T,(∀b o,s.heap.get? b=some o->(∀T0,tr=some T0->b≠T0)->b≠T)/\X.s₀.heap.get? T=none/\H T=none/\T≠a/\∃oe vs oT ts,h'.get? a=some oe/\oe.cls=.ref C/\vs[0]?=some a0/\oe.data=.fields vs/\vs[1]?=some (.ref T)/\h'.get? T=some oT/\oT.data=.fields ts/\ts[3]?=some fl:=by
 have kp:∀b o,s.heap.get? b=some o->b∉aa a tr (bK X.stack)->h'.get? b=some o:=λb o e n=>k1 b o (CA _ e n);have sl:∀b o,s.heap.get? b=some o->b∈bK X.stack->∃sl,h'.get? b=some { o with slots:=sl }:=λb o e J=>by obtain⟨_,l,e',nf⟩:=I.stack.mem J;rw[e] at e';cases e';exact k4 b o e nf
 have p:∀b,b∈aa a tr (bK X.stack)->H b=none:=λb J=>by
  rcases Ao.mp J with e|J
  ·rw[e];exact free
  ·rcases Aq.mp J with q|q
   ·exact(j b (by simpa using q)).2
   ·exact I.stkFree b q
 have g:∀b o,X.s₀.heap.get? b=some o->b∉X.fs->b∉aa a tr (bK X.stack):=λb o e nb J=>by
  rcases Ao.mp J with q|J
  ·rw[q,new] at e;cases e
  ·rcases Aq.mp J with q|q
   ·rw[(j b (by simpa using q)).1] at e;cases e
   ·rcases Ao.mp (I.stkSub b q) with q|q
    ·exact absurd (AI (At e) I.ok.above) (by rw[q];exact Cn _)
    ·exact nb q
 have r:∀b,b∈X.fs->b∈bK X.stack:=λb J=>by
  rw[hs];unfold bK;rw[CB];split
  ·exact J
  ·exact Ae _ J
 have U:∀b:Addr,b∉X.ex:=λb=>by rw[hx];simp
 have a3:dU X.prog X.w H h':=λb u e=>(I.hok b u e).stay (λc w' hc q=>kp c w' q λhm=>by
  have n:=p c hm;rcases hc with z|z
  ·rw[z,e] at n;cases n
  ·rw[z] at n;cases n) (λ_ q=>q) λ_ _ q=>q
 refine⟨⟨λb o e n J _=>?_,λb o e n J _=>?_,λb o e n _=>I.base.free b o e n (U b),λb o e _=>?_,I.base.tups,I.base.frzs,I.base.tbls⟩,a3,?_⟩
 ·exact kp b o (I.base.keep b o e n J (U b)) (g b o e J)
 ·obtain⟨z,t⟩:=I.base.slot b o e n J (U b);obtain⟨z',e2⟩:=sl b _ t (r b J);exact⟨z',e2⟩
 ·obtain⟨l,t⟩:=I.base.there b o e (U b);by_cases J:b∈X.fs
  ·obtain⟨z',e2⟩:=sl b _ t (r b J);exact⟨_,e2⟩
  ·exact⟨l,kp b l t (g b o e J)⟩
 ·obtain⟨al,au,T,oT,ts,av,⟨aL,ba⟩,bb,bc,a4,a1,hT,a5,h3⟩:=k3;have a2:∀o,s.heap.get? T=some o->T∈aa a tr (bK X.stack):=λo e=>by
   by_cases q:T∈aa a tr (bK X.stack)
   ·exact q
   ·rw[CA _ e q] at a4;cases a4
  have ag:T∉bK X.stack:=λJ=>by obtain⟨_,l,e',nf⟩:=k2.mem J;rw[hT] at e';cases e';exact nf ts a5
  refine⟨T,λb o e ne z=>?_,?_,?_,a1,al,au,oT,ts,av,aL,ba,bb,bc,hT,a5,h3⟩
  ·subst z;rcases Ao.mp (a2 o e) with z|z
   ·exact a1 z
   ·rcases Aq.mp z with z|z
    ·exact ne b (by simpa using z) rfl
    ·exact ag z
  ·cases q:X.s₀.heap.get? T with
   |none=>rfl
   |some o=>
    obtain⟨l,t⟩:=I.base.there T o q (U T);rcases Ao.mp (a2 l t) with z|z
    ·exact absurd z a1
    ·rcases Aq.mp z with z|z
     ·rw[(j T (by simpa using z)).1] at q;cases q
     ·exact absurd z ag
  ·cases q:H T with
   |none=>rfl
   |some u=>
    obtain⟨l,t⟩:=(I.hok T u q).get;have:=p T (a2 l t);rw[q] at this;cases this
theorem adu{Q:Unit->Shared->Prop}(I:za X pins σ H s)(hs:X.stack=X.env::X.outer)(hf:X.env.frame=some X.env.locals)(hx:X.ex=[])(L:oB X.s₀.heap s.heap H a C tr)
 (h:∀h' T,Un X.fs [] X.H₀ H X.s₀.heap h'->dU X.prog X.w H h'->oB X.s₀.heap h' H a C (some T)->Q () { s with heap:=h' }):wpAny M X.A (leaving X.env (.ref a)) Q E s:=by
 have L0:=L;obtain⟨new,free,oe,vs,b0,g,hc,hd,h0,J⟩:=L0;have j:s.heap.FunFrames (PySem.W.hideAll s.heap (aa a tr (bK X.stack))) X.stack:=B6 I.stack λenv g b hb=>Ae _ (Ah _ (jU g hb));have st:(PySem.W.hideAll s.heap (aa a tr (bK X.stack))).StaysIn s.heap:=λb o e=>B5 _ e;have l:(PySem.W.hideAll s.heap (aa a tr (bK X.stack))).get? a=none:=Bx _ Ak;have U:X.A.frames=some (X.env::X.outer):=by rw[<-hs];exact I.ok.frames
 have go:∀h',Heap.LeftW (PySem.W.hideAll s.heap (aa a tr (bK X.stack))) (X.env::X.outer) a (.ref C) b0 s.heap h'->Q () { s with heap:=h' }:=λh' ⟨k1,k2,k3,k4⟩=>by obtain⟨u,p,T,_,n1,n2,ne,r,t,oT,ts,e1,e2,e3,e4,e5,e6,e7,e8⟩:=kA I hs hx new free (by intro T e;subst e;exact⟨J.2.1,J.2.2.1⟩) k1 (by rw[hs];rw[hs] at k2;exact k2) k3.at k4;exact h h' T u p ⟨new,free,r,t,b0,e1,e2,e4,e3,e5,n1,n2,ne,oT,ts,e6,e7,e8⟩
 have nT:∀T,tr=some T->(PySem.W.hideAll s.heap (aa a tr (bK X.stack))).get? T=none:=λT e=>by subst e;exact Bx _ (Ae _ (Ar _ (by simp)))
 generalize PySem.W.hideAll s.heap (aa a tr (bK X.stack))=base at j st l go nT;rw[hs] at j;cases tr with
 |none=>exact wpAny_leaving_firstW U j hf g st l hd J h0 (by rw[hc];exact go)
 |some T=>
  obtain⟨h1,_,_,a1,oT,ts,hT,a2,h3⟩:=J;exact wpAny_leaving_nextW U j hf ⟨oe,vs,T,oT,ts,g,⟨hc,h0⟩,hd,h1,nT T rfl,a1,hT,a2,h3⟩ st l go
end
def CXE(P:Program)(w:World):wJ:=λouter H s E e s'=>∃a C T H',e=.ref a/\s'.os=s.os/\AllBare s'.gens/\Un (bK outer) [] H H' s.heap s'.heap/\dU P w H' s'.heap/\oB s.heap s'.heap H' a C (some T)/\E (.ref C) none H'/\0<s'.toks
def og(X:Cx)(a:Addr):Prop:=a≠X.env.locals/\(∀x c,X.env.cells.lookup x=some c->c≠a)/\∀p∈X.pn,p.1≠a
abbrev X1:=St->Value->Hp->Prop
def a6(X:Cx)(E1:X1):Prop:=∀(pins:List (Addr×Obj)) (σ:St) (H:Hp) (s:Shared) (a C:Addr) (tr:Option Addr),za X pins σ H s->oB X.s₀.heap s.heap H a C tr->og X a->(∀T,tr=some T->og X T)->E1 σ (.ref C) H->X.xe (.ref a) s
section
variable {T:Addr}{tr:Option Addr}{E1:X1}
theorem za.apart(I:za X pins σ H s)(h:s.heap.get? b=none):og X b:=by
 refine⟨λe=>?_,λx c e z=>?_,λp U z=>?_⟩
 ·obtain⟨m,⟨o,_,_,J,_⟩,_⟩:=I.loc;rw[<-e,h] at J;cases J
 ·obtain⟨v,o,J,_⟩:=I.cell x c e;rw[z,h] at J;cases J
 ·obtain⟨e,_⟩:=I.pin p (Ar _ U);rw[z,h] at e;cases e
theorem za.news(I:za X pins σ H s)(J:X.ex=[])(h:s.heap.get? b=none):X.s₀.heap.get? b=none:=by
 cases q:X.s₀.heap.get? b with
 |none=>rfl
 |some o=>
  obtain⟨U,e⟩:=I.base.there b o q (by rw[J];simp);rw[h] at e;cases e
theorem a6.pass(t:a6 X E1)(U:X.ex=[]){e:Value}(I:za X pins σ H s)(h:CXE X.prog X.w X.stack H s (λc _ H'=>E1 σ c H') e s'):X.xe e s':=by obtain⟨a,C,T,H',rfl,j,l,u,J,⟨new,free,o,p,r,he,hc,hd,h0,h1,g,fT,rest⟩,q,a1⟩:=h;have I':za X pins σ H' s':=I.call' (ch:=[]) j u J l (λb z=>absurd z (by simp));exact t pins σ H' s' a C (some T) I' ⟨I.news U new,free,o,p,r,he,hc,hd,h0,h1,I.news U g,fT,rest⟩ (I.apart new) (λT' e=>by cases e;exact I.apart g) q
theorem afk{k:Nat}{Q:VK}(F:bA X.prog X.w X.K X.mg X.base (CXE X.prog X.w) k f fd ps sp)(U:wb k X.A)(g:dM X.K fd ps [])(j:a6 X E1)(l:X.ex=[])
 (I:za X pins σ H s) (r:zq vs us) (h:sp vs H Q (λc _ H'=>E1 σ c H')):wpAny (model X.prog X.w) X.A (call (.ref f) us) (EP X pins σ Q) X.xe s:=by
 have o:(us++[]).length=ps.length:=by rw[AX,<-r.length];exact F.len _ _ _ _ h
 refine wpAny_call (codeAny_mono (F.run X.A X.stack s H ⟨us,[]⟩ us vs Q _ U I.env0 (by have:=g s us I.kIn o;rw[AX] at this;exact this) r h) λr t J=>?_);cases r with
 |error e=>exact j.pass l I J
 |ok p=>
  cases p with|ret u=>exact I.after J|next=>exact False.elim J|brk=>exact False.elim J|cont=>exact False.elim J
end
def alf(sp:Sp)(E1:X1)(t:TA):TE:=λσ H Q=>t σ H λvs H1=>sp vs H1 Q λc _ H'=>E1 σ c H'
section
variable {k:Nat}{E1:X1}{t:TA}
theorem mQ(F:bA X.prog X.w X.K X.mg X.base (CXE X.prog X.w) k f fd ps sp)(l:wb k X.A)(o:Gl X x)(C:X.mg x=some (.ref f))(T:PySem.W.keepIn X.K (.ref f)=true)(hb:dM X.K fd ps [])(ht:a6 X E1)(hx:X.ex=[])
 (ha:PA X (e::es) t) (U:Ed x:=by decide) (he:Eb e es X:=by rfl) (g:Ec pos es X:=by rfl):
 PE X (.Call (.Name x p) (e::es) [] pos) (alf sp E1 t):=by
 intro J s σ H Q I h;refine wpAny_Call_Name_kw (eh I o C ?_ U);refine PySem.W.callWith_K (h₀:=X.base) I.ok.mod.kin T (aI (ha pos J s σ H _ I h) λus s1 ⟨vs,H1,j,r,q⟩=>⟨j.kIn,?_⟩) he g;exact afk F l hb ht hx j r q
end
theorem abx{P:Program}{w:World}{K:Ad}{N:List Str}{E:XK}:
 a6 (cn (CXE P w) P w K mg base N eK scope f cd A outer s H E) λ_ c H'=>E c none H':=by
 intro U j H' l a C tr I L _ _ q;refine adu (X:=cn (CXE P w) P w K mg base N eK scope f cd A outer s H E) I rfl rfl rfl L λo T u J g=>?_;exact⟨a,C,T,H',rfl,I.os,I.bare,u,J,g,q,I.tk⟩
structure aao(K:Ad)(C:Addr):Prop where
 ex:∃(nm q:Str) (N:Addr) (bs bm:List Value) (hdct:Bool) (sn:List Str) (sub:List Value) (ab:Bool) (col:Option Bool) (dd:Option Addr) (k0 k1 k2 k3 k5:Option Value) (B Bn newId nid initId inN:String) (bmB bmN:List Value),
  ExcBaseFacts Bn newId inN bmN/\bmB.contains (.type Bn)=true/\ExcBaseFacts B nid initId bmB/\
  ∀h,K.In h->h.get? C=some (excClassObj nm q C N bs bm hdct sn sub ab col dd k0 k1 k2 k3 k5 newId)/\(∃mN,h.Ns N mN/\mN "__init__"=none)/\OwnTail h bmB bm
theorem aeu{K:Ad}{g p:List Value}{B T U r J t:String}(q:PySem.W.excIn K C g U=true)(Fn:ExcBaseFacts T U t p)(a1:g.contains (.type T)=true)(F:ExcBaseFacts B r J g):aao K C:=by
 unfold PySem.W.excIn at q;split at q
 ·rename_i dd cd sl ho;split at q
  ·rename_i C' bm k0 k1 k2 k3 n k5 hm hs;simp only[A1,beq_iff_eq,Cs] at q;obtain⟨⟨⟨⟨⟨rfl,rfl⟩,j⟩,ht⟩,o⟩,I⟩:=q;obtain⟨nm,bs,a4,ns,qn,hd,sn,sub,ab,a2,del⟩:=cd;dsimp only at hm j o I;subst hm j;have a3:sl=#[k0,k1,k2,k3,some (.builtin n),k5]:=by obtain⟨l⟩:=sl;simp only at hs;rw[hs]
   subst a3;exact⟨nm,qn,ns,bs,bm,hd,sn,sub,ab,a2,dd,k0,k1,k2,k3,k5,B,T,n,r,J,t,g,p,Fn,a1,F,λh X=>⟨X _ _ ho,⟨_,.of_isNs (PySem.W.isNs_of_in X o),PySem.W.nsMap_none_of_in X o I⟩,PySem.W.tail_of_in X ht⟩⟩
  ·cases q
 ·cases q
def akg(C:Addr)(E1:X1)(t:TA):TS:=λ_ σ H=>t σ H λvs H1=>vs.length<=sizeLine/\E1 σ (.ref C) H1
theorem abo{E1:X1}{t:TA}(c:aao X.K C)(hg:Gl X x)(U:X.mg x=some (.ref C))(hc:X.calm=true)(ht:a6 X E1)(hx:X.ex=[])(ha:PA X (e::es) t)(a1:Ed x:=by decide)
 (he:Eb e es X:=by rfl) (a2:Ec eW es X:=by rfl):
 PS X (.Raise (some (.Call (.Name x np) (e::es) [] eW)) none pos) (akg C E1 t):=by
 intro J s σ H D I h;obtain⟨nm,q,N,bs,bm,hdct,sn,sub,ab,col,dd,k0,k1,k2,k3,k5,B,Bn,a3,ag,l,al,au,av,Fn,a4,F,all⟩:=c.ex;obtain⟨_,⟨mN,hn,a5⟩,ow⟩:=all X.base I.ok.mod.kin;refine wpAny_Raise_call_subU (C:=C) (nm:=nm) (q:=q) (N:=N) (bs:=bs) (bm:=bm) (hdct:=hdct) (sn:=sn) (sub:=sub) (ab:=ab) (col:=col) (dd:=dd) (k0:=k0) (k1:=k1) (k2:=k2) (k3:=k3) (k5:=k5) Fn a4 F (mN:=mN) (ow.hasType F.hasBase) (I.ok.hd hc)
  (by rw[he];show(false||(backTo eW (starEach es X.env)).any (·.1))=false;rw[a2];rfl) a5 (eh I hg U ⟨rfl,?_⟩ a1)
 rw[he];have j:=ha eW J s σ H _ I h;rw[he] at j;refine Calls.evalArgs_plain (aI j λus s2 ⟨vs,p,g,r,hl,q1⟩=>⟨rfl,by rw[<-r.length];exact hl,(all _ g.kIn).1,hn.keeps g.bk,(all _ g.kIn).2.2,λh' a U=>?_⟩);obtain⟨t0,e1,_,_⟩:=U.there;have I2:za X J σ p { s2 with heap:=h' }:=g.kept (t':=s2.toks) U.keeps;have fr:p a=none:=by
  cases z:p a with
  |none=>rfl
  |some u=>
   obtain⟨o,eo⟩:=(g.hok a u z).get;rw[U.new] at eo;cases eo
 exact ht J σ p _ a C none I2 ⟨g.news hx U.new,fr,_,_,.ref t0,e1,rfl,rfl,rfl,rfl⟩ (g.apart U.new) (λT z=>nomatch z) q1
section
variable {T:Addr}{tr:Option Addr}
theorem iR(I:za X pins σ H s)(C:X.ex=[])(hf:X.stack=X.env::X.outer)(un:Un X.fs [] X.H₀ H X.s₀.heap h')(hok:dU X.prog X.w H h')
 (k1:(PySem.W.hideAll s.heap (aa a tr (bK X.stack))).StaysIn h') (l:∀b o,s.heap.get? b=some o->(∀vs,o.data≠.fields vs)->∃J,h'.get? b=some { o with slots:=J })
 (pa:∀p∈X.pn++pins,p.1≠a/\∀T,tr=some T->p.1≠T):za X pins σ H { s with heap:=h' }:=by
 have cl:∀{c:Addr} {v:Option Value},s.heap.IsCell c v->h'.IsCell c v:=λ{c v} ⟨o,U,hd⟩=>by
  obtain⟨J,e⟩:=l c o U λvs q=>by rw[hd] at q;cases q
  exact⟨_,e,hd⟩
 obtain⟨m,hn,hl⟩:=id I.loc;have g:h'.Ns X.env.locals m:=by
  obtain⟨o,es,ep,U,hd,r⟩:=hn;obtain⟨J,e⟩:=l _ o U λvs q=>by rw[hd] at q;cases q
  exact⟨_,es,ep,e,hd,r⟩
 refine⟨I.ok,I.os,I.bare,by rw[C];exact un,⟨m,g,λi x v e1 e2 e3=>?_⟩,λx c e=>?_,I.free,I.freeC,λp j=>?_,hok,I.len,I.tk⟩
 ·obtain⟨u,ru,lk⟩:=hl i x v e1 e2 e3;refine⟨u,ru,?_⟩;rcases lk with lk|⟨k,c,e,z⟩
  ·exact .inl lk
  ·exact .inr ⟨k,c,e,cl z⟩
 ·obtain⟨v,z⟩:=I.cell x c e;exact⟨v,cl z⟩
 ·obtain⟨e,n,ne,t,d⟩:=I.pin p j;refine⟨k1 _ _ (CA _ e λhm=>?_),n,ne,t,d⟩;rcases Ao.mp hm with z|z
  ·exact(pa p j).1 z
  ·rcases Aq.mp z with z|z
   ·exact(pa p j).2 p.1 (by simpa using z) rfl
   ·rcases Ao.mp (I.stkSub _ z) with z|z
    ·exact ne z
    ·exact t z
theorem wW{Q:Unit->Shared->Prop}(I:za X pins σ H s)(hs:X.stack=X.env::X.outer)(hf:X.env.frame=some X.env.locals)(hx:X.ex=[])(L:oB X.s₀.heap s.heap H a C tr)
 (pa:∀p∈X.pn++pins,p.1≠a/\∀T,tr=some T->p.1≠T)
 (h:∀h' T,za X pins σ H { s with heap:=h' }->oB X.s₀.heap h' H a C (some T)->(∀p∈X.pn++pins,p.1≠T)->Q () { s with heap:=h' }):
 wpAny M X.A (noteFrame (.ref a) X.env) (λ_ j=>wpAny M X.A (setFlight (.ref a) none) Q E j) E s:=by
 obtain⟨new,free,oe,vs,b0,g,hc,hd,h0,J⟩:=id L;have r:∀T,tr=some T->X.s₀.heap.get? T=none/\H T=none:=by intro T e;subst e;exact⟨J.2.1,J.2.2.1⟩
 have fr:s.heap.FunFrames (PySem.W.hideAll s.heap (aa a tr (bK X.stack))) X.stack:=B6 I.stack λenv g b hb=>Ae _ (Ah _ (jU g hb));have st:(PySem.W.hideAll s.heap (aa a tr (bK X.stack))).StaysIn s.heap:=λb o e=>B5 _ e;have na:(PySem.W.hideAll s.heap (aa a tr (bK X.stack))).get? a=none:=Bx _ Ak;have t:X.A.frames=some (X.env::X.outer):=by rw[<-hs];exact I.ok.frames
 have nT:∀T,tr=some T->(PySem.W.hideAll s.heap (aa a tr (bK X.stack))).get? T=none:=λT e=>by subst e;exact Bx _ (Ae _ (Ar _ (by simp)))
 have go:∀h',Heap.NotedW (PySem.W.hideAll s.heap (aa a tr (bK X.stack))) (X.env::X.outer) a (.ref C) b0 (rawInt X.env.locals) s.heap h'->wpAny M X.A (setFlight (.ref a) none) Q E { s with heap:=h' }:=λh' ⟨k1,k2,k3,k4⟩=>by
  rw[<-hs] at k2;obtain⟨u,a5,T,ag,n1,n2,ne,al,au,oT,ts,e1,e2,e3,e4,e5,e6,e7,e8⟩:=kA I hs hx new free r k1 k2 k3 k4;have I2:za X pins σ H { s with heap:=h' }:=iR I hx hs u a5 k1 k4 pa;have a1:∀p∈X.pn++pins,p.1≠T:=λp U=>by obtain⟨e,_⟩:=I.pin p U;exact ag p.1 _ e (pa p U).2
  have av:h'.FunFrames (PySem.W.hideAll h' (aa a (some T) (bK X.stack))) X.stack:=B6 I2.stack λenv g b hb=>Ae _ (Ah _ (jU g hb));refine wpAny_setFlight_noneW (s:={ s with heap:=h' }) (base:=PySem.W.hideAll h' (aa a (some T) (bK X.stack))) (l:=X.stack) (e:=a) (cls:=.ref C) (a0:=b0) (fl:=rawInt X.env.locals) (λb o e=>B5 _ e) av
   ⟨al,au,T,oT,ts,e1,⟨e2,e3⟩,e4,e5,Bx _ (Ae _ (Ar _ (by simp))),ne,e6,e7,e8⟩ λh3 j1 j2 j3 j4=>?_
  have a2:∀b o,h'.get? b=some o->(∀vs,o.data≠.fields vs)->∃sl,h3.get? b=some { o with slots:=sl }:=λb o e q=>⟨o.slots,j4 b o e q⟩;obtain⟨u',a3,T',a4,aL,ba,bb,bc,bd,bf,bg,f1,f2,f3,f4,f5,f6,f7,f8⟩:=kA (s:={ s with heap:=h' }) (tr:=some T) I2 hs hx new free (λT0 e=>by cases e;exact⟨n1,n2⟩) j1 j2 j3.at a2;have I3:za X pins σ H { s with heap:=h3 }:=iR (s:={ s with heap:=h' }) (h':=h3) (tr:=some T) I2 hx hs u' a3 j1 a2 λp U=>⟨(pa p U).1,λT0 e=>by cases e;exact a1 p U⟩;refine h h3 T' I3 ⟨new,free,bc,bd,b0,f1,f2,f4,f3,f5,aL,ba,bb,bf,bg,f6,f7,f8⟩ λp U=>?_;obtain⟨e,_⟩:=I2.pin p U;exact a4 p.1 _ e λT0 z=>by cases z;exact a1 p U
 generalize PySem.W.hideAll s.heap (aa a tr (bK X.stack))=base at fr st na go nT;rw[hs] at fr;cases tr with
 |none=>
  unfold noteFrame;simp only[hf];refine Aa (AQ g hd J ?_);rw[AC (by decide)];exact wpAny_entryW t fr hf g st na hd (Array.getElem?_eq_some_iff.mp J).1 h0 (by rw[hc];exact go)
 |some T=>
  obtain⟨h1,_,_,bh,oT,ts,hT,bi,h3⟩:=J;exact wpAny_noteFrame_onW t fr hf ⟨oe,vs,T,oT,ts,g,⟨hc,h0⟩,hd,h1,nT T rfl,bh,hT,bi,h3⟩ st na go
end
abbrev Cx.tr(X:Cx)(pn:List (Addr×Obj))(xe:Value->Shared->Prop):Cx:={ X with pn:=pn,xe:=xe }
abbrev Cx.hnd(X:Cx)(a:Addr):Cx:={ X with A:=X.A.mark (some (.ref a)),calm:=false,xe:=λ_ _=>False }
theorem Cx.Ok.tr(ok:X.Ok)(pn:List (Addr×Obj))(xe:Value->Shared->Prop):(X.tr pn xe).Ok:=
 ⟨ok.mod,ok.kind,ok.glob,ok.blt,ok.above,ok.inj,ok.has,ok.cab,ok.hd,ok.frames,ok.stk,ok.exf,ok.bs,ok.bsz,ok.noex,ok.exfs,ok.funs,ok.frf⟩
theorem Cx.Ok.untr{pn:List (Addr×Obj)}(ok:(X.tr pn xe).Ok):X.Ok:=
 ⟨ok.mod,ok.kind,ok.glob,ok.blt,ok.above,ok.inj,ok.has,ok.cab,ok.hd,ok.frames,ok.stk,ok.exf,ok.bs,ok.bsz,ok.noex,ok.exfs,ok.funs,ok.frf⟩
theorem Cx.Ok.hnd(ok:X.Ok)(a:Addr):(X.hnd a).Ok:=
 ⟨ok.mod,ok.kind,ok.glob,ok.blt,ok.above,ok.inj,ok.has,ok.cab,(λz=>nomatch z),ok.frames,ok.stk,ok.exf,ok.bs,ok.bsz,ok.noex,ok.exfs,ok.funs,ok.frf⟩
section
variable {T:Addr}
theorem za.tr(I:za X pins σ H s)(xe:Value->Shared->Prop):za (X.tr (X.pn++pins) xe) [] σ H s:=⟨I.ok.tr _ _,I.os,I.bare,I.base,I.loc,I.cell,I.free,I.freeC,(λp J=>I.pin p (by simpa using J)),I.hok,I.len,I.tk⟩
theorem za.untr{J:List (Addr×Obj)}(I:za (X.tr (X.pn++pins) xe) J σ H s):za X pins σ H s:=⟨I.ok.untr,I.os,I.bare,I.base,I.loc,I.cell,I.free,I.freeC,(λp U=>I.pin p (Ar _ U)),I.hok,I.len,I.tk⟩
theorem za.hnd(I:za X pins σ H s)(a:Addr):za (X.hnd a) pins σ H s:=⟨I.ok.hnd a,I.os,I.bare,I.base,I.loc,I.cell,I.free,I.freeC,I.pin,I.hok,I.len,I.tk⟩
theorem za.unhnd(ok:X.Ok)(I:za (X.hnd a) pins σ H s):za X pins σ H s:=⟨ok,I.os,I.bare,I.base,I.loc,I.cell,I.free,I.freeC,I.pin,I.hok,I.len,I.tk⟩
theorem SP.untr{D:jK}{f:Flow}(h:SP (X.tr (X.pn++pins) xe) [] D f s'):SP X pins D f s':=by
 cases f with
 |next=>obtain⟨U,g,J,q⟩:=h;exact⟨U,g,J.untr,q⟩
 |brk=>obtain⟨U,g,J,q⟩:=h;exact⟨U,g,J.untr,q⟩
 |cont=>obtain⟨U,g,J,q⟩:=h;exact⟨U,g,J.untr,q⟩
 |ret u=>obtain⟨v,U,g,J,r,q⟩:=h;exact⟨v,U,g,J.untr,r,q⟩
theorem eZ{n:Str}{Q:Unit->Shared->Prop}(I:za X pins σ H s)(hN:X.N.Nodup)(hi:X.N[i]?=some n)(hk:X.env.scope.names.lookup n=some .local)
 (h:∀s',za X pins (σ.set i none) H s'->Q () s'):wpAny M A (do bindName X.env n .none;unbindBehindTheSuite X.env n pos) Q E s:=by
 obtain⟨m,hn,hl⟩:=id I.loc;have g:(X.env.scope.kind==.class||(X.env.scope.kind==.module&&X.env.locals != X.env.globals))=false:=by rw[I.ok.kind];rfl
 refine wpAny_nameGoes_keeps hk hn g λh' v C J=>h _ ?_;obtain⟨oL,_,_,a1,_⟩:=id hn;have km:∀b o,X.s₀.heap.get? b=some o->b≠X.env.locals:=λb o e=>AV (AI (At e) I.ok.above);refine⟨I.ok,I.os,I.bare,⟨λb o e n T l=>?_,λb o e n T l=>?_,I.base.free,λb o e l=>?_,I.base.tups,I.base.frzs,I.base.tbls⟩,⟨_,C,λj y v' U t e3=>?_⟩,λy c e=>?_,I.free,I.freeC,λp hp=>?_,λb ob e=>?_,by simpa using I.len,by first|exact I.tk|exact CO _⟩
 ·exact(J.2 b (km b o e)).trans (I.base.keep b o e n T l)
 ·obtain⟨sl,U⟩:=I.base.slot b o e n T l;exact⟨sl,(J.2 b (km b o e)).trans U⟩
 ·obtain⟨o',U⟩:=I.base.there b o e l;exact⟨o',(J.2 b (km b o e)).trans U⟩
 ·by_cases hj:j=i
  ·subst hj;have r:j<σ.length:=by rw[I.len];exact(AL.mp hi).1
   rw[BK r] at t;cases t
  ·rw[BD (AF hj)] at t;obtain⟨u',r',q⟩:=hl j y v' U t e3;refine⟨u',r',?_⟩;rcases q with⟨k,e⟩|⟨k,c,e,z⟩
   ·refine .inl ⟨k,?_⟩;have:y≠n:=λe=>hj (lH hN U (e▸hi));simp[this,e]
   ·exact .inr ⟨k,c,e,z.sameBut J (I.cne y c e)⟩
 ·obtain⟨w',z⟩:=I.cell y c e;exact⟨w',z.sameBut J (I.cne y c e)⟩
 ·obtain⟨e,n,ne,nf,d⟩:=I.pin p hp;exact⟨(J.2 p.1 ne).trans e,n,ne,nf,d⟩
 ·refine(I.hok b ob e).stay (λc w' hc q=>(J.2 c ?_).trans q) (λ_ q=>q) λ_ _ q=>q;rintro rfl;rcases hc with z|z
  ·rw[<-z,I.free] at e;cases e
  ·rw[I.free] at z;cases z
theorem aek{J:Obj}(I:za X pins σ H s)(C:X.ex=[])(new:X.s₀.heap.get? a=none)(free:H a=none)(U:s.heap.get? a=some J)(ap:og X a)(pa:∀p∈X.pn++pins,p.1≠a):za X pins σ (upd H a (.frz J (.own 0))) s:=by
 refine⟨I.ok,I.os,I.bare,⟨I.base.keep,I.base.slot,λb o e n l=>?_,I.base.there,λb g e=>?_,λb o u e=>?_,λb r e=>?_⟩,I.loc,I.cell,?_,λx c e=>?_,λp j=>?_,λb u e=>?_,I.len,I.tk⟩
 ·rw[qo (λz=>by rw[z,new] at e;cases e)];exact I.base.free b o e n l
 ·have:=I.base.tups b g e;rw[qo (λz=>by rw[z,free] at this;cases this)];exact this
 ·have:=I.base.frzs b o u e;rw[qo (λz=>by rw[z,free] at this;cases this)];exact this
 ·obtain⟨more,this⟩:=I.base.tbls b r e;exact⟨more,by rw[qo (λz=>by rw[z,free] at this;cases this)];exact this⟩
 ·rw[qo (AF ap.1)];exact I.free
 ·rw[qo (ap.2.1 x c e)];exact I.freeC x c e
 ·obtain⟨e,n,ne,t,d⟩:=I.pin p j;exact⟨e,by rw[qo (pa p j)];exact n,ne,t,d⟩
 ·by_cases z:b=a
  ·subst z;rw[zg] at e;cases e;exact⟨U,J,U⟩
  ·rw[qo z] at e;exact(I.hok b u e).stay (λ_ _ _ q=>q) (λc q=>by rw[qo (λz=>by rw[z,free] at q;cases q)];exact q) λc g q=>by rw[qo (λz=>by rw[z,free] at q;cases q)];exact q
theorem oH{Q:Unit->Shared->Prop}(I:za X pins σ H s)(hs:X.stack=X.env::X.outer)(hx:X.ex=[])(L:oB X.s₀.heap s.heap H a C (some T))
 (pa:∀p∈X.pn++pins,p.1≠a/\p.1≠T) (h:∀h' g,za X pins σ H { s with heap:=h' }->oB X.s₀.heap h' H a C (some g)->Q () { s with heap:=h' }):wpAny M A (setFlight (.ref a) none) Q E s:=by
 obtain⟨new,free,oe,j,b0,r,hc,hd,h0,h1,n1,n2,ne,oT,ts,hT,t,h3⟩:=L;have a1:s.heap.FunFrames (PySem.W.hideAll s.heap (aa a (some T) (bK X.stack))) X.stack:=B6 I.stack λenv r b hb=>Ae _ (Ah _ (jU r hb));refine wpAny_setFlight_noneW (base:=PySem.W.hideAll s.heap (aa a (some T) (bK X.stack))) (l:=X.stack) (e:=a) (cls:=.ref C) (a0:=b0) (fl:=.none) (λb o e=>B5 _ e) a1
  ⟨oe,j,T,oT,ts,r,⟨hc,h0⟩,hd,h1,Bx _ (Ae _ (Ar _ (by simp))),ne,hT,t,h3⟩ λh3 j1 j2 j3 j4=>?_
 have J:∀b o,s.heap.get? b=some o->(∀j,o.data≠.fields j)->∃sl,h3.get? b=some { o with slots:=sl }:=λb o e q=>⟨o.slots,j4 b o e q⟩;obtain⟨u',U,g,av,a2,a3,a4,a5,ag,al,au,f1,f2,f3,f4,f5,f6,f7,f8⟩:=kA (tr:=some T) I hs hx new free (λT0 e=>by cases e;exact⟨n1,n2⟩) j1 j2 j3.at J;exact h h3 g (iR (tr:=some T) I hx hs u' U j1 J λp hp=>⟨(pa p hp).1,λT0 e=>by cases e;exact(pa p hp).2⟩) ⟨new,free,a5,ag,b0,f1,f2,f4,f3,f5,a2,a3,a4,al,au,f6,f7,f8⟩
end
def Dh(i:Nat)(D:jK):jK where
 nx:=λσ H=>D.nx (σ.set i none) H
 rt:=D.rt
 bk:=λσ H=>D.bk (σ.set i none) H
 ct:=λσ H=>D.ct (σ.set i none) H
def aet(K:Ad)(Dc:Addr)(i:Nat)(th:TS)(D:jK):X1:=λσ c H=>∃C,c=.ref C/\PySem.W.exmOne K (.ref C) (.ref Dc)=some true/\∀a J,H a=none->J.cls=.ref C->th (Dh i D) (σ.set i (some (.ref a))) (upd H a (.frz J (.own 0)))
def aq7(K:Ad)(Dc:Addr)(i:Nat)(tb:X1->TS)(th:TS):TS:=λD σ H=>tb (aet K Dc i th D) D σ H
theorem alo{n:Str}{tb:X1->TS}{th:TS}(hs:X.stack=X.env::X.outer)(hf:X.env.frame=some X.env.locals)(hx:X.ex=[])(hN:X.N.Nodup)(hi:X.N[i]?=some n)
 (hk:X.env.scope.names.lookup n=some .local) (hg:Gl X x) (hm:X.mg x=some (.ref Dc)) (hb:∀(pn:List (Addr×Obj)) (xe:Value->Shared->Prop) (E1:X1),a6 (X.tr pn xe) E1->fN (X.tr pn xe) body (tb E1)) (hh:∀a,fN (X.hnd a) (nC::kt) th)
 (a2:Ed x:=by decide):PS X (.Try body [.ExceptHandler (some (.Name x np)) (some n) (nC::kt) wh] [] [] pos) (aq7 X.K Dc i tb th):=by
 intro U s σ H D I h;have tk:a6 (X.tr (X.pn++U) (λe s'=>∃g l H' a C tr,e=.ref a/\za X U l H' s'/\oB X.s₀.heap s'.heap H' a C tr/\og (X.tr (X.pn++g) X.xe) a/\(∀p∈X.pn++U,p.1≠a)/\(∀T,tr=some T->∀p∈X.pn++U,p.1≠T)/\aet X.K Dc i th D l (.ref C) H'))
  (aet X.K Dc i th D):=λg l H' s' a C tr I' L ap a4 q=>⟨[],l,H',a,C,tr,rfl,I'.untr,L,⟨ap.1,ap.2.1,λp j=>ap.2.2 p (by have j:p∈X.pn++[]:=j;rw[AX] at j;exact Ar _ j)⟩,ap.2.2,λT e=>(a4 T e).2.2,q⟩
 refine wpAny_Try_except (AO (hb _ _ _ tk [] s σ H D (I.tr _) h) (λf s1 h1=>?_) λe s1 h1=>?_)
 ·have h2:=SP.untr h1;cases f with|next=>exact wpAny_execs_nil h2|brk=>exact h2|cont=>exact h2|ret u=>exact h2
 ·obtain⟨g,l,H',a,C,tr,rfl,I1,L,ap,pa,a5,C',ec,em,q⟩:=h1;cases ec;refine wW I1 hs hf hx L (λp j=>⟨pa p j,λT e=>a5 T e p j⟩) λh' T I2 L2 a1=>?_;refine wpAny_handleBy_cons (codeAny_handlers_test ?_) (by intro q;cases q);refine eh (X:=X.hnd a) (I2.hnd a) hg hm ?_ a2;obtain⟨_,_,oe,vs,a0,he,hc,_⟩:=id L2;have LT:PySem.W.Looks (model X.prog X.w) h' (typeOf (.ref a)) (.ref C):=hc▸(PySem.W.Looks.ld he).andThen .now;refine PySem.W.exm_one (K:=X.K) I2.kIn LT em _ _ _ _ (λ_ _ e=>e) ?_;refine codeAny_handlers_suite_as ?_;refine oH I2 hs hx L2 (λp j=>⟨pa p j,a1 p j⟩) λh3 T' I3 L3=>?_;obtain⟨new,free,ag,av,a3,al,au,_⟩:=L3;have I4:=aek I3 hx new free al ⟨ap.1,ap.2.1,λp j=>pa p (Ar _ j)⟩ pa;refine du (X:=X.hnd a) (I4.hnd a) hN hi (.inl hk) (v:=.ref a) (u:=.ref a) rfl (λs5 I5=>?_) (.inr hk);refine AO (hh a U s5 _ _ (Dh i D) I5 (q a ag free au)) (λf s6 h6=>?_) λe s6 z=>z.elim;cases f with
  |next=>obtain⟨o,t,J,q6⟩:=h6;exact eZ (J.unhnd I.ok) hN hi hk λs7 I7=>⟨_,t,I7,q6⟩
  |brk=>obtain⟨o,t,J,q6⟩:=h6;exact eZ (J.unhnd I.ok) hN hi hk λs7 I7=>⟨_,t,I7,q6⟩
  |cont=>obtain⟨o,t,J,q6⟩:=h6;exact eZ (J.unhnd I.ok) hN hi hk λs7 I7=>⟨_,t,I7,q6⟩
  |ret u=>obtain⟨v,o,t,J,r,q6⟩:=h6;exact eZ (J.unhnd I.ok) hN hi hk λs7 I7=>⟨v,_,t,I7,r,q6⟩
open PySem PySem.Spec PyProof.Rows PySem.W
structure XAt(K:Frag)(C:Addr):Prop where
 ga:findIn K (.ref C) "__getattribute__"=some (some (.builtin "BaseException.__getattribute__"))
 gt:findIn K (.ref C) "__getattr__"=some none
 cl:findIn K (.ref C) "__class__"=some (some (.builtin "object.__class__"))
 ge:specialIn K (.builtin "object.__class__") "__get__"=some (some (.builtin "getset_descriptor.__get__"))
 tk:takesIn K (.builtin "object.__class__")=some true
 mo:mroIn K C (.type "object")=some true
 be:subIn K (.ref C) (.type "BaseException")=some true
theorem ahj(self:Value):bindSpecial (.builtin "BaseException.__getattribute__") self=pure (.builtin "BaseException.__getattribute__",[self]):=by
 have U:withoutEnding? "BaseException.__getattribute__" "#opaque"=none:=by decide +kernel
 have J:withoutEnding? "BaseException.__getattribute__" "#data"=none:=by decide +kernel
 have g:builtinKind "BaseException.__getattribute__"=some .slot:=by decide +kernel
 simp only[bindSpecial,typeOf,builtinType,U,J,g];rfl
def pU(h:Heap)(a C:Addr):Prop:=∃o,h.get? a=some o/\o.cls=.ref C
theorem pU.type(I:pU h a C):Looks M h (typeOf (.ref a)) (.ref C):=by obtain⟨o,h1,h2⟩:=I;exact h2▸(Looks.ld h1).andThen .now
open Builtin.ObjectAttr in
theorem af4{K:Frag}(c:XAt K C)(X:K.In h):Looks M h (find (.ref a) (.ref C) "__class__") (.bind (.builtin "getset_descriptor.__get__") (.builtin "object.__class__")):=by have J:=looks_findIn (M:=M) X c.cl;have L2:=looks_specialIn (M:=M) X c.ge;have L3:=looks_takesIn (M:=M) X c.tk;refine J.andThen (L2.andThen ?_);exact(show Looks M h (dataDescriptor? (some (.builtin "object.__class__")) (some (.builtin "getset_descriptor.__get__"))) (some (.builtin "getset_descriptor.__get__",.builtin "object.__class__")) from L3.andThen .now).andThen (Looks.tag .now)
section
variable {w:World}{K:Frag}
open Builtin Builtin.ObjectAttr Builtin.Getset_descriptor in
theorem ak7{R:Result->Shared->Prop}{tp:Value}(X:K.In s.heap)(I:pU s.heap a C)(J:mroIn K C (.type "object")=some true)
 (h:R (.ok (.ret (.ref C))) s):codeAny (model prog w) A (.call (.builtin "getset_descriptor.__get__") ⟨[.builtin "object.__class__",.ref a,tp],[]⟩) R s:=by
 obtain⟨U,g,j,t,os⟩:=s;have l:=I.type (M:=model prog w);have o:=looks_mroIn (M:=model prog w) X J;refine codeAny_call_builtin KF.slot_gs.plain KF.entry_gs (KF.slot_gs.check _ _ _ _ _ _ _ _ KF.type_class (KF.args_gs _ _ _) ?_);unfold Builtin.«getset_descriptor.__get__» descrGet;rw[dga_obj];refine Aa (Ag ?_);unfold descrGetter descrCheckInstance descrNameAndClass isInstance;simp only[KF.owner_class]
 repeat lk
 refine⟨Code.quiet_builtin _ (by decide +kernel),codeAny_builtin KF.entry_class ?_⟩;unfold Builtin.«object.__class__» shownTypeOf
 repeat lk
 exact h
theorem ab7{tk:Tok}{Q:Fin->Shared->Prop}(c:XAt K C)(X:K.In s.heap)(I:pU s.heap a C)(h:Q (.done (.ret (.ref C))) s):
 wpAny (model prog w) A (Builtin.«object.__getattribute__» ⟨[.ref a,.str "__class__" tk],[]⟩) Q E s:=by
 obtain⟨J,g,d,t,os⟩:=s;have U:=I.type (M:=model prog w);have j:=af4 (M:=model prog w) (a:=a) c X;unfold Builtin.«object.__getattribute__»
 repeat (first|with_reducible refine wpAny_call ?_|lk)
 refine ak7 X I c.mo ?_
 repeat lk
 exact h
theorem abc{Q:Unit->Shared->Prop}{J:Value}(c:XAt K C)(X:K.In s.heap)(I:pU s.heap a C)(j:Q () s):wpAny (model prog w) A (checkBuiltinCall "BaseException.__getattribute__" ⟨[.ref a,J],[]⟩) Q E s:=by
 obtain⟨o,g,d,t,os⟩:=s;have p:=I.type (M:=model prog w);have r:=looks_subIn (M:=model prog w) X c.be;have l:builtinKind "BaseException.__getattribute__"=some .slot:=by decide +kernel
 have U:splitId "BaseException.__getattribute__"=some ("BaseException","__getattribute__"):=by decide +kernel
 have T:=F.args_bexc_ga (.ref a) J;simp only[checkBuiltinCall,l,U];refine Aa ?_;unfold isInstance
 repeat lk
 exact j
theorem ao1{tk:Tok}(c:XAt K C)(X:K.In s.heap)(I:pU s.heap a C)(h:Q (.ref C) s):wpAny (model prog w) A (getAttrBy (.ref a) (.str "__class__" tk) false) Q E s:=by
 obtain⟨J,g,d,t,os⟩:=s;have U:=I.type (M:=model prog w);have j:=looks_findIn (M:=model prog w) X c.ga;have L2:=looks_findIn (M:=model prog w) X c.gt;have l:=ahj (.ref a);unfold getAttrBy
 repeat (first|with_reducible refine wpAny_call ?_|with_reducible refine wpAny_attempt ?_|lk)
 refine codeAny_call_builtin (by decide +kernel) F.entry_bexc_ga (abc c X I (ab7 c X I ?_));exact handed_on rfl h
theorem agw{Q:Option Value->Shared->Prop}(c:XAt K C)(X:K.In s.heap)(I:pU s.heap a C)(h:Q (some (.ref C)) { s with toks:=s.toks+1 }):wpAny (model prog w) A (getAttr? (.ref a) "__class__") Q E s:=by unfold getAttr? getAttrBy?;refine Aa (wpAny_mkText (Aa (wpAny_attempt (ao1 (s:={ s with toks:=s.toks+1 }) c X I ?_))));exact Ag h
end
theorem rT{K:Frag}(c:XAt K C)(J:(clsIn K C).isSome=true):KitX K (.ref a) (.ref C) (λh=>pU h a C) where
 ty:=λ_ _ _ I=>I.type
 it:=λ_ _ X _=>by
  unfold clsIn at J;split at J
  ·rename_i o p U g j;intro T Q' E' s' k q;unfold isType loadHead;exact Aa (wpAny_loadPart (k _ _ (X _ _ j)) (Ag q))
  ·cases J
 ne:=λh r dd t n sl X l=>by
  refine BF.mpr λq=>?_;have e:C=r:=Value.ref.inj (beq_iff_eq.mp q);subst e;unfold clsIn at J;split at J
  ·rename_i o p U g j;have z:=(X _ _ j).symm.trans l;cases z
  ·cases J
 ca:=λX I k=>agw c X I k
def xH:V->Option Value
 |.ref D=>some (.ref D)
 |.ty T=>some (.type T)
 |_=>none
theorem rf{c:Value}(h:xH v=some c)(r:zu v u):u=c:=by cases v with|ref D=>cases h;exact r|ty T=>cases h;exact r|_=>cases h
theorem tL:∀{vs:List V} {us cs:List Value},vs.map xH=cs.map some->zq vs us->us=cs
 |[],_,[],_,.nil=>rfl
 |[],_,_::_,h,_=>by cases h
 |_::_,_,[],h,_=>by cases h
 |v::vs,_,c::cs,h,.cons r t=>by rw[AK,AK] at h;obtain⟨h1,h2⟩:=CC h;rw[rf h1 r,tL h2 t]
structure XHd(K:Ad)(C:Addr):Prop where
 at_:XAt K C
 cls:(PySem.W.clsIn K C).isSome=true
def adn(K:Ad)(H:Hp)(a C:Addr):Prop:=∃J,H a=some (.frz J (.own 0))/\J.cls=.ref C
def akv(K:Ad):List V->Hp->VK->Prop:=λxs H Q=>∃a C v,xs=[.ref a,v]/\adn K H a C/\XHd K C/\
 ((∃u b,xH v=some u/\PySem.W.kitOne K (.ref C) u=some b/\Q (.bl b) H)\/(∃tp J us b,v=.ref tp/\cB K H tp J/\J.map xH=us.map some/\PySem.W.kitAny K (.ref C) us=some b/\Q (.bl b) H))
theorem l9 :x8 X (.builtin "isinstance") (akv X.K):=by
 intro U s σ H xs us Q I r h;obtain⟨a,C,v,rfl,⟨g,l,p⟩,hd,h⟩:=h;obtain⟨t,T,rfl,r1,j⟩:=zq.two r;cases (show t=Value.ref a from r1);obtain⟨he,_⟩:=(show xq X.prog X.w H s.heap a (.frz g (.own 0)) from I.hok a _ l);have ex:pU s.heap a C:=⟨g,he,p⟩;rcases h with⟨c,b,e,k,q⟩|⟨tp,ws,cs,b,rfl,J,e,k,q⟩
 ·cases rf e j;exact x4 I.tk (Bh (rT hd.at_ hd.cls) I.kIn ex k (λz=>nomatch z) λtk J=>⟨.bl b,H,I.tok _,rfl,q⟩)
 ·cases (show T=Value.ref tp from j);obtain⟨a1,rv,⟨o,h1,h2,n,h3⟩,_⟩:=I.tuple J;cases tL e rv;obtain⟨oc,od,a2,a3⟩:=o;dsimp only at h2 h3;subst h2 h3;exact x4 I.tk (PySem.W.kia_tup (rT hd.at_ hd.cls) I.kIn ex h1 k (λz=>nomatch z) λtk J=>⟨.bl b,H,I.tok _,rfl,q⟩)
def pN(H:Hp)(P:Addr)(q:Str):Prop:=∃ps,H P=some (.tbl ps)/\TriplesOk ps.toList/\∀pos J,codeAmong pos ps.toList=some J->∃U oc vs t,J=.ref U/\H U=some (.frz oc (.own 0))/\oc.data=.fields vs/\vs[1]?=some (.str q t)
theorem pN.keep{P:Addr}(h:pN H P q)(e:H' P=H P)(t:∀b o u,H b=some (.frz o u)->H' b=some (.frz o u)):pN H' P q:=by obtain⟨J,h1,h2,h3⟩:=h;refine⟨J,e.trans h1,h2,λpos U z=>?_⟩;obtain⟨g,j,l,p,r,C,I⟩:=h3 pos U z;exact⟨g,j,l,p,r,t _ _ _ C,I⟩
end L2
namespace L3
open PySem L2
inductive Y where
 |non|bl (b:Bool)|int (i:Int)|str (x:Str)|ref (a:Addr)|ty (n:String)|cd (kvs:List (Str×Str))|tup (ys:List Y)|sq (ys:List Y)
inductive LO where
 |lst (ys:List Y)|dct (kvs:List (jf×Y))|ins (C:Addr) (fs:List (Str×Y))|exc (C:Addr)|tb (q:Str)
abbrev qr:=Addr->Option LO
def qi(L:qr)(a:Addr)(o:LO):qr:=λb=>if b=a then some o else L b
theorem q8{L:qr}{o:LO}:qi L a o a=some o:=by unfold qi;rw[AB rfl]
theorem qb{L:qr}{o:LO}(h:b≠a):qi L a o b=L b:=by unfold qi;rw[AC h]
theorem xr{L:qr}{o u:LO}:qi (qi L a o) a u=qi L a u:=by funext b;unfold qi;split<;>rfl
theorem km{L:qr}{o:LO}(h:L a=some o)(h':L b=none):a≠b:=by intro e;subst e;rw[h] at h';cases h'
structure G3 where
 K:Ad
 P:Program
 w:World
abbrev _root_.L2.Cx.g3(X:Cx):G3:=⟨X.K,X.prog,X.w⟩
def SqF(K:Ad)(H:Hp)(a:Addr)(xs:List V):Prop:=(∃o,H a=some (.frz o (.lst xs)))\/
 ∃(o:Obj) (eH:Array Value) (n:Nat),K.lookup a=some o/\o.cls=.type "list" /\ o.dict=none/\o.data=.seq eH n/\eH.size<=sizeLine/\zq xs eH.toList
theorem SqF.sq{K:Ad}(h:SqF K H a xs):aJ K H a xs:=by
 rcases h with⟨o,h⟩|h
 ·exact .inl (.inr ⟨o,h⟩)
 ·exact .inr h
mutual
def RV(G:G3)(H:Hp):Y->V->Prop
 |.non,v=>v=.non
 |.bl b,v=>v=.bl b
 |.int i,v=>v=.int i
 |.str x,v=>v=.str x
 |.ref a,v=>v=.ref a
 |.ty n,v=>v=.ty n
 |.cd kvs,v=>∃a,v=.ref a/\KD G.K G.P G.w a (kvs.map λp=>(Sum.inr p.1,V.str p.2))
 |.tup ys,v=>∃a xs,v=.ref a/\cB G.K H a xs/\xx G H ys xs
 |.sq ys,v=>∃a xs,v=.ref a/\SqF G.K H a xs/\xx G H ys xs
def xx(G:G3)(H:Hp):List Y->List V->Prop
 |[],xs=>xs=[]
 |y::ys,xs=>∃x J,xs=x::J/\RV G H y x/\xx G H ys J
end
def Imm:HO->Bool
 |.tup _=>true
 |.frz _ _=>true
 |_=>false
def ja(H H':Hp):Prop:=∀a u,Imm u=true->H a=some u->H' a=some u
theorem ja.refl(H:Hp):ja H H:=λ_ _ _ h=>h
abbrev DS:=@ja.refl
theorem ja.trans{H1 H2:Hp}(a:ja H H1)(b:ja H1 H2):ja H H2:=λc u i h=>b c u i (a c u i h)
theorem ja.new{p:Addr}{o:HO}(h:H p=none):ja H (upd H p o):=λ_ _ _ q=>by rw[qo (zr q h)];exact q
abbrev DV:=@ja.new
theorem ja.lst{p:Addr}{o:HO}(h:H p=some (.lst zs)):ja H (upd H p o):=λa u i q=>by rw[qo ?_];exact q;rintro rfl;rw[h] at q;cases q;cases i
abbrev EH:=@ja.lst
theorem cB.ts{K:Ad}(h:cB K H a xs)(t:ja H H'):cB K H' a xs:=by
 rcases h with(h|⟨o,h⟩)|h
 ·exact .inl (.inl (t _ _ rfl h))
 ·exact .inl (.inr ⟨o,t _ _ rfl h⟩)
 ·exact .inr h
theorem SqF.ts{K:Ad}(h:SqF K H a xs)(t:ja H H'):SqF K H' a xs:=by
 rcases h with⟨o,h⟩|h
 ·exact .inl ⟨o,t _ _ rfl h⟩
 ·exact .inr h
mutual
theorem RV.ts{G:G3}{H H':Hp}(t:ja H H'):∀{y:Y} {v:V},RV G H y v->RV G H' y v
 |.non,_,h=>h
 |.bl _,_,h=>h
 |.int _,_,h=>h
 |.str _,_,h=>h
 |.ref _,_,h=>h
 |.ty _,_,h=>h
 |.cd _,_,h=>h
 |.tup _,_,⟨a,J,e,s,r⟩=>⟨a,J,e,cB.ts s t,xx.ts t r⟩
 |.sq _,_,⟨a,J,e,s,r⟩=>⟨a,J,e,s.ts t,xx.ts t r⟩
theorem xx.ts{G:G3}{H H':Hp}(t:ja H H'):∀{ys:List Y} {xs:List V},xx G H ys xs->xx G H' ys xs
 |[],_,h=>h
 |_::_,_,⟨x,J,e,r,s⟩=>⟨x,J,e,RV.ts t r,xx.ts t s⟩
end
theorem xx.length{G:G3}{H:Hp}:∀{ys:List Y} {xs:List V},xx G H ys xs->ys.length=xs.length
 |[],_,h=>by cases h;rfl
 |_::_,_,⟨x,J,e,_,s⟩=>by subst e;simp[xx.length s]
theorem xx.get{G:G3}{H:Hp}:∀{ys:List Y} {xs:List V} {i:Nat} {y:Y},xx G H ys xs->ys[i]?=some y->∃x,xs[i]?=some x/\RV G H y x
 |[],_,_,_,_,h=>by simp at h
 |_::_,_,0,_,⟨x,J,e,r,_⟩,h=>by subst e;simp at h;subst h;exact⟨x,rfl,r⟩
 |_::_,_,i+1,_,⟨x,J,e,_,s⟩,h=>by subst e;obtain⟨U,q,r⟩:=xx.get (i:=i) s (by simpa using h);exact⟨U,by simpa using q,r⟩
theorem xx.app{G:G3}{H:Hp}:∀{ys zs:List Y} {xs us:List V},xx G H ys xs->xx G H zs us->xx G H (ys++zs) (xs++us)
 |[],_,_,_,h,q=>by cases h;exact q
 |_::_,_,_,_,⟨x,J,e,r,s⟩,q=>by subst e;exact⟨x,J++_,rfl,r,xx.app s q⟩
theorem xx.one{G:G3}{y:Y}{x:V}(r:RV G H y x):xx G H [y] [x]:=⟨x,[],rfl,r,rfl⟩
theorem xx.take{G:G3}{H:Hp}:∀{ys:List Y} {xs:List V} (n:Nat),xx G H ys xs->xx G H (ys.take n) (xs.take n)
 |[],_,n,h=>by cases h;simp[xx]
 |_::_,_,0,_=>by simp[xx]
 |_::_,_,n+1,⟨x,J,e,r,s⟩=>by subst e;exact⟨x,J.take n,rfl,r,xx.take n s⟩
theorem xx.drop{G:G3}{H:Hp}:∀{ys:List Y} {xs:List V} (n:Nat),xx G H ys xs->xx G H (ys.drop n) (xs.drop n)
 |[],_,n,h=>by cases h;simp[xx]
 |_::_,_,0,h=>h
 |_::_,_,n+1,⟨x,J,e,r,s⟩=>by subst e;exact xx.drop n s
theorem xx.setY{G:G3}{H:Hp}{y:Y}{x:V}(r:RV G H y x):∀{ys:List Y} {xs:List V} (i:Nat),xx G H ys xs->xx G H (ys.set i y) (xs.set i x)
 |[],_,_,h=>by cases h;simp[xx]
 |_::_,_,0,⟨U,J,e,_,s⟩=>by subst e;exact⟨x,J,rfl,r,s⟩
 |_::_,_,i+1,⟨U,J,e,q,s⟩=>by subst e;exact⟨U,J.set i x,rfl,q,xx.setY r i s⟩
theorem xx.dropLast{G:G3}{ys:List Y}(h:xx G H ys xs):xx G H ys.dropLast xs.dropLast:=by rw[List.dropLast_eq_take,List.dropLast_eq_take,h.length];exact h.take _
theorem xx.eraseIdx{G:G3}{H:Hp}:∀{ys:List Y} {xs:List V} (n:Nat),xx G H ys xs->xx G H (ys.eraseIdx n) (xs.eraseIdx n)
 |[],_,n,h=>by cases h;simp[xx]
 |_::_,_,0,⟨x,J,e,r,s⟩=>by subst e;exact s
 |_::_,_,n+1,⟨x,J,e,r,s⟩=>by subst e;exact⟨x,J.eraseIdx n,rfl,r,xx.eraseIdx n s⟩
def RO(G:G3)(H:Hp)(a:Addr):LO->Prop
 |.lst ys=>∃xs,H a=some (.lst xs)/\xx G H ys xs
 |.dct kvs=>∃xs,H a=some (.dK xs)/\Paired (λ(p:jf×Y) (q:jf×V)=>p.1=q.1/\RV G H p.2 q.2) kvs xs
 |.ins C fs=>∃dx xs,H a=some (.ins C dx xs)/\Paired (λ(p:Str×Y) (q:Str×V)=>p.1=q.1/\RV G H p.2 q.2) fs xs
 |.exc C=>adn G.K H a C
 |.tb q=>pN H a q
def j5(G:G3)(H:Hp)(L:qr):Prop:=∀a o,L a=some o->RO G H a o
theorem RO.ex{G:G3} :∀{o:LO},RO G H a o->∃u,H a=some u
 |.lst _,⟨_,h,_⟩=>⟨_,h⟩
 |.dct _,⟨_,h,_⟩=>⟨_,h⟩
 |.ins _ _,⟨_,_,h,_⟩=>⟨_,h⟩
 |.exc _,⟨_,h,_⟩=>⟨_,h⟩
 |.tb _,⟨_,h,_⟩=>⟨_,h⟩
theorem j5.none{G:G3}{L:qr}(h:j5 G H L){p:Addr}(J:H p=none):L p=none:=by cases e:L p with|none=>rfl|some o=>obtain⟨u,q⟩:=(h p o e).ex;rw[J] at q;cases q
theorem RO.keep{G:G3}(t:ja H H')(e:H' a=H a):∀{o:LO},RO G H a o->RO G H' a o
 |.lst _,⟨J,h,r⟩=>⟨J,e.trans h,r.ts t⟩
 |.dct _,⟨J,h,r⟩=>⟨J,e.trans h,DX r λ_ _ ⟨a,b⟩=>⟨a,b.ts t⟩⟩
 |.ins _ _,⟨U,J,h,r⟩=>⟨U,J,e.trans h,DX r λ_ _ ⟨a,b⟩=>⟨a,b.ts t⟩⟩
 |.exc _,⟨o,h,c⟩=>⟨o,e.trans h,c⟩
 |.tb _,h=>pN.keep h e λb o u z=>t b _ rfl z
theorem j5.skip{G:G3}{L:qr}(h:j5 G H L){p:Addr}{o:HO}(J:H p=.none):j5 G (upd H p o) L:=λa u e=>by obtain⟨x,q⟩:=(h a u e).ex;exact(h a u e).keep (DV J) (qo (zr q J))
theorem j5.newL{G:G3}{L:qr}(h:j5 G H L){p:Addr}{ys:List Y}(J:H p=.none)(r:xx G H ys xs):j5 G (upd H p (.lst xs)) (qi L p (.lst ys)):=λa u e=>by
 by_cases c:a=p
 ·subst c;rw[q8] at e;cases e;exact⟨xs,zg,r.ts (DV J)⟩
 ·rw[qb c] at e;exact(h a u e).keep (DV J) (qo c)
theorem j5.setL{G:G3}{L:qr}(h:j5 G H L){p:Addr}{ys:List Y}(J:H p=some (.lst zs))(r:xx G H ys xs):j5 G (upd H p (.lst xs)) (qi L p (.lst ys)):=λa u e=>by
 by_cases c:a=p
 ·subst c;rw[q8] at e;cases e;exact⟨xs,zg,r.ts (EH J)⟩
 ·rw[qb c] at e;exact(h a u e).keep (EH J) (qo c)
def qg(L L':qr):Prop:=∀a o,L a=some o->L' a=some o
theorem qg.refl(L:qr):qg L L:=λ_ _ h=>h
abbrev DU:=@qg.refl
theorem qg.trans{L L1 L2:qr}(a:qg L L1)(b:qg L1 L2):qg L L2:=λc o h=>b c o (a c o h)
theorem qg.new{L:qr}{p:Addr}{o:LO}(h:L p=none):qg L (qi L p o):=λa u e=>by rw[qb (km e h)];exact e
abbrev By:=@qg.new
theorem j5.sub{G:G3}{L L':qr}(h:j5 G H L')(s:qg L L'):j5 G H L:=λa o e=>h a o (s a o e)
abbrev jo:=List (Option Y)
structure xw(G:G3)(H:Hp)(σ:St)(τ:jo):Prop where
 len:σ.length=τ.length
 get:∀(i:Nat) y,τ[i]?=some (some y)->∃v,σ[i]?=some (some v)/\RV G H y v
theorem xw.ts{G:G3}{τ:jo}(h:xw G H σ τ)(t:ja H H'):xw G H' σ τ:=
 ⟨h.len,λi y e=>let ⟨v,a,b⟩:=h.get i y e;⟨v,a,b.ts t⟩⟩
theorem xw.set{G:G3}{τ:jo}(h:xw G H σ τ){y:Y}(r:RV G H y v):xw G H (σ.set i (some v)) (τ.set i (some y)):=by
 refine⟨by simp[h.len],λj z e=>?_⟩;by_cases c:i=j
 ·subst c;have J:i<τ.length:=by
   by_cases q:i<τ.length
   ·exact q
   ·rw[Co (by simp;omega)] at e;cases e
  rw[BK J] at e;cases e;exact⟨v,BK (by rw[h.len];exact J),r⟩
 ·rw[BD c] at e ⊢;exact h.get j z e
theorem xw.more{G:G3}{τ:jo}(h:xw G H σ τ)(n:Nat):xw G H (σ++List.replicate n none) (τ++List.replicate n none):=by
 refine⟨by simp[h.len],λj z e=>?_⟩;by_cases c:j<τ.length
 ·rw[AG c] at e;rw[AG (by rw[h.len];exact c)];exact h.get j z e
 ·rw[Aw (by omega),CK] at e;split at e<;>cases e
def zS:jo->Nat->Option Y
 |[],_=>none
 |o::_,0=>o
 |_::r,i+1=>zS r i
theorem pC:∀(τ:jo) (i:Nat) {y:Y},zS τ i=some y->τ[i]?=some (some y)
 |[],_,_,h=>by cases h
 |o::_,0,_,h=>by simp[zS] at h;simp[h]
 |_::r,i+1,_,h=>by simp only[CL];exact pC r i h
abbrev YK:=Y->qr->Prop
abbrev xp:=jo->qr->YK->Prop
abbrev jN:=jo->qr->(Bool->qr->Prop)->Prop
abbrev eO:=jo->qr->(List Y->qr->Prop)->Prop
structure vq where
 nx:jo->qr->Prop
 rt:YK
 bk:jo->qr->Prop:=λ_ _=>False
 ct:jo->qr->Prop:=λ_ _=>False
abbrev vt:=vq->jo->qr->Prop
abbrev mW:=Y->jo->qr->(jo->qr->Prop)->Prop
abbrev tQ:=List Y->jo->qr->(jo->qr->Prop)->Prop
abbrev TI3:=jo->qr->(List Y->(qr->Prop)->qr->Prop)->Prop
abbrev mX:=Y->Y->qr->YK->Prop
def rF(G:G3)(H:Hp)(J:YK)(Q:VK):Prop:=∀v H' y L',ja H H'->j5 G H' L'->RV G H' y v->J y L'->Q v H'
def xW(G:G3)(H:Hp)(J:Bool->qr->Prop)(Q:Bool->Hp->Prop):Prop:=∀b H' L',ja H H'->j5 G H' L'->J b L'->Q b H'
def aoe(G:G3)(H:Hp)(J:List Y->qr->Prop)(Q:List V->Hp->Prop):Prop:=∀vs H' ys L',ja H H'->j5 G H' L'->xx G H' ys vs->J ys L'->Q vs H'
def mz(G:G3)(H:Hp)(J:jo->qr->Prop)(Q:St->Hp->Prop):Prop:=∀σ H' τ L',ja H H'->xw G H' σ τ->j5 G H' L'->J τ L'->Q σ H'
theorem rF.ts{G:G3}{J:YK}{Q:VK}(h:rF G H J Q)(t:ja H H'):rF G H' J Q:=λv U y g j=>h v U y g (t.trans j)
theorem xW.ts{G:G3}{J:Bool->qr->Prop}{Q:Bool->Hp->Prop}(h:xW G H J Q)(t:ja H H'):xW G H' J Q:=λv U g j=>h v U g (t.trans j)
theorem mz.ts{G:G3}{J:jo->qr->Prop}{Q:St->Hp->Prop}(h:mz G H J Q)(t:ja H H'):mz G H' J Q:=λv U y g j=>h v U y g (t.trans j)
structure ue(G:G3)(H:Hp)(D3:vq)(D:jK):Prop where
 nx:mz G H D3.nx D.nx
 rt:rF G H D3.rt D.rt
 bk:mz G H D3.bk D.bk
 ct:mz G H D3.ct D.ct
theorem ue.ts{G:G3}{D3:vq}{D:jK}(h:ue G H D3 D)(t:ja H H'):ue G H' D3 D:=⟨h.nx.ts t,h.rt.ts t,h.bk.ts t,h.ct.ts t⟩
def pY(G:G3)(t:xp):TE:=λσ H Q=>∃τ L J,xw G H σ τ/\j5 G H L/\t τ L J/\rF G H J Q
def upT(G:G3)(t:jN):TT:=λσ H Q=>∃τ L J,xw G H σ τ/\j5 G H L/\t τ L J/\xW G H J Q
def upA(G:G3)(t:eO):TA:=λσ H Q=>∃τ L J,xw G H σ τ/\j5 G H L/\t τ L J/\aoe G H J Q
def upS(G:G3)(t:vt):L2.TS:=λD σ H=>∃τ L D3,xw G H σ τ/\j5 G H L/\t D3 τ L/\ue G H D3 D
def upG(G:G3)(g:mW):TG:=λv σ H Q=>∃y τ L J,RV G H y v/\xw G H σ τ/\j5 G H L/\g y τ L J/\mz G H J Q
def asn(G:G3)(g:tQ):TGs:=λvs σ H Q=>∃ys τ L J,xx G H ys vs/\xw G H σ τ/\j5 G H L/\g ys τ L J/\mz G H J Q
structure fe(G:G3)(H₀:Hp)(J:It)(ys:List Y)(keep:qr->Prop):Prop where
 go:∀i H L,ja H₀ H->j5 G H L->keep L->i<ys.length->J.go i H
 yld:∀i H L x H' y,ja H₀ H->j5 G H L->keep L->ys[i]?=some y->J.yld i H x H'->ja H H'/\j5 G H' L/\RV G H' y x
 stop:∀H L,ja H₀ H->j5 G H L->keep L->J.stop ys.length H
def upI(G:G3)(wi:TI3):TI:=λσ H R=>∃τ L U,xw G H σ τ/\j5 G H L/\wi τ L U/\∀J H' ys keep L',ja H H'->j5 G H' L'->fe G H' J ys keep->U ys keep L'->R J H'
def fE(G:G3)(g:mX):R2:=λx y H Q=>∃x3 J L U,RV G H x3 x/\RV G H J y/\j5 G H L/\g x3 J L U/\rF G H U Q
def upL(G:G3)(U:List Y->qr->YK->Prop):List V->Hp->VK->Prop:=λxs H Q=>∃ys L J,xx G H ys xs/\j5 G H L/\U ys L J/\rF G H J Q
def upU(G:G3)(U:Y->qr->YK->Prop):V->Hp->VK->Prop:=λx H Q=>∃y L J,RV G H y x/\j5 G H L/\U y L J/\rF G H J Q
theorem PE.imp{t u:TE}(h:PE X e t)(q:∀σ H Q,u σ H Q->t σ H Q):PE X e u:=λJ s σ H Q I z=>h J s σ H Q I (q σ H Q z)
abbrev EJ:=@PE.imp
theorem PE.imq{G:G3}{t:TE}{u:xp}(h:PE X e t)(q:∀σ H Q τ L J,xw G H σ τ->j5 G H L->u τ L J->rF G H J Q->t σ H Q):PE X e (pY G u):=EJ h λσ H Q ⟨τ,L,J,a,b,c,d⟩=>q σ H Q τ L J a b c d
abbrev DW:=@PE.imq
theorem PT.imp{t u:TT}(h:PT X e t)(q:∀σ H Q,u σ H Q->t σ H Q):PT X e u:=λJ s σ H Q I z=>h J s σ H Q I (q σ H Q z)
theorem PT.imq{G:G3}{t:TT}{u:jN}(h:PT X e t)(q:∀σ H Q τ L J,xw G H σ τ->j5 G H L->u τ L J->xW G H J Q->t σ H Q):PT X e (upT G u):=PT.imp h λσ H Q ⟨τ,L,J,a,b,c,d⟩=>q σ H Q τ L J a b c d
theorem PW.imp{t u:TT}(h:PW X e t)(q:∀σ H Q,u σ H Q->t σ H Q):PW X e u:=λU J s σ H Q I z=>h U J s σ H Q I (q σ H Q z)
theorem PW.imq{G:G3}{t:TT}{u:jN}(h:PW X e t)(q:∀σ H Q τ L J,xw G H σ τ->j5 G H L->u τ L J->xW G H J Q->t σ H Q):PW X e (upT G u):=PW.imp h λσ H Q ⟨τ,L,J,a,b,c,d⟩=>q σ H Q τ L J a b c d
theorem PA.imp{e:List Expr}{t u:TA}(h:PA X e t)(q:∀σ H Q,u σ H Q->t σ H Q):PA X e u:=λpos J s σ H Q I z=>h pos J s σ H Q I (q σ H Q z)
theorem PA.imq{G:G3}{e:List Expr}{t:TA}{u:eO}(h:PA X e t)(q:∀σ H Q τ L J,xw G H σ τ->j5 G H L->u τ L J->aoe G H J Q->t σ H Q):PA X e (upA G u):=PA.imp h λσ H Q ⟨τ,L,J,a,b,c,d⟩=>q σ H Q τ L J a b c d
theorem PS.imp{e:Stmt}{t u:L2.TS}(h:PS X e t)(q:∀D σ H,u D σ H->t D σ H):PS X e u:=λJ s σ H Q I z=>h J s σ H Q I (q _ σ H z)
theorem PS.imq{G:G3}{e:Stmt}{t:L2.TS}{u:vt}(h:PS X e t)(q:∀D σ H τ L D3,xw G H σ τ->j5 G H L->u D3 τ L->ue G H D3 D->t D σ H):PS X e (upS G u):=PS.imp h λD σ H ⟨τ,L,D3,a,b,c,d⟩=>q D σ H τ L D3 a b c d
abbrev ED:=@PS.imq
theorem fN.imp{e:List Stmt}{t u:L2.TS}(h:fN X e t)(q:∀D σ H,u D σ H->t D σ H):fN X e u:=λJ s σ H Q I z=>h J s σ H Q I (q _ σ H z)
theorem fN.imq{G:G3}{e:List Stmt}{t:L2.TS}{u:vt}(h:fN X e t)(q:∀D σ H τ L D3,xw G H σ τ->j5 G H L->u D3 τ L->ue G H D3 D->t D σ H):fN X e (upS G u):=fN.imp h λD σ H ⟨τ,L,D3,a,b,c,d⟩=>q D σ H τ L D3 a b c d
theorem PF.imp{e:List Expr}{t u:TT}(h:PF X e t)(q:∀σ H Q,u σ H Q->t σ H Q):PF X e u:=λJ s σ H Q I z=>h J s σ H Q I (q σ H Q z)
end L3
variable {g:L3.mW}{y:L3.Y}{D:L3.vq}{ta tb te ti to:L3.xp}{kvs:List (L2.jf×L3.Y)}{ys:List L3.Y}{L L' L0 L1:L3.qr}{G:L3.G3}{τ:L3.jo}{gs:L3.tQ}{tA:L3.jN}
namespace L3
open PySem L2
def wc(b:Bool)(A B:Prop):Prop:=match b with
 |true=>A
 |false=>B
theorem aht{b:Bool}{A B:Prop}(h:b=true->A)(k:b=false->B):wc b A B:=by cases b with|true=>exact h rfl|false=>exact k rfl
theorem v0{b:Bool}{A B:Prop}(e:b=true)(h:A):wc b A B:=by rw[e];exact h
theorem xi{b:Bool}{A B:Prop}(e:b=false)(h:B):wc b A B:=by rw[e];exact h
theorem x0{p:Prop} [Decidable p]{A B:Prop}(h:p->A)(k:¬p->B):wc (decide p) A B:=by
 by_cases c:p
 ·rw[AE c];exact h c
 ·rw[Au c];exact k c
def nb(neg b:Bool):Bool:=match neg with
 |true=>!b
 |false=>b
def q9(i:Nat)(τ:jo)(L:qr)(Q:YK):Prop:=match zS τ i with
 |some y=>Q y L
 |none=>False
def yC(y:Y)(_:jo)(L:qr)(Q:YK):Prop:=Q y L
def zb(r:mX)(ta tb:xp)(τ:jo)(L:qr)(Q:YK):Prop:=ta τ L λx L1=>tb τ L1 λy L2=>r x y L2 Q
def uA(r:Y->qr->YK->Prop)(ta:xp)(τ:jo)(L:qr)(Q:YK):Prop:=ta τ L λx L1=>r x L1 Q
def yI(C:Int->Int->Prop)(g:Int->Int->Y)(x y:Y)(L:qr)(Q:YK):Prop:=match x,y with
 |.int i,.int j=>C i j/\Q (g i j) L
 |_,_=>False
def yI0(g:Int->Int->Y)(x y:Y)(L:qr)(Q:YK):Prop:=match x,y with
 |.int i,.int j=>Q (g i j) L
 |_,_=>False
def ft(x:Y)(L:qr)(Q:YK):Prop:=match x with
 |.int i=>Q (.int (-i)) L
 |_=>False
def cL(L:qr):Y->Option (List Y)
 |.tup ys=>some ys
 |.sq ys=>some ys
 |.ref a=>match L a with
  |some (.lst ys)=>some ys
  |_=>none
 |_=>none
@[irreducible] def eJ (L:qr) (a:Addr) (k:List Y->Prop):Prop:=match L a with
 |some (.lst ys)=>k ys
 |_=>False
theorem vo{k:List Y->Prop}(h:eJ L a k):∃ys,L a=some (.lst ys)/\k ys:=by
 unfold eJ at h;split at h
 ·rename_i ys e;exact⟨ys,e,h⟩
 ·exact h.elim
theorem qw{k:List Y->Prop}(e:L a=some (.lst ys))(h:k ys):eJ L a k:=by unfold eJ;rw[e];exact h
def fC(L:qr)(x:Y)(k:List Y->Prop):Prop:=match x with
 |.tup ys=>k ys
 |.sq ys=>k ys
 |.ref a=>eJ L a k
 |_=>False
theorem aM(h:L a=some (.lst ys)):cL L (.ref a)=some ys:=by show(match L a with|some (.lst ys)=>some ys|_=>none)=some ys;rw[h]
theorem ko{x:Y}{k:List Y->Prop}(h:fC L x k):∃ys,cL L x=some ys/\k ys:=by
 cases x with
 |tup ys=>exact⟨ys,rfl,h⟩
 |sq ys=>exact⟨ys,rfl,h⟩
 |ref a=>obtain⟨ys,e,q⟩:=vo h;exact⟨ys,aM e,q⟩
 |_=>exact h.elim
theorem o5(h:cL L (.ref a)=some ys):L a=some (.lst ys):=by
 have J:(match L a with|some (.lst ys)=>some ys|_=>none)=some ys:=h;split at J
 ·rename_i e;cases J;exact e
 ·cases J
theorem agm{x:Y}{k:List Y->Prop}(e:cL L x=some ys)(h:k ys):fC L x k:=by cases x with|tup J=>cases e;exact h|sq J=>cases e;exact h|ref a=>exact qw (o5 e) h|_=>cases e
theorem qc{k:List Y->Prop}(e:L a=some (.lst ys))(h:k ys):fC L (.ref a) k:=agm (aM e) h
def k8(x y:Y)(L:qr)(Q:YK):Prop:=match x,y with
 |.int i,.int j=>Q (.int (i+j)) L
 |.str a,.str b=>a.length+b.length<=sizeLine/\Q (.str (a++b)) L
 |.ref a,.ref b=>∃ys zs,L a=some (.lst ys)/\L b=some (.lst zs)/\ys.length+zs.length<=sizeLine/\∀p,L p=none->Q (.ref p) (qi L p (.lst (ys++zs)))
 |_,_=>False
def tV(L:qr)(Q:α->qr->Prop):Option α->Prop
 |some v=>Q v L
 |none=>False
def kq(kvs:List (jf×Y))(k:jf):Option Y:=(kvs.find? λp=>decide (p.1=k)).map (·.2)
@[irreducible] def tR (L:qr) (a:Addr) (k:List (jf×Y)->Prop):Prop:=match L a with
 |some (.dct kvs)=>k kvs
 |_=>False
theorem gW{k:List (jf×Y)->Prop}(h:tR L a k):∃kvs,L a=some (.dct kvs)/\k kvs:=by
 unfold tR at h;split at h
 ·rename_i J e;exact⟨J,e,h⟩
 ·exact h.elim
theorem jz{k:List (jf×Y)->Prop}(e:L a=some (.dct kvs))(h:k kvs):tR L a k:=by unfold tR;rw[e];exact h
def wz(x y:Y)(L:qr)(Q:YK):Prop:=match x,y with
 |.str z,.int i=>z.length<=sizeLine/\tV L (λc L=>Q (.str ⟨#[c]⟩) L) (dQ z.cps.toList i)
 |.cd kvs,.str k=>tV L (λs L=>Q (.str s) L) (kvs.lookup k)
 |.ref a,.str k=>tR L a λkvs=>tV L Q (kq kvs (.inr k))
 |x,.int i=>fC L x λys=>tV L Q (dQ ys i)
 |_,_=>False
def kF(xs:List Y)(L:qr)(Q:YK):Prop:=match xs with
 |[.str z]=>z.length<=sizeLine/\Q (.int z.length) L
 |[x]=>fC L x λys=>Q (.int ys.length) L
 |_=>False
def afo(xs:List Y)(L:qr)(Q:YK):Prop:=match xs with
 |[.int i,.int j]=>Q (.int (max i j)) L
 |_=>False
def aj5(xs:List Y)(L:qr)(Q:YK):Prop:=match xs with
 |[.int i,.int j]=>Q (.int (min i j)) L
 |_=>False
inductive rH where
 |non|bool|int|str|tuple|list|dict
def rH.nm:rH->String
 |.non => "NoneType"
 |.bool => "bool"
 |.int => "int"
 |.str => "str"
 |.tuple => "tuple"
 |.list => "list"
 |.dict => "dict"
def tyY(L:qr):Y->Option rH
 |.non=>some .non
 |.bl _=>some .bool
 |.int _=>some .int
 |.str _=>some .str
 |.tup _=>some .tuple
 |.sq _=>some .list
 |.ref a=>match L a with
  |some (.lst _)=>some .list
  |some (.dct _)=>some .dict
  |_=>none
 |_=>none
theorem tyL(h:L a=some (.lst ys)):tyY L (.ref a)=some .list:=by show(match L a with|some (.lst _)=>some rH.list|some (.dct _)=>some .dict|_=>none)=some .list;rw[h]
def acr:rH->rH->Bool
 |.bool,.int=>true
 |.bool,.bool=>true
 |.int,.int=>true
 |.str,.str=>true
 |.tuple,.tuple=>true
 |.list,.list=>true
 |.dict,.dict=>true
 |.non,.non=>true
 |_,_=>false
@[irreducible] def tyK (L:qr) (a:Addr) (k:rH->Prop):Prop:=match tyY L (.ref a) with
 |some T=>k T
 |none=>False
theorem aff{k:rH->Prop}(h:tyK L a k):∃T,tyY L (.ref a)=some T/\k T:=by
 unfold tyK at h;split at h
 ·rename_i T e;exact⟨T,e,h⟩
 ·exact h.elim
theorem eV{k:rH->Prop}(e:L a=some (.lst ys))(h:k .list):tyK L a k:=by unfold tyK;rw[tyL e];exact h
def aoq(L:qr)(x:Y)(k:rH->Prop):Prop:=match x with
 |.non=>k .non
 |.bl _=>k .bool
 |.int _=>k .int
 |.str _=>k .str
 |.tup _=>k .tuple
 |.sq _=>k .list
 |.ref a=>tyK L a k
 |_=>False
theorem act{x:Y}{k:rH->Prop}(h:aoq L x k):∃T,tyY L x=some T/\k T:=by cases x with|ref a=>exact aff h|ty n=>exact h.elim|cd k=>exact h.elim|_=>exact⟨_,rfl,h⟩
def dF(S:rH)(te:xp)(τ:jo)(L:qr)(Q:YK):Prop:=te τ L λx L1=>aoq L1 x λT=>Q (.bl (acr T S)) L1
def fS:Y->Bool
 |.non=>true
 |.bl _=>true
 |.int _=>true
 |.str _=>true
 |_=>false
def f9:Y->V
 |.non=>.non
 |.bl b=>.bl b
 |.int i=>.int i
 |.str x=>.str x
 |_=>.ty "?"
theorem RV.flat :∀{y:Y} {v:V},fS y=true->RV G H y v->v=f9 y
 |.non,_,_,h=>h
 |.bl _,_,_,h=>h
 |.int _,_,_,h=>h
 |.str _,_,_,h=>h
theorem fz:∀{y:Y},fS y=true->ae (f9 y)=true
 |.non,_=>rfl
 |.bl _,_=>rfl
 |.int _,_=>rfl
 |.str _,_=>rfl
theorem xx.flat :∀{ys:List Y} {xs:List V},ys.all fS=true->xx G H ys xs->xs=ys.map f9
 |[],_,_,h=>h
 |y::ys,_,f,⟨x,J,e,r,s⟩=>by rw[Dx,A1] at f;rw[e,r.flat f.1,s.flat f.2];rfl
def rL:Y->Bool
 |.ref _=>true
 |.sq _=>true
 |_=>false
def jd(L:qr):Nat->Y->Da->Prop
 |0,y,d=>fS y=true/\d=.s (f9 y)
 |n+1,y,d=>(fS y=true/\d=.s (f9 y))\/(∃ys ds,y=.tup ys/\d=.tup ds/\Paired (jd L n) ys ds)\/(∃ys ds,rL y=true/\d=.lst ds/\cL L y=some ys/\Paired (jd L n) ys ds)
def xN:Y->Bool
 |.ref _=>true
 |.tup _=>true
 |.sq _=>true
 |_=>false
def tW(neg:Bool)(x y:Y)(L:qr)(Q:YK):Prop:=match x,y with
 |.int i,.int j=>Q (.bl (nb neg (decide (i=j)))) L
 |.str i,.str j=>Q (.bl (nb neg (decide (i=j)))) L
 |.bl i,.bl j=>Q (.bl (nb neg (decide (i=j)))) L
 |x,y=>xN x=true/\xN y=true/\∃n m d e,n<=128/\jd L n x d/\jd L m y e/\Q (.bl (nb neg (Da.eq d e))) L
def fB(neg:Bool)(ta:xp)(τ:jo)(L:qr)(Q:YK):Prop:=ta τ L λx L1=>match x with
 |.non=>Q (.bl (!neg)) L1
 |_=>Q (.bl neg) L1
def yB(t:xp)(τ:jo)(L:qr)(Q:Bool->qr->Prop):Prop:=t τ L λx L1=>match x with
 |.bl c=>Q c L1
 |_=>False
def ox(t u:jN)(τ:jo)(L:qr)(Q:Bool->qr->Prop):Prop:=t τ L λc L1=>wc c (u τ L1 Q) (Q false L1)
def yOr(t u:jN)(τ:jo)(L:qr)(Q:Bool->qr->Prop):Prop:=t τ L λc L1=>wc c (Q true L1) (u τ L1 Q)
def tJ(t:jN)(τ:jo)(L:qr)(Q:Bool->qr->Prop):Prop:=t τ L λc L1=>Q (!c) L1
def l7(ta tb:xp)(τ:jo)(L:qr)(Q:YK):Prop:=ta τ L λx L1=>match x with
 |.bl c=>wc c (tb τ L1 Q) (Q (.bl false) L1)
 |_=>False
def ae9(ta:xp)(τ:jo)(L:qr)(Q:YK):Prop:=ta τ L λx L1=>match x with
 |.bl c=>Q (.bl (!c)) L1
 |_=>False
def yIf(t:jN)(ta tb:xp)(τ:jo)(L:qr)(Q:YK):Prop:=t τ L λc L1=>wc c (ta τ L1 Q) (tb τ L1 Q)
def z0(_:jo)(L:qr)(Q:List Y->qr->Prop):Prop:=Q [] L
def qd(ta:xp)(tr:eO)(τ:jo)(L:qr)(Q:List Y->qr->Prop):Prop:=ta τ L λx L1=>tr τ L1 λxs L2=>Q (x::xs) L2
def kg(t:eO)(τ:jo)(L:qr)(Q:YK):Prop:=t τ L λys L1=>match Nat.ble ys.length 1000 with
 |true=>Q (.tup ys) L1
 |false=>False
def jq(t:eO)(τ:jo)(L:qr)(Q:YK):Prop:=t τ L λys L1=>match Nat.ble ys.length 1000 with
 |true=>∀p,L1 p=none->Q (.ref p) (qi L1 p (.lst ys))
 |false=>False
def jS(r:List Y->qr->YK->Prop)(t:eO)(τ:jo)(L:qr)(Q:YK):Prop:=t τ L λvs L1=>r vs L1 Q
abbrev TO3:=jo->qr->(Option Int->qr->Prop)->Prop
def w5(_:jo)(L:qr)(Q:Option Int->qr->Prop):Prop:=Q none L
def aV(t:xp)(τ:jo)(L:qr)(Q:Option Int->qr->Prop):Prop:=t τ L λx L1=>match x with
 |.int i=>Q (some i) L1
 |_=>False
def jM(xs:List Y)(lo hi:Option Int):List Y:=(xs.drop (HT.sIx xs.length 0 lo)).take (HT.sIx xs.length xs.length hi-HT.sIx xs.length 0 lo)
def anl(x:Y)(lo hi:Option Int)(L:qr)(Q:YK):Prop:=match x with
 |.ref a=>eJ L a λys=>∀p,L p=none->Q (.ref p) (qi L p (.lst (jM ys lo hi)))
 |.sq ys=>∀p,L p=none->Q (.ref p) (qi L p (.lst (jM ys lo hi)))
 |_=>False
def vM(r:Y->Option Int->Option Int->qr->YK->Prop)(te:xp)(tl th:TO3)(τ:jo)(L:qr)(Q:YK):Prop:=te τ L λx L1=>tl τ L1 λl L2=>th τ L2 λu L3=>r x l u L3 Q
def qt(t u:vt)(D:vq)(τ:jo)(L:qr):Prop:=t { D with nx:=u D } τ L
def j8(D:vq)(τ:jo)(L:qr):Prop:=D.nx τ L
def ai6(D:vq)(τ:jo)(L:qr):Prop:=D.ct τ L
def jk(te:xp)(D:vq)(τ:jo)(L:qr):Prop:=te τ L λ_ L1=>D.nx τ L1
def zy(te:xp)(D:vq)(τ:jo)(L:qr):Prop:=te τ L D.rt
def ae3(D:vq)(_:jo)(L:qr):Prop:=D.rt .non L
def jt(c:jN)(t u:vt)(D:vq)(τ:jo)(L:qr):Prop:=c τ L λb L1=>wc b (t D τ L1) (u D τ L1)
def zf(te:xp)(g:mW)(D:vq)(τ:jo)(L:qr):Prop:=te τ L λx L1=>g x τ L1 D.nx
def dP:jo->Nat->Y->jo
 |[],_,_=>[]
 |_::r,0,y=>some y::r
 |o::r,i+1,y=>o::dP r i y
theorem ar:∀(τ:jo) (i:Nat) (y:Y),dP τ i y=τ.set i (some y)
 |[],_,_=>rfl
 |_::_,0,_=>rfl
 |o::r,i+1,y=>by rw[dP,ar r i y];rfl
def qh(i:Nat)(y:Y)(τ:jo)(L:qr)(Q:jo->qr->Prop):Prop:=Q (dP τ i y) L
def ac(ys:List Y)(τ:jo)(L:qr)(Q:jo->qr->Prop):Prop:=match ys with
 |[]=>Q τ L
 |_=>False
def je(t:mW)(u:tQ)(ys:List Y)(τ:jo)(L:qr)(Q:jo->qr->Prop):Prop:=match ys with
 |[]=>False
 |y::r=>t y τ L λJ L'=>u r J L' Q
def bB(n:Nat)(t:tQ)(y:Y)(τ:jo)(L:qr)(Q:jo->qr->Prop):Prop:=match y with
 |.tup ys=>match ys.length==n with
  |true=>t ys τ L Q
  |false=>False
 |_=>False
def agd(i j:Nat)(ta:eO)(D:vq)(τ:jo)(L:qr):Prop:=ta τ L λvs L1=>match vs with
 |[v,w]=>D.nx (dP (dP τ i v) j w) L1
 |_=>False
def gy(W:α->qr->Prop)(x:α)(L:qr):Prop:=∃L',qg L' L/\W x L'
theorem frg{W:α->qr->Prop}{x:α}(h:W x L):gy W x L:=⟨L,DU L,h⟩
def fb(c:jN)(tb:vt)(D:vq)(τ:jo)(L:qr):Prop:=∃W:Nat->jo->qr->Prop,(∃m,W m τ L)/\∀m τ L,W m τ L->
 c τ L λb L1=>wc b (∃N:jo->qr->Prop,(∀J L',N J L'->∃U,U<m/\W U J L')/\tb { D with nx:=gy N,ct:=gy N,bk:=D.nx } τ L1) (D.nx τ L1)
@[irreducible] def uV (ys:List Y) (keep:qr->Prop) (g:mW) (tb:vt) (D:vq) (τ:jo) (L1:qr):Prop:=∃W:Nat->jo->qr->Prop,W 0 τ L1/\(∀i τ L,W i τ L->keep L)/\
 (∀i y τ L,ys[i]?=some y->W i τ L->g y τ L λJ L2=>tb { D with nx:=gy (W (i+1)),ct:=gy (W (i+1)),bk:=D.nx } J L2)/\∀τ L,W ys.length τ L->D.nx τ L
theorem w6{keep:qr->Prop}{tb:vt}(h:∃W:Nat->jo->qr->Prop,W 0 τ L1/\(∀i τ L,W i τ L->keep L)/\
 (∀i y τ L,ys[i]?=some y->W i τ L->g y τ L λJ L2=>tb { D with nx:=gy (W (i+1)),ct:=gy (W (i+1)),bk:=D.nx } J L2)/\∀τ L,W ys.length τ L->D.nx τ L):uV ys keep g tb D τ L1:=by unfold uV;exact h
theorem abe{keep:qr->Prop}{tb:vt}(h:uV ys keep g tb D τ L1):∃W:Nat->jo->qr->Prop,W 0 τ L1/\(∀i τ L,W i τ L->keep L)/\
 (∀i y τ L,ys[i]?=some y->W i τ L->g y τ L λJ L2=>tb { D with nx:=gy (W (i+1)),ct:=gy (W (i+1)),bk:=D.nx } J L2)/\∀τ L,W ys.length τ L->D.nx τ L:=by unfold uV at h;exact h
def dc(wi:TI3)(g:mW)(tb:vt)(D:vq)(τ:jo)(L:qr):Prop:=wi τ L λys keep L1=>uV ys keep g tb D τ L1
@[irreducible] def rD (L:qr) (a:Addr) (R:List Y->(qr->Prop)->qr->Prop):Prop:=match L a with
 |some (.lst ys)=>R ys (λL=>L a=some (.lst ys)) L
 |_=>False
theorem vh{R:List Y->(qr->Prop)->qr->Prop}(h:L a=some (.lst ys))(q:∀keep:qr->Prop,(∀L',L' a=L a->keep L')->R ys keep L):rD L a R:=by unfold rD;rw[h];exact q _ λL' J=>J.trans h
theorem mM{R:List Y->(qr->Prop)->qr->Prop}(h:rD L a R):∃ys keep,cL L (.ref a)=some ys/\keep L/\(∀L',keep L'->cL L' (.ref a)=some ys)/\R ys keep L:=by
 unfold rD at h;split at h
 ·rename_i ys e;exact⟨ys,_,aM e,e,λL' J=>aM J,h⟩
 ·exact h.elim
def wr(tl:xp)(τ:jo)(L:qr)(R:List Y->(qr->Prop)->qr->Prop):Prop:=tl τ L λx L1=>match x with
 |.ref a=>rD L1 a R
 |.sq ys=>R ys (λ_=>True) L1
 |_=>False
def acs(tl:xp)(τ:jo)(L:qr)(R:List Y->(qr->Prop)->qr->Prop):Prop:=tl τ L λx L1=>match x with
 |.tup ys=>R ys (λ_=>True) L1
 |_=>False
def ai(lo:Int)(n:Nat):List Y:=(List.range n).map λk=>.int (lo+(k:Nat))
def iC(ta:eO)(τ:jo)(L:qr)(R:List Y->(qr->Prop)->qr->Prop):Prop:=ta τ L λvs L1=>match vs with
 |[.int j]=>(-(2 ^ 62)<=j/\j<2 ^ 62)/\R (ai 0 j.toNat) (λ_=>True) L1
 |_=>False
def ae2(_:jo)(L:qr)(Q:Bool->qr->Prop):Prop:=Q true L
@[irreducible] def lcK (ys:List Y) (keep:qr->Prop) (n:Nat) (g:mW) (tc:jN) (te:xp) (τ:jo) (L1:qr) (Q:YK):Prop:=ys.length<sizeLine/\∃W:Nat->List Y->qr->Prop,W 0 [] L1/\(∀i zs L,W i zs L->keep L)/\
 (∀i y zs L,ys[i]?=some y->W i zs L->g y (τ++List.replicate n none) L λJ L2=>tc J L2 λb L3=>wc b (te J L3 λz U=>gy (W (i+1)) (zs++[z]) U) (gy (W (i+1)) zs L3))/\
 ∀zs L,W ys.length zs L->∀p,L p=none->Q (.ref p) (qi L p (.lst zs))
theorem adj{keep:qr->Prop}{tc:jN}{Q:YK}(h:ys.length<sizeLine/\∃W:Nat->List Y->qr->Prop,W 0 [] L1/\(∀i zs L,W i zs L->keep L)/\
 (∀i y zs L,ys[i]?=some y->W i zs L->g y (τ++List.replicate n none) L λJ L2=>tc J L2 λb L3=>wc b (te J L3 λz U=>gy (W (i+1)) (zs++[z]) U) (gy (W (i+1)) zs L3))/\
 ∀zs L,W ys.length zs L->∀p,L p=none->Q (.ref p) (qi L p (.lst zs))):lcK ys keep n g tc te τ L1 Q:=by unfold lcK;exact h
theorem afy{keep:qr->Prop}{tc:jN}{Q:YK}(h:lcK ys keep n g tc te τ L1 Q):ys.length<sizeLine/\∃W:Nat->List Y->qr->Prop,W 0 [] L1/\(∀i zs L,W i zs L->keep L)/\
 (∀i y zs L,ys[i]?=some y->W i zs L->g y (τ++List.replicate n none) L λJ L2=>tc J L2 λb L3=>wc b (te J L3 λz U=>gy (W (i+1)) (zs++[z]) U) (gy (W (i+1)) zs L3))/\
 ∀zs L,W ys.length zs L->∀p,L p=none->Q (.ref p) (qi L p (.lst zs)):=by unfold lcK at h;exact h
def xD(n:Nat)(wi:TI3)(g:mW)(tc:jN)(te:xp)(τ:jo)(L:qr)(Q:YK):Prop:=wi τ L λys keep L1=>lcK ys keep n g tc te τ L1 Q
abbrev jl:=List Y->qr->YK->Prop
def z9(sp:jl)(t:eO)(τ:jo)(L:qr)(Q:YK):Prop:=t τ L λys L1=>sp ys L1 Q
def j6(x:Y)(vs:List Y)(L:qr)(Q:YK):Prop:=match x,vs with
 |.ref a,[v]=>eJ L a λys=>ys.length<sizeLine/\Q .non (qi L a (.lst (ys++[v])))
 |_,_=>False
def bH(x:Y)(vs:List Y)(L:qr)(Q:YK):Prop:=match x,vs with
 |.ref a,[.ref b]=>eJ L a λys=>eJ L b λzs=>ys.length+zs.length<=sizeLine/\Q .non (qi L a (.lst (ys++zs)))
 |_,_=>False
def vG(x:Y)(vs:List Y)(L:qr)(Q:YK):Prop:=match x,vs with
 |.ref a,[]=>eJ L a λys=>tV L (λv L=>Q v (qi L a (.lst ys.dropLast))) (ys[ys.length-1]?)
 |_,_=>False
theorem kh.imp{f:Value->Value->Sem Value}{r U:R2}(h:kh X f r)(q:∀x y H Q,U x y H Q->r x y H Q):kh X f U:=λJ s g H x y v u Q I j l z=>h J s g H x y v u Q I j l (q x y H Q z)
theorem kh.imq{f:Value->Value->Sem Value}{r:R2}{u:mX}(h:kh X f r)(q:∀x y H Q x3 J L U,RV G H x3 x->RV G H J y->j5 G H L->u x3 J L U->rF G H U Q->r x y H Q):kh X f (fE G u):=kh.imp h λx y H Q ⟨x3,J,L,U,a,b,c,d,e⟩=>q x y H Q x3 J L U a b c d e
abbrev EM:=@kh.imq
theorem UnR.imp{f:Value->Sem Value}{r U:V->Hp->VK->Prop}(h:UnR X f r)(q:∀x H Q,U x H Q->r x H Q):UnR X f U:=λJ s g H x v Q I j z=>h J s g H x v Q I j (q x H Q z)
theorem x8.imp{f:Value}{r U:List V->Hp->VK->Prop}(h:x8 X f r)(q:∀x H Q,U x H Q->r x H Q):x8 X f U:=λJ s g H x v Q I j z=>h J s g H x v Q I j (q x H Q z)
theorem x8.imq{f:Value}{r:List V->Hp->VK->Prop}{u:List Y->qr->YK->Prop}(h:x8 X f r)(q:∀xs H Q ys L J,xx G H ys xs->j5 G H L->u ys L J->rF G H J Q->r xs H Q):x8 X f (upL G u):=x8.imp h λxs H Q ⟨ys,L,J,a,b,c,d⟩=>q xs H Q ys L J a b c d
theorem IxR.imp{r U:R2}(h:IxR X r)(q:∀x y H Q,U x y H Q->r x y H Q):IxR X U:=λvalue slice J s g H x y v u Q I j l z=>h value slice J s g H x y v u Q I j l (q x y H Q z)
theorem iX.imp{id:String}{r U:V->List V->Hp->VK->Prop}(h:iX X id r)(q:∀x xs H Q,U x xs H Q->r x xs H Q):iX X id U:=λJ s g H x xs v j Q I l o z=>h J s g H x xs v j Q I l o (q x xs H Q z)
theorem mP(g:j5 G H L)(r:RV G H y v)(h:cL L y=some ys):∃p xs,v=.ref p/\(aJ G.K H p xs\/cB G.K H p xs)/\xx G H ys xs:=by
 cases y with
 |tup U=>
  obtain⟨a,xs,e,s,q⟩:=r;cases h;exact⟨a,xs,e,.inr s,q⟩
 |sq U=>
  obtain⟨a,xs,e,s,q⟩:=r;cases h;exact⟨a,xs,e,.inl s.sq,q⟩
 |ref a=>
  cases (show v=.ref a from r);have J:(match L a with|some (.lst ys)=>some ys|_=>none)=some ys:=h;split at J
  ·rename_i U e;cases J;obtain⟨xs,j,q⟩:=g a _ e;exact⟨a,xs,rfl,.inl (aJ.of j),q⟩
  ·cases J
 |_=>cases h
theorem alt{i:Int}(s:xx G H ys xs)(h:dQ ys i=some y):∃x,dQ xs i=some x/\RV G H y x:=by
 unfold dQ at h ⊢;rw[<-s.length];cases e:ixN ys.length i with
 |none=>rw[e] at h;cases h
 |some j=>
  rw[e] at h;exact s.get (i:=j) h
section
variable {a b:Expr}{tc:xp}
abbrev QE(X:Cx)(e:Expr)(t:xp):Prop:=PE X e (pY X.g3 t)
abbrev QT(X:Cx)(e:Expr)(t:jN):Prop:=PT X e (upT X.g3 t)
abbrev QW(X:Cx)(e:Expr)(t:jN):Prop:=PW X e (upT X.g3 t)
abbrev QA(X:Cx)(es:List Expr)(t:eO):Prop:=PA X es (upA X.g3 t)
abbrev QS(X:Cx)(st:Stmt)(t:vt):Prop:=PS X st (upS X.g3 t)
abbrev oa(X:Cx)(st:List Stmt)(t:vt):Prop:=fN X st (upS X.g3 t)
abbrev QG(X:Cx)(e:Expr)(g:mW):Prop:=PG X e (upG X.g3 g)
abbrev QGs(X:Cx)(es:List Expr)(g:tQ):Prop:=PGs X es (asn X.g3 g)
abbrev QI(X:Cx)(tg it:Expr)(w:TI3):Prop:=PI X tg it (upI X.g3 w)
abbrev QF(X:Cx)(es:List Expr)(t:jN):Prop:=PF X es (upT X.g3 t)
theorem QE.of_var(h:PE X e (ajj i)):QE X e (q9 i):=DW h λl H Q o L p J U z k=>by
 unfold q9 at z;split at z
 ·rename_i y g;obtain⟨v,ev,j⟩:=J.get i y (pC _ _ g);exact⟨v,ev,k v H y L (DS _) U j z⟩
 ·exact z.elim
theorem QE.of_c(h:PE X e (tC v))(q:∀H,RV X.g3 H y v):QE X e (yC y):=DW h λU H Q g L j l J z k=>k v H y L (DS _) J (q H) z
theorem qv(i:Nat)(U:X.N[i]?=some x:=by rfl)(g:Vis X.env.scope x:=by first|exact Or.inl rfl|exact Or.inr (Or.inl rfl)|exact Or.inr (Or.inr rfl))(hd:Ed x:=by decide)
 (J:Ee x:=by decide):QE X (.Name x pos) (q9 i):=QE.of_var (pv i U g hd J)
theorem aA :QE X (.Constant .none j pos) (yC .non):=QE.of_c am7 λ_=>rfl
theorem ah{b:Bool} :QE X (.Constant (.bool b) j pos) (yC (.bl b)):=QE.of_c an0 λ_=>rfl
theorem qf{i:Int} :QE X (.Constant (.int i) j pos) (yC (.int i)):=QE.of_c alj λ_=>rfl
theorem j9 :QE X (.Constant (.str x) j pos) (yC (.str x)):=QE.of_c dC λ_=>rfl
theorem aon{c:Addr}(J:Gl X x)(U:X.mg x=some (.ref c))(q:∀H,RV X.g3 H y (.ref c))(hd:Ed x:=by decide):QE X (.Name x pos) (yC y):=QE.of_c (aiv J U hd) q
theorem wF{r:mX}(σ:St)(H:Hp)(Q:VK):pY G (zb r ta tb) σ H Q->tOp (fE G r) (pY G ta) (pY G tb) σ H Q:=λ⟨l,L,C,o,I,z,k⟩=>
 ⟨l,L,_,o,I,z,λv H1 y T p J U z1=>⟨l,T,_,o.ts p,J,z1,λv2 H2 y2 L2 t g j z2=>⟨y,y2,L2,C,U.ts t,j,g,z2,k.ts (p.trans t)⟩⟩⟩
theorem ql{op:Operator}{r:mX}(h:kh X (binaryOp op) (fE X.g3 r))(J:QE X a ta)(U:QE X b tb):QE X (.BinOp a op b pos) (zb r ta tb):=EJ (ao0 h J U) wF
theorem ao9{r:mX}(h:IxR X (fE X.g3 r))(J:QE X a ta)(U:QE X b tb)(g:gj b):QE X (.Subscript a b pos) (zb r ta tb):=EJ (ada h J U g) wF
theorem am{op:CmpOp}{r:mX}(h:kh X (compareOp op) (fE X.g3 r))(J:QE X a ta)(U:QE X b tb)(g:behindInMarks op b=false):QE X (.Compare a [op] [b] pos) (zb r ta tb):=EJ (agi h J U g) wF
theorem ajk{t:xp}(σ:St)(H:Hp)(Q:Bool->Hp->Prop):upT G (yB t) σ H Q->ae0 (pY G t) σ H Q:=λ⟨j,L,I,l,o,z,k⟩=>
 ⟨j,L,_,l,o,z,λv p y r C J U g=>by cases y with|bl b=>exact⟨b,U,k b p r C J g⟩|_=>exact g.elim⟩
theorem aim{t:xp}(σ:St)(H:Hp)(Q:Bool->Hp->Prop):upT G (yB t) σ H Q->L2.tB (pY G t) σ H Q:=ajk σ H Q
theorem ju{op:CmpOp}{r:mX}(h:kh X (compareOp op) (fE X.g3 r))(U:QE X a ta)(g:QE X b tb)(j:behindInMarks op b=false):QT X (.Compare a [op] [b] pos) (yB (zb r ta tb)):=
 PT.imp (afd h U g j) λJ H Q q=>by have l:=ajk J H Q q;obtain⟨o,L,p,t,C,z,k⟩:=l;exact wF J H _ ⟨o,L,p,t,C,z,k⟩
theorem a8(h:QE X e te)(J:∀whole,isTrue e X.env whole=(do let v <-whole;standAt e.pos;holding [v] (truthy v)):=by intro _;rfl):QT X e (yB te):=PT.imp (ajx h J) aim
theorem OpI{f:Value->Value->Sem Value}{C:Int->Int->Prop}{g:Int->Int->V}{g3:Int->Int->Y}(h:kh X f (rI C g))(e:∀i j H,RV X.g3 H (g3 i j) (g i j)):kh X f (fE X.g3 (yI C g3)):=EM h λx y H Q U J L r l o p z k=>by
 cases U with
 |int i=>
  cases J with|int j=>exact⟨i,j,l,o,z.1,k _ H _ L (DS _) p (e i j H) z.2⟩|_=>exact z.elim
 |_=>cases J<;>exact z.elim
theorem adi{f:Value->Value->Sem Value}{g:Int->Int->V}{g3:Int->Int->Y}(h:kh X f (rI0 g))(e:∀i j H,RV X.g3 H (g3 i j) (g i j)):kh X f (fE X.g3 (yI0 g3)):=EM h λx y H Q U J L r l o p z k=>by
 cases U with
 |int i=>
  cases J with|int j=>exact⟨i,j,l,o,k _ H _ L (DS _) p (e i j H) z⟩|_=>exact z.elim
 |_=>cases J<;>exact z.elim
theorem cA:kh X (binaryOp .Sub) (fE X.g3 (yI0 λi j=>.int (i-j))):=adi akw λ_ _ _=>rfl
theorem gm:kh X (binaryOp .Mult) (fE X.g3 (yI ad3 λi j=>.int (i*j))):=OpI aj8 λ_ _ _=>rfl
theorem vm:kh X (binaryOp .FloorDiv) (fE X.g3 (yI ajp λi j=>.int (i / j))):=OpI agt λ_ _ _=>rfl
theorem jm:kh X (binaryOp .Mod) (fE X.g3 (yI (λ_ j=>0<j) λi j=>.int (i % j))):=OpI aku λ_ _ _=>rfl
theorem ae4:kh X (binaryOp .Pow) (fE X.g3 (yI am5 λi j=>.int (i ^ j.toNat))):=OpI aki λ_ _ _=>rfl
theorem pD:kh X (compareOp .Lt) (fE X.g3 (yI0 λi j=>.bl (decide (i<j)))):=adi amr λ_ _ _=>rfl
theorem aq0:kh X (compareOp .LtE) (fE X.g3 (yI0 λi j=>.bl (decide (i<=j)))):=adi aoy λ_ _ _=>rfl
theorem y4:kh X (compareOp .Gt) (fE X.g3 (yI0 λi j=>.bl (decide (j<i)))):=adi ao6 λ_ _ _=>rfl
theorem aof:kh X (compareOp .GtE) (fE X.g3 (yI0 λi j=>.bl (decide (j<=i)))):=adi aoj λ_ _ _=>rfl
theorem x9:kh X (binaryOp .Add) (fE X.g3 k8):=EM agn λx y H Q C U L Q3 g l J z k=>by
 cases C with
 |int i=>
  cases U with|int j=>cases g;cases l;exact k _ H _ L (DS _) J (by rfl) z|_=>exact z.elim
 |str i=>
  cases U with|str j=>cases g;cases l;exact⟨z.1,k _ H _ L (DS _) J (by rfl) z.2⟩|_=>exact z.elim
 |ref a=>
  cases U with
  |ref b=>
   cases g;cases l;obtain⟨ys,zs,I,T,hz,q⟩:=z;obtain⟨xs,h1,r⟩:=J a _ I;obtain⟨us,h2,t⟩:=J b _ T;refine⟨xs,us,h1,h2,by rw[<-r.length,<-t.length];exact hz,λp o=>?_⟩;exact k _ _ _ _ (DV o) (J.newL o (r.app t)) (by rfl) (q p (J.none o))
  |_=>exact z.elim
 |_=>cases U<;>exact z.elim
theorem sh{kvs:List (Str×Str)}{k:Str}(h:kvs.lookup k=some x):ao (kvs.map λp=>((Sum.inr p.1:jf),V.str p.2)) (Sum.inr k)=some (V.str x):=by
 induction kvs with
 |nil=>simp at h
 |cons p r J=>
  obtain⟨a,b⟩:=p;unfold ao;rw[AK,Bk];rw[Bo] at h;by_cases c:k=a
  ·subst c;simp at h;simp[h]
  ·have c1:(k==a)=false:=by simpa using c
   rw[c1] at h;have c2:decide ((Sum.inr a:jf)=Sum.inr k)=false:=Au λz=>c (Es z).symm;simp only[c2];exact J h
theorem oE{xs:List (jf×V)}{k:jf}(p:Paired (λ(p:jf×Y) (q:jf×V)=>p.1=q.1/\RV G H p.2 q.2) kvs xs)(h:kq kvs k=some y):∃x,ao xs k=some x/\RV G H y x:=by
 induction p with
 |nil=>cases h
 |@cons a b _ _ r t g=>
  obtain⟨J,o⟩:=a;obtain⟨j,l⟩:=b;obtain⟨e,r⟩:=r;cases (show J=j from e);unfold kq at h;unfold ao;rw[Bk] at h ⊢;by_cases c:J=k
  ·have U:decide (J=k)=true:=AE c;simp only[U] at h ⊢;cases h;exact⟨l,rfl,r⟩
  ·have U:decide (J=k)=false:=Au c;simp only[U] at h ⊢;exact g h
theorem ai7(K:Ad)(P:Program)(w:World)(hK:X.K=K:=by rfl)(hP:X.prog=P:=by rfl)(hw:X.w=w:=by rfl):IxR X (fE ⟨K,P,w⟩ wz):=by
 subst hK hP hw;refine IxR.imp amx λx y H Q ⟨x3,o,L,Q3,J,r,C,z,k⟩=>?_;have seq:∀{i:Int} {x3:Y},RV X.g3 H x3 x->y=.int i->(fC L x3 λl=>tV L Q3 (dQ l i))->uIx X.K X.prog X.w x y H Q:=by
  intro i x3 J ey z;subst ey;obtain⟨l,es,z⟩:=ko z;obtain⟨p,T,e,sq,rv⟩:=mP C J es;subst e;cases U:dQ l i with
  |none=>rw[U] at z;exact z.elim
  |some y=>
   rw[U] at z;obtain⟨x,ex,a1⟩:=alt rv U;exact⟨T,x,sq,ex,k _ H _ L (DS _) C a1 z⟩
 cases x3 with
 |str s=>
  cases o with
  |int i=>
   cases J;cases r;obtain⟨z1,I⟩:=z;cases U:dQ s.cps.toList i with
   |none=>rw[U] at I;exact I.elim
   |some c=>rw[U] at I;exact⟨z1,c,U,k _ H _ L (DS _) C (by rfl) I⟩
  |_=>exact z.elim
 |cd g=>
  cases o with
  |str s=>
   obtain⟨a,U,kd⟩:=J;cases U;cases r;have j:tV L (λs L=>Q3 (.str s) L) (g.lookup s):=z;cases el:g.lookup s with
   |none=>rw[el] at j;exact j.elim
   |some t=>rw[el] at j;exact⟨_,_,.inr kd,sh el,k _ H _ L (DS _) C (by rfl) j⟩
  |int i=>exact z.elim
  |_=>exact z.elim
 |ref a=>
  cases o with
  |int i=>exact seq (x3:=.ref a) J r z
  |str s=>
   cases J;cases r;obtain⟨g,e,j⟩:=gW z;obtain⟨T,e2,pr⟩:=C a _ e;cases ev:kq g (Sum.inr s) with
   |none=>rw[ev] at j;exact j.elim
   |some y=>
    rw[ev] at j;obtain⟨x,ex,J⟩:=oE pr ev;exact⟨T,x,.inl (.inl e2),ex,k _ H _ L (DS _) C J j⟩
  |_=>exact z.elim
 |tup l=>
  cases o with|int i=>exact seq (x3:=.tup l) J r z|_=>exact z.elim
 |sq l=>
  cases o with|int i=>exact seq (x3:=.sq l) J r z|_=>exact z.elim
 |_=>cases o<;>exact z.elim
theorem xx.inv1(h:xx G H [y] xs):∃x,xs=[x]/\RV G H y x:=by obtain⟨x,J,e,r,s⟩:=h;cases (show J=[] from s);exact⟨x,e,r⟩
theorem xx.inv2{U:Y}(h:xx G H [y,U] xs):∃x J,xs=[x,J]/\RV G H y x/\RV G H U J:=by obtain⟨x,g,e,r,s⟩:=h;obtain⟨J,j,l⟩:=s.inv1;exact⟨x,J,by rw[e,j],r,l⟩
theorem ak0(K:Ad)(P:Program)(w:World)(j:X.K=K:=by rfl)(l:X.prog=P:=by rfl)(hw:X.w=w:=by rfl):x8 X (.builtin "len") (upL ⟨K,P,w⟩ kF):=by
 subst j l hw;refine x8.imq xM λI H Q o L T g J z k=>?_;unfold kF at z;split at z
 ·obtain⟨x,rfl,r⟩:=g.inv1;cases r;exact⟨z.1,k _ H _ L (DS _) J (by rfl) z.2⟩
 ·rename_i y _;obtain⟨x,rfl,r⟩:=g.inv1;obtain⟨o,t,z⟩:=ko z;obtain⟨p,C,e,sq,U⟩:=mP J r t;subst e;refine⟨C,sq,?_⟩;rw[<-U.length];exact k _ H _ L (DS _) J (by rfl) z
 ·exact z.elim
theorem alb(i j:Int):(if j > i then j else i)=max i j:=by split<;>lia
theorem ajb(i j:Int):(if j<i then j else i)=min i j:=by split<;>lia
theorem ais(hc:X.calm=true:=by rfl):x8 X (.builtin "max") (upL X.g3 afo):=x8.imq (yx hc) λo H Q p L r J U z k=>by
 unfold afo at z;split at z
 ·rename_i i j;obtain⟨x,t,rfl,g,l⟩:=J.inv2;cases g;cases l;refine⟨i,j,rfl,?_⟩;rw[alb];exact k _ H _ L (DS _) U (by rfl) z
 ·exact z.elim
theorem amo(hc:X.calm=true:=by rfl):x8 X (.builtin "min") (upL X.g3 aj5):=x8.imq (zK hc) λo H Q p L r J U z k=>by
 unfold aj5 at z;split at z
 ·rename_i i j;obtain⟨x,t,rfl,g,l⟩:=J.inv2;cases g;cases l;refine⟨i,j,rfl,?_⟩;rw[ajb];exact k _ H _ L (DS _) U (by rfl) z
 ·exact z.elim
theorem gx:UnR X (unaryOp .USub) (upU X.g3 ft):=UnR.imp alc λx H Q ⟨y,L,g,J,U,z,k⟩=>by cases y with|int i=>exact⟨i,J,k _ H _ L (DS _) U (by rfl) z⟩|_=>exact z.elim
theorem gd{op:UnaryOp}{r:Y->qr->YK->Prop}(h:UnR X (unaryOp op) (upU X.g3 r))(g:QE X a ta):QE X (.UnaryOp op a pos) (uA r ta):=DW (aoh h g) λT H Q j L l o p z k=>
 ⟨j,L,_,o,p,z,λv H1 y t C J U I=>⟨y,t,l,U,J,I,k.ts C⟩⟩
end
section
variable {a b:Expr}{tc:xp}
theorem cH{a:Addr}(U:j5 G H L)(h:cL L (.ref a)=some ys):∃xs,aJ G.K H a xs/\xx G H ys xs:=by
 have J:(match L a with|some (.lst ys)=>some ys|_=>none)=some ys:=h;split at J
 ·rename_i e;cases J;obtain⟨xs,g,q⟩:=U a _ e;exact⟨xs,aJ.of g,q⟩
 ·cases J
theorem fA(J:j5 G H L)(r:RV G H y v)(U:rL y=true)(h:cL L y=some ys):∃a xs,v=.ref a/\aJ G.K H a xs/\xx G H ys xs:=by
 cases y with
 |ref a=>obtain⟨xs,s,q⟩:=cH J h;exact⟨a,xs,r,s,q⟩
 |sq g=>obtain⟨a,xs,e,s,q⟩:=r;cases h;exact⟨a,xs,e,s.sq,q⟩
 |_=>cases U
theorem yE{G:G3}{T:rH}{σ:L2.St}(I:za X pins σ H s)(C:j5 X.g3 H L)(r:RV X.g3 H y v)(J:zu v u)(h:tyY L y=some T)
 {c:Value} {b:Bool} (e:PySem.W.kitOne X.K (.type T.nm) c=some b) (U:∀tk,Q (.bool b) { s with toks:=tk }):
 wpAny (model X.prog X.w) A (call (.builtin "isinstance") [u,c]) Q E s:=by
 cases y with
 |non=>cases h;cases r;exact ax I J .non e U
 |bl b=>cases h;cases r;exact ax I J (.bl _) e U
 |int i=>cases h;cases r;exact ax I J (.int _) e U
 |str x=>cases h;cases r;exact ax I J (.str _) e U
 |tup ys=>
  cases h;obtain⟨a,j,rfl,sq,_⟩:=r;cases (show u=Value.ref a from J);obtain⟨l,_,⟨o,h1,h2,_⟩,_⟩:=I.tuple sq;exact Bh PySem.W.kitx_tuple I.kIn ⟨o,h1,h2⟩ e (λz=>nomatch z) U
 |sq ys=>
  cases h;obtain⟨a,j,rfl,sq,_⟩:=r;cases (show u=Value.ref a from J);obtain⟨l,_,⟨o,n,h1,h2,_⟩,_⟩:=I.list sq.sq;exact Bh Dr I.kIn ⟨o,h1,h2⟩ e (λz=>nomatch z) U
 |ref a=>
  cases (show v=.ref a from r);have g:(match L a with|some (.lst _)=>some rH.list|some (.dct _)=>some .dict|_=>none)=some T:=h;split at g
  ·rename_i ys p;cases g;obtain⟨j,t,_⟩:=C a _ p;exact ax I J (.lst t) e U
  ·rename_i a1 p;cases g;obtain⟨j,t,_⟩:=C a _ p;exact ax I J (.dK t) e U
  ·cases g
 |_=>cases h
theorem af7(K:Ad):∀T S:rH,PySem.W.kitOne K (.type T.nm) (.type S.nm)=some (acr T S):=by intro T S;cases T<;>cases S<;>rfl
def ale(G:G3)(S:rH):List V->Hp->VK->Prop:=λxs H Q=>∃y v L J T,xs=[v,.ty S.nm]/\RV G H y v/\j5 G H L/\tyY L y=some T/\J (.bl (acr T S)) L/\rF G H J Q
theorem aiz(S:rH):x8 X (.builtin "isinstance") (ale X.g3 S):=by intro J s o H p t Q I r h;obtain⟨y,v,L,C,T,rfl,g,U,ty,q,k⟩:=h;obtain⟨u,c,rfl,j,l⟩:=zq.two r;cases (show c=Value.type S.nm from l);exact x4 I.tk (yE (G:=X.g3) I U g j ty (af7 _ T S) λtk ht=>⟨.bl _,H,I.tok _,rfl,k _ H _ L (DS _) U (by rfl) q⟩)
theorem aD{J:Str}(S:rH)(C:Gl X "isinstance")(I:X.mg "isinstance"=none)(U:Gl X J)(g:X.mg J=none)(j:bootBuiltins J=some (.type S.nm))(ha:QE X a ta)
 (hn:J ≠ "__name__" := by decide) (hd:(J==("__debug__" : Str))=false:=by decide)
 (hs:starEach [a,.Name J p1] X.env=(false,eval a X.env)::starEach [.Name J p1] X.env:=by rfl) (l:starEach [.Name J p1] X.env=(false,eval (.Name J p1) X.env)::starEach [] X.env:=by rfl)
 (hp:(backTo pos (starEach [.Name J p1] X.env)).any (·.1)=false:=by rfl):
 QE X (.Call (.Name "isinstance" p) [a,.Name J p1] [] pos) (dF S ta):=by
 refine EJ (gT (aiz S) C I bR (wn ha (wn (aif U g j hn hd) dD l) hs) (by decide) (by decide) hs hp) ?_;rintro σ H Q ⟨τ,L,Q3,rs,rl,z,k⟩;refine⟨τ,L,_,rs,rl,z,λv H1 y L1 t1 o r t=>?_⟩;obtain⟨T,et,t⟩:=act t;exact⟨y,v,L1,Q3,T,rfl,r,o,et,t,k.ts t1⟩
def mG(neg:Bool)(x y:Y)(L:qr)(Q:YK):Prop:=fC L y λys=>fS x=true/\ys.all fS=true/\Q (.bl (nb neg (u3 (f9 x) (ys.map f9)))) L
theorem an4(neg:Bool){op:CmpOp}(h:kh X (compareOp op) (rIn X.K neg)):kh X (compareOp op) (fE X.g3 (mG neg)):=EM h λx y H Q J C L I j l g z k=>by
 obtain⟨U,o,f1,f2,q⟩:=ko z;obtain⟨p,T,e,sq,r⟩:=mP g l o;rw[j.flat f1];rw[r.flat f2] at sq;refine⟨p,_,e,sq,fz f1,?_,?_⟩
 ·rw[List.all_map,BC];intro y t;exact fz (BC.mp f2 y t)
 ·have:(if neg=true then !u3 (f9 J) (U.map f9) else u3 (f9 J) (U.map f9))=(nb neg (u3 (f9 J) (U.map f9))):=by cases neg<;>simp[nb]
  rw[this];exact k _ H _ L (DS _) g (by rfl) q
theorem ab9(K:Ad)(P:Program)(w:World)(J:X.K=K:=by rfl)(U:X.prog=P:=by rfl)(hw:X.w=w:=by rfl):kh X (compareOp .In) (fE ⟨K,P,w⟩ (mG false)):=by subst J U hw;exact an4 false yY
theorem uQ(K:Ad)(P:Program)(w:World)(J:X.K=K:=by rfl)(U:X.prog=P:=by rfl)(hw:X.w=w:=by rfl):kh X (compareOp .NotIn) (fE ⟨K,P,w⟩ (mG true)):=by subst J U hw;exact an4 true qU
theorem jd.rep{G:G3}{H:Hp}{L:qr}(l:j5 G H L):∀{n:Nat} {y:Y} {d:Da} {v:V},jd L n y d->RV G H y v->kc G.K H n v d
 |0,y,d,v,⟨f,e⟩,r=>by rw[r.flat f];exact⟨e,fz f⟩
 |n+1,y,d,v,h,r=>by
  have both:∀{g:List Y} {U:List Da} {J:List V},Paired (jd L n) g U->xx G H g J->Paired (kc G.K H n) J U:=by
   intro g U J p
   induction p generalizing J with
   |nil=>intro r;cases (show J=[] from r);exact .nil
   |cons q t o=>
    rintro⟨x,C,rfl,I,T⟩;exact .cons (jd.rep l q I) (o T)
  rcases h with⟨f,e⟩|⟨g,U,rfl,rfl,p⟩|⟨g,U,hy,rfl,es,p⟩
  ·rw[r.flat f];exact .inl ⟨e,fz f⟩
  ·obtain⟨a,J,rfl,sq,j⟩:=r;exact .inr (.inl ⟨a,J,U,rfl,rfl,sq,both p j⟩)
  ·obtain⟨a,J,rfl,sq,j⟩:=fA l r hy es;exact .inr (.inr ⟨a,J,U,rfl,rfl,sq,both p j⟩)
theorem jZ(h:xN y=true)(r:RV G H y v):∃a,v=.ref a:=by
 cases y with
 |ref a=>exact⟨a,r⟩
 |tup J=>obtain⟨a,U,e,_⟩:=r;exact⟨a,e⟩
 |sq J=>obtain⟨a,U,e,_⟩:=r;exact⟨a,e⟩
 |_=>cases h
theorem kG(K:Ad)(P:Program)(w:World)(l:X.A.units+128<cLine)(o:X.K=K:=by rfl)(p:X.prog=P:=by rfl)(hw:X.w=w:=by rfl):kh X (compareOp .Eq) (fE ⟨K,P,w⟩ (tW false)):=by
 subst o p hw;refine EM (am9 l) λx y H Q C I L r U g J z k=>?_;unfold tW at z;split at z
 ·rename_i i j;cases U;cases g;refine⟨rfl,?_⟩;have:decide (V.int i=V.int j)=nb false (decide (i=j)):=by rw[Bw];simp[nb]
  rw[this];exact k _ H _ L (DS _) J (by rfl) z
 ·rename_i i j;cases U;cases g;refine⟨rfl,?_⟩;have:decide (V.str i=V.str j)=nb false (decide (i=j)):=by rw[Bw];simp[nb]
  rw[this];exact k _ H _ L (DS _) J (by rfl) z
 ·rename_i i j;cases U;cases g;refine⟨rfl,?_⟩;have:decide (V.bl i=V.bl j)=nb false (decide (i=j)):=by rw[Bw];simp[nb]
  rw[this];exact k _ H _ L (DS _) J (by rfl) z
 ·obtain⟨f1,f2,n,m,d,e,t,h1,h2,q⟩:=z;obtain⟨a,rfl⟩:=jZ f1 U;obtain⟨b,rfl⟩:=jZ f2 g;have q:r (.bl (Da.eq d e)) L:=q;exact⟨n,m,d,e,t,h1.rep J U,h2.rep J g,k _ H _ L (DS _) J (by rfl) q⟩
theorem aod(K:Ad)(P:Program)(w:World)(l:X.A.units+128<cLine)(o:X.K=K:=by rfl)(p:X.prog=P:=by rfl)(hw:X.w=w:=by rfl):kh X (compareOp .NotEq) (fE ⟨K,P,w⟩ (tW true)):=by
 subst o p hw;refine EM (akt l) λx y H Q C I L r U g J z k=>?_;unfold tW at z;split at z
 ·rename_i i j;cases U;cases g;refine⟨rfl,?_⟩;have:(!decide (V.int i=V.int j))=nb true (decide (i=j)):=by show _=!_;congr 1;rw[Bw];simp
  rw[this];exact k _ H _ L (DS _) J (by rfl) z
 ·rename_i i j;cases U;cases g;refine⟨rfl,?_⟩;have:(!decide (V.str i=V.str j))=nb true (decide (i=j)):=by show _=!_;congr 1;rw[Bw];simp
  rw[this];exact k _ H _ L (DS _) J (by rfl) z
 ·rename_i i j;cases U;cases g;refine⟨rfl,?_⟩;have:(!decide (V.bl i=V.bl j))=nb true (decide (i=j)):=by show _=!_;congr 1;rw[Bw];simp
  rw[this];exact k _ H _ L (DS _) J (by rfl) z
 ·obtain⟨f1,f2,n,m,d,e,t,h1,h2,q⟩:=z;obtain⟨a,rfl⟩:=jZ f1 U;obtain⟨b,rfl⟩:=jZ f2 g;have q:r (.bl (!Da.eq d e)) L:=q;exact⟨n,m,d,e,t,h1.rep J U,h2.rep J g,k _ H _ L (DS _) J (by rfl) q⟩
theorem RV.non_iff(r:RV G H y v):decide (v=.non)=(match y with|.non=>true|_=>false):=by
 cases y with
 |non=>cases r;rfl
 |cd J=>obtain⟨a,rfl,_⟩:=r;rfl
 |tup U=>obtain⟨a,g,rfl,_⟩:=r;rfl
 |sq U=>obtain⟨a,g,rfl,_⟩:=r;rfl
 |_=>cases r;rfl
theorem abn(σ:L2.St)(H:Hp)(Q:VK):pY G (fB false ta) σ H Q->amq (pY G ta) σ H Q:=λ⟨g,L,C,j,l,z,k⟩=>
 ⟨g,L,_,j,l,z,λv o y p r J U t=>by dsimp only;rw[U.non_iff];cases y<;>exact k _ o _ p r J (by rfl) t⟩
theorem af1(σ:L2.St)(H:Hp)(Q:VK):pY G (fB true ta) σ H Q->aio (pY G ta) σ H Q:=λ⟨g,L,C,j,l,z,k⟩=>
 ⟨g,L,_,j,l,z,λv o y p r J U t=>by dsimp only;rw[U.non_iff];cases y<;>exact k _ o _ p r J (by rfl) t⟩
theorem alr(h:QE X a ta):QE X (.Compare a [.Is] [.Constant .none j fy] pos) (fB false ta):=EJ (aa4 (aee h)) abn
theorem age(h:QE X a ta):QE X (.Compare a [.IsNot] [.Constant .none j fy] pos) (fB true ta):=EJ (aa4 (ah9 h)) af1
theorem anb{t:TE}(h:∀σ H Q,pY G te σ H Q->t σ H Q)(σ:L2.St)(H:Hp)(Q:Bool->Hp->Prop):upT G (yB te) σ H Q->L2.tB t σ H Q:=λq=>h σ H _ (aim σ H Q q)
theorem cz(h:QE X a ta):QT X (.Compare a [.Is] [.Constant .none j fy] pos) (yB (fB false ta)):=PT.imp (alq (aee h)) (anb abn)
end
section
variable {a b:Expr}{rest:List Expr}{tc:xp}{tB:jN}{tr:eO}
theorem bN(h:QT X a tA):QW X (.BoolOp .And [a] pos) tA:=ah3 h
theorem iV(h:QT X a tA):QW X (.BoolOp .Or [a] pos) tA:=ala h
theorem db(h:QT X a tA)(k:QW X (.BoolOp .And (b::rest) pos) tB):QW X (.BoolOp .And (a::b::rest) pos) (ox tA tB):=PW.imq (am6 h k) λC H Q g L p j r z k=>
 ⟨g,L,_,j,r,z,λc t l U J o=>by cases c with|true=>rw[AB rfl];exact⟨g,l,p,j.ts U,J,o,k.ts U⟩|false=>rw[AC Ay];exact k _ t l U J o⟩
theorem oK(h:QT X a tA)(k:QW X (.BoolOp .Or (b::rest) pos) tB):QW X (.BoolOp .Or (a::b::rest) pos) (yOr tA tB):=PW.imq (amu h k) λC H Q g L p j r z k=>
 ⟨g,L,_,j,r,z,λc t l U J o=>by cases c with|true=>rw[AB rfl];exact k _ t l U J o|false=>rw[AC Ay];exact⟨g,l,p,j.ts U,J,o,k.ts U⟩⟩
theorem bG(h:QW X a tA):QT X a tA:=PW.pt h
theorem fh(h:QT X a tA):QT X (.UnaryOp .Not a pos) (tJ tA):=PT.imq (al6 h) λt H Q U L C g j z k=>
 ⟨U,L,_,g,j,z,λc l o p J r=>k _ l o p J r⟩
theorem qY{op:BoolOp}(h:QE X a ta):QE X (.BoolOp op [a] pos) ta:=akc h
theorem iM(h:QE X a ta)(k:QE X (.BoolOp .And (b::rest) pos) tb):QE X (.BoolOp .And (a::b::rest) pos) (l7 ta tb):=DW (aks h k) λT H Q g L j p C z k=>
 ⟨g,L,_,p,C,z,λv I y U l J o r=>by
  cases y with
  |bl c=>
   refine⟨c,o,?_⟩;have t:wc c (tb g U j) (j (.bl false) U):=r;cases c with|true=>rw[AB rfl];exact⟨g,U,j,p.ts l,J,t,k.ts l⟩|false=>rw[AC Ay];exact k _ I _ U l J (by rfl) t
  |_=>exact r.elim⟩
theorem ae7(h:QE X a ta):QE X (.UnaryOp .Not a pos) (ae9 ta):=DW (aji h) λC H Q j L I l o z k=>
 ⟨j,L,_,l,o,z,λv p y r t J U g=>by cases y with|bl c=>exact⟨c,U,k _ p _ r t J (by rfl) g⟩|_=>exact g.elim⟩
theorem dX(h:QT X c tA)(r:QE X a ta)(t:QE X b tb):QE X (.IfExp c a b pos) (yIf tA ta tb):=DW (acp h r t) λI H Q g L l j C z k=>
 ⟨g,L,_,j,C,z,λc T o U J p=>by cases c with|true=>rw[AB rfl];exact⟨g,o,l,j.ts U,J,p,k.ts U⟩|false=>rw[AC Ay];exact⟨g,o,l,j.ts U,J,p,k.ts U⟩⟩
theorem xa:QA X [] z0:=PA.imq dD λU H Q g L j l J z k=>k _ H _ L (DS _) J (by rfl) z
theorem jv(h:QE X e te)(C:QA X es tr)(hs:Eb e es X:=by rfl):QA X (e::es) (qd te tr):=PA.imq (wn h C hs) λσ H Q l L Q3 o I z k=>
 ⟨l,L,_,o,I,z,λv H1 y T p J U z1=>⟨l,T,_,o.ts p,J,z1,λr H2 ys L2 t g j z2=>k (v::r) H2 (y::ys) L2 (p.trans t) g ⟨v,r,rfl,U.ts t,j⟩ z2⟩⟩
theorem zw(h:QA X es tr):QE X (.Tuple es x1 pos) (kg tr):=DW (acw h) λσ H Q o L Q3 r t z k=>
 ⟨o,L,_,r,t,z,λC H1 l I T g J U=>by
  cases e:Nat.ble l.length 1000 with
  |false=>rw[e] at U;exact U.elim
  |true=>
   rw[e] at U;have:=Bj e;refine⟨small (by rw[<-J.length];exact this),λp j=>?_⟩;exact k _ _ (.tup l) I (T.trans (DV j)) (g.skip j) ⟨p,C,rfl,cB.of zg,J.ts (DV j)⟩ U⟩
theorem zd(h:QA X es tr):QE X (.List es pos) (jq tr):=DW (acy h) λI H Q l L T o r z k=>
 ⟨l,L,_,o,r,z,λvs H1 t L1 C J U g=>by
  cases e:Nat.ble t.length 1000 with
  |false=>rw[e] at g;exact g.elim
  |true=>
   rw[e] at g;have:=Bj e;refine⟨small (by rw[<-U.length];exact this),λp j=>?_⟩;exact k _ _ _ _ (C.trans (DV j)) (J.newL j U) (by rfl) (g p (J.none j))⟩
theorem dm{id:String}{r:List Y->qr->YK->Prop}(hc:x8 X (.builtin id) (upL X.g3 r))(g:Gl X x)(j:X.mg x=none)(l:bootBuiltins x=some (.builtin id))(h:QA X (e::es) tr)
 (o:x ≠ "__name__" := by decide) (hd:Ed x:=by decide) (hs:Eb e es X:=by rfl) (t:Ec pos es X:=by rfl):
 QE X (.Call (.Name x p) (e::es) [] pos) (jS r tr):=DW (gT hc g j l h o hd hs t) λσ H Q C L I T rl z k=>
 ⟨C,L,_,T,rl,z,λvs H1 ys L1 t1 J U z1=>⟨ys,L1,I,U,J,z1,k.ts t1⟩⟩
def upO(G:G3)(t:TO3):TO:=λσ H Q=>∃τ L J,xw G H σ τ/\j5 G H L/\t τ L J/\∀(o:Option Int) H' L',ja H H'->j5 G H' L'->J o L'->Q o H'
abbrev QO(X:Cx)(e:Option Expr)(t:TO3):Prop:=PO X e (upO X.g3 t)
theorem PO.imp{e:Option Expr}{t u:TO}(h:PO X e t)(q:∀σ H Q,u σ H Q->t σ H Q):PO X e u:=λJ s σ H Q I z=>h J s σ H Q I (q σ H Q z)
theorem PO.imq{e:Option Expr}{t:TO}{u:TO3}(h:PO X e t)(q:∀σ H Q τ L J,xw G H σ τ->j5 G H L->u τ L J->(∀(o:Option Int) H' L',ja H H'->j5 G H' L'->J o L'->Q o H')->t σ H Q):PO X e (upO G u):=PO.imp h λσ H Q ⟨τ,L,J,a,b,c,d⟩=>q σ H Q τ L J a b c d
theorem rG.imp{U:V->Option Int->Option Int->Hp->VK->Prop}(h:rG X r)(q:∀x lo hi H Q,U x lo hi H Q->r x lo hi H Q):rG X U:=by intro J s g H x v j l lo hi o Q I p t pl C z;exact h J s g H x v j l lo hi o Q I p t pl C (q _ _ _ _ _ z)
theorem wo:QO X none w5:=PO.imq aha λU H Q g L j l J z k=>k _ H L (DS _) J z
theorem vn(h:QE X e te):QO X (some e) (aV te):=PO.imq (aev h) λC H Q j L I l o z k=>
 ⟨j,L,_,l,o,z,λv p y r t J U g=>by cases y with|int i=>exact⟨i,U,k _ p r t J g⟩|_=>exact g.elim⟩
def aey(G:G3)(r:Y->Option Int->Option Int->qr->YK->Prop):V->Option Int->Option Int->Hp->VK->Prop:=λx lo hi H Q=>∃y L J,RV G H y x/\j5 G H L/\r y lo hi L J/\rF G H J Q
theorem vg{lo hi:Option Expr}{tl th:TO3}{r:Y->Option Int->Option Int->qr->YK->Prop}(h:rG X (aey X.g3 r))(T:QE X a ta)(hl:QO X lo tl)(hh:QO X hi th):QE X (.Subscript a (.Slice lo hi none p2) pos) (vM r ta tl th):=
 DW (aeg h T hl hh) λσ H Q J L Q3 U rl z k=>
 ⟨J,L,_,U,rl,z,λv H1 y L1 g j l z1=>⟨J,L1,_,U.ts g,j,z1,λo H2 L2 p t z2=>⟨J,L2,_,U.ts (g.trans p),t,z2,λo' H3 L3 I C z3=>⟨y,L3,Q3,l.ts (p.trans I),C,z3,k.ts (g.trans (p.trans I))⟩⟩⟩⟩
theorem rB(r:xx G H ys xs)(lo hi:Option Int):xx G H (jM ys lo hi) (sj xs lo hi):=by unfold jM sj;rw[r.length];exact(r.drop _).take _
theorem aoo(K:Ad)(P:Program)(w:World)(o:X.K=K:=by rfl)(t:X.prog=P:=by rfl)(hw:X.w=w:=by rfl):rG X (aey ⟨K,P,w⟩ anl):=by
 subst o t hw;refine rG.imp afl λx lo j H Q ⟨y,L,Q3,l,U,z,k⟩=>?_;cases y with
 |ref a=>
  obtain⟨C,I,T⟩:=vo z;obtain⟨g,sq,r⟩:=cH U (aM I);exact⟨a,g,l,sq,λp J=>k _ _ _ _ (DV J) (U.newL J (rB r lo j)) (by rfl) (T p (U.none J))⟩
 |sq C=>
  obtain⟨a,g,e,sf,r⟩:=l;exact⟨a,g,e,sf.sq,λp J=>k _ _ _ _ (DV J) (U.newL J (rB r lo j)) (by rfl) (z p (U.none J))⟩
 |_=>exact z.elim
end
section
variable {a b iter:Expr}{tc:xp}{tB:jN}{tr:eO}{rest pR:List Stmt}{t u:vt}
theorem zc:oa X [] j8:=fN.imq agz λD g H j L D3 J U z k=>k.nx _ H _ L (DS _) J U z
theorem qe(h:QS X st t):oa X [st] t:=qR h
theorem qa(h:QS X st t)(k:oa X rest u):oa X (st::rest) (qt t u):=fN.imq (rg h k) λD T H j L D3 l o z k=>
 ⟨j,L,{ D3 with nx:=u D3 },l,o,z,λp H1 J r C U g I=>⟨J,r,D3,U,g,I,k.ts C⟩,k.rt,k.bk,k.ct⟩
theorem rb:QS X (.Continue pos) ai6:=ED r6 λD g H j L D3 J U z k=>k.ct _ H _ L (DS _) J U z
theorem zm(h:QE X e te)(hs:swapsWith e none pos.line X.env=pure false:=by rfl):QS X (.Expr e pos) (jk te):=ED (wS h hs) λD C H j L D3 U l z k=>
 ⟨j,L,_,U,l,z,λv o y p g J r t=>k.nx _ o _ p g (U.ts g) J t⟩
theorem qx(h:QE X e te):QS X (.Return (some e) pos) (zy te):=ED (akq h) λD j H J L D3 U g z k=>⟨J,L,_,U,g,z,k.rt⟩
theorem wP:QS X (.Return none pos) ae3:=ED agk λD U H g L D3 j J z k=>k.rt _ H _ L (DS _) J (by rfl) z
theorem zx(h:QT X c tA)(p:oa X body t)(r:oa X pR u):QS X (.If c body pR pos) (jt tA t u):=ED (anz h p r) λD I H g L D3 j C z k=>
 ⟨g,L,_,j,C,z,λc T l U J o=>by cases c with|true=>rw[AB rfl];exact⟨g,l,D3,j.ts U,J,o,k.ts U⟩|false=>rw[AC Ay];exact⟨g,l,D3,j.ts U,J,o,k.ts U⟩⟩
theorem cx(t:X.N.Nodup)(J:X.N[i]?=some x)(C:Loc X.env.scope x)(h:QE X e te)(U:swapsWith e (some (.Name x fy)) pos.line X.env=pure false:=by rfl)
 (g:X.fn x=true\/X.env.scope.names.lookup x=some .local:=by first|exact .inl rfl|exact .inr rfl|assumption):QS X (.Assign [.Name x fy] e pos) (zf te (qh i)):=ED (ac7 t J C h U g) λD σ H o L D3 p I z k=>
 ⟨o,L,_,p,I,z,λv T y L1 r j l z1=>k.nx _ T _ L1 r (show xw _ _ _ (dP o i y) by rw[ar];exact(p.ts r).set l) j z1⟩
theorem cf(h:QE X e te)(p:QG X tg g)(h1:swapsWithSole [tg] e pos.line X.env=pure false:=by rfl)(h2:swappedStores [tg] e X.env=pure none:=by rfl)
 (h3:(assignEach [tg] X.env).map (·.2)=[assign tg X.env]:=by rfl):QS X (.Assign [tg] e pos) (zf te g):=ED (aca h p h1 h2 h3) λD I H j L D3 l r z k=>
 ⟨j,L,_,l,r,z,λv T y t o J U C=>⟨y,j,t,_,U,l.ts o,J,C,k.nx.ts o⟩⟩
theorem PG.imp{t u:TG}(h:PG X e t)(q:∀v σ H Q,u v σ H Q->t v σ H Q):PG X e u:=λJ s σ H x v Q I r z=>h J s σ H x v Q I r (q _ _ _ _ z)
theorem PGs.imp{e:List Expr}{t u:TGs}(h:PGs X e t)(q:∀v σ H Q,u v σ H Q->t v σ H Q):PGs X e u:=λJ s σ H x v Q I r z=>h J s σ H x v Q I r (q _ _ _ _ z)
theorem gZ(g:X.N.Nodup)(J:X.N[i]?=some x)(j:Loc X.env.scope x)(U:X.fn x=true\/X.env.scope.names.lookup x=some .local:=by first|exact .inl rfl|exact .inr rfl|assumption):QG X (.Name x pos) (qh i):=
 PG.imp (xA g J j U) λv t H Q ⟨y,l,L,C,o,p,r,z,k⟩=>k _ H _ L (DS _) (show xw _ _ _ (dP l i y) by rw[ar];exact p.set o) r z
theorem kj:QGs X [] ac:=PGs.imp ags λl o H Q ⟨J,p,L,t,U,g,j,z,k⟩=>by cases J with|nil=>exact⟨U,k _ H _ L (DS _) g j z⟩|cons y r=>exact z.elim
theorem zo(h:QG X e g)(hs:QGs X es gs)(o:(assignEach (e::es) X.env).map (·.2)=assign e X.env::(assignEach es X.env).map (·.2):=by rfl):QGs X (e::es) (je g gs):=
 PGs.imp (aai h hs o) λvs σ H Q ⟨p,t,L,C,I,T,rl,z,k⟩=>by
 cases p with
 |nil=>exact z.elim
 |cons y r=>
  obtain⟨x,xs,rfl,r1,r2⟩:=I;exact⟨x,xs,rfl,y,t,L,_,r1,T,rl,z,λa1 H1 J L1 l U j z1=>⟨r,J,L1,C,r2.ts l,U,j,z1,k.ts l⟩⟩
theorem aO{l:Nat}(hc:X.calm=true)(h:QGs X es gs)(h1:(assignEach es X.env).length=n:=by rfl)(h2:(assignEach es X.env).findIdx? (·.1)=none:=by rfl):QG X (.Tuple es l pos) (bB n gs):=
 PG.imp (aj6 hc h h1 h2) λv I H Q ⟨y,g,L,j,o,p,t,z,k⟩=>by
 cases y with
 |tup J=>
  obtain⟨a,C,rfl,sq,r⟩:=o;have U:(match J.length==n with|true=>gs J g L j|false=>False):=z;split at U
  ·rename_i e;exact⟨a,C,rfl,sq,by rw[<-r.length];exact beq_iff_eq.mp e,J,g,L,j,r,p,t,U,k⟩
  ·exact U.elim
 |_=>exact z.elim
theorem u0{y:Str}{px py pt:Pos}{U k2:Nat}{J:Pos}(hc:X.calm=true)(I:X.N.Nodup)(hi:X.N[i]?=some x)(T:X.N[j]?=some y)(g:i≠j)(lx:X.env.scope.names.lookup x=some .local)(ly:X.env.scope.names.lookup y=some .local)
 (h:QA X [a,b] tr) (h1:swappedStores [.Tuple [.Name x px,.Name y py] U pt] (.Tuple [a,b] k2 J) X.env=pure (some [x,y])) (h2:swapsWithSole [.Tuple [.Name x px,.Name y py] U pt] (.Tuple [a,b] k2 J) pos.line X.env=pure false:=by rfl):
 QS X (.Assign [.Tuple [.Name x px,.Name y py] U pt] (.Tuple [a,b] k2 J) pos) (agd i j tr):=ED (ajy hc I hi T g lx ly h h1 h2) λD σ H r L D3 t rl z k=>
 ⟨r,L,_,t,rl,z,λvs H1 ys L1 C l o p=>by
  split at p
  ·rename_i v w;obtain⟨x',y',rfl,r1,r2⟩:=o.inv2;exact⟨x',y',rfl,k.nx _ H1 _ L1 C (show xw _ _ _ (dP (dP r i v) j w) by rw[ar,ar];exact((t.ts C).set r1).set r2) l p⟩
  ·exact p.elim⟩
theorem bZ(hp:PassesOwn (model X.prog X.w) X.A X.env X.xe)(h:QT X c tA)(hb:oa X body t):QS X (.While c body [] pos) (fb tA t):=PS.imp (aeh hp h hb) λD σ H ⟨τ,L,D3,rs,rl,⟨W,⟨m0,w0⟩,turn⟩,k⟩=>by
 refine⟨λm C H1=>∃U I,ja H H1/\xw X.g3 H1 C U/\j5 X.g3 H1 I/\W m U I,⟨m0,τ,L,DS _,rs,rl,w0⟩,?_⟩;rintro m C H1 ⟨U,I,t1,o,a2,w1⟩;refine⟨U,I,_,o,a2,turn m U I w1,λb H2 L2 T a1 z2=>?_⟩;cases b with
 |false=>rw[AC Ay];exact k.nx _ H2 _ L2 (t1.trans T) (o.ts T) a1 z2
 |true=>
  rw[AB rfl];obtain⟨N,hN,z2⟩:=z2;refine⟨λg j=>∃J l,ja H j/\xw X.g3 j g J/\j5 X.g3 j l/\N J l,?_,?_⟩
  ·rintro g j ⟨J,l,t',p,r,n'⟩;obtain⟨m',hm,w'⟩:=hN J l n';exact⟨m',hm,J,l,t',p,r,w'⟩
  ·have nx:mz X.g3 H2 (gy N) (λg j=>∃J l,ja H j/\xw X.g3 j g J/\j5 X.g3 j l/\N J l):=λg j J l t' p r ⟨L5,s5,n'⟩=>⟨J,L5,(t1.trans T).trans t',p,r.sub s5,n'⟩;have k2:=k.ts (t1.trans T);exact⟨U,L2,_,o.ts T,a1,z2,nx,k2.rt,k2.nx,nx⟩
theorem wu{wi:TI3}(hp:PassesOwn (model X.prog X.w) X.A X.env X.xe)(hc:X.calm=true)(hi:QI X tg iter wi)(hg:QG X tg g)(hb:oa X body t)(hs:∀x,foldedSetIterable iter X.env x=pure x:=by intro _;rfl):
 QS X (.For tg iter body [] pos) (dc wi g t):=ED (akj hp hc hi hg hb hs) λD σ H τ L D3 rs rl z k=>by
 refine⟨τ,L,_,rs,rl,z,λJ H1 C keep L1 t1 a3 yl zz=>?_⟩;obtain⟨W,w0,wk,turn,jw⟩:=abe zz;refine⟨λi m j l=>∃U p,i+m=C.length/\ja H1 l/\xw X.g3 l j U/\j5 X.g3 l p/\W i U p,⟨C.length,τ,L1,by omega,DS _,rs.ts t1,a3,w0⟩,?_⟩;rintro i m av H2 ⟨o,L2,aL,t2,a1,r,w2⟩;by_cases a2:i<C.length
 ·refine .inr ⟨yl.go i H2 L2 t2 r (wk i o L2 w2) a2,λj l=>∃U p,ja H1 l/\xw X.g3 l j U/\j5 X.g3 l p/\W (i+1) U p,?_,?_⟩
  ·rintro j l ⟨U,p,t',I,T,w'⟩;exact⟨m-1,by omega,U,p,by omega,t',I,T,w'⟩
  ·intro x H3 y3;have ey:C[i]?=some C[i]:=Af a2;obtain⟨t3,a4,a5⟩:=yl.yld i H2 L2 x H3 _ t2 r (wk i o L2 w2) ey y3;refine⟨C[i],o,L2,_,a5,a1.ts t3,a4,turn i _ o L2 ey w2,λba H4 ag L4 t4 al au z4=>?_⟩;have nx:mz X.g3 H4 (gy (W (i+1))) (λj l=>∃U p,ja H1 l/\xw X.g3 l j U/\j5 X.g3 l p/\W (i+1) U p):=λj l U p t' I T ⟨L5,s5,n'⟩=>⟨U,L5,((t2.trans t3).trans t4).trans t',I,T.sub s5,n'⟩;have k2:=k.ts (t1.trans ((t2.trans t3).trans t4));exact⟨ag,L4,_,al,au,z4,nx,k2.rt,k2.nx,nx⟩
 ·have e:i=C.length:=by omega
  subst e;exact .inl ⟨yl.stop H2 L2 t2 r (wk _ o L2 w2),k.nx _ H2 _ L2 (t1.trans t2) a1 r (jw o L2 w2)⟩
theorem PI.imp{t u:TI}(h:PI X tg e t)(q:∀σ H Q,u σ H Q->t σ H Q):PI X tg e u:=λJ s σ H Q I z=>h J s σ H Q I (q σ H Q z)
theorem PI.imq{t:TI}{u:TI3}(h:PI X tg e t)(q:∀σ H R τ L U,xw G H σ τ->j5 G H L->u τ L U->(∀J H' ys keep L',ja H H'->j5 G H' L'->fe G H' J ys keep->U ys keep L'->R J H')->t σ H R):PI X tg e (upI G u):=PI.imp h λσ H R ⟨τ,L,U,a,b,c,d⟩=>q σ H R τ L U a b c d
theorem jF{a:Addr}{keep:qr->Prop}(h:∀H L,ja H₀ H->j5 G H L->keep L->∃xs,aJ G.K H a xs/\xx G H ys xs):fe G H₀ (Itl G.K a) ys keep where
 go:=λi H L t J U g=>by
  obtain⟨xs,sq,r⟩:=h H L t J U;have:i<xs.length:=by rw[<-r.length];exact g
  exact⟨xs,xs[i],sq,Af this⟩
 yld:=λi H L x p y t J U j ⟨e,f⟩=>by subst e;obtain⟨xs,sq,r⟩:=h _ L t J U;obtain⟨C,l,o⟩:=r.get j;have:=f xs sq;rw[l] at this;cases this;exact⟨DS _,J,o⟩
 stop:=λH L t J U=>by obtain⟨xs,sq,r⟩:=h H L t J U;exact⟨xs,sq,by rw[r.length];exact Aj _⟩
theorem w4(h:QE X e te):QI X tg e (wr te):=PI.imq (afi h) λσ H R τ L R3 rs o z k=>by
 refine⟨τ,L,_,rs,o,z,λv j y p I J g C=>?_⟩;cases y with
 |ref a=>
  obtain⟨l,keep,es,kp,hk,z2⟩:=mM C;have T:∀H L,ja j H->j5 X.g3 H L->keep L->∃U,aJ X.K H a U/\xx X.g3 H l U:=λH L _ o e=>cH o (hk L e);obtain⟨U,sq,_⟩:=T j p (DS _) J kp;exact⟨a,g,⟨U,sq⟩,k _ j l _ p I J (jF T) z2⟩
 |sq l=>
  obtain⟨a,U,e,sf,r⟩:=g;exact⟨a,e,⟨U,sf.sq⟩,k _ j l (λ_=>True) p I J (jF λH L t _ _=>⟨U,(sf.ts t).sq,r.ts t⟩) C⟩
 |_=>exact C.elim
theorem rK(lo:Int)(n:Nat):fe G H₀ (Itr lo n) (ai lo n) (λ_=>True) where
 go:=λi H L t U j l=>show i<n by simpa[ai] using l
 yld:=λi H L x o y t U j g ⟨e,f⟩=>by
  subst e f;refine⟨DS _,U,?_⟩;unfold ai at g;rw[An] at g;obtain⟨z,J,e⟩:=Ap.mp g;have:=C8 (i:=i) (n:=n) (by
   by_cases c:i<n
   ·exact c
   ·rw[Co (by simp;omega)] at J;cases J)
  rw[this] at J;cases J;subst e;rfl
 stop:=λH L t U j=>by simp[ai,Itr]
theorem bY(l:Gl X "range")(o:X.mg "range"=none)(h:QA X [a] tr)(hs:starEach [a] X.env=[(false,eval a X.env)]:=by rfl):QI X tg (.Call (.Name "range" p) [a] [] pos) (iC tr):=
 PI.imq (yS l o h hs) λσ H R t L R3 C I z k=>by
 refine⟨t,L,_,C,I,z,λvs T ys L1 t1 U g J=>?_⟩;split at J
 ·rename_i j;obtain⟨x,rfl,r⟩:=g.inv1;cases r;exact⟨j,rfl,J.1.1,J.1.2,k _ T _ _ L1 t1 U (rK 0 _) J.2⟩
 ·exact J.elim
end
section
variable {T:List Str}{iter:Expr}{wi:TI3}{tr:eO}
theorem pi:QF X [] ae2:=PF.imp ajz λU H Q ⟨g,L,j,l,J,z,k⟩=>k _ H L (DS _) J z
theorem iQ(h:QT X c tA):QF X [c] tA:=alp h
theorem ait{g2:TG}(a1:∀v σ H Q,upG G g v σ H Q->g2 v σ H Q)(σ:L2.St)(H:Hp)(Q:VK):pY G (xD n wi g tA te) σ H Q->tLC n (upI G wi) g2 (upT G tA) (pY G te) σ H Q:=λ⟨τ,L,Q3,rs,rl,z,k⟩=>by
 refine⟨τ,L,_,rs,rl,z,λJ H1 o keep L1 t1 a2 yl zz=>?_⟩;obtain⟨hz,W,w0,wk,turn,jw⟩:=afy zz;refine⟨λi m vs H'=>∃U L',i+m=o.length/\U.length<=i/\ja H1 H'/\xx G H' U vs/\j5 G H' L'/\W i U L',⟨o.length,[],L1,by exact Nat.add_comm _ _,Aj _,DS _,rfl,a2,w0⟩,?_⟩;rintro i m vs H2 ⟨U,L2,au,av,p,j,l,r⟩;by_cases t:i<o.length
 ·refine .inr ⟨yl.go i H2 L2 p l (wk i U L2 r) t,by rw[<-j.length];lia,?_⟩;intro x H3 y3;have ey:o[i]?=some o[i]:=Af t;obtain⟨t3,a3,a4⟩:=yl.yld i H2 L2 x H3 _ p l (wk i U L2 r) ey y3;refine a1 _ _ _ _ ⟨o[i],_,L2,_,a4,(rs.ts ((t1.trans p).trans t3)).more n,a3,turn i _ U L2 ey r,λaL H4 C L4 t4 I a5 z4=>?_⟩;refine⟨C,L4,_,I,a5,z4,λb H5 L5 t5 T z5=>?_⟩;cases b with
  |true=>
   rw[AB rfl];refine⟨C,L5,_,I.ts t5,T,z5,λv6 H6 y6 L6 t6 ag al ⟨L7,s7,z6⟩=>?_⟩;have tt:=((t3.trans t4).trans t5).trans t6;exact⟨m-1,by omega,U++[y6],L7,by lia,by rw[Ac,A7];exact als,p.trans tt,(j.ts tt).app (xx.one al),ag.sub s7,z6⟩
  |false=>
   rw[AC Ay];have tt:=(t3.trans t4).trans t5;obtain⟨L7,s7,z6⟩:=z5;exact⟨m-1,by lia,U,L7,by lia,by exact atc,p.trans tt,j.ts tt,T.sub s7,z6⟩
 ·have ei:i=o.length:=by lia
  subst ei;refine .inl ⟨yl.stop H2 L2 p l (wk _ U L2 r),by rw[<-j.length];lia,λD hD=>?_⟩;exact k _ _ _ _ ((t1.trans p).trans (DV hD)) (l.newL hD j) (by rfl) (jw U L2 r D (l.none hD))
structure TGx(X:Cx)(scope:Scope)(T:List Str)(target:Expr)(g:mW):Prop where
 ex:∃g2:TG,(∀C fp s₀ H₀,PG (X.comp scope T C fp s₀ H₀) target g2)/\rQ g2 X.N.length T.length/\∀v σ H Q,upG X.g3 g v σ H Q->g2 v σ H Q
theorem ai1(i:Nat)(v:V)(σ:L2.St)(H:Hp)(Q:L2.St->Hp->Prop):upG G (qh i) v σ H Q->l6 i v σ H Q:=λ⟨y,J,L,l,U,g,j,z,k⟩=>
 k _ H _ L (DS _) (show xw _ _ _ (dP J i y) by rw[ar];exact g.set U) j z
theorem wg(U:(X.N++[x]).Nodup)(g:∀C fp s₀ H₀,Loc (X.comp scope [x] C fp s₀ H₀).env.scope x)(J:∀C fp s₀ H₀,(X.comp scope [x] C fp s₀ H₀).env.scope.names.lookup x=some .local):TGx X scope [x] (.Name x p) (qh X.N.length):=
 ⟨l6 X.N.length,λC fp s₀ H₀=>xA (X:=X.comp scope [x] C fp s₀ H₀) U (by show(X.N++[x])[X.N.length]?=some x;simp) (g C fp s₀ H₀) (.inr (J C fp s₀ H₀)),ut _,ai1 _⟩
theorem lZ(T:List Str)(S:ji X scope)(hc:X.calm=true)(hi:QI X target iter wi)(J:TGx X scope T target g)
 (U:∀C fp s₀ H₀,QF (X.comp scope T C fp s₀ H₀) ni tA) (j:∀C fp s₀ H₀,QE (X.comp scope T C fp s₀ H₀) nw te)
 (hs:∀x,foldedSetIterable iter X.env x=pure x:=by intro _;rfl):QE X (.ListComp nw [⟨target,iter,ni,0⟩] scope pos) (xD T.length wi g tA te):=by
 obtain⟨g2,h1,h2,h3⟩:=J.ex;exact EJ (anr T S hc hi h1 h2 U j hs) (ait h3)
theorem ln(T:List Str){px:Pos}(I:X.N.Nodup)(J:X.N[i]?=some x)(hx:Loc X.env.scope x)(S:ji X scope)(hc:X.calm=true)(hi:QI X target iter wi)
 (hg:TGx X scope T target g) (hf:∀C fp s₀ H₀,QF (X.comp scope T C fp s₀ H₀) ni tA) (he:∀C fp s₀ H₀,QE (X.comp scope T C fp s₀ H₀) nw te)
 (U:swapsWith (.ListComp nw [⟨target,iter,ni,0⟩] scope lp) (some (.Name x px)) pos.line X.env=pure true:=by rfl)
 (j:X.fn x=true\/X.env.scope.names.lookup x=some .local:=by first|exact .inl rfl|exact .inr rfl|assumption)
 (hs:∀x,foldedSetIterable iter X.env x=pure x:=by intro _;rfl):QS X (.Assign [.Name x px] (.ListComp nw [⟨target,iter,ni,0⟩] scope lp) pos) (zf (xD T.length wi g tA te) (qh i)):=by
 obtain⟨g2,h1,h2,h3⟩:=hg.ex;refine PS.imp (aay (tc:=upT X.g3 tA) (te:=pY X.g3 te) T I J hx S hc hi h1 h2 hf he U j hs) λD σ H ⟨p,L,D3,r,rl,z,k⟩=>?_;refine ait h3 σ H _ ⟨p,L,_,r,rl,z,λv H1 y L1 t l o z1=>?_⟩;exact k.nx _ H1 _ L1 t (show xw _ _ _ (dP p i y) by rw[ar];exact(r.ts t).set o) l z1
def dn(G:G3)(sp:jl):Sp:=λvs H Q _=>∃ys L J,xx G H ys vs/\j5 G H L/\sp ys L J/\rF G H J Q
abbrev al9(P:Program)(w:World)(K:Ad)(mg:Str->Option Value)(base:Heap)(k:Nat)(x:Str)(ps:List Str)(sp:jl):Prop:=Cal P w K mg base k x ps (dn ⟨K,P,w⟩ sp)
abbrev Fn3(P:Program)(w:World)(K:Ad)(mg:Str->Option Value)(base:Heap)(k:Nat)(f:Addr)(fd:FuncData)(ps:List Str)(sp:jl):Prop:=bA P w K mg base CX0 k f fd ps (dn ⟨K,P,w⟩ sp)
theorem are{k:Nat}{sp:jl}(c:al9 X.prog X.w X.K X.mg X.base k x ps sp)(l:wb k X.A)(o:Gl X x)(r:QA X (e::es) tr)(J:Ed x:=by decide)
 (t:Eb e es X:=by rfl) (U:Ec pos es X:=by rfl):QE X (.Call (.Name x p) (e::es) [] pos) (z9 sp tr):=
 DW (ar9 c l o r J t U) λσ H Q C L I T rl z k=>
 ⟨C,L,_,T,rl,z,λvs H1 ys L1 t1 g j z1=>⟨ys,L1,I,by rw[AX];exact j,g,z1,k.ts t1⟩⟩
def bQ(Q:YK):YK:=λy L=>∃L2,qg L2 L/\Q y L2
def eU(N:List Str)(ys:List Y):jo:=ys.map some++List.replicate (N.length-ys.length) none
theorem iA{N:List Str}(r:xx G H ys vs):xw G H (L2.start N vs) (eU N ys):=by unfold L2.start eU;rw[<-r.length];refine xw.more ⟨by simp[r.length],λi y e=>?_⟩ _;rw[An] at e;obtain⟨j,J,U⟩:=Ap.mp e;cases U;obtain⟨x,ex,g⟩:=r.get J;exact⟨x,by rw[An,ex];rfl,g⟩
theorem ok3{P:Program}{w:World}{K:Ad}{N:List Str}{k:Nat}{sp:jl}(F:Fun K x eK st f fd)(S:aG N ps (qy st))(len:∀ys L Q,sp ys L Q->ys.length=ps.length)
 (J:∀(fm:Value) (A:Around) (outer:List Env) (s:Shared) (H:Hp) (E:XK),wb k (A.deeper (PyProof.Rows.envOfC eK (qy st) s.heap.objs.size f fm))->
  ∃t,oa (cn CX0 P w K mg base N eK (qy st) f fm A outer s H E).nox (jh st) t/\∀ys L Q,sp ys L Q->t { nx:=λ_ L'=>bQ Q .non L',rt:=bQ Q } (eU N ys) L):Fn3 P w K mg base (k+1) f fd ps sp:=by
 refine F.ok S (λT H Q E ⟨ys,L,g,j,I,z,_⟩=>by rw[<-j.length];exact len ys L g z) λfm A outer s H T Q E hr ⟨ys,L,g,j,I,z,k⟩=>?_;obtain⟨t,ht,q⟩:=J fm A outer s H E hr;refine⟨_,ht,eU N ys,L,_,iA j,I,q ys L g z,?_⟩;refine⟨λσ l τ L' o a1 U ⟨L2,p,r⟩=>k .non l .non L2 o (U.sub p) (by rfl) r,λv l y L' o U C ⟨L2,p,r⟩=>k v l y L2 o (U.sub p) C r,λ_ _ _ _ _ _ _ z=>z.elim,λ_ _ _ _ _ _ _ z=>z.elim⟩
def upM(G:G3)(r:Y->List Y->qr->YK->Prop):V->List V->Hp->VK->Prop:=λx xs H Q=>∃y ys L J,RV G H y x/\xx G H ys xs/\j5 G H L/\r y ys L J/\rF G H J Q
theorem iX.imq{id:String}{r:V->List V->Hp->VK->Prop}{u:Y->List Y->qr->YK->Prop}(h:iX X id r)(q:∀x xs H Q y ys L J,RV G H y x->xx G H ys xs->j5 G H L->u y ys L J->rF G H J Q->r x xs H Q):iX X id (upM G u):=iX.imp h λx xs H Q ⟨y,ys,L,J,a,b,c,d,e⟩=>q x xs H Q y ys L J a b c d e
theorem abg:iX X "list.append" (upM X.g3 j6):=iX.imq zT λx t H Q y C L I g j U z k=>by
 unfold j6 at z;split at z
 ·rename_i a v;obtain⟨T,e,z⟩:=vo z;obtain⟨l,J,r⟩:=U a _ e;obtain⟨o,rfl,p⟩:=j.inv1;exact⟨a,l,o,g,rfl,J,by rw[<-r.length];exact z.1,k _ _ _ _ (EH J) (U.setL J (r.app (xx.one p))) (by rfl) z.2⟩
 ·exact z.elim
theorem ac9:iX X "list.extend" (upM X.g3 bH):=iX.imq zH λx T H Q y ys L Q3 j l J z k=>by
 unfold bH at z;split at z
 ·rename_i a b;obtain⟨zs,e,z⟩:=vo z;obtain⟨us,o,z⟩:=vo z;obtain⟨p,U,r⟩:=J a _ e;obtain⟨t,C,g⟩:=J b _ o;obtain⟨v',rfl,I⟩:=l.inv1;cases I;exact⟨a,b,p,t,j,rfl,U,C,by rw[<-r.length,<-g.length];exact z.1,k _ _ _ _ (EH U) (J.setL U (r.app g)) (by rfl) z.2⟩
 ·exact z.elim
theorem ap0:iX X "list.pop" (upM X.g3 vG):=iX.imq am0 λx o H Q y T L Q3 p t g z k=>by
 unfold vG at z;split at z
 ·rename_i a;obtain⟨j,e,z⟩:=vo z;obtain⟨C,J,r⟩:=g a _ e;cases (show o=[] from t);cases U:j[j.length-1]? with
  |none=>rw[U] at z;exact z.elim
  |some v=>
   rw[U] at z;obtain⟨u,l,I⟩:=r.get U;rw[r.length] at l;exact⟨a,C,u,p,rfl,J,l,k _ _ _ _ (EH J) (g.setL J r.dropLast) (I.ts (EH J)) z⟩
 ·exact z.elim
theorem wV(J:j5 G H L)(h:cL L (.ref a)=some ys):tyV G.K "list" (.ref a) H:=by obtain⟨U,sq,_⟩:=cH J h;exact .inl ⟨rfl,U,sq⟩
def af(r:Y->List Y->qr->YK->Prop)(to:xp)(t:eO)(τ:jo)(L:qr)(Q:YK):Prop:=to τ L λx L1=>match x with
 |.ref a=>fC L1 (.ref a) λ_=>t τ L1 λxs L2=>r (.ref a) xs L2 Q
 |_=>False
theorem qK{id:String}{r:Y->List Y->qr->YK->Prop}(h2:Slot "list" name id)(h3:typeOf (.builtin id)=pure (.type "method_descriptor"))(hm:iX X id (upM X.g3 r))(ho:QE X o to)(ha:QA X (e::es) tr)
 (h4:attributeBase o name X.env (eval o X.env)=eval o X.env:=by rfl)
 (h5:((backTo eW (starEach (e::es) X.env)).all (λx=>!x.1)&&(backToKw eW (keywordEach [] X.env)).all (λx=>x.1.isSome)&&decide ((e::es).length+([]:List Keyword).length+(if ([]:List Keyword).isEmpty=true then 0 else 1)<30))=true:=by rfl)
 (h6:(apos.endLine==eW.line)=true:=by rfl) (h7:Eb e es X:=by rfl) (h8:Ec eW es X:=by rfl):
 QE X (.Call (.Attribute o name apos) (e::es) [] eW) (af r to tr):=DW (ain DC h2 h3 hm ho ha h4 h5 h6 h7 h8) λσ H Q p L Q3 t rl z k=>
 ⟨p,L,_,t,rl,z,λv H1 y L1 C J U g=>by
  split at g
  ·rename_i a;obtain⟨I,es,g⟩:=ko g;exact⟨by cases U;exact wV J es,p,L1,_,t.ts C,J,g,λvs H2 I L2 T j l z2=>⟨.ref a,I,L2,Q3,U.ts T,l,j,z2,k.ts (C.trans T)⟩⟩
  ·exact g.elim⟩
theorem aka{id:String}{r:Y->List Y->qr->YK->Prop}(h2:Slot "list" name id)(h3:typeOf (.builtin id)=pure (.type "method_descriptor"))(j:iX X id (upM X.g3 r))(l:QE X o to)
 (p:attributeBase o name X.env (eval o X.env)=eval o X.env:=by rfl) (t:(apos.endLine==eW.line)=true:=by rfl):
 QE X (.Call (.Attribute o name apos) [] [] eW) (af r to z0):=DW (am2 DC h2 h3 j l p t) λσ H Q C L I T rl z k=>
 ⟨C,L,_,T,rl,z,λv H1 y L1 t1 J U g=>by
  split at g
  ·rename_i a;obtain⟨ys,es,g⟩:=ko g;exact⟨by cases U;exact wV J es,.ref a,[],L1,I,U,rfl,J,g,k.ts t1⟩
  ·exact g.elim⟩
theorem zh(J:QE X o to)(U:QA X (e::es) tr)(g:attributeBase o "append" X.env (eval o X.env)=eval o X.env:=by rfl)
 (j:((backTo eW (starEach (e::es) X.env)).all (λx=>!x.1)&&(backToKw eW (keywordEach [] X.env)).all (λx=>x.1.isSome)&&decide ((e::es).length+([]:List Keyword).length+(if ([]:List Keyword).isEmpty=true then 0 else 1)<30))=true:=by rfl)
 (l:(apos.endLine==eW.line)=true:=by rfl) (p:Eb e es X:=by rfl) (r:Ec eW es X:=by rfl):
 QE X (.Call (.Attribute o "append" apos) (e::es) [] eW) (af j6 to tr):=qK PySem.F.slot_list_append PySem.F.type_list_append abg J U g j l p r
theorem cO(J:QE X o to)(U:QA X (e::es) tr)(g:attributeBase o "extend" X.env (eval o X.env)=eval o X.env:=by rfl)
 (j:((backTo eW (starEach (e::es) X.env)).all (λx=>!x.1)&&(backToKw eW (keywordEach [] X.env)).all (λx=>x.1.isSome)&&decide ((e::es).length+([]:List Keyword).length+(if ([]:List Keyword).isEmpty=true then 0 else 1)<30))=true:=by rfl)
 (l:(apos.endLine==eW.line)=true:=by rfl) (p:Eb e es X:=by rfl) (r:Ec eW es X:=by rfl):
 QE X (.Call (.Attribute o "extend" apos) (e::es) [] eW) (af bH to tr):=qK PySem.F.slot_list_extend PySem.F.type_list_extend ac9 J U g j l p r
theorem t9(J:QE X o to)(U:attributeBase o "pop" X.env (eval o X.env)=eval o X.env:=by rfl)(g:(apos.endLine==eW.line)=true:=by rfl):
 QE X (.Call (.Attribute o "pop" apos) [] [] eW) (af vG to z0):=aka PySem.F.slot_list_pop PySem.F.type_list_pop ap0 J U g
end
abbrev hU:mX:=yI0 λi j=>.int (i-j)
abbrev m8:mX:=yI ad3 λi j=>.int (i*j)
abbrev vv:mX:=yI ajp λi j=>.int (i / j)
abbrev xu:mX:=yI (λ_ j=>0<j) λi j=>.int (i % j)
abbrev acn:mX:=yI am5 λi j=>.int (i ^ j.toNat)
abbrev yLt:mX:=yI0 λi j=>.bl (decide (i<j))
abbrev yLe:mX:=yI0 λi j=>.bl (decide (i<=j))
abbrev yGt:mX:=yI0 λi j=>.bl (decide (j<i))
abbrev yGe:mX:=yI0 λi j=>.bl (decide (j<=i))
structure ane(G:G3)(mg:Str->Option Value)(x:Str)(y:Y):Prop where
 ex:∃c,mg x=some (.ref c)/\∀H,RV G H y (.ref c)
theorem ajr(t:ane X.g3 X.mg x y)(J:Gl X x)(hd:Ed x:=by decide):QE X (.Name x pos) (yC y):=by obtain⟨c,U,q⟩:=t.ex;exact aon J U q hd
def air(kvs:List (Str×Str)):LO:=.dct (kvs.map λp=>(Sum.inr p.1,Y.str p.2))
def aiu(kvs:List (Str×Str))(_:jo)(L:qr)(Q:YK):Prop:=∀p,L p=none->Q (.ref p) (qi L p (air kvs))
def kvV(kvs:List (Str×Str)):List (jf×V):=kvs.map λp=>(Sum.inr p.1,V.str p.2)
theorem sT{σ:L2.St}{H:Hp}{Q:List (V×V)->Hp->Prop}:∀{kvs:List (Str×Str)},Q (kvs.map λp=>(V.str p.1,V.str p.2)) H->rA (kvs.map λp=>(tC (.str p.1),tC (.str p.2))) σ H Q
 |[],h=>h
 |_::r,h=>sT (kvs:=r) h
theorem vO{G:G3}{H:Hp}:∀kvs:List (Str×Str),Paired (λ(p:jf×Y) (q:jf×V)=>p.1=q.1/\RV G H p.2 q.2) (kvs.map λp=>(Sum.inr p.1,Y.str p.2)) (kvV kvs)
 |[]=>.nil
 |_::r=>.cons ⟨rfl,rfl⟩ (vO r)
theorem afb{keys:List (Option Expr)}{values:List Expr}(kvs:List (Str×Str))(h:PPs X pos keys values (kvs.map λp=>(tC (.str p.1),tC (.str p.2))))(h1:(keys.all λx=>x.isSome)=true)(h2:keys.length=values.length)(h3:keys≠[])(g:keys.length<=15)
 (j:kvs.length<=15:=by decide) (nd:hZ [] (kvV kvs)=kvV kvs:=by decide +kernel):QE X (.Dict keys values pos) (aiu kvs):=DW (afs h h1 h2 h3 g) λl H Q o L r t U z k=>by
 intro p J;refine sT ⟨zg,kvV kvs,by simp[kvV,kV],by simpa[kvV] using j,?_⟩;rw[nd,wK];refine k _ _ _ (qi L p (air kvs)) (DV J) ?_ (by rfl) (z p (U.none J));intro a u e;by_cases c:a=p
 ·subst c;rw[q8] at e;cases e;exact⟨kvV kvs,zg,vO kvs⟩
 ·rw[qb c] at e;exact(U a u e).keep (DV J) (qo c)
def oP(t:xp):Prop:=∀τ L Q,t τ L Q->∃v,Q v L/\∀L' J,qg L L'->J v L'->t τ L' J
theorem vL(i:Nat):oP (q9 i):=λJ L Q h=>by
 unfold q9 at h ⊢;split at h
 ·rename_i y e;exact⟨y,h,λU g _ q=>q⟩
 ·exact h.elim
theorem xS(y:Y):oP (yC y):=λ_ _ _ h=>⟨y,h,λ_ _ _ q=>q⟩
theorem yR{C:Int->Int->Prop}{g:Int->Int->Y}(l:oP ta)(o:oP tb):oP (zb (yI C g) ta tb):=λJ L Q h=>by
 obtain⟨x,h1,p⟩:=l J L _ h;obtain⟨y,h2,r⟩:=o J L _ h1;cases x with
 |int i=>
  cases y with|int j=>exact⟨g i j,h2.2,λU t s q=>p U _ s (r U _ s ⟨h2.1,q⟩)⟩|_=>exact h2.elim
 |_=>cases y<;>exact h2.elim
theorem gM{Q:α->qr->Prop}{o:Option α}(h:tV L Q o):∃v,o=some v/\Q v L:=by cases o with|none=>exact h.elim|some v=>exact⟨v,rfl,h⟩
def lb(t:eO)(ti:xp)(τ:jo)(L:qr)(Q:YK):Prop:=t τ L λys L1=>match Nat.ble ys.length 1000 with
 |true=>ti τ L1 λi L2=>match i with
  |.int i=>tV L2 Q (dQ ys i)
  |_=>False
 |false=>False
theorem qL{b:Expr}{tr:eO}(h:QA X es tr)(hb:QE X b tb)(pu:oP tb)(U:gj b):QE X (.Subscript (.List es lp) b pos) (lb tr tb):=DW (ada (ai7 X.K X.prog X.w) (acy h) hb U) λσ H Q r L Q3 rs rl z k=>by
 refine⟨r,L,_,rs,rl,z,λvs H1 g J t1 j l o=>?_⟩;cases e:Nat.ble g.length 1000 with
 |false=>rw[e] at o;exact o.elim
 |true=>
  rw[e] at o;have:=Bj e;refine⟨small (by rw[<-l.length];exact this),λp U=>?_⟩;obtain⟨v,zv,kv⟩:=pu r J _ o;have sb:qg J (qi J p (.lst g)):=By (j.none U);refine⟨r,qi J p (.lst g),λv' t=>v'=v/\t=qi J p (.lst g),rs.ts (t1.trans (DV U)),j.newL U l,kv _ _ sb ⟨rfl,rfl⟩,?_⟩;rintro v2 H2 y2 L2 t2 C I ⟨rfl,rfl⟩;refine⟨.ref p,y2,_,λy t=>t=qi J p (.lst g)/\Q3 y J,rfl,I,C,?_,?_⟩
  ·cases y2 with
   |int i=>
    obtain⟨u,eu,qu⟩:=gM zv;refine qc q8 ?_;rw[eu];exact⟨rfl,qu⟩
   |_=>exact zv.elim
  ·rintro v3 H3 y3 L3 t3 T a1 ⟨rfl,q3⟩;exact k v3 H3 y3 J (t1.trans ((DV U).trans (t2.trans t3))) (T.sub sb) a1 q3
theorem ij{kvs:List (Str×Str)}{k:Str}(h:kvs.lookup k=some x):kq (kvs.map λp=>((Sum.inr p.1:jf),Y.str p.2)) (Sum.inr k)=some (Y.str x):=by
 induction kvs with
 |nil=>simp at h
 |cons p r J=>
  obtain⟨a,b⟩:=p;unfold kq;rw[AK,Bk];rw[Bo] at h;by_cases c:k=a
  ·subst c;simp at h;simp[h]
  ·have c1:(k==a)=false:=by simpa using c
   rw[c1] at h;have c2:decide ((Sum.inr a:jf)=Sum.inr k)=false:=Au λz=>c (Es z).symm;simp only[c2];exact J h
theorem wN(h:(ai lo n)[i]?=some y):i<n/\y=.int (lo+i):=by
 unfold ai at h;rw[An] at h;obtain⟨z,J,e⟩:=Ap.mp h;have U:i<n:=by
  by_cases c:i<n
  ·exact c
  ·rw[Co (by simp;exact aa9)] at J;cases J
 rw[C8 U] at J;cases J;exact⟨U,e.symm⟩
theorem mF(lo:Int)(n:Nat):(ai lo n).length=n:=by simp[ai]
theorem jT{tb:vt}(W:Nat->jo->qr->Prop)(h0:W 0 τ L)
 (hs:∀i τ L,i<n->W i τ L->g (.int (lo+i)) τ L λJ L2=>tb { D with nx:=gy (W (i+1)),ct:=gy (W (i+1)),bk:=D.nx } J L2) (hd:∀τ L,W n τ L->D.nx τ L):uV (ai lo n) (λ_=>True) g tb D τ L:=by
 refine w6 ⟨W,h0,λ_ _ _ _=>trivial,λi y τ L e w=>?_,λτ L w=>hd τ L (by rw[mF] at w;exact w)⟩;obtain⟨U,rfl⟩:=wN e;exact hs i τ L U w
theorem ur{v:Y}{Q:YK}(e:L a=some (.lst (ys++[v])))(q:Q v (qi L a (.lst ys))):fC L (.ref a) (λ_=>z0 τ L λxs L2=>vG (.ref a) xs L2 Q):=by
 refine qc e (qw e ?_);have:(ys++[v])[(ys++[v]).length-1]?=some v:=by simp
 rw[this,List.dropLast_concat];exact q
theorem afu{tb:vt}(h:cL L (.ref a)=some ys)(W:Nat->jo->qr->Prop)(h0:W 0 τ L)(U:∀i τ L',W i τ L'->L' a=L a)
 (hs:∀i y τ L,ys[i]?=some y->W i τ L->g y τ L λJ L2=>tb { D with nx:=gy (W (i+1)),ct:=gy (W (i+1)),bk:=D.nx } J L2) (hd:∀τ L,W ys.length τ L->D.nx τ L):
 rD L a λys keep L1=>uV ys keep g tb D τ L1:=vh (o5 h) λkeep j=>w6 ⟨W,h0,λi τ L' w=>j L' (U i τ L' w),hs,hd⟩
theorem fj{keep:qr->Prop}{tc:jN}{Q:YK}(I:Nat->List Y->Prop)(hz:ys.length<sizeLine)(j:keep L)(h0:I 0 [])
 (turn:∀(i:Nat) y zs,ys[i]?=some y->I i zs->g y (τ++List.replicate n none) L λJ L2=>tc J L2 λb L3=>wc b (te J L3 λz l=>gy (λzs L'=>L'=L/\I (i+1) zs) (zs++[z]) l) (gy (λzs L'=>L'=L/\I (i+1) zs) zs L3))
 (o:∀zs,I ys.length zs->∀p,L p=none->Q (.ref p) (qi L p (.lst zs))):lcK ys keep n g tc te τ L Q:=by
 refine adj ⟨hz,λi zs L'=>L'=L/\I i zs,⟨rfl,h0⟩,?_,?_,?_⟩
 ·rintro i zs L' ⟨rfl,_⟩;exact j
 ·rintro i y zs L' r ⟨rfl,U⟩;exact turn i y zs r U
 ·rintro zs L' ⟨rfl,U⟩ p t;exact o zs U p t
theorem aad{tc:jN}{Q:YK}(I:Nat->List Y->Prop)(hz:m<sizeLine)(h0:I 0 [])
 (turn:∀(i:Nat) zs,i<m->I i zs->g (.int (lo+i)) (τ++List.replicate n none) L λJ L2=>tc J L2 λb L3=>wc b (te J L3 λz j=>gy (λzs L'=>L'=L/\I (i+1) zs) (zs++[z]) j) (gy (λzs L'=>L'=L/\I (i+1) zs) zs L3))
 (l:∀zs,I m zs->∀p,L p=none->Q (.ref p) (qi L p (.lst zs))):lcK (ai lo m) (λ_=>True) n g tc te τ L Q:=by
 refine fj (keep:=λ_=>True) I (by rw[mF];exact hz) trivial h0 (λi y zs e U=>?_) λzs U=>l zs (by rw[mF] at U;exact U);obtain⟨o,rfl⟩:=wN e;exact turn i zs o U
theorem jj{J:List α}{f:α->Y}{w:α}(h:J[i]?=some w):dQ (J.map f) (i:Int)=some (f w):=x6 (by rw[An,h];rfl)
def xj(t:vt)(n:Nat)(ys:List Y)(L:qr)(Q:YK):Prop:=t { nx:=λ_ L'=>bQ Q .non L',rt:=bQ Q } (ys.map some++List.replicate (n-ys.length) none) L
theorem jw{Q:YK}(h:Q y L):bQ Q y L:=⟨L,DU L,h⟩
theorem we{Q:YK}(s:qg L L')(h:Q y L):bQ Q y L':=⟨L,s,h⟩
theorem Fn3.never{P:Program}{w:World}{K:Ad}{k:Nat}{sp:jl}(no:∀ys L Q,¬sp ys L Q):Fn3 P w K mg base k f fd ps sp:=
 bA.never λU H Q E ⟨ys,L,J,_,_,z,_⟩=>no ys L J z
theorem qg.upd{o:LO}(s:qg L L')(h:L a=none):qg L (qi L' a o):=λb u e=>by rw[qb (km e h)];exact s b u e
theorem qg.put{o:LO}(s:qg L L')(h:L' a=some o):qg (qi L a o) L':=λb u e=>by
 by_cases c:b=a
 ·subst c;rw[q8] at e;cases e;exact h
 ·rw[qb c] at e;exact s b u e
abbrev ER:=@qg.put
theorem sm{G:G3}{H:Hp}:∀J:List Int,xx G H (J.map Y.int) (J.map V.int)
 |[]=>rfl
 |_::r=>⟨_,_,rfl,rfl,sm r⟩
end L3
namespace L2
open PySem PySem.Spec PyProof.Rows
section
variable {σ:L2.St}
theorem kW(I:za X pins σ H s)(U:∀b∈fp,H b=none)(k:∀b o,b∉fp->s.heap.get? b=some o->h'.get? b=some o):dU X.prog X.w H h':=λb u e=>by
 refine(I.hok b u e).stay (λc v g q=>k c v (λz=>?_) q) (λ_ q=>q) λ_ _ q=>q;have J:=U c z;rcases g with w|w
 ·rw[w,e] at J;cases J
 ·rw[w] at J;cases J
theorem yn{fs:List Addr}(k:∀b o,b∉fp->h.get? b=some o->h'.get? b=some o):Un fs fp H H h h':=
 ⟨λb o q _ _ x=>k b o x q,λb o q _ _ x=>⟨o.slots,k b o x q⟩,λ_ _ _ n _=>n,λb o q x=>⟨o,k b o x q⟩,λ_ _ q=>q,λ_ _ _ q=>q,λb J q=>⟨#[],by rw[q];simp⟩⟩
theorem za.turnedL(I:za X pins σ H s)(k:∀b o,b∉fp->s.heap.get? b=some o->h'.get? b=some o)(U:∀b∈fp,jJ X pins H b)(g:0<t':=by walk_at "t"):za X pins σ H { s with heap:=h',toks:=t' }:=
 I.call' (s':={ s with heap:=h',toks:=t' }) (ch:=fp) rfl (yn k) (kW I (λb J=>(U b J).1) k) I.bare λb J=>⟨(U b J).2.2.2.1,(U b J).2.1,(U b J).2.2.2.2.1,(U b J).2.2.2.2.2⟩
theorem za.turnedN{o:HO}(I:za X pins σ H s)(k:∀b o,b∉fp->s.heap.get? b=some o->h'.get? b=some o)(U:∀b∈fp,jJ X pins H b)(j:s.heap.objs.size<=a)
 (new:xq X.prog X.w (upd H a o) h' a o) (p:0<t':=by walk_at "t"):za X pins σ (upd H a o) { s with heap:=h',toks:=t' }:=by
 have g:H a=none:=I.hok.fresh j;have lt:∀b ob,s.heap.get? b=some ob->b≠a:=λb ob q=>AV (AI (At q) j);refine I.call' (s':={ s with heap:=h',toks:=t' }) (ch:=fp) rfl ?_ ?_ I.bare λb J=>⟨(U b J).2.2.2.1,(U b J).2.1,(U b J).2.2.2.2.1,(U b J).2.2.2.2.2⟩
 ·exact⟨λb ob q _ _ x=>k b ob x q,λb ob q _ _ x=>⟨ob.slots,k b ob x q⟩,λb ob q n _=>by rw[qo (lt b ob q)];exact n,λb ob q x=>⟨ob,k b ob x q⟩,
   λb l q=>by rw[qo (zr q g)];exact q,λb ob u q=>by rw[qo (zr q g)];exact q,λb r q=>⟨#[],by rw[qo (zr q g),q];simp⟩⟩
 ·intro b u e;by_cases J:b=a
  ·subst J;rw[zg] at e;cases e;exact new
  ·rw[qo J] at e;have ok:=kW I (h':=h') (λb J=>(U b J).1) k b u e;exact ok.stay (λ_ _ _ q=>q) (λc q=>by rw[qo (zr q g)];exact q) λc l q=>by rw[qo (zr q g)];exact q
end
def Ite(K:Ad)(a:Addr):It:=
 ⟨λi H=>∃xs x,aJ K H a xs/\xs[i]?=some x,λi H v H'=>∃p x,H p=none/\v=.ref p/\H'=upd H p (.tup [.int i,x])/\∀xs,aJ K H a xs->xs[i]?=some x,λi H=>∃xs,aJ K H a xs/\xs.length<=i⟩
theorem yu{P:Program}{w:World}{K:Ad}(a e it:Addr)(l:e≠it):yb P w K (.Tuple oi x1 tp) (Ite K a) [e,it] e (λi h=>(∃old,IsEnum h e it i old)/\h.IsListIter it a i) where
 mem:=by simp
 obj:=λi h ⟨⟨old,J⟩,U⟩ b g=>by
  rcases Ao.mp g with rfl|g
  ·exact⟨_,J,λv z=>by cases z⟩
  ·cases Ai.mp g;obtain⟨o,T,hc,hd⟩:=U;exact⟨o,T,λv z=>by rw[hd] at z;cases z⟩
 keep:=λi h h' ⟨⟨old,J⟩,U⟩ k=>⟨⟨old,k e (by simp) _ J⟩,U.at λo q=>k it (by simp) o q⟩
 item:=by
  intro X hP hw hK hc i r s σ H E I t ⟨⟨old,J⟩,U⟩ hg;subst hP hw hK;obtain⟨xs,x,C,hx⟩:=hg;obtain⟨a1,rv,p,hz⟩:=I.list C;obtain⟨u,hu,ru⟩:=rv.get hx;refine wpAny_pyNext_enum_item J U p.isList (x:=u) (by simpa using hu) l λh1 a2 a3 ht ag hk=>⟨.ref s.heap.objs.size,rfl,wpAny_letOwnedTupleGo_enum a2 λh2 a4 j=>?_⟩;have el:e<s.heap.objs.size:=At J;have il:it<s.heap.objs.size:=by obtain⟨o,T,_⟩:=U;exact At T
  have kk:∀b o,b∉[e,it]->s.heap.get? b=some o->h2.get? b=some o:=λb o nb q=>by have n1:b≠e:=λz=>nb (by simp[z]);have n2:b≠it:=λz=>nb (by simp[z]);exact j.extBut b o n1 (hk b o n1 n2 q)
  have tg:h2.get? s.heap.objs.size=some { cls:=.type "tuple",data:=.seq #[.int i s.toks,u] }:=j.extBut _ _ (CP el) ht;refine⟨.ref s.heap.objs.size,upd H s.heap.objs.size (.tup [.int i,x]),?_,rfl,⟨_,x,I.hok.fresh (Aj _),rfl,rfl,λys hy=>by rw[I.list_inj hy C];exact hx⟩,⟨⟨_,a4⟩,a3.at λo q=>j.extBut _ _ (AF l) q⟩,λb g=>?_⟩
  ·exact I.turnedN (t':=s.toks+1) kk t (Aj _) ⟨by show 2<=sizeLine;decide,[.int i s.toks,u],.cons ⟨_,rfl⟩ (.cons ru .nil),⟨_,tg,rfl,_,rfl⟩⟩
  ·have a5:b<s.heap.objs.size:=by rcases Ao.mp g with rfl|g;exact el;cases Ai.mp g;exact il
   rw[qo (AV a5)];exact(t b g).1
 done:=by intro X hP hw hK hc i r s σ H E I t ⟨⟨old,J⟩,U⟩ hg;subst hP hw hK;obtain⟨xs,C,hx⟩:=hg;obtain⟨a1,rv,p,hz⟩:=I.list C;have hl:=rv.length;exact wpAny_pyNext_enum_end (I.ok.hd hc) J U p.isList (by simp;omega) λh1 eb=>⟨rfl,I.turnedL (t':=s.toks) (fp:=[e,it]) (λb o nb q=>eb b o (λz=>nb (by simp[z])) q) t⟩
 self:=λ_ _ _ _ _ ⟨⟨_,J⟩,_⟩ h=>wpAny_pyIter_enum J h
def aor(K:Ad)(ta:TA):TI:=λσ H R=>ta σ H λvs H1=>∃a,vs=[.ref a]/\(∃xs,aJ K H1 a xs)/\R (Ite K a) H1
theorem pO:bootBuiltins "enumerate"=some (.type "enumerate"):=by decide +kernel
theorem ahg{a:Expr}{ta:TA}(T:Gl X "enumerate")(hm:X.mg "enumerate"=none)(ha:PA X [a] ta)(hs:starEach [a] X.env=[(false,eval a X.env)]:=by rfl):
 PI X (.Tuple oi x1 tp) (.Call (.Name "enumerate" p) [a] [] pos) (aor X.K ta):=by
 intro J s r H R I h;refine Call_ (ck I T hm pO (BL (aI (ha pos J s r H _ I h) λus U ⟨vs,t,j,r1,q1⟩=>?_) hs rfl));obtain⟨l,e,⟨xs,hq⟩,q⟩:=q1;subst e;obtain⟨u,rfl,ru⟩:=l8 r1;cases ru;obtain⟨a1,rv,pl,hz⟩:=j.list hq;refine call_enumerate_list pl.isList λh1 C hi a2 hk=>?_;have I2:za X J r t { U with heap:=h1 }:=j.kept (t':=U.toks) hk;refine wpAny_pyIter_enum (s:={ U with heap:=h1 }) C ?_;refine⟨U.heap.objs.size+1,[U.heap.objs.size+1,U.heap.objs.size],_,_,t,rfl,I2,yu l _ _ (Nat.succ_ne_self _),⟨⟨_,C⟩,hi⟩,λb o=>?_,q⟩;have g:U.heap.objs.size<=b:=by rcases Ao.mp o with rfl|o;exact BV _;cases Ai.mp o;exact Aj _
 exact j.fpOk g (j.hok.fresh g)
end L2
namespace L3
open PySem L2
theorem iq{keep:qr->Prop}(h:∀H L,ja H₀ H->j5 G H L->keep L->∃xs,aJ G.K H a xs/\xx G H ys xs):fe G H₀ (Ite G.K a) (ys.zipIdx.map λp=>Y.tup [.int (p.2:Nat),p.1]) keep where
 go:=λi H L t J U C=>by
  obtain⟨xs,sq,r⟩:=h H L t J U;have:i<xs.length:=by rw[<-r.length];simpa using C
  exact⟨xs,xs[i],sq,Af this⟩
 yld:=λi H L x H' y t J U o ⟨p,z,g,I,T,f⟩=>by subst I T;obtain⟨xs,sq,r⟩:=h H L t J U;rw[An,List.getElem?_zipIdx] at o;obtain⟨⟨y',j⟩,ey,e3⟩:=Ap.mp o;obtain⟨a1,l,e4⟩:=Ap.mp ey;cases e4;subst e3;obtain⟨x',e',rv⟩:=r.get l;have:=f xs sq;rw[e'] at this;cases this;refine⟨DV g,J.skip g,p,_,rfl,cB.of zg,⟨_,_,rfl,?_,_,_,rfl,rv.ts (DV g),rfl⟩⟩;show V.int _=V.int _;congr 1;simp
 stop:=λH L t J U=>by obtain⟨xs,sq,r⟩:=h H L t J U;exact⟨xs,sq,by rw[Ab,List.length_zipIdx,r.length];exact Aj _⟩
def oD(ys:List Y):List Y:=ys.zipIdx.map λp=>Y.tup [.int (p.2:Nat),p.1]
theorem gn(h:(oD ys)[i]?=some y):∃z,ys[i]?=some z/\y=.tup [.int i,z]:=by unfold oD at h;rw[An,List.getElem?_zipIdx] at h;obtain⟨⟨U,j⟩,g,l⟩:=Ap.mp h;obtain⟨o,J,p⟩:=Ap.mp g;cases p;exact⟨U,J,by rw[<-l];simp⟩
theorem iG(ys:List Y):(oD ys).length=ys.length:=by simp[oD]
def i4(tl:xp)(τ:jo)(L:qr)(R:List Y->(qr->Prop)->qr->Prop):Prop:=tl τ L λx L1=>match x with
 |.ref a=>rD L1 a λys keep L=>R (oD ys) keep L
 |.sq ys=>R (oD ys) (λ_=>True) L1
 |_=>False
theorem jV{a:Expr}(hg:Gl X "enumerate")(hm:X.mg "enumerate"=none)(ha:QE X a te)(hs:starEach [a] X.env=[(false,eval a X.env)]:=by rfl)
 (l:starEach [a] X.env=(false,eval a X.env)::starEach [] X.env:=by rfl):QI X (.Tuple oi x1 tp) (.Call (.Name "enumerate" p) [a] [] pos) (i4 te):=PI.imq (ahg hg hm (wn ha dD l) hs) λσ H R τ L R3 rs o z k=>by
 refine⟨τ,L,_,rs,o,z,λv j y C T J g I=>?_⟩;cases y with
 |ref a=>
  obtain⟨ys,keep,es,kp,hk,z2⟩:=mM I;have hy:∀H L,ja j H->j5 X.g3 H L->keep L->∃U,aJ X.K H a U/\xx X.g3 H ys U:=λH L _ o e=>cH o (hk L e);obtain⟨U,sq,_⟩:=hy j C (DS _) J kp;cases g;exact⟨a,rfl,⟨U,sq⟩,k _ j _ _ C T J (iq hy) z2⟩
 |sq ys=>
  obtain⟨a,U,e,sf,r⟩:=g;subst e;exact⟨a,rfl,⟨U,sf.sq⟩,k _ j _ (λ_=>True) C T J (iq λH L t _ _=>⟨U,(sf.ts t).sq,r.ts t⟩) I⟩
 |_=>exact I.elim
end L3
namespace L2
open PySem PySem.Spec PyProof.Rows
def dG(t:Bool)(h:Heap)(it l:Addr)(k:Nat):Prop:=match t with
 |false=>h.IsListIter it l k
 |true=>h.IsTupleIter it l k
def hE(t:Bool)(h:Heap)(l:Addr)(xs:Array Value):Prop:=match t with
 |false=>h.IsList l xs
 |true=>h.IsTuple l xs
theorem dG.on{k:Nat}(x:dG t h it l k)(e:∀o,h.get? it=some o->h'.get? it=some o):dG t h' it l k:=by cases t with|false=>exact Heap.IsListIter.at x e|true=>exact Heap.IsTupleIter.at x e
theorem hE.on{xs:Array Value}(x:hE t h l xs)(e:∀o,h.get? l=some o->h'.get? l=some o):hE t h' l xs:=by cases t with|false=>exact Heap.IsList.at x e|true=>exact Heap.IsTuple.at x e
theorem dG.ob{k:Nat}(x:dG t h it l k):∃o,h.get? it=some o/\∀v,o.data≠.cell v:=by
 cases t with
 |false=>obtain⟨o,e,c,d⟩:=x;exact⟨o,e,λv z=>by rw[d] at z;cases z⟩
 |true=>obtain⟨o,e,c,d⟩:=x;exact⟨o,e,λv z=>by rw[d] at z;cases z⟩
theorem wA(l:Addr):¬((Value.ref l==Value.none)=true):=Ay
section
variable {w:World}
theorem vK{xs:Array Value}{x:Value}(hi:s.heap.IsTupleIter it l i)(g:s.heap.IsTuple l xs)(j:xs[i]?=some x)
 (q:∀h',h'.IsTupleIter it l (i+1)->Heap.SameBut it s.heap h'->Q x { s with heap:=h' }):wpAny (model prog w) A (Builtin.SmallTypes.nextOf (.ref it)) Q E s:=by
 obtain⟨o,U,ci,J⟩:=id hi;obtain⟨u,ul,_,n,dl⟩:=g;unfold Builtin.SmallTypes.nextOf;refine Aa (wpAny_callSpecial?_slot (name:="__next__") hi.typeIs Ei (wpAny_call_entry Ei hi.typeIs F.entry_tuple_iterator_next ?_ (F.args_tuple_iterator_next_1 _)));refine Aa (m:=field (.ref it) 0) (AQ U J (x:=.ref l) rfl ?_);rw[AC (wA l)];refine Aa (m:=field (.ref it) 1) (AQ U J (x:=.int i 0) rfl (Aa (m:=seqItems? (.ref l)) (Bd ul dl ?_)));simp only[AZ,j];refine Aa (wpAny_setField U J (by simp) (Ag ⟨x,rfl,Ag (q _ ⟨_,Eh _ U (Obj.isFreed_of_fields (Obj.data_mapFields J _)),(Obj.cls_mapFields ..).trans ci,?_⟩ (Eg ..))⟩));rw[Obj.data_mapFields J];simp[rawInt]
theorem zW{xs:Array Value}(g:A.handled=none)(hi:s.heap.IsTupleIter it l i)(j:s.heap.IsTuple l xs)(p:xs[i]?=none)
 (q:∀h' e,Heap.ExtBut it s.heap h'->(∃o,h'.get? e=some o/\o.cls=.type "StopIteration")->E (.ref e) { s with heap:=h' }):wpAny (model prog w) A (Builtin.SmallTypes.nextOf (.ref it)) Q E s:=by
 obtain⟨o,J,ci,U⟩:=id hi;obtain⟨u,ul,_,n,dl⟩:=j;unfold Builtin.SmallTypes.nextOf;refine Aa (wpAny_callSpecial?_slot (name:="__next__") hi.typeIs Ei (wpAny_call_entry Ei hi.typeIs F.entry_tuple_iterator_next ?_ (F.args_tuple_iterator_next_1 _)));refine Aa (m:=field (.ref it) 0) (AQ J U (x:=.ref l) rfl ?_);rw[AC (wA l)];refine Aa (m:=field (.ref it) 1) (AQ J U (x:=.int i 0) rfl (Aa (m:=seqItems? (.ref l)) (Bd ul dl ?_)));simp only[AZ,p];refine Aa (BB (Aa (wpAny_setField J U (by simp) ?_)));refine Aa (m:=newExc (.type "StopIteration") []) ?_;simp only[newExc,newTuple];refine Aa (Bl (Aa (m:=firstArgMember _ _) (wpAny_of_eq (a:=Value.none) (by first|rfl|(simp only[firstArgMember];rfl)) (Bl ?_ (by size_fits)))) (by size_fits));simp only[raiseNew];refine Aa (wpAny_handled ?_)
 first|rw[show A.in1.handled=none from g]|rw[g]
 exact Aa (Ag (wpAny_throw (q _ _ (((Eg ..).extBut.push _).push _) ⟨_,Db _ rfl,rfl⟩)))
theorem dG.next{xs:Array Value}{x:Value}(hi:dG t s.heap it l i)(J:hE t s.heap l xs)(U:xs[i]?=some x)
 (q:∀h',dG t h' it l (i+1)->Heap.SameBut it s.heap h'->Q x { s with heap:=h' }):wpAny (model prog w) A (Builtin.SmallTypes.nextOf (.ref it)) Q E s:=by
 cases t with|false=>exact wpAny_nextOf_list_item hi J U q|true=>exact vK hi J U q
theorem dG.stop{xs:Array Value}(J:A.handled=none)(hi:dG t s.heap it l i)(U:hE t s.heap l xs)(g:xs[i]?=none)
 (q:∀h' e,Heap.ExtBut it s.heap h'->(∃o,h'.get? e=some o/\o.cls=.type "StopIteration")->E (.ref e) { s with heap:=h' }):wpAny (model prog w) A (Builtin.SmallTypes.nextOf (.ref it)) Q E s:=by
 cases t with|false=>exact wpAny_nextOf_list_end J hi U g q|true=>exact zW J hi U g q
structure ZAp(z TI TO i1 i2 l1 l2:Addr):Prop where
 n1:TI≠z
 n2:TO≠z
 n3:i1≠z
 n4:i2≠z
 n5:TO≠i1
 n6:TO≠i2
 n7:i1≠i2
 n8:l1≠z
 n9:l1≠TO
 n10:l1≠i1
 n11:l1≠i2
 n12:l2≠z
 n13:l2≠TO
 n14:l2≠i1
 n15:l2≠i2
theorem acf{TI TO:Addr}{k:Nat}{xs ys:Array Value}{x y a b:Value}(D:ZAp z TI TO i1 i2 l1 l2)(hz:IsZip s.heap z TI TO .none)(hI:IsPair s.heap TI (.ref i1) (.ref i2))(hO:IsPair s.heap TO a b)
 (h1:dG t1 s.heap i1 l1 k) (h2:dG t2 s.heap i2 l2 k) (q1:hE t1 s.heap l1 xs) (q2:hE t2 s.heap l2 ys) (hx:xs[k]?=some x) (hy:ys[k]?=some y)
 (q:∀h',IsZip h' z TI TO (rawInt s.heap.objs.size)->IsPair h' TO x y->dG t1 h' i1 l1 (k+1)->dG t2 h' i2 l2 (k+1)->IsPair h' s.heap.objs.size x y->
  (∀c o,c≠z->c≠TO->c≠i1->c≠i2->s.heap.get? c=some o->h'.get? c=some o)->Q (.ref s.heap.objs.size) { s with heap:=h' }):
 wpAny (model prog w) A (Builtin.«zip.__next__» ⟨[.ref z],[]⟩) (λjw s'=>∃v,jw=.done (.ret v)/\Q v s') E s:=by
 refine Aa (m:=field (.ref z) 2) (AQ hz rfl (x:=.bool false) rfl (Aa (m:=field (.ref z) 3) (AQ hz rfl (x:=.ref TI) rfl (Aa (Bd hI rfl ?_)))));refine Aa (m:=Builtin.SmallTypes.ownedTupleIsFree (.ref z)) ?_;unfold Builtin.SmallTypes.ownedTupleIsFree;refine Aa (AQ hz rfl (x:=.none) rfl (Ag ?_));simp only[if_true];refine Aa (BB (Aa (AQ hz rfl (x:=.ref TO) rfl (Aa (wpAny_setField_rec hz (by simp) λg1 z1 U=>?_)))));have a5:IsZip g1 z TI TO .ellipsis:=z1;refine Aa ?_;simp only[List.zipIdx_cons,List.zipIdx_nil,BS,CS];refine Aa (Aa (wpAny_onRaise (Aa (m:=Builtin.SmallTypes.nextOf (.ref i1)) ((h1.on λo e=>U.extBut _ _ D.n3 e).next (q1.on λo e=>U.extBut _ _ D.n8 e) hx λg2 ag j=>Ag ?_))));have O2:IsPair g2 TO a b:=j.extBut _ _ D.n5 (U.extBut _ _ D.n2 hO);refine Aa (Bd O2 rfl (Aa (wpAny_updateSeq_pair O2 λg3 O3 p=>Aa (wpAny_letGo (Ag ?_)))));have al:IsPair g3 TO x b:=O3;refine Aa (Aa (wpAny_onRaise (Aa (m:=Builtin.SmallTypes.nextOf (.ref i2)) (dG.next (l:=l2) (i:=k) (xs:=ys) (x:=y) (t:=t2) (h2.on λo e=>p.extBut _ _ (AF D.n6) (j.extBut _ _ (AF D.n7) (U.extBut _ _ D.n4 e)))
  (q2.on λo e=>p.extBut _ _ D.n13 (j.extBut _ _ D.n14 (U.extBut _ _ D.n12 e))) hy λg4 au r=>Ag ?_))))
 have O4:IsPair g4 TO x b:=r.extBut _ _ D.n6 al;refine Aa (Bd O4 rfl (Aa (wpAny_updateSeq_pair O4 λJ O5 C=>Aa (wpAny_letGo (Ag (Ag ?_))))));have I:IsPair J TO x y:=O5;refine Aa (Bd I rfl (Aa (wpAny_newTuple ?_)));have sz:J.objs.size=s.heap.objs.size:=by rw[C.1,r.1,p.1,j.1,U.1]
 have z5:IsZip J z TI TO .ellipsis:=C.extBut _ _ (AF D.n2) (r.extBut _ _ (AF D.n4) (p.extBut _ _ (AF D.n2) (j.extBut _ _ (AF D.n3) a5)));have k5:∀c o,c≠z->c≠TO->c≠i1->c≠i2->s.heap.get? c=some o->J.get? c=some o:=λc o g T a3 a4 e=>C.extBut _ _ T (r.extBut _ _ a4 (p.extBut _ _ T (j.extBut _ _ a3 (U.extBut _ _ g e))));have zl:z<J.objs.size:=At z5;refine Aa (m:=Builtin.SmallTypes.ownedTupleHandOut (.ref z) (.ref J.objs.size)) ?_;unfold Builtin.SmallTypes.ownedTupleHandOut;refine Aa (wpAny_setField_rec (show IsZip (J.push { cls:=.type "tuple",data:=.seq #[x,y] }) z TI TO .ellipsis from As _ z5) (by simp) λg7 z7 e7=>?_);have av:IsZip g7 z TI TO (rawInt J.objs.size):=z7;refine wpAny_setField_rec av (by simp) λg8 z8 e8=>Ag ⟨_,rfl,?_⟩;have aL:IsZip g8 z TI TO (rawInt J.objs.size):=z8;have up:∀c o,c≠z->J.get? c=some o->g8.get? c=some o:=λc o g e=>e8.extBut _ _ g (e7.extBut _ _ g (As _ e));have T8:IsPair g8 J.objs.size x y:=e8.extBut _ _ (CP zl) (e7.extBut _ _ (CP zl) (Db _ rfl));have jw:=q g8 (by rw[<-sz];exact aL) (up _ _ D.n2 I) (ag.on λo e=>up _ o D.n3 (C.extBut _ _ (AF D.n5) (r.extBut _ _ D.n7 (p.extBut _ _ (AF D.n5) e)))) (au.on λo e=>up _ o D.n4 (C.extBut _ _ (AF D.n6) e))
  (by rw[<-sz];exact T8) λc o g T a3 a4 e=>up c o g (k5 c o g T a3 a4 e)
 show Q (.ref J.objs.size) _;rw[sz];exact jw
theorem acm{TI TO:Addr}{k:Nat}{xs ys:Array Value}{a b:Value}{Q:Fin->Shared->Prop}(hh:A.handled=none)(D:ZAp z TI TO i1 i2 l1 l2)(hz:IsZip s.heap z TI TO .none)(hI:IsPair s.heap TI (.ref i1) (.ref i2))(hO:IsPair s.heap TO a b)
 (h1:dG t1 s.heap i1 l1 k) (h2:dG t2 s.heap i2 l2 k) (q1:hE t1 s.heap l1 xs) (q2:hE t2 s.heap l2 ys) (U:xs[k]?=none\/ys[k]?=none)
 (q:∀h' e,(∀c o,c≠z->c≠TO->c≠i1->c≠i2->s.heap.get? c=some o->h'.get? c=some o)->(∃o,h'.get? e=some o/\o.cls=.type "StopIteration")->E (.ref e) { s with heap:=h' }):
 wpAny (model prog w) A (Builtin.«zip.__next__» ⟨[.ref z],[]⟩) Q E s:=by
 refine Aa (m:=field (.ref z) 2) (AQ hz rfl (x:=.bool false) rfl (Aa (m:=field (.ref z) 3) (AQ hz rfl (x:=.ref TI) rfl (Aa (Bd hI rfl ?_)))));refine Aa (m:=Builtin.SmallTypes.ownedTupleIsFree (.ref z)) ?_;unfold Builtin.SmallTypes.ownedTupleIsFree;refine Aa (AQ hz rfl (x:=.none) rfl (Ag ?_));simp only[if_true];refine Aa (BB (Aa (AQ hz rfl (x:=.ref TO) rfl (Aa (wpAny_setField_rec hz (by simp) λg1 z1 J=>?_)))));have g:IsZip g1 z TI TO .ellipsis:=z1;refine Aa ?_;simp only[List.zipIdx_cons,List.zipIdx_nil,BS,CS];refine Aa (Aa (wpAny_onRaise (Aa (m:=Builtin.SmallTypes.nextOf (.ref i1)) ?_)));have j:=h1.on λo e=>J.extBut _ _ D.n3 e;have p:=q1.on λo e=>J.extBut _ _ D.n8 e;cases T:xs[k]? with
 |none=>
  refine dG.stop hh j p T λg2 e s2 he=>?_;obtain⟨oe,ge,ce⟩:=he;have z2:IsZip g2 z TI TO .ellipsis:=s2 _ _ (AF D.n3) g;have nz:e≠z:=λw=>by subst w;rw[z2] at ge;cases ge;simp at ce
  exact wpAny_setField_rec z2 (by simp) λg3 _ s3=>q g3 e (λc o r _ a3 _ w=>s3.extBut _ _ r (s2 _ _ a3 (J.extBut _ _ r w))) ⟨oe,s3.extBut _ _ nz ge,ce⟩
 |some x=>
  have hy:ys[k]?=none:=by rcases U with h|h;rw[T] at h;cases h;exact h
  refine dG.next j p T λg2 a5 C=>Ag ?_;have O2:IsPair g2 TO a b:=C.extBut _ _ D.n5 (J.extBut _ _ D.n2 hO);refine Aa (Bd O2 rfl (Aa (wpAny_updateSeq_pair O2 λg3 O3 I=>Aa (wpAny_letGo (Ag ?_)))));refine Aa (Aa (wpAny_onRaise (Aa (m:=Builtin.SmallTypes.nextOf (.ref i2)) (dG.stop (t:=t2) (l:=l2) (i:=k) (xs:=ys) hh (h2.on λo e=>I.extBut _ _ (AF D.n6) (C.extBut _ _ (AF D.n7) (J.extBut _ _ D.n4 e)))
   (q2.on λo e=>I.extBut _ _ D.n13 (C.extBut _ _ D.n14 (J.extBut _ _ D.n12 e))) hy λg4 e s4 he=>?_))))
  obtain⟨oe,ge,ce⟩:=he;have z4:IsZip g4 z TI TO .ellipsis:=s4 _ _ (AF D.n4) (I.extBut _ _ (AF D.n2) (C.extBut _ _ (AF D.n3) g));have nz:e≠z:=λw=>by subst w;rw[z4] at ge;cases ge;simp at ce
  exact wpAny_setField_rec z4 (by simp) λg5 _ s5=>q g5 e (λc o r a2 a3 a4 w=>s5.extBut _ _ r (s4 _ _ a4 (I.extBut _ _ a2 (C.extBut _ _ a3 (J.extBut _ _ r w))))) ⟨oe,s5.extBut _ _ nz ge,ce⟩
end
def adt(t:Bool):String:=if t then "tuple_iterator" else "list_iterator"
section
variable {w:World}
theorem hE.iter{xs:Array Value}(J:hE t s.heap l xs)(q:Q (.ref s.heap.objs.size) { s with heap:=s.heap.push { cls:=.type (adt t),data:=.fields #[.ref l,.int 0 0] } }):wpAny (model prog w) A (pyIter (.ref l)) Q E s:=by cases t with|false=>exact wpAny_pyIter_list J q|true=>exact wpAny_pyIter_tuple J q
end
theorem dG.new(e:h.get? it=some { cls:=.type (adt t),data:=.fields #[.ref l,.int 0 0] }):dG t h it l 0:=by cases t with|false=>exact⟨_,e,rfl,rfl⟩|true=>exact⟨_,e,rfl,rfl⟩
abbrev zh1(t1:Bool)(h:Heap)(l1:Addr):Heap:=h.push { cls:=.type (adt t1),data:=.fields #[.ref l1,.int 0 0] }
abbrev zh2(t1 t2:Bool)(h:Heap)(l1 l2:Addr):Heap:=(zh1 t1 h l1).push { cls:=.type (adt t2),data:=.fields #[.ref l2,.int 0 0] }
abbrev zh3(t1 t2:Bool)(h:Heap)(l1 l2:Addr):Heap:=(zh2 t1 t2 h l1 l2).push { cls:=.type "tuple",data:=.seq #[.ref h.objs.size,.ref (zh1 t1 h l1).objs.size] }
abbrev zh4(t1 t2:Bool)(h:Heap)(l1 l2:Addr):Heap:=(zh3 t1 t2 h l1 l2).push { cls:=.type "tuple",data:=.seq #[.none,.none] }
abbrev zh5(t1 t2:Bool)(h:Heap)(l1 l2:Addr):Heap:=(zh4 t1 t2 h l1 l2).push { cls:=.type "zip",data:=.fields #[.none,.bool false,.bool false,.ref (zh2 t1 t2 h l1 l2).objs.size,.ref (zh3 t1 t2 h l1 l2).objs.size] }
theorem tX(t1 t2:Bool)(l1 l2:Addr)(xs ys:Array Value):Meets (Builtin.«zip.__new__» ⟨[.type "zip",.ref l1,.ref l2],[]⟩) (λ_ R s=>hE t1 s.heap l1 xs/\hE t2 s.heap l2 ys/\R (.ok (.ret (.ref (zh4 t1 t2 s.heap l1 l2).objs.size))) { s with heap:=zh5 t1 t2 s.heap l1 l2 }):=
 .of_wp λJ w A R s h=>by
  obtain⟨U,g,d,tk,os⟩:=s;obtain⟨l,p,h⟩:=h;have j:=sub_zip;have r:hE t1 (Shared.heap ⟨U,g,d,tk,os⟩) l1 xs:=l;have t:hE t2 (Shared.heap ⟨U.push { cls:=.type (adt t1),data:=.fields #[.ref l1,.int 0 0] },g,d,tk,os⟩) l2 ys:=p.on λo e=>As _ e
  wp_walk using hE.iter r,hE.iter t
  exact⟨_,rfl,h⟩
theorem yt{w:World}{xs ys:Array Value}(r:hE t1 s.heap l1 xs)(t:hE t2 s.heap l2 ys)
 (q:∀h',IsZip h' (s.heap.objs.size+4) (s.heap.objs.size+2) (s.heap.objs.size+3) .none->IsPair h' (s.heap.objs.size+2) (.ref s.heap.objs.size) (.ref (s.heap.objs.size+1))->IsPair h' (s.heap.objs.size+3) .none .none->
  dG t1 h' s.heap.objs.size l1 0->dG t2 h' (s.heap.objs.size+1) l2 0->(∀c o,s.heap.get? c=some o->h'.get? c=some o)->Q (.ref (s.heap.objs.size+4)) { s with heap:=h' }):
 wpAny (model prog w) A (call (.type "zip") [.ref l1,.ref l2]) Q E s:=by
 refine callType_new F.called_zip (by decide) (F.typeCall_zip_2 _ _) (F.newCall_zip_2 _ _) (λobj=>F.args_object_init_3 obj _ _) F.entry_zip_new (tX t1 t2 l1 l2 xs ys) ⟨r,t,?_⟩;have J:(zh1 t1 s.heap l1).objs.size=s.heap.objs.size+1:=Ep ..;have U:(zh2 t1 t2 s.heap l1 l2).objs.size=s.heap.objs.size+2:=by rw[Ep,J]
 have g:(zh3 t1 t2 s.heap l1 l2).objs.size=s.heap.objs.size+3:=by rw[Ep,U]
 have l:(zh4 t1 t2 s.heap l1 l2).objs.size=s.heap.objs.size+4:=by rw[Ep,g]
 have j:(zh5 t1 t2 s.heap l1 l2).get? (zh4 t1 t2 s.heap l1 l2).objs.size=some _:=Db _ rfl;have p:(zh5 t1 t2 s.heap l1 l2).get? (zh3 t1 t2 s.heap l1 l2).objs.size=some _:=As _ (Db _ rfl);have g3:(zh5 t1 t2 s.heap l1 l2).get? (zh2 t1 t2 s.heap l1 l2).objs.size=some _:=As _ (As _ (Db _ rfl));have g2:(zh5 t1 t2 s.heap l1 l2).get? (zh1 t1 s.heap l1).objs.size=some _:=As _ (As _ (As _ (Db _ rfl)));have g1:(zh5 t1 t2 s.heap l1 l2).get? s.heap.objs.size=some _:=As _ (As _ (As _ (As _ (Db _ rfl))));show _/\_;rw[U,g,l] at j;rw[J,U] at g3;rw[g] at p;rw[J] at g2;rw[l];exact⟨⟨_,j,rfl⟩,q _ j g3 p (dG.new g1) (dG.new g2) λc o e=>As _ (As _ (As _ (As _ (As _ e))))⟩
def Sq(t:Bool)(K:Ad)(H:Hp)(a:Addr)(xs:List V):Prop:=match t with
 |false=>aJ K H a xs
 |true=>cB K H a xs
section
variable {σ:L2.St}
theorem za.seq(I:za X pins σ H s)(h:Sq t X.K H a xs):∃eH:List Value,zq xs eH/\hE t s.heap a eH.toArray/\xs.length<=sizeLine:=by
 cases t with
 |false=>obtain⟨eH,v,p,z⟩:=I.list h;exact⟨eH,v,p.isList,z⟩
 |true=>obtain⟨eH,v,p,z⟩:=I.tuple h;exact⟨eH,v,p,z⟩
end
theorem ajc:bootBuiltins "zip"=some (.type "zip"):=by decide +kernel
end L2
namespace L3
open PySem L2
theorem ac8(J:j5 G H L)(r:RV G H y v)(h:cL L y=some ys):∃t p xs,v=.ref p/\Sq t G.K H p xs/\xx G H ys xs:=by
 obtain⟨p,xs,e,s,q⟩:=mP J r h;rcases s with s|s
 ·exact⟨false,p,xs,e,s,q⟩
 ·exact⟨true,p,xs,e,s,q⟩
def kZ(xs ys:List Y):List Y:=List.zipWith (λa b=>Y.tup [a,b]) xs ys
theorem af3{xs:List Y}(h:(kZ xs ys)[i]?=some y):∃a b,xs[i]?=some a/\ys[i]?=some b/\y=.tup [a,b]:=by
 unfold kZ at h;rw[List.getElem?_zipWith] at h;cases J:xs[i]? with
 |none=>rw[J] at h;simp at h
 |some a=>
  cases U:ys[i]? with|none=>rw[J,U] at h;simp at h|some b=>rw[J,U] at h;simp at h;exact⟨a,b,rfl,rfl,h.symm⟩
theorem ac4(xs ys:List Y):(kZ xs ys).length=min xs.length ys.length:=by simp[kZ]
def ak(xs:List Y)(L:qr)(Q:YK):Prop:=match xs with
 |[x]=>fC L x λys=>∀p,L p=none->Q (.ref p) (qi L p (.lst ys))
 |_=>False
theorem az :x8 X (.type "list") (upL X.g3 ak):=x8.imq qZ λC H Q I L T g J z k=>by
 unfold ak at z;split at z
 ·rename_i x;obtain⟨u,rfl,j⟩:=g.inv1;obtain⟨zs,o,z⟩:=ko z;obtain⟨p,t,e,sq,r⟩:=mP J j o;subst e;exact⟨p,t,rfl,sq,λl U=>k _ _ _ _ (DV U) (J.newL U r) (by rfl) (z l (J.none U))⟩
 ·exact z.elim
theorem aE{T:String}{tr:eO}{r:List Y->qr->YK->Prop}(hc:x8 X (.type T) (upL X.g3 r))(g:Gl X x)(j:X.mg x=none)(l:bootBuiltins x=some (.type T))(h:QA X (e::es) tr)
 (o:x ≠ "__name__" := by decide) (hd:Ed x:=by decide) (hs:Eb e es X:=by rfl) (t:Ec pos es X:=by rfl):
 QE X (.Call (.Name x p) (e::es) [] pos) (jS r tr):=DW (hY hc g j l h o hd hs t) λσ H Q C L I rs rl z k=>
 ⟨C,L,_,rs,rl,z,λvs H1 ys L1 t1 J U z1=>⟨ys,L1,I,U,J,z1,k.ts t1⟩⟩
def cg(x:Y)(vs:List Y)(L:qr)(Q:YK):Prop:=match x,vs with
 |.ref a,[.int i]=>eJ L a λys=>0<=i/\i<ys.length/\tV L (λv L=>Q v (qi L a (.lst (ys.eraseIdx i.toNat)))) (ys[i.toNat]?)
 |_,_=>False
theorem ahd :iX X "list.pop" (upM X.g3 cg):=λJ s l H x xs v o Q I p t ⟨y,ys,L,Q3,C,T,j,z,k⟩=>by
 unfold cg at z;split at z
 ·rename_i a i;obtain⟨zs,e,h0,h1,z⟩:=vo z;obtain⟨ws,U,r⟩:=j a _ e;obtain⟨i',rfl,ri⟩:=T.inv1;cases ri;cases g:zs[i.toNat]? with
  |none=>rw[g] at z;exact z.elim
  |some w=>
   rw[g] at z;obtain⟨u,eu,ru⟩:=r.get g;obtain⟨_,_,_,hz⟩:=I.list (aJ.of U);have hl:=r.length;have hs:sizeLine<2 ^ 62:=by decide
   refine acx J s l H x _ v o Q I p t ⟨a,ws,i,i.toNat,u,C,rfl,U,by lia,by lia,?_,eu,k _ _ _ _ (EH U) (j.setL U (r.eraseIdx _)) (ru.ts (EH U)) z⟩;unfold seqIndex?;rw[AC (show ¬i<0 by lia),AB (by simp;lia)]
 ·exact z.elim
theorem cM{tr:eO}(J:QE X o to)(U:QA X (e::es) tr)(g:attributeBase o "pop" X.env (eval o X.env)=eval o X.env:=by rfl)
 (j:((backTo eW (starEach (e::es) X.env)).all (λx=>!x.1)&&(backToKw eW (keywordEach [] X.env)).all (λx=>x.1.isSome)&&decide ((e::es).length+([]:List Keyword).length+(if ([]:List Keyword).isEmpty=true then 0 else 1)<30))=true:=by rfl)
 (l:(apos.endLine==eW.line)=true:=by rfl) (p:Eb e es X:=by rfl) (r:Ec eW es X:=by rfl):
 QE X (.Call (.Attribute o "pop" apos) (e::es) [] eW) (af cg to tr):=qK PySem.F.slot_list_pop PySem.F.type_list_pop ahd J U g j l p r
end L3
namespace L2
open PySem PySem.Spec PyProof.Rows
theorem sK(i:Int)(n d:Nat):max 0 (min (if i<0 then i+(n:Int) else i) n)=((HT.sIx n d (some i):Nat):Int):=by
 simp only[HT.sIx];by_cases h:i<0
 ·simp only[h,if_true]<;>lia
 ·simp only[h,if_false]<;>lia
theorem xE(l u:Option Int)(n:Nat):Builtin.Str.strSliceIndices l u 1 n=(List.range (HT.sIx n n u-HT.sIx n 0 l)).map (HT.sIx n 0 l+·):=by
 have z:(0:Int)=((HT.sIx n 0 none:Nat):Int):=rfl;have y:(n:Int)=((HT.sIx n n none:Nat):Int):=rfl;unfold Builtin.Str.strSliceIndices;cases l with
 |none=>
  cases u with
  |none=>exact sliceRange_one 0 n
  |some j=>
   show sliceRange 0 (max 0 (min (if j<0 then j+(n:Int) else j) n)) 1=_;rw[sK j n n];exact sliceRange_one 0 _
 |some i=>
  cases u with
  |none=>
   show sliceRange (max 0 (min (if i<0 then i+(n:Int) else i) n)) n 1=_;rw[sK i n 0];exact sliceRange_one _ n
  |some j=>
   show sliceRange (max 0 (min (if i<0 then i+(n:Int) else i) n)) (max 0 (min (if j<0 then j+(n:Int) else j) n)) 1=_;rw[sK i n 0,sK j n n];exact sliceRange_one _ _
theorem oj(x:Str)(l u:Option Int):(Txt.slice x l u).cps.toList=(x.cps.toList.drop (HT.sIx x.length 0 l)).take (HT.sIx x.length x.length u-HT.sIx x.length 0 l):=by
 have g:x.length=x.cps.toList.length:=by simp[Str.length]
 have J:=pick_run x.cps (HT.sIx x.length 0 l) (HT.sIx x.length x.length u-HT.sIx x.length 0 l);unfold Txt.slice;rw[xE];split
 ·rename_i h;simp only[beq_self_eq_true,Bool.true_and,Ab,BG,beq_iff_eq] at h;have h1:=HT.sIx_le x.length 0 (Bf _) l;have h2:=HT.sIx_le x.length x.length (Aj _) u;have U:HT.sIx x.length 0 l=0:=by lia
  rw[h,U,Dj,Bq (by exact yz)]
 ·show(List.filterMap (λi=>x.cps[i]?) _).toArray.toList=_;rw[List.toList_toArray];exact J
def as3:V->Option Int->Option Int->Hp->VK->Prop:=λx lo hi H Q=>∃z,x=.str z/\z.length<=sizeLine/\Q (.str (Txt.slice z lo hi)) H
theorem al7:rG X as3:=by
 intro J s σ H x v U g lo j sl Q I o p pl r h;obtain⟨z,rfl,C,q⟩:=h;obtain⟨t,rfl⟩:=o;obtain⟨l,rfl,T⟩:∃l:Option (Int×Tok),U=partValue l/\l.map (·.1)=lo:=by cases pl with|none=>exact⟨none,rfl,rfl⟩|int i t=>exact⟨some (i,t),rfl,rfl⟩
 obtain⟨u,rfl,hu⟩:∃u:Option (Int×Tok),g=partValue u/\u.map (·.1)=j:=by cases r with|none=>exact⟨none,rfl,rfl⟩|int i t=>exact⟨some (i,t),rfl,rfl⟩
 subst T hu;refine⟨"str",_,F.slot_str_getitem.lookup,typeIs_str _ _ _,x4 I.tk (wpAny_getItem_str_slice (l:=l) (u:=u) (st:=none) p rfl ?_)⟩;exact post_val_or_str ⟨AM (Txt.slice_le z _ _) C,λt' k ht=>⟨.str _,H,I.tok _,⟨t',rfl⟩,q⟩⟩
theorem uS{zs:List Str}:∀{us:List Value},zq (zs.map V.str) us->StrsAre us zs:=by
 induction zs with
 |nil=>intro us r;rw[CQ] at r;cases r;exact .nil
 |cons z zs J=>
  intro us r;rw[AK] at r;cases r with
  |cons U g=>
   obtain⟨t,e⟩:=U;subst e;exact .cons z t (J g)
def ap4(K:Ad):V->List V->Hp->VK->Prop:=λx vs H Q=>∃z a zs,x=.str z/\vs=[.ref a]/\aJ K H a ((zs:List Str).map V.str)/\(zs.map (·.length)).sum+zs.length*z.length<=16777216/\Q (.str (Txt.join z zs)) H
theorem aew:iX X "str.join" (ap4 X.K):=by intro J s σ H x vs v us Q I U g h;obtain⟨z,a,zs,rfl,rfl,j,l,q⟩:=h;obtain⟨t,rfl⟩:=U;obtain⟨u,rfl,o⟩:=g.one;cases o;obtain⟨C,r,p,_⟩:=I.list j;exact x4 I.tk (PyProof.Rows.join_list p.isList (by simpa using uS r) l λT k ht=>⟨.str _,H,I.tok _,⟨T,rfl⟩,q⟩)
end L2
namespace L3
open PySem L2
def yN(x:Y)(lo hi:Option Int)(L:qr)(Q:YK):Prop:=match x with
 |.str z=>z.length<=sizeLine/\Q (.str (Txt.slice z lo hi)) L
 |x=>anl x lo hi L Q
theorem r9(K:Ad)(P:Program)(w:World)(g:X.K=K:=by rfl)(j:X.prog=P:=by rfl)(hw:X.w=w:=by rfl):rG X (aey ⟨K,P,w⟩ yN):=by refine rG.imp (al7.or (aoo K P w g j hw)) λx lo o H Q ⟨y,L,l,J,U,z,k⟩=>?_;cases y with|str s=>exact .inl ⟨s,J,z.1,k _ H _ L (DS _) U (by rfl) z.2⟩|_=>exact .inr ⟨_,L,l,J,U,z,k⟩
def yBS(r:Y->List Y->qr->YK->Prop)(to:xp)(t:eO)(τ:jo)(L:qr)(Q:YK):Prop:=to τ L λx L1=>match x with
 |.str z=>t τ L1 λxs L2=>r (.str z) xs L2 Q
 |_=>False
theorem am1{tr:eO}{id:String}{r:Y->List Y->qr->YK->Prop}(h2:Slot "str" name id)(h3:typeOf (.builtin id)=pure (.type "method_descriptor"))(I:iX X id (upM X.g3 r))(T:QE X o to)(ha:QA X (e::es) tr)
 (h4:attributeBase o name X.env (eval o X.env)=eval o X.env:=by rfl)
 (h5:((backTo eW (starEach (e::es) X.env)).all (λx=>!x.1)&&(backToKw eW (keywordEach [] X.env)).all (λx=>x.1.isSome)&&decide ((e::es).length+([]:List Keyword).length+(if ([]:List Keyword).isEmpty=true then 0 else 1)<30))=true:=by rfl)
 (h6:(apos.endLine==eW.line)=true:=by rfl) (h7:Eb e es X:=by rfl) (h8:Ec eW es X:=by rfl):
 QE X (.Call (.Attribute o name apos) (e::es) [] eW) (yBS r to tr):=DW (ain PySem.F.plainAttrs_str h2 h3 I T ha h4 h5 h6 h7 h8) λσ H Q p L Q3 t rl z k=>
 ⟨p,L,_,t,rl,z,λv H1 y L1 C J U g=>by
  split at g
  ·rename_i s;cases U;exact⟨rfl,p,L1,_,t.ts C,J,g,λvs H2 ys L2 t2 j l z2=>⟨.str s,ys,L2,Q3,rfl,l,j,z2,k.ts (C.trans t2)⟩⟩
  ·exact g.elim⟩
theorem sY{G:G3}{H:Hp}:∀{zs:List Str} {xs:List V},xx G H (zs.map Y.str) xs->xs=zs.map V.str
 |[],_,h=>h
 |z::r,_,⟨x,J,e,q,s⟩=>by rw[e,show x=V.str z from q,sY s];rfl
def vN(x:Y)(vs:List Y)(L:qr)(Q:YK):Prop:=match x,vs with
 |.str z,[.ref a]=>eJ L a λys=>∃zs,ys=zs.map Y.str/\(zs.map (·.length)).sum+zs.length*z.length<=16777216/\Q (.str (Txt.join z zs)) L
 |_,_=>False
theorem aj0 :iX X "str.join" (upM X.g3 vN):=iX.imq aew λx t H Q y C L I g j J z k=>by
 unfold vN at z;split at z
 ·rename_i s a;obtain⟨T,e,l,rfl,o,z⟩:=vo z;obtain⟨ws,U,r⟩:=J a _ e;obtain⟨u,rfl,p⟩:=j.inv1;cases p;rw[sY r] at U;exact⟨s,a,l,g,rfl,aJ.of U,o,k _ H _ L (DS _) J (by rfl) z⟩
 ·exact z.elim
theorem ahl{tr:eO}(J:QE X o to)(U:QA X (e::es) tr)(g:attributeBase o "join" X.env (eval o X.env)=eval o X.env:=by rfl)
 (j:((backTo eW (starEach (e::es) X.env)).all (λx=>!x.1)&&(backToKw eW (keywordEach [] X.env)).all (λx=>x.1.isSome)&&decide ((e::es).length+([]:List Keyword).length+(if ([]:List Keyword).isEmpty=true then 0 else 1)<30))=true:=by rfl)
 (l:(apos.endLine==eW.line)=true:=by rfl) (p:Eb e es X:=by rfl) (r:Ec eW es X:=by rfl):
 QE X (.Call (.Attribute o "join" apos) (e::es) [] eW) (yBS vN to tr):=am1 PySem.F.slot_str_join PySem.F.type_str_join aj0 J U g j l p r
theorem pQ(zs:List Str):(Txt.join "" zs).cps.toList=zs.flatMap λz=>z.cps.toList:=by
 have e:∀zs:List Str,(Str.join "" zs).cps.toList=zs.flatMap λz=>z.cps.toList:=by
  intro zs
  induction zs with
  |nil=>rfl
  |cons z r J=>
   cases r with
   |nil=>simp[Str.join]
   |cons y r=>
    show(z ++ "" ++ Str.join "" (y::r)).cps.toList=_;have:(z ++ "" ++ Str.join "" (y::r)).cps=z.cps++#[]++(Str.join "" (y::r)).cps:=rfl;rw[this];simp only[C9,J,AS,Array.append_empty]
 exact(Bt (λx:Str=>x.cps.toList) (StrLaws.glued_eq_join "" zs)).trans (e zs)
def dE(t u:vt)(D:vq)(τ:jo)(L:qr):Prop:=∃J:jo->qr->Prop,t { D with nx:=J } τ L/\∀U L',J U L'->u D U L'
theorem kz{rest:List Stmt}{t u:vt}(h:QS X st t)(k:oa X rest u):oa X (st::rest) (dE t u):=fN.imp (rg h k) λD σ H ⟨o,L,D3,p,r,⟨J,z,q⟩,k⟩=>
 ⟨o,L,{ D3 with nx:=J },p,r,z,λC H1 U l I g j T=>⟨U,l,D3,g,j,q U l T,k.ts I⟩,k.rt,k.bk,k.ct⟩
abbrev X3:=jo->Addr->qr->Prop
abbrev dO:=List Y->qr->YK->(Addr->qr->Prop)->Prop
def upX(G:G3)(E3:X3):X1:=λσ c H=>∃C τ L,c=.ref C/\xw G H σ τ/\j5 G H L/\E3 τ C L
def amp(G:G3)(H:Hp)(E3:Addr->qr->Prop)(E:XK):Prop:=∀C H' L',ja H H'->j5 G H' L'->E3 C L'->E (.ref C) none H'
def dnX(G:G3)(sp:dO):Sp:=λvs H Q E=>∃ys L J E3,xx G H ys vs/\j5 G H L/\sp ys L J E3/\rF G H J Q/\amp G H E3 E
def sN(E3:Addr->qr->Prop):X3:=λ_ C L=>∃L2,qg L2 L/\E3 C L2
abbrev ams(P:Program)(w:World)(K:Ad)(mg:Str->Option Value)(base:Heap)(k:Nat)(f:Addr)(fd:FuncData)(ps:List Str)(sp:dO):Prop:=bA P w K mg base (CXE P w) k f fd ps (dnX ⟨K,P,w⟩ sp)
structure fK(P:Program)(w:World)(K:Ad)(mg:Str->Option Value)(base:Heap)(k:Nat)(x:Str)(ps:List Str)(sp:dO):Prop where
 ex:∃f fd,ams P w K mg base k f fd ps sp/\dM K fd ps []/\PySem.W.keepIn K (.ref f)=true/\mg x=some (.ref f)
theorem fK.mono{P:Program}{w:World}{K:Ad}{k:Nat}{sp:dO}(c:fK P w K mg base j x ps sp)(h:j<=k):fK P w K mg base k x ps sp:=by obtain⟨f,fd,F,b,J,m⟩:=c.ex;exact⟨f,fd,F.mono h,b,J,m⟩
theorem za.tst{σ:L2.St}(I:za X pins σ H s):ja X.H₀ H:=λa u i e=>by cases u with|tup J=>exact I.base.tups a J e|frz o u=>exact I.base.frzs a o u e|_=>cases i
theorem ak6{P:Program}{w:World}{K:Ad}{N:List Str}{E:XK}{E3:Addr->qr->Prop}(h:amp ⟨K,P,w⟩ H E3 E):
 a6 (cn (CXE P w) P w K mg base N eK scope f cd A outer s H E) (upX ⟨K,P,w⟩ (sN E3)):=by
 intro J j g l a C tr I L ap U ⟨t,T,L',o,rs,p,L2,r,q⟩;cases o;exact abx J j g l a C tr I L ap U (h C g L2 (za.tst I) (p.sub r) q)
def cX(sp:dO)(E3:X3)(t:eO)(τ:jo)(L:qr)(Q:YK):Prop:=t τ L λys L1=>sp ys L1 Q (E3 τ)
def u4(C:Addr)(E3:X3)(t:eO)(_:vq)(τ:jo)(L:qr):Prop:=t τ L λys L1=>ys.length<=1000/\E3 τ C L1
section
variable {tr:eO}{E3:X3}
theorem vS{k:Nat}{sp:dO}(c:fK X.prog X.w X.K X.mg X.base k x ps sp)(I:wb k X.A)(T:Gl X x)(ht:a6 X (upX X.g3 E3))(hx:X.ex=[])(ha:QA X (e::es) tr)(J:Ed x:=by decide)
 (he:Eb e es X:=by rfl) (U:Ec pos es X:=by rfl):QE X (.Call (.Name x p) (e::es) [] pos) (cX sp E3 tr):=by
 obtain⟨f,fd,F,b,kp,m⟩:=c.ex;refine DW (mQ F I T m kp b ht hx ha J he U) λσ H Q g L Q3 r rl z k=>?_;exact⟨g,L,_,r,rl,z,λvs H1 ys L1 t j l z1=>⟨ys,L1,Q3,E3 g,l,j,z1,k.ts t,λC H' L' t' o q=>⟨C,g,L',rfl,r.ts (t.trans t'),o,q⟩⟩⟩
theorem tF(c:aao X.K C)(p:Gl X x)(r:X.mg x=some (.ref C))(hc:X.calm=true)(t:a6 X (upX X.g3 E3))(I:X.ex=[])(T:QA X (e::es) tr)(J:Ed x:=by decide)
 (he:Eb e es X:=by rfl) (U:Ec eW es X:=by rfl):
 QS X (.Raise (some (.Call (.Name x np) (e::es) [] eW)) none pos) (u4 C E3 tr):=ED (abo c p r hc t I T J he U) λD σ H l L D3 o rl z k=>
 ⟨l,L,_,o,rl,z,λvs H1 ys L1 t1 g j ⟨hl,z1⟩=>⟨small (by rw[<-j.length];exact hl),C,l,L1,rfl,o.ts t1,g,z1⟩⟩
end
theorem asa{P:Program}{w:World}{K:Ad}{N:List Str}{k:Nat}{sp:dO}{t:X3->vt}(F:Fun K x eK st f fd)(S:aG N ps (qy st))(len:∀ys L Q E,sp ys L Q E->ys.length=ps.length)
 (J:∀(fm:Value) (A:Around) (outer:List Env) (s:Shared) (H:Hp) (E:XK) (E3:X3),wb k (A.deeper (PyProof.Rows.envOfC eK (qy st) s.heap.objs.size f fm))->
  a6 (cn (CXE P w) P w K mg base N eK (qy st) f fm A outer s H E) (upX ⟨K,P,w⟩ E3)->oa (cn (CXE P w) P w K mg base N eK (qy st) f fm A outer s H E) (jh st) (t E3))
 (vc:∀ys L Q E,sp ys L Q E->t (sN E) { nx:=λ_ L'=>bQ Q .non L',rt:=bQ Q } (eU N ys) L):ams P w K mg base (k+1) f fd ps sp:=by
 obtain⟨oc,od,kV,a1,pm,an,fm,ct,a2,rfl,lk,g⟩:=F.ex;refine aby lk g S (λvs H Q E ⟨ys,L,j,E3,l,T,z,_⟩=>by rw[<-l.length];exact len ys L j E3 z) λA outer s H vs Q E hr ⟨ys,L,j,E3,l,T,z,k,kx⟩=>?_;refine⟨_,J fm A outer s H E (sN E3) hr (ak6 kx),eU N ys,L,_,iA l,T,vc ys L j E3 z,?_⟩;exact⟨λσ o τ L' p a3 U ⟨L2,r,C⟩=>k .non o .non L2 p (U.sub r) (by rfl) C,λv o y L' p U I ⟨L2,r,C⟩=>k v o y L2 p (U.sub r) I C,λ_ _ _ _ _ _ _ z=>z.elim,λ_ _ _ _ _ _ _ z=>z.elim⟩
def tj:jo->Nat->jo
 |[],_=>[]
 |_::r,0=>none::r
 |o::r,i+1=>o::tj r i
theorem xC:∀(τ:jo) (i:Nat),tj τ i=τ.set i none
 |[],_=>rfl
 |_::_,0=>rfl
 |o::r,i+1=>by rw[tj,xC r i];rfl
theorem xw.clr{σ:L2.St}(h:xw G H σ τ)(i:Nat):xw G H (σ.set i none) (tj τ i):=by
 rw[xC];refine⟨by simpa using h.len,λj y e=>?_⟩;by_cases J:i=j
 ·subst J;rw[List.getElem?_set] at e;simp at e
 ·rw[BD J] at e ⊢;exact h.get j y e
def Dh3(i:Nat)(D:vq):vq where
 nx:=λτ L=>D.nx (tj τ i) L
 rt:=D.rt
 bk:=λτ L=>D.bk (tj τ i) L
 ct:=λτ L=>D.ct (tj τ i) L
def ans(G:G3)(H:Hp)(E3:X3)(E1:X1):Prop:=∀hQ C H' J L',ja H H'->xw G H' hQ J->j5 G H' L'->E3 J C L'->E1 hQ (.ref C) H'
def aal(G:G3)(t:X3->vt):X1->L2.TS:=λE1 D σ H=>∃τ L D3 E3,xw G H σ τ/\j5 G H L/\t E3 D3 τ L/\ue G H D3 D/\ans G H E3 E1
def QB(X:Cx)(body:List Stmt)(t:X3->vt):Prop:=∀(pn:List (Addr×Obj)) (xe:Value->Shared->Prop) (E1:X1),a6 (X.tr pn xe) E1->fN (X.tr pn xe) body (aal X.g3 t E1)
def aok(K:Ad)(Dc:Addr)(i:Nat)(tb:X3->vt)(th:vt)(D:vq)(τ:jo)(L:qr):Prop:=
 tb (λJ C L'=>PySem.W.exmOne K (.ref C) (.ref Dc)=some true/\∀a,L' a=none->th (Dh3 i D) (dP J i (.ref a)) (qi L' a (.exc C))) D τ L
section
variable {tr:eO}{cp:Pos}
theorem ahc{k:Nat}{sp:dO}(c:fK X.prog X.w X.K X.mg X.base k x ps sp)(hr:wb k X.A)(hg:Gl X x)(hx:X.ex=[])(ha:∀pn xe,QA (X.tr pn xe) (e::es) tr)(U:Ed x:=by decide)
 (he:Eb e es X:=by rfl) (g:Ec cp es X:=by rfl) (hs:swapsWith (.Call (.Name x p) (e::es) [] cp) none pos.line X.env=pure false:=by rfl):
 QB X [.Expr (.Call (.Name x p) (e::es) [] cp) pos] (λE3=>jk (cX sp E3 tr)):=by
 obtain⟨f,fd,F,b,kp,m⟩:=c.ex;intro pn xe E1 ht;refine fN.imp (qR (wS (mQ (X:=X.tr pn xe) F hr hg m kp b ht hx (ha pn xe) U he g) hs)) λD σ H ⟨j,L,D3,E3,l,rl,z,k,kx⟩=>?_;exact⟨j,L,_,l,rl,z,λvs H1 ys L1 J o r z1=>⟨ys,L1,_,E3 j,r,o,z1,(λv H2 y L2 T t a1 z2=>k.nx _ H2 _ L2 (J.trans T) (l.ts (J.trans T)) t z2),λC H' L' t' I q=>kx σ C H' j L' (J.trans t') (l.ts (J.trans t')) I q⟩⟩
theorem alv{k:Nat}{y:Str}{sp:dO}(c:fK X.prog X.w X.K X.mg X.base k x ps sp)(hr:wb k X.A)(hg:Gl X x)(hx:X.ex=[])(hN:X.N.Nodup)(g:X.N[i]?=some y)(hy:Loc X.env.scope y)(ha:∀pn xe,QA (X.tr pn xe) (e::es) tr)(j:Ed x:=by decide)
 (he:Eb e es X:=by rfl) (l:Ec cp es X:=by rfl) (hs:swapsWith (.Call (.Name x p) (e::es) [] cp) (some (.Name y fy)) pos.line X.env=pure false:=by rfl)
 (o:X.fn y=true\/X.env.scope.names.lookup y=some .local:=by first|exact .inl rfl|exact .inr rfl|assumption):
 QB X [.Assign [.Name y fy] (.Call (.Name x p) (e::es) [] cp) pos] (λE3=>zf (cX sp E3 tr) (qh i)):=by
 obtain⟨f,fd,F,b,kp,m⟩:=c.ex;intro pn xe E1 ht;refine fN.imp (qR (ac7 (X:=X.tr pn xe) hN g hy (mQ (X:=X.tr pn xe) F hr hg m kp b ht hx (ha pn xe) j he l) hs o)) λD σ H ⟨J,L,D3,E3,r,rl,z,k,kx⟩=>?_;exact⟨J,L,_,r,rl,z,λvs H1 ys L1 U t I z1=>⟨ys,L1,_,E3 J,I,t,z1,(λv H2 y L2 t2 T a1 z2=>k.nx _ H2 _ L2 (U.trans t2) (show xw _ _ _ (dP J i y) by rw[ar];exact(r.ts (U.trans t2)).set a1) T z2),λC H' L' t' a2 q=>kx σ C H' J L' (U.trans t') (r.ts (U.trans t')) a2 q⟩⟩
theorem akp{n:Str}{tb:X3->vt}{th:vt}(hs:X.stack=X.env::X.outer)(hf:X.env.frame=some X.env.locals)(hx:X.ex=[])(hN:X.N.Nodup)(hi:X.N[i]?=some n)
 (hk:X.env.scope.names.lookup n=some .local) (hg:Gl X x) (hm:X.mg x=some (.ref Dc)) (hb:QB X body tb) (hh:∀a,oa (X.hnd a) (nC::kt) th)
 (I:Ed x:=by decide):QS X (.Try body [.ExceptHandler (some (.Name x np)) (some n) (nC::kt) wh] [] [] pos) (aok X.K Dc i tb th):=
 PS.imp (alo (tb:=aal X.g3 tb) (th:=upS X.g3 th) hs hf hx hN hi hk hg hm hb hh I) λD σ H ⟨τ,L,D3,rs,rl,z,k⟩=>by
 show aal X.g3 tb (aet X.K Dc i (upS X.g3 th) D) D σ H;refine⟨τ,L,D3,_,rs,rl,z,k,λa2 C H' T L' t' a1 g ⟨em,q⟩=>⟨C,rfl,em,λa oe ha hc=>?_⟩⟩;have ta:ja H' (upd H' a (.frz oe (.own 0))):=DV ha;refine⟨dP T i (.ref a),qi L' a (.exc C),Dh3 i D3,by rw[ar];exact(a1.ts ta).set rfl,λb u e=>?_,q a (g.none ha),?_⟩
 ·by_cases c:b=a
  ·subst c;rw[q8] at e;cases e;exact⟨oe,zg,hc⟩
  ·rw[qb c] at e;exact(g b u e).keep ta (qo c)
 ·have t:=k.ts (t'.trans ta);exact⟨λj l o L2 p J U r=>t.nx _ l _ L2 p (J.clr i) U r,t.rt,λj l o L2 p J U r=>t.bk _ l _ L2 p (J.clr i) U r,λj l o L2 p J U r=>t.ct _ l _ L2 p (J.clr i) U r⟩
end
@[irreducible] def yq (L:qr) (a:Addr) (k:Addr->Prop):Prop:=match L a with
 |some (.exc C)=>k C
 |_=>False
theorem qH{k:Addr->Prop}(e:L a=some (.exc C))(h:k C):yq L a k:=by unfold yq;rw[e];exact h
theorem sv{k:Addr->Prop}(h:yq L a k):∃C,L a=some (.exc C)/\k C:=by
 unfold yq at h;split at h
 ·rename_i C e;exact⟨C,e,h⟩
 ·exact h.elim
def uC(K:Ad)(u:Value)(te:xp)(τ:jo)(L:qr)(Q:YK):Prop:=te τ L λx L1=>match x with
 |.ref a=>yq L1 a λC=>XHd K C/\∃b,PySem.W.kitOne K (.ref C) u=some b/\Q (.bl b) L1
 |_=>False
def vU(K:Ad)(us:List Value)(te:xp)(τ:jo)(L:qr)(Q:YK):Prop:=te τ L λx L1=>match x with
 |.ref a=>yq L1 a λC=>XHd K C/\∃b,PySem.W.kitAny K (.ref C) us=some b/\Q (.bl b) L1
 |_=>False
def PAC(X:Cx)(es:List Expr)(vs:List V):Prop:=PA X es λ_ H Q=>Q vs H
section
variable {a:Expr}{pt:Pos}
theorem agq:PAC X [] []:=dD
theorem aB(h:PE X e (tC v))(t:PAC X es vs)(hs:Eb e es X:=by rfl):PAC X (e::es) (v::vs):=PA.imp (wn h t hs) λ_ _ _ q=>q
theorem bP(J:Gl X x)(U:X.mg x=some (.ref C))(hd:Ed x:=by decide):PE X (.Name x p) (tC (.ref C)):=aiv J U hd
theorem rh(l:Gl X "isinstance")(o:X.mg "isinstance"=none)(r:QE X a ta)(hc:PE X c (tC v))(t:xH v=some u)
 (hs:starEach [a,c] X.env=(false,eval a X.env)::starEach [c] X.env:=by rfl) (U:starEach [c] X.env=(false,eval c X.env)::starEach [] X.env:=by rfl) (I:(backTo pos (starEach [c] X.env)).any (·.1)=false:=by rfl):
 QE X (.Call (.Name "isinstance" p) [a,c] [] pos) (uC X.K u ta):=by
 refine EJ (gT l9 l o bR (wn r (wn hc dD U) hs) (by decide) (by decide) hs I) ?_;rintro σ H Q ⟨T,L,Q3,rs,rl,z,k⟩;refine⟨T,L,_,rs,rl,z,λw H1 y L1 t1 J g j=>?_⟩;cases y with
 |ref b=>
  obtain⟨C,e,hd,bb,kk,q⟩:=sv j;cases g;exact⟨b,C,v,rfl,J b _ e,hd,.inl ⟨u,bb,t,kk,k _ H1 _ L1 t1 J (by rfl) q⟩⟩
 |_=>exact j.elim
theorem yd{J:Nat}(T:Gl X "isinstance")(hm:X.mg "isinstance"=none)(ha:QE X a ta)(hc:PAC X es vs)(hv:vs.map xH=us.map some)(hl:vs.length<=1000)
 (hs:starEach [a,.Tuple es J pt] X.env=(false,eval a X.env)::starEach [.Tuple es J pt] X.env:=by rfl) (g:starEach [.Tuple es J pt] X.env=(false,eval (.Tuple es J pt) X.env)::starEach [] X.env:=by rfl) (hp:(backTo pos (starEach [.Tuple es J pt] X.env)).any (·.1)=false:=by rfl):
 QE X (.Call (.Name "isinstance" p) [a,.Tuple es J pt] [] pos) (vU X.K us ta):=by
 refine EJ (gT l9 T hm bR (wn ha (wn (acw hc) dD g) hs) (by decide) (by decide) hs hp) ?_;rintro σ H Q ⟨τ,L,Q3,rs,rl,z,k⟩;refine⟨τ,L,_,rs,rl,z,λw j y L1 t1 U l r=>⟨small hl,λq t=>?_⟩⟩;cases y with
 |ref b=>
  obtain⟨C,e,hd,bb,kk,z2⟩:=sv r;cases l;have I:ja j (upd j q (.tup vs)):=DV t;obtain⟨oe,ho,o⟩:=(U b _ e:adn X.K j b C);refine⟨b,C,.ref q,rfl,⟨oe,I _ _ rfl ho,o⟩,hd,.inr ⟨q,vs,us,bb,rfl,.inl (.inl zg),hv,kk,k _ _ _ L1 (t1.trans I) (U.skip t) (by rfl) z2⟩⟩
 |_=>exact r.elim
end
def noX:X3:=λ_ _ _=>False
theorem ak1 :a6 X (upX X.g3 noX):=λ_ _ _ _ _ _ _ _ _ _ _ ⟨_,_,_,_,_,_,z⟩=>z.elim
theorem m7:bootBuiltins "ValueError"=some (.type "ValueError"):=by decide +kernel
open PySem L2 PySem.W
theorem tw{K:Frag}(q:excIn K C [.type "ValueError",.type "Exception",.type "BaseException",.type "object"] "ValueError.__new__"=true):aao K C:=aeu q Dk (by decide +kernel) Dk
section
variable {K:Frag}{D:Addr}{t c:Value}{b:Bool}
theorem kit_own{cd:ClassData}(ne:(Value.ref C==Value.ref D)=false)(h1:clsIn K D=some cd)(h2:typeIn K (.ref D)=some (.type "type"))(h3:subIn K (.ref C) (.ref D)=some b):kitOne K (.ref C) (.ref D)=some b:=by unfold kitOne;rw[AC (by rw[ne];exact Ay)];unfold kitCls;simp only[h1,h2,Di,beq_self_eq_true,Bool.and_self,if_true];exact h3
theorem kit_self:kitOne K (.ref C) (.ref C)=some true:=by unfold kitOne;rw[AB (beq_self_eq_true _)]
theorem kit_blt{T:String}(J:kitMeta T=true)(h3:subIn K (.ref C) (.type T)=some b):kitOne K (.ref C) (.type T)=some b:=by unfold kitOne;rw[AC (by intro q;cases beq_iff_eq.mp q)];unfold kitCls;simp only[J,if_true];exact h3
theorem kitAny_no{r:List Value}(h:kitOne K t c=some false)(k:kitAny K t r=some b):kitAny K t (c::r)=some b:=by unfold kitAny;rw[h];exact k
theorem exm_own{cd:ClassData}(h0:subIn K (.ref D) (.type "BaseException")=some true)(h1:clsIn K D=some cd)(h2:typeIn K (.ref D)=some (.type "type"))(h3:subIn K (.ref C) (.ref D)=some b):exmOne K (.ref C) (.ref D)=some b:=by unfold exmOne;rw[AB (by rw[h0];rfl)];unfold kitCls;simp only[h1,h2,Di,beq_self_eq_true,Bool.and_self,if_true];exact h3
theorem xhd_of{cd:ClassData}(ga:findIn K (.ref C) "__getattribute__"=some (some (.builtin "BaseException.__getattribute__")))(gt:findIn K (.ref C) "__getattr__"=some none)(cl:findIn K (.ref C) "__class__"=some (some (.builtin "object.__class__")))
 (ge:specialIn K (.builtin "object.__class__") "__get__"=some (some (.builtin "getset_descriptor.__get__"))) (tk:takesIn K (.builtin "object.__class__")=some true) (mo:mroIn K C (.type "object")=some true) (be:subIn K (.ref C) (.type "BaseException")=some true) (h:clsIn K C=some cd):XHd K C:=
 ⟨⟨ga,gt,cl,ge,tk,mo,be⟩,by rw[h];rfl⟩
end
end L3
namespace L2
open PySem PySem.Spec PyProof.Rows
def iE(X:Cx)(ops:List CmpOp)(es:List Expr)(t:V->TE):Prop:=∀(pos:Pos) (pins:List (Addr×Obj)) (s:Shared) (σ:St) (H:Hp) (x:V) (v:Value) (Q:Bool->Hp->Prop),za X pins σ H s->zu x v->(t x σ H λz H'=>∃k,z=.bl k/\Q k H')->wpAny (model X.prog X.w) X.A (testChain pos v ops (evalEach es X.env)) (TP X pins σ Q) X.xe s
def aib(r:R2)(tb:TE):V->TE:=λx σ H Q=>tb σ H λy H1=>r x y H1 Q
def ai5(r:R2)(tb:TE)(u:V->TE):V->TE:=λx σ H Q=>tb σ H λy H1=>r x y H1 λz H2=>∃k,z=.bl k/\(if k=true then u y σ H2 Q else Q (.bl false) H2)
section
variable {a b:Expr}{ta tb:TE}{op r4:CmpOp}{ops:List CmpOp}{r:R2}{u:V->TE}
theorem yy(g:kh X (compareOp op) r)(j:PE X b tb):iE X [op] [b] (aib r tb):=by intro pos J s U H x v Q I l h;refine test_last (aI (j J s U H _ I h) λo p ⟨y,t,C,T,q1⟩=>aI (g J p U t x y v o _ C l T q1) λd s2 ⟨z,H2,I2,r2,k,e,q2⟩=>?_);subst e;cases r2;exact wpAny_truthy_bool ⟨H2,I2,q2⟩
theorem yZ(t:kh X (compareOp op) r)(C:PE X b tb)(T:iE X (r4::ops) (c::es) u):iE X (op::r4::ops) (b::c::es) (ai5 r tb u):=by
 intro pos J s U H x v Q I rx h;refine test_link (aI (C J s U H _ I h) λg s1 ⟨y,H1,I1,j,q1⟩=>aI (t J s1 U H1 x y v g _ I1 rx j q1) λd s2 ⟨z,l,o,r2,k,e,p⟩=>?_);subst e;cases r2;refine wpAny_truthy_bool ?_;cases k with
 |false=>
  obtain⟨k',e',q'⟩:=p;cases e';exact ite_ff ⟨l,o,q'⟩
 |true=>exact ite_tt (T pos J s2 U l y g Q o j p)
theorem yJ(U:PE X a ta)(h:iE X (op::r4::ops) (b::c::es) u)(g:lastMarks (op::r4::ops) (b::c::es)=false):PT X (.Compare a (op::r4::ops) (b::c::es) pos) (ae0 λσ H Q=>ta σ H λx H1=>u x σ H1 Q):=by intro J s σ H Q I j;exact isTrue_chain (aI (U J s σ H _ I j) λv l ⟨x,H1,o,p,r⟩=>h pos J l σ H1 x v Q o p r) g
end
end L2
namespace L3
open PySem L2
def uf(ta:xp)(u:Y->xp)(τ:jo)(L:qr)(Q:YK):Prop:=ta τ L λx L1=>u x τ L1 Q
def abj(r:mX)(tb:xp)(x:Y)(τ:jo)(L:qr)(Q:YK):Prop:=tb τ L λy L1=>r x y L1 Q
def aci(r:mX)(tb:xp)(u:Y->xp)(x:Y)(τ:jo)(L:qr)(Q:YK):Prop:=tb τ L λy L1=>r x y L1 λz L2=>match z with
 |.bl k=>wc k (u y τ L2 Q) (Q (.bl false) L2)
 |_=>False
def upC(G:G3)(u:Y->xp):V->TE:=λx σ H Q=>∃y τ L J,RV G H y x/\xw G H σ τ/\j5 G H L/\u y τ L J/\rF G H J Q
theorem iE.imp{ops:List CmpOp}{t u:V->TE}(h:iE X ops es t)(q:∀x σ H Q,u x σ H Q->t x σ H Q):iE X ops es u:=λpos J s σ H x v Q I r z=>h pos J s σ H x v Q I r (q _ _ _ _ z)
theorem af0{r:mX}(x:V)(σ:L2.St)(H:Hp)(Q:VK):upC G (abj r tb) x σ H Q->aib (fE G r) (pY G tb) x σ H Q:=λ⟨y,j,L,l,o,p,t,z,k⟩=>
 ⟨j,L,_,p,t,z,λv H1 C I g J U T=>⟨y,C,I,l,o.ts g,U,J,T,k.ts g⟩⟩
theorem afw{r:mX}{u:Y->xp}(x:V)(σ:L2.St)(H:Hp)(Q:VK):upC G (aci r tb u) x σ H Q->ai5 (fE G r) (pY G tb) (upC G u) x σ H Q:=λ⟨y,l,L,o,rv,T,rl,z,k⟩=>
 ⟨l,L,_,T,rl,z,λv H1 p L1 g t J z1=>⟨y,p,L1,_,rv.ts g,J,t,z1,λv2 H2 y2 L2 j U C z2=>by
  cases y2 with
  |bl I=>
   refine⟨I,C,?_⟩;have z3:wc I (u p l L2 o) (o (.bl false) L2):=z2;cases I with|true=>rw[AB rfl];exact⟨p,l,L2,o,J.ts j,T.ts (g.trans j),U,z3,k.ts (g.trans j)⟩|false=>rw[AC Ay];exact k _ H2 _ L2 (g.trans j) U (by rfl) z3
  |_=>exact z2.elim⟩⟩
section
variable {a b:Expr}{op r4:CmpOp}{ops:List CmpOp}{r:mX}{u:Y->xp}
theorem zL(J:kh X (compareOp op) (fE X.g3 r))(U:QE X b tb):iE X [op] [b] (upC X.g3 (abj r tb)):=iE.imp (yy J U) af0
theorem zG(J:kh X (compareOp op) (fE X.g3 r))(U:QE X b tb)(g:iE X (r4::ops) (c::es) (upC X.g3 u)):iE X (op::r4::ops) (b::c::es) (upC X.g3 (aci r tb u)):=iE.imp (yZ J U g) afw
theorem aab(σ:L2.St)(H:Hp)(Q:VK):pY G (uf ta u) σ H Q->(λσ H Q=>pY G ta σ H λx H1=>upC G u x σ H1 Q) σ H Q:=λ⟨g,L,o,j,p,z,k⟩=>
 ⟨g,L,_,j,p,z,λv H1 y r l J U t=>⟨y,g,r,o,U,j.ts l,J,t,k.ts l⟩⟩
theorem ab4(U:QE X a ta)(h:iE X (op::r4::ops) (b::c::es) (upC X.g3 u))(g:lastMarks (op::r4::ops) (b::c::es)=false:=by with_unfolding_all rfl):QT X (.Compare a (op::r4::ops) (b::c::es) pos) (yB (uf ta u)):=
 PT.imp (yJ U h g) λJ H Q q=>aab J H _ (ajk J H Q q)
end
end L3
namespace L2
open PySem PySem.Spec PyProof.Rows
theorem vY:∀{bs:List Bool} {us:List Value},zq (bs.map V.bl) us->us=bs.map Value.bool
 |[],_,.nil=>rfl
 |b::bs,_,.cons r t=>by cases (show _=Value.bool b from r);rw[vY t];rfl
theorem ab2(hc:X.calm=true:=by rfl):x8 X (.builtin "all") (λxs H Q=>∃(a:Addr) (bs:List Bool),xs=[.ref a]/\aJ X.K H a (bs.map V.bl)/\Q (.bl (bs.all id)) H):=by
 intro l s σ H xs us Q I r h;obtain⟨a,bs,rfl,sq,q⟩:=h;obtain⟨u,rfl,o⟩:=l8 r;cases o;obtain⟨p,t,pl,_⟩:=I.list sq;cases vY t;have g:=j7 pl;have j:a<s.heap.objs.size:=by obtain⟨_,e,_⟩:=g;exact At e
 refine x4 I.tk (call_all_walk (wpAny_pyIter_list g ?_));refine⟨s.heap.objs.size,[s.heap.objs.size,a],[s.heap.objs.size],(bs.map Value.bool).toArray.size,_,_,λi=>(bs[i]?).getD true,rfl,Walks.list (A:=X.A.in1) (I.ok.hd hc) _ a (AV j) (bs.map Value.bool).toArray,
  ⟨⟨_,Db _ rfl,rfl,rfl⟩,g.push _⟩,λi v C T E' J U=>?_,λh' tk hk ht=>?_⟩
 ·have J:(bs.map Value.bool).toArray[i]?=some v:=J;rw[List.getElem?_toArray,An] at J;obtain⟨b,e,rfl⟩:=Ap.mp J;have U:T ((bs[i]?).getD true) C:=U;rw[e] at U;exact wpAny_truthy_bool U
 ·have e:((List.range (bs.map Value.bool).toArray.size).all λi=>(bs[i]?).getD true)=bs.all id:=by rw[Al,Ab];exact PyProof.Rows.LSm.range_all bs
  rw[e];exact⟨.bl _,H,I.kept (h':=h') (t':=tk) (PyProof.Rows.LSm.kept_iter hk),rfl,q⟩
end L2
namespace L3
open PySem L2
def y0:List Y->Option (List Bool)
 |[]=>some []
 |.bl b::r=>(y0 r).map (b::·)
 |_::_=>none
theorem ac3(bs:List Bool):y0 (bs.map Y.bl)=some bs:=by induction bs with|nil=>rfl|cons b r J=>show(y0 (r.map Y.bl)).map (b::·)=_;rw[J];rfl
theorem tH{G:G3}{H:Hp}:∀{ys:List Y} {xs:List V} {bs:List Bool},y0 ys=some bs->xx G H ys xs->xs=bs.map V.bl
 |[],_,_,h,r=>by cases h;exact r
 |y::ys,_,bs,h,⟨x,J,e,U,g⟩=>by
  cases y with
  |bl b=>
   have j:(y0 ys).map (b::·)=some bs:=h;obtain⟨o,l,rfl⟩:=Ap.mp j;cases (show x=V.bl b from U);rw[e,tH l g];rfl
  |_=>cases h
def ajo(xs:List Y)(L:qr)(Q:YK):Prop:=match xs with
 |[y]=>rL y=true/\fC L y λys=>tV L (λbs L=>Q (.bl (List.all bs id)) L) (y0 ys)
 |_=>False
theorem ap5(hc:X.calm=true:=by rfl):x8 X (.builtin "all") (upL X.g3 ajo):=x8.imq (ab2 hc) λo H Q p L t U J z k=>by
 unfold ajo at z;split at z
 ·rename_i y;obtain⟨x,rfl,r⟩:=U.inv1;obtain⟨g,z⟩:=z;obtain⟨C,j,z⟩:=ko z;obtain⟨bs,l,z⟩:=gM z;obtain⟨a,I,rfl,sq,rr⟩:=fA J r g j;cases tH l rr;exact⟨a,bs,rfl,sq,k _ H _ L (DS _) J (by rfl) z⟩
 ·exact z.elim
theorem akb:bootBuiltins "all"=some (.builtin "all"):=by decide +kernel
def agh:Y->Option jf
 |.int i=>some (.inl i)
 |.str x=>some (.inr x)
 |_=>none
theorem mU{k:jf}(h:agh y=some k)(r:RV G H y v):v=kV k:=by cases y with|int i=>cases h;exact r|str x=>cases h;exact r|_=>cases h
def i5(kvs:List (jf×Y))(k:jf)(y:Y):List (jf×Y):=
 if (kvs.any λJ=>decide (J.1=k))=true then kvs.map (λJ=>if J.1=k then(J.1,y) else J) else kvs++[(k,y)]
theorem ja.dct{p:Addr}{zs:List (jf×V)}{o:HO}(h:H p=some (.dK zs)):ja H (upd H p o):=λa u i q=>by rw[qo ?_];exact q;rintro rfl;rw[h] at q;cases q;cases i
theorem ab1{xs:List (jf×V)}(p:Paired (λ(p:jf×Y) (q:jf×V)=>p.1=q.1/\RV G H p.2 q.2) kvs xs)(k:jf):(kvs.any λJ=>decide (J.1=k))=xs.any λJ=>decide (J.1=k):=by induction p with|nil=>rfl|cons r t U=>rw[BY,BY,U,r.1]
theorem aea{xs:List (jf×V)}(p:Paired (λ(p:jf×Y) (q:jf×V)=>p.1=q.1/\RV G H p.2 q.2) kvs xs)(k:jf)(r:RV G H y v):
 Paired (λ(p:jf×Y) (q:jf×V)=>p.1=q.1/\RV G H p.2 q.2) (kvs.map λJ=>if J.1=k then(J.1,y) else J) (xs.map λJ=>if J.1=k then(J.1,v) else J):=by
 induction p with
 |nil=>exact .nil
 |@cons a b _ _ U t g=>
  refine .cons ?_ g;obtain⟨e,q⟩:=U;dsimp only;by_cases c:a.1=k
  ·rw[AB c,AB (e▸c)];exact⟨e,r⟩
  ·rw[AC c,AC (λz=>c (e.trans z))];exact⟨e,q⟩
theorem zP{xs:List (jf×V)}(p:Paired (λ(p:jf×Y) (q:jf×V)=>p.1=q.1/\RV G H p.2 q.2) kvs xs)(k:jf)(r:RV G H y v):
 Paired (λ(p:jf×Y) (q:jf×V)=>p.1=q.1/\RV G H p.2 q.2) (kvs++[(k,y)]) (xs++[(k,v)]):=by
 induction p with|nil=>exact .cons ⟨rfl,r⟩ .nil|cons J t U=>exact .cons J U
theorem aaw{xs:List (jf×V)}(p:Paired (λ(p:jf×Y) (q:jf×V)=>p.1=q.1/\RV G H p.2 q.2) kvs xs)(k:jf)(r:RV G H y v):
 Paired (λ(p:jf×Y) (q:jf×V)=>p.1=q.1/\RV G H p.2 q.2) (i5 kvs k y) (eF xs k v):=by
 unfold i5 eF;rw[ab1 p k];by_cases c:(xs.any λJ=>decide (J.1=k))=true
 ·rw[AB c,AB c];exact aea p k r
 ·rw[AC c,AC c];exact zP p k r
theorem aa6{J:Type}{R:α->J->Prop}{l:List α}{m:List J}(p:Paired R l m):l.length=m.length:=by induction p with|nil=>rfl|cons _ _ U=>rw[AJ,AJ,U]
def wQ(_:jo)(L:qr)(Q:YK):Prop:=∀p,L p=none->Q (.ref p) (qi L p (.dct []))
def jH(td ti:xp)(τ:jo)(L:qr)(Q:YK):Prop:=td τ L λx L1=>ti τ L1 λy L2=>match x,agh y with
 |.ref a,some k=>tR L2 a λkvs=>tV L2 Q (kq kvs k)
 |_,_=>False
def fw(td ti tv:xp)(D:vq)(τ:jo)(L:qr):Prop:=tv τ L λv L1=>td τ L1 λx L2=>ti τ L2 λy L3=>match x,agh y with
 |.ref a,some k=>tR L3 a λkvs=>kvs.length<sizeLine/\D.nx τ (qi L3 a (.dct (i5 kvs k v)))
 |_,_=>False
section
variable {i:Expr}{td tv:xp}
theorem qQ:QE X (.Dict [] [] pos) wQ:=DW acu λg H Q j L l o U z k=>λp J=>by
 refine k _ _ _ (qi L p (.dct [])) (DV J) (λa u e=>?_) (by rfl) (z p (U.none J));by_cases c:a=p
 ·subst c;rw[q8] at e;cases e;exact⟨[],zg,.nil⟩
 ·rw[qb c] at e;exact(U a u e).keep (DV J) (qo c)
theorem cr(hu:X.A.units+128<cLine)(C:QE X o td)(hi:QE X i ti)(hs:alm i):QE X (.Subscript o i pos) (jH td ti):=DW (agp (by omega) C hi hs) λσ H Q p L Q3 r I z k=>
 ⟨p,L,_,r,I,z,λv H1 x T t U g z1=>⟨p,T,_,r.ts t,U,z1,λw H2 y L2 t2 J j l=>by
  split at l
  ·rename_i a kk ek;obtain⟨a1,e,z3⟩:=gW l;obtain⟨yv,ev,q⟩:=gM z3;obtain⟨xs,e2,pr⟩:=J a _ e;obtain⟨xv,ex,rx⟩:=oE pr ev;exact⟨a,xv,g,.inl ⟨xs,kk,.inl e2,mU ek j,ex.symm⟩,k _ H2 _ L2 (t.trans t2) J rx q⟩
  ·exact l.elim⟩⟩
theorem bM(hu:X.A.units+128<cLine)(ho:QE X o td)(hi:QE X i ti)(hv:QE X value tv)(hs:swapsWith value (some (.Subscript o i fy)) pos.line X.env=pure false:=by rfl):QS X (.Assign [.Subscript o i fy] value pos) (fw td ti tv):=
 ED (ahq (by omega) ho hi hv hs) λD σ H r L D3 U rl z k=>
 ⟨r,L,_,U,rl,z,λv H1 vy L1 g t C z1=>⟨r,L1,_,U.ts g,t,z1,λx H2 xy L2 j I T z2=>⟨r,L2,_,U.ts (g.trans j),I,z2,λw H3 y L3 t3 J a1 z3=>by
  split at z3
  ·rename_i a kk ek;obtain⟨a2,e,hl,q⟩:=gW z3;obtain⟨xs,e2,pr⟩:=J a _ e;have l:ja H3 (upd H3 a (.dK (eF xs kk v))):=ja.dct e2;cases (show x=V.ref a from T);refine⟨a,_,rfl,.inl ⟨xs,kk,e2,mU ek a1,by rw[<-aa6 pr];exact hl,rfl⟩,?_⟩;refine k.nx _ _ _ _ (((g.trans j).trans t3).trans l) (U.ts (((g.trans j).trans t3).trans l)) (λb u p=>?_) q;by_cases c:b=a
   ·subst c;rw[q8] at p;cases p;exact⟨_,zg,DX (aaw pr kk (C.ts (j.trans t3))) λ_ _ ⟨h1,h2⟩=>⟨h1,h2.ts l⟩⟩
   ·rw[qb c] at p;exact(J b u p).keep l (qo c)
  ·exact z3.elim⟩⟩⟩
end
def aan(to ti tv:xp)(D:vq)(τ:jo)(L:qr):Prop:=tv τ L λv L1=>to τ L1 λx L2=>ti τ L2 λy L3=>match x,y with
 |.ref a,.int i=>eJ L3 a λys=>tV L3 (λj L=>D.nx τ (qi L a (.lst (ys.set j v)))) (ixN ys.length i)
 |_,_=>False
section
variable {i:Expr}{tv:xp}
theorem vZ(ho:QE X o to)(hi:QE X i ti)(hv:QE X value tv)
 (ha:∀v,assign (.Subscript o i fy) X.env v=(do
  let U <-holding [v] (eval o X.env)
  let t <-holding [v,U] (eval i X.env)
  standAt fy
  holding [v,U,t] (setItem U t v)
  release [v,U,t] []):=by intro _;rfl)
 (h1:swapsWithSole [.Subscript o i fy] value pos.line X.env=pure false:=by rfl) (h2:swappedStores [.Subscript o i fy] value X.env=pure none:=by rfl)
 (h3:(assignEach [.Subscript o i fy] X.env).map (·.2)=[assign (.Subscript o i fy) X.env]:=by rfl):QS X (.Assign [.Subscript o i fy] value pos) (aan to ti tv):=
 ED (aca hv (ajf ho hi aba ha) h1 h2 h3) λD σ H C L D3 g rl z k=>
 ⟨C,L,_,g,rl,z,λv H1 vy L1 l I T z1=>⟨C,L1,_,g.ts l,I,z1,λx H2 xy L2 p a1 a2 z2=>⟨C,L2,_,g.ts (l.trans p),a1,z2,λw H3 y L3 t3 J a3 z3=>by
  split at z3
  ·rename_i a ii;obtain⟨ys,e,z4⟩:=vo z3;obtain⟨j,ej,q⟩:=gM z4;obtain⟨xs,e2,r⟩:=J a _ e;cases (show x=V.ref a from a2);cases (show w=V.int ii from a3);have tt:ja H3 (upd H3 a (.lst (xs.set j v))):=EH e2;exact⟨a,xs,ii,j,rfl,rfl,e2,by rw[<-r.length];exact ej,k.nx _ _ _ _ (((l.trans p).trans t3).trans tt) (g.ts (((l.trans p).trans t3).trans tt)) (J.setL e2 (xx.setY (T.ts (p.trans t3)) j r)) q⟩
  ·exact z3.elim⟩⟩⟩
end
end L3
namespace L2
open PySem PySem.Spec PyProof.Rows
section
variable {v₁ v₂:Expr}{te:TE}{u:Str->TE}
end
end L2
namespace L3
open PySem L2
section
variable {v₁ v₂:Expr}{u:Str->xp}
end
section
variable {tv:xp}{tr:eO}{f m:Str}{g:Addr}
end
open PySem.AutoSeq1 (wpAny_loadPart')
open MeetsSeq MeetsSeq2 MeetsSeq3 SeqRoads2
def acz(x y:Y)(L:qr)(Q:YK):Prop:=fC L x λxs=>fC L y λys=>rL x=true/\rL y=true/\xs.length+ys.length<=sizeLine/\∀p,L p=none->Q (.ref p) (qi L p (.lst (xs++ys)))
theorem adz(K:Ad)(P:Program)(w:World)(hK:X.K=K:=by rfl)(hP:X.prog=P:=by rfl)(hw:X.w=w:=by rfl):kh X (binaryOp .Add) (fE ⟨K,P,w⟩ acz):=by
 subst hK hP hw;intro a1 s σ H x y v u Q I rx ry ⟨x3,y3,L,Q3,r1,r2,r,z,k⟩;obtain⟨xs,ex,z⟩:=ko z;obtain⟨ys,ey,z⟩:=ko z;obtain⟨lx,ly,hz,q⟩:=z;obtain⟨a,ws,rfl,s1,g⟩:=fA r r1 lx ex;obtain⟨b,a3,rfl,s2,j⟩:=fA r r2 ly ey;cases rx;cases ry;obtain⟨J,vx,tx,_⟩:=I.list s1;obtain⟨U,vy,ty,_⟩:=I.list s2;obtain⟨⟨cls,dd,data,sl⟩,ho,hc,n,hd⟩:=id (j7 tx);obtain⟨⟨a2,t,data2,C⟩,l,o,n2,p⟩:=id (j7 ty);simp only at hc hd o p;subst hc hd o p;have l1:=vx.length;have l2:=vy.length;have l3:=g.length;have l4:=j.length;have T:J.toArray.size+U.toArray.size<=sizeLine:=by rw[Al,Al];lia
 refine concat_meets ⟨_,ho,rfl⟩ ⟨_,l,rfl⟩ noFill_list_add seq_list_add PySem.F.slot_list_add PySem.F.entry_list_add (PySem.F.args_list_add_2 _ _) (PyProof.Rows.list_addW a b J.toArray U.toArray n n2 dd t sl C T) ⟨ho,l,?_⟩;have e:J.toArray++U.toArray=(J++U).toArray:=by simp
 rw[e];exact⟨.ref _,_,I.lnew (t':=s.toks) (vx.append vy) (by rw[Ac];lia),rfl,k _ _ _ _ (DV I.fresh) (r.newL I.fresh (g.app j)) (by rfl) (q _ (r.none I.fresh))⟩
end L3
namespace Txs
open PySem PySem.Builtin.Str
theorem len_list(x:Str):x.cps.toList.length=x.length:=by simp[Str.length]
end Txs
namespace L2
open PySem PySem.Spec PyProof.Rows
section
variable {isp imk c j1 j2:Nat}{sp mk:Str}{u:Tok}{m:Str->Option Value}{p6 p7 p8 p9 p10:Pos}{Q:Flow->Shared->Prop}
end
end L2
namespace L2
open PySem PySem.Spec PyProof.Rows
end L2
namespace L3
open PySem L2
def aez(s:Stmt):List Stmt:=match s with
 |.ClassDef _ _ _ b _ _ _ _ _ _ _=>b
 |_=>[]
section
variable {tr:eO}{m:Str}{k:Nat}{sp:jl}
end
end L3
namespace L2
open PySem PySem.Spec PyProof.Rows
section
variable {te:TE}
end
end L2
namespace L3
open PySem L2
end L3
namespace L2
open PySem PySem.Spec PyProof.Rows
section
variable {T:Addr}{tr:Option Addr}
end
section
variable {T:List Str}{iter:Expr}{g:TG}{te:TE}
end
section
variable {T:Addr}{tr:Option Addr}{E1:X1}
end
section
variable {k:Nat}{E1:X1}{t:TA}
end
end L2
namespace L3
open PySem L2
section
variable {T:List Str}{iter:Expr}{wi:TI3}{tr:eO}{E3:X3}{Ea:Addr->qr->Prop}
end
end L3
namespace L2
open PySem PySem.Spec PyProof.Rows
end L2
namespace L2
open PySem PySem.Spec PyProof.Rows
section
variable {w:World}
theorem sJ{it t:Addr}{eH:Array Value}(J:t≠it):∀(n i:Nat) (s:Shared) (Q:List Value->Shared->Prop),s.heap.IsListIter it t i->s.heap.IsList t eH->i+n<=eH.size->
 (∀h',h'.IsListIter it t (i+n)->Heap.SameBut it s.heap h'->Q ((eH.toList.drop i).take n) { s with heap:=h' })->wpAny (model prog w) A (draw (.ref it) n) Q E s
 |0,i,s,Q,hit,_,_,j=>by unfold draw;exact Ag (by simpa using j s.heap hit (Heap.SameBut.refl ..))
 |n+1,i,s,Q,hit,r,C,j=>by
  have U:i<eH.size:=by omega
  unfold draw;refine Aa (wpAny_pyNext_list_item hit r (x:=eH[i]) (by simp[U]) λg1 l g=>?_);refine Aa (AY (sJ J n (i+1) _ _ l (r.extBut g.extBut J) (by lia) λg2 o p=>Ag ?_));have e:eH.toList.drop i=eH[i]::eH.toList.drop (i+1):=by simp[Cy,U]
  have q:=j g2 (by rw[show i+(n+1)=i+1+n by simp +arith only];exact o)
   (g.trans p)
  rw[e,List.take_succ_cons] at q;exact q
theorem ahf{t:Addr}{eH:Array Value}{Q:Unit->Shared->Prop}(T:A.handled=none)(J:s.heap.IsList t eH)(hn:(assignEach oi env).length=eH.size)(l:(assignEach oi env).findIdx? (·.1)=none)
 (h:∀g,Heap.ExtBut s.heap.objs.size s.heap g->wpAny (model prog w) A (assignInOrder ((assignEach oi env).map (·.2)) eH.toList) Q E { s with heap:=g }):wpAny (model prog w) A (assign (.Tuple oi x1 pos) env (.ref t)) Q E s:=by
 have U:t≠s.heap.objs.size:=by obtain⟨o,ho,_⟩:=J;exact AV (At ho)
 rw[arm_assign_Tuple];refine Aa (wpAny_standAt ?_);unfold unpack;rw[hn,l];refine Aa (AY ?_);unfold unpackItems notIterableAtAll;refine Aa (Aa (wpAny_specialOf J.typeIs slot_list_iter.lookup ?_));refine Ag ?_;rw[AC (by simp)];refine Aa (AY (wpAny_pyIter_list J ?_));refine Aa (AY (sJ U eH.size 0 _ _ ⟨_,Db _ rfl,rfl,rfl⟩ (J.push _) (by simp +arith only) λg1 p j=>?_));have all:List.take eH.size (List.drop 0 eH.toList)=eH.toList:=by rw[Dj];exact Bq (by simp)
 rw[all,AC (by simp)];have r:g1.IsList t eH:=(J.push _).extBut j.extBut U;refine Aa (AY (wpAny_pyNext_list_end T p r (by simp) λg2 C=>?_));rw[AC (by simp)];exact Ag (h g2 λb o I e=>C b o I (j.extBut b o I (As _ e)))
end
def arl(K:Ad)(n:Nat)(t:TGs):TG:=λv σ H Q=>∃a xs,v=.ref a/\aJ K H a xs/\xs.length=n/\t xs σ H Q
theorem ak8{k:Nat}{t:TGs}(hc:X.calm=true)(h:PGs X es t)
 (l:(assignEach es X.env).length=n:=by rfl) (U:(assignEach es X.env).findIdx? (·.1)=none:=by rfl):PG X (.Tuple es k pos) (arl X.K n t):=by
 intro J s g H v u Q I r hw;obtain⟨a,p,C,T,hl,hw⟩:=hw;subst C;cases r;obtain⟨a1,j,pl,hz⟩:=I.list T;have ht:=j7 pl;refine ahf (I.ok.hd hc) ht (by simp[l,<-hl,j.length]) U λh' hx=>?_;have I1:za X J g H { s with heap:=h' }:=I.kept (t':=s.toks) λb o e=>hx b o (AV (At e)) e;exact h J _ g H p _ Q I1 (by simpa using j) hw
theorem ag5(l:Addr)(eH:Array Value)(n:Nat)(x:Value)(b:Nat->Bool)(j:Nat)(I:j<eH.size)(hit:b j=true)(hz:eH.size<=sizeLine):∀(k i:Nat),j-i=k->i<=j->(∀m,i<=m->m<j->b m=false)->
 Meets (Builtin.«list.remove.loop» ⟨[.ref l,x,rawInt i],[]⟩) (λA R s=>s.heap.get? l=some { cls:=.type "list",dict:=none,data:=.seq eH n,slots:=#[] }/\(∀m (hm:m<eH.size),SeqAt.EqAt A.in1 s eH[m] x (b m))/\R (.ok (.ret .none)) { s with heap:=s.heap.update l (Obj.mapSeq λxs=>xs.eraseIdxIfInBounds j) }):=by
 intro k
 induction k with
 |zero=>
  intro i T r U J w A R s h;obtain⟨hp,g,d,tk,os⟩:=s;obtain⟨o,eq,h⟩:=h;have e:i=j:=by lia
  subst e
  (wp_walk using wpAny_loadPart' o)
  have t:eH[((i:Nat):Int).toNat]?=some eH[i]:=by simp[I]
  rw[t];refine Aa (eq i I J w _ _ ?_);rw[hit];have C:(eH.eraseIdxIfInBounds i).size<=sizeLine+1:=AM (MeetsSeq.size_erased eH _) (BW hz)
  (wp_walk using (wpAny_updateSeq o rfl (hz:=hz) (_hz':=C)),wpAny_loadPart' o)
  simpa using h
 |succ k ih=>
  intro i T r U J w A R s h;obtain⟨hp,g,d,tk,os⟩:=s;obtain⟨o,eq,h⟩:=h;have p:i<eH.size:=by exact ae8
  (wp_walk using wpAny_loadPart' o)
  have t:eH[((i:Nat):Int).toNat]?=some eH[i]:=by simp[p]
  have hc:((i:Int)+1)=((i+1:Nat):Int):=by rfl
  rw[t];refine Aa (eq i p J w _ _ ?_);rw[U i (Aj _) (by omega)]
  wp_walk
  rw[hc];refine⟨plainId_quiet Ej _,codeAny_builtin MeetsSeq.entry_remove_loop ?_⟩;rw[Em Ej _];exact ih (i+1) (by omega) (by omega) (λm h1 h2=>U m (by exact vH) h2) J w A R _ ⟨o,eq,h⟩
theorem ad9(l:Addr)(eH:Array Value)(n:Nat)(x:Value)(b:Nat->Bool)(j:Nat)(p:j<eH.size)(hit:b j=true)(hz:eH.size<=sizeLine)(U:∀m,m<j->b m=false):
 Meets (Builtin.«list.remove» ⟨[.ref l,x],[]⟩) (λA R s=>s.heap.get? l=some { cls:=.type "list",dict:=none,data:=.seq eH n,slots:=#[] }/\(∀m (r:m<eH.size),SeqAt.EqAt A.in1 s eH[m] x (b m))/\R (.ok (.ret .none)) { s with heap:=s.heap.update l (Obj.mapSeq λxs=>xs.eraseIdxIfInBounds j) }):=by
 intro J w A R s h;obtain⟨t,g,d,tk,os⟩:=s;obtain⟨o,eq,h⟩:=h
 (wp_walk using wpAny_loadPart' o)
 refine⟨plainId_quiet Ej _,codeAny_builtin MeetsSeq.entry_remove_loop ?_⟩;rw[Em Ej _];exact ag5 l eH n x b j p hit hz _ 0 rfl (Bf _) (λm _ h2=>U m h2) J w A R _ ⟨o,eq,h⟩
theorem zq.eraseN:∀{xs:List V} {us:List Value} (n:Nat),zq xs us->zq (xs.eraseIdx n) (us.eraseIdx n)
 |[],_,n,.nil=>by simp;exact .nil
 |_::_,_,0,.cons _ t=>t
 |_::_,_,n+1,.cons r t=>.cons r (zq.eraseN n t)
def ahs(X:Cx):V->List V->Hp->VK->Prop:=λx vs H Q=>∃l xs y ds e,∃n m j:Nat,x=.ref l/\vs=[y]/\H l=some (.lst xs)/\n<=126/\Paired (kc X.K H n) xs ds/\kc X.K H m y e/\j<ds.length/\(∃d,ds[j]?=some d/\Da.eq d e=true)/\
 (∀(k:Nat) d,k<j->ds[k]?=some d->Da.eq d e=false)/\Q .non (upd H l (.lst (xs.eraseIdx j)))
theorem yg(hu:X.A.units+128<cLine):iX X "list.remove" (ahs X):=by
 intro a5 s σ H x vs v us Q I rx rv h;obtain⟨l,o,y,g,e,n,m,j,rfl,rfl,hH,hn,pd,ry,hj,⟨dj,t,C⟩,T,q⟩:=h;cases rx;obtain⟨u,rfl,ru⟩:=rv.one;obtain⟨z,J,nn,r,hl,eo⟩:=I.lstM hH;have l1:o.length=g.length:=pd.length;have l2:J.length=o.length:=r.length.symm;obtain⟨arr,U⟩:∃arr:Array Value,arr=J.toArray:=⟨_,rfl⟩;have a1:arr.size=J.length:=by rw[U,Al]
 have b:Nat->Bool:=λ_=>true;have a2:arr.size<=sizeLine:=by rw[a1];lia
 have M:=ad9 l arr nn u (λk=>((g[k]?).map λd=>Da.eq d e).getD false) j (by lia) (by show((g[j]?).map λd=>Da.eq d e).getD false=true;rw[t];exact C) a2 (λk p=>by show((g[k]?).map λd=>Da.eq d e).getD false=false;cases ek:g[k]? with|none=>rfl|some d=>exact T k d p ek)
 rw[U] at M;refine call_meets F.slot_list_remove ⟨_,eo,rfl⟩ F.entry_list_remove (F.args_list_remove_2 _ _) M ⟨eo,λk p=>?_,?_⟩
 ·have ag:k<J.length:=by rw[Al] at p;exact p
  obtain⟨d,ed,rd⟩:=Words.Paired.getP pd (Af (by lia:k<o.length));show SeqAt.EqAt _ s _ u (((g[k]?).map λd=>Da.eq d e).getD false);rw[ed];obtain⟨u',a3,a4⟩:=Words.Paired.getP r (Af (by lia:k<o.length));have eg:J.toArray[k]=u':=by have:=(AL.mp a3).2;simpa using this
  rw[eg];exact lh I n (by show X.A.units+1+n<cLine;lia) rd ry a4 ru
 ·refine⟨.non,_,I.lset (its':=J.eraseIdx j) hH eo ?_ (r.eraseN j) ?_,rfl,q⟩
  ·have:j<J.length:=by lia
   simp[Array.eraseIdxIfInBounds,this]
  ·have:=CM o j;exact an5
end L2
namespace L3
open PySem L2
def ai4(n:Nat)(t:tQ)(y:Y)(τ:jo)(L:qr)(Q:jo->qr->Prop):Prop:=match y with
 |.ref a=>eJ L a λys=>match ys.length==n with
  |true=>t ys τ L Q
  |false=>False
 |_=>False
theorem akd{g:Nat}(hc:X.calm=true)(h:QGs X es gs)(h1:(assignEach es X.env).length=n:=by rfl)(h2:(assignEach es X.env).findIdx? (·.1)=none:=by rfl):QG X (.Tuple es g pos) (ai4 n gs):=
 PG.imp (ak8 hc h h1 h2) λv σ H Q ⟨y,j,L,l,o,p,U,z,k⟩=>by
 cases y with
 |ref a=>
  cases (show v=.ref a from o);obtain⟨t,e,J⟩:=vo z;obtain⟨C,I,r⟩:=U a _ e;split at J
  ·rename_i T;exact⟨a,C,rfl,aJ.of I,by rw[<-r.length];exact beq_iff_eq.mp T,t,j,L,l,r,p,U,J,k⟩
  ·exact J.elim
 |_=>exact z.elim
def kB(x:Y)(vs:List Y)(L:qr)(Q:YK):Prop:=match x,vs with
 |.ref a,[v]=>eJ L a λys=>∃ds e,∃n m j:Nat,n<=126/\Paired (jd L n) ys ds/\jd L m v e/\j<ds.length/\(∃d,ds[j]?=some d/\Da.eq d e=true)/\(∀(k:Nat) d,k<j->ds[k]?=some d->Da.eq d e=false)/\Q .non (qi L a (.lst (ys.eraseIdx j)))
 |_,_=>False
theorem adk(I:X.A.units+128<cLine):iX X "list.remove" (upM X.g3 kB):=iX.imq (yg I) λx J H Q y g L Q3 T r2 l z k=>by
 unfold kB at z;split at z
 ·rename_i a v;obtain⟨zs,e,U,de,n,m,j,hn,pd,dv,hj,hit,o,z⟩:=vo z;obtain⟨us,C,r⟩:=l a _ e;obtain⟨v',rfl,rv⟩:=r2.inv1;have both:∀{g:List Y} {U:List Da} {J:List V},Paired (jd L n) g U->xx X.g3 H g J->Paired (kc X.K H n) J U:=by
   intro g U J p
   induction p generalizing J with
   |nil=>intro q;cases (show J=[] from q);exact .nil
   |cons h t ih=>
    rintro⟨x,a1,rfl,q1,q2⟩;exact .cons (jd.rep l h q1) (ih q2)
  exact⟨a,us,v',U,de,n,m,j,T,rfl,C,hn,both pd r,jd.rep l dv rv,hj,hit,o,k _ _ _ _ (EH C) (l.setL C (r.eraseIdx j)) (by rfl) z⟩
 ·exact z.elim
theorem y7(J:X.A.units+128<cLine){tr:eO}(U:QE X o to)(g:QA X (e::es) tr)(j:attributeBase o "remove" X.env (eval o X.env)=eval o X.env:=by rfl)
 (l:((backTo eW (starEach (e::es) X.env)).all (λx=>!x.1)&&(backToKw eW (keywordEach [] X.env)).all (λx=>x.1.isSome)&&decide ((e::es).length+([]:List Keyword).length+(if ([]:List Keyword).isEmpty=true then 0 else 1)<30))=true:=by rfl)
 (p:(apos.endLine==eW.line)=true:=by rfl) (r:Eb e es X:=by rfl) (t:Ec eW es X:=by rfl):
 QE X (.Call (.Attribute o "remove" apos) (e::es) [] eW) (af kB to tr):=qK PySem.F.slot_list_remove PySem.F.type_list_remove (adk J) U g j l p r t
end L3
namespace L2
open PySem PySem.Spec PyProof.Rows
end L2
namespace L2
open PySem PySem.Spec PyProof.Rows
def asb:List V->Hp->VK->Prop:=λxs H Q=>∃n:Int,xs=[.int n]/\∀p,H p=none->Q (.ref p) (upd H p (.rng 0 n))
theorem abu:x8 X (.type "range") asb:=by intro J s g H j l Q I r h;obtain⟨n,rfl,q⟩:=h;obtain⟨u,rfl,U⟩:=r.one;obtain⟨t,rfl⟩:=(show ∃t,u=Value.int n t from U);refine call_range_1 ?_;refine⟨.ref s.heap.objs.size,_,I.laid (t':=s.toks+1+1) (o:=.rng 0 n) (λb ob q=>As _ q) (Aj _) ?_,rfl,q _ (I.hok.fresh (Aj _))⟩;exact⟨s.toks,t,s.toks+1,Db _ rfl⟩
theorem uT{J:Array Value}(h:ItemsOf (λi v=>∃t,v=.int (0+(i:Int)*1) t) J n):zq ((List.range n).map λi:Nat=>V.int (0+(i:Int))) J.toList:=by
 have len:J.toList.length=n:=by rw[Bu];exact h.1
 have key:∀(l:List Value) (k:Nat),(∀(j:Nat) v,l[j]?=some v->∃t,v=Value.int (0+((k+j:Nat):Int)*1) t)->zq ((List.range' k l.length).map λi:Nat=>V.int (0+(i:Int))) l:=by
  intro l
  induction l with
  |nil=>intro k _;exact .nil
  |cons v r o=>
   intro k g;rw[AJ,DD,AK];obtain⟨t,e⟩:=g 0 v rfl;refine .cons ?_ (o (k+1) λj p U=>?_)
   ·exact⟨t,by rw[e];simp⟩
   ·have:=g (j+1) p U;rw[show k+1+j=k+(j+1) by simp +arith only];exact this
 have:=key J.toList 0 λj v U=>by rw[Nat.zero_add];exact h.2 j v (by simpa using U)
 rw[len,<-List.range_eq_range'] at this;exact this
def ant:List V->Hp->VK->Prop:=λxs H Q=>∃a,∃n:Nat,xs=[.ref a]/\H a=some (.rng 0 n)/\n<=100000/\∀p,H p=none->Q (.ref p) (upd H p (.lst ((List.range n).map λi:Nat=>V.int (0+(i:Int)))))
theorem yV(hc:X.calm=true):x8 X (.type "list") ant:=by
 intro g s σ H xs us Q I r h;obtain⟨a,n,rfl,j,l,q⟩:=h;obtain⟨u,rfl,p⟩:=r.one;cases (show u=Value.ref a from p);obtain⟨t,u,v,e⟩:=I.hok a _ j;have hb:(100000:Nat)<=sizeLine:=by decide
 have C:Builtin.Range.rangeSize 0 (n:Int) 1=((n:Nat):Int):=by rw[rangeSize_one];split<;>lia
 refine x4 I.tk (call_list_range (I.ok.hd hc) (show IsRange s.heap a 0 (n:Int) 1 t u v from e) (small_one (by decide) (by decide) (by exact A5 _) (by omega)) C (AM l (by decide)) λh' tk U c T hS J ht=>?_);refine⟨.ref s.heap.objs.size,_,I.laid (t':=tk) (o:=.lst ((List.range n).map λi:Nat=>V.int (0+(i:Int)))) T (Aj _) ?_,rfl,q _ (I.hok.fresh (Aj _))⟩;refine⟨by rw[Ab,BG];exact an5,U.toList,c,uT J,?_⟩;rw[hS]
end L2
namespace L3
open PySem L2
theorem alh:bootBuiltins "range"=some (.type "range"):=by decide +kernel
def re(te:xp)(τ:jo)(L:qr)(Q:YK):Prop:=te τ L λy L1=>match y with
 |.int n=>(0<=n/\n<=100000)/\∀p,L1 p=none->Q (.ref p) (qi L1 p (.lst (ai 0 n.toNat)))
 |_=>False
theorem agj(n:Nat):xx G H (ai 0 n) ((List.range n).map λi:Nat=>V.int (0+(i:Int))):=by
 unfold ai;generalize List.range n=l
 induction l with|nil=>rfl|cons k r J=>exact⟨_,_,rfl,rfl,J⟩
theorem uD{J:Pos}(hc:X.calm=true)(I:Gl X "list")(T:X.mg "list"=none)(l:Gl X "range")(o:X.mg "range"=none)(h:QE X e te)
 (h1:starEach [.Call (.Name "range" p2) [e] [] J] X.env=(false,eval (.Call (.Name "range" p2) [e] [] J) X.env)::starEach [] X.env:=by rfl) (h2:(backTo pos (starEach [] X.env)).any (·.1)=false:=by rfl)
 (h3:starEach [e] X.env=(false,eval e X.env)::starEach [] X.env:=by rfl) (h4:(backTo J (starEach [] X.env)).any (·.1)=false:=by rfl):
 QE X (.Call (.Name "list" p) [.Call (.Name "range" p2) [e] [] J] [] pos) (re te):=
 DW (hY (yV hc) I T aC (wn (hY abu l o alh (wn h dD h3) (by decide) (by decide) h3 h4) dD h1) (by decide) (by decide) h1 h2) λσ H Q τ L Q3 rs rl z k=>
 ⟨τ,L,_,rs,rl,z,λv H1 y L1 t1 U r g=>by
  cases y with
  |int n=>
   obtain⟨⟨h0,h5⟩,g⟩:=g;cases (show v=V.int n from r);obtain⟨m,rfl⟩:∃m:Nat,n=(m:Int):=⟨n.toNat,by lia⟩;refine⟨_,rfl,λq t=>⟨q,m,rfl,zg,by lia,λp j=>?_⟩⟩;have C:H1 p=none:=by
    by_cases c:p=q
    ·subst c;exact t
    ·rw[qo c] at j;exact j
   exact k _ _ _ _ (t1.trans ((DV t).trans (DV j))) ((U.skip t).newL j (agj m)) (by rfl) (g p (U.none C))
  |_=>exact g.elim⟩
section
variable {tr:eO}{m:Str}{g:Addr}
end
end L3
namespace TS
open PySem PyProof.Rows
section
variable {w:World}
structure Ord(prog:Program)(w:World)(A:Around)(s:Shared)(κ:SortKind)(Ok:Keyed->Prop)(f:Keyed->Int):Prop where
 lt:∀x y,Ok x->Ok y->∀{E:Value->Shared->Prop} {Q:Bool->Shared->Prop},Q (decide (f x<f y)) s->wpAny (model prog w) A (keyLt' κ x.1 y.1) Q E s
variable {κ:SortKind}{Ok:Keyed->Prop}{f:Keyed->Int}
theorem w_lt(O:Ord prog w A s κ Ok f){st:SortSt}{x y:Keyed}{Q:Option Bool->SortSt->Prop}(J:kindOf st=κ)(U:Ok x)(g:Ok y)(h:Q (some (decide (f x<f y))) st):wpS (model prog w) A E s (lt' x y) Q st:=by rw[lt'_eq];refine Av (wpS_get ?_);rw[J];refine Av (wpS_lift (wpAny_attempt (O.lt x y U g ⟨rfl,?_⟩)));exact AH h
theorem aae{arr:Array Keyed}{x:Keyed}{st:SortSt}{Q:Keyed->SortSt->Prop}(h:arr[i]?=some x)(q:Q x st):wpS (model prog w) A E s (elem' arr i) Q st:=by rw[elem'_eq,h];exact AH q
end
section
variable {f:Keyed->Int}{a b vb:Array Keyed}{ia ib:Nat}
end
section
variable {w:World}{κ:SortKind}{Ok:Keyed->Prop}{f:Keyed->Int}
end
theorem anh(l:List Keyed){k:Nat}(h:i<=k):l.take i++(l.drop i).take (k-i)=l.take k:=by have:=List.take_add (l:=l) (i:=i) (j:=k-i);rw[show i+(k-i)=k by omega] at this;exact this.symm
section
variable {f:Keyed->Int}{a b vb:Array Keyed}{na nb:Nat}
end
section
variable {w:World}{κ:SortKind}{Ok:Keyed->Prop}{f:Keyed->Int}
end
section
variable {w:World}{κ:SortKind}{Ok:Keyed->Prop}{f:Keyed->Int}
theorem ar7{l:List Keyed}(s:l.Pairwise λx y=>f x<=f y)(J:i<=j)(U:j<l.length):f (l[i]'(by exact ae8))<=f l[j]:=by
 rcases Nat.lt_or_eq_of_le J with h|h
 ·exact Do.mp s i j (by exact ae8) U h
 ·subst h;exact C2 _
end
theorem iu{arr:Array α}{P R:List α}(h:arr.toList=P++R)(J:n<=R.length):(mirror arr P.length (P.length+n) ((P.length+n-P.length) / 2)).toList=P++((R.take n).reverse++R.drop n):=by
 have U:arr.size=P.length+R.length:=by rw[<-Bu,h];simp
 refine List.ext_getElem? λk=>?_;rw[Be,getElem?_mirror_all (by lia)];by_cases c:P.length<=k/\k<P.length+n
 ·rw[AB c,<-Be,h,Aw (by omega),Aw (by lia),AG (by simp;omega),CY (by simp;omega),CH,A3,AB (by omega)];congr 1;lia
 ·rw[AC c,<-Be,h];by_cases c2:k<P.length
  ·rw[AG c2,AG c2]
  ·rw[Aw (by exact aa9),Aw (by omega),Aw (by simp;lia),Dl];congr 1;simp;lia
theorem sP{arr:Array α}{P R:List α}{k l:Nat}(h:arr.toList=P++R)(J:k<R.length)(U:l<=k):(bubble arr (P.length+k) (P.length+k-(P.length+l))).toList=P++(R.take l++R[k]::((R.drop l).take (k-l)++R.drop (k+1))):=by
 have g:arr.size=P.length+R.length:=by rw[<-Bu,h];simp
 refine List.ext_getElem? λi=>?_;rw[Be,getElem?_bubble (by lia) _ (by exact Nat.sub_le _ _),show P.length+k-(P.length+k-(P.length+l))=P.length+l by omega];by_cases c1:i=P.length+l
 ·rw[AB c1,<-Be,h,c1,Aw (by exact BA _ _),Aw (by exact BA _ _),Aw (by simp;lia)];rw[show P.length+l-P.length-(R.take l).length=0 by simp;lia,show P.length+k-P.length=k by lia,List.getElem?_cons_zero];simp[J]
 ·rw[AC c1];by_cases c2:P.length+l<i/\i<=P.length+k
  ·rw[AB c2,<-Be,h,Aw (by omega),Aw (by lia),Aw (by simp;lia)];obtain⟨d,hd⟩:∃d,i=P.length+l+d+1:=⟨i-P.length-l-1,by omega⟩;rw[show i-P.length-(R.take l).length=d+1 by simp;lia,CL,AG (by simp;omega),CH,AB (by omega),Dl];congr 1;omega
  ·rw[AC c2,<-Be,h];by_cases c3:i<P.length
   ·rw[AG c3,AG c3]
   ·rw[Aw (by exact aa9),Aw (by omega)];by_cases c4:i<P.length+l
    ·rw[AG (by simp;lia),CH,AB (by omega)]
    ·obtain⟨d,hd⟩:∃d,i=P.length+k+d+1:=⟨i-P.length-k-1,by omega⟩;rw[Aw (by simp;lia),show i-P.length-(R.take l).length=(k-l)+d+1 by simp;lia,CL,Aw (by simp;omega),Dl];congr 1;simp;lia
section
variable {w:World}{κ:SortKind}{Ok:Keyed->Prop}{f:Keyed->Int}
structure Tl(κ:SortKind)(Ok:Keyed->Prop)(st:SortSt)(P R:List Keyed):Prop where
 kind:kindOf st=κ
 arr:(arrOf st).toList=P++R
 ok:∀x∈R,Ok x
theorem iH(O:Ord prog w A s κ Ok f){st:SortSt}{P R:List Keyed}(T:Tl κ Ok st P R)(hi:i<R.length)(U:j<R.length){a b:Nat}(g:a=P.length+i)(l:b=P.length+j){Q:Option Bool->SortSt->Prop}(q:Q (some (decide (f R[i]<f R[j]))) st):wpS (model prog w) A E s (ltAt' a b) Q st:=by
 have J:∀i (hi:i<R.length),(arrOf st)[P.length+i]?=some R[i]:=λi hi=>by rw[<-Be,T.arr,Aw (by exact BA _ _),DE];simp
 subst g l;rw[ltAt'_eq];refine Av (wpS_get ?_);refine Av (aae (J i hi) (Av (aae (J j U) ?_)));exact w_lt O T.kind (T.ok _ (List.getElem_mem _)) (T.ok _ (List.getElem_mem _)) q
def Up(f:Keyed->Int)(R:List Keyed)(n:Nat):Prop:=∀i j (_:i<=j) (_:j<R.length),j<n->f (R[i]'(by exact ae8))<=f R[j]
theorem Up.snoc{R:List Keyed}(h:Up f R n)(h1:1<=n)(l:n<R.length)(hs:f (R[n-1]'(by exact uH))<=f R[n]):Up f R (n+1):=λi j J U g=>by
 rcases De j n with c|c
 ·exact h i j J U c
 ·have e:j=n:=by lia
  subst e;rcases De i j with c2|c2
  ·exact DI (h i (j-1) (by omega) (by exact uH) (by exact ap3)) hs
  ·have e:i=j:=by lia
   subst e;exact C2 _
theorem Up.pair{R:List Keyed}(h:Up f R n)(l:n<=R.length):(R.take n).Pairwise λx y=>f x<=f y:=by rw[Do];intro i j J U g;rw[A3] at J U;rw[Bv,Bv];exact h i j (by exact vH) (by lia) (by lia)
end
section
variable {w:World}{κ:SortKind}{Ok:Keyed->Prop}{f:Keyed->Int}
theorem Tl.same{st:SortSt}{P R R':List Keyed}(T:Tl κ Ok st P R)(p:R'.Perm R){arr:Array Keyed}(h:arr.toList=P++R'):Tl κ Ok (setArr st arr) P R':=⟨T.kind,h,λx J=>T.ok x (p.mem_iff.mp J)⟩
theorem Up.one{R:List Keyed}:Up f R 1:=λi j J U h=>by
 have:i=j:=by lia
 subst this;exact C2 _
theorem i6{c:Prop}{_:Decidable c}{K T:StateT SortSt Sem α}{P:SortSt->Prop}{Q:α->SortSt->Prop}{st:SortSt}(U:¬c->P st)(key:∀J,P J->wpS (model prog w) A E s K Q J)
 (g:c->(∀J,P J->wpS (model prog w) A E s K Q J)->wpS (model prog w) A E s T Q st):wpS (model prog w) A E s (if c then T else K) Q st:=by
 by_cases h:c
 ·rw[AB h];exact g h key
 ·rw[AC h];exact key st (U h)
def fu(f:Keyed->Int)(R:List Keyed)(n:Nat):Prop:=∀i j (_:i<=j) (_:j<R.length),j<n->f R[j]<=f (R[i]'(by exact ae8))
theorem acg{R R':List Keyed}(e:R'.map f=R.map f)(h1:i<R'.length)(h2:i<R.length):f R'[i]=f R[i]:=by
 have:(R'.map f)[i]?=(R.map f)[i]?:=by rw[e]
 rw[An,An,Af h1,Af h2] at this;exact AN this
theorem fu.same{R R':List Keyed}(D:fu f R n)(e:R'.map f=R.map f):fu f R' n:=λi j J g U=>by
 have l:R'.length=R.length:=by have:=Bt List.length e;rwa[Ab,Ab] at this
 rw[acg e g (by lia),acg e (by lia) (by lia)];exact D i j J (by lia) U
theorem fu.snoc{R:List Keyed}(h:fu f R n)(h1:1<=n)(l:n<R.length)(hs:f R[n]<=f (R[n-1]'(by exact uH))):fu f R (n+1):=λi j J U g=>by
 rcases De j n with c|c
 ·exact h i j J U c
 ·have e:j=n:=by lia
  subst e;rcases De i j with c2|c2
  ·exact DI hs (h i (j-1) (by omega) (by exact uH) (by exact ap3))
  ·have e:i=j:=by lia
   subst e;exact C2 _
theorem lI{arr:Array Keyed}{P R:List Keyed}{a b:Nat}{v:Int}(h:arr.toList=P++R)(g:a<=b)(o:b<=R.length)(j:∀i (_:i<R.length),a<=i->i<b->f R[i]=v):
 ∃R',(mirror arr (P.length+a) (P.length+b) ((P.length+b-(P.length+a)) / 2)).toList=P++R'/\R'.Perm R/\R'.map f=R.map f:=by
 have l:(P++R.take a).length=P.length+a:=by simp;lia
 have J:R=R.take a++((R.drop a).take (b-a)++(R.drop a).drop (b-a)):=by rw[A8,A8]
 have m:=iu (P:=P++R.take a) (R:=R.drop a) (n:=b-a) (by rw[h,AR,A8]) (by simp;lia);rw[l,show P.length+a+(b-a)=P.length+b by lia,AR] at m;refine⟨_,m,?_,?_⟩
 ·refine List.Perm.trans ?_ (List.Perm.of_eq J.symm);exact(Dp _).mpr ((Ct _).mpr (Ds _))
 ·have r:((R.drop a).take (b-a)).map f=List.replicate (b-a) v:=by refine List.ext_getElem (by simp;lia) λi h1 h2=>?_;rw[List.getElem_map,Bv,List.getElem_drop,List.getElem_replicate];rw[BQ] at h2;exact j _ _ (by lia) (by lia)
  have U:=Bt (List.map f) J;rw[Am,Am,r] at U;rw[Am,Am,List.map_reverse,r,List.reverse_replicate,U]
theorem agc(O:Ord prog w A s κ Ok f){st:SortSt}{P R:List Keyed}(T:Tl κ Ok st P R)(h1:1<=R.length){Q:Option Nat->SortSt->Prop}
 (q:∀n R' arr,1<=n->n<=R.length->R'.Perm R->arr.toList=P++R'->Up f R' n->Q (some n) (setArr st arr)):wpS (model prog w) A E s (countRun' P.length R.length) Q st:=by
 have bc:setArr st (arrOf st)=st:=rfl;refine Av (wpS_mono (Bp (I:=λx c g=>g=st/\c=(none,x)/\Up f R x)
  (Q:=λc g=>g=st/\∃n,c=(none,n)/\1<=n/\n<=R.length/\Up f R n/\(n=R.length\/∃h:n<R.length,f R[n]<f (R[n-1]'(by exact uH)))) ?_ ?_ ⟨rfl,rfl,Up.one⟩) ?_)
 ·rintro x c g t hx ⟨rfl,rfl,U⟩;dsimp only;refine Av (iH O T (i:=x) (j:=x-1) hx (by exact uH) rfl (by lia) ?_);dsimp only;by_cases c:f R[x]<f (R[x-1]'(by omega))
  ·rw[AE c,AB rfl];exact AH ⟨rfl,x,rfl,t,by exact vH,U,.inr ⟨hx,c⟩⟩
  ·rw[Au c,AC (by simp)];exact AH ⟨rfl,rfl,U.snoc t hx (by omega)⟩
 ·rintro c g ⟨rfl,rfl,U⟩;exact⟨rfl,_,rfl,by lia,by lia,by rw[CZ h1] at *;exact U,.inl (by lia)⟩
 ·rintro c g ⟨rfl,n,rfl,a3,a4,U,ag⟩;dsimp only;by_cases c1:(n==R.length)=true
  ·rw[AB c1];exact AH (q n R (arrOf g) a3 a4 (B3 _) T.arr U)
  rw[AC c1];have c1:¬n=R.length:=by simpa using c1
  have au:n<R.length:=by exact at6
  have hd:f R[n]<f (R[n-1]'(by omega)):=by
   rcases ag with h|⟨h,h'⟩
   ·exact absurd h c1
   ·exact h'
  refine i6 (P:=λo=>∃arr R',o=setArr g arr/\arr.toList=P++R'/\R'.Perm R/\fu f R' (n+1)) (λc2=>⟨arrOf g,R,rfl,T.arr,B3 _,?_⟩) ?_ (λc2 key=>?_)
  ·obtain rfl:n=1:=by lia
   exact fu.snoc (λi j av hj a5=>by (have e:i=j:=by lia);(subst e;exact C2 _)) (Aj _) au (Df hd)
  rotate_left
  ·refine Av (iH O T (i:=0) (j:=n-1) (by assumption) (by exact uH) rfl (by omega) ?_);dsimp only;by_cases c3:f R[0]<f (R[n-1]'(by omega))
   ·rw[AE c3,AB rfl];exact AH (q n R (arrOf g) a3 a4 (B3 _) T.arr U)
   rw[Au c3,AC (by simp)];have al:∀i (_:i<R.length),0<=i->i<n->f R[i]=f R[0]:=λi hi _ bb=>by have a1:=U 0 i (Bf _) hi bb;have a2:=U i (n-1) (by lia) (by lia) (by lia);lia
   obtain⟨R',m1,m2,m3⟩:=lI (f:=f) T.arr (Bf n) a4 al;refine Av (wpS_modify (key _ ⟨_,R',rfl,m1,m2,fu.same (fu.snoc (λi j av hj a5=>?_) a3 au (Df hd)) m3⟩));rw[al j hj (Bf _) a5,al i (by lia) (Bf _) (by lia)];exact C2 _
  rintro _ ⟨arr,R0,rfl,r,aL,D0⟩;refine Av (wpS_lift (BB ⟨rfl,?_⟩));have l0:R0.length=R.length:=aL.length_eq;refine Av (wpS_mono (Bp (I:=λx c o=>∃J arr R',c=(none,x,J)/\o=setArr g arr/\arr.toList=P++R'/\R'.Perm R/\fu f R' x/\J+1<=x/\∃v,∀i (_:i<R'.length),x-(J+1)<=i->i<x->f R'[i]=v)
   (Q:=λc o=>∃n J arr R',c=(none,n,J)/\o=setArr g arr/\arr.toList=P++R'/\R'.Perm R/\fu f R' n/\J+1<=n/\n<=R.length/\∃v,∀i (_:i<R'.length),n-(J+1)<=i->i<n->f R'[i]=v) ?_ ?_ ⟨0,arr,R0,rfl,rfl,r,aL,D0,by lia,f (R0[n]'(by lia)),λi hi h2 h3=>by (have e:i=n:=by lia);(subst e;rfl)⟩) ?_)
  ·rintro x c o t hx ⟨J,arr,p,rfl,rfl,r,l,D,hq,v,C⟩;have l1:p.length=R.length:=l.length_eq;have T1:=T.same l r;dsimp only;refine Av (iH O T1 (i:=x) (j:=x-1) (by lia) (by lia) rfl (by lia) ?_);dsimp only;by_cases c:f (p[x]'(by lia))<f (p[x-1]'(by omega))
   ·rw[AE c,AB rfl];refine i6 (P:=λo=>∃arr R',o=setArr g arr/\arr.toList=P++R'/\R'.Perm R/\fu f R' (x+1)) (λ_=>⟨arr,p,rfl,r,l,D.snoc (by lia) (by lia) (Df c)⟩) ?_ (λc2 key=>?_)
    ·rintro _ ⟨arr,R',rfl,r,l,D⟩;exact AH ⟨0,arr,R',rfl,rfl,r,l,D,by lia,f (R'[x]'(by have:=l.length_eq;lia)),λi hi h2 h3=>by (have e:i=x:=by lia);(subst e;rfl)⟩
    ·obtain⟨R',m1,m2,m3⟩:=lI (f:=f) (a:=x-(J+1)) (b:=x) r (by lia) (by lia) C;refine Av (wpS_modify (key _ ⟨_,R',rfl,?_,m2.trans l,fu.same (D.snoc (by lia) (by lia) (Df c)) m3⟩));rw[<-m1];show(mirror arr (P.length+x-(J+1)) (P.length+x) ((P.length+x-(P.length+x-(J+1))) / 2)).toList=_;rw[show P.length+x-(J+1)=P.length+(x-(J+1)) by lia]
   ·rw[Au c,AC (by simp)];refine Av (iH O T1 (i:=x-1) (j:=x) (by omega) (by lia) (by lia) rfl ?_);dsimp only;by_cases c3:f (p[x-1]'(by omega))<f (p[x]'(by lia))
    ·rw[AE c3,AB rfl];exact AH ⟨x,J,arr,p,rfl,rfl,r,l,D,hq,by lia,v,C⟩
    ·rw[Au c3,AC (by simp)];refine AH ⟨J+1,arr,p,rfl,rfl,r,l,D.snoc (by lia) (by lia) (by lia),by lia,v,λi hi h2 h3=>?_⟩;rcases De i x with h|h
     ·exact C i hi (by lia) h
     ·have:i=x:=by lia
      subst this;rw[<-C (i-1) (by lia) (by lia) (by lia)];lia
  ·rintro c o ⟨J,arr,p,rfl,rfl,r,l,D,hq,v,C⟩;exact⟨_,J,arr,p,rfl,rfl,r,l,D,hq,by lia,v,C⟩
  ·rintro c o ⟨n,J,arr,p,rfl,rfl,r,l,D,hq,g2,v,C⟩;have l1:p.length=R.length:=l.length_eq;dsimp only;refine i6 (P:=λo=>∃arr R',o=setArr g arr/\arr.toList=P++R'/\R'.Perm R/\fu f R' n) (λ_=>⟨arr,p,rfl,r,l,D⟩) ?_ (λc2 key=>?_)
   rotate_left
   ·obtain⟨R',m1,m2,m3⟩:=lI (f:=f) (a:=n-(J+1)) (b:=n) r (by lia) (by lia) C;refine Av (wpS_modify (key _ ⟨_,R',rfl,?_,m2.trans l,D.same m3⟩));rw[<-m1];show(mirror arr (P.length+n-(J+1)) (P.length+n) ((P.length+n-(P.length+n-(J+1))) / 2)).toList=_;rw[show P.length+n-(J+1)=P.length+(n-(J+1)) by lia]
   clear C D r l l1;rintro _ ⟨arr,p,rfl,r,l,D⟩;have l1:p.length=R.length:=l.length_eq;have T1:=T.same l r;have T':=T1.same (R':=(p.take n).reverse++p.drop n) (((Ct _).mpr (Ds _)).trans (by rw[A8])) (iu r (by lia));obtain⟨R',eR⟩:∃R',R'=(p.take n).reverse++p.drop n:=⟨_,rfl⟩;have ba:R'.Perm R:=by rw[eR];exact(((Ct _).mpr (Ds _)).trans (by rw[A8])).trans l
   have lR:R'.length=R.length:=ba.length_eq;have U':Up f R' n:=λi j av hj a5=>by
    subst eR;rw[Dy (by simp;lia),Dy (by simp;lia),List.getElem_reverse,List.getElem_reverse,Bv,Bv];refine D _ _ ?_ (by simp;omega) ?_
    ·simp;omega
    ·simp;omega
   rw[<-eR] at T';refine Av (wpS_modify ?_);refine Av (wpS_mono (Bp (I:=λx c o=>o=setArr g (mirror arr P.length (P.length+n) ((P.length+n-P.length) / 2))/\c=(none,x)/\Up f R' x)
    (Q:=λc o=>o=setArr g (mirror arr P.length (P.length+n) ((P.length+n-P.length) / 2))/\∃n,c=(none,n)/\1<=n/\n<=R.length/\Up f R' n) ?_ ?_ ⟨rfl,rfl,U'⟩) ?_)
   ·rintro x c o t hx ⟨rfl,rfl,U⟩;dsimp only;refine Av (iH O T' (i:=x) (j:=x-1) (by lia) (by omega) rfl (by lia) ?_);dsimp only;by_cases c:f (R'[x]'(by omega))<f (R'[x-1]'(by omega))
    ·rw[AE c,AB rfl];exact AH ⟨rfl,x,rfl,by lia,by exact vH,U⟩
    ·rw[Au c,AC (by simp)];exact AH ⟨rfl,rfl,U.snoc (by omega) (by lia) (by omega)⟩
   ·rintro c o ⟨rfl,rfl,U⟩;exact⟨rfl,_,rfl,by lia,by lia,U⟩
   ·rintro c o ⟨rfl,n,rfl,k1,k2,U⟩;exact AH (q n R' _ k1 k2 ba T'.arr U)
end
section
variable {w:World}{κ:SortKind}{Ok:Keyed->Prop}{f:Keyed->Int}
theorem Up.of{R:List Keyed}(h:(R.take n).Pairwise λx y=>f x<=f y):Up f R n:=λi j J g U=>by have:=ar7 h (i:=i) (j:=j) J (by simp;lia);rw[Bv,Bv] at this;exact this
theorem aaq{R:List Keyed}{k l:Nat}(J:k<R.length)(U:l<=k):(R.take l++R[k]::((R.drop l).take (k-l)++R.drop (k+1))).Perm R:=by
 have e:R=R.take l++((R.drop l).take (k-l)++(R[k]::R.drop (k+1))):=by rw[<-AR,anh _ U,<-Cy J,A8]
 refine List.Perm.trans ?_ (List.Perm.of_eq e.symm);exact(Dp _).mpr Cv.symm
theorem ak3{R:List Keyed}{k l:Nat}(r:k<R.length)(t:l<=k)(U:Up f R k)(lo:∀i (_:i<l),f (R[i]'(by lia))<=f R[k])(hi:∀i (_:i<k),l<=i->f R[k]<=f (R[i]'(by exact abd))):
 Up f (R.take l++R[k]::((R.drop l).take (k-l)++R.drop (k+1))) (k+1):=by
 apply Up.of;have e:R.take l++R[k]::((R.drop l).take (k-l)++R.drop (k+1))=(R.take l++R[k]::(R.drop l).take (k-l))++R.drop (k+1):=by simp
 rw[e,List.take_left' (by simp;lia)];have J:=U.pair (Bi r);rw[<-anh R t] at J;have J:=C3.mp J;have C:∀y∈(R.drop l).take (k-l),f R[k]<=f y:=λy g=>by obtain⟨j,p,rfl⟩:=List.getElem_of_mem g;rw[A3,Cu] at p;rw[Bv,List.getElem_drop];exact hi (l+j) (by lia) (by exact BA _ _)
 have I:∀x∈R.take l,f x<=f R[k]:=λx o=>by obtain⟨j,p,rfl⟩:=List.getElem_of_mem o;rw[A3] at p;rw[Bv];exact lo j (by lia)
 refine C3.mpr ⟨J.1,List.pairwise_cons.mpr ⟨C,J.2.1⟩,λx o y g=>?_⟩;rcases Ao.mp g with rfl|g
 ·exact I x o
 ·exact J.2.2 x o y g
theorem ap2(O:Ord prog w A s κ Ok f){st:SortSt}{P R:List Keyed}(T:Tl κ Ok st P R){ok:Nat}(hn:n<=R.length)(h1:1<=ok)(ho:ok<=n)(U:Up f R ok){Q:Bool->SortSt->Prop}
 (q:∀R' arr,R'.Perm R->arr.toList=P++R'->Up f R' n->Q true (setArr st arr)):wpS (model prog w) A E s (binarySort' P.length n ok) Q st:=by
 have a1:setArr st (arrOf st)=st:=rfl;refine Av (wpS_mono (Bp (I:=λx c J=>c=(none,())/\∃R' arr,J=setArr st arr/\R'.Perm R/\arr.toList=P++R'/\Up f R' x)
  (Q:=λc J=>c=(none,())/\∃R' arr,J=setArr st arr/\R'.Perm R/\arr.toList=P++R'/\Up f R' n) ?_ ?_ ⟨rfl,R,arrOf st,rfl,B3 _,T.arr,by rw[C6 h1];exact U⟩) ?_)
 ·rintro x c J a2 hx ⟨rfl,R',arr,rfl,p,t,o⟩;have T':=T.same p t;have lR:R'.length=R.length:=p.length_eq;have g:x<R'.length:=by lia
  dsimp only;refine Av (wpS_mono (Bp (I:=λy c J=>J=setArr st arr/\∃l r,c=(none,l,r)/\l<=r/\r<=x/\r-l+y<=x/\(∀i (_:i<l) (_:i<R'.length),f R'[i]<=f R'[x])/\(∀i (_:i<x),r<=i->f R'[x]<=f (R'[i]'(by exact abd))))
   (Q:=λc J=>J=setArr st arr/\∃l,c=(none,l,l)/\l<=x/\(∀i (_:i<l) (_:i<R'.length),f R'[i]<=f R'[x])/\(∀i (_:i<x),l<=i->f R'[x]<=f (R'[i]'(by lia)))) ?_ ?_ ⟨rfl,0,x,rfl,Bf _,Aj _,by exact Nat.sub_le _ _,λi h=>by lia,λi h h'=>by omega⟩) ?_)
  ·rintro y c J _ hy ⟨rfl,l,r,rfl,g1,g2,g3,C,g5⟩;dsimp only;by_cases c:l>=r
   ·rw[AB c];obtain rfl:l=r:=by lia
    exact AH ⟨rfl,l,rfl,g2,C,g5⟩
   ·rw[AC c];refine Av (iH O T' (i:=x) (j:=(l+r) / 2) g (by lia) rfl rfl ?_);dsimp only;by_cases e:f R'[x]<f (R'[(l+r) / 2]'(by lia))
    ·rw[AE e,AB rfl];refine AH ⟨rfl,l,(l+r) / 2,rfl,by lia,by lia,by omega,C,λi h h'=>?_⟩;exact DI (Df e) (o _ _ h' (by exact abd) h)
    ·rw[Au e,AC (by simp)];refine AH ⟨rfl,(l+r) / 2+1,r,rfl,by lia,g2,by omega,λi h h'=>?_,g5⟩;exact DI (o i ((l+r) / 2) (by exact ar2) (by lia) (by lia)) (by omega)
  ·rintro c J ⟨rfl,l,r,rfl,g1,g2,g3,C,g5⟩;obtain rfl:l=r:=by lia
   exact⟨rfl,l,rfl,g2,C,g5⟩
  ·rintro c J ⟨rfl,l,rfl,g2,C,g5⟩;dsimp only;refine Av (wpS_modify ?_);exact AH ⟨rfl,_,_,rfl,(aaq g g2).trans p,sP t g g2,ak3 g g2 o (λi h=>C i h (by lia)) g5⟩
 ·rintro c J ⟨rfl,R',arr,rfl,p,t,o⟩;exact⟨rfl,R',arr,rfl,p,t,by rw[C6 h1,CZ ho] at o;exact o⟩
 ·rintro c J ⟨rfl,R',arr,rfl,p,t,o⟩;exact AH (q R' arr p t o)
end
section
variable {w:World}{κ:SortKind}{Ok:Keyed->Prop}{f:Keyed->Int}
end
open PySem PyProof.Rows PySem.W
def amy(h:Heap)(B:Int)(x:Keyed):Prop:=∃a o n r p t u,x.1=.ref a/\h.get? a=some o/\o.data=.seq #[.int r t,.int p u] n/\0<=p/\p<B
noncomputable def num(h:Heap)(B:Int)(x:Keyed):Int:=match x.1 with
 |.ref a=>match h.get? a with
  |some o=>match o.data with
   |.seq xs _=>match xs.toList with
    |[.int r _,.int p _]=>r*B+p
    |_=>0
   |_=>0
  |none=>0
 |_=>0
theorem uj{B:Int}{x:Keyed}{o:Obj}{r p:Int}{t u:Tok}(J:x.1=.ref a)(U:h.get? a=some o)(g:o.data=.seq #[.int r t,.int p u] n):num h B x=r*B+p:=by unfold num;simp[J,U,g]
theorem ac5{w:World}{B:Int}:Ord prog w A s (tuples' true) (amy s.heap B) (num s.heap B):=by
 constructor;rintro x y ⟨a1,o1,n1,J,U,t,C,o,g1,d1,b1,c1⟩ ⟨a2,o2,n2,g,j,I,T,p,g2,d2,b2,c2⟩ E Q h;rw[uj o g1 d1,uj p g2 d2] at h;rw[o,p];refine kat_lt g1 d1 g2 d2 ?_;show KatLex prog w A true _ Q [(.int J t,.int g I),(.int U C,.int j T)] 0 s;refine kat_cons (wpAny_eqBool_int ?_);by_cases c:J=g
 ·subst c;rw[beq_self_eq_true];refine kat_yes (kat_cons (wpAny_eqBool_int ?_));by_cases r:U=j
  ·subst r;rw[beq_self_eq_true];refine kat_yes (kat_nil ?_);have e:decide (J*B+U<J*B+U)=false:=Au (by lia);rw[e] at h;exact h
  ·rw[DN r];refine kat_no (kat_one _ _ (PyProof.Rows.lt_int ?_));have e:decide (J*B+U<J*B+j)=decide (U<j):=by
    by_cases z:U<j
    ·rw[AE z];exact AE (by lia)
    ·rw[Au z];exact Au (by lia)
   rw[e] at h;exact h
 ·rw[DN c];refine kat_no (oneLt_int ?_);have e:decide (J*B+U<g*B+j)=decide (J<g):=by
   by_cases z:J<g
   ·rw[AE z];have l:(J+1)*B<=g*B:=C0 (by assumption) (by lia);rw[Int.add_mul,Int.one_mul] at l;exact AE (by omega)
   ·rw[Au z];have l:(g+1)*B<=J*B:=C0 (by lia) (by lia);rw[Int.add_mul,Int.one_mul] at l;exact Au (by lia)
  rw[e] at h;exact h
section
variable {w:World}{κ:SortKind}{Ok:Keyed->Prop}{f:Keyed->Int}
theorem ab0{N:Nat}(h1:1<=N)(h:N<64):(sortPriv% PySem.Builtin.minRun) N N 0=N:=by obtain⟨r,rfl⟩:∃r,N=r+1:=⟨N-1,by omega⟩;show minRun' (r+1) (r+1) 0=r+1;rw[minRun'_succ,AB h]
structure Srt(f:Keyed->Int)(l:List Keyed)(st:SortSt):Prop where
 fl:failedOf st=none
 pn:(pendingOf st).size<=1
 pm:(arrOf st).toList.Perm l
 pw:(arrOf st).toList.Pairwise λx y=>f x<=f y
theorem acd(O:Ord prog w A s κ Ok f){st:SortSt}{Q:Unit->SortSt->Prop}(p:(arrOf st).size<64)(hk:kindOf st=κ)(t:pendingOf st=#[])(hf:failedOf st=none)(ok:∀x∈(arrOf st).toList,Ok x)
 (q:∀J,failedOf J=none->(arrOf J).toList.Perm (arrOf st).toList->((arrOf J).toList.Pairwise λx y=>f x<=f y)->Q () J):wpS (model prog w) A E s sortRuns' Q st:=by
 refine Av (wpS_get ?_);dsimp only;have lN:(arrOf st).toList.length=(arrOf st).size:=Bu;obtain⟨N,eN⟩:∃N,N=(arrOf st).size:=⟨_,rfl⟩;rw[<-eN] at p lN ⊢;obtain⟨R,C⟩:∃R,R=(arrOf st).toList:=⟨_,rfl⟩;rw[<-C] at lN ok q;generalize a1:(sortPriv% PySem.Builtin.minRun) N N 0=mr;refine Av (wpS_mono (Bp (I:=λx c J=>∃lo,c=(none,lo)/\((x=0/\lo=0/\J=st)\/(lo=N/\Srt f R J)))
  (Q:=λc J=>∃lo,c=(none,lo)/\Srt f R J) ?_ ?_ ⟨0,rfl,.inl ⟨rfl,rfl,rfl⟩⟩) ?_)
 ·rintro x c J _ hx ⟨lo,rfl,h⟩;dsimp only;by_cases c:lo>=N
  ·rw[AB c];rcases h with⟨h1,h2,_⟩|⟨_,h⟩
   ·omega
   ·exact AH ⟨lo,rfl,h⟩
  rw[AC c];obtain⟨rfl,rfl,rfl⟩:x=0/\lo=0/\J=st:=by
   rcases h with h|⟨h,_⟩
   ·exact h
   ·omega
  have em:mr=N:=by rw[<-a1];exact ab0 (by omega) p
  subst em;have T:Tl κ Ok J [] R:=⟨hk,C.symm,ok⟩;rw[DJ,<-lN];refine Av (agc O T (by omega) λn R1 g g1 g2 j r U1=>?_);dsimp only;have T1:=T.same j r;have l1:R1.length=R.length:=j.length_eq;have jw:∀(arr:Array Keyed) (R2:List Keyed) (o:Nat),R2.Perm R->arr.toList=[]++R2->Up f R2 R.length->o=R.length->∃lo,((none,0+o):Option Unit×Nat)=(none,lo)/\((0+1=0/\lo=0/\setPending (setArr J arr) ((pendingOf (setArr J arr)).push (0,o,0))=J)\/(lo=R.length/\Srt f R (setPending (setArr J arr) ((pendingOf (setArr J arr)).push (0,o,0))))):=λarr R2 o p2 e2 U2 en=>by
   refine⟨0+o,rfl,.inr ⟨by omega,⟨hf,?_,?_,?_⟩⟩⟩
   ·show((pendingOf J).push (0,o,0)).size<=1;rw[t];exact Aj 1
   ·show arr.toList.Perm R;rw[e2];exact p2
   ·show arr.toList.Pairwise _;rw[e2];have:=U2.pair (by rw[p2.length_eq];exact Aj _);rw[<-p2.length_eq,A9] at this;exact this
  by_cases cm:n<R.length
  ·rw[AB cm];refine Av (wpS_lift (BB ⟨rfl,?_⟩));rw[Nat.min_self];refine Av (ap2 O T1 (by omega) g1 (by omega) U1 λR2 l a2 a3 U2=>?_);rw[AC (by simp)];refine Av (wpS_get ?_);have eb:(pendingOf (setArr (setArr J g) l)).back?=none:=by show(pendingOf J).back?=none;rw[t];rfl
   rw[eb];exact Av (wpS_modify (AH (jw l R2 _ (a2.trans j) a3 U2 rfl)))
  ·rw[AC cm];refine Av (wpS_get ?_);have eb:(pendingOf (setArr J g)).back?=none:=by show(pendingOf J).back?=none;rw[t];rfl
   rw[eb];have en:n=R.length:=by omega
   exact Av (wpS_modify (AH (jw g R1 _ j r (en▸U1) en)))
 ·rintro c J ⟨lo,rfl,h⟩;refine⟨lo,rfl,?_⟩;rcases h with⟨h1,h2,rfl⟩|⟨_,h⟩
  ·have:R=[]:=BE (by omega);refine⟨hf,by rw[t];exact Bf _,by rw[<-C],?_⟩;rw[<-C,this];exact List.Pairwise.nil
  ·exact h
 ·rintro c J ⟨lo,rfl,h⟩;dsimp only;refine Av (wpS_mono (Bp (I:=λy c U=>c=(none,())/\Srt f R U) (Q:=λc U=>c=(none,())/\Srt f R U) ?_ ?_ ⟨rfl,h⟩) ?_)
  ·rintro y c U _ hy ⟨rfl,h3⟩;refine Av (wpS_get ?_);rw[AB h3.pn];exact AH ⟨rfl,h3⟩
  ·rintro c U h3;exact h3
  ·rintro c U ⟨rfl,h3⟩;exact AH (q U h3.fl h3.pm h3.pw)
end
section
variable {w:World}
def yK(h:Heap)(B:Int)(v:Value):Prop:=∃a o n r p t u,v=.ref a/\h.get? a=some o/\o.cls=.type "tuple" /\ o.data=.seq #[.int r t,.int p u] n/\0<=p/\p<B
theorem yK.pair{B:Int}{x:Keyed}(k:yK h B x.1):amy h B x:=by obtain⟨a,o,n,r,p,t,u,J,U,_,g,j,l⟩:=k;exact⟨a,o,n,r,p,t,u,J,U,g,j,l⟩
theorem tups{h:Heap}{B:Int}:∀{ks:List Value},(∀v∈ks,yK h B v)->∃fs,KatTups h ks fs/\fs.length=ks.length/\∀v∈fs,∃r t,v=Value.int r t
 |[],_=>⟨[],trivial,rfl,λv J=>by simp at J⟩
 |k::ks,U=>by
  obtain⟨fs,h1,h2,h3⟩:=tups (ks:=ks) λv J=>U v (Ae _ J);obtain⟨a,o,n,r,p,t,u,rfl,g,j,l,_,_⟩:=U k (Ak ..);refine⟨.int r t::fs,KatTups.cons g j l rfl h1,by simp[h2],λv J=>?_⟩;rcases Ao.mp J with rfl|J
  ·exact⟨r,t,rfl⟩
  ·exact h3 v J
theorem akh{B:Int}{ks:List Value}{Q:SortKind->Shared->Prop}(J:∀v∈ks,yK s.heap B v)(h0:0<ks.length)(q:Q (tuples' true) s):wpAny (model prog w) A (keyKind' ks.toArray) Q E s:=by
 obtain⟨fs,h1,h2,h3⟩:=tups J;refine kat_kind (T:=.type "int") h1 (by lia) (λv U=>?_) (by decide) ?_
 ·obtain⟨r,t,rfl⟩:=h3 v U;exact .now
 ·exact q
theorem adr{R:α->α->Prop}:∀{l:List α},l.length<2->l.Pairwise R
 |[],_=>List.Pairwise.nil
 |[_],_=>List.pairwise_singleton _ _
 |_::_::_,h=>absurd h (by simp)
theorem an1{kS:Addr}{vs ks:List Value}{e j:Nat}{B:Int}{P:PySem.Fin->Shared->Prop}(p:s.heap.get? kS=some (seqObj "list" ks.toArray e))(ha:s.heap.get? a=some (seqObj "list" #[] j))(r:kS≠a)(hl:ks.length=vs.length)(t:vs.length<=63)
 (T:∀v∈ks,yK s.heap B v)
 (h:∀h' tk (xs:List Keyed) c,(∀b,b≠kS->b≠a->h'.get? b=s.heap.get? b)->h'.get? a=some (seqObj "list" (List.toArray (xs.map (·.2))) c)->xs.Perm (ks.zip vs)->(xs.Pairwise λx y=>num s.heap B x<=num s.heap B y)->P (.done (.ret .none)) { s with heap:=h',toks:=tk }):
 wpAny (model prog w) A (ksk_end a false vs.toArray j (.ref kS) ks.toArray) P E s:=by
 have hz:vs.length<=sizeLine:=AM t (by decide);have l:(ks.toArray.zip vs.toArray).toList=ks.zip vs:=by simp
 have tail:∀st:SortSt,failedOf st=none->(arrOf st).toList.Perm (ks.zip vs)->((arrOf st).toList.Pairwise λx y=>num s.heap B x<=num s.heap B y)->wpAny (model prog w) A (ksk_tail a false j (.ref kS) st) P E s:=by
  intro st hf hp hs;have s1:=Eg s.heap kS (Obj.mapSeq λ_=>(#[]:Array Value));have U:(s.heap.update kS (Obj.mapSeq λ_=>(#[]:Array Value))).get? a=some (seqObj "list" #[] j):=(s1.2 a r.symm).trans ha;have s2:=Eg (s.heap.update kS (Obj.mapSeq λ_=>(#[]:Array Value))) a (Obj.mapSeq λ_=>(arrOf st).map (·.2));have len:((arrOf st).map (·.2)).size<=sizeLine:=by have:=hp.length_eq;rw[DO,Bu] at this;rw[Array.size_map];lia
  unfold ksk_tail
  try dsimp only
  refine Aa (listUpdate_at p rfl ?_ (by rw[Al];lia) (Bf _));refine Aa (wpAny_letGo ?_);refine Aa (seqEpoch_at U rfl ?_);refine Aa (listUpdate_at U rfl ?_ (Bf _) (by simp only[BO,if_false];exact BW len));rw[hf];simp only[bne_self_eq_false,BO,if_false];obtain⟨c2,g⟩:∃c2,((s.heap.update kS (Obj.mapSeq λ_=>(#[]:Array Value))).update a (Obj.mapSeq λ_=>(arrOf st).map (·.2))).get? a=some (seqObj "list" ((arrOf st).map (·.2)) c2):=⟨_,get?_update_seq U λ_=>(arrOf st).map (·.2)⟩;refine Ag (h _ _ (arrOf st).toList c2 (λb C I=>?_) ?_ hp hs)
  ·exact(s2.2 b I).trans (s1.2 b C)
  ·have em:(arrOf st).map (·.2)=List.toArray ((arrOf st).toList.map (·.2)):=by apply Array.toList_inj.mp;rw[Array.toList_map]
   rw[em] at g ⊢;exact g
 unfold ksk_end;simp only[BO,if_false];by_cases h2:vs.toArray.size<2
 ·rw[AB h2,AB h2];refine Aa (Ag ?_);rw[StateT.run_pure];refine Aa (Ag ?_);refine tail _ rfl (by show(ks.toArray.zip vs.toArray).toList.Perm _;rw[l]) ?_;show(ks.toArray.zip vs.toArray).toList.Pairwise _;rw[l];rw[Al] at h2;have:(ks.zip vs).length<2:=by rw[DO];lia
  exact adr this
 ·rw[AC h2,AC h2];rw[Al] at h2;refine Aa (akh T (by omega) ?_);refine Aa (AO (acd (E:=E) (ac5 (B:=B)) (st:=SortSt.mk' (tuples' true) (ks.toArray.zip vs.toArray) #[] 7 none)
   (Q:=λ_ J=>failedOf J=none/\(arrOf J).toList.Perm (ks.zip vs)/\((arrOf J).toList.Pairwise λx y=>num s.heap B x<=num s.heap B y)) (by show(ks.toArray.zip vs.toArray).size<64;simp;omega) rfl rfl rfl (λx o=>?_) λJ b1 b2 b3=>⟨b1,?_,b3⟩) ?_ λ_ _ e=>e)
  ·have o:x∈(ks.toArray.zip vs.toArray).toList:=o;rw[l] at o;exact yK.pair (T _ (C5 (a:=x.1) (b:=x.2) o).1)
  ·have b2:(arrOf J).toList.Perm (ks.toArray.zip vs.toArray).toList:=b2;rw[l] at b2;exact b2
  ·rintro⟨⟨⟩,J⟩ s' ⟨rfl,b1,b2,b3⟩;exact tail J b1 b2 b3
end
section
variable {w:World}
end
end TS
namespace L2
open PySem PySem.Spec PyProof.Rows
end L2
namespace L3
open PySem L2
open PySem L2 Words
def bO:Wd->Y
 |.leaf t n=>.tup [.str (kL t),.str n]
 |.node e l r=>.tup [.str (kN e),bO l,bO r]
def fQ:Y:=(.tup [(.str "plain"),(.str "turned")])
theorem qm{Q:α->qr->Prop}{o:Option α}{v:α}(e:o=some v)(h:Q v L):tV L Q o:=by rw[e];exact h
abbrev zk(i:Int):xp:=yC (.int i)
abbrev dR(x:Str):xp:=yC (.str x)
abbrev xc(i:Nat)(n:Int):xp:=zb wz (q9 i) (yC (.int n))
abbrev bT(i:Nat):xp:=jS kF (qd (q9 i) z0)
abbrev dk(a b:xp):jN:=yB (zb (tW false) a b)
abbrev rdN(a b:xp):jN:=yB (zb (tW true) a b)
abbrev rdT(a b:xp):xp:=kg (qd a (qd b z0))
abbrev vk(a:xp):eO:=qd a z0
abbrev aH(a b:xp):eO:=qd a (qd b z0)
def xP:vt:=(zy (zb (mG false) (xc 0 0) (yC fQ)))
def kX:Bool->Bool->Str
 |true,t=>kL t
 |false,e=>kN e
def fi:jl:=λys L Q=>∃lf b rest,ys=[.tup (.str (kX lf b)::rest)]/\Q (.bl lf) L
theorem yh(t:Bool):u3 (.str (kL t)) [.str "plain",.str "turned"]=true:=by cases t<;>decide +kernel
theorem zE(t:Bool):u3 (.str (kN t)) [.str "plain",.str "turned"]=false:=by cases t<;>decide +kernel
theorem uW:∀ys L Q,fi ys L Q->xj xP 1 ys L Q:=by
 rintro ys L Q ⟨lf,b,rest,rfl,q⟩;have J:dQ (Y.str (kX lf b)::rest) 0=some (Y.str (kX lf b)):=x6 (xs:=Y.str (kX lf b)::rest) (j:=0) rfl;walk_at "w";rw[J];refine⟨rfl,rfl,jw ?_⟩;cases lf with
 |true=>
  rw[show nb false (u3 (f9 (.str (kX true b))) ([Y.str "plain",.str "turned"].map f9))=true from yh b];exact q
 |false=>
  rw[show nb false (u3 (f9 (.str (kX false b))) ([Y.str "plain",.str "turned"].map f9))=false from zE b];exact q
theorem xR(t:Bool):List.lookup (kL t) [(("plain" : Str),("turned" : Str)),("turned","plain"),("both","either"),("either","both")]=some (kL (!t)):=by cases t<;>decide +kernel
theorem zJ(t:Bool):List.lookup (kN t) [(("plain" : Str),("turned" : Str)),("turned","plain"),("both","either"),("either","both")]=some (kN (!t)):=by cases t<;>decide +kernel
theorem jd.str(x:Str):jd L n (.str x) (.s (.str x)):=by cases n with|zero=>exact⟨rfl,rfl⟩|succ n=>exact .inl ⟨rfl,rfl⟩
abbrev EK:=@jd.str
theorem jd.int(x:Int):jd L n (.int x) (.s (.int x)):=by cases n with|zero=>exact⟨rfl,rfl⟩|succ n=>exact .inl ⟨rfl,rfl⟩
abbrev EF:=@jd.int
theorem gK{L:qr}:∀{wd:Wd} {n:Nat},wd.depth<=n->jd L n (bO wd) (qG wd)
 |.leaf t nm,n+1,_=>.inr (.inl ⟨_,_,rfl,rfl,.cons (EK _) (.cons (EK _) .nil)⟩)
 |.node e l r,n+1,h=>by have J:max l.depth r.depth+1<=n+1:=h;exact .inr (.inl ⟨_,_,rfl,rfl,.cons (EK _) (.cons (gK (by lia)) (.cons (gK (by lia)) .nil))⟩)
theorem xh(e:L a=some (.lst ys))(p:Paired (jd L n) ys ds):jd L (n+1) (.ref a) (.lst ds):=.inr (.inr ⟨ys,ds,rfl,rfl,aM e,p⟩)
theorem aZ(p:Paired (jd L n) ys ds):jd L (n+1) (.tup ys) (.tup ds):=.inr (.inl ⟨ys,ds,rfl,rfl,p⟩)
theorem abb{neg:Bool}{u v:Wd}{Q:YK}(U:u.depth<=128)(q:Q (.bl (nb neg (Da.eq (qG u) (qG v)))) L):tW neg (bO u) (bO v) L Q:=by
 have J:∀w:Wd,xN (bO w)=true:=λw=>by cases w<;>rfl
 have:xN (bO u)=true/\xN (bO v)=true/\∃n m d e,n<=128/\jd L n (bO u) d/\jd L m (bO v) e/\Q (.bl (nb neg (Da.eq d e))) L:=
  ⟨J u,J v,u.depth,v.depth,qG u,qG v,U,gK (Aj _),gK (Aj _),q⟩
 cases u<;>cases v<;>exact this
theorem wm{neg:Bool}{zs:List Y}{es:List Da}{Q:YK}(J:n<128)(U:L a=some (.lst ys))(g:L b=some (.lst zs))(pa:Paired (jd L n) ys ds)(pb:Paired (jd L m) zs es)(q:Q (.bl (nb neg (Da.eqs ds es))) L):
 tW neg (.ref a) (.ref b) L Q:=⟨rfl,rfl,n+1,m+1,_,_,J,xh U pa,xh g pb,q⟩
def nY(hs:List Nat):List Y:=hs.map λn:Nat=>.int (n:Int)
theorem ku(hs:List Nat):(nY hs).length=hs.length:=by unfold nY;rw[Ab]
theorem jg{p:Addr}{o:LO}(h:qi L a o p=none):L p=none:=by
 by_cases c:p=a
 ·subst c;rw[q8] at h;cases h
 ·rw[qb c] at h;exact h
theorem jy{l:List α}{x:α}(h:l[i]?=some x):i<l.length:=(AL.mp h).1
def vJ:vt:=(zy (zb vv (zb xu (zb m8 (zb k8 (zb k8 (zb m8 (zb xu (q9 0) (zk 1000003)) (zk 7)) (zb m8 (q9 1) (q9 1))) (zk 1)) (q9 2)) (zk 2147483647)) (zk 16)))
def m6(J:jl):vt:=(qt (jt (dk (bT 0) (zk 2)) (zy (zk 1)) j8)
 (zy (zb k8 (zb k8 (zk 1) (z9 J (vk (xc 0 1)))) (z9 J (vk (xc 0 2))))))
def sQ(J:jl):vt:=(qt (zf (zb wz (q9 0) (q9 1)) (qh 2))
 (qt (jt (dk (bT 2) (zk 2)) (zy (q9 2)) j8)
 (zy (kg (qd (xc 2 0) (qd (z9 J (aH (q9 0) (xc 2 1))) (qd (z9 J (aH (q9 0) (xc 2 2))) z0)))))))
def qF:jl:=λys L Q=>∃c k f:Int,ys=[.int c,.int k,.int f]/\0<=k/\k<1000000/\0<f/\f<1000000/\∀v,0<=v->v<134217728->Q (.int v) L
theorem alg:∀ys L Q,qF ys L Q->xj vJ 3 ys L Q:=by
 rintro ys L Q ⟨c,k,f,rfl,h0,h1,h2,h3,q⟩;refine⟨(by decide:(0:Int)<1000003),.inr ⟨by decide,by decide⟩,.inl ⟨by lia,by lia⟩,.inr ⟨by lia,by lia⟩,(by decide:(0:Int)<2147483647),⟨by decide,by decide⟩,jw (q _ ?_ ?_)⟩
 all_goals
  generalize ((c % 1000003*7+k*k+1)*f)=z;lia
theorem aas(cs:List Nat):(Txt.join "" (cs.map λc=>(⟨#[c]⟩:Str))).cps.toList=cs:=by
 rw[pQ]
 induction cs with|nil=>rfl|cons c r J=>rw[AK,AS,J];rfl
def cJ(n:Nat):jl:=λys L Q=>∃wd,ys=[bO wd]/\wd.depth<=n/\Q (.int wd.size) L
theorem kR:∀ys L Q,¬cJ 0 ys L Q:=λys L Q ⟨J,_,hd,_⟩=>by cases J<;>simp[Wd.depth] at hd
theorem zV(n:Nat):∀ys L Q,cJ (n+1) ys L Q->xj (m6 (cJ n)) 1 ys L Q:=by
 rintro ys L Q ⟨J,rfl,hd,q⟩;cases J with
 |leaf t n=>exact jw q
 |node e l r=>
  have U:max l.depth r.depth+1<=n+1:=hd;refine⟨l,rfl,by lia,r,rfl,by lia,jw ?_⟩;have e:(1+(l.size:Int)+(r.size:Int))=(((Wd.node e l r).size:Nat):Int):=by show _=((1+l.size+r.size:Nat):Int);rfl
  rw[e];exact q
def KW(ks:List Y):Nat->Wd->Prop
 |p,.leaf t n=>ks[p]?=some (.tup [.str (kL t),.str n])
 |p,.node e l r=>∃i j:Nat,ks[p]?=some (.tup [.str (kN e),.int i,.int j])/\KW ks i l/\KW ks j r
theorem KW.more{ks:List Y}(ms:List Y):∀{wd:Wd} {p:Nat},KW ks p wd->KW (ks++ms) p wd
 |.leaf _ _,p,h=>by have J:ks[p]?=some _:=h;show(ks++ms)[p]?=some _;rw[AG (AL.mp J).1];exact J
 |.node _ _ _,p,⟨i,j,h,a,b⟩=>⟨i,j,by rw[AG (AL.mp h).1];exact h,KW.more ms a,KW.more ms b⟩
def aP(n:Nat):jl:=λys L Q=>∃k ks p wd,ys=[.ref k,.int ((p:Nat):Int)]/\L k=some (.lst ks)/\KW ks p wd/\wd.depth<=n/\Q (bO wd) L
theorem uY:∀ys L Q,¬aP 0 ys L Q:=λys L Q ⟨k,U,p,J,_,_,_,hd,_⟩=>by cases J<;>simp[Wd.depth] at hd
theorem pJ:∀ys L Q,¬aP 0 ys L Q:=uY
theorem sg(n:Nat):∀ys L Q,aP (n+1) ys L Q->xj (sQ (aP n)) 3 ys L Q:=by
 rintro ys L Q ⟨k,U,p,g,rfl,J,h,hd,q⟩;cases g with
 |leaf t nm=>exact qc J (qm (x6 h) (jw q))
 |node e l r=>
  obtain⟨i,j,h,o,C⟩:=h;have I:max l.depth r.depth+1<=n+1:=hd;exact qc J (qm (x6 h) ⟨k,U,i,l,rfl,J,o,by lia,k,U,j,r,rfl,J,C,by lia,jw q⟩)
def mkS(l:List Nat):Str:=⟨l.toArray⟩
theorem vT(x:Str):mkS x.cps.toList=x:=by cases x;rfl
structure XF05(K:Ad)(O N b1 b2 b3 b4 b5 b6 b7 b8 b9:Addr):Prop where
 hd:XHd K N
 em:PySem.W.exmOne K (.ref N) (.ref O)=some true
 ot:PySem.W.kitAny K (.ref N) [.ref b1,.ref b2,.ref b3,.ref b4,.ref b5,.ref b6,.ref b7,.ref b8,.ref b9]=some false
 on:PySem.W.kitOne K (.ref N) (.ref N)=some true
 ve:PySem.W.kitOne K (.ref N) (.type "ValueError")=some true
theorem sIx_nat(h:i<=n):HT.sIx n d (some (i:Int))=i:=by have:=sK (i:Int) n d;lia
def afj(J:jl):vt:=(qt (zf (aiu [("plain","turned"),("turned","plain"),("both","either"),("either","both")]) (qh 1))
 (qt (jt (dk (bT 0) (zk 2)) (zy (kg (qd (zb wz (q9 1) (xc 0 0)) (vk (xc 0 1))))) j8)
 (zy (kg (qd (zb wz (q9 1) (xc 0 0)) (qd (z9 J (vk (xc 0 1))) (qd (z9 J (vk (xc 0 2))) z0)))))))
def ad1(J:jl)(p1:jl):vt:=(qt (jt (dk (bT 1) (zk 2)) (qt (jk (af j6 (q9 0) (qd (z9 J (vk (q9 1))) z0)))
 (qt (jk (af j6 (q9 0) (vk (q9 1))))
 (zy (jq (qd (kg (qd (dR "link") (qd (zb hU (bT 0) (zk 2)) (qd (zb hU (bT 0) (zk 1)) z0)))) (qd (zb hU (bT 0) (zk 2)) (qd (zb hU (bT 0) (zk 1)) z0))))))) j8)
 (qt (zf (z9 p1 (aH (q9 0) (xc 1 1))) (qh 2))
 (qt (zf (z9 p1 (aH (q9 0) (xc 1 2))) (qh 3))
 (qt (jk (af j6 (q9 0) (qd (kg (qd (zb wz (z9 J (vk (q9 1))) (zk 0)) (aH (xc 2 1) (xc 3 1)))) z0)))
 (qt (jk (af j6 (q9 0) (qd (kg (qd (xc 1 0) (aH (xc 2 2) (xc 3 2)))) z0)))
 (qt (agd 4 5 (qd (zb hU (bT 0) (zk 2)) (qd (zb hU (bT 0) (zk 1)) z0)))
 (qt (zf (yIf (dk (xc 1 0) (dR "either")) (q9 4) (q9 5)) (qh 6))
 (qt (zf (yIf (dk (xc 1 0) (dR "either")) (q9 5) (q9 4)) (qh 7))
 (zy (jq (qd (kg (qd (dR "either") (qd (q9 7) (qd (kg (qd (dR "both") (qd (q9 6) (aH (xc 2 0) (xc 3 0))))) z0)))) (aH (q9 4) (q9 5)))))))))))))
inductive Kn where
 |lf (t:Bool) (n:Str)|nd (e:Bool) (i j:Nat)
def mJ:Kn->Y
 |.lf t n=>.tup [.str (kL t),.str n]
 |.nd e i j=>.tup [.str (kN e),.int ((i:Nat):Int),.int ((j:Nat):Int)]
inductive Ru where
 |link (p q:Nat)|ei (r:Nat) (A:Ru)|bo (r:Nat) (A B:Ru)|cu (p q:Nat) (A B:Ru)
def qj:Ru->Y
 |.link p q=>.tup [.str "link",.int ((p:Nat):Int),.int ((q:Nat):Int)]
 |.ei r A=>.tup [.str "either",.int ((r:Nat):Int),qj A]
 |.bo r A B=>.tup [.str "both",.int ((r:Nat):Int),qj A,qj B]
 |.cu p q A B=>.tup [.str "cut",.int ((p:Nat):Int),.int ((q:Nat):Int),qj A,qj B]
def qp:Ru->List Nat
 |.link p q=>[p,q]
 |.ei r A=>r::qp A
 |.bo r A B=>r::(qp A++qp B)
 |.cu _ _ A B=>qp A++qp B
abbrev jc(ks:List Kn):List Y:=ks.map mJ
def dH(ks:List Kn)(p:Nat)(w:Wd):Prop:=KW (jc ks) p w
theorem dH.more{ks:List Kn}{p:Nat}{w:Wd}(h:dH ks p w)(ms:List Kn):dH (ks++ms) p w:=by unfold dH jc;rw[Am];exact KW.more _ h
def cY(ks:List Kn):Prop:=∀(p:Nat) (k:Kn),ks[p]?=some k->match k with
 |.lf _ n=>df n
 |.nd _ i j=>i<p/\j<p
theorem cY.snoc{ks:List Kn}{k:Kn}(h:cY ks)(J:match k with|.lf _ n=>df n|.nd _ i j=>i<ks.length/\j<ks.length):cY (ks++[k]):=by
 intro p U e;by_cases c:p<ks.length
 ·rw[AG c] at e;exact h p U e
 ·rw[Aw (by exact aa9)] at e;have c2:p=ks.length:=by
   by_cases c3:p-ks.length=0
   ·omega
   ·rw[Co (by simp;exact aqk)] at e;cases e
  subst c2;rw[B7] at e;cases e;exact J
theorem dq(l:List α)(x:α)(r:List α):(l++x::r)[l.length]?=some x:=by rw[Aw (Aj _),B7];rfl
theorem kI{l r:List α}{p:Nat}{x:α}(h:l[p]?=some x):(l++r)[p]?=some x:=by rw[AG (AL.mp h).1];exact h
inductive SR(ks:List Kn):Ru->List Nat->Prop
 |link {p q:Nat} {t:Bool} {n:Str} {E:List Nat}:p<q->ks[p]?=some (.lf t n)->ks[q]?=some (.lf (!t) n)->(∀x,x∈E↔x=p\/x=q)->E.Nodup->SR ks (.link p q) E
 |ei {r i j:Nat} {A:Ru} {EA E:List Nat}:ks[r]?=some (.nd true i j)->SR ks A EA->i∈EA->j∈EA->i≠j->(∀x,x∈E↔(x∈EA/\x≠i/\x≠j)\/x=r)->E.Nodup->SR ks (.ei r A) E
 |bo {r i j:Nat} {A B:Ru} {EA EB E:List Nat}:ks[r]?=some (.nd false i j)->SR ks A EA->SR ks B EB->i∈EA->j∈EB->(∀x,x∈E↔(x∈EA/\x≠i)\/(x∈EB/\x≠j)\/x=r)->E.Nodup->SR ks (.bo r A B) E
 |cu {p q:Nat} {A B:Ru} {EA EB E:List Nat} {w:Wd}:SR ks A EA->SR ks B EB->p∈EA->q∈EB->dH ks p w->dH ks q w.turn->(∀x,x∈E↔(x∈EA/\x≠p)\/(x∈EB/\x≠q))->E.Nodup->SR ks (.cu p q A B) E
theorem SR.more{ks:List Kn}{R:Ru}{E:List Nat}(h:SR ks R E)(ms:List Kn):SR (ks++ms) R E:=by induction h with|link h1 h2 h3 J U=>exact .link h1 (kI h2) (kI h3) J U|ei h1 _ h3 J U l o p=>exact .ei (kI h1) p h3 J U l o|bo h1 _ _ J U l o g j=>exact .bo (kI h1) g j J U l o|cu _ _ h3 J U l o r g j=>exact .cu g j h3 J (U.more ms) (l.more ms) o r
theorem SR.sub{ks:List Kn}{R:Ru}{E:List Nat}(h:SR ks R E):∀x∈E,x∈qp R:=by
 induction h with
 |link _ _ _ l _=>intro x J;rcases (l x).mp J with rfl|rfl<;>simp[qp]
 |ei _ _ _ _ _ j _ o=>intro x J;rcases (j x).mp J with⟨h,_⟩|rfl;exact Ae _ (o x h);exact Ak ..
 |bo _ _ _ _ _ j _ U g=>
  intro x J;rcases (j x).mp J with⟨h,_⟩|⟨h,_⟩|rfl
  ·exact Ae _ (Ar _ (U x h))
  ·exact Ae _ (Ah _ (g x h))
  ·exact Ak ..
 |cu _ _ _ _ _ _ p _ U g=>
  intro x J;rcases (p x).mp J with⟨h,_⟩|⟨h,_⟩
  ·exact Ar _ (U x h)
  ·exact Ah _ (g x h)
def cK(n:Nat):jl:=λys L Q=>∃wd,ys=[bO wd]/\wd.depth<=n/\Q (bO wd.turn) L
theorem abt:∀ys L Q,¬cK 0 ys L Q:=λys L Q ⟨J,_,hd,_⟩=>by cases J<;>simp[Wd.depth] at hd
theorem uk(t:Bool):kq ([(("plain" : Str),("turned" : Str)),("turned","plain"),("both","either"),("either","both")].map λp=>((Sum.inr p.1:jf),Y.str p.2)) (Sum.inr (kL t))=some (.str (kL (!t))):=ij (xR t)
theorem uE(t:Bool):kq ([(("plain" : Str),("turned" : Str)),("turned","plain"),("both","either"),("either","both")].map λp=>((Sum.inr p.1:jf),Y.str p.2)) (Sum.inr (kN t))=some (.str (kN (!t))):=ij (zJ t)
theorem acj(n:Nat):∀ys L Q,cK (n+1) ys L Q->xj (afj (cK n)) 2 ys L Q:=by
 rintro ys L Q ⟨U,rfl,hd,q⟩;intro p J;cases U with
 |leaf t nm=>
  refine jz q8 (qm (uk t) ?_);exact we (By J) q
 |node e l r=>
  have g:max l.depth r.depth+1<=n+1:=hd;refine jz q8 (qm (uE e) ?_);refine⟨l,rfl,by lia,r,rfl,by lia,?_⟩;exact we (By J) q
structure Mir(ks:List Kn)(w:Wd)(ms:List Kn)(R:Ru)(tp sp:Nat):Prop where
 len:ms.length=2*w.size
 sr:SR (ks++ms) R [tp,sp]
 wt:dH (ks++ms) tp w.turn
 ws:dH (ks++ms) sp w
 tm:∀x,x∈qp R↔ks.length<=x/\x<ks.length+ms.length
 nd:(qp R).Nodup
 ok:cY (ks++ms)
theorem dH.leaf{ks:List Kn}{p:Nat}{n:Str}(h:ks[p]?=some (.lf t n)):dH ks p (.leaf t n):=by show(jc ks)[p]?=_;rw[An,h];rfl
theorem dH.node{ks:List Kn}{p:Nat}{e:Bool}{l r:Wd}(h:ks[p]?=some (.nd e i j))(J:dH ks i l)(U:dH ks j r):dH ks p (.node e l r):=by refine⟨i,j,?_,J,U⟩;rw[An,h];rfl
abbrev EN:=@dH.node
theorem sR{ks:List Kn}(j:cY ks){n:Str}(J:df n):Mir ks (.leaf t n) [.lf (!t) n,.lf t n] (.link ks.length (ks.length+1)) ks.length (ks.length+1):=by
 have U:(ks++[Kn.lf (!t) n,.lf t n])[ks.length]?=some (.lf (!t) n):=dq _ _ _;have g:(ks++[Kn.lf (!t) n,.lf t n])[ks.length+1]?=some (.lf t n):=by have:=dq (ks++[Kn.lf (!t) n]) (Kn.lf t n) [];rw[Ac,AR] at this;exact this
 refine⟨rfl,.link (t:=!t) (n:=n) (by exact Cw _) U (by rw[Bool.not_not];exact g) (by simp) (by simp),dH.leaf U,dH.leaf g,λx=>?_,by simp[qp],?_⟩
 ·show x∈[ks.length,ks.length+1]↔ks.length<=x/\x<ks.length+2;simp;lia
 ·have:=(j.snoc (k:=.lf (!t) n) J).snoc (k:=.lf t n) J;rw[AR] at this;exact this
theorem SR.nod{ks:List Kn}{R:Ru}{E:List Nat}(h:SR ks R E):E.Nodup:=by cases h<;>assumption
theorem aqy{x h lo a r N:Nat}(J:(h=N/\lo=N+1)\/(h=N+1/\lo=N))(U:N=a+m+r):x=h\/x=lo\/(a<=x/\x<a+m)\/a+m<=x/\x<a+m+r↔a<=x/\x<N+2:=by subst U;rcases J with⟨rfl,rfl⟩|⟨rfl,rfl⟩<;>lia
theorem ar4{x a b c N:Nat}(h:a≠b)(k:c≠d):x∈[b,d,N]↔(x∈[a,b]/\x≠a)\/(x∈[c,d]/\x≠c)\/x=N:=by simp only[Ao,Br,or_false];lia
theorem asl{x a b c N:Nat}(h:a≠b)(k:c≠d):x∈[a,c,N]↔(x∈[a,b]/\x≠b)\/(x∈[c,d]/\x≠d)\/x=N:=by simp only[Ao,Br,or_false];lia
theorem aql{x a b N M:Nat}(h:a<N)(k:b<N):x∈[N,M]↔(x∈[a,b,N]/\x≠a/\x≠b)\/x=M:=by simp only[Ao,Br,or_false];lia
theorem apo{x a b N M:Nat}(h:a<N)(k:b<N):x∈[M,N]↔(x∈[a,b,N]/\x≠a/\x≠b)\/x=M:=by simp only[Ao,Br,or_false];lia
theorem anm{a b N:Nat}(h:a<N)(k:b<N)(d:a≠b):[a,b,N].Nodup:=by rw[AA,AA];simp;lia
theorem arj{a r N t s u v:Nat}(J:a<=t/\t<a+m)(U:a<=s/\s<a+m)(b1:a+m<=u/\u<a+m+r)(b2:a+m<=v/\v<a+m+r)(g:N=a+m+r):t<N/\s<N/\u<N/\v<N/\t≠u/\s≠v:=by lia
theorem aov{h lo a r N:Nat}(J:(h=N/\lo=N+1)\/(h=N+1/\lo=N))(U:N=a+m+r):¬(h=lo\/(a<=h/\h<a+m)\/a+m<=h/\h<a+m+r)/\¬((a<=lo/\lo<a+m)\/a+m<=lo/\lo<a+m+r):=by lia
theorem asp{x y a r:Nat}(h1:a<=x/\x<a+m)(h2:a+m<=y/\y<a+m+r)(e:x=y):False:=by lia
theorem ade{ks J j:List Kn}{e:Bool}{l r:Wd}{A B:Ru}{tl U tr g:Nat}(t:Mir ks l J A tl U)(p:Mir (ks++J) r j B tr g){N:Nat}(hN:N=ks.length+(J++j).length):
 Mir ks (.node e l r) (J++j++[.nd (!e) tl tr,.nd e U g]) (.ei (if e=true then N+1 else N) (.bo (if e=true then N else N+1) A B)) N (N+1):=by
 have hA:∀x∈[tl,U],ks.length<=x/\x<ks.length+J.length:=λx T=>(t.tm x).mp (t.sr.sub x T);have hB:∀x∈[tr,g],ks.length+J.length<=x/\x<ks.length+J.length+j.length:=λx T=>by have:=(p.tm x).mp (p.sr.sub x T);rw[Ac] at this;exact this
 have a1:=hA tl (by simp);have a2:=hA U (by simp);have b1:=hB tr (by simp);have b2:=hB g (by simp);have nA:tl≠U:=by have:=t.sr.nod;simpa using this
 have nB:tr≠g:=by have:=p.sr.nod;simpa using this
 have C:N=ks.length+J.length+j.length:=by rw[hN,Ac];simp +arith only
 obtain⟨d1,d2,d3,d4,d5,d6⟩:=arj a1 a2 b1 b2 C;generalize o:ks++(J++j++[Kn.nd (!e) tl tr,.nd e U g])=K;have k1:K=(ks++J)++(j++[Kn.nd (!e) tl tr,.nd e U g]):=by rw[<-o];simp
 have k2:K=((ks++J)++j)++[Kn.nd (!e) tl tr,.nd e U g]:=by rw[<-o];simp
 have k3:K=(((ks++J)++j)++[Kn.nd (!e) tl tr])++[.nd e U g]:=by rw[<-o];simp
 have l2:((ks++J)++j).length=N:=by rw[Ac,Ac];lia
 have g1:K[N]?=some (.nd (!e) tl tr):=by rw[k2,<-l2];exact dq _ _ _
 have g2:K[N+1]?=some (.nd e U g):=by
  have l3:(((ks++J)++j)++[Kn.nd (!e) tl tr]).length=N+1:=by rw[Ac,l2];rfl
  rw[k3,<-l3];exact dq _ _ _
 have sA:SR K A [tl,U]:=by rw[k1];exact t.sr.more _
 have sB:SR K B [tr,g]:=by rw[k2];exact p.sr.more _
 have a3:cY K:=by have o1:=p.ok.snoc (k:=.nd (!e) tl tr) (by show tl<((ks++J)++j).length/\tr<((ks++J)++j).length;rw[l2];exact⟨d1,d3⟩);have o2:=o1.snoc (k:=.nd e U g) (by show U<_/\g<_;rw[Ac,l2];exact⟨BH d2,BH d4⟩);rw[k3];exact o2
 have tA:=t.tm;have tB:=p.tm;rw[Ac] at tB;have wt:dH K N (Wd.node e l r).turn:=EN g1 (by rw[k1];exact t.wt.more _) (by rw[k2];exact p.wt.more _);have a4:dH K (N+1) (Wd.node e l r):=EN g2 (by rw[k1];exact t.ws.more _) (by rw[k2];exact p.ws.more _);have I:(J++j++[Kn.nd (!e) tl tr,.nd e U g]).length=2*(Wd.node e l r).size:=by have h1:=t.len;have h2:=p.len;show _=2*(1+l.size+r.size);rw[Ac,Ac];simp;lia
 have lt:ks.length+(J++j++[Kn.nd (!e) tl tr,.nd e U g]).length=N+2:=by rw[Ac];simp[hN];rfl
 have tt:∀h lo:Nat,(h=N/\lo=N+1)\/(h=N+1/\lo=N)->(∀x,x∈qp (.ei h (.bo lo A B))↔ks.length<=x/\x<ks.length+(J++j++[Kn.nd (!e) tl tr,.nd e U g]).length)/\(qp (.ei h (.bo lo A B))).Nodup:=by
  intro h lo hh;constructor
  ·intro x;rw[lt];show x∈h::lo::(qp A++qp B)↔_;rw[Ao,Ao,Aq,tA,tB];exact aqy hh C
  ·show(h::lo::(qp A++qp B)).Nodup;rw[AA,AA,Ax];refine⟨?_,?_,t.nd,p.nd,λx T y hy e=>?_⟩
   ·rw[Ao,Aq,tA,tB];exact(aov hh C).1
   ·rw[Aq,tA,tB];exact(aov hh C).2
   ·exact asp ((tA x).mp T) ((tB y).mp hy) e
 cases e with
 |true=>
  have s1:SR K (.bo N A B) [U,g,N]:=by exact .bo g1 sA sB (by simp) (by simp) (λx=>ar4 nA nB) (anm d2 d4 d6)
  have s2:SR K (.ei (N+1) (.bo N A B)) [N,N+1]:=by exact .ei g2 s1 (by simp) (by simp) d6 (λx=>aql d2 d4) (by simp)
  obtain⟨t1,t2⟩:=tt (N+1) N (.inr ⟨rfl,rfl⟩);exact⟨I,by rw[o];exact s2,by rw[o];exact wt,by rw[o];exact a4,t1,t2,by rw[o];exact a3⟩
 |false=>
  have s1:SR K (.bo (N+1) A B) [tl,tr,N+1]:=by exact .bo g2 sA sB (by simp) (by simp) (λx=>asl nA nB) (anm (BH d1) (BH d3) d5)
  have s2:SR K (.ei N (.bo (N+1) A B)) [N,N+1]:=by exact .ei g1 s1 (by simp) (by simp) d5 (λx=>apo (BH d1) (BH d3)) (by simp)
  obtain⟨t1,t2⟩:=tt N (N+1) (.inl ⟨rfl,rfl⟩);exact⟨I,by rw[o];exact s2,by rw[o];exact wt,by rw[o];exact a4,t1,t2,by rw[o];exact a3⟩
def bx(n:Nat):jl:=λys L Q=>∃a,∃ks:List Kn,∃w:Wd,ys=[.ref a,bO w]/\L a=some (.lst (jc ks))/\w.depth<=n/\n<=120/\w.ok/\cY ks/\ks.length+2*w.size<=10000/\
 ∀ms R tp sp p,L p=none->Mir ks w ms R tp sp->Q (.ref p) (qi (qi L a (.lst (jc (ks++ms)))) p (.lst [qj R,.int ((tp:Nat):Int),.int ((sp:Nat):Int)]))
theorem xI:∀ys L Q,¬bx 0 ys L Q:=λys L Q ⟨a,U,J,_,_,hd,_⟩=>by cases J<;>simp[Wd.depth] at hd
theorem bg_:∀m:Nat,m<=20000->m<sizeLine:=λm h=>CG h (by decide)
theorem zQ(n:Nat):∀ys L Q,bx (n+1) ys L Q->xj (ad1 (cK 120) (bx n)) 8 ys L Q:=by
 rintro ys L Q ⟨a,J,w,rfl,ha,hd,hn,a2,hk,hb,q⟩;have big:=bg_;cases w with
 |leaf t nm=>
  have hb:J.length+2*1<=10000:=hb;refine qc ha ⟨.leaf t nm,rfl,by exact CO _,qw ha ⟨big _ (by rw[Ab];lia),?_⟩⟩;refine qc q8 (qw q8 ⟨big _ (by rw[Ac,Ab];simp;lia),?_⟩);rw[xr];have e1:(jc J++[bO (Wd.leaf t nm).turn])++[bO (.leaf t nm)]=jc (J++[.lf (!t) nm,.lf t nm]):=by unfold jc;rw[Am,AR];rfl
  have e2:(jc (J++[Kn.lf (!t) nm,.lf t nm])).length=J.length+2:=by rw[Ab,Ac];rfl
  have i1:((((jc (J++[Kn.lf (!t) nm,.lf t nm])).length:Nat):Int)-2)=((J.length:Nat):Int):=by rw[e2];lia
  have i2:((((jc (J++[Kn.lf (!t) nm,.lf t nm])).length:Nat):Int)-1)=((J.length+1:Nat):Int):=by rw[e2];lia
  have aL:(jc J++[bO (Wd.leaf t nm).turn])++[.tup [.str (kL t),.str nm]]=jc (J++[.lf (!t) nm,.lf t nm]):=e1
  first|rw[e1]|rw[aL]
  refine qc q8 (qc q8 (qc q8 (qc q8 λp T=>?_)));have np:L p=none:=by
   have:p≠a:=λe=>by rw[e,q8] at T;cases T
   rw[qb this] at T;exact T
  have:=q _ _ _ _ p np (sR hk a2);have key:[qj (.link J.length (J.length+1)),Y.int ((J.length:Nat):Int),Y.int ((J.length+1:Nat):Int)]=[.tup [.str "link",.int ((((jc (J++[Kn.lf (!t) nm,.lf t nm])).length:Nat):Int)-2),.int ((((jc (J++[Kn.lf (!t) nm,.lf t nm])).length:Nat):Int)-1)],.int ((((jc (J++[Kn.lf (!t) nm,.lf t nm])).length:Nat):Int)-2),.int ((((jc (J++[Kn.lf (!t) nm,.lf t nm])).length:Nat):Int)-1)]:=by rw[i1,i2];rfl
  rw[key] at this;exact jw this
 |node e l r=>
  have bb:max l.depth r.depth+1<=n+1:=hd;have hb:J.length+2*(1+l.size+r.size)<=10000:=hb;refine⟨a,J,l,rfl,ha,by lia,by exact vH,a2.1,hk,by lia,λU A j C p1 al ML=>?_⟩;have a1:a≠p1:=km ha al;have bc:=ML.len;refine⟨a,J++U,r,rfl,by rw[qb a1,q8],by lia,by exact vH,a2.2,ML.ok,by rw[Ac];lia,λg B tr I p2 a3 MR=>?_⟩;have bd:=MR.len;have ba:p1≠p2:=km q8 a3;have au:a≠p2:=km (by rw[qb a1];exact q8) a3;have a4:qi (qi (qi (qi L a (.lst (jc (J++U)))) p1 (.lst [qj A,.int ((j:Nat):Int),.int ((C:Nat):Int)])) a (.lst (jc ((J++U)++g)))) p2 (.lst [qj B,.int ((tr:Nat):Int),.int ((I:Nat):Int)]) a=some (.lst (jc ((J++U)++g))):=by rw[qb au];exact q8
  have h1:qi (qi (qi (qi L a (.lst (jc (J++U)))) p1 (.lst [qj A,.int ((j:Nat):Int),.int ((C:Nat):Int)])) a (.lst (jc ((J++U)++g)))) p2 (.lst [qj B,.int ((tr:Nat):Int),.int ((I:Nat):Int)]) p1=some (.lst [qj A,.int ((j:Nat):Int),.int ((C:Nat):Int)]):=by rw[qb ba,qb (AF a1)];exact q8
  have h2:qi (qi (qi (qi L a (.lst (jc (J++U)))) p1 (.lst [qj A,.int ((j:Nat):Int),.int ((C:Nat):Int)])) a (.lst (jc ((J++U)++g)))) p2 (.lst [qj B,.int ((tr:Nat):Int),.int ((I:Nat):Int)]) p2=some (.lst [qj B,.int ((tr:Nat):Int),.int ((I:Nat):Int)]):=q8;have old:∀b o,b≠a->L b=some o->qi (qi (qi (qi L a (.lst (jc (J++U)))) p1 (.lst [qj A,.int ((j:Nat):Int),.int ((C:Nat):Int)])) a (.lst (jc ((J++U)++g)))) p2 (.lst [qj B,.int ((tr:Nat):Int),.int ((I:Nat):Int)]) b=some o:=λb o nb e=>by
   have n1:b≠p1:=km e al;have e2:qi (qi L a (.lst (jc (J++U)))) p1 (.lst [qj A,.int ((j:Nat):Int),.int ((C:Nat):Int)]) b=some o:=by rw[qb n1,qb nb];exact e
   have n2:b≠p2:=km e2 a3;rw[qb n2,qb nb];exact e2
  generalize qi (qi (qi (qi L a (.lst (jc (J++U)))) p1 (.lst [qj A,.int ((j:Nat):Int),.int ((C:Nat):Int)])) a (.lst (jc ((J++U)++g)))) p2 (.lst [qj B,.int ((tr:Nat):Int),.int ((I:Nat):Int)])=L2 at a4 h1 h2 old;have bf:(jc ((J++U)++g)).length=J.length+U.length+g.length:=by rw[Ab,Ac,Ac]
  refine qc a4 ⟨.node e l r,rfl,by show max l.depth r.depth+1<=120;exact aqn,qc h1 (qc h2 (qw a4 ⟨big _ (by lia),?_⟩))⟩;have a5:∀o,qi L2 a o p1=some (.lst [qj A,.int ((j:Nat):Int),.int ((C:Nat):Int)]):=λo=>by rw[qb (AF a1)];exact h1
  have ag:∀o,qi L2 a o p2=some (.lst [qj B,.int ((tr:Nat):Int),.int ((I:Nat):Int)]):=λo=>by rw[qb (AF au)];exact h2
  refine qc q8 (qc (a5 _) (qc (ag _) (qw q8 ⟨big _ (by rw[Ac];simp;lia),?_⟩)));rw[xr];obtain⟨N,hN⟩:∃N,N=J.length+(U++g).length:=⟨_,rfl⟩;have e1:(jc ((J++U)++g)++[.tup [.str (kN (!e)),.int ((j:Nat):Int),.int ((tr:Nat):Int)]])++[.tup [.str (kN e),.int ((C:Nat):Int),.int ((I:Nat):Int)]]=jc (J++(U++g++[.nd (!e) j tr,.nd e C I])):=by unfold jc;simp[mJ]
  rw[e1];have lN:(jc (J++(U++g++[Kn.nd (!e) j tr,.nd e C I]))).length=N+2:=by rw[Ab,Ac,Ac,hN];simp;rfl
  have i1:((((jc (J++(U++g++[Kn.nd (!e) j tr,.nd e C I]))).length:Nat):Int)-2)=((N:Nat):Int):=by rw[lN];lia
  have i2:((((jc (J++(U++g++[Kn.nd (!e) j tr,.nd e C I]))).length:Nat):Int)-1)=((N+1:Nat):Int):=by rw[lN];lia
  refine qc q8 (qc q8 ?_);have M:=ade (e:=e) ML MR hN;have done:∀p,qi L2 a (.lst (jc (J++(U++g++[Kn.nd (!e) j tr,.nd e C I])))) p=none->∀R,Mir J (.node e l r) (U++g++[Kn.nd (!e) j tr,.nd e C I]) R N (N+1)->
   bQ Q (.ref p) (qi (qi L2 a (.lst (jc (J++(U++g++[Kn.nd (!e) j tr,.nd e C I]))))) p (.lst [qj R,.int ((N:Nat):Int),.int ((N+1:Nat):Int)])):=λp T R MM=>by
   have av:p≠a:=λz=>by rw[z,q8] at T;cases T
   rw[qb av] at T;have np:L p=none:=by cases z:L p with|none=>rfl|some o=>rw[old p o av z] at T;cases T
   refine we ?_ (q _ _ _ _ p np MM);intro b o z;by_cases c1:b=p
   ·subst c1;rw[q8] at z ⊢;exact z
   ·rw[qb c1] at z ⊢;by_cases c2:b=a
    ·subst c2;rw[q8] at z ⊢;exact z
    ·rw[qb c2] at z ⊢;exact old b o c2 z
  cases e with
  |true=>
   have key:[qj (.ei (if true=true then N+1 else N) (.bo (if true=true then N else N+1) A B)),Y.int ((N:Nat):Int),Y.int ((N+1:Nat):Int)]=[.tup [.str "either",.int ((((jc (J++(U++g++[Kn.nd (!true) j tr,.nd true C I]))).length:Nat):Int)-1),.tup [.str "both",.int ((((jc (J++(U++g++[Kn.nd (!true) j tr,.nd true C I]))).length:Nat):Int)-2),qj A,qj B]],.int ((((jc (J++(U++g++[Kn.nd (!true) j tr,.nd true C I]))).length:Nat):Int)-2),.int ((((jc (J++(U++g++[Kn.nd (!true) j tr,.nd true C I]))).length:Nat):Int)-1)]:=by rw[i1,i2];rfl
   walk_at "w";refine qc (a5 _) (qc (ag _) λp T=>?_);have:=done p T _ M;rw[key] at this;exact this
  |false=>
   have key:[qj (.ei (if false=true then N+1 else N) (.bo (if false=true then N else N+1) A B)),Y.int ((N:Nat):Int),Y.int ((N+1:Nat):Int)]=[.tup [.str "either",.int ((((jc (J++(U++g++[Kn.nd (!false) j tr,.nd false C I]))).length:Nat):Int)-2),.tup [.str "both",.int ((((jc (J++(U++g++[Kn.nd (!false) j tr,.nd false C I]))).length:Nat):Int)-1),qj A,qj B]],.int ((((jc (J++(U++g++[Kn.nd (!false) j tr,.nd false C I]))).length:Nat):Int)-2),.int ((((jc (J++(U++g++[Kn.nd (!false) j tr,.nd false C I]))).length:Nat):Int)-1)]:=by rw[i1,i2];rfl
   walk_at "w";refine qc (a5 _) (qc (ag _) λp T=>?_);have:=done p T _ M;rw[key] at this;exact this
end L3
variable {B I R S:L3.Ru}{ks ir:List L3.Kn}{vb wd:List (Option L3.Kn)}
namespace L3
open PySem L2 Words
def u7(J:jl):vt:=(qt (jt (yOr (yB (fB false (q9 0))) (yB (z9 J (vk (q9 0))))) (zy (jq z0)) j8)
 (zy (jq (aH (xc 0 1) (xc 0 2)))))
def uB:Option Kn->Y
 |none=>.non
 |some k=>mJ k
abbrev a7(ks:List (Option Kn)):List Y:=ks.map uB
def kw:Option Kn->List Nat
 |some (.nd _ i j)=>[i,j]
 |_=>[]
def mV:jl:=λys L Q=>∃k:Option Kn,ys=[uB k]/\∀p,L p=none->Q (.ref p) (qi L p (.lst (nY (kw k))))
theorem aa5:∀ys L Q,mV ys L Q->xj (u7 fi) 1 ys L Q:=by
 rintro ys L Q ⟨k,rfl,q⟩;cases k with
 |none=>exactλp J=>jw (q p J)
 |some k=>
  cases k with|lf t n=>exact⟨true,t,_,rfl,λp J=>jw (q p J)⟩|nd e i j=>exact⟨false,e,_,rfl,λp J=>jw (q p J)⟩
def whr(f:Option Kn->Bool)(ks:List (Option Kn))(i:Nat):List Nat:=(List.range i).filter λp=>match ks[p]? with
 |some k=>f k
 |none=>false
theorem afq{f:Option Kn->Bool}{ks:List (Option Kn)}{p:Nat}(h:p∈whr f ks i):p<i/\∃k,ks[p]?=some k/\f k=true:=by
 unfold whr at h;obtain⟨h1,h2⟩:=AU.mp h;refine⟨Bb.mp h1,?_⟩;split at h2
 ·rename_i k e;exact⟨k,e,h2⟩
 ·cases h2
theorem af8(f:Option Kn->Bool)(ks:List (Option Kn))(i:Nat):(whr f ks i).length<=i:=by unfold whr;exact AM (List.length_filter_le _ _) (by rw[BG];simp +arith only)
def adl:Option Kn->Bool
 |some _=>true
 |none=>false
abbrev mH(ks:List (Option Kn)):List Nat:=whr adl ks ks.length
theorem fg(a b:List Nat):nY (a++b)=nY a++nY b:=by unfold nY;rw[Am]
theorem hV{hs:List Nat}(h:(nY hs)[i]?=some y):∃n,hs[i]?=some n/\y=.int (n:Int):=by unfold nY at h;rw[An] at h;obtain⟨n,J,U⟩:=Ap.mp h;exact⟨n,J,U.symm⟩
theorem apw(a b:Nat):min (a:Int) (b:Int)=((min a b:Nat):Int):=by omega
theorem as5(a b:Nat):max (a:Int) (b:Int)=((max a b:Nat):Int):=by omega
def prN(p:Nat×Nat):Y:=.tup [.int ((p.1:Nat):Int),.int ((p.2:Nat):Int)]
abbrev mR(l:List (Nat×Nat)):List Y:=l.map prN
theorem yp(k:Option Kn):(kw k).length<=2:=by unfold kw;split<;>simp
end L3
namespace TS
open PySem PyProof.Rows PySem.W PySem.Calls
section
variable {w:World}
abbrev keyBody(kx px:Str)(p1 p2 p3 p4 p5:Pos)(n:Nat):Expr:=.Tuple [.Subscript (.Name kx p1) (.Name px p2) p3,.Name px p4] n p5
structure lJ(h:Heap)(f:Addr)(kx px:Str)(scope:Scope)(kvs:List Value):Prop where
 ex:∃(name eK:Str) (params:Arguments) (p1 p2 p3 p4 p5:Pos) (n:Nat) (pm ctv:Value) (c' cell k:Addr),h.get? f=some (kla_obj name eK params (keyBody kx px p1 p2 p3 p4 p5 n) scope [(kx,cell)] pm c' ctv)/\h.CodeRec (.ref c') eK/\
  h.IsCell cell (some (.ref k))/\h.IsList k kvs.toArray/\∀v:Value,bindArgs (kla_fn name eK params (keyBody kx px p1 p2 p3 p4 p5 n) scope [(kx,cell)] pm (.ref c') ctv) ⟨[v],[]⟩=pure [(px,v)]
 lim:h.NoLimit
structure KeySc(scope:Scope)(kx px:Str):Prop where
 kind:scope.kind=.function
 co:scope.isCoroutine=false
 gen:scope.isGenerator=false
 nc:∀x∈scope.names,x.2≠.cell
 lp:scope.names.lookup px=some .local
 lk:scope.names.lookup kx=some .free
 d1:(kx==("__debug__" : Str))=false
 d2:(px==("__debug__" : Str))=false
 d3:(kx==("__classdict__" : Str))=false
theorem lJ.keeps{kvs:List Value}(k:lJ h f kx px scope kvs)(U:∀b o,h.get? b=some o->h'.get? b=some o):lJ h' f kx px scope kvs:=by
 obtain⟨name,g,J,r,t,C,I,T,n,pm,p,c',cell,kk,g1,g2,g3,g4,g5⟩:=k.ex;refine⟨⟨name,g,J,r,t,C,I,T,n,pm,p,c',cell,kk,U _ _ g1,?_,?_,?_,g5⟩,k.lim.keeps U⟩
 ·obtain⟨c,oc,vs,tq,j,l,e3⟩:=g2;exact⟨c,oc,vs,tq,j,U _ _ l,e3⟩
 ·obtain⟨o,j,l⟩:=g3;exact⟨o,U _ _ j,l⟩
 ·obtain⟨o,j,l⟩:=g4;exact⟨o,U _ _ j,l⟩
theorem aol{kvs:List Value}{u t:Tok}{r:Int}(K:lJ s.heap f kx px scope kvs)(S:KeySc scope kx px)(g:A.depth<recursionLimit)(hi:kvs[i]?=some (.int r t))(a1:i<2 ^ 40)
 (h:∀h' tk a,(∀b o,s.heap.get? b=some o->h'.get? b=some o)->h'.get? a=some { cls:=.type "tuple",data:=.seq #[.int r t,.int (i:Int) u] }->Q (.ref a) { s with heap:=h',toks:=tk }):
 wpAny (model prog w) A (call (.ref f) [.int (i:Int) u]) Q E s:=by
 obtain⟨name,J,p,p1,p2,p3,p4,p5,n,pm,a2,C,cell,kk,g1,g2,g3,g4,g5⟩:=K.ex;refine wpAny_call (kla_callFunE g g1 rfl S.co S.gen rfl g2 ?_);rw[g5];refine Ag (wpAny_newFunctionEnv S.nc (λx hx=>by rw[Ai.mp hx];exact S.lp) (λU j l=>⟨K.lim.fresh _ l,?_⟩) S.kind);have I:∀b o,s.heap.get? b=some o->U.get? b=some o:=λb o e=>l.extBut b o (AV (At e)) (As _ e);show codeAny _ _ (.expr _ (envX J scope s.heap.objs.size f (.ref C) [(kx,cell)])) _ _;refine kla_codeExpr ?_;have look:(([(px,Value.int (i:Int) u)]:List (Str×Value)).reverse.lookup px)=some (.int (i:Int) u):=by simp
 have kf:(envX J scope s.heap.objs.size f (.ref C) [(kx,cell)]).kindOf kx=some .free:=S.lk;have kp:(envX J scope s.heap.objs.size f (.ref C) [(kx,cell)]).kindOf px=some .local:=S.lp;have cl:(envX J scope s.heap.objs.size f (.ref C) [(kx,cell)]).cells.lookup kx=some cell:=by show([(kx,cell)]:List (Str×Addr)).lookup kx=_;simp
 have ic:U.IsCell cell (some (.ref kk)):=by obtain⟨o,T,e2⟩:=g3;exact⟨o,I _ _ T,e2⟩
 have il:U.IsList kk kvs.toArray:=by obtain⟨o,T,e2⟩:=g4;exact⟨o,I _ _ T,e2⟩
 refine wpAny_Tuple_spliced (El (Subscript_ (wpAny_Name (wpAny_loadName_free S.kind kf cl ic (wpAny_Name (wpAny_loadName_local S.kind kp j look ?_) S.d2) S.d3) S.d1)));refine item_listL il (by exact A5 _) (by omega) (by rw[show((i:Nat):Int).toNat=i from rfl];exact hi) ?_;refine El (wpAny_Name (wpAny_loadName_local S.kind kp j look ?_) S.d2);refine Eo ⟨by show 2<=sizeLine;decide,?_⟩;exact h _ _ _ (λb o e=>As _ (I b o e)) (Db _ rfl)
end
theorem ab5{C:Type}(f:α->C):∀{l m:List C},l.Perm m->∀{T:List α},T.map f=m->∃g:List α,g.Perm T/\g.map f=l:=by
 intro l m p
 induction p with
 |nil=>intro T e;exact⟨T,B3 _,e⟩
 |cons x _ I=>
  intro T e;cases T with
  |nil=>cases e
  |cons t r=>
   rw[AK] at e;obtain⟨J,U⟩:=CC e;obtain⟨g,p',e'⟩:=I U;exact⟨t::g,p'.cons t,by rw[AK,e',J]⟩
 |swap x y l=>
  intro T e
  match T,e with
  |t::u::r,e=>
   rw[AK,AK] at e;obtain⟨J,U⟩:=CC e;obtain⟨e3,e4⟩:=CC U;exact⟨u::t::r,List.Perm.swap t u r,by rw[AK,AK,J,e3,e4]⟩
 |trans _ _ j o=>
  intro T e;obtain⟨T1,p1,J⟩:=o e;obtain⟨T2,p2,U⟩:=j J;exact⟨T2,p2.trans p1,U⟩
def itV(x:Nat×Tok):Value:=.int (x.1:Int) x.2
def ajw(h:Heap)(kS:Addr)(rk:Nat->Int)(k:Value)(x:Nat×Tok):Prop:=∃a t u,k=.ref a/\a≠kS/\h.get? a=some { cls:=.type "tuple",data:=.seq #[.int (rk x.1) t,.int (x.1:Int) u] }
def jD(h:Heap)(kS:Addr)(rk:Nat->Int):List Value->List (Nat×Tok)->Prop
 |[],[]=>True
 |k::ks,x::xs=>ajw h kS rk k x/\jD h kS rk ks xs
 |_,_=>False
theorem jD.len{h:Heap}{kS:Addr}{rk:Nat->Int}:∀{ks:List Value} {xs:List (Nat×Tok)},jD h kS rk ks xs->ks.length=xs.length
 |[],[],_=>rfl
 |_::_,_::_,⟨_,b⟩=>by rw[AJ,AJ,jD.len b]
 |[],_::_,z=>z.elim
 |_::_,[],z=>z.elim
theorem jD.mem{h:Heap}{kS:Addr}{rk:Nat->Int}:∀{ks:List Value} {xs:List (Nat×Tok)},jD h kS rk ks xs->∀t∈ks.zip xs,ajw h kS rk t.1 t.2
 |[],[],_,t,J=>by cases J
 |_::_,_::_,⟨a,b⟩,t,J=>by
  rw[List.zip_cons_cons] at J;rcases Ao.mp J with rfl|J
  ·exact a
  ·exact jD.mem b t J
 |[],_::_,z,_,_=>z.elim
 |_::_,[],z,_,_=>z.elim
section
variable {w:World}
theorem aaz{g:Heap}{f:Addr}{kx px:Str}{scope:Scope}{kvs:List Value}{kS:Addr}{rk:Nat->Int}{body:Value->PUnit->Sem (ForInStep PUnit)}(K:lJ g f kx px scope kvs)(S:KeySc scope kx px)(J:A.depth<recursionLimit)(hn:g.get? kS=none)
 (hb:∀(x:Value) (s:Shared) (Q':ForInStep PUnit->Shared->Prop),wpAny (model prog w) A (call (.ref f) [x]) (λk s'=>wpAny (model prog w) A (Builtin.List.listUpdate (.ref kS) (·.push k)) (λ_ I=>Q' (.yield ⟨⟩) I) E s') (λ_ _=>False) s->wpAny (model prog w) A (body x ⟨⟩) Q' E s):
 ∀(ps:List (Nat×Tok)) (ks:List Value) (e:Nat) (s:Shared) (Q:PUnit->Shared->Prop),(∀b o,g.get? b=some o->s.heap.get? b=some o)->s.heap.get? kS=some (seqObj "list" ks.toArray e)->ks.length+ps.length<=100000->
  (∀x∈ps,x.1<2 ^ 40/\∃t,kvs[x.1]?=some (.int (rk x.1) t))->
  (∀h' tk l T,(∀b o,b≠kS->s.heap.get? b=some o->h'.get? b=some o)->h'.get? kS=some (seqObj "list" (ks++l).toArray T)->jD h' kS rk l ps->Q ⟨⟩ { s with heap:=h',toks:=tk })->
  wpAny (model prog w) A (forIn (ps.map itV) PUnit.unit body) Q E s
 |[],ks,e,s,Q,hg,hk,hz,hp,q=>by rw[CQ,CS];exact Ag (q s.heap s.toks [] e (λ_ _ _ h=>h) (by rw[AX];exact hk) trivial)
 |x::r,ks,e,s,Q,hg,hk,hz,hp,q=>by
  rw[AK,BS];rw[AJ] at hz;obtain⟨a1,t,ht⟩:=hp x (Ak ..);have big:(100000:Nat)+1<=sizeLine:=by rw[sizeLine_eq];exact DP _ _
  refine Aa (hb (itV x) s _ (aol (K.keeps hg) S J ht a1 λh1 p a k1 ha=>?_));have U:h1.get? kS=some (seqObj "list" ks.toArray e):=k1 _ _ hk;have s1:=Eg h1 kS (Obj.mapSeq (·.push (.ref a)));have ea:ks.toArray.push (.ref a)=List.toArray (ks++[.ref a]):=by simp
  obtain⟨c2,a2⟩:∃c2,(h1.update kS (Obj.mapSeq (·.push (.ref a)))).get? kS=some (seqObj "list" (List.toArray (ks++[.ref a])) c2):=⟨_,by rw[<-ea];exact get?_update_seq U (·.push (.ref a))⟩;have C:a≠kS:=λz=>by
   rw[z,U] at ha;have:=Bt (λo:Option Obj=>o.map (·.cls)) ha;have z2:some (Value.type "list")=some (Value.type "tuple"):=this;injection z2 with z3
   injection z3 with z4
   exact absurd z4 (by decide)
  refine listUpdate_at (s:={ s with heap:=h1,toks:=p }) U rfl ?_ (by rw[Al];lia) (AM (Nat.le_of_eq (DL ..)) (by rw[Al];lia));refine aaz K S J hn hb r (ks++[.ref a]) c2 { s with heap:=h1.update kS (Obj.mapSeq (·.push (.ref a))),toks:=p } Q (λb o e=>?_) a2 (by rw[Ac,A7];lia) (λy hy=>hp y (Ae _ hy)) λh' tk l T kk a3 vs=>?_
  ·have nb:b≠kS:=λz=>by rw[z,hn] at e;cases e
   exact(s1.2 b nb).trans (k1 b o (hg b o e))
  ·have j:∀b o,b≠kS->h1.get? b=some o->h'.get? b=some o:=λb o nb e=>kk b o nb ((s1.2 b nb).trans e);refine q h' tk (.ref a::l) T (λb o nb e=>j b o nb (k1 b o e)) (by rw[a3,AR];rfl) ⟨⟨a,t,x.2,rfl,C,j a _ C ha⟩,vs⟩
end
section
variable {w:World}
theorem ajn{g:Heap}{kvs:List Value}{kS:Addr}{rk:Nat->Int}{ps:List (Nat×Tok)}{e1 e0:Nat}{B:Int}{P:PySem.Fin->Shared->Prop}(K:lJ g f kx px scope kvs)(S:KeySc scope kx px)(J:A.depth<recursionLimit)(hn:g.get? kS=none)
 (hg:∀b o,g.get? b=some o->s.heap.get? b=some o) (hk:s.heap.get? kS=some (seqObj "list" #[] e0)) (ha:s.heap.get? a=some (seqObj "list" #[] e1)) (p:kS≠a) (hz:ps.length<=63)
 (hp:∀x∈ps,x.1<2 ^ 40/\∃t,kvs[x.1]?=some (.int (rk x.1) t)) (hB:∀x∈ps,((x.1:Nat):Int)<B) (nd:(ps.map (·.1)).Nodup)
 (h:∀h' tk (qs:List (Nat×Tok)) c,(∀b o,b≠kS->b≠a->s.heap.get? b=some o->h'.get? b=some o)->h'.get? a=some (seqObj "list" (qs.map itV).toArray c)->qs.Perm ps->(qs.Pairwise λx y=>rk x.1*B+(x.1:Int)<=rk y.1*B+(y.1:Int))->P (.done (.ret .none)) { s with heap:=h',toks:=tk }):
 wpAny (model prog w) A (ksk_rest a (.ref f) false (ps.map itV).toArray e1 (.ref kS)) P E s:=by
 have big:(100000:Nat)+1<=sizeLine:=by rw[sizeLine_eq];exact DP _ _
 unfold ksk_rest;refine Aa (BB ?_);rw[List.forIn_toArray];refine Aa (aaz (rk:=rk) K S J hn (λx s' Q' hx=>?_) ps [] e0 s _ hg hk (by simp;omega) hp λh' tk ks e' keep U kv=>?_)
 ·refine Aa (wpAny_attempt (AO hx (λk a5 hk=>?_) λ_ _ hF=>hF.elim))
  try dsimp only
  exact Aa (AO hk (λ_ s3 q=>Ag q) λ_ _ e=>e)
 ·try dsimp only
  rw[CF] at U;refine Aa (listItems_at (s:={ s with heap:=h',toks:=tk }) U rfl ?_);have a1:h'.get? a=some (seqObj "list" #[] e1):=keep _ _ (AF p) ha;have len:ks.length=ps.length:=kv.len;obtain⟨T,I⟩:∃T,T=ks.zip ps:=⟨_,rfl⟩;have kT:∀t∈T,ajw h' kS rk t.1 t.2:=λt r=>kv.mem t (I▸r);have e2:T.map (·.2)=ps:=by rw[I];exact List.map_snd_zip (by lia)
  have ez:ks.zip (ps.map itV)=T.map λt=>(t.1,itV t.2):=by rw[I,List.zip_map_right];rfl
  have mp:∀t∈T,t.2∈ps:=λt r=>by rw[<-e2];exact Dd r
  have nT:∀t∈T,num h' B (t.1,itV t.2)=rk t.2.1*B+(t.2.1:Int):=λt r=>by obtain⟨b,tt,u,C,x2,x3⟩:=kT t r;exact uj C x3 rfl
  have ag:∀x∈ps,(0:Int)<=((x.1:Nat):Int):=λ_ _=>by exact A5 _
  refine an1 (s:={ s with heap:=h',toks:=tk }) (vs:=ps.map itV) (ks:=ks) (B:=B) U a1 p (by rw[Ab];exact len) (by rw[Ab];exact hz) (λv hv=>?_) λh2 a2 xs c l hc pm pw=>?_
  ·obtain⟨j,hj⟩:=C4 hv;have a3:j<ps.length:=by rw[<-len];exact(AL.mp hj).1
   have hm:(v,ps[j])∈T:=by rw[I];refine List.mem_iff_getElem?.mpr ⟨j,?_⟩;rw[Dq];exact⟨hj,Af a3⟩
   obtain⟨b,tt,u,C,x2,x3⟩:=kT _ hm;have C:v=.ref b:=C;exact⟨b,_,_,_,_,tt,u,C,x3,rfl,rfl,by exact A5 _,hB _ (mp _ hm)⟩
  ·rw[ez] at pm;obtain⟨T',pT,a4⟩:=ab5 _ pm rfl;subst a4;have mT:∀t,t∈T'->t∈T:=λt=>pT.mem_iff.mp;refine h h2 a2 (T'.map (·.2)) c (λb o n1 n2 e=>?_) ?_ ?_ ?_
   ·rw[l b n1 n2];exact keep b o n1 e
   ·rw[hc,BM,BM];rfl
   ·rw[<-e2];exact pT.map _
   ·refine Dt.mpr (List.Pairwise.imp_of_mem (λ{x y} hx hy z=>?_) (Dt.mp pw));rw[nT x (mT x hx),nT y (mT y hy)] at z;exact z
theorem w_sortedK{kvs:List Value}{rk:Nat->Int}{ps:List (Nat×Tok)}{B:Int}(K:lJ s.heap f kx px scope kvs)(S:KeySc scope kx px)(p:A.in1.in1.depth<recursionLimit)
 (hl:s.heap.IsList l (ps.map itV).toArray) (hz:ps.length<=63)
 (hp:∀x∈ps,x.1<2 ^ 40/\∃t,kvs[x.1]?=some (.int (rk x.1) t)) (hB:∀x∈ps,((x.1:Nat):Int)<B) (nd:(ps.map (·.1)).Nodup)
 (h:∀h' tk (r:List (Nat×Tok)) D c,s.heap.objs.size<=D->(∀b o,s.heap.get? b=some o->h'.get? b=some o)->h'.get? D=some (seqObj "list" (r.map itV).toArray c)->r.Perm ps->(r.Pairwise λx y=>rk x.1*B+(x.1:Int)<=rk y.1*B+(y.1:Int))->Q (.ref D) { s with heap:=h',toks:=tk }):
 wpAny (model prog w) A (call (.builtin "sorted") [.ref l] [(Str.ofString "key",.ref f)]) Q E s:=by
 have big:(100000:Nat)+1<=sizeLine:=by rw[sizeLine_eq];lia
 have a2:(ps.map itV).length<=100000:=by rw[Ab];omega
 refine call_function_entry_kw kind_sorted plain_sorted entry_sorted (ksk_s1 _ _) ?_;unfold Builtin.«sorted»;refine Aa (m:=checkCount "sorted" 1 1 _) (Ag ?_);refine Aa (collect_list hl ?_ (by exact agy));refine Aa (wpAny_newList ?_ (by lia));obtain⟨g1,T⟩:∃g1,g1=(s.heap.push (seqObj "list" #[] 0)).update s.heap.objs.size (Obj.mapSeq (· ++ (ps.map itV).toArray)):=⟨_,rfl⟩;have gs:g1.objs.size=s.heap.objs.size+1:=by rw[T,Heap.size_update,size_push']
 have gk:∀b o,s.heap.get? b=some o->g1.get? b=some o:=λb o q=>by have U:b<s.heap.objs.size:=At q;rw[T,Heap.get?_update_ne _ _ _ _ (AV U)];exact As _ q
 show wpAny _ _ _ _ _ { s with heap:=((s.heap.push (seqObj "list" #[] 0)).update s.heap.objs.size (Obj.mapSeq (· ++ (ps.map itV).toArray))).push (seqObj "list" (ps.map itV).toArray 0) };rw[<-T];have J:(g1.push (seqObj "list" (ps.map itV).toArray 0)).get? g1.objs.size=some (seqObj "list" (ps.map itV).toArray 0):=Db _ rfl;have keep:∀b o,s.heap.get? b=some o->(g1.push (seqObj "list" (ps.map itV).toArray 0)).get? b=some o:=λb o q=>As _ (gk b o q);refine Aa (AY (wpAny_call_entry_kw slot_list_sort ⟨_,J,rfl⟩ entry_list_sort ?body (ksk_l1 _ _)))
 case body=>
  obtain⟨D,eD⟩:∃D,D=g1.objs.size:=⟨_,rfl⟩;rw[<-eD] at J ⊢;show wpAny (model prog w) A.in1.in1 (Builtin.«list.sort» ⟨[.ref D],[(Str.ofString "key",.ref f)]⟩) _ _ _;rw[ksk_t1];obtain⟨g2,C⟩:∃g2,g2=g1.push (seqObj "list" (ps.map itV).toArray 0):=⟨_,rfl⟩;rw[<-C] at J keep ⊢;have s1:=Eg g2 D (Obj.mapSeq λ_=>(#[]:Array Value));obtain⟨e1,I⟩:∃e1,(g2.update D (Obj.mapSeq λ_=>(#[]:Array Value))).get? D=some (seqObj "list" #[] e1):=⟨_,get?_update_seq J λ_=>#[]⟩;have nD:∀b o,s.heap.get? b=some o->b≠D:=λb o q z=>by have U:b<s.heap.objs.size:=At q;rw[z,eD,gs] at U;exact Nat.not_succ_lt_self U
  unfold ksk_tree;refine Aa (listItems_at (s:={ s with heap:=g2 }) J rfl ?_);refine Aa (listUpdate_at (s:={ s with heap:=g2 }) J rfl ?_ (by rw[Al];exact agy) (Bf _));refine Aa (seqEpoch_at I rfl ?_);refine Aa (wpAny_newTuple ?_ (by show(ps.map itV).length<=_;lia));refine Aa (wpAny_newList ?_ (Bf _));refine AY ?_;obtain⟨g3,j⟩:∃g3,g3=(g2.update D (Obj.mapSeq λ_=>(#[]:Array Value))).push (seqObj "tuple" (ps.map itV).toArray 0):=⟨_,rfl⟩;have k3:∀b o,s.heap.get? b=some o->g3.get? b=some o:=λb o q=>by rw[j];exact As _ ((s1.2 b (nD b o q)).trans (keep b o q))
  have d3:g3.get? D=some (seqObj "list" #[] e1):=by rw[j];exact As _ I
  show wpAny (model prog w) A.in1.in1 (ksk_rest D (.ref f) false (ps.map itV).toArray _ (.ref ((g2.update D (Obj.mapSeq λ_=>(#[]:Array Value))).push (seqObj "tuple" (ps.map itV).toArray 0)).objs.size)) _ _ { s with heap:=((g2.update D (Obj.mapSeq λ_=>(#[]:Array Value))).push (seqObj "tuple" (ps.map itV).toArray 0)).push (seqObj "list" #[] 0) };rw[<-j];have a1:(g3.push (seqObj "list" #[] 0)).get? g3.objs.size=some (seqObj "list" #[] 0):=Db _ rfl;refine ajn (s:={ s with heap:=g3.push (seqObj "list" #[] 0) }) (g:=s.heap) (kS:=g3.objs.size) (a:=D) (rk:=rk) (B:=B) K S p (Heap.get?_none_of_le ?_) (λb o q=>As _ (k3 b o q)) a1 (As _ d3) ?_ hz hp hB nd λh' tk r c kp hD pm pw=>?_
  ·have l1:g3.objs.size=g1.objs.size+2:=by rw[j,size_push',Heap.size_update,C,size_push']
   rw[l1,gs];exact AM (BV _) (BA _ 2)
  ·exact(AV (At d3)).symm
  ·refine⟨_,rfl,Ag ⟨_,rfl,h h' tk r D c (by rw[eD,gs];exact BV _) (λb o q=>?_) hD pm pw⟩⟩;exact kp b o (AV (At (k3 b o q))) (nD b o q) (As _ (k3 b o q))
end
end TS
namespace L2
open PySem PySem.Spec PyProof.Rows
theorem qN{i j:Int}{t u:Tok}{c:Value}(l:List Value)(h:TriplesOk l):TriplesOk (l++[.int i t,.int j u,c]):=by
 fun_induction TriplesOk l with
 |case1=>trivial
 |case2 _ _ _ _ _ rest J=>exact J h
 |case3=>exact h.elim
theorem tY{i j:Int}{t u:Tok}{c J:Value}(l:List Value)(h:TriplesOk l)(e:codeAmong pos (l++[.int i t,.int j u,c])=some J):codeAmong pos l=some J\/J=c:=by
 fun_induction TriplesOk l with
 |case1=>
  right;have e:(if i==pos.line&&j==pos.col then some c else none)=some J:=e;split at e
  ·cases e;rfl
  ·cases e
 |case2 a _ b _ d rest U=>
  have e:(if a==pos.line&&b==pos.col then some d else codeAmong pos (rest++[.int i t,.int j u,c]))=some J:=e;show(if a==pos.line&&b==pos.col then some d else codeAmong pos rest)=some J\/J=c;split at e
  ·rename_i z;rw[AB z];exact .inl e
  ·rename_i z;rw[AC z];exact U h e
 |case3=>exact h.elim
structure xK(K:Ad)(fm:Value)(P:Addr):Prop where
 ex:∃c oc,fm=.ref c/\K.lookup c=some oc/\∀h:Heap,h.get? c=some oc->PySem.W.CodeHd h c P
 bm:∃bm ob,PySem.W.nsIn K mainGlobals "__builtins__"=some (some (.ref bm))/\bm≠builtinsNs/\bm≠mainGlobals/\K.lookup bm=some ob/\ob.cls=.type "module" /\ ob.dict=some builtinsNs/\ob.data=.plain
theorem sO:∀{l:List Nat} {us:List Value},zq (l.map λi:Nat=>V.int (0+(i:Int))) us->∃ps:List (Nat×Tok),us=ps.map TS.itV/\ps.map (·.1)=l
 |[],_,.nil=>⟨[],rfl,rfl⟩
 |i::r,_,.cons (b:=u) h t=>by obtain⟨ps,J,U⟩:=sO (l:=r) t;obtain⟨tk,g⟩:=(show ∃tk,u=Value.int (0+(i:Int)) tk from h);refine⟨(i,tk)::ps,?_,by rw[AK,U]⟩;rw[AK,J,g];show _=Value.int (i:Int) tk::_;rw[B8]
theorem ra:∀ps:List (Nat×Tok),zq (ps.map λx=>V.int ((x.1:Nat):Int)) (ps.map TS.itV)
 |[]=>.nil
 |x::r=>.cons ⟨x.2,rfl⟩ (ra r)
def alw(P:Addr)(q:Str)(g:Nat)(te:TE):TE:=λσ H Q=>te σ H λv H1=>∃l U,∃n:Nat,∃rks:List Int,v=.ref l/\H1 l=some (.lst ((List.range n).map λi:Nat=>V.int (0+(i:Int))))/\σ[g]?=some (some (.ref U))/\H1 U=some (.lst (rks.map V.int))/\rks.length=n/\n<=63/\pN H1 P q/\
 ∀H2 D (J:List Nat),(∀b u,b≠P->H1 b=some u->H2 b=some u)->pN H2 P q->H1 D=none->D≠P->H2 D=some (.lst (J.map λi:Nat=>V.int (i:Int)))->J.Perm (List.range n)->(J.Pairwise λi j=>rks.getD i 0*1000000+(i:Int)<=rks.getD j 0*1000000+(j:Int))->Q (.ref D) H2
theorem yF{kk cell c':Addr}{J:Arguments}{r:Value}{Q:VK}(I:za X pins σ H s)(S:TS.KeySc fx kx px)(hr:X.A.depth+3<recursionLimit)
 (hf:s.heap.get? f=some (PySem.W.kla_obj name eK J (TS.keyBody kx px p1 p2 p3 p4 p5 x1) fx [(kx,cell)] pm c' r)) (a2:s.heap.CodeRec (.ref c') eK) (C:s.heap.IsCell cell (some (.ref kk)))
 (hb:∀v:Value,bindArgs (PySem.W.kla_fn name eK J (TS.keyBody kx px p1 p2 p3 p4 p5 x1) fx [(kx,cell)] pm (.ref c') r) ⟨[v],[]⟩=pure [(px,v)])
 (hl:H l=some (.lst ((List.range n).map λi:Nat=>V.int (0+(i:Int))))) (hk:H kk=some (.lst (rks.map V.int))) (hn:rks.length=n) (hz:n<=63)
 (q:∀D (g:List Nat),H D=none->g.Perm (List.range n)->(g.Pairwise λi j=>rks.getD i 0*1000000+(i:Int)<=rks.getD j 0*1000000+(j:Int))->Q (.ref D) (upd H D (.lst (g.map λi:Nat=>V.int (i:Int))))):
 wpAny (model X.prog X.w) X.A (call (.builtin "sorted") [.ref l] [(Str.ofString "key",.ref f)]) (EP X pins σ Q) X.xe s:=by
 obtain⟨a5,rv,pl,_⟩:=I.list (aJ.of hl);obtain⟨p,rk,pk,_⟩:=I.list (aJ.of hk);obtain⟨ps,rfl,U⟩:=sO rv;have lk:p.length=n:=by rw[<-rk.length,Ab,hn]
 have lp:ps.length=n:=by have:=Bt List.length U;rwa[Ab,BG] at this
 have big:(100000:Nat)<=sizeLine:=by decide
 refine x4 I.tk (TS.w_sortedK (rk:=λi=>rks.getD i 0) (B:=1000000) (kvs:=p) ⟨⟨name,eK,J,p1,p2,p3,p4,p5,x1,pm,r,c',cell,kk,hf,a2,C,pk.isList,hb⟩,I.nolimit⟩ S ?_ pl.isList (by lia) (λx hx=>?_) (λx hx=>?_) ?_ λh' tk g D c hD keep hg a1 pw ht=>?_)
 ·show X.A.depth<recursionLimit;lia
 ·have T:x.1∈List.range n:=by rw[<-U];exact Dd hx
  have a3:=Bb.mp T;refine⟨by lia,?_⟩;have e1:(rks.map V.int)[x.1]?=some (V.int (rks.getD x.1 0)):=by rw[An,Af (by lia),Bm,Af (by lia)];rfl
  obtain⟨u,e2,r2⟩:=Words.Paired.getP rk e1;obtain⟨t,rfl⟩:=(show ∃t,u=Value.int (rks.getD x.1 0) t from r2);exact⟨t,e2⟩
 ·have T:x.1∈List.range n:=by rw[<-U];exact Dd hx
  have a3:=Bb.mp T;omega
 ·rw[U];exact B4
 ·have a4:H D=none:=I.hok.fresh hD;refine⟨.ref D,_,I.laid (t':=tk) (o:=.lst ((g.map (·.1)).map λi:Nat=>V.int (i:Int))) keep hD ?_,rfl,q D (g.map (·.1)) a4 ?_ ?_⟩
  ·refine⟨?_,g.map TS.itV,c,?_,hg⟩
   ·rw[Ab,Ab,a1.length_eq];lia
   ·rw[BM];exact ra g
  ·rw[<-U];exact a1.map _
  ·exact Dt.mpr pw
theorem za.tabbed{P U:Addr}{ps more:Array Value}{oc fo:Obj}{tk:Nat}(I:za X pins σ H s)(T:H P=some (.tbl ps))(hx:Heap.ExtBut P s.heap h')(g:h'.get? P=some (PySem.W.tabObj (ps++more)))
 (hc:s.heap.objs.size<=U) (j:h'.get? U=some oc) (ht:0<tk):za X pins σ (upd (upd H P (.tbl (ps++more))) U (.frz oc (.own 0))) { s with heap:=h'.push fo,toks:=tk }:=by
 have nc:H U=none:=I.hok.fresh hc;have t:∀b,H b=none->b≠P:=λb e z=>by rw[z,T] at e;cases e
 have l:∀b u,H b=some u->b≠U:=λb u e z=>by rw[z,nc] at e;cases e
 have p:∀b o,s.heap.get? b=some o->b≠U:=λb o e=>AV (AI (At e) hc);have C:∀b o,b≠P->s.heap.get? b=some o->(h'.push fo).get? b=some o:=λb o n e=>As _ (hx b o n e);have J:∀b u,H b=some u->(∀ps,u≠.tbl ps)->b≠P:=λb u e d z=>by rw[z,T] at e;cases e;exact d _ rfl
 refine I.step (ch:=[]) (g':=s.gens) (d':=s.drawn) (t':=tk) (λ_ z=>nomatch z) (λb o _ _ _ e n=>C b o (t b n) e) (λb o _ _ _ e n=>⟨o.slots,C b o (t b n) e⟩) (λb o _ e n=>?_) (λb o _ e=>?_) (λb xs e=>?_) (λb o u e=>?_) (λb qs e=>?_) (λm hm=>?_) (λb u e=>?_) I.bare ht
 ·rw[qo (p b o e),qo (t b n)];exact n
 ·by_cases c:b=P
  ·subst c;exact⟨_,As _ g⟩
  ·exact⟨o,C b o c e⟩
 ·rw[qo (l b _ e),qo (J b _ e λ_ z=>by cases z)];exact e
 ·rw[qo (l b _ e),qo (J b _ e λ_ z=>by cases z)];exact e
 ·rw[qo (l b _ e)];by_cases c:b=P
  ·subst c;rw[T] at e;cases e;exact⟨more,zg⟩
  ·rw[qo c];exact⟨#[],by rw[e];simp⟩
 ·exact(hm.extBut hx (t _ I.free)).push _
 ·by_cases c:b=U
  ·subst c;rw[zg] at e;cases e;exact⟨As _ j,_,As _ j⟩
  ·rw[qo c] at e;by_cases d:b=P
   ·subst d;rw[zg] at e;cases e;exact As _ g
   ·rw[qo d] at e;refine(I.hok b u e).stay (λa v ha r=>C a v ?_ r) (λa r=>?_) (λa xs r=>?_)
    ·rcases ha with rfl|ha
     ·exact d
     ·exact J a _ ha λ_ z=>by cases z
    ·rw[qo (l a _ r),qo (J a _ r λ_ z=>by cases z)];exact r
    ·rw[qo (l a _ r),qo (J a _ r λ_ z=>by cases z)];exact r
theorem aav{te:TE}{J:Arguments}{U:Pos}{ik:Nat}{P:Addr}(hg:Gl X "sorted")(hm:X.mg "sorted"=none)(he:PE X e te)(S:TS.KeySc fx kx px)(C:xK X.K X.env.code P)(hr:X.A.depth+3<recursionLimit)
 (hq:X.env.qual ++ "<lambda>" = q) (bq:X.N[ik]?=some kx) (aL:X.env.scope.names.lookup kx=some .cell) (ba:∃cell,X.env.cells.lookup kx=some cell/\closureFor fx X.env=pure [(kx,cell)])
 (bb:defaultsOf J X.env=([],[])) (hb:∀(name eK:Str) (cl:List (Str×Addr)) (pm cd ct v:Value),bindArgs (PySem.W.kla_fn name eK J (TS.keyBody kx px p1 p2 p3 p4 p5 x1) fx cl pm cd ct) ⟨[v],[]⟩=pure [(px,v)])
 (h1:starEach [e] X.env=(false,eval e X.env)::starEach [] X.env:=by rfl) (h2:(backTo pos (starEach [e] X.env)).any (·.1)=false:=by rfl)
 (h3:backTo pos (starEach [e] X.env)=(false,eval e X.env)::backTo pos (starEach [] X.env):=by rfl):
 PE X (.Call (.Name "sorted" p) [e] [⟨some "key",.Lambda J (TS.keyBody kx px p1 p2 p3 p4 p5 x1) fx U,ya⟩] pos) (alw P q ik te):=by
 intro a1 s σ H Q I h;refine wpAny_Call_Name_kw (ck I hg hm (by decide +kernel:bootBuiltins "sorted"=some (.builtin "sorted")) ?_ (by decide) (by decide));refine PyProof.Rows.callWith_kw ?_ h3 h2;rw[h3];refine El (aI (he a1 s σ H _ I h) λv s1 ⟨x,H1,g,rx,l,kk,n,rks,ev,hl,hs,hk,hn,hz,T,qq⟩=>?_);refine Eo ?_;subst ev;cases (show v=Value.ref l from rx);show wpAny _ _ (evalAll ((do let v <-eval (.Lambda J (TS.keyBody kx px p1 p2 p3 p4 p5 x1) fx U) X.env;standAt pos;pure v)::[])) _ _ s1;refine wpAny_evalAll_cons (Aa ?_);obtain⟨cell,a3,au⟩:=ba;obtain⟨c,br,bc,lc,hC⟩:=C.ex;obtain⟨bm,ob,b1,b2,b3,b4,b5,b6,b7⟩:=C.bm;obtain⟨ag,tP,tok,a4⟩:=T;have bd:s1.heap.Ns mainGlobals X.mg:=g.ok.mod.glob.keeps g.bk;have bf:s1.heap.get? P=some (PySem.W.tabObj ag):=g.hok P _ tP;have bg:PySem.W.CodeHd s1.heap c P:=hC _ (g.kIn c br lc);have a2:∀b o,X.base.get? b=some o->b≠P:=λb o e z=>by have:=(g.bs b o e).2;rw[z,tP] at this;cases this
 have av:=g.ok.mod.kin bm ob b4;have hB:s1.heap.BuiltinsAt X.mg P:=⟨bm,ob,Bg g.ok.mod.kin g.ok.mod.glob b1,b2,b3,a2 _ _ av,(g.bs _ _ av).1,b5,b6,b7⟩;have bu:mainGlobals≠P:=by obtain⟨o,es,ep,e,hd,_⟩:=g.ok.mod.glob;exact a2 _ _ e
 have a5:s1.heap.IsCell cell (some (.ref kk)):=by
  obtain⟨m,_,bv⟩:=g.loc;obtain⟨u,ru,lk⟩:=bv ik kx _ bq hs (.inr (.inl aL));cases (show u=Value.ref kk from ru);rcases lk with⟨k1,_⟩|⟨_,c2,e2,bw⟩
  ·have k1:X.env.scope.names.lookup kx=some .local:=k1;rw[aL] at k1;cases k1
  ·rw[a3] at e2;cases e2;exact bw
 refine PySem.W.kla_eval bb ?_;rw[hq];have jw:∀(s2:Shared) (H2:Hp) (f j:Addr) (r pm:Value),za X a1 σ H2 s2->s2.heap.get? f=some (PySem.W.kla_obj "<lambda>" q J (TS.keyBody kx px p1 p2 p3 p4 p5 x1) fx [(kx,cell)] pm j r)->s2.heap.CodeRec (.ref j) q->s2.heap.IsCell cell (some (.ref kk))->
  (∀b u,b≠P->H1 b=some u->H2 b=some u)->pN H2 P q->(∀b,H2 b=none->H1 b=none)->
  wpAny (model X.prog X.w) X.A (do standAt pos;pure (Value.ref f)) (λv s'=>wpAny (model X.prog X.w) X.A (evalAll []) (λvs bS=>wpAny (model X.prog X.w) X.A (call (.builtin "sorted") [.ref l] ([Str.ofString "key"].zip (v::vs))) (EP X a1 σ Q) X.xe bS) X.xe s') X.xe s2:=by
  intro s2 H2 f j r pm I2 g1 g2 g3 g4 g5 g6;refine Aa (wpAny_standAt (Ag (wpAny_evalAll_nil ?_)));have lP:l≠P:=λz=>by rw[z,tP] at hl;cases hl
  have kP:kk≠P:=λz=>by rw[z,tP] at hk;cases hk
  refine yF (n:=n) (rks:=rks) I2 S hr g1 g2 g3 (λv=>hb _ _ _ _ _ _ v) (g4 _ _ lP hl) (g4 _ _ kP hk) hn hz λD qs hD cb pw=>?_;have bh:D≠P:=λz=>by obtain⟨d0,e2,_⟩:=g5;rw[z,e2] at hD;cases hD
  refine qq _ D qs (λb u n e=>?_) ?_ (g6 D hD) bh zg cb pw
  ·rw[qo (zr (g4 b u n e) hD)];exact g4 b u n e
  ·exact g5.keep (qo (AF bh)) λb o u e=>by rw[qo (zr e hD)];exact e
 cases hf:codeAmong U ag.toList with
 |some cv=>
  obtain⟨j,oc,vs,t,cc,f1,f2,f3⟩:=a4 U cv hf;subst cc;refine x4 g.tk (PySem.W.kla_makeFunctionHit (mg:=X.mg) au g.ok.glob bd bc bg bf tok hf hB λr h' tk bi de ht=>?_);have I2:za X a1 σ H1 { s1 with heap:=h'.push { cls:=.type "function",data:=.func (PySem.W.kla_fn "<lambda>" q J (TS.keyBody kx px p1 p2 p3 p4 p5 x1) fx [(kx,cell)] ((X.mg "__name__").getD .none) (.ref j) r) },toks:=tk }:=g.kept (t':=tk) λb o e=>As _ (bi b o e);obtain⟨al,_⟩:=I2.hok j _ f1;refine jw _ H1 _ j r _ I2 (Db _ rfl) ⟨j,oc,vs,t,rfl,al,f2,f3⟩ ?_ (λb u _ e=>e) ⟨ag,tP,tok,a4⟩ (λb e=>e);obtain⟨o,e1,e2⟩:=a5;exact⟨o,As _ (bi _ _ e1),e2⟩
 |none=>
  refine x4 g.tk (PySem.W.kla_makeFunction (mg:=X.mg) au g.ok.glob bd bc bg bf tok hf bu hB λj r h' tk hx bj di bn cm ht=>?_);obtain⟨c2,oc,vs,t,e2,al,f2,f3⟩:=bn;cases e2;have I2:=g.tabbed (fo:=PySem.W.kla_obj "<lambda>" q J (TS.keyBody kx px p1 p2 p3 p4 p5 x1) fx [(kx,cell)] ((X.mg "__name__").getD .none) j r) tP hx cm bj al ht;have nc:H1 j=none:=g.hok.fresh bj;have cP:j≠P:=λz=>by rw[z,tP] at nc;cases nc
  refine jw _ _ _ j r _ I2 (Db _ rfl) ⟨j,oc,vs,t,rfl,As _ al,f2,f3⟩ ?_ (λb u n e=>?_) ?_ (λb e=>?_)
  ·obtain⟨o,e1,e2⟩:=a5;have nP:cell≠P:=λz=>by have:=g.freeC kx cell a3;rw[z,tP] at this;cases this
   exact⟨o,As _ (hx _ _ nP e1),e2⟩
  ·rw[qo (zr e nc),qo n];exact e
  ·refine⟨ag++#[rawInt U.line,rawInt U.col,.ref j],by rw[qo (AF cP),zg],?_,λbp cv z=>?_⟩
   ·rw[C9];exact qN _ tok
   ·rw[C9] at z;rcases tY _ tok z with z|z
    ·obtain⟨d',od,cy,t',k1,k2,k3⟩:=a4 bp cv z;have nP:d'≠P:=λz=>by rw[z,tP] at k2;cases k2
     exact⟨d',od,cy,t',k1,by rw[qo (zr k2 nc),qo nP];exact k2,k3⟩
    ·exact⟨j,oc,vs,t,z,zg,f2,f3⟩
  ·by_cases d:b=j
   ·subst d;exact nc
   ·rw[qo d] at e;by_cases d2:b=P
    ·subst d2;rw[zg] at e;cases e
    ·rw[qo d2] at e;exact e
end L2
namespace L3
open PySem L2
def aaa(Pt:Addr)(q:Str)(g:Nat)(te:xp)(τ:jo)(L:qr)(Q:YK):Prop:=te τ L λy L1=>match y with
 |.ref l=>eJ L1 l λys=>∃(n:Nat) (rks:List Int) (U:Addr),ys=ai 0 n/\zS τ g=some (.ref U)/\L1 U=some (.lst (rks.map Y.int))/\rks.length=n/\n<=63/\L1 Pt=some (.tb q)/\
  ∀(D:Addr) (J:List Nat),L1 D=none->J.Perm (List.range n)->(J.Pairwise λi j=>rks.getD i 0*1000000+(i:Int)<=rks.getD j 0*1000000+(j:Int))->Q (.ref D) (qi L1 D (.lst (J.map λi:Nat=>Y.int (i:Int))))
 |_=>False
theorem oI{G:G3}{H:Hp}:∀{l:List Nat} {xs:List V},xx G H (l.map λi:Nat=>Y.int (0+(i:Int))) xs->xs=l.map λi:Nat=>V.int (0+(i:Int))
 |[],_,h=>h
 |_::_,_,⟨x,J,e,r,s⟩=>by subst e;cases r;rw[oI s];rfl
theorem gG{G:G3}{H:Hp}:∀{l:List Int} {xs:List V},xx G H (l.map Y.int) xs->xs=l.map V.int
 |[],_,h=>h
 |_::_,_,⟨x,J,e,r,s⟩=>by subst e;cases r;rw[gG s];rfl
theorem tG{G:G3}{H:Hp}:∀J:List Nat,xx G H (J.map λi:Nat=>Y.int (i:Int)) (J.map λi:Nat=>V.int (i:Int))
 |[]=>rfl
 |_::r=>⟨_,_,rfl,rfl,tG r⟩
theorem ad8{J:Arguments}{g:Pos}{t:Nat}(hg:Gl X "sorted")(hm:X.mg "sorted"=none)(he:QE X e te)(S:TS.KeySc fx kx px)(C:xK X.K X.env.code Pt)(hr:X.A.depth+3<recursionLimit)
 (hq:X.env.qual ++ "<lambda>" = q) (I:X.N[t]?=some kx) (a1:X.env.scope.names.lookup kx=some .cell) (j:∃cell,X.env.cells.lookup kx=some cell/\closureFor fx X.env=pure [(kx,cell)])
 (o:defaultsOf J X.env=([],[])) (hb:∀(name eK:Str) (cl:List (Str×Addr)) (pm cd ct v:Value),bindArgs (PySem.W.kla_fn name eK J (TS.keyBody kx px p1 p2 p3 p4 p5 x1) fx cl pm cd ct) ⟨[v],[]⟩=pure [(px,v)])
 (h1:starEach [e] X.env=(false,eval e X.env)::starEach [] X.env:=by rfl) (h2:(backTo pos (starEach [e] X.env)).any (·.1)=false:=by rfl)
 (h3:backTo pos (starEach [e] X.env)=(false,eval e X.env)::backTo pos (starEach [] X.env):=by rfl):
 QE X (.Call (.Name "sorted" p) [e] [⟨some "key",.Lambda J (TS.keyBody kx px p1 p2 p3 p4 p5 x1) fx g,ya⟩] pos) (aaa Pt q t te):=
 DW (aav hg hm he S C hr hq I a1 j o hb h1 h2 h3) λσ H Q τ L Q3 rs rl z k=>by
  refine⟨τ,L,_,rs,rl,z,λv H1 y L1 t1 U rv z=>?_⟩;cases y with
  |ref l=>
   obtain⟨ys,e1,n,a2,kk,rfl,e2,e3,hn,hz,eP,qq⟩:=vo z;cases rv;obtain⟨xs,h1,r1⟩:=U l _ e1;obtain⟨xk,h2,r2⟩:=U kk _ e3;have T:pN H1 Pt q:=U Pt _ eP;cases oI r1;cases gG r2;obtain⟨v,hv,rv⟩:=rs.get t _ (pC _ _ e2);cases rv;refine⟨l,kk,n,a2,rfl,h1,hv,h2,hn,hz,T,λH2 D qs kp T2 hD a4 a3 pm pw=>?_⟩;have tb:∃r,H1 Pt=some (.tbl r):=let ⟨r,e,_⟩:=T;⟨r,e⟩;have t2:ja H1 H2:=λa u i h=>kp a u (λc=>by obtain⟨r,e⟩:=tb;rw[c,e] at h;cases h;cases i) h
   refine k _ _ _ _ (t1.trans t2) (λa u e=>?_) (by rfl) (qq D qs (U.none hD) pm pw);by_cases c:a=D
   ·subst c;rw[q8] at e;cases e;exact⟨_,a3,tG qs⟩
   ·rw[qb c] at e;by_cases d:a=Pt
    ·subst d;rw[eP] at e;cases e;exact T2
    ·obtain⟨x,hx⟩:=(U a u e).ex;exact(U a u e).keep t2 (by rw[hx];exact kp a x d hx)
  |_=>exact z.elim
structure aja(K:Ad)(x eK:Str)(st:Stmt)(f:Addr)(fd:FuncData)(Pt:Addr):Prop where
 ex:∃(oc:Value) (od:Option Addr) (kV gh pm:Value) (an:Option Addr) (fm ct:Value) (sy:Array (Option Value)),
  fd=PySem.W.fnOf x eK (vd st) (jh st) (qy st) .none kV gh pm an fm ct/\K.lookup f=some ⟨oc,od,.func fd,sy⟩/\PySem.W.codeIn K fm eK=true/\xK K fm Pt
 kp:PySem.W.keepIn K (.ref f)=true
theorem aqq{P:Program}{w:World}{K:Ad}{N:List Str}{k:Nat}{sp:jl}(F:aja K x eK st f fd Pt)(S:aG N ps (qy st))(len:∀ys L Q,sp ys L Q->ys.length=ps.length)
 (J:∀(fm:Value) (A:Around) (outer:List Env) (s:Shared) (H:Hp) (E:XK),xK K fm Pt->wb k (A.deeper (PyProof.Rows.envOfC eK (qy st) s.heap.objs.size f fm))->
  ∃t,oa (cn CX0 P w K mg base N eK (qy st) f fm A outer s H E).nox (jh st) t/\∀ys L Q,sp ys L Q->t { nx:=λ_ L'=>bQ Q .non L',rt:=bQ Q } (eU N ys) L):Fn3 P w K mg base (k+1) f fd ps sp:=by
 obtain⟨oc,od,kV,j,pm,an,fm,ct,l,rfl,lk,g,C⟩:=F.ex;have F0:Fun K x eK st f _:=⟨⟨oc,od,kV,j,pm,an,fm,ct,l,rfl,lk,g⟩,F.kp⟩;refine aby lk g S (λvs H Q E ⟨ys,L,o,p,rl,z,_⟩=>by rw[<-p.length];exact len ys L o z) λA outer s H vs Q E hr ⟨ys,L,o,p,rl,z,k⟩=>?_;obtain⟨t,ht,q⟩:=J fm A outer s H E C hr;refine⟨_,fN.nox ht,eU N ys,L,_,iA p,rl,q ys L o z,?_⟩;exact⟨λσ r τ L' I a2 U ⟨L2,T,q2⟩=>k .non r .non L2 I (U.sub T) (by rfl) q2,λv r y L' I U a1 ⟨L2,T,q2⟩=>k v r y L2 I (U.sub T) a1 q2,λ_ _ _ _ _ _ _ z=>z.elim,λ_ _ _ _ _ _ _ z=>z.elim⟩
def qI(Pt:Addr)(q:Str):jl:=λys L Q=>∃J:List Int,ys=[.sq (J.map Y.int)]/\J.length<=63/\L=qi (λ_=>none) Pt (.tb q)/\∀L',Q (.bl true) L'
def spTopT(q:Str)(K:Ad)(Pt:Addr):Sp:=λvs H Q _=>∃(a:Addr) (J:List Int),vs=[.ref a]/\SqF K H a (J.map V.int)/\J.length<=63/\H Pt=some (.tbl #[])/\∀H',Q (.bl true) H'
theorem ai2{Q:VK}{E:XK}(h:spTopT q G.K Pt vs H Q E):dn G (qI Pt q) vs H Q E:=by
 obtain⟨a,J,rfl,U,g,j,z⟩:=h;refine⟨[.sq (J.map Y.int)],qi (λ_=>none) Pt (.tb q),λy _=>y=.bl true,xx.one ⟨a,_,rfl,U,sm J⟩,(λb u e=>?_),⟨J,rfl,g,rfl,λ_=>rfl⟩,?_⟩
 ·by_cases c:b=Pt
  ·subst c;rw[q8] at e;cases e;exact⟨#[],j,trivial,λpos p z=>by cases z⟩
  ·rw[qb c] at e;cases e
 ·rintro v l y r _ _ o rfl;cases o;exact z l
end L3
namespace L2
open PySem PySem.Spec PyProof.Rows
def lessK(Pt:Addr):Ad->Ad
 |[]=>[]
 |(a,o)::r=>if a==Pt then lessK Pt r else(a,o)::lessK Pt r
theorem xl{Pt a:Addr}(h:a≠Pt):∀K:Ad,(lessK Pt K).lookup a=K.lookup a
 |[]=>rfl
 |(b,o)::r=>by
  unfold lessK;by_cases c:(b==Pt)=true
  ·rw[AB c,xl h r,Bo];have:(a==b)=false:=by have J:=eq_of_beq c;subst J;exact DN h
   rw[this]
  ·rw[AC c,Bo,Bo,xl h r]
theorem vz{Pt:Addr}:∀K:Ad,(lessK Pt K).lookup Pt=none
 |[]=>rfl
 |(b,o)::r=>by
  unfold lessK;by_cases c:(b==Pt)=true
  ·rw[AB c];exact vz r
  ·rw[AC c,Bo];have:(Pt==b)=false:=by cases d:Pt==b with|false=>rfl|true=>exact absurd (beq_iff_eq.mpr (eq_of_beq d).symm) c
   rw[this];exact vz r
theorem mE{K:Ad}{o:Obj}(e:(lessK Pt K).lookup a=some o):a≠Pt/\K.lookup a=some o:=by
 by_cases c:a=Pt
 ·subst c;rw[vz] at e;cases e
 ·rw[xl c] at e;exact⟨c,e⟩
theorem lessK_in{K:Ad}(X:K.In h):(lessK Pt K).In h:=λa o e=>X a o (mE e).2
structure aie(K:Ad)(Pt:Addr):Prop where
 tab:K.lookup Pt=some (PySem.W.tabObj #[])
 hd:∃c,∀h:Heap,K.In h->PySem.W.CodeHd h c Pt
 st:Pt≠cStatics
section
variable {K:Ad}(T:K.lookup Pt=some (PySem.W.tabObj #[]))
include T
theorem ns_dn{r:Option (Option Value)}(e:PySem.W.nsIn K a x=r):PySem.W.nsIn (lessK Pt K) a x=r:=by
 rw[<-e];unfold PySem.W.nsIn;by_cases c:a=Pt
 ·subst c;rw[vz,T]
 ·rw[xl c]
theorem lk_dn{o:Obj}(e:K.lookup a=some o)(n:o.cls≠.none):(lessK Pt K).lookup a=some o:=by
 rw[xl ?_]
 ·exact e
 ·rintro rfl;rw[T] at e;cases e;exact n rfl
theorem code_dn(e:PySem.W.codeIn K cd q=true):PySem.W.codeIn (lessK Pt K) cd q=true:=by
 unfold PySem.W.codeIn at e ⊢;split at e
 ·rename_i c;by_cases d:c=Pt
  ·subst d;rw[T] at e;simp at e
  ·rw[xl d];exact e
 ·cases e
theorem akr{v:Value}:PySem.W.ownIn (lessK Pt K) x v=PySem.W.ownIn K x v:=by
 unfold PySem.W.ownIn;split
 ·rfl
 ·rename_i a;by_cases d:a=Pt
  ·subst d;rw[vz,T]
  ·rw[xl d];split
   ·exact ns_dn T rfl
   ·rfl
 ·rfl
theorem rc{x:Str}:∀l:List Value,PySem.W.alongIn (lessK Pt K) x l=PySem.W.alongIn K x l
 |[]=>rfl
 |c::r=>by unfold PySem.W.alongIn;rw[akr T,rc r]
theorem fv{v:Value}:PySem.W.findIn (lessK Pt K) v x=PySem.W.findIn K v x:=by
 unfold PySem.W.findIn;split
 ·rfl
 ·rename_i a;by_cases d:a=Pt
  ·subst d;rw[vz,T]
  ·rw[xl d];split
   ·exact rc T _
   ·rfl
 ·rfl
theorem um(n:a≠Pt):PySem.W.specialIn (lessK Pt K) (.ref a) x=PySem.W.specialIn K (.ref a) x:=by unfold PySem.W.specialIn PySem.W.typeIn;dsimp only;rw[xl n];congr 1;funext t;exact fv T
theorem keep_dn{f:Value}(e:PySem.W.keepIn K f=true):PySem.W.keepIn (lessK Pt K) f=true:=by
 unfold PySem.W.keepIn at e ⊢;split at e
 ·rename_i a;by_cases d:a=Pt
  ·subst d;rw[T] at e;simp at e
  ·rw[xl d,um T d];exact e
 ·cases e
end
theorem yo{P:Program}{w:World}{K:Ad}{mb:Str->Option Value}{CX:wJ}{k:Nat}{fa:Addr}{J:Shared}{vs:List Value}{T:List Int}
 (KX:K.In J.heap) (TI:aie K Pt) (a1:J.heap.Ns mainGlobals mg) (hb:J.heap.Ns builtinsNs mb) (au:∀x:Str,x ≠ "__name__" -> mb x=bootBuiltins x) (a2:J.heap.NoLimit) (hg:J.gens=#[]) (av:0<J.toks)
 (t:J.heap.get? a=some { cls:=.type "list",data:=.seq vs.toArray }) (hi:IntsAre vs T) (hl:T.length<=sizeLine) (hr:wb k callerA)
 (F:∀base:Heap,(lessK Pt K).In base->base.Ns mainGlobals mg->bA P w (lessK Pt K) mg base CX k fa fd [x] sp) (p:∀(s:Shared) (u:Value),BindsTo s fd ⟨[u],[]⟩ [(x,u)])
 (aL:∀H:Hp,H Pt=some (.tbl #[])->(H a=none\/∃o xs,H a=some (.frz o (.lst xs)))->aJ (lessK Pt K) H a (T.map V.int)->sp [.ref a] H (λv _=>v=.bl true) λ_ _ _=>False)
 (ba:∀H e s',CX [] H J (λ_ _ _=>False) e s'->False):
 codeAny (model P w) callerA (.call (.ref fa) ⟨[.ref a],[]⟩) (λr s'=>r=.ok (.ret (.bool true))/\OldK J.heap s'.heap/\s'.os=J.os/\AllBare s'.gens) J:=by
 have rv:=o7 hi;have a3:=hi.length;have hP:J.heap.get? Pt=some (PySem.W.tabObj #[]):=KX Pt _ TI.tab;have g:a≠Pt:=λz=>by rw[z,hP] at t;cases t
 have core:∀H:Hp,H Pt=some (.tbl #[])->(∀b,b≠a->b≠Pt->H b=none)->(H a=none\/∃o xs,H a=some (.frz o (.lst xs)))->aJ (lessK Pt K) H a (T.map V.int)->(∀u,H a=some u->xq P w H J.heap a u)->(H a≠none->K.lookup a=none)->
  codeAny (model P w) callerA (.call (.ref fa) ⟨[.ref a],[]⟩) (λr s'=>r=.ok (.ret (.bool true))/\OldK J.heap s'.heap/\s'.os=J.os/\AllBare s'.gens) J:=by
  intro H HP Hn HO HS a4 bb;have a5:dU P w H J.heap:=λb u e=>by
   by_cases c:b=a
   ·subst c;exact a4 u e
   ·by_cases d:b=Pt
    ·subst d;rw[HP] at e;cases e;exact hP
    ·rw[Hn b c d] at e;cases e
  have U:∀{b:Addr} {o:Obj},J.heap.get? b=some o->H b=none->(pF J.heap H).get? b=some o:=λe n=>adb e n;have bc:∀{b:Addr} {o:Obj} {C:Array DictEntry} {I:Nat},J.heap.get? b=some o->o.data=.dict C I->H b=none:=λ{b o C I} e d=>by
   refine Hn b (λz=>?_) λz=>?_
   ·subst z;rw[t] at e;cases e;have d':Data.seq vs.toArray _=Data.dict C I:=d;cases d'
   ·subst z;rw[hP] at e;cases e;have d':Data.fields _=Data.dict C I:=d;cases d'
  have j:∀{b:Addr} {m:Str->Option Value},J.heap.Ns b m->(pF J.heap H).Ns b m:=λ{b m} ⟨o,C,I,e,d,r⟩=>⟨o,C,I,U e (bc e d),d,r⟩;have ag:(lessK Pt K).In (pF J.heap H):=λb o e=>by
   obtain⟨n,e⟩:=mE e;refine U (KX b o e) ?_;by_cases c:b=a
   ·subst c;cases q:H b with|none=>rfl|some u=>rw[bb (by rw[q];simp)] at e;cases e
   ·exact Hn b c n
  have hM:Mod (lessK Pt K) mg (pF J.heap H):=⟨ag,j a1,⟨mb,j hb,au⟩,let ⟨mc,h1,h2⟩:=a2;⟨mc,j h1,h2⟩⟩;have e0:af9 P w (lessK Pt K) mg (pF J.heap H) callerA [] J H:=⟨rfl,hM,λb o e=>ahh e,Nat.le_of_eq (yr _ _),trivial,λb hb=>absurd (show b∈([]:List Addr) from hb) (by simp),a5,.of_eq hg,av⟩;refine codeAny_mono ((F _ ag (j a1)).run callerA [] J H ⟨[.ref a],[]⟩ [.ref a] [.ref a] _ _ hr e0 (p J (.ref a)) (.cons rfl .nil) (aL H HP HO HS)) λr s' h=>?_;cases r with
  |error e=>exact(ba H e s' h).elim
  |ok fl=>
   cases fl with
   |next=>exact False.elim h
   |brk=>exact False.elim h
   |cont=>exact False.elim h
   |ret u=>
    obtain⟨v,H',os,bare,un,l,r',q,_⟩:=h;have q':v=.bl true:=q;subst q';obtain rfl:u=Value.bool true:=r';obtain⟨more,em⟩:=un.tbls Pt _ HP;have gP:s'.heap.get? Pt=some (PySem.W.tabObj (#[]++more)):=l Pt _ em;have kp:∀b o,b≠Pt->J.heap.get? b=some o->s'.heap.get? b=some o:=λb o n e=>by
     have al:H b=none->s'.heap.get? b=some o:=λz=>un.keep b o e z (by intro z;exact absurd (show b∈([]:List Addr) from z) (by simp)) (by simp);by_cases c:b=a
     ·subst c;rcases HO with z|⟨ob,xs,z⟩
      ·exact al z
      ·have z2:=un.frzs _ _ _ z;obtain⟨e1,_⟩:=a5 _ _ z;obtain⟨e2,_⟩:=l _ _ z2;rw[e] at e1;cases e1;exact e2
     ·exact al (Hn b c n)
    obtain⟨c,hc⟩:=TI.hd;refine⟨rfl,⟨λb o e=>?_,λb o e=>?_⟩,os,bare⟩
    ·by_cases n:b=Pt
     ·subst n;rw[hP] at e;cases e;exact .inr (.inl ⟨((hc _ KX).tab hP).isCodeTable,rfl,#[],more,rfl,gP⟩)
     ·exact .inl (kp b o n e)
    ·by_cases n:b=Pt
     ·subst n;exact⟨_,gP⟩
     ·exact⟨o,kp b o n e⟩
 cases hk:K.lookup a with
 |some o=>
  have e:=KX a o hk;rw[t] at e;cases e;refine core (λb=>if b=Pt then some (.tbl #[]) else none) (AB rfl) (λb _ n=>AC n) (.inl (AC g)) (.inr ⟨_,vs.toArray,_,(xl g K).trans hk,rfl,rfl,rfl,by rw[Al,a3];exact hl,by simpa using rv⟩) (λu z=>by have z':=(AC g).symm.trans z;cases z') λz=>absurd (AC g) z
 |none=>
  refine core (λb=>if b=a then some (.frz { cls:=.type "list",data:=.seq vs.toArray } (.lst (T.map V.int))) else if b=Pt then some (.tbl #[]) else none) ((AC (AF g)).trans (AB rfl)) (λb n1 n2=>(AC n1).trans (AC n2)) (.inr ⟨_,_,AB rfl⟩) (.inl (.inr ⟨_,AB rfl⟩)) (λu z=>?_) λ_=>hk;have z':=(AB rfl).symm.trans z;cases z';exact⟨t,by rw[Ab];exact hl,vs,_,rv,t⟩
theorem walk_ofZT{l:PySem.W.OpenLaw}{k:Nat}{q:Program}{loose:List Str}{XP:(Str->Option Value)->Heap->Prop}{as0:List Addr}{N t:Nat}{d:DefRec}{K:Params->Ad}{CX:wJ}{sp:Ad->Addr->Sp}
 (hn:l.most=some n) (C:n<=sizeLine) (I:d.params.defaults=[]) (hr:wb k callerA) (ek:∀P,as0=(K P).map (·.1)) (a1:0<t)
 (F:∀(w:World) (mg:Str->Option Value) (fa:Addr) (h:Heap),(K w.params).In h->h.Ns mainGlobals mg->mg d.name=some (.ref fa)->
  ∃Pt:Addr,aie (K w.params) Pt/\∃fd:FuncData,(∀(s:Shared) (u:Value),BindsTo s fd ⟨[u],[]⟩ [(x,u)])/\
   ∀base:Heap,(lessK Pt (K w.params)).In base->base.Ns mainGlobals mg->bA l.prog w (lessK Pt (K w.params)) mg base CX k fa fd [x] (sp (lessK Pt (K w.params)) Pt))
 (a2:∀(K:Ad) (Pt:Addr) (H:Hp) (a:Addr) (r:List Int),r.length<=n->H Pt=some (.tbl #[])->(H a=none\/∃o xs,H a=some (.frz o (.lst xs)))->aJ K H a (r.map V.int)->sp K Pt [.ref a] H (λv _=>v=.bl true) λ_ _ _=>False)
 (a3:∀(H:Hp) (s:Shared) (e:Value) (s':Shared),CX [] H s (λ_ _ _=>False) e s'->False):
 PySem.W.WalkX q loose XP (PySem.W.X.obsZ as0) (PySem.W.X.valZ K N t) l.row.toRowW d [] (λf vs=>PySem.call f vs):=by
 refine Att.attach_callZ hn I ek a1 λw a5 j mg mb fa o pm cd ag a vs r G KX tk ho hd al a4 p U J hg=>?_;obtain⟨Pt,TI,fd,hb,hF⟩:=F w mg fa _ KX G.T.g a4;exact yo KX TI G.T.g G.T.b G.T.builtins G.T.nolimit hg tk p U (AM J C) hr hF hb (λH hP hO hS=>a2 _ Pt H a r J hP hO hS) λH e s'=>a3 H j e s'
end L2
namespace L3
open PySem L2
theorem top_startT :∀(K:Ad) (Pt:Addr) (H:Hp) (a:Addr) (J:List Int),J.length<=63->H Pt=some (.tbl #[])->(H a=none\/∃o xs,H a=some (.frz o (.lst xs)))->aJ K H a (J.map V.int)->spTopT q K Pt [.ref a] H (λv _=>v=.bl true) λ_ _ _=>False:=by
 intro K Pt H a J U g j l;refine⟨a,J,rfl,?_,U,g,λ_=>rfl⟩;rcases l with(h|⟨o,h⟩)|h
 ·rcases j with z|⟨o,xs,z⟩<;>rw[h] at z<;>cases z
 ·exact .inl ⟨o,h⟩
 ·exact .inr h
structure DefInT(K:Ad)(x:Str)(st:Stmt)(Pt:Addr):Prop where
 ex:∃(f:Addr) (kV gh pm:Value) (an:Option Addr) (fm ct:Value),PySem.W.nsIn K mainGlobals x=some (some (.ref f))/\aja K x x st f (PySem.W.fnOf x x (vd st) (jh st) (qy st) .none kV gh pm an fm ct) Pt
theorem DefInT.use{K:Ad}(D:DefInT K x st Pt)(X:K.In h)(G:h.Ns mainGlobals mg)
 (J:∀(kV gh pm:Value) (an:Option Addr) (fm ct:Value) (us:List Value),us.length=ps.length->bindArgs (PySem.W.fnOf x x (vd st) (jh st) (qy st) .none kV gh pm an fm ct) ⟨us,[]⟩=pure (ps.zip us)):
 ∃f fd,aja K x x st f fd Pt/\dM K fd ps []/\mg x=some (.ref f):=by
 obtain⟨f,kV,gh,pm,an,fm,ct,a,F⟩:=D.ex;exact⟨f,_,F,.all (J kV gh pm an fm ct),Bg X G a⟩
end L3
namespace L2
open PySem PySem.Spec PyProof.Rows
section
variable {hQ:St}
end
end L2
namespace L3
open PySem L2
theorem ald:bootBuiltins "min"=some (.builtin "min"):=by decide +kernel
def nZ(x:Y)(lo hi:Option Int)(L:qr)(Q:YK):Prop:=match x with
 |.tup ys=>¬(HT.sIx ys.length 0 lo=0/\HT.sIx ys.length ys.length hi=ys.length)/\Q (.tup (jM ys lo hi)) L
 |_=>False
theorem gQ(K:Ad)(P:Program)(w:World)(g:X.K=K:=by rfl)(j:X.prog=P:=by rfl)(hw:X.w=w:=by rfl):rG X (aey ⟨K,P,w⟩ nZ):=by
 subst g j hw;refine rG.imp ako λx lo U H Q ⟨y,L,Q3,l,o,z,k⟩=>?_;cases y with
 |tup t=>
  obtain⟨a,C,e,sq,r⟩:=l;obtain⟨I,T⟩:=z;exact⟨a,C,e,sq,by rw[<-r.length];exact I,λp J=>k _ _ (.tup (jM t lo U)) L (DV J) (o.skip J) ⟨p,_,rfl,.inl (.inl zg),(rB r lo U).ts (DV J)⟩ T⟩
 |_=>exact z.elim
theorem uK{keep:qr->Prop}(h:∀H L,ja H₀ H->j5 G H L->keep L->∃xs,cB G.K H a xs/\xx G H ys xs):fe G H₀ (Itt G.K a) ys keep where
 go:=λi H L t J U g=>by
  obtain⟨xs,sq,r⟩:=h H L t J U;have:i<xs.length:=by rw[<-r.length];exact g
  exact⟨xs,xs[i],sq,Af this⟩
 yld:=λi H L x p y t J U j ⟨e,f⟩=>by subst e;obtain⟨xs,sq,r⟩:=h _ L t J U;obtain⟨C,l,o⟩:=r.get j;have:=f xs sq;rw[l] at this;cases this;exact⟨DS _,J,o⟩
 stop:=λH L t J U=>by obtain⟨xs,sq,r⟩:=h H L t J U;exact⟨xs,sq,by rw[r.length];exact Aj _⟩
theorem adf(h:QE X e te):QI X tg e (acs te):=PI.imq (al4 h) λσ H R l L R3 o p z k=>by
 refine⟨l,L,_,o,p,z,λv C y I T J U g=>?_⟩;cases y with
 |tup ys=>
  obtain⟨a,j,e,sq,r⟩:=U;exact⟨a,e,⟨j,sq⟩,k _ C ys (λ_=>True) I T J (uK λH L t _ _=>⟨j,cB.ts sq t,r.ts t⟩) g⟩
 |_=>exact g.elim
theorem dp3{k:Nat}(J:wb k A):A.depth+3<recursionLimit:=by have:=J.dp;omega
abbrev lamQ:Str:="_law_order.<locals>.<lambda>"
open PySem L2 Words
def OkO(ks:List (Option Kn)):Prop:=∀(p:Nat) (e:Bool) (i j:Nat),ks[p]?=some (some (.nd e i j))->i<p/\j<p
def xV(ks:List (Option Kn))(rks:List Int):Prop:=∀(p:Nat) (e:Bool) (i j:Nat),p<rks.length->ks[p]?=some (some (.nd e i j))->rks.getD i 0<rks.getD p 0/\rks.getD j 0<rks.getD p 0
theorem lL{r:Int}(h:i<rks.length):(rks++[r]).getD i 0=rks.getD i 0:=by rw[Bm,Bm,AG h]
theorem ado{r:Int}:(rks++[r]).getD rks.length 0=r:=by rw[Bm,Aw (Aj _),B7];rfl
theorem xV.snoc{ks:List (Option Kn)}{r:Int}{k:Option Kn}(ok:OkO ks)(h:xV ks rks)(g:ks[rks.length]?=some k)(l:∀e i j,k=some (.nd e i j)->rks.getD i 0<r/\rks.getD j 0<r):xV ks (rks++[r]):=by
 intro p e i j J U;obtain⟨o,t⟩:=ok p e i j U;rw[Ac] at J;have J:p<rks.length+1:=J;rw[lL (show i<rks.length by lia),lL (show j<rks.length by lia)];by_cases c:p<rks.length
 ·rw[lL c];exact h p e i j c U
 ·have:p=rks.length:=by lia
  subst this;rw[ado];exact l e i j (AN (g.symm.trans U))
def cq(ks:List (Option Kn))(J:List Nat):Prop:=J.Pairwise λx y=>∀e i j,ks[x]?=some (some (.nd e i j))->y≠i/\y≠j
theorem adc{ks:List (Option Kn)}{J:List Nat}(ok:OkO ks)(h:xV ks rks)(U:rks.length=ks.length)(hw:J.Pairwise λi j=>rks.getD i 0*1000000+(i:Int)<=rks.getD j 0*1000000+(j:Int)):cq ks J:=by refine hw.imp λ{x y} z e i j ex=>?_;obtain⟨g,l⟩:=ok x e i j ex;obtain⟨o,p⟩:=h x e i j (by rw[U];exact jy ex) ex;exact⟨λc=>by subst c;lia,λc=>by subst c;lia⟩
theorem sG(h:i<rks.length):(rks.map Y.int)[i]?=some (.int (rks.getD i 0)):=by rw[An,Bm,Af h];rfl
def aac:vt:=(qt (zf (dR "abcdefghijklmnopqrstuvwxyz") (qh 2))
 (qt (zf (zb k8 (zk 1) (zb xu (q9 0) (zk 8))) (qh 3))
 (qt (zf (zb xu (zb vv (q9 0) (zk 8)) (q9 3)) (qh 4))
 (qt (zf (yBS vN (dR "") (qd (xD 1 (iC (vk (zk 8))) (qh 7) ae2 (zb wz (q9 2) (zb xu (zb k8 (zb vv (q9 0) (zk 64)) (zb m8 (zk 3) (q9 7))) (zk 26)))) z0)) (qh 5))
 (qt (jt (dk (zb xu (zb vv (q9 0) (zk 64)) (zk 3)) (zk 1)) (zy (vM yN (q9 5) w5 (aV (zb k8 (zk 1) (zb xu (zb k8 (q9 1) (q9 0)) (zk 3)))))) j8)
 (qt (zf (zb wz (q9 2) (zb xu (zb k8 (zb k8 (zb vv (q9 0) (zk 64)) (zb m8 (zk 3) (q9 4))) (q9 1)) (zk 26))) (qh 6))
 (zy (zb k8 (zb k8 (vM yN (q9 5) w5 (aV (q9 4))) (q9 6)) (vM yN (q9 5) (aV (zb k8 (q9 4) (zk 1))) (aV (q9 3)))))))))))
def dg(i:Int):Nat:=97+(i % 26).toNat
theorem wY(i:Int):dQ ("abcdefghijklmnopqrstuvwxyz" : Str).cps.toList (i % 26)=some (dg i):=by
 obtain⟨n,J⟩:∃n:Nat,i % 26=n:=⟨(i % 26).toNat,by lia⟩;have h:n<26:=by lia
 unfold dg;rw[J];have key:∀n,n<26->("abcdefghijklmnopqrstuvwxyz" : Str).cps.toList[n]?=some (97+n):=by decide +kernel
 exact x6 (key n h)
theorem wM(i:Int):97<=dg i/\dg i<=122:=by unfold dg;lia
def dN(s:Int):List Nat:=(List.range 8).map λk:Nat=>dg (s / 64+3*(k:Int))
theorem kH(s:Int):(dN s).length=8:=by unfold dN;simp
theorem kQ(s:Int):∀c∈dN s,97<=c/\c<=122:=λc J=>by obtain⟨k,_,rfl⟩:=AW.mp J;exact wM _
def o3(s:Int):Nat:=(s / 8 % (1+s % 8)).toNat
def szN(s:Int):Nat:=(1+s % 8).toNat
theorem aix(s:Int):o3 s<szN s/\szN s<=8/\s / 8 % (1+s % 8)=(o3 s:Int)/\1+s % 8=(szN s:Int):=by
 have h0:0<1+s % 8:=by lia
 have h1:0<=s / 8 % (1+s % 8):=DQ _ (by lia);have h2:s / 8 % (1+s % 8)<1+s % 8:=Int.emod_lt_of_pos _ h0;unfold o3 szN;lia
def aX(s w:Int):List Nat:=
 if s / 64 % 3=1 then(dN s).take (1+(w+s) % 3).toNat
 else((dN s).take (o3 s)++[dg (s / 64+3*(o3 s:Int)+w)])++((dN s).drop (o3 s+1)).take (szN s-(o3 s+1))
theorem rP(s w:Int):df (mkS (aX s w)):=by
 have J:(mkS (aX s w)).length=(aX s w).length:=by rw[<-Txs.len_list];show(aX s w).toArray.toList.length=_;simp
 have U:(mkS (aX s w)).cps.toList=aX s w:=by show(aX s w).toArray.toList=_;simp
 have g:=kH s;obtain⟨j,l,_,_⟩:=aix s;refine⟨?_,?_,?_⟩
 ·rw[J];unfold aX;split
  ·rw[A3];omega
  ·rw[Ac,Ac];simp;simp +arith only
 ·rw[J];unfold aX;split
  ·rw[A3];omega
  ·rw[Ac,Ac,A3,A3,Cu];simp;lia
 ·rw[U];intro c h;unfold aX at h;split at h
  ·exact kQ s c (BX h)
  ·rcases Aq.mp h with h|h
   ·rcases Aq.mp h with h|h
    ·exact kQ s c (BX h)
    ·rw[Ai.mp h];exact wM _
   ·exact kQ s c (List.mem_of_mem_drop (BX h))
def lU:jl:=λys L Q=>∃s w:Int,ys=[.int s,.int w]/\Q (.str (mkS (aX s w))) L
theorem y9(h:m<=n)(h2:n<=x.length):(Txt.slice x (some (m:Int)) (some (n:Int))).cps.toList=(x.cps.toList.drop m).take (n-m):=by have e:=oj x (some (m:Int)) (some (n:Int));rw[HT.sIx_nat,HT.sIx_nat,Cm h2,Cm (AM h h2)] at e;exact e
theorem o0(h:n<=x.length):(Txt.slice x none (some (n:Int))).cps.toList=x.cps.toList.take n:=by have e:=oj x none (some (n:Int));rw[HT.sIx_nat,HT.sIx_none,Dj,DJ,Cm h] at e;exact e
theorem adg:∀ys L Q,lU ys L Q->xj aac 7 ys L Q:=by
 rintro ys L Q ⟨s,w,rfl,q⟩;have l:0<1+s % 8:=by lia
 refine⟨(by decide:(0:Int)<8),⟨by decide,by decide⟩,l,⟨by decide,by decide⟩,?_⟩;show lcK (ai 0 8) _ _ _ _ _ _ _ _;refine aad (m:=8) (λi zs=>zs=((List.range i).map λk:Nat=>Y.str ⟨#[dg (s / 64+3*(k:Int))]⟩)) (by decide) rfl ?_ ?_
 ·rintro i _ hi rfl;have J:=wY (s / 64+3*(0+(i:Int)));refine⟨⟨by decide,by decide⟩,.inl ⟨by decide,by decide⟩,(by decide:(0:Int)<26),by decide +kernel,?_⟩;walk_at "w";rw[J];refine⟨_,DU _,rfl,?_⟩;rw[List.range_succ,Am,show(0:Int)+(i:Int)=(i:Int) by simp +arith only];rfl
 ·rintro _ rfl p C;have e0:((List.range 8).map λk:Nat=>Y.str ⟨#[dg (s / 64+3*(k:Int))]⟩)=((dN s).map λc=>(⟨#[c]⟩:Str)).map Y.str:=by unfold dN;rw[BM,BM];rfl
  rw[e0];refine qw q8 ⟨(dN s).map λc=>(⟨#[c]⟩:Str),rfl,?_,?_⟩
  ·have U:∀g:List Nat,((g.map λc=>(⟨#[c]⟩:Str)).map (·.length)).sum=g.length:=λg=>by induction g with|nil=>rfl|cons c r ih=>rw[AK,AK,List.sum_cons,ih,AJ];show 1+r.length=_;exact Nat.add_comm _ _
   rw[U,kH];show 8+_*0<=_;rw[Nat.mul_zero];decide
  ·have j:=aas (dN s);have o:(Txt.join "" ((dN s).map λc=>(⟨#[c]⟩:Str))).length=8:=by rw[<-Txs.len_list,j,kH]
   generalize Txt.join "" ((dN s).map λc=>(⟨#[c]⟩:Str))=base at o j;obtain⟨p1,p2,t,I⟩:=aix s;refine⟨⟨by decide,by decide⟩,(by decide:(0:Int)<3),?_⟩;refine x0 (λc=>?_) λc=>?_
   ·have e:1+(w+s) % 3=((1+(w+s) % 3).toNat:Int):=by lia
    refine⟨(by decide:(0:Int)<3),small (by lia),we (By C) ?_⟩;have es:=o0 (x:=base) (n:=(1+(w+s) % 3).toNat) (by lia);have eq:Txt.slice base none (some (1+(w+s) % 3))=mkS (aX s w):=by rw[e];refine(vT _).symm.trans ?_;rw[es,j];unfold aX;rw[AB c]
    rw[<-eq] at q;exact q
   ·have J:=wY (s / 64+3*(s / 8 % (1+s % 8))+w);refine⟨⟨by decide,by decide⟩,.inl ⟨by decide,by decide⟩,(by decide:(0:Int)<26),by decide +kernel,?_⟩;walk_at "w";rw[J];have T:=o0 (x:=base) (n:=o3 s) (by lia);have s2:=y9 (x:=base) (m:=o3 s+1) (n:=szN s) (by assumption) (by lia);have l1:(Txt.slice base none (some (o3 s:Int))).length=o3 s:=by rw[<-Txs.len_list,T,A3,Txs.len_list];lia
    have l2:(Txt.slice base (some ((o3 s+1:Nat):Int)) (some (szN s:Int))).length<=8:=by rw[<-Txs.len_list,s2,A3];lia
    refine⟨small (by lia),?_⟩;refine⟨small (by rw[t,l1];show o3 s+1<=1000;lia),?_⟩;refine⟨small (by lia),?_⟩;have U:((o3 s:Int)+1)=((o3 s+1:Nat):Int):=by rfl
    have l3:(Txt.slice base none (some (o3 s:Int))++(⟨#[dg (s / 64+3*(s / 8 % (1+s % 8))+w)]⟩:Str)).length=o3 s+1:=by rw[PySem.Str.length_append,l1];rfl
    refine⟨small ?_,we (By C) ?_⟩
    ·rw[t] at l3 ⊢;rw[l3,U,I];lia
    ·have eq:(Txt.slice base none (some (o3 s:Int))++(⟨#[dg (s / 64+3*(o3 s:Int)+w)]⟩:Str))++Txt.slice base (some ((o3 s+1:Nat):Int)) (some (szN s:Int))=mkS (aX s w):=by
      refine(vT _).symm.trans ?_;have ca:∀a b:Str,(a++b).cps.toList=a.cps.toList++b.cps.toList:=λa b=>by show(a.cps++b.cps).toList=_;simp
      rw[ca,ca,T,s2,j];unfold aX;rw[AC c]
     rw[t,U,I,eq];exact q
theorem agx(t t':Bool)(n J:Str):Da.eq (qG (.leaf t n)) (qG (.leaf t' J))=(decide (t=t')&&decide (n=J)):=by
 by_cases h:n=J
 ·subst h;cases t<;>cases t'<;>simp[qG,Da.eq,Da.eqs,iN,kL]<;>decide +kernel
 ·cases t<;>cases t'<;>simp[qG,Da.eq,Da.eqs,iN,kL,h]<;>decide +kernel
theorem hX{α J:Type}(f:α->J):∀(l:List α) (n:Nat),(l.map f).eraseIdx n=(l.eraseIdx n).map f
 |[],n=>by simp
 |_::_,0=>rfl
 |x::r,n+1=>by rw[AK,B1,B1,AK,hX f r n]
theorem aU(a:jf)(b:Y)(r:List (jf×Y))(k:jf):kq ((a,b)::r) k=if a=k then some b else kq r k:=by
 unfold kq;rw[Bk];by_cases h:a=k
 ·rw[AB h,show decide ((a,b).1=k)=true from AE h];rfl
 ·rw[AC h,show decide ((a,b).1=k)=false from Au h]
theorem tN(k J:jf)(y:Y):∀kvs:List (jf×Y),kq (kvs.map λU=>if U.1=k then(U.1,y) else U) J=if J=k then(kq kvs J).map (λ_=>y) else kq kvs J
 |[]=>by rw[CQ];split<;>rfl
 |(a,b)::r=>by
  have g:=tN k J y r;rw[AK,aU];by_cases h:a=k
  ·rw[AB (show(a,b).1=k from h),aU,g];by_cases h2:J=k
   ·rw[AB h2,AB h2,AB (h.trans h2.symm),AB (h.trans h2.symm)];rfl
   ·rw[AC h2,AC h2,AC (λz=>h2 (z.symm.trans h)),AC (λz=>h2 (z.symm.trans h))]
  ·rw[AC (show ¬(a,b).1=k from h),aU,g];by_cases h2:J=k
   ·rw[AB h2,AB h2,AC (λz=>h (z.trans h2)),AC (λz=>h (z.trans h2))]
   ·rw[AC h2,AC h2]
theorem sC(k J:jf)(y:Y):∀kvs:List (jf×Y),kq (kvs++[(k,y)]) J=(kq kvs J).or (if k=J then some y else none)
 |[]=>by rw[CF,aU];have:kq [] J=none:=rfl;rw[this];split<;>rfl
 |(a,b)::r=>by rw[DF,aU,aU,sC k J y r];split<;>rfl
theorem sH(k:jf):∀kvs:List (jf×Y),(kvs.any λJ=>decide (J.1=k))=(kq kvs k).isSome
 |[]=>rfl
 |(a,b)::r=>by
  rw[BY,aU,sH k r];by_cases h:a=k
  ·rw[AB h,show decide ((a,b).1=k)=true from AE h];rfl
  ·rw[AC h,show decide ((a,b).1=k)=false from Au h];rfl
theorem sE(kvs:List (jf×Y))(k J:jf)(y:Y):kq (i5 kvs k y) J=if J=k then some y else kq kvs J:=by
 unfold i5;rw[sH];cases e:kq kvs k with
 |some v=>
  rw[AB (show(some v).isSome=true from rfl),tN];by_cases h:J=k
  ·rw[AB h,AB h,h,e];rfl
  ·rw[AC h,AC h]
 |none=>
  rw[AC (by simp),sC];by_cases h:J=k
  ·rw[AB h,h,e,AB rfl];rfl
  ·rw[AC h,AC (λz=>h z.symm)];cases kq kvs J<;>rfl
theorem eQ(kvs:List (jf×Y))(k:jf)(y:Y):(i5 kvs k y).length<=kvs.length+1:=by
 unfold i5;split
 ·rw[Ab];omega
 ·rw[Ac];simp
def iP(f:Nat->Nat):Option Kn->Option Kn
 |some (.nd e i j)=>some (.nd e (f i) (f j))
 |k=>k
theorem tZ{f g:Nat->Nat}:∀{k:Option Kn},(∀e i j,k=some (.nd e i j)->f i=g i/\f j=g j)->iP f k=iP g k
 |none,_=>rfl
 |some (.lf _ _),_=>rfl
 |some (.nd e i j),h=>by obtain⟨a,b⟩:=h e i j rfl;show some (Kn.nd e (f i) (f j))=some (Kn.nd e (g i) (g j));rw[a,b]
structure Gap(ks:List (Option Kn))(ps:List Nat)(f:Nat->Nat)(wd:List (Option Kn)):Prop where
 at_:∀p∈ps,∀k,ks[p]?=some k->wd[f p]?=some (iP f k)
 inj:∀p∈ps,∀q∈ps,f p=f q->p=q
 only:∀x k,wd[x]?=some (some k)->∃p∈ps,x=f p
 ok:OkO wd
theorem Gap.nil(ks:List (Option Kn))(f:Nat->Nat):Gap ks [] f []:=⟨λp J=>(Br J).elim,λp J=>(Br J).elim,λx k h=>(by simp at h),λp e i j h=>(by simp at h)⟩
theorem Gap.lt{ks:List (Option Kn)}{ps:List Nat}{f:Nat->Nat}(h:Gap ks ps f wd){p:Nat}(J:p∈ps)(U:p<ks.length):f p<wd.length:=jy (h.at_ p J _ (Af U))
theorem Gap.step{ks:List (Option Kn)}{ps:List Nat}{f:Nat->Nat}(h:Gap ks ps f wd)(t:∀p∈ps,p<ks.length){p:Nat}{k:Option Kn}(I:p∉ps)(T:ks[p]?=some k)(r:∀x∈ps,∀e i j,ks[x]?=some (some (.nd e i j))->i∈ps/\j∈ps)(U:∀e i j,k=some (.nd e i j)->i∈ps/\j∈ps):
 Gap ks (ps++[p]) (λx=>if x=p then wd.length else f x) (wd++[iP f k]):=by
 have old:∀x∈ps,(if x=p then wd.length else f x)=f x:=λx J=>AC λ(c:x=p)=>I (c▸J);have ren:∀o,(∀e i j,o=some (.nd e i j)->i∈ps/\j∈ps)->iP (λx=>if x=p then wd.length else f x) o=iP f o:=λo g=>tZ λe i j z=>by obtain⟨a,b⟩:=g e i j z;exact⟨old i a,old j b⟩
 refine⟨λx J o g=>?_,λx J y l e=>?_,λx o J=>?_,λx e i j J=>?_⟩
 ·rcases Aq.mp J with J|J
  ·show(wd++[iP f k])[if x=p then wd.length else f x]?=_;rw[old x J,ren o λe i j z=>r x J e i j (by rw[g,z])];exact kI (h.at_ x J o g)
  ·have J:=Ai.mp J;subst J;rw[T] at g;cases g;show(wd++[iP f k])[if x=x then wd.length else f x]?=_;rw[AB rfl,ren k U];exact dq wd _ []
 ·have e:(if x=p then wd.length else f x)=if y=p then wd.length else f y:=e
  rcases Aq.mp J with J|J<;>rcases Aq.mp l with l|l
  ·rw[old x J,old y l] at e;exact h.inj x J y l e
  ·cases Ai.mp l;rw[old x J,AB rfl] at e;have:=h.lt J (t x J);lia
  ·cases Ai.mp J;rw[old y l,AB rfl] at e;have:=h.lt l (t y l);lia
  ·rw[Ai.mp J,Ai.mp l]
 ·by_cases c:x<wd.length
  ·rw[AG c] at J;obtain⟨q,C,e⟩:=h.only x o J;exact⟨q,Ar _ C,by rw[e];exact(old q C).symm⟩
  ·refine⟨p,Ah _ (Ai.mpr rfl),?_⟩;have:=jy J;rw[Ac] at this;have:x<wd.length+1:=this;show x=if p=p then wd.length else f p
   rw[AB rfl];lia
 ·by_cases c:x<wd.length
  ·rw[AG c] at J;exact h.ok x e i j J
  ·have:=jy J;rw[Ac] at this;have:x<wd.length+1:=this;have:x=wd.length:=by lia
   subst this;rw[Aw (Aj _),B7] at J;have J:iP f k=some (.nd e i j):=AN J;cases k with
   |none=>cases J
   |some k=>
    cases k with
    |lf=>cases J
    |nd e' i' j'=>
     obtain⟨a,b⟩:=U e' i' j' rfl;cases J;exact⟨h.lt a (t _ a),h.lt b (t _ b)⟩
theorem kJ{ks:List (Option Kn)}{J:List Nat}(ok:OkO ks)(pm:J.Perm (List.range ks.length))(o:cq ks J){p:Nat}(g:J[n]?=some p){e:Bool}(h:ks[p]?=some (some (.nd e i j))):i∈J.take n/\j∈J.take n:=by
 obtain⟨l1,l2⟩:=ok p e i j h;have hl:=jy h;have C:=jy g;have ind:∀x,x<ks.length->x≠p->(∀y∈J.drop (n+1),y≠x)->x∈J.take n:=λx T ne r=>by
  have U:x∈J:=pm.mem_iff.mpr (Bb.mpr T);have t:J=J.take n++p::J.drop (n+1):=by rw[Af C] at g;rw[<-AN g,BN,A8]
  rw[t] at U;rcases Aq.mp U with U|U
  ·exact U
  ·rcases Ao.mp U with U|U
   ·exact absurd U ne
   ·exact absurd rfl (r x U)
 have I:∀y∈J.drop (n+1),y≠i/\y≠j:=λy l=>by
  have t:J=J.take n++p::J.drop (n+1):=by rw[Af C] at g;rw[<-AN g,BN,A8]
  unfold cq at o;rw[t] at o;have:=(C3.mp o).2.1;exact(List.pairwise_cons.mp this).1 y l e i j h
 exact⟨ind i (by exact abd) (by exact an3) λy l=>(I y l).1,ind j (by exact abd) (by exact an3) λy l=>(I y l).2⟩
def alx:vt:=(qt (zf (af cg (q9 1) (qd (zb xu (q9 3) (bT 1)) z0)) (qh 4))
 (qt (zf (af cg (q9 1) (qd (zb xu (q9 2) (bT 1)) z0)) (qh 5))
 (qt (zf (zb wz (xc 4 1) (zb xu (zb vv (q9 3) (zk 64)) (jS kF (vk (xc 4 1))))) (qh 6))
 (qt (zf (zb wz (xc 5 1) (zb xu (zb vv (q9 2) (zk 64)) (jS kF (vk (xc 5 1))))) (qh 7))
 (qt (jk (af j6 (q9 0) (qd (kg (qd (dR "both") (aH (q9 6) (q9 7)))) z0)))
 (qt (zf (xD 1 (wr (zb k8 (xc 4 1) (xc 5 1))) (qh 9) (yB (zb (mG true) (q9 9) (rdT (q9 6) (q9 7)))) (q9 9)) (qh 8))
 (jk (af j6 (q9 1) (qd (jq (qd (kg (qd (dR "both") (qd (zb hU (bT 0) (zk 1)) (aH (xc 4 0) (xc 5 0))))) (qd (zb k8 (q9 8) (jq (qd (zb hU (bT 0) (zk 1)) z0))) z0))) z0)))))))))
def ag2:vt:=(qt (jt (yB (zb yLt (jS kF (vk (xc 1 1))) (zk 2))) ae3 j8)
 (qt (zf (af cg (xc 1 1) (qd (zb xu (q9 3) (jS kF (vk (xc 1 1)))) z0)) (qh 4))
 (qt (zf (af cg (xc 1 1) (qd (zb xu (q9 2) (jS kF (vk (xc 1 1)))) z0)) (qh 5))
 (qt (jk (af j6 (q9 0) (qd (kg (qd (dR "either") (aH (q9 4) (q9 5)))) z0)))
 (qt (aan (q9 1) (zk 0) (kg (qd (dR "either") (qd (zb hU (bT 0) (zk 1)) (vk (xc 1 0))))))
 (jk (af j6 (xc 1 1) (qd (zb hU (bT 0) (zk 1)) z0))))))))
theorem cR{ks:List Kn}:∀{w v:Wd} {p:Nat},dH ks p w->dH ks p v->w=v
 |.leaf t n,.leaf o I,p,h,k=>by
  have h:(jc ks)[p]?=some (.tup [.str (kL t),.str n]):=h;have k:(jc ks)[p]?=some (.tup [.str (kL o),.str I]):=k;rw[h] at k;injection k with k;injection k with k;injection k with U J;injection J with J _
  injection U with U;injection J with J
  have:t=o:=by cases t<;>cases o<;>first|rfl|(exfalso;revert U;decide +kernel)
  rw[this,J]
 |.leaf t n,.node e l r,p,h,k=>by obtain⟨i,j,k,_⟩:=k;have h:(jc ks)[p]?=some (.tup [.str (kL t),.str n]):=h;rw[h] at k;injection k with k;injection k with k;injection k with _ k;injection k with _ k;cases k
 |.node e l r,.leaf t n,p,h,k=>by obtain⟨i,j,h,_⟩:=h;have k:(jc ks)[p]?=some (.tup [.str (kL t),.str n]):=k;rw[h] at k;injection k with k;injection k with k;injection k with _ k;injection k with _ k;cases k
 |.node e l r,.node C l' r',p,⟨i,j,h,T,hr⟩,⟨i',j',k,kl,kr⟩=>by
  rw[h] at k;injection k with k;injection k with k;injection k with U J;injection J with J g;injection g with g _
  injection U with U;injection J with J;injection g with g
  have e1:i=i':=by lia
  have e2:j=j':=by lia
  subst e1 e2;have:e=C:=by cases e<;>cases C<;>first|rfl|(exfalso;revert U;decide +kernel)
  rw[this,cR (ks:=ks) T kl,cR (ks:=ks) hr kr]
theorem kD{ks:List Kn}(J:cY ks):∀(m p:Nat),p<m->p<ks.length->∃w,dH ks p w/\w.depth<=p+1/\w.ok
 |0,p,h,_=>absurd h (by lia)
 |m+1,p,h,o=>by
  obtain⟨k,U⟩:∃k,ks[p]?=some k:=⟨_,Af o⟩;have g:=J p k U;cases k with
  |lf t n=>exact⟨.leaf t n,dH.leaf U,by show 1<=p+1;exact CO _,g⟩
  |nd e i j=>
   have g:i<p/\j<p:=g;obtain⟨l,C,T,I⟩:=kD J m i (by lia) (by omega);obtain⟨r,b1,b2,b3⟩:=kD J m j (by lia) (by lia);exact⟨.node e l r,EN U C b1,by show max l.depth r.depth+1<=p+1;lia,I,b3⟩
def TV(v:Str->Bool):Wd->Bool
 |.leaf t n=>if t=true then !v n else v n
 |.node e l r=>if e=true then TV v l||TV v r else TV v l&&TV v r
theorem jR(v:Str->Bool):∀w:Wd,TV v w.turn=!TV v w
 |.leaf t n=>by cases t<;>simp[Wd.turn,TV]
 |.node e l r=>by cases e<;>simp[Wd.turn,TV,jR v l,jR v r]
theorem SR.lt{E:List Nat}(h:SR ks R E):∀x∈qp R,x<ks.length:=by
 have lt:∀{p:Nat} {k:Kn},ks[p]?=some k->p<ks.length:=λh=>(AL.mp h).1
 induction h with
 |link _ h2 h3 _ _=>intro x J;simp[qp] at J;rcases J with rfl|rfl;exact lt h2;exact lt h3
 |ei h1 _ _ _ _ _ _ j=>intro x J;rcases Ao.mp J with rfl|J;exact lt h1;exact j x J
 |bo h1 _ _ _ _ _ _ U g=>
  intro x J;rcases Ao.mp J with rfl|J
  ·exact lt h1
  ·rcases Aq.mp J with J|J
   ·exact U x J
   ·exact g x J
 |cu _ _ _ _ _ _ _ _ U g=>
  intro x J;rcases Aq.mp J with J|J
  ·exact U x J
  ·exact g x J
theorem SR.tv(hk:cY ks)(v:Str->Bool){E:List Nat}(h:SR ks R E):∃x∈E,∃w,dH ks x w/\TV v w=true:=by
 have ex:∀{R':Ru} {E':List Nat},SR ks R' E'->∀x∈E',∃w,dH ks x w:=λs x J=>by obtain⟨w,hw,_⟩:=kD hk (x+1) x (by exact Cw _) (s.lt x (s.sub x J));exact⟨w,hw⟩
 induction h with
 |@link p q t n E _ h2 h3 h4 _=>
  cases ht:TV v (.leaf t n) with
  |true=>exact⟨p,(h4 p).mpr (.inl rfl),_,dH.leaf h2,ht⟩
  |false=>
   refine⟨q,(h4 q).mpr (.inr rfl),_,dH.leaf h3,?_⟩;have:=jR v (.leaf t n);rw[ht] at this;exact this
 |@ei r i j A EA E h1 T hi hj _ U _ ih=>
  obtain⟨x,J,w,hw,tv⟩:=ih;obtain⟨wi,g⟩:=ex T i hi;obtain⟨wj,l⟩:=ex T j hj;by_cases c1:x=i
  ·subst c1;rw[cR hw g] at tv;exact⟨r,(U r).mpr (.inr rfl),_,EN h1 g l,by simp[TV,tv]⟩
  ·by_cases c2:x=j
   ·subst c2;rw[cR hw l] at tv;exact⟨r,(U r).mpr (.inr rfl),_,EN h1 g l,by simp[TV,tv]⟩
   ·exact⟨x,(U x).mpr (.inl ⟨J,c1,c2⟩),w,hw,tv⟩
 |@bo r i j A B EA EB E h1 T hB hi hj U _ o C=>
  obtain⟨x,J,w,hw,tv⟩:=o;obtain⟨y,hy,u,I,tu⟩:=C;by_cases c1:x=i
  ·by_cases c2:y=j
   ·subst c1 c2;exact⟨r,(U r).mpr (.inr (.inr rfl)),_,EN h1 hw I,by simp[TV,tv,tu]⟩
   ·exact⟨y,(U y).mpr (.inr (.inl ⟨hy,c2⟩)),u,I,tu⟩
  ·exact⟨x,(U x).mpr (.inl ⟨J,c1⟩),w,hw,tv⟩
 |@cu p q A B EA EB E w0 T hB hp hq a1 a2 h7 _ o C=>
  obtain⟨x,J,w,hw,tv⟩:=o;obtain⟨y,hy,u,I,tu⟩:=C;by_cases c1:x=p
  ·by_cases c2:y=q
   ·subst c1 c2;rw[cR hw a1] at tv;rw[cR I a2,jR,tv] at tu;cases tu
   ·exact⟨y,(h7 y).mpr (.inr ⟨hy,c2⟩),u,I,tu⟩
  ·exact⟨x,(h7 x).mpr (.inl ⟨J,c1⟩),w,hw,tv⟩
theorem SR.ends(J:cY ks){E:List Nat}(h:SR ks R E):0<E.length:=by obtain⟨x,U,_⟩:=h.tv J λ_=>true;exact List.length_pos_of_mem U
structure Tr where
 a:Addr
 b:Addr
 R:Ru
 E:List Nat
abbrev ze(E:List Nat):List Y:=E.map λn:Nat=>Y.int (n:Int)
def Tr.ads(t:Tr):List Addr:=[t.a,t.b]
structure bU(L0 L:qr)(ka fa:Addr)(ks:List Kn)(fo:List Tr):Prop where
 hk:L ka=some (.lst (jc ks))
 ht:∀t∈fo,L t.a=some (.lst [qj t.R,.ref t.b])/\L t.b=some (.lst (ze t.E))
 sr:∀t∈fo,SR ks t.R t.E
 nd:(fo.flatMap λt=>qp t.R).Nodup
 tm:∀x,x∈(fo.flatMap λt=>qp t.R)↔x<ks.length
 ad:(ka::fa::fo.flatMap Tr.ads).Nodup
 ok:cY ks
 sub:qg L0 L
 fr:∀x∈ka::fa::fo.flatMap Tr.ads,L0 x=none
def zj(fo:List Tr):List Y:=fo.map λt=>Y.ref t.a
structure oA(L0 L:qr)(ka fa:Addr)(ks:List Kn)(fo:List Tr):Prop where
 b:bU L0 L ka fa ks fo
 hf:L fa=some (.lst (zj fo))
def noC:Ru->Prop
 |.link _ _=>True
 |.ei _ A=>noC A
 |.bo _ A B=>noC A/\noC B
 |.cu _ _ _ _=>False
def Ext(ks:List Kn)(fo:List Tr)(ir:List Kn)(fo':List Tr):Prop:=(∃ms:List Kn,ir=ks++ms/\∀k∈ms,∃e i j,k=.nd e i j)/\((∀t∈fo,noC t.R)->∀t∈fo',noC t.R)
theorem bU.perm{fa:Addr}{fo fo':List Tr}(h:bU L0 L ka fa ks fo)(p:fo.Perm fo'):bU L0 L ka fa ks fo':=by have U:(fo.flatMap λt=>qp t.R).Perm (fo'.flatMap λt=>qp t.R):=p.flatMap_right _;have g:(fo.flatMap Tr.ads).Perm (fo'.flatMap Tr.ads):=p.flatMap_right _;refine⟨h.hk,λt J=>h.ht t (p.mem_iff.mpr J),λt J=>h.sr t (p.mem_iff.mpr J),U.nodup_iff.mp h.nd,λx=>by rw[<-U.mem_iff];exact h.tm x,((g.cons _).cons _).nodup_iff.mp h.ad,h.ok,h.sub,λx j=>h.fr x (((g.cons _).cons _).mem_iff.mpr j)⟩
end L3
variable {fo rest:List L3.Tr}
namespace L3
open PySem L2 Words
theorem x5{α:Type}:∀{l:List α} {j:Nat} {x:α},l[j]?=some x->l.Perm (x::l.eraseIdx j)
 |[],_,_,h=>by simp at h
 |y::r,0,x,h=>by
  have:y=x:=by simpa using h
  subst this;exact .refl _
 |y::r,j+1,x,h=>by have J:=x5 (l:=r) (j:=j) (x:=x) (by simpa using h);rw[B1];exact(J.cons y).trans (.swap _ _ _)
theorem mL(fo:List Tr)(j:Nat):(zj fo).eraseIdx j=zj (fo.eraseIdx j):=hX _ fo j
theorem bU.step{fa:Addr}{ms:List Kn}{old:List Tr}{t':Tr}(h:bU L0 L ka fa ks (old++rest))(o:L' ka=some (.lst (jc (ks++ms))))(p:L' t'.a=some (.lst [qj t'.R,.ref t'.b])/\L' t'.b=some (.lst (ze t'.E)))
 (keep:∀t∈rest,L' t.a=L t.a/\L' t.b=L t.b) (sub:qg L0 L') (ad:(ka::fa::(rest++[t']).flatMap Tr.ads).Nodup) (r:∀x∈t'.ads,L0 x=none) (ok:cY (ks++ms)) (C:SR (ks++ms) t'.R t'.E)
 (tp:(qp t'.R).Perm (List.range' ks.length ms.length++old.flatMap λt=>qp t.R)):bU L0 L' ka fa (ks++ms) (rest++[t']):=by
 have hnd:=h.nd;have g:=h.tm;rw[Az] at hnd;have l:((rest++[t']).flatMap λt=>qp t.R)=(rest.flatMap λt=>qp t.R)++qp t'.R:=by rw[Az];simp
 have mem:∀x,x∈qp t'.R↔(ks.length<=x/\x<ks.length+ms.length)\/x∈(old.flatMap λt=>qp t.R):=λx=>by rw[tp.mem_iff,Aq,CT]
 refine⟨o,λt U=>?_,λt U=>?_,?_,λx=>?_,ad,ok,sub,λx J=>?_⟩
 ·rcases Aq.mp U with U|U
  ·obtain⟨I,T⟩:=keep t U;rw[I,T];exact h.ht t (Ah _ U)
  ·rw[Ai.mp U];exact p
 ·rcases Aq.mp U with U|U
  ·exact(h.sr t (Ah _ U)).more _
  ·rw[Ai.mp U];exact C
 ·rw[l,Ax];rw[Ax] at hnd;refine⟨hnd.2.1,tp.nodup_iff.mpr ?_,λx J y j e=>?_⟩
  ·rw[Ax];refine⟨Du,hnd.1,λx J y j e=>?_⟩;have J:=CT.mp J;have j:=(g y).mp (by rw[Az];exact Ar _ j);lia
  ·subst e;rcases (mem x).mp j with j|j
   ·have:=(g x).mp (by rw[Az];exact Ah _ J);lia
   ·exact hnd.2.2 x j x J rfl
 ·rw[l,Aq,mem,Ac];have h1:=g x;rw[Az,Aq] at h1;constructor
  ·rintro(h2|h2|h2)
   ·have:=h1.mp (.inr h2);exact an2
   ·lia
   ·have:=h1.mp (.inl h2);lia
  ·intro h2;by_cases c:x<ks.length
   ·rcases h1.mpr c with h3|h3
    ·exact .inr (.inr h3)
    ·exact .inl h3
   ·exact .inr (.inl (by lia))
 ·rcases Ao.mp J with rfl|J
  ·exact h.fr _ (Ak ..)
  ·rcases Ao.mp J with rfl|J
   ·exact h.fr _ (Ae _ (Ak ..))
   ·rw[Az] at J;rcases Aq.mp J with J|J
    ·exact h.fr _ (Ae _ (Ae _ (by rw[Az];exact Ah _ J)))
    ·exact r x (by simpa using J)
def ou:jl:=λys L Q=>∃L0 ka fa ks fo,∃one two:Int,ys=[.ref ka,.ref fa,.int one,.int two]/\oA L0 L ka fa ks fo/\2<=fo.length/\fo.length<=200/\ks.length<=200/\
 ∀L' ir fo',oA L0 L' ka fa ir fo'->ir.length=ks.length+1->fo'.length+1=fo.length->Ext ks fo ir fo'->Q .non L'
theorem dZ{l:List α}(h:0<l.length)(k:Int):∃(j:Nat) (x:α),k % (l.length:Int)=(j:Int)/\j<l.length/\l[j]?=some x:=by have h0:0<=k % (l.length:Int):=DQ _ (by lia);have h1:k % (l.length:Int)<(l.length:Int):=Int.emod_lt_of_pos _ (by omega);refine⟨(k % (l.length:Int)).toNat,l[(k % (l.length:Int)).toNat]'(by lia),by lia,by lia,Af (by lia)⟩
theorem bL:∀(n:Nat) (l:List Nat),l.Nodup->(∀x∈l,x<n)->l.length<=n
 |0,l,_,h=>by cases l with|nil=>exact Aj _|cons x r=>exact absurd (h x (Ak ..)) (by lia)
 |n+1,l,nd,h=>by
  by_cases c:n∈l
  ·have p:=List.perm_cons_erase c;have U:=bL n (l.erase n) (nd.erase n) λx J=>by have:=(List.Nodup.mem_erase_iff nd).mp J;have:=h x this.2;lia
   rw[p.length_eq,AJ];exact als
  ·exact BW (bL n l nd λx J=>by have:=h x J;have:x≠n:=λe=>c (e▸J);lia)
theorem bD{fa:Addr}(h:bU L0 L ka fa ks fo){t:Tr}(J:t∈fo):0<t.E.length/\t.E.length<=ks.length:=by have s:=h.sr t J;exact⟨s.ends h.ok,bL _ _ s.nod λx U=>s.lt x (s.sub x U)⟩
theorem ag8(x l r:Nat):u3 (f9 (.int (x:Int))) (([.int (l:Int),.int (r:Int)]:List Y).map f9)=decide (x=l\/x=r):=by
 show(iN (.int (l:Int)) (.int (x:Int))||(iN (.int (r:Int)) (.int (x:Int))||false))=_;have e:∀a b:Nat,iN (.int (a:Int)) (.int (b:Int))=decide (b=a):=λa b=>by
  show decide ((a:Int)=(b:Int))=decide (b=a);by_cases c:b=a
  ·subst c;simp
  ·rw[Au c];apply Au;lia
 rw[e,e];by_cases h1:x=l<;>by_cases h2:x=r<;>simp[h1,h2]
theorem oz{E:List Nat}(h:0<E.length)(k:Int):∃x,x∈E/\dQ (ze E) (k % ((ze E).length:Int))=some (.int ((x:Nat):Int)):=by obtain⟨j,x,J,U,ex⟩:=dZ h k;refine⟨x,AD ex,?_⟩;rw[Ab,J];exact x6 (by rw[An,ex];rfl)
def xo(E1 E2:List Nat)(l r:Nat):List Nat:=(E1++E2).filter λx=>!decide (x=l\/x=r)
theorem ad0{g:Addr}{E:List Nat}{l r k:Nat}{Q:YK}{tc:jN}(I:L g=some (.lst (ze E)))(J:E.length<=1000)
 (T:∀y (o:Bool->qr->Prop),mG true y (.tup [.int (l:Int),.int (r:Int)]) L (λx L'=>match x with|.bl c=>o c L'|_=>False)->tc (dP (τ++List.replicate 1 none) k y) L o)
 (hv:∀y,zS (dP (τ++List.replicate 1 none) k y) k=some y)
 (hq:∀p,L p=none->Q (.ref p) (qi L p (.lst (ze (E.filter λx=>!decide (x=l\/x=r)))))):
 rD L g λys keep L2=>lcK ys keep 1 (qh k) tc (q9 k) τ L2 Q:=by
 refine vh I λkeep kp=>fj (λj zs=>zs=ze ((E.take j).filter λx=>!decide (x=l\/x=r))) (by rw[Ab];exact oO J) (kp L rfl) rfl ?_ ?_
 ·rintro j y _ t rfl;obtain⟨x,ex,rfl⟩:∃x:Nat,E[j]?=some x/\y=Y.int (x:Int):=by rw[An] at t;obtain⟨x,e1,e2⟩:=Ap.mp t;exact⟨x,e1,e2.symm⟩
  refine T _ _ ⟨rfl,rfl,?_⟩;rw[ag8];show wc (!decide (x=l\/x=r)) _ _;have C:(E.take (j+1)).filter (λx=>!decide (x=l\/x=r))=(E.take j).filter (λx=>!decide (x=l\/x=r))++[x].filter (λx=>!decide (x=l\/x=r)):=by rw[Bc,ex,B9];rfl
  by_cases c:x=l\/x=r
  ·refine xi (by rw[AE c];rfl) ?_;refine frg ⟨rfl,?_⟩;rw[C,List.filter_cons_of_neg (by simp[c]),List.filter_nil,AX]
  ·refine v0 (by rw[Au c];rfl) ?_;unfold q9;rw[hv];refine frg ⟨rfl,?_⟩;rw[C,List.filter_cons_of_pos (by simp[c]),List.filter_nil];unfold ze;rw[Am];rfl
 ·rintro _ rfl p U;rw[Ab,A9];exact hq p U
theorem uP{fa:Addr}{k:Int}(g:L fa=some (.lst (zj fo)))(h:0<fo.length):∃(j:Nat) (t:Tr),fo[j]?=some t/\0<=k % ((zj fo).length:Int)/\k % ((zj fo).length:Int)<((zj fo).length:Int)/\
 (zj fo)[(k % ((zj fo).length:Int)).toNat]?=some (.ref t.a)/\qi L fa (.lst ((zj fo).eraseIdx (k % ((zj fo).length:Int)).toNat)) fa=some (.lst (zj (fo.eraseIdx j))):=by
 obtain⟨j,t,U,l,J⟩:=dZ h k;have e:(zj fo).length=fo.length:=Ab ..;rw[e,U];refine⟨j,t,J,by exact A5 _,by lia,?_,?_⟩
 ·show(zj fo)[j]?=_;unfold zj;rw[An,J];rfl
 ·rw[q8];show some (LO.lst ((zj fo).eraseIdx j))=_;rw[mL]
theorem bU.two{fa:Addr}{t1 t2:Tr}(h:bU L0 L ka fa ks (t1::t2::rest)):∀x,x∈qp t1.R->x∈qp t2.R->False:=by intro x h1 h2;have nd:=h.nd;rw[AS,AS,Ax] at nd;exact nd.2.2 x h1 x (Ar _ h2) rfl
theorem pK{E1 E2:List Nat}{l r:Nat}(J:l∉E2)(U:r∉E1)(x:Nat):x∈xo E1 E2 l r↔(x∈E1/\x≠l)\/(x∈E2/\x≠r):=by
 unfold xo;rw[AU,Aq];constructor
 ·rintro⟨h,c⟩;have c:¬(x=l\/x=r):=by simpa using c
  rcases h with h|h
  ·exact .inl ⟨h,λe=>c (.inl e)⟩
  ·exact .inr ⟨h,λe=>c (.inr e)⟩
 ·rintro(⟨h,c⟩|⟨h,c⟩)
  ·refine⟨.inl h,?_⟩;have:x≠r:=λe=>U (e▸h);simp[c,this]
  ·refine⟨.inr h,?_⟩;have:x≠l:=λe=>J (e▸h);simp[c,this]
theorem pS{E1 E2:List Nat}{l r:Nat}(h1:E1.Nodup)(h2:E2.Nodup)(d:∀x,x∈E1->x∈E2->False):(xo E1 E2 l r).Nodup:=by
 unfold xo;have h:(E1++E2).Nodup:=by rw[Ax];exact⟨h1,h2,λx J y U e=>d x J (e▸U)⟩
 exact List.Pairwise.filter _ h
theorem ahb:∀ys L Q,ou ys L Q->xj alx 9 ys L Q:=by
 rintro ys L Q ⟨L0,C,fa,g,fo,one,two,rfl,F,h2,e0,cP,q⟩;have big:=bg_;have av:∀fo:List Tr,(zj fo).length=fo.length:=λfo=>Ab ..;obtain⟨j1,J,bu,a1,a2,a3,a4⟩:=uP (k:=two) F.hf (by exact vH);have l1:(fo.eraseIdx j1).length+1=fo.length:=by have:=(x5 bu).length_eq;rw[AJ] at this;lia
 refine qc F.hf (qc F.hf ⟨(by show(0:Int)<((zj fo).length:Int);rw[av];lia),qw F.hf ⟨a1,a2,qm a3 ?_⟩⟩);have aL:∀b o,b≠fa->L b=some o->qi L fa (.lst ((zj fo).eraseIdx (two % ((zj fo).length:Int)).toNat)) b=some o:=λb o nb e=>by rw[qb nb];exact e
 generalize qi L fa (.lst ((zj fo).eraseIdx (two % ((zj fo).length:Int)).toNat))=L1 at a4 aL;obtain⟨j2,U,bv,b1,b2,b3,bp⟩:=uP (k:=one) a4 (by lia);have l2:((fo.eraseIdx j1).eraseIdx j2).length+1=(fo.eraseIdx j1).length:=by have:=(x5 bv).length_eq;rw[AJ] at this;lia
 refine qc a4 (qc a4 ⟨(by show(0:Int)<((zj (fo.eraseIdx j1)).length:Int);rw[av];lia),qw a4 ⟨b1,b2,qm b3 ?_⟩⟩);have j:∀b o,b≠fa->L b=some o->qi L1 fa (.lst ((zj (fo.eraseIdx j1)).eraseIdx (one % ((zj (fo.eraseIdx j1)).length:Int)).toNat)) b=some o:=λb o nb e=>by rw[qb nb];exact aL b o nb e
 generalize qi L1 fa (.lst ((zj (fo.eraseIdx j1)).eraseIdx (one % ((zj (fo.eraseIdx j1)).length:Int)).toNat))=L2 at bp j;have bq:fo.Perm (J::U::(fo.eraseIdx j1).eraseIdx j2):=(x5 bu).trans ((x5 bv).cons _);have B:bU L0 L C fa g (J::U::(fo.eraseIdx j1).eraseIdx j2):=F.b.perm bq;generalize (fo.eraseIdx j1).eraseIdx j2=rest at l2 bp B bq;clear a4 aL a1 a2 a3 b1 b2 b3;have m1:J∈J::U::rest:=by simp
 have m2:U∈J::U::rest:=by simp
 have ad:=B.ad;have nk:∀t∈J::U::rest,t.a≠fa/\t.b≠fa/\t.a≠C/\t.b≠C:=λt ht=>by rw[AA,AA] at ad;have ma:t.a∈(J::U::rest).flatMap Tr.ads:=A4.mpr ⟨t,ht,by simp[Tr.ads]⟩;have mb:t.b∈(J::U::rest).flatMap Tr.ads:=A4.mpr ⟨t,ht,by simp[Tr.ads]⟩;exact⟨λe=>ad.2.1 (e▸ma),λe=>ad.2.1 (e▸mb),λe=>ad.1 (Ae _ (e▸ma)),λe=>ad.1 (Ae _ (e▸mb))⟩
 have nkf:C≠fa:=by rw[AA] at ad;exactλe=>ad.1 (e▸Ak ..)
 have bw:L2 C=some (.lst (jc g)):=j C _ nkf B.hk;have a5:=j J.a _ (nk J m1).1 (B.ht J m1).1;have ba:=j J.b _ (nk J m1).2.1 (B.ht J m1).2;have ag:=j U.a _ (nk U m2).1 (B.ht U m2).1;have bb:=j U.b _ (nk U m2).2.1 (B.ht U m2).2;have d0:=bD B m1;have de:=bD B m2;obtain⟨x,hx,ex⟩:=oz d0.1 (two / 64);obtain⟨y,hy,ey⟩:=oz de.1 (one / 64);refine qc a5 ⟨⟨by decide,by decide⟩,qc a5 (qc ba ⟨(by show(0:Int)<((ze J.E).length:Int);rw[Ab];omega),qc ba (qm ex ?_)⟩)⟩;refine qc ag ⟨⟨by decide,by decide⟩,qc ag (qc bb ⟨(by show(0:Int)<((ze U.E).length:Int);rw[Ab];omega),qc bb (qm ey ?_)⟩)⟩;refine qc bw (qw bw ⟨big _ (by rw[Ab];exact agy),?_⟩);have ek:jc g++[.tup [.str "both",.int ((x:Nat):Int),.int ((y:Nat):Int)]]=jc (g++[.nd false x y]):=by unfold jc;rw[Am];rfl
 rw[ek];have bS:qi L2 C (.lst (jc (g++[.nd false x y]))) C=some (.lst (jc (g++[.nd false x y]))):=q8;have p:∀b o,b≠C->L2 b=some o->qi L2 C (.lst (jc (g++[.nd false x y]))) b=some o:=λb o nb e=>by rw[qb nb];exact e
 generalize qi L2 C (.lst (jc (g++[.nd false x y])))=L3 at bS p;have a5:=p _ _ (nk J m1).2.2.1 a5;have ba:=p _ _ (nk J m1).2.2.2 ba;have ag:=p _ _ (nk U m2).2.2.1 ag;have bb:=p _ _ (nk U m2).2.2.2 bb;have di:=p _ _ (AF nkf) bp;refine qc a5 (qc ag ⟨_,_,ba,bb,small (by rw[Ab,Ab];lia),λpp dj=>?_⟩);have en:ze J.E++ze U.E=ze (J.E++U.E):=by unfold ze;rw[Am]
 rw[en];refine ad0 (E:=J.E++U.E) (l:=x) (r:=y) (k:=9) q8 (by rw[Ac];lia) (λy' Q' h=>h) (λ_=>rfl) λpe dp=>?_;have s4:qg L3 (qi (qi L3 pp (.lst (ze (J.E++U.E)))) pe (.lst (ze ((J.E++U.E).filter λz=>!decide (z=x\/z=y))))):=(By dj).trans (By dp);have br:qi (qi L3 pp (.lst (ze (J.E++U.E)))) pe (.lst (ze ((J.E++U.E).filter λz=>!decide (z=x\/z=y)))) pe=some (.lst (ze (xo J.E U.E x y))):=q8;generalize qi (qi L3 pp (.lst (ze (J.E++U.E)))) pe (.lst (ze ((J.E++U.E).filter λz=>!decide (z=x\/z=y))))=L4 at s4 br;have bc:=s4 _ _ bS;have bd:=s4 _ _ di;have nn:(((jc (g++[.nd false x y])).length:Nat):Int)-1=((g.length:Nat):Int):=by rw[Ab,Ac];simp
 refine qc bd (qc bc (qc (s4 _ _ a5) (qc (s4 _ _ ag) (qc bc λpn bf=>?_))));refine⟨_,_,By bf _ _ br,q8,small (by have:=pS (l:=x) (r:=y) (B.sr J m1).nod (B.sr U m2).nod (λz h1 h2=>B.two z ((B.sr J m1).sub z h1) ((B.sr U m2).sub z h2));have:=List.length_filter_le (λz=>!decide (z=x\/z=y)) (J.E++U.E);rw[Ac] at this;rw[Ab];unfold xo;show _+1<=1000;lia),λI bg pa bh=>?_⟩;have s7:=(By (o:=.lst [.int ((((jc (g++[.nd false x y])).length:Nat):Int)-1)]) bf).trans ((By (o:=.lst (ze (xo J.E U.E x y)++[.int ((((jc (g++[.nd false x y])).length:Nat):Int)-1)])) bg).trans (By (o:=.lst [.tup [.str "both",.int ((((jc (g++[.nd false x y])).length:Nat):Int)-1),qj J.R,qj U.R],.ref I]) bh));refine qw (s7 _ _ bd) ⟨big _ (by rw[av];lia),?_⟩;have cb:I≠pa:=km q8 bh;have bj:∀L6:qr,qi L6 pa (.lst [.tup [.str "both",.int ((((jc (g++[.nd false x y])).length:Nat):Int)-1),qj J.R,qj U.R],.ref I]) pa=some (.lst [qj (.bo g.length J.R U.R),.ref I]):=λL6=>by rw[q8,nn];rfl
 have bn:∀L5 o,qi (qi L5 I (.lst (ze (xo J.E U.E x y)++[.int ((((jc (g++[.nd false x y])).length:Nat):Int)-1)]))) pa o I=some (.lst (ze (xo J.E U.E x y++[g.length]))):=λL5 o=>by rw[qb cb,q8,nn];unfold ze;rw[Am];rfl
 have ea:=bj (qi (qi L4 pn (.lst [.int ((((jc (g++[.nd false x y])).length:Nat):Int)-1)])) I (.lst (ze (xo J.E U.E x y)++[.int ((((jc (g++[.nd false x y])).length:Nat):Int)-1)])));have eb:=bn (qi L4 pn (.lst [.int ((((jc (g++[.nd false x y])).length:Nat):Int)-1)])) (.lst [.tup [.str "both",.int ((((jc (g++[.nd false x y])).length:Nat):Int)-1),qj J.R,qj U.R],.ref I]);have al:L4 pa=none:=by cases z:L4 pa with|none=>rfl|some o=>rw[((By bf).trans (By bg)) _ _ z] at bh;cases bh
 have au:L4 I=none:=by cases z:L4 I with|none=>rfl|some o=>rw[(By bf) _ _ z] at bg;cases bg
 generalize qi (qi (qi L4 pn (.lst [.int ((((jc (g++[.nd false x y])).length:Nat):Int)-1)])) I (.lst (ze (xo J.E U.E x y)++[.int ((((jc (g++[.nd false x y])).length:Nat):Int)-1)]))) pa (.lst [.tup [.str "both",.int ((((jc (g++[.nd false x y])).length:Nat):Int)-1),qj J.R,qj U.R],.ref I])=L7 at s7 ea eb;clear bf bg bh bj bn br;have up:∀b o,b≠fa->b≠C->L b=some o->L4 b=some o:=λb o n1 n2 e=>s4 _ _ (p _ _ n2 (j _ _ n1 e));have e1:=s7 _ _ bd;have cc:pa≠fa:=λe=>by rw[e,bd] at al;cases al
 have cm:I≠fa:=λe=>by rw[e,bd] at au;cases au
 have s1:=B.sr J m1;have s2:=B.sr U m2;have bi:∀z,z∈J.E->z∈U.E->False:=λz h1 h2=>B.two z (s1.sub z h1) (s2.sub z h2);refine jw (q _ (g++[.nd false x y]) (rest++[⟨pa,I,.bo g.length J.R U.R,xo J.E U.E x y++[g.length]⟩]) ⟨?_,?_⟩ (by rw[Ac];rfl) (by rw[Ac];simp;lia) ⟨⟨_,rfl,λk hk=>⟨_,_,_,Ai.mp hk⟩⟩,λh t ht=>?_⟩)
 rotate_right
 ·have h':∀u∈J::U::rest,noC u.R:=λu hu=>h u (bq.mem_iff.mpr hu);rcases Aq.mp ht with ht|ht
  ·exact h' t (Ae _ (Ae _ ht))
  ·rw[Ai.mp ht];exact⟨h' J m1,h' U m2⟩
 ·refine bU.step (old:=[J,U]) (t':=⟨pa,I,.bo g.length J.R U.R,xo J.E U.E x y++[g.length]⟩) B ?_ ⟨?_,?_⟩ (λt ht=>?_) (λb o e=>?_) ?_ (λz T=>?_) ?_ ?_ ?_
  ·rw[qb nkf];exact s7 _ _ bc
  ·rw[qb cc];exact ea
  ·rw[qb cm];exact eb
  ·have mt:t∈J::U::rest:=Ae _ (Ae _ ht);obtain⟨n1,n2,n3,n4⟩:=nk t mt;obtain⟨h1,h2⟩:=B.ht t mt;rw[h1,h2,qb n1,qb n2];exact⟨s7 _ _ (up _ _ n1 n3 h1),s7 _ _ (up _ _ n2 n4 h2)⟩
  ·have n1:b≠C:=λz=>by rw[z,B.fr C (by simp)] at e;cases e
   have n2:b≠fa:=λz=>by rw[z,B.fr fa (by simp)] at e;cases e
   rw[qb n2];exact s7 _ _ (up _ _ n2 n1 (B.sub _ _ e))
  ·rw[AA,AA] at ad;obtain⟨d1,d2,d3⟩:=ad;have dr:(rest.flatMap Tr.ads).Nodup:=by rw[AS,AS,Ax,Ax] at d3;exact d3.2.1.2.1
   have cv:∀z∈rest.flatMap Tr.ads,z∈(J::U::rest).flatMap Tr.ads:=λz T=>by rw[AS,AS];exact Ah _ (Ah _ T)
   have cy:∀z∈rest.flatMap Tr.ads,∃o,L4 z=some o:=λz T=>by
    obtain⟨t,ht,T⟩:=A4.mp T;have mt:t∈J::U::rest:=Ae _ (Ae _ ht);obtain⟨n1,n2,n3,n4⟩:=nk t mt;obtain⟨h1,h2⟩:=B.ht t mt;have T:z=t.a\/z=t.b:=by simpa[Tr.ads] using T
    rcases T with rfl|rfl
    ·exact⟨_,up _ _ n1 n3 h1⟩
    ·exact⟨_,up _ _ n2 n4 h2⟩
   have dv:pa≠C:=λe=>by rw[e,bc] at al;cases al
   have dI:I≠C:=λe=>by rw[e,bc] at au;cases au
   have dS:pa∉rest.flatMap Tr.ads:=λT=>by obtain⟨o,e⟩:=cy _ T;rw[al] at e;cases e
   have dV:I∉rest.flatMap Tr.ads:=λT=>by obtain⟨o,e⟩:=cy _ T;rw[au] at e;cases e
   rw[Az];rw[AA,AA,Ax];refine⟨?_,?_,dr,?_,?_⟩
   ·intro z;rcases Ao.mp z with z|z
    ·exact nkf z
    ·rcases Aq.mp z with z|z
     ·exact d1 (Ae _ (cv _ z))
     ·simp[Tr.ads] at z;rcases z with z|z;exact dv z.symm;exact dI z.symm
   ·intro z;rcases Aq.mp z with z|z
    ·exact d2 (cv _ z)
    ·simp[Tr.ads] at z;rcases z with z|z;exact cc z.symm;exact cm z.symm
   ·simp[Tr.ads];exact AF cb
   ·intro u hu v hv e;simp[Tr.ads] at hv;subst e;rcases hv with rfl|rfl
    ·exact dS hu
    ·exact dV hu
  ·have T:z=pa\/z=I:=by simpa[Tr.ads] using T
   cases w:L0 z with
   |none=>rfl
   |some o=>
    have n1:z≠C:=λe=>by rw[e,B.fr C (by simp)] at w;cases w
    have n2:z≠fa:=λe=>by rw[e,B.fr fa (by simp)] at w;cases w
    have:=up _ _ n2 n1 (B.sub _ _ w);rcases T with rfl|rfl
    ·rw[al] at this;cases this
    ·rw[au] at this;cases this
  ·exact B.ok.snoc ⟨s1.lt x (s1.sub x hx),s2.lt y (s2.sub y hy)⟩
  ·refine .bo (dq _ _ _) (s1.more _) (s2.more _) hx hy (λz=>?_) ?_
   ·rw[Aq,pK (λh=>bi x hx h) (λh=>bi y h hy),Ai];constructor
    ·rintro((h|h)|h)
     ·exact .inl h
     ·exact .inr (.inl h)
     ·exact .inr (.inr h)
    ·rintro(h|h|h)
     ·exact .inl (.inl h)
     ·exact .inl (.inr h)
     ·exact .inr h
   ·rw[Ax];refine⟨pS s1.nod s2.nod bi,by simp,λu hu v hv e=>?_⟩;rw[Ai.mp hv] at e;have:=(pK (λh=>bi x hx h) (λh=>bi y h hy) u).mp hu;rcases this with⟨h,_⟩|⟨h,_⟩
    ·have:=s1.lt u (s1.sub u h);lia
    ·have:=s2.lt u (s2.sub u h);lia
  ·show(g.length::(qp J.R++qp U.R)).Perm (List.range' g.length 1++([J,U].flatMap λt=>qp t.R));simp[DD]
 ·rw[q8];unfold zj;rw[Am];rfl
theorem tD{E:List Nat}{k:Int}(h:0<E.length):∃(j x:Nat),E[j]?=some x/\0<=k % ((ze E).length:Int)/\k % ((ze E).length:Int)<((ze E).length:Int)/\
 (ze E)[(k % ((ze E).length:Int)).toNat]?=some (.int ((x:Nat):Int))/\(ze E).eraseIdx (k % ((ze E).length:Int)).toNat=ze (E.eraseIdx j):=by
 obtain⟨j,x,U,g,J⟩:=dZ h k;have e:(ze E).length=E.length:=Ab ..;rw[e,U];refine⟨j,x,J,by exact A5 _,by lia,?_,?_⟩
 ·show(ze E)[j]?=_;rw[An,J];rfl
 ·exact hX _ E j
def lV:jl:=λys L Q=>∃L0 ka fa ks,∃pre post:List Tr,∃t:Tr,∃one two:Int,ys=[.ref ka,.ref t.a,.int one,.int two]/\oA L0 L ka fa ks (pre++t::post)/\ks.length<=200/\
 ∀L' ir fo',oA L0 L' ka fa ir fo'->ir.length<=ks.length+1->fo'.length=(pre++t::post).length->Ext ks (pre++t::post) ir fo'->Q .non L'
theorem aeb:∀ys L Q,lV ys L Q->xj ag2 6 ys L Q:=by
 rintro ys L Q ⟨L0,l,fa,J,pre,post,t,one,two,rfl,F,bb,q⟩;have big:=bg_;have mt:t∈pre++t::post:=by simp
 have B:=F.b;obtain⟨ta,tb⟩:=B.ht t mt;have le:=bD B mt;have s:=B.sr t mt;have r:∀E:List Nat,(ze E).length=E.length:=λE=>Ab ..;refine qc ta (qc tb ?_);refine x0 (λc=>?_) λc=>?_
 ·exact jw (q L J _ F (BV _) rfl ⟨⟨[],(AX _).symm,λk hk=>by cases hk⟩,λh=>h⟩)
 have c:¬(((ze t.E).length:Int)<2):=c;rw[r] at c;have ad:=B.ad;have nkf:l≠fa:=by rw[AA] at ad;exactλe=>ad.1 (e▸Ak ..)
 have nk:∀u∈pre++t::post,u.a≠fa/\u.b≠fa/\u.a≠l/\u.b≠l:=λu g=>by rw[AA,AA] at ad;have ma:u.a∈(pre++t::post).flatMap Tr.ads:=A4.mpr ⟨u,g,by simp[Tr.ads]⟩;have mb:u.b∈(pre++t::post).flatMap Tr.ads:=A4.mpr ⟨u,g,by simp[Tr.ads]⟩;exact⟨λe=>ad.2.1 (e▸ma),λe=>ad.2.1 (e▸mb),λe=>ad.1 (Ae _ (e▸ma)),λe=>ad.1 (Ae _ (e▸mb))⟩
 have a5:t.a≠t.b:=by rw[AA,AA,Az,AS,Ax,Ax] at ad;have:=ad.2.2.2.1.1;simpa[Tr.ads] using this
 obtain⟨j1,x,e1,a1,a2,a3,a4⟩:=tD (k:=two) le.1;refine qc ta (qc tb (qc ta (qc tb ⟨(by show(0:Int)<((ze t.E).length:Int);rw[r];omega),qw tb ⟨a1,a2,qm a3 ?_⟩⟩)));rw[a4];have bf:(t.E.eraseIdx j1).length+1=t.E.length:=by have:=(x5 e1).length_eq;rw[AJ] at this;lia
 have al:qi L t.b (.lst (ze (t.E.eraseIdx j1))) t.a=some (.lst [qj t.R,.ref t.b]):=by rw[qb a5];exact ta
 obtain⟨j2,y,e2,b1,b2,b3,b4⟩:=tD (E:=t.E.eraseIdx j1) (k:=one) (by lia);refine qc al (qc q8 (qc al (qc q8 ⟨(by show(0:Int)<((ze (t.E.eraseIdx j1)).length:Int);rw[r];omega),qw q8 ⟨b1,b2,qm b3 ?_⟩⟩)));rw[b4,xr];have bc:((t.E.eraseIdx j1).eraseIdx j2).length+1=(t.E.eraseIdx j1).length:=by have:=(x5 e2).length_eq;rw[AJ] at this;lia
 have pE:t.E.Perm (x::y::(t.E.eraseIdx j1).eraseIdx j2):=(x5 e1).trans ((x5 e2).cons _);generalize (t.E.eraseIdx j1).eraseIdx j2=j at bc pE;have au:qi L t.b (.lst (ze j)) l=some (.lst (jc J)):=by rw[qb (AF (nk t mt).2.2.2)];exact B.hk
 refine qc au (qw au ⟨big _ (by rw[Ab];exact agy),?_⟩);have ek:jc J++[.tup [.str "either",.int ((x:Nat):Int),.int ((y:Nat):Int)]]=jc (J++[.nd true x y]):=by unfold jc;rw[Am];rfl
 rw[ek];have nn:(((jc (J++[.nd true x y])).length:Nat):Int)-1=((J.length:Nat):Int):=by rw[Ab,Ac];simp
 have av:qi (qi L t.b (.lst (ze j))) l (.lst (jc (J++[.nd true x y]))) t.a=some (.lst [qj t.R,.ref t.b]):=by rw[qb (nk t mt).2.2.1,qb a5];exact ta
 refine qc q8 (qc av ?_);refine qw av (qm (v:=0) rfl ?_);have ag:qi (qi (qi L t.b (.lst (ze j))) l (.lst (jc (J++[.nd true x y])))) t.a (.lst ([qj t.R,.ref t.b].set 0 (.tup [.str "either",.int ((((jc (J++[.nd true x y])).length:Nat):Int)-1),qj t.R]))) t.a=some (.lst [qj (.ei J.length t.R),.ref t.b]):=by rw[q8,nn];rfl
 have C:∀o,qi (qi (qi L t.b (.lst (ze j))) l (.lst (jc (J++[.nd true x y])))) t.a o l=some (.lst (jc (J++[.nd true x y]))):=λo=>by rw[qb (AF (nk t mt).2.2.1)];exact q8
 have I:∀o,qi (qi (qi L t.b (.lst (ze j))) l (.lst (jc (J++[.nd true x y])))) t.a o t.b=some (.lst (ze j)):=λo=>by rw[qb (AF a5),qb (nk t mt).2.2.2];exact q8
 have U:∀o b u,b≠t.a->b≠t.b->b≠l->L b=some u->qi (qi (qi L t.b (.lst (ze j))) l (.lst (jc (J++[.nd true x y])))) t.a o b=some u:=λo b u n1 n2 n3 e=>by rw[qb n1,qb n3,qb n2];exact e
 have C:=C (.lst ([qj t.R,.ref t.b].set 0 (.tup [.str "either",.int ((((jc (J++[.nd true x y])).length:Nat):Int)-1),qj t.R])));have I:=I (.lst ([qj t.R,.ref t.b].set 0 (.tup [.str "either",.int ((((jc (J++[.nd true x y])).length:Nat):Int)-1),qj t.R])));have U:=U (.lst ([qj t.R,.ref t.b].set 0 (.tup [.str "either",.int ((((jc (J++[.nd true x y])).length:Nat):Int)-1),qj t.R])));generalize qi (qi (qi L t.b (.lst (ze j))) l (.lst (jc (J++[.nd true x y])))) t.a (.lst ([qj t.R,.ref t.b].set 0 (.tup [.str "either",.int ((((jc (J++[.nd true x y])).length:Nat):Int)-1),qj t.R])))=L3 at ag C I U;refine qc ag (qc I (qc C (qw I ⟨big _ (by rw[r];lia),?_⟩)));have en:ze j++[.int ((((jc (J++[.nd true x y])).length:Nat):Int)-1)]=ze (j++[J.length]):=by rw[nn];unfold ze;rw[Am];rfl
 have T:=pE.nodup_iff.mp s.nod;rw[AA,AA] at T;have hx:x∈t.E:=pE.mem_iff.mpr (by simp);have hy:y∈t.E:=pE.mem_iff.mpr (by simp);have bd:∀u∈pre++post,u.a≠t.a/\u.a≠t.b/\u.b≠t.a/\u.b≠t.b:=λu g=>by have p:(pre++t::post).Perm (t::(pre++post)):=Cv;have aL:=(p.flatMap_right Tr.ads).nodup_iff.mp (by rw[AA,AA] at ad;exact ad.2.2);rw[AS,Ax] at aL;have k:=aL.2.2;have ma:u.a∈(pre++post).flatMap Tr.ads:=A4.mpr ⟨u,g,by simp[Tr.ads]⟩;have mb:u.b∈(pre++post).flatMap Tr.ads:=A4.mpr ⟨u,g,by simp[Tr.ads]⟩;exact⟨λe=>k t.a (by simp[Tr.ads]) u.a ma e.symm,λe=>k t.b (by simp[Tr.ads]) u.a ma e.symm,λe=>k t.a (by simp[Tr.ads]) u.b mb e.symm,λe=>k t.b (by simp[Tr.ads]) u.b mb e.symm⟩
 refine jw (q _ (J++[.nd true x y]) (pre++⟨t.a,t.b,.ei J.length t.R,j++[J.length]⟩::post) ⟨?_,?_⟩ (by rw[Ac];exact Aj _) (by simp) ⟨⟨_,rfl,λk hk=>⟨_,_,_,Ai.mp hk⟩⟩,λh u g=>?_⟩)
 rotate_right
 ·rcases Aq.mp g with g|g
  ·exact h u (Ar _ g)
  ·rcases Ao.mp g with rfl|g
   ·exact h t mt
   ·exact h u (Ah _ (Ae _ g))
 ·have B':=B.perm (fo':=[t]++(pre++post)) Cv;have st:=bU.step (old:=[t]) (rest:=pre++post) (t':=⟨t.a,t.b,.ei J.length t.R,j++[J.length]⟩) (ms:=[.nd true x y]) (L':=qi L3 t.b (.lst (ze j++[.int ((((jc (J++[.nd true x y])).length:Nat):Int)-1)]))) B' ?_ ⟨?_,?_⟩ (λu g=>?_) (λb o e=>?_) ?_ (λz hz=>?_) ?_ ?_ ?_
  ·exact st.perm (by have p1:((pre++post)++[(⟨t.a,t.b,.ei J.length t.R,j++[J.length]⟩:Tr)]).Perm ((⟨t.a,t.b,.ei J.length t.R,j++[J.length]⟩:Tr)::(pre++post)):=BP _ _;exact p1.trans Cv.symm)
  ·rw[qb (AF (nk t mt).2.2.2)];exact C
  ·rw[qb a5];exact ag
  ·rw[q8,en]
  ·have ba:u∈pre++t::post:=by rcases Aq.mp g with h|h;exact Ar _ h;exact Ah _ (Ae _ h)
   obtain⟨n1,n2,n3,n4⟩:=bd u g;obtain⟨k1,k2,k3,k4⟩:=nk u ba;obtain⟨h1,h2⟩:=B.ht u ba;rw[h1,h2,qb n2,qb n4];exact⟨U _ _ n1 n2 k3 h1,U _ _ n3 n4 k4 h2⟩
  ·have fr:=B.fr;have n0:∀z,L0 z=none->b≠z:=λz hz w=>by rw[w,hz] at e;cases e
   have n1:=n0 l (fr l (by simp));have n2:=n0 t.a (fr t.a (by simp[Tr.ads]));have n3:=n0 t.b (fr t.b (by simp[Tr.ads]));rw[qb n3];exact U _ _ n2 n3 n1 (B.sub _ _ e)
  ·have p:(pre++t::post).Perm ((pre++post)++[t]):=Cv.trans (BP _ _).symm;have e:((pre++post)++[(⟨t.a,t.b,.ei J.length t.R,j++[J.length]⟩:Tr)]).flatMap Tr.ads=((pre++post)++[t]).flatMap Tr.ads:=by simp[Az,Tr.ads]
   rw[e];exact(((p.flatMap_right Tr.ads).cons _).cons _).nodup_iff.mp ad
  ·have hz:z=t.a\/z=t.b:=by simpa[Tr.ads] using hz
   rcases hz with rfl|rfl
   ·exact B.fr _ (by simp[Tr.ads])
   ·exact B.fr _ (by simp[Tr.ads])
  ·exact B.ok.snoc ⟨s.lt x (s.sub x hx),s.lt y (s.sub y hy)⟩
  ·refine .ei (dq _ _ _) (s.more _) hx hy (λe=>T.1 (by rw[e];exact Ak ..)) (λz=>?_) ?_
   ·rw[Aq,Ai];have hm:=pE.mem_iff (a:=z);rw[Ao,Ao] at hm;have h1:z∈j->z≠x/\z≠y:=λh=>⟨λe=>T.1 (by rw[<-e];exact Ae _ h),λe=>T.2.1 (e▸h)⟩;constructor
    ·rintro(h|h)
     ·exact .inl ⟨hm.mpr (.inr (.inr h)),h1 h⟩
     ·exact .inr h
    ·rintro(⟨h,c1,c2⟩|h)
     ·rcases hm.mp h with e|e|e
      ·exact absurd e c1
      ·exact absurd e c2
      ·exact .inl e
     ·exact .inr h
   ·rw[Ax];refine⟨T.2.2,by simp,λu g v hv e=>?_⟩;rw[Ai.mp hv] at e;have:u∈t.E:=pE.mem_iff.mpr (Ae _ (Ae _ g));have:=s.lt u (s.sub u this);lia
  ·show(J.length::qp t.R).Perm (List.range' J.length 1++([t].flatMap λt=>qp t.R));simp[DD]
 ·have nf:=nk t mt;rw[qb (AF nf.2.1)];have:=U fa _ (AF nf.1) (AF nf.2.1) (AF nkf) F.hf;rw[this];unfold zj;rw[Am,Am];rfl
def al0(J:jl)(p1:jl)(p2:jl)(p3:jl):vt:=(qt (zf (af cg (q9 1) (qd (zb xu (q9 3) (bT 1)) z0)) (qh 4))
 (qt (zf (zb wz (xc 4 1) (zb xu (zb vv (q9 3) (zk 64)) (jS kF (vk (xc 4 1))))) (qh 5))
 (qt (zf (z9 J (aH (q9 0) (q9 5))) (qh 6))
 (qt (zf (rdT (yC .non) (yC .non)) (bB 2 (je (qh 7) (je (qh 8) ac))))
 (qt (dc (iC (vk (bT 1))) (qh 9) (dc (wr (zb wz (zb wz (q9 1) (q9 9)) (zk 1))) (qh 10) (jt (ox (yB (fB false (q9 7))) (dk (z9 J (aH (q9 0) (q9 10))) (z9 p1 (vk (q9 6))))) (zf (kg (qd (zb wz (q9 1) (q9 9)) (vk (q9 10)))) (bB 2 (je (qh 7) (je (qh 8) ac)))) j8)))
 (qt (jt (ox (yB (fB false (q9 7))) (yB (zb yGt (z9 p2 (vk (q9 6))) (zk 5)))) (qt (jk (af j6 (q9 1) (vk (q9 4))))
 ae3) j8)
 (dE (jt (yB (fB false (q9 7))) (qt (zf (z9 p3 (aH (q9 0) (q9 6))) (ai4 3 (je (qh 11) (je (qh 8) (je (qh 12) ac)))))
 (zf (jq (qd (q9 11) (qd (jq (aH (q9 8) (q9 12))) z0))) (qh 7))) (jk (af kB (q9 1) (vk (q9 7)))))
 (qt (zf (xD 1 (wr (zb k8 (xc 4 1) (xc 7 1))) (qh 14) (yB (zb (mG true) (q9 14) (rdT (q9 5) (q9 8)))) (q9 14)) (qh 13))
 (jt (dk (zb xu (q9 2) (zk 2)) (zk 0)) (jk (af j6 (q9 1) (qd (jq (qd (kg (qd (dR "cut") (qd (q9 5) (qd (q9 8) (aH (xc 4 0) (xc 7 0)))))) (vk (q9 13)))) z0))) (jk (af j6 (q9 1) (qd (jq (qd (kg (qd (dR "cut") (qd (q9 8) (qd (q9 5) (aH (xc 7 0) (xc 4 0)))))) (vk (q9 13)))) z0))))))))))))
theorem qV:∀a b:List Da,Da.eqs a b=true->a.length=b.length
 |[],[],_=>rfl
 |[],_::_,h=>by cases h
 |_::_,[],h=>by cases h
 |x::r,y::q,h=>by have h:(Da.eq x y&&Da.eqs r q)=true:=h;rw[A1] at h;rw[AJ,AJ,qV r q h.2]
theorem ahi(u:Wd):∀v:Wd,Da.eq (qG u) (qG v)=true->u=v:=by
 induction u with
 |leaf t n=>
  intro v h;cases v with
  |leaf p C=>
   rw[agx,A1] at h;rw[of_decide_eq_true h.1,of_decide_eq_true h.2]
  |node e l r=>exact absurd (qV _ _ h) (by intro z;cases z)
 |node e l r j o=>
  intro v h;cases v with
  |leaf t n=>exact absurd (qV _ _ h) (by intro z;cases z)
  |node J U g=>
   have h:(iN (.str (kN e)) (.str (kN J))&&(Da.eq (qG l) (qG U)&&(Da.eq (qG r) (qG g)&&true)))=true:=h;rw[A1,A1,A1] at h;obtain⟨h1,h2,h3,_⟩:=h;have:e=J:=by cases e<;>cases J<;>first|rfl|(exfalso;revert h1;decide +kernel)
   rw[this,j U h2,o g h3]
def zp:Ru->Nat
 |.link _ _=>1
 |.ei _ A=>zp A+1
 |.bo _ A B=>max (zp A) (zp B)+1
 |.cu _ _ A B=>max (zp A) (zp B)+1
theorem xg:∀R:Ru,zp R+1<=(qp R).length
 |.link _ _=>Aj _
 |.ei _ A=>by have:=xg A;simp[zp,qp];lia
 |.bo _ A B=>by have:=xg A;have:=xg B;simp[zp,qp];lia
 |.cu _ _ A B=>by have:=xg A;have:=xg B;simp[zp,qp];lia
def aj:Ru->Da
 |.link p q=>.tup [.s (.str "link"),.s (.int (p:Int)),.s (.int (q:Int))]
 |.ei r A=>.tup [.s (.str "either"),.s (.int (r:Int)),aj A]
 |.bo r A B=>.tup [.s (.str "both"),.s (.int (r:Int)),aj A,aj B]
 |.cu p q A B=>.tup [.s (.str "cut"),.s (.int (p:Int)),.s (.int (q:Int)),aj A,aj B]
theorem cw{L:qr}:∀{R:Ru} {n:Nat},zp R<=n->jd L n (qj R) (aj R)
 |.link p q,n+1,_=>aZ (.cons (EK _) (.cons (EF _) (.cons (EF _) .nil)))
 |.ei r A,n+1,h=>aZ (.cons (EK _) (.cons (EF _) (.cons (cw (by simp[zp] at h;lia)) .nil)))
 |.bo r A B,n+1,h=>aZ (.cons (EK _) (.cons (EF _) (.cons (cw (by simp[zp] at h;lia)) (.cons (cw (by simp[zp] at h;lia)) .nil))))
 |.cu p q A B,n+1,h=>aZ (.cons (EK _) (.cons (EF _) (.cons (EF _) (.cons (cw (by simp[zp] at h;lia)) (.cons (cw (by simp[zp] at h;lia)) .nil)))))
 |.link _ _,0,h=>by simp[zp] at h
 |.ei _ _,0,h=>by simp[zp] at h
 |.bo _ _ _,0,h=>by simp[zp] at h
 |.cu _ _ _ _,0,h=>by simp[zp] at h
theorem aw:∀R:Ru,Da.eq (aj R) (aj R)=true
 |.link p q=>by simp[aj,Da.eq,Da.eqs,iN]
 |.ei r A=>by simp[aj,Da.eq,Da.eqs,iN,aw A]
 |.bo r A B=>by simp[aj,Da.eq,Da.eqs,iN,aw A,aw B]
 |.cu p q A B=>by simp[aj,Da.eq,Da.eqs,iN,aw A,aw B]
def iT(E:List Nat):List Da:=E.map λn:Nat=>Da.s (.int (n:Int))
theorem xB{L:qr}{n:Nat}:∀E:List Nat,Paired (jd L n) (ze E) (iT E)
 |[]=>.nil
 |_::r=>.cons (EF _) (xB r)
theorem oy:∀E J:List Nat,Da.eqs (iT E) (iT J)=true↔E=J
 |[],[]=>by simp[iT,Da.eqs]
 |[],_::_=>by simp[iT,Da.eqs]
 |_::_,[]=>by simp[iT,Da.eqs]
 |x::r,y::U=>by
  have g:=oy r U;show(Da.eq (.s (.int (x:Int))) (.s (.int (y:Int)))&&Da.eqs (iT r) (iT U))=true↔_;rw[A1,g];have:Da.eq (.s (.int (x:Int))) (.s (.int (y:Int)))=true↔x=y:=by show decide ((x:Int)=(y:Int))=true↔_;rw[decide_eq_true_iff];lia
  rw[this];constructor
  ·rintro⟨rfl,rfl⟩;rfl
  ·intro e;injection e with j l;exact⟨j,l⟩
def fG(t:Tr):Da:=.lst [aj t.R,.lst (iT t.E)]
theorem pj{t:Tr}(J:L t.a=some (.lst [qj t.R,.ref t.b]))(U:L t.b=some (.lst (ze t.E)))(h:zp t.R<=n+1):jd L (n+2) (.ref t.a) (fG t):=
 xh J (.cons (cw h) (.cons (xh U (xB _)) .nil))
theorem agu{t u:Tr}:Da.eq (fG t) (fG u)=true->t.E=u.E:=by intro h;have h:(Da.eq (aj t.R) (aj u.R)&&(Da.eqs (iT t.E) (iT u.E)&&true))=true:=h;rw[A1,A1] at h;exact(oy _ _).mp h.2.1
theorem zC(t:Tr):Da.eq (fG t) (fG t)=true:=by show(Da.eq (aj t.R) (aj t.R)&&(Da.eqs (iT t.E) (iT t.E)&&true))=true;rw[aw,(oy _ _).mpr rfl];rfl
theorem bU.rd{fa:Addr}(h:bU L0 L ka fa ks fo){t:Tr}(J:t∈fo):zp t.R<=ks.length:=by
 have h1:=xg t.R;have nd:(qp t.R).Nodup:=by obtain⟨a,b,rfl⟩:=CI J;have:=h.nd;rw[Az,AS,Ax,Ax] at this;exact this.2.1.1
 have:=bL _ _ nd λx U=>(h.sr t J).lt x U;exact amt
theorem bU.one{fa:Addr}(h:bU L0 L ka fa ks fo){t u:Tr}(hi:fo[i]?=some t)(J:fo[j]?=some u)(e:t.E=u.E):i=j:=by
 by_cases c:i=j
 ·exact c
 ·exfalso;have s:=h.sr t (AD hi);have l:=s.ends h.ok;obtain⟨x,U⟩:∃x,x∈t.E:=by cases o:t.E with|nil=>rw[o] at l;simp at l|cons x r=>exact⟨x,Ak ..⟩
  have p:=h.sr u (AD J);have C:=x5 hi;have I:(u::(fo.eraseIdx i))=_:=rfl;have g:u∈fo.eraseIdx i:=by have:fo[j]?=some u:=J;rw[List.mem_eraseIdx_iff_getElem?];exact⟨j,λz=>c z.symm,J⟩
  obtain⟨a,b,T⟩:=CI g;have nd:=(C.flatMap_right λt:Tr=>qp t.R).nodup_iff.mp h.nd;rw[AS,Ax] at nd;exact nd.2.2 x (s.sub x U) x (A4.mpr ⟨u,g,p.sub x (e▸U)⟩) rfl
theorem qg.none(s:qg L L'){p:Addr}(h:L' p=none):L p=none:=by cases z:L p with|none=>rfl|some o=>rw[s _ _ z] at h;cases h
theorem bU.nkf{fa:Addr}(h:bU L0 L ka fa ks fo):ka≠fa:=by have ad:=h.ad;rw[AA] at ad;exactλe=>ad.1 (e▸Ak ..)
theorem bU.nk{fa:Addr}(h:bU L0 L ka fa ks fo):∀t∈fo,t.a≠fa/\t.b≠fa/\t.a≠ka/\t.b≠ka:=λt J=>by have ad:=h.ad;rw[AA,AA] at ad;have U:t.a∈fo.flatMap Tr.ads:=A4.mpr ⟨t,J,by simp[Tr.ads]⟩;have g:t.b∈fo.flatMap Tr.ads:=A4.mpr ⟨t,J,by simp[Tr.ads]⟩;exact⟨λe=>ad.2.1 (e▸U),λe=>ad.2.1 (e▸g),λe=>ad.1 (Ae _ (e▸U)),λe=>ad.1 (Ae _ (e▸g))⟩
theorem bU.setF{fa:Addr}(h:bU L0 L ka fa ks fo)(o:LO):bU L0 (qi L fa o) ka fa ks fo:=by
 refine⟨by rw[qb h.nkf];exact h.hk,λt J=>?_,h.sr,h.nd,h.tm,h.ad,h.ok,λb u e=>?_,h.fr⟩
 ·obtain⟨U,g,_,_⟩:=h.nk t J;rw[qb U,qb g];exact h.ht t J
 ·have:b≠fa:=λz=>by rw[z,h.fr fa (by simp)] at e;cases e
  rw[qb this];exact h.sub _ _ e
theorem bU.mono{fa:Addr}(h:bU L0 L ka fa ks fo)(s:qg L L'):bU L0 L' ka fa ks fo:=
 ⟨s _ _ h.hk,λt J=>⟨s _ _ (h.ht t J).1,s _ _ (h.ht t J).2⟩,h.sr,h.nd,h.tm,h.ad,h.ok,h.sub.trans s,h.fr⟩
theorem bU.exs{fa:Addr}(h:bU L0 L ka fa ks fo):∀z∈fo.flatMap Tr.ads,∃o,L z=some o:=λz J=>by
 obtain⟨t,U,J⟩:=A4.mp J;obtain⟨h1,h2⟩:=h.ht t U;have J:z=t.a\/z=t.b:=by simpa[Tr.ads] using J
 rcases J with rfl|rfl
 ·exact⟨_,h1⟩
 ·exact⟨_,h2⟩
theorem vA{l:List Addr}{pb:Addr}(nd:l.Nodup)(ex:∀z∈l,∃o,L z=some o)(g:L pa=none)(j:L pb=none)(ne:pa≠pb):(l++[pa,pb]).Nodup:=by
 rw[Ax];refine⟨nd,by simp[ne],λu p v U e=>?_⟩;subst e;obtain⟨o,J⟩:=ex u p;simp at U;rcases U with rfl|rfl
 ·rw[g] at J;cases J
 ·rw[j] at J;cases J
theorem lB:∀w:Wd,w.turn.turn=w
 |.leaf t n=>by simp[Wd.turn]
 |.node e l r=>by simp[Wd.turn,lB l,lB r]
theorem fZ:∀w:Wd,w.turn.depth=w.depth
 |.leaf t n=>rfl
 |.node e l r=>by simp[Wd.turn,Wd.depth,fZ l,fZ r]
def Fd(ks:List Kn)(w:Wd)(rest:List Tr)(J U:Y):Prop:=(J=.non/\U=.non)\/∃(j:Nat) (u:Tr) (q:Nat),rest[j]?=some u/\q∈u.E/\dH ks q w.turn/\J=.ref u.a/\U=.int (q:Int)
theorem aah{j C:qr}{fa:Addr}{t1 u:Tr}{x q:Nat}{w:Wd}(B:bU L0 j ka fa ks (t1::u::rest)){fs:LO}(hf:j fa=some fs)(hx:x∈t1.E)(hq:q∈u.E)(I:dH ks x w)(T:dH ks q w.turn){J:Addr}(s:qg j C)(a1:j J=none)
 (he:C J=some (.lst (ze (xo t1.E u.E x q)))) (o:C pa=none) (hR:R=.cu x q t1.R u.R\/R=.cu q x u.R t1.R):bU L0 (qi C pa (.lst [qj R,.ref J])) ka fa ks (rest++[⟨pa,J,R,xo t1.E u.E x q⟩]):=by
 have a2:J≠pa:=km he o;have g:j pa=none:=s.none o;have s':qg j (qi C pa (.lst [qj R,.ref J])):=s.trans (By o);have s1:=B.sr t1 (by simp);have s2:=B.sr u (by simp);have p:∀z,z∈t1.E->z∈u.E->False:=λz h1 h2=>B.two z (s1.sub z h1) (s2.sub z h2);have k0:ks++[]=ks:=AX ks;have bm:=pK (E1:=t1.E) (E2:=u.E) (λh=>p x hx h) (λh=>p q h hq);have nod:=pS (l:=x) (r:=q) s1.nod s2.nod p;have st:=bU.step (L':=qi C pa (.lst [qj R,.ref J])) (old:=[t1,u]) (rest:=rest) (ms:=[]) (t':=⟨pa,J,R,xo t1.E u.E x q⟩) B (by rw[k0];exact s' _ _ B.hk) ⟨q8,by rw[qb a2];exact he⟩ (λt ht=>?_) (B.sub.trans s') ?_ (λz U=>?_) (by rw[k0];exact B.ok) ?_ ?_
 ·rw[k0] at st;exact st
 ·obtain⟨h1,h2⟩:=B.ht t (Ae _ (Ae _ ht));rw[h1,h2];exact⟨s' _ _ h1,s' _ _ h2⟩
 ·have nd:(ka::fa::rest.flatMap Tr.ads).Nodup:=by
   have:=B.ad;rw[AS,AS,AA,AA,Ax,Ax] at this;rw[AA,AA];obtain⟨d1,d2,_,⟨_,d3,_⟩,_⟩:=this;refine⟨λz=>d1 ?_,λz=>d2 (Ah _ (Ah _ z)),d3⟩;rcases Ao.mp z with z|z
   ·rw[z];exact Ak ..
   ·exact Ae _ (Ah _ (Ah _ z))
  have:=vA (L:=j) nd (λz U=>?_) g a1 (AF a2)
  ·rw[Az];simpa[Tr.ads] using this
  ·rcases Ao.mp U with rfl|U
   ·exact⟨_,B.hk⟩
   ·rcases Ao.mp U with rfl|U
    ·exact⟨_,hf⟩
    ·exact B.exs z (by rw[AS,AS];exact Ah _ (Ah _ U))
 ·have U:z=pa\/z=J:=by simpa[Tr.ads] using U
  rcases U with rfl|rfl
  ·exact B.sub.none g
  ·exact B.sub.none a1
 ·rw[k0];rcases hR with rfl|rfl
  ·exact .cu s1 s2 hx hq I T bm nod
  ·exact .cu (w:=w.turn) s2 s1 hq hx T (by rw[lB];exact I) (λz=>by rw[bm];exact Or.comm) nod
 ·rcases hR with rfl|rfl
  ·show(qp t1.R++qp u.R).Perm _;simp
  ·show(qp u.R++qp t1.R).Perm _;simpa using List.perm_append_comm
def CJ(L0:qr)(ka fa:Addr)(ks:List Kn)(one two:Int)(t1:Tr)(x:Nat)(w:Wd)(n:Nat)(τ:jo)(L:qr):Prop:=∃ms u q rest c9 gD c11 c12,τ=[some (.ref ka),some (.ref fa),some (.int one),some (.int two),some (.ref t1.a),some (.int (x:Int)),some (bO w),some (.ref u.a),some (.int ((q:Nat):Int)),c9,gD,c11,c12,none]/\
 bU L0 L ka fa (ks++ms) (t1::u::rest)/\L fa=some (.lst (zj rest))/\q∈u.E/\dH (ks++ms) q w.turn/\ms.length<=10/\rest.length<=n
def pH:jl:=λys L Q=>∃L0 ka fa ks fo,∃one two:Int,ys=[.ref ka,.ref fa,.int one,.int two]/\oA L0 L ka fa ks fo/\1<=fo.length/\fo.length<=110/\ks.length<=110/\
 ∀L' ir fo',oA L0 L' ka fa ir fo'->ir.length<=ks.length+10->1<=fo'.length->fo'.length<=fo.length->Q .non L'
theorem ag7:∀ys L Q,pH ys L Q->xj (al0 (aP 120) (cK 120) (cJ 120) (bx 5)) 14 ys L Q:=by
 rintro ys L Q ⟨L0,g,fa,T,fo,one,two,rfl,F,h1,cm,bv,q⟩;have big:=bg_;have a4:∀fo:List Tr,(zj fo).length=fo.length:=λfo=>Ab ..;obtain⟨j1,J,bf,a1,a2,a3,C⟩:=uP (k:=two) F.hf (by assumption);have l1:(fo.eraseIdx j1).length+1=fo.length:=by have:=(x5 bf).length_eq;rw[AJ] at this;lia
 refine qc F.hf (qc F.hf ⟨(by show(0:Int)<((zj fo).length:Int);rw[a4];lia),qw F.hf ⟨a1,a2,qm a3 ?_⟩⟩);have B:bU L0 (qi L fa (.lst ((zj fo).eraseIdx (two % ((zj fo).length:Int)).toNat))) g fa T (J::fo.eraseIdx j1):=(F.b.perm (x5 bf)).setF _;generalize qi L fa (.lst ((zj fo).eraseIdx (two % ((zj fo).length:Int)).toNat))=L1 at C B;generalize fo.eraseIdx j1=rest at l1 C B;clear a1 a2 a3;have m1:J∈J::rest:=by simp
 obtain⟨a5,al⟩:=B.ht J m1;have au:=bD B m1;have s1:=B.sr J m1;obtain⟨x,hx,ex⟩:=oz au.1 (two / 64);refine qc a5 ⟨⟨by decide,by decide⟩,qc a5 (qc al ⟨(by show(0:Int)<((ze J.E).length:Int);rw[Ab];omega),qc al (qm ex ?_)⟩)⟩;obtain⟨w,hw,cy,bg⟩:=kD B.ok (x+1) x (by exact Cw _) (s1.lt x (s1.sub x hx));have cP:=s1.lt x (s1.sub x hx);refine⟨g,jc T,x,w,rfl,B.hk,hw,by lia,?_⟩;have d0:w.turn.depth=w.depth:=fZ w;refine qc C ⟨⟨by show _<=(((zj rest).length:Nat):Int);exact A5 _,by show(((zj rest).length:Nat):Int)<_;rw[a4];omega⟩,?_⟩;refine jT (λi τ L'=>∃v7 v8 c9 gD,τ=[some (.ref g),some (.ref fa),some (.int one),some (.int two),some (.ref J.a),some (.int (x:Int)),some (bO w),some v7,some v8,c9,gD,none,none,none]/\L'=L1/\Fd T w rest v7 v8) ⟨_,_,_,_,rfl,rfl,.inl ⟨rfl,rfl⟩⟩ ?_ ?_
 ·rintro i τ L' hi ⟨v7,v8,c9,gD,rfl,rfl,fd⟩;have hi:i<rest.length:=by have:i<(((zj rest).length:Nat):Int).toNat:=hi;rw[a4] at this;assumption
  obtain⟨u,hu⟩:∃u,rest[i]?=some u:=⟨_,Af hi⟩;have mu:u∈J::rest:=Ae _ (AD hu);obtain⟨ua,ub⟩:=B.ht u mu;have ei:(zj rest)[i]?=some (.ref u.a):=by unfold zj;rw[An,hu];rfl
  have e0:(0:Int)+(i:Int)=((i:Nat):Int):=by simp +arith only
  rw[e0];have bh:dQ (zj rest) ((i:Nat):Int)=some (.ref u.a):=x6 ei;have le:=bD B mu;have su:=B.sr u mu;refine qc C (qm bh (qc ua ?_));refine afu (ys:=ze u.E) (aM ub) (λk τ av=>∃v7 v8 gD,τ=[some (.ref g),some (.ref fa),some (.int one),some (.int two),some (.ref J.a),some (.int (x:Int)),some (bO w),some v7,some v8,some (.int ((i:Nat):Int)),gD,none,none,none]/\av=L'/\Fd T w rest v7 v8) ⟨_,_,_,rfl,rfl,fd⟩ ?_ ?_ ?_
  ·rintro k τ _ ⟨_,_,_,_,rfl,_⟩;rfl
  ·rintro k y τ av ey ⟨v7,v8,gD,rfl,rfl,fd⟩;obtain⟨z,ez,rfl⟩:∃z:Nat,u.E[k]?=some z/\y=Y.int (z:Int):=by rw[An] at ey;obtain⟨z,e1,e2⟩:=Ap.mp ey;exact⟨z,e1,e2.symm⟩
   have hz:z∈u.E:=AD ez;rcases fd with⟨rfl,rfl⟩|⟨j,t,q0,h1,h2,h3,rfl,rfl⟩
   ·have bw:=su.lt z (su.sub z hz);obtain⟨v,hv,de,cv⟩:=kD B.ok (z+1) z (by exact Cw _) bw;refine⟨g,jc T,z,v,rfl,B.hk,hv,by lia,w,rfl,by lia,?_⟩;refine abb (u:=v) (v:=w.turn) (by lia) ?_;show wc (Da.eq (qG v) (qG w.turn)) _ _;refine aht (λc=>?_) λc=>?_
    ·have hh:=ahi _ _ c;refine qc C (qm bh ?_);refine⟨_,DU _,?_⟩;exact⟨_,_,_,rfl,rfl,.inr ⟨i,u,z,hu,hz,hh▸hv,rfl,rfl⟩⟩
    ·refine⟨_,DU _,?_⟩;exact⟨_,_,_,rfl,rfl,.inl ⟨rfl,rfl⟩⟩
   ·refine⟨_,DU _,?_⟩;exact⟨_,_,_,rfl,rfl,.inr ⟨j,t,q0,h1,h2,h3,rfl,rfl⟩⟩
  ·rintro τ av ⟨v7,v8,gD,rfl,rfl,fd⟩;refine⟨_,DU _,?_⟩;exact⟨_,_,_,_,rfl,rfl,fd⟩
 ·rintro τ L' ⟨v7,v8,c9,gD,rfl,rfl,fd⟩;rcases fd with⟨rfl,rfl⟩|⟨j,u,q0,hj,aL,ba,rfl,rfl⟩
  case' inl=>
   refine⟨w,rfl,by lia,?_⟩;show wc (decide ((w.size:Int) > 5)) _ _;refine x0 (λc=>?_) λc=>?_
   case' refine_1=>
    refine qc C (qw C ⟨big _ (by rw[a4];lia),?_⟩);have er:zj rest++[.ref J.a]=zj (rest++[J]):=by unfold zj;rw[Am];rfl
    rw[er];exact jw (q _ T (rest++[J]) ⟨(B.perm (BP _ _).symm).setF _,q8⟩ (by exact BA _ _) (by simp) (by rw[Ac];simp;exact yz))
   case' refine_2=>
    refine⟨CJ L0 g fa T one two J x w rest.length,?_,?_⟩
    ·refine⟨g,T,w,rfl,B.hk,(by have h1:=w.depth_le;have h2:=w.size_eq;lia),(by decide),bg,B.ok,by lia,λms R tp sp p hp ag=>?_⟩;refine qw q8 ?_;intro pb bb pa I;have bS:g≠p:=km B.hk hp;have bc:qi L' g (.lst (jc (T++ms))) p=none:=by rw[qb (AF bS)];exact hp
     have sA:qg (qi L' g (.lst (jc (T++ms)))) _:=((By bc).trans (By bb)).trans (By (o:=.lst [qj R,.ref pb]) I);have bi:pb≠pa:=km q8 I;have bj:qi L' g (.lst (jc (T++ms))) pb=none:=(By bc).none bb;have bn:qi L' g (.lst (jc (T++ms))) pa=none:=((By bc).trans (By bb)).none I;have ea:qi (qi (qi (qi L' g (.lst (jc (T++ms)))) p (.lst [qj R,.int (tp:Int),.int (sp:Int)])) pb (.lst [.int (tp:Int),.int (sp:Int)])) pa (.lst [qj R,.ref pb]) pa=some (.lst [qj R,.ref pb]):=q8;have eb:qi (qi (qi (qi L' g (.lst (jc (T++ms)))) p (.lst [qj R,.int (tp:Int),.int (sp:Int)])) pb (.lst [.int (tp:Int),.int (sp:Int)])) pa (.lst [qj R,.ref pb]) pb=some (.lst (ze [tp,sp])):=by rw[qb bi];exact q8
     refine⟨ms,⟨pa,pb,R,[tp,sp]⟩,tp,rest,_,_,_,_,rfl,?_,sA _ _ (by rw[qb (AF B.nkf)];exact C),Ak ..,ag.wt,by have:=ag.len;lia,Aj _⟩;generalize qi (qi (qi (qi L' g (.lst (jc (T++ms)))) p (.lst [qj R,.int (tp:Int),.int (sp:Int)])) pb (.lst [.int (tp:Int),.int (sp:Int)])) pa (.lst [qj R,.ref pb])=LF at sA ea eb;have keep:∀z o,z≠g->L' z=some o->LF z=some o:=λz o n e=>sA _ _ (by rw[qb n];exact e);have st:=bU.step (L':=LF) (old:=[]) (rest:=J::rest) (ms:=ms) (t':=⟨pa,pb,R,[tp,sp]⟩) B (sA _ _ q8) ⟨ea,eb⟩ (λt ht=>?_) (λz o e=>?_) ?_ (λz hz=>?_) ag.ok ag.sr ?_
     ·exact st.perm ((BP _ _).trans (List.Perm.swap _ _ _))
     ·obtain⟨n1,n2,n3,n4⟩:=B.nk t ht;obtain⟨h1,h2⟩:=B.ht t ht;rw[h1,h2];exact⟨keep _ _ n3 h1,keep _ _ n4 h2⟩
     ·exact keep _ _ (λz=>by rw[z,B.fr g (by simp)] at e;cases e) (B.sub _ _ e)
     ·have:=vA (L:=qi L' g (.lst (jc (T++ms)))) B.ad (λz hz=>?_) bn bj (AF bi)
      ·rw[Az];simpa[Tr.ads] using this
      ·by_cases c:z=g
       ·rw[c];exact⟨_,q8⟩
       ·rw[qb c];rcases Ao.mp hz with rfl|hz
        ·exact absurd rfl c
        ·rcases Ao.mp hz with rfl|hz
         ·exact⟨_,C⟩
         ·exact B.exs z hz
     ·have hz:z=pa\/z=pb:=by simpa[Tr.ads] using hz
      cases e:L0 z with
      |none=>rfl
      |some o=>
       have n:z≠g:=λz'=>by rw[z',B.fr g (by simp)] at e;cases e
       have:=B.sub _ _ e;have e2:qi L' g (.lst (jc (T++ms))) z=some o:=by rw[qb n];exact this
       rcases hz with rfl|rfl
       ·rw[bn] at e2;cases e2
       ·rw[bj] at e2;cases e2
     ·rw[List.flatMap_nil,AX];exact(A6 ag.nd Du).mpr λz=>by rw[ag.tm,CT]
  case' inr=>
   refine⟨CJ L0 g fa T one two J x w rest.length,?_,?_⟩
   ·refine qc C (qw C ⟨rest.map fG,fG u,120,120,j,by decide,?_,?_,?_,⟨fG u,?_,zC u⟩,λk d hk ek=>?_,?_⟩)
    ·have dd:∀l:List Tr,(∀t∈l,t∈J::rest)->Paired (jd L' 120) (zj l) (l.map fG):=λl=>by
      induction l with
      |nil=>intro _;exact .nil
      |cons t r ih=>
       intro h;have mt:=h t (Ak ..);obtain⟨h1,h2⟩:=B.ht t mt;have:=B.rd mt;exact .cons (pj (n:=118) h1 h2 (by lia)) (ih λt ht=>h t (Ae _ ht))
     exact dd rest λt ht=>Ae _ ht
    ·have mt:u∈J::rest:=Ae _ (AD hj);obtain⟨h1,h2⟩:=B.ht u mt;have:=B.rd mt;exact pj (n:=118) h1 h2 (by omega)
    ·rw[Ab];exact(AL.mp hj).1
    ·rw[An,hj];rfl
    ·rw[An] at ek;obtain⟨v,ev,rfl⟩:=Ap.mp ek;cases c:Da.eq (fG v) (fG u) with
     |false=>rfl
     |true=>
      have:=B.one (i:=k+1) (j:=j+1) (by simpa using ev) (by simpa using hj) (agu c);lia
    ·rw[mL];have B2:=(B.perm ((x5 hj).cons _)).setF (.lst (zj (rest.eraseIdx j)));exact⟨[],u,q0,rest.eraseIdx j,_,_,_,_,rfl,(AX T).symm▸B2,q8,aL,(AX T).symm▸ba,Bf _,CM ..⟩
  all_goals
   rintro di L' ⟨ms,u,q0,U,c9,gD,c11,c12,rfl,B',hf,aL,ba,dj,dp⟩;have m1:J∈J::u::U:=by simp
   have m2:u∈J::u::U:=by simp
   obtain⟨a5,al⟩:=B'.ht J m1;obtain⟨bd,cb⟩:=B'.ht u m2;have au:=bD B' m1;have cc:=bD B' m2;rw[Ac] at au cc;refine qc a5 (qc bd ⟨_,_,al,cb,small (by rw[Ab,Ab];omega),λpp bp=>?_⟩);have en:ze J.E++ze u.E=ze (J.E++u.E):=by unfold ze;rw[Am]
   rw[en];refine ad0 (E:=J.E++u.E) (l:=x) (r:=q0) (k:=14) q8 (by rw[Ac];omega) (λy' Q' h=>h) (λ_=>rfl) λpe bq=>?_;have s4:qg L' (qi (qi L' pp (.lst (ze (J.E++u.E)))) pe (.lst (ze ((J.E++u.E).filter λz=>!decide (z=x\/z=q0))))):=(By bp).trans (By bq);have br:qi (qi L' pp (.lst (ze (J.E++u.E)))) pe (.lst (ze ((J.E++u.E).filter λz=>!decide (z=x\/z=q0)))) pe=some (.lst (ze (xo J.E u.E x q0))):=q8;have bu:L' pe=none:=(By bp).none bq;generalize qi (qi L' pp (.lst (ze (J.E++u.E)))) pe (.lst (ze ((J.E++u.E).filter λz=>!decide (z=x\/z=q0))))=L4 at s4 br;have done:∀(R:Ru) pa,L4 pa=none->(R=.cu x q0 J.R u.R\/R=.cu q0 x u.R J.R)->Q .non (qi (qi L4 pa (.lst [qj R,.ref pe])) fa (.lst (zj U++[.ref pa]))):=λR pa I hR=>by
    have er:zj U++[.ref pa]=zj (U++[⟨pa,pe,R,xo J.E u.E x q0⟩]):=by unfold zj;rw[Am];rfl
    rw[er];exact q _ (T++ms) (U++[⟨pa,pe,R,xo J.E u.E x q0⟩]) ⟨(aah B' hf hx aL (hw.more ms) ba s4 bu br I hR).setF _,q8⟩ (by rw[Ac];omega) (by simp) (by rw[Ac];simp;omega)
   refine⟨(by show(0:Int)<2;decide),?_⟩;show wc (decide (one % 2=0)) _ _;refine x0 (λc=>?_) λc=>?_
   ·refine qc (s4 _ _ hf) (qc (s4 _ _ a5) (qc (s4 _ _ bd) λpa I=>?_));refine qw (By I _ _ (s4 _ _ hf)) ⟨big _ (by rw[a4];omega),?_⟩;exact jw (done _ pa I (.inl rfl))
   ·refine qc (s4 _ _ hf) (qc (s4 _ _ bd) (qc (s4 _ _ a5) λpa I=>?_));refine qw (By I _ _ (s4 _ _ hf)) ⟨big _ (by rw[a4];omega),?_⟩;exact jw (done _ pa I (.inr rfl))
theorem oA.mono{fa:Addr}(h:oA L0 L ka fa ks fo)(s:qg L L'):oA L0 L' ka fa ks fo:=⟨h.b.mono s,s _ _ h.hf⟩
theorem bU.plus{U:qr}{fa:Addr}{ms:List Kn}{t':Tr}{fs:LO}(B:bU L0 L ka fa ks rest)(C:L fa=some fs)(sA:qg (qi L ka (.lst (jc (ks++ms)))) U)(I:U t'.a=some (.lst [qj t'.R,.ref t'.b]))(T:U t'.b=some (.lst (ze t'.E)))
 (g:qi L ka (.lst (jc (ks++ms))) t'.a=none) (j:qi L ka (.lst (jc (ks++ms))) t'.b=none) (p:t'.a≠t'.b) (ok:cY (ks++ms)) (sr:SR (ks++ms) t'.R t'.E) (tm:∀x,x∈qp t'.R↔ks.length<=x/\x<ks.length+ms.length) (nd:(qp t'.R).Nodup):
 bU L0 U ka fa (ks++ms) (rest++[t']):=by
 have keep:∀z o,z≠ka->L z=some o->U z=some o:=λz o n e=>sA _ _ (by rw[qb n];exact e);refine bU.step (old:=[]) (rest:=rest) (ms:=ms) (t':=t') B (sA _ _ q8) ⟨I,T⟩ (λt r=>?_) (λz o e=>?_) ?_ (λz J=>?_) ok sr ?_
 ·obtain⟨n1,n2,n3,n4⟩:=B.nk t r;obtain⟨h1,h2⟩:=B.ht t r;rw[h1,h2];exact⟨keep _ _ n3 h1,keep _ _ n4 h2⟩
 ·exact keep _ _ (λz=>by rw[z,B.fr ka (by simp)] at e;cases e) (B.sub _ _ e)
 ·have:=vA (L:=qi L ka (.lst (jc (ks++ms)))) B.ad (λz J=>?_) g j p
  ·rw[Az];simpa[Tr.ads] using this
  ·by_cases c:z=ka
   ·rw[c];exact⟨_,q8⟩
   ·rw[qb c];rcases Ao.mp J with rfl|J
    ·exact absurd rfl c
    ·rcases Ao.mp J with rfl|J
     ·exact⟨_,C⟩
     ·exact B.exs z J
 ·have J:z=t'.a\/z=t'.b:=by simpa[Tr.ads] using J
  cases e:L0 z with
  |none=>rfl
  |some o=>
   have n:z≠ka:=λz'=>by rw[z',B.fr ka (by simp)] at e;cases e
   have:=B.sub _ _ e;have l:qi L ka (.lst (jc (ks++ms))) z=some o:=by rw[qb n];exact this
   rcases J with rfl|rfl
   ·rw[g] at l;cases l
   ·rw[j] at l;cases l
 ·rw[List.flatMap_nil,AX];exact(A6 nd Du).mpr λz=>by rw[tm,CT]
theorem oA.link{fa:Addr}(F:oA L0 L ka fa ks fo){nm:Str}(l:df nm)(b:Bool){pb:Addr}(U:qi L ka (.lst (jc (ks++[.lf b nm,.lf (!b) nm]))) pb=none)
 (g:qi (qi L ka (.lst (jc (ks++[.lf b nm,.lf (!b) nm])))) pb (.lst (ze [ks.length,ks.length+1])) pa=none) {fs:List Y} (j:fs=zj fo++[.ref pa]):
 oA L0 (qi (qi (qi (qi L ka (.lst (jc (ks++[.lf b nm,.lf (!b) nm])))) pb (.lst (ze [ks.length,ks.length+1]))) pa (.lst [qj (.link ks.length (ks.length+1)),.ref pb])) fa (.lst fs)) ka fa (ks++[.lf b nm,.lf (!b) nm]) (fo++[⟨pa,pb,.link ks.length (ks.length+1),[ks.length,ks.length+1]⟩]):=by
 have J:pb≠pa:=km q8 g;have M:=sR F.b.ok (t:=!b) l;rw[Bool.not_not] at M;refine⟨(bU.plus F.b F.hf ((By U).trans (By g)) q8 (by rw[qb J];exact q8) ((By U).none g) U (AF J) M.ok M.sr M.tm M.nd).setF _,?_⟩;rw[q8,j];unfold zj;rw[Am];rfl
theorem bU.dats{fa:Addr}(h:bU L0 L ka fa ks fo)(j:ks.length<=120):Paired (jd L 124) (zj fo) (fo.map fG):=by
 have U:∀l:List Tr,(∀t∈l,t∈fo)->Paired (jd L 124) (zj l) (l.map fG):=λl=>by
  induction l with
  |nil=>intro _;exact .nil
  |cons t r g=>
   intro k;have mt:=k t (Ak ..);obtain⟨h1,h2⟩:=h.ht t mt;have:=h.rd mt;exact .cons (pj (n:=122) h1 h2 (by lia)) (g λt J=>k t (Ae _ J))
 exact U fo λt J=>J
theorem wU(fo:List Tr):Da.eqs (fo.map fG) []=decide (fo=[]):=by cases fo<;>rfl
def TW(L0:qr)(ka fa:Addr)(s:Int)(room:Nat)(τ:jo)(L:qr):Prop:=∃c0 c5 c6 c7 c8 c9 gD ks fo,τ=[c0,some (.int s),some (.int (room:Int)),some (.ref ka),some (.ref fa),c5,c6,c7,c8,c9,gD]/\oA L0 L ka fa ks fo/\ks.length+fo.length<=room
theorem TW.of{fa:Addr}{s:Int}{room:Nat}{c0 c5 c6 c7 c8 c9 gD:Option Y}(F:oA L0 L ka fa ks fo)(h:ks.length+fo.length<=room):TW L0 ka fa s room [c0,some (.int s),some (.int (room:Int)),some (.ref ka),some (.ref fa),c5,c6,c7,c8,c9,gD] L:=⟨_,_,_,_,_,_,_,ks,fo,rfl,F,h⟩
structure ajl(L0:qr)(ks:List (Option Kn))(qs:List Nat)(d w D:Addr)(i ex:Nat)(f:Nat->Nat)(wd:List (Option Kn))(kvs:List (jf×Y))(L:qr):Prop where
 sub:qg L0 L
 hd:L d=some (.dct kvs)
 hw:L w=some (.lst (a7 wd))
 hD:L D=some (.lst (nY qs))
 len:kvs.length<=i
 val:∀p:Nat,kq kvs (.inl (p:Int))=if p∈qs.take i then some (.int (f p:Int)) else none
 gap:Gap ks (qs.take i) f wd
 wlen:wd.length<=2*i+ex
structure Ren(f:Nat->Nat)(ks wd:List (Option Kn)):Prop where
 gap:Gap ks (List.range ks.length) f wd
 len:wd.length<=2*ks.length+1
theorem tE(wd:List (Option Kn))(k:Option Kn):a7 wd++[uB k]=a7 (wd++[k]):=by unfold a7;rw[Am];rfl
theorem vR(wd:List (Option Kn)):(a7 wd).length=wd.length:=Ab ..
def ke:Ru->List (Nat×Nat)
 |.link p q=>[(p,q)]
 |.ei _ A=>ke A
 |.bo _ A B=>ke A++ke B
 |.cu _ _ A B=>ke A++ke B
def jr:Ru->List (Nat×Nat)
 |.link _ _=>[]
 |.ei _ A=>jr A
 |.bo _ A B=>jr A++jr B
 |.cu p q A B=>(p,q)::(jr A++jr B)
def xb:Ru->Nat
 |.link _ _=>1
 |.ei _ A=>xb A+1
 |.bo _ A B=>xb A+xb B+1
 |.cu _ _ A B=>xb A+xb B+1
def qk:Ru->List Ru
 |.link _ _=>[]
 |.ei _ A=>[A]
 |.bo _ A B=>[A,B]
 |.cu _ _ A B=>[A,B]
def tM:Ru->List (Nat×Nat)
 |.link p q=>[(p,q)]
 |_=>[]
def sk:Ru->List (Nat×Nat)
 |.cu p q _ _=>[(p,q)]
 |_=>[]
theorem vB(A:Ru):ke A=tM A++(qk A).flatMap ke:=by cases A<;>simp[ke,tM,qk]
theorem ye(A:Ru):jr A=sk A++(qk A).flatMap jr:=by cases A<;>simp[jr,sk,qk]
theorem gg(A:Ru):((qk A).map xb).sum+1=xb A:=by cases A<;>simp[xb,qk]
theorem wX(A:Ru):0<xb A:=by cases A<;>simp[xb]
theorem v5{A:Ru}(h:B∈qk A):zp B<zp A:=by cases A<;>simp[qk] at h<;>(try rcases h with rfl|rfl)<;>(try subst h)<;>simp[zp]<;>omega
structure ix(R:Ru)(lk ct:List (Nat×Nat))(st:List Ru):Prop where
 pl:(lk++st.flatMap ke).Perm (ke R)
 pc:(ct++st.flatMap jr).Perm (jr R)
 sz:(st.map xb).sum<=xb R
 dp:∀A∈st,zp A<=zp R
theorem ix.start(R:Ru):ix R [] [] [R]:=⟨by simp,by simp,by simp,λA J=>by simp at J;subst J;exact Aj _⟩
theorem ix.step{A:Ru}{lk ct:List (Nat×Nat)}{st:List Ru}(h:ix R lk ct (st++[A])):ix R (lk++tM A) (ct++sk A) (st++qk A):=by
 have pm:∀{X U V W:List (Nat×Nat)},(X++U++(V++W)).Perm (X++(V++(U++W))):=λ{X U V W}=>by rw[AR];refine List.Perm.append_left X ?_;rw[<-AR,<-AR];exact List.Perm.append_right W List.perm_append_comm
 refine⟨?_,?_,?_,λB J=>?_⟩
 ·refine List.Perm.trans ?_ h.pl;rw[Az,Az];have:[A].flatMap ke=tM A++(qk A).flatMap ke:=by rw[<-vB];simp
  rw[this];exact pm
 ·refine List.Perm.trans ?_ h.pc;rw[Az,Az];have:[A].flatMap jr=sk A++(qk A).flatMap jr:=by rw[<-ye];simp
  rw[this];exact pm
 ·have:=h.sz;have:=gg A;simp at *;lia
 ·rcases Aq.mp J with J|J
  ·exact h.dp B (Ar _ J)
  ·have:=v5 J;have:=h.dp A (Ah _ (Ai.mpr rfl));exact amt
theorem o9(l:List (Nat×Nat))(p:Nat×Nat):mR l++[prN p]=mR (l++[p]):=by unfold mR;rw[Am];rfl
theorem gB(st:List Ru):Da.eqs (st.map aj) []=decide (st=[]):=by cases st<;>rfl
theorem aK{L:qr}{n:Nat}:∀{st:List Ru},(∀A∈st,zp A<=n)->Paired (jd L n) (st.map qj) (st.map aj)
 |[],_=>.nil
 |A::r,h=>.cons (cw (h A (Ak ..))) (aK λB J=>h B (Ae _ J))
theorem ag4(a b:Nat):decide ((a:Int)=(b:Int))=decide (a=b):=by
 by_cases c:a=b
 ·rw[AE c];exact AE (by lia)
 ·rw[Au c];exact Au (by lia)
open Classical in
def aN(lk:List (Nat×Nat)):List Nat:=lk.flatMap λx=>[x.1,x.2]
theorem da(a b:List (Nat×Nat)):aN (a++b)=aN a++aN b:=by unfold aN;rw[Az]
theorem aa7(x:Nat×Nat):aN [x]=[x.1,x.2]:=by simp[aN]
theorem ali{f:Option Kn->Bool}{ks:List (Option Kn)}{p:Nat}{k:Option Kn}(h:ks[p]?=some k)(J:f k=true)(hi:p<i):p∈whr f ks i:=by unfold whr;refine AU.mpr ⟨Bb.mpr hi,?_⟩;simp only[h];exact J
theorem jE{α J:Type}{R:α->J->Prop}:∀{xs:List α} {ys:List J} {x:α} {y:J},Paired R xs ys->R x y->Paired R (xs++[x]) (ys++[y])
 |_,_,_,_,.nil,r=>.cons r .nil
 |_,_,_,_,.cons a t,r=>.cons a (jE t r)
theorem pX(m:Nat)(l:List Nat):u3 (f9 (.int (m:Int))) ((nY l).map f9)=decide (m∈l):=by
 induction l with
 |nil=>rfl
 |cons n r J=>
  have e:u3 (f9 (.int (m:Int))) ((nY (n::r)).map f9)=(iN (f9 (.int (n:Int))) (f9 (.int (m:Int)))||u3 (f9 (.int (m:Int))) ((nY r).map f9)):=rfl;rw[e,J];have U:iN (f9 (.int (n:Int))) (f9 (.int (m:Int)))=decide (n=m):=ag4 n m;rw[U];by_cases c:n=m
  ·subst c;simp
  ·by_cases d:m∈r
   ·simp[d]
   ·simp[c,d,AF c]
theorem qB(l:List Nat):(nY l).all fS=true:=by rw[BC];intro y J;obtain⟨n,_,rfl⟩:=AW.mp J;rfl
theorem oZ(c:Nat×Nat)(r:List (Nat×Nat)):aN (c::r)=c.1::c.2::aN r:=by
 have e:aN (c::r)=[c.1,c.2]++aN r:=by rw[<-aa7,<-da];rfl
 rw[e];rfl
theorem wf:∀R:Ru,xb R+1<=(qp R).length
 |.link _ _=>Aj _
 |.ei r A=>by have:=wf A;show xb A+1+1<=(r::qp A).length;rw[AJ];exact als
 |.bo r A B=>by have:=wf A;have:=wf B;show xb A+xb B+1+1<=(r::(qp A++qp B)).length;rw[AJ,Ac];lia
 |.cu _ _ A B=>by have:=wf A;have:=wf B;show xb A+xb B+1+1<=(qp A++qp B).length;rw[Ac];lia
theorem adh(ok:cY ks):OkO (ks.map some):=by intro p e i j h;rw[An] at h;obtain⟨k,J,U⟩:=Ap.mp h;cases U;exact ok p _ J
theorem aY(ks:List Kn):a7 (ks.map some)=jc ks:=by show(ks.map some).map uB=ks.map mJ;rw[BM];rfl
theorem KW.lf{p:Nat}{n:Str}(h:wd[p]?=some (some (.lf t n))):KW (a7 wd) p (.leaf t n):=by show(a7 wd)[p]?=_;rw[An,h];rfl
theorem KW.nd{p:Nat}{e:Bool}{l r:Wd}(h:wd[p]?=some (some (.nd e i j)))(J:KW (a7 wd) i l)(U:KW (a7 wd) j r):KW (a7 wd) p (.node e l r):=
 ⟨i,j,by rw[An,h];rfl,J,U⟩
theorem xO{k:Kn}{n:Str}(h:mJ k=.tup [.str (kL t),.str n]):k=.lf t n:=by
 cases k with
 |lf u m=>
  have h1:kL u=kL t:=by injection h with h;injection h with h _;injection h
  have h2:m=n:=by injection h with h;injection h with _ h;injection h with h _;injection h
  subst h2;cases u<;>cases t<;>first|rfl|(exfalso;revert h1;decide)
 |nd e i j=>injection h with h;injection h with _ h;injection h with _ h;cases h
theorem ym{k:Kn}{e:Bool}(h:mJ k=.tup [.str (kN e),.int (i:Int),.int (j:Int)]):k=.nd e i j:=by
 cases k with
 |lf u m=>injection h with h;injection h with _ h;injection h with _ h;cases h
 |nd b J U=>
  have h1:kN b=kN e:=by injection h with h;injection h with h _;injection h
  have h2:((J:Nat):Int)=i:=by injection h with h;injection h with _ h;injection h with h _;injection h
  have h3:((U:Nat):Int)=j:=by injection h with h;injection h with _ h;injection h with _ h;injection h with h _;injection h
  have h2:=Dz.mp h2;have h3:=Dz.mp h3;subst h2 h3;cases b<;>cases e<;>first|rfl|(exfalso;revert h1;decide)
theorem abz{p:Nat}(h:(a7 wd)[p]?=some y):∃o,wd[p]?=some o/\uB o=y:=by rw[An] at h;obtain⟨o,a,b⟩:=Ap.mp h;exact⟨o,a,b⟩
theorem KW.inv_lf{p:Nat}{n:Str}(h:KW (a7 wd) p (.leaf t n)):wd[p]?=some (some (.lf t n)):=by
 obtain⟨o,a,b⟩:=abz (show(a7 wd)[p]?=some (.tup [.str (kL t),.str n]) from h);cases o with
 |none=>cases b
 |some k=>rw[a,xO b]
theorem KW.inv_nd{p:Nat}{e:Bool}{l r:Wd}(h:KW (a7 wd) p (.node e l r)):∃i j,wd[p]?=some (some (.nd e i j))/\KW (a7 wd) i l/\KW (a7 wd) j r:=by
 obtain⟨i,j,h1,h2,h3⟩:=h;obtain⟨o,a,b⟩:=abz h1;cases o with
 |none=>cases b
 |some k=>exact⟨i,j,by rw[a,ym b],h2,h3⟩
theorem Ren.inv{f:Nat->Nat}(r:Ren f vb wd){x:Nat}{k:Kn}(h:wd[x]?=some (some k)):∃p,p<vb.length/\x=f p/\∃o,vb[p]?=some o/\iP f o=some k:=by obtain⟨p,J,e⟩:=r.gap.only x k h;have J:=Bb.mp J;have:=r.gap.at_ p (Bb.mpr J) _ (Af J);rw[<-e,h] at this;exact⟨p,J,e,_,Af J,(AN this).symm⟩
theorem Ren.word{f:Nat->Nat}(r:Ren f vb wd):∀{w:Wd} {p:Nat},KW (a7 vb) p w->KW (a7 wd) (f p) w
 |.leaf t n,p,h=>by have e:=h.inv_lf;exact KW.lf (r.gap.at_ p (Bb.mpr (jy e)) _ e)
 |.node b l rr,p,h=>by obtain⟨i,j,e,J,U⟩:=h.inv_nd;exact KW.nd (r.gap.at_ p (Bb.mpr (jy e)) _ e) (r.word J) (r.word U)
def iZ(ks:List Kn)(l:List Nat):List Nat:=l.flatMap λp=>kw ks[p]?
theorem kC(ks:List Kn)(a b:List Nat):iZ ks (a++b)=iZ ks a++iZ ks b:=by unfold iZ;rw[Az]
theorem aW(ks:List Kn)(x:Nat)(l:List Nat):iZ ks (x::l)=kw ks[x]?++iZ ks l:=AS ..
theorem cV{E:List Nat}(h:E.Nodup)(hi:i∈E):E.Perm ([i]++E.filter λx=>!decide (x=i)):=by
 refine(A6 h ?_).mpr λx=>?_
 ·refine AA.mpr ⟨λz=>?_,h.filter _⟩;have:=(AU.mp z).2;simp at this
 ·rw[Aq,Ai,AU];constructor
  ·intro J;by_cases c:x=i
   ·exact .inl c
   ·exact .inr ⟨J,by simp[c]⟩
  ·rintro(rfl|J)
   ·exact hi
   ·exact J.1
theorem SR.part{E:List Nat}(h:SR ks R E):(qp R).Nodup->(iZ ks (qp R)++(aN (jr R)++E)).Perm (qp R):=by
 induction h with
 |@link p q t n g h1 h2 h3 C I=>
  intro _;have e:iZ ks [p,q]=[]:=by rw[aW,aW,h2,h3];rfl
  show(iZ ks [p,q]++([]++g)).Perm [p,q];rw[e,CF,CF];refine(A6 I (by simp;lia)).mpr λx=>?_;rw[C x];simp
 |@ei r i j A l g h1 T h3 C I h6 h7 ih=>
  intro nd;obtain⟨n1,n2⟩:=AA.mp nd;have ih:=ih n2;have o:l.Nodup:=(Ax.mp (Ax.mp (ih.nodup_iff.mpr n2)).2.1).2.1;have p1:=cV o h3;have p2:(l.filter λx=>!decide (x=i)).Perm _:=cV (o.filter _) (i:=j) (AU.mpr ⟨C,by simp;exact AF I⟩);have p3:g.Perm ([r]++(l.filter λx=>!decide (x=i)).filter λx=>!decide (x=j)):=by
   refine(A6 h7 (AA.mpr ⟨λz=>n1 (T.sub _ (AU.mp (AU.mp z).1).1),(o.filter _).filter _⟩)).mpr λx=>?_;rw[h6 x,Ao,AU,AU];simp only[Cs,decide_eq_false_iff_not];constructor
   ·rintro(⟨a,b,c⟩|rfl)
    ·exact .inr ⟨⟨a,b⟩,c⟩
    ·exact .inl rfl
   ·rintro(rfl|⟨⟨a,b⟩,c⟩)
    ·exact .inr rfl
    ·exact .inl ⟨a,b,c⟩
  show(iZ ks (r::qp A)++(aN (jr A)++g)).Perm ([r]++qp A);rw[aW,h1];show((([i]++[j])++iZ ks (qp A))++(aN (jr A)++g)).Perm _;refine Bz.mpr λa=>?_;have c1:=p1.count_eq a;have c2:=p2.count_eq a;have c3:=p3.count_eq a;have c4:=ih.count_eq a;simp only[BI] at c1 c2 c3 c4 ⊢;lia
 |@bo r i j A B l EB g h1 T hB C I h6 h7 J U=>
  intro nd;obtain⟨n1,n2⟩:=AA.mp nd;obtain⟨m1,m2,m3⟩:=Ax.mp n2;have J:=J m1;have U:=U m2;have o:l.Nodup:=(Ax.mp (Ax.mp (J.nodup_iff.mpr m1)).2.1).2.1;have nB:EB.Nodup:=(Ax.mp (Ax.mp (U.nodup_iff.mpr m2)).2.1).2.1;have p1:=cV o C;have p2:=cV nB I;have p3:g.Perm ([r]++((l.filter λx=>!decide (x=i))++EB.filter λx=>!decide (x=j))):=by
   refine(A6 h7 (AA.mpr ⟨λz=>n1 ?_,Ax.mpr ⟨o.filter _,nB.filter _,λa ha b hb=>m3 a (T.sub _ (AU.mp ha).1) b (hB.sub _ (AU.mp hb).1)⟩⟩)).mpr λx=>?_
   ·rcases Aq.mp z with z|z
    ·exact Ar _ (T.sub _ (AU.mp z).1)
    ·exact Ah _ (hB.sub _ (AU.mp z).1)
   ·rw[h6 x,Ao,Aq,AU,AU];simp only[Cs,decide_eq_false_iff_not];constructor
    ·rintro(a|a|rfl)
     ·exact .inr (.inl a)
     ·exact .inr (.inr a)
     ·exact .inl rfl
    ·rintro(rfl|a|a)
     ·exact .inr (.inr rfl)
     ·exact .inl a
     ·exact .inr (.inl a)
  show(iZ ks (r::(qp A++qp B))++(aN (jr A++jr B)++g)).Perm ([r]++(qp A++qp B));rw[aW,h1,kC,da];show((([i]++[j])++(iZ ks (qp A)++iZ ks (qp B)))++((aN (jr A)++aN (jr B))++g)).Perm _;refine Bz.mpr λa=>?_;have c1:=p1.count_eq a;have c2:=p2.count_eq a;have c3:=p3.count_eq a;have c4:=J.count_eq a;have c5:=U.count_eq a;simp only[BI] at c1 c2 c3 c4 c5 ⊢;lia
 |@cu p q A B l EB g w T hB h3 C I h6 h7 h8 J U=>
  intro n2;obtain⟨m1,m2,m3⟩:=Ax.mp (show(qp A++qp B).Nodup from n2);have J:=J m1;have U:=U m2;have o:l.Nodup:=(Ax.mp (Ax.mp (J.nodup_iff.mpr m1)).2.1).2.1;have nB:EB.Nodup:=(Ax.mp (Ax.mp (U.nodup_iff.mpr m2)).2.1).2.1;have p1:=cV o h3;have p2:=cV nB C;have p3:g.Perm ((l.filter λx=>!decide (x=p))++EB.filter λx=>!decide (x=q)):=by refine(A6 h8 (Ax.mpr ⟨o.filter _,nB.filter _,λa ha b hb=>m3 a (T.sub _ (AU.mp ha).1) b (hB.sub _ (AU.mp hb).1)⟩)).mpr λx=>?_;rw[h7 x,Aq,AU,AU];simp only[Cs,decide_eq_false_iff_not]
  show(iZ ks (qp A++qp B)++(aN ((p,q)::(jr A++jr B))++g)).Perm (qp A++qp B);rw[kC,oZ,da];show((iZ ks (qp A)++iZ ks (qp B))++(([p]++[q]++(aN (jr A)++aN (jr B)))++g)).Perm _;refine Bz.mpr λa=>?_;have c1:=p1.count_eq a;have c2:=p2.count_eq a;have c3:=p3.count_eq a;have c4:=J.count_eq a;have c5:=U.count_eq a;simp only[BI] at c1 c2 c3 c4 c5 ⊢;lia
theorem Ren.inj{f:Nat->Nat}(r:Ren f vb wd){a b:Nat}(J:a<vb.length)(U:b<vb.length)(e:f a=f b):a=b:=r.gap.inj a (Bb.mpr J) b (Bb.mpr U) e
theorem iS{f:Nat->Nat}:∀{l:List Nat},l.Nodup->(∀a∈l,∀b∈l,f a=f b->a=b)->(l.map f).Nodup
 |[],_,_=>List.nodup_nil
 |a::r,h,g=>by obtain⟨h1,h2⟩:=AA.mp h;rw[AK,AA];refine⟨λz=>?_,iS h2 λx U y j=>g x (Ae _ U) y (Ae _ j)⟩;obtain⟨b,J,e⟩:=AW.mp z;exact h1 (g b (Ae _ J) a (Ak ..) e▸J)
def oQ(f:Nat->Nat):Ru->Ru
 |.link p q=>.link (min (f p) (f q)) (max (f p) (f q))
 |.ei r A=>.ei (f r) (oQ f A)
 |.bo r A B=>.bo (f r) (oQ f A) (oQ f B)
 |.cu p q A B=>.cu (f p) (f q) (oQ f A) (oQ f B)
theorem cZ(f:Nat->Nat):∀R:Ru,(qp (oQ f R)).Perm ((qp R).map f)
 |.link p q=>by
  show [min (f p) (f q),max (f p) (f q)].Perm [f p,f q];by_cases h:f p<=f q
  ·rw[Cm h,CZ h]
  ·rw[Nat.min_eq_right (by lia),C6 (by lia)];exact List.Perm.swap _ _ _
 |.ei r A=>(cZ f A).cons _
 |.bo r A B=>by show(f r::(qp (oQ f A)++qp (oQ f B))).Perm (f r::(qp A++qp B).map f);rw[Am];exact((cZ f A).append (cZ f B)).cons _
 |.cu p q A B=>by show(qp (oQ f A)++qp (oQ f B)).Perm ((qp A++qp B).map f);rw[Am];exact(cZ f A).append (cZ f B)
theorem qA{x:Nat}{k:Kn}(h:(ks.map some)[x]?=some (some k)):ks[x]?=some k:=by rw[An] at h;obtain⟨J,e,z⟩:=Ap.mp h;cases z;exact e
theorem SR.ren{f:Nat->Nat}(r:Ren f (ks.map some) (ir.map some)){E:List Nat}(h:SR ks R E):SR ir (oQ f R) (E.map f):=by
 have inj:∀{a b:Nat},a<ks.length->b<ks.length->f a=f b->a=b:=λha hb e=>r.inj (by rw[Ab];exact ha) (by rw[Ab];exact hb) e;have a3:∀{p:Nat} {k:Kn},ks[p]?=some k->(ir.map some)[f p]?=some (iP f (some k)):=λ{p k} e=>r.gap.at_ p (Bb.mpr (by rw[Ab];exact jy e)) _ (by rw[An,e];rfl)
 have lf:∀{p:Nat} {t:Bool} {n:Str},ks[p]?=some (.lf t n)->ir[f p]?=some (.lf t n):=λe=>qA (a3 e);have nd:∀{p i j:Nat} {e:Bool},ks[p]?=some (.nd e i j)->ir[f p]?=some (.nd e (f i) (f j)):=λe=>qA (a3 e);have el:∀{A:Ru} {g:List Nat},SR ks A g->∀x∈g,x<ks.length:=λs x l=>s.lt x (s.sub x l);have nod:∀{A:Ru} {g:List Nat},SR ks A g->(g.map f).Nodup:=λs=>iS s.nod λa ha b hb=>inj (el s a ha) (el s b hb);have wd:∀{p:Nat} {w:Wd},dH ks p w->dH ir (f p) w:=λ{p w} hw=>by have:=r.word (w:=w) (p:=p) (by rw[aY];exact hw);rw[aY] at this;exact this
 have rm:∀{A:Ru} {g:List Nat} {i y:Nat},SR ks A g->i∈g->y∈g->y≠i->f y≠f i:=λs hi I ne z=>ne (inj (el s _ I) (el s _ hi) z)
 induction h with
 |@link p q t n E h1 h2 h3 J o=>
  have s:SR ks (.link p q) E:=.link h1 h2 h3 J o;have ne:f p≠f q:=λz=>by have:=inj (jy h2) (jy h3) z;lia
  have me:∀x,x∈E.map f↔x=f p\/x=f q:=λx=>by
   rw[AW];constructor
   ·rintro⟨y,I,rfl⟩;rcases (J y).mp I with rfl|rfl
    ·exact .inl rfl
    ·exact .inr rfl
   ·rintro(rfl|rfl)
    ·exact⟨p,(J p).mpr (.inl rfl),rfl⟩
    ·exact⟨q,(J q).mpr (.inr rfl),rfl⟩
  show SR ir (.link (min (f p) (f q)) (max (f p) (f q))) _;by_cases c:f p<=f q
  ·rw[Cm c,CZ c];exact .link (by lia) (lf h2) (lf h3) me (nod s)
  ·rw[Nat.min_eq_right (by lia),C6 (by lia)];exact .link (by lia) (lf h3) (by rw[Bool.not_not];exact lf h2) (λx=>(me x).trans Or.comm) (nod s)
 |@ei r i j A g E h1 C h3 J o U T ih=>
  have s:SR ks (.ei r A) E:=.ei h1 C h3 J o U T;refine .ei (nd h1) ih (AW.mpr ⟨i,h3,rfl⟩) (AW.mpr ⟨j,J,rfl⟩) (rm C J h3 o) (λx=>?_) (nod s);rw[AW];constructor
  ·rintro⟨y,I,rfl⟩;rcases (U y).mp I with⟨a,b,c⟩|rfl
   ·exact .inl ⟨AW.mpr ⟨y,a,rfl⟩,rm C h3 a b,rm C J a c⟩
   ·exact .inr rfl
  ·rintro(⟨l,b,c⟩|rfl)
   ·obtain⟨y,a,rfl⟩:=AW.mp l;exact⟨y,(U y).mpr (.inl ⟨a,λz=>b (by rw[z]),λz=>c (by rw[z])⟩),rfl⟩
   ·exact⟨r,(U r).mpr (.inr rfl),rfl⟩
 |@bo r i j A B g EB E h1 C hB J o U T a1 a2=>
  have s:SR ks (.bo r A B) E:=.bo h1 C hB J o U T;refine .bo (nd h1) a1 a2 (AW.mpr ⟨i,J,rfl⟩) (AW.mpr ⟨j,o,rfl⟩) (λx=>?_) (nod s);rw[AW];constructor
  ·rintro⟨y,I,rfl⟩;rcases (U y).mp I with⟨a,b⟩|⟨a,b⟩|rfl
   ·exact .inl ⟨AW.mpr ⟨y,a,rfl⟩,rm C J a b⟩
   ·exact .inr (.inl ⟨AW.mpr ⟨y,a,rfl⟩,rm hB o a b⟩)
   ·exact .inr (.inr rfl)
  ·rintro(⟨l,b⟩|⟨l,b⟩|rfl)
   ·obtain⟨y,a,rfl⟩:=AW.mp l;exact⟨y,(U y).mpr (.inl ⟨a,λz=>b (by rw[z])⟩),rfl⟩
   ·obtain⟨y,a,rfl⟩:=AW.mp l;exact⟨y,(U y).mpr (.inr (.inl ⟨a,λz=>b (by rw[z])⟩)),rfl⟩
   ·exact⟨r,(U r).mpr (.inr (.inr rfl)),rfl⟩
 |@cu p q A B g EB E w C hB h3 J o U T h8 a1 a2=>
  have s:SR ks (.cu p q A B) E:=.cu C hB h3 J o U T h8;refine .cu a1 a2 (AW.mpr ⟨p,h3,rfl⟩) (AW.mpr ⟨q,J,rfl⟩) (wd o) (wd U) (λx=>?_) (nod s);rw[AW];constructor
  ·rintro⟨y,I,rfl⟩;rcases (T y).mp I with⟨a,b⟩|⟨a,b⟩
   ·exact .inl ⟨AW.mpr ⟨y,a,rfl⟩,rm C h3 a b⟩
   ·exact .inr ⟨AW.mpr ⟨y,a,rfl⟩,rm hB J a b⟩
  ·rintro(⟨l,b⟩|⟨l,b⟩)
   ·obtain⟨y,a,rfl⟩:=AW.mp l;exact⟨y,(T y).mpr (.inl ⟨a,λz=>b (by rw[z])⟩),rfl⟩
   ·obtain⟨y,a,rfl⟩:=AW.mp l;exact⟨y,(T y).mpr (.inr ⟨a,λz=>b (by rw[z])⟩),rfl⟩
theorem aky{f:Nat->Nat}(ok:cY ks)(r:Ren f (ks.map some) (ir.map some)):cY ir:=λp k e=>by
 have U:(ir.map some)[p]?=some (some k):=by rw[An,e];rfl
 obtain⟨y,l,rfl,o,g,J⟩:=r.inv U;cases k with
 |nd b i j=>exact r.gap.ok _ b i j U
 |lf t n=>
  cases o with
  |none=>cases J
  |some o=>
   cases o with
   |nd b i j=>cases J
   |lf C I=>
    cases J;exact ok y _ (qA g)
structure TrO(ks:List Kn)(R:Ru)(E:List Nat):Prop where
 ok:cY ks
 sr:SR ks R E
 nd:(qp R).Nodup
 len:ks.length<=96
theorem TrO.ren{f:Nat->Nat}{E:List Nat}(ok:cY ks)(J:SR ks R E)(tp:(qp R).Perm (List.range ks.length))(o:ks.length<=96)(r:Ren f (ks.map some) (ir.map some))(l:ir.length=ks.length):TrO ir (oQ f R) (E.map f)/\(qp (oQ f R)).Perm (List.range ir.length):=by have S:=J.ren r;have nd:(qp (oQ f R)).Nodup:=(cZ f R).nodup_iff.mpr (iS (tp.nodup_iff.mpr B4) λa g b j e=>r.inj (by rw[Ab];exact J.lt a g) (by rw[Ab];exact J.lt b j) e);refine⟨⟨aky ok r,S,nd,by lia⟩,(A6 nd B4).mpr λx=>⟨λh=>Bb.mpr (S.lt x h),λh=>?_⟩⟩;have h:=Bb.mp h;obtain⟨y,U,e⟩:=r.gap.only x ir[x] (by rw[An,Af h];rfl);rw[Ab] at U;exact(cZ f R).mem_iff.mpr (AW.mpr ⟨y,tp.mem_iff.mpr U,e.symm⟩)
def bF:Ru->List Nat
 |.link p q=>[p,q]
 |.ei r _=>[r]
 |.bo r _ _=>[r]
 |.cu _ _ _ _=>[]
theorem eX(A:Ru):qp A=bF A++(qk A).flatMap qp:=by cases A<;>simp[qp,bF,qk]
def xm:Ru->List Ru
 |.link p q=>[.link p q]
 |.ei r A=>.ei r A::xm A
 |.bo r A B=>.bo r A B::(xm A++xm B)
 |.cu p q A B=>.cu p q A B::(xm A++xm B)
theorem aF(A:Ru):xm A=A::(qk A).flatMap xm:=by cases A<;>simp[xm,qk]
theorem bJ:∀A:Ru,(xm A).length=xb A
 |.link _ _=>rfl
 |.ei _ A=>by show(xm A).length+1=_;rw[bJ A];rfl
 |.bo _ A B=>by show(xm A++xm B).length+1=_;rw[Ac,bJ A,bJ B];rfl
 |.cu _ _ A B=>by show(xm A++xm B).length+1=_;rw[Ac,bJ A,bJ B];rfl
def k6(ks:List Kn):Ru->List (List Nat)
 |.link _ _=>[]
 |.ei r _=>[kw ks[r]?]
 |.bo r _ _=>(kw ks[r]?).map λx=>[x]
 |.cu p q _ _=>[[p],[q]]
def aoc(ks:List Kn)(B:Ru)(t:List Nat):Prop:=∃J,SR ks B J/\∀x∈t,x∈J
theorem SR.arms{E:List Nat}(h:SR ks R E):Paired (aoc ks) (qk R) (k6 ks R):=by
 cases h with
 |link=>exact .nil
 |@ei r i j A U _ h1 g h3 l=>
  show Paired _ [A] [kw ks[r]?];rw[h1];refine .cons ⟨U,g,λx J=>?_⟩ .nil;have J:x∈[i,j]:=J;rcases Ao.mp J with rfl|J
  ·exact h3
  ·rw[Ai.mp J];exact l
 |@bo r i j A B U o _ h1 g t l C=>
  show Paired _ [A,B] ((kw ks[r]?).map λx=>[x]);rw[h1];exact .cons ⟨U,g,λx J=>by rw[Ai.mp J];exact l⟩ (.cons ⟨o,t,λx J=>by rw[Ai.mp J];exact C⟩ .nil)
 |@cu p q A B U o _ w g t h3 l=>
  exact .cons ⟨U,g,λx J=>by rw[Ai.mp J];exact h3⟩ (.cons ⟨o,t,λx J=>by rw[Ai.mp J];exact l⟩ .nil)
end L3
namespace TS
open PySem PyProof.Rows PySem.W
section
variable {w:World}
end
end TS
namespace L2
open PySem PySem.Spec PyProof.Rows
end L2
namespace L3
open PySem L2
open PySem L2 Words
theorem afa(l:List Nat):nY l=(l.map λn:Nat=>(n:Int)).map Y.int:=by unfold nY;rw[BM];rfl
theorem aQ{L:qr}:∀xs:List Int,Paired (jd L 0) (xs.map Y.int) (xs.map λx=>Da.s (.int x))
 |[]=>.nil
 |_::r=>.cons ⟨rfl,rfl⟩ (aQ r)
def rJ(ks:List Kn)(T:List Nat):List (Option Kn):=(List.range ks.length).map λp=>if p∈T then ks[p]? else none
theorem e9(ks:List Kn)(T:List Nat):(rJ ks T).length=ks.length:=by unfold rJ;rw[Ab,BG]
theorem vE{T:List Nat}{p:Nat}(J:p<ks.length):(rJ ks T)[p]?=some (if p∈T then ks[p]? else none):=by unfold rJ;rw[An,C8 J];rfl
theorem abq{T:List Nat}{p:Nat}{k:Kn}(U:p∈T)(J:ks[p]?=some k):(rJ ks T)[p]?=some (some k):=by rw[vE (jy J),AB U,J]
theorem afh{T:List Nat}{p:Nat}{k:Kn}(h:(rJ ks T)[p]?=some (some k)):p∈T/\ks[p]?=some k:=by
 have J:p<ks.length:=by rw[<-e9 ks T];exact jy h
 rw[vE J] at h;by_cases c:p∈T
 ·rw[AB c] at h;exact⟨c,AN h⟩
 ·rw[AC c] at h;cases h
section
variable {E:List Nat}
theorem SR.rls(h:SR ks R E):∀B∈xm R,(∃EB,SR ks B EB)/\(∀x∈qp B,x∈qp R)/\(qp B).Sublist (qp R)/\zp B<=zp R/\(∀c∈jr B,c∈jr R):=by
 induction h with
 |link h1 h2 h3 g l=>
  intro B U;cases Ai.mp U;exact⟨⟨_,.link h1 h2 h3 g l⟩,λ_ h=>h,CU _,Aj _,λ_ h=>h⟩
 |@ei r i j A EA E h1 I h3 g l T h7 ih=>
  intro B U;rcases Ao.mp U with rfl|U
  ·exact⟨⟨_,.ei h1 I h3 g l T h7⟩,λ_ h=>h,CU _,Aj _,λ_ h=>h⟩
  ·obtain⟨a,b,c,d,e⟩:=ih B U;exact⟨a,λx h=>Ae _ (b x h),c.cons _,BW d,e⟩
 |@bo r i j A B EA EB E h1 I U g l T h7 o t=>
  intro C J;rcases Ao.mp J with rfl|J
  ·exact⟨⟨_,.bo h1 I U g l T h7⟩,λ_ h=>h,CU _,Aj _,λ_ h=>h⟩
  ·rcases Aq.mp J with J|J
   ·obtain⟨a,b,c,d,e⟩:=o C J;exact⟨a,λx h=>Ae _ (Ar _ (b x h)),(c.trans (CD ..)).cons _,by show _<=max (zp A) (zp B)+1;lia,λx h=>Ar _ (e x h)⟩
   ·obtain⟨a,b,c,d,e⟩:=t C J;exact⟨a,λx h=>Ae _ (Ah _ (b x h)),(c.trans (BR ..)).cons _,by show _<=max (zp A) (zp B)+1;lia,λx h=>Ah _ (e x h)⟩
 |@cu p q A B EA EB E w I U h3 g l T h7 h8 o t=>
  intro C J;rcases Ao.mp J with rfl|J
  ·exact⟨⟨_,.cu I U h3 g l T h7 h8⟩,λ_ h=>h,CU _,Aj _,λ_ h=>h⟩
  ·rcases Aq.mp J with J|J
   ·obtain⟨a,b,c,d,e⟩:=o C J;exact⟨a,λx h=>Ar _ (b x h),c.trans (CD ..),by show _<=max (zp A) (zp B)+1;lia,λx h=>Ae _ (Ar _ (e x h))⟩
   ·obtain⟨a,b,c,d,e⟩:=t C J;exact⟨a,λx h=>Ah _ (b x h),c.trans (BR ..),by show _<=max (zp A) (zp B)+1;lia,λx h=>Ae _ (Ah _ (e x h))⟩
theorem TrO.inner(T:TrO ks R E)(h:B∈xm R):∃J,TrO ks B J:=by obtain⟨⟨J,s⟩,_,sub,_⟩:=T.sr.rls B h;exact⟨J,T.ok,s,sub.nodup T.nd,T.len⟩
theorem wv:∀{R A B:Ru},A∈xm R->B∈xm A->B∈xm R
 |.link p q,A,B,h1,h2=>by cases Ai.mp h1;exact h2
 |.ei r C,A,B,h1,h2=>by
  rcases Ao.mp h1 with rfl|h1
  ·exact h2
  ·exact Ae _ (wv h1 h2)
 |.bo r C D,A,B,h1,h2=>by
  rcases Ao.mp h1 with rfl|h1
  ·exact h2
  ·rcases Aq.mp h1 with h1|h1
   ·exact Ae _ (Ar _ (wv h1 h2))
   ·exact Ae _ (Ah _ (wv h1 h2))
 |.cu p q C D,A,B,h1,h2=>by
  rcases Ao.mp h1 with rfl|h1
  ·exact h2
  ·rcases Aq.mp h1 with h1|h1
   ·exact Ae _ (Ar _ (wv h1 h2))
   ·exact Ae _ (Ah _ (wv h1 h2))
theorem bX(A:Ru):A∈xm A:=by rw[aF];exact Ak ..
theorem oq{A:Ru}(h:B∈qk A):B∈xm A:=by rw[aF];exact Ae _ (A4.mpr ⟨B,h,bX B⟩)
end
open PySem L2 PyProof.Rows
end L3
namespace L2
open PySem PySem.Spec PyProof.Rows
theorem ab6(neg:Bool)(p:X.A.units+128<cLine):kh X (compareOp (if neg then .NotIn else .In)) (λx y H Q=>∃a kvs k,y=.ref a/\H a=some (.dK kvs)/\x=kV k/\Q (.bl (if neg then !(ao kvs k).isSome else(ao kvs k).isSome)) H):=by intro U s r H x y v u Q I g j ⟨a,kvs,k,l,e,ex,q⟩;subst ex l;cases (show u=Value.ref a from j);cases neg with|false=>exact aqd (by omega) I (qP.k e) g λo J=>⟨.bl _,H,J,rfl,q⟩|true=>exact agv (by omega) I (qP.k e) g λo J=>⟨.bl _,H,J,rfl,q⟩
def afv(w:World)(r:Str×Tok×Int×Tok):DictEntry:=⟨hashStr w r.1,.str r.1 r.2.1,.int r.2.2.1 r.2.2.2⟩
theorem ajq{K:Ad}{P:Program}{w:World}{c:Addr}{g:Nat}(rows:List (Str×Tok×Int×Tok))(l:K.lookup c=some ⟨.type "dict",none,.dict (rows.map (afv w)).toArray g,#[]⟩)(hs:(c==sysModules)=false)(hz:rows.length<=1000)(nd:(rows.map λr=>(Sum.inr r.1:jf)).Nodup):
 KD K P w c (rows.map λr=>(Sum.inr r.1,.int r.2.2.1)):=by
 refine⟨hs,by rw[Ab];exact small hz,λh X=>⟨rows.map λr=>(Sum.inr r.1,.int r.2.2.1 r.2.2.2),?_,_,_,g,X c _ l,⟨rfl,rfl,rfl⟩,rfl,?_,?_,?_⟩⟩
 ·unfold KV;clear l hz nd
  induction rows with|nil=>exact .nil|cons r t J=>exact .cons ⟨rfl,_,rfl⟩ J
 ·intro e j;have U:e∈rows.map (afv w):=by simpa using j
  obtain⟨r,_,rfl⟩:=AW.mp U;exact⟨Sum.inr r.1,iL r.1 r.2.1,rfl⟩
 ·show Pairs _ (rows.map (afv w)).toArray.toList _;rw[List.toList_toArray];clear l hz nd
  induction rows with|nil=>exact .nil|cons r t J=>exact .cons (iL r.1 r.2.1) rfl J
 ·rw[BM];exact nd
end L2
namespace L3
open PySem L2
theorem yO{xs:List (jf×V)}(p:Paired (λ(p:jf×Y) (q:jf×V)=>p.1=q.1/\RV G H p.2 q.2) kvs xs)(k:jf):(ao xs k).isSome=(kq kvs k).isSome:=by
 unfold ao kq;rw[Cr,Cr]
 induction p with
 |nil=>rfl
 |@cons a b _ _ r t J=>
  rw[Bk,Bk,r.1];cases decide (b.1=k) with|true=>rfl|false=>exact J
def zX(neg:Bool)(x y:Y)(L:qr)(Q:YK):Prop:=match y,agh x with
 |.ref a,some k=>tR L a λkvs=>Q (.bl (nb neg (kq kvs k).isSome)) L
 |_,_=>False
theorem aed(neg:Bool)(l:X.A.units+128<cLine):kh X (compareOp (if neg then .NotIn else .In)) (fE X.g3 (zX neg)):=EM (ab6 neg l) λx y H Q I T L Q3 o p j z k=>by
 unfold zX at z;split at z
 ·rename_i a J r;obtain⟨U,e,z⟩:=gW z;obtain⟨g,t,C⟩:=j a _ e;refine⟨a,g,J,p,t,mU r o,?_⟩;have:(if neg=true then !(ao g J).isSome else(ao g J).isSome)=nb neg (kq U J).isSome:=by rw[yO C];cases neg<;>simp[nb]
  rw[this];exact k _ H _ L (DS _) j (by rfl) z
 ·exact z.elim
theorem anw(J:X.A.units+128<cLine):kh X (compareOp .In) (fE X.g3 (zX false)):=aed false J
theorem ajg(J:X.A.units+128<cLine):kh X (compareOp .NotIn) (fE X.g3 (zX true)):=aed true J
def qE(xs:List Y)(L:qr)(Q:YK):Prop:=match xs with
 |[.ref a]=>eJ L a λys=>Q (.tup ys) L
 |_=>False
theorem wR :x8 X (.type "tuple") (upL X.g3 qE):=x8.imq mZ λC H Q I L T j U z k=>by
 unfold qE at z;split at z
 ·rename_i a;obtain⟨u,rfl,o⟩:=j.inv1;obtain⟨p,e,z⟩:=vo z;obtain⟨g,t,r⟩:=U a _ e;cases (show u=V.ref a from o);exact⟨a,g,rfl,.inl ⟨.inl (.inl t),λl J=>k _ _ (.tup p) L (DV J) (U.skip J) ⟨l,g,rfl,.inl (.inl zg),r.ts (DV J)⟩ z⟩⟩
 ·exact z.elim
structure ap8(G:G3)(mg:Str->Option Value)(x:Str)(kvs:List (Str×Int)):Prop where
 ex:∃a,mg x=some (.ref a)/\KD G.K G.P G.w a (kvs.map λp=>(Sum.inr p.1,V.int p.2))
theorem sD{kvs:List (Str×Int)}{k:Str}{x:Int}(h:kvs.lookup k=some x):ao (kvs.map λp=>((Sum.inr p.1:jf),V.int p.2)) (Sum.inr k)=some (V.int x):=by
 induction kvs with
 |nil=>simp at h
 |cons p r J=>
  obtain⟨a,b⟩:=p;unfold ao;rw[AK,Bk];rw[Bo] at h;by_cases c:k=a
  ·subst c;simp at h;simp[h]
  ·have c1:(k==a)=false:=by simpa using c
   rw[c1] at h;have c2:decide ((Sum.inr a:jf)=Sum.inr k)=false:=Au λz=>c (Es z).symm;simp only[c2];exact J h
def ph(kvs:List (Str×Int))(ti:xp)(τ:jo)(L:qr)(Q:YK):Prop:=ti τ L λy L1=>match y with
 |.str k=>tV L1 (λi L=>Q (.int i) L) (kvs.lookup k)
 |_=>False
theorem lr{kvs:List (Str×Int)}{i:Expr}(t:ap8 X.g3 X.mg x kvs)(l:Gl X x)(hi:QE X i ti)(o:gj i)(hd:Ed x:=by decide):QE X (.Subscript (.Name x p) i pos) (ph kvs ti):=by
 obtain⟨a,r,C⟩:=t.ex;refine DW (ada amx (vP l r (show zu (.ref a) (.ref a) from rfl) hd) hi o) λσ H Q I L Q3 T rl z k=>?_;refine⟨I,L,_,T,rl,z,λv H1 y L1 t1 J U g=>?_⟩;split at g
 ·rename_i kk;obtain⟨j,ej,q⟩:=gM g;cases (show v=V.str kk from U);exact⟨_,_,.inr C,sD ej,k _ H1 _ L1 t1 J (by rfl) q⟩
 ·exact g.elim
open PySem L2 Words
def wq:List (Str×Int):=[("link",2),("either",1),("both",1),("cut",2)]
def rM:vt:=(zy (jS ak (qd (vM nZ (q9 0) (aV (zk 1)) (aV (zb k8 (zk 1) (ph wq (xc 0 0))))) z0)))
def xJ:vt:=(zy (jS ak (qd (vM nZ (q9 0) (aV (zb k8 (zk 1) (ph wq (xc 0 0)))) w5) z0)))
def uq(J:jl)(p1:jl):vt:=(qt (zf (jq (vk (q9 0))) (qh 1))
 (qt (dc (wr (z9 J (vk (q9 0)))) (qh 2) (jk (af bH (q9 1) (qd (z9 p1 (vk (q9 2))) z0))))
 (zy (q9 1))))
def yL(J:jl):vt:=(zy (yIf (dk (xc 0 0) (dR "cut")) (jq z0) (z9 J (vk (q9 0)))))
def uI(J:jl):vt:=(qt (jt (dk (xc 1 0) (dR "link")) (zy (jq z0)) j8)
 (qt (jt (dk (xc 1 0) (dR "cut")) (zy (jq (qd (jq (vk (xc 1 1))) (qd (jq (vk (xc 1 2))) z0)))) j8)
 (qt (zf (z9 J (qd (zb wz (q9 0) (xc 1 1)) z0)) (qh 2))
 (qt (jt (dk (xc 1 0) (dR "either")) (zy (jq (vk (q9 2)))) j8)
 (zy (xD 1 (wr (q9 2)) (qh 3) ae2 (jq (vk (q9 3)))))))))
def plR:Ru->List Nat
 |.link p q=>[p,q]
 |.ei r _=>[r]
 |.bo r _ _=>[r]
 |.cu p q _ _=>[p,q]
def rC:jl:=λys L Q=>∃A:Ru,ys=[qj A]/\∀p,L p=none->Q (.ref p) (qi L p (.lst (nY (plR A))))
theorem ai0:∀ys L Q,rC ys L Q->xj rM 1 ys L Q:=by
 rintro ys L Q ⟨A,rfl,q⟩;cases A with
 |link a b=>exact⟨λz=>absurd z.1 (by show ¬1=0;decide),λp J=>jw (q p J)⟩
 |ei r A=>exact⟨λz=>absurd z.1 (by show ¬1=0;decide),λp J=>jw (q p J)⟩
 |bo r A B=>exact⟨λz=>absurd z.1 (by show ¬1=0;decide),λp J=>jw (q p J)⟩
 |cu a b A B=>exact⟨λz=>absurd z.1 (by show ¬1=0;decide),λp J=>jw (q p J)⟩
def wx:jl:=λys L Q=>∃A:Ru,ys=[qj A]/\∀p,L p=none->Q (.ref p) (qi L p (.lst ((qk A).map qj)))
theorem yc:∀ys L Q,wx ys L Q->xj xJ 1 ys L Q:=by
 rintro ys L Q ⟨A,rfl,q⟩;cases A with
 |link a b=>exact⟨λz=>absurd z.1 (by show ¬3=0;decide),λp J=>jw (q p J)⟩
 |ei r A=>exact⟨λz=>absurd z.1 (by show ¬2=0;decide),λp J=>jw (q p J)⟩
 |bo r A B=>exact⟨λz=>absurd z.1 (by show ¬2=0;decide),λp J=>jw (q p J)⟩
 |cu a b A B=>exact⟨λz=>absurd z.1 (by show ¬3=0;decide),λp J=>jw (q p J)⟩
def iF:jl:=λys L Q=>∃A:Ru,ys=[qj A]/\∀p,L p=none->Q (.ref p) (qi L p (.lst (nY (bF A))))
theorem xZ:∀ys L Q,iF ys L Q->xj (yL rC) 1 ys L Q:=by
 rintro ys L Q ⟨A,rfl,q⟩;cases A with
 |link a b=>exact⟨_,rfl,λp J=>jw (q p J)⟩
 |ei r A=>exact⟨_,rfl,λp J=>jw (q p J)⟩
 |bo r A B=>exact⟨_,rfl,λp J=>jw (q p J)⟩
 |cu a b A B=>exactλp J=>jw (q p J)
def bE(n:Nat):jl:=λys L Q=>∃A:Ru,ys=[qj A]/\zp A<=n/\xb A<=1000/\∀p,L p=none->Q (.ref p) (qi L p (.lst ((xm A).map qj)))
theorem lz(A:Ru):0<zp A:=by cases A<;>simp[zp]
theorem ae1:∀ys L Q,¬bE 0 ys L Q:=by rintro ys L Q ⟨A,_,h,_⟩;have:=lz A;lia
theorem om{A:Ru}(h:B∈qk A):xb B<xb A:=by
 cases A with
 |link p q=>cases h
 |ei r C=>cases Ai.mp h;exact Cw _
 |bo r C D=>
  have:xb (.bo r C D)=xb C+xb D+1:=rfl;rcases Ao.mp h with rfl|h
  ·lia
  ·cases Ai.mp h;lia
 |cu p q C D=>
  have:xb (.cu p q C D)=xb C+xb D+1:=rfl;rcases Ao.mp h with rfl|h
  ·lia
  ·cases Ai.mp h;lia
theorem t7(n:Nat):∀ys L Q,bE (n+1) ys L Q->xj (uq wx (bE n)) 3 ys L Q:=by
 rintro ys L Q ⟨A,rfl,hd,hz,q⟩;have big:=bg_;intro l t;refine⟨A,rfl,λj J=>?_⟩;have o:l≠j:=km q8 J;have T:L j=none:=jg J;have s0:qg L (qi (qi L l (.lst [qj A])) j (.lst ((qk A).map qj))):=(By t).trans (By J);have sz:∀i,(((qk A).take i).flatMap xm).length<=1000:=λi=>by
  have e:=Bt List.length (aF A);rw[bJ] at e;have h2:(((qk A).take i).flatMap xm).length+(((qk A).drop i).flatMap xm).length=((qk A).flatMap xm).length:=by rw[<-Ac,<-Az,A8]
  simp only[AJ] at e;lia
 refine vh q8 λkeep kp=>w6 ⟨λi r U=>∃c2,r=[some (qj A),some (.ref l),c2]/\qg L U/\U l=some (.lst ((A::((qk A).take i).flatMap xm).map qj))/\U j=some (.lst ((qk A).map qj)),⟨_,rfl,s0,(qb o).trans q8,q8⟩,?_,?_,?_⟩
 ·rintro i r U ⟨c2,rfl,s,g,g2⟩;exact kp U (by rw[g2,q8])
 ·rintro i y r U hy ⟨c2,rfl,s,g,g2⟩;rw[An] at hy;obtain⟨B,eB,rfl⟩:=Ap.mp hy;have mB:=AD eB;have et:(qk A).take (i+1)=(qk A).take i++[B]:=by rw[Bc,eB];rfl
  have zB:=om mB;have dB:=v5 mB;have zi:=sz i;refine qc g ⟨B,rfl,by lia,by lia,λp C=>?_⟩;have np:l≠p:=km g C;have I:j≠p:=km g2 C;refine qw ((qb np).trans g) (qw q8 ⟨?_,?_⟩)
  ·rw[Ab,Ab,AJ,bJ];exact Bi (big _ (by lia))
  ·refine⟨_,DU _,_,rfl,(s.trans (By C)).upd t,?_,(qb (AF o)).trans ((qb I).trans g2)⟩;rw[q8,et,Az,CV,<-Am];rfl
 ·rintro r U ⟨c2,rfl,s,g,_⟩;rw[Ab,A9,<-aF] at g;exact we (ER s g) (q l t)
def t8(ks:List Kn)(wd:List (Option Kn))(A:Ru):Prop:=∀x∈qp A,∀k,ks[x]?=some k->wd[x]?=some (some k)
theorem t8.arm{A:Ru}(h:t8 ks wd A)(J:B∈qk A):t8 ks wd B:=λx U=>h x (by rw[eX];exact Ah _ (A4.mpr ⟨B,J,U⟩))
def pz:jl:=λys L Q=>∃a,∃wd:List (Option Kn),∃ks:List Kn,∃A:Ru,∃E:List Nat,ys=[.ref a,qj A]/\L a=some (.lst (a7 wd))/\SR ks A E/\t8 ks wd A/\
 ∀p J L',qg L L'->L p=none->L' p=some (.lst (J.map Y.ref))->Paired (λr t=>L r=none/\L' r=some (.lst (nY t))) J (k6 ks A)->Q (.ref p) L'
theorem ahn:∀ys L Q,pz ys L Q->xj (uI mV) 3 ys L Q:=by
 rintro ys L Q ⟨a,wd,ks,A,E,rfl,ha,sr,ag,q⟩;cases sr with
 |link=>exactλp hp=>jw (q p [] _ (By hp) hp q8 .nil)
 |@cu u v A B EA EB _ w hA hB h3 h4=>
  intro J h1 g h2 I h3;have U:J≠g:=km q8 h2;have a1:J≠I:=km ((qb U).trans q8) h3;have a2:g≠I:=km q8 h3;exact jw (q I [J,g] _ (((By h1).trans (By h2)).trans (By h3)) (jg (jg h3)) q8 (.cons ⟨h1,(qb a1).trans ((qb U).trans q8)⟩ (.cons ⟨jg h2,(qb a2).trans q8⟩ .nil)))
 |@ei r i j A EA _ h1=>
  refine qc ha (qm (jj (ag r (Ak ..) _ h1)) ⟨some (.nd true i j),rfl,λJ g1=>?_⟩);intro g g2;have U:J≠g:=km q8 g2;refine jw (q g [J] _ ((By g1).trans (By g2)) (jg g2) q8 ?_);show Paired _ [J] [kw ks[r]?];rw[h1];exact .cons ⟨g1,(qb U).trans q8⟩ .nil
 |@bo r i j A B EA EB _ h1=>
  refine qc ha (qm (jj (ag r (Ak ..) _ h1)) ⟨some (.nd false i j),rfl,λJ g1=>?_⟩);have s1:qg L (qi L J (.lst (nY [i,j]))):=By g1;refine vh q8 λkeep kp=>adj ⟨show 2<sizeLine by decide,λm T C=>∃l,T=l.map Y.ref/\qg (qi L J (.lst (nY [i,j]))) C/\Paired (λr t=>L r=none/\C r=some (.lst (nY t))) l (([i,j].map λx=>[x]).take m),⟨[],rfl,DU _,.nil⟩,?_,?_,?_⟩
  ·rintro m T C ⟨l,_,s,_⟩;exact kp C (by rw[q8];exact s _ _ q8)
  ·rintro m y T C hy ⟨l,rfl,s,pr⟩;obtain⟨x,ex,rfl⟩:=hV hy;have ex:[i,j][m]?=some x:=ex;intro g g2;refine⟨_,DU _,l++[g],by rw[Am];rfl,s.trans (By g2),?_⟩;have et:([i,j].map λx=>[x]).take (m+1)=([i,j].map λx=>[x]).take m++[[x]]:=by rw[Bc,An,ex];rfl
   rw[et];exact jE (DX pr λb t o=>⟨o.1,(qb (km o.2 g2)).trans o.2⟩) ⟨s1.none (s.none g2),q8⟩
  ·rintro T C ⟨l,rfl,s,pr⟩ I g3;refine jw (q I l _ ((s1.trans s).trans (By g3)) (s1.none (s.none g3)) q8 ?_);show Paired _ l ((kw ks[r]?).map λx=>[x]);rw[h1];exact DX pr λb t o=>⟨o.1,(qb (km o.2 g3)).trans o.2⟩
theorem oN{A:Ru}:∀t∈k6 ks A,t.length<=2:=by
 intro t J;cases A with
 |link p q=>cases J
 |ei r A=>rw[Ai.mp J];exact yp _
 |bo r A B=>obtain⟨x,_,rfl⟩:=AW.mp J;exact BV 1
 |cu p q A B=>
  rcases Ao.mp J with rfl|J
  ·exact BV 1
  ·rw[Ai.mp J];exact BV 1
theorem dW{A:Ru}(h:B∈qk A):(qp B).Sublist (qp A):=by rw[eX A];refine List.Sublist.trans ?_ (BR ..);obtain⟨a,b,e⟩:=CI h;rw[e,Az,AS];exact(CD ..).trans (BR ..)
theorem acq{T:List Nat}(U:∀x∈T,x<ks.length){x:Nat}:x∈mH (rJ ks T)↔x∈T:=by
 constructor
 ·intro h;obtain⟨_,k,e,g⟩:=afq h;cases k with
  |none=>cases g
  |some k=>exact(afh e).1
 ·intro h;have J:=U x h;exact ali (abq h (Af J)) rfl (by rw[e9];exact J)
theorem zR{E:List Nat}(T:TrO ks R E):(mH (rJ ks (qp R))).length=(qp R).length:=by refine((A6 ?_ T.nd).mpr λx=>acq λx J=>T.sr.lt x J).length_eq;unfold mH whr;exact B4.filter _
structure yA(A:Ru)(tk:List Nat)(st:List Ru):Prop where
 pt:(tk++st.flatMap qp).Perm (qp A)
 sz:(st.map xb).sum<=xb A
 dp:∀B∈st,zp B<=zp A
theorem yA.start(A:Ru):yA A [] [A]:=⟨by simp,by simp,λB J=>by rw[Ai.mp J];exact Aj _⟩
theorem yA.step{A:Ru}{tk:List Nat}{st:List Ru}(h:yA A tk (st++[B])):yA A (tk++bF B) (st++qk B):=by
 refine⟨?_,?_,λC J=>?_⟩
 ·refine List.Perm.trans ?_ h.pt;rw[Az,Az];have:[B].flatMap qp=bF B++(qk B).flatMap qp:=by rw[<-eX];simp
  rw[this];refine Bz.mpr λz=>?_;simp only[BI];lia
 ·have:=h.sz;have:=gg B;simp at *;lia
 ·rcases Aq.mp J with J|J
  ·exact h.dp C (Ar _ J)
  ·have:=v5 J;have:=h.dp B (Ah _ (Ai.mpr rfl));lia
theorem yA.lt{A:Ru}{tk:List Nat}{st:List Ru}:((st.map xb).sum+((qk B).map xb).sum)<((st++[B]).map xb).sum:=by have:=gg B;simp;lia
theorem alz(ks:List Kn)(A:Ru):t8 ks (rJ ks (qp A)) A:=λ_ J _ U=>abq J U
theorem TrO.small{A:Ru}{E:List Nat}(T:TrO ks A E):(qp A).length<=96:=by
 have:=zR T;have h2:=af8 adl (rJ ks (qp A)) (rJ ks (qp A)).length;rw[e9] at h2;have:(mH (rJ ks (qp A))).length<=ks.length:=by unfold mH;rw[e9];exact h2
 have:=T.len;lia
def sX:vt:=(qt (jt (dk (xc 0 0) (dR "cut")) (zy (jq (aH (xc 0 3) (xc 0 4)))) j8)
 (qt (jt (dk (xc 0 0) (dR "link")) (zy (jq z0)) j8)
 (zy (jS ak (qd (vM nZ (q9 0) (aV (zk 2)) w5) z0)))))
def jL(J:jl):vt:=(qt (zf (kg (qd (jq z0) (qd (jq z0) (qd wQ (qd (jq (vk (q9 0))) z0))))) (bB 4 (je (qh 1) (je (qh 2) (je (qh 3) (je (qh 4) ac))))))
 (qt (fb (rdN (q9 4) (jq z0)) (qt (zf (af vG (q9 4) z0) (qh 5))
 (dE (jt (dk (xc 5 0) (dR "link")) (qt (jk (af j6 (q9 1) (qd (rdT (xc 5 1) (xc 5 2)) z0)))
 (qt (fw (q9 3) (xc 5 1) (yC (.bl true)))
 (fw (q9 3) (xc 5 2) (yC (.bl true))))) (jt (dk (xc 5 0) (dR "cut")) (jk (af j6 (q9 2) (qd (rdT (xc 5 1) (xc 5 2)) z0))) (fw (q9 3) (xc 5 1) (yC (.bl true)))))
 (jk (af bH (q9 4) (qd (z9 J (vk (q9 5))) z0))))))
 (zy (kg (qd (q9 1) (aH (q9 2) (q9 3)))))))
def m4(J:jl):vt:=(qt (fb (ox (rdN (z9 J (vk (q9 0))) (jq z0)) (yB (zb yGt (zb xu (q9 1) (zk 5)) (zk 0)))) (qt (zf (z9 J (vk (q9 0))) (qh 2))
 (qt (zf (zb wz (q9 2) (zb xu (zb vv (q9 1) (zk 5)) (bT 2))) (qh 0))
 (zf (zb xu (zb m8 (q9 1) (zk 48271)) (zk 2147483647)) (qh 1)))))
 (zy (q9 0)))
def vf:jl:=wx
theorem aap:∀ys L Q,vf ys L Q->xj sX 1 ys L Q:=by
 rintro ys L Q ⟨A,rfl,q⟩;cases A with
 |link a b=>exactλp J=>jw (q p J)
 |ei r A=>exact⟨λz=>absurd z.1 (by show ¬2=0;decide),λp J=>jw (q p J)⟩
 |bo r A B=>exact⟨λz=>absurd z.1 (by show ¬2=0;decide),λp J=>jw (q p J)⟩
 |cu a b A B=>exactλp J=>jw (q p J)
structure UsI(us:List Nat)(kvs:List (jf×Y)):Prop where
 val:∀x:Nat,(kq kvs (.inl (x:Int))).isSome=decide (x∈us)
 len:kvs.length<=us.length
theorem UsI.nil:UsI [] []:=⟨λ_=>rfl,Aj _⟩
theorem UsI.put{us:List Nat}(h:UsI us kvs)(x:Nat)(y:Y):UsI (us++[x]) (i5 kvs (.inl (x:Int)) y):=by
 refine⟨λz=>?_,?_⟩
 ·rw[sE];by_cases e:z=x
  ·subst e;rw[AB rfl,AE (Ah _ (Ai.mpr rfl))];rfl
  ·rw[AC (λq=>e (Dz.mp (Sum.inl.inj q))),h.val];refine decide_eq_decide.mpr ⟨λq=>Ar _ q,λq=>?_⟩;rcases Aq.mp q with q|q
   ·exact q
   ·exact absurd (Ai.mp q) e
 ·have:=eQ kvs (.inl (x:Int)) y;have:=h.len;rw[Ac];show _<=us.length+1;lia
def pV:jl:=λys L Q=>∃R:Ru,ys=[qj R]/\(qp R).length<=96/\
 ∀J ca ta lk ct kvs L',qg L L'->L J=none->L ca=none->L ta=none->L' J=some (.lst (mR lk))->L' ca=some (.lst (mR ct))->L' ta=some (.dct kvs)->lk.Perm (ke R)->ct.Perm (jr R)->(∀x:Nat,(kq kvs (.inl (x:Int))).isSome=decide (x∈qp R))->Q (.tup [.ref J,.ref ca,.ref ta]) L'
theorem ay:∀R:Ru,(ke R).length+(jr R).length<=xb R
 |.link _ _=>Aj _
 |.ei _ A=>BW (ay A)
 |.bo _ A B=>by have:=ay A;have:=ay B;show(ke A++ke B).length+(jr A++jr B).length<=xb A+xb B+1;rw[Ac,Ac];lia
 |.cu _ _ A B=>by have:=ay A;have:=ay B;show(ke A++ke B).length+((jr A++jr B).length+1)<=xb A+xb B+1;rw[Ac,Ac];lia
theorem af2:∀ys L Q,pV ys L Q->xj (jL vf) 6 ys L Q:=by
 rintro ys L Q ⟨R,rfl,tl,q⟩;have big:=bg_;have rd:=xg R;have rz:=wf R;have rp:=ay R;intro la ba ca bb ta ag sa a3;have a4:la≠ca:=km q8 bb;have C:ca≠ta:=km q8 ag;have a1:la≠ta:=km ((qb a4).trans q8) ag;have a2:ta≠sa:=km q8 a3;have al:ca≠sa:=km ((qb C).trans q8) a3;have au:la≠sa:=km ((qb a1).trans ((qb a4).trans q8)) a3;have av:L ca=none:=jg bb;have j:L ta=none:=jg (jg ag);have aL:L sa=none:=jg (jg (jg a3));have S0:qg L (qi (qi (qi (qi L la (.lst [])) ca (.lst [])) ta (.dct [])) sa (.lst [qj R])):=(((By ba).trans (By bb)).trans (By ag)).trans (By a3);refine⟨λm τ g=>∃lk ct J us st c5,τ=[some (qj R),some (.ref la),some (.ref ca),some (.ref ta),some (.ref sa),c5]/\qg L g/\g la=some (.lst (mR lk))/\g ca=some (.lst (mR ct))/\g ta=some (.dct J)/\g sa=some (.lst (st.map qj))/\ix R lk ct st/\UsI us J/\yA R us st/\m=(st.map xb).sum,⟨_,[],[],[],[],[R],_,rfl,S0,(qb au).trans ((qb a1).trans ((qb a4).trans q8)),(qb al).trans ((qb C).trans q8),(qb a2).trans q8,q8,ix.start R,UsI.nil,yA.start R,rfl⟩,?_⟩;rintro m τ g ⟨lk,ct,J,us,st,c5,rfl,s,h1,h2,h3,t,T,U,I,rfl⟩;intro p hp;refine wm (n:=120) (m:=0) (by decide) (By hp _ _ t) q8 (aK λA hA=>AM (T.dp A hA) (by lia)) (.nil:Paired (jd _ 0) _ []) ?_;have s2:qg L (qi g p (.lst [])):=s.trans (By hp);replace h1:=(qb (o:=.lst []) (km h1 hp)).trans h1;replace h2:=(qb (o:=.lst []) (km h2 hp)).trans h2;replace h3:=(qb (o:=.lst []) (km h3 hp)).trans h3;replace t:=(qb (o:=.lst []) (km t hp)).trans t;generalize qi g p (.lst [])=L2 at s2 h1 h2 h3 t ⊢;show wc (!(Da.eqs (st.map aj) [])) _ _;rw[gB];have kl:=U.len;have pl:=I.pt.length_eq;have l1:=T.pl.length_eq;have l2:=T.pc.length_eq;rw[Ac] at pl l1 l2;rcases Cp st with rfl|⟨aT,A,rfl⟩
 ·refine xi rfl ?_;refine jw (q la ca ta lk ct J L2 s2 ba av j h1 h2 h3 (by have:=T.pl;simpa using this) (by have:=T.pc;simpa using this) λx=>?_);rw[U.val];exact decide_eq_decide.mpr (by have:=I.pt.mem_iff (a:=x);simpa using this)
 ·rw[Cq] at *;rw[Au (by simp)];refine v0 rfl ⟨λa5 g=>∃m',m'<((aT++[A]).map xb).sum/\∃lk ct J us st c5,a5=[some (qj R),some (.ref la),some (.ref ca),some (.ref ta),some (.ref sa),c5]/\qg L g/\g la=some (.lst (mR lk))/\g ca=some (.lst (mR ct))/\g ta=some (.dct J)/\g sa=some (.lst (st.map qj))/\ix R lk ct st/\UsI us J/\yA R us st/\m'=(st.map xb).sum,λa5 g h=>h,?_⟩;rw[Am] at t;refine ur t ?_;have s3:qg L (qi L2 sa (.lst (aT.map qj))):=s2.upd aL;replace h1:=(qb (o:=.lst (aT.map qj)) au).trans h1;replace h2:=(qb (o:=.lst (aT.map qj)) al).trans h2;replace h3:=(qb (o:=.lst (aT.map qj)) a2).trans h3;clear t;have t:qi L2 sa (.lst (aT.map qj)) sa=some (.lst (aT.map qj)):=q8;generalize qi L2 sa (.lst (aT.map qj))=L3 at s3 h1 h2 h3 t ⊢;refine⟨λa5 L3=>∃J,a5=[some (qj R),some (.ref la),some (.ref ca),some (.ref ta),some (.ref sa),some (qj A)]/\qg L L3/\L3 la=some (.lst (mR (lk++tM A)))/\L3 ca=some (.lst (mR (ct++sk A)))/\L3 ta=some (.dct J)/\L3 sa=some (.lst (aT.map qj))/\UsI (us++bF A) J,?_,?_⟩
  ·cases A with
   |link p0 q0=>
    refine qc h1 (qw h1 ⟨by rw[Ab];exact big _ (by lia),?_⟩);refine jz ((qb (AF a1)).trans h3) ⟨big _ (by lia),?_⟩;have U1:=U.put p0 (.bl true);have k1:=U1.len;rw[Ac] at k1;refine jz q8 ⟨big _ (by simp at k1;lia),?_⟩;have U2:=U1.put q0 (.bl true);rw[xr];refine⟨_,rfl,(s3.upd ba).upd j,?_,?_,q8,?_,by rw[AR] at U2;exact U2⟩
    ·rw[qb a1,q8];exact Bt (λl=>some (LO.lst l)) (o9 lk (p0,q0))
    ·rw[qb C,qb (AF a4),h2];simp[sk]
    ·rw[qb (AF a2),qb (AF au)];exact t
   |ei r0 A0=>
    refine jz h3 ⟨big _ (by lia),?_⟩;exact⟨_,rfl,s3.upd j,by rw[qb a1,h1];simp[tM],by rw[qb C,h2];simp[sk],q8,by rw[qb (AF a2)];exact t,U.put r0 (.bl true)⟩
   |bo r0 A0 B0=>
    refine jz h3 ⟨big _ (by lia),?_⟩;exact⟨_,rfl,s3.upd j,by rw[qb a1,h1];simp[tM],by rw[qb C,h2];simp[sk],q8,by rw[qb (AF a2)];exact t,U.put r0 (.bl true)⟩
   |cu p0 q0 A0 B0=>
    refine qc h2 (qw h2 ⟨by rw[Ab];exact big _ (by lia),?_⟩);exact⟨J,rfl,s3.upd av,by rw[qb a4,h1];simp[tM],by rw[q8];exact Bt (λl=>some (LO.lst l)) (o9 ct (p0,q0)),by rw[qb (AF C)];exact h3,by rw[qb (AF al)];exact t,by rw[show bF (.cu p0 q0 A0 B0)=[] from rfl,AX];exact U⟩
  ·rintro a5 L4 ⟨bc,rfl,s4,g1,g2,g3,g4,U'⟩;refine qc g4 ⟨A,rfl,λp8 h8=>?_⟩;refine qw ((qb (km g4 h8)).trans g4) (qw q8 ⟨?_,?_⟩)
   ·have h1:=I.step.sz;have len:∀l:List Ru,l.length<=(l.map xb).sum:=λl=>by induction l with|nil=>exact Aj _|cons x r ih=>have:=wX x;simp;lia
    have h3:=len (aT++qk A);rw[Ac] at h3;rw[Ab,Ab];exact Bi (big _ (by lia))
   ·exact⟨_,DU _,_,yA.lt (tk:=us) (A:=R),_,_,bc,us++bF A,aT++qk A,_,rfl,(s4.trans (By h8)).upd aL,(qb au).trans ((qb (km g1 h8)).trans g1),(qb al).trans ((qb (km g2 h8)).trans g2),(qb a2).trans ((qb (km g3 h8)).trans g3),by rw[q8,Am],T.step,U',I.step,by rw[Am,C7]⟩
def hJ:jl:=λys L Q=>∃R:Ru,∃n:Int,ys=[qj R,.int n]/\(qp R).length<=96/\∀B∈xm R,Q (qj B) L
theorem yj:∀ys L Q,hJ ys L Q->xj (m4 vf) 3 ys L Q:=by
 rintro ys L Q ⟨R,n,rfl,tl,q⟩;have rd:=xg R;refine⟨λm o J=>∃B n c2,o=[some (qj B),some (.int n),c2]/\qg L J/\B∈xm R/\zp B<=zp R/\m=zp B,⟨_,R,n,_,rfl,DU _,bX R,Aj _,rfl⟩,?_⟩;rintro m o J ⟨B,n,c2,rfl,s,g,dB,rfl⟩;refine⟨B,rfl,λp h1=>?_⟩;intro r h2;have U:qg L (qi (qi J p (.lst ((qk B).map qj))) r (.lst [])):=(s.trans (By h1)).trans (By h2);refine wm (n:=120) (m:=0) (by decide) (By h2 _ _ q8) q8 (aK λA hA=>by have:=v5 hA;lia) (.nil:Paired (jd _ 0) _ []) ?_;generalize qi (qi J p (.lst ((qk B).map qj))) r (.lst [])=L2 at U ⊢;show wc (!(Da.eqs ((qk B).map aj) [])) _ _;rw[gB];by_cases c:qk B=[]
 ·refine xi (by rw[AE c];rfl) ?_;exact xi rfl (we U (q B g))
 ·refine v0 (by rw[Au c];rfl) ⟨(show(0:Int)<5 by decide),?_⟩;refine x0 (λc5=>?_) λc5=>we U (q B g);refine⟨λl J=>∃t,t<zp B/\∃B n c2,l=[some (qj B),some (.int n),c2]/\qg L J/\B∈xm R/\zp B<=zp R/\t=zp B,λ_ _ h=>h,?_⟩;refine⟨B,rfl,λp3 h3=>?_⟩;have hl:0<(qk B).length:=List.length_pos_iff.mpr c;obtain⟨j,A,ej,lj,C⟩:=dZ hl (n / 5);have I:=AD C;have dA:=v5 I;have T:((qk B).map qj).length=(qk B).length:=Ab ..;refine⟨⟨by decide,by decide⟩,qc q8 ⟨(by show(0:Int)<(((qk B).map qj).length:Int);rw[T];lia),qc q8 (qm (v:=qj A) (by show dQ ((qk B).map qj) (n / 5 % (((qk B).map qj).length:Int))=_;rw[T,ej];exact jj C) ?_)⟩⟩;exact⟨.inr ⟨by decide,by decide⟩,(show(0:Int)<2147483647 by decide),_,DU _,zp A,dA,A,_,_,rfl,U.trans (By h3),wv g (oq I),by lia,rfl⟩
def abv(Pt:Addr)(J:jl):vt:=(qt (zf (jq z0) (qh 2))
 (qt (dc (i4 (q9 0)) (bB 2 (je (qh 3) (je (qh 4) ac))) (qt (zf (zb xu (z9 J (qd (q9 1) (aH (q9 3) (zk 39373)))) (zk 40)) (qh 5))
 (dE (jt (dk (bT 4) (zk 3)) (zf (zb k8 (zb k8 (q9 5) (zk 1)) (jS afo (qd (zb wz (q9 2) (xc 4 1)) (qd (zb wz (q9 2) (xc 4 2)) z0)))) (qh 5)) j8)
 (jk (af j6 (q9 2) (vk (q9 5)))))))
 (zy (aaa Pt lamQ 2 (re (bT 0))))))
def pq(J:jl):vt:=(qt (jt (dk (xc 0 0) (dR "link")) (zy (kg (qd (dR "link") (qd (jS aj5 (qd (jH (q9 1) (xc 0 1)) (qd (jH (q9 1) (xc 0 2)) z0))) (qd (jS afo (qd (jH (q9 1) (xc 0 1)) (qd (jH (q9 1) (xc 0 2)) z0))) z0))))) j8)
 (qt (zf (xD 1 (acs (vM nZ (q9 0) (aV (zk 1)) w5)) (qh 3) (yB (dF .int (q9 3))) (jH (q9 1) (q9 3))) (qh 2))
 (zy (jS qE (qd (zb k8 (zb k8 (jq (vk (xc 0 0))) (q9 2)) (xD 1 (acs (vM nZ (q9 0) (aV (zk 1)) w5)) (qh 3) (yB (dF .tuple (q9 3))) (z9 J (aH (q9 3) (q9 1))))) z0)))))
def lD(J:jl)(p1:jl):vt:=(qt (zf wQ (qh 3))
 (qt (zf (jq z0) (qh 4))
 (qt (dc (wr (z9 J (aH (q9 0) (q9 2)))) (qh 5) (qt (fw (q9 3) (q9 5) (bT 4))
 (qt (zf (zb wz (q9 0) (q9 5)) (qh 6))
 (jk (af j6 (q9 4) (qd (yIf (dk (bT 6) (zk 2)) (q9 6) (kg (qd (xc 6 0) (qd (jH (q9 3) (xc 6 1)) (qd (jH (q9 3) (xc 6 2)) z0))))) z0))))))
 (zy (kg (qd (q9 4) (qd (z9 p1 (aH (q9 1) (q9 3))) z0)))))))
def i3(Pt:Addr):jl:=λys L Q=>∃a,∃ks:List Kn,∃s:Int,ys=[.ref a,.int s]/\L a=some (.lst (jc ks))/\OkO (ks.map some)/\ks.length<=63/\L Pt=some (.tb lamQ)/\
 ∀D J,L D=none->J.Perm (List.range (ks.map some).length)->cq (ks.map some) J->Q (.ref D) (qi L D (.lst (nY J)))
theorem zM :∀ys L Q,i3 Pt ys L Q->xj (abv Pt qF) 6 ys L Q:=by
 rintro ys L Q ⟨a,ag,s,rfl,ha,ok,hz,hP,q⟩;obtain⟨l,g⟩:∃l,l=ag.map some:=⟨_,rfl⟩;rw[<-aY,<-g] at ha;rw[<-g] at ok q;have hz:l.length<=63:=by rw[g,Ab];exact hz
 have all:∀i,l[i]?≠some none:=λi e=>by rw[g,An] at e;obtain⟨_,_,z⟩:=Ap.mp e;cases z
 have big:=bg_;intro U J;have s0:qg L (qi L U (.lst [])):=By J;have a3:a≠U:=km ha J;refine vh (s0 _ _ ha) λkeep kp=>w6 ⟨λi τ C=>∃rks:List Int,∃c3 c4 c5,τ=[some (Y.ref a),some (.int s),some (Y.ref U),c3,c4,c5]/\C=qi L U (.lst (rks.map Y.int))/\rks.length=i/\xV l rks,⟨[],_,_,_,rfl,rfl,rfl,λp _ _ _ hp=>by cases hp⟩,?_,?_,?_⟩
 ·rintro i τ C ⟨rks,c3,c4,c5,rfl,rfl,_⟩;exact kp _ (by rw[qb a3,qb a3])
 ·rintro i y τ C hy ⟨rks,c3,c4,c5,rfl,rfl,I,T⟩;obtain⟨z,ez,rfl⟩:=gn hy;rw[An] at ez;obtain⟨k,ek,rfl⟩:=Ap.mp ez;have hi:=jy ek;refine⟨s,i,39373,rfl,by exact A5 _,by omega,by decide,by decide,λv h0 h1=>?_⟩;have m0:(0:Int)<=v % 40:=DQ _ (by decide);have a4:(rks.map Y.int).length=i:=by rw[Ab];exact I
  refine⟨show(0:Int)<40 by decide,λa5 C=>∃r:Int,a5=[some (Y.ref a),some (.int s),some (Y.ref U),some (.int (i:Nat)),some (uB k),some (.int r)]/\C=qi L U (.lst (rks.map Y.int))/\∀e i j,k=some (.nd e i j)->rks.getD i 0<r/\rks.getD j 0<r,?_,?_⟩
  ·cases k with
   |none=>exact absurd ek (all i)
   |some k=>
    cases k with
    |lf t n=>exact⟨v % 40,rfl,rfl,λe i j z=>by cases z⟩
    |nd e p1 p2=>
     obtain⟨l1,l2⟩:=ok _ _ _ _ ek;have g1:=x6 (sG (rks:=rks) (i:=p1) (by lia));have g2:=x6 (sG (rks:=rks) (i:=p2) (by lia));refine qc q8 (qm g1 ?_);refine qc q8 (qm g2 ?_);refine⟨v % 40+1+max (rks.getD p1 0) (rks.getD p2 0),rfl,rfl,λe' i' j' z=>?_⟩;cases z;have a1:rks.getD p1 0<=max (rks.getD p1 0) (rks.getD p2 0):=Int.le_max_left ..;have a2:rks.getD p2 0<=max (rks.getD p1 0) (rks.getD p2 0):=Int.le_max_right ..;constructor<;>lia
  ·rintro a5 C ⟨r,rfl,rfl,hr⟩;refine qc q8 (qw q8 ⟨by rw[a4];exact big _ (by lia),?_⟩);refine⟨_,DU _,rks++[r],_,_,_,rfl,?_,by rw[Ac,I];rfl,xV.snoc ok T (by rw[I];exact ek) hr⟩;rw[xr,Am];rfl
 ·rintro τ C ⟨rks,c3,c4,c5,rfl,rfl,I,T⟩;rw[iG,Ab] at I;have s1:qg L (qi L U (.lst (rks.map Y.int))):=By J;refine qc (s1 _ _ ha) ?_;have lo:(a7 l).length=l.length:=Ab ..;refine⟨⟨A5 _,by rw[lo];lia⟩,λp hp=>qw q8 ?_⟩;have al:U≠p:=km q8 hp;have au:Pt≠p:=km (s1 _ _ hP) hp;have av:Pt≠U:=km hP J;refine⟨l.length,rks,U,by rw[AZ,lo],rfl,(qb al).trans q8,I,hz,(qb au).trans ((qb av).trans hP),λD qs hD pm pw=>?_⟩;have aL:=jg hD;have ba:=jg aL;refine⟨qi L D (.lst (nY qs)),λb o e=>?_,q D qs ba pm (adc ok T I pw)⟩;by_cases c:b=D
  ·subst c;rw[q8] at e ⊢;exact e
  ·rw[qb c] at e ⊢;rw[qb (λz=>by subst z;rw[jg hp] at e;cases e),qb (λz=>by subst z;rw[J] at e;cases e)];exact e
theorem tK(y:Y)(l:List Y):jM (y::l) (some 1) none=l:=by
 unfold jM;have e:HT.sIx (y::l).length 0 (some 1)=1:=by show min 1 (l.length+1)=1;lia
 rw[e];show(l.take (l.length+1-1))=l;rw[Nat.add_sub_cancel,A9]
theorem wL(y:Y)(l:List Y):¬(HT.sIx (y::l).length 0 (some 1)=0/\HT.sIx (y::l).length (y::l).length none=(y::l).length):=λz=>by
 have e:HT.sIx (y::l).length 0 (some 1)=1:=by show min 1 (l.length+1)=1;lia
 rw[e] at z;exact absurd z.1 (by decide)
def kdR:Ru->Str
 |.link _ _ => "link"
 |.ei _ _ => "either"
 |.bo _ _ _ => "both"
 |.cu _ _ _ _ => "cut"
theorem pP(A:Ru):qj A=.tup (.str (kdR A)::(nY (plR A)++(qk A).map qj)):=by cases A<;>rfl
def cT(n:Nat):jl:=λys L Q=>∃R:Ru,∃d,∃kvs:List (jf×Y),∃f:Nat->Nat,ys=[qj R,.ref d]/\L d=some (.dct kvs)/\(∀B∈xm R,∀x∈plR B,kq kvs (.inl (x:Int))=some (.int (f x:Int)))/\zp R<=n/\Q (qj (oQ f R)) L
theorem aar:∀ys L Q,¬cT 0 ys L Q:=by rintro ys L Q ⟨A,_,_,_,_,_,_,h,_⟩;have:=lz A;lia
theorem wB{P:List Nat}{J:List Ru}(h:(nY P++J.map qj)[i]?=some y):(i<P.length/\∃x,P[i]?=some x/\y=.int (x:Int))\/(P.length<=i/\∃B,J[i-P.length]?=some B/\y=qj B):=by
 by_cases c:i<P.length
 ·rw[AG (by rw[ku];exact c)] at h;exact .inl ⟨c,hV h⟩
 ·rw[Aw (by rw[ku];lia),ku,An] at h;obtain⟨B,e,z⟩:=Ap.mp h;exact .inr ⟨by lia,B,e,z.symm⟩
theorem abk(n:Nat):∀ys L Q,cT (n+1) ys L Q->xj (pq (cT n)) 3 ys L Q:=by
 rintro ys L Q ⟨R,d,t,f,rfl,hd,I,hr,q⟩;have big:=bg_;by_cases U:∃a b,R=.link a b
 ·obtain⟨a,b,rfl⟩:=U;have v1:=I _ (bX _) a (Ak ..);have v2:=I _ (bX _) b (Ae _ (Ak ..));refine jz hd (qm v1 ?_);refine jz hd (qm v2 ?_);refine jz hd (qm v1 ?_);refine jz hd (qm v2 ?_);refine jw ?_;have e1:min (f a:Int) (f b:Int)=((min (f a) (f b):Nat):Int):=apw _ _;have e2:max (f a:Int) (f b:Int)=((max (f a) (f b):Nat):Int):=as5 _ _;have q:Q (.tup [.str "link",.int ((min (f a) (f b):Nat):Int),.int ((max (f a) (f b):Nat):Int)]) L:=q;rw[<-e1,<-e2] at q;exact q
 have hk:kdR R ≠ "link" := by cases R with|link a b=>exact absurd ⟨a,b,rfl⟩ U|ei r A=>show(Str.ofString "either") ≠ "link";decide +kernel|bo r A B=>show(Str.ofString "both") ≠ "link";decide +kernel|cu p s A B=>show(Str.ofString "cut") ≠ "link";decide +kernel
 have T:Q (.tup ([.str (kdR R)]++nY ((plR R).map f)++(qk R).map λB=>qj (oQ f B))) L:=by cases R with|link a b=>exact absurd ⟨a,b,rfl⟩ U|ei r A=>exact q|bo r A B=>exact q|cu p s A B=>exact q
 have vp:∀x∈plR R,kq t (.inl (x:Int))=some (.int (f x:Int)):=I R (bX R);have va:∀B∈qk R,zp B<=n/\∀C∈xm B,∀x∈plR C,kq t (.inl (x:Int))=some (.int (f x:Int)):=λB hB=>⟨by have:=v5 hB;lia,λC hC=>I C (wv (oq hB) hC)⟩;have lp:(plR R).length<=2:=by cases R<;>simp[plR]
 have lA:(qk R).length<=2:=by cases R<;>simp[qk]
 rw[pP R];generalize plR R=P at vp T lp;generalize qk R=l at va T lA;generalize kdR R=g at hk T;clear q I U hr;have e0:dQ (Y.str g::(nY P++l.map qj)) 0=some (Y.str g):=x6 (xs:=Y.str g::(nY P++l.map qj)) (j:=0) rfl;have ll:(nY P++l.map qj).length=P.length+l.length:=by rw[Ac,ku,Ab]
 walk_at "w";rw[e0];refine xi (Au hk) ?_;refine⟨wL _ _,?_⟩;rw[tK];refine fj (λi J=>J=nY ((P.take i).map f)) (by rw[ll];exact big _ (by lia)) trivial rfl ?_ ?_
 ·rintro i y J hy rfl;rcases wB hy with⟨c,x,ex,rfl⟩|⟨c,B,eB,rfl⟩
  ·refine jz hd (qm (vp x (AD ex)) ⟨_,DU _,rfl,?_⟩);rw[Bc,ex,Am,fg];rfl
  ·have e1:P.take (i+1)=P.take i:=by rw[Bq (by lia),Bq c]
   have z:gy (λJ L'=>L'=L/\J=nY ((P.take (i+1)).map f)) (nY ((P.take i).map f)) L:=⟨_,DU _,rfl,by rw[e1]⟩;rw[pP B];exact z
 rintro J rfl p1 h1;rw[ll,Bq (by lia)];walk_at "w";rw[e0];intro p2 h2;have s1:=By (o:=.lst (nY (P.map f))) h1;have s2:=s1.trans (By (o:=.lst [Y.str g]) h2);refine⟨_,_,q8,By h2 _ _ q8,?_,λp3 h3=>?_⟩
 ·rw[ku,Ab];exact Bi (big _ (by show 1+P.length<=20000;lia))
 have s3:=s2.trans (By (o:=.lst ([Y.str g]++nY (P.map f))) h3);have g3:∀{o},qi (qi (qi L p1 (.lst (nY (P.map f)))) p2 (.lst [Y.str g])) p3 o p3=some o:=q8;refine⟨wL _ _,?_⟩;rw[tK];have g3:=g3 (o:=.lst ([Y.str g]++nY (P.map f)));generalize qi (qi (qi L p1 (.lst (nY (P.map f)))) p2 (.lst [Y.str g])) p3 (.lst ([Y.str g]++nY (P.map f)))=L3 at s3 g3 ⊢;refine fj (λi J=>J=(l.take (i-P.length)).map λB=>qj (oQ f B)) (by rw[ll];exact big _ (by lia)) trivial (by rw[Nat.zero_sub];rfl) ?_ ?_
 ·rintro i y J hy rfl;rcases wB hy with⟨c,x,ex,rfl⟩|⟨c,B,eB,rfl⟩
  ·exact⟨_,DU _,rfl,by rw[Nat.sub_eq_zero_of_le c,Nat.sub_eq_zero_of_le (Bi c)]⟩
  ·obtain⟨h1,h2⟩:=va B (AD eB);have z:cT n [qj B,.ref d] L3 λz L4=>gy (λJ L'=>L'=L3/\J=(l.take (i+1-P.length)).map λB=>qj (oQ f B)) (((l.take (i-P.length)).map λB=>qj (oQ f B))++[z]) L4:=by refine⟨B,d,t,f,rfl,s3 _ _ hd,h2,h1,_,DU _,rfl,?_⟩;rw[Nat.succ_sub c,Bc,eB,Am];rfl
   rw[pP B] at z ⊢;exact z
 rintro J rfl p4 h4;rw[ll,DE,A9];refine⟨_,_,(qb (km g3 h4)).trans g3,q8,?_,λp5 h5=>?_⟩
 ·rw[Ac,ku,Ab,Ab];exact Bi (big _ (by show 1+P.length+l.length<=20000;lia))
 exact qw q8 (we ((s3.trans (By h4)).trans (By h5)) T)
theorem SR.pl{E:List Nat}(h:SR ks R E):∀B∈xm R,∀x∈plR B,x<ks.length:=λB U x J=>by
 obtain⟨⟨p,s⟩,_⟩:=h.rls B U;have l:=s.lt;cases s with
 |link=>exact l x J
 |ei=>rw[Ai.mp J];exact l _ (Ak ..)
 |bo=>rw[Ai.mp J];exact l _ (Ak ..)
 |cu g j h3 o=>
  rcases Ao.mp J with rfl|J
  ·exact l _ (Ar _ (g.sub _ h3))
  ·rw[Ai.mp J];exact l _ (Ah _ (j.sub _ o))
def afe(f:Nat->Nat):Kn->Kn
 |.lf t n=>.lf t n
 |.nd e i j=>.nd e (f i) (f j)
theorem zY(f:Nat->Nat)(k:Kn):iP f (some k)=some (afe f k):=by cases k<;>rfl
def fk(Pt:Addr):jl:=λys L Q=>∃a,∃ks:List Kn,∃R:Ru,∃E:List Nat,∃s:Int,ys=[.ref a,qj R,.int s]/\L a=some (.lst (jc ks))/\cY ks/\SR ks R E/\(qp R).Perm (List.range ks.length)/\ks.length<=63/\L Pt=some (.tb lamQ)/\
 ∀w f ir,L w=none->ir.length=ks.length->Ren f (ks.map some) (ir.map some)->Q (.tup [.ref w,qj (oQ f R)]) (qi L w (.lst (jc ir)))
theorem u8 :∀ys L Q,fk Pt ys L Q->xj (lD (i3 Pt) (cT 120)) 7 ys L Q:=by
 rintro ys L Q ⟨a,T,R,E,s,rfl,ha,aL,sr,tp,hz,hP,q⟩;have big:=bg_;obtain⟨l,o⟩:∃l,l=T.map some:=⟨_,rfl⟩;have ba:l.length=T.length:=by rw[o,Ab]
 have ok:OkO l:=by rw[o];exact adh aL
 have bf:L a=some (.lst (a7 l)):=by rw[o,aY];exact ha
 intro d hd w hw;have a5:L w=none:=jg hw;have a1:d≠w:=km q8 hw;have s0:qg L (qi (qi L d (.dct [])) w (.lst [])):=(By hd).trans (By hw);refine⟨a,T,s,rfl,s0 _ _ ha,by rw[<-o];exact ok,by lia,s0 _ _ hP,λD J hD pm pf=>?_⟩;rw[<-o] at pm pf;have bg:L D=none:=jg (jg hD);have ag:w≠D:=km q8 hD;have al:d≠D:=km ((qb a1).trans q8) hD;have lq:J.length=l.length:=by rw[pm.length_eq,BG]
 have bb:J.Nodup:=pm.nodup_iff.mpr B4;have mq:∀p∈J,p<l.length:=λp hp=>Bb.mp (pm.mem_iff.mp hp);have G0:ajl L l J d w D 0 0 (λ_=>0) (([]:List Kn).map some) [] (qi (qi (qi L d (.dct [])) w (.lst [])) D (.lst (nY J))):=
  ⟨s0.trans (By hD),(qb al).trans ((qb a1).trans q8),(qb ag).trans q8,q8,Aj _,λp=>rfl,Gap.nil _ _,Aj _⟩
 refine vh q8 λkeep kp=>w6 ⟨λi τ C=>∃f,∃j:List Kn,∃U c5 c6,τ=[some (.ref a),some (qj R),some (.int s),some (.ref d),some (.ref w),c5,c6]/\ajl L l J d w D i 0 f (j.map some) U C/\j.length=i,⟨_,[],_,_,_,rfl,G0,rfl⟩,?_,?_,?_⟩
 ·rintro i τ C ⟨f,j,U,c5,c6,rfl,G,_⟩;exact kp C (by rw[G.hD,q8])
 ·rintro i y τ C hy ⟨f,j,U,c5,c6,rfl,G,lm⟩;obtain⟨p,ep,rfl⟩:=hV hy;have hi:=jy ep;have hp:p<l.length:=mq p (AD ep);obtain⟨k,hk⟩:∃k,T[p]?=some k:=⟨_,Af (by lia)⟩;have au:l[p]?=some (some k):=by rw[o,An,hk];rfl
  have pn:p∉J.take i:=λhm=>by
   have e2:J=J.take i++p::J.drop (i+1):=by rw[Af hi] at ep;rw[<-AN ep,BN,A8]
   have nd:=bb;rw[e2] at nd;exact(Ax.mp nd).2.2 p hm p (Ak ..) rfl
  have et:J.take (i+1)=J.take i++[p]:=by rw[Bc,ep];rfl
  have a2:∀e i' j',some k=some (.nd e i' j')->i'∈J.take i/\j'∈J.take i:=λe i' j' z=>kJ ok pm pf ep (by rw[au,z]);have a3:∀x∈J.take i,∀e i' j',l[x]?=some (some (.nd e i' j'))->i'∈J.take i/\j'∈J.take i:=λx hx e i' j' z=>by
   obtain⟨n,hn⟩:=C4 hx;have bc:=jy hn;rw[A3] at bc;rw[Dv (by lia)] at hn;obtain⟨h1,h2⟩:=kJ ok pm pf hn z;have sb:∀y,y∈J.take n->y∈J.take i:=λy hy=>by
    have:J.take n=(J.take i).take n:=by rw[List.take_take,Cm (by lia)]
    rw[this] at hy;exact BX hy
   exact⟨sb _ h1,sb _ h2⟩
  have av:C w=some (.lst (jc j)):=by rw[G.hw,aY]
  have vp:∀y:Nat,kq (i5 U (.inl (p:Int)) (.int ((j.length:Nat):Int))) (.inl (y:Int))=if y∈J.take i++[p] then some (.int (((if y=p then j.length else f y):Nat):Int)) else none:=λy=>by
   rw[sE];by_cases e:y=p
   ·subst e;rw[AB rfl,AB rfl,AB (Ah _ (Ai.mpr rfl))]
   ·rw[AC (λz=>e (Dz.mp (Sum.inl.inj z))),AC e,G.val];by_cases h:y∈J.take i
    ·rw[AB h,AB (Ar _ h)]
    ·rw[AC h,AC λz=>(Aq.mp z).elim h λz=>e (Ai.mp z)]
  have kl:=G.len;have I:(jc j).length=j.length:=Ab ..;refine qc av ?_;rw[I];refine jz G.hd ⟨big _ (by lia),?_⟩;have bd:a≠d:=km ha hd;refine qc ((qb bd).trans (G.sub _ _ ha)) (qm (jj hk) ?_);have a4:qi C d (.dct (i5 U (.inl (p:Int)) (.int ((j.length:Nat):Int)))) w=some (.lst (jc j)):=(qb (AF a1)).trans av;have hb:∀x∈J.take i,x<l.length:=λx hx=>mq x (BX hx);have em:(j++[afe f k]).map some=j.map some++[iP f (some k)]:=by rw[zY,Am];rfl
  have done:gy (λτ C=>∃f,∃j:List Kn,∃U c5 c6,τ=[some (.ref a),some (qj R),some (.int s),some (.ref d),some (.ref w),c5,c6]/\ajl L l J d w D (i+1) 0 f (j.map some) U C/\j.length=i+1) [some (.ref a),some (qj R),some (.int s),some (.ref d),some (.ref w),some (.int (p:Int)),some (mJ k)] (qi (qi C d (.dct (i5 U (.inl (p:Int)) (.int ((j.length:Nat):Int))))) w (.lst (jc j++[mJ (afe f k)]))):=by
   refine⟨_,DU _,λx=>if x=p then j.length else f x,j++[afe f k],_,_,_,rfl,⟨(G.sub.upd hd).upd a5,(qb a1).trans q8,?_,(qb (AF ag)).trans ((qb (AF al)).trans G.hD),?_,λy=>?_,?_,?_⟩,by rw[Ac,lm];rfl⟩
   ·rw[q8,aY];unfold jc;rw[Am];rfl
   ·have:=eQ U (.inl (p:Int)) (.int ((j.length:Nat):Int));lia
   ·rw[et];exact vp y
   ·rw[et,em];have:=G.gap.step hb pn au a3 a2;rw[Ab] at this;exact this
   ·rw[Ab,Ac,lm];show i+1<=_;lia
  refine qc a4 ?_;cases k with
  |lf t n=>exact qw a4 ⟨by rw[I];exact big _ (by lia),done⟩
  |nd e p1 p2=>
   obtain⟨m1,m2⟩:=a2 e p1 p2 rfl;have v1:=vp p1;have v2:=vp p2;rw[AB (Ar _ m1),AC λ(z:p1=p)=>pn (z▸m1)] at v1;rw[AB (Ar _ m2),AC λ(z:p2=p)=>pn (z▸m2)] at v2;refine jz ((q8:qi C d _ d=some _)) (qm v1 ?_);refine jz ((q8:qi C d _ d=some _)) (qm v2 ?_);exact qw a4 ⟨by rw[I];exact big _ (by lia),done⟩
 ·rintro τ C ⟨f,j,U,c5,c6,rfl,G,lm⟩;have eq:(nY J).length=J.length:=Ab ..;rw[eq] at G lm;have et:J.take J.length=J:=A9;have val:∀p,p<l.length->kq U (.inl (p:Int))=some (.int (f p:Int)):=λp hp=>by rw[G.val,et,AB (pm.mem_iff.mpr (Bb.mpr hp))]
  have gap:Gap l (List.range l.length) f (j.map some):=by have g:=G.gap;rw[et] at g;exact⟨λp hp=>g.at_ p (pm.mem_iff.mpr hp),λp hp r hr=>g.inj p (pm.mem_iff.mpr hp) r (pm.mem_iff.mpr hr),λx k hx=>let ⟨r,hr,e⟩:=g.only x k hx;⟨r,pm.mem_iff.mp hr,e⟩,g.ok⟩
  have rd:=xg R;have tl:=tp.length_eq;rw[BG] at tl;refine⟨R,d,U,f,rfl,G.hd,λB hB x hx=>val x (by rw[ba];exact sr.pl B hB x hx),by lia,?_⟩;refine we (ER G.sub (by rw[G.hw,aY])) (q w f j a5 (by lia) ⟨by rw[<-o];exact gap,by rw[Ab,Ab];lia⟩)
def afp(J:jl)(p1:jl)(p2:jl)(p3:jl)(p4:jl)(p5:jl):vt:=(qt (zf (jq z0) (qh 3))
 (qt (zf (jq z0) (qh 4))
 (qt (dc (i4 (q9 0)) (bB 2 (je (qh 5) (je (qh 6) ac))) (qt (agd 7 8 (qd (z9 J (qd (q9 6) (aH (q9 5) (zk 48271)))) (qd (z9 J (qd (q9 6) (aH (q9 5) (zk 69621)))) z0)))
 (qt (jt (yB (zb yGt (zb k8 (zb k8 (bT 3) (bT 4)) (zk 12)) (q9 2))) ai6 j8)
 (qt (zf (zb xu (q9 7) (zk 9)) (qh 9))
 (qt (zf (zb vv (q9 7) (zk 9)) (qh 7))
 (jt (yOr (yB (zb yLt (q9 9) (zk 3))) (dk (q9 4) (jq z0))) (qt (jk (af j6 (q9 3) (qd (kg (qd (dR "plain") (qd (z9 p1 (qd (q9 1) (qd (zb xu (q9 8) (zk 3)) z0))) z0))) z0)))
 (qt (jk (af j6 (q9 3) (qd (kg (qd (dR "turned") (qd (z9 p1 (qd (q9 1) (qd (zb xu (q9 8) (zk 3)) z0))) z0))) z0)))
 (dE (jt (dk (zb xu (q9 7) (zk 2)) (zk 1)) (jk (af j6 (q9 3) (qd (af cg (q9 3) (qd (zb hU (bT 3) (zk 2)) z0)) z0))) j8)
 (qt (zf (zb hU (bT 3) (zk 2)) (qh 10))
 (jk (af j6 (q9 4) (qd (jq (qd (kg (qd (dR "link") (qd (q9 10) (qd (zb k8 (q9 10) (zk 1)) z0)))) (qd (jq (qd (q9 10) (qd (zb k8 (q9 10) (zk 1)) z0))) z0))) z0))))))) (jt (yB (zb yLt (q9 9) (zk 6))) (jk (z9 p2 (qd (q9 3) (qd (zb wz (q9 4) (zb xu (q9 8) (bT 4))) (qd (q9 7) (qd (zb vv (q9 8) (zk 64)) z0)))))) (jt (ox (yB (zb yLt (q9 9) (zk 8))) (yB (zb yGt (bT 4) (zk 1)))) (jk (z9 p3 (qd (q9 3) (qd (q9 4) (aH (q9 7) (q9 8)))))) (jk (z9 p4 (qd (q9 3) (qd (q9 4) (aH (q9 7) (q9 8))))))))))))))
 (dE (jt (dk (q9 4) (jq z0)) (qt (jk (af j6 (q9 3) (qd (kg (qd (dR "turned") (qd (z9 p1 (aH (q9 1) (zk 0))) z0))) z0)))
 (qt (jk (af j6 (q9 3) (qd (kg (qd (dR "plain") (qd (z9 p1 (aH (q9 1) (zk 0))) z0))) z0)))
 (jk (af j6 (q9 4) (qd (jq (qd (kg (qd (dR "link") (aH (zk 0) (zk 1)))) (qd (jq (aH (zk 0) (zk 1))) z0))) z0))))) j8)
 (qt (fb (yB (zb yGt (bT 4) (zk 1))) (jk (z9 p3 (qd (q9 3) (qd (q9 4) (qd (zb k8 (zb vv (q9 1) (zk 7)) (bT 4)) (qd (zb vv (q9 1) (zk 3)) z0)))))))
 (zy (z9 p5 (qd (q9 3) (qd (zb wz (xc 4 0) (zk 0)) (vk (q9 1)))))))))))
def lT(Pt:Addr):jl:=λys L Q=>∃J,∃U:List Int,∃s:Int,∃room:Nat,ys=[.ref J,.int s,.int (room:Int)]/\L J=some (.lst (U.map Y.int))/\U.length<=1000/\room<=60/\L Pt=some (.tb lamQ)/\
 ∀w ks R E,L w=none->TrO ks R E->(qp R).Perm (List.range ks.length)->Q (.tup [.ref w,qj R]) (qi L w (.lst (jc ks)))
theorem ac6 :∀ys L Q,lT Pt ys L Q->xj (afp qF lU lV ou pH (fk Pt)) 11 ys L Q:=by
 rintro ys L Q ⟨cy,ns,s,room,rfl,ag,bg,bc,hP,q⟩;have big:=bg_;have g:∀fo:List Tr,(zj fo).length=fo.length:=λfo=>Ab ..;have l:∀J:List Kn,(jc J).length=J.length:=λJ=>Ab ..;intro U al fa au;have nkf:U≠fa:=km q8 au;have aL:L fa=none:=(By al).none au;have F0:oA L (qi (qi L U (.lst [])) fa (.lst [])) U fa [] []:=by
  refine⟨⟨by rw[qb nkf];exact q8,λt ht=>by simp at ht,λt ht=>by simp at ht,by simp,by simp,by simp[nkf],λp k e=>by simp at e,(By al).trans (By au),λx hx=>?_⟩,q8⟩;rcases Ao.mp hx with rfl|hx
  ·exact al
  ·rw[Ai.mp hx];exact aL
 generalize qi (qi L U (.lst [])) fa (.lst [])=L1 at F0;refine vh (F0.b.sub _ _ ag) λkeep kp=>w6 ⟨λ_ I L'=>TW L U fa s room I L',?_,?_,?_,?_⟩
 ·exact TW.of F0 (Bf _)
 ·rintro i I L' ⟨c0,c5,c6,c7,c8,c9,gD,J,fo,rfl,F,hb⟩;exact kp L' (by rw[F.b.sub _ _ ag,F0.b.sub _ _ ag])
 ·rintro i y I L' ey ⟨c0,c5,c6,c7,c8,c9,gD,J,fo,rfl,F,hb⟩;obtain⟨z,ez,rfl⟩:=gn ey;obtain⟨cell,ec,rfl⟩:∃cell:Int,ns[i]?=some cell/\z=Y.int cell:=by rw[An] at ez;obtain⟨z,e1,e2⟩:=Ap.mp ez;exact⟨z,e1,e2.symm⟩
  have hi:=(AL.mp ec).1;refine⟨cell,((i:Nat):Int),48271,rfl,by exact A5 _,by omega,by decide,by decide,λone h1 bh=>⟨cell,((i:Nat):Int),69621,rfl,by exact A5 _,by omega,by decide,by decide,λtwo h2 bi=>?_⟩⟩;refine qc F.b.hk (qc F.hf ?_);refine x0 (λc=>?_) λc=>?_
  ·exact⟨_,DU _,TW.of F hb⟩
  have c:¬((((jc J).length:Nat):Int)+(((zj fo).length:Nat):Int)+12 > (room:Int)):=c;rw[l,g] at c;refine⟨(by decide:(0:Int)<9),⟨by decide,by decide⟩,?_⟩;refine x0 (λc3=>?_) λc3=>?_
  case' refine_1=>
   obtain⟨L2,ba⟩:∃L2,L2=L':=⟨_,rfl⟩;rw[<-ba];have F':oA L L2 U fa J fo:=by rw[ba];exact F
  case' refine_2=>
   intro p hp;refine wm (by decide) (By hp _ _ F.hf) q8 ((F.b.mono (By hp)).dats (by lia)) (.nil:Paired (jd _ 0) _ []) ?_;show wc (Da.eqs (fo.map fG) []) _ _;rw[wU];have F':oA L (qi L' p (.lst [])) U fa J fo:=F.mono (By hp);generalize qi L' p (.lst [])=L2 at F';refine x0 (λc0=>?_) λc0=>?_
  case' refine_2.refine_2=>
   have bd:0<fo.length:=by cases fo with|nil=>exact absurd rfl c0|cons _ _=>simp
   have F:=F';refine x0 (λc6=>?_) λc6=>?_
   ·obtain⟨j,t,ej,lj,et⟩:=dZ bd two;refine qc F.hf ⟨(by show(0:Int)<((zj fo).length:Int);rw[g];lia),qc F.hf (qm (v:=.ref t.a) (by show dQ (zj fo) (two % ((zj fo).length:Int))=_;rw[g,ej];exact x6 (by unfold zj;rw[An,et];rfl)) ?_)⟩;obtain⟨pre,post,ep⟩:=CI (AD et);rw[ep] at F hb;refine⟨⟨by decide,by decide⟩,L,U,fa,J,pre,post,t,one / 9,two / 64,rfl,F,by lia,λL3 C a1 F3 h1 h2 _=>?_⟩;refine⟨_,DU _,?_⟩;exact TW.of F3 (by rw[ep] at c;lia)
   refine x0 (λc8=>?_) λc8=>?_
   ·refine qc F.hf ?_;refine x0 (λc1=>?_) λc1=>?_
    ·have c1:(((zj fo).length:Nat):Int) > 1:=c1;rw[g] at c1;refine⟨L,U,fa,J,fo,one / 9,two,rfl,F,by lia,by lia,by lia,λL3 C a1 F3 h1 h2 _=>?_⟩;refine⟨_,DU _,?_⟩;exact TW.of F3 (by lia)
    ·refine⟨L,U,fa,J,fo,one / 9,two,rfl,F,by assumption,by lia,by lia,λL3 C a1 F3 h1 h2 h3=>?_⟩;refine⟨_,DU _,?_⟩;exact TW.of F3 (by lia)
   ·refine⟨L,U,fa,J,fo,one / 9,two,rfl,F,by lia,by lia,by lia,λL3 C a1 F3 h1 h2 h3=>?_⟩;refine⟨_,DU _,?_⟩;exact TW.of F3 (by lia)
  all_goals
   obtain⟨nm,a2⟩:∃nm,nm=mkS (aX s (two % 3)):=⟨_,rfl⟩;have av:df nm:=by rw[a2];exact rP _ _
   refine qc F'.b.hk ⟨(by decide:(0:Int)<3),s,two % 3,rfl,qw F'.b.hk ⟨big _ (by rw[l];omega),?_⟩⟩;refine qc q8 ⟨(by decide:(0:Int)<3),s,two % 3,rfl,qw q8 ⟨big _ (by rw[Ac,l];simp;omega),?_⟩⟩;rw[<-a2,xr];have e1:(jc J++[.tup [.str "plain",.str nm]])++[.tup [.str "turned",.str nm]]=jc (J++[.lf false nm,.lf true nm]):=by unfold jc;rw[Am,AR];rfl
   rw[e1];refine⟨λI L3=>∃(b:Bool) (d0 d10:Option Y),I=[d0,some (.int s),some (.int (room:Int)),some (.ref U),some (.ref fa),some (.int ((i:Nat):Int)),some (.int cell),some (.int (one / 9)),some (.int two),some (.int (one % 9)),d10]/\L3=qi L2 U (.lst (jc (J++[.lf b nm,.lf (!b) nm]))),?_,?_⟩
   ·refine⟨(by decide:(0:Int)<2),?_⟩;show wc (decide (one / 9 % 2=1)) _ _;refine x0 (λc2=>?_) λc2=>?_
    ·have l2:(jc (J++[Kn.lf false nm,.lf true nm])).length=J.length+2:=by rw[l,Ac];rfl
     have t2:((((jc (J++[Kn.lf false nm,.lf true nm])).length:Nat):Int)-2).toNat=J.length:=by rw[l2];omega
     refine qc q8 (qc q8 (qc q8 (qw q8 ⟨?_,?_,qm (v:=mJ (.lf false nm)) ?_ ?_⟩)))
     ·show(0:Int)<=(((jc (J++[Kn.lf false nm,.lf true nm])).length:Nat):Int)-2;rw[l2];omega
     ·show(((jc (J++[Kn.lf false nm,.lf true nm])).length:Nat):Int)-2<_;omega
     ·show(jc (J++[Kn.lf false nm,.lf true nm]))[((((jc (J++[Kn.lf false nm,.lf true nm])).length:Nat):Int)-2).toNat]?=_;rw[t2];unfold jc;rw[An,dq];rfl
     ·rw[xr];refine qw q8 ⟨big _ ?_,?_⟩
      ·refine AM (CM ..) ?_;show(jc (J++[Kn.lf false nm,.lf true nm])).length<=20000;rw[l2];omega
      ·refine⟨true,_,_,rfl,?_⟩;rw[xr];have e3:(jc (J++[Kn.lf false nm,.lf true nm])).eraseIdx ((((jc (J++[Kn.lf false nm,.lf true nm])).length:Nat):Int)-2).toNat++[mJ (.lf false nm)]=jc (J++[.lf true nm,.lf false nm]):=by rw[t2];unfold jc;rw[Am,List.eraseIdx_append_of_length_le (by simp),Ab,B7,Am,AR];rfl
       rw[e3];rfl
    ·exact⟨false,_,_,rfl,rfl⟩
   ·rintro bj L3 ⟨b,d0,d10,rfl,rfl⟩;have l2:(jc (J++[Kn.lf b nm,.lf (!b) nm])).length=J.length+2:=by rw[l,Ac];rfl
    have nn:(((jc (J++[Kn.lf b nm,.lf (!b) nm])).length:Nat):Int)-2=((J.length:Nat):Int):=by rw[l2];omega
    have a3:qi L2 U (.lst (jc (J++[.lf b nm,.lf (!b) nm]))) fa=some (.lst (zj fo)):=by rw[qb (AF nkf)];exact F'.hf
    have en:∀z:Int,z=((J.length:Nat):Int)->ze [J.length,J.length+1]=[.int z,.int (z+1)]:=λz e=>by rw[e];rfl
    have er:∀z:Int,z=((J.length:Nat):Int)->qj (.link J.length (J.length+1))=.tup [.str "link",.int z,.int (z+1)]:=λz e=>by rw[e];rfl
    have en:=en _ nn;have er:=er _ nn;refine qc q8 (qc a3 λpb a4 pa a5=>?_);have H:=F'.link av b (pb:=pb) (pa:=pa) a4 (by rw[en];exact a5) rfl;refine qw (((By a4).trans (By a5)) _ _ a3) ⟨big _ (by rw[g];omega),?_⟩;rw[en,er] at H;refine⟨_,DU _,?_⟩;exact TW.of H (by rw[Ac,Ac];simp;omega)
 ·rintro I L' ⟨c0,c5,c6,c7,c8,c9,gD,J,fo,rfl,F,hb⟩;refine⟨λI L3=>∃c0 c5 c6 c7 c8 c9 gD J fo,I=[c0,some (.int s),some (.int (room:Int)),some (.ref U),some (.ref fa),c5,c6,c7,c8,c9,gD]/\oA L L3 U fa J fo/\1<=fo.length/\J.length+fo.length<=max room 3,?_,?_⟩
  ·intro p hp;refine wm (by decide) (By hp _ _ F.hf) q8 ((F.b.mono (By hp)).dats (by lia)) (.nil:Paired (jd _ 0) _ []) ?_;show wc (Da.eqs (fo.map fG) []) _ _;rw[wU];have F':oA L (qi L' p (.lst [])) U fa J fo:=F.mono (By hp);generalize qi L' p (.lst [])=L2 at F';refine x0 (λc0=>?_) λc0=>?_
   ·subst c0;have k0:J=[]:=by cases J with|nil=>rfl|cons k r=>exact absurd ((F.b.tm 0).mpr (by simp)) (by simp)
    subst k0;obtain⟨nm,a2⟩:∃nm,nm=mkS (aX s 0):=⟨_,rfl⟩;have av:df nm:=by rw[a2];exact rP _ _
    refine qc F'.b.hk ⟨s,0,rfl,qw F'.b.hk ⟨big _ (by decide),?_⟩⟩;refine qc q8 ⟨s,0,rfl,qw q8 ⟨big _ (by show 1<=20000;decide),?_⟩⟩;rw[<-a2,xr];have a3:∀o,qi L2 U o fa=some (.lst (zj [])):=λo=>by rw[qb (AF nkf)];exact F'.hf
    refine qc (a3 _) λpb a4 pa a5=>?_;have H:=F'.link av true (pb:=pb) (pa:=pa) a4 a5 rfl;refine qw (((By a4).trans (By a5)) _ _ (a3 _)) ⟨big _ (by show 0<=20000;decide),?_⟩;exact⟨_,_,_,_,_,_,_,_,_,rfl,H,by simp,by simp;lia⟩
   ·exact⟨_,_,_,_,_,_,_,J,fo,rfl,F',(by cases fo with|nil=>exact absurd rfl c0|cons _ _=>simp),by lia⟩
  ·rintro I L' ⟨c0,c5,c6,c7,c8,c9,gD,J,fo,rfl,F,h1,hb⟩;refine⟨λm I L3=>∃c0 c5 c6 c7 c8 c9 gD J fo,I=[c0,some (.int s),some (.int (room:Int)),some (.ref U),some (.ref fa),c5,c6,c7,c8,c9,gD]/\oA L L3 U fa J fo/\1<=fo.length/\fo.length=m/\J.length+fo.length<=max room 3,⟨_,_,_,_,_,_,_,_,_,_,rfl,F,h1,rfl,hb⟩,?_⟩;rintro m I L' ⟨c0,c5,c6,c7,c8,c9,gD,J,fo,rfl,F,h1,hm,hb⟩;refine qc F.hf ?_;refine x0 (λc1=>?_) λc1=>?_
   ·have c1:(((zj fo).length:Nat):Int) > 1:=c1;rw[g] at c1;refine⟨λI L3=>∃c0 c5 c6 c7 c8 c9 gD J fo,I=[c0,some (.int s),some (.int (room:Int)),some (.ref U),some (.ref fa),c5,c6,c7,c8,c9,gD]/\oA L L3 U fa J fo/\1<=fo.length/\fo.length+1=m/\J.length+fo.length<=max room 3,?_,?_⟩
    ·rintro I L3 ⟨d0,d5,d6,d7,d8,d9,d10,C,a1,rfl,F3,g1,g2,g3⟩;exact⟨m-1,by lia,_,_,_,_,_,_,_,_,_,rfl,F3,g1,by lia,g3⟩
    ·refine⟨⟨by decide,by decide⟩,qc F.hf ⟨⟨by decide,by decide⟩,L,U,fa,J,fo,_,_,rfl,F,by lia,by lia,by lia,λL3 C a1 F3 g1 g2 _=>?_⟩⟩;exact⟨_,DU _,_,_,_,_,_,_,_,C,a1,rfl,F3,by lia,by lia,by lia⟩
   ·have c1:¬((((zj fo).length:Nat):Int) > 1):=c1;rw[g] at c1;obtain⟨t,rfl⟩:∃t,fo=[t]:=by
     match fo,h1,c1 with
     |[t],_,_=>exact⟨t,rfl⟩
     |t::u::r,_,c=>exact absurd (show(((t::u::r).length:Nat):Int) > 1 by simp;lia) c
    have ta:=(F.b.ht t (Ak ..)).1;refine qc F.hf (qc ta ?_);have tp:(qp t.R).Perm (List.range J.length):=by have nd:=F.b.nd;have tm:=F.b.tm;simp at nd tm;exact(A6 nd B4).mpr λx=>by rw[tm,Bb]
    have sr:=F.b.sr t (Ak ..);have hk:J.length<=63:=by simp at hb;lia
    refine⟨U,J,t.R,t.E,s,rfl,F.b.hk,F.b.ok,sr,tp,hk,F.b.sub _ _ hP,λw f C bb lk rn=>?_⟩;obtain⟨T,bf⟩:=TrO.ren F.b.ok sr tp (by lia) rn lk;exact we (ER (F.b.sub.trans (By bb)) q8) (q w C _ _ (F.b.sub.none bb) T bf)
def tf:Option Kn->Da
 |none=>.s .non
 |some (.lf t n)=>.tup [.s (.str (kL t)),.s (.str n)]
 |some (.nd e i j)=>.tup [.s (.str (kN e)),.s (.int ((i:Nat):Int)),.s (.int ((j:Nat):Int))]
theorem aex :∀k:Option Kn,jd L 1 (uB k) (tf k)
 |none=>.inl ⟨rfl,rfl⟩
 |some (.lf t n)=>aZ (.cons (EK _) (.cons (EK _) .nil))
 |some (.nd e i j)=>aZ (.cons (EK _) (.cons (EF _) (.cons (EF _) .nil)))
theorem gR{L:qr}:∀wd:List (Option Kn),Paired (jd L 1) (a7 wd) (wd.map tf)
 |[]=>.nil
 |k::r=>.cons (aex k) (gR r)
theorem vF:∀wd:List (Option Kn),Da.eqs (wd.map tf) (wd.map tf)=true
 |[]=>rfl
 |k::r=>by
  have:Da.eq (tf k) (tf k)=true:=by cases k with|none=>rfl|some k=>cases k<;>simp[tf,Da.eq,Da.eqs,iN]
  rw[AK,Da.eqs,this,vF r];rfl
theorem acv(J:List Int)(lo hi:Option Int):∃ms:List Int,jM (J.map Y.int) lo hi=ms.map Y.int/\ms.length<=J.length:=by unfold jM;refine⟨(J.drop (HT.sIx (J.map Y.int).length 0 lo)).take (HT.sIx (J.map Y.int).length (J.map Y.int).length hi-HT.sIx (J.map Y.int).length 0 lo),by rw[List.map_take,List.map_drop],?_⟩;rw[A3,Cu];lia
end L3
namespace L2
open PySem PySem.Spec PyProof.Rows
section
variable {w:World}
theorem sV{Q:Option Obj->Shared->Prop}(h:Q (s.heap.get? a) s):wpAny M A (loadIfAlive a) Q E s:=by intro U J p;simp only[loadIfAlive,Sem.wp_loadIfAlive];exact h
abbrev iW(h:Heap)(z TI TO t:Addr)(b:Bool):Prop:=h.get? z=some { cls:=.type "zip",dict:=none,data:=.fields #[rawInt t,.bool b,.bool false,.ref TI,.ref TO],slots:=#[] }
theorem se{TI TO t:Addr}{b:Bool}{o:Obj}{Q:Bool->Shared->Prop}(hz:iW s.heap z TI TO t b)(J:s.heap.get? t=some o)(q:∀h',iW h' z TI TO t true->Heap.SameBut z s.heap h'->Q false { s with heap:=h' }):
 wpAny (model prog w) A (Builtin.SmallTypes.ownedTupleIsFree (.ref z)) Q E s:=by
 unfold Builtin.SmallTypes.ownedTupleIsFree;refine Aa (AQ hz rfl (x:=rawInt t) rfl ?_);show wpAny _ _ (loadIfAlive (t:Int).toNat >>= _) _ _ _;refine Aa (sV ?_);rw[AZ,J];refine Aa (AQ hz rfl (x:=.bool b) rfl ?_);cases b with
 |true=>
  dsimp only;rw[AC (by decide)];exact Ag (q s.heap hz ⟨rfl,λ_ _=>rfl⟩)
 |false=>
  dsimp only;rw[AB (by decide)];exact Aa (wpAny_setField_rec hz (by simp) λh' U g=>Ag (q h' U g))
theorem xX{TI TO t:Addr}{c:Bool}{o:Obj}{k:Nat}{xs ys:Array Value}{x y:Value}(D:ZAp z TI TO i1 i2 l1 l2)(hz:iW s.heap z TI TO t c)(C:s.heap.get? t=some o)(I:IsPair s.heap TI (.ref i1) (.ref i2))
 (h1:dG t1 s.heap i1 l1 k) (h2:dG t2 s.heap i2 l2 k) (T:hE t1 s.heap l1 xs) (q2:hE t2 s.heap l2 ys) (hx:xs[k]?=some x) (hy:ys[k]?=some y)
 (q:∀h',iW h' z TI TO t true->dG t1 h' i1 l1 (k+1)->dG t2 h' i2 l2 (k+1)->IsPair h' s.heap.objs.size x y->
  (∀c o,c≠z->c≠i1->c≠i2->s.heap.get? c=some o->h'.get? c=some o)->Q (.ref s.heap.objs.size) { s with heap:=h' }):
 wpAny (model prog w) A (Builtin.«zip.__next__» ⟨[.ref z],[]⟩) (λjw s'=>∃v,jw=.done (.ret v)/\Q v s') E s:=by
 refine Aa (m:=field (.ref z) 2) (AQ hz rfl (x:=.bool false) rfl (Aa (m:=field (.ref z) 3) (AQ hz rfl (x:=.ref TI) rfl (Aa (Bd I rfl ?_)))));refine Aa (m:=Builtin.SmallTypes.ownedTupleIsFree (.ref z)) (se hz C λg1 z1 J=>?_);simp only[BO,if_false];refine Aa ?_;rw[<-Array.forIn_toList];simp only[BS,CS];refine Aa (Aa (AY (Aa (m:=Builtin.SmallTypes.nextOf (.ref i1)) ((h1.on λo e=>J.extBut _ _ D.n3 e).next (T.on λo e=>J.extBut _ _ D.n8 e) hx λg2 p U=>Ag (Ag ?_)))));refine Aa (Aa (AY (Aa (m:=Builtin.SmallTypes.nextOf (.ref i2)) (dG.next (l:=l2) (i:=k) (xs:=ys) (x:=y) (t:=t2) (h2.on λo e=>U.extBut _ _ (AF D.n7) (J.extBut _ _ D.n4 e)) (q2.on λo e=>U.extBut _ _ D.n14 (J.extBut _ _ D.n12 e)) hy λg r j=>Ag (Ag (Ag ?_))))));refine Aa (wpAny_newTuple (Ag ⟨_,rfl,?_⟩) (by show 2<=sizeLine;decide));have sz:g.objs.size=s.heap.objs.size:=by rw[j.1,U.1,J.1]
 have k4:∀c o,c≠z->c≠i1->c≠i2->s.heap.get? c=some o->(g.push { cls:=.type "tuple",data:=.seq #[x,y] }).get? c=some o:=λc o a1 a3 a4 e=>As _ (j.extBut _ _ a4 (U.extBut _ _ a3 (J.extBut _ _ a1 e)));have jw:=q (g.push { cls:=.type "tuple",data:=.seq #[x,y] }) (As _ (j.extBut _ _ (AF D.n4) (U.extBut _ _ (AF D.n3) z1))) (p.on λo e=>As _ (j.extBut _ _ D.n7 e)) (r.on λo e=>As _ e)
  (by rw[<-sz];exact Db _ rfl) k4
 show Q (.ref g.objs.size) _;rw[sz];exact jw
theorem xY{TI TO t:Addr}{c:Bool}{o:Obj}{k:Nat}{xs ys:Array Value}{Q:Fin->Shared->Prop}(hh:A.handled=none)(D:ZAp z TI TO i1 i2 l1 l2)(hz:iW s.heap z TI TO t c)(ht:s.heap.get? t=some o)(hI:IsPair s.heap TI (.ref i1) (.ref i2))
 (h1:dG t1 s.heap i1 l1 k) (h2:dG t2 s.heap i2 l2 k) (q1:hE t1 s.heap l1 xs) (q2:hE t2 s.heap l2 ys) (U:xs[k]?=none\/ys[k]?=none)
 (q:∀h' e,(∀c o,c≠z->c≠TO->c≠i1->c≠i2->s.heap.get? c=some o->h'.get? c=some o)->(∃o,h'.get? e=some o/\o.cls=.type "StopIteration")->E (.ref e) { s with heap:=h' }):
 wpAny (model prog w) A (Builtin.«zip.__next__» ⟨[.ref z],[]⟩) Q E s:=by
 refine Aa (m:=field (.ref z) 2) (AQ hz rfl (x:=.bool false) rfl (Aa (m:=field (.ref z) 3) (AQ hz rfl (x:=.ref TI) rfl (Aa (Bd hI rfl ?_)))));refine Aa (m:=Builtin.SmallTypes.ownedTupleIsFree (.ref z)) (se hz ht λg1 z1 J=>?_);simp only[BO,if_false];refine Aa ?_;rw[<-Array.forIn_toList];simp only[BS,CS];refine Aa (Aa (AY (Aa (m:=Builtin.SmallTypes.nextOf (.ref i1)) ?_)));have g:=h1.on λo e=>J.extBut _ _ D.n3 e;have j:=q1.on λo e=>J.extBut _ _ D.n8 e;cases p:xs[k]? with
 |none=>exact dG.stop hh g j p λg2 e s2 r=>q g2 e (λc o C _ I _ w=>s2 _ _ I (J.extBut _ _ C w)) r
 |some x=>
  have hy:ys[k]?=none:=by rcases U with h|h;rw[p] at h;cases h;exact h
  refine dG.next g j p λg2 a2 T=>Ag (Ag ?_);refine Aa (Aa (AY (Aa (m:=Builtin.SmallTypes.nextOf (.ref i2)) (dG.stop (t:=t2) (l:=l2) (i:=k) (xs:=ys) hh (h2.on λo e=>T.extBut _ _ (AF D.n7) (J.extBut _ _ D.n4 e)) (q2.on λo e=>T.extBut _ _ D.n14 (J.extBut _ _ D.n12 e)) hy λg4 e s4 r=>?_))));exact q g4 e (λc o C _ I a4 w=>s4 _ _ a4 (T.extBut _ _ I (J.extBut _ _ C w))) r
def ZS(t1 t2:Bool)(z TI TO i1 i2 l1 l2 B:Addr)(i:Nat)(h:Heap):Prop:=
 ((IsZip h z TI TO .none/\∃a b,IsPair h TO a b)\/∃t c u v,B<=t/\iW h z TI TO t c/\IsPair h t u v)/\IsPair h TI (.ref i1) (.ref i2)/\dG t1 h i1 l1 i/\dG t2 h i2 l2 i
structure ZB(z TI TO i1 i2 l1 l2 B:Addr):Prop where
 ap:ZAp z TI TO i1 i2 l1 l2
 d1:TI≠TO
 d2:TI≠i1
 d3:TI≠i2
 lt:∀c∈[z,TI,TO,i1,i2],c<B
section
variable {TI TO B:Addr}{xs ys:Array Value}
theorem ZS.keep(st:ZS t1 t2 z TI TO i1 i2 l1 l2 B i h)(k:∀b o,b∈[z,TI,TO,i1,i2]\/B<=b->h.get? b=some o->h'.get? b=some o):ZS t1 t2 z TI TO i1 i2 l1 l2 B i h':=by
 obtain⟨U,g,j,l⟩:=st;refine⟨?_,k _ _ (.inl (by simp)) g,j.on λo e=>k _ o (.inl (by simp)) e,l.on λo e=>k _ o (.inl (by simp)) e⟩;rcases U with⟨a,u,v,b⟩|⟨t,c,u,v,J,a,b⟩
 ·exact .inl ⟨k _ _ (.inl (by simp)) a,u,v,k _ _ (.inl (by simp)) b⟩
 ·exact .inr ⟨t,c,u,v,J,k _ _ (.inl (by simp)) a,k _ _ (.inr J) b⟩
theorem ZS.type(st:ZS t1 t2 z TI TO i1 i2 l1 l2 B i s.heap):s.TypeIs (.ref z) "zip" := by
 rcases st.1 with⟨a,_⟩|⟨t,c,u,v,J,a,b⟩
 ·exact⟨_,a,rfl⟩
 ·exact⟨_,a,rfl⟩
theorem aft{x y:Value}{Q:Option Value->Shared->Prop}(D:ZB z TI TO i1 i2 l1 l2 B)(hB:B<=s.heap.objs.size)(st:ZS t1 t2 z TI TO i1 i2 l1 l2 B i s.heap)(r:hE t1 s.heap l1 xs)(C:hE t2 s.heap l2 ys)(I:xs[i]?=some x)(T:ys[i]?=some y)
 (q:∀h',ZS t1 t2 z TI TO i1 i2 l1 l2 B (i+1) h'->IsPair h' s.heap.objs.size x y->(∀c o,c∉[z,TI,TO,i1,i2]->s.heap.get? c=some o->h'.get? c=some o)->Q (some (.ref s.heap.objs.size)) { s with heap:=h' }):
 wpAny (model prog w) A (pyNext (.ref z)) Q E s:=by
 have hT:=st.type;obtain⟨s1,g,s3,s4⟩:=st;unfold pyNext;refine Aa (wpAny_attempt (wpAny_callSpecial?_slot (name:="__next__") hT Er (wpAny_call_entry Er hT F.entry_zip_next ?_ (F.args_zip_next_1 _))));have ne:∀{c d:Addr},c∈[z,TI,TO,i1,i2]->B<=d->d≠c:=λh1 h2 z=>by have:=D.lt _ h1;rw[z] at h2;exact absurd h2 (Nat.not_le.mpr this)
 rcases s1 with⟨a,u,v,b⟩|⟨t,c,u,v,j,a,b⟩
 ·refine acf D.ap a g b s3 s4 r C I T λh' g1 g2 g3 p l U=>Ag (q h' ⟨.inr ⟨_,false,x,y,hB,g1,l⟩,U _ _ D.ap.n1 D.d1 D.d2 D.d3 g,g3,p⟩ l λc o J e=>?_);simp only[Ao,Br,or_false,not_or] at J;exact U c o J.1 J.2.2.1 J.2.2.2.1 J.2.2.2.2 e
 ·refine xX D.ap a b g s3 s4 r C I T λh' g1 g3 p l U=>Ag (q h' ⟨.inr ⟨t,true,u,v,j,g1,U _ _ (ne (by simp) j) (ne (by simp) j) (ne (by simp) j) b⟩,U _ _ D.ap.n1 D.d2 D.d3 g,g3,p⟩ l λc o J e=>?_);simp only[Ao,Br,or_false,not_or] at J;exact U c o J.1 J.2.2.2.1 J.2.2.2.2 e
theorem afx{Q:Option Value->Shared->Prop}(j:A.handled=none)(D:ZB z TI TO i1 i2 l1 l2 B)(st:ZS t1 t2 z TI TO i1 i2 l1 l2 B i s.heap)(l:hE t1 s.heap l1 xs)(p:hE t2 s.heap l2 ys)(J:xs[i]?=none\/ys[i]?=none)
 (q:∀h',(∀c o,c∉[z,TI,TO,i1,i2]->s.heap.get? c=some o->h'.get? c=some o)->Q none { s with heap:=h' }):wpAny (model prog w) A (pyNext (.ref z)) Q E s:=by
 have r:=st.type;obtain⟨s1,C,I,s4⟩:=st;unfold pyNext;refine Aa (wpAny_attempt (wpAny_callSpecial?_slot (name:="__next__") r Er (wpAny_call_entry Er r F.entry_zip_next ?_ (F.args_zip_next_1 _))));have jw:∀h' e,(∀c o,c≠z->c≠TO->c≠i1->c≠i2->s.heap.get? c=some o->h'.get? c=some o)->(∃o,h'.get? e=some o/\o.cls=.type "StopIteration")->wpAny (model prog w) A (isInstance (.ref e) (.type "StopIteration") >>= λb=>if b=true then pure none else throw (.ref e)) Q E { s with heap:=h' }:=λh' e gk he=>by obtain⟨o,ho,g⟩:=he;refine Aa (wpAny_isInstance (T:="StopIteration") (b:=true) ⟨o,ho,g⟩ isSubtype_stop (Ag (q h' λc o U e=>?_)));simp only[Ao,Br,or_false,not_or] at U;exact gk c o U.1 U.2.2.1 U.2.2.2.1 U.2.2.2.2 e
 rcases s1 with⟨a,u,v,b⟩|⟨t,c,u,v,hb,a,b⟩
 ·exact acm j D.ap a C b I s4 l p J jw
 ·exact xY j D.ap a b C I s4 l p J jw
end
end
inductive sF:Hp->List Addr->List (V×V)->Hp->Prop
 |nil {H:Hp}:sF H [] [] H
 |snoc {H H1:Hp} {ps:List Addr} {vs:List (V×V)} {p:Addr} {v:V×V}:sF H ps vs H1->H1 p=none->sF H (ps++[p]) (vs++[v]) (upd H1 p (.tup [v.1,v.2]))
theorem ace{o u:HO}(h:a≠b):upd (upd H a o) b u=upd (upd H b u) a o:=by
 funext c;by_cases J:c=a
 ·subst J;rw[qo h,zg,zg]
 ·by_cases U:c=b
  ·subst U;rw[zg,qo J,zg]
  ·rw[qo U,qo J,qo J,qo U]
theorem Sq.new{K:Ad}{p:Addr}{o:HO}(h:Sq t K H a xs)(J:H p=none):Sq t K (upd H p o) a xs:=by
 have rd:∀u,Rd H a u->Rd (upd H p o) a u:=λu r=>by
  rcases r with r|⟨c,r⟩
  ·exact .inl (by rw[qo (zr r J)];exact r)
  ·exact .inr ⟨c,by rw[qo (zr r J)];exact r⟩
 cases t with|false=>exact h.imp (rd _) id|true=>exact h.imp (rd _) id
section
variable {σ:L2.St}{TI TO S:Addr}{ys:List V}{R:Result->Shared->Prop}{res:Value}
theorem ahv(hh:A.handled=none)(D:ZB z TI TO i1 i2 l1 l2 (S+1))(hS:S∉[z,TI,TO,i1,i2])(hR:∀s' G ps,za X pins σ (upd G S (.lst (ps.map V.ref))) s'->sF H ps (xs.zip ys) G->G S=none->R (.ok (.ret res)) s'):
 ∀(k i:Nat) (s:Shared) (G:Hp) (ps:List Addr),min xs.length ys.length-i=k->i<=min xs.length ys.length->za X pins σ (upd G S (.lst (ps.map V.ref))) s->(∀b∈[z,TI,TO,i1,i2],jJ X pins (upd G S (.lst (ps.map V.ref))) b)->ZS t1 t2 z TI TO i1 i2 l1 l2 (S+1) i s.heap->sF H ps ((xs.zip ys).take i) G->G S=none->Sq t1 X.K G l1 xs->Sq t2 X.K G l2 ys->ps.length=i->
  codeAny (model X.prog X.w) A (.builtin "list.extend.loop" ⟨[.ref S,.ref z,res],[]⟩) R s:=by
 have zl:(xs.zip ys).length=min xs.length ys.length:=DO;intro k
 induction k with
 |zero=>
  intro i s G ps hk hi I hf st nt j J U hl;have hi:min xs.length ys.length<=i:=by lia
  obtain⟨a2,p,p1,_⟩:=I.seq (J.new j);obtain⟨a3,t,p2,_⟩:=I.seq (U.new j);have e1:=p.length;have e2:=t.length;refine codeAny_builtin F.entry_extend_loop ?_;rw[Em En _];rw[Bq (by lia)] at nt;refine Aa (m:=pyNext (.ref z)) (afx hh D st p1 p2 (by rcases Nat.le_total xs.length ys.length with h|h;exact .inl (by simp;lia);exact .inr (by simp;lia)) λh' kk=>Ag (hR _ G ps (I.turnedL (t':=s.toks) (fp:=[z,TI,TO,i1,i2]) kk hf) nt j))
 |succ k ih=>
  intro i s G ps hk hi I hf st nt j J U hl;obtain⟨a2,p,p1,z1⟩:=I.seq (J.new j);obtain⟨a3,t,p2,_⟩:=I.seq (U.new j);have hx:xs[i]?=some (xs[i]'(by lia)):=Af (by lia);have hy:ys[i]?=some (ys[i]'(by lia)):=Af (by lia);have ez:(xs.zip ys).take (i+1)=(xs.zip ys).take i++[(xs[i]'(by lia),ys[i]'(by lia))]:=by rw[Bc,(Dq (z:=(xs[i]'(by lia),ys[i]'(by lia)))).mpr ⟨hx,hy⟩];rfl
  generalize xs[i]'(by lia)=x at hx ez;generalize ys[i]'(by lia)=y at hy ez;obtain⟨ux,a4,a5⟩:=p.get hx;obtain⟨uy,ag,al⟩:=t.get hy;obtain⟨_,_,_,_,_,eS⟩:=I.lstM (l:=S) zg;have lS:S<s.heap.objs.size:=At eS;refine codeAny_builtin F.entry_extend_loop ?_;rw[Em En _];refine Aa (m:=pyNext (.ref z)) (aft D lS st p1 p2 (x:=ux) (y:=uy) (by simpa using a4) (by simpa using ag) λh' au tp kk=>?_);have I1:=I.turnedN (t':=s.toks) (fp:=[z,TI,TO,i1,i2]) (h':=h') (a:=s.heap.objs.size) (o:=.tup [x,y]) kk hf (Aj _) ⟨by show 2<=sizeLine;decide,[ux,uy],.cons a5 (.cons al .nil),⟨_,tp,rfl,_,rfl⟩⟩;have C:S≠s.heap.objs.size:=AV lS;have gP:G s.heap.objs.size=none:=by have:=I.hok.fresh (Aj s.heap.objs.size);rw[qo (AF C)] at this;exact this
  generalize s.heap.objs.size=P at I1 C gP lS tp ⊢;have T:upd (upd G S (.lst (ps.map V.ref))) P (.tup [x,y]) S=some (.lst (ps.map V.ref)):=by rw[qo C,zg]
  obtain⟨_,a1,n,r,hn,e⟩:=I1.lstM T;rw[Ab,hl] at hn;have I2:=I1.lset (its':=a1++[.ref P]) (f:=(·.push (.ref P))) (ys:=(ps++[P]).map V.ref) (t':=s.toks) T e (by simp) (by rw[Am];exact r.append (.cons rfl .nil)) (by rw[Ab,Ac,A7];lia);rw[ace C,wK] at I2;have li:a1.length=i:=by lia
  refine Aa (m:=updateSeq S (·.push (.ref P))) (wpAny_updateSeq (s:={ s with heap:=h' }) e rfl (Ag ⟨plainId_quiet En _,ih (i+1) _ (upd G P (.tup [x,y])) (ps++[P]) (by lia) (by lia) I2 (λb g=>?_) (au.keep λb o g q=>?_) (by rw[ez];exact nt.snoc gP) (by rw[qo C];exact j) (J.new gP) (U.new gP) (by rw[Ac,hl];rfl)⟩)
   (by rw[Al];lia) (by rw[DL,Al];lia))
  ·obtain⟨f0,f1⟩:=hf b g;have bl:=D.lt b g;have bS:b≠S:=λz=>hS (z▸g);refine⟨?_,f1⟩;rw[qo bS,qo (by lia)];rw[qo bS] at f0;exact f0
  ·have bS:S≠b:=by
    rcases g with g|g
    ·exactλz=>hS (z▸g)
    ·lia
   exact(Ef _ _ bS).trans q
theorem yD:typeLookup (.type "zip") "__len__" = pure none:=by rw[typeLookup_type,builtinLookup_eq_fast];kernel_rfl
theorem uL:typeLookup (.type "zip") "__length_hint__" = pure none:=by rw[typeLookup_type,builtinLookup_eq_fast];kernel_rfl
theorem abm{r:Addr}{Q:Bool->Shared->Prop}(U:s.TypeIs (.ref r) "zip")(h:Q true s):wpAny (model X.prog X.w) A (Builtin.List.listLengthHint (.ref r)) Q E s:=by unfold Builtin.List.listLengthHint;refine Aa (wpAny_specialOf U yD ?_);refine wpAny_ite_split (λJ=>absurd J (by decide)) (λ_=>?_);refine wpAny_ite_split (λJ=>absurd J (by decide)) (λ_=>?_);refine Aa (wpAny_specialOf U uL (Ag h))
theorem qW(hh:A.handled=none)(I:za X pins σ H s)(D:ZB z TI TO i1 i2 l1 l2 s.heap.objs.size)(hz:IsZip s.heap z TI TO .none)(hf:∀b∈[z,TI,TO,i1,i2],jJ X pins H b)(st:ZS t1 t2 z TI TO i1 i2 l1 l2 (s.heap.objs.size+1) 0 s.heap)(t:Sq t1 X.K H l1 xs)(C:Sq t2 X.K H l2 ys)
 (q:∀s' G ps,za X pins σ (upd G s.heap.objs.size (.lst (ps.map V.ref))) s'->sF H ps (xs.zip ys) G->G s.heap.objs.size=none->Q (.ref s.heap.objs.size) s'):wpAny (model X.prog X.w) A (call (.type "list") [.ref z]) Q E s:=by
 have hn:=I.hok.fresh (Aj s.heap.objs.size);have I0:=I.laid (t':=s.toks) (h':=s.heap.push { cls:=.type "list",data:=.seq #[] }) (a:=s.heap.objs.size) (o:=.lst []) (λb u e=>As _ e) (Aj _) ⟨Bf _,[],0,.nil,Db _ rfl⟩;have hS:s.heap.objs.size∉[z,TI,TO,i1,i2]:=λh=>Cn _ (D.lt _ h);have D':ZB z TI TO i1 i2 l1 l2 (s.heap.objs.size+1):=⟨D.ap,D.d1,D.d2,D.d3,λc hc=>BH (D.lt c hc)⟩;refine callType_codes (Q₁:=λobj U=>obj=.ref s.heap.objs.size/\U={ s with heap:=s.heap.push { cls:=.type "list",data:=.seq #[] } }) F.called_list (F.typeCall_list_1 _) F.entry_list_init (code_list_new _ ⟨rfl,rfl⟩) λobj U g=>?_;obtain⟨rfl,rfl⟩:=g;have l:(s.heap.push { cls:=.type "list",data:=.seq #[] }).get? s.heap.objs.size=some { cls:=.type "list",data:=.seq #[] }:=Db _ rfl;have aT:=st.keep (h':=s.heap.push { cls:=.type "list",data:=.seq #[] }) λb o _ e=>As _ e;refine⟨⟨_,l,rfl⟩,F.args_list_init_2 _ _,?_⟩;have key:∀(h:Heap) (c:Nat),h.get? s.heap.objs.size=some { cls:=.type "list",data:=.seq #[] c }->(∀b o,b≠s.heap.objs.size->(s.heap.push { cls:=.type "list",data:=.seq #[] }).get? b=some o->h.get? b=some o)->
  codeAny (model X.prog X.w) A.in1 (.builtin "list.extend.loop" ⟨[.ref s.heap.objs.size,.ref z,.none],[]⟩) (wants (λr j=>r=.none/\Q (.ref s.heap.objs.size) j) E) { s with heap:=h }:=λh c e k=>by
  refine ahv (X:=X) (pins:=pins) (σ:=σ) (H:=H) (xs:=xs) (ys:=ys) (A:=A.in1) hh D' hS (λs' G ps I' nt gS=>⟨rfl,q s' G ps I' nt gS⟩) _ 0 _ H [] rfl (Bf _) ?_ (λb J=>?_) (aT.keep λb o J e=>k b o ?_ e) .nil hn t C rfl
  ·exact I.laid (t':=s.toks) (h':=h) (a:=s.heap.objs.size) (o:=.lst []) (λb u e=>k b u (AV (At e)) (As _ e)) (Aj _) ⟨Bf _,[],c,.nil,e⟩
  ·obtain⟨f0,f1⟩:=hf b J;exact⟨by rw[qo (AV (D.lt b J))];exact f0,f1⟩
  ·rcases J with J|J
   ·exact AV (D.lt b J)
   ·exact CP J
 show wpAny _ _ (Builtin.List.listItems (.ref s.heap.objs.size) >>= λold=>Builtin.List.listUpdate (.ref s.heap.objs.size) (λ_=>#[]) >>= λ_=>letGo old.toList.reverse >>= λ_=>Builtin.List.listExtendWith (.ref s.heap.objs.size) (.ref z) .none) _ _ _;refine Aa ?_;unfold Builtin.List.listItems;refine Aa (Bd l rfl (Ag ?_));refine Aa (m:=updateSeq s.heap.objs.size (λ_=>#[])) (wpAny_updateSeq l rfl ?_);have e2:=Eh (Obj.mapSeq (λ_=>(#[]:Array Value))) l rfl;have p:∀b o,b≠s.heap.objs.size->(s.heap.push { cls:=.type "list",data:=.seq #[] }).get? b=some o->((s.heap.push { cls:=.type "list",data:=.seq #[] }).update s.heap.objs.size (Obj.mapSeq (λ_=>(#[]:Array Value)))).get? b=some o:=λb o J e=>(Ef _ _ (AF J)).trans e;generalize (s.heap.push { cls:=.type "list",data:=.seq #[] }).update s.heap.objs.size (Obj.mapSeq (λ_=>(#[]:Array Value)))=g2 at e2 p ⊢;refine Aa (wpAny_letGo ?_);unfold Builtin.List.listExtendWith;have a1:=aT.keep (h':=g2) λb o J e=>p b o (by rcases J with J|J;exact AV (D.lt b J);exact CP J) e;have T2:=a1.type (s:={ s with heap:=g2 });refine Aa (wpAny_typeOf (T:="zip") T2 ?_);have sr:Builtin.List.listSameRef (.ref s.heap.objs.size) (.ref z)=false:=by have:s.heap.objs.size≠z:=λe=>hS (by rw[e];simp);simp[Builtin.List.listSameRef,this]
 rw[AC (by rw[sr];decide)];refine Aa (wpAny_pyIter_zip (s:={ s with heap:=g2 }) (p _ _ (AV (D.lt z (by simp))) (As _ hz)) ?_);refine Aa (AY (abm T2 ?_));rw[AB (by decide)];refine Aa (BB (Aa ?_));show wpAny _ _ (updateSeq s.heap.objs.size (·.push .none) >>= λ_=>updateSeq s.heap.objs.size (·.pop)) _ _ _;refine Aa (wpAny_updateSeq (s:={ s with heap:=g2 }) e2 rfl ?_);have e3:=Eh (Obj.mapSeq (·.push Value.none)) e2 rfl;refine wpAny_updateSeq (hz:=by seq_fits) e3 rfl ?_;have e4:=Eh (Obj.mapSeq (·.pop)) e3 rfl;exact Ag ⟨plainId_quiet En _,key _ _ e4 λb o J e=>(Ef _ _ (AF J)).trans ((Ef _ _ (AF J)).trans (p b o J e))⟩
end
def tLZ(X:Cx)(ta:TA):TE:=λσ H Q=>ta σ H λvs H1=>∃t1 t2 a b xs ys,vs=[.ref a,.ref b]/\Sq t1 X.K H1 a xs/\Sq t2 X.K H1 b ys/\∀S G ps,sF H1 ps (xs.zip ys) G->G S=none->Q (.ref S) (upd G S (.lst (ps.map V.ref)))
theorem uZ{a b:Expr}{ta:TA}{ps:Pos}(hc:X.calm=true)(t:Gl X "list")(C:X.mg "list"=none)(T:Gl X "zip")(a1:X.mg "zip"=none)(ha:PA X [a,b] ta)(hs:starEach [a,b] X.env=[(false,eval a X.env),(false,eval b X.env)]:=by rfl)
 (j:starEach [b] X.env=[(false,eval b X.env)]:=by rfl):PE X (.Call (.Name "list" p1) [.Call (.Name "zip" p2) [a,b] [] ps] [] pos) (tLZ X ta):=by
 intro J s σ H Q I h;refine wpAny_Call_Name_kw (ck I t C aC ?_);refine callWith_type1 ?_ rfl rfl;show wpAny _ _ (spliced ((false,eval (.Call (.Name "zip" p2) [a,b] [] ps) X.env)::[])) _ _ s;refine El ?_;refine wpAny_Call_Name_kw (ck I T a1 ajc ?_);refine callWith_type1 (aI (ha ps J s σ H _ I h) λus U ⟨vs,H1,g,r1,q1⟩=>?_) (by rw[hs,j]) (by rw[j];rfl);obtain⟨t1,t2,l1,l2,xs,ys,e,hx,hy,q⟩:=q1;subst e;obtain⟨u1,u2,rfl,a2,a3⟩:=zq.two r1;cases a2;cases a3;obtain⟨au,_,w1,_⟩:=g.seq hx;obtain⟨av,_,w2,_⟩:=g.seq hy;have a4:l1<U.heap.objs.size:=by
  cases t1 with
  |false=>obtain⟨o,e,_⟩:=w1;exact At e
  |true=>obtain⟨o,e,_⟩:=w1;exact At e
 have a5:l2<U.heap.objs.size:=by
  cases t2 with
  |false=>obtain⟨o,e,_⟩:=w2;exact At e
  |true=>obtain⟨o,e,_⟩:=w2;exact At e
 refine yt w1 w2 λg1 gz gI gO l p gk=>Eo ?_;have I2:za X J σ H1 { U with heap:=g1 }:=g.kept (t':=U.toks) gk;refine qW (s:={ U with heap:=g1 }) (g.ok.hd hc) I2 ⟨?_,?_,?_,?_,λc hc=>?_⟩ gz (λc hc=>?_) ⟨.inl ⟨gz,_,_,gO⟩,gI,l,p⟩ hx hy λs' G ps I' nt gS=>⟨.ref _,_,I',rfl,q _ G ps nt gS⟩
 ·have ag:@LT.lt Nat instLTNat l1 U.heap.objs.size:=a4;have al:@LT.lt Nat instLTNat l2 U.heap.objs.size:=a5;constructor<;>exact tU (by lia)
 ·exact tU (by lia)
 ·exact tU (by lia)
 ·exact tU (by lia)
 ·simp only[Ao,Br,or_false] at hc;rcases hc with rfl|rfl|rfl|rfl|rfl
  ·exact At gz
  ·exact At gI
  ·exact At gO
  ·obtain⟨o,e,_⟩:=l.ob;exact At e
  ·obtain⟨o,e,_⟩:=p.ob;exact At e
 ·have r:U.heap.objs.size<=c:=by simp only[Ao,Br,or_false] at hc;rcases hc with rfl|rfl|rfl|rfl|rfl<;>exact leN (by simp +arith only)
  exact g.fpOk r (g.hok.fresh r)
end L2
namespace L3
open PySem L2
theorem agg{H1:Hp}{ps:List Addr}{vs:List (V×V)}(n:sF H ps vs H1)(U:j5 G H L):ja H H1/\j5 G H1 L/\Paired (λp (v:V×V)=>H1 p=some (.tup [v.1,v.2])) ps vs:=by
 induction n with
 |nil=>exact⟨DS _,U,.nil⟩
 |snoc _ J g=>
  obtain⟨a,b,c⟩:=g;exact⟨a.trans (DV J),b.skip J,Words.Paired.app (DX c λq v e=>(qo (zr e J)).trans e) (.cons zg .nil)⟩
theorem rY{G:G3}{H H1:Hp}(t:ja H H1):∀{xs ys:List Y} {us vs:List V} {ps:List Addr},xx G H xs us->xx G H ys vs->Paired (λp (v:V×V)=>H1 p=some (.tup [v.1,v.2])) ps (us.zip vs)->xx G H1 (kZ xs ys) (ps.map V.ref)
 |[],ys,us,vs,ps,h1,h2,h3=>by cases h1;cases h3;rfl
 |x::xs,[],us,vs,ps,h1,h2,h3=>by cases h2;rw[List.zip_nil_right] at h3;cases h3;rfl
 |x::xs,y::ys,us,vs,ps,⟨u,J,U,g,h1⟩,⟨v,j,l,o,h2⟩,h3=>by subst U l;cases h3 with|cons a b=>exact⟨_,_,rfl,⟨_,_,rfl,cB.of a,⟨_,_,rfl,g.ts t,_,_,rfl,o.ts t,rfl⟩⟩,rY t h1 h2 b⟩
def ac0(ta:eO)(τ:jo)(L:qr)(Q:YK):Prop:=ta τ L λvs L1=>match vs with
 |[x,y]=>fC L1 x λxs=>fC L1 y λys=>∀p,L1 p=none->Q (.ref p) (qi L1 p (.lst (kZ xs ys)))
 |_=>False
theorem ab8{a b:Expr}{ta:eO}{ps:Pos}(hc:X.calm=true)(g:Gl X "list")(j:X.mg "list"=none)(l:Gl X "zip")(o:X.mg "zip"=none)(ha:QA X [a,b] ta)(hs:starEach [a,b] X.env=[(false,eval a X.env),(false,eval b X.env)]:=by rfl)
 (p:starEach [b] X.env=[(false,eval b X.env)]:=by rfl):QE X (.Call (.Name "list" p1) [.Call (.Name "zip" p2) [a,b] [] ps] [] pos) (ac0 ta):=DW (uZ hc g j l o ha hs p) λσ H Q τ L Q3 rs rl z k=>
 ⟨τ,L,_,rs,rl,z,λus H1 ys L1 t1 J r t=>by
  split at t
  ·rename_i x y;obtain⟨xs,ex,z2⟩:=ko t;obtain⟨zs,ez,z3⟩:=ko z2;obtain⟨u,v,rfl,r1,r2⟩:=r.inv2;obtain⟨b1,q1,C,rfl,s1,w1⟩:=ac8 J r1 ex;obtain⟨b2,q2,I,rfl,s2,w2⟩:=ac8 J r2 ez;refine⟨b1,b2,q1,q2,C,I,rfl,s1,s2,λS G ps nt T=>?_⟩;obtain⟨t2,U,pr⟩:=agg nt J;exact k _ _ _ _ ((t1.trans t2).trans (DV T)) (U.newL T (rY t2 w1 w2 pr)) (by rfl) (z3 S (U.none T))
  ·exact t.elim⟩
end L3
namespace L2
open PySem PySem.Spec PyProof.Rows
def Itv(K:Ad)(a:Addr)(n:Nat):It:=⟨λi H=>i<n/\∃xs x,aJ K H a xs/\xs[n-1-i]?=some x,λi H x H'=>H'=H/\∀xs,aJ K H a xs->xs[n-1-i]?=some x,λi H=>n<=i⟩
theorem aco{P:Program}{w:World}{K:Ad}(a it:Addr)(n:Nat):yb P w K tg (Itv K a n) [it] it (λi h=>i<=n/\h.IsRevIter it a ((n:Int)-1-(i:Int))) where
 mem:=by simp
 obj:=λi h st b U=>by
  have e:b=it:=by simpa using U
  subst e;obtain⟨_,o,e,c,d⟩:=st;exact⟨o,e,λv z=>by rw[d] at z;cases z⟩
 keep:=λi h j st k=>⟨st.1,st.2.at λo e=>k it (by simp) o e⟩
 item:=by
  intro X t hw C hc i J s σ H E I l st r;subst t hw C;obtain⟨hi,xs,x,hq,hx⟩:=r;obtain⟨_,st⟩:=st;obtain⟨a1,rv,p,hz⟩:=I.list hq;obtain⟨u,hu,ru⟩:=rv.get hx;obtain⟨T,f1,f2,f3,f4,f5⟩:=l it (by simp);have e1:(n:Int)-1-(i:Int)=((n-1-i:Nat):Int):=by omega
  have e2:((n-1-i:Nat):Int)-1=(n:Int)-1-((i+1:Nat):Int):=by omega
  rw[e1] at st;refine wpAny_pyNext_rev_item st p.isList (x:=u) (by simpa using hu) λj g sb=>?_;rw[e2] at g;have I1:za X J σ H { s with heap:=j }:=I.turned (t':=s.toks) (λb o U e=>(sb.2 b U).trans e) T f1 f3 f4 f5;obtain⟨o,e,c,d⟩:=id g;exact⟨u,rfl,wE (s:={ s with heap:=j }) e c d (by decide) ⟨x,H,I1,ru,⟨rfl,λys hy=>by rw[I.list_inj hy hq];exact hx⟩,⟨hi,g⟩,λb U=>(l b U).1⟩⟩
 done:=by intro X t hw C hc i J s σ H E I l st r;subst t hw C;obtain⟨hi,st⟩:=st;have r:n<=i:=r;obtain⟨T,f1,f2,f3,f4,f5⟩:=l it (by simp);rw[show(n:Int)-1-(i:Int) = -1 by omega] at st;exact wpAny_pyNext_rev_end (I.ok.hd hc) st λj eb=>⟨rfl,I.turned (t':=s.toks) (λb o U e=>eb b o U e) T f1 f3 f4 f5⟩
 self:=λ_ _ _ _ _ st h=>wpAny_pyIter_revIter st.2 h
def at9(K:Ad)(ta:TA):TI:=λσ H R=>ta σ H λvs H1=>∃a xs,vs=[.ref a]/\aJ K H1 a xs/\R (Itv K a xs.length) H1
theorem so:bootBuiltins "reversed"=some (.type "reversed"):=by decide +kernel
theorem aiy{a:Expr}{ta:TA}(T:Gl X "reversed")(hm:X.mg "reversed"=none)(ha:PA X [a] ta)(hs:starEach [a] X.env=[(false,eval a X.env)]:=by rfl):
 PI X tg (.Call (.Name "reversed" p) [a] [] pos) (at9 X.K ta):=by
 intro J s r H R I h;refine Call_ (ck I T hm so (BL (aI (ha pos J s r H _ I h) λus U ⟨vs,t,j,r1,q1⟩=>?_) hs rfl));obtain⟨l,C,e,hq,q⟩:=q1;subst e;obtain⟨u,rfl,ru⟩:=l8 r1;cases ru;obtain⟨g,rv,pl,hz⟩:=j.list hq;have el:=rv.length;refine call_reversed_list pl.isList ?_;have st:(U.heap.push (revObj l ((g.toArray.size:Int)-1))).IsRevIter U.heap.objs.size l ((C.length:Int)-1-((0:Nat):Int)):=by rw[Al,<-el];exact⟨_,Db _ rfl,rfl,by simp[revObj]⟩
 have I2:za X J r t { U with heap:=U.heap.push (revObj l ((g.toArray.size:Int)-1)) }:=j.kept (t':=U.toks) λb o e=>As _ e;refine wpAny_pyIter_revIter (s:={ U with heap:=U.heap.push (revObj l ((g.toArray.size:Int)-1)) }) st ?_;refine⟨_,[_],_,_,t,rfl,I2,aco l _ C.length,⟨Bf _,st⟩,λb hb=>?_,q⟩;have e:b=U.heap.objs.size:=by simpa using hb
 subst e;exact j.fpOk (Aj _) (j.hok.fresh (Aj _))
end L2
namespace L3
open PySem L2
theorem ud{keep:qr->Prop}(h:∀H L,ja H₀ H->j5 G H L->keep L->∃xs,aJ G.K H a xs/\xx G H ys xs):fe G H₀ (Itv G.K a ys.length) ys.reverse keep where
 go:=λi H L t J U g=>by obtain⟨xs,sq,r⟩:=h H L t J U;have l:=r.length;rw[BJ] at g;exact⟨g,xs,xs[ys.length-1-i]'(by omega),sq,Af _⟩
 yld:=λi H L x C y t J U j ⟨e,f⟩=>by
  subst e;obtain⟨xs,sq,r⟩:=h _ L t J U;have g:i<ys.length:=by have:=(AL.mp j).1;rwa[BJ] at this
  rw[CY g] at j;obtain⟨I,o,p⟩:=r.get j;have:=f xs sq;rw[o] at this;cases this;exact⟨DS _,J,p⟩
 stop:=λH L t J U=>by show ys.length<=ys.reverse.length;rw[BJ];exact Aj _
def aiq(tl:xp)(τ:jo)(L:qr)(R:List Y->(qr->Prop)->qr->Prop):Prop:=tl τ L λx L1=>match x with
 |.ref a=>rD L1 a λys keep L=>R ys.reverse keep L
 |_=>False
theorem akn{a:Expr}(T:Gl X "reversed")(hm:X.mg "reversed"=none)(ha:QE X a te)(hs:starEach [a] X.env=[(false,eval a X.env)]:=by rfl)
 (g:starEach [a] X.env=(false,eval a X.env)::starEach [] X.env:=by rfl):QI X tg (.Call (.Name "reversed" p) [a] [] pos) (aiq te):=PI.imq (aiy T hm (wn ha dD g) hs) λσ H R τ L R3 rs j z k=>by
 refine⟨τ,L,_,rs,j,z,λv l y t t1 J o C=>?_⟩;cases y with
 |ref a=>
  obtain⟨ys,keep,es,kp,hk,z2⟩:=mM C;have I:∀H L,ja l H->j5 X.g3 H L->keep L->∃U,aJ X.K H a U/\xx X.g3 H ys U:=λH L _ j e=>cH j (hk L e);obtain⟨U,sq,r⟩:=I l t (DS _) J kp;cases o;exact⟨a,U,rfl,sq,by rw[<-r.length];exact k _ l _ _ t t1 J (ud I) z2⟩
 |_=>exact C.elim
end L3
namespace L2
open PySem PySem.Spec PyProof.Rows
def ahk(K:Ad)(Dc:Addr)(th:TS)(D:jK):X1:=λσ c H=>∃C,c=.ref C/\PySem.W.exmOne K (.ref C) (.ref Dc)=some true/\th D σ H
def anf(K:Ad)(Dc:Addr)(tb:X1->TS)(th:TS):TS:=λD σ H=>tb (ahk K Dc th D) D σ H
theorem ahr{tb:X1->TS}{th:TS}(hs:X.stack=X.env::X.outer)(hf:X.env.frame=some X.env.locals)(hx:X.ex=[])
 (hg:Gl X x) (hm:X.mg x=some (.ref Dc)) (hb:∀(pn:List (Addr×Obj)) (xe:Value->Shared->Prop) (E1:X1),a6 (X.tr pn xe) E1->fN (X.tr pn xe) body (tb E1)) (hh:∀a,fN (X.hnd a) (nC::kt) th)
 (a2:Ed x:=by decide):PS X (.Try body [.ExceptHandler (some (.Name x np)) none (nC::kt) wh] [] [] pos) (anf X.K Dc tb th):=by
 intro U s σ H D I h;have tk:a6 (X.tr (X.pn++U) (λe s'=>∃g j H' a C tr,e=.ref a/\za X U j H' s'/\oB X.s₀.heap s'.heap H' a C tr/\og (X.tr (X.pn++g) X.xe) a/\(∀p∈X.pn++U,p.1≠a)/\(∀T,tr=some T->∀p∈X.pn++U,p.1≠T)/\ahk X.K Dc th D j (.ref C) H'))
  (ahk X.K Dc th D):=λg j H' s' a C tr I' L ap a3 q=>⟨[],j,H',a,C,tr,rfl,I'.untr,L,⟨ap.1,ap.2.1,λp l=>ap.2.2 p (by have l:p∈X.pn++[]:=l;rw[AX] at l;exact Ar _ l)⟩,ap.2.2,λT e=>(a3 T e).2.2,q⟩
 refine wpAny_Try_except (AO (hb _ _ _ tk [] s σ H D (I.tr _) h) (λf s1 h1=>?_) λe s1 h1=>?_)
 ·have h2:=SP.untr h1;cases f with|next=>exact wpAny_execs_nil h2|brk=>exact h2|cont=>exact h2|ret u=>exact h2
 ·obtain⟨g,j,H',a,C,tr,rfl,I1,L,ap,pa,a4,C',ec,em,q⟩:=h1;cases ec;refine wW I1 hs hf hx L (λp l=>⟨pa p l,λT e=>a4 T e p l⟩) λh' T I2 L2 a1=>?_;refine wpAny_handleBy_cons (codeAny_handlers_test ?_) (by intro q;cases q);refine eh (X:=X.hnd a) (I2.hnd a) hg hm ?_ a2;obtain⟨_,_,oe,vs,a0,he,hc,_⟩:=id L2;have LT:PySem.W.Looks (model X.prog X.w) h' (typeOf (.ref a)) (.ref C):=hc▸(PySem.W.Looks.ld he).andThen .now;refine PySem.W.exm_one (K:=X.K) I2.kIn LT em _ _ _ _ (λ_ _ e=>e) ?_;refine codeAny_handlers_suite ?_;refine oH I2 hs hx L2 (λp l=>⟨pa p l,a1 p l⟩) λh3 T' I3 L3=>?_;refine AO (hh a U _ _ _ D (I3.hnd a) q) (λf s6 h6=>?_) λe s6 z=>z.elim;cases f with
  |next=>obtain⟨o,t,J,q6⟩:=h6;exact⟨_,t,J.unhnd I.ok,q6⟩
  |brk=>obtain⟨o,t,J,q6⟩:=h6;exact⟨_,t,J.unhnd I.ok,q6⟩
  |cont=>obtain⟨o,t,J,q6⟩:=h6;exact⟨_,t,J.unhnd I.ok,q6⟩
  |ret u=>obtain⟨v,o,t,J,r,q6⟩:=h6;exact⟨v,_,t,J.unhnd I.ok,r,q6⟩
end L2
namespace L3
open PySem L2
def aig(K:Ad)(Dc:Addr)(tb:X3->vt)(th:vt)(D:vq)(τ:jo)(L:qr):Prop:=tb (λJ C L'=>PySem.W.exmOne K (.ref C) (.ref Dc)=some true/\th D J L') D τ L
theorem agr{tb:X3->vt}{th:vt}(hs:X.stack=X.env::X.outer)(l:X.env.frame=some X.env.locals)(o:X.ex=[])
 (p:Gl X x) (r:X.mg x=some (.ref Dc)) (t:QB X body tb) (I:∀a,oa (X.hnd a) (nC::kt) th)
 (J:Ed x:=by decide):QS X (.Try body [.ExceptHandler (some (.Name x np)) none (nC::kt) wh] [] [] pos) (aig X.K Dc tb th):=
 PS.imp (ahr (tb:=aal X.g3 tb) (th:=upS X.g3 th) hs l o p r t I J) λD T H ⟨τ,L,D3,rs,rl,z,k⟩=>by
 show aal X.g3 tb (ahk X.K Dc (upS X.g3 th) D) D T H;exact⟨τ,L,D3,_,rs,rl,z,k,λa1 C H' U L' t' g j ⟨em,q⟩=>⟨C,rfl,em,U,L',D3,g,j,q,k.ts t'⟩⟩
def sd(x y:Y)(L:qr)(Q:YK):Prop:=match x,y with
 |.tup xs,.tup ys=>xs≠[]/\xs.length+ys.length<=1000/\Q (.tup (xs++ys)) L
 |_,_=>False
theorem uh :kh X (binaryOp .Add) (fE X.g3 sd):=EM ag0 λx y H Q x3 y3 L Q3 T ry j z k=>by
 unfold sd at z;split at z
 ·rename_i o r;obtain⟨n,l,z⟩:=z;obtain⟨a,J,rfl,t,U⟩:=T;obtain⟨b,C,rfl,s2,I⟩:=ry;have l1:=U.length;have l2:=I.length;refine⟨a,b,J,C,rfl,rfl,t,s2,λe=>n ?_,small (by lia),λe=>?_,λ_ p g=>?_⟩
  ·subst e;exact BE l1
  ·subst e;have:r=[]:=BE l2;subst this;rw[AX] at z;exact k _ H _ L (DS _) j (show RV X.g3 H (.tup o) (.ref a) from⟨a,J,rfl,t,U⟩) z
  ·exact k _ _ _ L (DV g) (j.skip g) (show RV X.g3 (upd H p (.tup (J++C))) (.tup (o++r)) (.ref p) from⟨p,_,rfl,cB.of zg,(U.app I).ts (DV g)⟩) z
 ·exact z.elim
open PySem L2 Words
def uR:vt:=(qt (zf (zb k8 (zb k8 (zk 1) (ph wq (xc 0 0))) (q9 1)) (qh 3))
 (zy (zb sd (zb sd (vM nZ (q9 0) w5 (aV (q9 3))) (kg (vk (q9 2)))) (vM nZ (q9 0) (aV (zb k8 (q9 3) (zk 1))) w5))))
def vC(J:jl)(p1:jl):vt:=(qt (zf (jq z0) (qh 1))
 (qt (dc (wr (z9 J (vk (q9 0)))) (qh 2) (jk (af bH (q9 1) (qd (z9 p1 (vk (q9 2))) z0))))
 (zy (q9 1))))
def iK(J:jl)(p1:jl):vt:=(qt (dc (i4 (z9 J (vk (q9 0)))) (bB 2 (je (qh 2) (je (qh 3) ac))) (qt (zf (z9 p1 (vk (q9 3))) (qh 4))
 (jt (yB (jS ajo (qd (xD 1 (wr (q9 1)) (qh 5) ae2 (zb (mG false) (q9 5) (q9 4))) z0))) (zy (q9 2)) j8)))
 (zy (yC .non)))
def pW(J:jl)(p1:jl)(p2:jl)(p3:jl):vt:=(qt (zf (zb wz (z9 J (vk (q9 1))) (q9 2)) (qh 3))
 (qt (zf (z9 p1 (qd (q9 3) (qd (zb wz (z9 p2 (aH (q9 0) (q9 1))) (q9 2)) z0))) (qh 4))
 (qt (jt (yB (fB false (q9 4))) (zy (yC .non)) j8)
 (zy (z9 p3 (qd (q9 3) (qd (q9 4) (qd (z9 p3 (qd (q9 1) (qd (q9 2) (qd (zb wz (z9 J (vk (q9 3))) (q9 4)) z0)))) z0))))))))
def tO(J:Addr)(E3:X3)(U:jl):vt:=(qt (zf (z9 U (vk (q9 0))) (qh 2))
 (qt (jt (tJ (yB (uf (zk 0) (aci yLe (q9 1) (abj yLt (bT 2)))))) (u4 J E3 (vk (dR "a rule has no arm of that number"))) j8)
 (zy (zb wz (q9 2) (q9 1)))))
def fY(E3:X3)(J:dO):vt:=(qt (zf (jq (vk (q9 0))) (qh 2))
 (qt (dc (wr (q9 1)) (qh 3) (jk (af j6 (q9 2) (qd (cX J E3 (qd (zb wz (q9 2) (uA ft (zk 1))) (vk (q9 3)))) z0))))
 (zy (q9 2))))
def ig(J:Addr)(E3:X3)(U:dO)(p1:dO)(p2:jl)(p3:jl):vt:=(qt (zf (cX U E3 (aH (xc 0 1) (q9 1))) (qh 3))
 (qt (jk (cX p1 E3 (qd (zb wz (q9 3) (uA ft (zk 1))) (vk (q9 2)))))
 (qt (zf (z9 p2 (qd (xc 0 0) (qd (zb wz (q9 3) (uA ft (zk 1))) (vk (q9 2))))) (qh 4))
 (qt (jt (yB (fB false (q9 4))) (u4 J E3 (vk (dR "the two rules can't be exchanged"))) j8)
 (qt (dc (aiq (ac0 (aH (q9 1) (q9 3)))) (bB 2 (je (qh 5) (je (qh 6) ac))) (zf (z9 p3 (qd (q9 6) (aH (q9 5) (q9 4)))) (qh 4)))
 (zy (kg (qd (jS ak (vk (xc 0 0))) (vk (q9 4))))))))))
def vj:Ru->Nat->Ru->Ru
 |.ei r _,0,A=>.ei r A
 |.bo r _ B,0,A=>.bo r A B
 |.bo r A _,1,B=>.bo r A B
 |.cu p q _ B,0,A=>.cu p q A B
 |.cu p q A _,1,B=>.cu p q A B
 |R,_,_=>R
def aq:jl:=λys L Q=>∃R A:Ru,∃n:Nat,∃J:Int,ys=[qj R,.int J,qj A]/\J=(n:Int)/\n<(qk R).length/\Q (qj (vj R n A)) L
theorem ah2:∀ys L Q,aq ys L Q->xj uR 4 ys L Q:=by
 rintro ys L Q ⟨R,A,n,U,rfl,rfl,J,q⟩;have two:∀{n:Nat},n<2->n=0\/n=1:=λh=>by lia
 cases R with
 |link a b=>cases J
 |ei r B=>
  obtain rfl:n=0:=by have:n<1:=J;lia
  exact⟨λz=>absurd z.2 (by show ¬2=3;decide),⟨Ba _ _,by show 3<=1000;decide,λz=>absurd z.1 (by show ¬3=0;decide),Ba _ _,by show 3<=1000;decide,jw q⟩⟩
 |bo r B C=>
  rcases two J with rfl|rfl
  ·exact⟨λz=>absurd z.2 (by show ¬2=4;decide),⟨Ba _ _,by show 3<=1000;decide,λz=>absurd z.1 (by show ¬3=0;decide),Ba _ _,by show 4<=1000;decide,jw q⟩⟩
  ·exact⟨λz=>absurd z.2 (by show ¬3=4;decide),⟨Ba _ _,by show 4<=1000;decide,λz=>absurd z.1 (by show ¬4=0;decide),Ba _ _,by show 4<=1000;decide,jw q⟩⟩
 |cu a b B C=>
  rcases two J with rfl|rfl
  ·exact⟨λz=>absurd z.2 (by show ¬3=5;decide),⟨Ba _ _,by show 4<=1000;decide,λz=>absurd z.1 (by show ¬4=0;decide),Ba _ _,by show 5<=1000;decide,jw q⟩⟩
  ·exact⟨λz=>absurd z.2 (by show ¬4=5;decide),⟨Ba _ _,by show 5<=1000;decide,λz=>absurd z.1 (by show ¬5=0;decide),Ba _ _,by show 5<=1000;decide,jw q⟩⟩
theorem cW:∀A:Ru,(xm A).flatMap bF=qp A
 |.link p q=>rfl
 |.ei r A=>by show r::(xm A).flatMap bF=_;rw[cW A];rfl
 |.bo r A B=>by show r::(xm A++xm B).flatMap bF=_;rw[Az,cW A,cW B];rfl
 |.cu p q A B=>by show(xm A++xm B).flatMap bF=_;rw[Az,cW A,cW B];rfl
theorem vQ(A:Ru):(bF A).length<=2:=by cases A<;>simp[bF]
def fc:jl:=λys L Q=>∃A:Ru,ys=[qj A]/\zp A<=120/\xb A<=1000/\∀p,L p=none->Q (.ref p) (qi L p (.lst (nY (qp A))))
theorem uc:∀ys L Q,fc ys L Q->xj (vC (bE 120) iF) 3 ys L Q:=by
 rintro ys L Q ⟨A,rfl,hd,T,q⟩;have big:=bg_;intro l o;refine⟨A,rfl,hd,T,λp C=>?_⟩;have U:l≠p:=km q8 C;have s0:qg L (qi (qi L l (.lst [])) p (.lst ((xm A).map qj))):=(By o).trans (By C);have sz:∀i,(((xm A).take i).flatMap bF).length<=2000:=λi=>by
  have h1:∀l:List Ru,(l.flatMap bF).length<=2*l.length:=λl=>by induction l with|nil=>exact Aj _|cons x r ih=>have:=vQ x;rw[AS,Ac,AJ];lia
  have h2:=h1 ((xm A).take i);rw[A3,bJ] at h2;lia
 refine vh q8 λkeep kp=>w6 ⟨λi j J=>∃c2,j=[some (qj A),some (.ref l),c2]/\qg L J/\J l=some (.lst (nY (((xm A).take i).flatMap bF)))/\J p=some (.lst ((xm A).map qj)),⟨_,rfl,s0,(qb U).trans q8,q8⟩,?_,?_,?_⟩
 ·rintro i j J ⟨c2,rfl,s,g,g2⟩;exact kp J (by rw[g2,q8])
 ·rintro i y j J I ⟨c2,rfl,s,g,g2⟩;rw[An] at I;obtain⟨B,eB,rfl⟩:=Ap.mp I;have et:(xm A).take (i+1)=(xm A).take i++[B]:=by rw[Bc,eB];rfl
  have zi:=sz i;have ol:=vQ B;refine qc g ⟨B,rfl,λp5 t=>?_⟩;have np:l≠p5:=km g t;refine qw ((qb np).trans g) (qw q8 ⟨?_,?_⟩)
  ·rw[ku,ku];exact Bi (big _ (by lia))
  ·refine⟨_,DU _,_,rfl,(s.trans (By t)).upd o,?_,(qb (AF U)).trans ((qb (km g2 t)).trans g2)⟩;rw[q8,et,Az,CV,fg]
 ·rintro j J ⟨c2,rfl,s,g,_⟩;rw[Ab,A9,cW] at g;exact we (ER s g) (q l o)
def bC(ts:List Nat)(B:Ru):Bool:=(ts.map λt=>decide (t∈qp B)).all id
def xz(R:Ru)(ts:List Nat):Option Nat:=(qk R).findIdx? (bC ts)
def ixY:Option Nat->Y
 |none=>.non
 |some k=>.int (k:Int)
theorem acl(R:Ru):(qk R).length<=2:=by cases R<;>simp[qk]
theorem oh{p:α->Bool}{l:List α}{x:α}(h:l[i]?=some x)(U:∀y∈l.take i,p y=false)(g:p x=true):l.findIdx? p=some i:=by have J:=jy h;rw[CN];refine⟨J,by rw[Af J] at h;rw[AN h];exact g,λj o=>?_⟩;rw[U _ (List.mem_iff_getElem?.mpr ⟨j,by rw[CH,AB o,Af (by lia)]⟩)];simp
def lF:jl:=λys L Q=>∃R:Ru,∃a,∃ts:List Nat,ys=[qj R,.ref a]/\L a=some (.lst (nY ts))/\ts.length<=1000/\zp R<=120/\xb R<=1000/\Q (ixY (xz R ts)) L
theorem ae6:∀ys L Q,lF ys L Q->xj (iK wx fc) 5 ys L Q:=by
 rintro ys L Q ⟨R,a,ts,rfl,ha,hz,hd,hr,q⟩;have big:=bg_;refine⟨R,rfl,λpa p=>?_⟩;have s0:qg L (qi L pa (.lst ((qk R).map qj))):=By p;refine vh q8 λkeep r=>w6 ⟨λi l J=>∃c2 c3 c4,l=[some (qj R),some (.ref a),c2,c3,c4]/\qg L J/\J pa=some (.lst ((qk R).map qj))/\∀B∈(qk R).take i,bC ts B=false,⟨_,_,_,rfl,s0,q8,λB hB=>by cases hB⟩,?_,?_,?_⟩
 ·rintro i l J ⟨c2,c3,c4,rfl,s,g,_⟩;exact r J (by rw[g,q8])
 ·rintro i y l J I ⟨c2,c3,c4,rfl,s,g,no⟩;obtain⟨z,ez,rfl⟩:=gn I;rw[An] at ez;obtain⟨B,T,rfl⟩:=Ap.mp ez;have mB:=AD T;have zB:=om mB;have dB:=v5 mB;refine⟨B,rfl,by lia,by lia,λp5 h5=>?_⟩;have s5:=s.trans (By (o:=.lst (nY (qp B))) h5);have g5:=By (o:=.lst (nY (qp B))) h5 _ _ g;have e5:qi J p5 (.lst (nY (qp B))) p5=some (.lst (nY (qp B))):=q8;generalize qi J p5 (.lst (nY (qp B)))=L5 at s5 g5 e5 ⊢;refine vh (s5 _ _ ha) λkeep r=>fj (λi zs=>zs=((ts.take i).map λt=>decide (t∈qp B)).map Y.bl) (by rw[ku];exact big _ (by lia)) (r _ rfl) rfl ?_ ?_
  ·rintro j y zs I rfl;obtain⟨m,em,rfl⟩:=hV I;refine qc e5 ⟨rfl,qB _,?_⟩;rw[pX];exact⟨_,DU _,rfl,by rw[Bc,em,Am,Am];rfl⟩
  rintro zs rfl p6 h6;rw[ku,A9];have s6:=s5.trans (By (o:=.lst ((ts.map λt=>decide (t∈qp B)).map Y.bl)) h6);have g6:=By (o:=.lst ((ts.map λt=>decide (t∈qp B)).map Y.bl)) h6 _ _ g5;refine⟨rfl,qc q8 (qm (ac3 _) ?_)⟩;by_cases c:bC ts B=true
  ·refine v0 c ?_;rw[show xz R ts=some i from oh T no c] at q;exact we s6 q
  ·refine xi (BF.mpr c) ⟨_,DU _,_,_,_,rfl,s6,g6,λC U=>?_⟩;rw[Bc,T] at U;rcases Aq.mp U with U|U
   ·exact no C U
   ·rw[Ai.mp U];exact BF.mpr c
 ·rintro l J ⟨c2,c3,c4,rfl,s,g,no⟩;rw[iG,Ab,A9] at no;rw[show xz R ts=none from Cz.mpr no] at q;exact we s q
def rsY:Option Ru->Y
 |none=>.non
 |some R=>qj R
def cQ(ks:List Kn)(R:Ru)(k:Nat):Option Ru:=match (qk R)[k]?,(k6 ks R)[k]? with
 |some I,some ts=>match xz I ts with
  |none=>none
  |some n=>match (qk I)[n]? with
   |some B=>some (vj I n (vj R k B))
   |none=>none
 |_,_=>none
theorem wH{ts:List Nat}(h:xz R ts=some n):∃B,(qk R)[n]?=some B/\bC ts B=true:=by obtain⟨h1,h2,_⟩:=CN.mp h;exact⟨_,Af h1,h2⟩
theorem Paired.len{α J:Type}{F:α->J->Prop}:∀{xs:List α} {ys:List J},Paired F xs ys->xs.length=ys.length
 |_,_,.nil=>rfl
 |_,_,.cons _ r=>Bt (· + 1) (Paired.len r)
abbrev EC:=@Paired.len
def jY:jl:=λys L Q=>∃a,∃wd:List (Option Kn),∃ks:List Kn,∃R:Ru,∃E:List Nat,∃k:Nat,∃J:Int,ys=[.ref a,qj R,.int J]/\J=(k:Int)/\L a=some (.lst (a7 wd))/\SR ks R E/\t8 ks wd R/\k<(qk R).length/\zp R<=120/\xb R<=1000/\Q (rsY (cQ ks R k)) L
theorem ag3:∀ys L Q,jY ys L Q->xj (pW wx lF pz aq) 5 ys L Q:=by
 rintro ys L Q ⟨a,wd,J,R,E,k,ki,rfl,rfl,ha,sr,ag,hk,hd,hz,q⟩;have pl:=EC sr.arms;have U:(qk R)[k]?=some (qk R)[k]:=Af hk;have g:(k6 J R)[k]?=some ((k6 J R)[k]'(by lia)):=Af (by lia);generalize (qk R)[k]=I at U;generalize (k6 J R)[k]'(by lia)=ts at g;have mI:=AD U;have zI:=om mI;have dI:=v5 mI;have tl:=oN ts (AD g);have eT:cQ J R k=match xz I ts with|none=>none|some n=>match (qk I)[n]? with|some B=>some (vj I n (vj R k B))|none=>none:=by unfold cQ;rw[U,g]
 rw[eT] at q;clear eT;refine⟨R,rfl,λp1 h1=>?_⟩;refine qc q8 (qm (jj U) ?_);have l:=By (o:=.lst ((qk R).map qj)) h1;generalize qi L p1 (.lst ((qk R).map qj))=L1 at l ⊢;refine⟨a,wd,J,R,E,rfl,l _ _ ha,sr,ag,λp t L2 s2 _ gp pr=>?_⟩;obtain⟨r,j,_,gr⟩:∃r,t[k]?=some r/\L1 r=none/\L2 r=some (.lst (nY ts)):=by have hl:=EC pr;have j:t[k]?=some (t[k]'(by lia)):=Af (by lia);have h:=DZ pr j g;exact⟨_,j,h⟩
 have s3:=l.trans s2;refine qc gp (qm (jj j) ⟨I,r,ts,rfl,gr,by lia,by lia,by lia,?_⟩);cases C:xz I ts with
 |none=>
  rw[C] at q;exact we s3 q
 |some n=>
  rw[C] at q;obtain⟨B,T,_⟩:=wH C;have q:Q (rsY (match (qk I)[n]? with|some B=>some (vj I n (vj R k B))|none=>none)) L:=q;rw[T] at q;have mB:=jy T;refine⟨I,rfl,λp4 h4=>qc q8 (qm (jj T) ⟨R,B,k,_,rfl,rfl,hk,⟨I,vj R k B,n,_,rfl,rfl,mB,we (s3.trans (By h4)) q⟩⟩)⟩
def xt(R:Ru)(i:Int):Option Ru:=if 0<=i/\i<((qk R).length:Int) then(qk R)[i.toNat]? else none
theorem ww{i:Int}(h:xt R i=some B):∃k:Nat,i=(k:Int)/\(qk R)[k]?=some B:=by
 unfold xt at h;split at h
 ·rename_i c;exact⟨i.toNat,by lia,h⟩
 ·cases h
def cN(C:Addr):dO:=λys L Q E=>∃R:Ru,∃i:Int,ys=[qj R,.int i]/\(∀B,xt R i=some B->Q (qj B) L)/\(xt R i=none->E C L)
theorem abp :∀ys L Q E,cN C ys L Q E->xj (tO C (sN E) wx) 3 ys L Q:=by
 rintro ys L Q E ⟨R,i,rfl,q,ex⟩;refine⟨R,rfl,λj h1=>?_⟩;have J:=By (o:=.lst ((qk R).map qj)) h1;have no:¬(0<=i/\i<((qk R).length:Int))->∀U,sN E U C (qi L j (.lst ((qk R).map qj))):=λc U=>⟨L,J,ex (by unfold xt;rw[AC c])⟩;by_cases c1:0<=i
 ·walk_at "w";rw[AE c1];refine qc q8 ?_;by_cases c2:i<((qk R).length:Int)
  ·refine xi (by show(!decide (i<((((qk R).map qj).length:Nat):Int)))=false;rw[Ab,AE c2];rfl) ?_;obtain⟨k,rfl⟩:∃k:Nat,i=(k:Int):=⟨i.toNat,by lia⟩;have g:k<(qk R).length:=by lia
   refine qc q8 (qm (jj (Af g)) (we J (q _ ?_)));unfold xt;rw[AB ⟨c1,c2⟩,AZ];exact Af g
  ·refine v0 (by show(!decide (i<((((qk R).map qj).length:Nat):Int)))=true;rw[Ab,Au c2];rfl) ?_;exact⟨Bj rfl,no (λh=>c2 h.2) _⟩
 ·walk_at "w";rw[Au c1];exact⟨Bj rfl,no (λh=>c1 h.1) _⟩
def v4:Ru->List Int->Option (List Ru)
 |R,[]=>some [R]
 |R,i::w=>match xt R i with
  |none=>none
  |some B=>(v4 B w).map (R::·)
theorem eL{w:List Int}{m:List Ru}(h:v4 R w=some m):∃J,m=R::J/\J.length=w.length:=by
 induction w generalizing R m with
 |nil=>cases h;exact⟨[],rfl,rfl⟩
 |cons i w U=>
  unfold v4 at h;cases e:xt R i with
  |none=>rw[e] at h;cases h
  |some B=>
   rw[e] at h;obtain⟨j,g,rfl⟩:=Ap.mp h;obtain⟨o,rfl,l⟩:=U g;exact⟨_,rfl,Bt (· + 1) l⟩
theorem lX{w:List Int}{l:List Ru}(h:v4 R w=some (l++[S]))(x:Int)(u:List Int):v4 R (w++x::u)=(v4 S (x::u)).map (l++·):=by
 induction w generalizing R l with
 |nil=>
  have h:[R]=l++[S]:=AN h;cases l with|nil=>cases h;show _=Option.map (λz=>z) _;rw[Option.map_id'];rfl|cons a l=>have:=Bt List.length h;simp at this
 |cons i w g=>
  unfold v4 at h;rw[DF];show(match xt R i with|none=>none|some B=>(v4 B (w++x::u)).map (R::·))=_;cases e:xt R i with
  |none=>rw[e] at h;cases h
  |some B=>
   rw[e] at h;obtain⟨o,J,U⟩:=Ap.mp h;obtain⟨p,rfl,_⟩:=eL J;cases l with
   |nil=>cases U
   |cons a l=>
    obtain⟨rfl,j⟩:=CC U;rw[j] at J;show(v4 B (w++x::u)).map (R::·)=_;rw[g J,Option.map_map];rfl
theorem aaj{w:List Int}{m:List Ru}(h:v4 R w=some m):∀(i:Nat) (x:Int) (A:Ru),w[i]?=some x->m[i]?=some A->∃B,xt A x=some B/\m[i+1]?=some B:=by
 induction w generalizing R m with
 |nil=>intro i x A J;cases J
 |cons j w l=>
  unfold v4 at h;cases e:xt R j with
  |none=>rw[e] at h;cases h
  |some B=>
   rw[e] at h;obtain⟨o,U,rfl⟩:=Ap.mp h;intro i x A J g;cases i with
   |zero=>
    cases J;cases g;obtain⟨p,rfl,_⟩:=eL U;exact⟨B,e,rfl⟩
   |succ i=>exact l U i x A J g
theorem yw{w:List Int}{m:List Ru}(h:v4 R w=some m):∀A∈m,A∈xm R:=by
 induction w generalizing R m with
 |nil=>cases h;intro A J;rw[Ai.mp J,aF];exact Ak ..
 |cons i w U=>
  unfold v4 at h;cases e:xt R i with
  |none=>rw[e] at h;cases h
  |some B=>
   rw[e] at h;obtain⟨l,g,rfl⟩:=Ap.mp h;obtain⟨k,_,j⟩:=ww e;intro A J;rw[aF];rcases Ao.mp J with rfl|J
   ·exact Ak ..
   ·exact Ae _ (A4.mpr ⟨B,AD j,U g A J⟩)
def gc(C:Addr):dO:=λys L Q E=>∃R:Ru,∃h,∃w:List Int,ys=[qj R,.ref h]/\L h=some (.lst (w.map Y.int))/\w.length<=1000/\(∀m,v4 R w=some m->∀p,L p=none->Q (.ref p) (qi L p (.lst (m.map qj))))/\(v4 R w=none->E C L)
theorem adp :∀ys L Q E,gc C ys L Q E->xj (fY (sN E) (cN C)) 4 ys L Q:=by
 rintro ys L Q E ⟨R,h,w,rfl,p,hz,q,ex⟩;have big:=bg_;intro l r;have t:qg L (qi L l (.lst [qj R])):=By r;refine vh (t _ _ p) λkeep T=>w6 ⟨λi o U=>∃c3 m S,o=[some (qj R),some (.ref h),some (.ref l),c3]/\qg L U/\U l=some (.lst ((m++[S]).map qj))/\v4 R (w.take i)=some (m++[S]),⟨_,[],R,rfl,t,q8,rfl⟩,?_,?_,?_⟩
 ·rintro i o U ⟨c3,m,S,rfl,s,_⟩;exact T U (by rw[s _ _ p,t _ _ p])
 ·rintro i y o U I ⟨c3,m,S,rfl,s,g,j⟩;rw[An] at I;obtain⟨x,J,rfl⟩:=Ap.mp I;have hi:=jy J;have et:w.take (i+1)=w.take i++[x]:=by rw[Bc,J];rfl
  have ew:w=w.take i++x::w.drop (i+1):=by rw[Af hi] at J;rw[<-AN J,BN,A8]
  have ml:(m++[S]).length<=1001:=by obtain⟨m',e,l⟩:=eL j;rw[e,AJ,l,A3];lia
  rw[Am] at g;refine qc g (qc g (qm (gb _ _) ⟨S,x,rfl,λB hB=>?_,λhn=>⟨L,s,ex ?_⟩⟩))
  ·refine qw g ⟨?_,?_⟩
   ·rw[<-Am,Ab];exact big _ (by lia)
   ·refine⟨_,DU _,_,m++[S],B,rfl,s.upd r,by rw[q8,Am,Am];rfl,?_⟩;rw[et,lX j];show((match xt S x with|none=>none|some B=>(v4 B []).map (S::·)).map (m++·))=_;rw[hB,AR];rfl
  ·rw[ew,lX j];show((match xt S x with|none=>none|some B=>(v4 B _).map (S::·)).map (m++·))=_;rw[hn];rfl
 ·rintro o U ⟨c3,m,S,rfl,s,g,j⟩;rw[Ab,A9] at j;exact we (ER s g) (q _ j l r)
def cD:Ru->List Int->Ru->Ru
 |_,[],T=>T
 |R,i::w,T=>match xt R i with
  |some B=>vj R i.toNat (cD B w T)
  |none=>R
def jn:Ru->List Int->Option Ru
 |R,[]=>some R
 |R,i::w=>match xt R i with
  |some B=>jn B w
  |none=>none
theorem ack{w:List Int}{l:List Ru}(h:v4 R w=some (l++[S])):jn R w=some S:=by
 induction w generalizing R l with
 |nil=>
  have h:[R]=l++[S]:=AN h;cases l with|nil=>cases h;rfl|cons a l=>have:=Bt List.length h;simp at this
 |cons i w g=>
  unfold v4 at h;unfold jn;cases e:xt R i with
  |none=>rw[e] at h;cases h
  |some B=>
   rw[e] at h;obtain⟨o,J,U⟩:=Ap.mp h;obtain⟨p,rfl,_⟩:=eL J;cases l with
   |nil=>cases U
   |cons a l=>
    obtain⟨_,j⟩:=CC U;rw[j] at J;exact g J
theorem adm{w:List Int}(h:v4 R w=none):jn R w=none:=by
 induction w generalizing R with
 |nil=>cases h
 |cons i w J=>
  unfold v4 at h;unfold jn;cases e:xt R i with
  |none=>rfl
  |some B=>
   rw[e] at h;exact J (Option.map_eq_none_iff.mp h)
def zZ(ks:List Kn)(R:Ru)(w:List Int)(i:Int):Option Ru:=match jn R w with
 |none=>none
 |some S=>match xt S i with
  |none=>none
  |some _=>(cQ ks S i.toNat).map (cD R w)
theorem vX(T:Ru):∃zs,qj T=.tup zs:=by cases T<;>exact⟨_,rfl⟩
def jW(C:Addr):dO:=λys L Q E=>∃a h,∃wd:List (Option Kn),∃ks:List Kn,∃R:Ru,∃F:List Nat,∃w:List Int,∃i:Int,ys=[.tup [.ref a,qj R],.ref h,.int i]/\L a=some (.lst (a7 wd))/\L h=some (.lst (w.map Y.int))/\SR ks R F/\t8 ks wd R/\w.length<=1000/\(qp R).length<=120/\
 (∀R',zZ ks R w i=some R'->∀p,L p=none->Q (.tup [.ref p,qj R']) (qi L p (.lst (a7 wd))))/\(zZ ks R w i=none->E C L)
theorem ag6 :∀ys L Q E,jW C ys L Q E->xj (ig C (sN E) (gc C) (cN C) jY aq) 7 ys L Q:=by
 rintro ys L Q E ⟨a,h,wd,r,R,F,w,i,rfl,ha,hh,sr,ag,hz,tl,q,ex⟩;refine⟨R,h,w,rfl,hh,hz,λm hm p1 h1=>?_,λhn=>⟨L,DU _,ex (by unfold zZ;rw[adm hn])⟩⟩;obtain⟨m',em,lm⟩:=eL hm;have m0:m[0]?=some R:=by rw[em];rfl
 have lm:m.length=w.length+1:=by rw[em,AJ,lm]
 clear em;obtain⟨l,S,rfl⟩:∃l S,m=l++[S]:=by
  rcases Cp m with rfl|⟨l,S,e⟩
  ·cases m0
  ·exact⟨l,S,by rw[e,Cq]⟩
 have eS:jn R w=some S:=ack hm;have mS:=yw hm S (Ah _ (Ai.mpr rfl));obtain⟨⟨ES,sS⟩,tS,t,dS,_⟩:=sr.rls S mS;have a5:=t.length_le;have rd:=xg S;have rz:=wf S;have p:=By (o:=.lst ((l++[S]).map qj)) h1;have g1:qi L p1 (.lst ((l++[S]).map qj)) p1=some (.lst ((l++[S]).map qj)):=q8;generalize qi L p1 (.lst ((l++[S]).map qj))=L1 at p g1 ⊢;have U:=g1;rw[Am] at U;refine qc U (qm (gb _ _) ⟨S,i,rfl,λB hB=>?_,λhn=>⟨L,p,ex (by unfold zZ;rw[eS];show(match xt S i with|none=>none|some _=>_)=none;rw[hn])⟩⟩);obtain⟨k,rfl,eB⟩:=ww hB;have I:zZ r R w (k:Int)=(cQ r S k).map (cD R w):=by unfold zZ;rw[eS];show(match xt S (k:Int) with|none=>none|some _=>_)=_;rw[hB];show(cQ r S (k:Int).toNat).map _=_;rw[AZ]
 refine qc U (qm (gb _ _) ⟨a,wd,r,S,ES,k,_,rfl,rfl,p _ _ ha,sS,λx hx=>ag x (tS x hx),jy eB,by lia,by lia,?_⟩);cases hT:cQ r S k with
 |none=>exact⟨Bj rfl,L,p,ex (by rw[I,hT];rfl)⟩
 |some T=>
  have qT:=q _ (by rw[I,hT];rfl);obtain⟨zs,ez⟩:=vX T;rw[show rsY (some T)=.tup zs from ez];refine qc (p _ _ hh) (qc g1 λp2 h2=>?_);have s2:=p.trans (By (o:=.lst (kZ (w.map Y.int) ((l++[S]).map qj))) h2);have g2:qi L1 p2 (.lst (kZ (w.map Y.int) ((l++[S]).map qj))) p2=some (.lst (kZ (w.map Y.int) ((l++[S]).map qj))):=q8;generalize qi L1 p2 (.lst (kZ (w.map Y.int) ((l++[S]).map qj)))=L2 at s2 g2 ⊢;have zl:(kZ (w.map Y.int) ((l++[S]).map qj)).length=w.length:=by rw[ac4,Ab,Ab];lia
  refine vh g2 λkeep kp=>w6 ⟨λj τ L'=>∃c5 c6 A J,τ=[some (.tup [.ref a,qj R]),some (.ref h),some (.int (k:Int)),some (.ref p1),some (qj J),c5,c6]/\L'=L2/\j<=w.length/\(l++[S])[w.length-j]?=some A/\J=cD A (w.drop (w.length-j)) T,⟨none,none,S,T,by rw[ez];rfl,rfl,Bf _,?_,?_⟩,?_,?_,?_⟩
  ·have:l.length=w.length:=by rw[Ac,A7] at lm;lia
   rw[DJ,<-this,Aw (Aj _),B7];rfl
  ·rw[DJ,List.drop_length];rfl
  ·rintro j τ L' ⟨c5,c6,A,J,rfl,rfl,_⟩;exact kp _ rfl
  ·rintro j y τ L' hy ⟨c5,c6,A,J,rfl,rfl,hj,eA,rfl⟩;have a1:j<w.length:=by have:=jy hy;rwa[BJ,zl] at this
   rw[CY (by rw[zl];exact a1),zl] at hy;obtain⟨u,v,eu,ev,rfl⟩:=af3 hy;rw[An] at eu ev;obtain⟨x,g,rfl⟩:=Ap.mp eu;obtain⟨D,eD,rfl⟩:=Ap.mp ev;obtain⟨B',a2,a3⟩:=aaj hm _ x D g eD;rw[show w.length-1-j+1=w.length-j by lia,eA] at a3;cases a3;obtain⟨k',rfl,a4⟩:=ww a2;refine⟨D,_,k',_,rfl,rfl,jy a4,?_⟩;refine⟨_,DU _,_,_,D,_,rfl,rfl,a1,by rw[show w.length-(j+1)=w.length-1-j by lia];exact eD,?_⟩;have ed:w.drop (w.length-(j+1))=(k':Int)::w.drop (w.length-j):=by rw[show w.length-(j+1)=w.length-1-j by lia,Cy (by lia),show w.length-1-j+1=w.length-j by lia];rw[Af (by lia)] at g;rw[AN g]
   rw[ed];show _=match xt D (k':Int) with|some B=>vj D (k':Int).toNat (cD B _ T)|none=>D
   rw[a2,AZ]
  ·rintro τ L' ⟨c5,c6,A,J,rfl,rfl,hj,eA,rfl⟩;rw[BJ,zl,B7] at eA;rw[m0] at eA;cases eA;rw[BJ,zl,B7,Dj];refine qc (s2 _ _ ha) λp7 h7=>?_;refine⟨_,λb o e=>?_,qT p7 (s2.none h7)⟩;by_cases cc:b=p7
   ·subst cc;rw[q8] at e ⊢;exact e
   ·rw[qb cc] at e ⊢;exact s2 _ _ e
def ahm(J:jl):vt:=(qt (zf (kg (qd (jq z0) (qd wQ (qd (jq (vk (q9 1))) z0)))) (bB 3 (je (qh 2) (je (qh 3) (je (qh 4) ac)))))
 (qt (fb (rdN (q9 4) (jq z0)) (qt (zf (af vG (q9 4) z0) (qh 5))
 (dE (jt (dk (xc 5 0) (dR "link")) (jk (af bH (q9 2) (qd (jq (aH (xc 5 1) (xc 5 2))) z0))) (jt (dk (xc 5 0) (dR "cut")) (qt (fw (q9 3) (xc 5 1) (yC (.bl true)))
 (fw (q9 3) (xc 5 2) (yC (.bl true)))) (qt (jk (af j6 (q9 2) (vk (xc 5 1))))
 (qt (fw (q9 3) (zb wz (zb wz (q9 0) (xc 5 1)) (zk 1)) (yC (.bl true)))
 (fw (q9 3) (zb wz (zb wz (q9 0) (xc 5 1)) (zk 2)) (yC (.bl true)))))))
 (jk (af bH (q9 4) (qd (z9 J (vk (q9 5))) z0))))))
 (zy (xD 1 (wr (q9 2)) (qh 6) (yB (zb (zX true) (q9 6) (q9 3))) (q9 6)))))
def rE:vt:=(qt (jt (dk (xc 1 0) (dR "cut")) (zy (jq (qd (zb wz (q9 1) (zb k8 (zk 1) (q9 2))) z0))) j8)
 (qt (jt (dk (xc 1 0) (dR "both")) (zy (jq (qd (zb wz (zb wz (q9 0) (xc 1 1)) (zb k8 (zk 1) (q9 2))) z0))) j8)
 (zy (jS ak (qd (vM nZ (zb wz (q9 0) (xc 1 1)) (aV (zk 1)) w5) z0)))))
def tT(J:jl)(p1:jl)(p2:jl):vt:=(qt (jt (yOr (yB (zb yLt (q9 2) (zk 0))) (yB (zb yGe (q9 2) (jS kF (qd (z9 J (vk (q9 1))) z0))))) (zy (yC .non)) j8)
 (qt (zf (zb wz (z9 J (vk (q9 1))) (q9 2)) (qh 3))
 (qt (zf (z9 p1 (qd (q9 0) (aH (q9 1) (q9 2)))) (qh 4))
 (qt (jt (ox (rdN (xc 3 0) (dR "cut")) (yB (zb (mG false) (xc 3 1) (q9 4)))) (zy (yC .non)) j8)
 (qt (dc (i4 (z9 J (vk (q9 3)))) (bB 2 (je (qh 5) (je (qh 6) ac))) (qt (zf (z9 p2 (aH (q9 0) (q9 6))) (qh 7))
 (jt (dk (xD 1 (wr (q9 4)) (qh 8) (yB (zb (mG true) (q9 8) (q9 7))) (q9 8)) (jq z0)) (zy (q9 5)) j8)))
 (zy (yC .non)))))))
def tkO(ks:List Kn)(B:Ru):List Nat:=(k6 ks B).flatten
def jX(ks:List Kn)(R:Ru):List Nat:=(xm R).flatMap (tkO ks)
theorem eM(ks:List Kn)(A:Ru):jX ks A=tkO ks A++(qk A).flatMap (jX ks):=by unfold jX;rw[aF A,AS,List.flatMap_assoc]
theorem SR.tk{E:List Nat}(h:SR ks R E):(jX ks R).Perm (iZ ks (qp R)++aN (jr R)):=by
 induction h with
 |@link p q t n g h1 h2 h3 l o=>
  have e:iZ ks [p,q]=[]:=by rw[aW,aW,h2,h3];rfl
  show([]:List Nat).Perm (iZ ks [p,q]++[]);rw[e];exact B3 _
 |@ei r i j A C g h1 I h3 l o T h7 ih=>
  have e:jX ks (.ei r A)=[i,j]++jX ks A:=by rw[eM];show [kw ks[r]?].flatten++(jX ks A++[])=_;rw[h1,AX];rfl
  rw[e];show List.Perm _ (iZ ks (r::qp A)++aN (jr A));rw[aW,h1];exact(List.Perm.append_left [i,j] ih).trans (by rw[<-AR];exact B3 _)
 |@bo r i j A B C EB g h1 I hB l o T h7 J U=>
  have e:jX ks (.bo r A B)=[i,j]++(jX ks A++jX ks B):=by rw[eM];show((kw ks[r]?).map λx=>[x]).flatten++(jX ks A++(jX ks B++[]))=_;rw[h1,AX];rfl
  rw[e];show List.Perm _ (iZ ks (r::(qp A++qp B))++aN (jr A++jr B));rw[aW,h1,kC,da];show List.Perm _ ([i,j]++(iZ ks (qp A)++iZ ks (qp B))++(aN (jr A)++aN (jr B)));refine Bz.mpr λa=>?_;have c1:=J.count_eq a;have c2:=U.count_eq a;simp only[BI] at c1 c2 ⊢;lia
 |@cu p q A B C EB g w I hB h3 l o T h7 h8 J U=>
  have e:jX ks (.cu p q A B)=[p,q]++(jX ks A++jX ks B):=by rw[eM];show [[p],[q]].flatten++(jX ks A++(jX ks B++[]))=_;rw[AX];rfl
  rw[e];show List.Perm _ (iZ ks (qp A++qp B)++aN ((p,q)::(jr A++jr B)));rw[kC,oZ,da];show List.Perm _ (iZ ks (qp A)++iZ ks (qp B)++([p,q]++(aN (jr A)++aN (jr B))));refine Bz.mpr λa=>?_;have c1:=J.count_eq a;have c2:=U.count_eq a;simp only[BI] at c1 c2 ⊢;lia
theorem qO{E:List Nat}(h:SR ks R E)(nd:(qp R).Nodup)(x:Nat):x∈E↔x∈qp R/\x∉jX ks R:=by
 have P:(jX ks R++E).Perm (qp R):=((h.tk.append_right E).trans (by rw[AR])).trans (h.part nd);have N:=Ax.mp (P.nodup_iff.mpr nd);constructor
 ·intro J;exact⟨P.mem_iff.mp (Ah _ J),λz=>N.2.2 x z x J rfl⟩
 ·rintro⟨a,b⟩;rcases Aq.mp (P.mem_iff.mpr a) with z|z
  ·exact absurd z b
  ·exact z
theorem afm{E:List Nat}(h:SR ks R E)(nd:(qp R).Nodup):(jX ks R).length<=(qp R).length:=by have P:(jX ks R++E).Perm (qp R):=((h.tk.append_right E).trans (by rw[AR])).trans (h.part nd);have:=P.length_eq;rw[Ac] at this;lia
theorem SR.arm{E:List Nat}(h:SR ks R E)(U:B∈qk R):∃J,SR ks B J:=by obtain⟨i,e⟩:=C4 U;have l:=EC h.arms;have o:=jy e;have g:(k6 ks R)[i]?=some ((k6 ks R)[i]'(by lia)):=Af (by lia);obtain⟨J,j,_⟩:=DZ h.arms e g;exact⟨J,j⟩
theorem tI(l:List Ru):l.length<=(l.map xb).sum:=by induction l with|nil=>exact Aj _|cons x r J=>have:=wX x;simp;lia
def gJ:jl:=λys L Q=>∃a,∃wd:List (Option Kn),∃ks:List Kn,∃R:Ru,∃E:List Nat,ys=[.ref a,qj R]/\L a=some (.lst (a7 wd))/\SR ks R E/\t8 ks wd R/\(qp R).Nodup/\(qp R).length<=120/\
 ∀p F,L p=none->(∀x,x∈F↔x∈E)->Q (.ref p) (qi L p (.lst (nY F)))
def tLe(a:Addr)(R:Ru)(tl td sa:Addr)(c:Option Y):jo:=[some (.ref a),some (qj R),some (.ref tl),some (.ref td),some (.ref sa),c]
structure LeI(ks:List Kn)(R:Ru)(tk us:List Nat)(kvs:List (jf×Y))(st:List Ru):Prop where
 si:yA R tk st
 ui:UsI us kvs
 tq:(us++st.flatMap (jX ks)).Perm (jX ks R)
 sr:∀B∈st,∃EB,SR ks B EB
theorem abi:∀ys L Q,gJ ys L Q->xj (ahm vf) 6 ys L Q:=by
 rintro ys L Q ⟨a,wd,ks,R,E,rfl,ha,sr,ag,nd,tl,q⟩;have big:=bg_;have rd:=xg R;have rz:=wf R;have av:=afm sr nd;intro T a2 ta a5 sa a3;have U:T≠ta:=km q8 a5;have l:ta≠sa:=km q8 a3;have r:T≠sa:=km ((qb U).trans q8) a3;have g:L ta=none:=jg a5;have a4:L sa=none:=jg (jg a3);have S0:qg L (qi (qi (qi L T (.lst [])) ta (.dct [])) sa (.lst [qj R])):=((By a2).trans (By a5)).trans (By a3);refine⟨λm τ t=>∃tk us J st c5,τ=tLe a R T ta sa c5/\qg L t/\t T=some (.lst (nY tk))/\t ta=some (.dct J)/\t sa=some (.lst (st.map qj))/\LeI ks R tk us J st/\m=(st.map xb).sum,⟨_,[],[],[],[R],_,rfl,S0,(qb r).trans ((qb U).trans q8),(qb l).trans q8,q8,⟨yA.start R,UsI.nil,by simp,λB hB=>by rw[Ai.mp hB];exact⟨E,sr⟩⟩,rfl⟩,?_⟩;rintro m τ t ⟨tk,us,J,st,c5,rfl,s,h1,h3,j,I,rfl⟩;intro p hp;refine wm (n:=120) (m:=0) (by decide) (By hp _ _ j) q8 (aK λA hA=>AM (I.si.dp A hA) (by lia)) (.nil:Paired (jd _ 0) _ []) ?_;have s2:qg L (qi t p (.lst [])):=s.trans (By hp);replace h1:=(qb (o:=.lst []) (km h1 hp)).trans h1;replace h3:=(qb (o:=.lst []) (km h3 hp)).trans h3;replace j:=(qb (o:=.lst []) (km j hp)).trans j;generalize qi t p (.lst [])=L2 at s2 h1 h3 j ⊢;show wc (!(Da.eqs (st.map aj) [])) _ _;rw[gB];have kl:=I.ui.len;have pl:=I.si.pt.length_eq;have ul:=I.tq.length_eq;rw[Ac] at pl ul;rcases Cp st with rfl|⟨aT,A,rfl⟩
 ·refine xi rfl ?_;have pt:tk.Perm (qp R):=by have:=I.si.pt;simpa using this
  have pu:us.Perm (jX ks R):=by have:=I.tq;simpa using this
  refine vh h1 λkeep kp=>fj (λi zs=>zs=nY ((tk.take i).filter λx=>!decide (x∈us))) (by rw[ku];exact big _ (by lia)) (kp _ rfl) rfl ?_ ?_
  ·rintro i y zs hy rfl;obtain⟨x,ex,rfl⟩:=hV hy;refine jz h3 ?_;rw[I.ui.val];have et:tk.take (i+1)=tk.take i++[x]:=by rw[Bc,ex];rfl
   by_cases c:x∈us
   ·refine xi (by rw[AE c];rfl) ⟨_,DU _,rfl,?_⟩;rw[et,B9,C1,AC (by simp[c])];simp
   ·refine v0 (by rw[Au c];rfl) ⟨_,DU _,rfl,?_⟩;rw[et,B9,C1,AB (by simp[c]),fg];rfl
  rintro zs rfl p5 h5;rw[ku,A9];refine we (ER (s2.trans (By h5)) q8) (q p5 _ (s2.none h5) λx=>?_);rw[qO sr nd,AU,pt.mem_iff,Cs,decide_eq_false_iff_not,pu.mem_iff]
 ·rw[Cq] at *;rw[Au (by simp)];refine v0 rfl ⟨λa1 t=>∃m',m'<((aT++[A]).map xb).sum/\∃tk us J st c5,a1=tLe a R T ta sa c5/\qg L t/\t T=some (.lst (nY tk))/\t ta=some (.dct J)/\t sa=some (.lst (st.map qj))/\LeI ks R tk us J st/\m'=(st.map xb).sum,λa1 t h=>h,?_⟩;rw[Am] at j;refine ur j ?_;have s3:qg L (qi L2 sa (.lst (aT.map qj))):=s2.upd a4;replace h1:=(qb (o:=.lst (aT.map qj)) r).trans h1;replace h3:=(qb (o:=.lst (aT.map qj)) l).trans h3;clear j;have j:qi L2 sa (.lst (aT.map qj)) sa=some (.lst (aT.map qj)):=q8;generalize qi L2 sa (.lst (aT.map qj))=L3 at s3 h1 h3 j ⊢;obtain⟨EA,sA⟩:=I.sr A (Ah _ (Ai.mpr rfl));have tA:∀x∈qp A,x∈qp R:=λx hx=>I.si.pt.mem_iff.mp (Ah _ (A4.mpr ⟨A,Ah _ (Ai.mpr rfl),hx⟩));have kb:J.length+2<=20000:=by lia
  have tb:tk.length+2<=20000:=by lia
  refine⟨λa1 L4=>∃J,a1=tLe a R T ta sa (some (qj A))/\qg L L4/\L4 T=some (.lst (nY (tk++bF A)))/\L4 ta=some (.dct J)/\L4 sa=some (.lst (aT.map qj))/\UsI (us++tkO ks A) J,?_,?_⟩
  ·cases sA with
   |@link p0 q0=>
    refine qc h1 λp6 h6=>?_;have n6:T≠p6:=km h1 h6;refine qw ((qb n6).trans h1) (qw q8 ⟨by rw[ku];exact Bi (big _ tb),?_⟩);refine⟨J,rfl,(s3.trans (By h6)).upd a2,by rw[q8,fg];rfl,?_,?_,by rw[show tkO ks (.link p0 q0)=[] from rfl,AX];exact I.ui⟩
    ·rw[qb (AF U)];exact By h6 _ _ h3
    ·rw[qb (AF r)];exact By h6 _ _ j
   |@cu p0 q0 A0 B0=>
    refine jz h3 ⟨big _ (by lia),?_⟩;have U1:=I.ui.put p0 (.bl true);have k1:=eQ J (.inl (p0:Int)) (.bl true);refine jz q8 ⟨big _ (by lia),?_⟩;have U2:=U1.put q0 (.bl true);rw[xr];refine⟨_,rfl,s3.upd g,by rw[qb U,h1];simp[bF],q8,by rw[qb (AF l)];exact j,by rw[AR] at U2;exact U2⟩
   |@ei C i0 j0 A0 au _ hk=>
    have hw:=ag C (tA C (Ak ..)) _ hk;refine qc h1 (qw h1 ⟨by rw[ku];exact big _ (by lia),?_⟩);have w1:=s3.upd (o:=.lst (nY tk++[.int (C:Int)])) a2;have g3:qi L3 T (.lst (nY tk++[.int (C:Int)])) ta=some (.dct J):=(qb (AF U)).trans h3;refine qc (w1 _ _ ha) (qm (jj hw) (jz g3 ⟨big _ (by lia),?_⟩));have U1:=I.ui.put i0 (.bl true);have k1:=eQ J (.inl (i0:Int)) (.bl true);have w2:=w1.upd (o:=.dct (i5 J (.inl (i0:Int)) (.bl true))) g;refine qc (w2 _ _ ha) (qm (jj hw) (jz q8 ⟨big _ (by lia),?_⟩));have U2:=U1.put j0 (.bl true);rw[xr];refine⟨_,rfl,w1.upd g,by rw[qb U,q8,fg];rfl,q8,by rw[qb (AF l),qb (AF r)];exact j,?_⟩;rw[AR] at U2;have:tkO ks (.ei C A0)=[i0]++[j0]:=by show [kw ks[C]?].flatten=_;rw[hk];rfl
    rw[this];exact U2
   |@bo C i0 j0 A0 B0 au aL _ hk=>
    have hw:=ag C (tA C (Ak ..)) _ hk;refine qc h1 (qw h1 ⟨by rw[ku];exact big _ (by lia),?_⟩);have w1:=s3.upd (o:=.lst (nY tk++[.int (C:Int)])) a2;have g3:qi L3 T (.lst (nY tk++[.int (C:Int)])) ta=some (.dct J):=(qb (AF U)).trans h3;refine qc (w1 _ _ ha) (qm (jj hw) (jz g3 ⟨big _ (by lia),?_⟩));have U1:=I.ui.put i0 (.bl true);have k1:=eQ J (.inl (i0:Int)) (.bl true);have w2:=w1.upd (o:=.dct (i5 J (.inl (i0:Int)) (.bl true))) g;refine qc (w2 _ _ ha) (qm (jj hw) (jz q8 ⟨big _ (by lia),?_⟩));have U2:=U1.put j0 (.bl true);rw[xr];refine⟨_,rfl,w1.upd g,by rw[qb U,q8,fg];rfl,q8,by rw[qb (AF l),qb (AF r)];exact j,?_⟩;rw[AR] at U2;have:tkO ks (.bo C A0 B0)=[i0]++[j0]:=by show((kw ks[C]?).map λx=>[x]).flatten=_;rw[hk];rfl
    rw[this];exact U2
  ·rintro a1 L4 ⟨al,rfl,s4,g1,g3,g4,U'⟩;refine qc g4 ⟨A,rfl,λp8 h8=>?_⟩;have l1:=I.si.step.sz;have l2:=tI (aT++qk A);rw[Ac] at l2;refine qw ((qb (km g4 h8)).trans g4) (qw q8 ⟨by rw[Ab,Ab];exact Bi (big _ (by lia)),?_⟩);refine⟨_,DU _,_,yA.lt (tk:=tk) (A:=R),tk++bF A,us++tkO ks A,al,aT++qk A,_,rfl,(s4.trans (By h8)).upd a4,(qb r).trans ((qb (km g1 h8)).trans g1),(qb l).trans ((qb (km g3 h8)).trans g3),by rw[q8,Am],⟨I.si.step,U',?_,λB hB=>?_⟩,by rw[Am,C7]⟩
   ·refine List.Perm.trans ?_ I.tq;rw[Az,Az,CV,eM ks A];refine Bz.mpr λz=>?_;simp only[BI];lia
   ·rcases Aq.mp hB with hB|hB
    ·exact I.sr B (Ar _ hB)
    ·obtain⟨EA,sA⟩:=I.sr A (Ah _ (Ai.mpr rfl));exact sA.arm hB
def ah6(J:jl)(p1:jl):vt:=(qt (dc (i4 (z9 J (vk (q9 3)))) (bB 2 (je (qh 5) (je (qh 6) ac))) (qt (zf (z9 p1 (aH (q9 0) (q9 6))) (qh 7))
 (jt (dk (xD 1 (wr (q9 4)) (qh 8) (yB (zb (mG true) (q9 8) (q9 7))) (q9 8)) (jq z0)) (zy (q9 5)) j8)))
 (zy (yC .non)))
def hG:jl:=λys L Q=>∃a,∃wd:List (Option Kn),∃ks:List Kn,∃R:Ru,∃E:List Nat,∃k:Nat,∃J:Int,ys=[.ref a,qj R,.int J]/\J=(k:Int)/\L a=some (.lst (a7 wd))/\SR ks R E/\t8 ks wd R/\k<(qk R).length/\
 ∀p ts,L p=none->(k6 ks R)[k]?=some ts->Q (.ref p) (qi L p (.lst (nY ts)))
theorem xF:∀ys L Q,hG ys L Q->xj rE 3 ys L Q:=by
 rintro ys L Q ⟨a,T,g,R,E,k,ki,rfl,rfl,l,C,o,U,q⟩;have two:∀{n:Nat},n<2->n=0\/n=1:=λh=>by lia
 cases C with
 |link=>cases U
 |@cu u v A B t I _ w hA hB h3 h4=>
  rcases two U with rfl|rfl
  ·exactλp J=>jw (q p _ J rfl)
  ·exactλp J=>jw (q p _ J rfl)
 |@ei r i j A t _ h1=>
  obtain rfl:k=0:=by have:k<1:=U;lia
  refine qc l (qm (jj (o r (Ak ..) _ h1)) ⟨λz=>absurd z.1 (by show ¬1=0;decide),λp J=>jw (q p [i,j] J ?_)⟩);show [kw g[r]?][0]?=_;rw[h1];rfl
 |@bo r i j A B t I _ h1=>
  have e:k6 g (.bo r A B)=[[i],[j]]:=by show(kw g[r]?).map (λx=>[x])=_;rw[h1];rfl
  rw[e] at q;rcases two U with rfl|rfl
  ·exact qc l (qm (jj (o r (Ak ..) _ h1)) λp J=>jw (q p _ J rfl))
  ·exact qc l (qm (jj (o r (Ak ..) _ h1)) λp J=>jw (q p _ J rfl))
def goR(ks:List Kn)(R:Ru)(i:Int):Option Nat:=match xt R i with
 |none=>none
 |some I=>xz I ((k6 ks R)[i.toNat]?.getD [])
theorem uu{j l ts:List Nat}(r:SR ks I j)(nd:(qp I).Nodup)(o:B∈qk I)(p:SR ks B l)(U:∀x∈ts,x∈j):(∀x∈ts,x∈l)↔bC ts B=true:=by
 have g:=(dW o).nodup nd;unfold bC;rw[BC];constructor
 ·intro h b t;obtain⟨x,J,rfl⟩:=AW.mp t;exact AE (p.sub x (h x J))
 ·intro h x J;have:=h _ (AW.mpr ⟨x,J,rfl⟩);rw[qO p g];refine⟨of_decide_eq_true this,λz=>((qO r nd x).mp (U x J)).2 ?_⟩;rw[eM];exact Ah _ (A4.mpr ⟨B,o,z⟩)
theorem aju{ts:List Nat}{x:Nat}(nd:(qp I).Nodup)(J:x∈bF I)(U:x∈ts):xz I ts=none:=by refine Cz.mpr λB g=>?_;have e:=eX I;rw[e] at nd;have:=(Ax.mp nd).2.2 x J;unfold bC;rw[BF];intro h;have h:=BC.mp h _ (AW.mpr ⟨x,U,rfl⟩);exact this x (A4.mpr ⟨B,g,of_decide_eq_true h⟩) rfl
def gF:jl:=λys L Q=>∃a,∃wd:List (Option Kn),∃ks:List Kn,∃R:Ru,∃E:List Nat,∃i:Int,ys=[.ref a,qj R,.int i]/\L a=some (.lst (a7 wd))/\SR ks R E/\t8 ks wd R/\(qp R).Nodup/\(qp R).length<=120/\Q (ixY (goR ks R i)) L
theorem ad6:∀ys L Q,gF ys L Q->xj (tT vf hG gJ) 8 ys L Q:=by
 rintro ys L Q ⟨a,wd,p,R,E,i,rfl,ha,sr,ag,nd,tl,q⟩;have big:=bg_;have no:¬(0<=i/\i<((qk R).length:Int))->Q .non L:=λc=>by
  have e:goR p R i=none:=by unfold goR xt;rw[AC c]
  rw[e] at q;exact q
 by_cases c1:i<0
 ·refine v0 (AE c1) (jw (no (by lia)))
 refine xi (Au c1) ⟨R,rfl,λp1 h1=>qc q8 ?_⟩;have s1:=By (o:=.lst ((qk R).map qj)) h1;by_cases c2:i<((qk R).length:Int)
 rotate_left
 ·refine v0 (by show decide (i>=((((qk R).map qj).length:Nat):Int))=true;rw[Ab];exact AE (by lia)) (we s1 (no λh=>c2 h.2))
 refine xi (by show decide (i>=((((qk R).map qj).length:Nat):Int))=false;rw[Ab];exact Au (by lia)) ?_;obtain⟨k,rfl⟩:∃k:Nat,i=(k:Int):=⟨i.toNat,by lia⟩;have hk:k<(qk R).length:=by lia
 have pl:=EC sr.arms;have eI:(qk R)[k]?=some (qk R)[k]:=Af hk;have l:(k6 p R)[k]?=some ((k6 p R)[k]'(by lia)):=Af (by lia);generalize (qk R)[k]=I at eI;generalize (k6 p R)[k]'(by lia)=ts at l;obtain⟨EI,sI,a4⟩:=DZ sr.arms eI l;have mI:=AD eI;have t:=(dW mI).nodup nd;have au:=(dW mI).length_le;have av:=oN ts (AD l);have a5:=ag.arm mI;have eG:goR p R (k:Int)=xz I ts:=by unfold goR xt;rw[AB ⟨by lia,c2⟩,AZ,eI,l];rfl
 rw[eG] at q;clear eG no c1 c2;generalize qi L p1 (.lst ((qk R).map qj))=L1 at s1 ⊢;refine⟨R,rfl,λp2 h2=>qc q8 (qm (jj eI) ?_)⟩;have s2:=s1.trans (By (o:=.lst ((qk R).map qj)) h2);generalize qi L1 p2 (.lst ((qk R).map qj))=L2 at s2 ⊢;refine⟨a,wd,p,R,E,k,_,rfl,rfl,s2 _ _ ha,sr,ag,hk,λT aL h3 a2=>?_⟩;rw[l] at a2;cases a2;have s3:=s2.trans (By (o:=.lst (nY ts)) h3);have g3:qi L2 T (.lst (nY ts)) T=some (.lst (nY ts)):=q8;generalize qi L2 T (.lst (nY ts))=L3 at s3 g3 ⊢;have key:(∃x∈bF I,x∈ts)->bQ Q .non L3:=λ⟨x,h1,h2⟩=>by rw[aju t h1 h2] at q;exact we s3 q
 have tail:ah6 vf gJ { nx:=λ_ J=>bQ Q .non J,rt:=bQ Q } [some (.ref a),some (qj R),some (.int (k:Int)),some (qj I),some (.ref T),none,none,none] L3:=by
  refine⟨I,rfl,λp4 h4=>?_⟩;have s4:=s3.trans (By (o:=.lst ((qk I).map qj)) h4);have al:=By (o:=.lst ((qk I).map qj)) h4 _ _ g3;refine vh q8 λkeep kp=>w6 ⟨λj τ J=>∃c5 c6 c7,τ=[some (.ref a),some (qj R),some (.int (k:Int)),some (qj I),some (.ref T),c5,c6,c7]/\qg L J/\J T=some (.lst (nY ts))/\J p4=some (.lst ((qk I).map qj))/\∀B∈(qk I).take j,bC ts B=false,⟨_,_,_,rfl,s4,al,q8,λB hB=>by cases hB⟩,?_,?_,?_⟩
  ·rintro j τ J ⟨c5,c6,c7,rfl,s,_,g,_⟩;exact kp J (by rw[g,q8])
  ·rintro j y τ J hy ⟨c5,c6,c7,rfl,s,gt,g,U⟩;obtain⟨z,ez,rfl⟩:=gn hy;rw[An] at ez;obtain⟨B,eB,rfl⟩:=Ap.mp ez;have mB:=AD eB;obtain⟨EB,sB⟩:=sI.arm mB;have ba:=(dW mB).length_le;have iff:=uu sI t mB sB a4;refine⟨a,wd,p,B,EB,rfl,s _ _ ha,sB,a5.arm mB,(dW mB).nodup t,by lia,λp5 F h5 hF=>?_⟩;have s5:=s.trans (By (o:=.lst (nY F)) h5);have a1:=By (o:=.lst (nY F)) h5 _ _ gt;have g5:=By (o:=.lst (nY F)) h5 _ _ g;have e5:qi J p5 (.lst (nY F)) p5=some (.lst (nY F)):=q8;generalize qi J p5 (.lst (nY F))=L5 at s5 a1 g5 e5 ⊢;refine vh a1 λkeep kp=>fj (λi zs=>zs=nY ((ts.take i).filter λx=>!decide (x∈F))) (by rw[ku];exact big _ (by lia)) (kp _ rfl) rfl ?_ ?_
   ·rintro i y zs hy rfl;obtain⟨x,ex,rfl⟩:=hV hy;refine qc e5 ⟨rfl,qB _,?_⟩;rw[pX];have l:ts.take (i+1)=ts.take i++[x]:=by rw[Bc,ex];rfl
    by_cases c:x∈F
    ·refine xi (by rw[AE c];rfl) ⟨_,DU _,rfl,?_⟩;rw[l,B9,C1,AC (by simp[c])];simp
    ·refine v0 (by rw[Au c];rfl) ⟨_,DU _,rfl,?_⟩;rw[l,B9,C1,AB (by simp[c]),fg];rfl
   rintro zs rfl p6 h6;rw[ku,A9];have s6:=s5.trans (By (o:=.lst (nY (ts.filter λx=>!decide (x∈F)))) h6);have a3:=By (o:=.lst (nY (ts.filter λx=>!decide (x∈F)))) h6 _ _ a1;have g6:=By (o:=.lst (nY (ts.filter λx=>!decide (x∈F)))) h6 _ _ g5;have e6:qi L5 p6 (.lst (nY (ts.filter λx=>!decide (x∈F)))) p6=some (.lst (nY (ts.filter λx=>!decide (x∈F)))):=q8;generalize qi L5 p6 (.lst (nY (ts.filter λx=>!decide (x∈F))))=L6 at s6 a3 g6 e6 ⊢;intro p7 h7;have s7:=s6.trans (By (o:=.lst []) h7);refine wm (n:=0) (m:=0) (by decide) (By h7 _ _ e6) q8 (by rw[afa];exact aQ _) (.nil:Paired (jd _ 0) _ []) ?_;have nil:Da.eqs (((ts.filter λx=>!decide (x∈F)).map λn:Nat=>(n:Int)).map λx=>Da.s (.int x)) []=bC ts B:=by
    by_cases c:bC ts B=true
    ·rw[c,DK.mpr λx hx=>by simp[(hF x).mpr (iff.mpr c x hx)]];rfl
    ·rw[BF.mpr c];cases hf:ts.filter λx=>!decide (x∈F) with|nil=>exact absurd (iff.mp λx hx=>(hF x).mp (by have:=DK.mp hf x hx;simpa using this)) c|cons x r=>rfl
   show wc (Da.eqs _ _) _ _;rw[nil];by_cases c:bC ts B=true
   ·refine v0 c ?_;rw[show xz I ts=some j from oh eB U c] at q;exact we s7 q
   ·refine xi (BF.mpr c) ⟨_,DU _,_,_,_,rfl,s7,By h7 _ _ a3,By h7 _ _ g6,λC hC=>?_⟩;rw[Bc,eB] at hC;rcases Aq.mp hC with hC|hC
    ·exact U C hC
    ·rw[Ai.mp hC];exact BF.mpr c
  ·rintro τ J ⟨c5,c6,c7,rfl,s,_,g,U⟩;rw[iG,Ab,A9] at U;rw[show xz I ts=none from Cz.mpr U] at q;exact we s q
 have ask:∀(x:Nat) {A B:Prop},(x∈ts->A)->(x∉ts->B)->fC L3 (.ref T) λys=>fS (.int (x:Int))=true/\ys.all fS=true/\wc (nb false (u3 (f9 (.int (x:Int))) (ys.map f9))) A B:=λx A B ha hb=>by
  refine qc g3 ⟨rfl,qB _,?_⟩;rw[pX];by_cases c:x∈ts
  ·exact v0 (AE c) (ha c)
  ·exact xi (Au c) (hb c)
 cases I with|link p0 q0=>exact ask p0 (λh=>key ⟨p0,Ak ..,h⟩) λ_=>tail|ei r0 A0=>exact ask r0 (λh=>key ⟨r0,Ak ..,h⟩) λ_=>tail|bo r0 A0 B0=>exact ask r0 (λh=>key ⟨r0,Ak ..,h⟩) λ_=>tail|cu p0 q0 A0 B0=>exact tail
def kK(J:jl):vt:=(qt (zf (z9 J (vk (q9 0))) (qh 3))
 (qt (zf (zb hU (bT 0) (bT 3)) (qh 4))
 (qt (aan (q9 3) (q9 1) (q9 2))
 (zy (zb sd (vM nZ (q9 0) w5 (aV (q9 4))) (jS qE (vk (q9 3))))))))
def qD(J:jl)(p1:jl):vt:=(qt (zf (zb wz (z9 J (vk (q9 0))) (q9 1)) (qh 3))
 (qt (zf (zb wz (z9 J (vk (q9 3))) (q9 2)) (qh 4))
 (zy (z9 p1 (qd (q9 3) (qd (q9 2) (qd (z9 p1 (qd (q9 0) (aH (q9 1) (q9 4)))) z0)))))))
def xL(J:jl):vt:=(qt (dc (wr (q9 1)) (qh 2) (zf (zb wz (z9 J (vk (q9 0))) (q9 2)) (qh 0)))
 (zy (q9 0)))
def m5(J:jl)(p1:jl)(p2:jl):vt:=(qt (jt (dk (q9 1) (jq z0)) (zy (q9 2)) j8)
 (zy (z9 J (qd (q9 0) (qd (xc 1 0) (qd (z9 p1 (qd (zb wz (z9 p2 (vk (q9 0))) (xc 1 0)) (qd (vM yN (q9 1) (aV (zk 1)) w5) (vk (q9 2))))) z0))))))
def mY(J:jl):vt:=(qt (dc (wr (q9 1)) (qh 2) (qt (zf (z9 J (vk (q9 0))) (qh 3))
 (qt (jt (yOr (yB (zb yLt (q9 2) (zk 0))) (yB (zb yGe (q9 2) (bT 3)))) (zy (yC (.bl false))) j8)
 (zf (zb wz (q9 3) (q9 2)) (qh 0)))))
 (zy (yC (.bl true))))
def uM(J:jl)(p1:jl)(p2:jl)(p3:jl)(p4:jl):vt:=(qt (jt (tJ (yB (z9 J (aH (q9 1) (q9 2))))) (zy (yC .non)) j8)
 (qt (zf (z9 p1 (aH (q9 1) (q9 2))) (qh 4))
 (qt (zf (z9 p2 (qd (q9 0) (aH (q9 4) (q9 3)))) (qh 5))
 (qt (jt (yB (fB false (q9 5))) (zy (yC .non)) j8)
 (zy (kg (qd (q9 0) (qd (z9 p3 (qd (q9 1) (qd (q9 2) (qd (z9 p4 (qd (q9 4) (aH (q9 3) (q9 5)))) z0)))) z0))))))))
theorem ad7:∀ys L Q,aq ys L Q->xj (kK vf) 5 ys L Q:=by
 rintro ys L Q ⟨R,A,n,l,rfl,rfl,U,q⟩;have two:∀{n:Nat},n<2->n=0\/n=1:=λh=>by lia
 refine⟨R,rfl,λp g=>?_⟩;have J:∀{o j:LO} {y:Y},Q y L->bQ Q y (qi (qi L p o) p j):=λq=>by rw[xr];exact we (By g) q
 cases R with
 |link a b=>cases U
 |ei r B=>
  obtain rfl:n=0:=by have:n<1:=U;lia
  exact qc q8 (qw q8 ⟨λz=>absurd z.2 (by show ¬2=3;decide),qw q8 ⟨Ba _ _,by show 3<=1000;decide,J q⟩⟩)
 |bo r B C=>
  rcases two U with rfl|rfl
  ·exact qc q8 (qw q8 ⟨λz=>absurd z.2 (by show ¬2=4;decide),qw q8 ⟨Ba _ _,by show 4<=1000;decide,J q⟩⟩)
  ·exact qc q8 (qw q8 ⟨λz=>absurd z.2 (by show ¬2=4;decide),qw q8 ⟨Ba _ _,by show 4<=1000;decide,J q⟩⟩)
 |cu a b B C=>
  rcases two U with rfl|rfl
  ·exact qc q8 (qw q8 ⟨λz=>absurd z.2 (by show ¬3=5;decide),qw q8 ⟨Ba _ _,by show 5<=1000;decide,J q⟩⟩)
  ·exact qc q8 (qw q8 ⟨λz=>absurd z.2 (by show ¬3=5;decide),qw q8 ⟨Ba _ _,by show 5<=1000;decide,J q⟩⟩)
def iD:jl:=λys L Q=>∃R I B:Ru,∃k n:Nat,∃J U:Int,ys=[qj R,.int J,.int U]/\J=(k:Int)/\U=(n:Int)/\(qk R)[k]?=some I/\(qk I)[n]?=some B/\Q (qj (vj I n (vj R k B))) L
theorem yX:∀ys L Q,iD ys L Q->xj (qD vf aq) 5 ys L Q:=by rintro ys L Q ⟨R,I,B,k,n,g,j,rfl,rfl,rfl,J,U,q⟩;refine⟨R,rfl,λl h1=>qc q8 (qm (jj J) ?_)⟩;refine⟨I,rfl,λo h2=>qc q8 (qm (jj U) ?_)⟩;exact⟨R,B,k,_,rfl,rfl,jy J,⟨I,_,n,_,rfl,rfl,jy U,we ((By h1).trans (By h2)) q⟩⟩
theorem ef{w:List Int}(x:Int)(u:List Int):jn R (w++x::u)=match jn R w with|none=>none|some S=>jn S (x::u):=by
 induction w generalizing R with
 |nil=>rfl
 |cons i w J=>
  show(match xt R i with|some B=>jn B (w++x::u)|none=>none)=match (match xt R i with|some B=>jn B w|none=>none) with|none=>none|some S=>jn S (x::u)
  cases xt R i with|none=>rfl|some B=>exact J
theorem ac2{w:List Int}{x:Int}(h:w[i]?=some x):w.take (i+1)=w.take i++[x]/\w=w.take i++x::w.drop (i+1):=by have J:=jy h;refine⟨by rw[Bc,h];rfl,?_⟩;rw[Af J] at h;rw[<-AN h,BN,A8]
def ug:jl:=λys L Q=>∃R S:Ru,∃h,∃w:List Int,ys=[qj R,.ref h]/\L h=some (.lst (w.map Y.int))/\jn R w=some S/\Q (qj S) L
theorem aj1:∀ys L Q,ug ys L Q->xj (xL vf) 3 ys L Q:=by
 rintro ys L Q ⟨R,S,h,w,rfl,j,J,q⟩;refine vh j λkeep r=>w6 ⟨λi g U=>∃c2 A,g=[some (qj A),some (.ref h),c2]/\qg L U/\jn R (w.take i)=some A,⟨_,R,rfl,DU _,rfl⟩,?_,?_,?_⟩
 ·rintro i g U ⟨c2,A,rfl,s,_⟩;exact r U (by rw[s _ _ j,j])
 ·rintro i y g U o ⟨c2,A,rfl,s,e⟩;rw[An] at o;obtain⟨x,ex,rfl⟩:=Ap.mp o;obtain⟨t,C⟩:=ac2 ex;rw[C,ef,e] at J;have J:(match xt A x with|some B=>jn B _|none=>none)=some S:=J;cases l:xt A x with
  |none=>rw[l] at J;cases J
  |some B=>
   obtain⟨k,rfl,I⟩:=ww l;refine⟨A,rfl,λp T=>qc q8 (qm (jj I) ⟨_,DU _,_,B,rfl,s.trans (By T),?_⟩)⟩;rw[t,ef,e];show(match xt A (k:Int) with|some B=>jn B []|none=>none)=_;rw[l];rfl
 ·rintro g U ⟨c2,A,rfl,s,e⟩;rw[Ab,A9,J] at e;cases e;exact we s q
def fq:jl:=λys L Q=>∃R:Ru,∃h,∃w:List Int,ys=[qj R,.ref h]/\L h=some (.lst (w.map Y.int))/\Q (.bl (jn R w).isSome) L
theorem u6:∀ys L Q,fq ys L Q->xj (mY vf) 4 ys L Q:=by
 rintro ys L Q ⟨R,h,w,rfl,g,q⟩;refine vh g λkeep t=>w6 ⟨λi U J=>∃c2 c3 A,U=[some (qj A),some (.ref h),c2,c3]/\qg L J/\jn R (w.take i)=some A,⟨_,_,R,rfl,DU _,rfl⟩,?_,?_,?_⟩
 ·rintro i U J ⟨c2,c3,A,rfl,s,_⟩;exact t J (by rw[s _ _ g,g])
 ·rintro i y U J j ⟨c2,c3,A,rfl,s,e⟩;rw[An] at j;obtain⟨x,ex,rfl⟩:=Ap.mp j;obtain⟨C,I⟩:=ac2 ex;have T:jn R w=match xt A x with|some B=>jn B (w.drop (i+1))|none=>none:=by have:=ef (R:=R) (w:=w.take i) x (w.drop (i+1));rw[e,<-I] at this;exact this
  refine⟨A,rfl,λp hp=>?_⟩;have l:=s.trans (By (o:=.lst ((qk A).map qj)) hp);have no:¬(0<=x/\x<((qk A).length:Int))->bQ Q (.bl false) (qi J p (.lst ((qk A).map qj))):=λc=>by
   have z:xt A x=none:=by unfold xt;rw[AC c]
   rw[T,z] at q;exact we l q
  by_cases c1:x<0
  ·exact v0 (AE c1) (no (by lia))
  refine xi (Au c1) (qc q8 ?_);by_cases c2:x<((qk A).length:Int)
  ·refine xi (by show decide (x>=((((qk A).map qj).length:Nat):Int))=false;rw[Ab];exact Au (by lia)) ?_;obtain⟨k,rfl⟩:∃k:Nat,x=(k:Int):=⟨x.toNat,by lia⟩;have r:(qk A)[k]?=some ((qk A)[k]'(by lia)):=Af (by lia);refine qc q8 (qm (jj r) ⟨_,DU _,_,_,_,rfl,l,?_⟩);rw[C,ef,e];show(match xt A (k:Int) with|some B=>jn B []|none=>none)=_;unfold xt;rw[AB ⟨by lia,c2⟩,AZ,r];rfl
  ·exact v0 (by show decide (x>=((((qk A).map qj).length:Nat):Int))=true;rw[Ab];exact AE (by lia)) (no λh=>c2 h.2)
 ·rintro U J ⟨c2,c3,A,rfl,s,e⟩;rw[Ab,A9] at e;rw[e] at q;exact we s q
theorem ag9(ys:List Y):jM (y::ys) (some 1) none=ys:=by have e:HT.sIx (ys.length+1) 0 (some ((1:Nat):Int))=1:=sIx_nat (by lia);show((y::ys).drop (HT.sIx (ys.length+1) 0 (some ((1:Nat):Int)))).take ((ys.length+1)-HT.sIx (ys.length+1) 0 (some ((1:Nat):Int)))=ys;rw[e];exact Bq (by simp)
def bz(n:Nat):jl:=λys L Q=>∃R S T:Ru,∃h,∃w:List Int,ys=[qj R,.ref h,qj T]/\L h=some (.lst (w.map Y.int))/\w.length+1<=n/\jn R w=some S/\Q (qj (cD R w T)) L
theorem yM:∀ys L Q,¬bz 0 ys L Q:=by rintro ys L Q ⟨R,S,T,h,w,_,_,z,_⟩;cases z
theorem xQ(n:Nat):∀ys L Q,bz (n+1) ys L Q->xj (m5 aq (bz n) vf) 3 ys L Q:=by
 rintro ys L Q ⟨R,S,T,h,w,rfl,U,hn,J,q⟩;intro p C;refine wm (n:=0) (m:=0) (by decide) (By C _ _ U) q8 (aQ w) (.nil:Paired (jd _ 0) _ []) ?_;have g:=By (o:=.lst []) C;generalize qi L p (.lst [])=L1 at g ⊢;cases w with
 |nil=>exact we g q
 |cons x w=>
  have J:(match xt R x with|some B=>jn B w|none=>none)=some S:=J;cases l:xt R x with
  |none=>rw[l] at J;cases J
  |some B=>
   rw[l] at J;have r:jn B w=some S:=J;obtain⟨k,rfl,I⟩:=ww l;have q:Q (qj (match xt R (k:Int) with|some B=>vj R (k:Int).toNat (cD B w T)|none=>R)) L:=q;rw[l,AZ] at q;refine qc (g _ _ U) (qm (x6 (j:=0) rfl) ⟨R,rfl,λp2 h2=>?_⟩);have t:=g.trans (By (o:=.lst ((qk R).map qj)) h2);refine qc (t _ _ U) (qm (x6 (j:=0) rfl) (qc q8 (qm (jj I) ?_)));refine qc (t _ _ U) λp3 h3=>?_;rw[show jM (((k:Int)::w).map Y.int) (some 1) none=w.map Y.int from ag9 _];have s3:=t.trans (By (o:=.lst (w.map Y.int)) h3);exact⟨B,S,T,p3,w,rfl,q8,by simp at hn;lia,r,⟨R,_,k,_,rfl,rfl,jy I,we s3 q⟩⟩
theorem aei{w:List Int}(h:jn R w=some S):w.length+1<=zp R/\S∈xm R:=by
 induction w generalizing R with
 |nil=>cases h;exact⟨lz _,by rw[aF];exact Ak ..⟩
 |cons i w U=>
  have h:(match xt R i with|some B=>jn B w|none=>none)=some S:=h;cases e:xt R i with
  |none=>rw[e] at h;cases h
  |some B=>
   rw[e] at h;obtain⟨k,_,g⟩:=ww e;have J:=AD g;have:=v5 J;obtain⟨a,b⟩:=U h;exact⟨by rw[AJ];lia,by rw[aF];exact Ae _ (A4.mpr ⟨B,J,b⟩)⟩
theorem afz{k:Nat}{E:List Nat}(g:SR ks R E)(J:(qk R)[k]?=some I):∃ts,(k6 ks R)[k]?=some ts/\goR ks R (k:Int)=xz I ts/\cQ ks R k=match xz I ts with|none=>none|some n=>match (qk I)[n]? with|some B=>some (vj I n (vj R k B))|none=>none:=by
 have j:=jy J;have pl:=EC g.arms;have U:(k6 ks R)[k]?=some ((k6 ks R)[k]'(by lia)):=Af (by lia);refine⟨_,U,?_,?_⟩
 ·unfold goR xt;rw[AB ⟨by lia,by lia⟩,AZ,J,U];rfl
 ·unfold cQ;rw[J,U];try rfl
def ah0(a:Addr):Option Ru->Y
 |none=>.non
 |some R=>.tup [.ref a,qj R]
def qS:jl:=λys L Q=>∃a h,∃wd:List (Option Kn),∃ks:List Kn,∃R:Ru,∃E:List Nat,∃w:List Int,∃i:Int,ys=[.ref a,qj R,.ref h,.int i]/\L a=some (.lst (a7 wd))/\L h=some (.lst (w.map Y.int))/\SR ks R E/\t8 ks wd R/\(qp R).Nodup/\(qp R).length<=120/\Q (ah0 a (zZ ks R w i)) L
theorem af5:∀ys L Q,qS ys L Q->xj (uM fq ug gF (bz 124) iD) 6 ys L Q:=by
 rintro ys L Q ⟨a,h,C,g,R,E,w,i,rfl,T,l,sr,ag,nd,tl,q⟩;refine⟨R,h,w,rfl,l,?_⟩;unfold zZ at q;cases U:jn R w with
 |none=>
  rw[U] at q;exact jw q
 |some S=>
  rw[U] at q;have q:Q (ah0 a (match xt S i with|none=>none|some _=>(cQ g S i.toNat).map (cD R w))) L:=q;obtain⟨wl,mS⟩:=aei U;have rd:=xg R;obtain⟨⟨ES,p⟩,tS,J,_,_⟩:=sr.rls S mS;have a1:=J.length_le;refine⟨R,S,h,w,rfl,l,U,?_⟩;refine⟨a,C,g,S,ES,i,rfl,T,p,λx hx=>ag x (tS x hx),J.nodup nd,by lia,?_⟩;cases j:xt S i with
  |none=>
   rw[j] at q;have e:goR g S i=none:=by unfold goR;rw[j]
   rw[e];exact jw q
  |some I=>
   rw[j] at q;obtain⟨k,rfl,r⟩:=ww j;have q:Q (ah0 a ((cQ g S (k:Int).toNat).map (cD R w))) L:=q;rw[AZ] at q;obtain⟨ts,et,e1,e2⟩:=afz p r;rw[e1];rw[e2] at q;cases o:xz I ts with
   |none=>
    rw[o] at q;exact jw q
   |some n=>
    rw[o] at q;obtain⟨B,t,_⟩:=wH o;have q:Q (ah0 a ((match (qk I)[n]? with|some B=>some (vj I n (vj S k B))|none=>none).map (cD R w))) L:=q;rw[t] at q;exact⟨S,I,B,k,n,_,_,rfl,rfl,rfl,r,t,⟨R,S,_,h,w,rfl,l,by lia,U,jw q⟩⟩
def iJ(J:jl):vt:=(qt (zf (jq z0) (qh 2))
 (qt (zf (z9 J (vk (q9 0))) (qh 3))
 (qt (fb (ox (rdN (q9 3) (jq z0)) (yB (zb yGt (zb xu (q9 1) (zk 6)) (zk 0)))) (qt (jk (af j6 (q9 2) (qd (zb xu (zb vv (q9 1) (zk 6)) (bT 3)) z0)))
 (qt (zf (z9 J (qd (zb wz (q9 3) (zb wz (q9 2) (uA ft (zk 1)))) z0)) (qh 3))
 (zf (zb xu (zb m8 (q9 1) (zk 48271)) (zk 2147483647)) (qh 1)))))
 (zy (q9 2)))))
def pG(J:jl)(p1:jl):vt:=(qt (agd 3 4 (qd (jq z0) (qd (jq (qd (rdT (jq z0) (q9 1)) z0)) z0)))
 (qt (fb (rdN (q9 4) (jq z0)) (qt (zf (af vG (q9 4) z0) (bB 2 (je (qh 5) (je (qh 6) ac))))
 (qt (zf (z9 J (vk (q9 6))) (qh 7))
 (dc (iC (vk (bT 7))) (qh 8) (dE (jt (ox (dk (fB true (z9 p1 (qd (q9 0) (aH (q9 6) (q9 8))))) (q9 2)) (rdN (zb wz (zb wz (q9 7) (q9 8)) (zk 0)) (dR "link"))) (jk (af j6 (q9 3) (qd (rdT (q9 5) (q9 8)) z0))) j8)
 (jk (af j6 (q9 4) (qd (kg (qd (zb k8 (q9 5) (jq (vk (q9 8)))) (qd (zb wz (q9 7) (q9 8)) z0))) z0))))))))
 (zy (q9 3))))
def qJ(J:jl)(p1:jl):vt:=(qt (zf (z9 J (qd (q9 0) (qd (q9 1) (qd (zb yLt (zb xu (q9 2) (zk 4)) (zk 2)) z0)))) (qh 3))
 (qt (jt (ox (yB (zb yLt (zb xu (q9 2) (zk 4)) (zk 3))) (rdN (q9 3) (jq z0))) (zy (zb wz (q9 3) (zb xu (zb vv (q9 2) (zk 4)) (bT 3)))) j8)
 (qt (zf (z9 p1 (qd (q9 1) (qd (zb xu (zb m8 (q9 2) (zk 69621)) (zk 2147483647)) z0))) (qh 4))
 (dE (jt (dk (zb xu (zb vv (q9 2) (zk 4)) (zk 4)) (zk 0)) (zf (zb k8 (q9 4) (jq (qd (lb (qd (uA ft (zk 1)) (qd (zk 2) (qd (zk 5) (qd (zb acn (zk 10) (zk 30)) (vk (zk 0)))))) (zb xu (zb vv (q9 2) (zk 16)) (zk 5))) z0))) (qh 4)) j8)
 (dE (jt (dk (zb xu (zb vv (q9 2) (zk 4)) (zk 4)) (zk 1)) (zf (zb k8 (jq (qd (lb (qd (uA ft (zk 1)) (qd (uA ft (zk 2)) (aH (zk 2) (zk 3)))) (zb xu (zb vv (q9 2) (zk 16)) (zk 4))) z0)) (q9 4)) (qh 4)) j8)
 (zy (kg (qd (q9 4) (qd (lb (qd (zk 0) (qd (zk 1) (qd (zk 0) (qd (zk 1) (qd (uA ft (zk 1)) (qd (zk 2) (qd (zb acn (zk 10) (zk 30)) (qd (uA ft (zk 2)) z0)))))))) (zb xu (zb vv (q9 2) (zk 80)) (zk 8))) z0)))))))))
def ah7(J:jl)(p1:jl):vt:=(qt (jt (rdN (zb xu (zb vv (q9 2) (zk 5)) (zk 4)) (zk 1)) (zy (rdT (q9 0) (q9 1))) j8)
 (qt (zf (z9 J (qd (q9 1) (qd (zb xu (zb m8 (q9 2) (zk 69621)) (zk 2147483647)) z0))) (qh 1))
 (qt (zf (zb wz (z9 p1 (vk (q9 1))) (zk 2)) (qh 3))
 (zy (kg (qd (xD 1 (iC (vk (bT 0))) (qh 4) ae2 (yIf (yB (zb (zX false) (q9 4) (q9 3))) (zb wz (q9 0) (q9 4)) (yC .non))) (vk (q9 1))))))))
def gN:jl:=λys L Q=>∃R:Ru,∃n:Int,ys=[qj R,.int n]/\(qp R).length<=120/\∀(w:List Int) p,L p=none->w.length<=120->Q (.ref p) (qi L p (.lst (w.map Y.int)))
theorem abl:∀ys L Q,gN ys L Q->xj (iJ vf) 4 ys L Q:=by
 rintro ys L Q ⟨R,n,rfl,tl,q⟩;have big:=bg_;have rd:=xg R;intro l T;refine⟨R,rfl,λp1 h1=>?_⟩;have n1:l≠p1:=km q8 h1;have done:∀J (w:List Int),qg L J->J l=some (.lst (w.map Y.int))->w.length<=120->bQ Q (.ref l) J:=λJ w s g hw=>we (ER s g) (q w l T hw);refine⟨λm τ J=>∃A n w t,τ=[some (qj R),some (.int n),some (.ref l),some (.ref t)]/\qg L J/\J l=some (.lst ((w:List Int).map Y.int))/\J t=some (.lst ((qk A).map qj))/\w.length+zp A<=zp R/\m=zp A,⟨_,R,n,[],p1,rfl,(By T).trans (By h1),(qb n1).trans q8,q8,by simp,rfl⟩,?_⟩;rintro m τ J ⟨A,n,w,t,rfl,s,gl,ga,hw,rfl⟩;intro p2 h2;have I:=s.trans (By (o:=.lst []) h2);have U:=By (o:=.lst []) h2 _ _ gl;have p:=By (o:=.lst []) h2 _ _ ga;refine wm (n:=120) (m:=0) (by decide) p q8 (aK λB hB=>by have:=v5 hB;lia) (.nil:Paired (jd _ 0) _ []) ?_;generalize qi J p2 (.lst [])=L2 at I U p ⊢;show wc (!(Da.eqs ((qk A).map aj) [])) _ _;rw[gB];by_cases c:qk A=[]
 ·refine xi (by rw[AE c];rfl) ?_;exact xi rfl (done _ w I U (by lia))
 ·refine v0 (by rw[Au c];rfl) ⟨(show(0:Int)<6 by decide),?_⟩;refine x0 (λc6=>?_) λc6=>done _ w I U (by lia);refine⟨λa1 J=>∃m',m'<zp A/\∃A n w t,a1=[some (qj R),some (.int n),some (.ref l),some (.ref t)]/\qg L J/\J l=some (.lst ((w:List Int).map Y.int))/\J t=some (.lst ((qk A).map qj))/\w.length+zp A<=zp R/\m'=zp A,λ_ _ h=>h,?_⟩;have hz:0<(qk A).length:=List.length_pos_iff.mpr c;obtain⟨j,B,ej,lj,eB⟩:=dZ hz (n / 6);have mB:=AD eB;have dB:=v5 mB;have lm:((qk A).map qj).length=(qk A).length:=Ab ..;refine qc U ⟨⟨by decide,by decide⟩,qc p ⟨(by show(0:Int)<(((qk A).map qj).length:Int);rw[lm];lia),qw U ⟨by rw[Ab];exact big _ (by lia),?_⟩⟩⟩;have ev:(λi j:Int=>Y.int (i % j)) (n / 6) (((qk A).map qj).length:Int)=.int (j:Int):=by show Y.int _=_;rw[lm,ej]
  rw[ev];have e3:qi L2 l (.lst (w.map Y.int++[.int (j:Int)])) l=some (.lst (w.map Y.int++[.int (j:Int)])):=q8;have a2:t≠l:=λz=>by
   rw[z,U] at p;have:=AN p;injection this with this
   cases hA:qk A with
   |nil=>exact c hA
   |cons x r=>
    rw[hA] at this;cases w with
    |nil=>cases this
    |cons y w=>
     obtain⟨zs,e⟩:=vX x;injection this with h1 _
     rw[e] at h1;cases h1
  have C:qi L2 l (.lst (w.map Y.int++[.int (j:Int)])) t=some (.lst ((qk A).map qj)):=(qb a2).trans p;have s3:=I.upd (o:=.lst (w.map Y.int++[.int (j:Int)])) T;generalize qi L2 l (.lst (w.map Y.int++[.int (j:Int)]))=L3 at e3 C s3 ⊢;refine qc e3 (qm (gb _ _) (qc C (qm (jj eB) ⟨B,rfl,λp5 h5=>?_⟩)));exact⟨.inr ⟨by decide,by decide⟩,(show(0:Int)<2147483647 by decide),_,DU _,zp B,dB,B,_,w++[(j:Int)],p5,rfl,s3.trans (By h5),by rw[By h5 _ _ e3,Am];rfl,q8,by rw[Ac,A7];lia,rfl⟩
def xG(e:Addr×Ru):Y:=.tup [.ref e.1,qj e.2]
def wC(e:Addr×Int):Y:=.tup [.ref e.1,.int e.2]
def Wk(fa sa:Addr)(m:Nat)(L:qr)(a:Addr):Prop:=a≠fa/\a≠sa/\∃w:List Int,L a=some (.lst (w.map Y.int))/\w.length<=m
def gA(fa sa:Addr)(L L':qr):Prop:=∀b o,b≠fa->b≠sa->L b=some o->L' b=some o
theorem Wk.keep{fa sa:Addr}(h:Wk fa sa m L a)(k:gA fa sa L L'):Wk fa sa m L' a:=by obtain⟨h1,h2,w,e,l⟩:=h;exact⟨h1,h2,w,k _ _ h1 h2 e,l⟩
theorem gA.refl{fa sa:Addr}(L:qr):gA fa sa L L:=λ_ _ _ _ e=>e
abbrev EE:=@gA.refl
theorem gA.new{fa sa p:Addr}{o:LO}(k:gA fa sa L L')(J:L' p=none):gA fa sa L (qi L' p o):=λb u h1 h2 e=>By J _ _ (k b u h1 h2 e)
theorem gA.fa{fa sa:Addr}{o:LO}(k:gA fa sa L L'):gA fa sa L (qi L' fa o):=λb u h1 h2 e=>(qb h1).trans (k b u h1 h2 e)
theorem gA.sa{fa sa:Addr}{o:LO}(k:gA fa sa L L'):gA fa sa L (qi L' sa o):=λb u h1 h2 e=>(qb h2).trans (k b u h1 h2 e)
theorem iO{L:qr}{n:Nat}:∀xs:List Int,Paired (jd L n) (xs.map Y.int) (xs.map λx=>Da.s (.int x))
 |[]=>.nil
 |x::r=>.cons (EF x) (iO r)
theorem y8{A:Ru}(h:zp A<=n):jd L n (qj A) (aj A):=by
 have:=aK (L:=L) (n:=n) (st:=[A]) λB J=>by rw[Ai.mp J];exact h
 cases this with|cons a _=>exact a
theorem kO{α:Type}{L:qr}{n:Nat}{f:α->Y}:∀{st:List α},(∀e∈st,∃d,jd L n (f e) d)->∃ds,Paired (jd L n) (st.map f) ds/\Da.eqs ds []=st.isEmpty
 |[],_=>⟨[],.nil,rfl⟩
 |e::r,h=>by obtain⟨d,hd⟩:=h e (Ak ..);obtain⟨ds,p,_⟩:=kO (st:=r) λx J=>h x (Ae _ J);exact⟨d::ds,.cons hd p,rfl⟩
theorem Wk.dat{fa sa:Addr}(h:Wk fa sa m L a):∃d,jd L (n+1) (.ref a) d:=by obtain⟨_,_,w,e,_⟩:=h;exact⟨_,xh e (iO w)⟩
theorem ago{Q:YK}(h:∀s,Q (.str s) L):wz (qj B) (.int 0) L Q:=by cases B<;>exact h _
structure PrI(R:Ru)(fa sa:Addr)(L:qr)(fs:List (Addr×Int))(st:List (Addr×Ru)):Prop where
 f:∀e∈fs,Wk fa sa (zp R) L e.1
 s:∀e∈st,e.2∈xm R/\zp e.2<=zp R/\Wk fa sa (zp R-zp e.2) L e.1
theorem PrI.keep{fa sa:Addr}{fs:List (Addr×Int)}{st:List (Addr×Ru)}(h:PrI R fa sa L fs st)(k:gA fa sa L L'):PrI R fa sa L' fs st:=
 ⟨λe J=>(h.f e J).keep k,λe J=>⟨(h.s e J).1,(h.s e J).2.1,(h.s e J).2.2.keep k⟩⟩
def wT(st:List (Addr×Ru)):Nat:=(st.map λe=>xb e.2).sum
def dY:jl:=λys L Q=>∃a,∃wd:List (Option Kn),∃ks:List Kn,∃R:Ru,∃E:List Nat,∃b:Bool,ys=[.ref a,qj R,.bl b]/\L a=some (.lst (a7 wd))/\SR ks R E/\t8 ks wd R/\(qp R).Nodup/\(qp R).length<=120/\
 ∀fa fs L',qg L L'->L' fa=some (.lst ((fs:List (Addr×Int)).map wC))->fs.length<=1000->(∀e∈fs,∃w:List Int,L' e.1=some (.lst (w.map Y.int))/\w.length<=120)->Q (.ref fa) L'
def tPr(a:Addr)(R:Ru)(b:Bool)(fa sa:Addr)(c5 c6 c7 c8:Option Y):jo:=[some (.ref a),some (qj R),some (.bl b),some (.ref fa),some (.ref sa),c5,c6,c7,c8]
theorem aot{x i:Y}{Q:YK}(h:wz x i L Q):yC i τ L (λy L2=>wz x y L2 Q):=h
theorem rR:∀ys L Q,dY ys L Q->xj (pG vf gF) 9 ys L Q:=by
 rintro ys L Q ⟨a,wd,ks,R,E,b,rfl,ha,sr,ag,nd,tl,q⟩;have big:=bg_;have rd:=xg R;have rz:=wf R;intro fa aL w0 ba sa a2;have au:fa≠w0:=km q8 ba;have bb:w0≠sa:=km q8 a2;have a3:fa≠sa:=km ((qb au).trans q8) a2;have a4:L sa=none:=jg (jg a2);have S0:qg L (qi (qi (qi L fa (.lst [])) w0 (.lst [])) sa (.lst [.tup [.ref w0,qj R]])):=((By aL).trans (By ba)).trans (By a2);refine⟨λm τ U=>∃fs st c5 c6 c7 c8,τ=tPr a R b fa sa c5 c6 c7 c8/\qg L U/\U fa=some (.lst ((fs:List (Addr×Int)).map wC))/\U sa=some (.lst ((st:List (Addr×Ru)).map xG))/\PrI R fa sa U fs st/\fs.length+2*wT st<=2*xb R/\m=wT st,⟨_,[],[(w0,R)],_,_,_,_,rfl,S0,(qb a3).trans ((qb au).trans q8),q8,⟨λe C=>(by cases C),λe C=>?_⟩,by simp[wT],rfl⟩,?_⟩
 ·rw[Ai.mp C];exact⟨bX R,Aj _,AF au,bb,[],(qb bb).trans q8,Bf _⟩
 rintro m τ U ⟨fs,st,c5,c6,c7,c8,rfl,s,t,g,P,hz,rfl⟩;intro p hp;have kn:gA fa sa U (qi U p (.lst [])):=(EE U).new hp;obtain⟨ds,pd,ed⟩:=kO (L:=qi U p (.lst [])) (n:=121) (f:=xG) (st:=st) λe C=>by obtain⟨h1,h2,h3⟩:=P.s e C;obtain⟨d,hd⟩:=(h3.keep kn).dat (n:=119);exact⟨_,aZ (.cons hd (.cons (y8 (by lia)) .nil))⟩
 refine wm (n:=121) (m:=0) (by decide) (By hp _ _ g) q8 pd (.nil:Paired (jd _ 0) _ []) ?_;have s2:=s.trans (By (o:=.lst []) hp);replace t:=By (o:=.lst []) hp _ _ t;replace g:=By (o:=.lst []) hp _ _ g;replace P:=P.keep kn;clear kn pd;generalize qi U p (.lst [])=L2 at s2 t g P ⊢;show wc (!(Da.eqs ds [])) _ _;rw[ed];rcases Cp st with rfl|⟨aT,⟨wa,A⟩,rfl⟩
 ·refine xi rfl (jw (q fa fs L2 s2 t (by lia) λe C=>?_));obtain⟨_,_,w,e,l⟩:=P.f e C;exact⟨w,e,by lia⟩
 ·rw[Cq] at *;refine v0 (by simp) ⟨λa1 U=>∃m',m'<wT (aT++[(wa,A)])/\∃fs st c5 c6 c7 c8,a1=tPr a R b fa sa c5 c6 c7 c8/\qg L U/\U fa=some (.lst ((fs:List (Addr×Int)).map wC))/\U sa=some (.lst ((st:List (Addr×Ru)).map xG))/\PrI R fa sa U fs st/\fs.length+2*wT st<=2*xb R/\m'=wT st,λa1 U h=>h,?_⟩;rw[Am] at g;refine ur g ?_;obtain⟨hA,dA,I⟩:=P.s (wa,A) (Ah _ (Ai.mpr rfl));have P0:PrI R fa sa L2 fs aT:=⟨P.f,λe C=>P.s e (Ar _ C)⟩;have s3:qg L (qi L2 sa (.lst (aT.map xG))):=s2.upd a4;replace t:=(qb (o:=.lst (aT.map xG)) a3).trans t;have av:gA fa sa L2 (qi L2 sa (.lst (aT.map xG))):=(EE L2).sa;replace P0:=P0.keep av;replace I:=I.keep av;clear g P av;have g:qi L2 sa (.lst (aT.map xG)) sa=some (.lst (aT.map xG)):=q8;generalize qi L2 sa (.lst (aT.map xG))=L3 at s3 t g P0 I ⊢;obtain⟨⟨EA,sA⟩,tA,a5,_,_⟩:=sr.rls A hA;have bn:=a5.length_le;refine⟨A,rfl,λp7 h7=>?_⟩;have s7:=s3.trans (By (o:=.lst ((qk A).map qj)) h7);have k7:gA fa sa L3 (qi L3 p7 (.lst ((qk A).map qj))):=(EE L3).new h7;have bh:p7≠fa:=AF (km t h7);have bi:p7≠sa:=AF (km g h7);replace t:=By (o:=.lst ((qk A).map qj)) h7 _ _ t;replace g:=By (o:=.lst ((qk A).map qj)) h7 _ _ g;replace P0:=P0.keep k7;replace I:=I.keep k7;have ga:qi L3 p7 (.lst ((qk A).map qj)) p7=some (.lst ((qk A).map qj)):=q8;generalize qi L3 p7 (.lst ((qk A).map qj))=L4 at s7 t g P0 I ga ⊢;have al:=acl A;have zA:=gg A;have zs:wT (aT++[(wa,A)])=wT aT+xb A:=by unfold wT;rw[Am,C7];simp
  rw[zs] at hz ⊢;refine qc ga ⟨⟨A5 _,by rw[Ab];lia⟩,?_⟩;rw[Ab,AZ];refine jT (λj τ U=>∃J T c8,τ=tPr a R b fa sa (some (.ref wa)) (some (qj A)) (some (.ref p7)) c8/\qg L U/\U fa=some (.lst ((J:List (Addr×Int)).map wC))/\U sa=some (.lst ((aT++T).map xG))/\U p7=some (.lst ((qk A).map qj))/\PrI R fa sa U J (aT++T)/\Wk fa sa (zp R-zp A) U wa/\(T:List (Addr×Ru)).map (·.2)=(qk A).take j/\J.length<=fs.length+j) ⟨fs,[],_,rfl,s7,t,by rw[AX];exact g,ga,by rw[AX];exact P0,I,rfl,Aj _⟩ ?_ ?_
  ·rintro j τ U hj ⟨J,T,c8,rfl,s,t,g,ga,P,I,en,fl⟩;have eB:(qk A)[j]?=some (qk A)[j]:=Af hj;generalize (qk A)[j]=B at eB;have mB:=AD eB;have dB:=v5 mB;have bc:dQ ((qk A).map qj) (0+(j:Int))=some (qj B):=by rw[B8];exact jj eB
   refine⟨λa1 r=>∃J,a1=tPr a R b fa sa (some (.ref wa)) (some (qj A)) (some (.ref p7)) (some (.int (0+(j:Int))))/\qg L r/\r fa=some (.lst ((J:List (Addr×Int)).map wC))/\r sa=some (.lst ((aT++T).map xG))/\r p7=some (.lst ((qk A).map qj))/\PrI R fa sa r J (aT++T)/\Wk fa sa (zp R-zp A) r wa/\J.length<=fs.length+(j+1),?_,?_⟩
   ·refine⟨a,wd,ks,A,EA,_,rfl,s _ _ ha,sA,λx hx=>ag x (tA x hx),a5.nodup nd,by lia,?_⟩;have bd:∃J,tPr a R b fa sa (some (.ref wa)) (some (qj A)) (some (.ref p7)) (some (.int (0+(j:Int))))=tPr a R b fa sa (some (.ref wa)) (some (qj A)) (some (.ref p7)) (some (.int (0+(j:Int))))/\qg L U/\U fa=some (.lst ((J:List (Addr×Int)).map wC))/\U sa=some (.lst ((aT++T).map xG))/\U p7=some (.lst ((qk A).map qj))/\PrI R fa sa U J (aT++T)/\Wk fa sa (zp R-zp A) U wa/\J.length<=fs.length+(j+1):=⟨J,rfl,s,t,g,ga,P,I,by lia⟩;cases goR ks A (0+(j:Int))<;>cases b<;>first
     |exact bd
     |(refine qc ga (qm bc ?_)
       refine aot (ago λsx=>?_);by_cases c:sx = "link"
       ·exact xi (by rw[AE c];rfl) bd
       ·refine v0 (by rw[Au c];rfl) (qc t (qw t ⟨by rw[Ab];exact big _ (by lia),J++[(wa,0+(j:Int))],rfl,s.upd aL,by rw[q8,Am];rfl,(qb (AF a3)).trans g,(qb bh).trans ga,?_,I.keep (EE U).fa,by rw[Ac,A7];lia⟩));have P':=P.keep (gA.fa (o:=.lst (J.map wC++[.tup [.ref wa,.int (0+(j:Int))]])) (EE U));refine⟨λe C=>?_,P'.s⟩;rcases Aq.mp C with C|C
        ·exact P'.f e C
        ·rw[Ai.mp C];obtain⟨w1,w2,w,e,l⟩:=I.keep (gA.fa (o:=.lst (J.map wC++[.tup [.ref wa,.int (0+(j:Int))]])) (EE U));exact⟨w1,w2,w,e,by lia⟩)
   ·rintro a1 r ⟨bf,rfl,s,t,g,ga,P,I,fl⟩;obtain⟨_,_,w,ew,lw⟩:=id I;refine qc g ?_;intro q1 h1;refine⟨_,_,By h1 _ _ ew,q8,by rw[Ab];exact Bi (big _ (by simp only[A7];lia)),λq2 h2=>?_⟩;have sub:=(By (o:=.lst [.int (0+(j:Int))]) h1).trans (By (o:=.lst (w.map Y.int++[.int (0+(j:Int))])) h2);have k2:gA fa sa r (qi (qi r q1 (.lst [.int (0+(j:Int))])) q2 (.lst (w.map Y.int++[.int (0+(j:Int))]))):=((EE r).new h1).new h2;have e2:qi (qi r q1 (.lst [.int (0+(j:Int))])) q2 (.lst (w.map Y.int++[.int (0+(j:Int))])) q2=some (.lst (w.map Y.int++[.int (0+(j:Int))])):=q8;have bj:q2≠fa:=AF (km (By h1 _ _ t) h2);have bg:q2≠sa:=AF (km (By h1 _ _ g) h2);replace s:=s.trans sub;replace t:=sub _ _ t;replace g:=sub _ _ g;replace ga:=sub _ _ ga;replace P:=P.keep k2;replace I:=I.keep k2;generalize qi (qi r q1 (.lst [.int (0+(j:Int))])) q2 (.lst (w.map Y.int++[.int (0+(j:Int))]))=L5 at s t g ga P I e2 ⊢;have nl:T.length=min j (qk A).length:=by have:=Bt List.length en;rwa[Ab,A3] at this
    have sl:(aT++T).length<=400:=by have h1:=tI (aT.map (·.2));rw[Ab,BM] at h1;have h2:wT aT=(aT.map (xb∘λe=>e.2)).sum:=rfl;rw[Ac];lia
    refine qc ga (qm bc (qw g ⟨by rw[Ab];exact big _ (by lia),?_⟩));refine⟨_,DU _,bf,T++[(q2,B)],_,rfl,s.upd a4,(qb a3).trans t,by rw[q8,<-AR,Am (l₁:=aT++T)];rfl,(qb bi).trans ga,?_,I.keep (EE L5).sa,by rw[Am,en,Bc,eB];rfl,fl⟩;have P':=P.keep (gA.sa (o:=.lst ((aT++T).map xG++[.tup [.ref q2,qj B]])) (EE L5));refine⟨P'.f,λe C=>?_⟩;rw[<-AR] at C;rcases Aq.mp C with C|C
    ·exact P'.s e C
    ·rw[Ai.mp C];exact⟨wv hA (oq mB),by show zp B<=_;lia,bj,bg,w++[0+(j:Int)],by rw[qb bg,e2,Am];rfl,by rw[Ac,A7];show _<=zp R-zp B;lia⟩
  ·rintro τ U ⟨J,T,c8,rfl,s,t,g,ga,P,I,en,fl⟩;rw[A9] at en;have zn:wT (aT++T)=wT aT+((qk A).map xb).sum:=by
    have e1:T.map (λe=>xb e.2)=(qk A).map xb:=by rw[<-en,BM];rfl
    unfold wT;rw[Am,C7,e1]
   exact⟨_,DU _,wT (aT++T),by rw[zn];lia,J,aT++T,_,_,_,_,rfl,s,t,g,P,by rw[zn];lia,rfl⟩
def abh(J:jl):vt:=(qt (jt (yB (fB false (q9 1))) (zy (fB false (q9 0))) j8)
 (qt (jt (yB (dF .str (q9 1))) (zy (l7 (dF .str (q9 0)) (zb (tW false) (q9 0) (q9 1)))) j8)
 (qt (jt (yB (dF .int (q9 1))) (zy (l7 (dF .int (q9 0)) (l7 (ae9 (dF .bool (q9 0))) (zb (tW false) (q9 0) (q9 1))))) j8)
 (qt (jt (yOr (rdN (dF .list (q9 1)) (dF .list (q9 0))) (rdN (dF .tuple (q9 1)) (dF .tuple (q9 0)))) (zy (yC (.bl false))) j8)
 (qt (jt (rdN (bT 0) (bT 1)) (zy (yC (.bl false))) j8)
 (qt (dc (iC (vk (bT 1))) (qh 2) (jt (tJ (yB (z9 J (qd (zb wz (q9 0) (q9 2)) (qd (zb wz (q9 1) (q9 2)) z0))))) (zy (yC (.bl false))) j8))
 (zy (yC (.bl true)))))))))
def zU(K:Ad)(J:Addr)(U:Addr)(g:Addr)(j:Addr)(l:Addr)(o:Addr)(p:Addr)(r:Addr)(t:Addr)(Ch:Addr)(C:Addr)(I:dO):vt:=(qt (zf (yC .non) (qh 3))
 (qt (aok K J 4 (λE3=>jk (cX I E3 (qd (q9 0) (aH (q9 1) (q9 2))))) (zf (q9 4) (qh 3)))
 (qt (jt (yOr (tJ (yB (uC K (.ref U) (q9 3)))) (tJ (yB (uC K (.type "ValueError") (q9 3))))) (zy (yC (.bl false))) j8)
 (zy (ae9 (vU K [(.ref g),(.ref j),(.ref l),(.ref o),(.ref p),(.ref r),(.ref t),(.ref Ch),(.ref C)] (q9 3)))))))
def ahp(K:Ad)(J:Addr)(U:jl)(p1:jl)(p2:jl)(p3:jl)(p4:jl)(p5:dO)(p6:jl):vt:=(qt (zf (zb xu (zb wz (zb acz (q9 0) (jq (vk (zk 0)))) (zk 0)) (zb acn (zk 10) (zk 9))) (qh 1))
 (qt (zf (zb xu (zb wz (zb acz (q9 0) (jq (aH (zk 0) (zk 0)))) (zk 1)) (zk 2147483647)) (qh 2))
 (qt (zf (z9 U (qd (vM yN (q9 0) (aV (zk 2)) w5) (aH (q9 1) (zk 60)))) (bB 2 (je (qh 3) (je (qh 4) ac))))
 (qt (zf (z9 p1 (qd (q9 3) (aH (q9 4) (q9 1)))) (bB 2 (je (qh 3) (je (qh 4) ac))))
 (qt (zf (z9 p2 (qd (q9 3) (aH (q9 4) (q9 2)))) (bB 2 (je (qh 5) (je (qh 6) ac))))
 (qt (zf (z9 p3 (qd (q9 3) (qd (q9 4) (aH (q9 5) (q9 6))))) (qh 7))
 (qt (zf (kg (qd (jS ak (vk (q9 3))) (vk (q9 4)))) (qh 8))
 (qt (zf (jS ak (vk (q9 5))) (qh 9))
 (qt (jt (yB (fB false (q9 7))) (zy (l7 (z9 p4 (qd (q9 8) (aH (q9 9) (q9 6)))) (l7 (zb (tW false) (xc 8 0) (q9 3)) (zb (tW false) (q9 9) (q9 5))))) j8)
 (qt (zf (yC .non) (qh 10))
 (qt (aig K J (λE3=>zf (cX p5 E3 (qd (q9 8) (aH (q9 9) (q9 6)))) (qh 10)) (zf (yC .non) (qh 10)))
 (qt (jt (tJ (yB (z9 p6 (aH (q9 10) (q9 7))))) (zy (yC (.bl false))) j8)
 (qt (jk (af j6 (xc 10 0) (vk (yC .non))))
 (qt (jt (tJ (yB (z9 p6 (qd (cX p5 noX (qd (q9 8) (aH (q9 9) (q9 6)))) (vk (q9 7)))))) (zy (yC (.bl false))) j8)
 (zy (l7 (zb (tW false) (xc 8 0) (q9 3)) (zb (tW false) (q9 9) (q9 5))))))))))))))))))
def aam(J:jl):vt:=(qt (zf (z9 J (qd (q9 1) (qd (zb xu (zb m8 (q9 2) (zk 69621)) (zk 2147483647)) z0))) (qh 4))
 (dE (jt (dk (zb xu (zb vv (q9 2) (zk 4)) (zk 4)) (zk 0)) (zf (zb k8 (q9 4) (jq (qd (lb (qd (uA ft (zk 1)) (qd (zk 2) (qd (zk 5) (qd (zb acn (zk 10) (zk 30)) (vk (zk 0)))))) (zb xu (zb vv (q9 2) (zk 16)) (zk 5))) z0))) (qh 4)) j8)
 (dE (jt (dk (zb xu (zb vv (q9 2) (zk 4)) (zk 4)) (zk 1)) (zf (zb k8 (jq (qd (lb (qd (uA ft (zk 1)) (qd (uA ft (zk 2)) (aH (zk 2) (zk 3)))) (zb xu (zb vv (q9 2) (zk 16)) (zk 4))) z0)) (q9 4)) (qh 4)) j8)
 (zy (kg (qd (q9 4) (qd (lb (qd (zk 0) (qd (zk 1) (qd (zk 0) (qd (zk 1) (qd (uA ft (zk 1)) (qd (zk 2) (qd (zb acn (zk 10) (zk 30)) (qd (uA ft (zk 2)) z0)))))))) (zb xu (zb vv (q9 2) (zk 80)) (zk 8))) z0)))))))
def ak2:Y->Bool
 |.int _=>true
 |_=>false
theorem iY{k n:Int}{Q:YK}(hi:ys.all ak2=true)(U:n=(ys.length:Int))(h0:0<ys.length)(h:∀x,Q (.int x) L):tV L Q (dQ ys (k % n)):=by
 obtain⟨j,y,g,l,J⟩:=dZ h0 k;rw[U,g,x6 J];have:=BC.mp hi y (AD J);cases y with
 |int x=>exact h x
 |_=>cases this
def hW:jl:=λys L Q=>∃a,∃wd:List (Option Kn),∃ks:List Kn,∃R:Ru,∃E:List Nat,∃n:Int,ys=[.ref a,qj R,.int n]/\L a=some (.lst (a7 wd))/\SR ks R E/\t8 ks wd R/\(qp R).Nodup/\(qp R).length<=120/\
 ∀h (w:List Int) (i:Int) L',qg L L'->L' h=some (.lst (w.map Y.int))->w.length<=130->Q (.tup [.ref h,.int i]) L'
theorem xU:∀ys L Q,hW ys L Q->xj (qJ dY gN) 5 ys L Q:=by
 rintro ys L Q ⟨a,wd,ks,R,E,n,rfl,ha,sr,ag,nd,tl,q⟩;have big:=bg_;refine⟨(show(0:Int)<4 by decide),a,wd,ks,R,E,_,rfl,ha,sr,ag,nd,tl,λfa fs L1 s1 gf fl hw=>?_⟩;have tail:∀L2,qg L L2->aam gN { nx:=λ_ L'=>bQ Q .non L',rt:=bQ Q } [some (.ref a),some (qj R),some (.int n),some (.ref fa),none] L2:=λL2 C=>by
  refine⟨.inr ⟨by decide,by decide⟩,(show(0:Int)<2147483647 by decide),R,_,rfl,tl,λw l hl I=>?_⟩;have T:=C.trans (By (o:=.lst (w.map Y.int)) hl);have g3:qi L2 l (.lst (w.map Y.int)) l=some (.lst (w.map Y.int)):=q8;generalize qi L2 l (.lst (w.map Y.int))=L3 at T g3 ⊢;refine⟨λr J=>∃h,∃w:List Int,r=[some (.ref a),some (qj R),some (.int n),some (.ref fa),some (.ref h)]/\qg L J/\J h=some (.lst (w.map Y.int))/\w.length<=121,?_,?_⟩
  ·refine⟨⟨by decide,by decide⟩,(show(0:Int)<4 by decide),?_⟩;refine x0 (λ_=>?_) λ_=>⟨l,w,rfl,T,g3,by lia⟩;refine⟨⟨by decide,by decide,by decide⟩,⟨by decide,by decide⟩,(show(0:Int)<5 by decide),iY rfl rfl (by decide) λx=>?_⟩;intro p1 h1;refine⟨_,_,By h1 _ _ g3,q8,by rw[Ab];exact Bi (big _ (by simp only[A7];lia)),λp2 h2=>?_⟩;exact⟨p2,w++[x],rfl,(T.trans (By h1)).trans (By h2),by rw[q8,Am];rfl,by rw[Ac,A7];lia⟩
  ·rintro r J ⟨h,w,rfl,s4,g4,I⟩;refine⟨λr J=>∃h,∃w:List Int,r=[some (.ref a),some (qj R),some (.int n),some (.ref fa),some (.ref h)]/\qg L J/\J h=some (.lst (w.map Y.int))/\w.length<=122,?_,?_⟩
   ·refine⟨⟨by decide,by decide⟩,(show(0:Int)<4 by decide),?_⟩;refine x0 (λ_=>?_) λ_=>⟨h,w,rfl,s4,g4,by lia⟩;refine⟨⟨by decide,by decide⟩,(show(0:Int)<4 by decide),iY rfl rfl (by decide) λx=>?_⟩;intro p1 h1;refine⟨_,_,q8,By h1 _ _ g4,by rw[Ab];exact Bi (big _ (by simp only[A7];lia)),λp2 h2=>?_⟩;exact⟨p2,x::w,rfl,(s4.trans (By h1)).trans (By h2),by rw[q8];rfl,by rw[AJ];lia⟩
   ·rintro r L5 ⟨h,w,rfl,s5,g5,I⟩;refine⟨⟨by decide,by decide,by decide⟩,⟨by decide,by decide⟩,(show(0:Int)<8 by decide),iY rfl rfl (by decide) λx=>?_⟩;exact jw (q h w x L5 s5 g5 (by lia))
 refine⟨(show(0:Int)<4 by decide),x0 (λ_=>?_) λ_=>tail L1 s1⟩;intro p t;obtain⟨ds,pd,ed⟩:=kO (L:=qi L1 p (.lst [])) (n:=2) (f:=wC) (st:=fs) λe he=>by obtain⟨w,e',_⟩:=hw e he;exact⟨_,aZ (.cons (xh (By t _ _ e') (iO w)) (.cons (EF _) .nil))⟩
 refine wm (n:=2) (m:=0) (by decide) (By t _ _ gf) q8 pd (.nil:Paired (jd _ 0) _ []) ?_;have C:=s1.trans (By (o:=.lst []) t);show wc (!(Da.eqs ds [])) _ _;rw[ed];cases fs with
 |nil=>exact xi rfl (tail _ C)
 |cons U g=>
  refine v0 rfl ?_;have g2:=By (o:=.lst []) t _ _ gf;have hz:0<(U::g).length:=CO _;obtain⟨j,e,ej,lj,ee⟩:=dZ hz (n / 4);obtain⟨w,e',I⟩:=hw e (AD ee);have lm:((U::g).map wC).length=(U::g).length:=Ab ..;refine⟨⟨by decide,by decide⟩,qc g2 ⟨(by show(0:Int)<(((U::g).map wC).length:Int);rw[lm];lia),qc g2 (qm (v:=wC e) (by show dQ ((U::g).map wC) (n / 4 % (((U::g).map wC).length:Int))=_;rw[lm,ej];exact jj ee) ?_)⟩⟩;exact jw (q e.1 w e.2 _ C (By t _ _ e') (by lia))
def kM:jl:=λys L Q=>∃a,∃ks:List Kn,∃R:Ru,∃E:List Nat,∃n:Int,ys=[.ref a,qj R,.int n]/\L a=some (.lst (jc ks))/\TrO ks R E/\(qp R).Perm (List.range ks.length)/\
 ∀J R' U wd L',qg L L'->L' J=some (.lst (a7 wd))->SR ks R' U->t8 ks wd R'->(qp R').Nodup->(qp R').length<=96->wd.length<=96->Q (.tup [.ref J,qj R']) L'
theorem abw:∀ys L Q,kM ys L Q->xj (ah7 hJ pV) 4 ys L Q:=by
 rintro ys L Q ⟨a,J,R,E,n,rfl,p,T,tp,q⟩;have big:=bg_;have r:=T.len;refine⟨⟨by decide,by decide⟩,(show(0:Int)<4 by decide),?_⟩;by_cases c:n / 5 % 4=1
 ·refine xi (by show(!decide (n / 5 % 4=1))=false;rw[AE c];rfl) ?_;refine⟨.inr ⟨by decide,by decide⟩,(show(0:Int)<2147483647 by decide),R,_,rfl,T.small,λB I=>?_⟩;obtain⟨EB,j⟩:=T.inner I;refine⟨B,rfl,j.small,λla ca ta lk ct a1 L3 t _ _ _ _ _ g3 _ _ hv=>?_⟩;have U:=t _ _ p;have g:(jc J).length=J.length:=Ab ..;refine qc U ⟨⟨A5 _,by rw[g];lia⟩,?_⟩;rw[g,AZ];refine aad (λi l=>l=a7 ((rJ J (qp B)).take i)) (big _ (by lia)) rfl ?_ ?_
  ·rintro i l o rfl;have C:(rJ J (qp B)).take (i+1)=(rJ J (qp B)).take i++[if i∈qp B then J[i]? else none]:=by rw[Bc,vE o];rfl
   refine jz g3 ?_;rw[show(Sum.inl (0+(i:Int)):jf)=.inl (i:Int) by rw[B8],hv];by_cases c:i∈qp B
   ·refine v0 (AE c) (qc U (qm (v:=mJ J[i]) (by rw[B8];exact jj (Af o)) ⟨_,DU _,rfl,?_⟩));rw[C,AB c,Af o,<-tE];rfl
   ·refine xi (Au c) ⟨_,DU _,rfl,?_⟩;rw[C,AC c,<-tE];rfl
  rintro l rfl p7 h7;have:(rJ J (qp B)).take J.length=rJ J (qp B):=Bq (by rw[e9];exact Aj _);rw[this];exact jw (q p7 B EB _ _ (t.trans (By h7)) q8 j.sr (alz J B) j.nd j.small (by rw[e9];exact r))
 ·refine v0 (by show(!decide (n / 5 % 4=1))=true;rw[Au c];rfl) ?_;exact jw (q a R E (J.map some) L (DU _) (by rw[aY];exact p) T.sr (λx _ k e=>by rw[An,e];rfl) T.nd T.small (by rw[Ab];exact r))
def aef:Y->Bool
 |.non=>true
 |.int _=>true
 |.str _=>true
 |_=>false
def lY(L:qr):Nat->Y->Y->Prop
 |0,_,_=>False
 |n+1,x,y=>(aef x=true/\y=x)\/(∃xs ys,x=.tup xs/\y=.tup ys/\ys.length<=1000/\Paired (lY L n) xs ys)\/(∃a b xs ys,x=.ref a/\y=.ref b/\L a=some (.lst xs)/\L b=some (.lst ys)/\ys.length<=1000/\Paired (lY L n) xs ys)
theorem lY.flat{x:Y}(h:aef x=true):lY L (n+1) x x:=.inl ⟨h,rfl⟩
theorem lY.tup{xs:List Y}(h:Paired (lY L n) xs ys)(l:Nat.ble ys.length 1000=true:=by rfl):lY L (n+1) (.tup xs) (.tup ys):=.inr (.inl ⟨xs,ys,rfl,rfl,Bj l,h⟩)
theorem cG{L:qr}:∀{R:Ru} {n:Nat},zp R+1<=n->lY L n (qj R) (qj R)
 |.link p q,n+2,_=>.tup (.cons (.flat rfl) (.cons (.flat rfl) (.cons (.flat rfl) .nil)))
 |.link p q,1,h=>by simp[zp] at h
 |.ei r A,1,h=>by simp[zp] at h
 |.ei r A,n+2,h=>.tup (.cons (.flat rfl) (.cons (.flat rfl) (.cons (cG (by simp[zp] at h;lia)) .nil)))
 |.bo r A B,1,h=>by simp[zp] at h
 |.bo r A B,n+2,h=>.tup (.cons (.flat rfl) (.cons (.flat rfl) (.cons (cG (by simp[zp] at h;lia)) (.cons (cG (by simp[zp] at h;lia)) .nil))))
 |.cu p q A B,1,h=>by simp[zp] at h
 |.cu p q A B,n+2,h=>.tup (.cons (.flat rfl) (.cons (.flat rfl) (.cons (.flat rfl) (.cons (cG (by simp[zp] at h;lia)) (.cons (cG (by simp[zp] at h;lia)) .nil)))))
theorem pA{L:qr}{n:Nat}:∀wd:List (Option Kn),Paired (lY L (n+2)) (a7 wd) (a7 wd)
 |[]=>.nil
 |none::r=>.cons (.flat rfl) (pA r)
 |some (.lf t m)::r=>.cons (.tup (.cons (.flat rfl) (.cons (.flat rfl) .nil))) (pA r)
 |some (.nd e i j)::r=>.cons (.tup (.cons (.flat rfl) (.cons (.flat rfl) (.cons (.flat rfl) .nil)))) (pA r)
def bV(n:Nat):jl:=λys L Q=>∃x y,ys=[x,y]/\lY L n x y/\Q (.bl true) L
theorem yG:∀ys L Q,¬bV 0 ys L Q:=λys L Q ⟨x,y,_,h,_⟩=>h
theorem yW(n:Nat):∀ys L Q,bV (n+1) ys L Q->xj (abh (bV n)) 3 ys L Q:=by
 rintro ys L Q ⟨x,y,rfl,h,q⟩;rcases h with⟨f,rfl⟩|⟨J,ys,rfl,rfl,l,p⟩|⟨a,b,J,ys,rfl,rfl,h1,h2,l,p⟩
 ·cases y with
  |non=>exact jw q
  |int i=>
   refine jw ?_;show Q (.bl (nb false (decide (i=i)))) L;rw[AE rfl];exact q
  |str i=>
   refine jw ?_;show Q (.bl (nb false (decide (i=i)))) L;rw[AE rfl];exact q
  |_=>cases f
 ·have o:=EC p;walk_at "w";refine xi (b:=nb true (decide ((J.length:Int)=ys.length))) (by rw[o,AE rfl];rfl) ?_;refine⟨⟨A5 _,by lia⟩,?_⟩;rw[AZ];refine jT (λi U g=>g=L/\∃c,U=[some (.tup J),some (.tup ys),c]) ⟨rfl,_,rfl⟩ ?_ ?_
  ·rintro i U g r ⟨rfl,c,rfl⟩;have j:J[i]?=some (J[i]'(by lia)):=Af (by lia);have ev:ys[i]?=some ys[i]:=Af r;have t:dQ J (0+(i:Int))=some (J[i]'(by lia)):=by rw[B8];exact x6 j
   have C:dQ ys (0+(i:Int))=some ys[i]:=by rw[B8];exact x6 ev
   walk_at "w";rw[t];walk_at "w";rw[C];exact⟨_,_,rfl,DZ p j ev,_,DU _,rfl,_,rfl⟩
  ·rintro U g ⟨rfl,c,rfl⟩;exact jw q
 ·have o:=EC p;refine eV h2 ?_;walk_at "w";refine eV h2 ?_;walk_at "w";refine eV h2 (eV h1 ?_);walk_at "w";refine eV h2 (eV h1 ?_);walk_at "w";refine qc h1 (qc h2 (xi (by rw[o,AE rfl];rfl) ?_));refine qc h2 ⟨⟨A5 _,by lia⟩,?_⟩;rw[AZ];refine jT (λi U g=>g=L/\∃c,U=[some (.ref a),some (.ref b),c]) ⟨rfl,_,rfl⟩ ?_ ?_
  ·rintro i U g r ⟨rfl,c,rfl⟩;have j:J[i]?=some (J[i]'(by lia)):=Af (by lia);have ev:ys[i]?=some ys[i]:=Af r;have t:dQ J (0+(i:Int))=some (J[i]'(by lia)):=by rw[B8];exact x6 j
   have C:dQ ys (0+(i:Int))=some ys[i]:=by rw[B8];exact x6 ev
   refine qc h1 (qm t (qc h2 (qm C ?_)));exact⟨_,_,rfl,DZ p j ev,_,DU _,rfl,_,rfl⟩
  ·rintro U g ⟨rfl,c,rfl⟩;exact jw q
end L3
namespace L2
open PySem PySem.W
section
variable {K:Ad}(T:K.lookup Pt=some (PySem.W.tabObj #[]))
include T
theorem uO :clsIn (lessK Pt K) C=clsIn K C:=by
 unfold clsIn;by_cases d:C=Pt
 ·subst d;rw[vz,T]
 ·rw[xl d]
theorem adw{b:Value}:mroIn (lessK Pt K) C b=mroIn K C b:=by unfold mroIn;rw[uO T]
theorem pL{t b:Value}:subIn (lessK Pt K) t b=subIn K t b:=by
 unfold subIn;split
 ·rfl
 ·exact adw T
 ·rfl
theorem uU{i:String} :specialIn (lessK Pt K) (.builtin i) x=specialIn K (.builtin i) x:=by unfold specialIn typeIn;dsimp only;congr 1;funext t;exact fv T
theorem al5{i:String}:takesIn (lessK Pt K) (.builtin i)=takesIn K (.builtin i):=by unfold takesIn;rw[uU T,uU T]
theorem oG{t c:Value}{b:Bool}(e:kitCls K t c=some b):kitCls (lessK Pt K) t c=some b:=by
 unfold kitCls at e ⊢;split at e
 ·rename_i C;have n:C≠Pt:=by rintro rfl;unfold clsIn at e;rw[T] at e;cases e
  have h:typeIn (lessK Pt K) (.ref C)=typeIn K (.ref C):=by show(List.lookup C (lessK Pt K)).map _=(List.lookup C K).map _;rw[xl n]
  rw[uO T,pL T,h];exact e
 ·rw[pL T];exact e
 ·cases e
theorem eY{t c:Value}{b:Bool}(e:kitOne K t c=some b):kitOne (lessK Pt K) t c=some b:=by
 unfold kitOne at e ⊢;split at e
 ·rename_i h;rw[AB h];exact e
 ·rename_i h;rw[AC h];exact oG T e
theorem oW{t:Value}{b:Bool}:∀{l:List Value},kitAny K t l=some b->kitAny (lessK Pt K) t l=some b
 |[],e=>e
 |c::r,e=>by
  unfold kitAny at e ⊢;split at e
  ·rename_i h;rw[eY T h];exact e
  ·rename_i h;rw[eY T h];exact oW e
  ·cases e
theorem ak5{t c:Value}{b:Bool}(e:exmOne K t c=some b):exmOne (lessK Pt K) t c=some b:=by
 unfold exmOne at e ⊢;rw[pL T];split at e
 ·rename_i h;rw[AB h];exact oG T e
 ·cases e
theorem aj9(x:XHd K C):XHd (lessK Pt K) C:=by obtain⟨⟨ga,gt,cl,ge,tk,mo,be⟩,h⟩:=x;exact⟨⟨(fv T).trans ga,(fv T).trans gt,(fv T).trans cl,(uU T).trans ge,(al5 T).trans tk,(adw T).trans mo,(pL T).trans be⟩,by rw[uO T];exact h⟩
theorem wD{N:Addr}:nsOkIn (lessK Pt K) N=nsOkIn K N:=by
 unfold nsOkIn;by_cases d:N=Pt
 ·subst d;rw[vz,T]
 ·rw[xl d]
theorem vV{bm:List Value}:∀l:List Value,tailIn (lessK Pt K) bm l=tailIn K bm l
 |[]=>rfl
 |v::r=>by
  unfold tailIn;congr 1;split
  ·rename_i A;by_cases d:A=Pt
   ·subst d;rw[vz,T]
   ·rw[xl d];split
    ·rw[wD T,ns_dn T rfl,vV r]
    ·rfl
  ·rfl
theorem exc_dn{bm:List Value}{i:String}(e:excIn K C bm i=true):excIn (lessK Pt K) C bm i=true:=by
 unfold excIn at e ⊢;by_cases d:C=Pt
 ·subst d;rw[T] at e;cases e
 ·rw[xl d];split at e
  ·split at e
   ·rw[vV T,wD T,ns_dn T rfl];exact e
   ·cases e
  ·cases e
end
section
variable {K:Ad}(T:K.lookup Pt=some (PySem.W.tabObj #[]))
include T
end
end L2
namespace L3
open PySem L2
open PySem L2 Words
theorem XF05.dn{K:Ad}{O N J U g j l o p r t:Addr}(T:K.lookup Pt=some (PySem.W.tabObj #[]))(x:XF05 K O N J U g j l o p r t):XF05 (lessK Pt K) O N J U g j l o p r t:=⟨aj9 T x.hd,ak5 T x.em,oW T x.ot,eY T x.on,eY T x.ve⟩
def ff:jl:=λys L Q=>∃a h,∃wd:List (Option Kn),∃ks:List Kn,∃R:Ru,∃F:List Nat,∃w:List Int,∃i:Int,ys=[.tup [.ref a,qj R],.ref h,.int i]/\L a=some (.lst (a7 wd))/\L h=some (.lst (w.map Y.int))/\SR ks R F/\t8 ks wd R/\w.length<=1000/\(qp R).length<=120/\zZ ks R w i=none/\Q (.bl true) L
theorem u5{K:Ad}{O N b1 b2 b3 b4 b5 b6 b7 b8 b9:Addr}(xf:XF05 K O N b1 b2 b3 b4 b5 b6 b7 b8 b9):∀ys L Q,ff ys L Q->xj (zU K O N b1 b2 b3 b4 b5 b6 b7 b8 b9 (jW N)) 5 ys L Q:=by rintro ys L Q ⟨a,h,J,U,R,F,w,i,rfl,g,j,l,o,p,r,ex,q⟩;refine⟨a,h,J,U,R,F,w,i,rfl,g,j,l,o,p,r,λC e=>(by rw[ex] at e;cases e),λ_=>⟨xf.em,λe t=>?_⟩⟩;refine qH q8 ⟨xf.hd,true,xf.on,?_⟩;refine qH q8 ⟨xf.hd,true,xf.ve,?_⟩;refine qH q8 ⟨xf.hd,false,xf.ot,?_⟩;exact we (By t) q
theorem oo{A:Ru}{k:Nat}(h:(qk R)[k]?=some B):xb (vj R k A)+xb B=xb R+xb A:=by
 cases R with
 |link p q=>cases h
 |ei r C=>
  cases k with|zero=>cases h;show xb A+1+xb B=xb B+1+xb A;lia|succ k=>cases h
 |bo r C D=>
  cases k with
  |zero=>cases h;show xb A+xb D+1+xb B=xb B+xb D+1+xb A;lia
  |succ k=>
   cases k with|zero=>cases h;show xb C+xb A+1+xb B=xb C+xb B+1+xb A;lia|succ k=>cases h
 |cu p q C D=>
  cases k with
  |zero=>cases h;show xb A+xb D+1+xb B=xb B+xb D+1+xb A;lia
  |succ k=>
   cases k with|zero=>cases h;show xb C+xb A+1+xb B=xb C+xb B+1+xb A;lia|succ k=>cases h
theorem ad5{T:Ru}{k:Nat}(h:cQ ks R k=some T):xb T=xb R:=by
 unfold cQ at h;split at h
 ·rename_i I ts J g;split at h
  ·cases h
  ·rename_i n j;split at h
   ·rename_i B U;cases h;have h1:=oo (A:=vj R k B) U;have h2:=oo (A:=B) J;lia
   ·cases h
 ·cases h
theorem ahw{T:Ru}{w:List Int}(h:jn R w=some S):xb (cD R w T)+xb S=xb R+xb T:=by
 induction w generalizing R with
 |nil=>cases h;show xb T+xb S=_;lia
 |cons i w J=>
  have h:(match xt R i with|some B=>jn B w|none=>none)=some S:=h;show xb (match xt R i with|some B=>vj R i.toNat (cD B w T)|none=>R)+_=_;cases e:xt R i with
  |none=>rw[e] at h;cases h
  |some B=>
   rw[e] at h;have h1:=J (show jn B w=some S from h);obtain⟨k,rfl,U⟩:=ww e;have h2:=oo (A:=cD B w T) U;show xb (vj R (k:Int).toNat _)+_=_;rw[AZ];lia
theorem aj2{R':Ru}{w:List Int}{i:Int}(h:zZ ks R w i=some R'):xb R'=xb R:=by
 unfold zZ at h;split at h
 ·cases h
 ·rename_i S J;split at h
  ·cases h
  ·obtain⟨T,U,rfl⟩:=Ap.mp h;have h1:=ad5 U;have h2:=ahw (T:=T) J;lia
theorem cI:∀R:Ru,zp R<=xb R
 |.link _ _=>Aj _
 |.ei _ A=>DB (cI A)
 |.bo _ A B=>by have h1:=cI A;have h2:=cI B;show max (zp A) (zp B)+1<=xb A+xb B+1;lia
 |.cu _ _ A B=>by have h1:=cI A;have h2:=cI B;show max (zp A) (zp B)+1<=xb A+xb B+1;lia
theorem lK:∀w:List Int,Da.eqs (w.map λx=>Da.s (.int x)) (w.map λx=>Da.s (.int x))=true
 |[]=>rfl
 |x::r=>by
  have:Da.eq (.s (.int x)) (.s (.int x))=true:=by simp[Da.eq,iN]
  rw[AK,Da.eqs,this,lK r];rfl
theorem aa8{K:Ad}{N:Addr}:∀ys L Q,qI Pt lamQ ys L Q->xj (ahp K N (lT Pt) kM hW qS ff (jW N) (bV 124)) 11 ys L Q:=by
 rintro ys L Q ⟨C,rfl,au,hL,q⟩;have hP:L Pt=some (.tb lamQ):=by rw[hL];exact q8
 clear hL;have big:=bg_;intro p0 U;refine qc q8 ⟨rfl,rfl,small (by rw[Ab];show C.length+1<=1000;lia),λp hp=>?_⟩;obtain⟨c,ec⟩:∃c:Int,dQ (C.map Y.int++[Y.int 0]) 0=some (Y.int c):=by cases C with|nil=>exact⟨0,rfl⟩|cons a r=>exact⟨a,x6 (j:=0) rfl⟩
 refine qc q8 (qm ec ⟨⟨by decide,by decide,by decide⟩,(by decide:(0:Int)<10 ^ (9:Int).toNat),?_⟩);show qh 1 (Y.int (c % (10:Int) ^ (9:Int).toNat)) _ _ _;have a1:=((By (o:=.lst [Y.int 0]) U).trans (By (o:=.lst (C.map Y.int++[Y.int 0])) hp)) _ _ hP;generalize c % (10:Int) ^ (9:Int).toNat=s;generalize qi (qi _ p0 _) p _=L1 at a1 ⊢;clear hp U ec hP;intro p0 U;refine qc q8 ⟨rfl,rfl,small (by rw[Ab];show C.length+2<=1000;lia),λp hp=>?_⟩;obtain⟨d,ed⟩:∃d:Int,dQ (C.map Y.int++[Y.int 0,Y.int 0]) 1=some (Y.int d):=by
  cases C with
  |nil=>exact⟨0,rfl⟩
  |cons a r=>
   cases r with|nil=>exact⟨0,x6 (j:=1) rfl⟩|cons b r=>exact⟨b,x6 (j:=1) rfl⟩
 refine qc q8 (qm ed ⟨(show(0:Int)<2147483647 by decide),?_⟩);have a2:=((By (o:=.lst [Y.int 0,Y.int 0]) U).trans (By (o:=.lst (C.map Y.int++[Y.int 0,Y.int 0])) hp)) _ _ a1;generalize qi (qi _ p0 _) p _=L2 at a2 ⊢;clear hp U ed a1;obtain⟨ms,a5,av⟩:=acv C (some 2) none;intro pm a3;rw[a5];refine⟨pm,ms,s,60,rfl,q8,by lia,by decide,By a3 _ _ a2,λwa l R E hw T tp=>?_⟩;have gw:qi (qi L2 pm (.lst (ms.map Y.int))) wa (.lst (jc l)) wa=some (.lst (jc l)):=q8;generalize qi (qi L2 pm (.lst (ms.map Y.int))) wa (.lst (jc l))=L3 at gw ⊢;clear hw a3;refine⟨wa,l,R,E,s,rfl,gw,T,tp,λa R E J L4 _ ga sr ag nd tl wl=>?_⟩;clear gw T tp;refine⟨a,J,l,R,E,_,rfl,ga,sr,ag,nd,by lia,λh w i L5 s5 t hw=>?_⟩;replace ga:=s5 _ _ ga;clear s5;refine⟨a,h,J,l,R,E,w,i,rfl,ga,t,sr,ag,nd,by lia,?_⟩;refine qc ga λp8 h8=>?_;have I:qi L5 p8 (.lst (a7 J)) p8=some (.lst (a7 J)):=q8;replace ga:=By (o:=.lst (a7 J)) h8 _ _ ga;replace t:=By (o:=.lst (a7 J)) h8 _ _ t;generalize qi L5 p8 (.lst (a7 J))=L6 at I ga t ⊢;refine qc t λp9 h9=>?_;have g9:qi L6 p9 (.lst (w.map Y.int)) p9=some (.lst (w.map Y.int)):=q8;replace ga:=By (o:=.lst (w.map Y.int)) h9 _ _ ga;replace t:=By (o:=.lst (w.map Y.int)) h9 _ _ t;replace I:=By (o:=.lst (w.map Y.int)) h9 _ _ I;generalize qi L6 p9 (.lst (w.map Y.int))=L7 at I g9 ga t ⊢;simp only[dP,List.map,List.replicate,List.length,DF,CF];cases ex:zZ l R w i with
 |none=>
  refine⟨p8,p9,J,l,R,E,w,i,rfl,I,g9,sr,ag,by lia,by lia,ex,?_⟩;refine⟨rfl,rfl,2,2,_,_,by decide,xh I (gR _),xh ga (gR _),?_⟩;refine v0 (vF _) ⟨rfl,rfl,1,1,_,_,by decide,xh g9 (aQ _),xh t (aQ _),?_⟩;show bQ Q (.bl (Da.eqs _ _)) _;rw[lK];exact jw (q _)
 |some R2=>
  have rz:=wf R;have z2:=aj2 ex;have d2:=cI R2;have a4:∀L8 p,L8 p=some (.lst (a7 J))->L8 a=some (.lst (a7 J))->lY L8 124 (.tup [.ref p,qj R2]) (.tup [.ref a,qj R2]):=λL8 p h1 h2=>.tup (.cons (.inr (.inr ⟨p,a,_,_,rfl,rfl,h1,h2,by rw[vR];lia,pA (n:=120) J⟩)) (.cons (cG (by lia)) .nil));refine⟨p8,p9,J,l,R,E,w,i,rfl,I,g9,sr,ag,by lia,by lia,λR' e p hp=>?_,λe=>by rw[ex] at e;cases e⟩;rw[ex] at e;cases e;have s8:=By (o:=.lst (a7 J)) hp;have gp:qi L7 p (.lst (a7 J)) p=some (.lst (a7 J)):=q8;generalize qi L7 p (.lst (a7 J))=L8 at s8 gp ⊢;refine⟨_,_,rfl,a4 L8 p gp (s8 _ _ ga),?_⟩;refine qc gp (qw gp ⟨by rw[vR];exact big _ (by lia),?_⟩);have s9:qg L7 (qi L8 p (.lst (a7 J++[.non]))):=s8.upd hp;generalize qi L8 p (.lst (a7 J++[.non]))=L9 at s9 ⊢;refine⟨p8,p9,J,l,R,E,w,i,rfl,s9 _ _ I,s9 _ _ g9,sr,ag,by lia,by lia,λR' e p2 al=>?_,λe=>by rw[ex] at e;cases e⟩;rw[ex] at e;cases e;have g:=s9.trans (By (o:=.lst (a7 J)) al);refine⟨_,_,rfl,a4 _ p2 q8 (g _ _ ga),?_⟩;refine⟨rfl,rfl,2,2,_,_,by decide,xh (g _ _ I) (gR _),xh (g _ _ ga) (gR _),?_⟩;refine v0 (vF _) ⟨rfl,rfl,1,1,_,_,by decide,xh (g _ _ g9) (aQ _),xh (g _ _ t) (aQ _),?_⟩;show bQ Q (.bl (Da.eqs _ _)) _;rw[lK];exact jw (q _)
end L3
end
set_option maxRecDepth 100000
set_option maxHeartbeats 8000000
namespace K61
open PySem L2 L3 Words
abbrev ng:Str:="_law_rule"
abbrev nh:Str:="_law_knots"
abbrev nj:Str:="_law_way"
abbrev nq:Str:="_law_arm"
abbrev nr:Str:="_law_seed"
abbrev nu:Str:="_law_word_here"
abbrev nv:Str:="_law_one"
abbrev ny:Str:="_law_number"
abbrev nE:Str:="_law_tree_here"
abbrev nF:Str:="_law_arms_here"
abbrev nG:Str:="_law_k"
abbrev nH:Str:="_law_p"
abbrev nI:Str:="_law_two"
abbrev nJ:Str:="_law_at_here"
abbrev nK:Str:="_law_forest"
abbrev nL:Str:="_law_found"
abbrev nM:Str:="_law_script"
abbrev nN:Str:="_law_drawn_way"
abbrev nO:Str:="_law_ends_here"
abbrev nQ:Str:="_law_other"
abbrev nR:Str:="_law_gathered"
abbrev nS:Str:="_law_due_here"
abbrev nU:Str:="_law_told"
abbrev nV:Str:="_law_renamed"
abbrev nW:Str:="_law_put_arm"
abbrev nX:Str:="_law_refused"
def top(i:Nat):Stmt:=PySem.Challenge.pw_oncewise_k61_one_exchange.main.body.getD i (.Pass ⟨0,0,0,0⟩)
theorem aq1{us:List Value}{n:Nat}(h:us.length=n+1):∃a r,us=a::r/\r.length=n:=by cases us with|nil=>cases h|cons a r=>exact⟨a,r,rfl,Nat.succ.inj h⟩
abbrev o6:Stmt:=top 14
abbrev lu:Stmt:=top 16
abbrev jC:Stmt:=top 19
abbrev oX:Stmt:=top 20
abbrev kE:Stmt:=top 21
abbrev oJ:Stmt:=top 22
abbrev lO:Stmt:=top 23
abbrev lQ:Stmt:=top 25
abbrev lE:Stmt:=top 26
abbrev bW:Stmt:=top 27
abbrev gY:Stmt:=top 28
abbrev rj:Stmt:=top 29
abbrev fM:Stmt:=top 30
abbrev iw:Stmt:=top 31
abbrev lW:Stmt:=top 33
abbrev i8:Stmt:=top 34
abbrev ip:Stmt:=top 35
abbrev jA:Stmt:=top 36
abbrev fH:Stmt:=top 37
abbrev fP:Stmt:=top 38
abbrev jG:Stmt:=top 39
abbrev iy:Stmt:=top 40
abbrev kU:Stmt:=top 41
abbrev s__law_order:Stmt:=top 42
abbrev gv:Stmt:=top 43
abbrev dw:Stmt:=top 44
abbrev ie:Stmt:=top 45
abbrev jB:Stmt:=top 46
abbrev dJ:Stmt:=top 47
abbrev jI:Stmt:=top 48
abbrev gU:Stmt:=top 49
abbrev io:Stmt:=top 50
abbrev eE:Stmt:=top 51
abbrev gL:Stmt:=top 52
abbrev oU:Stmt:=top 53
abbrev fW:Stmt:=top 54
abbrev cU:Stmt:=top 55
abbrev gu:Stmt:=top 56
abbrev gq:Stmt:=top 57
abbrev fI:Stmt:=top 58
abbrev iz:Stmt:=top 59
abbrev gE:Stmt:=top 60
abbrev fU:Stmt:=top 61
abbrev kY:Stmt:=top 62
abbrev dy:Stmt:=top 63
abbrev rO:Stmt:=top 64
structure V_ where
 (P:Program) (w:World) (K:Ad) (mg:Str->Option Value) (base:Heap) (Pt:Addr) (Ca Cj Cf Ci Ce Cb Ck Cd Cg Ch Cc:Addr)
structure B_(V:V_):Prop where
 hp:∃h:Heap,V.K.In h/\h.Ns mainGlobals V.mg
 bd:V.mg "list"=none
 bh:V.mg "enumerate"=none
 br:V.mg "all"=none
 ba:V.mg "len"=none
 bw:V.mg "zip"=none
 bu:V.mg "reversed"=none
 bf:V.mg "range"=none
 bj:V.mg "max"=none
 bq:V.mg "sorted"=none
 bp:V.mg "min"=none
 bc:V.mg "isinstance"=none
 bi:V.mg "int"=none
 bg:V.mg "tuple"=none
 bn:V.mg "str"=none
 bv:V.mg "bool"=none
 b_ValueError:V.mg "ValueError"=none
 D0:qz V.K "is_leaf" o6
 D1:qz V.K "parts_of" lu
 D2:qz V.K "places_of" jC
 D3:qz V.K "arms_of" oX
 D4:qz V.K "rules_in" kE
 D5:qz V.K "told_by" oJ
 D6:qz V.K "taken_by" lO
 D7:qz V.K "with_arm" lQ
 D8:qz V.K "all_told" lE
 D9:qz V.K "arm_that_tells" bW
 D10:qz V.K "turned_out" gY
 D11:qz V.K "arm_at" rj
 D12:qz V.K "rules_along" fM
 D13:qz V.K "exchanged" iw
 D14:qz V.K "_law_mix" lW
 D15:qz V.K "_law_name" i8
 D16:qz V.K "_law_word" ip
 D17:qz V.K "_law_flip" jA
 D18:qz V.K "_law_weight" fH
 D19:qz V.K "_law_mirror" fP
 D20:qz V.K "_law_join" jG
 D21:qz V.K "_law_fold" iy
 D22:qz V.K "_law_cut" kU
 D23:DefInT V.K "_law_order" s__law_order V.Pt
 D24:qz V.K "_law_moved" gv
 D25:qz V.K nV dw
 D26:qz V.K "_law_tree" ie
 D27:qz V.K "_law_arms" jB
 D28:qz V.K nR dJ
 D29:qz V.K "_law_ends" jI
 D30:qz V.K "_law_needs" gU
 D31:qz V.K "_law_goes" io
 D32:qz V.K nW eE
 D33:qz V.K "_law_about" gL
 D34:qz V.K "_law_at" oU
 D35:qz V.K "_law_put_at" fW
 D36:qz V.K nN cU
 D37:qz V.K "_law_pairs" gu
 D38:qz V.K "_law_alike" gq
 D39:qz V.K "_law_within" fI
 D40:qz V.K "_law_part" iz
 D41:qz V.K "_law_place" gE
 D42:qz V.K "_law_stands" fU
 D43:qz V.K "_law_due" kY
 D44:qz V.K nX dy
 k_LEAF_KINDS:ane ⟨V.K,V.P,V.w⟩ V.mg "LEAF_KINDS" fQ
 i_PLACE_COUNTS:ap8 ⟨V.K,V.P,V.w⟩ V.mg "PLACE_COUNTS" wq
 md:V.mg "NoExchange"=some (.ref V.Ca)
 mf:V.mg "OnceError"=some (.ref V.Cj)
 my:V.mg "BadChoices"=some (.ref V.Cf)
 mi:V.mg "BadText"=some (.ref V.Ci)
 mn:V.mg "BadTree"=some (.ref V.Ce)
 mm:V.mg "BadWeb"=some (.ref V.Cb)
 mv:V.mg "NoCut"=some (.ref V.Ck)
 mw:V.mg "NoTree"=some (.ref V.Cd)
 mx:V.mg "NoWord"=some (.ref V.Cg)
 mh:V.mg "OtherWeb"=some (.ref V.Ch)
 mj:V.mg "TooMany"=some (.ref V.Cc)
 x_NoExchange:aao V.K V.Ca
 xf:L3.XF05 V.K V.Cj V.Ca V.Cf V.Ci V.Ce V.Cb V.Ck V.Cd V.Cg V.Ch V.Cc
abbrev Q_(V:V_)(k:Nat)(x:Str)(ps:List Str)(sp:jl):Prop:=al9 V.P V.w V.K V.mg V.base k x ps sp
abbrev c0(_:V_):Prop:=True
local macro_rules|`(tactic| walk_at "s")=>`(tactic| exact⟨rfl,rfl,rfl,by decide +kernel,rfl,by decide +kernel,by decide +kernel⟩)
local macro_rules|`(tactic| walk_at "l")=>`(tactic| first|(rintro _ _ _ ⟨_,e,_⟩;rw[e];rfl)|(rintro _ _ _ ⟨_,_,e,_⟩;rw[e];rfl)|(rintro _ _ _ ⟨_,_,_,e,_⟩;rw[e];rfl)|(rintro _ _ _ ⟨_,_,_,_,e,_⟩;rw[e];rfl)|(rintro _ _ _ ⟨_,_,_,_,_,e,_⟩;rw[e];rfl)|(rintro _ _ _ ⟨_,_,_,_,_,_,e,_⟩;rw[e];rfl)|(rintro _ _ _ ⟨_,_,_,_,_,_,_,e,_⟩;rw[e];rfl)|(rintro _ _ _ ⟨_,_,_,_,_,_,_,_,e,_⟩;rw[e];rfl)|(rintro _ _ _ ⟨_,_,_,_,_,_,_,_,_,e,_⟩;rw[e];rfl))
local macro_rules|`(tactic| walk_at "x")=>`(tactic| (intro _;walk_at "l"))
local macro_rules|`(tactic| walk_at "b")=>`(tactic| (intro _ _ _ _ _ _ us hl;(repeat (obtain⟨_,_,e,h⟩:=aq1 hl;clear hl;subst e;have hl:=h;clear h));cases List.eq_nil_of_length_eq_zero hl;rfl))
section
variable {f:Addr}{fd:FuncData}{x q:Str}{st:Stmt}{ps:List Str}(V:V_)(k:Nat)(N:List Str)
theorem W_{sp:jl}{t:vt}(F:Fun V.K x q st f fd)(g:∀ys L Q,sp ys L Q->xj t N.length ys L Q)(h:∀(fm:Value) (A:Around) (outer:List Env) (s:Shared) (H:Hp) (E:XK),wb k (A.deeper (PyProof.Rows.envOfC q (qy st) s.heap.objs.size f fm))->N.Nodup->(A.deeper (PyProof.Rows.envOfC q (qy st) s.heap.objs.size f fm)).units+128<cLine->oa (cn CX0 V.P V.w V.K V.mg V.base N q (qy st) f fm A outer s H E).nox (jh st) t)(J:aG N ps (qy st):=by walk_at "s")(len:∀ys L Q,sp ys L Q->ys.length=ps.length:=by walk_at "l"):Fn3 V.P V.w V.K V.mg V.base (k+1) f fd ps sp:=
 ok3 F J len λfm A outer s H E U=>⟨t,h fm A outer s H E U J.nd (huK U),g⟩
theorem M_{sp:jl}{t:vt}(J:∃h:Heap,V.K.In h/\h.Ns mainGlobals V.mg)(D:qz V.K x st)(U:∀ys L Q,sp ys L Q->xj t N.length ys L Q)(h:∀f,∀(fm:Value) (A:Around) (outer:List Env) (s:Shared) (H:Hp) (E:XK),wb k (A.deeper (PyProof.Rows.envOfC x (qy st) s.heap.objs.size f fm))->N.Nodup->(A.deeper (PyProof.Rows.envOfC x (qy st) s.heap.objs.size f fm)).units+128<cLine->oa (cn CX0 V.P V.w V.K V.mg V.base N x (qy st) f fm A outer s H E).nox (jh st) t)(g:aG N ps (qy st):=by walk_at "s")(len:∀ys L Q,sp ys L Q->ys.length=ps.length:=by walk_at "l")(j:∀(kV gh pm:Value) (an:Option Addr) (fm ct:Value) (us:List Value),us.length=ps.length->bindArgs (PySem.W.fnOf x x (vd st) (jh st) (qy st) .none kV gh pm an fm ct) ⟨us,[]⟩=pure (ps.zip us):=by walk_at "b"):Q_ V (k+1) x ps sp:=by obtain⟨_,X,G⟩:=J;obtain⟨f,fd,F,b,m⟩:=D.use X G j;exact Cal.of (W_ V k N F U (h f) g len) b F.kp m
theorem R_{sp:Nat->jl}{t:Nat->vt}(J:∃h:Heap,V.K.In h/\h.Ns mainGlobals V.mg)(D:qz V.K x st)(no:∀ys L Q,¬sp 0 ys L Q)(U:∀n ys L Q,sp (n+1) ys L Q->xj (t n) N.length ys L Q)(h:∀n f,Q_ V (n+k) x ps (sp n)->∀(fm:Value) (A:Around) (outer:List Env) (s:Shared) (H:Hp) (E:XK),wb (n+k) (A.deeper (PyProof.Rows.envOfC x (qy st) s.heap.objs.size f fm))->N.Nodup->(A.deeper (PyProof.Rows.envOfC x (qy st) s.heap.objs.size f fm)).units+128<cLine->oa (cn CX0 V.P V.w V.K V.mg V.base N x (qy st) f fm A outer s H E).nox (jh st) (t n))(n:Nat)(g:aG N ps (qy st):=by walk_at "s")(len:∀n ys L Q,sp n ys L Q->ys.length=ps.length:=by walk_at "x")(j:∀(kV gh pm:Value) (an:Option Addr) (fm ct:Value) (us:List Value),us.length=ps.length->bindArgs (PySem.W.fnOf x x (vd st) (jh st) (qy st) .none kV gh pm an fm ct) ⟨us,[]⟩=pure (ps.zip us):=by walk_at "b"):Q_ V (n+k) x ps (sp n):=by
 obtain⟨_,X,G⟩:=J;obtain⟨f,fd,F,b,m⟩:=D.use X G j
 induction n with|zero=>exact Cal.of (Fn3.never no) b F.kp m|succ n l=>rw[Nat.add_right_comm];exact Cal.of (W_ V (n+k) N F (U n) (h n f l) g (len _)) b F.kp m
theorem X_{sp:dO}{t:X3->vt}(g:∃h:Heap,V.K.In h/\h.Ns mainGlobals V.mg)(D:qz V.K x st)(j:∀ys L Q E,sp ys L Q E->xj (t (sN E)) N.length ys L Q)(h:∀f,∀(fm:Value) (A:Around) (outer:List Env) (s:Shared) (H:Hp) (E:XK) (E3:X3),wb k (A.deeper (PyProof.Rows.envOfC x (qy st) s.heap.objs.size f fm))->a6 (cn (CXE V.P V.w) V.P V.w V.K V.mg V.base N x (qy st) f fm A outer s H E) (upX ⟨V.K,V.P,V.w⟩ E3)->N.Nodup->(A.deeper (PyProof.Rows.envOfC x (qy st) s.heap.objs.size f fm)).units+128<cLine->oa (cn (CXE V.P V.w) V.P V.w V.K V.mg V.base N x (qy st) f fm A outer s H E) (jh st) (t E3))(J:aG N ps (qy st):=by walk_at "s")(len:∀ys L Q E,sp ys L Q E->ys.length=ps.length:=by walk_at "x")(l:∀(kV gh pm:Value) (an:Option Addr) (fm ct:Value) (us:List Value),us.length=ps.length->bindArgs (PySem.W.fnOf x x (vd st) (jh st) (qy st) .none kV gh pm an fm ct) ⟨us,[]⟩=pure (ps.zip us):=by walk_at "b"):fK V.P V.w V.K V.mg V.base (k+1) x ps sp:=by obtain⟨_,X,G⟩:=g;obtain⟨f,fd,F,b,m⟩:=D.use X G l;exact⟨_,_,asa F J len (λfm A outer s H E E3 U o=>h f fm A outer s H E E3 U o J.nd (huK U)) j,b,F.kp,m⟩
theorem T_{sp:jl}{t:vt}(g:∃h:Heap,V.K.In h/\h.Ns mainGlobals V.mg)(D:DefInT V.K x st V.Pt)(j:∀ys L Q,sp ys L Q->xj t N.length ys L Q)(h:∀f,∀(fm:Value) (A:Around) (outer:List Env) (s:Shared) (H:Hp) (E:XK),xK V.K fm V.Pt->wb k (A.deeper (PyProof.Rows.envOfC x (qy st) s.heap.objs.size f fm))->N.Nodup->(A.deeper (PyProof.Rows.envOfC x (qy st) s.heap.objs.size f fm)).units+128<cLine->oa (cn CX0 V.P V.w V.K V.mg V.base N x (qy st) f fm A outer s H E).nox (jh st) t)(J:aG N ps (qy st):=by walk_at "s")(len:∀ys L Q,sp ys L Q->ys.length=ps.length:=by walk_at "l")(l:∀(kV gh pm:Value) (an:Option Addr) (fm ct:Value) (us:List Value),us.length=ps.length->bindArgs (PySem.W.fnOf x x (vd st) (jh st) (qy st) .none kV gh pm an fm ct) ⟨us,[]⟩=pure (ps.zip us):=by walk_at "b"):Q_ V (k+1) x ps sp:=by obtain⟨_,X,G⟩:=g;obtain⟨f,fd,F,b,m⟩:=D.use X G l;exact Cal.of (aqq F J len λfm A outer s H E C U=>⟨t,h f fm A outer s H E C U J.nd (huK U),j⟩) b F.kp m
end
theorem I_{X:Cx}{a b:Expr}{ta tb:xp}{pos:Pos}(J:QE X a ta)(U:QE X b tb)(g:gj b:=by exactλ_ _=>rfl):QE X (.Subscript a b pos) (zb wz ta tb):=ao9 (ai7 X.K X.prog X.w) J U g
theorem jx{X:Cx}{e:Expr}{t:xp}(h:QE X e t)(s:starEach [e] X.env=[(false,eval e X.env)]:=by rfl):QA X [e] (qd t z0):=jv h xa s
theorem ky{X:Cx}{e f:Expr}{t u:xp}(h:QE X e t)(g:QE X f u)(s:starEach [e,f] X.env=[(false,eval e X.env),(false,eval f X.env)]:=by rfl)(r:starEach [f] X.env=[(false,eval f X.env)]:=by rfl):QA X [e,f] (qd t (qd u z0)):=jv h (jx g r) (by show _=_;rw[s,r])
theorem aS{X:Cx}{e f d:Expr}{t u v:xp}(h:QE X e t)(g:QE X f u)(i:QE X d v)(s:starEach [e,f,d] X.env=[(false,eval e X.env),(false,eval f X.env),(false,eval d X.env)]:=by rfl)(r:starEach [f,d] X.env=[(false,eval f X.env),(false,eval d X.env)]:=by rfl)(q:starEach [d] X.env=[(false,eval d X.env)]:=by rfl):QA X [e,f,d] (qd t (qd u (qd v z0))):=jv h (ky g i r q) (by show _=_;rw[s,r])
theorem E_{X:Cx}{a b:Expr}{ta tb:xp}{pos:Pos}(J:X.A.units+128<cLine)(U:QE X a ta)(g:QE X b tb):QT X (.Compare a [.Eq] [b] pos) (yB (zb (tW false) ta tb)):=ju (kG X.K X.prog X.w J) U g (xn _)
theorem N_{X:Cx}{a b:Expr}{ta tb:xp}{pos:Pos}(J:X.A.units+128<cLine)(U:QE X a ta)(g:QE X b tb):QT X (.Compare a [.NotEq] [b] pos) (yB (zb (tW true) ta tb)):=ju (aod X.K X.prog X.w J) U g (xn _)
theorem S_{X:Cx}{x:Str}{e:Expr}{te:xp}{pos fy:Pos}(i:Nat)(j:X.N.Nodup)(h:QE X e te)(J:X.N[i]?=some x:=by rfl)(l:Loc X.env.scope x:=by exact Or.inl rfl)(U:swapsWith e (some (.Name x fy)) pos.line X.env=pure false:=by rfl)(g:X.fn x=true\/X.env.scope.names.lookup x=some .local:=by first|exact .inl rfl|exact .inr rfl|assumption):QS X (.Assign [.Name x fy] e pos) (zf te (qh i)):=cx (i:=i) j J l h U g
theorem G_{X:Cx}{x:Str}{pos:Pos}(i:Nat)(g:X.N.Nodup)(J:X.N[i]?=some x:=by rfl)(j:Loc X.env.scope x:=by exact Or.inl rfl)(U:X.fn x=true\/X.env.scope.names.lookup x=some .local:=by first|exact .inl rfl|exact .inr rfl|assumption):QG X (.Name x pos) (qh i):=gZ (i:=i) g J j U
theorem C_{X:Cx}{e:Expr}{es:List Expr}{tr:eO}{pos p:Pos}{j k:Nat}{x:Str}{ps:List Str}{sp:jl}(c:al9 X.prog X.w X.K X.mg X.base j x ps sp)(g:wb k X.A)(l:QA X (e::es) tr)(o:j<=k:=by first|decide|exact Aj _|exact AM (by decide) (DP _ _))(r:Gl X x:=by rfl)(J:Ed x:=by decide)(t:Eb e es X:=by rfl)(U:Ec pos es X:=by rfl):QE X (.Call (.Name x p) (e::es) [] pos) (z9 sp tr):=are (Cal.mono c o) g r l J t U
theorem J_{X:Cx}{x:Str}{n:Int}{k:Nat}{p q pos:Pos}(i:Nat)(J:X.N[i]?=some x:=by rfl)(U:Vis X.env.scope x:=by first|exact Or.inl rfl|exact Or.inr (Or.inl rfl)|exact Or.inr (Or.inr rfl))(hd:Ed x:=by decide)(hc:Ee x:=by decide):QE X (.Subscript (.Name x p) (.Constant (.int n) k q) pos) (zb wz (q9 i) (yC (.int n))):=I_ (qv i J U hd hc) qf (λ_ _=>rfl)
theorem L_{X:Cx}{e:Expr}{t:xp}{p pos:Pos}(J:X.mg "len"=none)(h:QE X e t)(s:starEach [e] X.env=[(false,eval e X.env)]:=by rfl)(U:Gl X "len" := by rfl):QE X (.Call (.Name "len" p) [e] [] pos) (jS kF (qd t z0)):=dm (ak0 X.K X.prog X.w) U J aje (jx h s) (hs:=s)
theorem nd_{l:List Str}(h:decide l.Nodup=true:=by kernel_rfl):l.Nodup:=of_decide_eq_true h
abbrev c1(V:V_):Prop:=c0 V/\Q_ V 1 "is_leaf" ["word"] (fi)
theorem d1(V:V_)(B:B_ V)(c:c0 V):c1 V:=⟨c,M_ V 0 ["word"] B.hp B.D0 uW λ_ _ _ _ _ _ _ J U g=>(qe (qx (am (ab9 _ _ _) (J_ 0) (ajr B.k_LEAF_KINDS rfl) (by with_unfolding_all rfl))))⟩
abbrev c2(V:V_):Prop:=c1 V/\Q_ V 2 "parts_of" ["knot"] (mV)
theorem d2(V:V_)(B:B_ V)(c:c1 V):c2 V:=⟨c,M_ V 1 ["knot"] B.hp B.D1 aa5 λ_ _ _ _ _ _ _ J U g=>(qa (zx (bG (oK (cz (qv 0)) (iV (a8 (C_ c.2 J (jx (qv 0))))))) (qe (qx (zd xa))) zc) (qe (qx (zd (ky (J_ 0) (J_ 0))))))⟩
abbrev c3(V:V_):Prop:=c2 V/\Q_ V 1 "places_of" ["rule"] (rC)
theorem d3(V:V_)(B:B_ V)(c:c2 V):c3 V:=⟨c,M_ V 0 ["rule"] B.hp B.D2 ai0 λ_ _ _ _ _ _ _ J U g=>(qe (qx (aE az rfl B.bd aC (jx (vg (gQ _ _ _) (qv 0) (vn qf) (vn (ql x9 qf (lr B.i_PLACE_COUNTS rfl (J_ 0) (λ_ _=>rfl)))))))))⟩
abbrev c4(V:V_):Prop:=c3 V/\Q_ V 1 "arms_of" ["rule"] (wx)
theorem d4(V:V_)(B:B_ V)(c:c3 V):c4 V:=⟨c,M_ V 0 ["rule"] B.hp B.D3 yc λ_ _ _ _ _ _ _ J U g=>(qe (qx (aE az rfl B.bd aC (jx (vg (gQ _ _ _) (qv 0) (vn (ql x9 qf (lr B.i_PLACE_COUNTS rfl (J_ 0) (λ_ _=>rfl)))) wo)))))⟩
abbrev c5(V:V_):Prop:=c4 V/\Q_ V 122 "rules_in" ["rule"] (bE 120)
theorem d5(V:V_)(B:B_ V)(c:c4 V):c5 V:=⟨c,R_ V 2 ["rule","rules","arm"] B.hp B.D4 ae1 t7 (λ_ _ J _ _ _ _ _ _ U g j=>(qa (S_ 1 g (zd (jx (qv 0)))) (qa (wu DT rfl (w4 (C_ c.2 U (jx (qv 0)))) (G_ 2 g) (qe (zm (cO (qv 1) (jx (C_ J U (jx (qv 2)))))))) (qe (qx (qv 1)))))) 120⟩
abbrev c6(V:V_):Prop:=c5 V/\Q_ V 2 "told_by" ["rule"] (iF)
theorem d6(V:V_)(B:B_ V)(c:c5 V):c6 V:=⟨c,M_ V 1 ["rule"] B.hp B.D5 xZ λ_ _ _ _ _ _ _ J g U=>(qe (qx (dX (E_ U (J_ 0) j9) (zd xa) (C_ c.1.1.2 J (jx (qv 0))))))⟩
abbrev c7(V:V_):Prop:=c6 V/\Q_ V 3 "taken_by" ["knots","rule"] (pz)
theorem d7(V:V_)(B:B_ V)(c:c6 V):c7 V:=⟨c,M_ V 2 ["knots","rule","parts"] B.hp B.D6 ahn λ_ _ _ _ _ _ _ U g J=>(qa (zx (E_ J (J_ 1) j9) (qe (qx (zd xa))) zc) (qa (zx (E_ J (J_ 1) j9) (qe (qx (zd (ky (zd (jx (J_ 1))) (zd (jx (J_ 1))))))) zc) (qa (S_ 2 g (C_ c.1.1.1.1.2 U (jx (I_ (qv 0) (J_ 1))))) (qa (zx (E_ J (J_ 1) j9) (qe (qx (zd (jx (qv 2))))) zc) (qe (qx (lZ ["part"] (EO (by rfl)) rfl (w4 (qv 2)) (wg nd_ (λ_ _ _ _=>Or.inl rfl) (λ_ _ _ _=>rfl)) (λ_ _ _ _=>pi) (λ_ _ _ _=>(zd (jx (qv 3)))))))))))⟩
abbrev c8(V:V_):Prop:=c7 V/\Q_ V 1 "with_arm" ["rule","number","arm"] (aq)
theorem d8(V:V_)(B:B_ V)(c:c7 V):c8 V:=⟨c,M_ V 0 ["rule","number","arm","at"] B.hp B.D7 ah2 λ_ _ _ _ _ _ _ U J g=>(qa (S_ 3 J (ql x9 (ql x9 qf (lr B.i_PLACE_COUNTS rfl (J_ 0) (λ_ _=>rfl))) (qv 1))) (qe (qx (ql uh (ql uh (vg (gQ _ _ _) (qv 0) wo (vn (qv 3))) (zw (jx (qv 2)))) (vg (gQ _ _ _) (qv 0) (vn (ql x9 (qv 3) qf)) wo)))))⟩
abbrev c9(V:V_):Prop:=c8 V/\Q_ V 123 "all_told" ["rule"] (fc)
theorem d9(V:V_)(B:B_ V)(c:c8 V):c9 V:=⟨c,M_ V 122 ["rule","places","inner"] B.hp B.D8 uc λ_ _ _ _ _ _ _ J U g=>(qa (S_ 1 U (zd xa)) (qa (wu DT rfl (w4 (C_ c.1.1.1.2 J (jx (qv 0)))) (G_ 2 U) (qe (zm (cO (qv 1) (jx (C_ c.1.1.2 J (jx (qv 2)))))))) (qe (qx (qv 1)))))⟩
abbrev gD(V:V_):Prop:=c9 V/\Q_ V 124 "arm_that_tells" ["rule","places"] (lF)
theorem d10(V:V_)(B:B_ V)(c:c9 V):gD V:=⟨c,M_ V 123 ["rule","places","number","arm","told"] B.hp B.D9 ae6 λ_ _ _ _ _ _ _ U J g=>(qa (wu DT rfl (jV rfl B.bh (C_ c.1.1.1.1.1.2 U (jx (qv 0)))) (aO rfl (zo (G_ 2 J) (zo (G_ 3 J) kj))) (qa (cx (i:=4) J rfl (Or.inr rfl) (C_ c.2 U (jx (qv 3)))) (qe (zx (a8 (dm ap5 rfl B.br akb (jx (lZ ["place"] (EO (by rfl)) rfl (w4 (qv 1)) (wg nd_ (λ_ _ _ _=>Or.inl rfl) (λ_ _ _ _=>rfl)) (λ_ _ _ _=>pi) (λ_ _ _ _=>(am (ab9 _ _ _) (qv 5) (qv 4) (by with_unfolding_all rfl))))))) (qe (qx (qv 2))) zc)))) (qe (qx aA)))⟩
abbrev c11(V:V_):Prop:=gD V/\Q_ V 125 "turned_out" ["knots","rule","arm"] (jY)
theorem d11(V:V_)(B:B_ V)(c:gD V):c11 V:=⟨c,M_ V 124 ["knots","rule","arm","inner","number"] B.hp B.D10 ag3 λ_ _ _ _ _ _ _ J U g=>(qa (S_ 3 U (I_ (C_ c.1.1.1.1.1.1.2 J (jx (qv 1))) (qv 2))) (qa (S_ 4 U (C_ c.2 J (ky (qv 3) (I_ (C_ c.1.1.1.2 J (ky (qv 0) (qv 1))) (qv 2))))) (qa (zx (cz (qv 4)) (qe (qx aA)) zc) (qe (qx (C_ c.1.1.2 J (aS (qv 3) (qv 4) (C_ c.1.1.2 J (aS (qv 1) (qv 2) (I_ (C_ c.1.1.1.1.1.1.2 J (jx (qv 3))) (qv 4)))))))))))⟩
abbrev c12(V:V_):Prop:=c11 V/\fK V.P V.w V.K V.mg V.base 2 "arm_at" ["rule","number"] (cN V.Ca)
theorem d12(V:V_)(B:B_ V)(c:c11 V):c12 V:=⟨c,X_ V 1 ["rule","number","arms"] (t:=(λJ=>tO V.Ca J (wx))) B.hp B.D11 abp λ_ _ _ _ _ _ _ _ U g j l=>(qa (S_ 2 j (C_ c.1.1.1.1.1.1.1.2 U (jx (qv 0)))) (qa (zx (fh (ab4 qf (zG aq0 (qv 1) (zL pD (L_ B.ba (qv 2)))))) (qe (tF B.x_NoExchange rfl B.md rfl g rfl (jx j9))) zc) (qe (qx (I_ (qv 2) (qv 1))))))⟩
abbrev c13(V:V_):Prop:=c12 V/\fK V.P V.w V.K V.mg V.base 3 "rules_along" ["rule","way"] (gc V.Ca)
theorem d13(V:V_)(B:B_ V)(c:c12 V):c13 V:=⟨c,X_ V 2 ["rule","way","along","number"] (t:=(λU=>fY U (cN V.Ca))) B.hp B.D12 adp λ_ _ _ _ _ _ _ _ g j J l=>(qa (S_ 2 J (zd (jx (qv 0)))) (qa (wu PassesOwn.leaving rfl (w4 (qv 1)) (G_ 3 J) (qe (zm (zh (qv 2) (jx (vS (c.2.mono (by decide)) g rfl j rfl (ky (I_ (qv 2) (gd gx qf)) (qv 3)))))))) (qe (qx (qv 2)))))⟩
abbrev c14(V:V_):Prop:=c13 V/\fK V.P V.w V.K V.mg V.base 126 "exchanged" ["tree","way","arm"] (jW V.Ca)
theorem d14(V:V_)(B:B_ V)(c:c13 V):c14 V:=⟨c,X_ V 125 ["tree","way","arm","along","rule","number","outer"] (t:=(λj=>ig V.Ca j (gc V.Ca) (cN V.Ca) (jY) (aq))) B.hp B.D13 ag6 λ_ _ _ _ _ _ _ _ U g J l=>(qa (S_ 3 J (vS (c.2.mono (by decide)) U rfl g rfl (ky (J_ 0) (qv 1)))) (qa (zm (vS (c.1.2.mono (by decide)) U rfl g rfl (ky (I_ (qv 3) (gd gx qf)) (qv 2)))) (qa (S_ 4 J (C_ c.1.1.2 U (aS (J_ 0) (I_ (qv 3) (gd gx qf)) (qv 2)))) (qa (zx (cz (qv 4)) (qe (tF B.x_NoExchange rfl B.md rfl g rfl (jx j9))) zc) (qa (wu PassesOwn.leaving rfl (akn rfl B.bu (ab8 rfl rfl B.bd rfl B.bw (ky (qv 1) (qv 3)))) (aO rfl (zo (G_ 5 J) (zo (G_ 6 J) kj))) (qe (S_ 4 J (C_ c.1.1.1.1.1.2 U (aS (qv 6) (qv 5) (qv 4)))))) (qe (qx (zw (ky (aE az rfl B.bd aC (jx (J_ 0))) (qv 4))))))))))⟩
abbrev c15(V:V_):Prop:=c14 V/\Q_ V 1 "_law_mix" ["_law_cell",nG,"_law_factor"] (qF)
theorem d15(V:V_)(B:B_ V)(c:c14 V):c15 V:=⟨c,M_ V 0 ["_law_cell",nG,"_law_factor"] B.hp B.D14 alg λ_ _ _ _ _ _ _ J U g=>(qe (qx (ql vm (ql jm (ql gm (ql x9 (ql x9 (ql gm (ql jm (qv 0) qf) qf) (ql gm (qv 1) (qv 1))) qf) (qv 2)) qf) qf)))⟩
abbrev c16(V:V_):Prop:=c15 V/\Q_ V 1 "_law_name" [nr,"_law_which"] (lU)
theorem d16(V:V_)(B:B_ V)(c:c15 V):c16 V:=⟨c,M_ V 0 [nr,"_law_which","_law_letters","_law_size","_law_place_here","_law_base","_law_sign"] B.hp B.D15 adg λ_ _ _ _ _ _ _ g J U=>(qa (cx (i:=2) J rfl (Or.inr rfl) j9) (qa (S_ 3 J (ql x9 qf (ql jm (qv 0) qf))) (qa (S_ 4 J (ql jm (ql vm (qv 0) qf) (qv 3))) (qa (S_ 5 J (ahl j9 (jx (lZ [nG] (EO (by rfl)) rfl (bY rfl B.bf (jx qf)) (wg nd_ (λ_ _ _ _=>Or.inl rfl) (λ_ _ _ _=>rfl)) (λ_ _ _ _=>pi) (λ_ _ _ _=>(I_ (qv 2) (ql jm (ql x9 (ql vm (qv 0) qf) (ql gm qf (qv 7))) qf))))))) (qa (zx (E_ U (ql jm (ql vm (qv 0) qf) qf) qf) (qe (qx (vg (r9 _ _ _) (qv 5) wo (vn (ql x9 qf (ql jm (ql x9 (qv 1) (qv 0)) qf)))))) zc) (qa (S_ 6 J (I_ (qv 2) (ql jm (ql x9 (ql x9 (ql vm (qv 0) qf) (ql gm qf (qv 4))) (qv 1)) qf))) (qe (qx (ql x9 (ql x9 (vg (r9 _ _ _) (qv 5) wo (vn (qv 4))) (qv 6)) (vg (r9 _ _ _) (qv 5) (vn (ql x9 (qv 4) qf)) (vn (qv 3))))))))))))⟩
abbrev c17(V:V_):Prop:=c16 V/\Q_ V 121 "_law_word" [nh,nH] (aP 120)
theorem d17(V:V_)(B:B_ V)(c:c16 V):c17 V:=⟨c,R_ V 1 [nh,nH,"_law_knot"] B.hp B.D16 pJ sg (λ_ _ J _ _ _ _ _ _ U g j=>(qa (S_ 2 g (I_ (qv 0) (qv 1))) (qa (zx (E_ j (L_ B.ba (qv 2)) qf) (qe (qx (qv 2))) zc) (qe (qx (zw (aS (J_ 2) (C_ J U (ky (qv 0) (J_ 2))) (C_ J U (ky (qv 0) (J_ 2)))))))))) 120⟩
abbrev c18(V:V_):Prop:=c17 V/\Q_ V 121 "_law_flip" [nu] (cK 120)
theorem d18(V:V_)(B:B_ V)(c:c17 V):c18 V:=⟨c,R_ V 1 [nu,"_law_sides"] B.hp B.D17 abt acj (λ_ _ J _ _ _ _ _ _ U g j=>(qa (S_ 1 g (afb [ ("plain" ,"turned") ,("turned" ,"plain") ,("both" ,"either") ,("either" ,"both") ] (gi dC dC (gi dC dC (gi dC dC (gi dC dC ahy)))) rfl rfl (Ba _ _) (Bj rfl))) (qa (zx (E_ j (L_ B.ba (qv 0)) qf) (qe (qx (zw (ky (I_ (qv 1) (J_ 0)) (J_ 0))))) zc) (qe (qx (zw (aS (I_ (qv 1) (J_ 0)) (C_ J U (jx (J_ 0))) (C_ J U (jx (J_ 0)))))))))) 120⟩
abbrev c19(V:V_):Prop:=c18 V/\Q_ V 121 "_law_weight" [nu] (cJ 120)
theorem d19(V:V_)(B:B_ V)(c:c18 V):c19 V:=⟨c,R_ V 1 [nu] B.hp B.D18 kR zV (λ_ _ J _ _ _ _ _ _ U j g=>(qa (zx (E_ g (L_ B.ba (qv 0)) qf) (qe (qx qf)) zc) (qe (qx (ql x9 (ql x9 qf (C_ J U (jx (J_ 0)))) (C_ J U (jx (J_ 0)))))))) 120⟩
abbrev c20(V:V_):Prop:=c19 V/\Q_ V 127 "_law_mirror" [nh,nu] (bx 5)
theorem d20(V:V_)(B:B_ V)(c:c19 V):c20 V:=⟨c,R_ V 122 [nh,nu,"_law_left","_law_right","_law_turn","_law_same","_law_low","_law_high"] B.hp B.D19 xI zQ (λ_ _ J _ _ _ _ _ _ g U l=>(qa (zx (E_ l (L_ B.ba (qv 1)) qf) (qa (zm (zh (qv 0) (jx (C_ c.1.2 g (jx (qv 1)))))) (qa (zm (zh (qv 0) (jx (qv 1)))) (qe (qx (zd (aS (zw (aS j9 (ql cA (L_ B.ba (qv 0)) qf) (ql cA (L_ B.ba (qv 0)) qf))) (ql cA (L_ B.ba (qv 0)) qf) (ql cA (L_ B.ba (qv 0)) qf))))))) zc) (qa (S_ 2 U (C_ J g (ky (qv 0) (J_ 1)))) (qa (S_ 3 U (C_ J g (ky (qv 0) (J_ 1)))) (qa (zm (zh (qv 0) (jx (zw (aS (I_ (C_ c.1.2 g (jx (qv 1))) qf) (J_ 2) (J_ 3)))))) (qa (zm (zh (qv 0) (jx (zw (aS (J_ 1) (J_ 2) (J_ 3)))))) (qa (u0 (i:=4) (j:=5) rfl U rfl rfl (by decide) rfl rfl (ky (ql cA (L_ B.ba (qv 0)) qf) (ql cA (L_ B.ba (qv 0)) qf)) rfl) (qa (S_ 6 U (dX (E_ l (J_ 1) j9) (qv 4) (qv 5))) (qa (S_ 7 U (dX (E_ l (J_ 1) j9) (qv 5) (qv 4))) (qe (qx (zd (aS (zw (aS j9 (qv 7) (zw (jv j9 (aS (qv 6) (J_ 2) (J_ 3)))))) (qv 4) (qv 5)))))))))))))) 5⟩
abbrev c21(V:V_):Prop:=c20 V/\Q_ V 1 "_law_join" [nh,nK,nv,nI] (ou)
theorem d21(V:V_)(B:B_ V)(c:c20 V):c21 V:=⟨c,M_ V 0 [nh,nK,nv,nI,"_law_first","_law_second","_law_left","_law_right",nO] B.hp B.D20 ahb λ_ _ _ _ _ _ _ U J g=>(qa (S_ 4 J (cM (qv 1) (jx (ql jm (qv 3) (L_ B.ba (qv 1)))))) (qa (S_ 5 J (cM (qv 1) (jx (ql jm (qv 2) (L_ B.ba (qv 1)))))) (qa (cx (i:=6) J rfl (Or.inr rfl) (I_ (J_ 4) (ql jm (ql vm (qv 3) qf) (L_ B.ba (J_ 4))))) (qa (cx (i:=7) J rfl (Or.inr rfl) (I_ (J_ 5) (ql jm (ql vm (qv 2) qf) (L_ B.ba (J_ 5))))) (qa (zm (zh (qv 0) (jx (zw (aS j9 (qv 6) (qv 7)))))) (qa (ln [nH] (i:=8) J rfl (Or.inl rfl) (EO (by rfl)) rfl (w4 (ql x9 (J_ 4) (J_ 5))) (wg nd_ (λ_ _ _ _=>Or.inl rfl) (λ_ _ _ _=>rfl)) (λ_ _ _ _=>iQ (ju (uQ _ _ _) (qv 9) (zw (ky (qv 6) (qv 7))) (by with_unfolding_all rfl))) (λ_ _ _ _=>(qv 9))) (qe (zm (zh (qv 1) (jx (zd (ky (zw (jv j9 (aS (ql cA (L_ B.ba (qv 0)) qf) (J_ 4) (J_ 5)))) (ql x9 (qv 8) (zd (jx (ql cA (L_ B.ba (qv 0)) qf))))))))))))))))⟩
abbrev c22(V:V_):Prop:=c21 V/\Q_ V 1 "_law_fold" [nh,nE,nv,nI] (lV)
theorem d22(V:V_)(B:B_ V)(c:c21 V):c22 V:=⟨c,M_ V 0 [nh,nE,nv,nI,"_law_left","_law_right"] B.hp B.D21 aeb λ_ _ _ _ _ _ _ U J g=>(qa (zx (ju pD (L_ B.ba (J_ 1)) qf (xn _)) (qe wP) zc) (qa (S_ 4 J (cM (J_ 1) (jx (ql jm (qv 3) (L_ B.ba (J_ 1)))))) (qa (S_ 5 J (cM (J_ 1) (jx (ql jm (qv 2) (L_ B.ba (J_ 1)))))) (qa (zm (zh (qv 0) (jx (zw (aS j9 (qv 4) (qv 5)))))) (qa (vZ (qv 1) qf (zw (aS j9 (ql cA (L_ B.ba (qv 0)) qf) (J_ 1)))) (qe (zm (zh (J_ 1) (jx (ql cA (L_ B.ba (qv 0)) qf))))))))))⟩
abbrev c23(V:V_):Prop:=c22 V/\Q_ V 128 "_law_cut" [nh,nK,nv,nI] (pH)
theorem d23(V:V_)(B:B_ V)(c:c22 V):c23 V:=⟨c,M_ V 127 [nh,nK,nv,nI,"_law_first",nH,nu,"_law_second","_law_q",nJ,"_law_end",ng,"_law_same",nO] B.hp B.D22 ag7 λ_ _ _ _ _ _ _ U J g=>(qa (S_ 4 J (cM (qv 1) (jx (ql jm (qv 3) (L_ B.ba (qv 1)))))) (qa (cx (i:=5) J rfl (Or.inr rfl) (I_ (J_ 4) (ql jm (ql vm (qv 3) qf) (L_ B.ba (J_ 4))))) (qa (S_ 6 J (C_ c.1.1.1.1.1.2 U (ky (qv 0) (qv 5)))) (qa (cf (zw (ky aA aA)) (aO rfl (zo (G_ 7 J) (zo (gZ (i:=8) J rfl (Or.inr rfl)) kj)))) (qa (wu DT rfl (bY rfl B.bf (jx (L_ B.ba (qv 1)))) (G_ 9 J) (qe (wu DT rfl (w4 (I_ (I_ (qv 1) (qv 9)) qf)) (G_ 10 J) (qe (zx (bG (db (cz (qv 7)) (bN (E_ g (C_ c.1.1.1.1.1.2 U (ky (qv 0) (qv 10))) (C_ c.1.1.1.1.2 U (jx (qv 6))))))) (qe (cf (zw (ky (I_ (qv 1) (qv 9)) (qv 10))) (aO rfl (zo (G_ 7 J) (zo (gZ (i:=8) J rfl (Or.inr rfl)) kj))))) zc))))) (qa (zx (bG (db (cz (qv 7)) (bN (ju y4 (C_ c.1.1.1.2 U (jx (qv 6))) qf (xn _))))) (qa (zm (zh (qv 1) (jx (qv 4)))) (qe wP)) zc) (kz (zx (cz (qv 7)) (qa (cf (C_ c.1.1.2 U (ky (qv 0) (qv 6))) (akd rfl (zo (G_ 11 J) (zo (gZ (i:=8) J rfl (Or.inr rfl)) (zo (G_ 12 J) kj))))) (qe (S_ 7 J (zd (ky (qv 11) (zd (ky (qv 8) (qv 12)))))))) (qe (zm (y7 g (qv 1) (jx (qv 7)))))) (qa (ln ["_law_x"] (i:=13) J rfl (Or.inl rfl) (EO (by rfl)) rfl (w4 (ql x9 (J_ 4) (J_ 7))) (wg nd_ (λ_ _ _ _=>Or.inl rfl) (λ_ _ _ _=>rfl)) (λ_ _ _ _=>iQ (ju (uQ _ _ _) (qv 14) (zw (ky (qv 5) (qv 8))) (by with_unfolding_all rfl))) (λ_ _ _ _=>(qv 14))) (qe (zx (E_ g (ql jm (qv 2) qf) qf) (qe (zm (zh (qv 1) (jx (zd (ky (zw (jv j9 (jv (qv 5) (aS (qv 8) (J_ 4) (J_ 7))))) (qv 13))))))) (qe (zm (zh (qv 1) (jx (zd (ky (zw (jv j9 (jv (qv 8) (aS (qv 5) (J_ 7) (J_ 4))))) (qv 13)))))))))))))))))⟩
abbrev c24(V:V_):Prop:=c23 V/\Q_ V 2 "_law_order" [nh,nr] (i3 V.Pt)
theorem d24(V:V_)(B:B_ V)(c:c23 V):c24 V:=⟨c,T_ V 1 [nh,nr,"_law_ranks",nH,"_law_knot","_law_rank"] B.hp B.D23 zM λ_ _ _ _ _ _ _ C U J g=>(qa (cx (i:=2) J rfl (Or.inr rfl) (zd xa)) (qa (wu DT rfl (jV rfl B.bh (qv 0)) (aO rfl (zo (G_ 3 J) (zo (G_ 4 J) kj))) (qa (S_ 5 J (ql jm (C_ c.1.1.1.1.1.1.1.1.2 U (aS (qv 1) (qv 3) qf)) qf)) (kz (zx (E_ g (L_ B.ba (qv 4)) qf) (qe (S_ 5 J (ql x9 (ql x9 (qv 5) qf) (dm ais rfl B.bj abr (ky (I_ (qv 2) (J_ 4)) (I_ (qv 2) (J_ 4))))))) zc) (qe (zm (zh (qv 2) (jx (qv 5)))))))) (qe (qx (ad8 rfl B.bq (uD rfl rfl B.bd rfl B.bf (L_ B.ba (qv 0))) ⟨rfl,rfl,rfl,by decide +kernel,rfl,rfl,by decide,by decide,by decide⟩ C (dp3 U) rfl rfl rfl ⟨_,rfl,rfl⟩ rfl (λ_ _ _ _ _ _ _=>rfl))))))⟩
abbrev c25(V:V_):Prop:=c24 V/\Q_ V 121 "_law_moved" [ng,nJ] (cT 120)
theorem d25(V:V_)(B:B_ V)(c:c24 V):c25 V:=⟨c,R_ V 1 [ng,nJ,"_law_places"] B.hp B.D24 aar abk (λ_ _ J _ _ _ _ _ _ g j U=>(qa (zx (E_ U (J_ 0) j9) (qe (qx (zw (aS j9 (dm amo rfl B.bp ald (ky (cr U (qv 1) (J_ 0) (λ_ _=>rfl)) (cr U (qv 1) (J_ 0) (λ_ _=>rfl)))) (dm ais rfl B.bj abr (ky (cr U (qv 1) (J_ 0) (λ_ _=>rfl)) (cr U (qv 1) (J_ 0) (λ_ _=>rfl)))))))) zc) (qa (ln ["_law_x"] (i:=2) j rfl (Or.inl rfl) (EO (by rfl)) rfl (adf (vg (gQ _ _ _) (qv 0) (vn qf) wo)) (wg nd_ (λ_ _ _ _=>Or.inl rfl) (λ_ _ _ _=>rfl)) (λ_ _ _ _=>iQ (a8 (aD .int rfl B.bc rfl B.bi tz (qv 3)))) (λ_ _ _ _=>(cr U (qv 1) (qv 3) (λ_ _=>rfl)))) (qe (qx (aE wR rfl B.bg dt (jx (ql x9 (ql x9 (zd (jx (J_ 0))) (qv 2)) (lZ ["_law_x"] (EO (by rfl)) rfl (adf (vg (gQ _ _ _) (qv 0) (vn qf) wo)) (wg nd_ (λ_ _ _ _=>Or.inl rfl) (λ_ _ _ _=>rfl)) (λ_ _ _ _=>iQ (a8 (aD .tuple rfl B.bc rfl B.bg dt (qv 3)))) (λ_ _ _ _=>(C_ J g (ky (qv 3) (qv 1))))))))))))) 120⟩
abbrev c26(V:V_):Prop:=c25 V/\Q_ V 122 nV [nh,ng,nr] (fk V.Pt)
theorem d26(V:V_)(B:B_ V)(c:c25 V):c26 V:=⟨c,M_ V 121 [nh,ng,nr,nJ,"_law_made",nH,"_law_knot"] B.hp B.D25 u8 λ_ _ _ _ _ _ _ g J U=>(qa (S_ 3 J qQ) (qa (S_ 4 J (zd xa)) (qa (wu DT rfl (w4 (C_ c.1.2 g (ky (qv 0) (qv 2)))) (G_ 5 J) (qa (bM U (qv 3) (qv 5) (L_ B.ba (qv 4))) (qa (S_ 6 J (I_ (qv 0) (qv 5))) (qe (zm (zh (qv 4) (jx (dX (E_ U (L_ B.ba (qv 6)) qf) (qv 6) (zw (aS (J_ 6) (cr U (qv 3) (J_ 6) (λ_ _=>rfl)) (cr U (qv 3) (J_ 6) (λ_ _=>rfl)))))))))))) (qe (qx (zw (ky (qv 4) (C_ c.2 g (ky (qv 1) (qv 3))))))))))⟩
abbrev c27(V:V_):Prop:=c26 V/\Q_ V 129 "_law_tree" ["_law_cells",nr,"_law_room"] (lT V.Pt)
theorem d27(V:V_)(B:B_ V)(c:c26 V):c27 V:=⟨c,M_ V 128 ["_law_cells",nr,"_law_room",nh,nK,nG,"_law_cell",nv,nI,"_law_deed",nJ] B.hp B.D26 ac6 λ_ _ _ _ _ _ _ J U g=>(qa (S_ 3 U (zd xa)) (qa (S_ 4 U (zd xa)) (qa (wu DT rfl (jV rfl B.bh (qv 0)) (aO rfl (zo (G_ 5 U) (zo (G_ 6 U) kj))) (qa (u0 (i:=7) (j:=8) rfl U rfl rfl (by decide) rfl rfl (ky (C_ c.1.1.1.1.1.1.1.1.1.1.1.2 J (aS (qv 6) (qv 5) qf)) (C_ c.1.1.1.1.1.1.1.1.1.1.1.2 J (aS (qv 6) (qv 5) qf))) rfl) (qa (zx (ju y4 (ql x9 (ql x9 (L_ B.ba (qv 3)) (L_ B.ba (qv 4))) qf) (qv 2) (xn _)) (qe rb) zc) (qa (S_ 9 U (ql jm (qv 7) qf)) (qa (S_ 7 U (ql vm (qv 7) qf)) (qe (zx (bG (oK (ju pD (qv 9) qf (xn _)) (iV (E_ g (qv 4) (zd xa))))) (qa (zm (zh (qv 3) (jx (zw (ky j9 (C_ c.1.1.1.1.1.1.1.1.1.1.2 J (ky (qv 1) (ql jm (qv 8) qf)))))))) (qa (zm (zh (qv 3) (jx (zw (ky j9 (C_ c.1.1.1.1.1.1.1.1.1.1.2 J (ky (qv 1) (ql jm (qv 8) qf)))))))) (kz (zx (E_ g (ql jm (qv 7) qf) qf) (qe (zm (zh (qv 3) (jx (cM (qv 3) (jx (ql cA (L_ B.ba (qv 3)) qf))))))) zc) (qa (S_ 10 U (ql cA (L_ B.ba (qv 3)) qf)) (qe (zm (zh (qv 4) (jx (zd (ky (zw (aS j9 (qv 10) (ql x9 (qv 10) qf))) (zd (ky (qv 10) (ql x9 (qv 10) qf))))))))))))) (qe (zx (ju pD (qv 9) qf (xn _)) (qe (zm (C_ c.1.1.1.1.2 J (jv (qv 3) (aS (I_ (qv 4) (ql jm (qv 8) (L_ B.ba (qv 4)))) (qv 7) (ql vm (qv 8) qf)))))) (qe (zx (bG (db (ju pD (qv 9) qf (xn _)) (bN (ju y4 (L_ B.ba (qv 4)) qf (xn _))))) (qe (zm (C_ c.1.1.1.1.1.2 J (jv (qv 3) (aS (qv 4) (qv 7) (qv 8)))))) (qe (zm (C_ c.1.1.1.2 J (jv (qv 3) (aS (qv 4) (qv 7) (qv 8))))))))))))))))) (kz (zx (E_ g (qv 4) (zd xa)) (qa (zm (zh (qv 3) (jx (zw (ky j9 (C_ c.1.1.1.1.1.1.1.1.1.1.2 J (ky (qv 1) qf))))))) (qa (zm (zh (qv 3) (jx (zw (ky j9 (C_ c.1.1.1.1.1.1.1.1.1.1.2 J (ky (qv 1) qf))))))) (qe (zm (zh (qv 4) (jx (zd (ky (zw (aS j9 qf qf)) (zd (ky qf qf)))))))))) zc) (qa (bZ DT (ju y4 (L_ B.ba (qv 4)) qf (xn _)) (qe (zm (C_ c.1.1.1.1.1.2 J (jv (qv 3) (aS (qv 4) (ql x9 (ql vm (qv 1) qf) (L_ B.ba (qv 4))) (ql vm (qv 1) qf))))))) (qe (qx (C_ c.2 J (aS (qv 3) (I_ (J_ 4) qf) (qv 1))))))))))⟩
abbrev c28(V:V_):Prop:=c27 V/\Q_ V 1 "_law_arms" [ng] (vf)
theorem d28(V:V_)(B:B_ V)(c:c27 V):c28 V:=⟨c,M_ V 0 [ng] B.hp B.D27 aap λ_ _ _ _ _ _ _ U g J=>(qa (zx (E_ J (J_ 0) j9) (qe (qx (zd (ky (J_ 0) (J_ 0))))) zc) (qa (zx (E_ J (J_ 0) j9) (qe (qx (zd xa))) zc) (qe (qx (aE az rfl B.bd aC (jx (vg (gQ _ _ _) (qv 0) (vn qf) wo)))))))⟩
abbrev c29(V:V_):Prop:=c28 V/\Q_ V 2 nR [ng] (pV)
theorem d29(V:V_)(B:B_ V)(c:c28 V):c29 V:=⟨c,M_ V 1 [ng,"_law_links","_law_cuts",nU,"_law_stack",nv] B.hp B.D28 af2 λ_ _ _ _ _ _ _ g U J=>(qa (cf (zw (jv (zd xa) (aS (zd xa) qQ (zd (jx (qv 0)))))) (aO rfl (zo (G_ 1 U) (zo (G_ 2 U) (zo (G_ 3 U) (zo (G_ 4 U) kj)))))) (qa (bZ DT (N_ J (qv 4) (zd xa)) (qa (S_ 5 U (t9 (qv 4))) (kz (zx (E_ J (J_ 5) j9) (qa (zm (zh (qv 1) (jx (zw (ky (J_ 5) (J_ 5)))))) (qa (bM J (qv 3) (J_ 5) ah) (qe (bM J (qv 3) (J_ 5) ah)))) (qe (zx (E_ J (J_ 5) j9) (qe (zm (zh (qv 2) (jx (zw (ky (J_ 5) (J_ 5))))))) (qe (bM J (qv 3) (J_ 5) ah))))) (qe (zm (cO (qv 4) (jx (C_ c.2 g (jx (qv 5)))))))))) (qe (qx (zw (aS (qv 1) (qv 2) (qv 3)))))))⟩
abbrev c30(V:V_):Prop:=c29 V/\Q_ V 2 "_law_ends" [nh,ng] (gJ)
theorem d30(V:V_)(B:B_ V)(c:c29 V):c30 V:=⟨c,M_ V 1 [nh,ng,nU,"_law_taken","_law_stack",nv] B.hp B.D29 abi λ_ _ _ _ _ _ _ g U J=>(qa (cf (zw (aS (zd xa) qQ (zd (jx (qv 1))))) (aO rfl (zo (G_ 2 U) (zo (gZ (i:=3) U rfl (Or.inr rfl)) (zo (G_ 4 U) kj))))) (qa (bZ DT (N_ J (qv 4) (zd xa)) (qa (S_ 5 U (t9 (qv 4))) (kz (zx (E_ J (J_ 5) j9) (qe (zm (cO (qv 2) (jx (zd (ky (J_ 5) (J_ 5))))))) (qe (zx (E_ J (J_ 5) j9) (qa (bM J (qv 3) (J_ 5) ah) (qe (bM J (qv 3) (J_ 5) ah))) (qa (zm (zh (qv 2) (jx (J_ 5)))) (qa (bM J (qv 3) (I_ (I_ (qv 0) (J_ 5)) qf) ah) (qe (bM J (qv 3) (I_ (I_ (qv 0) (J_ 5)) qf) ah))))))) (qe (zm (cO (qv 4) (jx (C_ c.1.2 g (jx (qv 5)))))))))) (qe (qx (lZ [nH] (EO (by rfl)) rfl (w4 (qv 2)) (wg nd_ (λ_ _ _ _=>Or.inl rfl) (λ_ _ _ _=>rfl)) (λ_ _ _ _=>iQ (ju (ajg J) (qv 6) (qv 3) (by with_unfolding_all rfl))) (λ_ _ _ _=>(qv 6)))))))⟩
abbrev c31(V:V_):Prop:=c30 V/\Q_ V 1 "_law_needs" [nh,ng,nq] (hG)
theorem d31(V:V_)(B:B_ V)(c:c30 V):c31 V:=⟨c,M_ V 0 [nh,ng,nq] B.hp B.D30 xF λ_ _ _ _ _ _ _ U g J=>(qa (zx (E_ J (J_ 1) j9) (qe (qx (zd (jx (I_ (qv 1) (ql x9 qf (qv 2))))))) zc) (qa (zx (E_ J (J_ 1) j9) (qe (qx (zd (jx (I_ (I_ (qv 0) (J_ 1)) (ql x9 qf (qv 2))))))) zc) (qe (qx (aE az rfl B.bd aC (jx (vg (gQ _ _ _) (I_ (qv 0) (J_ 1)) (vn qf) wo)))))))⟩
abbrev c32(V:V_):Prop:=c31 V/\Q_ V 3 "_law_goes" [nh,ng,nq] (gF)
theorem d32(V:V_)(B:B_ V)(c:c31 V):c32 V:=⟨c,M_ V 2 [nh,ng,nq,"_law_inner","_law_needs_here",nG,"_law_below",nO] B.hp B.D31 ad6 λ_ _ _ _ _ _ _ J U g=>(qa (zx (bG (oK (ju pD (qv 2) qf (xn _)) (iV (ju aof (qv 2) (L_ B.ba (C_ c.1.1.1.2 J (jx (qv 1)))) (xn _))))) (qe (qx aA)) zc) (qa (S_ 3 U (I_ (C_ c.1.1.1.2 J (jx (qv 1))) (qv 2))) (qa (S_ 4 U (C_ c.2 J (aS (qv 0) (qv 1) (qv 2)))) (qa (zx (bG (db (N_ g (J_ 3) j9) (bN (ju (ab9 _ _ _) (J_ 3) (qv 4) (by with_unfolding_all rfl))))) (qe (qx aA)) zc) (qa (wu DT rfl (jV rfl B.bh (C_ c.1.1.1.2 J (jx (qv 3)))) (aO rfl (zo (G_ 5 U) (zo (G_ 6 U) kj))) (qa (cx (i:=7) U rfl (Or.inr rfl) (C_ c.1.2 J (ky (qv 0) (qv 6)))) (qe (zx (E_ g (lZ [nH] (EO (by rfl)) rfl (w4 (qv 4)) (wg nd_ (λ_ _ _ _=>Or.inl rfl) (λ_ _ _ _=>rfl)) (λ_ _ _ _=>iQ (ju (uQ _ _ _) (qv 8) (qv 7) (by with_unfolding_all rfl))) (λ_ _ _ _=>(qv 8))) (zd xa)) (qe (qx (qv 5))) zc)))) (qe (qx aA)))))))⟩
abbrev c33(V:V_):Prop:=c32 V/\Q_ V 2 nW [ng,nq,nQ] (aq)
theorem d33(V:V_)(B:B_ V)(c:c32 V):c33 V:=⟨c,M_ V 1 [ng,nq,nQ,nF,"_law_kept"] B.hp B.D32 ad7 λ_ _ _ _ _ _ _ U J g=>(qa (S_ 3 J (C_ c.1.1.1.1.2 U (jx (qv 0)))) (qa (S_ 4 J (ql cA (L_ B.ba (qv 0)) (L_ B.ba (qv 3)))) (qa (vZ (qv 3) (qv 1) (qv 2)) (qe (qx (ql uh (vg (gQ _ _ _) (qv 0) wo (vn (qv 4))) (aE wR rfl B.bg dt (jx (qv 3)))))))))⟩
abbrev c34(V:V_):Prop:=c33 V/\Q_ V 3 "_law_about" [ng,nq,nG] (iD)
theorem d34(V:V_)(B:B_ V)(c:c33 V):c34 V:=⟨c,M_ V 2 [ng,nq,nG,"_law_inner","_law_below"] B.hp B.D33 yX λ_ _ _ _ _ _ _ J U g=>(qa (S_ 3 U (I_ (C_ c.1.1.1.1.1.2 J (jx (qv 0))) (qv 1))) (qa (S_ 4 U (I_ (C_ c.1.1.1.1.1.2 J (jx (qv 3))) (qv 2))) (qe (qx (C_ c.2 J (aS (qv 3) (qv 2) (C_ c.2 J (aS (qv 0) (qv 1) (qv 4)))))))))⟩
abbrev c35(V:V_):Prop:=c34 V/\Q_ V 2 "_law_at" [ng,nj] (ug)
theorem d35(V:V_)(B:B_ V)(c:c34 V):c35 V:=⟨c,M_ V 1 [ng,nj,"_law_a"] B.hp B.D34 aj1 λ_ _ _ _ _ _ _ U J g=>(qa (wu DT rfl (w4 (qv 1)) (G_ 2 J) (qe (S_ 0 J (I_ (C_ c.1.1.1.1.1.1.2 U (jx (qv 0))) (qv 2))))) (qe (qx (qv 0))))⟩
abbrev c36(V:V_):Prop:=c35 V/\Q_ V 127 "_law_put_at" [ng,nj,nQ] (bz 124)
theorem d36(V:V_)(B:B_ V)(c:c35 V):c36 V:=⟨c,R_ V 3 [ng,nj,nQ] B.hp B.D35 yM xQ (λ_ _ J _ _ _ _ _ _ U j g=>(qa (zx (E_ g (qv 1) (zd xa)) (qe (qx (qv 2))) zc) (qe (qx (C_ c.1.1.2 U (aS (qv 0) (J_ 1) (C_ J U (aS (I_ (C_ c.1.1.1.1.1.1.1.2 U (jx (qv 0))) (J_ 1)) (vg (r9 _ _ _) (qv 1) (vn qf) wo) (qv 2))))))))) 124⟩
abbrev c37(V:V_):Prop:=c36 V/\Q_ V 2 nN [ng,ny] (gN)
theorem d37(V:V_)(B:B_ V)(c:c36 V):c37 V:=⟨c,M_ V 1 [ng,ny,nj,nF] B.hp B.D36 abl λ_ _ _ _ _ _ _ U J g=>(qa (S_ 2 J (zd xa)) (qa (S_ 3 J (C_ c.1.1.1.1.1.1.1.1.2 U (jx (qv 0)))) (qa (bZ DT (bG (db (N_ g (qv 3) (zd xa)) (bN (ju y4 (ql jm (qv 1) qf) qf (xn _))))) (qa (zm (zh (qv 2) (jx (ql jm (ql vm (qv 1) qf) (L_ B.ba (qv 3)))))) (qa (S_ 3 J (C_ c.1.1.1.1.1.1.1.1.2 U (jx (I_ (qv 3) (I_ (qv 2) (gd gx qf)))))) (qe (S_ 1 J (ql jm (ql gm (qv 1) qf) qf)))))) (qe (qx (qv 2))))))⟩
abbrev c38(V:V_):Prop:=c37 V/\Q_ V 4 "_law_pairs" [nh,ng,"_law_can"] (dY)
theorem d38(V:V_)(B:B_ V)(c:c37 V):c38 V:=⟨c,M_ V 3 [nh,ng,"_law_can",nL,"_law_stack",nj,nv,nF,"_law_a"] B.hp B.D37 rR λ_ _ _ _ _ _ _ g J U=>(qa (u0 (i:=3) (j:=4) rfl J rfl rfl (by decide) rfl rfl (ky (zd xa) (zd (jx (zw (ky (zd xa) (qv 1)))))) rfl) (qa (bZ DT (N_ U (qv 4) (zd xa)) (qa (cf (t9 (qv 4)) (aO rfl (zo (G_ 5 J) (zo (G_ 6 J) kj)))) (qa (S_ 7 J (C_ c.1.1.1.1.1.1.1.1.1.2 g (jx (qv 6)))) (qe (wu DT rfl (bY rfl B.bf (jx (L_ B.ba (qv 7)))) (G_ 8 J) (kz (zx (bG (db (E_ U (age (C_ c.1.1.1.1.1.2 g (aS (qv 0) (qv 6) (qv 8)))) (qv 2)) (bN (N_ U (I_ (I_ (qv 7) (qv 8)) qf) j9)))) (qe (zm (zh (qv 3) (jx (zw (ky (qv 5) (qv 8))))))) zc) (qe (zm (zh (qv 4) (jx (zw (ky (ql x9 (qv 5) (zd (jx (qv 8)))) (I_ (qv 7) (qv 8)))))))))))))) (qe (qx (qv 3)))))⟩
abbrev c39(V:V_):Prop:=c38 V/\Q_ V 125 "_law_alike" [nL,nS] (bV 124)
theorem d39(V:V_)(B:B_ V)(c:c38 V):c39 V:=⟨c,R_ V 1 [nL,nS,nG] B.hp B.D38 yG yW (λ_ _ J _ _ _ _ _ _ g j U=>(qa (zx (cz (qv 1)) (qe (qx (alr (qv 0)))) zc) (qa (zx (a8 (aD .str rfl B.bc rfl B.bn aax (qv 1))) (qe (qx (iM (aD .str rfl B.bc rfl B.bn aax (qv 0)) (qY (am (kG _ _ _ U) (qv 0) (qv 1) (xn _)))))) zc) (qa (zx (a8 (aD .int rfl B.bc rfl B.bi tz (qv 1))) (qe (qx (iM (aD .int rfl B.bc rfl B.bi tz (qv 0)) (iM (ae7 (aD .bool rfl B.bc rfl B.bv afr (qv 0))) (qY (am (kG _ _ _ U) (qv 0) (qv 1) (xn _))))))) zc) (qa (zx (bG (oK (N_ U (aD .list rfl B.bc rfl B.bd aC (qv 1)) (aD .list rfl B.bc rfl B.bd aC (qv 0))) (iV (N_ U (aD .tuple rfl B.bc rfl B.bg dt (qv 1)) (aD .tuple rfl B.bc rfl B.bg dt (qv 0)))))) (qe (qx ah)) zc) (qa (zx (N_ U (L_ B.ba (qv 0)) (L_ B.ba (qv 1))) (qe (qx ah)) zc) (qa (wu DT rfl (bY rfl B.bf (jx (L_ B.ba (qv 1)))) (G_ 2 j) (qe (zx (fh (a8 (C_ J g (ky (I_ (qv 0) (qv 2)) (I_ (qv 1) (qv 2)))))) (qe (qx ah)) zc))) (qe (qx ah))))))))) 124⟩
abbrev c40(V:V_):Prop:=c39 V/\Q_ V 2 "_law_within" [ng,ny] (hJ)
theorem d40(V:V_)(B:B_ V)(c:c39 V):c40 V:=⟨c,M_ V 1 [ng,ny,nF] B.hp B.D39 yj λ_ _ _ _ _ _ _ U J g=>(qa (bZ DT (bG (db (N_ g (C_ c.1.1.1.1.1.1.1.1.1.1.1.2 U (jx (qv 0))) (zd xa)) (bN (ju y4 (ql jm (qv 1) qf) qf (xn _))))) (qa (S_ 2 J (C_ c.1.1.1.1.1.1.1.1.1.1.1.2 U (jx (qv 0)))) (qa (S_ 0 J (I_ (qv 2) (ql jm (ql vm (qv 1) qf) (L_ B.ba (qv 2))))) (qe (S_ 1 J (ql jm (ql gm (qv 1) qf) qf)))))) (qe (qx (qv 0))))⟩
abbrev c41(V:V_):Prop:=c40 V/\Q_ V 3 "_law_part" [nh,ng,nr] (kM)
theorem d41(V:V_)(B:B_ V)(c:c40 V):c41 V:=⟨c,M_ V 2 [nh,ng,nr,nU] B.hp B.D40 abw λ_ _ _ _ _ _ _ J U g=>(qa (zx (N_ g (ql jm (ql vm (qv 2) qf) qf) qf) (qe (qx (zw (ky (qv 0) (qv 1))))) zc) (qa (S_ 1 U (C_ c.2 J (ky (qv 1) (ql jm (ql gm (qv 2) qf) qf)))) (qa (cx (i:=3) U rfl (Or.inr rfl) (I_ (C_ c.1.1.1.1.1.1.1.1.1.1.1.2 J (jx (qv 1))) qf)) (qe (qx (zw (ky (lZ [nH] (EO (by rfl)) rfl (bY rfl B.bf (jx (L_ B.ba (qv 0)))) (wg nd_ (λ_ _ _ _=>Or.inl rfl) (λ_ _ _ _=>rfl)) (λ_ _ _ _=>pi) (λ_ _ _ _=>(dX (ju (anw g) (qv 4) (qv 3) (by with_unfolding_all rfl)) (I_ (qv 0) (qv 4)) aA))) (qv 1))))))))⟩
abbrev c42(V:V_):Prop:=c41 V/\Q_ V 5 "_law_place" [nh,ng,ny] (hW)
theorem d42(V:V_)(B:B_ V)(c:c41 V):c42 V:=⟨c,M_ V 4 [nh,ng,ny,"_law_some",nj] B.hp B.D41 xU λ_ _ _ _ _ _ _ g J U=>(qa (S_ 3 J (C_ c.1.1.1.2 g (aS (qv 0) (qv 1) (am pD (ql jm (qv 2) qf) qf (xn _))))) (qa (zx (bG (db (ju pD (ql jm (qv 2) qf) qf (xn _)) (bN (N_ U (qv 3) (zd xa))))) (qe (qx (I_ (qv 3) (ql jm (ql vm (qv 2) qf) (L_ B.ba (qv 3)))))) zc) (qa (S_ 4 J (C_ c.1.1.1.1.2 g (ky (qv 1) (ql jm (ql gm (qv 2) qf) qf)))) (kz (zx (E_ U (ql jm (ql vm (qv 2) qf) qf) qf) (qe (S_ 4 J (ql x9 (qv 4) (zd (jx (qL (jv (gd gx qf) (jv qf (aS qf (ql ae4 qf qf) qf))) (ql jm (ql vm (qv 2) qf) qf) (yR (yR (vL _) (xS _)) (xS _)) (λ_ _=>rfl))))))) zc) (kz (zx (E_ U (ql jm (ql vm (qv 2) qf) qf) qf) (qe (S_ 4 J (ql x9 (zd (jx (qL (jv (gd gx qf) (aS (gd gx qf) qf qf)) (ql jm (ql vm (qv 2) qf) qf) (yR (yR (vL _) (xS _)) (xS _)) (λ_ _=>rfl)))) (qv 4)))) zc) (qe (qx (zw (ky (qv 4) (qL (jv qf (jv qf (jv qf (jv qf (jv (gd gx qf) (aS qf (ql ae4 qf qf) (gd gx qf))))))) (ql jm (ql vm (qv 2) qf) qf) (yR (yR (vL _) (xS _)) (xS _)) (λ_ _=>rfl)))))))))))⟩
abbrev c43(V:V_):Prop:=c42 V/\Q_ V 2 "_law_stands" [ng,nj] (fq)
theorem d43(V:V_)(B:B_ V)(c:c42 V):c43 V:=⟨c,M_ V 1 [ng,nj,"_law_a",nF] B.hp B.D42 u6 λ_ _ _ _ _ _ _ U J g=>(qa (wu DT rfl (w4 (qv 1)) (G_ 2 J) (qa (S_ 3 J (C_ c.1.1.1.1.1.1.1.1.1.1.1.1.1.1.2 U (jx (qv 0)))) (qa (zx (bG (oK (ju pD (qv 2) qf (xn _)) (iV (ju aof (qv 2) (L_ B.ba (qv 3)) (xn _))))) (qe (qx ah)) zc) (qe (S_ 0 J (I_ (qv 3) (qv 2))))))) (qe (qx ah)))⟩
abbrev c44(V:V_):Prop:=c43 V/\Q_ V 128 "_law_due" [nh,ng,nj,nq] (qS)
theorem d44(V:V_)(B:B_ V)(c:c43 V):c44 V:=⟨c,M_ V 127 [nh,ng,nj,nq,nv,nG] B.hp B.D43 af5 λ_ _ _ _ _ _ _ J U g=>(qa (zx (fh (a8 (C_ c.2 J (ky (qv 1) (qv 2))))) (qe (qx aA)) zc) (qa (S_ 4 U (C_ c.1.1.1.1.1.1.1.1.2 J (ky (qv 1) (qv 2)))) (qa (S_ 5 U (C_ c.1.1.1.1.1.1.1.1.1.1.1.2 J (aS (qv 0) (qv 4) (qv 3)))) (qa (zx (cz (qv 5)) (qe (qx aA)) zc) (qe (qx (zw (ky (qv 0) (C_ c.1.1.1.1.1.1.1.2 J (aS (qv 1) (qv 2) (C_ c.1.1.1.1.1.1.1.1.1.2 J (aS (qv 4) (qv 3) (qv 5)))))))))))))⟩
abbrev c45(V:V_):Prop:=c44 V/\Q_ V 127 nX [nE,nj,nq] (ff)
theorem d45(V:V_)(B:B_ V)(c:c44 V):c45 V:=⟨c,M_ V 126 [nE,nj,nq,nL,"error"] B.hp B.D44 (u5 B.xf) λ_ _ _ _ _ _ _ U J g=>(qa (S_ 3 J aA) (qa (akp (i:=4) rfl rfl rfl J rfl rfl rfl B.mf (ahc (c.1.1.1.1.1.1.1.1.1.1.1.1.1.1.1.1.1.1.1.1.1.1.1.1.1.1.1.1.1.1.2.mono (by decide)) U rfl rfl (λ_ _=>(aS (qv 0) (qv 1) (qv 2)))) (λ_=>(qe (S_ 3 J (qv 4))))) (qa (zx (bG (oK (fh (a8 (rh rfl B.bc (qv 3) (bP rfl B.md) rfl))) (iV (fh (a8 (rh rfl B.bc (qv 3) (aif rfl B.b_ValueError m7) rfl)))))) (qe (qx ah)) zc) (qe (qx (ae7 (yd rfl B.bc (qv 3) (aB (bP rfl B.my) (aB (bP rfl B.mi) (aB (bP rfl B.mn) (aB (bP rfl B.mm) (aB (bP rfl B.mv) (aB (bP rfl B.mw) (aB (bP rfl B.mx) (aB (bP rfl B.mh) (aB (bP rfl B.mj) agq))))))))) rfl (Bj rfl))))))))⟩
theorem dL(V:V_)(B:B_ V)(c:c45 V){f:Addr}{fd:FuncData}(F:Fun V.K "law" "law" rO f fd):Fn3 V.P V.w V.K V.mg V.base 130 f fd [nM] (qI V.Pt lamQ):=
 W_ V 129 [nM,nr,ny,nh,ng,nj,nq,nS,nE,nU,nL] F aa8 λ_ _ _ _ _ _ U J g=>(qa (S_ 1 J (ql jm (I_ (ql (adz _ _ _) (qv 0) (zd (jx qf))) qf) (ql ae4 qf qf))) (qa (S_ 2 J (ql jm (I_ (ql (adz _ _ _) (qv 0) (zd (ky qf qf))) qf) qf)) (qa (cf (C_ c.1.1.1.1.1.1.1.1.1.1.1.1.1.1.1.1.1.1.2 U (aS (vg (r9 _ _ _) (qv 0) (vn qf) wo) (qv 1) qf)) (aO rfl (zo (G_ 3 J) (zo (G_ 4 J) kj)))) (qa (cf (C_ c.1.1.1.1.2 U (aS (qv 3) (qv 4) (qv 1))) (aO rfl (zo (G_ 3 J) (zo (G_ 4 J) kj)))) (qa (cf (C_ c.1.1.1.2 U (aS (qv 3) (qv 4) (qv 2))) (aO rfl (zo (G_ 5 J) (zo (G_ 6 J) kj)))) (qa (S_ 7 J (C_ c.1.2 U (jv (qv 3) (aS (qv 4) (qv 5) (qv 6))))) (qa (S_ 8 J (zw (ky (aE az rfl B.bd aC (jx (qv 3))) (qv 4)))) (qa (S_ 9 J (aE az rfl B.bd aC (jx (qv 5)))) (qa (zx (cz (qv 7)) (qe (qx (iM (C_ c.2 U (aS (qv 8) (qv 9) (qv 6))) (iM (am (kG _ _ _ g) (J_ 8) (qv 3) (xn _)) (qY (am (kG _ _ _ g) (qv 9) (qv 5) (xn _))))))) zc) (qa (S_ 10 J aA) (qa (agr rfl rfl rfl rfl B.md (alv (i:=10) (c.1.1.1.1.1.1.1.1.1.1.1.1.1.1.1.1.1.1.1.1.1.1.1.1.1.1.1.1.1.1.1.2.mono (by decide)) U rfl rfl J rfl (Or.inl rfl) (λ_ _=>(aS (qv 8) (qv 9) (qv 6)))) (λ_=>(qe (S_ 10 J aA)))) (qa (zx (fh (a8 (C_ c.1.1.1.1.1.1.2 U (ky (qv 10) (qv 7))))) (qe (qx ah)) zc) (qa (zm (zh (J_ 10) (jx aA))) (qa (zx (fh (a8 (C_ c.1.1.1.1.1.1.2 U (ky (vS (c.1.1.1.1.1.1.1.1.1.1.1.1.1.1.1.1.1.1.1.1.1.1.1.1.1.1.1.1.1.1.1.2.mono (by decide)) U rfl ak1 rfl (aS (qv 8) (qv 9) (qv 6))) (qv 7))))) (qe (qx ah)) zc) (qe (qx (iM (am (kG _ _ _ g) (J_ 8) (qv 3) (xn _)) (qY (am (kG _ _ _ g) (qv 9) (qv 5) (xn _))))))))))))))))))))
theorem all_mk{l:PySem.W.OpenLaw}{w:World}{K:Ad}{h:Heap}{mg:Str->Option Value}{fa:Addr}{U:Addr}{a3:Option Addr}{a4:Nat}{a5:Array (Option Value)}{a1 a2:Tok}{J:Addr}{T:Nat}{g j o p r t C I:Tok}{Ca:Addr}{Cj:Addr}{Cf:Addr}{Ci:Addr}{Ce:Addr}{Cb:Addr}{Ck:Addr}{Cd:Addr}{Cg:Addr}{Ch:Addr}{Cc:Addr}{Pt:Addr}(X:K.In h)(G:h.Ns mainGlobals mg)(ag:mg "law"=some (.ref fa))
 (D0:qz K "is_leaf" o6)
 (D1:qz K "parts_of" lu)
 (D2:qz K "places_of" jC)
 (D3:qz K "arms_of" oX)
 (D4:qz K "rules_in" kE)
 (D5:qz K "told_by" oJ)
 (D6:qz K "taken_by" lO)
 (D7:qz K "with_arm" lQ)
 (D8:qz K "all_told" lE)
 (D9:qz K "arm_that_tells" bW)
 (D10:qz K "turned_out" gY)
 (D11:qz K "arm_at" rj)
 (D12:qz K "rules_along" fM)
 (D13:qz K "exchanged" iw)
 (D14:qz K "_law_mix" lW)
 (D15:qz K "_law_name" i8)
 (D16:qz K "_law_word" ip)
 (D17:qz K "_law_flip" jA)
 (D18:qz K "_law_weight" fH)
 (D19:qz K "_law_mirror" fP)
 (D20:qz K "_law_join" jG)
 (D21:qz K "_law_fold" iy)
 (D22:qz K "_law_cut" kU)
 (D23:DefInT K "_law_order" s__law_order Pt)
 (D24:qz K "_law_moved" gv)
 (D25:qz K nV dw)
 (D26:qz K "_law_tree" ie)
 (D27:qz K "_law_arms" jB)
 (D28:qz K nR dJ)
 (D29:qz K "_law_ends" jI)
 (D30:qz K "_law_needs" gU)
 (D31:qz K "_law_goes" io)
 (D32:qz K nW eE)
 (D33:qz K "_law_about" gL)
 (D34:qz K "_law_at" oU)
 (D35:qz K "_law_put_at" fW)
 (D36:qz K nN cU)
 (D37:qz K "_law_pairs" gu)
 (D38:qz K "_law_alike" gq)
 (D39:qz K "_law_within" fI)
 (D40:qz K "_law_part" iz)
 (D41:qz K "_law_place" gE)
 (D42:qz K "_law_stands" fU)
 (D43:qz K "_law_due" kY)
 (D44:qz K nX dy)
 (D45:qz K "law" rO)
 (aLEAF_KINDS:PySem.W.nsIn K mainGlobals "LEAF_KINDS"=some (some (.ref U)))
 (lLEAF_KINDS:K.lookup U=some ⟨.type "tuple",a3,.seq #[.str "plain" a1,.str "turned" a2] a4,a5⟩)
 (aPLACE_COUNTS:PySem.W.nsIn K mainGlobals "PLACE_COUNTS"=some (some (.ref J)))
 (lPLACE_COUNTS:K.lookup J=some ⟨.type "dict",none,.dict ((([("link",g,2,r),("either",j,1,t),("both",o,1,C),("cut",p,2,I)]:List (Str×Tok×Int×Tok)).map (afv w)).toArray) T,#[]⟩)
 (hPLACE_COUNTS:(J==sysModules)=false)
 (aCNoExchange:PySem.W.nsIn K mainGlobals "NoExchange"=some (some (.ref Ca)))
 (aCOnceError:PySem.W.nsIn K mainGlobals "OnceError"=some (some (.ref Cj)))
 (aCBadChoices:PySem.W.nsIn K mainGlobals "BadChoices"=some (some (.ref Cf)))
 (aCBadText:PySem.W.nsIn K mainGlobals "BadText"=some (some (.ref Ci)))
 (aCBadTree:PySem.W.nsIn K mainGlobals "BadTree"=some (some (.ref Ce)))
 (aCBadWeb:PySem.W.nsIn K mainGlobals "BadWeb"=some (some (.ref Cb)))
 (aCNoCut:PySem.W.nsIn K mainGlobals "NoCut"=some (some (.ref Ck)))
 (aCNoTree:PySem.W.nsIn K mainGlobals "NoTree"=some (some (.ref Cd)))
 (aCNoWord:PySem.W.nsIn K mainGlobals "NoWord"=some (some (.ref Cg)))
 (aCOtherWeb:PySem.W.nsIn K mainGlobals "OtherWeb"=some (some (.ref Ch)))
 (aCTooMany:PySem.W.nsIn K mainGlobals "TooMany"=some (some (.ref Cc)))
 (qCNoExchange:PySem.W.excIn K Ca [.type "ValueError",.type "Exception",.type "BaseException",.type "object"] "ValueError.__new__"=true)
 (xf:L3.XF05 K Cj Ca Cf Ci Ce Cb Ck Cd Cg Ch Cc)
 (zlist:PySem.W.nsIn K mainGlobals "list"=some none)
 (zenumerate:PySem.W.nsIn K mainGlobals "enumerate"=some none)
 (zall:PySem.W.nsIn K mainGlobals "all"=some none)
 (zlen:PySem.W.nsIn K mainGlobals "len"=some none)
 (zzip:PySem.W.nsIn K mainGlobals "zip"=some none)
 (zreversed:PySem.W.nsIn K mainGlobals "reversed"=some none)
 (zrange:PySem.W.nsIn K mainGlobals "range"=some none)
 (zmax:PySem.W.nsIn K mainGlobals "max"=some none)
 (zsorted:PySem.W.nsIn K mainGlobals "sorted"=some none)
 (zmin:PySem.W.nsIn K mainGlobals "min"=some none)
 (zisinstance:PySem.W.nsIn K mainGlobals "isinstance"=some none)
 (zint:PySem.W.nsIn K mainGlobals "int"=some none)
 (ztuple:PySem.W.nsIn K mainGlobals "tuple"=some none)
 (zstr:PySem.W.nsIn K mainGlobals "str"=some none)
 (zbool:PySem.W.nsIn K mainGlobals "bool"=some none)
 (zValueError:PySem.W.nsIn K mainGlobals "ValueError"=some none):
 ∃fd:FuncData,(∀(s:Shared) (v:Value),BindsTo s fd ⟨[v],[]⟩ [(nM,v)])/\∀base:Heap,K.In base->base.Ns mainGlobals mg->bA l.prog w K mg base CX0 130 fa fd [nM] (spTopT lamQ K Pt):=by
 obtain⟨fL,kV,al,pm,an,au,ct,aL,FL⟩:=D45.ex;have e:=ag.symm.trans (Bg X G aL);cases e;refine⟨PySem.W.fnOf "law" "law" (vd rO) (jh rO) (qy rO) .none kV al pm an au ct,λs v=>.of_eq rfl,λbase _ _=>?_⟩;have B:B_ ⟨l.prog,w,K,mg,base,Pt,Ca,Cj,Cf,Ci,Ce,Cb,Ck,Cd,Cg,Ch,Cc⟩:=⟨⟨h,X,G⟩,A2 X G zlist,A2 X G zenumerate,A2 X G zall,A2 X G zlen,A2 X G zzip,A2 X G zreversed,A2 X G zrange,A2 X G zmax,A2 X G zsorted,A2 X G zmin,A2 X G zisinstance,A2 X G zint,A2 X G ztuple,A2 X G zstr,A2 X G zbool,A2 X G zValueError,D0,D1,D2,D3,D4,D5,D6,D7,D8,D9,D10,D11,D12,D13,D14,D15,D16,D17,D18,D19,D20,D21,D22,D23,D24,D25,D26,D27,D28,D29,D30,D31,D32,D33,D34,D35,D36,D37,D38,D39,D40,D41,D42,D43,D44,⟨U,Bg X G aLEAF_KINDS,λH=>⟨U,[V.str "plain",V.str "turned"],rfl,.inr ⟨_,_,_,lLEAF_KINDS,rfl,rfl,by show 2<=sizeLine;decide,.cons ⟨_,rfl⟩ (.cons ⟨_,rfl⟩ (.nil))⟩,⟨_,_,rfl,rfl,⟨_,_,rfl,rfl,rfl⟩⟩⟩⟩,⟨J,Bg X G aPLACE_COUNTS,ajq _ lPLACE_COUNTS hPLACE_COUNTS (by show 4<=1000;decide) (by show List.Nodup ([Sum.inr "link",Sum.inr "either",Sum.inr "both",Sum.inr "cut"]:List jf);decide +kernel)⟩,Bg X G aCNoExchange,Bg X G aCOnceError,Bg X G aCBadChoices,Bg X G aCBadText,Bg X G aCBadTree,Bg X G aCBadWeb,Bg X G aCNoCut,Bg X G aCNoTree,Bg X G aCNoWord,Bg X G aCOtherWeb,Bg X G aCTooMany,tw qCNoExchange,xf⟩;exact bA.imp (dL _ B (d45 _ B (d44 _ B (d43 _ B (d42 _ B (d41 _ B (d40 _ B (d39 _ B (d38 _ B (d37 _ B (d36 _ B (d35 _ B (d34 _ B (d33 _ B (d32 _ B (d31 _ B (d30 _ B (d29 _ B (d28 _ B (d27 _ B (d26 _ B (d25 _ B (d24 _ B (d23 _ B (d22 _ B (d21 _ B (d20 _ B (d19 _ B (d18 _ B (d17 _ B (d16 _ B (d15 _ B (d14 _ B (d13 _ B (d12 _ B (d11 _ B (d10 _ B (d9 _ B (d8 _ B (d7 _ B (d6 _ B (d5 _ B (d4 _ B (d3 _ B (d2 _ B (d1 _ B trivial))))))))))))))))))))))))))))))))))))))))))))) FL) λvs H Q E q=>ai2 q
theorem def_inT{K:Ad}{x:Str}{st:Stmt}{f Pt:Addr}{oc:Value}{od an:Option Addr}{sy:Array (Option Value)}{kV gh pm fm ct:Value}(a:PySem.W.nsIn K mainGlobals x=some (some (.ref f)))
 (l:K.lookup f=some ⟨oc,od,.func (PySem.W.fnOf x x (vd st) (jh st) (qy st) .none kV gh pm an fm ct),sy⟩) (c:PySem.W.codeIn K fm x=true) (k:PySem.W.keepIn K (.ref f)=true) (C:xK K fm Pt):DefInT K x st Pt:=
 ⟨f,kV,gh,pm,an,fm,ct,a,⟨⟨oc,od,kV,gh,pm,an,fm,ct,sy,rfl,l,c,C⟩,k⟩⟩
end K61
namespace H61
noncomputable section
open PySem PySem.W PySem.W.X L2 L3 PyProof.Rows
abbrev rr:=PySem.Challenge.rw_oncewise_k61_one_exchange
abbrev p:Program:=PySem.Challenge.pw_oncewise_k61_one_exchange
abbrev top:=K61.top
abbrev anu(i k:Nat):Stmt:=(aez (top i)).getD k (.Pass ⟨0,0,0,0⟩)
abbrev s(x:String):Str:=Str.ofString x
noncomputable abbrev S (x:String) (t:Tok):Value:=.str (Str.ofString x) t
noncomputable abbrev I (i:Int) (t:Tok):Value:=.int i t
noncomputable abbrev R (a:Addr):Value:=.ref a
abbrev E(P:Params)(k:String)(t:Tok)(v:Value):DictEntry:=⟨PyData.keyHash P (Str.ofString k),.str (Str.ofString k) t,v⟩
noncomputable abbrev O (c:Value) (d:Data):Obj:=⟨c,none,d,#[]⟩
abbrev FN(n q:String)(st:Stmt)(J kV gh pm:Value)(an:Option Addr)(cd ct:Value):FuncData:=fnOf (Str.ofString n) (Str.ofString q) (vd st) (jh st) (qy st) J kV gh pm an cd ct
abbrev FG(n q:String)(st:Stmt):FuncData:={ fnOf (Str.ofString n) (Str.ofString q) (vd st) (jh st) (qy st) .none .none .none .none none .none .none with globals:=0 }
abbrev tu(l:Array Value):Obj:=O (.type "tuple") (.seq l 0)
abbrev fo(f:FuncData):Obj:=O (.type "function") (.func f)
abbrev go(f:FuncData):Obj:=O .none (.func f)
abbrev co(n q:String)(t l a b c fl v:Nat)(o:Bool)(m k:Nat)(x y z u:Value)(d:Nat):Obj:=O (.type "code") (.fields #[S n t,S q (t+1),S "/claim/cut.py" (t+2),I l 0,I a 0,I b 0,I c 0,I fl 0,R v,.bool o,I m 0,R k,x,y,z,u,I d 0,I l 0,S "/claim/cut.py" (d+1)])
abbrev fV:Value:=S "law_oncewise_k61_one_exchange" 519
abbrev m1_:Value:=S "oncewise.exchanging" 449
abbrev m2_:Value:=S "oncewise.trees" 398
abbrev fX(n:String)(i:Nat)(m:Value)(r:Nat):Obj:=fo (FN n n (top i) .none .none .none m none (R r) .none)
abbrev gX(n:String)(i:Nat):Obj:=go (FG n n (top i))
abbrev cF(n:String)(t l a v d:Nat):Obj:=co n n t l a 0 0 3 v true 181 (v+1) .none (R (v+2)) (R (v+3)) (R (v+4)) d
abbrev cC(n:String)(t l v d:Nat):Obj:=co n n t l 0 0 0 0 v false 181 (v+1) .none .none .none .none d
abbrev cS(n:String)(a J k t v:Nat):Obj:=⟨.type "type",none,.cls (ClassData.mk (s n) [R 24] [R a,R 24,.type "ValueError",.type "Exception",.type "BaseException",.type "object"] J (s n) true [] [] false none false),#[some (R k),none,some (S n t),some (S n v),some (.builtin "ValueError.__new__"),some (.bool true)]⟩
abbrev dA(P:Params)(a b:Nat)(l:Int)(c d r e:Nat):Obj:=O (.type "dict") (.dict #[E P "__module__" a (S "oncewise.errors" 187),E P "__firstlineno__" b (I l c),E P "__static_attributes__" d (R r),E P "__doc__" e .none] 2)
abbrev dB(P:Params)(a q:Nat)(n:String)(J b:Nat)(l:Int)(c d r:Nat):Obj:=O (.type "dict") (.dict #[E P "__module__" a (S "oncewise.errors" 187),E P "__qualname__" q (S n J),E P "__firstlineno__" b (I l c),E P "__static_attributes__" d (R r)] 4)
abbrev fR(a b:Nat):Obj:=⟨.type "frame",none,.plain,#[some (R a),some (R 3),some (R b),none,some (S "oncewise.errors" 187),none,some (R 0)]⟩
abbrev bI(a:Nat):Obj:=O (.type "builtin_function_or_method") (.fields #[.builtin "object.__init_subclass__",R a])
abbrev sU(a:Nat):Obj:=O (.type "super") (.fields #[R a,R a,R a])
abbrev Ob:=Params->Obj
def ev{α:Type}:Bool->List α->List α
 |_,[]=>[]
 |true,x::r=>x::ev false r
 |false,_::r=>ev true r
def bt:Nat->List Obj->BT
 |0,_=>.nil
 |_,[]=>.nil
 |n+1,x::r=>.node x (bt n (ev true r)) (bt n (ev false r))
def env0:Env:={ scope:=p.main.scope,locals:=mainNs,globals:=mainNs,cells:=[],code:=.ref 13,frame:=some 14 }
abbrev cE:Code:=.body (behindTheImports p) env0
abbrev q0:Pos:=⟨0,0,0,0⟩
abbrev an:Option Value:=some (.ref 6)
abbrev Pc(n:Nat)(S J:World->OsState->SharedT)(l:List Stmt)(q U:Pos)(w:World):Prop:=(λos=>segRunT treeTable p w 11 an 1 n (S w os) (piecesOf l env0 cE q [topFrame q0]))=λos=>some (Flow.next,J w os,cE,U)
abbrev b0:=PySem.W.boot_o_0
abbrev b1:=PySem.W.boot_o_1
abbrev b2:=PySem.W.boot_o_2
abbrev b3:=PySem.W.boot_o_3
abbrev b4:=PySem.W.boot_o_4
abbrev b5:=PySem.W.boot_o_5
abbrev b6:=PySem.W.boot_o_6
abbrev b7:=PySem.W.boot_o_7
abbrev b8:=PySem.W.boot_o_8
abbrev b9:=PySem.W.boot_o_9
abbrev b10:=PySem.W.boot_o_10
def jp:Ob:=λ_=>tu #[]
def w9:Ob:=λ_=>O .none (.fields #[])
def xac:Ob:=λ_=>cC "<module>" 182 1 11 185
def xad:Ob:=λ_=>⟨(.type "frame"),none,.plain,#[(some (R 13)),(some (R 3)),(some (R 3)),none,(some (S "__main__" 164)),none,(some (R 0))]⟩
def xaf:Ob:=λ_=>tu #[(.type "ValueError")]
def xag:Ob:=λP=>O (.type "dict") (.dict #[(E P "__module__" 196 (S "oncewise.errors" 187)),(E P "__firstlineno__" 200 (I 2 199)),(E P "__static_attributes__" 201 (R 22)),(E P "__weakref__" 203 (R 25)),(E P "__doc__" 204 .none)] 3)
def xah:Ob:=λ_=>bI 24
def xai:Ob:=λP=>dB P 196 198 "OnceError" 197 200 2 199 201 22
def xaj:Ob:=λ_=>O (.type "getset_descriptor") (.fields #[S "__weakref__" 202,R 24,(.builtin "ExceptionGroup.__weakref__"),.none])
def xak:Ob:=λ_=>fR 20 17
def pZ:Ob:=λ_=>O (.type "builtin_function_or_method") (.fields #[(.builtin "type.__prepare__"),(.type "type")])
def xao:Ob:=λ_=>cC "OnceError" 191 2 18 194
def xap:Ob:=λ_=>sU 24
def xar:Ob:=λ_=>bI 37
def xas:Ob:=λ_=>cC "NoWord" 209 4 31 212
def xat:Ob:=λ_=>cS "NoWord" 37 36 28 207 215
def xaw:Ob:=λP=>dA P 214 218 4 217 219 35 220
def rq:Ob:=λ_=>tu #[R 24]
def xay:Ob:=λ_=>fR 33 30
def xaz:Ob:=λ_=>sU 37
def xa0:Ob:=λP=>dB P 214 216 "NoWord" 215 218 4 217 219 35
def xa2:Ob:=λ_=>bI 49
def xa3:Ob:=λ_=>cS "BadText" 49 48 40 223 231
def xa4:Ob:=λ_=>cC "BadText" 225 6 43 228
def xa5:Ob:=λP=>dA P 230 234 6 233 235 47 236
def xa8:Ob:=λ_=>sU 49
def xa9:Ob:=λP=>dB P 230 232 "BadText" 231 234 6 233 235 47
def xba:Ob:=λ_=>fR 45 42
def xbc:Ob:=λ_=>bI 61
def xbd:Ob:=λ_=>cC "BadWeb" 241 8 55 244
def xbe:Ob:=λ_=>cS "BadWeb" 61 60 52 239 247
def xbh:Ob:=λP=>dA P 246 250 8 249 251 59 252
def xbi:Ob:=λ_=>fR 57 54
def xbj:Ob:=λP=>dB P 246 248 "BadWeb" 247 250 8 249 251 59
def xbk:Ob:=λ_=>sU 61
def xbm:Ob:=λ_=>bI 73
def xbn:Ob:=λ_=>cS "BadTree" 73 72 64 255 263
def xbo:Ob:=λ_=>cC "BadTree" 257 10 67 260
def xbq:Ob:=λP=>dA P 262 266 10 265 267 71 268
def xbs:Ob:=λP=>dB P 262 264 "BadTree" 263 266 10 265 267 71
def xbt:Ob:=λ_=>sU 73
def xbu:Ob:=λ_=>fR 69 66
def xbw:Ob:=λ_=>bI 85
def xbx:Ob:=λ_=>cC "BadChoices" 273 12 79 276
def xby:Ob:=λ_=>cS "BadChoices" 85 84 76 271 279
def xb1:Ob:=λP=>dA P 278 282 12 281 283 83 284
def xb2:Ob:=λ_=>fR 81 78
def xb3:Ob:=λ_=>sU 85
def xb4:Ob:=λP=>dB P 278 280 "BadChoices" 279 282 12 281 283 83
def xb6:Ob:=λP=>O (.type "dict") (.dict #[(E P "__module__" 294 (S "oncewise.errors" 187)),(E P "__firstlineno__" 298 (I 14 297)),(E P "__init__" 307 (R 101)),(E P "__static_attributes__" 309 (R 102)),(E P "__doc__" 310 .none)] 2)
def xb7:Ob:=λ_=>go (FG "__init__" "NoTree.__init__" (anu 7 0))
def xb8:Ob:=λ_=>tu #[S "self" 302,S "words" 303,S "choices" 304]
def xb9:Ob:=λ_=>sU 104
def xca:Ob:=λ_=>fo (FN "__init__" "NoTree.__init__" (anu 7 0) .none .none .none (S "oncewise.errors" 187) none (R 100) .none)
def xcb:Ob:=λ_=>cC "NoTree" 289 14 91 292
def xcd:Ob:=λ_=>cS "NoTree" 104 103 88 287 295
def xcf:Ob:=λ_=>co "__init__" "NoTree.__init__" 299 16 3 0 0 3 95 true 181 96 .none (R 97) (R 98) (R 99) 305
def xcg:Ob:=λ_=>O .none (.fields #[I 16 0,I 4 0,R 100])
def xch:Ob:=λ_=>bI 104
def xci:Ob:=λP=>O (.type "dict") (.dict #[(E P "__module__" 294 (S "oncewise.errors" 187)),(E P "__qualname__" 296 (S "NoTree" 295)),(E P "__firstlineno__" 298 (I 14 297)),(E P "__init__" 307 (R 101)),(E P "__static_attributes__" 309 (R 102))] 5)
def xcj:Ob:=λ_=>tu #[S "choices" 308]
def xck:Ob:=λ_=>fR 93 90
def xcm:Ob:=λP=>dA P 320 324 19 323 325 114 326
def xcn:Ob:=λ_=>fR 112 109
def xco:Ob:=λ_=>sU 116
def xcp:Ob:=λP=>dB P 320 322 "NoCut" 321 324 19 323 325 114
def xcq:Ob:=λ_=>cC "NoCut" 315 19 110 318
def xct:Ob:=λ_=>cS "NoCut" 116 115 107 313 321
def xcu:Ob:=λ_=>bI 116
def xcw:Ob:=λP=>dA P 336 340 21 339 341 126 342
def xc0:Ob:=λ_=>cS "NoExchange" 128 127 119 329 337
def xc6:Ob:=λP=>dA P 352 356 23 355 357 138 358
def xdd:Ob:=λ_=>cS "OtherWeb" 140 139 131 345 353
def xdh:Ob:=λP=>dA P 368 372 25 371 373 150 374
def xdi:Ob:=λ_=>tu #[S "plain" 379,S "turned" 380]
def xdj:Ob:=λ_=>cF "is_leaf" 382 29 1 156 386
def xdl:Ob:=λ_=>fo (FN "parts_of" "parts_of" (top 16) .none .none .none (S "oncewise.webs" 389) none (R 168) .none)
def xdq:Ob:=λ_=>⟨(.type "type"),none,(.cls (ClassData.mk (s "OnceError") [(.type "ValueError")] [R 24,(.type "ValueError"),(.type "Exception"),(.type "BaseException"),(.type "object")] 23 (s "OnceError") true [] [R 37,R 49,R 61,R 73,R 85,R 104,R 116,R 128,R 140,R 152] false none false)),#[(some (R 15)),none,(some (S "OnceError" 189)),(some (S "OnceError" 197)),(some (.builtin "ValueError.__new__")),(some (.bool true))]⟩
def xdr:Ob:=λ_=>cF "parts_of" 391 32 1 163 395
def xds:Ob:=λ_=>cS "TooMany" 152 151 143 361 369
def xdv:Ob:=λ_=>fo (FN "is_leaf" "is_leaf" (top 14) .none .none .none (S "oncewise.words" 377) none (R 161) .none)
def xdw:Ob:=λP=>O (.type "dict") (.dict #[(E P "link" 400 (I 2 401)),(E P "either" 402 (I 1 403)),(E P "both" 404 (I 1 405)),(E P "cut" 406 (I 2 407))] 4)
def xd0:Ob:=λ_=>fX "rules_in" 21 m2_ 190
def xd4:Ob:=λ_=>cF "arms_of" 420 40 1 178 424
def xd6:Ob:=λ_=>fX "rules_along" 30 m1_ 242
def xd7:Ob:=λ_=>fX "taken_by" 23 m2_ 202
def xd8:Ob:=λ_=>cF "arm_at" 487 79 2 230 493
def xeb:Ob:=λ_=>cF "with_arm" 451 59 3 204 458
def xec:Ob:=λ_=>fX "places_of" 19 m2_ 176
def xef:Ob:=λ_=>fX "all_told" 26 m1_ 216
def xeg:Ob:=λ_=>cF "exchanged" 506 89 3 244 516
def xeh:Ob:=λ_=>cF "told_by" 436 47 1 192 440
def xei:Ob:=λ_=>fX "turned_out" 28 m1_ 228
def xel:Ob:=λ_=>co "arm_that_tells" "arm_that_tells" 470 67 2 0 0 3 218 true 181 219 .none .none .none (R 220) 473
def xeo:Ob:=λ_=>cF "places_of" 413 38 1 171 417
def xeq:Ob:=λ_=>cF "all_told" 461 62 1 211 467
def xer:Ob:=λ_=>fX "arms_of" 20 m2_ 183
def xev:Ob:=λ_=>cF "turned_out" 476 73 3 223 484
def xex:Ob:=λ_=>fX "arm_at" 29 m1_ 235
def xe0:Ob:=λ_=>fX "with_arm" 25 m1_ 209
def xe1:Ob:=λ_=>cF "rules_along" 496 84 2 237 503
def xe2:Ob:=λ_=>co "taken_by" "taken_by" 443 49 2 0 0 3 199 true 181 200 .none .none .none (R 201) 446
def xe4:Ob:=λ_=>fX "exchanged" 31 m1_ 249
def xe5:Ob:=λ_=>fX "told_by" 22 m2_ 197
def xe9:Ob:=λ_=>fX "arm_that_tells" 27 m1_ 221
def xfa:Ob:=λ_=>cF "rules_in" 427 42 1 185 433
def xfd:Ob:=λ_=>fX "_law_moved" 43 fV 318
def xfe:Ob:=λ_=>fX "_law_join" 39 fV 294
def xfh:Ob:=λ_=>cF "_law_flip" 545 115 1 270 550
def xfi:Ob:=λ_=>fX "_law_cut" 41 fV 306
def xfk:Ob:=λ_=>fX "_law_weight" 37 fV 282
def xfl:Ob:=λ_=>fX "_law_mix" 33 fV 256
def xfm:Ob:=λ_=>cF "_law_mirror" 560 124 2 284 571
def xfq:Ob:=λ_=>cF "_law_order" 598 175 2 308 607
def xfr:Ob:=λ_=>co "_law_name" "_law_name" 530 101 2 0 0 3 258 true 181 259 .none .none .none (R 260) 533
def xfs:Ob:=λ_=>cF "_law_renamed" 616 188 3 320 626
def xfu:Ob:=λ_=>fX "_law_word" 35 fV 268
def xfv:Ob:=λ_=>cF "_law_fold" 580 145 4 296 589
def xfy:Ob:=λ_=>cF "_law_mix" 521 99 3 251 527
def xf5:Ob:=λ_=>fX "_law_flip" 36 fV 275
def xf6:Ob:=λ_=>cF "_law_word" 536 110 2 263 542
def xf9:Ob:=λ_=>fX "_law_mirror" 38 fV 289
def xgb:Ob:=λ_=>co "_law_cut" "_law_cut" 592 153 4 0 0 3 303 true 181 304 .none .none .none (R 305) 595
def xgd:Ob:=λ_=>cF "_law_weight" 553 120 1 277 557
def xge:Ob:=λ_=>fX "_law_order" 42 fV 313
def xgf:Ob:=λ_=>fX "_law_name" 34 fV 261
def xgg:Ob:=λ_=>fX "_law_renamed" 44 fV 325
def xgh:Ob:=λ_=>co "_law_join" "_law_join" 574 137 4 0 0 3 291 true 181 292 .none .none .none (R 293) 577
def xgj:Ob:=λ_=>fX "_law_fold" 40 fV 301
def xgl:Ob:=λ_=>co "_law_moved" "_law_moved" 610 183 2 0 0 3 315 true 181 316 .none .none .none (R 317) 613
def xgo:Ob:=λ_=>co "_law_ends" "_law_ends" 665 245 2 0 0 3 348 true 181 349 .none .none .none (R 350) 668
def xgp:Ob:=λ_=>fX "_law_drawn_way" 55 fV 398
def xgr:Ob:=λ_=>cF "_law_put_at" 717 291 3 386 723
def xgs:Ob:=λ_=>fX "_law_needs" 49 fV 358
def xgv:Ob:=λ_=>cF "_law_arms" 646 225 1 334 650
def xgw:Ob:=λ_=>fX "_law_put_arm" 51 fV 370
def xgz:Ob:=λ_=>co "_law_goes" "_law_goes" 680 266 3 0 0 3 360 true 181 361 .none .none .none (R 362) 683
def xg0:Ob:=λ_=>fX "_law_gathered" 47 fV 346
def xg1:Ob:=λ_=>fX "_law_at" 53 fV 384
def xg5:Ob:=λ_=>cF "_law_about" 697 283 3 372 705
def xg7:Ob:=λ_=>cF "_law_pairs" 736 303 3 400 748
def xg9:Ob:=λ_=>fX "_law_tree" 45 fV 332
def xhb:Ob:=λ_=>cF "_law_at" 708 287 2 379 714
def xhc:Ob:=λ_=>fX "_law_ends" 48 fV 351
def xhe:Ob:=λ_=>fX "_law_put_at" 54 fV 391
def xhj:Ob:=λ_=>fX "_law_arms" 46 fV 339
def xhk:Ob:=λ_=>cF "_law_tree" 629 196 3 327 643
def xhl:Ob:=λ_=>fX "_law_goes" 50 fV 363
def xho:Ob:=λ_=>cF "_law_put_arm" 686 278 3 365 694
def xhq:Ob:=λ_=>cF "_law_gathered" 653 231 1 341 662
def xhr:Ob:=λ_=>fX "_law_about" 52 fV 377
def xht:Ob:=λ_=>cF "_law_needs" 671 260 3 353 677
def xhu:Ob:=λ_=>fX "_law_pairs" 56 fV 405
def xhw:Ob:=λ_=>cF "_law_drawn_way" 726 295 2 393 733
def xhy:Ob:=λP=>O (.type "dict") (.dict #[(E P "__name__" 165 (S "law_oncewise_k61_one_exchange" 519)),(E P "__doc__" 166 .none),(E P "__package__" 167 .none),(E P "__loader__" 168 (.builtin "__main__.__loader__#opaque")),(E P "__spec__" 169 .none),(E P "__annotations__" 170 (R 6)),(E P "__builtins__" 171 (R 4)),(E P "__file__" 173 (S "/claim/cut.py" 172)),(E P "__cached__" 174 .none),(E P "OnceError" 206 (R 24)),(E P "NoWord" 222 (R 37)),(E P "BadText" 238 (R 49)),(E P "BadWeb" 254 (R 61)),(E P "BadTree" 270 (R 73)),(E P "BadChoices" 286 (R 85)),(E P "NoTree" 312 (R 104)),(E P "NoCut" 328 (R 116)),(E P "NoExchange" 344 (R 128)),(E P "OtherWeb" 360 (R 140)),(E P "TooMany" 376 (R 152)),(E P "LEAF_KINDS" 381 (R 155)),(E P "is_leaf" 388 (R 162)),(E P "parts_of" 397 (R 169)),(E P "PLACE_COUNTS" 412 (R 170)),(E P "places_of" 419 (R 177)),(E P "arms_of" 426 (R 184)),(E P "rules_in" 435 (R 191)),(E P "told_by" 442 (R 198)),(E P "taken_by" 448 (R 203)),(E P "with_arm" 460 (R 210)),(E P "all_told" 469 (R 217)),(E P "arm_that_tells" 475 (R 222)),(E P "turned_out" 486 (R 229)),(E P "arm_at" 495 (R 236)),(E P "rules_along" 505 (R 243)),(E P "exchanged" 518 (R 250)),(E P "_law_mix" 529 (R 257)),(E P "_law_name" 535 (R 262)),(E P "_law_word" 544 (R 269)),(E P "_law_flip" 552 (R 276)),(E P "_law_weight" 559 (R 283)),(E P "_law_mirror" 573 (R 290)),(E P "_law_join" 579 (R 295)),(E P "_law_fold" 591 (R 302)),(E P "_law_cut" 597 (R 307)),(E P "_law_order" 609 (R 314)),(E P "_law_moved" 615 (R 319)),(E P "_law_renamed" 628 (R 326)),(E P "_law_tree" 645 (R 333)),(E P "_law_arms" 652 (R 340)),(E P "_law_gathered" 664 (R 347)),(E P "_law_ends" 670 (R 352)),(E P "_law_needs" 679 (R 359)),(E P "_law_goes" 685 (R 364)),(E P "_law_put_arm" 696 (R 371)),(E P "_law_about" 707 (R 378)),(E P "_law_at" 716 (R 385)),(E P "_law_put_at" 725 (R 392)),(E P "_law_drawn_way" 735 (R 399)),(E P "_law_pairs" 750 (R 406)),(E P "_law_alike" 759 (R 413)),(E P "_law_within" 768 (R 420)),(E P "_law_part" 774 (R 425)),(E P "_law_place" 785 (R 432)),(E P "_law_stands" 795 (R 439)),(E P "_law_due" 807 (R 446)),(E P "_law_refused" 818 (R 453)),(E P "law" 835 (R 460))] 68)
def xhz:Ob:=λ_=>cF "_law_place" 775 340 3 426 783
def xh1:Ob:=λ_=>fX "_law_stands" 61 fV 438
def xh3:Ob:=λ_=>cF "_law_within" 760 328 2 414 766
def xh5:Ob:=λ_=>cF "law" 819 374 1 454 833
def xh8:Ob:=λ_=>fX "_law_part" 59 fV 424
def xia:Ob:=λ_=>fX "_law_refused" 63 fV 452
def xic:Ob:=λ_=>fX "_law_alike" 57 fV 412
def xid:Ob:=λ_=>cF "_law_due" 796 357 4 440 805
def xif:Ob:=λ_=>fX "_law_place" 60 fV 431
def xih:Ob:=λ_=>co "_law_part" "_law_part" 769 334 3 0 0 3 421 true 181 422 .none .none .none (R 423) 772
def xij:Ob:=λ_=>cF "_law_refused" 808 365 3 447 816
def xik:Ob:=λ_=>fX "_law_within" 58 fV 419
def xil:Ob:=λ_=>fX "law" 64 fV 459
def xin:Ob:=λ_=>cF "_law_alike" 751 313 2 407 757
def xis:Ob:=λ_=>cF "_law_stands" 786 350 2 433 793
def xiu:Ob:=λ_=>fX "_law_due" 62 fV 445
def aqx:List Ob:=[b0,b1,b2,b3,b4,b5,b6,b7,b8,b9,b10,jp,w9,xac,xad]
def ang:List Ob:=[b0,b1,b2,xhy,b4,b5,b6,b7,b8,b9,b10,jp,λ_=>O .none (.fields #[I 2 0,I 0 0,R 20,I 4 0,I 0 0,R 33,I 6 0,I 0 0,R 45,I 8 0,I 0 0,R 57,I 10 0,I 0 0,R 69,I 12 0,I 0 0,R 81,I 14 0,I 0 0,R 93,I 19 0,I 0 0,R 112,I 21 0,I 0 0,R 124,I 23 0,I 0 0,R 136,I 25 0,I 0 0,R 148,I 29 0,I 0 0,R 161,I 32 0,I 0 0,R 168,I 38 0,I 0 0,R 176,I 40 0,I 0 0,R 183,I 42 0,I 0 0,R 190,I 47 0,I 0 0,R 197,I 49 0,I 0 0,R 202,I 59 0,I 0 0,R 209,I 62 0,I 0 0,R 216,I 67 0,I 0 0,R 221,I 73 0,I 0 0,R 228,I 79 0,I 0 0,R 235,I 84 0,I 0 0,R 242,I 89 0,I 0 0,R 249,I 99 0,I 0 0,R 256,I 101 0,I 0 0,R 261,I 110 0,I 0 0,R 268,I 115 0,I 0 0,R 275,I 120 0,I 0 0,R 282,I 124 0,I 0 0,R 289,I 137 0,I 0 0,R 294,I 145 0,I 0 0,R 301,I 153 0,I 0 0,R 306,I 175 0,I 0 0,R 313,I 183 0,I 0 0,R 318,I 188 0,I 0 0,R 325,I 196 0,I 0 0,R 332,I 225 0,I 0 0,R 339,I 231 0,I 0 0,R 346,I 245 0,I 0 0,R 351,I 260 0,I 0 0,R 358,I 266 0,I 0 0,R 363,I 278 0,I 0 0,R 370,I 283 0,I 0 0,R 377,I 287 0,I 0 0,R 384,I 291 0,I 0 0,R 391,I 295 0,I 0 0,R 398,I 303 0,I 0 0,R 405,I 313 0,I 0 0,R 412,I 328 0,I 0 0,R 419,I 334 0,I 0 0,R 424,I 340 0,I 0 0,R 431,I 350 0,I 0 0,R 438,I 357 0,I 0 0,R 445,I 365 0,I 0 0,R 452,I 374 0,I 0 0,R 459]),xac,xad,xaf,pZ,xai,jp,w9,xao,xak,jp,xag,xdq,xaj,xap,xah,rq,pZ,xa0,jp,w9,xas,xay,jp,xaw,xat,xaz,xar,rq,pZ,xa9,jp,w9,xa4,xba,jp,xa5,xa3,xa8,xa2,rq,pZ,xbj,jp,w9,xbd,xbi,jp,xbh,xbe,xbk,xbc,rq,pZ,xbs,jp,w9,xbo,xbu,jp,xbq,xbn,xbt,xbm,rq,pZ,xb4,jp,w9,xbx,xb2,jp,xb1,xby,xb3,xbw,rq,pZ,xci,jp,xcg,xcb,xck,jp,w9,xb8,jp,xb7,xcf,xca,xcj,xb6,xcd,xb9,xch,rq,pZ,xcp,jp,w9,xcq,xcn,jp,xcm,xct,xco,xcu,rq,pZ,λP=>dB P 336 338 "NoExchange" 337 340 21 339 341 126,jp,w9,λ_=>cC "NoExchange" 331 21 122 334,λ_=>fR 124 121,jp,xcw,xc0,λ_=>sU 128,λ_=>bI 128,rq,pZ,λP=>dB P 352 354 "OtherWeb" 353 356 23 355 357 138,jp,w9,λ_=>cC "OtherWeb" 347 23 134 350,λ_=>fR 136 133,jp,xc6,xdd,λ_=>sU 140,λ_=>bI 140,rq,pZ,λP=>dB P 368 370 "TooMany" 369 372 25 371 373 150,jp,w9,λ_=>cC "TooMany" 363 25 146 366,λ_=>fR 148 145,jp,xdh,xds,λ_=>sU 152,λ_=>bI 152,xdi,jp,w9,λ_=>tu #[S "word" 385],jp,λ_=>gX "is_leaf" 14,xdj,xdv,jp,w9,λ_=>tu #[S "knot" 394],jp,λ_=>gX "parts_of" 16,xdr,xdl,xdw,jp,w9,λ_=>tu #[S "rule" 416],jp,λ_=>gX "places_of" 19,xeo,xec,jp,w9,λ_=>tu #[S "rule" 423],jp,λ_=>gX "arms_of" 20,xd4,xer,jp,w9,λ_=>tu #[S "rule" 430,S "rules" 431,S "arm" 432],jp,λ_=>gX "rules_in" 21,xfa,xd0,jp,w9,λ_=>tu #[S "rule" 439],jp,λ_=>gX "told_by" 22,xeh,xe5,jp,w9,λ_=>gX "taken_by" 23,xe2,xd7,jp,w9,λ_=>tu #[S "rule" 454,S "number" 455,S "arm" 456,S "at" 457],jp,λ_=>gX "with_arm" 25,xeb,xe0,jp,w9,λ_=>tu #[S "rule" 464,S "places" 465,S "inner" 466],jp,λ_=>gX "all_told" 26,xeq,xef,jp,w9,λ_=>gX "arm_that_tells" 27,xel,xe9,jp,w9,λ_=>tu #[S "knots" 479,S "rule" 480,S "arm" 481,S "inner" 482,S "number" 483],jp,λ_=>gX "turned_out" 28,xev,xei,jp,w9,λ_=>tu #[S "rule" 490,S "number" 491,S "arms" 492],jp,λ_=>gX "arm_at" 29,xd8,xex,jp,w9,λ_=>tu #[S "rule" 499,S "way" 500,S "along" 501,S "number" 502],jp,λ_=>gX "rules_along" 30,xe1,xd6,jp,w9,λ_=>tu #[S "tree" 509,S "way" 510,S "arm" 511,S "along" 512,S "rule" 513,S "number" 514,S "outer" 515],jp,λ_=>gX "exchanged" 31,xeg,xe4,jp,w9,λ_=>tu #[S "_law_cell" 524,S "_law_k" 525,S "_law_factor" 526],jp,λ_=>gX "_law_mix" 33,xfy,xfl,jp,w9,λ_=>gX "_law_name" 34,xfr,xgf,jp,w9,λ_=>tu #[S "_law_knots" 539,S "_law_p" 540,S "_law_knot" 541],jp,λ_=>gX "_law_word" 35,xf6,xfu,jp,w9,λ_=>tu #[S "_law_word_here" 548,S "_law_sides" 549],jp,λ_=>gX "_law_flip" 36,xfh,xf5,jp,w9,λ_=>tu #[S "_law_word_here" 556],jp,λ_=>gX "_law_weight" 37,xgd,xfk,jp,w9,λ_=>tu #[S "_law_knots" 563,S "_law_word_here" 564,S "_law_left" 565,S "_law_right" 566,S "_law_turn" 567,S "_law_same" 568,S "_law_low" 569,S "_law_high" 570],jp,λ_=>gX "_law_mirror" 38,xfm,xf9,jp,w9,λ_=>gX "_law_join" 39,xgh,xfe,jp,w9,λ_=>tu #[S "_law_knots" 583,S "_law_tree_here" 584,S "_law_one" 585,S "_law_two" 586,S "_law_left" 587,S "_law_right" 588],jp,λ_=>gX "_law_fold" 40,xfv,xgj,jp,w9,λ_=>gX "_law_cut" 41,xgb,xfi,jp,w9,λ_=>tu #[S "_law_knots" 601,S "_law_seed" 602,S "_law_p" 603,S "_law_knot" 604,S "_law_rank" 605],λ_=>tu #[S "_law_ranks" 606],λ_=>gX "_law_order" 42,xfq,xge,jp,w9,λ_=>gX "_law_moved" 43,xgl,xfd,jp,w9,λ_=>tu #[S "_law_knots" 619,S "_law_rule" 620,S "_law_seed" 621,S "_law_at_here" 622,S "_law_made" 623,S "_law_p" 624,S "_law_knot" 625],jp,λ_=>gX "_law_renamed" 44,xfs,xgg,jp,w9,λ_=>tu #[S "_law_cells" 632,S "_law_seed" 633,S "_law_room" 634,S "_law_knots" 635,S "_law_forest" 636,S "_law_k" 637,S "_law_cell" 638,S "_law_one" 639,S "_law_two" 640,S "_law_deed" 641,S "_law_at_here" 642],jp,λ_=>gX "_law_tree" 45,xhk,xg9,jp,w9,λ_=>tu #[S "_law_rule" 649],jp,λ_=>gX "_law_arms" 46,xgv,xhj,jp,w9,λ_=>tu #[S "_law_rule" 656,S "_law_links" 657,S "_law_cuts" 658,S "_law_told" 659,S "_law_stack" 660,S "_law_one" 661],jp,λ_=>gX "_law_gathered" 47,xhq,xg0,jp,w9,λ_=>gX "_law_ends" 48,xgo,xhc,jp,w9,λ_=>tu #[S "_law_knots" 674,S "_law_rule" 675,S "_law_arm" 676],jp,λ_=>gX "_law_needs" 49,xht,xgs,jp,w9,λ_=>gX "_law_goes" 50,xgz,xhl,jp,w9,λ_=>tu #[S "_law_rule" 689,S "_law_arm" 690,S "_law_other" 691,S "_law_arms_here" 692,S "_law_kept" 693],jp,λ_=>gX "_law_put_arm" 51,xho,xgw,jp,w9,λ_=>tu #[S "_law_rule" 700,S "_law_arm" 701,S "_law_k" 702,S "_law_inner" 703,S "_law_below" 704],jp,λ_=>gX "_law_about" 52,xg5,xhr,jp,w9,λ_=>tu #[S "_law_rule" 711,S "_law_way" 712,S "_law_a" 713],jp,λ_=>gX "_law_at" 53,xhb,xg1,jp,w9,λ_=>tu #[S "_law_rule" 720,S "_law_way" 721,S "_law_other" 722],jp,λ_=>gX "_law_put_at" 54,xgr,xhe,jp,w9,λ_=>tu #[S "_law_rule" 729,S "_law_number" 730,S "_law_way" 731,S "_law_arms_here" 732],jp,λ_=>gX "_law_drawn_way" 55,xhw,xgp,jp,w9,λ_=>tu #[S "_law_knots" 739,S "_law_rule" 740,S "_law_can" 741,S "_law_found" 742,S "_law_stack" 743,S "_law_way" 744,S "_law_one" 745,S "_law_arms_here" 746,S "_law_a" 747],jp,λ_=>gX "_law_pairs" 56,xg7,xhu,jp,w9,λ_=>tu #[S "_law_found" 754,S "_law_due_here" 755,S "_law_k" 756],jp,λ_=>gX "_law_alike" 57,xin,xic,jp,w9,λ_=>tu #[S "_law_rule" 763,S "_law_number" 764,S "_law_arms_here" 765],jp,λ_=>gX "_law_within" 58,xh3,xik,jp,w9,λ_=>gX "_law_part" 59,xih,xh8,jp,w9,λ_=>tu #[S "_law_knots" 778,S "_law_rule" 779,S "_law_number" 780,S "_law_some" 781,S "_law_way" 782],jp,λ_=>gX "_law_place" 60,xhz,xif,jp,w9,λ_=>tu #[S "_law_rule" 789,S "_law_way" 790,S "_law_a" 791,S "_law_arms_here" 792],jp,λ_=>gX "_law_stands" 61,xis,xh1,jp,w9,λ_=>tu #[S "_law_knots" 799,S "_law_rule" 800,S "_law_way" 801,S "_law_arm" 802,S "_law_one" 803,S "_law_k" 804],jp,λ_=>gX "_law_due" 62,xid,xiu,jp,w9,λ_=>tu #[S "_law_tree_here" 811,S "_law_way" 812,S "_law_arm" 813,S "_law_found" 814,S "error" 815],jp,λ_=>gX "_law_refused" 63,xij,xia,jp,w9,λ_=>tu #[S "_law_script" 822,S "_law_seed" 823,S "_law_number" 824,S "_law_knots" 825,S "_law_rule" 826,S "_law_way" 827,S "_law_arm" 828,S "_law_due_here" 829,S "_law_tree_here" 830,S "_law_told" 831,S "_law_found" 832],jp,λ_=>gX "law" 64,xh5,xil]
def asg:List Ob:=[b0,b1,b2,b3,b4,b5,b6,b7,b8,b9,b10,jp,w9,xac,xad]
def aro:List Ob:=[b0,b1,b2,λP=>O (.type "dict") (.dict #[(E P "__name__" 165 (S "oncewise.errors" 187)),(E P "__doc__" 166 .none),(E P "__package__" 167 .none),(E P "__loader__" 168 (.builtin "__main__.__loader__#opaque")),(E P "__spec__" 169 .none),(E P "__annotations__" 170 (R 6)),(E P "__builtins__" 171 (R 4)),(E P "__file__" 173 (S "/claim/cut.py" 172)),(E P "__cached__" 174 .none),(E P "OnceError" 206 (R 24)),(E P "NoWord" 222 (R 37)),(E P "BadText" 238 (R 49)),(E P "BadWeb" 254 (R 61)),(E P "BadTree" 270 (R 73)),(E P "BadChoices" 286 (R 85)),(E P "NoTree" 312 (R 104)),(E P "NoCut" 328 (R 116))] 17),b4,b5,b6,b7,b8,b9,b10,jp,λ_=>O .none (.fields #[I 2 0,I 0 0,R 20,I 4 0,I 0 0,R 33,I 6 0,I 0 0,R 45,I 8 0,I 0 0,R 57,I 10 0,I 0 0,R 69,I 12 0,I 0 0,R 81,I 14 0,I 0 0,R 93,I 19 0,I 0 0,R 112]),xac,xad,xaf,pZ,xai,jp,w9,xao,xak,jp,xag,λ_=>⟨(.type "type"),none,(.cls (ClassData.mk (s "OnceError") [(.type "ValueError")] [R 24,(.type "ValueError"),(.type "Exception"),(.type "BaseException"),(.type "object")] 23 (s "OnceError") true [] [R 37,R 49,R 61,R 73,R 85,R 104,R 116] false none false)),#[(some (R 15)),none,(some (S "OnceError" 189)),(some (S "OnceError" 197)),(some (.builtin "ValueError.__new__")),(some (.bool true))]⟩,xaj,xap,xah,rq,pZ,xa0,jp,w9,xas,xay,jp,xaw,xat,xaz,xar,rq,pZ,xa9,jp,w9,xa4,xba,jp,xa5,xa3,xa8,xa2,rq,pZ,xbj,jp,w9,xbd,xbi,jp,xbh,xbe,xbk,xbc,rq,pZ,xbs,jp,w9,xbo,xbu,jp,xbq,xbn,xbt,xbm,rq,pZ,xb4,jp,w9,xbx,xb2,jp,xb1,xby,xb3,xbw,rq,pZ,xci,jp,xcg,xcb,xck,jp,w9,xb8,jp,xb7,xcf,xca,xcj,xb6,xcd,xb9,xch,rq,pZ,xcp,jp,w9,xcq,xcn,jp,xcm,xct,xco,xcu]
def an6:List Ob:=ang
def hpA(P:Params):Heap:=⟨⟨aqx.map (· P)⟩,{}⟩
def hpZ(P:Params):Heap:=⟨⟨ang.map (· P)⟩,{}⟩
def tr0(P:Params):BT:=bt 20 (asg.map (· P))
def tr8(P:Params):BT:=bt 20 (aro.map (· P))
def ar0(P:Params):BT:=bt 20 (an6.map (· P))
def sA(w:World)(os:OsState):Shared:=⟨hpA w.params,#[],{},187,os⟩
def sZ(w:World)(os:OsState):Shared:=⟨hpZ w.params,#[],{},836,os⟩
def aT(w:World)(os:OsState):SharedT:=⟨tr0 w.params,15,{},#[],{},187,os⟩
def st8(w:World)(os:OsState):SharedT:=⟨tr8 w.params,119,{},#[],{},329,os⟩
def ahz(w:World)(os:OsState):SharedT:=⟨ar0 w.params,461,{},#[],{},836,os⟩
def ajd:List Stmt:=((behindTheImports p).drop 0).take 9
def zD:List Stmt:=((behindTheImports p).drop 9).take 56
theorem ast(w:World):(λos=>topGo treeTable p w 11 an 12 ⟨boot_heap w.params,#[],boot_drawn,boot_toks,os⟩ (topStub p))=λos=>some (sA w os,⟨denote treeTable cE,cE,⟨0,0,0,0⟩,[topFrame q0]⟩):=by kernel_rfl
theorem ar1(w:World):(λos=>segRun treeTable p w 11 an 1 1 (sA w os) (blockOf (behindTheImports p) env0 cE ⟨0,0,0,0⟩ [topFrame q0]))=λos=>some (.next,(aT w os).abs,cE,⟨0,0,0,0⟩):=by kernel_rfl
theorem pc1:∀w,Pc 1727 aT st8 ajd ⟨0,0,0,0⟩ ⟨19,0,20,8⟩ w:=λw=>by kernel_rfl
theorem atb(w:World):Pc 2200 st8 ahz zD ⟨19,0,20,8⟩ ⟨374,0,395,68⟩ (w.withFollow "special-get-raises" false):=by kernel_rfl
theorem aqr(w:World):Pc 2200 st8 ahz zD ⟨19,0,20,8⟩ ⟨374,0,395,68⟩ (w.withFollow "special-get-raises" true):=by kernel_rfl
theorem pc2:∀w,Pc 2200 st8 ahz zD ⟨19,0,20,8⟩ ⟨374,0,395,68⟩ w:=byRow2 "special-get-raises" atb aqr
theorem arw(w:World):(λos=>topRun treeTable p w 11 an 2 (ahz w os).abs ⟨doneF .next,cE,⟨374,0,395,68⟩,[topFrame q0]⟩)=λos=>some (sZ w os):=by kernel_rfl
theorem amz:ajd++(zD++([]))=behindTheImports p:=by kernel_rfl
theorem ath(w:World)(os:OsState):topRun treeTable p w 11 an (12+(1+(1727+(2200+(2))))) ⟨boot_heap w.params,#[],boot_drawn,boot_toks,os⟩ (topStub p)=some (sZ w os):=by have h:=(piece_app (l:=ajd) (rest:=zD++([])) (segRun_of (Dm (pc1 w) os)) (piece_app (l:=zD) (rest:=[]) (segRun_of (Dm (pc2 w) os)) (piece_nil (env:=env0) (Dm (arw w) os))));rw[amz] at h;exact go_top (Dm (ast w) os) (piece_block (Dm (ar1 w) os) h)
def as0:List Nat:=[0,1,2,3,4,5,6,7,8,9,10,13,23,24,25,36,37,48,49,60,61,72,73,84,85,100,101,103,104,115,116,127,128,139,140,151,152,155,161,162,168,169,170,176,177,183,184,190,191,197,198,202,203,209,210,216,217,221,222,228,229,235,236,242,243,249,250,256,257,261,262,268,269,275,276,282,283,289,290,294,295,301,302,306,307,309,313,314,318,319,325,326,332,333,339,340,346,347,351,352,358,359,363,364,370,371,377,378,384,385,391,392,398,399,405,406,412,413,419,420,424,425,431,432,438,439,445,446,452,453,459,460]
def vw:Program:={ p with main:={ p.main with body:=[top 1,top 2,top 3,top 4,top 5,top 6,top 7,top 8,top 9,top 10,top 11,top 13,top 14,top 16,top 18,top 19,top 20,top 21,top 22,top 23,top 25,top 26,top 27,top 28,top 29,top 30,top 31,top 33,top 34,top 35,top 36,top 37,top 38,top 39,top 40,top 41,top 42,top 43,top 44,top 45,top 46,top 47,top 48,top 49,top 50,top 51,top 52,top 53,top 54,top 55,top 56,top 57,top 58,top 59,top 60,top 61,top 62,top 63,top 64] } }
def K0:Params->Frag:=λP=>(nat_lit 0,b0 P)::(nat_lit 1,b1 P)::(nat_lit 2,b2 P)::(nat_lit 3,xhy P)::(nat_lit 4,b4 P)::(nat_lit 5,b5 P)::(nat_lit 6,b6 P)::(nat_lit 7,b7 P)::(nat_lit 8,b8 P)::(nat_lit 9,b9 P)::(nat_lit 10,b10 P)::(nat_lit 13,xac P)::(nat_lit 23,xag P)::(nat_lit 24,xdq P)::(nat_lit 25,xaj P)::(nat_lit 36,xaw P)::(nat_lit 37,xat P)::(nat_lit 48,xa5 P)::(nat_lit 49,xa3 P)::(nat_lit 60,xbh P)::(nat_lit 61,xbe P)::(nat_lit 72,xbq P)::(nat_lit 73,xbn P)::(nat_lit 84,xb1 P)::(nat_lit 85,xby P)::(nat_lit 100,xcf P)::(nat_lit 101,xca P)::(nat_lit 103,xb6 P)::(nat_lit 104,xcd P)::(nat_lit 115,xcm P)::(nat_lit 116,xct P)::(nat_lit 127,xcw P)::(nat_lit 128,xc0 P)::(nat_lit 139,xc6 P)::(nat_lit 140,xdd P)::(nat_lit 151,xdh P)::(nat_lit 152,xds P)::(nat_lit 155,xdi P)::(nat_lit 161,xdj P)::(nat_lit 162,xdv P)::(nat_lit 168,xdr P)::(nat_lit 169,xdl P)::(nat_lit 170,xdw P)::(nat_lit 176,xeo P)::(nat_lit 177,xec P)::(nat_lit 183,xd4 P)::(nat_lit 184,xer P)::(nat_lit 190,xfa P)::(nat_lit 191,xd0 P)::(nat_lit 197,xeh P)::(nat_lit 198,xe5 P)::(nat_lit 202,xe2 P)::(nat_lit 203,xd7 P)::(nat_lit 209,xeb P)::(nat_lit 210,xe0 P)::(nat_lit 216,xeq P)::(nat_lit 217,xef P)::(nat_lit 221,xel P)::(nat_lit 222,xe9 P)::(nat_lit 228,xev P)::(nat_lit 229,xei P)::(nat_lit 235,xd8 P)::(nat_lit 236,xex P)::(nat_lit 242,xe1 P)::(nat_lit 243,xd6 P)::(nat_lit 249,xeg P)::(nat_lit 250,xe4 P)::(nat_lit 256,xfy P)::(nat_lit 257,xfl P)::(nat_lit 261,xfr P)::(nat_lit 262,xgf P)::(nat_lit 268,xf6 P)::(nat_lit 269,xfu P)::(nat_lit 275,xfh P)::(nat_lit 276,xf5 P)::(nat_lit 282,xgd P)::(nat_lit 283,xfk P)::(nat_lit 289,xfm P)::(nat_lit 290,xf9 P)::(nat_lit 294,xgh P)::(nat_lit 295,xfe P)::(nat_lit 301,xfv P)::(nat_lit 302,xgj P)::(nat_lit 306,xgb P)::(nat_lit 307,xfi P)::(nat_lit 309,w9 P)::(nat_lit 313,xfq P)::(nat_lit 314,xge P)::(nat_lit 318,xgl P)::(nat_lit 319,xfd P)::(nat_lit 325,xfs P)::(nat_lit 326,xgg P)::(nat_lit 332,xhk P)::(nat_lit 333,xg9 P)::(nat_lit 339,xgv P)::(nat_lit 340,xhj P)::(nat_lit 346,xhq P)::(nat_lit 347,xg0 P)::(nat_lit 351,xgo P)::(nat_lit 352,xhc P)::(nat_lit 358,xht P)::(nat_lit 359,xgs P)::(nat_lit 363,xgz P)::(nat_lit 364,xhl P)::(nat_lit 370,xho P)::(nat_lit 371,xgw P)::(nat_lit 377,xg5 P)::(nat_lit 378,xhr P)::(nat_lit 384,xhb P)::(nat_lit 385,xg1 P)::(nat_lit 391,xgr P)::(nat_lit 392,xhe P)::(nat_lit 398,xhw P)::(nat_lit 399,xgp P)::(nat_lit 405,xg7 P)::(nat_lit 406,xhu P)::(nat_lit 412,xin P)::(nat_lit 413,xic P)::(nat_lit 419,xh3 P)::(nat_lit 420,xik P)::(nat_lit 424,xih P)::(nat_lit 425,xh8 P)::(nat_lit 431,xhz P)::(nat_lit 432,xif P)::(nat_lit 438,xis P)::(nat_lit 439,xh1 P)::(nat_lit 445,xid P)::(nat_lit 446,xiu P)::(nat_lit 452,xij P)::(nat_lit 453,xia P)::(nat_lit 459,xh5 P)::(nat_lit 460,xil P)::[]
abbrev lamC:Nat:=313
abbrev lamT:Nat:=309
abbrev lamO:Ob:=xfq
abbrev ls:List Str:=[Str.ofString "PLACE_COUNTS"]
abbrev Xt:Shared->Bool:=λs=>xlAt vw [] s&&recOk (RowW.records rr.row.toRowW) s
theorem ao3(w:World):((boot_heap w.params).isNs mainGlobals&&(#[]:Array GenState).size==0,(boot_heap w.params).objs.size,(boot_heap w.params).nsMap mainGlobals "__annotations__")=(true,11,an):=by kernel_rfl
theorem aqi:opening p=plainProg p.main.scope.names:=by kernel_rfl
theorem asq(s:Shared):fenceModules? p s=some s:=by kernel_rfl
theorem lk1(w:World):(λos=>(staticsOk (importedModules p.main.body) (boot_heap w.params) (hpZ w.params)&&namesBound p (hpZ w.params)&&gensDone (sZ w os)&&laidKept (boot_heap w.params) (hpZ w.params)))=λ_=>true:=by kernel_rfl
theorem lk2(w:World):(λos=>openSeen vw ls (importedModules p.main.body) Xt true (sZ w os))=λ_=>openGood vw ls:=by kernel_rfl
theorem lk3(w:World):(λos=>obsZ as0 (sZ w os))=λ_=>valZ K0 461 836 w:=by kernel_rfl
theorem left_:LeftO p vw ls Xt (obsZ as0) (valZ K0 461 836) 7950:=LeftO.of_pieces (boot_open aqi rfl asq) ao3 ath rfl λw=>funext λos=>looks_pair (Dm (lk1 w) os) (looks_pair (Dm (lk2 w) os) (Dm (lk3 w) os))
end
end H61
open PySem PySem.W PyProof.Rows
set_option maxRecDepth 100000 in
set_option maxHeartbeats 0 in
theorem PySem.Challenge.cw_oncewise_k61_one_exchange_holds : PySem.Challenge.rw_oncewise_k61_one_exchange.Holds := by
 w_on;refine holds_law (by unfold OpenLaw.wellSaid OpenRow.wellSaid OpenRow.partSaid looksOpen;walk_at "y";walk_at "y";walk_at "y";walk_at "y";walk_at "y";walk_at "y";all_goals decide +kernel) λU=>?_
 refine holds_openX (q:=H61.vw) (loose:=H61.ls) (Xt:=H61.Xt) (XP:=XL H61.vw []) (Yf:=PySem.W.X.obsZ H61.as0) (Ya:=PySem.W.X.valZ H61.K0 461 836) (N:=7950) H61.left_ (λs e=>xl_of s (Bool.and_eq_true_iff.mp e).1)
  XL.keeps (by rfl) (by rfl) (by rfl) (λs e=>recFacts_of (Bool.and_eq_true_iff.mp e).2)
  (by rfl) (by decide +kernel) (by decide +kernel) ⟨rfl,rfl,rfl,rfl,rfl,by decide +kernel⟩ ?hw ?hc
 case hw=>w_witness2
 k_fill
 refine L2.walk_ofZT (l:=PySem.Challenge.rw_oncewise_k61_one_exchange) (n:=63) (k:=130) (x:="_law_script") (CX:=L2.CX0) (sp:=L3.spTopT L3.lamQ) rfl (by decide) rfl ⟨rfl,by decide,by decide⟩ (λ_=>rfl) (by decide) ?F ?S ?C
 case F=>
  intro w t fa h j G J;have T:(H61.K0 w.params).lookup H61.lamT=some (PySem.W.tabObj #[]):=by k_is
  have g:(H61.K0 w.params).lookup H61.lamC=some (H61.lamO w.params):=by k_is
  have hd:∀h:Heap,h.get? H61.lamC=some (H61.lamO w.params)->PySem.W.CodeHd h H61.lamC H61.lamT:=λh e=>⟨_,_,_,_,_,_,_,_,_,e,rfl,rfl,rfl,rfl,rfl,rfl,rfl,rfl,by decide⟩;have o:(H61.K0 w.params).lookup 4=some (PySem.W.boot_o_4 w.params):=by k_is
  have r:L3.DefInT (L2.lessK H61.lamT (H61.K0 w.params)) "_law_order" K61.s__law_order H61.lamT:=by
   refine' K61.def_inT (L2.ns_dn T ?a) (L2.lk_dn T ?l ?n) (L2.code_dn T ?c) (L2.keep_dn T ?k) ?LC
   (case a=>k_is);(case l=>k_is);(case n=>(intro e;cases e));(case c=>k_is);(case k=>k_is)
   refine'⟨⟨H61.lamC,_,rfl,L2.lk_dn T g ?m,hd⟩,⟨4,_,L2.ns_dn T ?b,by decide,by decide,L2.lk_dn T o ?p,rfl,rfl,rfl⟩⟩
   (case m=>(intro e;cases e));(case b=>k_is);(case p=>(intro e;cases e))
  refine⟨H61.lamT,⟨T,⟨H61.lamC,λh X=>hd h (X _ _ g)⟩,by decide⟩,?_⟩;refine' K61.all_mk (K:=L2.lessK H61.lamT (H61.K0 w.params)) (L2.lessK_in j) G J ?D0 ?D1 ?D2 ?D3 ?D4 ?D5 ?D6 ?D7 ?D8 ?D9 ?D10 ?D11 ?D12 ?D13 ?D14 ?D15 ?D16 ?D17 ?D18 ?D19 ?D20 ?D21 ?D22 ?D23 ?D24 ?D25 ?D26 ?D27 ?D28 ?D29 ?D30 ?D31 ?D32 ?D33 ?D34 ?D35 ?D36 ?D37 ?D38 ?D39 ?D40 ?D41 ?D42 ?D43 ?D44 ?D45 ?aLEAF_KINDS ?lLEAF_KINDS ?aPLACE_COUNTS ?lPLACE_COUNTS ?hPLACE_COUNTS ?aCNoExchange ?aCOnceError ?aCBadChoices ?aCBadText ?aCBadTree ?aCBadWeb ?aCNoCut ?aCNoTree ?aCNoWord ?aCOtherWeb ?aCTooMany ?qCNoExchange ?xf ?zlist ?zenumerate ?zall ?zlen ?zzip ?zreversed ?zrange ?zmax ?zsorted ?zmin ?zisinstance ?zint ?ztuple ?zstr ?zbool ?zValueError
  (case aCNoExchange=>(refine' L2.ns_dn T ?_;k_is))
  (case aCOnceError=>(refine' L2.ns_dn T ?_;k_is))
  (case aCBadChoices=>(refine' L2.ns_dn T ?_;k_is))
  (case aCBadText=>(refine' L2.ns_dn T ?_;k_is))
  (case aCBadTree=>(refine' L2.ns_dn T ?_;k_is))
  (case aCBadWeb=>(refine' L2.ns_dn T ?_;k_is))
  (case aCNoCut=>(refine' L2.ns_dn T ?_;k_is))
  (case aCNoTree=>(refine' L2.ns_dn T ?_;k_is))
  (case aCNoWord=>(refine' L2.ns_dn T ?_;k_is))
  (case aCOtherWeb=>(refine' L2.ns_dn T ?_;k_is))
  (case aCTooMany=>(refine' L2.ns_dn T ?_;k_is))
  (case D0|D1|D2|D3|D4|D5|D6|D7|D8|D9|D10|D11|D12|D13|D14|D15|D16|D17|D18|D19|D20|D21|D22|D24|D25|D26|D27|D28|D29|D30|D31|D32|D33|D34|D35|D36|D37|D38|D39|D40|D41|D42|D43|D44|D45=>refine' L2.def_in (L2.ns_dn T ?a) (L2.lk_dn T ?l ?n) (L2.code_dn T ?c) (L2.keep_dn T ?k);(case a=>k_is);(case l=>k_is);(case n=>(intro e;cases e));(case c=>k_is);(case k=>k_is))
  (case D23=>exact r)
  (case aLEAF_KINDS=>(refine' L2.ns_dn T ?_;k_is))
  (case lLEAF_KINDS=>(refine' L2.lk_dn T ?x ?n;(case x=>k_is);(case n=>(intro e;cases e))))
  (case aPLACE_COUNTS=>(refine' L2.ns_dn T ?_;k_is))
  (case lPLACE_COUNTS=>(refine' L2.lk_dn T ?x ?n;(case x=>k_is);(case n=>(intro e;cases e))))
  (case hPLACE_COUNTS=>rfl)
  (case qCNoExchange=>(refine' L2.exc_dn T ?_;k_exc))
  (case xf=>(refine' L3.XF05.dn T ?_;(refine' L3.XF05.mk ?hd ?em ?ot ?on ?ve;(case hd=>(refine' L3.xhd_of ?ga ?gt ?cl ?ge ?tk ?mo ?be ?h;(case ga=>k_is);(case gt=>k_is);(case cl=>k_is);(case ge=>k_is);(case tk=>k_is);(case mo=>k_is);(case be=>k_is);(case h=>k_is)));(case em=>(refine' L3.exm_own ?h0 ?h1 ?h2 ?h3;(case h0=>k_is);(case h1=>k_is);(case h2=>k_is);(case h3=>k_is)));(case ot=>(refine' L3.kitAny_no ?z ?_;(case z=>(refine' L3.kit_own ?a ?b ?c ?d;(case a=>rfl);(case b=>k_is);(case c=>k_is);(case d=>k_is)));refine' L3.kitAny_no ?z ?_;(case z=>(refine' L3.kit_own ?a ?b ?c ?d;(case a=>rfl);(case b=>k_is);(case c=>k_is);(case d=>k_is)));refine' L3.kitAny_no ?z ?_;(case z=>(refine' L3.kit_own ?a ?b ?c ?d;(case a=>rfl);(case b=>k_is);(case c=>k_is);(case d=>k_is)));refine' L3.kitAny_no ?z ?_;(case z=>(refine' L3.kit_own ?a ?b ?c ?d;(case a=>rfl);(case b=>k_is);(case c=>k_is);(case d=>k_is)));refine' L3.kitAny_no ?z ?_;(case z=>(refine' L3.kit_own ?a ?b ?c ?d;(case a=>rfl);(case b=>k_is);(case c=>k_is);(case d=>k_is)));refine' L3.kitAny_no ?z ?_;(case z=>(refine' L3.kit_own ?a ?b ?c ?d;(case a=>rfl);(case b=>k_is);(case c=>k_is);(case d=>k_is)));refine' L3.kitAny_no ?z ?_;(case z=>(refine' L3.kit_own ?a ?b ?c ?d;(case a=>rfl);(case b=>k_is);(case c=>k_is);(case d=>k_is)));refine' L3.kitAny_no ?z ?_;(case z=>(refine' L3.kit_own ?a ?b ?c ?d;(case a=>rfl);(case b=>k_is);(case c=>k_is);(case d=>k_is)));refine' L3.kitAny_no ?z ?_;(case z=>(refine' L3.kit_own ?a ?b ?c ?d;(case a=>rfl);(case b=>k_is);(case c=>k_is);(case d=>k_is)));exact rfl));(case on=>exact L3.kit_self);(case ve=>(refine' L3.kit_blt ?a ?b;(case a=>rfl);(case b=>k_is))))))
  (case zlist|zenumerate|zall|zlen|zzip|zreversed|zrange|zmax|zsorted|zmin|zisinstance|zint|ztuple|zstr|zbool|zValueError=>(refine' L2.ns_dn T ?_;k_is))
 case S=>exact L3.top_startT
 case C=>exactλ_ _ _ _ z=>z
#print axioms PySem.Challenge.cw_oncewise_k61_one_exchange_holds
