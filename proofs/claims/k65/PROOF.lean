import PyProof.Rows.All
import Wide.All
import OpenK.AllK
import Wide.FinOn
import Lean
import PyProof.EqAt
import PyProof.EqKinds
import PyProof.TupleCall
import PyProof.NeKinds
import PySem.Challenge.RW_oncewise_k65_other_webs
import OpenK.ZGo
set_option genSizeOf false
set_option bootstrap.genMatcherCode false
set_option compiler.extract_closed false
set_option hygiene false
local macro_rules|`(tactic| walk_at "t")=>`(tactic| (first|assumption|exact Nat.succ_pos _|exact qy.tk (by assumption)|exact Nat.lt_of_lt_of_le (qy.tk (by assumption)) (Nat.le_add_right _ _)|exact Nat.lt_of_lt_of_le (qy.tk (by assumption)) (by assumption)))
set_option hygiene true
local macro_rules|`(tactic| walk_at "w")=>`(tactic| conv=>whnf)
local macro_rules|`(tactic| walk_at "y")=>`(tactic| ((refine PySem.W.look_both ?_ ?_);(refine PySem.W.look_both ?_ ?_);(refine PySem.W.look_both ?_ ?_);(refine PySem.W.look_both ?_ ?_);(refine PySem.W.look_both ?_ ?_);(refine PySem.W.look_both ?_ ?_)))
set_option Elab.async false
set_option linter.all false
set_option maxRecDepth 100000
abbrev Aa:=@PySem.wpAny_bind
abbrev Ab:=@List.length_map
abbrev Ac:=@List.mem_cons_of_mem
abbrev Ad:=@List.length_append
abbrev Ae:=@PySem.W.Frag
abbrev Af:=@List.mem_append_right
abbrev Ag:=@List.mem_singleton
abbrev Ah:=@List.mem_cons_self
abbrev Ai:=@List.map_append
abbrev Aj:=@List.getElem?_eq_getElem
abbrev Ak:=@PySem.wpAny_pure
abbrev Al:=@Nat.le_refl
abbrev Am:=@List.getElem?_map
abbrev An:=@List.size_toArray
abbrev Ao:=@List.mem_append
abbrev Ap:=@List.mem_cons
abbrev Aq:=@List.mem_append_left
abbrev Ar:=@Nat.le_of_ble_eq_true
abbrev Au:=@Option.map_eq_some_iff
abbrev Av:=@List.nodup_append
abbrev Aw:=@PyProof.Rows.wpS_bind
abbrev Ax:=@List.getElem?_append_right
abbrev Ay:=@List.nodup_cons
abbrev Az:=@decide_eq_false
abbrev AA:=@List.map_cons
abbrev AB:=@Bool.false_ne_true
abbrev AC:=@List.flatMap_append
abbrev AD:=@if_neg
abbrev AE:=@List.getElem?_append_left
abbrev AF:=@if_pos
abbrev AG:=@PyProof.Rows.wpS_pure
abbrev AH:=@Nat.lt_of_lt_of_le
abbrev AI:=@Nat.le_trans
abbrev AJ:=@List.length_cons
abbrev AK:=@Bool.and_eq_true
abbrev AL:=@List.getElem?_eq_some_iff
abbrev AM:=@List.mem_of_getElem?
abbrev AN:=@Option.some.inj
abbrev AO:=@List.mem_filter
abbrev AQ:=@PySem.wpAny_mono
abbrev AR:=@List.mem_map
abbrev AS:=@List.flatMap_cons
abbrev AU:=@List.append_assoc
abbrev AV:=@decide_eq_true
abbrev AW:=@Ne.symm
abbrev AX:=@List.append_nil
abbrev AY:=@List.length_take
abbrev AZ:=@List.perm_ext_iff_of_nodup
abbrev A1:=@Nat.ne_of_lt
abbrev A2:=@List.mem_flatMap
abbrev A3:=@PySem.wpAny_holding
abbrev A4:=@List.cons.inj
abbrev A5:=@List.mem_range
abbrev A6:=@List.take_append_drop
abbrev A7:=@List.getD_eq_getElem?_getD
abbrev A8:=@Int.natCast_nonneg
abbrev A9:=@Array.getElem?_toList
abbrev Ba:=@Array.length_toList
abbrev Bb:=@congrArg
abbrev Bc:=@PySem.W.kia_one
abbrev Bd:=@List.find?_cons
abbrev Be:=@List.take_of_length_le
abbrev Bf:=@List.length_range
abbrev Bg:=@PySem.W.mg_of
abbrev Bh:=@PySem.W.mg_none_of
abbrev Bi:=@Nat.zero_le
abbrev Bj:=@List.lookup_cons
abbrev Bk:=@PyProof.Rows.wpS_forRange
abbrev Bl:=@Nat.le_of_lt
abbrev Bm:=@List.take_length
abbrev Bo:=@PySem.mem_of_lookup
abbrev Bp:=@List.getElem?_set_ne
abbrev Bq:=@List.take_succ
abbrev Br:=@Bool.eq_iff_iff
abbrev Bs:=@List.map_map
abbrev Bt:=@List.getElem_take
abbrev Bu:=@PySem.W.hideAll_none
abbrev Bv:=@PySem.wpAny_newObj_type
abbrev Bw:=@List.filter_cons
abbrev Bx:=@List.perm_append_right_iff
abbrev Bz:=@List.perm_iff_count
abbrev BA:=@Nat.le_add_right
abbrev BB:=@List.filter_append
abbrev BC:=@List.Perm.refl
abbrev BD:=@List.count_append
abbrev BE:=@List.getElem?_set_self
abbrev BF:=@PyProof.Rows.callWith_type1
abbrev BG:=@Bool.false_eq_true
abbrev BH:=@List.perm_append_singleton
abbrev BI:=@List.length_replicate
abbrev BJ:=@List.getElem?_eq_none
abbrev BK:=@List.perm_append_left_iff
abbrev BL:=@Nat.min_eq_left
abbrev BM:=@PySem.W.look_both
abbrev BN:=@Nat.le_succ_of_le
abbrev BO:=@Bool.not_eq_true'
abbrev BP:=@List.pairwise_map
abbrev BQ:=@Nat.lt_succ_of_lt
abbrev BR:=@List.getElem?_of_mem
abbrev BS:=@List.mem_of_mem_take
abbrev BU:=@List.any_cons
abbrev BV:=@List.Pairwise.imp_of_mem
abbrev BW:=@Int.ofNat_inj
abbrev BX:=@PyProof.Rows.slot_tuple_getitem
abbrev BY:=@List.getElem?_range
abbrev BZ:=@List.getElem?_replicate
abbrev B1:=@List.length_drop
abbrev B3:=@List.eraseIdx_cons_succ
abbrev B4:=@Int.mul_le_mul_of_nonneg_right
abbrev B5:=@List.nodup_nil
abbrev B6:=@List.not_mem_nil
abbrev B7:=@List.nodup_range
abbrev B8:=@PySem.W.of_hideAll
abbrev B9:=@Nat.lt_of_le_of_lt
abbrev Cm:=@PySem.W.funFrames_hide
abbrev Cn:=@List.getElem_cons_drop
abbrev Co:=@List.nil_append
abbrev Cp:=@Nat.lt_irrefl
abbrev Cq:=@Option.isSome_map
abbrev Cr:=@Nat.le_succ
abbrev Cs:=@List.perm_middle
abbrev Ct:=@Nat.lt_succ_self
abbrev Cu:=@PySem.W.hideAll_get
abbrev Cv:=@List.filterMap_cons
abbrev Cw:=@Array.toList_append
abbrev Cy:=@List.mem_map_of_mem
abbrev Cz:=@Bool.and_true
abbrev CA:=@List.getElem?_cons_succ
abbrev CB:=@List.length_eraseIdx_le
abbrev CC:=@List.map_nil
abbrev CD:=@Int.toNat_natCast
abbrev CF:=@List.reverse_cons
abbrev CG:=@List.mem_range'_1
abbrev CH:=@List.Sublist.refl
abbrev CI:=@List.flatMap_singleton
abbrev CK:=@List.eraseIdxIfInBounds_toArray
abbrev CL:=@PySem.F.slot_dict_get
abbrev CM:=@List.length_singleton
abbrev CN:=@List.eq_nil_or_concat
abbrev CO:=@List.concat_eq_append
abbrev CP:=@List.all_eq_true
abbrev CQ:=@Nat.max_eq_right
abbrev CS:=@List.cons_append
abbrev CT:=@List.getElem?_zipIdx
abbrev CU:=@Int.le_refl
abbrev CV:=@List.pairwise_append
abbrev CW:=@List.eq_nil_of_length_eq_zero
abbrev CY:=@List.of_mem_zip
abbrev CZ:=@Nat.max_eq_left
abbrev C0:=@List.length_zip
abbrev C1:=@List.length_reverse
abbrev C2:=@List.reverse_append
abbrev C3:=@Nat.succ_pos
abbrev C4:=@Nat.lt_or_ge
abbrev C5:=@Int.le_of_lt
abbrev C6:=@Nat.sub_self
abbrev C7:=@List.mem_filterMap
abbrev C8:=@Option.isSome_some
abbrev C9:=@List.drop_zero
abbrev Dd:=@PySem.F.excBase_ValueError
abbrev De:=@List.getElem?_take
abbrev Df:=@List.getElem?_drop
abbrev Dg:=@List.append_of_mem
abbrev Di:=@congrFun
abbrev Dj:=@PySem.F.slot_dict_getitem
abbrev Dk:=@List.drop_eq_getElem_cons
abbrev Dl:=@List.pairwise_iff_getElem
abbrev Dm:=@List.sublist_append_right
abbrev Dn:=@PySem.W.kitx_list
abbrev Do:=@List.reverse_perm
abbrev Dp:=@List.nodup_range'
abbrev Dq:=@List.getElem?_take_of_lt
abbrev Dr:=@List.all_cons
abbrev Ds:=@List.getElem_append_left
abbrev Dt:=@List.sublist_append_left
abbrev Du:=@PySem.F.args_dict_get_3
abbrev Dv:=@PySem.F.plainAttrs_list
abbrev Dw:=@Nat.min_eq_right
abbrev Dx:=@List.range'_succ
abbrev Dy:=@Nat.add_sub_cancel_left
abbrev Dz:=@List.map_reverse
abbrev DA:=@List.flatMap_nil
abbrev DB:=@decide_eq_decide
abbrev DC:=@PySem.W.cellsFrom_some
abbrev DD:=@PySem.F.entry_dict_get
abbrev DE:=@Int.le_trans
abbrev DF:=@List.reverse_singleton
abbrev DG:=@List.forIn_cons
abbrev DH:=@Bool.or_eq_true
abbrev DI:=@beq_false_of_ne
abbrev DJ:=@Nat.le_add_left
abbrev DK:=@Int.emod_nonneg
abbrev DL:=@List.sum_append
abbrev DM:=@Bool.and_false
abbrev As:=@PySem.Heap.get?_push_of_some
abbrev At:=@PySem.Heap.lt_size
abbrev Db:=@PySem.Heap.get?_push_size
abbrev DT:=@PySem.PassesOwn.never
abbrev Ef:=@PySem.Heap.SameBut.update
abbrev Eg:=@PySem.Calls.spliced_cons
abbrev Eh:=@PySem.MeetsSeq.plain_remove_loop
abbrev Ei:=@PySem.W.look_both
abbrev Ej:=@PySem.Calls.spliced_nil
abbrev Ek:=@PySem.Calls.callWith_builtin
abbrev El:=@PySem.Calls.evalArgs_plain
abbrev Em:=@Sum.inr.inj
noncomputable section
namespace L2
open PySem PyProof.Rows
theorem gA{M:Model}{U:Ctx}{p:Pos}{t:Sem Fin}{fs:List Frame}{s s':Shared}{e:End}(h:Runs M U p t fs s e s'):s.toks<=s'.toks:=by induction h with|fresh _ g=>exact AI (Cr _) g|call _ _ I J=>exact AI I J|resumeFresh _ _ _ _ I J=>exact AI I J|resumeSuspended _ _ _ _ I J=>exact AI I J|segRet _ _ I J=>exact AI I J|segGen _ _ I J=>exact AI I J|segSuspGen _ _ _ _ I J=>exact AI I J|_=>first|exact Al _|assumption
theorem se{M:Model}{J:Ctx}{p:Pos}{g:Nat}{r:Resume}{s s':Shared}{res:GenResult}(h:Wakes M J p g r s res s'):s.toks<=s'.toks:=by
 unfold Wakes at h;split at h
 ·exact h.elim
 ·split at h
  ·obtain⟨e,U,I,_,_,rfl⟩:=h;have q:=gA I;exact q
  ·obtain⟨_,rfl⟩:=h;exact Al _
  ·obtain⟨_,rfl⟩:=h;exact Al _
 ·obtain⟨e,U,I,_,_,rfl⟩:=h;have q:=gA I;exact q
 ·obtain⟨_,rfl⟩:=h;exact Al _
 ·obtain⟨_,rfl⟩:=h;exact Al _
theorem abo{α:Type}{M:Model}{j:Ctx}(t:Sem α):∀{Q:α->Pos->Shared->Prop} {E:Value->Pos->Shared->Prop} {p:Pos} {s:Shared} (n:Nat),n<=s.toks->Sem.wp M j t Q E p s->Sem.wp M j t (λa U s'=>Q a U s'/\n<=s'.toks) (λe U s'=>E e U s'/\n<=s'.toks) p s:=by induction t with|pure a=>intro Q E p s n I h;exact⟨h,I⟩|raise e=>intro Q E p s n I h;exact⟨h,I⟩|load a part k J=>intro Q E p s n I ⟨o,h1,h2⟩;exact⟨o,h1,J o n I h2⟩|update a part f k J=>intro Q E p s n I ⟨h1,h2⟩;exact⟨h1,J () n I h2⟩|fresh k J=>intro Q E p s n I h;exact J s.toks n (AI I (Cr _)) h|choose C m k J=>intro Q E p s n I ⟨h1,h2⟩;exact⟨h1,J _ n I h2⟩|call c hd g l k J=>intro Q E p s n I ⟨r,s',h1,h2⟩;exact⟨r,s',h1,J r n (AI I (gA h1)) h2⟩|genState g k J=>intro Q E p s n I ⟨st,h1,h2⟩;exact⟨st,h1,J _ n I h2⟩|resume g r l k J=>intro Q E p s n I ⟨res,s',h1,h2⟩;exact⟨res,s',h1,J _ n (AI I (se h1)) h2⟩|rule tag k J=>intro Q E p s n I h;exact J () n I h|«at» pos k J=>intro Q E p s n I h;exact J () n I h|alloc o k J=>intro Q E p s n I h;exact J _ n I h|loadIfAlive a k J=>intro Q E p s n I h;exact J _ n I h|point l k J=>intro Q E p s n I h;exact J _ n I h|ask k J=>intro Q E p s n I h;exact J _ n I h|os q l k J=>intro Q E p s n I h;exact J _ n I h|handled own k J=>intro Q E p s n I h;exact J _ n I h|newGen c k J=>intro Q E p s n I h;exact J _ n I h|stack k J=>intro Q E p s n I h;exact J _ n I h|thread k J=>intro Q E p s n I h;exact J _ n I h|unsupported w=>intro Q E p s n I h;exact h.elim|finish e=>intro Q E p s n I h;exact h.elim|register a k J=>intro Q E p s n I h;exact h.elim|yield v g l k J=>intro Q E p s n I h;exact h.elim|fork c k J=>intro Q E p s n I h;exact h.elim|await a f d l k J=>intro Q E p s n I h;exact h.elim
theorem sL{α:Type}{M:Model}{A:Around}{t:Sem α}{Q:α->Shared->Prop}{E:Value->Shared->Prop}{s:Shared}(h:wpAny M A t Q E s):wpAny M A t (λa s'=>Q a s'/\s.toks<=s'.toks) (λe s'=>E e s'/\s.toks<=s'.toks) s:=
 λJ p I=>abo t s.toks (Al _) (h J p I)
theorem jm{α:Type}{M:Model}{A:Around}{t:Sem α}{Q:α->Shared->Prop}{E:Value->Shared->Prop}{s:Shared}(I:0<s.toks)(h:wpAny M A t (λa s'=>0<s'.toks->Q a s') (λe s'=>0<s'.toks->E e s') s):wpAny M A t Q E s:=
 AQ (sL h) (λ_ _ z=>z.1 (AH I z.2)) λ_ _ z=>z.1 (AH I z.2)
end L2
variable {M:PySem.Model}{apos fm ya np p p1 p2 p3 p4 p5 pos ir tp:PySem.Pos}{s s':PySem.Shared}{c e sx iter o target tg value:PySem.Expr}{α β κ:Type}{A:PySem.Around}{E Q xe:PySem.Value->PySem.Shared->Prop}{fy us vs:List PySem.Value}{C Pt a b dx f fa ka pa:PySem.Addr}{cd g7 ct nC oc pm u:PySem.Value}{base h h':PySem.Heap}{i j kt l m n t' x1:Nat}{ch fp:List PySem.Addr}{kx name px q fx x:PySem.Str}{pins:List (PySem.Addr×PySem.Obj)}{st:PySem.Stmt}{sy es r4:List PySem.Expr}{body:List PySem.Stmt}{B lo:Int}{mA mg:PySem.Str->Option PySem.Value}{fd:PySem.FuncData}{ps:List PySem.Str}{hQ scope:PySem.Scope}{outer:List PySem.Env}{an od:Option PySem.Addr}{vb:Array (Option PySem.Value)}{prog:PySem.Program}{env:PySem.Env}{rks:List Int}
namespace L2
open PySem PySem.Spec PyProof.Rows
abbrev j7:=Sum Int Str
def jG:j7->Value->Bool
 |.inl k,v=>Value.isInt k v
 |.inr x,v=>Value.isStrOf x v
def apn(w:World):j7->Int
 |.inl k=>hashInt k
 |.inr x=>hashStr w x
theorem xi:∀{k:j7} {v:Value},jG k v=true->(∃i t,k=Sum.inl i/\v=Value.int i t)\/(∃x t,k=Sum.inr x/\v=Value.str x t)
 |.inl i,v,h=>by obtain⟨t,e⟩:=Value.isInt_shape (k:=i) (v:=v) h;exact .inl ⟨i,t,rfl,e⟩
 |.inr x,v,h=>by obtain⟨t,e⟩:=Value.isStrOf_shape (x:=x) (v:=v) h;exact .inr ⟨x,t,rfl,e⟩
theorem vF(i:Int)(t:Tok):jG (.inl i) (.int i t)=true:=by simp[jG,Value.isInt]
theorem fU(x:Str)(t:Tok):jG (.inr x) (.str x t)=true:=by simp[jG,Value.isStrOf]
theorem aih(a b:Int):decide ((Sum.inl a:j7)=Sum.inl b)=(a==b):=by
 by_cases e:a=b
 ·subst e;simp
 ·have h:¬(Sum.inl a:j7)=Sum.inl b:=λq=>e (Sum.inl.inj q);rw[Az h];exact(beq_eq_false_iff_ne.mpr e).symm
theorem aga(a b:Str):decide ((Sum.inr a:j7)=Sum.inr b)=decide (a=b):=by
 by_cases e:a=b
 ·subst e;simp
 ·have h:¬(Sum.inr a:j7)=Sum.inr b:=λq=>e (Em q);rw[Az h,Az e]
theorem ahb(a:Int)(b:Str):decide ((Sum.inl a:j7)=Sum.inr b)=false:=Az (λq=>nomatch q)
theorem aj5(a:Str)(b:Int):decide ((Sum.inr a:j7)=Sum.inl b)=false:=Az (λq=>nomatch q)
def ju(prog:Program)(w:World):PySem.KeyKind prog w j7 where
 is:=jG
 hash:=apn w
 inj:=λv a b g U=>by
  rcases xi g with⟨i,t,rfl,rfl⟩|⟨x,t,rfl,rfl⟩
  ·rcases xi U with⟨j,u,rfl,e⟩|⟨y,u,rfl,e⟩
   ·injection e with I _;rw[I]
   ·exact nomatch e
  ·rcases xi U with⟨j,u,rfl,e⟩|⟨y,u,rfl,e⟩
   ·exact nomatch e
   ·injection e with I _;rw[I]
 byValue:=λk v h=>by rcases xi h with⟨i,t,rfl,rfl⟩|⟨x,t,rfl,rfl⟩<;>rfl
 pyHash:=λJ h=>by
  rcases xi J with⟨i,t,rfl,rfl⟩|⟨x,t,rfl,rfl⟩
  ·exact wpAny_pyHash_int h
  ·exact wpAny_pyHash_str h
 eqBool:=λl J h=>by
  rcases xi l with⟨i,t,rfl,rfl⟩|⟨x,t,rfl,rfl⟩
  ·rcases xi J with⟨j,u,rfl,rfl⟩|⟨y,u,rfl,rfl⟩
   ·rw[aih] at h;exact wpAny_eqBool_int h
   ·rw[ahb] at h;exact SeqAt.EqAt.int_str i t y u _ _ _ _ h
  ·rcases xi J with⟨j,u,rfl,rfl⟩|⟨y,u,rfl,rfl⟩
   ·rw[aj5] at h;exact SeqAt.EqAt.str_int x t j u _ _ _ _ h
   ·rw[aga] at h;exact wpAny_eqBool_str h
 «strs» := λk x t v h=>by
  rcases xi h with⟨i,u,rfl,e⟩|⟨y,u,rfl,e⟩
  ·exact nomatch e
  ·injection e with I _
   subst I;cases v<;>rfl
theorem qL(prog:Program)(w:World)(i:Int)(t:Tok):(ju prog w).is (.inl i) (.int i t)=true:=vF i t
theorem pi(prog:Program)(w:World)(x:Str)(t:Tok):(ju prog w).is (.inr x) (.str x t)=true:=fU x t
inductive V where
 |non|bl (b:Bool)|int (i:Int)|str (x:Str)|byt (b:Array UInt8)|flt (b:UInt64)|ref (a:Addr)|ty (n:String)
 deriving DecidableEq
def zm:V->Value->Prop
 |.non,u=>u=Value.none
 |.bl b,u=>u=Value.bool b
 |.int i,u=>∃t,u=Value.int i t
 |.str x,u=>∃t,u=Value.str x t
 |.byt b,u=>∃t,u=Value.bytes b t
 |.flt b,u=>∃t,u=Value.float b t
 |.ref a,u=>u=Value.ref a
 |.ty n,u=>u=Value.type n
abbrev zn:List V->List Value->Prop:=Paired zm
theorem zn.length{xs:List V}(r:zn xs us):xs.length=us.length:=Paired.length r
theorem zn.get:∀{xs:List V} {us:List Value} {i:Nat} {x:V},zn xs us->xs[i]?=some x->∃u,us[i]?=some u/\zm x u
 |_,_,_,_,.nil,e=>by simp at e
 |_,_,0,_,.cons r _,e=>by simp at e;subst e;exact⟨_,rfl,r⟩
 |_,_,i+1,x,.cons _ t,e=>by obtain⟨u,h1,h2⟩:=zn.get (i:=i) (x:=x) t (by simpa using e);exact⟨u,by simpa using h1,h2⟩
theorem zn.set{x:V}{u:Value}(r:zm x u):∀{xs:List V} {us:List Value} (i:Nat),zn xs us->zn (xs.set i x) (us.set i u)
 |_,_,_,.nil=>.nil
 |_,_,0,.cons _ t=>.cons r t
 |_,_,i+1,.cons q t=>.cons q (zn.set r i t)
theorem zn.append:∀{xs ys:List V} {us I:List Value},zn xs us->zn ys I->zn (xs++ys) (us++I)
 |_,_,_,_,.nil,s=>s
 |_,_,_,_,.cons r t,s=>.cons r (zn.append t s)
theorem zn.take:∀{xs:List V} {us:List Value} (n:Nat),zn xs us->zn (xs.take n) (us.take n)
 |_,_,0,_=>.nil
 |_,_,_+1,.nil=>.nil
 |_,_,n+1,.cons r t=>.cons r (zn.take n t)
theorem zn.drop:∀{xs:List V} {us:List Value} (n:Nat),zn xs us->zn (xs.drop n) (us.drop n)
 |_,_,0,r=>r
 |_,_,_+1,.nil=>.nil
 |_,_,n+1,.cons _ t=>zn.drop n t
def du:Option V->Option Value->Prop
 |some v,some u=>zm v u
 |none,none=>True
 |_,_=>False
def KV :List (κ×V)->List (κ×Value)->Prop:=Paired λ(p:κ×V) (q:κ×Value)=>p.1=q.1/\zm p.2 q.2
def kV:j7->V
 |.inl i=>.int i
 |.inr x=>.str x
inductive HO where
 |lst (xs:List V)
 |tup (xs:List V)
 |dK (kvs:List (j7×V))|dT (kvs:List (List j7×V))
 |set (S:Int->Bool) (n:Nat)
 |ins (C dx:Addr) (fs:List (Str×V))
 |own (x:Addr)
 |xd (fs:List (Str×V))
 |met (f x:Addr)
 |rng (lo hi:Int)
 |frz (o:Obj) (u:HO)
 |tbl (ps:Array Value)
 |ext (φ:Heap->Prop)
abbrev Hp:=Addr->Option HO
def upd(H:Hp)(a:Addr)(o:HO):Hp:=λb=>if b=a then some o else H b
theorem zq{H:Hp}{o:HO}:upd H a o a=some o:=by unfold upd;rw[AF rfl]
theorem qp{H:Hp}{o:HO}(h:b≠a):upd H a o b=H b:=by unfold upd;rw[AD h]
theorem aeg{H:Hp}{o u:HO}:upd (upd H a o) a u=upd H a u:=by funext b;unfold upd;split<;>rfl
theorem aju{H:Hp}{o u:HO}(h:H a=some o)(h':H b=some u)(d:o≠u):a≠b:=by intro e;subst e;rw[h] at h';exact d (AN h')
theorem zy{H:Hp}{o:HO}(h:H a=some o)(h':H b=none):a≠b:=by intro e;subst e;rw[h] at h';cases h'
section
variable (P:Program)(w:World)
def x4(H:Hp)(h:Heap)(a:Addr):HO->Prop
 |.lst xs=>xs.length<=sizeLine/\∃(fy:List Value) (n:Nat),zn xs fy/\h.get? a=some { cls:=.type "list",data:=.seq fy.toArray n }
 |.tup xs=>xs.length<=sizeLine/\∃fy:List Value,zn xs fy/\IsTup h a fy.toArray
 |.dK kvs=>kvs.length<=sizeLine/\(a==sysModules)=false/\∃vs,KV kvs vs/\h.DictOf (ju P w) a vs
 |.dT kvs=>kvs.length<=sizeLine/\(a==sysModules)=false/\∃xs:List (List j7×Addr×Value),
  Paired (λ(p:List j7×V) (q:List j7×Addr×Value)=>p.1=q.1/\H q.2.1=some (.tup (p.1.map kV))/\zm p.2 q.2.2) kvs xs/\
  ∃o es J,h.get? a=some o/\o.ExactDict/\o.data=.dict es J/\es.toList=xs.map (entryOfKey (tupleKind (ju P w)))/\(xs.map (·.1)).Nodup
 |.set S n=>h.SetOf (intKind P w) a S n
 |.ins C dx fs=>H dx=some (.own a)/\fs.length<=1000/\dx≠a/\h.get? a=some (PySem.W.instObj C dx)/\
  ∃mA,h.Ns1 dx mA/\(∀f,du (fs.lookup f) (mA f))/\PySem.Within mA (fs.map (·.1))
 |.own _=>∃o,h.get? a=some o
 |.xd fs=>∃mA,h.Ns1 a mA/\∀f,du (fs.lookup f) (mA f)
 |.rng lo hi=>∃t u v,h.get? a=some { cls:=.type "range",data:=.fields #[.int lo t,.int hi u,.int 1 v] }
 |.frz o u=>h.get? a=some o/\x4 H h a u
 |.tbl ps=>h.get? a=some { cls:=.none,data:=.fields ps }
 |.met f x=>h.get? a=some (PySem.W.methodObj (.ref f) (.ref x))
 |.ext I=>I h/\(∃o,h.get? a=some o)/\∀h1 h2:Heap,I h1->(∀o,h1.get? a=some o->h2.get? a=some o)->I h2
def cH(H:Hp)(h:Heap):Prop:=∀a o,H a=some o->x4 P w H h a o
end
section
variable {P:Program}{w:World}{H H':Hp}{o:HO}
theorem x4.lt(x:x4 P w H h a o):a<h.objs.size:=by
 cases o with
 |lst J=>obtain⟨_,_,_,_,e⟩:=x;exact At e
 |tup J=>obtain⟨_,_,_,p⟩:=x;exact p.lt
 |dK I=>obtain⟨_,_,_,_,o,_,_,e,_⟩:=x;exact At e
 |dT I=>obtain⟨_,_,_,_,o,_,_,e,_⟩:=x;exact At e
 |set S n=>obtain⟨o,_,_,_,e,_⟩:=x;exact At e
 |ins C U fs=>obtain⟨_,_,_,e,_⟩:=x;exact At e
 |own y=>obtain⟨_,e⟩:=x;exact At e
 |xd fs=>obtain⟨_,⟨_,_,_,e,_⟩,_⟩:=x;exact At e
 |rng lo g=>obtain⟨_,_,_,e⟩:=x;exact At e
 |frz j u=>obtain⟨e,_⟩:=x;exact At e
 |tbl l=>exact At (show h.get? a=some _ from x)
 |met f y=>exact At (show h.get? a=some _ from x)
 |ext r=>obtain⟨_,⟨_,e⟩,_⟩:=x;exact At e
theorem Paired.mapP{α β:Type}{F G:α->β->Prop}:∀{I:List α} {J:List β},Paired F I J->(∀a b,F a b->G a b)->Paired G I J
 |_,_,.nil,_=>.nil
 |_,_,.cons r t,f=>.cons (f _ _ r) (Paired.mapP t f)
abbrev DS:=@Paired.mapP
theorem x4.stay(x:x4 P w H h a o)(k:∀b u,(b=a\/H b=some (.own a))->h.get? b=some u->h'.get? b=some u)
 (ho:∀b,H b=some (.own a)->H' b=some (.own a)) (ht:∀b xs,H b=some (.tup xs)->H' b=some (.tup xs)):x4 P w H' h' a o:=by
 induction o with
 |lst xs=>obtain⟨z,g,n,r,e⟩:=x;exact⟨z,g,n,r,k _ _ (.inl rfl) e⟩
 |tup xs=>obtain⟨z,g,r,I,e,c⟩:=x;exact⟨z,g,r,I,k _ _ (.inl rfl) e,c⟩
 |dK j=>obtain⟨z,y,vs,r,I,J,U,e,c⟩:=x;exact⟨z,y,vs,r,I,J,U,k _ _ (.inl rfl) e,c⟩
 |dT j=>
  obtain⟨z,y,xs,r,I,J,U,e,c⟩:=x;exact⟨z,y,xs,DS r λp q z=>⟨z.1,ht _ _ z.2.1,z.2.2⟩,I,J,U,k _ _ (.inl rfl) e,c⟩
 |set S n=>obtain⟨I,J,U,t,e,c⟩:=x;exact⟨I,J,U,t,k _ _ (.inl rfl) e,c⟩
 |ins C dx fs=>
  obtain⟨d,z,ne,e,l,⟨T,J,U,e2,c⟩,r⟩:=x;exact⟨ho _ d,z,ne,k _ _ (.inl rfl) e,l,⟨T,J,U,k _ _ (.inr d) e2,c⟩,r⟩
 |own y=>obtain⟨I,e⟩:=x;exact⟨I,k _ _ (.inl rfl) e⟩
 |xd fs=>obtain⟨l,⟨T,J,U,e,c⟩,r⟩:=x;exact⟨l,⟨T,J,U,k _ _ (.inl rfl) e,c⟩,r⟩
 |rng lo hi=>obtain⟨t,u,v,e⟩:=x;exact⟨t,u,v,k _ _ (.inl rfl) e⟩
 |frz I u ih=>obtain⟨e,q⟩:=x;exact⟨k _ _ (.inl rfl) e,ih q⟩
 |tbl ps=>
  have e:h.get? a=some { cls:=.none,data:=.fields ps }:=x;show h'.get? a=some { cls:=.none,data:=.fields ps };exact k a _ (.inl rfl) e
 |met f y=>
  have e:h.get? a=some (PySem.W.methodObj (.ref f) (.ref y)):=x;show h'.get? a=some (PySem.W.methodObj (.ref f) (.ref y));exact k a _ (.inl rfl) e
 |ext φ=>obtain⟨p,⟨o,e⟩,st⟩:=x;exact⟨st _ _ p λo q=>k _ _ (.inl rfl) q,⟨o,k _ _ (.inl rfl) e⟩,st⟩
theorem cH.lt(x:cH P w H h)(e:H a=some o):a<h.objs.size:=(x a o e).lt
theorem cH.fresh(x:cH P w H h)(e:h.objs.size<=a):H a=none:=by cases q:H a with|none=>rfl|some u=>exact absurd (AH (x.lt q) e) (Cp _)
theorem cH.kept(x:cH P w H h)(k:∀b u,h.get? b=some u->h'.get? b=some u):cH P w H h':=λa o e=>
 (x a o e).stay (λb u _ q=>k b u q) (λ_ q=>q) λ_ _ q=>q
theorem cH.laid(x:cH P w H h)(k:∀b u,h.get? b=some u->h'.get? b=some u)(U:h.objs.size<=a)(new:x4 P w (upd H a o) h' a o):cH P w (upd H a o) h':=λb u e=>by
 have I:=x.fresh U;by_cases J:b=a
 ·subst J;rw[zq] at e;cases e;exact new
 ·rw[qp J] at e;exact(x b u e).stay (λc v _ q=>k c v q) (λc q=>by rw[qp (zy q I)];exact q) λc g q=>by rw[qp (zy q I)];exact q
end
def Rd(H:Hp)(a:Addr)(u:HO):Prop:=H a=some u\/∃o,H a=some (.frz o u)
theorem Rd.ok{P:Program}{w:World}{H:Hp}{u:HO}(r:Rd H a u)(x:cH P w H h):x4 P w H h a u:=by
 rcases r with r|⟨o,r⟩
 ·exact x a u r
 ·obtain⟨_,q⟩:=x a _ r;exact q
def Mut:Option HO->Prop
 |some (.lst _)=>True
 |some (.dK _)=>True
 |some (.dT _)=>True
 |some (.set _ _)=>True
 |some (.ins _ _ _)=>True
 |some (.ext _)=>True
 |_=>False
section
variable {P:Program}{w:World}{H:Hp}{x e:Addr}{o':HO}
theorem cH.write(ok:cH P w H h)(g:Mut (H x))(t:e=x\/H e=some (.own x))(k:∀b u,b≠e->h.get? b=some u->h'.get? b=some u)(p:∃u,h'.get? e=some u)
 (new:x4 P w (upd H x o') h' x o'):cH P w (upd H x o') h':=λb u q=>by
 have J:∀c y,H c=some (.own y)->c≠x:=λc y r z=>by subst z;rw[r] at g;exact g
 have U:∀c j,H c=some (.tup j)->c≠x:=λc j r z=>by subst z;rw[r] at g;exact g
 by_cases l:b=x
 ·subst l;rw[zq] at q;cases q;exact new
 ·rw[qp l] at q;by_cases I:b=e
  ·have C:H b=some (.own x):=by
    rcases t with z|z
    ·exact absurd (I.trans z) l
    ·rw[I];exact z
   rw[q] at C;cases C;obtain⟨v,T⟩:=p;exact⟨v,by rw[I];exact T⟩
  ·refine(ok b u q).stay (λc v o r=>k c v ?_ r) (λc r=>by rw[qp (J c b r)];exact r) λc j r=>by rw[qp (U c j r)];exact r
   rcases o with rfl|o
   ·exact I
   ·rintro rfl;rcases t with z|z
    ·exact J c b o z
    ·rw[o] at z;cases z;exact l rfl
end
structure Un(fs ex:List Addr)(H H':Hp)(h h':Heap):Prop where
 keep:∀b o,h.get? b=some o->H b=none->b∉fs->b∉ex->h'.get? b=some o
 slot:∀b o,h.get? b=some o->H b=none->b∈fs->b∉ex->∃sl,h'.get? b=some { o with slots:=sl }
 free:∀b o,h.get? b=some o->H b=none->b∉ex->H' b=none
 there:∀b o,h.get? b=some o->b∉ex->∃o',h'.get? b=some o'
 tups:∀b xs,H b=some (.tup xs)->H' b=some (.tup xs)
 frzs:∀b o u,H b=some (.frz o u)->H' b=some (.frz o u)
 tbls:∀b ps,H b=some (.tbl ps)->∃more,H' b=some (.tbl (ps++more))
section
variable {fs fs' ex ex':List Addr}{H H1 H2:Hp}{h1 h2:Heap}{x e:Addr}{o:HO}
theorem Un.any(u:Un fs ex H H1 h h1){I:Obj}(q:h.get? b=some I)(n:H b=none)(J:b∉ex):∃g,h1.get? b=some { I with slots:=g }:=by
 by_cases U:b∈fs
 ·exact u.slot b I q n U J
 ·exact⟨I.slots,u.keep b I q n U J⟩
theorem Un.kept(k:∀b u,h.get? b=some u->h'.get? b=some u):Un fs ex H H h h':=
 ⟨λb I q _ _ _=>k b I q,λb I q _ _ _=>⟨I.slots,k b I q⟩,λ_ _ _ n _=>n,λb I q _=>⟨I,k b I q⟩,λ_ _ q=>q,λ_ _ _ q=>q,λ_ J q=>⟨#[],by rw[q];simp⟩⟩
theorem Un.refl:Un fs ex H H h h:=Un.kept λ_ _ q=>q
theorem Un.laid(k:∀b u,h.get? b=some u->h'.get? b=some u)(J:h.objs.size<=a)(I:H a=none):Un fs ex H (upd H a o) h h' where
 keep:=λb u q _ _ _=>k b u q
 slot:=λb u q _ _ _=>⟨u.slots,k b u q⟩
 free:=λb u q n _=>by rw[qp (A1 (AH (At q) J))];exact n
 there:=λb u q _=>⟨u,k b u q⟩
 tups:=λb U q=>by rw[qp (zy q I)];exact q
 frzs:=λb u U q=>by rw[qp (zy q I)];exact q
 tbls:=λb g q=>⟨#[],by rw[qp (zy q I),q];simp⟩
theorem Un.write(J:Mut (H x))(p:e=x\/H e=some (.own x))(k:∀b u,b≠e->h.get? b=some u->h'.get? b=some u)(U:∃u,h'.get? e=some u):Un fs ex H (upd H x o) h h':=by
 have j:∀b,H b=none->b≠x:=λb n z=>by subst z;rw[n] at J;exact J
 have l:∀b,H b=none->b≠e:=λb n z=>by
  subst z;rcases p with r|r
  ·exact j b n r
  ·rw[n] at r;cases r
 have g:∀b u,H b=some u->¬Mut (some u)->b≠x:=λb u q nm z=>by subst z;rw[q] at J;exact nm J
 refine⟨λb u q n _ _=>k b u (l b n) q,λb u q n _ _=>⟨u.slots,k b u (l b n) q⟩,λb u q n _=>by rw[qp (j b n)];exact n,λb u q _=>?_,
  λb t q=>by rw[qp (g b _ q λz=>z)];exact q,λb u t q=>by rw[qp (g b _ q λz=>z)];exact q,λb C q=>⟨#[],by rw[qp (g b _ q λz=>z),q];simp⟩⟩
 by_cases I:b=e
 ·subst I;exact U
 ·exact⟨u,k b u I q⟩
end
def trk(h:Heap)(H:Hp):List Addr:=(List.range h.objs.size).filter λa=>(H a).isSome
def oM(h:Heap)(H:Hp):Heap:=PySem.W.hideAll h (trk h H)
theorem uP(h:Heap)(H:Hp):(oM h H).objs.size=h.objs.size:=PySem.W.hideAll_size _ _
theorem yx{H:Hp}{o:Obj}(e:h.get? b=some o)(n:H b=none):(oM h H).get? b=some o:=
 Cu _ e λI=>by have q:(H b).isSome=true:=(AO.mp I).2;rw[n] at q;simp at q
theorem abi{H:Hp}{o:Obj}(e:(oM h H).get? b=some o):h.get? b=some o/\H b=none:=by
 have I:h.get? b=some o:=B8 (trk h H) e;refine⟨I,?_⟩;cases q:H b with
 |none=>rfl
 |some x=>
  have J:b∈trk h H:=AO.mpr ⟨A5.mpr (At I),by simp[q]⟩;have z:(oM h H).get? b=none:=Bu (trk h H) J;rw[z] at e;cases e
end L2
variable {xs zs:List L2.V}{H H' H₀:L2.Hp}{v:L2.V}
namespace L2
open PySem PySem.Spec PyProof.Rows
structure Mod(K:Ae)(mg:Str->Option Value)(base:Heap):Prop where
 kin:K.In base
 glob:base.Ns mainGlobals mg
 blt:∃mb,base.Ns builtinsNs mb/\∀x:Str,x ≠ "__name__" -> mb x=bootBuiltins x
 nolimit:base.NoLimit
structure Cx where
 prog:Program
 w:World
 K:Ae
 mg:Str->Option Value
 base:Heap
 A:Around
 N:List Str
 s₀:Shared
 H₀:Hp
 env:Env
 outer:List Env
 stack:List Env
 ex:List Addr
 fn:Str->Bool
 calm:Bool
 pn:List (Addr×Obj)
 xe:Value->Shared->Prop
def aa(l:List Env):List Addr:=l.filterMap (·.frame)
abbrev Cx.fs(X:Cx):List Addr:=aa X.outer
def Vis(I:Scope)(x:Str):Prop:=I.names.lookup x=some .local\/I.names.lookup x=some .cell\/I.names.lookup x=some .free
def xR(I:Scope)(x:Str):Prop:=I.names.lookup x=some .local\/I.names.lookup x=some .cell
def aod(env:Env)(h:Heap)(m:Str->Option Value)(x:Str)(u:Value):Prop:=
 (env.kindOf x=some .local/\m x=some u)\/((env.kindOf x=some .cell\/env.kindOf x=some .free)/\∃c,env.cells.lookup x=some c/\h.IsCell c (some u))
structure Cx.Ok(X:Cx):Prop where
 mod:Mod X.K X.mg X.base
 kind:X.env.scope.kind=.function
 glob:X.env.globals=mainGlobals
 blt:X.env.builtins=builtinsNs
 above:X.s₀.heap.objs.size<=X.env.locals
 inj:∀x y c,X.env.cells.lookup x=some c->X.env.cells.lookup y=some c->x=y
 has:∀x,(X.env.kindOf x=some .cell\/X.env.kindOf x=some .free)->∃c,X.env.cells.lookup x=some c
 cab:∀x c,X.fn x=true->X.env.cells.lookup x=some c->X.s₀.heap.objs.size<=c
 hd:X.calm=true->X.A.handled=none
 frames:X.A.frames=some X.stack
 stk:X.stack=X.outer\/(X.stack=X.env::X.outer/\X.env.frame=some X.env.locals)
 exf:∀b∈X.ex,b≠X.env.locals/\∀x c,X.env.cells.lookup x=some c->c≠b
 bs:∀b o,X.base.get? b=some o->X.s₀.heap.get? b=some o/\X.H₀ b=none
 bsz:X.base.objs.size<=X.s₀.heap.objs.size
 noex:∀b o,X.base.get? b=some o->b∉X.ex
 exfs:∀b∈X.ex,b∉X.fs
 funs:X.s₀.heap.FunFrames X.base X.outer
 frf:∀b∈X.fs,X.H₀ b=none
structure qy(X:Cx)(pins:List (Addr×Obj))(σ:List (Option V))(H:Hp)(s:Shared):Prop where
 ok:X.Ok
 os:s.os=X.s₀.os
 bare:AllBare s.gens
 base:Un X.fs X.ex X.H₀ H X.s₀.heap s.heap
 loc:∃m,s.heap.Ns X.env.locals m/\∀(i:Nat) (x:Str) (v:V),X.N[i]?=some x->σ[i]?=some (some v)->Vis X.env.scope x->∃u,zm v u/\aod X.env s.heap m x u
 cell:∀x c,X.env.cells.lookup x=some c->∃v,s.heap.IsCell c v
 free:H X.env.locals=none
 freeC:∀x c,X.env.cells.lookup x=some c->H c=none
 pin:∀p∈X.pn++pins,s.heap.get? p.1=some p.2/\H p.1=none/\p.1≠X.env.locals/\p.1∉X.fs/\∀v,p.2.data≠.cell v
 hok:cH X.prog X.w H s.heap
 len:σ.length=X.N.length
 tk:0<s.toks
section
variable {X:Cx}{σ:List (Option V)}
theorem Cx.Ok.nofr(ok:X.Ok){o:Obj}(e:X.base.get? b=some o):b∉X.fs:=λI=>by have:=(ok.funs.mem I).1;rw[e] at this;cases this
theorem qy.bs(I:qy X pins σ H s):∀b o,X.base.get? b=some o->s.heap.get? b=some o/\H b=none:=λb o e=>
 ⟨I.base.keep b o (I.ok.bs b o e).1 (I.ok.bs b o e).2 (I.ok.nofr e) (I.ok.noex b o e),I.base.free b o (I.ok.bs b o e).1 (I.ok.bs b o e).2 (I.ok.noex b o e)⟩
theorem qy.bk(I:qy X pins σ H s):∀b o,X.base.get? b=some o->s.heap.get? b=some o:=λb o e=>(I.bs b o e).1
theorem qy.mod(I:qy X pins σ H s):Mod X.K X.mg X.base:=I.ok.mod
theorem qy.kIn(I:qy X pins σ H s):X.K.In s.heap:=I.ok.mod.kin.keeps I.bk
theorem qy.nolimit(I:qy X pins σ H s):s.heap.NoLimit:=I.ok.mod.nolimit.keeps I.bk
theorem qy.lt(I:qy X pins σ H s):X.env.locals<s.heap.objs.size:=let ⟨_,J,_⟩:=I.loc;J.lt
theorem qy.sz(I:qy X pins σ H s):X.s₀.heap.objs.size<=s.heap.objs.size:=AI I.ok.above (Bl I.lt)
theorem qy.nofs(I:qy X pins σ H s)(h:s.heap.objs.size<=a):a∉X.fs:=λJ=>by obtain⟨_,o,U,_⟩:=I.ok.funs.mem J;exact absurd (AH (At U) (AI I.sz h)) (Cp _)
theorem qy.cne(I:qy X pins σ H s):∀x c,X.env.cells.lookup x=some c->c≠X.env.locals:=λx c e z=>by obtain⟨v,o,g,hd⟩:=I.cell x c e;obtain⟨m,⟨j,l,p,J,U,_⟩,_⟩:=I.loc;rw[z,J] at g;cases g;rw[U] at hd;cases hd
theorem qy.funs(I:qy X pins σ H s):s.heap.FunFrames X.base X.outer:=by
 have all:∀(l:List Env),(∀b∈aa l,b∈X.fs)->X.s₀.heap.FunFrames X.base l->s.heap.FunFrames X.base l:=by
  intro l
  induction l with
  |nil=>intro _ _;trivial
  |cons p r t=>
   intro j C;obtain⟨T,⟨L,o,J,hn,ho,hd⟩,hr⟩:=C;have U:L∈X.fs:=j L (by unfold aa;rw[Cv,J];exact Ah);obtain⟨sl,e⟩:=I.base.slot L o ho (I.ok.frf L U) U λz=>I.ok.exfs L z U;exact⟨T,⟨L,_,J,hn,e,hd⟩,t (λb g=>j b (by unfold aa;rw[Cv,J];exact Ac _ g)) hr⟩
 exact all X.outer (λ_ g=>g) I.ok.funs
theorem qy.stack(I:qy X pins σ H s):s.heap.FunFrames X.base X.stack:=by
 rcases I.ok.stk with e|⟨e,J⟩
 ·rw[e];exact I.funs
 ·rw[e];obtain⟨m,U,_⟩:=I.loc;refine .cons (by rw[I.ok.kind];decide) J U ?_ I.funs;exact Heap.get?_none_of_le (AI I.ok.bsz I.ok.above)
theorem qy.stkSub(I:qy X pins σ H s):∀b∈aa X.stack,b∈X.env.locals::X.fs:=λb J=>by
 rcases I.ok.stk with e|⟨e,U⟩
 ·rw[e] at J;exact Ac _ J
 ·rw[e] at J;unfold aa at J;rw[Cv,U] at J;exact J
theorem qy.stkFree(I:qy X pins σ H s):∀b∈aa X.stack,H b=none:=λb J=>by
 rcases Ap.mp (I.stkSub b J) with e|J
 ·rw[e];exact I.free
 ·obtain⟨_,o,U,_⟩:=I.ok.funs.mem J;exact I.base.free b o U (I.ok.frf b J) λz=>I.ok.exfs b z J
theorem qy.step{g':Array GenState}{d':Drawn}(I:qy X pins σ H s)
 (U:∀b∈ch,(b∈X.ex\/X.s₀.heap.objs.size<=b)/\b≠X.env.locals/\(∀x c,X.env.cells.lookup x=some c->c≠b)/\∀p∈X.pn++pins,p.1≠b)
 (keep:∀b o,b≠X.env.locals->b∉X.fs->b∉ch->s.heap.get? b=some o->H b=none->h'.get? b=some o)
 (slot:∀b o,b≠X.env.locals->b∈X.fs->b∉ch->s.heap.get? b=some o->H b=none->∃sl,h'.get? b=some { o with slots:=sl }) (free:∀b o,b∉ch->s.heap.get? b=some o->H b=none->H' b=none)
 (there:∀b o,b∉ch->s.heap.get? b=some o->∃o',h'.get? b=some o')
 (tups:∀b xs,H b=some (.tup xs)->H' b=some (.tup xs)) (frzs:∀b o u,H b=some (.frz o u)->H' b=some (.frz o u)) (tbls:∀b ps,H b=some (.tbl ps)->∃more,H' b=some (.tbl (ps++more)))
 (ns:∀m,s.heap.Ns X.env.locals m->h'.Ns X.env.locals m) (hok:cH X.prog X.w H' h') (hg:AllBare g') (ht:0<t':=by walk_at "t"):
 qy X pins σ H' { s with heap:=h',gens:=g',drawn:=d',toks:=t' }:=by
 have wu:∀b o,X.s₀.heap.get? b=some o->b≠X.env.locals:=λb o e=>A1 (AH (At e) I.ok.above);have t:∀b o,X.s₀.heap.get? b=some o->b∉X.ex->b∉ch:=λb o e J T=>by
  rcases (U b T).1 with z|z
  ·exact J z
  ·exact absurd (AH (At e) z) (Cp _)
 have g:∀x c,X.env.cells.lookup x=some c->∀v,s.heap.IsCell c v->h'.IsCell c v:=λx c e v ⟨o,ho,hd⟩=>by
  have j:c∉ch:=λz=>(U c z).2.2.1 x c e rfl;by_cases hc:c∈X.fs
  ·obtain⟨sl,q⟩:=slot c o (I.cne x c e) hc j ho (I.freeC x c e);exact⟨_,q,hd⟩
  ·exact⟨o,keep c o (I.cne x c e) hc j ho (I.freeC x c e),hd⟩
 refine⟨I.ok,I.os,hg,⟨λb o e n T J=>?_,λb o e n T J=>?_,λb o e n J=>?_,λb o e J=>?_,λb xs e=>tups b xs (I.base.tups b xs e),λb o xs e=>frzs b o xs (I.base.frzs b o xs e),λb ps e=>?_⟩,?_,λx c e=>?_,?_,λx c e=>?_,λp hp=>?_,hok,I.len,ht⟩
 ·exact keep b o (wu b o e) T (t b o e J) (I.base.keep b o e n T J) (I.base.free b o e n J)
 ·obtain⟨sl,C⟩:=I.base.slot b o e n T J;obtain⟨a1,e2⟩:=slot b _ (wu b o e) T (t b o e J) C (I.base.free b o e n J);exact⟨a1,e2⟩
 ·obtain⟨o',C⟩:=I.base.there b o e J;exact free b o' (t b o e J) C (I.base.free b o e n J)
 ·obtain⟨o',C⟩:=I.base.there b o e J;exact there b o' (t b o e J) C
 ·obtain⟨m1,C⟩:=I.base.tbls b ps e;obtain⟨m2,e2⟩:=tbls b _ C;exact⟨m1++m2,by rw[e2,Array.append_assoc]⟩
 ·obtain⟨m,hn,hl⟩:=I.loc;refine⟨m,ns m hn,λi x v C e2 e3=>?_⟩;obtain⟨u,r,l⟩:=hl i x v C e2 e3;refine⟨u,r,?_⟩;rcases l with l|⟨k,c,e,z⟩
  ·exact .inl l
  ·exact .inr ⟨k,c,e,g x c e _ z⟩
 ·obtain⟨v,z⟩:=I.cell x c e;exact⟨v,g x c e v z⟩
 ·obtain⟨m,⟨o,_,_,ho,_⟩,_⟩:=I.loc;exact free _ o (λz=>(U _ z).2.1 rfl) ho I.free
 ·obtain⟨v,o,ho,hd⟩:=I.cell x c e;exact free c o (λz=>(U c z).2.2.1 x c e rfl) ho (I.freeC x c e)
 ·obtain⟨e,n,ne,nf,d⟩:=I.pin p hp;have j:p.1∉ch:=λz=>(U p.1 z).2.2.2 p hp rfl;exact⟨keep p.1 p.2 ne nf j e n,free p.1 p.2 j e n,ne,nf,d⟩
theorem qy.un(I:qy X pins σ H s)(u:Un X.fs [] H H' s.heap h')(hok:cH X.prog X.w H' h')(T:0<t':=by walk_at "t"):qy X pins σ H' { s with heap:=h',toks:=t' }:=by obtain⟨m,⟨o,es,ep,l,r⟩,_⟩:=id I.loc;obtain⟨sl,p⟩:=u.any l I.free (by simp);exact I.step (g':=s.gens) (d':=s.drawn) (ch:=[]) (λ_ z=>nomatch z) (λb o _ U _ e n=>u.keep b o e n U (by simp)) (λb o _ U _ e n=>u.slot b o e n U (by simp)) (λb o _ e n=>u.free b o e n (by simp)) (λb o _ e=>u.there b o e (by simp)) u.tups u.frzs u.tbls (λm' t=>by obtain⟨o',g,j,J,C⟩:=t;rw[l] at J;cases J;exact⟨_,g,j,p,C⟩) hok I.bare
theorem qy.call{g':Array GenState}{d':Drawn}(I:qy X pins σ H s)(u:Un (aa X.stack) ch H H' s.heap h')(hok:cH X.prog X.w H' h')(T:AllBare g')
 (U:∀b∈ch,(b∈X.ex\/X.s₀.heap.objs.size<=b)/\b≠X.env.locals/\(∀x c,X.env.cells.lookup x=some c->c≠b)/\∀p∈X.pn++pins,p.1≠b) (ht:0<t':=by walk_at "t"):
 qy X pins σ H' { s with heap:=h',gens:=g',drawn:=d',toks:=t' }:=by
 obtain⟨m,⟨o,es,ep,C,r⟩,_⟩:=id I.loc;obtain⟨sl,j⟩:=u.any C I.free λz=>(U _ z).2.1 rfl;exact I.step (ch:=ch) U (λb o j hb J e n=>u.keep b o e n (λz=>(Ap.mp (I.stkSub b z)).elim j hb) J) (λb o _ _ J e n=>u.any e n J) (λb o J e n=>u.free b o e n J) (λb o J e=>u.there b o e J) u.tups u.frzs u.tbls (λm' hm=>by obtain⟨o',l,t,g,r'⟩:=hm;rw[C] at g;cases g;exact⟨_,l,t,j,r'⟩) hok T
theorem qy.turned{it:Addr}(I:qy X pins σ H s)(k:∀b o,b≠it->s.heap.get? b=some o->h'.get? b=some o)(j:H it=none)(g:it≠X.env.locals)
 (h1:it∈X.ex\/X.s₀.heap.objs.size<=it) (h2:∀x c,X.env.cells.lookup x=some c->c≠it) (h3:∀p∈X.pn++pins,p.1≠it) (ht:0<t':=by walk_at "t"):qy X pins σ H { s with heap:=h',toks:=t' }:=by
 have U:∀b u,H b=some u->b≠it:=λb u e z=>by rw[z,j] at e;cases e
 refine I.step (g':=s.gens) (d':=s.drawn) (ch:=[it]) (λb l=>?_) (λb o _ _ J e _=>k b o (λz=>J (by simp[z])) e) (λb o _ _ J e _=>⟨o.slots,k b o (λz=>J (by simp[z])) e⟩) (λ_ _ _ _ n=>n)
  (λb o J e=>⟨o,k b o (λz=>J (by simp[z])) e⟩) (λ_ _ e=>e) (λ_ _ _ e=>e) (λb ps e=>⟨#[],by rw[e];simp⟩) (λm t=>?_) (λb u e=>?_) I.bare
 ·have e:b=it:=by simpa using l
  subst e;exact⟨h1,g,h2,h3⟩
 ·obtain⟨o,C,T,ho,r⟩:=t;exact⟨o,C,T,k _ o (AW g) ho,r⟩
 ·refine(I.hok b u e).stay (λc v J q=>k c v ?_ q) (λ_ q=>q) λ_ _ q=>q;rcases J with z|z
  ·rw[z];exact U b u e
  ·exact U c _ z
theorem qy.tok(I:qy X pins σ H s)(t:Nat)(J:0<t:=by walk_at "t"):qy X pins σ H { s with toks:=t }:=I.un (h':=s.heap) (t':=t) Un.refl I.hok
theorem qy.kept(I:qy X pins σ H s)(k:∀b u,s.heap.get? b=some u->h'.get? b=some u)(J:0<t':=by walk_at "t"):qy X pins σ H { s with heap:=h',toks:=t' }:=I.un (Un.kept k) (I.hok.kept k)
theorem qy.laid{o:HO}(I:qy X pins σ H s)(k:∀b u,s.heap.get? b=some u->h'.get? b=some u)(J:s.heap.objs.size<=a)(new:x4 X.prog X.w (upd H a o) h' a o)(U:0<t':=by walk_at "t"):
 qy X pins σ (upd H a o) { s with heap:=h',toks:=t' }:=I.un (Un.laid k J (I.hok.fresh J)) (I.hok.laid k J new)
theorem qy.write{x e:Addr}{o:HO}(I:qy X pins σ H s)(U:Mut (H x))(g:e=x\/H e=some (.own x))(k:∀b u,b≠e->s.heap.get? b=some u->h'.get? b=some u)(J:∃u,h'.get? e=some u)
 (new:x4 X.prog X.w (upd H x o) h' x o) (j:0<t':=by walk_at "t"):qy X pins σ (upd H x o) { s with heap:=h',toks:=t' }:=I.un (Un.write U g k J) (I.hok.write U g k J new)
theorem qy.weak{n9:List (Option V)}(I:qy X pins σ H s)(U:n9.length=σ.length)(w:∀(i:Nat) v,n9[i]?=some (some v)->σ[i]?=some (some v)):qy X pins n9 H s:=
 ⟨I.ok,I.os,I.bare,I.base,let ⟨m,g,J⟩:=I.loc;⟨m,g,λi x v j l o=>J i x v j (w i v l) o⟩,I.cell,I.free,I.freeC,I.pin,I.hok,U.trans I.len,I.tk⟩
theorem qy.pins_of{J:List (Addr×Obj)}(I:qy X pins σ H s)(h:∀p∈J,s.heap.get? p.1=some p.2/\H p.1=none/\p.1≠X.env.locals/\p.1∉X.fs/\∀v,p.2.data≠.cell v):qy X J σ H s:=
 ⟨I.ok,I.os,I.bare,I.base,I.loc,I.cell,I.free,I.freeC,λp U=>(Ao.mp U).elim (λz=>I.pin p (Aq _ z)) (h p),I.hok,I.len,I.tk⟩
theorem jO{N:List Str}(I:N.Nodup)(a:N[i]?=some x)(b:N[j]?=some x):i=j:=by obtain⟨h1,J⟩:=AL.mp a;obtain⟨h2,U⟩:=AL.mp b;exact(List.getElem_inj I).mp (J.trans U.symm)
theorem lL{Q:Unit->Shared->Prop}(I:qy X pins σ H s)(hN:X.N.Nodup)(hi:X.N[i]?=some x)(t:xR X.env.scope x)(r:zm v u)
 (h:∀s',qy X pins (σ.set i (some v)) H s'->(∃a,Heap.SameBut a s.heap s'.heap/\(a=X.env.locals\/X.env.cells.lookup x=some a))->(X.env.kindOf x=some .local->∃m',s'.heap.Ns X.env.locals m'/\m' x=some u)->Q () s') (hf:X.fn x=true\/X.env.scope.names.lookup x=some .local:=by first|exact .inl rfl|exact .inr rfl|assumption):wpAny M A (storeName X.env x u) Q E s:=by
 obtain⟨m,hn,hl⟩:=id I.loc;have a3:(X.env.scope.kind==.class||(X.env.scope.kind==.module&&X.env.locals != X.env.globals))=false:=by rw[I.ok.kind];rfl
 have a1:i<σ.length:=by rw[I.len];exact(AL.mp hi).1
 have cne:=I.cne;have U:∀{a:Addr} {h':Heap},(∃o,s.heap.get? a=some o/\H a=none)->Heap.SameBut a s.heap h'->cH X.prog X.w H h':=λ{a h'} ha J b ob e=>by
  obtain⟨_,_,C⟩:=ha;refine(I.hok b ob e).stay (λc w' l q=>(J.2 c ?_).trans q) (λ_ q=>q) λ_ _ q=>q;rintro rfl;rcases l with rfl|l
  ·rw[C] at e;cases e
  ·rw[C] at l;cases l
 rcases t with T|T
 ·refine wpAny_storeName_local T hn (λh' a4 J=>?_) a3;obtain⟨oL,_,_,ba,_⟩:=id hn;refine h _ ⟨I.ok,I.os,I.bare,⟨λb o e n hb t=>?_,λb o e n hb t=>?_,I.base.free,λb o e t=>?_,I.base.tups,I.base.frzs,I.base.tbls⟩,⟨_,a4,λj y v' g e2 e3=>?_⟩,λy c e=>?_,I.free,I.freeC,λp hp=>?_,U ⟨oL,ba,I.free⟩ J,by simpa using I.len,by first|exact I.tk|exact C3 _⟩ ⟨_,J,.inl rfl⟩ (λ_=>⟨_,a4,by simp⟩)
  ·exact(J.2 b (A1 (AH (At e) I.ok.above))).trans (I.base.keep b o e n hb t)
  ·obtain⟨sl,g⟩:=I.base.slot b o e n hb t;exact⟨sl,(J.2 b (A1 (AH (At e) I.ok.above))).trans g⟩
  ·obtain⟨o',g⟩:=I.base.there b o e t;exact⟨o',(J.2 b (A1 (AH (At e) I.ok.above))).trans g⟩
  ·by_cases hj:j=i
   ·subst hj;rw[hi] at g;cases g;rw[BE a1] at e2;cases e2;exact⟨u,r,.inl ⟨T,by simp⟩⟩
   ·rw[Bp (AW hj)] at e2;obtain⟨u',r',q⟩:=hl j y v' g e2 e3;refine⟨u',r',?_⟩;rcases q with⟨k,e⟩|⟨k,c,e,z⟩
    ·refine .inl ⟨k,?_⟩;have:y≠x:=λe=>hj (jO hN g (e▸hi));simp[this,e]
    ·exact .inr ⟨k,c,e,z.sameBut J (cne y c e)⟩
  ·obtain⟨w',z⟩:=I.cell y c e;exact⟨w',z.sameBut J (cne y c e)⟩
  ·obtain⟨e,n,ne,nf,d⟩:=I.pin p hp;exact⟨(J.2 p.1 ne).trans e,n,ne,nf,d⟩
 ·have a2:X.fn x=true:=by
   rcases hf with z|z
   ·exact z
   ·rw[z] at T;cases T
  obtain⟨c,l⟩:=I.ok.has x (.inl T);obtain⟨w',z⟩:=I.cell x c l;refine wpAny_storeName_cell I.ok.kind T l z (λh' a5 J=>?_);obtain⟨oc,ag,al⟩:=id z;refine h { s with heap:=h' } ⟨I.ok,I.os,I.bare,⟨λb o e n hb t=>?_,λb o e n hb t=>?_,I.base.free,λb o e t=>?_,I.base.tups,I.base.frzs,I.base.tbls⟩,⟨m,hn.sameBut J (AW (cne x c l)),λj y v' g e2 e3=>?_⟩,λy c' e=>?_,I.free,I.freeC,λp hp=>?_,U ⟨oc,ag,I.freeC x c l⟩ J,by simpa using I.len,I.tk⟩ ⟨c,J,.inr l⟩ (λz=>by have e:=(show X.env.kindOf x=some .cell from T).symm.trans z;cases e)
  ·exact(J.2 b (A1 (AH (At e) (I.ok.cab x c a2 l)))).trans (I.base.keep b o e n hb t)
  ·obtain⟨sl,g⟩:=I.base.slot b o e n hb t;exact⟨sl,(J.2 b (A1 (AH (At e) (I.ok.cab x c a2 l)))).trans g⟩
  ·obtain⟨o',g⟩:=I.base.there b o e t;exact⟨o',(J.2 b (A1 (AH (At e) (I.ok.cab x c a2 l)))).trans g⟩
  ·by_cases hj:j=i
   ·subst hj;rw[hi] at g;cases g;rw[BE a1] at e2;cases e2;exact⟨u,r,.inr ⟨.inl T,c,l,a5⟩⟩
   ·rw[Bp (AW hj)] at e2;obtain⟨u',r',q⟩:=hl j y v' g e2 e3;refine⟨u',r',?_⟩;rcases q with q|⟨k,c',e,z'⟩
    ·exact .inl q
    ·refine .inr ⟨k,c',e,z'.sameBut J ?_⟩;rintro rfl;exact hj (jO hN g (I.ok.inj _ _ _ e l▸hi))
  ·by_cases aL:c'=c
   ·subst aL;exact⟨_,a5⟩
   ·obtain⟨w2,z2⟩:=I.cell y c' e;exact⟨w2,z2.sameBut J aL⟩
  ·obtain⟨e,n,ne,nf,d⟩:=I.pin p hp;refine⟨(J.2 p.1 ?_).trans e,n,ne,nf,d⟩;intro q;rw[q,ag] at e;have q':oc=p.2:=AN e;exact d w' (by rw[<-q'];exact al)
theorem cj{Q:Unit->Shared->Prop}(I:qy X pins σ H s)(J:X.N.Nodup)(hi:X.N[i]?=some x)(U:xR X.env.scope x)(r:zm v u)
 (h:∀s',qy X pins (σ.set i (some v)) H s'->Q () s') (g:X.fn x=true\/X.env.scope.names.lookup x=some .local:=by first|exact .inl rfl|exact .inr rfl|assumption):wpAny M A (storeName X.env x u) Q E s:=
 lL I J hi U r (λs' j _ _=>h s' j) g
theorem qy.call'(I:qy X pins σ H s)(U:s'.os=s.os)(u:Un (aa X.stack) ch H H' s.heap s'.heap)(hok:cH X.prog X.w H' s'.heap)(g:AllBare s'.gens)
 (J:∀b∈ch,(b∈X.ex\/X.s₀.heap.objs.size<=b)/\b≠X.env.locals/\(∀x c,X.env.cells.lookup x=some c->c≠b)/\∀p∈X.pn++pins,p.1≠b) (j:0<s'.toks:=by walk_at "t"):qy X pins σ H' s':=by
 obtain⟨o,g',d',t',l⟩:=s';have e:l=s.os:=U;subst e;exact I.call (g':=g') (t':=t') (d':=d') u hok g J j
end
abbrev XK:=Value->Option Addr->Hp->Prop
abbrev St:=List (Option V)
abbrev VK:=V->Hp->Prop
abbrev TE:=St->Hp->VK->Prop
abbrev TT:=St->Hp->(Bool->Hp->Prop)->Prop
abbrev TA:=St->Hp->(List V->Hp->Prop)->Prop
structure i8 where
 nx:St->Hp->Prop
 rt:VK
 bk:St->Hp->Prop:=λ_ _=>False
 ct:St->Hp->Prop:=λ_ _=>False
abbrev TS:=i8->St->Hp->Prop
def EP(X:Cx)(pins:List (Addr×Obj))(σ:St)(Q:VK)(u:Value)(s':Shared):Prop:=∃v H',qy X pins σ H' s'/\zm v u/\Q v H'
def TP(X:Cx)(pins:List (Addr×Obj))(σ:St)(Q:Bool->Hp->Prop)(b:Bool)(s':Shared):Prop:=∃H',qy X pins σ H' s'/\Q b H'
def AP(X:Cx)(pins:List (Addr×Obj))(σ:St)(Q:List V->Hp->Prop)(us:List Value)(s':Shared):Prop:=∃vs H',qy X pins σ H' s'/\zn vs us/\Q vs H'
def SP(X:Cx)(pins:List (Addr×Obj))(D:i8)(f:Flow)(s':Shared):Prop:=
 match f with
 |.next=>∃n9 H',qy X pins n9 H' s'/\D.nx n9 H'
 |.brk=>∃n9 H',qy X pins n9 H' s'/\D.bk n9 H'
 |.cont=>∃n9 H',qy X pins n9 H' s'/\D.ct n9 H'
 |.ret u=>∃v n9 H',qy X pins n9 H' s'/\zm v u/\D.rt v H'
def PE(X:Cx)(e:Expr)(t:TE):Prop:=
 ∀(pins:List (Addr×Obj)) (s:Shared) (σ:St) (H:Hp) (Q:VK),qy X pins σ H s->t σ H Q->wpAny (model X.prog X.w) X.A (eval e X.env) (EP X pins σ Q) X.xe s
def PT(X:Cx)(e:Expr)(t:TT):Prop:=
 ∀(pins:List (Addr×Obj)) (s:Shared) (σ:St) (H:Hp) (Q:Bool->Hp->Prop),qy X pins σ H s->t σ H Q->wpAny (model X.prog X.w) X.A (isTrue e X.env (eval e X.env)) (TP X pins σ Q) X.xe s
def PW(X:Cx)(e:Expr)(t:TT):Prop:=
 ∀(whole:Sem Value) (pins:List (Addr×Obj)) (s:Shared) (σ:St) (H:Hp) (Q:Bool->Hp->Prop),qy X pins σ H s->t σ H Q->wpAny (model X.prog X.w) X.A (isTrue e X.env whole) (TP X pins σ Q) X.xe s
theorem PW.pt{X:Cx}{t:TT}(h:PW X e t):PT X e t:=h _
def PA(X:Cx)(es:List Expr)(t:TA):Prop:=
 ∀(pos:Pos) (pins:List (Addr×Obj)) (s:Shared) (σ:St) (H:Hp) (Q:List V->Hp->Prop),qy X pins σ H s->t σ H Q->wpAny (model X.prog X.w) X.A (spliced (backTo pos (starEach es X.env))) (AP X pins σ Q) X.xe s
def PS(X:Cx)(st:Stmt)(t:TS):Prop:=
 ∀(pins:List (Addr×Obj)) (s:Shared) (σ:St) (H:Hp) (D:i8),qy X pins σ H s->t D σ H->wpAny (model X.prog X.w) X.A (exec st X.env) (SP X pins D) X.xe s
def fG(X:Cx)(st:List Stmt)(t:TS):Prop:=
 ∀(pins:List (Addr×Obj)) (s:Shared) (σ:St) (H:Hp) (D:i8),qy X pins σ H s->t D σ H->wpAny (model X.prog X.w) X.A (execs st X.env) (SP X pins D) X.xe s
theorem ki{t:Sem α}{Q I:α->Shared->Prop}(h:wpAny M A t Q E s)(J:∀a s,Q a s->I a s):wpAny M A t I E s:=AQ h J λ_ _ x=>x
theorem aI{t:Sem Value}{X:Cx}{σ:St}{Q:VK}{I:Value->Shared->Prop}(h:wpAny M A t (EP X pins σ Q) E s)(J:∀v s x H,qy X pins σ H s->zm x v->Q x H->I v s):wpAny M A t I E s:=ki h λv s ⟨x,H,a,b,c⟩=>J v s x H a b c
theorem vC{t:Sem (List Value)}{X:Cx}{σ:St}{Q:List V->Hp->Prop}{I:List Value->Shared->Prop}(h:wpAny M A t (AP X pins σ Q) E s)(J:∀v s x H,qy X pins σ H s->zn x v->Q x H->I v s):wpAny M A t I E s:=ki h λv s ⟨x,H,a,b,c⟩=>J v s x H a b c
end L2
variable {t:L2.TA}{r:L2.V->Option Int->Option Int->L2.Hp->L2.VK->Prop}{X:L2.Cx}{σ:L2.St}{tc:L2.TT}{ta:L2.TE}
namespace L2
open PySem PySem.Spec PyProof.Rows
section
def afl(i:Nat):TE:=λσ H Q=>∃v,σ[i]?=some (some v)/\Q v H
def tC(v:V):TE:=λ_ H Q=>Q v H
abbrev Ed(x:Str):Prop:=(x==("__debug__":Str))=false
abbrev Ee(x:Str):Prop:=(x==("__classdict__":Str))=false
theorem ag8(p:X.N[i]?=some x)(t:Vis X.env.scope x)(hd:Ed x:=by decide)(j:Ee x:=by decide):PE X (.Name x pos) (afl i):=by
 intro g s C H Q I h;obtain⟨v,e,h⟩:=h;obtain⟨m,T,hl⟩:=I.loc;obtain⟨u,r,l⟩:=hl i x v p e t;have xr:EP X g C Q u s:=⟨v,H,I,r,h⟩;rcases l with⟨U,hm⟩|⟨U,c,o,J⟩
 ·exact wpAny_Name (wpAny_loadName_local I.ok.kind U T hm xr) hd
 ·rcases U with U|U
  ·exact wpAny_Name (wpAny_loadName_cell I.ok.kind U o J xr) hd
  ·exact wpAny_Name (wpAny_loadName_free I.ok.kind U o J xr j) hd
theorem ah5{i j pos}:PE X (.Constant (.int i) j pos) (tC (.int i)):=λ_ _ _ H _ I h=>wpAny_Constant_int ⟨.int i,H,I.tok _,⟨_,rfl⟩,h⟩
theorem akv{b j pos}:PE X (.Constant (.bool b) j pos) (tC (.bl b)):=λ_ _ _ H _ I h=>Constant_bool ⟨.bl b,H,I,rfl,h⟩
theorem ahp{j pos}:PE X (.Constant .none j pos) (tC .non):=λ_ _ _ H _ I h=>Constant_none ⟨.non,H,I,rfl,h⟩
theorem bR{x j pos}:PE X (.Constant (.str x) j pos) (tC (.str x)):=λ_ _ _ H _ I h=>Calls.Constant_str ⟨.str x,H,I.tok _,⟨_,rfl⟩,h⟩
def Gl(X:Cx)(x:Str):Prop:=X.env.kindOf x=some .globalImplicit
theorem fD(I:qy X pins σ H s)(J:Gl X x)(U:X.mg x=some u)(h:Q u s)
 (hd:Ed x:=by decide):wpAny (model X.prog X.w) X.A (eval (.Name x pos) X.env) Q E s:=
 Calls.Name_function_global I.ok.kind J (Calls.loadGlobal_global (by rw[I.ok.glob];exact I.mod.glob.keeps I.bk) U h) hd
theorem dl(I:qy X pins σ H s)(J:Gl X x)(U:X.mg x=none)(g:bootBuiltins x=some u)(h:Q u s)
 (j:x ≠ "__name__" := by decide) (hd:Ed x:=by decide):wpAny (model X.prog X.w) X.A (eval (.Name x pos) X.env) Q E s:=by
 obtain⟨l,h1,h2⟩:=I.mod.blt;exact Calls.Name_function_global I.ok.kind J (Calls.loadGlobal_builtin (by rw[I.ok.glob];exact I.mod.glob.keeps I.bk) U (by rw[I.ok.blt];exact h1.keeps I.bk) ((h2 x j).trans g) h) hd
theorem tO(J:Gl X x)(U:X.mg x=some u)(r:zm v u)(hd:Ed x:=by decide):PE X (.Name x pos) (tC v):=
 λ_ _ _ H _ I h=>fD I J U ⟨v,H,I,r,h⟩ hd
theorem adt(J:Gl X x)(U:X.mg x=none)(g:bootBuiltins x=some u)(r:zm v u)(j:x ≠ "__name__" := by decide)(hd:Ed x:=by decide):PE X (.Name x pos) (tC v):=
 λ_ _ _ H _ I h=>dl I J U g ⟨v,H,I,r,h⟩ j hd
variable {a b:Expr}{tb:TE}
def PC(X:Cx)(op:CmpOp)(a b:Expr)(t:TE):Prop:=
 ∀(pins:List (Addr×Obj)) (s:Shared) (σ:St) (H:Hp) (Q:VK),qy X pins σ H s->t σ H Q->
  wpAny (model X.prog X.w) X.A (eval a X.env) (λv I=>wpAny (model X.prog X.w) X.A (eval b X.env) (λu J=>wpAny (model X.prog X.w) X.A (compareOp op v u) (EP X pins σ Q) X.xe J) X.xe I) X.xe s
theorem zX(b:Expr){op:CmpOp}(h:op≠.In)(h2:op≠.NotIn):behindInMarks op b=false:=by
 have I:(op==CmpOp.In)=false:=by cases op<;>first|rfl|exact absurd rfl h
 have J:(op==CmpOp.NotIn)=false:=by cases op<;>first|rfl|exact absurd rfl h2
 cases b<;>simp[behindInMarks,I,J]
def ajw(ta:TE):TE:=λσ H Q=>ta σ H λx H1=>Q (.bl (decide (x=.non))) H1
theorem zm.none_iff{x:V}{v:Value}(r:zm x v):(v==Value.none)=decide (x=.non):=by
 cases x with
 |non=>cases r;rfl
 |bl _=>cases r;rfl
 |int _=>obtain⟨t,rfl⟩:=r;rfl
 |str _=>obtain⟨t,rfl⟩:=r;rfl
 |byt _=>obtain⟨t,rfl⟩:=r;rfl
 |flt _=>obtain⟨t,rfl⟩:=r;rfl
 |ref _=>cases r;rfl
 |ty _=>cases r;rfl
theorem ag1{j ir}(U:PE X a ta):PC X .Is a (.Constant .none j ir) (ajw ta):=by intro J s g H Q I h;refine aI (U J s g H _ I h) λv t x l o p r=>?_;exact Constant_none (is_none_gen ⟨.bl _,l,o,by rw[p.none_iff];rfl,r⟩)
def tB(t:TE):TT:=λσ H Q=>t σ H λx H1=>∃c,x=.bl c/\Q c H1
theorem aiw{op:CmpOp}{t:TE}(h:PC X op a b t)(h1:behindInMarks op b=false:=by first|exact zX _ (by decide) (by decide)|rfl):PT X (.Compare a [op] [b] pos) (tB t):=by intro J s U H Q I hw;refine wpAny_isTrue_Compare1 (ki (h J s U H _ I hw) λv p h1=>ki h1 λu r h2=>ki h2 λc C ⟨x,g,j,l,o⟩=>?_) h1;obtain⟨d,rfl,q⟩:=o;cases l;exact wpAny_truthy_bool ⟨g,j,q⟩
theorem aii{t:TE}(h:PE X e t)(U:∀whole,isTrue e X.env whole=(do let v <-whole;standAt e.pos;holding [v] (truthy v)):=by intro _;rfl):PT X e (tB t):=by intro J s g H Q I hw;refine isTrue_plain (aI (h J s g H _ I hw) λv r x j l o p=>?_) (U _);obtain⟨d,rfl,q⟩:=p;cases o;exact wpAny_truthy_bool ⟨j,l,q⟩
variable {tA y1:TT}{rest:List Expr}
def aor(t u:TT):TT:=λσ H Q=>t σ H λc H1=>if c=true then u σ H1 Q else Q false H1
def tOr(t u:TT):TT:=λσ H Q=>t σ H λc H1=>if c=true then Q true H1 else u σ H1 Q
def an4(t:TT):TT:=λσ H Q=>t σ H λc H1=>Q (!c) H1
theorem ae3(U:PT X a tA):PW X (.BoolOp .And [a] pos) tA:=by intro j J s g H Q I h;refine isTrue_and (ki (U J s g H Q I h) λc l e=>?_);cases c with|true=>exact isTrue_and_nil e|false=>exact e
theorem ah0(U:PT X a tA):PW X (.BoolOp .Or [a] pos) tA:=by intro j J s g H Q I h;refine isTrue_or (ki (U J s g H Q I h) λc l e=>?_);cases c with|false=>exact isTrue_or_nil e|true=>exact e
theorem agk(o:PT X a tA)(p:PW X (.BoolOp .And (b::rest) pos) y1):PW X (.BoolOp .And (a::b::rest) pos) (aor tA y1):=by intro r J s U H Q I h;refine isTrue_and (ki (o J s U H _ I h) λc t ⟨g,j,l⟩=>?_);cases c with|true=>exact p r J t U g Q j l|false=>exact⟨g,j,l⟩
theorem akt(o:PT X a tA)(p:PW X (.BoolOp .Or (b::rest) pos) y1):PW X (.BoolOp .Or (a::b::rest) pos) (tOr tA y1):=by intro r J s U H Q I h;refine isTrue_or (ki (o J s U H _ I h) λc t ⟨g,j,l⟩=>?_);cases c with|true=>exact⟨g,j,l⟩|false=>exact p r J t U g Q j l
theorem ahn(U:PT X a tA):PT X (.UnaryOp .Not a pos) (an4 tA):=by intro J s g H Q I h;exact isTrue_not (U J s g H (λc j=>Q (!c) j) I h)
def ak0(ta tb:TE):TE:=λσ H Q=>ta σ H λx H1=>∃c,x=.bl c/\if c=true then tb σ H1 Q else Q (.bl false) H1
def am1(ta:TE):TE:=λσ H Q=>ta σ H λx H1=>∃c,x=.bl c/\Q (.bl (!c)) H1
theorem ahz{op}{t:TE}(h:PE X a t):PE X (.BoolOp op [a] pos) t:=λJ s U H Q I hw=>BoolOp_one (h J s U H Q I hw)
theorem afx(o:PE X a ta)(p:PE X (.BoolOp .And (b::rest) pos) tb):PE X (.BoolOp .And (a::b::rest) pos) (ak0 ta tb):=by
 intro J s g H Q I h;refine BoolOp_and (aI (o J s g H _ I h) λv r x j l t U=>?_);obtain⟨c,rfl,U⟩:=U;cases t;refine wpAny_truthy_bool ?_;cases c with
 |true=>exact p J r g j Q l U
 |false=>exact⟨.bl false,j,l,rfl,U⟩
theorem agd(g:PE X a ta):PE X (.UnaryOp .Not a pos) (am1 ta):=by intro J s j H Q I h;refine UnaryOp_ (aI (g J s j H _ I h) λv r x l o p U=>?_);obtain⟨c,rfl,U⟩:=U;cases p;exact not_of (wpAny_truthy_bool ⟨.bl (!c),l,o,rfl,U⟩)
def tIf(t:TT)(ta tb:TE):TE:=λσ H Q=>t σ H λc H1=>if c=true then ta σ H1 Q else tb σ H1 Q
theorem yp(hc:PT X c tA)(p:PE X a ta)(r:PE X b tb):PE X (.IfExp c a b pos) (tIf tA ta tb):=by intro J s U H Q I h;refine wpAny_IfExp (ki (hc J s U H _ I h) λd g ⟨j,l,o⟩=>?_);cases d with|true=>exact p J g U j Q l o|false=>exact r J g U j Q l o
end
def aH(K:Ae)(H:Hp)(a:Addr)(xs:List V):Prop:=
 Rd H a (.lst xs)\/
  ∃(o:Obj) (fy:Array Value) (n:Nat),K.lookup a=some o/\o.cls=.type "list" /\ o.dict=none/\o.data=.seq fy n/\fy.size<=sizeLine/\zn xs fy.toList
def cG(K:Ae)(H:Hp)(a:Addr)(xs:List V):Prop:=
 Rd H a (.tup xs)\/
  ∃(o:Obj) (fy:Array Value) (n:Nat),K.lookup a=some o/\o.cls=.type "tuple" /\ o.data=.seq fy n/\fy.size<=sizeLine/\zn xs fy.toList
def amy:Value->Option V
 |.none=>some .non
 |.bool b=>some (.bl b)
 |.int i _=>some (.int i)
 |.str x _=>some (.str x)
 |.bytes b _=>some (.byt b)
 |.float b _=>some (.flt b)
 |.ref a=>some (.ref a)
 |.type n=>some (.ty n)
 |_=>none
theorem zm.abs{x:V}(r:zm x u):amy u=some x:=by
 cases x with
 |non=>cases r;rfl
 |bl _=>cases r;rfl
 |int _=>obtain⟨t,rfl⟩:=r;rfl
 |str _=>obtain⟨t,rfl⟩:=r;rfl
 |byt _=>obtain⟨t,rfl⟩:=r;rfl
 |flt _=>obtain⟨t,rfl⟩:=r;rfl
 |ref _=>cases r;rfl
 |ty _=>cases r;rfl
theorem zm.inj{x y:V}(r:zm x u)(q:zm y u):x=y:=AN (r.abs.symm.trans q.abs)
theorem zn.inj:∀{xs ys:List V} {us:List Value},zn xs us->zn ys us->xs=ys
 |_,_,_,.nil,.nil=>rfl
 |_,_,_,.cons r t,.cons I J=>by rw[r.inj I,zn.inj t J]
section
variable {ys:List V}
theorem aH.of{K:Ae}(h:H a=some (.lst xs)):aH K H a xs:=.inl (.inl h)
theorem cG.of{K:Ae}(h:H a=some (.tup xs)):cG K H a xs:=.inl (.inl h)
theorem qy.list(I:qy X pins σ H s)(h:aH X.K H a xs):∃fy:List Value,zn xs fy/\PlainL s.heap a fy.toArray/\xs.length<=sizeLine:=by
 rcases h with h|⟨o,fy,n,J,U,hd,g,j,r⟩
 ·obtain⟨z,fy,n,r,e⟩:=h.ok I.hok;exact⟨fy,r,⟨_,n,e,rfl,rfl,rfl⟩,z⟩
 ·refine⟨fy.toList,r,⟨o,n,I.kIn a o J,U,hd,by simpa using g⟩,?_⟩;have e:=r.length;simp only[Ba] at e;lia
theorem qy.tuple(I:qy X pins σ H s)(h:cG X.K H a xs):∃fy:List Value,zn xs fy/\IsTup s.heap a fy.toArray/\xs.length<=sizeLine:=by
 rcases h with h|⟨o,fy,n,J,U,g,j,r⟩
 ·obtain⟨z,fy,r,p⟩:=h.ok I.hok;exact⟨fy,r,p,z⟩
 ·refine⟨fy.toList,r,⟨o,I.kIn a o J,U,n,by simpa using g⟩,?_⟩;have e:=r.length;simp only[Ba] at e;lia
theorem qy.list_inj(I:qy X pins σ H s)(h:aH X.K H a xs)(h':aH X.K H a ys):xs=ys:=by
 obtain⟨U,r,⟨o,n,e,_,_,d⟩,_⟩:=I.list h;obtain⟨J,l,⟨p,t,g,_,_,j⟩,_⟩:=I.list h';rw[e] at g;cases g;rw[d] at j;injection j with d1 _
 have:U=J:=by simpa using Bb Array.toList d1
 subst this;exact r.inj l
theorem qy.tuple_inj(I:qy X pins σ H s)(h:cG X.K H a xs)(h':cG X.K H a ys):xs=ys:=by
 obtain⟨U,r,⟨o,e,_,n,d⟩,_⟩:=I.tuple h;obtain⟨J,l,⟨p,g,_,t,j⟩,_⟩:=I.tuple h';rw[e] at g;cases g;rw[d] at j;injection j with d1 _
 have:U=J:=by simpa using Bb Array.toList d1
 subst this;exact r.inj l
end
abbrev Cx.wish(X:Cx)(E:Value->Shared->Prop):Cx:={ X with xe:=E }
abbrev Cx.nox(X:Cx):Cx:=X.wish λ_ _=>False
theorem Cx.Ok.wish(ok:X.Ok)(E:Value->Shared->Prop):(X.wish E).Ok:=
 ⟨ok.mod,ok.kind,ok.glob,ok.blt,ok.above,ok.inj,ok.has,ok.cab,ok.hd,ok.frames,ok.stk,ok.exf,ok.bs,ok.bsz,ok.noex,ok.exfs,ok.funs,ok.frf⟩
theorem Cx.Ok.unwish(ok:(X.wish E).Ok):X.Ok:=
 ⟨ok.mod,ok.kind,ok.glob,ok.blt,ok.above,ok.inj,ok.has,ok.cab,ok.hd,ok.frames,ok.stk,ok.exf,ok.bs,ok.bsz,ok.noex,ok.exfs,ok.funs,ok.frf⟩
theorem qy.wish(I:qy X pins σ H s)(E:Value->Shared->Prop):qy (X.wish E) pins σ H s:=⟨I.ok.wish E,I.os,I.bare,I.base,I.loc,I.cell,I.free,I.freeC,I.pin,I.hok,I.len,I.tk⟩
theorem qy.unwish(I:qy (X.wish E) pins σ H s):qy X pins σ H s:=⟨I.ok.unwish,I.os,I.bare,I.base,I.loc,I.cell,I.free,I.freeC,I.pin,I.hok,I.len,I.tk⟩
theorem SP.unwish{D:i8}{f:Flow}(h:SP (X.wish E) pins D f s'):SP X pins D f s':=by
 cases f with
 |next=>obtain⟨J,U,I,q⟩:=h;exact⟨J,U,I.unwish,q⟩
 |brk=>obtain⟨J,U,I,q⟩:=h;exact⟨J,U,I.unwish,q⟩
 |cont=>obtain⟨J,U,I,q⟩:=h;exact⟨J,U,I.unwish,q⟩
 |ret u=>obtain⟨v,J,U,I,r,q⟩:=h;exact⟨v,J,U,I.unwish,r,q⟩
theorem fG.nox{st:List Stmt}{t:TS}(h:fG X.nox st t):fG X st t:=λJ s U H D I hw=>
 AQ (h J s U H D (I.wish _) hw) (λ_ _ q=>q.unwish) λ_ _ z=>False.elim z
section
variable {rest:List Stmt}{t u:TS}{te:TE}
def alu:TS:=λD σ H=>D.nx σ H
def amo(t u:TS):TS:=λD σ H=>t { D with nx:=u D } σ H
theorem ace:fG X [] alu:=λ_ _ J H _ I h=>wpAny_execs_nil ⟨J,H,I,h⟩
theorem o3(h1:PS X st t)(h2:fG X rest u):fG X (st::rest) (amo t u):=by
 intro J s g H D I h;refine wpAny_execs_cons (ki (h1 J s g H { D with nx:=u D } I h) λf j q=>?_);cases f with
 |next=>
  obtain⟨U,l,o,q⟩:=q;exact h2 J j U l D o q
 |ret v=>exact q
 |brk=>exact q
 |cont=>exact q
theorem t8(h1:PS X st t):fG X [st] t:=by intro J s U H D I h;refine wpAny_execs_cons (ki (h1 J s U H D I h) λf g q=>?_);cases f with|next=>exact wpAny_execs_nil q|ret v=>exact q|brk=>exact q|cont=>exact q
def akg:TS:=λD σ H=>D.ct σ H
theorem qR:PS X (.Continue pos) akg:=λ_ _ J H _ I h=>wpAny_Continue ⟨J,H,I,h⟩
theorem qy.quiet(I:qy X pins σ H s):interactive X.env=false:=by simp[interactive,I.ok.kind]
def al3(te:TE):TS:=λD σ H=>te σ H λ_ H1=>D.nx σ H1
theorem tF(g:PE X e te)(hs:swapsWith e none pos.line X.env=pure false:=by rfl):PS X (.Expr e pos) (al3 te):=by intro J s U H D I h;exact wpAny_Expr_any (aI (g J s U H _ I h) λv p x j l r o=>⟨U,j,l,o⟩) I.quiet hs
def ap8(te:TE):TS:=λD σ H=>te σ H D.rt
theorem agr(g:PE X e te):PS X (.Return (some e) pos) (ap8 te):=by intro J s U H D I h;exact wpAny_Return_some (aI (g J s U H _ I h) λv r x j l o p=>⟨x,U,j,l,o,p⟩)
def ajt:TS:=λD _ H=>D.rt .non H
theorem ade:PS X (.Return none pos) ajt:=λ_ _ J H _ I h=>wpAny_Return_none ⟨.non,J,H,I,rfl,h⟩
def ao6(c:TT)(t u:TS):TS:=λD σ H=>c σ H λb H1=>if b=true then t D σ H1 else u D σ H1
theorem alz{a b:List Stmt}(hc:PT X c tc)(p:fG X a t)(r:fG X b u):PS X (.If c a b pos) (ao6 tc t u):=by intro J s U H D I h;refine wpAny_If (ki (hc J s U H _ I h) λd g ⟨j,l,o⟩=>?_);cases d with|true=>exact p J g U j D l o|false=>exact r J g U j D l o
end
abbrev TG:=V->St->Hp->(St->Hp->Prop)->Prop
abbrev yR:=List V->St->Hp->(St->Hp->Prop)->Prop
def PG(X:Cx)(target:Expr)(t:TG):Prop:=
 ∀(pins:List (Addr×Obj)) (s:Shared) (σ:St) (H:Hp) (v:V) (u:Value) (Q:St->Hp->Prop),qy X pins σ H s->zm v u->t v σ H Q->
  wpAny (model X.prog X.w) X.A (assign target X.env u) (λ_ s'=>∃n9 H',qy X pins n9 H' s'/\Q n9 H') X.xe s
def zM(X:Cx)(ts:List Expr)(t:yR):Prop:=
 ∀(pins:List (Addr×Obj)) (s:Shared) (σ:St) (H:Hp) (vs:List V) (us:List Value) (Q:St->Hp->Prop),qy X pins σ H s->zn vs us->t vs σ H Q->
  wpAny (model X.prog X.w) X.A (assignInOrder ((assignEach ts X.env).map (·.2)) us) (λ_ s'=>∃n9 H',qy X pins n9 H' s'/\Q n9 H') X.xe s
abbrev aim:=V->V->V->Hp->(Hp->Prop)->Prop
def ajz(X:Cx)(t:aim):Prop:=
 ∀(pins:List (Addr×Obj)) (s:Shared) (σ:St) (H:Hp) (o i v:V) (I J u:Value) (Q:Hp->Prop),qy X pins σ H s->zm o I->zm i J->zm v u->t o i v H Q->
  wpAny (model X.prog X.w) X.A (setItem I J u) (λ_ s'=>∃H',qy X pins σ H' s'/\Q H') X.xe s
def cV(i:Nat):TG:=λv σ H Q=>Q (σ.set i (some v)) H
theorem iJ(U:X.N.Nodup)(hi:X.N[i]?=some x)(g:xR X.env.scope x)(j:X.fn x=true\/X.env.scope.names.lookup x=some .local:=by first|exact .inl rfl|exact .inr rfl|assumption):PG X (.Name x pos) (cV i):=by intro J s o H v u Q I r h;exact wpAny_assign_Name (cj I U hi g r (λp l=>⟨_,H,l,h⟩) j)
def agf:yR:=λvs σ H Q=>vs=[]/\Q σ H
def qS(t:TG)(u:yR):yR:=λvs σ H Q=>∃v r,vs=v::r/\t v σ H λn9 H'=>u r n9 H' Q
theorem tQ:zM X [] agf:=by intro J s U H g j Q I r h;obtain⟨e,h⟩:=h;subst e;cases r;exact assignInOrder_nil ⟨U,H,I,h⟩
theorem i5{t:TG}{u:yR}(h1:PG X e t)(h2:zM X es u)
 (hs:(assignEach (e::es) X.env).map (·.2)=assign e X.env::(assignEach es X.env).map (·.2):=by rfl):zM X (e::es) (qS t u):=by
 intro J s g H T us Q I r h;obtain⟨v,vr,j,h⟩:=h;subst j;cases r with
 |cons r rr=>
  rw[hs];refine assignInOrder_cons (ki (h1 J s g H _ _ _ I r h) λ_ l ⟨U,o,p,C⟩=>?_);exact h2 J l U o _ _ Q p rr C
def agt(K:Ae)(n:Nat)(t:yR):TG:=λv σ H Q=>∃a xs,v=.ref a/\cG K H a xs/\xs.length=n/\t xs σ H Q
theorem yJ{k:Nat}{t:yR}(hc:X.calm=true)(h:zM X es t)
 (l:(assignEach es X.env).length=n:=by rfl) (U:(assignEach es X.env).findIdx? (·.1)=none:=by rfl):PG X (.Tuple es k pos) (agt X.K n t):=by
 intro J s g H v u Q I r hw;obtain⟨a,p,C,T,hl,hw⟩:=hw;subst C;cases r;obtain⟨a1,j,ht,hz⟩:=I.tuple T;refine assign_Tuple_tuple (I.ok.hd hc) ht (by simp[l,<-hl,j.length]) U λh' hx=>?_;have I1:qy X J g H { s with heap:=h' }:=I.kept (t':=s.toks) λb o e=>hx b o (A1 (At e)) e;exact h J _ g H p _ Q I1 (by simpa using j) hw
def ap3(to ti:TE)(t:aim):TG:=λv σ H Q=>to σ H λo H1=>ti σ H1 λi H2=>t o i v H2 λI=>Q σ I
theorem agp{i:Expr}{to ti:TE}{t:aim}(l:PE X o to)(hi:PE X i ti)(hs:ajz X t)
 (p:∀v,assign (.Subscript o i pos) X.env v=(do
  let U <-holding [v] (eval o X.env)
  let g <-holding [v,U] (eval i X.env)
  standAt pos
  holding [v,U,g] (setItem U g v)
  release [v,U,g] []):=by intro _;rfl):PG X (.Subscript o i pos) (ap3 to ti t):=by
 intro J s j H v u Q I r h;rw[p];refine Aa (A3 (aI (l J s j H _ I h) λU C x T I1 r1 q1=>?_));refine Aa (A3 (aI (hi J C j T _ I1 q1) λg s2 y H2 I2 r2 q2=>?_));refine Aa (wpAny_standAt (Aa (A3 (ki (hs J s2 j H2 x y v U g u _ I2 r1 r2 r q2) λ_ s3 ⟨H3,I3,q3⟩=>?_))));exact wpAny_release ⟨j,H3,I3,q3⟩
def agq(te:TE)(g:TG):TS:=λD σ H=>te σ H λx H1=>g x σ H1 D.nx
theorem xJ{te:TE}{g:TG}(j:PE X e te)(l:PG X tg g)(hs:swapsWithSole [tg] e pos.line X.env=pure false:=by rfl)(hw:swappedStores [tg] e X.env=pure none:=by rfl)
 (h1:(assignEach [tg] X.env).map (·.2)=[assign tg X.env]:=by rfl):PS X (.Assign [tg] e pos) (agq te g):=by
 intro J s U H D I h;refine wpAny_Assign_stores (aI (j J s U H _ I h) λv o x p r t C=>?_) hs hw;rw[h1];exact ki (l J o U p x v _ r t C) λ_ T q=>q
theorem agb{te:TE}(U:X.N.Nodup)(hi:X.N[i]?=some x)(g:xR X.env.scope x)(j:PE X e te)(hs:swapsWith e (some (.Name x ir)) pos.line X.env=pure false:=by rfl)(l:X.fn x=true\/X.env.scope.names.lookup x=some .local:=by first|exact .inl rfl|exact .inr rfl|assumption):
 PS X (.Assign [.Name x ir] e pos) (agq te (cV i)):=by
 intro J s o H D I h;refine wpAny_Assign_Name (aI (j J s o H _ I h) λv s1 y p r t C=>?_) hs;exact cj r U hi g t (λs2 T=>⟨_,p,T,C⟩) l
def ap9(i j:Nat)(ta:TA):TS:=λD σ H=>ta σ H λvs H1=>∃v w,vs=[v,w]/\D.nx ((σ.set i (some v)).set j (some w)) H1
theorem afj{y:Str}{a b:Expr}{ta:TA}{px py pt:Pos}{kt k2 U}(hc:X.calm=true)(hN:X.N.Nodup)(hi:X.N[i]?=some x)(hj:X.N[j]?=some y)(t:i≠j)
 (hx:X.env.scope.names.lookup x=some .local) (hy:X.env.scope.names.lookup y=some .local) (ha:PA X [a,b] ta)
 (hw:swappedStores [.Tuple [.Name x px,.Name y py] kt pt] (.Tuple [a,b] k2 U) X.env=pure (some [x,y]))
 (hs:swapsWithSole [.Tuple [.Name x px,.Name y py] kt pt] (.Tuple [a,b] k2 U) pos.line X.env=pure false:=by rfl):
 PS X (.Assign [.Tuple [.Name x px,.Name y py] kt pt] (.Tuple [a,b] k2 U) pos) (ap9 i j ta):=by
 intro J s σ H D I h;rw[exec_Assign_arm];refine Aa (wpAny_standAt ?_);rw[hs];refine Aa (Ak ?_);rw[AD (by decide)];refine Aa (Tuple_ (vC (ha _ J s σ H _ I h) λus g vs H1 I1 r1 C=>?_));obtain⟨v,w,e1,C⟩:=C;subst e1;obtain⟨l,r,rfl,rv,T⟩:∃l r,us=[l,r]/\zm v l/\zm w r:=by
  cases r1 with
  |cons p q=>
   cases q with
   |cons p' q'=>
    cases q';exact⟨_,_,rfl,p,p'⟩
 refine Bv ?_ (by show 2<=sizeLine;decide);have I2:qy X J σ H1 { g with heap:=g.heap.push { cls:=.type "tuple",data:=.seq [l,r].toArray } }:=I1.kept (t':=g.toks) λb o e=>As _ e;rw[hw];refine Aa (Ak ?_);show wpAny (model X.prog X.w) X.A (do rule "assign.swapped-stores";let items <-unpackItems (.ref g.heap.objs.size) 2 none;assignInOrder [λv=>bindName X.env y v,λv=>bindName X.env x v] items.reverse;pure Flow.next) _ _ _;refine Aa (wpAny_rule (Aa (unpackItems_tuple (items:=#[l,r]) (I.ok.hd hc) (IsTup.new g.heap _) λh' a1=>?_)));have I3:=I2.kept (h':=h') (t':=g.toks) λb o e=>a1 b o (A1 (At e)) e;show wpAny _ _ (assignInOrder [λv=>bindName X.env y v,λv=>bindName X.env x v] [r,l] >>= λ_=>pure Flow.next) _ _ _;refine Aa (assignInOrder_cons (wpAny_bindName (cj I3 hN hj (.inl hy) T (λs2 I4=>?_) (.inr hy))));refine assignInOrder_cons (wpAny_bindName (cj I4 hN hi (.inl hx) rv (λs3 I5=>assignInOrder_nil (Ak ?_)) (.inr hx)));rw[List.set_comm _ _ (AW t)] at I5;exact⟨_,H1,I5,C⟩
def ahf(c:TT)(tb:TS):TS:=λD σ H=>∃W:Nat->St->Hp->Prop,(∃m,W m σ H)/\∀m σ H,W m σ H->
 c σ H λb H1=>if b=true then ∃N:St->Hp->Prop,(∀n9 H',N n9 H'->∃I,I<m/\W I n9 H')/\tb { D with nx:=N,ct:=N,bk:=D.nx } σ H1 else D.nx σ H1
theorem ab4{tb:TS}(hp:PassesOwn (model X.prog X.w) X.A X.env X.xe)(hc:PT X c tc)(hb:fG X body tb):PS X (.While c body [] pos) (ahf tc tb):=by
 intro J s σ H D I h;obtain⟨W,⟨m0,w0⟩,turn⟩:=h;refine wpAny_While (codeAny_whileLoop (λn s'=>∃j H',qy X J j H' s'/\W n j H') ?_ m0 ⟨σ,H,I,w0⟩);rintro n s1 ⟨g,H1,I1,w1⟩;refine wpAny_passesOwn hp (ki (hc J s1 g H1 _ I1 (turn n g H1 w1)) λb s2 ⟨H2,I2,o⟩=>?_);cases b with
 |true=>
  obtain⟨N,hN,o⟩:=o;rw[AF rfl];refine wpAny_passesOwn hp (ki (hb J s2 g H2 _ I2 o) λf s3 p=>?_);cases f with
  |next=>
   obtain⟨U,l,r,t⟩:=p;obtain⟨C,T,w3⟩:=hN U l t;exact⟨C,T,U,l,r,w3⟩
  |cont=>
   obtain⟨U,l,r,t⟩:=p;obtain⟨C,T,w3⟩:=hN U l t;exact⟨C,T,U,l,r,w3⟩
  |brk=>exact p
  |ret v=>exact p
 |false=>
  rw[AD AB];exact wpAny_execs_nil ⟨g,H2,I2,o⟩
structure It where
 go:Nat->Hp->Prop
 yld:Nat->Hp->V->Hp->Prop
 stop:Nat->Hp->Prop
def kJ(X:Cx)(pins:List (Addr×Obj))(H:Hp)(b:Addr):Prop:=
 H b=none/\b≠X.env.locals/\b∉X.fs/\(b∈X.ex\/X.s₀.heap.objs.size<=b)/\(∀x c,X.env.cells.lookup x=some c->c≠b)/\∀p∈X.pn++pins,p.1≠b
theorem qy.fpOk(I:qy X pins σ H s)(J:s.heap.objs.size<=b)(U:H' b=none):kJ X pins H' b:=by
 refine⟨U,Nat.ne_of_gt (AH I.lt J),I.nofs J,.inr (AI I.sz J),λx c e z=>?_,λp g z=>?_⟩
 ·obtain⟨v,q⟩:=I.cell x c e;exact absurd (AH q.lt (by rw[z];exact J)) (Cp _)
 ·exact absurd (AH (At (I.pin p g).1) (by rw[z];exact J)) (Cp _)
structure vX(P:Program)(w:World)(K:Ae)(tg:Expr)(J:It)(fp:List Addr)(it:Addr)(tn:Nat->Heap->Prop):Prop where
 mem:it∈fp
 obj:∀i h,tn i h->∀b∈fp,∃o,h.get? b=some o/\∀v,o.data≠.cell v
 keep:∀i h h',tn i h->(∀b∈fp,∀o,h.get? b=some o->h'.get? b=some o)->tn i h'
 item:∀(X:Cx),X.prog=P->X.w=w->X.K=K->X.calm=true->∀(i:Nat) (pins:List (Addr×Obj)) (s:Shared) (σ:St) (H:Hp) (E:Value->Shared->Prop),qy X pins σ H s->(∀b∈fp,kJ X pins H b)->tn i s.heap->J.go i H->
  wpAny (model P w) X.A (pyNext (.ref it)) (λr s1=>∃u,r=some u/\
   wpAny (model P w) X.A (letOwnedTupleGo tg (.ref it) u) (λ_ s2=>∃x H',qy X pins σ H' s2/\zm x u/\J.yld i H x H'/\tn (i+1) s2.heap/\∀b∈fp,H' b=none) E s1) E s
 done:∀(X:Cx),X.prog=P->X.w=w->X.K=K->X.calm=true->∀(i:Nat) (pins:List (Addr×Obj)) (s:Shared) (σ:St) (H:Hp) (E:Value->Shared->Prop),qy X pins σ H s->(∀b∈fp,kJ X pins H b)->tn i s.heap->J.stop i H->
  wpAny (model P w) X.A (pyNext (.ref it)) (λr s1=>r=none/\qy X pins σ H s1) E s
 self:∀(A:Around) (i:Nat) (s:Shared) (Q:Value->Shared->Prop) (E:Value->Shared->Prop),tn i s.heap->Q (.ref it) s->wpAny (model P w) A (pyIter (.ref it)) Q E s
abbrev TI:=St->Hp->(It->Hp->Prop)->Prop
def PIE(X:Cx)(pins:List (Addr×Obj))(σ:St)(tg:Expr)(R:It->Hp->Prop)(I:Value)(U:Shared):Prop:=
 ∃(it:Addr) (fp:List Addr) (g:Nat->Heap->Prop) (J:It) (H':Hp),I=.ref it/\qy X pins σ H' U/\vX X.prog X.w X.K tg J fp it g/\g 0 U.heap/\(∀b∈fp,kJ X pins H' b)/\R J H'
def PI(X:Cx)(tg iter:Expr)(wi:TI):Prop:=
 ∀(pins:List (Addr×Obj)) (s:Shared) (σ:St) (H:Hp) (R:It->Hp->Prop),qy X pins σ H s->wi σ H R->
  wpAny (model X.prog X.w) X.A (eval iter X.env) (λv I=>wpAny (model X.prog X.w) X.A (pyIter v) (PIE X pins σ tg R) X.xe I) X.xe s
theorem tT{it:Addr}{o:Obj}{n:String}{vs:Array Value}{Q:Unit->Shared->Prop}(J:s.heap.get? it=some o)(hc:o.cls=.type n)(hd:o.data=.fields vs)
 (U:["enumerate","zip","dict_itemiterator","dict_reverseitemiterator","odict_iterator","itertools.zip_longest","itertools.pairwise"].contains n=false) (I:Q () s):wpAny M A (letOwnedTupleGo tg (.ref it) u) Q E s:=by
 unfold letOwnedTupleGo;cases tg<;>first
  |exact Ak I
  |(cases u<;>first
   |exact Ak I
   |(refine Aa (wpAny_load J ?_)
     rw[hc,hd];show wpAny M A (if (["enumerate","zip","dict_itemiterator","dict_reverseitemiterator","odict_iterator","itertools.zip_longest","itertools.pairwise"].contains n&&vs[0]?==some (rawInt _))=true then _ else _) Q E s;rw[AD (by intro h;rw[U,Bool.false_and] at h;cases h)];exact Ak I))
def Itl(K:Ae)(a:Addr):It:=
 ⟨λi H=>∃xs x,aH K H a xs/\xs[i]?=some x,λi H x H'=>H'=H/\∀xs,aH K H a xs->xs[i]?=some x,λi H=>∃xs,aH K H a xs/\xs.length<=i⟩
def Itt(K:Ae)(a:Addr):It:=
 ⟨λi H=>∃xs x,cG K H a xs/\xs[i]?=some x,λi H x H'=>H'=H/\∀xs,cG K H a xs->xs[i]?=some x,λi H=>∃xs,cG K H a xs/\xs.length<=i⟩
def Itr(lo:Int)(n:Nat):It:=⟨λi _=>i<n,λi H x H'=>H'=H/\x=.int (lo+i),λi _=>n<=i⟩
theorem wC{P:Program}{w:World}{K:Ae}(a it:Addr):vX P w K tg (Itl K a) [it] it (λi h=>h.IsListIter it a i) where
 mem:=by simp
 obj:=λi h st b U=>by
  have e:b=it:=by simpa using U
  subst e;obtain⟨o,e,c,d⟩:=st;exact⟨o,e,λv z=>by rw[d] at z;cases z⟩
 keep:=λi h j st k=>st.at λo e=>k it (by simp) o e
 item:=by intro X t hw C hc i J s σ H E I l st T;subst t hw C;obtain⟨xs,x,r,hx⟩:=T;obtain⟨a1,rv,p,hz⟩:=I.list r;obtain⟨u,hu,ru⟩:=rv.get hx;obtain⟨f0,f1,f2,f3,f4,f5⟩:=l it (by simp);refine wpAny_pyNext_list_item st p.isList (x:=u) (by simpa using hu) λj g sb=>?_;have I1:qy X J σ H { s with heap:=j }:=I.turned (t':=s.toks) (λb o U e=>(sb.2 b U).trans e) f0 f1 f3 f4 f5;obtain⟨o,e,c,d⟩:=id g;exact⟨u,rfl,tT (s:={ s with heap:=j }) e c d (by decide) ⟨x,H,I1,ru,⟨rfl,λys hy=>by rw[I.list_inj hy r];exact hx⟩,g,λb U=>(l b U).1⟩⟩
 done:=by intro X t hw C hc i J s σ H E I l st T;subst t hw C;obtain⟨xs,r,hx⟩:=T;obtain⟨a1,rv,p,hz⟩:=I.list r;obtain⟨f0,f1,f2,f3,f4,f5⟩:=l it (by simp);have hl:=rv.length;exact wpAny_pyNext_list_end (I.ok.hd hc) st p.isList (by simp;lia) λj eb=>⟨rfl,I.turned (t':=s.toks) (λb o U e=>eb b o U e) f0 f1 f3 f4 f5⟩
 self:=λ_ _ _ _ _ st h=>wpAny_pyIter_listiter st h
theorem rL{P:Program}{w:World}{K:Ae}(a it:Addr):vX P w K tg (Itt K a) [it] it (λi h=>h.IsTupleIter it a i) where
 mem:=by simp
 obj:=λi h st b U=>by
  have e:b=it:=by simpa using U
  subst e;obtain⟨o,e,c,d⟩:=st;exact⟨o,e,λv z=>by rw[d] at z;cases z⟩
 keep:=λi h l st k=>st.at λo e=>k it (by simp) o e
 item:=by intro X C hw T hc i J s σ H E I r st hg;subst C hw T;obtain⟨xs,x,t,hx⟩:=hg;obtain⟨g,rv,p,hz⟩:=I.tuple t;obtain⟨u,hu,ru⟩:=rv.get hx;obtain⟨f0,f1,f2,f3,f4,f5⟩:=r it (by simp);refine wpAny_pyNext_tuple_item st (show s.heap.IsTuple a g.toArray from p) (x:=u) (by simpa using hu) λl j sb=>?_;have I1:qy X J σ H { s with heap:=l }:=I.turned (t':=s.toks) (λb o U e=>(sb.2 b U).trans e) f0 f1 f3 f4 f5;obtain⟨o,e,c,d⟩:=id j;exact⟨u,rfl,tT (s:={ s with heap:=l }) e c d (by decide) ⟨x,H,I1,ru,⟨rfl,λys hy=>by rw[I.tuple_inj hy t];exact hx⟩,j,λb U=>(r b U).1⟩⟩
 done:=by intro X C hw T hc i J s σ H E I r st hg;subst C hw T;obtain⟨xs,t,hx⟩:=hg;obtain⟨g,rv,p,hz⟩:=I.tuple t;obtain⟨f0,f1,f2,f3,f4,f5⟩:=r it (by simp);have hl:=rv.length;exact wpAny_pyNext_tuple_end (I.ok.hd hc) st (show s.heap.IsTuple a g.toArray from p) (by simp;lia) λl eb=>⟨rfl,I.turned (t':=s.toks) (λb o U e=>eb b o U e) f0 f1 f3 f4 f5⟩
 self:=λ_ _ _ _ _ st h=>wpAny_pyIter_tupleiter st h
theorem sV{P:Program}{w:World}{K:Ae}(it:Addr)(lo:Int)(n:Nat):vX P w K tg (Itr lo n) [it] it (λi h=>IsRangeIter h it (lo+(i:Nat)*1) ((n:Int)-(i:Nat)) 1) where
 mem:=by simp
 obj:=λi h st b U=>by
  have e:b=it:=by simpa using U
  subst e;exact⟨_,st,λv z=>by have z':Data.fields _=Data.cell v:=z;cases z'⟩
 keep:=λi h j st k=>k it (by simp) _ st
 item:=by intro X p hw r C i J s σ H E I l st T;subst p hw r;obtain⟨f0,f1,f2,f3,f4,f5⟩:=l it (by simp);have W:=Walks.range (prog:=X.prog) (w:=X.w) (I.ok.hd C) it lo 1 n;refine jm I.tk (W.item i s _ _ T st λv j tk hv g kk ht=>?_);obtain⟨t,rfl⟩:=hv;have I1:qy X J σ H { s with heap:=j,toks:=tk }:=I.turned (λb o U e=>kk b o (by simpa using U) e) f0 f1 f3 f4 f5;refine⟨_,rfl,tT (s:={ s with heap:=j,toks:=tk }) (n:="range_iterator") g rfl rfl (by decide) ⟨.int (lo+i),H,I1,⟨t,?_⟩,⟨rfl,rfl⟩,g,λb U=>(l b U).1⟩⟩;rw[Int.mul_one]
 done:=by intro X p hw r C i J s σ H E I l st T;subst p hw r;obtain⟨f0,f1,f2,f3,f4,f5⟩:=l it (by simp);exact wpAny_pyNext_range_end (I.ok.hd C) st (by have:n<=i:=T;lia) λj eb=>⟨rfl,I.turned (t':=s.toks) (λb o U e=>eb b o U e) f0 f1 f3 f4 f5⟩
 self:=λ_ _ _ _ _ st h=>wpAny_pyIter_rangeiter st h
end L2
variable {wi:L2.TI}
namespace L2
open PySem PySem.Spec PyProof.Rows
def al5(K:Ae)(tl:TE):TI:=λσ H R=>tl σ H λx H1=>∃a,x=.ref a/\(∃xs,aH K H1 a xs)/\R (Itl K a) H1
def aoq(K:Ae)(tl:TE):TI:=λσ H R=>tl σ H λx H1=>∃a,x=.ref a/\(∃xs,cG K H1 a xs)/\R (Itt K a) H1
theorem ad5{l:Expr}{tl:TE}(j:PE X l tl):PI X tg l (al5 X.K tl):=by
 intro J s r H R I h;refine aI (j J s r H _ I h) λv U x t g C T=>?_;obtain⟨a,e,⟨xs,hq⟩,q⟩:=T;subst e;cases C;obtain⟨a1,rv,p,hz⟩:=g.list hq;refine wpAny_pyIter_list p.isList ?_;refine⟨U.heap.objs.size,[U.heap.objs.size],_,_,t,rfl,g.kept (t':=U.toks) λb o e=>As _ e,wC a _,⟨_,Db _ rfl,rfl,rfl⟩,λb hb=>?_,q⟩;have e:b=U.heap.objs.size:=by simpa using hb
 subst e;exact g.fpOk (Al _) (g.hok.fresh (Al _))
theorem aif{l:Expr}{tl:TE}(r:PE X l tl):PI X tg l (aoq X.K tl):=by
 intro J s t H R I h;refine aI (r J s t H _ I h) λv U x C g T q1=>?_;obtain⟨a,e,⟨xs,hq⟩,q⟩:=q1;subst e;cases T;obtain⟨j,rv,p,hz⟩:=g.tuple hq;refine wpAny_pyIter_tuple (show U.heap.IsTuple a j.toArray from p) ?_;refine⟨U.heap.objs.size,[U.heap.objs.size],_,_,C,rfl,g.kept (t':=U.toks) λb o e=>As _ e,rL a _,⟨_,Db _ rfl,rfl,rfl⟩,λb hb=>?_,q⟩;have e:b=U.heap.objs.size:=by simpa using hb
 subst e;exact g.fpOk (Al _) (g.hok.fresh (Al _))
theorem aae{R:It->Hp->Prop}{hi:Int}{t u v:Tok}{tk:Nat}(I:qy X pins σ H s)(h1 : -(2 ^ 62)<=lo)(h2:lo<2 ^ 62)(h3 : -(2 ^ 62)<=hi)(U:hi<2 ^ 62)
 (q:R (Itr lo (hi-lo).toNat) H) (p:0<tk:=by walk_at "t"):wpAny (model X.prog X.w) X.A (pyIter (.ref s.heap.objs.size)) (PIE X pins σ tg R) E { s with heap:=s.heap.push { cls:=.type "range",data:=.fields #[.int lo t,.int hi u,.int 1 v] },toks:=tk }:=by
 refine wpAny_pyIter_range (IsRange.new ..) (small_one h1 h2 h3 U) ?_;have J:qy X pins σ H { s with heap:=s.heap.push { cls:=.type "range",data:=.fields #[.int lo t,.int hi u,.int 1 v] },toks:=tk }:=I.kept λb o e=>As _ e;refine⟨(s.heap.push { cls:=.type "range",data:=.fields #[.int lo t,.int hi u,.int 1 v] }).objs.size,[(s.heap.push { cls:=.type "range",data:=.fields #[.int lo t,.int hi u,.int 1 v] }).objs.size],_,_,H,rfl,
  J.kept (t':=tk) λb o e=>As _ e,sV _ lo (hi-lo).toNat,?_,λb g=>?_,q⟩
 ·have j:lo+((0:Nat):Int)*1=lo:=by simp
  have l:(((hi-lo).toNat:Nat):Int)-((0:Nat):Int)=Builtin.Range.rangeSize lo hi 1:=by rw[rangeSize_one];split<;>lia
  show IsRangeIter _ _ (lo+((0:Nat):Int)*1) ((((hi-lo).toNat:Nat):Int)-((0:Nat):Int)) 1;rw[j,l];exact Db _ rfl
 ·have e:b=(s.heap.push { cls:=.type "range",data:=.fields #[.int lo t,.int hi u,.int 1 v] }).objs.size:=by simpa using g
  subst e;exact J.fpOk (Al _) (J.hok.fresh (Al _))
def al9(ta:TA):TI:=λσ H R=>ta σ H λvs H1=>∃j:Int,vs=[.int j] /\ -(2 ^ 62)<=j/\j<2 ^ 62/\R (Itr 0 j.toNat) H1
theorem vD{a:Expr}{ta:TA}(g:Gl X "range")(l:X.mg "range"=none)(o:PA X [a] ta)(hs:starEach [a] X.env=[(false,eval a X.env)]:=by rfl):PI X tg (.Call (.Name "range" p) [a] [] pos) (al9 ta):=by
 intro J s C H R I h;refine Call_ (dl I g l boot_range (BF (vC (o pos J s C H _ I h) λus s1 vs H1 T r1 U=>?_) hs rfl));obtain⟨j,e,U,q2,q⟩:=U;subst e;cases r1 with
 |cons r rr=>
  cases rr;obtain⟨t,rfl⟩:=r;exact call_range_1 (aae T (by lia) (by lia) U q2 (by simpa using q))
def apv(wi:TI)(g:TG)(tb:TS):TS:=λD σ H=>wi σ H λJ H1=>∃W:Nat->Nat->St->Hp->Prop,(∃m,W 0 m σ H1)/\∀i m σ H,W i m σ H->
 (J.stop i H/\D.nx σ H)\/(J.go i H/\∃N:St->Hp->Prop,(∀n9 H',N n9 H'->∃U,U<m/\W (i+1) U n9 H')/\∀x H',J.yld i H x H'->g x σ H' λI H2=>tb { D with nx:=N,ct:=N,bk:=D.nx } I H2)
def jN(fp:List Addr)(h:Heap):List (Addr×Obj):=fp.filterMap λb=>(h.get? b).map λo=>(b,o)
theorem br{o:Obj}(I:b∈fp)(e:h.get? b=some o):(b,o)∈jN fp h:=C7.mpr ⟨b,I,by rw[e];rfl⟩
theorem vB{p:Addr×Obj}(I:p∈jN fp h):p.1∈fp/\h.get? p.1=some p.2:=by
 obtain⟨b,J,e⟩:=C7.mp I;cases q:h.get? b with
 |none=>rw[q] at e;cases e
 |some o=>
  rw[q] at e;have U:(b,o)=p:=AN e;subst U;exact⟨J,q⟩
theorem qy.pinned(I:qy X pins σ H s)(g:∀b∈fp,kJ X pins H b)(j:∀b∈fp,∃o,s.heap.get? b=some o/\∀v,o.data≠.cell v):qy X (pins++jN fp s.heap) σ H s:=
 I.pins_of λp l=>(Ao.mp l).elim (λz=>I.pin p (Af _ z)) λz=>by obtain⟨J,e⟩:=vB z;obtain⟨r,f1,f2,_⟩:=g p.1 J;obtain⟨o,U,d⟩:=j p.1 J;rw[e] at U;cases U;exact⟨e,r,f1,f2,d⟩
theorem qy.unpinned{pl:List (Addr×Obj)}(I:qy X (pins++pl) σ H s):qy X pins σ H s:=I.pins_of λp J=>I.pin p (Af _ (Aq _ J))
theorem afm{g:TG}{tb:TS}(hp:PassesOwn (model X.prog X.w) X.A X.env X.xe)(hc:X.calm=true)(hi:PI X tg iter wi)(hg:PG X tg g)(l:fG X body tb)
 (hs:∀x,foldedSetIterable iter X.env x=pure x:=by intro _;rfl):PS X (.For tg iter body [] pos) (apv wi g tb):=by
 intro U s σ H D I h;refine wpAny_For (ki (hi U s σ H _ I h) λv s1 h1=>ki h1 λaL s2 h2=>?_) hs;obtain⟨it,fp,tn,J,H2,e,I2,T,a4,f2,W,⟨m0,w0⟩,turn⟩:=h2;subst e;have p:∀{H':Hp},(∀b∈fp,H' b=none)->∀b∈fp,kJ X U H' b:=λhn b l=>⟨hn b l,(f2 b l).2⟩;refine codeAny_forLoop_any (λn s'=>∃i t H',qy X U t H' s'/\tn i s'.heap/\(∀b∈fp,H' b=none)/\W i n t H') ?_ m0 ⟨0,σ,H2,I2,a4,λb l=>(f2 b l).1,w0⟩;rintro n s3 ⟨i,C,H3,I3,a2,a3,w3⟩;rcases turn i n C H3 w3 with⟨stop,qn⟩|⟨go,N,hN,step⟩
 ·refine wpAny_passesOwn hp (ki (T.done X rfl rfl rfl hc i U s3 C H3 X.xe I3 (p a3) a2 stop) λr s4 ⟨hr,I4⟩=>?_);subst hr;exact wpAny_execs_nil ⟨C,H3,I4,qn⟩
 ·refine wpAny_passesOwn hp (ki (T.item X rfl rfl rfl hc i U s3 C H3 X.xe I3 (p a3) a2 go) λr s4 ⟨u,hr,h4⟩=>?_);subst hr;refine wpAny_passesOwn hp (ki h4 λ_ s5 ⟨x,H5,I5,r5,y5,a1,a5⟩=>?_);have ag:=I5.pinned (p a5) (T.obj _ _ a1);refine wpAny_passesOwn hp (ki (hg _ s5 C H5 x u _ ag r5 (step x H5 y5)) λ_ s6 ⟨al,H6,I6,q6⟩=>?_);refine wpAny_passesOwn hp (ki (l _ s6 al H6 _ I6 q6) λf s7 q7=>?_);have again:∀{j:St} {H7:Hp},qy X (U++jN fp s5.heap) j H7 s7->N j H7->∃m,m<n/\∃i t H',qy X U t H' s7/\tn i s7.heap/\(∀b∈fp,H' b=none)/\W i m t H':=λ{j H7} I7 n7=>by obtain⟨m',hm,w7⟩:=hN j H7 n7;refine⟨m',hm,i+1,j,H7,I7.unpinned,T.keep _ _ _ a1 λb l o e=>(I7.pin (b,o) (Af _ (Af _ (br l e)))).1,λb l=>?_,w7⟩;obtain⟨o,e,d⟩:=T.obj _ _ a1 b l;exact(I7.pin (b,o) (Af _ (Af _ (br l e)))).2.1
  cases f with
  |next=>obtain⟨j,H7,I7,n7⟩:=q7;exact again I7 n7
  |cont=>obtain⟨j,H7,I7,n7⟩:=q7;exact again I7 n7
  |brk=>obtain⟨j,H7,I7,q7⟩:=q7;exact⟨j,H7,I7.unpinned,q7⟩
  |ret v=>obtain⟨x7,j,H7,I7,r7,q7⟩:=q7;exact⟨x7,j,H7,I7.unpinned,r7,q7⟩
abbrev R2:=V->V->Hp->VK->Prop
def vz(X:Cx)(f:Value->Value->Sem Value)(r:R2):Prop:=
 ∀(pins:List (Addr×Obj)) (s:Shared) (σ:St) (H:Hp) (x y:V) (v u:Value) (Q:VK),qy X pins σ H s->zm x v->zm y u->r x y H Q->
  wpAny (model X.prog X.w) X.A (f v u) (EP X pins σ Q) X.xe s
def UnR(X:Cx)(f:Value->Sem Value)(r:V->Hp->VK->Prop):Prop:=
 ∀(pins:List (Addr×Obj)) (s:Shared) (σ:St) (H:Hp) (x:V) (v:Value) (Q:VK),qy X pins σ H s->zm x v->r x H Q->
  wpAny (model X.prog X.w) X.A (f v) (EP X pins σ Q) X.xe s
def jt(X:Cx)(f:Value)(r:List V->Hp->VK->Prop):Prop:=
 ∀(pins:List (Addr×Obj)) (s:Shared) (σ:St) (H:Hp) (xs:List V) (us:List Value) (Q:VK),qy X pins σ H s->zn xs us->r xs H Q->
  wpAny (model X.prog X.w) X.A (call f us) (EP X pins σ Q) X.xe s
def tOp(r:R2)(ta tb:TE):TE:=λσ H Q=>ta σ H λx H1=>tb σ H1 λy H2=>r x y H2 Q
def tUn(r:V->Hp->VK->Prop)(ta:TE):TE:=λσ H Q=>ta σ H λx H1=>r x H1 Q
def rI(C:Int->Int->Prop)(g:Int->Int->V):R2:=λx y H Q=>∃i j,x=.int i/\y=.int j/\C i j/\Q (g i j) H
def rI0(g:Int->Int->V):R2:=λx y H Q=>∃i j,x=.int i/\y=.int j/\Q (g i j) H
def rU(g:Int->V):V->Hp->VK->Prop:=λx H Q=>∃i,x=.int i/\Q (g i) H
section
variable {a b:Expr}{tb tc:TE}
theorem agj(j:PE X a ta)(l:PE X b tb){R:V->V->Hp->Prop}(I:qy X pins σ H s)
 (h:ta σ H λx H1=>tb σ H1 λy H2=>R x y H2) {f:Value->Value->Sem Value}
 (o:∀v u g x y H2,qy X pins σ H2 g->zm x v->zm y u->R x y H2->wpAny (model X.prog X.w) X.A (f v u) Q X.xe g):
 wpAny (model X.prog X.w) X.A (eval a X.env) (λv J=>wpAny (model X.prog X.w) X.A (eval b X.env) (λu U=>wpAny (model X.prog X.w) X.A (f v u) Q X.xe U) X.xe J) X.xe s:=by
 refine aI (j pins s σ H _ I h) λv p x H1 r t C=>?_;refine aI (l pins p σ H1 _ r C) λu g y H2 T r2 q2=>?_;exact o v u g x y H2 T t r2 q2
theorem ali{op:Operator}{r:R2}(U:vz X (binaryOp op) r)(g:PE X a ta)(j:PE X b tb):PE X (.BinOp a op b pos) (tOp r ta tb):=by intro J s l H Q I h;exact wpAny_BinOp (agj g j I h λv u o x y p t C T q=>U J o l p x y v u Q t C T q)
theorem alp{op:UnaryOp}{r:V->Hp->VK->Prop}(g:UnR X (unaryOp op) r)(j:PE X a ta):PE X (.UnaryOp op a pos) (tUn r ta):=by intro J s U H Q I h;exact UnaryOp_ (aI (j J s U H _ I h) λv l x o p t C=>g J l U o x v Q p t C)
theorem opI{f:Value->Value->Sem Value}{C:Int->Int->Prop}{g:Int->Int->Int}
 (rule:∀(i j:Int) (t u:Tok) (s:Shared) (Q:Value->Shared->Prop) (E:Value->Shared->Prop),C i j->Q (.int (g i j) s.toks) { s with toks:=s.toks+1 }->wpAny (model X.prog X.w) X.A (f (.int i t) (.int j u)) Q E s):
 vz X f (rI C λi j=>.int (g i j)):=by
 intro J s r H x y v u Q I U l h;obtain⟨i,j,rfl,rfl,o,q⟩:=h;obtain⟨t,rfl⟩:=U;obtain⟨p,rfl⟩:=l;exact rule i j t p s _ _ o ⟨.int (g i j),H,I.tok _,⟨_,rfl⟩,q⟩
theorem akh{f:Value->Value->Sem Value}{g:Int->Int->Int}
 (rule:∀(i j:Int) (t u:Tok) (s:Shared) (Q:Value->Shared->Prop) (E:Value->Shared->Prop),Q (.int (g i j) s.toks) { s with toks:=s.toks+1 }->wpAny (model X.prog X.w) X.A (f (.int i t) (.int j u)) Q E s):
 vz X f (rI0 λi j=>.int (g i j)):=by
 intro J s p H x y v u Q I U l h;obtain⟨i,j,rfl,rfl,q⟩:=h;obtain⟨t,rfl⟩:=U;obtain⟨o,rfl⟩:=l;exact rule i j t o s _ _ ⟨.int (g i j),H,I.tok _,⟨_,rfl⟩,q⟩
theorem ai8{f:Value->Value->Sem Value}{g:Int->Int->Bool}
 (rule:∀(i j:Int) (t u:Tok) (s:Shared) (Q:Value->Shared->Prop) (E:Value->Shared->Prop),Q (.bool (g i j)) s->wpAny (model X.prog X.w) X.A (f (.int i t) (.int j u)) Q E s):
 vz X f (rI0 λi j=>.bl (g i j)):=by
 intro J s p H x y v u Q I U l h;obtain⟨i,j,rfl,rfl,q⟩:=h;obtain⟨t,rfl⟩:=U;obtain⟨o,rfl⟩:=l;exact rule i j t o s _ _ ⟨.bl (g i j),H,I,rfl,q⟩
def ahx(i j:Int):Prop:=0<j/\j<1073741824
def aik(i j:Int):Prop:=0<=j/\j<=1000000/\i.natAbs<2 ^ 64
def yD(i j:Int):Prop:=(-(2 ^ 64)<i/\i<2 ^ 64)\/(-(2 ^ 64)<j/\j<2 ^ 64)
theorem yD.ok{i j:Int}(h:yD i j):IntMulOk i j:=by
 rcases h with⟨h1,h2⟩|⟨h1,h2⟩
 ·exact .of_left (intBits_le_64 h1 h2)
 ·exact .of_right (intBits_le_64 h1 h2)
theorem aiq:vz X (binaryOp .Add) (rI0 λi j=>.int (i+j)):=akh λ_ _ _ _ _ _ _ q=>add_int q
theorem afy:vz X (binaryOp .Sub) (rI0 λi j=>.int (i-j)):=akh λ_ _ _ _ _ _ _ q=>sub_int q
theorem afw:vz X (binaryOp .Mult) (rI yD λi j=>.int (i*j)):=opI λ_ _ _ _ _ _ _ I q=>mul_int q I.ok
theorem adx:vz X (binaryOp .FloorDiv) (rI ahx λi j=>.int (i / j)):=opI λi j _ _ _ _ _ I q=>by have h1:(0:Int)<j:=I.1;have h2:j<1073741824:=I.2;exact floordiv_int (by lia) (by rw[Int.fdiv_eq_ediv_of_nonneg i (by lia)];exact q) (.inl (PyProof.noPylong_small (by lia)))
theorem ahd:vz X (binaryOp .Mod) (rI (λ_ j=>0<j) λi j=>.int (i % j)):=opI λi j _ _ _ _ _ I q=>by have h1:(0:Int)<j:=I;exact mod_int' (by lia) (by rw[Int.fmod_eq_emod_of_nonneg i (by lia)];exact q)
theorem ahc:vz X (binaryOp .Pow) (rI aik λi j=>.int (i ^ j.toNat)):=opI λ_ _ _ _ _ _ _ I q=>pow_int_small I.1 I.2.1 I.2.2 q
theorem unI{f:Value->Sem Value}{g:Int->Int}
 (rule:∀(i:Int) (t:Tok) (s:Shared) (Q:Value->Shared->Prop) (E:Value->Shared->Prop),Q (.int (g i) s.toks) { s with toks:=s.toks+1 }->wpAny (model X.prog X.w) X.A (f (.int i t)) Q E s):
 UnR X f (rU λi=>.int (g i)):=by
 intro J s j H x v Q I U h;obtain⟨i,rfl,q⟩:=h;obtain⟨t,rfl⟩:=U;exact rule i t s _ _ ⟨.int (g i),H,I.tok _,⟨_,rfl⟩,q⟩
theorem aj0:UnR X (unaryOp .USub) (rU λi=>.int (-i)):=unI λ_ _ _ _ _ q=>neg_int q
end
def ac0:V->V->Bool
 |.non,.non=>true|.non,.int _=>true|.int _,.non=>true|.non,.bl _=>true|.bl _,.non=>true|.non,.str _=>true|.str _,.non=>true
 |.int _,.int _=>true|.bl _,.bl _=>true|.str _,.str _=>true|.byt _,.byt _=>true
 |.int _,.str _=>true|.str _,.int _=>true|.bl _,.str _=>true|.str _,.bl _=>true
 |_,_=>false
def rEq:R2:=λx y H Q=>ac0 x y=true/\Q (.bl (decide (x=y))) H
def rNe:R2:=λx y H Q=>ac0 x y=true/\Q (.bl (!decide (x=y))) H
theorem tS{i j:Int}:decide (V.int i=V.int j)=(i==j):=by rw[Br];simp
theorem aab{i j:Bool}:decide (V.bl i=V.bl j)=(i==j):=by rw[Br];simp
theorem tW{i j:Str}:decide (V.str i=V.str j)=(i==j):=by rw[Br];simp
theorem tR{i j:Array UInt8}:decide (V.byt i=V.byt j)=(i.toList==j.toList):=by rw[Br];cases i;cases j;simp
section
variable {a b:Expr}{tb tc:TE}
theorem ji{Q:VK}{k J:Bool}(I:qy X pins σ H s)(q:Q (.bl k) H)(e:k=J):EP X pins σ Q (.bool J) s:=by subst e;exact⟨.bl k,H,I,rfl,q⟩
theorem aeo:vz X (compareOp .Eq) rEq:=by
 intro o s p H x y v u Q I l J h;obtain⟨g,q⟩:=h;cases x with
 |non=>
  cases l;cases y with
  |non=>cases J;exact PySem.EqNone.eq_none_none (ji I q (by simp))
  |bl j=>cases J;exact PySem.EqNone.eq_none_bool (ji I q (by simp))
  |int j=>obtain⟨U,rfl⟩:=J;exact PySem.EqNone.eq_none_int (ji I q (by simp))
  |str j=>obtain⟨U,rfl⟩:=J;exact PySem.EqNone.eq_none_str (ji I q (by simp))
  |_=>exact absurd (show false=true from g) AB
 |bl i=>
  cases l;cases y with
  |non=>cases J;exact PySem.EqNone.eq_bool_none (ji I q (by simp))
  |bl j=>cases J;exact eq_bool (ji I q aab)
  |str j=>obtain⟨U,rfl⟩:=J;exact PySem.EqMixed.eq_bool_str (ji I q (by simp))
  |_=>exact absurd (show false=true from g) AB
 |int i=>
  obtain⟨t,rfl⟩:=l;cases y with
  |non=>cases J;exact PySem.EqNone.eq_int_none (ji I q (by simp))
  |int j=>obtain⟨U,rfl⟩:=J;exact eq_int (ji I q tS)
  |str j=>obtain⟨U,rfl⟩:=J;exact PySem.EqMixed.eq_int_str (ji I q (by simp))
  |_=>exact absurd (show false=true from g) AB
 |str i=>
  obtain⟨t,rfl⟩:=l;cases y with
  |non=>cases J;exact PySem.EqNone.eq_str_none (ji I q (by simp))
  |bl j=>cases J;exact PySem.EqMixed.eq_str_bool (ji I q (by simp))
  |int j=>obtain⟨U,rfl⟩:=J;exact PySem.EqMixed.eq_str_int (ji I q (by simp))
  |str j=>obtain⟨U,rfl⟩:=J;exact eq_str (ji I q tW)
  |_=>exact absurd (show false=true from g) AB
 |byt i=>
  obtain⟨t,rfl⟩:=l;cases y with
  |byt j=>obtain⟨U,rfl⟩:=J;exact PySem.W.eq_bytes (ji I q tR)
  |_=>exact absurd (show false=true from g) AB
 |_=>cases y<;>exact absurd (show false=true from g) AB
theorem aez:vz X (compareOp .NotEq) rNe:=by
 intro o s p H x y v u Q I l J h;obtain⟨g,q⟩:=h;cases x with
 |non=>
  cases l;cases y with
  |non=>cases J;exact PySem.EqNone.ne_none_none (ji I q (by simp))
  |bl j=>cases J;exact PySem.EqNone.ne_none_bool (ji I q (by simp))
  |int j=>obtain⟨U,rfl⟩:=J;exact PySem.EqNone.ne_none_int (ji I q (by simp))
  |str j=>obtain⟨U,rfl⟩:=J;exact PySem.EqNone.ne_none_str (ji I q (by simp))
  |_=>exact absurd (show false=true from g) AB
 |bl i=>
  cases l;cases y with
  |non=>cases J;exact PySem.EqNone.ne_bool_none (ji I q (by simp))
  |bl j=>cases J;exact ne_bool (ji I q (Bb not aab))
  |str j=>obtain⟨U,rfl⟩:=J;exact PySem.EqMixed.ne_bool_str (ji I q (by simp))
  |_=>exact absurd (show false=true from g) AB
 |int i=>
  obtain⟨t,rfl⟩:=l;cases y with
  |non=>cases J;exact PySem.EqNone.ne_int_none (ji I q (by simp))
  |int j=>obtain⟨U,rfl⟩:=J;exact ne_int (ji I q (Bb not tS))
  |str j=>obtain⟨U,rfl⟩:=J;exact PySem.EqMixed.ne_int_str (ji I q (by simp))
  |_=>exact absurd (show false=true from g) AB
 |str i=>
  obtain⟨t,rfl⟩:=l;cases y with
  |non=>cases J;exact PySem.EqNone.ne_str_none (ji I q (by simp))
  |bl j=>cases J;exact PySem.EqMixed.ne_str_bool (ji I q (by simp))
  |int j=>obtain⟨U,rfl⟩:=J;exact PySem.EqMixed.ne_str_int (ji I q (by simp))
  |str j=>obtain⟨U,rfl⟩:=J;exact ne_str (ji I q (Bb not tW))
  |_=>exact absurd (show false=true from g) AB
 |byt i=>
  obtain⟨t,rfl⟩:=l;cases y with
  |byt j=>obtain⟨U,rfl⟩:=J;exact PySem.W.ne_bytes (ji I q (Bb not tR))
  |_=>exact absurd (show false=true from g) AB
 |_=>cases y<;>exact absurd (show false=true from g) AB
theorem alj:vz X (compareOp .Lt) (rI0 λi j=>.bl (decide (i<j))):=ai8 λ_ _ _ _ _ _ _ q=>lt_int q
theorem ajx:vz X (compareOp .LtE) (rI0 λi j=>.bl (decide (i<=j))):=ai8 λ_ _ _ _ _ _ _ q=>le_int q
theorem akb:vz X (compareOp .Gt) (rI0 λi j=>.bl (decide (j<i))):=ai8 λ_ _ _ _ _ _ _ q=>gt_int q
theorem we(b:Expr){op:CmpOp}(h:op≠.In:=by decide)(h2:op≠.NotIn:=by decide):behindInMarks op b=false:=by
 have I:(op==CmpOp.In)=false:=by cases op<;>first|rfl|exact absurd rfl h
 have J:(op==CmpOp.NotIn)=false:=by cases op<;>first|rfl|exact absurd rfl h2
 cases b<;>simp[behindInMarks,I,J]
theorem abr{op:CmpOp}{r:R2}(U:vz X (compareOp op) r)(g:PE X a ta)(j:PE X b tb)(l:behindInMarks op b=false):PE X (.Compare a [op] [b] pos) (tOp r ta tb):=by intro J s o H Q I h;exact wpAny_Compare1 (agj g j I h λv u p x y t C T ry q=>U J p o t x y v u Q C T ry q) l
def aaa(t:TE):TT:=λσ H Q=>t σ H λx H'=>∃k,x=.bl k/\Q k H'
theorem aeh{op:CmpOp}{r:R2}(g:vz X (compareOp op) r)(j:PE X a ta)(l:PE X b tb)(o:behindInMarks op b=false):PT X (.Compare a [op] [b] pos) (aaa (tOp r ta tb)):=by
 intro J s U H Q I h;refine wpAny_isTrue_Compare1 (aI (j J s U H _ I h) λv p x t C T q1=>aI (l J p U t _ C q1) λu s2 y H2 I2 r2 q2=>
  ki (g J s2 U H2 x y v u _ I2 T r2 q2) λc s3 ⟨z,H3,I3,r3,k,e,q3⟩=>?_) o
 subst e;cases r3;exact wpAny_truthy_bool ⟨H3,I3,q3⟩
theorem gI:(sizeLine:Nat)<2 ^ 63:=by rw[sizeLine_eq];decide
theorem sD:vz X (binaryOp .Add) (λx y H Q=>∃i j,x=.str i/\y=.str j/\i.length+j.length<=sizeLine/\Q (.str (i++j)) H):=by intro J s p H x y v u Q I U g h;obtain⟨i,j,rfl,rfl,l,q⟩:=h;obtain⟨t,rfl⟩:=U;obtain⟨o,rfl⟩:=g;exact jm I.tk (add_str (λo tk r=>⟨.str (i++j),H,I.tok _,⟨_,rfl⟩,q⟩) l)
theorem pY{x:V}(r:zn [x] us):∃u,us=[u]/\zm x u:=by cases r with|cons I J=>cases J;exact⟨_,rfl,I⟩
theorem aeu{x y:V}(r:zn [x,y] us):∃u I,us=[u,I]/\zm x u/\zm y I:=by
 cases r with
 |cons J U=>
  cases U with|cons g j=>cases j;exact⟨_,_,rfl,J,g⟩
theorem vO(hc:X.calm=true):jt X (.builtin "max") (λxs H Q=>∃i j,xs=[.int i,.int j]/\Q (.int (if j > i then j else i)) H):=by
 intro U s g H xs l Q I r h;obtain⟨i,j,rfl,q⟩:=h;obtain⟨u,o,rfl,⟨t,rfl⟩,⟨p,rfl⟩⟩:=aeu r;refine jm I.tk (max_two_ints (I.ok.hd hc) λC tk k T=>⟨_,H,I.kept k,?_,q⟩);by_cases J:j > i
 ·rw[AF J,AF J];exact⟨_,rfl⟩
 ·rw[AD J,AD J];exact⟨_,rfl⟩
theorem uv(hc:X.calm=true):jt X (.builtin "min") (λxs H Q=>∃i j,xs=[.int i,.int j]/\Q (.int (if j<i then j else i)) H):=by
 intro U s g H xs l Q I r h;obtain⟨i,j,rfl,q⟩:=h;obtain⟨u,o,rfl,⟨t,rfl⟩,⟨p,rfl⟩⟩:=aeu r;refine jm I.tk (min_two_ints (I.ok.hd hc) λC tk k T=>⟨_,H,I.kept k,?_,q⟩);by_cases J:j<i
 ·rw[AF J,AF J];exact⟨_,rfl⟩
 ·rw[AD J,AD J];exact⟨_,rfl⟩
end
structure agl(h:Heap)(x dx C:Addr)(mA:Str->Option Value):Prop where
 obj:h.get? x=some (PySem.W.instObj C dx)
 ns:h.Ns1 dx mA
 ne:dx≠x
theorem wQ(n:h.Ns1 dx mA):∃od,h.get? dx=some od/\∀name,PySem.W.lookIn name od=some (mA name):=by
 obtain⟨o,J,r,U,hd,g,_,j⟩:=n;refine⟨o,U,λname=>?_⟩;have e:=j name;unfold nsFind findBy at e;rw[<-Array.find?_toList] at e;unfold PySem.W.lookIn;rw[hd];dsimp only;split
 ·rename_i y q;rw[q] at e;exact Bb some e
 ·rename_i q;rw[q] at e;have a:J.toList.any (·.refKey)=false:=by rw[List.any_eq_false];intro y l;obtain⟨z,t,I⟩:=g y (Array.mem_toList_iff.mp l);simp[DictEntry.refKey,I]
  have p:¬J.toList.any (·.refKey)=true:=by rw[a];exact AB
  rw[AD p];exact Bb some e
theorem agl.look{x:Addr}(I:agl h x dx C mA):∃od,PySem.W.InstAt h x (PySem.W.instObj C dx) C (some od)/\∀name,PySem.W.lookIn name od=some (mA name):=
 let ⟨od,J,U⟩:=wQ I.ns
 ⟨od,⟨I.obj,rfl,rfl,J⟩,U⟩
section
variable {w:World}{K:Ae}{x:Addr}{v:Value}
end
theorem du.some_of{o:Option Value}(r:du (some v) o):∃u,o=some u/\zm v u:=by cases o with|none=>exact(show False from r).elim|some u=>exact⟨u,rfl,r⟩
abbrev ED:=@du.some_of
section
variable {P:Program}{w:World}{fs fs':List (Str×V)}
theorem abe(hok:cH P w H h)(e:H a=some (.ins C dx fs)):∃mA,agl h a dx C mA/\(∀f,du (fs.lookup f) (mA f))/\PySem.Within mA (fs.map (·.1))/\fs.length<=1000/\H dx=some (.own a):=by obtain⟨d,z,ne,I,mA,n,r,q⟩:=(show x4 P w H h a (.ins C dx fs) from hok a _ e);exact⟨mA,⟨I,n,ne⟩,r,q,z,d⟩
end
structure Cls(K:Ae)(C:Addr):Prop where
 pg:PySem.W.plainGet K C Str.empty=true
 hd:PySem.W.hasDictIn K C=true
 po:PySem.W.plainOver K C=true
 sa:PySem.W.findIn K (.ref C) "__setattr__"=some (some (.builtin "object.__setattr__"))
theorem Cls.get{K:Ae}(c:Cls K C)(f:Str):PySem.W.plainGet K C f=true:=c.pg
section
variable {fs:List (Str×V)}{f:Str}
end
section
variable {f:Str}{tpos:Pos}{tv:TE}
end
section
variable {c:Value}{b:Bool}
inductive hG(K:Ae)(H:Hp):V->Value->Prop where
 |non:hG K H .non (.type "NoneType")
 |bl (x:Bool):hG K H (.bl x) (.type "bool")
 |int (i:Int):hG K H (.int i) (.type "int")
 |str (x:Str):hG K H (.str x) (.type "str")
 |flt (x:UInt64):hG K H (.flt x) (.type "float")
 |lst {a:Addr} {xs:List V} (e:H a=some (.lst xs)):hG K H (.ref a) (.type "list")
 |frz {a:Addr} {o:Obj} {xs:List V} (e:H a=some (.frz o (.lst xs))):hG K H (.ref a) (.type "list")
 |tup {a:Addr} {xs:List V} (e:H a=some (.tup xs)):hG K H (.ref a) (.type "tuple")
 |dK {a:Addr} {kvs:List (j7×V)} (e:H a=some (.dK kvs)):hG K H (.ref a) (.type "dict")
 |dT {a:Addr} {kvs:List (List j7×V)} (e:H a=some (.dT kvs)):hG K H (.ref a) (.type "dict")
 |ins {a C dx:Addr} {fs:List (Str×V)} (e:H a=some (.ins C dx fs)) (cl:Cls K C) (ha:PySem.W.findIn K (.ref C) "__class__"=some (some (.builtin "object.__class__")))
  (hn:PySem.W.specialIn K (.builtin "object.__class__") "__get__"=some (some (.builtin "getset_descriptor.__get__"))) (htk:PySem.W.takesIn K (.builtin "object.__class__")=some true)
  (hm:PySem.W.mroIn K C (.type "object")=some true):hG K H (.ref a) (.ref C)
theorem aQ{x:V}{t:Value}(I:qy X pins σ H s)(U:zm x u)(ty:hG X.K H x t)(e:PySem.W.kitOne X.K t c=some b)(h:∀tk,Q (.bool b) { s with toks:=tk }):
 wpAny (model X.prog X.w) A (call (.builtin "isinstance") [u,c]) Q E s:=by
 cases ty with
 |non=>cases (show u=Value.none from U);exact Bc PySem.W.kitx_none I.kIn True.intro e (λz=>nomatch z) h
 |bl y=>cases (show u=Value.bool y from U);exact Bc PySem.W.kitx_bool I.kIn True.intro e (λz=>nomatch z) h
 |int i=>obtain⟨t,q⟩:=(show ∃t,u=Value.int i t from U);cases q;exact Bc PySem.W.kitx_int I.kIn True.intro e (λz=>nomatch z) h
 |str y=>obtain⟨t,q⟩:=(show ∃t,u=Value.str y t from U);cases q;exact Bc PySem.W.kitx_str I.kIn True.intro e (λz=>nomatch z) h
 |flt y=>obtain⟨t,q⟩:=(show ∃t,u=Value.float y t from U);cases q;exact Bc PySem.W.kitx_float I.kIn True.intro e (λz=>nomatch z) h
 |@lst a l g=>
  cases (show u=Value.ref a from U);obtain⟨_,_,n,_,h1⟩:=(show x4 X.prog X.w H s.heap a (.lst l) from I.hok a _ g);exact Bc Dn I.kIn ⟨_,h1,rfl⟩ e (λz=>nomatch z) h
 |@frz a T l g=>
  cases (show u=Value.ref a from U);obtain⟨_,_,_,n,_,h1⟩:=(show x4 X.prog X.w H s.heap a (.frz T (.lst l)) from I.hok a _ g);exact Bc Dn I.kIn ⟨_,h1,rfl⟩ e (λz=>nomatch z) h
 |@tup a l g=>
  cases (show u=Value.ref a from U);obtain⟨_,_,_,p⟩:=(show x4 X.prog X.w H s.heap a (.tup l) from I.hok a _ g);obtain⟨o,h1,h2,_⟩:=p;exact Bc PySem.W.kitx_tuple I.kIn ⟨o,h1,h2⟩ e (λz=>nomatch z) h
 |@dK a j g=>
  cases (show u=Value.ref a from U);obtain⟨_,_,vs,_,p⟩:=(show x4 X.prog X.w H s.heap a (.dK j) from I.hok a _ g);obtain⟨o,es,ep,h1,h2,_⟩:=p;exact Bc PySem.W.kitx_dict I.kIn ⟨o,h1,h2.1⟩ e (λz=>nomatch z) h
 |@dT a j g=>
  cases (show u=Value.ref a from U);obtain⟨_,_,l,_,o,es,ep,h1,h2,_⟩:=(show x4 X.prog X.w H s.heap a (.dT j) from I.hok a _ g);exact Bc PySem.W.kitx_dict I.kIn ⟨o,h1,h2.1⟩ e (λz=>nomatch z) h
 |@ins a C dx fs g cl ha hn r hm=>
  cases (show u=Value.ref a from U);obtain⟨mA,O,_⟩:=abe I.hok g;obtain⟨od,J,_⟩:=O.look;exact Bc (PySem.W.kitx_own (cl.get _) cl.hd ha hn r hm) I.kIn J e (λz=>nomatch z) h
end
structure k8(k:Nat)(A:Around):Prop where
 hd:A.handled=none
 dp:A.depth+3*k+5<recursionLimit
 un:A.units+16*k+200<cLine
theorem k8.mono{k:Nat}(r:k8 k A)(h:j<=k):k8 j A:=⟨r.hd,by have:=r.dp;lia,by have:=r.un;lia⟩
theorem k8.deeper{k:Nat}(r:k8 (k+1) A)(env:Env):k8 k (A.deeper env):=
 ⟨r.hd,by have:=r.dp;show A.depth+1+3*k+5<_;lia,by have:=r.un;show A.units+3+16*k+200<_;lia⟩
theorem k8.depth{k:Nat}(r:k8 k A):A.depth<recursionLimit:=by have:=r.dp;lia
def ani:TA:=λ_ H Q=>Q [] H
def aky(ta:TE)(tr:TA):TA:=λσ H Q=>ta σ H λx H1=>tr σ H1 λxs H2=>Q (x::xs) H2
section
variable {te:TE}
theorem cX:PA X [] ani:=λ_ _ _ _ H Q I h=>Ej ⟨[],H,I,.nil,h⟩
abbrev Eb(e:Expr)(es:List Expr)(X:Cx):Prop:=starEach (e::es) X.env=(false,eval e X.env)::starEach es X.env
theorem w5(g:PE X e te)(j:PA X es t)(hs:Eb e es X:=by rfl):PA X (e::es) (aky te t):=by intro pos J s U H Q I h;rw[hs];show wpAny _ _ (spliced ((false,eval e X.env)::backTo pos (starEach es X.env))) _ _ s;refine Eg (aI (g J s U H _ I h) λu l x o p r C=>?_);exact vC (j pos J l U o _ p C) λus s2 T H2 I2 r2 q2=>⟨x::T,H2,I2,.cons r r2,q2⟩
def anb(t:TA):TE:=λσ H Q=>t σ H λxs H1=>xs.length<=sizeLine/\∀p,H1 p=none->Q (.ref p) (upd H1 p (.tup xs))
def an0(t:TA):TE:=λσ H Q=>t σ H λxs H1=>xs.length<=sizeLine/\∀p,H1 p=none->Q (.ref p) (upd H1 p (.lst xs))
theorem aaj{x1}(h:PA X es t):PE X (.Tuple es x1 pos) (anb t):=by intro J s l H Q I o;refine wpAny_Tuple_spliced (ki (h pos J s l H _ I o) λp U ⟨C,g,j,r,z,q⟩=>⟨by rw[<-r.length];exact z,?_⟩);have T:g U.heap.objs.size=none:=j.hok.fresh (Al _);refine⟨.ref U.heap.objs.size,upd g U.heap.objs.size (.tup C),j.laid (t':=U.toks) (λb u e=>As _ e) (Al _) ?_,rfl,q _ T⟩;exact⟨z,p,r,⟨_,Db _ rfl,rfl,_,rfl⟩⟩
theorem afu(h:PA X es t):PE X (.List es pos) (an0 t):=by intro J s l H Q I o;refine wpAny_List_spliced (ki (h pos J s l H _ I o) λp U ⟨C,g,j,r,z,q⟩=>⟨by rw[<-r.length];exact z,?_⟩);have T:g U.heap.objs.size=none:=j.hok.fresh (Al _);refine⟨.ref U.heap.objs.size,upd g U.heap.objs.size (.lst C),j.laid (t':=U.toks) (λb u e=>As _ e) (Al _) ?_,rfl,q _ T⟩;exact⟨z,p,0,r,Db _ rfl⟩
end
abbrev Sp:=List V->Hp->VK->XK->Prop
abbrev tI:=List Env->Hp->Shared->XK->Value->Shared->Prop
structure abh(P:Program)(w:World)(K:Ae)(mg:Str->Option Value)(base:Heap)(A:Around)(outer:List Env)(s:Shared)(H:Hp):Prop where
 frames:A.frames=some outer
 mod:Mod K mg base
 bs:∀b o,base.get? b=some o->s.heap.get? b=some o/\H b=none
 bsz:base.objs.size<=s.heap.objs.size
 funs:s.heap.FunFrames base outer
 frf:∀b∈aa outer,H b=none
 hok:cH P w H s.heap
 bare:AllBare s.gens
 tk:0<s.toks
def CE(outer:List Env)(P:Program)(w:World)(H:Hp)(s:Shared)(Q:VK)(u:Value)(s':Shared):Prop:=
 ∃v H',s'.os=s.os/\AllBare s'.gens/\Un (aa outer) [] H H' s.heap s'.heap/\cH P w H' s'.heap/\zm v u/\Q v H'/\0<s'.toks
def CR(CX:tI)(outer:List Env)(P:Program)(w:World)(H:Hp)(s:Shared)(Q:VK)(E:XK)(r:Result)(s':Shared):Prop:=
 match r with
 |.ok (.ret u)=>CE outer P w H s Q u s'
 |.ok _=>False
 |.error e=>CX outer H s E e s'
structure aW(P:Program)(w:World)(K:Ae)(mg:Str->Option Value)(base:Heap)(CX:tI)(k:Nat)(f:Addr)(fd:FuncData)(ps:List Str)(sp:Sp):Prop where
 len:∀vs H Q E,sp vs H Q E->vs.length=ps.length
 run:∀(A:Around) (outer:List Env) (s:Shared) (H:Hp) (args:Args) (us:List Value) (vs:List V) (Q:VK) (E:XK),k8 k A->abh P w K mg base A outer s H->BindsTo s fd args (ps.zip us)->zn vs us->sp vs H Q E->
  codeAny (model P w) A (.call (.ref f) args) (CR CX outer P w H s Q E) s
theorem aW.mono{P:Program}{w:World}{K:Ae}{CX:tI}{k:Nat}{sp:Sp}(F:aW P w K mg base CX j f fd ps sp)(h:j<=k):
 aW P w K mg base CX k f fd ps sp:=⟨F.len,λA I s H args J U Q E g=>F.run A I s H args J U Q E (g.mono h)⟩
theorem aW.imp{P:Program}{w:World}{K:Ae}{CX:tI}{k:Nat}{sp J:Sp}(F:aW P w K mg base CX k f fd ps sp)
 (h:∀vs H Q E,J vs H Q E->sp vs H Q E):aW P w K mg base CX k f fd ps J:=
 ⟨λvs H Q E q=>F.len vs H Q E (h _ _ _ _ q),λA I s H args U vs Q E g j l o p=>F.run A I s H args U vs Q E g j l o (h _ _ _ _ p)⟩
theorem qy.env0(I:qy X pins σ H s):abh X.prog X.w X.K X.mg X.base X.A X.stack s H:=
 ⟨I.ok.frames,I.ok.mod,I.bs,AI I.ok.bsz I.sz,I.stack,I.stkFree,I.hok,I.bare,I.tk⟩
theorem qy.after{Q:VK}(I:qy X pins σ H s)(h:CE X.stack X.prog X.w H s Q u s'):EP X pins σ Q u s':=by obtain⟨v,j,os,bare,un,J,r,q,o⟩:=h;obtain⟨l,g,d,t,U⟩:=s';obtain rfl:U=s.os:=os;exact⟨v,j,I.call (h':=l) (g':=g) (d':=d) (t':=t) (ch:=[]) un J bare (λb z=>absurd z (by simp)),r,q⟩
def af8(sp:Sp)(xT:List V)(E:XK)(t:TA):TE:=λσ H Q=>t σ H λvs H1=>sp (vs++xT) H1 Q E
def bz(K:Ae)(fd:FuncData)(ps:List Str)(ds:List Value):Prop:=
 ∀(s:Shared) (us:List Value),K.In s.heap->(us++ds).length=ps.length->BindsTo s fd ⟨us,[]⟩ (ps.zip (us++ds))
theorem bz.all{K:Ae}(h:∀us:List Value,us.length=ps.length->bindArgs fd ⟨us,[]⟩=pure (ps.zip us)):bz K fd ps []:=λs us _ I=>by rw[AX] at I ⊢;exact .of_eq (h us I)
def rY(CX:tI)(X:Cx)(E:XK):Prop:=∀(pins:List (Addr×Obj)) (σ:St) (H:Hp) (s:Shared) (e:Value) (s':Shared),qy X pins σ H s->CX X.stack H s E e s'->X.xe e s'
section
variable {CX:tI}{k:Nat}{sp:Sp}{xT:List V}{ds:List Value}{E:XK}{m:Str}
theorem ahk{Q:VK}{vs:List V}(F:aW X.prog X.w X.K X.mg X.base CX k f fd ps sp)(g:k8 k X.A)(j:bz X.K fd ps ds)(hd:zn xT ds)(l:rY CX X E)
 (I:qy X pins σ H s) (r:zn vs us) (h:sp (vs++xT) H Q E):wpAny (model X.prog X.w) X.A (call (.ref f) us) (EP X pins σ Q) X.xe s:=by
 have U:zn (vs++xT) (us++ds):=r.append hd;have o:(us++ds).length=ps.length:=by rw[<-U.length];exact F.len _ _ _ _ h
 refine wpAny_call (codeAny_mono (F.run X.A X.stack s H ⟨us,[]⟩ (us++ds) (vs++xT) Q E g I.env0 (j s us I.kIn o) U h) λr p J=>?_);cases r with
 |error e=>exact l pins σ H s e p I J
 |ok t=>
  cases t with|ret u=>exact I.after J|next=>exact False.elim J|brk=>exact False.elim J|cont=>exact False.elim J
abbrev Ec(p:Pos)(es:List Expr)(X:Cx):Prop:=(backTo p (starEach es X.env)).any (·.1)=false
theorem acd(F:aW X.prog X.w X.K X.mg X.base CX k f fd ps sp)(l:k8 k X.A)(o:Gl X x)(C:X.mg x=some (.ref f))(T:PySem.W.keepIn X.K (.ref f)=true)(hb:bz X.K fd ps ds)(hd:zn xT ds)(hx:rY CX X E)
 (ha:PA X (e::es) t) (U:Ed x:=by decide) (he:Eb e es X:=by rfl) (g:Ec pos es X:=by rfl):
 PE X (.Call (.Name x p) (e::es) [] pos) (af8 sp xT E t):=by
 intro J s σ H Q I h;refine wpAny_Call_Name_kw (fD I o C ?_ U);refine PySem.W.callWith_K (h₀:=X.base) I.ok.mod.kin T (vC (ha pos J s σ H _ I h) λus s1 vs H1 j r q=>⟨j.kIn,?_⟩) he g;exact ahk F l hb hd hx j r q
end
section
variable {CX:tI}{k:Nat}{ks:List Str}{sp:Sp}{E:XK}{m:Str}{kws:List Keyword}{te:TE}{tk:TA}{nm:Option Str}
variable {g:List Value->List Value->List Value}{gV:List V->List V->List V}
end
structure kn(N P:List Str)(sc:Scope):Prop where
 kind:sc.kind=.function
 co:sc.isCoroutine=false
 gen:sc.isGenerator=false
 nd:N.Nodup
 pre:N.take P.length=P
 par:∀x∈P,sc.names.lookup x=some .local\/sc.names.lookup x=some .cell
 nofree:∀y∈sc.names,y.2≠.free
theorem lU{kindOf:Str->Option NameKind}{x:Str}:∀{I:List (Str×Value)} {m:Str->Option Value},(∀v,(x,v)∉I)->bindL kindOf I m x=m x
 |[],_,_=>rfl
 |(n,v)::r,m,h=>by
  unfold bindL;rw[lU λw hw=>h w (Ac _ hw)];split
  ·have:x≠n:=by rintro rfl;exact h v Ah
   simp[this]
  ·rfl
theorem lS{kindOf:Str->Option NameKind}{x:Str}:∀{I:List (Str×Value)} {m:Str->Option Value},(∀v,(x,v)∉I)->bindC kindOf I m x=m x
 |[],_,_=>rfl
 |(n,v)::r,m,h=>by
  unfold bindC;rw[lS λw hw=>h w (Ac _ hw)];split
  ·rfl
  ·have:x≠n:=by rintro rfl;exact h v Ah
   simp[this]
theorem lF{kindOf:Str->Option NameKind}{x:Str}{v:Value}:∀{P:List Str} {vs:List Value} {i:Nat} {m:Str->Option Value},P.Nodup->P[i]?=some x->vs[i]?=some v->kindOf x=some .local->
 bindL kindOf (P.zip vs) m x=some v
 |[],_,_,_,_,h,_,_=>by simp at h
 |_::_,[],_,_,_,_,h,_=>by simp at h
 |p::P,w::vs,0,m,nd,h1,h2,I=>by simp at h1 h2;subst h1;subst h2;show bindL kindOf ((p,w)::P.zip vs) m p=_;unfold bindL;rw[lU λv J=>(Ay.mp nd).1 (CY J).1,AF I];simp
 |p::P,w::vs,i+1,m,nd,h1,h2,I=>by show bindL kindOf ((p,w)::P.zip vs) m x=_;unfold bindL;exact lF (i:=i) (Ay.mp nd).2 (by simpa using h1) (by simpa using h2) I
theorem l7{kindOf:Str->Option NameKind}{x:Str}{v:Value}:∀{P:List Str} {vs:List Value} {i:Nat} {m:Str->Option Value},P.Nodup->P[i]?=some x->vs[i]?=some v->kindOf x≠some .local->
 bindC kindOf (P.zip vs) m x=some v
 |[],_,_,_,_,h,_,_=>by simp at h
 |_::_,[],_,_,_,_,h,_=>by simp at h
 |p::P,w::vs,0,m,nd,h1,h2,I=>by simp at h1 h2;subst h1;subst h2;show bindC kindOf ((p,w)::P.zip vs) m p=_;unfold bindC;rw[lS λv J=>(Ay.mp nd).1 (CY J).1,AD I];simp
 |p::P,w::vs,i+1,m,nd,h1,h2,I=>by show bindC kindOf ((p,w)::P.zip vs) m x=_;unfold bindC;exact l7 (i:=i) (Ay.mp nd).2 (by simpa using h1) (by simpa using h2) I
def start(N:List Str)(vs:List V):St:=vs.map some++List.replicate (N.length-vs.length) none
def bq(CX:tI)(P:Program)(w:World)(K:Ae)(mg:Str->Option Value)(base:Heap)(N:List Str)(fx:Str)(scope:Scope)(f:Addr)(cd:Value)(A:Around)(outer:List Env)(s:Shared)(H:Hp)(E:XK):Cx where
 prog:=P
 w:=w
 K:=K
 mg:=mg
 base:=base
 A:=A.deeper (envOfC fx scope s.heap.objs.size f cd)
 N:=N
 s₀:=s
 H₀:=H
 env:=envOfC fx scope s.heap.objs.size f cd
 outer:=outer
 stack:=envOfC fx scope s.heap.objs.size f cd::outer
 ex:=[]
 calm:=true
 fn:=λ_=>true
 pn:=[]
 xe:=λe s'=>wpAny (model P w) (A.deeper (envOfC fx scope s.heap.objs.size f cd)) (leaving (envOfC fx scope s.heap.objs.size f cd) e) (λ_ I=>CX outer H s E e I) (λJ I=>CX outer H s E J I) s'
theorem pU{I:Scope}(h:I.names.lookup x=some .cell):∃c,(cellsFrom n I.names []).lookup x=some c:=by have q:=DC I.names n [] (.inl h);exact Option.isSome_iff_exists.mp q
theorem uh{CX:tI}{P:Program}{w:World}{K:Ae}{N:List Str}{o:Shared}{E:XK}{vs:List V}
 (S:kn N ps scope) (hd:A.handled=none) (I:abh P w K mg base A outer s H) (hl:vs.length=ps.length) (r:zn vs us)
 (x:InCallC s s.heap.objs.size (bindL (envOfC fx scope s.heap.objs.size f cd).kindOf (ps.zip us) λ_=>none) (cellsFrom (s.heap.objs.size+1) scope.names []) (bindC (envOfC fx scope s.heap.objs.size f cd).kindOf (ps.zip us) λ_=>none) o) (T:0<o.toks):
 qy (bq CX P w K mg base N fx scope f cd A outer s H E) [] (start N vs) H o:=by
 have a1:ps.length<=N.length:=by have:=Bb List.length S.pre;rw[AY] at this;lia
 obtain⟨h1,tk,rfl,t⟩:=x.done;have J:∀b:Addr,b∉(bq CX P w K mg base N fx scope f cd A outer s H E).ex:=λb z=>absurd (show b∈([]:List Addr) from z) (by simp);refine⟨⟨I.mod,S.kind,rfl,rfl,Al _,λy z c h1 h2=>?_,λy U=>?_,λy c _ h=>?_,λ_=>hd,Around.frames_deeper I.frames,.inr ⟨rfl,rfl⟩,λb z=>absurd z (J b),I.bs,I.bsz,λb _ _=>J b,λb z=>absurd z (J b),I.funs,I.frf⟩,
  rfl,I.bare,Un.kept t,⟨_,x.toInCall.ns,λi y v h1 h2 h3=>?_⟩,λy c h=>⟨_,x.cell y c h⟩,I.hok.fresh (Al _),λy c h=>?_,λp g=>absurd (show p∈([]:List (Addr×Obj)) from g) (by simp),I.hok.kept t,?_,T⟩
 ·exact name_of_addr x.apart (Bo h1) (Bo h2)
 ·have U:scope.names.lookup y=some .cell\/scope.names.lookup y=some .free:=U;rcases U with U|U
  ·exact pU U
  ·exact absurd rfl (S.nofree _ (Bo U))
 ·exact Bl (x.above y c (Bo h))
 ·have l:i<vs.length:=by
   unfold start at h2;by_cases l:i<vs.length
   ·exact l
   ·rw[Ax (by simpa using l)] at h2;rw[BZ] at h2;split at h2<;>cases h2
  have ha:vs[i]?=some v:=by unfold start at h2;rw[AE (by simpa using l),Am] at h2;cases e:vs[i]? with|none=>rw[e] at h2;cases h2|some a=>rw[e] at h2;cases h2;rfl
  obtain⟨u,C,rv⟩:=r.get ha;have g:ps[i]?=some y:=by rw[<-S.pre,Dq (by lia)];exact h1
  have j:ps.Nodup:=by rw[<-S.pre];exact S.nd.sublist (List.take_sublist _ _)
  refine⟨u,rv,?_⟩;rcases S.par y (AM g) with k|k
  ·exact .inl ⟨k,lF j g C k⟩
  ·obtain⟨c,e⟩:=pU (n:=s.heap.objs.size+1) k;refine .inr ⟨.inl k,c,e,?_⟩;have q:=x.cell y c e;rw[l7 j g C (by show scope.names.lookup y≠_;rw[k];decide)] at q;exact q
 ·exact I.hok.fresh (Bl (x.above y c (Bo h)))
 ·unfold start;show _=N.length;rw[Ad,Ab,BI];lia
theorem xM{CX:tI}{P:Program}{w:World}{K:Ae}{k:Nat}{U:Arguments}{dV kV:Value}
 {N:List Str} {sp:Sp} (lk:K.lookup f=some ⟨oc,od,.func (PySem.W.fnOf name fx U body scope dV kV nC pm an g7 ct),vb⟩) (a1:PySem.W.codeIn K g7 fx=true) (S:kn N ps scope)
 (len:∀vs H Q E,sp vs H Q E->vs.length=ps.length)
 (j:∀(A:Around) (outer:List Env) (s:Shared) (H:Hp) (vs:List V) (Q:VK) (E:XK),k8 k (A.deeper (envOfC fx scope s.heap.objs.size f g7))->sp vs H Q E->
  ∃t,fG (bq CX P w K mg base N fx scope f g7 A outer s H E) body t/\t { nx:=λ_ H'=>Q .non H',rt:=Q } (start N vs) H):
 aW P w K mg base CX (k+1) f (PySem.W.fnOf name fx U body scope dV kV nC pm an g7 ct) ps sp:=by
 refine⟨len,λA outer s H args us vs Q E hr p hb r T=>?_⟩;have hl:=len _ _ _ _ T;have KX:K.In s.heap:=p.mod.kin.keeps λb o e=>(p.bs b o e).1;have a2:s.heap.NoLimit:=p.mod.nolimit.keeps λb o e=>(p.bs b o e).1;have l:∀y∈ps.zip us,scope.names.lookup y.1=some .local\/(scope.names.lookup y.1=some .cell/\((cellsFrom (s.heap.objs.size+1) scope.names []).lookup y.1).isSome=true):=λ⟨n,v⟩ hy=>by
  rcases S.par n (CY hy).1 with q|q
  ·exact .inl q
  ·exact .inr ⟨q,DC _ _ _ (.inl q)⟩
 refine codeAny_call_function hr.depth (KX _ _ lk) rfl S.co S.gen rfl (PySem.W.codeRec_of KX a1) (hb _ _ _ _ ?_);refine jm p.tk (wpAny_newFunctionEnv_cells S.kind l λa4 he s1 x a3=>?_);subst he;refine⟨a2.keeps x.toInCall.keep,codeAny_func ?_⟩;obtain⟨t,ht,hq⟩:=j A outer s H vs Q E (hr.deeper _) T;have I:qy (bq CX P w K mg base N fx scope f g7 A outer s H E) [] (start N vs) H s1:=uh S hr.hd p hl r x a3;refine AQ (ht [] s1 (start N vs) H _ I hq) (λfl s' C=>?_) λe s' C=>C;have xr:∀{g:St} {H':Hp} {v:V} {u:Value},qy (bq CX P w K mg base N fx scope f g7 A outer s H E) [] g H' s'->zm v u->Q v H'->CE outer P w H s Q u s':=
  λ{g H' v u} J rv q=>⟨v,H',J.os,J.bare,J.base,J.hok,rv,q,J.tk⟩
 cases fl with
 |ret u=>
  obtain⟨v,g,H',J,rv,q⟩:=C;exact xr J rv q
 |next=>
  obtain⟨g,H',J,q⟩:=C;exact xr (v:=V.non) (u:=Value.none) J rfl q
 |brk=>
  obtain⟨_,_,_,q⟩:=C;exact False.elim q
 |cont=>
  obtain⟨_,_,_,q⟩:=C;exact False.elim q
end L2
variable {sp:L2.Sp}
namespace L2
open PySem PySem.Spec PyProof.Rows
section
variable {id T:String}{r:List V->Hp->VK->Prop}
def tCB(r:List V->Hp->VK->Prop)(t:TA):TE:=λσ H Q=>t σ H λvs H1=>r vs H1 Q
theorem fC(hc:jt X (.builtin id) r)(l:Gl X x)(o:X.mg x=none)(C:bootBuiltins x=some (.builtin id))(T:PA X (e::es) t)(hn:x ≠ "__name__" := by decide)(U:Ed x:=by decide)
 (he:Eb e es X:=by rfl) (g:Ec pos es X:=by rfl):PE X (.Call (.Name x p) (e::es) [] pos) (tCB r t):=by
 intro J s j H Q I h;refine wpAny_Call_Name_kw (dl I l o C ?_ hn U);exact PyProof.Rows.callWith_builtin1 (vC (T pos J s j H _ I h) λus s1 vs H1 I1 r1 q1=>hc J s1 j H1 vs us Q I1 r1 q1) he g
theorem gN(hc:jt X (.type T) r)(l:Gl X x)(o:X.mg x=none)(C:bootBuiltins x=some (.type T))(ha:PA X (e::es) t)(hn:x ≠ "__name__" := by decide)(U:Ed x:=by decide)
 (he:Eb e es X:=by rfl) (g:Ec pos es X:=by rfl):PE X (.Call (.Name x p) (e::es) [] pos) (tCB r t):=by
 intro J s j H Q I h;refine wpAny_Call_Name_kw (dl I l o C ?_ hn U);exact BF (vC (ha pos J s j H _ I h) λus s1 vs H1 I1 r1 q1=>hc J s1 j H1 vs us Q I1 r1 q1) he g
end
section
variable [DecidableEq κ]
def aK(kvs:List (κ×V))(k:κ):Option V:=(kvs.find? λI=>decide (I.1=k)).map (·.2)
def ax(kvs:List (κ×V))(k:κ)(v:V):List (κ×V):=
 if (kvs.any λI=>decide (I.1=k))=true then kvs.map (λI=>if I.1=k then(I.1,v) else I) else kvs++[(k,v)]
theorem jK{p:κ×V}{r:List (κ×V)}{k:κ}(e:p.1=k):aK (p::r) k=some p.2:=by simp[aK,Bd,e]
theorem eG{p:κ×V}{r:List (κ×V)}{k:κ}(e:¬p.1=k):aK (p::r) k=aK r k:=by simp[aK,Bd,e]
theorem pS(k:κ):∀kvs:List (κ×V),(kvs.any λI=>decide (I.1=k))=(aK kvs k).isSome
 |[]=>rfl
 |p::r=>by
  rw[BU];by_cases e:p.1=k
  ·simp only[jK e,AV e,Bool.true_or,C8]
  ·rw[eG e,Az e,Bool.false_or];exact pS k r
theorem ac(kvs:List (κ×V))(k:κ)(v:V):(ax kvs k v).length<=kvs.length+1:=by
 unfold ax;split
 ·rw[Ab];lia
 ·rw[Ad,AJ,List.length_nil];lia
theorem du.isSome_eq{o:Option V}{u:Option Value}(r:du o u):o.isSome=u.isSome:=by
 cases o with
 |none=>cases u with|none=>rfl|some _=>exact(show False from r).elim
 |some _=>cases u with|none=>exact(show False from r).elim|some _=>rfl
theorem du.getD{o:Option V}{u:Option Value}{d:V}{d':Value}(r:du o u)(rd:zm d d'):zm (o.getD d) (u.getD d'):=by
 cases o with
 |none=>cases u with|none=>exact rd|some _=>exact(show False from r).elim
 |some _=>cases u with|none=>exact(show False from r).elim|some _=>exact r
theorem KV.val{kvs:List (κ×V)}{vs:List (κ×Value)}(r:KV kvs vs)(k:κ):du (aK kvs k) (valueAt vs k):=by
 unfold KV at r
 induction r with
 |nil=>exact True.intro
 |@cons p q g I h t U=>
  obtain⟨h1,h2⟩:=h;by_cases e:p.1=k
  ·have J:q.1=k:=h1.symm.trans e;have b:valueAt (q::I) k=some q.2:=by simp[valueAt,Bd,J]
   rw[jK e,b];exact h2
  ·have J:¬q.1=k:=λz=>e (h1.trans z);have b:valueAt (q::I) k=valueAt I k:=by simp[valueAt,Bd,J]
   rw[eG e,b];exact U
theorem KV.any{kvs:List (κ×V)}{vs:List (κ×Value)}(r:KV kvs vs)(k:κ):(kvs.any λI=>decide (I.1=k))=vs.any λI=>decide (I.1=k):=by
 unfold KV at r
 induction r with|nil=>rfl|cons h t J=>rw[BU,BU,J,h.1]
theorem KV.repl{kvs:List (κ×V)}{vs:List (κ×Value)}(r:KV kvs vs)(k:κ){y:V}(J:zm y u):
 KV (kvs.map λI=>if I.1=k then(I.1,y) else I) (vs.map λI=>if I.1=k then(I.1,u) else I):=by
 unfold KV at r ⊢
 induction r with
 |nil=>exact .nil
 |@cons p q g j h t U=>
  rw[AA,AA];refine .cons ?_ U;obtain⟨h1,h2⟩:=h;by_cases e:p.1=k
  ·rw[AF e,AF (h1.symm.trans e)];exact⟨h1,J⟩
  ·rw[AD e,AD (λz=>e (h1.trans z))];exact⟨h1,h2⟩
theorem KV.put{kvs:List (κ×V)}{vs:List (κ×Value)}(r:KV kvs vs)(k:κ){y:V}(I:zm y u):KV (ax kvs k y) (stored vs k u):=by
 unfold ax stored;rw[r.any k];by_cases e:(vs.any λJ=>decide (J.1=k))=true
 ·rw[AF e,AF e];exact r.repl k I
 ·rw[AD e,AD e];exact Paired.snoc r ⟨rfl,I⟩
theorem KV.length{kvs:List (κ×V)}{vs:List (κ×Value)}(r:KV kvs vs):kvs.length=vs.length:=Paired.length r
end
theorem dY{P:Program}{w:World}{k:j7}(r:zm (kV k) u):(ju P w).is k u=true:=by
 cases k with
 |inl i=>obtain⟨t,e⟩:=(show ∃t,u=Value.int i t from r);subst e;exact qL P w i t
 |inr x=>obtain⟨t,e⟩:=(show ∃t,u=Value.str x t from r);subst e;exact pi P w x t
theorem lG{P:Program}{w:World}:∀{ks:List j7} {us:List Value},zn (ks.map kV) us->ItemsAre (ju P w) ks us
 |[],_,r=>by rw[CC] at r;cases r;exact .nil
 |k::ks,_,r=>by rw[AA] at r;cases r with|cons h t=>exact .cons (dY h) (lG t)
abbrev KT(H:Hp):List (List j7×V)->List (List j7×Addr×Value)->Prop:=Paired λp q=>p.1=q.1/\H q.2.1=some (.tup (p.1.map kV))/\zm p.2 q.2.2
theorem KT.val{kvs:List (List j7×V)}{xs:List (List j7×Addr×Value)}(r:KT H kvs xs)(k:List j7):du (aK kvs k) ((atKey xs k).map (·.2)):=by
 induction r with
 |nil=>exact True.intro
 |@cons p q g I h t U=>
  obtain⟨h1,_,h2⟩:=h;by_cases e:p.1=k
  ·have J:q.1=k:=h1.symm.trans e;have b:atKey (q::I) k=some q.2:=by simp[atKey,Bd,J]
   rw[jK e,b];exact h2
  ·have J:¬q.1=k:=λz=>e (h1.trans z);have b:atKey (q::I) k=atKey I k:=by simp[atKey,Bd,J]
   rw[eG e,b];exact U
theorem KT.repl{kvs:List (List j7×V)}{xs:List (List j7×Addr×Value)}(r:KT H kvs xs)(k:List j7){y:V}(J:zm y u):
 KT H (kvs.map λI=>if I.1=k then(I.1,y) else I) (xs.map (putAt k u)):=by
 induction r with
 |nil=>exact .nil
 |@cons p q g j h t U=>
  rw[AA,AA];refine .cons ?_ U;obtain⟨h1,h2,h3⟩:=h;unfold putAt;by_cases e:p.1=k
  ·rw[AF e,AF (h1.symm.trans e)];exact⟨h1,h2,J⟩
  ·rw[AD e,AD (λz=>e (h1.trans z))];exact⟨h1,h2,h3⟩
theorem KT.put{kvs:List (List j7×V)}{xs:List (List j7×Addr×Value)}(r:KT H kvs xs)(k:List j7){y:V}(J:H b=some (.tup (k.map kV)))(I:zm y u):
 KT H (ax kvs k y) (storedH xs k b u):=by
 have e:(kvs.any λU=>decide (U.1=k))=(atKey xs k).isSome:=by rw[pS,(r.val k).isSome_eq,Cq]
 unfold ax storedH;rw[e];by_cases q:(atKey xs k).isSome=true
 ·rw[AF q,AF q];exact r.repl k I
 ·rw[AD q,AD q];exact Paired.snoc r ⟨rfl,J,I⟩
theorem KT.keeps{kvs:List (List j7×V)}{xs:List (List j7×Addr×Value)}(r:KT H kvs xs)(I:∀b ys,H b=some (.tup ys)->H' b=some (.tup ys)):KT H' kvs xs:=
 DS r λ_ _ z=>⟨z.1,I _ _ z.2.1,z.2.2⟩
section
variable {P:Program}{w:World}
theorem afe{u:HO}(ok:cH P w H h)(e:Rd H a u):x4 P w H h a u:=e.ok ok
theorem gS{kvs:List (j7×V)}(ok:cH P w H h)(e:Rd H a (.dK kvs)):kvs.length<=sizeLine/\(a==sysModules)=false/\∃vs,KV kvs vs/\h.DictOf (ju P w) a vs:=
 show x4 P w H h a (.dK kvs) from afe ok e
theorem y9{kvs:List (j7×V)}(ok:cH P w H h)(e:H a=some (.dK kvs)):kvs.length<=sizeLine/\(a==sysModules)=false/\∃vs,KV kvs vs/\h.DictOf (ju P w) a vs:=gS ok (.inl e)
theorem gM{ks:List j7}(ok:cH P w H h)(e:H a=some (.tup (ks.map kV))):(tupleKind (ju P w)).is h ks a:=by obtain⟨_,I,r,o,h1,h2,n,h3⟩:=(show x4 P w H h a (.tup (ks.map kV)) from ok a _ e);exact⟨o,I.toArray,n,h1,h2,h3,by simpa using lG r⟩
theorem kE{kvs:List (List j7×V)}(ok:cH P w H h)(e:Rd H a (.dT kvs)):kvs.length<=sizeLine/\(a==sysModules)=false/\
 ∃xs,KT H kvs xs/\h.DictOfH (tupleKind (ju P w)) a xs:=by
 obtain⟨z,y,xs,r,o,U,g,h1,h2,h3,j,C⟩:=(show x4 P w H h a (.dT kvs) from afe ok e);refine⟨z,y,xs,r,o,U,g,h1,h2,h3,j,λx I=>?_,C⟩;have all:∀{l:List (List j7×V)} {m:List (List j7×Addr×Value)},KT H l m->∀x∈m,(tupleKind (ju P w)).is h x.1 x.2.1:=by
  intro l m q
  induction q with
  |nil=>intro x I;exact nomatch I
  |@cons p q ps qs J t T=>
   intro x I;rcases Ap.mp I with e|I
   ·subst e;exact gM ok (by rw[<-J.1];exact J.2.1)
   ·exact T x I
 exact all r x I
theorem alk{kvs:List (List j7×V)}(ok:cH P w H h)(e:H a=some (.dT kvs)):kvs.length<=sizeLine/\(a==sysModules)=false/\
 ∃xs,KT H kvs xs/\h.DictOfH (tupleKind (ju P w)) a xs:=kE ok (.inl e)
end
def ix(H:Hp)(a:Addr)(y:V)(r:Option V):Prop:=
 (∃kvs k,Rd H a (.dK kvs)/\y=kV k/\r=aK kvs k)\/∃kvs k b,Rd H a (.dT kvs)/\y=.ref b/\H b=some (.tup (k.map kV))/\r=aK kvs k
def ajp(H:Hp)(a:Addr)(y v:V)(H':Hp):Prop:=
 (∃kvs k,H a=some (.dK kvs)/\y=kV k/\kvs.length<sizeLine/\H'=upd H a (.dK (ax kvs k v)))\/
 ∃kvs k b,H a=some (.dT kvs)/\y=.ref b/\H b=some (.tup (k.map kV))/\kvs.length<sizeLine/\H'=upd H a (.dT (ax kvs k v))
theorem ix.k{kvs:List (j7×V)}{k:j7}(e:H a=some (.dK kvs)):ix H a (kV k) (aK kvs k):=.inl ⟨kvs,k,.inl e,rfl,rfl⟩
section
variable {y:V}{r:Value}{o:Option V}
theorem qy.big(I:qy X pins σ H s):sysModules<s.heap.objs.size:=by have h:mainGlobals<s.heap.objs.size:=(I.mod.glob.keeps I.bk).lt;exact Nat.lt_trans (by decide) h
theorem um(hu:A.units+1<cLine)(I:qy X pins σ H s)(g:ix H a y (some v))(T:zm y u)(h:∀U s',qy X pins σ H s'->zm v U->Q U s'):
 wpAny (model X.prog X.w) A (getItem (.ref a) u) Q E s:=by
 rcases g with⟨j,k,e,r,l⟩|⟨j,k,b,e,r,eb,l⟩
 ·subst r;obtain⟨z,hd,vs,rel,t⟩:=gS I.hok e;obtain⟨U,hw,J⟩:=ED (v:=v) (o:=valueAt vs k) (by rw[l];exact rel.val k);exact wpAny_getItem_of (dY T) t.mapOf hw (h U _ (I.tok _) J)
 ·subst r;cases (show u=Value.ref b from T);obtain⟨z,hd,xs,rel,t⟩:=kE I.hok e;obtain⟨U,hw,J⟩:=ED (v:=v) (o:=(atKey xs k).map (·.2)) (by rw[l];exact rel.val k);obtain⟨p,hp,C⟩:=Au.mp hw;refine wpAny_getItem_heap (tupleKind_room_in1 hu) (gM I.hok eb) t hp ?_;rw[C];exact h U _ (I.tok _) J
theorem aof(r:A.units+1<cLine)(I:qy X pins σ H s)(g:ix H a y o)(p:zm y u)(h:∀s',qy X pins σ H s'->Q (.bool o.isSome) s'):
 wpAny (model X.prog X.w) A (compareOp .In u (.ref a)) Q E s:=by
 rcases g with⟨J,k,e,U,l⟩|⟨J,k,b,e,U,t,l⟩
 ·subst U;obtain⟨z,hd,C,rel,j⟩:=gS I.hok e;refine wpAny_in_of (dY p) hd j.mapOf ?_;rw[<-(rel.val k).isSome_eq,<-l];exact h _ (I.tok _)
 ·subst U;cases (show u=Value.ref b from p);obtain⟨z,hd,T,rel,j⟩:=kE I.hok e;refine wpAny_in_heap (tupleKind_room_in1 r) (gM I.hok t) hd j ?_;have q:=(rel.val k).isSome_eq;rw[Cq] at q;rw[<-q,<-l];exact h _ (I.tok _)
theorem ady(r:A.units+1<cLine)(I:qy X pins σ H s)(g:ix H a y o)(p:zm y u)(h:∀s',qy X pins σ H s'->Q (.bool (!o.isSome)) s'):
 wpAny (model X.prog X.w) A (compareOp .NotIn u (.ref a)) Q E s:=by
 rcases g with⟨J,k,e,U,l⟩|⟨J,k,b,e,U,t,l⟩
 ·subst U;obtain⟨z,hd,C,rel,j⟩:=gS I.hok e;refine wpAny_notIn_of (dY p) hd j.mapOf ?_;rw[<-(rel.val k).isSome_eq,<-l];exact h _ (I.tok _)
 ·subst U;cases (show u=Value.ref b from p);obtain⟨z,hd,T,rel,j⟩:=kE I.hok e;refine wpAny_notIn_heap (tupleKind_room_in1 r) (gM I.hok t) hd j ?_;have q:=(rel.val k).isSome_eq;rw[Cq] at q;rw[<-q,<-l];exact h _ (I.tok _)
theorem hY{J:HO}(I:qy X pins σ H s)(U:Mut (H a))(hs:Heap.SameBut a s.heap h')(g:∃q,h'.get? a=some q)(new:x4 X.prog X.w (upd H a J) h' a J)(l:0<t':=by walk_at "t"):
 qy X pins σ (upd H a J) { s with heap:=h',toks:=t' }:=
 I.write (x:=a) (e:=a) U (.inl rfl) (λb q j z=>(hs.2 b j).trans z) g new
theorem rE{P:Program}{w:World}{kvs:List (j7×V)}{vs:List (j7×Value)}(z:kvs.length<=sizeLine)(hd:(a==sysModules)=false)(rel:KV kvs vs)(dd:h'.DictOf (ju P w) a vs):
 x4 P w H' h' a (.dK kvs):=⟨z,hd,vs,rel,dd⟩
theorem vP{Q:Unit->Shared->Prop}(hu:A.units+1<cLine)(I:qy X pins σ H s)(g:ajp H a y v H')(ry:zm y u)(rv:zm v r)(h:∀s',qy X pins σ H' s'->Q () s'):
 wpAny (model X.prog X.w) A (setItem (.ref a) u r) Q E s:=by
 rcases g with⟨J,k,e,o,l,p⟩|⟨J,k,b,e,o,eb,l,p⟩
 ·subst o p;obtain⟨z,hd,vs,rel,t⟩:=y9 I.hok e;have C:vs.length<=sizeLine:=by rw[<-rel.length];exact z
  have T:(ax J k v).length<=sizeLine:=by have:=ac J k v;lia
  refine wpAny_setItem_pairs (hsz:=C) (dY ry) t λh' U hs=>h _ ?_;have he:∃q,h'.get? a=some q:=let ⟨q,_,_,j,_⟩:=U;⟨q,j⟩;exact hY I (by rw[e];exact True.intro) hs he (rE T hd (rel.put k rv) U)
 ·subst o p;cases (show u=Value.ref b from ry);obtain⟨z,hd,xs,rel,t⟩:=alk I.hok e;have C:xs.length<=sizeLine:=by rw[<-Paired.length rel];exact z
  have T:(ax J k v).length<=sizeLine:=by have:=ac J k v;lia
  refine wpAny_setItem_heap (hsz:=C) (tupleKind_room_in1 hu) (gM I.hok eb) t λh' U hs=>h _ ?_;obtain⟨q,es,ep,j,h2,h3,h4,_,h5⟩:=U;refine hY I (by rw[e];exact True.intro) hs ⟨q,j⟩ ⟨T,hd,_,(rel.put k eb rv).keeps λc ys ec=>?_,q,es,ep,j,h2,h3,h4,h5⟩;rw[qp (aju ec e (λz=>nomatch z))];exact ec
end
section
variable {kvs:List (j7×V)}{k:j7}
end
def ag3(i:Expr):Prop:=∀I J,subscripted i false I J=operate [I,J] (getItem I J)
theorem ael{w:World}{slice:Expr}{T id:String}
 (t:typeLookup (.type T) "__getitem__" = pure (some (.builtin id))) (hs:ag3 slice)
 (h:wpAny (model prog w) A (eval value env) (λo U=>wpAny (model prog w) A (eval slice env) (λi I=>I.TypeIs o T/\wpAny (model prog w) A (getItem o i) Q E I) E U) E s):
 wpAny (model prog w) A (eval (.Subscript value slice pos) env) Q E s:=by
 refine Subscript_ (AQ h (λo U j=>AQ j (λi I J=>?_) λ_ _ x=>x) λ_ _ x=>x);obtain⟨p,J⟩:=J;unfold subscriptTail;refine Aa ?_;rw[getitemInPython_of_ne p.not_modules];refine Aa (wpAny_specialOf p t ?_);have xr:wpAny (model prog w) A (subscripted slice false o i) (λr g=>wpAny (model prog w) A (letTemporaryGo value o r >>= λ_=>pure r) Q E g) E I:=by rw[hs o i];exact wpAny_operating (AQ J (λr g l=>Aa (wpAny_letTemporaryGo (Ak l))) λ_ _ x=>x)
 first
  |exact Ak (Aa xr)
  |exact Aa (Ak (Aa xr))
  |exact Aa xr
theorem pV{y:V}{o:Option V}(I:qy X pins σ H s)(g:ix H a y o):s.TypeIs (.ref a) "dict" := by
 rcases g with⟨J,k,e,_,_⟩|⟨J,k,b,e,_,_,_⟩
 ·obtain⟨_,_,j,_,U⟩:=gS I.hok e;exact U.typeIs
 ·obtain⟨_,_,l,_,U⟩:=kE I.hok e;exact U.typeIs
def aku(td ty:TE):TE:=λσ H Q=>td σ H λx H1=>ty σ H1 λy H2=>∃a v,x=.ref a/\ix H2 a y (some v)/\Q v H2
def ak3(td ty tv:TE):TS:=λD σ H=>tv σ H λv H1=>td σ H1 λx H2=>ty σ H2 λy J=>∃a I,x=.ref a/\ajp J a y v I/\D.nx σ I
section
variable {i:Expr}{tpos:Pos}{td ty tv:TE}
theorem ac4(p:X.A.units+1<cLine)(r:PE X o td)(hi:PE X i ty)(hs:ag3 i):PE X (.Subscript o i pos) (aku td ty):=by intro J s j H Q I h;refine ael Dj.lookup hs (aI (r J s j H _ I h) λu t x C T rx q1=>ki (hi J t j C _ T q1) λiv s2 ⟨y,H2,l,ry,a,v,ex,g,q2⟩=>?_);subst ex;obtain rfl:u=Value.ref a:=rx;exact⟨pV l g,um p l g ry λw' s3 I3 U=>⟨v,H2,I3,U,q2⟩⟩
theorem aei(j:X.A.units+1<cLine)(l:PE X o td)(hi:PE X i ty)(p:PE X value tv)(hs:swapsWith value (some (.Subscript o i ir)) pos.line X.env=pure false):
 PS X (.Assign [.Subscript o i ir] value pos) (ak3 td ty tv):=by
 intro J s U H D I h;refine wpAny_Assign_Subscript (aI (p J s U H _ I h) λr t v C T rv q1=>aI (l J t U C _ T q1) λu s2 x H2 I2 rx q2=>ki (hi J s2 U H2 _ I2 q2) λiv s3 ⟨y,H3,I3,ry,a,H4,ex,g,q3⟩=>?_) hs;subst ex;obtain rfl:u=Value.ref a:=rx;exact vP j I3 g ry rv λs4 I4=>⟨U,H4,I4,q3⟩
end
theorem iO{P:Program}{w:World}(h:Heap)(I:sysModules<h.objs.size):x4 P w H (h.push { cls:=.type "dict",data:=.dict #[] }) h.objs.size (.dK []):=
 ⟨Bi _,beq_eq_false_iff_ne.mpr (AW (A1 I)),[],.nil,Heap.DictOf.new h⟩
def aj8:TE:=λ_ H Q=>∀p,H p=none->Q (.ref p) (upd H p (.dK []))
theorem yY:PE X (.Dict [] [] pos) aj8:=λJ s U H Q I h=>
 wpAny_Dict_empty ⟨.ref s.heap.objs.size,_,I.laid (a:=s.heap.objs.size) (o:=.dK []) (t':=s.toks) (λ_ _ q=>As _ q) (Al _) (iO s.heap I.big),rfl,h _ (I.hok.fresh (Al _))⟩
def mY:List (TE×TE)->St->Hp->(List (V×V)->Hp->Prop)->Prop
 |[],_,H,Q=>Q [] H
 |(tk,tv)::r,σ,H,Q=>tk σ H λx H1=>tv σ H1 λy H2=>mY r σ H2 λps I=>Q ((x,y)::ps) I
abbrev VV:List (V×V)->List (Value×Value)->Prop:=Paired λp q=>zm p.1 q.1/\zm p.2 q.2
def PPs(X:Cx)(pos:Pos)(keys:List (Option Expr))(values:List Expr)(I:List (TE×TE)):Prop:=
 ∀(pins:List (Addr×Obj)) (s:Shared) (σ:St) (H:Hp) (Q:List (V×V)->Hp->Prop),qy X pins σ H s->mY I σ H Q->
  wpAny (model X.prog X.w) X.A (evalPairs (pairTrees keys values X.env pos)) (λvs s'=>∃ps H',qy X pins σ H' s'/\VV ps vs/\Q ps H') X.xe s
theorem ack :PPs X pos [] [] []:=λJ s U H Q I h=>pairTrees_nil_walk ⟨[],H,I,.nil,h⟩
theorem eY{k v:Expr}{ks:List (Option Expr)}{vs:List Expr}{tk tv:TE}{U:List (TE×TE)}(j:PE X k tk)(l:PE X v tv)(o:PPs X pos ks vs U):
 PPs X pos (some k::ks) (v::vs) ((tk,tv)::U):=λJ s g H Q I h=>
 pairTrees_cons_walk (aI (j J s g H _ I h) λu p x r t C T=>aI (l J p g r _ t T) λw2 s2 y H2 I2 ry q2=>
  ki (o J s2 g H2 _ I2 q2) λws s3 ⟨ps,H3,I3,rel,q3⟩=>⟨(x,y)::ps,H3,I3,.cons ⟨C,ry⟩ rel,q3⟩)
def gJ(kvs more:List (j7×V)):List (j7×V):=more.foldl (λI J=>ax I J.1 J.2) kvs
theorem KV.merge:∀{more:List (j7×V)} {I:List (j7×Value)} {kvs:List (j7×V)} {vs:List (j7×Value)},KV more I->KV kvs vs->KV (gJ kvs more) (merged vs I):=by
 intro more I kvs vs r;unfold KV at r
 induction r generalizing kvs vs with
 |nil=>intro q;exact q
 |@cons p q g j h t J=>
  intro U;have e:KV (ax kvs p.1 p.2) (stored vs q.1 q.2):=by have:=U.put p.1 h.2;rw[<-h.1];exact this
  exact J e
theorem dQ:∀(more kvs:List (j7×V)),(gJ kvs more).length<=kvs.length+more.length
 |[],kvs=>by show kvs.length<=kvs.length+0;lia
 |p::r,kvs=>by have h1:=dQ r (ax kvs p.1 p.2);have h2:=ac kvs p.1 p.2;show(gJ (ax kvs p.1 p.2) r).length<=_;rw[AJ];lia
theorem kC{P:Program}{w:World}:∀{kvs:List (j7×V)} {J:List (Value×Value)},VV (kvs.map λU=>(kV U.1,U.2)) J->∃I,Carries (ju P w) J I/\KV kvs I
 |[],_,r=>by rw[CC] at r;cases r;exact⟨[],True.intro,.nil⟩
 |p::kvs,_,r=>by
  rw[AA] at r;cases r with
  |@cons a b as bs h t=>
   obtain⟨I,c,q⟩:=kC (P:=P) (w:=w) t;obtain⟨b1,b2⟩:=b;exact⟨(p.1,b2)::I,⟨dY h.1,rfl,c⟩,.cons ⟨rfl,h.2⟩ q⟩
def akm(I:List (TE×TE)):TE:=λσ H Q=>∀p,H p=none->mY I σ (upd H p (.dK [])) λps H2=>H2 p=some (.dK [])/\∃kvs:List (j7×V),ps=kvs.map (λJ=>(kV J.1,J.2))/\kvs.length<=15/\Q (.ref p) (upd H2 p (.dK (gJ [] kvs)))
theorem ac6{keys:List (Option Expr)}{values:List Expr}{J:List (TE×TE)}(h:PPs X pos keys values J)(U:keys.all (·.isSome)=true)(t:keys.length=values.length)(h0:keys≠[])
 (p:keys.length<=15):PE X (.Dict keys values pos) (akm J):=by
 intro g s C H Q I q;have T:=I.hok.fresh (Al s.heap.objs.size);have I1:=I.laid (a:=s.heap.objs.size) (o:=.dK []) (h':=s.heap.push { cls:=.type "dict",data:=.dict #[] }) (t':=s.toks) (λ_ _ q=>As _ q) (Al _) (iO s.heap I.big);refine wpAny_Dict_walk (knd:=ju X.prog X.w) U t h0 p (ki (h g _ C _ _ I1 (q _ T)) λws s2 ⟨ps,H2,r,rel,e,j,ep,lk,q2⟩=>?_);subst ep;obtain⟨rs,c,rk⟩:=kC (P:=X.prog) (w:=X.w) rel;obtain⟨z,hd,a1,r0,dd⟩:=y9 r.hok e;cases r0;refine⟨rs,c,dd,λh' l hs=>⟨.ref s.heap.objs.size,_,?_,rfl,q2⟩⟩;have hz:(gJ [] j).length<=sizeLine:=by have h1:=dQ j [];rw[List.length_nil] at h1;rw[sizeLine_eq];lia
 have he:∃q,h'.get? s.heap.objs.size=some q:=let ⟨q,_,_,hq,_⟩:=l;⟨q,hq⟩;exact hY r (by rw[e];exact True.intro) hs he (rE hz hd (rk.merge .nil) l)
structure M2(X:Cx)(o:Expr)(m:Str)(apos:Pos)(e f:Expr)(fm:Pos):Prop where
 base:attributeBase o m X.env (eval o X.env)=eval o X.env
 few:((backTo fm (starEach [e,f] X.env)).all (λx=>!x.1)&&(backToKw fm (keywordEach [] X.env)).all (λx=>x.1.isSome)
  && decide (([e,f]:List Expr).length+([]:List Keyword).length+(if ([]:List Keyword).isEmpty then 0 else 1)<30))=true
 line:(apos.endLine==fm.line)=true
 trees:backTo fm (starEach [e,f] X.env)=[(false,eval e X.env),(false,eval f X.env)]
def IsD(H:Hp)(a:Addr):Prop:=(∃kvs,Rd H a (.dK kvs))\/∃kvs,Rd H a (.dT kvs)
theorem aig(I:qy X pins σ H s)(d:IsD H a):
 s.TypeIs (.ref a) "dict" /\ (∀b,Value.ref a=.ref b->∃J,s.heap.get? b=some J/\J.dict=none)/\(a==sysModules)=false:=by
 rcases d with⟨g,e⟩|⟨g,e⟩
 ·obtain⟨_,hd,j,_,U⟩:=gS I.hok e;refine⟨U.typeIs,λb q=>?_,hd⟩;cases q;obtain⟨J,_,_,h1,h2,_⟩:=U;exact⟨J,h1,h2.2.1⟩
 ·obtain⟨_,hd,l,_,U⟩:=kE I.hok e;refine⟨U.typeIs,λb q=>?_,hd⟩;cases q;obtain⟨J,_,_,h1,h2,_⟩:=U;exact⟨J,h1,h2.2.1⟩
section
variable {y d:V}{r:Value}{o:Option V}
theorem ait(C:A.units+1<cLine)(I:qy X pins σ H s)(g:ix H a y o)(p:zm y u)(rd:zm d r)(h:∀t s',qy X pins σ H s'->zm (o.getD d) t->Q t s'):
 wpAny (model X.prog X.w) A (call (.builtin "dict.get") [.ref a,u,r]) Q E s:=by
 rcases g with⟨U,k,e,j,l⟩|⟨U,k,b,e,j,T,l⟩
 ·subst j;obtain⟨z,hd,vs,rel,J⟩:=gS I.hok e;refine call_meetsIn CL J.typeIs DD (Du _ _ _) (meets_dict_get_default (ju X.prog X.w) a (dY p) hd r) ⟨_,J.mapOf,h _ _ (I.tok _) ?_⟩;rw[l];exact(rel.val k).getD rd
 ·subst j;cases (show u=Value.ref b from p);obtain⟨z,hd,xs,rel,J⟩:=kE I.hok e;refine call_meetsIn CL J.typeIs DD (Du _ _ _) (meetsH_dict_get_default (tupleKind (ju X.prog X.w)) a b hd r) ⟨tupleKind_room_in1 C,k,xs,gM I.hok T,J,h _ _ (I.tok _) ?_⟩;rw[l];exact(rel.val k).getD rd
end
def ahq(td ty tx:TE):TE:=λσ H Q=>td σ H λx H1=>∃a,x=.ref a/\IsD H1 a/\ty σ H1 λy H2=>tx σ H2 λz I=>∃o,ix I a y o/\Q (o.getD z) I
section
variable {f:Expr}{td ty tx:TE}
theorem aad(p:X.A.units+1<cLine)(r:PE X o td)(t:PE X e ty)(C:PE X f tx)(m:M2 X o "get" apos e f fm):PE X (.Call (.Attribute o "get" apos) [e,f] [] fm) (ahq td ty tx):=by
 intro J s U H Q I h;refine wpAny_Call_method m.base m.few m.line PySem.F.plainAttrs_dict CL PySem.F.type_dict_get (ki (r J s U H _ I h) λu T ⟨x,H1,l,rx,a,ex,d,q1⟩=>?_);subst ex;obtain rfl:u=Value.ref a:=rx;obtain⟨t1,t2,_⟩:=aig l d;refine⟨t1,t2,?_⟩;rw[m.trees];refine Ek rfl (El (Eg (aI (t J T U H1 _ l q1) λiv s2 y H2 I2 ry q2=>
  Eg (ki (C J s2 U H2 _ I2 q2) λfv s3 ⟨z,H3,I3,rz,ov,g,q3⟩=>Ej ?_))))
 exact ait p I3 g ry rz λw' s4 I4 j=>⟨_,H3,I4,j,q3⟩
end
section
variable {kvs:List (j7×V)}
end
section
variable {y:V}
end
end L2
namespace HT
open PySem PyProof.Rows
section
open PySem.SeqAt
open PySem.AutoSeq1 (wpAny_loadPart')
open PySem.MeetsSeq PySem.MeetsSeq2 PySem.MeetsSeq3
end
section
variable {w:World}
def sIx(n d:Nat):Option Int->Nat
 |none=>d
 |some v=>if v<0 then(v+(n:Int)).toNat else min v.toNat n
theorem sIx_none(n d:Nat):sIx n d none=d:=rfl
theorem sIx_nat(n d k:Nat):sIx n d (some (k:Int))=min k n:=by show(if (k:Int)<0 then((k:Int)+(n:Int)).toNat else min (k:Int).toNat n)=min k n;rw[AD (by lia),CD]
theorem sIx_le(n d:Nat)(hd:d<=n)(o:Option Int):sIx n d o<=n:=by
 cases o with
 |none=>exact hd
 |some v=>
  show(if v<0 then(v+(n:Int)).toNat else min v.toNat n)<=n;by_cases I:v<0
  ·rw[AF I];lia
  ·rw[AD I];exact Nat.min_le_right _ _
theorem tY(v:Int)(n d:Nat):(if v<0 then max (v+(n:Int)) 0 else min v (n:Int))=((sIx n d (some v):Nat):Int):=by
 show(if v<0 then max (v+(n:Int)) 0 else min v (n:Int))=(((if v<0 then(v+(n:Int)).toNat else min v.toNat n):Nat):Int);by_cases I:v<0
 ·simp only[AF I];lia
 ·simp only[AD I];lia
theorem sW(lo hi:Option Int)(n:Nat):Builtin.Slice.sliceAdjust lo hi 1 (n:Int)=(((sIx n 0 lo:Nat):Int),(sIx n n hi:Int)):=by
 have h1:¬((1:Int)<0):=by lia
 unfold Builtin.Slice.sliceAdjust;simp only[h1,if_false];refine Prod.ext ?_ ?_
 ·cases lo with|none=>rfl|some v=>exact tY v n 0
 ·cases hi with|none=>rfl|some v=>exact tY v n n
theorem r6(i j:Nat):Builtin.Slice.slicePlaces (i:Int) (j:Int) 1=j-i:=by
 unfold Builtin.Slice.slicePlaces;have h1:(1:Int) > 0:=by lia
 simp only[h1,if_true,Int.ediv_one];split<;>lia
theorem jH{v:Value}{o:Option Int}{Q:Option Int->Shared->Prop}(p:IsPart v o)(h:Q o s):wpAny (model prog w) A (Builtin.Slice.slicePartIndex v) Q E s:=by cases p with|none=>exact slicePart_none h|int i t=>exact slicePart_int h
theorem gF{j:Addr}{U g:Value}{lo hi:Option Int}{Q:Int×Int×Nat->Shared->Prop}(hs:s.heap.IsSliceOf j U g .none)(pl:IsPart U lo)(l:IsPart g hi)
 (h:Q (((sIx n 0 lo:Nat):Int),1,sIx n n hi-sIx n 0 lo) s):wpAny (model prog w) A (Builtin.Slice.sliceApplied (.ref j) (pure (n:Int))) Q E s:=by
 obtain⟨os,I,o,J⟩:=id hs;unfold Builtin.Slice.sliceApplied Builtin.Slice.sliceFields;refine Aa (Aa (wpAny_field I J (x:=U) rfl (Aa (wpAny_field I J (x:=g) rfl (Aa (wpAny_field I J (x:=.none) rfl (Ak ?_)))))));refine Aa (slicePart_none ?_);show wpAny _ _ (if ((1:Int)==0)=true then _ else _) _ _ s;rw[AD (by decide)];refine Aa (jH pl (Aa (jH l (Aa (Ak ?_)))));show wpAny _ _ (match Builtin.Slice.sliceAdjust lo hi 1 (n:Int) with|(lo,hi)=>pure (lo,(1:Int),Builtin.Slice.slicePlaces lo hi 1)) _ _ s;rw[sW lo hi n];show wpAny _ _ (pure (((sIx n 0 lo:Nat):Int),(1:Int),Builtin.Slice.slicePlaces ((sIx n 0 lo:Nat):Int) (sIx n n hi:Int) 1)) _ _ s;rw[r6];exact Ak h
theorem aa8(xs:Array Value)(i k:Nat):((List.range k).filterMap λ(m:Nat)=>xs[((i:Int)+(m:Int)*1).toNat]?).toArray=((xs.toList.drop i).take k).toArray:=by
 have e:(λ(m:Nat)=>xs[((i:Int)+(m:Int)*1).toNat]?)=λm=>xs[i+m]?:=by
  funext m;have:((i:Int)+(m:Int)*1).toNat=i+m:=by lia
  rw[this]
 rw[e];have:=pick_run xs i k;rw[List.filterMap_map] at this;have I:((λx=>xs[x]?)∘λx=>i+x)=λm=>xs[i+m]?:=rfl;rw[I] at this;rw[this]
theorem getItem_tuple_cut{t U:Addr}{items:Array Value}{p r:Value}{lo hi:Option Int}(J:IsTup s.heap t items)(hs:s.heap.IsSliceOf U p r .none)(pl:IsPart p lo)(C:IsPart r hi)
 (hw:¬(sIx items.size 0 lo=0/\sIx items.size items.size hi=items.size))
 (h:Q (.ref s.heap.objs.size) { s with heap:=s.heap.push { cls:=.type "tuple",data:=.seq ((items.toList.drop (sIx items.size 0 lo)).take (sIx items.size items.size hi-sIx items.size 0 lo)).toArray } })
 (hsz:items.size<=sizeLine):wpAny (model prog w) A (getItem (.ref t) (.ref U)) Q E s:=by
 have I:sizeOk (.seq ((items.toList.drop (sIx items.size 0 lo)).take (sIx items.size items.size hi-sIx items.size 0 lo)).toArray):=by show((items.toList.drop (sIx items.size 0 lo)).take (sIx items.size items.size hi-sIx items.size 0 lo)).toArray.size<=sizeLine;rw[An,AY,B1,Ba];lia
 have hj:sIx items.size items.size hi<=items.size:=sIx_le _ _ (Al _) hi;obtain⟨os,g,j,T⟩:=id hs;have l:s.TypeIs (.ref U) "slice" := ⟨os,g,j⟩;unfold getItem
 try with_reducible refine A3 ?_
 first|refine Aa (Ak ?_)|skip
 refine Aa (wpAny_sequenceKey J.typeIs (by decide) ?_);refine Aa (wpAny_callSpecial?_slot (name:=Str.ofString "__getitem__") J.typeIs BX
  (wpAny_call_entry BX J.typeIs entry_tuple_getitem ?_ (args_tuple_getitem _ _)))
 show wpAny _ _ (Builtin.Tuple.tupleItemsOf (.ref t) >>= _) _ _ s;refine Aa (tupleItemsOf_ J ?_);refine Aa (wpAny_typeOf l ?_);rw[AF (by decide)];refine Aa (gF hs pl C ?_);have o:¬((((sIx items.size 0 lo:Nat):Int)==0&&(1:Int)==1&&(sIx items.size items.size hi-sIx items.size 0 lo)==items.size)=true):=by intro q;rw[AK,AK] at q;have q1:((sIx items.size 0 lo:Nat):Int)=0:=eq_of_beq q.1.1;have q2:sIx items.size items.size hi-sIx items.size 0 lo=items.size:=eq_of_beq q.2;exact hw ⟨by lia,by lia⟩
 show wpAny _ _ (if (((sIx items.size 0 lo:Nat):Int)==0&&(1:Int)==1&&(sIx items.size items.size hi-sIx items.size 0 lo)==items.size)=true then _ else _) _ _ s;rw[AD o,aa8]
 first
  |exact Aa (m:=Builtin.Tuple.tupleExact _) (Bv (Ak ⟨_,rfl,Ak h⟩) I)
  |exact Aa (m:=Builtin.Tuple.tupleExact _) (Bv (Aa (Ak (Ak ⟨_,rfl,Ak h⟩))) I)
  |exact Aa (Aa (m:=Builtin.Tuple.tupleExact _) (Bv (Ak (Ak ⟨_,rfl,Ak h⟩)) I))
  |exact Aa (Aa (m:=Builtin.Tuple.tupleExact _) (Bv (Ak ⟨_,rfl,Ak h⟩) I))
end
end HT
namespace L2
open PySem PySem.Spec PyProof.Rows
abbrev TO:=St->Hp->(Option Int->Hp->Prop)->Prop
def PO(X:Cx)(e:Option Expr)(t:TO):Prop:=
 ∀(pins:List (Addr×Obj)) (s:Shared) (σ:St) (H:Hp) (Q:Option Int->Hp->Prop),qy X pins σ H s->t σ H Q->
  wpAny (model X.prog X.w) X.A (evalPart e X.env) (λu s'=>∃o H',qy X pins σ H' s'/\IsPart u o/\Q o H') X.xe s
def abz:TO:=λ_ H Q=>Q none H
def aly(t:TE):TO:=λσ H Q=>t σ H λx H1=>∃i,x=.int i/\Q (some i) H1
section
variable {te:TE}{lo hi:Option Expr}{tl th:TO}
theorem aby:PO X none abz:=by intro J s U H Q I h;rw[evalPart_none];exact Ak ⟨none,H,I,.none,h⟩
theorem ae8(h:PE X e te):PO X (some e) (aly te):=by intro J s U H Q I hw;rw[evalPart_some];refine aI (h J s U H _ I hw) λu p x g j l o=>?_;obtain⟨i,rfl,q⟩:=o;obtain⟨t,rfl⟩:=l;exact⟨some i,g,j,.int i t,q⟩
def oO(X:Cx)(r:V->Option Int->Option Int->Hp->VK->Prop):Prop:=
 ∀(pins:List (Addr×Obj)) (s:Shared) (σ:St) (H:Hp) (x:V) (v I J:Value) (lo hi:Option Int) (U:Addr) (Q:VK),qy X pins σ H s->zm x v->s.heap.IsSliceOf U I J .none->IsPart I lo->IsPart J hi->r x lo hi H Q->
  ∃T id,typeLookup (.type T) "__getitem__" = pure (some (.builtin id))/\s.TypeIs v T/\wpAny (model X.prog X.w) X.A (getItem v (.ref U)) (EP X pins σ Q) X.xe s
theorem oO.or{U:V->Option Int->Option Int->Hp->VK->Prop}(h:oO X r)(h':oO X U):oO X (λx lo hi H Q=>r x lo hi H Q\/U x lo hi H Q):=by
 intro J s g H x v j l lo hi o Q I p t pl C q;rcases q with q|q
 ·exact h J s g H x v j l lo hi o Q I p t pl C q
 ·exact h' J s g H x v j l lo hi o Q I p t pl C q
def tSl(r:V->Option Int->Option Int->Hp->VK->Prop)(te:TE)(tl th:TO):TE:=λσ H Q=>te σ H λx H1=>tl σ H1 λl H2=>th σ H2 λu I=>r x l u I Q
theorem y4(t:oO X r)(C:PE X e te)(hl:PO X lo tl)(hu:PO X hi th):PE X (.Subscript e (.Slice lo hi none p2) pos) (tSl r te tl th):=by intro J s g H Q I h;refine Subscript_ (ki (C J s g H _ I h) λv s1 ⟨x,H1,I1,r1,q1⟩=>?_);refine wpAny_Slice (ki (hl J s1 g H1 _ I1 q1) λj s2 ⟨l,H2,I2,pl,q2⟩=>ki (hu J s2 g H2 _ I2 q2) λo U ⟨u,p,I3,pu,q3⟩=>?_);rw[evalPart_none];refine Ak ?_;have I4:qy X J g p { U with heap:=U.heap.push { cls:=.type "slice",data:=.fields #[j,o,.none] } }:=I3.kept (t':=U.toks) λb ob q=>As _ q;obtain⟨T,id,hT,ht,hg⟩:=t J { U with heap:=U.heap.push { cls:=.type "slice",data:=.fields #[j,o,.none] } } g p x v j o l u U.heap.objs.size Q I4 r1 (Heap.IsSliceOf.new ..) pl pu q3;show wpAny (model X.prog X.w) X.A (subscriptTail e (.Slice lo hi none p2) v (.ref U.heap.objs.size)) (EP X J g Q) X.xe { U with heap:=U.heap.push { cls:=.type "slice",data:=.fields #[j,o,.none] } };exact tail_any (ops:=[.ref U.heap.objs.size,v]) ht hT hg (by with_unfolding_all rfl)
def qN(xs:List V)(lo hi:Option Int):List V:=(xs.drop (HT.sIx xs.length 0 lo)).take (HT.sIx xs.length xs.length hi-HT.sIx xs.length 0 lo)
theorem gg(xs:List V)(lo hi:Option Int):(qN xs lo hi).length<=xs.length:=by unfold qN;rw[AY,B1];lia
def apw(K:Ae):V->Option Int->Option Int->Hp->VK->Prop:=λx lo hi H Q=>∃a xs,x=.ref a/\cG K H a xs/\
 ¬(HT.sIx xs.length 0 lo=0/\HT.sIx xs.length xs.length hi=xs.length)/\∀p,H p=none->Q (.ref p) (upd H p (.tup (qN xs lo hi)))
theorem ahm:oO X (apw X.K):=by
 intro l s σ H x v vl vu lo g sl Q I C T pl pu h;obtain⟨a,U,rfl,hx,hw,q⟩:=h;cases C;obtain⟨j,r,p,t⟩:=I.tuple hx;have J:j.toArray.size=U.length:=by rw[An];exact r.length.symm
 refine⟨"tuple",_,BX.lookup,p.typeIs,?_⟩;refine HT.getItem_tuple_cut p T pl pu (by rw[J];exact hw) ?_ (by rw[J];exact t);rw[J];refine⟨.ref s.heap.objs.size,_,I.laid (t':=s.toks) (o:=.tup (qN U lo g)) (λb ob q=>As _ q) (Al _) ?_,rfl,q _ (I.hok.fresh (Al _))⟩;exact⟨AI (gg U lo g) t,_,(r.drop (HT.sIx U.length 0 lo)).take (HT.sIx U.length U.length g-HT.sIx U.length 0 lo),IsTup.new _ _⟩
end
def xW(n:Nat)(i:Int):Option Nat:=if 0<=i then(if i<n then some i.toNat else none) else if -(n:Int)<=i then some (i+n).toNat else none
def dz(xs:List α)(i:Int):Option α:=(xW xs.length i).bind λj=>xs[j]?
theorem tZ{i:Int}(h:xW n i=some j):seqIndex? i n=some j/\j<n /\ -(n:Int)<=i/\i<n:=by
 unfold xW at h;by_cases h0:0<=i
 ·rw[AF h0] at h;by_cases h1:i<n
  ·rw[AF h1] at h;have e:i.toNat=j:=AN h;exact⟨by rw[seqIndex_of h0 h1,e],by lia,by lia,h1⟩
  ·rw[AD h1] at h;cases h
 ·rw[AD h0] at h;by_cases h1 : -(n:Int)<=i
  ·rw[AF h1] at h;have e:(i+n).toNat=j:=AN h;exact⟨by rw[seqIndex_neg (by lia) h1,e],by lia,h1,by lia⟩
  ·rw[AD h1] at h;cases h
theorem mR{xs:List α}{i:Int}{v:α}(h:dz xs i=some v):∃j,seqIndex? i xs.length=some j/\xs[j]?=some v/\j<xs.length /\ -(xs.length:Int)<=i/\i<xs.length:=by
 unfold dz at h;cases e:xW xs.length i with
 |none=>rw[e] at h;cases h
 |some j=>
  rw[e] at h;obtain⟨h1,h2,h3,I⟩:=tZ e;exact⟨j,h1,h,h2,h3,I⟩
theorem zv{xs:List α}{v:α}(h:xs[j]?=some v):dz xs (j:Int)=some v:=by
 have I:j<xs.length:=(AL.mp h).1;have e:xW xs.length (j:Int)=some j:=by unfold xW;rw[AF (by lia),AF (by lia)];simp
 unfold dz;rw[e];exact h
theorem pN(xs:List α)(v:α):dz (xs++[v]) (-1)=some v:=by
 have I:(xs++[v]).length=xs.length+1:=by simp
 have e:xW (xs++[v]).length (-1)=some xs.length:=by unfold xW;rw[I,AD (by decide),AF (by lia)];congr 1;lia
 unfold dz;rw[e];show(xs++[v])[xs.length]?=some v;simp
def iM(b:Expr):Prop:=∀o i,subscripted b false o i=operate [o,i] (getItem o i)
def xE(X:Cx)(r:R2):Prop:=
 ∀(value slice:Expr) (pins:List (Addr×Obj)) (s:Shared) (σ:St) (H:Hp) (x y:V) (v u:Value) (Q:VK),qy X pins σ H s->zm x v->zm y u->r x y H Q->
  subscripted slice false v u=operate [v,u] (getItem v u)->wpAny (model X.prog X.w) X.A (subscriptTail value slice v u) (EP X pins σ Q) X.xe s
def MtR(X:Cx)(id:String)(r:V->List V->Hp->VK->Prop):Prop:=
 ∀(pins:List (Addr×Obj)) (s:Shared) (σ:St) (H:Hp) (x:V) (xs:List V) (v:Value) (us:List Value) (Q:VK),qy X pins σ H s->zm x v->zn xs us->r x xs H Q->
  wpAny (model X.prog X.w) X.A (call (.builtin id) (v::us)) (EP X pins σ Q) X.xe s
section
variable {a b:Expr}{tb:TE}
theorem af3{r:R2}(U:xE X r)(g:PE X a ta)(j:PE X b tb)(hs:iM b):PE X (.Subscript a b pos) (tOp r ta tb):=by intro J s l H Q I h;exact Subscript_ (agj g j I h λv u o x y p t C T q=>U a b J o l p x y v u Q t C T q (hs _ _))
def aoj(K:Ae):R2:=λx y H Q=>∃p xs i v,x=.ref p/\y=.int i/\aH K H p xs/\dz xs i=some v/\Q v H
def an5(K:Ae):R2:=λx y H Q=>∃p xs i v,x=.ref p/\y=.int i/\cG K H p xs/\dz xs i=some v/\Q v H
def apb:R2:=λx y H Q=>∃z i c,x=.str z/\y=.int i/\z.length<=sizeLine/\dz z.cps.toList i=some c/\Q (.str ⟨#[c]⟩) H
theorem abm:xE X (aoj X.K):=by
 intro value slice J s o H x y v u Q I rx ry h C;obtain⟨p,xs,i,z,rfl,rfl,hq,he,q⟩:=h;cases rx;obtain⟨t,rfl⟩:=ry;obtain⟨U,r,pl,hz⟩:=I.list hq;obtain⟨j,h1,h2,h3,h4,h5⟩:=mR he;obtain⟨w,T,g⟩:=r.get h2;have hl:=r.length;have hn:=gI;have xr:EP X J o Q w s:=⟨z,H,I,g,q⟩;by_cases h0:0<=i
 ·have l:i.toNat=j:=by rw[seqIndex_of h0 h5] at h1;exact AN h1
  exact item_listR pl.isList h0 (by lia) (by rw[l];simpa using T) xr C
 ·have l:(i+(U.toArray.size:Int)).toNat=j:=by rw[seqIndex_neg (by lia) h4] at h1;rw[An,<-hl];exact AN h1
  exact subscriptTail_builtinR (x:=w) pl.isList.typeIs slot_list_getitem.lookup
   (wpAny_getItem_list_neg (Q:=λr s'=>r=w/\EP X J o Q r s') pl.isList (by lia) (by rw[An]<;>lia) (by lia) (by rw[l];simpa using T) ⟨rfl,xr⟩) C
theorem aj2:xE X (an5 X.K):=by
 intro value slice J s g H x y v u Q I l o h C;obtain⟨p,xs,i,z,rfl,rfl,T,he,q⟩:=h;cases l;obtain⟨t,rfl⟩:=o;obtain⟨a1,r,pl,hz⟩:=I.tuple T;obtain⟨j,h1,h2,h3,h4,h5⟩:=mR he;obtain⟨w,ew,U⟩:=r.get h2;have hl:=r.length;have hn:=gI;have xr:EP X J g Q w s:=⟨z,H,I,U,q⟩;exact subscriptTail_builtinR (x:=w) pl.typeIs slot_tuple_getitem.lookup
  (getItem_tuple (j:=j) (Q:=λr s'=>r=w/\EP X J g Q r s') pl (by lia) (by lia) (by rw[An,<-hl];exact h1) (by simpa using ew) ⟨rfl,xr⟩) C
theorem aht:xE X apb:=by
 intro value slice J s σ H x y v u Q I U g h l;obtain⟨z,i,c,rfl,rfl,hz,o,q⟩:=h;obtain⟨t,rfl⟩:=U;obtain⟨t',rfl⟩:=g;obtain⟨j,h1,h2,h3,p,r⟩:=mR o;have C:z.cps.toList.length=z.length:=by simp[Str.length]
 rw[C] at h1 p r;have hn:=gI;exact tail_any (typeIs_str s z t) slot_str_getitem.lookup (getItem_str (c:=c) (by have T:decide (i < -(2 ^ 63:Int))=false:=Az (by lia);have e2:decide (i>=2 ^ 63)=false:=Az (by lia);rw[T,e2,Bool.or_false]) (by rw[h1];simpa using h2) ⟨.str ⟨#[c]⟩,H,I.tok _,⟨_,rfl⟩,q⟩) l
theorem rZ(fy:List Value)(n j:Nat)(u:Value):Obj.mapSeq (·.setIfInBounds j u) { cls:=.type "list",data:=.seq fy.toArray n }={ cls:=.type "list",data:=.seq (fy.set j u).toArray n }:=by simp[Obj.mapSeq]
theorem qy.lst{p:Addr}(I:qy X pins σ H s)(h:H p=some (.lst xs)):
 ∃(fy:List Value) (n:Nat),zn xs fy/\s.heap.get? p=some { cls:=.type "list",data:=.seq fy.toArray n }/\xs.length<=sizeLine:=by
 obtain⟨z,fy,n,r,e⟩:=I.hok p _ h;exact⟨fy,n,r,e,z⟩
theorem qy.lstUpd{p:Addr}{ys:List V}{its':List Value}{J:Nat}{f:Obj->Obj}(I:qy X pins σ H s)(h:H p=some (.lst xs))
 (g:s.heap.get? p=some { cls:=.type "list",data:=.seq fy.toArray n }) (U:f { cls:=.type "list",data:=.seq fy.toArray n }={ cls:=.type "list",data:=.seq its'.toArray J }) (r:zn ys its') (hz:ys.length<=sizeLine) (t:Nat) (l:0<t:=by walk_at "t"):
 qy X pins σ (upd H p (.lst ys)) { s with heap:=s.heap.update p f,toks:=t }:=by
 have e:(s.heap.update p f).get? p=some { cls:=.type "list",data:=.seq its'.toArray J }:=by rw[Heap.get?_update_self f g (by rw[U]<;>rfl),U]
 refine I.write (x:=p) (e:=p) (by rw[h];trivial) (.inl rfl) (λb u j q=>(Heap.get?_update_other _ _ (AW j)).trans q) ⟨_,e⟩ ?_;exact⟨hz,its',J,r,e⟩
def akf:V->V->V->Hp->(Hp->Prop)->Prop:=λo i v H Q=>∃p xs k j,o=.ref p/\i=.int k/\H p=some (.lst xs)/\xW xs.length k=some j/\Q (upd H p (.lst (xs.set j v)))
theorem aa3:ajz X akf:=by
 intro J s σ H o i v ov iv u Q I ro ri rv h;obtain⟨p,xs,k,j,rfl,rfl,T,hj,q⟩:=h;cases ro;obtain⟨t,rfl⟩:=ri;obtain⟨U,n,r,g,hz⟩:=I.lst T;obtain⟨h1,h2,h3,h4⟩:=tZ hj;have l:=r.length;have hn:=gI;have I':qy X J σ (upd H p (.lst (xs.set j v))) { s with heap:=s.heap.update p (Obj.mapSeq (·.setIfInBounds j u)) }:=
  I.lstUpd T g (rZ U n j u) (r.set rv j) (by rw[List.length_set];exact hz) s.toks
 by_cases h0:0<=k
 ·have C:k.toNat=j:=by rw[seqIndex_of h0 h4] at h1;exact AN h1
  exact PySem.W.ki_setAt g h0 (by lia) (by rw[An,<-l];exact h4) (by rw[C];exact⟨_,I',q⟩)
 ·have C:(k+(U.toArray.size:Int)).toNat=j:=by rw[seqIndex_neg (by lia) h3] at h1;rw[An,<-l];exact AN h1
  exact PySem.W.ki_setBack g (by lia) (by rw[An,<-l];exact h3) (by lia) (by rw[C];exact⟨_,I',q⟩)
theorem oD(lo hi:Option Int)(n:Nat):(sliceBounds lo hi none n).1=((HT.sIx n 0 lo:Nat):Int)/\(sliceBounds lo hi none n).2.1=((HT.sIx n n hi:Nat):Int)/\(sliceBounds lo hi none n).2.2=1:=by
 refine⟨?_,?_,rfl⟩
 ·cases lo with
  |none=>simp[sliceBounds,HT.sIx]
  |some i=>
   simp only[sliceBounds,HT.sIx,Option.getD_none,show(1:Int) > 0 by decide,if_true];by_cases h:i<0
   ·simp only[h,if_true]<;>lia
   ·simp only[h,if_false]<;>lia
 ·cases hi with
  |none=>simp[sliceBounds,HT.sIx]
  |some i=>
   simp only[sliceBounds,HT.sIx,Option.getD_none,show(1:Int) > 0 by decide,if_true];by_cases h:i<0
   ·simp only[h,if_true]<;>lia
   ·simp only[h,if_false]<;>lia
theorem kX(fy:List Value)(lo hi:Option Int):slicePick fy.toArray lo hi none=((fy.drop (HT.sIx fy.length 0 lo)).take (HT.sIx fy.length fy.length hi-HT.sIx fy.length 0 lo)).toArray:=by obtain⟨h1,h2,h3⟩:=oD lo hi fy.toArray.size;unfold slicePick;rw[h1,h2,h3];simp only[sliceRange_one,pick_run,An]<;>rfl
def ao8(K:Ae):V->Option Int->Option Int->Hp->VK->Prop:=λx lo hi H Q=>∃a xs,x=.ref a/\aH K H a xs/\∀p,H p=none->Q (.ref p) (upd H p (.lst (qN xs lo hi)))
theorem ach:oO X (ao8 X.K):=by intro j s σ H x v vl vu lo g sl Q I p t pl C h;obtain⟨a,J,rfl,T,q⟩:=h;cases p;obtain⟨a1,r,l,hz⟩:=I.list T;have U:=r.length;refine⟨"list",_,slot_list_getitem.lookup,l.isList.typeIs,?_⟩;refine wpAny_getItem_list_slice l.isList t pl C .none (by simp) ?_ (by rw[An]<;>lia);rw[kX,<-U];refine⟨.ref s.heap.objs.size,_,I.laid (t':=s.toks) (o:=.lst (qN J lo g)) (λb ob q=>As _ q) (Al _) ?_,rfl,q _ (I.hok.fresh (Al _))⟩;exact⟨AI (gg J lo g) hz,_,0,(r.drop (HT.sIx J.length 0 lo)).take (HT.sIx J.length J.length g-HT.sIx J.length 0 lo),Db _ rfl⟩
def aO:V->Bool
 |.non=>true
 |.bl _=>true
 |.int _=>true
 |.str _=>true
 |_=>false
def iL:V->V->Bool
 |.non,.non=>true
 |.bl a,.bl b=>a==b
 |.bl a,.int b=>(if a then 1 else 0)==b
 |.int a,.bl b=>a==(if b then 1 else 0)
 |.int a,.int b=>a==b
 |.str a,.str b=>a==b
 |_,_=>false
theorem iZ{y x:V}{v:Value}(U:zm y u)(I:zm x v)(j:aO y=true)(g:aO x=true):SeqAt.EqAt A s u v (iL y x):=by
 cases y with
 |non=>
  cases U;cases x with
  |non=>cases I;exact SeqAt.EqAt.same _
  |bl b=>cases I;exact SeqAt.EqAt.none_bool b
  |int b=>obtain⟨t,rfl⟩:=I;exact SeqAt.EqAt.none_int b t
  |str b=>obtain⟨t,rfl⟩:=I;exact SeqAt.EqAt.none_str b t
  |_=>exact absurd (show false=true from g) AB
 |bl a=>
  cases U;cases x with
  |non=>cases I;exact SeqAt.EqAt.bool_none a
  |bl b=>cases I;exact SeqAt.EqAt.bool_bool a b
  |int b=>obtain⟨t,rfl⟩:=I;exact SeqAt.EqAt.bool_int a b t
  |str b=>obtain⟨t,rfl⟩:=I;exact SeqAt.EqAt.bool_str a b t
  |_=>exact absurd (show false=true from g) AB
 |int a=>
  obtain⟨J,rfl⟩:=U;cases x with
  |non=>cases I;exact SeqAt.EqAt.int_none a J
  |bl b=>cases I;exact SeqAt.EqAt.int_bool a J b
  |int b=>obtain⟨t,rfl⟩:=I;exact SeqAt.EqAt.int_int a J b t
  |str b=>obtain⟨t,rfl⟩:=I;exact SeqAt.EqAt.int_str a J b t
  |_=>exact absurd (show false=true from g) AB
 |str a=>
  obtain⟨J,rfl⟩:=U;cases x with
  |non=>cases I;exact SeqAt.EqAt.str_none a J
  |bl b=>cases I;exact SeqAt.EqAt.str_bool a J b
  |int b=>obtain⟨t,rfl⟩:=I;exact SeqAt.EqAt.str_int a J b t
  |str b=>obtain⟨t,rfl⟩:=I;exact SeqAt.EqAt.str_str a J b t
  |_=>exact absurd (show false=true from g) AB
 |_=>exact absurd (show false=true from j) AB
def eqU(x:V)(u:Value):Bool:=match u with
 |.none=>iL .non x
 |.bool b=>iL (.bl b) x
 |.int i _=>iL (.int i) x
 |.str z _=>iL (.str z) x
 |_=>false
theorem aar{x y:V}(r:zm y u)(f:aO y=true):eqU x u=iL y x:=by
 cases y with
 |non=>cases r;rfl
 |bl b=>cases r;rfl
 |int i=>obtain⟨t,rfl⟩:=r;rfl
 |str z=>obtain⟨t,rfl⟩:=r;rfl
 |_=>exact absurd (show false=true from f) AB
theorem mC{x:V}:∀{xs:List V} {us:List Value},zn xs us->xs.all aO=true->us.any (eqU x)=xs.any λy=>iL y x
 |_,_,.nil,_=>rfl
 |y::xs,u::us,.cons r t,f=>by rw[Dr,AK] at f;rw[BU,BU,aar r f.1,mC t f.2]
theorem jE{A:Around}{s:Shared}{x:V}{v:Value}(J:zm x v)(U:aO x=true):∀{xs:List V} {us:List Value},zn xs us->xs.all aO=true->∀u∈us,SeqAt.EqAt A s u v (eqU x u)
 |_,_,.nil,_=>λu I=>by cases I
 |y::xs,u::us,.cons r t,f=>λg I=>by
  rw[Dr,AK] at f;rcases Ap.mp I with rfl|I
  ·rw[aar r f.1];exact iZ r J f.1 U
  ·exact jE J U t f.2 g I
def inV(x:V)(xs:List V):Bool:=xs.any λy=>iL y x
def rIn(K:Ae)(neg:Bool):R2:=λx y H Q=>∃p xs,y=.ref p/\(aH K H p xs\/cG K H p xs)/\aO x=true/\xs.all aO=true/\Q (.bl (if neg then !inV x xs else inV x xs)) H
theorem nN:vz X (compareOp .NotIn) (rIn X.K true):=by
 intro g s C H x y v u Q I j o h;obtain⟨p,T,rfl,U,l,fs,q⟩:=h;cases o;rcases U with U|U
 ·obtain⟨J,r,pl,t⟩:=I.list U;refine SeqAt.notIn_listAt (eqU x) pl.isList (λw hw=>jE j l r fs w (by simpa using hw)) ⟨.bl _,H,I,rfl,?_⟩;rw[show J.toArray.any (eqU x)=J.any (eqU x) by simp,mC r fs];exact q
 ·obtain⟨J,r,pl,t⟩:=I.tuple U;refine SeqAt.notIn_tupleAt (eqU x) pl (λw hw=>jE j l r fs w (by simpa using hw)) ⟨.bl _,H,I,rfl,?_⟩;rw[show J.toArray.any (eqU x)=J.any (eqU x) by simp,mC r fs];exact q
theorem mM:jt X (.builtin "len") (λxs H Q=>∃p ys,xs=[.ref p]/\(aH X.K H p ys\/cG X.K H p ys)/\Q (.int ys.length) H):=by
 intro l s C H xs T Q I r h;obtain⟨p,ys,rfl,U,q⟩:=h;obtain⟨u,rfl,o⟩:=pY r;cases o;have hn:=gI;rcases U with U|U
 ·obtain⟨g,j,pl,t⟩:=I.list U;have J:=j.length;exact Calls.call_len_list pl.isList (by simp only[An]<;>lia) ⟨.int ys.length,H,I.tok _,⟨s.toks+1,by rw[An,J]⟩,q⟩
 ·obtain⟨g,j,pl,t⟩:=I.tuple U;have J:=j.length;exact len_tuple pl (by simp only[An]<;>lia) ⟨.int ys.length,H,I.tok _,⟨s.toks+1,by rw[An,J]⟩,q⟩
theorem nU:jt X (.builtin "len") (λxs H Q=>∃z,xs=[.str z]/\z.length<=sizeLine/\Q (.int z.length) H):=by intro J s U H xs g Q I r h;obtain⟨z,rfl,j,q⟩:=h;obtain⟨u,rfl,t,rfl⟩:=pY r;have l:=gI;exact len_str (by lia) ⟨.int z.length,H,I.tok _,⟨_,rfl⟩,q⟩
theorem m8:jt X (.type "list") (λxs H Q=>∃p ys,xs=[.ref p]/\(aH X.K H p ys\/cG X.K H p ys)/\∀l,H l=none->Q (.ref l) (upd H l (.lst ys))):=by
 intro t s σ H xs us Q I r h;obtain⟨p,ys,rfl,C,q⟩:=h;obtain⟨u,rfl,rx⟩:=pY r;cases rx;have xr:∀(J:List Value),zn ys J->ys.length<=sizeLine->∀(U:Heap) (g:Nat),(∀b o',s.heap.get? b=some o'->U.get? b=some o')->
  U.get? s.heap.objs.size=some { cls:=.type "list",dict:=none,data:=.seq J.toArray g,slots:=#[] }->EP X t σ Q (.ref s.heap.objs.size) { s with heap:=U }:=λJ j T U g kp e=>
  ⟨.ref s.heap.objs.size,_,I.laid (t':=s.toks) kp (Al _) (show x4 X.prog X.w _ U _ (.lst ys) from⟨T,J,g,j,e⟩),rfl,q _ (I.hok.fresh (Al _))⟩
 rcases C with C|C
 ·obtain⟨J,j,pl,T⟩:=I.list C;have a1:=j.length;obtain⟨o,ho,hc,n,hd⟩:=pl.isList;exact call_list_seq p (.inl rfl) ho hc hd (λU g kp e=>xr J j T U g kp e) (by simp only[An]<;>lia)
 ·obtain⟨J,j,pl,T⟩:=I.tuple C;have a1:=j.length;obtain⟨o,ho,hc,n,hd⟩:=pl;exact call_list_seq p (.inr rfl) ho hc hd (λU g kp e=>xr J j T U g kp e) (by simp only[An]<;>lia)
theorem kK:jt X (.type "tuple") (λxs H Q=>∃p ys,xs=[.ref p]/\((aH X.K H p ys/\∀l,H l=none->Q (.ref l) (upd H l (.tup ys)))\/(cG X.K H p ys/\Q (.ref p) H))):=by
 intro J s C H xs us Q I r h;obtain⟨p,ys,rfl,h⟩:=h;obtain⟨u,rfl,rx⟩:=pY r;cases rx;rcases h with⟨j,q⟩|⟨j,q⟩
 ·obtain⟨U,t,pl,T⟩:=I.list j;have a1:=t.length;refine call_tuple_list pl.isList (λg kp=>?_) (by simp only[An]<;>lia);have I1:qy X J C H { s with heap:=g }:=I.kept (t':=s.toks) kp;have I2:qy X J C (upd H g.objs.size (.tup ys)) { s with heap:=g.push { cls:=.type "tuple",data:=.seq U.toArray } }:=
   I1.laid (t':=s.toks) (λb o e=>As _ e) (Al _) (show x4 X.prog X.w _ _ _ (.tup ys) from⟨T,U,t,IsTup.new _ _⟩)
  exact⟨.ref g.objs.size,_,I2,rfl,q _ (I1.hok.fresh (Al _))⟩
 ·obtain⟨U,t,pl,T⟩:=I.tuple j;exact call_tuple_same pl ⟨.ref p,H,I,rfl,q⟩
def tyV(K:Ae)(T:String)(x:V)(H:Hp):Prop:=match x with
 |.str _=>T = "str"
 |.int _=>T = "int"
 |.ref p=>(T = "list" /\ ∃xs,aH K H p xs)\/(T = "tuple" /\ ∃o,K.lookup p=some o/\o.cls=.type "tuple" /\ o.dict=none)\/
  (T = "dict" /\ ((∃kvs,H p=some (.dK kvs))\/∃kvs,H p=some (.dT kvs)))\/(T = "set" /\ ∃S n,H p=some (.set S n))
 |_=>False
theorem aak{T:String}{x:V}{v:Value}(I:qy X pins σ H s)(r:zm x v)(ty:tyV X.K T x H):
 s.TypeIs v T/\∀a,v=.ref a->∃j,s.heap.get? a=some j/\j.dict=none:=by
 cases x with
 |str z=>
  obtain⟨t,rfl⟩:=r;cases (show T = "str" from ty);exact⟨typeIs_str s z t,λ_ e=>nomatch e⟩
 |int i=>
  obtain⟨t,rfl⟩:=r;cases (show T = "int" from ty);exact⟨typeIs_int s i t,λ_ e=>nomatch e⟩
 |ref p=>
  cases r;rcases ty with⟨rfl,xs,l⟩|⟨rfl,o,J,C,hd⟩|⟨rfl,J⟩|⟨rfl,S,n,J⟩
  ·obtain⟨a1,_,pl,_⟩:=I.list l;refine⟨pl.isList.typeIs,λa e=>?_⟩;cases e;obtain⟨o,n,e,c,hd,_⟩:=pl;exact⟨o,e,hd⟩
  ·refine⟨⟨o,I.kIn p o J,C⟩,λa e=>?_⟩;cases e;exact⟨o,I.kIn _ o J,hd⟩
  ·have z:∃o,s.heap.get? p=some o/\o.ExactDict:=by
    rcases J with⟨U,J⟩|⟨U,J⟩
    ·obtain⟨_,_,_,_,o,_,_,e,ex,_⟩:=I.hok p _ J;exact⟨o,e,ex⟩
    ·obtain⟨_,_,_,_,o,_,_,e,ex,_⟩:=I.hok p _ J;exact⟨o,e,ex⟩
   obtain⟨o,e,ex⟩:=z;refine⟨⟨o,e,ex.1⟩,λa g=>?_⟩;cases g;exact⟨o,e,ex.2.1⟩
  ·obtain⟨o,_,_,_,e,ex,_⟩:=I.hok p _ J;refine⟨⟨o,e,ex.1⟩,λa g=>?_⟩;cases g;exact⟨o,e,ex.2.1⟩
 |_=>exact False.elim ty
def amt(K:Ae)(T:String)(r:V->List V->Hp->VK->Prop)(to:TE):TE:=λσ H Q=>to σ H λx H1=>tyV K T x H1/\r x [] H1 Q
def tBM(K:Ae)(T:String)(r:V->List V->Hp->VK->Prop)(to:TE)(t:TA):TE:=λσ H Q=>to σ H λx H1=>tyV K T x H1/\t σ H1 λxs H2=>r x xs H2 Q
variable {to:TE}{T id:String}{r:V->List V->Hp->VK->Prop}
theorem agn(pa:PlainAttrs T)(slot:Slot T name id)(j:typeOf (.builtin id)=pure (.type "method_descriptor"))(C:MtR X id r)(ho:PE X o to)
 (U:attributeBase o name X.env (eval o X.env)=eval o X.env:=by rfl) (g:(apos.endLine==fm.line)=true:=by rfl):PE X (.Call (.Attribute o name apos) [] [] fm) (amt X.K T r to):=by
 intro J s l H Q I h;refine wpAny_Call_method0_late U g (ki (ho J s l H _ I h) λv s1 ⟨x,H1,p,t,ty,q1⟩=>?_);obtain⟨h1,h2⟩:=aak p t ty;exact⟨T,id,pa,slot,j,h1,h2,Ek rfl (PySem.evalArgs_none (C J s1 l H1 x [] v [] Q p t .nil q1))⟩
theorem afg(pa:PlainAttrs T)(slot:Slot T name id)(p:typeOf (.builtin id)=pure (.type "method_descriptor"))(hm:MtR X id r)(ho:PE X o to)(ha:PA X (e::es) t)
 (g:attributeBase o name X.env (eval o X.env)=eval o X.env:=by rfl)
 (l:((backTo fm (starEach (e::es) X.env)).all (λx=>!x.1)&&(backToKw fm (keywordEach [] X.env)).all (λx=>x.1.isSome)
  && decide ((e::es).length+([]:List Keyword).length+(if ([]:List Keyword).isEmpty then 0 else 1)<30))=true:=by rfl)
 (j:(apos.endLine==fm.line)=true:=by rfl) (hs:Eb e es X:=by rfl) (U:Ec fm es X:=by rfl):
 PE X (.Call (.Attribute o name apos) (e::es) [] fm) (tBM X.K T r to t):=by
 intro J s C H Q I h;refine wpAny_Call_method_late g l j rfl (ki (ho J s C H _ I h) λv s1 ⟨x,H1,I1,r1,ty,q1⟩=>?_);obtain⟨h1,h2⟩:=aak I1 r1 ty;refine⟨T,id,pa,slot,p,h1,h2,?_⟩;have hA:=ha fm J s1 C H1 _ I1 q1;rw[hs] at hA ⊢;refine Ek (by show(false||(backTo fm (starEach es X.env)).any (·.1))=false;rw[U]<;>rfl) (El ?_);exact ki hA λus s2 ⟨vs,H2,I2,r2,q2⟩=>hm J s2 C H2 x vs v us Q I2 r1 r2 q2
end
def eF(X:Cx)(id:String)(r:V->List V->Hp->VK->Prop):Prop:=
 ∀(pins:List (Addr×Obj)) (s:Shared) (σ:St) (H:Hp) (x:V) (xs:List V) (v:Value) (us:List Value) (Q:VK),qy X pins σ H s->zm x v->zn xs us->r x xs H Q->
  wpAny (model X.prog X.w) X.A (call (.builtin id) (v::us)) (EP X pins σ Q) X.xe s
theorem zn.one{x:V}(h:zn [x] us):∃u,us=[u]/\zm x u:=by cases h with|cons r t=>cases t;exact⟨_,rfl,r⟩
theorem zn.two{x y:V}(h:zn [x,y] us):∃u v,us=[u,v]/\zm x u/\zm y v:=by cases h with|cons r t=>cases t with|cons q t=>cases t;exact⟨_,_,rfl,r,q⟩
theorem zn.zero:∀{us:List Value},zn [] us->us=[]
 |_,.nil=>rfl
theorem zn.dropLast(h:zn xs us):zn xs.dropLast us.dropLast:=by
 induction h with
 |nil=>exact .nil
 |cons r t I=>
  cases t with|nil=>exact .nil|cons q J=>exact .cons r I
theorem zn.eraseIdx:∀{xs:List V} {us:List Value} (i:Nat),zn xs us->zn (xs.eraseIdx i) (us.eraseIdx i)
 |_,_,_,.nil=>.nil
 |_,_,0,.cons _ t=>t
 |_,_,i+1,.cons r t=>.cons r (zn.eraseIdx i t)
theorem zn.reverse(h:zn xs us):zn xs.reverse us.reverse:=by induction h with|nil=>exact .nil|cons r t I=>rw[CF,CF];exact zn.append I (.cons r .nil)
theorem sE(l:List α):l.eraseIdx (l.length-1)=l.dropLast:=by
 induction l with
 |nil=>rfl
 |cons a r I=>
  cases r with
  |nil=>rfl
  |cons b r=>
   have e:(a::b::r).length-1=((b::r).length-1)+1:=by have h1:(a::b::r).length=r.length+2:=rfl;have h2:(b::r).length=r.length+1:=rfl;lia
   rw[e,B3,I]
   all_goals rfl
theorem l5{α:Type}:∀(l:List α) (i:Nat),(l.eraseIdx i).length<=l.length
 |[],_=>Al _
 |_::_,0=>Cr _
 |_::r,i+1=>Nat.succ_le_succ (l5 r i)
section
variable {l:Addr}{ys:List V}
theorem qy.lset{its':List Value}{f:Array Value->Array Value}(I:qy X pins σ H s)(J:H l=some (.lst xs))
 (e:s.heap.get? l=some { cls:=.type "list",data:=.seq fy.toArray n }) (U:f fy.toArray=its'.toArray) (g:zn ys its') (hz:ys.length<=sizeLine) (p:0<t':=by walk_at "t"):
 qy X pins σ (upd H l (.lst ys)) { s with heap:=s.heap.update l (Obj.mapSeq f),toks:=t' }:=by
 have q:=PySem.IsL.update e f;rw[U] at q;refine I.write (x:=l) (e:=l) (by rw[J];exact trivial) (.inl rfl) (λr u j o=>(Heap.get?_update_other s.heap (Obj.mapSeq f) (AW j)).trans o) ⟨_,q⟩ ?_;exact⟨hz,its',_,g,q⟩
theorem qy.lnew(I:qy X pins σ H s)(J:zn ys fy)(hz:ys.length<=sizeLine)(U:0<t':=by walk_at "t"):
 qy X pins σ (upd H s.heap.objs.size (.lst ys)) { s with heap:=s.heap.push { cls:=.type "list",data:=.seq fy.toArray },toks:=t' }:=
 I.laid (λ_ _ q=>As _ q) (Al _) ⟨hz,fy,0,J,Db _ rfl⟩
theorem qy.fresh(I:qy X pins σ H s):H s.heap.objs.size=none:=I.hok.fresh (Al _)
theorem qy.lstM(I:qy X pins σ H s)(J:H l=some (.lst xs)):xs.length<=sizeLine/\∃(fy:List Value) (n:Nat),zn xs fy/\xs.length=fy.length/\s.heap.get? l=some { cls:=.type "list",data:=.seq fy.toArray n }:=by obtain⟨z,fy,n,r,e⟩:=I.hok l _ J;exact⟨z,fy,n,r,r.length,e⟩
theorem wY(h:n<=sizeLine):Builtin.List.listTooLong n=false:=by unfold Builtin.List.listTooLong;exact Az (by lia)
end
def ae5:V->List V->Hp->VK->Prop:=λx vs H Q=>∃l xs y,x=.ref l/\vs=[y]/\H l=some (.lst xs)/\xs.length<sizeLine/\Q .non (upd H l (.lst (xs++[y])))
theorem wA:eF X "list.append" ae5:=by intro U s t H x C v T Q I j o h;obtain⟨l,xs,y,rfl,rfl,g,hz,q⟩:=h;cases j;obtain⟨u,rfl,p⟩:=o.one;obtain⟨z,J,n,r,hl,e⟩:=I.lstM g;refine call_meets F.slot_list_append ⟨_,e,rfl⟩ F.entry_list_append (F.args_list_append_2 _ _) (PySem.list_append l J.toArray n u (by rw[An];lia)) ⟨e,?_⟩;refine⟨.non,_,I.lset (its':=J++[u]) g e (by simp) (r.append (.cons p .nil)) ?_,rfl,q⟩;rw[Ad,CM];lia
def acl:V->List V->Hp->VK->Prop:=λx vs H Q=>∃l b xs zs,x=.ref l/\vs=[.ref b]/\H l=some (.lst xs)/\H b=some (.lst zs)/\xs.length+zs.length<=sizeLine/\Q .non (upd H l (.lst (xs++zs)))
theorem ud:eF X "list.extend" acl:=by
 intro o s σ H x vs v us Q I t C h;obtain⟨l,b,xs,zs,rfl,rfl,p,T,hz,q⟩:=h;cases t;obtain⟨u,rfl,ru⟩:=C.one;cases ru;obtain⟨z,U,n,r,hl,e⟩:=I.lstM p;obtain⟨z2,J,n2,r2,a1,e2⟩:=I.lstM T;have j:U.toArray.size+J.toArray.size<=sizeLine:=by rw[An,An];lia
 have g:¬(!U.toArray.isEmpty&&Builtin.List.listTooLong (U.toArray.size+J.toArray.size))=true:=by rw[wY j,DM];exact AB
 refine call_meets F.slot_list_extend ⟨_,e,rfl⟩ F.entry_list_extend (F.args_list_extend_2 _ _)
  (AutoSeq1.list_extend_list_list_0 l U.toArray n b J.toArray n2 g (by rw[An];lia) (by lia)) ⟨e,e2,?_⟩
 refine⟨.non,_,I.lset (its':=U++J) p e (by simp) (r.append r2) ?_,rfl,q⟩;rw[Ad];lia
def anm:V->List V->Hp->VK->Prop:=λx vs H Q=>∃l xs y,x=.ref l/\vs=[]/\H l=some (.lst xs)/\xs[xs.length-1]?=some y/\Q y (upd H l (.lst xs.dropLast))
theorem ain:eF X "list.pop" anm:=by
 intro j s σ H x vs v us Q I p t h;obtain⟨l,xs,y,rfl,rfl,o,C,q⟩:=h;cases p;have U:=t.zero;subst U;obtain⟨z,J,n,r,T,e⟩:=I.lstM o;obtain⟨u,hu,ru⟩:=r.get C;have g:J.toArray[J.toArray.size-1]?=some u:=by show J.toArray[J.length-1]?=some u;rw[<-A9,<-T];exact hu
 refine call_meets F.slot_list_pop ⟨_,e,rfl⟩ F.entry_list_pop (F.args_list_pop_1 _) (MeetsSeq.list_pop_last l J.toArray n u g (by rw[An];lia)) ⟨e,?_⟩;refine⟨y,_,I.lset (its':=J.dropLast) o e ?_ r.dropLast ?_,ru,q⟩
 ·show J.toArray.eraseIdxIfInBounds (J.toArray.size-1)=J.dropLast.toArray;rw[An,CK,sE]
 ·rw[List.length_dropLast];lia
def ah8:V->List V->Hp->VK->Prop:=λx vs H Q=>∃l xs i k y,x=.ref l/\vs=[.int i]/\H l=some (.lst xs) /\ -(2 ^ 63)<=i/\i<2 ^ 63/\seqIndex? i xs.length=some k/\xs[k]?=some y/\Q y (upd H l (.lst (xs.eraseIdx k)))
theorem yF:eF X "list.pop" ah8:=by
 intro g s σ H x vs v us Q I o p h;obtain⟨l,C,i,k,y,rfl,rfl,j,h1,h2,T,hy,q⟩:=h;cases o;obtain⟨u,rfl,ru⟩:=p.one;obtain⟨t,rfl⟩:=ru;obtain⟨z,J,n,r,hl,e⟩:=I.lstM j;obtain⟨w,hw,U⟩:=r.get hy;refine call_meets F.slot_list_pop ⟨_,e,rfl⟩ F.entry_list_pop (F.args_list_pop_2 _ _)
  (MeetsSeq.list_pop_at l J.toArray n i t k w (fitsIndex_both h1 h2) (by rw[An,<-hl];exact T) (by rw[<-A9];exact hw) (by rw[An];lia)) ⟨e,?_⟩
 refine⟨y,_,I.lset (its':=J.eraseIdx k) j e ?_ (r.eraseIdx k) ?_,U,q⟩
 ·show J.toArray.eraseIdxIfInBounds k=(J.eraseIdx k).toArray;rw[CK]
 ·have:=l5 C k;lia
def yS:V->List V->Hp->VK->Prop:=λx vs H Q=>∃l xs,x=.ref l/\vs=[]/\H l=some (.lst xs)/\Q .non (upd H l (.lst xs.reverse))
theorem rq:eF X "list.reverse" yS:=by intro g s t H x C v T Q I o p h;obtain⟨l,xs,rfl,rfl,j,q⟩:=h;cases o;have U:=p.zero;subst U;obtain⟨z,J,n,r,hl,e⟩:=I.lstM j;refine call_meets F.slot_list_reverse ⟨_,e,rfl⟩ F.entry_list_reverse (F.args_list_reverse_1 _) (AutoSeq1.list_reverse_list_0 l J.toArray n (by rw[An];lia)) ⟨e,?_⟩;refine⟨.non,_,I.lset (its':=J.reverse) j e (by simp) r.reverse ?_,rfl,q⟩;rw[C1];lia
def apg:R2:=λx y H Q=>∃l b xs zs,x=.ref l/\y=.ref b/\H l=some (.lst xs)/\H b=some (.lst zs)/\xs.length+zs.length<=sizeLine/\∀p,H p=none->Q (.ref p) (upd H p (.lst (xs++zs)))
theorem air:vz X (binaryOp .Add) apg:=by
 intro g s σ H x y v u Q I j o h;obtain⟨l,b,xs,zs,rfl,rfl,p,t,hz,q⟩:=h;cases j;cases o;obtain⟨z,U,n,r,hl,e⟩:=I.lstM p;obtain⟨z2,J,n2,C,T,e2⟩:=I.lstM t;refine PySem.P.add_list e e2 ?_ (by rw[An,An];lia);have ea:U.toArray++J.toArray=(U++J).toArray:=by simp
 rw[ea];exact⟨.ref _,_,I.lnew (t':=s.toks) (r.append C) (by rw[Ad];lia),rfl,q _ I.fresh⟩
section
variable {w:World}
set_option maxRecDepth 100000 in
end
end L2
namespace Att
open PySem PySem.W PySem.Calls PyProof.Rows
theorem gz{P:Params} :∀(I:List Int) (vs:List Value),WellAll P h vs (I.map WData.int)->IntsAre vs I:=by
 intro I
 induction I with
 |nil=>
  intro vs w;rw[CC] at w;cases w;exact .nil
 |cons n I J=>
  intro vs w;rw[AA] at w;cases w with
  |cons a b=>
   cases a;exact .cons _ _ (J _ b)
theorem vE{l:OpenLaw}(hn:l.most=some n){P:Params}{args:List WData}{J:List Value}
 (U:l.row.toRowW.claim.pre args=true) (t:WellAll P h J args):
 ∃a vs I,J=[Value.ref a]/\args=[WData.list (I.map WData.int)]/\h.get? a=some { cls:=.type "list",data:=.seq vs.toArray }/\IntsAre vs I/\I.length<=n:=by
 have C:WShape.hasAll [] args [.list .int]=true:=(pre_splitW U).1;have T:l.pre.holds [] { args:=args }=true:=(pre_splitW U).2;obtain⟨d,r,rfl,h1,h2⟩:=hasAllW_cons C;obtain rfl:=hasAllW_nil h2;obtain⟨xs,rfl,h3⟩:=hasW_list h1;obtain⟨I,rfl⟩:=items_int h3;have g:I.length<=n:=by
  unfold OpenLaw.pre at T;have o:(WTm.not (.lt (.lit (.int (n:Int))) (.len (.arg 0)))).holds [] { args:=[.list (I.map .int)] }=true:=by have o:=(holds_andW T).1;rw[hn] at o;exact o
  have p:=condW_of o (w_not (w_lt w_lit (w_len_list (w_arg rfl))));rw[Ab] at p;refine Nat.le_of_not_lt λq=>?_;have q':(n:Int)<((I.length:Nat):Int):=by lia
  first
   |(rw[AV q'] at p;exact absurd p (by decide))
   |(simp at p;lia)
 cases t with
 |cons w1 w2=>
  cases w2;cases w1 with|list ho j=>exact⟨_,_,I,rfl,rfl,ho,gz I _ j,g⟩
theorem vI(l:OpenLaw)(args:List WData):l.row.toRowW.claim.post args (.bool true) args=true:=
 postW_of (r:=l.row.toRowW) (X:=(true==true))
  (show WShape.has [] (.bool true) .bool=true by first|rfl|decide|simp[WShape.has,WShape.arms,WShape.armsAll])
  (show(WTm.eq .res (.lit (.bool true))).value [] { args:=args,res:=some (.bool true),after:=args }=some (.bool (true==true)) from w_eq_bool (w_res rfl) w_lit) rfl
theorem attach_callZ{l:OpenLaw}{q:Program}{loose:List Str}{XP:(Str->Option Value)->Heap->Prop}{as0:List Addr}{N t:Nat}{K:Params->Frag}{d:DefRec}
 (hn:l.most=some n) (C:d.params.defaults=[]) (ek:∀P,as0=(K P).map (·.1)) (T:0<t)
 (call:∀(w:World) (s₀ I:Shared) (mg mb:Str->Option Value) (fa:Addr) (o:Obj) (pm cd nC:Value) (a:Addr) (vs:List Value) (J:List Int),
  Ground q loose [] XP w s₀ mg mb I.heap->(K w.params).In I.heap->0<I.toks->
  I.heap.get? fa=some o->o.data=.func (docDef d.name d.params d.body d.scope pm cd nC)->I.heap.CodeRec cd d.name->mg d.name=some (.ref fa)->
  I.heap.get? a=some { cls:=.type "list",data:=.seq vs.toArray }->IntsAre vs J->J.length<=n->I.gens=#[]->
  codeAny (model l.prog w) callerA (.call (.ref fa) ⟨[.ref a],[]⟩) (λr s'=>r=.ok (.ret (.bool true))/\OldK I.heap s'.heap/\s'.os=I.os/\AllBare s'.gens) I):
 WalkX q loose XP (PySem.W.X.obsZ as0) (PySem.W.X.valZ K N t) l.row.toRowW d [] (λf vs=>PySem.call f vs):=by
 intro w s₀ I mg mb G Y fa o pm cd nC dV kV ho hd a1 hD a2 hg args a5 as L g ag al a3 aL;obtain rfl:dV=.none:=Dflts.none hD C;obtain rfl:kV=.none:=Dflts.noKw hD;obtain⟨a,vs,J,rfl,rfl,j,U,p⟩:=vE hn g a3;obtain⟨_,zi,_,zt⟩:=X.z_facts ek Y;have eP:∀J:List Int,ofPy (PyData.list (J.map PyData.int))=WData.list (J.map WData.int):=λJ=>by
  simp only[ofPy];congr 1
  induction J with|nil=>simp[ofPys]|cons n r ih=>simp only[AA,ofPys,ofPy,ih]
 rw[<-eP] at L;have KX:=InK.keeps w s₀.heap I.heap zi L.keeps;have a4:0<I.toks:=AH T (X.script_toks L zt);refine enter_call (codeAny_mono (call w s₀ I mg mb fa o pm cd nC a vs J G KX a4 ho (fd_plain hd) a1 a2 j U p hg) λr s' hq=>?_);obtain⟨rfl,h2,h3,h4⟩:=hq;exact⟨.inl ⟨.bool true,.bool true,[],rfl,λ_=>rfl,.bool true,vI l _,λ_=>⟨List.Pairwise.nil,λ_ hm=>(nomatch hm)⟩⟩,h2,h3,h4⟩
section
variable {w:World}{K:Frag}
end
end Att
namespace L2
open PySem PySem.Spec PyProof.Rows
theorem lC:∀{vs:List Value} {I:List Int},IntsAre vs I->zn (I.map V.int) vs
 |_,_,.nil=>.nil
 |_,_,.cons n t h=>.cons ⟨t,rfl⟩ (lC h)
def xh(s:Stmt):Arguments:=match s with
 |.FunctionDef _ a _ _ _ _ _ _ _ _=>a
 |_=>{ posonlyargs:=[],args:=[],vararg:=none,kwonlyargs:=[],kw_defaults:=[],kwarg:=none,defaults:=[] }
def je(s:Stmt):List Stmt:=match s with
 |.FunctionDef _ _ b _ _ _ _ _ _ _=>b
 |_=>[]
def qr(s:Stmt):Scope:=match s with
 |.FunctionDef _ _ _ _ _ _ I _ _ _=>I
 |_=>{ kind:=.function,names:=[],isGenerator:=false,isCoroutine:=false }
abbrev CX0:tI:=λ_ _ _ _ _ _=>False
abbrev E0:XK:=λ_ _ _=>False
theorem am2 :rY CX0 X E0:=λ_ _ _ _ _ _ _ h=>h.elim
structure Fun(K:Ae)(x fx:Str)(st:Stmt)(f:Addr)(fd:FuncData):Prop where
 ex:∃(oc:Value) (od:Option Addr) (kV nC pm:Value) (an:Option Addr) (g7 ct:Value) (vb:Array (Option Value)),
  fd=PySem.W.fnOf x fx (xh st) (je st) (qr st) .none kV nC pm an g7 ct/\K.lookup f=some ⟨oc,od,.func fd,vb⟩/\PySem.W.codeIn K g7 fx=true
 kp:PySem.W.keepIn K (.ref f)=true
section
variable {P:Program}{w:World}{K:Ae}
theorem Fun.ok{N:List Str}{k:Nat}(F:Fun K x fx st f fd)(S:kn N ps (qr st))(len:∀vs H Q E,sp vs H Q E->vs.length=ps.length)
 (I:∀(g7:Value) (A:Around) (outer:List Env) (s:Shared) (H:Hp) (vs:List V) (Q:VK) (E:XK),k8 k (A.deeper (envOfC fx (qr st) s.heap.objs.size f g7))->sp vs H Q E->
  ∃t,fG (bq CX0 P w K mg base N fx (qr st) f g7 A outer s H E).nox (je st) t/\t { nx:=λ_ H'=>Q .non H',rt:=Q } (start N vs) H):aW P w K mg base CX0 (k+1) f fd ps sp:=by
 obtain⟨o,p,kV,g,pm,an,g7,r,j,rfl,lk,J⟩:=F.ex;refine xM lk J S len λA outer s H vs Q E l U=>?_;obtain⟨t,h,q⟩:=I g7 A outer s H vs Q E l U;exact⟨t,h.nox,q⟩
theorem aj4{kV:Value}(l:K.lookup f=some ⟨oc,od,.func (PySem.W.fnOf x fx (xh st) (je st) (qr st) .none kV nC pm an g7 ct),vb⟩)
 (c:PySem.W.codeIn K g7 fx=true) (k:PySem.W.keepIn K (.ref f)=true):Fun K x fx st f (PySem.W.fnOf x fx (xh st) (je st) (qr st) .none kV nC pm an g7 ct):=⟨⟨oc,od,kV,nC,pm,an,g7,ct,vb,rfl,l,c⟩,k⟩
end
theorem wb(h:n<=1000):n<sizeLine:=B9 h (by decide)
theorem pv(i:Nat)(J:X.N[i]?=some x:=by rfl)(U:Vis X.env.scope x:=by first|exact Or.inl rfl|exact Or.inr (Or.inl rfl)|exact Or.inr (Or.inr rfl))(hd:Ed x:=by decide)
 (I:Ee x:=by decide):PE X (.Name x pos) (afl i):=ag8 J U hd I
section
variable [DecidableEq κ]
end
end L2
set_option maxHeartbeats 8000000
theorem amv{a b c:Nat}(h:a<b:=by assumption)(k:b<=c:=by assumption):a<c:=AH h k
theorem aa9{a b c:Nat}(h:a<=b:=by assumption)(k:b<c:=by assumption):a<c:=B9 h k
theorem al2{a b c:Nat}(h:a<=b:=by assumption)(k:b<=c:=by assumption):a<=c:=AI h k
theorem aas{a b c:Nat}(h:a<b:=by assumption)(k:b<c:=by assumption):a<c:=Nat.lt_trans h k
theorem ae7{a b c:Nat}(h:a<=b:=by assumption)(k:b<=c:=by decide):a<=c:=AI h k
theorem ai6{a b:Nat}(h:a<=b:=by assumption):a<b+1:=Nat.lt_succ_of_le h
theorem aob{a b:Nat}(h:a<=b:=by assumption):a<=b+1:=BN h
theorem rN{a b:Nat}(h:a<b:=by assumption):a<=b:=Bl h
theorem alg{a b:Nat}(h:a<b:=by assumption):a≠b:=A1 h
theorem api{a b:Nat}(h:b<a:=by assumption):a≠b:=Nat.ne_of_gt h
theorem ap4{a:Nat}(h:a≠0:=by assumption):0<a:=Nat.pos_of_ne_zero h
theorem ape{a b c:Nat}(h:a<b:=by assumption)(k:b<=c:=by assumption):a<=c:=AI (Bl h) k
theorem ako{a b c:Nat}(h:a<b:=by assumption):a<b+c:=AH h (BA _ _)
theorem vV{a b:Nat}(h:a=b:=by assumption):a<=b:=Nat.le_of_eq h
theorem yg{a b:Nat}(h:¬a<b:=by assumption):b<=a:=Nat.le_of_not_lt h
theorem aot{a b:Nat}(h:a<b+1:=by assumption):a<=b:=Nat.le_of_lt_succ h
theorem alo{a b:Nat}(h:0<a:=by assumption)(k:0<b:=by decide):a-b<a:=Nat.sub_lt h k
theorem rO{a b c:Nat}(h:a<c:=by assumption):a-b<c:=B9 (Nat.sub_le _ _) h
theorem apo{a b:Nat}(h:a<=b:=by assumption)(k:a≠b:=by assumption):a<b:=Nat.lt_of_le_of_ne h k
namespace L2
open PySem PySem.Spec PyProof.Rows
def anx:R2:=λx y H Q=>match x,y with
 |.int i,.int j=>Q (.int (i+j)) H
 |.str a,.str b=>a.length+b.length<=sizeLine/\Q (.str (a++b)) H
 |.ref l,.ref b=>∃xs zs,H l=some (.lst xs)/\H b=some (.lst zs)/\xs.length+zs.length<=sizeLine/\∀p,H p=none->Q (.ref p) (upd H p (.lst (xs++zs)))
 |_,_=>False
theorem aef:vz X (binaryOp .Add) anx:=by
 intro J s U H x y v u Q I g j h;cases x<;>cases y<;>first
  |exact False.elim h
  |exact aiq J s U H _ _ v u Q I g j ⟨_,_,rfl,rfl,h⟩
  |exact sD J s U H _ _ v u Q I g j ⟨_,_,rfl,rfl,h.1,h.2⟩
  |(obtain⟨l,o,h1,h2,h3,p⟩:=h;exact air J s U H _ _ v u Q I g j ⟨_,_,l,o,rfl,rfl,h1,h2,h3,p⟩)
def KD(K:Ae)(P:Program)(w:World)(a:Addr)(kvs:List (j7×V)):Prop:=
 (a==sysModules)=false/\kvs.length<=sizeLine/\∀h:Heap,K.In h->∃vs,KV kvs vs/\h.DictOf (ju P w) a vs
def uIx(K:Ae)(P:Program)(w:World):R2:=λx y H Q=>match x,y with
 |.str z,.int i=>z.length<=sizeLine/\∃c,dz z.cps.toList i=some c/\Q (.str ⟨#[c]⟩) H
 |.ref p,.int i=>∃xs v,(aH K H p xs\/cG K H p xs)/\dz xs i=some v/\Q v H
 |.ref p,.str k=>∃kvs v,(Rd H p (.dK kvs)\/KD K P w p kvs)/\aK kvs (Sum.inr k)=some v/\Q v H
 |_,_=>False
theorem ab2{slice:Expr}{vs:List (j7×Value)}{k:j7}{J:Value}{Q:VK}(I:qy X pins σ H s)(dd:s.heap.DictOf (ju X.prog X.w) a vs)(U:jG k u=true)
 (hw:valueAt vs k=some J) (r:zm v J) (q:Q v H) (hs:subscripted slice false (.ref a) u=operate [.ref a,u] (getItem (.ref a) u)):wpAny (model X.prog X.w) X.A (subscriptTail value slice (.ref a) u) (EP X pins σ Q) X.xe s:=
 tail_any dd.typeIs Dj.lookup (wpAny_getItem_of U dd.mapOf hw ⟨v,H,I.tok _,r,q⟩) hs
theorem ak5:xE X (uIx X.K X.prog X.w):=by
 intro value slice J s T H x y v u Q I t C q g;cases x with
 |str z=>
  cases y with
  |int i=>
   obtain⟨h1,c,h2,h3⟩:=q;exact aht value slice J s T H _ _ v u Q I t C ⟨z,i,c,rfl,rfl,h1,h2,h3⟩ g
  |_=>exact q.elim
 |ref p=>
  cases y with
  |int i=>
   obtain⟨xs,j,h1,h2,h3⟩:=q;rcases h1 with h1|h1
   ·exact abm value slice J s T H _ _ v u Q I t C ⟨p,xs,i,j,rfl,rfl,h1,h2,h3⟩ g
   ·exact aj2 value slice J s T H _ _ v u Q I t C ⟨p,xs,i,j,rfl,rfl,h1,h2,h3⟩ g
  |str k=>
   obtain⟨a1,j,h1,h2,h3⟩:=q;have l:zm (kV (Sum.inr k)) u:=C;cases (show v=Value.ref p from t);rcases h1 with h1|h1
   ·obtain⟨z,hd,vs,rel,r⟩:=gS I.hok h1;obtain⟨w2,hw,U⟩:=ED (v:=j) (o:=valueAt vs (Sum.inr k)) (by rw[<-h2];exact rel.val _);exact ab2 I r (dY (P:=X.prog) (w:=X.w) l) hw U h3 g
   ·obtain⟨hd,z,r⟩:=h1;obtain⟨vs,rel,r⟩:=r s.heap I.kIn;obtain⟨w2,hw,U⟩:=ED (v:=j) (o:=valueAt vs (Sum.inr k)) (by rw[<-h2];exact rel.val _);exact ab2 I r (dY (P:=X.prog) (w:=X.w) l) hw U h3 g
  |_=>exact q.elim
 |_=>cases y<;>exact q.elim
def anf(K:Ae):List V->Hp->VK->Prop:=λxs H Q=>match xs with
 |[.str z]=>z.length<=sizeLine/\Q (.int z.length) H
 |[.ref p]=>∃ys,(aH K H p ys\/cG K H p ys)/\Q (.int ys.length) H
 |_=>False
theorem wN:jt X (.builtin "len") (anf X.K):=by
 intro J s U H j g Q I r h
 match j,h with
 |[.str z],h=>exact nU J s U H _ g Q I r ⟨z,rfl,h.1,h.2⟩
 |[.ref p],h=>
  obtain⟨l,h1,h2⟩:=h;exact mM J s U H _ g Q I r ⟨p,l,rfl,h1,h2⟩
inductive Da where
 |s (v:V)
 |tup (xs:List Da)
 |lst (xs:List Da)
mutual
def Da.eq:Da->Da->Bool
 |.s v,.s w=>iL v w
 |.tup xs,.tup ys=>Da.eqs xs ys
 |.lst xs,.lst ys=>Da.eqs xs ys
 |_,_=>false
def Da.eqs:List Da->List Da->Bool
 |[],[]=>true
 |x::xs,y::ys=>Da.eq x y&&Da.eqs xs ys
 |_,_=>false
end
def vf(K:Ae)(H:Hp):Nat->V->Da->Prop
 |0,v,d=>d=.s v/\aO v=true
 |n+1,v,d=>(d=.s v/\aO v=true)\/(∃a xs ds,v=.ref a/\d=.tup ds/\cG K H a xs/\Paired (vf K H n) xs ds)\/(∃a xs ds,v=.ref a/\d=.lst ds/\aH K H a xs/\Paired (vf K H n) xs ds)
theorem Da.eqs_range:∀(ds es:List Da),((List.range (min ds.length es.length)).all (λj=>Da.eq (ds.getD j (.s .non)) (es.getD j (.s .non)))&&ds.length==es.length)=Da.eqs ds es
 |[],[]=>by simp[Da.eqs]
 |[],e::es=>by simp[Da.eqs]
 |d::ds,[]=>by simp[Da.eqs]
 |d::ds,e::es=>by
  have I:=Da.eqs_range ds es;rw[Da.eqs,<-I];have:min (d::ds).length (e::es).length=min ds.length es.length+1:=by simp only[AJ];lia
  rw[this,List.range_succ_eq_map,Dr,List.all_map];have h2:((d::ds).length==(e::es).length)=(ds.length==es.length):=by simp
  rw[h2,Bool.and_assoc];rfl
abbrev DR:=@Da.eqs_range
theorem Paired.at{α β:Type}{F:α->β->Prop}:∀{xs:List α} {ys:List β} {j:Nat} {x:α} {y:β},Paired F xs ys->xs[j]?=some x->ys[j]?=some y->F x y
 |_,_,_,_,_,.nil,h,_=>by simp at h
 |_,_,0,_,_,.cons r _,h1,h2=>by simp at h1 h2;subst h1 h2;exact r
 |_,_,j+1,_,_,.cons _ t,h1,h2=>Paired.at (j:=j) t (by simpa using h1) (by simpa using h2)
abbrev DX:=@Paired.at
theorem fN:∀{v:V},aO v=true->iL v v=true
 |.non,_=>rfl
 |.bl _,_=>by simp[iL]
 |.int _,_=>by simp[iL]
 |.str _,_=>by simp[iL]
theorem j6(h:aO (.ref a)=true):False:=by simp[aO] at h
theorem qy.notBoth(I:qy X pins σ H s){ys:List V}(h:cG X.K H a xs)(h':aH X.K H a ys):False:=by
 obtain⟨j,_,⟨o,e,c,_⟩,_⟩:=I.tuple h;obtain⟨U,_,⟨l,p,g,J,_⟩,_⟩:=I.list h';rw[e] at g;cases g;rw[c] at J;injection J with J
 exact absurd J (by decide)
theorem m4(I:qy X pins σ H s):∀(n:Nat) {m:Nat} {x:V} {d e:Da},vf X.K H n x d->vf X.K H m x e->Da.eq d e=true
 |0,m,x,d,e,h1,h2=>by
  obtain⟨rfl,f⟩:=h1;cases m with
  |zero=>obtain⟨rfl,_⟩:=h2;exact fN f
  |succ m=>
   rcases h2 with⟨rfl,_⟩|⟨a,g,j,rfl,_⟩|⟨a,g,j,rfl,_⟩
   ·exact fN f
   ·exact(j6 f).elim
   ·exact(j6 f).elim
 |n+1,m,x,d,e,h1,h2=>by
  have both:∀{g:List V} {j l:List Da} {m:Nat},Paired (vf X.K H n) g j->Paired (vf X.K H m) g l->Da.eqs j l=true:=by
   intro g j l m p
   induction p generalizing l with
   |nil=>intro q;cases q;rfl
   |cons r t ih=>
    intro q;cases q with|cons r' t'=>rw[Da.eqs,m4 I n r r',ih t'];rfl
  rcases h1 with⟨rfl,f⟩|⟨a,g,j,rfl,rfl,C,T⟩|⟨a,g,j,rfl,rfl,C,T⟩
  ·cases m with
   |zero=>obtain⟨rfl,_⟩:=h2;exact fN f
   |succ m=>
    rcases h2 with⟨rfl,_⟩|⟨a,g,j,rfl,_⟩|⟨a,g,j,rfl,_⟩
    ·exact fN f
    ·exact(j6 f).elim
    ·exact(j6 f).elim
  ·cases m with
   |zero=>exact(j6 h2.2).elim
   |succ m=>
    rcases h2 with⟨_,f⟩|⟨a',ys,l,o,rfl,J,U⟩|⟨a',ys,l,o,rfl,J,U⟩
    ·exact(j6 f).elim
    ·cases o;cases I.tuple_inj C J;exact both T U
    ·cases o;exact(I.notBoth C J).elim
  ·cases m with
   |zero=>exact(j6 h2.2).elim
   |succ m=>
    rcases h2 with⟨_,f⟩|⟨a',ys,l,o,rfl,J,U⟩|⟨a',ys,l,o,rfl,J,U⟩
    ·exact(j6 f).elim
    ·cases o;exact(I.notBoth J C).elim
    ·cases o;cases I.list_inj C J;exact both T U
theorem j5{fy:Array Value}(p:PlainL h a fy):h.IsList a fy:=let ⟨o,n,e,c,_,d⟩:=p;⟨o,e,c,n,d⟩
theorem fQ{ys:List V}{ds es:List Da}(px:Paired (vf X.K H n) xs ds)(py:Paired (vf X.K H m) ys es)(I:zn xs us)(J:zn ys vs)
 (p:∀{x y:V} {d e:Da} {u v:Value},vf X.K H n x d->vf X.K H m y e->zm x u->zm y v->SeqAt.EqAt A.in1 s u v (Da.eq d e)):
 ∀j (h1:j<us.toArray.size) (h2:j<vs.toArray.size),SeqAt.EqAt A.in1 s us.toArray[j] vs.toArray[j] (Da.eq (ds.getD j (.s .non)) (es.getD j (.s .non))):=by
 intro j h1 h2;have C:=px.length;have T:=py.length;have l3:=I.length;have l4:=J.length;rw[An] at h1 h2;have U:xs[j]?=some xs[j]:=Aj (by lia);have g:ys[j]?=some ys[j]:=Aj (by lia);have l:ds[j]?=some ds[j]:=Aj (by lia);have o:es[j]?=some es[j]:=Aj (by lia);have r:us[j]?=some us[j]:=Aj (by lia);have t:vs[j]?=some vs[j]:=Aj (by lia);rw[A7,A7,l,o];exact p (DX px U l) (DX py g o) (DX I U r) (DX J g t)
theorem kY{ys:List V}{ds es:List Da}(I:qy X pins σ H s)(g:A.units<cLine)(j:cG X.K H a xs)(l:cG X.K H b ys)(px:Paired (vf X.K H n) xs ds)(py:Paired (vf X.K H m) ys es)
 (o:∀{x y:V} {d e:Da} {u v:Value},vf X.K H n x d->vf X.K H m y e->zm x u->zm y v->SeqAt.EqAt A.in1 s u v (Da.eq d e)):SeqAt.RcAt A s (.ref a) (.ref b) (Da.eqs ds es):=by
 obtain⟨r,J,p,_⟩:=I.tuple j;obtain⟨t,U,ty,_⟩:=I.tuple l;have q:=SeqAt.RcAt.tuples p ty g (fQ px py J U o);rw[An,An,<-J.length,<-U.length,px.length,py.length,DR] at q;exact q
theorem qB{ys:List V}{ds es:List Da}(I:qy X pins σ H s)(l:A.units<cLine)(p:aH X.K H a xs)(r:aH X.K H b ys)(px:Paired (vf X.K H n) xs ds)(py:Paired (vf X.K H m) ys es)
 (t:∀{x y:V} {d e:Da} {u v:Value},vf X.K H n x d->vf X.K H m y e->zm x u->zm y v->SeqAt.EqAt A.in1 s u v (Da.eq d e)):SeqAt.RcAt A s (.ref a) (.ref b) (Da.eqs ds es):=by
 obtain⟨C,U,o,_⟩:=I.list p;obtain⟨T,j,ty,_⟩:=I.list r;by_cases g:C.toArray.size=T.toArray.size
 ·have q:=SeqAt.RcAt.lists (j5 o) (j5 ty) g l (fQ px py U j t);have J:ds.length=es.length:=by rw[<-px.length,<-py.length,U.length,j.length];simpa using g
  have e:=DR ds es;rw[J,Nat.min_self] at e;rw[<-J] at e;rw[An,<-U.length,px.length] at q;simp only[beq_self_eq_true,Cz] at e;rw[e] at q;exact q
 ·have q:=SeqAt.RcAt.lists_lengths (j5 o) (j5 ty) (by simpa using g) l;have J:ds.length≠es.length:=by rw[<-px.length,<-py.length,U.length,j.length];intro z;exact g (by simpa using z)
  have e:=DR ds es;have f:(ds.length==es.length)=false:=by simpa using J
  rw[f,DM] at e;rw[<-e];exact q
theorem jI(I:qy X pins σ H s):∀(n:Nat) {m:Nat} {A:Around} {x y:V} {d e:Da} {u v:Value},A.units+n<cLine->vf X.K H n x d->vf X.K H m y e->zm x u->zm y v->SeqAt.EqAt A s u v (Da.eq d e):=by
 have J:∀{A:Around} {x:V} {u:Value} {b:Addr} {p:List V},A.units<cLine->aO x=true->zm x u->(cG X.K H b p\/aH X.K H b p)->SeqAt.EqAt A s u (.ref b) false/\SeqAt.EqAt A s (.ref b) u false:=by
  intro A x u b p g f r h;have h':(∃C,s.heap.IsTuple b C)\/∃C,s.heap.IsList b C:=by
   rcases h with h|h
   ·obtain⟨C,_,t,_⟩:=I.tuple h;exact .inl ⟨_,t⟩
   ·obtain⟨C,_,t,_⟩:=I.list h;exact .inr ⟨_,j5 t⟩
  cases x with
  |non=>cases r;rcases h' with⟨_,t⟩|⟨_,t⟩;exact⟨.none_tuple t g,.tuple_none t g⟩;exact⟨.none_list t g,.list_none t g⟩
  |bl k=>cases r;rcases h' with⟨_,t⟩|⟨_,t⟩;exact⟨.bool_tuple k t g,.tuple_bool k t g⟩;exact⟨.bool_list k t g,.list_bool k t g⟩
  |int k=>obtain⟨tk,rfl⟩:=r;rcases h' with⟨_,t⟩|⟨_,t⟩;exact⟨.int_tuple k tk t g,.tuple_int k tk t g⟩;exact⟨.int_list k tk t g,.list_int k tk t g⟩
  |str k=>obtain⟨tk,rfl⟩:=r;rcases h' with⟨_,t⟩|⟨_,t⟩;exact⟨.str_tuple k tk t g,.tuple_str k tk t g⟩;exact⟨.str_list k tk t g,.list_str k tk t g⟩
  |_=>simp[aO] at f
 intro n
 induction n with
 |zero=>
  intro m A x y d e u v g h1 h2 T j;obtain⟨rfl,f⟩:=h1;cases m with
  |zero=>obtain⟨rfl,l⟩:=h2;exact iZ T j f l
  |succ m=>
   rcases h2 with⟨rfl,l⟩|⟨b,p,es,rfl,rfl,U,py⟩|⟨b,p,es,rfl,rfl,U,py⟩
   ·exact iZ T j f l
   ·cases j;exact(J (by lia) f T (.inl U)).1
   ·cases j;exact(J (by lia) f T (.inr U)).1
 |succ n ih=>
  intro m A x y d e u v g h1 h2 T j;have a2:A.in1.units+n<cLine:=by show A.units+1+n<cLine;lia
  rcases h1 with⟨rfl,f⟩|⟨a,xs,ds,rfl,rfl,o,px⟩|⟨a,xs,ds,rfl,rfl,o,px⟩
  ·cases m with
   |zero=>obtain⟨rfl,l⟩:=h2;exact iZ T j f l
   |succ m=>
    rcases h2 with⟨rfl,l⟩|⟨b,p,es,rfl,rfl,U,py⟩|⟨b,p,es,rfl,rfl,U,py⟩
    ·exact iZ T j f l
    ·cases j;exact(J (by lia) f T (.inl U)).1
    ·cases j;exact(J (by lia) f T (.inr U)).1
  ·cases T;cases m with
   |zero=>obtain⟨rfl,l⟩:=h2;exact(J (by lia) l j (.inl o)).2
   |succ m=>
    rcases h2 with⟨rfl,l⟩|⟨b,p,es,rfl,rfl,U,py⟩|⟨b,p,es,rfl,rfl,U,py⟩
    ·exact(J (by lia) l j (.inl o)).2
    ·cases j;by_cases a1:a=b
     ·subst a1;cases I.tuple_inj o U;have e:Da.eq (.tup ds) (.tup es)=true:=m4 I (n+1) (m:=m+1) (x:=.ref a) (.inr (.inl ⟨a,xs,ds,rfl,rfl,o,px⟩)) (.inr (.inl ⟨a,xs,es,rfl,rfl,U,py⟩));rw[e];exact .same _
     ·exact .of_refs a1 (kY I (by lia) o U px py λh1 h2 r1 r2=>ih a2 h1 h2 r1 r2)
    ·cases j;obtain⟨us,vx,tx,_⟩:=I.tuple o;obtain⟨vs,vy,ty,_⟩:=I.list U;exact .tuple_list tx (j5 ty) (by lia)
  ·cases T;cases m with
   |zero=>obtain⟨rfl,l⟩:=h2;exact(J (by lia) l j (.inr o)).2
   |succ m=>
    rcases h2 with⟨rfl,l⟩|⟨b,p,es,rfl,rfl,U,py⟩|⟨b,p,es,rfl,rfl,U,py⟩
    ·exact(J (by lia) l j (.inr o)).2
    ·cases j;obtain⟨us,vx,tx,_⟩:=I.list o;obtain⟨vs,vy,ty,_⟩:=I.tuple U;exact .list_tuple (j5 tx) ty (by lia)
    ·cases j;by_cases a1:a=b
     ·subst a1;cases I.list_inj o U;have e:Da.eq (.lst ds) (.lst es)=true:=m4 I (n+1) (m:=m+1) (x:=.ref a) (.inr (.inr ⟨a,xs,ds,rfl,rfl,o,px⟩)) (.inr (.inr ⟨a,xs,es,rfl,rfl,U,py⟩));rw[e];exact .same _
     ·exact .of_refs a1 (qB I (by lia) o U px py λh1 h2 r1 r2=>ih a2 h1 h2 r1 r2)
def uEq(K:Ae)(k:Nat):R2:=λx y H Q=>match x,y with
 |.ref a,.ref b=>∃n m d e,n<=k/\vf K H n (.ref a) d/\vf K H m (.ref b) e/\Q (.bl (Da.eq d e)) H
 |x,y=>ac0 x y=true/\Q (.bl (decide (x=y))) H
theorem ah6{k:Nat}(hu:X.A.units+k<cLine):vz X (compareOp .Eq) (uEq X.K k):=by
 intro J s o H x y v u Q I p t h;cases x with
 |ref a=>
  cases y with
  |ref b=>
   obtain⟨n,m,d,e,hn,h1,h2,q⟩:=h;cases p;cases t;have xr:∀{k:Bool},k=Da.eq d e->SeqAt.RcAt X.A s (.ref a) (.ref b) k->wpAny (model X.prog X.w) X.A (compareOp .Eq (.ref a) (.ref b)) (EP X J o Q) X.xe s:=λ{k} e' r=>
    r X.prog X.w X.xe (EP X J o Q) (by rw[e'];exact⟨.bl _,H,I,rfl,q⟩)
   cases n with
   |zero=>exact(j6 h1.2).elim
   |succ n=>
    cases m with
    |zero=>exact(j6 h2.2).elim
    |succ m=>
     have j:X.A.in1.units+n<cLine:=by show X.A.units+1+n<cLine;lia
     rcases h1 with⟨_,f⟩|⟨a',xs,ds,C,rfl,l,T⟩|⟨a',xs,ds,C,rfl,l,T⟩
     ·exact(j6 f).elim
     ·cases C;rcases h2 with⟨_,f⟩|⟨b',ys,es,U,rfl,g,py⟩|⟨b',ys,es,U,rfl,g,py⟩
      ·exact(j6 f).elim
      ·cases U;exact xr rfl (kY I (by lia) l g T py λh1 h2 r1 r2=>jI I n j h1 h2 r1 r2)
      ·cases U;obtain⟨us,vx,tx,_⟩:=I.tuple l;obtain⟨vs,vy,ty,_⟩:=I.list g;exact xr rfl (.tuple_list tx (j5 ty) (by lia))
     ·cases C;rcases h2 with⟨_,f⟩|⟨b',ys,es,U,rfl,g,py⟩|⟨b',ys,es,U,rfl,g,py⟩
      ·exact(j6 f).elim
      ·cases U;obtain⟨us,vx,tx,_⟩:=I.list l;obtain⟨vs,vy,ty,_⟩:=I.tuple g;exact xr rfl (.list_tuple (j5 tx) ty (by lia))
      ·cases U;exact xr rfl (qB I (by lia) l g T py λh1 h2 r1 r2=>jI I n j h1 h2 r1 r2)
  |_=>exact aeo J s o H _ _ v u Q I p t h
 |_=>cases y<;>exact aeo J s o H _ _ v u Q I p t h
theorem akj{c:Addr}(I:Gl X x)(J:X.mg x=some (.ref c))(hd:Ed x:=by decide):PE X (.Name x pos) (tC (.ref c)):=tO I J (v:=.ref c) rfl hd
theorem af6{T:String}(I:Gl X x)(J:X.mg x=none)(U:bootBuiltins x=some (.type T))(g:x ≠ "__name__" := by decide)(hd:Ed x:=by decide):PE X (.Name x pos) (tC (.ty T)):=adt I J U (v:=.ty T) rfl g hd
structure wT(P:Program)(w:World)(K:Ae)(mg:Str->Option Value)(base:Heap)(k:Nat)(x:Str)(ps:List Str)(sp:Sp):Prop where
 ex:∃f fd,aW P w K mg base CX0 k f fd ps sp/\bz K fd ps []/\PySem.W.keepIn K (.ref f)=true/\mg x=some (.ref f)
theorem aps{k:Nat}(c:wT X.prog X.w X.K X.mg X.base k x ps sp)(U:k8 k X.A)(g:Gl X x)(j:PA X (e::es) t)(I:Ed x:=by decide)
 (l:Eb e es X:=by rfl) (J:Ec pos es X:=by rfl):PE X (.Call (.Name x p) (e::es) [] pos) (af8 sp [] E0 t):=by
 obtain⟨f,fd,F,b,o,m⟩:=c.ex;exact acd F U g m o b .nil am2 j I l J
theorem wT.mono{P:Program}{w:World}{K:Ae}{k:Nat}(c:wT P w K mg base j x ps sp)(h:j<=k):wT P w K mg base k x ps sp:=by obtain⟨f,fd,F,b,I,m⟩:=c.ex;exact⟨f,fd,F.mono h,b,I,m⟩
end L2
variable {ds:List L2.Da}
namespace L2
open PySem PySem.Spec PyProof.Rows
def jY(env:Env):List (Str×NameKind)->List (Str×Addr)->List (Str×Addr)
 |[],cs=>cs
 |(n,k)::r,cs=>jY env r (if k==.free then(n,(env.cells.lookup n).getD 0)::cs else cs)
def dH(scope:Scope)(env:Env):List (Str×Addr):=jY env scope.names []
theorem qM{env:Env}:∀{names:List (Str×NameKind)} {cs:List (Str×Addr)} {p:Str×Addr},p∈jY env names cs->p∈cs\/((p.1,NameKind.free)∈names/\p.2=(env.cells.lookup p.1).getD 0)
 |[],_,_,h=>.inl h
 |(n,k)::r,cs,p,h=>by
  rcases qM (names:=r) h with q|⟨q,e⟩
  ·by_cases I:(k==NameKind.free)=true
   ·rw[AF I] at q;rcases Ap.mp q with rfl|q
    ·have:k=.free:=by simpa using I
     exact .inr ⟨by rw[this];exact Ah,rfl⟩
    ·exact .inl q
   ·rw[AD I] at q;exact .inl q
  ·exact .inr ⟨Ac _ q,e⟩
theorem pF{env:Env}{x:Str}:∀{names:List (Str×NameKind)} {cs:List (Str×Addr)},((∃c,(x,c)∈cs)\/(x,NameKind.free)∈names)->∃c,(x,c)∈jY env names cs
 |[],_,.inl h=>h
 |[],_,.inr h=>by simp at h
 |(n,k)::r,cs,h=>by
  refine pF (names:=r) ?_;rcases h with⟨c,h⟩|h
  ·left;by_cases I:(k==NameKind.free)=true
   ·rw[AF I];exact⟨c,Ac _ h⟩
   ·rw[AD I];exact⟨c,h⟩
  ·rcases Ap.mp h with e|h
   ·left;injection e with J U
    subst J;subst U;exact⟨_,Ah⟩
   ·exact .inr h
theorem dU{x:Str}:∀{l:List (Str×Addr)} {c:Addr},(x,c)∈l->∃I,l.lookup x=some I
 |(n,d)::r,c,h=>by
  rw[Bj];cases J:x==n with
  |true=>exact⟨d,rfl⟩
  |false=>
   rcases Ap.mp h with e|h
   ·injection e with U _;subst U;simp at J
   ·exact dU h
theorem hJ(h:∀n,(n,NameKind.free)∈scope.names->∃c,env.cells.lookup n=some c):closureFor scope env=pure (dH scope env):=by
 unfold closureFor dH;have key:∀(names:List (Str×NameKind)) (I:List (Str×Addr)),(∀n,(n,NameKind.free)∈names->∃c,env.cells.lookup n=some c)->
  (forIn names I λx (r:List (Str×Addr))=>(match x with|(name,kind)=>if kind==NameKind.free then do let a <-cellOf env name;pure (ForInStep.yield ((name,a)::r)) else pure (ForInStep.yield r):Sem (ForInStep (List (Str×Addr)))))=pure (jY env names I):=by
  intro names
  induction names with
  |nil=>intro I _;rfl
  |cons p r o=>
   intro I J;obtain⟨n,k⟩:=p;rw[DG];cases U:k==NameKind.free with
   |true=>
    have g:k=.free:=by simpa using U
    subst g;obtain⟨c,t⟩:=J n Ah;have e:cellOf env n=pure c:=by unfold cellOf;rw[t]
    simp only[beq_self_eq_true,if_true,e];have j:jY env ((n,NameKind.free)::r) I=jY env r ((n,c)::I):=by show jY env r _=_;rw[t];rfl
    rw[j];exact o ((n,c)::I) λm l=>J m (Ac _ l)
   |false=>
    simp only[U,BG,if_false];have j:jY env ((n,k)::r) I=jY env r I:=by show jY env r (if (k==NameKind.free)=true then _ else _)=_;rw[U];rfl
    rw[j];exact o I λm l=>J m (Ac _ l)
 exact(Bb (· >>= pure) (key scope.names [] h))
theorem ko{env:Env}{x:Str}:∀{names:List (Str×NameKind)},
 (names.map λ(n,k)=>if (k==NameKind.free&&env.scope.kind==.function&&env.kindOf n==some .cell) then(n,NameKind.cell) else(n,k)).lookup x
  = (names.lookup x).map λk=>if (k==NameKind.free&&env.scope.kind==.function&&env.kindOf x==some .cell) then NameKind.cell else k
 |[]=>rfl
 |(n,k)::r=>by
  have g:=@ko env x r;show List.lookup x ((if (k==NameKind.free&&env.scope.kind==.function&&env.kindOf n==some .cell)=true then(n,NameKind.cell) else(n,k))::_)=_;cases J:x==n with
  |true=>
   have U:x=n:=by simpa using J
   subst U;by_cases I:(k==NameKind.free&&env.scope.kind==.function&&env.kindOf x==some .cell)=true
   ·rw[AF I];simp only[Bj,beq_self_eq_true,Option.map_some];rw[AF I]
   ·rw[AD I];simp only[Bj,beq_self_eq_true,Option.map_some];rw[AD I]
  |false=>
   by_cases I:(k==NameKind.free&&env.scope.kind==.function&&env.kindOf n==some .cell)=true
   ·rw[AF I];simp only[Bj,J];exact g
   ·rw[AD I];simp only[Bj,J];exact g
def Cx.comp(X:Cx)(scope:Scope)(T:List Str)(C:Addr)(fp:List Addr)(s₀:Shared)(H₀:Hp):Cx:=
 { X with N:=X.N++T,s₀:=s₀,H₀:=H₀,env:=compEnvC scope (dH scope X.env) C X.env,outer:=X.stack,ex:=fp,fn:=λ_=>false,xe:=λ_ _=>False }
structure jg(X:Cx)(scope:Scope):Prop where
 kind:scope.kind=.function
 nocell:∀y∈scope.names,y.2≠.cell
 names:∀y∈scope.names,y.2=.local->scope.names.lookup y.1=some .local
 free:∀n,scope.names.lookup n=some .free->X.env.kindOf n=some .cell\/X.env.kindOf n=some .free
 freeM:∀n,(n,NameKind.free)∈scope.names->X.env.kindOf n=some .cell\/X.env.kindOf n=some .free
 apart:∀x∈X.N,scope.names.lookup x≠some .local
theorem jg.clo(S:jg X scope)(I:qy X pins σ H s):closureFor scope X.env=pure (dH scope X.env):=
 hJ λn h=>I.ok.has n (S.freeM n h)
theorem jg.cl_old(S:jg X scope)(I:qy X pins σ H s){c:Addr}(h:(dH scope X.env).lookup x=some c):X.env.cells.lookup x=some c:=by
 rcases qM (Bo h) with q|⟨q,e⟩
 ·simp at q
 ·obtain⟨d,hd⟩:=I.ok.has x (S.freeM x q);have J:c=(X.env.cells.lookup x).getD 0:=e;rw[hd] at J ⊢;rw[J];rfl
theorem jg.cl_has(_:jg X scope)(h:scope.names.lookup x=some .free):∃c,(dH scope X.env).lookup x=some c:=by obtain⟨c,I⟩:=pF (env:=X.env) (names:=scope.names) (cs:=[]) (x:=x) (.inr (Bo h));exact dU I
theorem jg.kindOf(S:jg X scope)(h:(compEnvC scope (dH scope X.env) C X.env).kindOf x=some .cell\/(compEnvC scope (dH scope X.env) C X.env).kindOf x=some .free):scope.names.lookup x=some .free:=by
 have e:(compEnvC scope (dH scope X.env) C X.env).kindOf x=(scope.names.lookup x).map λk=>if (k==NameKind.free&&X.env.scope.kind==.function&&X.env.kindOf x==some .cell) then NameKind.cell else k:=ko
 rw[e] at h;cases I:scope.names.lookup x with
 |none=>rw[I] at h;rcases h with h|h<;>cases h
 |some k=>
  rw[I] at h;cases k with|free=>rfl|cell=>exact absurd rfl (S.nocell _ (Bo I))|_=>rcases h with h|h<;>cases h
theorem jg.vis(S:jg X scope)(U:x∈X.N)(h:Vis (compEnvC scope (dH scope X.env) C X.env).scope x):scope.names.lookup x=some .free:=by
 rcases h with h|h|h
 ·exfalso;have e:(compEnvC scope (dH scope X.env) C X.env).kindOf x=(scope.names.lookup x).map λk=>if (k==NameKind.free&&X.env.scope.kind==.function&&X.env.kindOf x==some .cell) then NameKind.cell else k:=ko
  have I:(compEnvC scope (dH scope X.env) C X.env).kindOf x=some .local:=h;rw[e] at I;cases J:scope.names.lookup x with
  |none=>rw[J] at I;cases I
  |some k=>
   rw[J] at I;have I:(if (k==NameKind.free&&X.env.scope.kind==.function&&X.env.kindOf x==some .cell)=true then NameKind.cell else k)=.local:=AN I;split at I
   ·cases I
   ·subst I;exact S.apart x U J
 ·exact S.kindOf (C:=C) (.inl h)
 ·exact S.kindOf (C:=C) (.inr h)
theorem jg.back(S:jg X scope)(h:scope.names.lookup x=some .free):(compEnvC scope (dH scope X.env) C X.env).kindOf x=some .cell\/(compEnvC scope (dH scope X.env) C X.env).kindOf x=some .free:=by
 have e:(compEnvC scope (dH scope X.env) C X.env).kindOf x=(scope.names.lookup x).map λk=>if (k==NameKind.free&&X.env.scope.kind==.function&&X.env.kindOf x==some .cell) then NameKind.cell else k:=ko
 rw[e,h];show some (if _ then _ else _)=_\/some (if _ then _ else _)=_;split
 ·exact .inl rfl
 ·exact .inr rfl
def PF(X:Cx)(r4:List Expr)(t:TT):Prop:=
 ∀(pins:List (Addr×Obj)) (s:Shared) (σ:St) (H:Hp) (Q:Bool->Hp->Prop),qy X pins σ H s->t σ H Q->
  wpAny (model X.prog X.w) X.A (forIn r4 true λc r=>if r=true then do let ok <-isTrue c X.env (eval c X.env);pure (ForInStep.yield ok) else pure (ForInStep.yield r)) (TP X pins σ Q) X.xe s
def aog:TT:=λ_ H Q=>Q true H
theorem aj7 :PF X [] aog:=λ_ _ _ H _ I h=>Ak ⟨H,I,h⟩
theorem ai7{t:TT}(hc:PT X c t):PF X [c] t:=by intro J s U H Q I h;rw[DG];simp only[if_true];refine Aa (Aa (ki (hc J s U H Q I h) λb g q=>Ak ?_));exact Ak q
theorem dJ{w:World}{R:Result->Shared->Prop}{it C:Value}(I:Nat->Shared->Prop)
 (turn:∀n s,I n s->wpAny (model prog w) A (pyNext it) (λr J=>match r with
  |none=>R (.ok .next) J
  |some v=>wpAny (model prog w) A (letOwnedTupleGo target it v) (λ_ J=>wpAny (model prog w) A (assign target env v) (λ_ l=>
   wpAny (model prog w) A (forIn r4 true λc r=>if r=true then do let ok <-isTrue c env (eval c env);pure (ForInStep.yield ok) else pure (ForInStep.yield r)) (λok g=>
    if ok=true then wpAny (model prog w) A (eval sx env) (λx o=>
     wpAny (model prog w) A (call (.builtin "list.append") [C,x]) (λ_ p=>∃m,m<n/\I m p) (λ_ _=>False) o) (λ_ _=>False) g
    else ∃m,m<n/\I m g) (λ_ _=>False) l) (λ_ _=>False) J) (λ_ _=>False) J) (λ_ _=>False) s)
 (n:Nat) (h:I n s):
 codeAny (model prog w) A (.compLoop (.ListComp sx [⟨target,iter,r4,0⟩] scope pos) 0 it C env) R s:=by
 refine codeAny_loop rfl I (λn s hI=>?_) n h;show wpAny _ A ((compTurn (.ListComp sx [⟨target,iter,r4,0⟩] scope pos) 0 it C env).onRaise (λx=>do noteFrame x env;theTreesLotGoes x)) _ _ s;refine wpAny_noted ?_;rw[compTurn_list];refine Aa (wpAny_standAt (Aa (AQ (turn n s hI) (λr J U=>?_) λ_ _ j=>j.elim)));cases r with
 |none=>exact Ak U
 |some v=>
  refine Aa (AQ U (λ_ J U=>?_) λ_ _ j=>j.elim);refine Aa (AQ U (λ_ l T=>Aa (AQ T (λok g t=>?_) λ_ _ j=>j.elim)) λ_ _ j=>j.elim);cases ok with
  |false=>exact Ak ⟨rfl,t⟩
  |true=>
   exact Aa (Aa (AQ t (λx o a1=>Aa (AQ a1 (λ_ p a2=>Ak (Ak ⟨rfl,a2⟩)) λ_ _ j=>j.elim)) λ_ _ j=>j.elim))
def tLC(n:Nat)(wi:TI)(g:TG)(tc:TT)(te:TE):TE:=λσ H Q=>wi σ H λJ H1=>∃W:Nat->Nat->List V->Hp->Prop,(∃m,W 0 m [] H1)/\∀i m ys H,W i m ys H->
 (J.stop i H/\ys.length<=sizeLine/\∀D,H D=none->Q (.ref D) (upd H D (.lst ys)))\/
 (J.go i H/\ys.length<sizeLine/\∀x H',J.yld i H x H'->g x (σ++List.replicate n none) H' λI H2=>tc I H2 λb j=>
  if b=true then te I j λy l=>∃U,U<m/\W (i+1) U (ys++[y]) l else ∃U,U<m/\W (i+1) U ys j)
def lQ(g:TG)(n k:Nat):Prop:=∀(σ:St),σ.length=n->∀x H Q,g x (σ++List.replicate k none) H Q->
 g x (σ++List.replicate k none) H λI H2=>((I.length=n+k/\∀(i:Nat) v,(σ++List.replicate k none)[i]?=some (some v)->I[i]?=some (some v))/\Q I H2)
section
variable {T:List Str}{g:TG}{te:TE}
theorem ltN{o:Obj}(e:h.get? b=some o):@LT.lt Nat instLTNat b h.objs.size:=At e
theorem wS(h:@Ne Nat a b):a≠b:=h
theorem leN(h:@LE.le Nat instLENat a b):a<=b:=h
theorem yw(fy:List Value)(n:Nat)(u:Value):∃I,Obj.mapSeq (·.push u) { cls:=.type "list",data:=.seq fy.toArray n }=({ cls:=.type "list",data:=.seq (fy++[u]).toArray I }:Obj):=
 ⟨_,by simp[Obj.mapSeq];rfl⟩
theorem sR{w:World}{D:Addr}(I:s.heap.get? D=some { cls:=.type "list",data:=.seq fy.toArray n })
 (hz:fy.length<=sizeLine) (h:∀h' J,Heap.SameBut D s.heap h'->h'.get? D=some { cls:=.type "list",data:=.seq (fy++[u]).toArray J }->Q .none { s with heap:=h' }):
 wpAny (model prog w) A (call (.builtin "list.append") [.ref D,u]) Q E s:=by
 have g:s.heap.IsList D fy.toArray:=⟨_,I,rfl,n,rfl⟩;refine wpAny_call_entry slot_list_append g.typeIs entry_list_append ?_ (args_list_append _ _);show wpAny _ _ (updateSeq D (·.push u) >>= λ_=>ret .none) _ _ s;refine Aa ?_;obtain⟨J,U⟩:=yw fy n u;refine wpAny_updateSeq (f:=(·.push u)) I rfl (Ak ⟨.none,rfl,h _ J (Ef ..) ?_⟩) (by rw[An];exact hz) (by rw[Array.size_push,An];exact Nat.succ_le_succ hz);rw[<-U];exact Heap.get?_update_self _ I (by rw[U];rfl)
theorem io{Q:VK}{dj:Value}{I:Shared}{RR:Value->Addr->Result->Shared->Prop}
 (S:jg X scope) (hc:X.calm=true)
 (hg:∀C fp s₀ H₀,PG (X.comp scope T C fp s₀ H₀) target g) (ee:lQ g X.N.length T.length) (hf:∀C fp s₀ H₀,PF (X.comp scope T C fp s₀ H₀) r4 tc) (he:∀C fp s₀ H₀,PE (X.comp scope T C fp s₀ H₀) sx te)
 (h:PIE X pins σ target (λJ H1=>∃W:Nat->Nat->List V->Hp->Prop,(∃m,W 0 m [] H1)/\∀i m ys H,W i m ys H->
  (J.stop i H/\ys.length<=sizeLine/\∀D,H D=none->Q (.ref D) (upd H D (.lst ys)))\/
  (J.go i H/\ys.length<sizeLine/\∀x H',J.yld i H x H'->g x (σ++List.replicate T.length none) H' λdp H2=>tc dp H2 λb H3=>
   if b=true then te dp H3 λy H4=>∃m',m'<m/\W (i+1) m' (ys++[y]) H4 else ∃m',m'<m/\W (i+1) m' ys H3)) dj I)
 (ef:∀D C s' H' m',qy X pins σ H' s'->kJ X pins H' C->s'.heap.Ns C m'->Q (.ref D) H'->RR (.ref D) C (.ok .next) s'):
 wpAny (model X.prog X.w) X.A (newList []) (λdr ba=>wpAny (model X.prog X.w) X.A (newFunctionEnv scope X.env.globals (dH scope X.env) [] X.env.qual none .none (some X.env)) (λbj dv=>
  codeAny (model X.prog X.w) X.A (.compStart (.ListComp sx [⟨target,iter,r4,0⟩] scope pos) 0 dj dr { bj with scope:=relabel scope X.env }) (RR dr bj.locals) dv) E ba) E I:=by
 obtain⟨it,fp,tn,J,H2,rfl,U,Tn,bp,f2,W,⟨m0,w0⟩,turn⟩:=h;refine Bv (wpAny_newFunctionEnv S.nocell (by intro y hy;simp at hy) (λbd al t=>?_) S.kind);dsimp only at al t ⊢;generalize cm:I.heap.push { cls:=.type "list",dict:=none,data:=.seq ([]:List Value).toArray }=G at al t ⊢;have hC:G.objs.size=I.heap.objs.size+1:=by rw[<-cm,Heap.size_push]
 obtain⟨D,eD⟩:∃D,I.heap.objs.size=D:=⟨_,rfl⟩;obtain⟨C,eC⟩:∃C,G.objs.size=C:=⟨_,rfl⟩;rw[eD] at hC ⊢;rw[eC] at hC al t ⊢;have cv:D≠C:=by lia
 have old:∀b o,I.heap.get? b=some o->bd.get? b=some o:=λb o e=>by have j:=ltN e;exact t.extBut b o (wS (by lia)) (As _ (cm▸As _ e))
 have dR:bd.get? D=some { cls:=.type "list",data:=.seq ([]:List Value).toArray 0 }:=by refine t.extBut _ _ cv (As _ ?_);rw[<-cm,<-eD];exact Db _ rfl
 have cy:∀b∈fp,@LT.lt Nat instLTNat b I.heap.objs.size:=λb j=>by obtain⟨o,e,_⟩:=Tn.obj _ _ bp b j;exact ltN e
 have dS:@LT.lt Nat instLTNat X.env.locals I.heap.objs.size:=U.lt;have eH:X.s₀.heap.objs.size<=I.heap.objs.size:=U.sz;have HD:H2 D=none:=U.hok.fresh (leN (by exact vV));have HC:H2 C=none:=U.hok.fresh (leN (by lia));have eg:∀b:Addr,@LE.le Nat instLENat I.heap.objs.size b->b∉aa X.stack:=λb j z=>by
  have q:=U.stkSub b z;rcases Ap.mp q with q|q
  ·rw[<-q] at dS;exact absurd dS (Nat.not_lt.mpr j)
  ·exact U.nofs j q
 have bf:∀x c,X.env.cells.lookup x=some c->@LT.lt Nat instLTNat c I.heap.objs.size:=λx c e=>by obtain⟨v,q⟩:=U.cell x c e;exact q.lt
 let X':Cx:=X.comp scope T C fp I H2
 have cP:X'.Ok:={
  mod:=U.ok.mod,kind:=S.kind,glob:=U.ok.glob,blt:=U.ok.blt
  above:=leN (by show @LE.le Nat instLENat I.heap.objs.size C;lia)
  inj:=λx y c h1 h2=>U.ok.inj x y c (S.cl_old U h1) (S.cl_old U h2)
  has:=λx hx=>S.cl_has (S.kindOf hx)
  cab:=λx c hx=>absurd (show false=true from hx) (by simp)
  hd:=U.ok.hd,frames:=U.ok.frames,stk:=.inl rfl
  exf:=λb j=>⟨wS (by have:=cy b j;show @Ne Nat b C;lia),λx c e=>(f2 b j).2.2.2.2.1 x c (S.cl_old U e)⟩
  bs:=U.bs,bsz:=AI U.ok.bsz U.sz
  noex:=λb o e j=>by
   obtain⟨e0,n0⟩:=U.ok.bs b o e;rcases (f2 b j).2.2.2.1 with q|q
   ·exact U.ok.noex b o e q
   ·have q':@LE.le Nat instLENat X.s₀.heap.objs.size b:=q;have:=ltN e0;lia
  exfs:=λb j z=>by
   rcases Ap.mp (U.stkSub b z) with q|q
   ·exact(f2 b j).2.1 q
   ·exact(f2 b j).2.2.1 q
  funs:=U.stack,frf:=U.stkFree }
 have I4:∀tk,0<tk->qy X' pins (σ++List.replicate T.length none) H2 { I with heap:=bd,toks:=tk }:=λtk ej=>{
  tk:=ej,ok:=cP,os:=rfl,bare:=U.bare,base:=Un.kept old
  loc:=⟨_,al,λi x v e1 e2 e3=>by
   have hi:i<σ.length:=by
    by_cases hi:i<σ.length
    ·exact hi
    ·rw[Ax (by exact yg),BZ] at e2;split at e2<;>cases e2
   rw[AE hi] at e2;have ek:i<X.N.length:=by rw[<-U.len];exact hi
   have dV:X.N[i]?=some x:=by have:(X.N++T)[i]?=some x:=e1;rw[AE ek] at this;exact this
   have d0:=S.vis (AM dV) e3;obtain⟨m,hn,hl⟩:=U.loc;have hk:=S.free x d0;obtain⟨u,r,l⟩:=hl i x v dV e2 (.inr hk);refine⟨u,r,.inr ⟨S.back d0,?_⟩⟩;rcases l with⟨l,_⟩|⟨_,c,e,z⟩
   ·rw[l] at hk;rcases hk with q|q<;>cases q
   ·obtain⟨c',e'⟩:=S.cl_has d0;have e4:=S.cl_old U e';rw[e] at e4;cases e4;exact⟨c,e',z.keeps old⟩⟩
  cell:=λx c e=>by obtain⟨v,z⟩:=U.cell x c (S.cl_old U e);exact⟨v,z.keeps old⟩
  free:=HC,freeC:=λx c e=>U.freeC x c (S.cl_old U e)
  pin:=λp hp=>by
   obtain⟨a,b,c,d,e⟩:=U.pin p hp;have el:=ltN a;refine⟨old _ _ a,b,wS (by show @Ne Nat p.1 C;lia),λz=>?_,e⟩;rcases Ap.mp (U.stkSub _ z) with q|q
   ·exact c q
   ·exact d q
  hok:=U.hok.kept old
  len:=by show(σ++_).length=(X.N++T).length;rw[Ad,Ad,BI,U.len] }
 have da:∀(bb:List (Addr×Obj)) (H':Hp),(∀p∈bb,p∈pins\/p.1=D)->(∀b∈fp,H' b=none)->∀b∈fp,kJ X' bb H' b:=λbb H' hp hn b j=>by
  obtain⟨_,q1,q2,q3,q4,q5⟩:=f2 b j;have el:=cy b j;refine⟨hn b j,wS (by show @Ne Nat b C;lia),cP.exfs b j,.inl j,(cP.exf b j).2,λp en=>?_⟩;rcases Ao.mp en with z|z
  ·exact q5 p (Aq _ z)
  ·rcases hp p z with z|z
   ·exact q5 p (Af _ z)
   ·rw[z];exact wS (by lia)
 have stay:Tn.keep=Tn.keep:=rfl;have bn:∀ba:Shared,ba={ I with heap:=bd,toks:=I.toks+([]:List (Str×Value)).length }->
  codeAny (model X.prog X.w) X.A (.compLoop (.ListComp sx [⟨target,iter,r4,0⟩] scope pos) 0 (.ref it) (.ref D) X'.env) (RR (.ref D) C) ba:=by
  rintro ba rfl;refine dJ (λn s'=>∃i de H' ys aL k,qy X' pins de H' s'/\(de.length=X.N.length+T.length/\∀(i:Nat) v,(σ++List.replicate T.length none)[i]?=some (some v)->de[i]?=some (some v))/\
   s'.heap.get? D=some { cls:=.type "list",data:=.seq (aL:List Value).toArray k }/\zn ys aL/\H' D=none/\tn i s'.heap/\(∀b∈fp,H' b=none)/\W i n ys H') ?_ m0
   ⟨0,_,H2,[],[],0,I4 _ U.tk,⟨by rw[Ad,BI,U.len],λ_ _ e=>e⟩,dR,.nil,HD,Tn.keep _ _ _ bp λb _ o e=>old b o e,λb j=>(f2 b j).1,w0⟩
  rintro n s3 ⟨i,eK,H3,ys,aL,k,I3,⟨eo,ep⟩,er,bh,bi,e5,e6,w3⟩;have eB:aL.length=ys.length:=bh.length.symm;have e7:D∉X'.fs:=eg D (by exact vV);have e8:D≠X'.env.locals:=cv;have ea:qy X' (pins++[(D,{ cls:=.type "list",data:=.seq aL.toArray k })]) (σ++List.replicate T.length none) H3 s3:=
   (I3.weak (by rw[eo,Ad,BI,U.len]) ep).pins_of λp hp=>by
    rcases Ao.mp hp with z|z
    ·exact I3.pin p (Af _ z)
    ·have e:=Ag.mp z;subst e;exact⟨er,bi,e8,e7,λv z=>by cases z⟩
  have bc:∀p∈pins++[(D,({ cls:=.type "list",data:=.seq aL.toArray k }:Obj))],p∈pins\/p.1=D:=λp hp=>by
   rcases Ao.mp hp with z|z
   ·exact .inl z
   ·exact .inr (by rw[Ag.mp z])
  rcases turn i n ys H3 w3 with⟨stop,hz,qn⟩|⟨go,hz,step⟩
  ·refine ki (Tn.done X' rfl rfl rfl hc i _ s3 _ H3 _ ea (da _ H3 bc e6) e5 stop) λr s4 ⟨hr,ag⟩=>?_;subst hr;obtain⟨et,eN,_⟩:=ag.pin (D,_) (Af _ (Af _ Ah));obtain⟨m',eu,_⟩:=ag.loc;have un:Un (aa X.stack) fp H2 (upd H3 D (.lst ys)) I.heap s4.heap:={
    keep:=ag.base.keep,slot:=ag.base.slot
    free:=λb o e n hx=>by have:=ltN e;rw[qp (wS (by lia))];exact ag.base.free b o e n hx
    there:=ag.base.there
    tups:=λb xs e=>by rw[qp (λz=>by rw[z,HD] at e;cases e)];exact ag.base.tups b xs e
    frzs:=λb o u e=>by rw[qp (λz=>by rw[z,HD] at e;cases e)];exact ag.base.frzs b o u e
    tbls:=λb ps e=>by rw[qp (λz=>by rw[z,HD] at e;cases e)];exact ag.base.tbls b ps e }
   have ew:cH X.prog X.w (upd H3 D (.lst ys)) s4.heap:=λb u e=>by
    by_cases j:b=D
    ·subst j;rw[zq] at e;cases e;exact⟨hz,aL,k,bh,et⟩
    ·rw[qp j] at e;refine(ag.hok b u e).stay (λ_ _ _ q=>q) (λc q=>?_) λc xs q=>?_
     ·rw[qp (zy q bi)];exact q
     ·rw[qp (zy q bi)];exact q
   have I5:qy X pins σ (upd H3 D (.lst ys)) s4:=U.call' (ch:=fp) ag.os un ew ag.bare λb j=>⟨(f2 b j).2.2.2.1,(f2 b j).2.1,(f2 b j).2.2.2.2.1,(f2 b j).2.2.2.2.2⟩;refine ef D C s4 _ m' I5 ?_ eu (qn D bi);refine⟨by rw[qp (AW cv)];exact ag.free,?_,?_,.inr ?_,λx c e=>?_,λp hp=>?_⟩
   ·exact wS (by lia)
   ·exact U.nofs (leN (by lia))
   ·exact leN (by lia)
   ·exact wS (by have:=bf x c e;lia)
   ·exact wS (by have:=ltN (U.pin p hp).1;lia)
  ·refine ki (Tn.item X' rfl rfl rfl hc i _ s3 _ H3 _ ea (da _ H3 bc e6) e5 go) λr s4 ⟨u,hr,h4⟩=>?_;subst hr;refine ki h4 λ_ s5 ⟨x,H5,I5,r5,y5,dg,ey⟩=>?_;have ez:=I5.pinned (da _ H5 bc ey) (Tn.obj _ _ dg);refine AQ ((hg C fp I H2) _ s5 _ H5 x u _ ez r5 (ee σ U.len x H5 _ (step x H5 y5))) (λ_ s6 ⟨bg,H6,I6,⟨eb,ec⟩,q6⟩=>?_) λ_ _ z=>z;refine AQ ((hf C fp I H2) _ s6 bg H6 _ I6 q6) (λb s7 ⟨H7,I7,q7⟩=>?_) λ_ _ z=>z;have xr:∀{s8:Shared} {H8:Hp} (I8:qy X' ((pins++[(D,{ cls:=.type "list",data:=.seq aL.toArray k })])++jN fp s5.heap) bg H8 s8),tn (i+1) s8.heap/\(∀b∈fp,H8 b=none)/\s8.heap.get? D=some { cls:=.type "list",data:=.seq aL.toArray k }/\H8 D=none/\qy X' pins bg H8 s8:=λ{s8 H8} I8=>by
    refine⟨Tn.keep _ _ _ dg λb j o e=>(I8.pin (b,o) (Af _ (Af _ (br j e)))).1,λb j=>?_,?_,?_,I8.unpinned.unpinned⟩
    ·obtain⟨o,e,d⟩:=Tn.obj _ _ dg b j;exact(I8.pin (b,o) (Af _ (Af _ (br j e)))).2.1
    ·exact(I8.pin (D,_) (Af _ (Aq _ (Af _ Ah)))).1
    ·exact(I8.pin (D,_) (Af _ (Aq _ (Af _ Ah)))).2.1
   cases b with
   |false=>
    rw[AD AB] at q7 ⊢;obtain⟨m',hm,w7⟩:=q7;obtain⟨a1,a2,a3,a4,a5⟩:=xr I7;exact⟨m',hm,i+1,bg,H7,ys,aL,k,a5,⟨eb,ec⟩,a3,bh,a4,a1,a2,w7⟩
   |true=>
    rw[AF rfl] at q7 ⊢;refine AQ ((he C fp I H2) _ s7 bg H7 _ I7 q7) (λv s8 ⟨y,H8,I8,r8,m',hm,w8⟩=>?_) λ_ _ z=>z;obtain⟨a1,a2,a3,a4,a5⟩:=xr I8;refine sR a3 (by lia) λh9 k9 ed eA=>?_;have nD:∀b∈fp,b≠D:=λb j=>wS (by have:=cy b j;lia);refine⟨m',hm,i+1,bg,H8,ys++[y],aL++[v],k9,?_,⟨eb,ec⟩,eA,bh.append (.cons r8 .nil),a4,Tn.keep _ _ _ a1 λb j o e=>(ed.2 b (nD b j)).trans e,a2,w8⟩;exact a5.turned (t':=s8.toks) (it:=D) (λb o j e=>(ed.2 b j).trans e) a4 e8 (.inr (leN (by show @LE.le Nat instLENat I.heap.objs.size D;exact vV))) (λx c e=>wS (by have:=bf x c (S.cl_old U e);lia)) λp hp=>wS (by have:=ltN (U.pin p hp).1;lia)
 exact codeAny_compStart_list (bn _ rfl) (Tn.self _ _ _ _ _ (Tn.keep _ _ _ bp λb _ o e=>old b o e) (bn _ rfl))
end
section
variable {T:List Str}{g:TG}{te:TE}
theorem alb(T:List Str)(S:jg X scope)(hc:X.calm=true)(hi:PI X target iter wi)(t:∀C fp s₀ H₀,PG (X.comp scope T C fp s₀ H₀) target g)(j:lQ g X.N.length T.length)
 (hf:∀C fp s₀ H₀,PF (X.comp scope T C fp s₀ H₀) r4 tc) (he:∀C fp s₀ H₀,PE (X.comp scope T C fp s₀ H₀) sx te)
 (hs:∀x,foldedSetIterable iter X.env x=pure x:=by intro _;rfl):PE X (.ListComp sx [⟨target,iter,r4,0⟩] scope pos) (tLC T.length wi g tc te):=by
 intro J s r H Q I h;rw[eval_ListComp];refine wpAny_comprehension_free (use:=none) rfl hs (S.clo I) S.kind S.names (ki (hi J s r H _ I h) λv s1 h1=>ki h1 λa1 s2 h2=>?_);refine io (RR:=λl C=>compPost (model X.prog X.w) X.A X.xe none (EP X J r Q) l C) S hc t j hf he h2 ?_;intro D C s' H' m' I' U hn q;exact⟨m',hn,λh' p=>⟨.ref D,H',I'.turned (t':=s'.toks) (it:=C) (λb o hb e=>(p.2 b hb).trans e) U.1 (AW (AW U.2.1)) U.2.2.2.1 U.2.2.2.2.1 U.2.2.2.2.2,rfl,q⟩⟩
theorem ye(T:List Str){px j:Pos}(hN:X.N.Nodup)(l:X.N[i]?=some x)(hx:xR X.env.scope x)(S:jg X scope)(hc:X.calm=true)(hi:PI X target iter wi)
 (hg:∀C fp s₀ H₀,PG (X.comp scope T C fp s₀ H₀) target g) (p:lQ g X.N.length T.length)
 (hf:∀C fp s₀ H₀,PF (X.comp scope T C fp s₀ H₀) r4 tc) (he:∀C fp s₀ H₀,PE (X.comp scope T C fp s₀ H₀) sx te)
 (r:swapsWith (.ListComp sx [⟨target,iter,r4,0⟩] scope j) (some (.Name x px)) pos.line X.env=pure true:=by rfl)
 (t:X.fn x=true\/X.env.scope.names.lookup x=some .local:=by first|exact .inl rfl|exact .inr rfl|assumption)
 (hs:∀x,foldedSetIterable iter X.env x=pure x:=by intro _;rfl):PS X (.Assign [.Name x px] (.ListComp sx [⟨target,iter,r4,0⟩] scope j) pos) (agq (tLC T.length wi g tc te) (cV i)):=by
 intro pins s σ H D I h;rw[exec_Assign_Name_used _ _ _ _ r];refine Aa (wpAny_standAt (Aa ?_));show wpAny _ X.A (do let _ <-comprehension (.ListComp sx [⟨target,iter,r4,0⟩] scope j) scope X.env _ (newList []) false (eval iter X.env) (some (assign (.Name x px) X.env))) _ _ s;refine Aa (AQ (wpAny_comprehension_free (use:=some (assign (.Name x px) X.env)) (Q:=λ_ U=>SP X pins D .next U) rfl hs (S.clo I) S.kind S.names
  (ki (hi pins s σ H _ I h) λv s1 h1=>ki h1 λag s2 h2=>?_)) (λ_ U hq=>Ak (Ak hq)) λ_ _ e=>e)
 refine io (RR:=λa1 C=>compPost (model X.prog X.w) X.A X.xe (some (assign (.Name x px) X.env)) (λ_ U=>SP X pins D .next U) a1 C) (pins:=pins) (σ:=σ) (Q:=λx H1=>cV i x σ H1 D.nx) S hc hg p hf he h2 ?_;intro A C U H' m' I' J hn q;show wpAny _ X.A (assign (.Name x px) X.env (.ref A)) _ _ U;refine wpAny_assign_Name (lL I' hN l hx (v:=.ref A) rfl (λa2 a3 ⟨a,hs,ha⟩ _=>?_) t);have a4:C≠a:=by
  rcases ha with z|z
  ·rw[z];exact J.2.1
  ·exactλe=>J.2.2.2.2.1 x a z e.symm
 exact⟨m',hn.sameBut hs a4,λh' a5=>⟨_,H',a3.turned (t':=a2.toks) (it:=C) (λb o hb e=>(a5.2 b hb).trans e) J.1 J.2.1 J.2.2.2.1 J.2.2.2.2.1 J.2.2.2.2.2,q⟩⟩
end
def v5(outer:Scope)(N:List Str)(I:Scope):Bool:=
 decide (I.kind=.function)&&I.names.all (λp=>decide (p.2≠.cell)&&(decide (p.2≠.local)||decide (I.names.lookup p.1=some .local))&&(decide (p.2≠.free)||(decide (outer.names.lookup p.1=some .cell)||decide (outer.names.lookup p.1=some .free))))
  && N.all (λx=>decide (I.names.lookup x≠some .local))
theorem v5.mk{I:Scope}(h:v5 X.env.scope X.N I=true):jg X I:=by
 unfold v5 at h;rw[AK,AK,CP,CP] at h;obtain⟨⟨h1,h2⟩,h3⟩:=h;have g:∀n,(n,NameKind.free)∈I.names->X.env.kindOf n=some .cell\/X.env.kindOf n=some .free:=λn J=>by
  have q:=h2 _ J;simp only[AK,DH,decide_eq_true_eq] at q;rcases q.2 with z|z
  ·exact absurd rfl z
  ·exact z
 refine⟨of_decide_eq_true h1,λy U=>?_,λy U e=>?_,λn J=>g n (Bo J),g,λx j=>of_decide_eq_true (h3 x j)⟩
 ·have q:=h2 _ U;simp only[AK,DH,decide_eq_true_eq] at q;exact q.1.1
 ·have q:=h2 _ U;simp only[AK,DH,decide_eq_true_eq] at q;rcases q.1.2 with z|z
  ·exact absurd e z
  ·exact z
abbrev DY:=@v5.mk
theorem s9(n:Nat):lQ (cV n) n 1:=by
 intro U I x H Q h;refine⟨⟨by simp[I],λi v e=>?_⟩,h⟩;by_cases J:i=n
 ·subst J;rw[Ax (by exact vV)] at e;simp[I] at e
 ·rw[Bp (AW J)];exact e
theorem ak:bootBuiltins "isinstance"=some (.builtin "isinstance"):=by decide +kernel
theorem pC:bootBuiltins "tuple"=some (.type "tuple"):=by decide +kernel
theorem afo:bootBuiltins "int"=some (.type "int"):=by decide +kernel
theorem bV:bootBuiltins "list"=some (.type "list"):=by decide +kernel
theorem agz:bootBuiltins "len"=some (.builtin "len"):=by decide +kernel
theorem huK{k:Nat}(I:k8 k A):A.units+128<cLine:=by have:=I.un;lia
theorem small(h:n<=1000):n<=sizeLine:=Bl (wb h)
theorem wT.of{P:Program}{w:World}{K:Ae}{k:Nat}(F:aW P w K mg base CX0 k f fd ps sp)(b:bz K fd ps [])(I:PySem.W.keepIn K (.ref f)=true)(m:mg x=some (.ref f)):
 wT P w K mg base k x ps sp:=⟨f,fd,F,b,I,m⟩
theorem aW.never{P:Program}{w:World}{K:Ae}{k:Nat}(no:∀vs H Q E,¬sp vs H Q E):aW P w K mg base CX0 k f fd ps sp:=
 ⟨λvs H Q E h=>absurd h (no vs H Q E),λA I s H args J vs Q E _ _ _ _ h=>absurd h (no vs H Q E)⟩
section
variable (K:Ae)(P:Program)(w:World)
end
structure zb(K:Ae)(x:Str)(st:Stmt):Prop where
 ex:∃(f:Addr) (kV nC pm:Value) (an:Option Addr) (g7 ct:Value),PySem.W.nsIn K mainGlobals x=some (some (.ref f))/\Fun K x x st f (PySem.W.fnOf x x (xh st) (je st) (qr st) .none kV nC pm an g7 ct)
theorem def_in{K:Ae}{kV:Value}(a:PySem.W.nsIn K mainGlobals x=some (some (.ref f)))
 (l:K.lookup f=some ⟨oc,od,.func (PySem.W.fnOf x x (xh st) (je st) (qr st) .none kV nC pm an g7 ct),vb⟩) (c:PySem.W.codeIn K g7 x=true) (k:PySem.W.keepIn K (.ref f)=true):zb K x st:=
 ⟨f,kV,nC,pm,an,g7,ct,a,aj4 (st:=st) l c k⟩
theorem zb.use{K:Ae}(D:zb K x st)(X:K.In h)(G:h.Ns mainGlobals mg)
 (I:∀(kV nC pm:Value) (an:Option Addr) (g7 ct:Value) (us:List Value),us.length=ps.length->bindArgs (PySem.W.fnOf x x (xh st) (je st) (qr st) .none kV nC pm an g7 ct) ⟨us,[]⟩=pure (ps.zip us)):
 ∃f fd,Fun K x x st f fd/\bz K fd ps []/\mg x=some (.ref f):=by
 obtain⟨f,kV,nC,pm,an,g7,ct,a,F⟩:=D.ex;exact⟨f,_,F,bz.all (I kV nC pm an g7 ct),Bg X G a⟩
end L2
namespace Words
open PySem L2
inductive Wd where
 |leaf (t:Bool) (n:Str)
 |node (e:Bool) (l r:Wd)
def kL:Bool->Str
 |false => "plain"
 |true => "turned"
def kN:Bool->Str
 |false => "both"
 |true => "either"
def Wd.turn:Wd->Wd
 |.leaf t n=>.leaf (!t) n
 |.node e l r=>.node (!e) l.turn r.turn
def Wd.depth:Wd->Nat
 |.leaf _ _=>1
 |.node _ l r=>max l.depth r.depth+1
def Wd.leaves:Wd->Nat
 |.leaf _ _=>1
 |.node _ l r=>l.leaves+r.leaves
theorem Wd.leaves_pos:∀w:Wd,1<=w.leaves
 |.leaf _ _=>Al _
 |.node _ l r=>by have:=Wd.leaves_pos l;show 1<=l.leaves+r.leaves;exact ako
abbrev EC:=@Wd.leaves_pos
theorem Wd.depth_le:∀w:Wd,w.depth<=w.leaves
 |.leaf _ _=>Al _
 |.node _ l r=>by have:=Wd.depth_le l;have:=Wd.depth_le r;have:=EC l;have:=EC r;show max l.depth r.depth+1<=l.leaves+r.leaves;lia
def mI:Wd->Da
 |.leaf t n=>.tup [.s (.str (kL t)),.s (.str n)]
 |.node e l r=>.tup [.s (.str (kN e)),mI l,mI r]
def bw(x:Str):Prop:=1<=x.length/\x.length<=8/\∀c∈x.cps.toList,97<=c/\c<=122
def Wd.ok:Wd->Prop
 |.leaf _ n=>bw n
 |.node _ l r=>l.ok/\r.ok
theorem Paired.getP{α β:Type}{F:α->β->Prop}:∀{xs:List α} {ys:List β} {i:Nat} {x:α},Paired F xs ys->xs[i]?=some x->∃y,ys[i]?=some y/\F x y
 |_,_,_,_,.nil,h=>by simp at h
 |_,_,0,_,.cons (b:=y) r _,h=>by simp at h;subst h;exact⟨y,rfl,r⟩
 |_,_,i+1,_,.cons _ t,h=>by obtain⟨y,e,q⟩:=Paired.getP (i:=i) t (by simpa using h);exact⟨y,by simpa using e,q⟩
end Words
namespace L2
open PySem PySem.Spec PyProof.Rows
theorem vG{ys:List V}{es:List Da}(I:qy X pins σ H s)(g:A.units<cLine)(j:cG X.K H a xs)(l:cG X.K H b ys)(px:Paired (vf X.K H n) xs ds)(py:Paired (vf X.K H m) ys es)
 (o:∀{x y:V} {d e:Da} {u v:Value},vf X.K H n x d->vf X.K H m y e->zm x u->zm y v->SeqAt.EqAt A.in1 s u v (Da.eq d e)):SeqAt.RcNeAt A s (.ref a) (.ref b) (!Da.eqs ds es):=by
 obtain⟨r,J,p,_⟩:=I.tuple j;obtain⟨t,U,ty,_⟩:=I.tuple l;have q:=SeqAt.RcNeAt.tuples p ty g (fQ px py J U o);rw[An,An,<-J.length,<-U.length,px.length,py.length,DR] at q;exact q
theorem yj{ys:List V}{es:List Da}(I:qy X pins σ H s)(l:A.units<cLine)(p:aH X.K H a xs)(r:aH X.K H b ys)(px:Paired (vf X.K H n) xs ds)(py:Paired (vf X.K H m) ys es)
 (t:∀{x y:V} {d e:Da} {u v:Value},vf X.K H n x d->vf X.K H m y e->zm x u->zm y v->SeqAt.EqAt A.in1 s u v (Da.eq d e)):SeqAt.RcNeAt A s (.ref a) (.ref b) (!Da.eqs ds es):=by
 obtain⟨C,U,o,_⟩:=I.list p;obtain⟨T,j,ty,_⟩:=I.list r;by_cases g:C.toArray.size=T.toArray.size
 ·have q:=SeqAt.RcNeAt.lists (j5 o) (j5 ty) g l (fQ px py U j t);have J:ds.length=es.length:=by rw[<-px.length,<-py.length,U.length,j.length];simpa using g
  have e:=DR ds es;rw[J,Nat.min_self] at e;rw[<-J] at e;rw[An,<-U.length,px.length] at q;simp only[beq_self_eq_true,Cz] at e;rw[e] at q;exact q
 ·have q:=SeqAt.RcNeAt.lists_lengths (j5 o) (j5 ty) (by simpa using g) l;have J:ds.length≠es.length:=by rw[<-px.length,<-py.length,U.length,j.length];intro z;exact g (by simpa using z)
  have e:=DR ds es;have f:(ds.length==es.length)=false:=by simpa using J
  rw[f,DM] at e;rw[<-e];exact q
def uNe(K:Ae)(k:Nat):R2:=λx y H Q=>match x,y with
 |.ref a,.ref b=>∃n m d e,n<=k/\vf K H n (.ref a) d/\vf K H m (.ref b) e/\Q (.bl (!Da.eq d e)) H
 |x,y=>ac0 x y=true/\Q (.bl (!decide (x=y))) H
theorem aiu{k:Nat}(hu:X.A.units+k<cLine):vz X (compareOp .NotEq) (uNe X.K k):=by
 intro J s o H x y v u Q I p t h;cases x with
 |ref a=>
  cases y with
  |ref b=>
   obtain⟨n,m,d,e,hn,h1,h2,q⟩:=h;cases p;cases t;have xr:∀{k:Bool},k=(!Da.eq d e)->SeqAt.RcNeAt X.A s (.ref a) (.ref b) k->wpAny (model X.prog X.w) X.A (compareOp .NotEq (.ref a) (.ref b)) (EP X J o Q) X.xe s:=λ{k} e' r=>
    r X.prog X.w X.xe (EP X J o Q) (by rw[e'];exact⟨.bl _,H,I,rfl,q⟩)
   cases n with
   |zero=>exact(j6 h1.2).elim
   |succ n=>
    cases m with
    |zero=>exact(j6 h2.2).elim
    |succ m=>
     have j:X.A.in1.units+n<cLine:=by show X.A.units+1+n<cLine;lia
     rcases h1 with⟨_,f⟩|⟨a',xs,ds,C,rfl,l,T⟩|⟨a',xs,ds,C,rfl,l,T⟩
     ·exact(j6 f).elim
     ·cases C;rcases h2 with⟨_,f⟩|⟨b',ys,es,U,rfl,g,py⟩|⟨b',ys,es,U,rfl,g,py⟩
      ·exact(j6 f).elim
      ·cases U;exact xr rfl (vG I (by lia) l g T py λh1 h2 r1 r2=>jI I n j h1 h2 r1 r2)
      ·cases U;obtain⟨us,vx,tx,_⟩:=I.tuple l;obtain⟨vs,vy,ty,_⟩:=I.list g;exact xr rfl (.tuple_list tx (j5 ty) (by lia))
     ·cases C;rcases h2 with⟨_,f⟩|⟨b',ys,es,U,rfl,g,py⟩|⟨b',ys,es,U,rfl,g,py⟩
      ·exact(j6 f).elim
      ·cases U;obtain⟨us,vx,tx,_⟩:=I.list l;obtain⟨vs,vy,ty,_⟩:=I.tuple g;exact xr rfl (.list_tuple (j5 tx) ty (by lia))
      ·cases U;exact xr rfl (yj I (by lia) l g T py λh1 h2 r1 r2=>jI I n j h1 h2 r1 r2)
  |_=>exact aez J s o H _ _ v u Q I p t h
 |_=>cases y<;>exact aez J s o H _ _ v u Q I p t h
theorem zG:bootBuiltins "max"=some (.builtin "max"):=by decide +kernel
end L2
namespace Words
open PySem L2
def Wd.size:Wd->Nat
 |.leaf _ _=>1
 |.node _ l r=>1+l.size+r.size
theorem Wd.size_eq:∀w:Wd,w.size+1=2*w.leaves
 |.leaf _ _=>rfl
 |.node _ l r=>by have:=Wd.size_eq l;have:=Wd.size_eq r;show 1+l.size+r.size+1=2*(l.leaves+r.leaves);lia
end Words
namespace L2
open PySem PySem.Spec PyProof.Rows
theorem x4.get{P:Program}{w:World}{o:HO}(x:x4 P w H h a o):∃J,h.get? a=some J:=by
 cases o with
 |lst U=>obtain⟨_,_,_,_,e⟩:=x;exact⟨_,e⟩
 |tup U=>obtain⟨_,_,_,_,e,_⟩:=x;exact⟨_,e⟩
 |dK I=>obtain⟨_,_,_,_,o,_,_,e,_⟩:=x;exact⟨_,e⟩
 |dT I=>obtain⟨_,_,_,_,o,_,_,e,_⟩:=x;exact⟨_,e⟩
 |set S n=>obtain⟨o,_,_,_,e,_⟩:=x;exact⟨_,e⟩
 |ins C g fs=>obtain⟨_,_,_,e,_⟩:=x;exact⟨_,e⟩
 |own y=>exact x
 |xd fs=>obtain⟨_,⟨_,_,_,e,_⟩,_⟩:=x;exact⟨_,e⟩
 |rng lo j=>obtain⟨_,_,_,e⟩:=x;exact⟨_,e⟩
 |frz J u=>obtain⟨e,_⟩:=x;exact⟨_,e⟩
 |tbl l=>exact⟨_,show h.get? a=some _ from x⟩
 |met f y=>exact⟨_,show h.get? a=some _ from x⟩
 |ext p=>obtain⟨_,e,_⟩:=x;exact e
def mD(h0 h:Heap)(H:Hp)(a C:Addr)(tr:Option Addr):Prop:=
 h0.get? a=none/\H a=none/\∃I vs a0,h.get? a=some I/\I.cls=.ref C/\I.data=.fields vs/\vs[0]?=some a0/\
  match tr with
  |none=>vs[1]?=some .none
  |some T=>vs[1]?=some (.ref T)/\h0.get? T=none/\H T=none/\T≠a/\∃J ts,h.get? T=some J/\J.data=.fields ts/\ts[3]?=some .none
def aJ(a:Addr)(tr:Option Addr)(fs:List Addr):List Addr:=a::(tr.toList++fs)
section
variable {tr:Option Addr}
theorem iG{l:List Env}(h:env∈l)(e:env.frame=some b):b∈aa l:=C7.mpr ⟨env,h,e⟩
theorem iD(I:qy X pins σ H s)(hs:X.stack=X.env::X.outer)(hx:X.ex=[])(new:X.s₀.heap.get? a=none)(free:H a=none)(j:∀T,tr=some T->X.s₀.heap.get? T=none/\H T=none){a0 fl:Value}
 (k1:(PySem.W.hideAll s.heap (aJ a tr (aa X.stack))).StaysIn h') (k2:h'.FunFrames (PySem.W.hideAll s.heap (aJ a tr (aa X.stack))) X.stack) (k3:h'.TracedAtW (PySem.W.hideAll s.heap (aJ a tr (aa X.stack))) a (.ref C) a0 fl)
 (k4:∀b o,s.heap.get? b=some o->(∀vs,o.data≠.fields vs)->∃sl,h'.get? b=some { o with slots:=sl }):
 Un X.fs [] X.H₀ H X.s₀.heap h'/\cH X.prog X.w H h'/\∃T,(∀b o,s.heap.get? b=some o->(∀T0,tr=some T0->b≠T0)->b≠T)/\X.s₀.heap.get? T=none/\H T=none/\T≠a/\∃oe vs oT ts,h'.get? a=some oe/\oe.cls=.ref C/\vs[0]?=some a0/\oe.data=.fields vs/\vs[1]?=some (.ref T)/\h'.get? T=some oT/\oT.data=.fields ts/\ts[3]?=some fl:=by
 have kp:∀b o,s.heap.get? b=some o->b∉aJ a tr (aa X.stack)->h'.get? b=some o:=λb o e n=>k1 b o (Cu _ e n);have sl:∀b o,s.heap.get? b=some o->b∈aa X.stack->∃sl,h'.get? b=some { o with slots:=sl }:=λb o e J=>by obtain⟨_,l,e',nf⟩:=I.stack.mem J;rw[e] at e';cases e';exact k4 b o e nf
 have p:∀b,b∈aJ a tr (aa X.stack)->H b=none:=λb J=>by
  rcases Ap.mp J with e|J
  ·rw[e];exact free
  ·rcases Ao.mp J with q|q
   ·exact(j b (by simpa using q)).2
   ·exact I.stkFree b q
 have g:∀b o,X.s₀.heap.get? b=some o->b∉X.fs->b∉aJ a tr (aa X.stack):=λb o e nb J=>by
  rcases Ap.mp J with q|J
  ·rw[q,new] at e;cases e
  ·rcases Ao.mp J with q|q
   ·rw[(j b (by simpa using q)).1] at e;cases e
   ·rcases Ap.mp (I.stkSub b q) with q|q
    ·exact absurd (AH (At e) I.ok.above) (by rw[q];exact Cp _)
    ·exact nb q
 have r:∀b,b∈X.fs->b∈aa X.stack:=λb J=>by
  rw[hs];unfold aa;rw[Cv];split
  ·exact J
  ·exact Ac _ J
 have U:∀b:Addr,b∉X.ex:=λb=>by rw[hx];simp
 have a3:cH X.prog X.w H h':=λb u e=>(I.hok b u e).stay (λc w' hc q=>kp c w' q λhm=>by
  have n:=p c hm;rcases hc with z|z
  ·rw[z,e] at n;cases n
  ·rw[z] at n;cases n) (λ_ q=>q) λ_ _ q=>q
 refine⟨⟨λb o e n J _=>?_,λb o e n J _=>?_,λb o e n _=>I.base.free b o e n (U b),λb o e _=>?_,I.base.tups,I.base.frzs,I.base.tbls⟩,a3,?_⟩
 ·exact kp b o (I.base.keep b o e n J (U b)) (g b o e J)
 ·obtain⟨z,t⟩:=I.base.slot b o e n J (U b);obtain⟨z',e2⟩:=sl b _ t (r b J);exact⟨z',e2⟩
 ·obtain⟨l,t⟩:=I.base.there b o e (U b);by_cases J:b∈X.fs
  ·obtain⟨z',e2⟩:=sl b _ t (r b J);exact⟨_,e2⟩
  ·exact⟨l,kp b l t (g b o e J)⟩
 ·obtain⟨al,aL,T,oT,ts,ba,⟨bb,bc⟩,bd,bf,a4,a1,hT,a5,h3⟩:=k3;have a2:∀o,s.heap.get? T=some o->T∈aJ a tr (aa X.stack):=λo e=>by
   by_cases q:T∈aJ a tr (aa X.stack)
   ·exact q
   ·rw[Cu _ e q] at a4;cases a4
  have ag:T∉aa X.stack:=λJ=>by obtain⟨_,l,e',nf⟩:=k2.mem J;rw[hT] at e';cases e';exact nf ts a5
  refine⟨T,λb o e ne z=>?_,?_,?_,a1,al,aL,oT,ts,ba,bb,bc,bd,bf,hT,a5,h3⟩
  ·subst z;rcases Ap.mp (a2 o e) with z|z
   ·exact a1 z
   ·rcases Ao.mp z with z|z
    ·exact ne b (by simpa using z) rfl
    ·exact ag z
  ·cases q:X.s₀.heap.get? T with
   |none=>rfl
   |some o=>
    obtain⟨l,t⟩:=I.base.there T o q (U T);rcases Ap.mp (a2 l t) with z|z
    ·exact absurd z a1
    ·rcases Ao.mp z with z|z
     ·rw[(j T (by simpa using z)).1] at q;cases q
     ·exact absurd z ag
  ·cases q:H T with
   |none=>rfl
   |some u=>
    obtain⟨l,t⟩:=(I.hok T u q).get;have:=p T (a2 l t);rw[q] at this;cases this
theorem ab5{Q:Unit->Shared->Prop}(I:qy X pins σ H s)(hs:X.stack=X.env::X.outer)(hf:X.env.frame=some X.env.locals)(hx:X.ex=[])(L:mD X.s₀.heap s.heap H a C tr)
 (h:∀h' T,Un X.fs [] X.H₀ H X.s₀.heap h'->cH X.prog X.w H h'->mD X.s₀.heap h' H a C (some T)->Q () { s with heap:=h' }):wpAny M X.A (leaving X.env (.ref a)) Q E s:=by
 have L0:=L;obtain⟨new,free,oe,vs,b0,g,hc,hd,h0,J⟩:=L0;have j:s.heap.FunFrames (PySem.W.hideAll s.heap (aJ a tr (aa X.stack))) X.stack:=Cm I.stack λenv g b hb=>Ac _ (Af _ (iG g hb));have st:(PySem.W.hideAll s.heap (aJ a tr (aa X.stack))).StaysIn s.heap:=λb o e=>B8 _ e;have l:(PySem.W.hideAll s.heap (aJ a tr (aa X.stack))).get? a=none:=Bu _ Ah;have U:X.A.frames=some (X.env::X.outer):=by rw[<-hs];exact I.ok.frames
 have go:∀h',Heap.LeftW (PySem.W.hideAll s.heap (aJ a tr (aa X.stack))) (X.env::X.outer) a (.ref C) b0 s.heap h'->Q () { s with heap:=h' }:=λh' ⟨k1,k2,k3,k4⟩=>by obtain⟨u,p,T,_,n1,n2,ne,r,t,oT,ts,e1,e2,e3,e4,e5,e6,e7,e8⟩:=iD I hs hx new free (by intro T e;subst e;exact⟨J.2.1,J.2.2.1⟩) k1 (by rw[hs];rw[hs] at k2;exact k2) k3.at k4;exact h h' T u p ⟨new,free,r,t,b0,e1,e2,e4,e3,e5,n1,n2,ne,oT,ts,e6,e7,e8⟩
 have nT:∀T,tr=some T->(PySem.W.hideAll s.heap (aJ a tr (aa X.stack))).get? T=none:=λT e=>by subst e;exact Bu _ (Ac _ (Aq _ (by simp)))
 generalize PySem.W.hideAll s.heap (aJ a tr (aa X.stack))=base at j st l go nT;rw[hs] at j;cases tr with
 |none=>exact wpAny_leaving_firstW U j hf g st l hd J h0 (by rw[hc];exact go)
 |some T=>
  obtain⟨h1,_,_,a1,oT,ts,hT,a2,h3⟩:=J;exact wpAny_leaving_nextW U j hf ⟨oe,vs,T,oT,ts,g,⟨hc,h0⟩,hd,h1,nT T rfl,a1,hT,a2,h3⟩ st l go
end
def yn(P:Program)(w:World):tI:=λouter H s E e s'=>∃a C T H',e=.ref a/\s'.os=s.os/\AllBare s'.gens/\Un (aa outer) [] H H' s.heap s'.heap/\cH P w H' s'.heap/\mD s.heap s'.heap H' a C (some T)/\E (.ref C) none H'/\0<s'.toks
def oq(X:Cx)(a:Addr):Prop:=a≠X.env.locals/\(∀x c,X.env.cells.lookup x=some c->c≠a)/\∀p∈X.pn,p.1≠a
abbrev X1:=St->Value->Hp->Prop
def a6(X:Cx)(E1:X1):Prop:=∀(pins:List (Addr×Obj)) (σ:St) (H:Hp) (s:Shared) (a C:Addr) (tr:Option Addr),qy X pins σ H s->mD X.s₀.heap s.heap H a C tr->oq X a->(∀T,tr=some T->oq X T)->E1 σ (.ref C) H->X.xe (.ref a) s
section
variable {T:Addr}{tr:Option Addr}{E1:X1}
theorem qy.apart(I:qy X pins σ H s)(h:s.heap.get? b=none):oq X b:=by
 refine⟨λe=>?_,λx c e z=>?_,λp U z=>?_⟩
 ·obtain⟨m,⟨o,_,_,J,_⟩,_⟩:=I.loc;rw[<-e,h] at J;cases J
 ·obtain⟨v,o,J,_⟩:=I.cell x c e;rw[z,h] at J;cases J
 ·obtain⟨e,_⟩:=I.pin p (Aq _ U);rw[z,h] at e;cases e
theorem qy.news(I:qy X pins σ H s)(J:X.ex=[])(h:s.heap.get? b=none):X.s₀.heap.get? b=none:=by
 cases q:X.s₀.heap.get? b with
 |none=>rfl
 |some o=>
  obtain⟨U,e⟩:=I.base.there b o q (by rw[J];simp);rw[h] at e;cases e
theorem a6.pass(t:a6 X E1)(U:X.ex=[]){e:Value}(I:qy X pins σ H s)(h:yn X.prog X.w X.stack H s (λc _ H'=>E1 σ c H') e s'):X.xe e s':=by obtain⟨a,C,T,H',rfl,j,l,u,J,⟨new,free,o,p,r,he,hc,hd,h0,h1,g,fT,rest⟩,q,a1⟩:=h;have I':qy X pins σ H' s':=I.call' (ch:=[]) j u J l (λb z=>absurd z (by simp));exact t pins σ H' s' a C (some T) I' ⟨I.news U new,free,o,p,r,he,hc,hd,h0,h1,I.news U g,fT,rest⟩ (I.apart new) (λT' e=>by cases e;exact I.apart g) q
theorem acb{k:Nat}{Q:VK}{vs:List V}(F:aW X.prog X.w X.K X.mg X.base (yn X.prog X.w) k f fd ps sp)(U:k8 k X.A)(g:bz X.K fd ps [])(j:a6 X E1)(l:X.ex=[])
 (I:qy X pins σ H s) (r:zn vs us) (h:sp vs H Q (λc _ H'=>E1 σ c H')):wpAny (model X.prog X.w) X.A (call (.ref f) us) (EP X pins σ Q) X.xe s:=by
 have o:(us++[]).length=ps.length:=by rw[AX,<-r.length];exact F.len _ _ _ _ h
 refine wpAny_call (codeAny_mono (F.run X.A X.stack s H ⟨us,[]⟩ us vs Q _ U I.env0 (by have:=g s us I.kIn o;rw[AX] at this;exact this) r h) λr t J=>?_);cases r with
 |error e=>exact j.pass l I J
 |ok p=>
  cases p with|ret u=>exact I.after J|next=>exact False.elim J|brk=>exact False.elim J|cont=>exact False.elim J
end
def aid(sp:Sp)(E1:X1)(t:TA):TE:=λσ H Q=>t σ H λvs H1=>sp vs H1 Q λc _ H'=>E1 σ c H'
section
variable {k:Nat}{E1:X1}
theorem og(F:aW X.prog X.w X.K X.mg X.base (yn X.prog X.w) k f fd ps sp)(l:k8 k X.A)(o:Gl X x)(C:X.mg x=some (.ref f))(T:PySem.W.keepIn X.K (.ref f)=true)(hb:bz X.K fd ps [])(ht:a6 X E1)(hx:X.ex=[])
 (ha:PA X (e::es) t) (U:Ed x:=by decide) (he:Eb e es X:=by rfl) (g:Ec pos es X:=by rfl):
 PE X (.Call (.Name x p) (e::es) [] pos) (aid sp E1 t):=by
 intro J s σ H Q I h;refine wpAny_Call_Name_kw (fD I o C ?_ U);refine PySem.W.callWith_K (h₀:=X.base) I.ok.mod.kin T (ki (ha pos J s σ H _ I h) λus s1 ⟨vs,H1,j,r,q⟩=>⟨j.kIn,?_⟩) he g;exact acb F l hb ht hx j r q
end
theorem aa0{P:Program}{w:World}{K:Ae}{N:List Str}{E:XK}:
 a6 (bq (yn P w) P w K mg base N fx scope f cd A outer s H E) λ_ c H'=>E c none H':=by
 intro U j H' l a C tr I L _ _ q;refine ab5 (X:=bq (yn P w) P w K mg base N fx scope f cd A outer s H E) I rfl rfl rfl L λo T u J g=>?_;exact⟨a,C,T,H',rfl,I.os,I.bare,u,J,g,q,I.tk⟩
structure uU(K:Ae)(C:Addr):Prop where
 ex:∃(nm q:Str) (N:Addr) (bs bm:List Value) (hdct:Bool) (sn:List Str) (sub:List Value) (ab:Bool) (col:Option Bool) (dd:Option Addr) (k0 k1 k2 k3 k5:Option Value) (B Bn newId nid initId inN:String) (bmB bmN:List Value),
  ExcBaseFacts Bn newId inN bmN/\bmB.contains (.type Bn)=true/\ExcBaseFacts B nid initId bmB/\
  ∀h,K.In h->h.get? C=some (excClassObj nm q C N bs bm hdct sn sub ab col dd k0 k1 k2 k3 k5 newId)/\(∃mN,h.Ns N mN/\mN "__init__"=none)/\OwnTail h bmB bm
theorem ae1{K:Ae}{U o:List Value}{B T J p I r:String}(q:PySem.W.excIn K C U J=true)(Fn:ExcBaseFacts T J r o)(a1:U.contains (.type T)=true)(F:ExcBaseFacts B p I U):uU K C:=by
 unfold PySem.W.excIn at q;split at q
 ·rename_i dd cd sl ho;split at q
  ·rename_i C' bm k0 k1 k2 k3 n k5 hm hs;simp only[AK,beq_iff_eq,BO] at q;obtain⟨⟨⟨⟨⟨rfl,rfl⟩,g⟩,ht⟩,j⟩,t⟩:=q;obtain⟨nm,bs,a4,ns,qn,hd,sn,sub,ab,a2,del⟩:=cd;dsimp only at hm g j t;subst hm g;have a3:sl=#[k0,k1,k2,k3,some (.builtin n),k5]:=by obtain⟨l⟩:=sl;simp only at hs;rw[hs]
   subst a3;exact⟨nm,qn,ns,bs,bm,hd,sn,sub,ab,a2,dd,k0,k1,k2,k3,k5,B,T,n,p,I,r,U,o,Fn,a1,F,λh X=>⟨X _ _ ho,⟨_,.of_isNs (PySem.W.isNs_of_in X j),PySem.W.nsMap_none_of_in X j t⟩,PySem.W.tail_of_in X ht⟩⟩
  ·cases q
 ·cases q
def afq(C:Addr)(E1:X1)(t:TA):TS:=λ_ σ H=>t σ H λvs H1=>vs.length<=sizeLine/\E1 σ (.ref C) H1
theorem xA{E1:X1}(c:uU X.K C)(hg:Gl X x)(U:X.mg x=some (.ref C))(hc:X.calm=true)(ht:a6 X E1)(hx:X.ex=[])(ha:PA X (e::es) t)(a1:Ed x:=by decide)
 (he:Eb e es X:=by rfl) (a2:Ec fm es X:=by rfl):
 PS X (.Raise (some (.Call (.Name x np) (e::es) [] fm)) none pos) (afq C E1 t):=by
 intro J s σ H D I h;obtain⟨nm,q,N,bs,bm,hdct,sn,sub,ab,col,dd,k0,k1,k2,k3,k5,B,Bn,a3,ag,l,al,aL,ba,Fn,a4,F,all⟩:=c.ex;obtain⟨_,⟨mN,hn,a5⟩,ow⟩:=all X.base I.ok.mod.kin;refine wpAny_Raise_call_subU (C:=C) (nm:=nm) (q:=q) (N:=N) (bs:=bs) (bm:=bm) (hdct:=hdct) (sn:=sn) (sub:=sub) (ab:=ab) (col:=col) (dd:=dd) (k0:=k0) (k1:=k1) (k2:=k2) (k3:=k3) (k5:=k5) Fn a4 F (mN:=mN) (ow.hasType F.hasBase) (I.ok.hd hc)
  (by rw[he];show(false||(backTo fm (starEach es X.env)).any (·.1))=false;rw[a2];rfl) a5 (fD I hg U ⟨rfl,?_⟩ a1)
 rw[he];have j:=ha fm J s σ H _ I h;rw[he] at j;refine El (ki j λus s2 ⟨vs,p,g,r,hl,q1⟩=>⟨rfl,by rw[<-r.length];exact hl,(all _ g.kIn).1,hn.keeps g.bk,(all _ g.kIn).2.2,λh' a U=>?_⟩);obtain⟨t0,e1,_,_⟩:=U.there;have I2:qy X J σ p { s2 with heap:=h' }:=g.kept (t':=s2.toks) U.keeps;have fr:p a=none:=by
  cases z:p a with
  |none=>rfl
  |some u=>
   obtain⟨o,eo⟩:=(g.hok a u z).get;rw[U.new] at eo;cases eo
 exact ht J σ p _ a C none I2 ⟨g.news hx U.new,fr,_,_,.ref t0,e1,rfl,rfl,rfl,rfl⟩ (g.apart U.new) (λT z=>nomatch z) q1
section
variable {T:Addr}{tr:Option Addr}
theorem gG(I:qy X pins σ H s)(C:X.ex=[])(hf:X.stack=X.env::X.outer)(un:Un X.fs [] X.H₀ H X.s₀.heap h')(hok:cH X.prog X.w H h')
 (k1:(PySem.W.hideAll s.heap (aJ a tr (aa X.stack))).StaysIn h') (l:∀b o,s.heap.get? b=some o->(∀vs,o.data≠.fields vs)->∃J,h'.get? b=some { o with slots:=J })
 (pa:∀p∈X.pn++pins,p.1≠a/\∀T,tr=some T->p.1≠T):qy X pins σ H { s with heap:=h' }:=by
 have cl:∀{c:Addr} {v:Option Value},s.heap.IsCell c v->h'.IsCell c v:=λ{c v} ⟨o,U,hd⟩=>by
  obtain⟨J,e⟩:=l c o U λvs q=>by rw[hd] at q;cases q
  exact⟨_,e,hd⟩
 obtain⟨m,hn,hl⟩:=id I.loc;have g:h'.Ns X.env.locals m:=by
  obtain⟨o,es,ep,U,hd,r⟩:=hn;obtain⟨J,e⟩:=l _ o U λvs q=>by rw[hd] at q;cases q
  exact⟨_,es,ep,e,hd,r⟩
 refine⟨I.ok,I.os,I.bare,by rw[C];exact un,⟨m,g,λi x v e1 e2 e3=>?_⟩,λx c e=>?_,I.free,I.freeC,λp j=>?_,hok,I.len,I.tk⟩
 ·obtain⟨u,ru,lk⟩:=hl i x v e1 e2 e3;refine⟨u,ru,?_⟩;rcases lk with lk|⟨k,c,e,z⟩
  ·exact .inl lk
  ·exact .inr ⟨k,c,e,cl z⟩
 ·obtain⟨v,z⟩:=I.cell x c e;exact⟨v,cl z⟩
 ·obtain⟨e,n,ne,t,d⟩:=I.pin p j;refine⟨k1 _ _ (Cu _ e λhm=>?_),n,ne,t,d⟩;rcases Ap.mp hm with z|z
  ·exact(pa p j).1 z
  ·rcases Ao.mp z with z|z
   ·exact(pa p j).2 p.1 (by simpa using z) rfl
   ·rcases Ap.mp (I.stkSub _ z) with z|z
    ·exact ne z
    ·exact t z
theorem aca{Q:Unit->Shared->Prop}(I:qy X pins σ H s)(hs:X.stack=X.env::X.outer)(hf:X.env.frame=some X.env.locals)(hx:X.ex=[])(L:mD X.s₀.heap s.heap H a C tr)
 (pa:∀p∈X.pn++pins,p.1≠a/\∀T,tr=some T->p.1≠T)
 (h:∀h' T,qy X pins σ H { s with heap:=h' }->mD X.s₀.heap h' H a C (some T)->(∀p∈X.pn++pins,p.1≠T)->Q () { s with heap:=h' }):
 wpAny M X.A (noteFrame (.ref a) X.env) (λ_ j=>wpAny M X.A (setFlight (.ref a) none) Q E j) E s:=by
 obtain⟨new,free,oe,vs,b0,g,hc,hd,h0,J⟩:=id L;have r:∀T,tr=some T->X.s₀.heap.get? T=none/\H T=none:=by intro T e;subst e;exact⟨J.2.1,J.2.2.1⟩
 have fr:s.heap.FunFrames (PySem.W.hideAll s.heap (aJ a tr (aa X.stack))) X.stack:=Cm I.stack λenv g b hb=>Ac _ (Af _ (iG g hb));have st:(PySem.W.hideAll s.heap (aJ a tr (aa X.stack))).StaysIn s.heap:=λb o e=>B8 _ e;have na:(PySem.W.hideAll s.heap (aJ a tr (aa X.stack))).get? a=none:=Bu _ Ah;have t:X.A.frames=some (X.env::X.outer):=by rw[<-hs];exact I.ok.frames
 have nT:∀T,tr=some T->(PySem.W.hideAll s.heap (aJ a tr (aa X.stack))).get? T=none:=λT e=>by subst e;exact Bu _ (Ac _ (Aq _ (by simp)))
 have go:∀h',Heap.NotedW (PySem.W.hideAll s.heap (aJ a tr (aa X.stack))) (X.env::X.outer) a (.ref C) b0 (rawInt X.env.locals) s.heap h'->wpAny M X.A (setFlight (.ref a) none) Q E { s with heap:=h' }:=λh' ⟨k1,k2,k3,k4⟩=>by
  rw[<-hs] at k2;obtain⟨u,a4,T,a5,n1,n2,ne,ag,al,oT,ts,e1,e2,e3,e4,e5,e6,e7,e8⟩:=iD I hs hx new free r k1 k2 k3 k4;have I2:qy X pins σ H { s with heap:=h' }:=gG I hx hs u a4 k1 k4 pa;have paT:∀p∈X.pn++pins,p.1≠T:=λp U=>by obtain⟨e,_⟩:=I.pin p U;exact a5 p.1 _ e (pa p U).2
  have aL:h'.FunFrames (PySem.W.hideAll h' (aJ a (some T) (aa X.stack))) X.stack:=Cm I2.stack λenv g b hb=>Ac _ (Af _ (iG g hb));refine wpAny_setFlight_noneW (s:={ s with heap:=h' }) (base:=PySem.W.hideAll h' (aJ a (some T) (aa X.stack))) (l:=X.stack) (e:=a) (cls:=.ref C) (a0:=b0) (fl:=rawInt X.env.locals) (λb o e=>B8 _ e) aL
   ⟨ag,al,T,oT,ts,e1,⟨e2,e3⟩,e4,e5,Bu _ (Ac _ (Aq _ (by simp))),ne,e6,e7,e8⟩ λh3 j1 j2 j3 j4=>?_
  have a1:∀b o,h'.get? b=some o->(∀vs,o.data≠.fields vs)->∃sl,h3.get? b=some { o with slots:=sl }:=λb o e q=>⟨o.slots,j4 b o e q⟩;obtain⟨u',a2,T',a3,ba,bb,bc,bd,bf,bg,bh,f1,f2,f3,f4,f5,f6,f7,f8⟩:=iD (s:={ s with heap:=h' }) (tr:=some T) I2 hs hx new free (λT0 e=>by cases e;exact⟨n1,n2⟩) j1 j2 j3.at a1;have I3:qy X pins σ H { s with heap:=h3 }:=gG (s:={ s with heap:=h' }) (h':=h3) (tr:=some T) I2 hx hs u' a2 j1 a1 λp U=>⟨(pa p U).1,λT0 e=>by cases e;exact paT p U⟩;refine h h3 T' I3 ⟨new,free,bd,bf,b0,f1,f2,f4,f3,f5,ba,bb,bc,bg,bh,f6,f7,f8⟩ λp U=>?_;obtain⟨e,_⟩:=I2.pin p U;exact a3 p.1 _ e λT0 z=>by cases z;exact paT p U
 generalize PySem.W.hideAll s.heap (aJ a tr (aa X.stack))=base at fr st na go nT;rw[hs] at fr;cases tr with
 |none=>
  unfold noteFrame;simp only[hf];refine Aa (wpAny_field g hd J ?_);rw[AD (by decide)];exact wpAny_entryW t fr hf g st na hd (Array.getElem?_eq_some_iff.mp J).1 h0 (by rw[hc];exact go)
 |some T=>
  obtain⟨h1,_,_,bi,oT,ts,hT,bj,h3⟩:=J;exact wpAny_noteFrame_onW t fr hf ⟨oe,vs,T,oT,ts,g,⟨hc,h0⟩,hd,h1,nT T rfl,bi,hT,bj,h3⟩ st na go
end
abbrev Cx.tr(X:Cx)(pn:List (Addr×Obj))(xe:Value->Shared->Prop):Cx:={ X with pn:=pn,xe:=xe }
abbrev Cx.hnd(X:Cx)(a:Addr):Cx:={ X with A:=X.A.mark (some (.ref a)),calm:=false,xe:=λ_ _=>False }
theorem Cx.Ok.tr(ok:X.Ok)(pn:List (Addr×Obj))(xe:Value->Shared->Prop):(X.tr pn xe).Ok:=
 ⟨ok.mod,ok.kind,ok.glob,ok.blt,ok.above,ok.inj,ok.has,ok.cab,ok.hd,ok.frames,ok.stk,ok.exf,ok.bs,ok.bsz,ok.noex,ok.exfs,ok.funs,ok.frf⟩
theorem Cx.Ok.untr{pn:List (Addr×Obj)}(ok:(X.tr pn xe).Ok):X.Ok:=
 ⟨ok.mod,ok.kind,ok.glob,ok.blt,ok.above,ok.inj,ok.has,ok.cab,ok.hd,ok.frames,ok.stk,ok.exf,ok.bs,ok.bsz,ok.noex,ok.exfs,ok.funs,ok.frf⟩
theorem Cx.Ok.hnd(ok:X.Ok)(a:Addr):(X.hnd a).Ok:=
 ⟨ok.mod,ok.kind,ok.glob,ok.blt,ok.above,ok.inj,ok.has,ok.cab,(λz=>nomatch z),ok.frames,ok.stk,ok.exf,ok.bs,ok.bsz,ok.noex,ok.exfs,ok.funs,ok.frf⟩
section
variable {T:Addr}
theorem qy.tr(I:qy X pins σ H s)(xe:Value->Shared->Prop):qy (X.tr (X.pn++pins) xe) [] σ H s:=⟨I.ok.tr _ _,I.os,I.bare,I.base,I.loc,I.cell,I.free,I.freeC,(λp J=>I.pin p (by simpa using J)),I.hok,I.len,I.tk⟩
theorem qy.untr{J:List (Addr×Obj)}(I:qy (X.tr (X.pn++pins) xe) J σ H s):qy X pins σ H s:=⟨I.ok.untr,I.os,I.bare,I.base,I.loc,I.cell,I.free,I.freeC,(λp U=>I.pin p (Aq _ U)),I.hok,I.len,I.tk⟩
theorem qy.hnd(I:qy X pins σ H s)(a:Addr):qy (X.hnd a) pins σ H s:=⟨I.ok.hnd a,I.os,I.bare,I.base,I.loc,I.cell,I.free,I.freeC,I.pin,I.hok,I.len,I.tk⟩
theorem qy.unhnd(ok:X.Ok)(I:qy (X.hnd a) pins σ H s):qy X pins σ H s:=⟨ok,I.os,I.bare,I.base,I.loc,I.cell,I.free,I.freeC,I.pin,I.hok,I.len,I.tk⟩
theorem SP.untr{D:i8}{f:Flow}(h:SP (X.tr (X.pn++pins) xe) [] D f s'):SP X pins D f s':=by
 cases f with
 |next=>obtain⟨I,U,J,q⟩:=h;exact⟨I,U,J.untr,q⟩
 |brk=>obtain⟨I,U,J,q⟩:=h;exact⟨I,U,J.untr,q⟩
 |cont=>obtain⟨I,U,J,q⟩:=h;exact⟨I,U,J.untr,q⟩
 |ret u=>obtain⟨v,I,U,J,r,q⟩:=h;exact⟨v,I,U,J.untr,r,q⟩
theorem dF{n:Str}{Q:Unit->Shared->Prop}(I:qy X pins σ H s)(hN:X.N.Nodup)(hi:X.N[i]?=some n)(hk:X.env.scope.names.lookup n=some .local)
 (h:∀s',qy X pins (σ.set i none) H s'->Q () s'):wpAny M A (do bindName X.env n .none;unbindBehindTheSuite X.env n pos) Q E s:=by
 obtain⟨m,hn,hl⟩:=id I.loc;have g:(X.env.scope.kind==.class||(X.env.scope.kind==.module&&X.env.locals != X.env.globals))=false:=by rw[I.ok.kind];rfl
 refine wpAny_nameGoes_keeps hk hn g λh' v C J=>h _ ?_;obtain⟨oL,_,_,a1,_⟩:=id hn;have wu:∀b o,X.s₀.heap.get? b=some o->b≠X.env.locals:=λb o e=>A1 (AH (At e) I.ok.above);refine⟨I.ok,I.os,I.bare,⟨λb o e n T l=>?_,λb o e n T l=>?_,I.base.free,λb o e l=>?_,I.base.tups,I.base.frzs,I.base.tbls⟩,⟨_,C,λj y v' U t e3=>?_⟩,λy c e=>?_,I.free,I.freeC,λp hp=>?_,λb ob e=>?_,by simpa using I.len,by first|exact I.tk|exact C3 _⟩
 ·exact(J.2 b (wu b o e)).trans (I.base.keep b o e n T l)
 ·obtain⟨sl,U⟩:=I.base.slot b o e n T l;exact⟨sl,(J.2 b (wu b o e)).trans U⟩
 ·obtain⟨o',U⟩:=I.base.there b o e l;exact⟨o',(J.2 b (wu b o e)).trans U⟩
 ·by_cases hj:j=i
  ·subst hj;have r:j<σ.length:=by rw[I.len];exact(AL.mp hi).1
   rw[BE r] at t;cases t
  ·rw[Bp (AW hj)] at t;obtain⟨u',r',q⟩:=hl j y v' U t e3;refine⟨u',r',?_⟩;rcases q with⟨k,e⟩|⟨k,c,e,z⟩
   ·refine .inl ⟨k,?_⟩;have:y≠n:=λe=>hj (jO hN U (e▸hi));simp[this,e]
   ·exact .inr ⟨k,c,e,z.sameBut J (I.cne y c e)⟩
 ·obtain⟨w',z⟩:=I.cell y c e;exact⟨w',z.sameBut J (I.cne y c e)⟩
 ·obtain⟨e,n,ne,nf,d⟩:=I.pin p hp;exact⟨(J.2 p.1 ne).trans e,n,ne,nf,d⟩
 ·refine(I.hok b ob e).stay (λc w' hc q=>(J.2 c ?_).trans q) (λ_ q=>q) λ_ _ q=>q;rintro rfl;rcases hc with z|z
  ·rw[<-z,I.free] at e;cases e
  ·rw[I.free] at z;cases z
theorem yq{J:Obj}(I:qy X pins σ H s)(C:X.ex=[])(new:X.s₀.heap.get? a=none)(free:H a=none)(U:s.heap.get? a=some J)(ap:oq X a)(pa:∀p∈X.pn++pins,p.1≠a):qy X pins σ (upd H a (.frz J (.own 0))) s:=by
 refine⟨I.ok,I.os,I.bare,⟨I.base.keep,I.base.slot,λb o e n l=>?_,I.base.there,λb g e=>?_,λb o u e=>?_,λb r e=>?_⟩,I.loc,I.cell,?_,λx c e=>?_,λp j=>?_,λb u e=>?_,I.len,I.tk⟩
 ·rw[qp (λz=>by rw[z,new] at e;cases e)];exact I.base.free b o e n l
 ·have:=I.base.tups b g e;rw[qp (λz=>by rw[z,free] at this;cases this)];exact this
 ·have:=I.base.frzs b o u e;rw[qp (λz=>by rw[z,free] at this;cases this)];exact this
 ·obtain⟨more,this⟩:=I.base.tbls b r e;exact⟨more,by rw[qp (λz=>by rw[z,free] at this;cases this)];exact this⟩
 ·rw[qp (AW ap.1)];exact I.free
 ·rw[qp (ap.2.1 x c e)];exact I.freeC x c e
 ·obtain⟨e,n,ne,t,d⟩:=I.pin p j;exact⟨e,by rw[qp (pa p j)];exact n,ne,t,d⟩
 ·by_cases z:b=a
  ·subst z;rw[zq] at e;cases e;exact⟨U,J,U⟩
  ·rw[qp z] at e;exact(I.hok b u e).stay (λ_ _ _ q=>q) (λc q=>by rw[qp (λz=>by rw[z,free] at q;cases q)];exact q) λc g q=>by rw[qp (λz=>by rw[z,free] at q;cases q)];exact q
theorem uQ{Q:Unit->Shared->Prop}(I:qy X pins σ H s)(hs:X.stack=X.env::X.outer)(hx:X.ex=[])(L:mD X.s₀.heap s.heap H a C (some T))
 (pa:∀p∈X.pn++pins,p.1≠a/\p.1≠T) (h:∀h' g,qy X pins σ H { s with heap:=h' }->mD X.s₀.heap h' H a C (some g)->Q () { s with heap:=h' }):wpAny M A (setFlight (.ref a) none) Q E s:=by
 obtain⟨new,free,oe,j,b0,r,hc,hd,h0,h1,n1,n2,ne,oT,ts,hT,t,h3⟩:=L;have a1:s.heap.FunFrames (PySem.W.hideAll s.heap (aJ a (some T) (aa X.stack))) X.stack:=Cm I.stack λenv r b hb=>Ac _ (Af _ (iG r hb));refine wpAny_setFlight_noneW (base:=PySem.W.hideAll s.heap (aJ a (some T) (aa X.stack))) (l:=X.stack) (e:=a) (cls:=.ref C) (a0:=b0) (fl:=.none) (λb o e=>B8 _ e) a1
  ⟨oe,j,T,oT,ts,r,⟨hc,h0⟩,hd,h1,Bu _ (Ac _ (Aq _ (by simp))),ne,hT,t,h3⟩ λh3 j1 j2 j3 j4=>?_
 have J:∀b o,s.heap.get? b=some o->(∀j,o.data≠.fields j)->∃sl,h3.get? b=some { o with slots:=sl }:=λb o e q=>⟨o.slots,j4 b o e q⟩;obtain⟨u',U,g,ba,a2,a3,a4,a5,ag,al,aL,f1,f2,f3,f4,f5,f6,f7,f8⟩:=iD (tr:=some T) I hs hx new free (λT0 e=>by cases e;exact⟨n1,n2⟩) j1 j2 j3.at J;exact h h3 g (gG (tr:=some T) I hx hs u' U j1 J λp hp=>⟨(pa p hp).1,λT0 e=>by cases e;exact(pa p hp).2⟩) ⟨new,free,a5,ag,b0,f1,f2,f4,f3,f5,a2,a3,a4,al,aL,f6,f7,f8⟩
end
def Dh(i:Nat)(D:i8):i8 where
 nx:=λσ H=>D.nx (σ.set i none) H
 rt:=D.rt
 bk:=λσ H=>D.bk (σ.set i none) H
 ct:=λσ H=>D.ct (σ.set i none) H
def abf(K:Ae)(J:Addr)(i:Nat)(th:TS)(D:i8):X1:=λσ c H=>∃C,c=.ref C/\PySem.W.exmOne K (.ref C) (.ref J)=some true/\∀a I,H a=none->I.cls=.ref C->th (Dh i D) (σ.set i (some (.ref a))) (upd H a (.frz I (.own 0)))
def apc(K:Ae)(I:Addr)(i:Nat)(tb:X1->TS)(th:TS):TS:=λD σ H=>tb (abf K I i th D) D σ H
theorem aj6{Dc:Addr}{n:Str}{a2:Pos}{l:List Stmt}{t:Stmt}{tb:X1->TS}{th:TS}(hs:X.stack=X.env::X.outer)(hf:X.env.frame=some X.env.locals)(hx:X.ex=[])(hN:X.N.Nodup)(hi:X.N[i]?=some n)
 (hk:X.env.scope.names.lookup n=some .local) (hg:Gl X x) (hm:X.mg x=some (.ref Dc)) (hb:∀(pn:List (Addr×Obj)) (xe:Value->Shared->Prop) (E1:X1),a6 (X.tr pn xe) E1->fG (X.tr pn xe) body (tb E1)) (hh:∀a,fG (X.hnd a) (t::l) th)
 (a5:Ed x:=by decide):PS X (.Try body [.ExceptHandler (some (.Name x np)) (some n) (t::l) a2] [] [] pos) (apc X.K Dc i tb th):=by
 intro U s σ H D I h;have tk:a6 (X.tr (X.pn++U) (λe s'=>∃g o H' a C tr,e=.ref a/\qy X U o H' s'/\mD X.s₀.heap s'.heap H' a C tr/\oq (X.tr (X.pn++g) X.xe) a/\(∀p∈X.pn++U,p.1≠a)/\(∀T,tr=some T->∀p∈X.pn++U,p.1≠T)/\abf X.K Dc i th D o (.ref C) H'))
  (abf X.K Dc i th D):=λg o H' s' a C tr I' L ap ag q=>⟨[],o,H',a,C,tr,rfl,I'.untr,L,⟨ap.1,ap.2.1,λp j=>ap.2.2 p (by have j:p∈X.pn++[]:=j;rw[AX] at j;exact Aq _ j)⟩,ap.2.2,λT e=>(ag T e).2.2,q⟩
 refine wpAny_Try_except (AQ (hb _ _ _ tk [] s σ H D (I.tr _) h) (λf s1 h1=>?_) λe s1 h1=>?_)
 ·have h2:=SP.untr h1;cases f with|next=>exact wpAny_execs_nil h2|brk=>exact h2|cont=>exact h2|ret u=>exact h2
 ·obtain⟨g,o,H',a,C,tr,rfl,I1,L,ap,pa,paT,C',ec,em,q⟩:=h1;cases ec;refine aca I1 hs hf hx L (λp j=>⟨pa p j,λT e=>paT T e p j⟩) λh' T I2 L2 a4=>?_;refine wpAny_handleBy_cons (codeAny_handlers_test ?_) (by intro q;cases q);refine fD (X:=X.hnd a) (I2.hnd a) hg hm ?_ a5;obtain⟨_,_,oe,vs,a0,he,hc,_⟩:=id L2;have LT:PySem.W.Looks (model X.prog X.w) h' (typeOf (.ref a)) (.ref C):=hc▸(PySem.W.Looks.ld he).andThen .now;refine PySem.W.exm_one (K:=X.K) I2.kIn LT em _ _ _ _ (λ_ _ e=>e) ?_;refine codeAny_handlers_suite_as ?_;refine uQ I2 hs hx L2 (λp j=>⟨pa p j,a4 p j⟩) λh3 T' I3 L3=>?_;obtain⟨new,free,al,bb,a3,aL,ba,_⟩:=L3;have I4:=yq I3 hx new free aL ⟨ap.1,ap.2.1,λp j=>pa p (Aq _ j)⟩ pa;refine cj (X:=X.hnd a) (I4.hnd a) hN hi (.inl hk) (v:=.ref a) (u:=.ref a) rfl (λs5 I5=>?_) (.inr hk);refine AQ (hh a U s5 _ _ (Dh i D) I5 (q a al free ba)) (λf s6 h6=>?_) λe s6 z=>z.elim;cases f with
  |next=>obtain⟨a1,H6,J,q6⟩:=h6;exact dF (J.unhnd I.ok) hN hi hk λs7 I7=>⟨_,H6,I7,q6⟩
  |brk=>obtain⟨a1,H6,J,q6⟩:=h6;exact dF (J.unhnd I.ok) hN hi hk λs7 I7=>⟨_,H6,I7,q6⟩
  |cont=>obtain⟨a1,H6,J,q6⟩:=h6;exact dF (J.unhnd I.ok) hN hi hk λs7 I7=>⟨_,H6,I7,q6⟩
  |ret u=>obtain⟨v,a1,H6,J,r,q6⟩:=h6;exact dF (J.unhnd I.ok) hN hi hk λs7 I7=>⟨v,_,H6,I7,r,q6⟩
open PySem PySem.Spec PyProof.Rows PySem.W
structure XAt(K:Frag)(C:Addr):Prop where
 ga:findIn K (.ref C) "__getattribute__"=some (some (.builtin "BaseException.__getattribute__"))
 gt:findIn K (.ref C) "__getattr__"=some none
 cl:findIn K (.ref C) "__class__"=some (some (.builtin "object.__class__"))
 ge:specialIn K (.builtin "object.__class__") "__get__"=some (some (.builtin "getset_descriptor.__get__"))
 tk:takesIn K (.builtin "object.__class__")=some true
 mo:mroIn K C (.type "object")=some true
 be:subIn K (.ref C) (.type "BaseException")=some true
theorem act(self:Value):bindSpecial (.builtin "BaseException.__getattribute__") self=pure (.builtin "BaseException.__getattribute__",[self]):=by
 have J:withoutEnding? "BaseException.__getattribute__" "#opaque"=none:=by decide +kernel
 have I:withoutEnding? "BaseException.__getattribute__" "#data"=none:=by decide +kernel
 have U:builtinKind "BaseException.__getattribute__"=some .slot:=by decide +kernel
 simp only[bindSpecial,typeOf,builtinType,J,I,U];rfl
def mK(h:Heap)(a C:Addr):Prop:=∃o,h.get? a=some o/\o.cls=.ref C
theorem mK.type(I:mK h a C):Looks M h (typeOf (.ref a)) (.ref C):=by obtain⟨o,h1,h2⟩:=I;exact h2▸(Looks.ld h1).andThen .now
open Builtin.ObjectAttr in
theorem abg{K:Frag}(c:XAt K C)(X:K.In h):Looks M h (find (.ref a) (.ref C) "__class__") (.bind (.builtin "getset_descriptor.__get__") (.builtin "object.__class__")):=by have I:=looks_findIn (M:=M) X c.cl;have L2:=looks_specialIn (M:=M) X c.ge;have L3:=looks_takesIn (M:=M) X c.tk;refine I.andThen (L2.andThen ?_);exact(show Looks M h (dataDescriptor? (some (.builtin "object.__class__")) (some (.builtin "getset_descriptor.__get__"))) (some (.builtin "getset_descriptor.__get__",.builtin "object.__class__")) from L3.andThen .now).andThen (Looks.tag .now)
section
variable {w:World}{K:Frag}
open Builtin Builtin.ObjectAttr Builtin.Getset_descriptor in
theorem ai0{R:Result->Shared->Prop}{tp:Value}(X:K.In s.heap)(I:mK s.heap a C)(J:mroIn K C (.type "object")=some true)
 (h:R (.ok (.ret (.ref C))) s):codeAny (model prog w) A (.call (.builtin "getset_descriptor.__get__") ⟨[.builtin "object.__class__",.ref a,tp],[]⟩) R s:=by
 obtain⟨U,g,j,t,os⟩:=s;have l:=I.type (M:=model prog w);have o:=looks_mroIn (M:=model prog w) X J;refine codeAny_call_builtin KF.slot_gs.plain KF.entry_gs (KF.slot_gs.check _ _ _ _ _ _ _ _ KF.type_class (KF.args_gs _ _ _) ?_);unfold Builtin.«getset_descriptor.__get__» descrGet;rw[dga_obj];refine Aa (Ak ?_);unfold descrGetter descrCheckInstance descrNameAndClass isInstance;simp only[KF.owner_class]
 repeat lk
 refine⟨Code.quiet_builtin _ (by decide +kernel),codeAny_builtin KF.entry_class ?_⟩;unfold Builtin.«object.__class__» shownTypeOf
 repeat lk
 exact h
theorem zP{tk:Tok}{Q:Fin->Shared->Prop}(c:XAt K C)(X:K.In s.heap)(I:mK s.heap a C)(h:Q (.done (.ret (.ref C))) s):
 wpAny (model prog w) A (Builtin.«object.__getattribute__» ⟨[.ref a,.str "__class__" tk],[]⟩) Q E s:=by
 obtain⟨J,g,d,t,os⟩:=s;have U:=I.type (M:=model prog w);have j:=abg (M:=model prog w) (a:=a) c X;unfold Builtin.«object.__getattribute__»
 repeat (first|with_reducible refine wpAny_call ?_|lk)
 refine ai0 X I c.mo ?_
 repeat lk
 exact h
theorem xS{Q:Unit->Shared->Prop}{J:Value}(c:XAt K C)(X:K.In s.heap)(I:mK s.heap a C)(j:Q () s):wpAny (model prog w) A (checkBuiltinCall "BaseException.__getattribute__" ⟨[.ref a,J],[]⟩) Q E s:=by
 obtain⟨o,g,d,t,os⟩:=s;have p:=I.type (M:=model prog w);have r:=looks_subIn (M:=model prog w) X c.be;have l:builtinKind "BaseException.__getattribute__"=some .slot:=by decide +kernel
 have U:splitId "BaseException.__getattribute__"=some ("BaseException","__getattribute__"):=by decide +kernel
 have T:=F.args_bexc_ga (.ref a) J;simp only[checkBuiltinCall,l,U];refine Aa ?_;unfold isInstance
 repeat lk
 exact j
theorem aki{tk:Tok}(c:XAt K C)(X:K.In s.heap)(I:mK s.heap a C)(h:Q (.ref C) s):wpAny (model prog w) A (getAttrBy (.ref a) (.str "__class__" tk) false) Q E s:=by
 obtain⟨J,g,d,t,os⟩:=s;have U:=I.type (M:=model prog w);have j:=looks_findIn (M:=model prog w) X c.ga;have L2:=looks_findIn (M:=model prog w) X c.gt;have l:=act (.ref a);unfold getAttrBy
 repeat (first|with_reducible refine wpAny_call ?_|with_reducible refine wpAny_attempt ?_|lk)
 refine codeAny_call_builtin (by decide +kernel) F.entry_bexc_ga (xS c X I (zP c X I ?_));exact handed_on rfl h
theorem abc{Q:Option Value->Shared->Prop}(c:XAt K C)(X:K.In s.heap)(I:mK s.heap a C)(h:Q (some (.ref C)) { s with toks:=s.toks+1 }):wpAny (model prog w) A (getAttr? (.ref a) "__class__") Q E s:=by unfold getAttr? getAttrBy?;refine Aa (wpAny_mkText (Aa (wpAny_attempt (aki (s:={ s with toks:=s.toks+1 }) c X I ?_))));exact Ak h
end
theorem o5{K:Frag}(c:XAt K C)(J:(clsIn K C).isSome=true):KitX K (.ref a) (.ref C) (λh=>mK h a C) where
 ty:=λ_ _ _ I=>I.type
 it:=λ_ _ X _=>by
  unfold clsIn at J;split at J
  ·rename_i o p U g j;intro T Q' E' s' k q;unfold isType loadHead;exact Aa (wpAny_loadPart (k _ _ (X _ _ j)) (Ak q))
  ·cases J
 ne:=λh r dd t n sl X l=>by
  refine Bool.eq_false_iff.mpr λq=>?_;have e:C=r:=Value.ref.inj (beq_iff_eq.mp q);subst e;unfold clsIn at J;split at J
  ·rename_i o p U g j;have z:=(X _ _ j).symm.trans l;cases z
  ·cases J
 ca:=λX I k=>abc c X I k
def vY:V->Option Value
 |.ref D=>some (.ref D)
 |.ty T=>some (.type T)
 |_=>none
theorem qG{c:Value}(h:vY v=some c)(r:zm v u):u=c:=by cases v with|ref D=>cases h;exact r|ty T=>cases h;exact r|_=>cases h
theorem pZ:∀{vs:List V} {us cs:List Value},vs.map vY=cs.map some->zn vs us->us=cs
 |[],_,[],_,.nil=>rfl
 |[],_,_::_,h,_=>by cases h
 |_::_,_,[],h,_=>by cases h
 |v::vs,_,c::cs,h,.cons r t=>by rw[AA,AA] at h;obtain⟨h1,h2⟩:=A4 h;rw[qG h1 r,pZ h2 t]
structure XHd(K:Ae)(C:Addr):Prop where
 at_:XAt K C
 cls:(PySem.W.clsIn K C).isSome=true
def aah(K:Ae)(H:Hp)(a C:Addr):Prop:=∃I,H a=some (.frz I (.own 0))/\I.cls=.ref C
def ahu(K:Ae):List V->Hp->VK->Prop:=λxs H Q=>∃a C v,xs=[.ref a,v]/\aah K H a C/\XHd K C/\
 ((∃u b,vY v=some u/\PySem.W.kitOne K (.ref C) u=some b/\Q (.bl b) H)\/(∃tp I us b,v=.ref tp/\cG K H tp I/\I.map vY=us.map some/\PySem.W.kitAny K (.ref C) us=some b/\Q (.bl b) H))
theorem jU :jt X (.builtin "isinstance") (ahu X.K):=by
 intro U s σ H xs us Q I r h;obtain⟨a,C,v,rfl,⟨g,l,p⟩,hd,h⟩:=h;obtain⟨t,T,rfl,r1,j⟩:=zn.two r;cases (show t=Value.ref a from r1);obtain⟨he,_⟩:=(show x4 X.prog X.w H s.heap a (.frz g (.own 0)) from I.hok a _ l);have ex:mK s.heap a C:=⟨g,he,p⟩;rcases h with⟨c,b,e,k,q⟩|⟨tp,ws,cs,b,rfl,J,e,k,q⟩
 ·cases qG e j;exact jm I.tk (Bc (o5 hd.at_ hd.cls) I.kIn ex k (λz=>nomatch z) λtk J=>⟨.bl b,H,I.tok _,rfl,q⟩)
 ·cases (show T=Value.ref tp from j);obtain⟨a1,rv,⟨o,h1,h2,n,h3⟩,_⟩:=I.tuple J;cases pZ e rv;obtain⟨oc,od,a2,a3⟩:=o;dsimp only at h2 h3;subst h2 h3;exact jm I.tk (PySem.W.kia_tup (o5 hd.at_ hd.cls) I.kIn ex h1 k (λz=>nomatch z) λtk J=>⟨.bl b,H,I.tok _,rfl,q⟩)
def oE(H:Hp)(P:Addr)(q:Str):Prop:=∃ps,H P=some (.tbl ps)/\TriplesOk ps.toList/\∀pos I,codeAmong pos ps.toList=some I->∃J oc vs t,I=.ref J/\H J=some (.frz oc (.own 0))/\oc.data=.fields vs/\vs[1]?=some (.str q t)
theorem oE.keep{P:Addr}(h:oE H P q)(e:H' P=H P)(t:∀b o u,H b=some (.frz o u)->H' b=some (.frz o u)):oE H' P q:=by obtain⟨I,h1,h2,h3⟩:=h;refine⟨I,e.trans h1,h2,λpos J z=>?_⟩;obtain⟨U,g,j,l,p,r,C⟩:=h3 pos J z;exact⟨U,g,j,l,p,t _ _ _ r,C⟩
end L2
namespace L3
open PySem L2
inductive Y where
 |non|bl (b:Bool)|int (i:Int)|str (x:Str)|ref (a:Addr)|ty (n:String)|cd (kvs:List (Str×Str))|tup (ys:List Y)|sq (ys:List Y)
inductive LO where
 |lst (ys:List Y)|dct (kvs:List (j7×Y))|ins (C:Addr) (fs:List (Str×Y))|exc (C:Addr)|tb (q:Str)
abbrev qm:=Addr->Option LO
def qg(L:qm)(a:Addr)(o:LO):qm:=λb=>if b=a then some o else L b
theorem q8{L:qm}{o:LO}:qg L a o a=some o:=by unfold qg;rw[AF rfl]
theorem qd{L:qm}{o:LO}(h:b≠a):qg L a o b=L b:=by unfold qg;rw[AD h]
theorem xa{L:qm}{o u:LO}:qg (qg L a o) a u=qg L a u:=by funext b;unfold qg;split<;>rfl
theorem wu{L:qm}{o:LO}(h:L a=some o)(h':L b=none):a≠b:=by intro e;subst e;rw[h] at h';cases h'
structure G3 where
 K:Ae
 P:Program
 w:World
abbrev _root_.L2.Cx.g3(X:Cx):G3:=⟨X.K,X.prog,X.w⟩
def SqF(K:Ae)(H:Hp)(a:Addr)(xs:List V):Prop:=(∃o,H a=some (.frz o (.lst xs)))\/
 ∃(o:Obj) (fy:Array Value) (n:Nat),K.lookup a=some o/\o.cls=.type "list" /\ o.dict=none/\o.data=.seq fy n/\fy.size<=sizeLine/\zn xs fy.toList
theorem SqF.sq{K:Ae}(h:SqF K H a xs):aH K H a xs:=by
 rcases h with⟨o,h⟩|h
 ·exact .inl (.inr ⟨o,h⟩)
 ·exact .inr h
mutual
def RV(G:G3)(H:Hp):Y->V->Prop
 |.non,v=>v=.non
 |.bl b,v=>v=.bl b
 |.int i,v=>v=.int i
 |.str x,v=>v=.str x
 |.ref a,v=>v=.ref a
 |.ty n,v=>v=.ty n
 |.cd kvs,v=>∃a,v=.ref a/\KD G.K G.P G.w a (kvs.map λp=>(Sum.inr p.1,V.str p.2))
 |.tup ys,v=>∃a xs,v=.ref a/\cG G.K H a xs/\x5 G H ys xs
 |.sq ys,v=>∃a xs,v=.ref a/\SqF G.K H a xs/\x5 G H ys xs
def x5(G:G3)(H:Hp):List Y->List V->Prop
 |[],xs=>xs=[]
 |y::ys,xs=>∃x I,xs=x::I/\RV G H y x/\x5 G H ys I
end
def Imm:HO->Bool
 |.tup _=>true
 |.frz _ _=>true
 |_=>false
def jc(H H':Hp):Prop:=∀a u,Imm u=true->H a=some u->H' a=some u
theorem jc.refl(H:Hp):jc H H:=λ_ _ _ h=>h
abbrev DO:=@jc.refl
theorem jc.trans{H1 H2:Hp}(a:jc H H1)(b:jc H1 H2):jc H H2:=λc u i h=>b c u i (a c u i h)
theorem jc.new{p:Addr}{o:HO}(h:H p=none):jc H (upd H p o):=λ_ _ _ q=>by rw[qp (zy q h)];exact q
abbrev DP:=@jc.new
theorem jc.lst{p:Addr}{o:HO}(h:H p=some (.lst zs)):jc H (upd H p o):=λa u i q=>by rw[qp ?_];exact q;rintro rfl;rw[h] at q;cases q;cases i
abbrev DZ:=@jc.lst
theorem cG.ts{K:Ae}(h:cG K H a xs)(t:jc H H'):cG K H' a xs:=by
 rcases h with(h|⟨o,h⟩)|h
 ·exact .inl (.inl (t _ _ rfl h))
 ·exact .inl (.inr ⟨o,t _ _ rfl h⟩)
 ·exact .inr h
theorem SqF.ts{K:Ae}(h:SqF K H a xs)(t:jc H H'):SqF K H' a xs:=by
 rcases h with⟨o,h⟩|h
 ·exact .inl ⟨o,t _ _ rfl h⟩
 ·exact .inr h
mutual
theorem RV.ts{G:G3}{H H':Hp}(t:jc H H'):∀{y:Y} {v:V},RV G H y v->RV G H' y v
 |.non,_,h=>h
 |.bl _,_,h=>h
 |.int _,_,h=>h
 |.str _,_,h=>h
 |.ref _,_,h=>h
 |.ty _,_,h=>h
 |.cd _,_,h=>h
 |.tup _,_,⟨a,I,e,s,r⟩=>⟨a,I,e,cG.ts s t,x5.ts t r⟩
 |.sq _,_,⟨a,I,e,s,r⟩=>⟨a,I,e,s.ts t,x5.ts t r⟩
theorem x5.ts{G:G3}{H H':Hp}(t:jc H H'):∀{ys:List Y} {xs:List V},x5 G H ys xs->x5 G H' ys xs
 |[],_,h=>h
 |_::_,_,⟨x,I,e,r,s⟩=>⟨x,I,e,RV.ts t r,x5.ts t s⟩
end
theorem x5.length{G:G3}{H:Hp}:∀{ys:List Y} {xs:List V},x5 G H ys xs->ys.length=xs.length
 |[],_,h=>by cases h;rfl
 |_::_,_,⟨x,I,e,_,s⟩=>by subst e;simp[x5.length s]
theorem x5.get{G:G3}{H:Hp}:∀{ys:List Y} {xs:List V} {i:Nat} {y:Y},x5 G H ys xs->ys[i]?=some y->∃x,xs[i]?=some x/\RV G H y x
 |[],_,_,_,_,h=>by simp at h
 |_::_,_,0,_,⟨x,I,e,r,_⟩,h=>by subst e;simp at h;subst h;exact⟨x,rfl,r⟩
 |_::_,_,i+1,_,⟨x,I,e,_,s⟩,h=>by subst e;obtain⟨J,q,r⟩:=x5.get (i:=i) s (by simpa using h);exact⟨J,by simpa using q,r⟩
theorem x5.app{G:G3}{H:Hp}:∀{ys zs:List Y} {xs us:List V},x5 G H ys xs->x5 G H zs us->x5 G H (ys++zs) (xs++us)
 |[],_,_,_,h,q=>by cases h;exact q
 |_::_,_,_,_,⟨x,I,e,r,s⟩,q=>by subst e;exact⟨x,I++_,rfl,r,x5.app s q⟩
theorem x5.one{G:G3}{y:Y}{x:V}(r:RV G H y x):x5 G H [y] [x]:=⟨x,[],rfl,r,rfl⟩
theorem x5.take{G:G3}{H:Hp}:∀{ys:List Y} {xs:List V} (n:Nat),x5 G H ys xs->x5 G H (ys.take n) (xs.take n)
 |[],_,n,h=>by cases h;simp[x5]
 |_::_,_,0,_=>by simp[x5]
 |_::_,_,n+1,⟨x,I,e,r,s⟩=>by subst e;exact⟨x,I.take n,rfl,r,x5.take n s⟩
theorem x5.drop{G:G3}{H:Hp}:∀{ys:List Y} {xs:List V} (n:Nat),x5 G H ys xs->x5 G H (ys.drop n) (xs.drop n)
 |[],_,n,h=>by cases h;simp[x5]
 |_::_,_,0,h=>h
 |_::_,_,n+1,⟨x,I,e,r,s⟩=>by subst e;exact x5.drop n s
theorem x5.setY{G:G3}{H:Hp}{y:Y}{x:V}(r:RV G H y x):∀{ys:List Y} {xs:List V} (i:Nat),x5 G H ys xs->x5 G H (ys.set i y) (xs.set i x)
 |[],_,_,h=>by cases h;simp[x5]
 |_::_,_,0,⟨J,I,e,_,s⟩=>by subst e;exact⟨x,I,rfl,r,s⟩
 |_::_,_,i+1,⟨J,I,e,q,s⟩=>by subst e;exact⟨J,I.set i x,rfl,q,x5.setY r i s⟩
theorem x5.dropLast{G:G3}{ys:List Y}(h:x5 G H ys xs):x5 G H ys.dropLast xs.dropLast:=by rw[List.dropLast_eq_take,List.dropLast_eq_take,h.length];exact h.take _
theorem x5.eraseIdx{G:G3}{H:Hp}:∀{ys:List Y} {xs:List V} (n:Nat),x5 G H ys xs->x5 G H (ys.eraseIdx n) (xs.eraseIdx n)
 |[],_,n,h=>by cases h;simp[x5]
 |_::_,_,0,⟨x,I,e,r,s⟩=>by subst e;exact s
 |_::_,_,n+1,⟨x,I,e,r,s⟩=>by subst e;exact⟨x,I.eraseIdx n,rfl,r,x5.eraseIdx n s⟩
def RO(G:G3)(H:Hp)(a:Addr):LO->Prop
 |.lst ys=>∃xs,H a=some (.lst xs)/\x5 G H ys xs
 |.dct kvs=>∃xs,H a=some (.dK xs)/\Paired (λ(p:j7×Y) (q:j7×V)=>p.1=q.1/\RV G H p.2 q.2) kvs xs
 |.ins C fs=>∃dx xs,H a=some (.ins C dx xs)/\Paired (λ(p:Str×Y) (q:Str×V)=>p.1=q.1/\RV G H p.2 q.2) fs xs
 |.exc C=>aah G.K H a C
 |.tb q=>oE H a q
def zx(G:G3)(H:Hp)(L:qm):Prop:=∀a o,L a=some o->RO G H a o
theorem RO.ex{G:G3} :∀{o:LO},RO G H a o->∃u,H a=some u
 |.lst _,⟨_,h,_⟩=>⟨_,h⟩
 |.dct _,⟨_,h,_⟩=>⟨_,h⟩
 |.ins _ _,⟨_,_,h,_⟩=>⟨_,h⟩
 |.exc _,⟨_,h,_⟩=>⟨_,h⟩
 |.tb _,⟨_,h,_⟩=>⟨_,h⟩
theorem zx.none{G:G3}{L:qm}(h:zx G H L){p:Addr}(I:H p=none):L p=none:=by cases e:L p with|none=>rfl|some o=>obtain⟨u,q⟩:=(h p o e).ex;rw[I] at q;cases q
theorem RO.keep{G:G3}(t:jc H H')(e:H' a=H a):∀{o:LO},RO G H a o->RO G H' a o
 |.lst _,⟨I,h,r⟩=>⟨I,e.trans h,r.ts t⟩
 |.dct _,⟨I,h,r⟩=>⟨I,e.trans h,DS r λ_ _ ⟨a,b⟩=>⟨a,b.ts t⟩⟩
 |.ins _ _,⟨J,I,h,r⟩=>⟨J,I,e.trans h,DS r λ_ _ ⟨a,b⟩=>⟨a,b.ts t⟩⟩
 |.exc _,⟨o,h,c⟩=>⟨o,e.trans h,c⟩
 |.tb _,h=>oE.keep h e λb o u z=>t b _ rfl z
theorem zx.skip{G:G3}{L:qm}(h:zx G H L){p:Addr}{o:HO}(I:H p=.none):zx G (upd H p o) L:=λa u e=>by obtain⟨x,q⟩:=(h a u e).ex;exact(h a u e).keep (DP I) (qp (zy q I))
theorem zx.newL{G:G3}{L:qm}(h:zx G H L){p:Addr}{ys:List Y}(I:H p=.none)(r:x5 G H ys xs):zx G (upd H p (.lst xs)) (qg L p (.lst ys)):=λa u e=>by
 by_cases c:a=p
 ·subst c;rw[q8] at e;cases e;exact⟨xs,zq,r.ts (DP I)⟩
 ·rw[qd c] at e;exact(h a u e).keep (DP I) (qp c)
theorem zx.setL{G:G3}{L:qm}(h:zx G H L){p:Addr}{ys:List Y}(I:H p=some (.lst zs))(r:x5 G H ys xs):zx G (upd H p (.lst xs)) (qg L p (.lst ys)):=λa u e=>by
 by_cases c:a=p
 ·subst c;rw[q8] at e;cases e;exact⟨xs,zq,r.ts (DZ I)⟩
 ·rw[qd c] at e;exact(h a u e).keep (DZ I) (qp c)
def qh(L L':qm):Prop:=∀a o,L a=some o->L' a=some o
theorem qh.refl(L:qm):qh L L:=λ_ _ h=>h
abbrev DN:=@qh.refl
theorem qh.trans{L L1 L2:qm}(a:qh L L1)(b:qh L1 L2):qh L L2:=λc o h=>b c o (a c o h)
theorem qh.new{L:qm}{p:Addr}{o:LO}(h:L p=none):qh L (qg L p o):=λa u e=>by rw[qd (wu e h)];exact e
abbrev By:=@qh.new
theorem zx.sub{G:G3}{L L':qm}(h:zx G H L')(s:qh L L'):zx G H L:=λa o e=>h a o (s a o e)
abbrev jh:=List (Option Y)
structure x9(G:G3)(H:Hp)(σ:St)(τ:jh):Prop where
 len:σ.length=τ.length
 get:∀(i:Nat) y,τ[i]?=some (some y)->∃v,σ[i]?=some (some v)/\RV G H y v
theorem x9.ts{G:G3}{τ:jh}(h:x9 G H σ τ)(t:jc H H'):x9 G H' σ τ:=
 ⟨h.len,λi y e=>let ⟨v,a,b⟩:=h.get i y e;⟨v,a,b.ts t⟩⟩
theorem x9.set{G:G3}{τ:jh}(h:x9 G H σ τ){y:Y}(r:RV G H y v):x9 G H (σ.set i (some v)) (τ.set i (some y)):=by
 refine⟨by simp[h.len],λj z e=>?_⟩;by_cases c:i=j
 ·subst c;have I:i<τ.length:=by
   by_cases q:i<τ.length
   ·exact q
   ·rw[BJ (by simp;omega)] at e;cases e
  rw[BE I] at e;cases e;exact⟨v,BE (by rw[h.len];exact I),r⟩
 ·rw[Bp c] at e ⊢;exact h.get j z e
theorem x9.more{G:G3}{τ:jh}(h:x9 G H σ τ)(n:Nat):x9 G H (σ++List.replicate n none) (τ++List.replicate n none):=by
 refine⟨by simp[h.len],λj z e=>?_⟩;by_cases c:j<τ.length
 ·rw[AE c] at e;rw[AE (by rw[h.len];exact c)];exact h.get j z e
 ·rw[Ax (by omega),BZ] at e;split at e<;>cases e
def u7:jh->Nat->Option Y
 |[],_=>none
 |o::_,0=>o
 |_::r,i+1=>u7 r i
theorem lu:∀(τ:jh) (i:Nat) {y:Y},u7 τ i=some y->τ[i]?=some (some y)
 |[],_,_,h=>by cases h
 |o::_,0,_,h=>by simp[u7] at h;simp[h]
 |_::r,i+1,_,h=>by simp only[CA];exact lu r i h
abbrev YK:=Y->qm->Prop
abbrev x6:=jh->qm->YK->Prop
abbrev hE:=jh->qm->(Bool->qm->Prop)->Prop
abbrev dM:=jh->qm->(List Y->qm->Prop)->Prop
structure xn where
 nx:jh->qm->Prop
 rt:YK
 bk:jh->qm->Prop:=λ_ _=>False
 ct:jh->qm->Prop:=λ_ _=>False
abbrev ke:=xn->jh->qm->Prop
abbrev kF:=Y->jh->qm->(jh->qm->Prop)->Prop
abbrev oh:=List Y->jh->qm->(jh->qm->Prop)->Prop
abbrev TI3:=jh->qm->(List Y->(qm->Prop)->qm->Prop)->Prop
abbrev kW:=Y->Y->qm->YK->Prop
def oN(G:G3)(H:Hp)(I:YK)(Q:VK):Prop:=∀v H' y L',jc H H'->zx G H' L'->RV G H' y v->I y L'->Q v H'
def vN(G:G3)(H:Hp)(I:Bool->qm->Prop)(Q:Bool->Hp->Prop):Prop:=∀b H' L',jc H H'->zx G H' L'->I b L'->Q b H'
def ald(G:G3)(H:Hp)(I:List Y->qm->Prop)(Q:List V->Hp->Prop):Prop:=∀vs H' ys L',jc H H'->zx G H' L'->x5 G H' ys vs->I ys L'->Q vs H'
def kR(G:G3)(H:Hp)(I:jh->qm->Prop)(Q:St->Hp->Prop):Prop:=∀σ H' τ L',jc H H'->x9 G H' σ τ->zx G H' L'->I τ L'->Q σ H'
theorem oN.ts{G:G3}{I:YK}{Q:VK}(h:oN G H I Q)(t:jc H H'):oN G H' I Q:=λv J y U g=>h v J y U (t.trans g)
theorem vN.ts{G:G3}{I:Bool->qm->Prop}{Q:Bool->Hp->Prop}(h:vN G H I Q)(t:jc H H'):vN G H' I Q:=λv J U g=>h v J U (t.trans g)
theorem kR.ts{G:G3}{I:jh->qm->Prop}{Q:St->Hp->Prop}(h:kR G H I Q)(t:jc H H'):kR G H' I Q:=λv J y U g=>h v J y U (t.trans g)
structure rj(G:G3)(H:Hp)(D3:xn)(D:i8):Prop where
 nx:kR G H D3.nx D.nx
 rt:oN G H D3.rt D.rt
 bk:kR G H D3.bk D.bk
 ct:kR G H D3.ct D.ct
theorem rj.ts{G:G3}{D3:xn}{D:i8}(h:rj G H D3 D)(t:jc H H'):rj G H' D3 D:=⟨h.nx.ts t,h.rt.ts t,h.bk.ts t,h.ct.ts t⟩
def ou(G:G3)(t:x6):TE:=λσ H Q=>∃τ L I,x9 G H σ τ/\zx G H L/\t τ L I/\oN G H I Q
def upT(G:G3)(t:hE):TT:=λσ H Q=>∃τ L I,x9 G H σ τ/\zx G H L/\t τ L I/\vN G H I Q
def upA(G:G3)(t:dM):TA:=λσ H Q=>∃τ L I,x9 G H σ τ/\zx G H L/\t τ L I/\ald G H I Q
def upS(G:G3)(t:ke):L2.TS:=λD σ H=>∃τ L D3,x9 G H σ τ/\zx G H L/\t D3 τ L/\rj G H D3 D
def upG(G:G3)(g:kF):TG:=λv σ H Q=>∃y τ L I,RV G H y v/\x9 G H σ τ/\zx G H L/\g y τ L I/\kR G H I Q
def apr(G:G3)(g:oh):yR:=λvs σ H Q=>∃ys τ L I,x5 G H ys vs/\x9 G H σ τ/\zx G H L/\g ys τ L I/\kR G H I Q
structure dq(G:G3)(H₀:Hp)(J:It)(ys:List Y)(keep:qm->Prop):Prop where
 go:∀i H L,jc H₀ H->zx G H L->keep L->i<ys.length->J.go i H
 yld:∀i H L x H' y,jc H₀ H->zx G H L->keep L->ys[i]?=some y->J.yld i H x H'->jc H H'/\zx G H' L/\RV G H' y x
 stop:∀H L,jc H₀ H->zx G H L->keep L->J.stop ys.length H
def upI(G:G3)(wi:TI3):TI:=λσ H R=>∃τ L I,x9 G H σ τ/\zx G H L/\wi τ L I/\∀J H' ys keep L',jc H H'->zx G H' L'->dq G H' J ys keep->I ys keep L'->R J H'
def eQ(G:G3)(U:kW):R2:=λx y H Q=>∃x3 I L J,RV G H x3 x/\RV G H I y/\zx G H L/\U x3 I L J/\oN G H J Q
def upL(G:G3)(J:List Y->qm->YK->Prop):List V->Hp->VK->Prop:=λxs H Q=>∃ys L I,x5 G H ys xs/\zx G H L/\J ys L I/\oN G H I Q
def upU(G:G3)(J:Y->qm->YK->Prop):V->Hp->VK->Prop:=λx H Q=>∃y L I,RV G H y x/\zx G H L/\J y L I/\oN G H I Q
theorem PE.imp{t u:TE}(h:PE X e t)(q:∀σ H Q,u σ H Q->t σ H Q):PE X e u:=λJ s σ H Q I z=>h J s σ H Q I (q σ H Q z)
abbrev EE:=@PE.imp
theorem PE.imq{G:G3}{t:TE}{u:x6}(h:PE X e t)(q:∀σ H Q τ L I,x9 G H σ τ->zx G H L->u τ L I->oN G H I Q->t σ H Q):PE X e (ou G u):=EE h λσ H Q ⟨τ,L,I,a,b,c,d⟩=>q σ H Q τ L I a b c d
abbrev DQ:=@PE.imq
theorem PT.imp{t u:TT}(h:PT X e t)(q:∀σ H Q,u σ H Q->t σ H Q):PT X e u:=λJ s σ H Q I z=>h J s σ H Q I (q σ H Q z)
theorem PT.imq{G:G3}{t:TT}{u:hE}(h:PT X e t)(q:∀σ H Q τ L I,x9 G H σ τ->zx G H L->u τ L I->vN G H I Q->t σ H Q):PT X e (upT G u):=PT.imp h λσ H Q ⟨τ,L,I,a,b,c,d⟩=>q σ H Q τ L I a b c d
theorem PW.imp{t u:TT}(h:PW X e t)(q:∀σ H Q,u σ H Q->t σ H Q):PW X e u:=λU J s σ H Q I z=>h U J s σ H Q I (q σ H Q z)
theorem PW.imq{G:G3}{t:TT}{u:hE}(h:PW X e t)(q:∀σ H Q τ L I,x9 G H σ τ->zx G H L->u τ L I->vN G H I Q->t σ H Q):PW X e (upT G u):=PW.imp h λσ H Q ⟨τ,L,I,a,b,c,d⟩=>q σ H Q τ L I a b c d
theorem PA.imp{e:List Expr}{u:TA}(h:PA X e t)(q:∀σ H Q,u σ H Q->t σ H Q):PA X e u:=λpos J s σ H Q I z=>h pos J s σ H Q I (q σ H Q z)
theorem PA.imq{G:G3}{e:List Expr}{u:dM}(h:PA X e t)(q:∀σ H Q τ L I,x9 G H σ τ->zx G H L->u τ L I->ald G H I Q->t σ H Q):PA X e (upA G u):=PA.imp h λσ H Q ⟨τ,L,I,a,b,c,d⟩=>q σ H Q τ L I a b c d
theorem PS.imp{e:Stmt}{t u:L2.TS}(h:PS X e t)(q:∀D σ H,u D σ H->t D σ H):PS X e u:=λJ s σ H Q I z=>h J s σ H Q I (q _ σ H z)
theorem PS.imq{G:G3}{e:Stmt}{t:L2.TS}{u:ke}(h:PS X e t)(q:∀D σ H τ L D3,x9 G H σ τ->zx G H L->u D3 τ L->rj G H D3 D->t D σ H):PS X e (upS G u):=PS.imp h λD σ H ⟨τ,L,D3,a,b,c,d⟩=>q D σ H τ L D3 a b c d
abbrev DW:=@PS.imq
theorem fG.imp{e:List Stmt}{t u:L2.TS}(h:fG X e t)(q:∀D σ H,u D σ H->t D σ H):fG X e u:=λJ s σ H Q I z=>h J s σ H Q I (q _ σ H z)
theorem fG.imq{G:G3}{e:List Stmt}{t:L2.TS}{u:ke}(h:fG X e t)(q:∀D σ H τ L D3,x9 G H σ τ->zx G H L->u D3 τ L->rj G H D3 D->t D σ H):fG X e (upS G u):=fG.imp h λD σ H ⟨τ,L,D3,a,b,c,d⟩=>q D σ H τ L D3 a b c d
theorem PF.imp{e:List Expr}{t u:TT}(h:PF X e t)(q:∀σ H Q,u σ H Q->t σ H Q):PF X e u:=λJ s σ H Q I z=>h J s σ H Q I (q σ H Q z)
end L3
variable {g:L3.kF}{y:L3.Y}{D:L3.xn}{tb te ti to:L3.x6}{kvs:List (L2.j7×L3.Y)}{ys:List L3.Y}{L L' L0 L1:L3.qm}{G:L3.G3}{τ:L3.jh}{gs:L3.oh}{tA:L3.hE}
namespace L3
open PySem L2
def ky(b:Bool)(A B:Prop):Prop:=match b with
 |true=>A
 |false=>B
theorem adr{b:Bool}{A B:Prop}(h:b=true->A)(k:b=false->B):ky b A B:=by cases b with|true=>exact h rfl|false=>exact k rfl
theorem fZ{b:Bool}{A B:Prop}(e:b=true)(h:A):ky b A B:=by rw[e];exact h
theorem cn{b:Bool}{A B:Prop}(e:b=false)(h:B):ky b A B:=by rw[e];exact h
theorem jd{p:Prop} [Decidable p]{A B:Prop}(h:p->A)(k:¬p->B):ky (decide p) A B:=by
 by_cases c:p
 ·rw[AV c];exact h c
 ·rw[Az c];exact k c
def nb(neg b:Bool):Bool:=match neg with
 |true=>!b
 |false=>b
def qa(i:Nat)(τ:jh)(L:qm)(Q:YK):Prop:=match u7 τ i with
 |some y=>Q y L
 |none=>False
def yC(y:Y)(_:jh)(L:qm)(Q:YK):Prop:=Q y L
def zc(r:kW)(ta tb:x6)(τ:jh)(L:qm)(Q:YK):Prop:=ta τ L λx L1=>tb τ L1 λy L2=>r x y L2 Q
def yUn(r:Y->qm->YK->Prop)(ta:x6)(τ:jh)(L:qm)(Q:YK):Prop:=ta τ L λx L1=>r x L1 Q
def yI(C:Int->Int->Prop)(g:Int->Int->Y)(x y:Y)(L:qm)(Q:YK):Prop:=match x,y with
 |.int i,.int j=>C i j/\Q (g i j) L
 |_,_=>False
def yI0(g:Int->Int->Y)(x y:Y)(L:qm)(Q:YK):Prop:=match x,y with
 |.int i,.int j=>Q (g i j) L
 |_,_=>False
def aa6(x:Y)(L:qm)(Q:YK):Prop:=match x with
 |.int i=>Q (.int (-i)) L
 |_=>False
def cD(L:qm):Y->Option (List Y)
 |.tup ys=>some ys
 |.sq ys=>some ys
 |.ref a=>match L a with
  |some (.lst ys)=>some ys
  |_=>none
 |_=>none
@[irreducible] def bU (L:qm) (a:Addr) (k:List Y->Prop):Prop:=match L a with
 |some (.lst ys)=>k ys
 |_=>False
theorem x8{k:List Y->Prop}(h:bU L a k):∃ys,L a=some (.lst ys)/\k ys:=by
 unfold bU at h;split at h
 ·rename_i ys e;exact⟨ys,e,h⟩
 ·exact h.elim
theorem qz{k:List Y->Prop}(e:L a=some (.lst ys))(h:k ys):bU L a k:=by unfold bU;rw[e];exact h
def gK(L:qm)(x:Y)(k:List Y->Prop):Prop:=match x with
 |.tup ys=>k ys
 |.sq ys=>k ys
 |.ref a=>bU L a k
 |_=>False
theorem wr(h:L a=some (.lst ys)):cD L (.ref a)=some ys:=by show(match L a with|some (.lst ys)=>some ys|_=>none)=some ys;rw[h]
theorem aB{x:Y}{k:List Y->Prop}(h:gK L x k):∃ys,cD L x=some ys/\k ys:=by
 cases x with
 |tup ys=>exact⟨ys,rfl,h⟩
 |sq ys=>exact⟨ys,rfl,h⟩
 |ref a=>obtain⟨ys,e,q⟩:=x8 h;exact⟨ys,wr e,q⟩
 |_=>exact h.elim
theorem kZ(h:cD L (.ref a)=some ys):L a=some (.lst ys):=by
 have I:(match L a with|some (.lst ys)=>some ys|_=>none)=some ys:=h;split at I
 ·rename_i e;cases I;exact e
 ·cases I
theorem adf{x:Y}{k:List Y->Prop}(e:cD L x=some ys)(h:k ys):gK L x k:=by cases x with|tup I=>cases e;exact h|sq I=>cases e;exact h|ref a=>exact qz (kZ e) h|_=>cases e
theorem qc{k:List Y->Prop}(e:L a=some (.lst ys))(h:k ys):gK L (.ref a) k:=adf (wr e) h
def zu(x y:Y)(L:qm)(Q:YK):Prop:=match x,y with
 |.int i,.int j=>Q (.int (i+j)) L
 |.str a,.str b=>a.length+b.length<=sizeLine/\Q (.str (a++b)) L
 |.ref a,.ref b=>∃ys zs,L a=some (.lst ys)/\L b=some (.lst zs)/\ys.length+zs.length<=sizeLine/\∀p,L p=none->Q (.ref p) (qg L p (.lst (ys++zs)))
 |_,_=>False
def sh(L:qm)(Q:α->qm->Prop):Option α->Prop
 |some v=>Q v L
 |none=>False
def xt(kvs:List (j7×Y))(k:j7):Option Y:=(kvs.find? λp=>decide (p.1=k)).map (·.2)
@[irreducible] def kM (L:qm) (a:Addr) (k:List (j7×Y)->Prop):Prop:=match L a with
 |some (.dct kvs)=>k kvs
 |_=>False
theorem bM{k:List (j7×Y)->Prop}(h:kM L a k):∃kvs,L a=some (.dct kvs)/\k kvs:=by
 unfold kM at h;split at h
 ·rename_i I e;exact⟨I,e,h⟩
 ·exact h.elim
theorem x0{k:List (j7×Y)->Prop}(e:L a=some (.dct kvs))(h:k kvs):kM L a k:=by unfold kM;rw[e];exact h
def cJ(x y:Y)(L:qm)(Q:YK):Prop:=match x,y with
 |.str z,.int i=>z.length<=sizeLine/\sh L (λc L=>Q (.str ⟨#[c]⟩) L) (dz z.cps.toList i)
 |.cd kvs,.str k=>sh L (λs L=>Q (.str s) L) (kvs.lookup k)
 |.ref a,.str k=>kM L a λkvs=>sh L Q (xt kvs (.inr k))
 |x,.int i=>gK L x λys=>sh L Q (dz ys i)
 |_,_=>False
def kH(xs:List Y)(L:qm)(Q:YK):Prop:=match xs with
 |[.str z]=>z.length<=sizeLine/\Q (.int z.length) L
 |[x]=>gK L x λys=>Q (.int ys.length) L
 |_=>False
def ae4(xs:List Y)(L:qm)(Q:YK):Prop:=match xs with
 |[.int i,.int j]=>Q (.int (max i j)) L
 |_=>False
def aj1(xs:List Y)(L:qm)(Q:YK):Prop:=match xs with
 |[.int i,.int j]=>Q (.int (min i j)) L
 |_=>False
inductive oR where
 |non|bool|int|str|tuple|list|dict
def oR.nm:oR->String
 |.non => "NoneType"
 |.bool => "bool"
 |.int => "int"
 |.str => "str"
 |.tuple => "tuple"
 |.list => "list"
 |.dict => "dict"
def tyY(L:qm):Y->Option oR
 |.non=>some .non
 |.bl _=>some .bool
 |.int _=>some .int
 |.str _=>some .str
 |.tup _=>some .tuple
 |.sq _=>some .list
 |.ref a=>match L a with
  |some (.lst _)=>some .list
  |some (.dct _)=>some .dict
  |_=>none
 |_=>none
theorem tyL(h:L a=some (.lst ys)):tyY L (.ref a)=some .list:=by show(match L a with|some (.lst _)=>some oR.list|some (.dct _)=>some .dict|_=>none)=some .list;rw[h]
def xD:oR->oR->Bool
 |.bool,.int=>true
 |.bool,.bool=>true
 |.int,.int=>true
 |.str,.str=>true
 |.tuple,.tuple=>true
 |.list,.list=>true
 |.dict,.dict=>true
 |.non,.non=>true
 |_,_=>false
@[irreducible] def tyK (L:qm) (a:Addr) (k:oR->Prop):Prop:=match tyY L (.ref a) with
 |some T=>k T
 |none=>False
theorem adm{k:oR->Prop}(h:tyK L a k):∃T,tyY L (.ref a)=some T/\k T:=by
 unfold tyK at h;split at h
 ·rename_i T e;exact⟨T,e,h⟩
 ·exact h.elim
theorem aed{k:oR->Prop}(e:L a=some (.lst ys))(h:k .list):tyK L a k:=by unfold tyK;rw[tyL e];exact h
def akp(L:qm)(x:Y)(k:oR->Prop):Prop:=match x with
 |.non=>k .non
 |.bl _=>k .bool
 |.int _=>k .int
 |.str _=>k .str
 |.tup _=>k .tuple
 |.sq _=>k .list
 |.ref a=>tyK L a k
 |_=>False
theorem zA{x:Y}{k:oR->Prop}(h:akp L x k):∃T,tyY L x=some T/\k T:=by cases x with|ref a=>exact adm h|ty n=>exact h.elim|cd k=>exact h.elim|_=>exact⟨_,rfl,h⟩
def tV(S:oR)(te:x6)(τ:jh)(L:qm)(Q:YK):Prop:=te τ L λx L1=>akp L1 x λT=>Q (.bl (xD T S)) L1
def iY:Y->Bool
 |.non=>true
 |.bl _=>true
 |.int _=>true
 |.str _=>true
 |_=>false
def r9:Y->V
 |.non=>.non
 |.bl b=>.bl b
 |.int i=>.int i
 |.str x=>.str x
 |_=>.ty "?"
theorem RV.flat :∀{y:Y} {v:V},iY y=true->RV G H y v->v=r9 y
 |.non,_,_,h=>h
 |.bl _,_,_,h=>h
 |.int _,_,_,h=>h
 |.str _,_,_,h=>h
theorem fJ:∀{y:Y},iY y=true->aO (r9 y)=true
 |.non,_=>rfl
 |.bl _,_=>rfl
 |.int _,_=>rfl
 |.str _,_=>rfl
theorem x5.flat :∀{ys:List Y} {xs:List V},ys.all iY=true->x5 G H ys xs->xs=ys.map r9
 |[],_,_,h=>h
 |y::ys,_,f,⟨x,I,e,r,s⟩=>by rw[Dr,AK] at f;rw[e,r.flat f.1,s.flat f.2];rfl
def tU:Y->Bool
 |.ref _=>true
 |.sq _=>true
 |_=>false
def zw(L:qm):Nat->Y->Da->Prop
 |0,y,d=>iY y=true/\d=.s (r9 y)
 |n+1,y,d=>(iY y=true/\d=.s (r9 y))\/(∃ys ds,y=.tup ys/\d=.tup ds/\Paired (zw L n) ys ds)\/(∃ys ds,tU y=true/\d=.lst ds/\cD L y=some ys/\Paired (zw L n) ys ds)
def uS:Y->Bool
 |.ref _=>true
 |.tup _=>true
 |.sq _=>true
 |_=>false
def vW(neg:Bool)(x y:Y)(L:qm)(Q:YK):Prop:=match x,y with
 |.int i,.int j=>Q (.bl (nb neg (decide (i=j)))) L
 |.str i,.str j=>Q (.bl (nb neg (decide (i=j)))) L
 |.bl i,.bl j=>Q (.bl (nb neg (decide (i=j)))) L
 |x,y=>uS x=true/\uS y=true/\∃n m d e,n<=128/\zw L n x d/\zw L m y e/\Q (.bl (nb neg (Da.eq d e))) L
def aa5(neg:Bool)(ta:x6)(τ:jh)(L:qm)(Q:YK):Prop:=ta τ L λx L1=>match x with
 |.non=>Q (.bl (!neg)) L1
 |_=>Q (.bl neg) L1
def yB(t:x6)(τ:jh)(L:qm)(Q:Bool->qm->Prop):Prop:=t τ L λx L1=>match x with
 |.bl c=>Q c L1
 |_=>False
def adl(t u:hE)(τ:jh)(L:qm)(Q:Bool->qm->Prop):Prop:=t τ L λc L1=>ky c (u τ L1 Q) (Q false L1)
def yOr(t u:hE)(τ:jh)(L:qm)(Q:Bool->qm->Prop):Prop:=t τ L λc L1=>ky c (Q true L1) (u τ L1 Q)
def sI(t:hE)(τ:jh)(L:qm)(Q:Bool->qm->Prop):Prop:=t τ L λc L1=>Q (!c) L1
def tw(ta tb:x6)(τ:jh)(L:qm)(Q:YK):Prop:=ta τ L λx L1=>match x with
 |.bl c=>ky c (tb τ L1 Q) (Q (.bl false) L1)
 |_=>False
def af4(ta:x6)(τ:jh)(L:qm)(Q:YK):Prop:=ta τ L λx L1=>match x with
 |.bl c=>Q (.bl (!c)) L1
 |_=>False
def yIf(t:hE)(ta tb:x6)(τ:jh)(L:qm)(Q:YK):Prop:=t τ L λc L1=>ky c (ta τ L1 Q) (tb τ L1 Q)
def qu(_:jh)(L:qm)(Q:List Y->qm->Prop):Prop:=Q [] L
def q9(ta:x6)(tr:dM)(τ:jh)(L:qm)(Q:List Y->qm->Prop):Prop:=ta τ L λx L1=>tr τ L1 λxs L2=>Q (x::xs) L2
def jf(t:dM)(τ:jh)(L:qm)(Q:YK):Prop:=t τ L λys L1=>match Nat.ble ys.length 1000 with
 |true=>Q (.tup ys) L1
 |false=>False
def jn(t:dM)(τ:jh)(L:qm)(Q:YK):Prop:=t τ L λys L1=>match Nat.ble ys.length 1000 with
 |true=>∀p,L1 p=none->Q (.ref p) (qg L1 p (.lst ys))
 |false=>False
def lK(r:List Y->qm->YK->Prop)(t:dM)(τ:jh)(L:qm)(Q:YK):Prop:=t τ L λvs L1=>r vs L1 Q
abbrev TO3:=jh->qm->(Option Int->qm->Prop)->Prop
def w4(_:jh)(L:qm)(Q:Option Int->qm->Prop):Prop:=Q none L
def aX(t:x6)(τ:jh)(L:qm)(Q:Option Int->qm->Prop):Prop:=t τ L λx L1=>match x with
 |.int i=>Q (some i) L1
 |_=>False
def eM(xs:List Y)(lo hi:Option Int):List Y:=(xs.drop (HT.sIx xs.length 0 lo)).take (HT.sIx xs.length xs.length hi-HT.sIx xs.length 0 lo)
def al0(x:Y)(lo hi:Option Int)(L:qm)(Q:YK):Prop:=match x with
 |.ref a=>bU L a λys=>∀p,L p=none->Q (.ref p) (qg L p (.lst (eM ys lo hi)))
 |.sq ys=>∀p,L p=none->Q (.ref p) (qg L p (.lst (eM ys lo hi)))
 |_=>False
def uK(r:Y->Option Int->Option Int->qm->YK->Prop)(te:x6)(tl th:TO3)(τ:jh)(L:qm)(Q:YK):Prop:=te τ L λx L1=>tl τ L1 λl L2=>th τ L2 λu L3=>r x l u L3 Q
def qw(t u:ke)(D:xn)(τ:jh)(L:qm):Prop:=t { D with nx:=u D } τ L
def xc(D:xn)(τ:jh)(L:qm):Prop:=D.nx τ L
def af7(D:xn)(τ:jh)(L:qm):Prop:=D.ct τ L
def jk(te:x6)(D:xn)(τ:jh)(L:qm):Prop:=te τ L λ_ L1=>D.nx τ L1
def jx(te:x6)(D:xn)(τ:jh)(L:qm):Prop:=te τ L D.rt
def xZ(D:xn)(_:jh)(L:qm):Prop:=D.rt .non L
def xz(c:hE)(t u:ke)(D:xn)(τ:jh)(L:qm):Prop:=c τ L λb L1=>ky b (t D τ L1) (u D τ L1)
def zk(te:x6)(g:kF)(D:xn)(τ:jh)(L:qm):Prop:=te τ L λx L1=>g x τ L1 D.nx
def bJ:jh->Nat->Y->jh
 |[],_,_=>[]
 |_::r,0,y=>some y::r
 |o::r,i+1,y=>o::bJ r i y
theorem wy:∀(τ:jh) (i:Nat) (y:Y),bJ τ i y=τ.set i (some y)
 |[],_,_=>rfl
 |_::_,0,_=>rfl
 |o::r,i+1,y=>by rw[bJ,wy r i y];rfl
def qf(i:Nat)(y:Y)(τ:jh)(L:qm)(Q:jh->qm->Prop):Prop:=Q (bJ τ i y) L
def aE(ys:List Y)(τ:jh)(L:qm)(Q:jh->qm->Prop):Prop:=match ys with
 |[]=>Q τ L
 |_=>False
def zp(t:kF)(u:oh)(ys:List Y)(τ:jh)(L:qm)(Q:jh->qm->Prop):Prop:=match ys with
 |[]=>False
 |y::r=>t y τ L λI L'=>u r I L' Q
def aZ(n:Nat)(t:oh)(y:Y)(τ:jh)(L:qm)(Q:jh->qm->Prop):Prop:=match y with
 |.tup ys=>match ys.length==n with
  |true=>t ys τ L Q
  |false=>False
 |_=>False
def ahh(i j:Nat)(ta:dM)(D:xn)(τ:jh)(L:qm):Prop:=ta τ L λvs L1=>match vs with
 |[v,w]=>D.nx (bJ (bJ τ i v) j w) L1
 |_=>False
def dt(W:α->qm->Prop)(x:α)(L:qm):Prop:=∃L',qh L' L/\W x L'
theorem frg{W:α->qm->Prop}{x:α}(h:W x L):dt W x L:=⟨L,DN L,h⟩
def mX(c:hE)(tb:ke)(D:xn)(τ:jh)(L:qm):Prop:=∃W:Nat->jh->qm->Prop,(∃m,W m τ L)/\∀m τ L,W m τ L->
 c τ L λb L1=>ky b (∃N:jh->qm->Prop,(∀I L',N I L'->∃J,J<m/\W J I L')/\tb { D with nx:=dt N,ct:=dt N,bk:=D.nx } τ L1) (D.nx τ L1)
@[irreducible] def rV (ys:List Y) (keep:qm->Prop) (g:kF) (tb:ke) (D:xn) (τ:jh) (L1:qm):Prop:=∃W:Nat->jh->qm->Prop,W 0 τ L1/\(∀i τ L,W i τ L->keep L)/\
 (∀i y τ L,ys[i]?=some y->W i τ L->g y τ L λI L2=>tb { D with nx:=dt (W (i+1)),ct:=dt (W (i+1)),bk:=D.nx } I L2)/\∀τ L,W ys.length τ L->D.nx τ L
theorem wv{keep:qm->Prop}{tb:ke}(h:∃W:Nat->jh->qm->Prop,W 0 τ L1/\(∀i τ L,W i τ L->keep L)/\
 (∀i y τ L,ys[i]?=some y->W i τ L->g y τ L λI L2=>tb { D with nx:=dt (W (i+1)),ct:=dt (W (i+1)),bk:=D.nx } I L2)/\∀τ L,W ys.length τ L->D.nx τ L):rV ys keep g tb D τ L1:=by unfold rV;exact h
theorem xI{keep:qm->Prop}{tb:ke}(h:rV ys keep g tb D τ L1):∃W:Nat->jh->qm->Prop,W 0 τ L1/\(∀i τ L,W i τ L->keep L)/\
 (∀i y τ L,ys[i]?=some y->W i τ L->g y τ L λI L2=>tb { D with nx:=dt (W (i+1)),ct:=dt (W (i+1)),bk:=D.nx } I L2)/\∀τ L,W ys.length τ L->D.nx τ L:=by unfold rV at h;exact h
def iU(wi:TI3)(g:kF)(tb:ke)(D:xn)(τ:jh)(L:qm):Prop:=wi τ L λys keep L1=>rV ys keep g tb D τ L1
@[irreducible] def qE (L:qm) (a:Addr) (R:List Y->(qm->Prop)->qm->Prop):Prop:=match L a with
 |some (.lst ys)=>R ys (λL=>L a=some (.lst ys)) L
 |_=>False
theorem jy{R:List Y->(qm->Prop)->qm->Prop}(h:L a=some (.lst ys))(q:∀keep:qm->Prop,(∀L',L' a=L a->keep L')->R ys keep L):qE L a R:=by unfold qE;rw[h];exact q _ λL' I=>I.trans h
theorem qH{R:List Y->(qm->Prop)->qm->Prop}(h:qE L a R):∃ys keep,cD L (.ref a)=some ys/\keep L/\(∀L',keep L'->cD L' (.ref a)=some ys)/\R ys keep L:=by
 unfold qE at h;split at h
 ·rename_i ys e;exact⟨ys,_,wr e,e,λL' I=>wr I,h⟩
 ·exact h.elim
def v4(tl:x6)(τ:jh)(L:qm)(R:List Y->(qm->Prop)->qm->Prop):Prop:=tl τ L λx L1=>match x with
 |.ref a=>qE L1 a R
 |.sq ys=>R ys (λ_=>True) L1
 |_=>False
def xL(tl:x6)(τ:jh)(L:qm)(R:List Y->(qm->Prop)->qm->Prop):Prop:=tl τ L λx L1=>match x with
 |.tup ys=>R ys (λ_=>True) L1
 |_=>False
def aN(lo:Int)(n:Nat):List Y:=(List.range n).map λk=>.int (lo+(k:Nat))
def rh(ta:dM)(τ:jh)(L:qm)(R:List Y->(qm->Prop)->qm->Prop):Prop:=ta τ L λvs L1=>match vs with
 |[.int j]=>(-(2 ^ 62)<=j/\j<2 ^ 62)/\R (aN 0 j.toNat) (λ_=>True) L1
 |_=>False
def mL(_:jh)(L:qm)(Q:Bool->qm->Prop):Prop:=Q true L
@[irreducible] def lcK (ys:List Y) (keep:qm->Prop) (n:Nat) (g:kF) (tc:hE) (te:x6) (τ:jh) (L1:qm) (Q:YK):Prop:=ys.length<sizeLine/\∃W:Nat->List Y->qm->Prop,W 0 [] L1/\(∀i zs L,W i zs L->keep L)/\
 (∀i y zs L,ys[i]?=some y->W i zs L->g y (τ++List.replicate n none) L λI L2=>tc I L2 λb L3=>ky b (te I L3 λz J=>dt (W (i+1)) (zs++[z]) J) (dt (W (i+1)) zs L3))/\
 ∀zs L,W ys.length zs L->∀p,L p=none->Q (.ref p) (qg L p (.lst zs))
theorem mW{keep:qm->Prop}{tc:hE}{Q:YK}(h:ys.length<sizeLine/\∃W:Nat->List Y->qm->Prop,W 0 [] L1/\(∀i zs L,W i zs L->keep L)/\
 (∀i y zs L,ys[i]?=some y->W i zs L->g y (τ++List.replicate n none) L λI L2=>tc I L2 λb L3=>ky b (te I L3 λz J=>dt (W (i+1)) (zs++[z]) J) (dt (W (i+1)) zs L3))/\
 ∀zs L,W ys.length zs L->∀p,L p=none->Q (.ref p) (qg L p (.lst zs))):lcK ys keep n g tc te τ L1 Q:=by unfold lcK;exact h
theorem abx{keep:qm->Prop}{tc:hE}{Q:YK}(h:lcK ys keep n g tc te τ L1 Q):ys.length<sizeLine/\∃W:Nat->List Y->qm->Prop,W 0 [] L1/\(∀i zs L,W i zs L->keep L)/\
 (∀i y zs L,ys[i]?=some y->W i zs L->g y (τ++List.replicate n none) L λI L2=>tc I L2 λb L3=>ky b (te I L3 λz J=>dt (W (i+1)) (zs++[z]) J) (dt (W (i+1)) zs L3))/\
 ∀zs L,W ys.length zs L->∀p,L p=none->Q (.ref p) (qg L p (.lst zs)):=by unfold lcK at h;exact h
def oQ(n:Nat)(wi:TI3)(g:kF)(tc:hE)(te:x6)(τ:jh)(L:qm)(Q:YK):Prop:=wi τ L λys keep L1=>lcK ys keep n g tc te τ L1 Q
abbrev xm:=List Y->qm->YK->Prop
def zf(sp:xm)(t:dM)(τ:jh)(L:qm)(Q:YK):Prop:=t τ L λys L1=>sp ys L1 Q
def j8(x:Y)(vs:List Y)(L:qm)(Q:YK):Prop:=match x,vs with
 |.ref a,[v]=>bU L a λys=>ys.length<sizeLine/\Q .non (qg L a (.lst (ys++[v])))
 |_,_=>False
def bZ(x:Y)(vs:List Y)(L:qm)(Q:YK):Prop:=match x,vs with
 |.ref a,[.ref b]=>bU L a λys=>bU L b λzs=>ys.length+zs.length<=sizeLine/\Q .non (qg L a (.lst (ys++zs)))
 |_,_=>False
def wR(x:Y)(vs:List Y)(L:qm)(Q:YK):Prop:=match x,vs with
 |.ref a,[]=>bU L a λys=>sh L (λv L=>Q v (qg L a (.lst ys.dropLast))) (ys[ys.length-1]?)
 |_,_=>False
theorem vz.imp{f:Value->Value->Sem Value}{r U:R2}(h:vz X f r)(q:∀x y H Q,U x y H Q->r x y H Q):vz X f U:=λJ s g H x y v u Q I j l z=>h J s g H x y v u Q I j l (q x y H Q z)
theorem vz.imq{f:Value->Value->Sem Value}{r:R2}{u:kW}(h:vz X f r)(q:∀x y H Q x3 I L J,RV G H x3 x->RV G H I y->zx G H L->u x3 I L J->oN G H J Q->r x y H Q):vz X f (eQ G u):=vz.imp h λx y H Q ⟨x3,I,L,J,a,b,c,d,e⟩=>q x y H Q x3 I L J a b c d e
abbrev EG:=@vz.imq
theorem UnR.imp{f:Value->Sem Value}{r U:V->Hp->VK->Prop}(h:UnR X f r)(q:∀x H Q,U x H Q->r x H Q):UnR X f U:=λJ s g H x v Q I j z=>h J s g H x v Q I j (q x H Q z)
theorem jt.imp{f:Value}{r U:List V->Hp->VK->Prop}(h:jt X f r)(q:∀x H Q,U x H Q->r x H Q):jt X f U:=λJ s g H x v Q I j z=>h J s g H x v Q I j (q x H Q z)
theorem jt.imq{f:Value}{r:List V->Hp->VK->Prop}{u:List Y->qm->YK->Prop}(h:jt X f r)(q:∀xs H Q ys L I,x5 G H ys xs->zx G H L->u ys L I->oN G H I Q->r xs H Q):jt X f (upL G u):=jt.imp h λxs H Q ⟨ys,L,I,a,b,c,d⟩=>q xs H Q ys L I a b c d
theorem xE.imp{r U:R2}(h:xE X r)(q:∀x y H Q,U x y H Q->r x y H Q):xE X U:=λvalue slice J s g H x y v u Q I j l z=>h value slice J s g H x y v u Q I j l (q x y H Q z)
theorem eF.imp{id:String}{r U:V->List V->Hp->VK->Prop}(h:eF X id r)(q:∀x xs H Q,U x xs H Q->r x xs H Q):eF X id U:=λJ s g H x xs v j Q I l o z=>h J s g H x xs v j Q I l o (q x xs H Q z)
theorem nR(U:zx G H L)(r:RV G H y v)(h:cD L y=some ys):∃p xs,v=.ref p/\(aH G.K H p xs\/cG G.K H p xs)/\x5 G H ys xs:=by
 cases y with
 |tup J=>
  obtain⟨a,xs,e,s,q⟩:=r;cases h;exact⟨a,xs,e,.inr s,q⟩
 |sq J=>
  obtain⟨a,xs,e,s,q⟩:=r;cases h;exact⟨a,xs,e,.inl s.sq,q⟩
 |ref a=>
  cases (show v=.ref a from r);have I:(match L a with|some (.lst ys)=>some ys|_=>none)=some ys:=h;split at I
  ·rename_i J e;cases I;obtain⟨xs,g,q⟩:=U a _ e;exact⟨a,xs,rfl,.inl (aH.of g),q⟩
  ·cases I
 |_=>cases h
theorem aib{i:Int}(s:x5 G H ys xs)(h:dz ys i=some y):∃x,dz xs i=some x/\RV G H y x:=by
 unfold dz at h ⊢;rw[<-s.length];cases e:xW ys.length i with
 |none=>rw[e] at h;cases h
 |some j=>
  rw[e] at h;exact s.get (i:=j) h
section
variable {a b:Expr}{ta tc:x6}
abbrev QE(X:Cx)(e:Expr)(t:x6):Prop:=PE X e (ou X.g3 t)
abbrev QT(X:Cx)(e:Expr)(t:hE):Prop:=PT X e (upT X.g3 t)
abbrev QW(X:Cx)(e:Expr)(t:hE):Prop:=PW X e (upT X.g3 t)
abbrev QA(X:Cx)(es:List Expr)(t:dM):Prop:=PA X es (upA X.g3 t)
abbrev QS(X:Cx)(st:Stmt)(t:ke):Prop:=PS X st (upS X.g3 t)
abbrev mF(X:Cx)(st:List Stmt)(t:ke):Prop:=fG X st (upS X.g3 t)
abbrev QG(X:Cx)(e:Expr)(g:kF):Prop:=PG X e (upG X.g3 g)
abbrev QGs(X:Cx)(es:List Expr)(g:oh):Prop:=zM X es (apr X.g3 g)
abbrev QI(X:Cx)(tg it:Expr)(w:TI3):Prop:=PI X tg it (upI X.g3 w)
abbrev QF(X:Cx)(es:List Expr)(t:hE):Prop:=PF X es (upT X.g3 t)
theorem QE.of_var(h:PE X e (afl i)):QE X e (qa i):=DQ h λj H Q l L o I J z k=>by
 unfold qa at z;split at z
 ·rename_i y U;obtain⟨v,ev,g⟩:=I.get i y (lu _ _ U);exact⟨v,ev,k v H y L (DO _) J g z⟩
 ·exact z.elim
theorem QE.of_c(h:PE X e (tC v))(q:∀H,RV X.g3 H y v):QE X e (yC y):=DQ h λJ H Q U L g j I z k=>k v H y L (DO _) I (q H) z
theorem qv(i:Nat)(J:X.N[i]?=some x:=by rfl)(U:Vis X.env.scope x:=by first|exact Or.inl rfl|exact Or.inr (Or.inl rfl)|exact Or.inr (Or.inr rfl))(hd:Ed x:=by decide)
 (I:Ee x:=by decide):QE X (.Name x pos) (qa i):=QE.of_var (pv i J U hd I)
theorem li :QE X (.Constant .none j pos) (yC .non):=QE.of_c ahp λ_=>rfl
theorem gc{b:Bool} :QE X (.Constant (.bool b) j pos) (yC (.bl b)):=QE.of_c akv λ_=>rfl
theorem qe{i:Int} :QE X (.Constant (.int i) j pos) (yC (.int i)):=QE.of_c ah5 λ_=>rfl
theorem qx :QE X (.Constant (.str x) j pos) (yC (.str x)):=QE.of_c bR λ_=>rfl
theorem tf{r:kW}{ta:x6}(σ:St)(H:Hp)(Q:VK):ou G (zc r ta tb) σ H Q->tOp (eQ G r) (ou G ta) (ou G tb) σ H Q:=λ⟨j,L,t,l,C,z,k⟩=>
 ⟨j,L,_,l,C,z,λv H1 y T o I J z1=>⟨j,T,_,l.ts o,I,z1,λv2 H2 y2 L2 p U g z2=>⟨y,y2,L2,t,J.ts p,g,U,z2,k.ts (o.trans p)⟩⟩⟩
theorem qj{op:Operator}{r:kW}(h:vz X (binaryOp op) (eQ X.g3 r))(I:QE X a ta)(J:QE X b tb):QE X (.BinOp a op b pos) (zc r ta tb):=EE (ali h I J) tf
theorem ajs{r:kW}(h:xE X (eQ X.g3 r))(I:QE X a ta)(J:QE X b tb)(U:iM b):QE X (.Subscript a b pos) (zc r ta tb):=EE (af3 h I J U) tf
theorem oF{op:CmpOp}{r:kW}(h:vz X (compareOp op) (eQ X.g3 r))(I:QE X a ta)(J:QE X b tb)(U:behindInMarks op b=false):QE X (.Compare a [op] [b] pos) (zc r ta tb):=EE (abr h I J U) tf
theorem ags{t:x6}(σ:St)(H:Hp)(Q:Bool->Hp->Prop):upT G (yB t) σ H Q->aaa (ou G t) σ H Q:=λ⟨g,L,C,j,l,z,k⟩=>
 ⟨g,L,_,j,l,z,λv o y p r I J U=>by cases y with|bl b=>exact⟨b,J,k b o p r I U⟩|_=>exact U.elim⟩
theorem af5{t:x6}(σ:St)(H:Hp)(Q:Bool->Hp->Prop):upT G (yB t) σ H Q->L2.tB (ou G t) σ H Q:=ags σ H Q
theorem vk{op:CmpOp}{r:kW}(h:vz X (compareOp op) (eQ X.g3 r))(J:QE X a ta)(U:QE X b tb)(g:behindInMarks op b=false):QT X (.Compare a [op] [b] pos) (yB (zc r ta tb)):=
 PT.imp (aeh h J U g) λI H Q q=>by have j:=ags I H Q q;obtain⟨l,L,o,p,t,z,k⟩:=j;exact tf I H _ ⟨l,L,o,p,t,z,k⟩
theorem bY(h:QE X e te)(I:∀whole,isTrue e X.env whole=(do let v <-whole;standAt e.pos;holding [v] (truthy v)):=by intro _;rfl):QT X e (yB te):=PT.imp (aii h I) af5
theorem OpI{f:Value->Value->Sem Value}{C:Int->Int->Prop}{g:Int->Int->V}{g3:Int->Int->Y}(h:vz X f (rI C g))(e:∀i j H,RV X.g3 H (g3 i j) (g i j)):vz X f (eQ X.g3 (yI C g3)):=EG h λx y H Q J I L p U l o z k=>by
 cases J with
 |int i=>
  cases I with|int j=>exact⟨i,j,U,l,z.1,k _ H _ L (DO _) o (e i j H) z.2⟩|_=>exact z.elim
 |_=>cases I<;>exact z.elim
theorem abl{f:Value->Value->Sem Value}{g:Int->Int->V}{g3:Int->Int->Y}(h:vz X f (rI0 g))(e:∀i j H,RV X.g3 H (g3 i j) (g i j)):vz X f (eQ X.g3 (yI0 g3)):=EG h λx y H Q J I L p U l o z k=>by
 cases J with
 |int i=>
  cases I with|int j=>exact⟨i,j,U,l,k _ H _ L (DO _) o (e i j H) z⟩|_=>exact z.elim
 |_=>cases I<;>exact z.elim
theorem bF:vz X (binaryOp .Sub) (eQ X.g3 (yI0 λi j=>.int (i-j))):=abl afy λ_ _ _=>rfl
theorem qQ:vz X (binaryOp .Mult) (eQ X.g3 (yI yD λi j=>.int (i*j))):=OpI afw λ_ _ _=>rfl
theorem vj:vz X (binaryOp .FloorDiv) (eQ X.g3 (yI ahx λi j=>.int (i / j))):=OpI adx λ_ _ _=>rfl
theorem js:vz X (binaryOp .Mod) (eQ X.g3 (yI (λ_ j=>0<j) λi j=>.int (i % j))):=OpI ahd λ_ _ _=>rfl
theorem ak4:vz X (binaryOp .Pow) (eQ X.g3 (yI aik λi j=>.int (i ^ j.toNat))):=OpI ahc λ_ _ _=>rfl
theorem zY:vz X (compareOp .Lt) (eQ X.g3 (yI0 λi j=>.bl (decide (i<j)))):=abl alj λ_ _ _=>rfl
theorem an6:vz X (compareOp .LtE) (eQ X.g3 (yI0 λi j=>.bl (decide (i<=j)))):=abl ajx λ_ _ _=>rfl
theorem adu:vz X (compareOp .Gt) (eQ X.g3 (yI0 λi j=>.bl (decide (j<i)))):=abl akb λ_ _ _=>rfl
theorem z8:vz X (binaryOp .Add) (eQ X.g3 zu):=EG aef λx y H Q t J L Q3 U g I z k=>by
 cases t with
 |int i=>
  cases J with|int j=>cases U;cases g;exact k _ H _ L (DO _) I (by rfl) z|_=>exact z.elim
 |str i=>
  cases J with|str j=>cases U;cases g;exact⟨z.1,k _ H _ L (DO _) I (by rfl) z.2⟩|_=>exact z.elim
 |ref a=>
  cases J with
  |ref b=>
   cases U;cases g;obtain⟨ys,zs,C,T,hz,q⟩:=z;obtain⟨xs,h1,o⟩:=I a _ C;obtain⟨us,h2,r⟩:=I b _ T;refine⟨xs,us,h1,h2,by rw[<-o.length,<-r.length];exact hz,λp l=>?_⟩;exact k _ _ _ _ (DP l) (I.newL l (o.app r)) (by rfl) (q p (I.none l))
  |_=>exact z.elim
 |_=>cases J<;>exact z.elim
theorem ot{kvs:List (Str×Str)}{k:Str}(h:kvs.lookup k=some x):aK (kvs.map λp=>((Sum.inr p.1:j7),V.str p.2)) (Sum.inr k)=some (V.str x):=by
 induction kvs with
 |nil=>simp at h
 |cons p r I=>
  obtain⟨a,b⟩:=p;unfold aK;rw[AA,Bd];rw[Bj] at h;by_cases c:k=a
  ·subst c;simp at h;simp[h]
  ·have c1:(k==a)=false:=by simpa using c
   rw[c1] at h;have c2:decide ((Sum.inr a:j7)=Sum.inr k)=false:=Az λz=>c (Em z).symm;simp only[c2];exact I h
theorem fz{xs:List (j7×V)}{k:j7}(p:Paired (λ(p:j7×Y) (q:j7×V)=>p.1=q.1/\RV G H p.2 q.2) kvs xs)(h:xt kvs k=some y):∃x,aK xs k=some x/\RV G H y x:=by
 induction p with
 |nil=>cases h
 |@cons a b _ _ r t U=>
  obtain⟨I,l⟩:=a;obtain⟨g,j⟩:=b;obtain⟨e,r⟩:=r;cases (show I=g from e);unfold xt at h;unfold aK;rw[Bd] at h ⊢;by_cases c:I=k
  ·have J:decide (I=k)=true:=AV c;simp only[J] at h ⊢;cases h;exact⟨j,rfl,r⟩
  ·have J:decide (I=k)=false:=Az c;simp only[J] at h ⊢;exact U h
theorem ajr(K:Ae)(P:Program)(w:World)(hK:X.K=K:=by rfl)(hP:X.prog=P:=by rfl)(hw:X.w=w:=by rfl):xE X (eQ ⟨K,P,w⟩ cJ):=by
 subst hK hP hw;refine xE.imp ak5 λx y H Q ⟨x3,l,L,Q3,I,o,r,z,k⟩=>?_;have seq:∀{i:Int} {x3:Y},RV X.g3 H x3 x->y=.int i->(gK L x3 λj=>sh L Q3 (dz j i))->uIx X.K X.prog X.w x y H Q:=by
  intro i x3 I ey z;subst ey;obtain⟨j,es,z⟩:=aB z;obtain⟨p,T,e,sq,rv⟩:=nR r I es;subst e;cases J:dz j i with
  |none=>rw[J] at z;exact z.elim
  |some y=>
   rw[J] at z;obtain⟨x,ex,a1⟩:=aib rv J;exact⟨T,x,sq,ex,k _ H _ L (DO _) r a1 z⟩
 cases x3 with
 |str s=>
  cases l with
  |int i=>
   cases I;cases o;obtain⟨z1,C⟩:=z;cases J:dz s.cps.toList i with
   |none=>rw[J] at C;exact C.elim
   |some c=>rw[J] at C;exact⟨z1,c,J,k _ H _ L (DO _) r (by rfl) C⟩
  |_=>exact z.elim
 |cd U=>
  cases l with
  |str s=>
   obtain⟨a,J,kd⟩:=I;cases J;cases o;have g:sh L (λs L=>Q3 (.str s) L) (U.lookup s):=z;cases el:U.lookup s with
   |none=>rw[el] at g;exact g.elim
   |some t=>rw[el] at g;exact⟨_,_,.inr kd,ot el,k _ H _ L (DO _) r (by rfl) g⟩
  |int i=>exact z.elim
  |_=>exact z.elim
 |ref a=>
  cases l with
  |int i=>exact seq (x3:=.ref a) I o z
  |str s=>
   cases I;cases o;obtain⟨U,e,g⟩:=bM z;obtain⟨T,e2,pr⟩:=r a _ e;cases ev:xt U (Sum.inr s) with
   |none=>rw[ev] at g;exact g.elim
   |some y=>
    rw[ev] at g;obtain⟨x,ex,I⟩:=fz pr ev;exact⟨T,x,.inl (.inl e2),ex,k _ H _ L (DO _) r I g⟩
  |_=>exact z.elim
 |tup j=>
  cases l with|int i=>exact seq (x3:=.tup j) I o z|_=>exact z.elim
 |sq j=>
  cases l with|int i=>exact seq (x3:=.sq j) I o z|_=>exact z.elim
 |_=>cases l<;>exact z.elim
theorem x5.inv1(h:x5 G H [y] xs):∃x,xs=[x]/\RV G H y x:=by obtain⟨x,I,e,r,s⟩:=h;cases (show I=[] from s);exact⟨x,e,r⟩
theorem x5.inv2{J:Y}(h:x5 G H [y,J] xs):∃x I,xs=[x,I]/\RV G H y x/\RV G H J I:=by obtain⟨x,U,e,r,s⟩:=h;obtain⟨I,g,j⟩:=s.inv1;exact⟨x,I,by rw[e,g],r,j⟩
theorem ai3(K:Ae)(P:Program)(w:World)(g:X.K=K:=by rfl)(j:X.prog=P:=by rfl)(hw:X.w=w:=by rfl):jt X (.builtin "len") (upL ⟨K,P,w⟩ kH):=by
 subst g j hw;refine jt.imq wN λC H Q l L T U I z k=>?_;unfold kH at z;split at z
 ·obtain⟨x,rfl,r⟩:=U.inv1;cases r;exact⟨z.1,k _ H _ L (DO _) I (by rfl) z.2⟩
 ·rename_i y _;obtain⟨x,rfl,r⟩:=U.inv1;obtain⟨l,o,z⟩:=aB z;obtain⟨p,t,e,sq,J⟩:=nR I r o;subst e;refine⟨t,sq,?_⟩;rw[<-J.length];exact k _ H _ L (DO _) I (by rfl) z
 ·exact z.elim
theorem agu(i j:Int):(if j > i then j else i)=max i j:=by split<;>lia
theorem ai4(i j:Int):(if j<i then j else i)=min i j:=by split<;>lia
theorem aey(hc:X.calm=true:=by rfl):jt X (.builtin "max") (upL X.g3 ae4):=jt.imq (vO hc) λl H Q o L p I J z k=>by
 unfold ae4 at z;split at z
 ·rename_i i j;obtain⟨x,r,rfl,U,g⟩:=I.inv2;cases U;cases g;refine⟨i,j,rfl,?_⟩;rw[agu];exact k _ H _ L (DO _) J (by rfl) z
 ·exact z.elim
theorem alt(hc:X.calm=true:=by rfl):jt X (.builtin "min") (upL X.g3 aj1):=jt.imq (uv hc) λl H Q o L p I J z k=>by
 unfold aj1 at z;split at z
 ·rename_i i j;obtain⟨x,r,rfl,U,g⟩:=I.inv2;cases U;cases g;refine⟨i,j,rfl,?_⟩;rw[ai4];exact k _ H _ L (DO _) J (by rfl) z
 ·exact z.elim
theorem tX:UnR X (unaryOp .USub) (upU X.g3 aa6):=UnR.imp aj0 λx H Q ⟨y,L,U,I,J,z,k⟩=>by cases y with|int i=>exact⟨i,I,k _ H _ L (DO _) J (by rfl) z⟩|_=>exact z.elim
theorem t7{op:UnaryOp}{r:Y->qm->YK->Prop}(h:UnR X (unaryOp op) (upU X.g3 r))(U:QE X a ta):QE X (.UnaryOp op a pos) (yUn r ta):=DQ (alp h U) λT H Q g L j l o z k=>
 ⟨g,L,_,l,o,z,λv H1 y p t I J C=>⟨y,p,j,J,I,C,k.ts t⟩⟩
end
section
variable {a b:Expr}{ta tc:x6}
theorem cc{a:Addr}(J:zx G H L)(h:cD L (.ref a)=some ys):∃xs,aH G.K H a xs/\x5 G H ys xs:=by
 have I:(match L a with|some (.lst ys)=>some ys|_=>none)=some ys:=h;split at I
 ·rename_i e;cases I;obtain⟨xs,U,q⟩:=J a _ e;exact⟨xs,aH.of U,q⟩
 ·cases I
theorem fV(I:zx G H L)(r:RV G H y v)(J:tU y=true)(h:cD L y=some ys):∃a xs,v=.ref a/\aH G.K H a xs/\x5 G H ys xs:=by
 cases y with
 |ref a=>obtain⟨xs,s,q⟩:=cc I h;exact⟨a,xs,r,s,q⟩
 |sq U=>obtain⟨a,xs,e,s,q⟩:=r;cases h;exact⟨a,xs,e,s.sq,q⟩
 |_=>cases J
theorem uc{G:G3}{T:oR}{σ:L2.St}(I:qy X pins σ H s)(C:zx X.g3 H L)(r:RV X.g3 H y v)(J:zm v u)(h:tyY L y=some T)
 {c:Value} {b:Bool} (e:PySem.W.kitOne X.K (.type T.nm) c=some b) (U:∀tk,Q (.bool b) { s with toks:=tk }):
 wpAny (model X.prog X.w) A (call (.builtin "isinstance") [u,c]) Q E s:=by
 cases y with
 |non=>cases h;cases r;exact aQ I J .non e U
 |bl b=>cases h;cases r;exact aQ I J (.bl _) e U
 |int i=>cases h;cases r;exact aQ I J (.int _) e U
 |str x=>cases h;cases r;exact aQ I J (.str _) e U
 |tup ys=>
  cases h;obtain⟨a,j,rfl,sq,_⟩:=r;cases (show u=Value.ref a from J);obtain⟨l,_,⟨o,h1,h2,_⟩,_⟩:=I.tuple sq;exact Bc PySem.W.kitx_tuple I.kIn ⟨o,h1,h2⟩ e (λz=>nomatch z) U
 |sq ys=>
  cases h;obtain⟨a,j,rfl,sq,_⟩:=r;cases (show u=Value.ref a from J);obtain⟨l,_,⟨o,n,h1,h2,_⟩,_⟩:=I.list sq.sq;exact Bc Dn I.kIn ⟨o,h1,h2⟩ e (λz=>nomatch z) U
 |ref a=>
  cases (show v=.ref a from r);have g:(match L a with|some (.lst _)=>some oR.list|some (.dct _)=>some .dict|_=>none)=some T:=h;split at g
  ·rename_i ys p;cases g;obtain⟨j,t,_⟩:=C a _ p;exact aQ I J (.lst t) e U
  ·rename_i a1 p;cases g;obtain⟨j,t,_⟩:=C a _ p;exact aQ I J (.dK t) e U
  ·cases g
 |_=>cases h
theorem aek(K:Ae):∀T S:oR,PySem.W.kitOne K (.type T.nm) (.type S.nm)=some (xD T S):=by intro T S;cases T<;>cases S<;>rfl
def aft(G:G3)(S:oR):List V->Hp->VK->Prop:=λxs H Q=>∃y v L I T,xs=[v,.ty S.nm]/\RV G H y v/\zx G H L/\tyY L y=some T/\I (.bl (xD T S)) L/\oN G H I Q
theorem agy(S:oR):jt X (.builtin "isinstance") (aft X.g3 S):=by intro J s o H p t Q I r h;obtain⟨y,v,L,C,T,rfl,g,U,ty,q,k⟩:=h;obtain⟨u,c,rfl,j,l⟩:=zn.two r;cases (show c=Value.type S.nm from l);exact jm I.tk (uc (G:=X.g3) I U g j ty (aek _ T S) λtk ht=>⟨.bl _,H,I.tok _,rfl,k _ H _ L (DO _) U (by rfl) q⟩)
theorem m7{I:Str}(S:oR)(t:Gl X "isinstance")(C:X.mg "isinstance"=none)(J:Gl X I)(U:X.mg I=none)(g:bootBuiltins I=some (.type S.nm))(ha:QE X a ta)
 (hn:I ≠ "__name__" := by decide) (hd:(I==("__debug__" : Str))=false:=by decide)
 (hs:starEach [a,.Name I p1] X.env=(false,eval a X.env)::starEach [.Name I p1] X.env:=by rfl) (j:starEach [.Name I p1] X.env=(false,eval (.Name I p1) X.env)::starEach [] X.env:=by rfl)
 (hp:(backTo pos (starEach [.Name I p1] X.env)).any (·.1)=false:=by rfl):
 QE X (.Call (.Name "isinstance" p) [a,.Name I p1] [] pos) (tV S ta):=by
 refine EE (fC (agy S) t C ak (w5 ha (w5 (af6 J U g hn hd) cX j) hs) (by decide) (by decide) hs hp) ?_;rintro σ H Q ⟨τ,L,Q3,rs,rl,z,k⟩;refine⟨τ,L,_,rs,rl,z,λv H1 y L1 t1 l o r=>?_⟩;obtain⟨T,et,r⟩:=zA r;exact⟨y,v,L1,Q3,T,rfl,o,l,et,r,k.ts t1⟩
def xU(neg:Bool)(x y:Y)(L:qm)(Q:YK):Prop:=gK L y λys=>iY x=true/\ys.all iY=true/\Q (.bl (nb neg (inV (r9 x) (ys.map r9)))) L
theorem ant(neg:Bool){op:CmpOp}(h:vz X (compareOp op) (rIn X.K neg)):vz X (compareOp op) (eQ X.g3 (xU neg)):=EG h λx y H Q I t L C g j U z k=>by
 obtain⟨J,l,f1,f2,q⟩:=aB z;obtain⟨p,T,e,sq,o⟩:=nR U j l;rw[g.flat f1];rw[o.flat f2] at sq;refine⟨p,_,e,sq,fJ f1,?_,?_⟩
 ·rw[List.all_map,CP];intro y r;exact fJ (CP.mp f2 y r)
 ·have:(if neg=true then !inV (r9 I) (J.map r9) else inV (r9 I) (J.map r9))=(nb neg (inV (r9 I) (J.map r9))):=by cases neg<;>simp[nb]
  rw[this];exact k _ H _ L (DO _) U (by rfl) q
theorem ab6(K:Ae)(P:Program)(w:World)(I:X.K=K:=by rfl)(J:X.prog=P:=by rfl)(hw:X.w=w:=by rfl):vz X (compareOp .NotIn) (eQ ⟨K,P,w⟩ (xU true)):=by subst I J hw;exact ant true nN
theorem zw.rep{G:G3}{H:Hp}{L:qm}(j:zx G H L):∀{n:Nat} {y:Y} {d:Da} {v:V},zw L n y d->RV G H y v->vf G.K H n v d
 |0,y,d,v,⟨f,e⟩,r=>by rw[r.flat f];exact⟨e,fJ f⟩
 |n+1,y,d,v,h,r=>by
  have both:∀{U:List Y} {J:List Da} {I:List V},Paired (zw L n) U J->x5 G H U I->Paired (vf G.K H n) I J:=by
   intro U J I p
   induction p generalizing I with
   |nil=>intro r;cases (show I=[] from r);exact .nil
   |cons q t l=>
    rintro⟨x,o,rfl,C,T⟩;exact .cons (zw.rep j q C) (l T)
  rcases h with⟨f,e⟩|⟨U,J,rfl,rfl,p⟩|⟨U,J,hy,rfl,es,p⟩
  ·rw[r.flat f];exact .inl ⟨e,fJ f⟩
  ·obtain⟨a,I,rfl,sq,g⟩:=r;exact .inr (.inl ⟨a,I,J,rfl,rfl,sq,both p g⟩)
  ·obtain⟨a,I,rfl,sq,g⟩:=fV j r hy es;exact .inr (.inr ⟨a,I,J,rfl,rfl,sq,both p g⟩)
theorem iK(h:uS y=true)(r:RV G H y v):∃a,v=.ref a:=by
 cases y with
 |ref a=>exact⟨a,r⟩
 |tup I=>obtain⟨a,J,e,_⟩:=r;exact⟨a,e⟩
 |sq I=>obtain⟨a,J,e,_⟩:=r;exact⟨a,e⟩
 |_=>cases h
theorem uG(K:Ae)(P:Program)(w:World)(g:X.A.units+128<cLine)(l:X.K=K:=by rfl)(o:X.prog=P:=by rfl)(hw:X.w=w:=by rfl):vz X (compareOp .Eq) (eQ ⟨K,P,w⟩ (vW false)):=by
 subst l o hw;refine EG (ah6 g) λx y H Q t C L p J U I z k=>?_;unfold vW at z;split at z
 ·rename_i i j;cases J;cases U;refine⟨rfl,?_⟩;have:decide (V.int i=V.int j)=nb false (decide (i=j)):=by rw[Br];simp[nb]
  rw[this];exact k _ H _ L (DO _) I (by rfl) z
 ·rename_i i j;cases J;cases U;refine⟨rfl,?_⟩;have:decide (V.str i=V.str j)=nb false (decide (i=j)):=by rw[Br];simp[nb]
  rw[this];exact k _ H _ L (DO _) I (by rfl) z
 ·rename_i i j;cases J;cases U;refine⟨rfl,?_⟩;have:decide (V.bl i=V.bl j)=nb false (decide (i=j)):=by rw[Br];simp[nb]
  rw[this];exact k _ H _ L (DO _) I (by rfl) z
 ·obtain⟨f1,f2,n,m,d,e,r,h1,h2,q⟩:=z;obtain⟨a,rfl⟩:=iK f1 J;obtain⟨b,rfl⟩:=iK f2 U;have q:p (.bl (Da.eq d e)) L:=q;exact⟨n,m,d,e,r,h1.rep I J,h2.rep I U,k _ H _ L (DO _) I (by rfl) q⟩
theorem alf(K:Ae)(P:Program)(w:World)(g:X.A.units+128<cLine)(l:X.K=K:=by rfl)(o:X.prog=P:=by rfl)(hw:X.w=w:=by rfl):vz X (compareOp .NotEq) (eQ ⟨K,P,w⟩ (vW true)):=by
 subst l o hw;refine EG (aiu g) λx y H Q t C L p J U I z k=>?_;unfold vW at z;split at z
 ·rename_i i j;cases J;cases U;refine⟨rfl,?_⟩;have:(!decide (V.int i=V.int j))=nb true (decide (i=j)):=by show _=!_;congr 1;rw[Br];simp
  rw[this];exact k _ H _ L (DO _) I (by rfl) z
 ·rename_i i j;cases J;cases U;refine⟨rfl,?_⟩;have:(!decide (V.str i=V.str j))=nb true (decide (i=j)):=by show _=!_;congr 1;rw[Br];simp
  rw[this];exact k _ H _ L (DO _) I (by rfl) z
 ·rename_i i j;cases J;cases U;refine⟨rfl,?_⟩;have:(!decide (V.bl i=V.bl j))=nb true (decide (i=j)):=by show _=!_;congr 1;rw[Br];simp
  rw[this];exact k _ H _ L (DO _) I (by rfl) z
 ·obtain⟨f1,f2,n,m,d,e,r,h1,h2,q⟩:=z;obtain⟨a,rfl⟩:=iK f1 J;obtain⟨b,rfl⟩:=iK f2 U;have q:p (.bl (!Da.eq d e)) L:=q;exact⟨n,m,d,e,r,h1.rep I J,h2.rep I U,k _ H _ L (DO _) I (by rfl) q⟩
theorem RV.non_iff(r:RV G H y v):decide (v=.non)=(match y with|.non=>true|_=>false):=by
 cases y with
 |non=>cases r;rfl
 |cd I=>obtain⟨a,rfl,_⟩:=r;rfl
 |tup J=>obtain⟨a,U,rfl,_⟩:=r;rfl
 |sq J=>obtain⟨a,U,rfl,_⟩:=r;rfl
 |_=>cases r;rfl
theorem aiz(σ:L2.St)(H:Hp)(Q:VK):ou G (aa5 false ta) σ H Q->ajw (ou G ta) σ H Q:=λ⟨U,L,t,g,j,z,k⟩=>
 ⟨U,L,_,g,j,z,λv l y o p I J r=>by dsimp only;rw[J.non_iff];cases y<;>exact k _ l _ o p I (by rfl) r⟩
theorem alq{t:TE}(h:∀σ H Q,ou G te σ H Q->t σ H Q)(σ:L2.St)(H:Hp)(Q:Bool->Hp->Prop):upT G (yB te) σ H Q->L2.tB t σ H Q:=λq=>h σ H _ (af5 σ H Q q)
theorem rG(h:QE X a ta):QT X (.Compare a [.Is] [.Constant .none j ir] pos) (yB (aa5 false ta)):=PT.imp (aiw (ag1 h)) (alq aiz)
end
section
variable {a b:Expr}{rest:List Expr}{ta tc:x6}{tB:hE}{tr:dM}
theorem nO(h:QT X a tA):QW X (.BoolOp .And [a] pos) tA:=ae3 h
theorem rK(h:QT X a tA):QW X (.BoolOp .Or [a] pos) tA:=ah0 h
theorem sM(h:QT X a tA)(k:QW X (.BoolOp .And (b::rest) pos) tB):QW X (.BoolOp .And (a::b::rest) pos) (adl tA tB):=PW.imq (agk h k) λt H Q U L o g p z k=>
 ⟨U,L,_,g,p,z,λc r j J I l=>by cases c with|true=>rw[AF rfl];exact⟨U,j,o,g.ts J,I,l,k.ts J⟩|false=>rw[AD AB];exact k _ r j J I l⟩
theorem tj(h:QT X a tA)(k:QW X (.BoolOp .Or (b::rest) pos) tB):QW X (.BoolOp .Or (a::b::rest) pos) (yOr tA tB):=PW.imq (akt h k) λt H Q U L o g p z k=>
 ⟨U,L,_,g,p,z,λc r j J I l=>by cases c with|true=>rw[AF rfl];exact k _ r j J I l|false=>rw[AD AB];exact⟨U,j,o,g.ts J,I,l,k.ts J⟩⟩
theorem l6(h:QW X a tA):QT X a tA:=PW.pt h
theorem gC(h:QT X a tA):QT X (.UnaryOp .Not a pos) (sI tA):=PT.imq (ahn h) λr H Q J L t U g z k=>
 ⟨J,L,_,U,g,z,λc j l o I p=>k _ j l o I p⟩
theorem sO{op:BoolOp}(h:QE X a ta):QE X (.BoolOp op [a] pos) ta:=ahz h
theorem sH(h:QE X a ta)(k:QE X (.BoolOp .And (b::rest) pos) tb):QE X (.BoolOp .And (a::b::rest) pos) (tw ta tb):=DQ (afx h k) λT H Q U L g o t z k=>
 ⟨U,L,_,o,t,z,λv C y J j I l p=>by
  cases y with
  |bl c=>
   refine⟨c,l,?_⟩;have r:ky c (tb U J g) (g (.bl false) J):=p;cases c with|true=>rw[AF rfl];exact⟨U,J,g,o.ts j,I,r,k.ts j⟩|false=>rw[AD AB];exact k _ C _ J j I (by rfl) r
  |_=>exact p.elim⟩
theorem ah7(h:QE X a ta):QE X (.UnaryOp .Not a pos) (af4 ta):=DQ (agd h) λt H Q g L C j l z k=>
 ⟨g,L,_,j,l,z,λv o y p r I J U=>by cases y with|bl c=>exact⟨c,J,k _ o _ p r I (by rfl) U⟩|_=>exact U.elim⟩
theorem jC(h:QT X c tA)(p:QE X a ta)(r:QE X b tb):QE X (.IfExp c a b pos) (yIf tA ta tb):=DQ (yp h p r) λC H Q U L j g t z k=>
 ⟨U,L,_,g,t,z,λc T l J I o=>by cases c with|true=>rw[AF rfl];exact⟨U,l,j,g.ts J,I,o,k.ts J⟩|false=>rw[AD AB];exact⟨U,l,j,g.ts J,I,o,k.ts J⟩⟩
theorem vq:QA X [] qu:=PA.imq cX λJ H Q U L g j I z k=>k _ H _ L (DO _) I (by rfl) z
theorem j9(h:QE X e te)(t:QA X es tr)(hs:Eb e es X:=by rfl):QA X (e::es) (q9 te tr):=PA.imq (w5 h t hs) λσ H Q j L Q3 l C z k=>
 ⟨j,L,_,l,C,z,λv H1 y T o I J z1=>⟨j,T,_,l.ts o,I,z1,λp H2 ys L2 r U g z2=>k (v::p) H2 (y::ys) L2 (o.trans r) U ⟨v,p,rfl,J.ts r,g⟩ z2⟩⟩
theorem qo(h:QA X es tr):QE X (.Tuple es x1 pos) (jf tr):=DQ (aaj h) λσ H Q l L Q3 o r z k=>
 ⟨l,L,_,o,r,z,λt H1 j C T U I J=>by
  cases e:Nat.ble j.length 1000 with
  |false=>rw[e] at J;exact J.elim
  |true=>
   rw[e] at J;have:=Ar e;refine⟨small (by rw[<-I.length];exact this),λp g=>?_⟩;exact k _ _ (.tup j) C (T.trans (DP g)) (U.skip g) ⟨p,t,rfl,cG.of zq,I.ts (DP g)⟩ J⟩
theorem z7(h:QA X es tr):QE X (.List es pos) (jn tr):=DQ (afu h) λC H Q j L T l o z k=>
 ⟨j,L,_,l,o,z,λvs H1 r L1 t I J U=>by
  cases e:Nat.ble r.length 1000 with
  |false=>rw[e] at U;exact U.elim
  |true=>
   rw[e] at U;have:=Ar e;refine⟨small (by rw[<-J.length];exact this),λp g=>?_⟩;exact k _ _ _ _ (t.trans (DP g)) (I.newL g J) (by rfl) (U p (I.none g))⟩
theorem cr{id:String}{r:List Y->qm->YK->Prop}(hc:jt X (.builtin id) (upL X.g3 r))(U:Gl X x)(g:X.mg x=none)(j:bootBuiltins x=some (.builtin id))(h:QA X (e::es) tr)
 (l:x ≠ "__name__" := by decide) (hd:Ed x:=by decide) (hs:Eb e es X:=by rfl) (o:Ec pos es X:=by rfl):
 QE X (.Call (.Name x p) (e::es) [] pos) (lK r tr):=DQ (fC hc U g j h l hd hs o) λσ H Q t L C T rl z k=>
 ⟨t,L,_,T,rl,z,λvs H1 ys L1 t1 I J z1=>⟨ys,L1,C,J,I,z1,k.ts t1⟩⟩
def upO(G:G3)(t:TO3):TO:=λσ H Q=>∃τ L I,x9 G H σ τ/\zx G H L/\t τ L I/\∀(o:Option Int) H' L',jc H H'->zx G H' L'->I o L'->Q o H'
abbrev QO(X:Cx)(e:Option Expr)(t:TO3):Prop:=PO X e (upO X.g3 t)
theorem PO.imp{e:Option Expr}{t u:TO}(h:PO X e t)(q:∀σ H Q,u σ H Q->t σ H Q):PO X e u:=λJ s σ H Q I z=>h J s σ H Q I (q σ H Q z)
theorem PO.imq{e:Option Expr}{t:TO}{u:TO3}(h:PO X e t)(q:∀σ H Q τ L I,x9 G H σ τ->zx G H L->u τ L I->(∀(o:Option Int) H' L',jc H H'->zx G H' L'->I o L'->Q o H')->t σ H Q):PO X e (upO G u):=PO.imp h λσ H Q ⟨τ,L,I,a,b,c,d⟩=>q σ H Q τ L I a b c d
theorem oO.imp{U:V->Option Int->Option Int->Hp->VK->Prop}(h:oO X r)(q:∀x lo hi H Q,U x lo hi H Q->r x lo hi H Q):oO X U:=by intro J s g H x v j l lo hi o Q I p t pl C z;exact h J s g H x v j l lo hi o Q I p t pl C (q _ _ _ _ _ z)
theorem ww:QO X none w4:=PO.imq aby λJ H Q U L g j I z k=>k _ H L (DO _) I z
theorem vg(h:QE X e te):QO X (some e) (aX te):=PO.imq (ae8 h) λt H Q g L C j l z k=>
 ⟨g,L,_,j,l,z,λv o y p r I J U=>by cases y with|int i=>exact⟨i,J,k _ o p r I U⟩|_=>exact U.elim⟩
def ad3(G:G3)(r:Y->Option Int->Option Int->qm->YK->Prop):V->Option Int->Option Int->Hp->VK->Prop:=λx lo hi H Q=>∃y L I,RV G H y x/\zx G H L/\r y lo hi L I/\oN G H I Q
theorem xx{lo hi:Option Expr}{tl th:TO3}{r:Y->Option Int->Option Int->qm->YK->Prop}(h:oO X (ad3 X.g3 r))(T:QE X a ta)(hl:QO X lo tl)(hh:QO X hi th):QE X (.Subscript a (.Slice lo hi none p2) pos) (uK r ta tl th):=
 DQ (y4 h T hl hh) λσ H Q I L Q3 J rl z k=>
 ⟨I,L,_,J,rl,z,λv H1 y L1 U g j z1=>⟨I,L1,_,J.ts U,g,z1,λo H2 L2 l p z2=>⟨I,L2,_,J.ts (U.trans l),p,z2,λo' H3 L3 C t z3=>⟨y,L3,Q3,j.ts (l.trans C),t,z3,k.ts (U.trans (l.trans C))⟩⟩⟩⟩
theorem mO(r:x5 G H ys xs)(lo hi:Option Int):x5 G H (eM ys lo hi) (qN xs lo hi):=by unfold eM qN;rw[r.length];exact(r.drop _).take _
theorem akd(K:Ae)(P:Program)(w:World)(l:X.K=K:=by rfl)(o:X.prog=P:=by rfl)(hw:X.w=w:=by rfl):oO X (ad3 ⟨K,P,w⟩ al0):=by
 subst l o hw;refine oO.imp ach λx lo g H Q ⟨y,L,Q3,j,J,z,k⟩=>?_;cases y with
 |ref a=>
  obtain⟨t,C,T⟩:=x8 z;obtain⟨U,sq,r⟩:=cc J (wr C);exact⟨a,U,j,sq,λp I=>k _ _ _ _ (DP I) (J.newL I (mO r lo g)) (by rfl) (T p (J.none I))⟩
 |sq t=>
  obtain⟨a,U,e,sf,r⟩:=j;exact⟨a,U,e,sf.sq,λp I=>k _ _ _ _ (DP I) (J.newL I (mO r lo g)) (by rfl) (z p (J.none I))⟩
 |_=>exact z.elim
end
section
variable {a b:Expr}{ta tc:x6}{tB:hE}{tr:dM}{rest u2:List Stmt}{t u:ke}
theorem jb:mF X [] xc:=fG.imq ace λD U H g L D3 I J z k=>k.nx _ H _ L (DO _) I J z
theorem qi(h:QS X st t):mF X [st] t:=t8 h
theorem qb(h:QS X st t)(k:mF X rest u):mF X (st::rest) (qw t u):=fG.imq (o3 h k) λD T H g L D3 j l z k=>
 ⟨g,L,{ D3 with nx:=u D3 },j,l,z,λo H1 I p r J U C=>⟨I,p,D3,J,U,C,k.ts r⟩,k.rt,k.bk,k.ct⟩
theorem o7:QS X (.Continue pos) af7:=DW qR λD U H g L D3 I J z k=>k.ct _ H _ L (DO _) I J z
theorem zj(h:QE X e te)(hs:swapsWith e none pos.line X.env=pure false:=by rfl):QS X (.Expr e pos) (jk te):=DW (tF h hs) λD t H g L D3 J j z k=>
 ⟨g,L,_,J,j,z,λv l y o U I p r=>k.nx _ l _ o U (J.ts U) I r⟩
theorem ze(h:QE X e te):QS X (.Return (some e) pos) (jx te):=DW (agr h) λD g H I L D3 J U z k=>⟨I,L,_,J,U,z,k.rt⟩
theorem tH:QS X (.Return none pos) xZ:=DW ade λD J H U L D3 g I z k=>k.rt _ H _ L (DO _) I (by rfl) z
theorem jp(h:QT X c tA)(o:mF X body t)(p:mF X u2 u):QS X (.If c body u2 pos) (xz tA t u):=DW (alz h o p) λD C H U L D3 g r z k=>
 ⟨U,L,_,g,r,z,λc T j J I l=>by cases c with|true=>rw[AF rfl];exact⟨U,j,D3,g.ts J,I,l,k.ts J⟩|false=>rw[AD AB];exact⟨U,j,D3,g.ts J,I,l,k.ts J⟩⟩
theorem vn(r:X.N.Nodup)(I:X.N[i]?=some x)(t:xR X.env.scope x)(h:QE X e te)(J:swapsWith e (some (.Name x ir)) pos.line X.env=pure false:=by rfl)
 (U:X.fn x=true\/X.env.scope.names.lookup x=some .local:=by first|exact .inl rfl|exact .inr rfl|assumption):QS X (.Assign [.Name x ir] e pos) (zk te (qf i)):=DW (agb r I t h J U) λD σ H l L D3 o C z k=>
 ⟨l,L,_,o,C,z,λv T y L1 p g j z1=>k.nx _ T _ L1 p (show x9 _ _ _ (bJ l i y) by rw[wy];exact(o.ts p).set j) g z1⟩
theorem cf(h:QE X e te)(o:QG X tg g)(h1:swapsWithSole [tg] e pos.line X.env=pure false:=by rfl)(h2:swappedStores [tg] e X.env=pure none:=by rfl)
 (h3:(assignEach [tg] X.env).map (·.2)=[assign tg X.env]:=by rfl):QS X (.Assign [tg] e pos) (zk te g):=DW (xJ h o h1 h2 h3) λD C H U L D3 j p z k=>
 ⟨U,L,_,j,p,z,λv T y r l I J t=>⟨y,U,r,_,J,j.ts l,I,t,k.nx.ts l⟩⟩
theorem PG.imp{t u:TG}(h:PG X e t)(q:∀v σ H Q,u v σ H Q->t v σ H Q):PG X e u:=λJ s σ H x v Q I r z=>h J s σ H x v Q I r (q _ _ _ _ z)
theorem zM.imp{e:List Expr}{t u:yR}(h:zM X e t)(q:∀v σ H Q,u v σ H Q->t v σ H Q):zM X e u:=λJ s σ H x v Q I r z=>h J s σ H x v Q I r (q _ _ _ _ z)
theorem kj(U:X.N.Nodup)(I:X.N[i]?=some x)(g:xR X.env.scope x)(J:X.fn x=true\/X.env.scope.names.lookup x=some .local:=by first|exact .inl rfl|exact .inr rfl|assumption):QG X (.Name x pos) (qf i):=
 PG.imp (iJ U I g J) λv r H Q ⟨y,j,L,t,l,o,p,z,k⟩=>k _ H _ L (DO _) (show x9 _ _ _ (bJ j i y) by rw[wy];exact o.set l) p z
theorem km:QGs X [] aE:=zM.imp tQ λj l H Q ⟨I,o,L,p,J,U,g,z,k⟩=>by cases I with|nil=>exact⟨J,k _ H _ L (DO _) U g z⟩|cons y r=>exact z.elim
theorem zh(h:QG X e g)(hs:QGs X es gs)(l:(assignEach (e::es) X.env).map (·.2)=assign e X.env::(assignEach es X.env).map (·.2):=by rfl):QGs X (e::es) (zp g gs):=
 zM.imp (i5 h hs l) λvs σ H Q ⟨o,p,L,t,C,T,rl,z,k⟩=>by
 cases o with
 |nil=>exact z.elim
 |cons y r=>
  obtain⟨x,xs,rfl,r1,r2⟩:=C;exact⟨x,xs,rfl,y,p,L,_,r1,T,rl,z,λa1 H1 I L1 j J U z1=>⟨r,I,L1,t,r2.ts j,J,U,z1,k.ts j⟩⟩
theorem aj{j:Nat}(hc:X.calm=true)(h:QGs X es gs)(h1:(assignEach es X.env).length=n:=by rfl)(h2:(assignEach es X.env).findIdx? (·.1)=none:=by rfl):QG X (.Tuple es j pos) (aZ n gs):=
 PG.imp (yJ hc h h1 h2) λv C H Q ⟨y,U,L,g,l,o,p,z,k⟩=>by
 cases y with
 |tup I=>
  obtain⟨a,t,rfl,sq,r⟩:=l;have J:(match I.length==n with|true=>gs I U L g|false=>False):=z;split at J
  ·rename_i e;exact⟨a,t,rfl,sq,by rw[<-r.length];exact beq_iff_eq.mp e,I,U,L,g,r,o,p,J,k⟩
  ·exact J.elim
 |_=>exact z.elim
theorem yV{y:Str}{px py pt:Pos}{k2:Nat}{I:Pos}(hc:X.calm=true)(t:X.N.Nodup)(hi:X.N[i]?=some x)(C:X.N[j]?=some y)(J:i≠j)(T:X.env.scope.names.lookup x=some .local)(ly:X.env.scope.names.lookup y=some .local)
 (h:QA X [a,b] tr) (h1:swappedStores [.Tuple [.Name x px,.Name y py] kt pt] (.Tuple [a,b] k2 I) X.env=pure (some [x,y])) (h2:swapsWithSole [.Tuple [.Name x px,.Name y py] kt pt] (.Tuple [a,b] k2 I) pos.line X.env=pure false:=by rfl):
 QS X (.Assign [.Tuple [.Name x px,.Name y py] kt pt] (.Tuple [a,b] k2 I) pos) (ahh i j tr):=DW (afj hc t hi C J T ly h h1 h2) λD σ H o L D3 p rl z k=>
 ⟨o,L,_,p,rl,z,λvs H1 ys L1 r U g l=>by
  split at l
  ·rename_i v w;obtain⟨x',y',rfl,r1,r2⟩:=g.inv2;exact⟨x',y',rfl,k.nx _ H1 _ L1 r (show x9 _ _ _ (bJ (bJ o i v) j w) by rw[wy,wy];exact((p.ts r).set r1).set r2) U l⟩
  ·exact l.elim⟩
theorem iQ(hp:PassesOwn (model X.prog X.w) X.A X.env X.xe)(h:QT X c tA)(hb:mF X body t):QS X (.While c body [] pos) (mX tA t):=PS.imp (ab4 hp h hb) λD σ H ⟨τ,L,D3,rs,rl,⟨W,⟨m0,w0⟩,turn⟩,k⟩=>by
 refine⟨λm r H1=>∃J C,jc H H1/\x9 X.g3 H1 r J/\zx X.g3 H1 C/\W m J C,⟨m0,τ,L,DO _,rs,rl,w0⟩,?_⟩;rintro m r H1 ⟨J,C,t1,l,a2,w1⟩;refine⟨J,C,_,l,a2,turn m J C w1,λb H2 L2 T a1 z2=>?_⟩;cases b with
 |false=>rw[AD AB];exact k.nx _ H2 _ L2 (t1.trans T) (l.ts T) a1 z2
 |true=>
  rw[AF rfl];obtain⟨N,hN,z2⟩:=z2;refine⟨λU g=>∃I j,jc H g/\x9 X.g3 g U I/\zx X.g3 g j/\N I j,?_,?_⟩
  ·rintro U g ⟨I,j,t',o,p,n'⟩;obtain⟨m',hm,w'⟩:=hN I j n';exact⟨m',hm,I,j,t',o,p,w'⟩
  ·have nx:kR X.g3 H2 (dt N) (λU g=>∃I j,jc H g/\x9 X.g3 g U I/\zx X.g3 g j/\N I j):=λU g I j t' o p ⟨L5,s5,n'⟩=>⟨I,L5,(t1.trans T).trans t',o,p.sub s5,n'⟩;have k2:=k.ts (t1.trans T);exact⟨J,L2,_,l.ts T,a1,z2,nx,k2.rt,k2.nx,nx⟩
theorem am{wi:TI3}(hp:PassesOwn (model X.prog X.w) X.A X.env X.xe)(hc:X.calm=true)(hi:QI X tg iter wi)(hg:QG X tg g)(hb:mF X body t)(hs:∀x,foldedSetIterable iter X.env x=pure x:=by intro _;rfl):
 QS X (.For tg iter body [] pos) (iU wi g t):=DW (afm hp hc hi hg hb hs) λD σ H τ L D3 rs rl z k=>by
 refine⟨τ,L,_,rs,rl,z,λJ H1 r keep L1 t1 a3 yl zz=>?_⟩;obtain⟨W,w0,wk,turn,xr⟩:=xI zz;refine⟨λi m U j=>∃I o,i+m=r.length/\jc H1 j/\x9 X.g3 j U I/\zx X.g3 j o/\W i I o,⟨r.length,τ,L1,by omega,DO _,rs.ts t1,a3,w0⟩,?_⟩;rintro i m ba H2 ⟨l,L2,bb,t2,a1,p,w2⟩;by_cases a2:i<r.length
 ·refine .inr ⟨yl.go i H2 L2 t2 p (wk i l L2 w2) a2,λU j=>∃I o,jc H1 j/\x9 X.g3 j U I/\zx X.g3 j o/\W (i+1) I o,?_,?_⟩
  ·rintro U j ⟨I,o,t',C,T,w'⟩;exact⟨m-1,by omega,I,o,by omega,t',C,T,w'⟩
  ·intro x H3 y3;have ey:r[i]?=some r[i]:=Aj a2;obtain⟨t3,a4,a5⟩:=yl.yld i H2 L2 x H3 _ t2 p (wk i l L2 w2) ey y3;refine⟨r[i],l,L2,_,a5,a1.ts t3,a4,turn i _ l L2 ey w2,λbc H4 ag L4 t4 al aL z4=>?_⟩;have nx:kR X.g3 H4 (dt (W (i+1))) (λU j=>∃I o,jc H1 j/\x9 X.g3 j U I/\zx X.g3 j o/\W (i+1) I o):=λU j I o t' C T ⟨L5,s5,n'⟩=>⟨I,L5,((t2.trans t3).trans t4).trans t',C,T.sub s5,n'⟩;have k2:=k.ts (t1.trans ((t2.trans t3).trans t4));exact⟨ag,L4,_,al,aL,z4,nx,k2.rt,k2.nx,nx⟩
 ·have e:i=r.length:=by omega
  subst e;exact .inl ⟨yl.stop H2 L2 t2 p (wk _ l L2 w2),k.nx _ H2 _ L2 (t1.trans t2) a1 p (xr l L2 w2)⟩
theorem PI.imp{t u:TI}(h:PI X tg e t)(q:∀σ H Q,u σ H Q->t σ H Q):PI X tg e u:=λJ s σ H Q I z=>h J s σ H Q I (q σ H Q z)
theorem PI.imq{t:TI}{u:TI3}(h:PI X tg e t)(q:∀σ H R τ L I,x9 G H σ τ->zx G H L->u τ L I->(∀J H' ys keep L',jc H H'->zx G H' L'->dq G H' J ys keep->I ys keep L'->R J H')->t σ H R):PI X tg e (upI G u):=PI.imp h λσ H R ⟨τ,L,I,a,b,c,d⟩=>q σ H R τ L I a b c d
theorem gR{a:Addr}{keep:qm->Prop}(h:∀H L,jc H₀ H->zx G H L->keep L->∃xs,aH G.K H a xs/\x5 G H ys xs):dq G H₀ (Itl G.K a) ys keep where
 go:=λi H L t I J U=>by
  obtain⟨xs,sq,r⟩:=h H L t I J;have:i<xs.length:=by rw[<-r.length];exact U
  exact⟨xs,xs[i],sq,Aj this⟩
 yld:=λi H L x o y t I J g ⟨e,f⟩=>by subst e;obtain⟨xs,sq,r⟩:=h _ L t I J;obtain⟨p,j,l⟩:=r.get g;have:=f xs sq;rw[j] at this;cases this;exact⟨DO _,I,l⟩
 stop:=λH L t I J=>by obtain⟨xs,sq,r⟩:=h H L t I J;exact⟨xs,sq,by rw[r.length];exact Al _⟩
theorem xl(h:QE X e te):QI X tg e (v4 te):=PI.imq (ad5 h) λσ H R τ L R3 rs l z k=>by
 refine⟨τ,L,_,rs,l,z,λv g y o C I U p=>?_⟩;cases y with
 |ref a=>
  obtain⟨j,keep,es,kp,hk,z2⟩:=qH p;have T:∀H L,jc g H->zx X.g3 H L->keep L->∃J,aH X.K H a J/\x5 X.g3 H j J:=λH L _ l e=>cc l (hk L e);obtain⟨J,sq,_⟩:=T g o (DO _) I kp;exact⟨a,U,⟨J,sq⟩,k _ g j _ o C I (gR T) z2⟩
 |sq j=>
  obtain⟨a,J,e,sf,r⟩:=U;exact⟨a,e,⟨J,sf.sq⟩,k _ g j (λ_=>True) o C I (gR λH L t _ _=>⟨J,(sf.ts t).sq,r.ts t⟩) p⟩
 |_=>exact p.elim
theorem pM(lo:Int)(n:Nat):dq G H₀ (Itr lo n) (aN lo n) (λ_=>True) where
 go:=λi H L t J g j=>show i<n by simpa[aN] using j
 yld:=λi H L x l y t J g U ⟨e,f⟩=>by
  subst e f;refine⟨DO _,J,?_⟩;unfold aN at U;rw[Am] at U;obtain⟨z,I,e⟩:=Au.mp U;have:=BY (i:=i) (n:=n) (by
   by_cases c:i<n
   ·exact c
   ·rw[BJ (by simp;omega)] at I;cases I)
  rw[this] at I;cases I;subst e;rfl
 stop:=λH L t J g=>by simp[aN,Itr]
theorem lB(g:Gl X "range")(l:X.mg "range"=none)(h:QA X [a] tr)(hs:starEach [a] X.env=[(false,eval a X.env)]:=by rfl):QI X tg (.Call (.Name "range" p) [a] [] pos) (rh tr):=
 PI.imq (vD g l h hs) λσ H R o L R3 t C z k=>by
 refine⟨o,L,_,t,C,z,λvs T ys L1 t1 J U I=>?_⟩;split at I
 ·rename_i j;obtain⟨x,rfl,r⟩:=U.inv1;cases r;exact⟨j,rfl,I.1.1,I.1.2,k _ T _ _ L1 t1 J (pM 0 _) I.2⟩
 ·exact I.elim
end
section
variable {T:List Str}{wi:TI3}{tr:dM}
theorem cZ:QF X [] mL:=PF.imp aj7 λJ H Q ⟨U,L,g,j,I,z,k⟩=>k _ H L (DO _) I z
theorem dh(h:QT X c tA):QF X [c] tA:=ai7 h
theorem aes{g2:TG}(a1:∀v σ H Q,upG G g v σ H Q->g2 v σ H Q)(σ:L2.St)(H:Hp)(Q:VK):ou G (oQ n wi g tA te) σ H Q->tLC n (upI G wi) g2 (upT G tA) (ou G te) σ H Q:=λ⟨τ,L,Q3,rs,rl,z,k⟩=>by
 refine⟨τ,L,_,rs,rl,z,λJ H1 l keep L1 t1 a2 yl zz=>?_⟩;obtain⟨hz,W,w0,wk,turn,xr⟩:=abx zz;refine⟨λi m vs H'=>∃I L',i+m=l.length/\I.length<=i/\jc H1 H'/\x5 G H' I vs/\zx G H' L'/\W i I L',⟨l.length,[],L1,by exact Nat.add_comm _ _,Al _,DO _,rfl,a2,w0⟩,?_⟩;rintro i m vs H2 ⟨I,L2,aL,ba,o,U,j,p⟩;by_cases r:i<l.length
 ·refine .inr ⟨yl.go i H2 L2 o j (wk i I L2 p) r,by rw[<-U.length];lia,?_⟩;intro x H3 y3;have ey:l[i]?=some l[i]:=Aj r;obtain⟨t3,a3,a4⟩:=yl.yld i H2 L2 x H3 _ o j (wk i I L2 p) ey y3;refine a1 _ _ _ _ ⟨l[i],_,L2,_,a4,(rs.ts ((t1.trans o).trans t3)).more n,a3,turn i _ I L2 ey p,λbb H4 t L4 t4 C a5 z4=>?_⟩;refine⟨t,L4,_,C,a5,z4,λb H5 L5 t5 T z5=>?_⟩;cases b with
  |true=>
   rw[AF rfl];refine⟨t,L5,_,C.ts t5,T,z5,λv6 H6 y6 L6 t6 ag al ⟨L7,s7,z6⟩=>?_⟩;have tt:=((t3.trans t4).trans t5).trans t6;exact⟨m-1,by omega,I++[y6],L7,by lia,by rw[Ad,CM];exact ai6,o.trans tt,(U.ts tt).app (x5.one al),ag.sub s7,z6⟩
  |false=>
   rw[AD AB];have tt:=(t3.trans t4).trans t5;obtain⟨L7,s7,z6⟩:=z5;exact⟨m-1,by lia,I,L7,by lia,by exact aob,o.trans tt,U.ts tt,T.sub s7,z6⟩
 ·have ei:i=l.length:=by lia
  subst ei;refine .inl ⟨yl.stop H2 L2 o j (wk _ I L2 p),by rw[<-U.length];lia,λD hD=>?_⟩;exact k _ _ _ _ ((t1.trans o).trans (DP hD)) (j.newL hD U) (by rfl) (xr I L2 p D (j.none hD))
structure TGx(X:Cx)(scope:Scope)(T:List Str)(target:Expr)(g:kF):Prop where
 ex:∃g2:TG,(∀C fp s₀ H₀,PG (X.comp scope T C fp s₀ H₀) target g2)/\lQ g2 X.N.length T.length/\∀v σ H Q,upG X.g3 g v σ H Q->g2 v σ H Q
theorem abb(i:Nat)(v:V)(σ:L2.St)(H:Hp)(Q:L2.St->Hp->Prop):upG G (qf i) v σ H Q->cV i v σ H Q:=λ⟨y,I,L,j,J,U,g,z,k⟩=>
 k _ H _ L (DO _) (show x9 _ _ _ (bJ I i y) by rw[wy];exact U.set J) g z
theorem xp(J:(X.N++[x]).Nodup)(U:∀C fp s₀ H₀,xR (X.comp scope [x] C fp s₀ H₀).env.scope x)(I:∀C fp s₀ H₀,(X.comp scope [x] C fp s₀ H₀).env.scope.names.lookup x=some .local):TGx X scope [x] (.Name x p) (qf X.N.length):=
 ⟨cV X.N.length,λC fp s₀ H₀=>iJ (X:=X.comp scope [x] C fp s₀ H₀) J (by show(X.N++[x])[X.N.length]?=some x;simp) (U C fp s₀ H₀) (.inr (I C fp s₀ H₀)),s9 _,abb _⟩
theorem u9{K:Ae}(n:Nat):lQ (agt K 2 (qS (cV n) (qS (cV (n+1)) agf))) n 2:=by
 rintro o I x H Q ⟨a,J,e,sq,len,v,r,U,w,g,j,l,q⟩;refine⟨a,J,e,sq,len,v,r,U,w,g,j,l,⟨by simp[I],λi u ei=>?_⟩,q⟩;have p:i<n:=by
  by_cases c:i<n
  ·exact c
  ·rw[Ax (by lia),BZ] at ei;split at ei<;>cases ei
 rw[Bp (by lia),Bp (by exact api)];exact ei
theorem aip(i j:Nat)(v:V)(σ:L2.St)(H:Hp)(Q:L2.St->Hp->Prop):upG G (aZ 2 (zp (qf i) (zp (qf j) aE))) v σ H Q->agt G.K 2 (qS (cV i) (qS (cV j) agf)) v σ H Q:=λ⟨y,U,L,g,o,p,t,z,k⟩=>by
 cases y with
 |tup I=>
  obtain⟨a,xs,rfl,sq,r⟩:=o;have J:(match I.length==2 with|true=>zp (qf i) (zp (qf j) aE) I U L g|false=>False):=z;split at J
  ·rename_i e;have C:I.length=2:=beq_iff_eq.mp e
   match I,C with
   |[T,y2],_=>
    obtain⟨x1,l,rfl,r1,r2⟩:=r.inv2;have z2:g (bJ (bJ U i T) j y2) L:=J;exact⟨a,_,rfl,sq,rfl,x1,[l],rfl,l,[],rfl,rfl,k _ H _ L (DO _) (by rw[wy,wy];exact(p.set r1).set r2) t z2⟩
  ·exact J.elim
 |_=>exact z.elim
theorem tL{y:Str}{I pt:Pos}(hc:X.calm=true)(U:(X.N++[x,y]).Nodup)(g:∀C fp s₀ H₀,(X.comp scope [x,y] C fp s₀ H₀).env.scope.names.lookup x=some .local)(J:∀C fp s₀ H₀,(X.comp scope [x,y] C fp s₀ H₀).env.scope.names.lookup y=some .local)
 (h1:∀env,(assignEach [.Name x p,.Name y I] env).length=2:=by intro _;rfl) (h2:∀env,(assignEach [.Name x p,.Name y I] env).findIdx? (·.1)=none:=by intro _;rfl)
 (h3:∀env,(assignEach [.Name x p,.Name y I] env).map (·.2)=assign (.Name x p) env::(assignEach [.Name y I] env).map (·.2):=by intro _;rfl) (j:∀env,(assignEach [.Name y I] env).map (·.2)=assign (.Name y I) env::(assignEach [] env).map (·.2):=by intro _;rfl):
 TGx X scope [x,y] (.Tuple [.Name x p,.Name y I] kt pt) (aZ 2 (zp (qf X.N.length) (zp (qf (X.N.length+1)) aE))):=
 ⟨_,λC fp s₀ H₀=>yJ (X:=X.comp scope [x,y] C fp s₀ H₀) hc (i5 (iJ U (by show(X.N++[x,y])[X.N.length]?=some x;simp) (.inl (g C fp s₀ H₀)) (.inr (g C fp s₀ H₀))) (i5 (iJ U (by show(X.N++[x,y])[X.N.length+1]?=some y;simp) (.inl (J C fp s₀ H₀)) (.inr (J C fp s₀ H₀))) tQ (j _)) (h3 _)) (h1 _) (h2 _),u9 _,aip _ _⟩
theorem fP(T:List Str)(S:jg X scope)(hc:X.calm=true)(hi:QI X target iter wi)(I:TGx X scope T target g)
 (J:∀C fp s₀ H₀,QF (X.comp scope T C fp s₀ H₀) r4 tA) (U:∀C fp s₀ H₀,QE (X.comp scope T C fp s₀ H₀) sx te)
 (hs:∀x,foldedSetIterable iter X.env x=pure x:=by intro _;rfl):QE X (.ListComp sx [⟨target,iter,r4,0⟩] scope pos) (oQ T.length wi g tA te):=by
 obtain⟨g2,h1,h2,h3⟩:=I.ex;exact EE (alb T S hc hi h1 h2 J U hs) (aes h3)
theorem aw(T:List Str){px o:Pos}(hN:X.N.Nodup)(I:X.N[i]?=some x)(hx:xR X.env.scope x)(S:jg X scope)(hc:X.calm=true)(hi:QI X target iter wi)
 (hg:TGx X scope T target g) (hf:∀C fp s₀ H₀,QF (X.comp scope T C fp s₀ H₀) r4 tA) (he:∀C fp s₀ H₀,QE (X.comp scope T C fp s₀ H₀) sx te)
 (J:swapsWith (.ListComp sx [⟨target,iter,r4,0⟩] scope o) (some (.Name x px)) pos.line X.env=pure true:=by rfl)
 (U:X.fn x=true\/X.env.scope.names.lookup x=some .local:=by first|exact .inl rfl|exact .inr rfl|assumption)
 (hs:∀x,foldedSetIterable iter X.env x=pure x:=by intro _;rfl):QS X (.Assign [.Name x px] (.ListComp sx [⟨target,iter,r4,0⟩] scope o) pos) (zk (oQ T.length wi g tA te) (qf i)):=by
 obtain⟨g2,h1,h2,h3⟩:=hg.ex;refine PS.imp (ye (tc:=upT X.g3 tA) (te:=ou X.g3 te) T hN I hx S hc hi h1 h2 hf he J U hs) λD σ H ⟨p,L,D3,r,rl,z,k⟩=>?_;refine aes h3 σ H _ ⟨p,L,_,r,rl,z,λv H1 y L1 t j l z1=>?_⟩;exact k.nx _ H1 _ L1 t (show x9 _ _ _ (bJ p i y) by rw[wy];exact(r.ts t).set l) j z1
def dn(G:G3)(sp:xm):Sp:=λvs H Q _=>∃ys L I,x5 G H ys vs/\zx G H L/\sp ys L I/\oN G H I Q
abbrev aic(P:Program)(w:World)(K:Ae)(mg:Str->Option Value)(base:Heap)(k:Nat)(x:Str)(ps:List Str)(sp:xm):Prop:=wT P w K mg base k x ps (dn ⟨K,P,w⟩ sp)
abbrev Fn3(P:Program)(w:World)(K:Ae)(mg:Str->Option Value)(base:Heap)(k:Nat)(f:Addr)(fd:FuncData)(ps:List Str)(sp:xm):Prop:=aW P w K mg base CX0 k f fd ps (dn ⟨K,P,w⟩ sp)
theorem aoy{k:Nat}{sp:xm}(c:aic X.prog X.w X.K X.mg X.base k x ps sp)(j:k8 k X.A)(l:Gl X x)(o:QA X (e::es) tr)(I:Ed x:=by decide)
 (r:Eb e es X:=by rfl) (J:Ec pos es X:=by rfl):QE X (.Call (.Name x p) (e::es) [] pos) (zf sp tr):=
 DQ (aps c j l o I r J) λσ H Q t L C T rl z k=>
 ⟨t,L,_,T,rl,z,λvs H1 ys L1 t1 U g z1=>⟨ys,L1,C,by rw[AX];exact g,U,z1,k.ts t1⟩⟩
def gE(Q:YK):YK:=λy L=>∃L2,qh L2 L/\Q y L2
def cR(N:List Str)(ys:List Y):jh:=ys.map some++List.replicate (N.length-ys.length) none
theorem fb{N:List Str}{vs:List V}(r:x5 G H ys vs):x9 G H (L2.start N vs) (cR N ys):=by unfold L2.start cR;rw[<-r.length];refine x9.more ⟨by simp[r.length],λi y e=>?_⟩ _;rw[Am] at e;obtain⟨g,I,J⟩:=Au.mp e;cases J;obtain⟨x,ex,U⟩:=r.get I;exact⟨x,by rw[Am,ex];rfl,U⟩
theorem ok3{P:Program}{w:World}{K:Ae}{N:List Str}{k:Nat}{sp:xm}(F:Fun K x fx st f fd)(S:kn N ps (qr st))(len:∀ys L Q,sp ys L Q->ys.length=ps.length)
 (I:∀(g7:Value) (A:Around) (outer:List Env) (s:Shared) (H:Hp) (E:XK),k8 k (A.deeper (PyProof.Rows.envOfC fx (qr st) s.heap.objs.size f g7))->
  ∃t,mF (bq CX0 P w K mg base N fx (qr st) f g7 A outer s H E).nox (je st) t/\∀ys L Q,sp ys L Q->t { nx:=λ_ L'=>gE Q .non L',rt:=gE Q } (cR N ys) L):Fn3 P w K mg base (k+1) f fd ps sp:=by
 refine F.ok S (λT H Q E ⟨ys,L,U,g,C,z,_⟩=>by rw[<-g.length];exact len ys L U z) λg7 A outer s H T Q E hr ⟨ys,L,U,g,C,z,k⟩=>?_;obtain⟨t,ht,q⟩:=I g7 A outer s H E hr;refine⟨_,ht,cR N ys,L,_,fb g,C,q ys L U z,?_⟩;refine⟨λσ j τ L' l a1 J ⟨L2,o,p⟩=>k .non j .non L2 l (J.sub o) (by rfl) p,λv j y L' l J r ⟨L2,o,p⟩=>k v j y L2 l (J.sub o) r p,λ_ _ _ _ _ _ _ z=>z.elim,λ_ _ _ _ _ _ _ z=>z.elim⟩
def yd(G:G3)(r:Y->List Y->qm->YK->Prop):V->List V->Hp->VK->Prop:=λx xs H Q=>∃y ys L I,RV G H y x/\x5 G H ys xs/\zx G H L/\r y ys L I/\oN G H I Q
theorem eF.imq{id:String}{r:V->List V->Hp->VK->Prop}{u:Y->List Y->qm->YK->Prop}(h:eF X id r)(q:∀x xs H Q y ys L I,RV G H y x->x5 G H ys xs->zx G H L->u y ys L I->oN G H I Q->r x xs H Q):eF X id (yd G u):=eF.imp h λx xs H Q ⟨y,ys,L,I,a,b,c,d,e⟩=>q x xs H Q y ys L I a b c d e
theorem aax:eF X "list.append" (yd X.g3 j8):=eF.imq wA λx p H Q y t L C U g J z k=>by
 unfold j8 at z;split at z
 ·rename_i a v;obtain⟨T,e,z⟩:=x8 z;obtain⟨j,I,r⟩:=J a _ e;obtain⟨l,rfl,o⟩:=g.inv1;exact⟨a,j,l,U,rfl,I,by rw[<-r.length];exact z.1,k _ _ _ _ (DZ I) (J.setL I (r.app (x5.one o))) (by rfl) z.2⟩
 ·exact z.elim
theorem aat:eF X "list.extend" (yd X.g3 bZ):=eF.imq ud λx T H Q y ys L Q3 g j I z k=>by
 unfold bZ at z;split at z
 ·rename_i a b;obtain⟨zs,e,z⟩:=x8 z;obtain⟨us,l,z⟩:=x8 z;obtain⟨o,J,r⟩:=I a _ e;obtain⟨p,t,U⟩:=I b _ l;obtain⟨v',rfl,C⟩:=j.inv1;cases C;exact⟨a,b,o,p,g,rfl,J,t,by rw[<-r.length,<-U.length];exact z.1,k _ _ _ _ (DZ J) (I.setL J (r.app U)) (by rfl) z.2⟩
 ·exact z.elim
theorem ak7:eF X "list.pop" (yd X.g3 wR):=eF.imq ain λx l H Q y T L Q3 o p U z k=>by
 unfold wR at z;split at z
 ·rename_i a;obtain⟨g,e,z⟩:=x8 z;obtain⟨t,I,r⟩:=U a _ e;cases (show l=[] from p);cases J:g[g.length-1]? with
  |none=>rw[J] at z;exact z.elim
  |some v=>
   rw[J] at z;obtain⟨u,j,C⟩:=r.get J;rw[r.length] at j;exact⟨a,t,u,o,rfl,I,j,k _ _ _ _ (DZ I) (U.setL I r.dropLast) (C.ts (DZ I)) z⟩
 ·exact z.elim
theorem uD(I:zx G H L)(h:cD L (.ref a)=some ys):tyV G.K "list" (.ref a) H:=by obtain⟨J,sq,_⟩:=cc I h;exact .inl ⟨rfl,J,sq⟩
def aT(r:Y->List Y->qm->YK->Prop)(to:x6)(t:dM)(τ:jh)(L:qm)(Q:YK):Prop:=to τ L λx L1=>match x with
 |.ref a=>gK L1 (.ref a) λ_=>t τ L1 λxs L2=>r (.ref a) xs L2 Q
 |_=>False
theorem m9{id:String}{r:Y->List Y->qm->YK->Prop}(h2:Slot "list" name id)(h3:typeOf (.builtin id)=pure (.type "method_descriptor"))(hm:eF X id (yd X.g3 r))(ho:QE X o to)(ha:QA X (e::es) tr)
 (h4:attributeBase o name X.env (eval o X.env)=eval o X.env:=by rfl)
 (h5:((backTo fm (starEach (e::es) X.env)).all (λx=>!x.1)&&(backToKw fm (keywordEach [] X.env)).all (λx=>x.1.isSome)&&decide ((e::es).length+([]:List Keyword).length+(if ([]:List Keyword).isEmpty=true then 0 else 1)<30))=true:=by rfl)
 (h6:(apos.endLine==fm.line)=true:=by rfl) (h7:Eb e es X:=by rfl) (h8:Ec fm es X:=by rfl):
 QE X (.Call (.Attribute o name apos) (e::es) [] fm) (aT r to tr):=DQ (afg Dv h2 h3 hm ho ha h4 h5 h6 h7 h8) λσ H Q l L Q3 p rl z k=>
 ⟨l,L,_,p,rl,z,λv H1 y L1 t I J U=>by
  split at U
  ·rename_i a;obtain⟨C,es,U⟩:=aB U;exact⟨by cases J;exact uD I es,l,L1,_,p.ts t,I,U,λvs H2 C L2 T g j z2=>⟨.ref a,C,L2,Q3,J.ts T,j,g,z2,k.ts (t.trans T)⟩⟩
  ·exact U.elim⟩
theorem yQ{id:String}{r:Y->List Y->qm->YK->Prop}(h2:Slot "list" name id)(h3:typeOf (.builtin id)=pure (.type "method_descriptor"))(g:eF X id (yd X.g3 r))(j:QE X o to)
 (l:attributeBase o name X.env (eval o X.env)=eval o X.env:=by rfl) (p:(apos.endLine==fm.line)=true:=by rfl):
 QE X (.Call (.Attribute o name apos) [] [] fm) (aT r to qu):=DQ (agn Dv h2 h3 g j l p) λσ H Q t L C T rl z k=>
 ⟨t,L,_,T,rl,z,λv H1 y L1 t1 I J U=>by
  split at U
  ·rename_i a;obtain⟨ys,es,U⟩:=aB U;exact⟨by cases J;exact uD I es,.ref a,[],L1,C,J,rfl,I,U,k.ts t1⟩
  ·exact U.elim⟩
theorem zg(I:QE X o to)(J:QA X (e::es) tr)(U:attributeBase o "append" X.env (eval o X.env)=eval o X.env:=by rfl)
 (g:((backTo fm (starEach (e::es) X.env)).all (λx=>!x.1)&&(backToKw fm (keywordEach [] X.env)).all (λx=>x.1.isSome)&&decide ((e::es).length+([]:List Keyword).length+(if ([]:List Keyword).isEmpty=true then 0 else 1)<30))=true:=by rfl)
 (j:(apos.endLine==fm.line)=true:=by rfl) (l:Eb e es X:=by rfl) (p:Ec fm es X:=by rfl):
 QE X (.Call (.Attribute o "append" apos) (e::es) [] fm) (aT j8 to tr):=m9 PySem.F.slot_list_append PySem.F.type_list_append aax I J U g j l p
theorem dG(I:QE X o to)(J:QA X (e::es) tr)(U:attributeBase o "extend" X.env (eval o X.env)=eval o X.env:=by rfl)
 (g:((backTo fm (starEach (e::es) X.env)).all (λx=>!x.1)&&(backToKw fm (keywordEach [] X.env)).all (λx=>x.1.isSome)&&decide ((e::es).length+([]:List Keyword).length+(if ([]:List Keyword).isEmpty=true then 0 else 1)<30))=true:=by rfl)
 (j:(apos.endLine==fm.line)=true:=by rfl) (l:Eb e es X:=by rfl) (p:Ec fm es X:=by rfl):
 QE X (.Call (.Attribute o "extend" apos) (e::es) [] fm) (aT bZ to tr):=m9 PySem.F.slot_list_extend PySem.F.type_list_extend aat I J U g j l p
theorem yk(I:QE X o to)(J:attributeBase o "pop" X.env (eval o X.env)=eval o X.env:=by rfl)(U:(apos.endLine==fm.line)=true:=by rfl):
 QE X (.Call (.Attribute o "pop" apos) [] [] fm) (aT wR to qu):=yQ PySem.F.slot_list_pop PySem.F.type_list_pop ak7 I J U
end
abbrev fi:kW:=yI0 λi j=>.int (i-j)
abbrev zV:kW:=yI yD λi j=>.int (i*j)
abbrev aF:kW:=yI ahx λi j=>.int (i / j)
abbrev vi:kW:=yI (λ_ j=>0<j) λi j=>.int (i % j)
abbrev ap1:kW:=yI aik λi j=>.int (i ^ j.toNat)
abbrev yLt:kW:=yI0 λi j=>.bl (decide (i<j))
abbrev yLe:kW:=yI0 λi j=>.bl (decide (i<=j))
abbrev yGt:kW:=yI0 λi j=>.bl (decide (j<i))
def aer(kvs:List (Str×Str)):LO:=.dct (kvs.map λp=>(Sum.inr p.1,Y.str p.2))
def af0(kvs:List (Str×Str))(_:jh)(L:qm)(Q:YK):Prop:=∀p,L p=none->Q (.ref p) (qg L p (aer kvs))
def kvV(kvs:List (Str×Str)):List (j7×V):=kvs.map λp=>(Sum.inr p.1,V.str p.2)
theorem qD{σ:L2.St}{H:Hp}{Q:List (V×V)->Hp->Prop}:∀{kvs:List (Str×Str)},Q (kvs.map λp=>(V.str p.1,V.str p.2)) H->mY (kvs.map λp=>(tC (.str p.1),tC (.str p.2))) σ H Q
 |[],h=>h
 |_::r,h=>qD (kvs:=r) h
theorem uB{G:G3}{H:Hp}:∀kvs:List (Str×Str),Paired (λ(p:j7×Y) (q:j7×V)=>p.1=q.1/\RV G H p.2 q.2) (kvs.map λp=>(Sum.inr p.1,Y.str p.2)) (kvV kvs)
 |[]=>.nil
 |_::r=>.cons ⟨rfl,rfl⟩ (uB r)
theorem abq{keys:List (Option Expr)}{values:List Expr}(kvs:List (Str×Str))(h:PPs X pos keys values (kvs.map λp=>(tC (.str p.1),tC (.str p.2))))(h1:(keys.all λx=>x.isSome)=true)(h2:keys.length=values.length)(h3:keys≠[])(U:keys.length<=15)
 (g:kvs.length<=15:=by decide) (nd:gJ [] (kvV kvs)=kvV kvs:=by decide +kernel):QE X (.Dict keys values pos) (af0 kvs):=DQ (ac6 h h1 h2 h3 U) λj H Q l L o r J z k=>by
 intro p I;refine qD ⟨zq,kvV kvs,by simp[kvV,kV],by simpa[kvV] using g,?_⟩;rw[nd,aeg];refine k _ _ _ (qg L p (aer kvs)) (DP I) ?_ (by rfl) (z p (J.none I));intro a u e;by_cases c:a=p
 ·subst c;rw[q8] at e;cases e;exact⟨kvV kvs,zq,uB kvs⟩
 ·rw[qd c] at e;exact(J a u e).keep (DP I) (qp c)
theorem l9{Q:α->qm->Prop}{o:Option α}(h:sh L Q o):∃v,o=some v/\Q v L:=by cases o with|none=>exact h.elim|some v=>exact⟨v,rfl,h⟩
theorem gv{kvs:List (Str×Str)}{k:Str}(h:kvs.lookup k=some x):xt (kvs.map λp=>((Sum.inr p.1:j7),Y.str p.2)) (Sum.inr k)=some (Y.str x):=by
 induction kvs with
 |nil=>simp at h
 |cons p r I=>
  obtain⟨a,b⟩:=p;unfold xt;rw[AA,Bd];rw[Bj] at h;by_cases c:k=a
  ·subst c;simp at h;simp[h]
  ·have c1:(k==a)=false:=by simpa using c
   rw[c1] at h;have c2:decide ((Sum.inr a:j7)=Sum.inr k)=false:=Az λz=>c (Em z).symm;simp only[c2];exact I h
theorem uE(h:(aN lo n)[i]?=some y):i<n/\y=.int (lo+i):=by
 unfold aN at h;rw[Am] at h;obtain⟨z,I,e⟩:=Au.mp h;have J:i<n:=by
  by_cases c:i<n
  ·exact c
  ·rw[BJ (by simp;exact yg)] at I;cases I
 rw[BY J] at I;cases I;exact⟨J,e.symm⟩
theorem jR(lo:Int)(n:Nat):(aN lo n).length=n:=by simp[aN]
theorem abt{tb:ke}(W:Nat->jh->qm->Prop)(h0:W 0 τ L)
 (hs:∀i τ L,i<n->W i τ L->g (.int (lo+i)) τ L λI L2=>tb { D with nx:=dt (W (i+1)),ct:=dt (W (i+1)),bk:=D.nx } I L2) (hd:∀τ L,W n τ L->D.nx τ L):rV (aN lo n) (λ_=>True) g tb D τ L:=by
 refine wv ⟨W,h0,λ_ _ _ _=>trivial,λi y τ L e w=>?_,λτ L w=>hd τ L (by rw[jR] at w;exact w)⟩;obtain⟨J,rfl⟩:=uE e;exact hs i τ L J w
theorem zT{v:Y}{Q:YK}(e:L a=some (.lst (ys++[v])))(q:Q v (qg L a (.lst ys))):gK L (.ref a) (λ_=>qu τ L λxs L2=>wR (.ref a) xs L2 Q):=by
 refine qc e (qz e ?_);have:(ys++[v])[(ys++[v]).length-1]?=some v:=by simp
 rw[this,List.dropLast_concat];exact q
theorem acm{tb:ke}(h:cD L (.ref a)=some ys)(W:Nat->jh->qm->Prop)(h0:W 0 τ L)(J:∀i τ L',W i τ L'->L' a=L a)
 (hs:∀i y τ L,ys[i]?=some y->W i τ L->g y τ L λI L2=>tb { D with nx:=dt (W (i+1)),ct:=dt (W (i+1)),bk:=D.nx } I L2) (hd:∀τ L,W ys.length τ L->D.nx τ L):
 qE L a λys keep L1=>rV ys keep g tb D τ L1:=jy (kZ h) λkeep U=>wv ⟨W,h0,λi τ L' w=>U L' (J i τ L' w),hs,hd⟩
theorem aV{keep:qm->Prop}{tc:hE}{Q:YK}(I:Nat->List Y->Prop)(hz:ys.length<sizeLine)(j:keep L)(h0:I 0 [])
 (turn:∀(i:Nat) y zs,ys[i]?=some y->I i zs->g y (τ++List.replicate n none) L λJ L2=>tc J L2 λb L3=>ky b (te J L3 λz l=>dt (λzs L'=>L'=L/\I (i+1) zs) (zs++[z]) l) (dt (λzs L'=>L'=L/\I (i+1) zs) zs L3))
 (o:∀zs,I ys.length zs->∀p,L p=none->Q (.ref p) (qg L p (.lst zs))):lcK ys keep n g tc te τ L Q:=by
 refine mW ⟨hz,λi zs L'=>L'=L/\I i zs,⟨rfl,h0⟩,?_,?_,?_⟩
 ·rintro i zs L' ⟨rfl,_⟩;exact j
 ·rintro i y zs L' r ⟨rfl,U⟩;exact turn i y zs r U
 ·rintro zs L' ⟨rfl,U⟩ p t;exact o zs U p t
theorem afk{tc:hE}{Q:YK}(I:Nat->List Y->Prop)(hz:m<sizeLine)(h0:I 0 [])
 (turn:∀(i:Nat) zs,i<m->I i zs->g (.int (lo+i)) (τ++List.replicate n none) L λJ L2=>tc J L2 λb L3=>ky b (te J L3 λz j=>dt (λzs L'=>L'=L/\I (i+1) zs) (zs++[z]) j) (dt (λzs L'=>L'=L/\I (i+1) zs) zs L3))
 (l:∀zs,I m zs->∀p,L p=none->Q (.ref p) (qg L p (.lst zs))):lcK (aN lo m) (λ_=>True) n g tc te τ L Q:=by
 refine aV (keep:=λ_=>True) I (by rw[jR];exact hz) trivial h0 (λi y zs e U=>?_) λzs U=>l zs (by rw[jR] at U;exact U);obtain⟨o,rfl⟩:=uE e;exact turn i zs o U
theorem uA(ys:List Y)(n:Nat):eM ys none (some ((n:Nat):Int))=ys.take n:=by
 unfold eM;rw[HT.sIx_nat,HT.sIx_none,C9,Nat.sub_zero];by_cases h:n<=ys.length
 ·rw[BL h]
 ·rw[Dw (by lia),Be (Al _),Be (by lia)]
theorem aP{I:List α}{f:α->Y}{w:α}(h:I[i]?=some w):dz (I.map f) (i:Int)=some (f w):=zv (by rw[Am,h];rfl)
def v0(t:ke)(n:Nat)(ys:List Y)(L:qm)(Q:YK):Prop:=t { nx:=λ_ L'=>gE Q .non L',rt:=gE Q } (ys.map some++List.replicate (n-ys.length) none) L
theorem xr{Q:YK}(h:Q y L):gE Q y L:=⟨L,DN L,h⟩
theorem cU{Q:YK}(s:qh L L')(h:Q y L):gE Q y L':=⟨L,s,h⟩
theorem Fn3.never{P:Program}{w:World}{K:Ae}{k:Nat}{sp:xm}(no:∀ys L Q,¬sp ys L Q):Fn3 P w K mg base k f fd ps sp:=
 aW.never λJ H Q E ⟨ys,L,I,_,_,z,_⟩=>no ys L I z
theorem qh.upd{o:LO}(s:qh L L')(h:L a=none):qh L (qg L' a o):=λb u e=>by rw[qd (wu e h)];exact s b u e
theorem qh.put{o:LO}(s:qh L L')(h:L' a=some o):qh (qg L a o) L':=λb u e=>by
 by_cases c:b=a
 ·subst c;rw[q8] at e;cases e;exact h
 ·rw[qd c] at e;exact s b u e
abbrev EH:=@qh.put
theorem oo{G:G3}{H:Hp}:∀I:List Int,x5 G H (I.map Y.int) (I.map V.int)
 |[]=>rfl
 |_::r=>⟨_,_,rfl,rfl,oo r⟩
end L3
namespace L2
open PySem PySem.Spec PyProof.Rows
section
variable {σ:L2.St}
theorem kA(I:qy X pins σ H s)(U:∀b∈fp,H b=none)(k:∀b o,b∉fp->s.heap.get? b=some o->h'.get? b=some o):cH X.prog X.w H h':=λb u e=>by
 refine(I.hok b u e).stay (λc v g q=>k c v (λz=>?_) q) (λ_ q=>q) λ_ _ q=>q;have J:=U c z;rcases g with w|w
 ·rw[w,e] at J;cases J
 ·rw[w] at J;cases J
theorem ut{fs:List Addr}(k:∀b o,b∉fp->h.get? b=some o->h'.get? b=some o):Un fs fp H H h h':=
 ⟨λb o q _ _ x=>k b o x q,λb o q _ _ x=>⟨o.slots,k b o x q⟩,λ_ _ _ n _=>n,λb o q x=>⟨o,k b o x q⟩,λ_ _ q=>q,λ_ _ _ q=>q,λb I q=>⟨#[],by rw[q];simp⟩⟩
theorem qy.turnedL(I:qy X pins σ H s)(k:∀b o,b∉fp->s.heap.get? b=some o->h'.get? b=some o)(U:∀b∈fp,kJ X pins H b)(g:0<t':=by walk_at "t"):qy X pins σ H { s with heap:=h',toks:=t' }:=
 I.call' (s':={ s with heap:=h',toks:=t' }) (ch:=fp) rfl (ut k) (kA I (λb J=>(U b J).1) k) I.bare λb J=>⟨(U b J).2.2.2.1,(U b J).2.1,(U b J).2.2.2.2.1,(U b J).2.2.2.2.2⟩
theorem qy.turnedN{o:HO}(I:qy X pins σ H s)(k:∀b o,b∉fp->s.heap.get? b=some o->h'.get? b=some o)(g:∀b∈fp,kJ X pins H b)(l:s.heap.objs.size<=a)
 (new:x4 X.prog X.w (upd H a o) h' a o) (r:0<t':=by walk_at "t"):qy X pins σ (upd H a o) { s with heap:=h',toks:=t' }:=by
 have j:H a=none:=I.hok.fresh l;have lt:∀b J,s.heap.get? b=some J->b≠a:=λb J q=>A1 (AH (At q) l);refine I.call' (s':={ s with heap:=h',toks:=t' }) (ch:=fp) rfl ?_ ?_ I.bare λb U=>⟨(g b U).2.2.2.1,(g b U).2.1,(g b U).2.2.2.2.1,(g b U).2.2.2.2.2⟩
 ·exact⟨λb J q _ _ x=>k b J x q,λb J q _ _ x=>⟨J.slots,k b J x q⟩,λb J q n _=>by rw[qp (lt b J q)];exact n,λb J q x=>⟨J,k b J x q⟩,
   λb p q=>by rw[qp (zy q j)];exact q,λb J u q=>by rw[qp (zy q j)];exact q,λb t q=>⟨#[],by rw[qp (zy q j),q];simp⟩⟩
 ·intro b u e;by_cases U:b=a
  ·subst U;rw[zq] at e;cases e;exact new
  ·rw[qp U] at e;have ok:=kA I (h':=h') (λb U=>(g b U).1) k b u e;exact ok.stay (λ_ _ _ q=>q) (λc q=>by rw[qp (zy q j)];exact q) λc p q=>by rw[qp (zy q j)];exact q
end
def Ite(K:Ae)(a:Addr):It:=
 ⟨λi H=>∃xs x,aH K H a xs/\xs[i]?=some x,λi H v H'=>∃p x,H p=none/\v=.ref p/\H'=upd H p (.tup [.int i,x])/\∀xs,aH K H a xs->xs[i]?=some x,λi H=>∃xs,aH K H a xs/\xs.length<=i⟩
theorem u6{P:Program}{w:World}{K:Ae}(a e it:Addr)(l:e≠it):vX P w K (.Tuple sy x1 tp) (Ite K a) [e,it] e (λi h=>(∃old,IsEnum h e it i old)/\h.IsListIter it a i) where
 mem:=by simp
 obj:=λi h ⟨⟨old,J⟩,U⟩ b g=>by
  rcases Ap.mp g with rfl|g
  ·exact⟨_,J,λv z=>by cases z⟩
  ·cases Ag.mp g;obtain⟨o,T,hc,hd⟩:=U;exact⟨o,T,λv z=>by rw[hd] at z;cases z⟩
 keep:=λi h h' ⟨⟨old,J⟩,U⟩ k=>⟨⟨old,k e (by simp) _ J⟩,U.at λo q=>k it (by simp) o q⟩
 item:=by
  intro X hP hw hK hc i r s σ H E I t ⟨⟨old,J⟩,U⟩ hg;subst hP hw hK;obtain⟨xs,x,C,hx⟩:=hg;obtain⟨a1,rv,p,hz⟩:=I.list C;obtain⟨u,hu,ru⟩:=rv.get hx;refine wpAny_pyNext_enum_item J U p.isList (x:=u) (by simpa using hu) l λh1 a2 a3 ht ag hk=>⟨.ref s.heap.objs.size,rfl,wpAny_letOwnedTupleGo_enum a2 λh2 a4 j=>?_⟩;have el:e<s.heap.objs.size:=At J;have il:it<s.heap.objs.size:=by obtain⟨o,T,_⟩:=U;exact At T
  have kk:∀b o,b∉[e,it]->s.heap.get? b=some o->h2.get? b=some o:=λb o nb q=>by have n1:b≠e:=λz=>nb (by simp[z]);have n2:b≠it:=λz=>nb (by simp[z]);exact j.extBut b o n1 (hk b o n1 n2 q)
  have tg:h2.get? s.heap.objs.size=some { cls:=.type "tuple",data:=.seq #[.int i s.toks,u] }:=j.extBut _ _ (Nat.ne_of_gt el) ht;refine⟨.ref s.heap.objs.size,upd H s.heap.objs.size (.tup [.int i,x]),?_,rfl,⟨_,x,I.hok.fresh (Al _),rfl,rfl,λys hy=>by rw[I.list_inj hy C];exact hx⟩,⟨⟨_,a4⟩,a3.at λo q=>j.extBut _ _ (AW l) q⟩,λb g=>?_⟩
  ·exact I.turnedN (t':=s.toks+1) kk t (Al _) ⟨by show 2<=sizeLine;decide,[.int i s.toks,u],.cons ⟨_,rfl⟩ (.cons ru .nil),⟨_,tg,rfl,_,rfl⟩⟩
  ·have a5:b<s.heap.objs.size:=by rcases Ap.mp g with rfl|g;exact el;cases Ag.mp g;exact il
   rw[qp (A1 a5)];exact(t b g).1
 done:=by intro X hP hw hK hc i r s σ H E I t ⟨⟨old,J⟩,U⟩ hg;subst hP hw hK;obtain⟨xs,C,hx⟩:=hg;obtain⟨a1,rv,p,hz⟩:=I.list C;have hl:=rv.length;exact wpAny_pyNext_enum_end (I.ok.hd hc) J U p.isList (by simp;omega) λh1 eb=>⟨rfl,I.turnedL (t':=s.toks) (fp:=[e,it]) (λb o nb q=>eb b o (λz=>nb (by simp[z])) q) t⟩
 self:=λ_ _ _ _ _ ⟨⟨_,J⟩,_⟩ h=>wpAny_pyIter_enum J h
def alx(K:Ae)(ta:TA):TI:=λσ H R=>ta σ H λvs H1=>∃a,vs=[.ref a]/\(∃xs,aH K H1 a xs)/\R (Ite K a) H1
theorem oB:bootBuiltins "enumerate"=some (.type "enumerate"):=by decide +kernel
theorem abw{a:Expr}{ta:TA}(T:Gl X "enumerate")(hm:X.mg "enumerate"=none)(ha:PA X [a] ta)(hs:starEach [a] X.env=[(false,eval a X.env)]:=by rfl):
 PI X (.Tuple sy x1 tp) (.Call (.Name "enumerate" p) [a] [] pos) (alx X.K ta):=by
 intro J s r H R I h;refine Call_ (dl I T hm oB (BF (ki (ha pos J s r H _ I h) λus U ⟨vs,t,j,r1,q1⟩=>?_) hs rfl));obtain⟨l,e,⟨xs,hq⟩,q⟩:=q1;subst e;obtain⟨u,rfl,ru⟩:=pY r1;cases ru;obtain⟨a1,rv,pl,hz⟩:=j.list hq;refine call_enumerate_list pl.isList λh1 C hi a2 hk=>?_;have I2:qy X J r t { U with heap:=h1 }:=j.kept (t':=U.toks) hk;refine wpAny_pyIter_enum (s:={ U with heap:=h1 }) C ?_;refine⟨U.heap.objs.size+1,[U.heap.objs.size+1,U.heap.objs.size],_,_,t,rfl,I2,u6 l _ _ (Nat.succ_ne_self _),⟨⟨_,C⟩,hi⟩,λb o=>?_,q⟩;have g:U.heap.objs.size<=b:=by rcases Ap.mp o with rfl|o;exact Cr _;cases Ag.mp o;exact Al _
 exact j.fpOk g (j.hok.fresh g)
end L2
namespace L3
open PySem L2
theorem gY{keep:qm->Prop}(h:∀H L,jc H₀ H->zx G H L->keep L->∃xs,aH G.K H a xs/\x5 G H ys xs):dq G H₀ (Ite G.K a) (ys.zipIdx.map λp=>Y.tup [.int (p.2:Nat),p.1]) keep where
 go:=λi H L t I J o=>by
  obtain⟨xs,sq,r⟩:=h H L t I J;have:i<xs.length:=by rw[<-r.length];simpa using o
  exact⟨xs,xs[i],sq,Aj this⟩
 yld:=λi H L x H' y t I J l ⟨p,z,U,C,T,f⟩=>by subst C T;obtain⟨xs,sq,r⟩:=h H L t I J;rw[Am,CT] at l;obtain⟨⟨y',j⟩,ey,e3⟩:=Au.mp l;obtain⟨a1,g,e4⟩:=Au.mp ey;cases e4;subst e3;obtain⟨x',e',rv⟩:=r.get g;have:=f xs sq;rw[e'] at this;cases this;refine⟨DP U,I.skip U,p,_,rfl,cG.of zq,⟨_,_,rfl,?_,_,_,rfl,rv.ts (DP U),rfl⟩⟩;show V.int _=V.int _;congr 1;simp
 stop:=λH L t I J=>by obtain⟨xs,sq,r⟩:=h H L t I J;exact⟨xs,sq,by rw[Ab,List.length_zipIdx,r.length];exact Al _⟩
def lW(ys:List Y):List Y:=ys.zipIdx.map λp=>Y.tup [.int (p.2:Nat),p.1]
theorem jV(h:(lW ys)[i]?=some y):∃z,ys[i]?=some z/\y=.tup [.int i,z]:=by unfold lW at h;rw[Am,CT] at h;obtain⟨⟨J,j⟩,U,g⟩:=Au.mp h;obtain⟨l,I,o⟩:=Au.mp U;cases o;exact⟨J,I,by rw[<-g];simp⟩
theorem fe(ys:List Y):(lW ys).length=ys.length:=by simp[lW]
def lb(tl:x6)(τ:jh)(L:qm)(R:List Y->(qm->Prop)->qm->Prop):Prop:=tl τ L λx L1=>match x with
 |.ref a=>qE L1 a λys keep L=>R (lW ys) keep L
 |.sq ys=>R (lW ys) (λ_=>True) L1
 |_=>False
theorem mH{a:Expr}(hg:Gl X "enumerate")(hm:X.mg "enumerate"=none)(ha:QE X a te)(hs:starEach [a] X.env=[(false,eval a X.env)]:=by rfl)
 (j:starEach [a] X.env=(false,eval a X.env)::starEach [] X.env:=by rfl):QI X (.Tuple sy x1 tp) (.Call (.Name "enumerate" p) [a] [] pos) (lb te):=PI.imq (abw hg hm (w5 ha cX j) hs) λσ H R τ L R3 rs l z k=>by
 refine⟨τ,L,_,rs,l,z,λv g y o T I U C=>?_⟩;cases y with
 |ref a=>
  obtain⟨ys,keep,es,kp,hk,z2⟩:=qH C;have hy:∀H L,jc g H->zx X.g3 H L->keep L->∃J,aH X.K H a J/\x5 X.g3 H ys J:=λH L _ l e=>cc l (hk L e);obtain⟨J,sq,_⟩:=hy g o (DO _) I kp;cases U;exact⟨a,rfl,⟨J,sq⟩,k _ g _ _ o T I (gY hy) z2⟩
 |sq ys=>
  obtain⟨a,J,e,sf,r⟩:=U;subst e;exact⟨a,rfl,⟨J,sf.sq⟩,k _ g _ (λ_=>True) o T I (gY λH L t _ _=>⟨J,(sf.ts t).sq,r.ts t⟩) C⟩
 |_=>exact C.elim
end L3
namespace L2
open PySem PySem.Spec PyProof.Rows
section
variable {w:World}
end
section
variable {w:World}
end
section
variable {σ:L2.St}
end
end L2
namespace L3
open PySem L2
def bP(xs:List Y)(L:qm)(Q:YK):Prop:=match xs with
 |[x]=>gK L x λys=>∀p,L p=none->Q (.ref p) (qg L p (.lst ys))
 |_=>False
theorem cY :jt X (.type "list") (upL X.g3 bP):=jt.imq m8 λt H Q C L T U I z k=>by
 unfold bP at z;split at z
 ·rename_i x;obtain⟨u,rfl,g⟩:=U.inv1;obtain⟨zs,j,z⟩:=aB z;obtain⟨p,o,e,sq,r⟩:=nR I g j;subst e;exact⟨p,o,rfl,sq,λl J=>k _ _ _ _ (DP J) (I.newL J r) (by rfl) (z l (I.none J))⟩
 ·exact z.elim
theorem bK{T:String}{tr:dM}{r:List Y->qm->YK->Prop}(hc:jt X (.type T) (upL X.g3 r))(U:Gl X x)(g:X.mg x=none)(j:bootBuiltins x=some (.type T))(h:QA X (e::es) tr)
 (l:x ≠ "__name__" := by decide) (hd:Ed x:=by decide) (hs:Eb e es X:=by rfl) (o:Ec pos es X:=by rfl):
 QE X (.Call (.Name x p) (e::es) [] pos) (lK r tr):=DQ (gN hc U g j h l hd hs o) λσ H Q t L C rs rl z k=>
 ⟨t,L,_,rs,rl,z,λvs H1 ys L1 t1 I J z1=>⟨ys,L1,C,J,I,z1,k.ts t1⟩⟩
def bv(x:Y)(vs:List Y)(L:qm)(Q:YK):Prop:=match x,vs with
 |.ref a,[.int i]=>bU L a λys=>0<=i/\i<ys.length/\sh L (λv L=>Q v (qg L a (.lst (ys.eraseIdx i.toNat)))) (ys[i.toNat]?)
 |_,_=>False
theorem adq :eF X "list.pop" (yd X.g3 bv):=λJ s l H x xs v o Q I p t ⟨y,ys,L,Q3,C,T,j,z,k⟩=>by
 unfold bv at z;split at z
 ·rename_i a i;obtain⟨zs,e,h0,h1,z⟩:=x8 z;obtain⟨ws,U,r⟩:=j a _ e;obtain⟨i',rfl,ri⟩:=T.inv1;cases ri;cases g:zs[i.toNat]? with
  |none=>rw[g] at z;exact z.elim
  |some w=>
   rw[g] at z;obtain⟨u,eu,ru⟩:=r.get g;obtain⟨_,_,_,hz⟩:=I.list (aH.of U);have hl:=r.length;have hs:sizeLine<2 ^ 62:=by decide
   refine yF J s l H x _ v o Q I p t ⟨a,ws,i,i.toNat,u,C,rfl,U,by lia,by lia,?_,eu,k _ _ _ _ (DZ U) (j.setL U (r.eraseIdx _)) (ru.ts (DZ U)) z⟩;unfold seqIndex?;rw[AD (show ¬i<0 by lia),AF (by simp;lia)]
 ·exact z.elim
theorem bC{tr:dM}(I:QE X o to)(J:QA X (e::es) tr)(U:attributeBase o "pop" X.env (eval o X.env)=eval o X.env:=by rfl)
 (g:((backTo fm (starEach (e::es) X.env)).all (λx=>!x.1)&&(backToKw fm (keywordEach [] X.env)).all (λx=>x.1.isSome)&&decide ((e::es).length+([]:List Keyword).length+(if ([]:List Keyword).isEmpty=true then 0 else 1)<30))=true:=by rfl)
 (j:(apos.endLine==fm.line)=true:=by rfl) (l:Eb e es X:=by rfl) (p:Ec fm es X:=by rfl):
 QE X (.Call (.Attribute o "pop" apos) (e::es) [] fm) (aT bv to tr):=m9 PySem.F.slot_list_pop PySem.F.type_list_pop adq I J U g j l p
end L3
namespace L2
open PySem PySem.Spec PyProof.Rows
theorem tM(i:Int)(n d:Nat):max 0 (min (if i<0 then i+(n:Int) else i) n)=((HT.sIx n d (some i):Nat):Int):=by
 simp only[HT.sIx];by_cases h:i<0
 ·simp only[h,if_true]<;>lia
 ·simp only[h,if_false]<;>lia
theorem uf(l u:Option Int)(n:Nat):Builtin.Str.strSliceIndices l u 1 n=(List.range (HT.sIx n n u-HT.sIx n 0 l)).map (HT.sIx n 0 l+·):=by
 have z:(0:Int)=((HT.sIx n 0 none:Nat):Int):=rfl;have y:(n:Int)=((HT.sIx n n none:Nat):Int):=rfl;unfold Builtin.Str.strSliceIndices;cases l with
 |none=>
  cases u with
  |none=>exact sliceRange_one 0 n
  |some j=>
   show sliceRange 0 (max 0 (min (if j<0 then j+(n:Int) else j) n)) 1=_;rw[tM j n n];exact sliceRange_one 0 _
 |some i=>
  cases u with
  |none=>
   show sliceRange (max 0 (min (if i<0 then i+(n:Int) else i) n)) n 1=_;rw[tM i n 0];exact sliceRange_one _ n
  |some j=>
   show sliceRange (max 0 (min (if i<0 then i+(n:Int) else i) n)) (max 0 (min (if j<0 then j+(n:Int) else j) n)) 1=_;rw[tM i n 0,tM j n n];exact sliceRange_one _ _
theorem ft(x:Str)(l u:Option Int):(Txt.slice x l u).cps.toList=(x.cps.toList.drop (HT.sIx x.length 0 l)).take (HT.sIx x.length x.length u-HT.sIx x.length 0 l):=by
 have U:x.length=x.cps.toList.length:=by simp[Str.length]
 have I:=pick_run x.cps (HT.sIx x.length 0 l) (HT.sIx x.length x.length u-HT.sIx x.length 0 l);unfold Txt.slice;rw[uf];split
 ·rename_i h;simp only[beq_self_eq_true,Bool.true_and,Ab,Bf,beq_iff_eq] at h;have h1:=HT.sIx_le x.length 0 (Bi _) l;have h2:=HT.sIx_le x.length x.length (Al _) u;have J:HT.sIx x.length 0 l=0:=by lia
  rw[h,J,C9,Be (by exact vV)]
 ·show(List.filterMap (λi=>x.cps[i]?) _).toArray.toList=_;rw[List.toList_toArray];exact I
def ao0:V->Option Int->Option Int->Hp->VK->Prop:=λx lo hi H Q=>∃z,x=.str z/\z.length<=sizeLine/\Q (.str (Txt.slice z lo hi)) H
theorem age:oO X ao0:=by
 intro J s σ H x v U g lo j sl Q I o p pl r h;obtain⟨z,rfl,C,q⟩:=h;obtain⟨t,rfl⟩:=o;obtain⟨l,rfl,T⟩:∃l:Option (Int×Tok),U=partValue l/\l.map (·.1)=lo:=by cases pl with|none=>exact⟨none,rfl,rfl⟩|int i t=>exact⟨some (i,t),rfl,rfl⟩
 obtain⟨u,rfl,hu⟩:∃u:Option (Int×Tok),g=partValue u/\u.map (·.1)=j:=by cases r with|none=>exact⟨none,rfl,rfl⟩|int i t=>exact⟨some (i,t),rfl,rfl⟩
 subst T hu;refine⟨"str",_,F.slot_str_getitem.lookup,typeIs_str _ _ _,jm I.tk (wpAny_getItem_str_slice (l:=l) (u:=u) (st:=none) p rfl ?_)⟩;exact post_val_or_str ⟨AI (Txt.slice_le z _ _) C,λt' k ht=>⟨.str _,H,I.tok _,⟨t',rfl⟩,q⟩⟩
theorem sG{zs:List Str}:∀{us:List Value},zn (zs.map V.str) us->StrsAre us zs:=by
 induction zs with
 |nil=>intro us r;rw[CC] at r;cases r;exact .nil
 |cons z zs I=>
  intro us r;rw[AA] at r;cases r with
  |cons J U=>
   obtain⟨t,e⟩:=J;subst e;exact .cons z t (I U)
def alh(K:Ae):V->List V->Hp->VK->Prop:=λx vs H Q=>∃z a zs,x=.str z/\vs=[.ref a]/\aH K H a ((zs:List Str).map V.str)/\(zs.map (·.length)).sum+zs.length*z.length<=16777216/\Q (.str (Txt.join z zs)) H
theorem acv:eF X "str.join" (alh X.K):=by intro J s σ H x vs v us Q I U g h;obtain⟨z,a,zs,rfl,rfl,j,l,q⟩:=h;obtain⟨t,rfl⟩:=U;obtain⟨u,rfl,o⟩:=g.one;cases o;obtain⟨C,r,p,_⟩:=I.list j;exact jm I.tk (PyProof.Rows.join_list p.isList (by simpa using sG r) l λT k ht=>⟨.str _,H,I.tok _,⟨T,rfl⟩,q⟩)
end L2
namespace L3
open PySem L2
def oX(x:Y)(lo hi:Option Int)(L:qm)(Q:YK):Prop:=match x with
 |.str z=>z.length<=sizeLine/\Q (.str (Txt.slice z lo hi)) L
 |x=>al0 x lo hi L Q
theorem ie(K:Ae)(P:Program)(w:World)(U:X.K=K:=by rfl)(g:X.prog=P:=by rfl)(hw:X.w=w:=by rfl):oO X (ad3 ⟨K,P,w⟩ oX):=by refine oO.imp (age.or (akd K P w U g hw)) λx lo l H Q ⟨y,L,j,I,J,z,k⟩=>?_;cases y with|str s=>exact .inl ⟨s,I,z.1,k _ H _ L (DO _) J (by rfl) z.2⟩|_=>exact .inr ⟨_,L,j,I,J,z,k⟩
def yBS(r:Y->List Y->qm->YK->Prop)(to:x6)(t:dM)(τ:jh)(L:qm)(Q:YK):Prop:=to τ L λx L1=>match x with
 |.str z=>t τ L1 λxs L2=>r (.str z) xs L2 Q
 |_=>False
theorem aha{tr:dM}{id:String}{r:Y->List Y->qm->YK->Prop}(h2:Slot "str" name id)(h3:typeOf (.builtin id)=pure (.type "method_descriptor"))(C:eF X id (yd X.g3 r))(T:QE X o to)(ha:QA X (e::es) tr)
 (h4:attributeBase o name X.env (eval o X.env)=eval o X.env:=by rfl)
 (h5:((backTo fm (starEach (e::es) X.env)).all (λx=>!x.1)&&(backToKw fm (keywordEach [] X.env)).all (λx=>x.1.isSome)&&decide ((e::es).length+([]:List Keyword).length+(if ([]:List Keyword).isEmpty=true then 0 else 1)<30))=true:=by rfl)
 (h6:(apos.endLine==fm.line)=true:=by rfl) (h7:Eb e es X:=by rfl) (h8:Ec fm es X:=by rfl):
 QE X (.Call (.Attribute o name apos) (e::es) [] fm) (yBS r to tr):=DQ (afg PySem.F.plainAttrs_str h2 h3 C T ha h4 h5 h6 h7 h8) λσ H Q l L Q3 p rl z k=>
 ⟨l,L,_,p,rl,z,λv H1 y L1 t I J U=>by
  split at U
  ·rename_i s;cases J;exact⟨rfl,l,L1,_,p.ts t,I,U,λvs H2 ys L2 t2 g j z2=>⟨.str s,ys,L2,Q3,rfl,j,g,z2,k.ts (t.trans t2)⟩⟩
  ·exact U.elim⟩
theorem ox{G:G3}{H:Hp}:∀{zs:List Str} {xs:List V},x5 G H (zs.map Y.str) xs->xs=zs.map V.str
 |[],_,h=>h
 |z::r,_,⟨x,I,e,q,s⟩=>by rw[e,show x=V.str z from q,ox s];rfl
def sk(x:Y)(vs:List Y)(L:qm)(Q:YK):Prop:=match x,vs with
 |.str z,[.ref a]=>bU L a λys=>∃zs,ys=zs.map Y.str/\(zs.map (·.length)).sum+zs.length*z.length<=16777216/\Q (.str (Txt.join z zs)) L
 |_,_=>False
theorem ag6 :eF X "str.join" (yd X.g3 sk):=eF.imq acv λx p H Q y t L C U g I z k=>by
 unfold sk at z;split at z
 ·rename_i s a;obtain⟨T,e,j,rfl,l,z⟩:=x8 z;obtain⟨ws,J,r⟩:=I a _ e;obtain⟨u,rfl,o⟩:=g.inv1;cases o;rw[ox r] at J;exact⟨s,a,j,U,rfl,aH.of J,l,k _ H _ L (DO _) I (by rfl) z⟩
 ·exact z.elim
theorem abu{tr:dM}(I:QE X o to)(J:QA X (e::es) tr)(U:attributeBase o "join" X.env (eval o X.env)=eval o X.env:=by rfl)
 (g:((backTo fm (starEach (e::es) X.env)).all (λx=>!x.1)&&(backToKw fm (keywordEach [] X.env)).all (λx=>x.1.isSome)&&decide ((e::es).length+([]:List Keyword).length+(if ([]:List Keyword).isEmpty=true then 0 else 1)<30))=true:=by rfl)
 (j:(apos.endLine==fm.line)=true:=by rfl) (l:Eb e es X:=by rfl) (p:Ec fm es X:=by rfl):
 QE X (.Call (.Attribute o "join" apos) (e::es) [] fm) (yBS sk to tr):=aha PySem.F.slot_str_join PySem.F.type_str_join ag6 I J U g j l p
theorem mP(zs:List Str):(Txt.join "" zs).cps.toList=zs.flatMap λz=>z.cps.toList:=by
 have e:∀zs:List Str,(Str.join "" zs).cps.toList=zs.flatMap λz=>z.cps.toList:=by
  intro zs
  induction zs with
  |nil=>rfl
  |cons z r I=>
   cases r with
   |nil=>simp[Str.join]
   |cons y r=>
    show(z ++ "" ++ Str.join "" (y::r)).cps.toList=_;have:(z ++ "" ++ Str.join "" (y::r)).cps=z.cps++#[]++(Str.join "" (y::r)).cps:=rfl;rw[this];simp only[Cw,I,AS,Array.append_empty]
 exact(Bb (λx:Str=>x.cps.toList) (StrLaws.glued_eq_join "" zs)).trans (e zs)
def gO(t u:ke)(D:xn)(τ:jh)(L:qm):Prop:=∃J:jh->qm->Prop,t { D with nx:=J } τ L/\∀I L',J I L'->u D I L'
theorem wn{rest:List Stmt}{t u:ke}(h:QS X st t)(k:mF X rest u):mF X (st::rest) (gO t u):=fG.imp (o3 h k) λD σ H ⟨l,L,D3,o,p,⟨J,z,q⟩,k⟩=>
 ⟨l,L,{ D3 with nx:=J },o,p,z,λr H1 I j C U g T=>⟨I,j,D3,U,g,q I j T,k.ts C⟩,k.rt,k.bk,k.ct⟩
abbrev X3:=jh->Addr->qm->Prop
abbrev dN:=List Y->qm->YK->(Addr->qm->Prop)->Prop
def upX(G:G3)(E3:X3):X1:=λσ c H=>∃C τ L,c=.ref C/\x9 G H σ τ/\zx G H L/\E3 τ C L
def ak2(G:G3)(H:Hp)(E3:Addr->qm->Prop)(E:XK):Prop:=∀C H' L',jc H H'->zx G H' L'->E3 C L'->E (.ref C) none H'
def dnX(G:G3)(sp:dN):Sp:=λvs H Q E=>∃ys L I E3,x5 G H ys vs/\zx G H L/\sp ys L I E3/\oN G H I Q/\ak2 G H E3 E
def pO(E3:Addr->qm->Prop):X3:=λ_ C L=>∃L2,qh L2 L/\E3 C L2
abbrev ajo(P:Program)(w:World)(K:Ae)(mg:Str->Option Value)(base:Heap)(k:Nat)(f:Addr)(fd:FuncData)(ps:List Str)(sp:dN):Prop:=aW P w K mg base (yn P w) k f fd ps (dnX ⟨K,P,w⟩ sp)
structure fI(P:Program)(w:World)(K:Ae)(mg:Str->Option Value)(base:Heap)(k:Nat)(x:Str)(ps:List Str)(sp:dN):Prop where
 ex:∃f fd,ajo P w K mg base k f fd ps sp/\bz K fd ps []/\PySem.W.keepIn K (.ref f)=true/\mg x=some (.ref f)
theorem fI.mono{P:Program}{w:World}{K:Ae}{k:Nat}{sp:dN}(c:fI P w K mg base j x ps sp)(h:j<=k):fI P w K mg base k x ps sp:=by obtain⟨f,fd,F,b,I,m⟩:=c.ex;exact⟨f,fd,F.mono h,b,I,m⟩
theorem qy.tst{σ:L2.St}(I:qy X pins σ H s):jc X.H₀ H:=λa u i e=>by cases u with|tup J=>exact I.base.tups a J e|frz o u=>exact I.base.frzs a o u e|_=>cases i
theorem ag0{P:Program}{w:World}{K:Ae}{N:List Str}{E:XK}{E3:Addr->qm->Prop}(h:ak2 ⟨K,P,w⟩ H E3 E):
 a6 (bq (yn P w) P w K mg base N fx scope f cd A outer s H E) (upX ⟨K,P,w⟩ (pO E3)):=by
 intro J j g l a C tr I L ap U ⟨t,T,L',o,rs,p,L2,r,q⟩;cases o;exact aa0 J j g l a C tr I L ap U (h C g L2 (qy.tst I) (p.sub r) q)
def fu(sp:dN)(E3:X3)(t:dM)(τ:jh)(L:qm)(Q:YK):Prop:=t τ L λys L1=>sp ys L1 Q (E3 τ)
def sP(C:Addr)(E3:X3)(t:dM)(_:xn)(τ:jh)(L:qm):Prop:=t τ L λys L1=>ys.length<=1000/\E3 τ C L1
section
variable {tr:dM}{E3:X3}
theorem y8{k:Nat}{sp:dN}(c:fI X.prog X.w X.K X.mg X.base k x ps sp)(t:k8 k X.A)(T:Gl X x)(ht:a6 X (upX X.g3 E3))(hx:X.ex=[])(ha:QA X (e::es) tr)(I:Ed x:=by decide)
 (he:Eb e es X:=by rfl) (J:Ec pos es X:=by rfl):QE X (.Call (.Name x p) (e::es) [] pos) (fu sp E3 tr):=by
 obtain⟨f,fd,F,b,kp,m⟩:=c.ex;refine DQ (og F t T m kp b ht hx ha I he J) λσ H Q U L Q3 o rl z k=>?_;exact⟨U,L,_,o,rl,z,λvs H1 ys L1 r g j z1=>⟨ys,L1,Q3,E3 U,j,g,z1,k.ts r,λC H' L' t' l q=>⟨C,U,L',rfl,o.ts (r.trans t'),l,q⟩⟩⟩
theorem pW(c:uU X.K C)(o:Gl X x)(p:X.mg x=some (.ref C))(hc:X.calm=true)(r:a6 X (upX X.g3 E3))(t:X.ex=[])(T:QA X (e::es) tr)(I:Ed x:=by decide)
 (he:Eb e es X:=by rfl) (J:Ec fm es X:=by rfl):
 QS X (.Raise (some (.Call (.Name x np) (e::es) [] fm)) none pos) (sP C E3 tr):=DW (xA c o p hc r t T I he J) λD σ H j L D3 l rl z k=>
 ⟨j,L,_,l,rl,z,λvs H1 ys L1 t1 U g ⟨hl,z1⟩=>⟨small (by rw[<-g.length];exact hl),C,j,L1,rfl,l.ts t1,U,z1⟩⟩
end
theorem anq{P:Program}{w:World}{K:Ae}{N:List Str}{k:Nat}{sp:dN}{t:X3->ke}(F:Fun K x fx st f fd)(S:kn N ps (qr st))(len:∀ys L Q E,sp ys L Q E->ys.length=ps.length)
 (I:∀(g7:Value) (A:Around) (outer:List Env) (s:Shared) (H:Hp) (E:XK) (E3:X3),k8 k (A.deeper (PyProof.Rows.envOfC fx (qr st) s.heap.objs.size f g7))->
  a6 (bq (yn P w) P w K mg base N fx (qr st) f g7 A outer s H E) (upX ⟨K,P,w⟩ E3)->mF (bq (yn P w) P w K mg base N fx (qr st) f g7 A outer s H E) (je st) (t E3))
 (vc:∀ys L Q E,sp ys L Q E->t (pO E) { nx:=λ_ L'=>gE Q .non L',rt:=gE Q } (cR N ys) L):ajo P w K mg base (k+1) f fd ps sp:=by
 obtain⟨oc,od,kV,a1,pm,an,g7,ct,a2,rfl,lk,U⟩:=F.ex;refine xM lk U S (λvs H Q E ⟨ys,L,g,E3,j,T,z,_⟩=>by rw[<-j.length];exact len ys L g E3 z) λA outer s H vs Q E hr ⟨ys,L,g,E3,j,T,z,k,kx⟩=>?_;refine⟨_,I g7 A outer s H E (pO E3) hr (ag0 kx),cR N ys,L,_,fb j,T,vc ys L g E3 z,?_⟩;exact⟨λσ l τ L' o a3 J ⟨L2,p,r⟩=>k .non l .non L2 o (J.sub p) (by rfl) r,λv l y L' o J C ⟨L2,p,r⟩=>k v l y L2 o (J.sub p) C r,λ_ _ _ _ _ _ _ z=>z.elim,λ_ _ _ _ _ _ _ z=>z.elim⟩
def rW:jh->Nat->jh
 |[],_=>[]
 |_::r,0=>none::r
 |o::r,i+1=>o::rW r i
theorem tE:∀(τ:jh) (i:Nat),rW τ i=τ.set i none
 |[],_=>rfl
 |_::_,0=>rfl
 |o::r,i+1=>by rw[rW,tE r i];rfl
theorem x9.clr{σ:L2.St}(h:x9 G H σ τ)(i:Nat):x9 G H (σ.set i none) (rW τ i):=by
 rw[tE];refine⟨by simpa using h.len,λj y e=>?_⟩;by_cases I:i=j
 ·subst I;rw[List.getElem?_set] at e;simp at e
 ·rw[Bp I] at e ⊢;exact h.get j y e
def Dh3(i:Nat)(D:xn):xn where
 nx:=λτ L=>D.nx (rW τ i) L
 rt:=D.rt
 bk:=λτ L=>D.bk (rW τ i) L
 ct:=λτ L=>D.ct (rW τ i) L
def aln(G:G3)(H:Hp)(E3:X3)(E1:X1):Prop:=∀n9 C H' I L',jc H H'->x9 G H' n9 I->zx G H' L'->E3 I C L'->E1 n9 (.ref C) H'
def ah2(G:G3)(t:X3->ke):X1->L2.TS:=λE1 D σ H=>∃τ L D3 E3,x9 G H σ τ/\zx G H L/\t E3 D3 τ L/\rj G H D3 D/\aln G H E3 E1
def QB(X:Cx)(body:List Stmt)(t:X3->ke):Prop:=∀(pn:List (Addr×Obj)) (xe:Value->Shared->Prop) (E1:X1),a6 (X.tr pn xe) E1->fG (X.tr pn xe) body (ah2 X.g3 t E1)
def al4(K:Ae)(J:Addr)(i:Nat)(tb:X3->ke)(th:ke)(D:xn)(τ:jh)(L:qm):Prop:=
 tb (λI C L'=>PySem.W.exmOne K (.ref C) (.ref J)=some true/\∀a,L' a=none->th (Dh3 i D) (bJ I i (.ref a)) (qg L' a (.exc C))) D τ L
section
variable {tr:dM}{cp:Pos}
theorem ae6{k:Nat}{sp:dN}(c:fI X.prog X.w X.K X.mg X.base k x ps sp)(hr:k8 k X.A)(hg:Gl X x)(hx:X.ex=[])(ha:∀pn xe,QA (X.tr pn xe) (e::es) tr)(J:Ed x:=by decide)
 (he:Eb e es X:=by rfl) (U:Ec cp es X:=by rfl) (hs:swapsWith (.Call (.Name x p) (e::es) [] cp) none pos.line X.env=pure false:=by rfl):
 QB X [.Expr (.Call (.Name x p) (e::es) [] cp) pos] (λE3=>jk (fu sp E3 tr)):=by
 obtain⟨f,fd,F,b,kp,m⟩:=c.ex;intro pn xe E1 ht;refine fG.imp (t8 (tF (og (X:=X.tr pn xe) F hr hg m kp b ht hx (ha pn xe) J he U) hs)) λD σ H ⟨g,L,D3,E3,j,rl,z,k,kx⟩=>?_;exact⟨g,L,_,j,rl,z,λvs H1 ys L1 I l o z1=>⟨ys,L1,_,E3 g,o,l,z1,(λv H2 y L2 T r a1 z2=>k.nx _ H2 _ L2 (I.trans T) (j.ts (I.trans T)) r z2),λC H' L' t' t q=>kx σ C H' g L' (I.trans t') (j.ts (I.trans t')) t q⟩⟩
theorem ai1{Dc:Addr}{n:Str}{j:Pos}{I:List Stmt}{g:Stmt}{tb:X3->ke}{th:ke}(hs:X.stack=X.env::X.outer)(hf:X.env.frame=some X.env.locals)(hx:X.ex=[])(hN:X.N.Nodup)(hi:X.N[i]?=some n)
 (hk:X.env.scope.names.lookup n=some .local) (hg:Gl X x) (hm:X.mg x=some (.ref Dc)) (hb:QB X body tb) (hh:∀a,mF (X.hnd a) (g::I) th)
 (a1:Ed x:=by decide):QS X (.Try body [.ExceptHandler (some (.Name x np)) (some n) (g::I) j] [] [] pos) (al4 X.K Dc i tb th):=
 PS.imp (aj6 (tb:=ah2 X.g3 tb) (th:=upS X.g3 th) hs hf hx hN hi hk hg hm hb hh a1) λD σ H ⟨τ,L,D3,rs,rl,z,k⟩=>by
 show ah2 X.g3 tb (abf X.K Dc i (upS X.g3 th) D) D σ H;refine⟨τ,L,D3,_,rs,rl,z,k,λa4 C H' a2 L' t' a3 l ⟨em,q⟩=>⟨C,rfl,em,λa oe ha hc=>?_⟩⟩;have ta:jc H' (upd H' a (.frz oe (.own 0))):=DP ha;refine⟨bJ a2 i (.ref a),qg L' a (.exc C),Dh3 i D3,by rw[wy];exact(a3.ts ta).set rfl,λb u e=>?_,q a (l.none ha),?_⟩
 ·by_cases c:b=a
  ·subst c;rw[q8] at e;cases e;exact⟨oe,zq,hc⟩
  ·rw[qd c] at e;exact(l b u e).keep ta (qp c)
 ·have k2:=k.ts (t'.trans ta);exact⟨λo p r L2 t J U T=>k2.nx _ p _ L2 t (J.clr i) U T,k2.rt,λo p r L2 t J U T=>k2.bk _ p _ L2 t (J.clr i) U T,λo p r L2 t J U T=>k2.ct _ p _ L2 t (J.clr i) U T⟩
end
@[irreducible] def wM (L:qm) (a:Addr) (k:Addr->Prop):Prop:=match L a with
 |some (.exc C)=>k C
 |_=>False
theorem hV{k:Addr->Prop}(e:L a=some (.exc C))(h:k C):wM L a k:=by unfold wM;rw[e];exact h
theorem qW{k:Addr->Prop}(h:wM L a k):∃C,L a=some (.exc C)/\k C:=by
 unfold wM at h;split at h
 ·rename_i C e;exact⟨C,e,h⟩
 ·exact h.elim
def sT(K:Ae)(u:Value)(te:x6)(τ:jh)(L:qm)(Q:YK):Prop:=te τ L λx L1=>match x with
 |.ref a=>wM L1 a λC=>XHd K C/\∃b,PySem.W.kitOne K (.ref C) u=some b/\Q (.bl b) L1
 |_=>False
def lh(K:Ae)(us:List Value)(te:x6)(τ:jh)(L:qm)(Q:YK):Prop:=te τ L λx L1=>match x with
 |.ref a=>wM L1 a λC=>XHd K C/\∃b,PySem.W.kitAny K (.ref C) us=some b/\Q (.bl b) L1
 |_=>False
def PAC(X:Cx)(es:List Expr)(vs:List V):Prop:=PA X es λ_ H Q=>Q vs H
section
variable {a:Expr}{ta:x6}{pt:Pos}{vs:List V}
theorem sj:PAC X [] []:=cX
theorem kw(h:PE X e (tC v))(t:PAC X es vs)(hs:Eb e es X:=by rfl):PAC X (e::es) (v::vs):=PA.imp (w5 h t hs) λ_ _ _ q=>q
theorem ar(I:Gl X x)(J:X.mg x=some (.ref C))(hd:Ed x:=by decide):PE X (.Name x p) (tC (.ref C)):=akj I J hd
theorem pj(j:Gl X "isinstance")(l:X.mg "isinstance"=none)(o:QE X a ta)(hc:PE X c (tC v))(r:vY v=some u)
 (hs:starEach [a,c] X.env=(false,eval a X.env)::starEach [c] X.env:=by rfl) (J:starEach [c] X.env=(false,eval c X.env)::starEach [] X.env:=by rfl) (t:(backTo pos (starEach [c] X.env)).any (·.1)=false:=by rfl):
 QE X (.Call (.Name "isinstance" p) [a,c] [] pos) (sT X.K u ta):=by
 refine EE (fC jU j l ak (w5 o (w5 hc cX J) hs) (by decide) (by decide) hs t) ?_;rintro σ H Q ⟨T,L,Q3,rs,rl,z,k⟩;refine⟨T,L,_,rs,rl,z,λw H1 y L1 t1 I U g=>?_⟩;cases y with
 |ref b=>
  obtain⟨C,e,hd,bb,kk,q⟩:=qW g;cases U;exact⟨b,C,v,rfl,I b _ e,hd,.inl ⟨u,bb,r,kk,k _ H1 _ L1 t1 I (by rfl) q⟩⟩
 |_=>exact g.elim
theorem lZ(t:Gl X "isinstance")(T:X.mg "isinstance"=none)(ha:QE X a ta)(hc:PAC X es vs)(hv:vs.map vY=us.map some)(hl:vs.length<=1000)
 (hs:starEach [a,.Tuple es kt pt] X.env=(false,eval a X.env)::starEach [.Tuple es kt pt] X.env:=by rfl) (J:starEach [.Tuple es kt pt] X.env=(false,eval (.Tuple es kt pt) X.env)::starEach [] X.env:=by rfl) (hp:(backTo pos (starEach [.Tuple es kt pt] X.env)).any (·.1)=false:=by rfl):
 QE X (.Call (.Name "isinstance" p) [a,.Tuple es kt pt] [] pos) (lh X.K us ta):=by
 refine EE (fC jU t T ak (w5 ha (w5 (aaj hc) cX J) hs) (by decide) (by decide) hs hp) ?_;rintro σ H Q ⟨τ,L,Q3,rs,rl,z,k⟩;refine⟨τ,L,_,rs,rl,z,λw U y L1 t1 I g l=>⟨small hl,λq o=>?_⟩⟩;cases y with
 |ref b=>
  obtain⟨C,e,hd,bb,kk,z2⟩:=qW l;cases g;have r:jc U (upd U q (.tup vs)):=DP o;obtain⟨oe,ho,j⟩:=(I b _ e:aah X.K U b C);refine⟨b,C,.ref q,rfl,⟨oe,r _ _ rfl ho,j⟩,hd,.inr ⟨q,vs,us,bb,rfl,.inl (.inl zq),hv,kk,k _ _ _ L1 (t1.trans r) (I.skip o) (by rfl) z2⟩⟩
 |_=>exact l.elim
end
def yu(_:xn)(_:jh)(_:qm):Prop:=False
theorem aag :QS X st yu:=λ_ _ _ _ _ _ ⟨_,_,_,_,_,z,_⟩=>z.elim
def noX:X3:=λ_ _ _=>False
theorem zS :a6 X (upX X.g3 noX):=λ_ _ _ _ _ _ _ _ _ _ _ ⟨_,_,_,_,_,_,z⟩=>z.elim
theorem kU:bootBuiltins "ValueError"=some (.type "ValueError"):=by decide +kernel
open PySem L2 PySem.W
theorem jX{K:Frag}(q:excIn K C [.type "ValueError",.type "Exception",.type "BaseException",.type "object"] "ValueError.__new__"=true):uU K C:=ae1 q Dd (by decide +kernel) Dd
section
variable {K:Frag}{D:Addr}{t c:Value}{b:Bool}
theorem kit_own{cd:ClassData}(ne:(Value.ref C==Value.ref D)=false)(h1:clsIn K D=some cd)(h2:typeIn K (.ref D)=some (.type "type"))(h3:subIn K (.ref C) (.ref D)=some b):kitOne K (.ref C) (.ref D)=some b:=by unfold kitOne;rw[AD (by rw[ne];exact AB)];unfold kitCls;simp only[h1,h2,C8,beq_self_eq_true,Bool.and_self,if_true];exact h3
theorem kit_self:kitOne K (.ref C) (.ref C)=some true:=by unfold kitOne;rw[AF (beq_self_eq_true _)]
theorem kit_blt{T:String}(I:kitMeta T=true)(h3:subIn K (.ref C) (.type T)=some b):kitOne K (.ref C) (.type T)=some b:=by unfold kitOne;rw[AD (by intro q;cases beq_iff_eq.mp q)];unfold kitCls;simp only[I,if_true];exact h3
theorem kitAny_no{r:List Value}(h:kitOne K t c=some false)(k:kitAny K t r=some b):kitAny K t (c::r)=some b:=by unfold kitAny;rw[h];exact k
theorem exm_own{cd:ClassData}(h0:subIn K (.ref D) (.type "BaseException")=some true)(h1:clsIn K D=some cd)(h2:typeIn K (.ref D)=some (.type "type"))(h3:subIn K (.ref C) (.ref D)=some b):exmOne K (.ref C) (.ref D)=some b:=by unfold exmOne;rw[AF (by rw[h0];rfl)];unfold kitCls;simp only[h1,h2,C8,beq_self_eq_true,Bool.and_self,if_true];exact h3
theorem xhd_of{cd:ClassData}(ga:findIn K (.ref C) "__getattribute__"=some (some (.builtin "BaseException.__getattribute__")))(gt:findIn K (.ref C) "__getattr__"=some none)(cl:findIn K (.ref C) "__class__"=some (some (.builtin "object.__class__")))
 (ge:specialIn K (.builtin "object.__class__") "__get__"=some (some (.builtin "getset_descriptor.__get__"))) (tk:takesIn K (.builtin "object.__class__")=some true) (mo:mroIn K C (.type "object")=some true) (be:subIn K (.ref C) (.type "BaseException")=some true) (h:clsIn K C=some cd):XHd K C:=
 ⟨⟨ga,gt,cl,ge,tk,mo,be⟩,by rw[h];rfl⟩
end
end L3
namespace L2
open PySem PySem.Spec PyProof.Rows
def fw(X:Cx)(ops:List CmpOp)(es:List Expr)(t:V->TE):Prop:=∀(pos:Pos) (pins:List (Addr×Obj)) (s:Shared) (σ:St) (H:Hp) (x:V) (v:Value) (Q:Bool->Hp->Prop),qy X pins σ H s->zm x v->(t x σ H λz H'=>∃k,z=.bl k/\Q k H')->wpAny (model X.prog X.w) X.A (testChain pos v ops (evalEach es X.env)) (TP X pins σ Q) X.xe s
def afd(r:R2)(tb:TE):V->TE:=λx σ H Q=>tb σ H λy H1=>r x y H1 Q
def afc(r:R2)(tb:TE)(u:V->TE):V->TE:=λx σ H Q=>tb σ H λy H1=>r x y H1 λz H2=>∃k,z=.bl k/\(if k=true then u y σ H2 Q else Q (.bl false) H2)
section
variable {a b:Expr}{tb:TE}{op u1:CmpOp}{ops:List CmpOp}{r:R2}{u:V->TE}
theorem u0(g:vz X (compareOp op) r)(j:PE X b tb):fw X [op] [b] (afd r tb):=by intro pos J s U H x v Q I l h;refine test_last (ki (j J s U H _ I h) λo p ⟨y,t,C,T,q1⟩=>ki (g J p U t x y v o _ C l T q1) λd s2 ⟨z,H2,I2,r2,k,e,q2⟩=>?_);subst e;cases r2;exact wpAny_truthy_bool ⟨H2,I2,q2⟩
theorem wH(t:vz X (compareOp op) r)(C:PE X b tb)(T:fw X (u1::ops) (c::es) u):fw X (op::u1::ops) (b::c::es) (afc r tb u):=by
 intro pos J s U H x v Q I rx h;refine test_link (ki (C J s U H _ I h) λg s1 ⟨y,H1,I1,j,q1⟩=>ki (t J s1 U H1 x y v g _ I1 rx j q1) λd s2 ⟨z,l,o,r2,k,e,p⟩=>?_);subst e;cases r2;refine wpAny_truthy_bool ?_;cases k with
 |false=>
  obtain⟨k',e',q'⟩:=p;cases e';exact ite_ff ⟨l,o,q'⟩
 |true=>exact ite_tt (T pos J s2 U l y g Q o j p)
theorem uW(U:PE X a ta)(h:fw X (op::u1::ops) (b::c::es) u)(g:lastMarks (op::u1::ops) (b::c::es)=false):PT X (.Compare a (op::u1::ops) (b::c::es) pos) (aaa λσ H Q=>ta σ H λx H1=>u x σ H1 Q):=by intro J s σ H Q I j;exact isTrue_chain (ki (U J s σ H _ I j) λv l ⟨x,H1,o,p,r⟩=>h pos J l σ H1 x v Q o p r) g
end
end L2
namespace L3
open PySem L2
def rF(ta:x6)(u:Y->x6)(τ:jh)(L:qm)(Q:YK):Prop:=ta τ L λx L1=>u x τ L1 Q
def xQ(r:kW)(tb:x6)(x:Y)(τ:jh)(L:qm)(Q:YK):Prop:=tb τ L λy L1=>r x y L1 Q
def yN(r:kW)(tb:x6)(u:Y->x6)(x:Y)(τ:jh)(L:qm)(Q:YK):Prop:=tb τ L λy L1=>r x y L1 λz L2=>match z with
 |.bl k=>ky k (u y τ L2 Q) (Q (.bl false) L2)
 |_=>False
def upC(G:G3)(u:Y->x6):V->TE:=λx σ H Q=>∃y τ L I,RV G H y x/\x9 G H σ τ/\zx G H L/\u y τ L I/\oN G H I Q
theorem fw.imp{ops:List CmpOp}{t u:V->TE}(h:fw X ops es t)(q:∀x σ H Q,u x σ H Q->t x σ H Q):fw X ops es u:=λpos J s σ H x v Q I r z=>h pos J s σ H x v Q I r (q _ _ _ _ z)
theorem ad4{r:kW}(x:V)(σ:L2.St)(H:Hp)(Q:VK):upC G (xQ r tb) x σ H Q->afd (eQ G r) (ou G tb) x σ H Q:=λ⟨y,g,L,j,l,o,p,z,k⟩=>
 ⟨g,L,_,o,p,z,λv H1 t C U I J T=>⟨y,t,C,j,l.ts U,J,I,T,k.ts U⟩⟩
theorem aci{r:kW}{u:Y->x6}(x:V)(σ:L2.St)(H:Hp)(Q:VK):upC G (yN r tb u) x σ H Q->afc (eQ G r) (ou G tb) (upC G u) x σ H Q:=λ⟨y,j,L,l,rv,T,rl,z,k⟩=>
 ⟨j,L,_,T,rl,z,λv H1 o L1 U p I z1=>⟨y,o,L1,_,rv.ts U,I,p,z1,λv2 H2 y2 L2 g J t z2=>by
  cases y2 with
  |bl C=>
   refine⟨C,t,?_⟩;have z3:ky C (u o j L2 l) (l (.bl false) L2):=z2;cases C with|true=>rw[AF rfl];exact⟨o,j,L2,l,I.ts g,T.ts (U.trans g),J,z3,k.ts (U.trans g)⟩|false=>rw[AD AB];exact k _ H2 _ L2 (U.trans g) J (by rfl) z3
  |_=>exact z2.elim⟩⟩
section
variable {a b:Expr}{ta:x6}{op u1:CmpOp}{ops:List CmpOp}{r:kW}{u:Y->x6}
theorem vH(I:vz X (compareOp op) (eQ X.g3 r))(J:QE X b tb):fw X [op] [b] (upC X.g3 (xQ r tb)):=fw.imp (u0 I J) ad4
theorem uu(I:vz X (compareOp op) (eQ X.g3 r))(J:QE X b tb)(U:fw X (u1::ops) (c::es) (upC X.g3 u)):fw X (op::u1::ops) (b::c::es) (upC X.g3 (yN r tb u)):=fw.imp (wH I J U) aci
theorem xV(σ:L2.St)(H:Hp)(Q:VK):ou G (rF ta u) σ H Q->(λσ H Q=>ou G ta σ H λx H1=>upC G u x σ H1 Q) σ H Q:=λ⟨U,L,l,g,o,z,k⟩=>
 ⟨U,L,_,g,o,z,λv H1 y p j I J r=>⟨y,U,p,l,J,g.ts j,I,r,k.ts j⟩⟩
theorem zZ(J:QE X a ta)(h:fw X (op::u1::ops) (b::c::es) (upC X.g3 u))(U:lastMarks (op::u1::ops) (b::c::es)=false:=by with_unfolding_all rfl):QT X (.Compare a (op::u1::ops) (b::c::es) pos) (yB (rF ta u)):=
 PT.imp (uW J h U) λI H Q q=>xV I H _ (ags I H Q q)
end
end L3
namespace L2
open PySem PySem.Spec PyProof.Rows
end L2
namespace L3
open PySem L2
def uy:Y->Option j7
 |.int i=>some (.inl i)
 |.str x=>some (.inr x)
 |_=>none
theorem cM{k:j7}(h:uy y=some k)(r:RV G H y v):v=kV k:=by cases y with|int i=>cases h;exact r|str x=>cases h;exact r|_=>cases h
def bH(kvs:List (j7×Y))(k:j7)(y:Y):List (j7×Y):=
 if (kvs.any λI=>decide (I.1=k))=true then kvs.map (λI=>if I.1=k then(I.1,y) else I) else kvs++[(k,y)]
theorem jc.dct{p:Addr}{zs:List (j7×V)}{o:HO}(h:H p=some (.dK zs)):jc H (upd H p o):=λa u i q=>by rw[qp ?_];exact q;rintro rfl;rw[h] at q;cases q;cases i
theorem aai{xs:List (j7×V)}(p:Paired (λ(p:j7×Y) (q:j7×V)=>p.1=q.1/\RV G H p.2 q.2) kvs xs)(k:j7):(kvs.any λI=>decide (I.1=k))=xs.any λI=>decide (I.1=k):=by induction p with|nil=>rfl|cons r t J=>rw[BU,BU,J,r.1]
theorem aam{xs:List (j7×V)}(p:Paired (λ(p:j7×Y) (q:j7×V)=>p.1=q.1/\RV G H p.2 q.2) kvs xs)(k:j7)(r:RV G H y v):
 Paired (λ(p:j7×Y) (q:j7×V)=>p.1=q.1/\RV G H p.2 q.2) (kvs.map λI=>if I.1=k then(I.1,y) else I) (xs.map λI=>if I.1=k then(I.1,v) else I):=by
 induction p with
 |nil=>exact .nil
 |@cons a b _ _ J t U=>
  refine .cons ?_ U;obtain⟨e,q⟩:=J;dsimp only;by_cases c:a.1=k
  ·rw[AF c,AF (e▸c)];exact⟨e,r⟩
  ·rw[AD c,AD (λz=>c (e.trans z))];exact⟨e,q⟩
theorem wO{xs:List (j7×V)}(p:Paired (λ(p:j7×Y) (q:j7×V)=>p.1=q.1/\RV G H p.2 q.2) kvs xs)(k:j7)(r:RV G H y v):
 Paired (λ(p:j7×Y) (q:j7×V)=>p.1=q.1/\RV G H p.2 q.2) (kvs++[(k,y)]) (xs++[(k,v)]):=by
 induction p with|nil=>exact .cons ⟨rfl,r⟩ .nil|cons I t J=>exact .cons I J
theorem pP{xs:List (j7×V)}(p:Paired (λ(p:j7×Y) (q:j7×V)=>p.1=q.1/\RV G H p.2 q.2) kvs xs)(k:j7)(r:RV G H y v):
 Paired (λ(p:j7×Y) (q:j7×V)=>p.1=q.1/\RV G H p.2 q.2) (bH kvs k y) (ax xs k v):=by
 unfold bH ax;rw[aai p k];by_cases c:(xs.any λI=>decide (I.1=k))=true
 ·rw[AF c,AF c];exact aam p k r
 ·rw[AD c,AD c];exact wO p k r
theorem xK{R:α->β->Prop}{l:List α}{m:List β}(p:Paired R l m):l.length=m.length:=by induction p with|nil=>rfl|cons _ _ I=>rw[AJ,AJ,I]
def aa7(_:jh)(L:qm)(Q:YK):Prop:=∀p,L p=none->Q (.ref p) (qg L p (.dct []))
def g9(td ti:x6)(τ:jh)(L:qm)(Q:YK):Prop:=td τ L λx L1=>ti τ L1 λy L2=>match x,uy y with
 |.ref a,some k=>kM L2 a λkvs=>sh L2 Q (xt kvs k)
 |_,_=>False
def lI(td ti tv:x6)(D:xn)(τ:jh)(L:qm):Prop:=tv τ L λv L1=>td τ L1 λx L2=>ti τ L2 λy L3=>match x,uy y with
 |.ref a,some k=>kM L3 a λkvs=>kvs.length<sizeLine/\D.nx τ (qg L3 a (.dct (bH kvs k v)))
 |_,_=>False
section
variable {i:Expr}{td tv:x6}
theorem uJ:QE X (.Dict [] [] pos) aa7:=DQ yY λU H Q g L j l J z k=>λp I=>by
 refine k _ _ _ (qg L p (.dct [])) (DP I) (λa u e=>?_) (by rfl) (z p (J.none I));by_cases c:a=p
 ·subst c;rw[q8] at e;cases e;exact⟨[],zq,.nil⟩
 ·rw[qd c] at e;exact(J a u e).keep (DP I) (qp c)
theorem bO(hu:X.A.units+128<cLine)(t:QE X o td)(hi:QE X i ti)(hs:ag3 i):QE X (.Subscript o i pos) (g9 td ti):=DQ (ac4 (by omega) t hi hs) λσ H Q l L Q3 p C z k=>
 ⟨l,L,_,p,C,z,λv H1 x T r J U z1=>⟨l,T,_,p.ts r,J,z1,λw H2 y L2 t2 I g j=>by
  split at j
  ·rename_i a kk ek;obtain⟨a1,e,z3⟩:=bM j;obtain⟨yv,ev,q⟩:=l9 z3;obtain⟨xs,e2,pr⟩:=I a _ e;obtain⟨xv,ex,rx⟩:=fz pr ev;exact⟨a,xv,U,.inl ⟨xs,kk,.inl e2,cM ek g,ex.symm⟩,k _ H2 _ L2 (r.trans t2) I rx q⟩
  ·exact j.elim⟩⟩
theorem fM(hu:X.A.units+128<cLine)(ho:QE X o td)(hi:QE X i ti)(hv:QE X value tv)(hs:swapsWith value (some (.Subscript o i ir)) pos.line X.env=pure false:=by rfl):QS X (.Assign [.Subscript o i ir] value pos) (lI td ti tv):=
 DW (aei (by omega) ho hi hv hs) λD σ H p L D3 J rl z k=>
 ⟨p,L,_,J,rl,z,λv H1 vy L1 U r t z1=>⟨p,L1,_,J.ts U,r,z1,λx H2 xy L2 g C T z2=>⟨p,L2,_,J.ts (U.trans g),C,z2,λw H3 y L3 t3 I a1 z3=>by
  split at z3
  ·rename_i a kk ek;obtain⟨a2,e,hl,q⟩:=bM z3;obtain⟨xs,e2,pr⟩:=I a _ e;have j:jc H3 (upd H3 a (.dK (ax xs kk v))):=jc.dct e2;cases (show x=V.ref a from T);refine⟨a,_,rfl,.inl ⟨xs,kk,e2,cM ek a1,by rw[<-xK pr];exact hl,rfl⟩,?_⟩;refine k.nx _ _ _ _ (((U.trans g).trans t3).trans j) (J.ts (((U.trans g).trans t3).trans j)) (λb u l=>?_) q;by_cases c:b=a
   ·subst c;rw[q8] at l;cases l;exact⟨_,zq,DS (pP pr kk (t.ts (g.trans t3))) λ_ _ ⟨h1,h2⟩=>⟨h1,h2.ts j⟩⟩
   ·rw[qd c] at l;exact(I b u l).keep j (qp c)
  ·exact z3.elim⟩⟩⟩
end
def af9(to ti tv:x6)(D:xn)(τ:jh)(L:qm):Prop:=tv τ L λv L1=>to τ L1 λx L2=>ti τ L2 λy L3=>match x,y with
 |.ref a,.int i=>bU L3 a λys=>sh L3 (λj L=>D.nx τ (qg L a (.lst (ys.set j v)))) (xW ys.length i)
 |_,_=>False
section
variable {i:Expr}{tv:x6}
theorem adp(ho:QE X o to)(hi:QE X i ti)(hv:QE X value tv)
 (ha:∀v,assign (.Subscript o i ir) X.env v=(do
  let J <-holding [v] (eval o X.env)
  let p <-holding [v,J] (eval i X.env)
  standAt ir
  holding [v,J,p] (setItem J p v)
  release [v,J,p] []):=by intro _;rfl)
 (h1:swapsWithSole [.Subscript o i ir] value pos.line X.env=pure false:=by rfl) (h2:swappedStores [.Subscript o i ir] value X.env=pure none:=by rfl)
 (h3:(assignEach [.Subscript o i ir] X.env).map (·.2)=[assign (.Subscript o i ir) X.env]:=by rfl):QS X (.Assign [.Subscript o i ir] value pos) (af9 to ti tv):=
 DW (xJ hv (agp ho hi aa3 ha) h1 h2 h3) λD σ H t L D3 U rl z k=>
 ⟨t,L,_,U,rl,z,λv H1 vy L1 g C T z1=>⟨t,L1,_,U.ts g,C,z1,λx H2 xy L2 l a1 a2 z2=>⟨t,L2,_,U.ts (g.trans l),a1,z2,λw H3 y L3 t3 I a3 z3=>by
  split at z3
  ·rename_i a ii;obtain⟨ys,e,z4⟩:=x8 z3;obtain⟨j,ej,q⟩:=l9 z4;obtain⟨xs,e2,r⟩:=I a _ e;cases (show x=V.ref a from a2);cases (show w=V.int ii from a3);have tt:jc H3 (upd H3 a (.lst (xs.set j v))):=DZ e2;exact⟨a,xs,ii,j,rfl,rfl,e2,by rw[<-r.length];exact ej,k.nx _ _ _ _ (((g.trans l).trans t3).trans tt) (U.ts (((g.trans l).trans t3).trans tt)) (I.setL e2 (x5.setY (T.ts (l.trans t3)) j r)) q⟩
  ·exact z3.elim⟩⟩⟩
end
end L3
namespace L2
open PySem PySem.Spec PyProof.Rows
section
variable {v₁ v₂:Expr}{te:TE}{u:Str->TE}
end
end L2
namespace L3
open PySem L2
section
variable {v₁ v₂:Expr}{u:Str->x6}
end
section
variable {tv:x6}{tr:dM}{f m:Str}{g:Addr}
end
open PySem.AutoSeq1 (wpAny_loadPart')
open MeetsSeq MeetsSeq2 MeetsSeq3 SeqRoads2
def fH(x:Y)(vs:List Y)(L:qm)(Q:YK):Prop:=match x,vs with
 |.ref a,[]=>bU L a λys=>Q .non (qg L a (.lst ys.reverse))
 |_,_=>False
theorem x5.rev{G:G3}{H:Hp}:∀{ys:List Y} {xs:List V},x5 G H ys xs->x5 G H ys.reverse xs.reverse
 |[],xs,r=>by cases (show xs=[] from r);exact rfl
 |y::t,xs,r=>by obtain⟨x,I,rfl,J,U⟩:=r;rw[CF,CF];exact x5.app (x5.rev U) (x5.one J)
theorem uM :eF X "list.reverse" (yd X.g3 fH):=eF.imq rq λx U H Q y o L p g j J z k=>by
 unfold fH at z;split at z
 ·rename_i a;obtain⟨t,e,z⟩:=x8 z;obtain⟨l,I,r⟩:=J a _ e;cases (show U=[] from j);exact⟨a,l,g,rfl,I,k _ _ _ _ (DZ I) (J.setL I r.rev) (by rfl) z⟩
 ·exact z.elim
theorem rT(I:QE X o to)(J:attributeBase o "reverse" X.env (eval o X.env)=eval o X.env:=by rfl)(U:(apos.endLine==fm.line)=true:=by rfl):
 QE X (.Call (.Attribute o "reverse" apos) [] [] fm) (aT fH to qu):=yQ PySem.F.slot_list_reverse PySem.F.type_list_reverse uM I J U
def wV(x y:Y)(L:qm)(Q:YK):Prop:=gK L x λxs=>gK L y λys=>tU x=true/\tU y=true/\xs.length+ys.length<=sizeLine/\∀p,L p=none->Q (.ref p) (qg L p (.lst (xs++ys)))
theorem yM(K:Ae)(P:Program)(w:World)(hK:X.K=K:=by rfl)(hP:X.prog=P:=by rfl)(hw:X.w=w:=by rfl):vz X (binaryOp .Add) (eQ ⟨K,P,w⟩ wV):=by
 subst hK hP hw;intro a1 s σ H x y v u Q I rx ry ⟨x3,y3,L,Q3,r1,r2,r,z,k⟩;obtain⟨xs,ex,z⟩:=aB z;obtain⟨ys,ey,z⟩:=aB z;obtain⟨lx,ly,hz,q⟩:=z;obtain⟨a,ws,rfl,s1,g⟩:=fV r r1 lx ex;obtain⟨b,a3,rfl,s2,j⟩:=fV r r2 ly ey;cases rx;cases ry;obtain⟨J,vx,tx,_⟩:=I.list s1;obtain⟨U,vy,ty,_⟩:=I.list s2;obtain⟨⟨cls,dd,data,sl⟩,ho,hc,n,hd⟩:=id (j5 tx);obtain⟨⟨a2,t,data2,C⟩,l,o,n2,p⟩:=id (j5 ty);simp only at hc hd o p;subst hc hd o p;have l1:=vx.length;have l2:=vy.length;have l3:=g.length;have l4:=j.length;have T:J.toArray.size+U.toArray.size<=sizeLine:=by rw[An,An];lia
 refine concat_meets ⟨_,ho,rfl⟩ ⟨_,l,rfl⟩ noFill_list_add seq_list_add PySem.F.slot_list_add PySem.F.entry_list_add (PySem.F.args_list_add_2 _ _) (PyProof.Rows.list_addW a b J.toArray U.toArray n n2 dd t sl C T) ⟨ho,l,?_⟩;have e:J.toArray++U.toArray=(J++U).toArray:=by simp
 rw[e];exact⟨.ref _,_,I.lnew (t':=s.toks) (vx.append vy) (by rw[Ad];lia),rfl,k _ _ _ _ (DP I.fresh) (r.newL I.fresh (g.app j)) (by rfl) (q _ (r.none I.fresh))⟩
end L3
namespace Txs
open PySem PySem.Builtin.Str
theorem len_list(x:Str):x.cps.toList.length=x.length:=by simp[Str.length]
end Txs
namespace L2
open PySem PySem.Spec PyProof.Rows
section
variable {isp imk c j1 j2:Nat}{sp mk:Str}{u:Tok}{m:Str->Option Value}{p6 p7 p8 p9 p10:Pos}{Q:Flow->Shared->Prop}
end
end L2
namespace L2
open PySem PySem.Spec PyProof.Rows
end L2
namespace L3
open PySem L2
def acz(s:Stmt):List Stmt:=match s with
 |.ClassDef _ _ _ b _ _ _ _ _ _ _=>b
 |_=>[]
section
variable {tr:dM}{m:Str}{k:Nat}{sp:xm}
end
end L3
namespace L2
open PySem PySem.Spec PyProof.Rows
section
variable {te:TE}
end
end L2
namespace L3
open PySem L2
end L3
namespace L2
open PySem PySem.Spec PyProof.Rows
section
variable {T:Addr}{tr:Option Addr}
end
section
variable {T:List Str}{g:TG}{te:TE}
end
section
variable {T:Addr}{tr:Option Addr}{E1:X1}
end
section
variable {k:Nat}{E1:X1}
end
end L2
namespace L3
open PySem L2
section
variable {T:List Str}{wi:TI3}{tr:dM}{E3:X3}{Ea:Addr->qm->Prop}
end
end L3
namespace L2
open PySem PySem.Spec PyProof.Rows
end L2
namespace L2
open PySem PySem.Spec PyProof.Rows
section
variable {w:World}
theorem oV{it t:Addr}{fy:Array Value}(I:t≠it):∀(n i:Nat) (s:Shared) (Q:List Value->Shared->Prop),s.heap.IsListIter it t i->s.heap.IsList t fy->i+n<=fy.size->
 (∀h',h'.IsListIter it t (i+n)->Heap.SameBut it s.heap h'->Q ((fy.toList.drop i).take n) { s with heap:=h' })->wpAny (model prog w) A (draw (.ref it) n) Q E s
 |0,i,s,Q,hit,_,_,g=>by unfold draw;exact Ak (by simpa using g s.heap hit (Heap.SameBut.refl ..))
 |n+1,i,s,Q,hit,p,r,g=>by
  have J:i<fy.size:=by omega
  unfold draw;refine Aa (wpAny_pyNext_list_item hit p (x:=fy[i]) (by simp[J]) λg1 j U=>?_);refine Aa (A3 (oV I n (i+1) _ _ j (p.extBut U.extBut I) (by lia) λg2 l o=>Ak ?_));have e:fy.toList.drop i=fy[i]::fy.toList.drop (i+1):=by simp[Dk,J]
  have q:=g g2 (by rw[show i+(n+1)=i+1+n by simp +arith only];exact l)
   (U.trans o)
  rw[e,List.take_succ_cons] at q;exact q
theorem aee{t:Addr}{fy:Array Value}{Q:Unit->Shared->Prop}(T:A.handled=none)(I:s.heap.IsList t fy)(hn:(assignEach sy env).length=fy.size)(j:(assignEach sy env).findIdx? (·.1)=none)
 (h:∀g,Heap.ExtBut s.heap.objs.size s.heap g->wpAny (model prog w) A (assignInOrder ((assignEach sy env).map (·.2)) fy.toList) Q E { s with heap:=g }):wpAny (model prog w) A (assign (.Tuple sy x1 pos) env (.ref t)) Q E s:=by
 have J:t≠s.heap.objs.size:=by obtain⟨o,ho,_⟩:=I;exact A1 (At ho)
 rw[arm_assign_Tuple];refine Aa (wpAny_standAt ?_);unfold unpack;rw[hn,j];refine Aa (A3 ?_);unfold unpackItems notIterableAtAll;refine Aa (Aa (wpAny_specialOf I.typeIs slot_list_iter.lookup ?_));refine Ak ?_;rw[AD (by simp)];refine Aa (A3 (wpAny_pyIter_list I ?_));refine Aa (A3 (oV J fy.size 0 _ _ ⟨_,Db _ rfl,rfl,rfl⟩ (I.push _) (by simp +arith only) λg1 l U=>?_));have all:List.take fy.size (List.drop 0 fy.toList)=fy.toList:=by rw[C9];exact Be (by simp)
 rw[all,AD (by simp)];have p:g1.IsList t fy:=(I.push _).extBut U.extBut J;refine Aa (A3 (wpAny_pyNext_list_end T l p (by simp) λg2 r=>?_));rw[AD (by simp)];exact Ak (h g2 λb o C e=>r b o C (U.extBut b o C (As _ e)))
end
def ao2(K:Ae)(n:Nat)(t:yR):TG:=λv σ H Q=>∃a xs,v=.ref a/\aH K H a xs/\xs.length=n/\t xs σ H Q
theorem ai2{k:Nat}{t:yR}(hc:X.calm=true)(h:zM X es t)
 (l:(assignEach es X.env).length=n:=by rfl) (U:(assignEach es X.env).findIdx? (·.1)=none:=by rfl):PG X (.Tuple es k pos) (ao2 X.K n t):=by
 intro J s g H v u Q I r hw;obtain⟨a,p,C,T,hl,hw⟩:=hw;subst C;cases r;obtain⟨a1,j,pl,hz⟩:=I.list T;have ht:=j5 pl;refine aee (I.ok.hd hc) ht (by simp[l,<-hl,j.length]) U λh' hx=>?_;have I1:qy X J g H { s with heap:=h' }:=I.kept (t':=s.toks) λb o e=>hx b o (A1 (At e)) e;exact h J _ g H p _ Q I1 (by simpa using j) hw
theorem adk(l:Addr)(fy:Array Value)(n:Nat)(x:Value)(b:Nat->Bool)(j:Nat)(C:j<fy.size)(hit:b j=true)(hz:fy.size<=sizeLine):∀(k i:Nat),j-i=k->i<=j->(∀m,i<=m->m<j->b m=false)->
 Meets (Builtin.«list.remove.loop» ⟨[.ref l,x,rawInt i],[]⟩) (λA R s=>s.heap.get? l=some { cls:=.type "list",dict:=none,data:=.seq fy n,slots:=#[] }/\(∀m (hm:m<fy.size),SeqAt.EqAt A.in1 s fy[m] x (b m))/\R (.ok (.ret .none)) { s with heap:=s.heap.update l (Obj.mapSeq λxs=>xs.eraseIdxIfInBounds j) }):=by
 intro k
 induction k with
 |zero=>
  intro i T p J I w A R s h;obtain⟨hp,g,d,tk,os⟩:=s;obtain⟨U,eq,h⟩:=h;have e:i=j:=by lia
  subst e
  (wp_walk using wpAny_loadPart' U)
  have r:fy[((i:Nat):Int).toNat]?=some fy[i]:=by simp[C]
  rw[r];refine Aa (eq i C I w _ _ ?_);rw[hit];have t:(fy.eraseIdxIfInBounds i).size<=sizeLine+1:=AI (MeetsSeq.size_erased fy _) (BN hz)
  (wp_walk using (wpAny_updateSeq U rfl (hz:=hz) (_hz':=t)),wpAny_loadPart' U)
  simpa using h
 |succ k ih=>
  intro i T p J I w A R s h;obtain⟨hp,g,d,tk,os⟩:=s;obtain⟨U,eq,h⟩:=h;have o:i<fy.size:=by exact aa9
  (wp_walk using wpAny_loadPart' U)
  have r:fy[((i:Nat):Int).toNat]?=some fy[i]:=by simp[o]
  have hc:((i:Int)+1)=((i+1:Nat):Int):=by rfl
  rw[r];refine Aa (eq i o I w _ _ ?_);rw[J i (Al _) (by omega)]
  wp_walk
  rw[hc];refine⟨plainId_quiet Eh _,codeAny_builtin MeetsSeq.entry_remove_loop ?_⟩;rw[Around.under_plainId Eh _];exact ih (i+1) (by omega) (by omega) (λm h1 h2=>J m (by exact rN) h2) I w A R _ ⟨U,eq,h⟩
theorem y0(l:Addr)(fy:Array Value)(n:Nat)(x:Value)(b:Nat->Bool)(j:Nat)(o:j<fy.size)(hit:b j=true)(hz:fy.size<=sizeLine)(J:∀m,m<j->b m=false):
 Meets (Builtin.«list.remove» ⟨[.ref l,x],[]⟩) (λA R s=>s.heap.get? l=some { cls:=.type "list",dict:=none,data:=.seq fy n,slots:=#[] }/\(∀m (p:m<fy.size),SeqAt.EqAt A.in1 s fy[m] x (b m))/\R (.ok (.ret .none)) { s with heap:=s.heap.update l (Obj.mapSeq λxs=>xs.eraseIdxIfInBounds j) }):=by
 intro I w A R s h;obtain⟨r,g,d,tk,os⟩:=s;obtain⟨U,eq,h⟩:=h
 (wp_walk using wpAny_loadPart' U)
 refine⟨plainId_quiet Eh _,codeAny_builtin MeetsSeq.entry_remove_loop ?_⟩;rw[Around.under_plainId Eh _];exact adk l fy n x b j o hit hz _ 0 rfl (Bi _) (λm _ h2=>J m h2) I w A R _ ⟨U,eq,h⟩
theorem zn.eraseN:∀{xs:List V} {us:List Value} (n:Nat),zn xs us->zn (xs.eraseIdx n) (us.eraseIdx n)
 |[],_,n,.nil=>by simp;exact .nil
 |_::_,_,0,.cons _ t=>t
 |_::_,_,n+1,.cons r t=>.cons r (zn.eraseN n t)
def ad0(X:Cx):V->List V->Hp->VK->Prop:=λx vs H Q=>∃l xs y ds e,∃n m j:Nat,x=.ref l/\vs=[y]/\H l=some (.lst xs)/\n<=126/\Paired (vf X.K H n) xs ds/\vf X.K H m y e/\j<ds.length/\(∃d,ds[j]?=some d/\Da.eq d e=true)/\
 (∀(k:Nat) d,k<j->ds[k]?=some d->Da.eq d e=false)/\Q .non (upd H l (.lst (xs.eraseIdx j)))
theorem uV(hu:X.A.units+128<cLine):eF X "list.remove" (ad0 X):=by
 intro a5 s σ H x vs v us Q I rx rv h;obtain⟨l,o,y,g,e,n,m,j,rfl,rfl,hH,hn,pd,ry,hj,⟨dj,t,C⟩,T,q⟩:=h;cases rx;obtain⟨u,rfl,ru⟩:=rv.one;obtain⟨z,J,nn,r,hl,eo⟩:=I.lstM hH;have l1:o.length=g.length:=pd.length;have l2:J.length=o.length:=r.length.symm;obtain⟨arr,U⟩:∃arr:Array Value,arr=J.toArray:=⟨_,rfl⟩;have a1:arr.size=J.length:=by rw[U,An]
 have b:Nat->Bool:=λ_=>true;have a2:arr.size<=sizeLine:=by rw[a1];lia
 have M:=y0 l arr nn u (λk=>((g[k]?).map λd=>Da.eq d e).getD false) j (by lia) (by show((g[j]?).map λd=>Da.eq d e).getD false=true;rw[t];exact C) a2 (λk p=>by show((g[k]?).map λd=>Da.eq d e).getD false=false;cases ek:g[k]? with|none=>rfl|some d=>exact T k d p ek)
 rw[U] at M;refine call_meets F.slot_list_remove ⟨_,eo,rfl⟩ F.entry_list_remove (F.args_list_remove_2 _ _) M ⟨eo,λk p=>?_,?_⟩
 ·have ag:k<J.length:=by rw[An] at p;exact p
  obtain⟨d,ed,rd⟩:=Words.Paired.getP pd (Aj (by lia:k<o.length));show SeqAt.EqAt _ s _ u (((g[k]?).map λd=>Da.eq d e).getD false);rw[ed];obtain⟨u',a3,a4⟩:=Words.Paired.getP r (Aj (by lia:k<o.length));have eg:J.toArray[k]=u':=by have:=(AL.mp a3).2;simpa using this
  rw[eg];exact jI I n (by show X.A.units+1+n<cLine;lia) rd ry a4 ru
 ·refine⟨.non,_,I.lset (its':=J.eraseIdx j) hH eo ?_ (r.eraseN j) ?_,rfl,q⟩
  ·have:j<J.length:=by lia
   simp[Array.eraseIdxIfInBounds,this]
  ·have:=CB o j;exact al2
end L2
namespace L3
open PySem L2
def aet(n:Nat)(t:oh)(y:Y)(τ:jh)(L:qm)(Q:jh->qm->Prop):Prop:=match y with
 |.ref a=>bU L a λys=>match ys.length==n with
  |true=>t ys τ L Q
  |false=>False
 |_=>False
theorem ahw{U:Nat}(hc:X.calm=true)(h:QGs X es gs)(h1:(assignEach es X.env).length=n:=by rfl)(h2:(assignEach es X.env).findIdx? (·.1)=none:=by rfl):QG X (.Tuple es U pos) (aet n gs):=
 PG.imp (ai2 hc h h1 h2) λv σ H Q ⟨y,g,L,j,l,o,J,z,k⟩=>by
 cases y with
 |ref a=>
  cases (show v=.ref a from l);obtain⟨p,e,I⟩:=x8 z;obtain⟨t,C,r⟩:=J a _ e;split at I
  ·rename_i T;exact⟨a,t,rfl,aH.of C,by rw[<-r.length];exact beq_iff_eq.mp T,p,g,L,j,r,o,J,I,k⟩
  ·exact I.elim
 |_=>exact z.elim
def iI(x:Y)(vs:List Y)(L:qm)(Q:YK):Prop:=match x,vs with
 |.ref a,[v]=>bU L a λys=>∃ds e,∃n m j:Nat,n<=126/\Paired (zw L n) ys ds/\zw L m v e/\j<ds.length/\(∃d,ds[j]?=some d/\Da.eq d e=true)/\(∀(k:Nat) d,k<j->ds[k]?=some d->Da.eq d e=false)/\Q .non (qg L a (.lst (ys.eraseIdx j)))
 |_,_=>False
theorem yU(C:X.A.units+128<cLine):eF X "list.remove" (yd X.g3 iI):=eF.imq (uV C) λx I H Q y U L Q3 T r2 g z k=>by
 unfold iI at z;split at z
 ·rename_i a v;obtain⟨zs,e,J,de,n,m,j,hn,pd,dv,hj,hit,l,z⟩:=x8 z;obtain⟨us,o,r⟩:=g a _ e;obtain⟨v',rfl,rv⟩:=r2.inv1;have both:∀{U:List Y} {J:List Da} {I:List V},Paired (zw L n) U J->x5 X.g3 H U I->Paired (vf X.K H n) I J:=by
   intro U J I p
   induction p generalizing I with
   |nil=>intro q;cases (show I=[] from q);exact .nil
   |cons h t ih=>
    rintro⟨x,a1,rfl,q1,q2⟩;exact .cons (zw.rep g h q1) (ih q2)
  exact⟨a,us,v',J,de,n,m,j,T,rfl,o,hn,both pd r,zw.rep g dv rv,hj,hit,l,k _ _ _ _ (DZ o) (g.setL o (r.eraseIdx j)) (by rfl) z⟩
 ·exact z.elim
theorem vZ(I:X.A.units+128<cLine){tr:dM}(J:QE X o to)(U:QA X (e::es) tr)(g:attributeBase o "remove" X.env (eval o X.env)=eval o X.env:=by rfl)
 (j:((backTo fm (starEach (e::es) X.env)).all (λx=>!x.1)&&(backToKw fm (keywordEach [] X.env)).all (λx=>x.1.isSome)&&decide ((e::es).length+([]:List Keyword).length+(if ([]:List Keyword).isEmpty=true then 0 else 1)<30))=true:=by rfl)
 (l:(apos.endLine==fm.line)=true:=by rfl) (p:Eb e es X:=by rfl) (r:Ec fm es X:=by rfl):
 QE X (.Call (.Attribute o "remove" apos) (e::es) [] fm) (aT iI to tr):=m9 PySem.F.slot_list_remove PySem.F.type_list_remove (yU I) J U g j l p r
end L3
namespace L2
open PySem PySem.Spec PyProof.Rows
end L2
namespace L3
open PySem L2
theorem wL{xs:List (j7×V)}{k:j7}(p:Paired (λ(p:j7×Y) (q:j7×V)=>p.1=q.1/\RV G H p.2 q.2) kvs xs)(h:xt kvs k=none):aK xs k=none:=by
 induction p with
 |nil=>rfl
 |@cons a b _ _ r t I=>
  obtain⟨e,_⟩:=r;unfold xt at h;rw[Bd] at h;by_cases c:a.1=k
  ·rw[AV c] at h;cases h
  ·rw[Az c] at h;rw[eG (λz=>c (e.trans z))];exact I h
def wW(td ti tx:x6)(τ:jh)(L:qm)(Q:YK):Prop:=td τ L λx L1=>match x with
 |.ref a=>kM L1 a λ_=>ti τ L1 λy L2=>tx τ L2 λz L3=>match uy y with
  |some k=>kM L3 a λkvs=>Q ((xt kvs k).getD z) L3
  |none=>False
 |_=>False
theorem yf{f:Expr}{td tx:x6}(hu:X.A.units+128<cLine)(ho:QE X o td)(hi:QE X e ti)(hf:QE X f tx)(m:M2 X o "get" apos e f fm:=by exact⟨rfl,rfl,rfl,rfl⟩):QE X (.Call (.Attribute o "get" apos) [e,f] [] fm) (wW td ti tx):=DQ (aad (by lia) ho hi hf m) λσ H Q l L Q3 p rl z k=>
 ⟨l,L,_,p,rl,z,λv H1 x L1 j U r g=>by
  split at g
  ·rename_i a;obtain⟨a5,e0,g⟩:=bM g;obtain⟨t,C,_⟩:=U a _ e0;refine⟨a,r,.inl ⟨t,.inl C⟩,l,L1,_,p.ts j,U,g,λw H2 y L2 T a1 a2 z2=>⟨l,L2,_,p.ts (j.trans T),a1,z2,λu H3 yz L3 t3 J a3 I=>?_⟩⟩;split at I
   ·rename_i kk ek;obtain⟨a4,e,I⟩:=bM I;obtain⟨xs,e2,pr⟩:=J a _ e;have rk:=cM ek a2;cases ev:xt a4 kk with
    |none=>
     rw[ev] at I;exact⟨none,.inl ⟨xs,kk,.inl e2,rk,(wL pr ev).symm⟩,k _ H3 _ L3 ((j.trans T).trans t3) J a3 I⟩
    |some yv=>
     rw[ev] at I;obtain⟨xv,ex,rx⟩:=fz pr ev;exact⟨some xv,.inl ⟨xs,kk,.inl e2,rk,ex.symm⟩,k _ H3 _ L3 ((j.trans T).trans t3) J rx I⟩
   ·exact I.elim
  ·exact g.elim⟩
end L3
namespace L2
open PySem PySem.Spec PyProof.Rows
def amw:List V->Hp->VK->Prop:=λxs H Q=>∃n:Int,xs=[.int n]/\∀p,H p=none->Q (.ref p) (upd H p (.rng 0 n))
theorem ab0:jt X (.type "range") amw:=by intro J s g H j l Q I r h;obtain⟨n,rfl,q⟩:=h;obtain⟨u,rfl,U⟩:=r.one;obtain⟨t,rfl⟩:=(show ∃t,u=Value.int n t from U);refine call_range_1 ?_;refine⟨.ref s.heap.objs.size,_,I.laid (t':=s.toks+1+1) (o:=.rng 0 n) (λb p q=>As _ q) (Al _) ?_,rfl,q _ (I.hok.fresh (Al _))⟩;exact⟨s.toks,t,s.toks+1,Db _ rfl⟩
theorem rc{I:Array Value}(h:ItemsOf (λi v=>∃t,v=.int (0+(i:Int)*1) t) I n):zn ((List.range n).map λi:Nat=>V.int (0+(i:Int))) I.toList:=by
 have len:I.toList.length=n:=by rw[Ba];exact h.1
 have key:∀(l:List Value) (k:Nat),(∀(j:Nat) v,l[j]?=some v->∃t,v=Value.int (0+((k+j:Nat):Int)*1) t)->zn ((List.range' k l.length).map λi:Nat=>V.int (0+(i:Int))) l:=by
  intro l
  induction l with
  |nil=>intro k _;exact .nil
  |cons v r g=>
   intro k U;rw[AJ,Dx,AA];obtain⟨t,e⟩:=U 0 v rfl;refine .cons ?_ (g (k+1) λj o J=>?_)
   ·exact⟨t,by rw[e];simp⟩
   ·have:=U (j+1) o J;rw[show k+1+j=k+(j+1) by simp +arith only];exact this
 have:=key I.toList 0 λj v J=>by rw[Nat.zero_add];exact h.2 j v (by simpa using J)
 rw[len,<-List.range_eq_range'] at this;exact this
def alr:List V->Hp->VK->Prop:=λxs H Q=>∃a,∃n:Nat,xs=[.ref a]/\H a=some (.rng 0 n)/\n<=100000/\∀p,H p=none->Q (.ref p) (upd H p (.lst ((List.range n).map λi:Nat=>V.int (0+(i:Int)))))
theorem uw(hc:X.calm=true):jt X (.type "list") alr:=by
 intro g s σ H xs us Q I r h;obtain⟨a,n,rfl,j,l,q⟩:=h;obtain⟨u,rfl,p⟩:=r.one;cases (show u=Value.ref a from p);obtain⟨t,u,v,e⟩:=I.hok a _ j;have hb:(100000:Nat)<=sizeLine:=by decide
 have C:Builtin.Range.rangeSize 0 (n:Int) 1=((n:Nat):Int):=by rw[rangeSize_one];split<;>lia
 refine jm I.tk (call_list_range (I.ok.hd hc) (show IsRange s.heap a 0 (n:Int) 1 t u v from e) (small_one (by decide) (by decide) (by exact A8 _) (by omega)) C (AI l (by decide)) λh' tk U c T hS J ht=>?_);refine⟨.ref s.heap.objs.size,_,I.laid (t':=tk) (o:=.lst ((List.range n).map λi:Nat=>V.int (0+(i:Int)))) T (Al _) ?_,rfl,q _ (I.hok.fresh (Al _))⟩;refine⟨by rw[Ab,Bf];exact al2,U.toList,c,rc J,?_⟩;rw[hS]
end L2
namespace L3
open PySem L2
theorem agi:bootBuiltins "range"=some (.type "range"):=by decide +kernel
def oi(te:x6)(τ:jh)(L:qm)(Q:YK):Prop:=te τ L λy L1=>match y with
 |.int n=>(0<=n/\n<=100000)/\∀p,L1 p=none->Q (.ref p) (qg L1 p (.lst (aN 0 n.toNat)))
 |_=>False
theorem abj(n:Nat):x5 G H (aN 0 n) ((List.range n).map λi:Nat=>V.int (0+(i:Int))):=by
 unfold aN;generalize List.range n=l
 induction l with|nil=>rfl|cons k r I=>exact⟨_,_,rfl,rfl,I⟩
theorem rX{I:Pos}(hc:X.calm=true)(C:Gl X "list")(T:X.mg "list"=none)(j:Gl X "range")(l:X.mg "range"=none)(h:QE X e te)
 (h1:starEach [.Call (.Name "range" p2) [e] [] I] X.env=(false,eval (.Call (.Name "range" p2) [e] [] I) X.env)::starEach [] X.env:=by rfl) (h2:(backTo pos (starEach [] X.env)).any (·.1)=false:=by rfl)
 (h3:starEach [e] X.env=(false,eval e X.env)::starEach [] X.env:=by rfl) (h4:(backTo I (starEach [] X.env)).any (·.1)=false:=by rfl):
 QE X (.Call (.Name "list" p) [.Call (.Name "range" p2) [e] [] I] [] pos) (oi te):=
 DQ (gN (uw hc) C T bV (w5 (gN ab0 j l agi (w5 h cX h3) (by decide) (by decide) h3 h4) cX h1) (by decide) (by decide) h1 h2) λσ H Q τ L Q3 rs rl z k=>
 ⟨τ,L,_,rs,rl,z,λv H1 y L1 t1 J o U=>by
  cases y with
  |int n=>
   obtain⟨⟨h0,h5⟩,U⟩:=U;cases (show v=V.int n from o);obtain⟨m,rfl⟩:∃m:Nat,n=(m:Int):=⟨n.toNat,by lia⟩;refine⟨_,rfl,λq r=>⟨q,m,rfl,zq,by lia,λp g=>?_⟩⟩;have t:H1 p=none:=by
    by_cases c:p=q
    ·subst c;exact r
    ·rw[qp c] at g;exact g
   exact k _ _ _ _ (t1.trans ((DP r).trans (DP g))) ((J.skip r).newL g (abj m)) (by rfl) (U p (J.none t))
  |_=>exact U.elim⟩
section
variable {tr:dM}{m:Str}{g:Addr}
end
end L3
namespace TS
open PySem PyProof.Rows
section
variable {w:World}
structure Ord(prog:Program)(w:World)(A:Around)(s:Shared)(κ:SortKind)(Ok:Keyed->Prop)(f:Keyed->Int):Prop where
 lt:∀x y,Ok x->Ok y->∀{E:Value->Shared->Prop} {Q:Bool->Shared->Prop},Q (decide (f x<f y)) s->wpAny (model prog w) A (keyLt' κ x.1 y.1) Q E s
variable {κ:SortKind}{Ok:Keyed->Prop}{f:Keyed->Int}
theorem w_lt(O:Ord prog w A s κ Ok f){st:SortSt}{x y:Keyed}{Q:Option Bool->SortSt->Prop}(I:kindOf st=κ)(J:Ok x)(U:Ok y)(h:Q (some (decide (f x<f y))) st):wpS (model prog w) A E s (lt' x y) Q st:=by rw[lt'_eq];refine Aw (wpS_get ?_);rw[I];refine Aw (wpS_lift (wpAny_attempt (O.lt x y J U ⟨rfl,?_⟩)));exact AG h
theorem yc{arr:Array Keyed}{x:Keyed}{st:SortSt}{Q:Keyed->SortSt->Prop}(h:arr[i]?=some x)(q:Q x st):wpS (model prog w) A E s (elem' arr i) Q st:=by rw[elem'_eq,h];exact AG q
end
section
variable {f:Keyed->Int}{a b wh:Array Keyed}{ia ib:Nat}
end
section
variable {w:World}{κ:SortKind}{Ok:Keyed->Prop}{f:Keyed->Int}
end
theorem alc(l:List Keyed){k:Nat}(h:i<=k):l.take i++(l.drop i).take (k-i)=l.take k:=by have:=List.take_add (l:=l) (i:=i) (j:=k-i);rw[show i+(k-i)=k by omega] at this;exact this.symm
section
variable {f:Keyed->Int}{a b wh:Array Keyed}{na nb:Nat}
end
section
variable {w:World}{κ:SortKind}{Ok:Keyed->Prop}{f:Keyed->Int}
end
section
variable {w:World}{κ:SortKind}{Ok:Keyed->Prop}{f:Keyed->Int}
theorem aml{l:List Keyed}(s:l.Pairwise λx y=>f x<=f y)(I:i<=j)(J:j<l.length):f (l[i]'(by exact aa9))<=f l[j]:=by
 rcases Nat.lt_or_eq_of_le I with h|h
 ·exact Dl.mp s i j (by exact aa9) J h
 ·subst h;exact CU _
end
theorem gj{arr:Array α}{P R:List α}(h:arr.toList=P++R)(I:n<=R.length):(mirror arr P.length (P.length+n) ((P.length+n-P.length) / 2)).toList=P++((R.take n).reverse++R.drop n):=by
 have J:arr.size=P.length+R.length:=by rw[<-Ba,h];simp
 refine List.ext_getElem? λk=>?_;rw[A9,getElem?_mirror_all (by lia)];by_cases c:P.length<=k/\k<P.length+n
 ·rw[AF c,<-A9,h,Ax (by omega),Ax (by lia),AE (by simp;omega),List.getElem?_reverse (by simp;omega),De,AY,AF (by omega)];congr 1;lia
 ·rw[AD c,<-A9,h];by_cases c2:k<P.length
  ·rw[AE c2,AE c2]
  ·rw[Ax (by exact yg),Ax (by omega),Ax (by simp;lia),Df];congr 1;simp;lia
theorem o0{arr:Array α}{P R:List α}{k:Nat}(h:arr.toList=P++R)(I:k<R.length)(J:l<=k):(bubble arr (P.length+k) (P.length+k-(P.length+l))).toList=P++(R.take l++R[k]::((R.drop l).take (k-l)++R.drop (k+1))):=by
 have U:arr.size=P.length+R.length:=by rw[<-Ba,h];simp
 refine List.ext_getElem? λi=>?_;rw[A9,getElem?_bubble (by lia) _ (by exact Nat.sub_le _ _),show P.length+k-(P.length+k-(P.length+l))=P.length+l by omega];by_cases c1:i=P.length+l
 ·rw[AF c1,<-A9,h,c1,Ax (by exact BA _ _),Ax (by exact BA _ _),Ax (by simp;lia)];rw[show P.length+l-P.length-(R.take l).length=0 by simp;lia,show P.length+k-P.length=k by lia,List.getElem?_cons_zero];simp[I]
 ·rw[AD c1];by_cases c2:P.length+l<i/\i<=P.length+k
  ·rw[AF c2,<-A9,h,Ax (by omega),Ax (by lia),Ax (by simp;lia)];obtain⟨d,hd⟩:∃d,i=P.length+l+d+1:=⟨i-P.length-l-1,by omega⟩;rw[show i-P.length-(R.take l).length=d+1 by simp;lia,CA,AE (by simp;omega),De,AF (by omega),Df];congr 1;omega
  ·rw[AD c2,<-A9,h];by_cases c3:i<P.length
   ·rw[AE c3,AE c3]
   ·rw[Ax (by exact yg),Ax (by omega)];by_cases c4:i<P.length+l
    ·rw[AE (by simp;lia),De,AF (by omega)]
    ·obtain⟨d,hd⟩:∃d,i=P.length+k+d+1:=⟨i-P.length-k-1,by omega⟩;rw[Ax (by simp;lia),show i-P.length-(R.take l).length=(k-l)+d+1 by simp;lia,CA,Ax (by simp;omega),Df];congr 1;simp;lia
section
variable {w:World}{κ:SortKind}{Ok:Keyed->Prop}{f:Keyed->Int}
structure Tl(κ:SortKind)(Ok:Keyed->Prop)(st:SortSt)(P R:List Keyed):Prop where
 kind:kindOf st=κ
 arr:(arrOf st).toList=P++R
 ok:∀x∈R,Ok x
theorem f9(O:Ord prog w A s κ Ok f){st:SortSt}{P R:List Keyed}(T:Tl κ Ok st P R)(hi:i<R.length)(J:j<R.length){a b:Nat}(U:a=P.length+i)(g:b=P.length+j){Q:Option Bool->SortSt->Prop}(q:Q (some (decide (f R[i]<f R[j]))) st):wpS (model prog w) A E s (ltAt' a b) Q st:=by
 have I:∀i (hi:i<R.length),(arrOf st)[P.length+i]?=some R[i]:=λi hi=>by rw[<-A9,T.arr,Ax (by exact BA _ _),Dy];simp
 subst U g;rw[ltAt'_eq];refine Aw (wpS_get ?_);refine Aw (yc (I i hi) (Aw (yc (I j J) ?_)));exact w_lt O T.kind (T.ok _ (List.getElem_mem _)) (T.ok _ (List.getElem_mem _)) q
def Up(f:Keyed->Int)(R:List Keyed)(n:Nat):Prop:=∀i j (_:i<=j) (_:j<R.length),j<n->f (R[i]'(by exact aa9))<=f R[j]
theorem Up.snoc{R:List Keyed}(h:Up f R n)(h1:1<=n)(g:n<R.length)(hs:f (R[n-1]'(by exact rO))<=f R[n]):Up f R (n+1):=λi j I J U=>by
 rcases C4 j n with c|c
 ·exact h i j I J c
 ·have e:j=n:=by lia
  subst e;rcases C4 i j with c2|c2
  ·exact DE (h i (j-1) (by omega) (by exact rO) (by exact alo)) hs
  ·have e:i=j:=by lia
   subst e;exact CU _
theorem Up.pair{R:List Keyed}(h:Up f R n)(g:n<=R.length):(R.take n).Pairwise λx y=>f x<=f y:=by rw[Dl];intro i j I J U;rw[AY] at I J;rw[Bt,Bt];exact h i j (by exact rN) (by lia) (by lia)
end
section
variable {w:World}{κ:SortKind}{Ok:Keyed->Prop}{f:Keyed->Int}
theorem Tl.same{st:SortSt}{P R R':List Keyed}(T:Tl κ Ok st P R)(p:R'.Perm R){arr:Array Keyed}(h:arr.toList=P++R'):Tl κ Ok (setArr st arr) P R':=⟨T.kind,h,λx I=>T.ok x (p.mem_iff.mp I)⟩
theorem Up.one{R:List Keyed}:Up f R 1:=λi j I J h=>by
 have:i=j:=by lia
 subst this;exact CU _
theorem fh{c:Prop}{_:Decidable c}{K T:StateT SortSt Sem α}{P:SortSt->Prop}{Q:α->SortSt->Prop}{st:SortSt}(J:¬c->P st)(key:∀I,P I->wpS (model prog w) A E s K Q I)
 (U:c->(∀I,P I->wpS (model prog w) A E s K Q I)->wpS (model prog w) A E s T Q st):wpS (model prog w) A E s (if c then T else K) Q st:=by
 by_cases h:c
 ·rw[AF h];exact U h key
 ·rw[AD h];exact key st (J h)
def dw(f:Keyed->Int)(R:List Keyed)(n:Nat):Prop:=∀i j (_:i<=j) (_:j<R.length),j<n->f R[j]<=f (R[i]'(by exact aa9))
theorem aac{R R':List Keyed}(e:R'.map f=R.map f)(h1:i<R'.length)(h2:i<R.length):f R'[i]=f R[i]:=by
 have:(R'.map f)[i]?=(R.map f)[i]?:=by rw[e]
 rw[Am,Am,Aj h1,Aj h2] at this;exact AN this
theorem dw.same{R R':List Keyed}(D:dw f R n)(e:R'.map f=R.map f):dw f R' n:=λi j I U J=>by
 have l:R'.length=R.length:=by have:=Bb List.length e;rwa[Ab,Ab] at this
 rw[aac e U (by lia),aac e (by lia) (by lia)];exact D i j I (by lia) J
theorem dw.snoc{R:List Keyed}(h:dw f R n)(h1:1<=n)(g:n<R.length)(hs:f R[n]<=f (R[n-1]'(by exact rO))):dw f R (n+1):=λi j I J U=>by
 rcases C4 j n with c|c
 ·exact h i j I J c
 ·have e:j=n:=by lia
  subst e;rcases C4 i j with c2|c2
  ·exact DE hs (h i (j-1) (by omega) (by exact rO) (by exact alo))
  ·have e:i=j:=by lia
   subst e;exact CU _
theorem iw{arr:Array Keyed}{P R:List Keyed}{a b:Nat}{v:Int}(h:arr.toList=P++R)(U:a<=b)(l:b<=R.length)(g:∀i (_:i<R.length),a<=i->i<b->f R[i]=v):
 ∃R',(mirror arr (P.length+a) (P.length+b) ((P.length+b-(P.length+a)) / 2)).toList=P++R'/\R'.Perm R/\R'.map f=R.map f:=by
 have j:(P++R.take a).length=P.length+a:=by simp;lia
 have I:R=R.take a++((R.drop a).take (b-a)++(R.drop a).drop (b-a)):=by rw[A6,A6]
 have m:=gj (P:=P++R.take a) (R:=R.drop a) (n:=b-a) (by rw[h,AU,A6]) (by simp;lia);rw[j,show P.length+a+(b-a)=P.length+b by lia,AU] at m;refine⟨_,m,?_,?_⟩
 ·refine List.Perm.trans ?_ (List.Perm.of_eq I.symm);exact(BK _).mpr ((Bx _).mpr (Do _))
 ·have r:((R.drop a).take (b-a)).map f=List.replicate (b-a) v:=by refine List.ext_getElem (by simp;lia) λi h1 h2=>?_;rw[List.getElem_map,Bt,List.getElem_drop,List.getElem_replicate];rw[BI] at h2;exact g _ _ (by lia) (by lia)
  have J:=Bb (List.map f) I;rw[Ai,Ai,r] at J;rw[Ai,Ai,Dz,r,List.reverse_replicate,J]
theorem ada(O:Ord prog w A s κ Ok f){st:SortSt}{P R:List Keyed}(T:Tl κ Ok st P R)(h1:1<=R.length){Q:Option Nat->SortSt->Prop}
 (q:∀n R' arr,1<=n->n<=R.length->R'.Perm R->arr.toList=P++R'->Up f R' n->Q (some n) (setArr st arr)):wpS (model prog w) A E s (countRun' P.length R.length) Q st:=by
 have bf:setArr st (arrOf st)=st:=rfl;refine Aw (wpS_mono (Bk (I:=λx c g=>g=st/\c=(none,x)/\Up f R x)
  (Q:=λc g=>g=st/\∃n,c=(none,n)/\1<=n/\n<=R.length/\Up f R n/\(n=R.length\/∃h:n<R.length,f R[n]<f (R[n-1]'(by exact rO)))) ?_ ?_ ⟨rfl,rfl,Up.one⟩) ?_)
 ·rintro x c g t hx ⟨rfl,rfl,U⟩;dsimp only;refine Aw (f9 O T (i:=x) (j:=x-1) hx (by exact rO) rfl (by lia) ?_);dsimp only;by_cases c:f R[x]<f (R[x-1]'(by omega))
  ·rw[AV c,AF rfl];exact AG ⟨rfl,x,rfl,t,by exact rN,U,.inr ⟨hx,c⟩⟩
  ·rw[Az c,AD (by simp)];exact AG ⟨rfl,rfl,U.snoc t hx (by omega)⟩
 ·rintro c g ⟨rfl,rfl,U⟩;exact⟨rfl,_,rfl,by lia,by lia,by rw[CQ h1] at *;exact U,.inl (by lia)⟩
 ·rintro c g ⟨rfl,n,rfl,a3,a4,U,ag⟩;dsimp only;by_cases c1:(n==R.length)=true
  ·rw[AF c1];exact AG (q n R (arrOf g) a3 a4 (BC _) T.arr U)
  rw[AD c1];have c1:¬n=R.length:=by simpa using c1
  have aL:n<R.length:=by exact apo
  have hd:f R[n]<f (R[n-1]'(by omega)):=by
   rcases ag with h|⟨h,h'⟩
   ·exact absurd h c1
   ·exact h'
  refine fh (P:=λo=>∃arr R',o=setArr g arr/\arr.toList=P++R'/\R'.Perm R/\dw f R' (n+1)) (λc2=>⟨arrOf g,R,rfl,T.arr,BC _,?_⟩) ?_ (λc2 key=>?_)
  ·obtain rfl:n=1:=by lia
   exact dw.snoc (λi j ba hj a5=>by (have e:i=j:=by lia);(subst e;exact CU _)) (Al _) aL (C5 hd)
  rotate_left
  ·refine Aw (f9 O T (i:=0) (j:=n-1) (by assumption) (by exact rO) rfl (by omega) ?_);dsimp only;by_cases c3:f R[0]<f (R[n-1]'(by omega))
   ·rw[AV c3,AF rfl];exact AG (q n R (arrOf g) a3 a4 (BC _) T.arr U)
   rw[Az c3,AD (by simp)];have al:∀i (_:i<R.length),0<=i->i<n->f R[i]=f R[0]:=λi hi _ bd=>by have a1:=U 0 i (Bi _) hi bd;have a2:=U i (n-1) (by lia) (by lia) (by lia);lia
   obtain⟨R',m1,m2,m3⟩:=iw (f:=f) T.arr (Bi n) a4 al;refine Aw (wpS_modify (key _ ⟨_,R',rfl,m1,m2,dw.same (dw.snoc (λi j ba hj a5=>?_) a3 aL (C5 hd)) m3⟩));rw[al j hj (Bi _) a5,al i (by lia) (Bi _) (by lia)];exact CU _
  rintro _ ⟨arr,R0,rfl,r,bb,D0⟩;refine Aw (wpS_lift (wpAny_rule ⟨rfl,?_⟩));have l0:R0.length=R.length:=bb.length_eq;refine Aw (wpS_mono (Bk (I:=λx c o=>∃J arr R',c=(none,x,J)/\o=setArr g arr/\arr.toList=P++R'/\R'.Perm R/\dw f R' x/\J+1<=x/\∃v,∀i (_:i<R'.length),x-(J+1)<=i->i<x->f R'[i]=v)
   (Q:=λc o=>∃n J arr R',c=(none,n,J)/\o=setArr g arr/\arr.toList=P++R'/\R'.Perm R/\dw f R' n/\J+1<=n/\n<=R.length/\∃v,∀i (_:i<R'.length),n-(J+1)<=i->i<n->f R'[i]=v) ?_ ?_ ⟨0,arr,R0,rfl,rfl,r,bb,D0,by lia,f (R0[n]'(by lia)),λi hi h2 h3=>by (have e:i=n:=by lia);(subst e;rfl)⟩) ?_)
  ·rintro x c o t hx ⟨J,arr,p,rfl,rfl,r,l,D,hq,v,C⟩;have l1:p.length=R.length:=l.length_eq;have T1:=T.same l r;dsimp only;refine Aw (f9 O T1 (i:=x) (j:=x-1) (by lia) (by lia) rfl (by lia) ?_);dsimp only;by_cases c:f (p[x]'(by lia))<f (p[x-1]'(by omega))
   ·rw[AV c,AF rfl];refine fh (P:=λo=>∃arr R',o=setArr g arr/\arr.toList=P++R'/\R'.Perm R/\dw f R' (x+1)) (λ_=>⟨arr,p,rfl,r,l,D.snoc (by lia) (by lia) (C5 c)⟩) ?_ (λc2 key=>?_)
    ·rintro _ ⟨arr,R',rfl,r,l,D⟩;exact AG ⟨0,arr,R',rfl,rfl,r,l,D,by lia,f (R'[x]'(by have:=l.length_eq;lia)),λi hi h2 h3=>by (have e:i=x:=by lia);(subst e;rfl)⟩
    ·obtain⟨R',m1,m2,m3⟩:=iw (f:=f) (a:=x-(J+1)) (b:=x) r (by lia) (by lia) C;refine Aw (wpS_modify (key _ ⟨_,R',rfl,?_,m2.trans l,dw.same (D.snoc (by lia) (by lia) (C5 c)) m3⟩));rw[<-m1];show(mirror arr (P.length+x-(J+1)) (P.length+x) ((P.length+x-(P.length+x-(J+1))) / 2)).toList=_;rw[show P.length+x-(J+1)=P.length+(x-(J+1)) by lia]
   ·rw[Az c,AD (by simp)];refine Aw (f9 O T1 (i:=x-1) (j:=x) (by omega) (by lia) (by lia) rfl ?_);dsimp only;by_cases c3:f (p[x-1]'(by omega))<f (p[x]'(by lia))
    ·rw[AV c3,AF rfl];exact AG ⟨x,J,arr,p,rfl,rfl,r,l,D,hq,by lia,v,C⟩
    ·rw[Az c3,AD (by simp)];refine AG ⟨J+1,arr,p,rfl,rfl,r,l,D.snoc (by lia) (by lia) (by lia),by lia,v,λi hi h2 h3=>?_⟩;rcases C4 i x with h|h
     ·exact C i hi (by lia) h
     ·have:i=x:=by lia
      subst this;rw[<-C (i-1) (by lia) (by lia) (by lia)];lia
  ·rintro c o ⟨J,arr,p,rfl,rfl,r,l,D,hq,v,C⟩;exact⟨_,J,arr,p,rfl,rfl,r,l,D,hq,by lia,v,C⟩
  ·rintro c o ⟨n,J,arr,p,rfl,rfl,r,l,D,hq,g2,v,C⟩;have l1:p.length=R.length:=l.length_eq;dsimp only;refine fh (P:=λo=>∃arr R',o=setArr g arr/\arr.toList=P++R'/\R'.Perm R/\dw f R' n) (λ_=>⟨arr,p,rfl,r,l,D⟩) ?_ (λc2 key=>?_)
   rotate_left
   ·obtain⟨R',m1,m2,m3⟩:=iw (f:=f) (a:=n-(J+1)) (b:=n) r (by lia) (by lia) C;refine Aw (wpS_modify (key _ ⟨_,R',rfl,?_,m2.trans l,D.same m3⟩));rw[<-m1];show(mirror arr (P.length+n-(J+1)) (P.length+n) ((P.length+n-(P.length+n-(J+1))) / 2)).toList=_;rw[show P.length+n-(J+1)=P.length+(n-(J+1)) by lia]
   clear C D r l l1;rintro _ ⟨arr,p,rfl,r,l,D⟩;have l1:p.length=R.length:=l.length_eq;have T1:=T.same l r;have T':=T1.same (R':=(p.take n).reverse++p.drop n) (((Bx _).mpr (Do _)).trans (by rw[A6])) (gj r (by lia));obtain⟨R',eR⟩:∃R',R'=(p.take n).reverse++p.drop n:=⟨_,rfl⟩;have bc:R'.Perm R:=by rw[eR];exact(((Bx _).mpr (Do _)).trans (by rw[A6])).trans l
   have lR:R'.length=R.length:=bc.length_eq;have U':Up f R' n:=λi j ba hj a5=>by
    subst eR;rw[Ds (by simp;lia),Ds (by simp;lia),List.getElem_reverse,List.getElem_reverse,Bt,Bt];refine D _ _ ?_ (by simp;omega) ?_
    ·simp;omega
    ·simp;omega
   rw[<-eR] at T';refine Aw (wpS_modify ?_);refine Aw (wpS_mono (Bk (I:=λx c o=>o=setArr g (mirror arr P.length (P.length+n) ((P.length+n-P.length) / 2))/\c=(none,x)/\Up f R' x)
    (Q:=λc o=>o=setArr g (mirror arr P.length (P.length+n) ((P.length+n-P.length) / 2))/\∃n,c=(none,n)/\1<=n/\n<=R.length/\Up f R' n) ?_ ?_ ⟨rfl,rfl,U'⟩) ?_)
   ·rintro x c o t hx ⟨rfl,rfl,U⟩;dsimp only;refine Aw (f9 O T' (i:=x) (j:=x-1) (by lia) (by omega) rfl (by lia) ?_);dsimp only;by_cases c:f (R'[x]'(by omega))<f (R'[x-1]'(by omega))
    ·rw[AV c,AF rfl];exact AG ⟨rfl,x,rfl,by lia,by exact rN,U⟩
    ·rw[Az c,AD (by simp)];exact AG ⟨rfl,rfl,U.snoc (by omega) (by lia) (by omega)⟩
   ·rintro c o ⟨rfl,rfl,U⟩;exact⟨rfl,_,rfl,by lia,by lia,U⟩
   ·rintro c o ⟨rfl,n,rfl,k1,k2,U⟩;exact AG (q n R' _ k1 k2 bc T'.arr U)
end
section
variable {w:World}{κ:SortKind}{Ok:Keyed->Prop}{f:Keyed->Int}
theorem Up.of{R:List Keyed}(h:(R.take n).Pairwise λx y=>f x<=f y):Up f R n:=λi j I U J=>by have:=aml h (i:=i) (j:=j) I (by simp;lia);rw[Bt,Bt] at this;exact this
theorem zK{R:List Keyed}{k:Nat}(I:k<R.length)(J:l<=k):(R.take l++R[k]::((R.drop l).take (k-l)++R.drop (k+1))).Perm R:=by
 have e:R=R.take l++((R.drop l).take (k-l)++(R[k]::R.drop (k+1))):=by rw[<-AU,alc _ J,<-Dk I,A6]
 refine List.Perm.trans ?_ (List.Perm.of_eq e.symm);exact(BK _).mpr Cs.symm
theorem aj3{R:List Keyed}{k:Nat}(p:k<R.length)(r:l<=k)(U:Up f R k)(lo:∀i (_:i<l),f (R[i]'(by lia))<=f R[k])(hi:∀i (_:i<k),l<=i->f R[k]<=f (R[i]'(by exact aas))):
 Up f (R.take l++R[k]::((R.drop l).take (k-l)++R.drop (k+1))) (k+1):=by
 apply Up.of;have e:R.take l++R[k]::((R.drop l).take (k-l)++R.drop (k+1))=(R.take l++R[k]::(R.drop l).take (k-l))++R.drop (k+1):=by simp
 rw[e,List.take_left' (by simp;lia)];have I:=U.pair (Bl p);rw[<-alc R r] at I;have I:=CV.mp I;have t:∀y∈(R.drop l).take (k-l),f R[k]<=f y:=λy J=>by obtain⟨j,o,rfl⟩:=List.getElem_of_mem J;rw[AY,B1] at o;rw[Bt,List.getElem_drop];exact hi (l+j) (by lia) (by exact BA _ _)
 have C:∀x∈R.take l,f x<=f R[k]:=λx g=>by obtain⟨j,o,rfl⟩:=List.getElem_of_mem g;rw[AY] at o;rw[Bt];exact lo j (by lia)
 refine CV.mpr ⟨I.1,List.pairwise_cons.mpr ⟨t,I.2.1⟩,λx g y J=>?_⟩;rcases Ap.mp J with rfl|J
 ·exact C x g
 ·exact I.2.2 x g y J
theorem ake(O:Ord prog w A s κ Ok f){st:SortSt}{P R:List Keyed}(T:Tl κ Ok st P R){ok:Nat}(hn:n<=R.length)(h1:1<=ok)(ho:ok<=n)(U:Up f R ok){Q:Bool->SortSt->Prop}
 (q:∀R' arr,R'.Perm R->arr.toList=P++R'->Up f R' n->Q true (setArr st arr)):wpS (model prog w) A E s (binarySort' P.length n ok) Q st:=by
 have a1:setArr st (arrOf st)=st:=rfl;refine Aw (wpS_mono (Bk (I:=λx c J=>c=(none,())/\∃R' arr,J=setArr st arr/\R'.Perm R/\arr.toList=P++R'/\Up f R' x)
  (Q:=λc J=>c=(none,())/\∃R' arr,J=setArr st arr/\R'.Perm R/\arr.toList=P++R'/\Up f R' n) ?_ ?_ ⟨rfl,R,arrOf st,rfl,BC _,T.arr,by rw[CZ h1];exact U⟩) ?_)
 ·rintro x c J a2 hx ⟨rfl,R',arr,rfl,p,t,o⟩;have T':=T.same p t;have lR:R'.length=R.length:=p.length_eq;have g:x<R'.length:=by lia
  dsimp only;refine Aw (wpS_mono (Bk (I:=λy c J=>J=setArr st arr/\∃l r,c=(none,l,r)/\l<=r/\r<=x/\r-l+y<=x/\(∀i (_:i<l) (_:i<R'.length),f R'[i]<=f R'[x])/\(∀i (_:i<x),r<=i->f R'[x]<=f (R'[i]'(by exact aas))))
   (Q:=λc J=>J=setArr st arr/\∃l,c=(none,l,l)/\l<=x/\(∀i (_:i<l) (_:i<R'.length),f R'[i]<=f R'[x])/\(∀i (_:i<x),l<=i->f R'[x]<=f (R'[i]'(by lia)))) ?_ ?_ ⟨rfl,0,x,rfl,Bi _,Al _,by exact Nat.sub_le _ _,λi h=>by lia,λi h h'=>by omega⟩) ?_)
  ·rintro y c J _ hy ⟨rfl,l,r,rfl,g1,g2,g3,C,g5⟩;dsimp only;by_cases c:l>=r
   ·rw[AF c];obtain rfl:l=r:=by lia
    exact AG ⟨rfl,l,rfl,g2,C,g5⟩
   ·rw[AD c];refine Aw (f9 O T' (i:=x) (j:=(l+r) / 2) g (by lia) rfl rfl ?_);dsimp only;by_cases e:f R'[x]<f (R'[(l+r) / 2]'(by lia))
    ·rw[AV e,AF rfl];refine AG ⟨rfl,l,(l+r) / 2,rfl,by lia,by lia,by omega,C,λi h h'=>?_⟩;exact DE (C5 e) (o _ _ h' (by exact aas) h)
    ·rw[Az e,AD (by simp)];refine AG ⟨rfl,(l+r) / 2+1,r,rfl,by lia,g2,by omega,λi h h'=>?_,g5⟩;exact DE (o i ((l+r) / 2) (by exact aot) (by lia) (by lia)) (by omega)
  ·rintro c J ⟨rfl,l,r,rfl,g1,g2,g3,C,g5⟩;obtain rfl:l=r:=by lia
   exact⟨rfl,l,rfl,g2,C,g5⟩
  ·rintro c J ⟨rfl,l,rfl,g2,C,g5⟩;dsimp only;refine Aw (wpS_modify ?_);exact AG ⟨rfl,_,_,rfl,(zK g g2).trans p,o0 t g g2,aj3 g g2 o (λi h=>C i h (by lia)) g5⟩
 ·rintro c J ⟨rfl,R',arr,rfl,p,t,o⟩;exact⟨rfl,R',arr,rfl,p,t,by rw[CZ h1,CQ ho] at o;exact o⟩
 ·rintro c J ⟨rfl,R',arr,rfl,p,t,o⟩;exact AG (q R' arr p t o)
end
section
variable {w:World}{κ:SortKind}{Ok:Keyed->Prop}{f:Keyed->Int}
end
open PySem PyProof.Rows PySem.W
def ajm(h:Heap)(B:Int)(x:Keyed):Prop:=∃a o n r p t u,x.1=.ref a/\h.get? a=some o/\o.data=.seq #[.int r t,.int p u] n/\0<=p/\p<B
noncomputable def num(h:Heap)(B:Int)(x:Keyed):Int:=match x.1 with
 |.ref a=>match h.get? a with
  |some o=>match o.data with
   |.seq xs _=>match xs.toList with
    |[.int r _,.int p _]=>r*B+p
    |_=>0
   |_=>0
  |none=>0
 |_=>0
theorem num_of{x:Keyed}{o:Obj}{r p:Int}{t u:Tok}(I:x.1=.ref a)(J:h.get? a=some o)(U:o.data=.seq #[.int r t,.int p u] n):num h B x=r*B+p:=by unfold num;simp[I,J,U]
theorem oS{w:World} :Ord prog w A s (tuples' true) (ajm s.heap B) (num s.heap B):=by
 constructor;rintro x y ⟨a1,o1,n1,I,J,r,t,l,g1,d1,b1,c1⟩ ⟨a2,o2,n2,U,g,C,T,o,g2,d2,b2,c2⟩ E Q h;rw[num_of l g1 d1,num_of o g2 d2] at h;rw[l,o];refine kat_lt g1 d1 g2 d2 ?_;show KatLex prog w A true _ Q [(.int I r,.int U C),(.int J t,.int g T)] 0 s;refine kat_cons (wpAny_eqBool_int ?_);by_cases c:I=U
 ·subst c;rw[beq_self_eq_true];refine kat_yes (kat_cons (wpAny_eqBool_int ?_));by_cases p:J=g
  ·subst p;rw[beq_self_eq_true];refine kat_yes (kat_nil ?_);have e:decide (I*B+J<I*B+J)=false:=Az (by lia);rw[e] at h;exact h
  ·rw[DI p];refine kat_no (kat_one _ _ (PyProof.Rows.lt_int ?_));have e:decide (I*B+J<I*B+g)=decide (J<g):=by
    by_cases z:J<g
    ·rw[AV z];exact AV (by lia)
    ·rw[Az z];exact Az (by lia)
   rw[e] at h;exact h
 ·rw[DI c];refine kat_no (oneLt_int ?_);have e:decide (I*B+J<U*B+g)=decide (I<U):=by
   by_cases z:I<U
   ·rw[AV z];have j:(I+1)*B<=U*B:=B4 (by assumption) (by lia);rw[Int.add_mul,Int.one_mul] at j;exact AV (by omega)
   ·rw[Az z];have j:(U+1)*B<=I*B:=B4 (by lia) (by lia);rw[Int.add_mul,Int.one_mul] at j;exact Az (by lia)
  rw[e] at h;exact h
section
variable {w:World}{κ:SortKind}{Ok:Keyed->Prop}{f:Keyed->Int}
theorem zJ{N:Nat}(h1:1<=N)(h:N<64):(sortPriv% PySem.Builtin.minRun) N N 0=N:=by obtain⟨r,rfl⟩:∃r,N=r+1:=⟨N-1,by omega⟩;show minRun' (r+1) (r+1) 0=r+1;rw[minRun'_succ,AF h]
structure Srt(f:Keyed->Int)(l:List Keyed)(st:SortSt):Prop where
 fl:failedOf st=none
 pn:(pendingOf st).size<=1
 pm:(arrOf st).toList.Perm l
 pw:(arrOf st).toList.Pairwise λx y=>f x<=f y
theorem pD(O:Ord prog w A s κ Ok f){st:SortSt}{Q:Unit->SortSt->Prop}(p:(arrOf st).size<64)(hk:kindOf st=κ)(t:pendingOf st=#[])(hf:failedOf st=none)(ok:∀x∈(arrOf st).toList,Ok x)
 (q:∀J,failedOf J=none->(arrOf J).toList.Perm (arrOf st).toList->((arrOf J).toList.Pairwise λx y=>f x<=f y)->Q () J):wpS (model prog w) A E s sortRuns' Q st:=by
 refine Aw (wpS_get ?_);dsimp only;have lN:(arrOf st).toList.length=(arrOf st).size:=Ba;obtain⟨N,eN⟩:∃N,N=(arrOf st).size:=⟨_,rfl⟩;rw[<-eN] at p lN ⊢;obtain⟨R,C⟩:∃R,R=(arrOf st).toList:=⟨_,rfl⟩;rw[<-C] at lN ok q;generalize a1:(sortPriv% PySem.Builtin.minRun) N N 0=mr;refine Aw (wpS_mono (Bk (I:=λx c J=>∃lo,c=(none,lo)/\((x=0/\lo=0/\J=st)\/(lo=N/\Srt f R J)))
  (Q:=λc J=>∃lo,c=(none,lo)/\Srt f R J) ?_ ?_ ⟨0,rfl,.inl ⟨rfl,rfl,rfl⟩⟩) ?_)
 ·rintro x c J _ hx ⟨lo,rfl,h⟩;dsimp only;by_cases c:lo>=N
  ·rw[AF c];rcases h with⟨h1,h2,_⟩|⟨_,h⟩
   ·omega
   ·exact AG ⟨lo,rfl,h⟩
  rw[AD c];obtain⟨rfl,rfl,rfl⟩:x=0/\lo=0/\J=st:=by
   rcases h with h|⟨h,_⟩
   ·exact h
   ·omega
  have em:mr=N:=by rw[<-a1];exact zJ (by omega) p
  subst em;have T:Tl κ Ok J [] R:=⟨hk,C.symm,ok⟩;rw[Nat.sub_zero,<-lN];refine Aw (ada O T (by omega) λn R1 g g1 g2 j r U1=>?_);dsimp only;have T1:=T.same j r;have l1:R1.length=R.length:=j.length_eq;have xr:∀(arr:Array Keyed) (R2:List Keyed) (o:Nat),R2.Perm R->arr.toList=[]++R2->Up f R2 R.length->o=R.length->∃lo,((none,0+o):Option Unit×Nat)=(none,lo)/\((0+1=0/\lo=0/\setPending (setArr J arr) ((pendingOf (setArr J arr)).push (0,o,0))=J)\/(lo=R.length/\Srt f R (setPending (setArr J arr) ((pendingOf (setArr J arr)).push (0,o,0))))):=λarr R2 o p2 e2 U2 en=>by
   refine⟨0+o,rfl,.inr ⟨by omega,⟨hf,?_,?_,?_⟩⟩⟩
   ·show((pendingOf J).push (0,o,0)).size<=1;rw[t];exact Al 1
   ·show arr.toList.Perm R;rw[e2];exact p2
   ·show arr.toList.Pairwise _;rw[e2];have:=U2.pair (by rw[p2.length_eq];exact Al _);rw[<-p2.length_eq,Bm] at this;exact this
  by_cases cm:n<R.length
  ·rw[AF cm];refine Aw (wpS_lift (wpAny_rule ⟨rfl,?_⟩));rw[Nat.min_self];refine Aw (ake O T1 (by omega) g1 (by omega) U1 λR2 l a2 a3 U2=>?_);rw[AD (by simp)];refine Aw (wpS_get ?_);have eb:(pendingOf (setArr (setArr J g) l)).back?=none:=by show(pendingOf J).back?=none;rw[t];rfl
   rw[eb];exact Aw (wpS_modify (AG (xr l R2 _ (a2.trans j) a3 U2 rfl)))
  ·rw[AD cm];refine Aw (wpS_get ?_);have eb:(pendingOf (setArr J g)).back?=none:=by show(pendingOf J).back?=none;rw[t];rfl
   rw[eb];have en:n=R.length:=by omega
   exact Aw (wpS_modify (AG (xr g R1 _ j r (en▸U1) en)))
 ·rintro c J ⟨lo,rfl,h⟩;refine⟨lo,rfl,?_⟩;rcases h with⟨h1,h2,rfl⟩|⟨_,h⟩
  ·have:R=[]:=CW (by omega);refine⟨hf,by rw[t];exact Bi _,by rw[<-C],?_⟩;rw[<-C,this];exact List.Pairwise.nil
  ·exact h
 ·rintro c J ⟨lo,rfl,h⟩;dsimp only;refine Aw (wpS_mono (Bk (I:=λy c U=>c=(none,())/\Srt f R U) (Q:=λc U=>c=(none,())/\Srt f R U) ?_ ?_ ⟨rfl,h⟩) ?_)
  ·rintro y c U _ hy ⟨rfl,h3⟩;refine Aw (wpS_get ?_);rw[AF h3.pn];exact AG ⟨rfl,h3⟩
  ·rintro c U h3;exact h3
  ·rintro c U ⟨rfl,h3⟩;exact AG (q U h3.fl h3.pm h3.pw)
end
section
variable {w:World}
def cq(h:Heap)(B:Int)(v:Value):Prop:=∃a o n r p t u,v=.ref a/\h.get? a=some o/\o.cls=.type "tuple" /\ o.data=.seq #[.int r t,.int p u] n/\0<=p/\p<B
theorem cq.pair{x:Keyed}(k:cq h B x.1):ajm h B x:=by obtain⟨a,o,n,r,p,t,u,I,J,_,U,g,j⟩:=k;exact⟨a,o,n,r,p,t,u,I,J,U,g,j⟩
theorem tups{h:Heap}{B:Int}:∀{ks:List Value},(∀v∈ks,cq h B v)->∃fs,KatTups h ks fs/\fs.length=ks.length/\∀v∈fs,∃r t,v=Value.int r t
 |[],_=>⟨[],trivial,rfl,λv I=>by simp at I⟩
 |k::ks,J=>by
  obtain⟨fs,h1,h2,h3⟩:=tups (ks:=ks) λv I=>J v (Ac _ I);obtain⟨a,o,n,r,p,t,u,rfl,U,g,j,_,_⟩:=J k (Ah ..);refine⟨.int r t::fs,KatTups.cons U g j rfl h1,by simp[h2],λv I=>?_⟩;rcases Ap.mp I with rfl|I
  ·exact⟨r,t,rfl⟩
  ·exact h3 v I
theorem yr{ks:List Value}{Q:SortKind->Shared->Prop}(I:∀v∈ks,cq s.heap B v)(h0:0<ks.length)(q:Q (tuples' true) s):wpAny (model prog w) A (keyKind' ks.toArray) Q E s:=by
 obtain⟨fs,h1,h2,h3⟩:=tups I;refine kat_kind (T:=.type "int") h1 (by lia) (λv J=>?_) (by decide) ?_
 ·obtain⟨r,t,rfl⟩:=h3 v J;exact .now
 ·exact q
theorem o8{R:α->α->Prop}:∀{l:List α},l.length<2->l.Pairwise R
 |[],_=>List.Pairwise.nil
 |[_],_=>List.pairwise_singleton _ _
 |_::_::_,h=>absurd h (by simp)
theorem ajn{kS:Addr}{ks:List Value}{e g:Nat}{P:PySem.Fin->Shared->Prop}(o:s.heap.get? kS=some (seqObj "list" ks.toArray e))(ha:s.heap.get? a=some (seqObj "list" #[] g))(p:kS≠a)(hl:ks.length=vs.length)(r:vs.length<=63)
 (T:∀v∈ks,cq s.heap B v)
 (h:∀h' tk (xs:List Keyed) c,(∀b,b≠kS->b≠a->h'.get? b=s.heap.get? b)->h'.get? a=some (seqObj "list" (List.toArray (xs.map (·.2))) c)->xs.Perm (ks.zip vs)->(xs.Pairwise λx y=>num s.heap B x<=num s.heap B y)->P (.done (.ret .none)) { s with heap:=h',toks:=tk }):
 wpAny (model prog w) A (ksk_end a false vs.toArray g (.ref kS) ks.toArray) P E s:=by
 have hz:vs.length<=sizeLine:=AI r (by decide);have j:(ks.toArray.zip vs.toArray).toList=ks.zip vs:=by simp
 have tail:∀st:SortSt,failedOf st=none->(arrOf st).toList.Perm (ks.zip vs)->((arrOf st).toList.Pairwise λx y=>num s.heap B x<=num s.heap B y)->wpAny (model prog w) A (ksk_tail a false g (.ref kS) st) P E s:=by
  intro st hf hp hs;have s1:=Ef s.heap kS (Obj.mapSeq λ_=>(#[]:Array Value));have J:(s.heap.update kS (Obj.mapSeq λ_=>(#[]:Array Value))).get? a=some (seqObj "list" #[] g):=(s1.2 a p.symm).trans ha;have s2:=Ef (s.heap.update kS (Obj.mapSeq λ_=>(#[]:Array Value))) a (Obj.mapSeq λ_=>(arrOf st).map (·.2));have len:((arrOf st).map (·.2)).size<=sizeLine:=by have:=hp.length_eq;rw[C0,Ba] at this;rw[Array.size_map];lia
  unfold ksk_tail
  try dsimp only
  refine Aa (listUpdate_at o rfl ?_ (by rw[An];lia) (Bi _));refine Aa (wpAny_letGo ?_);refine Aa (seqEpoch_at J rfl ?_);refine Aa (listUpdate_at J rfl ?_ (Bi _) (by simp only[BG,if_false];exact BN len));rw[hf];simp only[bne_self_eq_false,BG,if_false];obtain⟨c2,U⟩:∃c2,((s.heap.update kS (Obj.mapSeq λ_=>(#[]:Array Value))).update a (Obj.mapSeq λ_=>(arrOf st).map (·.2))).get? a=some (seqObj "list" ((arrOf st).map (·.2)) c2):=⟨_,get?_update_seq J λ_=>(arrOf st).map (·.2)⟩;refine Ak (h _ _ (arrOf st).toList c2 (λb t C=>?_) ?_ hp hs)
  ·exact(s2.2 b C).trans (s1.2 b t)
  ·have em:(arrOf st).map (·.2)=List.toArray ((arrOf st).toList.map (·.2)):=by apply Array.toList_inj.mp;rw[Array.toList_map]
   rw[em] at U ⊢;exact U
 unfold ksk_end;simp only[BG,if_false];by_cases h2:vs.toArray.size<2
 ·rw[AF h2,AF h2];refine Aa (Ak ?_);rw[StateT.run_pure];refine Aa (Ak ?_);refine tail _ rfl (by show(ks.toArray.zip vs.toArray).toList.Perm _;rw[j]) ?_;show(ks.toArray.zip vs.toArray).toList.Pairwise _;rw[j];rw[An] at h2;have:(ks.zip vs).length<2:=by rw[C0];lia
  exact o8 this
 ·rw[AD h2,AD h2];rw[An] at h2;refine Aa (yr T (by omega) ?_);refine Aa (AQ (pD (E:=E) (oS (B:=B)) (st:=SortSt.mk' (tuples' true) (ks.toArray.zip vs.toArray) #[] 7 none)
   (Q:=λ_ I=>failedOf I=none/\(arrOf I).toList.Perm (ks.zip vs)/\((arrOf I).toList.Pairwise λx y=>num s.heap B x<=num s.heap B y)) (by show(ks.toArray.zip vs.toArray).size<64;simp;omega) rfl rfl rfl (λx l=>?_) λI b1 b2 b3=>⟨b1,?_,b3⟩) ?_ λ_ _ e=>e)
  ·have l:x∈(ks.toArray.zip vs.toArray).toList:=l;rw[j] at l;exact cq.pair (T _ (CY (a:=x.1) (b:=x.2) l).1)
  ·have b2:(arrOf I).toList.Perm (ks.toArray.zip vs.toArray).toList:=b2;rw[j] at b2;exact b2
  ·rintro⟨⟨⟩,I⟩ s' ⟨rfl,b1,b2,b3⟩;exact tail I b1 b2 b3
end
section
variable {w:World}
theorem cq.ne{v:Value}{xs:Array Value}(k:cq h B v)(e:v=.ref a)(g:h.get? b=some (seqObj "list" xs n)):a≠b:=by
 obtain⟨j,o,m,r,p,t,u,J,U,I,_⟩:=k;rw[e] at J;cases J;rintro rfl;rw[g] at U;cases U;have I:Value.type "list" = Value.type "tuple" := I;injection I with e
 exact absurd e (by decide)
theorem cq.keeps{v:Value}{xs:Array Value}(k:cq h B v)(J:h.get? b=some (seqObj "list" xs n))(U:∀c o,c≠b->h.get? c=some o->h'.get? c=some o):cq h' B v:=by have g:=k;obtain⟨a,o,m,r,p,t,u,I,j,l,C,T,e6⟩:=k;exact⟨a,o,m,r,p,t,u,I,U a o (g.ne I J) j,l,C,T,e6⟩
theorem ux{x:Keyed}{xs:Array Value}(k:cq h B x.1)(g:h.get? b=some (seqObj "list" xs n))(j:∀c o,c≠b->h.get? c=some o->h'.get? c=some o):num h' B x=num h B x:=by have l:=k;obtain⟨a,o,m,r,p,t,u,I,J,C,U,T,e6⟩:=k;rw[num_of I J U,num_of I (j a o (l.ne I g) J) U]
theorem bu{x:Keyed}(h:x∈vs.zip vs):x.1∈vs/\x.1=x.2:=by
 induction vs with
 |nil=>simp at h
 |cons v r I=>
  rw[List.zip_cons_cons] at h;rcases Ap.mp h with rfl|h
  ·exact⟨Ah ..,rfl⟩
  ·exact⟨Ac _ (I h).1,(I h).2⟩
theorem ac8{P:PySem.Fin->Shared->Prop}(p:s.heap.get? a=some (seqObj "list" vs.toArray n))(hz:vs.length<=63)(hk:∀v∈vs,cq s.heap B v)
 (h:∀h' tk (xs:List Keyed) c,(∀b o,b≠a->s.heap.get? b=some o->h'.get? b=some o)->h'.get? a=some (seqObj "list" (List.toArray (xs.map (·.2))) c)->xs.Perm (vs.zip vs)->(xs.Pairwise λx y=>num s.heap B x<=num s.heap B y)->P (.done (.ret .none)) { s with heap:=h',toks:=tk }):
 wpAny (model prog w) A (Builtin.«list.sort» ⟨[.ref a],[]⟩) P E s:=by
 have big:(63:Nat)+1<=sizeLine:=by rw[sizeLine_eq];omega
 have zl:(vs.toArray.zip vs.toArray).toList=vs.zip vs:=by simp
 have s1:=Ef s.heap a (Obj.mapSeq λ_=>(#[]:Array Value));obtain⟨e1,r⟩:∃e1,(s.heap.update a (Obj.mapSeq λ_=>(#[]:Array Value))).get? a=some (seqObj "list" #[] e1):=⟨_,get?_update_seq p λ_=>#[]⟩;obtain⟨I,U⟩:∃g,g=((s.heap.update a (Obj.mapSeq λ_=>(#[]:Array Value))).push (seqObj "tuple" vs.toArray 0)).push (seqObj "list" #[] 0):=⟨_,rfl⟩;have k3:∀b o,b≠a->s.heap.get? b=some o->I.get? b=some o:=λb o hb e=>by rw[U];exact As _ (As _ ((s1.2 b hb).trans e))
 have j:I.get? a=some (seqObj "list" #[] e1):=by rw[U];exact As _ (As _ r)
 have t:∀v∈vs,cq I B v:=λv hv=>(hk v hv).keeps p k3;have nk:∀x∈vs.zip vs,num I B x=num s.heap B x:=λx l=>ux (hk _ (bu l).1) p k3;have tail:∀st:SortSt,failedOf st=none->(arrOf st).toList.Perm (vs.zip vs)->((arrOf st).toList.Pairwise λx y=>num I B x<=num I B y)->
  ∀tk,P (.done (.ret .none)) { s with heap:=I.update a (Obj.mapSeq λ_=>(arrOf st).map (·.2)),toks:=tk }:=by
  intro st hf C hs tk;have s2:=Ef I a (Obj.mapSeq λ_=>(arrOf st).map (·.2));obtain⟨c2,T⟩:∃c2,(I.update a (Obj.mapSeq λ_=>(arrOf st).map (·.2))).get? a=some (seqObj "list" ((arrOf st).map (·.2)) c2):=⟨_,get?_update_seq j λ_=>(arrOf st).map (·.2)⟩;have em:(arrOf st).map (·.2)=List.toArray ((arrOf st).toList.map (·.2)):=by apply Array.toList_inj.mp;rw[Array.toList_map]
  refine h _ tk (arrOf st).toList c2 (λb o hb e=>(s2.2 b hb).trans (k3 b o hb e)) ?_ C ?_
  ·rw[em] at T ⊢;exact T
  ·refine BV (λ{x y} l hy z=>?_) hs;rw[nk x (C.mem_iff.mp l),nk y (C.mem_iff.mp hy)] at z;exact z
 have len:∀st:SortSt,(arrOf st).toList.Perm (vs.zip vs)->((arrOf st).map (·.2)).size<=sizeLine+1:=λst C=>by have:=C.length_eq;rw[C0,Ba] at this;rw[Array.size_map];omega
 rw[list_sort_plain];refine Aa (listItems_at p rfl ?_);refine Aa (listUpdate_at p rfl ?_ (by rw[An];omega) (Bi _));refine Aa (seqEpoch_at r rfl ?_);refine Aa (wpAny_newTuple ?_ (by show vs.length<=_;omega));refine Aa (wpAny_newList ?_ (Bi _));refine A3 ?_;show wpAny (model prog w) A _ P E { s with heap:=((s.heap.update a (Obj.mapSeq λ_=>(#[]:Array Value))).push (seqObj "tuple" vs.toArray 0)).push (seqObj "list" #[] 0) };rw[<-U];dsimp only;by_cases h2:vs.toArray.size<2
 ·rw[AF h2,AF h2];refine Aa (Ak ?_);rw[StateT.run_pure];refine Aa (Ak ?_);dsimp only;refine Aa (seqEpoch_at j rfl ?_);have pz:(arrOf (SortSt.mk' (tuples' true) (vs.toArray.zip vs.toArray) #[] 7 none)).toList.Perm (vs.zip vs):=by show(vs.toArray.zip vs.toArray).toList.Perm _;rw[zl]
  refine Aa (listUpdate_at j rfl ?_ (Bi _) (len _ pz));simp only[bne_self_eq_false,BG,if_false];refine Ak (tail (SortSt.mk' (tuples' true) (vs.toArray.zip vs.toArray) #[] 7 none) rfl pz ?_ _);show(vs.toArray.zip vs.toArray).toList.Pairwise _;rw[zl];rw[An] at h2;have:(vs.zip vs).length<2:=by rw[C0];omega
  exact o8 this
 ·rw[AD h2,AD h2];rw[An] at h2;refine Aa (yr (s:={ s with heap:=I }) t (by omega) ?_);refine Aa (AQ (pD (E:=E) (oS (s:={ s with heap:=I }) (B:=B)) (st:=SortSt.mk' (tuples' true) (vs.toArray.zip vs.toArray) #[] 7 none)
   (Q:=λ_ J=>failedOf J=none/\(arrOf J).toList.Perm (vs.zip vs)/\((arrOf J).toList.Pairwise λx y=>num I B x<=num I B y)) (by show(vs.toArray.zip vs.toArray).size<64;simp;omega) rfl rfl rfl (λx l=>?_) λJ b1 b2 b3=>⟨b1,?_,b3⟩) ?_ λ_ _ e=>e)
  ·have l:x∈(vs.toArray.zip vs.toArray).toList:=l;rw[zl] at l;exact cq.pair (t _ (bu l).1)
  ·have b2:(arrOf J).toList.Perm (vs.toArray.zip vs.toArray).toList:=b2;rw[zl] at b2;exact b2
  ·rintro⟨⟨⟩,J⟩ s' ⟨rfl,b1,b2,b3⟩;dsimp only;refine Aa (seqEpoch_at j rfl ?_);refine Aa (listUpdate_at j rfl ?_ (Bi _) (len _ b2));rw[b1];simp only[bne_self_eq_false,BG,if_false];exact Ak (tail J b1 b2 b3 _)
theorem w_sorted{l:Addr}(hl:s.heap.IsList l vs.toArray)(hz:vs.length<=63)(hk:∀v∈vs,cq s.heap B v)
 (h:∀h' tk (xs:List Keyed) D c,s.heap.objs.size<=D->(∀b o,s.heap.get? b=some o->h'.get? b=some o)->h'.get? D=some (seqObj "list" (List.toArray (xs.map (·.2))) c)->xs.Perm (vs.zip vs)->(xs.Pairwise λx y=>num s.heap B x<=num s.heap B y)->Q (.ref D) { s with heap:=h',toks:=tk }):
 wpAny (model prog w) A (call (.builtin "sorted") [.ref l]) Q E s:=by
 have big:(63:Nat)+1<=sizeLine:=by rw[sizeLine_eq];omega
 refine Calls.call_function_entry kind_sorted plain_sorted entry_sorted (args_sorted1 _) ?_;unfold Builtin.«sorted»;refine Aa (m:=checkCount "sorted" 1 1 _) (Ak ?_);refine Aa (collect_list hl ?_ (by omega));refine Aa (wpAny_newList ?_ (by omega));obtain⟨g,C⟩:∃g,g=(s.heap.push (seqObj "list" #[] 0)).update s.heap.objs.size (Obj.mapSeq (· ++ vs.toArray)):=⟨_,rfl⟩;have gs:g.objs.size=s.heap.objs.size+1:=by rw[C,Heap.size_update,size_push']
 have gk:∀b o,s.heap.get? b=some o->g.get? b=some o:=λb o q=>by have I:b<s.heap.objs.size:=At q;rw[C,Heap.get?_update_ne _ _ _ _ (A1 I)];exact As _ q
 show wpAny _ _ _ _ _ { s with heap:=((s.heap.push (seqObj "list" #[] 0)).update s.heap.objs.size (Obj.mapSeq (· ++ vs.toArray))).push (seqObj "list" vs.toArray 0) };rw[<-C];have J:(g.push (seqObj "list" vs.toArray 0)).get? g.objs.size=some (seqObj "list" vs.toArray 0):=Db _ rfl;have keep:∀b o,s.heap.get? b=some o->(g.push (seqObj "list" vs.toArray 0)).get? b=some o:=λb o q=>As _ (gk b o q);have kT:∀v∈vs,cq (g.push (seqObj "list" vs.toArray 0)) B v:=λv hv=>by obtain⟨a,o,m,r,p,t,u,U,j,r'⟩:=hk v hv;exact⟨a,o,m,r,p,t,u,U,keep _ _ j,r'⟩
 have nk:∀x∈vs.zip vs,num (g.push (seqObj "list" vs.toArray 0)) B x=num s.heap B x:=λx T=>by obtain⟨a,o,m,r,p,t,u,U,j,e3,e4,_⟩:=hk _ (bu T).1;rw[num_of U j e4,num_of U (keep _ _ j) e4]
 refine Aa (A3 (wpAny_call_entry slot_list_sort ⟨_,J,rfl⟩ entry_list_sort ?body (args_list_sort _)))
 case body=>
  refine ac8 (s:={ s with heap:=g.push (seqObj "list" vs.toArray 0) }) J hz kT λh' tk xs c k1 hD pm pw=>?_;refine⟨_,rfl,Ak ⟨_,rfl,h h' tk xs g.objs.size c (by rw[gs];exact Cr _) (λb o q=>k1 b o ?_ (keep b o q)) hD pm ?_⟩⟩
  ·have I:b<s.heap.objs.size:=At q;intro z;rw[z,gs] at I;exact Nat.not_succ_lt_self I
  ·refine BV (λ{x y} T hy z=>?_) pw;rw[nk x (pm.mem_iff.mp T),nk y (pm.mem_iff.mp hy)] at z;exact z
end
end TS
namespace L2
open PySem PySem.Spec PyProof.Rows
theorem l8(f:α->β):∀{l m:List β},l.Perm m->∀{T:List α},T.map f=m->∃U:List α,U.Perm T/\U.map f=l:=by
 intro l m p
 induction p with
 |nil=>intro T e;exact⟨T,BC _,e⟩
 |cons x _ o=>
  intro T e;cases T with
  |nil=>cases e
  |cons t r=>
   rw[AA] at e;obtain⟨I,J⟩:=A4 e;obtain⟨U,C,e'⟩:=o J;exact⟨t::U,C.cons t,by rw[AA,e',I]⟩
 |swap x y l=>
  intro T e
  match T,e with
  |t::u::r,e=>
   rw[AA,AA] at e;obtain⟨I,J⟩:=A4 e;obtain⟨e3,e4⟩:=A4 J;exact⟨u::t::r,List.Perm.swap t u r,by rw[AA,AA,I,e3,e4]⟩
 |trans _ _ g j=>
  intro T e;obtain⟨T1,p1,I⟩:=j e;obtain⟨T2,p2,J⟩:=g I;exact⟨T2,p2.trans p1,J⟩
theorem di{α β I:Type}{R:β->I->Prop}{g:α->β}{h:α->I}:∀{T:List α},(∀t∈T,R (g t) (h t))->Paired R (T.map g) (T.map h)
 |[],_=>.nil
 |t::_,k=>.cons (k t (Ah ..)) (di λu J=>k u (Ac _ J))
theorem fB{α β J:Type}{R:α->β->Prop}{S:α->J->Prop}:∀{xs:List α} {ys:List β} {zs:List J},Paired R xs ys->Paired S xs zs->∃T:List (α×β×J),T.map (·.1)=xs/\T.map (λt=>t.2.1)=ys/\T.map (λt=>t.2.2)=zs/\∀t∈T,R t.1 t.2.1/\S t.1 t.2.2
 |_,_,_,.nil,.nil=>⟨[],rfl,rfl,rfl,λt I=>by cases I⟩
 |_,_,_,.cons (a:=x) (b:=y) r p,.cons (b:=z) q U=>by
  obtain⟨T,g,j,l,k⟩:=fB p U;refine⟨(x,y,z)::T,by rw[AA,g],by rw[AA,j],by rw[AA,l],λt I=>?_⟩;rcases Ap.mp I with rfl|I
  ·exact⟨r,q⟩
  ·exact k t I
theorem pK{α β:Type}{f:α->β}:∀{l:List α},(∀x∈l,∀y∈l,f x=f y->x=y)->l.Nodup->(l.map f).Nodup
 |[],_,_=>B5
 |a::r,h,n=>by obtain⟨J,U⟩:=Ay.mp n;rw[AA];refine Ay.mpr ⟨λz=>?_,pK (λx g y I=>h x (Ac _ g) y (Ac _ I)) U⟩;obtain⟨y,I,e⟩:=AR.mp z;have:=h y (Ac _ I) a (Ah ..) e;exact J (this▸I)
def tG(p q:Int×Int):Prop:=p.1<q.1\/(p.1=q.1/\p.2<=q.2)
abbrev so(K:Ae)(H:Hp)(v:V)(p:Int×Int):Prop:=∃a,v=.ref a/\cG K H a [.int p.1,.int p.2]
theorem afz{p q:Int×Int}(J:0<=p.2/\p.2<B)(U:0<=q.2/\q.2<B)(h:p.1*B+p.2<=q.1*B+q.2):tG p q:=by
 unfold tG;by_cases c:p.1<q.1
 ·exact .inl c
 ·right;by_cases d:q.1<p.1
  ·have I:(q.1+1)*B<=p.1*B:=B4 (by omega) (by omega);rw[Int.add_mul,Int.one_mul] at I;omega
  ·have e:p.1=q.1:=by omega
   rw[e] at h;exact⟨e,by omega⟩
def ahy(X:Cx):List V->Hp->VK->Prop:=λxs H Q=>∃l ys ps,xs=[.ref l]/\aH X.K H l ys/\Paired (so X.K H) ys ps/\(∀p∈ps,0<=p.2/\p.2<1000000)/\ps.Nodup/\ys.length<=63/\
 ∀D zs I,H D=none->Paired (so X.K H) zs I->I.Perm ps->I.Pairwise tG->Q (.ref D) (upd H D (.lst zs))
theorem rA:jt X (.builtin "sorted") (ahy X):=by
 intro a4 s σ H xs us Q I r h;obtain⟨l,ys,ps,rfl,hl,pr,hb,hnd,a1,q⟩:=h;obtain⟨u,rfl,ru⟩:=r.one;cases (show u=Value.ref l from ru);obtain⟨p,rv,pl,hz⟩:=I.list hl;have l1:ys.length=p.length:=rv.length;obtain⟨T,e1,e2,e3,kT⟩:=fB rv pr;have U:∀t∈T,(∃a o n g j,t.2.1=Value.ref a/\s.heap.get? a=some o/\o.cls=.type "tuple" /\ o.data=.seq #[.int t.2.2.1 g,.int t.2.2.2 j] n)/\0<=t.2.2.2/\t.2.2.2<1000000:=λt J=>by obtain⟨r1,a,ea,hs⟩:=kT t J;obtain⟨a5,a2,⟨o,g1,g2,n,g3⟩,_⟩:=I.tuple hs;obtain⟨w1,w2,rfl,x1,x2⟩:=a2.two;obtain⟨g,rfl⟩:=(show ∃g,w1=Value.int t.2.2.1 g from x1);obtain⟨j,rfl⟩:=(show ∃j,w2=Value.int t.2.2.2 j from x2);rw[ea] at r1;refine⟨⟨a,o,n,g,j,r1,g1,g2,g3⟩,?_⟩;exact hb _ (by rw[<-e3];exact Cy (f:=λt:V×Value×(Int×Int)=>t.2.2) J)
 have nT:∀t∈T,TS.num s.heap 1000000 (t.2.1,t.2.1)=t.2.2.1*1000000+t.2.2.2:=λt J=>by obtain⟨⟨a,o,n,g,j,g0,g1,g2,g3⟩,_⟩:=U t J;exact TS.num_of g0 g1 g3
 have ez:p.zip p=T.map λt=>(t.2.1,t.2.1):=by rw[<-e2,List.zip_map']
 refine jm I.tk (TS.w_sorted (B:=1000000) pl.isList (by rw[<-l1];exact a1) (λv hv=>?_) λh' tk ks D c hD hk hg pm pw J=>?_)
 ·rw[<-e2] at hv;obtain⟨t,J,rfl⟩:=AR.mp hv;obtain⟨⟨a,o,n,g,j,g0,g1,g2,g3⟩,b1,b2⟩:=U t J;exact⟨a,o,n,_,_,g,j,g0,g1,g2,g3,b1,b2⟩
 ·rw[ez] at pm;obtain⟨T',pT,eT⟩:=l8 _ pm rfl;subst eT;have C:∀t,t∈T'->t∈T:=λt=>pT.mem_iff.mp;have a3:=BP.mp pw;refine⟨.ref D,_,I.laid (t':=tk) (o:=.lst (T'.map (·.1))) hk hD ?_,rfl,q D (T'.map (·.1)) (T'.map λt=>t.2.2) (I.hok.fresh hD) (di λt J=>(kT t (C t J)).2) ?_ ?_⟩
  ·refine⟨?_,T'.map (λt=>t.2.1),c,di λt J=>(kT t (C t J)).1,?_⟩
   ·rw[Ab,pT.length_eq];have:T.length=ys.length:=by rw[<-e1,Ab]
    rw[this];exact hz
   ·rw[hg,Bs];rfl
  ·rw[<-e3];exact pT.map _
  ·refine BP.mpr (BV (λ{x y} hx hy z=>?_) a3);rw[nT x (C x hx),nT y (C y hy)] at z;exact afz (U x (C x hx)).2 (U y (C y hy)).2 z
end L2
namespace L3
open PySem L2
def prY(p:Int×Int):Y:=.tup [.int p.1,.int p.2]
theorem qX{G:G3}{H:Hp}:∀{ps:List (Int×Int)} {xs:List V},x5 G H (ps.map prY) xs->Paired (so G.K H) xs ps
 |[],_,h=>by cases (show _=[] from h);exact .nil
 |p::r,_,⟨x,U,e,⟨a,zs,g,j,l,o,t,I,C,T,e2,J,e3⟩,s⟩=>by subst e g t e2 e3;cases (show l=V.int p.1 from I);cases (show C=V.int p.2 from J);exact .cons ⟨a,rfl,j⟩ (qX s)
theorem qF{G:G3}{H:Hp}:∀{ps:List (Int×Int)} {xs:List V},Paired (so G.K H) xs ps->x5 G H (ps.map prY) xs
 |_,_,.nil=>rfl
 |_,_,.cons ⟨a,I,J⟩ t=>by subst I;exact⟨_,_,rfl,⟨a,_,rfl,J,_,_,rfl,rfl,_,_,rfl,rfl,rfl⟩,qF t⟩
def nS(xs:List Y)(L:qm)(Q:YK):Prop:=match xs with
 |[.ref a]=>bU L a λys=>∃ps:List (Int×Int),ys=ps.map prY/\(∀p∈ps,0<=p.2/\p.2<1000000)/\ps.Nodup/\ps.length<=63/\∀(D:Addr) (I:List (Int×Int)),L D=none->I.Perm ps->I.Pairwise tG->Q (.ref D) (qg L D (.lst (I.map prY)))
 |_=>False
theorem uL:bootBuiltins "sorted"=some (.builtin "sorted"):=by decide +kernel
theorem aec :jt X (.builtin "sorted") (upL X.g3 nS):=jt.imq rA λxs H Q ys L Q3 g J z k=>by
 unfold nS at z;split at z
 ·rename_i a;obtain⟨j,e,l,rfl,o,hnd,I,z⟩:=x8 z;obtain⟨p,t,r⟩:=J a _ e;obtain⟨u,rfl,C⟩:=g.inv1;cases (show u=V.ref a from C);have T:=qX r;exact⟨a,p,l,rfl,aH.of t,T,o,hnd,by rw[<-r.length,Ab];exact I,λD j qs U pz pm pw=>k _ _ _ _ (DP U) (J.newL U (qF pz)) (by rfl) (z D qs (J.none U) pm pw)⟩
 ·exact z.elim
open PySem L2 Words
def au:Wd->Y
 |.leaf t n=>.tup [.str (kL t),.str n]
 |.node e l r=>.tup [.str (kN e),au l,au r]
theorem ql{Q:α->qm->Prop}{o:Option α}{v:α}(e:o=some v)(h:Q v L):sh L Q o:=by rw[e];exact h
theorem u8(t:Bool):List.lookup (kL t) [(("plain" : Str),("turned" : Str)),("turned","plain"),("both","either"),("either","both")]=some (kL (!t)):=by cases t<;>decide +kernel
theorem uN(t:Bool):List.lookup (kN t) [(("plain" : Str),("turned" : Str)),("turned","plain"),("both","either"),("either","both")]=some (kN (!t)):=by cases t<;>decide +kernel
theorem zw.str(x:Str):zw L n (.str x) (.s (.str x)):=by cases n with|zero=>exact⟨rfl,rfl⟩|succ n=>exact .inl ⟨rfl,rfl⟩
abbrev DV:=@zw.str
theorem zw.int(x:Int):zw L n (.int x) (.s (.int x)):=by cases n with|zero=>exact⟨rfl,rfl⟩|succ n=>exact .inl ⟨rfl,rfl⟩
abbrev DU:=@zw.int
theorem eO{L:qm}:∀{wd:Wd} {n:Nat},wd.depth<=n->zw L n (au wd) (mI wd)
 |.leaf t nm,n+1,_=>.inr (.inl ⟨_,_,rfl,rfl,.cons (DV _) (.cons (DV _) .nil)⟩)
 |.node e l r,n+1,h=>by have I:max l.depth r.depth+1<=n+1:=h;exact .inr (.inl ⟨_,_,rfl,rfl,.cons (DV _) (.cons (eO (by lia)) (.cons (eO (by lia)) .nil))⟩)
theorem jl(e:L a=some (.lst ys))(p:Paired (zw L n) ys ds):zw L (n+1) (.ref a) (.lst ds):=.inr (.inr ⟨ys,ds,rfl,rfl,wr e,p⟩)
theorem xo(p:Paired (zw L n) ys ds):zw L (n+1) (.tup ys) (.tup ds):=.inr (.inl ⟨ys,ds,rfl,rfl,p⟩)
theorem aap{neg:Bool}{u v:Wd}{Q:YK}(J:u.depth<=128)(q:Q (.bl (nb neg (Da.eq (mI u) (mI v)))) L):vW neg (au u) (au v) L Q:=by
 have I:∀w:Wd,uS (au w)=true:=λw=>by cases w<;>rfl
 have:uS (au u)=true/\uS (au v)=true/\∃n m d e,n<=128/\zw L n (au u) d/\zw L m (au v) e/\Q (.bl (nb neg (Da.eq d e))) L:=
  ⟨I u,I v,u.depth,v.depth,mI u,mI v,J,eO (Al _),eO (Al _),q⟩
 cases u<;>cases v<;>exact this
theorem cQ{neg:Bool}{zs:List Y}{es:List Da}{Q:YK}(I:n<128)(J:L a=some (.lst ys))(U:L b=some (.lst zs))(pa:Paired (zw L n) ys ds)(pb:Paired (zw L m) zs es)(q:Q (.bl (nb neg (Da.eqs ds es))) L):
 vW neg (.ref a) (.ref b) L Q:=⟨rfl,rfl,n+1,m+1,_,_,I,jl J pa,jl U pb,q⟩
def nY(hs:List Nat):List Y:=hs.map λn:Nat=>.int (n:Int)
theorem a8(hs:List Nat):(nY hs).length=hs.length:=by unfold nY;rw[Ab]
theorem xg{p:Addr}{o:LO}(h:qg L a o p=none):L p=none:=by
 by_cases c:p=a
 ·subst c;rw[q8] at h;cases h
 ·rw[qd c] at h;exact h
theorem xq{l:List α}{x:α}(h:l[i]?=some x):i<l.length:=(AL.mp h).1
abbrev zr(i:Int):x6:=yC (.int i)
abbrev vm(x:Str):x6:=yC (.str x)
abbrev jv(i:Nat)(n:Int):x6:=zc cJ (qa i) (yC (.int n))
abbrev bW(i:Nat):x6:=lK kH (q9 (qa i) qu)
abbrev eU(a b:x6):hE:=yB (zc (vW false) a b)
abbrev rdN(a b:x6):hE:=yB (zc (vW true) a b)
abbrev oP(a b:x6):x6:=jf (q9 a (q9 b qu))
abbrev k7(a:x6):dM:=q9 a qu
abbrev w6(a b:x6):dM:=q9 a (q9 b qu)
def sY:ke:=(jx (zc aF (zc vi (zc zV (zc zu (zc zu (zc zV (zc vi (qa 0) (zr 1000003)) (zr 7)) (zc zV (qa 1) (qa 1))) (zr 1)) (qa 2)) (zr 2147483647)) (zr 16)))
def kI(I:xm):ke:=(qw (xz (eU (bW 0) (zr 2)) (jx (zr 1)) xc)
 (jx (zc zu (zc zu (zr 1) (zf I (k7 (jv 0 1)))) (zf I (k7 (jv 0 2))))))
def oa(I:xm):ke:=(qw (zk (zc cJ (qa 0) (qa 1)) (qf 2))
 (qw (xz (eU (bW 2) (zr 2)) (jx (qa 2)) xc)
 (jx (jf (q9 (jv 2 0) (q9 (zf I (w6 (qa 0) (jv 2 1))) (q9 (zf I (w6 (qa 0) (jv 2 2))) qu)))))))
def oG:xm:=λys L Q=>∃c k f:Int,ys=[.int c,.int k,.int f]/\0<=k/\k<1000000/\0<f/\f<1000000/\∀v,0<=v->v<134217728->Q (.int v) L
theorem ag5:∀ys L Q,oG ys L Q->v0 sY 3 ys L Q:=by
 rintro ys L Q ⟨c,k,f,rfl,h0,h1,h2,h3,q⟩;refine⟨(by decide:(0:Int)<1000003),.inr ⟨by decide,by decide⟩,.inl ⟨by lia,by lia⟩,.inr ⟨by lia,by lia⟩,(by decide:(0:Int)<2147483647),⟨by decide,by decide⟩,xr (q _ ?_ ?_)⟩
 all_goals
  generalize ((c % 1000003*7+k*k+1)*f)=z;lia
theorem xP(cs:List Nat):(Txt.join "" (cs.map λc=>(⟨#[c]⟩:Str))).cps.toList=cs:=by
 rw[mP]
 induction cs with|nil=>rfl|cons c r I=>rw[AA,AS,I];rfl
def bB(n:Nat):xm:=λys L Q=>∃wd,ys=[au wd]/\wd.depth<=n/\Q (.int wd.size) L
theorem ip:∀ys L Q,¬bB 0 ys L Q:=λys L Q ⟨I,_,hd,_⟩=>by cases I<;>simp[Wd.depth] at hd
theorem u4(n:Nat):∀ys L Q,bB (n+1) ys L Q->v0 (kI (bB n)) 1 ys L Q:=by
 rintro ys L Q ⟨I,rfl,hd,q⟩;cases I with
 |leaf t n=>exact xr q
 |node e l r=>
  have J:max l.depth r.depth+1<=n+1:=hd;refine⟨l,rfl,by lia,r,rfl,by lia,xr ?_⟩;have e:(1+(l.size:Int)+(r.size:Int))=(((Wd.node e l r).size:Nat):Int):=by show _=((1+l.size+r.size:Nat):Int);rfl
  rw[e];exact q
def KW(ks:List Y):Nat->Wd->Prop
 |p,.leaf t n=>ks[p]?=some (.tup [.str (kL t),.str n])
 |p,.node e l r=>∃i j:Nat,ks[p]?=some (.tup [.str (kN e),.int i,.int j])/\KW ks i l/\KW ks j r
theorem KW.more{ks:List Y}(ms:List Y):∀{wd:Wd} {p:Nat},KW ks p wd->KW (ks++ms) p wd
 |.leaf _ _,p,h=>by have I:ks[p]?=some _:=h;show(ks++ms)[p]?=some _;rw[AE (AL.mp I).1];exact I
 |.node _ _ _,p,⟨i,j,h,a,b⟩=>⟨i,j,by rw[AE (AL.mp h).1];exact h,KW.more ms a,KW.more ms b⟩
def wg(n:Nat):xm:=λys L Q=>∃k ks p wd,ys=[.ref k,.int ((p:Nat):Int)]/\L k=some (.lst ks)/\KW ks p wd/\wd.depth<=n/\Q (au wd) L
theorem rJ:∀ys L Q,¬wg 0 ys L Q:=λys L Q ⟨k,J,p,I,_,_,_,hd,_⟩=>by cases I<;>simp[Wd.depth] at hd
theorem nW:∀ys L Q,¬wg 0 ys L Q:=rJ
theorem pq(n:Nat):∀ys L Q,wg (n+1) ys L Q->v0 (oa (wg n)) 3 ys L Q:=by
 rintro ys L Q ⟨k,J,p,U,rfl,I,h,hd,q⟩;cases U with
 |leaf t nm=>exact qc I (ql (zv h) (xr q))
 |node e l r=>
  obtain⟨i,j,h,g,o⟩:=h;have C:max l.depth r.depth+1<=n+1:=hd;exact qc I (ql (zv h) ⟨k,J,i,l,rfl,I,g,by lia,k,J,j,r,rfl,I,o,by lia,xr q⟩)
def mkS(l:List Nat):Str:=⟨l.toArray⟩
theorem sv(x:Str):mkS x.cps.toList=x:=by cases x;rfl
theorem acn(a b:Str):(a++b).cps.toList=a.cps.toList++b.cps.toList:=by rw[Str.cps_append,Cw]
def ad6(I:xm):ke:=(qw (zk (af0 [("plain","turned"),("turned","plain"),("both","either"),("either","both")]) (qf 1))
 (qw (xz (eU (bW 0) (zr 2)) (jx (jf (q9 (zc cJ (qa 1) (jv 0 0)) (k7 (jv 0 1))))) xc)
 (jx (jf (q9 (zc cJ (qa 1) (jv 0 0)) (q9 (zf I (k7 (jv 0 1))) (q9 (zf I (k7 (jv 0 2))) qu)))))))
def aaw(I:xm)(p1:xm):ke:=(qw (xz (eU (bW 1) (zr 2)) (qw (jk (aT j8 (qa 0) (q9 (zf I (k7 (qa 1))) qu)))
 (qw (jk (aT j8 (qa 0) (k7 (qa 1))))
 (jx (jn (q9 (jf (q9 (vm "link") (q9 (zc fi (bW 0) (zr 2)) (q9 (zc fi (bW 0) (zr 1)) qu)))) (q9 (zc fi (bW 0) (zr 2)) (q9 (zc fi (bW 0) (zr 1)) qu))))))) xc)
 (qw (zk (zf p1 (w6 (qa 0) (jv 1 1))) (qf 2))
 (qw (zk (zf p1 (w6 (qa 0) (jv 1 2))) (qf 3))
 (qw (jk (aT j8 (qa 0) (q9 (jf (q9 (zc cJ (zf I (k7 (qa 1))) (zr 0)) (w6 (jv 2 1) (jv 3 1)))) qu)))
 (qw (jk (aT j8 (qa 0) (q9 (jf (q9 (jv 1 0) (w6 (jv 2 2) (jv 3 2)))) qu)))
 (qw (ahh 4 5 (q9 (zc fi (bW 0) (zr 2)) (q9 (zc fi (bW 0) (zr 1)) qu)))
 (qw (zk (yIf (eU (jv 1 0) (vm "either")) (qa 4) (qa 5)) (qf 6))
 (qw (zk (yIf (eU (jv 1 0) (vm "either")) (qa 5) (qa 4)) (qf 7))
 (jx (jn (q9 (jf (q9 (vm "either") (q9 (qa 7) (q9 (jf (q9 (vm "both") (q9 (qa 6) (w6 (jv 2 0) (jv 3 0))))) qu)))) (w6 (qa 4) (qa 5)))))))))))))
inductive Kn where
 |lf (t:Bool) (n:Str)|nd (e:Bool) (i j:Nat)
def kO:Kn->Y
 |.lf t n=>.tup [.str (kL t),.str n]
 |.nd e i j=>.tup [.str (kN e),.int ((i:Nat):Int),.int ((j:Nat):Int)]
inductive Ru where
 |link (p q:Nat)|ei (r:Nat) (A:Ru)|bo (r:Nat) (A B:Ru)|cu (p q:Nat) (A B:Ru)
def qk:Ru->Y
 |.link p q=>.tup [.str "link",.int ((p:Nat):Int),.int ((q:Nat):Int)]
 |.ei r A=>.tup [.str "either",.int ((r:Nat):Int),qk A]
 |.bo r A B=>.tup [.str "both",.int ((r:Nat):Int),qk A,qk B]
 |.cu p q A B=>.tup [.str "cut",.int ((p:Nat):Int),.int ((q:Nat):Int),qk A,qk B]
def qt:Ru->List Nat
 |.link p q=>[p,q]
 |.ei r A=>r::qt A
 |.bo r A B=>r::(qt A++qt B)
 |.cu _ _ A B=>qt A++qt B
abbrev ja(ks:List Kn):List Y:=ks.map kO
def cB(ks:List Kn)(p:Nat)(w:Wd):Prop:=KW (ja ks) p w
theorem cB.more{ks:List Kn}{p:Nat}{w:Wd}(h:cB ks p w)(ms:List Kn):cB (ks++ms) p w:=by unfold cB ja;rw[Ai];exact KW.more _ h
def bA(ks:List Kn):Prop:=∀(p:Nat) (k:Kn),ks[p]?=some k->match k with
 |.lf _ n=>bw n
 |.nd _ i j=>i<p/\j<p
theorem bA.snoc{ks:List Kn}{k:Kn}(h:bA ks)(I:match k with|.lf _ n=>bw n|.nd _ i j=>i<ks.length/\j<ks.length):bA (ks++[k]):=by
 intro p J e;by_cases c:p<ks.length
 ·rw[AE c] at e;exact h p J e
 ·rw[Ax (by exact yg)] at e;have c2:p=ks.length:=by
   by_cases c3:p-ks.length=0
   ·omega
   ·rw[BJ (by simp;exact ap4)] at e;cases e
  subst c2;rw[C6] at e;cases e;exact I
theorem cO(l:List α)(x:α)(r:List α):(l++x::r)[l.length]?=some x:=by rw[Ax (Al _),C6];rfl
theorem jB{l r:List α}{p:Nat}{x:α}(h:l[p]?=some x):(l++r)[p]?=some x:=by rw[AE (AL.mp h).1];exact h
inductive SR(ks:List Kn):Ru->List Nat->Prop
 |link {p q:Nat} {t:Bool} {n:Str} {E:List Nat}:p<q->ks[p]?=some (.lf t n)->ks[q]?=some (.lf (!t) n)->(∀x,x∈E↔x=p\/x=q)->E.Nodup->SR ks (.link p q) E
 |ei {r i j:Nat} {A:Ru} {EA E:List Nat}:ks[r]?=some (.nd true i j)->SR ks A EA->i∈EA->j∈EA->i≠j->(∀x,x∈E↔(x∈EA/\x≠i/\x≠j)\/x=r)->E.Nodup->SR ks (.ei r A) E
 |bo {r i j:Nat} {A B:Ru} {EA EB E:List Nat}:ks[r]?=some (.nd false i j)->SR ks A EA->SR ks B EB->i∈EA->j∈EB->(∀x,x∈E↔(x∈EA/\x≠i)\/(x∈EB/\x≠j)\/x=r)->E.Nodup->SR ks (.bo r A B) E
 |cu {p q:Nat} {A B:Ru} {EA EB E:List Nat} {w:Wd}:SR ks A EA->SR ks B EB->p∈EA->q∈EB->cB ks p w->cB ks q w.turn->(∀x,x∈E↔(x∈EA/\x≠p)\/(x∈EB/\x≠q))->E.Nodup->SR ks (.cu p q A B) E
theorem SR.more{ks:List Kn}{R:Ru}{E:List Nat}(h:SR ks R E)(ms:List Kn):SR (ks++ms) R E:=by induction h with|link h1 h2 h3 I J=>exact .link h1 (jB h2) (jB h3) I J|ei h1 _ h3 I J j l o=>exact .ei (jB h1) o h3 I J j l|bo h1 _ _ I J j l U g=>exact .bo (jB h1) U g I J j l|cu _ _ h3 I J j l p U g=>exact .cu U g h3 I (J.more ms) (j.more ms) l p
theorem SR.sub{ks:List Kn}{R:Ru}{E:List Nat}(h:SR ks R E):∀x∈E,x∈qt R:=by
 induction h with
 |link _ _ _ j _=>intro x I;rcases (j x).mp I with rfl|rfl<;>simp[qt]
 |ei _ _ _ _ _ g _ l=>intro x I;rcases (g x).mp I with⟨h,_⟩|rfl;exact Ac _ (l x h);exact Ah ..
 |bo _ _ _ _ _ g _ J U=>
  intro x I;rcases (g x).mp I with⟨h,_⟩|⟨h,_⟩|rfl
  ·exact Ac _ (Aq _ (J x h))
  ·exact Ac _ (Af _ (U x h))
  ·exact Ah ..
 |cu _ _ _ _ _ _ o _ J U=>
  intro x I;rcases (o x).mp I with⟨h,_⟩|⟨h,_⟩
  ·exact Aq _ (J x h)
  ·exact Af _ (U x h)
def bN(n:Nat):xm:=λys L Q=>∃wd,ys=[au wd]/\wd.depth<=n/\Q (au wd.turn) L
theorem xF:∀ys L Q,¬bN 0 ys L Q:=λys L Q ⟨I,_,hd,_⟩=>by cases I<;>simp[Wd.depth] at hd
theorem rS(t:Bool):xt ([(("plain" : Str),("turned" : Str)),("turned","plain"),("both","either"),("either","both")].map λp=>((Sum.inr p.1:j7),Y.str p.2)) (Sum.inr (kL t))=some (.str (kL (!t))):=gv (u8 t)
theorem sS(t:Bool):xt ([(("plain" : Str),("turned" : Str)),("turned","plain"),("both","either"),("either","both")].map λp=>((Sum.inr p.1:j7),Y.str p.2)) (Sum.inr (kN t))=some (.str (kN (!t))):=gv (uN t)
theorem xH(n:Nat):∀ys L Q,bN (n+1) ys L Q->v0 (ad6 (bN n)) 2 ys L Q:=by
 rintro ys L Q ⟨J,rfl,hd,q⟩;intro p I;cases J with
 |leaf t nm=>
  refine x0 q8 (ql (rS t) ?_);exact cU (By I) q
 |node e l r=>
  have U:max l.depth r.depth+1<=n+1:=hd;refine x0 q8 (ql (sS e) ?_);refine⟨l,rfl,by lia,r,rfl,by lia,?_⟩;exact cU (By I) q
structure Mir(ks:List Kn)(w:Wd)(ms:List Kn)(R:Ru)(tp sp:Nat):Prop where
 len:ms.length=2*w.size
 sr:SR (ks++ms) R [tp,sp]
 wt:cB (ks++ms) tp w.turn
 ws:cB (ks++ms) sp w
 tm:∀x,x∈qt R↔ks.length<=x/\x<ks.length+ms.length
 nd:(qt R).Nodup
 ok:bA (ks++ms)
theorem cB.leaf{ks:List Kn}{p:Nat}{t:Bool}{n:Str}(h:ks[p]?=some (.lf t n)):cB ks p (.leaf t n):=by show(ja ks)[p]?=_;rw[Am,h];rfl
theorem cB.node{ks:List Kn}{p:Nat}{e:Bool}{l r:Wd}(h:ks[p]?=some (.nd e i j))(I:cB ks i l)(J:cB ks j r):cB ks p (.node e l r):=by refine⟨i,j,?_,I,J⟩;rw[Am,h];rfl
abbrev EF:=@cB.node
theorem qI{ks:List Kn}(g:bA ks){t:Bool}{n:Str}(I:bw n):Mir ks (.leaf t n) [.lf (!t) n,.lf t n] (.link ks.length (ks.length+1)) ks.length (ks.length+1):=by
 have J:(ks++[Kn.lf (!t) n,.lf t n])[ks.length]?=some (.lf (!t) n):=cO _ _ _;have U:(ks++[Kn.lf (!t) n,.lf t n])[ks.length+1]?=some (.lf t n):=by have:=cO (ks++[Kn.lf (!t) n]) (Kn.lf t n) [];rw[Ad,AU] at this;exact this
 refine⟨rfl,.link (t:=!t) (n:=n) (by exact Ct _) J (by rw[Bool.not_not];exact U) (by simp) (by simp),cB.leaf J,cB.leaf U,λx=>?_,by simp[qt],?_⟩
 ·show x∈[ks.length,ks.length+1]↔ks.length<=x/\x<ks.length+2;simp;lia
 ·have:=(g.snoc (k:=.lf (!t) n) I).snoc (k:=.lf t n) I;rw[AU] at this;exact this
theorem SR.nod{ks:List Kn}{R:Ru}{E:List Nat}(h:SR ks R E):E.Nodup:=by cases h<;>assumption
theorem apy{x h lo a r N:Nat}(I:(h=N/\lo=N+1)\/(h=N+1/\lo=N))(J:N=a+m+r):x=h\/x=lo\/(a<=x/\x<a+m)\/a+m<=x/\x<a+m+r↔a<=x/\x<N+2:=by subst J;rcases I with⟨rfl,rfl⟩|⟨rfl,rfl⟩<;>lia
theorem apa{x a b c d N:Nat}(h:a≠b)(k:c≠d):x∈[b,d,N]↔(x∈[a,b]/\x≠a)\/(x∈[c,d]/\x≠c)\/x=N:=by simp only[Ap,B6,or_false];lia
theorem aoz{x a b c d N:Nat}(h:a≠b)(k:c≠d):x∈[a,c,N]↔(x∈[a,b]/\x≠b)\/(x∈[c,d]/\x≠d)\/x=N:=by simp only[Ap,B6,or_false];lia
theorem an3{x a b N M:Nat}(h:a<N)(k:b<N):x∈[N,M]↔(x∈[a,b,N]/\x≠a/\x≠b)\/x=M:=by simp only[Ap,B6,or_false];lia
theorem apk{x a b N M:Nat}(h:a<N)(k:b<N):x∈[M,N]↔(x∈[a,b,N]/\x≠a/\x≠b)\/x=M:=by simp only[Ap,B6,or_false];lia
theorem al7{a b N:Nat}(h:a<N)(k:b<N)(d:a≠b):[a,b,N].Nodup:=by rw[Ay,Ay];simp;lia
theorem apf{a r N t s u v:Nat}(I:a<=t/\t<a+m)(J:a<=s/\s<a+m)(b1:a+m<=u/\u<a+m+r)(b2:a+m<=v/\v<a+m+r)(U:N=a+m+r):t<N/\s<N/\u<N/\v<N/\t≠u/\s≠v:=by lia
theorem akk{h lo a r N:Nat}(I:(h=N/\lo=N+1)\/(h=N+1/\lo=N))(J:N=a+m+r):¬(h=lo\/(a<=h/\h<a+m)\/a+m<=h/\h<a+m+r)/\¬((a<=lo/\lo<a+m)\/a+m<=lo/\lo<a+m+r):=by lia
theorem apx{x y a r:Nat}(h1:a<=x/\x<a+m)(h2:a+m<=y/\y<a+m+r)(e:x=y):False:=by lia
theorem xY{ks I g:List Kn}{e:Bool}{l r:Wd}{A B:Ru}{tl J tr U:Nat}(p:Mir ks l I A tl J)(o:Mir (ks++I) r g B tr U){N:Nat}(hN:N=ks.length+(I++g).length):
 Mir ks (.node e l r) (I++g++[.nd (!e) tl tr,.nd e J U]) (.ei (if e=true then N+1 else N) (.bo (if e=true then N else N+1) A B)) N (N+1):=by
 have hA:∀x∈[tl,J],ks.length<=x/\x<ks.length+I.length:=λx T=>(p.tm x).mp (p.sr.sub x T);have hB:∀x∈[tr,U],ks.length+I.length<=x/\x<ks.length+I.length+g.length:=λx T=>by have:=(o.tm x).mp (o.sr.sub x T);rw[Ad] at this;exact this
 have a1:=hA tl (by simp);have a2:=hA J (by simp);have b1:=hB tr (by simp);have b2:=hB U (by simp);have nA:tl≠J:=by have:=p.sr.nod;simpa using this
 have nB:tr≠U:=by have:=o.sr.nod;simpa using this
 have t:N=ks.length+I.length+g.length:=by rw[hN,Ad];simp +arith only
 obtain⟨d1,d2,d3,d4,d5,d6⟩:=apf a1 a2 b1 b2 t;generalize j:ks++(I++g++[Kn.nd (!e) tl tr,.nd e J U])=K;have k1:K=(ks++I)++(g++[Kn.nd (!e) tl tr,.nd e J U]):=by rw[<-j];simp
 have k2:K=((ks++I)++g)++[Kn.nd (!e) tl tr,.nd e J U]:=by rw[<-j];simp
 have k3:K=(((ks++I)++g)++[Kn.nd (!e) tl tr])++[.nd e J U]:=by rw[<-j];simp
 have l2:((ks++I)++g).length=N:=by rw[Ad,Ad];lia
 have g1:K[N]?=some (.nd (!e) tl tr):=by rw[k2,<-l2];exact cO _ _ _
 have g2:K[N+1]?=some (.nd e J U):=by
  have l3:(((ks++I)++g)++[Kn.nd (!e) tl tr]).length=N+1:=by rw[Ad,l2];rfl
  rw[k3,<-l3];exact cO _ _ _
 have sA:SR K A [tl,J]:=by rw[k1];exact p.sr.more _
 have sB:SR K B [tr,U]:=by rw[k2];exact o.sr.more _
 have a3:bA K:=by have o1:=o.ok.snoc (k:=.nd (!e) tl tr) (by show tl<((ks++I)++g).length/\tr<((ks++I)++g).length;rw[l2];exact⟨d1,d3⟩);have o2:=o1.snoc (k:=.nd e J U) (by show J<_/\U<_;rw[Ad,l2];exact⟨BQ d2,BQ d4⟩);rw[k3];exact o2
 have tA:=p.tm;have tB:=o.tm;rw[Ad] at tB;have wt:cB K N (Wd.node e l r).turn:=EF g1 (by rw[k1];exact p.wt.more _) (by rw[k2];exact o.wt.more _);have a4:cB K (N+1) (Wd.node e l r):=EF g2 (by rw[k1];exact p.ws.more _) (by rw[k2];exact o.ws.more _);have C:(I++g++[Kn.nd (!e) tl tr,.nd e J U]).length=2*(Wd.node e l r).size:=by have h1:=p.len;have h2:=o.len;show _=2*(1+l.size+r.size);rw[Ad,Ad];simp;lia
 have lt:ks.length+(I++g++[Kn.nd (!e) tl tr,.nd e J U]).length=N+2:=by rw[Ad];simp[hN];rfl
 have tt:∀h lo:Nat,(h=N/\lo=N+1)\/(h=N+1/\lo=N)->(∀x,x∈qt (.ei h (.bo lo A B))↔ks.length<=x/\x<ks.length+(I++g++[Kn.nd (!e) tl tr,.nd e J U]).length)/\(qt (.ei h (.bo lo A B))).Nodup:=by
  intro h lo hh;constructor
  ·intro x;rw[lt];show x∈h::lo::(qt A++qt B)↔_;rw[Ap,Ap,Ao,tA,tB];exact apy hh t
  ·show(h::lo::(qt A++qt B)).Nodup;rw[Ay,Ay,Av];refine⟨?_,?_,p.nd,o.nd,λx T y hy e=>?_⟩
   ·rw[Ap,Ao,tA,tB];exact(akk hh t).1
   ·rw[Ao,tA,tB];exact(akk hh t).2
   ·exact apx ((tA x).mp T) ((tB y).mp hy) e
 cases e with
 |true=>
  have s1:SR K (.bo N A B) [J,U,N]:=by exact .bo g1 sA sB (by simp) (by simp) (λx=>apa nA nB) (al7 d2 d4 d6)
  have s2:SR K (.ei (N+1) (.bo N A B)) [N,N+1]:=by exact .ei g2 s1 (by simp) (by simp) d6 (λx=>an3 d2 d4) (by simp)
  obtain⟨t1,t2⟩:=tt (N+1) N (.inr ⟨rfl,rfl⟩);exact⟨C,by rw[j];exact s2,by rw[j];exact wt,by rw[j];exact a4,t1,t2,by rw[j];exact a3⟩
 |false=>
  have s1:SR K (.bo (N+1) A B) [tl,tr,N+1]:=by exact .bo g2 sA sB (by simp) (by simp) (λx=>aoz nA nB) (al7 (BQ d1) (BQ d3) d5)
  have s2:SR K (.ei N (.bo (N+1) A B)) [N,N+1]:=by exact .ei g1 s1 (by simp) (by simp) d5 (λx=>apk (BQ d1) (BQ d3)) (by simp)
  obtain⟨t1,t2⟩:=tt N (N+1) (.inl ⟨rfl,rfl⟩);exact⟨C,by rw[j];exact s2,by rw[j];exact wt,by rw[j];exact a4,t1,t2,by rw[j];exact a3⟩
def bL(n:Nat):xm:=λys L Q=>∃a,∃ks:List Kn,∃w:Wd,ys=[.ref a,au w]/\L a=some (.lst (ja ks))/\w.depth<=n/\n<=120/\w.ok/\bA ks/\ks.length+2*w.size<=10000/\
 ∀ms R tp sp p,L p=none->Mir ks w ms R tp sp->Q (.ref p) (qg (qg L a (.lst (ja (ks++ms)))) p (.lst [qk R,.int ((tp:Nat):Int),.int ((sp:Nat):Int)]))
theorem vS:∀ys L Q,¬bL 0 ys L Q:=λys L Q ⟨a,J,I,_,_,hd,_⟩=>by cases I<;>simp[Wd.depth] at hd
theorem bg_:∀m:Nat,m<=20000->m<sizeLine:=λm h=>B9 h (by decide)
theorem wG(n:Nat):∀ys L Q,bL (n+1) ys L Q->v0 (aaw (bN 120) (bL n)) 8 ys L Q:=by
 rintro ys L Q ⟨a,I,w,rfl,ha,hd,hn,a2,hk,hb,q⟩;have big:=bg_;cases w with
 |leaf t nm=>
  have hb:I.length+2*1<=10000:=hb;refine qc ha ⟨.leaf t nm,rfl,by exact C3 _,qz ha ⟨big _ (by rw[Ab];lia),?_⟩⟩;refine qc q8 (qz q8 ⟨big _ (by rw[Ad,Ab];simp;lia),?_⟩);rw[xa];have e1:(ja I++[au (Wd.leaf t nm).turn])++[au (.leaf t nm)]=ja (I++[.lf (!t) nm,.lf t nm]):=by unfold ja;rw[Ai,AU];rfl
  have e2:(ja (I++[Kn.lf (!t) nm,.lf t nm])).length=I.length+2:=by rw[Ab,Ad];rfl
  have i1:((((ja (I++[Kn.lf (!t) nm,.lf t nm])).length:Nat):Int)-2)=((I.length:Nat):Int):=by rw[e2];lia
  have i2:((((ja (I++[Kn.lf (!t) nm,.lf t nm])).length:Nat):Int)-1)=((I.length+1:Nat):Int):=by rw[e2];lia
  have bb:(ja I++[au (Wd.leaf t nm).turn])++[.tup [.str (kL t),.str nm]]=ja (I++[.lf (!t) nm,.lf t nm]):=e1
  first|rw[e1]|rw[bb]
  refine qc q8 (qc q8 (qc q8 (qc q8 λp T=>?_)));have np:L p=none:=by
   have:p≠a:=λe=>by rw[e,q8] at T;cases T
   rw[qd this] at T;exact T
  have:=q _ _ _ _ p np (qI hk a2);have key:[qk (.link I.length (I.length+1)),Y.int ((I.length:Nat):Int),Y.int ((I.length+1:Nat):Int)]=[.tup [.str "link",.int ((((ja (I++[Kn.lf (!t) nm,.lf t nm])).length:Nat):Int)-2),.int ((((ja (I++[Kn.lf (!t) nm,.lf t nm])).length:Nat):Int)-1)],.int ((((ja (I++[Kn.lf (!t) nm,.lf t nm])).length:Nat):Int)-2),.int ((((ja (I++[Kn.lf (!t) nm,.lf t nm])).length:Nat):Int)-1)]:=by rw[i1,i2];rfl
  rw[key] at this;exact xr this
 |node e l r=>
  have bd:max l.depth r.depth+1<=n+1:=hd;have hb:I.length+2*(1+l.size+r.size)<=10000:=hb;refine⟨a,I,l,rfl,ha,by lia,by exact rN,a2.1,hk,by lia,λJ A g j p1 al ML=>?_⟩;have a1:a≠p1:=wu ha al;have bf:=ML.len;refine⟨a,I++J,r,rfl,by rw[qd a1,q8],by lia,by exact rN,a2.2,ML.ok,by rw[Ad];lia,λU B tr C p2 a3 MR=>?_⟩;have bg:=MR.len;have bc:p1≠p2:=wu q8 a3;have aL:a≠p2:=wu (by rw[qd a1];exact q8) a3;have a4:qg (qg (qg (qg L a (.lst (ja (I++J)))) p1 (.lst [qk A,.int ((g:Nat):Int),.int ((j:Nat):Int)])) a (.lst (ja ((I++J)++U)))) p2 (.lst [qk B,.int ((tr:Nat):Int),.int ((C:Nat):Int)]) a=some (.lst (ja ((I++J)++U))):=by rw[qd aL];exact q8
  have h1:qg (qg (qg (qg L a (.lst (ja (I++J)))) p1 (.lst [qk A,.int ((g:Nat):Int),.int ((j:Nat):Int)])) a (.lst (ja ((I++J)++U)))) p2 (.lst [qk B,.int ((tr:Nat):Int),.int ((C:Nat):Int)]) p1=some (.lst [qk A,.int ((g:Nat):Int),.int ((j:Nat):Int)]):=by rw[qd bc,qd (AW a1)];exact q8
  have h2:qg (qg (qg (qg L a (.lst (ja (I++J)))) p1 (.lst [qk A,.int ((g:Nat):Int),.int ((j:Nat):Int)])) a (.lst (ja ((I++J)++U)))) p2 (.lst [qk B,.int ((tr:Nat):Int),.int ((C:Nat):Int)]) p2=some (.lst [qk B,.int ((tr:Nat):Int),.int ((C:Nat):Int)]):=q8;have old:∀b o,b≠a->L b=some o->qg (qg (qg (qg L a (.lst (ja (I++J)))) p1 (.lst [qk A,.int ((g:Nat):Int),.int ((j:Nat):Int)])) a (.lst (ja ((I++J)++U)))) p2 (.lst [qk B,.int ((tr:Nat):Int),.int ((C:Nat):Int)]) b=some o:=λb o nb e=>by
   have n1:b≠p1:=wu e al;have e2:qg (qg L a (.lst (ja (I++J)))) p1 (.lst [qk A,.int ((g:Nat):Int),.int ((j:Nat):Int)]) b=some o:=by rw[qd n1,qd nb];exact e
   have n2:b≠p2:=wu e2 a3;rw[qd n2,qd nb];exact e2
  generalize qg (qg (qg (qg L a (.lst (ja (I++J)))) p1 (.lst [qk A,.int ((g:Nat):Int),.int ((j:Nat):Int)])) a (.lst (ja ((I++J)++U)))) p2 (.lst [qk B,.int ((tr:Nat):Int),.int ((C:Nat):Int)])=L2 at a4 h1 h2 old;have bh:(ja ((I++J)++U)).length=I.length+J.length+U.length:=by rw[Ab,Ad,Ad]
  refine qc a4 ⟨.node e l r,rfl,by show max l.depth r.depth+1<=120;exact amv,qc h1 (qc h2 (qz a4 ⟨big _ (by lia),?_⟩))⟩;have a5:∀o,qg L2 a o p1=some (.lst [qk A,.int ((g:Nat):Int),.int ((j:Nat):Int)]):=λo=>by rw[qd (AW a1)];exact h1
  have ag:∀o,qg L2 a o p2=some (.lst [qk B,.int ((tr:Nat):Int),.int ((C:Nat):Int)]):=λo=>by rw[qd (AW aL)];exact h2
  refine qc q8 (qc (a5 _) (qc (ag _) (qz q8 ⟨big _ (by rw[Ad];simp;lia),?_⟩)));rw[xa];obtain⟨N,hN⟩:∃N,N=I.length+(J++U).length:=⟨_,rfl⟩;have e1:(ja ((I++J)++U)++[.tup [.str (kN (!e)),.int ((g:Nat):Int),.int ((tr:Nat):Int)]])++[.tup [.str (kN e),.int ((j:Nat):Int),.int ((C:Nat):Int)]]=ja (I++(J++U++[.nd (!e) g tr,.nd e j C])):=by unfold ja;simp[kO]
  rw[e1];have lN:(ja (I++(J++U++[Kn.nd (!e) g tr,.nd e j C]))).length=N+2:=by rw[Ab,Ad,Ad,hN];simp;rfl
  have i1:((((ja (I++(J++U++[Kn.nd (!e) g tr,.nd e j C]))).length:Nat):Int)-2)=((N:Nat):Int):=by rw[lN];lia
  have i2:((((ja (I++(J++U++[Kn.nd (!e) g tr,.nd e j C]))).length:Nat):Int)-1)=((N+1:Nat):Int):=by rw[lN];lia
  refine qc q8 (qc q8 ?_);have M:=xY (e:=e) ML MR hN;have done:∀p,qg L2 a (.lst (ja (I++(J++U++[Kn.nd (!e) g tr,.nd e j C])))) p=none->∀R,Mir I (.node e l r) (J++U++[Kn.nd (!e) g tr,.nd e j C]) R N (N+1)->
   gE Q (.ref p) (qg (qg L2 a (.lst (ja (I++(J++U++[Kn.nd (!e) g tr,.nd e j C]))))) p (.lst [qk R,.int ((N:Nat):Int),.int ((N+1:Nat):Int)])):=λp T R MM=>by
   have ba:p≠a:=λz=>by rw[z,q8] at T;cases T
   rw[qd ba] at T;have np:L p=none:=by cases z:L p with|none=>rfl|some o=>rw[old p o ba z] at T;cases T
   refine cU ?_ (q _ _ _ _ p np MM);intro b o z;by_cases c1:b=p
   ·subst c1;rw[q8] at z ⊢;exact z
   ·rw[qd c1] at z ⊢;by_cases c2:b=a
    ·subst c2;rw[q8] at z ⊢;exact z
    ·rw[qd c2] at z ⊢;exact old b o c2 z
  cases e with
  |true=>
   have key:[qk (.ei (if true=true then N+1 else N) (.bo (if true=true then N else N+1) A B)),Y.int ((N:Nat):Int),Y.int ((N+1:Nat):Int)]=[.tup [.str "either",.int ((((ja (I++(J++U++[Kn.nd (!true) g tr,.nd true j C]))).length:Nat):Int)-1),.tup [.str "both",.int ((((ja (I++(J++U++[Kn.nd (!true) g tr,.nd true j C]))).length:Nat):Int)-2),qk A,qk B]],.int ((((ja (I++(J++U++[Kn.nd (!true) g tr,.nd true j C]))).length:Nat):Int)-2),.int ((((ja (I++(J++U++[Kn.nd (!true) g tr,.nd true j C]))).length:Nat):Int)-1)]:=by rw[i1,i2];rfl
   walk_at "w";refine qc (a5 _) (qc (ag _) λp T=>?_);have:=done p T _ M;rw[key] at this;exact this
  |false=>
   have key:[qk (.ei (if false=true then N+1 else N) (.bo (if false=true then N else N+1) A B)),Y.int ((N:Nat):Int),Y.int ((N+1:Nat):Int)]=[.tup [.str "either",.int ((((ja (I++(J++U++[Kn.nd (!false) g tr,.nd false j C]))).length:Nat):Int)-2),.tup [.str "both",.int ((((ja (I++(J++U++[Kn.nd (!false) g tr,.nd false j C]))).length:Nat):Int)-1),qk A,qk B]],.int ((((ja (I++(J++U++[Kn.nd (!false) g tr,.nd false j C]))).length:Nat):Int)-2),.int ((((ja (I++(J++U++[Kn.nd (!false) g tr,.nd false j C]))).length:Nat):Int)-1)]:=by rw[i1,i2];rfl
   walk_at "w";refine qc (a5 _) (qc (ag _) λp T=>?_);have:=done p T _ M;rw[key] at this;exact this
end L3
variable {R S:L3.Ru}{ks pR:List L3.Kn}{wh wd:List (Option L3.Kn)}
namespace L3
open PySem L2 Words
def uk:Option Kn->Y
 |none=>.non
 |some k=>kO k
abbrev vo(ks:List (Option Kn)):List Y:=ks.map uk
def aq:Option Kn->List Nat
 |some (.nd _ i j)=>[i,j]
 |_=>[]
def whr(f:Option Kn->Bool)(ks:List (Option Kn))(i:Nat):List Nat:=(List.range i).filter λp=>match ks[p]? with
 |some k=>f k
 |none=>false
theorem acw{f:Option Kn->Bool}{ks:List (Option Kn)}{p:Nat}(h:p∈whr f ks i):p<i/\∃k,ks[p]?=some k/\f k=true:=by
 unfold whr at h;obtain⟨h1,h2⟩:=AO.mp h;refine⟨A5.mp h1,?_⟩;split at h2
 ·rename_i k e;exact⟨k,e,h2⟩
 ·cases h2
theorem adj(f:Option Kn->Bool)(ks:List (Option Kn))(i:Nat):(whr f ks i).length<=i:=by unfold whr;exact AI (List.length_filter_le _ _) (by rw[Bf];simp +arith only)
def zI:Option Kn->Bool
 |some _=>true
 |none=>false
abbrev iP(ks:List (Option Kn)):List Nat:=whr zI ks ks.length
theorem iR(a b:List Nat):nY (a++b)=nY a++nY b:=by unfold nY;rw[Ai]
theorem rP{hs:List Nat}(h:(nY hs)[i]?=some y):∃n,hs[i]?=some n/\y=.int (n:Int):=by unfold nY at h;rw[Am] at h;obtain⟨n,I,J⟩:=Au.mp h;exact⟨n,I,J.symm⟩
abbrev aoe(a l c:Addr):Y:=.tup [.ref a,.ref l,.ref c]
theorem aow(a b:Nat):min (a:Int) (b:Int)=((min a b:Nat):Int):=by omega
theorem amk(a b:Nat):max (a:Int) (b:Int)=((max a b:Nat):Int):=by omega
def prN(p:Nat×Nat):Y:=.tup [.int ((p.1:Nat):Int),.int ((p.2:Nat):Int)]
abbrev dO(l:List (Nat×Nat)):List Y:=l.map prN
end L3
namespace TS
open PySem PyProof.Rows PySem.W PySem.Calls
section
variable {w:World}
abbrev keyBody(kx px:Str)(p1 p2 p3 p4 p5:Pos)(n:Nat):Expr:=.Tuple [.Subscript (.Name kx p1) (.Name px p2) p3,.Name px p4] n p5
structure i9(h:Heap)(f:Addr)(kx px:Str)(scope:Scope)(kvs:List Value):Prop where
 ex:∃(name fx:Str) (params:Arguments) (p1 p2 p3 p4 p5:Pos) (n:Nat) (pm ctv:Value) (c' cell k:Addr),h.get? f=some (kla_obj name fx params (keyBody kx px p1 p2 p3 p4 p5 n) scope [(kx,cell)] pm c' ctv)/\h.CodeRec (.ref c') fx/\
  h.IsCell cell (some (.ref k))/\h.IsList k kvs.toArray/\∀v:Value,bindArgs (kla_fn name fx params (keyBody kx px p1 p2 p3 p4 p5 n) scope [(kx,cell)] pm (.ref c') ctv) ⟨[v],[]⟩=pure [(px,v)]
 lim:h.NoLimit
structure KeySc(scope:Scope)(kx px:Str):Prop where
 kind:scope.kind=.function
 co:scope.isCoroutine=false
 gen:scope.isGenerator=false
 nc:∀x∈scope.names,x.2≠.cell
 lp:scope.names.lookup px=some .local
 lk:scope.names.lookup kx=some .free
 d1:(kx==("__debug__" : Str))=false
 d2:(px==("__debug__" : Str))=false
 d3:(kx==("__classdict__" : Str))=false
theorem i9.keeps{kvs:List Value}(k:i9 h f kx px scope kvs)(J:∀b o,h.get? b=some o->h'.get? b=some o):i9 h' f kx px scope kvs:=by
 obtain⟨name,U,I,p,r,t,C,T,n,pm,l,c',cell,kk,g1,g2,g3,g4,g5⟩:=k.ex;refine⟨⟨name,U,I,p,r,t,C,T,n,pm,l,c',cell,kk,J _ _ g1,?_,?_,?_,g5⟩,k.lim.keeps J⟩
 ·obtain⟨c,oc,vs,tq,g,j,e3⟩:=g2;exact⟨c,oc,vs,tq,g,J _ _ j,e3⟩
 ·obtain⟨o,g,j⟩:=g3;exact⟨o,J _ _ g,j⟩
 ·obtain⟨o,g,j⟩:=g4;exact⟨o,J _ _ g,j⟩
theorem am0{kvs:List Value}{u t:Tok}{r:Int}(K:i9 s.heap f kx px scope kvs)(S:KeySc scope kx px)(U:A.depth<recursionLimit)(hi:kvs[i]?=some (.int r t))(a1:i<2 ^ 40)
 (h:∀h' tk a,(∀b o,s.heap.get? b=some o->h'.get? b=some o)->h'.get? a=some { cls:=.type "tuple",data:=.seq #[.int r t,.int (i:Int) u] }->Q (.ref a) { s with heap:=h',toks:=tk }):
 wpAny (model prog w) A (call (.ref f) [.int (i:Int) u]) Q E s:=by
 obtain⟨name,I,l,p1,p2,p3,p4,p5,n,pm,a2,p,cell,kk,g1,g2,g3,g4,g5⟩:=K.ex;refine wpAny_call (kla_callFunE U g1 rfl S.co S.gen rfl g2 ?_);rw[g5];refine Ak (wpAny_newFunctionEnv S.nc (λx hx=>by rw[Ag.mp hx];exact S.lp) (λJ g j=>⟨K.lim.fresh _ j,?_⟩) S.kind);have C:∀b o,s.heap.get? b=some o->J.get? b=some o:=λb o e=>j.extBut b o (A1 (At e)) (As _ e);show codeAny _ _ (.expr _ (envX I scope s.heap.objs.size f (.ref p) [(kx,cell)])) _ _;refine kla_codeExpr ?_;have look:(([(px,Value.int (i:Int) u)]:List (Str×Value)).reverse.lookup px)=some (.int (i:Int) u):=by simp
 have kf:(envX I scope s.heap.objs.size f (.ref p) [(kx,cell)]).kindOf kx=some .free:=S.lk;have kp:(envX I scope s.heap.objs.size f (.ref p) [(kx,cell)]).kindOf px=some .local:=S.lp;have cl:(envX I scope s.heap.objs.size f (.ref p) [(kx,cell)]).cells.lookup kx=some cell:=by show([(kx,cell)]:List (Str×Addr)).lookup kx=_;simp
 have ic:J.IsCell cell (some (.ref kk)):=by obtain⟨o,T,e2⟩:=g3;exact⟨o,C _ _ T,e2⟩
 have il:J.IsList kk kvs.toArray:=by obtain⟨o,T,e2⟩:=g4;exact⟨o,C _ _ T,e2⟩
 refine wpAny_Tuple_spliced (Eg (Subscript_ (wpAny_Name (wpAny_loadName_free S.kind kf cl ic (wpAny_Name (wpAny_loadName_local S.kind kp g look ?_) S.d2) S.d3) S.d1)));refine item_listL il (by exact A8 _) (by omega) (by rw[show((i:Nat):Int).toNat=i from rfl];exact hi) ?_;refine Eg (wpAny_Name (wpAny_loadName_local S.kind kp g look ?_) S.d2);refine Ej ⟨by show 2<=sizeLine;decide,?_⟩;exact h _ _ _ (λb o e=>As _ (C b o e)) (Db _ rfl)
end
theorem aay(f:α->β):∀{l m:List β},l.Perm m->∀{T:List α},T.map f=m->∃U:List α,U.Perm T/\U.map f=l:=by
 intro l m p
 induction p with
 |nil=>intro T e;exact⟨T,BC _,e⟩
 |cons x _ o=>
  intro T e;cases T with
  |nil=>cases e
  |cons t r=>
   rw[AA] at e;obtain⟨I,J⟩:=A4 e;obtain⟨U,C,e'⟩:=o J;exact⟨t::U,C.cons t,by rw[AA,e',I]⟩
 |swap x y l=>
  intro T e
  match T,e with
  |t::u::r,e=>
   rw[AA,AA] at e;obtain⟨I,J⟩:=A4 e;obtain⟨e3,e4⟩:=A4 J;exact⟨u::t::r,List.Perm.swap t u r,by rw[AA,AA,I,e3,e4]⟩
 |trans _ _ g j=>
  intro T e;obtain⟨T1,p1,I⟩:=j e;obtain⟨T2,p2,J⟩:=g I;exact⟨T2,p2.trans p1,J⟩
def itV(x:Nat×Tok):Value:=.int (x.1:Int) x.2
def aho(h:Heap)(kS:Addr)(rk:Nat->Int)(k:Value)(x:Nat×Tok):Prop:=∃a t u,k=.ref a/\a≠kS/\h.get? a=some { cls:=.type "tuple",data:=.seq #[.int (rk x.1) t,.int (x.1:Int) u] }
def gQ(h:Heap)(kS:Addr)(rk:Nat->Int):List Value->List (Nat×Tok)->Prop
 |[],[]=>True
 |k::ks,x::xs=>aho h kS rk k x/\gQ h kS rk ks xs
 |_,_=>False
theorem gQ.len{h:Heap}{kS:Addr}{rk:Nat->Int}:∀{ks:List Value} {xs:List (Nat×Tok)},gQ h kS rk ks xs->ks.length=xs.length
 |[],[],_=>rfl
 |_::_,_::_,⟨_,b⟩=>by rw[AJ,AJ,gQ.len b]
 |[],_::_,z=>z.elim
 |_::_,[],z=>z.elim
theorem gQ.mem{h:Heap}{kS:Addr}{rk:Nat->Int}:∀{ks:List Value} {xs:List (Nat×Tok)},gQ h kS rk ks xs->∀t∈ks.zip xs,aho h kS rk t.1 t.2
 |[],[],_,t,I=>by cases I
 |_::_,_::_,⟨a,b⟩,t,I=>by
  rw[List.zip_cons_cons] at I;rcases Ap.mp I with rfl|I
  ·exact a
  ·exact gQ.mem b t I
 |[],_::_,z,_,_=>z.elim
 |_::_,[],z,_,_=>z.elim
section
variable {w:World}
theorem yK{g:Heap}{f:Addr}{kx px:Str}{scope:Scope}{kvs:List Value}{kS:Addr}{rk:Nat->Int}{body:Value->PUnit->Sem (ForInStep PUnit)}(K:i9 g f kx px scope kvs)(S:KeySc scope kx px)(I:A.depth<recursionLimit)(hn:g.get? kS=none)
 (hb:∀(x:Value) (s:Shared) (Q':ForInStep PUnit->Shared->Prop),wpAny (model prog w) A (call (.ref f) [x]) (λk s'=>wpAny (model prog w) A (Builtin.List.listUpdate (.ref kS) (·.push k)) (λ_ C=>Q' (.yield ⟨⟩) C) E s') (λ_ _=>False) s->wpAny (model prog w) A (body x ⟨⟩) Q' E s):
 ∀(ps:List (Nat×Tok)) (ks:List Value) (e:Nat) (s:Shared) (Q:PUnit->Shared->Prop),(∀b o,g.get? b=some o->s.heap.get? b=some o)->s.heap.get? kS=some (seqObj "list" ks.toArray e)->ks.length+ps.length<=100000->
  (∀x∈ps,x.1<2 ^ 40/\∃t,kvs[x.1]?=some (.int (rk x.1) t))->
  (∀h' tk j T,(∀b o,b≠kS->s.heap.get? b=some o->h'.get? b=some o)->h'.get? kS=some (seqObj "list" (ks++j).toArray T)->gQ h' kS rk j ps->Q ⟨⟩ { s with heap:=h',toks:=tk })->
  wpAny (model prog w) A (forIn (ps.map itV) PUnit.unit body) Q E s
 |[],ks,e,s,Q,hg,hk,hz,hp,q=>by rw[CC,List.forIn_nil];exact Ak (q s.heap s.toks [] e (λ_ _ _ h=>h) (by rw[AX];exact hk) trivial)
 |x::r,ks,e,s,Q,hg,hk,hz,hp,q=>by
  rw[AA,DG];rw[AJ] at hz;obtain⟨a1,t,ht⟩:=hp x (Ah ..);have big:(100000:Nat)+1<=sizeLine:=by rw[sizeLine_eq];exact DJ _ _
  refine Aa (hb (itV x) s _ (am0 (K.keeps hg) S I ht a1 λh1 l a k1 ha=>?_));have J:h1.get? kS=some (seqObj "list" ks.toArray e):=k1 _ _ hk;have s1:=Ef h1 kS (Obj.mapSeq (·.push (.ref a)));have ea:ks.toArray.push (.ref a)=List.toArray (ks++[.ref a]):=by simp
  obtain⟨c2,a2⟩:∃c2,(h1.update kS (Obj.mapSeq (·.push (.ref a)))).get? kS=some (seqObj "list" (List.toArray (ks++[.ref a])) c2):=⟨_,by rw[<-ea];exact get?_update_seq J (·.push (.ref a))⟩;have p:a≠kS:=λz=>by
   rw[z,J] at ha;have:=Bb (λo:Option Obj=>o.map (·.cls)) ha;have z2:some (Value.type "list")=some (Value.type "tuple"):=this;injection z2 with z3
   injection z3 with z4
   exact absurd z4 (by decide)
  refine listUpdate_at (s:={ s with heap:=h1,toks:=l }) J rfl ?_ (by rw[An];lia) (AI (Nat.le_of_eq (Array.size_push ..)) (by rw[An];lia));refine yK K S I hn hb r (ks++[.ref a]) c2 { s with heap:=h1.update kS (Obj.mapSeq (·.push (.ref a))),toks:=l } Q (λb o e=>?_) a2 (by rw[Ad,CM];lia) (λy hy=>hp y (Ac _ hy)) λh' tk j T kk a3 vs=>?_
  ·have nb:b≠kS:=λz=>by rw[z,hn] at e;cases e
   exact(s1.2 b nb).trans (k1 b o (hg b o e))
  ·have U:∀b o,b≠kS->h1.get? b=some o->h'.get? b=some o:=λb o nb e=>kk b o nb ((s1.2 b nb).trans e);refine q h' tk (.ref a::j) T (λb o nb e=>U b o nb (k1 b o e)) (by rw[a3,AU];rfl) ⟨⟨a,t,x.2,rfl,p,U a _ p ha⟩,vs⟩
end
section
variable {w:World}
theorem ah1{g:Heap}{kvs:List Value}{kS:Addr}{rk:Nat->Int}{ps:List (Nat×Tok)}{e1 e0:Nat}{P:PySem.Fin->Shared->Prop}(K:i9 g f kx px scope kvs)(S:KeySc scope kx px)(I:A.depth<recursionLimit)(hn:g.get? kS=none)
 (hg:∀b o,g.get? b=some o->s.heap.get? b=some o) (hk:s.heap.get? kS=some (seqObj "list" #[] e0)) (ha:s.heap.get? a=some (seqObj "list" #[] e1)) (l:kS≠a) (hz:ps.length<=63)
 (hp:∀x∈ps,x.1<2 ^ 40/\∃t,kvs[x.1]?=some (.int (rk x.1) t)) (hB:∀x∈ps,((x.1:Nat):Int)<B) (nd:(ps.map (·.1)).Nodup)
 (h:∀h' tk (qs:List (Nat×Tok)) c,(∀b o,b≠kS->b≠a->s.heap.get? b=some o->h'.get? b=some o)->h'.get? a=some (seqObj "list" (qs.map itV).toArray c)->qs.Perm ps->(qs.Pairwise λx y=>rk x.1*B+(x.1:Int)<=rk y.1*B+(y.1:Int))->P (.done (.ret .none)) { s with heap:=h',toks:=tk }):
 wpAny (model prog w) A (ksk_rest a (.ref f) false (ps.map itV).toArray e1 (.ref kS)) P E s:=by
 have big:(100000:Nat)+1<=sizeLine:=by rw[sizeLine_eq];exact DJ _ _
 unfold ksk_rest;refine Aa (wpAny_rule ?_);rw[List.forIn_toArray];refine Aa (yK (rk:=rk) K S I hn (λx s' Q' hx=>?_) ps [] e0 s _ hg hk (by simp;omega) hp λh' tk ks e' keep J kv=>?_)
 ·refine Aa (wpAny_attempt (AQ hx (λk a5 hk=>?_) λ_ _ hF=>hF.elim))
  try dsimp only
  exact Aa (AQ hk (λ_ s3 q=>Ak q) λ_ _ e=>e)
 ·try dsimp only
  rw[Co] at J;refine Aa (listItems_at (s:={ s with heap:=h',toks:=tk }) J rfl ?_);have a1:h'.get? a=some (seqObj "list" #[] e1):=keep _ _ (AW l) ha;have len:ks.length=ps.length:=kv.len;obtain⟨T,C⟩:∃T,T=ks.zip ps:=⟨_,rfl⟩;have kT:∀t∈T,aho h' kS rk t.1 t.2:=λt p=>kv.mem t (C▸p);have e2:T.map (·.2)=ps:=by rw[C];exact List.map_snd_zip (by lia)
  have ez:ks.zip (ps.map itV)=T.map λt=>(t.1,itV t.2):=by rw[C,List.zip_map_right];rfl
  have mp:∀t∈T,t.2∈ps:=λt p=>by rw[<-e2];exact Cy p
  have nT:∀t∈T,num h' B (t.1,itV t.2)=rk t.2.1*B+(t.2.1:Int):=λt p=>by obtain⟨b,tt,u,r,x2,x3⟩:=kT t p;exact num_of r x3 rfl
  have ag:∀x∈ps,(0:Int)<=((x.1:Nat):Int):=λ_ _=>by exact A8 _
  refine ajn (s:={ s with heap:=h',toks:=tk }) (vs:=ps.map itV) (ks:=ks) (B:=B) J a1 l (by rw[Ab];exact len) (by rw[Ab];exact hz) (λv hv=>?_) λh2 a2 xs c U hc pm pw=>?_
  ·obtain⟨j,hj⟩:=BR hv;have a3:j<ps.length:=by rw[<-len];exact(AL.mp hj).1
   have hm:(v,ps[j])∈T:=by rw[C];refine List.mem_iff_getElem?.mpr ⟨j,?_⟩;rw[List.getElem?_zip_eq_some];exact⟨hj,Aj a3⟩
   obtain⟨b,tt,u,r,x2,x3⟩:=kT _ hm;have r:v=.ref b:=r;exact⟨b,_,_,_,_,tt,u,r,x3,rfl,rfl,by exact A8 _,hB _ (mp _ hm)⟩
  ·rw[ez] at pm;obtain⟨T',pT,a4⟩:=aay _ pm rfl;subst a4;have mT:∀t,t∈T'->t∈T:=λt=>pT.mem_iff.mp;refine h h2 a2 (T'.map (·.2)) c (λb o n1 n2 e=>?_) ?_ ?_ ?_
   ·rw[U b n1 n2];exact keep b o n1 e
   ·rw[hc,Bs,Bs];rfl
   ·rw[<-e2];exact pT.map _
   ·refine BP.mpr (BV (λ{x y} hx hy z=>?_) (BP.mp pw));rw[nT x (mT x hx),nT y (mT y hy)] at z;exact z
theorem w_sortedK{l:Addr}{kvs:List Value}{rk:Nat->Int}{ps:List (Nat×Tok)}(K:i9 s.heap f kx px scope kvs)(S:KeySc scope kx px)(j:A.in1.in1.depth<recursionLimit)
 (hl:s.heap.IsList l (ps.map itV).toArray) (hz:ps.length<=63)
 (hp:∀x∈ps,x.1<2 ^ 40/\∃t,kvs[x.1]?=some (.int (rk x.1) t)) (hB:∀x∈ps,((x.1:Nat):Int)<B) (nd:(ps.map (·.1)).Nodup)
 (h:∀h' tk (p:List (Nat×Tok)) D c,s.heap.objs.size<=D->(∀b o,s.heap.get? b=some o->h'.get? b=some o)->h'.get? D=some (seqObj "list" (p.map itV).toArray c)->p.Perm ps->(p.Pairwise λx y=>rk x.1*B+(x.1:Int)<=rk y.1*B+(y.1:Int))->Q (.ref D) { s with heap:=h',toks:=tk }):
 wpAny (model prog w) A (call (.builtin "sorted") [.ref l] [(Str.ofString "key",.ref f)]) Q E s:=by
 have big:(100000:Nat)+1<=sizeLine:=by rw[sizeLine_eq];lia
 have a2:(ps.map itV).length<=100000:=by rw[Ab];omega
 refine call_function_entry_kw kind_sorted plain_sorted entry_sorted (ksk_s1 _ _) ?_;unfold Builtin.«sorted»;refine Aa (m:=checkCount "sorted" 1 1 _) (Ak ?_);refine Aa (collect_list hl ?_ (by exact ae7));refine Aa (wpAny_newList ?_ (by lia));obtain⟨g1,T⟩:∃g1,g1=(s.heap.push (seqObj "list" #[] 0)).update s.heap.objs.size (Obj.mapSeq (· ++ (ps.map itV).toArray)):=⟨_,rfl⟩;have gs:g1.objs.size=s.heap.objs.size+1:=by rw[T,Heap.size_update,size_push']
 have gk:∀b o,s.heap.get? b=some o->g1.get? b=some o:=λb o q=>by have J:b<s.heap.objs.size:=At q;rw[T,Heap.get?_update_ne _ _ _ _ (A1 J)];exact As _ q
 show wpAny _ _ _ _ _ { s with heap:=((s.heap.push (seqObj "list" #[] 0)).update s.heap.objs.size (Obj.mapSeq (· ++ (ps.map itV).toArray))).push (seqObj "list" (ps.map itV).toArray 0) };rw[<-T];have I:(g1.push (seqObj "list" (ps.map itV).toArray 0)).get? g1.objs.size=some (seqObj "list" (ps.map itV).toArray 0):=Db _ rfl;have keep:∀b o,s.heap.get? b=some o->(g1.push (seqObj "list" (ps.map itV).toArray 0)).get? b=some o:=λb o q=>As _ (gk b o q);refine Aa (A3 (wpAny_call_entry_kw slot_list_sort ⟨_,I,rfl⟩ entry_list_sort ?body (ksk_l1 _ _)))
 case body=>
  obtain⟨D,eD⟩:∃D,D=g1.objs.size:=⟨_,rfl⟩;rw[<-eD] at I ⊢;show wpAny (model prog w) A.in1.in1 (Builtin.«list.sort» ⟨[.ref D],[(Str.ofString "key",.ref f)]⟩) _ _ _;rw[ksk_t1];obtain⟨g2,r⟩:∃g2,g2=g1.push (seqObj "list" (ps.map itV).toArray 0):=⟨_,rfl⟩;rw[<-r] at I keep ⊢;have s1:=Ef g2 D (Obj.mapSeq λ_=>(#[]:Array Value));obtain⟨e1,C⟩:∃e1,(g2.update D (Obj.mapSeq λ_=>(#[]:Array Value))).get? D=some (seqObj "list" #[] e1):=⟨_,get?_update_seq I λ_=>#[]⟩;have nD:∀b o,s.heap.get? b=some o->b≠D:=λb o q z=>by have J:b<s.heap.objs.size:=At q;rw[z,eD,gs] at J;exact Nat.not_succ_lt_self J
  unfold ksk_tree;refine Aa (listItems_at (s:={ s with heap:=g2 }) I rfl ?_);refine Aa (listUpdate_at (s:={ s with heap:=g2 }) I rfl ?_ (by rw[An];exact ae7) (Bi _));refine Aa (seqEpoch_at C rfl ?_);refine Aa (wpAny_newTuple ?_ (by show(ps.map itV).length<=_;lia));refine Aa (wpAny_newList ?_ (Bi _));refine A3 ?_;obtain⟨g3,U⟩:∃g3,g3=(g2.update D (Obj.mapSeq λ_=>(#[]:Array Value))).push (seqObj "tuple" (ps.map itV).toArray 0):=⟨_,rfl⟩;have k3:∀b o,s.heap.get? b=some o->g3.get? b=some o:=λb o q=>by rw[U];exact As _ ((s1.2 b (nD b o q)).trans (keep b o q))
  have d3:g3.get? D=some (seqObj "list" #[] e1):=by rw[U];exact As _ C
  show wpAny (model prog w) A.in1.in1 (ksk_rest D (.ref f) false (ps.map itV).toArray _ (.ref ((g2.update D (Obj.mapSeq λ_=>(#[]:Array Value))).push (seqObj "tuple" (ps.map itV).toArray 0)).objs.size)) _ _ { s with heap:=((g2.update D (Obj.mapSeq λ_=>(#[]:Array Value))).push (seqObj "tuple" (ps.map itV).toArray 0)).push (seqObj "list" #[] 0) };rw[<-U];have a1:(g3.push (seqObj "list" #[] 0)).get? g3.objs.size=some (seqObj "list" #[] 0):=Db _ rfl;refine ah1 (s:={ s with heap:=g3.push (seqObj "list" #[] 0) }) (g:=s.heap) (kS:=g3.objs.size) (a:=D) (rk:=rk) (B:=B) K S j (Heap.get?_none_of_le ?_) (λb o q=>As _ (k3 b o q)) a1 (As _ d3) ?_ hz hp hB nd λh' tk p c kp hD pm pw=>?_
  ·have l1:g3.objs.size=g1.objs.size+2:=by rw[U,size_push',Heap.size_update,r,size_push']
   rw[l1,gs];exact AI (Cr _) (BA _ 2)
  ·exact(A1 (At d3)).symm
  ·refine⟨_,rfl,Ak ⟨_,rfl,h h' tk p D c (by rw[eD,gs];exact Cr _) (λb o q=>?_) hD pm pw⟩⟩;exact kp b o (A1 (At (k3 b o q))) (nD b o q) (As _ (k3 b o q))
end
end TS
namespace L2
open PySem PySem.Spec PyProof.Rows
theorem m5{i j:Int}{t u:Tok}{c:Value}(l:List Value)(h:TriplesOk l):TriplesOk (l++[.int i t,.int j u,c]):=by
 fun_induction TriplesOk l with
 |case1=>trivial
 |case2 _ _ _ _ _ rest I=>exact I h
 |case3=>exact h.elim
theorem re{i j:Int}{t u:Tok}{c I:Value}(l:List Value)(h:TriplesOk l)(e:codeAmong pos (l++[.int i t,.int j u,c])=some I):codeAmong pos l=some I\/I=c:=by
 fun_induction TriplesOk l with
 |case1=>
  right;have e:(if i==pos.line&&j==pos.col then some c else none)=some I:=e;split at e
  ·cases e;rfl
  ·cases e
 |case2 a _ b _ d rest J=>
  have e:(if a==pos.line&&b==pos.col then some d else codeAmong pos (rest++[.int i t,.int j u,c]))=some I:=e;show(if a==pos.line&&b==pos.col then some d else codeAmong pos rest)=some I\/I=c;split at e
  ·rename_i z;rw[AF z];exact .inl e
  ·rename_i z;rw[AD z];exact J h e
 |case3=>exact h.elim
structure u5(K:Ae)(g7:Value)(P:Addr):Prop where
 ex:∃c oc,g7=.ref c/\K.lookup c=some oc/\∀h:Heap,h.get? c=some oc->PySem.W.CodeHd h c P
 bm:∃bm ob,PySem.W.nsIn K mainGlobals "__builtins__"=some (some (.ref bm))/\bm≠builtinsNs/\bm≠mainGlobals/\K.lookup bm=some ob/\ob.cls=.type "module" /\ ob.dict=some builtinsNs/\ob.data=.plain
theorem oY:∀{l:List Nat} {us:List Value},zn (l.map λi:Nat=>V.int (0+(i:Int))) us->∃ps:List (Nat×Tok),us=ps.map TS.itV/\ps.map (·.1)=l
 |[],_,.nil=>⟨[],rfl,rfl⟩
 |i::r,_,.cons (b:=u) h t=>by obtain⟨ps,I,J⟩:=oY (l:=r) t;obtain⟨tk,U⟩:=(show ∃tk,u=Value.int (0+(i:Int)) tk from h);refine⟨(i,tk)::ps,?_,by rw[AA,J]⟩;rw[AA,I,U];show _=Value.int (i:Int) tk::_;rw[Int.zero_add]
theorem pG:∀ps:List (Nat×Tok),zn (ps.map λx=>V.int ((x.1:Nat):Int)) (ps.map TS.itV)
 |[]=>.nil
 |x::r=>.cons ⟨x.2,rfl⟩ (pG r)
def afr(P:Addr)(q:Str)(U:Nat)(te:TE):TE:=λσ H Q=>te σ H λv H1=>∃l J,∃n:Nat,∃rks:List Int,v=.ref l/\H1 l=some (.lst ((List.range n).map λi:Nat=>V.int (0+(i:Int))))/\σ[U]?=some (some (.ref J))/\H1 J=some (.lst (rks.map V.int))/\rks.length=n/\n<=63/\oE H1 P q/\
 ∀H2 D (I:List Nat),(∀b u,b≠P->H1 b=some u->H2 b=some u)->oE H2 P q->H1 D=none->D≠P->H2 D=some (.lst (I.map λi:Nat=>V.int (i:Int)))->I.Perm (List.range n)->(I.Pairwise λi j=>rks.getD i 0*1000000+(i:Int)<=rks.getD j 0*1000000+(j:Int))->Q (.ref D) H2
theorem vU{l kk cell c':Addr}{J:Arguments}{r:Value}{Q:VK}(I:qy X pins σ H s)(S:TS.KeySc hQ kx px)(hr:X.A.depth+3<recursionLimit)
 (hf:s.heap.get? f=some (PySem.W.kla_obj name fx J (TS.keyBody kx px p1 p2 p3 p4 p5 x1) hQ [(kx,cell)] pm c' r)) (a2:s.heap.CodeRec (.ref c') fx) (C:s.heap.IsCell cell (some (.ref kk)))
 (hb:∀v:Value,bindArgs (PySem.W.kla_fn name fx J (TS.keyBody kx px p1 p2 p3 p4 p5 x1) hQ [(kx,cell)] pm (.ref c') r) ⟨[v],[]⟩=pure [(px,v)])
 (hl:H l=some (.lst ((List.range n).map λi:Nat=>V.int (0+(i:Int))))) (hk:H kk=some (.lst (rks.map V.int))) (hn:rks.length=n) (hz:n<=63)
 (q:∀D (g:List Nat),H D=none->g.Perm (List.range n)->(g.Pairwise λi j=>rks.getD i 0*1000000+(i:Int)<=rks.getD j 0*1000000+(j:Int))->Q (.ref D) (upd H D (.lst (g.map λi:Nat=>V.int (i:Int))))):
 wpAny (model X.prog X.w) X.A (call (.builtin "sorted") [.ref l] [(Str.ofString "key",.ref f)]) (EP X pins σ Q) X.xe s:=by
 obtain⟨a5,rv,pl,_⟩:=I.list (aH.of hl);obtain⟨p,rk,pk,_⟩:=I.list (aH.of hk);obtain⟨ps,rfl,U⟩:=oY rv;have lk:p.length=n:=by rw[<-rk.length,Ab,hn]
 have lp:ps.length=n:=by have:=Bb List.length U;rwa[Ab,Bf] at this
 have big:(100000:Nat)<=sizeLine:=by decide
 refine jm I.tk (TS.w_sortedK (rk:=λi=>rks.getD i 0) (B:=1000000) (kvs:=p) ⟨⟨name,fx,J,p1,p2,p3,p4,p5,x1,pm,r,c',cell,kk,hf,a2,C,pk.isList,hb⟩,I.nolimit⟩ S ?_ pl.isList (by lia) (λx hx=>?_) (λx hx=>?_) ?_ λh' tk g D c hD keep hg a1 pw ht=>?_)
 ·show X.A.depth<recursionLimit;lia
 ·have T:x.1∈List.range n:=by rw[<-U];exact Cy hx
  have a3:=A5.mp T;refine⟨by lia,?_⟩;have e1:(rks.map V.int)[x.1]?=some (V.int (rks.getD x.1 0)):=by rw[Am,Aj (by lia),A7,Aj (by lia)];rfl
  obtain⟨u,e2,r2⟩:=Words.Paired.getP rk e1;obtain⟨t,rfl⟩:=(show ∃t,u=Value.int (rks.getD x.1 0) t from r2);exact⟨t,e2⟩
 ·have T:x.1∈List.range n:=by rw[<-U];exact Cy hx
  have a3:=A5.mp T;omega
 ·rw[U];exact B7
 ·have a4:H D=none:=I.hok.fresh hD;refine⟨.ref D,_,I.laid (t':=tk) (o:=.lst ((g.map (·.1)).map λi:Nat=>V.int (i:Int))) keep hD ?_,rfl,q D (g.map (·.1)) a4 ?_ ?_⟩
  ·refine⟨?_,g.map TS.itV,c,?_,hg⟩
   ·rw[Ab,Ab,a1.length_eq];lia
   ·rw[Bs];exact pG g
  ·rw[<-U];exact a1.map _
  ·exact BP.mpr pw
theorem qy.tabbed{P U:Addr}{ps more:Array Value}{oc fo:Obj}{tk:Nat}(I:qy X pins σ H s)(T:H P=some (.tbl ps))(hx:Heap.ExtBut P s.heap h')(g:h'.get? P=some (PySem.W.tabObj (ps++more)))
 (hc:s.heap.objs.size<=U) (j:h'.get? U=some oc) (ht:0<tk):qy X pins σ (upd (upd H P (.tbl (ps++more))) U (.frz oc (.own 0))) { s with heap:=h'.push fo,toks:=tk }:=by
 have nc:H U=none:=I.hok.fresh hc;have t:∀b,H b=none->b≠P:=λb e z=>by rw[z,T] at e;cases e
 have l:∀b u,H b=some u->b≠U:=λb u e z=>by rw[z,nc] at e;cases e
 have p:∀b o,s.heap.get? b=some o->b≠U:=λb o e=>A1 (AH (At e) hc);have C:∀b o,b≠P->s.heap.get? b=some o->(h'.push fo).get? b=some o:=λb o n e=>As _ (hx b o n e);have J:∀b u,H b=some u->(∀ps,u≠.tbl ps)->b≠P:=λb u e d z=>by rw[z,T] at e;cases e;exact d _ rfl
 refine I.step (ch:=[]) (g':=s.gens) (d':=s.drawn) (t':=tk) (λ_ z=>nomatch z) (λb o _ _ _ e n=>C b o (t b n) e) (λb o _ _ _ e n=>⟨o.slots,C b o (t b n) e⟩) (λb o _ e n=>?_) (λb o _ e=>?_) (λb xs e=>?_) (λb o u e=>?_) (λb qs e=>?_) (λm hm=>?_) (λb u e=>?_) I.bare ht
 ·rw[qp (p b o e),qp (t b n)];exact n
 ·by_cases c:b=P
  ·subst c;exact⟨_,As _ g⟩
  ·exact⟨o,C b o c e⟩
 ·rw[qp (l b _ e),qp (J b _ e λ_ z=>by cases z)];exact e
 ·rw[qp (l b _ e),qp (J b _ e λ_ z=>by cases z)];exact e
 ·rw[qp (l b _ e)];by_cases c:b=P
  ·subst c;rw[T] at e;cases e;exact⟨more,zq⟩
  ·rw[qp c];exact⟨#[],by rw[e];simp⟩
 ·exact(hm.extBut hx (t _ I.free)).push _
 ·by_cases c:b=U
  ·subst c;rw[zq] at e;cases e;exact⟨As _ j,_,As _ j⟩
  ·rw[qp c] at e;by_cases d:b=P
   ·subst d;rw[zq] at e;cases e;exact As _ g
   ·rw[qp d] at e;refine(I.hok b u e).stay (λa v ha r=>C a v ?_ r) (λa r=>?_) (λa xs r=>?_)
    ·rcases ha with rfl|ha
     ·exact d
     ·exact J a _ ha λ_ z=>by cases z
    ·rw[qp (l a _ r),qp (J a _ r λ_ z=>by cases z)];exact r
    ·rw[qp (l a _ r),qp (J a _ r λ_ z=>by cases z)];exact r
theorem yO{te:TE}{J:Arguments}{U:Pos}{ik:Nat}{P:Addr}(hg:Gl X "sorted")(hm:X.mg "sorted"=none)(he:PE X e te)(S:TS.KeySc hQ kx px)(C:u5 X.K X.env.code P)(hr:X.A.depth+3<recursionLimit)
 (hq:X.env.qual ++ "<lambda>" = q) (d0:X.N[ik]?=some kx) (bb:X.env.scope.names.lookup kx=some .cell) (bc:∃cell,X.env.cells.lookup kx=some cell/\closureFor hQ X.env=pure [(kx,cell)])
 (bd:defaultsOf J X.env=([],[])) (hb:∀(name fx:Str) (cl:List (Str×Addr)) (pm cd ct v:Value),bindArgs (PySem.W.kla_fn name fx J (TS.keyBody kx px p1 p2 p3 p4 p5 x1) hQ cl pm cd ct) ⟨[v],[]⟩=pure [(px,v)])
 (h1:starEach [e] X.env=(false,eval e X.env)::starEach [] X.env:=by rfl) (h2:(backTo pos (starEach [e] X.env)).any (·.1)=false:=by rfl)
 (h3:backTo pos (starEach [e] X.env)=(false,eval e X.env)::backTo pos (starEach [] X.env):=by rfl):
 PE X (.Call (.Name "sorted" p) [e] [⟨some "key",.Lambda J (TS.keyBody kx px p1 p2 p3 p4 p5 x1) hQ U,ya⟩] pos) (afr P q ik te):=by
 intro a1 s σ H Q I h;refine wpAny_Call_Name_kw (dl I hg hm (by decide +kernel:bootBuiltins "sorted"=some (.builtin "sorted")) ?_ (by decide) (by decide));refine PyProof.Rows.callWith_kw ?_ h3 h2;rw[h3];refine Eg (ki (he a1 s σ H _ I h) λv s1 ⟨x,H1,g,rx,l,kk,n,rks,ev,hl,hs,hk,hn,hz,T,qq⟩=>?_);refine Ej ?_;subst ev;cases (show v=Value.ref l from rx);show wpAny _ _ (evalAll ((do let v <-eval (.Lambda J (TS.keyBody kx px p1 p2 p3 p4 p5 x1) hQ U) X.env;standAt pos;pure v)::[])) _ _ s1;refine wpAny_evalAll_cons (Aa ?_);obtain⟨cell,a3,aL⟩:=bc;obtain⟨c,da,bf,lc,hC⟩:=C.ex;obtain⟨bm,ob,b1,b2,b3,b4,b5,b6,b7⟩:=C.bm;obtain⟨ag,tP,tok,a4⟩:=T;have bg:s1.heap.Ns mainGlobals X.mg:=g.ok.mod.glob.keeps g.bk;have bh:s1.heap.get? P=some (PySem.W.tabObj ag):=g.hok P _ tP;have bi:PySem.W.CodeHd s1.heap c P:=hC _ (g.kIn c da lc);have a2:∀b o,X.base.get? b=some o->b≠P:=λb o e z=>by have:=(g.bs b o e).2;rw[z,tP] at this;cases this
 have ba:=g.ok.mod.kin bm ob b4;have hB:s1.heap.BuiltinsAt X.mg P:=⟨bm,ob,Bg g.ok.mod.kin g.ok.mod.glob b1,b2,b3,a2 _ _ ba,(g.bs _ _ ba).1,b5,b6,b7⟩;have de:mainGlobals≠P:=by obtain⟨o,es,ep,e,hd,_⟩:=g.ok.mod.glob;exact a2 _ _ e
 have a5:s1.heap.IsCell cell (some (.ref kk)):=by
  obtain⟨m,_,dg⟩:=g.loc;obtain⟨u,ru,lk⟩:=dg ik kx _ d0 hs (.inr (.inl bb));cases (show u=Value.ref kk from ru);rcases lk with⟨k1,_⟩|⟨_,c2,e2,dj⟩
  ·have k1:X.env.scope.names.lookup kx=some .local:=k1;rw[bb] at k1;cases k1
  ·rw[a3] at e2;cases e2;exact dj
 refine PySem.W.kla_eval bd ?_;rw[hq];have xr:∀(s2:Shared) (H2:Hp) (f j:Addr) (r pm:Value),qy X a1 σ H2 s2->s2.heap.get? f=some (PySem.W.kla_obj "<lambda>" q J (TS.keyBody kx px p1 p2 p3 p4 p5 x1) hQ [(kx,cell)] pm j r)->s2.heap.CodeRec (.ref j) q->s2.heap.IsCell cell (some (.ref kk))->
  (∀b u,b≠P->H1 b=some u->H2 b=some u)->oE H2 P q->(∀b,H2 b=none->H1 b=none)->
  wpAny (model X.prog X.w) X.A (do standAt pos;pure (Value.ref f)) (λv s'=>wpAny (model X.prog X.w) X.A (evalAll []) (λvs dp=>wpAny (model X.prog X.w) X.A (call (.builtin "sorted") [.ref l] ([Str.ofString "key"].zip (v::vs))) (EP X a1 σ Q) X.xe dp) X.xe s') X.xe s2:=by
  intro s2 H2 f j r pm I2 g1 g2 g3 g4 g5 g6;refine Aa (wpAny_standAt (Ak (wpAny_evalAll_nil ?_)));have lP:l≠P:=λz=>by rw[z,tP] at hl;cases hl
  have kP:kk≠P:=λz=>by rw[z,tP] at hk;cases hk
  refine vU (n:=n) (rks:=rks) I2 S hr g1 g2 g3 (λv=>hb _ _ _ _ _ _ v) (g4 _ _ lP hl) (g4 _ _ kP hk) hn hz λD qs hD dr pw=>?_;have bj:D≠P:=λz=>by obtain⟨dV,e2,_⟩:=g5;rw[z,e2] at hD;cases hD
  refine qq _ D qs (λb u n e=>?_) ?_ (g6 D hD) bj zq dr pw
  ·rw[qp (zy (g4 b u n e) hD)];exact g4 b u n e
  ·exact g5.keep (qp (AW bj)) λb o u e=>by rw[qp (zy e hD)];exact e
 cases hf:codeAmong U ag.toList with
 |some cv=>
  obtain⟨j,oc,vs,t,dv,f1,f2,f3⟩:=a4 U cv hf;subst dv;refine jm g.tk (PySem.W.kla_makeFunctionHit (mg:=X.mg) aL g.ok.glob bg bf bi bh tok hf hB λr h' tk bn e0 ht=>?_);have I2:qy X a1 σ H1 { s1 with heap:=h'.push { cls:=.type "function",data:=.func (PySem.W.kla_fn "<lambda>" q J (TS.keyBody kx px p1 p2 p3 p4 p5 x1) hQ [(kx,cell)] ((X.mg "__name__").getD .none) (.ref j) r) },toks:=tk }:=g.kept (t':=tk) λb o e=>As _ (bn b o e);obtain⟨al,_⟩:=I2.hok j _ f1;refine xr _ H1 _ j r _ I2 (Db _ rfl) ⟨j,oc,vs,t,rfl,al,f2,f3⟩ ?_ (λb u _ e=>e) ⟨ag,tP,tok,a4⟩ (λb e=>e);obtain⟨o,e1,e2⟩:=a5;exact⟨o,As _ (bn _ _ e1),e2⟩
 |none=>
  refine jm g.tk (PySem.W.kla_makeFunction (mg:=X.mg) aL g.ok.glob bg bf bi bh tok hf de hB λj r h' tk hx bp e3 cm dR ht=>?_);obtain⟨c2,oc,vs,t,e2,al,f2,f3⟩:=cm;cases e2;have I2:=g.tabbed (fo:=PySem.W.kla_obj "<lambda>" q J (TS.keyBody kx px p1 p2 p3 p4 p5 x1) hQ [(kx,cell)] ((X.mg "__name__").getD .none) j r) tP hx dR bp al ht;have nc:H1 j=none:=g.hok.fresh bp;have cP:j≠P:=λz=>by rw[z,tP] at nc;cases nc
  refine xr _ _ _ j r _ I2 (Db _ rfl) ⟨j,oc,vs,t,rfl,As _ al,f2,f3⟩ ?_ (λb u n e=>?_) ?_ (λb e=>?_)
  ·obtain⟨o,e1,e2⟩:=a5;have nP:cell≠P:=λz=>by have:=g.freeC kx cell a3;rw[z,tP] at this;cases this
   exact⟨o,As _ (hx _ _ nP e1),e2⟩
  ·rw[qp (zy e nc),qp n];exact e
  ·refine⟨ag++#[rawInt U.line,rawInt U.col,.ref j],by rw[qp (AW cP),zq],?_,λcy cv z=>?_⟩
   ·rw[Cw];exact m5 _ tok
   ·rw[Cw] at z;rcases re _ tok z with z|z
    ·obtain⟨d',od,dS,t',k1,k2,k3⟩:=a4 cy cv z;have nP:d'≠P:=λz=>by rw[z,tP] at k2;cases k2
     exact⟨d',od,dS,t',k1,by rw[qp (zy k2 nc),qp nP];exact k2,k3⟩
    ·exact⟨j,oc,vs,t,z,zq,f2,f3⟩
  ·by_cases d:b=j
   ·subst d;exact nc
   ·rw[qp d] at e;by_cases d2:b=P
    ·subst d2;rw[zq] at e;cases e
    ·rw[qp d2] at e;exact e
end L2
namespace L3
open PySem L2
def wX(Pt:Addr)(q:Str)(U:Nat)(te:x6)(τ:jh)(L:qm)(Q:YK):Prop:=te τ L λy L1=>match y with
 |.ref l=>bU L1 l λys=>∃(n:Nat) (rks:List Int) (J:Addr),ys=aN 0 n/\u7 τ U=some (.ref J)/\L1 J=some (.lst (rks.map Y.int))/\rks.length=n/\n<=63/\L1 Pt=some (.tb q)/\
  ∀(D:Addr) (I:List Nat),L1 D=none->I.Perm (List.range n)->(I.Pairwise λi j=>rks.getD i 0*1000000+(i:Int)<=rks.getD j 0*1000000+(j:Int))->Q (.ref D) (qg L1 D (.lst (I.map λi:Nat=>Y.int (i:Int))))
 |_=>False
theorem lV{G:G3}{H:Hp}:∀{l:List Nat} {xs:List V},x5 G H (l.map λi:Nat=>Y.int (0+(i:Int))) xs->xs=l.map λi:Nat=>V.int (0+(i:Int))
 |[],_,h=>h
 |_::_,_,⟨x,I,e,r,s⟩=>by subst e;cases r;rw[lV s];rfl
theorem eI{G:G3}{H:Hp}:∀{l:List Int} {xs:List V},x5 G H (l.map Y.int) xs->xs=l.map V.int
 |[],_,h=>h
 |_::_,_,⟨x,I,e,r,s⟩=>by subst e;cases r;rw[eI s];rfl
theorem oW{G:G3}{H:Hp}:∀I:List Nat,x5 G H (I.map λi:Nat=>Y.int (i:Int)) (I.map λi:Nat=>V.int (i:Int))
 |[]=>rfl
 |_::r=>⟨_,_,rfl,rfl,oW r⟩
theorem y7{I:Arguments}{U:Pos}{r:Nat}(hg:Gl X "sorted")(hm:X.mg "sorted"=none)(he:QE X e te)(S:TS.KeySc hQ kx px)(C:u5 X.K X.env.code Pt)(hr:X.A.depth+3<recursionLimit)
 (hq:X.env.qual ++ "<lambda>" = q) (t:X.N[r]?=some kx) (a1:X.env.scope.names.lookup kx=some .cell) (g:∃cell,X.env.cells.lookup kx=some cell/\closureFor hQ X.env=pure [(kx,cell)])
 (j:defaultsOf I X.env=([],[])) (hb:∀(name fx:Str) (cl:List (Str×Addr)) (pm cd ct v:Value),bindArgs (PySem.W.kla_fn name fx I (TS.keyBody kx px p1 p2 p3 p4 p5 x1) hQ cl pm cd ct) ⟨[v],[]⟩=pure [(px,v)])
 (h1:starEach [e] X.env=(false,eval e X.env)::starEach [] X.env:=by rfl) (h2:(backTo pos (starEach [e] X.env)).any (·.1)=false:=by rfl)
 (h3:backTo pos (starEach [e] X.env)=(false,eval e X.env)::backTo pos (starEach [] X.env):=by rfl):
 QE X (.Call (.Name "sorted" p) [e] [⟨some "key",.Lambda I (TS.keyBody kx px p1 p2 p3 p4 p5 x1) hQ U,ya⟩] pos) (wX Pt q r te):=
 DQ (yO hg hm he S C hr hq t a1 g j hb h1 h2 h3) λσ H Q τ L Q3 rs rl z k=>by
  refine⟨τ,L,_,rs,rl,z,λv H1 y L1 t1 J rv z=>?_⟩;cases y with
  |ref l=>
   obtain⟨ys,e1,n,a2,kk,rfl,e2,e3,hn,hz,eP,qq⟩:=x8 z;cases rv;obtain⟨xs,h1,r1⟩:=J l _ e1;obtain⟨xk,h2,r2⟩:=J kk _ e3;have T:oE H1 Pt q:=J Pt _ eP;cases lV r1;cases eI r2;obtain⟨v,hv,rv⟩:=rs.get r _ (lu _ _ e2);cases rv;refine⟨l,kk,n,a2,rfl,h1,hv,h2,hn,hz,T,λH2 D qs kp T2 hD a4 a3 pm pw=>?_⟩;have tb:∃o,H1 Pt=some (.tbl o):=let ⟨o,e,_⟩:=T;⟨o,e⟩;have t2:jc H1 H2:=λa u i h=>kp a u (λc=>by obtain⟨o,e⟩:=tb;rw[c,e] at h;cases h;cases i) h
   refine k _ _ _ _ (t1.trans t2) (λa u e=>?_) (by rfl) (qq D qs (J.none hD) pm pw);by_cases c:a=D
   ·subst c;rw[q8] at e;cases e;exact⟨_,a3,oW qs⟩
   ·rw[qd c] at e;by_cases d:a=Pt
    ·subst d;rw[eP] at e;cases e;exact T2
    ·obtain⟨x,hx⟩:=(J a u e).ex;exact(J a u e).keep t2 (by rw[hx];exact kp a x d hx)
  |_=>exact z.elim
structure ag2(K:Ae)(x fx:Str)(st:Stmt)(f:Addr)(fd:FuncData)(Pt:Addr):Prop where
 ex:∃(oc:Value) (od:Option Addr) (kV nC pm:Value) (an:Option Addr) (g7 ct:Value) (vb:Array (Option Value)),
  fd=PySem.W.fnOf x fx (xh st) (je st) (qr st) .none kV nC pm an g7 ct/\K.lookup f=some ⟨oc,od,.func fd,vb⟩/\PySem.W.codeIn K g7 fx=true/\u5 K g7 Pt
 kp:PySem.W.keepIn K (.ref f)=true
theorem ao3{P:Program}{w:World}{K:Ae}{N:List Str}{k:Nat}{sp:xm}(F:ag2 K x fx st f fd Pt)(S:kn N ps (qr st))(len:∀ys L Q,sp ys L Q->ys.length=ps.length)
 (I:∀(g7:Value) (A:Around) (outer:List Env) (s:Shared) (H:Hp) (E:XK),u5 K g7 Pt->k8 k (A.deeper (PyProof.Rows.envOfC fx (qr st) s.heap.objs.size f g7))->
  ∃t,mF (bq CX0 P w K mg base N fx (qr st) f g7 A outer s H E).nox (je st) t/\∀ys L Q,sp ys L Q->t { nx:=λ_ L'=>gE Q .non L',rt:=gE Q } (cR N ys) L):Fn3 P w K mg base (k+1) f fd ps sp:=by
 obtain⟨oc,od,kV,g,pm,an,g7,ct,j,rfl,lk,U,C⟩:=F.ex;have F0:Fun K x fx st f _:=⟨⟨oc,od,kV,g,pm,an,g7,ct,j,rfl,lk,U⟩,F.kp⟩;refine xM lk U S (λvs H Q E ⟨ys,L,l,o,rl,z,_⟩=>by rw[<-o.length];exact len ys L l z) λA outer s H vs Q E hr ⟨ys,L,l,o,rl,z,k⟩=>?_;obtain⟨t,ht,q⟩:=I g7 A outer s H E C hr;refine⟨_,fG.nox ht,cR N ys,L,_,fb o,rl,q ys L l z,?_⟩;exact⟨λσ p τ L' r a2 J ⟨L2,T,q2⟩=>k .non p .non L2 r (J.sub T) (by rfl) q2,λv p y L' r J a1 ⟨L2,T,q2⟩=>k v p y L2 r (J.sub T) a1 q2,λ_ _ _ _ _ _ _ z=>z.elim,λ_ _ _ _ _ _ _ z=>z.elim⟩
def mE(Pt:Addr)(q:Str):xm:=λys L Q=>∃I:List Int,ys=[.sq (I.map Y.int)]/\I.length<=63/\L=qg (λ_=>none) Pt (.tb q)/\∀L',Q (.bl true) L'
def spTopT(q:Str)(K:Ae)(Pt:Addr):Sp:=λvs H Q _=>∃(a:Addr) (I:List Int),vs=[.ref a]/\SqF K H a (I.map V.int)/\I.length<=63/\H Pt=some (.tbl #[])/\∀H',Q (.bl true) H'
theorem aej{vs:List V}{Q:VK}{E:XK}(h:spTopT q G.K Pt vs H Q E):dn G (mE Pt q) vs H Q E:=by
 obtain⟨a,I,rfl,J,U,g,z⟩:=h;refine⟨[.sq (I.map Y.int)],qg (λ_=>none) Pt (.tb q),λy _=>y=.bl true,x5.one ⟨a,_,rfl,J,oo I⟩,(λb u e=>?_),⟨I,rfl,U,rfl,λ_=>rfl⟩,?_⟩
 ·by_cases c:b=Pt
  ·subst c;rw[q8] at e;cases e;exact⟨#[],g,trivial,λpos o z=>by cases z⟩
  ·rw[qd c] at e;cases e
 ·rintro v j y p _ _ l rfl;cases l;exact z j
end L3
namespace L2
open PySem PySem.Spec PyProof.Rows
def lessK(Pt:Addr):Ae->Ae
 |[]=>[]
 |(a,o)::r=>if a==Pt then lessK Pt r else(a,o)::lessK Pt r
theorem jw{Pt a:Addr}(h:a≠Pt):∀K:Ae,(lessK Pt K).lookup a=K.lookup a
 |[]=>rfl
 |(b,o)::r=>by
  unfold lessK;by_cases c:(b==Pt)=true
  ·rw[AF c,jw h r,Bj];have:(a==b)=false:=by have I:=eq_of_beq c;subst I;exact DI h
   rw[this]
  ·rw[AD c,Bj,Bj,jw h r]
theorem xu{Pt:Addr}:∀K:Ae,(lessK Pt K).lookup Pt=none
 |[]=>rfl
 |(b,o)::r=>by
  unfold lessK;by_cases c:(b==Pt)=true
  ·rw[AF c];exact xu r
  ·rw[AD c,Bj];have:(Pt==b)=false:=by cases d:Pt==b with|false=>rfl|true=>exact absurd (beq_iff_eq.mpr (eq_of_beq d).symm) c
   rw[this];exact xu r
theorem i7{K:Ae}{o:Obj}(e:(lessK Pt K).lookup a=some o):a≠Pt/\K.lookup a=some o:=by
 by_cases c:a=Pt
 ·subst c;rw[xu] at e;cases e
 ·rw[jw c] at e;exact⟨c,e⟩
theorem lessK_in{K:Ae}(X:K.In h):(lessK Pt K).In h:=λa o e=>X a o (i7 e).2
structure afi(K:Ae)(Pt:Addr):Prop where
 tab:K.lookup Pt=some (PySem.W.tabObj #[])
 hd:∃c,∀h:Heap,K.In h->PySem.W.CodeHd h c Pt
 st:Pt≠cStatics
section
variable {K:Ae}(T:K.lookup Pt=some (PySem.W.tabObj #[]))
include T
theorem ns_dn{r:Option (Option Value)}(e:PySem.W.nsIn K a x=r):PySem.W.nsIn (lessK Pt K) a x=r:=by
 rw[<-e];unfold PySem.W.nsIn;by_cases c:a=Pt
 ·subst c;rw[xu,T]
 ·rw[jw c]
theorem lk_dn{o:Obj}(e:K.lookup a=some o)(n:o.cls≠.none):(lessK Pt K).lookup a=some o:=by
 rw[jw ?_]
 ·exact e
 ·rintro rfl;rw[T] at e;cases e;exact n rfl
theorem code_dn(e:PySem.W.codeIn K cd q=true):PySem.W.codeIn (lessK Pt K) cd q=true:=by
 unfold PySem.W.codeIn at e ⊢;split at e
 ·rename_i c;by_cases d:c=Pt
  ·subst d;rw[T] at e;simp at e
  ·rw[jw d];exact e
 ·cases e
theorem ai5{v:Value}:PySem.W.ownIn (lessK Pt K) x v=PySem.W.ownIn K x v:=by
 unfold PySem.W.ownIn;split
 ·rfl
 ·rename_i a;by_cases d:a=Pt
  ·subst d;rw[xu,T]
  ·rw[jw d];split
   ·exact ns_dn T rfl
   ·rfl
 ·rfl
theorem pX{x:Str}:∀l:List Value,PySem.W.alongIn (lessK Pt K) x l=PySem.W.alongIn K x l
 |[]=>rfl
 |c::r=>by unfold PySem.W.alongIn;rw[ai5 T,pX r]
theorem e9{v:Value}:PySem.W.findIn (lessK Pt K) v x=PySem.W.findIn K v x:=by
 unfold PySem.W.findIn;split
 ·rfl
 ·rename_i a;by_cases d:a=Pt
  ·subst d;rw[xu,T]
  ·rw[jw d];split
   ·exact pX T _
   ·rfl
 ·rfl
theorem rD(n:a≠Pt):PySem.W.specialIn (lessK Pt K) (.ref a) x=PySem.W.specialIn K (.ref a) x:=by unfold PySem.W.specialIn PySem.W.typeIn;dsimp only;rw[jw n];congr 1;funext t;exact e9 T
theorem keep_dn{f:Value}(e:PySem.W.keepIn K f=true):PySem.W.keepIn (lessK Pt K) f=true:=by
 unfold PySem.W.keepIn at e ⊢;split at e
 ·rename_i a;by_cases d:a=Pt
  ·subst d;rw[T] at e;simp at e
  ·rw[jw d,rD T d];exact e
 ·cases e
end
theorem ur{P:Program}{w:World}{K:Ae}{mb:Str->Option Value}{CX:tI}{k:Nat}{I:Shared}{T:List Int}
 (KX:K.In I.heap) (TI:afi K Pt) (a1:I.heap.Ns mainGlobals mg) (hb:I.heap.Ns builtinsNs mb) (aL:∀x:Str,x ≠ "__name__" -> mb x=bootBuiltins x) (a2:I.heap.NoLimit) (hg:I.gens=#[]) (ba:0<I.toks)
 (p:I.heap.get? a=some { cls:=.type "list",data:=.seq vs.toArray }) (hi:IntsAre vs T) (hl:T.length<=sizeLine) (hr:k8 k callerA)
 (F:∀base:Heap,(lessK Pt K).In base->base.Ns mainGlobals mg->aW P w (lessK Pt K) mg base CX k fa fd [x] sp) (l:∀(s:Shared) (u:Value),BindsTo s fd ⟨[u],[]⟩ [(x,u)])
 (bb:∀H:Hp,H Pt=some (.tbl #[])->(H a=none\/∃o xs,H a=some (.frz o (.lst xs)))->aH (lessK Pt K) H a (T.map V.int)->sp [.ref a] H (λv _=>v=.bl true) λ_ _ _=>False)
 (bc:∀H e s',CX [] H I (λ_ _ _=>False) e s'->False):
 codeAny (model P w) callerA (.call (.ref fa) ⟨[.ref a],[]⟩) (λr s'=>r=.ok (.ret (.bool true))/\OldK I.heap s'.heap/\s'.os=I.os/\AllBare s'.gens) I:=by
 have rv:=lC hi;have a3:=hi.length;have hP:I.heap.get? Pt=some (PySem.W.tabObj #[]):=KX Pt _ TI.tab;have U:a≠Pt:=λz=>by rw[z,hP] at p;cases p
 have core:∀H:Hp,H Pt=some (.tbl #[])->(∀b,b≠a->b≠Pt->H b=none)->(H a=none\/∃o xs,H a=some (.frz o (.lst xs)))->aH (lessK Pt K) H a (T.map V.int)->(∀u,H a=some u->x4 P w H I.heap a u)->(H a≠none->K.lookup a=none)->
  codeAny (model P w) callerA (.call (.ref fa) ⟨[.ref a],[]⟩) (λr s'=>r=.ok (.ret (.bool true))/\OldK I.heap s'.heap/\s'.os=I.os/\AllBare s'.gens) I:=by
  intro H HP Hn HO HS a4 bd;have a5:cH P w H I.heap:=λb u e=>by
   by_cases c:b=a
   ·subst c;exact a4 u e
   ·by_cases d:b=Pt
    ·subst d;rw[HP] at e;cases e;exact hP
    ·rw[Hn b c d] at e;cases e
  have J:∀{b:Addr} {o:Obj},I.heap.get? b=some o->H b=none->(oM I.heap H).get? b=some o:=λe n=>yx e n;have bf:∀{b:Addr} {o:Obj} {t:Array DictEntry} {C:Nat},I.heap.get? b=some o->o.data=.dict t C->H b=none:=λ{b o t C} e d=>by
   refine Hn b (λz=>?_) λz=>?_
   ·subst z;rw[p] at e;cases e;have d':Data.seq vs.toArray _=Data.dict t C:=d;cases d'
   ·subst z;rw[hP] at e;cases e;have d':Data.fields _=Data.dict t C:=d;cases d'
  have g:∀{b:Addr} {m:Str->Option Value},I.heap.Ns b m->(oM I.heap H).Ns b m:=λ{b m} ⟨o,t,C,e,d,r⟩=>⟨o,t,C,J e (bf e d),d,r⟩;have ag:(lessK Pt K).In (oM I.heap H):=λb o e=>by
   obtain⟨n,e⟩:=i7 e;refine J (KX b o e) ?_;by_cases c:b=a
   ·subst c;cases q:H b with|none=>rfl|some u=>rw[bd (by rw[q];simp)] at e;cases e
   ·exact Hn b c n
  have hM:Mod (lessK Pt K) mg (oM I.heap H):=⟨ag,g a1,⟨mb,g hb,aL⟩,let ⟨mc,h1,h2⟩:=a2;⟨mc,g h1,h2⟩⟩;have e0:abh P w (lessK Pt K) mg (oM I.heap H) callerA [] I H:=⟨rfl,hM,λb o e=>abi e,Nat.le_of_eq (uP _ _),trivial,λb hb=>absurd (show b∈([]:List Addr) from hb) (by simp),a5,.of_eq hg,ba⟩;refine codeAny_mono ((F _ ag (g a1)).run callerA [] I H ⟨[.ref a],[]⟩ [.ref a] [.ref a] _ _ hr e0 (l I (.ref a)) (.cons rfl .nil) (bb H HP HO HS)) λr s' h=>?_;cases r with
  |error e=>exact(bc H e s' h).elim
  |ok fl=>
   cases fl with
   |next=>exact False.elim h
   |brk=>exact False.elim h
   |cont=>exact False.elim h
   |ret u=>
    obtain⟨v,H',os,bare,un,j,r',q,_⟩:=h;have q':v=.bl true:=q;subst q';obtain rfl:u=Value.bool true:=r';obtain⟨more,em⟩:=un.tbls Pt _ HP;have gP:s'.heap.get? Pt=some (PySem.W.tabObj (#[]++more)):=j Pt _ em;have kp:∀b o,b≠Pt->I.heap.get? b=some o->s'.heap.get? b=some o:=λb o n e=>by
     have al:H b=none->s'.heap.get? b=some o:=λz=>un.keep b o e z (by intro z;exact absurd (show b∈([]:List Addr) from z) (by simp)) (by simp);by_cases c:b=a
     ·subst c;rcases HO with z|⟨ob,xs,z⟩
      ·exact al z
      ·have z2:=un.frzs _ _ _ z;obtain⟨e1,_⟩:=a5 _ _ z;obtain⟨e2,_⟩:=j _ _ z2;rw[e] at e1;cases e1;exact e2
     ·exact al (Hn b c n)
    obtain⟨c,hc⟩:=TI.hd;refine⟨rfl,⟨λb o e=>?_,λb o e=>?_⟩,os,bare⟩
    ·by_cases n:b=Pt
     ·subst n;rw[hP] at e;cases e;exact .inr (.inl ⟨((hc _ KX).tab hP).isCodeTable,rfl,#[],more,rfl,gP⟩)
     ·exact .inl (kp b o n e)
    ·by_cases n:b=Pt
     ·subst n;exact⟨_,gP⟩
     ·exact⟨o,kp b o n e⟩
 cases hk:K.lookup a with
 |some o=>
  have e:=KX a o hk;rw[p] at e;cases e;refine core (λb=>if b=Pt then some (.tbl #[]) else none) (AF rfl) (λb _ n=>AD n) (.inl (AD U)) (.inr ⟨_,vs.toArray,_,(jw U K).trans hk,rfl,rfl,rfl,by rw[An,a3];exact hl,by simpa using rv⟩) (λu z=>by have z':=(AD U).symm.trans z;cases z') λz=>absurd (AD U) z
 |none=>
  refine core (λb=>if b=a then some (.frz { cls:=.type "list",data:=.seq vs.toArray } (.lst (T.map V.int))) else if b=Pt then some (.tbl #[]) else none) ((AD (AW U)).trans (AF rfl)) (λb n1 n2=>(AD n1).trans (AD n2)) (.inr ⟨_,_,AF rfl⟩) (.inl (.inr ⟨_,AF rfl⟩)) (λu z=>?_) λ_=>hk;have z':=(AF rfl).symm.trans z;cases z';exact⟨p,by rw[Ab];exact hl,vs,_,rv,p⟩
theorem walk_ofZT{l:PySem.W.OpenLaw}{k:Nat}{q:Program}{loose:List Str}{XP:(Str->Option Value)->Heap->Prop}{as0:List Addr}{N t:Nat}{d:DefRec}{K:Params->Ae}{CX:tI}{sp:Ae->Addr->Sp}
 (hn:l.most=some n) (r:n<=sizeLine) (C:d.params.defaults=[]) (hr:k8 k callerA) (ek:∀P,as0=(K P).map (·.1)) (a1:0<t)
 (F:∀(w:World) (mg:Str->Option Value) (fa:Addr) (h:Heap),(K w.params).In h->h.Ns mainGlobals mg->mg d.name=some (.ref fa)->
  ∃Pt:Addr,afi (K w.params) Pt/\∃fd:FuncData,(∀(s:Shared) (u:Value),BindsTo s fd ⟨[u],[]⟩ [(x,u)])/\
   ∀base:Heap,(lessK Pt (K w.params)).In base->base.Ns mainGlobals mg->aW l.prog w (lessK Pt (K w.params)) mg base CX k fa fd [x] (sp (lessK Pt (K w.params)) Pt))
 (a2:∀(K:Ae) (Pt:Addr) (H:Hp) (a:Addr) (p:List Int),p.length<=n->H Pt=some (.tbl #[])->(H a=none\/∃o xs,H a=some (.frz o (.lst xs)))->aH K H a (p.map V.int)->sp K Pt [.ref a] H (λv _=>v=.bl true) λ_ _ _=>False)
 (a3:∀(H:Hp) (s:Shared) (e:Value) (s':Shared),CX [] H s (λ_ _ _=>False) e s'->False):
 PySem.W.WalkX q loose XP (PySem.W.X.obsZ as0) (PySem.W.X.valZ K N t) l.row.toRowW d [] (λf vs=>PySem.call f vs):=by
 refine Att.attach_callZ hn C ek a1 λw a5 U mg mb fa o pm cd ag a vs p G KX tk ho hd al a4 j J I hg=>?_;obtain⟨Pt,TI,fd,hb,hF⟩:=F w mg fa _ KX G.T.g a4;exact ur KX TI G.T.g G.T.b G.T.builtins G.T.nolimit hg tk j J (AI I r) hr hF hb (λH hP hO hS=>a2 _ Pt H a p I hP hO hS) λH e s'=>a3 H U e s'
end L2
namespace L3
open PySem L2
theorem top_startT :∀(K:Ae) (Pt:Addr) (H:Hp) (a:Addr) (I:List Int),I.length<=63->H Pt=some (.tbl #[])->(H a=none\/∃o xs,H a=some (.frz o (.lst xs)))->aH K H a (I.map V.int)->spTopT q K Pt [.ref a] H (λv _=>v=.bl true) λ_ _ _=>False:=by
 intro K Pt H a I J U g j;refine⟨a,I,rfl,?_,J,U,λ_=>rfl⟩;rcases j with(h|⟨o,h⟩)|h
 ·rcases g with z|⟨o,xs,z⟩<;>rw[h] at z<;>cases z
 ·exact .inl ⟨o,h⟩
 ·exact .inr h
structure DefInT(K:Ae)(x:Str)(st:Stmt)(Pt:Addr):Prop where
 ex:∃(f:Addr) (kV nC pm:Value) (an:Option Addr) (g7 ct:Value),PySem.W.nsIn K mainGlobals x=some (some (.ref f))/\ag2 K x x st f (PySem.W.fnOf x x (xh st) (je st) (qr st) .none kV nC pm an g7 ct) Pt
theorem DefInT.use{K:Ae}(D:DefInT K x st Pt)(X:K.In h)(G:h.Ns mainGlobals mg)
 (I:∀(kV nC pm:Value) (an:Option Addr) (g7 ct:Value) (us:List Value),us.length=ps.length->bindArgs (PySem.W.fnOf x x (xh st) (je st) (qr st) .none kV nC pm an g7 ct) ⟨us,[]⟩=pure (ps.zip us)):
 ∃f fd,ag2 K x x st f fd Pt/\bz K fd ps []/\mg x=some (.ref f):=by
 obtain⟨f,kV,nC,pm,an,g7,ct,a,F⟩:=D.ex;exact⟨f,_,F,.all (I kV nC pm an g7 ct),Bg X G a⟩
end L3
namespace L2
open PySem PySem.Spec PyProof.Rows
section
variable {n9:St}
end
end L2
namespace L3
open PySem L2
theorem ahv:bootBuiltins "min"=some (.builtin "min"):=by decide +kernel
def vJ(x:Y)(lo hi:Option Int)(L:qm)(Q:YK):Prop:=match x with
 |.tup ys=>¬(HT.sIx ys.length 0 lo=0/\HT.sIx ys.length ys.length hi=ys.length)/\Q (.tup (eM ys lo hi)) L
 |_=>False
theorem o4(K:Ae)(P:Program)(w:World)(U:X.K=K:=by rfl)(g:X.prog=P:=by rfl)(hw:X.w=w:=by rfl):oO X (ad3 ⟨K,P,w⟩ vJ):=by
 subst U g hw;refine oO.imp ahm λx lo J H Q ⟨y,L,Q3,j,l,z,k⟩=>?_;cases y with
 |tup o=>
  obtain⟨a,t,e,sq,r⟩:=j;obtain⟨C,T⟩:=z;exact⟨a,t,e,sq,by rw[<-r.length];exact C,λp I=>k _ _ (.tup (eM o lo J)) L (DP I) (l.skip I) ⟨p,_,rfl,.inl (.inl zq),(mO r lo J).ts (DP I)⟩ T⟩
 |_=>exact z.elim
theorem sN{keep:qm->Prop}(h:∀H L,jc H₀ H->zx G H L->keep L->∃xs,cG G.K H a xs/\x5 G H ys xs):dq G H₀ (Itt G.K a) ys keep where
 go:=λi H L t I J U=>by
  obtain⟨xs,sq,r⟩:=h H L t I J;have:i<xs.length:=by rw[<-r.length];exact U
  exact⟨xs,xs[i],sq,Aj this⟩
 yld:=λi H L x o y t I J g ⟨e,f⟩=>by subst e;obtain⟨xs,sq,r⟩:=h _ L t I J;obtain⟨p,j,l⟩:=r.get g;have:=f xs sq;rw[j] at this;cases this;exact⟨DO _,I,l⟩
 stop:=λH L t I J=>by obtain⟨xs,sq,r⟩:=h H L t I J;exact⟨xs,sq,by rw[r.length];exact Al _⟩
theorem aau(h:QE X e te):QI X tg e (xL te):=PI.imq (aif h) λσ H R j L R3 l o z k=>by
 refine⟨j,L,_,l,o,z,λv p y C T I J U=>?_⟩;cases y with
 |tup ys=>
  obtain⟨a,g,e,sq,r⟩:=J;exact⟨a,e,⟨g,sq⟩,k _ p ys (λ_=>True) C T I (sN λH L t _ _=>⟨g,cG.ts sq t,r.ts t⟩) U⟩
 |_=>exact U.elim
theorem dp3{k:Nat}(I:k8 k A):A.depth+3<recursionLimit:=by have:=I.dp;omega
abbrev lamQ:Str:="_law_order.<locals>.<lambda>"
open PySem L2 Words
def OkO(ks:List (Option Kn)):Prop:=∀(p:Nat) (e:Bool) (i j:Nat),ks[p]?=some (some (.nd e i j))->i<p/\j<p
def ue(ks:List (Option Kn))(rks:List Int):Prop:=∀(p:Nat) (e:Bool) (i j:Nat),p<rks.length->ks[p]?=some (some (.nd e i j))->rks.getD i 0<rks.getD p 0/\rks.getD j 0<rks.getD p 0
theorem i6{r:Int}(h:i<rks.length):(rks++[r]).getD i 0=rks.getD i 0:=by rw[A7,A7,AE h]
theorem yA{r:Int}:(rks++[r]).getD rks.length 0=r:=by rw[A7,Ax (Al _),C6];rfl
theorem ue.snoc{ks:List (Option Kn)}{r:Int}{k:Option Kn}(ok:OkO ks)(h:ue ks rks)(U:ks[rks.length]?=some k)(g:∀e i j,k=some (.nd e i j)->rks.getD i 0<r/\rks.getD j 0<r):ue ks (rks++[r]):=by
 intro p e i j I J;obtain⟨l,o⟩:=ok p e i j J;rw[Ad] at I;have I:p<rks.length+1:=I;rw[i6 (show i<rks.length by lia),i6 (show j<rks.length by lia)];by_cases c:p<rks.length
 ·rw[i6 c];exact h p e i j c J
 ·have:p=rks.length:=by lia
  subst this;rw[yA];exact g e i j (AN (U.symm.trans J))
def bX(ks:List (Option Kn))(I:List Nat):Prop:=I.Pairwise λx y=>∀e i j,ks[x]?=some (some (.nd e i j))->y≠i/\y≠j
theorem zW{ks:List (Option Kn)}{I:List Nat}(ok:OkO ks)(h:ue ks rks)(J:rks.length=ks.length)(hw:I.Pairwise λi j=>rks.getD i 0*1000000+(i:Int)<=rks.getD j 0*1000000+(j:Int)):bX ks I:=by refine hw.imp λ{x y} z e i j ex=>?_;obtain⟨U,g⟩:=ok x e i j ex;obtain⟨l,o⟩:=h x e i j (by rw[J];exact xq ex) ex;exact⟨λc=>by subst c;lia,λc=>by subst c;lia⟩
theorem qA(h:i<rks.length):(rks.map Y.int)[i]?=some (.int (rks.getD i 0)):=by rw[Am,A7,Aj h];rfl
def zH:ke:=(qw (zk (vm "abcdefghijklmnopqrstuvwxyz") (qf 2))
 (qw (zk (zc zu (zr 1) (zc vi (qa 0) (zr 8))) (qf 3))
 (qw (zk (zc vi (zc aF (qa 0) (zr 8)) (qa 3)) (qf 4))
 (qw (zk (yBS sk (vm "") (q9 (oQ 1 (rh (k7 (zr 8))) (qf 7) mL (zc cJ (qa 2) (zc vi (zc zu (zc aF (qa 0) (zr 64)) (zc zV (zr 3) (qa 7))) (zr 26)))) qu)) (qf 5))
 (qw (xz (eU (zc vi (zc aF (qa 0) (zr 64)) (zr 3)) (zr 1)) (jx (uK oX (qa 5) w4 (aX (zc zu (zr 1) (zc vi (zc zu (qa 1) (qa 0)) (zr 3)))))) xc)
 (qw (zk (zc cJ (qa 2) (zc vi (zc zu (zc zu (zc aF (qa 0) (zr 64)) (zc zV (zr 3) (qa 4))) (qa 1)) (zr 26))) (qf 6))
 (jx (zc zu (zc zu (uK oX (qa 5) w4 (aX (qa 4))) (qa 6)) (uK oX (qa 5) (aX (zc zu (qa 4) (zr 1))) (aX (qa 3)))))))))))
def cg(i:Int):Nat:=97+(i % 26).toNat
theorem uH(i:Int):dz ("abcdefghijklmnopqrstuvwxyz" : Str).cps.toList (i % 26)=some (cg i):=by
 obtain⟨n,I⟩:∃n:Nat,i % 26=n:=⟨(i % 26).toNat,by lia⟩;have h:n<26:=by lia
 unfold cg;rw[I];have key:∀n,n<26->("abcdefghijklmnopqrstuvwxyz" : Str).cps.toList[n]?=some (97+n):=by decide +kernel
 exact zv (key n h)
theorem uI(i:Int):97<=cg i/\cg i<=122:=by unfold cg;lia
def cA(s:Int):List Nat:=(List.range 8).map λk:Nat=>cg (s / 64+3*(k:Int))
theorem iy(s:Int):(cA s).length=8:=by unfold cA;simp
theorem jW(s:Int):∀c∈cA s,97<=c/\c<=122:=λc I=>by obtain⟨k,_,rfl⟩:=AR.mp I;exact uI _
def lJ(s:Int):Nat:=(s / 8 % (1+s % 8)).toNat
def szN(s:Int):Nat:=(1+s % 8).toNat
theorem afa(s:Int):lJ s<szN s/\szN s<=8/\s / 8 % (1+s % 8)=(lJ s:Int)/\1+s % 8=(szN s:Int):=by
 have h0:0<1+s % 8:=by lia
 have h1:0<=s / 8 % (1+s % 8):=DK _ (by lia);have h2:s / 8 % (1+s % 8)<1+s % 8:=Int.emod_lt_of_pos _ h0;unfold lJ szN;lia
def aC(s w:Int):List Nat:=
 if s / 64 % 3=1 then(cA s).take (1+(w+s) % 3).toNat
 else((cA s).take (lJ s)++[cg (s / 64+3*(lJ s:Int)+w)])++((cA s).drop (lJ s+1)).take (szN s-(lJ s+1))
theorem pB(s w:Int):bw (mkS (aC s w)):=by
 have I:(mkS (aC s w)).length=(aC s w).length:=by rw[<-Txs.len_list];show(aC s w).toArray.toList.length=_;simp
 have J:(mkS (aC s w)).cps.toList=aC s w:=by show(aC s w).toArray.toList=_;simp
 have U:=iy s;obtain⟨g,j,_,_⟩:=afa s;refine⟨?_,?_,?_⟩
 ·rw[I];unfold aC;split
  ·rw[AY];omega
  ·rw[Ad,Ad];simp;simp +arith only
 ·rw[I];unfold aC;split
  ·rw[AY];omega
  ·rw[Ad,Ad,AY,AY,B1];simp;lia
 ·rw[J];intro c h;unfold aC at h;split at h
  ·exact jW s c (BS h)
  ·rcases Ao.mp h with h|h
   ·rcases Ao.mp h with h|h
    ·exact jW s c (BS h)
    ·rw[Ag.mp h];exact uI _
   ·exact jW s c (List.mem_of_mem_drop (BS h))
def ij:xm:=λys L Q=>∃s w:Int,ys=[.int s,.int w]/\Q (.str (mkS (aC s w))) L
theorem vA(h:m<=n)(h2:n<=x.length):(Txt.slice x (some (m:Int)) (some (n:Int))).cps.toList=(x.cps.toList.drop m).take (n-m):=by have e:=ft x (some (m:Int)) (some (n:Int));rw[HT.sIx_nat,HT.sIx_nat,BL h2,BL (AI h h2)] at e;exact e
theorem lM(h:n<=x.length):(Txt.slice x none (some (n:Int))).cps.toList=x.cps.toList.take n:=by have e:=ft x none (some (n:Int));rw[HT.sIx_nat,HT.sIx_none,C9,Nat.sub_zero,BL h] at e;exact e
theorem ym:∀ys L Q,ij ys L Q->v0 zH 7 ys L Q:=by
 rintro ys L Q ⟨s,w,rfl,q⟩;have j:0<1+s % 8:=by lia
 refine⟨(by decide:(0:Int)<8),⟨by decide,by decide⟩,j,⟨by decide,by decide⟩,?_⟩;show lcK (aN 0 8) _ _ _ _ _ _ _ _;refine afk (m:=8) (λi zs=>zs=((List.range i).map λk:Nat=>Y.str ⟨#[cg (s / 64+3*(k:Int))]⟩)) (by decide) rfl ?_ ?_
 ·rintro i _ hi rfl;have I:=uH (s / 64+3*(0+(i:Int)));refine⟨⟨by decide,by decide⟩,.inl ⟨by decide,by decide⟩,(by decide:(0:Int)<26),by decide +kernel,?_⟩;walk_at "w";rw[I];refine⟨_,DN _,rfl,?_⟩;rw[List.range_succ,Ai,show(0:Int)+(i:Int)=(i:Int) by simp +arith only];rfl
 ·rintro _ rfl p t;have e0:((List.range 8).map λk:Nat=>Y.str ⟨#[cg (s / 64+3*(k:Int))]⟩)=((cA s).map λc=>(⟨#[c]⟩:Str)).map Y.str:=by unfold cA;rw[Bs,Bs];rfl
  rw[e0];refine qz q8 ⟨(cA s).map λc=>(⟨#[c]⟩:Str),rfl,?_,?_⟩
  ·have J:∀U:List Nat,((U.map λc=>(⟨#[c]⟩:Str)).map (·.length)).sum=U.length:=λU=>by induction U with|nil=>rfl|cons c r ih=>rw[AA,AA,List.sum_cons,ih,AJ];show 1+r.length=_;exact Nat.add_comm _ _
   rw[J,iy];show 8+_*0<=_;rw[Nat.mul_zero];decide
  ·have g:=xP (cA s);have l:(Txt.join "" ((cA s).map λc=>(⟨#[c]⟩:Str))).length=8:=by rw[<-Txs.len_list,g,iy]
   generalize Txt.join "" ((cA s).map λc=>(⟨#[c]⟩:Str))=base at l g;obtain⟨p1,p2,o,C⟩:=afa s;refine⟨⟨by decide,by decide⟩,(by decide:(0:Int)<3),?_⟩;refine jd (λc=>?_) λc=>?_
   ·have e:1+(w+s) % 3=((1+(w+s) % 3).toNat:Int):=by lia
    refine⟨(by decide:(0:Int)<3),small (by lia),cU (By t) ?_⟩;have es:=lM (x:=base) (n:=(1+(w+s) % 3).toNat) (by lia);have eq:Txt.slice base none (some (1+(w+s) % 3))=mkS (aC s w):=by rw[e];refine(sv _).symm.trans ?_;rw[es,g];unfold aC;rw[AF c]
    rw[<-eq] at q;exact q
   ·have I:=uH (s / 64+3*(s / 8 % (1+s % 8))+w);refine⟨⟨by decide,by decide⟩,.inl ⟨by decide,by decide⟩,(by decide:(0:Int)<26),by decide +kernel,?_⟩;walk_at "w";rw[I];have T:=lM (x:=base) (n:=lJ s) (by lia);have s2:=vA (x:=base) (m:=lJ s+1) (n:=szN s) (by assumption) (by lia);have l1:(Txt.slice base none (some (lJ s:Int))).length=lJ s:=by rw[<-Txs.len_list,T,AY,Txs.len_list];lia
    have l2:(Txt.slice base (some ((lJ s+1:Nat):Int)) (some (szN s:Int))).length<=8:=by rw[<-Txs.len_list,s2,AY];lia
    refine⟨small (by lia),?_⟩;refine⟨small (by rw[o,l1];show lJ s+1<=1000;lia),?_⟩;refine⟨small (by lia),?_⟩;have J:((lJ s:Int)+1)=((lJ s+1:Nat):Int):=by rfl
    have l3:(Txt.slice base none (some (lJ s:Int))++(⟨#[cg (s / 64+3*(s / 8 % (1+s % 8))+w)]⟩:Str)).length=lJ s+1:=by rw[PySem.Str.length_append,l1];rfl
    refine⟨small ?_,cU (By t) ?_⟩
    ·rw[o] at l3 ⊢;rw[l3,J,C];lia
    ·have eq:(Txt.slice base none (some (lJ s:Int))++(⟨#[cg (s / 64+3*(lJ s:Int)+w)]⟩:Str))++Txt.slice base (some ((lJ s+1:Nat):Int)) (some (szN s:Int))=mkS (aC s w):=by
      refine(sv _).symm.trans ?_;have ca:∀a b:Str,(a++b).cps.toList=a.cps.toList++b.cps.toList:=λa b=>by show(a.cps++b.cps).toList=_;simp
      rw[ca,ca,T,s2,g];unfold aC;rw[AD c]
     rw[o,J,C,eq];exact q
theorem acg(t t':Bool)(n I:Str):Da.eq (mI (.leaf t n)) (mI (.leaf t' I))=(decide (t=t')&&decide (n=I)):=by
 by_cases h:n=I
 ·subst h;cases t<;>cases t'<;>simp[mI,Da.eq,Da.eqs,iL,kL]<;>decide +kernel
 ·cases t<;>cases t'<;>simp[mI,Da.eq,Da.eqs,iL,kL,h]<;>decide +kernel
theorem gL{α β:Type}(f:α->β):∀(l:List α) (n:Nat),(l.map f).eraseIdx n=(l.eraseIdx n).map f
 |[],n=>by simp
 |_::_,0=>rfl
 |x::r,n+1=>by rw[AA,B3,B3,AA,gL f r n]
theorem wf(a:j7)(b:Y)(r:List (j7×Y))(k:j7):xt ((a,b)::r) k=if a=k then some b else xt r k:=by
 unfold xt;rw[Bd];by_cases h:a=k
 ·rw[AF h,show decide ((a,b).1=k)=true from AV h];rfl
 ·rw[AD h,show decide ((a,b).1=k)=false from Az h]
theorem o6(k I:j7)(y:Y):∀kvs:List (j7×Y),xt (kvs.map λJ=>if J.1=k then(J.1,y) else J) I=if I=k then(xt kvs I).map (λ_=>y) else xt kvs I
 |[]=>by rw[CC];split<;>rfl
 |(a,b)::r=>by
  have U:=o6 k I y r;rw[AA,wf];by_cases h:a=k
  ·rw[AF (show(a,b).1=k from h),wf,U];by_cases h2:I=k
   ·rw[AF h2,AF h2,AF (h.trans h2.symm),AF (h.trans h2.symm)];rfl
   ·rw[AD h2,AD h2,AD (λz=>h2 (z.symm.trans h)),AD (λz=>h2 (z.symm.trans h))]
  ·rw[AD (show ¬(a,b).1=k from h),wf,U];by_cases h2:I=k
   ·rw[AF h2,AF h2,AD (λz=>h (z.trans h2)),AD (λz=>h (z.trans h2))]
   ·rw[AD h2,AD h2]
theorem oZ(k I:j7)(y:Y):∀kvs:List (j7×Y),xt (kvs++[(k,y)]) I=(xt kvs I).or (if k=I then some y else none)
 |[]=>by rw[Co,wf];have:xt [] I=none:=rfl;rw[this];split<;>rfl
 |(a,b)::r=>by rw[CS,wf,wf,oZ k I y r];split<;>rfl
theorem pH(k:j7):∀kvs:List (j7×Y),(kvs.any λI=>decide (I.1=k))=(xt kvs k).isSome
 |[]=>rfl
 |(a,b)::r=>by
  rw[BU,wf,pH k r];by_cases h:a=k
  ·rw[AF h,show decide ((a,b).1=k)=true from AV h];rfl
  ·rw[AD h,show decide ((a,b).1=k)=false from Az h];rfl
theorem qP(kvs:List (j7×Y))(k I:j7)(y:Y):xt (bH kvs k y) I=if I=k then some y else xt kvs I:=by
 unfold bH;rw[pH];cases e:xt kvs k with
 |some v=>
  rw[AF (show(some v).isSome=true from rfl),o6];by_cases h:I=k
  ·rw[AF h,AF h,h,e];rfl
  ·rw[AD h,AD h]
 |none=>
  rw[AD (by simp),oZ];by_cases h:I=k
  ·rw[AF h,h,e,AF rfl];rfl
  ·rw[AD h,AD (λz=>h z.symm)];cases xt kvs I<;>rfl
theorem cW(kvs:List (j7×Y))(k:j7)(y:Y):(bH kvs k y).length<=kvs.length+1:=by
 unfold bH;split
 ·rw[Ab];omega
 ·rw[Ad];simp
def gB(f:Nat->Nat):Option Kn->Option Kn
 |some (.nd e i j)=>some (.nd e (f i) (f j))
 |k=>k
theorem rH{f g:Nat->Nat}:∀{k:Option Kn},(∀e i j,k=some (.nd e i j)->f i=g i/\f j=g j)->gB f k=gB g k
 |none,_=>rfl
 |some (.lf _ _),_=>rfl
 |some (.nd e i j),h=>by obtain⟨a,b⟩:=h e i j rfl;show some (Kn.nd e (f i) (f j))=some (Kn.nd e (g i) (g j));rw[a,b]
structure zU(ks:List (Option Kn))(ps:List Nat)(f:Nat->Nat)(wd:List (Option Kn)):Prop where
 at_:∀p∈ps,∀k,ks[p]?=some k->wd[f p]?=some (gB f k)
 inj:∀p∈ps,∀q∈ps,f p=f q->p=q
 only:∀x k,wd[x]?=some (some k)->∃p∈ps,x=f p
 ok:OkO wd
theorem zU.nil(ks:List (Option Kn))(f:Nat->Nat):zU ks [] f []:=⟨λp I=>(B6 I).elim,λp I=>(B6 I).elim,λx k h=>(by simp at h),λp e i j h=>(by simp at h)⟩
theorem zU.lt{ks:List (Option Kn)}{ps:List Nat}{f:Nat->Nat}(h:zU ks ps f wd){p:Nat}(I:p∈ps)(J:p<ks.length):f p<wd.length:=xq (h.at_ p I _ (Aj J))
theorem zU.step{ks:List (Option Kn)}{ps:List Nat}{f:Nat->Nat}(h:zU ks ps f wd)(r:∀p∈ps,p<ks.length){p:Nat}{k:Option Kn}(C:p∉ps)(T:ks[p]?=some k)(o:∀x∈ps,∀e i j,ks[x]?=some (some (.nd e i j))->i∈ps/\j∈ps)(J:∀e i j,k=some (.nd e i j)->i∈ps/\j∈ps):
 zU ks (ps++[p]) (λx=>if x=p then wd.length else f x) (wd++[gB f k]):=by
 have old:∀x∈ps,(if x=p then wd.length else f x)=f x:=λx I=>AD λ(c:x=p)=>C (c▸I);have ren:∀l,(∀e i j,l=some (.nd e i j)->i∈ps/\j∈ps)->gB (λx=>if x=p then wd.length else f x) l=gB f l:=λl U=>rH λe i j z=>by obtain⟨a,b⟩:=U e i j z;exact⟨old i a,old j b⟩
 refine⟨λx I l U=>?_,λx I y g e=>?_,λx l I=>?_,λx e i j I=>?_⟩
 ·rcases Ao.mp I with I|I
  ·show(wd++[gB f k])[if x=p then wd.length else f x]?=_;rw[old x I,ren l λe i j z=>o x I e i j (by rw[U,z])];exact jB (h.at_ x I l U)
  ·have I:=Ag.mp I;subst I;rw[T] at U;cases U;show(wd++[gB f k])[if x=x then wd.length else f x]?=_;rw[AF rfl,ren k J];exact cO wd _ []
 ·have e:(if x=p then wd.length else f x)=if y=p then wd.length else f y:=e
  rcases Ao.mp I with I|I<;>rcases Ao.mp g with g|g
  ·rw[old x I,old y g] at e;exact h.inj x I y g e
  ·cases Ag.mp g;rw[old x I,AF rfl] at e;have:=h.lt I (r x I);lia
  ·cases Ag.mp I;rw[old y g,AF rfl] at e;have:=h.lt g (r y g);lia
  ·rw[Ag.mp I,Ag.mp g]
 ·by_cases c:x<wd.length
  ·rw[AE c] at I;obtain⟨q,t,e⟩:=h.only x l I;exact⟨q,Aq _ t,by rw[e];exact(old q t).symm⟩
  ·refine⟨p,Af _ (Ag.mpr rfl),?_⟩;have:=xq I;rw[Ad] at this;have:x<wd.length+1:=this;show x=if p=p then wd.length else f p
   rw[AF rfl];lia
 ·by_cases c:x<wd.length
  ·rw[AE c] at I;exact h.ok x e i j I
  ·have:=xq I;rw[Ad] at this;have:x<wd.length+1:=this;have:x=wd.length:=by lia
   subst this;rw[Ax (Al _),C6] at I;have I:gB f k=some (.nd e i j):=AN I;cases k with
   |none=>cases I
   |some k=>
    cases k with
    |lf=>cases I
    |nd e' i' j'=>
     obtain⟨a,b⟩:=J e' i' j' rfl;cases I;exact⟨h.lt a (r _ a),h.lt b (r _ b)⟩
theorem iz{ks:List (Option Kn)}{I:List Nat}(ok:OkO ks)(pm:I.Perm (List.range ks.length))(l:bX ks I){p:Nat}(U:I[n]?=some p){e:Bool}(h:ks[p]?=some (some (.nd e i j))):i∈I.take n/\j∈I.take n:=by
 obtain⟨l1,l2⟩:=ok p e i j h;have hl:=xq h;have t:=xq U;have ind:∀x,x<ks.length->x≠p->(∀y∈I.drop (n+1),y≠x)->x∈I.take n:=λx T ne o=>by
  have J:x∈I:=pm.mem_iff.mpr (A5.mpr T);have r:I=I.take n++p::I.drop (n+1):=by rw[Aj t] at U;rw[<-AN U,Cn,A6]
  rw[r] at J;rcases Ao.mp J with J|J
  ·exact J
  ·rcases Ap.mp J with J|J
   ·exact absurd J ne
   ·exact absurd rfl (o x J)
 have C:∀y∈I.drop (n+1),y≠i/\y≠j:=λy g=>by
  have r:I=I.take n++p::I.drop (n+1):=by rw[Aj t] at U;rw[<-AN U,Cn,A6]
  unfold bX at l;rw[r] at l;have:=(CV.mp l).2.1;exact(List.pairwise_cons.mp this).1 y g e i j h
 exact⟨ind i (by exact aas) (by exact alg) λy g=>(C y g).1,ind j (by exact aas) (by exact alg) λy g=>(C y g).2⟩
def ahe:ke:=(qw (zk (aT bv (qa 1) (q9 (zc vi (qa 3) (bW 1)) qu)) (qf 4))
 (qw (zk (aT bv (qa 1) (q9 (zc vi (qa 2) (bW 1)) qu)) (qf 5))
 (qw (zk (zc cJ (jv 4 1) (zc vi (zc aF (qa 3) (zr 64)) (lK kH (k7 (jv 4 1))))) (qf 6))
 (qw (zk (zc cJ (jv 5 1) (zc vi (zc aF (qa 2) (zr 64)) (lK kH (k7 (jv 5 1))))) (qf 7))
 (qw (jk (aT j8 (qa 0) (q9 (jf (q9 (vm "both") (w6 (qa 6) (qa 7)))) qu)))
 (qw (zk (oQ 1 (v4 (zc zu (jv 4 1) (jv 5 1))) (qf 9) (yB (zc (xU true) (qa 9) (oP (qa 6) (qa 7)))) (qa 9)) (qf 8))
 (jk (aT j8 (qa 1) (q9 (jn (q9 (jf (q9 (vm "both") (q9 (zc fi (bW 0) (zr 1)) (w6 (jv 4 0) (jv 5 0))))) (q9 (zc zu (qa 8) (jn (q9 (zc fi (bW 0) (zr 1)) qu))) qu))) qu)))))))))
def ad1:ke:=(qw (xz (yB (zc yLt (lK kH (k7 (jv 1 1))) (zr 2))) xZ xc)
 (qw (zk (aT bv (jv 1 1) (q9 (zc vi (qa 3) (lK kH (k7 (jv 1 1)))) qu)) (qf 4))
 (qw (zk (aT bv (jv 1 1) (q9 (zc vi (qa 2) (lK kH (k7 (jv 1 1)))) qu)) (qf 5))
 (qw (jk (aT j8 (qa 0) (q9 (jf (q9 (vm "either") (w6 (qa 4) (qa 5)))) qu)))
 (qw (af9 (qa 1) (zr 0) (jf (q9 (vm "either") (q9 (zc fi (bW 0) (zr 1)) (k7 (jv 1 0))))))
 (jk (aT j8 (jv 1 1) (q9 (zc fi (bW 0) (zr 1)) qu))))))))
theorem bD{ks:List Kn}:∀{w v:Wd} {p:Nat},cB ks p w->cB ks p v->w=v
 |.leaf t n,.leaf g C,p,h,k=>by
  have h:(ja ks)[p]?=some (.tup [.str (kL t),.str n]):=h;have k:(ja ks)[p]?=some (.tup [.str (kL g),.str C]):=k;rw[h] at k;injection k with k;injection k with k;injection k with J I;injection I with I _
  injection J with J;injection I with I
  have:t=g:=by cases t<;>cases g<;>first|rfl|(exfalso;revert J;decide +kernel)
  rw[this,I]
 |.leaf t n,.node e l r,p,h,k=>by obtain⟨i,j,k,_⟩:=k;have h:(ja ks)[p]?=some (.tup [.str (kL t),.str n]):=h;rw[h] at k;injection k with k;injection k with k;injection k with _ k;injection k with _ k;cases k
 |.node e l r,.leaf t n,p,h,k=>by obtain⟨i,j,h,_⟩:=h;have k:(ja ks)[p]?=some (.tup [.str (kL t),.str n]):=k;rw[h] at k;injection k with k;injection k with k;injection k with _ k;injection k with _ k;cases k
 |.node e l r,.node o l' r',p,⟨i,j,h,T,hr⟩,⟨i',j',k,kl,kr⟩=>by
  rw[h] at k;injection k with k;injection k with k;injection k with J I;injection I with I U;injection U with U _
  injection J with J;injection I with I;injection U with U
  have e1:i=i':=by lia
  have e2:j=j':=by lia
  subst e1 e2;have:e=o:=by cases e<;>cases o<;>first|rfl|(exfalso;revert J;decide +kernel)
  rw[this,bD (ks:=ks) T kl,bD (ks:=ks) hr kr]
theorem jZ{ks:List Kn}(I:bA ks):∀(m p:Nat),p<m->p<ks.length->∃w,cB ks p w/\w.depth<=p+1/\w.ok
 |0,p,h,_=>absurd h (by lia)
 |m+1,p,h,g=>by
  obtain⟨k,J⟩:∃k,ks[p]?=some k:=⟨_,Aj g⟩;have U:=I p k J;cases k with
  |lf t n=>exact⟨.leaf t n,cB.leaf J,by show 1<=p+1;exact C3 _,U⟩
  |nd e i j=>
   have U:i<p/\j<p:=U;obtain⟨l,o,T,C⟩:=jZ I m i (by lia) (by omega);obtain⟨r,b1,b2,b3⟩:=jZ I m j (by lia) (by lia);exact⟨.node e l r,EF J o b1,by show max l.depth r.depth+1<=p+1;lia,C,b3⟩
def TV(v:Str->Bool):Wd->Bool
 |.leaf t n=>if t=true then !v n else v n
 |.node e l r=>if e=true then TV v l||TV v r else TV v l&&TV v r
theorem iB(v:Str->Bool):∀w:Wd,TV v w.turn=!TV v w
 |.leaf t n=>by cases t<;>simp[Wd.turn,TV]
 |.node e l r=>by cases e<;>simp[Wd.turn,TV,iB v l,iB v r]
theorem SR.lt{E:List Nat}(h:SR ks R E):∀x∈qt R,x<ks.length:=by
 have lt:∀{p:Nat} {k:Kn},ks[p]?=some k->p<ks.length:=λh=>(AL.mp h).1
 induction h with
 |link _ h2 h3 _ _=>intro x I;simp[qt] at I;rcases I with rfl|rfl;exact lt h2;exact lt h3
 |ei h1 _ _ _ _ _ _ g=>intro x I;rcases Ap.mp I with rfl|I;exact lt h1;exact g x I
 |bo h1 _ _ _ _ _ _ J U=>
  intro x I;rcases Ap.mp I with rfl|I
  ·exact lt h1
  ·rcases Ao.mp I with I|I
   ·exact J x I
   ·exact U x I
 |cu _ _ _ _ _ _ _ _ J U=>
  intro x I;rcases Ao.mp I with I|I
  ·exact J x I
  ·exact U x I
theorem SR.tv(hk:bA ks)(v:Str->Bool){E:List Nat}(h:SR ks R E):∃x∈E,∃w,cB ks x w/\TV v w=true:=by
 have ex:∀{R':Ru} {E':List Nat},SR ks R' E'->∀x∈E',∃w,cB ks x w:=λs x I=>by obtain⟨w,hw,_⟩:=jZ hk (x+1) x (by exact Ct _) (s.lt x (s.sub x I));exact⟨w,hw⟩
 induction h with
 |@link p q t n E _ h2 h3 h4 _=>
  cases ht:TV v (.leaf t n) with
  |true=>exact⟨p,(h4 p).mpr (.inl rfl),_,cB.leaf h2,ht⟩
  |false=>
   refine⟨q,(h4 q).mpr (.inr rfl),_,cB.leaf h3,?_⟩;have:=iB v (.leaf t n);rw[ht] at this;exact this
 |@ei r i j A EA E h1 T hi hj _ J _ ih=>
  obtain⟨x,I,w,hw,tv⟩:=ih;obtain⟨wi,U⟩:=ex T i hi;obtain⟨wj,g⟩:=ex T j hj;by_cases c1:x=i
  ·subst c1;rw[bD hw U] at tv;exact⟨r,(J r).mpr (.inr rfl),_,EF h1 U g,by simp[TV,tv]⟩
  ·by_cases c2:x=j
   ·subst c2;rw[bD hw g] at tv;exact⟨r,(J r).mpr (.inr rfl),_,EF h1 U g,by simp[TV,tv]⟩
   ·exact⟨x,(J x).mpr (.inl ⟨I,c1,c2⟩),w,hw,tv⟩
 |@bo r i j A B EA EB E h1 T hB hi hj J _ l o=>
  obtain⟨x,I,w,hw,tv⟩:=l;obtain⟨y,hy,u,C,tu⟩:=o;by_cases c1:x=i
  ·by_cases c2:y=j
   ·subst c1 c2;exact⟨r,(J r).mpr (.inr (.inr rfl)),_,EF h1 hw C,by simp[TV,tv,tu]⟩
   ·exact⟨y,(J y).mpr (.inr (.inl ⟨hy,c2⟩)),u,C,tu⟩
  ·exact⟨x,(J x).mpr (.inl ⟨I,c1⟩),w,hw,tv⟩
 |@cu p q A B EA EB E w0 T hB hp hq a1 a2 h7 _ l o=>
  obtain⟨x,I,w,hw,tv⟩:=l;obtain⟨y,hy,u,C,tu⟩:=o;by_cases c1:x=p
  ·by_cases c2:y=q
   ·subst c1 c2;rw[bD hw a1] at tv;rw[bD C a2,iB,tv] at tu;cases tu
   ·exact⟨y,(h7 y).mpr (.inr ⟨hy,c2⟩),u,C,tu⟩
  ·exact⟨x,(h7 x).mpr (.inl ⟨I,c1⟩),w,hw,tv⟩
theorem SR.ends(I:bA ks){E:List Nat}(h:SR ks R E):0<E.length:=by obtain⟨x,J,_⟩:=h.tv I λ_=>true;exact List.length_pos_of_mem J
structure Tr where
 a:Addr
 b:Addr
 R:Ru
 E:List Nat
abbrev z9(E:List Nat):List Y:=E.map λn:Nat=>Y.int (n:Int)
def Tr.ads(t:Tr):List Addr:=[t.a,t.b]
structure av(L0 L:qm)(ka fa:Addr)(ks:List Kn)(fo:List Tr):Prop where
 hk:L ka=some (.lst (ja ks))
 ht:∀t∈fo,L t.a=some (.lst [qk t.R,.ref t.b])/\L t.b=some (.lst (z9 t.E))
 sr:∀t∈fo,SR ks t.R t.E
 nd:(fo.flatMap λt=>qt t.R).Nodup
 tm:∀x,x∈(fo.flatMap λt=>qt t.R)↔x<ks.length
 ad:(ka::fa::fo.flatMap Tr.ads).Nodup
 ok:bA ks
 sub:qh L0 L
 fr:∀x∈ka::fa::fo.flatMap Tr.ads,L0 x=none
def zd(fo:List Tr):List Y:=fo.map λt=>Y.ref t.a
structure kQ(L0 L:qm)(ka fa:Addr)(ks:List Kn)(fo:List Tr):Prop where
 b:av L0 L ka fa ks fo
 hf:L fa=some (.lst (zd fo))
def noC:Ru->Prop
 |.link _ _=>True
 |.ei _ A=>noC A
 |.bo _ A B=>noC A/\noC B
 |.cu _ _ _ _=>False
def Ext(ks:List Kn)(fo:List Tr)(pR:List Kn)(fo':List Tr):Prop:=(∃ms:List Kn,pR=ks++ms/\∀k∈ms,∃e i j,k=.nd e i j)/\((∀t∈fo,noC t.R)->∀t∈fo',noC t.R)
theorem av.perm{fo fo':List Tr}(h:av L0 L ka fa ks fo)(p:fo.Perm fo'):av L0 L ka fa ks fo':=by have J:(fo.flatMap λt=>qt t.R).Perm (fo'.flatMap λt=>qt t.R):=p.flatMap_right _;have U:(fo.flatMap Tr.ads).Perm (fo'.flatMap Tr.ads):=p.flatMap_right _;refine⟨h.hk,λt I=>h.ht t (p.mem_iff.mpr I),λt I=>h.sr t (p.mem_iff.mpr I),J.nodup_iff.mp h.nd,λx=>by rw[<-J.mem_iff];exact h.tm x,((U.cons _).cons _).nodup_iff.mp h.ad,h.ok,h.sub,λx g=>h.fr x (((U.cons _).cons _).mem_iff.mpr g)⟩
end L3
variable {fo rest:List L3.Tr}
namespace L3
open PySem L2 Words
theorem jr{α:Type}:∀{l:List α} {j:Nat} {x:α},l[j]?=some x->l.Perm (x::l.eraseIdx j)
 |[],_,_,h=>by simp at h
 |y::r,0,x,h=>by
  have:y=x:=by simpa using h
  subst this;exact .refl _
 |y::r,j+1,x,h=>by have I:=jr (l:=r) (j:=j) (x:=x) (by simpa using h);rw[B3];exact(I.cons y).trans (.swap _ _ _)
theorem jA(fo:List Tr)(j:Nat):(zd fo).eraseIdx j=zd (fo.eraseIdx j):=gL _ fo j
theorem av.step{ms:List Kn}{old:List Tr}{t':Tr}(h:av L0 L ka fa ks (old++rest))(l:L' ka=some (.lst (ja (ks++ms))))(o:L' t'.a=some (.lst [qk t'.R,.ref t'.b])/\L' t'.b=some (.lst (z9 t'.E)))
 (keep:∀t∈rest,L' t.a=L t.a/\L' t.b=L t.b) (sub:qh L0 L') (ad:(ka::fa::(rest++[t']).flatMap Tr.ads).Nodup) (p:∀x∈t'.ads,L0 x=none) (ok:bA (ks++ms)) (r:SR (ks++ms) t'.R t'.E)
 (tp:(qt t'.R).Perm (List.range' ks.length ms.length++old.flatMap λt=>qt t.R)):av L0 L' ka fa (ks++ms) (rest++[t']):=by
 have hnd:=h.nd;have U:=h.tm;rw[AC] at hnd;have j:((rest++[t']).flatMap λt=>qt t.R)=(rest.flatMap λt=>qt t.R)++qt t'.R:=by rw[AC];simp
 have mem:∀x,x∈qt t'.R↔(ks.length<=x/\x<ks.length+ms.length)\/x∈(old.flatMap λt=>qt t.R):=λx=>by rw[tp.mem_iff,Ao,CG]
 refine⟨l,λt J=>?_,λt J=>?_,?_,λx=>?_,ad,ok,sub,λx I=>?_⟩
 ·rcases Ao.mp J with J|J
  ·obtain⟨C,T⟩:=keep t J;rw[C,T];exact h.ht t (Af _ J)
  ·rw[Ag.mp J];exact o
 ·rcases Ao.mp J with J|J
  ·exact(h.sr t (Af _ J)).more _
  ·rw[Ag.mp J];exact r
 ·rw[j,Av];rw[Av] at hnd;refine⟨hnd.2.1,tp.nodup_iff.mpr ?_,λx I y g e=>?_⟩
  ·rw[Av];refine⟨Dp,hnd.1,λx I y g e=>?_⟩;have I:=CG.mp I;have g:=(U y).mp (by rw[AC];exact Aq _ g);lia
  ·subst e;rcases (mem x).mp g with g|g
   ·have:=(U x).mp (by rw[AC];exact Af _ I);lia
   ·exact hnd.2.2 x g x I rfl
 ·rw[j,Ao,mem,Ad];have h1:=U x;rw[AC,Ao] at h1;constructor
  ·rintro(h2|h2|h2)
   ·have:=h1.mp (.inr h2);exact ako
   ·lia
   ·have:=h1.mp (.inl h2);lia
  ·intro h2;by_cases c:x<ks.length
   ·rcases h1.mpr c with h3|h3
    ·exact .inr (.inr h3)
    ·exact .inl h3
   ·exact .inr (.inl (by lia))
 ·rcases Ap.mp I with rfl|I
  ·exact h.fr _ (Ah ..)
  ·rcases Ap.mp I with rfl|I
   ·exact h.fr _ (Ac _ (Ah ..))
   ·rw[AC] at I;rcases Ao.mp I with I|I
    ·exact h.fr _ (Ac _ (Ac _ (by rw[AC];exact Af _ I)))
    ·exact p x (by simpa using I)
def lv:xm:=λys L Q=>∃L0 ka fa ks fo,∃one two:Int,ys=[.ref ka,.ref fa,.int one,.int two]/\kQ L0 L ka fa ks fo/\2<=fo.length/\fo.length<=200/\ks.length<=200/\
 ∀L' pR fo',kQ L0 L' ka fa pR fo'->pR.length=ks.length+1->fo'.length+1=fo.length->Ext ks fo pR fo'->Q .non L'
theorem iV{l:List α}(h:0<l.length)(k:Int):∃(j:Nat) (x:α),k % (l.length:Int)=(j:Int)/\j<l.length/\l[j]?=some x:=by have h0:0<=k % (l.length:Int):=DK _ (by lia);have h1:k % (l.length:Int)<(l.length:Int):=Int.emod_lt_of_pos _ (by omega);refine⟨(k % (l.length:Int)).toNat,l[(k % (l.length:Int)).toNat]'(by lia),by lia,by lia,Aj (by lia)⟩
theorem ah:∀(n:Nat) (l:List Nat),l.Nodup->(∀x∈l,x<n)->l.length<=n
 |0,l,_,h=>by cases l with|nil=>exact Al _|cons x r=>exact absurd (h x (Ah ..)) (by lia)
 |n+1,l,nd,h=>by
  by_cases c:n∈l
  ·have p:=List.perm_cons_erase c;have J:=ah n (l.erase n) (nd.erase n) λx I=>by have:=(List.Nodup.mem_erase_iff nd).mp I;have:=h x this.2;lia
   rw[p.length_eq,AJ];exact ai6
  ·exact BN (ah n l nd λx I=>by have:=h x I;have:x≠n:=λe=>c (e▸I);lia)
theorem a7(h:av L0 L ka fa ks fo){t:Tr}(I:t∈fo):0<t.E.length/\t.E.length<=ks.length:=by have s:=h.sr t I;exact⟨s.ends h.ok,ah _ _ s.nod λx J=>s.lt x (s.sub x J)⟩
theorem adw(x l r:Nat):inV (r9 (.int (x:Int))) (([.int (l:Int),.int (r:Int)]:List Y).map r9)=decide (x=l\/x=r):=by
 show(iL (.int (l:Int)) (.int (x:Int))||(iL (.int (r:Int)) (.int (x:Int))||false))=_;have e:∀a b:Nat,iL (.int (a:Int)) (.int (b:Int))=decide (b=a):=λa b=>by
  show decide ((a:Int)=(b:Int))=decide (b=a);by_cases c:b=a
  ·subst c;simp
  ·rw[Az c];apply Az;lia
 rw[e,e];by_cases h1:x=l<;>by_cases h2:x=r<;>simp[h1,h2]
theorem oI{E:List Nat}(h:0<E.length)(k:Int):∃x,x∈E/\dz (z9 E) (k % ((z9 E).length:Int))=some (.int ((x:Nat):Int)):=by obtain⟨j,x,I,J,ex⟩:=iV h k;refine⟨x,AM ex,?_⟩;rw[Ab,I];exact zv (by rw[Am,ex];rfl)
def jz(E1 E2:List Nat)(l r:Nat):List Nat:=(E1++E2).filter λx=>!decide (x=l\/x=r)
theorem xX{U:Addr}{E:List Nat}{r k:Nat}{Q:YK}{tc:hE}(C:L U=some (.lst (z9 E)))(I:E.length<=1000)
 (T:∀y (g:Bool->qm->Prop),xU true y (.tup [.int (l:Int),.int (r:Int)]) L (λx L'=>match x with|.bl c=>g c L'|_=>False)->tc (bJ (τ++List.replicate 1 none) k y) L g)
 (hv:∀y,u7 (bJ (τ++List.replicate 1 none) k y) k=some y)
 (hq:∀p,L p=none->Q (.ref p) (qg L p (.lst (z9 (E.filter λx=>!decide (x=l\/x=r)))))):
 qE L U λys keep L2=>lcK ys keep 1 (qf k) tc (qa k) τ L2 Q:=by
 refine jy C λkeep kp=>aV (λj zs=>zs=z9 ((E.take j).filter λx=>!decide (x=l\/x=r))) (by rw[Ab];exact wb I) (kp L rfl) rfl ?_ ?_
 ·rintro j y _ o rfl;obtain⟨x,ex,rfl⟩:∃x:Nat,E[j]?=some x/\y=Y.int (x:Int):=by rw[Am] at o;obtain⟨x,e1,e2⟩:=Au.mp o;exact⟨x,e1,e2.symm⟩
  refine T _ _ ⟨rfl,rfl,?_⟩;rw[adw];show ky (!decide (x=l\/x=r)) _ _;have t:(E.take (j+1)).filter (λx=>!decide (x=l\/x=r))=(E.take j).filter (λx=>!decide (x=l\/x=r))++[x].filter (λx=>!decide (x=l\/x=r)):=by rw[Bq,ex,BB];rfl
  by_cases c:x=l\/x=r
  ·refine cn (by rw[AV c];rfl) ?_;refine frg ⟨rfl,?_⟩;rw[t,List.filter_cons_of_neg (by simp[c]),List.filter_nil,AX]
  ·refine fZ (by rw[Az c];rfl) ?_;unfold qa;rw[hv];refine frg ⟨rfl,?_⟩;rw[t,List.filter_cons_of_pos (by simp[c]),List.filter_nil];unfold z9;rw[Ai];rfl
 ·rintro _ rfl p J;rw[Ab,Bm];exact hq p J
theorem rf{k:Int}(U:L fa=some (.lst (zd fo)))(h:0<fo.length):∃(j:Nat) (t:Tr),fo[j]?=some t/\0<=k % ((zd fo).length:Int)/\k % ((zd fo).length:Int)<((zd fo).length:Int)/\
 (zd fo)[(k % ((zd fo).length:Int)).toNat]?=some (.ref t.a)/\qg L fa (.lst ((zd fo).eraseIdx (k % ((zd fo).length:Int)).toNat)) fa=some (.lst (zd (fo.eraseIdx j))):=by
 obtain⟨j,t,J,g,I⟩:=iV h k;have e:(zd fo).length=fo.length:=Ab ..;rw[e,J];refine⟨j,t,I,by exact A8 _,by lia,?_,?_⟩
 ·show(zd fo)[j]?=_;unfold zd;rw[Am,I];rfl
 ·rw[q8];show some (LO.lst ((zd fo).eraseIdx j))=_;rw[jA]
theorem av.two{t1 t2:Tr}(h:av L0 L ka fa ks (t1::t2::rest)):∀x,x∈qt t1.R->x∈qt t2.R->False:=by intro x h1 h2;have nd:=h.nd;rw[AS,AS,Av] at nd;exact nd.2.2 x h1 x (Aq _ h2) rfl
theorem lr{E1 E2:List Nat}{r:Nat}(I:l∉E2)(J:r∉E1)(x:Nat):x∈jz E1 E2 l r↔(x∈E1/\x≠l)\/(x∈E2/\x≠r):=by
 unfold jz;rw[AO,Ao];constructor
 ·rintro⟨h,c⟩;have c:¬(x=l\/x=r):=by simpa using c
  rcases h with h|h
  ·exact .inl ⟨h,λe=>c (.inl e)⟩
  ·exact .inr ⟨h,λe=>c (.inr e)⟩
 ·rintro(⟨h,c⟩|⟨h,c⟩)
  ·refine⟨.inl h,?_⟩;have:x≠r:=λe=>J (e▸h);simp[c,this]
  ·refine⟨.inr h,?_⟩;have:x≠l:=λe=>I (e▸h);simp[c,this]
theorem ln{E1 E2:List Nat}{r:Nat}(h1:E1.Nodup)(h2:E2.Nodup)(d:∀x,x∈E1->x∈E2->False):(jz E1 E2 l r).Nodup:=by
 unfold jz;have h:(E1++E2).Nodup:=by rw[Av];exact⟨h1,h2,λx I y J e=>d x I (e▸J)⟩
 exact List.Pairwise.filter _ h
theorem abk:∀ys L Q,lv ys L Q->v0 ahe 9 ys L Q:=by
 rintro ys L Q ⟨L0,p,T,U,fo,one,two,rfl,F,h2,ec,dS,q⟩;have big:=bg_;have ba:∀fo:List Tr,(zd fo).length=fo.length:=λfo=>Ab ..;obtain⟨j1,I,d0,a1,a2,a3,a4⟩:=rf (k:=two) F.hf (by exact rN);have l1:(fo.eraseIdx j1).length+1=fo.length:=by have:=(jr d0).length_eq;rw[AJ] at this;lia
 refine qc F.hf (qc F.hf ⟨(by show(0:Int)<((zd fo).length:Int);rw[ba];lia),qz F.hf ⟨a1,a2,ql a3 ?_⟩⟩);have bb:∀b o,b≠T->L b=some o->qg L T (.lst ((zd fo).eraseIdx (two % ((zd fo).length:Int)).toNat)) b=some o:=λb o nb e=>by rw[qd nb];exact e
 generalize qg L T (.lst ((zd fo).eraseIdx (two % ((zd fo).length:Int)).toNat))=L1 at a4 bb;obtain⟨j2,J,da,b1,b2,b3,cv⟩:=rf (k:=one) a4 (by lia);have l2:((fo.eraseIdx j1).eraseIdx j2).length+1=(fo.eraseIdx j1).length:=by have:=(jr da).length_eq;rw[AJ] at this;lia
 refine qc a4 (qc a4 ⟨(by show(0:Int)<((zd (fo.eraseIdx j1)).length:Int);rw[ba];lia),qz a4 ⟨b1,b2,ql b3 ?_⟩⟩);have g:∀b o,b≠T->L b=some o->qg L1 T (.lst ((zd (fo.eraseIdx j1)).eraseIdx (one % ((zd (fo.eraseIdx j1)).length:Int)).toNat)) b=some o:=λb o nb e=>by rw[qd nb];exact bb b o nb e
 generalize qg L1 T (.lst ((zd (fo.eraseIdx j1)).eraseIdx (one % ((zd (fo.eraseIdx j1)).length:Int)).toNat))=L2 at cv g;have cy:fo.Perm (I::J::(fo.eraseIdx j1).eraseIdx j2):=(jr d0).trans ((jr da).cons _);have B:av L0 L p T U (I::J::(fo.eraseIdx j1).eraseIdx j2):=F.b.perm cy;generalize (fo.eraseIdx j1).eraseIdx j2=rest at l2 cv B cy;clear a4 bb a1 a2 a3 b1 b2 b3;have m1:I∈I::J::rest:=by simp
 have m2:J∈I::J::rest:=by simp
 have ad:=B.ad;have nk:∀t∈I::J::rest,t.a≠T/\t.b≠T/\t.a≠p/\t.b≠p:=λt ht=>by rw[Ay,Ay] at ad;have ma:t.a∈(I::J::rest).flatMap Tr.ads:=A2.mpr ⟨t,ht,by simp[Tr.ads]⟩;have mb:t.b∈(I::J::rest).flatMap Tr.ads:=A2.mpr ⟨t,ht,by simp[Tr.ads]⟩;exact⟨λe=>ad.2.1 (e▸ma),λe=>ad.2.1 (e▸mb),λe=>ad.1 (Ac _ (e▸ma)),λe=>ad.1 (Ac _ (e▸mb))⟩
 have nkf:p≠T:=by rw[Ay] at ad;exactλe=>ad.1 (e▸Ah ..)
 have de:L2 p=some (.lst (ja U)):=g p _ nkf B.hk;have a5:=g I.a _ (nk I m1).1 (B.ht I m1).1;have bc:=g I.b _ (nk I m1).2.1 (B.ht I m1).2;have ag:=g J.a _ (nk J m2).1 (B.ht J m2).1;have bd:=g J.b _ (nk J m2).2.1 (B.ht J m2).2;have dV:=a7 B m1;have e0:=a7 B m2;obtain⟨x,hx,ex⟩:=oI dV.1 (two / 64);obtain⟨y,hy,ey⟩:=oI e0.1 (one / 64);refine qc a5 ⟨⟨by decide,by decide⟩,qc a5 (qc bc ⟨(by show(0:Int)<((z9 I.E).length:Int);rw[Ab];omega),qc bc (ql ex ?_)⟩)⟩;refine qc ag ⟨⟨by decide,by decide⟩,qc ag (qc bd ⟨(by show(0:Int)<((z9 J.E).length:Int);rw[Ab];omega),qc bd (ql ey ?_)⟩)⟩;refine qc de (qz de ⟨big _ (by rw[Ab];exact ae7),?_⟩);have ek:ja U++[.tup [.str "both",.int ((x:Nat):Int),.int ((y:Nat):Int)]]=ja (U++[.nd false x y]):=by unfold ja;rw[Ai];rfl
 rw[ek];have dg:qg L2 p (.lst (ja (U++[.nd false x y]))) p=some (.lst (ja (U++[.nd false x y]))):=q8;have j:∀b o,b≠p->L2 b=some o->qg L2 p (.lst (ja (U++[.nd false x y]))) b=some o:=λb o nb e=>by rw[qd nb];exact e
 generalize qg L2 p (.lst (ja (U++[.nd false x y])))=L3 at dg j;have a5:=j _ _ (nk I m1).2.2.1 a5;have bc:=j _ _ (nk I m1).2.2.2 bc;have ag:=j _ _ (nk J m2).2.2.1 ag;have bd:=j _ _ (nk J m2).2.2.2 bd;have e1:=j _ _ (AW nkf) cv;refine qc a5 (qc ag ⟨_,_,bc,bd,small (by rw[Ab,Ab];lia),λpp e2=>?_⟩);have en:z9 I.E++z9 J.E=z9 (I.E++J.E):=by unfold z9;rw[Ai]
 rw[en];refine xX (E:=I.E++J.E) (l:=x) (r:=y) (k:=9) q8 (by rw[Ad];lia) (λy' Q' h=>h) (λ_=>rfl) λpe e3=>?_;have s4:qh L3 (qg (qg L3 pp (.lst (z9 (I.E++J.E)))) pe (.lst (z9 ((I.E++J.E).filter λz=>!decide (z=x\/z=y))))):=(By e2).trans (By e3);have cP:qg (qg L3 pp (.lst (z9 (I.E++J.E)))) pe (.lst (z9 ((I.E++J.E).filter λz=>!decide (z=x\/z=y)))) pe=some (.lst (z9 (jz I.E J.E x y))):=q8;generalize qg (qg L3 pp (.lst (z9 (I.E++J.E)))) pe (.lst (z9 ((I.E++J.E).filter λz=>!decide (z=x\/z=y))))=L4 at s4 cP;have bf:=s4 _ _ dg;have bg:=s4 _ _ e1;have nn:(((ja (U++[.nd false x y])).length:Nat):Int)-1=((U.length:Nat):Int):=by rw[Ab,Ad];simp
 refine qc bg (qc bf (qc (s4 _ _ a5) (qc (s4 _ _ ag) (qc bf λpn bh=>?_))));refine⟨_,_,By bh _ _ cP,q8,small (by have:=ln (l:=x) (r:=y) (B.sr I m1).nod (B.sr J m2).nod (λz h1 h2=>B.two z ((B.sr I m1).sub z h1) ((B.sr J m2).sub z h2));have:=List.length_filter_le (λz=>!decide (z=x\/z=y)) (I.E++J.E);rw[Ad] at this;rw[Ab];unfold jz;show _+1<=1000;lia),λC bi pa bj=>?_⟩;have s7:=(By (o:=.lst [.int ((((ja (U++[.nd false x y])).length:Nat):Int)-1)]) bh).trans ((By (o:=.lst (z9 (jz I.E J.E x y)++[.int ((((ja (U++[.nd false x y])).length:Nat):Int)-1)])) bi).trans (By (o:=.lst [.tup [.str "both",.int ((((ja (U++[.nd false x y])).length:Nat):Int)-1),qk I.R,qk J.R],.ref C]) bj));refine qz (s7 _ _ bg) ⟨big _ (by rw[ba];lia),?_⟩;have dj:C≠pa:=wu q8 bj;have bp:∀L6:qm,qg L6 pa (.lst [.tup [.str "both",.int ((((ja (U++[.nd false x y])).length:Nat):Int)-1),qk I.R,qk J.R],.ref C]) pa=some (.lst [qk (.bo U.length I.R J.R),.ref C]):=λL6=>by rw[q8,nn];rfl
 have cm:∀L5 o,qg (qg L5 C (.lst (z9 (jz I.E J.E x y)++[.int ((((ja (U++[.nd false x y])).length:Nat):Int)-1)]))) pa o C=some (.lst (z9 (jz I.E J.E x y++[U.length]))):=λL5 o=>by rw[qd dj,q8,nn];unfold z9;rw[Ai];rfl
 have ea:=bp (qg (qg L4 pn (.lst [.int ((((ja (U++[.nd false x y])).length:Nat):Int)-1)])) C (.lst (z9 (jz I.E J.E x y)++[.int ((((ja (U++[.nd false x y])).length:Nat):Int)-1)])));have eb:=cm (qg L4 pn (.lst [.int ((((ja (U++[.nd false x y])).length:Nat):Int)-1)])) (.lst [.tup [.str "both",.int ((((ja (U++[.nd false x y])).length:Nat):Int)-1),qk I.R,qk J.R],.ref C]);have al:L4 pa=none:=by cases z:L4 pa with|none=>rfl|some o=>rw[((By bh).trans (By bi)) _ _ z] at bj;cases bj
 have aL:L4 C=none:=by cases z:L4 C with|none=>rfl|some o=>rw[(By bh) _ _ z] at bi;cases bi
 generalize qg (qg (qg L4 pn (.lst [.int ((((ja (U++[.nd false x y])).length:Nat):Int)-1)])) C (.lst (z9 (jz I.E J.E x y)++[.int ((((ja (U++[.nd false x y])).length:Nat):Int)-1)]))) pa (.lst [.tup [.str "both",.int ((((ja (U++[.nd false x y])).length:Nat):Int)-1),qk I.R,qk J.R],.ref C])=L7 at s7 ea eb;clear bh bi bj bp cm cP;have up:∀b o,b≠T->b≠p->L b=some o->L4 b=some o:=λb o n1 n2 e=>s4 _ _ (j _ _ n2 (g _ _ n1 e));have ed:=s7 _ _ bg;have dp:pa≠T:=λe=>by rw[e,bg] at al;cases al
 have dr:C≠T:=λe=>by rw[e,bg] at aL;cases aL
 have s1:=B.sr I m1;have s2:=B.sr J m2;have bn:∀z,z∈I.E->z∈J.E->False:=λz h1 h2=>B.two z (s1.sub z h1) (s2.sub z h2);refine xr (q _ (U++[.nd false x y]) (rest++[⟨pa,C,.bo U.length I.R J.R,jz I.E J.E x y++[U.length]⟩]) ⟨?_,?_⟩ (by rw[Ad];rfl) (by rw[Ad];simp;lia) ⟨⟨_,rfl,λk hk=>⟨_,_,_,Ag.mp hk⟩⟩,λh t ht=>?_⟩)
 rotate_right
 ·have h':∀u∈I::J::rest,noC u.R:=λu hu=>h u (cy.mem_iff.mpr hu);rcases Ao.mp ht with ht|ht
  ·exact h' t (Ac _ (Ac _ ht))
  ·rw[Ag.mp ht];exact⟨h' I m1,h' J m2⟩
 ·refine av.step (old:=[I,J]) (t':=⟨pa,C,.bo U.length I.R J.R,jz I.E J.E x y++[U.length]⟩) B ?_ ⟨?_,?_⟩ (λt ht=>?_) (λb o e=>?_) ?_ (λz hz=>?_) ?_ ?_ ?_
  ·rw[qd nkf];exact s7 _ _ bf
  ·rw[qd dp];exact ea
  ·rw[qd dr];exact eb
  ·have mt:t∈I::J::rest:=Ac _ (Ac _ ht);obtain⟨n1,n2,n3,n4⟩:=nk t mt;obtain⟨h1,h2⟩:=B.ht t mt;rw[h1,h2,qd n1,qd n2];exact⟨s7 _ _ (up _ _ n1 n3 h1),s7 _ _ (up _ _ n2 n4 h2)⟩
  ·have n1:b≠p:=λz=>by rw[z,B.fr p (by simp)] at e;cases e
   have n2:b≠T:=λz=>by rw[z,B.fr T (by simp)] at e;cases e
   rw[qd n2];exact s7 _ _ (up _ _ n2 n1 (B.sub _ _ e))
  ·rw[Ay,Ay] at ad;obtain⟨d1,d2,d3⟩:=ad;have e4:(rest.flatMap Tr.ads).Nodup:=by rw[AS,AS,Av,Av] at d3;exact d3.2.1.2.1
   have dv:∀z∈rest.flatMap Tr.ads,z∈(I::J::rest).flatMap Tr.ads:=λz hz=>by rw[AS,AS];exact Af _ (Af _ hz)
   have dR:∀z∈rest.flatMap Tr.ads,∃o,L4 z=some o:=λz hz=>by
    obtain⟨t,ht,hz⟩:=A2.mp hz;have mt:t∈I::J::rest:=Ac _ (Ac _ ht);obtain⟨n1,n2,n3,n4⟩:=nk t mt;obtain⟨h1,h2⟩:=B.ht t mt;have hz:z=t.a\/z=t.b:=by simpa[Tr.ads] using hz
    rcases hz with rfl|rfl
    ·exact⟨_,up _ _ n1 n3 h1⟩
    ·exact⟨_,up _ _ n2 n4 h2⟩
   have e5:pa≠p:=λe=>by rw[e,bf] at al;cases al
   have e6:C≠p:=λe=>by rw[e,bf] at aL;cases aL
   have e7:pa∉rest.flatMap Tr.ads:=λhz=>by obtain⟨o,e⟩:=dR _ hz;rw[al] at e;cases e
   have e8:C∉rest.flatMap Tr.ads:=λhz=>by obtain⟨o,e⟩:=dR _ hz;rw[aL] at e;cases e
   rw[AC];rw[Ay,Ay,Av];refine⟨?_,?_,e4,?_,?_⟩
   ·intro z;rcases Ap.mp z with z|z
    ·exact nkf z
    ·rcases Ao.mp z with z|z
     ·exact d1 (Ac _ (dv _ z))
     ·simp[Tr.ads] at z;rcases z with z|z;exact e5 z.symm;exact e6 z.symm
   ·intro z;rcases Ao.mp z with z|z
    ·exact d2 (dv _ z)
    ·simp[Tr.ads] at z;rcases z with z|z;exact dp z.symm;exact dr z.symm
   ·simp[Tr.ads];exact AW dj
   ·intro u hu v hv e;simp[Tr.ads] at hv;subst e;rcases hv with rfl|rfl
    ·exact e7 hu
    ·exact e8 hu
  ·have hz:z=pa\/z=C:=by simpa[Tr.ads] using hz
   cases w:L0 z with
   |none=>rfl
   |some o=>
    have n1:z≠p:=λe=>by rw[e,B.fr p (by simp)] at w;cases w
    have n2:z≠T:=λe=>by rw[e,B.fr T (by simp)] at w;cases w
    have:=up _ _ n2 n1 (B.sub _ _ w);rcases hz with rfl|rfl
    ·rw[al] at this;cases this
    ·rw[aL] at this;cases this
  ·exact B.ok.snoc ⟨s1.lt x (s1.sub x hx),s2.lt y (s2.sub y hy)⟩
  ·refine .bo (cO _ _ _) (s1.more _) (s2.more _) hx hy (λz=>?_) ?_
   ·rw[Ao,lr (λh=>bn x hx h) (λh=>bn y h hy),Ag];constructor
    ·rintro((h|h)|h)
     ·exact .inl h
     ·exact .inr (.inl h)
     ·exact .inr (.inr h)
    ·rintro(h|h|h)
     ·exact .inl (.inl h)
     ·exact .inl (.inr h)
     ·exact .inr h
   ·rw[Av];refine⟨ln s1.nod s2.nod bn,by simp,λu hu v hv e=>?_⟩;rw[Ag.mp hv] at e;have:=(lr (λh=>bn x hx h) (λh=>bn y h hy) u).mp hu;rcases this with⟨h,_⟩|⟨h,_⟩
    ·have:=s1.lt u (s1.sub u h);lia
    ·have:=s2.lt u (s2.sub u h);lia
  ·show(U.length::(qt I.R++qt J.R)).Perm (List.range' U.length 1++([I,J].flatMap λt=>qt t.R));simp[Dx]
 ·rw[q8];unfold zd;rw[Ai];rfl
theorem qO{E:List Nat}{k:Int}(h:0<E.length):∃(j x:Nat),E[j]?=some x/\0<=k % ((z9 E).length:Int)/\k % ((z9 E).length:Int)<((z9 E).length:Int)/\
 (z9 E)[(k % ((z9 E).length:Int)).toNat]?=some (.int ((x:Nat):Int))/\(z9 E).eraseIdx (k % ((z9 E).length:Int)).toNat=z9 (E.eraseIdx j):=by
 obtain⟨j,x,J,U,I⟩:=iV h k;have e:(z9 E).length=E.length:=Ab ..;rw[e,J];refine⟨j,x,I,by exact A8 _,by lia,?_,?_⟩
 ·show(z9 E)[j]?=_;rw[Am,I];rfl
 ·exact gL _ E j
def iS:xm:=λys L Q=>∃L0 ka fa ks,∃pre post:List Tr,∃t:Tr,∃one two:Int,ys=[.ref ka,.ref t.a,.int one,.int two]/\kQ L0 L ka fa ks (pre++t::post)/\ks.length<=200/\
 ∀L' pR fo',kQ L0 L' ka fa pR fo'->pR.length<=ks.length+1->fo'.length=(pre++t::post).length->Ext ks (pre++t::post) pR fo'->Q .non L'
theorem yb:∀ys L Q,iS ys L Q->v0 ad1 6 ys L Q:=by
 rintro ys L Q ⟨L0,j,fa,I,pre,post,t,one,two,rfl,F,bd,q⟩;have big:=bg_;have mt:t∈pre++t::post:=by simp
 have B:=F.b;obtain⟨ta,tb⟩:=B.ht t mt;have le:=a7 B mt;have s:=B.sr t mt;have l:∀E:List Nat,(z9 E).length=E.length:=λE=>Ab ..;refine qc ta (qc tb ?_);refine jd (λc=>?_) λc=>?_
 ·exact xr (q L I _ F (Cr _) rfl ⟨⟨[],(AX _).symm,λk hk=>by cases hk⟩,λh=>h⟩)
 have c:¬(((z9 t.E).length:Int)<2):=c;rw[l] at c;have ad:=B.ad;have nkf:j≠fa:=by rw[Ay] at ad;exactλe=>ad.1 (e▸Ah ..)
 have nk:∀u∈pre++t::post,u.a≠fa/\u.b≠fa/\u.a≠j/\u.b≠j:=λu U=>by rw[Ay,Ay] at ad;have ma:u.a∈(pre++t::post).flatMap Tr.ads:=A2.mpr ⟨u,U,by simp[Tr.ads]⟩;have mb:u.b∈(pre++t::post).flatMap Tr.ads:=A2.mpr ⟨u,U,by simp[Tr.ads]⟩;exact⟨λe=>ad.2.1 (e▸ma),λe=>ad.2.1 (e▸mb),λe=>ad.1 (Ac _ (e▸ma)),λe=>ad.1 (Ac _ (e▸mb))⟩
 have a5:t.a≠t.b:=by rw[Ay,Ay,AC,AS,Av,Av] at ad;have:=ad.2.2.2.1.1;simpa[Tr.ads] using this
 obtain⟨j1,x,e1,a1,a2,a3,a4⟩:=qO (k:=two) le.1;refine qc ta (qc tb (qc ta (qc tb ⟨(by show(0:Int)<((z9 t.E).length:Int);rw[l];omega),qz tb ⟨a1,a2,ql a3 ?_⟩⟩)));rw[a4];have bh:(t.E.eraseIdx j1).length+1=t.E.length:=by have:=(jr e1).length_eq;rw[AJ] at this;lia
 have al:qg L t.b (.lst (z9 (t.E.eraseIdx j1))) t.a=some (.lst [qk t.R,.ref t.b]):=by rw[qd a5];exact ta
 obtain⟨j2,y,e2,b1,b2,b3,b4⟩:=qO (E:=t.E.eraseIdx j1) (k:=one) (by lia);refine qc al (qc q8 (qc al (qc q8 ⟨(by show(0:Int)<((z9 (t.E.eraseIdx j1)).length:Int);rw[l];omega),qz q8 ⟨b1,b2,ql b3 ?_⟩⟩)));rw[b4,xa];have bf:((t.E.eraseIdx j1).eraseIdx j2).length+1=(t.E.eraseIdx j1).length:=by have:=(jr e2).length_eq;rw[AJ] at this;lia
 have pE:t.E.Perm (x::y::(t.E.eraseIdx j1).eraseIdx j2):=(jr e1).trans ((jr e2).cons _);generalize (t.E.eraseIdx j1).eraseIdx j2=g at bf pE;have aL:qg L t.b (.lst (z9 g)) j=some (.lst (ja I)):=by rw[qd (AW (nk t mt).2.2.2)];exact B.hk
 refine qc aL (qz aL ⟨big _ (by rw[Ab];exact ae7),?_⟩);have ek:ja I++[.tup [.str "either",.int ((x:Nat):Int),.int ((y:Nat):Int)]]=ja (I++[.nd true x y]):=by unfold ja;rw[Ai];rfl
 rw[ek];have nn:(((ja (I++[.nd true x y])).length:Nat):Int)-1=((I.length:Nat):Int):=by rw[Ab,Ad];simp
 have ba:qg (qg L t.b (.lst (z9 g))) j (.lst (ja (I++[.nd true x y]))) t.a=some (.lst [qk t.R,.ref t.b]):=by rw[qd (nk t mt).2.2.1,qd a5];exact ta
 refine qc q8 (qc ba ?_);refine qz ba (ql (v:=0) rfl ?_);have ag:qg (qg (qg L t.b (.lst (z9 g))) j (.lst (ja (I++[.nd true x y])))) t.a (.lst ([qk t.R,.ref t.b].set 0 (.tup [.str "either",.int ((((ja (I++[.nd true x y])).length:Nat):Int)-1),qk t.R]))) t.a=some (.lst [qk (.ei I.length t.R),.ref t.b]):=by rw[q8,nn];rfl
 have r:∀o,qg (qg (qg L t.b (.lst (z9 g))) j (.lst (ja (I++[.nd true x y])))) t.a o j=some (.lst (ja (I++[.nd true x y]))):=λo=>by rw[qd (AW (nk t mt).2.2.1)];exact q8
 have C:∀o,qg (qg (qg L t.b (.lst (z9 g))) j (.lst (ja (I++[.nd true x y])))) t.a o t.b=some (.lst (z9 g)):=λo=>by rw[qd (AW a5),qd (nk t mt).2.2.2];exact q8
 have J:∀o b u,b≠t.a->b≠t.b->b≠j->L b=some u->qg (qg (qg L t.b (.lst (z9 g))) j (.lst (ja (I++[.nd true x y])))) t.a o b=some u:=λo b u n1 n2 n3 e=>by rw[qd n1,qd n3,qd n2];exact e
 have r:=r (.lst ([qk t.R,.ref t.b].set 0 (.tup [.str "either",.int ((((ja (I++[.nd true x y])).length:Nat):Int)-1),qk t.R])));have C:=C (.lst ([qk t.R,.ref t.b].set 0 (.tup [.str "either",.int ((((ja (I++[.nd true x y])).length:Nat):Int)-1),qk t.R])));have J:=J (.lst ([qk t.R,.ref t.b].set 0 (.tup [.str "either",.int ((((ja (I++[.nd true x y])).length:Nat):Int)-1),qk t.R])));generalize qg (qg (qg L t.b (.lst (z9 g))) j (.lst (ja (I++[.nd true x y])))) t.a (.lst ([qk t.R,.ref t.b].set 0 (.tup [.str "either",.int ((((ja (I++[.nd true x y])).length:Nat):Int)-1),qk t.R])))=L3 at ag r C J;refine qc ag (qc C (qc r (qz C ⟨big _ (by rw[l];lia),?_⟩)));have en:z9 g++[.int ((((ja (I++[.nd true x y])).length:Nat):Int)-1)]=z9 (g++[I.length]):=by rw[nn];unfold z9;rw[Ai];rfl
 have T:=pE.nodup_iff.mp s.nod;rw[Ay,Ay] at T;have hx:x∈t.E:=pE.mem_iff.mpr (by simp);have hy:y∈t.E:=pE.mem_iff.mpr (by simp);have bg:∀u∈pre++post,u.a≠t.a/\u.a≠t.b/\u.b≠t.a/\u.b≠t.b:=λu U=>by have p:(pre++t::post).Perm (t::(pre++post)):=Cs;have bb:=(p.flatMap_right Tr.ads).nodup_iff.mp (by rw[Ay,Ay] at ad;exact ad.2.2);rw[AS,Av] at bb;have k:=bb.2.2;have ma:u.a∈(pre++post).flatMap Tr.ads:=A2.mpr ⟨u,U,by simp[Tr.ads]⟩;have mb:u.b∈(pre++post).flatMap Tr.ads:=A2.mpr ⟨u,U,by simp[Tr.ads]⟩;exact⟨λe=>k t.a (by simp[Tr.ads]) u.a ma e.symm,λe=>k t.b (by simp[Tr.ads]) u.a ma e.symm,λe=>k t.a (by simp[Tr.ads]) u.b mb e.symm,λe=>k t.b (by simp[Tr.ads]) u.b mb e.symm⟩
 refine xr (q _ (I++[.nd true x y]) (pre++⟨t.a,t.b,.ei I.length t.R,g++[I.length]⟩::post) ⟨?_,?_⟩ (by rw[Ad];exact Al _) (by simp) ⟨⟨_,rfl,λk hk=>⟨_,_,_,Ag.mp hk⟩⟩,λh u U=>?_⟩)
 rotate_right
 ·rcases Ao.mp U with U|U
  ·exact h u (Aq _ U)
  ·rcases Ap.mp U with rfl|U
   ·exact h t mt
   ·exact h u (Af _ (Ac _ U))
 ·have B':=B.perm (fo':=[t]++(pre++post)) Cs;have st:=av.step (old:=[t]) (rest:=pre++post) (t':=⟨t.a,t.b,.ei I.length t.R,g++[I.length]⟩) (ms:=[.nd true x y]) (L':=qg L3 t.b (.lst (z9 g++[.int ((((ja (I++[.nd true x y])).length:Nat):Int)-1)]))) B' ?_ ⟨?_,?_⟩ (λu U=>?_) (λb o e=>?_) ?_ (λz hz=>?_) ?_ ?_ ?_
  ·exact st.perm (by have p1:((pre++post)++[(⟨t.a,t.b,.ei I.length t.R,g++[I.length]⟩:Tr)]).Perm ((⟨t.a,t.b,.ei I.length t.R,g++[I.length]⟩:Tr)::(pre++post)):=BH _ _;exact p1.trans Cs.symm)
  ·rw[qd (AW (nk t mt).2.2.2)];exact r
  ·rw[qd a5];exact ag
  ·rw[q8,en]
  ·have bc:u∈pre++t::post:=by rcases Ao.mp U with h|h;exact Aq _ h;exact Af _ (Ac _ h)
   obtain⟨n1,n2,n3,n4⟩:=bg u U;obtain⟨k1,k2,k3,k4⟩:=nk u bc;obtain⟨h1,h2⟩:=B.ht u bc;rw[h1,h2,qd n2,qd n4];exact⟨J _ _ n1 n2 k3 h1,J _ _ n3 n4 k4 h2⟩
  ·have fr:=B.fr;have n0:∀z,L0 z=none->b≠z:=λz hz w=>by rw[w,hz] at e;cases e
   have n1:=n0 j (fr j (by simp));have n2:=n0 t.a (fr t.a (by simp[Tr.ads]));have n3:=n0 t.b (fr t.b (by simp[Tr.ads]));rw[qd n3];exact J _ _ n2 n3 n1 (B.sub _ _ e)
  ·have p:(pre++t::post).Perm ((pre++post)++[t]):=Cs.trans (BH _ _).symm;have e:((pre++post)++[(⟨t.a,t.b,.ei I.length t.R,g++[I.length]⟩:Tr)]).flatMap Tr.ads=((pre++post)++[t]).flatMap Tr.ads:=by simp[AC,Tr.ads]
   rw[e];exact(((p.flatMap_right Tr.ads).cons _).cons _).nodup_iff.mp ad
  ·have hz:z=t.a\/z=t.b:=by simpa[Tr.ads] using hz
   rcases hz with rfl|rfl
   ·exact B.fr _ (by simp[Tr.ads])
   ·exact B.fr _ (by simp[Tr.ads])
  ·exact B.ok.snoc ⟨s.lt x (s.sub x hx),s.lt y (s.sub y hy)⟩
  ·refine .ei (cO _ _ _) (s.more _) hx hy (λe=>T.1 (by rw[e];exact Ah ..)) (λz=>?_) ?_
   ·rw[Ao,Ag];have hm:=pE.mem_iff (a:=z);rw[Ap,Ap] at hm;have h1:z∈g->z≠x/\z≠y:=λh=>⟨λe=>T.1 (by rw[<-e];exact Ac _ h),λe=>T.2.1 (e▸h)⟩;constructor
    ·rintro(h|h)
     ·exact .inl ⟨hm.mpr (.inr (.inr h)),h1 h⟩
     ·exact .inr h
    ·rintro(⟨h,c1,c2⟩|h)
     ·rcases hm.mp h with e|e|e
      ·exact absurd e c1
      ·exact absurd e c2
      ·exact .inl e
     ·exact .inr h
   ·rw[Av];refine⟨T.2.2,by simp,λu U v hv e=>?_⟩;rw[Ag.mp hv] at e;have:u∈t.E:=pE.mem_iff.mpr (Ac _ (Ac _ U));have:=s.lt u (s.sub u this);lia
  ·show(I.length::qt t.R).Perm (List.range' I.length 1++([t].flatMap λt=>qt t.R));simp[Dx]
 ·have nf:=nk t mt;rw[qd (AW nf.2.1)];have:=J fa _ (AW nf.1) (AW nf.2.1) (AW nkf) F.hf;rw[this];unfold zd;rw[Ai,Ai];rfl
def ais(I:xm)(p1:xm)(p2:xm)(p3:xm):ke:=(qw (zk (aT bv (qa 1) (q9 (zc vi (qa 3) (bW 1)) qu)) (qf 4))
 (qw (zk (zc cJ (jv 4 1) (zc vi (zc aF (qa 3) (zr 64)) (lK kH (k7 (jv 4 1))))) (qf 5))
 (qw (zk (zf I (w6 (qa 0) (qa 5))) (qf 6))
 (qw (zk (oP (yC .non) (yC .non)) (aZ 2 (zp (qf 7) (zp (qf 8) aE))))
 (qw (iU (rh (k7 (bW 1))) (qf 9) (iU (v4 (zc cJ (zc cJ (qa 1) (qa 9)) (zr 1))) (qf 10) (xz (adl (yB (aa5 false (qa 7))) (eU (zf I (w6 (qa 0) (qa 10))) (zf p1 (k7 (qa 6))))) (zk (jf (q9 (zc cJ (qa 1) (qa 9)) (k7 (qa 10)))) (aZ 2 (zp (qf 7) (zp (qf 8) aE)))) xc)))
 (qw (xz (adl (yB (aa5 false (qa 7))) (yB (zc yGt (zf p2 (k7 (qa 6))) (zr 5)))) (qw (jk (aT j8 (qa 1) (k7 (qa 4))))
 xZ) xc)
 (gO (xz (yB (aa5 false (qa 7))) (qw (zk (zf p3 (w6 (qa 0) (qa 6))) (aet 3 (zp (qf 11) (zp (qf 8) (zp (qf 12) aE)))))
 (zk (jn (q9 (qa 11) (q9 (jn (w6 (qa 8) (qa 12))) qu))) (qf 7))) (jk (aT iI (qa 1) (k7 (qa 7)))))
 (qw (zk (oQ 1 (v4 (zc zu (jv 4 1) (jv 7 1))) (qf 14) (yB (zc (xU true) (qa 14) (oP (qa 5) (qa 8)))) (qa 14)) (qf 13))
 (xz (eU (zc vi (qa 2) (zr 2)) (zr 0)) (jk (aT j8 (qa 1) (q9 (jn (q9 (jf (q9 (vm "cut") (q9 (qa 5) (q9 (qa 8) (w6 (jv 4 0) (jv 7 0)))))) (k7 (qa 13)))) qu))) (jk (aT j8 (qa 1) (q9 (jn (q9 (jf (q9 (vm "cut") (q9 (qa 8) (q9 (qa 5) (w6 (jv 7 0) (jv 4 0)))))) (k7 (qa 13)))) qu))))))))))))
theorem nV:∀a b:List Da,Da.eqs a b=true->a.length=b.length
 |[],[],_=>rfl
 |[],_::_,h=>by cases h
 |_::_,[],h=>by cases h
 |x::r,y::q,h=>by have h:(Da.eq x y&&Da.eqs r q)=true:=h;rw[AK] at h;rw[AJ,AJ,nV r q h.2]
theorem aem(u:Wd):∀v:Wd,Da.eq (mI u) (mI v)=true->u=v:=by
 induction u with
 |leaf t n=>
  intro v h;cases v with
  |leaf o p=>
   rw[acg,AK] at h;rw[of_decide_eq_true h.1,of_decide_eq_true h.2]
  |node e l r=>exact absurd (nV _ _ h) (by intro z;cases z)
 |node e l r g j=>
  intro v h;cases v with
  |leaf t n=>exact absurd (nV _ _ h) (by intro z;cases z)
  |node I J U=>
   have h:(iL (.str (kN e)) (.str (kN I))&&(Da.eq (mI l) (mI J)&&(Da.eq (mI r) (mI U)&&true)))=true:=h;rw[AK,AK,AK] at h;obtain⟨h1,h2,h3,_⟩:=h;have:e=I:=by cases e<;>cases I<;>first|rfl|(exfalso;revert h1;decide +kernel)
   rw[this,g J h2,j U h3]
def jj:Ru->Nat
 |.link _ _=>1
 |.ei _ A=>jj A+1
 |.bo _ A B=>max (jj A) (jj B)+1
 |.cu _ _ A B=>max (jj A) (jj B)+1
theorem v3:∀R:Ru,jj R+1<=(qt R).length
 |.link _ _=>Al _
 |.ei _ A=>by have:=v3 A;simp[jj,qt];lia
 |.bo _ A B=>by have:=v3 A;have:=v3 B;simp[jj,qt];lia
 |.cu _ _ A B=>by have:=v3 A;have:=v3 B;simp[jj,qt];lia
def w9:Ru->Da
 |.link p q=>.tup [.s (.str "link"),.s (.int (p:Int)),.s (.int (q:Int))]
 |.ei r A=>.tup [.s (.str "either"),.s (.int (r:Int)),w9 A]
 |.bo r A B=>.tup [.s (.str "both"),.s (.int (r:Int)),w9 A,w9 B]
 |.cu p q A B=>.tup [.s (.str "cut"),.s (.int (p:Int)),.s (.int (q:Int)),w9 A,w9 B]
theorem af{L:qm}:∀{R:Ru} {n:Nat},jj R<=n->zw L n (qk R) (w9 R)
 |.link p q,n+1,_=>xo (.cons (DV _) (.cons (DU _) (.cons (DU _) .nil)))
 |.ei r A,n+1,h=>xo (.cons (DV _) (.cons (DU _) (.cons (af (by simp[jj] at h;lia)) .nil)))
 |.bo r A B,n+1,h=>xo (.cons (DV _) (.cons (DU _) (.cons (af (by simp[jj] at h;lia)) (.cons (af (by simp[jj] at h;lia)) .nil))))
 |.cu p q A B,n+1,h=>xo (.cons (DV _) (.cons (DU _) (.cons (DU _) (.cons (af (by simp[jj] at h;lia)) (.cons (af (by simp[jj] at h;lia)) .nil)))))
 |.link _ _,0,h=>by simp[jj] at h
 |.ei _ _,0,h=>by simp[jj] at h
 |.bo _ _ _,0,h=>by simp[jj] at h
 |.cu _ _ _ _,0,h=>by simp[jj] at h
theorem kg:∀R:Ru,Da.eq (w9 R) (w9 R)=true
 |.link p q=>by simp[w9,Da.eq,Da.eqs,iL]
 |.ei r A=>by simp[w9,Da.eq,Da.eqs,iL,kg A]
 |.bo r A B=>by simp[w9,Da.eq,Da.eqs,iL,kg A,kg B]
 |.cu p q A B=>by simp[w9,Da.eq,Da.eqs,iL,kg A,kg B]
def fk(E:List Nat):List Da:=E.map λn:Nat=>Da.s (.int (n:Int))
theorem uC{L:qm}{n:Nat}:∀E:List Nat,Paired (zw L n) (z9 E) (fk E)
 |[]=>.nil
 |_::r=>.cons (DU _) (uC r)
theorem nX:∀E I:List Nat,Da.eqs (fk E) (fk I)=true↔E=I
 |[],[]=>by simp[fk,Da.eqs]
 |[],_::_=>by simp[fk,Da.eqs]
 |_::_,[]=>by simp[fk,Da.eqs]
 |x::r,y::J=>by
  have U:=nX r J;show(Da.eq (.s (.int (x:Int))) (.s (.int (y:Int)))&&Da.eqs (fk r) (fk J))=true↔_;rw[AK,U];have:Da.eq (.s (.int (x:Int))) (.s (.int (y:Int)))=true↔x=y:=by show decide ((x:Int)=(y:Int))=true↔_;rw[decide_eq_true_iff];lia
  rw[this];constructor
  ·rintro⟨rfl,rfl⟩;rfl
  ·intro e;injection e with g j;exact⟨g,j⟩
def dI(t:Tr):Da:=.lst [w9 t.R,.lst (fk t.E)]
theorem mU{t:Tr}(I:L t.a=some (.lst [qk t.R,.ref t.b]))(J:L t.b=some (.lst (z9 t.E)))(h:jj t.R<=n+1):zw L (n+2) (.ref t.a) (dI t):=
 jl I (.cons (af h) (.cons (jl J (uC _)) .nil))
theorem adv{t u:Tr}:Da.eq (dI t) (dI u)=true->t.E=u.E:=by intro h;have h:(Da.eq (w9 t.R) (w9 u.R)&&(Da.eqs (fk t.E) (fk u.E)&&true))=true:=h;rw[AK,AK] at h;exact(nX _ _).mp h.2.1
theorem ug(t:Tr):Da.eq (dI t) (dI t)=true:=by show(Da.eq (w9 t.R) (w9 t.R)&&(Da.eqs (fk t.E) (fk t.E)&&true))=true;rw[kg,(nX _ _).mpr rfl];rfl
theorem av.rd(h:av L0 L ka fa ks fo){t:Tr}(I:t∈fo):jj t.R<=ks.length:=by
 have h1:=v3 t.R;have nd:(qt t.R).Nodup:=by obtain⟨a,b,rfl⟩:=Dg I;have:=h.nd;rw[AC,AS,Av,Av] at this;exact this.2.1.1
 have:=ah _ _ nd λx J=>(h.sr t I).lt x J;exact ape
theorem av.one(h:av L0 L ka fa ks fo){t u:Tr}(hi:fo[i]?=some t)(I:fo[j]?=some u)(e:t.E=u.E):i=j:=by
 by_cases c:i=j
 ·exact c
 ·exfalso;have s:=h.sr t (AM hi);have l:=s.ends h.ok;obtain⟨x,J⟩:∃x,x∈t.E:=by cases g:t.E with|nil=>rw[g] at l;simp at l|cons x r=>exact⟨x,Ah ..⟩
  have o:=h.sr u (AM I);have p:=jr hi;have C:(u::(fo.eraseIdx i))=_:=rfl;have U:u∈fo.eraseIdx i:=by have:fo[j]?=some u:=I;rw[List.mem_eraseIdx_iff_getElem?];exact⟨j,λz=>c z.symm,I⟩
  obtain⟨a,b,T⟩:=Dg U;have nd:=(p.flatMap_right λt:Tr=>qt t.R).nodup_iff.mp h.nd;rw[AS,Av] at nd;exact nd.2.2 x (s.sub x J) x (A2.mpr ⟨u,U,o.sub x (e▸J)⟩) rfl
theorem qh.none(s:qh L L'){p:Addr}(h:L' p=none):L p=none:=by cases z:L p with|none=>rfl|some o=>rw[s _ _ z] at h;cases h
theorem av.nkf(h:av L0 L ka fa ks fo):ka≠fa:=by have ad:=h.ad;rw[Ay] at ad;exactλe=>ad.1 (e▸Ah ..)
theorem av.nk(h:av L0 L ka fa ks fo):∀t∈fo,t.a≠fa/\t.b≠fa/\t.a≠ka/\t.b≠ka:=λt I=>by have ad:=h.ad;rw[Ay,Ay] at ad;have J:t.a∈fo.flatMap Tr.ads:=A2.mpr ⟨t,I,by simp[Tr.ads]⟩;have U:t.b∈fo.flatMap Tr.ads:=A2.mpr ⟨t,I,by simp[Tr.ads]⟩;exact⟨λe=>ad.2.1 (e▸J),λe=>ad.2.1 (e▸U),λe=>ad.1 (Ac _ (e▸J)),λe=>ad.1 (Ac _ (e▸U))⟩
theorem av.setF(h:av L0 L ka fa ks fo)(o:LO):av L0 (qg L fa o) ka fa ks fo:=by
 refine⟨by rw[qd h.nkf];exact h.hk,λt I=>?_,h.sr,h.nd,h.tm,h.ad,h.ok,λb u e=>?_,h.fr⟩
 ·obtain⟨J,U,_,_⟩:=h.nk t I;rw[qd J,qd U];exact h.ht t I
 ·have:b≠fa:=λz=>by rw[z,h.fr fa (by simp)] at e;cases e
  rw[qd this];exact h.sub _ _ e
theorem av.mono(h:av L0 L ka fa ks fo)(s:qh L L'):av L0 L' ka fa ks fo:=
 ⟨s _ _ h.hk,λt I=>⟨s _ _ (h.ht t I).1,s _ _ (h.ht t I).2⟩,h.sr,h.nd,h.tm,h.ad,h.ok,h.sub.trans s,h.fr⟩
theorem av.exs(h:av L0 L ka fa ks fo):∀z∈fo.flatMap Tr.ads,∃o,L z=some o:=λz I=>by
 obtain⟨t,J,I⟩:=A2.mp I;obtain⟨h1,h2⟩:=h.ht t J;have I:z=t.a\/z=t.b:=by simpa[Tr.ads] using I
 rcases I with rfl|rfl
 ·exact⟨_,h1⟩
 ·exact⟨_,h2⟩
theorem rB{l:List Addr}{pb:Addr}(nd:l.Nodup)(ex:∀z∈l,∃o,L z=some o)(U:L pa=none)(g:L pb=none)(ne:pa≠pb):(l++[pa,pb]).Nodup:=by
 rw[Av];refine⟨nd,by simp[ne],λu j v J e=>?_⟩;subst e;obtain⟨o,I⟩:=ex u j;simp at J;rcases J with rfl|rfl
 ·rw[U] at I;cases I
 ·rw[g] at I;cases I
theorem iW:∀w:Wd,w.turn.turn=w
 |.leaf t n=>by simp[Wd.turn]
 |.node e l r=>by simp[Wd.turn,iW l,iW r]
theorem dk:∀w:Wd,w.turn.depth=w.depth
 |.leaf t n=>rfl
 |.node e l r=>by simp[Wd.turn,Wd.depth,dk l,dk r]
def Fd(ks:List Kn)(w:Wd)(rest:List Tr)(I J:Y):Prop:=(I=.non/\J=.non)\/∃(j:Nat) (u:Tr) (q:Nat),rest[j]?=some u/\q∈u.E/\cB ks q w.turn/\I=.ref u.a/\J=.int (q:Int)
theorem yE{g p:qm}{t1 u:Tr}{x q:Nat}{w:Wd}(B:av L0 g ka fa ks (t1::u::rest)){fs:LO}(hf:g fa=some fs)(hx:x∈t1.E)(hq:q∈u.E)(C:cB ks x w)(T:cB ks q w.turn){I:Addr}(s:qh g p)(a1:g I=none)
 (he:p I=some (.lst (z9 (jz t1.E u.E x q)))) (j:p pa=none) (hR:R=.cu x q t1.R u.R\/R=.cu q x u.R t1.R):av L0 (qg p pa (.lst [qk R,.ref I])) ka fa ks (rest++[⟨pa,I,R,jz t1.E u.E x q⟩]):=by
 have a2:I≠pa:=wu he j;have U:g pa=none:=s.none j;have s':qh g (qg p pa (.lst [qk R,.ref I])):=s.trans (By j);have s1:=B.sr t1 (by simp);have s2:=B.sr u (by simp);have o:∀z,z∈t1.E->z∈u.E->False:=λz h1 h2=>B.two z (s1.sub z h1) (s2.sub z h2);have k0:ks++[]=ks:=AX ks;have bm:=lr (E1:=t1.E) (E2:=u.E) (λh=>o x hx h) (λh=>o q h hq);have nod:=ln (l:=x) (r:=q) s1.nod s2.nod o;have st:=av.step (L':=qg p pa (.lst [qk R,.ref I])) (old:=[t1,u]) (rest:=rest) (ms:=[]) (t':=⟨pa,I,R,jz t1.E u.E x q⟩) B (by rw[k0];exact s' _ _ B.hk) ⟨q8,by rw[qd a2];exact he⟩ (λt ht=>?_) (B.sub.trans s') ?_ (λz J=>?_) (by rw[k0];exact B.ok) ?_ ?_
 ·rw[k0] at st;exact st
 ·obtain⟨h1,h2⟩:=B.ht t (Ac _ (Ac _ ht));rw[h1,h2];exact⟨s' _ _ h1,s' _ _ h2⟩
 ·have nd:(ka::fa::rest.flatMap Tr.ads).Nodup:=by
   have:=B.ad;rw[AS,AS,Ay,Ay,Av,Av] at this;rw[Ay,Ay];obtain⟨d1,d2,_,⟨_,d3,_⟩,_⟩:=this;refine⟨λz=>d1 ?_,λz=>d2 (Af _ (Af _ z)),d3⟩;rcases Ap.mp z with z|z
   ·rw[z];exact Ah ..
   ·exact Ac _ (Af _ (Af _ z))
  have:=rB (L:=g) nd (λz J=>?_) U a1 (AW a2)
  ·rw[AC];simpa[Tr.ads] using this
  ·rcases Ap.mp J with rfl|J
   ·exact⟨_,B.hk⟩
   ·rcases Ap.mp J with rfl|J
    ·exact⟨_,hf⟩
    ·exact B.exs z (by rw[AS,AS];exact Af _ (Af _ J))
 ·have J:z=pa\/z=I:=by simpa[Tr.ads] using J
  rcases J with rfl|rfl
  ·exact B.sub.none U
  ·exact B.sub.none a1
 ·rw[k0];rcases hR with rfl|rfl
  ·exact .cu s1 s2 hx hq C T bm nod
  ·exact .cu (w:=w.turn) s2 s1 hq hx T (by rw[iW];exact C) (λz=>by rw[bm];exact Or.comm) nod
 ·rcases hR with rfl|rfl
  ·show(qt t1.R++qt u.R).Perm _;simp
  ·show(qt u.R++qt t1.R).Perm _;simpa using List.perm_append_comm
def CJ(L0:qm)(ka fa:Addr)(ks:List Kn)(one two:Int)(t1:Tr)(x:Nat)(w:Wd)(n:Nat)(τ:jh)(L:qm):Prop:=∃ms u q rest c9 fF c11 c12,τ=[some (.ref ka),some (.ref fa),some (.int one),some (.int two),some (.ref t1.a),some (.int (x:Int)),some (au w),some (.ref u.a),some (.int ((q:Nat):Int)),c9,fF,c11,c12,none]/\
 av L0 L ka fa (ks++ms) (t1::u::rest)/\L fa=some (.lst (zd rest))/\q∈u.E/\cB (ks++ms) q w.turn/\ms.length<=10/\rest.length<=n
def mJ:xm:=λys L Q=>∃L0 ka fa ks fo,∃one two:Int,ys=[.ref ka,.ref fa,.int one,.int two]/\kQ L0 L ka fa ks fo/\1<=fo.length/\fo.length<=110/\ks.length<=110/\
 ∀L' pR fo',kQ L0 L' ka fa pR fo'->pR.length<=ks.length+10->1<=fo'.length->fo'.length<=fo.length->Q .non L'
theorem adi:∀ys L Q,mJ ys L Q->v0 (ais (wg 120) (bN 120) (bB 120) (bL 5)) 14 ys L Q:=by
 rintro ys L Q ⟨L0,U,fa,T,fo,one,two,rfl,F,h1,dr,da,q⟩;have big:=bg_;have a4:∀fo:List Tr,(zd fo).length=fo.length:=λfo=>Ab ..;obtain⟨j1,I,bh,a1,a2,a3,g⟩:=rf (k:=two) F.hf (by assumption);have l1:(fo.eraseIdx j1).length+1=fo.length:=by have:=(jr bh).length_eq;rw[AJ] at this;lia
 refine qc F.hf (qc F.hf ⟨(by show(0:Int)<((zd fo).length:Int);rw[a4];lia),qz F.hf ⟨a1,a2,ql a3 ?_⟩⟩);have B:av L0 (qg L fa (.lst ((zd fo).eraseIdx (two % ((zd fo).length:Int)).toNat))) U fa T (I::fo.eraseIdx j1):=(F.b.perm (jr bh)).setF _;generalize qg L fa (.lst ((zd fo).eraseIdx (two % ((zd fo).length:Int)).toNat))=L1 at g B;generalize fo.eraseIdx j1=rest at l1 g B;clear a1 a2 a3;have m1:I∈I::rest:=by simp
 obtain⟨a5,al⟩:=B.ht I m1;have aL:=a7 B m1;have s1:=B.sr I m1;obtain⟨x,hx,ex⟩:=oI aL.1 (two / 64);refine qc a5 ⟨⟨by decide,by decide⟩,qc a5 (qc al ⟨(by show(0:Int)<((z9 I.E).length:Int);rw[Ab];omega),qc al (ql ex ?_)⟩)⟩;obtain⟨w,hw,dR,bi⟩:=jZ B.ok (x+1) x (by exact Ct _) (s1.lt x (s1.sub x hx));have dS:=s1.lt x (s1.sub x hx);refine⟨U,ja T,x,w,rfl,B.hk,hw,by lia,?_⟩;have dV:w.turn.depth=w.depth:=dk w;refine qc g ⟨⟨by show _<=(((zd rest).length:Nat):Int);exact A8 _,by show(((zd rest).length:Nat):Int)<_;rw[a4];omega⟩,?_⟩;refine abt (λi τ L'=>∃v7 v8 c9 fF,τ=[some (.ref U),some (.ref fa),some (.int one),some (.int two),some (.ref I.a),some (.int (x:Int)),some (au w),some v7,some v8,c9,fF,none,none,none]/\L'=L1/\Fd T w rest v7 v8) ⟨_,_,_,_,rfl,rfl,.inl ⟨rfl,rfl⟩⟩ ?_ ?_
 ·rintro i τ L' hi ⟨v7,v8,c9,fF,rfl,rfl,fd⟩;have hi:i<rest.length:=by have:i<(((zd rest).length:Nat):Int).toNat:=hi;rw[a4] at this;assumption
  obtain⟨u,hu⟩:∃u,rest[i]?=some u:=⟨_,Aj hi⟩;have mu:u∈I::rest:=Ac _ (AM hu);obtain⟨ua,ub⟩:=B.ht u mu;have ei:(zd rest)[i]?=some (.ref u.a):=by unfold zd;rw[Am,hu];rfl
  have e0:(0:Int)+(i:Int)=((i:Nat):Int):=by simp +arith only
  rw[e0];have bj:dz (zd rest) ((i:Nat):Int)=some (.ref u.a):=zv ei;have le:=a7 B mu;have su:=B.sr u mu;refine qc g (ql bj (qc ua ?_));refine acm (ys:=z9 u.E) (wr ub) (λk τ ba=>∃v7 v8 fF,τ=[some (.ref U),some (.ref fa),some (.int one),some (.int two),some (.ref I.a),some (.int (x:Int)),some (au w),some v7,some v8,some (.int ((i:Nat):Int)),fF,none,none,none]/\ba=L'/\Fd T w rest v7 v8) ⟨_,_,_,rfl,rfl,fd⟩ ?_ ?_ ?_
  ·rintro k τ _ ⟨_,_,_,_,rfl,_⟩;rfl
  ·rintro k y τ ba ey ⟨v7,v8,fF,rfl,rfl,fd⟩;obtain⟨z,ez,rfl⟩:∃z:Nat,u.E[k]?=some z/\y=Y.int (z:Int):=by rw[Am] at ey;obtain⟨z,e1,e2⟩:=Au.mp ey;exact⟨z,e1,e2.symm⟩
   have hz:z∈u.E:=AM ez;rcases fd with⟨rfl,rfl⟩|⟨j,t,q0,h1,h2,h3,rfl,rfl⟩
   ·have de:=su.lt z (su.sub z hz);obtain⟨v,hv,e3,dv⟩:=jZ B.ok (z+1) z (by exact Ct _) de;refine⟨U,ja T,z,v,rfl,B.hk,hv,by lia,w,rfl,by lia,?_⟩;refine aap (u:=v) (v:=w.turn) (by lia) ?_;show ky (Da.eq (mI v) (mI w.turn)) _ _;refine adr (λc=>?_) λc=>?_
    ·have hh:=aem _ _ c;refine qc g (ql bj ?_);refine⟨_,DN _,?_⟩;exact⟨_,_,_,rfl,rfl,.inr ⟨i,u,z,hu,hz,hh▸hv,rfl,rfl⟩⟩
    ·refine⟨_,DN _,?_⟩;exact⟨_,_,_,rfl,rfl,.inl ⟨rfl,rfl⟩⟩
   ·refine⟨_,DN _,?_⟩;exact⟨_,_,_,rfl,rfl,.inr ⟨j,t,q0,h1,h2,h3,rfl,rfl⟩⟩
  ·rintro τ ba ⟨v7,v8,fF,rfl,rfl,fd⟩;refine⟨_,DN _,?_⟩;exact⟨_,_,_,_,rfl,rfl,fd⟩
 ·rintro τ L' ⟨v7,v8,c9,fF,rfl,rfl,fd⟩;rcases fd with⟨rfl,rfl⟩|⟨j,u,q0,hj,bb,bc,rfl,rfl⟩
  case' inl=>
   refine⟨w,rfl,by lia,?_⟩;show ky (decide ((w.size:Int) > 5)) _ _;refine jd (λc=>?_) λc=>?_
   case' refine_1=>
    refine qc g (qz g ⟨big _ (by rw[a4];lia),?_⟩);have er:zd rest++[.ref I.a]=zd (rest++[I]):=by unfold zd;rw[Ai];rfl
    rw[er];exact xr (q _ T (rest++[I]) ⟨(B.perm (BH _ _).symm).setF _,q8⟩ (by exact BA _ _) (by simp) (by rw[Ad];simp;exact vV))
   case' refine_2=>
    refine⟨CJ L0 U fa T one two I x w rest.length,?_,?_⟩
    ·refine⟨U,T,w,rfl,B.hk,(by have h1:=w.depth_le;have h2:=w.size_eq;lia),(by decide),bi,B.ok,by lia,λms R tp sp p hp ag=>?_⟩;refine qz q8 ?_;intro pb bd pa C;have dg:U≠p:=wu B.hk hp;have bf:qg L' U (.lst (ja (T++ms))) p=none:=by rw[qd (AW dg)];exact hp
     have sA:qh (qg L' U (.lst (ja (T++ms)))) _:=((By bf).trans (By bd)).trans (By (o:=.lst [qk R,.ref pb]) C);have bn:pb≠pa:=wu q8 C;have bp:qg L' U (.lst (ja (T++ms))) pb=none:=(By bf).none bd;have cm:qg L' U (.lst (ja (T++ms))) pa=none:=((By bf).trans (By bd)).none C;have ea:qg (qg (qg (qg L' U (.lst (ja (T++ms)))) p (.lst [qk R,.int (tp:Int),.int (sp:Int)])) pb (.lst [.int (tp:Int),.int (sp:Int)])) pa (.lst [qk R,.ref pb]) pa=some (.lst [qk R,.ref pb]):=q8;have eb:qg (qg (qg (qg L' U (.lst (ja (T++ms)))) p (.lst [qk R,.int (tp:Int),.int (sp:Int)])) pb (.lst [.int (tp:Int),.int (sp:Int)])) pa (.lst [qk R,.ref pb]) pb=some (.lst (z9 [tp,sp])):=by rw[qd bn];exact q8
     refine⟨ms,⟨pa,pb,R,[tp,sp]⟩,tp,rest,_,_,_,_,rfl,?_,sA _ _ (by rw[qd (AW B.nkf)];exact g),Ah ..,ag.wt,by have:=ag.len;lia,Al _⟩;generalize qg (qg (qg (qg L' U (.lst (ja (T++ms)))) p (.lst [qk R,.int (tp:Int),.int (sp:Int)])) pb (.lst [.int (tp:Int),.int (sp:Int)])) pa (.lst [qk R,.ref pb])=LF at sA ea eb;have keep:∀z o,z≠U->L' z=some o->LF z=some o:=λz o n e=>sA _ _ (by rw[qd n];exact e);have st:=av.step (L':=LF) (old:=[]) (rest:=I::rest) (ms:=ms) (t':=⟨pa,pb,R,[tp,sp]⟩) B (sA _ _ q8) ⟨ea,eb⟩ (λt ht=>?_) (λz o e=>?_) ?_ (λz hz=>?_) ag.ok ag.sr ?_
     ·exact st.perm ((BH _ _).trans (List.Perm.swap _ _ _))
     ·obtain⟨n1,n2,n3,n4⟩:=B.nk t ht;obtain⟨h1,h2⟩:=B.ht t ht;rw[h1,h2];exact⟨keep _ _ n3 h1,keep _ _ n4 h2⟩
     ·exact keep _ _ (λz=>by rw[z,B.fr U (by simp)] at e;cases e) (B.sub _ _ e)
     ·have:=rB (L:=qg L' U (.lst (ja (T++ms)))) B.ad (λz hz=>?_) cm bp (AW bn)
      ·rw[AC];simpa[Tr.ads] using this
      ·by_cases c:z=U
       ·rw[c];exact⟨_,q8⟩
       ·rw[qd c];rcases Ap.mp hz with rfl|hz
        ·exact absurd rfl c
        ·rcases Ap.mp hz with rfl|hz
         ·exact⟨_,g⟩
         ·exact B.exs z hz
     ·have hz:z=pa\/z=pb:=by simpa[Tr.ads] using hz
      cases e:L0 z with
      |none=>rfl
      |some o=>
       have n:z≠U:=λz'=>by rw[z',B.fr U (by simp)] at e;cases e
       have:=B.sub _ _ e;have e2:qg L' U (.lst (ja (T++ms))) z=some o:=by rw[qd n];exact this
       rcases hz with rfl|rfl
       ·rw[cm] at e2;cases e2
       ·rw[bp] at e2;cases e2
     ·rw[DA,AX];exact(AZ ag.nd Dp).mpr λz=>by rw[ag.tm,CG]
  case' inr=>
   refine⟨CJ L0 U fa T one two I x w rest.length,?_,?_⟩
   ·refine qc g (qz g ⟨rest.map dI,dI u,120,120,j,by decide,?_,?_,?_,⟨dI u,?_,ug u⟩,λk d hk ek=>?_,?_⟩)
    ·have dd:∀l:List Tr,(∀t∈l,t∈I::rest)->Paired (zw L' 120) (zd l) (l.map dI):=λl=>by
      induction l with
      |nil=>intro _;exact .nil
      |cons t r ih=>
       intro h;have mt:=h t (Ah ..);obtain⟨h1,h2⟩:=B.ht t mt;have:=B.rd mt;exact .cons (mU (n:=118) h1 h2 (by lia)) (ih λt ht=>h t (Ac _ ht))
     exact dd rest λt ht=>Ac _ ht
    ·have mt:u∈I::rest:=Ac _ (AM hj);obtain⟨h1,h2⟩:=B.ht u mt;have:=B.rd mt;exact mU (n:=118) h1 h2 (by omega)
    ·rw[Ab];exact(AL.mp hj).1
    ·rw[Am,hj];rfl
    ·rw[Am] at ek;obtain⟨v,ev,rfl⟩:=Au.mp ek;cases c:Da.eq (dI v) (dI u) with
     |false=>rfl
     |true=>
      have:=B.one (i:=k+1) (j:=j+1) (by simpa using ev) (by simpa using hj) (adv c);lia
    ·rw[jA];have B2:=(B.perm ((jr hj).cons _)).setF (.lst (zd (rest.eraseIdx j)));exact⟨[],u,q0,rest.eraseIdx j,_,_,_,_,rfl,(AX T).symm▸B2,q8,bb,(AX T).symm▸bc,Bi _,CB ..⟩
  all_goals
   rintro e4 L' ⟨ms,u,q0,J,c9,fF,c11,c12,rfl,B',hf,bb,bc,e5,e6⟩;have m1:I∈I::u::J:=by simp
   have m2:u∈I::u::J:=by simp
   obtain⟨a5,al⟩:=B'.ht I m1;obtain⟨bg,dj⟩:=B'.ht u m2;have aL:=a7 B' m1;have dp:=a7 B' m2;rw[Ad] at aL dp;refine qc a5 (qc bg ⟨_,_,al,dj,small (by rw[Ab,Ab];omega),λpp cv=>?_⟩);have en:z9 I.E++z9 u.E=z9 (I.E++u.E):=by unfold z9;rw[Ai]
   rw[en];refine xX (E:=I.E++u.E) (l:=x) (r:=q0) (k:=14) q8 (by rw[Ad];omega) (λy' Q' h=>h) (λ_=>rfl) λpe cy=>?_;have s4:qh L' (qg (qg L' pp (.lst (z9 (I.E++u.E)))) pe (.lst (z9 ((I.E++u.E).filter λz=>!decide (z=x\/z=q0))))):=(By cv).trans (By cy);have cP:qg (qg L' pp (.lst (z9 (I.E++u.E)))) pe (.lst (z9 ((I.E++u.E).filter λz=>!decide (z=x\/z=q0)))) pe=some (.lst (z9 (jz I.E u.E x q0))):=q8;have d0:L' pe=none:=(By cv).none cy;generalize qg (qg L' pp (.lst (z9 (I.E++u.E)))) pe (.lst (z9 ((I.E++u.E).filter λz=>!decide (z=x\/z=q0))))=L4 at s4 cP;have done:∀(R:Ru) pa,L4 pa=none->(R=.cu x q0 I.R u.R\/R=.cu q0 x u.R I.R)->Q .non (qg (qg L4 pa (.lst [qk R,.ref pe])) fa (.lst (zd J++[.ref pa]))):=λR pa C hR=>by
    have er:zd J++[.ref pa]=zd (J++[⟨pa,pe,R,jz I.E u.E x q0⟩]):=by unfold zd;rw[Ai];rfl
    rw[er];exact q _ (T++ms) (J++[⟨pa,pe,R,jz I.E u.E x q0⟩]) ⟨(yE B' hf hx bb (hw.more ms) bc s4 d0 cP C hR).setF _,q8⟩ (by rw[Ad];omega) (by simp) (by rw[Ad];simp;omega)
   refine⟨(by show(0:Int)<2;decide),?_⟩;show ky (decide (one % 2=0)) _ _;refine jd (λc=>?_) λc=>?_
   ·refine qc (s4 _ _ hf) (qc (s4 _ _ a5) (qc (s4 _ _ bg) λpa C=>?_));refine qz (By C _ _ (s4 _ _ hf)) ⟨big _ (by rw[a4];omega),?_⟩;exact xr (done _ pa C (.inl rfl))
   ·refine qc (s4 _ _ hf) (qc (s4 _ _ bg) (qc (s4 _ _ a5) λpa C=>?_));refine qz (By C _ _ (s4 _ _ hf)) ⟨big _ (by rw[a4];omega),?_⟩;exact xr (done _ pa C (.inr rfl))
theorem kQ.mono(h:kQ L0 L ka fa ks fo)(s:qh L L'):kQ L0 L' ka fa ks fo:=⟨h.b.mono s,s _ _ h.hf⟩
theorem av.plus{J:qm}{ms:List Kn}{t':Tr}{fs:LO}(B:av L0 L ka fa ks rest)(r:L fa=some fs)(sA:qh (qg L ka (.lst (ja (ks++ms)))) J)(C:J t'.a=some (.lst [qk t'.R,.ref t'.b]))(T:J t'.b=some (.lst (z9 t'.E)))
 (U:qg L ka (.lst (ja (ks++ms))) t'.a=none) (g:qg L ka (.lst (ja (ks++ms))) t'.b=none) (l:t'.a≠t'.b) (ok:bA (ks++ms)) (sr:SR (ks++ms) t'.R t'.E) (tm:∀x,x∈qt t'.R↔ks.length<=x/\x<ks.length+ms.length) (nd:(qt t'.R).Nodup):
 av L0 J ka fa (ks++ms) (rest++[t']):=by
 have keep:∀z o,z≠ka->L z=some o->J z=some o:=λz o n e=>sA _ _ (by rw[qd n];exact e);refine av.step (old:=[]) (rest:=rest) (ms:=ms) (t':=t') B (sA _ _ q8) ⟨C,T⟩ (λt p=>?_) (λz o e=>?_) ?_ (λz I=>?_) ok sr ?_
 ·obtain⟨n1,n2,n3,n4⟩:=B.nk t p;obtain⟨h1,h2⟩:=B.ht t p;rw[h1,h2];exact⟨keep _ _ n3 h1,keep _ _ n4 h2⟩
 ·exact keep _ _ (λz=>by rw[z,B.fr ka (by simp)] at e;cases e) (B.sub _ _ e)
 ·have:=rB (L:=qg L ka (.lst (ja (ks++ms)))) B.ad (λz I=>?_) U g l
  ·rw[AC];simpa[Tr.ads] using this
  ·by_cases c:z=ka
   ·rw[c];exact⟨_,q8⟩
   ·rw[qd c];rcases Ap.mp I with rfl|I
    ·exact absurd rfl c
    ·rcases Ap.mp I with rfl|I
     ·exact⟨_,r⟩
     ·exact B.exs z I
 ·have I:z=t'.a\/z=t'.b:=by simpa[Tr.ads] using I
  cases e:L0 z with
  |none=>rfl
  |some o=>
   have n:z≠ka:=λz'=>by rw[z',B.fr ka (by simp)] at e;cases e
   have:=B.sub _ _ e;have j:qg L ka (.lst (ja (ks++ms))) z=some o:=by rw[qd n];exact this
   rcases I with rfl|rfl
   ·rw[U] at j;cases j
   ·rw[g] at j;cases j
 ·rw[DA,AX];exact(AZ nd Dp).mpr λz=>by rw[tm,CG]
theorem kQ.link(F:kQ L0 L ka fa ks fo){nm:Str}(j:bw nm)(b:Bool){pb:Addr}(J:qg L ka (.lst (ja (ks++[.lf b nm,.lf (!b) nm]))) pb=none)
 (U:qg (qg L ka (.lst (ja (ks++[.lf b nm,.lf (!b) nm])))) pb (.lst (z9 [ks.length,ks.length+1])) pa=none) {fs:List Y} (g:fs=zd fo++[.ref pa]):
 kQ L0 (qg (qg (qg (qg L ka (.lst (ja (ks++[.lf b nm,.lf (!b) nm])))) pb (.lst (z9 [ks.length,ks.length+1]))) pa (.lst [qk (.link ks.length (ks.length+1)),.ref pb])) fa (.lst fs)) ka fa (ks++[.lf b nm,.lf (!b) nm]) (fo++[⟨pa,pb,.link ks.length (ks.length+1),[ks.length,ks.length+1]⟩]):=by
 have I:pb≠pa:=wu q8 U;have M:=qI F.b.ok (t:=!b) j;rw[Bool.not_not] at M;refine⟨(av.plus F.b F.hf ((By J).trans (By U)) q8 (by rw[qd I];exact q8) ((By J).none U) J (AW I) M.ok M.sr M.tm M.nd).setF _,?_⟩;rw[q8,g];unfold zd;rw[Ai];rfl
theorem av.dats(h:av L0 L ka fa ks fo)(g:ks.length<=120):Paired (zw L 124) (zd fo) (fo.map dI):=by
 have J:∀l:List Tr,(∀t∈l,t∈fo)->Paired (zw L 124) (zd l) (l.map dI):=λl=>by
  induction l with
  |nil=>intro _;exact .nil
  |cons t r U=>
   intro k;have mt:=k t (Ah ..);obtain⟨h1,h2⟩:=h.ht t mt;have:=h.rd mt;exact .cons (mU (n:=122) h1 h2 (by lia)) (U λt I=>k t (Ac _ I))
 exact J fo λt I=>I
theorem tJ(fo:List Tr):Da.eqs (fo.map dI) []=decide (fo=[]):=by cases fo<;>rfl
def TW(L0:qm)(ka fa:Addr)(s:Int)(room:Nat)(τ:jh)(L:qm):Prop:=∃c0 c5 c6 c7 c8 c9 fF ks fo,τ=[c0,some (.int s),some (.int (room:Int)),some (.ref ka),some (.ref fa),c5,c6,c7,c8,c9,fF]/\kQ L0 L ka fa ks fo/\ks.length+fo.length<=room
theorem TW.of{s:Int}{room:Nat}{c0 c5 c6 c7 c8 c9 fF:Option Y}(F:kQ L0 L ka fa ks fo)(h:ks.length+fo.length<=room):TW L0 ka fa s room [c0,some (.int s),some (.int (room:Int)),some (.ref ka),some (.ref fa),c5,c6,c7,c8,c9,fF] L:=⟨_,_,_,_,_,_,_,ks,fo,rfl,F,h⟩
def m6(p q:Nat×Nat):Prop:=p.1<q.1\/(p.1=q.1/\p.2<=q.2)
def qC(p:Nat×Nat):Int×Int:=((p.1:Int),(p.2:Int))
theorem vT{p q:Nat×Nat}(h:qC p=qC q):p=q:=by obtain⟨a,b⟩:=p;obtain⟨c,d⟩:=q;have h1:(a:Int)=c:=Bb Prod.fst h;have h2:(b:Int)=d:=Bb Prod.snd h;rw[BW.mp h1,BW.mp h2]
theorem qV(ps:List (Nat×Nat)):dO ps=(ps.map qC).map prY:=by rw[Bs];rfl
theorem akq{ps:List (Nat×Nat)}{Q:YK}(g:L a=some (.lst (dO ps)))(j:∀p∈ps,p.2<1000000)(nd:ps.Nodup)(l:ps.length<=63)
 (q:∀D I,L D=none->I.Perm ps->I.Pairwise m6->Q (.ref D) (qg L D (.lst (dO I)))):nS [.ref a] L Q:=by
 refine qz g ⟨ps.map qC,qV ps,λp o=>?_,?_,by rw[Ab];exact l,λD I t pm C=>?_⟩
 ·obtain⟨r,hr,rfl⟩:=AR.mp o;have:=j r hr;exact⟨A8 _,by show((r.2:Nat):Int)<1000000;omega⟩
 ·exact pK (λx _ y _ e=>vT e) nd
 ·obtain⟨T,pT,rfl⟩:=l8 qC pm rfl;rw[<-qV];refine q D T t pT ((BP.mp C).imp λ{x y} z=>?_);unfold m6;rcases z with z|⟨J,U⟩
  ·left;have z:((x.1:Nat):Int)<y.1:=z;lia
  ·right;have J:((x.1:Nat):Int)=y.1:=J;have U:((x.2:Nat):Int)<=y.2:=U;exact⟨by lia,by lia⟩
structure agm(L0:qm)(ks:List (Option Kn))(qs:List Nat)(d w D:Addr)(i ex:Nat)(f:Nat->Nat)(wd:List (Option Kn))(kvs:List (j7×Y))(L:qm):Prop where
 sub:qh L0 L
 hd:L d=some (.dct kvs)
 hw:L w=some (.lst (vo wd))
 hD:L D=some (.lst (nY qs))
 len:kvs.length<=i
 val:∀p:Nat,xt kvs (.inl (p:Int))=if p∈qs.take i then some (.int (f p:Int)) else none
 gap:zU ks (qs.take i) f wd
 wlen:wd.length<=2*i+ex
structure Ren(f:Nat->Nat)(ks wd:List (Option Kn)):Prop where
 gap:zU ks (List.range ks.length) f wd
 len:wd.length<=2*ks.length+1
theorem cx(wd:List (Option Kn)):(vo wd).length=wd.length:=Ab ..
def z0:Ru->List (Nat×Nat)
 |.link p q=>[(p,q)]
 |.ei _ A=>z0 A
 |.bo _ A B=>z0 A++z0 B
 |.cu _ _ A B=>z0 A++z0 B
def za:Ru->List (Nat×Nat)
 |.link _ _=>[]
 |.ei _ A=>za A
 |.bo _ A B=>za A++za B
 |.cu p q A B=>(p,q)::(za A++za B)
def k6:Ru->Nat
 |.link _ _=>1
 |.ei _ A=>k6 A+1
 |.bo _ A B=>k6 A+k6 B+1
 |.cu _ _ A B=>k6 A+k6 B+1
def zo:Ru->List Ru
 |.link _ _=>[]
 |.ei _ A=>[A]
 |.bo _ A B=>[A,B]
 |.cu _ _ A B=>[A,B]
def aco:Ru->List (Nat×Nat)
 |.link p q=>[(p,q)]
 |_=>[]
def adn:Ru->List (Nat×Nat)
 |.cu p q _ _=>[(p,q)]
 |_=>[]
theorem jP(A:Ru):((zo A).map k6).sum+1=k6 A:=by cases A<;>simp[k6,zo]
theorem iC(A:Ru):0<k6 A:=by cases A<;>simp[k6]
theorem aR{A B:Ru}(h:B∈zo A):jj B<jj A:=by cases A<;>simp[zo] at h<;>(try rcases h with rfl|rfl)<;>(try subst h)<;>simp[jj]<;>omega
theorem uO(l:List (Nat×Nat))(p:Nat×Nat):dO l++[prN p]=dO (l++[p]):=by unfold dO;rw[Ai];rfl
theorem xG(st:List Ru):Da.eqs (st.map w9) []=decide (st=[]):=by cases st<;>rfl
theorem dm{L:qm}{n:Nat}:∀{st:List Ru},(∀A∈st,jj A<=n)->Paired (zw L n) (st.map qk) (st.map w9)
 |[],_=>.nil
 |A::r,h=>.cons (af (h A (Ah ..))) (dm λB I=>h B (Ac _ I))
open Classical in
def xw(lk:List (Nat×Nat)):List Nat:=lk.flatMap λx=>[x.1,x.2]
theorem aG(a b:List (Nat×Nat)):xw (a++b)=xw a++xw b:=by unfold xw;rw[AC]
theorem jQ(x:Nat×Nat):xw [x]=[x.1,x.2]:=by simp[xw]
theorem aix{f:Option Kn->Bool}{ks:List (Option Kn)}{p:Nat}{k:Option Kn}(h:ks[p]?=some k)(I:f k=true)(hi:p<i):p∈whr f ks i:=by unfold whr;refine AO.mpr ⟨A5.mpr hi,?_⟩;simp only[h];exact I
theorem kB{ct:List (Nat×Nat)}{c:Nat×Nat}(h:c∈ct):c.1∈xw ct/\c.2∈xw ct:=by
 induction ct with
 |nil=>cases h
 |cons d r I=>
  have e:xw (d::r)=[d.1,d.2]++xw r:=by rw[<-jQ,<-aG];rfl
  rw[e];rcases Ap.mp h with rfl|h
  ·simp
  ·obtain⟨a,b⟩:=I h;exact⟨Af _ a,Af _ b⟩
def i4(x:Nat×Nat):Da:=.tup [.s (.int (x.1:Int)),.s (.int (x.2:Int))]
theorem tN(x y:Nat×Nat):Da.eq (i4 x) (i4 y)=decide (x=y):=by show(decide ((x.1:Int)=(y.1:Int))&&(decide ((x.2:Int)=(y.2:Int))&&true))=_;rw[Cz,<-Bool.decide_and];exact DB.mpr ⟨λ⟨h1,h2⟩=>Prod.ext (BW.mp h1) (BW.mp h2),λh=>by subst h;exact⟨rfl,rfl⟩⟩
theorem cK{L:qm}:∀l:List (Nat×Nat),Paired (zw L 1) (dO l) (l.map i4)
 |[]=>.nil
 |_::r=>.cons (xo (.cons (DU _) (.cons (DU _) .nil))) (cK r)
theorem gH(c:Nat×Nat)(r:List (Nat×Nat)):xw (c::r)=c.1::c.2::xw r:=by
 have e:xw (c::r)=[c.1,c.2]++xw r:=by rw[<-jQ,<-aG];rfl
 rw[e];rfl
theorem df:∀{l:List (Nat×Nat)},(xw l).Nodup->l.Nodup
 |[],_=>B5
 |c::r,h=>by rw[gH] at h;have h1:=Ay.mp h;have h2:=Ay.mp h1.2;exact Ay.mpr ⟨λI=>h1.1 (Ac _ (kB I).1),df h2.2⟩
theorem ku:∀R:Ru,k6 R+1<=(qt R).length
 |.link _ _=>Al _
 |.ei r A=>by have:=ku A;show k6 A+1+1<=(r::qt A).length;rw[AJ];exact ai6
 |.bo r A B=>by have:=ku A;have:=ku B;show k6 A+k6 B+1+1<=(r::(qt A++qt B)).length;rw[AJ,Ad];lia
 |.cu _ _ A B=>by have:=ku A;have:=ku B;show k6 A+k6 B+1+1<=(qt A++qt B).length;rw[Ad];lia
theorem aaq(ok:bA ks):OkO (ks.map some):=by intro p e i j h;rw[Am] at h;obtain⟨k,I,J⟩:=Au.mp h;cases J;exact ok p _ I
theorem vh(ks:List Kn):vo (ks.map some)=ja ks:=by show(ks.map some).map uk=ks.map kO;rw[Bs];rfl
theorem KW.lf{p:Nat}{t:Bool}{n:Str}(h:wd[p]?=some (some (.lf t n))):KW (vo wd) p (.leaf t n):=by show(vo wd)[p]?=_;rw[Am,h];rfl
theorem KW.nd{p:Nat}{e:Bool}{l r:Wd}(h:wd[p]?=some (some (.nd e i j)))(I:KW (vo wd) i l)(J:KW (vo wd) j r):KW (vo wd) p (.node e l r):=
 ⟨i,j,by rw[Am,h];rfl,I,J⟩
theorem wK{k:Kn}{t:Bool}{n:Str}(h:kO k=.tup [.str (kL t),.str n]):k=.lf t n:=by
 cases k with
 |lf u m=>
  have h1:kL u=kL t:=by injection h with h;injection h with h _;injection h
  have h2:m=n:=by injection h with h;injection h with _ h;injection h with h _;injection h
  subst h2;cases u<;>cases t<;>first|rfl|(exfalso;revert h1;decide)
 |nd e i j=>injection h with h;injection h with _ h;injection h with _ h;cases h
theorem wJ{k:Kn}{e:Bool}(h:kO k=.tup [.str (kN e),.int (i:Int),.int (j:Int)]):k=.nd e i j:=by
 cases k with
 |lf u m=>injection h with h;injection h with _ h;injection h with _ h;cases h
 |nd b I J=>
  have h1:kN b=kN e:=by injection h with h;injection h with h _;injection h
  have h2:((I:Nat):Int)=i:=by injection h with h;injection h with _ h;injection h with h _;injection h
  have h3:((J:Nat):Int)=j:=by injection h with h;injection h with _ h;injection h with _ h;injection h with h _;injection h
  have h2:=BW.mp h2;have h3:=BW.mp h3;subst h2 h3;cases b<;>cases e<;>first|rfl|(exfalso;revert h1;decide)
theorem zN{p:Nat}(h:(vo wd)[p]?=some y):∃o,wd[p]?=some o/\uk o=y:=by rw[Am] at h;obtain⟨o,a,b⟩:=Au.mp h;exact⟨o,a,b⟩
theorem KW.inv_lf{p:Nat}{t:Bool}{n:Str}(h:KW (vo wd) p (.leaf t n)):wd[p]?=some (some (.lf t n)):=by
 obtain⟨o,a,b⟩:=zN (show(vo wd)[p]?=some (.tup [.str (kL t),.str n]) from h);cases o with
 |none=>cases b
 |some k=>rw[a,wK b]
theorem KW.inv_nd{p:Nat}{e:Bool}{l r:Wd}(h:KW (vo wd) p (.node e l r)):∃i j,wd[p]?=some (some (.nd e i j))/\KW (vo wd) i l/\KW (vo wd) j r:=by
 obtain⟨i,j,h1,h2,h3⟩:=h;obtain⟨o,a,b⟩:=zN h1;cases o with
 |none=>cases b
 |some k=>exact⟨i,j,by rw[a,wJ b],h2,h3⟩
theorem Ren.inv{f:Nat->Nat}(r:Ren f wh wd){x:Nat}{k:Kn}(h:wd[x]?=some (some k)):∃p,p<wh.length/\x=f p/\∃o,wh[p]?=some o/\gB f o=some k:=by obtain⟨p,I,e⟩:=r.gap.only x k h;have I:=A5.mp I;have:=r.gap.at_ p (A5.mpr I) _ (Aj I);rw[<-e,h] at this;exact⟨p,I,e,_,Aj I,(AN this).symm⟩
theorem Ren.word{f:Nat->Nat}(r:Ren f wh wd):∀{w:Wd} {p:Nat},KW (vo wh) p w->KW (vo wd) (f p) w
 |.leaf t n,p,h=>by have e:=h.inv_lf;exact KW.lf (r.gap.at_ p (A5.mpr (xq e)) _ e)
 |.node b l rr,p,h=>by obtain⟨i,j,e,I,J⟩:=h.inv_nd;exact KW.nd (r.gap.at_ p (A5.mpr (xq e)) _ e) (r.word I) (r.word J)
def fj(ks:List Kn)(l:List Nat):List Nat:=l.flatMap λp=>aq ks[p]?
theorem hZ(ks:List Kn)(a b:List Nat):fj ks (a++b)=fj ks a++fj ks b:=by unfold fj;rw[AC]
theorem aA(ks:List Kn)(x:Nat)(l:List Nat):fj ks (x::l)=aq ks[x]?++fj ks l:=AS ..
theorem ay{E:List Nat}(h:E.Nodup)(hi:i∈E):E.Perm ([i]++E.filter λx=>!decide (x=i)):=by
 refine(AZ h ?_).mpr λx=>?_
 ·refine Ay.mpr ⟨λz=>?_,h.filter _⟩;have:=(AO.mp z).2;simp at this
 ·rw[Ao,Ag,AO];constructor
  ·intro I;by_cases c:x=i
   ·exact .inl c
   ·exact .inr ⟨I,by simp[c]⟩
  ·rintro(rfl|I)
   ·exact hi
   ·exact I.1
theorem SR.part{E:List Nat}(h:SR ks R E):(qt R).Nodup->(fj ks (qt R)++(xw (za R)++E)).Perm (qt R):=by
 induction h with
 |@link p q t n U h1 h2 h3 o C=>
  intro _;have e:fj ks [p,q]=[]:=by rw[aA,aA,h2,h3];rfl
  show(fj ks [p,q]++([]++U)).Perm [p,q];rw[e,Co,Co];refine(AZ C (by simp;lia)).mpr λx=>?_;rw[o x];simp
 |@ei r i j A g U h1 T h3 o C h6 h7 ih=>
  intro nd;obtain⟨n1,n2⟩:=Ay.mp nd;have ih:=ih n2;have l:g.Nodup:=(Av.mp (Av.mp (ih.nodup_iff.mpr n2)).2.1).2.1;have p1:=ay l h3;have p2:(g.filter λx=>!decide (x=i)).Perm _:=ay (l.filter _) (i:=j) (AO.mpr ⟨o,by simp;exact AW C⟩);have p3:U.Perm ([r]++(g.filter λx=>!decide (x=i)).filter λx=>!decide (x=j)):=by
   refine(AZ h7 (Ay.mpr ⟨λz=>n1 (T.sub _ (AO.mp (AO.mp z).1).1),(l.filter _).filter _⟩)).mpr λx=>?_;rw[h6 x,Ap,AO,AO];simp only[BO,decide_eq_false_iff_not];constructor
   ·rintro(⟨a,b,c⟩|rfl)
    ·exact .inr ⟨⟨a,b⟩,c⟩
    ·exact .inl rfl
   ·rintro(rfl|⟨⟨a,b⟩,c⟩)
    ·exact .inr rfl
    ·exact .inl ⟨a,b,c⟩
  show(fj ks (r::qt A)++(xw (za A)++U)).Perm ([r]++qt A);rw[aA,h1];show((([i]++[j])++fj ks (qt A))++(xw (za A)++U)).Perm _;refine Bz.mpr λa=>?_;have c1:=p1.count_eq a;have c2:=p2.count_eq a;have c3:=p3.count_eq a;have c4:=ih.count_eq a;simp only[BD] at c1 c2 c3 c4 ⊢;lia
 |@bo r i j A B g EB U h1 T hB o C h6 h7 I J=>
  intro nd;obtain⟨n1,n2⟩:=Ay.mp nd;obtain⟨m1,m2,m3⟩:=Av.mp n2;have I:=I m1;have J:=J m2;have l:g.Nodup:=(Av.mp (Av.mp (I.nodup_iff.mpr m1)).2.1).2.1;have nB:EB.Nodup:=(Av.mp (Av.mp (J.nodup_iff.mpr m2)).2.1).2.1;have p1:=ay l o;have p2:=ay nB C;have p3:U.Perm ([r]++((g.filter λx=>!decide (x=i))++EB.filter λx=>!decide (x=j))):=by
   refine(AZ h7 (Ay.mpr ⟨λz=>n1 ?_,Av.mpr ⟨l.filter _,nB.filter _,λa ha b hb=>m3 a (T.sub _ (AO.mp ha).1) b (hB.sub _ (AO.mp hb).1)⟩⟩)).mpr λx=>?_
   ·rcases Ao.mp z with z|z
    ·exact Aq _ (T.sub _ (AO.mp z).1)
    ·exact Af _ (hB.sub _ (AO.mp z).1)
   ·rw[h6 x,Ap,Ao,AO,AO];simp only[BO,decide_eq_false_iff_not];constructor
    ·rintro(a|a|rfl)
     ·exact .inr (.inl a)
     ·exact .inr (.inr a)
     ·exact .inl rfl
    ·rintro(rfl|a|a)
     ·exact .inr (.inr rfl)
     ·exact .inl a
     ·exact .inr (.inl a)
  show(fj ks (r::(qt A++qt B))++(xw (za A++za B)++U)).Perm ([r]++(qt A++qt B));rw[aA,h1,hZ,aG];show((([i]++[j])++(fj ks (qt A)++fj ks (qt B)))++((xw (za A)++xw (za B))++U)).Perm _;refine Bz.mpr λa=>?_;have c1:=p1.count_eq a;have c2:=p2.count_eq a;have c3:=p3.count_eq a;have c4:=I.count_eq a;have c5:=J.count_eq a;simp only[BD] at c1 c2 c3 c4 c5 ⊢;lia
 |@cu p q A B g EB U w T hB h3 o C h6 h7 h8 I J=>
  intro n2;obtain⟨m1,m2,m3⟩:=Av.mp (show(qt A++qt B).Nodup from n2);have I:=I m1;have J:=J m2;have l:g.Nodup:=(Av.mp (Av.mp (I.nodup_iff.mpr m1)).2.1).2.1;have nB:EB.Nodup:=(Av.mp (Av.mp (J.nodup_iff.mpr m2)).2.1).2.1;have p1:=ay l h3;have p2:=ay nB o;have p3:U.Perm ((g.filter λx=>!decide (x=p))++EB.filter λx=>!decide (x=q)):=by refine(AZ h8 (Av.mpr ⟨l.filter _,nB.filter _,λa ha b hb=>m3 a (T.sub _ (AO.mp ha).1) b (hB.sub _ (AO.mp hb).1)⟩)).mpr λx=>?_;rw[h7 x,Ao,AO,AO];simp only[BO,decide_eq_false_iff_not]
  show(fj ks (qt A++qt B)++(xw ((p,q)::(za A++za B))++U)).Perm (qt A++qt B);rw[hZ,gH,aG];show((fj ks (qt A)++fj ks (qt B))++(([p]++[q]++(xw (za A)++xw (za B)))++U)).Perm _;refine Bz.mpr λa=>?_;have c1:=p1.count_eq a;have c2:=p2.count_eq a;have c3:=p3.count_eq a;have c4:=I.count_eq a;have c5:=J.count_eq a;simp only[BD] at c1 c2 c3 c4 c5 ⊢;lia
theorem Ren.inj{f:Nat->Nat}(r:Ren f wh wd){a b:Nat}(I:a<wh.length)(J:b<wh.length)(e:f a=f b):a=b:=r.gap.inj a (A5.mpr I) b (A5.mpr J) e
def lfB:Option Kn->Bool
 |some (.lf _ _)=>true
 |_=>false
theorem SR.leaves{E:List Nat}(h:SR ks R E):(xw (z0 R)).Perm ((qt R).filter λp=>lfB ks[p]?):=by
 induction h with
 |@link p q t n U h1 h2 h3 g l=>
  show(xw [(p,q)]).Perm ([p,q].filter λp=>lfB ks[p]?);rw[jQ,Bw,Bw,h2,h3];exact BC _
 |@ei r i j A o U h1 C h3 g l T h7 ih=>
  show(xw (z0 A)).Perm ((r::qt A).filter λp=>lfB ks[p]?);rw[Bw,h1];exact ih
 |@bo r i j A B o EB U h1 C hB g l T h7 I J=>
  show(xw (z0 A++z0 B)).Perm ((r::(qt A++qt B)).filter λp=>lfB ks[p]?);rw[Bw,h1,aG];show(xw (z0 A)++xw (z0 B)).Perm ((qt A++qt B).filter λp=>lfB ks[p]?);rw[BB];exact I.append J
 |@cu p q A B o EB U w C hB h3 g l T h7 h8 I J=>
  show(xw (z0 A++z0 B)).Perm ((qt A++qt B).filter λp=>lfB ks[p]?);rw[aG,BB];exact I.append J
theorem gD{f:Nat->Nat}:∀{l:List Nat},l.Nodup->(∀a∈l,∀b∈l,f a=f b->a=b)->(l.map f).Nodup
 |[],_,_=>B5
 |a::r,h,g=>by obtain⟨h1,h2⟩:=Ay.mp h;rw[AA,Ay];refine⟨λz=>?_,gD h2 λx J y U=>g x (Ac _ J) y (Ac _ U)⟩;obtain⟨b,I,e⟩:=AR.mp z;exact h1 (g b (Ac _ I) a (Ah ..) e▸I)
def lT(f:Nat->Nat):Ru->Ru
 |.link p q=>.link (min (f p) (f q)) (max (f p) (f q))
 |.ei r A=>.ei (f r) (lT f A)
 |.bo r A B=>.bo (f r) (lT f A) (lT f B)
 |.cu p q A B=>.cu (f p) (f q) (lT f A) (lT f B)
theorem bx(f:Nat->Nat):∀R:Ru,(qt (lT f R)).Perm ((qt R).map f)
 |.link p q=>by
  show [min (f p) (f q),max (f p) (f q)].Perm [f p,f q];by_cases h:f p<=f q
  ·rw[BL h,CQ h]
  ·rw[Dw (by lia),CZ (by lia)];exact List.Perm.swap _ _ _
 |.ei r A=>(bx f A).cons _
 |.bo r A B=>by show(f r::(qt (lT f A)++qt (lT f B))).Perm (f r::(qt A++qt B).map f);rw[Ai];exact((bx f A).append (bx f B)).cons _
 |.cu p q A B=>by show(qt (lT f A)++qt (lT f B)).Perm ((qt A++qt B).map f);rw[Ai];exact(bx f A).append (bx f B)
theorem mZ{x:Nat}{k:Kn}(h:(ks.map some)[x]?=some (some k)):ks[x]?=some k:=by rw[Am] at h;obtain⟨I,e,z⟩:=Au.mp h;cases z;exact e
theorem SR.ren{f:Nat->Nat}(r:Ren f (ks.map some) (pR.map some)){E:List Nat}(h:SR ks R E):SR pR (lT f R) (E.map f):=by
 have inj:∀{a b:Nat},a<ks.length->b<ks.length->f a=f b->a=b:=λha hb e=>r.inj (by rw[Ab];exact ha) (by rw[Ab];exact hb) e;have a3:∀{p:Nat} {k:Kn},ks[p]?=some k->(pR.map some)[f p]?=some (gB f (some k)):=λ{p k} e=>r.gap.at_ p (A5.mpr (by rw[Ab];exact xq e)) _ (by rw[Am,e];rfl)
 have lf:∀{p:Nat} {t:Bool} {n:Str},ks[p]?=some (.lf t n)->pR[f p]?=some (.lf t n):=λe=>mZ (a3 e);have nd:∀{p i j:Nat} {e:Bool},ks[p]?=some (.nd e i j)->pR[f p]?=some (.nd e (f i) (f j)):=λe=>mZ (a3 e);have el:∀{A:Ru} {U:List Nat},SR ks A U->∀x∈U,x<ks.length:=λs x g=>s.lt x (s.sub x g);have nod:∀{A:Ru} {U:List Nat},SR ks A U->(U.map f).Nodup:=λs=>gD s.nod λa ha b hb=>inj (el s a ha) (el s b hb);have wd:∀{p:Nat} {w:Wd},cB ks p w->cB pR (f p) w:=λ{p w} hw=>by have:=r.word (w:=w) (p:=p) (by rw[vh];exact hw);rw[vh] at this;exact this
 have rm:∀{A:Ru} {U:List Nat} {i y:Nat},SR ks A U->i∈U->y∈U->y≠i->f y≠f i:=λs hi C ne z=>ne (inj (el s _ C) (el s _ hi) z)
 induction h with
 |@link p q t n E h1 h2 h3 I l=>
  have s:SR ks (.link p q) E:=.link h1 h2 h3 I l;have ne:f p≠f q:=λz=>by have:=inj (xq h2) (xq h3) z;lia
  have me:∀x,x∈E.map f↔x=f p\/x=f q:=λx=>by
   rw[AR];constructor
   ·rintro⟨y,C,rfl⟩;rcases (I y).mp C with rfl|rfl
    ·exact .inl rfl
    ·exact .inr rfl
   ·rintro(rfl|rfl)
    ·exact⟨p,(I p).mpr (.inl rfl),rfl⟩
    ·exact⟨q,(I q).mpr (.inr rfl),rfl⟩
  show SR pR (.link (min (f p) (f q)) (max (f p) (f q))) _;by_cases c:f p<=f q
  ·rw[BL c,CQ c];exact .link (by lia) (lf h2) (lf h3) me (nod s)
  ·rw[Dw (by lia),CZ (by lia)];exact .link (by lia) (lf h3) (by rw[Bool.not_not];exact lf h2) (λx=>(me x).trans Or.comm) (nod s)
 |@ei r i j A U E h1 o h3 I l J T ih=>
  have s:SR ks (.ei r A) E:=.ei h1 o h3 I l J T;refine .ei (nd h1) ih (AR.mpr ⟨i,h3,rfl⟩) (AR.mpr ⟨j,I,rfl⟩) (rm o I h3 l) (λx=>?_) (nod s);rw[AR];constructor
  ·rintro⟨y,C,rfl⟩;rcases (J y).mp C with⟨a,b,c⟩|rfl
   ·exact .inl ⟨AR.mpr ⟨y,a,rfl⟩,rm o h3 a b,rm o I a c⟩
   ·exact .inr rfl
  ·rintro(⟨g,b,c⟩|rfl)
   ·obtain⟨y,a,rfl⟩:=AR.mp g;exact⟨y,(J y).mpr (.inl ⟨a,λz=>b (by rw[z]),λz=>c (by rw[z])⟩),rfl⟩
   ·exact⟨r,(J r).mpr (.inr rfl),rfl⟩
 |@bo r i j A B U EB E h1 o hB I l J T a1 a2=>
  have s:SR ks (.bo r A B) E:=.bo h1 o hB I l J T;refine .bo (nd h1) a1 a2 (AR.mpr ⟨i,I,rfl⟩) (AR.mpr ⟨j,l,rfl⟩) (λx=>?_) (nod s);rw[AR];constructor
  ·rintro⟨y,C,rfl⟩;rcases (J y).mp C with⟨a,b⟩|⟨a,b⟩|rfl
   ·exact .inl ⟨AR.mpr ⟨y,a,rfl⟩,rm o I a b⟩
   ·exact .inr (.inl ⟨AR.mpr ⟨y,a,rfl⟩,rm hB l a b⟩)
   ·exact .inr (.inr rfl)
  ·rintro(⟨g,b⟩|⟨g,b⟩|rfl)
   ·obtain⟨y,a,rfl⟩:=AR.mp g;exact⟨y,(J y).mpr (.inl ⟨a,λz=>b (by rw[z])⟩),rfl⟩
   ·obtain⟨y,a,rfl⟩:=AR.mp g;exact⟨y,(J y).mpr (.inr (.inl ⟨a,λz=>b (by rw[z])⟩)),rfl⟩
   ·exact⟨r,(J r).mpr (.inr (.inr rfl)),rfl⟩
 |@cu p q A B U EB E w o hB h3 I l J T h8 a1 a2=>
  have s:SR ks (.cu p q A B) E:=.cu o hB h3 I l J T h8;refine .cu a1 a2 (AR.mpr ⟨p,h3,rfl⟩) (AR.mpr ⟨q,I,rfl⟩) (wd l) (wd J) (λx=>?_) (nod s);rw[AR];constructor
  ·rintro⟨y,C,rfl⟩;rcases (T y).mp C with⟨a,b⟩|⟨a,b⟩
   ·exact .inl ⟨AR.mpr ⟨y,a,rfl⟩,rm o h3 a b⟩
   ·exact .inr ⟨AR.mpr ⟨y,a,rfl⟩,rm hB I a b⟩
  ·rintro(⟨g,b⟩|⟨g,b⟩)
   ·obtain⟨y,a,rfl⟩:=AR.mp g;exact⟨y,(T y).mpr (.inl ⟨a,λz=>b (by rw[z])⟩),rfl⟩
   ·obtain⟨y,a,rfl⟩:=AR.mp g;exact⟨y,(T y).mpr (.inr ⟨a,λz=>b (by rw[z])⟩),rfl⟩
theorem ahg{f:Nat->Nat}(ok:bA ks)(r:Ren f (ks.map some) (pR.map some)):bA pR:=λp k e=>by
 have J:(pR.map some)[p]?=some (some k):=by rw[Am,e];rfl
 obtain⟨y,g,rfl,o,U,I⟩:=r.inv J;cases k with
 |nd b i j=>exact r.gap.ok _ b i j J
 |lf t n=>
  cases o with
  |none=>cases I
  |some o=>
   cases o with
   |nd b i j=>cases I
   |lf l C=>
    cases I;exact ok y _ (mZ U)
structure yh(ks:List Kn)(R:Ru)(E:List Nat):Prop where
 ok:bA ks
 sr:SR ks R E
 nd:(qt R).Nodup
 len:ks.length<=96
theorem yh.ren{f:Nat->Nat}{E:List Nat}(ok:bA ks)(I:SR ks R E)(tp:(qt R).Perm (List.range ks.length))(j:ks.length<=96)(r:Ren f (ks.map some) (pR.map some))(l:pR.length=ks.length):yh pR (lT f R) (E.map f)/\(qt (lT f R)).Perm (List.range pR.length):=by have S:=I.ren r;have nd:(qt (lT f R)).Nodup:=(bx f R).nodup_iff.mpr (gD (tp.nodup_iff.mpr B7) λa U b g e=>r.inj (by rw[Ab];exact I.lt a U) (by rw[Ab];exact I.lt b g) e);refine⟨⟨ahg ok r,S,nd,by lia⟩,(AZ nd B7).mpr λx=>⟨λh=>A5.mpr (S.lt x h),λh=>?_⟩⟩;have h:=A5.mp h;obtain⟨y,J,e⟩:=r.gap.only x pR[x] (by rw[Am,Aj h];rfl);rw[Ab] at J;exact(bx f R).mem_iff.mpr (AR.mpr ⟨y,tp.mem_iff.mpr J,e.symm⟩)
def sF:Ru->List Nat
 |.link p q=>[p,q]
 |.ei r _=>[r]
 |.bo r _ _=>[r]
 |.cu _ _ _ _=>[]
theorem wB(A:Ru):qt A=sF A++(zo A).flatMap qt:=by cases A<;>simp[qt,sF,zo]
def jq:Ru->List Ru
 |.link p q=>[.link p q]
 |.ei r A=>.ei r A::jq A
 |.bo r A B=>.bo r A B::(jq A++jq B)
 |.cu p q A B=>.cu p q A B::(jq A++jq B)
theorem aD(A:Ru):jq A=A::(zo A).flatMap jq:=by cases A<;>simp[jq,zo]
theorem ai:∀A:Ru,(jq A).length=k6 A
 |.link _ _=>rfl
 |.ei _ A=>by show(jq A).length+1=_;rw[ai A];rfl
 |.bo _ A B=>by show(jq A++jq B).length+1=_;rw[Ad,ai A,ai B];rfl
 |.cu _ _ A B=>by show(jq A++jq B).length+1=_;rw[Ad,ai A,ai B];rfl
def lg(ks:List Kn):Ru->List (List Nat)
 |.link _ _=>[]
 |.ei r _=>[aq ks[r]?]
 |.bo r _ _=>(aq ks[r]?).map λx=>[x]
 |.cu p q _ _=>[[p],[q]]
def als(ks:List Kn)(B:Ru)(t:List Nat):Prop:=∃I,SR ks B I/\∀x∈t,x∈I
theorem SR.arms{E:List Nat}(h:SR ks R E):Paired (als ks) (zo R) (lg ks R):=by
 cases h with
 |link=>exact .nil
 |@ei r i j A J _ h1 U h3 g=>
  show Paired _ [A] [aq ks[r]?];rw[h1];refine .cons ⟨J,U,λx I=>?_⟩ .nil;have I:x∈[i,j]:=I;rcases Ap.mp I with rfl|I
  ·exact h3
  ·rw[Ag.mp I];exact g
 |@bo r i j A B J l _ h1 U o g t=>
  show Paired _ [A,B] ((aq ks[r]?).map λx=>[x]);rw[h1];exact .cons ⟨J,U,λx I=>by rw[Ag.mp I];exact g⟩ (.cons ⟨l,o,λx I=>by rw[Ag.mp I];exact t⟩ .nil)
 |@cu p q A B J l _ w U o h3 g=>
  exact .cons ⟨J,U,λx I=>by rw[Ag.mp I];exact h3⟩ (.cons ⟨l,o,λx I=>by rw[Ag.mp I];exact g⟩ .nil)
end L3
namespace TS
open PySem PyProof.Rows PySem.W
section
variable {w:World}
end
end TS
namespace L2
open PySem PySem.Spec PyProof.Rows
end L2
namespace L3
open PySem L2
open PySem L2 Words
theorem fg{L:qm}:∀xs:List Int,Paired (zw L 0) (xs.map Y.int) (xs.map λx=>Da.s (.int x))
 |[]=>.nil
 |_::r=>.cons ⟨rfl,rfl⟩ (fg r)
theorem oH:∀l:List (Nat×Nat),Da.eqs (l.map i4) (l.map i4)=true
 |[]=>rfl
 |x::r=>by rw[AA,Da.eqs,tN,oH r,AV rfl];rfl
def rsK(ks:List Kn)(T:List Nat):List (Option Kn):=(List.range ks.length).map λp=>if p∈T then ks[p]? else none
theorem hW(ks:List Kn)(T:List Nat):(rsK ks T).length=ks.length:=by unfold rsK;rw[Ab,Bf]
theorem aal{T:List Nat}{p:Nat}(I:p<ks.length):(rsK ks T)[p]?=some (if p∈T then ks[p]? else none):=by unfold rsK;rw[Am,BY I];rfl
theorem agg{T:List Nat}{p:Nat}{k:Kn}(J:p∈T)(I:ks[p]?=some k):(rsK ks T)[p]?=some (some k):=by rw[aal (xq I),AF J,I]
theorem abd{T:List Nat}{p:Nat}{k:Kn}(h:(rsK ks T)[p]?=some (some k)):p∈T/\ks[p]?=some k:=by
 have I:p<ks.length:=by rw[<-hW ks T];exact xq h
 rw[aal I] at h;by_cases c:p∈T
 ·rw[AF c] at h;exact⟨c,AN h⟩
 ·rw[AD c] at h;cases h
section
variable {E:List Nat}
theorem SR.rls(h:SR ks R E):∀B∈jq R,(∃EB,SR ks B EB)/\(∀x∈qt B,x∈qt R)/\(qt B).Sublist (qt R)/\jj B<=jj R/\(∀c∈za B,c∈za R):=by
 induction h with
 |link h1 h2 h3 U g=>
  intro B J;cases Ag.mp J;exact⟨⟨_,.link h1 h2 h3 U g⟩,λ_ h=>h,CH _,Al _,λ_ h=>h⟩
 |@ei r i j A EA E h1 t h3 U g T h7 ih=>
  intro B J;rcases Ap.mp J with rfl|J
  ·exact⟨⟨_,.ei h1 t h3 U g T h7⟩,λ_ h=>h,CH _,Al _,λ_ h=>h⟩
  ·obtain⟨a,b,c,d,e⟩:=ih B J;exact⟨a,λx h=>Ac _ (b x h),c.cons _,BN d,e⟩
 |@bo r i j A B EA EB E h1 t J U g T h7 l o=>
  intro C I;rcases Ap.mp I with rfl|I
  ·exact⟨⟨_,.bo h1 t J U g T h7⟩,λ_ h=>h,CH _,Al _,λ_ h=>h⟩
  ·rcases Ao.mp I with I|I
   ·obtain⟨a,b,c,d,e⟩:=l C I;exact⟨a,λx h=>Ac _ (Aq _ (b x h)),(c.trans (Dt ..)).cons _,by show _<=max (jj A) (jj B)+1;lia,λx h=>Aq _ (e x h)⟩
   ·obtain⟨a,b,c,d,e⟩:=o C I;exact⟨a,λx h=>Ac _ (Af _ (b x h)),(c.trans (Dm ..)).cons _,by show _<=max (jj A) (jj B)+1;lia,λx h=>Af _ (e x h)⟩
 |@cu p q A B EA EB E w t J h3 U g T h7 h8 l o=>
  intro C I;rcases Ap.mp I with rfl|I
  ·exact⟨⟨_,.cu t J h3 U g T h7 h8⟩,λ_ h=>h,CH _,Al _,λ_ h=>h⟩
  ·rcases Ao.mp I with I|I
   ·obtain⟨a,b,c,d,e⟩:=l C I;exact⟨a,λx h=>Aq _ (b x h),c.trans (Dt ..),by show _<=max (jj A) (jj B)+1;lia,λx h=>Ac _ (Aq _ (e x h))⟩
   ·obtain⟨a,b,c,d,e⟩:=o C I;exact⟨a,λx h=>Af _ (b x h),c.trans (Dm ..),by show _<=max (jj A) (jj B)+1;lia,λx h=>Ac _ (Af _ (e x h))⟩
theorem aS:∀{R A B:Ru},A∈jq R->B∈jq A->B∈jq R
 |.link p q,A,B,h1,h2=>by cases Ag.mp h1;exact h2
 |.ei r C,A,B,h1,h2=>by
  rcases Ap.mp h1 with rfl|h1
  ·exact h2
  ·exact Ac _ (aS h1 h2)
 |.bo r C D,A,B,h1,h2=>by
  rcases Ap.mp h1 with rfl|h1
  ·exact h2
  ·rcases Ao.mp h1 with h1|h1
   ·exact Ac _ (Aq _ (aS h1 h2))
   ·exact Ac _ (Af _ (aS h1 h2))
 |.cu p q C D,A,B,h1,h2=>by
  rcases Ap.mp h1 with rfl|h1
  ·exact h2
  ·rcases Ao.mp h1 with h1|h1
   ·exact Ac _ (Aq _ (aS h1 h2))
   ·exact Ac _ (Af _ (aS h1 h2))
theorem fS(A:Ru):A∈jq A:=by rw[aD];exact Ah ..
theorem acr{A B:Ru}(h:B∈zo A):B∈jq A:=by rw[aD];exact Ac _ (A2.mpr ⟨B,h,fS B⟩)
end
open PySem L2 PyProof.Rows
end L3
namespace L2
open PySem PySem.Spec PyProof.Rows
theorem xB(neg:Bool)(p:X.A.units+128<cLine):vz X (compareOp (if neg then .NotIn else .In)) (λx y H Q=>∃a kvs k,y=.ref a/\H a=some (.dK kvs)/\x=kV k/\Q (.bl (if neg then !(aK kvs k).isSome else(aK kvs k).isSome)) H):=by intro U s r H x y v u Q I g j ⟨a,kvs,k,l,e,ex,q⟩;subst ex l;cases (show u=Value.ref a from j);cases neg with|false=>exact aof (by omega) I (ix.k e) g λo J=>⟨.bl _,H,J,rfl,q⟩|true=>exact ady (by omega) I (ix.k e) g λo J=>⟨.bl _,H,J,rfl,q⟩
def ae2(w:World)(r:Str×Tok×Int×Tok):DictEntry:=⟨hashStr w r.1,.str r.1 r.2.1,.int r.2.2.1 r.2.2.2⟩
theorem ahj{K:Ae}{P:Program}{w:World}{c:Addr}{U:Nat}(rows:List (Str×Tok×Int×Tok))(l:K.lookup c=some ⟨.type "dict",none,.dict (rows.map (ae2 w)).toArray U,#[]⟩)(hs:(c==sysModules)=false)(hz:rows.length<=1000)(nd:(rows.map λr=>(Sum.inr r.1:j7)).Nodup):
 KD K P w c (rows.map λr=>(Sum.inr r.1,.int r.2.2.1)):=by
 refine⟨hs,by rw[Ab];exact small hz,λh X=>⟨rows.map λr=>(Sum.inr r.1,.int r.2.2.1 r.2.2.2),?_,_,_,U,X c _ l,⟨rfl,rfl,rfl⟩,rfl,?_,?_,?_⟩⟩
 ·unfold KV;clear l hz nd
  induction rows with|nil=>exact .nil|cons r t I=>exact .cons ⟨rfl,_,rfl⟩ I
 ·intro e g;have J:e∈rows.map (ae2 w):=by simpa using g
  obtain⟨r,_,rfl⟩:=AR.mp J;exact⟨Sum.inr r.1,fU r.1 r.2.1,rfl⟩
 ·show Pairs _ (rows.map (ae2 w)).toArray.toList _;rw[List.toList_toArray];clear l hz nd
  induction rows with|nil=>exact .nil|cons r t I=>exact .cons (fU r.1 r.2.1) rfl I
 ·rw[Bs];exact nd
end L2
namespace L3
open PySem L2
theorem wD{xs:List (j7×V)}(p:Paired (λ(p:j7×Y) (q:j7×V)=>p.1=q.1/\RV G H p.2 q.2) kvs xs)(k:j7):(aK xs k).isSome=(xt kvs k).isSome:=by
 unfold aK xt;rw[Cq,Cq]
 induction p with
 |nil=>rfl
 |@cons a b _ _ r t I=>
  rw[Bd,Bd,r.1];cases decide (b.1=k) with|true=>rfl|false=>exact I
def adh(neg:Bool)(x y:Y)(L:qm)(Q:YK):Prop:=match y,uy x with
 |.ref a,some k=>kM L a λkvs=>Q (.bl (nb neg (xt kvs k).isSome)) L
 |_,_=>False
theorem ah9(neg:Bool)(j:X.A.units+128<cLine):vz X (compareOp (if neg then .NotIn else .In)) (eQ X.g3 (adh neg)):=EG (xB neg j) λx y H Q C T L Q3 l o g z k=>by
 unfold adh at z;split at z
 ·rename_i a I p;obtain⟨J,e,z⟩:=bM z;obtain⟨U,r,t⟩:=g a _ e;refine⟨a,U,I,o,r,cM p l,?_⟩;have:(if neg=true then !(aK U I).isSome else(aK U I).isSome)=nb neg (xt J I).isSome:=by rw[wD t];cases neg<;>simp[nb]
  rw[this];exact k _ H _ L (DO _) g (by rfl) z
 ·exact z.elim
theorem ahr(I:X.A.units+128<cLine):vz X (compareOp .NotIn) (eQ X.g3 (adh true)):=ah9 true I
def rQ(xs:List Y)(L:qm)(Q:YK):Prop:=match xs with
 |[.ref a]=>bU L a λys=>Q (.tup ys) L
 |_=>False
theorem acf :jt X (.type "tuple") (upL X.g3 rQ):=jt.imq kK λt H Q C L T g J z k=>by
 unfold rQ at z;split at z
 ·rename_i a;obtain⟨u,rfl,j⟩:=g.inv1;obtain⟨o,e,z⟩:=x8 z;obtain⟨U,p,r⟩:=J a _ e;cases (show u=V.ref a from j);exact⟨a,U,rfl,.inl ⟨.inl (.inl p),λl I=>k _ _ (.tup o) L (DP I) (J.skip I) ⟨l,U,rfl,.inl (.inl zq),r.ts (DP I)⟩ z⟩⟩
 ·exact z.elim
structure akx(G:G3)(mg:Str->Option Value)(x:Str)(kvs:List (Str×Int)):Prop where
 ex:∃a,mg x=some (.ref a)/\KD G.K G.P G.w a (kvs.map λp=>(Sum.inr p.1,V.int p.2))
theorem qJ{kvs:List (Str×Int)}{k:Str}{x:Int}(h:kvs.lookup k=some x):aK (kvs.map λp=>((Sum.inr p.1:j7),V.int p.2)) (Sum.inr k)=some (V.int x):=by
 induction kvs with
 |nil=>simp at h
 |cons p r I=>
  obtain⟨a,b⟩:=p;unfold aK;rw[AA,Bd];rw[Bj] at h;by_cases c:k=a
  ·subst c;simp at h;simp[h]
  ·have c1:(k==a)=false:=by simpa using c
   rw[c1] at h;have c2:decide ((Sum.inr a:j7)=Sum.inr k)=false:=Az λz=>c (Em z).symm;simp only[c2];exact I h
def sK(kvs:List (Str×Int))(ti:x6)(τ:jh)(L:qm)(Q:YK):Prop:=ti τ L λy L1=>match y with
 |.str k=>sh L1 (λi L=>Q (.int i) L) (kvs.lookup k)
 |_=>False
theorem qY{kvs:List (Str×Int)}{i:Expr}(t:akx X.g3 X.mg x kvs)(g:Gl X x)(hi:QE X i ti)(l:iM i)(hd:Ed x:=by decide):QE X (.Subscript (.Name x p) i pos) (sK kvs ti):=by
 obtain⟨a,o,r⟩:=t.ex;refine DQ (af3 ak5 (tO g o (show zm (.ref a) (.ref a) from rfl) hd) hi l) λσ H Q C L Q3 T rl z k=>?_;refine⟨C,L,_,T,rl,z,λv H1 y L1 t1 I J U=>?_⟩;split at U
 ·rename_i kk;obtain⟨j,ej,q⟩:=l9 U;cases (show v=V.str kk from J);exact⟨_,_,.inr r,qJ ej,k _ H1 _ L1 t1 I (by rfl) q⟩
 ·exact U.elim
open PySem L2 Words
def aM:List (Str×Int):=[("link",2),("either",1),("both",1),("cut",2)]
def o9:ke:=(jx (lK bP (q9 (uK vJ (qa 0) (aX (zr 1)) (aX (zc zu (zr 1) (sK aM (jv 0 0))))) qu)))
def vM:ke:=(jx (lK bP (q9 (uK vJ (qa 0) (aX (zc zu (zr 1) (sK aM (jv 0 0)))) w4) qu)))
def rM(I:xm)(p1:xm):ke:=(qw (zk (jn (k7 (qa 0))) (qf 1))
 (qw (iU (v4 (zf I (k7 (qa 0)))) (qf 2) (jk (aT bZ (qa 1) (q9 (zf p1 (k7 (qa 2))) qu))))
 (jx (qa 1))))
def t9:Ru->List Nat
 |.link p q=>[p,q]
 |.ei r _=>[r]
 |.bo r _ _=>[r]
 |.cu p q _ _=>[p,q]
def oA:xm:=λys L Q=>∃A:Ru,ys=[qk A]/\∀p,L p=none->Q (.ref p) (qg L p (.lst (nY (t9 A))))
theorem adb:∀ys L Q,oA ys L Q->v0 o9 1 ys L Q:=by
 rintro ys L Q ⟨A,rfl,q⟩;cases A with
 |link a b=>exact⟨λz=>absurd z.1 (by show ¬1=0;decide),λp I=>xr (q p I)⟩
 |ei r A=>exact⟨λz=>absurd z.1 (by show ¬1=0;decide),λp I=>xr (q p I)⟩
 |bo r A B=>exact⟨λz=>absurd z.1 (by show ¬1=0;decide),λp I=>xr (q p I)⟩
 |cu a b A B=>exact⟨λz=>absurd z.1 (by show ¬1=0;decide),λp I=>xr (q p I)⟩
def wq:xm:=λys L Q=>∃A:Ru,ys=[qk A]/\∀p,L p=none->Q (.ref p) (qg L p (.lst ((zo A).map qk)))
theorem vQ:∀ys L Q,wq ys L Q->v0 vM 1 ys L Q:=by
 rintro ys L Q ⟨A,rfl,q⟩;cases A with
 |link a b=>exact⟨λz=>absurd z.1 (by show ¬3=0;decide),λp I=>xr (q p I)⟩
 |ei r A=>exact⟨λz=>absurd z.1 (by show ¬2=0;decide),λp I=>xr (q p I)⟩
 |bo r A B=>exact⟨λz=>absurd z.1 (by show ¬2=0;decide),λp I=>xr (q p I)⟩
 |cu a b A B=>exact⟨λz=>absurd z.1 (by show ¬3=0;decide),λp I=>xr (q p I)⟩
def aY(n:Nat):xm:=λys L Q=>∃A:Ru,ys=[qk A]/\jj A<=n/\k6 A<=1000/\∀p,L p=none->Q (.ref p) (qg L p (.lst ((jq A).map qk)))
theorem jM(A:Ru):0<jj A:=by cases A<;>simp[jj]
theorem yL:∀ys L Q,¬aY 0 ys L Q:=by rintro ys L Q ⟨A,_,h,_⟩;have:=jM A;lia
theorem iE{A B:Ru}(h:B∈zo A):k6 B<k6 A:=by
 cases A with
 |link p q=>cases h
 |ei r C=>cases Ag.mp h;exact Ct _
 |bo r C D=>
  have:k6 (.bo r C D)=k6 C+k6 D+1:=rfl;rcases Ap.mp h with rfl|h
  ·lia
  ·cases Ag.mp h;lia
 |cu p q C D=>
  have:k6 (.cu p q C D)=k6 C+k6 D+1:=rfl;rcases Ap.mp h with rfl|h
  ·lia
  ·cases Ag.mp h;lia
theorem rb(n:Nat):∀ys L Q,aY (n+1) ys L Q->v0 (rM wq (aY n)) 3 ys L Q:=by
 rintro ys L Q ⟨A,rfl,hd,hz,q⟩;have big:=bg_;intro l r;refine⟨A,rfl,λU I=>?_⟩;have j:l≠U:=wu q8 I;have T:L U=none:=xg I;have s0:qh L (qg (qg L l (.lst [qk A])) U (.lst ((zo A).map qk))):=(By r).trans (By I);have sz:∀i,(((zo A).take i).flatMap jq).length<=1000:=λi=>by
  have e:=Bb List.length (aD A);rw[ai] at e;have h2:(((zo A).take i).flatMap jq).length+(((zo A).drop i).flatMap jq).length=((zo A).flatMap jq).length:=by rw[<-Ad,<-AC,A6]
  simp only[AJ] at e;lia
 refine jy q8 λkeep kp=>wv ⟨λi o J=>∃c2,o=[some (qk A),some (.ref l),c2]/\qh L J/\J l=some (.lst ((A::((zo A).take i).flatMap jq).map qk))/\J U=some (.lst ((zo A).map qk)),⟨_,rfl,s0,(qd j).trans q8,q8⟩,?_,?_,?_⟩
 ·rintro i o J ⟨c2,rfl,s,g,g2⟩;exact kp J (by rw[g2,q8])
 ·rintro i y o J hy ⟨c2,rfl,s,g,g2⟩;rw[Am] at hy;obtain⟨B,eB,rfl⟩:=Au.mp hy;have mB:=AM eB;have et:(zo A).take (i+1)=(zo A).take i++[B]:=by rw[Bq,eB];rfl
  have zB:=iE mB;have dB:=aR mB;have zi:=sz i;refine qc g ⟨B,rfl,by lia,by lia,λp t=>?_⟩;have np:l≠p:=wu g t;have C:U≠p:=wu g2 t;refine qz ((qd np).trans g) (qz q8 ⟨?_,?_⟩)
  ·rw[Ab,Ab,AJ,ai];exact Bl (big _ (by lia))
  ·refine⟨_,DN _,_,rfl,(s.trans (By t)).upd r,?_,(qd (AW j)).trans ((qd C).trans g2)⟩;rw[q8,et,AC,CI,<-Ai];rfl
 ·rintro o J ⟨c2,rfl,s,g,_⟩;rw[Ab,Bm,<-aD] at g;exact cU (EH s g) (q l r)
def Agr(ks:List Kn)(wd:List (Option Kn))(A:Ru):Prop:=∀x∈qt A,∀k,ks[x]?=some k->wd[x]?=some (some k)
theorem yX{T:List Nat}(J:∀x∈T,x<ks.length){x:Nat}:x∈iP (rsK ks T)↔x∈T:=by
 constructor
 ·intro h;obtain⟨_,k,e,U⟩:=acw h;cases k with
  |none=>cases U
  |some k=>exact(abd e).1
 ·intro h;have I:=J x h;exact aix (agg h (Aj I)) rfl (by rw[hW];exact I)
theorem uo{E:List Nat}(T:yh ks R E):(iP (rsK ks (qt R))).length=(qt R).length:=by refine((AZ ?_ T.nd).mpr λx=>yX λx I=>T.sr.lt x I).length_eq;unfold iP whr;exact B7.filter _
structure StI(A:Ru)(tk:List Nat)(st:List Ru):Prop where
 pt:(tk++st.flatMap qt).Perm (qt A)
 sz:(st.map k6).sum<=k6 A
 dp:∀B∈st,jj B<=jj A
theorem StI.start(A:Ru):StI A [] [A]:=⟨by simp,by simp,λB I=>by rw[Ag.mp I];exact Al _⟩
theorem StI.step{A B:Ru}{tk:List Nat}{st:List Ru}(h:StI A tk (st++[B])):StI A (tk++sF B) (st++zo B):=by
 refine⟨?_,?_,λC I=>?_⟩
 ·refine List.Perm.trans ?_ h.pt;rw[AC,AC];have:[B].flatMap qt=sF B++(zo B).flatMap qt:=by rw[<-wB];simp
  rw[this];refine Bz.mpr λz=>?_;simp only[BD];lia
 ·have:=h.sz;have:=jP B;simp at *;lia
 ·rcases Ao.mp I with I|I
  ·exact h.dp C (Aq _ I)
  ·have:=aR I;have:=h.dp B (Af _ (Ag.mpr rfl));lia
theorem StI.lt{A B:Ru}{tk:List Nat}{st:List Ru}:((st.map k6).sum+((zo B).map k6).sum)<((st++[B]).map k6).sum:=by have:=jP B;simp;lia
theorem yh.small{A:Ru}{E:List Nat}(T:yh ks A E):(qt A).length<=96:=by
 have:=uo T;have h2:=adj zI (rsK ks (qt A)) (rsK ks (qt A)).length;rw[hW] at h2;have:(iP (rsK ks (qt A))).length<=ks.length:=by unfold iP;rw[hW];exact h2
 have:=T.len;lia
def oU:ke:=(qw (xz (eU (jv 0 0) (vm "cut")) (jx (jn (w6 (jv 0 3) (jv 0 4)))) xc)
 (qw (xz (eU (jv 0 0) (vm "link")) (jx (jn qu)) xc)
 (jx (lK bP (q9 (uK vJ (qa 0) (aX (zr 2)) w4) qu)))))
def im:xm:=wq
theorem yy:∀ys L Q,im ys L Q->v0 oU 1 ys L Q:=by
 rintro ys L Q ⟨A,rfl,q⟩;cases A with
 |link a b=>exactλp I=>xr (q p I)
 |ei r A=>exact⟨λz=>absurd z.1 (by show ¬2=0;decide),λp I=>xr (q p I)⟩
 |bo r A B=>exact⟨λz=>absurd z.1 (by show ¬2=0;decide),λp I=>xr (q p I)⟩
 |cu a b A B=>exactλp I=>xr (q p I)
structure UsI(us:List Nat)(kvs:List (j7×Y)):Prop where
 val:∀x:Nat,(xt kvs (.inl (x:Int))).isSome=decide (x∈us)
 len:kvs.length<=us.length
theorem UsI.nil:UsI [] []:=⟨λ_=>rfl,Al _⟩
theorem UsI.put{us:List Nat}(h:UsI us kvs)(x:Nat)(y:Y):UsI (us++[x]) (bH kvs (.inl (x:Int)) y):=by
 refine⟨λz=>?_,?_⟩
 ·rw[qP];by_cases e:z=x
  ·subst e;rw[AF rfl,AV (Af _ (Ag.mpr rfl))];rfl
  ·rw[AD (λq=>e (BW.mp (Sum.inl.inj q))),h.val];refine DB.mpr ⟨λq=>Aq _ q,λq=>?_⟩;rcases Ao.mp q with q|q
   ·exact q
   ·exact absurd (Ag.mp q) e
 ·have:=cW kvs (.inl (x:Int)) y;have:=h.len;rw[Ad];show _<=us.length+1;lia
def wU(Pt:Addr)(I:xm):ke:=(qw (zk (jn qu) (qf 2))
 (qw (iU (lb (qa 0)) (aZ 2 (zp (qf 3) (zp (qf 4) aE))) (qw (zk (zc vi (zf I (q9 (qa 1) (w6 (qa 3) (zr 39373)))) (zr 40)) (qf 5))
 (gO (xz (eU (bW 4) (zr 3)) (zk (zc zu (zc zu (qa 5) (zr 1)) (lK ae4 (q9 (zc cJ (qa 2) (jv 4 1)) (q9 (zc cJ (qa 2) (jv 4 2)) qu)))) (qf 5)) xc)
 (jk (aT j8 (qa 2) (k7 (qa 5)))))))
 (jx (wX Pt lamQ 2 (oi (bW 0))))))
def oC(I:xm):ke:=(qw (xz (eU (jv 0 0) (vm "link")) (jx (jf (q9 (vm "link") (q9 (lK aj1 (q9 (g9 (qa 1) (jv 0 1)) (q9 (g9 (qa 1) (jv 0 2)) qu))) (q9 (lK ae4 (q9 (g9 (qa 1) (jv 0 1)) (q9 (g9 (qa 1) (jv 0 2)) qu))) qu))))) xc)
 (qw (zk (oQ 1 (xL (uK vJ (qa 0) (aX (zr 1)) w4)) (qf 3) (yB (tV .int (qa 3))) (g9 (qa 1) (qa 3))) (qf 2))
 (jx (lK rQ (q9 (zc zu (zc zu (jn (k7 (jv 0 0))) (qa 2)) (oQ 1 (xL (uK vJ (qa 0) (aX (zr 1)) w4)) (qf 3) (yB (tV .tuple (qa 3))) (zf I (w6 (qa 3) (qa 1))))) qu)))))
def iX(I:xm)(p1:xm):ke:=(qw (zk aa7 (qf 3))
 (qw (zk (jn qu) (qf 4))
 (qw (iU (v4 (zf I (w6 (qa 0) (qa 2)))) (qf 5) (qw (lI (qa 3) (qa 5) (bW 4))
 (qw (zk (zc cJ (qa 0) (qa 5)) (qf 6))
 (jk (aT j8 (qa 4) (q9 (yIf (eU (bW 6) (zr 2)) (qa 6) (jf (q9 (jv 6 0) (q9 (g9 (qa 3) (jv 6 1)) (q9 (g9 (qa 3) (jv 6 2)) qu))))) qu))))))
 (jx (jf (q9 (qa 4) (q9 (zf p1 (w6 (qa 1) (qa 3))) qu)))))))
def ff(Pt:Addr):xm:=λys L Q=>∃a,∃ks:List Kn,∃s:Int,ys=[.ref a,.int s]/\L a=some (.lst (ja ks))/\OkO (ks.map some)/\ks.length<=63/\L Pt=some (.tb lamQ)/\
 ∀D I,L D=none->I.Perm (List.range (ks.map some).length)->bX (ks.map some) I->Q (.ref D) (qg L D (.lst (nY I)))
theorem vR :∀ys L Q,ff Pt ys L Q->v0 (wU Pt oG) 6 ys L Q:=by
 rintro ys L Q ⟨a,ag,s,rfl,ha,ok,hz,hP,q⟩;obtain⟨g,U⟩:∃g,g=ag.map some:=⟨_,rfl⟩;rw[<-vh,<-U] at ha;rw[<-U] at ok q;have hz:g.length<=63:=by rw[U,Ab];exact hz
 have all:∀i,g[i]?≠some none:=λi e=>by rw[U,Am] at e;obtain⟨_,_,z⟩:=Au.mp e;cases z
 have big:=bg_;intro J I;have s0:qh L (qg L J (.lst [])):=By I;have a3:a≠J:=wu ha I;refine jy (s0 _ _ ha) λkeep kp=>wv ⟨λi τ l=>∃rks:List Int,∃c3 c4 c5,τ=[some (Y.ref a),some (.int s),some (Y.ref J),c3,c4,c5]/\l=qg L J (.lst (rks.map Y.int))/\rks.length=i/\ue g rks,⟨[],_,_,_,rfl,rfl,rfl,λp _ _ _ hp=>by cases hp⟩,?_,?_,?_⟩
 ·rintro i τ l ⟨rks,c3,c4,c5,rfl,rfl,_⟩;exact kp _ (by rw[qd a3,qd a3])
 ·rintro i y τ l hy ⟨rks,c3,c4,c5,rfl,rfl,C,T⟩;obtain⟨z,ez,rfl⟩:=jV hy;rw[Am] at ez;obtain⟨k,ek,rfl⟩:=Au.mp ez;have hi:=xq ek;refine⟨s,i,39373,rfl,by exact A8 _,by omega,by decide,by decide,λv h0 h1=>?_⟩;have m0:(0:Int)<=v % 40:=DK _ (by decide);have a4:(rks.map Y.int).length=i:=by rw[Ab];exact C
  refine⟨show(0:Int)<40 by decide,λa5 l=>∃r:Int,a5=[some (Y.ref a),some (.int s),some (Y.ref J),some (.int (i:Nat)),some (uk k),some (.int r)]/\l=qg L J (.lst (rks.map Y.int))/\∀e i j,k=some (.nd e i j)->rks.getD i 0<r/\rks.getD j 0<r,?_,?_⟩
  ·cases k with
   |none=>exact absurd ek (all i)
   |some k=>
    cases k with
    |lf t n=>exact⟨v % 40,rfl,rfl,λe i j z=>by cases z⟩
    |nd e p1 p2=>
     obtain⟨l1,l2⟩:=ok _ _ _ _ ek;have g1:=zv (qA (rks:=rks) (i:=p1) (by lia));have g2:=zv (qA (rks:=rks) (i:=p2) (by lia));refine qc q8 (ql g1 ?_);refine qc q8 (ql g2 ?_);refine⟨v % 40+1+max (rks.getD p1 0) (rks.getD p2 0),rfl,rfl,λe' i' j' z=>?_⟩;cases z;have a1:rks.getD p1 0<=max (rks.getD p1 0) (rks.getD p2 0):=Int.le_max_left ..;have a2:rks.getD p2 0<=max (rks.getD p1 0) (rks.getD p2 0):=Int.le_max_right ..;constructor<;>lia
  ·rintro a5 l ⟨r,rfl,rfl,hr⟩;refine qc q8 (qz q8 ⟨by rw[a4];exact big _ (by lia),?_⟩);refine⟨_,DN _,rks++[r],_,_,_,rfl,?_,by rw[Ad,C];rfl,ue.snoc ok T (by rw[C];exact ek) hr⟩;rw[xa,Ai];rfl
 ·rintro τ l ⟨rks,c3,c4,c5,rfl,rfl,C,T⟩;rw[fe,Ab] at C;have s1:qh L (qg L J (.lst (rks.map Y.int))):=By I;refine qc (s1 _ _ ha) ?_;have lo:(vo g).length=g.length:=Ab ..;refine⟨⟨A8 _,by rw[lo];lia⟩,λp hp=>qz q8 ?_⟩;have al:J≠p:=wu q8 hp;have aL:Pt≠p:=wu (s1 _ _ hP) hp;have ba:Pt≠J:=wu hP I;refine⟨g.length,rks,J,by rw[CD,lo],rfl,(qd al).trans q8,C,hz,(qd aL).trans ((qd ba).trans hP),λD qs hD pm pw=>?_⟩;have bb:=xg hD;have bc:=xg bb;refine⟨qg L D (.lst (nY qs)),λb o e=>?_,q D qs bc pm (zW ok T C pw)⟩;by_cases c:b=D
  ·subst c;rw[q8] at e ⊢;exact e
  ·rw[qd c] at e ⊢;rw[qd (λz=>by subst z;rw[xg hp] at e;cases e),qd (λz=>by subst z;rw[I] at e;cases e)];exact e
theorem qT(y:Y)(l:List Y):eM (y::l) (some 1) none=l:=by
 unfold eM;have e:HT.sIx (y::l).length 0 (some 1)=1:=by show min 1 (l.length+1)=1;lia
 rw[e];show(l.take (l.length+1-1))=l;rw[Nat.add_sub_cancel,Bm]
theorem uF(y:Y)(l:List Y):¬(HT.sIx (y::l).length 0 (some 1)=0/\HT.sIx (y::l).length (y::l).length none=(y::l).length):=λz=>by
 have e:HT.sIx (y::l).length 0 (some 1)=1:=by show min 1 (l.length+1)=1;lia
 rw[e] at z;exact absurd z.1 (by decide)
def kdR:Ru->Str
 |.link _ _ => "link"
 |.ei _ _ => "either"
 |.bo _ _ _ => "both"
 |.cu _ _ _ _ => "cut"
theorem bS(A:Ru):qk A=.tup (.str (kdR A)::(nY (t9 A)++(zo A).map qk)):=by cases A<;>rfl
def bG(n:Nat):xm:=λys L Q=>∃R:Ru,∃d,∃kvs:List (j7×Y),∃f:Nat->Nat,ys=[qk R,.ref d]/\L d=some (.dct kvs)/\(∀B∈jq R,∀x∈t9 B,xt kvs (.inl (x:Int))=some (.int (f x:Int)))/\jj R<=n/\Q (qk (lT f R)) L
theorem zC:∀ys L Q,¬bG 0 ys L Q:=by rintro ys L Q ⟨A,_,_,_,_,_,_,h,_⟩;have:=jM A;lia
theorem ss{P:List Nat}{I:List Ru}(h:(nY P++I.map qk)[i]?=some y):(i<P.length/\∃x,P[i]?=some x/\y=.int (x:Int))\/(P.length<=i/\∃B,I[i-P.length]?=some B/\y=qk B):=by
 by_cases c:i<P.length
 ·rw[AE (by rw[a8];exact c)] at h;exact .inl ⟨c,rP h⟩
 ·rw[Ax (by rw[a8];lia),a8,Am] at h;obtain⟨B,e,z⟩:=Au.mp h;exact .inr ⟨by lia,B,e,z.symm⟩
theorem yH(n:Nat):∀ys L Q,bG (n+1) ys L Q->v0 (oC (bG n)) 3 ys L Q:=by
 rintro ys L Q ⟨R,d,l,f,rfl,hd,t,hr,q⟩;have big:=bg_;by_cases J:∃a b,R=.link a b
 ·obtain⟨a,b,rfl⟩:=J;have v1:=t _ (fS _) a (Ah ..);have v2:=t _ (fS _) b (Ac _ (Ah ..));refine x0 hd (ql v1 ?_);refine x0 hd (ql v2 ?_);refine x0 hd (ql v1 ?_);refine x0 hd (ql v2 ?_);refine xr ?_;have e1:min (f a:Int) (f b:Int)=((min (f a) (f b):Nat):Int):=aow _ _;have e2:max (f a:Int) (f b:Int)=((max (f a) (f b):Nat):Int):=amk _ _;have q:Q (.tup [.str "link",.int ((min (f a) (f b):Nat):Int),.int ((max (f a) (f b):Nat):Int)]) L:=q;rw[<-e1,<-e2] at q;exact q
 have hk:kdR R ≠ "link" := by cases R with|link a b=>exact absurd ⟨a,b,rfl⟩ J|ei r A=>show(Str.ofString "either") ≠ "link";decide +kernel|bo r A B=>show(Str.ofString "both") ≠ "link";decide +kernel|cu p s A B=>show(Str.ofString "cut") ≠ "link";decide +kernel
 have T:Q (.tup ([.str (kdR R)]++nY ((t9 R).map f)++(zo R).map λB=>qk (lT f B))) L:=by cases R with|link a b=>exact absurd ⟨a,b,rfl⟩ J|ei r A=>exact q|bo r A B=>exact q|cu p s A B=>exact q
 have vp:∀x∈t9 R,xt l (.inl (x:Int))=some (.int (f x:Int)):=t R (fS R);have va:∀B∈zo R,jj B<=n/\∀C∈jq B,∀x∈t9 C,xt l (.inl (x:Int))=some (.int (f x:Int)):=λB hB=>⟨by have:=aR hB;lia,λC hC=>t C (aS (acr hB) hC)⟩;have lp:(t9 R).length<=2:=by cases R<;>simp[t9]
 have lA:(zo R).length<=2:=by cases R<;>simp[zo]
 rw[bS R];generalize t9 R=P at vp T lp;generalize zo R=g at va T lA;generalize kdR R=U at hk T;clear q t J hr;have e0:dz (Y.str U::(nY P++g.map qk)) 0=some (Y.str U):=zv (xs:=Y.str U::(nY P++g.map qk)) (j:=0) rfl;have ll:(nY P++g.map qk).length=P.length+g.length:=by rw[Ad,a8,Ab]
 walk_at "w";rw[e0];refine cn (Az hk) ?_;refine⟨uF _ _,?_⟩;rw[qT];refine aV (λi I=>I=nY ((P.take i).map f)) (by rw[ll];exact big _ (by lia)) trivial rfl ?_ ?_
 ·rintro i y I hy rfl;rcases ss hy with⟨c,x,ex,rfl⟩|⟨c,B,eB,rfl⟩
  ·refine x0 hd (ql (vp x (AM ex)) ⟨_,DN _,rfl,?_⟩);rw[Bq,ex,Ai,iR];rfl
  ·have e1:P.take (i+1)=P.take i:=by rw[Be (by lia),Be c]
   have z:dt (λI L'=>L'=L/\I=nY ((P.take (i+1)).map f)) (nY ((P.take i).map f)) L:=⟨_,DN _,rfl,by rw[e1]⟩;rw[bS B];exact z
 rintro I rfl p1 h1;rw[ll,Be (by lia)];walk_at "w";rw[e0];intro p2 h2;have s1:=By (o:=.lst (nY (P.map f))) h1;have s2:=s1.trans (By (o:=.lst [Y.str U]) h2);refine⟨_,_,q8,By h2 _ _ q8,?_,λp3 h3=>?_⟩
 ·rw[a8,Ab];exact Bl (big _ (by show 1+P.length<=20000;lia))
 have s3:=s2.trans (By (o:=.lst ([Y.str U]++nY (P.map f))) h3);have g3:∀{o},qg (qg (qg L p1 (.lst (nY (P.map f)))) p2 (.lst [Y.str U])) p3 o p3=some o:=q8;refine⟨uF _ _,?_⟩;rw[qT];have g3:=g3 (o:=.lst ([Y.str U]++nY (P.map f)));generalize qg (qg (qg L p1 (.lst (nY (P.map f)))) p2 (.lst [Y.str U])) p3 (.lst ([Y.str U]++nY (P.map f)))=L3 at s3 g3 ⊢;refine aV (λi I=>I=(g.take (i-P.length)).map λB=>qk (lT f B)) (by rw[ll];exact big _ (by lia)) trivial (by rw[Nat.zero_sub];rfl) ?_ ?_
 ·rintro i y I hy rfl;rcases ss hy with⟨c,x,ex,rfl⟩|⟨c,B,eB,rfl⟩
  ·exact⟨_,DN _,rfl,by rw[Nat.sub_eq_zero_of_le c,Nat.sub_eq_zero_of_le (Bl c)]⟩
  ·obtain⟨h1,h2⟩:=va B (AM eB);have z:bG n [qk B,.ref d] L3 λz L4=>dt (λI L'=>L'=L3/\I=(g.take (i+1-P.length)).map λB=>qk (lT f B)) (((g.take (i-P.length)).map λB=>qk (lT f B))++[z]) L4:=by refine⟨B,d,l,f,rfl,s3 _ _ hd,h2,h1,_,DN _,rfl,?_⟩;rw[Nat.succ_sub c,Bq,eB,Ai];rfl
   rw[bS B] at z ⊢;exact z
 rintro I rfl p4 h4;rw[ll,Dy,Bm];refine⟨_,_,(qd (wu g3 h4)).trans g3,q8,?_,λp5 h5=>?_⟩
 ·rw[Ad,a8,Ab,Ab];exact Bl (big _ (by show 1+P.length+g.length<=20000;lia))
 exact qz q8 (cU ((s3.trans (By h4)).trans (By h5)) T)
theorem SR.pl{E:List Nat}(h:SR ks R E):∀B∈jq R,∀x∈t9 B,x<ks.length:=λB J x I=>by
 obtain⟨⟨o,s⟩,_⟩:=h.rls B J;have l:=s.lt;cases s with
 |link=>exact l x I
 |ei=>rw[Ag.mp I];exact l _ (Ah ..)
 |bo=>rw[Ag.mp I];exact l _ (Ah ..)
 |cu U g h3 j=>
  rcases Ap.mp I with rfl|I
  ·exact l _ (Aq _ (U.sub _ h3))
  ·rw[Ag.mp I];exact l _ (Af _ (g.sub _ j))
def ac9(f:Nat->Nat):Kn->Kn
 |.lf t n=>.lf t n
 |.nd e i j=>.nd e (f i) (f j)
theorem uT(f:Nat->Nat)(k:Kn):gB f (some k)=some (ac9 f k):=by cases k<;>rfl
def dc(Pt:Addr):xm:=λys L Q=>∃a,∃ks:List Kn,∃R:Ru,∃E:List Nat,∃s:Int,ys=[.ref a,qk R,.int s]/\L a=some (.lst (ja ks))/\bA ks/\SR ks R E/\(qt R).Perm (List.range ks.length)/\ks.length<=63/\L Pt=some (.tb lamQ)/\
 ∀w f pR,L w=none->pR.length=ks.length->Ren f (ks.map some) (pR.map some)->Q (.tup [.ref w,qk (lT f R)]) (qg L w (.lst (ja pR)))
theorem ra :∀ys L Q,dc Pt ys L Q->v0 (iX (ff Pt) (bG 120)) 7 ys L Q:=by
 rintro ys L Q ⟨a,T,R,E,s,rfl,ha,bb,sr,tp,hz,hP,q⟩;have big:=bg_;obtain⟨j,l⟩:∃j,j=T.map some:=⟨_,rfl⟩;have bc:j.length=T.length:=by rw[l,Ab]
 have ok:OkO j:=by rw[l];exact aaq bb
 have bh:L a=some (.lst (vo j)):=by rw[l,vh];exact ha
 intro d hd w hw;have a5:L w=none:=xg hw;have a1:d≠w:=wu q8 hw;have s0:qh L (qg (qg L d (.dct [])) w (.lst [])):=(By hd).trans (By hw);refine⟨a,T,s,rfl,s0 _ _ ha,by rw[<-l];exact ok,by lia,s0 _ _ hP,λD I hD pm pf=>?_⟩;rw[<-l] at pm pf;have bi:L D=none:=xg (xg hD);have ag:w≠D:=wu q8 hD;have al:d≠D:=wu ((qd a1).trans q8) hD;have lq:I.length=j.length:=by rw[pm.length_eq,Bf]
 have bd:I.Nodup:=pm.nodup_iff.mpr B7;have mq:∀p∈I,p<j.length:=λp hp=>A5.mp (pm.mem_iff.mp hp);have G0:agm L j I d w D 0 0 (λ_=>0) (([]:List Kn).map some) [] (qg (qg (qg L d (.dct [])) w (.lst [])) D (.lst (nY I))):=
  ⟨s0.trans (By hD),(qd al).trans ((qd a1).trans q8),(qd ag).trans q8,q8,Al _,λp=>rfl,zU.nil _ _,Al _⟩
 refine jy q8 λkeep kp=>wv ⟨λi τ o=>∃f,∃U:List Kn,∃J c5 c6,τ=[some (.ref a),some (qk R),some (.int s),some (.ref d),some (.ref w),c5,c6]/\agm L j I d w D i 0 f (U.map some) J o/\U.length=i,⟨_,[],_,_,_,rfl,G0,rfl⟩,?_,?_,?_⟩
 ·rintro i τ o ⟨f,U,J,c5,c6,rfl,G,_⟩;exact kp o (by rw[G.hD,q8])
 ·rintro i y τ o hy ⟨f,U,J,c5,c6,rfl,G,lm⟩;obtain⟨p,ep,rfl⟩:=rP hy;have hi:=xq ep;have hp:p<j.length:=mq p (AM ep);obtain⟨k,hk⟩:∃k,T[p]?=some k:=⟨_,Aj (by lia)⟩;have aL:j[p]?=some (some k):=by rw[l,Am,hk];rfl
  have pn:p∉I.take i:=λhm=>by
   have e2:I=I.take i++p::I.drop (i+1):=by rw[Aj hi] at ep;rw[<-AN ep,Cn,A6]
   have nd:=bd;rw[e2] at nd;exact(Av.mp nd).2.2 p hm p (Ah ..) rfl
  have et:I.take (i+1)=I.take i++[p]:=by rw[Bq,ep];rfl
  have a2:∀e i' j',some k=some (.nd e i' j')->i'∈I.take i/\j'∈I.take i:=λe i' j' z=>iz ok pm pf ep (by rw[aL,z]);have a3:∀x∈I.take i,∀e i' j',j[x]?=some (some (.nd e i' j'))->i'∈I.take i/\j'∈I.take i:=λx hx e i' j' z=>by
   obtain⟨n,hn⟩:=BR hx;have bf:=xq hn;rw[AY] at bf;rw[Dq (by lia)] at hn;obtain⟨h1,h2⟩:=iz ok pm pf hn z;have sb:∀y,y∈I.take n->y∈I.take i:=λy hy=>by
    have:I.take n=(I.take i).take n:=by rw[List.take_take,BL (by lia)]
    rw[this] at hy;exact BS hy
   exact⟨sb _ h1,sb _ h2⟩
  have ba:o w=some (.lst (ja U)):=by rw[G.hw,vh]
  have vp:∀y:Nat,xt (bH J (.inl (p:Int)) (.int ((U.length:Nat):Int))) (.inl (y:Int))=if y∈I.take i++[p] then some (.int (((if y=p then U.length else f y):Nat):Int)) else none:=λy=>by
   rw[qP];by_cases e:y=p
   ·subst e;rw[AF rfl,AF rfl,AF (Af _ (Ag.mpr rfl))]
   ·rw[AD (λz=>e (BW.mp (Sum.inl.inj z))),AD e,G.val];by_cases h:y∈I.take i
    ·rw[AF h,AF (Aq _ h)]
    ·rw[AD h,AD λz=>(Ao.mp z).elim h λz=>e (Ag.mp z)]
  have kl:=G.len;have C:(ja U).length=U.length:=Ab ..;refine qc ba ?_;rw[C];refine x0 G.hd ⟨big _ (by lia),?_⟩;have bg:a≠d:=wu ha hd;refine qc ((qd bg).trans (G.sub _ _ ha)) (ql (aP hk) ?_);have a4:qg o d (.dct (bH J (.inl (p:Int)) (.int ((U.length:Nat):Int)))) w=some (.lst (ja U)):=(qd (AW a1)).trans ba;have hb:∀x∈I.take i,x<j.length:=λx hx=>mq x (BS hx);have em:(U++[ac9 f k]).map some=U.map some++[gB f (some k)]:=by rw[uT,Ai];rfl
  have done:dt (λτ o=>∃f,∃U:List Kn,∃J c5 c6,τ=[some (.ref a),some (qk R),some (.int s),some (.ref d),some (.ref w),c5,c6]/\agm L j I d w D (i+1) 0 f (U.map some) J o/\U.length=i+1) [some (.ref a),some (qk R),some (.int s),some (.ref d),some (.ref w),some (.int (p:Int)),some (kO k)] (qg (qg o d (.dct (bH J (.inl (p:Int)) (.int ((U.length:Nat):Int))))) w (.lst (ja U++[kO (ac9 f k)]))):=by
   refine⟨_,DN _,λx=>if x=p then U.length else f x,U++[ac9 f k],_,_,_,rfl,⟨(G.sub.upd hd).upd a5,(qd a1).trans q8,?_,(qd (AW ag)).trans ((qd (AW al)).trans G.hD),?_,λy=>?_,?_,?_⟩,by rw[Ad,lm];rfl⟩
   ·rw[q8,vh];unfold ja;rw[Ai];rfl
   ·have:=cW J (.inl (p:Int)) (.int ((U.length:Nat):Int));lia
   ·rw[et];exact vp y
   ·rw[et,em];have:=G.gap.step hb pn aL a3 a2;rw[Ab] at this;exact this
   ·rw[Ab,Ad,lm];show i+1<=_;lia
  refine qc a4 ?_;cases k with
  |lf t n=>exact qz a4 ⟨by rw[C];exact big _ (by lia),done⟩
  |nd e p1 p2=>
   obtain⟨m1,m2⟩:=a2 e p1 p2 rfl;have v1:=vp p1;have v2:=vp p2;rw[AF (Aq _ m1),AD λ(z:p1=p)=>pn (z▸m1)] at v1;rw[AF (Aq _ m2),AD λ(z:p2=p)=>pn (z▸m2)] at v2;refine x0 ((q8:qg o d _ d=some _)) (ql v1 ?_);refine x0 ((q8:qg o d _ d=some _)) (ql v2 ?_);exact qz a4 ⟨by rw[C];exact big _ (by lia),done⟩
 ·rintro τ o ⟨f,U,J,c5,c6,rfl,G,lm⟩;have eq:(nY I).length=I.length:=Ab ..;rw[eq] at G lm;have et:I.take I.length=I:=Bm;have val:∀p,p<j.length->xt J (.inl (p:Int))=some (.int (f p:Int)):=λp hp=>by rw[G.val,et,AF (pm.mem_iff.mpr (A5.mpr hp))]
  have gap:zU j (List.range j.length) f (U.map some):=by have g:=G.gap;rw[et] at g;exact⟨λp hp=>g.at_ p (pm.mem_iff.mpr hp),λp hp r hr=>g.inj p (pm.mem_iff.mpr hp) r (pm.mem_iff.mpr hr),λx k hx=>let ⟨r,hr,e⟩:=g.only x k hx;⟨r,pm.mem_iff.mp hr,e⟩,g.ok⟩
  have rd:=v3 R;have tl:=tp.length_eq;rw[Bf] at tl;refine⟨R,d,J,f,rfl,G.hd,λB hB x hx=>val x (by rw[bc];exact sr.pl B hB x hx),by lia,?_⟩;refine cU (EH G.sub (by rw[G.hw,vh])) (q w f U a5 (by lia) ⟨by rw[<-l];exact gap,by rw[Ab,Ab];lia⟩)
def acj(I:xm)(p1:xm)(p2:xm)(p3:xm)(p4:xm)(p5:xm):ke:=(qw (zk (jn qu) (qf 3))
 (qw (zk (jn qu) (qf 4))
 (qw (iU (lb (qa 0)) (aZ 2 (zp (qf 5) (zp (qf 6) aE))) (qw (ahh 7 8 (q9 (zf I (q9 (qa 6) (w6 (qa 5) (zr 48271)))) (q9 (zf I (q9 (qa 6) (w6 (qa 5) (zr 69621)))) qu)))
 (qw (xz (yB (zc yGt (zc zu (zc zu (bW 3) (bW 4)) (zr 12)) (qa 2))) af7 xc)
 (qw (zk (zc vi (qa 7) (zr 9)) (qf 9))
 (qw (zk (zc aF (qa 7) (zr 9)) (qf 7))
 (xz (yOr (yB (zc yLt (qa 9) (zr 3))) (eU (qa 4) (jn qu))) (qw (jk (aT j8 (qa 3) (q9 (jf (q9 (vm "plain") (q9 (zf p1 (q9 (qa 1) (q9 (zc vi (qa 8) (zr 3)) qu))) qu))) qu)))
 (qw (jk (aT j8 (qa 3) (q9 (jf (q9 (vm "turned") (q9 (zf p1 (q9 (qa 1) (q9 (zc vi (qa 8) (zr 3)) qu))) qu))) qu)))
 (gO (xz (eU (zc vi (qa 7) (zr 2)) (zr 1)) (jk (aT j8 (qa 3) (q9 (aT bv (qa 3) (q9 (zc fi (bW 3) (zr 2)) qu)) qu))) xc)
 (qw (zk (zc fi (bW 3) (zr 2)) (qf 10))
 (jk (aT j8 (qa 4) (q9 (jn (q9 (jf (q9 (vm "link") (q9 (qa 10) (q9 (zc zu (qa 10) (zr 1)) qu)))) (q9 (jn (q9 (qa 10) (q9 (zc zu (qa 10) (zr 1)) qu))) qu))) qu))))))) (xz (yB (zc yLt (qa 9) (zr 6))) (jk (zf p2 (q9 (qa 3) (q9 (zc cJ (qa 4) (zc vi (qa 8) (bW 4))) (q9 (qa 7) (q9 (zc aF (qa 8) (zr 64)) qu)))))) (xz (adl (yB (zc yLt (qa 9) (zr 8))) (yB (zc yGt (bW 4) (zr 1)))) (jk (zf p3 (q9 (qa 3) (q9 (qa 4) (w6 (qa 7) (qa 8)))))) (jk (zf p4 (q9 (qa 3) (q9 (qa 4) (w6 (qa 7) (qa 8))))))))))))))
 (gO (xz (eU (qa 4) (jn qu)) (qw (jk (aT j8 (qa 3) (q9 (jf (q9 (vm "turned") (q9 (zf p1 (w6 (qa 1) (zr 0))) qu))) qu)))
 (qw (jk (aT j8 (qa 3) (q9 (jf (q9 (vm "plain") (q9 (zf p1 (w6 (qa 1) (zr 0))) qu))) qu)))
 (jk (aT j8 (qa 4) (q9 (jn (q9 (jf (q9 (vm "link") (w6 (zr 0) (zr 1)))) (q9 (jn (w6 (zr 0) (zr 1))) qu))) qu))))) xc)
 (qw (mX (yB (zc yGt (bW 4) (zr 1))) (jk (zf p3 (q9 (qa 3) (q9 (qa 4) (q9 (zc zu (zc aF (qa 1) (zr 7)) (bW 4)) (q9 (zc aF (qa 1) (zr 3)) qu)))))))
 (jx (zf p5 (q9 (qa 3) (q9 (zc cJ (jv 4 0) (zr 0)) (k7 (qa 1)))))))))))
def jS(Pt:Addr):xm:=λys L Q=>∃I,∃J:List Int,∃s:Int,∃room:Nat,ys=[.ref I,.int s,.int (room:Int)]/\L I=some (.lst (J.map Y.int))/\J.length<=1000/\room<=60/\L Pt=some (.tb lamQ)/\
 ∀w ks R E,L w=none->yh ks R E->(qt R).Perm (List.range ks.length)->Q (.tup [.ref w,qk R]) (qg L w (.lst (ja ks)))
theorem aav :∀ys L Q,jS Pt ys L Q->v0 (acj oG ij iS lv mJ (dc Pt)) 11 ys L Q:=by
 rintro ys L Q ⟨cy,ns,s,room,rfl,ag,bi,bf,hP,q⟩;have big:=bg_;have U:∀fo:List Tr,(zd fo).length=fo.length:=λfo=>Ab ..;have l:∀I:List Kn,(ja I).length=I.length:=λI=>Ab ..;intro J al g aL;have nkf:J≠g:=wu q8 aL;have bb:L g=none:=(By al).none aL;have F0:kQ L (qg (qg L J (.lst [])) g (.lst [])) J g [] []:=by
  refine⟨⟨by rw[qd nkf];exact q8,λt ht=>by simp at ht,λt ht=>by simp at ht,by simp,by simp,by simp[nkf],λp k e=>by simp at e,(By al).trans (By aL),λx hx=>?_⟩,q8⟩;rcases Ap.mp hx with rfl|hx
  ·exact al
  ·rw[Ag.mp hx];exact bb
 generalize qg (qg L J (.lst [])) g (.lst [])=L1 at F0;refine jy (F0.b.sub _ _ ag) λkeep kp=>wv ⟨λ_ τ L'=>TW L J g s room τ L',?_,?_,?_,?_⟩
 ·exact TW.of F0 (Bi _)
 ·rintro i τ L' ⟨c0,c5,c6,c7,c8,c9,fF,I,fo,rfl,F,hb⟩;exact kp L' (by rw[F.b.sub _ _ ag,F0.b.sub _ _ ag])
 ·rintro i y τ L' ey ⟨c0,c5,c6,c7,c8,c9,fF,I,fo,rfl,F,hb⟩;obtain⟨z,ez,rfl⟩:=jV ey;obtain⟨cell,ec,rfl⟩:∃cell:Int,ns[i]?=some cell/\z=Y.int cell:=by rw[Am] at ez;obtain⟨z,e1,e2⟩:=Au.mp ez;exact⟨z,e1,e2.symm⟩
  have hi:=(AL.mp ec).1;refine⟨cell,((i:Nat):Int),48271,rfl,by exact A8 _,by omega,by decide,by decide,λone h1 bj=>⟨cell,((i:Nat):Int),69621,rfl,by exact A8 _,by omega,by decide,by decide,λtwo h2 bn=>?_⟩⟩;refine qc F.b.hk (qc F.hf ?_);refine jd (λc=>?_) λc=>?_
  ·exact⟨_,DN _,TW.of F hb⟩
  have c:¬((((ja I).length:Nat):Int)+(((zd fo).length:Nat):Int)+12 > (room:Int)):=c;rw[l,U] at c;refine⟨(by decide:(0:Int)<9),⟨by decide,by decide⟩,?_⟩;refine jd (λc3=>?_) λc3=>?_
  case' refine_1=>
   obtain⟨L2,bc⟩:∃L2,L2=L':=⟨_,rfl⟩;rw[<-bc];have F':kQ L L2 J g I fo:=by rw[bc];exact F
  case' refine_2=>
   intro p hp;refine cQ (by decide) (By hp _ _ F.hf) q8 ((F.b.mono (By hp)).dats (by lia)) (.nil:Paired (zw _ 0) _ []) ?_;show ky (Da.eqs (fo.map dI) []) _ _;rw[tJ];have F':kQ L (qg L' p (.lst [])) J g I fo:=F.mono (By hp);generalize qg L' p (.lst [])=L2 at F';refine jd (λc0=>?_) λc0=>?_
  case' refine_2.refine_2=>
   have bg:0<fo.length:=by cases fo with|nil=>exact absurd rfl c0|cons _ _=>simp
   have F:=F';refine jd (λc6=>?_) λc6=>?_
   ·obtain⟨j,t,ej,lj,et⟩:=iV bg two;refine qc F.hf ⟨(by show(0:Int)<((zd fo).length:Int);rw[U];lia),qc F.hf (ql (v:=.ref t.a) (by show dz (zd fo) (two % ((zd fo).length:Int))=_;rw[U,ej];exact zv (by unfold zd;rw[Am,et];rfl)) ?_)⟩;obtain⟨pre,post,ep⟩:=Dg (AM et);rw[ep] at F hb;refine⟨⟨by decide,by decide⟩,L,J,g,I,pre,post,t,one / 9,two / 64,rfl,F,by lia,λL3 C a1 F3 h1 h2 _=>?_⟩;refine⟨_,DN _,?_⟩;exact TW.of F3 (by rw[ep] at c;lia)
   refine jd (λc8=>?_) λc8=>?_
   ·refine qc F.hf ?_;refine jd (λc1=>?_) λc1=>?_
    ·have c1:(((zd fo).length:Nat):Int) > 1:=c1;rw[U] at c1;refine⟨L,J,g,I,fo,one / 9,two,rfl,F,by lia,by lia,by lia,λL3 C a1 F3 h1 h2 _=>?_⟩;refine⟨_,DN _,?_⟩;exact TW.of F3 (by lia)
    ·refine⟨L,J,g,I,fo,one / 9,two,rfl,F,by assumption,by lia,by lia,λL3 C a1 F3 h1 h2 h3=>?_⟩;refine⟨_,DN _,?_⟩;exact TW.of F3 (by lia)
   ·refine⟨L,J,g,I,fo,one / 9,two,rfl,F,by lia,by lia,by lia,λL3 C a1 F3 h1 h2 h3=>?_⟩;refine⟨_,DN _,?_⟩;exact TW.of F3 (by lia)
  all_goals
   obtain⟨nm,a2⟩:∃nm,nm=mkS (aC s (two % 3)):=⟨_,rfl⟩;have ba:bw nm:=by rw[a2];exact pB _ _
   refine qc F'.b.hk ⟨(by decide:(0:Int)<3),s,two % 3,rfl,qz F'.b.hk ⟨big _ (by rw[l];omega),?_⟩⟩;refine qc q8 ⟨(by decide:(0:Int)<3),s,two % 3,rfl,qz q8 ⟨big _ (by rw[Ad,l];simp;omega),?_⟩⟩;rw[<-a2,xa];have e1:(ja I++[.tup [.str "plain",.str nm]])++[.tup [.str "turned",.str nm]]=ja (I++[.lf false nm,.lf true nm]):=by unfold ja;rw[Ai,AU];rfl
   rw[e1];refine⟨λτ L3=>∃(b:Bool) (d0 d10:Option Y),τ=[d0,some (.int s),some (.int (room:Int)),some (.ref J),some (.ref g),some (.int ((i:Nat):Int)),some (.int cell),some (.int (one / 9)),some (.int two),some (.int (one % 9)),d10]/\L3=qg L2 J (.lst (ja (I++[.lf b nm,.lf (!b) nm]))),?_,?_⟩
   ·refine⟨(by decide:(0:Int)<2),?_⟩;show ky (decide (one / 9 % 2=1)) _ _;refine jd (λc2=>?_) λc2=>?_
    ·have l2:(ja (I++[Kn.lf false nm,.lf true nm])).length=I.length+2:=by rw[l,Ad];rfl
     have t2:((((ja (I++[Kn.lf false nm,.lf true nm])).length:Nat):Int)-2).toNat=I.length:=by rw[l2];omega
     refine qc q8 (qc q8 (qc q8 (qz q8 ⟨?_,?_,ql (v:=kO (.lf false nm)) ?_ ?_⟩)))
     ·show(0:Int)<=(((ja (I++[Kn.lf false nm,.lf true nm])).length:Nat):Int)-2;rw[l2];omega
     ·show(((ja (I++[Kn.lf false nm,.lf true nm])).length:Nat):Int)-2<_;omega
     ·show(ja (I++[Kn.lf false nm,.lf true nm]))[((((ja (I++[Kn.lf false nm,.lf true nm])).length:Nat):Int)-2).toNat]?=_;rw[t2];unfold ja;rw[Am,cO];rfl
     ·rw[xa];refine qz q8 ⟨big _ ?_,?_⟩
      ·refine AI (CB ..) ?_;show(ja (I++[Kn.lf false nm,.lf true nm])).length<=20000;rw[l2];omega
      ·refine⟨true,_,_,rfl,?_⟩;rw[xa];have e3:(ja (I++[Kn.lf false nm,.lf true nm])).eraseIdx ((((ja (I++[Kn.lf false nm,.lf true nm])).length:Nat):Int)-2).toNat++[kO (.lf false nm)]=ja (I++[.lf true nm,.lf false nm]):=by rw[t2];unfold ja;rw[Ai,List.eraseIdx_append_of_length_le (by simp),Ab,C6,Ai,AU];rfl
       rw[e3];rfl
    ·exact⟨false,_,_,rfl,rfl⟩
   ·rintro bp L3 ⟨b,d0,d10,rfl,rfl⟩;have l2:(ja (I++[Kn.lf b nm,.lf (!b) nm])).length=I.length+2:=by rw[l,Ad];rfl
    have nn:(((ja (I++[Kn.lf b nm,.lf (!b) nm])).length:Nat):Int)-2=((I.length:Nat):Int):=by rw[l2];omega
    have a3:qg L2 J (.lst (ja (I++[.lf b nm,.lf (!b) nm]))) g=some (.lst (zd fo)):=by rw[qd (AW nkf)];exact F'.hf
    have en:∀z:Int,z=((I.length:Nat):Int)->z9 [I.length,I.length+1]=[.int z,.int (z+1)]:=λz e=>by rw[e];rfl
    have er:∀z:Int,z=((I.length:Nat):Int)->qk (.link I.length (I.length+1))=.tup [.str "link",.int z,.int (z+1)]:=λz e=>by rw[e];rfl
    have en:=en _ nn;have er:=er _ nn;refine qc q8 (qc a3 λpb a4 pa a5=>?_);have H:=F'.link ba b (pb:=pb) (pa:=pa) a4 (by rw[en];exact a5) rfl;refine qz (((By a4).trans (By a5)) _ _ a3) ⟨big _ (by rw[U];omega),?_⟩;rw[en,er] at H;refine⟨_,DN _,?_⟩;exact TW.of H (by rw[Ad,Ad];simp;omega)
 ·rintro τ L' ⟨c0,c5,c6,c7,c8,c9,fF,I,fo,rfl,F,hb⟩;refine⟨λτ L3=>∃c0 c5 c6 c7 c8 c9 fF I fo,τ=[c0,some (.int s),some (.int (room:Int)),some (.ref J),some (.ref g),c5,c6,c7,c8,c9,fF]/\kQ L L3 J g I fo/\1<=fo.length/\I.length+fo.length<=max room 3,?_,?_⟩
  ·intro p hp;refine cQ (by decide) (By hp _ _ F.hf) q8 ((F.b.mono (By hp)).dats (by lia)) (.nil:Paired (zw _ 0) _ []) ?_;show ky (Da.eqs (fo.map dI) []) _ _;rw[tJ];have F':kQ L (qg L' p (.lst [])) J g I fo:=F.mono (By hp);generalize qg L' p (.lst [])=L2 at F';refine jd (λc0=>?_) λc0=>?_
   ·subst c0;have k0:I=[]:=by cases I with|nil=>rfl|cons k r=>exact absurd ((F.b.tm 0).mpr (by simp)) (by simp)
    subst k0;obtain⟨nm,a2⟩:∃nm,nm=mkS (aC s 0):=⟨_,rfl⟩;have ba:bw nm:=by rw[a2];exact pB _ _
    refine qc F'.b.hk ⟨s,0,rfl,qz F'.b.hk ⟨big _ (by decide),?_⟩⟩;refine qc q8 ⟨s,0,rfl,qz q8 ⟨big _ (by show 1<=20000;decide),?_⟩⟩;rw[<-a2,xa];have a3:∀o,qg L2 J o g=some (.lst (zd [])):=λo=>by rw[qd (AW nkf)];exact F'.hf
    refine qc (a3 _) λpb a4 pa a5=>?_;have H:=F'.link ba true (pb:=pb) (pa:=pa) a4 a5 rfl;refine qz (((By a4).trans (By a5)) _ _ (a3 _)) ⟨big _ (by show 0<=20000;decide),?_⟩;exact⟨_,_,_,_,_,_,_,_,_,rfl,H,by simp,by simp;lia⟩
   ·exact⟨_,_,_,_,_,_,_,I,fo,rfl,F',(by cases fo with|nil=>exact absurd rfl c0|cons _ _=>simp),by lia⟩
  ·rintro τ L' ⟨c0,c5,c6,c7,c8,c9,fF,I,fo,rfl,F,h1,hb⟩;refine⟨λm τ L3=>∃c0 c5 c6 c7 c8 c9 fF I fo,τ=[c0,some (.int s),some (.int (room:Int)),some (.ref J),some (.ref g),c5,c6,c7,c8,c9,fF]/\kQ L L3 J g I fo/\1<=fo.length/\fo.length=m/\I.length+fo.length<=max room 3,⟨_,_,_,_,_,_,_,_,_,_,rfl,F,h1,rfl,hb⟩,?_⟩;rintro m τ L' ⟨c0,c5,c6,c7,c8,c9,fF,I,fo,rfl,F,h1,hm,hb⟩;refine qc F.hf ?_;refine jd (λc1=>?_) λc1=>?_
   ·have c1:(((zd fo).length:Nat):Int) > 1:=c1;rw[U] at c1;refine⟨λτ L3=>∃c0 c5 c6 c7 c8 c9 fF I fo,τ=[c0,some (.int s),some (.int (room:Int)),some (.ref J),some (.ref g),c5,c6,c7,c8,c9,fF]/\kQ L L3 J g I fo/\1<=fo.length/\fo.length+1=m/\I.length+fo.length<=max room 3,?_,?_⟩
    ·rintro τ L3 ⟨d0,d5,d6,d7,d8,d9,d10,C,a1,rfl,F3,g1,g2,g3⟩;exact⟨m-1,by lia,_,_,_,_,_,_,_,_,_,rfl,F3,g1,by lia,g3⟩
    ·refine⟨⟨by decide,by decide⟩,qc F.hf ⟨⟨by decide,by decide⟩,L,J,g,I,fo,_,_,rfl,F,by lia,by lia,by lia,λL3 C a1 F3 g1 g2 _=>?_⟩⟩;exact⟨_,DN _,_,_,_,_,_,_,_,C,a1,rfl,F3,by lia,by lia,by lia⟩
   ·have c1:¬((((zd fo).length:Nat):Int) > 1):=c1;rw[U] at c1;obtain⟨t,rfl⟩:∃t,fo=[t]:=by
     match fo,h1,c1 with
     |[t],_,_=>exact⟨t,rfl⟩
     |t::u::r,_,c=>exact absurd (show(((t::u::r).length:Nat):Int) > 1 by simp;lia) c
    have ta:=(F.b.ht t (Ah ..)).1;refine qc F.hf (qc ta ?_);have tp:(qt t.R).Perm (List.range I.length):=by have nd:=F.b.nd;have tm:=F.b.tm;simp at nd tm;exact(AZ nd B7).mpr λx=>by rw[tm,A5]
    have sr:=F.b.sr t (Ah ..);have hk:I.length<=63:=by simp at hb;lia
    refine⟨J,I,t.R,t.E,s,rfl,F.b.hk,F.b.ok,sr,tp,hk,F.b.sub _ _ hP,λw f C bd lk rn=>?_⟩;obtain⟨T,bh⟩:=yh.ren F.b.ok sr tp (by lia) rn lk;exact cU (EH (F.b.sub.trans (By bd)) q8) (q w C _ _ (F.b.sub.none bd) T bh)
def cI:Option Kn->Da
 |none=>.s .non
 |some (.lf t n)=>.tup [.s (.str (kL t)),.s (.str n)]
 |some (.nd e i j)=>.tup [.s (.str (kN e)),.s (.int ((i:Nat):Int)),.s (.int ((j:Nat):Int))]
theorem ac5 :∀k:Option Kn,zw L 1 (uk k) (cI k)
 |none=>.inl ⟨rfl,rfl⟩
 |some (.lf t n)=>xo (.cons (DV _) (.cons (DV _) .nil))
 |some (.nd e i j)=>xo (.cons (DV _) (.cons (DU _) (.cons (DU _) .nil)))
theorem oK{L:qm}:∀wd:List (Option Kn),Paired (zw L 1) (vo wd) (wd.map cI)
 |[]=>.nil
 |k::r=>.cons (ac5 k) (oK r)
theorem mQ:∀wd:List (Option Kn),Da.eqs (wd.map cI) (wd.map cI)=true
 |[]=>rfl
 |k::r=>by
  have:Da.eq (cI k) (cI k)=true:=by cases k with|none=>rfl|some k=>cases k<;>simp[cI,Da.eq,Da.eqs,iL]
  rw[AA,Da.eqs,this,mQ r];rfl
theorem yW(I:List Int)(lo hi:Option Int):∃ms:List Int,eM (I.map Y.int) lo hi=ms.map Y.int/\ms.length<=I.length:=by unfold eM;refine⟨(I.drop (HT.sIx (I.map Y.int).length 0 lo)).take (HT.sIx (I.map Y.int).length (I.map Y.int).length hi-HT.sIx (I.map Y.int).length 0 lo),by rw[List.map_take,List.map_drop],?_⟩;rw[AY,B1];lia
end L3
namespace L2
open PySem PySem.Spec PyProof.Rows
section
variable {w:World}
section
variable {t1 t2:Bool}{z TI TO i1 i2 l1 l2 B:Addr}{xs ys:Array Value}
end
end
section
variable {σ:L2.St}{t1 t2:Bool}{z TI TO i1 i2 l1 l2 S:Addr}{ys:List V}{R:Result->Shared->Prop}{res:Value}
end
end L2
namespace L3
open PySem L2
open PySem L2 Words
def oy(I:Addr)(E3:X3)(J:xm):ke:=(qw (zk (zf J (k7 (qa 0))) (qf 2))
 (qw (xz (sI (yB (rF (zr 0) (yN yLe (qa 1) (xQ yLt (bW 2)))))) (sP I E3 (k7 (vm "a rule has no arm of that number"))) xc)
 (jx (zc cJ (qa 2) (qa 1)))))
def dW(E3:X3)(I:dN):ke:=(qw (zk (jn (k7 (qa 0))) (qf 2))
 (qw (iU (v4 (qa 1)) (qf 3) (jk (aT j8 (qa 2) (q9 (fu I E3 (q9 (zc cJ (qa 2) (yUn aa6 (zr 1))) (k7 (qa 3)))) qu))))
 (jx (qa 2))))
theorem yT(R:Ru):(zo R).length<=2:=by cases R<;>simp[zo]
theorem Paired.len{α β:Type}{F:α->β->Prop}:∀{xs:List α} {ys:List β},Paired F xs ys->xs.length=ys.length
 |_,_,.nil=>rfl
 |_,_,.cons _ r=>Bb (· + 1) (Paired.len r)
def a9(R:Ru)(i:Int):Option Ru:=if 0<=i/\i<((zo R).length:Int) then(zo R)[i.toNat]? else none
theorem lO{B:Ru}{i:Int}(h:a9 R i=some B):∃k:Nat,i=(k:Int)/\(zo R)[k]?=some B:=by
 unfold a9 at h;split at h
 ·rename_i c;exact⟨i.toNat,by lia,h⟩
 ·cases h
def eJ(C:Addr):dN:=λys L Q E=>∃R:Ru,∃i:Int,ys=[qk R,.int i]/\(∀B,a9 R i=some B->Q (qk B) L)/\(a9 R i=none->E C L)
theorem zO :∀ys L Q E,eJ C ys L Q E->v0 (oy C (pO E) wq) 3 ys L Q:=by
 rintro ys L Q E ⟨R,i,rfl,q,ex⟩;refine⟨R,rfl,λg h1=>?_⟩;have I:=By (o:=.lst ((zo R).map qk)) h1;have no:¬(0<=i/\i<((zo R).length:Int))->∀J,pO E J C (qg L g (.lst ((zo R).map qk))):=λc J=>⟨L,I,ex (by unfold a9;rw[AD c])⟩;by_cases c1:0<=i
 ·walk_at "w";rw[AV c1];refine qc q8 ?_;by_cases c2:i<((zo R).length:Int)
  ·refine cn (by show(!decide (i<((((zo R).map qk).length:Nat):Int)))=false;rw[Ab,AV c2];rfl) ?_;obtain⟨k,rfl⟩:∃k:Nat,i=(k:Int):=⟨i.toNat,by lia⟩;have U:k<(zo R).length:=by lia
   refine qc q8 (ql (aP (Aj U)) (cU I (q _ ?_)));unfold a9;rw[AF ⟨c1,c2⟩,CD];exact Aj U
  ·refine fZ (by show(!decide (i<((((zo R).map qk).length:Nat):Int)))=true;rw[Ab,Az c2];rfl) ?_;exact⟨Ar rfl,no (λh=>c2 h.2) _⟩
 ·walk_at "w";rw[Az c1];exact⟨Ar rfl,no (λh=>c1 h.1) _⟩
def v9:Ru->List Int->Option (List Ru)
 |R,[]=>some [R]
 |R,i::w=>match a9 R i with
  |none=>none
  |some B=>(v9 B w).map (R::·)
theorem eV{w:List Int}{m:List Ru}(h:v9 R w=some m):∃I,m=R::I/\I.length=w.length:=by
 induction w generalizing R m with
 |nil=>cases h;exact⟨[],rfl,rfl⟩
 |cons i w J=>
  unfold v9 at h;cases e:a9 R i with
  |none=>rw[e] at h;cases h
  |some B=>
   rw[e] at h;obtain⟨g,U,rfl⟩:=Au.mp h;obtain⟨j,rfl,l⟩:=J U;exact⟨_,rfl,Bb (· + 1) l⟩
theorem ig{w:List Int}{l:List Ru}(h:v9 R w=some (l++[S]))(x:Int)(u:List Int):v9 R (w++x::u)=(v9 S (x::u)).map (l++·):=by
 induction w generalizing R l with
 |nil=>
  have h:[R]=l++[S]:=AN h;cases l with|nil=>cases h;show _=Option.map (λz=>z) _;rw[Option.map_id'];rfl|cons a l=>have:=Bb List.length h;simp at this
 |cons i w U=>
  unfold v9 at h;rw[CS];show(match a9 R i with|none=>none|some B=>(v9 B (w++x::u)).map (R::·))=_;cases e:a9 R i with
  |none=>rw[e] at h;cases h
  |some B=>
   rw[e] at h;obtain⟨j,I,J⟩:=Au.mp h;obtain⟨o,rfl,_⟩:=eV I;cases l with
   |nil=>cases J
   |cons a l=>
    obtain⟨rfl,g⟩:=A4 J;rw[g] at I;show(v9 B (w++x::u)).map (R::·)=_;rw[U I,Option.map_map];rfl
def i3(C:Addr):dN:=λys L Q E=>∃R:Ru,∃h,∃w:List Int,ys=[qk R,.ref h]/\L h=some (.lst (w.map Y.int))/\w.length<=1000/\(∀m,v9 R w=some m->∀p,L p=none->Q (.ref p) (qg L p (.lst (m.map qk))))/\(v9 R w=none->E C L)
theorem aa4 :∀ys L Q E,i3 C ys L Q E->v0 (dW (pO E) (eJ C)) 4 ys L Q:=by
 rintro ys L Q E ⟨R,h,w,rfl,o,hz,q,ex⟩;have big:=bg_;intro l p;have r:qh L (qg L l (.lst [qk R])):=By p;refine jy (r _ _ o) λkeep T=>wv ⟨λi j J=>∃c3 m S,j=[some (qk R),some (.ref h),some (.ref l),c3]/\qh L J/\J l=some (.lst ((m++[S]).map qk))/\v9 R (w.take i)=some (m++[S]),⟨_,[],R,rfl,r,q8,rfl⟩,?_,?_,?_⟩
 ·rintro i j J ⟨c3,m,S,rfl,s,_⟩;exact T J (by rw[s _ _ o,r _ _ o])
 ·rintro i y j J t ⟨c3,m,S,rfl,s,g,U⟩;rw[Am] at t;obtain⟨x,I,rfl⟩:=Au.mp t;have hi:=xq I;have et:w.take (i+1)=w.take i++[x]:=by rw[Bq,I];rfl
  have ew:w=w.take i++x::w.drop (i+1):=by rw[Aj hi] at I;rw[<-AN I,Cn,A6]
  have ml:(m++[S]).length<=1001:=by obtain⟨m',e,l⟩:=eV U;rw[e,AJ,l,AY];lia
  rw[Ai] at g;refine qc g (qc g (ql (pN _ _) ⟨S,x,rfl,λB hB=>?_,λhn=>⟨L,s,ex ?_⟩⟩))
  ·refine qz g ⟨?_,?_⟩
   ·rw[<-Ai,Ab];exact big _ (by lia)
   ·refine⟨_,DN _,_,m++[S],B,rfl,s.upd p,by rw[q8,Ai,Ai];rfl,?_⟩;rw[et,ig U];show((match a9 S x with|none=>none|some B=>(v9 B []).map (S::·)).map (m++·))=_;rw[hB,AU];rfl
  ·rw[ew,ig U];show((match a9 S x with|none=>none|some B=>(v9 B _).map (S::·)).map (m++·))=_;rw[hn];rfl
 ·rintro j J ⟨c3,m,S,rfl,s,g,U⟩;rw[Ab,Bm] at U;exact cU (EH s g) (q _ U l p)
def vd:Ru->List Int->Option Ru
 |R,[]=>some R
 |R,i::w=>match a9 R i with
  |some B=>vd B w
  |none=>none
theorem aan{w:List Int}{l:List Ru}(h:v9 R w=some (l++[S])):vd R w=some S:=by
 induction w generalizing R l with
 |nil=>
  have h:[R]=l++[S]:=AN h;cases l with|nil=>cases h;rfl|cons a l=>have:=Bb List.length h;simp at this
 |cons i w U=>
  unfold v9 at h;unfold vd;cases e:a9 R i with
  |none=>rw[e] at h;cases h
  |some B=>
   rw[e] at h;obtain⟨j,I,J⟩:=Au.mp h;obtain⟨o,rfl,_⟩:=eV I;cases l with
   |nil=>cases J
   |cons a l=>
    obtain⟨_,g⟩:=A4 J;rw[g] at I;exact U I
theorem yo{w:List Int}(h:v9 R w=none):vd R w=none:=by
 induction w generalizing R with
 |nil=>cases h
 |cons i w I=>
  unfold v9 at h;unfold vd;cases e:a9 R i with
  |none=>rfl
  |some B=>
   rw[e] at h;exact I (Option.map_eq_none_iff.mp h)
def aeb(I:xm):ke:=(qw (zk (jf (q9 (jn qu) (q9 aa7 (q9 (jn (k7 (qa 1))) qu)))) (aZ 3 (zp (qf 2) (zp (qf 3) (zp (qf 4) aE)))))
 (qw (mX (rdN (qa 4) (jn qu)) (qw (zk (aT wR (qa 4) qu) (qf 5))
 (gO (xz (eU (jv 5 0) (vm "link")) (jk (aT bZ (qa 2) (q9 (jn (w6 (jv 5 1) (jv 5 2))) qu))) (xz (eU (jv 5 0) (vm "cut")) (qw (lI (qa 3) (jv 5 1) (yC (.bl true)))
 (lI (qa 3) (jv 5 2) (yC (.bl true)))) (qw (jk (aT j8 (qa 2) (k7 (jv 5 1))))
 (qw (lI (qa 3) (zc cJ (zc cJ (qa 0) (jv 5 1)) (zr 1)) (yC (.bl true)))
 (lI (qa 3) (zc cJ (zc cJ (qa 0) (jv 5 1)) (zr 2)) (yC (.bl true)))))))
 (jk (aT bZ (qa 4) (q9 (zf I (k7 (qa 5))) qu))))))
 (jx (oQ 1 (v4 (qa 2)) (qf 6) (yB (zc (adh true) (qa 6) (qa 3))) (qa 6)))))
def tkO(ks:List Kn)(B:Ru):List Nat:=(lg ks B).flatten
def iF(ks:List Kn)(R:Ru):List Nat:=(jq R).flatMap (tkO ks)
theorem fO(ks:List Kn)(A:Ru):iF ks A=tkO ks A++(zo A).flatMap (iF ks):=by unfold iF;rw[aD A,AS,List.flatMap_assoc]
theorem SR.tk{E:List Nat}(h:SR ks R E):(iF ks R).Perm (fj ks (qt R)++xw (za R)):=by
 induction h with
 |@link p q t n U h1 h2 h3 g l=>
  have e:fj ks [p,q]=[]:=by rw[aA,aA,h2,h3];rfl
  show([]:List Nat).Perm (fj ks [p,q]++[]);rw[e];exact BC _
 |@ei r i j A o U h1 C h3 g l T h7 ih=>
  have e:iF ks (.ei r A)=[i,j]++iF ks A:=by rw[fO];show [aq ks[r]?].flatten++(iF ks A++[])=_;rw[h1,AX];rfl
  rw[e];show List.Perm _ (fj ks (r::qt A)++xw (za A));rw[aA,h1];exact(List.Perm.append_left [i,j] ih).trans (by rw[<-AU];exact BC _)
 |@bo r i j A B o EB U h1 C hB g l T h7 I J=>
  have e:iF ks (.bo r A B)=[i,j]++(iF ks A++iF ks B):=by rw[fO];show((aq ks[r]?).map λx=>[x]).flatten++(iF ks A++(iF ks B++[]))=_;rw[h1,AX];rfl
  rw[e];show List.Perm _ (fj ks (r::(qt A++qt B))++xw (za A++za B));rw[aA,h1,hZ,aG];show List.Perm _ ([i,j]++(fj ks (qt A)++fj ks (qt B))++(xw (za A)++xw (za B)));refine Bz.mpr λa=>?_;have c1:=I.count_eq a;have c2:=J.count_eq a;simp only[BD] at c1 c2 ⊢;lia
 |@cu p q A B o EB U w C hB h3 g l T h7 h8 I J=>
  have e:iF ks (.cu p q A B)=[p,q]++(iF ks A++iF ks B):=by rw[fO];show [[p],[q]].flatten++(iF ks A++(iF ks B++[]))=_;rw[AX];rfl
  rw[e];show List.Perm _ (fj ks (qt A++qt B)++xw ((p,q)::(za A++za B)));rw[hZ,gH,aG];show List.Perm _ (fj ks (qt A)++fj ks (qt B)++([p,q]++(xw (za A)++xw (za B))));refine Bz.mpr λa=>?_;have c1:=I.count_eq a;have c2:=J.count_eq a;simp only[BD] at c1 c2 ⊢;lia
theorem acq{E:List Nat}(h:SR ks R E)(nd:(qt R).Nodup)(x:Nat):x∈E↔x∈qt R/\x∉iF ks R:=by
 have P:(iF ks R++E).Perm (qt R):=((h.tk.append_right E).trans (by rw[AU])).trans (h.part nd);have N:=Av.mp (P.nodup_iff.mpr nd);constructor
 ·intro I;exact⟨P.mem_iff.mp (Af _ I),λz=>N.2.2 x z x I rfl⟩
 ·rintro⟨a,b⟩;rcases Ao.mp (P.mem_iff.mpr a) with z|z
  ·exact absurd z b
  ·exact z
theorem ae0{E:List Nat}(h:SR ks R E)(nd:(qt R).Nodup):(iF ks R).length<=(qt R).length:=by have P:(iF ks R++E).Perm (qt R):=((h.tk.append_right E).trans (by rw[AU])).trans (h.part nd);have:=P.length_eq;rw[Ad] at this;lia
theorem SR.arm{B:Ru}{E:List Nat}(h:SR ks R E)(J:B∈zo R):∃I,SR ks B I:=by obtain⟨i,e⟩:=BR J;have j:=Paired.len h.arms;have l:=xq e;have U:(lg ks R)[i]?=some ((lg ks R)[i]'(by lia)):=Aj (by lia);obtain⟨I,g,_⟩:=DX h.arms e U;exact⟨I,g⟩
theorem aao(l:List Ru):l.length<=(l.map k6).sum:=by induction l with|nil=>exact Al _|cons x r I=>have:=iC x;simp;lia
def iq:xm:=λys L Q=>∃a,∃wd:List (Option Kn),∃ks:List Kn,∃R:Ru,∃E:List Nat,ys=[.ref a,qk R]/\L a=some (.lst (vo wd))/\SR ks R E/\Agr ks wd R/\(qt R).Nodup/\(qt R).length<=120/\
 ∀p F,L p=none->(∀x,x∈F↔x∈E)->Q (.ref p) (qg L p (.lst (nY F)))
def tLe(a:Addr)(R:Ru)(tl td I:Addr)(c:Option Y):jh:=[some (.ref a),some (qk R),some (.ref tl),some (.ref td),some (.ref I),c]
structure LeI(ks:List Kn)(R:Ru)(tk us:List Nat)(kvs:List (j7×Y))(st:List Ru):Prop where
 si:StI R tk st
 ui:UsI us kvs
 tq:(us++st.flatMap (iF ks)).Perm (iF ks R)
 sr:∀B∈st,∃EB,SR ks B EB
theorem yP:∀ys L Q,iq ys L Q->v0 (aeb im) 6 ys L Q:=by
 rintro ys L Q ⟨a,wd,ks,R,E,rfl,ha,sr,ag,nd,tl,q⟩;have big:=bg_;have rd:=v3 R;have rz:=ku R;have ba:=ae0 sr nd;intro la a2 ta a5 j a3;have U:la≠ta:=wu q8 a5;have r:ta≠j:=wu q8 a3;have t:la≠j:=wu ((qd U).trans q8) a3;have g:L ta=none:=xg a5;have a4:L j=none:=xg (xg a3);have S0:qh L (qg (qg (qg L la (.lst [])) ta (.dct [])) j (.lst [qk R])):=((By a2).trans (By a5)).trans (By a3);refine⟨λm τ C=>∃tk us J st c5,τ=tLe a R la ta j c5/\qh L C/\C la=some (.lst (nY tk))/\C ta=some (.dct J)/\C j=some (.lst (st.map qk))/\LeI ks R tk us J st/\m=(st.map k6).sum,⟨_,[],[],[],[R],_,rfl,S0,(qd t).trans ((qd U).trans q8),(qd r).trans q8,q8,⟨StI.start R,UsI.nil,by simp,λB hB=>by rw[Ag.mp hB];exact⟨E,sr⟩⟩,rfl⟩,?_⟩;rintro m τ C ⟨tk,us,J,st,c5,rfl,s,h1,h3,l,I,rfl⟩;intro p hp;refine cQ (n:=120) (m:=0) (by decide) (By hp _ _ l) q8 (dm λA hA=>AI (I.si.dp A hA) (by lia)) (.nil:Paired (zw _ 0) _ []) ?_;have s2:qh L (qg C p (.lst [])):=s.trans (By hp);replace h1:=(qd (o:=.lst []) (wu h1 hp)).trans h1;replace h3:=(qd (o:=.lst []) (wu h3 hp)).trans h3;replace l:=(qd (o:=.lst []) (wu l hp)).trans l;generalize qg C p (.lst [])=L2 at s2 h1 h3 l ⊢;show ky (!(Da.eqs (st.map w9) [])) _ _;rw[xG];have kl:=I.ui.len;have pl:=I.si.pt.length_eq;have ul:=I.tq.length_eq;rw[Ad] at pl ul;rcases CN st with rfl|⟨eE,A,rfl⟩
 ·refine cn rfl ?_;have pt:tk.Perm (qt R):=by have:=I.si.pt;simpa using this
  have pu:us.Perm (iF ks R):=by have:=I.tq;simpa using this
  refine jy h1 λkeep kp=>aV (λi zs=>zs=nY ((tk.take i).filter λx=>!decide (x∈us))) (by rw[a8];exact big _ (by lia)) (kp _ rfl) rfl ?_ ?_
  ·rintro i y zs hy rfl;obtain⟨x,ex,rfl⟩:=rP hy;refine x0 h3 ?_;rw[I.ui.val];have et:tk.take (i+1)=tk.take i++[x]:=by rw[Bq,ex];rfl
   by_cases c:x∈us
   ·refine cn (by rw[AV c];rfl) ⟨_,DN _,rfl,?_⟩;rw[et,BB,Bw,AD (by simp[c])];simp
   ·refine fZ (by rw[Az c];rfl) ⟨_,DN _,rfl,?_⟩;rw[et,BB,Bw,AF (by simp[c]),iR];rfl
  rintro zs rfl p5 h5;rw[a8,Bm];refine cU (EH (s2.trans (By h5)) q8) (q p5 _ (s2.none h5) λx=>?_);rw[acq sr nd,AO,pt.mem_iff,BO,decide_eq_false_iff_not,pu.mem_iff]
 ·rw[CO] at *;rw[Az (by simp)];refine fZ rfl ⟨λa1 C=>∃m',m'<((eE++[A]).map k6).sum/\∃tk us J st c5,a1=tLe a R la ta j c5/\qh L C/\C la=some (.lst (nY tk))/\C ta=some (.dct J)/\C j=some (.lst (st.map qk))/\LeI ks R tk us J st/\m'=(st.map k6).sum,λa1 C h=>h,?_⟩;rw[Ai] at l;refine zT l ?_;have s3:qh L (qg L2 j (.lst (eE.map qk))):=s2.upd a4;replace h1:=(qd (o:=.lst (eE.map qk)) t).trans h1;replace h3:=(qd (o:=.lst (eE.map qk)) r).trans h3;clear l;have l:qg L2 j (.lst (eE.map qk)) j=some (.lst (eE.map qk)):=q8;generalize qg L2 j (.lst (eE.map qk))=L3 at s3 h1 h3 l ⊢;obtain⟨EA,sA⟩:=I.sr A (Af _ (Ag.mpr rfl));have tA:∀x∈qt A,x∈qt R:=λx hx=>I.si.pt.mem_iff.mp (Af _ (A2.mpr ⟨A,Af _ (Ag.mpr rfl),hx⟩));have kb:J.length+2<=20000:=by lia
  have tb:tk.length+2<=20000:=by lia
  refine⟨λa1 L4=>∃J,a1=tLe a R la ta j (some (qk A))/\qh L L4/\L4 la=some (.lst (nY (tk++sF A)))/\L4 ta=some (.dct J)/\L4 j=some (.lst (eE.map qk))/\UsI (us++tkO ks A) J,?_,?_⟩
  ·cases sA with
   |@link p0 q0=>
    refine qc h1 λp6 h6=>?_;have n6:la≠p6:=wu h1 h6;refine qz ((qd n6).trans h1) (qz q8 ⟨by rw[a8];exact Bl (big _ tb),?_⟩);refine⟨J,rfl,(s3.trans (By h6)).upd a2,by rw[q8,iR];rfl,?_,?_,by rw[show tkO ks (.link p0 q0)=[] from rfl,AX];exact I.ui⟩
    ·rw[qd (AW U)];exact By h6 _ _ h3
    ·rw[qd (AW t)];exact By h6 _ _ l
   |@cu p0 q0 A0 B0=>
    refine x0 h3 ⟨big _ (by lia),?_⟩;have U1:=I.ui.put p0 (.bl true);have k1:=cW J (.inl (p0:Int)) (.bl true);refine x0 q8 ⟨big _ (by lia),?_⟩;have U2:=U1.put q0 (.bl true);rw[xa];refine⟨_,rfl,s3.upd g,by rw[qd U,h1];simp[sF],q8,by rw[qd (AW r)];exact l,by rw[AU] at U2;exact U2⟩
   |@ei T i0 j0 A0 aL _ hk=>
    have hw:=ag T (tA T (Ah ..)) _ hk;refine qc h1 (qz h1 ⟨by rw[a8];exact big _ (by lia),?_⟩);have w1:=s3.upd (o:=.lst (nY tk++[.int (T:Int)])) a2;have g3:qg L3 la (.lst (nY tk++[.int (T:Int)])) ta=some (.dct J):=(qd (AW U)).trans h3;refine qc (w1 _ _ ha) (ql (aP hw) (x0 g3 ⟨big _ (by lia),?_⟩));have U1:=I.ui.put i0 (.bl true);have k1:=cW J (.inl (i0:Int)) (.bl true);have w2:=w1.upd (o:=.dct (bH J (.inl (i0:Int)) (.bl true))) g;refine qc (w2 _ _ ha) (ql (aP hw) (x0 q8 ⟨big _ (by lia),?_⟩));have U2:=U1.put j0 (.bl true);rw[xa];refine⟨_,rfl,w1.upd g,by rw[qd U,q8,iR];rfl,q8,by rw[qd (AW r),qd (AW t)];exact l,?_⟩;rw[AU] at U2;have:tkO ks (.ei T A0)=[i0]++[j0]:=by show [aq ks[T]?].flatten=_;rw[hk];rfl
    rw[this];exact U2
   |@bo T i0 j0 A0 B0 aL bb _ hk=>
    have hw:=ag T (tA T (Ah ..)) _ hk;refine qc h1 (qz h1 ⟨by rw[a8];exact big _ (by lia),?_⟩);have w1:=s3.upd (o:=.lst (nY tk++[.int (T:Int)])) a2;have g3:qg L3 la (.lst (nY tk++[.int (T:Int)])) ta=some (.dct J):=(qd (AW U)).trans h3;refine qc (w1 _ _ ha) (ql (aP hw) (x0 g3 ⟨big _ (by lia),?_⟩));have U1:=I.ui.put i0 (.bl true);have k1:=cW J (.inl (i0:Int)) (.bl true);have w2:=w1.upd (o:=.dct (bH J (.inl (i0:Int)) (.bl true))) g;refine qc (w2 _ _ ha) (ql (aP hw) (x0 q8 ⟨big _ (by lia),?_⟩));have U2:=U1.put j0 (.bl true);rw[xa];refine⟨_,rfl,w1.upd g,by rw[qd U,q8,iR];rfl,q8,by rw[qd (AW r),qd (AW t)];exact l,?_⟩;rw[AU] at U2;have:tkO ks (.bo T A0 B0)=[i0]++[j0]:=by show((aq ks[T]?).map λx=>[x]).flatten=_;rw[hk];rfl
    rw[this];exact U2
  ·rintro a1 L4 ⟨al,rfl,s4,g1,g3,g4,U'⟩;refine qc g4 ⟨A,rfl,λp8 h8=>?_⟩;have l1:=I.si.step.sz;have l2:=aao (eE++zo A);rw[Ad] at l2;refine qz ((qd (wu g4 h8)).trans g4) (qz q8 ⟨by rw[Ab,Ab];exact Bl (big _ (by lia)),?_⟩);refine⟨_,DN _,_,StI.lt (tk:=tk) (A:=R),tk++sF A,us++tkO ks A,al,eE++zo A,_,rfl,(s4.trans (By h8)).upd a4,(qd t).trans ((qd (wu g1 h8)).trans g1),(qd r).trans ((qd (wu g3 h8)).trans g3),by rw[q8,Ai],⟨I.si.step,U',?_,λB hB=>?_⟩,by rw[Ai,DL]⟩
   ·refine List.Perm.trans ?_ I.tq;rw[AC,AC,CI,fO ks A];refine Bz.mpr λz=>?_;simp only[BD];lia
   ·rcases Ao.mp hB with hB|hB
    ·exact I.sr B (Aq _ hB)
    ·obtain⟨EA,sA⟩:=I.sr A (Af _ (Ag.mpr rfl));exact sA.arm hB
theorem kD{w:List Int}(h:vd R w=some S):w.length+1<=jj R/\S∈jq R:=by
 induction w generalizing R with
 |nil=>cases h;exact⟨jM _,by rw[aD];exact Ah ..⟩
 |cons i w J=>
  have h:(match a9 R i with|some B=>vd B w|none=>none)=some S:=h;cases e:a9 R i with
  |none=>rw[e] at h;cases h
  |some B=>
   rw[e] at h;obtain⟨k,_,U⟩:=lO e;have I:=AM U;have:=aR I;obtain⟨a,b⟩:=J h;exact⟨by rw[AJ];lia,by rw[aD];exact Ac _ (A2.mpr ⟨B,I,b⟩)⟩
theorem zL(R:Ru)(k:Nat):a9 R (k:Int)=(zo R)[k]?:=by
 unfold a9;split
 ·rw[CD]
 ·rename_i c;rw[BJ (by lia)]
theorem lE{L:qm}{n:Nat}:∀xs:List Int,Paired (zw L n) (xs.map Y.int) (xs.map λx=>Da.s (.int x))
 |[]=>.nil
 |x::r=>.cons (DU x) (lE r)
theorem uY{A:Ru}(h:jj A<=n):zw L n (qk A) (w9 A):=by
 have:=dm (L:=L) (n:=n) (st:=[A]) λB I=>by rw[Ag.mp I];exact h
 cases this with|cons a _=>exact a
end L3
namespace L2
open PySem PySem.W
section
variable {K:Ae}(T:K.lookup Pt=some (PySem.W.tabObj #[]))
include T
theorem sX :clsIn (lessK Pt K) C=clsIn K C:=by
 unfold clsIn;by_cases d:C=Pt
 ·subst d;rw[xu,T]
 ·rw[jw d]
theorem xN{b:Value}:mroIn (lessK Pt K) C b=mroIn K C b:=by unfold mroIn;rw[sX T]
theorem nZ{t b:Value}:subIn (lessK Pt K) t b=subIn K t b:=by
 unfold subIn;split
 ·rfl
 ·exact xN T
 ·rfl
theorem sJ{i:String} :specialIn (lessK Pt K) (.builtin i) x=specialIn K (.builtin i) x:=by unfold specialIn typeIn;dsimp only;congr 1;funext t;exact e9 T
theorem ahi{i:String}:takesIn (lessK Pt K) (.builtin i)=takesIn K (.builtin i):=by unfold takesIn;rw[sJ T,sJ T]
theorem lY{t c:Value}{b:Bool}(e:kitCls K t c=some b):kitCls (lessK Pt K) t c=some b:=by
 unfold kitCls at e ⊢;split at e
 ·rename_i C;have n:C≠Pt:=by rintro rfl;unfold clsIn at e;rw[T] at e;cases e
  have h:typeIn (lessK Pt K) (.ref C)=typeIn K (.ref C):=by show(List.lookup C (lessK Pt K)).map _=(List.lookup C K).map _;rw[jw n]
  rw[sX T,nZ T,h];exact e
 ·rw[nZ T];exact e
 ·cases e
theorem dC{t c:Value}{b:Bool}(e:kitOne K t c=some b):kitOne (lessK Pt K) t c=some b:=by
 unfold kitOne at e ⊢;split at e
 ·rename_i h;rw[AF h];exact e
 ·rename_i h;rw[AD h];exact lY T e
theorem fY{t:Value}{b:Bool}:∀{l:List Value},kitAny K t l=some b->kitAny (lessK Pt K) t l=some b
 |[],e=>e
 |c::r,e=>by
  unfold kitAny at e ⊢;split at e
  ·rename_i h;rw[dC T h];exact e
  ·rename_i h;rw[dC T h];exact fY e
  ·cases e
theorem aie{t c:Value}{b:Bool}(e:exmOne K t c=some b):exmOne (lessK Pt K) t c=some b:=by
 unfold exmOne at e ⊢;rw[nZ T];split at e
 ·rename_i h;rw[AF h];exact lY T e
 ·cases e
theorem afp(x:XHd K C):XHd (lessK Pt K) C:=by obtain⟨⟨ga,gt,cl,ge,tk,mo,be⟩,h⟩:=x;exact⟨⟨(e9 T).trans ga,(e9 T).trans gt,(e9 T).trans cl,(sJ T).trans ge,(ahi T).trans tk,(xN T).trans mo,(nZ T).trans be⟩,by rw[sX T];exact h⟩
theorem sw{N:Addr}:nsOkIn (lessK Pt K) N=nsOkIn K N:=by
 unfold nsOkIn;by_cases d:N=Pt
 ·subst d;rw[xu,T]
 ·rw[jw d]
theorem tK{bm:List Value}:∀l:List Value,tailIn (lessK Pt K) bm l=tailIn K bm l
 |[]=>rfl
 |v::r=>by
  unfold tailIn;congr 1;split
  ·rename_i A;by_cases d:A=Pt
   ·subst d;rw[xu,T]
   ·rw[jw d];split
    ·rw[sw T,ns_dn T rfl,tK r]
    ·rfl
  ·rfl
theorem exc_dn{bm:List Value}{i:String}(e:excIn K C bm i=true):excIn (lessK Pt K) C bm i=true:=by
 unfold excIn at e ⊢;by_cases d:C=Pt
 ·subst d;rw[T] at e;cases e
 ·rw[jw d];split at e
  ·split at e
   ·rw[tK T,sw T,ns_dn T rfl];exact e
   ·cases e
  ·cases e
end
section
variable {K:Ae}(T:K.lookup Pt=some (PySem.W.tabObj #[]))
include T
end
end L2
namespace L2
open PySem PySem.Spec PyProof.Rows
section
variable {w:World}
end
def Itd(n:Nat):It:=⟨λi _=>i<n,λi H x H'=>H'=H/\x=.int ((n:Int)-1-i),λi _=>n<=i⟩
theorem vK{P:Program}{w:World}{K:Ae}(it:Addr)(n:Nat):vX P w K tg (Itd n) [it] it (λi h=>IsRangeIter h it ((n:Int)-1+(i:Nat)*(-1)) ((n:Int)-(i:Nat)) (-1)) where
 mem:=by simp
 obj:=λi h st b U=>by
  have e:b=it:=by simpa using U
  subst e;exact⟨_,st,λv z=>by have z':Data.fields _=Data.cell v:=z;cases z'⟩
 keep:=λi h j st k=>k it (by simp) _ st
 item:=by intro X p hw r C i J s σ H E I l st T;subst p hw r;obtain⟨f0,f1,f2,f3,f4,f5⟩:=l it (by simp);have W:=Walks.range (prog:=X.prog) (w:=X.w) (I.ok.hd C) it ((n:Int)-1) (-1) n;refine jm I.tk (W.item i s _ _ T st λv j tk hv g kk ht=>?_);obtain⟨t,rfl⟩:=hv;have I1:qy X J σ H { s with heap:=j,toks:=tk }:=I.turned (λb o U e=>kk b o (by simpa using U) e) f0 f1 f3 f4 f5;refine⟨_,rfl,tT (s:={ s with heap:=j,toks:=tk }) (n:="range_iterator") g rfl rfl (by decide) ⟨.int ((n:Int)-1-i),H,I1,⟨t,?_⟩,⟨rfl,rfl⟩,g,λb U=>(l b U).1⟩⟩;congr 1;omega
 done:=by intro X p hw r C i J s σ H E I l st T;subst p hw r;obtain⟨f0,f1,f2,f3,f4,f5⟩:=l it (by simp);exact wpAny_pyNext_range_end (I.ok.hd C) st (by have:n<=i:=T;omega) λj eb=>⟨rfl,I.turned (t':=s.toks) (λb o U e=>eb b o U e) f0 f1 f3 f4 f5⟩
 self:=λ_ _ _ _ _ st h=>wpAny_pyIter_rangeiter st h
end L2
namespace L3
open PySem L2
def fK(n:Nat):List Y:=(List.range n).map λk=>.int ((n:Int)-1-(k:Nat))
theorem ol(n:Nat):dq G H₀ (Itd n) (fK n) (λ_=>True) where
 go:=λi H L t I g j=>show i<n by simpa[fK] using j
 yld:=λi H L x l y t I g J ⟨e,f⟩=>by
  subst e f;unfold fK at J;rw[Am] at J;obtain⟨k,U,rfl⟩:=Au.mp J;have U:k=i:=by have:=AL.mp U;obtain⟨h,e⟩:=this;rw[List.getElem_range] at e;exact e.symm
  subst U;exact⟨DO _,I,rfl⟩
 stop:=λH L t I g=>by show n<=(fK n).length;simp[fK]
end L3
namespace L3
open PySem L2
theorem om:∀w u:List Int,Da.eqs (w.map λx=>Da.s (.int x)) (u.map λx=>Da.s (.int x))=decide (w=u)
 |[],[]=>rfl
 |[],_::_=>rfl
 |_::_,[]=>rfl
 |x::w,y::u=>by rw[AA,AA,Da.eqs,om w u];show(decide (x=y)&&decide (w=u))=_;rw[Br];simp
open PySem L2 Words
def jJ(I:xm):ke:=(qw (zk (jn qu) (qf 1))
 (qw (zk (jn (q9 (oP (jn qu) (qa 0)) qu)) (qf 2))
 (qw (mX (rdN (qa 2) (jn qu)) (qw (zk (aT wR (qa 2) qu) (qf 3))
 (qw (jk (aT j8 (qa 1) (k7 (qa 3))))
 (qw (zk (oQ 2 (lb (zf I (k7 (jv 3 1)))) (aZ 2 (zp (qf 5) (zp (qf 6) aE))) mL (jf (q9 (zc zu (jv 3 0) (jn (k7 (qa 5)))) (k7 (qa 6))))) (qf 4))
 (qw (jk (aT fH (qa 4) qu))
 (jk (aT bZ (qa 2) (k7 (qa 4)))))))))
 (jx (qa 1)))))
def ck(S:Ru)(w:List Int):List (List Int×Ru):=(zo S).zipIdx.map λe=>(w++[(e.2:Int)],e.1)
theorem hU(S:Ru)(w:List Int)(i:Nat):(ck S w)[i]?=(zo S)[i]?.map λA=>(w++[(i:Int)],A):=by unfold ck;rw[Am,CT];cases (zo S)[i]?<;>simp
theorem qK(S:Ru)(w:List Int):(ck S w).length=(zo S).length:=by unfold ck;rw[Ab,List.length_zipIdx]
def eL:Ru->List Int->List (List Int×Ru)
 |.link p q,w=>[(w,.link p q)]
 |.ei r A,w=>(w,.ei r A)::eL A (w++[0])
 |.bo r A B,w=>(w,.bo r A B)::(eL A (w++[0])++eL B (w++[1]))
 |.cu p q A B,w=>(w,.cu p q A B)::(eL A (w++[0])++eL B (w++[1]))
theorem eZ(S:Ru)(w:List Int):eL S w=(w,S)::(ck S w).flatMap λe=>eL e.2 e.1:=by cases S<;>simp[eL,ck,zo]
theorem ae:∀(S:Ru) (w:List Int),(eL S w).length=k6 S
 |.link p q,w=>rfl
 |.ei r A,w=>Bb (· + 1) (ae A _)
 |.bo r A B,w=>by show(eL A _++eL B _).length+1=_;rw[Ad,ae A,ae B];rfl
 |.cu p q A B,w=>by show(eL A _++eL B _).length+1=_;rw[Ad,ae A,ae B];rfl
theorem oJ{T:Ru}{w v:List Int}:(v,T)∈eL S w↔∃u,v=w++u/\vd S u=some T:=by
 have:∀n,∀S:Ru,k6 S<=n->∀w v,(v,T)∈eL S w↔∃u,v=w++u/\vd S u=some T:=by
  intro n
  induction n with
  |zero=>intro S h;have:=iC S;lia
  |succ n U=>
   intro S h w v;rw[eZ,Ap,A2];constructor
   ·rintro(h0|⟨⟨r,A⟩,o,h0⟩)
    ·cases h0;exact⟨[],(AX _).symm,rfl⟩
    ·obtain⟨i,ei⟩:=BR o;rw[hU] at ei;obtain⟨t,g,p⟩:=Au.mp ei;cases p;have z:=iE (AM g);obtain⟨u,rfl,I⟩:=(U A (by lia) _ v).mp h0;refine⟨(i:Int)::u,by rw[AU];rfl,?_⟩;show(match a9 S (i:Int) with|some B=>vd B u|none=>none)=_;rw[zL,g];exact I
   ·rintro⟨u,rfl,I⟩;cases u with
    |nil=>cases I;exact .inl (by rw[AX])
    |cons j u=>
     rename vd S (j::u)=some T=>J
     have I:(match a9 S j with|some B=>vd B u|none=>none)=some T:=J;clear J;cases e:a9 S j with
     |none=>rw[e] at I;cases I
     |some B=>
      rw[e] at I;replace I:vd B u=some T:=I;obtain⟨k,rfl,l⟩:=lO e;have z:=iE (AM l);refine .inr ⟨(w++[(k:Int)],B),AM (i:=k) (by rw[hU,l];rfl),(U B (by lia) _ _).mpr ⟨u,by rw[AU];rfl,I⟩⟩
 exact this _ S (Al _) w v
abbrev WT:=Addr×List Int×Ru
def cN(t:WT):Y:=.tup [.ref t.1,qk t.2.2]
def ab1(t:WT):Da:=.tup [.lst (t.2.1.map λx=>.s (.int x)),w9 t.2.2]
structure HW{β:Type}(L:qm)(X:List Addr)(ts:List (Addr×List Int×β)):Prop where
 at_:∀t∈ts,L t.1=some (.lst (t.2.1.map Y.int))/\t.1∉X
theorem HW.mono{X:List Addr}{ts:List (Addr×List Int×β)}(h:HW L X ts)(s:qh L L'):HW L' X ts:=⟨λt m=>⟨s _ _ (h.at_ t m).1,(h.at_ t m).2⟩⟩
theorem HW.upd{X:List Addr}{ts:List (Addr×List Int×β)}{o:LO}(h:HW L X ts)(m:a∈X):HW (qg L a o) X ts:=⟨λt mt=>⟨(qd λe=>(h.at_ t mt).2 (by rw[e];exact m)).trans (h.at_ t mt).1,(h.at_ t mt).2⟩⟩
theorem HW.sub{X:List Addr}{ts us:List (Addr×List Int×β)}(h:HW L X ts)(m:∀t∈us,t∈ts):HW L X us:=⟨λt mt=>h.at_ t (m t mt)⟩
theorem HW.app{X:List Addr}{ts us:List (Addr×List Int×β)}(h:HW L X ts)(g:HW L X us):HW L X (ts++us):=⟨λt mt=>(Ao.mp mt).elim (h.at_ t) (g.at_ t)⟩
theorem HW.one{X:List Addr}{w:List Int}{S:β}(h:L a=some (.lst (w.map Y.int)))(m:a∉X):HW L X [(a,w,S)]:=⟨λt mt=>by rw[Ag.mp mt];exact⟨h,m⟩⟩
theorem tD{L:qm}{X:List Addr}:∀{ts:List WT},HW L X ts->(∀t∈ts,jj t.2.2<=120)->Paired (zw L 121) (ts.map cN) (ts.map ab1)
 |[],_,_=>.nil
 |t::r,h,d=>.cons (xo (n:=120) (.cons (jl (n:=119) (h.at_ t (Ah ..)).1 (lE _)) (.cons (af (d t (Ah ..))) .nil))) (tD (h.sub λu m=>Ac _ m) λu m=>d u (Ac _ m))
theorem aa1(st:List WT):Da.eqs (st.map ab1) []=decide (st=[]):=by cases st<;>rfl
def Fre(L:qm)(ts:List (Addr×List Int×β)):Prop:=∀t∈ts,L t.1=none
def fA:xm:=λys L Q=>∃R:Ru,ys=[qk R]/\jj R<=120/\k6 R<=1000/\∀p ts L',qh L L'->L p=none->L' p=some (.lst (ts.map cN))->HW L' [] ts->Fre L ts->ts.map (·.2)=eL R []->Q (.ref p) L'
theorem HW.nil{X:List Addr}{ts:List (Addr×List Int×β)}(h:HW L X ts):HW L [] ts:=⟨λt m=>⟨(h.at_ t m).1,λz=>by cases z⟩⟩
structure ByI(R:Ru)(fs st:List WT):Prop where
 all:fs.map (·.2)++(st.reverse.flatMap λt=>eL t.2.2 t.2.1)=eL R []
 dep:∀t∈st,jj t.2.2<=120
theorem ByI.len{fs st:List WT}(h:ByI R fs st):fs.length<=k6 R/\st.length<=k6 R:=by
 have e:=Bb List.length h.all;rw[Ad,Ab,ae] at e;have:∀l:List WT,l.length<=(l.flatMap λt=>eL t.2.2 t.2.1).length:=λl=>by
  induction l with
  |nil=>exact Al _
  |cons t r I=>
   rw[AS,Ad,AJ,ae];have:=iC t.2.2;lia
 have:=this st.reverse;rw[C1] at this;lia
theorem HW.grow{X:List Addr}{ts:List (Addr×List Int×β)}{p:Addr}(h:HW L X ts)(n:L p=none):HW L (p::X) ts:=⟨λt m=>⟨(h.at_ t m).1,λz=>(Ap.mp z).elim (wu (h.at_ t m).1 n) (h.at_ t m).2⟩⟩
theorem HW.less{X:List Addr}{ts:List (Addr×List Int×β)}{p:Addr}(h:HW L (p::X) ts):HW L X ts:=⟨λt m=>⟨(h.at_ t m).1,λz=>(h.at_ t m).2 (Ac _ z)⟩⟩
theorem ByI.way{fs eE:List WT}{t:WT}(h:ByI R fs (eE++[t])):vd R t.2.1=some t.2.2:=by
 have e:=h.all;rw[C2,DF,List.singleton_append,AS,eZ t.2.2 t.2.1] at e;have m:(t.2.1,t.2.2)∈eL R []:=by rw[<-e];simp
 obtain⟨u,I,J⟩:=oJ.mp m;rw[I];exact J
theorem aaz(S:Ru)(w:List Int):((ck S w).map λe=>k6 e.2).sum+1=k6 S:=by rw[<-jP S];unfold ck;rw[Bs,show((λe:List Int×Ru=>k6 e.2)∘λe:Ru×Nat=>(w++[(e.2:Int)],e.1))=k6∘Prod.fst from rfl,<-Bs,List.zipIdx_map_fst]
theorem ByI.step{fs eE us:List WT}{t:WT}(h:ByI R fs (eE++[t]))(e:us.map (·.2)=ck t.2.2 t.2.1):ByI R (fs++[t]) (eE++us.reverse)/\((eE++us.reverse).map λt=>k6 t.2.2).sum<((eE++[t]).map λt=>k6 t.2.2).sum:=by
 obtain⟨a,d⟩:=h;refine⟨⟨?_,λu I=>?_⟩,?_⟩
 ·rw[C2,DF,List.singleton_append,AS,eZ t.2.2 t.2.1] at a;rw[<-a,C2,List.reverse_reverse,AC,Ai,AU];have:(us.flatMap λt=>eL t.2.2 t.2.1)=(us.map (·.2)).flatMap λe=>eL e.2 e.1:=by rw[List.flatMap_map]
  rw[this,e];rfl
 ·rcases Ao.mp I with I|I
  ·exact d u (Aq _ I)
  ·have m:u.2∈ck t.2.2 t.2.1:=by rw[<-e];exact AR.mpr ⟨u,List.mem_reverse.mp I,rfl⟩
   obtain⟨i,ei⟩:=BR m;rw[hU] at ei;obtain⟨A,J,U⟩:=Au.mp ei;have h1:=aR (AM J);have h2:=d t (by simp);rw[<-U];show jj A<=120;lia
 ·have:(us.map λt=>k6 t.2.2).sum+1=k6 t.2.2:=by rw[<-aaz t.2.2 t.2.1,<-e,Bs];rfl
  have h2:(us.reverse.map λt=>k6 t.2.2).sum=(us.map λt=>k6 t.2.2).sum:=by rw[Dz,List.sum_reverse]
  rw[Ai,Ai,DL,DL,h2,List.map_singleton,List.sum_singleton];lia
theorem ae9:∀ys L Q,fA ys L Q->v0 (jJ wq) 5 ys L Q:=by
 rintro ys L Q ⟨R,rfl,hd,hz,q⟩;have big:=bg_;intro g a4 w0 a5 j C;have ag:g≠w0:=wu q8 a5;have aL:w0≠j:=wu q8 C;have T:g≠j:=wu ((qd ag).trans q8) C;have a3:L j=none:=xg (xg C);have S0:qh L (qg (qg (qg L g (.lst [])) w0 (.lst [])) j (.lst [.tup [.ref w0,qk R]])):=((By a4).trans (By a5)).trans (By C);refine⟨λm τ J=>∃fs st c3 c4,τ=[some (qk R),some (.ref g),some (.ref j),c3,c4]/\qh L J/\J g=some (.lst (fs.map cN))/\J j=some (.lst (st.map cN))/\HW J [g,j] (fs++st)/\Fre L (fs++st)/\ByI R fs st/\m=(st.map λt=>k6 t.2.2).sum,⟨_,[],[(w0,[],R)],_,_,rfl,S0,(qd T).trans ((qd ag).trans q8),q8,.one ((qd aL).trans q8) (by simp[AW ag,aL]),λt ht=>(by rw[Ag.mp ht];exact xg a5),⟨by simp,λt ht=>by rw[Ag.mp ht];exact hd⟩,rfl⟩,?_⟩;rintro m τ J ⟨fs,st,c3,c4,rfl,s,h1,h2,H,F,I,rfl⟩;intro p hp;have r:=By (o:=.lst []) hp;refine cQ (n:=121) (m:=0) (by decide) (r _ _ h2) q8 (tD ((H.sub λt m=>Af _ m).mono r) I.dep) (.nil:Paired (zw _ 0) _ []) ?_;replace h1:=r _ _ h1;replace h2:=r _ _ h2;replace H:=H.mono r;replace s:=s.trans r;clear r;generalize qg J p (.lst [])=L2 at s h1 h2 H ⊢;show ky (!(Da.eqs (st.map ab1) [])) _ _;rw[aa1];have il:=I.len;rcases CN st with rfl|⟨eE,t,rfl⟩
 ·refine cn rfl ?_;have e:=I.all;rw[List.reverse_nil,DA,AX] at e;refine xr (q g fs L2 s a4 h1 (H.sub λt m=>Aq _ m).nil (λt m=>F t (Aq _ m)) e)
 ·rw[CO] at *;rw[Az (by simp)];refine fZ rfl ⟨λba J=>∃m',m'<((eE++[t]).map λt=>k6 t.2.2).sum/\∃fs st c3 c4,ba=[some (qk R),some (.ref g),some (.ref j),c3,c4]/\qh L J/\J g=some (.lst (fs.map cN))/\J j=some (.lst (st.map cN))/\HW J [g,j] (fs++st)/\Fre L (fs++st)/\ByI R fs st/\m'=(st.map λt=>k6 t.2.2).sum,λba J h=>h,?_⟩;rw[Ai] at h2;refine zT h2 ?_;replace h1:=(qd (o:=.lst (eE.map cN)) T).trans h1;replace H:=H.upd (o:=.lst (eE.map cN)) (a:=j) (by simp);replace s:=s.upd (o:=.lst (eE.map cN)) a3;replace h2:qg L2 j (.lst (eE.map cN)) j=some (.lst (eE.map cN)):=q8;generalize qg L2 j (.lst (eE.map cN))=L3 at s h1 h2 H ⊢;obtain⟨wa,w,S⟩:=t;have hw:=H.at_ (wa,w,S) (by simp);refine qc h1 (qz h1 ⟨by rw[Ab];exact big _ (by lia),?_⟩);replace H:=H.upd (o:=.lst (fs.map cN++[cN (wa,w,S)])) (a:=g) (by simp);replace h2:=(qd (o:=.lst (fs.map cN++[cN (wa,w,S)])) (AW T)).trans h2;replace s:=s.upd (o:=.lst (fs.map cN++[cN (wa,w,S)])) a4;replace h1:qg L3 g (.lst (fs.map cN++[cN (wa,w,S)])) g=some (.lst ((fs++[(wa,w,S)]).map cN)):=by rw[q8,Ai];rfl
  replace hw:=H.at_ (wa,w,S) (by simp);generalize qg L3 g (.lst (fs.map cN++[cN (wa,w,S)]))=L4 at s h1 h2 H hw ⊢;refine⟨S,rfl,λp1 n1=>?_⟩;have r:=By (o:=.lst ((zo S).map qk)) n1;replace h1:=r _ _ h1;replace h2:=r _ _ h2;replace H:=H.mono r;replace s:=s.trans r;replace hw:=r _ _ hw.1;have g1:qg L4 p1 (.lst ((zo S).map qk)) p1=some (.lst ((zo S).map qk)):=q8;clear r n1;generalize qg L4 p1 (.lst ((zo S).map qk))=L5 at s h1 h2 H hw g1 ⊢;have al:=yT S;have wl:w.length<=1000:=by have h:=(kD I.way).1;have h:w.length+1<=jj R:=h;lia
  refine jy g1 λkeep kp=>mW ⟨by rw[fe,Ab];exact big _ (by lia),λi zs J=>∃us:List WT,zs=us.map cN/\qh L5 J/\HW J [g,j] us/\Fre L us/\us.map (·.2)=(ck S w).take i,⟨[],rfl,DN _,⟨λt m=>by cases m⟩,λt m=>(by cases m),rfl⟩,?_,?_,?_⟩
  ·rintro i zs J ⟨us,rfl,l,_⟩;exact kp J (by rw[l _ _ g1,g1])
  ·rintro i y zs J hy ⟨us,rfl,l,H',F',e'⟩;obtain⟨z,ez,rfl⟩:=jV hy;rw[Am] at ez;obtain⟨B,eB,rfl⟩:=Au.mp ez;intro p2 n2;have s2:=By (o:=.lst [.int (i:Int)]) n2;refine⟨_,_,(l.trans s2) _ _ hw,q8,by rw[Ab];show w.length+1<=sizeLine;exact Bl (big _ (by lia)),λp3 n3=>?_⟩;have s3:=s2.trans (By (o:=.lst (w.map Y.int++[.int (i:Int)])) n3);have ne:p3∉[g,j]:=by have a1:=wu ((l.trans s2) _ _ h1) n3;have a2:=wu ((l.trans s2) _ _ h2) n3;simp[AW a1,AW a2]
   refine⟨_,DN _,us++[(p3,w++[(i:Int)],B)],by rw[Ai];rfl,l.trans s3,(H'.mono s3).app (.one (by rw[q8,Ai];rfl) ne),λt m=>?_,?_⟩
   ·rcases Ao.mp m with m|m
    ·exact F' t m
    ·rw[Ag.mp m];exact(s.trans (l.trans s2)).none n3
   rw[Ai,e',Bq,hU,eB];rfl
  ·rintro zs J ⟨us,rfl,l,H',F',e'⟩ p4 n4;rw[fe,Ab,Be (by rw[qK];exact Al _)] at e';have s4:=By (o:=.lst (us.map cN)) n4;have n1:=wu (l _ _ h1) n4;have n2:=wu (l _ _ h2) n4;have U:=((H'.grow n4).app ((H.mono l).grow n4)).mono s4;have bb:L p4=none:=(s.trans l).none n4;replace s:=(s.trans l).trans s4;replace h1:=s4 _ _ (l _ _ h1);replace h2:=s4 _ _ (l _ _ h2);have g4:qg J p4 (.lst (us.map cN)) p4=some (.lst (us.map cN)):=q8;clear s4;generalize qg J p4 (.lst (us.map cN))=L6 at s h1 h2 U g4 ⊢;refine qc g4 (qz g4 ?_);replace s:=s.upd (o:=.lst (us.map cN).reverse) bb;replace U:=U.upd (o:=.lst (us.map cN).reverse) (a:=p4) (by simp);replace h1:=(qd (o:=.lst (us.map cN).reverse) n1).trans h1;replace h2:=(qd (o:=.lst (us.map cN).reverse) n2).trans h2;replace g4:qg L6 p4 (.lst (us.map cN).reverse) p4=some (.lst (us.map cN).reverse):=q8;generalize qg L6 p4 (.lst (us.map cN).reverse)=L7 at s h1 h2 U g4 ⊢;obtain⟨I',ms⟩:=I.step (us:=us) e';have ul:us.length<=2:=by have:=Bb List.length e';rw[Ab,qK] at this;lia
   have l0:eE.length<=1000:=by have:=il.2;rw[Ad] at this;lia
   refine qc h2 (qz h2 (qz g4 ⟨by rw[Ab,C1,Ab];exact Bl (big _ (by lia)),?_⟩));refine⟨_,DN _,_,ms,fs++[(wa,w,S)],eE++us.reverse,_,_,rfl,s.upd a3,(qd T).trans h1,by rw[q8,Ai,Dz],((U.less.upd (by simp)).sub λt ht=>?_),λt ht=>?_,I',rfl⟩
   ·simp at ht ⊢;rcases ht with h|h|h|h<;>simp[h]
   ·have F0:=F t;have F1:=F' t;simp at ht F0;rcases ht with h|h|h|h
    ·exact F0 (.inl h)
    ·exact F0 (.inr (.inr h))
    ·exact F0 (.inr (.inl h))
    ·exact F1 h
abbrev WP:=Addr×List Int×Int
def paT(q:WP):Y:=.tup [.ref q.1,.int q.2.2]
theorem adz(ks:List Kn)(R:Ru):Agr ks (ks.map some) R:=λx _ k e=>by rw[Am,e];rfl
abbrev Hd:=Nat×Nat×Nat
def gW:Ru->Hd
 |.link p q=>(0,p,q)
 |.ei r _=>(1,r,r)
 |.bo r _ _=>(2,r,r)
 |.cu p q _ _=>(3,p,q)
def ab3(R:Ru):List Hd:=(jq R).map gW
theorem zQ(R:Ru):ab3 R=[gW R]++(zo R).flatMap ab3:=by cases R<;>simp[ab3,jq,zo]
theorem afs(R:Ru):gW R∈ab3 R:=by rw[zQ];exact Ah ..
theorem cz:∀(R:Ru) (w:List Int),(eL R w).map (·.2)=jq R
 |.link ..,_=>rfl
 |.ei _ A,w=>Bb (_::·) (cz A _)
 |.bo _ A B,w=>by show _::(eL A _++eL B _).map (·.2)=_;rw[Ai,cz A,cz B];rfl
 |.cu _ _ A B,w=>by show _::(eL A _++eL B _).map (·.2)=_;rw[Ai,cz A,cz B];rfl
end L3
namespace L2
open PySem PySem.Spec PyProof.Rows
theorem lH(n:Nat):Builtin.Range.rangeSize ((n:Int)-1) (-1) (-1)=(n:Int):=by unfold Builtin.Range.rangeSize;rw[AD (by decide),show(- -1:Int)=1 by decide,Int.ediv_one];split<;>omega
theorem wZ(h:(n:Int)<2 ^ 62):Builtin.Range.small ((n:Int)-1) (-1) (-1)=true:=by
 have e:=lH n;have I:∀x:Int,-(2 ^ 62)<=x->x<2 ^ 62->Builtin.Range.rangeFitsLong x=true:=λx h1 h2=>by unfold Builtin.Range.rangeFitsLong;simp;omega
 unfold Builtin.Range.small;rw[e,I _ (by omega) (by omega),I (-1) (by decide) (by decide),I _ (by omega) h];simp only[Bool.true_and];rw[AD (by decide),I _ (by decide) (by decide),Bool.or_true]
def akc(ta:TA):TI:=λσ H R=>ta σ H λvs H1=>∃n:Nat,vs=[.int ((n:Int)-1),.int (-1),.int (-1)]/\(n:Int)<2 ^ 62/\R (Itd n) H1
theorem u3{a b:Expr}{ta:TA}(hg:Gl X "range")(hm:X.mg "range"=none)(ha:PA X [a,b,c] ta)(hs:starEach [a,b,c] X.env=[(false,eval a X.env),(false,eval b X.env),(false,eval c X.env)]:=by rfl)(j:starEach [b,c] X.env=[(false,eval b X.env),(false,eval c X.env)]:=by rfl):
 PI X tg (.Call (.Name "range" p) [a,b,c] [] pos) (akc ta):=by
 intro J s C H R I h;refine Call_ (dl I hg hm boot_range (BF (ki (ha pos J s C H _ I h) λus U ⟨vs,T,I1,r1,q1⟩=>?_) (by rw[hs,j]) (by rw[j];rfl)));obtain⟨n,e,hn,q⟩:=q1;obtain⟨m,em⟩:∃m:Int,m=(n:Int)-1:=⟨_,rfl⟩;rw[<-em] at e;subst e;cases r1 with
 |cons r rr=>
  cases rr with
  |cons r' rr=>
   cases rr with
   |cons a1 rr=>
    cases rr;obtain⟨t,rfl⟩:=r;obtain⟨t',rfl⟩:=r';obtain⟨g,rfl⟩:=a1;refine call_range_3 (by decide) ?_;have l:qy X J C T { U with heap:=U.heap.push { cls:=.type "range",data:=.fields #[.int m t,.int (-1) t',.int (-1) g] } }:=I1.kept (t':=U.toks) λb o e=>As _ e;generalize a2:U.heap.push { cls:=.type "range",data:=.fields #[.int m t,.int (-1) t',.int (-1) g] }=g2 at l ⊢;have hr:IsRange g2 U.heap.objs.size m (-1) (-1) t t' g:=by rw[<-a2];exact Db _ rfl
    refine wpAny_pyIter_range (s:={ U with heap:=g2 }) hr (by rw[em];exact wZ hn) ?_;rw[em,lH n];have st:IsRangeIter (g2.push { cls:=.type "range_iterator",data:=.fields #[rawInt ((n:Int)-1),rawInt (n:Int),rawInt (-1)] }) g2.objs.size ((n:Int)-1+((0:Nat):Int)*(-1)) ((n:Int)-((0:Nat):Int)) (-1):=by rw[show(n:Int)-1+((0:Nat):Int)*(-1)=(n:Int)-1 by omega,show(n:Int)-((0:Nat):Int)=(n:Int) by omega];exact Db _ rfl
    have I3:qy X J C T { U with heap:=g2.push { cls:=.type "range_iterator",data:=.fields #[rawInt ((n:Int)-1),rawInt (n:Int),rawInt (-1)] } }:=l.kept (t':=U.toks) λb o e=>As _ e;refine⟨_,[_],_,_,T,rfl,I3,vK _ n,st,λb hb=>?_,q⟩;have e:b=g2.objs.size:=by simpa using hb
    subst e;exact l.fpOk (Al _) (l.hok.fresh (Al _))
end L2
namespace L3
open PySem L2
def sC(ta:dM)(τ:jh)(L:qm)(R:List Y->(qm->Prop)->qm->Prop):Prop:=ta τ L λvs L1=>match vs with
 |[.int i,.int j,.int k]=>∃n:Nat,i=(n:Int)-1/\j = -1/\k = -1/\n<=1000/\R (fK n) (λ_=>True) L1
 |_=>False
theorem wF{a b:Expr}{ta:dM}(r:Gl X "range")(t:X.mg "range"=none)(C:QA X [a,b,c] ta)(hs:starEach [a,b,c] X.env=[(false,eval a X.env),(false,eval b X.env),(false,eval c X.env)]:=by rfl)(U:starEach [b,c] X.env=[(false,eval b X.env),(false,eval c X.env)]:=by rfl):
 QI X tg (.Call (.Name "range" p) [a,b,c] [] pos) (sC ta):=PI.imq (u3 r t C hs U) λσ H R T L R3 rs rl z k=>by
 refine⟨T,L,_,rs,rl,z,λvs H1 ys L1 t1 g j J=>?_⟩;unfold sC at J;split at J
 ·obtain⟨n,rfl,rfl,rfl,hn,z2⟩:=J;obtain⟨x,xs,rfl,rx,l⟩:=j;obtain⟨x',a1,rfl,o,I⟩:=x5.inv2 l;cases rx;cases o;cases I;exact⟨n,rfl,by omega,k _ H1 _ _ L1 t1 g (ol n) z2⟩
 ·exact J.elim
open PySem L2 Words
theorem oj{l m:List (Nat×Nat)}(h:l.Perm m)(I:l.Pairwise m6)(J:m.Pairwise m6):l=m:=by refine List.Perm.eq_of_pairwise (le:=m6) (λa b _ _ h1 h2=>?_) I J h;unfold m6 at h1 h2;exact Prod.ext (by lia) (by lia)
theorem kh:∀R:Ru,(za R).length+1<=(z0 R).length/\2*(z0 R).length<=(qt R).length
 |.link _ _=>⟨Al _,Al _⟩
 |.ei _ A=>⟨(kh A).1,BN (kh A).2⟩
 |.bo _ A B=>by have:=kh A;have:=kh B;show(za A++za B).length+1<=(z0 A++z0 B).length/\2*(z0 A++z0 B).length<=(qt A++qt B).length+1;simp only[Ad];lia
 |.cu _ _ A B=>by have:=kh A;have:=kh B;show(za A++za B).length+1+1<=(z0 A++z0 B).length/\2*(z0 A++z0 B).length<=(qt A++qt B).length;simp only[Ad];lia
def pJ:ke:=(jx (lK nS (q9 (oQ 1 (v4 (qa 0)) (qf 2) (eU (jv 2 0) (qa 1)) (oP (jv 2 1) (jv 2 2))) qu)))
def wI(I:xm)(p1:xm):ke:=(qw (zk (zf I (k7 (jv 0 1))) (qf 1))
 (jx (jf (q9 (lK bP (k7 (jv 0 0))) (q9 (zf p1 (w6 (qa 1) (vm "link"))) (q9 (zf p1 (w6 (qa 1) (vm "cut"))) qu))))))
def ac2(I:xm):ke:=(jx (tw (zc (vW false) (jv 0 0) (jv 1 0)) (zc (vW false) (zf I (k7 (qa 0))) (zf I (k7 (qa 1))))))
def zE(I:xm)(p1:dN)(p2:xm):ke:=(qw (zk (zf I (q9 (zc cJ (fu p1 noX (w6 (jv 0 1) (qa 1))) (yUn aa6 (zr 1))) qu)) (qf 3))
 (qw (zk (zc cJ (oQ 2 (v4 (qa 3)) (aZ 2 (zp (qf 5) (zp (qf 6) aE))) (yB (zf p2 (w6 (qa 6) (qa 2)))) (qa 5)) (zr 0)) (qf 4))
 (jx (oQ 1 (sC (q9 (zc fi (bW 4) (zr 1)) (q9 (yUn aa6 (zr 1)) (q9 (yUn aa6 (zr 1)) qu)))) (qf 5) mL (jf (q9 (zc zu (qa 1) (uK oX (qa 4) w4 (aX (qa 5)))) (q9 (zc cJ (qa 4) (qa 5)) qu)))))))
theorem aU:∀A:Ru,(jq A).flatMap aco=z0 A
 |.link _ _=>rfl
 |.ei r A=>aU A
 |.bo r A B=>by show((jq A++jq B).flatMap aco)=z0 A++z0 B;rw[AC,aU A,aU B]
 |.cu p q A B=>by show((jq A++jq B).flatMap aco)=z0 A++z0 B;rw[AC,aU A,aU B]
theorem bE:∀A:Ru,(jq A).flatMap adn=za A
 |.link _ _=>rfl
 |.ei r A=>bE A
 |.bo r A B=>by show((jq A++jq B).flatMap adn)=za A++za B;rw[AC,bE A,bE B]
 |.cu p q A B=>by show(p,q)::((jq A++jq B).flatMap adn)=(p,q)::(za A++za B);rw[AC,bE A,bE B]
def pA:Bool->Ru->List (Nat×Nat)
 |true,A=>aco A
 |false,A=>adn A
def pkS:Bool->Str
 |true => "link"
 |false => "cut"
def bQ:xm:=λys L Q=>∃a,∃I:List Ru,∃b:Bool,ys=[.ref a,.str (pkS b)]/\L a=some (.lst (I.map qk))/\I.length<=1000/\(I.flatMap (pA b)).Nodup/\(∀p∈I.flatMap (pA b),p.2<1000000)/\(I.flatMap (pA b)).length<=63/\
 ∀D ps,L D=none->ps.Perm (I.flatMap (pA b))->ps.Pairwise m6->Q (.ref D) (qg L D (.lst (dO ps)))
theorem mV:∀ys L Q,bQ ys L Q->v0 pJ 2 ys L Q:=by
 rintro ys L Q ⟨a,I,b,rfl,o,t,nd,C,T,q⟩;refine jy o λkeep kp=>aV (λi J=>J=dO ((I.take i).flatMap (pA b))) (by rw[Ab];exact B9 t (by decide)) (kp _ rfl) rfl ?_ ?_
 ·rintro i y J g rfl;rw[Am] at g;obtain⟨B,eB,rfl⟩:=Au.mp g;have j:(I.take (i+1)).flatMap (pA b)=(I.take i).flatMap (pA b)++pA b B:=by rw[Bq,eB,AC];show _++[B].flatMap (pA b)=_;rw[CI]
  have no:pA b B=[]->dt (λJ U=>U=L/\J=dO ((I.take (i+1)).flatMap (pA b))) (dO ((I.take i).flatMap (pA b))) L:=λe=>⟨_,DN _,rfl,by rw[j,e,AX]⟩;have yes:∀c,pA b B=[c]->dt (λJ U=>U=L/\J=dO ((I.take (i+1)).flatMap (pA b))) (dO ((I.take i).flatMap (pA b))++[prN c]) L:=λc e=>⟨_,DN _,rfl,by rw[j,e,uO]⟩;cases b with
  |true=>
   cases B with|link p r=>exact yes (p,r) rfl|ei r A=>exact no rfl|bo r A B=>exact no rfl|cu p r A B=>exact no rfl
  |false=>
   cases B with|link p r=>exact no rfl|ei r A=>exact no rfl|bo r A B=>exact no rfl|cu p r A B=>exact yes (p,r) rfl
 rintro J rfl p1 h1;rw[Ab,Bm];refine akq q8 C nd T λD ps l pm pw=>?_;exact cU (EH ((By h1).trans (By l)) q8) (q D ps (xg l) pm pw)
theorem SR.pairs{A:Ru}{E:List Nat}(I:SR ks A E)(nd:(qt A).Nodup):(z0 A).Nodup/\(za A).Nodup/\(∀p∈z0 A,p.2∈qt A)/\∀p∈za A,p.2∈qt A:=by have part:=I.part nd;exact⟨df (I.leaves.nodup_iff.mpr (nd.filter _)),df (Av.mp (Av.mp (part.nodup_iff.mpr nd)).2.1).1,λp J=>(AO.mp (I.leaves.mem_iff.mp (kB J).2)).1,λp J=>part.mem_iff.mp (Af _ (Aq _ (kB J).2))⟩
theorem yG{A B:Ru}:gW A=gW B↔kdR A=kdR B/\t9 A=t9 B:=by
 cases A<;>cases B<;>first
  |(refine⟨(λh=>by cases h),λh=>?_⟩;exact absurd h.1 (by dsimp only[kdR];decide))
  |(constructor
    ·intro h;cases h;exact⟨rfl,rfl⟩
    ·rintro⟨_,h⟩;cases h;rfl)
def iT:xm:=λys L Q=>∃A B:Ru,ys=[qk A,qk B]/\Q (.bl (decide (gW A=gW B))) L
theorem aaf:∀ys L Q,iT ys L Q->v0 (ac2 oA) 2 ys L Q:=by
 rintro ys L Q ⟨A,B,rfl,q⟩;rw[bS A,bS B];have I:∀{y:Y} {ys:List Y},dz (y::ys) 0=some y:=λ{y ys}=>zv (j:=0) rfl;walk_at "w";rw[I];walk_at "w";rw[I];show ky (decide (kdR A=kdR B)) _ _;refine jd (λc=>?_) λc=>?_
 ·refine⟨A,by rw[bS A],λJ h1=>⟨B,by rw[bS B],λU h2=>?_⟩⟩;have e:∀l:List Nat,nY l=(l.map λn:Nat=>(n:Int)).map Y.int:=λl=>by rw[Bs];rfl
  rw[e,e] at *;refine cQ (n:=0) (m:=0) (by decide) (By h2 _ _ q8) q8 (fg _) (fg _) ?_;show gE Q (.bl (Da.eqs _ _)) _;rw[om];refine cU ((By h1).trans (By h2)) ?_;rw[show decide ((t9 A).map (λn:Nat=>(n:Int))=(t9 B).map λn:Nat=>(n:Int))=decide (gW A=gW B) from DB.mpr ⟨λh=>yG.mpr ⟨c,(List.map_inj_right λa b h=>by lia).mp h⟩,λh=>by rw[(yG.mp h).2]⟩];exact q
 ·rw[Az (λh=>c (yG.mp h).1)] at q;exact xr q
def wE(w u:List Int):List (List Int×Int):=(List.range u.length).map λm=>(w++u.take (u.length-1-m),u.getD (u.length-1-m) 0)
theorem adg{w u:List Int}(h:m<u.length):(wE w u)[m]?=some (w++u.take (u.length-1-m),u.getD (u.length-1-m) 0):=by unfold wE;rw[Am,BY h];rfl
theorem xO(w u:List Int):(wE w u).length=u.length:=by unfold wE;rw[Ab,Bf]
def dE:xm:=λys L Q=>∃a h,∃H X S:Ru,∃w:List Int,ys=[.tup [.ref a,qk H],.ref h,qk S]/\L h=some (.lst (w.map Y.int))/\w.length<=1000/\vd H w=some X/\gW S∈ab3 X/\jj X<=120/\k6 X<=1000/\
 ∀p I u L',qh L L'->L p=none->L' p=some (.lst (I.map paT))->HW L' [] I->Fre L I->I.map (·.2)=wE w u->(∃r,vd X u=some r/\gW r=gW S)->(gW X=gW S->u=[])->Q (.ref p) L'
theorem uR :∀ys L Q,dE ys L Q->v0 (zE fA (i3 C) iT) 5 ys L Q:=by
 rintro ys L Q ⟨a,h,H,X,S,w,rfl,hh,hw,eX,mS,hd,hz,q⟩;have big:=bg_;refine⟨H,h,w,rfl,hh,hw,λm em p1 h1=>?_,λe=>by rw[yo e] at eX;cases eX⟩;obtain⟨l,x,rfl⟩:∃l x,m=l++[x]:=by
  obtain⟨m2,rfl,_⟩:=eV em;rcases CN (H::m2) with e|⟨l,x,e⟩
  ·cases e
  ·exact⟨l,x,by rw[e,CO]⟩
 have ex:=aan em;rw[eX] at ex;cases ex;have s1:=By (o:=.lst ((l++[X]).map qk)) h1;refine qc q8 (ql (by rw[Ai];exact pN _ _) ?_);generalize qg L p1 (.lst ((l++[X]).map qk))=L1 at s1 ⊢;refine⟨X,rfl,hd,hz,λp2 ts L2 s2 _ g2 HT _ T=>?_⟩;replace s2:=s1.trans s2;have tl:ts.length=k6 X:=by have:=Bb List.length T;rw[Ab,ae] at this;exact this
 refine jy g2 λkeep kp=>aV (λi p=>p=((ts.take i).filter λt=>decide (gW t.2.2=gW S)).map λt=>Y.ref t.1) (by rw[Ab];exact big _ (by lia)) (kp _ rfl) rfl ?_ ?_
 ·rintro i y p I rfl;rw[Am] at I;obtain⟨t,a1,rfl⟩:=Au.mp I;refine⟨t.2.2,S,rfl,?_⟩;have e:ts.take (i+1)=ts.take i++[t]:=by rw[Bq,a1];rfl
  refine jd (λc=>?_) λc=>?_
  ·refine⟨_,DN _,rfl,?_⟩;rw[e,BB,Ai,Bw,AF (AV c)];rfl
  ·refine⟨_,DN _,rfl,?_⟩;rw[e,BB,Ai,Bw,AD (by rw[Az c];decide)];simp
 rintro p rfl p3 h3;rw[Ab,Bm];obtain⟨J,fr,ef⟩:∃J fr,ts.filter (λt=>decide (gW t.2.2=gW S))=J::fr:=by
  obtain⟨B,mB,e⟩:=AR.mp mS;rw[<-cz X [],<-T,Bs] at mB;obtain⟨t,mt,rfl⟩:=AR.mp mB;have m:t∈ts.filter (λt=>decide (gW t.2.2=gW S)):=AO.mpr ⟨mt,AV e⟩;cases e:ts.filter (λt=>decide (gW t.2.2=gW S)) with
  |nil=>rw[e] at m;cases m
  |cons a r=>exact⟨a,r,rfl⟩
 have m0:J∈ts.filter (λt=>decide (gW t.2.2=gW S)):=by rw[ef];exact Ah ..
 obtain⟨mt,ht⟩:=AO.mp m0;have ht:=of_decide_eq_true ht;have fst:gW X=gW S->J.2.1=[]:=λe=>by
  cases ts with
  |nil=>cases mt
  |cons t1 r=>
   rw[eZ] at T;have e1:t1.2=([],X):=(A4 T).1;rw[Bw,AF (AV (by rw[e1];exact e))] at ef;rw[<-(A4 ef).1,e1]
 rw[ef];have U:=By (o:=.lst ((J::fr).map λt=>Y.ref t.1)) h3;refine qc q8 (ql (zv (j:=0) rfl) ?_);have g0:=U _ _ (HT.at_ J mt).1;replace U:=s2.trans U;generalize qg L2 p3 (.lst ((J::fr).map λt=>Y.ref t.1))=L3 at U g0 ⊢;obtain⟨pu,u,r⟩:=J;have eu:vd X u=some r:=by obtain⟨v,e1,e2⟩:=oJ.mp (show(u,r)∈eL X [] by rw[<-T];exact AR.mpr ⟨_,mt,rfl⟩);rw[show u=v from e1];exact e2
 have ul:u.length<=120:=by have:=(kD eu).1;lia
 clear m0 ef mt HT T tl kp g2 s2;refine qc g0 ⟨u.length,by rw[Ab],rfl,rfl,by lia,?_⟩;refine mW ⟨by unfold fK;rw[Ab,Bf];exact big _ (by lia),λi p L'=>∃g:List WP,p=g.map paT/\qh L3 L'/\HW L' [] g/\Fre L g/\g.map (·.2)=(wE w u).take i,⟨[],rfl,DN _,⟨λt m=>by cases m⟩,λt m=>(by cases m),rfl⟩,λ_ _ _ _=>trivial,?_,?_⟩
 ·rintro i y p L' I ⟨g,rfl,s',H',F',e'⟩;unfold fK at I;have hi:=xq I;rw[Ab,Bf] at hi;rw[Am,BY hi] at I;obtain⟨k,ek⟩:∃k,k=u.length-1-i:=⟨_,rfl⟩;have I:y=.int (k:Int):=by rw[<-AN I,ek];congr 1;lia
  subst I;have kl:k<u.length:=by lia
  refine qc (s' _ _ g0) λp4 n4=>?_;rw[show eM (u.map Y.int) none (some (k:Int))=(u.take k).map Y.int by rw[List.map_take];exact uA _ k];have s4:=s'.trans (By (o:=.lst ((u.take k).map Y.int)) n4);have g4:qg L' p4 (.lst ((u.take k).map Y.int)) p4=some (.lst ((u.take k).map Y.int)):=q8;have H4:=H'.mono (By (o:=.lst ((u.take k).map Y.int)) n4);generalize qg L' p4 (.lst ((u.take k).map Y.int))=L4 at s4 g4 H4 ⊢;refine⟨_,_,(U.trans s4) _ _ hh,g4,by rw[Ab,Ab];exact Bl (big _ (by rw[AY];lia)),λp5 n5=>?_⟩;have s5:=By (o:=.lst (w.map Y.int++(u.take k).map Y.int)) n5;have a2:u[k]?=some (u.getD k 0):=by rw[A7,Aj kl];rfl
  refine qc ((s4.trans s5) _ _ g0) (ql (aP a2) ⟨_,DN _,g++[(p5,w++u.take k,u.getD k 0)],by rw[Ai];rfl,s4.trans s5,(H4.mono s5).app (.one (by rw[q8,Ai]) (by simp)),λt m=>?_,?_⟩)
  ·rcases Ao.mp m with m|m
   ·exact F' t m
   ·rw[Ag.mp m];exact(U.trans s4).none n5
  ·rw[Ai,e',Bq,adg hi,<-ek];rfl
 ·rintro p L' ⟨g,rfl,s',H',F',e'⟩ p4 n4;unfold fK at e';rw[Ab,Bf,Be (by rw[xO];exact Al _)] at e';exact xr (q p4 g u _ ((U.trans s').trans (By n4)) ((U.trans s').none n4) q8 (H'.mono (By n4)) F' e' ⟨r,eu,ht⟩ fst)
end L3
namespace L2
open PySem PySem.Spec PyProof.Rows
section
variable {w:World}{K:Type} [DecidableEq K]{knd:KeyKind prog w K}
end
def ale(tk tv:TE):TE:=λσ H Q=>∀p,H p=none->tk σ (upd H p (.dK [])) λy H1=>tv σ H1 λz H2=>∃I,y=kV I/\H2 p=some (.dK [])/\Q (.ref p) (upd H2 p (.dK (ax [] I z)))
theorem ad7{k v:Expr}{tk tv:TE}(C:PE X k tk)(T:PE X v tv):PE X (.Dict [some k] [v] pos) (ale tk tv):=by
 intro J s l H Q I h;refine wpAny_Dict_pairs (knd:=ju X.prog X.w) (pairs:=[(eval k X.env,do let x <-eval v X.env;standAt pos;pure x)]) rfl (List.cons_ne_nil _ _) (by show 1<=15;decide) ?_;have I0:=I.laid (a:=s.heap.objs.size) (o:=.dK []) (t':=s.toks) (λ_ _ q=>As _ q) (Al _) (iO s.heap I.big);refine evalPairs_cons (ki (C J _ l _ _ I0 (h _ (I.hok.fresh (Al _)))) λkv s1 ⟨y,H1,I1,ry,q1⟩=>?_);refine Aa (ki (T J s1 l H1 _ I1 q1) λvv s2 ⟨z,H2,p,rz,U,ey,r,q2⟩=>Aa (wpAny_standAt (Ak (evalPairs_nil ?_))));subst ey;obtain⟨zl,hd,vs,rel,dd⟩:=y9 p.hok r;have rp:=rel.put U rz;cases rel;refine⟨[(U,vv)],⟨dY ry,rfl,True.intro⟩,dd,λg t sg=>?_⟩;have j:∃q,g.get? s.heap.objs.size=some q:=let ⟨q,_,_,hq,_⟩:=t;⟨q,hq⟩;have hl:(ax ([]:List (j7×V)) U z).length<=sizeLine:=by have:=ac ([]:List (j7×V)) U z;exact AI this (by decide)
 exact⟨.ref _,_,hY p (by rw[r];exact True.intro) sg j (rE hl hd rp t),rfl,q2⟩
end L2
namespace L3
open PySem L2
def afb(tk tv:x6)(τ:jh)(L:qm)(Q:YK):Prop:=∀p,L p=none->tk τ (qg L p (.dct [])) λy L1=>tv τ L1 λz L2=>match uy y with
 |some k=>L2 p=some (.dct [])/\Q (.ref p) (qg L2 p (.dct (bH [] k z)))
 |none=>False
theorem abn{k v:Expr}{tk tv:x6}(hk:QE X k tk)(hv:QE X v tv):QE X (.Dict [some k] [v] pos) (afb tk tv):=DQ (ad7 hk hv) λσ H Q C L Q3 T rl z kq=>λp hp=>by
 have J:jc H (upd H p (.dK [])):=DP hp;refine⟨C,qg L p (.dct []),_,T.ts J,λa u e=>?_,z p (rl.none hp),λw H1 y L1 t1 j l z1=>⟨C,L1,_,T.ts (J.trans t1),j,z1,λu H2 yz L2 t2 I o r=>?_⟩⟩
 ·by_cases c:a=p
  ·subst c;rw[q8] at e;cases e;exact⟨[],zq,.nil⟩
  ·rw[qd c] at e;exact(rl a u e).keep J (qp c)
 ·split at r
  ·rename_i U ek;obtain⟨e,q⟩:=r;obtain⟨xs,e2,pr⟩:=I p _ e;cases pr;have t:jc H2 (upd H2 p (.dK (ax [] U u))):=jc.dct e2;refine⟨U,cM ek l,e2,kq _ _ _ (qg L2 p (.dct (bH [] U yz))) (((J.trans t1).trans t2).trans t) (λb w g=>?_) (show RV X.g3 _ (.ref p) (.ref p) from rfl) q⟩;by_cases c:b=p
   ·subst c;rw[q8] at g;cases g;exact⟨_,zq,DS (pP .nil U o) λ_ _ ⟨h1,h2⟩=>⟨h1,h2.ts t⟩⟩
   ·rw[qd c] at g;exact(I b w g).keep t (qp c)
  ·exact r.elim
open PySem L2 Words
def zD(J:Addr)(E3:X3)(I:xm)(p1:xm)(p2:xm):ke:=(qw (xz (rdN (zf I (k7 (qa 0))) (zf I (k7 (qa 1)))) (sP J E3 (k7 (vm "the two trees have not the same web"))) xc)
 (qw (zk (qa 0) (qf 2))
 (qw (zk (jn qu) (qf 3))
 (qw (iU (v4 (zf p1 (k7 (jv 1 1)))) (aZ 2 (zp (qf 4) (zp (qf 5) aE))) (iU (v4 (zf p2 (q9 (qa 2) (w6 (qa 4) (qa 5))))) (qf 6) (qw yu
 (jk (aT j8 (qa 3) (k7 (qa 6)))))))
 (jx (qa 3))))))
def rR:ke:=(qw (zk (bW 0) (qf 2))
 (qw (zk (jn (q9 (oP (vm "turned") (qa 1)) (q9 (oP (vm "plain") (qa 1)) (q9 (oP (vm "turned") (qa 1)) (q9 (oP (vm "plain") (qa 1)) qu))))) (qf 3))
 (qw (zk (zc zu (qa 3) (jn (q9 (jf (q9 (vm "both") (q9 (zc zu (qa 2) (zr 1)) (q9 (zc zu (qa 2) (zr 3)) qu)))) (q9 (jf (q9 (vm "either") (q9 (qa 2) (q9 (zc zu (qa 2) (zr 2)) qu)))) qu)))) (qf 3))
 (qw (zk (jf (q9 (vm "both") (q9 (zc zu (qa 2) (zr 4)) (q9 (jf (q9 (vm "link") (q9 (qa 2) (q9 (zc zu (qa 2) (zr 1)) qu)))) (q9 (jf (q9 (vm "link") (q9 (zc zu (qa 2) (zr 2)) (q9 (zc zu (qa 2) (zr 3)) qu)))) qu))))) (qf 4))
 (qw (zk (jf (q9 (vm "both") (q9 (zc zu (qa 2) (zr 4)) (q9 (jf (q9 (vm "link") (q9 (zc zu (qa 2) (zr 1)) (q9 (zc zu (qa 2) (zr 2)) qu)))) (q9 (jf (q9 (vm "link") (q9 (qa 2) (q9 (zc zu (qa 2) (zr 3)) qu)))) qu))))) (qf 5))
 (jx (jf (q9 (qa 3) (q9 (jf (q9 (vm "either") (q9 (zc zu (qa 2) (zr 5)) (k7 (qa 4))))) (q9 (jf (q9 (vm "either") (q9 (zc zu (qa 2) (zr 5)) (k7 (qa 5))))) (q9 (zc zu (qa 2) (zr 5)) qu)))))))))))
def aio:ke:=(qw (zk (bW 0) (qf 3))
 (qw (zk (jn (q9 (oP (vm "plain") (qa 1)) (q9 (oP (vm "turned") (qa 1)) (q9 (oP (vm "plain") (qa 1)) (q9 (oP (vm "turned") (qa 1)) qu))))) (qf 4))
 (qw (zk (zc zu (qa 4) (jn (q9 (jf (q9 (vm "both") (q9 (qa 3) (q9 (zc zu (qa 3) (zr 2)) qu)))) (q9 (oP (vm "plain") (qa 1)) (q9 (oP (vm "turned") (qa 1)) qu))))) (qf 4))
 (qw (zk (jf (q9 (vm "both") (q9 (zc zu (qa 3) (zr 4)) (q9 (jf (q9 (vm "link") (q9 (qa 3) (q9 (zc zu (qa 3) (zr 1)) qu)))) (q9 (jf (q9 (vm "link") (q9 (zc zu (qa 3) (zr 2)) (q9 (zc zu (qa 3) (zr 3)) qu)))) qu))))) (qf 5))
 (qw (zk (jf (q9 (vm "link") (q9 (zc zu (qa 3) (zr 5)) (q9 (zc zu (qa 3) (zr 6)) qu)))) (qf 6))
 (qw (zk (oQ 1 (v4 (jn (q9 (zc zu (qa 3) (zr 1)) (q9 (zc zu (qa 3) (zr 3)) qu)))) (qf 10) mL (jf (q9 (vm "cut") (q9 (qa 10) (q9 (zc zu (qa 3) (zr 5)) (w6 (qa 5) (qa 6))))))) (qf 7))
 (qw (zk (oQ 1 (v4 (jn (q9 (zc zu (qa 3) (zr 1)) (q9 (zc zu (qa 3) (zr 3)) qu)))) (qf 10) mL (jf (q9 (vm "cut") (q9 (zc zu (qa 3) (zr 5)) (q9 (qa 10) (w6 (qa 6) (qa 5))))))) (qf 8))
 (qw (xz (eU (zc vi (qa 2) (zr 4)) (zr 0)) (jx (jf (q9 (qa 4) (q9 (jv 7 0) (q9 (jv 7 1) (q9 (zc zu (qa 3) (zr 4)) qu)))))) xc)
 (qw (xz (eU (zc vi (qa 2) (zr 4)) (zr 1)) (jx (jf (q9 (qa 4) (q9 (jv 8 0) (q9 (jv 8 1) (q9 (zc zu (qa 3) (zr 4)) qu)))))) xc)
 (qw (zk (zc vi (zc aF (qa 2) (zr 4)) (zr 2)) (qf 9))
 (jx (jf (q9 (qa 4) (q9 (zc cJ (qa 7) (qa 9)) (q9 (zc cJ (qa 8) (qa 9)) (q9 (zc zu (qa 3) (zr 4)) qu))))))))))))))))
def xC(I:xm)(p1:xm)(p2:xm):ke:=(qw (zk (zc cJ (jv 0 0) (zr 1)) (qf 3))
 (qw (xz (eU (zc vi (qa 2) (zr 5)) (zr 2)) (qw (zk (afb (vm "a") (vm "b")) (qf 4))
 (qw (zk (jn qu) (qf 5))
 (qw (iU (v4 (qa 0)) (qf 6) (xz (eU (bW 6) (zr 2)) (jk (aT j8 (qa 5) (q9 (jf (q9 (jv 6 0) (q9 (zc zu (wW (qa 4) (zc cJ (jv 6 1) (zr 0)) (vm "a")) (uK oX (jv 6 1) (aX (zr 1)) w4)) qu))) qu))) (jk (aT j8 (qa 5) (k7 (qa 6))))))
 (jx (jn (q9 (oP (qa 0) (qa 1)) (q9 (oP (qa 5) (qa 1)) qu))))))) xc)
 (qw (xz (eU (zc vi (qa 2) (zr 5)) (zr 3)) (jx (jn (q9 (oP (qa 0) (qa 1)) (q9 (jf (q9 (zc zu (qa 0) (jn (k7 (yC .non)))) (k7 (qa 1)))) qu)))) xc)
 (qw (zk (zf I (w6 (qa 0) (qa 1))) (qf 7))
 (qw (zk (zc cJ (qa 7) (zc vi (zc aF (qa 2) (zr 8)) (bW 7))) (qf 8))
 (qw (xz (eU (zc vi (qa 2) (zr 5)) (zr 4)) (qw (zk (zf p1 (w6 (qa 0) (qa 3))) (aZ 4 (zp (qf 9) (zp (qf 10) (zp (qf 11) (zp (qf 12) aE))))))
 (qw (zk (bW 0) (qf 13))
 (qw (zk (zc zu (uK oX (qa 9) w4 (aX (zr 4))) (jn (q9 (jf (q9 (vm "both") (q9 (qa 13) (q9 (zc zu (qa 13) (zr 3)) qu)))) (q9 (jf (q9 (vm "either") (q9 (zc zu (qa 13) (zr 1)) (q9 (zc zu (qa 13) (zr 2)) qu)))) qu)))) (qf 5))
 (jx (oQ 1 (v4 (jn (w6 (qa 9) (qa 5)))) (qf 16) mL (jf (q9 (zc zu (zc zu (qa 0) (qa 16)) (jn (q9 (jf (q9 (vm "both") (w6 (qa 8) (qa 12)))) qu))) (q9 (jf (q9 (vm "both") (q9 (zc zu (qa 13) (zr 6)) (w6 (qa 1) (qa 10))))) qu)))))))) xc)
 (gO (xz (eU (zc vi (qa 2) (zr 5)) (zr 0)) (zk (zf p1 (w6 (qa 0) (qa 3))) (aZ 4 (zp (qf 9) (zp (qf 10) (zp (qf 11) (zp (qf 12) aE)))))) (zk (zf p2 (q9 (qa 0) (q9 (qa 3) (q9 (zc aF (qa 2) (zr 4)) qu)))) (aZ 4 (zp (qf 9) (zp (qf 10) (zp (qf 11) (zp (qf 12) aE)))))))
 (qw (zk (zc zu (bW 0) (bW 9)) (qf 14))
 (qw (xz (eU (zc vi (zc aF (qa 2) (zr 16)) (zr 2)) (zr 0)) (qw (zk (zc zu (zc zu (qa 0) (qa 9)) (jn (q9 (jf (q9 (vm "both") (w6 (qa 8) (qa 12)))) qu))) (qf 15))
 (jx (oQ 1 (v4 (jn (w6 (qa 10) (qa 11)))) (qf 16) mL (jf (q9 (qa 15) (q9 (jf (q9 (vm "both") (q9 (qa 14) (w6 (qa 1) (qa 16))))) qu)))))) xc)
 (qw (zk (zc zu (zc zu (qa 0) (qa 9)) (jn (q9 (jf (q9 (vm "both") (w6 (qa 12) (qa 8)))) qu))) (qf 15))
 (jx (oQ 1 (v4 (jn (w6 (qa 10) (qa 11)))) (qf 16) mL (jf (q9 (qa 15) (q9 (jf (q9 (vm "both") (q9 (qa 14) (w6 (qa 16) (qa 1))))) qu)))))))))))))))
def wP:ke:=(jx (jf (q9 (lK bP (k7 (jv 0 0))) (k7 (jv 0 1)))))
def uz(K:Ae)(J:Addr)(U:Addr)(g:Addr)(j:Addr)(l:Addr)(o:Addr)(p:Addr)(r:Addr)(t:Addr)(C:Addr)(Ch:Addr)(I:xm)(p1:dN):ke:=(qw (zk (jn (q9 (zf I (k7 (qa 0))) (q9 (zf I (k7 (qa 1))) qu))) (qf 2))
 (qw (zk (yC .non) (qf 3))
 (qw (al4 K J 4 (λE3=>jk (fu p1 E3 (w6 (jv 2 0) (jv 2 1)))) (zk (qa 4) (qf 3)))
 (qw (xz (yOr (sI (yB (sT K (.ref U) (qa 3)))) (yOr (sI (yB (sT K (.type "ValueError") (qa 3)))) (rdN (qa 2) (jn (w6 (qa 0) (qa 1)))))) (jx (yC (.bl false))) xc)
 (qw (xz (yB (lh K [(.ref g),(.ref j),(.ref l),(.ref o)] (qa 3))) (jx (yC (.bl false))) xc)
 (jx (af4 (lh K [(.ref p),(.ref r),(.ref t),(.ref C),(.ref Ch)] (qa 3)))))))))
def yi(I:dN)(p1:xm):ke:=(qw (zk (fu I noX (q9 (zf p1 (k7 (qa 0))) (q9 (zf p1 (k7 (qa 0))) qu))) (qf 1))
 (jx (tw (tV .list (qa 1)) (zc (vW false) (qa 1) (jn qu)))))
def aba(I:xm)(p1:xm)(p2:xm)(p3:xm):ke:=(qw (zk (zc vi (zc cJ (zc wV (qa 0) (jn (k7 (zr 0)))) (zr 0)) (zc ap1 (zr 10) (zr 9))) (qf 1))
 (qw (zk (zc vi (zc cJ (zc wV (qa 0) (jn (w6 (zr 0) (zr 0)))) (zr 1)) (zr 2147483647)) (qf 2))
 (qw (zk (zf I (q9 (uK oX (qa 0) (aX (zr 2)) w4) (w6 (qa 1) (zr 60)))) (aZ 2 (zp (qf 3) (zp (qf 4) aE))))
 (qw (zk (zf p1 (q9 (qa 3) (w6 (qa 4) (qa 2)))) (qf 5))
 (gO (xz (eU (zc vi (zc aF (qa 2) (zr 32)) (zr 2)) (zr 1)) (zk (jn (w6 (jv 5 1) (jv 5 0))) (qf 5)) xc)
 (qw (xz (sI (yB (zf p2 (k7 (jv 5 0))))) (jx (yC (.bl false))) xc)
 (qw (xz (yOr (sI (yB (zf p3 (w6 (jv 5 0) (jv 5 1))))) (sI (yB (zf p3 (w6 (jv 5 1) (jv 5 0)))))) (jx (yC (.bl false))) xc)
 (jx (tw (zf p2 (k7 (jv 5 0))) (zf p2 (k7 (jv 5 1))))))))))))
structure ao(A:Ru):Prop where
 n1:(z0 A).Nodup
 n2:(za A).Nodup
 b1:∀p∈z0 A,p.2<1000000
 b2:∀p∈za A,p.2<1000000
 z1:(z0 A).length<=63
 z2:(za A).length<=63
 d:jj A<=120
 z:k6 A<=1000
def iA:xm:=λys L Q=>∃a,∃wd:List (Option Kn),∃A:Ru,ys=[.tup [.ref a,qk A]]/\L a=some (.lst (vo wd))/\ao A/\
 ∀I J ca lk ct L',qh L L'->L' I=some (.lst (vo wd))->L' J=some (.lst (dO lk))->L' ca=some (.lst (dO ct))->lk.Perm (z0 A)->lk.Pairwise m6->ct.Perm (za A)->ct.Pairwise m6->Q (aoe I J ca) L'
theorem aen:∀ys L Q,iA ys L Q->v0 (wI (aY 120) bQ) 2 ys L Q:=by
 rintro ys L Q ⟨a,wd,A,rfl,ha,T,q⟩;refine⟨A,rfl,T.d,T.z,λJ h1=>?_⟩;have p:qh L (qg L J (.lst ((jq A).map qk))):=By h1;have g1:qg L J (.lst ((jq A).map qk)) J=some (.lst ((jq A).map qk)):=q8;generalize qg L J (.lst ((jq A).map qk))=L1 at p g1 ⊢;refine qc (p _ _ ha) λg r=>?_;have s2:qh L1 (qg L1 g (.lst (vo wd))):=By r;have zl:(jq A).length<=1000:=by rw[ai];exact T.z
 have j:(jq A).flatMap (pA true)=z0 A:=aU A;have l:(jq A).flatMap (pA false)=za A:=bE A;refine⟨J,jq A,true,rfl,s2 _ _ g1,zl,by rw[j];exact T.n1,by rw[j];exact T.b1,by rw[j];exact T.z1,λt lk U pl wl=>?_⟩;rw[j] at pl;have s3:=s2.trans (By (o:=.lst (dO lk)) U);refine⟨J,jq A,false,rfl,s3 _ _ g1,zl,by rw[l];exact T.n2,by rw[l];exact T.b2,by rw[l];exact T.z2,λC ct I pc wc=>?_⟩;rw[l] at pc;have n1:g≠t:=wu q8 U;have n2:g≠C:=wu ((qd n1).trans q8) I;have n3:t≠C:=wu q8 I;exact xr (q g t C lk ct _ (p.trans (s3.trans (By I))) ((qd n2).trans ((qd n1).trans q8)) ((qd n3).trans q8) q8 pl wl pc wc)
theorem yt{a b:Option Kn}(h:Da.eq (cI a) (cI b)=true):a=b:=by
 have str:∀x y:Str,Da.eq (.s (.str x)) (.s (.str y))=decide (x=y):=λ_ _=>rfl;have int:∀x y:Int,Da.eq (.s (.int x)) (.s (.int y))=decide (x=y):=λ_ _=>rfl;have two:∀{x y u v:Da},Da.eq (.tup [x,y]) (.tup [u,v])=true->Da.eq x u=true/\Da.eq y v=true:=λ{x y u v} h=>by have h:(Da.eq x u&&(Da.eq y v&&true))=true:=h;rw[Cz,AK] at h;exact h
 have I:∀{x y z u v w:Da},Da.eq (.tup [x,y,z]) (.tup [u,v,w])=true->Da.eq x u=true/\Da.eq y v=true/\Da.eq z w=true:=λ{x y z u v w} h=>by have h:(Da.eq x u&&(Da.eq y v&&(Da.eq z w&&true)))=true:=h;rw[Cz,AK,AK] at h;exact h
 cases a with
 |none=>
  cases b with|none=>rfl|some k=>cases k<;>cases h
 |some k=>
  cases b with
  |none=>cases k<;>cases h
  |some m=>
   cases k with
   |lf t n=>
    cases m with
    |lf J g=>
     obtain⟨h1,h2⟩:=two h;rw[str] at h1 h2;cases of_decide_eq_true h2;cases t<;>cases J<;>first|rfl|exact absurd (of_decide_eq_true h1) (by decide)
    |nd e i j=>cases t<;>cases e<;>cases h
   |nd e i j=>
    cases m with
    |lf t n=>cases t<;>cases e<;>cases h
    |nd U l o=>
     obtain⟨h1,h2,h3⟩:=I h;rw[str] at h1;rw[int] at h2 h3;cases Int.ofNat.inj (of_decide_eq_true h2);cases Int.ofNat.inj (of_decide_eq_true h3);cases e<;>cases U<;>first|rfl|exact absurd (of_decide_eq_true h1) (by decide)
theorem iH{α:Type}{f:α->Da}(h:∀a b,Da.eq (f a) (f b)=true->a=b):∀l m:List α,Da.eqs (l.map f) (m.map f)=true->l=m
 |[],[],_=>rfl
 |[],_::_,e=>by cases e
 |_::_,[],e=>by cases e
 |x::l,y::m,e=>by rw[AA,AA,Da.eqs,AK] at e;rw[h x y e.1,iH h l m e.2]
theorem vL(m:S∈jq R):jj S<=jj R/\k6 S<=k6 R:=by
 have:∀n,∀R:Ru,k6 R<=n->S∈jq R->jj S<=jj R/\k6 S<=k6 R:=by
  intro n
  induction n with
  |zero=>intro R h;have:=iC R;lia
  |succ n J=>
   intro R U m;rw[aD] at m;rcases Ap.mp m with rfl|m
   ·exact⟨Al _,Al _⟩
   ·obtain⟨B,I,m⟩:=A2.mp m;have z:=iE I;have d:=aR I;have:=J B (by lia) m;lia
 exact this _ R (Al _) m
def hX(C:Addr):dN:=λys L Q E=>∃a b,∃wd I:List (Option Kn),∃R O:Ru,ys=[.tup [.ref a,qk R],.tup [.ref b,qk O]]/\L a=some (.lst (vo wd))/\L b=some (.lst (vo I))/\ao R/\ao O/\
 ((wd=I/\R=O/\∀p,L p=none->Q (.ref p) (qg L p (.lst [])))\/((wd≠I\/¬(z0 R).Perm (z0 O)\/¬(za R).Perm (za O))/\E C L))
theorem acp :∀ys L Q E,hX C ys L Q E->v0 (zD C (pO E) iA fA dE) 7 ys L Q:=by
 rintro ys L Q E ⟨a,b,wd,j,R,O,rfl,ha,hb,l,TO,q⟩;refine⟨a,wd,R,rfl,ha,l,λw1 l1 c1 lk ct L1 s1 g1 g2 g3 p1 q1 p2 q2=>?_⟩;refine⟨b,j,O,rfl,s1 _ _ hb,TO,λw2 l2 c2 lk2 a1 L2 J g4 g5 g6 p3 q3 p4 q4=>?_⟩;refine⟨rfl,rfl,3,3,_,_,by decide,xo (.cons (jl (J _ _ g1) (oK _)) (.cons (jl (J _ _ g2) (cK _)) (.cons (jl (J _ _ g3) (cK _)) .nil))),xo (.cons (jl g4 (oK _)) (.cons (jl g5 (cK _)) (.cons (jl g6 (cK _)) .nil))),?_⟩;replace J:=s1.trans J;show ky (!(Da.eqs (wd.map cI) (j.map cI)&&(Da.eqs (lk.map i4) (lk2.map i4)&&(Da.eqs (ct.map i4) (a1.map i4)&&true)))) _ _;rcases q with⟨rfl,rfl,q⟩|⟨ne,q⟩
 ·cases oj (p3.trans p1.symm) q3 q1;cases oj (p4.trans p2.symm) q4 q2;refine cn (by rw[mQ,oH,oH];rfl) ?_;clear g1 g2 g3 g4 g5 g6 p1 p2 p3 p4 q1 q2 q3 q4 s1;intro pl T;have gl:qg L2 pl (.lst []) pl=some (.lst []):=q8;refine⟨R,rfl,l.d,l.z,λp2 ts L4 s4 _ gp HT _ et=>?_⟩;have a2:=s4 _ _ gl;have s5:=J.trans ((By (o:=.lst []) T).trans s4);refine jy gp λkeep kp=>wv ⟨λi I U=>∃c4 c5 c6,I=[some (.tup [.ref a,qk R]),some (.tup [.ref b,qk R]),some (.tup [.ref a,qk R]),some (.ref pl),c4,c5,c6]/\qh L4 U,⟨_,_,_,rfl,DN _⟩,?_,?_,?_⟩
  ·rintro i I U ⟨c4,c5,c6,rfl,g⟩;exact kp U (by rw[g _ _ gp,gp])
  ·rintro i y I U hy ⟨c4,c5,c6,rfl,g⟩;rw[Am] at hy;obtain⟨⟨wa,w,S⟩,ew,rfl⟩:=Au.mp hy;have mw:=AM ew;have eS:vd R w=some S:=by obtain⟨v,e1,e2⟩:=oJ.mp (show(w,S)∈eL R [] by rw[<-et];exact AR.mpr ⟨_,mw,rfl⟩);rw[show w=v from e1];exact e2
   obtain⟨wl,mS⟩:=kD eS;have dR:=l.d;have zR:=l.z;have dS:=vL mS;refine⟨a,wa,R,S,S,w,rfl,g _ _ (HT.at_ _ mw).1,by lia,eS,afs S,by lia,by lia,λp us u L5 s5 _ gu _ _ eu _ fst=>?_⟩;cases us with
   |cons t r=>
    rw[fst rfl] at eu;cases eu
   |nil=>
    refine jy gu λa3 a4=>wv ⟨λm I U=>I=[some (.tup [.ref a,qk R]),some (.tup [.ref b,qk R]),some (.tup [.ref a,qk R]),some (.ref pl),some (.ref wa),some (qk S),c6]/\U=L5,⟨rfl,rfl⟩,?_,?_,?_⟩
    ·rintro m I L6 ⟨rfl,rfl⟩;exact a4 _ rfl
    ·rintro m y I L6 hy _;cases hy
    ·rintro I L6 ⟨rfl,rfl⟩;exact⟨_,DN _,_,_,_,rfl,g.trans s5⟩
  ·rintro I U ⟨c4,c5,c6,rfl,g⟩;exact cU (EH (s5.trans g) (g _ _ a2)) (q pl (J.none T))
 ·refine fZ ?_ ⟨Ar rfl,L,J,q⟩;rw[BO,Bool.eq_false_iff];intro h;rw[Cz,AK,AK] at h;have dp:∀x y:Nat×Nat,Da.eq (i4 x) (i4 y)=true->x=y:=λx y h=>by rw[tN] at h;exact of_decide_eq_true h
  have e1:=iH (λ_ _=>yt) _ _ h.1;have e2:=iH dp _ _ h.2.1;have e3:=iH dp _ _ h.2.2;subst e2 e3;rcases ne with n|n|n
  ·exact n e1
  ·exact n (p1.symm.trans p3)
  ·exact n (p2.symm.trans p4)
def crM(n:Nat)(nm:Str):List (Option Kn):=[some (.lf true nm),some (.lf false nm),some (.lf true nm),some (.lf false nm),some (.nd false (n+1) (n+3)),some (.nd true n (n+2))]
def crA(n:Nat):Ru:=.ei (n+5) (.bo (n+4) (.link n (n+1)) (.link (n+2) (n+3)))
def crB(n:Nat):Ru:=.ei (n+5) (.bo (n+4) (.link (n+1) (n+2)) (.link n (n+3)))
def cT:xm:=λys L Q=>∃a,∃xs:List Y,∃nm:Str,ys=[.ref a,.str nm]/\L a=some (.lst xs)/\∀p L',qh L L'->L' p=some (.lst (vo (crM xs.length nm)))->Q (.tup [.ref p,qk (crA xs.length),qk (crB xs.length),.int ((xs.length+5:Nat):Int)]) L'
theorem pQ:∀ys L Q,cT ys L Q->v0 rR 6 ys L Q:=by rintro ys L Q ⟨a,U,nm,rfl,I,q⟩;refine qc I ?_;intro g h1;intro j h2;refine⟨_,_,By h2 _ _ q8,q8,small (Ar rfl),λJ h3=>?_⟩;exact xr (q J _ (((By h1).trans (By h2)).trans (By h3)) q8)
def ctM(n:Nat)(nm:Str):List (Option Kn):=[some (.lf false nm),some (.lf true nm),some (.lf false nm),some (.lf true nm),some (.nd false n (n+2)),some (.lf false nm),some (.lf true nm)]
def ctL(n:Nat):Ru:=.bo (n+4) (.link n (n+1)) (.link (n+2) (n+3))
def ctR(n:Nat):Ru:=.link (n+5) (n+6)
def sm(n:Nat)(b:Bool)(p:Nat):Ru:=if b then .cu p (n+5) (ctL n) (ctR n) else .cu (n+5) p (ctR n) (ctL n)
def nQ:xm:=λys L Q=>∃a,∃xs:List Y,∃nm:Str,∃k:Int,ys=[.ref a,.str nm,.int k]/\L a=some (.lst xs)/\∀p L' b c u v,qh L L'->L' p=some (.lst (vo (ctM xs.length nm)))->(u=1\/u=3)->(v=1\/v=3)->(b≠c\/u≠v)->Q (.tup [.ref p,qk (sm xs.length b (xs.length+u)),qk (sm xs.length c (xs.length+v)),.int ((xs.length+4:Nat):Int)]) L'
theorem ac7:∀ys L Q,nQ ys L Q->v0 aio 10 ys L Q:=by
 rintro ys L Q ⟨a,J,nm,k,rfl,ha,q⟩;refine qc ha ?_;intro p1 h1;intro p2 h2;refine⟨_,_,By h2 _ _ q8,q8,small (Ar rfl),λl h3=>?_⟩;generalize I:qg (qg (qg L p1 _) p2 _) l _=L3;have o:qh L L3:=by rw[<-I];exact((By h1).trans (By h2)).trans (By h3)
 have g3:L3 l=some (.lst (vo (ctM J.length nm))):=by rw[<-I];exact q8
 clear I;intro p4 h4;refine jy q8 λkeep kp=>aV (λi U=>U=([1,3].take i).map λu:Nat=>qk (sm J.length true (J.length+u))) (wb (Ar rfl)) (kp _ rfl) rfl ?_ ?_
 ·rintro i y U g rfl;rcases i with _|_|i
  ·cases g;exact⟨_,DN _,rfl,rfl⟩
  ·cases g;exact⟨_,DN _,rfl,rfl⟩
  ·cases g
 rintro U rfl p5 h5;generalize I:qg (qg L3 p4 _) p5 _=t;have s5:qh L3 t:=by rw[<-I];exact(By h4).trans (By h5)
 have p:t p5=some (.lst ([1,3].map λu:Nat=>qk (sm J.length true (J.length+u)))):=by rw[<-I];exact q8
 clear I;intro p6 h6;refine jy q8 λkeep kp=>aV (λi U=>U=([1,3].take i).map λu:Nat=>qk (sm J.length false (J.length+u))) (wb (Ar rfl)) (kp _ rfl) rfl ?_ ?_
 ·rintro i y U g rfl;rcases i with _|_|i
  ·cases g;exact⟨_,DN _,rfl,rfl⟩
  ·cases g;exact⟨_,DN _,rfl,rfl⟩
  ·cases g
 rintro U rfl p7 h7;generalize I:qg (qg t p6 _) p7 _=r;have C:qh t r:=by rw[<-I];exact(By h6).trans (By h7)
 have T:r p7=some (.lst ([1,3].map λu:Nat=>qk (sm J.length false (J.length+u)))):=by rw[<-I];exact q8
 clear I;replace p:=C _ _ p;replace g3:=C _ _ (s5 _ _ g3);replace o:=o.trans (s5.trans C);clear s5 C;refine⟨(show(0:Int)<4 by decide),jd (λ_=>?_) λ_=>⟨(show(0:Int)<4 by decide),jd (λ_=>?_) λ_=>?_⟩⟩
 ·exact qc p (ql (zv (j:=0) rfl) (qc p (ql (zv (j:=1) rfl) (xr (q l r true true 1 3 o g3 (.inl rfl) (.inr rfl) (.inr (by decide)))))))
 ·exact qc T (ql (zv (j:=0) rfl) (qc T (ql (zv (j:=1) rfl) (xr (q l r false false 1 3 o g3 (.inl rfl) (.inr rfl) (.inr (by decide)))))))
 ·refine⟨⟨by decide,by decide⟩,(show(0:Int)<2 by decide),?_⟩;have two:k / 4 % 2=((0:Nat):Int)\/k / 4 % 2=((1:Nat):Int):=by lia
  show qf 9 (Y.int (k / 4 % 2)) _ _ _;rcases two with e|e
  ·rw[e];exact qc p (ql (zv (j:=0) rfl) (qc T (ql (zv (j:=0) rfl) (xr (q l r true false 1 1 o g3 (.inl rfl) (.inl rfl) (.inl (by decide)))))))
  ·rw[e];exact qc p (ql (zv (j:=1) rfl) (qc T (ql (zv (j:=1) rfl) (xr (q l r true false 3 3 o g3 (.inr rfl) (.inr rfl) (.inl (by decide)))))))
def Unl(wd I:List (Option Kn))(A B:Ru):Prop:=wd≠I\/¬(z0 A).Perm (z0 B)\/¬(za A).Perm (za B)
structure Sml(n:Nat)(A:Ru):Prop where
 n1:(z0 A).Nodup
 n2:(za A).Nodup
 b1:∀p∈z0 A,n<=p.2/\p.2<n+10
 b2:∀p∈za A,n<=p.2/\p.2<n+10
 z1:(z0 A).length<=4
 z2:(za A).length<=1
 d:jj A<=5
 z:k6 A<=10
theorem tz(n:Nat):Sml n (crA n):=by
 refine⟨?_,B5,?_,(λp h=>by cases h),Ar rfl,Ar rfl,Ar rfl,Ar rfl⟩
 ·show [(n,n+1),(n+2,n+3)].Nodup;simp
 ·intro p h;have h:p∈[(n,n+1),(n+2,n+3)]:=h;simp at h;rcases h with rfl|rfl<;>simp
theorem abv(n:Nat):Sml n (crB n):=by
 refine⟨?_,B5,?_,(λp h=>by cases h),Ar rfl,Ar rfl,Ar rfl,Ar rfl⟩
 ·show [(n+1,n+2),(n,n+3)].Nodup;simp
 ·intro p h;have h:p∈[(n+1,n+2),(n,n+3)]:=h;simp at h;rcases h with rfl|rfl<;>simp
theorem yZ(n:Nat)(b:Bool){u:Nat}(U:u=1\/u=3):Sml n (sm n b (n+u)):=by
 have I:z0 (sm n true (n+u))=[(n,n+1),(n+2,n+3),(n+5,n+6)]:=rfl;have J:z0 (sm n false (n+u))=[(n+5,n+6),(n,n+1),(n+2,n+3)]:=rfl;cases b with
 |true=>
  refine⟨by rw[I];simp,Ay.mpr ⟨(λh=>by cases h),B5⟩,?_,?_,Ar rfl,Ar rfl,Ar rfl,Ar rfl⟩
  ·intro p h;rw[I] at h;simp at h;rcases h with rfl|rfl|rfl<;>simp
  ·intro p h;rw[Ag.mp (show p∈[(n+u,n+5)] from h)];exact⟨by simp,by simp⟩
 |false=>
  refine⟨by rw[J];simp,Ay.mpr ⟨(λh=>by cases h),B5⟩,?_,?_,Ar rfl,Ar rfl,Ar rfl,Ar rfl⟩
  ·intro p h;rw[J] at h;simp at h;rcases h with rfl|rfl|rfl<;>simp
  ·intro p h;rw[Ag.mp (show p∈[(n+5,n+u)] from h)];show n<=n+u/\n+u<n+10;lia
theorem ao.both{E:List Nat}(T:yh ks R E)(s:Sml ks.length S)(x:Nat):ao (.bo x R S)/\ao (.bo x S R):=by
 obtain⟨h1,h2,h3,t⟩:=T.sr.pairs T.nd;have C:=T.small;have kl:=T.len;obtain⟨fc,fl⟩:=kh R;have rd:=v3 R;have rz:=ku R;have J:∀p∈z0 R,p.2<ks.length:=λp I=>T.sr.lt _ (h3 p I);have U:∀p∈za R,p.2<ks.length:=λp I=>T.sr.lt _ (t p I);have z1:=s.z1;have z2:=s.z2;have sd:=s.d;have sz:=s.z;have o:∀p∈z0 R,∀q∈z0 S,p≠q:=λp I q g e=>by have:=J p I;have:=(s.b1 q g).1;rw[e] at *;lia
 have r:∀p∈za R,∀q∈za S,p≠q:=λp I q g e=>by have:=U p I;have:=(s.b2 q g).1;rw[e] at *;lia
 have b1:∀p,p∈z0 R\/p∈z0 S->p.2<1000000:=λp h=>h.elim (λh=>by have:=J p h;lia) λh=>by have:=(s.b1 p h).2;lia
 have b2:∀p,p∈za R\/p∈za S->p.2<1000000:=λp h=>h.elim (λh=>by have:=U p h;lia) λh=>by have:=(s.b2 p h).2;lia
 constructor
 ·refine⟨Av.mpr ⟨h1,s.n1,o⟩,Av.mpr ⟨h2,s.n2,r⟩,λp h=>b1 p (Ao.mp h),λp h=>b2 p (Ao.mp h),?_,?_,?_,?_⟩
  ·show(z0 R++z0 S).length<=63;rw[Ad];lia
  ·show(za R++za S).length<=63;rw[Ad];lia
  ·show max (jj R) (jj S)+1<=120;lia
  ·show k6 R+k6 S+1<=1000;lia
 ·refine⟨Av.mpr ⟨s.n1,h1,λa j b l e=>o b l a j e.symm⟩,Av.mpr ⟨s.n2,h2,λa j b l e=>r b l a j e.symm⟩,λp h=>b1 p (Ao.mp h).symm,λp h=>b2 p (Ao.mp h).symm,?_,?_,?_,?_⟩
  ·show(z0 S++z0 R).length<=63;rw[Ad];lia
  ·show(za S++za R).length<=63;rw[Ad];lia
  ·show max (jj S) (jj R)+1<=120;lia
  ·show k6 S+k6 R+1<=1000;lia
theorem yh.thin{E:List Nat}(T:yh ks R E):ao R:=by obtain⟨h1,h2,h3,J⟩:=T.sr.pairs T.nd;have U:=T.small;have g:=T.len;obtain⟨j,l⟩:=kh R;have rd:=v3 R;have o:=ku R;exact⟨h1,h2,λp I=>(by have:=T.sr.lt _ (h3 p I);lia),λp I=>(by have:=T.sr.lt _ (J p I);lia),by lia,by lia,by lia,by lia⟩
theorem lX{A B:Ru}{x:Nat}(h:¬(z0 A).Perm (z0 B)\/¬(za A).Perm (za B)):Unl wd wd (.bo x R A) (.bo x R B)/\Unl wd wd (.bo x A R) (.bo x B R):=by
 refine⟨.inr ?_,.inr ?_⟩
 ·exact h.imp (λh z=>h ((BK _).mp z)) λh z=>h ((BK _).mp z)
 ·exact h.imp (λh z=>h ((Bx _).mp z)) λh z=>h ((Bx _).mp z)
theorem agw(n:Nat):¬(z0 (crA n)).Perm (z0 (crB n))\/¬(za (crA n)).Perm (za (crB n)):=.inl λh=>by have m:(n,n+1)∈[(n+1,n+2),(n,n+3)]:=h.mem_iff.mp (Ah ..);simp at m
theorem ag7(n:Nat){b c:Bool}{u v:Nat}(I:u=1\/u=3)(J:v=1\/v=3)(h:b≠c\/u≠v):¬(z0 (sm n b (n+u))).Perm (z0 (sm n c (n+v)))\/¬(za (sm n b (n+u))).Perm (za (sm n c (n+v))):=.inr λz=>by
 have e:∀(b:Bool) (u:Nat),za (sm n b (n+u))=[if b then(n+u,n+5) else(n+5,n+u)]:=λb u=>by cases b<;>rfl
 rw[e,e] at z;have m:=Ag.mp (z.mem_iff.mp (Ah ..));cases b<;>cases c<;>simp at m h<;>lia
def chS(c:Nat):Str:=if c=97 then "b" else "a"
def chN(x:Str):Str:=match x.cps.toList with
 |c::_=>chS c++Txt.slice x (some 1) none
 |[]=>x
theorem ag4(c:Nat):(xt (bH [] (.inr "a") (.str "b")) (.inr ⟨#[c]⟩)).getD (.str "a")=.str (chS c):=by
 by_cases h:c=97
 ·subst h;rfl
 ·have e:decide ((Sum.inr "a" : j7)=.inr ⟨#[c]⟩)=false:=Az λz=>h (by
   have z:=Em z;have:(⟨#[97]⟩:Str)=⟨#[c]⟩:=z;injection this with this
   injection this with this
   exact(A4 this).1.symm)
  show(((([(Sum.inr "a",Y.str "b")]:List (j7×Y)).find? λp=>decide (p.1=.inr ⟨#[c]⟩)).map (·.2)).getD _)=_;rw[List.find?_cons_of_neg (by rw[e];decide)];unfold chS;rw[AD h];rfl
def chK:Kn->Kn
 |.lf t n=>.lf t (chN n)
 |k=>k
theorem ag9(h:1<=x.length):chN x≠x:=by
 obtain⟨⟨l⟩⟩:=x;cases l with
 |nil=>exact absurd (show 1<=0 from h) (by decide)
 |cons c r=>
  intro z;have z:(chS c++Txt.slice ⟨⟨c::r⟩⟩ (some 1) none:Str)=⟨⟨c::r⟩⟩:=z;have z:=Bb (λs:Str=>s.cps.toList.head?) z;simp only[acn] at z;unfold chS at z;by_cases e:c=97
  ·rw[AF e,e] at z;exact absurd (AN (show some 98=some 97 from z)) (by decide)
  ·rw[AD e] at z;exact e (AN (show some 97=some c from z)).symm
theorem aij(ok:bA ks)(h:0<ks.length):(ks.map chK).map some≠ks.map some:=by
 intro z;cases ks with
 |nil=>cases h
 |cons k r=>
  have e:=(A4 z).1;have o:=ok 0 k rfl;cases k with
  |lf t n=>
   have e:Kn.lf t (chN n)=.lf t n:=AN e;injection e with _ e
   exact ag9 o.1 e
  |nd e i j=>exact absurd o.1 (by lia)
theorem eh(a b:List (Option Kn)):vo (a++b)=vo a++vo b:=Ai
theorem ahl{c:Nat}{r:List Nat}(h:x.cps.toList=c::r):chN x=chS c++Txt.slice x (some 1) none:=by unfold chN;rw[h]
theorem uX(x:Str)(l u:Option Int):(Txt.slice x l u).length<=x.length:=by
 have e:∀z:Str,z.length=z.cps.toList.length:=λz=>by rw[Ba];rfl
 rw[e,ft,AY,B1,e x];lia
theorem ac3{f:α->β}{us:List α}{a b:β}(h:us.map f=[a,b]):∃u v,us=[u,v]/\f u=a/\f v=b:=by
 rcases us with _|⟨u,_|⟨v,_|⟨w,r⟩⟩⟩
 ·cases h
 ·have:=Bb List.length h;simp at this
 ·obtain⟨I,J⟩:=A4 h;exact⟨u,v,rfl,I,(A4 J).1⟩
 ·have:=Bb List.length h;simp at this
theorem dD{p:Addr}{I J:List (Option Kn)}{u v:Nat}{Q:YK}(h1:L a=some (.lst (vo I)))(h2:L p=some (.lst (vo J)))(h3:I.length+J.length<=500)(q:∀px L2,qh L L2->L2 px=some (.lst (vo (I++J++[some (.nd false u v)])))->Q (.ref px) L2):
 zu (.ref a) (.ref p) L λx L1=>jn (q9 (jf (q9 (yC (.str "both")) (q9 (yC (.int (u:Int))) (q9 (yC (.int (v:Int))) qu)))) qu) [] L1 λy L2=>zu x y L2 Q:=by
 refine⟨_,_,h1,h2,small (by rw[cx,cx];lia),λpx g=>?_⟩;intro py U;refine⟨_,_,By U _ _ q8,q8,small (by rw[Ad,cx,cx];show _+1<=1000;lia),λj hw=>?_⟩;refine q j _ (((By g).trans (By U)).trans (By hw)) ?_;rw[q8,eh,eh];rfl
def fW:xm:=λys L Q=>∃a,∃ks:List Kn,∃R:Ru,∃E:List Nat,∃n:Int,ys=[.ref a,qk R,.int n]/\L a=some (.lst (ja ks))/\yh ks R E/\(qt R).Perm (List.range ks.length)/\
 ∀p x y wd I A B L',qh L L'->L' p=some (.lst [.tup [.ref x,qk A],.tup [.ref y,qk B]])->L' x=some (.lst (vo wd))->L' y=some (.lst (vo I))->ao A->ao B->Unl wd I A B->Q (.ref p) L'
theorem uq:∀ys L Q,fW ys L Q->v0 (xC iq cT nQ) 16 ys L Q:=by
 rintro ys L Q ⟨a,I,R,E,n,rfl,ha,T,tp,q⟩;have big:=bg_;have kl:=T.len;have tl:=T.small;have rt:=ku R;have k0:0<I.length:=by have:=tp.length_eq;rw[Bf] at this;lia
 obtain⟨k1,e1⟩:∃k,I[0]?=some k:=⟨_,Aj k0⟩;have o1:=T.ok 0 k1 e1;cases k1 with
 |nd e i j=>exact absurd o1.1 (by lia)
 |lf t nm=>
 refine qc ha (ql (aP (i:=0) e1) ?_);refine⟨(show(0:Int)<5 by decide),jd (λ_=>?_) λ_=>?_⟩
 ·intro pd hd;refine⟨q8,?_⟩;rw[xa];have g:=By (o:=.dct (bH [] (.inr "a") (.str "b"))) hd;have gd:qg L pd (.dct (bH [] (.inr "a") (.str "b"))) pd=some (.dct (bH [] (.inr "a") (.str "b"))):=q8;generalize qg L pd (.dct (bH [] (.inr "a") (.str "b")))=L1 at g gd ⊢;intro pl hl;have C:=By (o:=.lst []) hl;have gl:qg L1 pl (.lst []) pl=some (.lst []):=q8;generalize qg L1 pl (.lst [])=L2 at C gl ⊢;have a4:a≠pl:=wu (g _ _ ha) hl;refine jy (C _ _ (g _ _ ha)) λkeep kp=>wv ⟨λi τ l=>∃c6,τ=[some (.ref a),some (qk R),some (.int n),some (.str nm),some (.ref pd),some (.ref pl),c6,none,none,none,none,none,none,none,none,none]/\qh L1 l/\l pl=some (.lst (vo (((I.take i).map chK).map some))),⟨_,rfl,C,gl⟩,?_,?_,?_⟩
  ·rintro i τ l ⟨c6,rfl,s',_⟩;exact kp l (by rw[s' _ _ (g _ _ ha),C _ _ (g _ _ ha)])
  ·rintro i y τ l hy ⟨c6,rfl,s',g'⟩;rw[Am] at hy;obtain⟨k,ek,rfl⟩:=Au.mp hy;have hi:=xq ek;have et:(I.take (i+1)).map chK=(I.take i).map chK++[chK k]:=by rw[Bq,ek,Ai];rfl
   have lz:(vo (((I.take i).map chK).map some)).length<sizeLine:=by rw[cx,Ab,Ab,AY];exact big _ (by lia)
   cases k with
   |nd e u v=>
    refine qc g' (qz g' ⟨lz,⟨_,DN _,_,rfl,s'.upd hl,?_⟩⟩);rw[q8,et,Ai,eh];rfl
   |lf t a1=>
    have o:=T.ok i _ ek;have o:bw a1:=o;obtain⟨c,r,hc⟩:∃c r,a1.cps.toList=c::r:=by
     have h:=o.1;cases e:a1.cps.toList with
     |nil=>
      have:a1.length=a1.cps.toList.length:=by rw[Ba];rfl
      rw[e] at this;exact absurd h (by rw[this];decide)
     |cons c r=>exact⟨c,r,rfl⟩
    have nl:a1.length<=1000:=AI o.2.1 (by decide);have sl:=uX a1 (some 1) none;have a2:=s' _ _ gd;have n8:=o.2.1;have cl:(chS c).length=1:=by unfold chS;split<;>rfl
    refine qc g' (x0 a2 ⟨small nl,ql (by rw[hc];exact zv (j:=0) rfl) (x0 a2 ?_)⟩);rw[ag4];refine⟨small nl,⟨small (by rw[cl];lia),qz g' ⟨lz,⟨_,DN _,_,rfl,s'.upd hl,?_⟩⟩⟩⟩;rw[q8,et,Ai,eh,<-ahl hc];rfl
  ·rintro τ l ⟨c6,rfl,s',g'⟩;rw[Ab,Bm] at g';intro p hp;exact xr (q p a pl (I.map some) ((I.map chK).map some) R R _ ((g.trans s').trans (By hp)) q8 (by rw[By hp _ _ (s' _ _ (g _ _ ha)),vh]) (By hp _ _ g') T.thin T.thin (.inl (AW (aij T.ok k0))))
 ·refine⟨(show(0:Int)<5 by decide),jd (λ_=>?_) λ_=>?_⟩
  ·intro p1 h1;have g:=By (o:=.lst [Y.non]) h1;refine⟨_,_,g _ _ ha,q8,small (by rw[Ab];show I.length+1<=1000;lia),λp2 h2=>?_⟩;intro p3 h3;have s3:=(g.trans (By (o:=.lst (ja I++[Y.non])) h2)).trans (By (o:=.lst [.tup [.ref a,qk R],.tup [.ref p2,qk R]]) h3);refine xr (q p3 a p2 (I.map some) (I.map some++[none]) R R _ s3 q8 (by rw[s3 _ _ ha,vh]) (by rw[By h3 _ _ q8,eh,vh];rfl) T.thin T.thin (.inl λz=>?_));have:=Bb List.length z;rw[Ad] at this;simp at this
  ·have J:=ha;rw[<-vh] at J;refine⟨a,I.map some,I,R,E,rfl,J,T.sr,adz I R,T.nd,by lia,λpe F he hF=>?_⟩;have g:=By (o:=.lst (nY F)) he;have ge:qg L pe (.lst (nY F)) pe=some (.lst (nY F)):=q8;generalize qg L pe (.lst (nY F))=L1 at g ge ⊢;have fl:0<F.length:=by have:=T.sr.ends T.ok;cases E with|nil=>exact absurd this (Cp _)|cons x r=>exact List.length_pos_iff.mpr λz=>by have:=(hF x).mpr (Ah ..);rw[z] at this;cases this
   obtain⟨j,x,ej,_,ex⟩:=iV fl (n / 8);have a3:(nY F).length=F.length:=Ab ..;refine⟨⟨by decide,by decide⟩,qc ge ⟨(by rw[a3];lia),?_⟩⟩;show gK L1 (.ref pe) λys=>sh L1 _ (dz ys (n / 8 % ((nY F).length:Int)));rw[a3,ej];refine qc ge (ql (aP ex) ?_);clear ej;replace J:=g _ _ J;clear ge he;simp only[bJ,List.map,List.replicate,List.length,CS,Co];have oz:∀wd:List (Option Kn),(vo wd).length=wd.length:=cx;have kz:(I.map some).length=I.length:=Ab ..;refine⟨(show(0:Int)<5 by decide),jd (λ_=>?_) λ_=>?_⟩
   ·refine⟨a,vo (I.map some),nm,rfl,J,λpm L2 C gm=>?_⟩;rw[oz,kz] at gm ⊢;replace J:=C _ _ J;replace g:=g.trans C;clear C;refine qc J ?_;refine qc gm λp3 h3=>?_;intro p4 h4;refine⟨_,_,By h4 _ _ q8,q8,small (Ar rfl),λp5 h5=>?_⟩;have c4:eM (vo (crM I.length nm)) none (some 4)=vo ((crM I.length nm).take 4):=uA _ 4;generalize hL:qg (qg (qg L2 p3 _) p4 _) p5 _=L5;have s5:qh L2 L5:=by rw[<-hL];exact((By h3).trans (By h4)).trans (By h5)
    have go:L5 p5=some (.lst (vo ((crM I.length nm).take 4++[some (.nd false I.length (I.length+3)),some (.nd true (I.length+1) (I.length+2))]))):=by rw[<-hL,q8,c4,oz,kz];rfl
    clear hL h3 h4 h5;replace gm:=s5 _ _ gm;replace J:=s5 _ _ J;replace g:=g.trans s5;clear s5;intro p6 h6;have s6:=By (o:=.lst [.ref pm,.ref p5]) h6;have g6:qg L5 p6 (.lst [.ref pm,.ref p5]) p6=some (.lst [.ref pm,.ref p5]):=q8;replace gm:=s6 _ _ gm;replace go:=s6 _ _ go;replace J:=s6 _ _ J;replace g:=g.trans s6;generalize qg L5 p6 (.lst [.ref pm,.ref p5])=L6 at g g6 gm go J ⊢;clear s6 h6;rw[oz,kz];have a5:=go;generalize hO:(crM I.length nm).take 4++[some (.nd false I.length (I.length+3)),some (.nd true (I.length+1) (I.length+2))]=wo at go;refine jy g6 λkeep kp=>mW ⟨wb (Ar rfl),λi zs l=>qh L6 l/\∃us:List (Addr×List (Option Kn)),zs=us.map (λu=>Y.tup [.ref u.1,qk (.bo (I.length+6) R (crA I.length))])/\(∀u∈us,l u.1=some (.lst (vo u.2)))/\us.map (·.2)=[I.map some++crM I.length nm++[some (.nd false x (I.length+5))],I.map some++wo++[some (.nd false x (I.length+5))]].take i,⟨DN _,[],rfl,(λu m=>by cases m),rfl⟩,?_,?_,?_⟩
    ·rintro i zs l ⟨s',_⟩;exact kp l (by rw[s' _ _ g6,g6])
    ·rintro i y zs l hy ⟨s',us,rfl,hu,e⟩;have step:∀wz,us.map (·.2)++[I.map some++wz++[some (.nd false x (I.length+5))]]=[I.map some++crM I.length nm++[some (.nd false x (I.length+5))],I.map some++wo++[some (.nd false x (I.length+5))]].take (i+1)->∀px L2,qh l L2->L2 px=some (.lst (vo (I.map some++wz++[some (.nd false x (I.length+5))])))->dt (λzs l=>qh L6 l/\∃us:List (Addr×List (Option Kn)),zs=us.map (λu=>Y.tup [.ref u.1,qk (.bo (I.length+6) R (crA I.length))])/\(∀u∈us,l u.1=some (.lst (vo u.2)))/\us.map (·.2)=[I.map some++crM I.length nm++[some (.nd false x (I.length+5))],I.map some++wo++[some (.nd false x (I.length+5))]].take (i+1)) (us.map (λu=>Y.tup [.ref u.1,qk (.bo (I.length+6) R (crA I.length))])++[Y.tup [.ref px,qk (.bo (I.length+6) R (crA I.length))]]) L2:=by
      intro wz ez px L2 C g2;refine⟨_,DN _,s'.trans C,us++[(px,I.map some++wz++[some (.nd false x (I.length+5))])],by rw[Ai];rfl,λu m=>?_,by rw[Ai];exact ez⟩;rcases Ao.mp m with m|m
      ·exact C _ _ (hu u m)
      ·rw[Ag.mp m];exact g2
     rcases i with _|_|i
     ·cases hy;exact dD (s' _ _ J) (s' _ _ gm) (by rw[kz];show I.length+6<=500;lia) (step _ (by rw[e];rfl))
     ·cases hy;exact dD (s' _ _ J) (s' _ _ go) (by rw[kz,<-hO];show I.length+6<=500;lia) (step _ (by rw[e];rfl))
     ·cases hy
    ·rintro zs l ⟨s',us,rfl,hu,e⟩ p7 h7;replace e:us.map (·.2)=[I.map some++crM I.length nm++[some (.nd false x (I.length+5))],I.map some++wo++[some (.nd false x (I.length+5))]]:=e;obtain⟨u,v,rfl,e1,e2⟩:=ac3 e;have T1:=(ao.both T (tz I.length) (I.length+6)).1;refine xr (q p7 u.1 v.1 u.2 v.2 _ _ _ ((g.trans s').trans (By h7)) q8 (By h7 _ _ (hu u (Ah ..))) (By h7 _ _ (hu v (Ac _ (Ah ..)))) T1 T1 (.inl λz=>?_));rw[show u.2=_ from e1,show v.2=_ from e2,AU,AU] at z;have z:=List.append_cancel_left z;rw[<-hO] at z;have z:some (Kn.nd false (I.length+1) (I.length+3))=some (.nd false I.length (I.length+3)):=(A4 (A4 (A4 (A4 (A4 z).2).2).2).2).1;injection z with z
     injection z with _ z
     lia
   ·refine⟨λτ l=>∃pm A B wm,∃lw:Nat,τ=[some (.ref a),some (qk R),some (.int n),some (.str nm),none,none,none,some (.ref pe),some (.int (x:Int)),some (.ref pm),some (qk A),some (qk B),some (.int (lw:Int)),none,none,none]/\qh L1 l/\l pm=some (.lst (vo wm))/\wm.length<=10/\Sml I.length A/\Sml I.length B/\(¬(z0 A).Perm (z0 B)\/¬(za A).Perm (za B)),?_,?_⟩
    ·refine⟨(show(0:Int)<5 by decide),jd (λ_=>?_) λ_=>?_⟩
     ·refine⟨a,vo (I.map some),nm,rfl,J,λpm L2 C gm=>?_⟩;rw[oz,kz] at gm ⊢;exact⟨pm,_,_,_,_,rfl,C,gm,Ar rfl,tz _,abv _,agw _⟩
     ·refine⟨⟨by decide,by decide⟩,a,vo (I.map some),nm,_,rfl,J,λpm L2 b c u v C gm hu hv h=>?_⟩;rw[oz,kz] at gm ⊢;exact⟨pm,_,_,_,_,rfl,C,gm,Ar rfl,yZ _ _ hu,yZ _ _ hv,ag7 _ hu hv h⟩
    ·rintro τ L2 ⟨pm,A,B,wm,lw,rfl,C,gm,wl,SA,SB,ne⟩;replace J:=C _ _ J;replace g:=g.trans C;clear C;refine qc J (qc gm ?_);have tail:∀(px:Addr) (L3:qm) (wx:List (Option Kn)) (f:Ru->Ru),qh L2 L3->L3 px=some (.lst (vo wx))->ao (f A)->ao (f B)->Unl wx wx (f A) (f B)->∀p,L3 p=none->gE Q (.ref p) (qg L3 p (.lst ([A,B].map λS=>Y.tup [.ref px,qk (f S)]))):=λpx L3 wx f s3 gx TA TB U p hp=>xr (q p px px wx wx (f A) (f B) _ ((g.trans s3).trans (By hp)) q8 (By hp _ _ gx) (By hp _ _ gx) TA TB U);rw[oz,oz,kz];refine⟨⟨by decide,by decide⟩,(show(0:Int)<2 by decide),jd (λ_=>?_) λ_=>?_⟩
     ·refine dD (u:=x) (v:=lw) J gm (by rw[kz];lia) λpx L3 s3 gx=>?_;intro p4 h4;have s4:=By (o:=.lst [qk A,qk B]) h4;have g4:qg L3 p4 (.lst [qk A,qk B]) p4=some (.lst [qk A,qk B]):=q8;generalize qg L3 p4 (.lst [qk A,qk B])=L4 at s4 g4 ⊢;refine jy g4 λkeep kp=>aV (λi zs=>zs=([A,B].take i).map λS=>Y.tup [.ref px,qk (.bo (I.length+wm.length) R S)]) (wb (Ar rfl)) (kp _ rfl) rfl ?_ ?_
      ·rintro i y zs hy rfl;rcases i with _|_|i
       ·cases hy;exact⟨_,DN _,rfl,rfl⟩
       ·cases hy;exact⟨_,DN _,rfl,rfl⟩
       ·cases hy
      ·rintro zs rfl p5 h5;exact tail px L4 _ (λS=>.bo _ R S) (s3.trans s4) (s4 _ _ gx) (ao.both T SA _).1 (ao.both T SB _).1 (lX ne).1 p5 h5
     ·refine dD (u:=lw) (v:=x) J gm (by rw[kz];lia) λpx L3 s3 gx=>?_;intro p4 h4;have s4:=By (o:=.lst [qk A,qk B]) h4;have g4:qg L3 p4 (.lst [qk A,qk B]) p4=some (.lst [qk A,qk B]):=q8;generalize qg L3 p4 (.lst [qk A,qk B])=L4 at s4 g4 ⊢;refine jy g4 λkeep kp=>aV (λi zs=>zs=([A,B].take i).map λS=>Y.tup [.ref px,qk (.bo (I.length+wm.length) S R)]) (wb (Ar rfl)) (kp _ rfl) rfl ?_ ?_
      ·rintro i y zs hy rfl;rcases i with _|_|i
       ·cases hy;exact⟨_,DN _,rfl,rfl⟩
       ·cases hy;exact⟨_,DN _,rfl,rfl⟩
       ·cases hy
      ·rintro zs rfl p5 h5;exact tail px L4 _ (λS=>.bo _ S R) (s3.trans s4) (s4 _ _ gx) (ao.both T SA _).2 (ao.both T SB _).2 (lX ne).2 p5 h5
structure XF65(K:Ae)(O N b1 b2 b3 b4 b5 b6 b7 b8 b9:Addr):Prop where
 hd:XHd K N
 em:PySem.W.exmOne K (.ref N) (.ref O)=some true
 o1:PySem.W.kitAny K (.ref N) [.ref b1,.ref b2,.ref b3,.ref b4]=some false
 o2:PySem.W.kitAny K (.ref N) [.ref b5,.ref b6,.ref b7,.ref b8,.ref b9]=some false
 on:PySem.W.kitOne K (.ref N) (.ref N)=some true
 ve:PySem.W.kitOne K (.ref N) (.type "ValueError")=some true
theorem XF65.dn{K:Ae}{O N I J U g j l o p r:Addr}(T:K.lookup Pt=some (PySem.W.tabObj #[]))(x:XF65 K O N I J U g j l o p r):XF65 (lessK Pt K) O N I J U g j l o p r:=⟨afp T x.hd,aie T x.em,fY T x.o1,fY T x.o2,dC T x.on,dC T x.ve⟩
theorem agv :∀k:Option Kn,zw L (n+1) (uk k) (cI k)
 |none=>.inl ⟨rfl,rfl⟩
 |some (.lf _ _)=>xo (.cons (DV _) (.cons (DV _) .nil))
 |some (.nd _ _ _)=>xo (.cons (DV _) (.cons (DU _) (.cons (DU _) .nil)))
theorem ph{L:qm}{n:Nat}:∀wd:List (Option Kn),Paired (zw L (n+1)) (vo wd) (wd.map cI)
 |[]=>.nil
 |k::r=>.cons (agv k) (ph r)
theorem eW{A:Ru}(h:L a=some (.lst (vo wd)))(d:jj A<=120):zw L 121 (.tup [.ref a,qk A]) (.tup [.lst (wd.map cI),w9 A]):=xo (.cons (jl (n:=119) h (ph (n:=118) wd)) (.cons (uY d) .nil))
def bT:xm:=λys L Q=>∃a,∃xs:List Y,∃z:Y,ys=[.tup [.ref a,z]]/\L a=some (.lst xs)/\∀p,L p=none->Q (.tup [.ref p,z]) (qg L p (.lst xs))
theorem sQ:∀ys L Q,bT ys L Q->v0 wP 1 ys L Q:=by rintro ys L Q ⟨a,U,z,rfl,I,q⟩;exact qc I λp J=>xr (q p J)
def fq:xm:=λys L Q=>∃a,∃wd:List (Option Kn),∃A:Ru,ys=[.tup [.ref a,qk A]]/\L a=some (.lst (vo wd))/\ao A/\Q (.bl true) L
theorem uj :∀ys L Q,fq ys L Q->v0 (yi (hX C) bT) 2 ys L Q:=by rintro ys L Q ⟨a,I,A,rfl,J,T,q⟩;refine⟨a,_,_,rfl,J,λl h1=>?_⟩;have U:=By (o:=.lst (vo I)) h1;refine⟨a,_,_,rfl,U _ _ J,λr h2=>?_⟩;have g:=By (o:=.lst (vo I)) h2;refine⟨l,r,I,I,A,A,rfl,g _ _ q8,q8,T,T,.inl ⟨rfl,rfl,λp h=>?_⟩⟩;have t:=(U.trans g).trans (By (o:=.lst []) h);refine aed q8 ?_;intro p3 j;refine⟨rfl,rfl,1,1,_,_,by decide,jl (By j _ _ q8) (.nil:Paired (zw _ 0) _ []),jl q8 (.nil:Paired (zw _ 0) _ []),?_⟩;exact cU (t.trans (By j)) q
def dy:xm:=λys L Q=>∃x y,∃wd I:List (Option Kn),∃A B:Ru,ys=[.tup [.ref x,qk A],.tup [.ref y,qk B]]/\L x=some (.lst (vo wd))/\L y=some (.lst (vo I))/\ao A/\ao B/\Unl wd I A B/\Q (.bl true) L
theorem rg{K:Ae}{O N b1 b2 b3 b4 b5 b6 b7 b8 b9:Addr}(xf:XF65 K O N b1 b2 b3 b4 b5 b6 b7 b8 b9):∀ys L Q,dy ys L Q->v0 (uz K O N b1 b2 b3 b4 b5 b6 b7 b8 b9 bT (hX N)) 5 ys L Q:=by rintro ys L Q ⟨x,y,p,I,A,B,rfl,hx,hy,TA,TB,U,q⟩;refine⟨x,_,_,rfl,hx,λg h1=>?_⟩;have J:=By (o:=.lst (vo p)) h1;have g1:qg L g (.lst (vo p)) g=some (.lst (vo p)):=q8;generalize qg L g (.lst (vo p))=L1 at J g1 ⊢;refine⟨y,_,_,rfl,J _ _ hy,λl h2=>?_⟩;have C:=By (o:=.lst (vo I)) h2;have g2:qg L1 l (.lst (vo I)) l=some (.lst (vo I)):=q8;replace g1:=C _ _ g1;replace J:=J.trans C;generalize qg L1 l (.lst (vo I))=L2 at J g1 g2 ⊢;clear C;intro T h3;have r:=By (o:=.lst [.tup [.ref g,qk A],.tup [.ref l,qk B]]) h3;have g3:qg L2 T (.lst [.tup [.ref g,qk A],.tup [.ref l,qk B]]) T=some (.lst [.tup [.ref g,qk A],.tup [.ref l,qk B]]):=q8;replace g1:=r _ _ g1;replace g2:=r _ _ g2;replace J:=J.trans r;generalize qg L2 T (.lst [.tup [.ref g,qk A],.tup [.ref l,qk B]])=L3 at J g1 g2 g3 ⊢;clear r;refine qc g3 (ql (zv (j:=0) rfl) (qc g3 (ql (zv (j:=1) rfl) ?_)));refine⟨g,l,p,I,A,B,rfl,g1,g2,TA,TB,.inr ⟨U,⟨xf.em,λe he=>?_⟩⟩⟩;have s4:=J.trans (By (o:=.exc N) he);refine hV q8 ⟨xf.hd,true,xf.on,?_⟩;refine hV q8 ⟨xf.hd,true,xf.ve,?_⟩;intro p4 h4;have t:=By (o:=.lst [.tup [.ref x,qk A],.tup [.ref y,qk B]]) h4;have t3:=(By (o:=.exc N) he).trans t;have s5:=s4.trans t;have dA:=TA.d;have dB:=TB.d;refine⟨rfl,rfl,122,122,_,_,by decide,jl (t3 _ _ g3) (.cons (eW (t3 _ _ g1) dA) (.cons (eW (t3 _ _ g2) dB) .nil)),jl q8 (.cons (eW (s5 _ _ hx) dA) (.cons (eW (s5 _ _ hy) dB) .nil)),?_⟩;refine cn (show(!((Da.eqs (p.map cI) (p.map cI)&&(Da.eq (w9 A) (w9 A)&&true))&&((Da.eqs (I.map cI) (I.map cI)&&(Da.eq (w9 B) (w9 B)&&true))&&true)))=false by rw[mQ,mQ,kg,kg];rfl) ?_;refine hV (t _ _ q8) ⟨xf.hd,false,xf.o1,?_⟩;refine hV (t _ _ q8) ⟨xf.hd,false,xf.o2,?_⟩;exact cU s5 q
theorem zF :∀ys L Q,mE Pt lamQ ys L Q->v0 (aba (jS Pt) fW fq dy) 6 ys L Q:=by
 rintro ys L Q ⟨t,rfl,a4,hL,q⟩;have hP:L Pt=some (.tb lamQ):=by rw[hL];exact q8
 clear hL;intro p0 J;refine qc q8 ⟨rfl,rfl,small (by rw[Ab];show t.length+1<=1000;lia),λp hp=>?_⟩;obtain⟨c,ec⟩:∃c:Int,dz (t.map Y.int++[Y.int 0]) 0=some (Y.int c):=by cases t with|nil=>exact⟨0,rfl⟩|cons a r=>exact⟨a,zv (j:=0) rfl⟩
 refine qc q8 (ql ec ⟨⟨by decide,by decide,by decide⟩,(by decide:(0:Int)<10 ^ (9:Int).toNat),?_⟩);show qf 1 (Y.int (c % (10:Int) ^ (9:Int).toNat)) _ _ _;have C:=((By (o:=.lst [Y.int 0]) J).trans (By (o:=.lst (t.map Y.int++[Y.int 0])) hp)) _ _ hP;generalize c % (10:Int) ^ (9:Int).toNat=s;generalize qg (qg _ p0 _) p _=L1 at C ⊢;clear hp J ec hP;intro p0 J;refine qc q8 ⟨rfl,rfl,small (by rw[Ab];show t.length+2<=1000;lia),λp hp=>?_⟩;obtain⟨d,ed⟩:∃d:Int,dz (t.map Y.int++[Y.int 0,Y.int 0]) 1=some (Y.int d):=by
  cases t with
  |nil=>exact⟨0,rfl⟩
  |cons a r=>
   cases r with|nil=>exact⟨0,zv (j:=1) rfl⟩|cons b r=>exact⟨b,zv (j:=1) rfl⟩
 refine qc q8 (ql ed ⟨(show(0:Int)<2147483647 by decide),?_⟩);have a1:=((By (o:=.lst [Y.int 0,Y.int 0]) J).trans (By (o:=.lst (t.map Y.int++[Y.int 0,Y.int 0])) hp)) _ _ C;generalize qg (qg _ p0 _) p _=L2 at a1 ⊢;clear hp J ed C;obtain⟨ms,a3,a5⟩:=yW t (some 2) none;intro pm a2;rw[a3];refine⟨pm,ms,s,60,rfl,q8,by lia,by decide,By a2 _ _ a1,λwa ks R E hw T tp=>?_⟩;have gw:qg (qg L2 pm (.lst (ms.map Y.int))) wa (.lst (ja ks)) wa=some (.lst (ja ks)):=q8;generalize qg (qg L2 pm (.lst (ms.map Y.int))) wa (.lst (ja ks))=L3 at gw ⊢;clear hw a2;refine⟨wa,ks,R,E,_,rfl,gw,T,tp,λp x y g I A B L4 s4 l gx gy TA TB U=>?_⟩;simp only[bJ,List.map,List.replicate,List.length,CS,Co];refine⟨λτ L'=>∃p x y g I A B,τ=[some (.sq (t.map Y.int)),some (.int s),some (.int (d % 2147483647)),some (.ref wa),some (qk R),some (.ref p)]/\L' p=some (.lst [.tup [.ref x,qk A],.tup [.ref y,qk B]])/\L' x=some (.lst (vo g))/\L' y=some (.lst (vo I))/\ao A/\ao B/\Unl g I A B,?_,?_⟩
 ·refine⟨⟨by decide,by decide⟩,(show(0:Int)<2 by decide),jd (λ_=>?_) λ_=>?_⟩
  ·refine qc l (ql (zv (j:=1) rfl) (qc l (ql (zv (j:=0) rfl) ?_)));intro p5 h5;have s5:=By (o:=.lst [.tup [.ref y,qk B],.tup [.ref x,qk A]]) h5;refine⟨p5,y,x,I,g,B,A,rfl,q8,s5 _ _ gy,s5 _ _ gx,TB,TA,?_⟩;exact U.imp AW (Or.imp (λh z=>h z.symm) λh z=>h z.symm)
  ·exact⟨p,x,y,g,I,A,B,rfl,l,gx,gy,TA,TB,U⟩
 ·rintro τ L5 ⟨p,x,y,g,I,A,B,rfl,l,gx,gy,TA,TB,U⟩;have U':Unl I g B A:=U.imp AW (Or.imp (λh z=>h z.symm) λh z=>h z.symm);have e0:dz [Y.tup [.ref x,qk A],.tup [.ref y,qk B]] 0=some (.tup [.ref x,qk A]):=zv (j:=0) rfl;have e1:dz [Y.tup [.ref x,qk A],.tup [.ref y,qk B]] 1=some (.tup [.ref y,qk B]):=zv (j:=1) rfl;refine qc l (ql e0 ⟨x,g,A,rfl,gx,TA,?_⟩);refine qc l (ql e0 (qc l (ql e1 ⟨x,y,g,I,A,B,rfl,gx,gy,TA,TB,U,?_⟩)));refine qc l (ql e1 (qc l (ql e0 ⟨y,x,I,g,B,A,rfl,gy,gx,TB,TA,U',?_⟩)));refine qc l (ql e0 ⟨x,g,A,rfl,gx,TA,?_⟩);refine qc l (ql e1 ⟨y,I,B,rfl,gy,TB,?_⟩);exact xr (q _)
end L3
end
set_option maxRecDepth 100000
set_option maxHeartbeats 8000000
namespace K65
open PySem L2 L3 Words
abbrev ng:Str:="_law_knots"
abbrev nh:Str:="_law_two_here"
abbrev ni:Str:="_law_rule"
abbrev nj:Str:="_law_tree_here"
abbrev nq:Str:="_law_word_here"
abbrev nr:Str:="_law_one"
abbrev nt:Str:="_law_seed"
abbrev nu:Str:="_law_name_here"
abbrev nv:Str:="_law_p"
abbrev nw:Str:="_law_forest"
abbrev ny:Str:="_law_number"
abbrev nz:Str:="_law_at"
abbrev nE:Str:="_law_script"
abbrev nF:Str:="_law_cut_twice"
abbrev nG:Str:="_law_right"
abbrev nH:Str:="_law_ends_here"
abbrev nI:Str:="_law_knot"
abbrev nJ:Str:="_law_left"
abbrev nK:Str:="_law_renamed"
abbrev nL:Str:="_law_crossed"
abbrev nM:Str:="_law_refused"
def top(i:Nat):Stmt:=PySem.Challenge.pw_oncewise_k65_other_webs.main.body.getD i (.Pass ⟨0,0,0,0⟩)
theorem aol{us:List Value}{n:Nat}(h:us.length=n+1):∃a r,us=a::r/\r.length=n:=by cases us with|nil=>cases h|cons a r=>exact⟨a,r,rfl,Nat.succ.inj h⟩
abbrev gi:Stmt:=top 19
abbrev lD:Stmt:=top 20
abbrev iu:Stmt:=top 21
abbrev iN:Stmt:=top 24
abbrev qZ:Stmt:=top 25
abbrev pI:Stmt:=top 31
abbrev dZ:Stmt:=top 32
abbrev cL:Stmt:=top 34
abbrev ci:Stmt:=top 36
abbrev gn:Stmt:=top 37
abbrev dX:Stmt:=top 38
abbrev jF:Stmt:=top 40
abbrev gf:Stmt:=top 41
abbrev gh:Stmt:=top 42
abbrev gq:Stmt:=top 43
abbrev dP:Stmt:=top 44
abbrev db:Stmt:=top 45
abbrev gT:Stmt:=top 46
abbrev gr:Stmt:=top 47
abbrev jD:Stmt:=top 48
abbrev s__law_order:Stmt:=top 49
abbrev fE:Stmt:=top 50
abbrev cb:Stmt:=top 51
abbrev gb:Stmt:=top 52
abbrev gZ:Stmt:=top 53
abbrev g8:Stmt:=top 54
abbrev ce:Stmt:=top 55
abbrev az:Stmt:=top 56
abbrev jT:Stmt:=top 57
abbrev gU:Stmt:=top 58
abbrev cw:Stmt:=top 59
abbrev jL:Stmt:=top 60
abbrev qU:Stmt:=top 61
structure V_ where
 (P:Program) (w:World) (K:Ae) (mg:Str->Option Value) (base:Heap) (Pt:Addr) (Ca Cb Cg Ce Cj Cd Cf Ci Cc Ck Ch:Addr)
structure B_(V:V_):Prop where
 hp:∃h:Heap,V.K.In h/\h.Ns mainGlobals V.mg
 bc:V.mg "list"=none
 bh:V.mg "sorted"=none
 ba:V.mg "len"=none
 bg:V.mg "enumerate"=none
 bf:V.mg "range"=none
 bi:V.mg "max"=none
 bp:V.mg "min"=none
 bd:V.mg "isinstance"=none
 bn:V.mg "int"=none
 bj:V.mg "tuple"=none
 b_ValueError:V.mg "ValueError"=none
 D0:zb V.K "places_of" gi
 D1:zb V.K "arms_of" lD
 D2:zb V.K "rules_in" iu
 D3:zb V.K "pairs_by" iN
 D4:zb V.K "web_of" qZ
 D5:zb V.K "arm_at" pI
 D6:zb V.K "rules_along" dZ
 D7:zb V.K "rules_by_way" cL
 D8:zb V.K "is_same_rule" ci
 D9:zb V.K "steps_out" gn
 D10:zb V.K "way_between" dX
 D11:zb V.K "_law_mix" jF
 D12:zb V.K "_law_name" gf
 D13:zb V.K "_law_word" gh
 D14:zb V.K "_law_flip" gq
 D15:zb V.K "_law_weight" dP
 D16:zb V.K "_law_mirror" db
 D17:zb V.K "_law_join" gT
 D18:zb V.K "_law_fold" gr
 D19:zb V.K "_law_cut" jD
 D20:DefInT V.K "_law_order" s__law_order V.Pt
 D21:zb V.K "_law_moved" fE
 D22:zb V.K nK cb
 D23:zb V.K "_law_tree" gb
 D24:zb V.K "_law_arms" gZ
 D25:zb V.K "_law_ends" g8
 D26:zb V.K nL ce
 D27:zb V.K nF az
 D28:zb V.K "_law_two" jT
 D29:zb V.K "_law_copy" gU
 D30:zb V.K nM cw
 D31:zb V.K "_law_own" jL
 i_PLACE_COUNTS:akx ⟨V.K,V.P,V.w⟩ V.mg "PLACE_COUNTS" aM
 md:V.mg "NoExchange"=some (.ref V.Ca)
 mf:V.mg "OtherWeb"=some (.ref V.Cb)
 mv:V.mg "OnceError"=some (.ref V.Cg)
 mn:V.mg "BadChoices"=some (.ref V.Ce)
 mm:V.mg "BadText"=some (.ref V.Cj)
 mi:V.mg "BadTree"=some (.ref V.Cd)
 mz:V.mg "BadWeb"=some (.ref V.Cf)
 mh:V.mg "NoCut"=some (.ref V.Ci)
 mx:V.mg "NoTree"=some (.ref V.Cc)
 mj:V.mg "NoWord"=some (.ref V.Ck)
 my:V.mg "TooMany"=some (.ref V.Ch)
 x_NoExchange:uU V.K V.Ca
 x_OtherWeb:uU V.K V.Cb
 xf:L3.XF65 V.K V.Cg V.Cb V.Ce V.Cj V.Cd V.Cf V.Ci V.Ca V.Cc V.Ck V.Ch
abbrev Q_(V:V_)(k:Nat)(x:Str)(ps:List Str)(sp:xm):Prop:=aic V.P V.w V.K V.mg V.base k x ps sp
abbrev c0(_:V_):Prop:=True
local macro_rules|`(tactic| walk_at "s")=>`(tactic| exact⟨rfl,rfl,rfl,by decide +kernel,rfl,by decide +kernel,by decide +kernel⟩)
local macro_rules|`(tactic| walk_at "l")=>`(tactic| first|(rintro _ _ _ ⟨_,e,_⟩;rw[e];rfl)|(rintro _ _ _ ⟨_,_,e,_⟩;rw[e];rfl)|(rintro _ _ _ ⟨_,_,_,e,_⟩;rw[e];rfl)|(rintro _ _ _ ⟨_,_,_,_,e,_⟩;rw[e];rfl)|(rintro _ _ _ ⟨_,_,_,_,_,e,_⟩;rw[e];rfl)|(rintro _ _ _ ⟨_,_,_,_,_,_,e,_⟩;rw[e];rfl)|(rintro _ _ _ ⟨_,_,_,_,_,_,_,e,_⟩;rw[e];rfl)|(rintro _ _ _ ⟨_,_,_,_,_,_,_,_,_,e,_⟩;rw[e];rfl))
local macro_rules|`(tactic| walk_at "x")=>`(tactic| (intro _;walk_at "l"))
local macro_rules|`(tactic| walk_at "b")=>`(tactic| (intro _ _ _ _ _ _ us hl;(repeat (obtain⟨_,_,e,h⟩:=aol hl;clear hl;subst e;have hl:=h;clear h));cases List.eq_nil_of_length_eq_zero hl;rfl))
section
variable {f:Addr}{fd:FuncData}{x q:Str}{st:Stmt}{ps:List Str}(V:V_)(k:Nat)(N:List Str)
theorem W_{sp:xm}{t:ke}(F:Fun V.K x q st f fd)(U:∀ys L Q,sp ys L Q->v0 t N.length ys L Q)(h:∀(g7:Value) (A:Around) (outer:List Env) (s:Shared) (H:Hp) (E:XK),k8 k (A.deeper (PyProof.Rows.envOfC q (qr st) s.heap.objs.size f g7))->N.Nodup->(A.deeper (PyProof.Rows.envOfC q (qr st) s.heap.objs.size f g7)).units+128<cLine->mF (bq CX0 V.P V.w V.K V.mg V.base N q (qr st) f g7 A outer s H E).nox (je st) t)(I:kn N ps (qr st):=by walk_at "s")(len:∀ys L Q,sp ys L Q->ys.length=ps.length:=by walk_at "l"):Fn3 V.P V.w V.K V.mg V.base (k+1) f fd ps sp:=
 ok3 F I len λg7 A outer s H E J=>⟨t,h g7 A outer s H E J I.nd (huK J),U⟩
theorem M_{sp:xm}{t:ke}(I:∃h:Heap,V.K.In h/\h.Ns mainGlobals V.mg)(D:zb V.K x st)(J:∀ys L Q,sp ys L Q->v0 t N.length ys L Q)(h:∀f,∀(g7:Value) (A:Around) (outer:List Env) (s:Shared) (H:Hp) (E:XK),k8 k (A.deeper (PyProof.Rows.envOfC x (qr st) s.heap.objs.size f g7))->N.Nodup->(A.deeper (PyProof.Rows.envOfC x (qr st) s.heap.objs.size f g7)).units+128<cLine->mF (bq CX0 V.P V.w V.K V.mg V.base N x (qr st) f g7 A outer s H E).nox (je st) t)(U:kn N ps (qr st):=by walk_at "s")(len:∀ys L Q,sp ys L Q->ys.length=ps.length:=by walk_at "l")(g:∀(kV nC pm:Value) (an:Option Addr) (g7 ct:Value) (us:List Value),us.length=ps.length->bindArgs (PySem.W.fnOf x x (xh st) (je st) (qr st) .none kV nC pm an g7 ct) ⟨us,[]⟩=pure (ps.zip us):=by walk_at "b"):Q_ V (k+1) x ps sp:=by obtain⟨_,X,G⟩:=I;obtain⟨f,fd,F,b,m⟩:=D.use X G g;exact wT.of (W_ V k N F J (h f) U len) b F.kp m
theorem R_{sp:Nat->xm}{t:Nat->ke}(I:∃h:Heap,V.K.In h/\h.Ns mainGlobals V.mg)(D:zb V.K x st)(no:∀ys L Q,¬sp 0 ys L Q)(J:∀n ys L Q,sp (n+1) ys L Q->v0 (t n) N.length ys L Q)(h:∀n f,Q_ V (n+k) x ps (sp n)->∀(g7:Value) (A:Around) (outer:List Env) (s:Shared) (H:Hp) (E:XK),k8 (n+k) (A.deeper (PyProof.Rows.envOfC x (qr st) s.heap.objs.size f g7))->N.Nodup->(A.deeper (PyProof.Rows.envOfC x (qr st) s.heap.objs.size f g7)).units+128<cLine->mF (bq CX0 V.P V.w V.K V.mg V.base N x (qr st) f g7 A outer s H E).nox (je st) (t n))(n:Nat)(U:kn N ps (qr st):=by walk_at "s")(len:∀n ys L Q,sp n ys L Q->ys.length=ps.length:=by walk_at "x")(g:∀(kV nC pm:Value) (an:Option Addr) (g7 ct:Value) (us:List Value),us.length=ps.length->bindArgs (PySem.W.fnOf x x (xh st) (je st) (qr st) .none kV nC pm an g7 ct) ⟨us,[]⟩=pure (ps.zip us):=by walk_at "b"):Q_ V (n+k) x ps (sp n):=by
 obtain⟨_,X,G⟩:=I;obtain⟨f,fd,F,b,m⟩:=D.use X G g
 induction n with|zero=>exact wT.of (Fn3.never no) b F.kp m|succ n j=>rw[Nat.add_right_comm];exact wT.of (W_ V (n+k) N F (J n) (h n f j) U (len _)) b F.kp m
theorem X_{sp:dN}{t:X3->ke}(U:∃h:Heap,V.K.In h/\h.Ns mainGlobals V.mg)(D:zb V.K x st)(g:∀ys L Q E,sp ys L Q E->v0 (t (pO E)) N.length ys L Q)(h:∀f,∀(g7:Value) (A:Around) (outer:List Env) (s:Shared) (H:Hp) (E:XK) (E3:X3),k8 k (A.deeper (PyProof.Rows.envOfC x (qr st) s.heap.objs.size f g7))->a6 (bq (yn V.P V.w) V.P V.w V.K V.mg V.base N x (qr st) f g7 A outer s H E) (upX ⟨V.K,V.P,V.w⟩ E3)->N.Nodup->(A.deeper (PyProof.Rows.envOfC x (qr st) s.heap.objs.size f g7)).units+128<cLine->mF (bq (yn V.P V.w) V.P V.w V.K V.mg V.base N x (qr st) f g7 A outer s H E) (je st) (t E3))(I:kn N ps (qr st):=by walk_at "s")(len:∀ys L Q E,sp ys L Q E->ys.length=ps.length:=by walk_at "x")(j:∀(kV nC pm:Value) (an:Option Addr) (g7 ct:Value) (us:List Value),us.length=ps.length->bindArgs (PySem.W.fnOf x x (xh st) (je st) (qr st) .none kV nC pm an g7 ct) ⟨us,[]⟩=pure (ps.zip us):=by walk_at "b"):fI V.P V.w V.K V.mg V.base (k+1) x ps sp:=by obtain⟨_,X,G⟩:=U;obtain⟨f,fd,F,b,m⟩:=D.use X G j;exact⟨_,_,anq F I len (λg7 A outer s H E E3 J l=>h f g7 A outer s H E E3 J l I.nd (huK J)) g,b,F.kp,m⟩
theorem T_{sp:xm}{t:ke}(U:∃h:Heap,V.K.In h/\h.Ns mainGlobals V.mg)(D:DefInT V.K x st V.Pt)(g:∀ys L Q,sp ys L Q->v0 t N.length ys L Q)(h:∀f,∀(g7:Value) (A:Around) (outer:List Env) (s:Shared) (H:Hp) (E:XK),u5 V.K g7 V.Pt->k8 k (A.deeper (PyProof.Rows.envOfC x (qr st) s.heap.objs.size f g7))->N.Nodup->(A.deeper (PyProof.Rows.envOfC x (qr st) s.heap.objs.size f g7)).units+128<cLine->mF (bq CX0 V.P V.w V.K V.mg V.base N x (qr st) f g7 A outer s H E).nox (je st) t)(I:kn N ps (qr st):=by walk_at "s")(len:∀ys L Q,sp ys L Q->ys.length=ps.length:=by walk_at "l")(j:∀(kV nC pm:Value) (an:Option Addr) (g7 ct:Value) (us:List Value),us.length=ps.length->bindArgs (PySem.W.fnOf x x (xh st) (je st) (qr st) .none kV nC pm an g7 ct) ⟨us,[]⟩=pure (ps.zip us):=by walk_at "b"):Q_ V (k+1) x ps sp:=by obtain⟨_,X,G⟩:=U;obtain⟨f,fd,F,b,m⟩:=D.use X G j;exact wT.of (ao3 F I len λg7 A outer s H E C J=>⟨t,h f g7 A outer s H E C J I.nd (huK J),g⟩) b F.kp m
end
theorem I_{X:Cx}{a b:Expr}{ta tb:x6}{pos:Pos}(I:QE X a ta)(J:QE X b tb)(U:iM b:=by exactλ_ _=>rfl):QE X (.Subscript a b pos) (zc cJ ta tb):=ajs (ajr X.K X.prog X.w) I J U
theorem xb{X:Cx}{e:Expr}{t:x6}(h:QE X e t)(s:starEach [e] X.env=[(false,eval e X.env)]:=by rfl):QA X [e] (q9 t qu):=j9 h vq s
theorem xj{X:Cx}{e f:Expr}{t u:x6}(h:QE X e t)(g:QE X f u)(s:starEach [e,f] X.env=[(false,eval e X.env),(false,eval f X.env)]:=by rfl)(r:starEach [f] X.env=[(false,eval f X.env)]:=by rfl):QA X [e,f] (q9 t (q9 u qu)):=j9 h (xb g r) (by show _=_;rw[s,r])
theorem vt{X:Cx}{e f d:Expr}{t u v:x6}(h:QE X e t)(g:QE X f u)(i:QE X d v)(s:starEach [e,f,d] X.env=[(false,eval e X.env),(false,eval f X.env),(false,eval d X.env)]:=by rfl)(r:starEach [f,d] X.env=[(false,eval f X.env),(false,eval d X.env)]:=by rfl)(q:starEach [d] X.env=[(false,eval d X.env)]:=by rfl):QA X [e,f,d] (q9 t (q9 u (q9 v qu))):=j9 h (xj g i r q) (by show _=_;rw[s,r])
theorem E_{X:Cx}{a b:Expr}{ta tb:x6}{pos:Pos}(I:X.A.units+128<cLine)(J:QE X a ta)(U:QE X b tb):QT X (.Compare a [.Eq] [b] pos) (yB (zc (vW false) ta tb)):=vk (uG X.K X.prog X.w I) J U (we _)
theorem N_{X:Cx}{a b:Expr}{ta tb:x6}{pos:Pos}(I:X.A.units+128<cLine)(J:QE X a ta)(U:QE X b tb):QT X (.Compare a [.NotEq] [b] pos) (yB (zc (vW true) ta tb)):=vk (alf X.K X.prog X.w I) J U (we _)
theorem S_{X:Cx}{x:Str}{e:Expr}{te:x6}{pos ir:Pos}(i:Nat)(g:X.N.Nodup)(h:QE X e te)(I:X.N[i]?=some x:=by rfl)(j:xR X.env.scope x:=by exact Or.inl rfl)(J:swapsWith e (some (.Name x ir)) pos.line X.env=pure false:=by rfl)(U:X.fn x=true\/X.env.scope.names.lookup x=some .local:=by first|exact .inl rfl|exact .inr rfl|assumption):QS X (.Assign [.Name x ir] e pos) (zk te (qf i)):=vn (i:=i) g I j h J U
theorem G_{X:Cx}{x:Str}{pos:Pos}(i:Nat)(U:X.N.Nodup)(I:X.N[i]?=some x:=by rfl)(g:xR X.env.scope x:=by exact Or.inl rfl)(J:X.fn x=true\/X.env.scope.names.lookup x=some .local:=by first|exact .inl rfl|exact .inr rfl|assumption):QG X (.Name x pos) (qf i):=kj (i:=i) U I g J
theorem C_{X:Cx}{e:Expr}{es:List Expr}{tr:dM}{pos p:Pos}{j k:Nat}{x:Str}{ps:List Str}{sp:xm}(c:aic X.prog X.w X.K X.mg X.base j x ps sp)(U:k8 k X.A)(g:QA X (e::es) tr)(l:j<=k:=by first|decide|exact Al _|exact AI (by decide) (DJ _ _))(o:Gl X x:=by rfl)(I:Ed x:=by decide)(r:Eb e es X:=by rfl)(J:Ec pos es X:=by rfl):QE X (.Call (.Name x p) (e::es) [] pos) (zf sp tr):=aoy (wT.mono c l) U o g I r J
theorem J_{X:Cx}{x:Str}{n:Int}{k:Nat}{p q pos:Pos}(i:Nat)(I:X.N[i]?=some x:=by rfl)(J:Vis X.env.scope x:=by first|exact Or.inl rfl|exact Or.inr (Or.inl rfl)|exact Or.inr (Or.inr rfl))(hd:Ed x:=by decide)(hc:Ee x:=by decide):QE X (.Subscript (.Name x p) (.Constant (.int n) k q) pos) (zc cJ (qa i) (yC (.int n))):=I_ (qv i I J hd hc) qe (λ_ _=>rfl)
theorem L_{X:Cx}{e:Expr}{t:x6}{p pos:Pos}(I:X.mg "len"=none)(h:QE X e t)(s:starEach [e] X.env=[(false,eval e X.env)]:=by rfl)(J:Gl X "len" := by rfl):QE X (.Call (.Name "len" p) [e] [] pos) (lK kH (q9 t qu)):=cr (ai3 X.K X.prog X.w) J I agz (xb h s) (hs:=s)
theorem rC{l:List Str}(h:decide l.Nodup=true:=by kernel_rfl):l.Nodup:=of_decide_eq_true h
abbrev c1(V:V_):Prop:=c0 V/\Q_ V 1 "places_of" ["rule"] (oA)
theorem d1(V:V_)(B:B_ V)(c:c0 V):c1 V:=⟨c,M_ V 0 ["rule"] B.hp B.D0 adb λ_ _ _ _ _ _ _ I J U=>(qi (ze (bK cY rfl B.bc bV (xb (xx (o4 _ _ _) (qv 0) (vg qe) (vg (qj z8 qe (qY B.i_PLACE_COUNTS rfl (J_ 0) (λ_ _=>rfl)))))))))⟩
abbrev c2(V:V_):Prop:=c1 V/\Q_ V 1 "arms_of" ["rule"] (wq)
theorem d2(V:V_)(B:B_ V)(c:c1 V):c2 V:=⟨c,M_ V 0 ["rule"] B.hp B.D1 vQ λ_ _ _ _ _ _ _ I J U=>(qi (ze (bK cY rfl B.bc bV (xb (xx (o4 _ _ _) (qv 0) (vg (qj z8 qe (qY B.i_PLACE_COUNTS rfl (J_ 0) (λ_ _=>rfl)))) ww)))))⟩
abbrev c3(V:V_):Prop:=c2 V/\Q_ V 122 "rules_in" ["rule"] (aY 120)
theorem d3(V:V_)(B:B_ V)(c:c2 V):c3 V:=⟨c,R_ V 2 ["rule","rules","arm"] B.hp B.D2 yL rb (λ_ _ I _ _ _ _ _ _ J U g=>(qb (S_ 1 U (z7 (xb (qv 0)))) (qb (am DT rfl (xl (C_ c.2 J (xb (qv 0)))) (G_ 2 U) (qi (zj (dG (qv 1) (xb (C_ I J (xb (qv 2)))))))) (qi (ze (qv 1)))))) 120⟩
abbrev c4(V:V_):Prop:=c3 V/\Q_ V 1 "pairs_by" ["rules","kind"] (bQ)
theorem d4(V:V_)(B:B_ V)(c:c3 V):c4 V:=⟨c,M_ V 0 ["rules","kind"] B.hp B.D3 mV λ_ _ _ _ _ _ _ J U I=>(qi (ze (cr aec rfl B.bh uL (xb (fP ["rule"] (DY (by rfl)) rfl (xl (qv 0)) (xp rC (λ_ _ _ _=>Or.inl rfl) (λ_ _ _ _=>rfl)) (λ_ _ _ _=>dh (E_ I (J_ 2) (qv 1))) (λ_ _ _ _=>(qo (xj (J_ 2) (J_ 2)))))))))⟩
abbrev c5(V:V_):Prop:=c4 V/\Q_ V 123 "web_of" ["tree"] (iA)
theorem d5(V:V_)(B:B_ V)(c:c4 V):c5 V:=⟨c,M_ V 122 ["tree","rules"] B.hp B.D4 aen λ_ _ _ _ _ _ _ I J U=>(qb (S_ 1 J (C_ c.1.2 I (xb (J_ 0)))) (qi (ze (qo (vt (bK cY rfl B.bc bV (xb (J_ 0))) (C_ c.2 I (xj (qv 1) qx)) (C_ c.2 I (xj (qv 1) qx)))))))⟩
abbrev c6(V:V_):Prop:=c5 V/\fI V.P V.w V.K V.mg V.base 2 "arm_at" ["rule","number"] (eJ V.Ca)
theorem d6(V:V_)(B:B_ V)(c:c5 V):c6 V:=⟨c,X_ V 1 ["rule","number","arms"] (t:=(λI=>oy V.Ca I (wq))) B.hp B.D5 zO λ_ _ _ _ _ _ _ _ J U g j=>(qb (S_ 2 g (C_ c.1.1.1.2 J (xb (qv 0)))) (qb (jp (gC (zZ qe (uu an6 (qv 1) (vH zY (L_ B.ba (qv 2)))))) (qi (pW B.x_NoExchange rfl B.md rfl U rfl (xb qx))) jb) (qi (ze (I_ (qv 2) (qv 1))))))⟩
abbrev c7(V:V_):Prop:=c6 V/\fI V.P V.w V.K V.mg V.base 3 "rules_along" ["rule","way"] (i3 V.Ca)
theorem d7(V:V_)(B:B_ V)(c:c6 V):c7 V:=⟨c,X_ V 2 ["rule","way","along","number"] (t:=(λJ=>dW J (eJ V.Ca))) B.hp B.D6 aa4 λ_ _ _ _ _ _ _ _ U g I j=>(qb (S_ 2 I (z7 (xb (qv 0)))) (qb (am PassesOwn.leaving rfl (xl (qv 1)) (G_ 3 I) (qi (zj (zg (qv 2) (xb (y8 (c.2.mono (by decide)) U rfl g rfl (xj (I_ (qv 2) (t7 tX qe)) (qv 3)))))))) (qi (ze (qv 2)))))⟩
abbrev c8(V:V_):Prop:=c7 V/\Q_ V 2 "rules_by_way" ["rule"] (fA)
theorem d8(V:V_)(B:B_ V)(c:c7 V):c8 V:=⟨c,M_ V 1 ["rule","found","due","here","behind"] B.hp B.D7 ae9 λ_ _ _ _ _ _ _ J I U=>(qb (S_ 1 I (z7 vq)) (qb (S_ 2 I (z7 (xb (qo (xj (z7 vq) (qv 0)))))) (qb (iQ DT (N_ U (qv 2) (z7 vq)) (qb (vn (i:=3) I rfl (Or.inr rfl) (yk (qv 2))) (qb (zj (zg (qv 1) (xb (qv 3)))) (qb (aw ["number","arm" ] (i:=4) I rfl (Or.inl rfl) (DY (by rfl)) rfl (mH rfl B.bg (C_ c.1.1.1.1.1.2 J (xb (J_ 3)))) (tL rfl rC (λ_ _ _ _=>rfl) (λ_ _ _ _=>rfl)) (λ_ _ _ _=>cZ) (λ_ _ _ _=>(qo (xj (qj z8 (J_ 3) (z7 (xb (qv 5)))) (qv 6))))) (qb (zj (rT (qv 4))) (qi (zj (dG (qv 2) (xb (qv 4)))))))))) (qi (ze (qv 1))))))⟩
abbrev c9(V:V_):Prop:=c8 V/\Q_ V 2 "is_same_rule" ["rule","other"] (iT)
theorem d9(V:V_)(B:B_ V)(c:c8 V):c9 V:=⟨c,M_ V 1 ["rule","other"] B.hp B.D8 aaf λ_ _ _ _ _ _ _ I U J=>(qi (ze (sH (oF (uG _ _ _ J) (J_ 0) (J_ 1) (we _)) (sO (oF (uG _ _ _ J) (C_ c.1.1.1.1.1.1.1.2 I (xb (qv 0))) (C_ c.1.1.1.1.1.1.1.2 I (xb (qv 1))) (we _))))))⟩
abbrev fF(V:V_):Prop:=c9 V/\Q_ V 4 "steps_out" ["tree","way","rule"] (dE)
theorem d10(V:V_)(B:B_ V)(c:c9 V):fF V:=⟨c,M_ V 3 ["tree","way","rule","within","inner"] B.hp B.D9 uR λ_ _ _ _ _ _ _ I J U=>(qb (S_ 3 J (C_ c.1.2 I (xb (I_ (y8 (c.1.1.2.mono (by decide)) I rfl zS rfl (xj (J_ 0) (qv 1))) (t7 tX qe))))) (qb (vn (i:=4) J rfl (Or.inr rfl) (I_ (fP ["path","found" ] (DY (by rfl)) rfl (xl (qv 3)) (tL rfl rC (λ_ _ _ _=>rfl) (λ_ _ _ _=>rfl)) (λ_ _ _ _=>dh (bY (C_ c.2 I (xj (qv 6) (qv 2))))) (λ_ _ _ _=>(qv 5))) qe)) (qi (ze (fP ["at"] (DY (by rfl)) rfl (wF rfl B.bf (vt (qj bF (L_ B.ba (qv 4)) qe) (t7 tX qe) (t7 tX qe))) (xp rC (λ_ _ _ _=>Or.inl rfl) (λ_ _ _ _=>rfl)) (λ_ _ _ _=>cZ) (λ_ _ _ _=>(qo (xj (qj z8 (qv 1) (xx (ie _ _ _) (qv 4) ww (vg (qv 5)))) (I_ (qv 4) (qv 5))))))))))⟩
abbrev c11(V:V_):Prop:=fF V/\fI V.P V.w V.K V.mg V.base 124 "way_between" ["tree","other"] (hX V.Cb)
theorem d11(V:V_)(B:B_ V)(c:fF V):c11 V:=⟨c,X_ V 123 ["tree","other","here","pairs","way","rule","step"] (t:=(λU=>zD V.Cb U (iA) (fA) (dE))) B.hp B.D10 acp λ_ _ _ _ _ _ _ _ J g I j=>(qb (jp (N_ j (C_ c.1.1.1.1.1.2 J (xb (qv 0))) (C_ c.1.1.1.1.1.2 J (xb (qv 1)))) (qi (pW B.x_OtherWeb rfl B.mf rfl g rfl (xb qx))) jb) (qb (S_ 2 I (qv 0)) (qb (S_ 3 I (z7 vq)) (qb (am PassesOwn.leaving rfl (xl (C_ c.1.1.2 J (xb (J_ 1)))) (aj rfl (zh (G_ 4 I) (zh (G_ 5 I) km))) (qi (am PassesOwn.leaving rfl (xl (C_ c.2 J (vt (qv 2) (qv 4) (qv 5)))) (G_ 6 I) (qb aag (qi (zj (zg (qv 3) (xb (qv 6))))))))) (qi (ze (qv 3)))))))⟩
abbrev c12(V:V_):Prop:=c11 V/\Q_ V 1 "_law_mix" ["_law_cell","_law_k","_law_factor"] (oG)
theorem d12(V:V_)(B:B_ V)(c:c11 V):c12 V:=⟨c,M_ V 0 ["_law_cell","_law_k","_law_factor"] B.hp B.D11 ag5 λ_ _ _ _ _ _ _ I J U=>(qi (ze (qj vj (qj js (qj qQ (qj z8 (qj z8 (qj qQ (qj js (qv 0) qe) qe) (qj qQ (qv 1) (qv 1))) qe) (qv 2)) qe) qe)))⟩
abbrev c13(V:V_):Prop:=c12 V/\Q_ V 1 "_law_name" [nt,"_law_which"] (ij)
theorem d13(V:V_)(B:B_ V)(c:c12 V):c13 V:=⟨c,M_ V 0 [nt,"_law_which","_law_letters","_law_size","_law_place","_law_base","_law_sign"] B.hp B.D12 ym λ_ _ _ _ _ _ _ U I J=>(qb (vn (i:=2) I rfl (Or.inr rfl) qx) (qb (S_ 3 I (qj z8 qe (qj js (qv 0) qe))) (qb (S_ 4 I (qj js (qj vj (qv 0) qe) (qv 3))) (qb (S_ 5 I (abu qx (xb (fP ["_law_k"] (DY (by rfl)) rfl (lB rfl B.bf (xb qe)) (xp rC (λ_ _ _ _=>Or.inl rfl) (λ_ _ _ _=>rfl)) (λ_ _ _ _=>cZ) (λ_ _ _ _=>(I_ (qv 2) (qj js (qj z8 (qj vj (qv 0) qe) (qj qQ qe (qv 7))) qe))))))) (qb (jp (E_ J (qj js (qj vj (qv 0) qe) qe) qe) (qi (ze (xx (ie _ _ _) (qv 5) ww (vg (qj z8 qe (qj js (qj z8 (qv 1) (qv 0)) qe)))))) jb) (qb (S_ 6 I (I_ (qv 2) (qj js (qj z8 (qj z8 (qj vj (qv 0) qe) (qj qQ qe (qv 4))) (qv 1)) qe))) (qi (ze (qj z8 (qj z8 (xx (ie _ _ _) (qv 5) ww (vg (qv 4))) (qv 6)) (xx (ie _ _ _) (qv 5) (vg (qj z8 (qv 4) qe)) (vg (qv 3))))))))))))⟩
abbrev c14(V:V_):Prop:=c13 V/\Q_ V 121 "_law_word" [ng,nv] (wg 120)
theorem d14(V:V_)(B:B_ V)(c:c13 V):c14 V:=⟨c,R_ V 1 [ng,nv,nI] B.hp B.D13 nW pq (λ_ _ I _ _ _ _ _ _ J U g=>(qb (S_ 2 U (I_ (qv 0) (qv 1))) (qb (jp (E_ g (L_ B.ba (qv 2)) qe) (qi (ze (qv 2))) jb) (qi (ze (qo (vt (J_ 2) (C_ I J (xj (qv 0) (J_ 2))) (C_ I J (xj (qv 0) (J_ 2)))))))))) 120⟩
abbrev c15(V:V_):Prop:=c14 V/\Q_ V 121 "_law_flip" [nq] (bN 120)
theorem d15(V:V_)(B:B_ V)(c:c14 V):c15 V:=⟨c,R_ V 1 [nq,"_law_sides"] B.hp B.D14 xF xH (λ_ _ I _ _ _ _ _ _ J U g=>(qb (S_ 1 U (abq [ ("plain" ,"turned") ,("turned" ,"plain") ,("both" ,"either") ,("either" ,"both") ] (eY bR bR (eY bR bR (eY bR bR (eY bR bR ack)))) rfl rfl (List.cons_ne_nil _ _) (Ar rfl))) (qb (jp (E_ g (L_ B.ba (qv 0)) qe) (qi (ze (qo (xj (I_ (qv 1) (J_ 0)) (J_ 0))))) jb) (qi (ze (qo (vt (I_ (qv 1) (J_ 0)) (C_ I J (xb (J_ 0))) (C_ I J (xb (J_ 0)))))))))) 120⟩
abbrev c16(V:V_):Prop:=c15 V/\Q_ V 121 "_law_weight" [nq] (bB 120)
theorem d16(V:V_)(B:B_ V)(c:c15 V):c16 V:=⟨c,R_ V 1 [nq] B.hp B.D15 ip u4 (λ_ _ I _ _ _ _ _ _ J g U=>(qb (jp (E_ U (L_ B.ba (qv 0)) qe) (qi (ze qe)) jb) (qi (ze (qj z8 (qj z8 qe (C_ I J (xb (J_ 0)))) (C_ I J (xb (J_ 0)))))))) 120⟩
abbrev c17(V:V_):Prop:=c16 V/\Q_ V 127 "_law_mirror" [ng,nq] (bL 5)
theorem d17(V:V_)(B:B_ V)(c:c16 V):c17 V:=⟨c,R_ V 122 [ng,nq,nJ,nG,"_law_turn","_law_same","_law_low","_law_high"] B.hp B.D16 vS wG (λ_ _ I _ _ _ _ _ _ U J g=>(qb (jp (E_ g (L_ B.ba (qv 1)) qe) (qb (zj (zg (qv 0) (xb (C_ c.1.2 U (xb (qv 1)))))) (qb (zj (zg (qv 0) (xb (qv 1)))) (qi (ze (z7 (vt (qo (vt qx (qj bF (L_ B.ba (qv 0)) qe) (qj bF (L_ B.ba (qv 0)) qe))) (qj bF (L_ B.ba (qv 0)) qe) (qj bF (L_ B.ba (qv 0)) qe))))))) jb) (qb (S_ 2 J (C_ I U (xj (qv 0) (J_ 1)))) (qb (S_ 3 J (C_ I U (xj (qv 0) (J_ 1)))) (qb (zj (zg (qv 0) (xb (qo (vt (I_ (C_ c.1.2 U (xb (qv 1))) qe) (J_ 2) (J_ 3)))))) (qb (zj (zg (qv 0) (xb (qo (vt (J_ 1) (J_ 2) (J_ 3)))))) (qb (yV (i:=4) (j:=5) rfl J rfl rfl (by decide) rfl rfl (xj (qj bF (L_ B.ba (qv 0)) qe) (qj bF (L_ B.ba (qv 0)) qe)) rfl) (qb (S_ 6 J (jC (E_ g (J_ 1) qx) (qv 4) (qv 5))) (qb (S_ 7 J (jC (E_ g (J_ 1) qx) (qv 5) (qv 4))) (qi (ze (z7 (vt (qo (vt qx (qv 7) (qo (j9 qx (vt (qv 6) (J_ 2) (J_ 3)))))) (qv 4) (qv 5)))))))))))))) 5⟩
abbrev c18(V:V_):Prop:=c17 V/\Q_ V 1 "_law_join" [ng,nw,nr,nh] (lv)
theorem d18(V:V_)(B:B_ V)(c:c17 V):c18 V:=⟨c,M_ V 0 [ng,nw,nr,nh,"_law_first","_law_second",nJ,nG,nH] B.hp B.D17 abk λ_ _ _ _ _ _ _ J I U=>(qb (S_ 4 I (bC (qv 1) (xb (qj js (qv 3) (L_ B.ba (qv 1)))))) (qb (S_ 5 I (bC (qv 1) (xb (qj js (qv 2) (L_ B.ba (qv 1)))))) (qb (vn (i:=6) I rfl (Or.inr rfl) (I_ (J_ 4) (qj js (qj vj (qv 3) qe) (L_ B.ba (J_ 4))))) (qb (vn (i:=7) I rfl (Or.inr rfl) (I_ (J_ 5) (qj js (qj vj (qv 2) qe) (L_ B.ba (J_ 5))))) (qb (zj (zg (qv 0) (xb (qo (vt qx (qv 6) (qv 7)))))) (qb (aw [nv] (i:=8) I rfl (Or.inl rfl) (DY (by rfl)) rfl (xl (qj z8 (J_ 4) (J_ 5))) (xp rC (λ_ _ _ _=>Or.inl rfl) (λ_ _ _ _=>rfl)) (λ_ _ _ _=>dh (vk (ab6 _ _ _) (qv 9) (qo (xj (qv 6) (qv 7))) (by with_unfolding_all rfl))) (λ_ _ _ _=>(qv 9))) (qi (zj (zg (qv 1) (xb (z7 (xj (qo (j9 qx (vt (qj bF (L_ B.ba (qv 0)) qe) (J_ 4) (J_ 5)))) (qj z8 (qv 8) (z7 (xb (qj bF (L_ B.ba (qv 0)) qe))))))))))))))))⟩
abbrev c19(V:V_):Prop:=c18 V/\Q_ V 1 "_law_fold" [ng,nj,nr,nh] (iS)
theorem d19(V:V_)(B:B_ V)(c:c18 V):c19 V:=⟨c,M_ V 0 [ng,nj,nr,nh,nJ,nG] B.hp B.D18 yb λ_ _ _ _ _ _ _ J I U=>(qb (jp (vk zY (L_ B.ba (J_ 1)) qe (we _)) (qi tH) jb) (qb (S_ 4 I (bC (J_ 1) (xb (qj js (qv 3) (L_ B.ba (J_ 1)))))) (qb (S_ 5 I (bC (J_ 1) (xb (qj js (qv 2) (L_ B.ba (J_ 1)))))) (qb (zj (zg (qv 0) (xb (qo (vt qx (qv 4) (qv 5)))))) (qb (adp (qv 1) qe (qo (vt qx (qj bF (L_ B.ba (qv 0)) qe) (J_ 1)))) (qi (zj (zg (J_ 1) (xb (qj bF (L_ B.ba (qv 0)) qe))))))))))⟩
abbrev c20(V:V_):Prop:=c19 V/\Q_ V 128 "_law_cut" [ng,nw,nr,nh] (mJ)
theorem d20(V:V_)(B:B_ V)(c:c19 V):c20 V:=⟨c,M_ V 127 [ng,nw,nr,nh,"_law_first",nv,nq,"_law_second","_law_q",nz,"_law_end",ni,"_law_same",nH] B.hp B.D19 adi λ_ _ _ _ _ _ _ J I U=>(qb (S_ 4 I (bC (qv 1) (xb (qj js (qv 3) (L_ B.ba (qv 1)))))) (qb (vn (i:=5) I rfl (Or.inr rfl) (I_ (J_ 4) (qj js (qj vj (qv 3) qe) (L_ B.ba (J_ 4))))) (qb (S_ 6 I (C_ c.1.1.1.1.1.2 J (xj (qv 0) (qv 5)))) (qb (cf (qo (xj li li)) (aj rfl (zh (G_ 7 I) (zh (kj (i:=8) I rfl (Or.inr rfl)) km)))) (qb (am DT rfl (lB rfl B.bf (xb (L_ B.ba (qv 1)))) (G_ 9 I) (qi (am DT rfl (xl (I_ (I_ (qv 1) (qv 9)) qe)) (G_ 10 I) (qi (jp (l6 (sM (rG (qv 7)) (nO (E_ U (C_ c.1.1.1.1.1.2 J (xj (qv 0) (qv 10))) (C_ c.1.1.1.1.2 J (xb (qv 6))))))) (qi (cf (qo (xj (I_ (qv 1) (qv 9)) (qv 10))) (aj rfl (zh (G_ 7 I) (zh (kj (i:=8) I rfl (Or.inr rfl)) km))))) jb))))) (qb (jp (l6 (sM (rG (qv 7)) (nO (vk adu (C_ c.1.1.1.2 J (xb (qv 6))) qe (we _))))) (qb (zj (zg (qv 1) (xb (qv 4)))) (qi tH)) jb) (wn (jp (rG (qv 7)) (qb (cf (C_ c.1.1.2 J (xj (qv 0) (qv 6))) (ahw rfl (zh (G_ 11 I) (zh (kj (i:=8) I rfl (Or.inr rfl)) (zh (G_ 12 I) km))))) (qi (S_ 7 I (z7 (xj (qv 11) (z7 (xj (qv 8) (qv 12)))))))) (qi (zj (vZ U (qv 1) (xb (qv 7)))))) (qb (aw ["_law_x"] (i:=13) I rfl (Or.inl rfl) (DY (by rfl)) rfl (xl (qj z8 (J_ 4) (J_ 7))) (xp rC (λ_ _ _ _=>Or.inl rfl) (λ_ _ _ _=>rfl)) (λ_ _ _ _=>dh (vk (ab6 _ _ _) (qv 14) (qo (xj (qv 5) (qv 8))) (by with_unfolding_all rfl))) (λ_ _ _ _=>(qv 14))) (qi (jp (E_ U (qj js (qv 2) qe) qe) (qi (zj (zg (qv 1) (xb (z7 (xj (qo (j9 qx (j9 (qv 5) (vt (qv 8) (J_ 4) (J_ 7))))) (qv 13))))))) (qi (zj (zg (qv 1) (xb (z7 (xj (qo (j9 qx (j9 (qv 8) (vt (qv 5) (J_ 7) (J_ 4))))) (qv 13)))))))))))))))))⟩
abbrev c21(V:V_):Prop:=c20 V/\Q_ V 2 "_law_order" [ng,nt] (ff V.Pt)
theorem d21(V:V_)(B:B_ V)(c:c20 V):c21 V:=⟨c,T_ V 1 [ng,nt,"_law_ranks",nv,nI,"_law_rank"] B.hp B.D20 vR λ_ _ _ _ _ _ _ C J I U=>(qb (vn (i:=2) I rfl (Or.inr rfl) (z7 vq)) (qb (am DT rfl (mH rfl B.bg (qv 0)) (aj rfl (zh (G_ 3 I) (zh (G_ 4 I) km))) (qb (S_ 5 I (qj js (C_ c.1.1.1.1.1.1.1.1.2 J (vt (qv 1) (qv 3) qe)) qe)) (wn (jp (E_ U (L_ B.ba (qv 4)) qe) (qi (S_ 5 I (qj z8 (qj z8 (qv 5) qe) (cr aey rfl B.bi zG (xj (I_ (qv 2) (J_ 4)) (I_ (qv 2) (J_ 4))))))) jb) (qi (zj (zg (qv 2) (xb (qv 5)))))))) (qi (ze (y7 rfl B.bh (rX rfl rfl B.bc rfl B.bf (L_ B.ba (qv 0))) ⟨rfl,rfl,rfl,by decide +kernel,rfl,rfl,by decide,by decide,by decide⟩ C (dp3 J) rfl rfl rfl ⟨_,rfl,rfl⟩ rfl (λ_ _ _ _ _ _ _=>rfl))))))⟩
abbrev c22(V:V_):Prop:=c21 V/\Q_ V 121 "_law_moved" [ni,nz] (bG 120)
theorem d22(V:V_)(B:B_ V)(c:c21 V):c22 V:=⟨c,R_ V 1 [ni,nz,"_law_places"] B.hp B.D21 zC yH (λ_ _ I _ _ _ _ _ _ U g J=>(qb (jp (E_ J (J_ 0) qx) (qi (ze (qo (vt qx (cr alt rfl B.bp ahv (xj (bO J (qv 1) (J_ 0) (λ_ _=>rfl)) (bO J (qv 1) (J_ 0) (λ_ _=>rfl)))) (cr aey rfl B.bi zG (xj (bO J (qv 1) (J_ 0) (λ_ _=>rfl)) (bO J (qv 1) (J_ 0) (λ_ _=>rfl)))))))) jb) (qb (aw ["_law_x"] (i:=2) g rfl (Or.inl rfl) (DY (by rfl)) rfl (aau (xx (o4 _ _ _) (qv 0) (vg qe) ww)) (xp rC (λ_ _ _ _=>Or.inl rfl) (λ_ _ _ _=>rfl)) (λ_ _ _ _=>dh (bY (m7 .int rfl B.bd rfl B.bn afo (qv 3)))) (λ_ _ _ _=>(bO J (qv 1) (qv 3) (λ_ _=>rfl)))) (qi (ze (bK acf rfl B.bj pC (xb (qj z8 (qj z8 (z7 (xb (J_ 0))) (qv 2)) (fP ["_law_x"] (DY (by rfl)) rfl (aau (xx (o4 _ _ _) (qv 0) (vg qe) ww)) (xp rC (λ_ _ _ _=>Or.inl rfl) (λ_ _ _ _=>rfl)) (λ_ _ _ _=>dh (bY (m7 .tuple rfl B.bd rfl B.bj pC (qv 3)))) (λ_ _ _ _=>(C_ I U (xj (qv 3) (qv 1))))))))))))) 120⟩
abbrev c23(V:V_):Prop:=c22 V/\Q_ V 122 nK [ng,ni,nt] (dc V.Pt)
theorem d23(V:V_)(B:B_ V)(c:c22 V):c23 V:=⟨c,M_ V 121 [ng,ni,nt,nz,"_law_made",nv,nI] B.hp B.D22 ra λ_ _ _ _ _ _ _ U I J=>(qb (S_ 3 I uJ) (qb (S_ 4 I (z7 vq)) (qb (am DT rfl (xl (C_ c.1.2 U (xj (qv 0) (qv 2)))) (G_ 5 I) (qb (fM J (qv 3) (qv 5) (L_ B.ba (qv 4))) (qb (S_ 6 I (I_ (qv 0) (qv 5))) (qi (zj (zg (qv 4) (xb (jC (E_ J (L_ B.ba (qv 6)) qe) (qv 6) (qo (vt (J_ 6) (bO J (qv 3) (J_ 6) (λ_ _=>rfl)) (bO J (qv 3) (J_ 6) (λ_ _=>rfl)))))))))))) (qi (ze (qo (xj (qv 4) (C_ c.2 U (xj (qv 1) (qv 3))))))))))⟩
abbrev c24(V:V_):Prop:=c23 V/\Q_ V 129 "_law_tree" ["_law_cells",nt,"_law_room"] (jS V.Pt)
theorem d24(V:V_)(B:B_ V)(c:c23 V):c24 V:=⟨c,M_ V 128 ["_law_cells",nt,"_law_room",ng,nw,"_law_k","_law_cell",nr,nh,"_law_deed",nz] B.hp B.D23 aav λ_ _ _ _ _ _ _ I J U=>(qb (S_ 3 J (z7 vq)) (qb (S_ 4 J (z7 vq)) (qb (am DT rfl (mH rfl B.bg (qv 0)) (aj rfl (zh (G_ 5 J) (zh (G_ 6 J) km))) (qb (yV (i:=7) (j:=8) rfl J rfl rfl (by decide) rfl rfl (xj (C_ c.1.1.1.1.1.1.1.1.1.1.1.2 I (vt (qv 6) (qv 5) qe)) (C_ c.1.1.1.1.1.1.1.1.1.1.1.2 I (vt (qv 6) (qv 5) qe))) rfl) (qb (jp (vk adu (qj z8 (qj z8 (L_ B.ba (qv 3)) (L_ B.ba (qv 4))) qe) (qv 2) (we _)) (qi o7) jb) (qb (S_ 9 J (qj js (qv 7) qe)) (qb (S_ 7 J (qj vj (qv 7) qe)) (qi (jp (l6 (tj (vk zY (qv 9) qe (we _)) (rK (E_ U (qv 4) (z7 vq))))) (qb (zj (zg (qv 3) (xb (qo (xj qx (C_ c.1.1.1.1.1.1.1.1.1.1.2 I (xj (qv 1) (qj js (qv 8) qe)))))))) (qb (zj (zg (qv 3) (xb (qo (xj qx (C_ c.1.1.1.1.1.1.1.1.1.1.2 I (xj (qv 1) (qj js (qv 8) qe)))))))) (wn (jp (E_ U (qj js (qv 7) qe) qe) (qi (zj (zg (qv 3) (xb (bC (qv 3) (xb (qj bF (L_ B.ba (qv 3)) qe))))))) jb) (qb (S_ 10 J (qj bF (L_ B.ba (qv 3)) qe)) (qi (zj (zg (qv 4) (xb (z7 (xj (qo (vt qx (qv 10) (qj z8 (qv 10) qe))) (z7 (xj (qv 10) (qj z8 (qv 10) qe))))))))))))) (qi (jp (vk zY (qv 9) qe (we _)) (qi (zj (C_ c.1.1.1.1.2 I (j9 (qv 3) (vt (I_ (qv 4) (qj js (qv 8) (L_ B.ba (qv 4)))) (qv 7) (qj vj (qv 8) qe)))))) (qi (jp (l6 (sM (vk zY (qv 9) qe (we _)) (nO (vk adu (L_ B.ba (qv 4)) qe (we _))))) (qi (zj (C_ c.1.1.1.1.1.2 I (j9 (qv 3) (vt (qv 4) (qv 7) (qv 8)))))) (qi (zj (C_ c.1.1.1.2 I (j9 (qv 3) (vt (qv 4) (qv 7) (qv 8))))))))))))))))) (wn (jp (E_ U (qv 4) (z7 vq)) (qb (zj (zg (qv 3) (xb (qo (xj qx (C_ c.1.1.1.1.1.1.1.1.1.1.2 I (xj (qv 1) qe))))))) (qb (zj (zg (qv 3) (xb (qo (xj qx (C_ c.1.1.1.1.1.1.1.1.1.1.2 I (xj (qv 1) qe))))))) (qi (zj (zg (qv 4) (xb (z7 (xj (qo (vt qx qe qe)) (z7 (xj qe qe)))))))))) jb) (qb (iQ DT (vk adu (L_ B.ba (qv 4)) qe (we _)) (qi (zj (C_ c.1.1.1.1.1.2 I (j9 (qv 3) (vt (qv 4) (qj z8 (qj vj (qv 1) qe) (L_ B.ba (qv 4))) (qj vj (qv 1) qe))))))) (qi (ze (C_ c.2 I (vt (qv 3) (I_ (J_ 4) qe) (qv 1))))))))))⟩
abbrev c25(V:V_):Prop:=c24 V/\Q_ V 1 "_law_arms" [ni] (im)
theorem d25(V:V_)(B:B_ V)(c:c24 V):c25 V:=⟨c,M_ V 0 [ni] B.hp B.D24 yy λ_ _ _ _ _ _ _ J U I=>(qb (jp (E_ I (J_ 0) qx) (qi (ze (z7 (xj (J_ 0) (J_ 0))))) jb) (qb (jp (E_ I (J_ 0) qx) (qi (ze (z7 vq))) jb) (qi (ze (bK cY rfl B.bc bV (xb (xx (o4 _ _ _) (qv 0) (vg qe) ww)))))))⟩
abbrev c26(V:V_):Prop:=c25 V/\Q_ V 2 "_law_ends" [ng,ni] (iq)
theorem d26(V:V_)(B:B_ V)(c:c25 V):c26 V:=⟨c,M_ V 1 [ng,ni,"_law_told","_law_taken","_law_stack",nr] B.hp B.D25 yP λ_ _ _ _ _ _ _ U J I=>(qb (cf (qo (vt (z7 vq) uJ (z7 (xb (qv 1))))) (aj rfl (zh (G_ 2 J) (zh (kj (i:=3) J rfl (Or.inr rfl)) (zh (G_ 4 J) km))))) (qb (iQ DT (N_ I (qv 4) (z7 vq)) (qb (S_ 5 J (yk (qv 4))) (wn (jp (E_ I (J_ 5) qx) (qi (zj (dG (qv 2) (xb (z7 (xj (J_ 5) (J_ 5))))))) (qi (jp (E_ I (J_ 5) qx) (qb (fM I (qv 3) (J_ 5) gc) (qi (fM I (qv 3) (J_ 5) gc))) (qb (zj (zg (qv 2) (xb (J_ 5)))) (qb (fM I (qv 3) (I_ (I_ (qv 0) (J_ 5)) qe) gc) (qi (fM I (qv 3) (I_ (I_ (qv 0) (J_ 5)) qe) gc))))))) (qi (zj (dG (qv 4) (xb (C_ c.2 U (xb (qv 5)))))))))) (qi (ze (fP [nv] (DY (by rfl)) rfl (xl (qv 2)) (xp rC (λ_ _ _ _=>Or.inl rfl) (λ_ _ _ _=>rfl)) (λ_ _ _ _=>dh (vk (ahr I) (qv 6) (qv 3) (by with_unfolding_all rfl))) (λ_ _ _ _=>(qv 6)))))))⟩
abbrev c27(V:V_):Prop:=c26 V/\Q_ V 1 nL [ng,nu] (cT)
theorem d27(V:V_)(B:B_ V)(c:c26 V):c27 V:=⟨c,M_ V 0 [ng,nu,"_law_n","_law_more",nr,nh] B.hp B.D26 pQ λ_ _ _ _ _ _ _ J I U=>(qb (S_ 2 I (L_ B.ba (qv 0))) (qb (S_ 3 I (z7 (j9 (qo (xj qx (qv 1))) (vt (qo (xj qx (qv 1))) (qo (xj qx (qv 1))) (qo (xj qx (qv 1))))))) (qb (S_ 3 I (qj z8 (qv 3) (z7 (xj (qo (vt qx (qj z8 (qv 2) qe) (qj z8 (qv 2) qe))) (qo (vt qx (qv 2) (qj z8 (qv 2) qe))))))) (qb (S_ 4 I (qo (j9 qx (vt (qj z8 (qv 2) qe) (qo (vt qx (qv 2) (qj z8 (qv 2) qe))) (qo (vt qx (qj z8 (qv 2) qe) (qj z8 (qv 2) qe))))))) (qb (S_ 5 I (qo (j9 qx (vt (qj z8 (qv 2) qe) (qo (vt qx (qj z8 (qv 2) qe) (qj z8 (qv 2) qe))) (qo (vt qx (qv 2) (qj z8 (qv 2) qe))))))) (qi (ze (qo (j9 (qv 3) (vt (qo (vt qx (qj z8 (qv 2) qe) (qv 4))) (qo (vt qx (qj z8 (qv 2) qe) (qv 5))) (qj z8 (qv 2) qe)))))))))))⟩
abbrev c28(V:V_):Prop:=c27 V/\Q_ V 1 nF [ng,nu,ny] (nQ)
theorem d28(V:V_)(B:B_ V)(c:c27 V):c28 V:=⟨c,M_ V 0 [ng,nu,ny,"_law_n","_law_more",nJ,nG,"_law_some","_law_about",nz] B.hp B.D27 ac7 λ_ _ _ _ _ _ _ U I J=>(qb (vn (i:=3) I rfl (Or.inr rfl) (L_ B.ba (qv 0))) (qb (S_ 4 I (z7 (j9 (qo (xj qx (qv 1))) (vt (qo (xj qx (qv 1))) (qo (xj qx (qv 1))) (qo (xj qx (qv 1))))))) (qb (S_ 4 I (qj z8 (qv 4) (z7 (vt (qo (vt qx (qv 3) (qj z8 (qv 3) qe))) (qo (xj qx (qv 1))) (qo (xj qx (qv 1))))))) (qb (vn (i:=5) I rfl (Or.inr rfl) (qo (j9 qx (vt (qj z8 (qv 3) qe) (qo (vt qx (qv 3) (qj z8 (qv 3) qe))) (qo (vt qx (qj z8 (qv 3) qe) (qj z8 (qv 3) qe))))))) (qb (vn (i:=6) I rfl (Or.inr rfl) (qo (vt qx (qj z8 (qv 3) qe) (qj z8 (qv 3) qe)))) (qb (aw [nv] (i:=7) I rfl (Or.inl rfl) (DY (by rfl)) rfl (xl (z7 (xj (qj z8 (qv 3) qe) (qj z8 (qv 3) qe)))) (xp rC (λ_ _ _ _=>Or.inl rfl) (λ_ _ _ _=>rfl)) (λ_ _ _ _=>cZ) (λ_ _ _ _=>(qo (j9 qx (j9 (qv 10) (vt (qj z8 (qv 3) qe) (qv 5) (qv 6))))))) (qb (aw [nv] (i:=8) I rfl (Or.inl rfl) (DY (by rfl)) rfl (xl (z7 (xj (qj z8 (qv 3) qe) (qj z8 (qv 3) qe)))) (xp rC (λ_ _ _ _=>Or.inl rfl) (λ_ _ _ _=>rfl)) (λ_ _ _ _=>cZ) (λ_ _ _ _=>(qo (j9 qx (j9 (qj z8 (qv 3) qe) (vt (qv 10) (qv 6) (qv 5))))))) (qb (jp (E_ J (qj js (qv 2) qe) qe) (qi (ze (qo (j9 (qv 4) (vt (J_ 7) (J_ 7) (qj z8 (qv 3) qe)))))) jb) (qb (jp (E_ J (qj js (qv 2) qe) qe) (qi (ze (qo (j9 (qv 4) (vt (J_ 8) (J_ 8) (qj z8 (qv 3) qe)))))) jb) (qb (S_ 9 I (qj js (qj vj (qv 2) qe) qe)) (qi (ze (qo (j9 (qv 4) (vt (I_ (qv 7) (qv 9)) (I_ (qv 8) (qv 9)) (qj z8 (qv 3) qe))))))))))))))))⟩
abbrev c29(V:V_):Prop:=c28 V/\Q_ V 3 "_law_two" [ng,ni,ny] (fW)
theorem d29(V:V_)(B:B_ V)(c:c28 V):c29 V:=⟨c,M_ V 2 [ng,ni,ny,nu,"_law_letters","_law_others",nI,nH,"_law_end","_law_more",nr,nh,"_law_low","_law_n","_law_place","_law_all_knots"] B.hp B.D28 uq λ_ _ _ _ _ _ _ U I J=>(qb (S_ 3 I (I_ (J_ 0) qe)) (qb (jp (E_ J (qj js (qv 2) qe) qe) (qb (S_ 4 I (abn qx qx)) (qb (S_ 5 I (z7 vq)) (qb (am DT rfl (xl (qv 0)) (G_ 6 I) (qi (jp (E_ J (L_ B.ba (qv 6)) qe) (qi (zj (zg (qv 5) (xb (qo (xj (J_ 6) (qj z8 (yf J (qv 4) (I_ (J_ 6) qe) qx) (xx (ie _ _ _) (J_ 6) (vg qe) ww)))))))) (qi (zj (zg (qv 5) (xb (qv 6)))))))) (qi (ze (z7 (xj (qo (xj (qv 0) (qv 1))) (qo (xj (qv 5) (qv 1)))))))))) jb) (qb (jp (E_ J (qj js (qv 2) qe) qe) (qi (ze (z7 (xj (qo (xj (qv 0) (qv 1))) (qo (xj (qj z8 (qv 0) (z7 (xb li))) (qv 1))))))) jb) (qb (S_ 7 I (C_ c.1.1.2 U (xj (qv 0) (qv 1)))) (qb (vn (i:=8) I rfl (Or.inr rfl) (I_ (qv 7) (qj js (qj vj (qv 2) qe) (L_ B.ba (qv 7))))) (qb (jp (E_ J (qj js (qv 2) qe) qe) (qb (cf (C_ c.1.2 U (xj (qv 0) (qv 3))) (aj rfl (zh (G_ 9 I) (zh (kj (i:=10) I rfl (Or.inr rfl)) (zh (G_ 11 I) (zh (kj (i:=12) I rfl (Or.inr rfl)) km)))))) (qb (vn (i:=13) I rfl (Or.inr rfl) (L_ B.ba (qv 0))) (qb (S_ 5 I (qj z8 (xx (ie _ _ _) (qv 9) ww (vg qe)) (z7 (xj (qo (vt qx (qv 13) (qj z8 (qv 13) qe))) (qo (vt qx (qj z8 (qv 13) qe) (qj z8 (qv 13) qe))))))) (qi (ze (fP ["_law_some"] (DY (by rfl)) rfl (xl (z7 (xj (qv 9) (qv 5)))) (xp rC (λ_ _ _ _=>Or.inl rfl) (λ_ _ _ _=>rfl)) (λ_ _ _ _=>cZ) (λ_ _ _ _=>(qo (xj (qj z8 (qj z8 (qv 0) (qv 16)) (z7 (xb (qo (vt qx (qv 8) (qv 12)))))) (qo (j9 qx (vt (qj z8 (qv 13) qe) (qv 1) (qv 10))))))))))))) jb) (wn (jp (E_ J (qj js (qv 2) qe) qe) (qi (cf (C_ c.1.2 U (xj (qv 0) (qv 3))) (aj rfl (zh (G_ 9 I) (zh (kj (i:=10) I rfl (Or.inr rfl)) (zh (G_ 11 I) (zh (kj (i:=12) I rfl (Or.inr rfl)) km))))))) (qi (cf (C_ c.2 U (vt (qv 0) (qv 3) (qj vj (qv 2) qe))) (aj rfl (zh (G_ 9 I) (zh (kj (i:=10) I rfl (Or.inr rfl)) (zh (G_ 11 I) (zh (kj (i:=12) I rfl (Or.inr rfl)) km)))))))) (qb (vn (i:=14) I rfl (Or.inr rfl) (qj z8 (L_ B.ba (qv 0)) (L_ B.ba (qv 9)))) (qb (jp (E_ J (qj js (qj vj (qv 2) qe) qe) qe) (qb (vn (i:=15) I rfl (Or.inr rfl) (qj z8 (qj z8 (qv 0) (qv 9)) (z7 (xb (qo (vt qx (qv 8) (qv 12))))))) (qi (ze (fP ["_law_small"] (DY (by rfl)) rfl (xl (z7 (xj (qv 10) (qv 11)))) (xp rC (λ_ _ _ _=>Or.inl rfl) (λ_ _ _ _=>rfl)) (λ_ _ _ _=>cZ) (λ_ _ _ _=>(qo (xj (qv 15) (qo (j9 qx (vt (qv 14) (qv 1) (qv 16))))))))))) jb) (qb (vn (i:=15) I rfl (Or.inr rfl) (qj z8 (qj z8 (qv 0) (qv 9)) (z7 (xb (qo (vt qx (qv 12) (qv 8))))))) (qi (ze (fP ["_law_small"] (DY (by rfl)) rfl (xl (z7 (xj (qv 10) (qv 11)))) (xp rC (λ_ _ _ _=>Or.inl rfl) (λ_ _ _ _=>rfl)) (λ_ _ _ _=>cZ) (λ_ _ _ _=>(qo (xj (qv 15) (qo (j9 qx (vt (qv 14) (qv 16) (qv 1))))))))))))))))))))⟩
abbrev c30(V:V_):Prop:=c29 V/\Q_ V 1 "_law_copy" [nj] (bT)
theorem d30(V:V_)(B:B_ V)(c:c29 V):c30 V:=⟨c,M_ V 0 [nj] B.hp B.D29 sQ λ_ _ _ _ _ _ _ I J U=>(qi (ze (qo (xj (bK cY rfl B.bc bV (xb (J_ 0))) (J_ 0)))))⟩
abbrev c31(V:V_):Prop:=c30 V/\Q_ V 125 nM [nj,"_law_other"] (dy)
theorem d31(V:V_)(B:B_ V)(c:c30 V):c31 V:=⟨c,M_ V 124 [nj,"_law_other","_law_handed","_law_found","error"] B.hp B.D30 (rg B.xf) λ_ _ _ _ _ _ _ J I U=>(qb (S_ 2 I (z7 (xj (C_ c.2 J (xb (qv 0))) (C_ c.2 J (xb (qv 1)))))) (qb (S_ 3 I li) (qb (ai1 (i:=4) rfl rfl rfl I rfl rfl rfl B.mv (ae6 (c.1.1.1.1.1.1.1.1.1.1.1.1.1.1.1.1.1.1.1.2.mono (by decide)) J rfl rfl (λ_ _=>(xj (J_ 2) (J_ 2)))) (λ_=>(qi (S_ 3 I (qv 4))))) (qb (jp (l6 (tj (gC (bY (pj rfl B.bd (qv 3) (ar rfl B.mf) rfl))) (tj (gC (bY (pj rfl B.bd (qv 3) (af6 rfl B.b_ValueError kU) rfl))) (rK (N_ U (qv 2) (z7 (xj (qv 0) (qv 1)))))))) (qi (ze gc)) jb) (qb (jp (bY (lZ rfl B.bd (qv 3) (kw (ar rfl B.mn) (kw (ar rfl B.mm) (kw (ar rfl B.mi) (kw (ar rfl B.mz) sj)))) rfl (Ar rfl))) (qi (ze gc)) jb) (qi (ze (ah7 (lZ rfl B.bd (qv 3) (kw (ar rfl B.mh) (kw (ar rfl B.md) (kw (ar rfl B.mx) (kw (ar rfl B.mj) (kw (ar rfl B.my) sj))))) rfl (Ar rfl))))))))))⟩
abbrev c32(V:V_):Prop:=c31 V/\Q_ V 125 "_law_own" [nj] (fq)
theorem d32(V:V_)(B:B_ V)(c:c31 V):c32 V:=⟨c,M_ V 124 [nj,"_law_found"] B.hp B.D31 uj λ_ _ _ _ _ _ _ I J U=>(qb (S_ 1 J (y8 (c.1.1.1.1.1.1.1.1.1.1.1.1.1.1.1.1.1.1.1.1.2.mono (by decide)) I rfl zS rfl (xj (C_ c.1.2 I (xb (qv 0))) (C_ c.1.2 I (xb (qv 0)))))) (qi (ze (sH (m7 .list rfl B.bd rfl B.bc bV (qv 1)) (sO (oF (uG _ _ _ U) (qv 1) (z7 vq) (we _)))))))⟩
theorem dL(V:V_)(B:B_ V)(c:c32 V){f:Addr}{fd:FuncData}(F:Fun V.K "law" "law" qU f fd):Fn3 V.P V.w V.K V.mg V.base 130 f fd [nE] (mE V.Pt lamQ):=
 W_ V 129 [nE,nt,ny,ng,ni,"_law_trees"] F zF λ_ _ _ _ _ _ I J U=>(qb (S_ 1 J (qj js (I_ (qj (yM _ _ _) (qv 0) (z7 (xb qe))) qe) (qj ak4 qe qe))) (qb (S_ 2 J (qj js (I_ (qj (yM _ _ _) (qv 0) (z7 (xj qe qe))) qe) qe)) (qb (cf (C_ c.1.1.1.1.1.1.1.1.2 I (vt (xx (ie _ _ _) (qv 0) (vg qe) ww) (qv 1) qe)) (aj rfl (zh (G_ 3 J) (zh (G_ 4 J) km)))) (qb (S_ 5 J (C_ c.1.1.1.2 I (vt (qv 3) (qv 4) (qv 2)))) (wn (jp (E_ U (qj js (qj vj (qv 2) qe) qe) qe) (qi (S_ 5 J (z7 (xj (J_ 5) (J_ 5))))) jb) (qb (jp (gC (bY (C_ c.2 I (xb (J_ 5))))) (qi (ze gc)) jb) (qb (jp (l6 (tj (gC (bY (C_ c.1.2 I (xj (J_ 5) (J_ 5))))) (rK (gC (bY (C_ c.1.2 I (xj (J_ 5) (J_ 5)))))))) (qi (ze gc)) jb) (qi (ze (sH (C_ c.2 I (xb (J_ 5))) (sO (C_ c.2 I (xb (J_ 5))))))))))))))
theorem all_mk{l:PySem.W.OpenLaw}{w:World}{K:Ae}{h:Heap}{mg:Str->Option Value}{fa:Addr}{I:Addr}{C:Nat}{J U g j o p r t:Tok}{T:Addr}{Cb:Addr}{Cg:Addr}{Ce:Addr}{Cj:Addr}{Cd:Addr}{Cf:Addr}{Ci:Addr}{Cc:Addr}{Ck:Addr}{Ch:Addr}{Pt:Addr}(X:K.In h)(G:h.Ns mainGlobals mg)(a1:mg "law"=some (.ref fa))
 (D0:zb K "places_of" gi)
 (D1:zb K "arms_of" lD)
 (D2:zb K "rules_in" iu)
 (D3:zb K "pairs_by" iN)
 (D4:zb K "web_of" qZ)
 (D5:zb K "arm_at" pI)
 (D6:zb K "rules_along" dZ)
 (D7:zb K "rules_by_way" cL)
 (D8:zb K "is_same_rule" ci)
 (D9:zb K "steps_out" gn)
 (D10:zb K "way_between" dX)
 (D11:zb K "_law_mix" jF)
 (D12:zb K "_law_name" gf)
 (D13:zb K "_law_word" gh)
 (D14:zb K "_law_flip" gq)
 (D15:zb K "_law_weight" dP)
 (D16:zb K "_law_mirror" db)
 (D17:zb K "_law_join" gT)
 (D18:zb K "_law_fold" gr)
 (D19:zb K "_law_cut" jD)
 (D20:DefInT K "_law_order" s__law_order Pt)
 (D21:zb K "_law_moved" fE)
 (D22:zb K nK cb)
 (D23:zb K "_law_tree" gb)
 (D24:zb K "_law_arms" gZ)
 (D25:zb K "_law_ends" g8)
 (D26:zb K nL ce)
 (D27:zb K nF az)
 (D28:zb K "_law_two" jT)
 (D29:zb K "_law_copy" gU)
 (D30:zb K nM cw)
 (D31:zb K "_law_own" jL)
 (D32:zb K "law" qU)
 (aPLACE_COUNTS:PySem.W.nsIn K mainGlobals "PLACE_COUNTS"=some (some (.ref I)))
 (lPLACE_COUNTS:K.lookup I=some ⟨.type "dict",none,.dict ((([("link",J,2,o),("either",U,1,p),("both",g,1,r),("cut",j,2,t)]:List (Str×Tok×Int×Tok)).map (ae2 w)).toArray) C,#[]⟩)
 (hPLACE_COUNTS:(I==sysModules)=false)
 (aCNoExchange:PySem.W.nsIn K mainGlobals "NoExchange"=some (some (.ref T)))
 (aCOtherWeb:PySem.W.nsIn K mainGlobals "OtherWeb"=some (some (.ref Cb)))
 (aCOnceError:PySem.W.nsIn K mainGlobals "OnceError"=some (some (.ref Cg)))
 (aCBadChoices:PySem.W.nsIn K mainGlobals "BadChoices"=some (some (.ref Ce)))
 (aCBadText:PySem.W.nsIn K mainGlobals "BadText"=some (some (.ref Cj)))
 (aCBadTree:PySem.W.nsIn K mainGlobals "BadTree"=some (some (.ref Cd)))
 (aCBadWeb:PySem.W.nsIn K mainGlobals "BadWeb"=some (some (.ref Cf)))
 (aCNoCut:PySem.W.nsIn K mainGlobals "NoCut"=some (some (.ref Ci)))
 (aCNoTree:PySem.W.nsIn K mainGlobals "NoTree"=some (some (.ref Cc)))
 (aCNoWord:PySem.W.nsIn K mainGlobals "NoWord"=some (some (.ref Ck)))
 (aCTooMany:PySem.W.nsIn K mainGlobals "TooMany"=some (some (.ref Ch)))
 (qCNoExchange:PySem.W.excIn K T [.type "ValueError",.type "Exception",.type "BaseException",.type "object"] "ValueError.__new__"=true)
 (qCOtherWeb:PySem.W.excIn K Cb [.type "ValueError",.type "Exception",.type "BaseException",.type "object"] "ValueError.__new__"=true)
 (xf:L3.XF65 K Cg Cb Ce Cj Cd Cf Ci T Cc Ck Ch)
 (zlist:PySem.W.nsIn K mainGlobals "list"=some none)
 (zsorted:PySem.W.nsIn K mainGlobals "sorted"=some none)
 (zlen:PySem.W.nsIn K mainGlobals "len"=some none)
 (zenumerate:PySem.W.nsIn K mainGlobals "enumerate"=some none)
 (zrange:PySem.W.nsIn K mainGlobals "range"=some none)
 (zmax:PySem.W.nsIn K mainGlobals "max"=some none)
 (zmin:PySem.W.nsIn K mainGlobals "min"=some none)
 (zisinstance:PySem.W.nsIn K mainGlobals "isinstance"=some none)
 (zint:PySem.W.nsIn K mainGlobals "int"=some none)
 (ztuple:PySem.W.nsIn K mainGlobals "tuple"=some none)
 (zValueError:PySem.W.nsIn K mainGlobals "ValueError"=some none):
 ∃fd:FuncData,(∀(s:Shared) (v:Value),BindsTo s fd ⟨[v],[]⟩ [(nE,v)])/\∀base:Heap,K.In base->base.Ns mainGlobals mg->aW l.prog w K mg base CX0 130 fa fd [nE] (spTopT lamQ K Pt):=by
 obtain⟨fL,kV,a2,pm,an,a3,ct,aL,FL⟩:=D32.ex;have e:=a1.symm.trans (Bg X G aL);cases e;refine⟨PySem.W.fnOf "law" "law" (xh qU) (je qU) (qr qU) .none kV a2 pm an a3 ct,λs v=>.of_eq rfl,λbase _ _=>?_⟩;have B:B_ ⟨l.prog,w,K,mg,base,Pt,T,Cb,Cg,Ce,Cj,Cd,Cf,Ci,Cc,Ck,Ch⟩:=⟨⟨h,X,G⟩,Bh X G zlist,Bh X G zsorted,Bh X G zlen,Bh X G zenumerate,Bh X G zrange,Bh X G zmax,Bh X G zmin,Bh X G zisinstance,Bh X G zint,Bh X G ztuple,Bh X G zValueError,D0,D1,D2,D3,D4,D5,D6,D7,D8,D9,D10,D11,D12,D13,D14,D15,D16,D17,D18,D19,D20,D21,D22,D23,D24,D25,D26,D27,D28,D29,D30,D31,⟨I,Bg X G aPLACE_COUNTS,ahj _ lPLACE_COUNTS hPLACE_COUNTS (by show 4<=1000;decide) (by show List.Nodup ([Sum.inr "link",Sum.inr "either",Sum.inr "both",Sum.inr "cut"]:List j7);decide +kernel)⟩,Bg X G aCNoExchange,Bg X G aCOtherWeb,Bg X G aCOnceError,Bg X G aCBadChoices,Bg X G aCBadText,Bg X G aCBadTree,Bg X G aCBadWeb,Bg X G aCNoCut,Bg X G aCNoTree,Bg X G aCNoWord,Bg X G aCTooMany,jX qCNoExchange,jX qCOtherWeb,xf⟩;exact aW.imp (dL _ B (d32 _ B (d31 _ B (d30 _ B (d29 _ B (d28 _ B (d27 _ B (d26 _ B (d25 _ B (d24 _ B (d23 _ B (d22 _ B (d21 _ B (d20 _ B (d19 _ B (d18 _ B (d17 _ B (d16 _ B (d15 _ B (d14 _ B (d13 _ B (d12 _ B (d11 _ B (d10 _ B (d9 _ B (d8 _ B (d7 _ B (d6 _ B (d5 _ B (d4 _ B (d3 _ B (d2 _ B (d1 _ B trivial)))))))))))))))))))))))))))))))) FL) λvs H Q E q=>aej q
theorem def_inT{K:Ae}{x:Str}{st:Stmt}{f Pt:Addr}{oc:Value}{od an:Option Addr}{vb:Array (Option Value)}{kV nC pm g7 ct:Value}(a:PySem.W.nsIn K mainGlobals x=some (some (.ref f)))
 (l:K.lookup f=some ⟨oc,od,.func (PySem.W.fnOf x x (xh st) (je st) (qr st) .none kV nC pm an g7 ct),vb⟩) (c:PySem.W.codeIn K g7 x=true) (k:PySem.W.keepIn K (.ref f)=true) (C:u5 K g7 Pt):DefInT K x st Pt:=
 ⟨f,kV,nC,pm,an,g7,ct,a,⟨⟨oc,od,kV,nC,pm,an,g7,ct,vb,rfl,l,c,C⟩,k⟩⟩
end K65
namespace H65
noncomputable section
open PySem PySem.W PySem.W.X L2 L3 PyProof.Rows
abbrev rr:=PySem.Challenge.rw_oncewise_k65_other_webs
abbrev p:Program:=PySem.Challenge.pw_oncewise_k65_other_webs
abbrev top:=K65.top
abbrev ala(i k:Nat):Stmt:=(acz (top i)).getD k (.Pass ⟨0,0,0,0⟩)
abbrev s(x:String):Str:=Str.ofString x
noncomputable abbrev S (x:String) (t:Tok):Value:=.str (Str.ofString x) t
noncomputable abbrev I (i:Int) (t:Tok):Value:=.int i t
noncomputable abbrev R (a:Addr):Value:=.ref a
abbrev E(P:Params)(k:String)(t:Tok)(v:Value):DictEntry:=⟨PyData.keyHash P (Str.ofString k),.str (Str.ofString k) t,v⟩
noncomputable abbrev O (c:Value) (d:Data):Obj:=⟨c,none,d,#[]⟩
abbrev FN(n q:String)(st:Stmt)(I kV nC pm:Value)(an:Option Addr)(cd ct:Value):FuncData:=fnOf (Str.ofString n) (Str.ofString q) (xh st) (je st) (qr st) I kV nC pm an cd ct
abbrev FG(n q:String)(st:Stmt):FuncData:={ fnOf (Str.ofString n) (Str.ofString q) (xh st) (je st) (qr st) .none .none .none .none none .none .none with globals:=0 }
abbrev tu(l:Array Value):Obj:=O (.type "tuple") (.seq l 0)
abbrev fo(f:FuncData):Obj:=O (.type "function") (.func f)
abbrev go(f:FuncData):Obj:=O .none (.func f)
abbrev co(n q:String)(t l a b c fl v:Nat)(o:Bool)(m k:Nat)(x y z u:Value)(d:Nat):Obj:=O (.type "code") (.fields #[S n t,S q (t+1),S "/claim/cut.py" (t+2),I l 0,I a 0,I b 0,I c 0,I fl 0,R v,.bool o,I m 0,R k,x,y,z,u,I d 0,I l 0,S "/claim/cut.py" (d+1)])
abbrev kG:Value:=S "law_oncewise_k65_other_webs" 568
abbrev m1_:Value:=S "oncewise.exchanging" 463
abbrev m2_:Value:=S "oncewise.trees" 398
abbrev m3_:Value:=S "oncewise.sameness" 539
abbrev fX(n:String)(i:Nat)(m:Value)(r:Nat):Obj:=fo (FN n n (top i) .none .none .none m none (R r) .none)
abbrev gX(n:String)(i:Nat):Obj:=go (FG n n (top i))
abbrev cF(n:String)(t l a v d:Nat):Obj:=co n n t l a 0 0 3 v true 181 (v+1) .none (R (v+2)) (R (v+3)) (R (v+4)) d
abbrev cC(n:String)(t l v d:Nat):Obj:=co n n t l 0 0 0 0 v false 181 (v+1) .none .none .none .none d
abbrev cS(n:String)(a I k t v:Nat):Obj:=⟨.type "type",none,.cls (ClassData.mk (s n) [R 24] [R a,R 24,.type "ValueError",.type "Exception",.type "BaseException",.type "object"] I (s n) true [] [] false none false),#[some (R k),none,some (S n t),some (S n v),some (.builtin "ValueError.__new__"),some (.bool true)]⟩
abbrev dA(P:Params)(a b:Nat)(l:Int)(c d r e:Nat):Obj:=O (.type "dict") (.dict #[E P "__module__" a (S "oncewise.errors" 187),E P "__firstlineno__" b (I l c),E P "__static_attributes__" d (R r),E P "__doc__" e .none] 2)
abbrev dB(P:Params)(a q:Nat)(n:String)(J b:Nat)(l:Int)(c d r:Nat):Obj:=O (.type "dict") (.dict #[E P "__module__" a (S "oncewise.errors" 187),E P "__qualname__" q (S n J),E P "__firstlineno__" b (I l c),E P "__static_attributes__" d (R r)] 4)
abbrev fR(a b:Nat):Obj:=⟨.type "frame",none,.plain,#[some (R a),some (R 3),some (R b),none,some (S "oncewise.errors" 187),none,some (R 0)]⟩
abbrev bI(a:Nat):Obj:=O (.type "builtin_function_or_method") (.fields #[.builtin "object.__init_subclass__",R a])
abbrev sU(a:Nat):Obj:=O (.type "super") (.fields #[R a,R a,R a])
abbrev Ob:=Params->Obj
def ev{α:Type}:Bool->List α->List α
 |_,[]=>[]
 |true,x::r=>x::ev false r
 |false,_::r=>ev true r
def bt:Nat->List Obj->BT
 |0,_=>.nil
 |_,[]=>.nil
 |n+1,x::r=>.node x (bt n (ev true r)) (bt n (ev false r))
def env0:Env:={ scope:=p.main.scope,locals:=mainNs,globals:=mainNs,cells:=[],code:=.ref 13,frame:=some 14 }
abbrev cE:Code:=.body (behindTheImports p) env0
abbrev q0:Pos:=⟨0,0,0,0⟩
abbrev an:Option Value:=some (.ref 6)
abbrev Pc(n:Nat)(S I:World->OsState->SharedT)(l:List Stmt)(q J:Pos)(w:World):Prop:=(λos=>segRunT treeTable p w 11 an 1 n (S w os) (piecesOf l env0 cE q [topFrame q0]))=λos=>some (Flow.next,I w os,cE,J)
abbrev b0:=PySem.W.boot_o_0
abbrev b1:=PySem.W.boot_o_1
abbrev b2:=PySem.W.boot_o_2
abbrev b3:=PySem.W.boot_o_3
abbrev b4:=PySem.W.boot_o_4
abbrev b5:=PySem.W.boot_o_5
abbrev b6:=PySem.W.boot_o_6
abbrev b7:=PySem.W.boot_o_7
abbrev b8:=PySem.W.boot_o_8
abbrev b9:=PySem.W.boot_o_9
abbrev b10:=PySem.W.boot_o_10
def jo:Ob:=λ_=>tu #[]
def kc:Ob:=λ_=>O .none (.fields #[])
def xac:Ob:=λ_=>cC "<module>" 182 1 11 185
def xad:Ob:=λ_=>⟨(.type "frame"),none,.plain,#[(some (R 13)),(some (R 3)),(some (R 3)),none,(some (S "__main__" 164)),none,(some (R 0))]⟩
def xaf:Ob:=λ_=>tu #[(.type "ValueError")]
def xag:Ob:=λP=>O (.type "dict") (.dict #[(E P "__module__" 196 (S "oncewise.errors" 187)),(E P "__firstlineno__" 200 (I 2 199)),(E P "__static_attributes__" 201 (R 22)),(E P "__weakref__" 203 (R 25)),(E P "__doc__" 204 .none)] 3)
def xah:Ob:=λ_=>bI 24
def xai:Ob:=λP=>dB P 196 198 "OnceError" 197 200 2 199 201 22
def xaj:Ob:=λ_=>O (.type "getset_descriptor") (.fields #[S "__weakref__" 202,R 24,(.builtin "ExceptionGroup.__weakref__"),.none])
def xak:Ob:=λ_=>fR 20 17
def mG:Ob:=λ_=>O (.type "builtin_function_or_method") (.fields #[(.builtin "type.__prepare__"),(.type "type")])
def xao:Ob:=λ_=>cC "OnceError" 191 2 18 194
def xap:Ob:=λ_=>sU 24
def xar:Ob:=λ_=>bI 37
def xas:Ob:=λ_=>cC "NoWord" 209 4 31 212
def xat:Ob:=λ_=>cS "NoWord" 37 36 28 207 215
def xaw:Ob:=λP=>dA P 214 218 4 217 219 35 220
def pL:Ob:=λ_=>tu #[R 24]
def xay:Ob:=λ_=>fR 33 30
def xaz:Ob:=λ_=>sU 37
def xa0:Ob:=λP=>dB P 214 216 "NoWord" 215 218 4 217 219 35
def xa2:Ob:=λ_=>bI 49
def xa3:Ob:=λ_=>cS "BadText" 49 48 40 223 231
def xa4:Ob:=λ_=>cC "BadText" 225 6 43 228
def xa5:Ob:=λP=>dA P 230 234 6 233 235 47 236
def xa8:Ob:=λ_=>sU 49
def xa9:Ob:=λP=>dB P 230 232 "BadText" 231 234 6 233 235 47
def xba:Ob:=λ_=>fR 45 42
def xbc:Ob:=λ_=>bI 61
def xbd:Ob:=λ_=>cC "BadWeb" 241 8 55 244
def xbe:Ob:=λ_=>cS "BadWeb" 61 60 52 239 247
def xbh:Ob:=λP=>dA P 246 250 8 249 251 59 252
def xbi:Ob:=λ_=>fR 57 54
def xbj:Ob:=λP=>dB P 246 248 "BadWeb" 247 250 8 249 251 59
def xbk:Ob:=λ_=>sU 61
def xbm:Ob:=λ_=>bI 73
def xbn:Ob:=λ_=>cS "BadTree" 73 72 64 255 263
def xbo:Ob:=λ_=>cC "BadTree" 257 10 67 260
def xbq:Ob:=λP=>dA P 262 266 10 265 267 71 268
def xbs:Ob:=λP=>dB P 262 264 "BadTree" 263 266 10 265 267 71
def xbt:Ob:=λ_=>sU 73
def xbu:Ob:=λ_=>fR 69 66
def xbw:Ob:=λ_=>bI 85
def xbx:Ob:=λ_=>cC "BadChoices" 273 12 79 276
def xby:Ob:=λ_=>cS "BadChoices" 85 84 76 271 279
def xb1:Ob:=λP=>dA P 278 282 12 281 283 83 284
def xb2:Ob:=λ_=>fR 81 78
def xb3:Ob:=λ_=>sU 85
def xb4:Ob:=λP=>dB P 278 280 "BadChoices" 279 282 12 281 283 83
def xb6:Ob:=λP=>O (.type "dict") (.dict #[(E P "__module__" 294 (S "oncewise.errors" 187)),(E P "__firstlineno__" 298 (I 14 297)),(E P "__init__" 307 (R 101)),(E P "__static_attributes__" 309 (R 102)),(E P "__doc__" 310 .none)] 2)
def xb7:Ob:=λ_=>go (FG "__init__" "NoTree.__init__" (ala 7 0))
def xb8:Ob:=λ_=>tu #[S "self" 302,S "words" 303,S "choices" 304]
def xb9:Ob:=λ_=>sU 104
def xca:Ob:=λ_=>fo (FN "__init__" "NoTree.__init__" (ala 7 0) .none .none .none (S "oncewise.errors" 187) none (R 100) .none)
def xcb:Ob:=λ_=>cC "NoTree" 289 14 91 292
def xcd:Ob:=λ_=>cS "NoTree" 104 103 88 287 295
def xcf:Ob:=λ_=>co "__init__" "NoTree.__init__" 299 16 3 0 0 3 95 true 181 96 .none (R 97) (R 98) (R 99) 305
def xcg:Ob:=λ_=>O .none (.fields #[I 16 0,I 4 0,R 100])
def xch:Ob:=λ_=>bI 104
def xci:Ob:=λP=>O (.type "dict") (.dict #[(E P "__module__" 294 (S "oncewise.errors" 187)),(E P "__qualname__" 296 (S "NoTree" 295)),(E P "__firstlineno__" 298 (I 14 297)),(E P "__init__" 307 (R 101)),(E P "__static_attributes__" 309 (R 102))] 5)
def xcj:Ob:=λ_=>tu #[S "choices" 308]
def xck:Ob:=λ_=>fR 93 90
def xcm:Ob:=λP=>dA P 320 324 19 323 325 114 326
def xcn:Ob:=λ_=>fR 112 109
def xco:Ob:=λ_=>sU 116
def xcp:Ob:=λP=>dB P 320 322 "NoCut" 321 324 19 323 325 114
def xcq:Ob:=λ_=>cC "NoCut" 315 19 110 318
def xct:Ob:=λ_=>cS "NoCut" 116 115 107 313 321
def xcu:Ob:=λ_=>bI 116
def xcw:Ob:=λP=>dA P 336 340 21 339 341 126 342
def xc0:Ob:=λ_=>cS "NoExchange" 128 127 119 329 337
def xc6:Ob:=λP=>dA P 352 356 23 355 357 138 358
def xdd:Ob:=λ_=>cS "OtherWeb" 140 139 131 345 353
def xdh:Ob:=λP=>dA P 368 372 25 371 373 150 374
def xdi:Ob:=λ_=>tu #[S "plain" 379,S "turned" 380]
def xdj:Ob:=λ_=>cF "is_leaf" 382 29 1 156 386
def xdl:Ob:=λ_=>fo (FN "parts_of" "parts_of" (top 16) .none .none .none (S "oncewise.webs" 389) none (R 168) .none)
def xdq:Ob:=λ_=>⟨(.type "type"),none,(.cls (ClassData.mk (s "OnceError") [(.type "ValueError")] [R 24,(.type "ValueError"),(.type "Exception"),(.type "BaseException"),(.type "object")] 23 (s "OnceError") true [] [R 37,R 49,R 61,R 73,R 85,R 104,R 116,R 128,R 140,R 152] false none false)),#[(some (R 15)),none,(some (S "OnceError" 189)),(some (S "OnceError" 197)),(some (.builtin "ValueError.__new__")),(some (.bool true))]⟩
def xdr:Ob:=λ_=>cF "parts_of" 391 32 1 163 395
def xds:Ob:=λ_=>cS "TooMany" 152 151 143 361 369
def xdv:Ob:=λ_=>fo (FN "is_leaf" "is_leaf" (top 14) .none .none .none (S "oncewise.words" 377) none (R 161) .none)
def xdw:Ob:=λP=>O (.type "dict") (.dict #[(E P "link" 400 (I 2 401)),(E P "either" 402 (I 1 403)),(E P "both" 404 (I 1 405)),(E P "cut" 406 (I 2 407))] 4)
def xd0:Ob:=λ_=>fX "rules_along" 32 m1_ 254
def xd1:Ob:=λ_=>fX "rules_in" 21 m2_ 190
def xd2:Ob:=λ_=>co "pairs_by" "pairs_by" 449 58 2 0 0 3 204 true 181 205 .none .none .none (R 206) 452
def xd5:Ob:=λ_=>fX "web_of" 25 m2_ 214
def xd6:Ob:=λ_=>cF "arms_of" 420 40 1 178 424
def xd7:Ob:=λ_=>cF "arm_at" 501 84 2 242 507
def xea:Ob:=λ_=>fX "taken_by" 23 m2_ 202
def xee:Ob:=λ_=>fX "places_of" 19 m2_ 176
def xef:Ob:=λ_=>fX "turned_out" 30 m1_ 240
def xeh:Ob:=λ_=>co "arm_that_tells" "arm_that_tells" 484 72 2 0 0 3 230 true 181 231 .none .none .none (R 232) 487
def xei:Ob:=λ_=>cF "told_by" 436 47 1 192 440
def xej:Ob:=λ_=>fX "all_told" 28 m1_ 228
def xen:Ob:=λ_=>cF "with_arm" 465 64 3 216 472
def xeq:Ob:=λ_=>fX "pairs_by" 24 m2_ 207
def xer:Ob:=λ_=>cF "places_of" 413 38 1 171 417
def xes:Ob:=λ_=>cF "turned_out" 490 78 3 235 498
def xeu:Ob:=λ_=>fX "arms_of" 20 m2_ 183
def xev:Ob:=λ_=>fX "arm_at" 31 m1_ 247
def xey:Ob:=λ_=>cF "all_told" 475 67 1 223 481
def xe3:Ob:=λ_=>co "taken_by" "taken_by" 443 49 2 0 0 3 199 true 181 200 .none .none .none (R 201) 446
def xe4:Ob:=λ_=>fX "arm_that_tells" 29 m1_ 233
def xe6:Ob:=λ_=>fX "told_by" 22 m2_ 197
def xe7:Ob:=λ_=>cF "web_of" 455 60 1 209 460
def xfb:Ob:=λ_=>fX "with_arm" 27 m1_ 221
def xfc:Ob:=λ_=>cF "rules_in" 427 42 1 185 433
def xfd:Ob:=λ_=>cF "rules_along" 510 89 2 249 517
def xff:Ob:=λ_=>fX "_law_weight" 44 kG 318
def xfh:Ob:=λ_=>fX "steps_out" 37 m3_ 278
def xfi:Ob:=λ_=>cF "_law_flip" 594 147 1 306 599
def xfk:Ob:=λ_=>fX "rules_by_way" 34 m1_ 266
def xfl:Ob:=λ_=>fX "_law_join" 46 kG 330
def xfo:Ob:=λ_=>cF "is_same_rule" 541 114 2 268 546
def xfp:Ob:=λ_=>fX "_law_word" 42 kG 304
def xfs:Ob:=λ_=>co "_law_name" "_law_name" 579 133 2 0 0 3 294 true 181 295 .none .none .none (R 296) 582
def xft:Ob:=λ_=>cF "exchanged" 520 94 3 256 530
def xfu:Ob:=λ_=>cF "_law_mirror" 609 156 2 320 620
def xfv:Ob:=λ_=>fX "_law_mix" 40 kG 292
def xfy:Ob:=λ_=>cF "way_between" 555 120 2 280 565
def xf1:Ob:=λ_=>cF "_law_word" 585 142 2 299 591
def xf3:Ob:=λ_=>fX "_law_flip" 43 kG 311
def xf7:Ob:=λ_=>cF "_law_mix" 570 131 3 287 576
def xgc:Ob:=λ_=>fX "is_same_rule" 36 m3_ 273
def xgd:Ob:=λ_=>co "rules_by_way" "rules_by_way" 533 103 1 0 0 3 263 true 181 264 .none .none .none (R 265) 536
def xge:Ob:=λ_=>co "_law_join" "_law_join" 623 169 4 0 0 3 327 true 181 328 .none .none .none (R 329) 626
def xgf:Ob:=λ_=>fX "_law_name" 41 kG 297
def xgh:Ob:=λ_=>fX "exchanged" 33 m1_ 261
def xgi:Ob:=λ_=>fX "_law_mirror" 45 kG 325
def xgj:Ob:=λ_=>co "steps_out" "steps_out" 549 116 3 0 0 3 275 true 181 276 .none .none .none (R 277) 552
def xgm:Ob:=λ_=>fX "way_between" 38 m3_ 285
def xgn:Ob:=λ_=>cF "_law_weight" 602 152 1 313 606
def xgr:Ob:=λ_=>fX "_law_cut" 48 kG 342
def xgs:Ob:=λ_=>cF "_law_arms" 695 257 1 370 699
def xgt:Ob:=λ_=>cF "_law_crossed" 708 278 2 382 717
def xgu:Ob:=λ_=>fX "_law_moved" 50 kG 354
def xgw:Ob:=λ_=>cF "_law_refused" 739 331 2 406 747
def xg1:Ob:=λ_=>cF "_law_fold" 629 177 4 332 638
def xg2:Ob:=λ_=>fX "_law_tree" 52 kG 368
def xg3:Ob:=λ_=>fX "_law_cut_twice" 56 kG 392
def xg4:Ob:=λ_=>cF "_law_renamed" 665 220 3 356 675
def xg5:Ob:=λ_=>fX "_law_copy" 58 kG 404
def xg7:Ob:=λ_=>co "_law_two" "_law_two" 726 299 3 0 0 3 394 true 181 395 .none .none .none (R 396) 729
def xg9:Ob:=λ_=>cF "_law_order" 647 207 2 344 656
def xha:Ob:=λ_=>fX "_law_ends" 54 kG 380
def xhd:Ob:=λ_=>cF "_law_tree" 678 228 3 363 692
def xhe:Ob:=λ_=>co "_law_cut_twice" "_law_cut_twice" 720 285 3 0 0 3 389 true 181 390 .none .none .none (R 391) 723
def xhh:Ob:=λ_=>fX "_law_arms" 53 kG 375
def xhj:Ob:=λ_=>fX "_law_crossed" 55 kG 387
def xhk:Ob:=λ_=>cF "_law_copy" 732 329 1 399 736
def xhn:Ob:=λ_=>fX "_law_refused" 59 kG 411
def xhp:Ob:=λ_=>co "_law_ends" "_law_ends" 702 263 2 0 0 3 377 true 181 378 .none .none .none (R 379) 705
def xhr:Ob:=λ_=>co "_law_moved" "_law_moved" 659 215 2 0 0 3 351 true 181 352 .none .none .none (R 353) 662
def xhs:Ob:=λ_=>fX "_law_fold" 47 kG 337
def xht:Ob:=λ_=>fX "_law_renamed" 51 kG 361
def xhx:Ob:=λ_=>co "_law_cut" "_law_cut" 641 185 4 0 0 3 339 true 181 340 .none .none .none (R 341) 644
def xhz:Ob:=λ_=>fX "_law_two" 57 kG 397
def xh1:Ob:=λ_=>fX "_law_order" 49 kG 349
def xh2:Ob:=λP=>O (.type "dict") (.dict #[(E P "__name__" 165 (S "law_oncewise_k65_other_webs" 568)),(E P "__doc__" 166 .none),(E P "__package__" 167 .none),(E P "__loader__" 168 (.builtin "__main__.__loader__#opaque")),(E P "__spec__" 169 .none),(E P "__annotations__" 170 (R 6)),(E P "__builtins__" 171 (R 4)),(E P "__file__" 173 (S "/claim/cut.py" 172)),(E P "__cached__" 174 .none),(E P "OnceError" 206 (R 24)),(E P "NoWord" 222 (R 37)),(E P "BadText" 238 (R 49)),(E P "BadWeb" 254 (R 61)),(E P "BadTree" 270 (R 73)),(E P "BadChoices" 286 (R 85)),(E P "NoTree" 312 (R 104)),(E P "NoCut" 328 (R 116)),(E P "NoExchange" 344 (R 128)),(E P "OtherWeb" 360 (R 140)),(E P "TooMany" 376 (R 152)),(E P "LEAF_KINDS" 381 (R 155)),(E P "is_leaf" 388 (R 162)),(E P "parts_of" 397 (R 169)),(E P "PLACE_COUNTS" 412 (R 170)),(E P "places_of" 419 (R 177)),(E P "arms_of" 426 (R 184)),(E P "rules_in" 435 (R 191)),(E P "told_by" 442 (R 198)),(E P "taken_by" 448 (R 203)),(E P "pairs_by" 454 (R 208)),(E P "web_of" 462 (R 215)),(E P "with_arm" 474 (R 222)),(E P "all_told" 483 (R 229)),(E P "arm_that_tells" 489 (R 234)),(E P "turned_out" 500 (R 241)),(E P "arm_at" 509 (R 248)),(E P "rules_along" 519 (R 255)),(E P "exchanged" 532 (R 262)),(E P "rules_by_way" 538 (R 267)),(E P "is_same_rule" 548 (R 274)),(E P "steps_out" 554 (R 279)),(E P "way_between" 567 (R 286)),(E P "_law_mix" 578 (R 293)),(E P "_law_name" 584 (R 298)),(E P "_law_word" 593 (R 305)),(E P "_law_flip" 601 (R 312)),(E P "_law_weight" 608 (R 319)),(E P "_law_mirror" 622 (R 326)),(E P "_law_join" 628 (R 331)),(E P "_law_fold" 640 (R 338)),(E P "_law_cut" 646 (R 343)),(E P "_law_order" 658 (R 350)),(E P "_law_moved" 664 (R 355)),(E P "_law_renamed" 677 (R 362)),(E P "_law_tree" 694 (R 369)),(E P "_law_arms" 701 (R 376)),(E P "_law_ends" 707 (R 381)),(E P "_law_crossed" 719 (R 388)),(E P "_law_cut_twice" 725 (R 393)),(E P "_law_two" 731 (R 398)),(E P "_law_copy" 738 (R 405)),(E P "_law_refused" 749 (R 412)),(E P "_law_own" 757 (R 419)),(E P "law" 769 (R 426))] 64)
def xh4:Ob:=λ_=>fX "_law_own" 60 kG 418
def xh6:Ob:=λ_=>cF "law" 758 346 1 420 767
def xh9:Ob:=λ_=>cF "_law_own" 750 343 1 413 755
def xia:Ob:=λ_=>fX "law" 61 kG 425
def anz:List Ob:=[b0,b1,b2,b3,b4,b5,b6,b7,b8,b9,b10,jo,kc,xac,xad]
def ak8:List Ob:=[b0,b1,b2,xh2,b4,b5,b6,b7,b8,b9,b10,jo,λ_=>O .none (.fields #[I 2 0,I 0 0,R 20,I 4 0,I 0 0,R 33,I 6 0,I 0 0,R 45,I 8 0,I 0 0,R 57,I 10 0,I 0 0,R 69,I 12 0,I 0 0,R 81,I 14 0,I 0 0,R 93,I 19 0,I 0 0,R 112,I 21 0,I 0 0,R 124,I 23 0,I 0 0,R 136,I 25 0,I 0 0,R 148,I 29 0,I 0 0,R 161,I 32 0,I 0 0,R 168,I 38 0,I 0 0,R 176,I 40 0,I 0 0,R 183,I 42 0,I 0 0,R 190,I 47 0,I 0 0,R 197,I 49 0,I 0 0,R 202,I 58 0,I 0 0,R 207,I 60 0,I 0 0,R 214,I 64 0,I 0 0,R 221,I 67 0,I 0 0,R 228,I 72 0,I 0 0,R 233,I 78 0,I 0 0,R 240,I 84 0,I 0 0,R 247,I 89 0,I 0 0,R 254,I 94 0,I 0 0,R 261,I 103 0,I 0 0,R 266,I 114 0,I 0 0,R 273,I 116 0,I 0 0,R 278,I 120 0,I 0 0,R 285,I 131 0,I 0 0,R 292,I 133 0,I 0 0,R 297,I 142 0,I 0 0,R 304,I 147 0,I 0 0,R 311,I 152 0,I 0 0,R 318,I 156 0,I 0 0,R 325,I 169 0,I 0 0,R 330,I 177 0,I 0 0,R 337,I 185 0,I 0 0,R 342,I 207 0,I 0 0,R 349,I 215 0,I 0 0,R 354,I 220 0,I 0 0,R 361,I 228 0,I 0 0,R 368,I 257 0,I 0 0,R 375,I 263 0,I 0 0,R 380,I 278 0,I 0 0,R 387,I 285 0,I 0 0,R 392,I 299 0,I 0 0,R 397,I 329 0,I 0 0,R 404,I 331 0,I 0 0,R 411,I 343 0,I 0 0,R 418,I 346 0,I 0 0,R 425]),xac,xad,xaf,mG,xai,jo,kc,xao,xak,jo,xag,xdq,xaj,xap,xah,pL,mG,xa0,jo,kc,xas,xay,jo,xaw,xat,xaz,xar,pL,mG,xa9,jo,kc,xa4,xba,jo,xa5,xa3,xa8,xa2,pL,mG,xbj,jo,kc,xbd,xbi,jo,xbh,xbe,xbk,xbc,pL,mG,xbs,jo,kc,xbo,xbu,jo,xbq,xbn,xbt,xbm,pL,mG,xb4,jo,kc,xbx,xb2,jo,xb1,xby,xb3,xbw,pL,mG,xci,jo,xcg,xcb,xck,jo,kc,xb8,jo,xb7,xcf,xca,xcj,xb6,xcd,xb9,xch,pL,mG,xcp,jo,kc,xcq,xcn,jo,xcm,xct,xco,xcu,pL,mG,λP=>dB P 336 338 "NoExchange" 337 340 21 339 341 126,jo,kc,λ_=>cC "NoExchange" 331 21 122 334,λ_=>fR 124 121,jo,xcw,xc0,λ_=>sU 128,λ_=>bI 128,pL,mG,λP=>dB P 352 354 "OtherWeb" 353 356 23 355 357 138,jo,kc,λ_=>cC "OtherWeb" 347 23 134 350,λ_=>fR 136 133,jo,xc6,xdd,λ_=>sU 140,λ_=>bI 140,pL,mG,λP=>dB P 368 370 "TooMany" 369 372 25 371 373 150,jo,kc,λ_=>cC "TooMany" 363 25 146 366,λ_=>fR 148 145,jo,xdh,xds,λ_=>sU 152,λ_=>bI 152,xdi,jo,kc,λ_=>tu #[S "word" 385],jo,λ_=>gX "is_leaf" 14,xdj,xdv,jo,kc,λ_=>tu #[S "knot" 394],jo,λ_=>gX "parts_of" 16,xdr,xdl,xdw,jo,kc,λ_=>tu #[S "rule" 416],jo,λ_=>gX "places_of" 19,xer,xee,jo,kc,λ_=>tu #[S "rule" 423],jo,λ_=>gX "arms_of" 20,xd6,xeu,jo,kc,λ_=>tu #[S "rule" 430,S "rules" 431,S "arm" 432],jo,λ_=>gX "rules_in" 21,xfc,xd1,jo,kc,λ_=>tu #[S "rule" 439],jo,λ_=>gX "told_by" 22,xei,xe6,jo,kc,λ_=>gX "taken_by" 23,xe3,xea,jo,kc,λ_=>gX "pairs_by" 24,xd2,xeq,jo,kc,λ_=>tu #[S "tree" 458,S "rules" 459],jo,λ_=>gX "web_of" 25,xe7,xd5,jo,kc,λ_=>tu #[S "rule" 468,S "number" 469,S "arm" 470,S "at" 471],jo,λ_=>gX "with_arm" 27,xen,xfb,jo,kc,λ_=>tu #[S "rule" 478,S "places" 479,S "inner" 480],jo,λ_=>gX "all_told" 28,xey,xej,jo,kc,λ_=>gX "arm_that_tells" 29,xeh,xe4,jo,kc,λ_=>tu #[S "knots" 493,S "rule" 494,S "arm" 495,S "inner" 496,S "number" 497],jo,λ_=>gX "turned_out" 30,xes,xef,jo,kc,λ_=>tu #[S "rule" 504,S "number" 505,S "arms" 506],jo,λ_=>gX "arm_at" 31,xd7,xev,jo,kc,λ_=>tu #[S "rule" 513,S "way" 514,S "along" 515,S "number" 516],jo,λ_=>gX "rules_along" 32,xfd,xd0,jo,kc,λ_=>tu #[S "tree" 523,S "way" 524,S "arm" 525,S "along" 526,S "rule" 527,S "number" 528,S "outer" 529],jo,λ_=>gX "exchanged" 33,xft,xgh,jo,kc,λ_=>gX "rules_by_way" 34,xgd,xfk,jo,kc,λ_=>tu #[S "rule" 544,S "other" 545],jo,λ_=>gX "is_same_rule" 36,xfo,xgc,jo,kc,λ_=>gX "steps_out" 37,xgj,xfh,jo,kc,λ_=>tu #[S "tree" 558,S "other" 559,S "here" 560,S "pairs" 561,S "way" 562,S "rule" 563,S "step" 564],jo,λ_=>gX "way_between" 38,xfy,xgm,jo,kc,λ_=>tu #[S "_law_cell" 573,S "_law_k" 574,S "_law_factor" 575],jo,λ_=>gX "_law_mix" 40,xf7,xfv,jo,kc,λ_=>gX "_law_name" 41,xfs,xgf,jo,kc,λ_=>tu #[S "_law_knots" 588,S "_law_p" 589,S "_law_knot" 590],jo,λ_=>gX "_law_word" 42,xf1,xfp,jo,kc,λ_=>tu #[S "_law_word_here" 597,S "_law_sides" 598],jo,λ_=>gX "_law_flip" 43,xfi,xf3,jo,kc,λ_=>tu #[S "_law_word_here" 605],jo,λ_=>gX "_law_weight" 44,xgn,xff,jo,kc,λ_=>tu #[S "_law_knots" 612,S "_law_word_here" 613,S "_law_left" 614,S "_law_right" 615,S "_law_turn" 616,S "_law_same" 617,S "_law_low" 618,S "_law_high" 619],jo,λ_=>gX "_law_mirror" 45,xfu,xgi,jo,kc,λ_=>gX "_law_join" 46,xge,xfl,jo,kc,λ_=>tu #[S "_law_knots" 632,S "_law_tree_here" 633,S "_law_one" 634,S "_law_two_here" 635,S "_law_left" 636,S "_law_right" 637],jo,λ_=>gX "_law_fold" 47,xg1,xhs,jo,kc,λ_=>gX "_law_cut" 48,xhx,xgr,jo,kc,λ_=>tu #[S "_law_knots" 650,S "_law_seed" 651,S "_law_p" 652,S "_law_knot" 653,S "_law_rank" 654],λ_=>tu #[S "_law_ranks" 655],λ_=>gX "_law_order" 49,xg9,xh1,jo,kc,λ_=>gX "_law_moved" 50,xhr,xgu,jo,kc,λ_=>tu #[S "_law_knots" 668,S "_law_rule" 669,S "_law_seed" 670,S "_law_at" 671,S "_law_made" 672,S "_law_p" 673,S "_law_knot" 674],jo,λ_=>gX "_law_renamed" 51,xg4,xht,jo,kc,λ_=>tu #[S "_law_cells" 681,S "_law_seed" 682,S "_law_room" 683,S "_law_knots" 684,S "_law_forest" 685,S "_law_k" 686,S "_law_cell" 687,S "_law_one" 688,S "_law_two_here" 689,S "_law_deed" 690,S "_law_at" 691],jo,λ_=>gX "_law_tree" 52,xhd,xg2,jo,kc,λ_=>tu #[S "_law_rule" 698],jo,λ_=>gX "_law_arms" 53,xgs,xhh,jo,kc,λ_=>gX "_law_ends" 54,xhp,xha,jo,kc,λ_=>tu #[S "_law_knots" 711,S "_law_name_here" 712,S "_law_n" 713,S "_law_more" 714,S "_law_one" 715,S "_law_two_here" 716],jo,λ_=>gX "_law_crossed" 55,xgt,xhj,jo,kc,λ_=>gX "_law_cut_twice" 56,xhe,xg3,jo,kc,λ_=>gX "_law_two" 57,xg7,xhz,jo,kc,λ_=>tu #[S "_law_tree_here" 735],jo,λ_=>gX "_law_copy" 58,xhk,xg5,jo,kc,λ_=>tu #[S "_law_tree_here" 742,S "_law_other" 743,S "_law_handed" 744,S "_law_found" 745,S "error" 746],jo,λ_=>gX "_law_refused" 59,xgw,xhn,jo,kc,λ_=>tu #[S "_law_tree_here" 753,S "_law_found" 754],jo,λ_=>gX "_law_own" 60,xh9,xh4,jo,kc,λ_=>tu #[S "_law_script" 761,S "_law_seed" 762,S "_law_number" 763,S "_law_knots" 764,S "_law_rule" 765,S "_law_trees" 766],jo,λ_=>gX "law" 61,xh6,xia]
def amq:List Ob:=[b0,b1,b2,b3,b4,b5,b6,b7,b8,b9,b10,jo,kc,xac,xad]
def ann:List Ob:=[b0,b1,b2,λP=>O (.type "dict") (.dict #[(E P "__name__" 165 (S "oncewise.errors" 187)),(E P "__doc__" 166 .none),(E P "__package__" 167 .none),(E P "__loader__" 168 (.builtin "__main__.__loader__#opaque")),(E P "__spec__" 169 .none),(E P "__annotations__" 170 (R 6)),(E P "__builtins__" 171 (R 4)),(E P "__file__" 173 (S "/claim/cut.py" 172)),(E P "__cached__" 174 .none),(E P "OnceError" 206 (R 24)),(E P "NoWord" 222 (R 37)),(E P "BadText" 238 (R 49)),(E P "BadWeb" 254 (R 61)),(E P "BadTree" 270 (R 73)),(E P "BadChoices" 286 (R 85)),(E P "NoTree" 312 (R 104)),(E P "NoCut" 328 (R 116))] 17),b4,b5,b6,b7,b8,b9,b10,jo,λ_=>O .none (.fields #[I 2 0,I 0 0,R 20,I 4 0,I 0 0,R 33,I 6 0,I 0 0,R 45,I 8 0,I 0 0,R 57,I 10 0,I 0 0,R 69,I 12 0,I 0 0,R 81,I 14 0,I 0 0,R 93,I 19 0,I 0 0,R 112]),xac,xad,xaf,mG,xai,jo,kc,xao,xak,jo,xag,λ_=>⟨(.type "type"),none,(.cls (ClassData.mk (s "OnceError") [(.type "ValueError")] [R 24,(.type "ValueError"),(.type "Exception"),(.type "BaseException"),(.type "object")] 23 (s "OnceError") true [] [R 37,R 49,R 61,R 73,R 85,R 104,R 116] false none false)),#[(some (R 15)),none,(some (S "OnceError" 189)),(some (S "OnceError" 197)),(some (.builtin "ValueError.__new__")),(some (.bool true))]⟩,xaj,xap,xah,pL,mG,xa0,jo,kc,xas,xay,jo,xaw,xat,xaz,xar,pL,mG,xa9,jo,kc,xa4,xba,jo,xa5,xa3,xa8,xa2,pL,mG,xbj,jo,kc,xbd,xbi,jo,xbh,xbe,xbk,xbc,pL,mG,xbs,jo,kc,xbo,xbu,jo,xbq,xbn,xbt,xbm,pL,mG,xb4,jo,kc,xbx,xb2,jo,xb1,xby,xb3,xbw,pL,mG,xci,jo,xcg,xcb,xck,jo,kc,xb8,jo,xb7,xcf,xca,xcj,xb6,xcd,xb9,xch,pL,mG,xcp,jo,kc,xcq,xcn,jo,xcm,xct,xco,xcu]
def ak1:List Ob:=ak8
def hpA(P:Params):Heap:=⟨⟨anz.map (· P)⟩,{}⟩
def hpZ(P:Params):Heap:=⟨⟨ak8.map (· P)⟩,{}⟩
def tr0(P:Params):BT:=bt 20 (amq.map (· P))
def tr8(P:Params):BT:=bt 20 (ann.map (· P))
def aoo(P:Params):BT:=bt 20 (ak1.map (· P))
def sA(w:World)(os:OsState):Shared:=⟨hpA w.params,#[],{},187,os⟩
def sZ(w:World)(os:OsState):Shared:=⟨hpZ w.params,#[],{},770,os⟩
def eE(w:World)(os:OsState):SharedT:=⟨tr0 w.params,15,{},#[],{},187,os⟩
def st8(w:World)(os:OsState):SharedT:=⟨tr8 w.params,119,{},#[],{},329,os⟩
def acu(w:World)(os:OsState):SharedT:=⟨aoo w.params,427,{},#[],{},770,os⟩
def ail:List Stmt:=((behindTheImports p).drop 0).take 9
def uZ:List Stmt:=((behindTheImports p).drop 9).take 53
theorem anr(w:World):(λos=>topGo treeTable p w 11 an 12 ⟨boot_heap w.params,#[],boot_drawn,boot_toks,os⟩ (topStub p))=λos=>some (sA w os,⟨denote treeTable cE,cE,⟨0,0,0,0⟩,[topFrame q0]⟩):=by kernel_rfl
theorem an2(w:World):(λos=>segRun treeTable p w 11 an 1 1 (sA w os) (blockOf (behindTheImports p) env0 cE ⟨0,0,0,0⟩ [topFrame q0]))=λos=>some (.next,(eE w os).abs,cE,⟨0,0,0,0⟩):=by kernel_rfl
theorem pc1:∀w,Pc 1727 eE st8 ail ⟨0,0,0,0⟩ ⟨19,0,20,8⟩ w:=λw=>by kernel_rfl
theorem apu(w:World):Pc 2047 st8 acu uZ ⟨19,0,20,8⟩ ⟨346,0,357,62⟩ (w.withFollow "special-get-raises" false):=by kernel_rfl
theorem ap0(w:World):Pc 2047 st8 acu uZ ⟨19,0,20,8⟩ ⟨346,0,357,62⟩ (w.withFollow "special-get-raises" true):=by kernel_rfl
theorem pc2:∀w,Pc 2047 st8 acu uZ ⟨19,0,20,8⟩ ⟨346,0,357,62⟩ w:=byRow2 "special-get-raises" apu ap0
theorem aop(w:World):(λos=>topRun treeTable p w 11 an 2 (acu w os).abs ⟨doneF .next,cE,⟨346,0,357,62⟩,[topFrame q0]⟩)=λos=>some (sZ w os):=by kernel_rfl
theorem ajy:ail++(uZ++([]))=behindTheImports p:=by kernel_rfl
theorem amh(w:World)(os:OsState):topRun treeTable p w 11 an (12+(1+(1727+(2047+(2))))) ⟨boot_heap w.params,#[],boot_drawn,boot_toks,os⟩ (topStub p)=some (sZ w os):=by have h:=(piece_app (l:=ail) (rest:=uZ++([])) (segRun_of (Di (pc1 w) os)) (piece_app (l:=uZ) (rest:=[]) (segRun_of (Di (pc2 w) os)) (piece_nil (env:=env0) (Di (aop w) os))));rw[ajy] at h;exact go_top (Di (anr w) os) (piece_block (Di (an2 w) os) h)
def as0:List Nat:=[0,1,2,3,4,5,6,7,8,9,10,13,23,24,25,36,37,48,49,60,61,72,73,84,85,100,101,103,104,115,116,127,128,139,140,151,152,155,161,162,168,169,170,176,177,183,184,190,191,197,198,202,203,207,208,214,215,221,222,228,229,233,234,240,241,247,248,254,255,261,262,266,267,273,274,278,279,285,286,292,293,297,298,304,305,311,312,318,319,325,326,330,331,337,338,342,343,345,349,350,354,355,361,362,368,369,375,376,380,381,387,388,392,393,397,398,404,405,411,412,418,419,425,426]
def vw:Program:={ p with main:={ p.main with body:=[top 1,top 2,top 3,top 4,top 5,top 6,top 7,top 8,top 9,top 10,top 11,top 13,top 14,top 16,top 18,top 19,top 20,top 21,top 22,top 23,top 24,top 25,top 27,top 28,top 29,top 30,top 31,top 32,top 33,top 34,top 36,top 37,top 38,top 40,top 41,top 42,top 43,top 44,top 45,top 46,top 47,top 48,top 49,top 50,top 51,top 52,top 53,top 54,top 55,top 56,top 57,top 58,top 59,top 60,top 61] } }
def K0:Params->Frag:=λP=>(nat_lit 0,b0 P)::(nat_lit 1,b1 P)::(nat_lit 2,b2 P)::(nat_lit 3,xh2 P)::(nat_lit 4,b4 P)::(nat_lit 5,b5 P)::(nat_lit 6,b6 P)::(nat_lit 7,b7 P)::(nat_lit 8,b8 P)::(nat_lit 9,b9 P)::(nat_lit 10,b10 P)::(nat_lit 13,xac P)::(nat_lit 23,xag P)::(nat_lit 24,xdq P)::(nat_lit 25,xaj P)::(nat_lit 36,xaw P)::(nat_lit 37,xat P)::(nat_lit 48,xa5 P)::(nat_lit 49,xa3 P)::(nat_lit 60,xbh P)::(nat_lit 61,xbe P)::(nat_lit 72,xbq P)::(nat_lit 73,xbn P)::(nat_lit 84,xb1 P)::(nat_lit 85,xby P)::(nat_lit 100,xcf P)::(nat_lit 101,xca P)::(nat_lit 103,xb6 P)::(nat_lit 104,xcd P)::(nat_lit 115,xcm P)::(nat_lit 116,xct P)::(nat_lit 127,xcw P)::(nat_lit 128,xc0 P)::(nat_lit 139,xc6 P)::(nat_lit 140,xdd P)::(nat_lit 151,xdh P)::(nat_lit 152,xds P)::(nat_lit 155,xdi P)::(nat_lit 161,xdj P)::(nat_lit 162,xdv P)::(nat_lit 168,xdr P)::(nat_lit 169,xdl P)::(nat_lit 170,xdw P)::(nat_lit 176,xer P)::(nat_lit 177,xee P)::(nat_lit 183,xd6 P)::(nat_lit 184,xeu P)::(nat_lit 190,xfc P)::(nat_lit 191,xd1 P)::(nat_lit 197,xei P)::(nat_lit 198,xe6 P)::(nat_lit 202,xe3 P)::(nat_lit 203,xea P)::(nat_lit 207,xd2 P)::(nat_lit 208,xeq P)::(nat_lit 214,xe7 P)::(nat_lit 215,xd5 P)::(nat_lit 221,xen P)::(nat_lit 222,xfb P)::(nat_lit 228,xey P)::(nat_lit 229,xej P)::(nat_lit 233,xeh P)::(nat_lit 234,xe4 P)::(nat_lit 240,xes P)::(nat_lit 241,xef P)::(nat_lit 247,xd7 P)::(nat_lit 248,xev P)::(nat_lit 254,xfd P)::(nat_lit 255,xd0 P)::(nat_lit 261,xft P)::(nat_lit 262,xgh P)::(nat_lit 266,xgd P)::(nat_lit 267,xfk P)::(nat_lit 273,xfo P)::(nat_lit 274,xgc P)::(nat_lit 278,xgj P)::(nat_lit 279,xfh P)::(nat_lit 285,xfy P)::(nat_lit 286,xgm P)::(nat_lit 292,xf7 P)::(nat_lit 293,xfv P)::(nat_lit 297,xfs P)::(nat_lit 298,xgf P)::(nat_lit 304,xf1 P)::(nat_lit 305,xfp P)::(nat_lit 311,xfi P)::(nat_lit 312,xf3 P)::(nat_lit 318,xgn P)::(nat_lit 319,xff P)::(nat_lit 325,xfu P)::(nat_lit 326,xgi P)::(nat_lit 330,xge P)::(nat_lit 331,xfl P)::(nat_lit 337,xg1 P)::(nat_lit 338,xhs P)::(nat_lit 342,xhx P)::(nat_lit 343,xgr P)::(nat_lit 345,kc P)::(nat_lit 349,xg9 P)::(nat_lit 350,xh1 P)::(nat_lit 354,xhr P)::(nat_lit 355,xgu P)::(nat_lit 361,xg4 P)::(nat_lit 362,xht P)::(nat_lit 368,xhd P)::(nat_lit 369,xg2 P)::(nat_lit 375,xgs P)::(nat_lit 376,xhh P)::(nat_lit 380,xhp P)::(nat_lit 381,xha P)::(nat_lit 387,xgt P)::(nat_lit 388,xhj P)::(nat_lit 392,xhe P)::(nat_lit 393,xg3 P)::(nat_lit 397,xg7 P)::(nat_lit 398,xhz P)::(nat_lit 404,xhk P)::(nat_lit 405,xg5 P)::(nat_lit 411,xgw P)::(nat_lit 412,xhn P)::(nat_lit 418,xh9 P)::(nat_lit 419,xh4 P)::(nat_lit 425,xh6 P)::(nat_lit 426,xia P)::[]
abbrev lamC:Nat:=349
abbrev lamT:Nat:=345
abbrev lamO:Ob:=xg9
abbrev ls:List Str:=[Str.ofString "PLACE_COUNTS"]
abbrev Xt:Shared->Bool:=λs=>xlAt vw [] s&&recOk (RowW.records rr.row.toRowW) s
theorem akw(w:World):((boot_heap w.params).isNs mainGlobals&&(#[]:Array GenState).size==0,(boot_heap w.params).objs.size,(boot_heap w.params).nsMap mainGlobals "__annotations__")=(true,11,an):=by kernel_rfl
theorem apt:opening p=plainProg p.main.scope.names:=by kernel_rfl
theorem anj(s:Shared):fenceModules? p s=some s:=by kernel_rfl
theorem lk1(w:World):(λos=>(staticsOk (importedModules p.main.body) (boot_heap w.params) (hpZ w.params)&&namesBound p (hpZ w.params)&&gensDone (sZ w os)&&laidKept (boot_heap w.params) (hpZ w.params)))=λ_=>true:=by kernel_rfl
theorem lk2(w:World):(λos=>openSeen vw ls (importedModules p.main.body) Xt true (sZ w os))=λ_=>openGood vw ls:=by kernel_rfl
theorem lk3(w:World):(λos=>obsZ as0 (sZ w os))=λ_=>valZ K0 427 770 w:=by kernel_rfl
theorem left_:LeftO p vw ls Xt (obsZ as0) (valZ K0 427 770) 7644:=LeftO.of_pieces (boot_open apt rfl anj) akw amh rfl λw=>funext λos=>looks_pair (Di (lk1 w) os) (looks_pair (Di (lk2 w) os) (Di (lk3 w) os))
end
end H65
open PySem PySem.W PyProof.Rows
set_option maxRecDepth 100000 in
set_option maxHeartbeats 0 in
theorem PySem.Challenge.cw_oncewise_k65_other_webs_holds : PySem.Challenge.rw_oncewise_k65_other_webs.Holds := by
 w_on;refine holds_law (by unfold OpenLaw.wellSaid OpenRow.wellSaid OpenRow.partSaid looksOpen;walk_at "y";walk_at "y";walk_at "y";walk_at "y";walk_at "y";walk_at "y";all_goals decide +kernel) λJ=>?_
 refine holds_openX (q:=H65.vw) (loose:=H65.ls) (Xt:=H65.Xt) (XP:=XL H65.vw []) (Yf:=PySem.W.X.obsZ H65.as0) (Ya:=PySem.W.X.valZ H65.K0 427 770) (N:=7644) H65.left_ (λs e=>xl_of s (Bool.and_eq_true_iff.mp e).1)
  XL.keeps (by rfl) (by rfl) (by rfl) (λs e=>recFacts_of (Bool.and_eq_true_iff.mp e).2)
  (by rfl) (by decide +kernel) (by decide +kernel) ⟨rfl,rfl,rfl,rfl,rfl,by decide +kernel⟩ ?hw ?hc
 case hw=>w_witness2
 k_fill
 refine L2.walk_ofZT (l:=PySem.Challenge.rw_oncewise_k65_other_webs) (n:=63) (k:=130) (x:="_law_script") (CX:=L2.CX0) (sp:=L3.spTopT L3.lamQ) rfl (by decide) rfl ⟨rfl,by decide,by decide⟩ (λ_=>rfl) (by decide) ?F ?S ?C
 case F=>
  intro w r t h g G I;have T:(H65.K0 w.params).lookup H65.lamT=some (PySem.W.tabObj #[]):=by k_is
  have U:(H65.K0 w.params).lookup H65.lamC=some (H65.lamO w.params):=by k_is
  have hd:∀h:Heap,h.get? H65.lamC=some (H65.lamO w.params)->PySem.W.CodeHd h H65.lamC H65.lamT:=λh e=>⟨_,_,_,_,_,_,_,_,_,e,rfl,rfl,rfl,rfl,rfl,rfl,rfl,rfl,by decide⟩;have j:(H65.K0 w.params).lookup 4=some (PySem.W.boot_o_4 w.params):=by k_is
  have o:L3.DefInT (L2.lessK H65.lamT (H65.K0 w.params)) "_law_order" K65.s__law_order H65.lamT:=by
   refine' K65.def_inT (L2.ns_dn T ?a) (L2.lk_dn T ?l ?n) (L2.code_dn T ?c) (L2.keep_dn T ?k) ?LC
   (case a=>k_is);(case l=>k_is);(case n=>(intro e;cases e));(case c=>k_is);(case k=>k_is)
   refine'⟨⟨H65.lamC,_,rfl,L2.lk_dn T U ?m,hd⟩,⟨4,_,L2.ns_dn T ?b,by decide,by decide,L2.lk_dn T j ?p,rfl,rfl,rfl⟩⟩
   (case m=>(intro e;cases e));(case b=>k_is);(case p=>(intro e;cases e))
  refine⟨H65.lamT,⟨T,⟨H65.lamC,λh X=>hd h (X _ _ U)⟩,by decide⟩,?_⟩;refine' K65.all_mk (K:=L2.lessK H65.lamT (H65.K0 w.params)) (L2.lessK_in g) G I ?D0 ?D1 ?D2 ?D3 ?D4 ?D5 ?D6 ?D7 ?D8 ?D9 ?D10 ?D11 ?D12 ?D13 ?D14 ?D15 ?D16 ?D17 ?D18 ?D19 ?D20 ?D21 ?D22 ?D23 ?D24 ?D25 ?D26 ?D27 ?D28 ?D29 ?D30 ?D31 ?D32 ?aPLACE_COUNTS ?lPLACE_COUNTS ?hPLACE_COUNTS ?aCNoExchange ?aCOtherWeb ?aCOnceError ?aCBadChoices ?aCBadText ?aCBadTree ?aCBadWeb ?aCNoCut ?aCNoTree ?aCNoWord ?aCTooMany ?qCNoExchange ?qCOtherWeb ?xf ?zlist ?zsorted ?zlen ?zenumerate ?zrange ?zmax ?zmin ?zisinstance ?zint ?ztuple ?zValueError
  (case aCNoExchange=>(refine' L2.ns_dn T ?_;k_is))
  (case aCOtherWeb=>(refine' L2.ns_dn T ?_;k_is))
  (case aCOnceError=>(refine' L2.ns_dn T ?_;k_is))
  (case aCBadChoices=>(refine' L2.ns_dn T ?_;k_is))
  (case aCBadText=>(refine' L2.ns_dn T ?_;k_is))
  (case aCBadTree=>(refine' L2.ns_dn T ?_;k_is))
  (case aCBadWeb=>(refine' L2.ns_dn T ?_;k_is))
  (case aCNoCut=>(refine' L2.ns_dn T ?_;k_is))
  (case aCNoTree=>(refine' L2.ns_dn T ?_;k_is))
  (case aCNoWord=>(refine' L2.ns_dn T ?_;k_is))
  (case aCTooMany=>(refine' L2.ns_dn T ?_;k_is))
  (case D0|D1|D2|D3|D4|D5|D6|D7|D8|D9|D10|D11|D12|D13|D14|D15|D16|D17|D18|D19|D21|D22|D23|D24|D25|D26|D27|D28|D29|D30|D31|D32=>refine' L2.def_in (L2.ns_dn T ?a) (L2.lk_dn T ?l ?n) (L2.code_dn T ?c) (L2.keep_dn T ?k);(case a=>k_is);(case l=>k_is);(case n=>(intro e;cases e));(case c=>k_is);(case k=>k_is))
  (case D20=>exact o)
  (case aPLACE_COUNTS=>(refine' L2.ns_dn T ?_;k_is))
  (case lPLACE_COUNTS=>(refine' L2.lk_dn T ?x ?n;(case x=>k_is);(case n=>(intro e;cases e))))
  (case hPLACE_COUNTS=>rfl)
  (case qCNoExchange=>(refine' L2.exc_dn T ?_;k_exc))
  (case qCOtherWeb=>(refine' L2.exc_dn T ?_;k_exc))
  (case xf=>(refine' L3.XF65.dn T ?_;(refine' L3.XF65.mk ?hd ?em ?o1 ?o2 ?on ?ve;(case hd=>(refine' L3.xhd_of ?ga ?gt ?cl ?ge ?tk ?mo ?be ?h;(case ga=>k_is);(case gt=>k_is);(case cl=>k_is);(case ge=>k_is);(case tk=>k_is);(case mo=>k_is);(case be=>k_is);(case h=>k_is)));(case em=>(refine' L3.exm_own ?h0 ?h1 ?h2 ?h3;(case h0=>k_is);(case h1=>k_is);(case h2=>k_is);(case h3=>k_is)));(case o1=>(refine' L3.kitAny_no ?z ?_;(case z=>(refine' L3.kit_own ?a ?b ?c ?d;(case a=>rfl);(case b=>k_is);(case c=>k_is);(case d=>k_is)));refine' L3.kitAny_no ?z ?_;(case z=>(refine' L3.kit_own ?a ?b ?c ?d;(case a=>rfl);(case b=>k_is);(case c=>k_is);(case d=>k_is)));refine' L3.kitAny_no ?z ?_;(case z=>(refine' L3.kit_own ?a ?b ?c ?d;(case a=>rfl);(case b=>k_is);(case c=>k_is);(case d=>k_is)));refine' L3.kitAny_no ?z ?_;(case z=>(refine' L3.kit_own ?a ?b ?c ?d;(case a=>rfl);(case b=>k_is);(case c=>k_is);(case d=>k_is)));exact rfl));(case o2=>(refine' L3.kitAny_no ?z ?_;(case z=>(refine' L3.kit_own ?a ?b ?c ?d;(case a=>rfl);(case b=>k_is);(case c=>k_is);(case d=>k_is)));refine' L3.kitAny_no ?z ?_;(case z=>(refine' L3.kit_own ?a ?b ?c ?d;(case a=>rfl);(case b=>k_is);(case c=>k_is);(case d=>k_is)));refine' L3.kitAny_no ?z ?_;(case z=>(refine' L3.kit_own ?a ?b ?c ?d;(case a=>rfl);(case b=>k_is);(case c=>k_is);(case d=>k_is)));refine' L3.kitAny_no ?z ?_;(case z=>(refine' L3.kit_own ?a ?b ?c ?d;(case a=>rfl);(case b=>k_is);(case c=>k_is);(case d=>k_is)));refine' L3.kitAny_no ?z ?_;(case z=>(refine' L3.kit_own ?a ?b ?c ?d;(case a=>rfl);(case b=>k_is);(case c=>k_is);(case d=>k_is)));exact rfl));(case on=>exact L3.kit_self);(case ve=>(refine' L3.kit_blt ?a ?b;(case a=>rfl);(case b=>k_is))))))
  (case zlist|zsorted|zlen|zenumerate|zrange|zmax|zmin|zisinstance|zint|ztuple|zValueError=>(refine' L2.ns_dn T ?_;k_is))
 case S=>exact L3.top_startT
 case C=>exactλ_ _ _ _ z=>z
#print axioms PySem.Challenge.cw_oncewise_k65_other_webs_holds
