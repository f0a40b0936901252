import PyProof.Rows.All
import Wide.All
import OpenK.AllK
import Wide.FinOn
import Lean
import PyProof.EqAt
import PyProof.EqKinds
import PyProof.TupleCall
import PyProof.NeKinds
import PySem.Challenge.RW_oncewise_k53_any_order_of_cuts
import OpenK.ZGo
set_option genSizeOf false
set_option genInjectivity false
set_option bootstrap.genMatcherCode false
set_option compiler.extract_closed false
set_option hygiene false
local macro_rules|`(tactic| walk_at "t")=>`(tactic| (first|assumption|exact Nat.succ_pos _|exact qx.tk (by assumption)|exact Nat.lt_of_lt_of_le (qx.tk (by assumption)) (Nat.le_add_right _ _)|exact Nat.lt_of_lt_of_le (qx.tk (by assumption)) (by assumption)))
set_option hygiene true
local macro_rules|`(tactic| walk_at "w")=>`(tactic| conv=>whnf)
local macro_rules|`(tactic| walk_at "y")=>`(tactic| ((refine PySem.W.look_both ?_ ?_);(refine PySem.W.look_both ?_ ?_);(refine PySem.W.look_both ?_ ?_);(refine PySem.W.look_both ?_ ?_);(refine PySem.W.look_both ?_ ?_);(refine PySem.W.look_both ?_ ?_)))
set_option Elab.async false
set_option linter.all false
set_option maxRecDepth 100000
abbrev Aa:=@PySem.wpAny_bind
abbrev Ab:=@PyProof.Rows.wpS_bind
abbrev Ac:=@List.mem_cons_of_mem
abbrev Ad:=@List.length_append
abbrev Ae:=@PyProof.Rows.wpS_pure
abbrev Af:=@PySem.W.Frag
abbrev Ag:=@List.length_map
abbrev Ah:=@PySem.wpAny_pure
abbrev Ai:=@List.mem_append_right
abbrev Aj:=@List.mem_append
abbrev Ak:=@List.mem_cons_self
abbrev Al:=@List.getElem?_eq_getElem
abbrev Am:=@List.mem_cons
abbrev An:=@List.mem_singleton
abbrev Ao:=@Nat.le_refl
abbrev Ap:=@List.mem_append_left
abbrev Aq:=@List.getElem?_map
abbrev Ar:=@List.nodup_append
abbrev Au:=@List.size_toArray
abbrev Av:=@List.getElem?_append_right
abbrev Aw:=@List.nodup_cons
abbrev Ay:=@List.append_assoc
abbrev Az:=@List.mem_of_getElem?
abbrev AA:=@Option.map_eq_some_iff
abbrev AB:=@if_pos
abbrev AC:=@if_neg
abbrev AD:=@List.append_nil
abbrev AE:=@decide_eq_false
abbrev AF:=@List.getElem?_append_left
abbrev AG:=@List.map_cons
abbrev AH:=@Bool.false_ne_true
abbrev AI:=@List.map_append
abbrev AJ:=@List.length_cons
abbrev AK:=@List.mem_filter
abbrev AL:=@Ne.symm
abbrev AM:=@decide_eq_true
abbrev AN:=@List.getElem?_eq_some_iff
abbrev AO:=@PyProof.Rows.wpS_forRange
abbrev AQ:=@Nat.lt_of_lt_of_le
abbrev AR:=@List.take_of_length_le
abbrev AS:=@List.pairwise_append
abbrev AU:=@PyProof.Rows.wpS_mono
abbrev AV:=@PySem.wpAny_field
abbrev AW:=@List.perm_append_comm
abbrev AX:=@PySem.wpAny_mono
abbrev AY:=@List.length_take
abbrev AZ:=@Nat.le_trans
abbrev A3:=@List.perm_ext_iff_of_nodup
abbrev A4:=@PySem.wpAny_holding
abbrev A5:=@List.flatMap_append
abbrev A6:=@Int.natCast_nonneg
abbrev A7:=@List.mem_range
abbrev A8:=@Array.length_toList
abbrev A9:=@Nat.ne_of_lt
abbrev Ba:=@Bool.and_eq_true
abbrev Bb:=@Nat.zero_le
abbrev Bc:=@Option.some.inj
abbrev Bd:=@List.getElem?_set_ne
abbrev Be:=@Array.toList_append
abbrev Bf:=@List.mem_flatMap
abbrev Bg:=@Array.getElem?_toList
abbrev Bh:=@List.take_append_drop
abbrev Bi:=@Nat.le_add_right
abbrev Bj:=@PySem.W.mg_none_of
abbrev Bk:=@PySem.wpAny_seqItems
abbrev Bl:=@Array.size_push
abbrev Bm:=@List.flatMap_cons
abbrev Bo:=@List.take_succ
abbrev Bp:=@List.filter_append
abbrev Bq:=@PySem.W.kia_one
abbrev Br:=@PySem.wpAny_newObj_type
abbrev Bt:=@PySem.wpAny_rule
abbrev Bu:=@List.getD_eq_getElem?_getD
abbrev Bv:=@List.not_mem_nil
abbrev Bw:=@List.perm_append_right_iff
abbrev Bx:=@List.perm_append_left_iff
abbrev Bz:=@List.find?_cons
abbrev BA:=@List.length_set
abbrev BB:=@List.lookup_cons
abbrev BC:=@List.take_length
abbrev BD:=@PySem.mem_of_lookup
abbrev BE:=@List.getElem?_eq_none
abbrev BF:=@congrArg
abbrev BG:=@Int.toNat_natCast
abbrev BH:=@List.getElem_take
abbrev BI:=@List.mem_of_mem_take
abbrev BJ:=@Nat.min_eq_left
abbrev BK:=@Int.ofNat_inj
abbrev BL:=@Nat.le_of_lt
abbrev BM:=@List.length_drop
abbrev BN:=@Int.le_of_lt
abbrev BO:=@List.getElem_of_mem
abbrev BP:=@Nat.le_succ_of_le
abbrev BQ:=@Array.size_append
abbrev BR:=@Bool.eq_iff_iff
abbrev BS:=@List.mem_map
abbrev BU:=@Int.le_trans
abbrev BV:=@Bool.false_eq_true
abbrev BW:=@PySem.W.hideAll_none
abbrev BX:=@List.getElem?_set_self
abbrev BY:=@List.length_range
abbrev BZ:=@List.filter_nil
abbrev B0:=@List.length_filter_le
abbrev B1:=@Nat.lt_succ_self
abbrev B3:=@Nat.succ_pos
abbrev B4:=@Int.zero_add
abbrev B5:=@List.eq_nil_of_length_eq_zero
abbrev B6:=@Nat.lt_succ_of_lt
abbrev B7:=@List.filter_cons_of_neg
abbrev B8:=@List.filter_cons_of_pos
abbrev B9:=@Nat.add_sub_cancel_left
abbrev Cb:=@Nat.min_eq_right
abbrev Cc:=@List.perm_middle
abbrev Cd:=@Nat.max_eq_right
abbrev Ce:=@Int.emod_lt_of_pos
abbrev Cf:=@List.perm_append_singleton
abbrev Cg:=@List.append_of_mem
abbrev Ci:=@List.Perm.refl
abbrev Cj:=@List.length_replicate
abbrev Ck:=@List.drop_eq_getElem_cons
abbrev Cm:=@List.forIn_cons
abbrev Cn:=@List.nil_append
abbrev Co:=@Nat.max_eq_left
abbrev Cq:=@List.map_map
abbrev Cr:=@List.pairwise_map
abbrev Cs:=@List.Sublist.refl
abbrev Ct:=@List.any_cons
abbrev Cu:=@List.Pairwise.imp_of_mem
abbrev Cv:=@PyProof.Rows.slot_tuple_getitem
abbrev Cw:=@List.getElem_mem
abbrev Cy:=@Int.mul_le_mul_of_nonneg_right
abbrev Cz:=@PySem.W.of_hideAll
abbrev CA:=@Nat.lt_of_le_of_lt
abbrev CB:=@PySem.W.funFrames_hide
abbrev CC:=@List.getElem_cons_drop
abbrev CD:=@Int.emod_nonneg
abbrev CF:=@Nat.lt_irrefl
abbrev CG:=@List.length_singleton
abbrev CH:=@Nat.le_of_ble_eq_true
abbrev CI:=@Nat.sub_eq_zero_of_le
abbrev CK:=@PyProof.Rows.callWith_type1
abbrev CL:=@Option.isSome_map
abbrev CM:=@Bool.not_eq_true'
abbrev CN:=@Nat.le_succ
abbrev CO:=@List.mem_of_mem_drop
abbrev CP:=@Array.toList_reverse
abbrev CQ:=@Nat.le_sub_one_of_lt
abbrev CS:=@List.nodup_nil
abbrev CT:=@Nat.ne_of_gt
abbrev CU:=@List.flatMap_nil
abbrev CV:=@List.nodup_range
abbrev CW:=@List.filter_cons
abbrev CY:=@List.sublist_append_right
abbrev CZ:=@List.pairwise_iff_getElem
abbrev C0:=@PySem.W.hideAll_get
abbrev C1:=@List.filterMap_cons
abbrev C2:=@List.reverse_append
abbrev C3:=@List.mem_map_of_mem
abbrev C4:=@List.perm_iff_count
abbrev C5:=@PySem.W.mg_of
abbrev C6:=@List.cons.inj
abbrev C7:=@List.length_zip
abbrev C8:=@Array.size_extract
abbrev C9:=@List.getElem?_take
abbrev De:=@List.getElem?_drop
abbrev Df:=@Option.toList_some
abbrev Dg:=@List.getElem?_replicate
abbrev Dh:=@List.getElem?_cons_succ
abbrev Di:=@List.length_eraseIdx_le
abbrev Dj:=@List.eraseIdx_cons_succ
abbrev Dk:=@Int.le_refl
abbrev Dl:=@List.getElem?_set_self'
abbrev Dm:=@List.map_nil
abbrev Do:=@List.forIn_nil
abbrev Dp:=@Bool.not_not
abbrev Dq:=@List.mem_range'_1
abbrev Dr:=@Array.toList_push
abbrev Ds:=@List.ext_getElem?
abbrev Dt:=@List.count_append
abbrev Du:=@List.singleton_append
abbrev Dv:=@List.eraseIdx_sublist
abbrev Dw:=@Nat.succ_le_succ
abbrev Dx:=@List.all_eq_true
abbrev Dy:=@List.cons_append
abbrev Dz:=@List.take_append_of_le_length
abbrev DA:=@List.getElem?_of_mem
abbrev DB:=@List.exists_mem_of_length_pos
abbrev DC:=@List.of_mem_zip
abbrev DD:=@List.length_nil
abbrev DE:=@Nat.le_add_left
abbrev DF:=@List.getElem?_range
abbrev DG:=@List.length_pos_iff
abbrev DH:=@List.perm_singleton
abbrev DI:=@Nat.sub_self
abbrev DJ:=@Nat.zero_add
abbrev DK:=@Nat.lt_or_ge
abbrev DL:=@List.mem_filterMap
abbrev DM:=@List.drop_zero
abbrev DN:=@PySem.F.excBase_ValueError
abbrev DO:=@Nat.lt_or_eq_of_le
abbrev DP:=@PySem.F.slot_dict_getitem
abbrev DQ:=@List.getElem?_zip_eq_some
abbrev DR:=@PySem.W.kitx_list
abbrev DS:=@List.take_sublist
abbrev DU:=@List.nodup_range'
abbrev DV:=@List.getElem_drop
abbrev DW:=@List.reverse_perm
abbrev DY:=@List.all_cons
abbrev Ec:=@List.getElem_inj
abbrev Ed:=@List.zipIdx_cons
abbrev Ee:=@List.range'_succ
abbrev Ef:=@congrFun
abbrev El:=@Int.ofNat_lt
abbrev Em:=@Bool.or_eq_true
abbrev Eo:=@List.Perm.of_eq
abbrev Ep:=@beq_false_of_ne
abbrev Er:=@Int.add_mul
abbrev Eu:=@Nat.sub_le
abbrev sy:=@PySem.Heap.get?_push_of_some
abbrev um:=@PySem.Heap.lt_size
abbrev vb:=@PySem.Heap.get?_push_size
abbrev wh:=@PySem.PassesOwn.never
abbrev xT:=@PySem.Heap.SameBut.update
abbrev ya:=@PySem.Heap.get?_update_other
abbrev At:=@PySem.Heap.get?_update_self
abbrev Bs:=@PySem.F.slot_tuple_iterator_next
abbrev Db:=@PySem.MeetsSeq.plain_remove_loop
abbrev Ev:=@PySem.Calls.spliced_cons
abbrev EQ:=@PySem.Around.under_plainId
abbrev EX:=@PySem.F.plain_extend_loop
abbrev EY:=@PySem.Calls.spliced_nil
abbrev EZ:=@PySem.Heap.size_push
abbrev E4:=@PySem.F.slot_zip_next
noncomputable section
namespace L2
open PySem PyProof.Rows
theorem jF{M:Model}{U:Ctx}{p:Pos}{t:Sem Fin}{fs:List Frame}{s s':Shared}{e:End}(h:Runs M U p t fs s e s'):s.toks<=s'.toks:=by induction h with|fresh _ g=>exact AZ (CN _) g|call _ _ I J=>exact AZ I J|resumeFresh _ _ _ _ I J=>exact AZ I J|resumeSuspended _ _ _ _ I J=>exact AZ I J|segRet _ _ I J=>exact AZ I J|segGen _ _ I J=>exact AZ I J|segSuspGen _ _ _ _ I J=>exact AZ I J|_=>first|exact Ao _|assumption
theorem u7{M:Model}{J:Ctx}{p:Pos}{g:Nat}{r:Resume}{s s':Shared}{res:GenResult}(h:Wakes M J p g r s res s'):s.toks<=s'.toks:=by
 unfold Wakes at h;split at h
 ·exact h.elim
 ·split at h
  ·obtain⟨e,U,I,_,_,rfl⟩:=h;have q:=jF I;exact q
  ·obtain⟨_,rfl⟩:=h;exact Ao _
  ·obtain⟨_,rfl⟩:=h;exact Ao _
 ·obtain⟨e,U,I,_,_,rfl⟩:=h;have q:=jF I;exact q
 ·obtain⟨_,rfl⟩:=h;exact Ao _
 ·obtain⟨_,rfl⟩:=h;exact Ao _
theorem La{α:Type}{M:Model}{j:Ctx}(t:Sem α):∀{Q:α->Pos->Shared->Prop} {E:Value->Pos->Shared->Prop} {p:Pos} {s:Shared} (n:Nat),n<=s.toks->Sem.wp M j t Q E p s->Sem.wp M j t (λa U s'=>Q a U s'/\n<=s'.toks) (λe U s'=>E e U s'/\n<=s'.toks) p s:=by induction t with|pure a=>intro Q E p s n I h;exact⟨h,I⟩|raise e=>intro Q E p s n I h;exact⟨h,I⟩|load a part k J=>rintro Q E p s n I ⟨o,h1,h2⟩;exact⟨o,h1,J o n I h2⟩|update a part f k J=>rintro Q E p s n I ⟨h1,h2⟩;exact⟨h1,J () n I h2⟩|fresh k J=>intro Q E p s n I h;exact J s.toks n (AZ I<|CN _) h|choose C m k J=>rintro Q E p s n I ⟨h1,h2⟩;exact⟨h1,J _ n I h2⟩|call c hd g l k J=>rintro Q E p s n I ⟨r,s',h1,h2⟩;exact⟨r,s',h1,J r n (AZ I<|jF h1) h2⟩|genState g k J=>rintro Q E p s n I ⟨st,h1,h2⟩;exact⟨st,h1,J _ n I h2⟩|resume g r l k J=>rintro Q E p s n I ⟨res,s',h1,h2⟩;exact⟨res,s',h1,J _ n (AZ I<|u7 h1) h2⟩|rule tag k J=>intro Q E p s n I h;exact J () n I h|«at» pos k J=>intro Q E p s n I h;exact J () n I h|alloc o k J=>intro Q E p s n I h;exact J _ n I h|loadIfAlive a k J=>intro Q E p s n I h;exact J _ n I h|point l k J=>intro Q E p s n I h;exact J _ n I h|ask k J=>intro Q E p s n I h;exact J _ n I h|os q l k J=>intro Q E p s n I h;exact J _ n I h|handled own k J=>intro Q E p s n I h;exact J _ n I h|newGen c k J=>intro Q E p s n I h;exact J _ n I h|stack k J=>intro Q E p s n I h;exact J _ n I h|thread k J=>intro Q E p s n I h;exact J _ n I h|unsupported w=>intro Q E p s n I h;exact h.elim|finish e=>intro Q E p s n I h;exact h.elim|register a k J=>intro Q E p s n I h;exact h.elim|yield v g l k J=>intro Q E p s n I h;exact h.elim|fork c k J=>intro Q E p s n I h;exact h.elim|await a f d l k J=>intro Q E p s n I h;exact h.elim
theorem vR{α:Type}{M:Model}{A:Around}{t:Sem α}{Q:α->Shared->Prop}{E:Value->Shared->Prop}{s:Shared}(h:wpAny M A t Q E s):wpAny M A t (λa s'=>Q a s'/\s.toks<=s'.toks) (λe s'=>E e s'/\s.toks<=s'.toks) s:=
 λJ p I=>La t s.toks (Ao _)<|h J p I
theorem jy{α:Type}{M:Model}{A:Around}{t:Sem α}{Q:α->Shared->Prop}{E:Value->Shared->Prop}{s:Shared}(I:0<s.toks)(h:wpAny M A t (λa s'=>0<s'.toks->Q a s') (λe s'=>0<s'.toks->E e s') s):wpAny M A t Q E s:=
 AX (vR h) (λ_ _ z=>z.1<|AQ I z.2) λ_ _ z=>z.1<|AQ I z.2
end L2
variable {M:PySem.Model}{i j m n na p q t' x1:Nat}{t t1 t2:Bool}{s s':PySem.Shared}{e ln o target tg value:PySem.Expr}{α β κ:Type}{A:PySem.Around}{E Q xe:PySem.Value->PySem.Shared->Prop}{eA us vs:List PySem.Value}{cd eK hQ oc pm u v:PySem.Value}{base h h':PySem.Heap}{ch fp:List PySem.Addr}{C D Pt c' dx f fa i1 i2 it ka l l1 l2 pa pb:PySem.Addr}{kx name px eH x:PySem.Str}{pins:List<|PySem.Addr×PySem.Obj}{apos fu p0 np p1 p2 p3 p4 p5 pos fy tp:PySem.Pos}{st:PySem.Stmt}{mR es kt:List PySem.Expr}{body:List PySem.Stmt}{B lo:Int}{mA mg:PySem.Str->Option PySem.Value}{fd:PySem.FuncData}{ps:List PySem.Str}{fx scope:PySem.Scope}{outer:List PySem.Env}{ct ir lk fv kb qs:List<|Nat×Nat}{an od:Option PySem.Addr}{nE:Array<|Option PySem.Value}{prog:PySem.Program}{env:PySem.Env}{rks:List Int}
namespace L2
open PySem PySem.Spec PyProof.Rows
abbrev jf:=Sum Int Str
def lB:jf->Value->Bool
 |.inl k,v=>Value.isInt k v
 |.inr x,v=>Value.isStrOf x v
def Lb(w:World):jf->Int
 |.inl k=>hashInt k
 |.inr x=>hashStr w x
theorem vd:∀{k:jf} {v:Value},lB k v=true->(∃i t,k=Sum.inl i/\v=Value.int i t)\/(∃x t,k=Sum.inr x/\v=Value.str x t)
 |.inl i,v,h=>by obtain⟨t,e⟩:=Value.isInt_shape (k:=i) (v:=v) h;exact .inl ⟨i,t,rfl,e⟩
 |.inr x,v,h=>by obtain⟨t,e⟩:=Value.isStrOf_shape (x:=x) (v:=v) h;exact .inr ⟨x,t,rfl,e⟩
theorem Lc(i:Int)(t:Tok):lB (.inl i) (.int i t)=true:=by simp[lB,Value.isInt]
theorem Ld(x:Str)(t:Tok):lB (.inr x) (.str x t)=true:=by simp[lB,Value.isStrOf]
theorem Le(a b:Int):decide ((Sum.inl a:jf)=Sum.inl b)=(a==b):=by
 by_cases e:a=b
 ·subst e;simp
 ·have h:¬(Sum.inl a:jf)=Sum.inl b:=λq=>e<|Sum.inl.inj q;rw[AE h];exact(beq_eq_false_iff_ne.mpr e).symm
theorem Lf(a b:Str):decide ((Sum.inr a:jf)=Sum.inr b)=decide (a=b):=by
 by_cases e:a=b
 ·subst e;simp
 ·have h:¬(Sum.inr a:jf)=Sum.inr b:=λq=>e<|Sum.inr.inj q;rw[AE h,AE e]
theorem Lg(a:Int)(b:Str):decide ((Sum.inl a:jf)=Sum.inr b)=false:=AE λq=>nomatch q
theorem Lh(a:Str)(b:Int):decide ((Sum.inr a:jf)=Sum.inl b)=false:=AE λq=>nomatch q
def v5(prog:Program)(w:World):PySem.KeyKind prog w jf where
 is:=lB
 hash:=Lb w
 inj:=λv a b g U=>by
  rcases vd g with⟨i,t,rfl,rfl⟩|⟨x,t,rfl,rfl⟩
  ·rcases vd U with⟨j,u,rfl,e⟩|⟨y,u,rfl,e⟩
   ·injection e with I _;rw[I]
   ·exact nomatch e
  ·rcases vd U with⟨j,u,rfl,e⟩|⟨y,u,rfl,e⟩
   ·exact nomatch e
   ·injection e with I _;rw[I]
 byValue:=λk v h=>by rcases vd h with⟨i,t,rfl,rfl⟩|⟨x,t,rfl,rfl⟩<;>rfl
 pyHash:=λJ h=>by
  rcases vd J with⟨i,t,rfl,rfl⟩|⟨x,t,rfl,rfl⟩
  ·exact wpAny_pyHash_int h
  ·exact wpAny_pyHash_str h
 eqBool:=λl J h=>by
  rcases vd l with⟨i,t,rfl,rfl⟩|⟨x,t,rfl,rfl⟩
  ·rcases vd J with⟨j,u,rfl,rfl⟩|⟨y,u,rfl,rfl⟩
   ·rw[Le] at h;exact wpAny_eqBool_int h
   ·rw[Lg] at h;exact SeqAt.EqAt.int_str i t y u _ _ _ _ h
  ·rcases vd J with⟨j,u,rfl,rfl⟩|⟨y,u,rfl,rfl⟩
   ·rw[Lh] at h;exact SeqAt.EqAt.str_int x t j u _ _ _ _ h
   ·rw[Lf] at h;exact wpAny_eqBool_str h
 «strs» := λk x t v h=>by
  rcases vd h with⟨i,u,rfl,e⟩|⟨y,u,rfl,e⟩
  ·exact nomatch e
  ·injection e with I _
   subst I;cases v<;>rfl
theorem rq(prog:Program)(w:World)(i:Int)(t:Tok):(v5 prog w).is (.inl i) (.int i t)=true:=Lc i t
theorem tT(prog:Program)(w:World)(x:Str)(t:Tok):(v5 prog w).is (.inr x) (.str x t)=true:=Ld x t
set_option genInjectivity true in
inductive V where
 |non|bl (b:Bool)|int (i:Int)|str (x:Str)|byt (b:Array UInt8)|flt (b:UInt64)|ref (a:Addr)|ty (n:String)
 deriving DecidableEq
def zv:V->Value->Prop
 |.non,u=>u=Value.none
 |.bl b,u=>u=Value.bool b
 |.int i,u=>∃t,u=Value.int i t
 |.str x,u=>∃t,u=Value.str x t
 |.byt b,u=>∃t,u=Value.bytes b t
 |.flt b,u=>∃t,u=Value.float b t
 |.ref a,u=>u=Value.ref a
 |.ty n,u=>u=Value.type n
abbrev zw:List V->List Value->Prop:=Paired zv
theorem zw.length{xs:List V}(r:zw xs us):xs.length=us.length:=Paired.length r
theorem zw.get:∀{xs:List V} {us:List Value} {i:Nat} {x:V},zw xs us->xs[i]?=some x->∃u,us[i]?=some u/\zv x u
 |_,_,_,_,.nil,e=>by simp at e
 |_,_,0,_,.cons r _,e=>by simp at e;subst e;exact⟨_,rfl,r⟩
 |_,_,i+1,x,.cons _ t,e=>by obtain⟨u,h1,h2⟩:=zw.get (i:=i) (x:=x) t (by simpa using e);exact⟨u,by simpa using h1,h2⟩
theorem zw.set{x:V}{u:Value}(r:zv x u):∀{xs:List V} {us:List Value} (i:Nat),zw xs us->zw (xs.set i x) (us.set i u)
 |_,_,_,.nil=>.nil
 |_,_,0,.cons _ t=>.cons r t
 |_,_,i+1,.cons q t=>.cons q<|zw.set r i t
theorem zw.append:∀{xs ys:List V} {us I:List Value},zw xs us->zw ys I->zw (xs++ys) (us++I):=by
 intro xs ys us I h s
 induction h with|nil=>exact s|cons r t J=>exact .cons r J
theorem zw.take:∀{xs:List V} {us:List Value} (n:Nat),zw xs us->zw (xs.take n) (us.take n)
 |_,_,0,_=>.nil
 |_,_,_+1,.nil=>.nil
 |_,_,n+1,.cons r t=>.cons r<|zw.take n t
theorem zw.drop:∀{xs:List V} {us:List Value} (n:Nat),zw xs us->zw (xs.drop n) (us.drop n)
 |_,_,0,r=>r
 |_,_,_+1,.nil=>.nil
 |_,_,n+1,.cons _ t=>zw.drop n t
def i0:Option V->Option Value->Prop
 |some v,some u=>zv v u
 |none,none=>True
 |_,_=>False
def KV :List (κ×V)->List (κ×Value)->Prop:=Paired λ(p:κ×V) (q:κ×Value)=>p.1=q.1/\zv p.2 q.2
def kV:jf->V
 |.inl i=>.int i
 |.inr x=>.str x
inductive HO where
 |lst (xs:List V)
 |tup (xs:List V)
 |dK (kvs:List<|jf×V)|dT (kvs:List<|List jf×V)
 |set (S:Int->Bool) (n:Nat)
 |ins (C dx:Addr) (fs:List<|Str×V)
 |own (x:Addr)
 |xd (fs:List<|Str×V)
 |met (f x:Addr)
 |rng (lo hi:Int)
 |frz (o:Obj) (u:HO)
 |tbl (ps:Array Value)
 |ext (φ:Heap->Prop)
abbrev Hp:=Addr->Option HO
def upd(H:Hp)(a:Addr)(o:HO):Hp:=λb=>if b=a then some o else H b
theorem zk{H:Hp}{a:Addr}{o:HO}:upd H a o a=some o:=by unfold upd;rw[AB rfl]
theorem qr{H:Hp}{a b:Addr}{o:HO}(h:b≠a):upd H a o b=H b:=by unfold upd;rw[AC h]
theorem yL{H:Hp}{a:Addr}{o u:HO}:upd (upd H a o) a u=upd H a u:=by funext b;unfold upd;split<;>rfl
theorem Li{H:Hp}{a b:Addr}{o u:HO}(h:H a=some o)(h':H b=some u)(d:o≠u):a≠b:=by intro e;subst e;rw[h] at h';exact d<|Bc h'
theorem zo{H:Hp}{a b:Addr}{o:HO}(h:H a=some o)(h':H b=none):a≠b:=by intro e;subst e;rw[h] at h';cases h'
section
variable (P:Program)(w:World)
def xo(H:Hp)(h:Heap)(a:Addr):HO->Prop
 |.lst xs=>xs.length<=sizeLine/\∃(eA:List Value) (n:Nat),zw xs eA/\h.get? a=some { cls:=.type "list",data:=.seq eA.toArray n }
 |.tup xs=>xs.length<=sizeLine/\∃eA:List Value,zw xs eA/\IsTup h a eA.toArray
 |.dK kvs=>kvs.length<=sizeLine/\(a==sysModules)=false/\∃vs,KV kvs vs/\h.DictOf (v5 P w) a vs
 |.dT kvs=>kvs.length<=sizeLine/\(a==sysModules)=false/\∃xs:List (List jf×Addr×Value),
  Paired (λ(p:List jf×V) (q:List jf×Addr×Value)=>p.1=q.1/\H q.2.1=some (.tup<|p.1.map kV)/\zv p.2 q.2.2) kvs xs/\
  ∃o es J,h.get? a=some o/\o.ExactDict/\o.data=.dict es J/\es.toList=xs.map (entryOfKey<|tupleKind<|v5 P w)/\(xs.map (·.1)).Nodup
 |.set S n=>h.SetOf (intKind P w) a S n
 |.ins C dx fs=>H dx=some (.own a)/\fs.length<=1000/\dx≠a/\h.get? a=some (PySem.W.instObj C dx)/\
  ∃mA,h.Ns1 dx mA/\(∀f,i0 (fs.lookup f)<|mA f)/\PySem.Within mA (fs.map (·.1))
 |.own _=>∃o,h.get? a=some o
 |.xd fs=>∃mA,h.Ns1 a mA/\∀f,i0 (fs.lookup f)<|mA f
 |.rng lo hi=>∃t u v,h.get? a=some { cls:=.type "range",data:=.fields #[.int lo t,.int hi u,.int 1 v] }
 |.frz o u=>h.get? a=some o/\xo H h a u
 |.tbl ps=>h.get? a=some { cls:=.none,data:=.fields ps }
 |.met f x=>h.get? a=some (PySem.W.methodObj (.ref f)<|.ref x)
 |.ext I=>I h/\(∃o,h.get? a=some o)/\∀h1 h2:Heap,I h1->(∀o,h1.get? a=some o->h2.get? a=some o)->I h2
def dZ(H:Hp)(h:Heap):Prop:=∀a o,H a=some o->xo P w H h a o
end
section
variable {P:Program}{w:World}{H H':Hp}{a:Addr}{o:HO}
theorem xo.lt(x:xo P w H h a o):a<h.objs.size:=by
 cases o with
 |lst J=>obtain⟨_,_,_,_,e⟩:=x;exact um e
 |tup J=>obtain⟨_,_,_,p⟩:=x;exact p.lt
 |dK I=>obtain⟨_,_,_,_,o,_,_,e,_⟩:=x;exact um e
 |dT I=>obtain⟨_,_,_,_,o,_,_,e,_⟩:=x;exact um e
 |set S n=>obtain⟨o,_,_,_,e,_⟩:=x;exact um e
 |ins C U fs=>obtain⟨_,_,_,e,_⟩:=x;exact um e
 |own y=>obtain⟨_,e⟩:=x;exact um e
 |xd fs=>obtain⟨_,⟨_,_,_,e,_⟩,_⟩:=x;exact um e
 |rng lo g=>obtain⟨_,_,_,e⟩:=x;exact um e
 |frz ob u=>obtain⟨e,_⟩:=x;exact um e
 |tbl j=>exact um<|show h.get? a=some _ from x
 |met f y=>exact um<|show h.get? a=some _ from x
 |ext l=>obtain⟨_,⟨_,e⟩,_⟩:=x;exact um e
theorem Paired.mapP{F G:α->β->Prop}:∀{l₁:List α} {l₂:List β},Paired F l₁ l₂->(∀a b,F a b->G a b)->Paired G l₁ l₂:=by
 intro l₁ l₂ h f
 induction h with|nil=>exact .nil|cons r t I=>exact .cons (f _ _ r) I
abbrev EI:=@Paired.mapP
theorem xo.stay(x:xo P w H h a o)(k:∀b u,(b=a\/H b=some (.own a))->h.get? b=some u->h'.get? b=some u)
 (ho:∀b,H b=some (.own a)->H' b=some (.own a)) (ht:∀b xs,H b=some (.tup xs)->H' b=some (.tup xs)):xo P w H' h' a o:=by
 induction o with
 |lst xs=>obtain⟨z,U,n,r,e⟩:=x;exact⟨z,U,n,r,k _ _ (.inl rfl) e⟩
 |tup xs=>obtain⟨z,U,r,ob,e,c⟩:=x;exact⟨z,U,r,ob,k _ _ (.inl rfl) e,c⟩
 |dK g=>obtain⟨z,y,vs,r,ob,I,J,e,c⟩:=x;exact⟨z,y,vs,r,ob,I,J,k _ _ (.inl rfl) e,c⟩
 |dT g=>
  obtain⟨z,y,xs,r,ob,I,J,e,c⟩:=x;exact⟨z,y,xs,EI r λp q z=>⟨z.1,ht _ _ z.2.1,z.2.2⟩,ob,I,J,k _ _ (.inl rfl) e,c⟩
 |set S n=>obtain⟨ob,I,J,t,e,c⟩:=x;exact⟨ob,I,J,t,k _ _ (.inl rfl) e,c⟩
 |ins C dx fs=>
  obtain⟨d,z,ne,e,j,⟨l,I,J,e2,c⟩,r⟩:=x;exact⟨ho _ d,z,ne,k _ _ (.inl rfl) e,j,⟨l,I,J,k _ _ (.inr d) e2,c⟩,r⟩
 |own y=>obtain⟨ob,e⟩:=x;exact⟨ob,k _ _ (.inl rfl) e⟩
 |xd fs=>obtain⟨j,⟨l,I,J,e,c⟩,r⟩:=x;exact⟨j,⟨l,I,J,k _ _ (.inl rfl) e,c⟩,r⟩
 |rng lo hi=>obtain⟨t,u,v,e⟩:=x;exact⟨t,u,v,k _ _ (.inl rfl) e⟩
 |frz ob u ih=>obtain⟨e,q⟩:=x;exact⟨k _ _ (.inl rfl) e,ih q⟩
 |tbl T=>
  have e:h.get? a=some { cls:=.none,data:=.fields T }:=x;show h'.get? a=some { cls:=.none,data:=.fields T };exact k a _ (.inl rfl) e
 |met f y=>
  have e:h.get? a=some (PySem.W.methodObj (.ref f)<|.ref y):=x;show h'.get? a=some (PySem.W.methodObj (.ref f)<|.ref y);exact k a _ (.inl rfl) e
 |ext φ=>obtain⟨p,⟨o,e⟩,st⟩:=x;exact⟨st _ _ p λo q=>k _ _ (.inl rfl) q,⟨o,k _ _ (.inl rfl) e⟩,st⟩
theorem dZ.lt(x:dZ P w H h)(e:H a=some o):a<h.objs.size:=(x a o e).lt
theorem dZ.fresh(x:dZ P w H h)(e:h.objs.size<=a):H a=none:=by cases q:H a with|none=>rfl|some u=>exact absurd (AQ (x.lt q) e)<|CF _
theorem dZ.kept(x:dZ P w H h)(k:∀b u,h.get? b=some u->h'.get? b=some u):dZ P w H h':=λa o e=>
 (x a o e).stay (λb u _ q=>k b u q) (λ_ q=>q) λ_ _ q=>q
theorem dZ.laid(x:dZ P w H h)(k:∀b u,h.get? b=some u->h'.get? b=some u)(U:h.objs.size<=a)(new:xo P w (upd H a o) h' a o):dZ P w (upd H a o) h':=λb u e=>by
 have I:=x.fresh U;by_cases J:b=a
 ·subst J;rw[zk] at e;cases e;exact new
 ·rw[qr J] at e;exact(x b u e).stay (λc v _ q=>k c v q) (λc q=>by rw[qr<|zo q I];exact q) λc g q=>by rw[qr<|zo q I];exact q
end
def Rd(H:Hp)(a:Addr)(u:HO):Prop:=H a=some u\/∃o,H a=some (.frz o u)
theorem Rd.ok{P:Program}{w:World}{H:Hp}{a:Addr}{u:HO}(r:Rd H a u)(x:dZ P w H h):xo P w H h a u:=by
 rcases r with r|⟨o,r⟩
 ·exact x a u r
 ·obtain⟨_,q⟩:=x a _ r;exact q
def Eb:Option HO->Prop
 |some (.lst _)=>True
 |some (.dK _)=>True
 |some (.dT _)=>True
 |some (.set _ _)=>True
 |some (.ins _ _ _)=>True
 |some (.ext _)=>True
 |_=>False
section
variable {P:Program}{w:World}{H:Hp}{x e:Addr}{o':HO}
theorem dZ.write(ok:dZ P w H h)(g:Eb<|H x)(t:e=x\/H e=some (.own x))(k:∀b u,b≠e->h.get? b=some u->h'.get? b=some u)(p:∃u,h'.get? e=some u)
 (new:xo P w (upd H x o') h' x o'):dZ P w (upd H x o') h':=λb u q=>by
 have J:∀c y,H c=some (.own y)->c≠x:=λc y r z=>by subst z;rw[r] at g;exact g
 have U:∀c j,H c=some (.tup j)->c≠x:=λc j r z=>by subst z;rw[r] at g;exact g
 by_cases l:b=x
 ·subst l;rw[zk] at q;cases q;exact new
 ·rw[qr l] at q;by_cases I:b=e
  ·have C:H b=some (.own x):=by
    rcases t with z|z
    ·exact absurd (I.trans z) l
    ·rw[I];exact z
   rw[q] at C;cases C;obtain⟨v,T⟩:=p;exact⟨v,by rw[I];exact T⟩
  ·refine(ok b u q).stay (λc v o r=>k c v ?_ r) (λc r=>by rw[qr<|J c b r];exact r) λc j r=>by rw[qr<|U c j r];exact r
   rcases o with rfl|o
   ·exact I
   ·rintro rfl;rcases t with z|z
    ·exact J c b o z
    ·rw[o] at z;cases z;exact l rfl
end
structure Un(fs ex:List Addr)(H H':Hp)(h h':Heap):Prop where
 keep:∀b o,h.get? b=some o->H b=none->b∉fs->b∉ex->h'.get? b=some o
 slot:∀b o,h.get? b=some o->H b=none->b∈fs->b∉ex->∃sl,h'.get? b=some { o with slots:=sl }
 free:∀b o,h.get? b=some o->H b=none->b∉ex->H' b=none
 there:∀b o,h.get? b=some o->b∉ex->∃o',h'.get? b=some o'
 tups:∀b xs,H b=some (.tup xs)->H' b=some (.tup xs)
 frzs:∀b o u,H b=some (.frz o u)->H' b=some (.frz o u)
 tbls:∀b ps,H b=some (.tbl ps)->∃more,H' b=some (.tbl<|ps++more)
section
variable {fs fs' ex ex':List Addr}{H H1 H2:Hp}{h1 h2:Heap}{a x e:Addr}{o:HO}
theorem Un.any(u:Un fs ex H H1 h h1){b:Addr}{ob:Obj}(q:h.get? b=some ob)(n:H b=none)(I:b∉ex):∃U,h1.get? b=some { ob with slots:=U }:=by
 by_cases J:b∈fs
 ·exact u.slot b ob q n J I
 ·exact⟨ob.slots,u.keep b ob q n J I⟩
theorem Un.kept(k:∀b u,h.get? b=some u->h'.get? b=some u):Un fs ex H H h h':=
 ⟨λb ob q _ _ _=>k b ob q,λb ob q _ _ _=>⟨ob.slots,k b ob q⟩,λ_ _ _ n _=>n,λb ob q _=>⟨ob,k b ob q⟩,λ_ _ q=>q,λ_ _ _ q=>q,λ_ I q=>⟨#[],by rw[q];simp⟩⟩
theorem Un.refl:Un fs ex H H h h:=Un.kept λ_ _ q=>q
theorem Un.laid(k:∀b u,h.get? b=some u->h'.get? b=some u)(J:h.objs.size<=a)(I:H a=none):Un fs ex H (upd H a o) h h' where
 keep:=λb u q _ _ _=>k b u q
 slot:=λb u q _ _ _=>⟨u.slots,k b u q⟩
 free:=λb u q n _=>by rw[qr<|A9<|AQ (um q) J];exact n
 there:=λb u q _=>⟨u,k b u q⟩
 tups:=λb U q=>by rw[qr<|zo q I];exact q
 frzs:=λb u U q=>by rw[qr<|zo q I];exact q
 tbls:=λb g q=>⟨#[],by rw[qr<|zo q I,q];simp⟩
theorem Un.write(J:Eb<|H x)(p:e=x\/H e=some (.own x))(k:∀b u,b≠e->h.get? b=some u->h'.get? b=some u)(U:∃u,h'.get? e=some u):Un fs ex H (upd H x o) h h':=by
 have j:∀b,H b=none->b≠x:=λb n z=>by subst z;rw[n] at J;exact J
 have l:∀b,H b=none->b≠e:=λb n z=>by
  subst z;rcases p with r|r
  ·exact j b n r
  ·rw[n] at r;cases r
 have g:∀b u,H b=some u->¬Eb (some u)->b≠x:=λb u q nm z=>by subst z;rw[q] at J;exact nm J
 refine⟨λb u q n _ _=>k b u (l b n) q,λb u q n _ _=>⟨u.slots,k b u (l b n) q⟩,λb u q n _=>by rw[qr<|j b n];exact n,λb u q _=>?_,
  λb t q=>by rw[qr<|g b _ q λz=>z];exact q,λb u t q=>by rw[qr<|g b _ q λz=>z];exact q,λb C q=>⟨#[],by rw[qr<|g b _ q λz=>z,q];simp⟩⟩
 by_cases I:b=e
 ·subst I;exact U
 ·exact⟨u,k b u I q⟩
end
def Fl(h:Heap)(H:Hp):List Addr:=(List.range h.objs.size).filter λa=>(H a).isSome
def pC(h:Heap)(H:Hp):Heap:=PySem.W.hideAll h<|Fl h H
theorem zA(h:Heap)(H:Hp):(pC h H).objs.size=h.objs.size:=PySem.W.hideAll_size _ _
theorem Lj{H:Hp}{b:Addr}{o:Obj}(e:h.get? b=some o)(n:H b=none):(pC h H).get? b=some o:=
 C0 _ e λI=>by have q:(H b).isSome=true:=(AK.mp I).2;rw[n] at q;simp at q
theorem Lk{H:Hp}{b:Addr}{o:Obj}(e:(pC h H).get? b=some o):h.get? b=some o/\H b=none:=by
 have I:h.get? b=some o:=Cz (Fl h H) e;refine⟨I,?_⟩;cases q:H b with
 |none=>rfl
 |some x=>
  have J:b∈Fl h H:=AK.mpr ⟨A7.mpr<|um I,by simp[q]⟩;have z:(pC h H).get? b=none:=BW (Fl h H) J;rw[z] at e;cases e
end L2
variable {xs zs:List L2.V}{H H' H₀:L2.Hp}
namespace L2
open PySem PySem.Spec PyProof.Rows
structure Mod(K:Af)(mg:Str->Option Value)(base:Heap):Prop where
 kin:K.In base
 glob:base.Ns mainGlobals mg
 blt:∃mb,base.Ns builtinsNs mb/\∀x:Str,x ≠ "__name__" -> mb x=bootBuiltins x
 nolimit:base.NoLimit
structure Cx where
 prog:Program
 w:World
 K:Af
 mg:Str->Option Value
 base:Heap
 A:Around
 N:List Str
 s₀:Shared
 H₀:Hp
 env:Env
 outer:List Env
 stack:List Env
 ex:List Addr
 fn:Str->Bool
 calm:Bool
 pn:List (Addr×Obj)
 xe:Value->Shared->Prop
def bT(l:List Env):List Addr:=l.filterMap (·.frame)
abbrev Cx.fs(X:Cx):List Addr:=bT X.outer
def y_(I:Scope)(x:Str):Prop:=I.names.lookup x=some .local\/I.names.lookup x=some .cell\/I.names.lookup x=some .free
def Loc(I:Scope)(x:Str):Prop:=I.names.lookup x=some .local\/I.names.lookup x=some .cell
def Ll(env:Env)(h:Heap)(m:Str->Option Value)(x:Str)(u:Value):Prop:=
 (env.kindOf x=some .local/\m x=some u)\/((env.kindOf x=some .cell\/env.kindOf x=some .free)/\∃c,env.cells.lookup x=some c/\h.IsCell c (some u))
structure Cx.Ok(X:Cx):Prop where
 mod:Mod X.K X.mg X.base
 kind:X.env.scope.kind=.function
 glob:X.env.globals=mainGlobals
 blt:X.env.builtins=builtinsNs
 above:X.s₀.heap.objs.size<=X.env.locals
 inj:∀x y c,X.env.cells.lookup x=some c->X.env.cells.lookup y=some c->x=y
 has:∀x,(X.env.kindOf x=some .cell\/X.env.kindOf x=some .free)->∃c,X.env.cells.lookup x=some c
 cab:∀x c,X.fn x=true->X.env.cells.lookup x=some c->X.s₀.heap.objs.size<=c
 hd:X.calm=true->X.A.handled=none
 frames:X.A.frames=some X.stack
 stk:X.stack=X.outer\/(X.stack=X.env::X.outer/\X.env.frame=some X.env.locals)
 exf:∀b∈X.ex,b≠X.env.locals/\∀x c,X.env.cells.lookup x=some c->c≠b
 bs:∀b o,X.base.get? b=some o->X.s₀.heap.get? b=some o/\X.H₀ b=none
 bsz:X.base.objs.size<=X.s₀.heap.objs.size
 noex:∀b o,X.base.get? b=some o->b∉X.ex
 exfs:∀b∈X.ex,b∉X.fs
 funs:X.s₀.heap.FunFrames X.base X.outer
 frf:∀b∈X.fs,X.H₀ b=none
structure qx(X:Cx)(pins:List<|Addr×Obj)(σ:List<|Option V)(H:Hp)(s:Shared):Prop where
 ok:X.Ok
 os:s.os=X.s₀.os
 bare:AllBare s.gens
 base:Un X.fs X.ex X.H₀ H X.s₀.heap s.heap
 loc:∃m,s.heap.Ns X.env.locals m/\∀(i:Nat) (x:Str) (v:V),X.N[i]?=some x->σ[i]?=some (some v)->y_ X.env.scope x->∃u,zv v u/\Ll X.env s.heap m x u
 cell:∀x c,X.env.cells.lookup x=some c->∃v,s.heap.IsCell c v
 free:H X.env.locals=none
 freeC:∀x c,X.env.cells.lookup x=some c->H c=none
 pin:∀p∈X.pn++pins,s.heap.get? p.1=some p.2/\H p.1=none/\p.1≠X.env.locals/\p.1∉X.fs/\∀v,p.2.data≠.cell v
 hok:dZ X.prog X.w H s.heap
 len:σ.length=X.N.length
 tk:0<s.toks
section
variable {X:Cx}{σ:List<|Option V}
theorem Cx.Ok.nofr(ok:X.Ok){b:Addr}{o:Obj}(e:X.base.get? b=some o):b∉X.fs:=λI=>by have:=(ok.funs.mem I).1;rw[e] at this;cases this
theorem qx.bs(I:qx X pins σ H s):∀b o,X.base.get? b=some o->s.heap.get? b=some o/\H b=none:=λb o e=>
 ⟨I.base.keep b o (I.ok.bs b o e).1 (I.ok.bs b o e).2 (I.ok.nofr e)<|I.ok.noex b o e,I.base.free b o (I.ok.bs b o e).1 (I.ok.bs b o e).2<|I.ok.noex b o e⟩
theorem qx.bk(I:qx X pins σ H s):∀b o,X.base.get? b=some o->s.heap.get? b=some o:=λb o e=>(I.bs b o e).1
theorem qx.mod(I:qx X pins σ H s):Mod X.K X.mg X.base:=I.ok.mod
theorem qx.kIn(I:qx X pins σ H s):X.K.In s.heap:=I.ok.mod.kin.keeps I.bk
theorem qx.nolimit(I:qx X pins σ H s):s.heap.NoLimit:=I.ok.mod.nolimit.keeps I.bk
theorem qx.lt(I:qx X pins σ H s):X.env.locals<s.heap.objs.size:=let ⟨_,J,_⟩:=I.loc;J.lt
theorem qx.sz(I:qx X pins σ H s):X.s₀.heap.objs.size<=s.heap.objs.size:=AZ I.ok.above<|BL I.lt
theorem qx.nofs(I:qx X pins σ H s){a:Addr}(h:s.heap.objs.size<=a):a∉X.fs:=λJ=>by obtain⟨_,o,U,_⟩:=I.ok.funs.mem J;exact absurd (AQ (um U)<|AZ I.sz h)<|CF _
theorem qx.cne(I:qx X pins σ H s):∀x c,X.env.cells.lookup x=some c->c≠X.env.locals:=λx c e z=>by obtain⟨v,o,g,hd⟩:=I.cell x c e;obtain⟨m,⟨j,l,p,J,U,_⟩,_⟩:=I.loc;rw[z,J] at g;cases g;rw[U] at hd;cases hd
theorem qx.funs(I:qx X pins σ H s):s.heap.FunFrames X.base X.outer:=by
 have all:∀(l:List Env),(∀b∈bT l,b∈X.fs)->X.s₀.heap.FunFrames X.base l->s.heap.FunFrames X.base l:=by
  intro l
  induction l with
  |nil=>intro _ _;trivial
  |cons p r t=>
   intro j C;obtain⟨T,⟨L,o,J,hn,ho,hd⟩,hr⟩:=C;have U:L∈X.fs:=j L (by unfold bT;rw[C1,J];exact Ak);obtain⟨sl,e⟩:=I.base.slot L o ho (I.ok.frf L U) U λz=>I.ok.exfs L z U;exact⟨T,⟨L,_,J,hn,e,hd⟩,t (λb g=>j b (by unfold bT;rw[C1,J];exact Ac _ g)) hr⟩
 exact all X.outer (λ_ g=>g) I.ok.funs
theorem qx.stack(I:qx X pins σ H s):s.heap.FunFrames X.base X.stack:=by
 rcases I.ok.stk with e|⟨e,J⟩
 ·rw[e];exact I.funs
 ·rw[e];obtain⟨m,U,_⟩:=I.loc;refine .cons (by rw[I.ok.kind];decide) J U ?_ I.funs;exact Heap.get?_none_of_le<|AZ I.ok.bsz I.ok.above
theorem qx.stkSub(I:qx X pins σ H s):∀b∈bT X.stack,b∈X.env.locals::X.fs:=λb J=>by
 rcases I.ok.stk with e|⟨e,U⟩
 ·rw[e] at J;exact Ac _ J
 ·rw[e] at J;unfold bT at J;rw[C1,U] at J;exact J
theorem qx.stkFree(I:qx X pins σ H s):∀b∈bT X.stack,H b=none:=λb J=>by
 rcases Am.mp (I.stkSub b J) with e|J
 ·rw[e];exact I.free
 ·obtain⟨_,o,U,_⟩:=I.ok.funs.mem J;exact I.base.free b o U (I.ok.frf b J) λz=>I.ok.exfs b z J
theorem qx.step{g':Array GenState}{d':Drawn}(I:qx X pins σ H s)
 (U:∀b∈ch,(b∈X.ex\/X.s₀.heap.objs.size<=b)/\b≠X.env.locals/\(∀x c,X.env.cells.lookup x=some c->c≠b)/\∀p∈X.pn++pins,p.1≠b)
 (keep:∀b o,b≠X.env.locals->b∉X.fs->b∉ch->s.heap.get? b=some o->H b=none->h'.get? b=some o)
 (slot:∀b o,b≠X.env.locals->b∈X.fs->b∉ch->s.heap.get? b=some o->H b=none->∃sl,h'.get? b=some { o with slots:=sl }) (free:∀b o,b∉ch->s.heap.get? b=some o->H b=none->H' b=none)
 (there:∀b o,b∉ch->s.heap.get? b=some o->∃o',h'.get? b=some o')
 (tups:∀b xs,H b=some (.tup xs)->H' b=some (.tup xs)) (frzs:∀b o u,H b=some (.frz o u)->H' b=some (.frz o u)) (tbls:∀b ps,H b=some (.tbl ps)->∃more,H' b=some (.tbl<|ps++more))
 (ns:∀m,s.heap.Ns X.env.locals m->h'.Ns X.env.locals m) (hok:dZ X.prog X.w H' h') (hg:AllBare g') (ht:0<t':=by walk_at "t"):
 qx X pins σ H' { s with heap:=h',gens:=g',drawn:=d',toks:=t' }:=by
 have bx:∀b o,X.s₀.heap.get? b=some o->b≠X.env.locals:=λb o e=>A9<|AQ (um e) I.ok.above;have t:∀b o,X.s₀.heap.get? b=some o->b∉X.ex->b∉ch:=λb o e J T=>by
  rcases (U b T).1 with z|z
  ·exact J z
  ·exact absurd (AQ (um e) z)<|CF _
 have g:∀x c,X.env.cells.lookup x=some c->∀v,s.heap.IsCell c v->h'.IsCell c v:=λx c e v ψ=>by
  obtain⟨o,ho,hd⟩:=ψ
  have j:c∉ch:=λz=>(U c z).2.2.1 x c e rfl;by_cases hc:c∈X.fs
  ·obtain⟨sl,q⟩:=slot c o (I.cne x c e) hc j ho<|I.freeC x c e;exact⟨_,q,hd⟩
  ·exact⟨o,keep c o (I.cne x c e) hc j ho<|I.freeC x c e,hd⟩
 refine⟨I.ok,I.os,hg,⟨λb o e n T J=>?_,λb o e n T J=>?_,λb o e n J=>?_,λb o e J=>?_,λb xs e=>tups b xs<|I.base.tups b xs e,λb o xs e=>frzs b o xs<|I.base.frzs b o xs e,λb ps e=>?_⟩,?_,λx c e=>?_,?_,λx c e=>?_,λp hp=>?_,hok,I.len,ht⟩
 ·exact keep b o (bx b o e) T (t b o e J) (I.base.keep b o e n T J)<|I.base.free b o e n J
 ·obtain⟨sl,C⟩:=I.base.slot b o e n T J;obtain⟨a1,e2⟩:=slot b _ (bx b o e) T (t b o e J) C<|I.base.free b o e n J;exact⟨a1,e2⟩
 ·obtain⟨o',C⟩:=I.base.there b o e J;exact free b o' (t b o e J) C<|I.base.free b o e n J
 ·obtain⟨o',C⟩:=I.base.there b o e J;exact there b o' (t b o e J) C
 ·obtain⟨m1,C⟩:=I.base.tbls b ps e;obtain⟨m2,e2⟩:=tbls b _ C;exact⟨m1++m2,by rw[e2,Array.append_assoc]⟩
 ·obtain⟨m,hn,hl⟩:=I.loc;refine⟨m,ns m hn,λi x v C e2 e3=>?_⟩;obtain⟨u,r,l⟩:=hl i x v C e2 e3;refine⟨u,r,?_⟩;rcases l with l|⟨k,c,e,z⟩
  ·exact .inl l
  ·exact .inr ⟨k,c,e,g x c e _ z⟩
 ·obtain⟨v,z⟩:=I.cell x c e;exact⟨v,g x c e v z⟩
 ·obtain⟨m,⟨o,_,_,ho,_⟩,_⟩:=I.loc;exact free _ o (λz=>(U _ z).2.1 rfl) ho I.free
 ·obtain⟨v,o,ho,hd⟩:=I.cell x c e;exact free c o (λz=>(U c z).2.2.1 x c e rfl) ho<|I.freeC x c e
 ·obtain⟨e,n,ne,nf,d⟩:=I.pin p hp;have j:p.1∉ch:=λz=>(U p.1 z).2.2.2 p hp rfl;exact⟨keep p.1 p.2 ne nf j e n,free p.1 p.2 j e n,ne,nf,d⟩
theorem qx.un(I:qx X pins σ H s)(u:Un X.fs [] H H' s.heap h')(hok:dZ X.prog X.w H' h')(T:0<t':=by walk_at "t"):qx X pins σ H' { s with heap:=h',toks:=t' }:=by obtain⟨m,⟨o,es,ep,l,r⟩,_⟩:=id I.loc;obtain⟨sl,p⟩:=u.any l I.free (by simp);exact I.step (g':=s.gens) (d':=s.drawn) (ch:=[]) (λ_ z=>nomatch z) (λb o _ U _ e n=>u.keep b o e n U (by simp)) (λb o _ U _ e n=>u.slot b o e n U (by simp)) (λb o _ e n=>u.free b o e n (by simp)) (λb o _ e=>u.there b o e (by simp)) u.tups u.frzs u.tbls (λm' t=>by obtain⟨o',g,j,J,C⟩:=t;rw[l] at J;cases J;exact⟨_,g,j,p,C⟩) hok I.bare
theorem qx.call{g':Array GenState}{d':Drawn}(I:qx X pins σ H s)(u:Un (bT X.stack) ch H H' s.heap h')(hok:dZ X.prog X.w H' h')(T:AllBare g')
 (U:∀b∈ch,(b∈X.ex\/X.s₀.heap.objs.size<=b)/\b≠X.env.locals/\(∀x c,X.env.cells.lookup x=some c->c≠b)/\∀p∈X.pn++pins,p.1≠b) (ht:0<t':=by walk_at "t"):
 qx X pins σ H' { s with heap:=h',gens:=g',drawn:=d',toks:=t' }:=by
 obtain⟨m,⟨o,es,ep,C,r⟩,_⟩:=id I.loc;obtain⟨sl,j⟩:=u.any C I.free λz=>(U _ z).2.1 rfl;exact I.step (ch:=ch) U (λb o j hb J e n=>u.keep b o e n (λz=>(Am.mp<|I.stkSub b z).elim j hb) J) (λb o _ _ J e n=>u.any e n J) (λb o J e n=>u.free b o e n J) (λb o J e=>u.there b o e J) u.tups u.frzs u.tbls (λm' hm=>by obtain⟨o',l,t,g,r'⟩:=hm;rw[C] at g;cases g;exact⟨_,l,t,j,r'⟩) hok T
theorem qx.turned(I:qx X pins σ H s)(k:∀b o,b≠it->s.heap.get? b=some o->h'.get? b=some o)(j:H it=none)(g:it≠X.env.locals)
 (h1:it∈X.ex\/X.s₀.heap.objs.size<=it) (h2:∀x c,X.env.cells.lookup x=some c->c≠it) (h3:∀p∈X.pn++pins,p.1≠it) (ht:0<t':=by walk_at "t"):qx X pins σ H { s with heap:=h',toks:=t' }:=by
 have U:∀b u,H b=some u->b≠it:=λb u e z=>by rw[z,j] at e;cases e
 refine I.step (g':=s.gens) (d':=s.drawn) (ch:=[it]) (λb l=>?_) (λb o _ _ J e _=>k b o (λz=>J (by simp[z])) e) (λb o _ _ J e _=>⟨o.slots,k b o (λz=>J (by simp[z])) e⟩) (λ_ _ _ _ n=>n)
  (λb o J e=>⟨o,k b o (λz=>J (by simp[z])) e⟩) (λ_ _ e=>e) (λ_ _ _ e=>e) (λb ps e=>⟨#[],by rw[e];simp⟩) (λm t=>?_) (λb u e=>?_) I.bare
 ·have e:b=it:=by simpa using l
  subst e;exact⟨h1,g,h2,h3⟩
 ·obtain⟨o,C,T,ho,r⟩:=t;exact⟨o,C,T,k _ o (AL g) ho,r⟩
 ·refine(I.hok b u e).stay (λc v J q=>k c v ?_ q) (λ_ q=>q) λ_ _ q=>q;rcases J with z|z
  ·rw[z];exact U b u e
  ·exact U c _ z
theorem qx.tok(I:qx X pins σ H s)(t:Nat)(J:0<t:=by walk_at "t"):qx X pins σ H { s with toks:=t }:=I.un (h':=s.heap) (t':=t) Un.refl I.hok
theorem qx.kept(I:qx X pins σ H s)(k:∀b u,s.heap.get? b=some u->h'.get? b=some u)(J:0<t':=by walk_at "t"):qx X pins σ H { s with heap:=h',toks:=t' }:=I.un (Un.kept k)<|I.hok.kept k
theorem qx.laid{a:Addr}{o:HO}(I:qx X pins σ H s)(k:∀b u,s.heap.get? b=some u->h'.get? b=some u)(J:s.heap.objs.size<=a)(new:xo X.prog X.w (upd H a o) h' a o)(U:0<t':=by walk_at "t"):
 qx X pins σ (upd H a o) { s with heap:=h',toks:=t' }:=I.un (Un.laid k J<|I.hok.fresh J)<|I.hok.laid k J new
theorem qx.write{x e:Addr}{o:HO}(I:qx X pins σ H s)(U:Eb<|H x)(g:e=x\/H e=some (.own x))(k:∀b u,b≠e->s.heap.get? b=some u->h'.get? b=some u)(J:∃u,h'.get? e=some u)
 (new:xo X.prog X.w (upd H x o) h' x o) (j:0<t':=by walk_at "t"):qx X pins σ (upd H x o) { s with heap:=h',toks:=t' }:=I.un (Un.write U g k J)<|I.hok.write U g k J new
theorem qx.weak{hE:List<|Option V}(I:qx X pins σ H s)(U:hE.length=σ.length)(w:∀(i:Nat) v,hE[i]?=some (some v)->σ[i]?=some (some v)):qx X pins hE H s:=
 ⟨I.ok,I.os,I.bare,I.base,let ⟨m,g,J⟩:=I.loc;⟨m,g,λi x v j l o=>J i x v j (w i v l) o⟩,I.cell,I.free,I.freeC,I.pin,I.hok,U.trans I.len,I.tk⟩
theorem qx.pins_of{J:List<|Addr×Obj}(I:qx X pins σ H s)(h:∀p∈J,s.heap.get? p.1=some p.2/\H p.1=none/\p.1≠X.env.locals/\p.1∉X.fs/\∀v,p.2.data≠.cell v):qx X J σ H s:=
 ⟨I.ok,I.os,I.bare,I.base,I.loc,I.cell,I.free,I.freeC,λp U=>(Aj.mp U).elim (λz=>I.pin p<|Ap _ z)<|h p,I.hok,I.len,I.tk⟩
theorem tN{N:List Str}(hN:N.Nodup)(a:N[i]?=some x)(b:N[j]?=some x):i=j:=by obtain⟨h1,I⟩:=AN.mp a;obtain⟨h2,J⟩:=AN.mp b;exact(Ec hN).mp (I.trans J.symm)
theorem o8{v:V}{Q:Unit->Shared->Prop}(I:qx X pins σ H s)(hN:X.N.Nodup)(hi:X.N[i]?=some x)(t:Loc X.env.scope x)(r:zv v u)
 (h:∀s',qx X pins (σ.set i<|some v) H s'->(∃a,Heap.SameBut a s.heap s'.heap/\(a=X.env.locals\/X.env.cells.lookup x=some a))->(X.env.kindOf x=some .local->∃m',s'.heap.Ns X.env.locals m'/\m' x=some u)->Q () s') (hf:X.fn x=true\/X.env.scope.names.lookup x=some .local:=by first|exact .inl rfl|exact .inr rfl|assumption):wpAny M A (storeName X.env x u) Q E s:=by
 obtain⟨m,hn,hl⟩:=id I.loc;have a4:(X.env.scope.kind==.class||(X.env.scope.kind==.module&&X.env.locals != X.env.globals))=false:=by rw[I.ok.kind];rfl
 have a1:i<σ.length:=by rw[I.len];exact(AN.mp hi).1
 have cne:=I.cne;have U:∀{a:Addr} {h':Heap},(∃o,s.heap.get? a=some o/\H a=none)->Heap.SameBut a s.heap h'->dZ X.prog X.w H h':=λ{a h'} ha J b ob e=>by
  obtain⟨_,_,C⟩:=ha;refine(I.hok b ob e).stay (λc w' l q=>(J.2 c ?_).trans q) (λ_ q=>q) λ_ _ q=>q;rintro rfl;rcases l with rfl|l
  ·rw[C] at e;cases e
  ·rw[C] at l;cases l
 rcases t with T|T
 ·refine wpAny_storeName_local T hn (λh' a5 J=>?_) a4;obtain⟨oL,_,_,ax,_⟩:=id hn;refine h _ ⟨I.ok,I.os,I.bare,⟨λb o e n hb t=>?_,λb o e n hb t=>?_,I.base.free,λb o e t=>?_,I.base.tups,I.base.frzs,I.base.tbls⟩,⟨_,a5,λj y v' g e2 e3=>?_⟩,λy c e=>?_,I.free,I.freeC,λp hp=>?_,U ⟨oL,ax,I.free⟩ J,by simpa using I.len,by first|exact I.tk|exact B3 _⟩ ⟨_,J,.inl rfl⟩ λ_=>⟨_,a5,by simp⟩
  ·exact(J.2 b<|A9<|AQ (um e) I.ok.above).trans (I.base.keep b o e n hb t)
  ·obtain⟨sl,g⟩:=I.base.slot b o e n hb t;exact⟨sl,(J.2 b<|A9<|AQ (um e) I.ok.above).trans g⟩
  ·obtain⟨o',g⟩:=I.base.there b o e t;exact⟨o',(J.2 b<|A9<|AQ (um e) I.ok.above).trans g⟩
  ·by_cases hj:j=i
   ·subst hj;rw[hi] at g;cases g;rw[BX a1] at e2;cases e2;exact⟨u,r,.inl ⟨T,by simp⟩⟩
   ·rw[Bd<|AL hj] at e2;obtain⟨u',r',q⟩:=hl j y v' g e2 e3;refine⟨u',r',?_⟩;rcases q with⟨k,e⟩|⟨k,c,e,z⟩
    ·refine .inl ⟨k,?_⟩;have:y≠x:=λe=>hj<|tN hN g<|e▸hi;simp[this,e]
    ·exact .inr ⟨k,c,e,z.sameBut J<|cne y c e⟩
  ·obtain⟨w',z⟩:=I.cell y c e;exact⟨w',z.sameBut J<|cne y c e⟩
  ·obtain⟨e,n,ne,nf,d⟩:=I.pin p hp;exact⟨(J.2 p.1 ne).trans e,n,ne,nf,d⟩
 ·have a3:X.fn x=true:=by
   rcases hf with z|z
   ·exact z
   ·rw[z] at T;cases T
  obtain⟨c,l⟩:=I.ok.has x<|.inl T;obtain⟨w',z⟩:=I.cell x c l;refine wpAny_storeName_cell I.ok.kind T l z λh' ac J=>?_;obtain⟨oc,al,au⟩:=id z;refine h { s with heap:=h' } ⟨I.ok,I.os,I.bare,⟨λb o e n hb t=>?_,λb o e n hb t=>?_,I.base.free,λb o e t=>?_,I.base.tups,I.base.frzs,I.base.tbls⟩,⟨m,hn.sameBut J<|AL<|cne x c l,λj y v' g e2 e3=>?_⟩,λy c' e=>?_,I.free,I.freeC,λp hp=>?_,U ⟨oc,al,I.freeC x c l⟩ J,by simpa using I.len,I.tk⟩ ⟨c,J,.inr l⟩ (λz=>by have e:=(show X.env.kindOf x=some .cell from T).symm.trans z;cases e)
  ·exact(J.2 b<|A9<|AQ (um e)<|I.ok.cab x c a3 l).trans (I.base.keep b o e n hb t)
  ·obtain⟨sl,g⟩:=I.base.slot b o e n hb t;exact⟨sl,(J.2 b<|A9<|AQ (um e)<|I.ok.cab x c a3 l).trans g⟩
  ·obtain⟨o',g⟩:=I.base.there b o e t;exact⟨o',(J.2 b<|A9<|AQ (um e)<|I.ok.cab x c a3 l).trans g⟩
  ·by_cases hj:j=i
   ·subst hj;rw[hi] at g;cases g;rw[BX a1] at e2;cases e2;exact⟨u,r,.inr ⟨.inl T,c,l,ac⟩⟩
   ·rw[Bd<|AL hj] at e2;obtain⟨u',r',q⟩:=hl j y v' g e2 e3;refine⟨u',r',?_⟩;rcases q with q|⟨k,c',e,z'⟩
    ·exact .inl q
    ·refine .inr ⟨k,c',e,z'.sameBut J ?_⟩;rintro rfl;exact hj<|tN hN g<|I.ok.inj _ _ _ e l▸hi
  ·by_cases av:c'=c
   ·subst av;exact⟨_,ac⟩
   ·obtain⟨w2,z2⟩:=I.cell y c' e;exact⟨w2,z2.sameBut J av⟩
  ·obtain⟨e,n,ne,nf,d⟩:=I.pin p hp;refine⟨(J.2 p.1 ?_).trans e,n,ne,nf,d⟩;intro q;rw[q,al] at e;have q':oc=p.2:=Bc e;exact d w' (by rw[<-q'];exact au)
theorem hU{v:V}{Q:Unit->Shared->Prop}(I:qx X pins σ H s)(hN:X.N.Nodup)(hi:X.N[i]?=some x)(J:Loc X.env.scope x)(r:zv v u)
 (h:∀s',qx X pins (σ.set i<|some v) H s'->Q () s') (U:X.fn x=true\/X.env.scope.names.lookup x=some .local:=by first|exact .inl rfl|exact .inr rfl|assumption):wpAny M A (storeName X.env x u) Q E s:=
 o8 I hN hi J r (λs' g _ _=>h s' g) U
theorem qx.call'(I:qx X pins σ H s)(U:s'.os=s.os)(u:Un (bT X.stack) ch H H' s.heap s'.heap)(hok:dZ X.prog X.w H' s'.heap)(g:AllBare s'.gens)
 (J:∀b∈ch,(b∈X.ex\/X.s₀.heap.objs.size<=b)/\b≠X.env.locals/\(∀x c,X.env.cells.lookup x=some c->c≠b)/\∀p∈X.pn++pins,p.1≠b) (j:0<s'.toks:=by walk_at "t"):qx X pins σ H' s':=by
 obtain⟨o,g',d',t',l⟩:=s';have e:l=s.os:=U;subst e;exact I.call (g':=g') (t':=t') (d':=d') u hok g J j
end
abbrev XK:=Value->Option Addr->Hp->Prop
abbrev St:=List<|Option V
abbrev VK:=V->Hp->Prop
abbrev TE:=St->Hp->VK->Prop
abbrev TT:=St->Hp->(Bool->Hp->Prop)->Prop
abbrev TA:=St->Hp->(List V->Hp->Prop)->Prop
structure qE where
 nx:St->Hp->Prop
 rt:VK
 bk:St->Hp->Prop:=λ_ _=>False
 ct:St->Hp->Prop:=λ_ _=>False
abbrev TS:=qE->St->Hp->Prop
def EP(X:Cx)(pins:List<|Addr×Obj)(σ:St)(Q:VK)(u:Value)(s':Shared):Prop:=∃v H',qx X pins σ H' s'/\zv v u/\Q v H'
def TP(X:Cx)(pins:List<|Addr×Obj)(σ:St)(Q:Bool->Hp->Prop)(b:Bool)(s':Shared):Prop:=∃H',qx X pins σ H' s'/\Q b H'
def AP(X:Cx)(pins:List<|Addr×Obj)(σ:St)(Q:List V->Hp->Prop)(us:List Value)(s':Shared):Prop:=∃vs H',qx X pins σ H' s'/\zw vs us/\Q vs H'
def SP(X:Cx)(pins:List<|Addr×Obj)(D:qE)(f:Flow)(s':Shared):Prop:=
 match f with
 |.next=>∃hE H',qx X pins hE H' s'/\D.nx hE H'
 |.brk=>∃hE H',qx X pins hE H' s'/\D.bk hE H'
 |.cont=>∃hE H',qx X pins hE H' s'/\D.ct hE H'
 |.ret u=>∃v hE H',qx X pins hE H' s'/\zv v u/\D.rt v H'
def PE(X:Cx)(e:Expr)(t:TE):Prop:=
 ∀(pins:List<|Addr×Obj) (s:Shared) (σ:St) (H:Hp) (Q:VK),qx X pins σ H s->t σ H Q->wpAny (model X.prog X.w) X.A (eval e X.env) (EP X pins σ Q) X.xe s
def PT(X:Cx)(e:Expr)(t:TT):Prop:=
 ∀(pins:List<|Addr×Obj) (s:Shared) (σ:St) (H:Hp) (Q:Bool->Hp->Prop),qx X pins σ H s->t σ H Q->wpAny (model X.prog X.w) X.A (isTrue e X.env<|eval e X.env) (TP X pins σ Q) X.xe s
def PW(X:Cx)(e:Expr)(t:TT):Prop:=
 ∀(whole:Sem Value) (pins:List<|Addr×Obj) (s:Shared) (σ:St) (H:Hp) (Q:Bool->Hp->Prop),qx X pins σ H s->t σ H Q->wpAny (model X.prog X.w) X.A (isTrue e X.env whole) (TP X pins σ Q) X.xe s
theorem PW.pt{X:Cx}{t:TT}(h:PW X e t):PT X e t:=h _
def PA(X:Cx)(es:List Expr)(t:TA):Prop:=
 ∀(pos:Pos) (pins:List<|Addr×Obj) (s:Shared) (σ:St) (H:Hp) (Q:List V->Hp->Prop),qx X pins σ H s->t σ H Q->wpAny (model X.prog X.w) X.A (spliced<|backTo pos<|starEach es X.env) (AP X pins σ Q) X.xe s
def PS(X:Cx)(st:Stmt)(t:TS):Prop:=
 ∀(pins:List<|Addr×Obj) (s:Shared) (σ:St) (H:Hp) (D:qE),qx X pins σ H s->t D σ H->wpAny (model X.prog X.w) X.A (exec st X.env) (SP X pins D) X.xe s
def gZ(X:Cx)(st:List Stmt)(t:TS):Prop:=
 ∀(pins:List<|Addr×Obj) (s:Shared) (σ:St) (H:Hp) (D:qE),qx X pins σ H s->t D σ H->wpAny (model X.prog X.w) X.A (execs st X.env) (SP X pins D) X.xe s
theorem aE{t:Sem α}{Q I:α->Shared->Prop}(h:wpAny M A t Q E s)(J:∀a s,Q a s->I a s):wpAny M A t I E s:=AX h J λ_ _ x=>x
theorem aa{t:Sem Value}{X:Cx}{σ:St}{Q:VK}{I:Value->Shared->Prop}(h:wpAny M A t (EP X pins σ Q) E s)(J:∀v s x H,qx X pins σ H s->zv x v->Q x H->I v s):wpAny M A t I E s:=aE h λv s ψ=>(by obtain⟨x,H,a,b,c⟩:=ψ;exact J v s x H a b c)
theorem zE{t:Sem<|List Value}{X:Cx}{σ:St}{Q:List V->Hp->Prop}{I:List Value->Shared->Prop}(h:wpAny M A t (AP X pins σ Q) E s)(J:∀v s x H,qx X pins σ H s->zw x v->Q x H->I v s):wpAny M A t I E s:=aE h λv s ψ=>(by obtain⟨x,H,a,b,c⟩:=ψ;exact J v s x H a b c)
end L2
variable {r:L2.V->Option Int->Option Int->L2.Hp->L2.VK->Prop}{X:L2.Cx}{σ:L2.St}{tc:L2.TT}
namespace L2
open PySem PySem.Spec PyProof.Rows
section
def FM(i:Nat):TE:=λσ H Q=>∃v,σ[i]?=some (some v)/\Q v H
def tC(v:V):TE:=λ_ H Q=>Q v H
abbrev Ey(x:Str):Prop:=(x==("__debug__":Str))=false
abbrev Ez(x:Str):Prop:=(x==("__classdict__":Str))=false
theorem Lm(hN:X.N[i]?=some x)(p:y_ X.env.scope x)(hd:Ey x:=by decide)(j:Ez x:=by decide):PE X (.Name x pos) (FM i):=by
 intro g s t H Q I h;obtain⟨v,e,h⟩:=h;obtain⟨m,C,T⟩:=I.loc;obtain⟨u,r,l⟩:=T i x v hN e p;have x8:EP X g t Q u s:=⟨v,H,I,r,h⟩;rcases l with⟨U,hm⟩|⟨U,c,o,J⟩
 ·exact wpAny_Name (wpAny_loadName_local I.ok.kind U C hm x8) hd
 ·rcases U with U|U
  ·exact wpAny_Name (wpAny_loadName_cell I.ok.kind U o J x8) hd
  ·exact wpAny_Name (wpAny_loadName_free I.ok.kind U o J x8 j) hd
theorem Ln{i j pos}:PE X (.Constant (.int i) j pos) (tC<|.int i):=λ_ _ _ H _ I h=>wpAny_Constant_int ⟨.int i,H,I.tok _,⟨_,rfl⟩,h⟩
theorem Lo{b j pos}:PE X (.Constant (.bool b) j pos) (tC<|.bl b):=λ_ _ _ H _ I h=>Constant_bool ⟨.bl b,H,I,rfl,h⟩
theorem Lp{j pos}:PE X (.Constant .none j pos) (tC .non):=λ_ _ _ H _ I h=>Constant_none ⟨.non,H,I,rfl,h⟩
theorem cg{x j pos}:PE X (.Constant (.str x) j pos) (tC<|.str x):=λ_ _ _ H _ I h=>Calls.Constant_str ⟨.str x,H,I.tok _,⟨_,rfl⟩,h⟩
def Gl(X:Cx)(x:Str):Prop:=X.env.kindOf x=some .globalImplicit
theorem hZ(I:qx X pins σ H s)(J:Gl X x)(U:X.mg x=some u)(h:Q u s)
 (hd:Ey x:=by decide):wpAny (model X.prog X.w) X.A (eval (.Name x pos) X.env) Q E s:=
 Calls.Name_function_global I.ok.kind J (Calls.loadGlobal_global (by rw[I.ok.glob];exact I.mod.glob.keeps I.bk) U h) hd
theorem fF(I:qx X pins σ H s)(J:Gl X x)(U:X.mg x=none)(g:bootBuiltins x=some u)(h:Q u s)
 (j:x ≠ "__name__" := by decide) (hd:Ey x:=by decide):wpAny (model X.prog X.w) X.A (eval (.Name x pos) X.env) Q E s:=by
 obtain⟨l,h1,h2⟩:=I.mod.blt;exact Calls.Name_function_global I.ok.kind J (Calls.loadGlobal_builtin (by rw[I.ok.glob];exact I.mod.glob.keeps I.bk) U (by rw[I.ok.blt];exact h1.keeps I.bk) ((h2 x j).trans g) h) hd
theorem Lq{v:V}(J:Gl X x)(U:X.mg x=some u)(r:zv v u)(hd:Ey x:=by decide):PE X (.Name x pos) (tC v):=
 λ_ _ _ H _ I h=>hZ I J U ⟨v,H,I,r,h⟩ hd
theorem Lr{v:V}(J:Gl X x)(U:X.mg x=none)(g:bootBuiltins x=some u)(r:zv v u)(j:x ≠ "__name__" := by decide)(hd:Ey x:=by decide):PE X (.Name x pos) (tC v):=
 λ_ _ _ H _ I h=>fF I J U g ⟨v,H,I,r,h⟩ j hd
variable {a b:Expr}{ta tb:TE}
def PC(X:Cx)(op:CmpOp)(a b:Expr)(t:TE):Prop:=
 ∀(pins:List<|Addr×Obj) (s:Shared) (σ:St) (H:Hp) (Q:VK),qx X pins σ H s->t σ H Q->
  wpAny (model X.prog X.w) X.A (eval a X.env) (λv I=>wpAny (model X.prog X.w) X.A (eval b X.env) (λu J=>wpAny (model X.prog X.w) X.A (compareOp op v u) (EP X pins σ Q) X.xe J) X.xe I) X.xe s
theorem sk(b:Expr){op:CmpOp}(h:op≠.In)(h2:op≠.NotIn):behindInMarks op b=false:=by
 have I:(op==CmpOp.In)=false:=by cases op<;>first|rfl|exact absurd rfl h
 have J:(op==CmpOp.NotIn)=false:=by cases op<;>first|rfl|exact absurd rfl h2
 cases b<;>simp[behindInMarks,I,J]
def Hc(ta:TE):TE:=λσ H Q=>ta σ H λx H1=>Q (.bl<|decide<|x=.non) H1
def Hd(ta:TE):TE:=λσ H Q=>ta σ H λx H1=>Q (.bl<|!decide (x=.non)) H1
theorem zv.none_iff{x:V}(r:zv x v):(v==Value.none)=decide (x=.non):=by
 cases x with
 |non=>cases r;rfl
 |bl _=>cases r;rfl
 |int _=>obtain⟨t,rfl⟩:=r;rfl
 |str _=>obtain⟨t,rfl⟩:=r;rfl
 |byt _=>obtain⟨t,rfl⟩:=r;rfl
 |flt _=>obtain⟨t,rfl⟩:=r;rfl
 |ref _=>cases r;rfl
 |ty _=>cases r;rfl
theorem He{j fy}(U:PE X a ta):PC X .Is a (.Constant .none j fy) (Hc ta):=by intro J s g H Q I h;refine aa (U J s g H _ I h) λv t x l o p r=>?_;exact Constant_none (is_none_gen ⟨.bl _,l,o,by rw[p.none_iff];rfl,r⟩)
theorem Ls{j fy}(U:PE X a ta):PC X .IsNot a (.Constant .none j fy) (Hd ta):=by intro J s g H Q I h;refine aa (U J s g H _ I h) λv t x l o p r=>?_;exact Constant_none (isnot_none_gen ⟨.bl _,l,o,by rw[p.none_iff];rfl,r⟩)
def tB(t:TE):TT:=λσ H Q=>t σ H λx H1=>∃c,x=.bl c/\Q c H1
theorem Lu{op:CmpOp}{t:TE}(h:PC X op a b t)(h1:behindInMarks op b=false:=by first|exact sk _ (by decide) (by decide)|rfl):PE X (.Compare a [op] [b] pos) t:=λJ s U H Q I hw=>wpAny_Compare1 (h J s U H Q I hw) h1
theorem Hf{op:CmpOp}{t:TE}(h:PC X op a b t)(h1:behindInMarks op b=false:=by first|exact sk _ (by decide) (by decide)|rfl):PT X (.Compare a [op] [b] pos) (tB t):=by intro J s U H Q I hw;refine wpAny_isTrue_Compare1 (aE (h J s U H _ I hw) λv p h1=>aE h1 λu r h2=>aE h2 λc C ψ=>?_) h1;obtain⟨x,g,j,l,o⟩:=ψ;obtain⟨d,rfl,q⟩:=o;cases l;exact wpAny_truthy_bool ⟨g,j,q⟩
theorem Lv{t:TE}(h:PE X e t)(U:∀whole,isTrue e X.env whole=(do let v <-whole;standAt e.pos;holding [v] (truthy v)):=by intro _;rfl):PT X e (tB t):=by intro J s g H Q I hw;refine isTrue_plain (aa (h J s g H _ I hw) λv r x j l o p=>?_)<|U _;obtain⟨d,rfl,q⟩:=p;cases o;exact wpAny_truthy_bool ⟨j,l,q⟩
variable {tA qy:TT}{rest:List Expr}
def Lw(t u:TT):TT:=λσ H Q=>t σ H λc H1=>if c=true then u σ H1 Q else Q false H1
def Lx(t u:TT):TT:=λσ H Q=>t σ H λc H1=>if c=true then Q true H1 else u σ H1 Q
def Ly(t:TT):TT:=λσ H Q=>t σ H λc H1=>Q (!c) H1
theorem Lz(U:PT X a tA):PW X (.BoolOp .And [a] pos) tA:=by intro j J s g H Q I h;refine isTrue_and<|aE (U J s g H Q I h) λc l e=>?_;cases c with|true=>exact isTrue_and_nil e|false=>exact e
theorem LA(U:PT X a tA):PW X (.BoolOp .Or [a] pos) tA:=by intro j J s g H Q I h;refine isTrue_or<|aE (U J s g H Q I h) λc l e=>?_;cases c with|false=>exact isTrue_or_nil e|true=>exact e
theorem LB(o:PT X a tA)(p:PW X (.BoolOp .And (b::rest) pos) qy):PW X (.BoolOp .And (a::b::rest) pos) (Lw tA qy):=by intro r J s U H Q I h;refine isTrue_and<|aE (o J s U H _ I h) λc t ψ=>?_;obtain⟨g,j,l⟩:=ψ;cases c with|true=>exact p r J t U g Q j l|false=>exact⟨g,j,l⟩
theorem LC(o:PT X a tA)(p:PW X (.BoolOp .Or (b::rest) pos) qy):PW X (.BoolOp .Or (a::b::rest) pos) (Lx tA qy):=by intro r J s U H Q I h;refine isTrue_or<|aE (o J s U H _ I h) λc t ψ=>?_;obtain⟨g,j,l⟩:=ψ;cases c with|true=>exact⟨g,j,l⟩|false=>exact p r J t U g Q j l
theorem LD(U:PT X a tA):PT X (.UnaryOp .Not a pos) (Ly tA):=by intro J s g H Q I h;exact isTrue_not<|U J s g H (λc j=>Q (!c) j) I h
def LG(ta tb:TE):TE:=λσ H Q=>ta σ H λx H1=>∃c,x=.bl c/\if c=true then tb σ H1 Q else Q (.bl false) H1
def LH(ta:TE):TE:=λσ H Q=>ta σ H λx H1=>∃c,x=.bl c/\Q (.bl<|!c) H1
theorem LI{op}{t:TE}(h:PE X a t):PE X (.BoolOp op [a] pos) t:=λJ s U H Q I hw=>BoolOp_one<|h J s U H Q I hw
theorem LJ(o:PE X a ta)(p:PE X (.BoolOp .And (b::rest) pos) tb):PE X (.BoolOp .And (a::b::rest) pos) (LG ta tb):=by
 intro J s g H Q I h;refine BoolOp_and<|aa (o J s g H _ I h) λv r x j l t U=>?_;obtain⟨c,rfl,U⟩:=U;cases t;refine wpAny_truthy_bool ?_;cases c with
 |true=>exact p J r g j Q l U
 |false=>exact⟨.bl false,j,l,rfl,U⟩
theorem LK(g:PE X a ta):PE X (.UnaryOp .Not a pos) (LH ta):=by intro J s j H Q I h;refine UnaryOp_<|aa (g J s j H _ I h) λv r x l o p U=>?_;obtain⟨c,rfl,U⟩:=U;cases p;exact not_of<|wpAny_truthy_bool ⟨.bl<|!c,l,o,rfl,U⟩
def LL(t:TT)(ta tb:TE):TE:=λσ H Q=>t σ H λc H1=>if c=true then ta σ H1 Q else tb σ H1 Q
theorem LM{c:Expr}(hc:PT X c tA)(p:PE X a ta)(r:PE X b tb):PE X (.IfExp c a b pos) (LL tA ta tb):=by intro J s U H Q I h;refine wpAny_IfExp<|aE (hc J s U H _ I h) λd g ψ=>?_;obtain⟨j,l,o⟩:=ψ;cases d with|true=>exact p J g U j Q l o|false=>exact r J g U j Q l o
end
def aF(K:Af)(H:Hp)(a:Addr)(xs:List V):Prop:=
 Rd H a (.lst xs)\/
  ∃(o:Obj) (eA:Array Value) (n:Nat),K.lookup a=some o/\o.cls=.type "list" /\ o.dict=none/\o.data=.seq eA n/\eA.size<=sizeLine/\zw xs eA.toList
def dS(K:Af)(H:Hp)(a:Addr)(xs:List V):Prop:=
 Rd H a (.tup xs)\/
  ∃(o:Obj) (eA:Array Value) (n:Nat),K.lookup a=some o/\o.cls=.type "tuple" /\ o.data=.seq eA n/\eA.size<=sizeLine/\zw xs eA.toList
def LN:Value->Option V
 |.none=>some .non
 |.bool b=>some<|.bl b
 |.int i _=>some<|.int i
 |.str x _=>some<|.str x
 |.bytes b _=>some<|.byt b
 |.float b _=>some<|.flt b
 |.ref a=>some<|.ref a
 |.type n=>some<|.ty n
 |_=>none
theorem zv.abs{x:V}(r:zv x u):LN u=some x:=by
 cases x with
 |non=>cases r;rfl
 |bl _=>cases r;rfl
 |int _=>obtain⟨t,rfl⟩:=r;rfl
 |str _=>obtain⟨t,rfl⟩:=r;rfl
 |byt _=>obtain⟨t,rfl⟩:=r;rfl
 |flt _=>obtain⟨t,rfl⟩:=r;rfl
 |ref _=>cases r;rfl
 |ty _=>cases r;rfl
theorem zv.inj{x y:V}(r:zv x u)(q:zv y u):x=y:=Bc<|r.abs.symm.trans q.abs
theorem zw.inj:∀{xs ys:List V} {us:List Value},zw xs us->zw ys us->xs=ys:=by
 intro xs ys us h k
 induction h generalizing ys with
 |nil=>cases k;rfl
 |cons r t I=>
  cases k with|cons J U=>rw[r.inj J,I U]
section
variable {a:Addr}{ys:List V}
theorem aF.of{K:Af}(h:H a=some (.lst xs)):aF K H a xs:=.inl<|.inl h
theorem dS.of{K:Af}(h:H a=some (.tup xs)):dS K H a xs:=.inl<|.inl h
theorem qx.list(I:qx X pins σ H s)(h:aF X.K H a xs):∃eA:List Value,zw xs eA/\PlainL s.heap a eA.toArray/\xs.length<=sizeLine:=by
 rcases h with h|⟨o,eA,n,J,U,hd,g,j,r⟩
 ·obtain⟨z,eA,n,r,e⟩:=h.ok I.hok;exact⟨eA,r,⟨_,n,e,rfl,rfl,rfl⟩,z⟩
 ·refine⟨eA.toList,r,⟨o,n,I.kIn a o J,U,hd,by simpa using g⟩,?_⟩;have e:=r.length;simp only[A8] at e;lia
theorem qx.tuple(I:qx X pins σ H s)(h:dS X.K H a xs):∃eA:List Value,zw xs eA/\IsTup s.heap a eA.toArray/\xs.length<=sizeLine:=by
 rcases h with h|⟨o,eA,n,J,U,g,j,r⟩
 ·obtain⟨z,eA,r,p⟩:=h.ok I.hok;exact⟨eA,r,p,z⟩
 ·refine⟨eA.toList,r,⟨o,I.kIn a o J,U,n,by simpa using g⟩,?_⟩;have e:=r.length;simp only[A8] at e;lia
theorem qx.list_inj(I:qx X pins σ H s)(h:aF X.K H a xs)(h':aF X.K H a ys):xs=ys:=by
 obtain⟨U,r,⟨o,n,e,_,_,d⟩,_⟩:=I.list h;obtain⟨J,l,⟨p,t,g,_,_,j⟩,_⟩:=I.list h';rw[e] at g;cases g;rw[d] at j;injection j with d1 _
 have:U=J:=by simpa using BF Array.toList d1
 subst this;exact r.inj l
theorem qx.tuple_inj(I:qx X pins σ H s)(h:dS X.K H a xs)(h':dS X.K H a ys):xs=ys:=by
 obtain⟨U,r,⟨o,e,_,n,d⟩,_⟩:=I.tuple h;obtain⟨J,l,⟨p,g,_,t,j⟩,_⟩:=I.tuple h';rw[e] at g;cases g;rw[d] at j;injection j with d1 _
 have:U=J:=by simpa using BF Array.toList d1
 subst this;exact r.inj l
end
abbrev Cx.wish(X:Cx)(E:Value->Shared->Prop):Cx:={ X with xe:=E }
abbrev Cx.nox(X:Cx):Cx:=X.wish λ_ _=>False
theorem Cx.Ok.wish(ok:X.Ok)(E:Value->Shared->Prop):(X.wish E).Ok:=
 ⟨ok.mod,ok.kind,ok.glob,ok.blt,ok.above,ok.inj,ok.has,ok.cab,ok.hd,ok.frames,ok.stk,ok.exf,ok.bs,ok.bsz,ok.noex,ok.exfs,ok.funs,ok.frf⟩
theorem Cx.Ok.unwish(ok:(X.wish E).Ok):X.Ok:=
 ⟨ok.mod,ok.kind,ok.glob,ok.blt,ok.above,ok.inj,ok.has,ok.cab,ok.hd,ok.frames,ok.stk,ok.exf,ok.bs,ok.bsz,ok.noex,ok.exfs,ok.funs,ok.frf⟩
theorem qx.wish(I:qx X pins σ H s)(E:Value->Shared->Prop):qx (X.wish E) pins σ H s:=⟨I.ok.wish E,I.os,I.bare,I.base,I.loc,I.cell,I.free,I.freeC,I.pin,I.hok,I.len,I.tk⟩
theorem qx.unwish(I:qx (X.wish E) pins σ H s):qx X pins σ H s:=⟨I.ok.unwish,I.os,I.bare,I.base,I.loc,I.cell,I.free,I.freeC,I.pin,I.hok,I.len,I.tk⟩
theorem SP.unwish{D:qE}{f:Flow}(h:SP (X.wish E) pins D f s'):SP X pins D f s':=by
 cases f with
 |next=>obtain⟨J,U,I,q⟩:=h;exact⟨J,U,I.unwish,q⟩
 |brk=>obtain⟨J,U,I,q⟩:=h;exact⟨J,U,I.unwish,q⟩
 |cont=>obtain⟨J,U,I,q⟩:=h;exact⟨J,U,I.unwish,q⟩
 |ret u=>obtain⟨v,J,U,I,r,q⟩:=h;exact⟨v,J,U,I.unwish,r,q⟩
theorem gZ.nox{st:List Stmt}{t:TS}(h:gZ X.nox st t):gZ X st t:=λJ s U H D I hw=>
 AX (h J s U H D (I.wish _) hw) (λ_ _ q=>q.unwish) λ_ _ z=>False.elim z
section
variable {rest:List Stmt}{t u:TS}{te:TE}
def LP:TS:=λD σ H=>D.nx σ H
def LQ(t u:TS):TS:=λD σ H=>t { D with nx:=u D } σ H
theorem LR:gZ X [] LP:=λ_ _ J H _ I h=>wpAny_execs_nil ⟨J,H,I,h⟩
theorem sK(h1:PS X st t)(h2:gZ X rest u):gZ X (st::rest) (LQ t u):=by
 intro J s g H D I h;refine wpAny_execs_cons<|aE (h1 J s g H { D with nx:=u D } I h) λf j q=>?_;cases f with
 |next=>
  obtain⟨U,l,o,q⟩:=q;exact h2 J j U l D o q
 |ret v=>exact q
 |brk=>exact q
 |cont=>exact q
theorem xV(h1:PS X st t):gZ X [st] t:=by intro J s U H D I h;refine wpAny_execs_cons<|aE (h1 J s U H D I h) λf g q=>?_;cases f with|next=>exact wpAny_execs_nil q|ret v=>exact q|brk=>exact q|cont=>exact q
def LS:TS:=λD σ H=>D.ct σ H
theorem rW:PS X (.Continue pos) LS:=λ_ _ J H _ I h=>wpAny_Continue ⟨J,H,I,h⟩
theorem qx.quiet(I:qx X pins σ H s):interactive X.env=false:=by simp[interactive,I.ok.kind]
def LU(te:TE):TS:=λD σ H=>te σ H λ_ H1=>D.nx σ H1
theorem LV(g:PE X e te)(hs:swapsWith e none pos.line X.env=pure false:=by rfl):PS X (.Expr e pos) (LU te):=by intro J s U H D I h;exact wpAny_Expr_any (aa (g J s U H _ I h) λv p x j l r o=>⟨U,j,l,o⟩) I.quiet hs
def LW(te:TE):TS:=λD σ H=>te σ H D.rt
theorem LX(g:PE X e te):PS X (.Return (some e) pos) (LW te):=by intro J s U H D I h;exact wpAny_Return_some<|aa (g J s U H _ I h) λv r x j l o p=>⟨x,U,j,l,o,p⟩
def LY:TS:=λD _ H=>D.rt .non H
theorem LZ:PS X (.Return none pos) LY:=λ_ _ J H _ I h=>wpAny_Return_none ⟨.non,J,H,I,rfl,h⟩
def Ma(c:TT)(t u:TS):TS:=λD σ H=>c σ H λb H1=>if b=true then t D σ H1 else u D σ H1
theorem Mb{c:Expr}{a b:List Stmt}(hc:PT X c tc)(p:gZ X a t)(r:gZ X b u):PS X (.If c a b pos) (Ma tc t u):=by intro J s U H D I h;refine wpAny_If<|aE (hc J s U H _ I h) λd g ψ=>?_;obtain⟨j,l,o⟩:=ψ;cases d with|true=>exact p J g U j D l o|false=>exact r J g U j D l o
end
abbrev TG:=V->St->Hp->(St->Hp->Prop)->Prop
abbrev e_:=List V->St->Hp->(St->Hp->Prop)->Prop
def PG(X:Cx)(target:Expr)(t:TG):Prop:=
 ∀(pins:List<|Addr×Obj) (s:Shared) (σ:St) (H:Hp) (v:V) (u:Value) (Q:St->Hp->Prop),qx X pins σ H s->zv v u->t v σ H Q->
  wpAny (model X.prog X.w) X.A (assign target X.env u) (λ_ s'=>∃hE H',qx X pins hE H' s'/\Q hE H') X.xe s
def PGs(X:Cx)(ts:List Expr)(t:e_):Prop:=
 ∀(pins:List<|Addr×Obj) (s:Shared) (σ:St) (H:Hp) (vs:List V) (us:List Value) (Q:St->Hp->Prop),qx X pins σ H s->zw vs us->t vs σ H Q->
  wpAny (model X.prog X.w) X.A (assignInOrder ((assignEach ts X.env).map (·.2)) us) (λ_ s'=>∃hE H',qx X pins hE H' s'/\Q hE H') X.xe s
abbrev FO:=V->V->V->Hp->(Hp->Prop)->Prop
def Hg(X:Cx)(t:FO):Prop:=
 ∀(pins:List<|Addr×Obj) (s:Shared) (σ:St) (H:Hp) (o i v:V) (I J u:Value) (Q:Hp->Prop),qx X pins σ H s->zv o I->zv i J->zv v u->t o i v H Q->
  wpAny (model X.prog X.w) X.A (setItem I J u) (λ_ s'=>∃H',qx X pins σ H' s'/\Q H') X.xe s
def lz(i:Nat):TG:=λv σ H Q=>Q (σ.set i<|some v) H
theorem yH(hN:X.N.Nodup)(hi:X.N[i]?=some x)(U:Loc X.env.scope x)(g:X.fn x=true\/X.env.scope.names.lookup x=some .local:=by first|exact .inl rfl|exact .inr rfl|assumption):PG X (.Name x pos) (lz i):=by intro J s l H v u Q I r h;exact wpAny_assign_Name<|hU I hN hi U r (λo j=>⟨_,H,j,h⟩) g
def Mc:e_:=λvs σ H Q=>vs=[]/\Q σ H
def Md(t:TG)(u:e_):e_:=λvs σ H Q=>∃v r,vs=v::r/\t v σ H λhE H'=>u r hE H' Q
theorem Me:PGs X [] Mc:=by intro J s U H g j Q I r h;obtain⟨e,h⟩:=h;subst e;cases r;exact assignInOrder_nil ⟨U,H,I,h⟩
theorem Mf{t:TG}{u:e_}(h1:PG X e t)(h2:PGs X es u)
 (hs:(assignEach (e::es) X.env).map (·.2)=assign e X.env::(assignEach es X.env).map (·.2):=by rfl):PGs X (e::es) (Md t u):=by
 intro J s g H T us Q I r h;obtain⟨v,vr,j,h⟩:=h;subst j;cases r with
 |cons r rr=>
  rw[hs];refine assignInOrder_cons<|aE (h1 J s g H _ _ _ I r h) λ_ l ψ=>?_;obtain⟨U,o,p,C⟩:=ψ;exact h2 J l U o _ _ Q p rr C
def Mg(K:Af)(n:Nat)(t:e_):TG:=λv σ H Q=>∃a xs,v=.ref a/\dS K H a xs/\xs.length=n/\t xs σ H Q
theorem Mh{k:Nat}{t:e_}(hc:X.calm=true)(h:PGs X es t)
 (l:(assignEach es X.env).length=n:=by rfl) (U:(assignEach es X.env).findIdx? (·.1)=none:=by rfl):PG X (.Tuple es k pos) (Mg X.K n t):=by
 intro J s g H v u Q I r hw;obtain⟨a,p,C,T,hl,hw⟩:=hw;subst C;cases r;obtain⟨a1,j,ht,hz⟩:=I.tuple T;refine assign_Tuple_tuple (I.ok.hd hc) ht (by simp[l,<-hl,j.length]) U λh' hx=>?_;have I1:qx X J g H { s with heap:=h' }:=I.kept (t':=s.toks) λb o e=>hx b o (A9<|um e) e;exact h J _ g H p _ Q I1 (by simpa using j) hw
def Mi(to ti:TE)(t:FO):TG:=λv σ H Q=>to σ H λo H1=>ti σ H1 λi H2=>t o i v H2 λI=>Q σ I
theorem Mj{i:Expr}{to ti:TE}{t:FO}(l:PE X o to)(hi:PE X i ti)(hs:Hg X t)
 (p:∀v,assign (.Subscript o i pos) X.env v=(do
  let U <-holding [v] (eval o X.env)
  let g <-holding [v,U] (eval i X.env)
  standAt pos
  holding [v,U,g] (setItem U g v)
  release [v,U,g] []):=by intro _;rfl):PG X (.Subscript o i pos) (Mi to ti t):=by
 intro J s j H v u Q I r h;rw[p];refine Aa<|A4<|aa (l J s j H _ I h) λU C x T I1 r1 q1=>?_;refine Aa<|A4<|aa (hi J C j T _ I1 q1) λg s2 y H2 I2 r2 q2=>?_;refine Aa<|wpAny_standAt<|Aa<|A4<|aE (hs J s2 j H2 x y v U g u _ I2 r1 r2 r q2) λ_ s3 ψ=>?_;obtain⟨H3,I3,q3⟩:=ψ;exact wpAny_release ⟨j,H3,I3,q3⟩
def FP(te:TE)(g:TG):TS:=λD σ H=>te σ H λx H1=>g x σ H1 D.nx
theorem Hh{te:TE}{g:TG}(j:PE X e te)(l:PG X tg g)(hs:swapsWithSole [tg] e pos.line X.env=pure false:=by rfl)(hw:swappedStores [tg] e X.env=pure none:=by rfl)
 (h1:(assignEach [tg] X.env).map (·.2)=[assign tg X.env]:=by rfl):PS X (.Assign [tg] e pos) (FP te g):=by
 intro J s U H D I h;refine wpAny_Assign_stores (aa (j J s U H _ I h) λv o x p r t C=>?_) hs hw;rw[h1];exact aE (l J o U p x v _ r t C) λ_ T q=>q
theorem Hi{te:TE}(hN:X.N.Nodup)(hi:X.N[i]?=some x)(U:Loc X.env.scope x)(g:PE X e te)(hs:swapsWith e (some<|.Name x fy) pos.line X.env=pure false:=by rfl)(j:X.fn x=true\/X.env.scope.names.lookup x=some .local:=by first|exact .inl rfl|exact .inr rfl|assumption):
 PS X (.Assign [.Name x fy] e pos) (FP te<|lz i):=by
 intro J s l H D I h;refine wpAny_Assign_Name (aa (g J s l H _ I h) λv T y o p r t=>?_) hs;exact hU p hN hi U r (λs2 C=>⟨_,o,C,t⟩) j
def Mk(i j:Nat)(ta:TA):TS:=λD σ H=>ta σ H λvs H1=>∃v w,vs=[v,w]/\D.nx ((σ.set i<|some v).set j<|some w) H1
theorem Ml{y:Str}{a b:Expr}{ta:TA}{px py pt:Pos}{t k2 U}(hc:X.calm=true)(hN:X.N.Nodup)(hi:X.N[i]?=some x)(hj:X.N[j]?=some y)(C:i≠j)
 (hx:X.env.scope.names.lookup x=some .local) (hy:X.env.scope.names.lookup y=some .local) (ha:PA X [a,b] ta)
 (hw:swappedStores [.Tuple [.Name x px,.Name y py] t pt] (.Tuple [a,b] k2 U) X.env=pure (some [x,y]))
 (hs:swapsWithSole [.Tuple [.Name x px,.Name y py] t pt] (.Tuple [a,b] k2 U) pos.line X.env=pure false:=by rfl):
 PS X (.Assign [.Tuple [.Name x px,.Name y py] t pt] (.Tuple [a,b] k2 U) pos) (Mk i j ta):=by
 intro J s σ H D I h;rw[exec_Assign_arm];refine Aa<|wpAny_standAt ?_;rw[hs];refine Aa<|Ah ?_;rw[AC (by decide)];refine Aa<|Tuple_<|zE (ha _ J s σ H _ I h) λus g vs H1 I1 r1 T=>?_;obtain⟨v,w,e1,T⟩:=T;subst e1;obtain⟨l,r,rfl,rv,a1⟩:∃l r,us=[l,r]/\zv v l/\zv w r:=by
  cases r1 with
  |cons p q=>
   cases q with
   |cons p' q'=>
    cases q';exact⟨_,_,rfl,p,p'⟩
 refine Br ?_ (by show 2<=sizeLine;decide);have I2:qx X J σ H1 { g with heap:=g.heap.push { cls:=.type "tuple",data:=.seq [l,r].toArray } }:=I1.kept (t':=g.toks) λb o e=>sy _ e;rw[hw];refine Aa<|Ah ?_;show wpAny (model X.prog X.w) X.A (do rule "assign.swapped-stores";let items <-unpackItems (.ref g.heap.objs.size) 2 none;assignInOrder [λv=>bindName X.env y v,λv=>bindName X.env x v] items.reverse;pure Flow.next) _ _ _;refine Aa<|Bt<|Aa<|unpackItems_tuple (items:=#[l,r]) (I.ok.hd hc) (IsTup.new g.heap _) λh' a3=>?_;have I3:=I2.kept (h':=h') (t':=g.toks) λb o e=>a3 b o (A9<|um e) e;show wpAny _ _ (assignInOrder [λv=>bindName X.env y v,λv=>bindName X.env x v] [r,l] >>= λ_=>pure Flow.next) _ _ _;refine Aa<|assignInOrder_cons<|wpAny_bindName<|hU I3 hN hj (.inl hy) a1 (λs2 I4=>?_)<|.inr hy;refine assignInOrder_cons<|wpAny_bindName<|hU I4 hN hi (.inl hx) rv (λs3 I5=>assignInOrder_nil<|Ah ?_)<|.inr hx;rw[List.set_comm _ _<|AL C] at I5;exact⟨_,H1,I5,T⟩
def Mm(c:TT)(tb:TS):TS:=λD σ H=>∃W:Nat->St->Hp->Prop,(∃m,W m σ H)/\∀m σ H,W m σ H->
 c σ H λb H1=>if b=true then ∃N:St->Hp->Prop,(∀hE H',N hE H'->∃I,I<m/\W I hE H')/\tb { D with nx:=N,ct:=N,bk:=D.nx } σ H1 else D.nx σ H1
theorem Mn{c:Expr}{tb:TS}(hp:PassesOwn (model X.prog X.w) X.A X.env X.xe)(hc:PT X c tc)(hb:gZ X body tb):PS X (.While c body [] pos) (Mm tc tb):=by
 intro J s σ H D I h;obtain⟨W,⟨m0,w0⟩,turn⟩:=h;refine wpAny_While<|codeAny_whileLoop (λn s'=>∃j H',qx X J j H' s'/\W n j H') ?_ m0 ⟨σ,H,I,w0⟩;rintro n s1 ⟨g,H1,I1,w1⟩;refine wpAny_passesOwn hp<|aE (hc J s1 g H1 _ I1<|turn n g H1 w1) λb s2 ψ=>?_;obtain⟨H2,I2,o⟩:=ψ;cases b with
 |true=>
  obtain⟨N,hN,o⟩:=o;rw[AB rfl];refine wpAny_passesOwn hp<|aE (hb J s2 g H2 _ I2 o) λf s3 p=>?_;cases f with
  |next=>
   obtain⟨U,l,r,t⟩:=p;obtain⟨C,T,w3⟩:=hN U l t;exact⟨C,T,U,l,r,w3⟩
  |cont=>
   obtain⟨U,l,r,t⟩:=p;obtain⟨C,T,w3⟩:=hN U l t;exact⟨C,T,U,l,r,w3⟩
  |brk=>exact p
  |ret v=>exact p
 |false=>
  rw[AC AH];exact wpAny_execs_nil ⟨g,H2,I2,o⟩
structure It where
 go:Nat->Hp->Prop
 yld:Nat->Hp->V->Hp->Prop
 stop:Nat->Hp->Prop
def jZ(X:Cx)(pins:List<|Addr×Obj)(H:Hp)(b:Addr):Prop:=
 H b=none/\b≠X.env.locals/\b∉X.fs/\(b∈X.ex\/X.s₀.heap.objs.size<=b)/\(∀x c,X.env.cells.lookup x=some c->c≠b)/\∀p∈X.pn++pins,p.1≠b
theorem qx.fpOk{b:Addr}(I:qx X pins σ H s)(J:s.heap.objs.size<=b)(U:H' b=none):jZ X pins H' b:=by
 refine⟨U,CT<|AQ I.lt J,I.nofs J,.inr<|AZ I.sz J,λx c e z=>?_,λp g z=>?_⟩
 ·obtain⟨v,q⟩:=I.cell x c e;exact absurd (AQ q.lt (by rw[z];exact J))<|CF _
 ·exact absurd (AQ (um (I.pin p g).1) (by rw[z];exact J))<|CF _
structure Eg(P:Program)(w:World)(K:Af)(tg:Expr)(J:It)(fp:List Addr)(it:Addr)(tn:Nat->Heap->Prop):Prop where
 mem:it∈fp
 obj:∀i h,tn i h->∀b∈fp,∃o,h.get? b=some o/\∀v,o.data≠.cell v
 keep:∀i h h',tn i h->(∀b∈fp,∀o,h.get? b=some o->h'.get? b=some o)->tn i h'
 item:∀(X:Cx),X.prog=P->X.w=w->X.K=K->X.calm=true->∀(i:Nat) (pins:List<|Addr×Obj) (s:Shared) (σ:St) (H:Hp) (E:Value->Shared->Prop),qx X pins σ H s->(∀b∈fp,jZ X pins H b)->tn i s.heap->J.go i H->
  wpAny (model P w) X.A (pyNext<|.ref it) (λr s1=>∃u,r=some u/\
   wpAny (model P w) X.A (letOwnedTupleGo tg (.ref it) u) (λ_ s2=>∃x H',qx X pins σ H' s2/\zv x u/\J.yld i H x H'/\tn (i+1) s2.heap/\∀b∈fp,H' b=none) E s1) E s
 done:∀(X:Cx),X.prog=P->X.w=w->X.K=K->X.calm=true->∀(i:Nat) (pins:List<|Addr×Obj) (s:Shared) (σ:St) (H:Hp) (E:Value->Shared->Prop),qx X pins σ H s->(∀b∈fp,jZ X pins H b)->tn i s.heap->J.stop i H->
  wpAny (model P w) X.A (pyNext<|.ref it) (λr s1=>r=none/\qx X pins σ H s1) E s
 self:∀(A:Around) (i:Nat) (s:Shared) (Q:Value->Shared->Prop) (E:Value->Shared->Prop),tn i s.heap->Q (.ref it) s->wpAny (model P w) A (pyIter<|.ref it) Q E s
abbrev TI:=St->Hp->(It->Hp->Prop)->Prop
def FQ(X:Cx)(pins:List<|Addr×Obj)(σ:St)(tg:Expr)(R:It->Hp->Prop)(I:Value)(U:Shared):Prop:=
 ∃(it:Addr) (fp:List Addr) (g:Nat->Heap->Prop) (J:It) (H':Hp),I=.ref it/\qx X pins σ H' U/\Eg X.prog X.w X.K tg J fp it g/\g 0 U.heap/\(∀b∈fp,jZ X pins H' b)/\R J H'
def PI(X:Cx)(tg iter:Expr)(wi:TI):Prop:=
 ∀(pins:List<|Addr×Obj) (s:Shared) (σ:St) (H:Hp) (R:It->Hp->Prop),qx X pins σ H s->wi σ H R->
  wpAny (model X.prog X.w) X.A (eval iter X.env) (λv I=>wpAny (model X.prog X.w) X.A (pyIter v) (FQ X pins σ tg R) X.xe I) X.xe s
theorem FR{o:Obj}{n:String}{vs:Array Value}{Q:Unit->Shared->Prop}(J:s.heap.get? it=some o)(hc:o.cls=.type n)(hd:o.data=.fields vs)
 (U:["enumerate","zip","dict_itemiterator","dict_reverseitemiterator","odict_iterator","itertools.zip_longest","itertools.pairwise"].contains n=false) (I:Q () s):wpAny M A (letOwnedTupleGo tg (.ref it) u) Q E s:=by
 unfold letOwnedTupleGo;cases tg<;>first
  |exact Ah I
  |(cases u<;>first
   |exact Ah I
   |(refine Aa (wpAny_load J ?_)
     rw[hc,hd];show wpAny M A (if (["enumerate","zip","dict_itemiterator","dict_reverseitemiterator","odict_iterator","itertools.zip_longest","itertools.pairwise"].contains n&&vs[0]?==some (rawInt _))=true then _ else _) Q E s;rw[AC (by intro h;rw[U,Bool.false_and] at h;cases h)];exact Ah I))
def FT(K:Af)(a:Addr):It:=
 ⟨λi H=>∃xs x,aF K H a xs/\xs[i]?=some x,λi H x H'=>H'=H/\∀xs,aF K H a xs->xs[i]?=some x,λi H=>∃xs,aF K H a xs/\xs.length<=i⟩
def FU(K:Af)(a:Addr):It:=
 ⟨λi H=>∃xs x,dS K H a xs/\xs[i]?=some x,λi H x H'=>H'=H/\∀xs,dS K H a xs->xs[i]?=some x,λi H=>∃xs,dS K H a xs/\xs.length<=i⟩
def Eh(lo:Int)(n:Nat):It:=⟨λi _=>i<n,λi H x H'=>H'=H/\x=.int (lo+i),λi _=>n<=i⟩
theorem zW{P:Program}{w:World}{K:Af}(a it:Addr):Eg P w K tg (FT K a) [it] it (λi h=>h.IsListIter it a i) where
 mem:=by simp
 obj:=λi h st b U=>by
  have e:b=it:=by simpa using U
  subst e;obtain⟨o,e,c,d⟩:=st;exact⟨o,e,λv z=>by rw[d] at z;cases z⟩
 keep:=λi h j st k=>st.at λo e=>k it (by simp) o e
 item:=by intro X t hw C hc i J s σ H E I l st T;subst t hw C;obtain⟨xs,x,r,hx⟩:=T;obtain⟨a1,rv,p,hz⟩:=I.list r;obtain⟨u,hu,ru⟩:=rv.get hx;obtain⟨f0,f1,f2,f3,f4,f5⟩:=l it (by simp);refine wpAny_pyNext_list_item st p.isList (x:=u) (by simpa using hu) λj g sb=>?_;have I1:qx X J σ H { s with heap:=j }:=I.turned (t':=s.toks) (λb o U e=>(sb.2 b U).trans e) f0 f1 f3 f4 f5;obtain⟨o,e,c,d⟩:=id g;exact⟨u,rfl,FR (s:={ s with heap:=j }) e c d (by decide) ⟨x,H,I1,ru,⟨rfl,λys hy=>by rw[I.list_inj hy r];exact hx⟩,g,λb U=>(l b U).1⟩⟩
 done:=by intro X t hw C hc i J s σ H E I l st T;subst t hw C;obtain⟨xs,r,hx⟩:=T;obtain⟨a1,rv,p,hz⟩:=I.list r;obtain⟨f0,f1,f2,f3,f4,f5⟩:=l it (by simp);have hl:=rv.length;exact wpAny_pyNext_list_end (I.ok.hd hc) st p.isList (by simp;lia) λj eb=>⟨rfl,I.turned (t':=s.toks) (λb o U e=>eb b o U e) f0 f1 f3 f4 f5⟩
 self:=λ_ _ _ _ _ st h=>wpAny_pyIter_listiter st h
theorem vD{P:Program}{w:World}{K:Af}(a it:Addr):Eg P w K tg (FU K a) [it] it (λi h=>h.IsTupleIter it a i) where
 mem:=by simp
 obj:=λi h st b U=>by
  have e:b=it:=by simpa using U
  subst e;obtain⟨o,e,c,d⟩:=st;exact⟨o,e,λv z=>by rw[d] at z;cases z⟩
 keep:=λi h l st k=>st.at λo e=>k it (by simp) o e
 item:=by intro X C hw T hc i J s σ H E I r st hg;subst C hw T;obtain⟨xs,x,t,hx⟩:=hg;obtain⟨g,rv,p,hz⟩:=I.tuple t;obtain⟨u,hu,ru⟩:=rv.get hx;obtain⟨f0,f1,f2,f3,f4,f5⟩:=r it (by simp);refine wpAny_pyNext_tuple_item st (show s.heap.IsTuple a g.toArray from p) (x:=u) (by simpa using hu) λl j sb=>?_;have I1:qx X J σ H { s with heap:=l }:=I.turned (t':=s.toks) (λb o U e=>(sb.2 b U).trans e) f0 f1 f3 f4 f5;obtain⟨o,e,c,d⟩:=id j;exact⟨u,rfl,FR (s:={ s with heap:=l }) e c d (by decide) ⟨x,H,I1,ru,⟨rfl,λys hy=>by rw[I.tuple_inj hy t];exact hx⟩,j,λb U=>(r b U).1⟩⟩
 done:=by intro X C hw T hc i J s σ H E I r st hg;subst C hw T;obtain⟨xs,t,hx⟩:=hg;obtain⟨g,rv,p,hz⟩:=I.tuple t;obtain⟨f0,f1,f2,f3,f4,f5⟩:=r it (by simp);have hl:=rv.length;exact wpAny_pyNext_tuple_end (I.ok.hd hc) st (show s.heap.IsTuple a g.toArray from p) (by simp;lia) λl eb=>⟨rfl,I.turned (t':=s.toks) (λb o U e=>eb b o U e) f0 f1 f3 f4 f5⟩
 self:=λ_ _ _ _ _ st h=>wpAny_pyIter_tupleiter st h
theorem uf{P:Program}{w:World}{K:Af}(it:Addr)(lo:Int)(n:Nat):Eg P w K tg (Eh lo n) [it] it (λi h=>IsRangeIter h it (lo+(i:Nat)*1) ((n:Int)-(i:Nat)) 1) where
 mem:=by simp
 obj:=λi h st b U=>by
  have e:b=it:=by simpa using U
  subst e;exact⟨_,st,λv z=>by have z':Data.fields _=Data.cell v:=z;cases z'⟩
 keep:=λi h j st k=>k it (by simp) _ st
 item:=by intro X p hw r C i J s σ H E I l st T;subst p hw r;obtain⟨f0,f1,f2,f3,f4,f5⟩:=l it (by simp);have W:=Walks.range (prog:=X.prog) (w:=X.w) (I.ok.hd C) it lo 1 n;refine jy I.tk<|W.item i s _ _ T st λv j tk hv g kk ht=>?_;obtain⟨t,rfl⟩:=hv;have I1:qx X J σ H { s with heap:=j,toks:=tk }:=I.turned (λb o U e=>kk b o (by simpa using U) e) f0 f1 f3 f4 f5;refine⟨_,rfl,FR (s:={ s with heap:=j,toks:=tk }) (n:="range_iterator") g rfl rfl (by decide) ⟨.int<|lo+i,H,I1,⟨t,?_⟩,⟨rfl,rfl⟩,g,λb U=>(l b U).1⟩⟩;rw[Int.mul_one]
 done:=by intro X p hw r C i J s σ H E I l st T;subst p hw r;obtain⟨f0,f1,f2,f3,f4,f5⟩:=l it (by simp);exact wpAny_pyNext_range_end (I.ok.hd C) st (by have:n<=i:=T;lia) λj eb=>⟨rfl,I.turned (t':=s.toks) (λb o U e=>eb b o U e) f0 f1 f3 f4 f5⟩
 self:=λ_ _ _ _ _ st h=>wpAny_pyIter_rangeiter st h
end L2
variable {wi:L2.TI}
namespace L2
open PySem PySem.Spec PyProof.Rows
def Mo(K:Af)(tl:TE):TI:=λσ H R=>tl σ H λx H1=>∃a,x=.ref a/\(∃xs,aF K H1 a xs)/\R (FT K a) H1
def Mp(K:Af)(tl:TE):TI:=λσ H R=>tl σ H λx H1=>∃a,x=.ref a/\(∃xs,dS K H1 a xs)/\R (FU K a) H1
theorem Mq{l:Expr}{tl:TE}(j:PE X l tl):PI X tg l (Mo X.K tl):=by
 intro J s r H R I h;refine aa (j J s r H _ I h) λv U x t g C T=>?_;obtain⟨a,e,⟨xs,hq⟩,q⟩:=T;subst e;cases C;obtain⟨a1,rv,p,hz⟩:=g.list hq;refine wpAny_pyIter_list p.isList ?_;refine⟨U.heap.objs.size,[U.heap.objs.size],_,_,t,rfl,g.kept (t':=U.toks) λb o e=>sy _ e,zW a _,⟨_,vb _ rfl,rfl,rfl⟩,λb hb=>?_,q⟩;have e:b=U.heap.objs.size:=by simpa using hb
 subst e;exact g.fpOk (Ao _)<|g.hok.fresh<|Ao _
theorem Mr{l:Expr}{tl:TE}(r:PE X l tl):PI X tg l (Mp X.K tl):=by
 intro J s t H R I h;refine aa (r J s t H _ I h) λv U x C g T q1=>?_;obtain⟨a,e,⟨xs,hq⟩,q⟩:=q1;subst e;cases T;obtain⟨j,rv,p,hz⟩:=g.tuple hq;refine wpAny_pyIter_tuple (show U.heap.IsTuple a j.toArray from p) ?_;refine⟨U.heap.objs.size,[U.heap.objs.size],_,_,C,rfl,g.kept (t':=U.toks) λb o e=>sy _ e,vD a _,⟨_,vb _ rfl,rfl,rfl⟩,λb hb=>?_,q⟩;have e:b=U.heap.objs.size:=by simpa using hb
 subst e;exact g.fpOk (Ao _)<|g.hok.fresh<|Ao _
theorem Ms{R:It->Hp->Prop}{hi:Int}{t u v:Tok}{tk:Nat}(I:qx X pins σ H s)(h1 : -(2 ^ 62)<=lo)(h2:lo<2 ^ 62)(h3 : -(2 ^ 62)<=hi)(U:hi<2 ^ 62)
 (q:R (Eh lo (hi-lo).toNat) H) (p:0<tk:=by walk_at "t"):wpAny (model X.prog X.w) X.A (pyIter<|.ref s.heap.objs.size) (FQ X pins σ tg R) E { s with heap:=s.heap.push { cls:=.type "range",data:=.fields #[.int lo t,.int hi u,.int 1 v] },toks:=tk }:=by
 refine wpAny_pyIter_range (IsRange.new ..) (small_one h1 h2 h3 U) ?_;have J:qx X pins σ H { s with heap:=s.heap.push { cls:=.type "range",data:=.fields #[.int lo t,.int hi u,.int 1 v] },toks:=tk }:=I.kept λb o e=>sy _ e;refine⟨(s.heap.push { cls:=.type "range",data:=.fields #[.int lo t,.int hi u,.int 1 v] }).objs.size,[(s.heap.push { cls:=.type "range",data:=.fields #[.int lo t,.int hi u,.int 1 v] }).objs.size],_,_,H,rfl,
  J.kept (t':=tk) λb o e=>sy _ e,uf _ lo (hi-lo).toNat,?_,λb g=>?_,q⟩
 ·have j:lo+((0:Nat):Int)*1=lo:=by simp
  have l:(((hi-lo).toNat:Nat):Int)-((0:Nat):Int)=Builtin.Range.rangeSize lo hi 1:=by rw[rangeSize_one];split<;>lia
  show IsRangeIter _ _ (lo+((0:Nat):Int)*1) ((((hi-lo).toNat:Nat):Int)-((0:Nat):Int)) 1;rw[j,l];exact vb _ rfl
 ·have e:b=(s.heap.push { cls:=.type "range",data:=.fields #[.int lo t,.int hi u,.int 1 v] }).objs.size:=by simpa using g
  subst e;exact J.fpOk (Ao _)<|J.hok.fresh<|Ao _
def Mt(ta:TA):TI:=λσ H R=>ta σ H λvs H1=>∃j:Int,vs=[.int j] /\ -(2 ^ 62)<=j/\j<2 ^ 62/\R (Eh 0 j.toNat) H1
theorem yR{a:Expr}{ta:TA}{p:Pos}(g:Gl X "range")(l:X.mg "range"=none)(o:PA X [a] ta)(hs:starEach [a] X.env=[(false,eval a X.env)]:=by rfl):PI X tg (.Call (.Name "range" p) [a] [] pos) (Mt ta):=by
 intro J s C H R I h;refine Call_<|fF I g l boot_range<|CK (zE (o pos J s C H _ I h) λus s1 vs H1 T r1 U=>?_) hs rfl;obtain⟨j,e,U,q2,q⟩:=U;subst e;cases r1 with
 |cons r rr=>
  cases rr;obtain⟨t,rfl⟩:=r;exact call_range_1<|Ms T (by lia) (by lia) U q2 (by simpa using q)
def Mu(wi:TI)(g:TG)(tb:TS):TS:=λD σ H=>wi σ H λJ H1=>∃W:Nat->Nat->St->Hp->Prop,(∃m,W 0 m σ H1)/\∀i m σ H,W i m σ H->
 (J.stop i H/\D.nx σ H)\/(J.go i H/\∃N:St->Hp->Prop,(∀hE H',N hE H'->∃U,U<m/\W (i+1) U hE H')/\∀x H',J.yld i H x H'->g x σ H' λI H2=>tb { D with nx:=N,ct:=N,bk:=D.nx } I H2)
def mG(fp:List Addr)(h:Heap):List (Addr×Obj):=fp.filterMap λb=>(h.get? b).map λo=>(b,o)
theorem dF{b:Addr}{o:Obj}(I:b∈fp)(e:h.get? b=some o):(b,o)∈mG fp h:=DL.mpr ⟨b,I,by rw[e];rfl⟩
theorem yr{p:Addr×Obj}(I:p∈mG fp h):p.1∈fp/\h.get? p.1=some p.2:=by
 obtain⟨b,J,e⟩:=DL.mp I;cases q:h.get? b with
 |none=>rw[q] at e;cases e
 |some o=>
  rw[q] at e;have U:(b,o)=p:=Bc e;subst U;exact⟨J,q⟩
theorem qx.pinned(I:qx X pins σ H s)(g:∀b∈fp,jZ X pins H b)(j:∀b∈fp,∃o,s.heap.get? b=some o/\∀v,o.data≠.cell v):qx X (pins++mG fp s.heap) σ H s:=
 I.pins_of λp l=>(Aj.mp l).elim (λz=>I.pin p<|Ai _ z) λz=>by obtain⟨J,e⟩:=yr z;obtain⟨r,f1,f2,_⟩:=g p.1 J;obtain⟨o,U,d⟩:=j p.1 J;rw[e] at U;cases U;exact⟨e,r,f1,f2,d⟩
theorem qx.unpinned{pl:List<|Addr×Obj}(I:qx X (pins++pl) σ H s):qx X pins σ H s:=I.pins_of λp J=>I.pin p<|Ai _<|Ap _ J
theorem Mv{iter:Expr}{g:TG}{tb:TS}(hp:PassesOwn (model X.prog X.w) X.A X.env X.xe)(hc:X.calm=true)(hi:PI X tg iter wi)(hg:PG X tg g)(l:gZ X body tb)
 (hs:∀x,foldedSetIterable iter X.env x=pure x:=by intro _;rfl):PS X (.For tg iter body [] pos) (Mu wi g tb):=by
 intro U s σ H D I h;refine wpAny_For (aE (hi U s σ H _ I h) λv s1 h1=>aE h1 λau s2 h2=>?_) hs;obtain⟨it,fp,tn,J,H2,e,I2,T,a4,f2,W,⟨m0,w0⟩,turn⟩:=h2;subst e;have p:∀{H':Hp},(∀b∈fp,H' b=none)->∀b∈fp,jZ X U H' b:=λhn b l=>⟨hn b l,(f2 b l).2⟩;refine codeAny_forLoop_any (λn s'=>∃i t H',qx X U t H' s'/\tn i s'.heap/\(∀b∈fp,H' b=none)/\W i n t H') ?_ m0 ⟨0,σ,H2,I2,a4,λb l=>(f2 b l).1,w0⟩;rintro n s3 ⟨i,C,H3,I3,a1,a3,w3⟩;rcases turn i n C H3 w3 with⟨stop,qn⟩|⟨go,N,hN,step⟩
 ·refine wpAny_passesOwn hp<|aE (T.done X rfl rfl rfl hc i U s3 C H3 X.xe I3 (p a3) a1 stop) λr s4 ψ=>?_;obtain⟨hr,I4⟩:=ψ;subst hr;exact wpAny_execs_nil ⟨C,H3,I4,qn⟩
 ·refine wpAny_passesOwn hp<|aE (T.item X rfl rfl rfl hc i U s3 C H3 X.xe I3 (p a3) a1 go) λr s4 ψ=>?_;obtain⟨u,hr,h4⟩:=ψ;subst hr;refine wpAny_passesOwn hp<|aE h4 λ_ s5 ψ=>?_;obtain⟨x,H5,I5,r5,y5,m_,a5⟩:=ψ;have ac:=I5.pinned (p a5)<|T.obj _ _ m_;refine wpAny_passesOwn hp<|aE (hg _ s5 C H5 x u _ ac r5<|step x H5 y5) λ_ s6 ψ=>?_;obtain⟨al,H6,I6,q6⟩:=ψ;refine wpAny_passesOwn hp<|aE (l _ s6 al H6 _ I6 q6) λf s7 q7=>?_;have again:∀{j:St} {H7:Hp},qx X (U++mG fp s5.heap) j H7 s7->N j H7->∃m,m<n/\∃i t H',qx X U t H' s7/\tn i s7.heap/\(∀b∈fp,H' b=none)/\W i m t H':=λ{j H7} I7 n7=>by obtain⟨m',hm,w7⟩:=hN j H7 n7;refine⟨m',hm,i+1,j,H7,I7.unpinned,T.keep _ _ _ m_ λb l o e=>(I7.pin (b,o)<|Ai _<|Ai _<|dF l e).1,λb l=>?_,w7⟩;obtain⟨o,e,d⟩:=T.obj _ _ m_ b l;exact(I7.pin (b,o)<|Ai _<|Ai _<|dF l e).2.1
  cases f with
  |next=>obtain⟨j,H7,I7,n7⟩:=q7;exact again I7 n7
  |cont=>obtain⟨j,H7,I7,n7⟩:=q7;exact again I7 n7
  |brk=>obtain⟨j,H7,I7,q7⟩:=q7;exact⟨j,H7,I7.unpinned,q7⟩
  |ret v=>obtain⟨x7,j,H7,I7,r7,q7⟩:=q7;exact⟨x7,j,H7,I7.unpinned,r7,q7⟩
abbrev R2:=V->V->Hp->VK->Prop
def wg(X:Cx)(f:Value->Value->Sem Value)(r:R2):Prop:=
 ∀(pins:List<|Addr×Obj) (s:Shared) (σ:St) (H:Hp) (x y:V) (v u:Value) (Q:VK),qx X pins σ H s->zv x v->zv y u->r x y H Q->
  wpAny (model X.prog X.w) X.A (f v u) (EP X pins σ Q) X.xe s
def jn(X:Cx)(f:Value)(r:List V->Hp->VK->Prop):Prop:=
 ∀(pins:List<|Addr×Obj) (s:Shared) (σ:St) (H:Hp) (xs:List V) (us:List Value) (Q:VK),qx X pins σ H s->zw xs us->r xs H Q->
  wpAny (model X.prog X.w) X.A (call f us) (EP X pins σ Q) X.xe s
def Ei(r:R2)(ta tb:TE):TE:=λσ H Q=>ta σ H λx H1=>tb σ H1 λy H2=>r x y H2 Q
def rI(C:Int->Int->Prop)(g:Int->Int->V):R2:=λx y H Q=>∃i j,x=.int i/\y=.int j/\C i j/\Q (g i j) H
def q_(g:Int->Int->V):R2:=λx y H Q=>∃i j,x=.int i/\y=.int j/\Q (g i j) H
section
variable {a b c:Expr}{ta tb tc:TE}
theorem FV(j:PE X a ta)(l:PE X b tb){R:V->V->Hp->Prop}(I:qx X pins σ H s)
 (h:ta σ H λx H1=>tb σ H1 λy H2=>R x y H2) {f:Value->Value->Sem Value}
 (o:∀v u g x y H2,qx X pins σ H2 g->zv x v->zv y u->R x y H2->wpAny (model X.prog X.w) X.A (f v u) Q X.xe g):
 wpAny (model X.prog X.w) X.A (eval a X.env) (λv J=>wpAny (model X.prog X.w) X.A (eval b X.env) (λu U=>wpAny (model X.prog X.w) X.A (f v u) Q X.xe U) X.xe J) X.xe s:=by
 refine aa (j pins s σ H _ I h) λv p x H1 r t C=>?_;refine aa (l pins p σ H1 _ r C) λu g y H2 T r2 q2=>?_;exact o v u g x y H2 T t r2 q2
theorem Mw{op:Operator}{r:R2}(U:wg X (binaryOp op) r)(g:PE X a ta)(j:PE X b tb):PE X (.BinOp a op b pos) (Ei r ta tb):=by intro J s l H Q I h;exact wpAny_BinOp<|FV g j I h λv u o x y p t C T q=>U J o l p x y v u Q t C T q
theorem FW{f:Value->Value->Sem Value}{C:Int->Int->Prop}{g:Int->Int->Int}
 (rule:∀(i j:Int) (t u:Tok) (s:Shared) (Q:Value->Shared->Prop) (E:Value->Shared->Prop),C i j->Q (.int (g i j) s.toks) { s with toks:=s.toks+1 }->wpAny (model X.prog X.w) X.A (f (.int i t)<|.int j u) Q E s):
 wg X f (rI C λi j=>.int<|g i j):=by
 intro J s r H x y v u Q I U l h;obtain⟨i,j,rfl,rfl,o,q⟩:=h;obtain⟨t,rfl⟩:=U;obtain⟨p,rfl⟩:=l;exact rule i j t p s _ _ o ⟨.int<|g i j,H,I.tok _,⟨_,rfl⟩,q⟩
theorem Hj{f:Value->Value->Sem Value}{g:Int->Int->Int}
 (rule:∀(i j:Int) (t u:Tok) (s:Shared) (Q:Value->Shared->Prop) (E:Value->Shared->Prop),Q (.int (g i j) s.toks) { s with toks:=s.toks+1 }->wpAny (model X.prog X.w) X.A (f (.int i t)<|.int j u) Q E s):
 wg X f (q_ λi j=>.int<|g i j):=by
 intro J s p H x y v u Q I U l h;obtain⟨i,j,rfl,rfl,q⟩:=h;obtain⟨t,rfl⟩:=U;obtain⟨o,rfl⟩:=l;exact rule i j t o s _ _ ⟨.int<|g i j,H,I.tok _,⟨_,rfl⟩,q⟩
theorem FX{f:Value->Value->Sem Value}{g:Int->Int->Bool}
 (rule:∀(i j:Int) (t u:Tok) (s:Shared) (Q:Value->Shared->Prop) (E:Value->Shared->Prop),Q (.bool<|g i j) s->wpAny (model X.prog X.w) X.A (f (.int i t)<|.int j u) Q E s):
 wg X f (q_ λi j=>.bl<|g i j):=by
 intro J s p H x y v u Q I U l h;obtain⟨i,j,rfl,rfl,q⟩:=h;obtain⟨t,rfl⟩:=U;obtain⟨o,rfl⟩:=l;exact rule i j t o s _ _ ⟨.bl<|g i j,H,I,rfl,q⟩
def FY(i j:Int):Prop:=0<j/\j<1073741824
def abw(i j:Int):Prop:=(-(2 ^ 64)<i/\i<2 ^ 64)\/(-(2 ^ 64)<j/\j<2 ^ 64)
theorem abw.ok{i j:Int}(h:abw i j):IntMulOk i j:=by
 rcases h with⟨h1,h2⟩|⟨h1,h2⟩
 ·exact .of_left<|intBits_le_64 h1 h2
 ·exact .of_right<|intBits_le_64 h1 h2
theorem Mx:wg X (binaryOp .Add) (q_ λi j=>.int<|i+j):=Hj λ_ _ _ _ _ _ _ q=>add_int q
theorem My:wg X (binaryOp .Sub) (q_ λi j=>.int<|i-j):=Hj λ_ _ _ _ _ _ _ q=>sub_int q
theorem Mz:wg X (binaryOp .Mult) (rI abw λi j=>.int<|i*j):=FW λ_ _ _ _ _ _ _ I q=>mul_int q I.ok
theorem MA:wg X (binaryOp .FloorDiv) (rI FY λi j=>.int<|i / j):=FW λi j _ _ _ _ _ I q=>by have h1:(0:Int)<j:=I.1;have h2:j<1073741824:=I.2;exact floordiv_int (by lia) (by rw[Int.fdiv_eq_ediv_of_nonneg i (by lia)];exact q)<|.inl<|PyProof.noPylong_small (by lia)
theorem MB:wg X (binaryOp .Mod) (rI (λ_ j=>0<j) λi j=>.int<|i % j):=FW λi j _ _ _ _ _ I q=>by have h1:(0:Int)<j:=I;exact mod_int' (by lia) (by rw[Int.fmod_eq_emod_of_nonneg i (by lia)];exact q)
end
def Fm:V->V->Bool
 |.non,.non=>true|.non,.int _=>true|.int _,.non=>true|.non,.bl _=>true|.bl _,.non=>true|.non,.str _=>true|.str _,.non=>true
 |.int _,.int _=>true|.bl _,.bl _=>true|.str _,.str _=>true|.byt _,.byt _=>true
 |.int _,.str _=>true|.str _,.int _=>true|.bl _,.str _=>true|.str _,.bl _=>true
 |_,_=>false
def MC:R2:=λx y H Q=>Fm x y=true/\Q (.bl<|decide<|x=y) H
def MD:R2:=λx y H Q=>Fm x y=true/\Q (.bl<|!decide (x=y)) H
theorem xL{i j:Int}:decide (V.int i=V.int j)=(i==j):=by rw[BR];simp
theorem Hk{i j:Bool}:decide (V.bl i=V.bl j)=(i==j):=by rw[BR];simp
theorem xU{i j:Str}:decide (V.str i=V.str j)=(i==j):=by rw[BR];simp
theorem xM{i j:Array UInt8}:decide (V.byt i=V.byt j)=(i.toList==j.toList):=by rw[BR];cases i;cases j;simp
section
variable {a b c:Expr}{ta tb tc:TE}
theorem ju{Q:VK}{k J:Bool}(I:qx X pins σ H s)(q:Q (.bl k) H)(e:k=J):EP X pins σ Q (.bool J) s:=by subst e;exact⟨.bl k,H,I,rfl,q⟩
theorem Hl:wg X (compareOp .Eq) MC:=by
 intro o s p H x y v u Q I l J h;obtain⟨g,q⟩:=h;cases x with
 |non=>
  cases l;cases y with
  |non=>cases J;exact PySem.EqNone.eq_none_none<|ju I q (by simp)
  |bl j=>cases J;exact PySem.EqNone.eq_none_bool<|ju I q (by simp)
  |int j=>obtain⟨U,rfl⟩:=J;exact PySem.EqNone.eq_none_int<|ju I q (by simp)
  |str j=>obtain⟨U,rfl⟩:=J;exact PySem.EqNone.eq_none_str<|ju I q (by simp)
  |_=>exact absurd (show false=true from g) AH
 |bl i=>
  cases l;cases y with
  |non=>cases J;exact PySem.EqNone.eq_bool_none<|ju I q (by simp)
  |bl j=>cases J;exact eq_bool<|ju I q Hk
  |str j=>obtain⟨U,rfl⟩:=J;exact PySem.EqMixed.eq_bool_str<|ju I q (by simp)
  |_=>exact absurd (show false=true from g) AH
 |int i=>
  obtain⟨t,rfl⟩:=l;cases y with
  |non=>cases J;exact PySem.EqNone.eq_int_none<|ju I q (by simp)
  |int j=>obtain⟨U,rfl⟩:=J;exact eq_int<|ju I q xL
  |str j=>obtain⟨U,rfl⟩:=J;exact PySem.EqMixed.eq_int_str<|ju I q (by simp)
  |_=>exact absurd (show false=true from g) AH
 |str i=>
  obtain⟨t,rfl⟩:=l;cases y with
  |non=>cases J;exact PySem.EqNone.eq_str_none<|ju I q (by simp)
  |bl j=>cases J;exact PySem.EqMixed.eq_str_bool<|ju I q (by simp)
  |int j=>obtain⟨U,rfl⟩:=J;exact PySem.EqMixed.eq_str_int<|ju I q (by simp)
  |str j=>obtain⟨U,rfl⟩:=J;exact eq_str<|ju I q xU
  |_=>exact absurd (show false=true from g) AH
 |byt i=>
  obtain⟨t,rfl⟩:=l;cases y with
  |byt j=>obtain⟨U,rfl⟩:=J;exact PySem.W.eq_bytes<|ju I q xM
  |_=>exact absurd (show false=true from g) AH
 |_=>cases y<;>exact absurd (show false=true from g) AH
theorem Hm:wg X (compareOp .NotEq) MD:=by
 intro o s p H x y v u Q I l J h;obtain⟨g,q⟩:=h;cases x with
 |non=>
  cases l;cases y with
  |non=>cases J;exact PySem.EqNone.ne_none_none<|ju I q (by simp)
  |bl j=>cases J;exact PySem.EqNone.ne_none_bool<|ju I q (by simp)
  |int j=>obtain⟨U,rfl⟩:=J;exact PySem.EqNone.ne_none_int<|ju I q (by simp)
  |str j=>obtain⟨U,rfl⟩:=J;exact PySem.EqNone.ne_none_str<|ju I q (by simp)
  |_=>exact absurd (show false=true from g) AH
 |bl i=>
  cases l;cases y with
  |non=>cases J;exact PySem.EqNone.ne_bool_none<|ju I q (by simp)
  |bl j=>cases J;exact ne_bool<|ju I q<|BF not Hk
  |str j=>obtain⟨U,rfl⟩:=J;exact PySem.EqMixed.ne_bool_str<|ju I q (by simp)
  |_=>exact absurd (show false=true from g) AH
 |int i=>
  obtain⟨t,rfl⟩:=l;cases y with
  |non=>cases J;exact PySem.EqNone.ne_int_none<|ju I q (by simp)
  |int j=>obtain⟨U,rfl⟩:=J;exact ne_int<|ju I q<|BF not xL
  |str j=>obtain⟨U,rfl⟩:=J;exact PySem.EqMixed.ne_int_str<|ju I q (by simp)
  |_=>exact absurd (show false=true from g) AH
 |str i=>
  obtain⟨t,rfl⟩:=l;cases y with
  |non=>cases J;exact PySem.EqNone.ne_str_none<|ju I q (by simp)
  |bl j=>cases J;exact PySem.EqMixed.ne_str_bool<|ju I q (by simp)
  |int j=>obtain⟨U,rfl⟩:=J;exact PySem.EqMixed.ne_str_int<|ju I q (by simp)
  |str j=>obtain⟨U,rfl⟩:=J;exact ne_str<|ju I q<|BF not xU
  |_=>exact absurd (show false=true from g) AH
 |byt i=>
  obtain⟨t,rfl⟩:=l;cases y with
  |byt j=>obtain⟨U,rfl⟩:=J;exact PySem.W.ne_bytes<|ju I q<|BF not xM
  |_=>exact absurd (show false=true from g) AH
 |_=>cases y<;>exact absurd (show false=true from g) AH
theorem ME:wg X (compareOp .Lt) (q_ λi j=>.bl<|decide<|i<j):=FX λ_ _ _ _ _ _ _ q=>lt_int q
theorem MF:wg X (compareOp .LtE) (q_ λi j=>.bl<|decide<|i<=j):=FX λ_ _ _ _ _ _ _ q=>le_int q
theorem MG:wg X (compareOp .Gt) (q_ λi j=>.bl<|decide<|j<i):=FX λ_ _ _ _ _ _ _ q=>gt_int q
theorem km(b:Expr){op:CmpOp}(h:op≠.In:=by decide)(h2:op≠.NotIn:=by decide):behindInMarks op b=false:=by
 have I:(op==CmpOp.In)=false:=by cases op<;>first|rfl|exact absurd rfl h
 have J:(op==CmpOp.NotIn)=false:=by cases op<;>first|rfl|exact absurd rfl h2
 cases b<;>simp[behindInMarks,I,J]
theorem MJ{op:CmpOp}{r:R2}(U:wg X (compareOp op) r)(g:PE X a ta)(j:PE X b tb)(l:behindInMarks op b=false):PE X (.Compare a [op] [b] pos) (Ei r ta tb):=by intro J s o H Q I h;exact wpAny_Compare1 (FV g j I h λv u p x y t C T ry q=>U J p o t x y v u Q C T ry q) l
def FZ(t:TE):TT:=λσ H Q=>t σ H λx H'=>∃k,x=.bl k/\Q k H'
theorem MK{op:CmpOp}{r:R2}(g:wg X (compareOp op) r)(j:PE X a ta)(l:PE X b tb)(o:behindInMarks op b=false):PT X (.Compare a [op] [b] pos) (FZ<|Ei r ta tb):=by
 intro J s U H Q I h;refine wpAny_isTrue_Compare1 (aa (j J s U H _ I h) λv p x t C T q1=>aa (l J p U t _ C q1) λu s2 y H2 I2 r2 q2=>
  aE (g J s2 U H2 x y v u _ I2 T r2 q2) λc s3 ⟨z,H3,I3,r3,k,e,q3⟩=>?_) o
 subst e;cases r3;exact wpAny_truthy_bool ⟨H3,I3,q3⟩
theorem iT:(sizeLine:Nat)<2 ^ 63:=by rw[sizeLine_eq];decide
theorem vQ:wg X (binaryOp .Add) (λx y H Q=>∃i j,x=.str i/\y=.str j/\i.length+j.length<=sizeLine/\Q (.str<|i++j) H):=by intro J s p H x y v u Q I U g h;obtain⟨i,j,rfl,rfl,l,q⟩:=h;obtain⟨t,rfl⟩:=U;obtain⟨o,rfl⟩:=g;exact jy I.tk<|add_str (λo r C=>⟨.str<|i++j,H,I.tok _,⟨_,rfl⟩,q⟩) l
theorem jM{x:V}(r:zw [x] us):∃u,us=[u]/\zv x u:=by cases r with|cons I J=>cases J;exact⟨_,rfl,I⟩
theorem F1{x y:V}(r:zw [x,y] us):∃u I,us=[u,I]/\zv x u/\zv y I:=by
 cases r with
 |cons J U=>
  cases U with|cons g j=>cases j;exact⟨_,_,rfl,J,g⟩
theorem MN(hc:X.calm=true):jn X (.builtin "max") (λxs H Q=>∃i j,xs=[.int i,.int j]/\Q (.int<|if j > i then j else i) H):=by
 intro U s g H xs l Q I r h;obtain⟨i,j,rfl,q⟩:=h;obtain⟨u,o,rfl,⟨t,rfl⟩,⟨p,rfl⟩⟩:=F1 r;refine jy I.tk<|max_two_ints (I.ok.hd hc) λC T k ht=>⟨_,H,I.kept k,?_,q⟩;by_cases J:j > i
 ·rw[AB J,AB J];exact⟨_,rfl⟩
 ·rw[AC J,AC J];exact⟨_,rfl⟩
theorem MO(hc:X.calm=true):jn X (.builtin "min") (λxs H Q=>∃i j,xs=[.int i,.int j]/\Q (.int<|if j<i then j else i) H):=by
 intro U s g H xs l Q I r h;obtain⟨i,j,rfl,q⟩:=h;obtain⟨u,o,rfl,⟨t,rfl⟩,⟨p,rfl⟩⟩:=F1 r;refine jy I.tk<|min_two_ints (I.ok.hd hc) λC T k ht=>⟨_,H,I.kept k,?_,q⟩;by_cases J:j<i
 ·rw[AB J,AB J];exact⟨_,rfl⟩
 ·rw[AC J,AC J];exact⟨_,rfl⟩
end
structure akv(h:Heap)(x dx C:Addr)(mA:Str->Option Value):Prop where
 obj:h.get? x=some (PySem.W.instObj C dx)
 ns:h.Ns1 dx mA
 ne:dx≠x
theorem yx(n:h.Ns1 dx mA):∃od,h.get? dx=some od/\∀name,PySem.W.lookIn name od=some (mA name):=by
 obtain⟨o,J,r,U,hd,g,_,j⟩:=n;refine⟨o,U,λname=>?_⟩;have e:=j name;unfold nsFind findBy at e;rw[<-Array.find?_toList] at e;unfold PySem.W.lookIn;rw[hd];dsimp only;split
 ·rename_i y q;rw[q] at e;exact BF some e
 ·rename_i q;rw[q] at e;have a:J.toList.any (·.refKey)=false:=by rw[List.any_eq_false];intro y l;obtain⟨z,t,I⟩:=g y<|Array.mem_toList_iff.mp l;simp[DictEntry.refKey,I]
  have p:¬J.toList.any (·.refKey)=true:=by rw[a];exact AH
  rw[AC p];exact BF some e
theorem akv.look{x:Addr}(I:akv h x dx C mA):∃od,PySem.W.InstAt h x (PySem.W.instObj C dx) C (some od)/\∀name,PySem.W.lookIn name od=some (mA name):=
 let ⟨od,J,U⟩:=yx I.ns
 ⟨od,⟨I.obj,rfl,rfl,J⟩,U⟩
section
variable {w:World}{K:Af}{x:Addr}
end
theorem i0.some_of{v:V}{o:Option Value}(r:i0 (some v) o):∃u,o=some u/\zv v u:=by cases o with|none=>exact(show False from r).elim|some u=>exact⟨u,rfl,r⟩
abbrev EM:=@i0.some_of
section
variable {P:Program}{w:World}{a:Addr}{fs fs':List<|Str×V}
theorem MQ(hok:dZ P w H h)(e:H a=some (.ins C dx fs)):∃mA,akv h a dx C mA/\(∀f,i0 (fs.lookup f)<|mA f)/\PySem.Within mA (fs.map (·.1))/\fs.length<=1000/\H dx=some (.own a):=by obtain⟨d,z,ne,ob,mA,n,r,q⟩:=(show xo P w H h a (.ins C dx fs) from hok a _ e);exact⟨mA,⟨ob,n,ne⟩,r,q,z,d⟩
end
structure Cls(K:Af)(C:Addr):Prop where
 pg:PySem.W.plainGet K C Str.empty=true
 hd:PySem.W.hasDictIn K C=true
 po:PySem.W.plainOver K C=true
 sa:PySem.W.findIn K (.ref C) "__setattr__"=some (some<|.builtin "object.__setattr__")
theorem Cls.get{K:Af}(c:Cls K C)(f:Str):PySem.W.plainGet K C f=true:=c.pg
section
variable {a:Addr}{fs:List<|Str×V}{f:Str}{v:V}
end
section
variable {f:Str}{tpos:Pos}{ta tv:TE}
end
section
variable {c:Value}{b:Bool}
inductive kC(K:Af)(H:Hp):V->Value->Prop where
 |non:kC K H .non (.type "NoneType")
 |bl (x:Bool):kC K H (.bl x) (.type "bool")
 |int (i:Int):kC K H (.int i) (.type "int")
 |str (x:Str):kC K H (.str x) (.type "str")
 |flt (x:UInt64):kC K H (.flt x) (.type "float")
 |lst {a:Addr} {xs:List V} (e:H a=some (.lst xs)):kC K H (.ref a) (.type "list")
 |frz {a:Addr} {o:Obj} {xs:List V} (e:H a=some (.frz o<|.lst xs)):kC K H (.ref a) (.type "list")
 |tup {a:Addr} {xs:List V} (e:H a=some (.tup xs)):kC K H (.ref a) (.type "tuple")
 |dK {a:Addr} {kvs:List<|jf×V} (e:H a=some (.dK kvs)):kC K H (.ref a) (.type "dict")
 |dT {a:Addr} {kvs:List<|List jf×V} (e:H a=some (.dT kvs)):kC K H (.ref a) (.type "dict")
 |ins {a C dx:Addr} {fs:List<|Str×V} (e:H a=some (.ins C dx fs)) (cl:Cls K C) (ha:PySem.W.findIn K (.ref C) "__class__"=some (some<|.builtin "object.__class__"))
  (hn:PySem.W.specialIn K (.builtin "object.__class__") "__get__"=some (some<|.builtin "getset_descriptor.__get__")) (htk:PySem.W.takesIn K (.builtin "object.__class__")=some true)
  (hm:PySem.W.mroIn K C (.type "object")=some true):kC K H (.ref a) (.ref C)
theorem af{x:V}{t:Value}(I:qx X pins σ H s)(U:zv x u)(ty:kC X.K H x t)(e:PySem.W.kitOne X.K t c=some b)(h:∀tk,Q (.bool b) { s with toks:=tk }):
 wpAny (model X.prog X.w) A (call (.builtin "isinstance") [u,c]) Q E s:=by
 cases ty with
 |non=>cases (show u=Value.none from U);exact Bq PySem.W.kitx_none I.kIn True.intro e (λz=>nomatch z) h
 |bl y=>cases (show u=Value.bool y from U);exact Bq PySem.W.kitx_bool I.kIn True.intro e (λz=>nomatch z) h
 |int i=>obtain⟨t,q⟩:=(show ∃t,u=Value.int i t from U);cases q;exact Bq PySem.W.kitx_int I.kIn True.intro e (λz=>nomatch z) h
 |str y=>obtain⟨t,q⟩:=(show ∃t,u=Value.str y t from U);cases q;exact Bq PySem.W.kitx_str I.kIn True.intro e (λz=>nomatch z) h
 |flt y=>obtain⟨t,q⟩:=(show ∃t,u=Value.float y t from U);cases q;exact Bq PySem.W.kitx_float I.kIn True.intro e (λz=>nomatch z) h
 |@lst a j ea=>
  cases (show u=Value.ref a from U);obtain⟨_,_,n,_,h1⟩:=(show xo X.prog X.w H s.heap a (.lst j) from I.hok a _ ea);exact Bq DR I.kIn ⟨_,h1,rfl⟩ e (λz=>nomatch z) h
 |@frz a ob j ea=>
  cases (show u=Value.ref a from U);obtain⟨_,_,_,n,_,h1⟩:=(show xo X.prog X.w H s.heap a (.frz ob<|.lst j) from I.hok a _ ea);exact Bq DR I.kIn ⟨_,h1,rfl⟩ e (λz=>nomatch z) h
 |@tup a j ea=>
  cases (show u=Value.ref a from U);obtain⟨_,_,_,p⟩:=(show xo X.prog X.w H s.heap a (.tup j) from I.hok a _ ea);obtain⟨o,h1,h2,_⟩:=p;exact Bq PySem.W.kitx_tuple I.kIn ⟨o,h1,h2⟩ e (λz=>nomatch z) h
 |@dK a g ea=>
  cases (show u=Value.ref a from U);obtain⟨_,_,vs,_,p⟩:=(show xo X.prog X.w H s.heap a (.dK g) from I.hok a _ ea);obtain⟨o,T,ep,h1,h2,_⟩:=p;exact Bq PySem.W.kitx_dict I.kIn ⟨o,h1,h2.1⟩ e (λz=>nomatch z) h
 |@dT a g ea=>
  cases (show u=Value.ref a from U);obtain⟨_,_,j,_,o,T,ep,h1,h2,_⟩:=(show xo X.prog X.w H s.heap a (.dT g) from I.hok a _ ea);exact Bq PySem.W.kitx_dict I.kIn ⟨o,h1,h2.1⟩ e (λz=>nomatch z) h
 |@ins a C dx fs ea r ha hn l hm=>
  cases (show u=Value.ref a from U);obtain⟨mA,O,_⟩:=MQ I.hok ea;obtain⟨od,J,_⟩:=O.look;exact Bq (PySem.W.kitx_own (r.get _) r.hd ha hn l hm) I.kIn J e (λz=>nomatch z) h
end
structure kz(k:Nat)(A:Around):Prop where
 hd:A.handled=none
 dp:A.depth+3*k+5<recursionLimit
 un:A.units+16*k+200<cLine
theorem kz.mono{k:Nat}(r:kz k A)(h:j<=k):kz j A:=⟨r.hd,by have:=r.dp;lia,by have:=r.un;lia⟩
theorem kz.deeper{k:Nat}(r:kz (k+1) A)(env:Env):kz k (A.deeper env):=
 ⟨r.hd,by have:=r.dp;show A.depth+1+3*k+5<_;lia,by have:=r.un;show A.units+3+16*k+200<_;lia⟩
theorem kz.depth{k:Nat}(r:kz k A):A.depth<recursionLimit:=by have:=r.dp;lia
def MT:TA:=λ_ H Q=>Q [] H
def MU(ta:TE)(tr:TA):TA:=λσ H Q=>ta σ H λx H1=>tr σ H1 λxs H2=>Q (x::xs) H2
section
variable {te:TE}{t:TA}
theorem me:PA X [] MT:=λ_ _ _ _ H Q I h=>EY ⟨[],H,I,.nil,h⟩
abbrev Ew(e:Expr)(es:List Expr)(X:Cx):Prop:=starEach (e::es) X.env=(false,eval e X.env)::starEach es X.env
theorem fH(g:PE X e te)(j:PA X es t)(hs:Ew e es X:=by rfl):PA X (e::es) (MU te t):=by intro pos J s U H Q I h;rw[hs];show wpAny _ _ (spliced<|(false,eval e X.env)::backTo pos (starEach es X.env)) _ _ s;refine Ev<|aa (g J s U H _ I h) λu l x o p r C=>?_;exact zE (j pos J l U o _ p C) λus s2 T H2 I2 r2 q2=>⟨x::T,H2,I2,.cons r r2,q2⟩
def MV(t:TA):TE:=λσ H Q=>t σ H λxs H1=>xs.length<=sizeLine/\∀p,H1 p=none->Q (.ref p) (upd H1 p<|.tup xs)
def MW(t:TA):TE:=λσ H Q=>t σ H λxs H1=>xs.length<=sizeLine/\∀p,H1 p=none->Q (.ref p) (upd H1 p<|.lst xs)
theorem MX{x1}(h:PA X es t):PE X (.Tuple es x1 pos) (MV t):=by intro J s l H Q I o;refine wpAny_Tuple_spliced (aE (h pos J s l H _ I o) λp U ⟨C,g,j,r,z,q⟩=>⟨by rw[<-r.length];exact z,?_⟩);have T:g U.heap.objs.size=none:=j.hok.fresh<|Ao _;refine⟨.ref U.heap.objs.size,upd g U.heap.objs.size<|.tup C,j.laid (t':=U.toks) (λb u e=>sy _ e) (Ao _) ?_,rfl,q _ T⟩;exact⟨z,p,r,⟨_,vb _ rfl,rfl,_,rfl⟩⟩
theorem MY(h:PA X es t):PE X (.List es pos) (MW t):=by intro J s l H Q I o;refine wpAny_List_spliced (aE (h pos J s l H _ I o) λp U ⟨C,g,j,r,z,q⟩=>⟨by rw[<-r.length];exact z,?_⟩);have T:g U.heap.objs.size=none:=j.hok.fresh<|Ao _;refine⟨.ref U.heap.objs.size,upd g U.heap.objs.size<|.lst C,j.laid (t':=U.toks) (λb u e=>sy _ e) (Ao _) ?_,rfl,q _ T⟩;exact⟨z,p,0,r,vb _ rfl⟩
end
abbrev Sp:=List V->Hp->VK->XK->Prop
abbrev wN:=List Env->Hp->Shared->XK->Value->Shared->Prop
structure Fo(P:Program)(w:World)(K:Af)(mg:Str->Option Value)(base:Heap)(A:Around)(outer:List Env)(s:Shared)(H:Hp):Prop where
 frames:A.frames=some outer
 mod:Mod K mg base
 bs:∀b o,base.get? b=some o->s.heap.get? b=some o/\H b=none
 bsz:base.objs.size<=s.heap.objs.size
 funs:s.heap.FunFrames base outer
 frf:∀b∈bT outer,H b=none
 hok:dZ P w H s.heap
 bare:AllBare s.gens
 tk:0<s.toks
def CE(outer:List Env)(P:Program)(w:World)(H:Hp)(s:Shared)(Q:VK)(u:Value)(s':Shared):Prop:=
 ∃v H',s'.os=s.os/\AllBare s'.gens/\Un (bT outer) [] H H' s.heap s'.heap/\dZ P w H' s'.heap/\zv v u/\Q v H'/\0<s'.toks
def CR(CX:wN)(outer:List Env)(P:Program)(w:World)(H:Hp)(s:Shared)(Q:VK)(E:XK)(r:Result)(s':Shared):Prop:=
 match r with
 |.ok (.ret u)=>CE outer P w H s Q u s'
 |.ok _=>False
 |.error e=>CX outer H s E e s'
structure ay(P:Program)(w:World)(K:Af)(mg:Str->Option Value)(base:Heap)(CX:wN)(k:Nat)(f:Addr)(fd:FuncData)(ps:List Str)(sp:Sp):Prop where
 len:∀vs H Q E,sp vs H Q E->vs.length=ps.length
 run:∀(A:Around) (outer:List Env) (s:Shared) (H:Hp) (args:Args) (us:List Value) (vs:List V) (Q:VK) (E:XK),kz k A->Fo P w K mg base A outer s H->BindsTo s fd args (ps.zip us)->zw vs us->sp vs H Q E->
  codeAny (model P w) A (.call (.ref f) args) (CR CX outer P w H s Q E) s
theorem ay.mono{P:Program}{w:World}{K:Af}{CX:wN}{k:Nat}{sp:Sp}(F:ay P w K mg base CX j f fd ps sp)(h:j<=k):
 ay P w K mg base CX k f fd ps sp:=⟨F.len,λA I s H args J U Q E g=>F.run A I s H args J U Q E<|g.mono h⟩
theorem ay.imp{P:Program}{w:World}{K:Af}{CX:wN}{k:Nat}{sp J:Sp}(F:ay P w K mg base CX k f fd ps sp)
 (h:∀vs H Q E,J vs H Q E->sp vs H Q E):ay P w K mg base CX k f fd ps J:=
 ⟨λvs H Q E q=>F.len vs H Q E<|h _ _ _ _ q,λA I s H args U vs Q E g j l o p=>F.run A I s H args U vs Q E g j l o<|h _ _ _ _ p⟩
theorem qx.env0(I:qx X pins σ H s):Fo X.prog X.w X.K X.mg X.base X.A X.stack s H:=
 ⟨I.ok.frames,I.ok.mod,I.bs,AZ I.ok.bsz I.sz,I.stack,I.stkFree,I.hok,I.bare,I.tk⟩
theorem qx.after{Q:VK}(I:qx X pins σ H s)(h:CE X.stack X.prog X.w H s Q u s'):EP X pins σ Q u s':=by obtain⟨v,j,os,bare,un,J,r,q,o⟩:=h;obtain⟨l,g,d,t,U⟩:=s';obtain rfl:U=s.os:=os;exact⟨v,j,I.call (h':=l) (g':=g) (d':=d) (t':=t) (ch:=[]) un J bare λb z=>absurd z (by simp),r,q⟩
def Ho(sp:Sp)(pR:List V)(E:XK)(t:TA):TE:=λσ H Q=>t σ H λvs H1=>sp (vs++pR) H1 Q E
def dR(K:Af)(fd:FuncData)(ps:List Str)(ds:List Value):Prop:=
 ∀(s:Shared) (us:List Value),K.In s.heap->(us++ds).length=ps.length->BindsTo s fd ⟨us,[]⟩ (ps.zip<|us++ds)
theorem dR.all{K:Af}(h:∀us:List Value,us.length=ps.length->bindArgs fd ⟨us,[]⟩=pure (ps.zip us)):dR K fd ps []:=λs us _ I=>by rw[AD] at I ⊢;exact .of_eq<|h us I
def vI(CX:wN)(X:Cx)(E:XK):Prop:=∀(pins:List<|Addr×Obj) (σ:St) (H:Hp) (s:Shared) (e:Value) (s':Shared),qx X pins σ H s->CX X.stack H s E e s'->X.xe e s'
section
variable {CX:wN}{k:Nat}{sp:Sp}{pR:List V}{ds:List Value}{E:XK}{m:Str}{p:Pos}{ta:TE}{t:TA}
theorem MZ{Q:VK}{vs:List V}(F:ay X.prog X.w X.K X.mg X.base CX k f fd ps sp)(g:kz k X.A)(j:dR X.K fd ps ds)(hd:zw pR ds)(l:vI CX X E)
 (I:qx X pins σ H s) (r:zw vs us) (h:sp (vs++pR) H Q E):wpAny (model X.prog X.w) X.A (call (.ref f) us) (EP X pins σ Q) X.xe s:=by
 have U:zw (vs++pR) (us++ds):=r.append hd;have o:(us++ds).length=ps.length:=by rw[<-U.length];exact F.len _ _ _ _ h
 refine wpAny_call<|codeAny_mono (F.run X.A X.stack s H ⟨us,[]⟩ (us++ds) (vs++pR) Q E g I.env0 (j s us I.kIn o) U h) λr p J=>?_;cases r with
 |error e=>exact l pins σ H s e p I J
 |ok t=>
  cases t with|ret u=>exact I.after J|next=>exact False.elim J|brk=>exact False.elim J|cont=>exact False.elim J
abbrev Ex(p:Pos)(es:List Expr)(X:Cx):Prop:=(backTo p<|starEach es X.env).any (·.1)=false
theorem M6(F:ay X.prog X.w X.K X.mg X.base CX k f fd ps sp)(l:kz k X.A)(o:Gl X x)(C:X.mg x=some (.ref f))(T:PySem.W.keepIn X.K (.ref f)=true)(hb:dR X.K fd ps ds)(hd:zw pR ds)(hx:vI CX X E)
 (ha:PA X (e::es) t) (U:Ey x:=by decide) (he:Ew e es X:=by rfl) (g:Ex pos es X:=by rfl):
 PE X (.Call (.Name x p) (e::es) [] pos) (Ho sp pR E t):=by
 intro J s σ H Q I h;refine wpAny_Call_Name_kw<|hZ I o C ?_ U;refine PySem.W.callWith_K (h₀:=X.base) I.ok.mod.kin T (zE (ha pos J s σ H _ I h) λus s1 vs H1 j r q=>⟨j.kIn,?_⟩) he g;exact MZ F l hb hd hx j r q
end
section
variable {CX:wN}{k:Nat}{ks:List Str}{sp:Sp}{E:XK}{m:Str}{p:Pos}{kws:List Keyword}{te ta:TE}{t tk:TA}{nm:Option Str}
variable {g:List Value->List Value->List Value}{gV:List V->List V->List V}
end
structure ww(N P:List Str)(sc:Scope):Prop where
 kind:sc.kind=.function
 co:sc.isCoroutine=false
 gen:sc.isGenerator=false
 nd:N.Nodup
 pre:N.take P.length=P
 par:∀x∈P,sc.names.lookup x=some .local\/sc.names.lookup x=some .cell
 nofree:∀y∈sc.names,y.2≠.free
theorem oJ{kindOf:Str->Option NameKind}{x:Str}:∀{I:List<|Str×Value} {m:Str->Option Value},(∀v,(x,v)∉I)->bindL kindOf I m x=m x
 |[],_,_=>rfl
 |(n,v)::r,m,h=>by
  unfold bindL;rw[oJ λw hw=>h w<|Ac _ hw];split
  ·have:x≠n:=by rintro rfl;exact h v Ak
   simp[this]
  ·rfl
theorem oh{kindOf:Str->Option NameKind}{x:Str}:∀{I:List<|Str×Value} {m:Str->Option Value},(∀v,(x,v)∉I)->bindC kindOf I m x=m x
 |[],_,_=>rfl
 |(n,v)::r,m,h=>by
  unfold bindC;rw[oh λw hw=>h w<|Ac _ hw];split
  ·rfl
  ·have:x≠n:=by rintro rfl;exact h v Ak
   simp[this]
theorem oF{kindOf:Str->Option NameKind}{x:Str}{v:Value}:∀{P:List Str} {vs:List Value} {i:Nat} {m:Str->Option Value},P.Nodup->P[i]?=some x->vs[i]?=some v->kindOf x=some .local->
 bindL kindOf (P.zip vs) m x=some v
 |[],_,_,_,_,h,_,_=>by simp at h
 |_::_,[],_,_,_,_,h,_=>by simp at h
 |p::P,w::vs,0,m,nd,h1,h2,I=>by simp at h1 h2;subst h1;subst h2;show bindL kindOf ((p,w)::P.zip vs) m p=_;unfold bindL;rw[oJ λv J=>(Aw.mp nd).1 (DC J).1,AB I];simp
 |p::P,w::vs,i+1,m,nd,h1,h2,I=>by show bindL kindOf ((p,w)::P.zip vs) m x=_;unfold bindL;exact oF (i:=i) (Aw.mp nd).2 (by simpa using h1) (by simpa using h2) I
theorem oS{kindOf:Str->Option NameKind}{x:Str}{v:Value}:∀{P:List Str} {vs:List Value} {i:Nat} {m:Str->Option Value},P.Nodup->P[i]?=some x->vs[i]?=some v->kindOf x≠some .local->
 bindC kindOf (P.zip vs) m x=some v
 |[],_,_,_,_,h,_,_=>by simp at h
 |_::_,[],_,_,_,_,h,_=>by simp at h
 |p::P,w::vs,0,m,nd,h1,h2,I=>by simp at h1 h2;subst h1;subst h2;show bindC kindOf ((p,w)::P.zip vs) m p=_;unfold bindC;rw[oh λv J=>(Aw.mp nd).1 (DC J).1,AC I];simp
 |p::P,w::vs,i+1,m,nd,h1,h2,I=>by show bindC kindOf ((p,w)::P.zip vs) m x=_;unfold bindC;exact oS (i:=i) (Aw.mp nd).2 (by simpa using h1) (by simpa using h2) I
def start(N:List Str)(vs:List V):St:=vs.map some++List.replicate (N.length-vs.length) none
def br(CX:wN)(P:Program)(w:World)(K:Af)(mg:Str->Option Value)(base:Heap)(N:List Str)(eH:Str)(scope:Scope)(f:Addr)(cd:Value)(A:Around)(outer:List Env)(s:Shared)(H:Hp)(E:XK):Cx where
 prog:=P
 w:=w
 K:=K
 mg:=mg
 base:=base
 A:=A.deeper<|envOfC eH scope s.heap.objs.size f cd
 N:=N
 s₀:=s
 H₀:=H
 env:=envOfC eH scope s.heap.objs.size f cd
 outer:=outer
 stack:=envOfC eH scope s.heap.objs.size f cd::outer
 ex:=[]
 calm:=true
 fn:=λ_=>true
 pn:=[]
 xe:=λe s'=>wpAny (model P w) (A.deeper<|envOfC eH scope s.heap.objs.size f cd) (leaving (envOfC eH scope s.heap.objs.size f cd) e) (λ_ I=>CX outer H s E e I) (λJ I=>CX outer H s E J I) s'
theorem uT{I:Scope}(h:I.names.lookup x=some .cell):∃c,(cellsFrom n I.names []).lookup x=some c:=by have q:=PySem.W.cellsFrom_some I.names n []<|.inl h;exact Option.isSome_iff_exists.mp q
theorem zT{CX:wN}{P:Program}{w:World}{K:Af}{N:List Str}{o:Shared}{E:XK}{vs:List V}
 (S:ww N ps scope) (hd:A.handled=none) (I:Fo P w K mg base A outer s H) (hl:vs.length=ps.length) (r:zw vs us)
 (x:InCallC s s.heap.objs.size (bindL (envOfC eH scope s.heap.objs.size f cd).kindOf (ps.zip us) λ_=>none) (cellsFrom (s.heap.objs.size+1) scope.names []) (bindC (envOfC eH scope s.heap.objs.size f cd).kindOf (ps.zip us) λ_=>none) o) (T:0<o.toks):
 qx (br CX P w K mg base N eH scope f cd A outer s H E) [] (start N vs) H o:=by
 have a1:ps.length<=N.length:=by have:=BF List.length S.pre;rw[AY] at this;lia
 obtain⟨h1,tk,rfl,t⟩:=x.done;have J:∀b:Addr,b∉(br CX P w K mg base N eH scope f cd A outer s H E).ex:=λb z=>absurd (show b∈([]:List Addr) from z) (by simp);refine⟨⟨I.mod,S.kind,rfl,rfl,Ao _,λy z c h1 h2=>?_,λy U=>?_,λy c _ h=>?_,λ_=>hd,Around.frames_deeper I.frames,.inr ⟨rfl,rfl⟩,λb z=>absurd z<|J b,I.bs,I.bsz,λb _ _=>J b,λb z=>absurd z<|J b,I.funs,I.frf⟩,
  rfl,I.bare,Un.kept t,⟨_,x.toInCall.ns,λi y v h1 h2 h3=>?_⟩,λy c h=>⟨_,x.cell y c h⟩,I.hok.fresh<|Ao _,λy c h=>?_,λp g=>absurd (show p∈([]:List<|Addr×Obj) from g) (by simp),I.hok.kept t,?_,T⟩
 ·exact name_of_addr x.apart (BD h1)<|BD h2
 ·have U:scope.names.lookup y=some .cell\/scope.names.lookup y=some .free:=U;rcases U with U|U
  ·exact uT U
  ·exact absurd rfl<|S.nofree _<|BD U
 ·exact BL<|x.above y c<|BD h
 ·have l:i<vs.length:=by
   unfold start at h2;by_cases l:i<vs.length
   ·exact l
   ·rw[Av (by simpa using l)] at h2;rw[Dg] at h2;split at h2<;>cases h2
  have ha:vs[i]?=some v:=by unfold start at h2;rw[AF (by simpa using l),Aq] at h2;cases e:vs[i]? with|none=>rw[e] at h2;cases h2|some a=>rw[e] at h2;cases h2;rfl
  obtain⟨u,C,rv⟩:=r.get ha;have g:ps[i]?=some y:=by rw[<-S.pre,List.getElem?_take_of_lt (by lia)];exact h1
  have j:ps.Nodup:=by rw[<-S.pre];exact S.nd.sublist<|DS _ _
  refine⟨u,rv,?_⟩;rcases S.par y (Az g) with k|k
  ·exact .inl ⟨k,oF j g C k⟩
  ·obtain⟨c,e⟩:=uT (n:=s.heap.objs.size+1) k;refine .inr ⟨.inl k,c,e,?_⟩;have q:=x.cell y c e;rw[oS j g C (by show scope.names.lookup y≠_;rw[k];decide)] at q;exact q
 ·exact I.hok.fresh<|BL<|x.above y c<|BD h
 ·unfold start;show _=N.length;rw[Ad,Ag,Cj];lia
theorem F2{CX:wN}{P:Program}{w:World}{K:Af}{k:Nat}{U:Arguments}{dV kV ct:Value}
 {N:List Str} {sp:Sp} (lk:K.lookup f=some ⟨oc,od,.func<|PySem.W.fnOf name eH U body scope dV kV hQ pm an eK ct,nE⟩) (a1:PySem.W.codeIn K eK eH=true) (S:ww N ps scope)
 (len:∀vs H Q E,sp vs H Q E->vs.length=ps.length)
 (j:∀(A:Around) (outer:List Env) (s:Shared) (H:Hp) (vs:List V) (Q:VK) (E:XK),kz k (A.deeper<|envOfC eH scope s.heap.objs.size f eK)->sp vs H Q E->
  ∃t,gZ (br CX P w K mg base N eH scope f eK A outer s H E) body t/\t { nx:=λ_ H'=>Q .non H',rt:=Q } (start N vs) H):
 ay P w K mg base CX (k+1) f (PySem.W.fnOf name eH U body scope dV kV hQ pm an eK ct) ps sp:=by
 refine⟨len,λA outer s H args us vs Q E hr p hb r T=>?_⟩;have hl:=len _ _ _ _ T;have KX:K.In s.heap:=p.mod.kin.keeps λb o e=>(p.bs b o e).1;have a3:s.heap.NoLimit:=p.mod.nolimit.keeps λb o e=>(p.bs b o e).1;have l:∀y∈ps.zip us,scope.names.lookup y.1=some .local\/(scope.names.lookup y.1=some .cell/\((cellsFrom (s.heap.objs.size+1) scope.names []).lookup y.1).isSome=true):=λ ψ hy=>by
  obtain⟨n,v⟩:=ψ
  rcases S.par n (DC hy).1 with q|q
  ·exact .inl q
  ·exact .inr ⟨q,PySem.W.cellsFrom_some _ _ _<|.inl q⟩
 refine codeAny_call_function hr.depth (KX _ _ lk) rfl S.co S.gen rfl (PySem.W.codeRec_of KX a1)<|hb _ _ _ _ ?_;refine jy p.tk<|wpAny_newFunctionEnv_cells S.kind l λa5 he s1 x a4=>?_;subst he;refine⟨a3.keeps x.toInCall.keep,codeAny_func ?_⟩;obtain⟨t,ht,hq⟩:=j A outer s H vs Q E (hr.deeper _) T;have I:qx (br CX P w K mg base N eH scope f eK A outer s H E) [] (start N vs) H s1:=zT S hr.hd p hl r x a4;refine AX (ht [] s1 (start N vs) H _ I hq) (λfl s' C=>?_) λe s' C=>C;have x8:∀{g:St} {H':Hp} {v:V} {u:Value},qx (br CX P w K mg base N eH scope f eK A outer s H E) [] g H' s'->zv v u->Q v H'->CE outer P w H s Q u s':=
  λ{g H' v u} J rv q=>⟨v,H',J.os,J.bare,J.base,J.hok,rv,q,J.tk⟩
 cases fl with
 |ret u=>
  obtain⟨v,g,H',J,rv,q⟩:=C;exact x8 J rv q
 |next=>
  obtain⟨g,H',J,q⟩:=C;exact x8 (v:=V.non) (u:=Value.none) J rfl q
 |brk=>
  obtain⟨_,_,_,q⟩:=C;exact False.elim q
 |cont=>
  obtain⟨_,_,_,q⟩:=C;exact False.elim q
end L2
variable {sp:L2.Sp}
namespace L2
open PySem PySem.Spec PyProof.Rows
section
variable {p:Pos}{t:TA}{id T:String}{r:List V->Hp->VK->Prop}
def Hq(r:List V->Hp->VK->Prop)(t:TA):TE:=λσ H Q=>t σ H λvs H1=>r vs H1 Q
theorem tU(hc:jn X (.builtin id) r)(l:Gl X x)(o:X.mg x=none)(C:bootBuiltins x=some (.builtin id))(T:PA X (e::es) t)(hn:x ≠ "__name__" := by decide)(U:Ey x:=by decide)
 (he:Ew e es X:=by rfl) (g:Ex pos es X:=by rfl):PE X (.Call (.Name x p) (e::es) [] pos) (Hq r t):=by
 intro J s j H Q I h;refine wpAny_Call_Name_kw<|fF I l o C ?_ hn U;exact PyProof.Rows.callWith_builtin1 (zE (T pos J s j H _ I h) λus s1 vs H1 I1 r1 q1=>hc J s1 j H1 vs us Q I1 r1 q1) he g
theorem iY(hc:jn X (.type T) r)(l:Gl X x)(o:X.mg x=none)(C:bootBuiltins x=some (.type T))(ha:PA X (e::es) t)(hn:x ≠ "__name__" := by decide)(U:Ey x:=by decide)
 (he:Ew e es X:=by rfl) (g:Ex pos es X:=by rfl):PE X (.Call (.Name x p) (e::es) [] pos) (Hq r t):=by
 intro J s j H Q I h;refine wpAny_Call_Name_kw<|fF I l o C ?_ hn U;exact CK (zE (ha pos J s j H _ I h) λus s1 vs H1 I1 r1 q1=>hc J s1 j H1 vs us Q I1 r1 q1) he g
end
section
variable [DecidableEq κ]
def bK(kvs:List<|κ×V)(k:κ):Option V:=(kvs.find? λI=>decide<|I.1=k).map (·.2)
def dk(kvs:List<|κ×V)(k:κ)(v:V):List (κ×V):=
 if (kvs.any λI=>decide<|I.1=k)=true then kvs.map (λI=>if I.1=k then(I.1,v) else I) else kvs++[(k,v)]
theorem mS{p:κ×V}{r:List<|κ×V}{k:κ}(e:p.1=k):bK (p::r) k=some p.2:=by simp[bK,Bz,e]
theorem l5{p:κ×V}{r:List<|κ×V}{k:κ}(e:¬p.1=k):bK (p::r) k=bK r k:=by simp[bK,Bz,e]
theorem tF(k:κ):∀kvs:List (κ×V),(kvs.any λI=>decide<|I.1=k)=(bK kvs k).isSome
 |[]=>rfl
 |p::r=>by
  rw[Ct];by_cases e:p.1=k
  ·simp only[mS e,AM e,Bool.true_or,Option.isSome_some]
  ·rw[l5 e,AE e,Bool.false_or];exact tF k r
theorem eL(kvs:List<|κ×V)(k:κ)(v:V):(dk kvs k v).length<=kvs.length+1:=by
 unfold dk;split
 ·rw[Ag];lia
 ·rw[Ad,AJ,DD];lia
theorem i0.isSome_eq{o:Option V}{u:Option Value}(r:i0 o u):o.isSome=u.isSome:=by
 cases o with
 |none=>cases u with|none=>rfl|some _=>exact(show False from r).elim
 |some _=>cases u with|none=>exact(show False from r).elim|some _=>rfl
theorem KV.val{kvs:List<|κ×V}{vs:List<|κ×Value}(r:KV kvs vs)(k:κ):i0 (bK kvs k) (valueAt vs k):=by
 unfold KV at r
 induction r with
 |nil=>exact True.intro
 |@cons p q g I h t U=>
  obtain⟨h1,h2⟩:=h;by_cases e:p.1=k
  ·have J:q.1=k:=h1.symm.trans e;have b:valueAt (q::I) k=some q.2:=by simp[valueAt,Bz,J]
   rw[mS e,b];exact h2
  ·have J:¬q.1=k:=λz=>e<|h1.trans z;have b:valueAt (q::I) k=valueAt I k:=by simp[valueAt,Bz,J]
   rw[l5 e,b];exact U
theorem KV.any{kvs:List<|κ×V}{vs:List<|κ×Value}(r:KV kvs vs)(k:κ):(kvs.any λI=>decide<|I.1=k)=vs.any λI=>decide (I.1=k):=by
 unfold KV at r
 induction r with|nil=>rfl|cons h t J=>rw[Ct,Ct,J,h.1]
theorem KV.repl{kvs:List<|κ×V}{vs:List<|κ×Value}(r:KV kvs vs)(k:κ){y:V}(J:zv y u):
 KV (kvs.map λI=>if I.1=k then(I.1,y) else I) (vs.map λI=>if I.1=k then(I.1,u) else I):=by
 unfold KV at r ⊢
 induction r with
 |nil=>exact .nil
 |@cons p q g j h t U=>
  rw[AG,AG];refine .cons ?_ U;obtain⟨h1,h2⟩:=h;by_cases e:p.1=k
  ·rw[AB e,AB<|h1.symm.trans e];exact⟨h1,J⟩
  ·rw[AC e,AC λz=>e<|h1.trans z];exact⟨h1,h2⟩
theorem KV.put{kvs:List<|κ×V}{vs:List<|κ×Value}(r:KV kvs vs)(k:κ){y:V}(I:zv y u):KV (dk kvs k y) (stored vs k u):=by
 unfold dk stored;rw[r.any k];by_cases e:(vs.any λJ=>decide<|J.1=k)=true
 ·rw[AB e,AB e];exact r.repl k I
 ·rw[AC e,AC e];exact Paired.snoc r ⟨rfl,I⟩
theorem KV.length{kvs:List<|κ×V}{vs:List<|κ×Value}(r:KV kvs vs):kvs.length=vs.length:=Paired.length r
end
theorem jK{P:Program}{w:World}{k:jf}(r:zv (kV k) u):(v5 P w).is k u=true:=by
 cases k with
 |inl i=>obtain⟨t,e⟩:=(show ∃t,u=Value.int i t from r);subst e;exact rq P w i t
 |inr x=>obtain⟨t,e⟩:=(show ∃t,u=Value.str x t from r);subst e;exact tT P w x t
theorem o4{P:Program}{w:World}:∀{ks:List jf} {us:List Value},zw (ks.map kV) us->ItemsAre (v5 P w) ks us
 |[],_,r=>by rw[Dm] at r;cases r;exact .nil
 |k::ks,_,r=>by rw[AG] at r;cases r with|cons h t=>exact .cons (jK h)<|o4 t
abbrev KT(H:Hp):List (List jf×V)->List (List jf×Addr×Value)->Prop:=Paired λp q=>p.1=q.1/\H q.2.1=some (.tup<|p.1.map kV)/\zv p.2 q.2.2
theorem KT.val{kvs:List<|List jf×V}{xs:List<|List jf×Addr×Value}(r:KT H kvs xs)(k:List jf):i0 (bK kvs k) ((atKey xs k).map (·.2)):=by
 induction r with
 |nil=>exact True.intro
 |@cons p q g I h t U=>
  obtain⟨h1,_,h2⟩:=h;by_cases e:p.1=k
  ·have J:q.1=k:=h1.symm.trans e;have b:atKey (q::I) k=some q.2:=by simp[atKey,Bz,J]
   rw[mS e,b];exact h2
  ·have J:¬q.1=k:=λz=>e<|h1.trans z;have b:atKey (q::I) k=atKey I k:=by simp[atKey,Bz,J]
   rw[l5 e,b];exact U
theorem KT.repl{kvs:List<|List jf×V}{xs:List<|List jf×Addr×Value}(r:KT H kvs xs)(k:List jf){y:V}(J:zv y u):
 KT H (kvs.map λI=>if I.1=k then(I.1,y) else I) (xs.map<|putAt k u):=by
 induction r with
 |nil=>exact .nil
 |@cons p q g j h t U=>
  rw[AG,AG];refine .cons ?_ U;obtain⟨h1,h2,h3⟩:=h;unfold putAt;by_cases e:p.1=k
  ·rw[AB e,AB<|h1.symm.trans e];exact⟨h1,h2,J⟩
  ·rw[AC e,AC λz=>e<|h1.trans z];exact⟨h1,h2,h3⟩
theorem KT.put{kvs:List<|List jf×V}{xs:List<|List jf×Addr×Value}(r:KT H kvs xs)(k:List jf){b:Addr}{y:V}(J:H b=some (.tup<|k.map kV))(I:zv y u):
 KT H (dk kvs k y) (storedH xs k b u):=by
 have e:(kvs.any λU=>decide<|U.1=k)=(atKey xs k).isSome:=by rw[tF,(r.val k).isSome_eq,CL]
 unfold dk storedH;rw[e];by_cases q:(atKey xs k).isSome=true
 ·rw[AB q,AB q];exact r.repl k I
 ·rw[AC q,AC q];exact Paired.snoc r ⟨rfl,J,I⟩
theorem KT.keeps{kvs:List<|List jf×V}{xs:List<|List jf×Addr×Value}(r:KT H kvs xs)(I:∀b ys,H b=some (.tup ys)->H' b=some (.tup ys)):KT H' kvs xs:=
 EI r λ_ _ z=>⟨z.1,I _ _ z.2.1,z.2.2⟩
section
variable {P:Program}{w:World}{a:Addr}
theorem Hr{u:HO}(ok:dZ P w H h)(e:Rd H a u):xo P w H h a u:=e.ok ok
theorem oM{kvs:List<|jf×V}(ok:dZ P w H h)(e:Rd H a<|.dK kvs):kvs.length<=sizeLine/\(a==sysModules)=false/\∃vs,KV kvs vs/\h.DictOf (v5 P w) a vs:=
 show xo P w H h a (.dK kvs) from Hr ok e
theorem Hs{kvs:List<|jf×V}(ok:dZ P w H h)(e:H a=some (.dK kvs)):kvs.length<=sizeLine/\(a==sysModules)=false/\∃vs,KV kvs vs/\h.DictOf (v5 P w) a vs:=oM ok<|.inl e
theorem lQ{ks:List jf}(ok:dZ P w H h)(e:H a=some (.tup<|ks.map kV)):(tupleKind<|v5 P w).is h ks a:=by obtain⟨_,I,r,o,h1,h2,n,h3⟩:=(show xo P w H h a (.tup<|ks.map kV) from ok a _ e);exact⟨o,I.toArray,n,h1,h2,h3,by simpa using o4 r⟩
theorem tQ{kvs:List<|List jf×V}(ok:dZ P w H h)(e:Rd H a<|.dT kvs):kvs.length<=sizeLine/\(a==sysModules)=false/\
 ∃xs,KT H kvs xs/\h.DictOfH (tupleKind<|v5 P w) a xs:=by
 obtain⟨z,y,xs,r,o,U,g,h1,h2,h3,j,C⟩:=(show xo P w H h a (.dT kvs) from Hr ok e);refine⟨z,y,xs,r,o,U,g,h1,h2,h3,j,λx I=>?_,C⟩;have all:∀{l:List<|List jf×V} {m:List<|List jf×Addr×Value},KT H l m->∀x∈m,(tupleKind<|v5 P w).is h x.1 x.2.1:=by
  intro l m q
  induction q with
  |nil=>intro x I;exact nomatch I
  |@cons p q ps qs J t T=>
   intro x I;rcases Am.mp I with e|I
   ·subst e;exact lQ ok (by rw[<-J.1];exact J.2.1)
   ·exact T x I
 exact all r x I
theorem M7{kvs:List<|List jf×V}(ok:dZ P w H h)(e:H a=some (.dT kvs)):kvs.length<=sizeLine/\(a==sysModules)=false/\
 ∃xs,KT H kvs xs/\h.DictOfH (tupleKind<|v5 P w) a xs:=tQ ok<|.inl e
end
def qI(H:Hp)(a:Addr)(y:V)(r:Option V):Prop:=
 (∃kvs k,Rd H a (.dK kvs)/\y=kV k/\r=bK kvs k)\/∃kvs k b,Rd H a (.dT kvs)/\y=.ref b/\H b=some (.tup<|k.map kV)/\r=bK kvs k
def Ht(H:Hp)(a:Addr)(y v:V)(H':Hp):Prop:=
 (∃kvs k,H a=some (.dK kvs)/\y=kV k/\kvs.length<sizeLine/\H'=upd H a (.dK<|dk kvs k v))\/
 ∃kvs k b,H a=some (.dT kvs)/\y=.ref b/\H b=some (.tup<|k.map kV)/\kvs.length<sizeLine/\H'=upd H a (.dT<|dk kvs k v)
theorem qI.k{a:Addr}{kvs:List<|jf×V}{k:jf}(e:H a=some (.dK kvs)):qI H a (kV k) (bK kvs k):=.inl ⟨kvs,k,.inl e,rfl,rfl⟩
section
variable {a:Addr}{y v:V}{r:Value}{o:Option V}
theorem qx.big(I:qx X pins σ H s):sysModules<s.heap.objs.size:=by have h:mainGlobals<s.heap.objs.size:=(I.mod.glob.keeps I.bk).lt;exact Nat.lt_trans (by decide) h
theorem zM(hu:A.units+1<cLine)(I:qx X pins σ H s)(g:qI H a y<|some v)(T:zv y u)(h:∀U s',qx X pins σ H s'->zv v U->Q U s'):
 wpAny (model X.prog X.w) A (getItem (.ref a) u) Q E s:=by
 rcases g with⟨j,k,e,r,l⟩|⟨j,k,b,e,r,eb,l⟩
 ·subst r;obtain⟨z,hd,vs,rel,t⟩:=oM I.hok e;obtain⟨U,hw,J⟩:=EM (v:=v) (o:=valueAt vs k) (by rw[l];exact rel.val k);exact wpAny_getItem_of (jK T) t.mapOf hw<|h U _ (I.tok _) J
 ·subst r;cases (show u=Value.ref b from T);obtain⟨z,hd,xs,rel,t⟩:=tQ I.hok e;obtain⟨U,hw,J⟩:=EM (v:=v) (o:=(atKey xs k).map (·.2)) (by rw[l];exact rel.val k);obtain⟨p,hp,C⟩:=AA.mp hw;refine wpAny_getItem_heap (tupleKind_room_in1 hu) (lQ I.hok eb) t hp ?_;rw[C];exact h U _ (I.tok _) J
theorem M8(r:A.units+1<cLine)(I:qx X pins σ H s)(g:qI H a y o)(p:zv y u)(h:∀s',qx X pins σ H s'->Q (.bool o.isSome) s'):
 wpAny (model X.prog X.w) A (compareOp .In u<|.ref a) Q E s:=by
 rcases g with⟨J,k,e,U,l⟩|⟨J,k,b,e,U,eb,l⟩
 ·subst U;obtain⟨z,hd,t,rel,j⟩:=oM I.hok e;refine wpAny_in_of (jK p) hd j.mapOf ?_;rw[<-(rel.val k).isSome_eq,<-l];exact h _<|I.tok _
 ·subst U;cases (show u=Value.ref b from p);obtain⟨z,hd,C,rel,j⟩:=tQ I.hok e;refine wpAny_in_heap (tupleKind_room_in1 r) (lQ I.hok eb) hd j ?_;have q:=(rel.val k).isSome_eq;rw[CL] at q;rw[<-q,<-l];exact h _<|I.tok _
theorem M9(r:A.units+1<cLine)(I:qx X pins σ H s)(g:qI H a y o)(p:zv y u)(h:∀s',qx X pins σ H s'->Q (.bool<|!o.isSome) s'):
 wpAny (model X.prog X.w) A (compareOp .NotIn u<|.ref a) Q E s:=by
 rcases g with⟨J,k,e,U,l⟩|⟨J,k,b,e,U,eb,l⟩
 ·subst U;obtain⟨z,hd,t,rel,j⟩:=oM I.hok e;refine wpAny_notIn_of (jK p) hd j.mapOf ?_;rw[<-(rel.val k).isSome_eq,<-l];exact h _<|I.tok _
 ·subst U;cases (show u=Value.ref b from p);obtain⟨z,hd,C,rel,j⟩:=tQ I.hok e;refine wpAny_notIn_heap (tupleKind_room_in1 r) (lQ I.hok eb) hd j ?_;have q:=(rel.val k).isSome_eq;rw[CL] at q;rw[<-q,<-l];exact h _<|I.tok _
theorem pS{ob:HO}(I:qx X pins σ H s)(J:Eb<|H a)(hs:Heap.SameBut a s.heap h')(U:∃q,h'.get? a=some q)(new:xo X.prog X.w (upd H a ob) h' a ob)(j:0<t':=by walk_at "t"):
 qx X pins σ (upd H a ob) { s with heap:=h',toks:=t' }:=
 I.write (x:=a) (e:=a) J (.inl rfl) (λb q g z=>(hs.2 b g).trans z) U new
theorem Hu{P:Program}{w:World}{kvs:List<|jf×V}{vs:List<|jf×Value}(z:kvs.length<=sizeLine)(hd:(a==sysModules)=false)(rel:KV kvs vs)(dd:h'.DictOf (v5 P w) a vs):
 xo P w H' h' a (.dK kvs):=⟨z,hd,vs,rel,dd⟩
theorem y4{Q:Unit->Shared->Prop}(hu:A.units+1<cLine)(I:qx X pins σ H s)(g:Ht H a y v H')(ry:zv y u)(rv:zv v r)(h:∀s',qx X pins σ H' s'->Q () s'):
 wpAny (model X.prog X.w) A (setItem (.ref a) u r) Q E s:=by
 rcases g with⟨J,k,e,o,l,p⟩|⟨J,k,b,e,o,eb,l,p⟩
 ·subst o p;obtain⟨z,hd,vs,rel,t⟩:=Hs I.hok e;have C:vs.length<=sizeLine:=by rw[<-rel.length];exact z
  have T:(dk J k v).length<=sizeLine:=by have:=eL J k v;lia
  refine wpAny_setItem_pairs (hsz:=C) (jK ry) t λh' U hs=>h _ ?_;have he:∃q,h'.get? a=some q:=let ⟨q,_,_,j,_⟩:=U;⟨q,j⟩;exact pS I (by rw[e];exact True.intro) hs he<|Hu T hd (rel.put k rv) U
 ·subst o p;cases (show u=Value.ref b from ry);obtain⟨z,hd,xs,rel,t⟩:=M7 I.hok e;have C:xs.length<=sizeLine:=by rw[<-Paired.length rel];exact z
  have T:(dk J k v).length<=sizeLine:=by have:=eL J k v;lia
  refine wpAny_setItem_heap (hsz:=C) (tupleKind_room_in1 hu) (lQ I.hok eb) t λh' U hs=>h _ ?_;obtain⟨q,es,ep,j,h2,h3,h4,_,h5⟩:=U;refine pS I (by rw[e];exact True.intro) hs ⟨q,j⟩ ⟨T,hd,_,(rel.put k eb rv).keeps λc ys ec=>?_,q,es,ep,j,h2,h3,h4,h5⟩;rw[qr<|Li ec e λz=>nomatch z];exact ec
end
section
variable {a:Addr}{kvs:List<|jf×V}{k:jf}
end
def F4(i:Expr):Prop:=∀I J,subscripted i false I J=operate [I,J] (getItem I J)
theorem Na{w:World}{slice:Expr}{T id:String}
 (t:typeLookup (.type T) "__getitem__" = pure (some<|.builtin id)) (hs:F4 slice)
 (h:wpAny (model prog w) A (eval value env) (λo U=>wpAny (model prog w) A (eval slice env) (λi I=>I.TypeIs o T/\wpAny (model prog w) A (getItem o i) Q E I) E U) E s):
 wpAny (model prog w) A (eval (.Subscript value slice pos) env) Q E s:=by
 refine Subscript_<|AX h (λo U j=>AX j (λi I J=>?_) λ_ _ x=>x) λ_ _ x=>x;obtain⟨p,J⟩:=J;unfold subscriptTail;refine Aa ?_;rw[getitemInPython_of_ne p.not_modules];refine Aa<|wpAny_specialOf p t ?_;have x8:wpAny (model prog w) A (subscripted slice false o i) (λr g=>wpAny (model prog w) A (letTemporaryGo value o r >>= λ_=>pure r) Q E g) E I:=by rw[hs o i];exact wpAny_operating<|AX J (λr g l=>Aa<|wpAny_letTemporaryGo<|Ah l) λ_ _ x=>x
 first
  |exact Ah<|Aa x8
  |exact Aa<|Ah<|Aa x8
  |exact Aa x8
theorem uR{a:Addr}{y:V}{o:Option V}(I:qx X pins σ H s)(g:qI H a y o):s.TypeIs (.ref a) "dict" := by
 rcases g with⟨J,k,e,_,_⟩|⟨J,k,b,e,_,_,_⟩
 ·obtain⟨_,_,j,_,U⟩:=oM I.hok e;exact U.typeIs
 ·obtain⟨_,_,l,_,U⟩:=tQ I.hok e;exact U.typeIs
def Nb(td ty:TE):TE:=λσ H Q=>td σ H λx H1=>ty σ H1 λy H2=>∃a v,x=.ref a/\qI H2 a y (some v)/\Q v H2
def Nc(td ty tv:TE):TS:=λD σ H=>tv σ H λv H1=>td σ H1 λx H2=>ty σ H2 λy J=>∃a I,x=.ref a/\Ht J a y v I/\D.nx σ I
section
variable {i:Expr}{tpos:Pos}{td ty tv:TE}
theorem Nd(p:X.A.units+1<cLine)(r:PE X o td)(hi:PE X i ty)(hs:F4 i):PE X (.Subscript o i pos) (Nb td ty):=by intro J s j H Q I h;refine Na DP.lookup hs<|aa (r J s j H _ I h) λu t x C T rx q1=>aE (hi J t j C _ T q1) λiv s2 ψ=>?_;obtain⟨y,H2,l,ry,a,v,ex,g,q2⟩:=ψ;subst ex;obtain rfl:u=Value.ref a:=rx;exact⟨uR l g,zM p l g ry λw' s3 I3 U=>⟨v,H2,I3,U,q2⟩⟩
theorem Nf(j:X.A.units+1<cLine)(l:PE X o td)(hi:PE X i ty)(p:PE X value tv)(hs:swapsWith value (some<|.Subscript o i fy) pos.line X.env=pure false):
 PS X (.Assign [.Subscript o i fy] value pos) (Nc td ty tv):=by
 intro J s U H D I h;refine wpAny_Assign_Subscript (aa (p J s U H _ I h) λr t v C T rv q1=>aa (l J t U C _ T q1) λu s2 x H2 I2 rx q2=>aE (hi J s2 U H2 _ I2 q2) λiv s3 ψ=>?_) hs;obtain⟨y,H3,I3,ry,a,H4,ex,g,q3⟩:=ψ;subst ex;obtain rfl:u=Value.ref a:=rx;exact y4 j I3 g ry rv λs4 I4=>⟨U,H4,I4,q3⟩
end
theorem rf{P:Program}{w:World}(h:Heap)(I:sysModules<h.objs.size):xo P w H (h.push { cls:=.type "dict",data:=.dict #[] }) h.objs.size (.dK []):=
 ⟨Bb _,beq_eq_false_iff_ne.mpr<|AL<|A9 I,[],.nil,Heap.DictOf.new h⟩
def Ng:TE:=λ_ H Q=>∀p,H p=none->Q (.ref p) (upd H p<|.dK [])
theorem Nh:PE X (.Dict [] [] pos) Ng:=λJ s U H Q I h=>
 wpAny_Dict_empty ⟨.ref s.heap.objs.size,_,I.laid (a:=s.heap.objs.size) (o:=.dK []) (t':=s.toks) (λ_ _ q=>sy _ q) (Ao _)<|rf s.heap I.big,rfl,h _<|I.hok.fresh<|Ao _⟩
def pL:List (TE×TE)->St->Hp->(List (V×V)->Hp->Prop)->Prop
 |[],_,H,Q=>Q [] H
 |(tk,tv)::r,σ,H,Q=>tk σ H λx H1=>tv σ H1 λy H2=>pL r σ H2 λps I=>Q ((x,y)::ps) I
abbrev VV:List (V×V)->List (Value×Value)->Prop:=Paired λp q=>zv p.1 q.1/\zv p.2 q.2
def Ej(X:Cx)(pos:Pos)(keys:List<|Option Expr)(values:List Expr)(I:List<|TE×TE):Prop:=
 ∀(pins:List<|Addr×Obj) (s:Shared) (σ:St) (H:Hp) (Q:List (V×V)->Hp->Prop),qx X pins σ H s->pL I σ H Q->
  wpAny (model X.prog X.w) X.A (evalPairs<|pairTrees keys values X.env pos) (λvs s'=>∃ps H',qx X pins σ H' s'/\VV ps vs/\Q ps H') X.xe s
theorem Ni :Ej X pos [] [] []:=λJ s U H Q I h=>pairTrees_nil_walk ⟨[],H,I,.nil,h⟩
theorem hG{k v:Expr}{ks:List<|Option Expr}{vs:List Expr}{tk tv:TE}{U:List<|TE×TE}(j:PE X k tk)(l:PE X v tv)(o:Ej X pos ks vs U):
 Ej X pos (some k::ks) (v::vs) ((tk,tv)::U):=λJ s g H Q I h=>
 pairTrees_cons_walk (aa (j J s g H _ I h) λu p x r t C T=>aa (l J p g r _ t T) λw2 s2 y H2 I2 ry q2=>
  aE (o J s2 g H2 _ I2 q2) λws s3 ⟨ps,H3,I3,rel,q3⟩=>⟨(x,y)::ps,H3,I3,.cons ⟨C,ry⟩ rel,q3⟩)
def i4(kvs more:List<|jf×V):List (jf×V):=more.foldl (λI J=>dk I J.1 J.2) kvs
theorem KV.merge:∀{more:List<|jf×V} {I:List<|jf×Value} {kvs:List<|jf×V} {vs:List<|jf×Value},KV more I->KV kvs vs->KV (i4 kvs more) (merged vs I):=by
 intro more I kvs vs r;unfold KV at r
 induction r generalizing kvs vs with
 |nil=>intro q;exact q
 |@cons p q g j h t J=>
  intro U;have e:KV (dk kvs p.1 p.2) (stored vs q.1 q.2):=by have:=U.put p.1 h.2;rw[<-h.1];exact this
  exact J e
theorem fg:∀(more kvs:List<|jf×V),(i4 kvs more).length<=kvs.length+more.length
 |[],kvs=>by show kvs.length<=kvs.length+0;lia
 |p::r,kvs=>by have h1:=fg r<|dk kvs p.1 p.2;have h2:=eL kvs p.1 p.2;show(i4 (dk kvs p.1 p.2) r).length<=_;rw[AJ];lia
theorem mF{P:Program}{w:World}:∀{kvs:List<|jf×V} {J:List<|Value×Value},VV (kvs.map λU=>(kV U.1,U.2)) J->∃I,Carries (v5 P w) J I/\KV kvs I
 |[],_,r=>by rw[Dm] at r;cases r;exact⟨[],True.intro,.nil⟩
 |p::kvs,_,r=>by
  rw[AG] at r;cases r with
  |@cons a b as bs h t=>
   obtain⟨I,c,q⟩:=mF (P:=P) (w:=w) t;obtain⟨b1,b2⟩:=b;exact⟨(p.1,b2)::I,⟨jK h.1,rfl,c⟩,.cons ⟨rfl,h.2⟩ q⟩
def Nj(I:List<|TE×TE):TE:=λσ H Q=>∀p,H p=none->pL I σ (upd H p<|.dK []) λps H2=>H2 p=some (.dK [])/\∃kvs:List (jf×V),ps=kvs.map (λJ=>(kV J.1,J.2))/\kvs.length<=15/\Q (.ref p) (upd H2 p<|.dK<|i4 [] kvs)
theorem Nk{keys:List<|Option Expr}{values:List Expr}{J:List<|TE×TE}(h:Ej X pos keys values J)(U:keys.all (·.isSome)=true)(t:keys.length=values.length)(h0:keys≠[])
 (p:keys.length<=15):PE X (.Dict keys values pos) (Nj J):=by
 intro g s C H Q I q;have T:=I.hok.fresh<|Ao s.heap.objs.size;have I1:=I.laid (a:=s.heap.objs.size) (o:=.dK []) (h':=s.heap.push { cls:=.type "dict",data:=.dict #[] }) (t':=s.toks) (λ_ _ q=>sy _ q) (Ao _)<|rf s.heap I.big;refine wpAny_Dict_walk (knd:=v5 X.prog X.w) U t h0 p<|aE (h g _ C _ _ I1<|q _ T) λws s2 ψ=>?_;obtain⟨ps,H2,r,rel,e,j,ep,lk,q2⟩:=ψ;subst ep;obtain⟨rs,c,rk⟩:=mF (P:=X.prog) (w:=X.w) rel;obtain⟨z,hd,a1,r0,dd⟩:=Hs r.hok e;cases r0;refine⟨rs,c,dd,λh' l hs=>⟨.ref s.heap.objs.size,_,?_,rfl,q2⟩⟩;have hz:(i4 [] j).length<=sizeLine:=by have h1:=fg j [];rw[DD] at h1;rw[sizeLine_eq];lia
 have he:∃q,h'.get? s.heap.objs.size=some q:=let ⟨q,_,_,hq,_⟩:=l;⟨q,hq⟩;exact pS r (by rw[e];exact True.intro) hs he<|Hu hz hd (rk.merge .nil) l
section
variable {a:Addr}{y d:V}{r:Value}{o:Option V}
end
section
variable {f:Expr}{td ty tx:TE}
end
section
variable {a:Addr}{kvs:List<|jf×V}
end
section
variable {a:Addr}{y:V}
end
end L2
namespace HT
open PySem PyProof.Rows
section
open PySem.SeqAt
open PySem.AutoSeq1 (wpAny_loadPart')
open PySem.MeetsSeq PySem.MeetsSeq2 PySem.MeetsSeq3
end
section
variable {w:World}
def sIx(n d:Nat):Option Int->Nat
 |none=>d
 |some v=>if v<0 then(v+(n:Int)).toNat else min v.toNat n
theorem sIx_none(n d:Nat):sIx n d none=d:=rfl
theorem sIx_nat(n d k:Nat):sIx n d (some (k:Int))=min k n:=by show(if (k:Int)<0 then((k:Int)+(n:Int)).toNat else min (k:Int).toNat n)=min k n;rw[AC (by lia),BG]
theorem sIx_le(n d:Nat)(hd:d<=n)(o:Option Int):sIx n d o<=n:=by
 cases o with
 |none=>exact hd
 |some v=>
  show(if v<0 then(v+(n:Int)).toNat else min v.toNat n)<=n;by_cases I:v<0
  ·rw[AB I];lia
  ·rw[AC I];exact Nat.min_le_right _ _
theorem wW(v:Int)(n d:Nat):(if v<0 then max (v+(n:Int)) 0 else min v (n:Int))=((sIx n d (some v):Nat):Int):=by
 show(if v<0 then max (v+(n:Int)) 0 else min v (n:Int))=(((if v<0 then(v+(n:Int)).toNat else min v.toNat n):Nat):Int);by_cases I:v<0
 ·simp only[AB I];lia
 ·simp only[AC I];lia
theorem uh(lo hi:Option Int)(n:Nat):Builtin.Slice.sliceAdjust lo hi 1 (n:Int)=(((sIx n 0 lo:Nat):Int),(sIx n n hi:Int)):=by
 have h1:¬((1:Int)<0):=by lia
 unfold Builtin.Slice.sliceAdjust;simp only[h1,if_false];refine Prod.ext ?_ ?_
 ·cases lo with|none=>rfl|some v=>exact wW v n 0
 ·cases hi with|none=>rfl|some v=>exact wW v n n
theorem vA(i j:Nat):Builtin.Slice.slicePlaces (i:Int) (j:Int) 1=j-i:=by
 unfold Builtin.Slice.slicePlaces;have h1:(1:Int) > 0:=by lia
 simp only[h1,if_true,Int.ediv_one];split<;>lia
theorem mm{o:Option Int}{Q:Option Int->Shared->Prop}(p:IsPart v o)(h:Q o s):wpAny (model prog w) A (Builtin.Slice.slicePartIndex v) Q E s:=by cases p with|none=>exact slicePart_none h|int i t=>exact slicePart_int h
theorem iW{j:Addr}{U g:Value}{lo hi:Option Int}{Q:Int×Int×Nat->Shared->Prop}(hs:s.heap.IsSliceOf j U g .none)(pl:IsPart U lo)(l:IsPart g hi)
 (h:Q (((sIx n 0 lo:Nat):Int),1,sIx n n hi-sIx n 0 lo) s):wpAny (model prog w) A (Builtin.Slice.sliceApplied (.ref j)<|pure (n:Int)) Q E s:=by
 obtain⟨os,I,o,J⟩:=id hs;unfold Builtin.Slice.sliceApplied Builtin.Slice.sliceFields;refine Aa<|Aa<|AV I J (x:=U) rfl<|Aa<|AV I J (x:=g) rfl<|Aa<|AV I J (x:=.none) rfl<|Ah ?_;refine Aa<|slicePart_none ?_;show wpAny _ _ (if ((1:Int)==0)=true then _ else _) _ _ s;rw[AC (by decide)];refine Aa<|mm pl<|Aa<|mm l<|Aa<|Ah ?_;show wpAny _ _ (match Builtin.Slice.sliceAdjust lo hi 1 (n:Int) with|(lo,hi)=>pure (lo,(1:Int),Builtin.Slice.slicePlaces lo hi 1)) _ _ s;rw[uh lo hi n];show wpAny _ _ (pure (((sIx n 0 lo:Nat):Int),(1:Int),Builtin.Slice.slicePlaces ((sIx n 0 lo:Nat):Int) (sIx n n hi:Int) 1)) _ _ s;rw[vA];exact Ah h
theorem Nl(xs:Array Value)(i k:Nat):((List.range k).filterMap λ(m:Nat)=>xs[((i:Int)+(m:Int)*1).toNat]?).toArray=((xs.toList.drop i).take k).toArray:=by
 have e:(λ(m:Nat)=>xs[((i:Int)+(m:Int)*1).toNat]?)=λm=>xs[i+m]?:=by
  funext m;have:((i:Int)+(m:Int)*1).toNat=i+m:=by lia
  rw[this]
 rw[e];have:=pick_run xs i k;rw[List.filterMap_map] at this;have I:((λx=>xs[x]?)∘λx=>i+x)=λm=>xs[i+m]?:=rfl;rw[I] at this;rw[this]
theorem getItem_tuple_cut{t U:Addr}{items:Array Value}{p r:Value}{lo hi:Option Int}(J:IsTup s.heap t items)(hs:s.heap.IsSliceOf U p r .none)(pl:IsPart p lo)(C:IsPart r hi)
 (hw:¬(sIx items.size 0 lo=0/\sIx items.size items.size hi=items.size))
 (h:Q (.ref s.heap.objs.size) { s with heap:=s.heap.push { cls:=.type "tuple",data:=.seq ((items.toList.drop<|sIx items.size 0 lo).take<|sIx items.size items.size hi-sIx items.size 0 lo).toArray } })
 (hsz:items.size<=sizeLine):wpAny (model prog w) A (getItem (.ref t)<|.ref U) Q E s:=by
 have I:sizeOk (.seq ((items.toList.drop<|sIx items.size 0 lo).take<|sIx items.size items.size hi-sIx items.size 0 lo).toArray):=by show((items.toList.drop<|sIx items.size 0 lo).take<|sIx items.size items.size hi-sIx items.size 0 lo).toArray.size<=sizeLine;rw[Au,AY,BM,A8];lia
 have hj:sIx items.size items.size hi<=items.size:=sIx_le _ _ (Ao _) hi;obtain⟨os,g,j,T⟩:=id hs;have l:s.TypeIs (.ref U) "slice" := ⟨os,g,j⟩;unfold getItem
 try with_reducible refine A4 ?_
 first|refine Aa (Ah ?_)|skip
 refine Aa<|wpAny_sequenceKey J.typeIs (by decide) ?_;refine Aa (wpAny_callSpecial?_slot (name:=Str.ofString "__getitem__") J.typeIs Cv
  (wpAny_call_entry Cv J.typeIs entry_tuple_getitem ?_<|args_tuple_getitem _ _))
 show wpAny _ _ (Builtin.Tuple.tupleItemsOf (.ref t) >>= _) _ _ s;refine Aa<|tupleItemsOf_ J ?_;refine Aa<|wpAny_typeOf l ?_;rw[AB (by decide)];refine Aa<|iW hs pl C ?_;have o:¬((((sIx items.size 0 lo:Nat):Int)==0&&(1:Int)==1&&(sIx items.size items.size hi-sIx items.size 0 lo)==items.size)=true):=by intro q;rw[Ba,Ba] at q;have q1:((sIx items.size 0 lo:Nat):Int)=0:=eq_of_beq q.1.1;have q2:sIx items.size items.size hi-sIx items.size 0 lo=items.size:=eq_of_beq q.2;exact hw ⟨by lia,by lia⟩
 show wpAny _ _ (if (((sIx items.size 0 lo:Nat):Int)==0&&(1:Int)==1&&(sIx items.size items.size hi-sIx items.size 0 lo)==items.size)=true then _ else _) _ _ s;rw[AC o,Nl]
 first
  |exact Aa (m:=Builtin.Tuple.tupleExact _)<|Br (Ah ⟨_,rfl,Ah h⟩) I
  |exact Aa (m:=Builtin.Tuple.tupleExact _)<|Br (Aa<|Ah<|Ah ⟨_,rfl,Ah h⟩) I
  |exact Aa<|Aa (m:=Builtin.Tuple.tupleExact _)<|Br (Ah<|Ah ⟨_,rfl,Ah h⟩) I
  |exact Aa<|Aa (m:=Builtin.Tuple.tupleExact _)<|Br (Ah ⟨_,rfl,Ah h⟩) I
end
end HT
namespace L2
open PySem PySem.Spec PyProof.Rows
abbrev TO:=St->Hp->(Option Int->Hp->Prop)->Prop
def PO(X:Cx)(e:Option Expr)(t:TO):Prop:=
 ∀(pins:List<|Addr×Obj) (s:Shared) (σ:St) (H:Hp) (Q:Option Int->Hp->Prop),qx X pins σ H s->t σ H Q->
  wpAny (model X.prog X.w) X.A (evalPart e X.env) (λu s'=>∃o H',qx X pins σ H' s'/\IsPart u o/\Q o H') X.xe s
def Nm:TO:=λ_ H Q=>Q none H
def Nn(t:TE):TO:=λσ H Q=>t σ H λx H1=>∃i,x=.int i/\Q (some i) H1
section
variable {te:TE}{lo hi:Option Expr}{tl th:TO}
theorem No:PO X none Nm:=by intro J s U H Q I h;rw[evalPart_none];exact Ah ⟨none,H,I,.none,h⟩
theorem Np(h:PE X e te):PO X (some e) (Nn te):=by intro J s U H Q I hw;rw[evalPart_some];refine aa (h J s U H _ I hw) λu p x g j l o=>?_;obtain⟨i,rfl,q⟩:=o;obtain⟨t,rfl⟩:=l;exact⟨some i,g,j,.int i t,q⟩
def rN(X:Cx)(r:V->Option Int->Option Int->Hp->VK->Prop):Prop:=
 ∀(pins:List<|Addr×Obj) (s:Shared) (σ:St) (H:Hp) (x:V) (v I J:Value) (lo hi:Option Int) (U:Addr) (Q:VK),qx X pins σ H s->zv x v->s.heap.IsSliceOf U I J .none->IsPart I lo->IsPart J hi->r x lo hi H Q->
  ∃T id,typeLookup (.type T) "__getitem__" = pure (some<|.builtin id)/\s.TypeIs v T/\wpAny (model X.prog X.w) X.A (getItem v<|.ref U) (EP X pins σ Q) X.xe s
theorem rN.or{U:V->Option Int->Option Int->Hp->VK->Prop}(h:rN X r)(h':rN X U):rN X (λx lo hi H Q=>r x lo hi H Q\/U x lo hi H Q):=by
 intro J s g H x v j l lo hi o Q I p t pl C q;rcases q with q|q
 ·exact h J s g H x v j l lo hi o Q I p t pl C q
 ·exact h' J s g H x v j l lo hi o Q I p t pl C q
def Nq(r:V->Option Int->Option Int->Hp->VK->Prop)(te:TE)(tl th:TO):TE:=λσ H Q=>te σ H λx H1=>tl σ H1 λl H2=>th σ H2 λu I=>r x l u I Q
theorem Nr(t:rN X r)(C:PE X e te)(hl:PO X lo tl)(hu:PO X hi th):PE X (.Subscript e (.Slice lo hi none p2) pos) (Nq r te tl th):=by intro J s g H Q I h;refine Subscript_<|aE (C J s g H _ I h) λv s1 ψ=>?_;obtain⟨x,H1,I1,r1,q1⟩:=ψ;refine wpAny_Slice<|aE (hl J s1 g H1 _ I1 q1) λj s2 ⟨l,H2,I2,pl,q2⟩=>aE (hu J s2 g H2 _ I2 q2) λo U ψ=>?_;obtain⟨u,p,I3,pu,q3⟩:=ψ;rw[evalPart_none];refine Ah ?_;have I4:qx X J g p { U with heap:=U.heap.push { cls:=.type "slice",data:=.fields #[j,o,.none] } }:=I3.kept (t':=U.toks) λb ob q=>sy _ q;obtain⟨T,id,hT,ht,hg⟩:=t J { U with heap:=U.heap.push { cls:=.type "slice",data:=.fields #[j,o,.none] } } g p x v j o l u U.heap.objs.size Q I4 r1 (Heap.IsSliceOf.new ..) pl pu q3;show wpAny (model X.prog X.w) X.A (subscriptTail e (.Slice lo hi none p2) v<|.ref U.heap.objs.size) (EP X J g Q) X.xe { U with heap:=U.heap.push { cls:=.type "slice",data:=.fields #[j,o,.none] } };exact tail_any (ops:=[.ref U.heap.objs.size,v]) ht hT hg (by with_unfolding_all rfl)
def rS(xs:List V)(lo hi:Option Int):List V:=(xs.drop<|HT.sIx xs.length 0 lo).take<|HT.sIx xs.length xs.length hi-HT.sIx xs.length 0 lo
theorem jT(xs:List V)(lo hi:Option Int):(rS xs lo hi).length<=xs.length:=by unfold rS;rw[AY,BM];lia
def Nt(K:Af):V->Option Int->Option Int->Hp->VK->Prop:=λx lo hi H Q=>∃a xs,x=.ref a/\dS K H a xs/\
 ¬(HT.sIx xs.length 0 lo=0/\HT.sIx xs.length xs.length hi=xs.length)/\∀p,H p=none->Q (.ref p) (upd H p<|.tup<|rS xs lo hi)
theorem alt:rN X (Nt X.K):=by
 intro l s σ H x v vl vu lo g sl Q I C T pl pu h;obtain⟨a,U,rfl,hx,hw,q⟩:=h;cases C;obtain⟨j,r,p,t⟩:=I.tuple hx;have J:j.toArray.size=U.length:=by rw[Au];exact r.length.symm
 refine⟨"tuple",_,Cv.lookup,p.typeIs,?_⟩;refine HT.getItem_tuple_cut p T pl pu (by rw[J];exact hw) ?_ (by rw[J];exact t);rw[J];refine⟨.ref s.heap.objs.size,_,I.laid (t':=s.toks) (o:=.tup<|rS U lo g) (λb ob q=>sy _ q) (Ao _) ?_,rfl,q _<|I.hok.fresh<|Ao _⟩;exact⟨AZ (jT U lo g) t,_,(r.drop<|HT.sIx U.length 0 lo).take<|HT.sIx U.length U.length g-HT.sIx U.length 0 lo,IsTup.new _ _⟩
end
def yo(n:Nat)(i:Int):Option Nat:=if 0<=i then(if i<n then some i.toNat else none) else if -(n:Int)<=i then some (i+n).toNat else none
def fQ(xs:List α)(i:Int):Option α:=(yo xs.length i).bind λj=>xs[j]?
theorem yK{i:Int}(h:yo n i=some j):seqIndex? i n=some j/\j<n /\ -(n:Int)<=i/\i<n:=by
 unfold yo at h;by_cases h0:0<=i
 ·rw[AB h0] at h;by_cases h1:i<n
  ·rw[AB h1] at h;have e:i.toNat=j:=Bc h;exact⟨by rw[seqIndex_of h0 h1,e],by lia,by lia,h1⟩
  ·rw[AC h1] at h;cases h
 ·rw[AC h0] at h;by_cases h1 : -(n:Int)<=i
  ·rw[AB h1] at h;have e:(i+n).toNat=j:=Bc h;exact⟨by rw[seqIndex_neg (by lia) h1,e],by lia,h1,by lia⟩
  ·rw[AC h1] at h;cases h
theorem qF{xs:List α}{i:Int}{v:α}(h:fQ xs i=some v):∃j,seqIndex? i xs.length=some j/\xs[j]?=some v/\j<xs.length /\ -(xs.length:Int)<=i/\i<xs.length:=by
 unfold fQ at h;cases e:yo xs.length i with
 |none=>rw[e] at h;cases h
 |some j=>
  rw[e] at h;obtain⟨h1,h2,h3,I⟩:=yK e;exact⟨j,h1,h,h2,h3,I⟩
theorem jt{xs:List α}{v:α}(h:xs[j]?=some v):fQ xs (j:Int)=some v:=by
 have I:j<xs.length:=(AN.mp h).1;have e:yo xs.length (j:Int)=some j:=by unfold yo;rw[AB (by lia),AB (by lia)];simp
 unfold fQ;rw[e];exact h
def qN(b:Expr):Prop:=∀o i,subscripted b false o i=operate [o,i] (getItem o i)
def IxR(X:Cx)(r:R2):Prop:=
 ∀(value slice:Expr) (pins:List<|Addr×Obj) (s:Shared) (σ:St) (H:Hp) (x y:V) (v u:Value) (Q:VK),qx X pins σ H s->zv x v->zv y u->r x y H Q->
  subscripted slice false v u=operate [v,u] (getItem v u)->wpAny (model X.prog X.w) X.A (subscriptTail value slice v u) (EP X pins σ Q) X.xe s
def Nu(X:Cx)(id:String)(r:V->List V->Hp->VK->Prop):Prop:=
 ∀(pins:List<|Addr×Obj) (s:Shared) (σ:St) (H:Hp) (x:V) (xs:List V) (v:Value) (us:List Value) (Q:VK),qx X pins σ H s->zv x v->zw xs us->r x xs H Q->
  wpAny (model X.prog X.w) X.A (call (.builtin id)<|v::us) (EP X pins σ Q) X.xe s
section
variable {a b:Expr}{ta tb:TE}
theorem Nv{r:R2}(U:IxR X r)(g:PE X a ta)(j:PE X b tb)(hs:qN b):PE X (.Subscript a b pos) (Ei r ta tb):=by intro J s l H Q I h;exact Subscript_<|FV g j I h λv u o x y p t C T q=>U a b J o l p x y v u Q t C T q<|hs _ _
def Nw(K:Af):R2:=λx y H Q=>∃p xs i v,x=.ref p/\y=.int i/\aF K H p xs/\fQ xs i=some v/\Q v H
def Nx(K:Af):R2:=λx y H Q=>∃p xs i v,x=.ref p/\y=.int i/\dS K H p xs/\fQ xs i=some v/\Q v H
def Ny:R2:=λx y H Q=>∃z i c,x=.str z/\y=.int i/\z.length<=sizeLine/\fQ z.cps.toList i=some c/\Q (.str ⟨#[c]⟩) H
theorem Nz:IxR X (Nw X.K):=by
 intro value slice J s o H x y v u Q I rx ry h C;obtain⟨p,xs,i,z,rfl,rfl,hq,he,q⟩:=h;cases rx;obtain⟨t,rfl⟩:=ry;obtain⟨U,r,pl,hz⟩:=I.list hq;obtain⟨j,h1,h2,h3,h4,h5⟩:=qF he;obtain⟨w,T,g⟩:=r.get h2;have hl:=r.length;have hn:=iT;have x8:EP X J o Q w s:=⟨z,H,I,g,q⟩;by_cases h0:0<=i
 ·have l:i.toNat=j:=by rw[seqIndex_of h0 h5] at h1;exact Bc h1
  exact item_listR pl.isList h0 (by lia) (by rw[l];simpa using T) x8 C
 ·have l:(i+(U.toArray.size:Int)).toNat=j:=by rw[seqIndex_neg (by lia) h4] at h1;rw[Au,<-hl];exact Bc h1
  exact subscriptTail_builtinR (x:=w) pl.isList.typeIs slot_list_getitem.lookup
   (wpAny_getItem_list_neg (Q:=λr s'=>r=w/\EP X J o Q r s') pl.isList (by lia) (by rw[Au]<;>lia) (by lia) (by rw[l];simpa using T) ⟨rfl,x8⟩) C
theorem NA:IxR X (Nx X.K):=by
 intro value slice J s g H x y v u Q I l o h C;obtain⟨p,xs,i,z,rfl,rfl,T,he,q⟩:=h;cases l;obtain⟨t,rfl⟩:=o;obtain⟨a1,r,pl,hz⟩:=I.tuple T;obtain⟨j,h1,h2,h3,h4,h5⟩:=qF he;obtain⟨w,ew,U⟩:=r.get h2;have hl:=r.length;have hn:=iT;have x8:EP X J g Q w s:=⟨z,H,I,U,q⟩;exact subscriptTail_builtinR (x:=w) pl.typeIs slot_tuple_getitem.lookup
  (getItem_tuple (j:=j) (Q:=λr s'=>r=w/\EP X J g Q r s') pl (by lia) (by lia) (by rw[Au,<-hl];exact h1) (by simpa using ew) ⟨rfl,x8⟩) C
theorem NB:IxR X Ny:=by
 intro value slice J s σ H x y v u Q I U g h l;obtain⟨z,i,c,rfl,rfl,hz,o,q⟩:=h;obtain⟨t,rfl⟩:=U;obtain⟨t',rfl⟩:=g;obtain⟨j,h1,h2,h3,p,r⟩:=qF o;have C:z.cps.toList.length=z.length:=by simp[Str.length]
 rw[C] at h1 p r;have hn:=iT;exact tail_any (typeIs_str s z t) slot_str_getitem.lookup (getItem_str (c:=c) (by have T:decide (i < -(2 ^ 63:Int))=false:=AE (by lia);have e2:decide (i>=2 ^ 63)=false:=AE (by lia);rw[T,e2,Bool.or_false]) (by rw[h1];simpa using h2) ⟨.str ⟨#[c]⟩,H,I.tok _,⟨_,rfl⟩,q⟩) l
theorem ud(eA:List Value)(n j:Nat)(u:Value):Obj.mapSeq (·.setIfInBounds j u) { cls:=.type "list",data:=.seq eA.toArray n }={ cls:=.type "list",data:=.seq (eA.set j u).toArray n }:=by simp[Obj.mapSeq]
theorem qx.lst{p:Addr}(I:qx X pins σ H s)(h:H p=some (.lst xs)):
 ∃(eA:List Value) (n:Nat),zw xs eA/\s.heap.get? p=some { cls:=.type "list",data:=.seq eA.toArray n }/\xs.length<=sizeLine:=by
 obtain⟨z,eA,n,r,e⟩:=I.hok p _ h;exact⟨eA,n,r,e,z⟩
theorem qx.lstUpd{p:Addr}{ys:List V}{its':List Value}{J:Nat}{f:Obj->Obj}(I:qx X pins σ H s)(h:H p=some (.lst xs))
 (g:s.heap.get? p=some { cls:=.type "list",data:=.seq eA.toArray n }) (U:f { cls:=.type "list",data:=.seq eA.toArray n }={ cls:=.type "list",data:=.seq its'.toArray J }) (r:zw ys its') (hz:ys.length<=sizeLine) (t:Nat) (l:0<t:=by walk_at "t"):
 qx X pins σ (upd H p<|.lst ys) { s with heap:=s.heap.update p f,toks:=t }:=by
 have e:(s.heap.update p f).get? p=some { cls:=.type "list",data:=.seq its'.toArray J }:=by rw[At f g (by rw[U]<;>rfl),U]
 refine I.write (x:=p) (e:=p) (by rw[h];trivial) (.inl rfl) (λb u j q=>(ya _ _<|AL j).trans q) ⟨_,e⟩ ?_;exact⟨hz,its',J,r,e⟩
def NC:V->V->V->Hp->(Hp->Prop)->Prop:=λo i v H Q=>∃p xs k j,o=.ref p/\i=.int k/\H p=some (.lst xs)/\yo xs.length k=some j/\Q (upd H p<|.lst<|xs.set j v)
theorem ND:Hg X NC:=by
 intro J s σ H o i v ov iv u Q I ro ri rv h;obtain⟨p,xs,k,j,rfl,rfl,T,hj,q⟩:=h;cases ro;obtain⟨t,rfl⟩:=ri;obtain⟨U,n,r,g,hz⟩:=I.lst T;obtain⟨h1,h2,h3,h4⟩:=yK hj;have l:=r.length;have hn:=iT;have I':qx X J σ (upd H p<|.lst<|xs.set j v) { s with heap:=s.heap.update p (Obj.mapSeq (·.setIfInBounds j u)) }:=
  I.lstUpd T g (ud U n j u) (r.set rv j) (by rw[BA];exact hz) s.toks
 by_cases h0:0<=k
 ·have C:k.toNat=j:=by rw[seqIndex_of h0 h4] at h1;exact Bc h1
  exact PySem.W.ki_setAt g h0 (by lia) (by rw[Au,<-l];exact h4) (by rw[C];exact⟨_,I',q⟩)
 ·have C:(k+(U.toArray.size:Int)).toNat=j:=by rw[seqIndex_neg (by lia) h3] at h1;rw[Au,<-l];exact Bc h1
  exact PySem.W.ki_setBack g (by lia) (by rw[Au,<-l];exact h3) (by lia) (by rw[C];exact⟨_,I',q⟩)
theorem qS(lo hi:Option Int)(n:Nat):(sliceBounds lo hi none n).1=((HT.sIx n 0 lo:Nat):Int)/\(sliceBounds lo hi none n).2.1=((HT.sIx n n hi:Nat):Int)/\(sliceBounds lo hi none n).2.2=1:=by
 refine⟨?_,?_,rfl⟩
 ·cases lo with
  |none=>simp[sliceBounds,HT.sIx]
  |some i=>
   simp only[sliceBounds,HT.sIx,Option.getD_none,show(1:Int) > 0 by decide,if_true];by_cases h:i<0
   ·simp only[h,if_true]<;>lia
   ·simp only[h,if_false]<;>lia
 ·cases hi with
  |none=>simp[sliceBounds,HT.sIx]
  |some i=>
   simp only[sliceBounds,HT.sIx,Option.getD_none,show(1:Int) > 0 by decide,if_true];by_cases h:i<0
   ·simp only[h,if_true]<;>lia
   ·simp only[h,if_false]<;>lia
theorem nW(eA:List Value)(lo hi:Option Int):slicePick eA.toArray lo hi none=((eA.drop<|HT.sIx eA.length 0 lo).take<|HT.sIx eA.length eA.length hi-HT.sIx eA.length 0 lo).toArray:=by obtain⟨h1,h2,h3⟩:=qS lo hi eA.toArray.size;unfold slicePick;rw[h1,h2,h3];simp only[sliceRange_one,pick_run,Au]<;>rfl
def NE(K:Af):V->Option Int->Option Int->Hp->VK->Prop:=λx lo hi H Q=>∃a xs,x=.ref a/\aF K H a xs/\∀p,H p=none->Q (.ref p) (upd H p<|.lst<|rS xs lo hi)
theorem NF:rN X (NE X.K):=by intro j s σ H x v vl vu lo g sl Q I p t pl C h;obtain⟨a,J,rfl,T,q⟩:=h;cases p;obtain⟨a1,r,l,hz⟩:=I.list T;have U:=r.length;refine⟨"list",_,slot_list_getitem.lookup,l.isList.typeIs,?_⟩;refine wpAny_getItem_list_slice l.isList t pl C .none (by simp) ?_ (by rw[Au]<;>lia);rw[nW,<-U];refine⟨.ref s.heap.objs.size,_,I.laid (t':=s.toks) (o:=.lst<|rS J lo g) (λb ob q=>sy _ q) (Ao _) ?_,rfl,q _<|I.hok.fresh<|Ao _⟩;exact⟨AZ (jT J lo g) hz,_,0,(r.drop<|HT.sIx J.length 0 lo).take<|HT.sIx J.length J.length g-HT.sIx J.length 0 lo,vb _ rfl⟩
def a6:V->Bool
 |.non=>true
 |.bl _=>true
 |.int _=>true
 |.str _=>true
 |_=>false
def nI:V->V->Bool
 |.non,.non=>true
 |.bl a,.bl b=>a==b
 |.bl a,.int b=>(if a then 1 else 0)==b
 |.int a,.bl b=>a==(if b then 1 else 0)
 |.int a,.int b=>a==b
 |.str a,.str b=>a==b
 |_,_=>false
theorem mH{y x:V}(U:zv y u)(I:zv x v)(j:a6 y=true)(g:a6 x=true):SeqAt.EqAt A s u v (nI y x):=by
 cases y with
 |non=>
  cases U;cases x with
  |non=>cases I;exact SeqAt.EqAt.same _
  |bl b=>cases I;exact SeqAt.EqAt.none_bool b
  |int b=>obtain⟨t,rfl⟩:=I;exact SeqAt.EqAt.none_int b t
  |str b=>obtain⟨t,rfl⟩:=I;exact SeqAt.EqAt.none_str b t
  |_=>exact absurd (show false=true from g) AH
 |bl a=>
  cases U;cases x with
  |non=>cases I;exact SeqAt.EqAt.bool_none a
  |bl b=>cases I;exact SeqAt.EqAt.bool_bool a b
  |int b=>obtain⟨t,rfl⟩:=I;exact SeqAt.EqAt.bool_int a b t
  |str b=>obtain⟨t,rfl⟩:=I;exact SeqAt.EqAt.bool_str a b t
  |_=>exact absurd (show false=true from g) AH
 |int a=>
  obtain⟨J,rfl⟩:=U;cases x with
  |non=>cases I;exact SeqAt.EqAt.int_none a J
  |bl b=>cases I;exact SeqAt.EqAt.int_bool a J b
  |int b=>obtain⟨t,rfl⟩:=I;exact SeqAt.EqAt.int_int a J b t
  |str b=>obtain⟨t,rfl⟩:=I;exact SeqAt.EqAt.int_str a J b t
  |_=>exact absurd (show false=true from g) AH
 |str a=>
  obtain⟨J,rfl⟩:=U;cases x with
  |non=>cases I;exact SeqAt.EqAt.str_none a J
  |bl b=>cases I;exact SeqAt.EqAt.str_bool a J b
  |int b=>obtain⟨t,rfl⟩:=I;exact SeqAt.EqAt.str_int a J b t
  |str b=>obtain⟨t,rfl⟩:=I;exact SeqAt.EqAt.str_str a J b t
  |_=>exact absurd (show false=true from g) AH
 |_=>exact absurd (show false=true from j) AH
def uq(x:V)(u:Value):Bool:=match u with
 |.none=>nI .non x
 |.bool b=>nI (.bl b) x
 |.int i _=>nI (.int i) x
 |.str z _=>nI (.str z) x
 |_=>false
theorem Hv{x y:V}(r:zv y u)(f:a6 y=true):uq x u=nI y x:=by
 cases y with
 |non=>cases r;rfl
 |bl b=>cases r;rfl
 |int i=>obtain⟨t,rfl⟩:=r;rfl
 |str z=>obtain⟨t,rfl⟩:=r;rfl
 |_=>exact absurd (show false=true from f) AH
theorem gW{x:V}:∀{xs:List V} {us:List Value},zw xs us->xs.all a6=true->us.any (uq x)=xs.any λy=>nI y x
 |_,_,.nil,_=>rfl
 |y::xs,u::us,.cons r t,f=>by rw[DY,Ba] at f;rw[Ct,Ct,Hv r f.1,gW t f.2]
theorem iF{x:V}(J:zv x v)(U:a6 x=true):∀{xs:List V} {us:List Value},zw xs us->xs.all a6=true->∀u∈us,SeqAt.EqAt A s u v (uq x u):=by
 intro xs us h
 induction h with
 |nil=>intro _ u I;cases I
 |cons r t g=>
  intro f j I;rw[DY,Ba] at f;rcases Am.mp I with rfl|I
  ·rw[Hv r f.1];exact mH r J f.1 U
  ·exact g f.2 j I
def rO(x:V)(xs:List V):Bool:=xs.any λy=>nI y x
def F5(K:Af)(neg:Bool):R2:=λx y H Q=>∃p xs,y=.ref p/\(aF K H p xs\/dS K H p xs)/\a6 x=true/\xs.all a6=true/\Q (.bl<|if neg then !rO x xs else rO x xs) H
theorem NG:wg X (compareOp .In) (F5 X.K false):=by
 intro g s C H x y v u Q I j o h;obtain⟨p,T,rfl,U,l,fs,q⟩:=h;cases o;rcases U with U|U
 ·obtain⟨J,r,pl,t⟩:=I.list U;refine SeqAt.in_listAt (uq x) pl.isList (λw hw=>iF j l r fs w (by simpa using hw)) ⟨.bl _,H,I,rfl,?_⟩;rw[show J.toArray.any (uq x)=J.any (uq x) by simp,gW r fs];exact q
 ·obtain⟨J,r,pl,t⟩:=I.tuple U;refine SeqAt.in_tupleAt (uq x) pl (λw hw=>iF j l r fs w (by simpa using hw)) ⟨.bl _,H,I,rfl,?_⟩;rw[show J.toArray.any (uq x)=J.any (uq x) by simp,gW r fs];exact q
theorem rB:wg X (compareOp .NotIn) (F5 X.K true):=by
 intro g s C H x y v u Q I j o h;obtain⟨p,T,rfl,U,l,fs,q⟩:=h;cases o;rcases U with U|U
 ·obtain⟨J,r,pl,t⟩:=I.list U;refine SeqAt.notIn_listAt (uq x) pl.isList (λw hw=>iF j l r fs w (by simpa using hw)) ⟨.bl _,H,I,rfl,?_⟩;rw[show J.toArray.any (uq x)=J.any (uq x) by simp,gW r fs];exact q
 ·obtain⟨J,r,pl,t⟩:=I.tuple U;refine SeqAt.notIn_tupleAt (uq x) pl (λw hw=>iF j l r fs w (by simpa using hw)) ⟨.bl _,H,I,rfl,?_⟩;rw[show J.toArray.any (uq x)=J.any (uq x) by simp,gW r fs];exact q
theorem rG:jn X (.builtin "len") (λxs H Q=>∃p ys,xs=[.ref p]/\(aF X.K H p ys\/dS X.K H p ys)/\Q (.int ys.length) H):=by
 intro l s C H xs T Q I r h;obtain⟨p,ys,rfl,U,q⟩:=h;obtain⟨u,rfl,o⟩:=jM r;cases o;have hn:=iT;rcases U with U|U
 ·obtain⟨g,j,pl,t⟩:=I.list U;have J:=j.length;exact Calls.call_len_list pl.isList (by simp only[Au]<;>lia) ⟨.int ys.length,H,I.tok _,⟨s.toks+1,by rw[Au,J]⟩,q⟩
 ·obtain⟨g,j,pl,t⟩:=I.tuple U;have J:=j.length;exact len_tuple pl (by simp only[Au]<;>lia) ⟨.int ys.length,H,I.tok _,⟨s.toks+1,by rw[Au,J]⟩,q⟩
theorem qH:jn X (.builtin "len") (λxs H Q=>∃z,xs=[.str z]/\z.length<=sizeLine/\Q (.int z.length) H):=by intro J s U H xs g Q I r h;obtain⟨z,rfl,j,q⟩:=h;obtain⟨u,rfl,t,rfl⟩:=jM r;have l:=iT;exact len_str (by lia) ⟨.int z.length,H,I.tok _,⟨_,rfl⟩,q⟩
theorem oo:jn X (.type "list") (λxs H Q=>∃p ys,xs=[.ref p]/\(aF X.K H p ys\/dS X.K H p ys)/\∀l,H l=none->Q (.ref l) (upd H l<|.lst ys)):=by
 intro t s σ H xs us Q I r h;obtain⟨p,ys,rfl,C,q⟩:=h;obtain⟨u,rfl,rx⟩:=jM r;cases rx;have x8:∀(J:List Value),zw ys J->ys.length<=sizeLine->∀(U:Heap) (g:Nat),(∀b o',s.heap.get? b=some o'->U.get? b=some o')->
  U.get? s.heap.objs.size=some { cls:=.type "list",dict:=none,data:=.seq J.toArray g,slots:=#[] }->EP X t σ Q (.ref s.heap.objs.size) { s with heap:=U }:=λJ j T U g kp e=>
  ⟨.ref s.heap.objs.size,_,I.laid (t':=s.toks) kp (Ao _)<|show xo X.prog X.w _ U _ (.lst ys) from⟨T,J,g,j,e⟩,rfl,q _<|I.hok.fresh<|Ao _⟩
 rcases C with C|C
 ·obtain⟨J,j,pl,T⟩:=I.list C;have a1:=j.length;obtain⟨o,ho,hc,n,hd⟩:=pl.isList;exact call_list_seq p (.inl rfl) ho hc hd (λU g kp e=>x8 J j T U g kp e) (by simp only[Au]<;>lia)
 ·obtain⟨J,j,pl,T⟩:=I.tuple C;have a1:=j.length;obtain⟨o,ho,hc,n,hd⟩:=pl;exact call_list_seq p (.inr rfl) ho hc hd (λU g kp e=>x8 J j T U g kp e) (by simp only[Au]<;>lia)
theorem nV:jn X (.type "tuple") (λxs H Q=>∃p ys,xs=[.ref p]/\((aF X.K H p ys/\∀l,H l=none->Q (.ref l) (upd H l<|.tup ys))\/(dS X.K H p ys/\Q (.ref p) H))):=by
 intro J s C H xs us Q I r h;obtain⟨p,ys,rfl,h⟩:=h;obtain⟨u,rfl,rx⟩:=jM r;cases rx;rcases h with⟨j,q⟩|⟨j,q⟩
 ·obtain⟨U,t,pl,T⟩:=I.list j;have a1:=t.length;refine call_tuple_list pl.isList (λg kp=>?_) (by simp only[Au]<;>lia);have I1:qx X J C H { s with heap:=g }:=I.kept (t':=s.toks) kp;have I2:qx X J C (upd H g.objs.size<|.tup ys) { s with heap:=g.push { cls:=.type "tuple",data:=.seq U.toArray } }:=
   I1.laid (t':=s.toks) (λb o e=>sy _ e) (Ao _) (show xo X.prog X.w _ _ _ (.tup ys) from⟨T,U,t,IsTup.new _ _⟩)
  exact⟨.ref g.objs.size,_,I2,rfl,q _<|I1.hok.fresh<|Ao _⟩
 ·obtain⟨U,t,pl,T⟩:=I.tuple j;exact call_tuple_same pl ⟨.ref p,H,I,rfl,q⟩
def F6(K:Af)(T:String)(x:V)(H:Hp):Prop:=match x with
 |.str _=>T = "str"
 |.int _=>T = "int"
 |.ref p=>(T = "list" /\ ∃xs,aF K H p xs)\/(T = "tuple" /\ ∃o,K.lookup p=some o/\o.cls=.type "tuple" /\ o.dict=none)\/
  (T = "dict" /\ ((∃kvs,H p=some (.dK kvs))\/∃kvs,H p=some (.dT kvs)))\/(T = "set" /\ ∃S n,H p=some (.set S n))
 |_=>False
theorem NH{T:String}{x:V}(I:qx X pins σ H s)(r:zv x v)(ty:F6 X.K T x H):
 s.TypeIs v T/\∀a,v=.ref a->∃ob,s.heap.get? a=some ob/\ob.dict=none:=by
 cases x with
 |str z=>
  obtain⟨t,rfl⟩:=r;cases (show T = "str" from ty);exact⟨typeIs_str s z t,λ_ e=>nomatch e⟩
 |int i=>
  obtain⟨t,rfl⟩:=r;cases (show T = "int" from ty);exact⟨typeIs_int s i t,λ_ e=>nomatch e⟩
 |ref p=>
  cases r;rcases ty with⟨rfl,xs,j⟩|⟨rfl,o,J,l,hd⟩|⟨rfl,J⟩|⟨rfl,S,n,J⟩
  ·obtain⟨C,_,pl,_⟩:=I.list j;refine⟨pl.isList.typeIs,λa e=>?_⟩;cases e;obtain⟨o,n,e,c,hd,_⟩:=pl;exact⟨o,e,hd⟩
  ·refine⟨⟨o,I.kIn p o J,l⟩,λa e=>?_⟩;cases e;exact⟨o,I.kIn _ o J,hd⟩
  ·have z:∃o,s.heap.get? p=some o/\o.ExactDict:=by
    rcases J with⟨U,J⟩|⟨U,J⟩
    ·obtain⟨_,_,_,_,o,_,_,e,ex,_⟩:=I.hok p _ J;exact⟨o,e,ex⟩
    ·obtain⟨_,_,_,_,o,_,_,e,ex,_⟩:=I.hok p _ J;exact⟨o,e,ex⟩
   obtain⟨o,e,ex⟩:=z;refine⟨⟨o,e,ex.1⟩,λa g=>?_⟩;cases g;exact⟨o,e,ex.2.1⟩
  ·obtain⟨o,_,_,_,e,ex,_⟩:=I.hok p _ J;refine⟨⟨o,e,ex.1⟩,λa g=>?_⟩;cases g;exact⟨o,e,ex.2.1⟩
 |_=>exact False.elim ty
def NI(K:Af)(T:String)(r:V->List V->Hp->VK->Prop)(to:TE)(t:TA):TE:=λσ H Q=>to σ H λx H1=>F6 K T x H1/\t σ H1 λxs H2=>r x xs H2 Q
variable {to:TE}{t:TA}{T id:String}{r:V->List V->Hp->VK->Prop}
theorem Hw(pa:PlainAttrs T)(slot:Slot T name id)(p:typeOf (.builtin id)=pure (.type "method_descriptor"))(hm:Nu X id r)(ho:PE X o to)(ha:PA X (e::es) t)
 (g:attributeBase o name X.env (eval o X.env)=eval o X.env:=by rfl)
 (l:((backTo fu<|starEach (e::es) X.env).all (λx=>!x.1)&&(backToKw fu<|keywordEach [] X.env).all (λx=>x.1.isSome)
  && decide ((e::es).length+([]:List Keyword).length+(if ([]:List Keyword).isEmpty then 0 else 1)<30))=true:=by rfl)
 (j:(apos.endLine==fu.line)=true:=by rfl) (hs:Ew e es X:=by rfl) (U:Ex fu es X:=by rfl):
 PE X (.Call (.Attribute o name apos) (e::es) [] fu) (NI X.K T r to t):=by
 intro J s C H Q I h;refine wpAny_Call_method_late g l j rfl<|aE (ho J s C H _ I h) λv s1 ψ=>?_;obtain⟨x,H1,I1,r1,ty,q1⟩:=ψ;obtain⟨h1,h2⟩:=NH I1 r1 ty;refine⟨T,id,pa,slot,p,h1,h2,?_⟩;have hA:=ha fu J s1 C H1 _ I1 q1;rw[hs] at hA ⊢;refine Calls.callWith_builtin (by show(false||(backTo fu<|starEach es X.env).any (·.1))=false;rw[U]<;>rfl)<|Calls.evalArgs_plain ?_;exact aE hA λus s2 ψ=>(by obtain⟨vs,H2,I2,r2,q2⟩:=ψ;exact hm J s2 C H2 x vs v us Q I2 r1 r2 q2)
end
def o5(X:Cx)(id:String)(r:V->List V->Hp->VK->Prop):Prop:=
 ∀(pins:List<|Addr×Obj) (s:Shared) (σ:St) (H:Hp) (x:V) (xs:List V) (v:Value) (us:List Value) (Q:VK),qx X pins σ H s->zv x v->zw xs us->r x xs H Q->
  wpAny (model X.prog X.w) X.A (call (.builtin id)<|v::us) (EP X pins σ Q) X.xe s
theorem zw.one{x:V}(h:zw [x] us):∃u,us=[u]/\zv x u:=by cases h with|cons r t=>cases t;exact⟨_,rfl,r⟩
theorem zw.two{x y:V}(h:zw [x,y] us):∃u v,us=[u,v]/\zv x u/\zv y v:=by cases h with|cons r t=>cases t with|cons q t=>cases t;exact⟨_,_,rfl,r,q⟩
theorem zw.eraseIdx:∀{xs:List V} {us:List Value} (i:Nat),zw xs us->zw (xs.eraseIdx i) (us.eraseIdx i)
 |_,_,_,.nil=>.nil
 |_,_,0,.cons _ t=>t
 |_,_,i+1,.cons r t=>.cons r<|zw.eraseIdx i t
theorem og{α:Type}:∀(l:List α) (i:Nat),(l.eraseIdx i).length<=l.length
 |[],_=>Ao _
 |_::_,0=>CN _
 |_::r,i+1=>Dw<|og r i
section
variable {b:Addr}{ys:List V}
theorem qx.lset{its':List Value}{f:Array Value->Array Value}(I:qx X pins σ H s)(J:H l=some (.lst xs))
 (e:s.heap.get? l=some { cls:=.type "list",data:=.seq eA.toArray n }) (U:f eA.toArray=its'.toArray) (g:zw ys its') (hz:ys.length<=sizeLine) (p:0<t':=by walk_at "t"):
 qx X pins σ (upd H l<|.lst ys) { s with heap:=s.heap.update l<|Obj.mapSeq f,toks:=t' }:=by
 have q:=PySem.IsL.update e f;rw[U] at q;refine I.write (x:=l) (e:=l) (by rw[J];exact trivial) (.inl rfl) (λr u j o=>(ya s.heap (Obj.mapSeq f)<|AL j).trans o) ⟨_,q⟩ ?_;exact⟨hz,its',_,g,q⟩
theorem qx.lnew(I:qx X pins σ H s)(J:zw ys eA)(hz:ys.length<=sizeLine)(U:0<t':=by walk_at "t"):
 qx X pins σ (upd H s.heap.objs.size<|.lst ys) { s with heap:=s.heap.push { cls:=.type "list",data:=.seq eA.toArray },toks:=t' }:=
 I.laid (λ_ _ q=>sy _ q) (Ao _) ⟨hz,eA,0,J,vb _ rfl⟩
theorem qx.fresh(I:qx X pins σ H s):H s.heap.objs.size=none:=I.hok.fresh<|Ao _
theorem qx.lstM(I:qx X pins σ H s)(J:H l=some (.lst xs)):xs.length<=sizeLine/\∃(eA:List Value) (n:Nat),zw xs eA/\xs.length=eA.length/\s.heap.get? l=some { cls:=.type "list",data:=.seq eA.toArray n }:=by obtain⟨z,eA,n,r,e⟩:=I.hok l _ J;exact⟨z,eA,n,r,r.length,e⟩
end
def NJ:V->List V->Hp->VK->Prop:=λx vs H Q=>∃l xs y,x=.ref l/\vs=[y]/\H l=some (.lst xs)/\xs.length<sizeLine/\Q .non (upd H l<|.lst<|xs++[y])
theorem NK:o5 X "list.append" NJ:=by intro U s t H x C v T Q I j o h;obtain⟨l,xs,y,rfl,rfl,g,hz,q⟩:=h;cases j;obtain⟨u,rfl,p⟩:=o.one;obtain⟨z,J,n,r,hl,e⟩:=I.lstM g;refine call_meets F.slot_list_append ⟨_,e,rfl⟩ F.entry_list_append (F.args_list_append_2 _ _) (PySem.list_append l J.toArray n u (by rw[Au];lia)) ⟨e,?_⟩;refine⟨.non,_,I.lset (its':=J++[u]) g e (by simp) (r.append<|.cons p .nil) ?_,rfl,q⟩;rw[Ad,CG];lia
def NL:V->List V->Hp->VK->Prop:=λx vs H Q=>∃l xs i k y,x=.ref l/\vs=[.int i]/\H l=some (.lst xs) /\ -(2 ^ 63)<=i/\i<2 ^ 63/\seqIndex? i xs.length=some k/\xs[k]?=some y/\Q y (upd H l<|.lst<|xs.eraseIdx k)
theorem NM:o5 X "list.pop" NL:=by
 intro g s σ H x vs v us Q I o p h;obtain⟨l,C,i,k,y,rfl,rfl,j,h1,h2,T,hy,q⟩:=h;cases o;obtain⟨u,rfl,ru⟩:=p.one;obtain⟨t,rfl⟩:=ru;obtain⟨z,J,n,r,hl,e⟩:=I.lstM j;obtain⟨w,hw,U⟩:=r.get hy;refine call_meets F.slot_list_pop ⟨_,e,rfl⟩ F.entry_list_pop (F.args_list_pop_2 _ _)
  (MeetsSeq.list_pop_at l J.toArray n i t k w (fitsIndex_both h1 h2) (by rw[Au,<-hl];exact T) (by rw[<-Bg];exact hw) (by rw[Au];lia)) ⟨e,?_⟩
 refine⟨y,_,I.lset (its':=J.eraseIdx k) j e ?_ (r.eraseIdx k) ?_,U,q⟩
 ·show J.toArray.eraseIdxIfInBounds k=(J.eraseIdx k).toArray;rw[List.eraseIdxIfInBounds_toArray]
 ·have:=og C k;lia
def arm:R2:=λx y H Q=>∃l b xs zs,x=.ref l/\y=.ref b/\H l=some (.lst xs)/\H b=some (.lst zs)/\xs.length+zs.length<=sizeLine/\∀p,H p=none->Q (.ref p) (upd H p<|.lst<|xs++zs)
theorem NN:wg X (binaryOp .Add) arm:=by
 intro g s σ H x y v u Q I j o h;obtain⟨l,b,xs,zs,rfl,rfl,p,t,hz,q⟩:=h;cases j;cases o;obtain⟨z,U,n,r,hl,e⟩:=I.lstM p;obtain⟨z2,J,n2,C,T,e2⟩:=I.lstM t;refine PySem.P.add_list e e2 ?_ (by rw[Au,Au];lia);have ea:U.toArray++J.toArray=(U++J).toArray:=by simp
 rw[ea];exact⟨.ref _,_,I.lnew (t':=s.toks) (r.append C) (by rw[Ad];lia),rfl,q _ I.fresh⟩
section
variable {w:World}
set_option maxRecDepth 100000 in
end
end L2
namespace Att
open PySem PySem.W PySem.Calls PyProof.Rows
theorem kB{P:Params} :∀(I:List Int) (vs:List Value),WellAll P h vs (I.map WData.int)->IntsAre vs I:=by
 intro I
 induction I with
 |nil=>
  intro vs w;rw[Dm] at w;cases w;exact .nil
 |cons n I J=>
  intro vs w;rw[AG] at w;cases w with
  |cons a b=>
   cases a;exact .cons _ _<|J _ b
theorem yh{l:OpenLaw}(hn:l.most=some n){P:Params}{args:List WData}{J:List Value}
 (U:l.row.toRowW.claim.pre args=true) (t:WellAll P h J args):
 ∃a vs I,J=[Value.ref a]/\args=[WData.list<|I.map WData.int]/\h.get? a=some { cls:=.type "list",data:=.seq vs.toArray }/\IntsAre vs I/\I.length<=n:=by
 have C:WShape.hasAll [] args [.list .int]=true:=(pre_splitW U).1;have T:l.pre.holds [] { args:=args }=true:=(pre_splitW U).2;obtain⟨d,r,rfl,h1,h2⟩:=hasAllW_cons C;obtain rfl:=hasAllW_nil h2;obtain⟨xs,rfl,h3⟩:=hasW_list h1;obtain⟨I,rfl⟩:=items_int h3;have g:I.length<=n:=by
  unfold OpenLaw.pre at T;have o:(WTm.not<|.lt (.lit<|.int (n:Int))<|.len<|.arg 0).holds [] { args:=[.list<|I.map .int] }=true:=by have o:=(holds_andW T).1;rw[hn] at o;exact o
  have p:=condW_of o<|w_not<|w_lt w_lit<|w_len_list<|w_arg rfl;rw[Ag] at p;refine Nat.le_of_not_lt λq=>?_;have q':(n:Int)<((I.length:Nat):Int):=by lia
  first
   |(rw[AM q'] at p;exact absurd p (by decide))
   |(simp at p;lia)
 cases t with
 |cons w1 w2=>
  cases w2;cases w1 with|list ho j=>exact⟨_,_,I,rfl,rfl,ho,kB I _ j,g⟩
theorem yO(l:OpenLaw)(args:List WData):l.row.toRowW.claim.post args (.bool true) args=true:=
 postW_of (r:=l.row.toRowW) (X:=(true==true))
  (show WShape.has [] (.bool true) .bool=true by first|rfl|decide|simp[WShape.has,WShape.arms,WShape.armsAll])
  (show(WTm.eq .res<|.lit<|.bool true).value [] { args:=args,res:=some<|.bool true,after:=args }=some (.bool<|true==true) from w_eq_bool (w_res rfl) w_lit) rfl
theorem attach_callZ{l:OpenLaw}{q:Program}{loose:List Str}{XP:(Str->Option Value)->Heap->Prop}{as0:List Addr}{N t:Nat}{K:Params->Frag}{d:DefRec}
 (hn:l.most=some n) (C:d.params.defaults=[]) (ek:∀P,as0=(K P).map (·.1)) (T:0<t)
 (call:∀(w:World) (s₀ I:Shared) (mg mb:Str->Option Value) (fa:Addr) (o:Obj) (pm cd hQ:Value) (a:Addr) (vs:List Value) (J:List Int),
  Ground q loose [] XP w s₀ mg mb I.heap->(K w.params).In I.heap->0<I.toks->
  I.heap.get? fa=some o->o.data=.func (docDef d.name d.params d.body d.scope pm cd hQ)->I.heap.CodeRec cd d.name->mg d.name=some (.ref fa)->
  I.heap.get? a=some { cls:=.type "list",data:=.seq vs.toArray }->IntsAre vs J->J.length<=n->I.gens=#[]->
  codeAny (model l.prog w) callerA (.call (.ref fa) ⟨[.ref a],[]⟩) (λr s'=>r=.ok (.ret<|.bool true)/\OldK I.heap s'.heap/\s'.os=I.os/\AllBare s'.gens) I):
 WalkX q loose XP (PySem.W.X.obsZ as0) (PySem.W.X.valZ K N t) l.row.toRowW d [] (λf vs=>PySem.call f vs):=by
 intro w s₀ I mg mb G Y fa o pm cd hQ dV kV ho hd a1 hD a3 hg args ac as L g al au a4 av;obtain rfl:dV=.none:=Dflts.none hD C;obtain rfl:kV=.none:=Dflts.noKw hD;obtain⟨a,vs,J,rfl,rfl,j,U,p⟩:=yh hn g a4;obtain⟨_,zi,_,zt⟩:=X.z_facts ek Y;have eP:∀J:List Int,ofPy (PyData.list<|J.map PyData.int)=WData.list (J.map WData.int):=λJ=>by
  simp only[ofPy];congr 1
  induction J with|nil=>simp[ofPys]|cons n r ih=>simp only[AG,ofPys,ofPy,ih]
 rw[<-eP] at L;have KX:=InK.keeps w s₀.heap I.heap zi L.keeps;have a5:0<I.toks:=AQ T<|X.script_toks L zt;refine enter_call<|codeAny_mono (call w s₀ I mg mb fa o pm cd hQ a vs J G KX a5 ho (fd_plain hd) a1 a3 j U p hg) λr s' hq=>?_;obtain⟨rfl,h2,h3,h4⟩:=hq;exact⟨.inl ⟨.bool true,.bool true,[],rfl,λ_=>rfl,.bool true,yO l _,λ_=>⟨List.Pairwise.nil,λ_ hm=>(nomatch hm)⟩⟩,h2,h3,h4⟩
section
variable {w:World}{K:Frag}
end
end Att
namespace L2
open PySem PySem.Spec PyProof.Rows
theorem o6:∀{vs:List Value} {I:List Int},IntsAre vs I->zw (I.map V.int) vs
 |_,_,.nil=>.nil
 |_,_,.cons n t h=>.cons ⟨t,rfl⟩<|o6 h
def xw(s:Stmt):Arguments:=match s with
 |.FunctionDef _ a _ _ _ _ _ _ _ _=>a
 |_=>{ posonlyargs:=[],args:=[],vararg:=none,kwonlyargs:=[],kw_defaults:=[],kwarg:=none,defaults:=[] }
def jc(s:Stmt):List Stmt:=match s with
 |.FunctionDef _ _ b _ _ _ _ _ _ _=>b
 |_=>[]
def ql(s:Stmt):Scope:=match s with
 |.FunctionDef _ _ _ _ _ _ I _ _ _=>I
 |_=>{ kind:=.function,names:=[],isGenerator:=false,isCoroutine:=false }
abbrev CX0:wN:=λ_ _ _ _ _ _=>False
abbrev E0:XK:=λ_ _ _=>False
theorem NO :vI CX0 X E0:=λ_ _ _ _ _ _ _ h=>h.elim
structure Fun(K:Af)(x eH:Str)(st:Stmt)(f:Addr)(fd:FuncData):Prop where
 ex:∃(oc:Value) (od:Option Addr) (kV hQ pm:Value) (an:Option Addr) (eK ct:Value) (nE:Array<|Option Value),
  fd=PySem.W.fnOf x eH (xw st) (jc st) (ql st) .none kV hQ pm an eK ct/\K.lookup f=some ⟨oc,od,.func fd,nE⟩/\PySem.W.codeIn K eK eH=true
 kp:PySem.W.keepIn K (.ref f)=true
section
variable {P:Program}{w:World}{K:Af}
theorem Fun.ok{N:List Str}{k:Nat}(F:Fun K x eH st f fd)(S:ww N ps<|ql st)(len:∀vs H Q E,sp vs H Q E->vs.length=ps.length)
 (I:∀(eK:Value) (A:Around) (outer:List Env) (s:Shared) (H:Hp) (vs:List V) (Q:VK) (E:XK),kz k (A.deeper<|envOfC eH (ql st) s.heap.objs.size f eK)->sp vs H Q E->
  ∃t,gZ (br CX0 P w K mg base N eH (ql st) f eK A outer s H E).nox (jc st) t/\t { nx:=λ_ H'=>Q .non H',rt:=Q } (start N vs) H):ay P w K mg base CX0 (k+1) f fd ps sp:=by
 obtain⟨o,p,kV,g,pm,an,eK,r,j,rfl,lk,J⟩:=F.ex;refine F2 lk J S len λA outer s H vs Q E l U=>?_;obtain⟨t,h,q⟩:=I eK A outer s H vs Q E l U;exact⟨t,h.nox,q⟩
theorem NP{kV ct:Value}(l:K.lookup f=some ⟨oc,od,.func<|PySem.W.fnOf x eH (xw st) (jc st) (ql st) .none kV hQ pm an eK ct,nE⟩)
 (c:PySem.W.codeIn K eK eH=true) (k:PySem.W.keepIn K (.ref f)=true):Fun K x eH st f (PySem.W.fnOf x eH (xw st) (jc st) (ql st) .none kV hQ pm an eK ct):=⟨⟨oc,od,kV,hQ,pm,an,eK,ct,nE,rfl,l,c⟩,k⟩
end
theorem nw(h:n<=1000):n<sizeLine:=CA h (by decide)
theorem pv(i:Nat)(hN:X.N[i]?=some x:=by rfl)(J:y_ X.env.scope x:=by first|exact Or.inl rfl|exact Or.inr (Or.inl rfl)|exact Or.inr<|Or.inr rfl)(hd:Ey x:=by decide)
 (I:Ez x:=by decide):PE X (.Name x pos) (FM i):=Lm hN J hd I
section
variable [DecidableEq κ]
end
end L2
set_option maxHeartbeats 8000000
theorem Ek{a b c:Nat}(h:a<b:=by assumption)(k:b<=c:=by assumption):a<c:=AQ h k
theorem iX{a b c:Nat}(h:a<=b:=by assumption)(k:b<c:=by assumption):a<c:=CA h k
theorem amp{a b c:Nat}(h:a<=b:=by assumption)(k:b<=c:=by assumption):a<=c:=AZ h k
theorem rp{a b c:Nat}(h:a<b:=by assumption)(k:b<c:=by assumption):a<c:=Nat.lt_trans h k
theorem Es{a b c:Nat}(h:a<=b:=by assumption)(k:b<=c:=by decide):a<=c:=AZ h k
theorem F7{a b:Nat}(h:a<=b:=by assumption):a<b+1:=Nat.lt_succ_of_le h
theorem NQ{a b:Nat}(h:a<=b:=by assumption):a<=b+1:=BP h
theorem ix{a b:Nat}(h:a<b:=by assumption):a<=b:=BL h
theorem Hx{a b:Nat}(h:a<b:=by assumption):a≠b:=A9 h
theorem NR{a b:Nat}(h:b<a:=by assumption):a≠b:=CT h
theorem Et{a:Nat}(h:a≠0:=by assumption):0<a:=Nat.pos_of_ne_zero h
theorem NS{a b c:Nat}(h:a<b:=by assumption)(k:b<=c:=by assumption):a<=c:=AZ (BL h) k
theorem Hy{a b c:Nat}(h:a<b:=by assumption):a<b+c:=AQ h<|Bi _ _
theorem uo{a b:Nat}(h:a=b:=by assumption):a<=b:=Nat.le_of_eq h
theorem yq{a b:Nat}(h:¬a<b:=by assumption):b<=a:=Nat.le_of_not_lt h
theorem Hz{a b:Nat}(h:¬b<=a:=by assumption):a<b:=Nat.lt_of_not_le h
theorem HA{a b:Nat}(h:a<b+1:=by assumption):a<=b:=Nat.le_of_lt_succ h
theorem zB{a b:Nat}(h:0<a:=by assumption)(k:0<b:=by decide):a-b<a:=Nat.sub_lt h k
theorem HB{a b c:Nat}(h:a<=c:=by assumption):a-b<=c:=AZ (Eu _ _) h
theorem rD{a b c:Nat}(h:a<c:=by assumption):a-b<c:=CA (Eu _ _) h
theorem z_{a b:Nat}(h:a<=b:=by assumption)(k:a≠b:=by assumption):a<b:=Nat.lt_of_le_of_ne h k
namespace L2
open PySem PySem.Spec PyProof.Rows
def NT:R2:=λx y H Q=>match x,y with
 |.int i,.int j=>Q (.int<|i+j) H
 |.str a,.str b=>a.length+b.length<=sizeLine/\Q (.str<|a++b) H
 |.ref l,.ref b=>∃xs zs,H l=some (.lst xs)/\H b=some (.lst zs)/\xs.length+zs.length<=sizeLine/\∀p,H p=none->Q (.ref p) (upd H p<|.lst<|xs++zs)
 |_,_=>False
theorem NU:wg X (binaryOp .Add) NT:=by
 intro J s U H x y v u Q I g j h;cases x<;>cases y<;>first
  |exact False.elim h
  |exact Mx J s U H _ _ v u Q I g j ⟨_,_,rfl,rfl,h⟩
  |exact vQ J s U H _ _ v u Q I g j ⟨_,_,rfl,rfl,h.1,h.2⟩
  |(obtain⟨l,o,h1,h2,h3,p⟩:=h;exact NN J s U H _ _ v u Q I g j ⟨_,_,l,o,rfl,rfl,h1,h2,h3,p⟩)
def KD(K:Af)(P:Program)(w:World)(a:Addr)(kvs:List<|jf×V):Prop:=
 (a==sysModules)=false/\kvs.length<=sizeLine/\∀h:Heap,K.In h->∃vs,KV kvs vs/\h.DictOf (v5 P w) a vs
def HE(K:Af)(P:Program)(w:World):R2:=λx y H Q=>match x,y with
 |.str z,.int i=>z.length<=sizeLine/\∃c,fQ z.cps.toList i=some c/\Q (.str ⟨#[c]⟩) H
 |.ref p,.int i=>∃xs v,(aF K H p xs\/dS K H p xs)/\fQ xs i=some v/\Q v H
 |.ref p,.str k=>∃kvs v,(Rd H p (.dK kvs)\/KD K P w p kvs)/\bK kvs (Sum.inr k)=some v/\Q v H
 |_,_=>False
theorem HF{slice:Expr}{a:Addr}{vs:List<|jf×Value}{k:jf}{J:Value}{v:V}{Q:VK}(I:qx X pins σ H s)(dd:s.heap.DictOf (v5 X.prog X.w) a vs)(U:lB k u=true)
 (hw:valueAt vs k=some J) (r:zv v J) (q:Q v H) (hs:subscripted slice false (.ref a) u=operate [.ref a,u] (getItem (.ref a) u)):wpAny (model X.prog X.w) X.A (subscriptTail value slice (.ref a) u) (EP X pins σ Q) X.xe s:=
 tail_any dd.typeIs DP.lookup (wpAny_getItem_of U dd.mapOf hw ⟨v,H,I.tok _,r,q⟩) hs
theorem NV:IxR X (HE X.K X.prog X.w):=by
 intro value slice J s T H x y v u Q I t C q g;cases x with
 |str z=>
  cases y with
  |int i=>
   obtain⟨h1,c,h2,h3⟩:=q;exact NB value slice J s T H _ _ v u Q I t C ⟨z,i,c,rfl,rfl,h1,h2,h3⟩ g
  |_=>exact q.elim
 |ref p=>
  cases y with
  |int i=>
   obtain⟨xs,j,h1,h2,h3⟩:=q;rcases h1 with h1|h1
   ·exact Nz value slice J s T H _ _ v u Q I t C ⟨p,xs,i,j,rfl,rfl,h1,h2,h3⟩ g
   ·exact NA value slice J s T H _ _ v u Q I t C ⟨p,xs,i,j,rfl,rfl,h1,h2,h3⟩ g
  |str k=>
   obtain⟨a1,j,h1,h2,h3⟩:=q;have l:zv (kV<|Sum.inr k) u:=C;cases (show v=Value.ref p from t);rcases h1 with h1|h1
   ·obtain⟨z,hd,vs,rel,r⟩:=oM I.hok h1;obtain⟨w2,hw,U⟩:=EM (v:=j) (o:=valueAt vs<|Sum.inr k) (by rw[<-h2];exact rel.val _);exact HF I r (jK (P:=X.prog) (w:=X.w) l) hw U h3 g
   ·obtain⟨hd,z,r⟩:=h1;obtain⟨vs,rel,r⟩:=r s.heap I.kIn;obtain⟨w2,hw,U⟩:=EM (v:=j) (o:=valueAt vs<|Sum.inr k) (by rw[<-h2];exact rel.val _);exact HF I r (jK (P:=X.prog) (w:=X.w) l) hw U h3 g
  |_=>exact q.elim
 |_=>cases y<;>exact q.elim
def NW(K:Af):List V->Hp->VK->Prop:=λxs H Q=>match xs with
 |[.str z]=>z.length<=sizeLine/\Q (.int z.length) H
 |[.ref p]=>∃ys,(aF K H p ys\/dS K H p ys)/\Q (.int ys.length) H
 |_=>False
theorem NX:jn X (.builtin "len") (NW X.K):=by
 intro J s U H j g Q I r h;obtain _|⟨x,_|⟨y,t⟩⟩:=j
 ·exact h.elim
 ·cases x with
  |str z=>exact qH J s U H _ g Q I r ⟨z,rfl,h.1,h.2⟩
  |ref p=>
   obtain⟨l,h1,h2⟩:=h;exact rG J s U H _ g Q I r ⟨p,l,rfl,h1,h2⟩
  |_=>exact h.elim
 ·cases x<;>exact h.elim
inductive Da where
 |s (v:V)
 |tup (xs:List Da)
 |lst (xs:List Da)
mutual
def Da.eq:Da->Da->Bool
 |.s v,.s w=>nI v w
 |.tup xs,.tup ys=>Da.eqs xs ys
 |.lst xs,.lst ys=>Da.eqs xs ys
 |_,_=>false
def Da.eqs:List Da->List Da->Bool
 |[],[]=>true
 |x::xs,y::ys=>Da.eq x y&&Da.eqs xs ys
 |_,_=>false
end
def vo(K:Af)(H:Hp):Nat->V->Da->Prop
 |0,v,d=>d=.s v/\a6 v=true
 |n+1,v,d=>(d=.s v/\a6 v=true)\/(∃a xs ds,v=.ref a/\d=.tup ds/\dS K H a xs/\Paired (vo K H n) xs ds)\/(∃a xs ds,v=.ref a/\d=.lst ds/\aF K H a xs/\Paired (vo K H n) xs ds)
theorem Da.eqs_range:∀(ds es:List Da),((List.range<|min ds.length es.length).all (λj=>Da.eq (ds.getD j<|.s .non)<|es.getD j<|.s .non)&&ds.length==es.length)=Da.eqs ds es
 |[],[]=>by simp[Da.eqs]
 |[],e::es=>by simp[Da.eqs]
 |d::ds,[]=>by simp[Da.eqs]
 |d::ds,e::es=>by
  have I:=Da.eqs_range ds es;rw[Da.eqs,<-I];have:min (d::ds).length (e::es).length=min ds.length es.length+1:=by simp only[AJ];lia
  rw[this,List.range_succ_eq_map,DY,List.all_map];have h2:((d::ds).length==(e::es).length)=(ds.length==es.length):=by simp
  rw[h2,Bool.and_assoc];rfl
abbrev EH:=@Da.eqs_range
theorem Paired.at{F:α->β->Prop}:∀{xs:List α} {ys:List β} {j:Nat} {x:α} {y:β},Paired F xs ys->xs[j]?=some x->ys[j]?=some y->F x y:=by
 intro xs ys j x y h
 induction h generalizing j with
 |nil=>intro h _;simp at h
 |cons r t I=>
  intro h1 h2;cases j with|zero=>simp at h1 h2;subst h1 h2;exact r|succ j=>exact I (j:=j) (by simpa using h1) (by simpa using h2)
abbrev EK:=@Paired.at
theorem ga:∀{v:V},a6 v=true->nI v v=true
 |.non,_=>rfl
 |.bl _,_=>by simp[nI]
 |.int _,_=>by simp[nI]
 |.str _,_=>by simp[nI]
theorem j9{a:Addr}(h:a6 (.ref a)=true):False:=by simp[a6] at h
theorem qx.notBoth(I:qx X pins σ H s){a:Addr}{ys:List V}(h:dS X.K H a xs)(h':aF X.K H a ys):False:=by
 obtain⟨j,_,⟨o,e,c,_⟩,_⟩:=I.tuple h;obtain⟨U,_,⟨l,p,g,J,_⟩,_⟩:=I.list h';rw[e] at g;cases g;rw[c] at J;injection J with J
 exact absurd J (by decide)
theorem rJ(I:qx X pins σ H s):∀(n:Nat) {m:Nat} {x:V} {d e:Da},vo X.K H n x d->vo X.K H m x e->Da.eq d e=true
 |0,m,x,d,e,h1,h2=>by
  obtain⟨rfl,f⟩:=h1;cases m with
  |zero=>obtain⟨rfl,_⟩:=h2;exact ga f
  |succ m=>
   rcases h2 with⟨rfl,_⟩|⟨a,g,j,rfl,_⟩|⟨a,g,j,rfl,_⟩
   ·exact ga f
   ·exact(j9 f).elim
   ·exact(j9 f).elim
 |n+1,m,x,d,e,h1,h2=>by
  have both:∀{g:List V} {j l:List Da} {m:Nat},Paired (vo X.K H n) g j->Paired (vo X.K H m) g l->Da.eqs j l=true:=by
   intro g j l m p
   induction p generalizing l with
   |nil=>intro q;cases q;rfl
   |cons r t ih=>
    intro q;cases q with|cons r' t'=>rw[Da.eqs,rJ I n r r',ih t'];rfl
  rcases h1 with⟨rfl,f⟩|⟨a,g,j,rfl,rfl,C,T⟩|⟨a,g,j,rfl,rfl,C,T⟩
  ·cases m with
   |zero=>obtain⟨rfl,_⟩:=h2;exact ga f
   |succ m=>
    rcases h2 with⟨rfl,_⟩|⟨a,g,j,rfl,_⟩|⟨a,g,j,rfl,_⟩
    ·exact ga f
    ·exact(j9 f).elim
    ·exact(j9 f).elim
  ·cases m with
   |zero=>exact(j9 h2.2).elim
   |succ m=>
    rcases h2 with⟨_,f⟩|⟨a',ys,l,o,rfl,J,U⟩|⟨a',ys,l,o,rfl,J,U⟩
    ·exact(j9 f).elim
    ·cases o;cases I.tuple_inj C J;exact both T U
    ·cases o;exact(I.notBoth C J).elim
  ·cases m with
   |zero=>exact(j9 h2.2).elim
   |succ m=>
    rcases h2 with⟨_,f⟩|⟨a',ys,l,o,rfl,J,U⟩|⟨a',ys,l,o,rfl,J,U⟩
    ·exact(j9 f).elim
    ·cases o;exact(I.notBoth J C).elim
    ·cases o;cases I.list_inj C J;exact both T U
theorem ja{a:Addr}{eA:Array Value}(p:PlainL h a eA):h.IsList a eA:=let ⟨o,n,e,c,_,d⟩:=p;⟨o,e,c,n,d⟩
theorem gq{ys:List V}{ds es:List Da}(px:Paired (vo X.K H n) xs ds)(py:Paired (vo X.K H m) ys es)(I:zw xs us)(J:zw ys vs)
 (p:∀{x y:V} {d e:Da} {u v:Value},vo X.K H n x d->vo X.K H m y e->zv x u->zv y v->SeqAt.EqAt A.in1 s u v (Da.eq d e)):
 ∀j (h1:j<us.toArray.size) (h2:j<vs.toArray.size),SeqAt.EqAt A.in1 s us.toArray[j] vs.toArray[j] (Da.eq (ds.getD j<|.s .non)<|es.getD j<|.s .non):=by
 intro j h1 h2;have C:=px.length;have T:=py.length;have l3:=I.length;have l4:=J.length;rw[Au] at h1 h2;have U:xs[j]?=some xs[j]:=Al (by lia);have g:ys[j]?=some ys[j]:=Al (by lia);have l:ds[j]?=some ds[j]:=Al (by lia);have o:es[j]?=some es[j]:=Al (by lia);have r:us[j]?=some us[j]:=Al (by lia);have t:vs[j]?=some vs[j]:=Al (by lia);rw[Bu,Bu,l,o];exact p (EK px U l) (EK py g o) (EK I U r)<|EK J g t
theorem ny{a b:Addr}{ys:List V}{ds es:List Da}(I:qx X pins σ H s)(g:A.units<cLine)(j:dS X.K H a xs)(l:dS X.K H b ys)(px:Paired (vo X.K H n) xs ds)(py:Paired (vo X.K H m) ys es)
 (o:∀{x y:V} {d e:Da} {u v:Value},vo X.K H n x d->vo X.K H m y e->zv x u->zv y v->SeqAt.EqAt A.in1 s u v (Da.eq d e)):SeqAt.RcAt A s (.ref a) (.ref b) (Da.eqs ds es):=by
 obtain⟨r,J,p,_⟩:=I.tuple j;obtain⟨t,U,ty,_⟩:=I.tuple l;have q:=SeqAt.RcAt.tuples p ty g<|gq px py J U o;rw[Au,Au,<-J.length,<-U.length,px.length,py.length,EH] at q;exact q
theorem sW{a b:Addr}{ys:List V}{ds es:List Da}(I:qx X pins σ H s)(l:A.units<cLine)(p:aF X.K H a xs)(r:aF X.K H b ys)(px:Paired (vo X.K H n) xs ds)(py:Paired (vo X.K H m) ys es)
 (t:∀{x y:V} {d e:Da} {u v:Value},vo X.K H n x d->vo X.K H m y e->zv x u->zv y v->SeqAt.EqAt A.in1 s u v (Da.eq d e)):SeqAt.RcAt A s (.ref a) (.ref b) (Da.eqs ds es):=by
 obtain⟨C,U,o,_⟩:=I.list p;obtain⟨T,j,ty,_⟩:=I.list r;by_cases g:C.toArray.size=T.toArray.size
 ·have q:=SeqAt.RcAt.lists (ja o) (ja ty) g l<|gq px py U j t;have J:ds.length=es.length:=by rw[<-px.length,<-py.length,U.length,j.length];simpa using g
  have e:=EH ds es;rw[J,Nat.min_self] at e;rw[<-J] at e;rw[Au,<-U.length,px.length] at q;simp only[beq_self_eq_true,Bool.and_true] at e;rw[e] at q;exact q
 ·have q:=SeqAt.RcAt.lists_lengths (ja o) (ja ty) (by simpa using g) l;have J:ds.length≠es.length:=by rw[<-px.length,<-py.length,U.length,j.length];intro z;exact g (by simpa using z)
  have e:=EH ds es;have f:(ds.length==es.length)=false:=by simpa using J
  rw[f,Bool.and_false] at e;rw[<-e];exact q
theorem mX(I:qx X pins σ H s):∀(n:Nat) {m:Nat} {A:Around} {x y:V} {d e:Da} {u v:Value},A.units+n<cLine->vo X.K H n x d->vo X.K H m y e->zv x u->zv y v->SeqAt.EqAt A s u v (Da.eq d e):=by
 have J:∀{A:Around} {x:V} {u:Value} {b:Addr} {p:List V},A.units<cLine->a6 x=true->zv x u->(dS X.K H b p\/aF X.K H b p)->SeqAt.EqAt A s u (.ref b) false/\SeqAt.EqAt A s (.ref b) u false:=by
  intro A x u b p g f r h;have h':(∃C,s.heap.IsTuple b C)\/∃C,s.heap.IsList b C:=by
   rcases h with h|h
   ·obtain⟨C,_,t,_⟩:=I.tuple h;exact .inl ⟨_,t⟩
   ·obtain⟨C,_,t,_⟩:=I.list h;exact .inr ⟨_,ja t⟩
  cases x with
  |non=>cases r;rcases h' with⟨_,t⟩|⟨_,t⟩;exact⟨.none_tuple t g,.tuple_none t g⟩;exact⟨.none_list t g,.list_none t g⟩
  |bl k=>cases r;rcases h' with⟨_,t⟩|⟨_,t⟩;exact⟨.bool_tuple k t g,.tuple_bool k t g⟩;exact⟨.bool_list k t g,.list_bool k t g⟩
  |int k=>obtain⟨tk,rfl⟩:=r;rcases h' with⟨_,t⟩|⟨_,t⟩;exact⟨.int_tuple k tk t g,.tuple_int k tk t g⟩;exact⟨.int_list k tk t g,.list_int k tk t g⟩
  |str k=>obtain⟨tk,rfl⟩:=r;rcases h' with⟨_,t⟩|⟨_,t⟩;exact⟨.str_tuple k tk t g,.tuple_str k tk t g⟩;exact⟨.str_list k tk t g,.list_str k tk t g⟩
  |_=>simp[a6] at f
 intro n
 induction n with
 |zero=>
  intro m A x y d e u v g h1 h2 T j;obtain⟨rfl,f⟩:=h1;cases m with
  |zero=>obtain⟨rfl,l⟩:=h2;exact mH T j f l
  |succ m=>
   rcases h2 with⟨rfl,l⟩|⟨b,p,es,rfl,rfl,U,py⟩|⟨b,p,es,rfl,rfl,U,py⟩
   ·exact mH T j f l
   ·cases j;exact(J (by lia) f T<|.inl U).1
   ·cases j;exact(J (by lia) f T<|.inr U).1
 |succ n ih=>
  intro m A x y d e u v g h1 h2 T j;have a3:A.in1.units+n<cLine:=by show A.units+1+n<cLine;lia
  rcases h1 with⟨rfl,f⟩|⟨a,xs,ds,rfl,rfl,o,px⟩|⟨a,xs,ds,rfl,rfl,o,px⟩
  ·cases m with
   |zero=>obtain⟨rfl,l⟩:=h2;exact mH T j f l
   |succ m=>
    rcases h2 with⟨rfl,l⟩|⟨b,p,es,rfl,rfl,U,py⟩|⟨b,p,es,rfl,rfl,U,py⟩
    ·exact mH T j f l
    ·cases j;exact(J (by lia) f T<|.inl U).1
    ·cases j;exact(J (by lia) f T<|.inr U).1
  ·cases T;cases m with
   |zero=>obtain⟨rfl,l⟩:=h2;exact(J (by lia) l j<|.inl o).2
   |succ m=>
    rcases h2 with⟨rfl,l⟩|⟨b,p,es,rfl,rfl,U,py⟩|⟨b,p,es,rfl,rfl,U,py⟩
    ·exact(J (by lia) l j<|.inl o).2
    ·cases j;by_cases a1:a=b
     ·subst a1;cases I.tuple_inj o U;have e:Da.eq (.tup ds) (.tup es)=true:=rJ I (n+1) (m:=m+1) (x:=.ref a) (.inr<|.inl ⟨a,xs,ds,rfl,rfl,o,px⟩)<|.inr<|.inl ⟨a,xs,es,rfl,rfl,U,py⟩;rw[e];exact .same _
     ·exact .of_refs a1<|ny I (by lia) o U px py λh1 h2 r1 r2=>ih a3 h1 h2 r1 r2
    ·cases j;obtain⟨us,vx,tx,_⟩:=I.tuple o;obtain⟨vs,vy,ty,_⟩:=I.list U;exact .tuple_list tx (ja ty) (by lia)
  ·cases T;cases m with
   |zero=>obtain⟨rfl,l⟩:=h2;exact(J (by lia) l j<|.inr o).2
   |succ m=>
    rcases h2 with⟨rfl,l⟩|⟨b,p,es,rfl,rfl,U,py⟩|⟨b,p,es,rfl,rfl,U,py⟩
    ·exact(J (by lia) l j<|.inr o).2
    ·cases j;obtain⟨us,vx,tx,_⟩:=I.list o;obtain⟨vs,vy,ty,_⟩:=I.tuple U;exact .list_tuple (ja tx) ty (by lia)
    ·cases j;by_cases a1:a=b
     ·subst a1;cases I.list_inj o U;have e:Da.eq (.lst ds) (.lst es)=true:=rJ I (n+1) (m:=m+1) (x:=.ref a) (.inr<|.inr ⟨a,xs,ds,rfl,rfl,o,px⟩)<|.inr<|.inr ⟨a,xs,es,rfl,rfl,U,py⟩;rw[e];exact .same _
     ·exact .of_refs a1<|sW I (by lia) o U px py λh1 h2 r1 r2=>ih a3 h1 h2 r1 r2
def NY(K:Af)(k:Nat):R2:=λx y H Q=>match x,y with
 |.ref a,.ref b=>∃n m d e,n<=k/\vo K H n (.ref a) d/\vo K H m (.ref b) e/\Q (.bl<|Da.eq d e) H
 |x,y=>Fm x y=true/\Q (.bl<|decide<|x=y) H
theorem NZ{k:Nat}(hu:X.A.units+k<cLine):wg X (compareOp .Eq) (NY X.K k):=by
 intro J s o H x y v u Q I p t h;cases x with
 |ref a=>
  cases y with
  |ref b=>
   obtain⟨n,m,d,e,hn,h1,h2,q⟩:=h;cases p;cases t;have x8:∀{k:Bool},k=Da.eq d e->SeqAt.RcAt X.A s (.ref a) (.ref b) k->wpAny (model X.prog X.w) X.A (compareOp .Eq (.ref a)<|.ref b) (EP X J o Q) X.xe s:=λ{k} e' r=>
    r X.prog X.w X.xe (EP X J o Q) (by rw[e'];exact⟨.bl _,H,I,rfl,q⟩)
   cases n with
   |zero=>exact(j9 h1.2).elim
   |succ n=>
    cases m with
    |zero=>exact(j9 h2.2).elim
    |succ m=>
     have j:X.A.in1.units+n<cLine:=by show X.A.units+1+n<cLine;lia
     rcases h1 with⟨_,f⟩|⟨a',xs,ds,C,rfl,l,T⟩|⟨a',xs,ds,C,rfl,l,T⟩
     ·exact(j9 f).elim
     ·cases C;rcases h2 with⟨_,f⟩|⟨b',ys,es,U,rfl,g,py⟩|⟨b',ys,es,U,rfl,g,py⟩
      ·exact(j9 f).elim
      ·cases U;exact x8 rfl<|ny I (by lia) l g T py λh1 h2 r1 r2=>mX I n j h1 h2 r1 r2
      ·cases U;obtain⟨us,vx,tx,_⟩:=I.tuple l;obtain⟨vs,vy,ty,_⟩:=I.list g;exact x8 rfl<|.tuple_list tx (ja ty) (by lia)
     ·cases C;rcases h2 with⟨_,f⟩|⟨b',ys,es,U,rfl,g,py⟩|⟨b',ys,es,U,rfl,g,py⟩
      ·exact(j9 f).elim
      ·cases U;obtain⟨us,vx,tx,_⟩:=I.list l;obtain⟨vs,vy,ty,_⟩:=I.tuple g;exact x8 rfl<|.list_tuple (ja tx) ty (by lia)
      ·cases U;exact x8 rfl<|sW I (by lia) l g T py λh1 h2 r1 r2=>mX I n j h1 h2 r1 r2
  |_=>exact Hl J s o H _ _ v u Q I p t h
 |_=>cases y<;>exact Hl J s o H _ _ v u Q I p t h
theorem N0{c:Addr}(I:Gl X x)(J:X.mg x=some (.ref c))(hd:Ey x:=by decide):PE X (.Name x pos) (tC<|.ref c):=Lq I J (v:=.ref c) rfl hd
theorem N4{T:String}(I:Gl X x)(J:X.mg x=none)(U:bootBuiltins x=some (.type T))(g:x ≠ "__name__" := by decide)(hd:Ey x:=by decide):PE X (.Name x pos) (tC<|.ty T):=Lr I J U (v:=.ty T) rfl g hd
structure Cal(P:Program)(w:World)(K:Af)(mg:Str->Option Value)(base:Heap)(k:Nat)(x:Str)(ps:List Str)(sp:Sp):Prop where
 ex:∃f fd,ay P w K mg base CX0 k f fd ps sp/\dR K fd ps []/\PySem.W.keepIn K (.ref f)=true/\mg x=some (.ref f)
theorem N5{k:Nat}{t:TA}{p:Pos}(c:Cal X.prog X.w X.K X.mg X.base k x ps sp)(U:kz k X.A)(g:Gl X x)(j:PA X (e::es) t)(I:Ey x:=by decide)
 (l:Ew e es X:=by rfl) (J:Ex pos es X:=by rfl):PE X (.Call (.Name x p) (e::es) [] pos) (Ho sp [] E0 t):=by
 obtain⟨f,fd,F,b,o,m⟩:=c.ex;exact M6 F U g m o b .nil NO j I l J
theorem Cal.mono{P:Program}{w:World}{K:Af}{k:Nat}(c:Cal P w K mg base j x ps sp)(h:j<=k):Cal P w K mg base k x ps sp:=by obtain⟨f,fd,F,b,I,m⟩:=c.ex;exact⟨f,fd,F.mono h,b,I,m⟩
end L2
variable {ds:List L2.Da}
namespace L2
open PySem PySem.Spec PyProof.Rows
def nH(env:Env):List (Str×NameKind)->List (Str×Addr)->List (Str×Addr)
 |[],cs=>cs
 |(n,k)::r,cs=>nH env r<|if k==.free then(n,(env.cells.lookup n).getD 0)::cs else cs
def fW(scope:Scope)(env:Env):List (Str×Addr):=nH env scope.names []
theorem uA{env:Env}:∀{names:List<|Str×NameKind} {cs:List<|Str×Addr} {p:Str×Addr},p∈nH env names cs->p∈cs\/((p.1,NameKind.free)∈names/\p.2=(env.cells.lookup p.1).getD 0)
 |[],_,_,h=>.inl h
 |(n,k)::r,cs,p,h=>by
  rcases uA (names:=r) h with q|⟨q,e⟩
  ·by_cases I:(k==NameKind.free)=true
   ·rw[AB I] at q;rcases Am.mp q with rfl|q
    ·have:k=.free:=by simpa using I
     exact .inr ⟨by rw[this];exact Ak,rfl⟩
    ·exact .inl q
   ·rw[AC I] at q;exact .inl q
  ·exact .inr ⟨Ac _ q,e⟩
theorem sF{env:Env}{x:Str}:∀{names:List<|Str×NameKind} {cs:List<|Str×Addr},((∃c,(x,c)∈cs)\/(x,NameKind.free)∈names)->∃c,(x,c)∈nH env names cs
 |[],_,.inl h=>h
 |[],_,.inr h=>by simp at h
 |(n,k)::r,cs,h=>by
  refine sF (names:=r) ?_;rcases h with⟨c,h⟩|h
  ·left;by_cases I:(k==NameKind.free)=true
   ·rw[AB I];exact⟨c,Ac _ h⟩
   ·rw[AC I];exact⟨c,h⟩
  ·rcases Am.mp h with e|h
   ·left;injection e with J U
    subst J;subst U;exact⟨_,Ak⟩
   ·exact .inr h
theorem fb{x:Str}:∀{l:List<|Str×Addr} {c:Addr},(x,c)∈l->∃c',l.lookup x=some c'
 |(n,d)::r,c,h=>by
  rw[BB];cases I:x==n with
  |true=>exact⟨d,rfl⟩
  |false=>
   rcases Am.mp h with e|h
   ·injection e with J _;subst J;simp at I
   ·exact fb h
theorem kA(h:∀n,(n,NameKind.free)∈scope.names->∃c,env.cells.lookup n=some c):closureFor scope env=pure (fW scope env):=by
 unfold closureFor fW;have key:∀(names:List<|Str×NameKind) (I:List<|Str×Addr),(∀n,(n,NameKind.free)∈names->∃c,env.cells.lookup n=some c)->
  (forIn names I λx (r:List<|Str×Addr)=>(match x with|(name,kind)=>if kind==NameKind.free then do let a <-cellOf env name;pure (ForInStep.yield<|(name,a)::r) else pure (ForInStep.yield r):Sem<|ForInStep<|List<|Str×Addr))=pure (nH env names I):=by
  intro names
  induction names with
  |nil=>intro I _;rfl
  |cons p r o=>
   intro I J;obtain⟨n,k⟩:=p;rw[Cm];cases U:k==NameKind.free with
   |true=>
    have g:k=.free:=by simpa using U
    subst g;obtain⟨c,t⟩:=J n Ak;have e:cellOf env n=pure c:=by unfold cellOf;rw[t]
    simp only[beq_self_eq_true,if_true,e];have j:nH env ((n,NameKind.free)::r) I=nH env r ((n,c)::I):=by show nH env r _=_;rw[t];rfl
    rw[j];exact o ((n,c)::I) λm l=>J m<|Ac _ l
   |false=>
    simp only[U,BV,if_false];have j:nH env ((n,k)::r) I=nH env r I:=by show nH env r (if (k==NameKind.free)=true then _ else _)=_;rw[U];rfl
    rw[j];exact o I λm l=>J m<|Ac _ l
 exact(BF (· >>= pure)<|key scope.names [] h)
theorem wy{env:Env}{x:Str}:∀{names:List<|Str×NameKind},
 (names.map λ(n,k)=>if (k==NameKind.free&&env.scope.kind==.function&&env.kindOf n==some .cell) then(n,NameKind.cell) else(n,k)).lookup x
  = (names.lookup x).map λk=>if (k==NameKind.free&&env.scope.kind==.function&&env.kindOf x==some .cell) then NameKind.cell else k
 |[]=>rfl
 |(n,k)::r=>by
  have g:=@wy env x r;show List.lookup x ((if (k==NameKind.free&&env.scope.kind==.function&&env.kindOf n==some .cell)=true then(n,NameKind.cell) else(n,k))::_)=_;cases J:x==n with
  |true=>
   have U:x=n:=by simpa using J
   subst U;by_cases I:(k==NameKind.free&&env.scope.kind==.function&&env.kindOf x==some .cell)=true
   ·rw[AB I];simp only[BB,beq_self_eq_true,Option.map_some];rw[AB I]
   ·rw[AC I];simp only[BB,beq_self_eq_true,Option.map_some];rw[AC I]
  |false=>
   by_cases I:(k==NameKind.free&&env.scope.kind==.function&&env.kindOf n==some .cell)=true
   ·rw[AB I];simp only[BB,J];exact g
   ·rw[AC I];simp only[BB,J];exact g
def Cx.comp(X:Cx)(scope:Scope)(T:List Str)(C:Addr)(fp:List Addr)(s₀:Shared)(H₀:Hp):Cx:=
 { X with N:=X.N++T,s₀:=s₀,H₀:=H₀,env:=compEnvC scope (fW scope X.env) C X.env,outer:=X.stack,ex:=fp,fn:=λ_=>false,xe:=λ_ _=>False }
structure jl(X:Cx)(scope:Scope):Prop where
 kind:scope.kind=.function
 nocell:∀y∈scope.names,y.2≠.cell
 names:∀y∈scope.names,y.2=.local->scope.names.lookup y.1=some .local
 free:∀n,scope.names.lookup n=some .free->X.env.kindOf n=some .cell\/X.env.kindOf n=some .free
 freeM:∀n,(n,NameKind.free)∈scope.names->X.env.kindOf n=some .cell\/X.env.kindOf n=some .free
 apart:∀x∈X.N,scope.names.lookup x≠some .local
theorem jl.clo(S:jl X scope)(I:qx X pins σ H s):closureFor scope X.env=pure (fW scope X.env):=
 kA λn h=>I.ok.has n<|S.freeM n h
theorem jl.cl_old(S:jl X scope)(I:qx X pins σ H s){c:Addr}(h:(fW scope X.env).lookup x=some c):X.env.cells.lookup x=some c:=by
 rcases uA (BD h) with q|⟨q,e⟩
 ·simp at q
 ·obtain⟨d,hd⟩:=I.ok.has x<|S.freeM x q;have J:c=(X.env.cells.lookup x).getD 0:=e;rw[hd] at J ⊢;rw[J];rfl
theorem jl.cl_has(_:jl X scope)(h:scope.names.lookup x=some .free):∃c,(fW scope X.env).lookup x=some c:=by obtain⟨c,I⟩:=sF (env:=X.env) (names:=scope.names) (cs:=[]) (x:=x)<|.inr<|BD h;exact fb I
theorem jl.kindOf(S:jl X scope)(h:(compEnvC scope (fW scope X.env) C X.env).kindOf x=some .cell\/(compEnvC scope (fW scope X.env) C X.env).kindOf x=some .free):scope.names.lookup x=some .free:=by
 have e:(compEnvC scope (fW scope X.env) C X.env).kindOf x=(scope.names.lookup x).map λk=>if (k==NameKind.free&&X.env.scope.kind==.function&&X.env.kindOf x==some .cell) then NameKind.cell else k:=wy
 rw[e] at h;cases I:scope.names.lookup x with
 |none=>rw[I] at h;rcases h with h|h<;>cases h
 |some k=>
  rw[I] at h;cases k with|free=>rfl|cell=>exact absurd rfl (S.nocell _<|BD I)|_=>rcases h with h|h<;>cases h
theorem jl.vis(S:jl X scope)(U:x∈X.N)(h:y_ (compEnvC scope (fW scope X.env) C X.env).scope x):scope.names.lookup x=some .free:=by
 rcases h with h|h|h
 ·exfalso;have e:(compEnvC scope (fW scope X.env) C X.env).kindOf x=(scope.names.lookup x).map λk=>if (k==NameKind.free&&X.env.scope.kind==.function&&X.env.kindOf x==some .cell) then NameKind.cell else k:=wy
  have I:(compEnvC scope (fW scope X.env) C X.env).kindOf x=some .local:=h;rw[e] at I;cases J:scope.names.lookup x with
  |none=>rw[J] at I;cases I
  |some k=>
   rw[J] at I;have I:(if (k==NameKind.free&&X.env.scope.kind==.function&&X.env.kindOf x==some .cell)=true then NameKind.cell else k)=.local:=Bc I;split at I
   ·cases I
   ·subst I;exact S.apart x U J
 ·exact S.kindOf (C:=C)<|.inl h
 ·exact S.kindOf (C:=C)<|.inr h
theorem jl.back(S:jl X scope)(h:scope.names.lookup x=some .free):(compEnvC scope (fW scope X.env) C X.env).kindOf x=some .cell\/(compEnvC scope (fW scope X.env) C X.env).kindOf x=some .free:=by
 have e:(compEnvC scope (fW scope X.env) C X.env).kindOf x=(scope.names.lookup x).map λk=>if (k==NameKind.free&&X.env.scope.kind==.function&&X.env.kindOf x==some .cell) then NameKind.cell else k:=wy
 rw[e,h];show some (if _ then _ else _)=_\/some (if _ then _ else _)=_;split
 ·exact .inl rfl
 ·exact .inr rfl
def PF(X:Cx)(kt:List Expr)(t:TT):Prop:=
 ∀(pins:List<|Addr×Obj) (s:Shared) (σ:St) (H:Hp) (Q:Bool->Hp->Prop),qx X pins σ H s->t σ H Q->
  wpAny (model X.prog X.w) X.A (forIn kt true λc r=>if r=true then do let ok <-isTrue c X.env (eval c X.env);pure (ForInStep.yield ok) else pure (ForInStep.yield r)) (TP X pins σ Q) X.xe s
def N6:TT:=λ_ H Q=>Q true H
theorem N7 :PF X [] N6:=λ_ _ _ H _ I h=>Ah ⟨H,I,h⟩
theorem N8{c:Expr}{t:TT}(hc:PT X c t):PF X [c] t:=by intro J s U H Q I h;rw[Cm];simp only[if_true];refine Aa<|Aa<|aE (hc J s U H Q I h) λb g q=>Ah ?_;exact Ah q
theorem fS{w:World}{R:Result->Shared->Prop}{iter:Expr}{it C:Value}(I:Nat->Shared->Prop)
 (turn:∀n s,I n s->wpAny (model prog w) A (pyNext it) (λr J=>match r with
  |none=>R (.ok .next) J
  |some v=>wpAny (model prog w) A (letOwnedTupleGo target it v) (λ_ J=>wpAny (model prog w) A (assign target env v) (λ_ l=>
   wpAny (model prog w) A (forIn kt true λc r=>if r=true then do let ok <-isTrue c env (eval c env);pure (ForInStep.yield ok) else pure (ForInStep.yield r)) (λok g=>
    if ok=true then wpAny (model prog w) A (eval ln env) (λx o=>
     wpAny (model prog w) A (call (.builtin "list.append") [C,x]) (λ_ p=>∃m,m<n/\I m p) (λ_ _=>False) o) (λ_ _=>False) g
    else ∃m,m<n/\I m g) (λ_ _=>False) l) (λ_ _=>False) J) (λ_ _=>False) J) (λ_ _=>False) s)
 (n:Nat) (h:I n s):
 codeAny (model prog w) A (.compLoop (.ListComp ln [⟨target,iter,kt,0⟩] scope pos) 0 it C env) R s:=by
 refine codeAny_loop rfl I (λn s hI=>?_) n h;show wpAny _ A ((compTurn (.ListComp ln [⟨target,iter,kt,0⟩] scope pos) 0 it C env).onRaise (λx=>do noteFrame x env;theTreesLotGoes x)) _ _ s;refine wpAny_noted ?_;rw[compTurn_list];refine Aa<|wpAny_standAt<|Aa<|AX (turn n s hI) (λr J U=>?_) λ_ _ j=>j.elim;cases r with
 |none=>exact Ah U
 |some v=>
  refine Aa<|AX U (λ_ J U=>?_) λ_ _ j=>j.elim;refine Aa<|AX U (λ_ l T=>Aa<|AX T (λok g t=>?_) λ_ _ j=>j.elim) λ_ _ j=>j.elim;cases ok with
  |false=>exact Ah ⟨rfl,t⟩
  |true=>
   exact Aa<|Aa<|AX t (λx o a1=>Aa<|AX a1 (λ_ p a3=>Ah<|Ah ⟨rfl,a3⟩) λ_ _ j=>j.elim) λ_ _ j=>j.elim
def F8(n:Nat)(wi:TI)(g:TG)(tc:TT)(te:TE):TE:=λσ H Q=>wi σ H λJ H1=>∃W:Nat->Nat->List V->Hp->Prop,(∃m,W 0 m [] H1)/\∀i m ys H,W i m ys H->
 (J.stop i H/\ys.length<=sizeLine/\∀D,H D=none->Q (.ref D) (upd H D<|.lst ys))\/
 (J.go i H/\ys.length<sizeLine/\∀x H',J.yld i H x H'->g x (σ++List.replicate n none) H' λI H2=>tc I H2 λb j=>
  if b=true then te I j λy l=>∃U,U<m/\W (i+1) U (ys++[y]) l else ∃U,U<m/\W (i+1) U ys j)
def sh(g:TG)(n k:Nat):Prop:=∀(σ:St),σ.length=n->∀x H Q,g x (σ++List.replicate k none) H Q->
 g x (σ++List.replicate k none) H λI H2=>((I.length=n+k/\∀(i:Nat) v,(σ++List.replicate k none)[i]?=some (some v)->I[i]?=some (some v))/\Q I H2)
section
variable {T:List Str}{iter:Expr}{g:TG}{te:TE}
theorem ltN{b:Addr}{o:Obj}(e:h.get? b=some o):@LT.lt Nat instLTNat b h.objs.size:=um e
theorem uX{a b:Addr}(h:@Ne Nat a b):a≠b:=h
theorem u_{a b:Addr}(h:@LE.le Nat instLENat a b):a<=b:=h
theorem N9(eA:List Value)(n:Nat)(u:Value):∃I,Obj.mapSeq (·.push u) { cls:=.type "list",data:=.seq eA.toArray n }=({ cls:=.type "list",data:=.seq (eA++[u]).toArray I }:Obj):=
 ⟨_,by simp[Obj.mapSeq];rfl⟩
theorem vV{w:World}(I:s.heap.get? D=some { cls:=.type "list",data:=.seq eA.toArray n })
 (hz:eA.length<=sizeLine) (h:∀h' J,Heap.SameBut D s.heap h'->h'.get? D=some { cls:=.type "list",data:=.seq (eA++[u]).toArray J }->Q .none { s with heap:=h' }):
 wpAny (model prog w) A (call (.builtin "list.append") [.ref D,u]) Q E s:=by
 have g:s.heap.IsList D eA.toArray:=⟨_,I,rfl,n,rfl⟩;refine wpAny_call_entry slot_list_append g.typeIs entry_list_append ?_<|args_list_append _ _;show wpAny _ _ (updateSeq D (·.push u) >>= λ_=>ret .none) _ _ s;refine Aa ?_;obtain⟨J,U⟩:=N9 eA n u;refine wpAny_updateSeq (f:=(·.push u)) I rfl (Ah ⟨.none,rfl,h _ J (xT ..) ?_⟩) (by rw[Au];exact hz) (by rw[Bl,Au];exact Dw hz);rw[<-U];exact At _ I (by rw[U];rfl)
theorem lU{Q:VK}{bS:Value}{I:Shared}{RR:Value->Addr->Result->Shared->Prop}
 (S:jl X scope) (hc:X.calm=true)
 (hg:∀C fp s₀ H₀,PG (X.comp scope T C fp s₀ H₀) target g) (dj:sh g X.N.length T.length) (hf:∀C fp s₀ H₀,PF (X.comp scope T C fp s₀ H₀) kt tc) (he:∀C fp s₀ H₀,PE (X.comp scope T C fp s₀ H₀) ln te)
 (h:FQ X pins σ target (λJ H1=>∃W:Nat->Nat->List V->Hp->Prop,(∃m,W 0 m [] H1)/\∀i m ys H,W i m ys H->
  (J.stop i H/\ys.length<=sizeLine/\∀D,H D=none->Q (.ref D) (upd H D<|.lst ys))\/
  (J.go i H/\ys.length<sizeLine/\∀x H',J.yld i H x H'->g x (σ++List.replicate T.length none) H' λca H2=>tc ca H2 λb H3=>
   if b=true then te ca H3 λy H4=>∃m',m'<m/\W (i+1) m' (ys++[y]) H4 else ∃m',m'<m/\W (i+1) m' ys H3)) bS I)
 (dp:∀D C s' H' m',qx X pins σ H' s'->jZ X pins H' C->s'.heap.Ns C m'->Q (.ref D) H'->RR (.ref D) C (.ok .next) s'):
 wpAny (model X.prog X.w) X.A (newList []) (λcb av=>wpAny (model X.prog X.w) X.A (newFunctionEnv scope X.env.globals (fW scope X.env) [] X.env.qual none .none<|some X.env) (λbe ck=>
  codeAny (model X.prog X.w) X.A (.compStart (.ListComp ln [⟨target,iter,kt,0⟩] scope pos) 0 bS cb { be with scope:=relabel scope X.env }) (RR cb be.locals) ck) E av) E I:=by
 obtain⟨it,fp,tn,J,H2,rfl,U,Tn,bf,f2,W,⟨m0,w0⟩,turn⟩:=h;refine Br (wpAny_newFunctionEnv S.nocell (by intro y hy;simp at hy) (λaR al t=>?_) S.kind);dsimp only at al t ⊢;generalize bg:I.heap.push { cls:=.type "list",dict:=none,data:=.seq ([]:List Value).toArray }=G at al t ⊢;have hC:G.objs.size=I.heap.objs.size+1:=by rw[<-bg,EZ]
 obtain⟨D,eD⟩:∃D,I.heap.objs.size=D:=⟨_,rfl⟩;obtain⟨C,eC⟩:∃C,G.objs.size=C:=⟨_,rfl⟩;rw[eD] at hC ⊢;rw[eC] at hC al t ⊢;have bh:D≠C:=by lia
 have old:∀b o,I.heap.get? b=some o->aR.get? b=some o:=λb o e=>by have j:=ltN e;exact t.extBut b o (uX (by lia))<|sy _<|bg▸sy _ e
 have cl:aR.get? D=some { cls:=.type "list",data:=.seq ([]:List Value).toArray 0 }:=by refine t.extBut _ _ bh<|sy _ ?_;rw[<-bg,<-eD];exact vb _ rfl
 have bi:∀b∈fp,@LT.lt Nat instLTNat b I.heap.objs.size:=λb j=>by obtain⟨o,e,_⟩:=Tn.obj _ _ bf b j;exact ltN e
 have cm:@LT.lt Nat instLTNat X.env.locals I.heap.objs.size:=U.lt;have ek:X.s₀.heap.objs.size<=I.heap.objs.size:=U.sz;have HD:H2 D=none:=U.hok.fresh<|u_ (by exact uo);have HC:H2 C=none:=U.hok.fresh<|u_ (by lia);have dv:∀b:Addr,@LE.le Nat instLENat I.heap.objs.size b->b∉bT X.stack:=λb j z=>by
  have q:=U.stkSub b z;rcases Am.mp q with q|q
  ·rw[<-q] at cm;exact absurd cm<|Nat.not_lt.mpr j
  ·exact U.nofs j q
 have ba:∀x c,X.env.cells.lookup x=some c->@LT.lt Nat instLTNat c I.heap.objs.size:=λx c e=>by obtain⟨v,q⟩:=U.cell x c e;exact q.lt
 let X':Cx:=X.comp scope T C fp I H2
 have bj:X'.Ok:={
  mod:=U.ok.mod,kind:=S.kind,glob:=U.ok.glob,blt:=U.ok.blt
  above:=u_ (by show @LE.le Nat instLENat I.heap.objs.size C;lia)
  inj:=λx y c h1 h2=>U.ok.inj x y c (S.cl_old U h1) (S.cl_old U h2)
  has:=λx hx=>S.cl_has (S.kindOf hx)
  cab:=λx c hx=>absurd (show false=true from hx) (by simp)
  hd:=U.ok.hd,frames:=U.ok.frames,stk:=.inl rfl
  exf:=λb j=>⟨uX (by have:=bi b j;show @Ne Nat b C;lia),λx c e=>(f2 b j).2.2.2.2.1 x c<|S.cl_old U e⟩
  bs:=U.bs,bsz:=AZ U.ok.bsz U.sz
  noex:=λb o e j=>by
   obtain⟨e0,n0⟩:=U.ok.bs b o e;rcases (f2 b j).2.2.2.1 with q|q
   ·exact U.ok.noex b o e q
   ·have q':@LE.le Nat instLENat X.s₀.heap.objs.size b:=q;have:=ltN e0;lia
  exfs:=λb j z=>by
   rcases Am.mp (U.stkSub b z) with q|q
   ·exact(f2 b j).2.1 q
   ·exact(f2 b j).2.2.1 q
  funs:=U.stack,frf:=U.stkFree }
 have I4:∀tk,0<tk->qx X' pins (σ++List.replicate T.length none) H2 { I with heap:=aR,toks:=tk }:=λtk dG=>{
  tk:=dG,ok:=bj,os:=rfl,bare:=U.bare,base:=Un.kept old
  loc:=⟨_,al,λi x v e1 e2 e3=>by
   have hi:i<σ.length:=by
    by_cases hi:i<σ.length
    ·exact hi
    ·rw[Av (by exact yq),Dg] at e2;split at e2<;>cases e2
   rw[AF hi] at e2;have dH:i<X.N.length:=by rw[<-U.len];exact hi
   have cn:X.N[i]?=some x:=by have:(X.N++T)[i]?=some x:=e1;rw[AF dH] at this;exact this
   have bn:=S.vis (Az cn) e3;obtain⟨m,hn,hl⟩:=U.loc;have hk:=S.free x bn;obtain⟨u,r,l⟩:=hl i x v cn e2<|.inr hk;refine⟨u,r,.inr ⟨S.back bn,?_⟩⟩;rcases l with⟨l,_⟩|⟨_,c,e,z⟩
   ·rw[l] at hk;rcases hk with q|q<;>cases q
   ·obtain⟨c',e'⟩:=S.cl_has bn;have cq:=S.cl_old U e';rw[e] at cq;cases cq;exact⟨c,e',z.keeps old⟩⟩
  cell:=λx c e=>by obtain⟨v,z⟩:=U.cell x c<|S.cl_old U e;exact⟨v,z.keeps old⟩
  free:=HC,freeC:=λx c e=>U.freeC x c (S.cl_old U e)
  pin:=λp hp=>by
   obtain⟨a,b,c,d,e⟩:=U.pin p hp;have dV:=ltN a;refine⟨old _ _ a,b,uX (by show @Ne Nat p.1 C;lia),λz=>?_,e⟩;rcases Am.mp (U.stkSub _ z) with q|q
   ·exact c q
   ·exact d q
  hok:=U.hok.kept old
  len:=by show(σ++_).length=(X.N++T).length;rw[Ad,Ad,Cj,U.len] }
 have bp:∀(ax:List<|Addr×Obj) (H':Hp),(∀p∈ax,p∈pins\/p.1=D)->(∀b∈fp,H' b=none)->∀b∈fp,jZ X' ax H' b:=λax H' hp hn b j=>by
  obtain⟨_,q1,q2,q3,q4,q5⟩:=f2 b j;have dV:=bi b j;refine⟨hn b j,uX (by show @Ne Nat b C;lia),bj.exfs b j,.inl j,(bj.exf b j).2,λp e4=>?_⟩;rcases Aj.mp e4 with z|z
  ·exact q5 p<|Ap _ z
  ·rcases hp p z with z|z
   ·exact q5 p<|Ai _ z
   ·rw[z];exact uX (by lia)
 have stay:Tn.keep=Tn.keep:=rfl;have loop:∀av:Shared,av={ I with heap:=aR,toks:=I.toks+([]:List<|Str×Value).length }->
  codeAny (model X.prog X.w) X.A (.compLoop (.ListComp ln [⟨target,iter,kt,0⟩] scope pos) 0 (.ref it) (.ref D) X'.env) (RR (.ref D) C) av:=by
  rintro av rfl;refine fS (λn s'=>∃i bq H' ys au k,qx X' pins bq H' s'/\(bq.length=X.N.length+T.length/\∀(i:Nat) v,(σ++List.replicate T.length none)[i]?=some (some v)->bq[i]?=some (some v))/\
   s'.heap.get? D=some { cls:=.type "list",data:=.seq (au:List Value).toArray k }/\zw ys au/\H' D=none/\tn i s'.heap/\(∀b∈fp,H' b=none)/\W i n ys H') ?_ m0
   ⟨0,_,H2,[],[],0,I4 _ U.tk,⟨by rw[Ad,Cj,U.len],λ_ _ e=>e⟩,cl,.nil,HD,Tn.keep _ _ _ bf λb _ o e=>old b o e,λb j=>(f2 b j).1,w0⟩
  rintro n s3 ⟨i,el,H3,ys,au,k,I3,⟨e5,e6⟩,e7,bc,bd,cv,cw,w3⟩;have ej:au.length=ys.length:=bc.length.symm;have cy:D∉X'.fs:=dv D (by exact uo);have cz:D≠X'.env.locals:=bh;have cP:qx X' (pins++[(D,{ cls:=.type "list",data:=.seq au.toArray k })]) (σ++List.replicate T.length none) H3 s3:=
   (I3.weak (by rw[e5,Ad,Cj,U.len]) e6).pins_of λp hp=>by
    rcases Aj.mp hp with z|z
    ·exact I3.pin p<|Ai _ z
    ·have e:=An.mp z;subst e;exact⟨e7,bd,cz,cy,λv z=>by cases z⟩
  have aL:∀p∈pins++[(D,({ cls:=.type "list",data:=.seq au.toArray k }:Obj))],p∈pins\/p.1=D:=λp hp=>by
   rcases Aj.mp hp with z|z
   ·exact .inl z
   ·exact .inr (by rw[An.mp z])
  rcases turn i n ys H3 w3 with⟨stop,hz,qn⟩|⟨go,hz,step⟩
  ·refine aE (Tn.done X' rfl rfl rfl hc i _ s3 _ H3 _ cP (bp _ H3 aL cw) cv stop) λr s4 ⟨hr,ac⟩=>?_;subst hr;obtain⟨e8,en,_⟩:=ac.pin (D,_)<|Ai _<|Ai _ Ak;obtain⟨m',ec,_⟩:=ac.loc;have un:Un (bT X.stack) fp H2 (upd H3 D<|.lst ys) I.heap s4.heap:={
    keep:=ac.base.keep,slot:=ac.base.slot
    free:=λb o e n hx=>by have:=ltN e;rw[qr<|uX (by lia)];exact ac.base.free b o e n hx
    there:=ac.base.there
    tups:=λb xs e=>by rw[qr (λz=>by rw[z,HD] at e;cases e)];exact ac.base.tups b xs e
    frzs:=λb o u e=>by rw[qr (λz=>by rw[z,HD] at e;cases e)];exact ac.base.frzs b o u e
    tbls:=λb ps e=>by rw[qr (λz=>by rw[z,HD] at e;cases e)];exact ac.base.tbls b ps e }
   have ed:dZ X.prog X.w (upd H3 D<|.lst ys) s4.heap:=λb u e=>by
    by_cases j:b=D
    ·subst j;rw[zk] at e;cases e;exact⟨hz,au,k,bc,e8⟩
    ·rw[qr j] at e;refine(ac.hok b u e).stay (λ_ _ _ q=>q) (λc q=>?_) λc xs q=>?_
     ·rw[qr<|zo q bd];exact q
     ·rw[qr<|zo q bd];exact q
   have I5:qx X pins σ (upd H3 D<|.lst ys) s4:=U.call' (ch:=fp) ac.os un ed ac.bare λb j=>⟨(f2 b j).2.2.2.1,(f2 b j).2.1,(f2 b j).2.2.2.2.1,(f2 b j).2.2.2.2.2⟩;refine dp D C s4 _ m' I5 ?_ ec<|qn D bd;refine⟨by rw[qr<|AL bh];exact ac.free,?_,?_,.inr ?_,λx c e=>?_,λp hp=>?_⟩
   ·exact uX (by lia)
   ·exact U.nofs<|u_ (by lia)
   ·exact u_ (by lia)
   ·exact uX (by have:=ba x c e;lia)
   ·exact uX (by have:=ltN (U.pin p hp).1;lia)
  ·refine aE (Tn.item X' rfl rfl rfl hc i _ s3 _ H3 _ cP (bp _ H3 aL cw) cv go) λr s4 ψ=>?_;obtain⟨u,hr,h4⟩:=ψ;subst hr;refine aE h4 λ_ s5 ψ=>?_;obtain⟨x,H5,I5,r5,y5,m_,ee⟩:=ψ;have ef:=I5.pinned (bp _ H5 aL ee)<|Tn.obj _ _ m_;refine AX ((hg C fp I H2) _ s5 _ H5 x u _ ef r5<|dj σ U.len x H5 _<|step x H5 y5) (λ_ s6 ψ=>?_) λ_ _ z=>z;obtain⟨bb,H6,I6,⟨d0,de⟩,q6⟩:=ψ;refine AX ((hf C fp I H2) _ s6 bb H6 _ I6 q6) (λb s7 ψ=>?_) λ_ _ z=>z;obtain⟨H7,I7,q7⟩:=ψ;have x8:∀{s8:Shared} {H8:Hp} (I8:qx X' ((pins++[(D,{ cls:=.type "list",data:=.seq au.toArray k })])++mG fp s5.heap) bb H8 s8),tn (i+1) s8.heap/\(∀b∈fp,H8 b=none)/\s8.heap.get? D=some { cls:=.type "list",data:=.seq au.toArray k }/\H8 D=none/\qx X' pins bb H8 s8:=λ{s8 H8} I8=>by
    refine⟨Tn.keep _ _ _ m_ λb j o e=>(I8.pin (b,o)<|Ai _<|Ai _<|dF j e).1,λb j=>?_,?_,?_,I8.unpinned.unpinned⟩
    ·obtain⟨o,e,d⟩:=Tn.obj _ _ m_ b j;exact(I8.pin (b,o)<|Ai _<|Ai _<|dF j e).2.1
    ·exact(I8.pin (D,_)<|Ai _<|Ap _<|Ai _ Ak).1
    ·exact(I8.pin (D,_)<|Ai _<|Ap _<|Ai _ Ak).2.1
   cases b with
   |false=>
    rw[AC AH] at q7 ⊢;obtain⟨m',hm,w7⟩:=q7;obtain⟨a1,a2,a3,a4,a5⟩:=x8 I7;exact⟨m',hm,i+1,bb,H7,ys,au,k,a5,⟨d0,de⟩,a3,bc,a4,a1,a2,w7⟩
   |true=>
    rw[AB rfl] at q7 ⊢;refine AX ((he C fp I H2) _ s7 bb H7 _ I7 q7) (λv s8 ψ=>?_) λ_ _ z=>z;obtain⟨y,H8,I8,r8,m',hm,w8⟩:=ψ;obtain⟨a1,a2,a3,a4,a5⟩:=x8 I8;refine vV a3 (by lia) λh9 k9 di eg=>?_;have nD:∀b∈fp,b≠D:=λb j=>uX (by have:=bi b j;lia);refine⟨m',hm,i+1,bb,H8,ys++[y],au++[v],k9,?_,⟨d0,de⟩,eg,bc.append<|.cons r8 .nil,a4,Tn.keep _ _ _ a1 λb j o e=>(di.2 b<|nD b j).trans e,a2,w8⟩;exact a5.turned (t':=s8.toks) (it:=D) (λb o j e=>(di.2 b j).trans e) a4 cz (.inr (u_ (by show @LE.le Nat instLENat I.heap.objs.size D;exact uo))) (λx c e=>uX (by have:=ba x c<|S.cl_old U e;lia)) λp hp=>uX (by have:=ltN (U.pin p hp).1;lia)
 exact codeAny_compStart_list (loop _ rfl)<|Tn.self _ _ _ _ _ (Tn.keep _ _ _ bf λb _ o e=>old b o e)<|loop _ rfl
end
section
variable {T:List Str}{iter:Expr}{g:TG}{te:TE}
theorem N'(T:List Str)(S:jl X scope)(hc:X.calm=true)(hi:PI X target iter wi)(t:∀C fp s₀ H₀,PG (X.comp scope T C fp s₀ H₀) target g)(j:sh g X.N.length T.length)
 (hf:∀C fp s₀ H₀,PF (X.comp scope T C fp s₀ H₀) kt tc) (he:∀C fp s₀ H₀,PE (X.comp scope T C fp s₀ H₀) ln te)
 (hs:∀x,foldedSetIterable iter X.env x=pure x:=by intro _;rfl):PE X (.ListComp ln [⟨target,iter,kt,0⟩] scope pos) (F8 T.length wi g tc te):=by
 intro J s r H Q I h;rw[eval_ListComp];refine wpAny_comprehension_free (use:=none) rfl hs (S.clo I) S.kind S.names<|aE (hi J s r H _ I h) λv s1 h1=>aE h1 λa1 s2 h2=>?_;refine lU (RR:=λl C=>compPost (model X.prog X.w) X.A X.xe none (EP X J r Q) l C) S hc t j hf he h2 ?_;intro D C s' H' m' I' U hn q;exact⟨m',hn,λh' p=>⟨.ref D,H',I'.turned (t':=s'.toks) (it:=C) (λb o hb e=>(p.2 b hb).trans e) U.1 (AL<|AL U.2.1) U.2.2.2.1 U.2.2.2.2.1 U.2.2.2.2.2,rfl,q⟩⟩
theorem Oa(T:List Str){px j:Pos}(hN:X.N.Nodup)(l:X.N[i]?=some x)(hx:Loc X.env.scope x)(S:jl X scope)(hc:X.calm=true)(hi:PI X target iter wi)
 (hg:∀C fp s₀ H₀,PG (X.comp scope T C fp s₀ H₀) target g) (p:sh g X.N.length T.length)
 (hf:∀C fp s₀ H₀,PF (X.comp scope T C fp s₀ H₀) kt tc) (he:∀C fp s₀ H₀,PE (X.comp scope T C fp s₀ H₀) ln te)
 (r:swapsWith (.ListComp ln [⟨target,iter,kt,0⟩] scope j) (some<|.Name x px) pos.line X.env=pure true:=by rfl)
 (t:X.fn x=true\/X.env.scope.names.lookup x=some .local:=by first|exact .inl rfl|exact .inr rfl|assumption)
 (hs:∀x,foldedSetIterable iter X.env x=pure x:=by intro _;rfl):PS X (.Assign [.Name x px] (.ListComp ln [⟨target,iter,kt,0⟩] scope j) pos) (FP (F8 T.length wi g tc te)<|lz i):=by
 intro pins s σ H D I h;rw[exec_Assign_Name_used _ _ _ _ r];refine Aa<|wpAny_standAt<|Aa ?_;show wpAny _ X.A (do let _ <-comprehension (.ListComp ln [⟨target,iter,kt,0⟩] scope j) scope X.env _ (newList []) false (eval iter X.env) (some<|assign (.Name x px) X.env)) _ _ s;refine Aa (AX (wpAny_comprehension_free (use:=some<|assign (.Name x px) X.env) (Q:=λ_ U=>SP X pins D .next U) rfl hs (S.clo I) S.kind S.names
  (aE (hi pins s σ H _ I h) λv s1 h1=>aE h1 λal s2 h2=>?_)) (λ_ U hq=>Ah<|Ah hq) λ_ _ e=>e)
 refine lU (RR:=λa1 C=>compPost (model X.prog X.w) X.A X.xe (some<|assign (.Name x px) X.env) (λ_ U=>SP X pins D .next U) a1 C) (pins:=pins) (σ:=σ) (Q:=λx H1=>lz i x σ H1 D.nx) S hc hg p hf he h2 ?_;intro A C U H' m' I' J hn q;show wpAny _ X.A (assign (.Name x px) X.env<|.ref A) _ _ U;refine wpAny_assign_Name<|o8 I' hN l hx (v:=.ref A) rfl (λa3 a4 ψ _=>?_) t;obtain⟨a,hs,ha⟩:=ψ;have a5:C≠a:=by
  rcases ha with z|z
  ·rw[z];exact J.2.1
  ·exactλe=>J.2.2.2.2.1 x a z e.symm
 exact⟨m',hn.sameBut hs a5,λh' ac=>⟨_,H',a4.turned (t':=a3.toks) (it:=C) (λb o hb e=>(ac.2 b hb).trans e) J.1 J.2.1 J.2.2.2.1 J.2.2.2.2.1 J.2.2.2.2.2,q⟩⟩
end
def wn(outer:Scope)(N:List Str)(I:Scope):Bool:=
 decide (I.kind=.function)&&I.names.all (λp=>decide (p.2≠.cell)&&(decide (p.2≠.local)||decide (I.names.lookup p.1=some .local))&&(decide (p.2≠.free)||(decide (outer.names.lookup p.1=some .cell)||decide (outer.names.lookup p.1=some .free))))
  && N.all (λx=>decide<|I.names.lookup x≠some .local)
theorem wn.mk{I:Scope}(h:wn X.env.scope X.N I=true):jl X I:=by
 unfold wn at h;rw[Ba,Ba,Dx,Dx] at h;obtain⟨⟨h1,h2⟩,h3⟩:=h;have g:∀n,(n,NameKind.free)∈I.names->X.env.kindOf n=some .cell\/X.env.kindOf n=some .free:=λn J=>by
  have q:=h2 _ J;simp only[Ba,Em,decide_eq_true_eq] at q;rcases q.2 with z|z
  ·exact absurd rfl z
  ·exact z
 refine⟨of_decide_eq_true h1,λy U=>?_,λy U e=>?_,λn J=>g n<|BD J,g,λx j=>of_decide_eq_true<|h3 x j⟩
 ·have q:=h2 _ U;simp only[Ba,Em,decide_eq_true_eq] at q;exact q.1.1
 ·have q:=h2 _ U;simp only[Ba,Em,decide_eq_true_eq] at q;rcases q.1.2 with z|z
  ·exact absurd e z
  ·exact z
abbrev ER:=@wn.mk
theorem u3(n:Nat):sh (lz n) n 1:=by
 intro U I x H Q h;refine⟨⟨by simp[I],λi v e=>?_⟩,h⟩;by_cases J:i=n
 ·subst J;rw[Av (by exact uo)] at e;simp[I] at e
 ·rw[Bd<|AL J];exact e
theorem nr:bootBuiltins "isinstance"=some (.builtin "isinstance"):=by decide +kernel
theorem cQ:bootBuiltins "tuple"=some (.type "tuple"):=by decide +kernel
theorem HG:bootBuiltins "str"=some (.type "str"):=by decide +kernel
theorem wF:bootBuiltins "int"=some (.type "int"):=by decide +kernel
theorem vv:bootBuiltins "list"=some (.type "list"):=by decide +kernel
theorem Oc:bootBuiltins "len"=some (.builtin "len"):=by decide +kernel
theorem F9{k:Nat}(I:kz k A):A.units+128<cLine:=by have:=I.un;lia
theorem dz(h:n<=1000):n<=sizeLine:=BL<|nw h
theorem Cal.of{P:Program}{w:World}{K:Af}{k:Nat}(F:ay P w K mg base CX0 k f fd ps sp)(b:dR K fd ps [])(I:PySem.W.keepIn K (.ref f)=true)(m:mg x=some (.ref f)):
 Cal P w K mg base k x ps sp:=⟨f,fd,F,b,I,m⟩
theorem ay.never{P:Program}{w:World}{K:Af}{k:Nat}(no:∀vs H Q E,¬sp vs H Q E):ay P w K mg base CX0 k f fd ps sp:=
 ⟨λvs H Q E h=>absurd h<|no vs H Q E,λA I s H args J vs Q E _ _ _ _ h=>absurd h<|no vs H Q E⟩
section
variable (K:Af)(P:Program)(w:World)
end
structure zb(K:Af)(x:Str)(st:Stmt):Prop where
 ex:∃(f:Addr) (kV hQ pm:Value) (an:Option Addr) (eK ct:Value),PySem.W.nsIn K mainGlobals x=some (some<|.ref f)/\Fun K x x st f (PySem.W.fnOf x x (xw st) (jc st) (ql st) .none kV hQ pm an eK ct)
theorem def_in{K:Af}{kV ct:Value}(a:PySem.W.nsIn K mainGlobals x=some (some<|.ref f))
 (l:K.lookup f=some ⟨oc,od,.func<|PySem.W.fnOf x x (xw st) (jc st) (ql st) .none kV hQ pm an eK ct,nE⟩) (c:PySem.W.codeIn K eK x=true) (k:PySem.W.keepIn K (.ref f)=true):zb K x st:=
 ⟨f,kV,hQ,pm,an,eK,ct,a,NP (st:=st) l c k⟩
theorem zb.use{K:Af}(D:zb K x st)(X:K.In h)(G:h.Ns mainGlobals mg)
 (I:∀(kV hQ pm:Value) (an:Option Addr) (eK ct:Value) (us:List Value),us.length=ps.length->bindArgs (PySem.W.fnOf x x (xw st) (jc st) (ql st) .none kV hQ pm an eK ct) ⟨us,[]⟩=pure (ps.zip us)):
 ∃f fd,Fun K x x st f fd/\dR K fd ps []/\mg x=some (.ref f):=by
 obtain⟨f,kV,hQ,pm,an,eK,ct,a,F⟩:=D.ex;exact⟨f,_,F,dR.all<|I kV hQ pm an eK ct,C5 X G a⟩
end L2
namespace Words
open PySem L2
inductive Wd where
 |leaf (t:Bool) (n:Str)
 |node (e:Bool) (l r:Wd)
def kL:Bool->Str
 |false => "plain"
 |true => "turned"
def kN:Bool->Str
 |false => "both"
 |true => "either"
def Wd.turn:Wd->Wd
 |.leaf t n=>.leaf (!t) n
 |.node e l r=>.node (!e) l.turn r.turn
def Wd.depth:Wd->Nat
 |.leaf _ _=>1
 |.node _ l r=>max l.depth r.depth+1
def Wd.leaves:Wd->Nat
 |.leaf _ _=>1
 |.node _ l r=>l.leaves+r.leaves
theorem Wd.leaves_pos:∀w:Wd,1<=w.leaves
 |.leaf _ _=>Ao _
 |.node _ l r=>by have:=Wd.leaves_pos l;show 1<=l.leaves+r.leaves;exact Hy
theorem Wd.depth_le:∀w:Wd,w.depth<=w.leaves
 |.leaf _ _=>Ao _
 |.node _ l r=>by have:=Wd.depth_le l;have:=Wd.depth_le r;have:=Wd.leaves_pos l;have:=Wd.leaves_pos r;show max l.depth r.depth+1<=l.leaves+r.leaves;lia
def pO:Wd->Da
 |.leaf t n=>.tup [.s<|.str<|kL t,.s<|.str n]
 |.node e l r=>.tup [.s<|.str<|kN e,pO l,pO r]
def fE(x:Str):Prop:=1<=x.length/\x.length<=8/\∀c∈x.cps.toList,97<=c/\c<=122
def Wd.ok:Wd->Prop
 |.leaf _ n=>fE n
 |.node _ l r=>l.ok/\r.ok
theorem Paired.app{α β:Type}{F:α->β->Prop}:∀{xs I:List α} {ys J:List β},Paired F xs ys->Paired F I J->Paired F (xs++I) (ys++J)
 |_,_,_,_,.nil,s=>s
 |_,_,_,_,.cons r t,s=>.cons r<|Paired.app t s
theorem Paired.getP{F:α->β->Prop}:∀{xs:List α} {ys:List β} {i:Nat} {x:α},Paired F xs ys->xs[i]?=some x->∃y,ys[i]?=some y/\F x y:=by
 intro xs ys i x h
 induction h generalizing i with
 |nil=>intro h;simp at h
 |cons r t I=>
  intro h;cases i with
  |zero=>simp at h;subst h;exact⟨_,rfl,r⟩
  |succ i=>
   obtain⟨y,e,q⟩:=I (i:=i) (by simpa using h);exact⟨y,by simpa using e,q⟩
end Words
namespace L2
open PySem PySem.Spec PyProof.Rows
theorem Od{a b:Addr}{ys:List V}{es:List Da}(I:qx X pins σ H s)(g:A.units<cLine)(j:dS X.K H a xs)(l:dS X.K H b ys)(px:Paired (vo X.K H n) xs ds)(py:Paired (vo X.K H m) ys es)
 (o:∀{x y:V} {d e:Da} {u v:Value},vo X.K H n x d->vo X.K H m y e->zv x u->zv y v->SeqAt.EqAt A.in1 s u v (Da.eq d e)):SeqAt.RcNeAt A s (.ref a) (.ref b) (!Da.eqs ds es):=by
 obtain⟨r,J,p,_⟩:=I.tuple j;obtain⟨t,U,ty,_⟩:=I.tuple l;have q:=SeqAt.RcNeAt.tuples p ty g<|gq px py J U o;rw[Au,Au,<-J.length,<-U.length,px.length,py.length,EH] at q;exact q
theorem Oe{a b:Addr}{ys:List V}{es:List Da}(I:qx X pins σ H s)(l:A.units<cLine)(p:aF X.K H a xs)(r:aF X.K H b ys)(px:Paired (vo X.K H n) xs ds)(py:Paired (vo X.K H m) ys es)
 (t:∀{x y:V} {d e:Da} {u v:Value},vo X.K H n x d->vo X.K H m y e->zv x u->zv y v->SeqAt.EqAt A.in1 s u v (Da.eq d e)):SeqAt.RcNeAt A s (.ref a) (.ref b) (!Da.eqs ds es):=by
 obtain⟨C,U,o,_⟩:=I.list p;obtain⟨T,j,ty,_⟩:=I.list r;by_cases g:C.toArray.size=T.toArray.size
 ·have q:=SeqAt.RcNeAt.lists (ja o) (ja ty) g l<|gq px py U j t;have J:ds.length=es.length:=by rw[<-px.length,<-py.length,U.length,j.length];simpa using g
  have e:=EH ds es;rw[J,Nat.min_self] at e;rw[<-J] at e;rw[Au,<-U.length,px.length] at q;simp only[beq_self_eq_true,Bool.and_true] at e;rw[e] at q;exact q
 ·have q:=SeqAt.RcNeAt.lists_lengths (ja o) (ja ty) (by simpa using g) l;have J:ds.length≠es.length:=by rw[<-px.length,<-py.length,U.length,j.length];intro z;exact g (by simpa using z)
  have e:=EH ds es;have f:(ds.length==es.length)=false:=by simpa using J
  rw[f,Bool.and_false] at e;rw[<-e];exact q
def Of(K:Af)(k:Nat):R2:=λx y H Q=>match x,y with
 |.ref a,.ref b=>∃n m d e,n<=k/\vo K H n (.ref a) d/\vo K H m (.ref b) e/\Q (.bl<|!Da.eq d e) H
 |x,y=>Fm x y=true/\Q (.bl<|!decide (x=y)) H
theorem Og{k:Nat}(hu:X.A.units+k<cLine):wg X (compareOp .NotEq) (Of X.K k):=by
 intro J s o H x y v u Q I p t h;cases x with
 |ref a=>
  cases y with
  |ref b=>
   obtain⟨n,m,d,e,hn,h1,h2,q⟩:=h;cases p;cases t;have x8:∀{k:Bool},k=(!Da.eq d e)->SeqAt.RcNeAt X.A s (.ref a) (.ref b) k->wpAny (model X.prog X.w) X.A (compareOp .NotEq (.ref a)<|.ref b) (EP X J o Q) X.xe s:=λ{k} e' r=>
    r X.prog X.w X.xe (EP X J o Q) (by rw[e'];exact⟨.bl _,H,I,rfl,q⟩)
   cases n with
   |zero=>exact(j9 h1.2).elim
   |succ n=>
    cases m with
    |zero=>exact(j9 h2.2).elim
    |succ m=>
     have j:X.A.in1.units+n<cLine:=by show X.A.units+1+n<cLine;lia
     rcases h1 with⟨_,f⟩|⟨a',xs,ds,C,rfl,l,T⟩|⟨a',xs,ds,C,rfl,l,T⟩
     ·exact(j9 f).elim
     ·cases C;rcases h2 with⟨_,f⟩|⟨b',ys,es,U,rfl,g,py⟩|⟨b',ys,es,U,rfl,g,py⟩
      ·exact(j9 f).elim
      ·cases U;exact x8 rfl<|Od I (by lia) l g T py λh1 h2 r1 r2=>mX I n j h1 h2 r1 r2
      ·cases U;obtain⟨us,vx,tx,_⟩:=I.tuple l;obtain⟨vs,vy,ty,_⟩:=I.list g;exact x8 rfl<|.tuple_list tx (ja ty) (by lia)
     ·cases C;rcases h2 with⟨_,f⟩|⟨b',ys,es,U,rfl,g,py⟩|⟨b',ys,es,U,rfl,g,py⟩
      ·exact(j9 f).elim
      ·cases U;obtain⟨us,vx,tx,_⟩:=I.list l;obtain⟨vs,vy,ty,_⟩:=I.tuple g;exact x8 rfl<|.list_tuple (ja tx) ty (by lia)
      ·cases U;exact x8 rfl<|Oe I (by lia) l g T py λh1 h2 r1 r2=>mX I n j h1 h2 r1 r2
  |_=>exact Hm J s o H _ _ v u Q I p t h
 |_=>cases y<;>exact Hm J s o H _ _ v u Q I p t h
theorem fw:bootBuiltins "max"=some (.builtin "max"):=by decide +kernel
theorem Oh:bootBuiltins "bool"=some (.type "bool"):=by decide +kernel
end L2
namespace Words
open PySem L2
def Wd.size:Wd->Nat
 |.leaf _ _=>1
 |.node _ l r=>1+l.size+r.size
theorem Wd.size_eq:∀w:Wd,w.size+1=2*w.leaves
 |.leaf _ _=>rfl
 |.node _ l r=>by have:=Wd.size_eq l;have:=Wd.size_eq r;show 1+l.size+r.size+1=2*(l.leaves+r.leaves);lia
end Words
namespace L2
open PySem PySem.Spec PyProof.Rows
theorem xo.get{P:Program}{w:World}{a:Addr}{o:HO}(x:xo P w H h a o):∃ob,h.get? a=some ob:=by
 cases o with
 |lst J=>obtain⟨_,_,_,_,e⟩:=x;exact⟨_,e⟩
 |tup J=>obtain⟨_,_,_,_,e,_⟩:=x;exact⟨_,e⟩
 |dK I=>obtain⟨_,_,_,_,o,_,_,e,_⟩:=x;exact⟨_,e⟩
 |dT I=>obtain⟨_,_,_,_,o,_,_,e,_⟩:=x;exact⟨_,e⟩
 |set S n=>obtain⟨o,_,_,_,e,_⟩:=x;exact⟨_,e⟩
 |ins C U fs=>obtain⟨_,_,_,e,_⟩:=x;exact⟨_,e⟩
 |own y=>exact x
 |xd fs=>obtain⟨_,⟨_,_,_,e,_⟩,_⟩:=x;exact⟨_,e⟩
 |rng lo g=>obtain⟨_,_,_,e⟩:=x;exact⟨_,e⟩
 |frz ob u=>obtain⟨e,_⟩:=x;exact⟨_,e⟩
 |tbl j=>exact⟨_,show h.get? a=some _ from x⟩
 |met f y=>exact⟨_,show h.get? a=some _ from x⟩
 |ext l=>obtain⟨_,e,_⟩:=x;exact e
def pZ(h0 h:Heap)(H:Hp)(a C:Addr)(tr:Option Addr):Prop:=
 h0.get? a=none/\H a=none/\∃I vs a0,h.get? a=some I/\I.cls=.ref C/\I.data=.fields vs/\vs[0]?=some a0/\
  match tr with
  |none=>vs[1]?=some .none
  |some T=>vs[1]?=some (.ref T)/\h0.get? T=none/\H T=none/\T≠a/\∃J ts,h.get? T=some J/\J.data=.fields ts/\ts[3]?=some .none
def aY(a:Addr)(tr:Option Addr)(fs:List Addr):List Addr:=a::(tr.toList++fs)
section
variable {a:Addr}{tr:Option Addr}
theorem kY{l:List Env}{b:Addr}(h:env∈l)(e:env.frame=some b):b∈bT l:=DL.mpr ⟨env,h,e⟩
theorem kG(I:qx X pins σ H s)(hs:X.stack=X.env::X.outer)(hx:X.ex=[])(new:X.s₀.heap.get? a=none)(free:H a=none)(j:∀T,tr=some T->X.s₀.heap.get? T=none/\H T=none){a0 fl:Value}
 (k1:(PySem.W.hideAll s.heap<|aY a tr<|bT X.stack).StaysIn h') (k2:h'.FunFrames (PySem.W.hideAll s.heap<|aY a tr<|bT X.stack) X.stack) (k3:h'.TracedAtW (PySem.W.hideAll s.heap<|aY a tr<|bT X.stack) a (.ref C) a0 fl)
 (k4:∀b o,s.heap.get? b=some o->(∀vs,o.data≠.fields vs)->∃sl,h'.get? b=some { o with slots:=sl }):
 Un X.fs [] X.H₀ H X.s₀.heap h'/\dZ X.prog X.w H h'/\∃T,(∀b o,s.heap.get? b=some o->(∀T0,tr=some T0->b≠T0)->b≠T)/\X.s₀.heap.get? T=none/\H T=none/\T≠a/\∃oe vs oT ts,h'.get? a=some oe/\oe.cls=.ref C/\vs[0]?=some a0/\oe.data=.fields vs/\vs[1]?=some (.ref T)/\h'.get? T=some oT/\oT.data=.fields ts/\ts[3]?=some fl:=by
 have kp:∀b o,s.heap.get? b=some o->b∉aY a tr (bT X.stack)->h'.get? b=some o:=λb o e n=>k1 b o<|C0 _ e n;have sl:∀b o,s.heap.get? b=some o->b∈bT X.stack->∃sl,h'.get? b=some { o with slots:=sl }:=λb o e J=>by obtain⟨_,l,e',nf⟩:=I.stack.mem J;rw[e] at e';cases e';exact k4 b o e nf
 have p:∀b,b∈aY a tr (bT X.stack)->H b=none:=λb J=>by
  rcases Am.mp J with e|J
  ·rw[e];exact free
  ·rcases Aj.mp J with q|q
   ·exact(j b (by simpa using q)).2
   ·exact I.stkFree b q
 have g:∀b o,X.s₀.heap.get? b=some o->b∉X.fs->b∉aY a tr (bT X.stack):=λb o e nb J=>by
  rcases Am.mp J with q|J
  ·rw[q,new] at e;cases e
  ·rcases Aj.mp J with q|q
   ·rw[(j b (by simpa using q)).1] at e;cases e
   ·rcases Am.mp (I.stkSub b q) with q|q
    ·exact absurd (AQ (um e) I.ok.above) (by rw[q];exact CF _)
    ·exact nb q
 have r:∀b,b∈X.fs->b∈bT X.stack:=λb J=>by
  rw[hs];unfold bT;rw[C1];split
  ·exact J
  ·exact Ac _ J
 have U:∀b:Addr,b∉X.ex:=λb=>by rw[hx];simp
 have a4:dZ X.prog X.w H h':=λb u e=>(I.hok b u e).stay (λc w' hc q=>kp c w' q λhm=>by
  have n:=p c hm;rcases hc with z|z
  ·rw[z,e] at n;cases n
  ·rw[z] at n;cases n) (λ_ q=>q) λ_ _ q=>q
 refine⟨⟨λb o e n J _=>?_,λb o e n J _=>?_,λb o e n _=>I.base.free b o e n<|U b,λb o e _=>?_,I.base.tups,I.base.frzs,I.base.tbls⟩,a4,?_⟩
 ·exact kp b o (I.base.keep b o e n J<|U b)<|g b o e J
 ·obtain⟨z,t⟩:=I.base.slot b o e n J<|U b;obtain⟨z',e2⟩:=sl b _ t<|r b J;exact⟨z',e2⟩
 ·obtain⟨l,t⟩:=I.base.there b o e<|U b;by_cases J:b∈X.fs
  ·obtain⟨z',e2⟩:=sl b _ t<|r b J;exact⟨_,e2⟩
  ·exact⟨l,kp b l t<|g b o e J⟩
 ·obtain⟨au,av,T,oT,ts,ax,⟨aL,aR⟩,ba,bb,a5,a1,hT,ac,h3⟩:=k3;have a3:∀o,s.heap.get? T=some o->T∈aY a tr (bT X.stack):=λo e=>by
   by_cases q:T∈aY a tr (bT X.stack)
   ·exact q
   ·rw[C0 _ e q] at a5;cases a5
  have al:T∉bT X.stack:=λJ=>by obtain⟨_,l,e',nf⟩:=k2.mem J;rw[hT] at e';cases e';exact nf ts ac
  refine⟨T,λb o e ne z=>?_,?_,?_,a1,au,av,oT,ts,ax,aL,aR,ba,bb,hT,ac,h3⟩
  ·subst z;rcases Am.mp (a3 o e) with z|z
   ·exact a1 z
   ·rcases Aj.mp z with z|z
    ·exact ne b (by simpa using z) rfl
    ·exact al z
  ·cases q:X.s₀.heap.get? T with
   |none=>rfl
   |some o=>
    obtain⟨l,t⟩:=I.base.there T o q<|U T;rcases Am.mp (a3 l t) with z|z
    ·exact absurd z a1
    ·rcases Aj.mp z with z|z
     ·rw[(j T (by simpa using z)).1] at q;cases q
     ·exact absurd z al
  ·cases q:H T with
   |none=>rfl
   |some u=>
    obtain⟨l,t⟩:=(I.hok T u q).get;have:=p T<|a3 l t;rw[q] at this;cases this
theorem Oi{Q:Unit->Shared->Prop}(I:qx X pins σ H s)(hs:X.stack=X.env::X.outer)(hf:X.env.frame=some X.env.locals)(hx:X.ex=[])(L:pZ X.s₀.heap s.heap H a C tr)
 (h:∀h' T,Un X.fs [] X.H₀ H X.s₀.heap h'->dZ X.prog X.w H h'->pZ X.s₀.heap h' H a C (some T)->Q () { s with heap:=h' }):wpAny M X.A (leaving X.env<|.ref a) Q E s:=by
 have L0:=L;obtain⟨new,free,oe,vs,b0,g,hc,hd,h0,J⟩:=L0;have j:s.heap.FunFrames (PySem.W.hideAll s.heap<|aY a tr<|bT X.stack) X.stack:=CB I.stack λenv g b hb=>Ac _<|Ai _<|kY g hb;have st:(PySem.W.hideAll s.heap<|aY a tr<|bT X.stack).StaysIn s.heap:=λb o e=>Cz _ e;have l:(PySem.W.hideAll s.heap<|aY a tr<|bT X.stack).get? a=none:=BW _ Ak;have U:X.A.frames=some (X.env::X.outer):=by rw[<-hs];exact I.ok.frames
 have go:∀h',Heap.LeftW (PySem.W.hideAll s.heap<|aY a tr<|bT X.stack) (X.env::X.outer) a (.ref C) b0 s.heap h'->Q () { s with heap:=h' }:=λh' ψ=>by obtain⟨k1,k2,k3,k4⟩:=ψ;obtain⟨u,p,T,_,n1,n2,ne,r,t,oT,ts,e1,e2,e3,e4,e5,e6,e7,e8⟩:=kG I hs hx new free (by intro T e;subst e;exact⟨J.2.1,J.2.2.1⟩) k1 (by rw[hs];rw[hs] at k2;exact k2) k3.at k4;exact h h' T u p ⟨new,free,r,t,b0,e1,e2,e4,e3,e5,n1,n2,ne,oT,ts,e6,e7,e8⟩
 have nT:∀T,tr=some T->(PySem.W.hideAll s.heap<|aY a tr<|bT X.stack).get? T=none:=λT e=>by subst e;exact BW _<|Ac _<|Ap _ (by simp)
 generalize PySem.W.hideAll s.heap (aY a tr<|bT X.stack)=base at j st l go nT;rw[hs] at j;cases tr with
 |none=>exact wpAny_leaving_firstW U j hf g st l hd J h0 (by rw[hc];exact go)
 |some T=>
  obtain⟨h1,_,_,a1,oT,ts,hT,a3,h3⟩:=J;exact wpAny_leaving_nextW U j hf ⟨oe,vs,T,oT,ts,g,⟨hc,h0⟩,hd,h1,nT T rfl,a1,hT,a3,h3⟩ st l go
end
def f_(P:Program)(w:World):wN:=λouter H s E e s'=>∃a C T H',e=.ref a/\s'.os=s.os/\AllBare s'.gens/\Un (bT outer) [] H H' s.heap s'.heap/\dZ P w H' s'.heap/\pZ s.heap s'.heap H' a C (some T)/\E (.ref C) none H'/\0<s'.toks
def yJ(X:Cx)(a:Addr):Prop:=a≠X.env.locals/\(∀x c,X.env.cells.lookup x=some c->c≠a)/\∀p∈X.pn,p.1≠a
abbrev X1:=St->Value->Hp->Prop
def bY(X:Cx)(E1:X1):Prop:=∀(pins:List<|Addr×Obj) (σ:St) (H:Hp) (s:Shared) (a C:Addr) (tr:Option Addr),qx X pins σ H s->pZ X.s₀.heap s.heap H a C tr->yJ X a->(∀T,tr=some T->yJ X T)->E1 σ (.ref C) H->X.xe (.ref a) s
section
variable {a b T:Addr}{tr:Option Addr}{E1:X1}
theorem qx.apart(I:qx X pins σ H s)(h:s.heap.get? b=none):yJ X b:=by
 refine⟨λe=>?_,λx c e z=>?_,λp U z=>?_⟩
 ·obtain⟨m,⟨o,_,_,J,_⟩,_⟩:=I.loc;rw[<-e,h] at J;cases J
 ·obtain⟨v,o,J,_⟩:=I.cell x c e;rw[z,h] at J;cases J
 ·obtain⟨e,_⟩:=I.pin p<|Ap _ U;rw[z,h] at e;cases e
theorem qx.news(I:qx X pins σ H s)(J:X.ex=[])(h:s.heap.get? b=none):X.s₀.heap.get? b=none:=by
 cases q:X.s₀.heap.get? b with
 |none=>rfl
 |some o=>
  obtain⟨U,e⟩:=I.base.there b o q (by rw[J];simp);rw[h] at e;cases e
theorem bY.pass(t:bY X E1)(U:X.ex=[]){e:Value}(I:qx X pins σ H s)(h:f_ X.prog X.w X.stack H s (λc _ H'=>E1 σ c H') e s'):X.xe e s':=by obtain⟨a,C,T,H',rfl,j,l,u,J,⟨new,free,o,p,r,he,hc,hd,h0,h1,g,fT,rest⟩,q,a1⟩:=h;have I':qx X pins σ H' s':=I.call' (ch:=[]) j u J l λb z=>absurd z (by simp);exact t pins σ H' s' a C (some T) I' ⟨I.news U new,free,o,p,r,he,hc,hd,h0,h1,I.news U g,fT,rest⟩ (I.apart new) (λT' e=>by cases e;exact I.apart g) q
theorem Oj{k:Nat}{Q:VK}{vs:List V}(F:ay X.prog X.w X.K X.mg X.base (f_ X.prog X.w) k f fd ps sp)(U:kz k X.A)(g:dR X.K fd ps [])(j:bY X E1)(l:X.ex=[])
 (I:qx X pins σ H s) (r:zw vs us) (h:sp vs H Q λc _ H'=>E1 σ c H'):wpAny (model X.prog X.w) X.A (call (.ref f) us) (EP X pins σ Q) X.xe s:=by
 have o:(us++[]).length=ps.length:=by rw[AD,<-r.length];exact F.len _ _ _ _ h
 refine wpAny_call (codeAny_mono (F.run X.A X.stack s H ⟨us,[]⟩ us vs Q _ U I.env0 (by have:=g s us I.kIn o;rw[AD] at this;exact this) r h) λr t J=>?_);cases r with
 |error e=>exact j.pass l I J
 |ok p=>
  cases p with|ret u=>exact I.after J|next=>exact False.elim J|brk=>exact False.elim J|cont=>exact False.elim J
end
def Ol(sp:Sp)(E1:X1)(t:TA):TE:=λσ H Q=>t σ H λvs H1=>sp vs H1 Q λc _ H'=>E1 σ c H'
section
variable {k:Nat}{E1:X1}{p:Pos}{t:TA}
theorem sC(F:ay X.prog X.w X.K X.mg X.base (f_ X.prog X.w) k f fd ps sp)(l:kz k X.A)(o:Gl X x)(C:X.mg x=some (.ref f))(T:PySem.W.keepIn X.K (.ref f)=true)(hb:dR X.K fd ps [])(ht:bY X E1)(hx:X.ex=[])
 (ha:PA X (e::es) t) (U:Ey x:=by decide) (he:Ew e es X:=by rfl) (g:Ex pos es X:=by rfl):
 PE X (.Call (.Name x p) (e::es) [] pos) (Ol sp E1 t):=by
 intro J s σ H Q I h;refine wpAny_Call_Name_kw<|hZ I o C ?_ U;refine PySem.W.callWith_K (h₀:=X.base) I.ok.mod.kin T (aE (ha pos J s σ H _ I h) λus s1 ⟨vs,H1,j,r,q⟩=>⟨j.kIn,?_⟩) he g;exact Oj F l hb ht hx j r q
end
theorem Om{P:Program}{w:World}{K:Af}{N:List Str}{E:XK}:
 bY (br (f_ P w) P w K mg base N eH scope f cd A outer s H E) λ_ c H'=>E c none H':=by
 intro U j H' l a C tr I L _ _ q;refine Oi (X:=br (f_ P w) P w K mg base N eH scope f cd A outer s H E) I rfl rfl rfl L λo T u J g=>?_;exact⟨a,C,T,H',rfl,I.os,I.bare,u,J,g,q,I.tk⟩
structure EL(K:Af)(C:Addr):Prop where
 ex:∃(nm q:Str) (N:Addr) (bs bm:List Value) (hdct:Bool) (sn:List Str) (sub:List Value) (ab:Bool) (col:Option Bool) (dd:Option Addr) (k0 k1 k2 k3 k5:Option Value) (B Bn newId nid initId inN:String) (bmB bmN:List Value),
  ExcBaseFacts Bn newId inN bmN/\bmB.contains (.type Bn)=true/\ExcBaseFacts B nid initId bmB/\
  ∀h,K.In h->h.get? C=some (excClassObj nm q C N bs bm hdct sn sub ab col dd k0 k1 k2 k3 k5 newId)/\(∃mN,h.Ns N mN/\mN "__init__"=none)/\OwnTail h bmB bm
theorem Oo{K:Af}{U o:List Value}{B T J p I r:String}(q:PySem.W.excIn K C U J=true)(Fn:ExcBaseFacts T J r o)(a1:U.contains (.type T)=true)(F:ExcBaseFacts B p I U):EL K C:=by
 unfold PySem.W.excIn at q;split at q
 ·rename_i dd cd sl ho;split at q
  ·rename_i C' bm k0 k1 k2 k3 n k5 hm hs;simp only[Ba,beq_iff_eq,CM] at q;obtain⟨⟨⟨⟨⟨rfl,rfl⟩,g⟩,ht⟩,j⟩,t⟩:=q;obtain⟨nm,bs,a5,ns,qn,hd,sn,sub,ab,a3,del⟩:=cd;dsimp only at hm g j t;subst hm g;have a4:sl=#[k0,k1,k2,k3,some<|.builtin n,k5]:=by obtain⟨l⟩:=sl;simp only at hs;rw[hs]
   subst a4;exact⟨nm,qn,ns,bs,bm,hd,sn,sub,ab,a3,dd,k0,k1,k2,k3,k5,B,T,n,p,I,r,U,o,Fn,a1,F,λh X=>⟨X _ _ ho,⟨_,.of_isNs<|PySem.W.isNs_of_in X j,PySem.W.nsMap_none_of_in X j t⟩,PySem.W.tail_of_in X ht⟩⟩
  ·cases q
 ·cases q
def Op(C:Addr)(E1:X1)(t:TA):TS:=λ_ σ H=>t σ H λvs H1=>vs.length<=sizeLine/\E1 σ (.ref C) H1
theorem Oq{E1:X1}{t:TA}(c:EL X.K C)(hg:Gl X x)(U:X.mg x=some (.ref C))(hc:X.calm=true)(ht:bY X E1)(hx:X.ex=[])(ha:PA X (e::es) t)(a1:Ey x:=by decide)
 (he:Ew e es X:=by rfl) (a3:Ex fu es X:=by rfl):
 PS X (.Raise (some<|.Call (.Name x np) (e::es) [] fu) none pos) (Op C E1 t):=by
 intro J s σ H D I h;obtain⟨nm,q,N,bs,bm,hdct,sn,sub,ab,col,dd,k0,k1,k2,k3,k5,B,Bn,a4,al,l,au,av,ax,Fn,a5,F,all⟩:=c.ex;obtain⟨_,⟨mN,hn,ac⟩,ow⟩:=all X.base I.ok.mod.kin;refine wpAny_Raise_call_subU (C:=C) (nm:=nm) (q:=q) (N:=N) (bs:=bs) (bm:=bm) (hdct:=hdct) (sn:=sn) (sub:=sub) (ab:=ab) (col:=col) (dd:=dd) (k0:=k0) (k1:=k1) (k2:=k2) (k3:=k3) (k5:=k5) Fn a5 F (mN:=mN) (ow.hasType F.hasBase) (I.ok.hd hc)
  (by rw[he];show(false||(backTo fu<|starEach es X.env).any (·.1))=false;rw[a3];rfl) ac (hZ I hg U ⟨rfl,?_⟩ a1)
 rw[he];have j:=ha fu J s σ H _ I h;rw[he] at j;refine Calls.evalArgs_plain (aE j λus s2 ⟨vs,p,g,r,hl,q1⟩=>⟨rfl,by rw[<-r.length];exact hl,(all _ g.kIn).1,hn.keeps g.bk,(all _ g.kIn).2.2,λh' a U=>?_⟩);obtain⟨t0,e1,_,_⟩:=U.there;have I2:qx X J σ p { s2 with heap:=h' }:=g.kept (t':=s2.toks) U.keeps;have fr:p a=none:=by
  cases z:p a with
  |none=>rfl
  |some u=>
   obtain⟨o,eo⟩:=(g.hok a u z).get;rw[U.new] at eo;cases eo
 exact ht J σ p _ a C none I2 ⟨g.news hx U.new,fr,_,_,.ref t0,e1,rfl,rfl,rfl,rfl⟩ (g.apart U.new) (λT z=>nomatch z) q1
section
variable {a T:Addr}{tr:Option Addr}
theorem jA(I:qx X pins σ H s)(hx:X.ex=[])(hf:X.stack=X.env::X.outer)(un:Un X.fs [] X.H₀ H X.s₀.heap h')(hok:dZ X.prog X.w H h')
 (k1:(PySem.W.hideAll s.heap<|aY a tr<|bT X.stack).StaysIn h') (l:∀b o,s.heap.get? b=some o->(∀vs,o.data≠.fields vs)->∃J,h'.get? b=some { o with slots:=J })
 (pa:∀p∈X.pn++pins,p.1≠a/\∀T,tr=some T->p.1≠T):qx X pins σ H { s with heap:=h' }:=by
 have t:∀{c:Addr} {v:Option Value},s.heap.IsCell c v->h'.IsCell c v:=λ{c v} ψ=>by
  obtain⟨o,U,hd⟩:=ψ
  obtain⟨J,e⟩:=l c o U λvs q=>by rw[hd] at q;cases q
  exact⟨_,e,hd⟩
 obtain⟨m,hn,hl⟩:=id I.loc;have g:h'.Ns X.env.locals m:=by
  obtain⟨o,es,ep,U,hd,r⟩:=hn;obtain⟨J,e⟩:=l _ o U λvs q=>by rw[hd] at q;cases q
  exact⟨_,es,ep,e,hd,r⟩
 refine⟨I.ok,I.os,I.bare,by rw[hx];exact un,⟨m,g,λi x v e1 e2 e3=>?_⟩,λx c e=>?_,I.free,I.freeC,λp j=>?_,hok,I.len,I.tk⟩
 ·obtain⟨u,ru,lk⟩:=hl i x v e1 e2 e3;refine⟨u,ru,?_⟩;rcases lk with lk|⟨k,c,e,z⟩
  ·exact .inl lk
  ·exact .inr ⟨k,c,e,t z⟩
 ·obtain⟨v,z⟩:=I.cell x c e;exact⟨v,t z⟩
 ·obtain⟨e,n,ne,C,d⟩:=I.pin p j;refine⟨k1 _ _<|C0 _ e λhm=>?_,n,ne,C,d⟩;rcases Am.mp hm with z|z
  ·exact(pa p j).1 z
  ·rcases Aj.mp z with z|z
   ·exact(pa p j).2 p.1 (by simpa using z) rfl
   ·rcases Am.mp (I.stkSub _ z) with z|z
    ·exact ne z
    ·exact C z
theorem Ot{Q:Unit->Shared->Prop}(I:qx X pins σ H s)(hs:X.stack=X.env::X.outer)(hf:X.env.frame=some X.env.locals)(hx:X.ex=[])(L:pZ X.s₀.heap s.heap H a C tr)
 (pa:∀p∈X.pn++pins,p.1≠a/\∀T,tr=some T->p.1≠T)
 (h:∀h' T,qx X pins σ H { s with heap:=h' }->pZ X.s₀.heap h' H a C (some T)->(∀p∈X.pn++pins,p.1≠T)->Q () { s with heap:=h' }):
 wpAny M X.A (noteFrame (.ref a) X.env) (λ_ j=>wpAny M X.A (setFlight (.ref a) none) Q E j) E s:=by
 obtain⟨new,free,oe,vs,b0,g,hc,hd,h0,J⟩:=id L;have r:∀T,tr=some T->X.s₀.heap.get? T=none/\H T=none:=by intro T e;subst e;exact⟨J.2.1,J.2.2.1⟩
 have fr:s.heap.FunFrames (PySem.W.hideAll s.heap<|aY a tr<|bT X.stack) X.stack:=CB I.stack λenv g b hb=>Ac _<|Ai _<|kY g hb;have st:(PySem.W.hideAll s.heap<|aY a tr<|bT X.stack).StaysIn s.heap:=λb o e=>Cz _ e;have na:(PySem.W.hideAll s.heap<|aY a tr<|bT X.stack).get? a=none:=BW _ Ak;have t:X.A.frames=some (X.env::X.outer):=by rw[<-hs];exact I.ok.frames
 have nT:∀T,tr=some T->(PySem.W.hideAll s.heap<|aY a tr<|bT X.stack).get? T=none:=λT e=>by subst e;exact BW _<|Ac _<|Ap _ (by simp)
 have go:∀h',Heap.NotedW (PySem.W.hideAll s.heap<|aY a tr<|bT X.stack) (X.env::X.outer) a (.ref C) b0 (rawInt X.env.locals) s.heap h'->wpAny M X.A (setFlight (.ref a) none) Q E { s with heap:=h' }:=λh' ψ=>by
  obtain⟨k1,k2,k3,k4⟩:=ψ
  rw[<-hs] at k2;obtain⟨u,ac,T,al,n1,n2,ne,au,av,oT,ts,e1,e2,e3,e4,e5,e6,e7,e8⟩:=kG I hs hx new free r k1 k2 k3 k4;have I2:qx X pins σ H { s with heap:=h' }:=jA I hx hs u ac k1 k4 pa;have a1:∀p∈X.pn++pins,p.1≠T:=λp U=>by obtain⟨e,_⟩:=I.pin p U;exact al p.1 _ e (pa p U).2
  have ax:h'.FunFrames (PySem.W.hideAll h'<|aY a (some T)<|bT X.stack) X.stack:=CB I2.stack λenv g b hb=>Ac _<|Ai _<|kY g hb;refine wpAny_setFlight_noneW (s:={ s with heap:=h' }) (base:=PySem.W.hideAll h'<|aY a (some T)<|bT X.stack) (l:=X.stack) (e:=a) (cls:=.ref C) (a0:=b0) (fl:=rawInt X.env.locals) (λb o e=>Cz _ e) ax
   ⟨au,av,T,oT,ts,e1,⟨e2,e3⟩,e4,e5,BW _<|Ac _<|Ap _ (by simp),ne,e6,e7,e8⟩ λh3 j1 j2 j3 j4=>?_
  have a3:∀b o,h'.get? b=some o->(∀vs,o.data≠.fields vs)->∃sl,h3.get? b=some { o with slots:=sl }:=λb o e q=>⟨o.slots,j4 b o e q⟩;obtain⟨u',a4,T',a5,aL,aR,ba,bb,bc,bd,be,f1,f2,f3,f4,f5,f6,f7,f8⟩:=kG (s:={ s with heap:=h' }) (tr:=some T) I2 hs hx new free (λT0 e=>by cases e;exact⟨n1,n2⟩) j1 j2 j3.at a3;have I3:qx X pins σ H { s with heap:=h3 }:=jA (s:={ s with heap:=h' }) (h':=h3) (tr:=some T) I2 hx hs u' a4 j1 a3 λp U=>⟨(pa p U).1,λT0 e=>by cases e;exact a1 p U⟩;refine h h3 T' I3 ⟨new,free,bb,bc,b0,f1,f2,f4,f3,f5,aL,aR,ba,bd,be,f6,f7,f8⟩ λp U=>?_;obtain⟨e,_⟩:=I2.pin p U;exact a5 p.1 _ e λT0 z=>by cases z;exact a1 p U
 generalize PySem.W.hideAll s.heap (aY a tr<|bT X.stack)=base at fr st na go nT;rw[hs] at fr;cases tr with
 |none=>
  unfold noteFrame;simp only[hf];refine Aa<|AV g hd J ?_;rw[AC (by decide)];exact wpAny_entryW t fr hf g st na hd (Array.getElem?_eq_some_iff.mp J).1 h0 (by rw[hc];exact go)
 |some T=>
  obtain⟨h1,_,_,bf,oT,ts,hT,bg,h3⟩:=J;exact wpAny_noteFrame_onW t fr hf ⟨oe,vs,T,oT,ts,g,⟨hc,h0⟩,hd,h1,nT T rfl,bf,hT,bg,h3⟩ st na go
end
abbrev Cx.tr(X:Cx)(pn:List<|Addr×Obj)(xe:Value->Shared->Prop):Cx:={ X with pn:=pn,xe:=xe }
abbrev Cx.hnd(X:Cx)(a:Addr):Cx:={ X with A:=X.A.mark<|some<|.ref a,calm:=false,xe:=λ_ _=>False }
theorem Cx.Ok.tr(ok:X.Ok)(pn:List<|Addr×Obj)(xe:Value->Shared->Prop):(X.tr pn xe).Ok:=
 ⟨ok.mod,ok.kind,ok.glob,ok.blt,ok.above,ok.inj,ok.has,ok.cab,ok.hd,ok.frames,ok.stk,ok.exf,ok.bs,ok.bsz,ok.noex,ok.exfs,ok.funs,ok.frf⟩
theorem Cx.Ok.untr{pn:List<|Addr×Obj}(ok:(X.tr pn xe).Ok):X.Ok:=
 ⟨ok.mod,ok.kind,ok.glob,ok.blt,ok.above,ok.inj,ok.has,ok.cab,ok.hd,ok.frames,ok.stk,ok.exf,ok.bs,ok.bsz,ok.noex,ok.exfs,ok.funs,ok.frf⟩
theorem Cx.Ok.hnd(ok:X.Ok)(a:Addr):(X.hnd a).Ok:=
 ⟨ok.mod,ok.kind,ok.glob,ok.blt,ok.above,ok.inj,ok.has,ok.cab,(λz=>nomatch z),ok.frames,ok.stk,ok.exf,ok.bs,ok.bsz,ok.noex,ok.exfs,ok.funs,ok.frf⟩
section
variable {a T:Addr}
theorem qx.tr(I:qx X pins σ H s)(xe:Value->Shared->Prop):qx (X.tr (X.pn++pins) xe) [] σ H s:=⟨I.ok.tr _ _,I.os,I.bare,I.base,I.loc,I.cell,I.free,I.freeC,(λp J=>I.pin p (by simpa using J)),I.hok,I.len,I.tk⟩
theorem qx.untr{J:List<|Addr×Obj}(I:qx (X.tr (X.pn++pins) xe) J σ H s):qx X pins σ H s:=⟨I.ok.untr,I.os,I.bare,I.base,I.loc,I.cell,I.free,I.freeC,(λp U=>I.pin p<|Ap _ U),I.hok,I.len,I.tk⟩
theorem qx.hnd(I:qx X pins σ H s)(a:Addr):qx (X.hnd a) pins σ H s:=⟨I.ok.hnd a,I.os,I.bare,I.base,I.loc,I.cell,I.free,I.freeC,I.pin,I.hok,I.len,I.tk⟩
theorem qx.unhnd(ok:X.Ok)(I:qx (X.hnd a) pins σ H s):qx X pins σ H s:=⟨ok,I.os,I.bare,I.base,I.loc,I.cell,I.free,I.freeC,I.pin,I.hok,I.len,I.tk⟩
theorem SP.untr{D:qE}{f:Flow}(h:SP (X.tr (X.pn++pins) xe) [] D f s'):SP X pins D f s':=by
 cases f with
 |next=>obtain⟨I,U,J,q⟩:=h;exact⟨I,U,J.untr,q⟩
 |brk=>obtain⟨I,U,J,q⟩:=h;exact⟨I,U,J.untr,q⟩
 |cont=>obtain⟨I,U,J,q⟩:=h;exact⟨I,U,J.untr,q⟩
 |ret u=>obtain⟨v,I,U,J,r,q⟩:=h;exact⟨v,I,U,J.untr,r,q⟩
theorem yi{Q:Unit->Shared->Prop}(I:qx X pins σ H s)(hs:X.stack=X.env::X.outer)(hx:X.ex=[])(L:pZ X.s₀.heap s.heap H a C<|some T)
 (pa:∀p∈X.pn++pins,p.1≠a/\p.1≠T) (h:∀h' g,qx X pins σ H { s with heap:=h' }->pZ X.s₀.heap h' H a C (some g)->Q () { s with heap:=h' }):wpAny M A (setFlight (.ref a) none) Q E s:=by
 obtain⟨new,free,oe,j,b0,r,hc,hd,h0,h1,n1,n2,ne,oT,ts,hT,t,h3⟩:=L;have a1:s.heap.FunFrames (PySem.W.hideAll s.heap<|aY a (some T)<|bT X.stack) X.stack:=CB I.stack λenv r b hb=>Ac _<|Ai _<|kY r hb;refine wpAny_setFlight_noneW (base:=PySem.W.hideAll s.heap<|aY a (some T)<|bT X.stack) (l:=X.stack) (e:=a) (cls:=.ref C) (a0:=b0) (fl:=.none) (λb o e=>Cz _ e) a1
  ⟨oe,j,T,oT,ts,r,⟨hc,h0⟩,hd,h1,BW _<|Ac _<|Ap _ (by simp),ne,hT,t,h3⟩ λh3 j1 j2 j3 j4=>?_
 have J:∀b o,s.heap.get? b=some o->(∀j,o.data≠.fields j)->∃sl,h3.get? b=some { o with slots:=sl }:=λb o e q=>⟨o.slots,j4 b o e q⟩;obtain⟨u',U,g,ax,a3,a4,a5,ac,al,au,av,f1,f2,f3,f4,f5,f6,f7,f8⟩:=kG (tr:=some T) I hs hx new free (λT0 e=>by cases e;exact⟨n1,n2⟩) j1 j2 j3.at J;exact h h3 g (jA (tr:=some T) I hx hs u' U j1 J λp hp=>⟨(pa p hp).1,λT0 e=>by cases e;exact(pa p hp).2⟩) ⟨new,free,ac,al,b0,f1,f2,f4,f3,f5,a3,a4,a5,au,av,f6,f7,f8⟩
end
open PySem PySem.Spec PyProof.Rows PySem.W
open Builtin.ObjectAttr in
section
variable {w:World}{K:Frag}{a:Addr}
open Builtin Builtin.ObjectAttr Builtin.Getset_descriptor in
end
def Ou(K:Af)(H:Hp)(a C:Addr):Prop:=∃I,H a=some (.frz I<|.own 0)/\I.cls=.ref C
def qW(H:Hp)(P:Addr)(q:Str):Prop:=∃ps,H P=some (.tbl ps)/\TriplesOk ps.toList/\∀pos I,codeAmong pos ps.toList=some I->∃c' oc vs t,I=.ref c'/\H c'=some (.frz oc<|.own 0)/\oc.data=.fields vs/\vs[1]?=some (.str q t)
theorem qW.keep{P:Addr}{q:Str}(h:qW H P q)(e:H' P=H P)(t:∀b o u,H b=some (.frz o u)->H' b=some (.frz o u)):qW H' P q:=by obtain⟨I,h1,h2,h3⟩:=h;refine⟨I,e.trans h1,h2,λpos J z=>?_⟩;obtain⟨U,g,j,l,p,r,C⟩:=h3 pos J z;exact⟨U,g,j,l,p,t _ _ _ r,C⟩
end L2
namespace L3
open PySem L2
inductive Y where
 |non|bl (b:Bool)|int (i:Int)|str (x:Str)|ref (a:Addr)|ty (n:String)|cd (kvs:List<|Str×Str)|tup (ys:List Y)|sq (ys:List Y)
inductive LO where
 |lst (ys:List Y)|dct (kvs:List<|jf×Y)|ins (C:Addr) (fs:List<|Str×Y)|exc (C:Addr)|tb (q:Str)
abbrev qo:=Addr->Option LO
def qi(L:qo)(a:Addr)(o:LO):qo:=λb=>if b=a then some o else L b
theorem q9{L:qo}{a:Addr}{o:LO}:qi L a o a=some o:=by unfold qi;rw[AB rfl]
theorem qg{L:qo}{a b:Addr}{o:LO}(h:b≠a):qi L a o b=L b:=by unfold qi;rw[AC h]
theorem x4{L:qo}{a:Addr}{o u:LO}:qi (qi L a o) a u=qi L a u:=by funext b;unfold qi;split<;>rfl
theorem bx{L:qo}{a b:Addr}{o:LO}(h:L a=some o)(h':L b=none):a≠b:=by intro e;subst e;rw[h] at h';cases h'
structure G3 where
 K:Af
 P:Program
 w:World
abbrev _root_.L2.Cx.g3(X:Cx):G3:=⟨X.K,X.prog,X.w⟩
def SqF(K:Af)(H:Hp)(a:Addr)(xs:List V):Prop:=(∃o,H a=some (.frz o<|.lst xs))\/
 ∃(o:Obj) (eA:Array Value) (n:Nat),K.lookup a=some o/\o.cls=.type "list" /\ o.dict=none/\o.data=.seq eA n/\eA.size<=sizeLine/\zw xs eA.toList
theorem SqF.sq{K:Af}{a:Addr}(h:SqF K H a xs):aF K H a xs:=by
 rcases h with⟨o,h⟩|h
 ·exact .inl<|.inr ⟨o,h⟩
 ·exact .inr h
mutual
def RV(G:G3)(H:Hp):Y->V->Prop
 |.non,v=>v=.non
 |.bl b,v=>v=.bl b
 |.int i,v=>v=.int i
 |.str x,v=>v=.str x
 |.ref a,v=>v=.ref a
 |.ty n,v=>v=.ty n
 |.cd kvs,v=>∃a,v=.ref a/\KD G.K G.P G.w a (kvs.map λp=>(Sum.inr p.1,V.str p.2))
 |.tup ys,v=>∃a xs,v=.ref a/\dS G.K H a xs/\xr G H ys xs
 |.sq ys,v=>∃a xs,v=.ref a/\SqF G.K H a xs/\xr G H ys xs
def xr(G:G3)(H:Hp):List Y->List V->Prop
 |[],xs=>xs=[]
 |y::ys,xs=>∃x I,xs=x::I/\RV G H y x/\xr G H ys I
end
def Ov:HO->Bool
 |.tup _=>true
 |.frz _ _=>true
 |_=>false
def jg(H H':Hp):Prop:=∀a u,Ov u=true->H a=some u->H' a=some u
theorem jg.refl(H:Hp):jg H H:=λ_ _ _ h=>h
abbrev ED:=@jg.refl
theorem jg.trans{H1 H2:Hp}(a:jg H H1)(b:jg H1 H2):jg H H2:=λc u i h=>b c u i<|a c u i h
theorem jg.new{p:Addr}{o:HO}(h:H p=none):jg H (upd H p o):=λ_ _ _ q=>by rw[qr<|zo q h];exact q
abbrev EE:=@jg.new
theorem jg.lst{p:Addr}{o:HO}(h:H p=some (.lst zs)):jg H (upd H p o):=λa u i q=>by rw[qr ?_];exact q;rintro rfl;rw[h] at q;cases q;cases i
abbrev ET:=@jg.lst
theorem dS.ts{K:Af}{a:Addr}(h:dS K H a xs)(t:jg H H'):dS K H' a xs:=by
 rcases h with(h|⟨o,h⟩)|h
 ·exact .inl<|.inl<|t _ _ rfl h
 ·exact .inl<|.inr ⟨o,t _ _ rfl h⟩
 ·exact .inr h
theorem SqF.ts{K:Af}{a:Addr}(h:SqF K H a xs)(t:jg H H'):SqF K H' a xs:=by
 rcases h with⟨o,h⟩|h
 ·exact .inl ⟨o,t _ _ rfl h⟩
 ·exact .inr h
mutual
theorem RV.ts{G:G3}{H H':Hp}(t:jg H H'):∀{y:Y} {v:V},RV G H y v->RV G H' y v
 |.non,_,h=>h
 |.bl _,_,h=>h
 |.int _,_,h=>h
 |.str _,_,h=>h
 |.ref _,_,h=>h
 |.ty _,_,h=>h
 |.cd _,_,h=>h
 |.tup _,_,ψ=>(by obtain⟨a,I,e,s,r⟩:=ψ;exact ⟨a,I,e,dS.ts s t,xr.ts t r⟩)
 |.sq _,_,ψ=>(by obtain⟨a,I,e,s,r⟩:=ψ;exact ⟨a,I,e,s.ts t,xr.ts t r⟩)
theorem xr.ts{G:G3}{H H':Hp}(t:jg H H'):∀{ys:List Y} {xs:List V},xr G H ys xs->xr G H' ys xs
 |[],_,h=>h
 |_::_,_,ψ=>(by obtain⟨x,I,e,r,s⟩:=ψ;exact ⟨x,I,e,RV.ts t r,xr.ts t s⟩)
end
theorem xr.length{G:G3}{H:Hp}:∀{ys:List Y} {xs:List V},xr G H ys xs->ys.length=xs.length
 |[],_,h=>by cases h;rfl
 |_::_,_,ψ=>by obtain⟨x,I,e,_,s⟩:=ψ;subst e;simp[xr.length s]
theorem xr.get{G:G3}{H:Hp}:∀{ys:List Y} {xs:List V} {i:Nat} {y:Y},xr G H ys xs->ys[i]?=some y->∃x,xs[i]?=some x/\RV G H y x
 |[],_,_,_,_,h=>by simp at h
 |_::_,_,0,_,ψ,h=>by obtain⟨x,I,e,r,_⟩:=ψ;subst e;simp at h;subst h;exact⟨x,rfl,r⟩
 |_::_,_,i+1,_,ψ,h=>by obtain⟨x,I,e,_,s⟩:=ψ;subst e;obtain⟨J,q,r⟩:=xr.get (i:=i) s (by simpa using h);exact⟨J,by simpa using q,r⟩
theorem xr.app{G:G3}{H:Hp}:∀{ys zs:List Y} {xs us:List V},xr G H ys xs->xr G H zs us->xr G H (ys++zs) (xs++us)
 |[],_,_,_,h,q=>by cases h;exact q
 |_::_,_,_,_,ψ,q=>by obtain⟨x,I,e,r,s⟩:=ψ;subst e;exact⟨x,I++_,rfl,r,xr.app s q⟩
theorem xr.one{G:G3}{y:Y}{x:V}(r:RV G H y x):xr G H [y] [x]:=⟨x,[],rfl,r,rfl⟩
theorem xr.take{G:G3}{H:Hp}:∀{ys:List Y} {xs:List V} (n:Nat),xr G H ys xs->xr G H (ys.take n) (xs.take n)
 |[],_,n,h=>by cases h;simp[xr]
 |_::_,_,0,_=>by simp[xr]
 |_::_,_,n+1,ψ=>by obtain⟨x,I,e,r,s⟩:=ψ;subst e;exact⟨x,I.take n,rfl,r,xr.take n s⟩
theorem xr.drop{G:G3}{H:Hp}:∀{ys:List Y} {xs:List V} (n:Nat),xr G H ys xs->xr G H (ys.drop n) (xs.drop n)
 |[],_,n,h=>by cases h;simp[xr]
 |_::_,_,0,h=>h
 |_::_,_,n+1,ψ=>by obtain⟨x,I,e,r,s⟩:=ψ;subst e;exact xr.drop n s
theorem xr.setY{G:G3}{H:Hp}{y:Y}{x:V}(r:RV G H y x):∀{ys:List Y} {xs:List V} (i:Nat),xr G H ys xs->xr G H (ys.set i y) (xs.set i x)
 |[],_,_,h=>by cases h;simp[xr]
 |_::_,_,0,ψ=>by obtain⟨J,I,e,_,s⟩:=ψ;subst e;exact⟨x,I,rfl,r,s⟩
 |_::_,_,i+1,ψ=>by obtain⟨J,I,e,q,s⟩:=ψ;subst e;exact⟨J,I.set i x,rfl,q,xr.setY r i s⟩
theorem xr.eraseIdx{G:G3}{H:Hp}:∀{ys:List Y} {xs:List V} (n:Nat),xr G H ys xs->xr G H (ys.eraseIdx n) (xs.eraseIdx n)
 |[],_,n,h=>by cases h;simp[xr]
 |_::_,_,0,ψ=>by obtain⟨x,I,e,r,s⟩:=ψ;subst e;exact s
 |_::_,_,n+1,ψ=>by obtain⟨x,I,e,r,s⟩:=ψ;subst e;exact⟨x,I.eraseIdx n,rfl,r,xr.eraseIdx n s⟩
def RO(G:G3)(H:Hp)(a:Addr):LO->Prop
 |.lst ys=>∃xs,H a=some (.lst xs)/\xr G H ys xs
 |.dct kvs=>∃xs,H a=some (.dK xs)/\Paired (λ(p:jf×Y) (q:jf×V)=>p.1=q.1/\RV G H p.2 q.2) kvs xs
 |.ins C fs=>∃dx xs,H a=some (.ins C dx xs)/\Paired (λ(p:Str×Y) (q:Str×V)=>p.1=q.1/\RV G H p.2 q.2) fs xs
 |.exc C=>Ou G.K H a C
 |.tb q=>qW H a q
def zy(G:G3)(H:Hp)(L:qo):Prop:=∀a o,L a=some o->RO G H a o
theorem RO.ex{G:G3}{a:Addr}:∀{o:LO},RO G H a o->∃u,H a=some u
 |.lst _,ψ=>(by obtain⟨_,h,_⟩:=ψ;exact ⟨_,h⟩)
 |.dct _,ψ=>(by obtain⟨_,h,_⟩:=ψ;exact ⟨_,h⟩)
 |.ins _ _,ψ=>(by obtain⟨_,_,h,_⟩:=ψ;exact ⟨_,h⟩)
 |.exc _,ψ=>(by obtain⟨_,h,_⟩:=ψ;exact ⟨_,h⟩)
 |.tb _,ψ=>(by obtain⟨_,h,_⟩:=ψ;exact ⟨_,h⟩)
theorem zy.none{G:G3}{L:qo}(h:zy G H L){p:Addr}(I:H p=none):L p=none:=by cases e:L p with|none=>rfl|some o=>obtain⟨u,q⟩:=(h p o e).ex;rw[I] at q;cases q
theorem RO.keep{G:G3}(t:jg H H'){a:Addr}(e:H' a=H a):∀{o:LO},RO G H a o->RO G H' a o
 |.lst _,ψ=>(by obtain⟨I,h,r⟩:=ψ;exact ⟨I,e.trans h,r.ts t⟩)
 |.dct _,ψ=>(by obtain⟨I,h,r⟩:=ψ;exact ⟨I,e.trans h,EI r λ_ _ ψ=>(by obtain⟨a,b⟩:=ψ;exact ⟨a,b.ts t⟩)⟩)
 |.ins _ _,ψ=>(by obtain⟨J,I,h,r⟩:=ψ;exact ⟨J,I,e.trans h,EI r λ_ _ ψ=>(by obtain⟨a,b⟩:=ψ;exact ⟨a,b.ts t⟩)⟩)
 |.exc _,ψ=>(by obtain⟨o,h,c⟩:=ψ;exact ⟨o,e.trans h,c⟩)
 |.tb _,h=>qW.keep h e λb o u z=>t b _ rfl z
theorem zy.skip{G:G3}{L:qo}(h:zy G H L){p:Addr}{o:HO}(I:H p=.none):zy G (upd H p o) L:=λa u e=>by obtain⟨x,q⟩:=(h a u e).ex;exact(h a u e).keep (EE I) (qr<|zo q I)
theorem zy.newL{G:G3}{L:qo}(h:zy G H L){p:Addr}{ys:List Y}(I:H p=.none)(r:xr G H ys xs):zy G (upd H p<|.lst xs) (qi L p<|.lst ys):=λa u e=>by
 by_cases c:a=p
 ·subst c;rw[q9] at e;cases e;exact⟨xs,zk,r.ts<|EE I⟩
 ·rw[qg c] at e;exact(h a u e).keep (EE I) (qr c)
theorem zy.setL{G:G3}{L:qo}(h:zy G H L){p:Addr}{ys:List Y}(I:H p=some (.lst zs))(r:xr G H ys xs):zy G (upd H p<|.lst xs) (qi L p<|.lst ys):=λa u e=>by
 by_cases c:a=p
 ·subst c;rw[q9] at e;cases e;exact⟨xs,zk,r.ts<|ET I⟩
 ·rw[qg c] at e;exact(h a u e).keep (ET I) (qr c)
def qh(L L':qo):Prop:=∀a o,L a=some o->L' a=some o
theorem qh.refl(L:qo):qh L L:=λ_ _ h=>h
abbrev EC:=@qh.refl
theorem qh.trans{L L1 L2:qo}(a:qh L L1)(b:qh L1 L2):qh L L2:=λc o h=>b c o<|a c o h
theorem qh.new{L:qo}{p:Addr}{o:LO}(h:L p=none):qh L (qi L p o):=λa u e=>by rw[qg<|bx e h];exact e
abbrev By:=@qh.new
theorem zy.sub{G:G3}{L L':qo}(h:zy G H L')(s:qh L L'):zy G H L:=λa o e=>h a o<|s a o e
abbrev jw:=List<|Option Y
structure xn(G:G3)(H:Hp)(σ:St)(τ:jw):Prop where
 len:σ.length=τ.length
 get:∀(i:Nat) y,τ[i]?=some (some y)->∃v,σ[i]?=some (some v)/\RV G H y v
theorem xn.ts{G:G3}{τ:jw}(h:xn G H σ τ)(t:jg H H'):xn G H' σ τ:=
 ⟨h.len,λi y e=>let ⟨v,a,b⟩:=h.get i y e;⟨v,a,b.ts t⟩⟩
theorem xn.set{G:G3}{τ:jw}(h:xn G H σ τ){v:V}{y:Y}(r:RV G H y v):xn G H (σ.set i<|some v) (τ.set i<|some y):=by
 refine⟨by simp[h.len],λj z e=>?_⟩;by_cases c:i=j
 ·subst c;have I:i<τ.length:=by
   by_cases q:i<τ.length
   ·exact q
   ·rw[BE (by simp;omega)] at e;cases e
  rw[BX I] at e;cases e;exact⟨v,BX (by rw[h.len];exact I),r⟩
 ·rw[Bd c] at e ⊢;exact h.get j z e
theorem xn.more{G:G3}{τ:jw}(h:xn G H σ τ)(n:Nat):xn G H (σ++List.replicate n none) (τ++List.replicate n none):=by
 refine⟨by simp[h.len],λj z e=>?_⟩;by_cases c:j<τ.length
 ·rw[AF c] at e;rw[AF (by rw[h.len];exact c)];exact h.get j z e
 ·rw[Av (by omega),Dg] at e;split at e<;>cases e
def zQ:jw->Nat->Option Y
 |[],_=>none
 |o::_,0=>o
 |_::r,i+1=>zQ r i
theorem rF:∀(τ:jw) (i:Nat) {y:Y},zQ τ i=some y->τ[i]?=some (some y)
 |[],_,_,h=>by cases h
 |o::_,0,_,h=>by simp[zQ] at h;simp[h]
 |_::r,i+1,_,h=>by simp only[Dh];exact rF r i h
abbrev YK:=Y->qo->Prop
abbrev xt:=jw->qo->YK->Prop
abbrev kD:=jw->qo->(Bool->qo->Prop)->Prop
abbrev fV:=jw->qo->(List Y->qo->Prop)->Prop
structure xb where
 nx:jw->qo->Prop
 rt:YK
 bk:jw->qo->Prop:=λ_ _=>False
 ct:jw->qo->Prop:=λ_ _=>False
abbrev vh:=xb->jw->qo->Prop
abbrev m9:=Y->jw->qo->(jw->qo->Prop)->Prop
abbrev sG:=List Y->jw->qo->(jw->qo->Prop)->Prop
abbrev r_:=jw->qo->(List Y->(qo->Prop)->qo->Prop)->Prop
abbrev nv:=Y->Y->qo->YK->Prop
def tR(G:G3)(H:Hp)(I:YK)(Q:VK):Prop:=∀v H' y L',jg H H'->zy G H' L'->RV G H' y v->I y L'->Q v H'
def aaf(G:G3)(H:Hp)(I:Bool->qo->Prop)(Q:Bool->Hp->Prop):Prop:=∀b H' L',jg H H'->zy G H' L'->I b L'->Q b H'
def HH(G:G3)(H:Hp)(I:List Y->qo->Prop)(Q:List V->Hp->Prop):Prop:=∀vs H' ys L',jg H H'->zy G H' L'->xr G H' ys vs->I ys L'->Q vs H'
def nu(G:G3)(H:Hp)(I:jw->qo->Prop)(Q:St->Hp->Prop):Prop:=∀σ H' τ L',jg H H'->xn G H' σ τ->zy G H' L'->I τ L'->Q σ H'
theorem tR.ts{G:G3}{I:YK}{Q:VK}(h:tR G H I Q)(t:jg H H'):tR G H' I Q:=λv J y U g=>h v J y U<|t.trans g
theorem aaf.ts{G:G3}{I:Bool->qo->Prop}{Q:Bool->Hp->Prop}(h:aaf G H I Q)(t:jg H H'):aaf G H' I Q:=λv J U g=>h v J U<|t.trans g
theorem nu.ts{G:G3}{I:jw->qo->Prop}{Q:St->Hp->Prop}(h:nu G H I Q)(t:jg H H'):nu G H' I Q:=λv J y U g=>h v J y U<|t.trans g
structure vG(G:G3)(H:Hp)(D3:xb)(D:qE):Prop where
 nx:nu G H D3.nx D.nx
 rt:tR G H D3.rt D.rt
 bk:nu G H D3.bk D.bk
 ct:nu G H D3.ct D.ct
theorem vG.ts{G:G3}{D3:xb}{D:qE}(h:vG G H D3 D)(t:jg H H'):vG G H' D3 D:=⟨h.nx.ts t,h.rt.ts t,h.bk.ts t,h.ct.ts t⟩
def mv(G:G3)(t:xt):TE:=λσ H Q=>∃τ L I,xn G H σ τ/\zy G H L/\t τ L I/\tR G H I Q
def i_(G:G3)(t:kD):TT:=λσ H Q=>∃τ L I,xn G H σ τ/\zy G H L/\t τ L I/\aaf G H I Q
def HI(G:G3)(t:fV):TA:=λσ H Q=>∃τ L I,xn G H σ τ/\zy G H L/\t τ L I/\HH G H I Q
def A_(G:G3)(t:vh):L2.TS:=λD σ H=>∃τ L D3,xn G H σ τ/\zy G H L/\t D3 τ L/\vG G H D3 D
def Fp(G:G3)(g:m9):TG:=λv σ H Q=>∃y τ L I,RV G H y v/\xn G H σ τ/\zy G H L/\g y τ L I/\nu G H I Q
def Ow(G:G3)(g:sG):e_:=λvs σ H Q=>∃ys τ L I,xr G H ys vs/\xn G H σ τ/\zy G H L/\g ys τ L I/\nu G H I Q
structure iu(G:G3)(H₀:Hp)(J:It)(ys:List Y)(keep:qo->Prop):Prop where
 go:∀i H L,jg H₀ H->zy G H L->keep L->i<ys.length->J.go i H
 yld:∀i H L x H' y,jg H₀ H->zy G H L->keep L->ys[i]?=some y->J.yld i H x H'->jg H H'/\zy G H' L/\RV G H' y x
 stop:∀H L,jg H₀ H->zy G H L->keep L->J.stop ys.length H
def F_(G:G3)(wi:r_):TI:=λσ H R=>∃τ L I,xn G H σ τ/\zy G H L/\wi τ L I/\∀J H' ys keep L',jg H H'->zy G H' L'->iu G H' J ys keep->I ys keep L'->R J H'
def iI(G:G3)(U:nv):R2:=λx y H Q=>∃x3 I L J,RV G H x3 x/\RV G H I y/\zy G H L/\U x3 I L J/\tR G H J Q
def b_(G:G3)(J:List Y->qo->YK->Prop):List V->Hp->VK->Prop:=λxs H Q=>∃ys L I,xr G H ys xs/\zy G H L/\J ys L I/\tR G H I Q
theorem PE.imp{t u:TE}(h:PE X e t)(q:∀σ H Q,u σ H Q->t σ H Q):PE X e u:=λJ s σ H Q I z=>h J s σ H Q I<|q σ H Q z
abbrev EU:=@PE.imp
theorem PE.imq{G:G3}{t:TE}{u:xt}(h:PE X e t)(q:∀σ H Q τ L I,xn G H σ τ->zy G H L->u τ L I->tR G H I Q->t σ H Q):PE X e (mv G u):=EU h λσ H Q ψ=>(by obtain⟨τ,L,I,a,b,c,d⟩:=ψ;exact q σ H Q τ L I a b c d)
abbrev EF:=@PE.imq
theorem PT.imp{t u:TT}(h:PT X e t)(q:∀σ H Q,u σ H Q->t σ H Q):PT X e u:=λJ s σ H Q I z=>h J s σ H Q I<|q σ H Q z
theorem PT.imq{G:G3}{t:TT}{u:kD}(h:PT X e t)(q:∀σ H Q τ L I,xn G H σ τ->zy G H L->u τ L I->aaf G H I Q->t σ H Q):PT X e (i_ G u):=PT.imp h λσ H Q ψ=>(by obtain⟨τ,L,I,a,b,c,d⟩:=ψ;exact q σ H Q τ L I a b c d)
theorem PW.imp{t u:TT}(h:PW X e t)(q:∀σ H Q,u σ H Q->t σ H Q):PW X e u:=λU J s σ H Q I z=>h U J s σ H Q I<|q σ H Q z
theorem PW.imq{G:G3}{t:TT}{u:kD}(h:PW X e t)(q:∀σ H Q τ L I,xn G H σ τ->zy G H L->u τ L I->aaf G H I Q->t σ H Q):PW X e (i_ G u):=PW.imp h λσ H Q ψ=>(by obtain⟨τ,L,I,a,b,c,d⟩:=ψ;exact q σ H Q τ L I a b c d)
theorem PA.imp{e:List Expr}{t u:TA}(h:PA X e t)(q:∀σ H Q,u σ H Q->t σ H Q):PA X e u:=λpos J s σ H Q I z=>h pos J s σ H Q I<|q σ H Q z
theorem PA.imq{G:G3}{e:List Expr}{t:TA}{u:fV}(h:PA X e t)(q:∀σ H Q τ L I,xn G H σ τ->zy G H L->u τ L I->HH G H I Q->t σ H Q):PA X e (HI G u):=PA.imp h λσ H Q ψ=>(by obtain⟨τ,L,I,a,b,c,d⟩:=ψ;exact q σ H Q τ L I a b c d)
theorem PS.imp{e:Stmt}{t u:L2.TS}(h:PS X e t)(q:∀D σ H,u D σ H->t D σ H):PS X e u:=λJ s σ H Q I z=>h J s σ H Q I<|q _ σ H z
theorem PS.imq{G:G3}{e:Stmt}{t:L2.TS}{u:vh}(h:PS X e t)(q:∀D σ H τ L D3,xn G H σ τ->zy G H L->u D3 τ L->vG G H D3 D->t D σ H):PS X e (A_ G u):=PS.imp h λD σ H ψ=>(by obtain⟨τ,L,D3,a,b,c,d⟩:=ψ;exact q D σ H τ L D3 a b c d)
abbrev EJ:=@PS.imq
theorem gZ.imp{e:List Stmt}{t u:L2.TS}(h:gZ X e t)(q:∀D σ H,u D σ H->t D σ H):gZ X e u:=λJ s σ H Q I z=>h J s σ H Q I<|q _ σ H z
theorem gZ.imq{G:G3}{e:List Stmt}{t:L2.TS}{u:vh}(h:gZ X e t)(q:∀D σ H τ L D3,xn G H σ τ->zy G H L->u D3 τ L->vG G H D3 D->t D σ H):gZ X e (A_ G u):=gZ.imp h λD σ H ψ=>(by obtain⟨τ,L,D3,a,b,c,d⟩:=ψ;exact q D σ H τ L D3 a b c d)
theorem PF.imp{e:List Expr}{t u:TT}(h:PF X e t)(q:∀σ H Q,u σ H Q->t σ H Q):PF X e u:=λJ s σ H Q I z=>h J s σ H Q I<|q σ H Q z
end L3
variable {g:L3.m9}{G:L3.G3}{y:L3.Y}{ta tb te to:L3.xt}{kvs:List<|L2.jf×L3.Y}{ys:List L3.Y}{L L' L0 L1:L3.qo}{τ:L3.jw}{gs:L3.sG}{bv c0 c1 c5 c6 c7 c8 c9 o0 o1:Option L3.Y}{En:L3.xb}{tA:L3.kD}
namespace L3
open PySem L2
def vt(b:Bool)(A B:Prop):Prop:=match b with
 |true=>A
 |false=>B
theorem Ox{b:Bool}{A B:Prop}(h:b=true->A)(k:b=false->B):vt b A B:=by cases b with|true=>exact h rfl|false=>exact k rfl
theorem iP{b:Bool}{A B:Prop}(e:b=true)(h:A):vt b A B:=by rw[e];exact h
theorem aZ{b:Bool}{A B:Prop}(e:b=false)(h:B):vt b A B:=by rw[e];exact h
theorem zp{p:Prop} [Decidable p]{A B:Prop}(h:p->A)(k:¬p->B):vt (decide p) A B:=by
 by_cases c:p
 ·rw[AM c];exact h c
 ·rw[AE c];exact k c
theorem Oy{p:Prop} [Decidable p]{A B:Prop}(c:p)(h:A):vt (decide p) A B:=by rw[AM c];exact h
theorem Oz{p:Prop} [Decidable p]{A B:Prop}(c:¬p)(h:B):vt (decide p) A B:=by rw[AE c];exact h
def nb(neg b:Bool):Bool:=match neg with
 |true=>!b
 |false=>b
def qf(i:Nat)(τ:jw)(L:qo)(Q:YK):Prop:=match zQ τ i with
 |some y=>Q y L
 |none=>False
def yC(y:Y)(_:jw)(L:qo)(Q:YK):Prop:=Q y L
def xx(r:nv)(ta tb:xt)(τ:jw)(L:qo)(Q:YK):Prop:=ta τ L λx L1=>tb τ L1 λy L2=>r x y L2 Q
def yI(C:Int->Int->Prop)(g:Int->Int->Y)(x y:Y)(L:qo)(Q:YK):Prop:=match x,y with
 |.int i,.int j=>C i j/\Q (g i j) L
 |_,_=>False
def n_(g:Int->Int->Y)(x y:Y)(L:qo)(Q:YK):Prop:=match x,y with
 |.int i,.int j=>Q (g i j) L
 |_,_=>False
def cI(L:qo):Y->Option (List Y)
 |.tup ys=>some ys
 |.sq ys=>some ys
 |.ref a=>match L a with
  |some (.lst ys)=>some ys
  |_=>none
 |_=>none
@[irreducible] def fP (L:qo) (a:Addr) (k:List Y->Prop):Prop:=match L a with
 |some (.lst ys)=>k ys
 |_=>False
theorem ko{a:Addr}{k:List Y->Prop}(h:fP L a k):∃ys,L a=some (.lst ys)/\k ys:=by
 unfold fP at h;split at h
 ·rename_i ys e;exact⟨ys,e,h⟩
 ·exact h.elim
theorem qw{a:Addr}{k:List Y->Prop}(e:L a=some (.lst ys))(h:k ys):fP L a k:=by unfold fP;rw[e];exact h
def jY(L:qo)(x:Y)(k:List Y->Prop):Prop:=match x with
 |.tup ys=>k ys
 |.sq ys=>k ys
 |.ref a=>fP L a k
 |_=>False
theorem wr{a:Addr}(h:L a=some (.lst ys)):cI L (.ref a)=some ys:=by show(match L a with|some (.lst ys)=>some ys|_=>none)=some ys;rw[h]
theorem aT{x:Y}{k:List Y->Prop}(h:jY L x k):∃ys,cI L x=some ys/\k ys:=by
 cases x with
 |tup ys=>exact⟨ys,rfl,h⟩
 |sq ys=>exact⟨ys,rfl,h⟩
 |ref a=>obtain⟨ys,e,q⟩:=ko h;exact⟨ys,wr e,q⟩
 |_=>exact h.elim
theorem oR{a:Addr}(h:cI L (.ref a)=some ys):L a=some (.lst ys):=by
 have I:(match L a with|some (.lst ys)=>some ys|_=>none)=some ys:=h;split at I
 ·rename_i e;cases I;exact e
 ·cases I
theorem OA{x:Y}{k:List Y->Prop}(e:cI L x=some ys)(h:k ys):jY L x k:=by cases x with|tup I=>cases e;exact h|sq I=>cases e;exact h|ref a=>exact qw (oR e) h|_=>cases e
theorem qb{a:Addr}{k:List Y->Prop}(e:L a=some (.lst ys))(h:k ys):jY L (.ref a) k:=OA (wr e) h
def bw(x y:Y)(L:qo)(Q:YK):Prop:=match x,y with
 |.int i,.int j=>Q (.int<|i+j) L
 |.str a,.str b=>a.length+b.length<=sizeLine/\Q (.str<|a++b) L
 |.ref a,.ref b=>∃ys zs,L a=some (.lst ys)/\L b=some (.lst zs)/\ys.length+zs.length<=sizeLine/\∀p,L p=none->Q (.ref p) (qi L p<|.lst<|ys++zs)
 |_,_=>False
def c_(L:qo)(Q:α->qo->Prop):Option α->Prop
 |some v=>Q v L
 |none=>False
def kn(kvs:List<|jf×Y)(k:jf):Option Y:=(kvs.find? λp=>decide<|p.1=k).map (·.2)
@[irreducible] def qB (L:qo) (a:Addr) (k:List (jf×Y)->Prop):Prop:=match L a with
 |some (.dct kvs)=>k kvs
 |_=>False
theorem gt{a:Addr}{k:List (jf×Y)->Prop}(h:qB L a k):∃kvs,L a=some (.dct kvs)/\k kvs:=by
 unfold qB at h;split at h
 ·rename_i I e;exact⟨I,e,h⟩
 ·exact h.elim
theorem vk{a:Addr}{k:List (jf×Y)->Prop}(e:L a=some (.dct kvs))(h:k kvs):qB L a k:=by unfold qB;rw[e];exact h
def fY(x y:Y)(L:qo)(Q:YK):Prop:=match x,y with
 |.str z,.int i=>z.length<=sizeLine/\c_ L (λc L=>Q (.str ⟨#[c]⟩) L) (fQ z.cps.toList i)
 |.cd kvs,.str k=>c_ L (λs L=>Q (.str s) L)<|kvs.lookup k
 |.ref a,.str k=>qB L a λkvs=>c_ L Q<|kn kvs<|.inr k
 |x,.int i=>jY L x λys=>c_ L Q<|fQ ys i
 |_,_=>False
def A'(xs:List Y)(L:qo)(Q:YK):Prop:=match xs with
 |[.str z]=>z.length<=sizeLine/\Q (.int z.length) L
 |[x]=>jY L x λys=>Q (.int ys.length) L
 |_=>False
def l7(xs:List Y)(L:qo)(Q:YK):Prop:=match xs with
 |[.int i,.int j]=>Q (.int<|max i j) L
 |_=>False
def nj(xs:List Y)(L:qo)(Q:YK):Prop:=match xs with
 |[.int i,.int j]=>Q (.int<|min i j) L
 |_=>False
inductive rM where
 |non|bool|int|str|tuple|list|dict
def rM.nm:rM->String
 |.non => "NoneType"
 |.bool => "bool"
 |.int => "int"
 |.str => "str"
 |.tuple => "tuple"
 |.list => "list"
 |.dict => "dict"
def Cp(L:qo):Y->Option rM
 |.non=>some .non
 |.bl _=>some .bool
 |.int _=>some .int
 |.str _=>some .str
 |.tup _=>some .tuple
 |.sq _=>some .list
 |.ref a=>match L a with
  |some (.lst _)=>some .list
  |some (.dct _)=>some .dict
  |_=>none
 |_=>none
theorem OB{a:Addr}(h:L a=some (.lst ys)):Cp L (.ref a)=some .list:=by show(match L a with|some (.lst _)=>some rM.list|some (.dct _)=>some .dict|_=>none)=some .list;rw[h]
def Ga:rM->rM->Bool
 |.bool,.int=>true
 |.bool,.bool=>true
 |.int,.int=>true
 |.str,.str=>true
 |.tuple,.tuple=>true
 |.list,.list=>true
 |.dict,.dict=>true
 |.non,.non=>true
 |_,_=>false
@[irreducible] def E5 (L:qo) (a:Addr) (k:rM->Prop):Prop:=match Cp L (.ref a) with
 |some T=>k T
 |none=>False
theorem OC{a:Addr}{k:rM->Prop}(h:E5 L a k):∃T,Cp L (.ref a)=some T/\k T:=by
 unfold E5 at h;split at h
 ·rename_i T e;exact⟨T,e,h⟩
 ·exact h.elim
theorem gu{a:Addr}{k:rM->Prop}(e:L a=some (.lst ys))(h:k .list):E5 L a k:=by unfold E5;rw[OB e];exact h
def HJ(L:qo)(x:Y)(k:rM->Prop):Prop:=match x with
 |.non=>k .non
 |.bl _=>k .bool
 |.int _=>k .int
 |.str _=>k .str
 |.tup _=>k .tuple
 |.sq _=>k .list
 |.ref a=>E5 L a k
 |_=>False
theorem OD{x:Y}{k:rM->Prop}(h:HJ L x k):∃T,Cp L x=some T/\k T:=by cases x with|ref a=>exact OC h|ty n=>exact h.elim|cd k=>exact h.elim|_=>exact⟨_,rfl,h⟩
def Gb(S:rM)(te:xt)(τ:jw)(L:qo)(Q:YK):Prop:=te τ L λx L1=>HJ L1 x λT=>Q (.bl<|Ga T S) L1
def mL:Y->Bool
 |.non=>true
 |.bl _=>true
 |.int _=>true
 |.str _=>true
 |_=>false
def fU:Y->V
 |.non=>.non
 |.bl b=>.bl b
 |.int i=>.int i
 |.str x=>.str x
 |_=>.ty "?"
theorem RV.flat :∀{y:Y} {v:V},mL y=true->RV G H y v->v=fU y:=by intro y v e h;cases y<;>first|exact h|cases e
theorem gh:∀{y:Y},mL y=true->a6 (fU y)=true
 |.non,_=>rfl
 |.bl _,_=>rfl
 |.int _,_=>rfl
 |.str _,_=>rfl
theorem xr.flat :∀{ys:List Y} {xs:List V},ys.all mL=true->xr G H ys xs->xs=ys.map fU
 |[],_,_,h=>h
 |y::ys,_,f,ψ=>by obtain⟨x,I,e,r,s⟩:=ψ;rw[DY,Ba] at f;rw[e,r.flat f.1,s.flat f.2];rfl
def Gc:Y->Bool
 |.ref _=>true
 |.sq _=>true
 |_=>false
def xa(L:qo):Nat->Y->Da->Prop
 |0,y,d=>mL y=true/\d=.s (fU y)
 |n+1,y,d=>(mL y=true/\d=.s (fU y))\/(∃ys ds,y=.tup ys/\d=.tup ds/\Paired (xa L n) ys ds)\/(∃ys ds,Gc y=true/\d=.lst ds/\cI L y=some ys/\Paired (xa L n) ys ds)
def zF:Y->Bool
 |.ref _=>true
 |.tup _=>true
 |.sq _=>true
 |_=>false
def j_(neg:Bool)(x y:Y)(L:qo)(Q:YK):Prop:=match x,y with
 |.int i,.int j=>Q (.bl<|nb neg<|decide<|i=j) L
 |.str i,.str j=>Q (.bl<|nb neg<|decide<|i=j) L
 |.bl i,.bl j=>Q (.bl<|nb neg<|decide<|i=j) L
 |x,y=>zF x=true/\zF y=true/\∃n m d e,n<=128/\xa L n x d/\xa L m y e/\Q (.bl<|nb neg<|Da.eq d e) L
def dY(neg:Bool)(ta:xt)(τ:jw)(L:qo)(Q:YK):Prop:=ta τ L λx L1=>match x with
 |.non=>Q (.bl<|!neg) L1
 |_=>Q (.bl neg) L1
def yB(t:xt)(τ:jw)(L:qo)(Q:Bool->qo->Prop):Prop:=t τ L λx L1=>match x with
 |.bl c=>Q c L1
 |_=>False
def yj(t u:kD)(τ:jw)(L:qo)(Q:Bool->qo->Prop):Prop:=t τ L λc L1=>vt c (u τ L1 Q)<|Q false L1
def wX(t u:kD)(τ:jw)(L:qo)(Q:Bool->qo->Prop):Prop:=t τ L λc L1=>vt c (Q true L1)<|u τ L1 Q
def wC(t:kD)(τ:jw)(L:qo)(Q:Bool->qo->Prop):Prop:=t τ L λc L1=>Q (!c) L1
def rX(ta tb:xt)(τ:jw)(L:qo)(Q:YK):Prop:=ta τ L λx L1=>match x with
 |.bl c=>vt c (tb τ L1 Q)<|Q (.bl false) L1
 |_=>False
def OE(ta:xt)(τ:jw)(L:qo)(Q:YK):Prop:=ta τ L λx L1=>match x with
 |.bl c=>Q (.bl<|!c) L1
 |_=>False
def E6(t:kD)(ta tb:xt)(τ:jw)(L:qo)(Q:YK):Prop:=t τ L λc L1=>vt c (ta τ L1 Q)<|tb τ L1 Q
def je(_:jw)(L:qo)(Q:List Y->qo->Prop):Prop:=Q [] L
def qk(ta:xt)(tr:fV)(τ:jw)(L:qo)(Q:List Y->qo->Prop):Prop:=ta τ L λx L1=>tr τ L1 λxs L2=>Q (x::xs) L2
def aC(t:fV)(τ:jw)(L:qo)(Q:YK):Prop:=t τ L λys L1=>match Nat.ble ys.length 1000 with
 |true=>Q (.tup ys) L1
 |false=>False
def gK(t:fV)(τ:jw)(L:qo)(Q:YK):Prop:=t τ L λys L1=>match Nat.ble ys.length 1000 with
 |true=>∀p,L1 p=none->Q (.ref p) (qi L1 p<|.lst ys)
 |false=>False
def cL(r:List Y->qo->YK->Prop)(t:fV)(τ:jw)(L:qo)(Q:YK):Prop:=t τ L λvs L1=>r vs L1 Q
abbrev E7:=jw->qo->(Option Int->qo->Prop)->Prop
def gj(_:jw)(L:qo)(Q:Option Int->qo->Prop):Prop:=Q none L
def rc(t:xt)(τ:jw)(L:qo)(Q:Option Int->qo->Prop):Prop:=t τ L λx L1=>match x with
 |.int i=>Q (some i) L1
 |_=>False
def fq(xs:List Y)(lo hi:Option Int):List Y:=(xs.drop<|HT.sIx xs.length 0 lo).take<|HT.sIx xs.length xs.length hi-HT.sIx xs.length 0 lo
def HK(x:Y)(lo hi:Option Int)(L:qo)(Q:YK):Prop:=match x with
 |.ref a=>fP L a λys=>∀p,L p=none->Q (.ref p) (qi L p<|.lst<|fq ys lo hi)
 |.sq ys=>∀p,L p=none->Q (.ref p) (qi L p<|.lst<|fq ys lo hi)
 |_=>False
def E8(r:Y->Option Int->Option Int->qo->YK->Prop)(te:xt)(tl th:E7)(τ:jw)(L:qo)(Q:YK):Prop:=te τ L λx L1=>tl τ L1 λl L2=>th τ L2 λu L3=>r x l u L3 Q
def zn(t u:vh)(D:xb)(τ:jw)(L:qo):Prop:=t { D with nx:=u D } τ L
def vz(D:xb)(τ:jw)(L:qo):Prop:=D.nx τ L
def OF(D:xb)(τ:jw)(L:qo):Prop:=D.ct τ L
def wo(te:xt)(D:xb)(τ:jw)(L:qo):Prop:=te τ L λ_ L1=>D.nx τ L1
def we(te:xt)(D:xb)(τ:jw)(L:qo):Prop:=te τ L D.rt
def HL(D:xb)(_:jw)(L:qo):Prop:=D.rt .non L
def aG(c:kD)(t u:vh)(D:xb)(τ:jw)(L:qo):Prop:=c τ L λb L1=>vt b (t D τ L1)<|u D τ L1
def x5(te:xt)(g:m9)(D:xb)(τ:jw)(L:qo):Prop:=te τ L λx L1=>g x τ L1 D.nx
def gE:jw->Nat->Y->jw
 |[],_,_=>[]
 |_::r,0,y=>some y::r
 |o::r,i+1,y=>o::gE r i y
theorem bZ:∀(τ:jw) (i:Nat) (y:Y),gE τ i y=τ.set i (some y)
 |[],_,_=>rfl
 |_::_,0,_=>rfl
 |o::r,i+1,y=>by rw[gE,bZ r i y];rfl
def qp(i:Nat)(y:Y)(τ:jw)(L:qo)(Q:jw->qo->Prop):Prop:=Q (gE τ i y) L
def gn(ys:List Y)(τ:jw)(L:qo)(Q:jw->qo->Prop):Prop:=match ys with
 |[]=>Q τ L
 |_=>False
def vi(t:m9)(u:sG)(ys:List Y)(τ:jw)(L:qo)(Q:jw->qo->Prop):Prop:=match ys with
 |[]=>False
 |y::r=>t y τ L λI L'=>u r I L' Q
def jS(n:Nat)(t:sG)(y:Y)(τ:jw)(L:qo)(Q:jw->qo->Prop):Prop:=match y with
 |.tup ys=>match ys.length==n with
  |true=>t ys τ L Q
  |false=>False
 |_=>False
def Fq(i j:Nat)(ta:fV)(D:xb)(τ:jw)(L:qo):Prop:=ta τ L λvs L1=>match vs with
 |[v,w]=>D.nx (gE (gE τ i v) j w) L1
 |_=>False
def db(W:α->qo->Prop)(x:α)(L:qo):Prop:=∃L',qh L' L/\W x L'
theorem HM{W:α->qo->Prop}{x:α}(h:W x L):db W x L:=⟨L,EC L,h⟩
def HN(c:kD)(tb:vh)(D:xb)(τ:jw)(L:qo):Prop:=∃W:Nat->jw->qo->Prop,(∃m,W m τ L)/\∀m τ L,W m τ L->
 c τ L λb L1=>vt b (∃N:jw->qo->Prop,(∀I L',N I L'->∃J,J<m/\W J I L')/\tb { D with nx:=db N,ct:=db N,bk:=D.nx } τ L1)<|D.nx τ L1
@[irreducible] def wD (ys:List Y) (keep:qo->Prop) (g:m9) (tb:vh) (D:xb) (τ:jw) (L1:qo):Prop:=∃W:Nat->jw->qo->Prop,W 0 τ L1/\(∀i τ L,W i τ L->keep L)/\
 (∀i y τ L,ys[i]?=some y->W i τ L->g y τ L λI L2=>tb { D with nx:=db<|W<|i+1,ct:=db<|W<|i+1,bk:=D.nx } I L2)/\∀τ L,W ys.length τ L->D.nx τ L
theorem wz{keep:qo->Prop}{tb:vh}{D:xb}(h:∃W:Nat->jw->qo->Prop,W 0 τ L1/\(∀i τ L,W i τ L->keep L)/\
 (∀i y τ L,ys[i]?=some y->W i τ L->g y τ L λI L2=>tb { D with nx:=db<|W<|i+1,ct:=db<|W<|i+1,bk:=D.nx } I L2)/\∀τ L,W ys.length τ L->D.nx τ L):wD ys keep g tb D τ L1:=by unfold wD;exact h
theorem OG{keep:qo->Prop}{tb:vh}{D:xb}(h:wD ys keep g tb D τ L1):∃W:Nat->jw->qo->Prop,W 0 τ L1/\(∀i τ L,W i τ L->keep L)/\
 (∀i y τ L,ys[i]?=some y->W i τ L->g y τ L λI L2=>tb { D with nx:=db<|W<|i+1,ct:=db<|W<|i+1,bk:=D.nx } I L2)/\∀τ L,W ys.length τ L->D.nx τ L:=by unfold wD at h;exact h
def rV(wi:r_)(g:m9)(tb:vh)(D:xb)(τ:jw)(L:qo):Prop:=wi τ L λys keep L1=>wD ys keep g tb D τ L1
@[irreducible] def sQ (L:qo) (a:Addr) (R:List Y->(qo->Prop)->qo->Prop):Prop:=match L a with
 |some (.lst ys)=>R ys (λL=>L a=some (.lst ys)) L
 |_=>False
theorem ku{a:Addr}{R:List Y->(qo->Prop)->qo->Prop}(h:L a=some (.lst ys))(q:∀keep:qo->Prop,(∀L',L' a=L a->keep L')->R ys keep L):sQ L a R:=by unfold sQ;rw[h];exact q _ λL' I=>I.trans h
theorem sH{a:Addr}{R:List Y->(qo->Prop)->qo->Prop}(h:sQ L a R):∃ys keep,cI L (.ref a)=some ys/\keep L/\(∀L',keep L'->cI L' (.ref a)=some ys)/\R ys keep L:=by
 unfold sQ at h;split at h
 ·rename_i ys e;exact⟨ys,_,wr e,e,λL' I=>wr I,h⟩
 ·exact h.elim
def dr(tl:xt)(τ:jw)(L:qo)(R:List Y->(qo->Prop)->qo->Prop):Prop:=tl τ L λx L1=>match x with
 |.ref a=>sQ L1 a R
 |.sq ys=>R ys (λ_=>True) L1
 |_=>False
def OH(tl:xt)(τ:jw)(L:qo)(R:List Y->(qo->Prop)->qo->Prop):Prop:=tl τ L λx L1=>match x with
 |.tup ys=>R ys (λ_=>True) L1
 |_=>False
def a8(lo:Int)(n:Nat):List Y:=(List.range n).map λk=>.int<|lo+(k:Nat)
def mZ(ta:fV)(τ:jw)(L:qo)(R:List Y->(qo->Prop)->qo->Prop):Prop:=ta τ L λvs L1=>match vs with
 |[.int j]=>(-(2 ^ 62)<=j/\j<2 ^ 62)/\R (a8 0 j.toNat) (λ_=>True) L1
 |_=>False
def Fs(_:jw)(L:qo)(Q:Bool->qo->Prop):Prop:=Q true L
@[irreducible] def k_ (ys:List Y) (keep:qo->Prop) (n:Nat) (g:m9) (tc:kD) (te:xt) (τ:jw) (L1:qo) (Q:YK):Prop:=ys.length<sizeLine/\∃W:Nat->List Y->qo->Prop,W 0 [] L1/\(∀i zs L,W i zs L->keep L)/\
 (∀i y zs L,ys[i]?=some y->W i zs L->g y (τ++List.replicate n none) L λI L2=>tc I L2 λb L3=>vt b (te I L3 λz J=>db (W<|i+1) (zs++[z]) J)<|db (W<|i+1) zs L3)/\
 ∀zs L,W ys.length zs L->∀p,L p=none->Q (.ref p) (qi L p<|.lst zs)
theorem OI{keep:qo->Prop}{tc:kD}{Q:YK}(h:ys.length<sizeLine/\∃W:Nat->List Y->qo->Prop,W 0 [] L1/\(∀i zs L,W i zs L->keep L)/\
 (∀i y zs L,ys[i]?=some y->W i zs L->g y (τ++List.replicate n none) L λI L2=>tc I L2 λb L3=>vt b (te I L3 λz J=>db (W<|i+1) (zs++[z]) J)<|db (W<|i+1) zs L3)/\
 ∀zs L,W ys.length zs L->∀p,L p=none->Q (.ref p) (qi L p<|.lst zs)):k_ ys keep n g tc te τ L1 Q:=by unfold k_;exact h
theorem OJ{keep:qo->Prop}{tc:kD}{Q:YK}(h:k_ ys keep n g tc te τ L1 Q):ys.length<sizeLine/\∃W:Nat->List Y->qo->Prop,W 0 [] L1/\(∀i zs L,W i zs L->keep L)/\
 (∀i y zs L,ys[i]?=some y->W i zs L->g y (τ++List.replicate n none) L λI L2=>tc I L2 λb L3=>vt b (te I L3 λz J=>db (W<|i+1) (zs++[z]) J)<|db (W<|i+1) zs L3)/\
 ∀zs L,W ys.length zs L->∀p,L p=none->Q (.ref p) (qi L p<|.lst zs):=by unfold k_ at h;exact h
def s_(n:Nat)(wi:r_)(g:m9)(tc:kD)(te:xt)(τ:jw)(L:qo)(Q:YK):Prop:=wi τ L λys keep L1=>k_ ys keep n g tc te τ L1 Q
abbrev zh:=List Y->qo->YK->Prop
def jk(sp:zh)(t:fV)(τ:jw)(L:qo)(Q:YK):Prop:=t τ L λys L1=>sp ys L1 Q
def x9(x:Y)(vs:List Y)(L:qo)(Q:YK):Prop:=match x,vs with
 |.ref a,[v]=>fP L a λys=>ys.length<sizeLine/\Q .non (qi L a<|.lst<|ys++[v])
 |_,_=>False
theorem wg.imp{f:Value->Value->Sem Value}{r U:R2}(h:wg X f r)(q:∀x y H Q,U x y H Q->r x y H Q):wg X f U:=λJ s g H x y v u Q I j l z=>h J s g H x y v u Q I j l<|q x y H Q z
theorem wg.imq{f:Value->Value->Sem Value}{r:R2}{u:nv}(h:wg X f r)(q:∀x y H Q x3 I L J,RV G H x3 x->RV G H I y->zy G H L->u x3 I L J->tR G H J Q->r x y H Q):wg X f (iI G u):=wg.imp h λx y H Q ψ=>(by obtain⟨x3,I,L,J,a,b,c,d,e⟩:=ψ;exact q x y H Q x3 I L J a b c d e)
abbrev EV:=@wg.imq
theorem jn.imp{f:Value}{r U:List V->Hp->VK->Prop}(h:jn X f r)(q:∀x H Q,U x H Q->r x H Q):jn X f U:=λJ s g H x v Q I j z=>h J s g H x v Q I j<|q x H Q z
theorem jn.imq{f:Value}{r:List V->Hp->VK->Prop}{u:List Y->qo->YK->Prop}(h:jn X f r)(q:∀xs H Q ys L I,xr G H ys xs->zy G H L->u ys L I->tR G H I Q->r xs H Q):jn X f (b_ G u):=jn.imp h λxs H Q ψ=>(by obtain⟨ys,L,I,a,b,c,d⟩:=ψ;exact q xs H Q ys L I a b c d)
abbrev EN:=@jn.imq
theorem IxR.imp{r U:R2}(h:IxR X r)(q:∀x y H Q,U x y H Q->r x y H Q):IxR X U:=λvalue slice J s g H x y v u Q I j l z=>h value slice J s g H x y v u Q I j l<|q x y H Q z
theorem o5.imp{id:String}{r U:V->List V->Hp->VK->Prop}(h:o5 X id r)(q:∀x xs H Q,U x xs H Q->r x xs H Q):o5 X id U:=λJ s g H x xs v j Q I l o z=>h J s g H x xs v j Q I l o<|q x xs H Q z
theorem mQ{v:V}(U:zy G H L)(r:RV G H y v)(h:cI L y=some ys):∃p xs,v=.ref p/\(aF G.K H p xs\/dS G.K H p xs)/\xr G H ys xs:=by
 cases y with
 |tup J=>
  obtain⟨a,xs,e,s,q⟩:=r;cases h;exact⟨a,xs,e,.inr s,q⟩
 |sq J=>
  obtain⟨a,xs,e,s,q⟩:=r;cases h;exact⟨a,xs,e,.inl s.sq,q⟩
 |ref a=>
  cases (show v=.ref a from r);have I:(match L a with|some (.lst ys)=>some ys|_=>none)=some ys:=h;split at I
  ·rename_i J e;cases I;obtain⟨xs,g,q⟩:=U a _ e;exact⟨a,xs,rfl,.inl<|aF.of g,q⟩
  ·cases I
 |_=>cases h
theorem OK{i:Int}(s:xr G H ys xs)(h:fQ ys i=some y):∃x,fQ xs i=some x/\RV G H y x:=by
 unfold fQ at h ⊢;rw[<-s.length];cases e:yo ys.length i with
 |none=>rw[e] at h;cases h
 |some j=>
  rw[e] at h;exact s.get (i:=j) h
section
variable {a b c:Expr}{tc:xt}
abbrev QE(X:Cx)(e:Expr)(t:xt):Prop:=PE X e<|mv X.g3 t
abbrev QT(X:Cx)(e:Expr)(t:kD):Prop:=PT X e<|i_ X.g3 t
abbrev QW(X:Cx)(e:Expr)(t:kD):Prop:=PW X e<|i_ X.g3 t
abbrev QA(X:Cx)(es:List Expr)(t:fV):Prop:=PA X es<|HI X.g3 t
abbrev QS(X:Cx)(st:Stmt)(t:vh):Prop:=PS X st<|A_ X.g3 t
abbrev nO(X:Cx)(st:List Stmt)(t:vh):Prop:=gZ X st<|A_ X.g3 t
abbrev QG(X:Cx)(e:Expr)(g:m9):Prop:=PG X e<|Fp X.g3 g
abbrev E9(X:Cx)(es:List Expr)(g:sG):Prop:=PGs X es<|Ow X.g3 g
abbrev QI(X:Cx)(tg it:Expr)(w:r_):Prop:=PI X tg it<|F_ X.g3 w
abbrev QF(X:Cx)(es:List Expr)(t:kD):Prop:=PF X es<|i_ X.g3 t
theorem QE.of_var(h:PE X e<|FM i):QE X e (qf i):=EF h λj H Q l L o I J z k=>by
 unfold qf at z;split at z
 ·rename_i y U;obtain⟨v,ev,g⟩:=I.get i y<|rF _ _ U;exact⟨v,ev,k v H y L (ED _) J g z⟩
 ·exact z.elim
theorem QE.of_c{v:V}(h:PE X e<|tC v)(q:∀H,RV X.g3 H y v):QE X e (yC y):=EF h λJ H Q U L g j I z k=>k v H y L (ED _) I (q H) z
theorem qv(i:Nat)(hN:X.N[i]?=some x:=by rfl)(J:y_ X.env.scope x:=by first|exact Or.inl rfl|exact Or.inr (Or.inl rfl)|exact Or.inr<|Or.inr rfl)(hd:Ey x:=by decide)
 (I:Ez x:=by decide):QE X (.Name x pos) (qf i):=QE.of_var<|pv i hN J hd I
theorem eM :QE X (.Constant .none j pos) (yC .non):=QE.of_c Lp λ_=>rfl
theorem aS{b:Bool} :QE X (.Constant (.bool b) j pos) (yC<|.bl b):=QE.of_c Lo λ_=>rfl
theorem qc{i:Int} :QE X (.Constant (.int i) j pos) (yC<|.int i):=QE.of_c Ln λ_=>rfl
theorem jx :QE X (.Constant (.str x) j pos) (yC<|.str x):=QE.of_c cg λ_=>rfl
theorem OL{c:Addr}(I:Gl X x)(J:X.mg x=some (.ref c))(q:∀H,RV X.g3 H y<|.ref c)(hd:Ey x:=by decide):QE X (.Name x pos) (yC y):=QE.of_c (N0 I J hd) q
theorem wU{r:nv}(σ:St)(H:Hp)(Q:VK):mv G (xx r ta tb) σ H Q->Ei (iI G r) (mv G ta) (mv G tb) σ H Q:=λ ψ=>by
 obtain⟨j,L,t,l,C,z,k⟩:=ψ
 exact ⟨j,L,_,l,C,z,λv H1 y T o I J z1=>⟨j,T,_,l.ts o,I,z1,λv2 H2 y2 L2 p U g z2=>⟨y,y2,L2,t,J.ts p,g,U,z2,k.ts<|o.trans p⟩⟩⟩
theorem qj{op:Operator}{r:nv}(h:wg X (binaryOp op)<|iI X.g3 r)(I:QE X a ta)(J:QE X b tb):QE X (.BinOp a op b pos) (xx r ta tb):=EU (Mw h I J) wU
theorem OM{r:nv}(h:IxR X<|iI X.g3 r)(I:QE X a ta)(J:QE X b tb)(U:qN b):QE X (.Subscript a b pos) (xx r ta tb):=EU (Nv h I J U) wU
theorem pP{op:CmpOp}{r:nv}(h:wg X (compareOp op)<|iI X.g3 r)(I:QE X a ta)(J:QE X b tb)(U:behindInMarks op b=false):QE X (.Compare a [op] [b] pos) (xx r ta tb):=EU (MJ h I J U) wU
theorem Gd{t:xt}(σ:St)(H:Hp)(Q:Bool->Hp->Prop):i_ G (yB t) σ H Q->FZ (mv G t) σ H Q:=λ ψ=>by
 obtain⟨g,L,C,j,l,z,k⟩:=ψ
 exact ⟨g,L,_,j,l,z,λv o y p r I J U=>by cases y with|bl b=>exact⟨b,J,k b o p r I U⟩|_=>exact U.elim⟩
theorem HQ{t:xt}(σ:St)(H:Hp)(Q:Bool->Hp->Prop):i_ G (yB t) σ H Q->L2.tB (mv G t) σ H Q:=Gd σ H Q
theorem jq{op:CmpOp}{r:nv}(h:wg X (compareOp op)<|iI X.g3 r)(J:QE X a ta)(U:QE X b tb)(g:behindInMarks op b=false):QT X (.Compare a [op] [b] pos) (yB<|xx r ta tb):=
 PT.imp (MK h J U g) λI H Q q=>by have j:=Gd I H Q q;obtain⟨l,L,o,p,t,z,k⟩:=j;exact wU I H _ ⟨l,L,o,p,t,z,k⟩
theorem vm(h:QE X e te)(I:∀whole,isTrue e X.env whole=(do let v <-whole;standAt e.pos;holding [v] (truthy v)):=by intro _;rfl):QT X e (yB te):=PT.imp (Lv h I) HQ
theorem Ge{f:Value->Value->Sem Value}{C:Int->Int->Prop}{g:Int->Int->V}{g3:Int->Int->Y}(h:wg X f<|rI C g)(e:∀i j H,RV X.g3 H (g3 i j)<|g i j):wg X f (iI X.g3<|yI C g3):=EV h λx y H Q J I L p U l o z k=>by
 cases J with
 |int i=>
  cases I with|int j=>exact⟨i,j,U,l,z.1,k _ H _ L (ED _) o (e i j H) z.2⟩|_=>exact z.elim
 |_=>cases I<;>exact z.elim
theorem Ft{f:Value->Value->Sem Value}{g:Int->Int->V}{g3:Int->Int->Y}(h:wg X f<|q_ g)(e:∀i j H,RV X.g3 H (g3 i j)<|g i j):wg X f (iI X.g3<|n_ g3):=EV h λx y H Q J I L p U l o z k=>by
 cases J with
 |int i=>
  cases I with|int j=>exact⟨i,j,U,l,k _ H _ L (ED _) o (e i j H) z⟩|_=>exact z.elim
 |_=>cases I<;>exact z.elim
theorem cX:wg X (binaryOp .Sub) (iI X.g3<|n_ λi j=>.int<|i-j):=Ft My λ_ _ _=>rfl
theorem fh:wg X (binaryOp .Mult) (iI X.g3<|yI abw λi j=>.int<|i*j):=Ge Mz λ_ _ _=>rfl
theorem vg:wg X (binaryOp .FloorDiv) (iI X.g3<|yI FY λi j=>.int<|i / j):=Ge MA λ_ _ _=>rfl
theorem jj:wg X (binaryOp .Mod) (iI X.g3<|yI (λ_ j=>0<j) λi j=>.int<|i % j):=Ge MB λ_ _ _=>rfl
theorem rm:wg X (compareOp .Lt) (iI X.g3<|n_ λi j=>.bl<|decide<|i<j):=Ft ME λ_ _ _=>rfl
theorem ON:wg X (compareOp .LtE) (iI X.g3<|n_ λi j=>.bl<|decide<|i<=j):=Ft MF λ_ _ _=>rfl
theorem yz:wg X (compareOp .Gt) (iI X.g3<|n_ λi j=>.bl<|decide<|j<i):=Ft MG λ_ _ _=>rfl
theorem jh:wg X (binaryOp .Add) (iI X.g3 bw):=EV NU λx y H Q t J L Q3 U g I z k=>by
 cases t with
 |int i=>
  cases J with|int j=>cases U;cases g;exact k _ H _ L (ED _) I (by rfl) z|_=>exact z.elim
 |str i=>
  cases J with|str j=>cases U;cases g;exact⟨z.1,k _ H _ L (ED _) I (by rfl) z.2⟩|_=>exact z.elim
 |ref a=>
  cases J with
  |ref b=>
   cases U;cases g;obtain⟨ys,zs,C,T,hz,q⟩:=z;obtain⟨xs,h1,o⟩:=I a _ C;obtain⟨us,h2,r⟩:=I b _ T;refine⟨xs,us,h1,h2,by rw[<-o.length,<-r.length];exact hz,λp l=>?_⟩;exact k _ _ _ _ (EE l) (I.newL l<|o.app r) (by rfl)<|q p<|I.none l
  |_=>exact z.elim
 |_=>cases J<;>exact z.elim
theorem uH{kvs:List<|Str×Str}{k:Str}(h:kvs.lookup k=some x):bK (kvs.map λp=>((Sum.inr p.1:jf),V.str p.2)) (Sum.inr k)=some (V.str x):=by
 induction kvs with
 |nil=>simp at h
 |cons p r I=>
  obtain⟨a,b⟩:=p;unfold bK;rw[AG,Bz];rw[BB] at h;by_cases c:k=a
  ·subst c;simp at h;simp[h]
  ·have c1:(k==a)=false:=by simpa using c
   rw[c1] at h;have c2:decide ((Sum.inr a:jf)=Sum.inr k)=false:=AE λz=>c (Sum.inr.inj z).symm;simp only[c2];exact I h
theorem oO{xs:List<|jf×V}{k:jf}(p:Paired (λ(p:jf×Y) (q:jf×V)=>p.1=q.1/\RV G H p.2 q.2) kvs xs)(h:kn kvs k=some y):∃x,bK xs k=some x/\RV G H y x:=by
 induction p with
 |nil=>cases h
 |@cons a b _ _ r t U=>
  obtain⟨I,l⟩:=a;obtain⟨g,j⟩:=b;obtain⟨e,r⟩:=r;cases (show I=g from e);unfold kn at h;unfold bK;rw[Bz] at h ⊢;by_cases c:I=k
  ·have J:decide (I=k)=true:=AM c;simp only[J] at h ⊢;cases h;exact⟨j,rfl,r⟩
  ·have J:decide (I=k)=false:=AE c;simp only[J] at h ⊢;exact U h
theorem OO(K:Af)(P:Program)(w:World)(hK:X.K=K:=by rfl)(hP:X.prog=P:=by rfl)(hw:X.w=w:=by rfl):IxR X (iI ⟨K,P,w⟩ fY):=by
 subst hK hP hw;refine IxR.imp NV λx y H Q ψ=>?_;obtain⟨x3,j,L,Q3,I,l,o,z,k⟩:=ψ;have seq:∀{i:Int} {x3:Y},RV X.g3 H x3 x->y=.int i->(jY L x3 λg=>c_ L Q3<|fQ g i)->HE X.K X.prog X.w x y H Q:=by
  intro i x3 I ey z;subst ey;obtain⟨g,es,z⟩:=aT z;obtain⟨p,C,e,sq,rv⟩:=mQ o I es;subst e;cases ea:fQ g i with
  |none=>rw[ea] at z;exact z.elim
  |some y=>
   rw[ea] at z;obtain⟨x,ex,T⟩:=OK rv ea;exact⟨C,x,sq,ex,k _ H _ L (ED _) o T z⟩
 cases x3 with
 |str s=>
  cases j with
  |int i=>
   cases I;cases l;obtain⟨z1,r⟩:=z;cases ea:fQ s.cps.toList i with
   |none=>rw[ea] at r;exact r.elim
   |some c=>rw[ea] at r;exact⟨z1,c,ea,k _ H _ L (ED _) o (by rfl) r⟩
  |_=>exact z.elim
 |cd J=>
  cases j with
  |str s=>
   obtain⟨a,ea,kd⟩:=I;cases ea;cases l;have U:c_ L (λs L=>Q3 (.str s) L) (J.lookup s):=z;cases el:J.lookup s with
   |none=>rw[el] at U;exact U.elim
   |some t=>rw[el] at U;exact⟨_,_,.inr kd,uH el,k _ H _ L (ED _) o (by rfl) U⟩
  |int i=>exact z.elim
  |_=>exact z.elim
 |ref a=>
  cases j with
  |int i=>exact seq (x3:=.ref a) I l z
  |str s=>
   cases I;cases l;obtain⟨J,e,U⟩:=gt z;obtain⟨C,e2,pr⟩:=o a _ e;cases ev:kn J (Sum.inr s) with
   |none=>rw[ev] at U;exact U.elim
   |some y=>
    rw[ev] at U;obtain⟨x,ex,I⟩:=oO pr ev;exact⟨C,x,.inl<|.inl e2,ex,k _ H _ L (ED _) o I U⟩
  |_=>exact z.elim
 |tup g=>
  cases j with|int i=>exact seq (x3:=.tup g) I l z|_=>exact z.elim
 |sq g=>
  cases j with|int i=>exact seq (x3:=.sq g) I l z|_=>exact z.elim
 |_=>cases j<;>exact z.elim
theorem xr.inv1(h:xr G H [y] xs):∃x,xs=[x]/\RV G H y x:=by obtain⟨x,I,e,r,s⟩:=h;cases (show I=[] from s);exact⟨x,e,r⟩
theorem xr.inv2{J:Y}(h:xr G H [y,J] xs):∃x I,xs=[x,I]/\RV G H y x/\RV G H J I:=by obtain⟨x,U,e,r,s⟩:=h;obtain⟨I,g,j⟩:=s.inv1;exact⟨x,I,by rw[e,g],r,j⟩
theorem OP(K:Af)(P:Program)(w:World)(g:X.K=K:=by rfl)(j:X.prog=P:=by rfl)(hw:X.w=w:=by rfl):jn X (.builtin "len") (b_ ⟨K,P,w⟩ A'):=by
 subst g j hw;refine EN NX λC H Q l L T U I z k=>?_;unfold A' at z;split at z
 ·obtain⟨x,rfl,r⟩:=U.inv1;cases r;exact⟨z.1,k _ H _ L (ED _) I (by rfl) z.2⟩
 ·rename_i y _;obtain⟨x,rfl,r⟩:=U.inv1;obtain⟨l,o,z⟩:=aT z;obtain⟨p,t,e,sq,J⟩:=mQ I r o;subst e;refine⟨t,sq,?_⟩;rw[<-J.length];exact k _ H _ L (ED _) I (by rfl) z
 ·exact z.elim
theorem HR(i j:Int):(if j > i then j else i)=max i j:=by split<;>lia
theorem HU(i j:Int):(if j<i then j else i)=min i j:=by split<;>lia
theorem oE(hc:X.calm=true:=by rfl):jn X (.builtin "max") (b_ X.g3 l7):=EN (MN hc) λl H Q o L p I J z k=>by
 unfold l7 at z;split at z
 ·rename_i i j;obtain⟨x,r,rfl,U,g⟩:=I.inv2;cases U;cases g;refine⟨i,j,rfl,?_⟩;rw[HR];exact k _ H _ L (ED _) J (by rfl) z
 ·exact z.elim
theorem tV(hc:X.calm=true:=by rfl):jn X (.builtin "min") (b_ X.g3 nj):=EN (MO hc) λl H Q o L p I J z k=>by
 unfold nj at z;split at z
 ·rename_i i j;obtain⟨x,r,rfl,U,g⟩:=I.inv2;cases U;cases g;refine⟨i,j,rfl,?_⟩;rw[HU];exact k _ H _ L (ED _) J (by rfl) z
 ·exact z.elim
end
section
variable {a b c:Expr}{tc:xt}
theorem eh{a:Addr}(J:zy G H L)(h:cI L (.ref a)=some ys):∃xs,aF G.K H a xs/\xr G H ys xs:=by
 have I:(match L a with|some (.lst ys)=>some ys|_=>none)=some ys:=h;split at I
 ·rename_i e;cases I;obtain⟨xs,U,q⟩:=J a _ e;exact⟨xs,aF.of U,q⟩
 ·cases I
theorem iR{v:V}(I:zy G H L)(r:RV G H y v)(J:Gc y=true)(h:cI L y=some ys):∃a xs,v=.ref a/\aF G.K H a xs/\xr G H ys xs:=by
 cases y with
 |ref a=>obtain⟨xs,s,q⟩:=eh I h;exact⟨a,xs,r,s,q⟩
 |sq U=>obtain⟨a,xs,e,s,q⟩:=r;cases h;exact⟨a,xs,e,s.sq,q⟩
 |_=>cases J
theorem ye{G:G3}{v:V}{T:rM}{σ:L2.St}(I:qx X pins σ H s)(C:zy X.g3 H L)(r:RV X.g3 H y v)(J:zv v u)(h:Cp L y=some T)
 {c:Value} {b:Bool} (e:PySem.W.kitOne X.K (.type T.nm) c=some b) (U:∀tk,Q (.bool b) { s with toks:=tk }):
 wpAny (model X.prog X.w) A (call (.builtin "isinstance") [u,c]) Q E s:=by
 cases y with
 |non=>cases h;cases r;exact af I J .non e U
 |bl b=>cases h;cases r;exact af I J (.bl _) e U
 |int i=>cases h;cases r;exact af I J (.int _) e U
 |str x=>cases h;cases r;exact af I J (.str _) e U
 |tup ys=>
  cases h;obtain⟨a,j,rfl,sq,_⟩:=r;cases (show u=Value.ref a from J);obtain⟨l,_,⟨o,h1,h2,_⟩,_⟩:=I.tuple sq;exact Bq PySem.W.kitx_tuple I.kIn ⟨o,h1,h2⟩ e (λz=>nomatch z) U
 |sq ys=>
  cases h;obtain⟨a,j,rfl,sq,_⟩:=r;cases (show u=Value.ref a from J);obtain⟨l,_,⟨o,n,h1,h2,_⟩,_⟩:=I.list sq.sq;exact Bq DR I.kIn ⟨o,h1,h2⟩ e (λz=>nomatch z) U
 |ref a=>
  cases (show v=.ref a from r);have g:(match L a with|some (.lst _)=>some rM.list|some (.dct _)=>some .dict|_=>none)=some T:=h;split at g
  ·rename_i ys p;cases g;obtain⟨j,t,_⟩:=C a _ p;exact af I J (.lst t) e U
  ·rename_i a1 p;cases g;obtain⟨j,t,_⟩:=C a _ p;exact af I J (.dK t) e U
  ·cases g
 |_=>cases h
theorem OQ(K:Af):∀T S:rM,PySem.W.kitOne K (.type T.nm) (.type S.nm)=some (Ga T S):=by intro T S;cases T<;>cases S<;>rfl
def OR(G:G3)(S:rM):List V->Hp->VK->Prop:=λxs H Q=>∃y v L I T,xs=[v,.ty S.nm]/\RV G H y v/\zy G H L/\Cp L y=some T/\I (.bl<|Ga T S) L/\tR G H I Q
theorem OS(S:rM):jn X (.builtin "isinstance") (OR X.g3 S):=by intro J s o H p t Q I r h;obtain⟨y,v,L,C,T,rfl,g,U,ty,q,k⟩:=h;obtain⟨u,c,rfl,j,l⟩:=zw.two r;cases (show c=Value.type S.nm from l);exact jy I.tk<|ye (G:=X.g3) I U g j ty (OQ _ T S) λtk ht=>⟨.bl _,H,I.tok _,rfl,k _ H _ L (ED _) U (by rfl) q⟩
theorem ky{p:Pos}{I:Str}(S:rM)(t:Gl X "isinstance")(C:X.mg "isinstance"=none)(J:Gl X I)(U:X.mg I=none)(g:bootBuiltins I=some (.type S.nm))(ha:QE X a ta)
 (hn:I ≠ "__name__" := by decide) (hd:(I==("__debug__" : Str))=false:=by decide)
 (hs:starEach [a,.Name I p1] X.env=(false,eval a X.env)::starEach [.Name I p1] X.env:=by rfl) (j:starEach [.Name I p1] X.env=(false,eval (.Name I p1) X.env)::starEach [] X.env:=by rfl)
 (hp:(backTo pos<|starEach [.Name I p1] X.env).any (·.1)=false:=by rfl):
 QE X (.Call (.Name "isinstance" p) [a,.Name I p1] [] pos) (Gb S ta):=by
 refine EU (tU (OS S) t C nr (fH ha (fH (N4 J U g hn hd) me j) hs) (by decide) (by decide) hs hp) ?_;rintro σ H Q ⟨τ,L,Q3,rs,rl,z,k⟩;refine⟨τ,L,_,rs,rl,z,λv H1 y L1 t1 l o r=>?_⟩;obtain⟨T,et,r⟩:=OD r;exact⟨y,v,L1,Q3,T,rfl,o,l,et,r,k.ts t1⟩
def iA(neg:Bool)(x y:Y)(L:qo)(Q:YK):Prop:=jY L y λys=>mL x=true/\ys.all mL=true/\Q (.bl<|nb neg<|rO (fU x)<|ys.map fU) L
theorem HV(neg:Bool){op:CmpOp}(h:wg X (compareOp op)<|F5 X.K neg):wg X (compareOp op) (iI X.g3<|iA neg):=EV h λx y H Q I t L C g j U z k=>by
 obtain⟨J,l,f1,f2,q⟩:=aT z;obtain⟨p,T,e,sq,o⟩:=mQ U j l;rw[g.flat f1];rw[o.flat f2] at sq;refine⟨p,_,e,sq,gh f1,?_,?_⟩
 ·rw[List.all_map,Dx];intro y r;exact gh<|Dx.mp f2 y r
 ·have:(if neg=true then !rO (fU I) (J.map fU) else rO (fU I) (J.map fU))=(nb neg<|rO (fU I)<|J.map fU):=by cases neg<;>simp[nb]
  rw[this];exact k _ H _ L (ED _) U (by rfl) q
theorem sE(K:Af)(P:Program)(w:World)(I:X.K=K:=by rfl)(J:X.prog=P:=by rfl)(hw:X.w=w:=by rfl):wg X (compareOp .In) (iI ⟨K,P,w⟩<|iA false):=by subst I J hw;exact HV false NG
theorem mV(K:Af)(P:Program)(w:World)(I:X.K=K:=by rfl)(J:X.prog=P:=by rfl)(hw:X.w=w:=by rfl):wg X (compareOp .NotIn) (iI ⟨K,P,w⟩<|iA true):=by subst I J hw;exact HV true rB
theorem xa.rep{G:G3}{H:Hp}{L:qo}(j:zy G H L):∀{n:Nat} {y:Y} {d:Da} {v:V},xa L n y d->RV G H y v->vo G.K H n v d
 |0,y,d,v,ψ,r=>by obtain⟨f,e⟩:=ψ;rw[r.flat f];exact⟨e,gh f⟩
 |n+1,y,d,v,h,r=>by
  have both:∀{U:List Y} {J:List Da} {I:List V},Paired (xa L n) U J->xr G H U I->Paired (vo G.K H n) I J:=by
   intro U J I p
   induction p generalizing I with
   |nil=>intro r;cases (show I=[] from r);exact .nil
   |cons q t l=>
    rintro⟨x,o,rfl,C,T⟩;exact .cons (xa.rep j q C)<|l T
  rcases h with⟨f,e⟩|⟨U,J,rfl,rfl,p⟩|⟨U,J,hy,rfl,es,p⟩
  ·rw[r.flat f];exact .inl ⟨e,gh f⟩
  ·obtain⟨a,I,rfl,sq,g⟩:=r;exact .inr<|.inl ⟨a,I,J,rfl,rfl,sq,both p g⟩
  ·obtain⟨a,I,rfl,sq,g⟩:=iR j r hy es;exact .inr<|.inr ⟨a,I,J,rfl,rfl,sq,both p g⟩
theorem kK{v:V}(h:zF y=true)(r:RV G H y v):∃a,v=.ref a:=by
 cases y with
 |ref a=>exact⟨a,r⟩
 |tup I=>obtain⟨a,J,e,_⟩:=r;exact⟨a,e⟩
 |sq I=>obtain⟨a,J,e,_⟩:=r;exact⟨a,e⟩
 |_=>cases h
theorem Gf(K:Af)(P:Program)(w:World)(g:X.A.units+128<cLine)(l:X.K=K:=by rfl)(o:X.prog=P:=by rfl)(hw:X.w=w:=by rfl):wg X (compareOp .Eq) (iI ⟨K,P,w⟩<|j_ false):=by
 subst l o hw;refine EV (NZ g) λx y H Q t C L p J U I z k=>?_;unfold j_ at z;split at z
 ·rename_i i j;cases J;cases U;refine⟨rfl,?_⟩;have:decide (V.int i=V.int j)=nb false (decide<|i=j):=by rw[BR];simp[nb]
  rw[this];exact k _ H _ L (ED _) I (by rfl) z
 ·rename_i i j;cases J;cases U;refine⟨rfl,?_⟩;have:decide (V.str i=V.str j)=nb false (decide<|i=j):=by rw[BR];simp[nb]
  rw[this];exact k _ H _ L (ED _) I (by rfl) z
 ·rename_i i j;cases J;cases U;refine⟨rfl,?_⟩;have:decide (V.bl i=V.bl j)=nb false (decide<|i=j):=by rw[BR];simp[nb]
  rw[this];exact k _ H _ L (ED _) I (by rfl) z
 ·obtain⟨f1,f2,n,m,d,e,r,h1,h2,q⟩:=z;obtain⟨a,rfl⟩:=kK f1 J;obtain⟨b,rfl⟩:=kK f2 U;have q:p (.bl<|Da.eq d e) L:=q;exact⟨n,m,d,e,r,h1.rep I J,h2.rep I U,k _ H _ L (ED _) I (by rfl) q⟩
theorem OT(K:Af)(P:Program)(w:World)(g:X.A.units+128<cLine)(l:X.K=K:=by rfl)(o:X.prog=P:=by rfl)(hw:X.w=w:=by rfl):wg X (compareOp .NotEq) (iI ⟨K,P,w⟩<|j_ true):=by
 subst l o hw;refine EV (Og g) λx y H Q t C L p J U I z k=>?_;unfold j_ at z;split at z
 ·rename_i i j;cases J;cases U;refine⟨rfl,?_⟩;have:(!decide (V.int i=V.int j))=nb true (decide<|i=j):=by show _=!_;congr 1;rw[BR];simp
  rw[this];exact k _ H _ L (ED _) I (by rfl) z
 ·rename_i i j;cases J;cases U;refine⟨rfl,?_⟩;have:(!decide (V.str i=V.str j))=nb true (decide<|i=j):=by show _=!_;congr 1;rw[BR];simp
  rw[this];exact k _ H _ L (ED _) I (by rfl) z
 ·rename_i i j;cases J;cases U;refine⟨rfl,?_⟩;have:(!decide (V.bl i=V.bl j))=nb true (decide<|i=j):=by show _=!_;congr 1;rw[BR];simp
  rw[this];exact k _ H _ L (ED _) I (by rfl) z
 ·obtain⟨f1,f2,n,m,d,e,r,h1,h2,q⟩:=z;obtain⟨a,rfl⟩:=kK f1 J;obtain⟨b,rfl⟩:=kK f2 U;have q:p (.bl<|!Da.eq d e) L:=q;exact⟨n,m,d,e,r,h1.rep I J,h2.rep I U,k _ H _ L (ED _) I (by rfl) q⟩
theorem RV.non_iff{v:V}(r:RV G H y v):decide (v=.non)=(match y with|.non=>true|_=>false):=by
 cases y with
 |non=>cases r;rfl
 |cd I=>obtain⟨a,rfl,_⟩:=r;rfl
 |tup J=>obtain⟨a,U,rfl,_⟩:=r;rfl
 |sq J=>obtain⟨a,U,rfl,_⟩:=r;rfl
 |_=>cases r;rfl
theorem HW(σ:L2.St)(H:Hp)(Q:VK):mv G (dY false ta) σ H Q->Hc (mv G ta) σ H Q:=λ ψ=>by
 obtain⟨U,L,t,g,j,z,k⟩:=ψ
 exact ⟨U,L,_,g,j,z,λv l y o p I J r=>by dsimp only;rw[J.non_iff];cases y<;>exact k _ l _ o p I (by rfl) r⟩
theorem OU(σ:L2.St)(H:Hp)(Q:VK):mv G (dY true ta) σ H Q->Hd (mv G ta) σ H Q:=λ ψ=>by
 obtain⟨U,L,t,g,j,z,k⟩:=ψ
 exact ⟨U,L,_,g,j,z,λv l y o p I J r=>by dsimp only;rw[J.non_iff];cases y<;>exact k _ l _ o p I (by rfl) r⟩
theorem vW(h:QE X a ta):QE X (.Compare a [.Is] [.Constant .none j fy] pos) (dY false ta):=EU (Lu<|He h) HW
theorem HX{t:TE}(h:∀σ H Q,mv G te σ H Q->t σ H Q)(σ:L2.St)(H:Hp)(Q:Bool->Hp->Prop):i_ G (yB te) σ H Q->L2.tB t σ H Q:=λq=>h σ H _<|HQ σ H Q q
theorem gF(h:QE X a ta):QT X (.Compare a [.Is] [.Constant .none j fy] pos) (yB<|dY false ta):=PT.imp (Hf<|He h)<|HX HW
theorem xR(h:QE X a ta):QT X (.Compare a [.IsNot] [.Constant .none j fy] pos) (yB<|dY true ta):=PT.imp (Hf<|Ls h)<|HX OU
end
section
variable {a b c:Expr}{rest:List Expr}{tc:xt}{tB:kD}{tr:fV}
theorem a9(h:QT X a tA):QW X (.BoolOp .And [a] pos) tA:=Lz h
theorem iU(h:QT X a tA):QW X (.BoolOp .Or [a] pos) tA:=LA h
theorem dD(h:QT X a tA)(k:QW X (.BoolOp .And (b::rest) pos) tB):QW X (.BoolOp .And (a::b::rest) pos) (yj tA tB):=PW.imq (LB h k) λt H Q U L o g p z k=>
 ⟨U,L,_,g,p,z,λc r j J I l=>by cases c with|true=>rw[AB rfl];exact⟨U,j,o,g.ts J,I,l,k.ts J⟩|false=>rw[AC AH];exact k _ r j J I l⟩
theorem iC(h:QT X a tA)(k:QW X (.BoolOp .Or (b::rest) pos) tB):QW X (.BoolOp .Or (a::b::rest) pos) (wX tA tB):=PW.imq (LC h k) λt H Q U L o g p z k=>
 ⟨U,L,_,g,p,z,λc r j J I l=>by cases c with|true=>rw[AB rfl];exact k _ r j J I l|false=>rw[AC AH];exact⟨U,j,o,g.ts J,I,l,k.ts J⟩⟩
theorem bF(h:QW X a tA):QT X a tA:=PW.pt h
theorem gL(h:QT X a tA):QT X (.UnaryOp .Not a pos) (wC tA):=PT.imq (LD h) λr H Q J L t U g z k=>
 ⟨J,L,_,U,g,z,λc j l o I p=>k _ j l o I p⟩
theorem lT{op:BoolOp}(h:QE X a ta):QE X (.BoolOp op [a] pos) ta:=LI h
theorem mw(h:QE X a ta)(k:QE X (.BoolOp .And (b::rest) pos) tb):QE X (.BoolOp .And (a::b::rest) pos) (rX ta tb):=EF (LJ h k) λT H Q U L g o t z k=>
 ⟨U,L,_,o,t,z,λv C y J j I l p=>by
  cases y with
  |bl c=>
   refine⟨c,l,?_⟩;have r:vt c (tb U J g) (g (.bl false) J):=p;cases c with|true=>rw[AB rfl];exact⟨U,J,g,o.ts j,I,r,k.ts j⟩|false=>rw[AC AH];exact k _ C _ J j I (by rfl) r
  |_=>exact p.elim⟩
theorem OV(h:QE X a ta):QE X (.UnaryOp .Not a pos) (OE ta):=EF (LK h) λt H Q g L C j l z k=>
 ⟨g,L,_,j,l,z,λv o y p r I J U=>by cases y with|bl c=>exact⟨c,J,k _ o _ p r I (by rfl) U⟩|_=>exact U.elim⟩
theorem du(h:QT X c tA)(p:QE X a ta)(r:QE X b tb):QE X (.IfExp c a b pos) (E6 tA ta tb):=EF (LM h p r) λC H Q U L j g t z k=>
 ⟨U,L,_,g,t,z,λc T l J I o=>by cases c with|true=>rw[AB rfl];exact⟨U,l,j,g.ts J,I,o,k.ts J⟩|false=>rw[AC AH];exact⟨U,l,j,g.ts J,I,o,k.ts J⟩⟩
theorem wb:QA X [] je:=PA.imq me λJ H Q U L g j I z k=>k _ H _ L (ED _) I (by rfl) z
theorem xz(h:QE X e te)(t:QA X es tr)(hs:Ew e es X:=by rfl):QA X (e::es) (qk te tr):=PA.imq (fH h t hs) λσ H Q j L Q3 l C z k=>
 ⟨j,L,_,l,C,z,λv H1 y T o I J z1=>⟨j,T,_,l.ts o,I,z1,λp H2 ys L2 r U g z2=>k (v::p) H2 (y::ys) L2 (o.trans r) U ⟨v,p,rfl,J.ts r,g⟩ z2⟩⟩
theorem zf(h:QA X es tr):QE X (.Tuple es x1 pos) (aC tr):=EF (MX h) λσ H Q l L Q3 o r z k=>
 ⟨l,L,_,o,r,z,λt H1 j C T U I J=>by
  cases e:Nat.ble j.length 1000 with
  |false=>rw[e] at J;exact J.elim
  |true=>
   rw[e] at J;have:=CH e;refine⟨dz (by rw[<-I.length];exact this),λp g=>?_⟩;exact k _ _ (.tup j) C (T.trans<|EE g) (U.skip g) ⟨p,t,rfl,dS.of zk,I.ts<|EE g⟩ J⟩
theorem js(h:QA X es tr):QE X (.List es pos) (gK tr):=EF (MY h) λC H Q j L T l o z k=>
 ⟨j,L,_,l,o,z,λvs H1 r L1 t I J U=>by
  cases e:Nat.ble r.length 1000 with
  |false=>rw[e] at U;exact U.elim
  |true=>
   rw[e] at U;have:=CH e;refine⟨dz (by rw[<-J.length];exact this),λp g=>?_⟩;exact k _ _ _ _ (t.trans<|EE g) (I.newL g J) (by rfl)<|U p<|I.none g⟩
theorem ji{p:Pos}{id:String}{r:List Y->qo->YK->Prop}(hc:jn X (.builtin id)<|b_ X.g3 r)(U:Gl X x)(g:X.mg x=none)(j:bootBuiltins x=some (.builtin id))(h:QA X (e::es) tr)
 (l:x ≠ "__name__" := by decide) (hd:Ey x:=by decide) (hs:Ew e es X:=by rfl) (o:Ex pos es X:=by rfl):
 QE X (.Call (.Name x p) (e::es) [] pos) (cL r tr):=EF (tU hc U g j h l hd hs o) λσ H Q t L C T rl z k=>
 ⟨t,L,_,T,rl,z,λvs H1 ys L1 t1 I J z1=>⟨ys,L1,C,J,I,z1,k.ts t1⟩⟩
def HY(G:G3)(t:E7):TO:=λσ H Q=>∃τ L I,xn G H σ τ/\zy G H L/\t τ L I/\∀(o:Option Int) H' L',jg H H'->zy G H' L'->I o L'->Q o H'
abbrev QO(X:Cx)(e:Option Expr)(t:E7):Prop:=PO X e<|HY X.g3 t
theorem PO.imp{e:Option Expr}{t u:TO}(h:PO X e t)(q:∀σ H Q,u σ H Q->t σ H Q):PO X e u:=λJ s σ H Q I z=>h J s σ H Q I<|q σ H Q z
theorem PO.imq{e:Option Expr}{t:TO}{u:E7}(h:PO X e t)(q:∀σ H Q τ L I,xn G H σ τ->zy G H L->u τ L I->(∀(o:Option Int) H' L',jg H H'->zy G H' L'->I o L'->Q o H')->t σ H Q):PO X e (HY G u):=PO.imp h λσ H Q ψ=>(by obtain⟨τ,L,I,a,b,c,d⟩:=ψ;exact q σ H Q τ L I a b c d)
theorem rN.imp{U:V->Option Int->Option Int->Hp->VK->Prop}(h:rN X r)(q:∀x lo hi H Q,U x lo hi H Q->r x lo hi H Q):rN X U:=by intro J s g H x v j l lo hi o Q I p t pl C z;exact h J s g H x v j l lo hi o Q I p t pl C<|q _ _ _ _ _ z
theorem bW:QO X none gj:=PO.imq No λJ H Q U L g j I z k=>k _ H L (ED _) I z
theorem aM(h:QE X e te):QO X (some e) (rc te):=PO.imq (Np h) λt H Q g L C j l z k=>
 ⟨g,L,_,j,l,z,λv o y p r I J U=>by cases y with|int i=>exact⟨i,J,k _ o p r I U⟩|_=>exact U.elim⟩
def Fu(G:G3)(r:Y->Option Int->Option Int->qo->YK->Prop):V->Option Int->Option Int->Hp->VK->Prop:=λx lo hi H Q=>∃y L I,RV G H y x/\zy G H L/\r y lo hi L I/\tR G H I Q
theorem wv{lo hi:Option Expr}{tl th:E7}{r:Y->Option Int->Option Int->qo->YK->Prop}(h:rN X<|Fu X.g3 r)(T:QE X a ta)(hl:QO X lo tl)(hh:QO X hi th):QE X (.Subscript a (.Slice lo hi none p2) pos) (E8 r ta tl th):=
 EF (Nr h T hl hh) λσ H Q I L Q3 J rl z k=>
 ⟨I,L,_,J,rl,z,λv H1 y L1 U g j z1=>⟨I,L1,_,J.ts U,g,z1,λo H2 L2 l p z2=>⟨I,L2,_,J.ts<|U.trans l,p,z2,λo' H3 L3 C t z3=>⟨y,L3,Q3,j.ts<|l.trans C,t,z3,k.ts<|U.trans<|l.trans C⟩⟩⟩⟩
theorem qZ(r:xr G H ys xs)(lo hi:Option Int):xr G H (fq ys lo hi) (rS xs lo hi):=by unfold fq rS;rw[r.length];exact(r.drop _).take _
theorem OW(K:Af)(P:Program)(w:World)(l:X.K=K:=by rfl)(o:X.prog=P:=by rfl)(hw:X.w=w:=by rfl):rN X (Fu ⟨K,P,w⟩ HK):=by
 subst l o hw;refine rN.imp NF λx lo g H Q ψ=>?_;obtain⟨y,L,Q3,j,J,z,k⟩:=ψ;cases y with
 |ref a=>
  obtain⟨t,C,T⟩:=ko z;obtain⟨U,sq,r⟩:=eh J<|wr C;exact⟨a,U,j,sq,λp I=>k _ _ _ _ (EE I) (J.newL I<|qZ r lo g) (by rfl)<|T p<|J.none I⟩
 |sq t=>
  obtain⟨a,U,e,sf,r⟩:=j;exact⟨a,U,e,sf.sq,λp I=>k _ _ _ _ (EE I) (J.newL I<|qZ r lo g) (by rfl)<|z p<|J.none I⟩
 |_=>exact z.elim
end
section
variable {a b c iter:Expr}{tc:xt}{tB:kD}{tr:fV}{rest nq:List Stmt}{t u:vh}
theorem z9:nO X [] vz:=gZ.imq LR λD U H g L D3 I J z k=>k.nx _ H _ L (ED _) I J z
theorem qd(h:QS X st t):nO X [st] t:=xV h
theorem qa(h:QS X st t)(k:nO X rest u):nO X (st::rest) (zn t u):=gZ.imq (sK h k) λD T H g L D3 j l z k=>
 ⟨g,L,{ D3 with nx:=u D3 },j,l,z,λo H1 I p r J U C=>⟨I,p,D3,J,U,C,k.ts r⟩,k.rt,k.bk,k.ct⟩
theorem tj:QS X (.Continue pos) OF:=EJ rW λD U H g L D3 I J z k=>k.ct _ H _ L (ED _) I J z
theorem zm(h:QE X e te)(hs:swapsWith e none pos.line X.env=pure false:=by rfl):QS X (.Expr e pos) (wo te):=EJ (LV h hs) λD t H g L D3 J j z k=>
 ⟨g,L,_,J,j,z,λv l y o U I p r=>k.nx _ l _ o U (J.ts U) I r⟩
theorem qz(h:QE X e te):QS X (.Return (some e) pos) (we te):=EJ (LX h) λD g H I L D3 J U z k=>⟨I,L,_,J,U,z,k.rt⟩
theorem yN:QS X (.Return none pos) HL:=EJ LZ λD J H U L D3 g I z k=>k.rt _ H _ L (ED _) I (by rfl) z
theorem zu(h:QT X c tA)(o:nO X body t)(p:nO X nq u):QS X (.If c body nq pos) (aG tA t u):=EJ (Mb h o p) λD C H U L D3 g r z k=>
 ⟨U,L,_,g,r,z,λc T j J I l=>by cases c with|true=>rw[AB rfl];exact⟨U,j,D3,g.ts J,I,l,k.ts J⟩|false=>rw[AC AH];exact⟨U,j,D3,g.ts J,I,l,k.ts J⟩⟩
theorem am(hN:X.N.Nodup)(I:X.N[i]?=some x)(r:Loc X.env.scope x)(h:QE X e te)(J:swapsWith e (some<|.Name x fy) pos.line X.env=pure false:=by rfl)
 (U:X.fn x=true\/X.env.scope.names.lookup x=some .local:=by first|exact .inl rfl|exact .inr rfl|assumption):QS X (.Assign [.Name x fy] e pos) (x5 te<|qp i):=EJ (Hi hN I r h J U) λD σ H l L D3 o t z k=>
 ⟨l,L,_,o,t,z,λv C y T p g j z1=>k.nx _ C _ T p (show xn _ _ _ (gE l i y) by rw[bZ];exact(o.ts p).set j) g z1⟩
theorem cB(h:QE X e te)(o:QG X tg g)(h1:swapsWithSole [tg] e pos.line X.env=pure false:=by rfl)(h2:swappedStores [tg] e X.env=pure none:=by rfl)
 (h3:(assignEach [tg] X.env).map (·.2)=[assign tg X.env]:=by rfl):QS X (.Assign [tg] e pos) (x5 te g):=EJ (Hh h o h1 h2 h3) λD C H U L D3 j p z k=>
 ⟨U,L,_,j,p,z,λv T y r l I J t=>⟨y,U,r,_,J,j.ts l,I,t,k.nx.ts l⟩⟩
theorem PG.imp{t u:TG}(h:PG X e t)(q:∀v σ H Q,u v σ H Q->t v σ H Q):PG X e u:=λJ s σ H x v Q I r z=>h J s σ H x v Q I r<|q _ _ _ _ z
theorem PGs.imp{e:List Expr}{t u:e_}(h:PGs X e t)(q:∀v σ H Q,u v σ H Q->t v σ H Q):PGs X e u:=λJ s σ H x v Q I r z=>h J s σ H x v Q I r<|q _ _ _ _ z
theorem bU(hN:X.N.Nodup)(I:X.N[i]?=some x)(U:Loc X.env.scope x)(J:X.fn x=true\/X.env.scope.names.lookup x=some .local:=by first|exact .inl rfl|exact .inr rfl|assumption):QG X (.Name x pos) (qp i):=
 PG.imp (yH hN I U J) λv p H Q ψ=>(by obtain⟨y,g,L,r,j,l,o,z,k⟩:=ψ;exact k _ H _ L (ED _) (show xn _ _ _ (gE g i y) by rw[bZ];exact l.set j) o z)
theorem vf:E9 X [] gn:=PGs.imp Me λj l H Q ψ=>by obtain⟨I,o,L,p,J,U,g,z,k⟩:=ψ;cases I with|nil=>exact⟨J,k _ H _ L (ED _) U g z⟩|cons y r=>exact z.elim
theorem zd(h:QG X e g)(hs:E9 X es gs)(l:(assignEach (e::es) X.env).map (·.2)=assign e X.env::(assignEach es X.env).map (·.2):=by rfl):E9 X (e::es) (vi g gs):=
 PGs.imp (Mf h hs l) λvs σ H Q ψ=>by
 obtain⟨o,p,L,t,C,T,rl,z,k⟩:=ψ
 cases o with
 |nil=>exact z.elim
 |cons y r=>
  obtain⟨x,xs,rfl,r1,r2⟩:=C;exact⟨x,xs,rfl,y,p,L,_,r1,T,rl,z,λa1 H1 I L1 j J U z1=>⟨r,I,L1,t,r2.ts j,J,U,z1,k.ts j⟩⟩
theorem aD{j:Nat}(hc:X.calm=true)(h:E9 X es gs)(h1:(assignEach es X.env).length=n:=by rfl)(h2:(assignEach es X.env).findIdx? (·.1)=none:=by rfl):QG X (.Tuple es j pos) (jS n gs):=
 PG.imp (Mh hc h h1 h2) λv C H Q ψ=>by
 obtain⟨y,U,L,g,l,o,p,z,k⟩:=ψ
 cases y with
 |tup I=>
  obtain⟨a,t,rfl,sq,r⟩:=l;have J:(match I.length==n with|true=>gs I U L g|false=>False):=z;split at J
  ·rename_i e;exact⟨a,t,rfl,sq,by rw[<-r.length];exact beq_iff_eq.mp e,I,U,L,g,r,o,p,J,k⟩
  ·exact J.elim
 |_=>exact z.elim
theorem wH{y:Str}{px py pt:Pos}{J k2:Nat}{I:Pos}(hc:X.calm=true)(hN:X.N.Nodup)(hi:X.N[i]?=some x)(C:X.N[j]?=some y)(U:i≠j)(T:X.env.scope.names.lookup x=some .local)(ly:X.env.scope.names.lookup y=some .local)
 (h:QA X [a,b] tr) (h1:swappedStores [.Tuple [.Name x px,.Name y py] J pt] (.Tuple [a,b] k2 I) X.env=pure (some [x,y])) (h2:swapsWithSole [.Tuple [.Name x px,.Name y py] J pt] (.Tuple [a,b] k2 I) pos.line X.env=pure false:=by rfl):
 QS X (.Assign [.Tuple [.Name x px,.Name y py] J pt] (.Tuple [a,b] k2 I) pos) (Fq i j tr):=EJ (Ml hc hN hi C U T ly h h1 h2) λD σ H p L D3 r rl z k=>
 ⟨p,L,_,r,rl,z,λvs H1 ys L1 t g l o=>by
  split at o
  ·rename_i v w;obtain⟨x',y',rfl,r1,r2⟩:=l.inv2;exact⟨x',y',rfl,k.nx _ H1 _ L1 t (show xn _ _ _ (gE (gE p i v) j w) by rw[bZ,bZ];exact((r.ts t).set r1).set r2) g o⟩
  ·exact o.elim⟩
theorem lD(hp:PassesOwn (model X.prog X.w) X.A X.env X.xe)(h:QT X c tA)(hb:nO X body t):QS X (.While c body [] pos) (HN tA t):=PS.imp (Mn hp h hb) λD σ H ψ=>by
 obtain⟨τ,L,D3,rs,rl,⟨W,⟨m0,w0⟩,turn⟩,k⟩:=ψ
 refine⟨λm r H1=>∃J C,jg H H1/\xn X.g3 H1 r J/\zy X.g3 H1 C/\W m J C,⟨m0,τ,L,ED _,rs,rl,w0⟩,?_⟩;rintro m r H1 ⟨J,C,t1,l,a3,w1⟩;refine⟨J,C,_,l,a3,turn m J C w1,λb H2 L2 T a1 z2=>?_⟩;cases b with
 |false=>rw[AC AH];exact k.nx _ H2 _ L2 (t1.trans T) (l.ts T) a1 z2
 |true=>
  rw[AB rfl];obtain⟨N,hN,z2⟩:=z2;refine⟨λU g=>∃I j,jg H g/\xn X.g3 g U I/\zy X.g3 g j/\N I j,?_,?_⟩
  ·rintro U g ⟨I,j,t',o,p,n'⟩;obtain⟨m',hm,w'⟩:=hN I j n';exact⟨m',hm,I,j,t',o,p,w'⟩
  ·have nx:nu X.g3 H2 (db N) (λU g=>∃I j,jg H g/\xn X.g3 g U I/\zy X.g3 g j/\N I j):=λU g I j t' o p ψ=>(by obtain⟨L5,s5,n'⟩:=ψ;exact ⟨I,L5,(t1.trans T).trans t',o,p.sub s5,n'⟩);have k2:=k.ts<|t1.trans T;exact⟨J,L2,_,l.ts T,a1,z2,nx,k2.rt,k2.nx,nx⟩
theorem aA{wi:r_}(hp:PassesOwn (model X.prog X.w) X.A X.env X.xe)(hc:X.calm=true)(hi:QI X tg iter wi)(hg:QG X tg g)(hb:nO X body t)(hs:∀x,foldedSetIterable iter X.env x=pure x:=by intro _;rfl):
 QS X (.For tg iter body [] pos) (rV wi g t):=EJ (Mv hp hc hi hg hb hs) λD σ H τ L D3 rs rl z k=>by
 refine⟨τ,L,_,rs,rl,z,λJ H1 r keep L1 t1 a4 yl zz=>?_⟩;obtain⟨W,w0,wk,turn,x8⟩:=OG zz;refine⟨λi m U j=>∃I o,i+m=r.length/\jg H1 j/\xn X.g3 j U I/\zy X.g3 j o/\W i I o,⟨r.length,τ,L1,by omega,ED _,rs.ts t1,a4,w0⟩,?_⟩;rintro i m ax H2 ⟨l,L2,aL,t2,a1,p,w2⟩;by_cases a3:i<r.length
 ·refine .inr ⟨yl.go i H2 L2 t2 p (wk i l L2 w2) a3,λU j=>∃I o,jg H1 j/\xn X.g3 j U I/\zy X.g3 j o/\W (i+1) I o,?_,?_⟩
  ·rintro U j ⟨I,o,t',C,T,w'⟩;exact⟨m-1,by omega,I,o,by omega,t',C,T,w'⟩
  ·intro x H3 y3;have ey:r[i]?=some r[i]:=Al a3;obtain⟨t3,a5,ac⟩:=yl.yld i H2 L2 x H3 _ t2 p (wk i l L2 w2) ey y3;refine⟨r[i],l,L2,_,ac,a1.ts t3,a5,turn i _ l L2 ey w2,λaR H4 al L4 t4 au av z4=>?_⟩;have nx:nu X.g3 H4 (db<|W<|i+1) (λU j=>∃I o,jg H1 j/\xn X.g3 j U I/\zy X.g3 j o/\W (i+1) I o):=λU j I o t' C T ψ=>(by obtain⟨L5,s5,n'⟩:=ψ;exact ⟨I,L5,((t2.trans t3).trans t4).trans t',C,T.sub s5,n'⟩);have k2:=k.ts<|t1.trans<|(t2.trans t3).trans t4;exact⟨al,L4,_,au,av,z4,nx,k2.rt,k2.nx,nx⟩
 ·have e:i=r.length:=by omega
  subst e;exact .inl ⟨yl.stop H2 L2 t2 p<|wk _ l L2 w2,k.nx _ H2 _ L2 (t1.trans t2) a1 p<|x8 l L2 w2⟩
theorem PI.imp{t u:TI}(h:PI X tg e t)(q:∀σ H Q,u σ H Q->t σ H Q):PI X tg e u:=λJ s σ H Q I z=>h J s σ H Q I<|q σ H Q z
theorem PI.imq{t:TI}{u:r_}(h:PI X tg e t)(q:∀σ H R τ L I,xn G H σ τ->zy G H L->u τ L I->(∀J H' ys keep L',jg H H'->zy G H' L'->iu G H' J ys keep->I ys keep L'->R J H')->t σ H R):PI X tg e (F_ G u):=PI.imp h λσ H R ψ=>(by obtain⟨τ,L,I,a,b,c,d⟩:=ψ;exact q σ H R τ L I a b c d)
theorem jV{a:Addr}{keep:qo->Prop}(h:∀H L,jg H₀ H->zy G H L->keep L->∃xs,aF G.K H a xs/\xr G H ys xs):iu G H₀ (FT G.K a) ys keep where
 go:=λi H L t I J U=>by
  obtain⟨xs,sq,r⟩:=h H L t I J;have:i<xs.length:=by rw[<-r.length];exact U
  exact⟨xs,xs[i],sq,Al this⟩
 yld:=λi H L x o y t I J g ψ=>by obtain⟨e,f⟩:=ψ;subst e;obtain⟨xs,sq,r⟩:=h _ L t I J;obtain⟨p,j,l⟩:=r.get g;have:=f xs sq;rw[j] at this;cases this;exact⟨ED _,I,l⟩
 stop:=λH L t I J=>by obtain⟨xs,sq,r⟩:=h H L t I J;exact⟨xs,sq,by rw[r.length];exact Ao _⟩
theorem aB(h:QE X e te):QI X tg e (dr te):=PI.imq (Mq h) λσ H R τ L R3 rs l z k=>by
 refine⟨τ,L,_,rs,l,z,λv g y o C I U p=>?_⟩;cases y with
 |ref a=>
  obtain⟨j,keep,es,kp,hk,z2⟩:=sH p;have T:∀H L,jg g H->zy X.g3 H L->keep L->∃J,aF X.K H a J/\xr X.g3 H j J:=λH L _ l e=>eh l<|hk L e;obtain⟨J,sq,_⟩:=T g o (ED _) I kp;exact⟨a,U,⟨J,sq⟩,k _ g j _ o C I (jV T) z2⟩
 |sq j=>
  obtain⟨a,J,e,sf,r⟩:=U;exact⟨a,e,⟨J,sf.sq⟩,k _ g j (λ_=>True) o C I (jV λH L t _ _=>⟨J,(sf.ts t).sq,r.ts t⟩) p⟩
 |_=>exact p.elim
theorem ss(lo:Int)(n:Nat):iu G H₀ (Eh lo n) (a8 lo n) (λ_=>True) where
 go:=λi H L t J g j=>show i<n by simpa[a8] using j
 yld:=λi H L x l y t J g U ψ=>by
  obtain⟨e,f⟩:=ψ
  subst e f;refine⟨ED _,J,?_⟩;unfold a8 at U;rw[Aq] at U;obtain⟨z,I,e⟩:=AA.mp U;have:=DF (i:=i) (n:=n) (by
   by_cases c:i<n
   ·exact c
   ·rw[BE (by simp;omega)] at I;cases I)
  rw[this] at I;cases I;subst e;rfl
 stop:=λH L t J g=>by simp[a8,Eh]
theorem wq{p:Pos}(g:Gl X "range")(l:X.mg "range"=none)(h:QA X [a] tr)(hs:starEach [a] X.env=[(false,eval a X.env)]:=by rfl):QI X tg (.Call (.Name "range" p) [a] [] pos) (mZ tr):=
 PI.imq (yR g l h hs) λσ H R o L R3 t C z k=>by
 refine⟨o,L,_,t,C,z,λvs T ys L1 t1 J U I=>?_⟩;split at I
 ·rename_i j;obtain⟨x,rfl,r⟩:=U.inv1;cases r;exact⟨j,rfl,I.1.1,I.1.2,k _ T _ _ L1 t1 J (ss 0 _) I.2⟩
 ·exact I.elim
end
section
variable {T:List Str}{iter c:Expr}{wi:r_}{tr:fV}
theorem vK:QF X [] Fs:=PF.imp N7 λJ H Q ψ=>(by obtain⟨U,L,g,j,I,z,k⟩:=ψ;exact k _ H L (ED _) I z)
theorem cx(h:QT X c tA):QF X [c] tA:=N8 h
theorem HZ{g2:TG}(a1:∀v σ H Q,Fp G g v σ H Q->g2 v σ H Q)(σ:L2.St)(H:Hp)(Q:VK):mv G (s_ n wi g tA te) σ H Q->F8 n (F_ G wi) g2 (i_ G tA) (mv G te) σ H Q:=λ ψ=>by
 obtain⟨τ,L,Q3,rs,rl,z,k⟩:=ψ
 refine⟨τ,L,_,rs,rl,z,λJ H1 l keep L1 t1 a3 yl zz=>?_⟩;obtain⟨hz,W,w0,wk,turn,x8⟩:=OJ zz;refine⟨λi m vs H'=>∃I L',i+m=l.length/\I.length<=i/\jg H1 H'/\xr G H' I vs/\zy G H' L'/\W i I L',⟨l.length,[],L1,by exact Nat.add_comm _ _,Ao _,ED _,rfl,a3,w0⟩,?_⟩;rintro i m vs H2 ⟨I,L2,av,ax,o,U,j,p⟩;by_cases r:i<l.length
 ·refine .inr ⟨yl.go i H2 L2 o j (wk i I L2 p) r,by rw[<-U.length];lia,?_⟩;intro x H3 y3;have ey:l[i]?=some l[i]:=Al r;obtain⟨t3,a4,a5⟩:=yl.yld i H2 L2 x H3 _ o j (wk i I L2 p) ey y3;refine a1 _ _ _ _ ⟨l[i],_,L2,_,a5,(rs.ts<|(t1.trans o).trans t3).more n,a4,turn i _ I L2 ey p,λaL H4 t L4 t4 C ac z4=>?_⟩;refine⟨t,L4,_,C,ac,z4,λb H5 L5 t5 T z5=>?_⟩;cases b with
  |true=>
   rw[AB rfl];refine⟨t,L5,_,C.ts t5,T,z5,λv6 H6 y6 L6 t6 al au ψ=>?_⟩;obtain⟨L7,s7,z6⟩:=ψ;have tt:=((t3.trans t4).trans t5).trans t6;exact⟨m-1,by omega,I++[y6],L7,by lia,by rw[Ad,CG];exact F7,o.trans tt,(U.ts tt).app<|xr.one au,al.sub s7,z6⟩
  |false=>
   rw[AC AH];have tt:=(t3.trans t4).trans t5;obtain⟨L7,s7,z6⟩:=z5;exact⟨m-1,by lia,I,L7,by lia,by exact NQ,o.trans tt,U.ts tt,T.sub s7,z6⟩
 ·have ei:i=l.length:=by lia
  subst ei;refine .inl ⟨yl.stop H2 L2 o j<|wk _ I L2 p,by rw[<-U.length];lia,λD hD=>?_⟩;exact k _ _ _ _ ((t1.trans o).trans<|EE hD) (j.newL hD U) (by rfl)<|x8 I L2 p D<|j.none hD
structure Fv(X:Cx)(scope:Scope)(T:List Str)(target:Expr)(g:m9):Prop where
 ex:∃g2:TG,(∀C fp s₀ H₀,PG (X.comp scope T C fp s₀ H₀) target g2)/\sh g2 X.N.length T.length/\∀v σ H Q,Fp X.g3 g v σ H Q->g2 v σ H Q
theorem OX(i:Nat)(v:V)(σ:L2.St)(H:Hp)(Q:L2.St->Hp->Prop):Fp G (qp i) v σ H Q->lz i v σ H Q:=λ ψ=>by
 obtain⟨y,I,L,j,J,U,g,z,k⟩:=ψ
 exact k _ H _ L (ED _) (show xn _ _ _ (gE I i y) by rw[bZ];exact U.set J) g z
theorem fC{p:Pos}(hN:(X.N++[x]).Nodup)(J:∀C fp s₀ H₀,Loc (X.comp scope [x] C fp s₀ H₀).env.scope x)(I:∀C fp s₀ H₀,(X.comp scope [x] C fp s₀ H₀).env.scope.names.lookup x=some .local):Fv X scope [x] (.Name x p) (qp X.N.length):=
 ⟨lz X.N.length,λC fp s₀ H₀=>yH (X:=X.comp scope [x] C fp s₀ H₀) hN (by show(X.N++[x])[X.N.length]?=some x;simp) (J C fp s₀ H₀)<|.inr<|I C fp s₀ H₀,u3 _,OX _⟩
theorem wT(T:List Str)(S:jl X scope)(hc:X.calm=true)(hi:QI X target iter wi)(I:Fv X scope T target g)
 (J:∀C fp s₀ H₀,QF (X.comp scope T C fp s₀ H₀) kt tA) (U:∀C fp s₀ H₀,QE (X.comp scope T C fp s₀ H₀) ln te)
 (hs:∀x,foldedSetIterable iter X.env x=pure x:=by intro _;rfl):QE X (.ListComp ln [⟨target,iter,kt,0⟩] scope pos) (s_ T.length wi g tA te):=by
 obtain⟨g2,h1,h2,h3⟩:=I.ex;exact EU (N' T S hc hi h1 h2 J U hs)<|HZ h3
theorem aQ(T:List Str){px o:Pos}(hN:X.N.Nodup)(I:X.N[i]?=some x)(hx:Loc X.env.scope x)(S:jl X scope)(hc:X.calm=true)(hi:QI X target iter wi)
 (hg:Fv X scope T target g) (hf:∀C fp s₀ H₀,QF (X.comp scope T C fp s₀ H₀) kt tA) (he:∀C fp s₀ H₀,QE (X.comp scope T C fp s₀ H₀) ln te)
 (J:swapsWith (.ListComp ln [⟨target,iter,kt,0⟩] scope o) (some<|.Name x px) pos.line X.env=pure true:=by rfl)
 (U:X.fn x=true\/X.env.scope.names.lookup x=some .local:=by first|exact .inl rfl|exact .inr rfl|assumption)
 (hs:∀x,foldedSetIterable iter X.env x=pure x:=by intro _;rfl):QS X (.Assign [.Name x px] (.ListComp ln [⟨target,iter,kt,0⟩] scope o) pos) (x5 (s_ T.length wi g tA te)<|qp i):=by
 obtain⟨g2,h1,h2,h3⟩:=hg.ex;refine PS.imp (Oa (tc:=i_ X.g3 tA) (te:=mv X.g3 te) T hN I hx S hc hi h1 h2 hf he J U hs) λD σ H ψ=>?_;obtain⟨p,L,D3,r,rl,z,k⟩:=ψ;refine HZ h3 σ H _ ⟨p,L,_,r,rl,z,λv H1 y L1 t j l z1=>?_⟩;exact k.nx _ H1 _ L1 t (show xn _ _ _ (gE p i y) by rw[bZ];exact(r.ts t).set l) j z1
def dn(G:G3)(sp:zh):Sp:=λvs H Q _=>∃ys L I,xr G H ys vs/\zy G H L/\sp ys L I/\tR G H I Q
abbrev Gg(P:Program)(w:World)(K:Af)(mg:Str->Option Value)(base:Heap)(k:Nat)(x:Str)(ps:List Str)(sp:zh):Prop:=Cal P w K mg base k x ps<|dn ⟨K,P,w⟩ sp
abbrev Fn3(P:Program)(w:World)(K:Af)(mg:Str->Option Value)(base:Heap)(k:Nat)(f:Addr)(fd:FuncData)(ps:List Str)(sp:zh):Prop:=ay P w K mg base CX0 k f fd ps<|dn ⟨K,P,w⟩ sp
theorem OY{k:Nat}{sp:zh}{p:Pos}(c:Gg X.prog X.w X.K X.mg X.base k x ps sp)(j:kz k X.A)(l:Gl X x)(o:QA X (e::es) tr)(I:Ey x:=by decide)
 (r:Ew e es X:=by rfl) (J:Ex pos es X:=by rfl):QE X (.Call (.Name x p) (e::es) [] pos) (jk sp tr):=
 EF (N5 c j l o I r J) λσ H Q t L C T rl z k=>
 ⟨t,L,_,T,rl,z,λvs H1 ys L1 t1 U g z1=>⟨ys,L1,C,by rw[AD];exact g,U,z1,k.ts t1⟩⟩
def ip(Q:YK):YK:=λy L=>∃L2,qh L2 L/\Q y L2
def eX(N:List Str)(ys:List Y):jw:=ys.map some++List.replicate (N.length-ys.length) none
theorem io{N:List Str}{vs:List V}(r:xr G H ys vs):xn G H (L2.start N vs) (eX N ys):=by unfold L2.start eX;rw[<-r.length];refine xn.more ⟨by simp[r.length],λi y e=>?_⟩ _;rw[Aq] at e;obtain⟨g,I,J⟩:=AA.mp e;cases J;obtain⟨x,ex,U⟩:=r.get I;exact⟨x,by rw[Aq,ex];rfl,U⟩
theorem OZ{P:Program}{w:World}{K:Af}{N:List Str}{k:Nat}{sp:zh}(F:Fun K x eH st f fd)(S:ww N ps<|ql st)(len:∀ys L Q,sp ys L Q->ys.length=ps.length)
 (I:∀(eK:Value) (A:Around) (outer:List Env) (s:Shared) (H:Hp) (E:XK),kz k (A.deeper<|PyProof.Rows.envOfC eH (ql st) s.heap.objs.size f eK)->
  ∃t,nO (br CX0 P w K mg base N eH (ql st) f eK A outer s H E).nox (jc st) t/\∀ys L Q,sp ys L Q->t { nx:=λ_ L'=>ip Q .non L',rt:=ip Q } (eX N ys) L):Fn3 P w K mg base (k+1) f fd ps sp:=by
 refine F.ok S (λT H Q E ψ=>by obtain⟨ys,L,U,g,C,z,_⟩:=ψ;rw[<-g.length];exact len ys L U z) λeK A outer s H T Q E hr ψ=>?_;obtain⟨ys,L,U,g,C,z,k⟩:=ψ;obtain⟨t,ht,q⟩:=I eK A outer s H E hr;refine⟨_,ht,eX N ys,L,_,io g,C,q ys L U z,?_⟩;refine⟨λσ j τ L' l a1 J ψ=>(by obtain⟨L2,o,p⟩:=ψ;exact k .non j .non L2 l (J.sub o) (by rfl) p),λv j y L' l J r ψ=>(by obtain⟨L2,o,p⟩:=ψ;exact k v j y L2 l (J.sub o) r p),λ_ _ _ _ _ _ _ z=>z.elim,λ_ _ _ _ _ _ _ z=>z.elim⟩
def v_(G:G3)(r:Y->List Y->qo->YK->Prop):V->List V->Hp->VK->Prop:=λx xs H Q=>∃y ys L I,RV G H y x/\xr G H ys xs/\zy G H L/\r y ys L I/\tR G H I Q
theorem o5.imq{id:String}{r:V->List V->Hp->VK->Prop}{u:Y->List Y->qo->YK->Prop}(h:o5 X id r)(q:∀x xs H Q y ys L I,RV G H y x->xr G H ys xs->zy G H L->u y ys L I->tR G H I Q->r x xs H Q):o5 X id (v_ G u):=o5.imp h λx xs H Q ψ=>(by obtain⟨y,ys,L,I,a,b,c,d,e⟩:=ψ;exact q x xs H Q y ys L I a b c d e)
theorem O0:o5 X "list.append" (v_ X.g3 x9):=o5.imq NK λx p H Q y t L C U g J z k=>by
 unfold x9 at z;split at z
 ·rename_i a v;obtain⟨T,e,z⟩:=ko z;obtain⟨j,I,r⟩:=J a _ e;obtain⟨l,rfl,o⟩:=g.inv1;exact⟨a,j,l,U,rfl,I,by rw[<-r.length];exact z.1,k _ _ _ _ (ET I) (J.setL I<|r.app<|xr.one o) (by rfl) z.2⟩
 ·exact z.elim
theorem O1{a:Addr}(I:zy G H L)(h:cI L (.ref a)=some ys):F6 G.K "list" (.ref a) H:=by obtain⟨J,sq,_⟩:=eh I h;exact .inl ⟨rfl,J,sq⟩
def kM(r:Y->List Y->qo->YK->Prop)(to:xt)(t:fV)(τ:jw)(L:qo)(Q:YK):Prop:=to τ L λx L1=>match x with
 |.ref a=>jY L1 (.ref a) λ_=>t τ L1 λxs L2=>r (.ref a) xs L2 Q
 |_=>False
theorem wE{id:String}{r:Y->List Y->qo->YK->Prop}(h2:Slot "list" name id)(h3:typeOf (.builtin id)=pure (.type "method_descriptor"))(hm:o5 X id<|v_ X.g3 r)(ho:QE X o to)(ha:QA X (e::es) tr)
 (h4:attributeBase o name X.env (eval o X.env)=eval o X.env:=by rfl)
 (h5:((backTo fu<|starEach (e::es) X.env).all (λx=>!x.1)&&(backToKw fu<|keywordEach [] X.env).all (λx=>x.1.isSome)&&decide ((e::es).length+([]:List Keyword).length+(if ([]:List Keyword).isEmpty=true then 0 else 1)<30))=true:=by rfl)
 (h6:(apos.endLine==fu.line)=true:=by rfl) (h7:Ew e es X:=by rfl) (h8:Ex fu es X:=by rfl):
 QE X (.Call (.Attribute o name apos) (e::es) [] fu) (kM r to tr):=EF (Hw PySem.F.plainAttrs_list h2 h3 hm ho ha h4 h5 h6 h7 h8) λσ H Q l L Q3 p rl z k=>
 ⟨l,L,_,p,rl,z,λv H1 y L1 t I J U=>by
  split at U
  ·rename_i a;obtain⟨C,es,U⟩:=aT U;exact⟨by cases J;exact O1 I es,l,L1,_,p.ts t,I,U,λvs H2 C L2 T g j z2=>⟨.ref a,C,L2,Q3,J.ts T,j,g,z2,k.ts<|t.trans T⟩⟩
  ·exact U.elim⟩
theorem zg(I:QE X o to)(J:QA X (e::es) tr)(U:attributeBase o "append" X.env (eval o X.env)=eval o X.env:=by rfl)
 (g:((backTo fu<|starEach (e::es) X.env).all (λx=>!x.1)&&(backToKw fu<|keywordEach [] X.env).all (λx=>x.1.isSome)&&decide ((e::es).length+([]:List Keyword).length+(if ([]:List Keyword).isEmpty=true then 0 else 1)<30))=true:=by rfl)
 (j:(apos.endLine==fu.line)=true:=by rfl) (l:Ew e es X:=by rfl) (p:Ex fu es X:=by rfl):
 QE X (.Call (.Attribute o "append" apos) (e::es) [] fu) (kM x9 to tr):=wE PySem.F.slot_list_append PySem.F.type_list_append O0 I J U g j l p
end
abbrev vU:nv:=n_ λi j=>.int<|i-j
abbrev H0:nv:=yI abw λi j=>.int<|i*j
abbrev O6:nv:=yI FY λi j=>.int<|i / j
abbrev qC:nv:=yI (λ_ j=>0<j) λi j=>.int<|i % j
abbrev Gh:nv:=n_ λi j=>.bl<|decide<|i<j
abbrev O7:nv:=n_ λi j=>.bl<|decide<|i<=j
abbrev O8:nv:=n_ λi j=>.bl<|decide<|j<i
structure H9(G:G3)(mg:Str->Option Value)(x:Str)(y:Y):Prop where
 ex:∃c,mg x=some (.ref c)/\∀H,RV G H y<|.ref c
theorem O9(t:H9 X.g3 X.mg x y)(I:Gl X x)(hd:Ey x:=by decide):QE X (.Name x pos) (yC y):=by obtain⟨c,J,q⟩:=t.ex;exact OL I J q hd
def H_(kvs:List<|Str×Str):LO:=.dct<|kvs.map λp=>(Sum.inr p.1,Y.str p.2)
def O_(kvs:List<|Str×Str)(_:jw)(L:qo)(Q:YK):Prop:=∀p,L p=none->Q (.ref p) (qi L p<|H_ kvs)
def w_(kvs:List<|Str×Str):List (jf×V):=kvs.map λp=>(Sum.inr p.1,V.str p.2)
theorem se{σ:L2.St}{H:Hp}{Q:List (V×V)->Hp->Prop}:∀{kvs:List<|Str×Str},Q (kvs.map λp=>(V.str p.1,V.str p.2)) H->pL (kvs.map λp=>(tC<|.str p.1,tC<|.str p.2)) σ H Q
 |[],h=>h
 |_::r,h=>se (kvs:=r) h
theorem wR{G:G3}{H:Hp}:∀kvs:List (Str×Str),Paired (λ(p:jf×Y) (q:jf×V)=>p.1=q.1/\RV G H p.2 q.2) (kvs.map λp=>(Sum.inr p.1,Y.str p.2))<|w_ kvs
 |[]=>.nil
 |_::r=>.cons ⟨rfl,rfl⟩<|wR r
theorem O'{keys:List<|Option Expr}{values:List Expr}(kvs:List<|Str×Str)(h:Ej X pos keys values<|kvs.map λp=>(tC<|.str p.1,tC<|.str p.2))(h1:(keys.all λx=>x.isSome)=true)(h2:keys.length=values.length)(h3:keys≠[])(U:keys.length<=15)
 (g:kvs.length<=15:=by decide) (nd:i4 [] (w_ kvs)=w_ kvs:=by decide +kernel):QE X (.Dict keys values pos) (O_ kvs):=EF (Nk h h1 h2 h3 U) λj H Q l L o r J z k=>by
 intro p I;refine se ⟨zk,w_ kvs,by simp[w_,kV],by simpa[w_] using g,?_⟩;rw[nd,yL];refine k _ _ _ (qi L p<|H_ kvs) (EE I) ?_ (by rfl)<|z p<|J.none I;intro a u e;by_cases c:a=p
 ·subst c;rw[q9] at e;cases e;exact⟨w_ kvs,zk,wR kvs⟩
 ·rw[qg c] at e;exact(J a u e).keep (EE I) (qr c)
theorem qV{Q:α->qo->Prop}{o:Option α}(h:c_ L Q o):∃v,o=some v/\Q v L:=by cases o with|none=>exact h.elim|some v=>exact⟨v,rfl,h⟩
theorem jW{kvs:List<|Str×Str}{k:Str}(h:kvs.lookup k=some x):kn (kvs.map λp=>((Sum.inr p.1:jf),Y.str p.2)) (Sum.inr k)=some (Y.str x):=by
 induction kvs with
 |nil=>simp at h
 |cons p r I=>
  obtain⟨a,b⟩:=p;unfold kn;rw[AG,Bz];rw[BB] at h;by_cases c:k=a
  ·subst c;simp at h;simp[h]
  ·have c1:(k==a)=false:=by simpa using c
   rw[c1] at h;have c2:decide ((Sum.inr a:jf)=Sum.inr k)=false:=AE λz=>c (Sum.inr.inj z).symm;simp only[c2];exact I h
theorem yM(h:(a8 lo n)[i]?=some y):i<n/\y=.int (lo+i):=by
 unfold a8 at h;rw[Aq] at h;obtain⟨z,I,e⟩:=AA.mp h;have J:i<n:=by
  by_cases c:i<n
  ·exact c
  ·rw[BE (by simp;exact yq)] at I;cases I
 rw[DF J] at I;cases I;exact⟨J,e.symm⟩
theorem lW(lo:Int)(n:Nat):(a8 lo n).length=n:=by simp[a8]
theorem gy{tb:vh}{D:xb}(W:Nat->jw->qo->Prop)(h0:W 0 τ L)
 (hs:∀i τ L,i<n->W i τ L->g (.int<|lo+i) τ L λI L2=>tb { D with nx:=db<|W<|i+1,ct:=db<|W<|i+1,bk:=D.nx } I L2) (hd:∀τ L,W n τ L->D.nx τ L):wD (a8 lo n) (λ_=>True) g tb D τ L:=by
 refine wz ⟨W,h0,λ_ _ _ _=>trivial,λi y τ L e w=>?_,λτ L w=>hd τ L (by rw[lW] at w;exact w)⟩;obtain⟨J,rfl⟩:=yM e;exact hs i τ L J w
theorem Pa{tb:vh}{D:xb}{a:Addr}(h:cI L (.ref a)=some ys)(W:Nat->jw->qo->Prop)(h0:W 0 τ L)(J:∀i τ L',W i τ L'->L' a=L a)
 (hs:∀i y τ L,ys[i]?=some y->W i τ L->g y τ L λI L2=>tb { D with nx:=db<|W<|i+1,ct:=db<|W<|i+1,bk:=D.nx } I L2) (hd:∀τ L,W ys.length τ L->D.nx τ L):
 sQ L a λys keep L1=>wD ys keep g tb D τ L1:=ku (oR h) λkeep U=>wz ⟨W,h0,λi τ L' w=>U L'<|J i τ L' w,hs,hd⟩
theorem gD{keep:qo->Prop}{tc:kD}{Q:YK}(I:Nat->List Y->Prop)(hz:ys.length<sizeLine)(j:keep L)(h0:I 0 [])
 (turn:∀(i:Nat) y zs,ys[i]?=some y->I i zs->g y (τ++List.replicate n none) L λJ L2=>tc J L2 λb L3=>vt b (te J L3 λz l=>db (λzs L'=>L'=L/\I (i+1) zs) (zs++[z]) l)<|db (λzs L'=>L'=L/\I (i+1) zs) zs L3)
 (o:∀zs,I ys.length zs->∀p,L p=none->Q (.ref p) (qi L p<|.lst zs)):k_ ys keep n g tc te τ L Q:=by
 refine OI ⟨hz,λi zs L'=>L'=L/\I i zs,⟨rfl,h0⟩,?_,?_,?_⟩
 ·rintro i zs L' ⟨rfl,_⟩;exact j
 ·rintro i y zs L' r ⟨rfl,U⟩;exact turn i y zs r U
 ·rintro zs L' ⟨rfl,U⟩ p t;exact o zs U p t
theorem rH{tc:kD}{Q:YK}(I:Nat->List Y->Prop)(hz:m<sizeLine)(h0:I 0 [])
 (turn:∀(i:Nat) zs,i<m->I i zs->g (.int<|lo+i) (τ++List.replicate n none) L λJ L2=>tc J L2 λb L3=>vt b (te J L3 λz j=>db (λzs L'=>L'=L/\I (i+1) zs) (zs++[z]) j)<|db (λzs L'=>L'=L/\I (i+1) zs) zs L3)
 (l:∀zs,I m zs->∀p,L p=none->Q (.ref p) (qi L p<|.lst zs)):k_ (a8 lo m) (λ_=>True) n g tc te τ L Q:=by
 refine gD (keep:=λ_=>True) I (by rw[lW];exact hz) trivial h0 (λi y zs e U=>?_) λzs U=>l zs (by rw[lW] at U;exact U);obtain⟨o,rfl⟩:=yM e;exact turn i zs o U
theorem yQ(ys:List Y)(n:Nat):fq ys (some ((n:Nat):Int)) none=ys.drop n:=by
 unfold fq;rw[HT.sIx_nat,HT.sIx_none];by_cases h:n<=ys.length
 ·rw[BJ h,AR (by rw[BM];simp +arith only)]
 ·rw[Cb (by lia),List.drop_of_length_le<|Ao _,List.drop_of_length_le (by lia),List.take_nil]
theorem Pb(ys:List Y)(n:Nat):fq ys none (some ((n:Nat):Int))=ys.take n:=by
 unfold fq;rw[HT.sIx_nat,HT.sIx_none,DM,Nat.sub_zero];by_cases h:n<=ys.length
 ·rw[BJ h]
 ·rw[Cb (by lia),AR<|Ao _,AR (by lia)]
theorem kw{I:List α}{f:α->Y}{w:α}(h:I[i]?=some w):fQ (I.map f) (i:Int)=some (f w):=jt (by rw[Aq,h];rfl)
def v9(t:vh)(n:Nat)(ys:List Y)(L:qo)(Q:YK):Prop:=t { nx:=λ_ L'=>ip Q .non L',rt:=ip Q } (ys.map some++List.replicate (n-ys.length) none) L
theorem x8{Q:YK}(h:Q y L):ip Q y L:=⟨L,EC L,h⟩
theorem m8{Q:YK}(s:qh L L')(h:Q y L):ip Q y L':=⟨L,s,h⟩
theorem Fn3.never{P:Program}{w:World}{K:Af}{k:Nat}{sp:zh}(no:∀ys L Q,¬sp ys L Q):Fn3 P w K mg base k f fd ps sp:=
 ay.never λJ H Q E ψ=>(by obtain⟨ys,L,I,_,_,z,_⟩:=ψ;exact no ys L I z)
theorem qh.upd{a:Addr}{o:LO}(s:qh L L')(h:L a=none):qh L (qi L' a o):=λb u e=>by rw[qg<|bx e h];exact s b u e
theorem qh.put{a:Addr}{o:LO}(s:qh L L')(h:L' a=some o):qh (qi L a o) L':=λb u e=>by
 by_cases c:b=a
 ·subst c;rw[q9] at e;cases e;exact h
 ·rw[qg c] at e;exact s b u e
theorem uF{G:G3}{H:Hp}:∀I:List Int,xr G H (I.map Y.int)<|I.map V.int
 |[]=>rfl
 |_::r=>⟨_,_,rfl,rfl,uF r⟩
end L3
namespace L2
open PySem PySem.Spec PyProof.Rows
section
variable {σ:L2.St}
theorem l9(I:qx X pins σ H s)(U:∀b∈fp,H b=none)(k:∀b o,b∉fp->s.heap.get? b=some o->h'.get? b=some o):dZ X.prog X.w H h':=λb u e=>by
 refine(I.hok b u e).stay (λc v g q=>k c v (λz=>?_) q) (λ_ q=>q) λ_ _ q=>q;have J:=U c z;rcases g with w|w
 ·rw[w,e] at J;cases J
 ·rw[w] at J;cases J
theorem Pd{fs:List Addr}(k:∀b o,b∉fp->h.get? b=some o->h'.get? b=some o):Un fs fp H H h h':=
 ⟨λb o q _ _ x=>k b o x q,λb o q _ _ x=>⟨o.slots,k b o x q⟩,λ_ _ _ n _=>n,λb o q x=>⟨o,k b o x q⟩,λ_ _ q=>q,λ_ _ _ q=>q,λb I q=>⟨#[],by rw[q];simp⟩⟩
theorem qx.turnedL(I:qx X pins σ H s)(k:∀b o,b∉fp->s.heap.get? b=some o->h'.get? b=some o)(U:∀b∈fp,jZ X pins H b)(g:0<t':=by walk_at "t"):qx X pins σ H { s with heap:=h',toks:=t' }:=
 I.call' (s':={ s with heap:=h',toks:=t' }) (ch:=fp) rfl (Pd k) (l9 I (λb J=>(U b J).1) k) I.bare λb J=>⟨(U b J).2.2.2.1,(U b J).2.1,(U b J).2.2.2.2.1,(U b J).2.2.2.2.2⟩
theorem qx.turnedN{a:Addr}{o:HO}(I:qx X pins σ H s)(k:∀b o,b∉fp->s.heap.get? b=some o->h'.get? b=some o)(U:∀b∈fp,jZ X pins H b)(j:s.heap.objs.size<=a)
 (new:xo X.prog X.w (upd H a o) h' a o) (p:0<t':=by walk_at "t"):qx X pins σ (upd H a o) { s with heap:=h',toks:=t' }:=by
 have g:H a=none:=I.hok.fresh j;have lt:∀b ob,s.heap.get? b=some ob->b≠a:=λb ob q=>A9<|AQ (um q) j;refine I.call' (s':={ s with heap:=h',toks:=t' }) (ch:=fp) rfl ?_ ?_ I.bare λb J=>⟨(U b J).2.2.2.1,(U b J).2.1,(U b J).2.2.2.2.1,(U b J).2.2.2.2.2⟩
 ·exact⟨λb ob q _ _ x=>k b ob x q,λb ob q _ _ x=>⟨ob.slots,k b ob x q⟩,λb ob q n _=>by rw[qr<|lt b ob q];exact n,λb ob q x=>⟨ob,k b ob x q⟩,
   λb l q=>by rw[qr<|zo q g];exact q,λb ob u q=>by rw[qr<|zo q g];exact q,λb r q=>⟨#[],by rw[qr<|zo q g,q];simp⟩⟩
 ·intro b u e;by_cases J:b=a
  ·subst J;rw[zk] at e;cases e;exact new
  ·rw[qr J] at e;have ok:=l9 I (h':=h') (λb J=>(U b J).1) k b u e;exact ok.stay (λ_ _ _ q=>q) (λc q=>by rw[qr<|zo q g];exact q) λc l q=>by rw[qr<|zo q g];exact q
end
def Gi(K:Af)(a:Addr):It:=
 ⟨λi H=>∃xs x,aF K H a xs/\xs[i]?=some x,λi H v H'=>∃p x,H p=none/\v=.ref p/\H'=upd H p (.tup [.int i,x])/\∀xs,aF K H a xs->xs[i]?=some x,λi H=>∃xs,aF K H a xs/\xs.length<=i⟩
theorem yd{P:Program}{w:World}{K:Af}(a e it:Addr)(l:e≠it):Eg P w K (.Tuple mR x1 tp) (Gi K a) [e,it] e (λi h=>(∃old,IsEnum h e it i old)/\h.IsListIter it a i) where
 mem:=by simp
 obj:=λi h ψ b g=>by
  obtain⟨⟨old,J⟩,U⟩:=ψ
  rcases Am.mp g with rfl|g
  ·exact⟨_,J,λv z=>by cases z⟩
  ·cases An.mp g;obtain⟨o,T,hc,hd⟩:=U;exact⟨o,T,λv z=>by rw[hd] at z;cases z⟩
 keep:=λi h h' ψ k=>(by obtain⟨⟨old,J⟩,U⟩:=ψ;exact ⟨⟨old,k e (by simp) _ J⟩,U.at λo q=>k it (by simp) o q⟩)
 item:=by
  rintro X hP hw hK hc i r s σ H E I t ⟨⟨old,J⟩,U⟩ hg;subst hP hw hK;obtain⟨xs,x,C,hx⟩:=hg;obtain⟨a1,rv,p,hz⟩:=I.list C;obtain⟨u,hu,ru⟩:=rv.get hx;refine wpAny_pyNext_enum_item J U p.isList (x:=u) (by simpa using hu) l λh1 a3 a4 ht al hk=>⟨.ref s.heap.objs.size,rfl,wpAny_letOwnedTupleGo_enum a3 λh2 a5 j=>?_⟩;have el:e<s.heap.objs.size:=um J;have il:it<s.heap.objs.size:=by obtain⟨o,T,_⟩:=U;exact um T
  have kk:∀b o,b∉[e,it]->s.heap.get? b=some o->h2.get? b=some o:=λb o nb q=>by have n1:b≠e:=λz=>nb (by simp[z]);have n2:b≠it:=λz=>nb (by simp[z]);exact j.extBut b o n1<|hk b o n1 n2 q
  have tg:h2.get? s.heap.objs.size=some { cls:=.type "tuple",data:=.seq #[.int i s.toks,u] }:=j.extBut _ _ (CT el) ht;refine⟨.ref s.heap.objs.size,upd H s.heap.objs.size<|.tup [.int i,x],?_,rfl,⟨_,x,I.hok.fresh<|Ao _,rfl,rfl,λys hy=>by rw[I.list_inj hy C];exact hx⟩,⟨⟨_,a5⟩,a4.at λo q=>j.extBut _ _ (AL l) q⟩,λb g=>?_⟩
  ·exact I.turnedN (t':=s.toks+1) kk t (Ao _) ⟨by show 2<=sizeLine;decide,[.int i s.toks,u],.cons ⟨_,rfl⟩<|.cons ru .nil,⟨_,tg,rfl,_,rfl⟩⟩
  ·have ac:b<s.heap.objs.size:=by rcases Am.mp g with rfl|g;exact el;cases An.mp g;exact il
   rw[qr<|A9 ac];exact(t b g).1
 done:=by rintro X hP hw hK hc i r s σ H E I t ⟨⟨old,J⟩,U⟩ hg;subst hP hw hK;obtain⟨xs,C,hx⟩:=hg;obtain⟨a1,rv,p,hz⟩:=I.list C;have hl:=rv.length;exact wpAny_pyNext_enum_end (I.ok.hd hc) J U p.isList (by simp;omega) λh1 eb=>⟨rfl,I.turnedL (t':=s.toks) (fp:=[e,it]) (λb o nb q=>eb b o (λz=>nb (by simp[z])) q) t⟩
 self:=λ_ _ _ _ _ ψ h=>(by obtain⟨⟨_,J⟩,_⟩:=ψ;exact wpAny_pyIter_enum J h)
def Pe(K:Af)(ta:TA):TI:=λσ H R=>ta σ H λvs H1=>∃a,vs=[.ref a]/\(∃xs,aF K H1 a xs)/\R (Gi K a) H1
theorem pM:bootBuiltins "enumerate"=some (.type "enumerate"):=by decide +kernel
theorem Pf{a:Expr}{ta:TA}{p:Pos}(T:Gl X "enumerate")(hm:X.mg "enumerate"=none)(ha:PA X [a] ta)(hs:starEach [a] X.env=[(false,eval a X.env)]:=by rfl):
 PI X (.Tuple mR x1 tp) (.Call (.Name "enumerate" p) [a] [] pos) (Pe X.K ta):=by
 intro J s r H R I h;refine Call_<|fF I T hm pM<|CK (aE (ha pos J s r H _ I h) λus U ψ=>?_) hs rfl;obtain⟨vs,t,j,r1,q1⟩:=ψ;obtain⟨l,e,⟨xs,hq⟩,q⟩:=q1;subst e;obtain⟨u,rfl,ru⟩:=jM r1;cases ru;obtain⟨a1,rv,pl,hz⟩:=j.list hq;refine call_enumerate_list pl.isList λh1 C hi a3 hk=>?_;have I2:qx X J r t { U with heap:=h1 }:=j.kept (t':=U.toks) hk;refine wpAny_pyIter_enum (s:={ U with heap:=h1 }) C ?_;refine⟨U.heap.objs.size+1,[U.heap.objs.size+1,U.heap.objs.size],_,_,t,rfl,I2,yd l _ _<|Nat.succ_ne_self _,⟨⟨_,C⟩,hi⟩,λb o=>?_,q⟩;have g:U.heap.objs.size<=b:=by rcases Am.mp o with rfl|o;exact CN _;cases An.mp o;exact Ao _
 exact j.fpOk g<|j.hok.fresh g
end L2
namespace L3
open PySem L2
theorem jN{a:Addr}{keep:qo->Prop}(h:∀H L,jg H₀ H->zy G H L->keep L->∃xs,aF G.K H a xs/\xr G H ys xs):iu G H₀ (Gi G.K a) (ys.zipIdx.map λp=>Y.tup [.int (p.2:Nat),p.1]) keep where
 go:=λi H L t I J o=>by
  obtain⟨xs,sq,r⟩:=h H L t I J;have:i<xs.length:=by rw[<-r.length];simpa using o
  exact⟨xs,xs[i],sq,Al this⟩
 yld:=λi H L x H' y t I J l ψ=>by obtain⟨p,z,U,C,T,f⟩:=ψ;subst C T;obtain⟨xs,sq,r⟩:=h H L t I J;rw[Aq,List.getElem?_zipIdx] at l;obtain⟨⟨y',j⟩,ey,e3⟩:=AA.mp l;obtain⟨a1,g,e4⟩:=AA.mp ey;cases e4;subst e3;obtain⟨x',e',rv⟩:=r.get g;have:=f xs sq;rw[e'] at this;cases this;refine⟨EE U,I.skip U,p,_,rfl,dS.of zk,⟨_,_,rfl,?_,_,_,rfl,rv.ts<|EE U,rfl⟩⟩;show V.int _=V.int _;congr 1;simp
 stop:=λH L t I J=>by obtain⟨xs,sq,r⟩:=h H L t I J;exact⟨xs,sq,by rw[Ag,List.length_zipIdx,r.length];exact Ao _⟩
def mz(ys:List Y):List Y:=ys.zipIdx.map λp=>Y.tup [.int (p.2:Nat),p.1]
theorem gc(h:(mz ys)[i]?=some y):∃z,ys[i]?=some z/\y=.tup [.int i,z]:=by unfold mz at h;rw[Aq,List.getElem?_zipIdx] at h;obtain⟨⟨J,j⟩,U,g⟩:=AA.mp h;obtain⟨l,I,o⟩:=AA.mp U;cases o;exact⟨J,I,by rw[<-g];simp⟩
theorem o9(ys:List Y):(mz ys).length=ys.length:=by simp[mz]
def Ia(tl:xt)(τ:jw)(L:qo)(R:List Y->(qo->Prop)->qo->Prop):Prop:=tl τ L λx L1=>match x with
 |.ref a=>sQ L1 a λys keep L=>R (mz ys) keep L
 |.sq ys=>R (mz ys) (λ_=>True) L1
 |_=>False
theorem kR{a:Expr}{p:Pos}(hg:Gl X "enumerate")(hm:X.mg "enumerate"=none)(ha:QE X a te)(hs:starEach [a] X.env=[(false,eval a X.env)]:=by rfl)
 (j:starEach [a] X.env=(false,eval a X.env)::starEach [] X.env:=by rfl):QI X (.Tuple mR x1 tp) (.Call (.Name "enumerate" p) [a] [] pos) (Ia te):=PI.imq (Pf hg hm (fH ha me j) hs) λσ H R τ L R3 rs l z k=>by
 refine⟨τ,L,_,rs,l,z,λv g y o T I U C=>?_⟩;cases y with
 |ref a=>
  obtain⟨ys,keep,es,kp,hk,z2⟩:=sH C;have hy:∀H L,jg g H->zy X.g3 H L->keep L->∃J,aF X.K H a J/\xr X.g3 H ys J:=λH L _ l e=>eh l<|hk L e;obtain⟨J,sq,_⟩:=hy g o (ED _) I kp;cases U;exact⟨a,rfl,⟨J,sq⟩,k _ g _ _ o T I (jN hy) z2⟩
 |sq ys=>
  obtain⟨a,J,e,sf,r⟩:=U;subst e;exact⟨a,rfl,⟨J,sf.sq⟩,k _ g _ (λ_=>True) o T I (jN λH L t _ _=>⟨J,(sf.ts t).sq,r.ts t⟩) C⟩
 |_=>exact C.elim
end L3
namespace L2
open PySem PySem.Spec PyProof.Rows
def dW(t:Bool)(h:Heap)(it l:Addr)(k:Nat):Prop:=match t with
 |false=>h.IsListIter it l k
 |true=>h.IsTupleIter it l k
def iJ(t:Bool)(h:Heap)(l:Addr)(xs:Array Value):Prop:=match t with
 |false=>h.IsList l xs
 |true=>h.IsTuple l xs
theorem dW.on{k:Nat}(x:dW t h it l k)(e:∀o,h.get? it=some o->h'.get? it=some o):dW t h' it l k:=by cases t with|false=>exact Heap.IsListIter.at x e|true=>exact Heap.IsTupleIter.at x e
theorem iJ.on{xs:Array Value}(x:iJ t h l xs)(e:∀o,h.get? l=some o->h'.get? l=some o):iJ t h' l xs:=by cases t with|false=>exact Heap.IsList.at x e|true=>exact Heap.IsTuple.at x e
theorem dW.ob{k:Nat}(x:dW t h it l k):∃o,h.get? it=some o/\∀v,o.data≠.cell v:=by
 cases t with
 |false=>obtain⟨o,e,c,d⟩:=x;exact⟨o,e,λv z=>by rw[d] at z;cases z⟩
 |true=>obtain⟨o,e,c,d⟩:=x;exact⟨o,e,λv z=>by rw[d] at z;cases z⟩
theorem xO(l:Addr):¬((Value.ref l==Value.none)=true):=AH
section
variable {w:World}
theorem ug{xs:Array Value}{x:Value}(hi:s.heap.IsTupleIter it l i)(U:s.heap.IsTuple l xs)(g:xs[i]?=some x)
 (q:∀h',h'.IsTupleIter it l (i+1)->Heap.SameBut it s.heap h'->Q x { s with heap:=h' }):wpAny (model prog w) A (Builtin.SmallTypes.nextOf<|.ref it) Q E s:=by
 obtain⟨o,J,ci,I⟩:=id hi;obtain⟨u,ul,_,n,dl⟩:=U;unfold Builtin.SmallTypes.nextOf;refine Aa<|wpAny_callSpecial?_slot (name:="__next__") hi.typeIs Bs<|wpAny_call_entry Bs hi.typeIs F.entry_tuple_iterator_next ?_<|F.args_tuple_iterator_next_1 _;refine Aa (m:=field (.ref it) 0)<|AV J I (x:=.ref l) rfl ?_;rw[AC<|xO l];refine Aa (m:=field (.ref it) 1)<|AV J I (x:=.int i 0) rfl<|Aa (m:=seqItems?<|.ref l)<|Bk ul dl ?_;simp only[BG,g];refine Aa<|wpAny_setField J I (by simp)<|Ah ⟨x,rfl,Ah<|q _ ⟨_,At _ J<|Obj.isFreed_of_fields<|Obj.data_mapFields I _,(Obj.cls_mapFields ..).trans ci,?_⟩<|xT ..⟩;rw[Obj.data_mapFields I];simp[rawInt]
theorem Pg{xs:Array Value}(U:A.handled=none)(hi:s.heap.IsTupleIter it l i)(g:s.heap.IsTuple l xs)(j:xs[i]?=none)
 (q:∀h' e,Heap.ExtBut it s.heap h'->(∃o,h'.get? e=some o/\o.cls=.type "StopIteration")->E (.ref e) { s with heap:=h' }):wpAny (model prog w) A (Builtin.SmallTypes.nextOf<|.ref it) Q E s:=by
 obtain⟨o,I,ci,J⟩:=id hi;obtain⟨u,ul,_,n,dl⟩:=g;unfold Builtin.SmallTypes.nextOf;refine Aa<|wpAny_callSpecial?_slot (name:="__next__") hi.typeIs Bs<|wpAny_call_entry Bs hi.typeIs F.entry_tuple_iterator_next ?_<|F.args_tuple_iterator_next_1 _;refine Aa (m:=field (.ref it) 0)<|AV I J (x:=.ref l) rfl ?_;rw[AC<|xO l];refine Aa (m:=field (.ref it) 1)<|AV I J (x:=.int i 0) rfl<|Aa (m:=seqItems?<|.ref l)<|Bk ul dl ?_;simp only[BG,j];refine Aa<|Bt<|Aa<|wpAny_setField I J (by simp) ?_;refine Aa (m:=newExc (.type "StopIteration") []) ?_;simp only[newExc,newTuple];refine Aa (Br (Aa (m:=firstArgMember _ _) (wpAny_of_eq (a:=Value.none) (by first|rfl|(simp only[firstArgMember];rfl))<|Br ?_ (by size_fits))) (by size_fits));simp only[raiseNew];refine Aa<|wpAny_handled ?_
 first|rw[show A.in1.handled=none from U]|rw[U]
 exact Aa<|Ah<|wpAny_throw<|q _ _ (((xT ..).extBut.push _).push _) ⟨_,vb _ rfl,rfl⟩
theorem dW.next{xs:Array Value}{x:Value}(hi:dW t s.heap it l i)(I:iJ t s.heap l xs)(J:xs[i]?=some x)
 (q:∀h',dW t h' it l (i+1)->Heap.SameBut it s.heap h'->Q x { s with heap:=h' }):wpAny (model prog w) A (Builtin.SmallTypes.nextOf<|.ref it) Q E s:=by
 cases t with|false=>exact wpAny_nextOf_list_item hi I J q|true=>exact ug hi I J q
theorem dW.stop{xs:Array Value}(I:A.handled=none)(hi:dW t s.heap it l i)(J:iJ t s.heap l xs)(U:xs[i]?=none)
 (q:∀h' e,Heap.ExtBut it s.heap h'->(∃o,h'.get? e=some o/\o.cls=.type "StopIteration")->E (.ref e) { s with heap:=h' }):wpAny (model prog w) A (Builtin.SmallTypes.nextOf<|.ref it) Q E s:=by
 cases t with|false=>exact wpAny_nextOf_list_end I hi J U q|true=>exact Pg I hi J U q
structure Fa(z TI TO i1 i2 l1 l2:Addr):Prop where
 n1:TI≠z
 n2:TO≠z
 n3:i1≠z
 n4:i2≠z
 n5:TO≠i1
 n6:TO≠i2
 n7:i1≠i2
 n8:l1≠z
 n9:l1≠TO
 n10:l1≠i1
 n11:l1≠i2
 n12:l2≠z
 n13:l2≠TO
 n14:l2≠i1
 n15:l2≠i2
theorem Ph{z TI TO:Addr}{k:Nat}{xs ys:Array Value}{x y a b:Value}(D:Fa z TI TO i1 i2 l1 l2)(hz:IsZip s.heap z TI TO .none)(hI:IsPair s.heap TI (.ref i1)<|.ref i2)(hO:IsPair s.heap TO a b)
 (h1:dW t1 s.heap i1 l1 k) (h2:dW t2 s.heap i2 l2 k) (q1:iJ t1 s.heap l1 xs) (q2:iJ t2 s.heap l2 ys) (hx:xs[k]?=some x) (hy:ys[k]?=some y)
 (q:∀h',IsZip h' z TI TO (rawInt s.heap.objs.size)->IsPair h' TO x y->dW t1 h' i1 l1 (k+1)->dW t2 h' i2 l2 (k+1)->IsPair h' s.heap.objs.size x y->
  (∀c o,c≠z->c≠TO->c≠i1->c≠i2->s.heap.get? c=some o->h'.get? c=some o)->Q (.ref s.heap.objs.size) { s with heap:=h' }):
 wpAny (model prog w) A (Builtin.«zip.__next__» ⟨[.ref z],[]⟩) (λx8 s'=>∃v,x8=.done (.ret v)/\Q v s') E s:=by
 refine Aa (m:=field (.ref z) 2)<|AV hz rfl (x:=.bool false) rfl<|Aa (m:=field (.ref z) 3)<|AV hz rfl (x:=.ref TI) rfl<|Aa<|Bk hI rfl ?_;refine Aa (m:=Builtin.SmallTypes.ownedTupleIsFree<|.ref z) ?_;unfold Builtin.SmallTypes.ownedTupleIsFree;refine Aa<|AV hz rfl (x:=.none) rfl<|Ah ?_;simp only[if_true];refine Aa<|Bt<|Aa<|AV hz rfl (x:=.ref TO) rfl<|Aa<|wpAny_setField_rec hz (by simp) λg1 z1 J=>?_;have a5:IsZip g1 z TI TO .ellipsis:=z1;refine Aa ?_;simp only[Ed,List.zipIdx_nil,Cm,Do];refine Aa<|Aa<|wpAny_onRaise<|Aa (m:=Builtin.SmallTypes.nextOf<|.ref i1)<|(h1.on λo e=>J.extBut _ _ D.n3 e).next (q1.on λo e=>J.extBut _ _ D.n8 e) hx λg2 ac g=>Ah ?_;have O2:IsPair g2 TO a b:=g.extBut _ _ D.n5<|J.extBut _ _ D.n2 hO;refine Aa<|Bk O2 rfl<|Aa<|wpAny_updateSeq_pair O2 λg3 O3 j=>Aa<|wpAny_letGo<|Ah ?_;have al:IsPair g3 TO x b:=O3;refine Aa (Aa (wpAny_onRaise (Aa (m:=Builtin.SmallTypes.nextOf<|.ref i2) (dW.next (l:=l2) (i:=k) (xs:=ys) (x:=y) (t:=t2) (h2.on λo e=>j.extBut _ _ (AL D.n6)<|g.extBut _ _ (AL D.n7)<|J.extBut _ _ D.n4 e)
  (q2.on λo e=>j.extBut _ _ D.n13<|g.extBut _ _ D.n14<|J.extBut _ _ D.n12 e) hy λg4 au p=>Ah ?_))))
 have O4:IsPair g4 TO x b:=p.extBut _ _ D.n6 al;refine Aa<|Bk O4 rfl<|Aa<|wpAny_updateSeq_pair O4 λI O5 r=>Aa<|wpAny_letGo<|Ah<|Ah ?_;have C:IsPair I TO x y:=O5;refine Aa<|Bk C rfl<|Aa<|wpAny_newTuple ?_;have sz:I.objs.size=s.heap.objs.size:=by rw[r.1,p.1,j.1,g.1,J.1]
 have z5:IsZip I z TI TO .ellipsis:=r.extBut _ _ (AL D.n2)<|p.extBut _ _ (AL D.n4)<|j.extBut _ _ (AL D.n2)<|g.extBut _ _ (AL D.n3) a5;have k5:∀c o,c≠z->c≠TO->c≠i1->c≠i2->s.heap.get? c=some o->I.get? c=some o:=λc o U T a3 a4 e=>r.extBut _ _ T<|p.extBut _ _ a4<|j.extBut _ _ T<|g.extBut _ _ a3<|J.extBut _ _ U e;have zl:z<I.objs.size:=um z5;refine Aa (m:=Builtin.SmallTypes.ownedTupleHandOut (.ref z)<|.ref I.objs.size) ?_;unfold Builtin.SmallTypes.ownedTupleHandOut;refine Aa<|wpAny_setField_rec (show IsZip (I.push { cls:=.type "tuple",data:=.seq #[x,y] }) z TI TO .ellipsis from sy _ z5) (by simp) λg7 z7 e7=>?_;have av:IsZip g7 z TI TO (rawInt I.objs.size):=z7;refine wpAny_setField_rec av (by simp) λg8 z8 e8=>Ah ⟨_,rfl,?_⟩;have ax:IsZip g8 z TI TO (rawInt I.objs.size):=z8;have up:∀c o,c≠z->I.get? c=some o->g8.get? c=some o:=λc o U e=>e8.extBut _ _ U<|e7.extBut _ _ U<|sy _ e;have T8:IsPair g8 I.objs.size x y:=e8.extBut _ _ (CT zl)<|e7.extBut _ _ (CT zl)<|vb _ rfl;have x8:=q g8 (by rw[<-sz];exact ax) (up _ _ D.n2 C) (ac.on λo e=>up _ o D.n3<|r.extBut _ _ (AL D.n5)<|p.extBut _ _ D.n7<|j.extBut _ _ (AL D.n5) e) (au.on λo e=>up _ o D.n4<|r.extBut _ _ (AL D.n6) e)
  (by rw[<-sz];exact T8) λc o U T a3 a4 e=>up c o U<|k5 c o U T a3 a4 e
 show Q (.ref I.objs.size) _;rw[sz];exact x8
theorem Pj{z TI TO:Addr}{k:Nat}{xs ys:Array Value}{a b:Value}{Q:Fin->Shared->Prop}(hh:A.handled=none)(D:Fa z TI TO i1 i2 l1 l2)(hz:IsZip s.heap z TI TO .none)(hI:IsPair s.heap TI (.ref i1)<|.ref i2)(hO:IsPair s.heap TO a b)
 (h1:dW t1 s.heap i1 l1 k) (h2:dW t2 s.heap i2 l2 k) (q1:iJ t1 s.heap l1 xs) (q2:iJ t2 s.heap l2 ys) (J:xs[k]?=none\/ys[k]?=none)
 (q:∀h' e,(∀c o,c≠z->c≠TO->c≠i1->c≠i2->s.heap.get? c=some o->h'.get? c=some o)->(∃o,h'.get? e=some o/\o.cls=.type "StopIteration")->E (.ref e) { s with heap:=h' }):
 wpAny (model prog w) A (Builtin.«zip.__next__» ⟨[.ref z],[]⟩) Q E s:=by
 refine Aa (m:=field (.ref z) 2)<|AV hz rfl (x:=.bool false) rfl<|Aa (m:=field (.ref z) 3)<|AV hz rfl (x:=.ref TI) rfl<|Aa<|Bk hI rfl ?_;refine Aa (m:=Builtin.SmallTypes.ownedTupleIsFree<|.ref z) ?_;unfold Builtin.SmallTypes.ownedTupleIsFree;refine Aa<|AV hz rfl (x:=.none) rfl<|Ah ?_;simp only[if_true];refine Aa<|Bt<|Aa<|AV hz rfl (x:=.ref TO) rfl<|Aa<|wpAny_setField_rec hz (by simp) λg1 z1 I=>?_;have U:IsZip g1 z TI TO .ellipsis:=z1;refine Aa ?_;simp only[Ed,List.zipIdx_nil,Cm,Do];refine Aa<|Aa<|wpAny_onRaise<|Aa (m:=Builtin.SmallTypes.nextOf<|.ref i1) ?_;have g:=h1.on λo e=>I.extBut _ _ D.n3 e;have j:=q1.on λo e=>I.extBut _ _ D.n8 e;cases T:xs[k]? with
 |none=>
  refine dW.stop hh g j T λg2 e s2 he=>?_;obtain⟨oe,ge,ce⟩:=he;have z2:IsZip g2 z TI TO .ellipsis:=s2 _ _ (AL D.n3) U;have nz:e≠z:=λw=>by subst w;rw[z2] at ge;cases ge;simp at ce
  exact wpAny_setField_rec z2 (by simp) λg3 _ s3=>q g3 e (λc o p _ a3 _ w=>s3.extBut _ _ p<|s2 _ _ a3<|I.extBut _ _ p w) ⟨oe,s3.extBut _ _ nz ge,ce⟩
 |some x=>
  have hy:ys[k]?=none:=by rcases J with h|h;rw[T] at h;cases h;exact h
  refine dW.next g j T λg2 a5 r=>Ah ?_;have O2:IsPair g2 TO a b:=r.extBut _ _ D.n5<|I.extBut _ _ D.n2 hO;refine Aa<|Bk O2 rfl<|Aa<|wpAny_updateSeq_pair O2 λg3 O3 C=>Aa<|wpAny_letGo<|Ah ?_;refine Aa (Aa (wpAny_onRaise (Aa (m:=Builtin.SmallTypes.nextOf<|.ref i2) (dW.stop (t:=t2) (l:=l2) (i:=k) (xs:=ys) hh (h2.on λo e=>C.extBut _ _ (AL D.n6)<|r.extBut _ _ (AL D.n7)<|I.extBut _ _ D.n4 e)
   (q2.on λo e=>C.extBut _ _ D.n13<|r.extBut _ _ D.n14<|I.extBut _ _ D.n12 e) hy λg4 e s4 he=>?_))))
  obtain⟨oe,ge,ce⟩:=he;have z4:IsZip g4 z TI TO .ellipsis:=s4 _ _ (AL D.n4)<|C.extBut _ _ (AL D.n2)<|r.extBut _ _ (AL D.n3) U;have nz:e≠z:=λw=>by subst w;rw[z4] at ge;cases ge;simp at ce
  exact wpAny_setField_rec z4 (by simp) λg5 _ s5=>q g5 e (λc o p a2 a3 a4 w=>s5.extBut _ _ p<|s4 _ _ a4<|C.extBut _ _ a2<|r.extBut _ _ a3<|I.extBut _ _ p w) ⟨oe,s5.extBut _ _ nz ge,ce⟩
end
def Fb(t:Bool):String:=if t then "tuple_iterator" else "list_iterator"
section
variable {w:World}
theorem iJ.iter{xs:Array Value}(I:iJ t s.heap l xs)(q:Q (.ref s.heap.objs.size) { s with heap:=s.heap.push { cls:=.type<|Fb t,data:=.fields #[.ref l,.int 0 0] } }):wpAny (model prog w) A (pyIter<|.ref l) Q E s:=by cases t with|false=>exact wpAny_pyIter_list I q|true=>exact wpAny_pyIter_tuple I q
end
theorem dW.new(e:h.get? it=some { cls:=.type<|Fb t,data:=.fields #[.ref l,.int 0 0] }):dW t h it l 0:=by cases t with|false=>exact⟨_,e,rfl,rfl⟩|true=>exact⟨_,e,rfl,rfl⟩
abbrev Fw(t1:Bool)(h:Heap)(l1:Addr):Heap:=h.push { cls:=.type<|Fb t1,data:=.fields #[.ref l1,.int 0 0] }
abbrev Fx(t1 t2:Bool)(h:Heap)(l1 l2:Addr):Heap:=(Fw t1 h l1).push { cls:=.type<|Fb t2,data:=.fields #[.ref l2,.int 0 0] }
abbrev Fy(t1 t2:Bool)(h:Heap)(l1 l2:Addr):Heap:=(Fx t1 t2 h l1 l2).push { cls:=.type "tuple",data:=.seq #[.ref h.objs.size,.ref (Fw t1 h l1).objs.size] }
abbrev Fz(t1 t2:Bool)(h:Heap)(l1 l2:Addr):Heap:=(Fy t1 t2 h l1 l2).push { cls:=.type "tuple",data:=.seq #[.none,.none] }
abbrev DT(t1 t2:Bool)(h:Heap)(l1 l2:Addr):Heap:=(Fz t1 t2 h l1 l2).push { cls:=.type "zip",data:=.fields #[.none,.bool false,.bool false,.ref (Fx t1 t2 h l1 l2).objs.size,.ref (Fy t1 t2 h l1 l2).objs.size] }
theorem vP(t1 t2:Bool)(l1 l2:Addr)(xs ys:Array Value):Meets (Builtin.«zip.__new__» ⟨[.type "zip",.ref l1,.ref l2],[]⟩) (λ_ R s=>iJ t1 s.heap l1 xs/\iJ t2 s.heap l2 ys/\R (.ok<|.ret<|.ref (Fz t1 t2 s.heap l1 l2).objs.size) { s with heap:=DT t1 t2 s.heap l1 l2 }):=
 .of_wp λI w A R s h=>by
  obtain⟨J,g,d,U,os⟩:=s;obtain⟨l,p,h⟩:=h;have j:=sub_zip;have r:iJ t1 (Shared.heap ⟨J,g,d,U,os⟩) l1 xs:=l;have t:iJ t2 (Shared.heap ⟨J.push { cls:=.type<|Fb t1,data:=.fields #[.ref l1,.int 0 0] },g,d,U,os⟩) l2 ys:=p.on λo e=>sy _ e
  wp_walk using iJ.iter r,iJ.iter t
  exact⟨_,rfl,h⟩
theorem yn{w:World}{xs ys:Array Value}(p:iJ t1 s.heap l1 xs)(r:iJ t2 s.heap l2 ys)
 (q:∀h',IsZip h' (s.heap.objs.size+4) (s.heap.objs.size+2) (s.heap.objs.size+3) .none->IsPair h' (s.heap.objs.size+2) (.ref s.heap.objs.size) (.ref<|s.heap.objs.size+1)->IsPair h' (s.heap.objs.size+3) .none .none->
  dW t1 h' s.heap.objs.size l1 0->dW t2 h' (s.heap.objs.size+1) l2 0->(∀c o,s.heap.get? c=some o->h'.get? c=some o)->Q (.ref<|s.heap.objs.size+4) { s with heap:=h' }):
 wpAny (model prog w) A (call (.type "zip") [.ref l1,.ref l2]) Q E s:=by
 refine callType_new F.called_zip (by decide) (F.typeCall_zip_2 _ _) (F.newCall_zip_2 _ _) (λobj=>F.args_object_init_3 obj _ _) F.entry_zip_new (vP t1 t2 l1 l2 xs ys) ⟨p,r,?_⟩;have I:(Fw t1 s.heap l1).objs.size=s.heap.objs.size+1:=EZ ..;have J:(Fx t1 t2 s.heap l1 l2).objs.size=s.heap.objs.size+2:=by rw[EZ,I]
 have U:(Fy t1 t2 s.heap l1 l2).objs.size=s.heap.objs.size+3:=by rw[EZ,J]
 have j:(Fz t1 t2 s.heap l1 l2).objs.size=s.heap.objs.size+4:=by rw[EZ,U]
 have g:(DT t1 t2 s.heap l1 l2).get? (Fz t1 t2 s.heap l1 l2).objs.size=some _:=vb _ rfl;have l:(DT t1 t2 s.heap l1 l2).get? (Fy t1 t2 s.heap l1 l2).objs.size=some _:=sy _<|vb _ rfl;have g3:(DT t1 t2 s.heap l1 l2).get? (Fx t1 t2 s.heap l1 l2).objs.size=some _:=sy _<|sy _<|vb _ rfl;have g2:(DT t1 t2 s.heap l1 l2).get? (Fw t1 s.heap l1).objs.size=some _:=sy _<|sy _<|sy _<|vb _ rfl;have g1:(DT t1 t2 s.heap l1 l2).get? s.heap.objs.size=some _:=sy _<|sy _<|sy _<|sy _<|vb _ rfl;show _/\_;rw[J,U,j] at g;rw[I,J] at g3;rw[U] at l;rw[I] at g2;rw[j];exact⟨⟨_,g,rfl⟩,q _ g g3 l (dW.new g1) (dW.new g2) λc o e=>sy _<|sy _<|sy _<|sy _<|sy _ e⟩
def Sq(t:Bool)(K:Af)(H:Hp)(a:Addr)(xs:List V):Prop:=match t with
 |false=>aF K H a xs
 |true=>dS K H a xs
section
variable {σ:L2.St}
theorem qx.seq{a:Addr}(I:qx X pins σ H s)(h:Sq t X.K H a xs):∃eA:List Value,zw xs eA/\iJ t s.heap a eA.toArray/\xs.length<=sizeLine:=by
 cases t with
 |false=>obtain⟨eA,v,p,z⟩:=I.list h;exact⟨eA,v,p.isList,z⟩
 |true=>obtain⟨eA,v,p,z⟩:=I.tuple h;exact⟨eA,v,p,z⟩
end
theorem Pk:bootBuiltins "zip"=some (.type "zip"):=by decide +kernel
end L2
namespace L3
open PySem L2
theorem Ib{v:V}(I:zy G H L)(r:RV G H y v)(h:cI L y=some ys):∃t p xs,v=.ref p/\Sq t G.K H p xs/\xr G H ys xs:=by
 obtain⟨p,xs,e,s,q⟩:=mQ I r h;rcases s with s|s
 ·exact⟨false,p,xs,e,s,q⟩
 ·exact⟨true,p,xs,e,s,q⟩
def Gj(xs ys:List Y):List Y:=List.zipWith (λa b=>Y.tup [a,b]) xs ys
def cY(xs:List Y)(L:qo)(Q:YK):Prop:=match xs with
 |[x]=>jY L x λys=>∀p,L p=none->Q (.ref p) (qi L p<|.lst ys)
 |_=>False
theorem wf :jn X (.type "list") (b_ X.g3 cY):=EN oo λt H Q C L T U I z k=>by
 unfold cY at z;split at z
 ·rename_i x;obtain⟨u,rfl,g⟩:=U.inv1;obtain⟨zs,j,z⟩:=aT z;obtain⟨p,o,e,sq,r⟩:=mQ I g j;subst e;exact⟨p,o,rfl,sq,λl J=>k _ _ _ _ (EE J) (I.newL J r) (by rfl)<|z l<|I.none J⟩
 ·exact z.elim
theorem kq{T:String}{tr:fV}{p:Pos}{r:List Y->qo->YK->Prop}(hc:jn X (.type T)<|b_ X.g3 r)(U:Gl X x)(g:X.mg x=none)(j:bootBuiltins x=some (.type T))(h:QA X (e::es) tr)
 (l:x ≠ "__name__" := by decide) (hd:Ey x:=by decide) (hs:Ew e es X:=by rfl) (o:Ex pos es X:=by rfl):
 QE X (.Call (.Name x p) (e::es) [] pos) (cL r tr):=EF (iY hc U g j h l hd hs o) λσ H Q t L C rs rl z k=>
 ⟨t,L,_,rs,rl,z,λvs H1 ys L1 t1 I J z1=>⟨ys,L1,C,J,I,z1,k.ts t1⟩⟩
def qD(x:Y)(vs:List Y)(L:qo)(Q:YK):Prop:=match x,vs with
 |.ref a,[.int i]=>fP L a λys=>0<=i/\i<ys.length/\c_ L (λv L=>Q v<|qi L a<|.lst<|ys.eraseIdx i.toNat) (ys[i.toNat]?)
 |_,_=>False
theorem Pl :o5 X "list.pop" (v_ X.g3 qD):=λJ s l H x xs v o Q I p t ψ=>by
 obtain⟨y,ys,L,Q3,C,T,j,z,k⟩:=ψ
 unfold qD at z;split at z
 ·rename_i a i;obtain⟨zs,e,h0,h1,z⟩:=ko z;obtain⟨ws,U,r⟩:=j a _ e;obtain⟨i',rfl,ri⟩:=T.inv1;cases ri;cases g:zs[i.toNat]? with
  |none=>rw[g] at z;exact z.elim
  |some w=>
   rw[g] at z;obtain⟨u,eu,ru⟩:=r.get g;obtain⟨_,_,_,hz⟩:=I.list<|aF.of U;have hl:=r.length;have hs:sizeLine<2 ^ 62:=by decide
   refine NM J s l H x _ v o Q I p t ⟨a,ws,i,i.toNat,u,C,rfl,U,by lia,by lia,?_,eu,k _ _ _ _ (ET U) (j.setL U<|r.eraseIdx _) (ru.ts<|ET U) z⟩;unfold seqIndex?;rw[AC (show ¬i<0 by lia),AB (by simp;lia)]
 ·exact z.elim
theorem cV{tr:fV}(I:QE X o to)(J:QA X (e::es) tr)(U:attributeBase o "pop" X.env (eval o X.env)=eval o X.env:=by rfl)
 (g:((backTo fu<|starEach (e::es) X.env).all (λx=>!x.1)&&(backToKw fu<|keywordEach [] X.env).all (λx=>x.1.isSome)&&decide ((e::es).length+([]:List Keyword).length+(if ([]:List Keyword).isEmpty=true then 0 else 1)<30))=true:=by rfl)
 (j:(apos.endLine==fu.line)=true:=by rfl) (l:Ew e es X:=by rfl) (p:Ex fu es X:=by rfl):
 QE X (.Call (.Attribute o "pop" apos) (e::es) [] fu) (kM qD to tr):=wE PySem.F.slot_list_pop PySem.F.type_list_pop Pl I J U g j l p
end L3
namespace L2
open PySem PySem.Spec PyProof.Rows
theorem xB(i:Int)(n d:Nat):max 0 (min (if i<0 then i+(n:Int) else i) n)=((HT.sIx n d (some i):Nat):Int):=by
 simp only[HT.sIx];by_cases h:i<0
 ·simp only[h,if_true]<;>lia
 ·simp only[h,if_false]<;>lia
theorem yp(l u:Option Int)(n:Nat):Builtin.Str.strSliceIndices l u 1 n=(List.range<|HT.sIx n n u-HT.sIx n 0 l).map (HT.sIx n 0 l+·):=by
 have z:(0:Int)=((HT.sIx n 0 none:Nat):Int):=rfl;have y:(n:Int)=((HT.sIx n n none:Nat):Int):=rfl;unfold Builtin.Str.strSliceIndices;cases l with
 |none=>
  cases u with
  |none=>exact sliceRange_one 0 n
  |some j=>
   show sliceRange 0 (max 0<|min (if j<0 then j+(n:Int) else j) n) 1=_;rw[xB j n n];exact sliceRange_one 0 _
 |some i=>
  cases u with
  |none=>
   show sliceRange (max 0<|min (if i<0 then i+(n:Int) else i) n) n 1=_;rw[xB i n 0];exact sliceRange_one _ n
  |some j=>
   show sliceRange (max 0<|min (if i<0 then i+(n:Int) else i) n) (max 0<|min (if j<0 then j+(n:Int) else j) n) 1=_;rw[xB i n 0,xB j n n];exact sliceRange_one _ _
theorem oD(x:Str)(l u:Option Int):(Txt.slice x l u).cps.toList=(x.cps.toList.drop<|HT.sIx x.length 0 l).take (HT.sIx x.length x.length u-HT.sIx x.length 0 l):=by
 have U:x.length=x.cps.toList.length:=by simp[Str.length]
 have I:=pick_run x.cps (HT.sIx x.length 0 l)<|HT.sIx x.length x.length u-HT.sIx x.length 0 l;unfold Txt.slice;rw[yp];split
 ·rename_i h;simp only[beq_self_eq_true,Bool.true_and,Ag,BY,beq_iff_eq] at h;have h1:=HT.sIx_le x.length 0 (Bb _) l;have h2:=HT.sIx_le x.length x.length (Ao _) u;have J:HT.sIx x.length 0 l=0:=by lia
  rw[h,J,DM,AR (by exact uo)]
 ·show(List.filterMap (λi=>x.cps[i]?) _).toArray.toList=_;rw[List.toList_toArray];exact I
def Pm:V->Option Int->Option Int->Hp->VK->Prop:=λx lo hi H Q=>∃z,x=.str z/\z.length<=sizeLine/\Q (.str<|Txt.slice z lo hi) H
theorem alk:rN X Pm:=by
 intro J s σ H x v U g lo j sl Q I o p pl r h;obtain⟨z,rfl,C,q⟩:=h;obtain⟨t,rfl⟩:=o;obtain⟨l,rfl,T⟩:∃l:Option (Int×Tok),U=partValue l/\l.map (·.1)=lo:=by cases pl with|none=>exact⟨none,rfl,rfl⟩|int i t=>exact⟨some (i,t),rfl,rfl⟩
 obtain⟨u,rfl,hu⟩:∃u:Option (Int×Tok),g=partValue u/\u.map (·.1)=j:=by cases r with|none=>exact⟨none,rfl,rfl⟩|int i t=>exact⟨some (i,t),rfl,rfl⟩
 subst T hu;refine⟨"str",_,F.slot_str_getitem.lookup,typeIs_str _ _ _,jy I.tk<|wpAny_getItem_str_slice (l:=l) (u:=u) (st:=none) p rfl ?_⟩;exact post_val_or_str ⟨AZ (Txt.slice_le z _ _) C,λt' k ht=>⟨.str _,H,I.tok _,⟨t',rfl⟩,q⟩⟩
theorem uw{zs:List Str}:∀{us:List Value},zw (zs.map V.str) us->StrsAre us zs:=by
 induction zs with
 |nil=>intro us r;rw[Dm] at r;cases r;exact .nil
 |cons z zs I=>
  intro us r;rw[AG] at r;cases r with
  |cons J U=>
   obtain⟨t,e⟩:=J;subst e;exact .cons z t<|I U
def Pn(K:Af):V->List V->Hp->VK->Prop:=λx vs H Q=>∃z a zs,x=.str z/\vs=[.ref a]/\aF K H a ((zs:List Str).map V.str)/\(zs.map (·.length)).sum+zs.length*z.length<=16777216/\Q (.str<|Txt.join z zs) H
theorem Po:o5 X "str.join" (Pn X.K):=by intro J s σ H x vs v us Q I U g h;obtain⟨z,a,zs,rfl,rfl,j,l,q⟩:=h;obtain⟨t,rfl⟩:=U;obtain⟨u,rfl,o⟩:=g.one;cases o;obtain⟨C,r,p,_⟩:=I.list j;exact jy I.tk<|PyProof.Rows.join_list p.isList (by simpa using uw r) l λT k ht=>⟨.str _,H,I.tok _,⟨T,rfl⟩,q⟩
end L2
namespace L3
open PySem L2
def Fc(x:Y)(lo hi:Option Int)(L:qo)(Q:YK):Prop:=match x with
 |.str z=>z.length<=sizeLine/\Q (.str<|Txt.slice z lo hi) L
 |x=>HK x lo hi L Q
theorem oH(K:Af)(P:Program)(w:World)(U:X.K=K:=by rfl)(g:X.prog=P:=by rfl)(hw:X.w=w:=by rfl):rN X (Fu ⟨K,P,w⟩ Fc):=by refine rN.imp (alk.or<|OW K P w U g hw) λx lo l H Q ψ=>?_;obtain⟨y,L,j,I,J,z,k⟩:=ψ;cases y with|str s=>exact .inl ⟨s,I,z.1,k _ H _ L (ED _) J (by rfl) z.2⟩|_=>exact .inr ⟨_,L,j,I,J,z,k⟩
def Ic(r:Y->List Y->qo->YK->Prop)(to:xt)(t:fV)(τ:jw)(L:qo)(Q:YK):Prop:=to τ L λx L1=>match x with
 |.str z=>t τ L1 λxs L2=>r (.str z) xs L2 Q
 |_=>False
theorem Pp{tr:fV}{id:String}{r:Y->List Y->qo->YK->Prop}(h2:Slot "str" name id)(h3:typeOf (.builtin id)=pure (.type "method_descriptor"))(C:o5 X id<|v_ X.g3 r)(T:QE X o to)(ha:QA X (e::es) tr)
 (h4:attributeBase o name X.env (eval o X.env)=eval o X.env:=by rfl)
 (h5:((backTo fu<|starEach (e::es) X.env).all (λx=>!x.1)&&(backToKw fu<|keywordEach [] X.env).all (λx=>x.1.isSome)&&decide ((e::es).length+([]:List Keyword).length+(if ([]:List Keyword).isEmpty=true then 0 else 1)<30))=true:=by rfl)
 (h6:(apos.endLine==fu.line)=true:=by rfl) (h7:Ew e es X:=by rfl) (h8:Ex fu es X:=by rfl):
 QE X (.Call (.Attribute o name apos) (e::es) [] fu) (Ic r to tr):=EF (Hw PySem.F.plainAttrs_str h2 h3 C T ha h4 h5 h6 h7 h8) λσ H Q l L Q3 p rl z k=>
 ⟨l,L,_,p,rl,z,λv H1 y L1 t I J U=>by
  split at U
  ·rename_i s;cases J;exact⟨rfl,l,L1,_,p.ts t,I,U,λvs H2 ys L2 t2 g j z2=>⟨.str s,ys,L2,Q3,rfl,j,g,z2,k.ts<|t.trans t2⟩⟩
  ·exact U.elim⟩
theorem tD{G:G3}{H:Hp}:∀{zs:List Str} {xs:List V},xr G H (zs.map Y.str) xs->xs=zs.map V.str
 |[],_,h=>h
 |z::r,_,ψ=>by obtain⟨x,I,e,q,s⟩:=ψ;rw[e,show x=V.str z from q,tD s];rfl
def Gk(x:Y)(vs:List Y)(L:qo)(Q:YK):Prop:=match x,vs with
 |.str z,[.ref a]=>fP L a λys=>∃zs,ys=zs.map Y.str/\(zs.map (·.length)).sum+zs.length*z.length<=16777216/\Q (.str<|Txt.join z zs) L
 |_,_=>False
theorem Pq :o5 X "str.join" (v_ X.g3 Gk):=o5.imq Po λx p H Q y t L C U g I z k=>by
 unfold Gk at z;split at z
 ·rename_i s a;obtain⟨T,e,j,rfl,l,z⟩:=ko z;obtain⟨ws,J,r⟩:=I a _ e;obtain⟨u,rfl,o⟩:=g.inv1;cases o;rw[tD r] at J;exact⟨s,a,j,U,rfl,aF.of J,l,k _ H _ L (ED _) I (by rfl) z⟩
 ·exact z.elim
theorem Pr{tr:fV}(I:QE X o to)(J:QA X (e::es) tr)(U:attributeBase o "join" X.env (eval o X.env)=eval o X.env:=by rfl)
 (g:((backTo fu<|starEach (e::es) X.env).all (λx=>!x.1)&&(backToKw fu<|keywordEach [] X.env).all (λx=>x.1.isSome)&&decide ((e::es).length+([]:List Keyword).length+(if ([]:List Keyword).isEmpty=true then 0 else 1)<30))=true:=by rfl)
 (j:(apos.endLine==fu.line)=true:=by rfl) (l:Ew e es X:=by rfl) (p:Ex fu es X:=by rfl):
 QE X (.Call (.Attribute o "join" apos) (e::es) [] fu) (Ic Gk to tr):=Pp PySem.F.slot_str_join PySem.F.type_str_join Pq I J U g j l p
theorem qL(zs:List Str):(Txt.join "" zs).cps.toList=zs.flatMap λz=>z.cps.toList:=by
 have e:∀zs:List Str,(Str.join "" zs).cps.toList=zs.flatMap λz=>z.cps.toList:=by
  intro zs
  induction zs with
  |nil=>rfl
  |cons z r I=>
   cases r with
   |nil=>simp[Str.join]
   |cons y r=>
    show(z ++ "" ++ Str.join "" (y::r)).cps.toList=_;have:(z ++ "" ++ Str.join "" (y::r)).cps=z.cps++#[]++(Str.join ""<|y::r).cps:=rfl;rw[this];simp only[Be,I,Bm,Array.append_empty]
 exact(BF (λx:Str=>x.cps.toList)<|StrLaws.glued_eq_join "" zs).trans (e zs)
def tw(t u:vh)(D:xb)(τ:jw)(L:qo):Prop:=∃J:jw->qo->Prop,t { D with nx:=J } τ L/\∀I L',J I L'->u D I L'
theorem xu{rest:List Stmt}{t u:vh}(h:QS X st t)(k:nO X rest u):nO X (st::rest) (tw t u):=gZ.imp (sK h k) λD σ H ψ=>by
 obtain⟨l,L,D3,o,p,⟨J,z,q⟩,k⟩:=ψ
 exact ⟨l,L,{ D3 with nx:=J },o,p,z,λr H1 I j C U g T=>⟨I,j,D3,U,g,q I j T,k.ts C⟩,k.rt,k.bk,k.ct⟩
theorem oP{a b:Addr}{o u:LO}(h:a≠b):qi (qi L a o) b u=qi (qi L b u) a o:=by
 funext c;by_cases h1:c=a
 ·subst h1;rw[qg h,q9,q9]
 ·by_cases h2:c=b
  ·subst h2;rw[q9,qg h1,q9]
  ·rw[qg h2,qg h1,qg h1,qg h2]
abbrev X3:=jw->Addr->qo->Prop
abbrev cK:=List Y->qo->YK->(Addr->qo->Prop)->Prop
def Fe(G:G3)(E3:X3):X1:=λσ c H=>∃C τ L,c=.ref C/\xn G H σ τ/\zy G H L/\E3 τ C L
def Ie(G:G3)(H:Hp)(E3:Addr->qo->Prop)(E:XK):Prop:=∀C H' L',jg H H'->zy G H' L'->E3 C L'->E (.ref C) none H'
def Ps(G:G3)(sp:cK):Sp:=λvs H Q E=>∃ys L I E3,xr G H ys vs/\zy G H L/\sp ys L I E3/\tR G H I Q/\Ie G H E3 E
def rC(E3:Addr->qo->Prop):X3:=λ_ C L=>∃L2,qh L2 L/\E3 C L2
abbrev Ig(P:Program)(w:World)(K:Af)(mg:Str->Option Value)(base:Heap)(k:Nat)(f:Addr)(fd:FuncData)(ps:List Str)(sp:cK):Prop:=ay P w K mg base (f_ P w) k f fd ps<|Ps ⟨K,P,w⟩ sp
structure gw(P:Program)(w:World)(K:Af)(mg:Str->Option Value)(base:Heap)(k:Nat)(x:Str)(ps:List Str)(sp:cK):Prop where
 ex:∃f fd,Ig P w K mg base k f fd ps sp/\dR K fd ps []/\PySem.W.keepIn K (.ref f)=true/\mg x=some (.ref f)
theorem gw.mono{P:Program}{w:World}{K:Af}{k:Nat}{sp:cK}(c:gw P w K mg base j x ps sp)(h:j<=k):gw P w K mg base k x ps sp:=by obtain⟨f,fd,F,b,I,m⟩:=c.ex;exact⟨f,fd,F.mono h,b,I,m⟩
theorem qx.tst{σ:L2.St}(I:qx X pins σ H s):jg X.H₀ H:=λa u i e=>by cases u with|tup J=>exact I.base.tups a J e|frz o u=>exact I.base.frzs a o u e|_=>cases i
theorem Pu{P:Program}{w:World}{K:Af}{N:List Str}{E:XK}{E3:Addr->qo->Prop}(h:Ie ⟨K,P,w⟩ H E3 E):
 bY (br (f_ P w) P w K mg base N eH scope f cd A outer s H E) (Fe ⟨K,P,w⟩<|rC E3):=by
 rintro J j g l a C tr I L ap U ⟨t,T,L',o,rs,p,L2,r,q⟩;cases o;exact Om J j g l a C tr I L ap U<|h C g L2 (qx.tst I) (p.sub r) q
def ft(sp:cK)(E3:X3)(t:fV)(τ:jw)(L:qo)(Q:YK):Prop:=t τ L λys L1=>sp ys L1 Q<|E3 τ
def u9(C:Addr)(E3:X3)(t:fV)(_:xb)(τ:jw)(L:qo):Prop:=t τ L λys L1=>ys.length<=1000/\E3 τ C L1
section
variable {tr:fV}{E3:X3}
theorem Ih{k:Nat}{sp:cK}{p:Pos}(c:gw X.prog X.w X.K X.mg X.base k x ps sp)(t:kz k X.A)(T:Gl X x)(ht:bY X<|Fe X.g3 E3)(hx:X.ex=[])(ha:QA X (e::es) tr)(I:Ey x:=by decide)
 (he:Ew e es X:=by rfl) (J:Ex pos es X:=by rfl):QE X (.Call (.Name x p) (e::es) [] pos) (ft sp E3 tr):=by
 obtain⟨f,fd,F,b,kp,m⟩:=c.ex;refine EF (sC F t T m kp b ht hx ha I he J) λσ H Q U L Q3 o rl z k=>?_;exact⟨U,L,_,o,rl,z,λvs H1 ys L1 r g j z1=>⟨ys,L1,Q3,E3 U,j,g,z1,k.ts r,λC H' L' t' l q=>⟨C,U,L',rfl,o.ts<|r.trans t',l,q⟩⟩⟩
theorem uC(c:EL X.K C)(o:Gl X x)(p:X.mg x=some (.ref C))(hc:X.calm=true)(r:bY X<|Fe X.g3 E3)(t:X.ex=[])(T:QA X (e::es) tr)(I:Ey x:=by decide)
 (he:Ew e es X:=by rfl) (J:Ex fu es X:=by rfl):
 QS X (.Raise (some<|.Call (.Name x np) (e::es) [] fu) none pos) (u9 C E3 tr):=EJ (Oq c o p hc r t T I he J) λD σ H j L D3 l rl z k=>
 ⟨j,L,_,l,rl,z,λvs H1 ys L1 t1 U g ψ=>(by obtain⟨hl,z1⟩:=ψ;exact ⟨dz (by rw[<-g.length];exact hl),C,j,L1,rfl,l.ts t1,U,z1⟩)⟩
end
theorem Pw{P:Program}{w:World}{K:Af}{N:List Str}{k:Nat}{sp:cK}{t:X3->vh}(F:Fun K x eH st f fd)(S:ww N ps<|ql st)(len:∀ys L Q E,sp ys L Q E->ys.length=ps.length)
 (I:∀(eK:Value) (A:Around) (outer:List Env) (s:Shared) (H:Hp) (E:XK) (E3:X3),kz k (A.deeper<|PyProof.Rows.envOfC eH (ql st) s.heap.objs.size f eK)->
  bY (br (f_ P w) P w K mg base N eH (ql st) f eK A outer s H E) (Fe ⟨K,P,w⟩ E3)->nO (br (f_ P w) P w K mg base N eH (ql st) f eK A outer s H E) (jc st) (t E3))
 (vc:∀ys L Q E,sp ys L Q E->t (rC E) { nx:=λ_ L'=>ip Q .non L',rt:=ip Q } (eX N ys) L):Ig P w K mg base (k+1) f fd ps sp:=by
 obtain⟨oc,od,kV,a1,pm,an,eK,ct,a3,rfl,lk,U⟩:=F.ex;refine F2 lk U S (λvs H Q E ψ=>by obtain⟨ys,L,g,E3,j,T,z,_⟩:=ψ;rw[<-j.length];exact len ys L g E3 z) λA outer s H vs Q E hr ψ=>?_;obtain⟨ys,L,g,E3,j,T,z,k,kx⟩:=ψ;refine⟨_,I eK A outer s H E (rC E3) hr<|Pu kx,eX N ys,L,_,io j,T,vc ys L g E3 z,?_⟩;exact⟨λσ l τ L' o a4 J ψ=>(by obtain⟨L2,p,r⟩:=ψ;exact k .non l .non L2 o (J.sub p) (by rfl) r),λv l y L' o J C ψ=>(by obtain⟨L2,p,r⟩:=ψ;exact k v l y L2 o (J.sub p) C r),λ_ _ _ _ _ _ _ z=>z.elim,λ_ _ _ _ _ _ _ z=>z.elim⟩
def Px(G:G3)(H:Hp)(E3:X3)(E1:X1):Prop:=∀hE C H' I L',jg H H'->xn G H' hE I->zy G H' L'->E3 I C L'->E1 hE (.ref C) H'
def Gm(G:G3)(t:X3->vh):X1->L2.TS:=λE1 D σ H=>∃τ L D3 E3,xn G H σ τ/\zy G H L/\t E3 D3 τ L/\vG G H D3 D/\Px G H E3 E1
def QB(X:Cx)(body:List Stmt)(t:X3->vh):Prop:=∀(pn:List<|Addr×Obj) (xe:Value->Shared->Prop) (E1:X1),bY (X.tr pn xe) E1->gZ (X.tr pn xe) body (Gm X.g3 t E1)
section
variable {tr:fV}{cp:Pos}
theorem acl{k:Nat}{y:Str}{sp:cK}{p:Pos}(c:gw X.prog X.w X.K X.mg X.base k x ps sp)(hr:kz k X.A)(hg:Gl X x)(hx:X.ex=[])(hN:X.N.Nodup)(U:X.N[i]?=some y)(hy:Loc X.env.scope y)(ha:∀pn xe,QA (X.tr pn xe) (e::es) tr)(g:Ey x:=by decide)
 (he:Ew e es X:=by rfl) (j:Ex cp es X:=by rfl) (hs:swapsWith (.Call (.Name x p) (e::es) [] cp) (some<|.Name y fy) pos.line X.env=pure false:=by rfl)
 (l:X.fn y=true\/X.env.scope.names.lookup y=some .local:=by first|exact .inl rfl|exact .inr rfl|assumption):
 QB X [.Assign [.Name y fy] (.Call (.Name x p) (e::es) [] cp) pos] (λE3=>x5 (ft sp E3 tr)<|qp i):=by
 obtain⟨f,fd,F,b,kp,m⟩:=c.ex;intro pn xe E1 ht;refine gZ.imp (xV<|Hi (X:=X.tr pn xe) hN U hy (sC (X:=X.tr pn xe) F hr hg m kp b ht hx (ha pn xe) g he j) hs l) λD σ H ψ=>?_;obtain⟨I,L,D3,E3,o,rl,z,k,kx⟩:=ψ;exact⟨I,L,_,o,rl,z,λvs H1 ys L1 J r t z1=>⟨ys,L1,_,E3 I,t,r,z1,(λv H2 y L2 t2 T a1 z2=>k.nx _ H2 _ L2 (J.trans t2) (show xn _ _ _ (gE I i y) by rw[bZ];exact(o.ts<|J.trans t2).set a1) T z2),λC H' L' t' a3 q=>kx σ C H' I L' (J.trans t') (o.ts<|J.trans t') a3 q⟩⟩
end
section
variable {a:Expr}{p pt:Pos}{v:V}{vs:List V}
end
open PySem L2 PySem.W
theorem wK{K:Frag}(q:excIn K C [.type "ValueError",.type "Exception",.type "BaseException",.type "object"] "ValueError.__new__"=true):EL K C:=Oo q DN (by decide +kernel) DN
section
variable {K:Frag}{t c:Value}{b:Bool}
theorem exm_own{cd:ClassData}(h0:subIn K (.ref D) (.type "BaseException")=some true)(h1:clsIn K D=some cd)(h2:typeIn K (.ref D)=some (.type "type"))(h3:subIn K (.ref C) (.ref D)=some b):exmOne K (.ref C) (.ref D)=some b:=by unfold exmOne;rw[AB (by rw[h0];rfl)];unfold kitCls;simp only[h1,h2,Option.isSome_some,beq_self_eq_true,Bool.and_self,if_true];exact h3
end
end L3
namespace L2
open PySem PySem.Spec PyProof.Rows
def jD(X:Cx)(ops:List CmpOp)(es:List Expr)(t:V->TE):Prop:=∀(pos:Pos) (pins:List<|Addr×Obj) (s:Shared) (σ:St) (H:Hp) (x:V) (v:Value) (Q:Bool->Hp->Prop),qx X pins σ H s->zv x v->(t x σ H λz H'=>∃k,z=.bl k/\Q k H')->wpAny (model X.prog X.w) X.A (testChain pos v ops<|evalEach es X.env) (TP X pins σ Q) X.xe s
def Ii(r:R2)(tb:TE):V->TE:=λx σ H Q=>tb σ H λy H1=>r x y H1 Q
def Ij(r:R2)(tb:TE)(u:V->TE):V->TE:=λx σ H Q=>tb σ H λy H1=>r x y H1 λz H2=>∃k,z=.bl k/\(if k=true then u y σ H2 Q else Q (.bl false) H2)
section
variable {a b c:Expr}{ta tb:TE}{op pj:CmpOp}{ops:List CmpOp}{r:R2}{u:V->TE}
theorem y7(g:wg X (compareOp op) r)(j:PE X b tb):jD X [op] [b] (Ii r tb):=by intro pos J s U H x v Q I l h;refine test_last<|aE (j J s U H _ I h) λo p ⟨y,t,C,T,q1⟩=>aE (g J p U t x y v o _ C l T q1) λd s2 ψ=>?_;obtain⟨z,H2,I2,r2,k,e,q2⟩:=ψ;subst e;cases r2;exact wpAny_truthy_bool ⟨H2,I2,q2⟩
theorem yW(t:wg X (compareOp op) r)(C:PE X b tb)(T:jD X (pj::ops) (c::es) u):jD X (op::pj::ops) (b::c::es) (Ij r tb u):=by
 intro pos J s U H x v Q I rx h;refine test_link<|aE (C J s U H _ I h) λg s1 ⟨y,H1,I1,j,q1⟩=>aE (t J s1 U H1 x y v g _ I1 rx j q1) λd s2 ψ=>?_;obtain⟨z,l,o,r2,k,e,p⟩:=ψ;subst e;cases r2;refine wpAny_truthy_bool ?_;cases k with
 |false=>
  obtain⟨k',e',q'⟩:=p;cases e';exact ite_ff ⟨l,o,q'⟩
 |true=>exact ite_tt<|T pos J s2 U l y g Q o j p
theorem yg(U:PE X a ta)(h:jD X (op::pj::ops) (b::c::es) u)(g:lastMarks (op::pj::ops) (b::c::es)=false):PT X (.Compare a (op::pj::ops) (b::c::es) pos) (FZ λσ H Q=>ta σ H λx H1=>u x σ H1 Q):=by intro J s σ H Q I j;exact isTrue_chain (aE (U J s σ H _ I j) λv l ψ=>(by obtain⟨x,H1,o,p,r⟩:=ψ;exact h pos J l σ H1 x v Q o p r)) g
end
end L2
namespace L3
open PySem L2
def wA(ta:xt)(u:Y->xt)(τ:jw)(L:qo)(Q:YK):Prop:=ta τ L λx L1=>u x τ L1 Q
def Gn(r:nv)(tb:xt)(x:Y)(τ:jw)(L:qo)(Q:YK):Prop:=tb τ L λy L1=>r x y L1 Q
def Go(r:nv)(tb:xt)(u:Y->xt)(x:Y)(τ:jw)(L:qo)(Q:YK):Prop:=tb τ L λy L1=>r x y L1 λz L2=>match z with
 |.bl k=>vt k (u y τ L2 Q)<|Q (.bl false) L2
 |_=>False
def t_(G:G3)(u:Y->xt):V->TE:=λx σ H Q=>∃y τ L I,RV G H y x/\xn G H σ τ/\zy G H L/\u y τ L I/\tR G H I Q
theorem jD.imp{ops:List CmpOp}{t u:V->TE}(h:jD X ops es t)(q:∀x σ H Q,u x σ H Q->t x σ H Q):jD X ops es u:=λpos J s σ H x v Q I r z=>h pos J s σ H x v Q I r<|q _ _ _ _ z
theorem Py{r:nv}(x:V)(σ:L2.St)(H:Hp)(Q:VK):t_ G (Gn r tb) x σ H Q->Ii (iI G r) (mv G tb) x σ H Q:=λ ψ=>by
 obtain⟨y,g,L,j,l,o,p,z,k⟩:=ψ
 exact ⟨g,L,_,o,p,z,λv H1 t C U I J T=>⟨y,t,C,j,l.ts U,J,I,T,k.ts U⟩⟩
theorem Pz{r:nv}{u:Y->xt}(x:V)(σ:L2.St)(H:Hp)(Q:VK):t_ G (Go r tb u) x σ H Q->Ij (iI G r) (mv G tb) (t_ G u) x σ H Q:=λ⟨y,j,L,l,rv,T,rl,z,k⟩=>
 ⟨j,L,_,T,rl,z,λv H1 o L1 U p I z1=>⟨y,o,L1,_,rv.ts U,I,p,z1,λv2 H2 y2 L2 g J t z2=>by
  cases y2 with
  |bl C=>
   refine⟨C,t,?_⟩;have z3:vt C (u o j L2 l) (l (.bl false) L2):=z2;cases C with|true=>rw[AB rfl];exact⟨o,j,L2,l,I.ts g,T.ts<|U.trans g,J,z3,k.ts<|U.trans g⟩|false=>rw[AC AH];exact k _ H2 _ L2 (U.trans g) J (by rfl) z3
  |_=>exact z2.elim⟩⟩
section
variable {a b c:Expr}{op pj:CmpOp}{ops:List CmpOp}{r:nv}{u:Y->xt}
theorem zR(I:wg X (compareOp op)<|iI X.g3 r)(J:QE X b tb):jD X [op] [b] (t_ X.g3<|Gn r tb):=jD.imp (y7 I J) Py
theorem PB(I:wg X (compareOp op)<|iI X.g3 r)(J:QE X b tb)(U:jD X (pj::ops) (c::es)<|t_ X.g3 u):jD X (op::pj::ops) (b::c::es) (t_ X.g3<|Go r tb u):=jD.imp (yW I J U) Pz
theorem PD(σ:L2.St)(H:Hp)(Q:VK):mv G (wA ta u) σ H Q->(λσ H Q=>mv G ta σ H λx H1=>t_ G u x σ H1 Q) σ H Q:=λ ψ=>by
 obtain⟨U,L,l,g,o,z,k⟩:=ψ
 exact ⟨U,L,_,g,o,z,λv H1 y p j I J r=>⟨y,U,p,l,J,g.ts j,I,r,k.ts j⟩⟩
theorem PH(J:QE X a ta)(h:jD X (op::pj::ops) (b::c::es)<|t_ X.g3 u)(U:lastMarks (op::pj::ops) (b::c::es)=false:=by with_unfolding_all rfl):QT X (.Compare a (op::pj::ops) (b::c::es) pos) (yB<|wA ta u):=
 PT.imp (yg J h U) λI H Q q=>PD I H _<|Gd I H Q q
end
end L3
namespace L2
open PySem PySem.Spec PyProof.Rows
end L2
namespace L3
open PySem L2
def FA:Y->Option jf
 |.int i=>some<|.inl i
 |.str x=>some<|.inr x
 |_=>none
theorem mY{v:V}{k:jf}(h:FA y=some k)(r:RV G H y v):v=kV k:=by cases y with|int i=>cases h;exact r|str x=>cases h;exact r|_=>cases h
def mI(kvs:List<|jf×Y)(k:jf)(y:Y):List (jf×Y):=
 if (kvs.any λI=>decide<|I.1=k)=true then kvs.map (λI=>if I.1=k then(I.1,y) else I) else kvs++[(k,y)]
theorem jg.dct{p:Addr}{zs:List<|jf×V}{o:HO}(h:H p=some (.dK zs)):jg H (upd H p o):=λa u i q=>by rw[qr ?_];exact q;rintro rfl;rw[h] at q;cases q;cases i
theorem PK{xs:List<|jf×V}(p:Paired (λ(p:jf×Y) (q:jf×V)=>p.1=q.1/\RV G H p.2 q.2) kvs xs)(k:jf):(kvs.any λI=>decide<|I.1=k)=xs.any λI=>decide (I.1=k):=by induction p with|nil=>rfl|cons r t J=>rw[Ct,Ct,J,r.1]
theorem PL{xs:List<|jf×V}{v:V}(p:Paired (λ(p:jf×Y) (q:jf×V)=>p.1=q.1/\RV G H p.2 q.2) kvs xs)(k:jf)(r:RV G H y v):
 Paired (λ(p:jf×Y) (q:jf×V)=>p.1=q.1/\RV G H p.2 q.2) (kvs.map λI=>if I.1=k then(I.1,y) else I) (xs.map λI=>if I.1=k then(I.1,v) else I):=by
 induction p with
 |nil=>exact .nil
 |@cons a b _ _ J t U=>
  refine .cons ?_ U;obtain⟨e,q⟩:=J;dsimp only;by_cases c:a.1=k
  ·rw[AB c,AB<|e▸c];exact⟨e,r⟩
  ·rw[AC c,AC λz=>c<|e.trans z];exact⟨e,q⟩
theorem PM{xs:List<|jf×V}{v:V}(p:Paired (λ(p:jf×Y) (q:jf×V)=>p.1=q.1/\RV G H p.2 q.2) kvs xs)(k:jf)(r:RV G H y v):
 Paired (λ(p:jf×Y) (q:jf×V)=>p.1=q.1/\RV G H p.2 q.2) (kvs++[(k,y)]) (xs++[(k,v)]):=by
 induction p with|nil=>exact .cons ⟨rfl,r⟩ .nil|cons I t J=>exact .cons I J
theorem PN{xs:List<|jf×V}{v:V}(p:Paired (λ(p:jf×Y) (q:jf×V)=>p.1=q.1/\RV G H p.2 q.2) kvs xs)(k:jf)(r:RV G H y v):
 Paired (λ(p:jf×Y) (q:jf×V)=>p.1=q.1/\RV G H p.2 q.2) (mI kvs k y) (dk xs k v):=by
 unfold mI dk;rw[PK p k];by_cases c:(xs.any λI=>decide<|I.1=k)=true
 ·rw[AB c,AB c];exact PL p k r
 ·rw[AC c,AC c];exact PM p k r
theorem PP{R:α->β->Prop}{l:List α}{m:List β}(p:Paired R l m):l.length=m.length:=by induction p with|nil=>rfl|cons _ _ I=>rw[AJ,AJ,I]
def Ik(_:jw)(L:qo)(Q:YK):Prop:=∀p,L p=none->Q (.ref p) (qi L p<|.dct [])
def PQ(td ti:xt)(τ:jw)(L:qo)(Q:YK):Prop:=td τ L λx L1=>ti τ L1 λy L2=>match x,FA y with
 |.ref a,some k=>qB L2 a λkvs=>c_ L2 Q<|kn kvs k
 |_,_=>False
def tH(td ti tv:xt)(D:xb)(τ:jw)(L:qo):Prop:=tv τ L λv L1=>td τ L1 λx L2=>ti τ L2 λy L3=>match x,FA y with
 |.ref a,some k=>qB L3 a λkvs=>kvs.length<sizeLine/\D.nx τ (qi L3 a<|.dct<|mI kvs k v)
 |_,_=>False
section
variable {i:Expr}{td ti tv:xt}
theorem xX:QE X (.Dict [] [] pos) Ik:=EF Nh λU H Q g L j l J z k=>λp I=>by
 refine k _ _ _ (qi L p<|.dct []) (EE I) (λa u e=>?_) (by rfl)<|z p<|J.none I;by_cases c:a=p
 ·subst c;rw[q9] at e;cases e;exact⟨[],zk,.nil⟩
 ·rw[qg c] at e;exact(J a u e).keep (EE I) (qr c)
theorem dE(hu:X.A.units+128<cLine)(t:QE X o td)(hi:QE X i ti)(hs:F4 i):QE X (.Subscript o i pos) (PQ td ti):=EF (Nd (by omega) t hi hs) λσ H Q l L Q3 p C z k=>
 ⟨l,L,_,p,C,z,λv H1 x T r J U z1=>⟨l,T,_,p.ts r,J,z1,λw H2 y L2 t2 I g j=>by
  split at j
  ·rename_i a kk ek;obtain⟨a1,e,z3⟩:=gt j;obtain⟨yv,ev,q⟩:=qV z3;obtain⟨xs,e2,pr⟩:=I a _ e;obtain⟨xv,ex,rx⟩:=oO pr ev;exact⟨a,xv,U,.inl ⟨xs,kk,.inl e2,mY ek g,ex.symm⟩,k _ H2 _ L2 (r.trans t2) I rx q⟩
  ·exact j.elim⟩⟩
theorem hW(hu:X.A.units+128<cLine)(ho:QE X o td)(hi:QE X i ti)(hv:QE X value tv)(hs:swapsWith value (some<|.Subscript o i fy) pos.line X.env=pure false:=by rfl):QS X (.Assign [.Subscript o i fy] value pos) (tH td ti tv):=
 EJ (Nf (by omega) ho hi hv hs) λD σ H l L D3 J rl z k=>
 ⟨l,L,_,J,rl,z,λv H1 vy L1 U p r z1=>⟨l,L1,_,J.ts U,p,z1,λx H2 xy L2 g t C z2=>⟨l,L2,_,J.ts<|U.trans g,t,z2,λw H3 y L3 T I a1 z3=>by
  split at z3
  ·rename_i a kk ek;obtain⟨a3,e,hl,q⟩:=gt z3;obtain⟨xs,e2,pr⟩:=I a _ e;have j:jg H3 (upd H3 a<|.dK<|dk xs kk v):=jg.dct e2;cases (show x=V.ref a from C);refine⟨a,_,rfl,.inl ⟨xs,kk,e2,mY ek a1,by rw[<-PP pr];exact hl,rfl⟩,?_⟩;refine k.nx _ _ _ _ (((U.trans g).trans T).trans j) (J.ts<|((U.trans g).trans T).trans j) (λb u eb=>?_) q;by_cases c:b=a
   ·subst c;rw[q9] at eb;cases eb;exact⟨_,zk,EI (PN pr kk<|r.ts<|g.trans T) λ_ _ ψ=>(by obtain⟨h1,h2⟩:=ψ;exact ⟨h1,h2.ts j⟩)⟩
   ·rw[qg c] at eb;exact(I b u eb).keep j (qr c)
  ·exact z3.elim⟩⟩⟩
end
def rQ(to ti tv:xt)(D:xb)(τ:jw)(L:qo):Prop:=tv τ L λv L1=>to τ L1 λx L2=>ti τ L2 λy L3=>match x,y with
 |.ref a,.int i=>fP L3 a λys=>c_ L3 (λj L=>D.nx τ<|qi L a<|.lst<|ys.set j v)<|yo ys.length i
 |_,_=>False
section
variable {i:Expr}{ti tv:xt}
theorem pX(ho:QE X o to)(hi:QE X i ti)(hv:QE X value tv)
 (ha:∀v,assign (.Subscript o i fy) X.env v=(do
  let J <-holding [v] (eval o X.env)
  let p <-holding [v,J] (eval i X.env)
  standAt fy
  holding [v,J,p] (setItem J p v)
  release [v,J,p] []):=by intro _;rfl)
 (h1:swapsWithSole [.Subscript o i fy] value pos.line X.env=pure false:=by rfl) (h2:swappedStores [.Subscript o i fy] value X.env=pure none:=by rfl)
 (h3:(assignEach [.Subscript o i fy] X.env).map (·.2)=[assign (.Subscript o i fy) X.env]:=by rfl):QS X (.Assign [.Subscript o i fy] value pos) (rQ to ti tv):=
 EJ (Hh hv (Mj ho hi ND ha) h1 h2 h3) λD σ H t L D3 U rl z k=>
 ⟨t,L,_,U,rl,z,λv H1 vy L1 g C T z1=>⟨t,L1,_,U.ts g,C,z1,λx H2 xy L2 l a1 a3 z2=>⟨t,L2,_,U.ts<|g.trans l,a1,z2,λw H3 y L3 t3 I a4 z3=>by
  split at z3
  ·rename_i a ii;obtain⟨ys,e,z4⟩:=ko z3;obtain⟨j,ej,q⟩:=qV z4;obtain⟨xs,e2,r⟩:=I a _ e;cases (show x=V.ref a from a3);cases (show w=V.int ii from a4);have tt:jg H3 (upd H3 a<|.lst<|xs.set j v):=ET e2;exact⟨a,xs,ii,j,rfl,rfl,e2,by rw[<-r.length];exact ej,k.nx _ _ _ _ (((g.trans l).trans t3).trans tt) (U.ts<|((g.trans l).trans t3).trans tt) (I.setL e2<|xr.setY (T.ts<|l.trans t3) j r) q⟩
  ·exact z3.elim⟩⟩⟩
end
end L3
namespace L2
open PySem PySem.Spec PyProof.Rows
def PJ(X:Cx)(es:List Expr)(t:Str->TE):Prop:=∀(pins:List<|Addr×Obj) (s:Shared) (σ:St) (H:Hp) (fm:Str) (Q:VK),qx X pins σ H s->t fm σ H Q->wpAny (model X.prog X.w) X.A (joinParts fm<|evalEach es X.env) (EP X pins σ Q) X.xe s
def PR:Str->TE:=λfm _ H Q=>fm.length<=sizeLine/\Q (.str fm) H
def PU(te:TE)(u:Str->TE):Str->TE:=λfm σ H Q=>te σ H λx H1=>∃y,x=.str y/\(fm++y).length<=sizeLine/\u (fm++y) σ H1 Q
section
variable {nC oi:Expr}{te:TE}{u:Str->TE}
theorem PV:PJ X [] PR:=λU s j H J Q I ψ=>(by obtain⟨g,q⟩:=ψ;exact joinParts_nil ⟨.str J,H,I.tok _,⟨_,rfl⟩,q⟩ g)
theorem PX(h:PE X e te)(t:PJ X es u):PJ X (e::es) (PU te u):=by intro J s U H g Q I j;refine joinParts_cons<|aE (h J s U H _ I j) λv l ψ=>?_;obtain⟨x,o,p,r,y,C,T,q⟩:=ψ;subst C;obtain⟨tk,rfl⟩:=(show ∃t,v=Value.str y t from r);exact⟨T,t J l U o _ Q p q⟩
theorem PY(h:PJ X (nC::oi::es) u):PE X (.JoinedStr (nC::oi::es) pos) (u Str.empty):=λJ s U H Q I g=>JoinedStr_many<|h J s U H _ Q I g
end
end L2
namespace L3
open PySem L2
def Il(fm:Str)(_:jw)(L:qo)(Q:YK):Prop:=fm.length<=sizeLine/\Q (.str fm) L
def iL(te:xt)(u:Str->xt)(fm:Str)(τ:jw)(L:qo)(Q:YK):Prop:=te τ L λx L1=>match x with
 |.str y=>(fm++y).length<=sizeLine/\u (fm++y) τ L1 Q
 |_=>False
def Im(u:Str->xt)(τ:jw)(L:qo)(Q:YK):Prop:=u Str.empty τ L Q
theorem PJ.imp{t u:Str->TE}(h:PJ X es t)(q:∀fm σ H Q,u fm σ H Q->t fm σ H Q):PJ X es u:=λJ s σ H fm Q I z=>h J s σ H fm Q I<|q _ _ _ _ z
section
variable {nC oi:Expr}{u:Str->xt}
theorem PZ:PJ X [] (λfm=>mv X.g3<|Il fm):=PJ.imp PV λfm J H Q ψ=>(by obtain⟨U,L,g,j,I,z,k⟩:=ψ;exact ⟨z.1,k _ H _ L (ED _) I (by rfl) z.2⟩)
theorem gd(h:QE X e te)(t:PJ X es λfm=>mv X.g3<|u fm):PJ X (e::es) (λfm=>mv X.g3<|iL te u fm):=PJ.imp (PX h t) λfm C H Q ψ=>by
 obtain⟨g,L,o,j,p,z,k⟩:=ψ
 exact ⟨g,L,_,j,p,z,λv T y r l I J U=>by cases y with|str s=>exact⟨s,J,U.1,g,r,o,j.ts l,I,U.2,k.ts l⟩|_=>exact U.elim⟩
theorem P0(h:PJ X (nC::oi::es) λfm=>mv X.g3<|u fm):QE X (.JoinedStr (nC::oi::es) pos) (Im u):=PY h
end
section
variable {tv:xt}{tr:fV}{p:Pos}{f m:Str}{g:Addr}
end
open PySem.AutoSeq1 (wpAny_loadPart')
open MeetsSeq MeetsSeq2 MeetsSeq3 SeqRoads2
end L3
namespace Txs
open PySem PySem.Builtin.Str
theorem len_list(x:Str):x.cps.toList.length=x.length:=by simp[Str.length]
end Txs
namespace L2
open PySem PySem.Spec PyProof.Rows
section
variable {isp imk c j1 j2:Nat}{sp mk:Str}{u:Tok}{m:Str->Option Value}{p6 p7 p8 p9 r4:Pos}{Q:Flow->Shared->Prop}
end
end L2
namespace L2
open PySem PySem.Spec PyProof.Rows
end L2
namespace L3
open PySem L2
section
variable {tr:fV}{p:Pos}{m:Str}{k:Nat}{sp:zh}
end
end L3
namespace L2
open PySem PySem.Spec PyProof.Rows
def P1(te:TE):TE:=λσ H Q=>te σ H λx H1=>∃i:Int,x=.int i/\i.natAbs.log2<1920/\Q (.str<|toString i) H1
section
variable {te:TE}
theorem P2(h:PE X e te):PE X (.FormattedValue e (-1) none pos) (P1 te):=by intro J s U H Q I g;refine FormattedValue_plain<|aE (h J s U H _ I g) λv C ψ=>?_;obtain⟨x,j,l,o,i,p,r,q⟩:=ψ;subst p;obtain⟨t,rfl⟩:=(show ∃t,v=Value.int i t from o);exact formatField_int_small r ⟨.str _,j,l.tok _,⟨_,rfl⟩,q⟩
end
end L2
namespace L3
open PySem L2
def Gp(te:xt)(τ:jw)(L:qo)(Q:YK):Prop:=te τ L λx L1=>match x with
 |.int i=>i.natAbs.log2<1920/\Q (.str<|toString i) L1
 |_=>False
theorem xZ(h:QE X e te):QE X (.FormattedValue e (-1) none pos) (Gp te):=EF (P2 h) λt H Q g L C j l z k=>
 ⟨g,L,_,j,l,z,λv o y p r I J U=>by cases y with|int i=>exact⟨i,J,U.1,k _ o _ p r I (by rfl) U.2⟩|_=>exact U.elim⟩
end L3
namespace L2
open PySem PySem.Spec PyProof.Rows
section
variable {a T:Addr}{tr:Option Addr}
end
section
variable {T:List Str}{iter:Expr}{g:TG}{te:TE}
end
section
variable {a b T:Addr}{tr:Option Addr}{E1:X1}
end
section
variable {k:Nat}{E1:X1}{p:Pos}{t:TA}
end
theorem uD:∀{I:List Int} {us:List Value},zw (I.map V.int) us->∃l:List (Int×Tok),l.map (·.1)=I/\us=l.map λp=>Value.int p.1 p.2
 |[],_,.nil=>⟨[],rfl,rfl⟩
 |n::I,_,.cons r t=>by obtain⟨J,rfl⟩:=(show ∃t,_=Value.int n t from r);obtain⟨l,e,rfl⟩:=uD t;exact⟨(n,J)::l,by rw[AG,e],rfl⟩
theorem P4(hc:X.calm=true:=by rfl):jn X (.builtin "sum") (λxs H Q=>∃(a:Addr) (J:List Int),xs=[.ref a]/\aF X.K H a (J.map V.int)/\Q (.int J.sum) H):=by
 intro U s σ H xs us Q I r h;obtain⟨a,J,rfl,sq,q⟩:=h;obtain⟨u,rfl,j⟩:=jM r;cases j;obtain⟨o,t,pl,_⟩:=I.list sq;obtain⟨l,C,rfl⟩:=uD t;have g:=ja pl;have ei:(l.map λp=>Value.int p.1 p.2).toArray=intItems l.toArray:=by unfold intItems;simp
 rw[ei] at g;refine jy I.tk<|sum_intListG (I.ok.hd hc) g λh' T t' hk ht=>?_;have es:preSum (numAt l.toArray) l.toArray.size=J.sum:=by rw[preSum_eq,AR (by simp),<-C]
 rw[es];exact⟨.int J.sum,H,I.kept (h':=h') (t':=T) hk ht,⟨_,rfl⟩,q⟩
end L2
namespace L3
open PySem L2
section
variable {T:List Str}{iter c:Expr}{wi:r_}{tr:fV}{E3:X3}{Ea:Addr->qo->Prop}
end
def oI:List Y->Option (List Int)
 |[]=>some []
 |.int b::r=>(oI r).map (b::·)
 |_::_=>none
theorem oC(bs:List Int):oI (bs.map Y.int)=some bs:=by induction bs with|nil=>rfl|cons b r I=>show(oI<|r.map Y.int).map (b::·)=_;rw[I];rfl
theorem jE{G:G3}{H:Hp}:∀{ys:List Y} {xs:List V} {bs:List Int},oI ys=some bs->xr G H ys xs->xs=bs.map V.int
 |[],_,_,h,r=>by cases h;exact r
 |y::ys,_,bs,h,ψ=>by
  obtain⟨x,I,e,J,U⟩:=ψ
  cases y with
  |int b=>
   have g:(oI ys).map (b::·)=some bs:=h;obtain⟨l,j,rfl⟩:=AA.mp g;cases (show x=V.int b from J);rw[e,jE j U];rfl
  |_=>cases h
def Gq(xs:List Y)(L:qo)(Q:YK):Prop:=match xs with
 |[y]=>Gc y=true/\jY L y λys=>c_ L (λbs L=>Q (.int bs.sum) L)<|oI ys
 |_=>False
theorem Io(hc:X.calm=true:=by rfl):jn X (.builtin "sum") (b_ X.g3 Gq):=EN (P4 hc) λj H Q l L o J I z k=>by
 unfold Gq at z;split at z
 ·rename_i y;obtain⟨x,rfl,r⟩:=J.inv1;obtain⟨U,z⟩:=z;obtain⟨p,g,z⟩:=aT z;obtain⟨bs,eb,z⟩:=qV z;obtain⟨a,t,rfl,sq,rr⟩:=iR I r U g;cases jE eb rr;exact⟨a,bs,rfl,sq,k _ H _ L (ED _) I (by rfl) z⟩
 ·exact z.elim
theorem Ip:bootBuiltins "sum"=some (.builtin "sum"):=by decide +kernel
end L3
namespace L2
open PySem PySem.Spec PyProof.Rows
end L2
namespace L2
open PySem PySem.Spec PyProof.Rows
section
variable {w:World}
theorem rU{it t:Addr}{eA:Array Value}(I:t≠it):∀(n i:Nat) (s:Shared) (Q:List Value->Shared->Prop),s.heap.IsListIter it t i->s.heap.IsList t eA->i+n<=eA.size->
 (∀h',h'.IsListIter it t (i+n)->Heap.SameBut it s.heap h'->Q ((eA.toList.drop i).take n) { s with heap:=h' })->wpAny (model prog w) A (draw (.ref it) n) Q E s
 |0,i,s,Q,hit,_,_,g=>by unfold draw;exact Ah (by simpa using g s.heap hit (Heap.SameBut.refl ..))
 |n+1,i,s,Q,hit,p,r,g=>by
  have J:i<eA.size:=by omega
  unfold draw;refine Aa<|wpAny_pyNext_list_item hit p (x:=eA[i]) (by simp[J]) λg1 j U=>?_;refine Aa<|A4<|rU I n (i+1) _ _ j (p.extBut U.extBut I) (by lia) λg2 l o=>Ah ?_;have e:eA.toList.drop i=eA[i]::eA.toList.drop (i+1):=by simp[Ck,J]
  have q:=g g2 (by rw[show i+(n+1)=i+1+n by simp +arith only];exact l)
   (U.trans o)
  rw[e,List.take_succ_cons] at q;exact q
theorem P5{t:Addr}{eA:Array Value}{Q:Unit->Shared->Prop}(T:A.handled=none)(I:s.heap.IsList t eA)(hn:(assignEach mR env).length=eA.size)(j:(assignEach mR env).findIdx? (·.1)=none)
 (h:∀g,Heap.ExtBut s.heap.objs.size s.heap g->wpAny (model prog w) A (assignInOrder ((assignEach mR env).map (·.2)) eA.toList) Q E { s with heap:=g }):wpAny (model prog w) A (assign (.Tuple mR x1 pos) env<|.ref t) Q E s:=by
 have J:t≠s.heap.objs.size:=by obtain⟨o,ho,_⟩:=I;exact A9<|um ho
 rw[arm_assign_Tuple];refine Aa<|wpAny_standAt ?_;unfold unpack;rw[hn,j];refine Aa<|A4 ?_;unfold unpackItems notIterableAtAll;refine Aa<|Aa<|wpAny_specialOf I.typeIs slot_list_iter.lookup ?_;refine Ah ?_;rw[AC (by simp)];refine Aa<|A4<|wpAny_pyIter_list I ?_;refine Aa<|A4<|rU J eA.size 0 _ _ ⟨_,vb _ rfl,rfl,rfl⟩ (I.push _) (by simp +arith only) λg1 l U=>?_;have all:List.take eA.size (List.drop 0 eA.toList)=eA.toList:=by rw[DM];exact AR (by simp)
 rw[all,AC (by simp)];have p:g1.IsList t eA:=(I.push _).extBut U.extBut J;refine Aa<|A4<|wpAny_pyNext_list_end T l p (by simp) λg2 r=>?_;rw[AC (by simp)];exact Ah<|h g2 λb o C e=>r b o C<|U.extBut b o C<|sy _ e
end
def P6(K:Af)(n:Nat)(t:e_):TG:=λv σ H Q=>∃a xs,v=.ref a/\aF K H a xs/\xs.length=n/\t xs σ H Q
theorem P7{k:Nat}{t:e_}(hc:X.calm=true)(h:PGs X es t)
 (l:(assignEach es X.env).length=n:=by rfl) (U:(assignEach es X.env).findIdx? (·.1)=none:=by rfl):PG X (.Tuple es k pos) (P6 X.K n t):=by
 intro J s g H v u Q I r hw;obtain⟨a,p,C,T,hl,hw⟩:=hw;subst C;cases r;obtain⟨a1,j,pl,hz⟩:=I.list T;have ht:=ja pl;refine P5 (I.ok.hd hc) ht (by simp[l,<-hl,j.length]) U λh' hx=>?_;have I1:qx X J g H { s with heap:=h' }:=I.kept (t':=s.toks) λb o e=>hx b o (A9<|um e) e;exact h J _ g H p _ Q I1 (by simpa using j) hw
theorem P8(l:Addr)(eA:Array Value)(n:Nat)(x:Value)(b:Nat->Bool)(j:Nat)(C:j<eA.size)(hit:b j=true)(hz:eA.size<=sizeLine):∀(k i:Nat),j-i=k->i<=j->(∀m,i<=m->m<j->b m=false)->
 Meets (Builtin.«list.remove.loop» ⟨[.ref l,x,rawInt i],[]⟩) (λA R s=>s.heap.get? l=some { cls:=.type "list",dict:=none,data:=.seq eA n,slots:=#[] }/\(∀m (hm:m<eA.size),SeqAt.EqAt A.in1 s eA[m] x<|b m)/\R (.ok<|.ret .none) { s with heap:=s.heap.update l (Obj.mapSeq λxs=>xs.eraseIdxIfInBounds j) }):=by
 intro k
 induction k with
 |zero=>
  intro i T p J I w A R s h;obtain⟨hp,g,d,tk,os⟩:=s;obtain⟨U,eq,h⟩:=h;have e:i=j:=by lia
  subst e
  (wp_walk using wpAny_loadPart' U)
  have r:eA[((i:Nat):Int).toNat]?=some eA[i]:=by simp[C]
  rw[r];refine Aa<|eq i C I w _ _ ?_;rw[hit];have t:(eA.eraseIdxIfInBounds i).size<=sizeLine+1:=AZ (MeetsSeq.size_erased eA _)<|BP hz
  (wp_walk using (wpAny_updateSeq U rfl (hz:=hz) (_hz':=t)),wpAny_loadPart' U)
  simpa using h
 |succ k ih=>
  intro i T p J I w A R s h;obtain⟨hp,g,d,tk,os⟩:=s;obtain⟨U,eq,h⟩:=h;have o:i<eA.size:=by exact iX
  (wp_walk using wpAny_loadPart' U)
  have r:eA[((i:Nat):Int).toNat]?=some eA[i]:=by simp[o]
  have hc:((i:Int)+1)=((i+1:Nat):Int):=by rfl
  rw[r];refine Aa<|eq i o I w _ _ ?_;rw[J i (Ao _) (by omega)]
  wp_walk
  rw[hc];refine⟨plainId_quiet Db _,codeAny_builtin MeetsSeq.entry_remove_loop ?_⟩;rw[EQ Db _];exact ih (i+1) (by omega) (by omega) (λm h1 h2=>J m (by exact ix) h2) I w A R _ ⟨U,eq,h⟩
theorem P9(l:Addr)(eA:Array Value)(n:Nat)(x:Value)(b:Nat->Bool)(j:Nat)(o:j<eA.size)(hit:b j=true)(hz:eA.size<=sizeLine)(J:∀m,m<j->b m=false):
 Meets (Builtin.«list.remove» ⟨[.ref l,x],[]⟩) (λA R s=>s.heap.get? l=some { cls:=.type "list",dict:=none,data:=.seq eA n,slots:=#[] }/\(∀m (p:m<eA.size),SeqAt.EqAt A.in1 s eA[m] x<|b m)/\R (.ok<|.ret .none) { s with heap:=s.heap.update l (Obj.mapSeq λxs=>xs.eraseIdxIfInBounds j) }):=by
 intro I w A R s h;obtain⟨r,g,d,t,os⟩:=s;obtain⟨U,eq,h⟩:=h
 (wp_walk using wpAny_loadPart' U)
 refine⟨plainId_quiet Db _,codeAny_builtin MeetsSeq.entry_remove_loop ?_⟩;rw[EQ Db _];exact P8 l eA n x b j o hit hz _ 0 rfl (Bb _) (λm _ h2=>J m h2) I w A R _ ⟨U,eq,h⟩
theorem zw.eraseN:∀{xs:List V} {us:List Value} (n:Nat),zw xs us->zw (xs.eraseIdx n) (us.eraseIdx n)
 |[],_,n,.nil=>by simp;exact .nil
 |_::_,_,0,.cons _ t=>t
 |_::_,_,n+1,.cons r t=>.cons r<|zw.eraseN n t
def P_(X:Cx):V->List V->Hp->VK->Prop:=λx vs H Q=>∃l xs y ds e,∃n m j:Nat,x=.ref l/\vs=[y]/\H l=some (.lst xs)/\n<=126/\Paired (vo X.K H n) xs ds/\vo X.K H m y e/\j<ds.length/\(∃d,ds[j]?=some d/\Da.eq d e=true)/\
 (∀(k:Nat) d,k<j->ds[k]?=some d->Da.eq d e=false)/\Q .non (upd H l<|.lst<|xs.eraseIdx j)
theorem zD(hu:X.A.units+128<cLine):o5 X "list.remove" (P_ X):=by
 intro ac s σ H x vs v us Q I rx rv h;obtain⟨l,o,y,g,e,n,m,j,rfl,rfl,hH,hn,pd,ry,hj,⟨dj,t,C⟩,T,q⟩:=h;cases rx;obtain⟨u,rfl,ru⟩:=rv.one;obtain⟨z,J,nn,r,hl,eo⟩:=I.lstM hH;have l1:o.length=g.length:=pd.length;have l2:J.length=o.length:=r.length.symm;obtain⟨arr,U⟩:∃arr:Array Value,arr=J.toArray:=⟨_,rfl⟩;have a1:arr.size=J.length:=by rw[U,Au]
 have b:Nat->Bool:=λ_=>true;have a3:arr.size<=sizeLine:=by rw[a1];lia
 have M:=P9 l arr nn u (λk=>((g[k]?).map λd=>Da.eq d e).getD false) j (by lia) (by show((g[j]?).map λd=>Da.eq d e).getD false=true;rw[t];exact C) a3 (λk p=>by show((g[k]?).map λd=>Da.eq d e).getD false=false;cases ek:g[k]? with|none=>rfl|some d=>exact T k d p ek)
 rw[U] at M;refine call_meets F.slot_list_remove ⟨_,eo,rfl⟩ F.entry_list_remove (F.args_list_remove_2 _ _) M ⟨eo,λk p=>?_,?_⟩
 ·have al:k<J.length:=by rw[Au] at p;exact p
  obtain⟨d,ed,rd⟩:=Words.Paired.getP pd<|Al (by lia:k<o.length);show SeqAt.EqAt _ s _ u (((g[k]?).map λd=>Da.eq d e).getD false);rw[ed];obtain⟨u',a4,a5⟩:=Words.Paired.getP r<|Al (by lia:k<o.length);have eg:J.toArray[k]=u':=by have:=(AN.mp a4).2;simpa using this
  rw[eg];exact mX I n (by show X.A.units+1+n<cLine;lia) rd ry a5 ru
 ·refine⟨.non,_,I.lset (its':=J.eraseIdx j) hH eo ?_ (r.eraseN j) ?_,rfl,q⟩
  ·have:j<J.length:=by lia
   simp[Array.eraseIdxIfInBounds,this]
  ·have:=Di o j;exact amp
end L2
namespace L3
open PySem L2
def Iq(n:Nat)(t:sG)(y:Y)(τ:jw)(L:qo)(Q:jw->qo->Prop):Prop:=match y with
 |.ref a=>fP L a λys=>match ys.length==n with
  |true=>t ys τ L Q
  |false=>False
 |_=>False
theorem Ir{U:Nat}(hc:X.calm=true)(h:E9 X es gs)(h1:(assignEach es X.env).length=n:=by rfl)(h2:(assignEach es X.env).findIdx? (·.1)=none:=by rfl):QG X (.Tuple es U pos) (Iq n gs):=
 PG.imp (P7 hc h h1 h2) λv σ H Q ψ=>by
 obtain⟨y,g,L,j,l,o,J,z,k⟩:=ψ
 cases y with
 |ref a=>
  cases (show v=.ref a from l);obtain⟨p,e,I⟩:=ko z;obtain⟨t,C,r⟩:=J a _ e;split at I
  ·rename_i T;exact⟨a,t,rfl,aF.of C,by rw[<-r.length];exact beq_iff_eq.mp T,p,g,L,j,r,o,J,I,k⟩
  ·exact I.elim
 |_=>exact z.elim
def kU(x:Y)(vs:List Y)(L:qo)(Q:YK):Prop:=match x,vs with
 |.ref a,[v]=>fP L a λys=>∃ds e,∃n m j:Nat,n<=126/\Paired (xa L n) ys ds/\xa L m v e/\j<ds.length/\(∃d,ds[j]?=some d/\Da.eq d e=true)/\(∀(k:Nat) d,k<j->ds[k]?=some d->Da.eq d e=false)/\Q .non (qi L a<|.lst<|ys.eraseIdx j)
 |_,_=>False
theorem Qa(C:X.A.units+128<cLine):o5 X "list.remove" (v_ X.g3 kU):=o5.imq (zD C) λx I H Q y U L Q3 T r2 g z k=>by
 unfold kU at z;split at z
 ·rename_i a v;obtain⟨zs,e,J,de,n,m,j,hn,pd,dv,hj,hit,l,z⟩:=ko z;obtain⟨us,o,r⟩:=g a _ e;obtain⟨v',rfl,rv⟩:=r2.inv1;have both:∀{U:List Y} {J:List Da} {I:List V},Paired (xa L n) U J->xr X.g3 H U I->Paired (vo X.K H n) I J:=by
   intro U J I p
   induction p generalizing I with
   |nil=>intro q;cases (show I=[] from q);exact .nil
   |cons h t ih=>
    rintro⟨x,a1,rfl,q1,q2⟩;exact .cons (xa.rep g h q1)<|ih q2
  exact⟨a,us,v',J,de,n,m,j,T,rfl,o,hn,both pd r,xa.rep g dv rv,hj,hit,l,k _ _ _ _ (ET o) (g.setL o<|r.eraseIdx j) (by rfl) z⟩
 ·exact z.elim
theorem yy(I:X.A.units+128<cLine){tr:fV}(J:QE X o to)(U:QA X (e::es) tr)(g:attributeBase o "remove" X.env (eval o X.env)=eval o X.env:=by rfl)
 (j:((backTo fu<|starEach (e::es) X.env).all (λx=>!x.1)&&(backToKw fu<|keywordEach [] X.env).all (λx=>x.1.isSome)&&decide ((e::es).length+([]:List Keyword).length+(if ([]:List Keyword).isEmpty=true then 0 else 1)<30))=true:=by rfl)
 (l:(apos.endLine==fu.line)=true:=by rfl) (p:Ew e es X:=by rfl) (r:Ex fu es X:=by rfl):
 QE X (.Call (.Attribute o "remove" apos) (e::es) [] fu) (kM kU to tr):=wE PySem.F.slot_list_remove PySem.F.type_list_remove (Qa I) J U g j l p r
open PySem L2 Words
def bL:Wd->Y
 |.leaf t n=>.tup [.str<|kL t,.str n]
 |.node e l r=>.tup [.str<|kN e,bL l,bL r]
def fi:Y:=(.tup [(.str "plain"),(.str "turned")])
theorem qm{Q:α->qo->Prop}{o:Option α}{v:α}(e:o=some v)(h:Q v L):c_ L Q o:=by rw[e];exact h
abbrev bJ(i:Int):xt:=yC<|.int i
abbrev f'(x:Str):xt:=yC<|.str x
abbrev wx(i:Nat)(n:Int):xt:=xx fY (qf i)<|yC<|.int n
abbrev qR(i:Nat):xt:=cL A'<|qk (qf i) je
abbrev o_(a b:xt):kD:=yB<|xx (j_ false) a b
abbrev g_(a b:xt):kD:=yB<|xx (j_ true) a b
abbrev Ff(a b:xt):xt:=aC<|qk a<|qk b je
abbrev aX(a:xt):fV:=qk a je
abbrev bN(a b:xt):fV:=qk a<|qk b je
def zX:vh:=(we<|xx (iA false) (wx 0 0)<|yC fi)
def kX:Bool->Bool->Str
 |true,t=>kL t
 |false,e=>kN e
def wm:zh:=λys L Q=>∃lf b rest,ys=[.tup<|.str (kX lf b)::rest]/\Q (.bl lf) L
theorem zS(t:Bool):rO (.str<|kL t) [.str "plain",.str "turned"]=true:=by cases t<;>decide +kernel
theorem yS(t:Bool):rO (.str<|kN t) [.str "plain",.str "turned"]=false:=by cases t<;>decide +kernel
theorem u8:∀ys L Q,wm ys L Q->v9 zX 1 ys L Q:=by
 rintro ys L Q ⟨lf,b,rest,rfl,q⟩;have I:fQ (Y.str (kX lf b)::rest) 0=some (Y.str<|kX lf b):=jt (xs:=Y.str (kX lf b)::rest) (j:=0) rfl;walk_at "w";rw[I];refine⟨rfl,rfl,x8 ?_⟩;cases lf with
 |true=>
  rw[show nb false (rO (fU<|.str<|kX true b)<|[Y.str "plain",.str "turned"].map fU)=true from zS b];exact q
 |false=>
  rw[show nb false (rO (fU<|.str<|kX false b)<|[Y.str "plain",.str "turned"].map fU)=false from yS b];exact q
theorem Qb(t:Bool):List.lookup (kL t) [(("plain" : Str),("turned" : Str)),("turned","plain"),("both","either"),("either","both")]=some (kL<|!t):=by cases t<;>decide +kernel
theorem zG(t:Bool):List.lookup (kN t) [(("plain" : Str),("turned" : Str)),("turned","plain"),("both","either"),("either","both")]=some (kN<|!t):=by cases t<;>decide +kernel
def Qc(I p1:zh):vh:=(zn (aG (yB<|jk I<|aX<|qf 0) (we<|bJ 1) vz)
 (we<|xx bw (xx bw (bJ 1)<|jk p1<|aX<|wx 0 1)<|jk p1<|aX<|wx 0 2))
def bA(n:Nat):zh:=λys L Q=>∃wd,ys=[bL wd]/\wd.depth<=n/\Q (.int wd.size) L
theorem ur(n:Nat):∀ys L Q,bA (n+1) ys L Q->v9 (Qc wm<|bA n) 1 ys L Q:=by
 rintro ys L Q ⟨I,rfl,hd,q⟩;cases I with
 |leaf t n=>exact⟨true,t,_,rfl,x8 q⟩
 |node e l r=>
  have J:max l.depth r.depth+1<=n+1:=hd;refine⟨false,e,_,rfl,l,rfl,by lia,r,rfl,by lia,x8 ?_⟩;have e:(1+(l.size:Int)+(r.size:Int))=(((Wd.node e l r).size:Nat):Int):=by show _=((1+l.size+r.size:Nat):Int);rfl
  rw[e];exact q
theorem xa.str(x:Str):xa L n (.str x) (.s<|.str x):=by cases n with|zero=>exact⟨rfl,rfl⟩|succ n=>exact .inl ⟨rfl,rfl⟩
abbrev EW:=@xa.str
theorem xa.int(x:Int):xa L n (.int x) (.s<|.int x):=by cases n with|zero=>exact⟨rfl,rfl⟩|succ n=>exact .inl ⟨rfl,rfl⟩
abbrev EO:=@xa.int
theorem iB{L:qo}:∀{wd:Wd} {n:Nat},wd.depth<=n->xa L n (bL wd) (pO wd)
 |.leaf t nm,n+1,_=>.inr<|.inl ⟨_,_,rfl,rfl,.cons (EW _)<|.cons (EW _) .nil⟩
 |.node e l r,n+1,h=>by have I:max l.depth r.depth+1<=n+1:=h;exact .inr<|.inl ⟨_,_,rfl,rfl,.cons (EW _)<|.cons (iB (by lia))<|.cons (iB (by lia)) .nil⟩
theorem fG{a:Addr}(e:L a=some (.lst ys))(p:Paired (xa L n) ys ds):xa L (n+1) (.ref a) (.lst ds):=.inr<|.inr ⟨ys,ds,rfl,rfl,wr e,p⟩
theorem e9(p:Paired (xa L n) ys ds):xa L (n+1) (.tup ys) (.tup ds):=.inr<|.inl ⟨ys,ds,rfl,rfl,p⟩
theorem Qd{neg:Bool}{u v:Wd}{Q:YK}(J:u.depth<=128)(q:Q (.bl<|nb neg<|Da.eq (pO u)<|pO v) L):j_ neg (bL u) (bL v) L Q:=by
 have I:∀w:Wd,zF (bL w)=true:=λw=>by cases w<;>rfl
 have:zF (bL u)=true/\zF (bL v)=true/\∃n m d e,n<=128/\xa L n (bL u) d/\xa L m (bL v) e/\Q (.bl<|nb neg<|Da.eq d e) L:=
  ⟨I u,I v,u.depth,v.depth,pO u,pO v,J,iB<|Ao _,iB<|Ao _,q⟩
 cases u<;>cases v<;>exact this
theorem bB{neg:Bool}{a b:Addr}{zs:List Y}{es:List Da}{Q:YK}(I:n<128)(ea:L a=some (.lst ys))(eb:L b=some (.lst zs))(pa:Paired (xa L n) ys ds)(pb:Paired (xa L m) zs es)(q:Q (.bl<|nb neg<|Da.eqs ds es) L):
 j_ neg (.ref a) (.ref b) L Q:=⟨rfl,rfl,n+1,m+1,_,_,I,fG ea pa,fG eb pb,q⟩
theorem ut:∀ys L Q,¬bA 0 ys L Q:=λys L Q ψ=>by obtain⟨I,_,hd,_⟩:=ψ;cases I<;>simp[Wd.depth] at hd
def top(i:Nat):Stmt:=PySem.Challenge.pw_oncewise_k53_any_order_of_cuts.main.body.getD i<|.Pass ⟨0,0,0,0⟩
abbrev oG:Stmt:=top 5
abbrev oV:Stmt:=top 6
abbrev ig:Stmt:=top 8
abbrev gQ:Stmt:=top 9
abbrev cZ:Stmt:=top 11
abbrev dQ:Stmt:=top 12
abbrev mO:Stmt:=top 13
abbrev eJ:Stmt:=top 14
abbrev lh:Stmt:=top 15
abbrev az:Stmt:=top 17
abbrev eQ:Stmt:=top 18
abbrev dq:Stmt:=top 19
abbrev gC:Stmt:=top 20
abbrev dh:Stmt:=top 21
abbrev dw:Stmt:=top 22
abbrev eE:Stmt:=top 23
abbrev cH:Stmt:=top 24
abbrev fZ:Stmt:=top 25
abbrev fA:Stmt:=top 26
abbrev eY:Stmt:=top 27
abbrev mf:Stmt:=top 28
abbrev eO:Stmt:=top 29
abbrev bu:Stmt:=top 30
abbrev gA:Stmt:=top 31
abbrev jO:Stmt:=top 32
abbrev s__law_order:Stmt:=top 33
abbrev cc:Stmt:=top 34
abbrev cD:Stmt:=top 35
abbrev bD:Stmt:=top 36
abbrev cG:Stmt:=top 37
abbrev bC:Stmt:=top 38
abbrev cA:Stmt:=top 39
abbrev dN:Stmt:=top 40
abbrev dt:Stmt:=top 41
abbrev fD:Stmt:=top 42
abbrev dc:Stmt:=top 43
abbrev cf:Stmt:=top 44
abbrev m7:Stmt:=top 45
abbrev tz:Stmt:=top 46
structure V_ where
 (P:Program) (w:World) (K:Af) (mg:Str->Option Value) (base:Heap) (Pt:Addr) (Ca:Addr)
structure B0_(V:V_):Prop where
 bh:V.mg "max"=none
 bj:V.mg "min"=none
 bg:V.mg "sorted"=none
 ba:V.mg "len"=none
 bb:V.mg "list"=none
 bq:V.mg "zip"=none
 bp:V.mg "sum"=none
 bn:V.mg "enumerate"=none
 bf:V.mg "range"=none
 be:V.mg "isinstance"=none
 bi:V.mg "tuple"=none
 b_int:V.mg "int"=none
 b_bool:V.mg "bool"=none
 b_str:V.mg "str"=none
 k_LEAF_KINDS:H9 ⟨V.K,V.P,V.w⟩ V.mg "LEAF_KINDS" fi
abbrev Q_(V:V_)(k:Nat)(x:Str)(ps:List Str)(sp:zh):Prop:=Gg V.P V.w V.K V.mg V.base k x ps sp
theorem I_{a b:Expr}(I:QE X a ta)(J:QE X b tb)(U:qN b:=by exactλ_ _=>rfl):QE X (.Subscript a b pos) (xx fY ta tb):=OM (OO X.K X.prog X.w) I J U
theorem xh{t:xt}(h:QE X e t)(s:starEach [e] X.env=[(false,eval e X.env)]:=by rfl):QA X [e] (qk t je):=xz h wb s
theorem xm{f:Expr}{t u:xt}(h:QE X e t)(g:QE X f u)(s:starEach [e,f] X.env=[(false,eval e X.env),(false,eval f X.env)]:=by rfl)(r:starEach [f] X.env=[(false,eval f X.env)]:=by rfl):QA X [e,f] (qk t<|qk u je):=xz h (xh g r) (by show _=_;rw[s,r])
theorem bO{f d:Expr}{t u v:xt}(h:QE X e t)(g:QE X f u)(i:QE X d v)(s:starEach [e,f,d] X.env=[(false,eval e X.env),(false,eval f X.env),(false,eval d X.env)]:=by rfl)(r:starEach [f,d] X.env=[(false,eval f X.env),(false,eval d X.env)]:=by rfl)(q:starEach [d] X.env=[(false,eval d X.env)]:=by rfl):QA X [e,f,d] (qk t<|qk u<|qk v je):=xz h (xm g i r q) (by show _=_;rw[s,r])
theorem E_{a b:Expr}(I:X.A.units+128<cLine)(J:QE X a ta)(U:QE X b tb):QT X (.Compare a [.Eq] [b] pos) (yB<|xx (j_ false) ta tb):=jq (Gf X.K X.prog X.w I) J U<|km _
theorem N_{a b:Expr}(I:X.A.units+128<cLine)(J:QE X a ta)(U:QE X b tb):QT X (.Compare a [.NotEq] [b] pos) (yB<|xx (j_ true) ta tb):=jq (OT X.K X.prog X.w I) J U<|km _
theorem S_(i:Nat)(hN:X.N.Nodup)(h:QE X e te)(I:X.N[i]?=some x:=by rfl)(g:Loc X.env.scope x:=by exact Or.inl rfl)(J:swapsWith e (some<|.Name x fy) pos.line X.env=pure false:=by rfl)(U:X.fn x=true\/X.env.scope.names.lookup x=some .local:=by first|exact .inl rfl|exact .inr rfl|assumption):QS X (.Assign [.Name x fy] e pos) (x5 te<|qp i):=am (i:=i) hN I g h J U
theorem G_(i:Nat)(hN:X.N.Nodup)(I:X.N[i]?=some x:=by rfl)(U:Loc X.env.scope x:=by exact Or.inl rfl)(J:X.fn x=true\/X.env.scope.names.lookup x=some .local:=by first|exact .inl rfl|exact .inr rfl|assumption):QG X (.Name x pos) (qp i):=bU (i:=i) hN I U J
theorem C_{tr:fV}{p:Pos}{k:Nat}{sp:zh}(c:Gg X.prog X.w X.K X.mg X.base j x ps sp)(U:kz k X.A)(g:QA X (e::es) tr)(l:j<=k:=by first|decide|exact Ao _|exact AZ (by decide)<|DE _ _)(o:Gl X x:=by rfl)(I:Ey x:=by decide)(r:Ew e es X:=by rfl)(J:Ex pos es X:=by rfl):QE X (.Call (.Name x p) (e::es) [] pos) (jk sp tr):=OY (Cal.mono c l) U o g I r J
theorem J_{n:Int}{k:Nat}{p q:Pos}(i:Nat)(hN:X.N[i]?=some x:=by rfl)(I:y_ X.env.scope x:=by first|exact Or.inl rfl|exact Or.inr (Or.inl rfl)|exact Or.inr<|Or.inr rfl)(hd:Ey x:=by decide)(hc:Ez x:=by decide):QE X (.Subscript (.Name x p) (.Constant (.int n) k q) pos) (xx fY (qf i)<|yC<|.int n):=I_ (qv i hN I hd hc) qc λ_ _=>rfl
theorem L_{t:xt}{p:Pos}(I:X.mg "len"=none)(h:QE X e t)(s:starEach [e] X.env=[(false,eval e X.env)]:=by rfl)(J:Gl X "len" := by rfl):QE X (.Call (.Name "len" p) [e] [] pos) (cL A'<|qk t je):=ji (OP X.K X.prog X.w) J I Oc (xh h s) (hs:=s)
theorem Fg{l:List Str}(h:decide l.Nodup=true:=by kernel_rfl):l.Nodup:=of_decide_eq_true h
abbrev Gr(V:V_)(p:zh):Prop:=Q_ V 1 "is_leaf" ["word"] p
abbrev Iu(V:V_)(p:zh):Prop:=Q_ V 122 "size_of" ["word"] p
abbrev Iv(V:V_)(p:zh):Prop:=Q_ V 122 "word_at" ["knots","place"] p
abbrev Qe(V:V_)(p:zh):Prop:=Q_ V 2 "parts_of" ["knot"] p
abbrev Qf(V:V_)(p:zh):Prop:=Q_ V 1 "partner_of" ["links","place"] p
abbrev Qg(V:V_)(p:cK):Prop:=gw V.P V.w V.K V.mg V.base 2 "links_without" ["links","p","q"] p
abbrev Qh(V:V_)(p:cK):Prop:=gw V.P V.w V.K V.mg V.base 3 "cut_step" ["web","k"] p
abbrev Qi(V:V_)(p:zh):Prop:=Q_ V 123 "steps_due" ["web"] p
abbrev Qj(V:V_)(p:cK):Prop:=gw V.P V.w V.K V.mg V.base 4 "cut_free" ["web"] p
abbrev Iw(V:V_)(p:zh):Prop:=Q_ V 1 "_law_cell_at" ["_law_script","_law_k"] p
abbrev Qk(V:V_)(p:zh):Prop:=Q_ V 1 "_law_stir" ["_law_script"] p
abbrev Fh(V:V_)(p:zh):Prop:=Q_ V 1 "_law_pick" ["_law_stir_here","_law_factor"] p
abbrev Gs(V:V_)(p:zh):Prop:=Q_ V 1 "_law_mix" ["_law_cell","_law_k","_law_factor"] p
abbrev Ix(V:V_)(p:zh):Prop:=Q_ V 1 "_law_name" ["_law_seed","_law_which"] p
abbrev Iy(V:V_)(p:zh):Prop:=Q_ V 121 "_law_word" ["_law_knots","_law_p"] p
abbrev Ql(V:V_)(p:zh):Prop:=Q_ V 121 "_law_flip" ["_law_word_here"] p
abbrev Iz(V:V_)(p:zh):Prop:=Q_ V 121 "_law_weight" ["_law_word_here"] p
abbrev IA(V:V_)(p:zh):Prop:=Q_ V 170 "_law_mirror" ["_law_knots","_law_word_here"] p
abbrev IB(V:V_)(p:zh):Prop:=Q_ V 1 "_law_join" ["_law_knots","_law_forest","_law_one","_law_two"] p
abbrev IC(V:V_)(p:zh):Prop:=Q_ V 1 "_law_fold" ["_law_knots","_law_tree_here","_law_one","_law_two"] p
abbrev ID(V:V_)(p:zh):Prop:=Q_ V 171 "_law_cut" ["_law_knots","_law_forest","_law_one","_law_two"] p
abbrev IE(V:V_)(p:zh):Prop:=Q_ V 172 "_law_tree" ["_law_cells","_law_seed","_law_room"] p
abbrev IF(V:V_)(p:zh):Prop:=Q_ V 121 "_law_gather" ["_law_rule","_law_links","_law_cuts"] p
abbrev IG(V:V_)(p:zh):Prop:=Q_ V 122 "_law_web" ["_law_tree_here"] p
abbrev IH(V:V_)(p:zh):Prop:=Q_ V 1 "_law_open" ["_law_web_here"] p
abbrev II(V:V_)(p:zh):Prop:=Q_ V 2 "_law_order" ["_law_knots","_law_seed"] p
abbrev IJ(V:V_)(p:zh):Prop:=Q_ V 121 "_law_moved" ["_law_rule","_law_at"] p
abbrev IK(V:V_)(p:zh):Prop:=Q_ V 122 "_law_gapped" ["_law_tree_here","_law_stir_here"] p
abbrev IL(V:V_)(p:zh):Prop:=Q_ V 1 "_law_swapped" ["_law_web_here","_law_number_here"] p
abbrev IM(V:V_)(p:zh):Prop:=Q_ V 1 "_law_looped" ["_law_web_here","_law_number_here"] p
abbrev Qm(V:V_)(p:zh):Prop:=Q_ V 2 "_law_crossed" ["_law_web_here","_law_stir_here"] p
abbrev IP(V:V_)(p:zh):Prop:=Q_ V 1 "_law_number" ["_law_x"] p
abbrev Qn(V:V_)(p:zh):Prop:=Q_ V 6 "_law_alike" ["_law_found","_law_due"] p
abbrev Qo(V:V_)(p:zh):Prop:=Q_ V 1 "_law_copy" ["_law_web_here"] p
abbrev IQ(V:V_)(p:zh):Prop:=Q_ V 173 "_law_sown" ["_law_script","_law_stir_here","_law_wide"] p
abbrev IR(V:V_)(p:zh):Prop:=Q_ V 171 "_law_deep" ["_law_tree_here","_law_number_here"] p
abbrev Qp(V:V_)(p:zh):Prop:=Q_ V 174 "_law_grown" ["_law_script","_law_stir_here","_law_wide"] p
abbrev Qq(V:V_)(p:zh):Prop:=Q_ V 4 "_law_run" ["_law_web_here","_law_factor","_law_most"] p
abbrev RD(x:Str)(st:Stmt)(k:Nat)(N:List Str)(h:V_->Prop):=PSigma λt:vh=>∀V:V_,B0_ V->h V->∀f:Addr,∀(eK:Value) (A:Around) (outer:List Env) (s:Shared) (H:Hp) (E:XK),kz k (A.deeper<|PyProof.Rows.envOfC x (ql st) s.heap.objs.size f eK)->N.Nodup->(A.deeper<|PyProof.Rows.envOfC x (ql st) s.heap.objs.size f eK).units+128<cLine->nO (br CX0 V.P V.w V.K V.mg V.base N x (ql st) f eK A outer s H E).nox (jc st) t
abbrev RR(x:Str)(st:Stmt)(k:Nat)(ps N:List Str)(p:zh)(h:V_->Prop):=PSigma λt:vh=>∀V:V_,B0_ V->h V->∀(n:Nat) (f:Addr),Q_ V (n+k) x ps p->∀(eK:Value) (A:Around) (outer:List Env) (s:Shared) (H:Hp) (E:XK),kz (n+k) (A.deeper<|PyProof.Rows.envOfC x (ql st) s.heap.objs.size f eK)->N.Nodup->(A.deeper<|PyProof.Rows.envOfC x (ql st) s.heap.objs.size f eK).units+128<cLine->nO (br CX0 V.P V.w V.K V.mg V.base N x (ql st) f eK A outer s H E).nox (jc st) t
theorem uL{p:Pos}(i:Nat)(hi:X.N.length=i:=by rfl)(hN:(X.N++[x]).Nodup:=by exact Fg)(J:∀C fp s₀ H₀,Loc (X.comp scope [x] C fp s₀ H₀).env.scope x:=by exactλ_ _ _ _=>Or.inl rfl)(I:∀C fp s₀ H₀,(X.comp scope [x] C fp s₀ H₀).env.scope.names.lookup x=some .local:=by exactλ_ _ _ _=>rfl):Fv X scope [x] (.Name x p) (qp i):=hi▸fC hN J I
noncomputable def eI:RD "_law_cell_at" az 0 ["_law_script","_law_k"] (λ_=>True):=⟨_,λV B c _ _ _ _ _ _ _ I hN J=>(qa (zu (jq rm (qv 1) (L_ B.ba<|qv 0)<|km _) (qd<|qz<|I_ (qv 0)<|qv 1) z9)<|qd<|qz qc)⟩
noncomputable def lM:vh:=(eI).1
noncomputable def lI:RD "_law_mix" gC 0 ["_law_cell","_law_k","_law_factor"] (λ_=>True):=⟨_,λV B c _ _ _ _ _ _ _ I hN J=>(qd<|qz<|qj vg (qj jj (qj fh (qj jh (qj jh (qj fh (qj jj (qv 0) qc) qc)<|qj fh (qv 1)<|qv 1) qc)<|qv 2) qc) qc)⟩
noncomputable def uj:vh:=(lI).1
noncomputable def fc(J:zh):RR "_law_weight" cH 1 ["_law_word_here"] ["_law_word_here"] J (λ_=>True):=⟨_,λV B c _ _ I _ _ _ _ _ _ U hN g=>(qa (zu (E_ g (L_ B.ba<|qv 0) qc) (qd<|qz qc) z9)<|qd<|qz<|qj jh (qj jh qc<|C_ I U<|xh<|J_ 0)<|C_ I U<|xh<|J_ 0)⟩
noncomputable def nQ(I:zh):vh:=(fc I).1
noncomputable def jJ(J:zh):RR "_law_word" dw 1 ["_law_knots","_law_p"] ["_law_knots","_law_p","_law_knot"] J (λ_=>True):=⟨_,λV B c _ _ I _ _ _ _ _ _ U hN g=>(qa (S_ 2 hN<|I_ (qv 0)<|qv 1)<|qa (zu (E_ g (L_ B.ba<|qv 2) qc) (qd<|qz<|qv 2) z9)<|qd<|qz<|zf<|bO (J_ 2) (C_ I U<|xm (qv 0)<|J_ 2)<|C_ I U<|xm (qv 0)<|J_ 2)⟩
noncomputable def sg(I:zh):vh:=(jJ I).1
noncomputable def oW(J U:zh):RR "word_at" ig 2 ["knots","place"] ["knots","place","knot"] U (λV=>Gr V J):=⟨_,λV B c _ _ I _ _ _ _ _ _ g hN j=>(qa (S_ 2 hN<|I_ (qv 0)<|qv 1)<|qa (zu (vm<|C_ c g<|xh<|qv 2) (qd<|qz<|qv 2) z9)<|qd<|qz<|zf<|bO (J_ 2) (C_ I g<|xm (qv 0)<|J_ 2)<|C_ I g<|xm (qv 0)<|J_ 2)⟩
noncomputable def Qr(I J:zh):vh:=(oW I J).1
def gJ:zh:=λys L Q=>∃I:List Int,∃k:Int,ys=[.sq<|I.map Y.int,.int k]/\0<=k/\∀v,Q (.int v) L
theorem vS:∀ys L Q,gJ ys L Q->v9 lM 2 ys L Q:=by rintro ys L Q ⟨I,k,rfl,h0,q⟩;refine zp (λc=>?_) λc=>x8<|q 0;have J:k<((I.map Y.int).length:Int):=c;rw[Ag] at J;obtain⟨j,rfl⟩:∃j:Nat,k=(j:Int):=⟨k.toNat,by lia⟩;have e:fQ (I.map Y.int) (j:Int)=some (Y.int<|I[j]'(by omega)):=kw<|Al _;walk_at "w";rw[e];exact x8<|q _
def iM:zh:=λys L Q=>∃c k f:Int,ys=[.int c,.int k,.int f]/\0<=k/\k<1000000/\0<f/\f<1000000/\∀v,0<=v->v<134217728->Q (.int v) L
theorem Qs:∀ys L Q,iM ys L Q->v9 uj 3 ys L Q:=by
 rintro ys L Q ⟨c,k,f,rfl,h0,h1,h2,h3,q⟩;refine⟨(by decide:(0:Int)<1000003),.inr ⟨by decide,by decide⟩,.inl ⟨by lia,by lia⟩,.inr ⟨by lia,by lia⟩,(by decide:(0:Int)<2147483647),⟨by decide,by decide⟩,x8<|q _ ?_ ?_⟩
 all_goals
  generalize ((c % 1000003*7+k*k+1)*f)=z;lia
theorem Qt(cs:List Nat):(Txt.join ""<|cs.map λc=>(⟨#[c]⟩:Str)).cps.toList=cs:=by
 rw[qL]
 induction cs with|nil=>rfl|cons c r I=>rw[AG,Bm,I];rfl
def aH(n:Nat):zh:=λys L Q=>∃wd,ys=[bL wd]/\wd.depth<=n/\Q (.int wd.size) L
theorem mn:∀ys L Q,¬aH 0 ys L Q:=λys L Q ψ=>by obtain⟨I,_,hd,_⟩:=ψ;cases I<;>simp[Wd.depth] at hd
theorem ym(n:Nat):∀ys L Q,aH (n+1) ys L Q->v9 (nQ<|aH n) 1 ys L Q:=by
 rintro ys L Q ⟨I,rfl,hd,q⟩;cases I with
 |leaf t n=>exact x8 q
 |node e l r=>
  have J:max l.depth r.depth+1<=n+1:=hd;refine⟨l,rfl,by lia,r,rfl,by lia,x8 ?_⟩;have e:(1+(l.size:Int)+(r.size:Int))=(((Wd.node e l r).size:Nat):Int):=by show _=((1+l.size+r.size:Nat):Int);rfl
  rw[e];exact q
def KW(ks:List Y):Nat->Wd->Prop
 |p,.leaf t n=>ks[p]?=some (.tup [.str<|kL t,.str n])
 |p,.node e l r=>∃i j:Nat,ks[p]?=some (.tup [.str<|kN e,.int i,.int j])/\KW ks i l/\KW ks j r
theorem KW.more{ks:List Y}(ms:List Y):∀{wd:Wd} {p:Nat},KW ks p wd->KW (ks++ms) p wd
 |.leaf _ _,p,h=>by have I:ks[p]?=some _:=h;show(ks++ms)[p]?=some _;rw[AF (AN.mp I).1];exact I
 |.node _ _ _,p,ψ=>(by obtain⟨i,j,h,a,b⟩:=ψ;exact ⟨i,j,by rw[AF (AN.mp h).1];exact h,KW.more ms a,KW.more ms b⟩)
def xg(n:Nat):zh:=λys L Q=>∃k ks p wd,ys=[.ref k,.int ((p:Nat):Int)]/\L k=some (.lst ks)/\KW ks p wd/\wd.depth<=n/\Q (bL wd) L
theorem kZ:∀ys L Q,¬xg 0 ys L Q:=λys L Q ψ=>by obtain⟨k,J,p,I,_,_,_,hd,_⟩:=ψ;cases I<;>simp[Wd.depth] at hd
theorem qJ:∀ys L Q,¬xg 0 ys L Q:=kZ
theorem uZ(n:Nat):∀ys L Q,xg (n+1) ys L Q->v9 (Qr wm<|xg n) 3 ys L Q:=by
 rintro ys L Q ⟨k,J,p,U,rfl,I,h,hd,q⟩;cases U with
 |leaf t nm=>exact qb I<|qm (jt h) ⟨true,t,_,rfl,x8 q⟩
 |node e l r=>
  obtain⟨i,j,h,g,o⟩:=h;have C:max l.depth r.depth+1<=n+1:=hd;exact qb I<|qm (jt h) ⟨false,e,_,rfl,k,J,i,l,rfl,I,g,by lia,k,J,j,r,rfl,I,o,by lia,x8 q⟩
theorem t8(n:Nat):∀ys L Q,xg (n+1) ys L Q->v9 (sg<|xg n) 3 ys L Q:=by
 rintro ys L Q ⟨k,J,p,U,rfl,I,h,hd,q⟩;cases U with
 |leaf t nm=>exact qb I<|qm (jt h)<|x8 q
 |node e l r=>
  obtain⟨i,j,h,g,o⟩:=h;have C:max l.depth r.depth+1<=n+1:=hd;exact qb I<|qm (jt h) ⟨k,J,i,l,rfl,I,g,by lia,k,J,j,r,rfl,I,o,by lia,x8 q⟩
def p_(l:List Nat):Str:=⟨l.toArray⟩
theorem xE(x:Str):p_ x.cps.toList=x:=by cases x;rfl
noncomputable def wZ(J:zh):RR "_law_flip" eE 1 ["_law_word_here"] ["_law_word_here","_law_sides"] J (λ_=>True):=⟨_,λV B c _ _ I _ _ _ _ _ _ U hN g=>(qa (S_ 1 hN<|O' [ ("plain" ,"turned") ,("turned" ,"plain") ,("both" ,"either") ,("either" ,"both") ] (hG cg cg<|hG cg cg<|hG cg cg<|hG cg cg Ni) rfl rfl (List.cons_ne_nil _ _)<|CH rfl)<|qa (zu (E_ g (L_ B.ba<|qv 0) qc) (qd<|qz<|zf<|xm (I_ (qv 1)<|J_ 0)<|J_ 0) z9)<|qd<|qz<|zf<|bO (I_ (qv 1)<|J_ 0) (C_ I U<|xh<|J_ 0)<|C_ I U<|xh<|J_ 0)⟩
noncomputable def Qu(I:zh):vh:=(wZ I).1
def Qv(I:zh)(p1:zh):vh:=(zn (aG (o_ (qR 1)<|bJ 2) (zn (wo<|kM x9 (qf 0)<|qk (jk I<|aX<|qf 1) je)
 (zn (wo<|kM x9 (qf 0)<|aX<|qf 1)
 (we<|gK<|qk (aC<|qk (f' "link")<|qk (xx vU (qR 0)<|bJ 2)<|qk (xx vU (qR 0)<|bJ 1) je)<|qk (xx vU (qR 0)<|bJ 2)<|qk (xx vU (qR 0)<|bJ 1) je))) vz)
 (zn (x5 (jk p1<|bN (qf 0)<|wx 1 1)<|qp 2)
 (zn (x5 (jk p1<|bN (qf 0)<|wx 1 2)<|qp 3)
 (zn (wo<|kM x9 (qf 0)<|qk (aC<|qk (xx fY (jk I<|aX<|qf 1)<|bJ 0)<|bN (wx 2 1)<|wx 3 1) je)
 (zn (wo<|kM x9 (qf 0)<|qk (aC<|qk (wx 1 0)<|bN (wx 2 2)<|wx 3 2) je)
 (zn (Fq 4 5<|qk (xx vU (qR 0)<|bJ 2)<|qk (xx vU (qR 0)<|bJ 1) je)
 (zn (x5 (E6 (o_ (wx 1 0)<|f' "either") (qf 4)<|qf 5)<|qp 6)
 (zn (x5 (E6 (o_ (wx 1 0)<|f' "either") (qf 5)<|qf 4)<|qp 7)
 (we<|gK<|qk (aC<|qk (f' "either")<|qk (qf 7)<|qk (aC<|qk (f' "both")<|qk (qf 6)<|bN (wx 2 0)<|wx 3 0) je)<|bN (qf 4)<|qf 5)))))))))
set_option genInjectivity true in
inductive Kn where
 |lf (t:Bool) (n:Str)|nd (e:Bool) (i j:Nat)
def qX:Kn->Y
 |.lf t n=>.tup [.str<|kL t,.str n]
 |.nd e i j=>.tup [.str<|kN e,.int ((i:Nat):Int),.int ((j:Nat):Int)]
inductive Ru where
 |link (p q:Nat)|ei (r:Nat) (A:Ru)|bo (r:Nat) (A B:Ru)|cu (p q:Nat) (A B:Ru)
def zj:Ru->Y
 |.link p q=>.tup [.str "link",.int ((p:Nat):Int),.int ((q:Nat):Int)]
 |.ei r A=>.tup [.str "either",.int ((r:Nat):Int),zj A]
 |.bo r A B=>.tup [.str "both",.int ((r:Nat):Int),zj A,zj B]
 |.cu p q A B=>.tup [.str "cut",.int ((p:Nat):Int),.int ((q:Nat):Int),zj A,zj B]
def z0:Ru->List Nat
 |.link p q=>[p,q]
 |.ei r A=>r::z0 A
 |.bo r A B=>r::(z0 A++z0 B)
 |.cu _ _ A B=>z0 A++z0 B
abbrev jv(ks:List Kn):List Y:=ks.map qX
def cM(ks:List Kn)(p:Nat)(w:Wd):Prop:=KW (jv ks) p w
theorem cM.more{ks:List Kn}{w:Wd}(h:cM ks p w)(ms:List Kn):cM (ks++ms) p w:=by unfold cM jv;rw[AI];exact KW.more _ h
def da(ks:List Kn):Prop:=∀(p:Nat) (k:Kn),ks[p]?=some k->match k with
 |.lf _ n=>fE n
 |.nd _ i j=>i<p/\j<p
theorem da.snoc{ks:List Kn}{k:Kn}(h:da ks)(I:match k with|.lf _ n=>fE n|.nd _ i j=>i<ks.length/\j<ks.length):da (ks++[k]):=by
 intro p J e;by_cases c:p<ks.length
 ·rw[AF c] at e;exact h p J e
 ·rw[Av (by exact yq)] at e;have c2:p=ks.length:=by
   by_cases c3:p-ks.length=0
   ·omega
   ·rw[BE (by simp;exact Et)] at e;cases e
  subst c2;rw[DI] at e;cases e;exact I
theorem fB(l:List α)(x:α)(r:List α):(l++x::r)[l.length]?=some x:=by rw[Av<|Ao _,DI];rfl
theorem iy{l r:List α}{x:α}(h:l[p]?=some x):(l++r)[p]?=some x:=by rw[AF (AN.mp h).1];exact h
inductive SR(ks:List Kn):Ru->List Nat->Prop
 |link {p q:Nat} {t:Bool} {n:Str} {E:List Nat}:p<q->ks[p]?=some (.lf t n)->ks[q]?=some (.lf (!t) n)->(∀x,x∈E↔x=p\/x=q)->E.Nodup->SR ks (.link p q) E
 |ei {r i j:Nat} {A:Ru} {EA E:List Nat}:ks[r]?=some (.nd true i j)->SR ks A EA->i∈EA->j∈EA->i≠j->(∀x,x∈E↔(x∈EA/\x≠i/\x≠j)\/x=r)->E.Nodup->SR ks (.ei r A) E
 |bo {r i j:Nat} {A B:Ru} {EA EB E:List Nat}:ks[r]?=some (.nd false i j)->SR ks A EA->SR ks B EB->i∈EA->j∈EB->(∀x,x∈E↔(x∈EA/\x≠i)\/(x∈EB/\x≠j)\/x=r)->E.Nodup->SR ks (.bo r A B) E
 |cu {p q:Nat} {A B:Ru} {EA EB E:List Nat} {w:Wd}:SR ks A EA->SR ks B EB->p∈EA->q∈EB->cM ks p w->cM ks q w.turn->(∀x,x∈E↔(x∈EA/\x≠p)\/(x∈EB/\x≠q))->E.Nodup->SR ks (.cu p q A B) E
theorem SR.more{ks:List Kn}{R:Ru}{E:List Nat}(h:SR ks R E)(ms:List Kn):SR (ks++ms) R E:=by induction h with|link h1 h2 h3 I J=>exact .link h1 (iy h2) (iy h3) I J|ei h1 _ h3 I J j l o=>exact .ei (iy h1) o h3 I J j l|bo h1 _ _ I J j l U g=>exact .bo (iy h1) U g I J j l|cu _ _ h3 I J j l p U g=>exact .cu U g h3 I (J.more ms) (j.more ms) l p
theorem SR.sub{ks:List Kn}{R:Ru}{E:List Nat}(h:SR ks R E):∀x∈E,x∈z0 R:=by
 induction h with
 |link _ _ _ j _=>intro x I;rcases (j x).mp I with rfl|rfl<;>simp[z0]
 |ei _ _ _ _ _ g _ l=>intro x I;rcases (g x).mp I with⟨h,_⟩|rfl;exact Ac _<|l x h;exact Ak ..
 |bo _ _ _ _ _ g _ J U=>
  intro x I;rcases (g x).mp I with⟨h,_⟩|⟨h,_⟩|rfl
  ·exact Ac _<|Ap _<|J x h
  ·exact Ac _<|Ai _<|U x h
  ·exact Ak ..
 |cu _ _ _ _ _ _ o _ J U=>
  intro x I;rcases (o x).mp I with⟨h,_⟩|⟨h,_⟩
  ·exact Ap _<|J x h
  ·exact Ai _<|U x h
def aV(n:Nat):zh:=λys L Q=>∃wd,ys=[bL wd]/\wd.depth<=n/\Q (bL wd.turn) L
theorem Qw:∀ys L Q,¬aV 0 ys L Q:=λys L Q ψ=>by obtain⟨I,_,hd,_⟩:=ψ;cases I<;>simp[Wd.depth] at hd
theorem uk(t:Bool):kn ([(("plain" : Str),("turned" : Str)),("turned","plain"),("both","either"),("either","both")].map λp=>((Sum.inr p.1:jf),Y.str p.2)) (Sum.inr<|kL t)=some (.str<|kL<|!t):=jW<|Qb t
theorem ue(t:Bool):kn ([(("plain" : Str),("turned" : Str)),("turned","plain"),("both","either"),("either","both")].map λp=>((Sum.inr p.1:jf),Y.str p.2)) (Sum.inr<|kN t)=some (.str<|kN<|!t):=jW<|zG t
theorem Qx(n:Nat):∀ys L Q,aV (n+1) ys L Q->v9 (Qu<|aV n) 2 ys L Q:=by
 rintro ys L Q ⟨J,rfl,hd,q⟩;intro p I;cases J with
 |leaf t nm=>
  refine vk q9<|qm (uk t) ?_;exact m8 (By I) q
 |node e l r=>
  have U:max l.depth r.depth+1<=n+1:=hd;refine vk q9<|qm (ue e) ?_;refine⟨l,rfl,by lia,r,rfl,by lia,?_⟩;exact m8 (By I) q
structure x_(ks:List Kn)(w:Wd)(ms:List Kn)(R:Ru)(tp sp:Nat):Prop where
 len:ms.length=2*w.size
 sr:SR (ks++ms) R [tp,sp]
 wt:cM (ks++ms) tp w.turn
 ws:cM (ks++ms) sp w
 tm:∀x,x∈z0 R↔ks.length<=x/\x<ks.length+ms.length
 nd:(z0 R).Nodup
 ok:da (ks++ms)
theorem cM.leaf{ks:List Kn}{n:Str}(h:ks[p]?=some (.lf t n)):cM ks p (.leaf t n):=by show(jv ks)[p]?=_;rw[Aq,h];rfl
theorem cM.node{ks:List Kn}{e:Bool}{l r:Wd}(h:ks[p]?=some (.nd e i j))(I:cM ks i l)(J:cM ks j r):cM ks p (.node e l r):=by refine⟨i,j,?_,I,J⟩;rw[Aq,h];rfl
abbrev ES:=@cM.node
theorem sO{ks:List Kn}(g:da ks){n:Str}(I:fE n):x_ ks (.leaf t n) [.lf (!t) n,.lf t n] (.link ks.length<|ks.length+1) ks.length (ks.length+1):=by
 have J:(ks++[Kn.lf (!t) n,.lf t n])[ks.length]?=some (.lf (!t) n):=fB _ _ _;have U:(ks++[Kn.lf (!t) n,.lf t n])[ks.length+1]?=some (.lf t n):=by have:=fB (ks++[Kn.lf (!t) n]) (Kn.lf t n) [];rw[Ad,Ay] at this;exact this
 refine⟨rfl,.link (t:=!t) (n:=n) (by exact B1 _) J (by rw[Dp];exact U) (by simp) (by simp),cM.leaf J,cM.leaf U,λx=>?_,by simp[z0],?_⟩
 ·show x∈[ks.length,ks.length+1]↔ks.length<=x/\x<ks.length+2;simp;lia
 ·have:=(g.snoc (k:=.lf (!t) n) I).snoc (k:=.lf t n) I;rw[Ay] at this;exact this
theorem SR.nod{ks:List Kn}{R:Ru}{E:List Nat}(h:SR ks R E):E.Nodup:=by cases h<;>assumption
theorem Qy{x h lo a r N:Nat}(I:(h=N/\lo=N+1)\/(h=N+1/\lo=N))(hN:N=a+m+r):x=h\/x=lo\/(a<=x/\x<a+m)\/a+m<=x/\x<a+m+r↔a<=x/\x<N+2:=by subst hN;rcases I with⟨rfl,rfl⟩|⟨rfl,rfl⟩<;>lia
theorem Qz{x a b c d N:Nat}(h:a≠b)(k:c≠d):x∈[b,d,N]↔(x∈[a,b]/\x≠a)\/(x∈[c,d]/\x≠c)\/x=N:=by simp only[Am,Bv,or_false];lia
theorem QC{x a b c d N:Nat}(h:a≠b)(k:c≠d):x∈[a,c,N]↔(x∈[a,b]/\x≠b)\/(x∈[c,d]/\x≠d)\/x=N:=by simp only[Am,Bv,or_false];lia
theorem QD{x a b N M:Nat}(h:a<N)(k:b<N):x∈[N,M]↔(x∈[a,b,N]/\x≠a/\x≠b)\/x=M:=by simp only[Am,Bv,or_false];lia
theorem QH{x a b N M:Nat}(h:a<N)(k:b<N):x∈[M,N]↔(x∈[a,b,N]/\x≠a/\x≠b)\/x=M:=by simp only[Am,Bv,or_false];lia
theorem IS{a b N:Nat}(h:a<N)(k:b<N)(d:a≠b):[a,b,N].Nodup:=by rw[Aw,Aw];simp;lia
theorem QJ{a r N t s u v:Nat}(I:a<=t/\t<a+m)(a2:a<=s/\s<a+m)(b1:a+m<=u/\u<a+m+r)(b2:a+m<=v/\v<a+m+r)(hN:N=a+m+r):t<N/\s<N/\u<N/\v<N/\t≠u/\s≠v:=by lia
theorem IT{h lo a r N:Nat}(I:(h=N/\lo=N+1)\/(h=N+1/\lo=N))(hN:N=a+m+r):¬(h=lo\/(a<=h/\h<a+m)\/a+m<=h/\h<a+m+r)/\¬((a<=lo/\lo<a+m)\/a+m<=lo/\lo<a+m+r):=by lia
theorem QK{x y a r:Nat}(h1:a<=x/\x<a+m)(h2:a+m<=y/\y<a+m+r)(e:x=y):False:=by lia
theorem QL{ks I g:List Kn}{e:Bool}{l r:Wd}{A B:Ru}{tl J tr U:Nat}(p:x_ ks l I A tl J)(o:x_ (ks++I) r g B tr U){N:Nat}(hN:N=ks.length+(I++g).length):
 x_ ks (.node e l r) (I++g++[.nd (!e) tl tr,.nd e J U]) (.ei (if e=true then N+1 else N)<|.bo (if e=true then N else N+1) A B) N (N+1):=by
 have hA:∀x∈[tl,J],ks.length<=x/\x<ks.length+I.length:=λx T=>(p.tm x).mp<|p.sr.sub x T;have hB:∀x∈[tr,U],ks.length+I.length<=x/\x<ks.length+I.length+g.length:=λx T=>by have:=(o.tm x).mp<|o.sr.sub x T;rw[Ad] at this;exact this
 have a1:=hA tl (by simp);have a2:=hA J (by simp);have b1:=hB tr (by simp);have b2:=hB U (by simp);have nA:tl≠J:=by have:=p.sr.nod;simpa using this
 have nB:tr≠U:=by have:=o.sr.nod;simpa using this
 have t:N=ks.length+I.length+g.length:=by rw[hN,Ad];simp +arith only
 obtain⟨d1,d2,d3,d4,d5,d6⟩:=QJ a1 a2 b1 b2 t;generalize j:ks++(I++g++[Kn.nd (!e) tl tr,.nd e J U])=K;have k1:K=(ks++I)++(g++[Kn.nd (!e) tl tr,.nd e J U]):=by rw[<-j];simp
 have k2:K=((ks++I)++g)++[Kn.nd (!e) tl tr,.nd e J U]:=by rw[<-j];simp
 have k3:K=(((ks++I)++g)++[Kn.nd (!e) tl tr])++[.nd e J U]:=by rw[<-j];simp
 have l2:((ks++I)++g).length=N:=by rw[Ad,Ad];lia
 have g1:K[N]?=some (.nd (!e) tl tr):=by rw[k2,<-l2];exact fB _ _ _
 have g2:K[N+1]?=some (.nd e J U):=by
  have l3:(((ks++I)++g)++[Kn.nd (!e) tl tr]).length=N+1:=by rw[Ad,l2];rfl
  rw[k3,<-l3];exact fB _ _ _
 have sA:SR K A [tl,J]:=by rw[k1];exact p.sr.more _
 have sB:SR K B [tr,U]:=by rw[k2];exact o.sr.more _
 have a3:da K:=by have o1:=o.ok.snoc (k:=.nd (!e) tl tr) (by show tl<((ks++I)++g).length/\tr<((ks++I)++g).length;rw[l2];exact⟨d1,d3⟩);have o2:=o1.snoc (k:=.nd e J U) (by show J<_/\U<_;rw[Ad,l2];exact⟨B6 d2,B6 d4⟩);rw[k3];exact o2
 have tA:=p.tm;have tB:=o.tm;rw[Ad] at tB;have wt:cM K N (Wd.node e l r).turn:=ES g1 (by rw[k1];exact p.wt.more _) (by rw[k2];exact o.wt.more _);have a4:cM K (N+1) (Wd.node e l r):=ES g2 (by rw[k1];exact p.ws.more _) (by rw[k2];exact o.ws.more _);have C:(I++g++[Kn.nd (!e) tl tr,.nd e J U]).length=2*(Wd.node e l r).size:=by have h1:=p.len;have h2:=o.len;show _=2*(1+l.size+r.size);rw[Ad,Ad];simp;lia
 have lt:ks.length+(I++g++[Kn.nd (!e) tl tr,.nd e J U]).length=N+2:=by rw[Ad];simp[hN];rfl
 have tt:∀h lo:Nat,(h=N/\lo=N+1)\/(h=N+1/\lo=N)->(∀x,x∈z0 (.ei h<|.bo lo A B)↔ks.length<=x/\x<ks.length+(I++g++[Kn.nd (!e) tl tr,.nd e J U]).length)/\(z0<|.ei h<|.bo lo A B).Nodup:=by
  intro h lo hh;constructor
  ·intro x;rw[lt];show x∈h::lo::(z0 A++z0 B)↔_;rw[Am,Am,Aj,tA,tB];exact Qy hh t
  ·show(h::lo::(z0 A++z0 B)).Nodup;rw[Aw,Aw,Ar];refine⟨?_,?_,p.nd,o.nd,λx T y hy e=>?_⟩
   ·rw[Am,Aj,tA,tB];exact(IT hh t).1
   ·rw[Aj,tA,tB];exact(IT hh t).2
   ·exact QK ((tA x).mp T) ((tB y).mp hy) e
 cases e with
 |true=>
  have s1:SR K (.bo N A B) [J,U,N]:=by exact .bo g1 sA sB (by simp) (by simp) (λx=>Qz nA nB)<|IS d2 d4 d6
  have s2:SR K (.ei (N+1)<|.bo N A B) [N,N+1]:=by exact .ei g2 s1 (by simp) (by simp) d6 (λx=>QD d2 d4) (by simp)
  obtain⟨t1,t2⟩:=tt (N+1) N<|.inr ⟨rfl,rfl⟩;exact⟨C,by rw[j];exact s2,by rw[j];exact wt,by rw[j];exact a4,t1,t2,by rw[j];exact a3⟩
 |false=>
  have s1:SR K (.bo (N+1) A B) [tl,tr,N+1]:=by exact .bo g2 sA sB (by simp) (by simp) (λx=>QC nA nB)<|IS (B6 d1) (B6 d3) d5
  have s2:SR K (.ei N<|.bo (N+1) A B) [N,N+1]:=by exact .ei g1 s1 (by simp) (by simp) d5 (λx=>QH (B6 d1)<|B6 d3) (by simp)
  obtain⟨t1,t2⟩:=tt N (N+1)<|.inl ⟨rfl,rfl⟩;exact⟨C,by rw[j];exact s2,by rw[j];exact wt,by rw[j];exact a4,t1,t2,by rw[j];exact a3⟩
def w4(n:Nat):zh:=λys L Q=>∃a,∃ks:List Kn,∃w:Wd,ys=[.ref a,bL w]/\L a=some (.lst<|jv ks)/\w.depth<=n/\n<=120/\w.ok/\da ks/\ks.length+2*w.size<=10000/\
 ∀ms R tp sp p,L p=none->x_ ks w ms R tp sp->Q (.ref p) (qi (qi L a<|.lst<|jv<|ks++ms) p<|.lst [zj R,.int ((tp:Nat):Int),.int ((sp:Nat):Int)])
theorem zI:∀ys L Q,¬w4 0 ys L Q:=λys L Q ψ=>by obtain⟨a,J,I,_,_,hd,_⟩:=ψ;cases I<;>simp[Wd.depth] at hd
theorem a_:∀m:Nat,m<=20000->m<sizeLine:=λm h=>CA h (by decide)
theorem QM{FS:zh}(hF:∀ys L Q,aV 120 ys L Q->FS ys L Q)(n:Nat):∀ys L Q,w4 (n+1) ys L Q->v9 (Qv FS<|w4 n) 8 ys L Q:=by
 rintro ys L Q ⟨a,I,w,rfl,ha,hd,hn,a3,hk,hb,q⟩;have big:=a_;cases w with
 |leaf t nm=>
  have hb:I.length+2*1<=10000:=hb;refine qb ha (hF _ _ _ ⟨.leaf t nm,rfl,by exact B3 _,qw ha ⟨big _ (by rw[Ag];lia),?_⟩⟩);refine qb q9 (qw q9 ⟨big _ (by rw[Ad,Ag];simp;lia),?_⟩);rw[x4];have e1:(jv I++[bL (Wd.leaf t nm).turn])++[bL<|.leaf t nm]=jv (I++[.lf (!t) nm,.lf t nm]):=by unfold jv;rw[AI,Ay];rfl
  have e2:(jv<|I++[Kn.lf (!t) nm,.lf t nm]).length=I.length+2:=by rw[Ag,Ad];rfl
  have i1:((((jv<|I++[Kn.lf (!t) nm,.lf t nm]).length:Nat):Int)-2)=((I.length:Nat):Int):=by rw[e2];lia
  have i2:((((jv<|I++[Kn.lf (!t) nm,.lf t nm]).length:Nat):Int)-1)=((I.length+1:Nat):Int):=by rw[e2];lia
  have aL:(jv I++[bL (Wd.leaf t nm).turn])++[.tup [.str<|kL t,.str nm]]=jv (I++[.lf (!t) nm,.lf t nm]):=e1
  first|rw[e1]|rw[aL]
  refine qb q9<|qb q9<|qb q9<|qb q9 λp T=>?_;have np:L p=none:=by
   have:p≠a:=λe=>by rw[e,q9] at T;cases T
   rw[qg this] at T;exact T
  have:=q _ _ _ _ p np<|sO hk a3;have key:[zj<|.link I.length<|I.length+1,Y.int ((I.length:Nat):Int),Y.int ((I.length+1:Nat):Int)]=[.tup [.str "link",.int<|(((jv<|I++[Kn.lf (!t) nm,.lf t nm]).length:Nat):Int)-2,.int<|(((jv<|I++[Kn.lf (!t) nm,.lf t nm]).length:Nat):Int)-1],.int<|(((jv<|I++[Kn.lf (!t) nm,.lf t nm]).length:Nat):Int)-2,.int<|(((jv<|I++[Kn.lf (!t) nm,.lf t nm]).length:Nat):Int)-1]:=by rw[i1,i2];rfl
  rw[key] at this;exact x8 this
 |node e l r=>
  have ba:max l.depth r.depth+1<=n+1:=hd;have hb:I.length+2*(1+l.size+r.size)<=10000:=hb;refine⟨a,I,l,rfl,ha,by lia,by exact ix,a3.1,hk,by lia,λJ A g j p1 au ML=>?_⟩;have a1:a≠p1:=bx ha au;have bb:=ML.len;refine⟨a,I++J,r,rfl,by rw[qg a1,q9],by lia,by exact ix,a3.2,ML.ok,by rw[Ad];lia,λU B tr C p2 a4 MR=>?_⟩;have bc:=MR.len;have aR:p1≠p2:=bx q9 a4;have av:a≠p2:=bx (by rw[qg a1];exact q9) a4;have a5:qi (qi (qi (qi L a<|.lst<|jv<|I++J) p1<|.lst [zj A,.int ((g:Nat):Int),.int ((j:Nat):Int)]) a<|.lst<|jv<|(I++J)++U) p2 (.lst [zj B,.int ((tr:Nat):Int),.int ((C:Nat):Int)]) a=some (.lst<|jv<|(I++J)++U):=by rw[qg av];exact q9
  have h1:qi (qi (qi (qi L a<|.lst<|jv<|I++J) p1<|.lst [zj A,.int ((g:Nat):Int),.int ((j:Nat):Int)]) a<|.lst<|jv<|(I++J)++U) p2 (.lst [zj B,.int ((tr:Nat):Int),.int ((C:Nat):Int)]) p1=some (.lst [zj A,.int ((g:Nat):Int),.int ((j:Nat):Int)]):=by rw[qg aR,qg<|AL a1];exact q9
  have h2:qi (qi (qi (qi L a<|.lst<|jv<|I++J) p1<|.lst [zj A,.int ((g:Nat):Int),.int ((j:Nat):Int)]) a<|.lst<|jv<|(I++J)++U) p2 (.lst [zj B,.int ((tr:Nat):Int),.int ((C:Nat):Int)]) p2=some (.lst [zj B,.int ((tr:Nat):Int),.int ((C:Nat):Int)]):=q9;have old:∀b o,b≠a->L b=some o->qi (qi (qi (qi L a<|.lst<|jv<|I++J) p1<|.lst [zj A,.int ((g:Nat):Int),.int ((j:Nat):Int)]) a<|.lst<|jv<|(I++J)++U) p2 (.lst [zj B,.int ((tr:Nat):Int),.int ((C:Nat):Int)]) b=some o:=λb o nb e=>by
   have n1:b≠p1:=bx e au;have e2:qi (qi L a<|.lst<|jv<|I++J) p1 (.lst [zj A,.int ((g:Nat):Int),.int ((j:Nat):Int)]) b=some o:=by rw[qg n1,qg nb];exact e
   have n2:b≠p2:=bx e2 a4;rw[qg n2,qg nb];exact e2
  generalize qi (qi (qi (qi L a<|.lst<|jv<|I++J) p1<|.lst [zj A,.int ((g:Nat):Int),.int ((j:Nat):Int)]) a<|.lst<|jv<|(I++J)++U) p2 (.lst [zj B,.int ((tr:Nat):Int),.int ((C:Nat):Int)])=L2 at a5 h1 h2 old;have bd:(jv<|(I++J)++U).length=I.length+J.length+U.length:=by rw[Ag,Ad,Ad]
  refine qb a5 (hF _ _ _ ⟨.node e l r,rfl,by show max l.depth r.depth+1<=120;exact Ek,qb h1<|qb h2<|qw a5 ⟨big _ (by lia),?_⟩⟩);have ac:∀o,qi L2 a o p1=some (.lst [zj A,.int ((g:Nat):Int),.int ((j:Nat):Int)]):=λo=>by rw[qg<|AL a1];exact h1
  have al:∀o,qi L2 a o p2=some (.lst [zj B,.int ((tr:Nat):Int),.int ((C:Nat):Int)]):=λo=>by rw[qg<|AL av];exact h2
  refine qb q9 (qb (ac _) (qb (al _) (qw q9 ⟨big _ (by rw[Ad];simp;lia),?_⟩)));rw[x4];obtain⟨N,hN⟩:∃N,N=I.length+(J++U).length:=⟨_,rfl⟩;have e1:(jv ((I++J)++U)++[.tup [.str<|kN<|!e,.int ((g:Nat):Int),.int ((tr:Nat):Int)]])++[.tup [.str<|kN e,.int ((j:Nat):Int),.int ((C:Nat):Int)]]=jv (I++(J++U++[.nd (!e) g tr,.nd e j C])):=by unfold jv;simp[qX]
  rw[e1];have lN:(jv<|I++(J++U++[Kn.nd (!e) g tr,.nd e j C])).length=N+2:=by rw[Ag,Ad,Ad,hN];simp;rfl
  have i1:((((jv<|I++(J++U++[Kn.nd (!e) g tr,.nd e j C])).length:Nat):Int)-2)=((N:Nat):Int):=by rw[lN];lia
  have i2:((((jv<|I++(J++U++[Kn.nd (!e) g tr,.nd e j C])).length:Nat):Int)-1)=((N+1:Nat):Int):=by rw[lN];lia
  refine qb q9<|qb q9 ?_;have M:=QL (e:=e) ML MR hN;have done:∀p,qi L2 a (.lst<|jv<|I++(J++U++[Kn.nd (!e) g tr,.nd e j C])) p=none->∀R,x_ I (.node e l r) (J++U++[Kn.nd (!e) g tr,.nd e j C]) R N (N+1)->
   ip Q (.ref p) (qi (qi L2 a<|.lst<|jv<|I++(J++U++[Kn.nd (!e) g tr,.nd e j C])) p<|.lst [zj R,.int ((N:Nat):Int),.int ((N+1:Nat):Int)]):=λp T R MM=>by
   have ax:p≠a:=λz=>by rw[z,q9] at T;cases T
   rw[qg ax] at T;have np:L p=none:=by cases z:L p with|none=>rfl|some o=>rw[old p o ax z] at T;cases T
   refine m8 ?_<|q _ _ _ _ p np MM;intro b o z;by_cases c1:b=p
   ·subst c1;rw[q9] at z ⊢;exact z
   ·rw[qg c1] at z ⊢;by_cases c2:b=a
    ·subst c2;rw[q9] at z ⊢;exact z
    ·rw[qg c2] at z ⊢;exact old b o c2 z
  cases e with
  |true=>
   have key:[zj<|.ei (if true=true then N+1 else N)<|.bo (if true=true then N else N+1) A B,Y.int ((N:Nat):Int),Y.int ((N+1:Nat):Int)]=[.tup [.str "either",.int<|(((jv<|I++(J++U++[Kn.nd (!true) g tr,.nd true j C])).length:Nat):Int)-1,.tup [.str "both",.int<|(((jv<|I++(J++U++[Kn.nd (!true) g tr,.nd true j C])).length:Nat):Int)-2,zj A,zj B]],.int<|(((jv<|I++(J++U++[Kn.nd (!true) g tr,.nd true j C])).length:Nat):Int)-2,.int<|(((jv<|I++(J++U++[Kn.nd (!true) g tr,.nd true j C])).length:Nat):Int)-1]:=by rw[i1,i2];rfl
   walk_at "w";refine qb (ac _)<|qb (al _) λp T=>?_;have:=done p T _ M;rw[key] at this;exact this
  |false=>
   have key:[zj<|.ei (if false=true then N+1 else N)<|.bo (if false=true then N else N+1) A B,Y.int ((N:Nat):Int),Y.int ((N+1:Nat):Int)]=[.tup [.str "either",.int<|(((jv<|I++(J++U++[Kn.nd (!false) g tr,.nd false j C])).length:Nat):Int)-2,.tup [.str "both",.int<|(((jv<|I++(J++U++[Kn.nd (!false) g tr,.nd false j C])).length:Nat):Int)-1,zj A,zj B]],.int<|(((jv<|I++(J++U++[Kn.nd (!false) g tr,.nd false j C])).length:Nat):Int)-2,.int<|(((jv<|I++(J++U++[Kn.nd (!false) g tr,.nd false j C])).length:Nat):Int)-1]:=by rw[i1,i2];rfl
   walk_at "w";refine qb (ac _)<|qb (al _) λp T=>?_;have:=done p T _ M;rw[key] at this;exact this
end L3
variable {R:L3.Ru}{ks ms:List L3.Kn}{fm wd:List<|Option L3.Kn}
namespace L3
open PySem L2 Words
noncomputable def IU:RD "_law_join" fA 0 ["_law_knots","_law_forest","_law_one","_law_two","_law_first","_law_second","_law_left","_law_right","_law_ends"] (λ_=>True):=⟨_,λV B c _ _ _ _ _ _ _ I hN J=>(qa (S_ 4 hN<|cV (qv 1)<|xh<|qj jj (qv 3)<|L_ B.ba<|qv 1)<|qa (S_ 5 hN<|cV (qv 1)<|xh<|qj jj (qv 2)<|L_ B.ba<|qv 1)<|qa (am (i:=6) hN rfl (Or.inr rfl)<|I_ (J_ 4)<|qj jj (qj vg (qv 3) qc)<|L_ B.ba<|J_ 4)<|qa (am (i:=7) hN rfl (Or.inr rfl)<|I_ (J_ 5)<|qj jj (qj vg (qv 2) qc)<|L_ B.ba<|J_ 5)<|qa (zm<|zg (qv 0)<|xh<|zf<|bO jx (qv 6)<|qv 7)<|qa (aQ ["_law_p"] (i:=8) hN rfl (Or.inl rfl) (ER (by rfl)) rfl (aB<|qj jh (J_ 4)<|J_ 5) (uL 9) (λ_ _ _ _=>cx<|jq (mV _ _ _) (qv 9) (zf<|xm (qv 6)<|qv 7) (by with_unfolding_all rfl)) λ_ _ _ _=>(qv 9))<|qd<|zm<|zg (qv 1)<|xh<|js<|xm (zf<|xz jx<|bO (qj cX (L_ B.ba<|qv 0) qc) (J_ 4)<|J_ 5)<|qj jh (qv 8)<|js<|xh<|qj cX (L_ B.ba<|qv 0) qc)⟩
noncomputable def QN:vh:=(IU).1
noncomputable def yF:RD "_law_fold" eY 0 ["_law_knots","_law_tree_here","_law_one","_law_two","_law_left","_law_right"] (λ_=>True):=⟨_,λV B c _ _ _ _ _ _ _ I hN J=>(qa (zu (jq rm (L_ B.ba<|J_ 1) qc<|km _) (qd yN) z9)<|qa (S_ 4 hN<|cV (J_ 1)<|xh<|qj jj (qv 3)<|L_ B.ba<|J_ 1)<|qa (S_ 5 hN<|cV (J_ 1)<|xh<|qj jj (qv 2)<|L_ B.ba<|J_ 1)<|qa (zm<|zg (qv 0)<|xh<|zf<|bO jx (qv 4)<|qv 5)<|qa (pX (qv 1) qc<|zf<|bO jx (qj cX (L_ B.ba<|qv 0) qc)<|J_ 1)<|qd<|zm<|zg (J_ 1)<|xh<|qj cX (L_ B.ba<|qv 0) qc)⟩
noncomputable def QP:vh:=(yF).1
theorem cW{ks:List Kn}:∀{w v:Wd} {p:Nat},cM ks p w->cM ks p v->w=v
 |.leaf t n,.leaf g C,p,h,k=>by
  have h:(jv ks)[p]?=some (.tup [.str<|kL t,.str n]):=h;have k:(jv ks)[p]?=some (.tup [.str<|kL g,.str C]):=k;rw[h] at k;injection k with k;injection k with k;injection k with J I;injection I with I _
  injection J with J;injection I with I
  have:t=g:=by cases t<;>cases g<;>first|rfl|(exfalso;revert J;decide +kernel)
  rw[this,I]
 |.leaf t n,.node e l r,p,h,k=>by obtain⟨i,j,k,_⟩:=k;have h:(jv ks)[p]?=some (.tup [.str<|kL t,.str n]):=h;rw[h] at k;injection k with k;injection k with k;injection k with _ k;injection k with _ k;cases k
 |.node e l r,.leaf t n,p,h,k=>by obtain⟨i,j,h,_⟩:=h;have k:(jv ks)[p]?=some (.tup [.str<|kL t,.str n]):=k;rw[h] at k;injection k with k;injection k with k;injection k with _ k;injection k with _ k;cases k
 |.node e l r,.node o l' r',p,ψ,χ=>by
  obtain⟨i,j,h,T,hr⟩:=ψ;obtain⟨i',j',k,kl,kr⟩:=χ
  rw[h] at k;injection k with k;injection k with k;injection k with J I;injection I with I U;injection U with U _
  injection J with J;injection I with I;injection U with U
  have e1:i=i':=by lia
  have e2:j=j':=by lia
  subst e1 e2;have:e=o:=by cases e<;>cases o<;>first|rfl|(exfalso;revert J;decide +kernel)
  rw[this,cW (ks:=ks) T kl,cW (ks:=ks) hr kr]
theorem gN{ks:List Kn}(I:da ks):∀(m p:Nat),p<m->p<ks.length->∃w,cM ks p w/\w.depth<=p+1/\w.ok
 |0,p,h,_=>absurd h (by lia)
 |m+1,p,h,g=>by
  obtain⟨k,J⟩:∃k,ks[p]?=some k:=⟨_,Al g⟩;have U:=I p k J;cases k with
  |lf t n=>exact⟨.leaf t n,cM.leaf J,by show 1<=p+1;exact B3 _,U⟩
  |nd e i j=>
   have U:i<p/\j<p:=U;obtain⟨l,o,T,C⟩:=gN I m i (by lia) (by omega);obtain⟨r,b1,b2,b3⟩:=gN I m j (by lia) (by lia);exact⟨.node e l r,ES J o b1,by show max l.depth r.depth+1<=p+1;lia,C,b3⟩
def TV(v:Str->Bool):Wd->Bool
 |.leaf t n=>if t=true then !v n else v n
 |.node e l r=>if e=true then TV v l||TV v r else TV v l&&TV v r
theorem kI(v:Str->Bool):∀w:Wd,TV v w.turn=!TV v w
 |.leaf t n=>by cases t<;>simp[Wd.turn,TV]
 |.node e l r=>by cases e<;>simp[Wd.turn,TV,kI v l,kI v r]
theorem SR.lt{E:List Nat}(h:SR ks R E):∀x∈z0 R,x<ks.length:=by
 have lt:∀{p:Nat} {k:Kn},ks[p]?=some k->p<ks.length:=λh=>(AN.mp h).1
 induction h with
 |link _ h2 h3 _ _=>intro x I;simp[z0] at I;rcases I with rfl|rfl;exact lt h2;exact lt h3
 |ei h1 _ _ _ _ _ _ g=>intro x I;rcases Am.mp I with rfl|I;exact lt h1;exact g x I
 |bo h1 _ _ _ _ _ _ J U=>
  intro x I;rcases Am.mp I with rfl|I
  ·exact lt h1
  ·rcases Aj.mp I with I|I
   ·exact J x I
   ·exact U x I
 |cu _ _ _ _ _ _ _ _ J U=>
  intro x I;rcases Aj.mp I with I|I
  ·exact J x I
  ·exact U x I
theorem SR.tv(hk:da ks)(v:Str->Bool){E:List Nat}(h:SR ks R E):∃x∈E,∃w,cM ks x w/\TV v w=true:=by
 have ex:∀{R':Ru} {E':List Nat},SR ks R' E'->∀x∈E',∃w,cM ks x w:=λs x I=>by obtain⟨w,hw,_⟩:=gN hk (x+1) x (by exact B1 _)<|s.lt x<|s.sub x I;exact⟨w,hw⟩
 induction h with
 |@link p q t n E _ h2 h3 h4 _=>
  cases ht:TV v (.leaf t n) with
  |true=>exact⟨p,(h4 p).mpr<|.inl rfl,_,cM.leaf h2,ht⟩
  |false=>
   refine⟨q,(h4 q).mpr<|.inr rfl,_,cM.leaf h3,?_⟩;have:=kI v<|.leaf t n;rw[ht] at this;exact this
 |@ei r i j A EA E h1 T hi hj _ J _ ih=>
  obtain⟨x,I,w,hw,tv⟩:=ih;obtain⟨wi,U⟩:=ex T i hi;obtain⟨wj,g⟩:=ex T j hj;by_cases c1:x=i
  ·subst c1;rw[cW hw U] at tv;exact⟨r,(J r).mpr<|.inr rfl,_,ES h1 U g,by simp[TV,tv]⟩
  ·by_cases c2:x=j
   ·subst c2;rw[cW hw g] at tv;exact⟨r,(J r).mpr<|.inr rfl,_,ES h1 U g,by simp[TV,tv]⟩
   ·exact⟨x,(J x).mpr<|.inl ⟨I,c1,c2⟩,w,hw,tv⟩
 |@bo r i j A B EA EB E h1 T hB hi hj J _ l o=>
  obtain⟨x,I,w,hw,tv⟩:=l;obtain⟨y,hy,u,C,tu⟩:=o;by_cases c1:x=i
  ·by_cases c2:y=j
   ·subst c1 c2;exact⟨r,(J r).mpr<|.inr<|.inr rfl,_,ES h1 hw C,by simp[TV,tv,tu]⟩
   ·exact⟨y,(J y).mpr<|.inr<|.inl ⟨hy,c2⟩,u,C,tu⟩
  ·exact⟨x,(J x).mpr<|.inl ⟨I,c1⟩,w,hw,tv⟩
 |@cu p q A B EA EB E w0 T hB hp hq a1 a3 h7 _ l o=>
  obtain⟨x,I,w,hw,tv⟩:=l;obtain⟨y,hy,u,C,tu⟩:=o;by_cases c1:x=p
  ·by_cases c2:y=q
   ·subst c1 c2;rw[cW hw a1] at tv;rw[cW C a3,kI,tv] at tu;cases tu
   ·exact⟨y,(h7 y).mpr<|.inr ⟨hy,c2⟩,u,C,tu⟩
  ·exact⟨x,(h7 x).mpr<|.inl ⟨I,c1⟩,w,hw,tv⟩
theorem SR.ends(I:da ks){E:List Nat}(h:SR ks R E):0<E.length:=by obtain⟨x,J,_⟩:=h.tv I λ_=>true;exact List.length_pos_of_mem J
structure Tr where
 a:Addr
 b:Addr
 R:Ru
 E:List Nat
abbrev j8(E:List Nat):List Y:=E.map λn:Nat=>Y.int (n:Int)
def Tr.ads(t:Tr):List Addr:=[t.a,t.b]
structure bV(L0 L:qo)(ka fa:Addr)(ks:List Kn)(fo:List Tr):Prop where
 hk:L ka=some (.lst<|jv ks)
 ht:∀t∈fo,L t.a=some (.lst [zj t.R,.ref t.b])/\L t.b=some (.lst<|j8 t.E)
 sr:∀t∈fo,SR ks t.R t.E
 nd:(fo.flatMap λt=>z0 t.R).Nodup
 tm:∀x,x∈(fo.flatMap λt=>z0 t.R)↔x<ks.length
 ad:(ka::fa::fo.flatMap Tr.ads).Nodup
 ok:da ks
 sub:qh L0 L
 fr:∀x∈ka::fa::fo.flatMap Tr.ads,L0 x=none
def zr(fo:List Tr):List Y:=fo.map λt=>Y.ref t.a
structure nX(L0 L:qo)(ka fa:Addr)(ks:List Kn)(fo:List Tr):Prop where
 b:bV L0 L ka fa ks fo
 hf:L fa=some (.lst<|zr fo)
def DX:Ru->Prop
 |.link _ _=>True
 |.ei _ A=>DX A
 |.bo _ A B=>DX A/\DX B
 |.cu _ _ _ _=>False
def IV(ks:List Kn)(fo:List Tr)(I:List Kn)(fo':List Tr):Prop:=(∃ms:List Kn,I=ks++ms/\∀k∈ms,∃e i j,k=.nd e i j)/\((∀t∈fo,DX t.R)->∀t∈fo',DX t.R)
theorem bV.perm{fo fo':List Tr}(h:bV L0 L ka fa ks fo)(p:fo.Perm fo'):bV L0 L ka fa ks fo':=by have J:(fo.flatMap λt=>z0 t.R).Perm (fo'.flatMap λt=>z0 t.R):=p.flatMap_right _;have U:(fo.flatMap Tr.ads).Perm (fo'.flatMap Tr.ads):=p.flatMap_right _;refine⟨h.hk,λt I=>h.ht t<|p.mem_iff.mpr I,λt I=>h.sr t<|p.mem_iff.mpr I,J.nodup_iff.mp h.nd,λx=>by rw[<-J.mem_iff];exact h.tm x,((U.cons _).cons _).nodup_iff.mp h.ad,h.ok,h.sub,λx g=>h.fr x<|((U.cons _).cons _).mem_iff.mpr g⟩
end L3
variable {fo rest:List L3.Tr}
namespace L3
open PySem L2 Words
noncomputable def uO:RD "_law_name" dh 0 ["_law_seed","_law_which","_law_letters","_law_size","_law_place","_law_base","_law_sign"] (λ_=>True):=⟨_,λV B c _ _ _ _ _ _ _ J hN I=>(qa (am (i:=2) hN rfl (Or.inr rfl) jx)<|qa (S_ 3 hN<|qj jh qc<|qj jj (qv 0) qc)<|qa (S_ 4 hN<|qj jj (qj vg (qv 0) qc)<|qv 3)<|qa (S_ 5 hN<|Pr jx<|xh<|wT ["_law_k"] (ER (by rfl)) rfl (wq rfl B.bf<|xh qc) (uL 7) (λ_ _ _ _=>vK) λ_ _ _ _=>(I_ (qv 2)<|qj jj (qj jh (qj vg (qv 0) qc)<|qj fh qc<|qv 7) qc))<|qa (zu (E_ I (qj jj (qj vg (qv 0) qc) qc) qc) (qd<|qz<|wv (oH _ _ _) (qv 5) bW<|aM<|qj jh qc<|qj jj (qj jh (qv 1)<|qv 0) qc) z9)<|qa (S_ 6 hN<|I_ (qv 2)<|qj jj (qj jh (qj jh (qj vg (qv 0) qc)<|qj fh qc<|qv 4)<|qv 1) qc)<|qd<|qz<|qj jh (qj jh (wv (oH _ _ _) (qv 5) bW<|aM<|qv 4)<|qv 6)<|wv (oH _ _ _) (qv 5) (aM<|qj jh (qv 4) qc)<|aM<|qv 3)⟩
noncomputable def QQ:vh:=(uO).1
def dy(i:Int):Nat:=97+(i % 26).toNat
theorem xS(i:Int):fQ ("abcdefghijklmnopqrstuvwxyz" : Str).cps.toList (i % 26)=some (dy i):=by
 obtain⟨n,I⟩:∃n:Nat,i % 26=n:=⟨(i % 26).toNat,by lia⟩;have h:n<26:=by lia
 unfold dy;rw[I];have key:∀n,n<26->("abcdefghijklmnopqrstuvwxyz" : Str).cps.toList[n]?=some (97+n):=by decide +kernel
 exact jt<|key n h
theorem yG(i:Int):97<=dy i/\dy i<=122:=by unfold dy;lia
def dX(s:Int):List Nat:=(List.range 8).map λk:Nat=>dy<|s / 64+3*(k:Int)
theorem mK(s:Int):(dX s).length=8:=by unfold dX;simp
theorem lG(s:Int):∀c∈dX s,97<=c/\c<=122:=λc I=>by obtain⟨k,_,rfl⟩:=BS.mp I;exact yG _
def oK(s:Int):Nat:=(s / 8 % (1+s % 8)).toNat
def szN(s:Int):Nat:=(1+s % 8).toNat
theorem IW(s:Int):oK s<szN s/\szN s<=8/\s / 8 % (1+s % 8)=(oK s:Int)/\1+s % 8=(szN s:Int):=by
 have h0:0<1+s % 8:=by lia
 have h1:0<=s / 8 % (1+s % 8):=CD _ (by lia);have h2:s / 8 % (1+s % 8)<1+s % 8:=Ce _ h0;unfold oK szN;lia
def aU(s w:Int):List Nat:=
 if s / 64 % 3=1 then(dX s).take (1+(w+s) % 3).toNat
 else((dX s).take (oK s)++[dy<|s / 64+3*(oK s:Int)+w])++((dX s).drop<|oK s+1).take (szN s-(oK s+1))
theorem uN(s w:Int):fE (p_<|aU s w):=by
 have I:(p_<|aU s w).length=(aU s w).length:=by rw[<-Txs.len_list];show(aU s w).toArray.toList.length=_;simp
 have J:(p_<|aU s w).cps.toList=aU s w:=by show(aU s w).toArray.toList=_;simp
 have U:=mK s;obtain⟨g,j,_,_⟩:=IW s;refine⟨?_,?_,?_⟩
 ·rw[I];unfold aU;split
  ·rw[AY];omega
  ·rw[Ad,Ad];simp;simp +arith only
 ·rw[I];unfold aU;split
  ·rw[AY];omega
  ·rw[Ad,Ad,AY,AY,BM];simp;lia
 ·rw[J];intro c h;unfold aU at h;split at h
  ·exact lG s c<|BI h
  ·rcases Aj.mp h with h|h
   ·rcases Aj.mp h with h|h
    ·exact lG s c<|BI h
    ·rw[An.mp h];exact yG _
   ·exact lG s c<|CO<|BI h
def lH:zh:=λys L Q=>∃s w:Int,ys=[.int s,.int w]/\Q (.str<|p_<|aU s w) L
theorem QR(h:m<=n)(h2:n<=x.length):(Txt.slice x (some (m:Int))<|some (n:Int)).cps.toList=(x.cps.toList.drop m).take (n-m):=by have e:=oD x (some (m:Int))<|some (n:Int);rw[HT.sIx_nat,HT.sIx_nat,BJ h2,BJ<|AZ h h2] at e;exact e
theorem oN(h:n<=x.length):(Txt.slice x none<|some (n:Int)).cps.toList=x.cps.toList.take n:=by have e:=oD x none<|some (n:Int);rw[HT.sIx_nat,HT.sIx_none,DM,Nat.sub_zero,BJ h] at e;exact e
theorem QU:∀ys L Q,lH ys L Q->v9 QQ 7 ys L Q:=by
 rintro ys L Q ⟨s,w,rfl,q⟩;have j:0<1+s % 8:=by lia
 refine⟨(by decide:(0:Int)<8),⟨by decide,by decide⟩,j,⟨by decide,by decide⟩,?_⟩;show k_ (a8 0 8) _ _ _ _ _ _ _ _;refine rH (m:=8) (λi zs=>zs=((List.range i).map λk:Nat=>Y.str ⟨#[dy<|s / 64+3*(k:Int)]⟩)) (by decide) rfl ?_ ?_
 ·rintro i _ hi rfl;have I:=xS<|s / 64+3*(0+(i:Int));refine⟨⟨by decide,by decide⟩,.inl ⟨by decide,by decide⟩,(by decide:(0:Int)<26),by decide +kernel,?_⟩;walk_at "w";rw[I];refine⟨_,EC _,rfl,?_⟩;rw[List.range_succ,AI,show(0:Int)+(i:Int)=(i:Int) by simp +arith only];rfl
 ·rintro _ rfl p t;have e0:((List.range 8).map λk:Nat=>Y.str ⟨#[dy<|s / 64+3*(k:Int)]⟩)=((dX s).map λc=>(⟨#[c]⟩:Str)).map Y.str:=by unfold dX;rw[Cq,Cq];rfl
  rw[e0];refine qw q9 ⟨(dX s).map λc=>(⟨#[c]⟩:Str),rfl,?_,?_⟩
  ·have J:∀U:List Nat,((U.map λc=>(⟨#[c]⟩:Str)).map (·.length)).sum=U.length:=λU=>by induction U with|nil=>rfl|cons c r ih=>rw[AG,AG,List.sum_cons,ih,AJ];show 1+r.length=_;exact Nat.add_comm _ _
   rw[J,mK];show 8+_*0<=_;rw[Nat.mul_zero];decide
  ·have g:=Qt<|dX s;have l:(Txt.join ""<|(dX s).map λc=>(⟨#[c]⟩:Str)).length=8:=by rw[<-Txs.len_list,g,mK]
   generalize Txt.join "" ((dX s).map λc=>(⟨#[c]⟩:Str))=base at l g;obtain⟨p1,p2,o,C⟩:=IW s;refine⟨⟨by decide,by decide⟩,(by decide:(0:Int)<3),?_⟩;refine zp (λc=>?_) λc=>?_
   ·have e:1+(w+s) % 3=((1+(w+s) % 3).toNat:Int):=by lia
    refine⟨(by decide:(0:Int)<3),dz (by lia),m8 (By t) ?_⟩;have es:=oN (x:=base) (n:=(1+(w+s) % 3).toNat) (by lia);have eq:Txt.slice base none (some<|1+(w+s) % 3)=p_ (aU s w):=by rw[e];refine(xE _).symm.trans ?_;rw[es,g];unfold aU;rw[AB c]
    rw[<-eq] at q;exact q
   ·have I:=xS<|s / 64+3*(s / 8 % (1+s % 8))+w;refine⟨⟨by decide,by decide⟩,.inl ⟨by decide,by decide⟩,(by decide:(0:Int)<26),by decide +kernel,?_⟩;walk_at "w";rw[I];have T:=oN (x:=base) (n:=oK s) (by lia);have s2:=QR (x:=base) (m:=oK s+1) (n:=szN s) (by assumption) (by lia);have l1:(Txt.slice base none<|some (oK s:Int)).length=oK s:=by rw[<-Txs.len_list,T,AY,Txs.len_list];lia
    have l2:(Txt.slice base (some ((oK s+1:Nat):Int))<|some (szN s:Int)).length<=8:=by rw[<-Txs.len_list,s2,AY];lia
    refine⟨dz (by lia),?_⟩;refine⟨dz (by rw[o,l1];show oK s+1<=1000;lia),?_⟩;refine⟨dz (by lia),?_⟩;have J:((oK s:Int)+1)=((oK s+1:Nat):Int):=by rfl
    have l3:(Txt.slice base none (some (oK s:Int))++(⟨#[dy<|s / 64+3*(s / 8 % (1+s % 8))+w]⟩:Str)).length=oK s+1:=by rw[PySem.Str.length_append,l1];rfl
    refine⟨dz ?_,m8 (By t) ?_⟩
    ·rw[o] at l3 ⊢;rw[l3,J,C];lia
    ·have eq:(Txt.slice base none (some (oK s:Int))++(⟨#[dy<|s / 64+3*(oK s:Int)+w]⟩:Str))++Txt.slice base (some ((oK s+1:Nat):Int)) (some (szN s:Int))=p_ (aU s w):=by
      refine(xE _).symm.trans ?_;have ca:∀a b:Str,(a++b).cps.toList=a.cps.toList++b.cps.toList:=λa b=>by show(a.cps++b.cps).toList=_;simp
      rw[ca,ca,T,s2,g];unfold aU;rw[AC c]
     rw[o,J,C,eq];exact q
theorem QV(t t':Bool)(n I:Str):Da.eq (pO<|.leaf t n) (pO<|.leaf t' I)=(decide (t=t')&&decide (n=I)):=by
 by_cases h:n=I
 ·subst h;cases t<;>cases t'<;>simp[pO,Da.eq,Da.eqs,nI,kL]<;>decide +kernel
 ·cases t<;>cases t'<;>simp[pO,Da.eq,Da.eqs,nI,kL,h]<;>decide +kernel
theorem ij{α β:Type}(f:α->β):∀(l:List α) (n:Nat),(l.map f).eraseIdx n=(l.eraseIdx n).map f
 |[],n=>by simp
 |_::_,0=>rfl
 |x::r,n+1=>by rw[AG,Dj,Dj,AG,ij f r n]
theorem x6{α:Type}:∀{l:List α} {j:Nat} {x:α},l[j]?=some x->l.Perm (x::l.eraseIdx j)
 |[],_,_,h=>by simp at h
 |y::r,0,x,h=>by
  have:y=x:=by simpa using h
  subst this;exact .refl _
 |y::r,j+1,x,h=>by have I:=x6 (l:=r) (j:=j) (x:=x) (by simpa using h);rw[Dj];exact(I.cons y).trans (.swap _ _ _)
theorem lF(fo:List Tr)(j:Nat):(zr fo).eraseIdx j=zr (fo.eraseIdx j):=ij _ fo j
theorem qh.none(s:qh L L'){p:Addr}(h:L' p=none):L p=none:=by cases z:L p with|none=>rfl|some o=>rw[s _ _ z] at h;cases h
theorem bV.nkf(h:bV L0 L ka fa ks fo):ka≠fa:=by have ad:=h.ad;rw[Aw] at ad;exactλe=>ad.1<|e▸Ak ..
theorem bV.nk(h:bV L0 L ka fa ks fo):∀t∈fo,t.a≠fa/\t.b≠fa/\t.a≠ka/\t.b≠ka:=λt I=>by have ad:=h.ad;rw[Aw,Aw] at ad;have J:t.a∈fo.flatMap Tr.ads:=Bf.mpr ⟨t,I,by simp[Tr.ads]⟩;have U:t.b∈fo.flatMap Tr.ads:=Bf.mpr ⟨t,I,by simp[Tr.ads]⟩;exact⟨λe=>ad.2.1<|e▸J,λe=>ad.2.1<|e▸U,λe=>ad.1<|Ac _<|e▸J,λe=>ad.1<|Ac _<|e▸U⟩
theorem bV.setF(h:bV L0 L ka fa ks fo)(o:LO):bV L0 (qi L fa o) ka fa ks fo:=by
 refine⟨by rw[qg h.nkf];exact h.hk,λt I=>?_,h.sr,h.nd,h.tm,h.ad,h.ok,λb u e=>?_,h.fr⟩
 ·obtain⟨J,U,_,_⟩:=h.nk t I;rw[qg J,qg U];exact h.ht t I
 ·have:b≠fa:=λz=>by rw[z,h.fr fa (by simp)] at e;cases e
  rw[qg this];exact h.sub _ _ e
theorem bV.mono(h:bV L0 L ka fa ks fo)(s:qh L L'):bV L0 L' ka fa ks fo:=
 ⟨s _ _ h.hk,λt I=>⟨s _ _ (h.ht t I).1,s _ _ (h.ht t I).2⟩,h.sr,h.nd,h.tm,h.ad,h.ok,h.sub.trans s,h.fr⟩
theorem bV.exs(h:bV L0 L ka fa ks fo):∀z∈fo.flatMap Tr.ads,∃o,L z=some o:=λz I=>by
 obtain⟨t,J,I⟩:=Bf.mp I;obtain⟨h1,h2⟩:=h.ht t J;have I:z=t.a\/z=t.b:=by simpa[Tr.ads] using I
 rcases I with rfl|rfl
 ·exact⟨_,h1⟩
 ·exact⟨_,h2⟩
theorem QX{l:List Addr}(nd:l.Nodup)(ex:∀z∈l,∃o,L z=some o)(U:L pa=none)(g:L pb=none)(ne:pa≠pb):(l++[pa,pb]).Nodup:=by
 rw[Ar];refine⟨nd,by simp[ne],λu j v J e=>?_⟩;subst e;obtain⟨o,I⟩:=ex u j;simp at J;rcases J with rfl|rfl
 ·rw[U] at I;cases I
 ·rw[g] at I;cases I
theorem bV.step{old:List Tr}{t':Tr}(h:bV L0 L ka fa ks<|old++rest)(l:L' ka=some (.lst<|jv<|ks++ms))(o:L' t'.a=some (.lst [zj t'.R,.ref t'.b])/\L' t'.b=some (.lst<|j8 t'.E))
 (keep:∀t∈rest,L' t.a=L t.a/\L' t.b=L t.b) (sub:qh L0 L') (ad:(ka::fa::(rest++[t']).flatMap Tr.ads).Nodup) (p:∀x∈t'.ads,L0 x=none) (ok:da<|ks++ms) (r:SR (ks++ms) t'.R t'.E)
 (tp:(z0 t'.R).Perm<|List.range' ks.length ms.length++old.flatMap λt=>z0 t.R):bV L0 L' ka fa (ks++ms) (rest++[t']):=by
 have hnd:=h.nd;have U:=h.tm;rw[A5] at hnd;have j:((rest++[t']).flatMap λt=>z0 t.R)=(rest.flatMap λt=>z0 t.R)++z0 t'.R:=by rw[A5];simp
 have mem:∀x,x∈z0 t'.R↔(ks.length<=x/\x<ks.length+ms.length)\/x∈(old.flatMap λt=>z0 t.R):=λx=>by rw[tp.mem_iff,Aj,Dq]
 refine⟨l,λt J=>?_,λt J=>?_,?_,λx=>?_,ad,ok,sub,λx I=>?_⟩
 ·rcases Aj.mp J with J|J
  ·obtain⟨C,T⟩:=keep t J;rw[C,T];exact h.ht t<|Ai _ J
  ·rw[An.mp J];exact o
 ·rcases Aj.mp J with J|J
  ·exact(h.sr t<|Ai _ J).more _
  ·rw[An.mp J];exact r
 ·rw[j,Ar];rw[Ar] at hnd;refine⟨hnd.2.1,tp.nodup_iff.mpr ?_,λx I y g e=>?_⟩
  ·rw[Ar];refine⟨DU,hnd.1,λx I y g e=>?_⟩;have I:=Dq.mp I;have g:=(U y).mp (by rw[A5];exact Ap _ g);lia
  ·subst e;rcases (mem x).mp g with g|g
   ·have:=(U x).mp (by rw[A5];exact Ai _ I);lia
   ·exact hnd.2.2 x g x I rfl
 ·rw[j,Aj,mem,Ad];have h1:=U x;rw[A5,Aj] at h1;constructor
  ·rintro(h2|h2|h2)
   ·have:=h1.mp<|.inr h2;exact Hy
   ·lia
   ·have:=h1.mp<|.inl h2;lia
  ·intro h2;by_cases c:x<ks.length
   ·rcases h1.mpr c with h3|h3
    ·exact .inr<|.inr h3
    ·exact .inl h3
   ·exact .inr<|.inl (by lia)
 ·rcases Am.mp I with rfl|I
  ·exact h.fr _<|Ak ..
  ·rcases Am.mp I with rfl|I
   ·exact h.fr _<|Ac _<|Ak ..
   ·rw[A5] at I;rcases Aj.mp I with I|I
    ·exact h.fr _ (Ac _ (Ac _ (by rw[A5];exact Ai _ I)))
    ·exact p x (by simpa using I)
theorem bV.put{M:qo}{old:List Tr}{E:List Nat}{fs:LO}(h:bV L0 L ka fa ks<|old++rest)(U:∀z o,z≠ka->L z=some o->M z=some o)(g:M ka=some (.lst<|jv<|ks++ms))(l:M fa=some fs)(na:M pa=none)(nb:M pb=none)(ne:pa≠pb)(s:qh M L')(p:L' pa=some (.lst [zj R,.ref pb]))(r:L' pb=some (.lst<|j8 E))
 (ok:da<|ks++ms) (C:SR (ks++ms) R E) (tp:(z0 R).Perm<|List.range' ks.length ms.length++old.flatMap λt=>z0 t.R):bV L0 L' ka fa (ks++ms) (rest++[⟨pa,pb,R,E⟩]):=by
 have J:∀z o,L0 z=some o->M z=some o:=λz o e=>U _ _ (λw=>by rw[w,h.fr ka (by simp)] at e;cases e)<|h.sub _ _ e;have two:∀z,z∈(⟨pa,pb,R,E⟩:Tr).ads->M z=none:=λz I=>by
  have I:z=pa\/z=pb:=by simpa[Tr.ads] using I
  rcases I with rfl|rfl<;>assumption
 refine bV.step (old:=old) (t':=⟨pa,pb,R,E⟩) h (s _ _ g) ⟨p,r⟩ (λt j=>?_) (λz o e=>s _ _<|J z o e) ?_ (λz I=>?_) ok C tp
 ·obtain⟨_,_,T,n4⟩:=h.nk t<|Ai _ j;obtain⟨h1,h2⟩:=h.ht t<|Ai _ j;rw[h1,h2];exact⟨s _ _<|U _ _ T h1,s _ _<|U _ _ n4 h2⟩
 ·have ad:=h.ad;rw[A5] at ad;have:=QX (L:=M) ((((CY ..).cons_cons _).cons_cons _).nodup ad) (λz I=>?_) na nb ne
  ·rw[A5];simpa[Tr.ads] using this
  ·rcases Am.mp I with rfl|I
   ·exact⟨_,g⟩
   rcases Am.mp I with rfl|I
   ·exact⟨_,l⟩
   obtain⟨o,e⟩:=h.exs z (by rw[A5];exact Ai _ I);exact⟨o,U _ _ (λw=>(Aw.mp ad).1 (by rw[<-w];exact Ac _<|Ai _ I)) e⟩
 ·cases e:L0 z with|none=>rfl|some o=>have w:=J z o e;rw[two z I] at w;cases w
def rE:zh:=λys L Q=>∃L0 ka fa ks fo,∃one two:Int,ys=[.ref ka,.ref fa,.int one,.int two]/\nX L0 L ka fa ks fo/\2<=fo.length/\fo.length<=200/\ks.length<=200/\
 ∀L' I fo',nX L0 L' ka fa I fo'->I.length=ks.length+1->fo'.length+1=fo.length->IV ks fo I fo'->Q .non L'
theorem jG{l:List α}(h:0<l.length)(k:Int):∃(j:Nat) (x:α),k % (l.length:Int)=(j:Int)/\j<l.length/\l[j]?=some x:=by have h0:0<=k % (l.length:Int):=CD _ (by lia);have h1:k % (l.length:Int)<(l.length:Int):=Ce _ (by omega);refine⟨(k % (l.length:Int)).toNat,l[(k % (l.length:Int)).toNat]'(by lia),by lia,by lia,Al (by lia)⟩
theorem kh:∀(n:Nat) (l:List Nat),l.Nodup->(∀x∈l,x<n)->l.length<=n
 |0,l,_,h=>by cases l with|nil=>exact Ao _|cons x r=>exact absurd (h x<|Ak ..) (by lia)
 |n+1,l,nd,h=>by
  by_cases c:n∈l
  ·have p:=List.perm_cons_erase c;have J:=kh n (l.erase n) (nd.erase n) λx I=>by have:=(List.Nodup.mem_erase_iff nd).mp I;have:=h x this.2;lia
   rw[p.length_eq,AJ];exact F7
  ·exact BP (kh n l nd λx I=>by have:=h x I;have:x≠n:=λe=>c<|e▸I;lia)
theorem ak(h:bV L0 L ka fa ks fo){t:Tr}(I:t∈fo):0<t.E.length/\t.E.length<=ks.length:=by have s:=h.sr t I;exact⟨s.ends h.ok,kh _ _ s.nod λx J=>s.lt x<|s.sub x J⟩
theorem bQ(x l r:Nat):rO (fU<|.int (x:Int)) (([.int (l:Int),.int (r:Int)]:List Y).map fU)=decide (x=l\/x=r):=by
 show(nI (.int (l:Int)) (.int (x:Int))||(nI (.int (r:Int)) (.int (x:Int))||false))=_;have e:∀a b:Nat,nI (.int (a:Int)) (.int (b:Int))=decide (b=a):=λa b=>by
  show decide ((a:Int)=(b:Int))=decide (b=a);by_cases c:b=a
  ·subst c;simp
  ·rw[AE c];apply AE;lia
 rw[e,e];by_cases h1:x=l<;>by_cases h2:x=r<;>simp[h1,h2]
theorem gv{E:List Nat}(h:0<E.length)(k:Int):∃x,x∈E/\fQ (j8 E) (k % ((j8 E).length:Int))=some (.int ((x:Nat):Int)):=by obtain⟨j,x,I,J,ex⟩:=jG h k;refine⟨x,Az ex,?_⟩;rw[Ag,I];exact jt (by rw[Aq,ex];rfl)
def k8(E1 E2:List Nat)(l r:Nat):List Nat:=(E1++E2).filter λx=>!decide (x=l\/x=r)
theorem IX{U:Addr}{E:List Nat}{l r k:Nat}{Q:YK}{tc:kD}(C:L U=some (.lst<|j8 E))(I:E.length<=1000)
 (T:∀y (g:Bool->qo->Prop),iA true y (.tup [.int (l:Int),.int (r:Int)]) L (λx L'=>match x with|.bl c=>g c L'|_=>False)->tc (gE (τ++List.replicate 1 none) k y) L g)
 (hv:∀y,zQ (gE (τ++List.replicate 1 none) k y) k=some y)
 (hq:∀p,L p=none->Q (.ref p) (qi L p<|.lst<|j8<|E.filter λx=>!decide (x=l\/x=r))):
 sQ L U λys keep L2=>k_ ys keep 1 (qp k) tc (qf k) τ L2 Q:=by
 refine ku C λkeep kp=>gD (λj zs=>zs=j8 ((E.take j).filter λx=>!decide (x=l\/x=r))) (by rw[Ag];exact nw I) (kp L rfl) rfl ?_ ?_
 ·rintro j y _ o rfl;obtain⟨x,ex,rfl⟩:∃x:Nat,E[j]?=some x/\y=Y.int (x:Int):=by rw[Aq] at o;obtain⟨x,e1,e2⟩:=AA.mp o;exact⟨x,e1,e2.symm⟩
  refine T _ _ ⟨rfl,rfl,?_⟩;rw[bQ];show vt (!decide (x=l\/x=r)) _ _;have t:(E.take<|j+1).filter (λx=>!decide (x=l\/x=r))=(E.take j).filter (λx=>!decide (x=l\/x=r))++[x].filter (λx=>!decide (x=l\/x=r)):=by rw[Bo,ex,Bp];rfl
  by_cases c:x=l\/x=r
  ·refine aZ (by rw[AM c];rfl) ?_;refine HM ⟨rfl,?_⟩;rw[t,B7 (by simp[c]),BZ,AD]
  ·refine iP (by rw[AE c];rfl) ?_;unfold qf;rw[hv];refine HM ⟨rfl,?_⟩;rw[t,B8 (by simp[c]),BZ];unfold j8;rw[AI];rfl
 ·rintro _ rfl p J;rw[Ag,BC];exact hq p J
theorem wJ{k:Int}(U:L fa=some (.lst<|zr fo))(h:0<fo.length):∃(j:Nat) (t:Tr),fo[j]?=some t/\0<=k % ((zr fo).length:Int)/\k % ((zr fo).length:Int)<((zr fo).length:Int)/\
 (zr fo)[(k % ((zr fo).length:Int)).toNat]?=some (.ref t.a)/\qi L fa (.lst<|(zr fo).eraseIdx (k % ((zr fo).length:Int)).toNat) fa=some (.lst<|zr<|fo.eraseIdx j):=by
 obtain⟨j,t,J,g,I⟩:=jG h k;have e:(zr fo).length=fo.length:=Ag ..;rw[e,J];refine⟨j,t,I,by exact A6 _,by lia,?_,?_⟩
 ·show(zr fo)[j]?=_;unfold zr;rw[Aq,I];rfl
 ·rw[q9];show some (LO.lst<|(zr fo).eraseIdx j)=_;rw[lF]
theorem bV.two{t1 t2:Tr}(h:bV L0 L ka fa ks<|t1::t2::rest):∀x,x∈z0 t1.R->x∈z0 t2.R->False:=by intro x h1 h2;have nd:=h.nd;rw[Bm,Bm,Ar] at nd;exact nd.2.2 x h1 x (Ap _ h2) rfl
theorem xD{E1 E2:List Nat}{l r:Nat}(I:l∉E2)(J:r∉E1)(x:Nat):x∈k8 E1 E2 l r↔(x∈E1/\x≠l)\/(x∈E2/\x≠r):=by
 unfold k8;rw[AK,Aj];constructor
 ·rintro⟨h,c⟩;have c:¬(x=l\/x=r):=by simpa using c
  rcases h with h|h
  ·exact .inl ⟨h,λe=>c<|.inl e⟩
  ·exact .inr ⟨h,λe=>c<|.inr e⟩
 ·rintro(⟨h,c⟩|⟨h,c⟩)
  ·refine⟨.inl h,?_⟩;have:x≠r:=λe=>J<|e▸h;simp[c,this]
  ·refine⟨.inr h,?_⟩;have:x≠l:=λe=>I<|e▸h;simp[c,this]
theorem wP{E1 E2:List Nat}{l r:Nat}(h1:E1.Nodup)(h2:E2.Nodup)(d:∀x,x∈E1->x∈E2->False):(k8 E1 E2 l r).Nodup:=by
 unfold k8;have h:(E1++E2).Nodup:=by rw[Ar];exact⟨h1,h2,λx I y J e=>d x I<|e▸J⟩
 exact List.Pairwise.filter _ h
theorem iz(a b:List Nat):j8 (a++b)=j8 a++j8 b:=AI
theorem gB(a:List Tr)(t:Tr):zr (a++[t])=zr a++[.ref t.a]:=AI
theorem QY:∀ys L Q,rE ys L Q->v9 QN 9 ys L Q:=by
 rintro ys L Q ⟨L0,ka,fa,j,fo,one,two,rfl,F,h2,bq,bg,q⟩;have big:=a_;have p:∀fo:List Tr,(zr fo).length=fo.length:=λfo=>Ag ..;have U:∀E:List Nat,(j8 E).length=E.length:=λE=>Ag ..;obtain⟨j1,I,bh,a1,a2,a3,g⟩:=wJ (k:=two) F.hf (by exact ix);have p1:=x6 bh;refine qb F.hf (qb F.hf ⟨(by show(0:Int)<((zr fo).length:Int);rw[p];lia),qw F.hf ⟨a1,a2,qm a3 ?_⟩⟩);have B:=(F.b.perm p1).setF<|.lst<|(zr fo).eraseIdx (two % ((zr fo).length:Int)).toNat;generalize qi L fa _=L1 at g B ⊢;have l1:=p1.length_eq;generalize fo.eraseIdx j1=T at l1 g B p1 ⊢;rw[AJ] at l1;obtain⟨j2,J,bi,b1,b2,b3,au⟩:=wJ (k:=one) g (by lia);have p2:=x6 bi;refine qb g (qb g ⟨(by show(0:Int)<((zr T).length:Int);rw[p];lia),qw g ⟨b1,b2,qm b3 ?_⟩⟩);replace B:=(B.perm<|p2.cons _).setF<|.lst<|(zr T).eraseIdx (one % ((zr T).length:Int)).toNat;generalize qi L1 fa _=L2 at au B ⊢;have l2:=p2.length_eq;have bb:=p1.trans<|p2.cons _;generalize T.eraseIdx j2=rest at l2 au B bb ⊢;rw[AJ] at l2;clear g a1 a2 a3 b1 b2 b3 p1 p2;have m1:I∈I::J::rest:=by simp
 have m2:J∈I::J::rest:=by simp
 obtain⟨a4,av⟩:=B.ht I m1;obtain⟨a5,ax⟩:=B.ht J m2;obtain⟨_,_,n1,n2⟩:=B.nk I m1;obtain⟨_,_,n3,n4⟩:=B.nk J m2;have bj:=ak B m1;have bn:=ak B m2;obtain⟨x,hx,ex⟩:=gv bj.1<|two / 64;obtain⟨y,hy,ey⟩:=gv bn.1<|one / 64;refine qb a4 ⟨⟨by decide,by decide⟩,qb a4 (qb av ⟨(by show(0:Int)<((j8 I.E).length:Int);rw[U];omega),qb av<|qm ex ?_⟩)⟩;refine qb a5 ⟨⟨by decide,by decide⟩,qb a5 (qb ax ⟨(by show(0:Int)<((j8 J.E).length:Int);rw[U];omega),qb ax<|qm ey ?_⟩)⟩;refine qb B.hk (qw B.hk ⟨big _ (by rw[Ag];exact Es),?_⟩);have ek:jv j++[.tup [.str "both",.int ((x:Nat):Int),.int ((y:Nat):Int)]]=jv (j++[.nd false x y]):=by unfold jv;rw[AI];rfl
 rw[ek];have k3:∀z o,z≠ka->L2 z=some o->qi L2 ka (.lst<|jv<|j++[.nd false x y]) z=some o:=λz o n e=>(qg n).trans e;have bc:qi L2 ka (.lst<|jv<|j++[.nd false x y]) ka=some (.lst<|jv<|j++[.nd false x y]):=q9;generalize qi L2 ka _=L3 at bc k3 ⊢;refine qb (k3 _ _ n1 a4) (qb (k3 _ _ n3 a5) ⟨_,_,k3 _ _ n2 av,k3 _ _ n4 ax,dz (by rw[U,U];lia),λpp bd=>?_⟩);rw[<-iz];refine IX (E:=I.E++J.E) (l:=x) (r:=y) (k:=9) q9 (by rw[Ad];lia) (λy' Q' h=>h) (λ_=>rfl) λpe be=>?_;generalize hL:qi (qi L3 pp _) pe _=L4;have s4:qh L3 L4:=by rw[<-hL];exact(By bd).trans (By be)
 have bp:L4 pe=some (.lst<|j8<|k8 I.E J.E x y):=by rw[<-hL];exact q9
 clear hL bd be;have k4:∀z o,z≠ka->L2 z=some o->L4 z=some o:=λz o n e=>s4 _ _<|k3 z o n e;have aL:=s4 _ _ bc;have aR:=k4 _ _ (AL B.nkf) au;have nn:(((jv<|j++[.nd false x y]).length:Nat):Int)-1=((j.length:Nat):Int):=by rw[Ag,Ad];simp
 have lb:(k8 I.E J.E x y).length<=(I.E++J.E).length:=B0 ..;rw[Ad] at lb;refine qb aR<|qb aL<|qb (k4 _ _ n1 a4)<|qb (k4 _ _ n3 a5)<|qb aL λpn C=>?_;refine⟨_,_,By C _ _ bp,q9,dz (by rw[U];show _+1<=1000;lia),λpb ac pa al=>?_⟩;have bf:pb≠pa:=bx q9 al;have nb:=(By C).none ac;have na:=((By C).trans<|By ac).none al;generalize hL:qi (qi (qi L4 pn _) pb _) pa _=L7;have s7:qh L4 L7:=by rw[<-hL];exact((By C).trans<|By ac).trans (By al)
 have ea:L7 pa=some (.lst [zj<|.bo j.length I.R J.R,.ref pb]):=by rw[<-hL,q9];dsimp only;rw[nn];rfl
 have eb:L7 pb=some (.lst<|j8<|k8 I.E J.E x y++[j.length]):=by rw[<-hL,qg bf,q9];dsimp only;rw[nn,iz];rfl
 clear hL C ac al;refine qw (s7 _ _ aR) ⟨big _ (by rw[p];lia),?_⟩;have s1:=B.sr I m1;have s2:=B.sr J m2;have ba:∀z,z∈I.E->z∈J.E->False:=λz h1 h2=>B.two z (s1.sub z h1)<|s2.sub z h2;have bm:=xD (E1:=I.E) (E2:=J.E) (λh=>ba x hx h) λh=>ba y h hy;refine x8 (q _ (j++[.nd false x y]) (rest++[⟨pa,pb,.bo j.length I.R J.R,k8 I.E J.E x y++[j.length]⟩]) ⟨(bV.put (old:=[I,J]) B k4 aL aR na nb (AL bf) s7 ea eb (B.ok.snoc ⟨s1.lt x<|s1.sub x hx,s2.lt y<|s2.sub y hy⟩) (.bo (fB _ _ _) (s1.more _) (s2.more _) hx hy (λz=>?_) ?_) ?_).setF _,by rw[q9,gB]⟩ (by rw[Ad];rfl) (by rw[Ad];simp;lia) ⟨⟨_,rfl,λk hk=>⟨_,_,_,An.mp hk⟩⟩,λh t ht=>?_⟩)
 ·rw[Aj,bm,An,or_assoc]
 ·rw[Ar];refine⟨wP s1.nod s2.nod ba,by simp,λu hu v hv e=>?_⟩;rw[An.mp hv] at e;rcases (bm u).mp hu with⟨h,_⟩|⟨h,_⟩
  ·have:=s1.lt u<|s1.sub u h;lia
  ·have:=s2.lt u<|s2.sub u h;lia
 ·show(j.length::(z0 I.R++z0 J.R)).Perm (List.range' j.length 1++([I,J].flatMap λt=>z0 t.R));simp[Ee]
 ·have h':∀u∈I::J::rest,DX u.R:=λu hu=>h u<|bb.mem_iff.mpr hu;rcases Aj.mp ht with ht|ht
  ·exact h' t<|Ac _<|Ac _ ht
  ·rw[An.mp ht];exact⟨h' I m1,h' J m2⟩
theorem tL{E:List Nat}{k:Int}(h:0<E.length):∃(j x:Nat),E[j]?=some x/\0<=k % ((j8 E).length:Int)/\k % ((j8 E).length:Int)<((j8 E).length:Int)/\
 (j8 E)[(k % ((j8 E).length:Int)).toNat]?=some (.int ((x:Nat):Int))/\(j8 E).eraseIdx (k % ((j8 E).length:Int)).toNat=j8 (E.eraseIdx j):=by
 obtain⟨j,x,J,U,I⟩:=jG h k;have e:(j8 E).length=E.length:=Ag ..;rw[e,J];refine⟨j,x,I,by exact A6 _,by lia,?_,?_⟩
 ·show(j8 E)[j]?=_;rw[Aq,I];rfl
 ·exact ij _ E j
theorem Gu{a:Addr}{o:LO}:∀z u,z≠a->L z=some u->qi L a o z=some u:=λz u n e=>(qg n).trans e
def mJ:zh:=λys L Q=>∃L0 ka fa ks,∃pre post:List Tr,∃t:Tr,∃one two:Int,ys=[.ref ka,.ref t.a,.int one,.int two]/\nX L0 L ka fa ks (pre++t::post)/\ks.length<=200/\
 ∀L' I fo',nX L0 L' ka fa I fo'->I.length<=ks.length+1->fo'.length=(pre++t::post).length->IV ks (pre++t::post) I fo'->Q .non L'
theorem QZ:∀ys L Q,mJ ys L Q->v9 QP 6 ys L Q:=by
 rintro ys L Q ⟨L0,T,fa,I,pre,post,t,one,two,rfl,F,bc,q⟩;have big:=a_;have mt:t∈pre++t::post:=by simp
 have B:=F.b;obtain⟨ta,tb⟩:=B.ht t mt;have le:=ak B mt;have s:=B.sr t mt;have U:∀E:List Nat,(j8 E).length=E.length:=λE=>Ag ..;refine qb ta<|qb tb ?_;refine zp (λc=>?_) λc=>?_
 ·exact x8<|q L I _ F (CN _) rfl ⟨⟨[],(AD _).symm,λk hk=>by cases hk⟩,λh=>h⟩
 have c:¬(((j8 t.E).length:Int)<2):=c;rw[U] at c;have ad:=B.ad;have nkf:=B.nkf;have nk:=B.nk;have r:t.a≠t.b:=by rw[Aw,Aw,A5,Bm,Ar,Ar] at ad;have:=ad.2.2.2.1.1;simpa[Tr.ads] using this
 obtain⟨C,x,e1,a1,a2,a3,a4⟩:=tL (k:=two) le.1;refine qb ta (qb tb (qb ta (qb tb ⟨(by show(0:Int)<((j8 t.E).length:Int);rw[U];omega),qw tb ⟨a1,a2,qm a3 ?_⟩⟩)));rw[a4];have bf:(t.E.eraseIdx C).length+1=t.E.length:=by have:=(x6 e1).length_eq;rw[AJ] at this;lia
 have ac:qi L t.b (.lst<|j8<|t.E.eraseIdx C) t.a=some (.lst [zj t.R,.ref t.b]):=by rw[qg r];exact ta
 obtain⟨j2,y,e2,b1,b2,b3,b4⟩:=tL (E:=t.E.eraseIdx C) (k:=one) (by lia);refine qb ac (qb q9 (qb ac (qb q9 ⟨(by show(0:Int)<((j8<|t.E.eraseIdx C).length:Int);rw[U];omega),qw q9 ⟨b1,b2,qm b3 ?_⟩⟩)));rw[b4,x4];have bd:((t.E.eraseIdx C).eraseIdx j2).length+1=(t.E.eraseIdx C).length:=by have:=(x6 e2).length_eq;rw[AJ] at this;lia
 have pE:t.E.Perm (x::y::(t.E.eraseIdx C).eraseIdx j2):=(x6 e1).trans<|(x6 e2).cons _;generalize (t.E.eraseIdx C).eraseIdx j2=j at bd pE;have nt:=nk t mt;have k1:=Gu (L:=L) (a:=t.b) (o:=.lst<|j8 j);have al:qi L t.b (.lst<|j8 j) t.b=some (.lst<|j8 j):=q9;generalize qi L t.b _=L1 at k1 al ⊢;have au:=k1 _ _ (AL nt.2.2.2) B.hk;refine qb au (qw au ⟨big _ (by rw[Ag];exact Es),?_⟩);have ek:jv I++[.tup [.str "either",.int ((x:Nat):Int),.int ((y:Nat):Int)]]=jv (I++[.nd true x y]):=by unfold jv;rw[AI];rfl
 rw[ek];have nn:(((jv<|I++[.nd true x y]).length:Nat):Int)-1=((I.length:Nat):Int):=by rw[Ag,Ad];simp
 have k2:=Gu (L:=L1) (a:=T) (o:=.lst<|jv<|I++[.nd true x y]);have a5:qi L1 T (.lst<|jv<|I++[.nd true x y]) T=some (.lst<|jv<|I++[.nd true x y]):=q9;generalize qi L1 T _=L2 at k2 a5 ⊢;have av:=k2 _ _ nt.2.2.1<|k1 _ _ r ta;refine qb a5<|qb av<|qw av<|qm (v:=0) rfl ?_;generalize hL:qi L2 t.a _=L3;have ax:L3 t.a=some (.lst [zj<|.ei I.length t.R,.ref t.b]):=by rw[<-hL,q9];dsimp only;rw[nn];rfl
 have k3:∀z o,z≠t.a->L2 z=some o->L3 z=some o:=by rw[<-hL];exact Gu
 clear hL;have aL:=k3 _ _ (AL nt.2.2.1) a5;have aR:=k3 _ _ (AL r)<|k2 _ _ nt.2.2.2 al;have g:∀b u,b≠t.a->b≠t.b->b≠T->L b=some u->L3 b=some u:=λb u n1 n2 n3 e=>k3 _ _ n1<|k2 _ _ n3<|k1 _ _ n2 e;refine qb ax (qb aR (qb aL (qw aR ⟨big _ (by rw[U];lia),?_⟩)));have en:j8 j++[.int<|(((jv<|I++[.nd true x y]).length:Nat):Int)-1]=j8 (j++[I.length]):=by rw[nn];unfold j8;rw[AI];rfl
 have l:=pE.nodup_iff.mp s.nod;rw[Aw,Aw] at l;have hx:x∈t.E:=pE.mem_iff.mpr (by simp);have hy:y∈t.E:=pE.mem_iff.mpr (by simp);have be:∀u∈pre++post,u.a≠t.a/\u.a≠t.b/\u.b≠t.a/\u.b≠t.b:=λu J=>by have p:(pre++t::post).Perm (t::(pre++post)):=Cc;have ba:=(p.flatMap_right Tr.ads).nodup_iff.mp (by rw[Aw,Aw] at ad;exact ad.2.2);rw[Bm,Ar] at ba;have k:=ba.2.2;have ma:u.a∈(pre++post).flatMap Tr.ads:=Bf.mpr ⟨u,J,by simp[Tr.ads]⟩;have mb:u.b∈(pre++post).flatMap Tr.ads:=Bf.mpr ⟨u,J,by simp[Tr.ads]⟩;exact⟨λe=>k t.a (by simp[Tr.ads]) u.a ma e.symm,λe=>k t.b (by simp[Tr.ads]) u.a ma e.symm,λe=>k t.a (by simp[Tr.ads]) u.b mb e.symm,λe=>k t.b (by simp[Tr.ads]) u.b mb e.symm⟩
 refine x8 (q _ (I++[.nd true x y]) (pre++⟨t.a,t.b,.ei I.length t.R,j++[I.length]⟩::post) ⟨?_,?_⟩ (by rw[Ad];exact Ao _) (by simp) ⟨⟨_,rfl,λk hk=>⟨_,_,_,An.mp hk⟩⟩,λh u J=>?_⟩)
 rotate_right
 ·rcases Aj.mp J with J|J
  ·exact h u<|Ap _ J
  ·rcases Am.mp J with rfl|J
   ·exact h t mt
   ·exact h u<|Ai _<|Ac _ J
 ·have B':=B.perm (fo':=[t]++(pre++post)) Cc;have st:=bV.step (old:=[t]) (rest:=pre++post) (t':=⟨t.a,t.b,.ei I.length t.R,j++[I.length]⟩) (ms:=[.nd true x y]) (L':=qi L3 t.b<|.lst<|j8 j++[.int<|(((jv<|I++[.nd true x y]).length:Nat):Int)-1]) B' ?_ ⟨?_,?_⟩ (λu J=>?_) (λb o e=>?_) ?_ (λz hz=>?_) ?_ ?_ ?_
  ·exact st.perm (by have p1:((pre++post)++[(⟨t.a,t.b,.ei I.length t.R,j++[I.length]⟩:Tr)]).Perm ((⟨t.a,t.b,.ei I.length t.R,j++[I.length]⟩:Tr)::(pre++post)):=Cf _ _;exact p1.trans Cc.symm)
  ·rw[qg<|AL (nk t mt).2.2.2];exact aL
  ·rw[qg r];exact ax
  ·rw[q9,en]
  ·have bb:u∈pre++t::post:=by rcases Aj.mp J with h|h;exact Ap _ h;exact Ai _ (Ac _ h)
   obtain⟨n1,n2,n3,n4⟩:=be u J;obtain⟨k1,k2,k3,k4⟩:=nk u bb;obtain⟨h1,h2⟩:=B.ht u bb;rw[h1,h2,qg n2,qg n4];exact⟨g _ _ n1 n2 k3 h1,g _ _ n3 n4 k4 h2⟩
  ·have fr:=B.fr;have n0:∀z,L0 z=none->b≠z:=λz hz w=>by rw[w,hz] at e;cases e
   have n1:=n0 T<|fr T (by simp);have n2:=n0 t.a<|fr t.a (by simp[Tr.ads]);have n3:=n0 t.b<|fr t.b (by simp[Tr.ads]);rw[qg n3];exact g _ _ n2 n3 n1<|B.sub _ _ e
  ·have p:(pre++t::post).Perm ((pre++post)++[t]):=Cc.trans (Cf _ _).symm;have e:((pre++post)++[(⟨t.a,t.b,.ei I.length t.R,j++[I.length]⟩:Tr)]).flatMap Tr.ads=((pre++post)++[t]).flatMap Tr.ads:=by simp[A5,Tr.ads]
   rw[e];exact(((p.flatMap_right Tr.ads).cons _).cons _).nodup_iff.mp ad
  ·have hz:z=t.a\/z=t.b:=by simpa[Tr.ads] using hz
   rcases hz with rfl|rfl
   ·exact B.fr _ (by simp[Tr.ads])
   ·exact B.fr _ (by simp[Tr.ads])
  ·exact B.ok.snoc ⟨s.lt x<|s.sub x hx,s.lt y<|s.sub y hy⟩
  ·refine .ei (fB _ _ _) (s.more _) hx hy (λe=>l.1 (by rw[e];exact Ak ..)) (λz=>?_) ?_
   ·rw[Aj,An];have hm:=pE.mem_iff (a:=z);rw[Am,Am] at hm;have h1:z∈j->z≠x/\z≠y:=λh=>⟨λe=>l.1 (by rw[<-e];exact Ac _ h),λe=>l.2.1<|e▸h⟩;constructor
    ·rintro(h|h)
     ·exact .inl ⟨hm.mpr<|.inr<|.inr h,h1 h⟩
     ·exact .inr h
    ·rintro(⟨h,c1,c2⟩|h)
     ·rcases hm.mp h with e|e|e
      ·exact absurd e c1
      ·exact absurd e c2
      ·exact .inl e
     ·exact .inr h
   ·rw[Ar];refine⟨l.2.2,by simp,λu J v hv e=>?_⟩;rw[An.mp hv] at e;have:u∈t.E:=pE.mem_iff.mpr<|Ac _<|Ac _ J;have:=s.lt u<|s.sub u this;lia
  ·show(I.length::z0 t.R).Perm (List.range' I.length 1++([t].flatMap λt=>z0 t.R));simp[Ee]
 ·have nf:=nk t mt;rw[qg<|AL nf.2.1];have:=g fa _ (AL nf.1) (AL nf.2.1) (AL nkf) F.hf;rw[this];unfold zr;rw[AI,AI];rfl
def Q0(I:zh)(p1:zh)(p2:zh)(p3:zh):vh:=(zn (x5 (kM qD (qf 1)<|qk (xx qC (qf 3)<|qR 1) je)<|qp 4)
 (zn (x5 (xx fY (wx 4 1)<|xx qC (xx O6 (qf 3)<|bJ 64)<|cL A'<|aX<|wx 4 1)<|qp 5)
 (zn (x5 (jk I<|bN (qf 0)<|qf 5)<|qp 6)
 (zn (x5 (Ff (yC .non)<|yC .non)<|jS 2<|vi (qp 7)<|vi (qp 8) gn)
 (zn (rV (mZ<|aX<|qR 1) (qp 9)<|rV (dr<|xx fY (xx fY (qf 1)<|qf 9)<|bJ 1) (qp 10)<|aG (yj (yB<|dY false<|qf 7)<|o_ (jk I<|bN (qf 0)<|qf 10)<|jk p1<|aX<|qf 6) (x5 (aC<|qk (xx fY (qf 1)<|qf 9)<|aX<|qf 10)<|jS 2<|vi (qp 7)<|vi (qp 8) gn) vz)
 (zn (aG (yj (yB<|dY false<|qf 7)<|yB<|xx O8 (jk p2<|aX<|qf 6)<|bJ 5) (zn (wo<|kM x9 (qf 1)<|aX<|qf 4)
 HL) vz)
 (tw (aG (yB<|dY false<|qf 7) (zn (x5 (jk p3<|bN (qf 0)<|qf 6)<|Iq 3<|vi (qp 11)<|vi (qp 8)<|vi (qp 12) gn)
 (x5 (gK<|qk (qf 11)<|qk (gK<|bN (qf 8)<|qf 12) je)<|qp 7))<|wo<|kM kU (qf 1)<|aX<|qf 7)
 (zn (x5 (s_ 1 (dr<|xx bw (wx 4 1)<|wx 7 1) (qp 14) (yB<|xx (iA true) (qf 14)<|Ff (qf 5)<|qf 8)<|qf 14)<|qp 13)
 (aG (o_ (xx qC (qf 2)<|bJ 2)<|bJ 0) (wo<|kM x9 (qf 1)<|qk (gK<|qk (aC<|qk (f' "cut")<|qk (qf 5)<|qk (qf 8)<|bN (wx 4 0)<|wx 7 0)<|aX<|qf 13) je)<|wo<|kM x9 (qf 1)<|qk (gK<|qk (aC<|qk (f' "cut")<|qk (qf 8)<|qk (qf 5)<|bN (wx 7 0)<|wx 4 0)<|aX<|qf 13) je)))))))))
theorem qG:∀a b:List Da,Da.eqs a b=true->a.length=b.length
 |[],[],_=>rfl
 |[],_::_,h=>by cases h
 |_::_,[],h=>by cases h
 |x::r,y::q,h=>by have h:(Da.eq x y&&Da.eqs r q)=true:=h;rw[Ba] at h;rw[AJ,AJ,qG r q h.2]
theorem Q1(u:Wd):∀v:Wd,Da.eq (pO u) (pO v)=true->u=v:=by
 induction u with
 |leaf t n=>
  intro v h;cases v with
  |leaf o p=>
   rw[QV,Ba] at h;rw[of_decide_eq_true h.1,of_decide_eq_true h.2]
  |node e l r=>exact absurd (qG _ _ h) (by intro z;cases z)
 |node e l r g j=>
  intro v h;cases v with
  |leaf t n=>exact absurd (qG _ _ h) (by intro z;cases z)
  |node I J U=>
   have h:(nI (.str<|kN e) (.str<|kN I)&&(Da.eq (pO l) (pO J)&&(Da.eq (pO r) (pO U)&&true)))=true:=h;rw[Ba,Ba,Ba] at h;obtain⟨h1,h2,h3,_⟩:=h;have:e=I:=by cases e<;>cases I<;>first|rfl|(exfalso;revert h1;decide +kernel)
   rw[this,g J h2,j U h3]
def ve:Ru->Nat
 |.link _ _=>1
 |.ei _ A=>ve A+1
 |.bo _ A B=>max (ve A) (ve B)+1
 |.cu _ _ A B=>max (ve A) (ve B)+1
theorem w5:∀R:Ru,ve R+1<=(z0 R).length
 |.link _ _=>Ao _
 |.ei _ A=>by have:=w5 A;simp[ve,z0];lia
 |.bo _ A B=>by have:=w5 A;have:=w5 B;simp[ve,z0];lia
 |.cu _ _ A B=>by have:=w5 A;have:=w5 B;simp[ve,z0];lia
def df:Ru->Da
 |.link p q=>.tup [.s<|.str "link",.s<|.int (p:Int),.s<|.int (q:Int)]
 |.ei r A=>.tup [.s<|.str "either",.s<|.int (r:Int),df A]
 |.bo r A B=>.tup [.s<|.str "both",.s<|.int (r:Int),df A,df B]
 |.cu p q A B=>.tup [.s<|.str "cut",.s<|.int (p:Int),.s<|.int (q:Int),df A,df B]
theorem fN{L:qo}:∀{R:Ru} {n:Nat},ve R<=n->xa L n (zj R) (df R)
 |.link p q,n+1,_=>e9<|.cons (EW _)<|.cons (EO _)<|.cons (EO _) .nil
 |.ei r A,n+1,h=>e9 (.cons (EW _) (.cons (EO _) (.cons (fN (by simp[ve] at h;lia)) .nil)))
 |.bo r A B,n+1,h=>e9 (.cons (EW _) (.cons (EO _) (.cons (fN (by simp[ve] at h;lia)) (.cons (fN (by simp[ve] at h;lia)) .nil))))
 |.cu p q A B,n+1,h=>e9 (.cons (EW _) (.cons (EO _) (.cons (EO _) (.cons (fN (by simp[ve] at h;lia)) (.cons (fN (by simp[ve] at h;lia)) .nil)))))
 |.link _ _,0,h=>by simp[ve] at h
 |.ei _ _,0,h=>by simp[ve] at h
 |.bo _ _ _,0,h=>by simp[ve] at h
 |.cu _ _ _ _,0,h=>by simp[ve] at h
theorem ah:∀R:Ru,Da.eq (df R) (df R)=true
 |.link p q=>by simp[df,Da.eq,Da.eqs,nI]
 |.ei r A=>by simp[df,Da.eq,Da.eqs,nI,ah A]
 |.bo r A B=>by simp[df,Da.eq,Da.eqs,nI,ah A,ah B]
 |.cu p q A B=>by simp[df,Da.eq,Da.eqs,nI,ah A,ah B]
def iQ(E:List Nat):List Da:=E.map λn:Nat=>Da.s<|.int (n:Int)
theorem xP{L:qo}{n:Nat}:∀E:List Nat,Paired (xa L n) (j8 E)<|iQ E
 |[]=>.nil
 |_::r=>.cons (EO _)<|xP r
theorem qO:∀E I:List Nat,Da.eqs (iQ E) (iQ I)=true↔E=I
 |[],[]=>by simp[iQ,Da.eqs]
 |[],_::_=>by simp[iQ,Da.eqs]
 |_::_,[]=>by simp[iQ,Da.eqs]
 |x::r,y::J=>by
  have U:=qO r J;show(Da.eq (.s<|.int (x:Int)) (.s<|.int (y:Int))&&Da.eqs (iQ r) (iQ J))=true↔_;rw[Ba,U];have:Da.eq (.s<|.int (x:Int)) (.s<|.int (y:Int))=true↔x=y:=by show decide ((x:Int)=(y:Int))=true↔_;rw[decide_eq_true_iff];lia
  rw[this];constructor
  ·rintro⟨rfl,rfl⟩;rfl
  ·intro e;injection e with g j;exact⟨g,j⟩
def fO(t:Tr):Da:=.lst [df t.R,.lst<|iQ t.E]
theorem ph{t:Tr}(I:L t.a=some (.lst [zj t.R,.ref t.b]))(J:L t.b=some (.lst<|j8 t.E))(h:ve t.R<=n+1):xa L (n+2) (.ref t.a) (fO t):=
 fG I (.cons (fN h)<|.cons (fG J<|xP _) .nil)
theorem Q2{t u:Tr}:Da.eq (fO t) (fO u)=true->t.E=u.E:=by intro h;have h:(Da.eq (df t.R) (df u.R)&&(Da.eqs (iQ t.E) (iQ u.E)&&true))=true:=h;rw[Ba,Ba] at h;exact(qO _ _).mp h.2.1
theorem yX(t:Tr):Da.eq (fO t) (fO t)=true:=by show(Da.eq (df t.R) (df t.R)&&(Da.eqs (iQ t.E) (iQ t.E)&&true))=true;rw[ah,(qO _ _).mpr rfl];rfl
theorem bV.rd(h:bV L0 L ka fa ks fo){t:Tr}(I:t∈fo):ve t.R<=ks.length:=by
 have h1:=w5 t.R;have nd:(z0 t.R).Nodup:=by obtain⟨a,b,rfl⟩:=Cg I;have:=h.nd;rw[A5,Bm,Ar,Ar] at this;exact this.2.1.1
 have:=kh _ _ nd λx J=>(h.sr t I).lt x J;exact NS
theorem bV.one(h:bV L0 L ka fa ks fo){t u:Tr}(hi:fo[i]?=some t)(I:fo[j]?=some u)(e:t.E=u.E):i=j:=by
 by_cases c:i=j
 ·exact c
 ·exfalso;have s:=h.sr t<|Az hi;have l:=s.ends h.ok;obtain⟨x,J⟩:∃x,x∈t.E:=by cases g:t.E with|nil=>rw[g] at l;simp at l|cons x r=>exact⟨x,Ak ..⟩
  have o:=h.sr u<|Az I;have p:=x6 hi;have C:(u::(fo.eraseIdx i))=_:=rfl;have U:u∈fo.eraseIdx i:=by have:fo[j]?=some u:=I;rw[List.mem_eraseIdx_iff_getElem?];exact⟨j,λz=>c z.symm,I⟩
  obtain⟨a,b,T⟩:=Cg U;have nd:=(p.flatMap_right λt:Tr=>z0 t.R).nodup_iff.mp h.nd;rw[Bm,Ar] at nd;exact nd.2.2 x (s.sub x J) x (Bf.mpr ⟨u,U,o.sub x<|e▸J⟩) rfl
theorem gf:∀w:Wd,w.turn.turn=w
 |.leaf t n=>by simp[Wd.turn]
 |.node e l r=>by simp[Wd.turn,gf l,gf r]
theorem fz:∀w:Wd,w.turn.depth=w.depth
 |.leaf t n=>rfl
 |.node e l r=>by simp[Wd.turn,Wd.depth,fz l,fz r]
def Fd(ks:List Kn)(w:Wd)(rest:List Tr)(I J:Y):Prop:=(I=.non/\J=.non)\/∃(j:Nat) (u:Tr) (q:Nat),rest[j]?=some u/\q∈u.E/\cM ks q w.turn/\I=.ref u.a/\J=.int (q:Int)
theorem Q4{g j:qo}{t1 u:Tr}{x:Nat}{w:Wd}(B:bV L0 g ka fa ks<|t1::u::rest){fs:LO}(hf:g fa=some fs)(hx:x∈t1.E)(hq:q∈u.E)(o:cM ks x w)(p:cM ks q w.turn){I:Addr}(s:qh g j)(a1:g I=none)
 (he:j I=some (.lst<|j8<|k8 t1.E u.E x q)) (J:j pa=none) (hR:R=.cu x q t1.R u.R\/R=.cu q x u.R t1.R):bV L0 (qi j pa<|.lst [zj R,.ref I]) ka fa ks (rest++[⟨pa,I,R,k8 t1.E u.E x q⟩]):=by
 have t:I≠pa:=bx he J;have C:=B.sr t1 (by simp);have T:=B.sr u (by simp);have U:∀z,z∈t1.E->z∈u.E->False:=λz h1 h2=>B.two z (C.sub z h1)<|T.sub z h2;have bm:=xD (E1:=t1.E) (E2:=u.E) (λh=>U x hx h) λh=>U q h hq;have nod:=wP (l:=x) (r:=q) C.nod T.nod U;have st:=bV.put (M:=g) (L':=qi j pa<|.lst [zj R,.ref I]) (old:=[t1,u]) (ms:=[]) (R:=R) (E:=k8 t1.E u.E x q) (pa:=pa) (pb:=I) B (λ_ _ _ e=>e) (by rw[AD];exact B.hk) hf (s.none J) a1 (AL t) (s.trans<|By J) q9 (by rw[qg t];exact he) (by rw[AD];exact B.ok) ?_ ?_
 ·rw[AD] at st;exact st
 ·rw[AD];rcases hR with rfl|rfl
  ·exact .cu C T hx hq o p bm nod
  ·exact .cu (w:=w.turn) T C hq hx p (by rw[gf];exact o) (λz=>by rw[bm];exact Or.comm) nod
 ·rcases hR with rfl|rfl
  ·show(z0 t1.R++z0 u.R).Perm _;simp
  ·show(z0 u.R++z0 t1.R).Perm _;simpa using AW
def CJ(L0:qo)(ka fa:Addr)(ks:List Kn)(one two:Int)(t1:Tr)(x:Nat)(w:Wd)(n:Nat)(τ:jw)(L:qo):Prop:=∃ms u q rest c9 bv c11 c12,τ=[some<|.ref ka,some<|.ref fa,some<|.int one,some<|.int two,some<|.ref t1.a,some<|.int (x:Int),some<|bL w,some<|.ref u.a,some<|.int ((q:Nat):Int),c9,bv,c11,c12,none]/\
 bV L0 L ka fa (ks++ms) (t1::u::rest)/\L fa=some (.lst<|zr rest)/\q∈u.E/\cM (ks++ms) q w.turn/\ms.length<=10/\rest.length<=n
def pW:zh:=λys L Q=>∃L0 ka fa ks fo,∃one two:Int,ys=[.ref ka,.ref fa,.int one,.int two]/\nX L0 L ka fa ks fo/\1<=fo.length/\fo.length<=110/\ks.length<=110/\
 ∀L' I fo',nX L0 L' ka fa I fo'->I.length<=ks.length+10->1<=fo'.length->fo'.length<=fo.length->Q .non L'
theorem Q5{FS MS:zh}(hF:∀ys L Q,aV 120 ys L Q->FS ys L Q)(hM:∀ys L Q,w4 5 ys L Q->MS ys L Q):∀ys L Q,pW ys L Q->v9 (Q0 (xg 120) FS (aH 120) MS) 14 ys L Q:=by
 rintro ys L Q ⟨L0,ka,fa,ks,fo,one,two,rfl,F,h1,ca,bj,q⟩;have big:=a_;have C:∀fo:List Tr,(zr fo).length=fo.length:=λfo=>Ag ..;obtain⟨j1,I,bb,a1,a2,a3,g⟩:=wJ (k:=two) F.hf (by assumption);have l1:(fo.eraseIdx j1).length+1=fo.length:=by have:=(x6 bb).length_eq;rw[AJ] at this;lia
 refine qb F.hf (qb F.hf ⟨(by show(0:Int)<((zr fo).length:Int);rw[C];lia),qw F.hf ⟨a1,a2,qm a3 ?_⟩⟩);have B:=(F.b.perm<|x6 bb).setF<|.lst<|(zr fo).eraseIdx (two % ((zr fo).length:Int)).toNat;generalize qi L fa _=L1 at g B ⊢;generalize fo.eraseIdx j1=rest at l1 g B;clear a1 a2 a3;have m1:I∈I::rest:=by simp
 obtain⟨a4,ac⟩:=B.ht I m1;have al:=ak B m1;have s1:=B.sr I m1;obtain⟨x,hx,ex⟩:=gv al.1<|two / 64;refine qb a4 ⟨⟨by decide,by decide⟩,qb a4 (qb ac ⟨(by show(0:Int)<((j8 I.E).length:Int);rw[Ag];omega),qb ac<|qm ex ?_⟩)⟩;obtain⟨w,hw,ck,bc⟩:=gN B.ok (x+1) x (by exact B1 _)<|s1.lt x<|s1.sub x hx;have cl:=s1.lt x<|s1.sub x hx;refine⟨ka,jv ks,x,w,rfl,B.hk,hw,by lia,?_⟩;have cm:w.turn.depth=w.depth:=fz w;refine qb g ⟨⟨by show _<=(((zr rest).length:Nat):Int);exact A6 _,by show(((zr rest).length:Nat):Int)<_;rw[C];omega⟩,?_⟩;refine gy (λi τ L'=>∃v7 v8 c9 bv,τ=[some<|.ref ka,some<|.ref fa,some<|.int one,some<|.int two,some<|.ref I.a,some<|.int (x:Int),some<|bL w,some v7,some v8,c9,bv,none,none,none]/\L'=L1/\Fd ks w rest v7 v8) ⟨_,_,_,_,rfl,rfl,.inl ⟨rfl,rfl⟩⟩ ?_ ?_
 ·rintro i τ L' hi ⟨v7,v8,c9,bv,rfl,rfl,fd⟩;have hi:i<rest.length:=by have:i<(((zr rest).length:Nat):Int).toNat:=hi;rw[C] at this;assumption
  obtain⟨u,hu⟩:∃u,rest[i]?=some u:=⟨_,Al hi⟩;have mu:u∈I::rest:=Ac _<|Az hu;obtain⟨ua,ub⟩:=B.ht u mu;have ei:(zr rest)[i]?=some (.ref u.a):=by unfold zr;rw[Aq,hu];rfl
  have e0:(0:Int)+(i:Int)=((i:Nat):Int):=by simp +arith only
  rw[e0];have bd:fQ (zr rest) ((i:Nat):Int)=some (.ref u.a):=jt ei;have le:=ak B mu;have su:=B.sr u mu;refine qb g<|qm bd<|qb ua ?_;refine Pa (ys:=j8 u.E) (wr ub) (λk τ au=>∃v7 v8 bv,τ=[some<|.ref ka,some<|.ref fa,some<|.int one,some<|.int two,some<|.ref I.a,some<|.int (x:Int),some<|bL w,some v7,some v8,some<|.int ((i:Nat):Int),bv,none,none,none]/\au=L'/\Fd ks w rest v7 v8) ⟨_,_,_,rfl,rfl,fd⟩ ?_ ?_ ?_
  ·rintro k τ _ ⟨_,_,_,_,rfl,_⟩;rfl
  ·rintro k y τ au ey ⟨v7,v8,bv,rfl,rfl,fd⟩;obtain⟨z,ez,rfl⟩:∃z:Nat,u.E[k]?=some z/\y=Y.int (z:Int):=by rw[Aq] at ey;obtain⟨z,e1,e2⟩:=AA.mp ey;exact⟨z,e1,e2.symm⟩
   have hz:z∈u.E:=Az ez;rcases fd with⟨rfl,rfl⟩|⟨j,t,q0,h1,h2,h3,rfl,rfl⟩
   ·have bn:=su.lt z<|su.sub z hz;obtain⟨v,hv,cn,cb⟩:=gN B.ok (z+1) z (by exact B1 _) bn;refine⟨ka,jv ks,z,v,rfl,B.hk,hv,by lia,hF _ _ _ ⟨w,rfl,by lia,?_⟩⟩;refine Qd (u:=v) (v:=w.turn) (by lia) ?_;show vt (Da.eq (pO v)<|pO w.turn) _ _;refine Ox (λc=>?_) λc=>?_
    ·have hh:=Q1 _ _ c;refine qb g<|qm bd ?_;refine⟨_,EC _,?_⟩;exact⟨_,_,_,rfl,rfl,.inr ⟨i,u,z,hu,hz,hh▸hv,rfl,rfl⟩⟩
    ·refine⟨_,EC _,?_⟩;exact⟨_,_,_,rfl,rfl,.inl ⟨rfl,rfl⟩⟩
   ·refine⟨_,EC _,?_⟩;exact⟨_,_,_,rfl,rfl,.inr ⟨j,t,q0,h1,h2,h3,rfl,rfl⟩⟩
  ·rintro τ au ⟨v7,v8,bv,rfl,rfl,fd⟩;refine⟨_,EC _,?_⟩;exact⟨_,_,_,_,rfl,rfl,fd⟩
 ·rintro τ L' ⟨v7,v8,c9,bv,rfl,rfl,fd⟩;rcases fd with⟨rfl,rfl⟩|⟨j,u,q0,hj,av,ax,rfl,rfl⟩
  case' inl=>
   refine⟨w,rfl,by lia,?_⟩;show vt (decide<|(w.size:Int) > 5) _ _;refine zp (λc=>?_) λc=>?_
   case' refine_1=>
    refine qb g (qw g ⟨big _ (by rw[C];lia),?_⟩);rw[<-gB];exact x8 (q _ ks (rest++[I]) ⟨(B.perm (Cf _ _).symm).setF _,q9⟩ (by exact Bi _ _) (by simp) (by rw[Ad];simp;exact uo))
   case' refine_2=>
    refine⟨CJ L0 ka fa ks one two I x w rest.length,?_,?_⟩
    ·refine hM _ _ _ ⟨ka,ks,w,rfl,B.hk,(by have h1:=w.depth_le;have h2:=w.size_eq;lia),(by decide),bc,B.ok,by lia,λms R tp sp p hp a5=>?_⟩;refine qw q9 ?_;intro pb aL T J;have aR:qi L' ka (.lst<|jv<|ks++ms) p=none:=by rw[qg<|AL<|bx B.hk hp];exact hp
     have be:pb≠T:=bx q9 J;have nb:=(By aR).none aL;have na:=((By aR).trans<|By aL).none J;have bf:qi L' ka (.lst<|jv<|ks++ms) fa=some (.lst<|zr rest):=by rw[qg<|AL B.nkf];exact g
     generalize hL:qi (qi (qi _ p _) pb _) T _=LF;have sA:qh (qi L' ka<|.lst<|jv<|ks++ms) LF:=by rw[<-hL];exact((By aR).trans<|By aL).trans (By J)
     have ea:LF T=some (.lst [zj R,.ref pb]):=by rw[<-hL];exact q9
     have eb:LF pb=some (.lst<|j8 [tp,sp]):=by rw[<-hL,qg be];exact q9
     clear hL;refine⟨ms,⟨T,pb,R,[tp,sp]⟩,tp,rest,_,_,_,_,rfl,?_,sA _ _ bf,Ak ..,a5.wt,by have:=a5.len;lia,Ao _⟩;have st:=bV.put (old:=[]) B (λz o n e=>(qg n).trans e) q9 bf na nb (AL be) sA ea eb a5.ok a5.sr (by rw[CU,AD];exact(A3 a5.nd DU).mpr λz=>by rw[a5.tm,Dq]);exact st.perm<|(Cf _ _).trans<|List.Perm.swap _ _ _
  case' inr=>
   refine⟨CJ L0 ka fa ks one two I x w rest.length,?_,?_⟩
   ·refine qb g<|qw g ⟨rest.map fO,fO u,120,120,j,by decide,?_,?_,?_,⟨fO u,?_,yX u⟩,λk d hk ek=>?_,?_⟩
    ·have dd:∀l:List Tr,(∀t∈l,t∈I::rest)->Paired (xa L' 120) (zr l) (l.map fO):=λl=>by
      induction l with
      |nil=>intro _;exact .nil
      |cons t r ih=>
       intro h;have mt:=h t<|Ak ..;obtain⟨h1,h2⟩:=B.ht t mt;have:=B.rd mt;exact .cons (ph (n:=118) h1 h2 (by lia))<|ih λt ht=>h t<|Ac _ ht
     exact dd rest λt ht=>Ac _ ht
    ·have mt:u∈I::rest:=Ac _<|Az hj;obtain⟨h1,h2⟩:=B.ht u mt;have:=B.rd mt;exact ph (n:=118) h1 h2 (by omega)
    ·rw[Ag];exact(AN.mp hj).1
    ·rw[Aq,hj];rfl
    ·rw[Aq] at ek;obtain⟨v,ev,rfl⟩:=AA.mp ek;cases c:Da.eq (fO v) (fO u) with
     |false=>rfl
     |true=>
      have:=B.one (i:=k+1) (j:=j+1) (by simpa using ev) (by simpa using hj)<|Q2 c;lia
    ·rw[lF];have B2:=(B.perm<|(x6 hj).cons _).setF<|.lst<|zr<|rest.eraseIdx j;exact⟨[],u,q0,rest.eraseIdx j,_,_,_,_,rfl,(AD ks).symm▸B2,q9,av,(AD ks).symm▸ax,Bb _,Di ..⟩
  all_goals
   rintro cq L' ⟨ms,u,q0,U,c9,bv,c11,c12,rfl,B',hf,av,ax,cv,cw⟩;have m1:I∈I::u::U:=by simp
   have m2:u∈I::u::U:=by simp
   obtain⟨a4,ac⟩:=B'.ht I m1;obtain⟨ba,bp⟩:=B'.ht u m2;have al:=ak B' m1;have bq:=ak B' m2;rw[Ad] at al bq;refine qb a4 (qb ba ⟨_,_,ac,bp,dz (by rw[Ag,Ag];omega),λpp bg=>?_⟩);rw[<-iz];refine IX (E:=I.E++u.E) (l:=x) (r:=q0) (k:=14) q9 (by rw[Ad];omega) (λy' Q' h=>h) (λ_=>rfl) λpe bh=>?_;have bi:L' pe=none:=(By bg).none bh;generalize hL:qi (qi L' pp _) pe _=L4;have s4:qh L' L4:=by rw[<-hL];exact(By bg).trans (By bh)
   have bS:L4 pe=some (.lst<|j8<|k8 I.E u.E x q0):=by rw[<-hL];exact q9
   have done:∀(R:Ru) T,L4 T=none->(R=.cu x q0 I.R u.R\/R=.cu q0 x u.R I.R)->Q .non (qi (qi L4 T<|.lst [zj R,.ref pe]) fa<|.lst<|zr U++[.ref T]):=λR T J hR=>by rw[<-gB U ⟨T,pe,R,k8 I.E u.E x q0⟩];exact q _ (ks++ms) (U++[⟨T,pe,R,k8 I.E u.E x q0⟩]) ⟨(Q4 B' hf hx av (hw.more ms) ax s4 bi bS J hR).setF _,q9⟩ (by rw[Ad];omega) (by simp) (by rw[Ad];simp;omega)
   refine⟨(by show(0:Int)<2;decide),?_⟩;show vt (decide<|one % 2=0) _ _;refine zp (λc=>?_) λc=>?_
   ·refine qb (s4 _ _ hf)<|qb (s4 _ _ a4)<|qb (s4 _ _ ba) λT J=>?_;refine qw (By J _ _<|s4 _ _ hf) ⟨big _ (by rw[C];omega),?_⟩;exact x8<|done _ T J<|.inl rfl
   ·refine qb (s4 _ _ hf)<|qb (s4 _ _ ba)<|qb (s4 _ _ a4) λT J=>?_;refine qw (By J _ _<|s4 _ _ hf) ⟨big _ (by rw[C];omega),?_⟩;exact x8<|done _ T J<|.inr rfl
theorem nX.mono(h:nX L0 L ka fa ks fo)(s:qh L L'):nX L0 L' ka fa ks fo:=⟨h.b.mono s,s _ _ h.hf⟩
theorem bV.plus{I:qo}{t':Tr}{fs:LO}(B:bV L0 L ka fa ks rest)(j:L fa=some fs)(sA:qh (qi L ka<|.lst<|jv<|ks++ms) I)(ea:I t'.a=some (.lst [zj t'.R,.ref t'.b]))(eb:I t'.b=some (.lst<|j8 t'.E))
 (J:qi L ka (.lst<|jv<|ks++ms) t'.a=none) (U:qi L ka (.lst<|jv<|ks++ms) t'.b=none) (g:t'.a≠t'.b) (ok:da<|ks++ms) (l:SR (ks++ms) t'.R t'.E) (p:∀x,x∈z0 t'.R↔ks.length<=x/\x<ks.length+ms.length) (nd:(z0 t'.R).Nodup):
 bV L0 I ka fa (ks++ms) (rest++[t']):=by
 exact bV.put (old:=[]) B (λz o n e=>(qg n).trans e) q9 (by rw[qg<|AL B.nkf];exact j) J U g sA ea eb ok l (by rw[CU,AD];exact(A3 nd DU).mpr λz=>by rw[p,Dq])
theorem nX.link(F:nX L0 L ka fa ks fo){nm:Str}(j:fE nm)(b:Bool)(J:qi L ka (.lst<|jv<|ks++[.lf b nm,.lf (!b) nm]) pb=none)
 (U:qi (qi L ka<|.lst<|jv<|ks++[.lf b nm,.lf (!b) nm]) pb (.lst<|j8 [ks.length,ks.length+1]) pa=none) {fs:List Y} (g:fs=zr fo++[.ref pa]):
 nX L0 (qi (qi (qi (qi L ka<|.lst<|jv<|ks++[.lf b nm,.lf (!b) nm]) pb<|.lst<|j8 [ks.length,ks.length+1]) pa<|.lst [zj<|.link ks.length<|ks.length+1,.ref pb]) fa<|.lst fs) ka fa (ks++[.lf b nm,.lf (!b) nm]) (fo++[⟨pa,pb,.link ks.length<|ks.length+1,[ks.length,ks.length+1]⟩]):=by
 have I:pb≠pa:=bx q9 U;have M:=sO F.b.ok (t:=!b) j;rw[Dp] at M;refine⟨(bV.plus F.b F.hf ((By J).trans<|By U) q9 (by rw[qg I];exact q9) ((By J).none U) J (AL I) M.ok M.sr M.tm M.nd).setF _,?_⟩;rw[q9,g];unfold zr;rw[AI];rfl
theorem bV.dats(h:bV L0 L ka fa ks fo)(g:ks.length<=120):Paired (xa L 124) (zr fo) (fo.map fO):=by
 have J:∀l:List Tr,(∀t∈l,t∈fo)->Paired (xa L 124) (zr l) (l.map fO):=λl=>by
  induction l with
  |nil=>intro _;exact .nil
  |cons t r U=>
   intro k;have mt:=k t<|Ak ..;obtain⟨h1,h2⟩:=h.ht t mt;have:=h.rd mt;exact .cons (ph (n:=122) h1 h2 (by lia))<|U λt I=>k t<|Ac _ I
 exact J fo λt I=>I
theorem xN(fo:List Tr):Da.eqs (fo.map fO) []=decide (fo=[]):=by cases fo<;>rfl
def TW(L0:qo)(ka fa:Addr)(s:Int)(room:Nat)(τ:jw)(L:qo):Prop:=∃c0 c5 c6 c7 c8 c9 bv ks fo,τ=[c0,some<|.int s,some<|.int (room:Int),some<|.ref ka,some<|.ref fa,c5,c6,c7,c8,c9,bv]/\nX L0 L ka fa ks fo/\ks.length+fo.length<=room
theorem TW.of{s:Int}{room:Nat}(F:nX L0 L ka fa ks fo)(h:ks.length+fo.length<=room):TW L0 ka fa s room [c0,some<|.int s,some<|.int (room:Int),some<|.ref ka,some<|.ref fa,c5,c6,c7,c8,c9,bv] L:=⟨_,_,_,_,_,_,_,ks,fo,rfl,F,h⟩
noncomputable def xA(g:zh)(I:zh)(J:zh)(U:zh)(l:zh):RD "_law_tree" eO 171 ["_law_cells","_law_seed","_law_room","_law_knots","_law_forest","_law_k","_law_cell","_law_one","_law_two","_law_deed","_law_at"] (λV=>Gs V g/\Ix V I/\IC V J/\IB V U/\ID V l):=⟨_,λV B c _ _ _ _ _ _ _ o hN p=>(qa (S_ 3 hN<|js wb)<|qa (S_ 4 hN<|js wb)<|qa (aA wh rfl (kR rfl B.bn<|qv 0) (aD (n:=2) rfl<|zd (G_ 5 hN)<|zd (G_ 6 hN) vf)<|qa (wH (i:=7) (j:=8) rfl hN rfl rfl (by decide) rfl rfl (xm (C_ c.1 o<|bO (qv 6) (qv 5) qc)<|C_ c.1 o<|bO (qv 6) (qv 5) qc) rfl)<|qa (zu (jq yz (qj jh (qj jh (L_ B.ba<|qv 3)<|L_ B.ba<|qv 4) qc) (qv 2)<|km _) (qd tj) z9)<|qa (S_ 9 hN<|qj jj (qv 7) qc)<|qa (S_ 7 hN<|qj vg (qv 7) qc)<|qd<|zu (bF<|iC (jq rm (qv 9) qc<|km _)<|iU<|E_ p (qv 4)<|js wb) (qa (zm<|zg (qv 3)<|xh<|zf<|xm jx<|C_ c.2.1 o<|xm (qv 1)<|qj jj (qv 8) qc)<|qa (zm<|zg (qv 3)<|xh<|zf<|xm jx<|C_ c.2.1 o<|xm (qv 1)<|qj jj (qv 8) qc)<|xu (zu (E_ p (qj jj (qv 7) qc) qc) (qd<|zm<|zg (qv 3)<|xh<|cV (qv 3)<|xh<|qj cX (L_ B.ba<|qv 3) qc) z9)<|qa (S_ 10 hN<|qj cX (L_ B.ba<|qv 3) qc)<|qd<|zm<|zg (qv 4)<|xh<|js<|xm (zf<|bO jx (qv 10)<|qj jh (qv 10) qc)<|js<|xm (qv 10)<|qj jh (qv 10) qc)<|qd<|zu (jq rm (qv 9) qc<|km _) (qd<|zm<|C_ c.2.2.1 o<|xz (qv 3)<|bO (I_ (qv 4)<|qj jj (qv 8)<|L_ B.ba<|qv 4) (qv 7)<|qj vg (qv 8) qc)<|qd<|zu (bF<|dD (jq rm (qv 9) qc<|km _)<|a9<|jq yz (L_ B.ba<|qv 4) qc<|km _) (qd<|zm<|C_ c.2.2.2.1 o<|xz (qv 3)<|bO (qv 4) (qv 7)<|qv 8)<|qd<|zm<|C_ c.2.2.2.2 o<|xz (qv 3)<|bO (qv 4) (qv 7)<|qv 8)<|xu (zu (E_ p (qv 4)<|js wb) (qa (zm<|zg (qv 3)<|xh<|zf<|xm jx<|C_ c.2.1 o<|xm (qv 1) qc)<|qa (zm<|zg (qv 3)<|xh<|zf<|xm jx<|C_ c.2.1 o<|xm (qv 1) qc)<|qd<|zm<|zg (qv 4)<|xh<|js<|xm (zf<|bO jx qc qc)<|js<|xm qc qc) z9)<|qa (lD wh (jq yz (L_ B.ba<|qv 4) qc<|km _)<|qd<|zm<|C_ c.2.2.2.1 o<|xz (qv 3)<|bO (qv 4) (qj jh (qj vg (qv 1) qc)<|L_ B.ba<|qv 4)<|qj vg (qv 1) qc)<|qd<|qz<|zf<|xm (qv 3)<|I_ (J_ 4) qc)⟩
noncomputable def Q6(g:zh)(I:zh)(J:zh)(U:zh)(j:zh):vh:=(xA g I J U j).1
def lK:zh:=λys L Q=>∃I,∃J:List Int,∃s:Int,∃room:Nat,ys=[.ref I,.int s,.int (room:Int)]/\L I=some (.lst<|J.map Y.int)/\J.length<=1000/\room<=96/\
 ∀ka ks R E,L ka=none->da ks->SR ks R E->(z0 R).Perm (List.range ks.length)->ks.length<=max room 2->Q (.tup [.ref ka,zj R]) (qi L ka<|.lst<|jv ks)
theorem Q7:∀ys L Q,lK ys L Q->v9 (Q6 iM lH mJ rE pW) 11 ys L Q:=by
 rintro ys L Q ⟨cy,ns,s,room,rfl,av,bd,bb,q⟩;have big:=a_;have U:∀fo:List Tr,(zr fo).length=fo.length:=λfo=>Ag ..;have l:∀I:List Kn,(jv I).length=I.length:=λI=>Ag ..;intro J au g ax;have nkf:J≠g:=bx q9 ax;have aR:L g=none:=(By au).none ax;have F0:nX L (qi (qi L J<|.lst []) g<|.lst []) J g [] []:=by
  refine⟨⟨by rw[qg nkf];exact q9,λt ht=>by simp at ht,λt ht=>by simp at ht,by simp,by simp,by simp[nkf],λp k e=>by simp at e,(By au).trans<|By ax,λx hx=>?_⟩,q9⟩;rcases Am.mp hx with rfl|hx
  ·exact au
  ·rw[An.mp hx];exact aR
 generalize qi (qi L J<|.lst []) g (.lst [])=L1 at F0;refine ku (F0.b.sub _ _ av) λkeep kp=>wz ⟨λ_ C L'=>TW L J g s room C L',?_,?_,?_,?_⟩
 ·exact TW.of F0<|Bb _
 ·rintro i C L' ⟨c0,c5,c6,c7,c8,c9,bv,I,fo,rfl,F,hb⟩;exact kp L' (by rw[F.b.sub _ _ av,F0.b.sub _ _ av])
 ·rintro i y C L' ey ⟨c0,c5,c6,c7,c8,c9,bv,I,fo,rfl,F,hb⟩;obtain⟨z,ez,rfl⟩:=gc ey;obtain⟨cell,ec,rfl⟩:∃cell:Int,ns[i]?=some cell/\z=Y.int cell:=by rw[Aq] at ez;obtain⟨z,e1,e2⟩:=AA.mp ez;exact⟨z,e1,e2.symm⟩
  have hi:=(AN.mp ec).1;refine⟨cell,((i:Nat):Int),48271,rfl,by exact A6 _,by omega,by decide,by decide,λone h1 be=>⟨cell,((i:Nat):Int),69621,rfl,by exact A6 _,by omega,by decide,by decide,λtwo h2 bf=>?_⟩⟩;refine qb F.b.hk<|qb F.hf ?_;refine zp (λc=>?_) λc=>?_
  ·exact⟨_,EC _,TW.of F hb⟩
  have c:¬((((jv I).length:Nat):Int)+(((zr fo).length:Nat):Int)+12 > (room:Int)):=c;rw[l,U] at c;refine⟨(by decide:(0:Int)<9),⟨by decide,by decide⟩,?_⟩;refine zp (λc3=>?_) λc3=>?_
  case' refine_1=>
   obtain⟨L2,ba⟩:∃L2,L2=L':=⟨_,rfl⟩;rw[<-ba];have T:nX L L2 J g I fo:=by rw[ba];exact F
  case' refine_2=>
   intro p hp;refine bB (by decide) (By hp _ _ F.hf) q9 ((F.b.mono<|By hp).dats (by lia)) (.nil:Paired (xa _ 0) _ []) ?_;show vt (Da.eqs (fo.map fO) []) _ _;rw[xN];have T:nX L (qi L' p<|.lst []) J g I fo:=F.mono<|By hp;generalize qi L' p (.lst [])=L2 at T;refine zp (λc0=>?_) λc0=>?_
  case' refine_2.refine_2=>
   have bc:0<fo.length:=by cases fo with|nil=>exact absurd rfl c0|cons _ _=>simp
   have F:=T;refine zp (λc6=>?_) λc6=>?_
   ·obtain⟨j,t,ej,lj,et⟩:=jG bc two;refine qb F.hf ⟨(by show(0:Int)<((zr fo).length:Int);rw[U];lia),qb F.hf (qm (v:=.ref t.a) (by show fQ (zr fo) (two % ((zr fo).length:Int))=_;rw[U,ej];exact jt (by unfold zr;rw[Aq,et];rfl)) ?_)⟩;obtain⟨pre,post,ep⟩:=Cg<|Az et;rw[ep] at F hb;refine⟨⟨by decide,by decide⟩,L,J,g,I,pre,post,t,one / 9,two / 64,rfl,F,by lia,λL3 a1 a3 F3 h1 h2 _=>?_⟩;refine⟨_,EC _,?_⟩;exact TW.of F3 (by rw[ep] at c;lia)
   refine zp (λc8=>?_) λc8=>?_
   ·refine qb F.hf ?_;refine zp (λc1=>?_) λc1=>?_
    ·have c1:(((zr fo).length:Nat):Int) > 1:=c1;rw[U] at c1;refine⟨L,J,g,I,fo,one / 9,two,rfl,F,by lia,by lia,by lia,λL3 a1 a3 F3 h1 h2 _=>?_⟩;refine⟨_,EC _,?_⟩;exact TW.of F3 (by lia)
    ·refine⟨L,J,g,I,fo,one / 9,two,rfl,F,by assumption,by lia,by lia,λL3 a1 a3 F3 h1 h2 h3=>?_⟩;refine⟨_,EC _,?_⟩;exact TW.of F3 (by lia)
   ·refine⟨L,J,g,I,fo,one / 9,two,rfl,F,by lia,by lia,by lia,λL3 a1 a3 F3 h1 h2 h3=>?_⟩;refine⟨_,EC _,?_⟩;exact TW.of F3 (by lia)
  all_goals
   obtain⟨nm,a4⟩:∃nm,nm=p_ (aU s<|two % 3):=⟨_,rfl⟩;have aL:fE nm:=by rw[a4];exact uN _ _
   refine qb T.b.hk ⟨(by decide:(0:Int)<3),s,two % 3,rfl,qw T.b.hk ⟨big _ (by rw[l];omega),?_⟩⟩;refine qb q9 ⟨(by decide:(0:Int)<3),s,two % 3,rfl,qw q9 ⟨big _ (by rw[Ad,l];simp;omega),?_⟩⟩;rw[<-a4,x4];have e1:(jv I++[.tup [.str "plain",.str nm]])++[.tup [.str "turned",.str nm]]=jv (I++[.lf false nm,.lf true nm]):=by unfold jv;rw[AI,Ay];rfl
   rw[e1];refine⟨λC L3=>∃(b:Bool) (d0 d10:Option Y),C=[d0,some<|.int s,some<|.int (room:Int),some<|.ref J,some<|.ref g,some<|.int ((i:Nat):Int),some<|.int cell,some<|.int<|one / 9,some<|.int two,some<|.int<|one % 9,d10]/\L3=qi L2 J (.lst<|jv<|I++[.lf b nm,.lf (!b) nm]),?_,?_⟩
   ·refine⟨(by decide:(0:Int)<2),?_⟩;show vt (decide<|one / 9 % 2=1) _ _;refine zp (λc2=>?_) λc2=>?_
    ·have l2:(jv<|I++[Kn.lf false nm,.lf true nm]).length=I.length+2:=by rw[l,Ad];rfl
     have t2:((((jv<|I++[Kn.lf false nm,.lf true nm]).length:Nat):Int)-2).toNat=I.length:=by rw[l2];omega
     refine qb q9<|qb q9<|qb q9<|qw q9 ⟨?_,?_,qm (v:=qX<|.lf false nm) ?_ ?_⟩
     ·show(0:Int)<=(((jv<|I++[Kn.lf false nm,.lf true nm]).length:Nat):Int)-2;rw[l2];omega
     ·show(((jv<|I++[Kn.lf false nm,.lf true nm]).length:Nat):Int)-2<_;omega
     ·show(jv<|I++[Kn.lf false nm,.lf true nm])[((((jv<|I++[Kn.lf false nm,.lf true nm]).length:Nat):Int)-2).toNat]?=_;rw[t2];unfold jv;rw[Aq,fB];rfl
     ·rw[x4];refine qw q9 ⟨big _ ?_,?_⟩
      ·refine AZ (Di ..) ?_;show(jv<|I++[Kn.lf false nm,.lf true nm]).length<=20000;rw[l2];omega
      ·refine⟨true,_,_,rfl,?_⟩;rw[x4];have e3:(jv<|I++[Kn.lf false nm,.lf true nm]).eraseIdx ((((jv<|I++[Kn.lf false nm,.lf true nm]).length:Nat):Int)-2).toNat++[qX<|.lf false nm]=jv (I++[.lf true nm,.lf false nm]):=by rw[t2];unfold jv;rw[AI,List.eraseIdx_append_of_length_le (by simp),Ag,DI,AI,Ay];rfl
       rw[e3];rfl
    ·exact⟨false,_,_,rfl,rfl⟩
   ·rintro bg L3 ⟨b,d0,d10,rfl,rfl⟩;have l2:(jv<|I++[Kn.lf b nm,.lf (!b) nm]).length=I.length+2:=by rw[l,Ad];rfl
    have nn:(((jv<|I++[Kn.lf b nm,.lf (!b) nm]).length:Nat):Int)-2=((I.length:Nat):Int):=by rw[l2];omega
    have a5:qi L2 J (.lst<|jv<|I++[.lf b nm,.lf (!b) nm]) g=some (.lst<|zr fo):=by rw[qg<|AL nkf];exact T.hf
    have en:∀z:Int,z=((I.length:Nat):Int)->j8 [I.length,I.length+1]=[.int z,.int<|z+1]:=λz e=>by rw[e];rfl
    have er:∀z:Int,z=((I.length:Nat):Int)->zj (.link I.length<|I.length+1)=.tup [.str "link",.int z,.int<|z+1]:=λz e=>by rw[e];rfl
    have en:=en _ nn;have er:=er _ nn;refine qb q9<|qb a5 λpb ac pa al=>?_;have H:=T.link aL b (pb:=pb) (pa:=pa) ac (by rw[en];exact al) rfl;refine qw (((By ac).trans<|By al) _ _ a5) ⟨big _ (by rw[U];omega),?_⟩;rw[en,er] at H;refine⟨_,EC _,?_⟩;exact TW.of H (by rw[Ad,Ad];simp;omega)
 ·rintro C L' ⟨c0,c5,c6,c7,c8,c9,bv,I,fo,rfl,F,hb⟩;refine⟨λC L3=>∃c0 c5 c6 c7 c8 c9 bv I fo,C=[c0,some<|.int s,some<|.int (room:Int),some<|.ref J,some<|.ref g,c5,c6,c7,c8,c9,bv]/\nX L L3 J g I fo/\1<=fo.length/\I.length+fo.length<=max room 3,?_,?_⟩
  ·intro p hp;refine bB (by decide) (By hp _ _ F.hf) q9 ((F.b.mono<|By hp).dats (by lia)) (.nil:Paired (xa _ 0) _ []) ?_;show vt (Da.eqs (fo.map fO) []) _ _;rw[xN];have T:nX L (qi L' p<|.lst []) J g I fo:=F.mono<|By hp;generalize qi L' p (.lst [])=L2 at T;refine zp (λc0=>?_) λc0=>?_
   ·subst c0;have k0:I=[]:=by cases I with|nil=>rfl|cons k r=>exact absurd ((F.b.tm 0).mpr (by simp)) (by simp)
    subst k0;obtain⟨nm,a4⟩:∃nm,nm=p_ (aU s 0):=⟨_,rfl⟩;have aL:fE nm:=by rw[a4];exact uN _ _
    refine qb T.b.hk ⟨s,0,rfl,qw T.b.hk ⟨big _ (by decide),?_⟩⟩;refine qb q9 ⟨s,0,rfl,qw q9 ⟨big _ (by show 1<=20000;decide),?_⟩⟩;rw[<-a4,x4];have a5:∀o,qi L2 J o g=some (.lst<|zr []):=λo=>by rw[qg<|AL nkf];exact T.hf
    refine qb (a5 _) λpb ac pa al=>?_;have H:=T.link aL true (pb:=pb) (pa:=pa) ac al rfl;refine qw (((By ac).trans<|By al) _ _<|a5 _) ⟨big _ (by show 0<=20000;decide),?_⟩;exact⟨_,_,_,_,_,_,_,_,_,rfl,H,by simp,by simp;lia⟩
   ·exact⟨_,_,_,_,_,_,_,I,fo,rfl,T,(by cases fo with|nil=>exact absurd rfl c0|cons _ _=>simp),by lia⟩
  ·rintro C L' ⟨c0,c5,c6,c7,c8,c9,bv,I,fo,rfl,F,h1,hb⟩;refine⟨λm C L3=>∃c0 c5 c6 c7 c8 c9 bv I fo,C=[c0,some<|.int s,some<|.int (room:Int),some<|.ref J,some<|.ref g,c5,c6,c7,c8,c9,bv]/\nX L L3 J g I fo/\1<=fo.length/\fo.length=m/\I.length+fo.length<=max room 3,⟨_,_,_,_,_,_,_,_,_,_,rfl,F,h1,rfl,hb⟩,?_⟩;rintro m C L' ⟨c0,c5,c6,c7,c8,c9,bv,I,fo,rfl,F,h1,hm,hb⟩;refine qb F.hf ?_;refine zp (λc1=>?_) λc1=>?_
   ·have c1:(((zr fo).length:Nat):Int) > 1:=c1;rw[U] at c1;refine⟨λC L3=>∃c0 c5 c6 c7 c8 c9 bv I fo,C=[c0,some<|.int s,some<|.int (room:Int),some<|.ref J,some<|.ref g,c5,c6,c7,c8,c9,bv]/\nX L L3 J g I fo/\1<=fo.length/\fo.length+1=m/\I.length+fo.length<=max room 3,?_,?_⟩
    ·rintro C L3 ⟨d0,d5,d6,d7,d8,d9,d10,a1,a3,rfl,F3,g1,g2,g3⟩;exact⟨m-1,by lia,_,_,_,_,_,_,_,_,_,rfl,F3,g1,by lia,g3⟩
    ·refine⟨⟨by decide,by decide⟩,qb F.hf ⟨⟨by decide,by decide⟩,L,J,g,I,fo,_,_,rfl,F,by lia,by lia,by lia,λL3 a1 a3 F3 g1 g2 _=>?_⟩⟩;exact⟨_,EC _,_,_,_,_,_,_,_,a1,a3,rfl,F3,by lia,by lia,by lia⟩
   ·have c1:¬((((zr fo).length:Nat):Int) > 1):=c1;rw[U] at c1;obtain⟨t,rfl⟩:∃t,fo=[t]:=by
     match fo,h1,c1 with
     |[t],_,_=>exact⟨t,rfl⟩
     |t::u::r,_,c=>exact absurd (show(((t::u::r).length:Nat):Int) > 1 by simp;lia) c
    have ta:=(F.b.ht t<|Ak ..).1;refine qb F.hf<|qb ta ?_;have tp:(z0 t.R).Perm (List.range I.length):=by have nd:=F.b.nd;have tm:=F.b.tm;simp at nd tm;exact(A3 nd CV).mpr λx=>by rw[tm,A7]
    exact m8 (qh.put F.b.sub F.b.hk) (q J I t.R t.E au F.b.ok (F.b.sr t<|Ak ..) tp (by simp at hb;lia))
end L3
namespace L2
open PySem PySem.Spec PyProof.Rows
end L2
namespace L2
open PySem PySem.Spec PyProof.Rows
def Q8:List V->Hp->VK->Prop:=λxs H Q=>∃n:Int,xs=[.int n]/\∀p,H p=none->Q (.ref p) (upd H p<|.rng 0 n)
theorem Q9:jn X (.type "range") Q8:=by intro J s g H j l Q I r h;obtain⟨n,rfl,q⟩:=h;obtain⟨u,rfl,U⟩:=r.one;obtain⟨t,rfl⟩:=(show ∃t,u=Value.int n t from U);refine call_range_1 ?_;refine⟨.ref s.heap.objs.size,_,I.laid (t':=s.toks+1+1) (o:=.rng 0 n) (λb ob q=>sy _ q) (Ao _) ?_,rfl,q _<|I.hok.fresh<|Ao _⟩;exact⟨s.toks,t,s.toks+1,vb _ rfl⟩
theorem uY{I:Array Value}(h:ItemsOf (λi v=>∃t,v=.int (0+(i:Int)*1) t) I n):zw ((List.range n).map λi:Nat=>V.int<|0+(i:Int)) I.toList:=by
 have len:I.toList.length=n:=by rw[A8];exact h.1
 have key:∀(l:List Value) (k:Nat),(∀(j:Nat) v,l[j]?=some v->∃t,v=Value.int (0+((k+j:Nat):Int)*1) t)->zw ((List.range' k l.length).map λi:Nat=>V.int<|0+(i:Int)) l:=by
  intro l
  induction l with
  |nil=>intro k _;exact .nil
  |cons v r g=>
   intro k U;rw[AJ,Ee,AG];obtain⟨t,e⟩:=U 0 v rfl;refine .cons ?_<|g (k+1) λj o J=>?_
   ·exact⟨t,by rw[e];simp⟩
   ·have:=U (j+1) o J;rw[show k+1+j=k+(j+1) by simp +arith only];exact this
 have:=key I.toList 0 λj v J=>by rw[DJ];exact h.2 j v (by simpa using J)
 rw[len,<-List.range_eq_range'] at this;exact this
def Ra:List V->Hp->VK->Prop:=λxs H Q=>∃a,∃n:Nat,xs=[.ref a]/\H a=some (.rng 0 n)/\n<=100000/\∀p,H p=none->Q (.ref p) (upd H p<|.lst ((List.range n).map λi:Nat=>V.int<|0+(i:Int)))
theorem yc(hc:X.calm=true):jn X (.type "list") Ra:=by
 intro g s σ H xs us Q I r h;obtain⟨a,n,rfl,j,l,q⟩:=h;obtain⟨u,rfl,p⟩:=r.one;cases (show u=Value.ref a from p);obtain⟨t,u,v,e⟩:=I.hok a _ j;have hb:(100000:Nat)<=sizeLine:=by decide
 have C:Builtin.Range.rangeSize 0 (n:Int) 1=((n:Nat):Int):=by rw[rangeSize_one];split<;>lia
 refine jy I.tk<|call_list_range (I.ok.hd hc) (show IsRange s.heap a 0 (n:Int) 1 t u v from e) (small_one (by decide) (by decide) (by exact A6 _) (by omega)) C (AZ l (by decide)) λh' T U c hk hS J ht=>?_;refine⟨.ref s.heap.objs.size,_,I.laid (t':=T) (o:=.lst ((List.range n).map λi:Nat=>V.int<|0+(i:Int))) hk (Ao _) ?_,rfl,q _<|I.hok.fresh<|Ao _⟩;refine⟨by rw[Ag,BY];exact amp,U.toList,c,uY J,?_⟩;rw[hS]
end L2
namespace L3
open PySem L2
theorem Rb:bootBuiltins "range"=some (.type "range"):=by decide +kernel
def uJ(te:xt)(τ:jw)(L:qo)(Q:YK):Prop:=te τ L λy L1=>match y with
 |.int n=>(0<=n/\n<=100000)/\∀p,L1 p=none->Q (.ref p) (qi L1 p<|.lst<|a8 0 n.toNat)
 |_=>False
theorem Rc(n:Nat):xr G H (a8 0 n) ((List.range n).map λi:Nat=>V.int<|0+(i:Int)):=by
 unfold a8;generalize List.range n=l
 induction l with|nil=>rfl|cons k r I=>exact⟨_,_,rfl,rfl,I⟩
theorem uz{p I:Pos}(hc:X.calm=true)(C:Gl X "list")(T:X.mg "list"=none)(j:Gl X "range")(l:X.mg "range"=none)(h:QE X e te)
 (h1:starEach [.Call (.Name "range" p2) [e] [] I] X.env=(false,eval (.Call (.Name "range" p2) [e] [] I) X.env)::starEach [] X.env:=by rfl) (h2:(backTo pos<|starEach [] X.env).any (·.1)=false:=by rfl)
 (h3:starEach [e] X.env=(false,eval e X.env)::starEach [] X.env:=by rfl) (h4:(backTo I<|starEach [] X.env).any (·.1)=false:=by rfl):
 QE X (.Call (.Name "list" p) [.Call (.Name "range" p2) [e] [] I] [] pos) (uJ te):=
 EF (iY (yc hc) C T vv (fH (iY Q9 j l Rb (fH h me h3) (by decide) (by decide) h3 h4) me h1) (by decide) (by decide) h1 h2) λσ H Q τ L Q3 rs rl z k=>
 ⟨τ,L,_,rs,rl,z,λv H1 y L1 t1 J o U=>by
  cases y with
  |int n=>
   obtain⟨⟨h0,h5⟩,U⟩:=U;cases (show v=V.int n from o);obtain⟨m,rfl⟩:∃m:Nat,n=(m:Int):=⟨n.toNat,by lia⟩;refine⟨_,rfl,λq r=>⟨q,m,rfl,zk,by lia,λp g=>?_⟩⟩;have t:H1 p=none:=by
    by_cases c:p=q
    ·subst c;exact r
    ·rw[qr c] at g;exact g
   exact k _ _ _ _ (t1.trans<|(EE r).trans<|EE g) ((J.skip r).newL g<|Rc m) (by rfl) (U p<|J.none t)
  |_=>exact U.elim⟩
section
variable {tr:fV}{m:Str}{g:Addr}
end
end L3
namespace TS
open PySem PyProof.Rows
def Rf:Bool->Keyed->Array Keyed->Nat->Nat->Nat->StateT SortSt Sem (Option Nat):=sortPriv% PySem.Builtin.gallop
section
variable {w:World}
structure Ord(prog:Program)(w:World)(A:Around)(s:Shared)(κ:SortKind)(Ok:Keyed->Prop)(f:Keyed->Int):Prop where
 lt:∀x y,Ok x->Ok y->∀{E:Value->Shared->Prop} {Q:Bool->Shared->Prop},Q (decide<|f x<f y) s->wpAny (model prog w) A (keyLt' κ x.1 y.1) Q E s
variable {κ:SortKind}{Ok:Keyed->Prop}{f:Keyed->Int}
theorem w_lt(O:Ord prog w A s κ Ok f){st:SortSt}{x y:Keyed}{Q:Option Bool->SortSt->Prop}(I:kindOf st=κ)(J:Ok x)(U:Ok y)(h:Q (some<|decide<|f x<f y) st):wpS (model prog w) A E s (lt' x y) Q st:=by rw[lt'_eq];refine Ab<|wpS_get ?_;rw[I];refine Ab<|wpS_lift<|wpAny_attempt<|O.lt x y J U ⟨rfl,?_⟩;exact Ae h
theorem xp{arr:Array Keyed}{x:Keyed}{st:SortSt}{Q:Keyed->SortSt->Prop}(h:arr[i]?=some x)(q:Q x st):wpS (model prog w) A E s (elem' arr i) Q st:=by rw[elem'_eq,h];exact Ae q
def IY(left:Bool)(key:Keyed)(arr:Array Keyed)(i:Nat):StateT SortSt Sem (Option Bool):=elem' arr i >>= λx=>if left=true then lt' x key else lt' key x >>= λr=>pure<|r.map λb=>!b
theorem Rg(O:Ord prog w A s κ Ok f){left:Bool}{key x:Keyed}{arr:Array Keyed}{st:SortSt}{Q:Option Bool->SortSt->Prop}(J:kindOf st=κ)(I:Ok key)(U:Ok x)(hi:arr[i]?=some x)
 (q:Q (some<|if left=true then decide (f x<f key) else !decide (f key<f x)) st):wpS (model prog w) A E s (IY left key arr i) Q st:=by
 refine Ab<|xp hi ?_;cases left with|true=>exact w_lt O J U I q|false=>exact Ab<|w_lt O J I U<|Ae q
theorem cJ(O:Ord prog w A s κ Ok f){left:Bool}{key:Keyed}{arr:Array Keyed}{base hint:Nat}{st:SortSt}{Q:Option Nat->SortSt->Prop}(hk:kindOf st=κ)(a4:Ok key)(hh:hint<n)
 (it:Nat->Keyed) (hit:∀i,i<n->arr[base+i]?=some (it i)/\Ok (it i)) (o:Nat->Bool) (a5:∀i,i<n->o i=if left=true then decide (f (it i)<f key) else !decide (f key<f (it i)))
 (mono:∀i j,i<=j->j<n->o j=true->o i=true)
 (q:∀k,k<=n->(∀i,i<k->o i=true)->(∀i,k<=i->i<n->o i=false)->Q (some k) st):wpS (model prog w) A E s (Rf left key arr base n hint) Q st:=by
 have go:∀i,i<n->∀Q':Option Bool->SortSt->Prop,Q' (some<|o i) st->wpS (model prog w) A E s (IY left key arr<|base+i) Q' st:=λi U Q' h=>Rg O hk a4 (hit i U).2 (hit i U).1 (by rw[<-a5 i U];exact h);refine Ab<|go hint hh _ ?_;dsimp only;cases hb:o hint with
 |true=>
  rw[AB rfl];refine Ab (AU (AO (I:=λx c g=>g=st/\∃l J,c=(none,l,J)/\l<J/\l<n-hint/\o (hint+l)=true/\x+1<=J)
   (Q:=λc g=>g=st/\∃l J,c=(none,l,J)/\l<J/\l<n-hint/\o (hint+l)=true/\(n-hint<=J\/o (hint+J)=false)) ?_ ?_ ⟨rfl,0,1,rfl,by exact B1 _,by omega,hb,by exact B1 _⟩) ?_)
  ·rintro x c g _ hx ⟨rfl,l,J,rfl,h1,h2,h3,r⟩;dsimp only;by_cases c:J>=n-hint
   ·rw[AB c];exact Ae ⟨rfl,l,J,rfl,h1,h2,h3,.inl c⟩
   ·rw[AC c];refine Ab<|go (hint+J) (by lia) _ ?_;dsimp only;cases t:o (hint+J) with
    |true=>
     rw[AC (by simp)];exact Ae ⟨rfl,J,2*J+1,rfl,by simp +arith only,by exact Hz,t,by lia⟩
    |false=>
     rw[AB (by simp)];exact Ae ⟨rfl,l,J,rfl,h1,h2,h3,.inr t⟩
  ·rintro c g ⟨rfl,l,J,rfl,h1,h2,h3,r⟩;exact⟨rfl,l,J,rfl,h1,h2,h3,.inl (by lia)⟩
  ·rintro c g ⟨rfl,l,J,rfl,h1,h2,h3,r⟩;dsimp only;obtain⟨lo,a1⟩:∃lo,lo=hint+l+1:=⟨_,rfl⟩;obtain⟨U,a3⟩:∃U,U=hint+min J (n-hint):=⟨_,rfl⟩;rw[<-a1,<-a3];have g1:lo<=U:=by omega
   have g2:U<=n:=by lia
   have g3:∀i,i<lo->o i=true:=λi U=>mono i (hint+l) (by lia) (by lia) h3;have g4:∀i,U<=i->i<n->o i=false:=λi h5 h6=>by
    rcases r with r|r
    ·omega
    ·cases e:o i with
     |false=>rfl
     |true=>
      by_cases c:J<n-hint
      ·rw[mono (hint+J) i (by omega) h6 e] at r;cases r
      ·omega
   refine Ab (AU (AO (I:=λx c sx=>sx=g/\∃lo U,c=(none,lo,U)/\lo<=U/\U<=n/\(∀i,i<lo->o i=true)/\(∀i,U<=i->i<n->o i=false)/\U-lo+x<=n)
    (Q:=λc sx=>sx=g/\∃U,c=(none,U,U)/\U<=n/\(∀i,i<U->o i=true)/\(∀i,U<=i->i<n->o i=false)) ?_ ?_ ⟨rfl,lo,U,rfl,g1,g2,g3,g4,by exact HB⟩) ?_)
   ·rintro x c p _ hx ⟨rfl,lo,U,rfl,k1,C,T,k4,k5⟩;dsimp only;by_cases c:lo>=U
    ·rw[AB c];have:lo=U:=by lia
     subst this;exact Ae ⟨rfl,lo,rfl,C,T,k4⟩
    ·rw[AC c];refine Ab<|go (lo+(U-lo) / 2) (by lia) _ ?_;dsimp only;cases t:o (lo+(U-lo) / 2) with
     |true=>
      rw[AB rfl];exact Ae ⟨rfl,lo+(U-lo) / 2+1,U,rfl,by lia,C,λi h5=>mono i _ (by exact HA) (by lia) t,k4,by lia⟩
     |false=>
      rw[AC (by simp)];refine Ae ⟨rfl,lo,lo+(U-lo) / 2,rfl,by exact Bi _ _,by lia,T,λi h5 h6=>?_,by omega⟩;cases e:o i with|false=>rfl|true=>rw[mono _ i h5 h6 e] at t;cases t
   ·rintro c p ⟨rfl,lo,U,rfl,k1,C,T,k4,k5⟩;have:lo=U:=by lia
    subst this;exact⟨rfl,lo,rfl,C,T,k4⟩
   ·rintro c p ⟨rfl,U,rfl,C,T,k4⟩;exact Ae<|q U C T k4
 |false=>
  rw[AC (by simp)];refine Ab (AU (AO (I:=λx c g=>g=st/\∃l J,c=(none,l,J)/\l<J/\l<hint+1/\o (hint-l)=false/\x+1<=J)
   (Q:=λc g=>g=st/\∃l J,c=(none,l,J)/\l<J/\l<hint+1/\o (hint-l)=false/\(hint+1<=J\/o (hint-J)=true)) ?_ ?_ ⟨rfl,0,1,rfl,by lia,by exact B3 _,hb,by lia⟩) ?_)
  ·rintro x c g _ hx ⟨rfl,l,J,rfl,h1,h2,h3,r⟩;dsimp only;by_cases c:J>=hint+1
   ·rw[AB c];exact Ae ⟨rfl,l,J,rfl,h1,h2,h3,.inl c⟩
   ·rw[AC c];refine Ab<|go (hint-J) (by exact rD) _ ?_;dsimp only;cases t:o (hint-J) with
    |true=>
     rw[AB rfl];exact Ae ⟨rfl,l,J,rfl,h1,h2,h3,.inr t⟩
    |false=>
     rw[AC (by simp)];exact Ae ⟨rfl,J,2*J+1,rfl,by lia,by exact Hz,t,by lia⟩
  ·rintro c g ⟨rfl,l,J,rfl,h1,h2,h3,r⟩;exact⟨rfl,l,J,rfl,h1,h2,h3,.inl (by exact rp)⟩
  ·rintro c g ⟨rfl,l,J,rfl,h1,h2,h3,r⟩;dsimp only;obtain⟨lo,a1⟩:∃lo,lo=hint+1-min J (hint+1):=⟨_,rfl⟩;obtain⟨U,a3⟩:∃U,U=hint-l:=⟨_,rfl⟩;rw[<-a1,<-a3];have g1:lo<=U:=by omega
   have g2:U<=n:=by omega
   have g3:∀i,i<lo->o i=true:=λi h5=>by
    rcases r with r|r
    ·omega
    ·exact mono i (hint-J) (by omega) (by exact rD) r
   have g4:∀i,U<=i->i<n->o i=false:=λi h5 h6=>by cases e:o i with|false=>rfl|true=>rw[mono (hint-l) i (by lia) h6 e] at h3;cases h3
   refine Ab (AU (AO (I:=λx c sx=>sx=g/\∃lo U,c=(none,lo,U)/\lo<=U/\U<=n/\(∀i,i<lo->o i=true)/\(∀i,U<=i->i<n->o i=false)/\U-lo+x<=n)
    (Q:=λc sx=>sx=g/\∃U,c=(none,U,U)/\U<=n/\(∀i,i<U->o i=true)/\(∀i,U<=i->i<n->o i=false)) ?_ ?_ ⟨rfl,lo,U,rfl,g1,g2,g3,g4,by exact HB⟩) ?_)
   ·rintro x c p _ hx ⟨rfl,lo,U,rfl,k1,C,T,k4,k5⟩;dsimp only;by_cases c:lo>=U
    ·rw[AB c];have:lo=U:=by lia
     subst this;exact Ae ⟨rfl,lo,rfl,C,T,k4⟩
    ·rw[AC c];refine Ab<|go (lo+(U-lo) / 2) (by lia) _ ?_;dsimp only;cases t:o (lo+(U-lo) / 2) with
     |true=>
      rw[AB rfl];exact Ae ⟨rfl,lo+(U-lo) / 2+1,U,rfl,by lia,C,λi h5=>mono i _ (by lia) (by lia) t,k4,by lia⟩
     |false=>
      rw[AC (by simp)];refine Ae ⟨rfl,lo,lo+(U-lo) / 2,rfl,by lia,by lia,T,λi h5 h6=>?_,by lia⟩;cases e:o i with|false=>rfl|true=>rw[mono _ i h5 h6 e] at t;cases t
   ·rintro c p ⟨rfl,lo,U,rfl,k1,C,T,k4,k5⟩;have:lo=U:=by lia
    subst this;exact⟨rfl,lo,rfl,C,T,k4⟩
   ·rintro c p ⟨rfl,U,rfl,C,T,k4⟩;exact Ae<|q U C T k4
end
def Rh:Array Keyed->Array Keyed->StateT SortSt Sem (Array Keyed):=sortPriv% PySem.Builtin.mergeLo
def Ri:Array Keyed->Array Keyed->StateT SortSt Sem (Array Keyed):=sortPriv% PySem.Builtin.mergeHi
structure MI(f:Keyed->Int)(la lb fm ra rb:List Keyed):Prop where
 perm:(fm++(ra++rb)).Perm (la++lb)
 so:fm.Pairwise λx y=>f x<=f y
 sa:ra.Pairwise λx y=>f x<=f y
 sb:rb.Pairwise λx y=>f x<=f y
 oa:∀x∈fm,∀y∈ra,f x<=f y
 ob:∀x∈fm,∀y∈rb,f x<=f y
theorem MI.a{f:Keyed->Int}{j l fm seg o U:List Keyed}(h:MI f j l fm (seg++o) U)(hs:∀x∈seg,∀y∈U,f x<=f y):MI f j l (fm++seg) o U:=by
 have g:=AS.mp h.sa;refine⟨?_,AS.mpr ⟨h.so,g.1,λx I y J=>h.oa x I y<|Ap _ J⟩,g.2.1,h.sb,λx I y J=>?_,λx I y J=>?_⟩
 ·have:=h.perm;rw[Ay] at this ⊢;exact this
 ·rcases Aj.mp I with I|I
  ·exact h.oa x I y<|Ai _ J
  ·exact g.2.2 x I y J
 ·rcases Aj.mp I with I|I
  ·exact h.ob x I y J
  ·exact hs x I y J
theorem MI.b{f:Keyed->Int}{l o fm seg U g:List Keyed}(h:MI f l o fm U<|seg++g)(hs:∀x∈seg,∀y∈U,f x<=f y):MI f l o (fm++seg) U g:=by
 have j:=AS.mp h.sb;refine⟨?_,AS.mpr ⟨h.so,j.1,λx I y J=>h.ob x I y<|Ap _ J⟩,h.sa,j.2.1,λx I y J=>?_,λx I y J=>?_⟩
 ·refine List.Perm.trans ?_ h.perm;rw[Ay];exact(Bx fm).mpr (by rw[<-Ay,<-Ay];exact(Bw g).mpr AW)
 ·rcases Aj.mp I with I|I
  ·exact h.oa x I y J
  ·exact hs x I y J
 ·rcases Aj.mp I with I|I
  ·exact h.ob x I y<|Ai _ J
  ·exact j.2.2 x I y J
def kg(f:Keyed->Int)(I J r:List Keyed):Prop:=r.Perm (I++J)/\r.Pairwise λx y=>f x<=f y
theorem MI.ea{f:Keyed->Int}{I J fm U:List Keyed}(h:MI f I J fm U []):kg f I J (fm++U):=⟨by have:=h.perm;rwa[AD] at this,AS.mpr ⟨h.so,h.sa,h.oa⟩⟩
theorem MI.eb{f:Keyed->Int}{g j fm J U:List Keyed}(h:MI f g j fm J U)(hs:∀x∈U,∀y∈J,f x<=f y):kg f g j (fm++U++J):=by
 refine⟨List.Perm.trans ?_ h.perm,?_⟩
 ·rw[Ay];exact(Bx fm).mpr AW
 ·rw[Ay];refine AS.mpr ⟨h.so,AS.mpr ⟨h.sb,h.sa,hs⟩,λx l y I=>?_⟩;rcases Aj.mp I with I|I
  ·exact h.ob x l y I
  ·exact h.oa x l y I
structure MP(f:Keyed->Int)(a b fm:Array Keyed)(ia ib:Nat):Prop where
 mi:MI f a.toList b.toList fm.toList (a.toList.drop ia) (b.toList.drop ib)
 sz:fm.size=ia+ib
 la:ia<=a.size
 lb:ib<=b.size
theorem IZ(a:Array Keyed)(h:i<a.size):a.toList.drop i=a[i]::a.toList.drop (i+1):=by rw[Ck (by simpa using h)];simp
theorem hV(a:Array Keyed)(i j:Nat):(a.extract i j).toList=(a.toList.drop i).take (j-i):=by rw[Array.toList_extract,List.extract_eq_drop_take]
theorem I9(l:List Keyed)(i k:Nat):(l.drop i).take k++l.drop (i+k)=l.drop i:=by rw[<-List.drop_drop,Bh]
theorem pi{a:Array Keyed}{k:Nat}{x:Keyed}(h:x∈(a.toList.drop i).take k):∃j,∃I:i+j<a.size,j<k/\a[i+j]=x:=by
 obtain⟨j,I,e⟩:=BO h;rw[AY,BM] at I;have h1:i+j<a.size:=by have:a.toList.length=a.size:=A8;omega
 refine⟨j,h1,by omega,?_⟩;rw[<-e];simp
theorem iE{a:Array Keyed}{x:Keyed}(h:x∈a.toList.drop i):∃j,∃I:j<a.size,i<=j/\a[j]=x:=by
 obtain⟨j,I,e⟩:=BO h;rw[BM] at I;have h1:i+j<a.size:=by have:a.toList.length=a.size:=A8;omega
 refine⟨i+j,h1,by exact Bi _ _,?_⟩;rw[<-e];simp
theorem d_{f:Keyed->Int}{a:Array Keyed}(s:a.toList.Pairwise λx y=>f x<=f y)(I:i<=j)(J:j<a.size):f (a[i]'(by exact iX))<=f a[j]:=by
 rcases DO I with h|h
 ·have:=CZ.mp s i j (by simpa using (by exact iX:i<a.size)) (by simpa using J) h;simpa using this
 ·subst h;exact Dk _
section
variable {f:Keyed->Int}{a b fm:Array Keyed}{ia ib:Nat}
theorem MP.segA(M:MP f a b fm ia ib){k:Nat}(J:ia+k<=a.size)(h:∀i (hi:ia+i<a.size),i<k->∀j (I:j<b.size),ib<=j->f a[ia+i]<=f b[j]):MP f a b (fm++a.extract ia (ia+k)) (ia+k) ib:=by
 refine⟨?_,?_,J,M.lb⟩
 ·rw[Be,hV,show ia+k-ia=k by omega];refine MI.a (by rw[I9];exact M.mi) λx U y g=>?_;obtain⟨i,hi,h1,rfl⟩:=pi U;obtain⟨j,I,h2,rfl⟩:=iE g;exact h i hi h1 j I h2
 ·rw[BQ,C8,M.sz];lia
theorem MP.segB(M:MP f a b fm ia ib){k:Nat}(J:ib+k<=b.size)(h:∀i (hi:ib+i<b.size),i<k->∀j (I:j<a.size),ia<=j->f b[ib+i]<=f a[j]):MP f a b (fm++b.extract ib (ib+k)) ia (ib+k):=by
 refine⟨?_,?_,M.la,J⟩
 ·rw[Be,hV,show ib+k-ib=k by lia];refine MI.b (by rw[I9];exact M.mi) λx U y g=>?_;obtain⟨i,hi,h1,rfl⟩:=pi U;obtain⟨j,I,h2,rfl⟩:=iE g;exact h i hi h1 j I h2
 ·rw[BQ,C8,M.sz];lia
theorem MP.oneA(M:MP f a b fm ia ib)(hi:ia<a.size)(h:∀j (I:j<b.size),ib<=j->f a[ia]<=f b[j]):MP f a b (fm.push a[ia]) (ia+1) ib:=by refine⟨?_,by rw[Bl,M.sz];simp +arith only,hi,M.lb⟩;rw[Dr];refine MI.a (seg:=[a[ia]]) (by rw[Du,<-IZ a hi];exact M.mi) λx J y U=>?_;obtain⟨j,I,h2,rfl⟩:=iE U;rw[An.mp J];exact h j I h2
theorem MP.oneB(M:MP f a b fm ia ib)(hi:ib<b.size)(h:∀j (I:j<a.size),ia<=j->f b[ib]<=f a[j]):MP f a b (fm.push b[ib]) ia (ib+1):=by refine⟨?_,by rw[Bl,M.sz];exact Nat.add_assoc _ _ _,M.la,hi⟩;rw[Dr];refine MI.b (seg:=[b[ib]]) (by rw[Du,<-IZ b hi];exact M.mi) λx J y U=>?_;obtain⟨j,I,h2,rfl⟩:=iE U;rw[An.mp J];exact h j I h2
theorem MP.done(M:MP f a b fm ia ib)(h:ib=b.size):kg f a.toList b.toList (fm++a.extract ia++b.extract ib).toList:=by have e:b.toList.drop ib=[]:=List.drop_eq_nil_of_le (by rw[A8];lia);have m:=M.mi;rw[e] at m;have:=m.ea;rw[Be,Be,hV,hV,e,List.take_nil,AD,AR (by simp)];exact this
theorem MP.last(M:MP f a b fm ia ib)(h:ia+1=a.size)(I:∀x∈b.toList,f x<f (a[a.size-1]'(by omega))):kg f a.toList b.toList (fm++b.extract ib++a.extract ia).toList:=by
 have:=M.mi.eb λx J y U=>by
  obtain⟨j,g,h2,rfl⟩:=iE U;have e:j=a.size-1:=by omega
  subst e;exact BN<|I x<|CO J
 rw[Be,Be,hV,hV,AR (by simp),AR (by simp)];exact this
end
section
variable {w:World}{κ:SortKind}{Ok:Keyed->Prop}{f:Keyed->Int}
abbrev gY(st:SortSt)(g:Nat):SortSt:=SortSt.mk' (kindOf st) (arrOf st) (pendingOf st) g<|failedOf st
theorem sv{c:Prop}{_:Decidable c}{K:β->StateT SortSt Sem α}{y:β}{Q:α->SortSt->Prop}{st:SortSt}(key:∀z,wpS (model prog w) A E s (K z) Q st):∀x,wpS (model prog w) A E s (if c then K x else K y) Q st:=λx=>by
 by_cases h:c
 ·rw[AB h];exact key x
 ·rw[AC h];exact key y
theorem kH{I:Type}{c:Prop}{_:Decidable c}{K T:β->I->StateT SortSt Sem α}{P:β->I->Prop}{x:β}{i:I}{Q:α->SortSt->Prop}{st:SortSt}(key:∀o j,P o j->wpS (model prog w) A E s (K o j) Q st)(J:¬c->P x i)
 (U:c->(∀o j,P o j->wpS (model prog w) A E s (K o j) Q st)->wpS (model prog w) A E s (T x i) Q st):∀o,x=o->∀j,i=j->wpS (model prog w) A E s (if c then T o j else K o j) Q st:=by
 rintro _ rfl _ rfl;by_cases h:c
 ·rw[AB h];exact U h key
 ·rw[AC h];exact key x i<|J h
theorem xq{c:Prop} [Decidable c]{x y:StateT SortSt Sem α}{Q:α->SortSt->Prop}{st:SortSt}(h:c)(k:wpS M A E s x Q st):wpS M A E s (if c then x else y) Q st:=by rw[AB h];exact k
theorem xc{c:Prop} [Decidable c]{x y:StateT SortSt Sem α}{Q:α->SortSt->Prop}{st:SortSt}(h:¬c)(k:wpS M A E s y Q st):wpS M A E s (if c then x else y) Q st:=by rw[AC h];exact k
theorem fJ{c:Prop} [Decidable c]{x y:StateT SortSt Sem α}{Q:α->SortSt->Prop}{st:SortSt}(h:c->wpS M A E s x Q st)(k:¬c->wpS M A E s y Q st):wpS M A E s (if c then x else y) Q st:=by
 by_cases d:c
 ·rw[AB d];exact h d
 ·rw[AC d];exact k d
theorem yP(O:Ord prog w A s κ Ok f){a b:Array Keyed}{st:SortSt}{Q:Array Keyed->SortSt->Prop}(hk:kindOf st=κ)(cm:∀x∈a.toList,Ok x)(cn:∀x∈b.toList,Ok x)
 (sa:a.toList.Pairwise λx y=>f x<=f y) (sb:b.toList.Pairwise λx y=>f x<=f y) (ha:0<a.size) (hb:0<b.size) (h0:∀x∈a.toList,f b[0]<f x) (hl:∀x∈b.toList,f x<f a[a.size-1])
 (q:∀r g,kg f a.toList b.toList r.toList->Q r (gY st g)):wpS (model prog w) A E s (Rh a b) Q st:=by
 refine Ab<|wpS_lift<|Bt ⟨rfl,?_⟩;refine Ab<|xp (x:=b[0]) (by simp[hb]) ?_;dsimp only;have M0:MP f a b #[b[0]] 0 1:=by have M:MP f a b #[] 0 0:=⟨⟨by simp,by simp,by simpa using sa,by simpa using sb,by simp,by simp⟩,rfl,Bb _,Bb _⟩;have:=M.oneB hb λj hj _=>BN<|h0 a[j] (by simp);simpa using this
 by_cases c1:(1==b.size)=true
 ·refine xq c1 ?_;exact Ae<|q _ (gallopOf st)<|M0.done (by simpa using c1)
 refine xc c1 ?_;by_cases c2:(0+1==a.size)=true
 ·refine xq c2 ?_;exact Ae<|q _ (gallopOf st)<|M0.last (by simpa using c2) hl
 refine xc c2 ?_;have c1:¬1=b.size:=by simpa using c1
 have c2:¬1=a.size:=by simpa using c2
 refine Ab<|wpS_get ?_;have bj:∀i (p:i<a.size),Ok a[i]:=λi p=>cm _ (by simp);have bn:∀i (p:i<b.size),Ok b[i]:=λi p=>cn _ (by simp);have aR:∀i (p:i<a.size),a[i]?=some a[i]:=λi p=>by simp[p]
 have ba:∀i (p:i<b.size),b[i]?=some b[i]:=λi p=>by simp[p]
 obtain⟨tA,cq⟩:∃t:Nat->Keyed,t=λi=>(a[i]?).getD b[0]:=⟨_,rfl⟩;have al:∀i (p:i<a.size),tA i=a[i]:=λi p=>by rw[cq];simp[p]
 have cv:∀i (p:i<a.size),a[i]?=some (tA i):=λi p=>by rw[al i p];exact aR i p
 have cw:∀i (p:i<a.size),Ok (tA i):=λi p=>by rw[al i p];exact bj i p
 have cy:∀{i j},i<=j->j<a.size->f (tA i)<=f (tA j):=λ{i j} a1 hj=>by rw[al i (by exact iX),al j hj];exact d_ sa a1 hj
 obtain⟨tB,cz⟩:∃t:Nat->Keyed,t=λi=>(b[i]?).getD b[0]:=⟨_,rfl⟩;have aL:∀i (p:i<b.size),tB i=b[i]:=λi p=>by rw[cz];simp[p]
 have cP:∀i (p:i<b.size),b[i]?=some (tB i):=λi p=>by rw[aL i p];exact ba i p
 have d0:∀i (p:i<b.size),Ok (tB i):=λi p=>by rw[aL i p];exact bn i p
 have de:∀{i j},i<=j->j<b.size->f (tB i)<=f (tB j):=λ{i j} a1 hj=>by rw[aL i (by exact iX),aL j hj];exact d_ sb a1 hj
 refine Ab (AU (AO (I:=λx c C=>(∃g,C=gY st g)/\∃au l U mg,c=(none,au,l,U,mg)/\MP f a b au l U/\l+1<a.size/\U<b.size/\x+1<=au.size)
  (Q:=λc C=>(∃g,C=gY st g)/\∃r,c.1=some r/\kg f a.toList b.toList r.toList) ?_ ?_ ⟨⟨gallopOf st,rfl⟩,_,_,_,_,rfl,M0,by exact z_,by exact z_,by simp⟩) ?_)
 ·rintro x c C _ hx ⟨⟨g,rfl⟩,au,l,U,mg,rfl,M,a4,T,hs⟩;dsimp only;refine Ab (AU (AO (I:=λy c C=>C=gY st g/\∃J l U ac bc,c=(none,J,l,U,ac,bc)/\MP f a b J l U/\l+1<a.size/\U<b.size/\au.size+y<=J.size)
   (Q:=λc C=>C=gY st g/\((∃r,c.1=some r/\kg f a.toList b.toList r.toList)\/∃J l U ac bc,c=(none,J,l,U,ac,bc)/\MP f a b J l U/\l+1<a.size/\U<b.size/\au.size+1<=J.size)) ?_ ?_ ⟨rfl,_,_,_,_,_,rfl,M,a4,T,Ao _⟩) ?_)
  ·rintro y c C _ hy ⟨rfl,J,l,U,ac,bc,rfl,M,a4,T,ca⟩;have bd:l<a.size:=by exact ix
   dsimp only;refine Ab<|xp (ba U T) ?_;refine Ab<|xp (aR l bd) ?_;refine Ab<|w_lt O hk (bn U T) (bj l bd) ?_;dsimp only;by_cases c:f b[U]<f a[l]
   ·refine xq (AM c) ?_;refine Ab<|xp (ba U T) ?_;have M':=M.oneB T λj hj a1=>BN<|Int.lt_of_lt_of_le c<|d_ sa a1 hj;have s2:(J.push b[U]).size=J.size+1:=Bl _;by_cases e1:(U+1==b.size)=true
    ·refine xq e1 ?_;exact Ae ⟨rfl,.inl ⟨_,rfl,M'.done (by simpa using e1)⟩⟩
    ·refine xc e1 ?_;have e1:¬U+1=b.size:=by simpa using e1
     refine fJ (λ_=>?_) λ_=>?_
     ·exact Ae ⟨rfl,.inr ⟨_,_,_,_,_,rfl,M',a4,by exact z_,by lia⟩⟩
     ·exact Ae ⟨rfl,_,_,_,_,_,rfl,M',a4,by lia,by lia⟩
   ·refine xc (by rw[AE c];decide) ?_;refine Ab<|xp (aR l bd) ?_;have M':=M.oneA (by lia) λj hj a1=>BU (by omega)<|d_ sb a1 hj;have s2:(J.push a[l]).size=J.size+1:=Bl _;by_cases e1:(l+1+1==a.size)=true
    ·refine xq e1 ?_;exact Ae ⟨rfl,.inl ⟨_,rfl,M'.last (by simpa using e1) hl⟩⟩
    ·refine xc e1 ?_;have e1:¬l+1+1=a.size:=by simpa using e1
     refine fJ (λ_=>?_) λ_=>?_
     ·exact Ae ⟨rfl,.inr ⟨_,_,_,_,_,rfl,M',by exact z_,T,by lia⟩⟩
     ·exact Ae ⟨rfl,_,_,_,_,_,rfl,M',by lia,T,by lia⟩
  ·rintro c C ⟨rfl,J,l,U,ac,bc,rfl,M,a4,T,ca⟩;have:=M.sz;omega
  ·rintro c C ⟨rfl,h⟩;rcases h with⟨r,er,hr⟩|⟨bg,l,U,ac,bc,rfl,M,a4,T,ca⟩
   ·obtain⟨c1,c2⟩:=c;cases er;exact Ae ⟨⟨g,rfl⟩,r,rfl,hr⟩
   ·dsimp only;refine Ab<|wpS_lift<|Bt ⟨rfl,?_⟩;refine Ab (AU (AO (I:=λy c C=>(∃g,C=gY st g)/\∃J l U mg ac bc,c=(none,J,l,U,mg,ac,bc)/\MP f a b J l U/\l+1<a.size/\U<b.size/\bg.size+y<=J.size)
     (Q:=λc C=>(∃g,C=gY st g)/\((∃r,c.1=some r/\kg f a.toList b.toList r.toList)\/∃J l U mg ac bc,c=(none,J,l,U,mg,ac,bc)/\MP f a b J l U/\l+1<a.size/\U<b.size/\bg.size<=J.size)) ?_ ?_ ⟨⟨g,rfl⟩,_,_,_,_,_,_,rfl,M,a4,T,Ao _⟩) ?_)
    ·rintro y c C _ hy ⟨⟨g',rfl⟩,J,l,U,bp,ac,bc,rfl,M,a4,T,bh⟩;have bd:l<a.size:=by exact ix
     dsimp only;generalize bp-1=di;revert di;refine sv (y:=bp) λdj=>?_
     all_goals
      refine Ab<|wpS_modify ?_;refine Ab<|xp (ba U T) ?_;refine Ab<|cJ O hk (bn U T) (by lia) (λi=>tA<|l+i) (λi p=>⟨cv _ (by lia),cw _ (by lia)⟩) (λi=>!decide (f b[U]<f (tA<|l+i))) (λi p=>by rw[AC (by simp)]) (λi j a1 hj h=>?_) λk dp bb be=>?_
      ·have:=cy (i:=l+i) (j:=l+j) (by lia) (by lia);simp at h ⊢;lia
      have bb:∀i,i<k->f (tA<|l+i)<=f b[U]:=λi p=>by have:=bb i p;simpa using this
      have be:∀i,k<=i->i<a.size-l->f b[U]<f (tA<|l+i):=λi p hj=>by have:=be i p hj;simpa using this
      have kl:k<a.size-l:=by
       rcases DO dp with h|h
       ·exact h
       ·exfalso;have h1:=bb (a.size-1-l) (by lia);have h2:=hl b[U] (by simp);rw[show l+(a.size-1-l)=a.size-1 by lia,al _ (by exact zB)] at h1;omega
      have M1:MP f a b (J++a.extract l (l+k)) (l+k) U:=M.segA (by lia) λi p bq j hj a1=>by have h1:=bb i bq;rw[al _ p] at h1;exact BU h1<|d_ sb a1 hj
      have pB:∀j (hj:j<a.size),l+k<=j->f b[U]<=f a[j]:=λj hj a1=>by have h1:=be (j-l) (by lia) (by lia);rw[show l+(j-l)=j by lia,al _ hj] at h1;lia
      dsimp only;generalize dv:J=o0;generalize dG:l=j0;revert j0;revert o0;refine kH (P:=λ(o:Array Keyed) (j:Nat)=>MP f a b o j U/\J.size<=o.size/\j+1<a.size/\∀j' (hj:j'<a.size),j<=j'->f b[U]<=f a[j']) (x:=J) (i:=l) (λa5 a3 hP=>?tail) (λck=>?hN) λck key=>?hY
      case hN=>
       obtain rfl:k=0:=by lia
       exact⟨M,Ao _,a4,λj hj a1=>pB j hj (by lia)⟩
      case hY=>
       by_cases e1:(l+k+1==a.size)=true
       ·refine xq e1 ?_;exact Ae ⟨⟨_,rfl⟩,.inl ⟨_,rfl,M1.last (by simpa using e1) hl⟩⟩
       ·refine xc e1 (xc (show ¬(l+k==a.size)=true by simp;lia) ?_);have e1:¬l+k+1=a.size:=by simpa using e1
        exact key _ _ ⟨M1,by rw[BQ];exact Bi _ _,by lia,pB⟩
      clear pB M1 bb be;obtain⟨M1,h3,l3,pB⟩:=hP;have bS:a3<a.size:=by exact ix
      all_goals
       refine Ab<|xp (ba U T) ?_;have M2:=M1.oneB T pB;have s2:(a5.push b[U]).size=a5.size+1:=Bl _;by_cases e2:(U+1==b.size)=true
       case' pos=>
        refine xq e2 ?_;exact Ae ⟨⟨_,rfl⟩,.inl ⟨_,rfl,M2.done (by simpa using e2)⟩⟩
       case' neg=>
        refine xc e2 ?_;have e2:¬U+1=b.size:=by simpa using e2
        refine Ab<|xp (aR a3 bS) ?_;refine Ab<|cJ O hk (bj a3 bS) (by lia) (λi=>tB<|U+1+i) (λi p=>⟨cP _ (by omega),d0 _ (by lia)⟩) (λi=>decide<|f (tB<|U+1+i)<f a[a3]) (λi p=>by rw[AB rfl]) (λi j a1 hj h=>?_) λk2 dH av ax=>?_
        ·have:=de (i:=U+1+i) (j:=U+1+j) (by lia) (by omega);simp at h ⊢;lia
        have av:∀i,i<k2->f (tB<|U+1+i)<f a[a3]:=λi p=>by have:=av i p;simpa using this
        have ax:∀i,k2<=i->i<b.size-(U+1)->f a[a3]<=f (tB<|U+1+i):=λi p hj=>by have:=ax i p hj;simpa using this
        have M3:MP f a b (a5.push b[U]++b.extract (U+1) (U+1+k2)) a3 (U+1+k2):=M2.segB (by omega) λi p bq j hj a1=>by have h1:=av i bq;rw[aL _ p] at h1;exact BU (BN h1)<|d_ sa a1 hj
        have pA:∀j (hj:j<b.size),U+1+k2<=j->f a[a3]<=f b[j]:=λj hj a1=>by have h1:=ax (j-(U+1)) (by lia) (by omega);rw[show U+1+(j-(U+1))=j by lia,aL _ hj] at h1;exact h1
        dsimp only;obtain⟨o3,cb⟩:∃o,o=a5.push b[U]:=⟨_,rfl⟩;obtain⟨bf,cl⟩:∃i,i=U+1:=⟨_,rfl⟩;rw[<-cb] at s2;rw[<-cb,<-cl] at M2 M3 ⊢;rw[<-cl] at pA dH;generalize dv:o3=o0;generalize dG:bf=j0;revert j0;revert o0;refine kH (P:=λ(o:Array Keyed) (j:Nat)=>MP f a b o a3 j/\a5.size+1<=o.size/\j<b.size/\∀j' (hj:j'<b.size),j<=j'->f a[a3]<=f b[j']) (x:=o3) (i:=bf) (λbi e0 hP=>?tail2) (λck=>?hN) λck key=>?hY
        case hN=>
         obtain rfl:k2=0:=by lia
         exact⟨M2,by lia,by lia,λj hj a1=>pA j hj (by lia)⟩
        case hY=>
         by_cases e3:(bf+k2==b.size)=true
         ·refine xq e3 ?_;exact Ae ⟨⟨_,rfl⟩,.inl ⟨_,rfl,M3.done (by simpa using e3)⟩⟩
         ·refine xc e3 ?_;have e3:¬bf+k2=b.size:=by simpa using e3
          exact key _ _ ⟨M3,by rw[BQ];lia,by lia,pA⟩
        clear pA M3 av ax;obtain⟨M3,h4,l4,pA⟩:=hP
        all_goals
         refine Ab<|xp (aR a3 bS) ?_;have M4:=M3.oneA (by lia) pA;have s4:(bi.push a[a3]).size=bi.size+1:=Bl _;by_cases e4:(a3+1+1==a.size)=true
         ·refine xq e4 ?_;exact Ae ⟨⟨_,rfl⟩,.inl ⟨_,rfl,M4.last (by simpa using e4) hl⟩⟩
         ·refine xc e4 ?_;have e4:¬a3+1+1=a.size:=by simpa using e4
          refine fJ (λ_=>?_) λ_=>?_
          ·exact Ae ⟨⟨_,rfl⟩,.inr ⟨_,_,_,_,_,_,rfl,M4,by exact z_,l4,by lia⟩⟩
          ·exact Ae ⟨⟨_,rfl⟩,_,_,_,_,_,_,rfl,M4,by lia,l4,by lia⟩
    ·rintro c C ⟨⟨g',rfl⟩,J,l,U,bp,ac,bc,rfl,M,a4,T,bh⟩;have:=M.sz;omega
    ·rintro c C ⟨⟨g',rfl⟩,h⟩;rcases h with⟨r,er,hr⟩|⟨dV,l,U,dj,ac,bc,rfl,M,a4,T,bh⟩
     ·obtain⟨c1,c2⟩:=c;cases er;exact Ae ⟨⟨g',rfl⟩,r,rfl,hr⟩
     ·dsimp only;refine Ab<|wpS_modify ?_;exact Ae ⟨⟨_,rfl⟩,_,_,_,_,rfl,M,a4,T,by lia⟩
 ·rintro c C ⟨⟨g,rfl⟩,au,l,U,mg,rfl,M,a4,T,hs⟩;have:=M.sz;lia
 ·rintro c C ⟨⟨g,rfl⟩,r,er,hr⟩;obtain⟨c1,c2⟩:=c;cases er;exact Ae<|q r g hr
end
structure MH(f:Keyed->Int)(la lb ra rb o:List Keyed):Prop where
 perm:(ra++rb++o).Perm (la++lb)
 so:o.Pairwise λx y=>f x<=f y
 sa:ra.Pairwise λx y=>f x<=f y
 sb:rb.Pairwise λx y=>f x<=f y
 oa:∀x∈ra,∀y∈o,f x<=f y
 ob:∀x∈rb,∀y∈o,f x<=f y
theorem MH.a{f:Keyed->Int}{l p o seg U g:List Keyed}(h:MH f l p (U++seg) g o)(hs:∀x∈g,∀y∈seg,f x<=f y):MH f l p U g (seg++o):=by
 have j:=AS.mp h.sa;refine⟨List.Perm.trans ?_ h.perm,AS.mpr ⟨j.2.1,h.so,λx J y I=>h.oa x (Ai _ J) y I⟩,j.1,h.sb,λx J y I=>?_,λx J y I=>?_⟩
 ·rw[<-Ay];refine(Bw o).mpr ?_;rw[Ay,Ay];exact(Bx U).mpr AW
 ·rcases Aj.mp I with I|I
  ·exact j.2.2 x J y I
  ·exact h.oa x (Ap _ J) y I
 ·rcases Aj.mp I with I|I
  ·exact hs x J y I
  ·exact h.ob x J y I
theorem MH.b{f:Keyed->Int}{l p o seg U g:List Keyed}(h:MH f l p U (g++seg) o)(hs:∀x∈U,∀y∈seg,f x<=f y):MH f l p U g (seg++o):=by
 have j:=AS.mp h.sb;refine⟨?_,AS.mpr ⟨j.2.1,h.so,λx J y I=>h.ob x (Ai _ J) y I⟩,h.sa,j.1,λx J y I=>?_,λx J y I=>?_⟩
 ·have:=h.perm;rw[<-Ay,Ay U g seg];exact this
 ·rcases Aj.mp I with I|I
  ·exact hs x J y I
  ·exact h.oa x J y I
 ·rcases Aj.mp I with I|I
  ·exact j.2.2 x J y I
  ·exact h.ob x (Ap _ J) y I
theorem MH.ea{f:Keyed->Int}{I J o U:List Keyed}(h:MH f I J [] U o):kg f I J (U++o):=⟨by have:=h.perm;rwa[Cn] at this,AS.mpr ⟨h.sb,h.so,h.ob⟩⟩
theorem MH.eb{f:Keyed->Int}{g j o J U:List Keyed}(h:MH f g j J U o)(hs:∀x∈U,∀y∈J,f x<=f y):kg f g j (U++J++o):=by
 refine⟨List.Perm.trans ?_ h.perm,?_⟩
 ·exact(Bw o).mpr AW
 ·refine AS.mpr ⟨AS.mpr ⟨h.sb,h.sa,hs⟩,h.so,λx I y l=>?_⟩;rcases Aj.mp I with I|I
  ·exact h.ob x I y l
  ·exact h.oa x I y l
structure HP(f:Keyed->Int)(a b fm:Array Keyed)(na nb:Nat):Prop where
 mi:MH f a.toList b.toList (a.toList.take na) (b.toList.take nb) fm.toList.reverse
 sz:fm.size+na+nb=a.size+b.size
 la:na<=a.size
 lb:nb<=b.size
theorem Ja(a:Array Keyed)(h:i<a.size):a.toList.take (i+1)=a.toList.take i++[a[i]]:=by rw[Bo];simp[h]
theorem gx{a:Array Keyed}{x:Keyed}(h:x∈a.toList.take i):∃j,∃I:j<a.size,j<i/\a[j]=x:=by
 obtain⟨j,I,e⟩:=BO h;rw[AY] at I;have h1:j<a.size:=by have:a.toList.length=a.size:=A8;omega
 refine⟨j,h1,by omega,?_⟩;rw[<-e];simp
theorem FC(l:List Keyed){k:Nat}(h:i<=k):l.take i++(l.drop i).take (k-i)=l.take k:=by have:=List.take_add (l:=l) (i:=i) (j:=k-i);rw[show i+(k-i)=k by omega] at this;exact this.symm
section
variable {f:Keyed->Int}{a b fm:Array Keyed}{nb:Nat}
theorem HP.segA(M:HP f a b fm na nb){k:Nat}(J:k<=na)(h:∀i (hi:i<a.size),k<=i->i<na->∀j (I:j<b.size),j<nb->f b[j]<=f a[i]):HP f a b (fm++(a.extract k na).reverse) k nb:=by
 have l:=M.la;refine⟨?_,?_,by exact amp,M.lb⟩
 ·rw[Be,C2,CP,List.reverse_reverse,hV];refine MH.a (by rw[FC _ J];exact M.mi) λx U y g=>?_;obtain⟨j,I,h2,rfl⟩:=gx U;obtain⟨i,hi,h1,rfl⟩:=pi g;exact h (k+i) hi (by exact Bi _ _) (by lia) j I h2
 ·have:=M.sz;rw[BQ,Array.size_reverse,C8];lia
theorem HP.segB(M:HP f a b fm na nb){k:Nat}(J:k<=nb)(h:∀i (hi:i<b.size),k<=i->i<nb->∀j (I:j<a.size),j<na->f a[j]<=f b[i]):HP f a b (fm++(b.extract k nb).reverse) na k:=by
 have l:=M.lb;refine⟨?_,?_,M.la,by lia⟩
 ·rw[Be,C2,CP,List.reverse_reverse,hV];refine MH.b (by rw[FC _ J];exact M.mi) λx U y g=>?_;obtain⟨j,I,h2,rfl⟩:=gx U;obtain⟨i,hi,h1,rfl⟩:=pi g;exact h (k+i) hi (by lia) (by lia) j I h2
 ·have:=M.sz;rw[BQ,Array.size_reverse,C8];lia
theorem HP.oneA(M:HP f a b fm (na+1) nb)(hi:na<a.size)(h:∀j (I:j<b.size),j<nb->f b[j]<=f a[na]):HP f a b (fm.push a[na]) na nb:=by refine⟨?_,by have:=M.sz;rw[Bl];lia,by exact ix,M.lb⟩;rw[Dr,C2];refine MH.a (seg:=[a[na]]) (by rw[<-Ja a hi];exact M.mi) λx J y U=>?_;obtain⟨j,I,h2,rfl⟩:=gx J;rw[An.mp U];exact h j I h2
theorem HP.oneB(M:HP f a b fm na<|nb+1)(hi:nb<b.size)(h:∀j (I:j<a.size),j<na->f a[j]<=f b[nb]):HP f a b (fm.push b[nb]) na nb:=by refine⟨?_,by have:=M.sz;rw[Bl];lia,M.la,by lia⟩;rw[Dr,C2];refine MH.b (seg:=[b[nb]]) (by rw[<-Ja b hi];exact M.mi) λx J y U=>?_;obtain⟨j,I,h2,rfl⟩:=gx J;rw[An.mp U];exact h j I h2
theorem HP.done(M:HP f a b fm na nb)(h:na=0):kg f a.toList b.toList (a.extract 0 na++b.extract 0 nb++fm.reverse).toList:=by subst h;have:=M.mi;rw[List.take_zero] at this;have:=this.ea;rw[Be,Be,hV,hV,CP];simpa using this
theorem HP.last(M:HP f a b fm na nb)(h:nb=1)(U:0<b.size)(h0:∀x∈a.toList,f b[0]<f x):kg f a.toList b.toList (b.extract 0 nb++a.extract 0 na++fm.reverse).toList:=by
 have:=M.mi.eb λx I y J=>by
  obtain⟨j,g,h2,rfl⟩:=gx I;have e:j=0:=by lia
  subst e;exact BN<|h0 y<|BI J
 rw[Be,Be,hV,hV,CP];simpa using this
end
theorem HP.preA{f:Keyed->Int}{a b fm:Array Keyed}{nb:Nat}(M:HP f a b fm na nb)(h0:0<na)(h:∀j (I:j<b.size),j<nb->f b[j]<=f (a[na-1]'(by have:=M.la;omega))):HP f a b (fm.push (a[na-1]'(by have:=M.la;omega))) (na-1) nb:=by obtain⟨n,rfl⟩:∃n,na=n+1:=⟨na-1,by lia⟩;have J:=M.la;exact HP.oneA M (by assumption) h
theorem HP.preB{f:Keyed->Int}{a b fm:Array Keyed}{nb:Nat}(M:HP f a b fm na nb)(h0:0<nb)(h:∀j (I:j<a.size),j<na->f a[j]<=f (b[nb-1]'(by have:=M.lb;omega))):HP f a b (fm.push (b[nb-1]'(by have:=M.lb;lia))) na (nb-1):=by obtain⟨n,rfl⟩:∃n,nb=n+1:=⟨nb-1,by lia⟩;have J:=M.lb;exact HP.oneB M (by lia) h
section
variable {w:World}{κ:SortKind}{Ok:Keyed->Prop}{f:Keyed->Int}
theorem yY(O:Ord prog w A s κ Ok f){a b:Array Keyed}{st:SortSt}{Q:Array Keyed->SortSt->Prop}(hk:kindOf st=κ)(cl:∀x∈a.toList,Ok x)(cm:∀x∈b.toList,Ok x)
 (sa:a.toList.Pairwise λx y=>f x<=f y) (sb:b.toList.Pairwise λx y=>f x<=f y) (ha:0<a.size) (hb:0<b.size) (h0:∀x∈a.toList,f b[0]<f x) (hl:∀x∈b.toList,f x<f a[a.size-1])
 (q:∀r g,kg f a.toList b.toList r.toList->Q r (gY st g)):wpS (model prog w) A E s (Ri a b) Q st:=by
 have bn:∀i (U:i<a.size),Ok a[i]:=λi U=>cl _ (by simp);have bp:∀i (U:i<b.size),Ok b[i]:=λi U=>cm _ (by simp);have aL:∀i (U:i<a.size),a[i]?=some a[i]:=λi U=>by simp[U]
 have ba:∀i (U:i<b.size),b[i]?=some b[i]:=λi U=>by simp[U]
 obtain⟨tA,cq⟩:∃t:Nat->Keyed,t=λi=>(a[i]?).getD b[0]:=⟨_,rfl⟩;have aR:∀i (U:i<a.size),tA i=a[i]:=λi U=>by rw[cq];simp[U]
 have cv:∀i (U:i<a.size),a[0+i]?=some (tA i):=λi U=>by rw[aR i U,DJ];exact aL i U
 have cw:∀i (U:i<a.size),Ok (tA i):=λi U=>by rw[aR i U];exact bn i U
 have cy:∀{i j},i<=j->j<a.size->f (tA i)<=f (tA j):=λ{i j} C hj=>by rw[aR i (by exact iX),aR j hj];exact d_ sa C hj
 obtain⟨tB,cz⟩:∃t:Nat->Keyed,t=λi=>(b[i]?).getD b[0]:=⟨_,rfl⟩;have au:∀i (U:i<b.size),tB i=b[i]:=λi U=>by rw[cz];simp[U]
 have cP:∀i (U:i<b.size),b[0+i]?=some (tB i):=λi U=>by rw[au i U,DJ];exact ba i U
 have d0:∀i (U:i<b.size),Ok (tB i):=λi U=>by rw[au i U];exact bp i U
 have de:∀{i j},i<=j->j<b.size->f (tB i)<=f (tB j):=λ{i j} C hj=>by rw[au i (by exact iX),au j hj];exact d_ sb C hj
 refine Ab<|wpS_lift<|Bt ⟨rfl,?_⟩;refine Ab<|xp (x:=a[a.size-1]) (aL _ (by exact zB)) ?_;dsimp only;obtain⟨n0,e8⟩:∃n,a.size=n+1:=⟨a.size-1,by lia⟩;have M0:HP f a b #[a[a.size-1]] (a.size-1) b.size:=by
  have M:HP f a b #[] (a.size-1+1) b.size:=by
   refine⟨⟨?_,by simp,?_,?_,by simp,by simp⟩,by simp;lia,by exact zB,Ao _⟩
   ·rw[AR (by simp;lia),AR (by simp)];simp
   ·rw[AR (by simp;lia)];exact sa
   ·rw[AR (by simp)];exact sb
  have:=M.oneA (by lia) λj hj _=>BN<|hl b[j] (by simp);simpa using this
 by_cases c1:(a.size-1==0)=true
 ·refine xq c1 ?_;exact Ae<|q _ (gallopOf st)<|M0.done (by simpa using c1)
 refine xc c1 ?_;by_cases c2:(b.size==1)=true
 ·refine xq c2 ?_;exact Ae<|q _ (gallopOf st)<|M0.last (by simpa using c2) hb h0
 refine xc c2 ?_;have c1:¬a.size-1=0:=by simpa using c1
 have c2:¬b.size=1:=by simpa using c2
 refine Ab<|wpS_get ?_;refine Ab (AU (AO (I:=λx c p=>(∃g,p=gY st g)/\∃l nb av mg,c=(none,l,nb,av,mg)/\HP f a b av l nb/\0<l/\1<nb/\x+1<=av.size)
  (Q:=λc p=>(∃g,p=gY st g)/\∃r,c.1=some r/\kg f a.toList b.toList r.toList) ?_ ?_ ⟨⟨gallopOf st,rfl⟩,_,_,_,_,rfl,M0,by exact Et,by lia,by simp⟩) ?_)
 ·rintro x c p _ hx ⟨⟨g,rfl⟩,l,nb,av,mg,rfl,M,a1,a3,hs⟩;dsimp only;refine Ab (AU (AO (I:=λy c p=>p=gY st g/\∃l nb J ac bc,c=(none,l,nb,J,ac,bc)/\HP f a b J l nb/\0<l/\1<nb/\av.size+y<=J.size)
   (Q:=λc p=>p=gY st g/\((∃r,c.1=some r/\kg f a.toList b.toList r.toList)\/∃l nb J ac bc,c=(none,l,nb,J,ac,bc)/\HP f a b J l nb/\0<l/\1<nb/\av.size+1<=J.size)) ?_ ?_ ⟨rfl,_,_,_,_,_,rfl,M,a1,a3,Ao _⟩) ?_)
  ·rintro y c p _ hy ⟨rfl,l,nb,J,ac,bc,rfl,M,a1,a3,bS⟩;have di:=M.la;have dj:=M.lb;have a4:nb-1<b.size:=by omega
   have bb:l-1<a.size:=by lia
   dsimp only;refine Ab<|xp (ba (nb-1) a4) ?_;refine Ab<|xp (aL (l-1) bb) ?_;refine Ab<|w_lt O hk (bp (nb-1) a4) (bn (l-1) bb) ?_;dsimp only;by_cases c:f b[nb-1]<f a[l-1]
   ·refine xq (AM c) ?_;refine Ab<|xp (aL (l-1) bb) ?_;have M':=M.preA a1 λj hj C=>BN<|Int.lt_of_le_of_lt (d_ sb (i:=j) (j:=nb-1) (CQ C) a4) c;have s2:(J.push a[l-1]).size=J.size+1:=Bl _;by_cases e1:(l-1==0)=true
    ·refine xq e1 ?_;exact Ae ⟨rfl,.inl ⟨_,rfl,M'.done (by simpa using e1)⟩⟩
    ·refine xc e1 ?_;have e1:¬l-1=0:=by simpa using e1
     refine fJ (λ_=>?_) λ_=>?_
     ·exact Ae ⟨rfl,.inr ⟨_,_,_,_,_,rfl,M',by exact Et,a3,by lia⟩⟩
     ·exact Ae ⟨rfl,_,_,_,_,_,rfl,M',by lia,a3,by lia⟩
   ·refine xc (by rw[AE c];decide) ?_;refine Ab<|xp (ba (nb-1) a4) ?_;have M':=M.preB (by exact ix) λj hj C=>BU (d_ sa (i:=j) (j:=l-1) (CQ C) bb) (by omega);have s2:(J.push b[nb-1]).size=J.size+1:=Bl _;by_cases e1:(nb-1==1)=true
    ·refine xq e1 ?_;exact Ae ⟨rfl,.inl ⟨_,rfl,M'.last (by simpa using e1) hb h0⟩⟩
    ·refine xc e1 ?_;have e1:¬nb-1=1:=by simpa using e1
     refine fJ (λ_=>?_) λ_=>?_
     ·exact Ae ⟨rfl,.inr ⟨_,_,_,_,_,rfl,M',a1,by lia,by lia⟩⟩
     ·exact Ae ⟨rfl,_,_,_,_,_,rfl,M',a1,by lia,by lia⟩
  ·rintro c p ⟨rfl,l,nb,J,ac,bc,rfl,M,a1,a3,bS⟩;have:=M.sz;omega
  ·rintro c p ⟨rfl,h⟩;rcases h with⟨r,er,hr⟩|⟨l,nb,bh,ac,bc,rfl,M,a1,a3,bS⟩
   ·obtain⟨c1,c2⟩:=c;cases er;exact Ae ⟨⟨g,rfl⟩,r,rfl,hr⟩
   ·dsimp only;refine Ab<|wpS_lift<|Bt ⟨rfl,?_⟩;refine Ab (AU (AO (I:=λy c p=>(∃g,p=gY st g)/\∃l nb J mg ac bc,c=(none,l,nb,J,mg,ac,bc)/\HP f a b J l nb/\0<l/\1<nb/\bh.size+y<=J.size)
     (Q:=λc p=>(∃g,p=gY st g)/\((∃r,c.1=some r/\kg f a.toList b.toList r.toList)\/∃l nb J mg ac bc,c=(none,l,nb,J,mg,ac,bc)/\HP f a b J l nb/\0<l/\1<nb/\bh.size<=J.size)) ?_ ?_ ⟨⟨g,rfl⟩,_,_,_,_,_,_,rfl,M,a1,a3,Ao _⟩) ?_)
    ·rintro y c p _ hy ⟨⟨g',rfl⟩,l,nb,J,bq,ac,bc,rfl,M,a1,a3,bi⟩;have di:=M.la;have dj:=M.lb;have a4:nb-1<b.size:=by omega
     have bb:l-1<a.size:=by lia
     dsimp only;generalize bq-1=dp;revert dp;refine sv (y:=bq) λdv=>?_
     all_goals
      refine Ab<|wpS_modify ?_;refine Ab<|xp (ba (nb-1) a4) ?_;refine Ab<|cJ O hk (bp (nb-1) a4) (by exact zB) tA (λi U=>⟨cv _ (by exact Ek),cw _ (by lia)⟩) (λi=>!decide (f b[nb-1]<f (tA i))) (λi U=>by rw[AC (by simp)]) (λi j C hj h=>?_) λk dG bd be=>?_
      ·have:=cy (i:=i) (j:=j) (by lia) (by exact Ek);simp at h ⊢;lia
      have bd:∀i,i<k->f (tA i)<=f b[nb-1]:=λi U=>by have:=bd i U;simpa using this
      have be:∀i,k<=i->i<l->f b[nb-1]<f (tA i):=λi U hj=>by have:=be i U hj;simpa using this
      have M1:HP f a b (J++(a.extract k l).reverse) k nb:=M.segA dG λi U h1 h2 j hj C=>by have h3:=be i h1 h2;rw[aR _ U] at h3;exact BU (d_ sb (i:=j) (j:=nb-1) (CQ C) a4)<|BN h3
      have pB:∀j (hj:j<a.size),j<k->f a[j]<=f b[nb-1]:=λj hj C=>by have h1:=bd j C;rw[aR _ hj] at h1;exact h1
      dsimp only;generalize ec:l-k=cn;generalize dH:J=o0;generalize dV:l=j0;revert j0;revert o0;refine kH (P:=λ(o:Array Keyed) (j:Nat)=>HP f a b o j nb/\J.size<=o.size/\0<j/\∀j' (hj:j'<a.size),j'<j->f a[j']<=f b[nb-1]) (x:=J) (i:=l) (λa5 T hP=>?tail) (λck=>?hN) λck key=>?hY
      case hN=>
       obtain rfl:k=l:=by lia
       exact⟨M,Ao _,by lia,pB⟩
      case hY=>
       by_cases e1:(k==0)=true
       ·refine xq e1 ?_;exact Ae ⟨⟨_,rfl⟩,.inl ⟨_,rfl,M1.done (by simpa using e1)⟩⟩
       ·refine xc e1 ?_;have e1:¬k=0:=by simpa using e1
        exact key _ _ ⟨M1,by rw[BQ];exact Bi _ _,by exact Et,pB⟩
      clear pB M1 bd be;obtain⟨M1,h3,l3,pB⟩:=hP
      all_goals
       have e6:=M1.la;have bf:T-1<a.size:=by lia
       refine Ab<|xp (ba (nb-1) a4) ?_;have M2:=M1.preB (by exact ix) pB;have s2:(a5.push b[nb-1]).size=a5.size+1:=Bl _;by_cases e2:(nb-1==1)=true
       case' pos=>
        refine xq e2 ?_;exact Ae ⟨⟨_,rfl⟩,.inl ⟨_,rfl,M2.last (by simpa using e2) hb h0⟩⟩
       case' neg=>
        refine xc e2 ?_;have e2:¬nb-1=1:=by simpa using e2
        refine Ab<|xp (aL (T-1) bf) ?_;refine Ab<|cJ O hk (bn (T-1) bf) (by lia) tB (λi U=>⟨cP _ (by exact rp),d0 _ (by lia)⟩) (λi=>decide<|f (tB i)<f a[T-1]) (λi U=>by rw[AB rfl]) (λi j C hj h=>?_) λk2 ca ax al=>?_
        ·have:=de (i:=i) (j:=j) (by lia) (by exact rp);simp at h ⊢;lia
        have ax:∀i,i<k2->f (tB i)<f a[T-1]:=λi U=>by have:=ax i U;simpa using this
        have al:∀i,k2<=i->i<nb-1->f a[T-1]<=f (tB i):=λi U hj=>by have:=al i U hj;simpa using this
        have k1:0<k2:=by
         rcases Nat.eq_zero_or_pos k2 with h|h
         ·exfalso;have h5:=al 0 (by exact uo) (by lia);rw[au _ hb] at h5;have h6:=h0 a[T-1] (by simp);lia
         ·exact h
        have M3:HP f a b (a5.push b[nb-1]++(b.extract k2<|nb-1).reverse) T k2:=M2.segB ca λi U h1 h2 j hj C=>by have h5:=al i h1 h2;rw[au _ U] at h5;exact BU (d_ sa (i:=j) (j:=T-1) (CQ C) bf) h5
        have pA:∀j (hj:j<b.size),j<k2->f b[j]<=f a[T-1]:=λj hj C=>by have h5:=ax j C;rw[au _ hj] at h5;exact BN h5
        dsimp only;generalize e0:nb-1-k2=ed;obtain⟨o3,e5⟩:∃o,o=a5.push b[nb-1]:=⟨_,rfl⟩;obtain⟨bg,cb⟩:∃i,i=nb-1:=⟨_,rfl⟩;have eb:b[nb-1]=b[bg]'(by lia):=by subst cb;rfl
        rw[<-e5] at s2 M2 M3 ⊢;rw[<-cb] at M2 M3 e0 ca ⊢;generalize dH:o3=o0;generalize dV:bg=j0;revert j0;revert o0;refine kH (P:=λ(o:Array Keyed) (j:Nat)=>HP f a b o T j/\a5.size+1<=o.size/\1<j/\∀j' (hj:j'<b.size),j'<j->f b[j']<=f a[T-1]) (x:=o3) (i:=bg) (λbj ee hP=>?tail2) (λck=>?hN) λck key=>?hY
        case hN=>
         obtain rfl:k2=bg:=by lia
         exact⟨M2,by lia,by lia,pA⟩
        case hY=>
         by_cases e3:(k2==1)=true
         ·refine xq e3 ?_;exact Ae ⟨⟨_,rfl⟩,.inl ⟨_,rfl,M3.last (by simpa using e3) hb h0⟩⟩
         ·refine xc e3 (xc (show ¬(k2==0)=true by simp;exact NR) ?_);have e3:¬k2=1:=by simpa using e3
          exact key _ _ ⟨M3,by rw[BQ];lia,by lia,pA⟩
        clear pA M3 ax al;obtain⟨M3,h4,l4,pA⟩:=hP
        all_goals
         refine Ab<|xp (aL (T-1) bf) ?_;have M4:=M3.preA l3 pA;have s4:(bj.push a[T-1]).size=bj.size+1:=Bl _;by_cases e4:(T-1==0)=true
         ·refine xq e4 ?_;exact Ae ⟨⟨_,rfl⟩,.inl ⟨_,rfl,M4.done (by simpa using e4)⟩⟩
         ·refine xc e4 ?_;have e4:¬T-1=0:=by simpa using e4
          refine fJ (λ_=>?_) λ_=>?_
          ·exact Ae ⟨⟨_,rfl⟩,.inr ⟨_,_,_,_,_,_,rfl,M4,by exact Et,l4,by lia⟩⟩
          ·exact Ae ⟨⟨_,rfl⟩,_,_,_,_,_,_,rfl,M4,by lia,l4,by lia⟩
    ·rintro c p ⟨⟨g',rfl⟩,l,nb,J,bq,ac,bc,rfl,M,a1,a3,bi⟩;have:=M.sz;omega
    ·rintro c p ⟨⟨g',rfl⟩,h⟩;rcases h with⟨r,er,hr⟩|⟨l,nb,e7,dv,ac,bc,rfl,M,a1,a3,bi⟩
     ·obtain⟨c1,c2⟩:=c;cases er;exact Ae ⟨⟨g',rfl⟩,r,rfl,hr⟩
     ·dsimp only;refine Ab<|wpS_modify ?_;exact Ae ⟨⟨_,rfl⟩,_,_,_,_,rfl,M,a1,a3,by lia⟩
 ·rintro c p ⟨⟨g,rfl⟩,l,nb,av,mg,rfl,M,a1,a3,hs⟩;have:=M.sz;lia
 ·rintro c p ⟨⟨g,rfl⟩,r,er,hr⟩;obtain⟨c1,c2⟩:=c;cases er;exact Ae<|q r g hr
end
theorem Rj{σ:Type}{st I:σ}{Q:PUnit->σ->Prop}(h:Q ⟨⟩ I):wpS M A E s (set I:StateT σ Sem PUnit) Q st:=by unfold wpS;rw[StateT.run_set];exact Ah ⟨rfl,h⟩
theorem mU{α:Type}:∀(m:List α) (arr:Array α) (i k:Nat),i+k+m.length<=arr.size->((m.zipIdx k).foldl (λ(a:Array α) (I:α×Nat)=>a.setIfInBounds (i+I.2) I.1) arr).toList=arr.toList.take (i+k)++(m++arr.toList.drop (i+k+m.length))
 |[],arr,i,k,h=>by simp
 |x::m,arr,i,k,h=>by
  rw[Ed,List.foldl_cons];simp only[AJ] at h;rw[mU m _ i (k+1) (by simp;lia)];have e:(arr.setIfInBounds (i+k) x).toList=arr.toList.set (i+k) x:=by simp
  have l:arr.toList.length=arr.size:=A8;rw[e,List.drop_set,AB (by exact Bi _ _),<-Nat.add_assoc,Bo,BX (by lia),List.take_set_of_le (by simp +arith only),AJ];simp;congr 1;simp +arith only
section
variable {w:World}{κ:SortKind}{Ok:Keyed->Prop}{f:Keyed->Int}
theorem sJ{l:List Keyed}(s:l.Pairwise λx y=>f x<=f y)(I:i<=j)(J:j<l.length):f (l[i]'(by exact iX))<=f l[j]:=by
 rcases DO I with h|h
 ·exact CZ.mp s i j (by exact iX) J h
 ·subst h;exact Dk _
theorem Gv{l:List Keyed}{x:Keyed}(h:x∈l):∃i,∃hi:i<l.length,l[i]=x:=BO h
theorem Gw{l:List Keyed}{x:Keyed}(h:x∈l.take m):∃i,∃hi:i<l.length,i<m/\l[i]=x:=by obtain⟨i,hi,rfl⟩:=BO h;rw[AY] at hi;exact⟨i,by lia,by lia,BH.symm⟩
theorem FD{l:List Keyed}{x:Keyed}{k:Nat}(h:x∈l.drop k):∃i,∃hi:i<l.length,k<=i/\l[i]=x:=by obtain⟨i,hi,rfl⟩:=BO h;rw[BM] at hi;exact⟨k+i,by lia,Bi _ _,DV.symm⟩
theorem Rk(O:Ord prog w A s κ Ok f){st:SortSt}{X Y:List Keyed}{w1 w2:Nat}{Q:Bool->SortSt->Prop}(hk:kindOf st=κ)(hf:failedOf st=none)(hp:pendingOf st=#[(0,X.length,w1),(X.length,Y.length,w2)])(ea:(arrOf st).toList=X++Y)(ok:∀x∈X++Y,Ok x)
 (lX:0<X.length) (lY:0<Y.length) (sX:X.Pairwise λx y=>f x<=f y) (sY:Y.Pairwise λx y=>f x<=f y) (q:∀T,failedOf T=none->(pendingOf T).size=1->(arrOf T).toList.Perm (X++Y)->((arrOf T).toList.Pairwise λx y=>f x<=f y)->Q true T):wpS (model prog w) A E s (mergeAt' 0) Q st:=by
 have a1:(pendingOf st)[0]?=some (0,X.length,w1):=by rw[hp];rfl
 have a2:(pendingOf st)[0+1]?=some (X.length,Y.length,w2):=by rw[hp];rfl
 have a3:(((pendingOf st).setIfInBounds 0 (0,X.length+Y.length,w1)).eraseIdxIfInBounds<|0+1).size=1:=by simp[hp]
 refine Ab<|wpS_get ?_;rw[show(sortPriv% PySem.Builtin.SortState.pending) st=pendingOf st from rfl,a1,a2];dsimp only;refine Ab<|Rj ?_;generalize ((pendingOf st).setIfInBounds 0 (0,X.length+Y.length,w1)).eraseIdxIfInBounds (0+1)=pn at a3 ⊢;have ax:∀i (I:i<X.length),(arrOf st)[i]?=some X[i]:=λi I=>by rw[<-Bg,ea,AF I];simp
 have aL:∀i (I:i<Y.length),(arrOf st)[X.length+i]?=some Y[i]:=λi I=>by rw[<-Bg,ea,Av<|Bi _ _,B9];simp
 have al:∀x∈X,Ok x:=λx l=>ok x<|Ap _ l;have au:∀x∈Y,Ok x:=λx l=>ok x<|Ai _ l;obtain⟨tX,aR⟩:∃t:Nat->Keyed,t=λi=>(X[i]?).getD X[0]:=⟨_,rfl⟩;have p:∀i (I:i<X.length),tX i=X[i]:=λi I=>by rw[aR];simp[I]
 obtain⟨tY,ba⟩:∃t:Nat->Keyed,t=λi=>(Y[i]?).getD X[0]:=⟨_,rfl⟩;have C:∀i (I:i<Y.length),tY i=Y[i]:=λi I=>by rw[ba];simp[I]
 refine Ab<|xp (x:=Y[0]) (aL 0 lY) ?_;refine Ab (cJ O hk (au _<|Cw _) lX tX (λi I=>⟨by rw[p i I,DJ];exact ax i I,by rw[p i I];exact al _<|Cw _⟩) (λi=>!decide (f Y[0]<f (tX i))) (λi I=>by rw[AC (by simp)]) (λi j av J h=>?_) λk bb a5 ac=>?_)
 ·have:=sJ sX av J;rw[p j J] at h;rw[p i (by exact iX)];simp at h ⊢;omega
 have a5:∀i (I:i<k),f (X[i]'(by exact Ek))<=f Y[0]:=λi I=>by have:=a5 i I;rw[p i (by lia)] at this;simpa using this
 have ac:∀i (J:i<X.length),k<=i->f Y[0]<f X[i]:=λi J I=>by have:=ac i I J;rw[p i J] at this;simpa using this
 dsimp only;rw[DJ];by_cases c:(X.length-k==0)=true
 ·rw[AB c];have c:X.length-k=0:=by simpa using c
  refine Ae (q _ hf a3 (by show(arrOf st).toList.Perm _;rw[ea]) (by show(arrOf st).toList.Pairwise _;rw[ea];refine AS.mpr ⟨sX,sY,λx l y hy=>?_⟩;obtain⟨i,I,rfl⟩:=Gv l;obtain⟨j,J,rfl⟩:=Gv hy;exact BU (a5 i (by lia))<|sJ sY (Bb _) J))
 rw[AC c];have c:k<X.length:=by
  have:¬X.length-k=0:=by simpa using c
  lia
 refine Ab (xp (x:=X[X.length-1]) (by rw[show k+(X.length-k)-1=X.length-1 by lia];exact ax _ (by lia)) ?_);refine Ab (cJ O hk (al _<|Cw _) (by lia) tY (λi I=>⟨by rw[C i I];exact aL i I,by rw[C i I];exact au _<|Cw _⟩) (λi=>decide<|f (tY i)<f X[X.length-1]) (λi I=>by rw[AB rfl]) (λi j av J h=>?_) λm bc a4 o=>?_)
 ·have:=sJ sY av J;rw[C j J] at h;rw[C i (by exact iX)];simp at h ⊢;omega
 have a4:∀i (I:i<m),f (Y[i]'(by exact Ek))<f X[X.length-1]:=λi I=>by have:=a4 i I;rw[C i (by lia)] at this;simpa using this
 have o:∀i (J:i<Y.length),m<=i->f X[X.length-1]<=f Y[i]:=λi J I=>by have:=o i I J;rw[C i J] at this;simpa using this
 have m0:0<m:=Nat.pos_of_ne_zero λh=>by have h5:=o 0 lY (by lia);have h6:=ac (X.length-1) (by lia) (by lia);omega
 dsimp only;rw[AC (show ¬(m==0)=true by simp;lia)];have ex:((arrOf st).extract k X.length).toList=X.drop k:=by rw[hV,ea,List.drop_append_of_le_length (by lia),Dz (by simp),AR (by simp)]
 have ey:((arrOf st).extract X.length<|X.length+m).toList=Y.take m:=by rw[hV,ea,List.drop_left,B9]
 have x8:∀(r:Array Keyed) (g:Nat),kg f (X.drop k) (Y.take m) r.toList->Q (failedOf st).isNone (SortSt.mk' (kindOf st) (r.toList.zipIdx.foldl (λa x=>a.setIfInBounds (k+x.2) x.1)<|arrOf st) pn g<|failedOf st):=by
  rintro r g ⟨hm,hs⟩;have lr:r.toList.length=X.length-k+m:=by rw[hm.length_eq];simp;lia
  have pt:=mU r.toList (arrOf st) k 0 (by rw[lr,<-A8,ea,Ad];lia);rw[ea,lr,Nat.add_zero,show k+(X.length-k+m)=X.length+m by lia,Dz (by lia),List.drop_length_add_append] at pt;rw[hf];refine q _ rfl a3 ((Eo pt).trans ?_)<|Eq.subst (motive:=List.Pairwise λx y=>f x<=f y) pt.symm ?_
  ·have h1:=(Bx<|X.take k).mpr<|(Bw<|Y.drop m).mpr hm;rwa[Ay<|X.drop k,Bh,<-Ay (X.take k) (X.drop k),Bh] at h1
  ·refine AS.mpr ⟨sX.sublist<|DS _ _,AS.mpr ⟨hs,sY.sublist<|List.drop_sublist _ _,λx l y hy=>?_⟩,λx l y hy=>?_⟩
   ·obtain⟨j,J,h2,rfl⟩:=FD hy;rcases Aj.mp (hm.mem_iff.mp l) with h|h
    ·obtain⟨i,I,_,rfl⟩:=FD h;exact BU (sJ sX (by lia) (by lia))<|o j J h2
    ·obtain⟨i,I,h1,rfl⟩:=Gw h;exact sJ sY (by lia) J
   ·obtain⟨i,I,h1,rfl⟩:=Gw l;have low:∀z∈Y,f X[i]<=f z:=λz hz=>by obtain⟨j,J,rfl⟩:=Gv hz;exact BU (a5 i h1) (sJ sY (Bb _) J)
    rcases Aj.mp hy with h|h
    ·rcases Aj.mp (hm.mem_iff.mp h) with h|h
     ·obtain⟨j,J,h2,rfl⟩:=FD h;exact sJ sX (by lia) J
     ·exact low y<|BI h
    ·exact low y<|CO h
 generalize (arrOf st).extract k X.length=U at ex ⊢;generalize (arrOf st).extract X.length (X.length+m)=V at ey ⊢;have zU:U.size=X.length-k:=by rw[<-A8,ex];simp
 have zV:V.size=m:=by rw[<-A8,ey];simp;lia
 have q5:0<U.size:=by lia
 have q6:0<V.size:=by lia
 have v0:V[0]=Y[0]:=by
  have:V.toList[0]?=(Y.take m)[0]?:=by rw[ey]
  rw[Bg,C9,AB m0] at this;simpa[q6,lY] using this
 have ul:U[U.size-1]=X[X.length-1]:=by
  have:U.toList[U.size-1]?=(X.drop k)[U.size-1]?:=by rw[ex]
  rw[Bg,De,show k+(U.size-1)=X.length-1 by lia] at this;rw[Array.getElem?_eq_getElem (by lia),Al (by lia)] at this;exact Bc this
 have q1:∀x∈U.toList,Ok x:=λx l=>al x (CO (by rw[ex] at l;exact l));have q2:∀x∈V.toList,Ok x:=λx l=>au x (BI (by rw[ey] at l;exact l));have q3:U.toList.Pairwise λx y=>f x<=f y:=by rw[ex];exact sX.sublist<|List.drop_sublist _ _
 have q4:V.toList.Pairwise λx y=>f x<=f y:=by rw[ey];exact sY.sublist<|DS _ _
 have q7:∀x∈U.toList,f V[0]<f x:=λx l=>by rw[v0];rw[ex] at l;obtain⟨i,I,h1,rfl⟩:=FD l;exact ac i I h1
 have q8:∀x∈V.toList,f x<f U[U.size-1]:=λx l=>by rw[ul];rw[ey] at l;obtain⟨i,I,h1,rfl⟩:=Gw l;exact a4 i h1
 rw[<-ex,<-ey] at x8;split
 ·exact Ab<|yP O hk q1 q2 q3 q4 q5 q6 q7 q8 λr g h=>Ab<|wpS_modify<|Ab<|wpS_get<|Ae<|x8 r g h
 ·exact Ab<|yY O hk q1 q2 q3 q4 q5 q6 q7 q8 λr g h=>Ab<|wpS_modify<|Ab<|wpS_get<|Ae<|x8 r g h
end
theorem jI{arr:Array α}{P R:List α}(h:arr.toList=P++R)(I:n<=R.length):(mirror arr P.length (P.length+n)<|(P.length+n-P.length) / 2).toList=P++((R.take n).reverse++R.drop n):=by
 have J:arr.size=P.length+R.length:=by rw[<-A8,h];simp
 refine Ds λk=>?_;rw[Bg,getElem?_mirror_all (by lia)];by_cases c:P.length<=k/\k<P.length+n
 ·rw[AB c,<-Bg,h,Av (by omega),Av (by lia),AF (by simp;omega),List.getElem?_reverse (by simp;omega),C9,AY,AB (by omega)];congr 1;lia
 ·rw[AC c,<-Bg,h];by_cases c2:k<P.length
  ·rw[AF c2,AF c2]
  ·rw[Av (by exact yq),Av (by omega),Av (by simp;lia),De];congr 1;simp;lia
theorem tS{arr:Array α}{P R:List α}{k l:Nat}(h:arr.toList=P++R)(I:k<R.length)(J:l<=k):(bubble arr (P.length+k)<|P.length+k-(P.length+l)).toList=P++(R.take l++R[k]::((R.drop l).take (k-l)++R.drop (k+1))):=by
 have U:arr.size=P.length+R.length:=by rw[<-A8,h];simp
 refine Ds λi=>?_;rw[Bg,getElem?_bubble (by lia) _ (by exact Eu _ _),show P.length+k-(P.length+k-(P.length+l))=P.length+l by omega];by_cases c1:i=P.length+l
 ·rw[AB c1,<-Bg,h,c1,Av (by exact Bi _ _),Av (by exact Bi _ _),Av (by simp;lia)];rw[show P.length+l-P.length-(R.take l).length=0 by simp;lia,show P.length+k-P.length=k by lia,List.getElem?_cons_zero];simp[I]
 ·rw[AC c1];by_cases c2:P.length+l<i/\i<=P.length+k
  ·rw[AB c2,<-Bg,h,Av (by omega),Av (by lia),Av (by simp;lia)];obtain⟨d,hd⟩:∃d,i=P.length+l+d+1:=⟨i-P.length-l-1,by omega⟩;rw[show i-P.length-(R.take l).length=d+1 by simp;lia,Dh,AF (by simp;omega),C9,AB (by omega),De];congr 1;omega
  ·rw[AC c2,<-Bg,h];by_cases c3:i<P.length
   ·rw[AF c3,AF c3]
   ·rw[Av (by exact yq),Av (by omega)];by_cases c4:i<P.length+l
    ·rw[AF (by simp;lia),C9,AB (by omega)]
    ·obtain⟨d,hd⟩:∃d,i=P.length+k+d+1:=⟨i-P.length-k-1,by omega⟩;rw[Av (by simp;lia),show i-P.length-(R.take l).length=(k-l)+d+1 by simp;lia,Dh,Av (by simp;omega),De];congr 1;simp;lia
section
variable {w:World}{κ:SortKind}{Ok:Keyed->Prop}{f:Keyed->Int}
structure Tl(κ:SortKind)(Ok:Keyed->Prop)(st:SortSt)(P R:List Keyed):Prop where
 kind:kindOf st=κ
 arr:(arrOf st).toList=P++R
 ok:∀x∈R,Ok x
theorem i9(O:Ord prog w A s κ Ok f){st:SortSt}{P R:List Keyed}(T:Tl κ Ok st P R)(hi:i<R.length)(I:j<R.length){a b:Nat}(ea:a=P.length+i)(eb:b=P.length+j){Q:Option Bool->SortSt->Prop}(q:Q (some<|decide<|f R[i]<f R[j]) st):wpS (model prog w) A E s (ltAt' a b) Q st:=by
 have at_:∀i (hi:i<R.length),(arrOf st)[P.length+i]?=some R[i]:=λi hi=>by rw[<-Bg,T.arr,Av (by exact Bi _ _),B9];simp
 subst ea eb;rw[ltAt'_eq];refine Ab<|wpS_get ?_;refine Ab<|xp (at_ i hi)<|Ab<|xp (at_ j I) ?_;exact w_lt O T.kind (T.ok _<|Cw _) (T.ok _<|Cw _) q
def Up(f:Keyed->Int)(R:List Keyed)(n:Nat):Prop:=∀i j (_:i<=j) (_:j<R.length),j<n->f (R[i]'(by exact iX))<=f R[j]
theorem Up.snoc{R:List Keyed}(h:Up f R n)(h1:1<=n)(g:n<R.length)(hs:f (R[n-1]'(by exact rD))<=f R[n]):Up f R (n+1):=λi j I J U=>by
 rcases DK j n with c|c
 ·exact h i j I J c
 ·have e:j=n:=by lia
  subst e;rcases DK i j with c2|c2
  ·exact BU (h i (j-1) (by omega) (by exact rD) (by exact zB)) hs
  ·have e:i=j:=by lia
   subst e;exact Dk _
theorem Up.pair{R:List Keyed}(h:Up f R n)(g:n<=R.length):(R.take n).Pairwise λx y=>f x<=f y:=by rw[CZ];intro i j I J U;rw[AY] at I J;rw[BH,BH];exact h i j (by exact ix) (by lia) (by lia)
end
section
variable {w:World}{κ:SortKind}{Ok:Keyed->Prop}{f:Keyed->Int}
theorem Tl.same{st:SortSt}{P R R':List Keyed}(T:Tl κ Ok st P R)(p:R'.Perm R){arr:Array Keyed}(h:arr.toList=P++R'):Tl κ Ok (setArr st arr) P R':=⟨T.kind,h,λx I=>T.ok x<|p.mem_iff.mp I⟩
theorem Up.one{R:List Keyed}:Up f R 1:=λi j I J h=>by
 have:i=j:=by lia
 subst this;exact Dk _
theorem iZ{c:Prop}{_:Decidable c}{K T:StateT SortSt Sem α}{P:SortSt->Prop}{Q:α->SortSt->Prop}{st:SortSt}(J:¬c->P st)(key:∀I,P I->wpS (model prog w) A E s K Q I)
 (U:c->(∀I,P I->wpS (model prog w) A E s K Q I)->wpS (model prog w) A E s T Q st):wpS (model prog w) A E s (if c then T else K) Q st:=by
 by_cases h:c
 ·rw[AB h];exact U h key
 ·rw[AC h];exact key st<|J h
def fk(f:Keyed->Int)(R:List Keyed)(n:Nat):Prop:=∀i j (_:i<=j) (_:j<R.length),j<n->f R[j]<=f (R[i]'(by exact iX))
theorem Jb{R R':List Keyed}(e:R'.map f=R.map f)(h1:i<R'.length)(h2:i<R.length):f R'[i]=f R[i]:=by
 have:(R'.map f)[i]?=(R.map f)[i]?:=by rw[e]
 rw[Aq,Aq,Al h1,Al h2] at this;exact Bc this
theorem fk.same{R R':List Keyed}(D:fk f R n)(e:R'.map f=R.map f):fk f R' n:=λi j I U J=>by
 have l:R'.length=R.length:=by have:=BF List.length e;rwa[Ag,Ag] at this
 rw[Jb e U (by lia),Jb e (by lia) (by lia)];exact D i j I (by lia) J
theorem fk.snoc{R:List Keyed}(h:fk f R n)(h1:1<=n)(g:n<R.length)(hs:f R[n]<=f (R[n-1]'(by exact rD))):fk f R (n+1):=λi j I J U=>by
 rcases DK j n with c|c
 ·exact h i j I J c
 ·have e:j=n:=by lia
  subst e;rcases DK i j with c2|c2
  ·exact BU hs<|h i (j-1) (by omega) (by exact rD) (by exact zB)
  ·have e:i=j:=by lia
   subst e;exact Dk _
theorem lO{arr:Array Keyed}{P R:List Keyed}{a b:Nat}{v:Int}(h:arr.toList=P++R)(U:a<=b)(l:b<=R.length)(g:∀i (_:i<R.length),a<=i->i<b->f R[i]=v):
 ∃R',(mirror arr (P.length+a) (P.length+b)<|(P.length+b-(P.length+a)) / 2).toList=P++R'/\R'.Perm R/\R'.map f=R.map f:=by
 have j:(P++R.take a).length=P.length+a:=by simp;lia
 have I:R=R.take a++((R.drop a).take (b-a)++(R.drop a).drop (b-a)):=by rw[Bh,Bh]
 have m:=jI (P:=P++R.take a) (R:=R.drop a) (n:=b-a) (by rw[h,Ay,Bh]) (by simp;lia);rw[j,show P.length+a+(b-a)=P.length+b by lia,Ay] at m;refine⟨_,m,?_,?_⟩
 ·refine List.Perm.trans ?_<|Eo I.symm;exact(Bx _).mpr ((Bw _).mpr<|DW _)
 ·have r:((R.drop a).take<|b-a).map f=List.replicate (b-a) v:=by refine List.ext_getElem (by simp;lia) λi h1 h2=>?_;rw[List.getElem_map,BH,DV,List.getElem_replicate];rw[Cj] at h2;exact g _ _ (by lia) (by lia)
  have J:=BF (List.map f) I;rw[AI,AI,r] at J;rw[AI,AI,List.map_reverse,r,List.reverse_replicate,J]
theorem Rl(O:Ord prog w A s κ Ok f){st:SortSt}{P R:List Keyed}(T:Tl κ Ok st P R)(h1:1<=R.length){Q:Option Nat->SortSt->Prop}
 (q:∀n R' arr,1<=n->n<=R.length->R'.Perm R->arr.toList=P++R'->Up f R' n->Q (some n) (setArr st arr)):wpS (model prog w) A E s (countRun' P.length R.length) Q st:=by
 have ba:setArr st (arrOf st)=st:=rfl;refine Ab (AU (AO (I:=λx c g=>g=st/\c=(none,x)/\Up f R x)
  (Q:=λc g=>g=st/\∃n,c=(none,n)/\1<=n/\n<=R.length/\Up f R n/\(n=R.length\/∃h:n<R.length,f R[n]<f (R[n-1]'(by exact rD)))) ?_ ?_ ⟨rfl,rfl,Up.one⟩) ?_)
 ·rintro x c g t hx ⟨rfl,rfl,U⟩;dsimp only;refine Ab<|i9 O T (i:=x) (j:=x-1) hx (by exact rD) rfl (by lia) ?_;dsimp only;by_cases c:f R[x]<f (R[x-1]'(by omega))
  ·rw[AM c,AB rfl];exact Ae ⟨rfl,x,rfl,t,by exact ix,U,.inr ⟨hx,c⟩⟩
  ·rw[AE c,AC (by simp)];exact Ae ⟨rfl,rfl,U.snoc t hx (by omega)⟩
 ·rintro c g ⟨rfl,rfl,U⟩;exact⟨rfl,_,rfl,by lia,by lia,by rw[Cd h1] at *;exact U,.inl (by lia)⟩
 ·rintro c g ⟨rfl,n,rfl,a3,a4,U,ac⟩;dsimp only;by_cases c1:(n==R.length)=true
  ·rw[AB c1];exact Ae<|q n R (arrOf g) a3 a4 (Ci _) T.arr U
  rw[AC c1];have c1:¬n=R.length:=by simpa using c1
  have au:n<R.length:=by exact z_
  have hd:f R[n]<f (R[n-1]'(by omega)):=by
   rcases ac with h|⟨h,h'⟩
   ·exact absurd h c1
   ·exact h'
  refine iZ (P:=λo=>∃arr R',o=setArr g arr/\arr.toList=P++R'/\R'.Perm R/\fk f R' (n+1)) (λc2=>⟨arrOf g,R,rfl,T.arr,Ci _,?_⟩) ?_ λc2 key=>?_
  ·obtain rfl:n=1:=by lia
   exact fk.snoc (λi j av hj a5=>by (have e:i=j:=by lia);(subst e;exact Dk _)) (Ao _) au<|BN hd
  rotate_left
  ·refine Ab<|i9 O T (i:=0) (j:=n-1) (by assumption) (by exact rD) rfl (by omega) ?_;dsimp only;by_cases c3:f R[0]<f (R[n-1]'(by omega))
   ·rw[AM c3,AB rfl];exact Ae<|q n R (arrOf g) a3 a4 (Ci _) T.arr U
   rw[AE c3,AC (by simp)];have al:∀i (_:i<R.length),0<=i->i<n->f R[i]=f R[0]:=λi hi _ aR=>by have a1:=U 0 i (Bb _) hi aR;have a2:=U i (n-1) (by lia) (by lia) (by lia);lia
   obtain⟨R',m1,m2,m3⟩:=lO (f:=f) T.arr (Bb n) a4 al;refine Ab<|wpS_modify<|key _ ⟨_,R',rfl,m1,m2,fk.same (fk.snoc (λi j av hj a5=>?_) a3 au<|BN hd) m3⟩;rw[al j hj (Bb _) a5,al i (by lia) (Bb _) (by lia)];exact Dk _
  rintro _ ⟨arr,R0,rfl,r,ax,D0⟩;refine Ab<|wpS_lift<|Bt ⟨rfl,?_⟩;have l0:R0.length=R.length:=ax.length_eq;refine Ab (AU (AO (I:=λx c o=>∃J arr R',c=(none,x,J)/\o=setArr g arr/\arr.toList=P++R'/\R'.Perm R/\fk f R' x/\J+1<=x/\∃v,∀i (_:i<R'.length),x-(J+1)<=i->i<x->f R'[i]=v)
   (Q:=λc o=>∃n J arr R',c=(none,n,J)/\o=setArr g arr/\arr.toList=P++R'/\R'.Perm R/\fk f R' n/\J+1<=n/\n<=R.length/\∃v,∀i (_:i<R'.length),n-(J+1)<=i->i<n->f R'[i]=v) ?_ ?_ ⟨0,arr,R0,rfl,rfl,r,ax,D0,by lia,f<|R0[n]'(by lia),λi hi h2 h3=>by (have e:i=n:=by lia);(subst e;rfl)⟩) ?_)
  ·rintro x c o t hx ⟨J,arr,p,rfl,rfl,r,l,D,hq,v,C⟩;have l1:p.length=R.length:=l.length_eq;have T1:=T.same l r;dsimp only;refine Ab<|i9 O T1 (i:=x) (j:=x-1) (by lia) (by lia) rfl (by lia) ?_;dsimp only;by_cases c:f (p[x]'(by lia))<f (p[x-1]'(by omega))
   ·rw[AM c,AB rfl];refine iZ (P:=λo=>∃arr R',o=setArr g arr/\arr.toList=P++R'/\R'.Perm R/\fk f R' (x+1)) (λ_=>⟨arr,p,rfl,r,l,D.snoc (by lia) (by lia)<|BN c⟩) ?_ λc2 key=>?_
    ·rintro _ ⟨arr,R',rfl,r,l,D⟩;exact Ae ⟨0,arr,R',rfl,rfl,r,l,D,by lia,f (R'[x]'(by have:=l.length_eq;lia)),λi hi h2 h3=>by (have e:i=x:=by lia);(subst e;rfl)⟩
    ·obtain⟨R',m1,m2,m3⟩:=lO (f:=f) (a:=x-(J+1)) (b:=x) r (by lia) (by lia) C;refine Ab<|wpS_modify<|key _ ⟨_,R',rfl,?_,m2.trans l,fk.same (D.snoc (by lia) (by lia)<|BN c) m3⟩;rw[<-m1];show(mirror arr (P.length+x-(J+1)) (P.length+x)<|(P.length+x-(P.length+x-(J+1))) / 2).toList=_;rw[show P.length+x-(J+1)=P.length+(x-(J+1)) by lia]
   ·rw[AE c,AC (by simp)];refine Ab<|i9 O T1 (i:=x-1) (j:=x) (by omega) (by lia) (by lia) rfl ?_;dsimp only;by_cases c3:f (p[x-1]'(by omega))<f (p[x]'(by lia))
    ·rw[AM c3,AB rfl];exact Ae ⟨x,J,arr,p,rfl,rfl,r,l,D,hq,by lia,v,C⟩
    ·rw[AE c3,AC (by simp)];refine Ae ⟨J+1,arr,p,rfl,rfl,r,l,D.snoc (by lia) (by lia) (by lia),by lia,v,λi hi h2 h3=>?_⟩;rcases DK i x with h|h
     ·exact C i hi (by lia) h
     ·have:i=x:=by lia
      subst this;rw[<-C (i-1) (by lia) (by lia) (by lia)];lia
  ·rintro c o ⟨J,arr,p,rfl,rfl,r,l,D,hq,v,C⟩;exact⟨_,J,arr,p,rfl,rfl,r,l,D,hq,by lia,v,C⟩
  ·rintro c o ⟨n,J,arr,p,rfl,rfl,r,l,D,hq,g2,v,C⟩;have l1:p.length=R.length:=l.length_eq;dsimp only;refine iZ (P:=λo=>∃arr R',o=setArr g arr/\arr.toList=P++R'/\R'.Perm R/\fk f R' n) (λ_=>⟨arr,p,rfl,r,l,D⟩) ?_ (λc2 key=>?_)
   rotate_left
   ·obtain⟨R',m1,m2,m3⟩:=lO (f:=f) (a:=n-(J+1)) (b:=n) r (by lia) (by lia) C;refine Ab<|wpS_modify<|key _ ⟨_,R',rfl,?_,m2.trans l,D.same m3⟩;rw[<-m1];show(mirror arr (P.length+n-(J+1)) (P.length+n)<|(P.length+n-(P.length+n-(J+1))) / 2).toList=_;rw[show P.length+n-(J+1)=P.length+(n-(J+1)) by lia]
   clear C D r l l1;rintro _ ⟨arr,p,rfl,r,l,D⟩;have l1:p.length=R.length:=l.length_eq;have T1:=T.same l r;have T':=T1.same (R':=(p.take n).reverse++p.drop n) (((Bw _).mpr<|DW _).trans (by rw[Bh]))<|jI r (by lia);obtain⟨R',eR⟩:∃R',R'=(p.take n).reverse++p.drop n:=⟨_,rfl⟩;have aL:R'.Perm R:=by rw[eR];exact(((Bw _).mpr<|DW _).trans (by rw[Bh])).trans l
   have lR:R'.length=R.length:=aL.length_eq;have U':Up f R' n:=λi j av hj a5=>by
    subst eR;rw[List.getElem_append_left (by simp;lia),List.getElem_append_left (by simp;lia),List.getElem_reverse,List.getElem_reverse,BH,BH];refine D _ _ ?_ (by simp;omega) ?_
    ·simp;omega
    ·simp;omega
   rw[<-eR] at T';refine Ab<|wpS_modify ?_;refine Ab (AU (AO (I:=λx c o=>o=setArr g (mirror arr P.length (P.length+n)<|(P.length+n-P.length) / 2)/\c=(none,x)/\Up f R' x)
    (Q:=λc o=>o=setArr g (mirror arr P.length (P.length+n)<|(P.length+n-P.length) / 2)/\∃n,c=(none,n)/\1<=n/\n<=R.length/\Up f R' n) ?_ ?_ ⟨rfl,rfl,U'⟩) ?_)
   ·rintro x c o t hx ⟨rfl,rfl,U⟩;dsimp only;refine Ab<|i9 O T' (i:=x) (j:=x-1) (by lia) (by omega) rfl (by lia) ?_;dsimp only;by_cases c:f (R'[x]'(by omega))<f (R'[x-1]'(by omega))
    ·rw[AM c,AB rfl];exact Ae ⟨rfl,x,rfl,by lia,by exact ix,U⟩
    ·rw[AE c,AC (by simp)];exact Ae ⟨rfl,rfl,U.snoc (by omega) (by lia) (by omega)⟩
   ·rintro c o ⟨rfl,rfl,U⟩;exact⟨rfl,_,rfl,by lia,by lia,U⟩
   ·rintro c o ⟨rfl,n,rfl,k1,k2,U⟩;exact Ae<|q n R' _ k1 k2 aL T'.arr U
end
section
variable {w:World}{κ:SortKind}{Ok:Keyed->Prop}{f:Keyed->Int}
theorem Up.of{R:List Keyed}(h:(R.take n).Pairwise λx y=>f x<=f y):Up f R n:=λi j I U J=>by have:=sJ h (i:=i) (j:=j) I (by simp;lia);rw[BH,BH] at this;exact this
theorem Rm{R:List Keyed}{k l:Nat}(I:k<R.length)(J:l<=k):(R.take l++R[k]::((R.drop l).take (k-l)++R.drop (k+1))).Perm R:=by
 have e:R=R.take l++((R.drop l).take (k-l)++(R[k]::R.drop (k+1))):=by rw[<-Ay,FC _ J,<-Ck I,Bh]
 refine List.Perm.trans ?_<|Eo e.symm;exact(Bx _).mpr Cc.symm
theorem Rn{R:List Keyed}{k l:Nat}(p:k<R.length)(r:l<=k)(U:Up f R k)(lo:∀i (_:i<l),f (R[i]'(by lia))<=f R[k])(hi:∀i (_:i<k),l<=i->f R[k]<=f (R[i]'(by exact rp))):
 Up f (R.take l++R[k]::((R.drop l).take (k-l)++R.drop (k+1))) (k+1):=by
 apply Up.of;have e:R.take l++R[k]::((R.drop l).take (k-l)++R.drop (k+1))=(R.take l++R[k]::(R.drop l).take (k-l))++R.drop (k+1):=by simp
 rw[e,List.take_left' (by simp;lia)];have I:=U.pair<|BL p;rw[<-FC R r] at I;have I:=AS.mp I;have t:∀y∈(R.drop l).take (k-l),f R[k]<=f y:=λy J=>by obtain⟨j,o,rfl⟩:=BO J;rw[AY,BM] at o;rw[BH,DV];exact hi (l+j) (by lia) (by exact Bi _ _)
 have C:∀x∈R.take l,f x<=f R[k]:=λx g=>by obtain⟨j,o,rfl⟩:=BO g;rw[AY] at o;rw[BH];exact lo j (by lia)
 refine AS.mpr ⟨I.1,List.pairwise_cons.mpr ⟨t,I.2.1⟩,λx g y J=>?_⟩;rcases Am.mp J with rfl|J
 ·exact C x g
 ·exact I.2.2 x g y J
theorem Ro(O:Ord prog w A s κ Ok f){st:SortSt}{P R:List Keyed}(T:Tl κ Ok st P R){ok:Nat}(hn:n<=R.length)(h1:1<=ok)(ho:ok<=n)(U:Up f R ok){Q:Bool->SortSt->Prop}
 (q:∀R' arr,R'.Perm R->arr.toList=P++R'->Up f R' n->Q true (setArr st arr)):wpS (model prog w) A E s (binarySort' P.length n ok) Q st:=by
 have a1:setArr st (arrOf st)=st:=rfl;refine Ab (AU (AO (I:=λx c J=>c=(none,())/\∃R' arr,J=setArr st arr/\R'.Perm R/\arr.toList=P++R'/\Up f R' x)
  (Q:=λc J=>c=(none,())/\∃R' arr,J=setArr st arr/\R'.Perm R/\arr.toList=P++R'/\Up f R' n) ?_ ?_ ⟨rfl,R,arrOf st,rfl,Ci _,T.arr,by rw[Co h1];exact U⟩) ?_)
 ·rintro x c J a3 hx ⟨rfl,R',arr,rfl,p,t,o⟩;have T':=T.same p t;have lR:R'.length=R.length:=p.length_eq;have g:x<R'.length:=by lia
  dsimp only;refine Ab (AU (AO (I:=λy c J=>J=setArr st arr/\∃l r,c=(none,l,r)/\l<=r/\r<=x/\r-l+y<=x/\(∀i (_:i<l) (_:i<R'.length),f R'[i]<=f R'[x])/\(∀i (_:i<x),r<=i->f R'[x]<=f (R'[i]'(by exact rp))))
   (Q:=λc J=>J=setArr st arr/\∃l,c=(none,l,l)/\l<=x/\(∀i (_:i<l) (_:i<R'.length),f R'[i]<=f R'[x])/\(∀i (_:i<x),l<=i->f R'[x]<=f (R'[i]'(by lia)))) ?_ ?_ ⟨rfl,0,x,rfl,Bb _,Ao _,by exact Eu _ _,λi h=>by lia,λi h h'=>by omega⟩) ?_)
  ·rintro y c J _ hy ⟨rfl,l,r,rfl,g1,g2,g3,C,g5⟩;dsimp only;by_cases c:l>=r
   ·rw[AB c];obtain rfl:l=r:=by lia
    exact Ae ⟨rfl,l,rfl,g2,C,g5⟩
   ·rw[AC c];refine Ab<|i9 O T' (i:=x) (j:=(l+r) / 2) g (by lia) rfl rfl ?_;dsimp only;by_cases e:f R'[x]<f (R'[(l+r) / 2]'(by lia))
    ·rw[AM e,AB rfl];refine Ae ⟨rfl,l,(l+r) / 2,rfl,by lia,by lia,by omega,C,λi h h'=>?_⟩;exact BU (BN e)<|o _ _ h' (by exact rp) h
    ·rw[AE e,AC (by simp)];refine Ae ⟨rfl,(l+r) / 2+1,r,rfl,by lia,g2,by omega,λi h h'=>?_,g5⟩;exact BU (o i ((l+r) / 2) (by exact HA) (by lia) (by lia)) (by omega)
  ·rintro c J ⟨rfl,l,r,rfl,g1,g2,g3,C,g5⟩;obtain rfl:l=r:=by lia
   exact⟨rfl,l,rfl,g2,C,g5⟩
  ·rintro c J ⟨rfl,l,rfl,g2,C,g5⟩;dsimp only;refine Ab<|wpS_modify ?_;exact Ae ⟨rfl,_,_,rfl,(Rm g g2).trans p,tS t g g2,Rn g g2 o (λi h=>C i h (by lia)) g5⟩
 ·rintro c J ⟨rfl,R',arr,rfl,p,t,o⟩;exact⟨rfl,R',arr,rfl,p,t,by rw[Co h1,Cd ho] at o;exact o⟩
 ·rintro c J ⟨rfl,R',arr,rfl,p,t,o⟩;exact Ae<|q R' arr p t o
end
section
variable {w:World}{κ:SortKind}{Ok:Keyed->Prop}{f:Keyed->Int}
theorem Rp{N:Nat}(h:N<128):N<=2*(sortPriv% PySem.Builtin.minRun) N N 0:=by
 show N<=2*minRun' N N 0;cases N with
 |zero=>exact Bb _
 |succ r=>
  rw[minRun'_succ];split
  ·lia
  ·cases r with|zero=>lia|succ r=>rw[minRun'_succ,AB (by lia)];lia
def Gy(f:Keyed->Int)(I:Nat)(pn:Array<|Nat×Nat×Nat)(X Y R:List Keyed):Prop:=
 (pn=#[]/\X=[]/\Y=[])\/(∃w,pn=#[(0,X.length,w)]/\Y=[]/\(I<=X.length\/R=[])/\X.Pairwise λx y=>f x<=f y)\/
  ∃w v,pn=#[(0,X.length,w),(X.length,Y.length,v)]/\0<X.length/\0<Y.length/\R=[]/\(X.Pairwise λx y=>f x<=f y)/\Y.Pairwise λx y=>f x<=f y
theorem Jc(O:Ord prog w A s κ Ok f){st:SortSt}{Q:Unit->SortSt->Prop}(a4:(arrOf st).size<128)(hk:kindOf st=κ)(hp:pendingOf st=#[])(hf:failedOf st=none)(ok:∀x∈(arrOf st).toList,Ok x)
 (q:∀g,failedOf g=none->(arrOf g).toList.Perm (arrOf st).toList->((arrOf g).toList.Pairwise λx y=>f x<=f y)->Q () g):wpS (model prog w) A E s sortRuns' Q st:=by
 refine Ab<|wpS_get ?_;dsimp only;have lN:(arrOf st).toList.length=(arrOf st).size:=A8;obtain⟨N,eN⟩:∃N,N=(arrOf st).size:=⟨_,rfl⟩;rw[<-eN] at a4 lN ⊢;obtain⟨Z,eZ⟩:∃Z,Z=(arrOf st).toList:=⟨_,rfl⟩;rw[<-eZ] at lN ok q;have av:=Rp a4;generalize (sortPriv% PySem.Builtin.minRun) N N 0=mr at av ⊢;refine Ab (AU (AO (I:=λx c g=>∃X Y R lo,c=(none,lo)/\kindOf g=κ/\failedOf g=none/\(arrOf g).toList=X++Y++R/\(X++Y++R).Perm Z/\lo=(X++Y).length/\Gy f mr (pendingOf g) X Y R/\x<=lo)
  (Q:=λc g=>∃X Y lo,c=(none,lo)/\kindOf g=κ/\failedOf g=none/\(arrOf g).toList=X++Y/\(X++Y).Perm Z/\Gy f mr (pendingOf g) X Y []) ?_ ?_ ⟨[],[],Z,0,rfl,hk,hf,eZ.symm,.refl _,rfl,.inl ⟨hp,rfl,rfl⟩,Ao _⟩) ?_)
 ·rintro x c g _ hx ⟨X,Y,R,lo,rfl,k1,k2,t,r,rfl,k6,k7⟩;dsimp only;have lt:=r.length_eq;rw[Ad,lN] at lt;by_cases c:(X++Y).length>=N
  ·rw[AB c];cases B5 (show R.length=0 by lia);rw[AD] at t r;exact Ae ⟨X,Y,_,rfl,k1,k2,t,r,k6⟩
  rw[AC c,show N-(X++Y).length=R.length by lia];have T:Tl κ Ok g (X++Y) R:=⟨k1,t,λx hx=>ok x<|r.mem_iff.mp<|Ai _ hx⟩;refine Ab<|Rl O T (by lia) λn R1 a5 g1 g2 a1 al U1=>?_;dsimp only;have l1:=a1.length_eq;have x8:∀{J:SortSt} {R2:List Keyed} {j:Nat} {pn:Array<|Nat×Nat×Nat},kindOf J=κ->failedOf J=none->(arrOf J).toList=X++Y++R2->pendingOf J=pn.push ((X++Y).length,j,0)->((pendingOf g=#[]/\pn=#[])\/∃v,pn=(pendingOf g).modify ((pendingOf g).size-1) λp=>(p.1,p.2.1,v))->R2.Perm R->1<=j->j<=R.length->(mr<=j\/j=R.length)->Up f R2 j->
   ∃X' Y' R' lo,((none,(X++Y).length+j):Option Unit×Nat)=(none,lo)/\kindOf J=κ/\failedOf J=none/\(arrOf J).toList=X'++Y'++R'/\(X'++Y'++R').Perm Z/\lo=(X'++Y').length/\Gy f mr (pendingOf J) X' Y' R'/\x+1<=lo:=λ{J R2 j pn} h1 h2 h3 h4 hn p2 h5 h6 h7 U=>by
   have l2:=p2.length_eq;have ax:(R2.take j).length=j:=by rw[AY];lia
   have U':=U.pair (by lia);have pz:(X++Y++R2).Perm Z:=((Bx _).mpr p2).trans r;rcases k6 with⟨o,rfl,rfl⟩|⟨w,o,rfl,h8,h9⟩|⟨w,v',o,_,_,rfl,_⟩
   ·have e2:pn=#[]:=by
     rcases hn with⟨_,h⟩|⟨v,h⟩
     ·exact h
     ·rw[h,o];rfl
    refine⟨R2.take j,[],R2.drop j,_,rfl,h1,h2,by rw[h3];simp,by simpa using pz,by simp;lia,.inr (.inl ⟨0,by rw[h4,e2,ax];rfl,rfl,?_,U'⟩),by lia⟩;rcases h7 with h|h
    ·exact .inl (by lia)
    ·exact .inr<|List.drop_eq_nil_of_le (by lia)
   ·have e2:∃v,pn=#[(0,X.length,v)]:=by
     rcases hn with⟨h,_⟩|⟨v,h⟩
     ·rw[o] at h;cases h
     ·exact⟨v,by rw[h,o];rfl⟩
    obtain⟨v,e2⟩:=e2;have r0:R≠[]:=λe=>by rw[e] at h6;exact absurd h6 (by simp;lia)
    have h8:=h8.resolve_right r0;rw[AD] at h3 h4 pz lt c ⊢;have en:j=R2.length:=by rcases h7 with h'|h'<;>lia
    rw[AR (by lia)] at U';exact⟨X,R2,[],_,rfl,h1,h2,by rw[h3];simp,by simpa using pz,by rw[Ad,en],.inr (.inr ⟨v,0,by rw[h4,e2,en];rfl,by lia,by lia,rfl,h9,U'⟩),by lia⟩
   ·exact absurd h6 (by simp;lia)
  have sz:(pendingOf g).size<=1:=by
   rcases k6 with⟨o,_⟩|⟨w,o,_⟩|⟨w,v',o,_,_,rfl,_⟩
   ·rw[o];exact Bb _
   ·rw[o];exact Ao _
   ·exact absurd lt (by simp at c ⊢;lia)
  by_cases cm:n<mr
  case' pos=>
   rw[AB cm];refine Ab<|wpS_lift<|Bt ⟨rfl,?_⟩;refine Ab<|Ro O (T.same a1 al) (by lia) g1 (by lia) U1 λR2 au aL aR U2=>?_;rw[AC (by simp)];obtain⟨j,a3⟩:∃j,j=min R.length mr:=⟨_,rfl⟩;rw[<-a3] at U2 ⊢;have p2:R2.Perm R:=aL.trans a1;have h7:mr<=j\/j=R.length:=by lia
   obtain⟨l,C⟩:∃l,l=setArr (setArr g a5) au:=⟨_,rfl⟩
  case' neg=>
   rw[AC cm];obtain⟨j,a3⟩:∃j,j=n:=⟨_,rfl⟩;obtain⟨R2,ac⟩:∃R2,R2=R1:=⟨_,rfl⟩;rw[<-a3,<-ac] at U1;rw[<-a3];have U2:=U1;have p2:R2.Perm R:=by rw[ac];exact a1
   have h7:mr<=j\/j=R.length:=by lia
   obtain⟨l,C⟩:∃l,l=setArr g a5:=⟨_,rfl⟩
  all_goals
   have n1:1<=j:=by lia
   have n3:j<=R.length:=by lia
   have o:kindOf l=κ:=by rw[C];exact k1
   have e2:failedOf l=none:=by rw[C];exact k2
   have e3:(arrOf l).toList=X++Y++R2:=by rw[C];first|exact aR|(rw[ac];exact al)
   have e4:pendingOf l=pendingOf g:=by rw[C]
   rw[<-C];refine Ab<|wpS_get ?_;split
   ·refine Ab<|AU (AO (I:=λy c J=>c=(none,())/\J=l) (Q:=λc J=>c=(none,())/\J=l) ?_ ?_ ⟨rfl,rfl⟩) ?_
    ·rintro y c J _ hy ⟨rfl,rfl⟩;refine Ab<|wpS_get ?_;rw[AC (show ¬(pendingOf J).size > 1 by rw[e4];lia)];exact Ae ⟨rfl,rfl⟩
    ·exactλc J h=>h
    ·rintro c J ⟨rfl,rfl⟩;dsimp only;refine Ab<|wpS_modify<|Ab<|wpS_modify<|Ae ?_;exact x8 o e2 e3 rfl (.inr ⟨_,by rw[<-e4]⟩) p2 n1 n3 h7 U2
   ·rename_i hb;have hb:(pendingOf l).back?=none:=Option.eq_none_iff_forall_ne_some.mpr λp=>hb p.1 p.2.1 p.2.2;rw[e4,Array.back?_eq_none_iff] at hb;exact Ab<|wpS_modify<|Ae<|x8 o e2 e3 rfl (.inl ⟨hb,e4.trans hb⟩) p2 n1 n3 h7 U2
 ·rintro c g ⟨X,Y,R,lo,rfl,k1,k2,t,r,rfl,k6,k7⟩;have lt:=r.length_eq;rw[Ad,lN] at lt;cases B5 (show R.length=0 by lia);rw[AD] at t r;exact⟨X,Y,_,rfl,k1,k2,t,r,k6⟩
 ·rintro c g ⟨X,Y,lo,rfl,k1,k2,t,r,k6⟩;dsimp only;have lt:=r.length_eq;rw[lN] at lt;refine Ab (AU (AO (I:=λy c J=>c=(none,())/\((y=0/\J=g)\/(failedOf J=none/\(pendingOf J).size<=1/\(arrOf J).toList.Perm Z/\(arrOf J).toList.Pairwise λx y=>f x<=f y)))
   (Q:=λc J=>c=(none,())/\failedOf J=none/\(arrOf J).toList.Perm Z/\(arrOf J).toList.Pairwise λx y=>f x<=f y) ?_ ?_ ⟨rfl,.inl ⟨rfl,rfl⟩⟩) ?_)
  ·rintro y c J _ hy ⟨rfl,h⟩;refine Ab<|wpS_get ?_;rcases h with⟨rfl,rfl⟩|⟨h1,h2,h3⟩
   ·rcases k6 with⟨o,rfl,rfl⟩|⟨w,o,rfl,_,h9⟩|⟨w,v,o,lX,lY,_,sX,sY⟩
    ·rw[AB (show(pendingOf J).size<=1 by rw[o];exact Bb _)];exact Ae ⟨rfl,k2,by rw[t];exact r,by rw[t];exact .nil⟩
    ·rw[AB (show(pendingOf J).size<=1 by rw[o];exact Ao _)];exact Ae ⟨rfl,k2,by rw[t];exact r,by rw[t,AD];exact h9⟩
    ·rw[AC (show ¬(pendingOf J).size<=1 by rw[o];exact Nat.not_succ_le_self 1)];have gen:∀b:Bool,(if b=true then(pendingOf J).size-2-1 else(pendingOf J).size-2)=0:=λb=>by cases b<;>rw[o]<;>rfl
     refine Ab ?_;show wpS _ _ _ _ (mergeAt'<|if _=true then(pendingOf J).size-2-1 else(pendingOf J).size-2) _ _;rw[gen];refine Rk O k1 k2 o t (λx hx=>ok x<|r.mem_iff.mp hx) lX lY sX sY λba b1 b2 b3 b4=>?_;rw[AC (by simp)];exact Ae ⟨rfl,.inr ⟨b1,by rw[b2];exact Ao _,b3.trans r,b4⟩⟩
   ·rw[AB h2];exact Ae ⟨rfl,h1,h3⟩
  ·rintro c J ⟨rfl,h⟩;rcases h with⟨h0,rfl⟩|⟨h1,_,h3⟩
   ·have e:X++Y=[]:=B5 (by lia);rw[e] at t r;exact⟨rfl,k2,by rw[t];exact r,by rw[t];exact .nil⟩
   ·exact⟨rfl,h1,h3⟩
  ·rintro c J ⟨rfl,h1,h2,h3⟩;exact Ae<|q J h1 h2 h3
end
open PySem PyProof.Rows PySem.W
def Jd(h:Heap)(B:Int)(x:Keyed):Prop:=∃a o n r p t u,x.1=.ref a/\h.get? a=some o/\o.data=.seq #[.int r t,.int p u] n/\0<=p/\p<B
noncomputable def num(h:Heap)(B:Int)(x:Keyed):Int:=match x.1 with
 |.ref a=>match h.get? a with
  |some o=>match o.data with
   |.seq xs _=>match xs.toList with
    |[.int r _,.int p _]=>r*B+p
    |_=>0
   |_=>0
  |none=>0
 |_=>0
theorem num_of{x:Keyed}{a:Addr}{o:Obj}{r p:Int}{t u:Tok}(I:x.1=.ref a)(J:h.get? a=some o)(U:o.data=.seq #[.int r t,.int p u] n):num h B x=r*B+p:=by unfold num;simp[I,J,U]
theorem rP{w:World} :Ord prog w A s (tuples' true) (Jd s.heap B) (num s.heap B):=by
 constructor;rintro x y ⟨a1,o1,n1,I,J,r,t,l,g1,d1,b1,c1⟩ ⟨a2,o2,n2,U,g,C,T,o,g2,d2,b2,c2⟩ E Q h;rw[num_of l g1 d1,num_of o g2 d2] at h;rw[l,o];refine kat_lt g1 d1 g2 d2 ?_;show KatLex prog w A true _ Q [(.int I r,.int U C),(.int J t,.int g T)] 0 s;refine kat_cons<|wpAny_eqBool_int ?_;by_cases c:I=U
 ·subst c;rw[beq_self_eq_true];refine kat_yes<|kat_cons<|wpAny_eqBool_int ?_;by_cases p:J=g
  ·subst p;rw[beq_self_eq_true];refine kat_yes<|kat_nil ?_;have e:decide (I*B+J<I*B+J)=false:=AE (by lia);rw[e] at h;exact h
  ·rw[Ep p];refine kat_no<|kat_one _ _<|PyProof.Rows.lt_int ?_;have e:decide (I*B+J<I*B+g)=decide (J<g):=by
    by_cases z:J<g
    ·rw[AM z];exact AM (by lia)
    ·rw[AE z];exact AE (by lia)
   rw[e] at h;exact h
 ·rw[Ep c];refine kat_no<|oneLt_int ?_;have e:decide (I*B+J<U*B+g)=decide (I<U):=by
   by_cases z:I<U
   ·rw[AM z];have j:(I+1)*B<=U*B:=Cy (by assumption) (by lia);rw[Er,Int.one_mul] at j;exact AM (by omega)
   ·rw[AE z];have j:(U+1)*B<=I*B:=Cy (by lia) (by lia);rw[Er,Int.one_mul] at j;exact AE (by lia)
  rw[e] at h;exact h
section
variable {w:World}
def eV(h:Heap)(B:Int)(v:Value):Prop:=∃a o n r p t u,v=.ref a/\h.get? a=some o/\o.cls=.type "tuple" /\ o.data=.seq #[.int r t,.int p u] n/\0<=p/\p<B
theorem eV.pair{x:Keyed}(k:eV h B x.1):Jd h B x:=by obtain⟨a,o,n,r,p,t,u,I,J,_,U,g,j⟩:=k;exact⟨a,o,n,r,p,t,u,I,J,U,g,j⟩
theorem tups{h:Heap}{B:Int}:∀{ks:List Value},(∀v∈ks,eV h B v)->∃fs,KatTups h ks fs/\fs.length=ks.length/\∀v∈fs,∃r t,v=Value.int r t
 |[],_=>⟨[],trivial,rfl,λv I=>by simp at I⟩
 |k::ks,J=>by
  obtain⟨fs,h1,h2,h3⟩:=tups (ks:=ks) λv I=>J v<|Ac _ I;obtain⟨a,o,n,r,p,t,u,rfl,U,g,j,_,_⟩:=J k<|Ak ..;refine⟨.int r t::fs,KatTups.cons U g j rfl h1,by simp[h2],λv I=>?_⟩;rcases Am.mp I with rfl|I
  ·exact⟨r,t,rfl⟩
  ·exact h3 v I
theorem Je{ks:List Value}{Q:SortKind->Shared->Prop}(I:∀v∈ks,eV s.heap B v)(h0:0<ks.length)(q:Q (tuples' true) s):wpAny (model prog w) A (keyKind' ks.toArray) Q E s:=by
 obtain⟨fs,h1,h2,h3⟩:=tups I;refine kat_kind (T:=.type "int") h1 (by lia) (λv J=>?_) (by decide) ?_
 ·obtain⟨r,t,rfl⟩:=h3 v J;exact .now
 ·exact q
theorem uK{R:α->α->Prop}:∀{l:List α},l.length<2->l.Pairwise R
 |[],_=>List.Pairwise.nil
 |[_],_=>List.pairwise_singleton _ _
 |_::_::_,h=>absurd h (by simp)
theorem Rq{a kS:Addr}{ks:List Value}{e j:Nat}{P:PySem.Fin->Shared->Prop}(p:s.heap.get? kS=some (seqObj "list" ks.toArray e))(ha:s.heap.get? a=some (seqObj "list" #[] j))(r:kS≠a)(hl:ks.length=vs.length)(U:vs.length<=127)
 (T:∀v∈ks,eV s.heap B v)
 (h:∀h' tk (xs:List Keyed) c,(∀b,b≠kS->b≠a->h'.get? b=s.heap.get? b)->h'.get? a=some (seqObj "list" (List.toArray (xs.map (·.2))) c)->xs.Perm (ks.zip vs)->(xs.Pairwise λx y=>num s.heap B x<=num s.heap B y)->P (.done<|.ret .none) { s with heap:=h',toks:=tk }):
 wpAny (model prog w) A (ksk_end a false vs.toArray j (.ref kS) ks.toArray) P E s:=by
 have hz:vs.length<=sizeLine:=AZ U (by decide);have l:(ks.toArray.zip vs.toArray).toList=ks.zip vs:=by simp
 have tail:∀st:SortSt,failedOf st=none->(arrOf st).toList.Perm (ks.zip vs)->((arrOf st).toList.Pairwise λx y=>num s.heap B x<=num s.heap B y)->wpAny (model prog w) A (ksk_tail a false j (.ref kS) st) P E s:=by
  intro st hf hp hs;have s1:=xT s.heap kS<|Obj.mapSeq λ_=>(#[]:Array Value);have J:(s.heap.update kS<|Obj.mapSeq λ_=>(#[]:Array Value)).get? a=some (seqObj "list" #[] j):=(s1.2 a r.symm).trans ha;have s2:=xT (s.heap.update kS<|Obj.mapSeq λ_=>(#[]:Array Value)) a (Obj.mapSeq λ_=>(arrOf st).map (·.2));have len:((arrOf st).map (·.2)).size<=sizeLine:=by have:=hp.length_eq;rw[C7,A8] at this;rw[Array.size_map];lia
  unfold ksk_tail
  try dsimp only
  refine Aa (listUpdate_at p rfl ?_ (by rw[Au];lia)<|Bb _);refine Aa<|wpAny_letGo ?_;refine Aa<|seqEpoch_at J rfl ?_;refine Aa (listUpdate_at J rfl ?_ (Bb _) (by simp only[BV,if_false];exact BP len));rw[hf];simp only[bne_self_eq_false,BV,if_false];obtain⟨c2,g⟩:∃c2,((s.heap.update kS<|Obj.mapSeq λ_=>(#[]:Array Value)).update a (Obj.mapSeq λ_=>(arrOf st).map (·.2))).get? a=some (seqObj "list" ((arrOf st).map (·.2)) c2):=⟨_,get?_update_seq J λ_=>(arrOf st).map (·.2)⟩;refine Ah<|h _ _ (arrOf st).toList c2 (λb t C=>?_) ?_ hp hs
  ·exact(s2.2 b C).trans (s1.2 b t)
  ·have em:(arrOf st).map (·.2)=List.toArray ((arrOf st).toList.map (·.2)):=by apply Array.toList_inj.mp;rw[Array.toList_map]
   rw[em] at g ⊢;exact g
 unfold ksk_end;simp only[BV,if_false];by_cases h2:vs.toArray.size<2
 ·rw[AB h2,AB h2];refine Aa<|Ah ?_;rw[StateT.run_pure];refine Aa<|Ah ?_;refine tail _ rfl (by show(ks.toArray.zip vs.toArray).toList.Perm _;rw[l]) ?_;show(ks.toArray.zip vs.toArray).toList.Pairwise _;rw[l];rw[Au] at h2;have:(ks.zip vs).length<2:=by rw[C7];lia
  exact uK this
 ·rw[AC h2,AC h2];rw[Au] at h2;refine Aa<|Je T (by omega) ?_;refine Aa (AX (Jc (E:=E) (rP (B:=B)) (st:=SortSt.mk' (tuples' true) (ks.toArray.zip vs.toArray) #[] 7 none)
   (Q:=λ_ I=>failedOf I=none/\(arrOf I).toList.Perm (ks.zip vs)/\((arrOf I).toList.Pairwise λx y=>num s.heap B x<=num s.heap B y)) (by show(ks.toArray.zip vs.toArray).size<128;simp;lia) rfl rfl rfl (λx o=>?_) λI b1 b2 b3=>⟨b1,?_,b3⟩) ?_ λ_ _ e=>e)
  ·have o:x∈(ks.toArray.zip vs.toArray).toList:=o;rw[l] at o;exact eV.pair<|T _ (DC (a:=x.1) (b:=x.2) o).1
  ·have b2:(arrOf I).toList.Perm (ks.toArray.zip vs.toArray).toList:=b2;rw[l] at b2;exact b2
  ·rintro⟨⟨⟩,I⟩ s' ⟨rfl,b1,b2,b3⟩;exact tail I b1 b2 b3
end
section
variable {w:World}
theorem eV.ne{a b:Addr}{xs:Array Value}(k:eV h B v)(e:v=.ref a)(g:h.get? b=some (seqObj "list" xs n)):a≠b:=by
 obtain⟨j,o,m,r,p,t,u,J,U,I,_⟩:=k;rw[e] at J;cases J;rintro rfl;rw[g] at U;cases U;have I:Value.type "list" = Value.type "tuple" := I;injection I with e
 exact absurd e (by decide)
theorem eV.keeps{b:Addr}{xs:Array Value}(k:eV h B v)(J:h.get? b=some (seqObj "list" xs n))(U:∀c o,c≠b->h.get? c=some o->h'.get? c=some o):eV h' B v:=by have g:=k;obtain⟨a,o,m,r,p,t,u,I,j,l,C,T,e6⟩:=k;exact⟨a,o,m,r,p,t,u,I,U a o (g.ne I J) j,l,C,T,e6⟩
theorem yU{x:Keyed}{b:Addr}{xs:Array Value}(k:eV h B x.1)(g:h.get? b=some (seqObj "list" xs n))(j:∀c o,c≠b->h.get? c=some o->h'.get? c=some o):num h' B x=num h B x:=by have l:=k;obtain⟨a,o,m,r,p,t,u,I,J,C,U,T,e6⟩:=k;rw[num_of I J U,num_of I (j a o (l.ne I g) J) U]
theorem dI{x:Keyed}(h:x∈vs.zip vs):x.1∈vs/\x.1=x.2:=by
 induction vs with
 |nil=>simp at h
 |cons v r I=>
  rw[List.zip_cons_cons] at h;rcases Am.mp h with rfl|h
  ·exact⟨Ak ..,rfl⟩
  ·exact⟨Ac _ (I h).1,(I h).2⟩
theorem Rr{a:Addr}{P:PySem.Fin->Shared->Prop}(p:s.heap.get? a=some (seqObj "list" vs.toArray n))(hz:vs.length<=127)(hk:∀v∈vs,eV s.heap B v)
 (h:∀h' tk (xs:List Keyed) c,(∀b o,b≠a->s.heap.get? b=some o->h'.get? b=some o)->h'.get? a=some (seqObj "list" (List.toArray (xs.map (·.2))) c)->xs.Perm (vs.zip vs)->(xs.Pairwise λx y=>num s.heap B x<=num s.heap B y)->P (.done<|.ret .none) { s with heap:=h',toks:=tk }):
 wpAny (model prog w) A (Builtin.«list.sort» ⟨[.ref a],[]⟩) P E s:=by
 have big:(100000:Nat)+1<=sizeLine:=by rw[sizeLine_eq];exact DE _ _
 have zl:(vs.toArray.zip vs.toArray).toList=vs.zip vs:=by simp
 have s1:=xT s.heap a<|Obj.mapSeq λ_=>(#[]:Array Value);obtain⟨e1,r⟩:∃e1,(s.heap.update a<|Obj.mapSeq λ_=>(#[]:Array Value)).get? a=some (seqObj "list" #[] e1):=⟨_,get?_update_seq p λ_=>#[]⟩;obtain⟨I,U⟩:∃g,g=((s.heap.update a<|Obj.mapSeq λ_=>(#[]:Array Value)).push<|seqObj "tuple" vs.toArray 0).push (seqObj "list" #[] 0):=⟨_,rfl⟩;have k3:∀b o,b≠a->s.heap.get? b=some o->I.get? b=some o:=λb o hb e=>by rw[U];exact sy _<|sy _<|(s1.2 b hb).trans e
 have j:I.get? a=some (seqObj "list" #[] e1):=by rw[U];exact sy _<|sy _ r
 have t:∀v∈vs,eV I B v:=λv hv=>(hk v hv).keeps p k3;have nk:∀x∈vs.zip vs,num I B x=num s.heap B x:=λx l=>yU (hk _ (dI l).1) p k3;have tail:∀st:SortSt,failedOf st=none->(arrOf st).toList.Perm (vs.zip vs)->((arrOf st).toList.Pairwise λx y=>num I B x<=num I B y)->
  ∀tk,P (.done<|.ret .none) { s with heap:=I.update a (Obj.mapSeq λ_=>(arrOf st).map (·.2)),toks:=tk }:=by
  intro st hf C hs tk;have s2:=xT I a (Obj.mapSeq λ_=>(arrOf st).map (·.2));obtain⟨c2,T⟩:∃c2,(I.update a (Obj.mapSeq λ_=>(arrOf st).map (·.2))).get? a=some (seqObj "list" ((arrOf st).map (·.2)) c2):=⟨_,get?_update_seq j λ_=>(arrOf st).map (·.2)⟩;have em:(arrOf st).map (·.2)=List.toArray ((arrOf st).toList.map (·.2)):=by apply Array.toList_inj.mp;rw[Array.toList_map]
  refine h _ tk (arrOf st).toList c2 (λb o hb e=>(s2.2 b hb).trans<|k3 b o hb e) ?_ C ?_
  ·rw[em] at T ⊢;exact T
  ·refine Cu (λ{x y} l hy z=>?_) hs;rw[nk x<|C.mem_iff.mp l,nk y<|C.mem_iff.mp hy] at z;exact z
 have len:∀st:SortSt,(arrOf st).toList.Perm (vs.zip vs)->((arrOf st).map (·.2)).size<=sizeLine+1:=λst C=>by have:=C.length_eq;rw[C7,A8] at this;rw[Array.size_map];lia
 rw[list_sort_plain];refine Aa<|listItems_at p rfl ?_;refine Aa (listUpdate_at p rfl ?_ (by rw[Au];exact Es)<|Bb _);refine Aa<|seqEpoch_at r rfl ?_;refine Aa (wpAny_newTuple ?_ (by show vs.length<=_;lia));refine Aa<|wpAny_newList ?_<|Bb _;refine A4 ?_;show wpAny (model prog w) A _ P E { s with heap:=((s.heap.update a<|Obj.mapSeq λ_=>(#[]:Array Value)).push<|seqObj "tuple" vs.toArray 0).push (seqObj "list" #[] 0) };rw[<-U];dsimp only;by_cases h2:vs.toArray.size<2
 ·rw[AB h2,AB h2];refine Aa<|Ah ?_;rw[StateT.run_pure];refine Aa<|Ah ?_;dsimp only;refine Aa<|seqEpoch_at j rfl ?_;have pz:(arrOf<|SortSt.mk' (tuples' true) (vs.toArray.zip vs.toArray) #[] 7 none).toList.Perm (vs.zip vs):=by show(vs.toArray.zip vs.toArray).toList.Perm _;rw[zl]
  refine Aa<|listUpdate_at j rfl ?_ (Bb _)<|len _ pz;simp only[bne_self_eq_false,BV,if_false];refine Ah<|tail (SortSt.mk' (tuples' true) (vs.toArray.zip vs.toArray) #[] 7 none) rfl pz ?_ _;show(vs.toArray.zip vs.toArray).toList.Pairwise _;rw[zl];rw[Au] at h2;have:(vs.zip vs).length<2:=by rw[C7];lia
  exact uK this
 ·rw[AC h2,AC h2];rw[Au] at h2;refine Aa<|Je (s:={ s with heap:=I }) t (by lia) ?_;refine Aa (AX (Jc (E:=E) (rP (s:={ s with heap:=I }) (B:=B)) (st:=SortSt.mk' (tuples' true) (vs.toArray.zip vs.toArray) #[] 7 none)
   (Q:=λ_ J=>failedOf J=none/\(arrOf J).toList.Perm (vs.zip vs)/\((arrOf J).toList.Pairwise λx y=>num I B x<=num I B y)) (by show(vs.toArray.zip vs.toArray).size<128;simp;lia) rfl rfl rfl (λx l=>?_) λJ b1 b2 b3=>⟨b1,?_,b3⟩) ?_ λ_ _ e=>e)
  ·have l:x∈(vs.toArray.zip vs.toArray).toList:=l;rw[zl] at l;exact eV.pair<|t _ (dI l).1
  ·have b2:(arrOf J).toList.Perm (vs.toArray.zip vs.toArray).toList:=b2;rw[zl] at b2;exact b2
  ·rintro⟨⟨⟩,J⟩ s' ⟨rfl,b1,b2,b3⟩;dsimp only;refine Aa<|seqEpoch_at j rfl ?_;refine Aa<|listUpdate_at j rfl ?_ (Bb _)<|len _ b2;rw[b1];simp only[bne_self_eq_false,BV,if_false];exact Ah<|tail J b1 b2 b3 _
theorem w_sorted(hl:s.heap.IsList l vs.toArray)(hz:vs.length<=127)(hk:∀v∈vs,eV s.heap B v)
 (h:∀h' tk (xs:List Keyed) D c,s.heap.objs.size<=D->(∀b o,s.heap.get? b=some o->h'.get? b=some o)->h'.get? D=some (seqObj "list" (List.toArray (xs.map (·.2))) c)->xs.Perm (vs.zip vs)->(xs.Pairwise λx y=>num s.heap B x<=num s.heap B y)->Q (.ref D) { s with heap:=h',toks:=tk }):
 wpAny (model prog w) A (call (.builtin "sorted") [.ref l]) Q E s:=by
 have big:(100000:Nat)+1<=sizeLine:=by rw[sizeLine_eq];lia
 refine Calls.call_function_entry kind_sorted plain_sorted entry_sorted (args_sorted1 _) ?_;unfold Builtin.«sorted»;refine Aa (m:=checkCount "sorted" 1 1 _)<|Ah ?_;refine Aa<|collect_list hl ?_ (by lia);refine Aa<|wpAny_newList ?_ (by lia);obtain⟨g,C⟩:∃g,g=(s.heap.push<|seqObj "list" #[] 0).update s.heap.objs.size (Obj.mapSeq (· ++ vs.toArray)):=⟨_,rfl⟩;have gs:g.objs.size=s.heap.objs.size+1:=by rw[C,Heap.size_update,size_push']
 have gk:∀b o,s.heap.get? b=some o->g.get? b=some o:=λb o q=>by have I:b<s.heap.objs.size:=um q;rw[C,Heap.get?_update_ne _ _ _ _<|A9 I];exact sy _ q
 show wpAny _ _ _ _ _ { s with heap:=((s.heap.push<|seqObj "list" #[] 0).update s.heap.objs.size (Obj.mapSeq (· ++ vs.toArray))).push (seqObj "list" vs.toArray 0) };rw[<-C];have J:(g.push<|seqObj "list" vs.toArray 0).get? g.objs.size=some (seqObj "list" vs.toArray 0):=vb _ rfl;have keep:∀b o,s.heap.get? b=some o->(g.push<|seqObj "list" vs.toArray 0).get? b=some o:=λb o q=>sy _<|gk b o q;have kT:∀v∈vs,eV (g.push<|seqObj "list" vs.toArray 0) B v:=λv hv=>by obtain⟨a,o,m,r,p,t,u,U,j,r'⟩:=hk v hv;exact⟨a,o,m,r,p,t,u,U,keep _ _ j,r'⟩
 have nk:∀x∈vs.zip vs,num (g.push<|seqObj "list" vs.toArray 0) B x=num s.heap B x:=λx T=>by obtain⟨a,o,m,r,p,t,u,U,j,e3,e4,_⟩:=hk _ (dI T).1;rw[num_of U j e4,num_of U (keep _ _ j) e4]
 refine Aa<|A4<|wpAny_call_entry slot_list_sort ⟨_,J,rfl⟩ entry_list_sort ?body<|args_list_sort _
 case body=>
  refine Rr (s:={ s with heap:=g.push (seqObj "list" vs.toArray 0) }) J hz kT λh' tk xs c k1 hD pm pw=>?_;refine⟨_,rfl,Ah ⟨_,rfl,h h' tk xs g.objs.size c (by rw[gs];exact CN _) (λb o q=>k1 b o ?_<|keep b o q) hD pm ?_⟩⟩
  ·have I:b<s.heap.objs.size:=um q;intro z;rw[z,gs] at I;exact Nat.not_succ_lt_self I
  ·refine Cu (λ{x y} T hy z=>?_) pw;rw[nk x<|pm.mem_iff.mp T,nk y<|pm.mem_iff.mp hy] at z;exact z
end
end TS
namespace L2
open PySem PySem.Spec PyProof.Rows
theorem oX(f:α->β):∀{l m:List β},l.Perm m->∀{T:List α},T.map f=m->∃U:List α,U.Perm T/\U.map f=l:=by
 intro l m p
 induction p with
 |nil=>intro T e;exact⟨T,Ci _,e⟩
 |cons x _ o=>
  intro T e;cases T with
  |nil=>cases e
  |cons t r=>
   rw[AG] at e;obtain⟨I,J⟩:=C6 e;obtain⟨U,C,e'⟩:=o J;exact⟨t::U,C.cons t,by rw[AG,e',I]⟩
 |swap x y l=>
  intro T e
  match T,e with
  |t::u::r,e=>
   rw[AG,AG] at e;obtain⟨I,J⟩:=C6 e;obtain⟨e3,e4⟩:=C6 J;exact⟨u::t::r,List.Perm.swap t u r,by rw[AG,AG,I,e3,e4]⟩
 |trans _ _ g j=>
  intro T e;obtain⟨T1,p1,I⟩:=j e;obtain⟨T2,p2,J⟩:=g I;exact⟨T2,p2.trans p1,J⟩
theorem gM{α β I:Type}{R:β->I->Prop}{g:α->β}{h:α->I}:∀{T:List α},(∀t∈T,R (g t)<|h t)->Paired R (T.map g) (T.map h)
 |[],_=>.nil
 |t::_,k=>.cons (k t<|Ak ..)<|gM λu J=>k u<|Ac _ J
theorem rK{J:Type}{R:α->β->Prop}{S:α->J->Prop}:∀{xs:List α} {ys:List β} {zs:List J},Paired R xs ys->Paired S xs zs->∃T:List (α×β×J),T.map (·.1)=xs/\T.map (λt=>t.2.1)=ys/\T.map (λt=>t.2.2)=zs/\∀t∈T,R t.1 t.2.1/\S t.1 t.2.2
 := by
 intro xs ys zs p q
 induction p generalizing zs with
 |nil=>cases q;exact⟨[],rfl,rfl,rfl,λt I=>by cases I⟩
 |cons r p l=>
  cases q with
  |cons q o=>
   rename_i x y U g z j;obtain⟨T,C,e2,e3,k⟩:=l o;refine⟨(x,y,z)::T,by rw[AG,C],by rw[AG,e2],by rw[AG,e3],λt I=>?_⟩;rcases Am.mp I with rfl|I
   ·exact⟨r,q⟩
   ·exact k t I
theorem sw{α β:Type}{f:α->β}:∀{l:List α},(∀x∈l,∀y∈l,f x=f y->x=y)->l.Nodup->(l.map f).Nodup
 |[],_,_=>CS
 |a::r,h,n=>by obtain⟨J,U⟩:=Aw.mp n;rw[AG];refine Aw.mpr ⟨λz=>?_,sw (λx g y I=>h x (Ac _ g) y<|Ac _ I) U⟩;obtain⟨y,I,e⟩:=BS.mp z;have:=h y (Ac _ I) a (Ak ..) e;exact J<|this▸I
def wS(p q:Int×Int):Prop:=p.1<q.1\/(p.1=q.1/\p.2<=q.2)
abbrev xH(K:Af)(H:Hp)(v:V)(p:Int×Int):Prop:=∃a,v=.ref a/\dS K H a [.int p.1,.int p.2]
theorem Rs{p q:Int×Int}(J:0<=p.2/\p.2<B)(U:0<=q.2/\q.2<B)(h:p.1*B+p.2<=q.1*B+q.2):wS p q:=by
 unfold wS;by_cases c:p.1<q.1
 ·exact .inl c
 ·right;by_cases d:q.1<p.1
  ·have I:(q.1+1)*B<=p.1*B:=Cy (by assumption) (by lia);rw[Er,Int.one_mul] at I;omega
  ·have e:p.1=q.1:=by lia
   rw[e] at h;exact⟨e,by lia⟩
def Rt(X:Cx):List V->Hp->VK->Prop:=λxs H Q=>∃l ys ps,xs=[.ref l]/\aF X.K H l ys/\Paired (xH X.K H) ys ps/\(∀p∈ps,0<=p.2/\p.2<1000000)/\ps.Nodup/\ys.length<=127/\
 ∀D zs qs,H D=none->Paired (xH X.K H) zs qs->qs.Perm ps->qs.Pairwise wS->Q (.ref D) (upd H D<|.lst zs)
theorem u6:jn X (.builtin "sorted") (Rt X):=by
 intro a5 s σ H xs us Q I r h;obtain⟨l,ys,ps,rfl,hl,pr,hb,hnd,a1,q⟩:=h;obtain⟨u,rfl,ru⟩:=r.one;cases (show u=Value.ref l from ru);obtain⟨p,rv,pl,hz⟩:=I.list hl;have l1:ys.length=p.length:=rv.length;obtain⟨T,e1,e2,e3,kT⟩:=rK rv pr;have U:∀t∈T,(∃a o n g j,t.2.1=Value.ref a/\s.heap.get? a=some o/\o.cls=.type "tuple" /\ o.data=.seq #[.int t.2.2.1 g,.int t.2.2.2 j] n)/\0<=t.2.2.2/\t.2.2.2<1000000:=λt J=>by obtain⟨r1,a,ea,hs⟩:=kT t J;obtain⟨ac,a3,⟨o,g1,g2,n,g3⟩,_⟩:=I.tuple hs;obtain⟨w1,w2,rfl,x1,x2⟩:=a3.two;obtain⟨g,rfl⟩:=(show ∃g,w1=Value.int t.2.2.1 g from x1);obtain⟨j,rfl⟩:=(show ∃j,w2=Value.int t.2.2.2 j from x2);rw[ea] at r1;refine⟨⟨a,o,n,g,j,r1,g1,g2,g3⟩,?_⟩;exact hb _ (by rw[<-e3];exact C3 (f:=λt:V×Value×(Int×Int)=>t.2.2) J)
 have nT:∀t∈T,TS.num s.heap 1000000 (t.2.1,t.2.1)=t.2.2.1*1000000+t.2.2.2:=λt J=>by obtain⟨⟨a,o,n,g,j,g0,g1,g2,g3⟩,_⟩:=U t J;exact TS.num_of g0 g1 g3
 have ez:p.zip p=T.map λt=>(t.2.1,t.2.1):=by rw[<-e2,List.zip_map']
 refine jy I.tk (TS.w_sorted (B:=1000000) pl.isList (by rw[<-l1];exact a1) (λv hv=>?_) λh' tk ks D c hD hk hg pm pw J=>?_)
 ·rw[<-e2] at hv;obtain⟨t,J,rfl⟩:=BS.mp hv;obtain⟨⟨a,o,n,g,j,g0,g1,g2,g3⟩,b1,b2⟩:=U t J;exact⟨a,o,n,_,_,g,j,g0,g1,g2,g3,b1,b2⟩
 ·rw[ez] at pm;obtain⟨T',pT,eT⟩:=oX _ pm rfl;subst eT;have C:∀t,t∈T'->t∈T:=λt=>pT.mem_iff.mp;have a4:=Cr.mp pw;refine⟨.ref D,_,I.laid (t':=tk) (o:=.lst (T'.map (·.1))) hk hD ?_,rfl,q D (T'.map (·.1)) (T'.map λt=>t.2.2) (I.hok.fresh hD) (gM λt J=>(kT t<|C t J).2) ?_ ?_⟩
  ·refine⟨?_,T'.map λt=>t.2.1,c,gM λt J=>(kT t<|C t J).1,?_⟩
   ·rw[Ag,pT.length_eq];have:T.length=ys.length:=by rw[<-e1,Ag]
    rw[this];exact hz
   ·rw[hg,Cq];rfl
  ·rw[<-e3];exact pT.map _
  ·refine Cr.mpr<|Cu (λ{x y} hx hy z=>?_) a4;rw[nT x<|C x hx,nT y<|C y hy] at z;exact Rs (U x<|C x hx).2 (U y<|C y hy).2 z
end L2
namespace L3
open PySem L2
def Fi(p:Int×Int):Y:=.tup [.int p.1,.int p.2]
theorem sN{G:G3}{H:Hp}:∀{ps:List<|Int×Int} {xs:List V},xr G H (ps.map Fi) xs->Paired (xH G.K H) xs ps
 |[],_,h=>by cases (show _=[] from h);exact .nil
 |p::r,_,ψ=>by obtain⟨x,U,e,⟨a,zs,ea,g,j,l,o,I,t,C,T,J,e3⟩,s⟩:=ψ;subst e ea o T e3;cases (show j=V.int p.1 from I);cases (show t=V.int p.2 from J);exact .cons ⟨a,rfl,g⟩<|sN s
theorem Rv :∀{ps:List<|Int×Int} {xs:List V},Paired (xH G.K H) xs ps->xr G H (ps.map Fi) xs:=by
 intro ps xs h
 induction h with
 |nil=>exact rfl
 |cons z t I=>
  obtain⟨a,ea,J⟩:=z;subst ea;exact⟨_,_,rfl,⟨a,_,rfl,J,_,_,rfl,rfl,_,_,rfl,rfl,rfl⟩,I⟩
def kj(xs:List Y)(L:qo)(Q:YK):Prop:=match xs with
 |[.ref a]=>fP L a λys=>∃ps:List (Int×Int),ys=ps.map Fi/\(∀p∈ps,0<=p.2/\p.2<1000000)/\ps.Nodup/\ps.length<=127/\∀(D:Addr) (qs:List<|Int×Int),L D=none->qs.Perm ps->qs.Pairwise wS->Q (.ref D) (qi L D<|.lst<|qs.map Fi)
 |_=>False
theorem ai:bootBuiltins "sorted"=some (.builtin "sorted"):=by decide +kernel
theorem fM :jn X (.builtin "sorted") (b_ X.g3 kj):=EN u6 λxs H Q ys L Q3 g J z k=>by
 unfold kj at z;split at z
 ·rename_i a;obtain⟨j,e,l,rfl,o,hnd,I,z⟩:=ko z;obtain⟨p,t,r⟩:=J a _ e;obtain⟨u,rfl,C⟩:=g.inv1;cases (show u=V.ref a from C);have T:=sN r;exact⟨a,p,l,rfl,aF.of t,T,o,hnd,by rw[<-r.length,Ag];exact I,λD j qs U pz pm pw=>k _ _ _ _ (EE U) (J.newL U<|Rv pz) (by rfl)<|z D qs (J.none U) pm pw⟩
 ·exact z.elim
open PySem L2 Words
def nY(hs:List Nat):List Y:=hs.map λn:Nat=>.int (n:Int)
theorem dP(hs:List Nat):(nY hs).length=hs.length:=by unfold nY;rw[Ag]
theorem xK(h:j<n):yo n (j:Int)=some j:=by unfold yo;rw[AB (by exact A6 _),AB (by omega)];rfl
theorem bG{a p:Addr}{o:LO}(h:qi L a o p=none):L p=none:=by
 by_cases c:p=a
 ·subst c;rw[q9] at h;cases h
 ·rw[qg c] at h;exact h
theorem iw{a:Addr}{o:LO}(h:L a=some o):qi L a o=L:=by
 funext b;unfold qi;split
 ·rename_i e;rw[e,h]
 ·rfl
theorem jb{l:List α}{x:α}(h:l[i]?=some x):i<l.length:=(AN.mp h).1
noncomputable def lV(I:zh):RD "parts_of" gQ 1 ["knot"] (λV=>Gr V I):=⟨_,λV B c _ _ _ _ _ _ _ J hN U=>(qa (zu (bF<|iC (gF<|qv 0)<|iU<|vm<|C_ c J<|xh<|qv 0) (qd<|qz<|js wb) z9)<|qd<|qz<|js<|xm (J_ 0)<|J_ 0)⟩
noncomputable def vN(I:zh):vh:=(lV I).1
def uU:Option Kn->Y
 |none=>.non
 |some k=>qX k
abbrev jz(ks:List<|Option Kn):List Y:=ks.map uU
def zq:Option Kn->List Nat
 |some (.nd _ i j)=>[i,j]
 |_=>[]
def eF:zh:=λys L Q=>∃k:Option Kn,ys=[uU k]/\∀p,L p=none->Q (.ref p) (qi L p<|.lst<|nY<|zq k)
theorem Rw:∀ys L Q,eF ys L Q->v9 (vN wm) 1 ys L Q:=by
 rintro ys L Q ⟨k,rfl,q⟩;cases k with
 |none=>exactλp I=>x8<|q p I
 |some k=>
  cases k with|lf t n=>exact⟨true,t,_,rfl,λp I=>x8<|q p I⟩|nd e i j=>exact⟨false,e,_,rfl,λp I=>x8<|q p I⟩
theorem vJ(a b:List Nat):nY (a++b)=nY a++nY b:=by unfold nY;rw[AI]
theorem Jf{hs:List Nat}(h:(nY hs)[i]?=some y):∃n,hs[i]?=some n/\y=.int (n:Int):=by unfold nY at h;rw[Aq] at h;obtain⟨n,I,J⟩:=AA.mp h;exact⟨n,I,J.symm⟩
abbrev xi(a l c:Addr):Y:=.tup [.ref a,.ref l,.ref c]
theorem Rx(a b:Nat):min (a:Int) (b:Int)=((min a b:Nat):Int):=by omega
theorem Ry(a b:Nat):max (a:Int) (b:Int)=((max a b:Nat):Int):=by omega
def h_(p:Nat×Nat):Y:=.tup [.int ((p.1:Nat):Int),.int ((p.2:Nat):Int)]
abbrev qt(l:List<|Nat×Nat):List Y:=l.map h_
end L3
namespace TS
open PySem PyProof.Rows PySem.W PySem.Calls
section
variable {w:World}
abbrev keyBody(kx px:Str)(p1 p2 p3 p4 p5:Pos)(n:Nat):Expr:=.Tuple [.Subscript (.Name kx p1) (.Name px p2) p3,.Name px p4] n p5
structure lJ(h:Heap)(f:Addr)(kx px:Str)(scope:Scope)(kvs:List Value):Prop where
 ex:∃(name eH:Str) (params:Arguments) (p1 p2 p3 p4 p5:Pos) (n:Nat) (pm ctv:Value) (c' cell k:Addr),h.get? f=some (kla_obj name eH params (keyBody kx px p1 p2 p3 p4 p5 n) scope [(kx,cell)] pm c' ctv)/\h.CodeRec (.ref c') eH/\
  h.IsCell cell (some<|.ref k)/\h.IsList k kvs.toArray/\∀v:Value,bindArgs (kla_fn name eH params (keyBody kx px p1 p2 p3 p4 p5 n) scope [(kx,cell)] pm (.ref c') ctv) ⟨[v],[]⟩=pure [(px,v)]
 lim:h.NoLimit
structure KeySc(scope:Scope)(kx px:Str):Prop where
 kind:scope.kind=.function
 co:scope.isCoroutine=false
 gen:scope.isGenerator=false
 nc:∀x∈scope.names,x.2≠.cell
 lp:scope.names.lookup px=some .local
 lk:scope.names.lookup kx=some .free
 d1:(kx==("__debug__" : Str))=false
 d2:(px==("__debug__" : Str))=false
 d3:(kx==("__classdict__" : Str))=false
theorem lJ.keeps{kvs:List Value}(k:lJ h f kx px scope kvs)(J:∀b o,h.get? b=some o->h'.get? b=some o):lJ h' f kx px scope kvs:=by
 obtain⟨name,U,I,p,r,t,C,T,n,pm,l,c',cell,kk,g1,g2,g3,g4,g5⟩:=k.ex;refine⟨⟨name,U,I,p,r,t,C,T,n,pm,l,c',cell,kk,J _ _ g1,?_,?_,?_,g5⟩,k.lim.keeps J⟩
 ·obtain⟨c,oc,vs,tq,g,j,e3⟩:=g2;exact⟨c,oc,vs,tq,g,J _ _ j,e3⟩
 ·obtain⟨o,g,j⟩:=g3;exact⟨o,J _ _ g,j⟩
 ·obtain⟨o,g,j⟩:=g4;exact⟨o,J _ _ g,j⟩
theorem Rz{kvs:List Value}{u t:Tok}{r:Int}(K:lJ s.heap f kx px scope kvs)(S:KeySc scope kx px)(U:A.depth<recursionLimit)(hi:kvs[i]?=some (.int r t))(a1:i<2 ^ 40)
 (h:∀h' tk a,(∀b o,s.heap.get? b=some o->h'.get? b=some o)->h'.get? a=some { cls:=.type "tuple",data:=.seq #[.int r t,.int (i:Int) u] }->Q (.ref a) { s with heap:=h',toks:=tk }):
 wpAny (model prog w) A (call (.ref f) [.int (i:Int) u]) Q E s:=by
 obtain⟨name,I,l,p1,p2,p3,p4,p5,n,pm,a3,p,cell,kk,g1,g2,g3,g4,g5⟩:=K.ex;refine wpAny_call<|kla_callFunE U g1 rfl S.co S.gen rfl g2 ?_;rw[g5];refine Ah (wpAny_newFunctionEnv S.nc (λx hx=>by rw[An.mp hx];exact S.lp) (λJ g j=>⟨K.lim.fresh _ j,?_⟩) S.kind);have C:∀b o,s.heap.get? b=some o->J.get? b=some o:=λb o e=>j.extBut b o (A9<|um e)<|sy _ e;show codeAny _ _ (.expr _<|envX I scope s.heap.objs.size f (.ref p) [(kx,cell)]) _ _;refine kla_codeExpr ?_;have look:(([(px,Value.int (i:Int) u)]:List<|Str×Value).reverse.lookup px)=some (.int (i:Int) u):=by simp
 have kf:(envX I scope s.heap.objs.size f (.ref p) [(kx,cell)]).kindOf kx=some .free:=S.lk;have kp:(envX I scope s.heap.objs.size f (.ref p) [(kx,cell)]).kindOf px=some .local:=S.lp;have cl:(envX I scope s.heap.objs.size f (.ref p) [(kx,cell)]).cells.lookup kx=some cell:=by show([(kx,cell)]:List<|Str×Addr).lookup kx=_;simp
 have ic:J.IsCell cell (some<|.ref kk):=by obtain⟨o,T,e2⟩:=g3;exact⟨o,C _ _ T,e2⟩
 have il:J.IsList kk kvs.toArray:=by obtain⟨o,T,e2⟩:=g4;exact⟨o,C _ _ T,e2⟩
 refine wpAny_Tuple_spliced<|Ev<|Subscript_<|wpAny_Name (wpAny_loadName_free S.kind kf cl ic (wpAny_Name (wpAny_loadName_local S.kind kp g look ?_) S.d2) S.d3) S.d1;refine item_listL il (by exact A6 _) (by omega) (by rw[show((i:Nat):Int).toNat=i from rfl];exact hi) ?_;refine Ev<|wpAny_Name (wpAny_loadName_local S.kind kp g look ?_) S.d2;refine EY ⟨by show 2<=sizeLine;decide,?_⟩;exact h _ _ _ (λb o e=>sy _<|C b o e)<|vb _ rfl
end
theorem RA(f:α->β):∀{l m:List β},l.Perm m->∀{T:List α},T.map f=m->∃U:List α,U.Perm T/\U.map f=l:=by
 intro l m p
 induction p with
 |nil=>intro T e;exact⟨T,Ci _,e⟩
 |cons x _ o=>
  intro T e;cases T with
  |nil=>cases e
  |cons t r=>
   rw[AG] at e;obtain⟨I,J⟩:=C6 e;obtain⟨U,C,e'⟩:=o J;exact⟨t::U,C.cons t,by rw[AG,e',I]⟩
 |swap x y l=>
  intro T e
  match T,e with
  |t::u::r,e=>
   rw[AG,AG] at e;obtain⟨I,J⟩:=C6 e;obtain⟨e3,e4⟩:=C6 J;exact⟨u::t::r,List.Perm.swap t u r,by rw[AG,AG,I,e3,e4]⟩
 |trans _ _ g j=>
  intro T e;obtain⟨T1,p1,I⟩:=j e;obtain⟨T2,p2,J⟩:=g I;exact⟨T2,p2.trans p1,J⟩
def itV(x:Nat×Tok):Value:=.int (x.1:Int) x.2
def Gz(h:Heap)(kS:Addr)(rk:Nat->Int)(k:Value)(x:Nat×Tok):Prop:=∃a t u,k=.ref a/\a≠kS/\h.get? a=some { cls:=.type "tuple",data:=.seq #[.int (rk x.1) t,.int (x.1:Int) u] }
def jX(h:Heap)(kS:Addr)(rk:Nat->Int):List Value->List (Nat×Tok)->Prop
 |[],[]=>True
 |k::ks,x::xs=>Gz h kS rk k x/\jX h kS rk ks xs
 |_,_=>False
theorem jX.len{h:Heap}{kS:Addr}{rk:Nat->Int}:∀{ks:List Value} {xs:List<|Nat×Tok},jX h kS rk ks xs->ks.length=xs.length
 |[],[],_=>rfl
 |_::_,_::_,ψ=>by obtain⟨_,b⟩:=ψ;rw[AJ,AJ,jX.len b]
 |[],_::_,z=>z.elim
 |_::_,[],z=>z.elim
theorem jX.mem{h:Heap}{kS:Addr}{rk:Nat->Int}:∀{ks:List Value} {xs:List<|Nat×Tok},jX h kS rk ks xs->∀t∈ks.zip xs,Gz h kS rk t.1 t.2
 |[],[],_,t,I=>by cases I
 |_::_,_::_,ψ,t,I=>by
  obtain⟨a,b⟩:=ψ
  rw[List.zip_cons_cons] at I;rcases Am.mp I with rfl|I
  ·exact a
  ·exact jX.mem b t I
 |[],_::_,z,_,_=>z.elim
 |_::_,[],z,_,_=>z.elim
section
variable {w:World}
theorem Jg{g:Heap}{f:Addr}{kx px:Str}{scope:Scope}{kvs:List Value}{kS:Addr}{rk:Nat->Int}{body:Value->PUnit->Sem (ForInStep PUnit)}(K:lJ g f kx px scope kvs)(S:KeySc scope kx px)(I:A.depth<recursionLimit)(hn:g.get? kS=none)
 (hb:∀(x:Value) (s:Shared) (Q':ForInStep PUnit->Shared->Prop),wpAny (model prog w) A (call (.ref f) [x]) (λk s'=>wpAny (model prog w) A (Builtin.List.listUpdate (.ref kS) (·.push k)) (λ_ C=>Q' (.yield ⟨⟩) C) E s') (λ_ _=>False) s->wpAny (model prog w) A (body x ⟨⟩) Q' E s):
 ∀(ps:List<|Nat×Tok) (ks:List Value) (e:Nat) (s:Shared) (Q:PUnit->Shared->Prop),(∀b o,g.get? b=some o->s.heap.get? b=some o)->s.heap.get? kS=some (seqObj "list" ks.toArray e)->ks.length+ps.length<=100000->
  (∀x∈ps,x.1<2 ^ 40/\∃t,kvs[x.1]?=some (.int (rk x.1) t))->
  (∀h' tk j T,(∀b o,b≠kS->s.heap.get? b=some o->h'.get? b=some o)->h'.get? kS=some (seqObj "list" (ks++j).toArray T)->jX h' kS rk j ps->Q ⟨⟩ { s with heap:=h',toks:=tk })->
  wpAny (model prog w) A (forIn (ps.map itV) PUnit.unit body) Q E s
 |[],ks,e,s,Q,hg,hk,hz,hp,q=>by rw[Dm,Do];exact Ah (q s.heap s.toks [] e (λ_ _ _ h=>h) (by rw[AD];exact hk) trivial)
 |x::r,ks,e,s,Q,hg,hk,hz,hp,q=>by
  rw[AG,Cm];rw[AJ] at hz;obtain⟨a1,t,ht⟩:=hp x<|Ak ..;have big:(100000:Nat)+1<=sizeLine:=by rw[sizeLine_eq];exact DE _ _
  refine Aa<|hb (itV x) s _<|Rz (K.keeps hg) S I ht a1 λh1 l a k1 ha=>?_;have J:h1.get? kS=some (seqObj "list" ks.toArray e):=k1 _ _ hk;have s1:=xT h1 kS (Obj.mapSeq (·.push (.ref a)));have ea:ks.toArray.push (.ref a)=List.toArray (ks++[.ref a]):=by simp
  obtain⟨c2,a3⟩:∃c2,(h1.update kS (Obj.mapSeq (·.push (.ref a)))).get? kS=some (seqObj "list" (List.toArray<|ks++[.ref a]) c2):=⟨_,by rw[<-ea];exact get?_update_seq J (·.push (.ref a))⟩;have p:a≠kS:=λz=>by
   rw[z,J] at ha;have:=BF (λo:Option Obj=>o.map (·.cls)) ha;have z2:some (Value.type "list")=some (Value.type "tuple"):=this;injection z2 with z3
   injection z3 with z4
   exact absurd z4 (by decide)
  refine listUpdate_at (s:={ s with heap:=h1,toks:=l }) J rfl ?_ (by rw[Au];lia) (AZ (Nat.le_of_eq<|Bl ..) (by rw[Au];lia));refine Jg K S I hn hb r (ks++[.ref a]) c2 { s with heap:=h1.update kS (Obj.mapSeq (·.push (.ref a))),toks:=l } Q (λb o e=>?_) a3 (by rw[Ad,CG];lia) (λy hy=>hp y<|Ac _ hy) λh' tk j T kk a4 vs=>?_
  ·have nb:b≠kS:=λz=>by rw[z,hn] at e;cases e
   exact(s1.2 b nb).trans (k1 b o<|hg b o e)
  ·have U:∀b o,b≠kS->h1.get? b=some o->h'.get? b=some o:=λb o nb e=>kk b o nb<|(s1.2 b nb).trans e;refine q h' tk (.ref a::j) T (λb o nb e=>U b o nb<|k1 b o e) (by rw[a4,Ay];rfl) ⟨⟨a,t,x.2,rfl,p,U a _ p ha⟩,vs⟩
end
section
variable {w:World}
theorem RB{g:Heap}{kvs:List Value}{kS a:Addr}{rk:Nat->Int}{ps:List<|Nat×Tok}{e1 e0:Nat}{P:PySem.Fin->Shared->Prop}(K:lJ g f kx px scope kvs)(S:KeySc scope kx px)(I:A.depth<recursionLimit)(hn:g.get? kS=none)
 (hg:∀b o,g.get? b=some o->s.heap.get? b=some o) (hk:s.heap.get? kS=some (seqObj "list" #[] e0)) (ha:s.heap.get? a=some (seqObj "list" #[] e1)) (l:kS≠a) (hz:ps.length<=127)
 (hp:∀x∈ps,x.1<2 ^ 40/\∃t,kvs[x.1]?=some (.int (rk x.1) t)) (hB:∀x∈ps,((x.1:Nat):Int)<B) (nd:(ps.map (·.1)).Nodup)
 (h:∀h' tk (qs:List<|Nat×Tok) c,(∀b o,b≠kS->b≠a->s.heap.get? b=some o->h'.get? b=some o)->h'.get? a=some (seqObj "list" (qs.map itV).toArray c)->qs.Perm ps->(qs.Pairwise λx y=>rk x.1*B+(x.1:Int)<=rk y.1*B+(y.1:Int))->P (.done<|.ret .none) { s with heap:=h',toks:=tk }):
 wpAny (model prog w) A (ksk_rest a (.ref f) false (ps.map itV).toArray e1<|.ref kS) P E s:=by
 have big:(100000:Nat)+1<=sizeLine:=by rw[sizeLine_eq];exact DE _ _
 unfold ksk_rest;refine Aa<|Bt ?_;rw[List.forIn_toArray];refine Aa (Jg (rk:=rk) K S I hn (λx s' Q' hx=>?_) ps [] e0 s _ hg hk (by simp;lia) hp λh' tk ks e' keep J kv=>?_)
 ·refine Aa (wpAny_attempt<|AX hx (λk ac hk=>?_) λ_ _ hF=>hF.elim)
  try dsimp only
  exact Aa<|AX hk (λ_ s3 q=>Ah q) λ_ _ e=>e
 ·try dsimp only
  rw[Cn] at J;refine Aa<|listItems_at (s:={ s with heap:=h',toks:=tk }) J rfl ?_;have a1:h'.get? a=some (seqObj "list" #[] e1):=keep _ _ (AL l) ha;have len:ks.length=ps.length:=kv.len;obtain⟨T,C⟩:∃T,T=ks.zip ps:=⟨_,rfl⟩;have kT:∀t∈T,Gz h' kS rk t.1 t.2:=λt p=>kv.mem t<|C▸p;have e2:T.map (·.2)=ps:=by rw[C];exact List.map_snd_zip (by lia)
  have ez:ks.zip (ps.map itV)=T.map λt=>(t.1,itV t.2):=by rw[C,List.zip_map_right];rfl
  have mp:∀t∈T,t.2∈ps:=λt p=>by rw[<-e2];exact C3 p
  have nT:∀t∈T,num h' B (t.1,itV t.2)=rk t.2.1*B+(t.2.1:Int):=λt p=>by obtain⟨b,tt,u,r,x2,x3⟩:=kT t p;exact num_of r x3 rfl
  have al:∀x∈ps,(0:Int)<=((x.1:Nat):Int):=λ_ _=>by exact A6 _
  refine Rq (s:={ s with heap:=h',toks:=tk }) (vs:=ps.map itV) (ks:=ks) (B:=B) J a1 l (by rw[Ag];exact len) (by rw[Ag];exact hz) (λv hv=>?_) λh2 a3 xs c U hc pm pw=>?_
  ·obtain⟨j,hj⟩:=DA hv;have a4:j<ps.length:=by rw[<-len];exact(AN.mp hj).1
   have hm:(v,ps[j])∈T:=by rw[C];refine List.mem_iff_getElem?.mpr ⟨j,?_⟩;rw[DQ];exact⟨hj,Al a4⟩
   obtain⟨b,tt,u,r,x2,x3⟩:=kT _ hm;have r:v=.ref b:=r;exact⟨b,_,_,_,_,tt,u,r,x3,rfl,rfl,by exact A6 _,hB _<|mp _ hm⟩
  ·rw[ez] at pm;obtain⟨T',pT,a5⟩:=RA _ pm rfl;subst a5;have mT:∀t,t∈T'->t∈T:=λt=>pT.mem_iff.mp;refine h h2 a3 (T'.map (·.2)) c (λb o n1 n2 e=>?_) ?_ ?_ ?_
   ·rw[U b n1 n2];exact keep b o n1 e
   ·rw[hc,Cq,Cq];rfl
   ·rw[<-e2];exact pT.map _
   ·refine Cr.mpr<|Cu (λ{x y} hx hy z=>?_)<|Cr.mp pw;rw[nT x<|mT x hx,nT y<|mT y hy] at z;exact z
theorem w_sortedK{kvs:List Value}{rk:Nat->Int}{ps:List<|Nat×Tok}(K:lJ s.heap f kx px scope kvs)(S:KeySc scope kx px)(j:A.in1.in1.depth<recursionLimit)
 (hl:s.heap.IsList l (ps.map itV).toArray) (hz:ps.length<=127)
 (hp:∀x∈ps,x.1<2 ^ 40/\∃t,kvs[x.1]?=some (.int (rk x.1) t)) (hB:∀x∈ps,((x.1:Nat):Int)<B) (nd:(ps.map (·.1)).Nodup)
 (h:∀h' tk (qs:List<|Nat×Tok) D c,s.heap.objs.size<=D->(∀b o,s.heap.get? b=some o->h'.get? b=some o)->h'.get? D=some (seqObj "list" (qs.map itV).toArray c)->qs.Perm ps->(qs.Pairwise λx y=>rk x.1*B+(x.1:Int)<=rk y.1*B+(y.1:Int))->Q (.ref D) { s with heap:=h',toks:=tk }):
 wpAny (model prog w) A (call (.builtin "sorted") [.ref l] [(Str.ofString "key",.ref f)]) Q E s:=by
 have big:(100000:Nat)+1<=sizeLine:=by rw[sizeLine_eq];lia
 have a3:(ps.map itV).length<=100000:=by rw[Ag];lia
 refine call_function_entry_kw kind_sorted plain_sorted entry_sorted (ksk_s1 _ _) ?_;unfold Builtin.«sorted»;refine Aa (m:=checkCount "sorted" 1 1 _)<|Ah ?_;refine Aa<|collect_list hl ?_ (by exact Es);refine Aa<|wpAny_newList ?_ (by lia);obtain⟨g1,C⟩:∃g1,g1=(s.heap.push<|seqObj "list" #[] 0).update s.heap.objs.size (Obj.mapSeq (· ++ (ps.map itV).toArray)):=⟨_,rfl⟩;have T:g1.objs.size=s.heap.objs.size+1:=by rw[C,Heap.size_update,size_push']
 have gk:∀b o,s.heap.get? b=some o->g1.get? b=some o:=λb o q=>by have J:b<s.heap.objs.size:=um q;rw[C,Heap.get?_update_ne _ _ _ _<|A9 J];exact sy _ q
 show wpAny _ _ _ _ _ { s with heap:=((s.heap.push<|seqObj "list" #[] 0).update s.heap.objs.size (Obj.mapSeq (· ++ (ps.map itV).toArray))).push (seqObj "list" (ps.map itV).toArray 0) };rw[<-C];have I:(g1.push<|seqObj "list" (ps.map itV).toArray 0).get? g1.objs.size=some (seqObj "list" (ps.map itV).toArray 0):=vb _ rfl;have keep:∀b o,s.heap.get? b=some o->(g1.push<|seqObj "list" (ps.map itV).toArray 0).get? b=some o:=λb o q=>sy _<|gk b o q;refine Aa<|A4<|wpAny_call_entry_kw slot_list_sort ⟨_,I,rfl⟩ entry_list_sort ?body<|ksk_l1 _ _
 case body=>
  obtain⟨D,eD⟩:∃D,D=g1.objs.size:=⟨_,rfl⟩;rw[<-eD] at I ⊢;show wpAny (model prog w) A.in1.in1 (Builtin.«list.sort» ⟨[.ref D],[(Str.ofString "key",.ref f)]⟩) _ _ _;rw[ksk_t1];obtain⟨g2,p⟩:∃g2,g2=g1.push (seqObj "list" (ps.map itV).toArray 0):=⟨_,rfl⟩;rw[<-p] at I keep ⊢;have s1:=xT g2 D<|Obj.mapSeq λ_=>(#[]:Array Value);obtain⟨e1,r⟩:∃e1,(g2.update D<|Obj.mapSeq λ_=>(#[]:Array Value)).get? D=some (seqObj "list" #[] e1):=⟨_,get?_update_seq I λ_=>#[]⟩;have nD:∀b o,s.heap.get? b=some o->b≠D:=λb o q z=>by have J:b<s.heap.objs.size:=um q;rw[z,eD,T] at J;exact Nat.not_succ_lt_self J
  unfold ksk_tree;refine Aa<|listItems_at (s:={ s with heap:=g2 }) I rfl ?_;refine Aa (listUpdate_at (s:={ s with heap:=g2 }) I rfl ?_ (by rw[Au];exact Es)<|Bb _);refine Aa<|seqEpoch_at r rfl ?_;refine Aa (wpAny_newTuple ?_ (by show(ps.map itV).length<=_;lia));refine Aa<|wpAny_newList ?_<|Bb _;refine A4 ?_;obtain⟨g3,U⟩:∃g3,g3=(g2.update D<|Obj.mapSeq λ_=>(#[]:Array Value)).push (seqObj "tuple" (ps.map itV).toArray 0):=⟨_,rfl⟩;have k3:∀b o,s.heap.get? b=some o->g3.get? b=some o:=λb o q=>by rw[U];exact sy _<|(s1.2 b<|nD b o q).trans<|keep b o q
  have d3:g3.get? D=some (seqObj "list" #[] e1):=by rw[U];exact sy _ r
  show wpAny (model prog w) A.in1.in1 (ksk_rest D (.ref f) false (ps.map itV).toArray _<|.ref ((g2.update D<|Obj.mapSeq λ_=>(#[]:Array Value)).push<|seqObj "tuple" (ps.map itV).toArray 0).objs.size) _ _ { s with heap:=((g2.update D<|Obj.mapSeq λ_=>(#[]:Array Value)).push<|seqObj "tuple" (ps.map itV).toArray 0).push (seqObj "list" #[] 0) };rw[<-U];have a1:(g3.push<|seqObj "list" #[] 0).get? g3.objs.size=some (seqObj "list" #[] 0):=vb _ rfl;refine RB (s:={ s with heap:=g3.push (seqObj "list" #[] 0) }) (g:=s.heap) (kS:=g3.objs.size) (a:=D) (rk:=rk) (B:=B) K S j (Heap.get?_none_of_le ?_) (λb o q=>sy _<|k3 b o q) a1 (sy _ d3) ?_ hz hp hB nd λh' tk qs c kp hD pm pw=>?_
  ·have l1:g3.objs.size=g1.objs.size+2:=by rw[U,size_push',Heap.size_update,p,size_push']
   rw[l1,T];exact AZ (CN _)<|Bi _ 2
  ·exact(A9<|um d3).symm
  ·refine⟨_,rfl,Ah ⟨_,rfl,h h' tk qs D c (by rw[eD,T];exact CN _) (λb o q=>?_) hD pm pw⟩⟩;exact kp b o (A9<|um<|k3 b o q) (nD b o q)<|sy _<|k3 b o q
end
end TS
namespace L2
open PySem PySem.Spec PyProof.Rows
theorem pI{i j:Int}{t u:Tok}{c:Value}(l:List Value)(h:TriplesOk l):TriplesOk (l++[.int i t,.int j u,c]):=by
 fun_induction TriplesOk l with
 |case1=>trivial
 |case2 _ _ _ _ _ rest I=>exact I h
 |case3=>exact h.elim
theorem uc{i j:Int}{t u:Tok}{c I:Value}(l:List Value)(h:TriplesOk l)(e:codeAmong pos (l++[.int i t,.int j u,c])=some I):codeAmong pos l=some I\/I=c:=by
 fun_induction TriplesOk l with
 |case1=>
  right;have e:(if i==pos.line&&j==pos.col then some c else none)=some I:=e;split at e
  ·cases e;rfl
  ·cases e
 |case2 a _ b _ d rest J=>
  have e:(if a==pos.line&&b==pos.col then some d else codeAmong pos (rest++[.int i t,.int j u,c]))=some I:=e;show(if a==pos.line&&b==pos.col then some d else codeAmong pos rest)=some I\/I=c;split at e
  ·rename_i z;rw[AB z];exact .inl e
  ·rename_i z;rw[AC z];exact J h e
 |case3=>exact h.elim
structure DZ(K:Af)(eK:Value)(P:Addr):Prop where
 ex:∃c oc,eK=.ref c/\K.lookup c=some oc/\∀h:Heap,h.get? c=some oc->PySem.W.CodeHd h c P
 bm:∃bm ob,PySem.W.nsIn K mainGlobals "__builtins__"=some (some<|.ref bm)/\bm≠builtinsNs/\bm≠mainGlobals/\K.lookup bm=some ob/\ob.cls=.type "module" /\ ob.dict=some builtinsNs/\ob.data=.plain
theorem sD:∀{l:List Nat} {us:List Value},zw (l.map λi:Nat=>V.int<|0+(i:Int)) us->∃ps:List (Nat×Tok),us=ps.map TS.itV/\ps.map (·.1)=l
 |[],_,.nil=>⟨[],rfl,rfl⟩
 |i::r,_,.cons (b:=u) h t=>by obtain⟨ps,J,U⟩:=sD (l:=r) t;obtain⟨I,g⟩:=(show ∃I,u=Value.int (0+(i:Int)) I from h);refine⟨(i,I)::ps,?_,by rw[AG,U]⟩;rw[AG,J,g];show _=Value.int (i:Int) I::_;rw[B4]
theorem r6:∀ps:List (Nat×Tok),zw (ps.map λx=>V.int ((x.1:Nat):Int))<|ps.map TS.itV
 |[]=>.nil
 |x::r=>.cons ⟨x.2,rfl⟩<|r6 r
def RC(P:Addr)(q:Str)(J:Nat)(te:TE):TE:=λσ H Q=>te σ H λv H1=>∃l I,∃n:Nat,∃rks:List Int,v=.ref l/\H1 l=some (.lst ((List.range n).map λi:Nat=>V.int<|0+(i:Int)))/\σ[J]?=some (some<|.ref I)/\H1 I=some (.lst<|rks.map V.int)/\rks.length=n/\n<=127/\qW H1 P q/\
 ∀H2 D (qs:List Nat),(∀b u,b≠P->H1 b=some u->H2 b=some u)->qW H2 P q->H1 D=none->D≠P->H2 D=some (.lst (qs.map λi:Nat=>V.int (i:Int)))->qs.Perm (List.range n)->(qs.Pairwise λi j=>rks.getD i 0*1000000+(i:Int)<=rks.getD j 0*1000000+(j:Int))->Q (.ref D) H2
theorem RE{kk cell:Addr}{J:Arguments}{p:Value}{Q:VK}(I:qx X pins σ H s)(S:TS.KeySc fx kx px)(hr:X.A.depth+3<recursionLimit)
 (hf:s.heap.get? f=some (PySem.W.kla_obj name eH J (TS.keyBody kx px p1 p2 p3 p4 p5 x1) fx [(kx,cell)] pm c' p)) (a1:s.heap.CodeRec (.ref c') eH) (r:s.heap.IsCell cell<|some<|.ref kk)
 (hb:∀v:Value,bindArgs (PySem.W.kla_fn name eH J (TS.keyBody kx px p1 p2 p3 p4 p5 x1) fx [(kx,cell)] pm (.ref c') p) ⟨[v],[]⟩=pure [(px,v)])
 (hl:H l=some (.lst ((List.range n).map λi:Nat=>V.int<|0+(i:Int)))) (hk:H kk=some (.lst<|rks.map V.int)) (hn:rks.length=n) (hz:n<=127)
 (q:∀D (qs:List Nat),H D=none->qs.Perm (List.range n)->(qs.Pairwise λi j=>rks.getD i 0*1000000+(i:Int)<=rks.getD j 0*1000000+(j:Int))->Q (.ref D) (upd H D<|.lst (qs.map λi:Nat=>V.int (i:Int)))):
 wpAny (model X.prog X.w) X.A (call (.builtin "sorted") [.ref l] [(Str.ofString "key",.ref f)]) (EP X pins σ Q) X.xe s:=by
 obtain⟨a5,rv,pl,_⟩:=I.list<|aF.of hl;obtain⟨g,rk,pk,_⟩:=I.list<|aF.of hk;obtain⟨ps,rfl,U⟩:=sD rv;have lk:g.length=n:=by rw[<-rk.length,Ag,hn]
 have lp:ps.length=n:=by have:=BF List.length U;rwa[Ag,BY] at this
 have big:(100000:Nat)<=sizeLine:=by decide
 refine jy I.tk<|TS.w_sortedK (rk:=λi=>rks.getD i 0) (B:=1000000) (kvs:=g) ⟨⟨name,eH,J,p1,p2,p3,p4,p5,x1,pm,p,c',cell,kk,hf,a1,r,pk.isList,hb⟩,I.nolimit⟩ S ?_ pl.isList (by lia) (λx hx=>?_) (λx hx=>?_) ?_ λh' tk qs D c hD keep hg T pw ht=>?_
 ·show X.A.depth<recursionLimit;lia
 ·have C:x.1∈List.range n:=by rw[<-U];exact C3 hx
  have a3:=A7.mp C;refine⟨by lia,?_⟩;have e1:(rks.map V.int)[x.1]?=some (V.int<|rks.getD x.1 0):=by rw[Aq,Al (by lia),Bu,Al (by lia)];rfl
  obtain⟨u,e2,r2⟩:=Words.Paired.getP rk e1;obtain⟨t,rfl⟩:=(show ∃t,u=Value.int (rks.getD x.1 0) t from r2);exact⟨t,e2⟩
 ·have C:x.1∈List.range n:=by rw[<-U];exact C3 hx
  have a3:=A7.mp C;omega
 ·rw[U];exact CV
 ·have a4:H D=none:=I.hok.fresh hD;refine⟨.ref D,_,I.laid (t':=tk) (o:=.lst ((qs.map (·.1)).map λi:Nat=>V.int (i:Int))) keep hD ?_,rfl,q D (qs.map (·.1)) a4 ?_ ?_⟩
  ·refine⟨?_,qs.map TS.itV,c,?_,hg⟩
   ·rw[Ag,Ag,T.length_eq];lia
   ·rw[Cq];exact r6 qs
  ·rw[<-U];exact T.map _
  ·exact Cr.mpr pw
theorem qx.tabbed{P:Addr}{ps more:Array Value}{oc fo:Obj}{tk:Nat}(I:qx X pins σ H s)(C:H P=some (.tbl ps))(hx:Heap.ExtBut P s.heap h')(U:h'.get? P=some (PySem.W.tabObj<|ps++more))
 (hc:s.heap.objs.size<=c') (g:h'.get? c'=some oc) (ht:0<tk):qx X pins σ (upd (upd H P<|.tbl<|ps++more) c'<|.frz oc<|.own 0) { s with heap:=h'.push fo,toks:=tk }:=by
 have nc:H c'=none:=I.hok.fresh hc;have p:∀b,H b=none->b≠P:=λb e z=>by rw[z,C] at e;cases e
 have j:∀b u,H b=some u->b≠c':=λb u e z=>by rw[z,nc] at e;cases e
 have l:∀b o,s.heap.get? b=some o->b≠c':=λb o e=>A9<|AQ (um e) hc;have t:∀b o,b≠P->s.heap.get? b=some o->(h'.push fo).get? b=some o:=λb o n e=>sy _<|hx b o n e;have J:∀b u,H b=some u->(∀ps,u≠.tbl ps)->b≠P:=λb u e d z=>by rw[z,C] at e;cases e;exact d _ rfl
 refine I.step (ch:=[]) (g':=s.gens) (d':=s.drawn) (t':=tk) (λ_ z=>nomatch z) (λb o _ _ _ e n=>t b o (p b n) e) (λb o _ _ _ e n=>⟨o.slots,t b o (p b n) e⟩) (λb o _ e n=>?_) (λb o _ e=>?_) (λb xs e=>?_) (λb o u e=>?_) (λb qs e=>?_) (λm hm=>?_) (λb u e=>?_) I.bare ht
 ·rw[qr<|l b o e,qr<|p b n];exact n
 ·by_cases c:b=P
  ·subst c;exact⟨_,sy _ U⟩
  ·exact⟨o,t b o c e⟩
 ·rw[qr<|j b _ e,qr (J b _ e λ_ z=>by cases z)];exact e
 ·rw[qr<|j b _ e,qr (J b _ e λ_ z=>by cases z)];exact e
 ·rw[qr<|j b _ e];by_cases c:b=P
  ·subst c;rw[C] at e;cases e;exact⟨more,zk⟩
  ·rw[qr c];exact⟨#[],by rw[e];simp⟩
 ·exact(hm.extBut hx<|p _ I.free).push _
 ·by_cases c:b=c'
  ·subst c;rw[zk] at e;cases e;exact⟨sy _ g,_,sy _ g⟩
  ·rw[qr c] at e;by_cases d:b=P
   ·subst d;rw[zk] at e;cases e;exact sy _ U
   ·rw[qr d] at e;refine(I.hok b u e).stay (λa v T r=>t a v ?_ r) (λa r=>?_) (λa xs r=>?_)
    ·rcases T with rfl|T
     ·exact d
     ·exact J a _ T λ_ z=>by cases z
    ·rw[qr<|j a _ r,qr (J a _ r λ_ z=>by cases z)];exact r
    ·rw[qr<|j a _ r,qr (J a _ r λ_ z=>by cases z)];exact r
theorem RF{te:TE}{J:Arguments}{U p:Pos}{ik:Nat}{P:Addr}{q:Str}(hg:Gl X "sorted")(hm:X.mg "sorted"=none)(he:PE X e te)(S:TS.KeySc fx kx px)(C:DZ X.K X.env.code P)(hr:X.A.depth+3<recursionLimit)
 (hq:X.env.qual ++ "<lambda>" = q) (bn:X.N[ik]?=some kx) (aL:X.env.scope.names.lookup kx=some .cell) (aR:∃cell,X.env.cells.lookup kx=some cell/\closureFor fx X.env=pure [(kx,cell)])
 (ba:defaultsOf J X.env=([],[])) (hb:∀(name eH:Str) (cl:List<|Str×Addr) (pm cd ct v:Value),bindArgs (PySem.W.kla_fn name eH J (TS.keyBody kx px p1 p2 p3 p4 p5 x1) fx cl pm cd ct) ⟨[v],[]⟩=pure [(px,v)])
 (h1:starEach [e] X.env=(false,eval e X.env)::starEach [] X.env:=by rfl) (h2:(backTo pos<|starEach [e] X.env).any (·.1)=false:=by rfl)
 (h3:backTo pos (starEach [e] X.env)=(false,eval e X.env)::backTo pos (starEach [] X.env):=by rfl):
 PE X (.Call (.Name "sorted" p) [e] [⟨some "key",.Lambda J (TS.keyBody kx px p1 p2 p3 p4 p5 x1) fx U,p0⟩] pos) (RC P q ik te):=by
 intro a1 s σ H Q I h;refine wpAny_Call_Name_kw<|fF I hg hm (by decide +kernel:bootBuiltins "sorted"=some (.builtin "sorted")) ?_ (by decide) (by decide);refine PyProof.Rows.callWith_kw ?_ h3 h2;rw[h3];refine Ev<|aE (he a1 s σ H _ I h) λv s1 ψ=>?_;obtain⟨x,H1,g,rx,l,kk,n,rks,ev,hl,hs,hk,hn,hz,T,qq⟩:=ψ;refine EY ?_;subst ev;cases (show v=Value.ref l from rx);show wpAny _ _ (evalAll ((do let v <-eval (.Lambda J (TS.keyBody kx px p1 p2 p3 p4 p5 x1) fx U) X.env;standAt pos;pure v)::[])) _ _ s1;refine wpAny_evalAll_cons<|Aa ?_;obtain⟨cell,a4,av⟩:=aR;obtain⟨c,bp,bb,lc,hC⟩:=C.ex;obtain⟨bm,ob,b1,b2,b3,b4,b5,b6,b7⟩:=C.bm;obtain⟨al,tP,tok,a5⟩:=T;have bc:s1.heap.Ns mainGlobals X.mg:=g.ok.mod.glob.keeps g.bk;have bd:s1.heap.get? P=some (PySem.W.tabObj al):=g.hok P _ tP;have be:PySem.W.CodeHd s1.heap c P:=hC _<|g.kIn c bp lc;have a3:∀b o,X.base.get? b=some o->b≠P:=λb o e z=>by have:=(g.bs b o e).2;rw[z,tP] at this;cases this
 have ax:=g.ok.mod.kin bm ob b4;have hB:s1.heap.BuiltinsAt X.mg P:=⟨bm,ob,C5 g.ok.mod.kin g.ok.mod.glob b1,b2,b3,a3 _ _ ax,(g.bs _ _ ax).1,b5,b6,b7⟩;have bq:mainGlobals≠P:=by obtain⟨o,es,ep,e,hd,_⟩:=g.ok.mod.glob;exact a3 _ _ e
 have ac:s1.heap.IsCell cell (some<|.ref kk):=by
  obtain⟨m,_,bS⟩:=g.loc;obtain⟨u,ru,lk⟩:=bS ik kx _ bn hs<|.inr<|.inl aL;cases (show u=Value.ref kk from ru);rcases lk with⟨k1,_⟩|⟨_,c2,e2,ca⟩
  ·have k1:X.env.scope.names.lookup kx=some .local:=k1;rw[aL] at k1;cases k1
  ·rw[a4] at e2;cases e2;exact ca
 refine PySem.W.kla_eval ba ?_;rw[hq];have x8:∀(s2:Shared) (H2:Hp) (f j:Addr) (r pm:Value),qx X a1 σ H2 s2->s2.heap.get? f=some (PySem.W.kla_obj "<lambda>" q J (TS.keyBody kx px p1 p2 p3 p4 p5 x1) fx [(kx,cell)] pm j r)->s2.heap.CodeRec (.ref j) q->s2.heap.IsCell cell (some<|.ref kk)->
  (∀b u,b≠P->H1 b=some u->H2 b=some u)->qW H2 P q->(∀b,H2 b=none->H1 b=none)->
  wpAny (model X.prog X.w) X.A (do standAt pos;pure (Value.ref f)) (λv s'=>wpAny (model X.prog X.w) X.A (evalAll []) (λvs cb=>wpAny (model X.prog X.w) X.A (call (.builtin "sorted") [.ref l]<|[Str.ofString "key"].zip<|v::vs) (EP X a1 σ Q) X.xe cb) X.xe s') X.xe s2:=by
  intro s2 H2 f j r pm I2 g1 g2 g3 g4 g5 g6;refine Aa<|wpAny_standAt<|Ah<|wpAny_evalAll_nil ?_;have lP:l≠P:=λz=>by rw[z,tP] at hl;cases hl
  have kP:kk≠P:=λz=>by rw[z,tP] at hk;cases hk
  refine RE (n:=n) (rks:=rks) I2 S hr g1 g2 g3 (λv=>hb _ _ _ _ _ _ v) (g4 _ _ lP hl) (g4 _ _ kP hk) hn hz λD qs hD ck pw=>?_;have bf:D≠P:=λz=>by obtain⟨cw,e2,_⟩:=g5;rw[z,e2] at hD;cases hD
  refine qq _ D qs (λb u n e=>?_) ?_ (g6 D hD) bf zk ck pw
  ·rw[qr<|zo (g4 b u n e) hD];exact g4 b u n e
  ·exact g5.keep (qr<|AL bf) λb o u e=>by rw[qr<|zo e hD];exact e
 cases hf:codeAmong U al.toList with
 |some cv=>
  obtain⟨j,oc,vs,t,cm,f1,f2,f3⟩:=a5 U cv hf;subst cm;refine jy g.tk<|PySem.W.kla_makeFunctionHit (mg:=X.mg) av g.ok.glob bc bb be bd tok hf hB λr h' tk bg cy ht=>?_;have I2:qx X a1 σ H1 { s1 with heap:=h'.push { cls:=.type "function",data:=.func (PySem.W.kla_fn "<lambda>" q J (TS.keyBody kx px p1 p2 p3 p4 p5 x1) fx [(kx,cell)] ((X.mg "__name__").getD .none) (.ref j) r) },toks:=tk }:=g.kept (t':=tk) λb o e=>sy _<|bg b o e;obtain⟨au,_⟩:=I2.hok j _ f1;refine x8 _ H1 _ j r _ I2 (vb _ rfl) ⟨j,oc,vs,t,rfl,au,f2,f3⟩ ?_ (λb u _ e=>e) ⟨al,tP,tok,a5⟩ λb e=>e;obtain⟨o,e1,e2⟩:=ac;exact⟨o,sy _<|bg _ _ e1,e2⟩
 |none=>
  refine jy g.tk<|PySem.W.kla_makeFunction (mg:=X.mg) av g.ok.glob bc bb be bd tok hf bq hB λj r h' tk hx bh cz bi cn ht=>?_;obtain⟨c2,oc,vs,t,e2,au,f2,f3⟩:=bi;cases e2;have I2:=g.tabbed (fo:=PySem.W.kla_obj "<lambda>" q J (TS.keyBody kx px p1 p2 p3 p4 p5 x1) fx [(kx,cell)] ((X.mg "__name__").getD .none) j r) tP hx cn bh au ht;have nc:H1 j=none:=g.hok.fresh bh;have cP:j≠P:=λz=>by rw[z,tP] at nc;cases nc
  refine x8 _ _ _ j r _ I2 (vb _ rfl) ⟨j,oc,vs,t,rfl,sy _ au,f2,f3⟩ ?_ (λb u n e=>?_) ?_ λb e=>?_
  ·obtain⟨o,e1,e2⟩:=ac;have nP:cell≠P:=λz=>by have:=g.freeC kx cell a4;rw[z,tP] at this;cases this
   exact⟨o,sy _<|hx _ _ nP e1,e2⟩
  ·rw[qr<|zo e nc,qr n];exact e
  ·refine⟨al++#[rawInt U.line,rawInt U.col,.ref j],by rw[qr<|AL cP,zk],?_,λbj cv z=>?_⟩
   ·rw[Be];exact pI _ tok
   ·rw[Be] at z;rcases uc _ tok z with z|z
    ·obtain⟨d',od,cq,t',k1,k2,k3⟩:=a5 bj cv z;have nP:d'≠P:=λz=>by rw[z,tP] at k2;cases k2
     exact⟨d',od,cq,t',k1,by rw[qr<|zo k2 nc,qr nP];exact k2,k3⟩
    ·exact⟨j,oc,vs,t,z,zk,f2,f3⟩
  ·by_cases d:b=j
   ·subst d;exact nc
   ·rw[qr d] at e;by_cases d2:b=P
    ·subst d2;rw[zk] at e;cases e
    ·rw[qr d2] at e;exact e
end L2
namespace L3
open PySem L2
def Jh(Pt:Addr)(q:Str)(J:Nat)(te:xt)(τ:jw)(L:qo)(Q:YK):Prop:=te τ L λy L1=>match y with
 |.ref l=>fP L1 l λys=>∃(n:Nat) (rks:List Int) (I:Addr),ys=a8 0 n/\zQ τ J=some (.ref I)/\L1 I=some (.lst<|rks.map Y.int)/\rks.length=n/\n<=127/\L1 Pt=some (.tb q)/\
  ∀(D:Addr) (qs:List Nat),L1 D=none->qs.Perm (List.range n)->(qs.Pairwise λi j=>rks.getD i 0*1000000+(i:Int)<=rks.getD j 0*1000000+(j:Int))->Q (.ref D) (qi L1 D<|.lst (qs.map λi:Nat=>Y.int (i:Int)))
 |_=>False
theorem oZ{G:G3}{H:Hp}:∀{l:List Nat} {xs:List V},xr G H (l.map λi:Nat=>Y.int<|0+(i:Int)) xs->xs=l.map λi:Nat=>V.int<|0+(i:Int)
 |[],_,h=>h
 |_::_,_,ψ=>by obtain⟨x,I,e,r,s⟩:=ψ;subst e;cases r;rw[oZ s];rfl
theorem iG{G:G3}{H:Hp}:∀{l:List Int} {xs:List V},xr G H (l.map Y.int) xs->xs=l.map V.int
 |[],_,h=>h
 |_::_,_,ψ=>by obtain⟨x,I,e,r,s⟩:=ψ;subst e;cases r;rw[iG s];rfl
theorem sL{G:G3}{H:Hp}:∀qs:List Nat,xr G H (qs.map λi:Nat=>Y.int (i:Int)) (qs.map λi:Nat=>V.int (i:Int))
 |[]=>rfl
 |_::r=>⟨_,_,rfl,rfl,sL r⟩
theorem RG{I:Arguments}{U p:Pos}{r:Nat}{q:Str}(hg:Gl X "sorted")(hm:X.mg "sorted"=none)(he:QE X e te)(S:TS.KeySc fx kx px)(C:DZ X.K X.env.code Pt)(hr:X.A.depth+3<recursionLimit)
 (hq:X.env.qual ++ "<lambda>" = q) (t:X.N[r]?=some kx) (a1:X.env.scope.names.lookup kx=some .cell) (g:∃cell,X.env.cells.lookup kx=some cell/\closureFor fx X.env=pure [(kx,cell)])
 (j:defaultsOf I X.env=([],[])) (hb:∀(name eH:Str) (cl:List<|Str×Addr) (pm cd ct v:Value),bindArgs (PySem.W.kla_fn name eH I (TS.keyBody kx px p1 p2 p3 p4 p5 x1) fx cl pm cd ct) ⟨[v],[]⟩=pure [(px,v)])
 (h1:starEach [e] X.env=(false,eval e X.env)::starEach [] X.env:=by rfl) (h2:(backTo pos<|starEach [e] X.env).any (·.1)=false:=by rfl)
 (h3:backTo pos (starEach [e] X.env)=(false,eval e X.env)::backTo pos (starEach [] X.env):=by rfl):
 QE X (.Call (.Name "sorted" p) [e] [⟨some "key",.Lambda I (TS.keyBody kx px p1 p2 p3 p4 p5 x1) fx U,p0⟩] pos) (Jh Pt q r te):=
 EF (RF hg hm he S C hr hq t a1 g j hb h1 h2 h3) λσ H Q τ L Q3 rs rl z k=>by
  refine⟨τ,L,_,rs,rl,z,λv H1 y L1 t1 J rv z=>?_⟩;cases y with
  |ref l=>
   obtain⟨ys,e1,n,a3,kk,rfl,e2,e3,hn,hz,eP,qq⟩:=ko z;cases rv;obtain⟨xs,h1,r1⟩:=J l _ e1;obtain⟨xk,h2,r2⟩:=J kk _ e3;have T:qW H1 Pt q:=J Pt _ eP;cases oZ r1;cases iG r2;obtain⟨v,hv,rv⟩:=rs.get r _<|rF _ _ e2;cases rv;refine⟨l,kk,n,a3,rfl,h1,hv,h2,hn,hz,T,λH2 D qs kp T2 hD a5 a4 pm pw=>?_⟩;have tb:∃o,H1 Pt=some (.tbl o):=let ⟨o,e,_⟩:=T;⟨o,e⟩;have t2:jg H1 H2:=λa u i h=>kp a u (λc=>by obtain⟨o,e⟩:=tb;rw[c,e] at h;cases h;cases i) h
   refine k _ _ _ _ (t1.trans t2) (λa u e=>?_) (by rfl)<|qq D qs (J.none hD) pm pw;by_cases c:a=D
   ·subst c;rw[q9] at e;cases e;exact⟨_,a4,sL qs⟩
   ·rw[qg c] at e;by_cases d:a=Pt
    ·subst d;rw[eP] at e;cases e;exact T2
    ·obtain⟨x,hx⟩:=(J a u e).ex;exact(J a u e).keep t2 (by rw[hx];exact kp a x d hx)
  |_=>exact z.elim
structure GA(K:Af)(x eH:Str)(st:Stmt)(f:Addr)(fd:FuncData)(Pt:Addr):Prop where
 ex:∃(oc:Value) (od:Option Addr) (kV hQ pm:Value) (an:Option Addr) (eK ct:Value) (nE:Array<|Option Value),
  fd=PySem.W.fnOf x eH (xw st) (jc st) (ql st) .none kV hQ pm an eK ct/\K.lookup f=some ⟨oc,od,.func fd,nE⟩/\PySem.W.codeIn K eK eH=true/\DZ K eK Pt
 kp:PySem.W.keepIn K (.ref f)=true
theorem RH{P:Program}{w:World}{K:Af}{N:List Str}{k:Nat}{sp:zh}(F:GA K x eH st f fd Pt)(S:ww N ps<|ql st)(len:∀ys L Q,sp ys L Q->ys.length=ps.length)
 (I:∀(eK:Value) (A:Around) (outer:List Env) (s:Shared) (H:Hp) (E:XK),DZ K eK Pt->kz k (A.deeper<|PyProof.Rows.envOfC eH (ql st) s.heap.objs.size f eK)->
  ∃t,nO (br CX0 P w K mg base N eH (ql st) f eK A outer s H E).nox (jc st) t/\∀ys L Q,sp ys L Q->t { nx:=λ_ L'=>ip Q .non L',rt:=ip Q } (eX N ys) L):Fn3 P w K mg base (k+1) f fd ps sp:=by
 obtain⟨oc,od,kV,g,pm,an,eK,ct,j,rfl,lk,U,C⟩:=F.ex;have F0:Fun K x eH st f _:=⟨⟨oc,od,kV,g,pm,an,eK,ct,j,rfl,lk,U⟩,F.kp⟩;refine F2 lk U S (λvs H Q E ψ=>by obtain⟨ys,L,l,o,rl,z,_⟩:=ψ;rw[<-o.length];exact len ys L l z) λA outer s H vs Q E hr ψ=>?_;obtain⟨ys,L,l,o,rl,z,k⟩:=ψ;obtain⟨t,ht,q⟩:=I eK A outer s H E C hr;refine⟨_,gZ.nox ht,eX N ys,L,_,io o,rl,q ys L l z,?_⟩;exact⟨λσ p τ L' r a3 J ψ=>(by obtain⟨L2,T,q2⟩:=ψ;exact k .non p .non L2 r (J.sub T) (by rfl) q2),λv p y L' r J a1 ψ=>(by obtain⟨L2,T,q2⟩:=ψ;exact k v p y L2 r (J.sub T) a1 q2),λ_ _ _ _ _ _ _ z=>z.elim,λ_ _ _ _ _ _ _ z=>z.elim⟩
def qY(Pt:Addr)(q:Str):zh:=λys L Q=>∃I:List Int,ys=[.sq<|I.map Y.int]/\I.length<=63/\L=qi (λ_=>none) Pt (.tb q)/\∀L',Q (.bl true) L'
def spTopT(q:Str)(K:Af)(Pt:Addr):Sp:=λvs H Q _=>∃(a:Addr) (I:List Int),vs=[.ref a]/\SqF K H a (I.map V.int)/\I.length<=63/\H Pt=some (.tbl #[])/\∀H',Q (.bl true) H'
theorem RI{q:Str}{vs:List V}{Q:VK}{E:XK}(h:spTopT q G.K Pt vs H Q E):dn G (qY Pt q) vs H Q E:=by
 obtain⟨a,I,rfl,J,U,g,z⟩:=h;refine⟨[.sq<|I.map Y.int],qi (λ_=>none) Pt<|.tb q,λy _=>y=.bl true,xr.one ⟨a,_,rfl,J,uF I⟩,(λb u e=>?_),⟨I,rfl,U,rfl,λ_=>rfl⟩,?_⟩
 ·by_cases c:b=Pt
  ·subst c;rw[q9] at e;cases e;exact⟨#[],g,trivial,λpos o z=>by cases z⟩
  ·rw[qg c] at e;cases e
 ·rintro v j y p _ _ l rfl;cases l;exact z j
end L3
namespace L2
open PySem PySem.Spec PyProof.Rows
def lessK(Pt:Addr):Af->Af
 |[]=>[]
 |(a,o)::r=>if a==Pt then lessK Pt r else(a,o)::lessK Pt r
theorem xj{Pt a:Addr}(h:a≠Pt):∀K:Af,(lessK Pt K).lookup a=K.lookup a
 |[]=>rfl
 |(b,o)::r=>by
  unfold lessK;by_cases c:(b==Pt)=true
  ·rw[AB c,xj h r,BB];have:(a==b)=false:=by have I:=eq_of_beq c;subst I;exact Ep h
   rw[this]
  ·rw[AC c,BB,BB,xj h r]
theorem vj{Pt:Addr}:∀K:Af,(lessK Pt K).lookup Pt=none
 |[]=>rfl
 |(b,o)::r=>by
  unfold lessK;by_cases c:(b==Pt)=true
  ·rw[AB c];exact vj r
  ·rw[AC c,BB];have:(Pt==b)=false:=by cases d:Pt==b with|false=>rfl|true=>exact absurd (beq_iff_eq.mpr (eq_of_beq d).symm) c
   rw[this];exact vj r
theorem lZ{a:Addr}{K:Af}{o:Obj}(e:(lessK Pt K).lookup a=some o):a≠Pt/\K.lookup a=some o:=by
 by_cases c:a=Pt
 ·subst c;rw[vj] at e;cases e
 ·rw[xj c] at e;exact⟨c,e⟩
theorem lessK_in{K:Af}(X:K.In h):(lessK Pt K).In h:=λa o e=>X a o (lZ e).2
structure Ji(K:Af)(Pt:Addr):Prop where
 tab:K.lookup Pt=some (PySem.W.tabObj #[])
 hd:∃c,∀h:Heap,K.In h->PySem.W.CodeHd h c Pt
 st:Pt≠cStatics
section
variable {K:Af}(T:K.lookup Pt=some (PySem.W.tabObj #[]))
include T
theorem ns_dn{a:Addr}{r:Option<|Option Value}(e:PySem.W.nsIn K a x=r):PySem.W.nsIn (lessK Pt K) a x=r:=by
 rw[<-e];unfold PySem.W.nsIn;by_cases c:a=Pt
 ·subst c;rw[vj,T]
 ·rw[xj c]
theorem lk_dn{a:Addr}{o:Obj}(e:K.lookup a=some o)(n:o.cls≠.none):(lessK Pt K).lookup a=some o:=by
 rw[xj ?_]
 ·exact e
 ·rintro rfl;rw[T] at e;cases e;exact n rfl
theorem code_dn{q:Str}(e:PySem.W.codeIn K cd q=true):PySem.W.codeIn (lessK Pt K) cd q=true:=by
 unfold PySem.W.codeIn at e ⊢;split at e
 ·rename_i c;by_cases d:c=Pt
  ·subst d;rw[T] at e;simp at e
  ·rw[xj d];exact e
 ·cases e
theorem RJ :PySem.W.ownIn (lessK Pt K) x v=PySem.W.ownIn K x v:=by
 unfold PySem.W.ownIn;split
 ·rfl
 ·rename_i a;by_cases d:a=Pt
  ·subst d;rw[vj,T]
  ·rw[xj d];split
   ·exact ns_dn T rfl
   ·rfl
 ·rfl
theorem rj{x:Str}:∀l:List Value,PySem.W.alongIn (lessK Pt K) x l=PySem.W.alongIn K x l
 |[]=>rfl
 |c::r=>by unfold PySem.W.alongIn;rw[RJ T,rj r]
theorem RK :PySem.W.findIn (lessK Pt K) v x=PySem.W.findIn K v x:=by
 unfold PySem.W.findIn;split
 ·rfl
 ·rename_i a;by_cases d:a=Pt
  ·subst d;rw[vj,T]
  ·rw[xj d];split
   ·exact rj T _
   ·rfl
 ·rfl
theorem ui{a:Addr}(n:a≠Pt):PySem.W.specialIn (lessK Pt K) (.ref a) x=PySem.W.specialIn K (.ref a) x:=by unfold PySem.W.specialIn PySem.W.typeIn;dsimp only;rw[xj n];congr 1;funext t;exact RK T
theorem keep_dn{f:Value}(e:PySem.W.keepIn K f=true):PySem.W.keepIn (lessK Pt K) f=true:=by
 unfold PySem.W.keepIn at e ⊢;split at e
 ·rename_i a;by_cases d:a=Pt
  ·subst d;rw[T] at e;simp at e
  ·rw[xj d,ui T d];exact e
 ·cases e
end
theorem zZ{P:Program}{w:World}{K:Af}{mb:Str->Option Value}{CX:wN}{k:Nat}{a:Addr}{I:Shared}{T:List Int}
 (KX:K.In I.heap) (TI:Ji K Pt) (a1:I.heap.Ns mainGlobals mg) (hb:I.heap.Ns builtinsNs mb) (av:∀x:Str,x ≠ "__name__" -> mb x=bootBuiltins x) (a3:I.heap.NoLimit) (hg:I.gens=#[]) (ax:0<I.toks)
 (p:I.heap.get? a=some { cls:=.type "list",data:=.seq vs.toArray }) (hi:IntsAre vs T) (hl:T.length<=sizeLine) (hr:kz k callerA)
 (F:∀base:Heap,(lessK Pt K).In base->base.Ns mainGlobals mg->ay P w (lessK Pt K) mg base CX k fa fd [x] sp) (l:∀(s:Shared) (u:Value),BindsTo s fd ⟨[u],[]⟩ [(x,u)])
 (aL:∀H:Hp,H Pt=some (.tbl #[])->(H a=none\/∃o xs,H a=some (.frz o<|.lst xs))->aF (lessK Pt K) H a (T.map V.int)->sp [.ref a] H (λv _=>v=.bl true) λ_ _ _=>False)
 (aR:∀H e s',CX [] H I (λ_ _ _=>False) e s'->False):
 codeAny (model P w) callerA (.call (.ref fa) ⟨[.ref a],[]⟩) (λr s'=>r=.ok (.ret<|.bool true)/\OldK I.heap s'.heap/\s'.os=I.os/\AllBare s'.gens) I:=by
 have rv:=o6 hi;have a4:=hi.length;have hP:I.heap.get? Pt=some (PySem.W.tabObj #[]):=KX Pt _ TI.tab;have U:a≠Pt:=λz=>by rw[z,hP] at p;cases p
 have core:∀H:Hp,H Pt=some (.tbl #[])->(∀b,b≠a->b≠Pt->H b=none)->(H a=none\/∃o xs,H a=some (.frz o<|.lst xs))->aF (lessK Pt K) H a (T.map V.int)->(∀u,H a=some u->xo P w H I.heap a u)->(H a≠none->K.lookup a=none)->
  codeAny (model P w) callerA (.call (.ref fa) ⟨[.ref a],[]⟩) (λr s'=>r=.ok (.ret<|.bool true)/\OldK I.heap s'.heap/\s'.os=I.os/\AllBare s'.gens) I:=by
  intro H HP Hn HO HS a5 ba;have ac:dZ P w H I.heap:=λb u e=>by
   by_cases c:b=a
   ·subst c;exact a5 u e
   ·by_cases d:b=Pt
    ·subst d;rw[HP] at e;cases e;exact hP
    ·rw[Hn b c d] at e;cases e
  have J:∀{b:Addr} {o:Obj},I.heap.get? b=some o->H b=none->(pC I.heap H).get? b=some o:=λe n=>Lj e n;have bb:∀{b:Addr} {o:Obj} {t:Array DictEntry} {C:Nat},I.heap.get? b=some o->o.data=.dict t C->H b=none:=λ{b o t C} e d=>by
   refine Hn b (λz=>?_) λz=>?_
   ·subst z;rw[p] at e;cases e;have d':Data.seq vs.toArray _=Data.dict t C:=d;cases d'
   ·subst z;rw[hP] at e;cases e;have d':Data.fields _=Data.dict t C:=d;cases d'
  have g:∀{b:Addr} {m:Str->Option Value},I.heap.Ns b m->(pC I.heap H).Ns b m:=λ{b m} ψ=>(by obtain⟨o,t,C,e,d,r⟩:=ψ;exact ⟨o,t,C,J e<|bb e d,d,r⟩);have al:(lessK Pt K).In (pC I.heap H):=λb o e=>by
   obtain⟨n,e⟩:=lZ e;refine J (KX b o e) ?_;by_cases c:b=a
   ·subst c;cases q:H b with|none=>rfl|some u=>rw[ba (by rw[q];simp)] at e;cases e
   ·exact Hn b c n
  have hM:Mod (lessK Pt K) mg (pC I.heap H):=⟨al,g a1,⟨mb,g hb,av⟩,let ⟨mc,h1,h2⟩:=a3;⟨mc,g h1,h2⟩⟩;have e0:Fo P w (lessK Pt K) mg (pC I.heap H) callerA [] I H:=⟨rfl,hM,λb o e=>Lk e,Nat.le_of_eq<|zA _ _,trivial,λb hb=>absurd (show b∈([]:List Addr) from hb) (by simp),ac,.of_eq hg,ax⟩;refine codeAny_mono ((F _ al<|g a1).run callerA [] I H ⟨[.ref a],[]⟩ [.ref a] [.ref a] _ _ hr e0 (l I<|.ref a) (.cons rfl .nil)<|aL H HP HO HS) λr s' h=>?_;cases r with
  |error e=>exact(aR H e s' h).elim
  |ok fl=>
   cases fl with
   |next=>exact False.elim h
   |brk=>exact False.elim h
   |cont=>exact False.elim h
   |ret u=>
    obtain⟨v,H',os,bare,un,j,r',q,_⟩:=h;have q':v=.bl true:=q;subst q';obtain rfl:u=Value.bool true:=r';obtain⟨more,em⟩:=un.tbls Pt _ HP;have gP:s'.heap.get? Pt=some (PySem.W.tabObj<|#[]++more):=j Pt _ em;have kp:∀b o,b≠Pt->I.heap.get? b=some o->s'.heap.get? b=some o:=λb o n e=>by
     have au:H b=none->s'.heap.get? b=some o:=λz=>un.keep b o e z (by intro z;exact absurd (show b∈([]:List Addr) from z) (by simp)) (by simp);by_cases c:b=a
     ·subst c;rcases HO with z|⟨ob,xs,z⟩
      ·exact au z
      ·have z2:=un.frzs _ _ _ z;obtain⟨e1,_⟩:=ac _ _ z;obtain⟨e2,_⟩:=j _ _ z2;rw[e] at e1;cases e1;exact e2
     ·exact au<|Hn b c n
    obtain⟨c,hc⟩:=TI.hd;refine⟨rfl,⟨λb o e=>?_,λb o e=>?_⟩,os,bare⟩
    ·by_cases n:b=Pt
     ·subst n;rw[hP] at e;cases e;exact .inr<|.inl ⟨((hc _ KX).tab hP).isCodeTable,rfl,#[],more,rfl,gP⟩
     ·exact .inl<|kp b o n e
    ·by_cases n:b=Pt
     ·subst n;exact⟨_,gP⟩
     ·exact⟨o,kp b o n e⟩
 cases hk:K.lookup a with
 |some o=>
  have e:=KX a o hk;rw[p] at e;cases e;refine core (λb=>if b=Pt then some (.tbl #[]) else none) (AB rfl) (λb _ n=>AC n) (.inl<|AC U) (.inr ⟨_,vs.toArray,_,(xj U K).trans hk,rfl,rfl,rfl,by rw[Au,a4];exact hl,by simpa using rv⟩) (λu z=>by have z':=(AC U).symm.trans z;cases z') λz=>absurd (AC U) z
 |none=>
  refine core (λb=>if b=a then some (.frz { cls:=.type "list",data:=.seq vs.toArray }<|.lst<|T.map V.int) else if b=Pt then some (.tbl #[]) else none) ((AC<|AL U).trans<|AB rfl) (λb n1 n2=>(AC n1).trans<|AC n2) (.inr ⟨_,_,AB rfl⟩) (.inl<|.inr ⟨_,AB rfl⟩) (λu z=>?_) λ_=>hk;have z':=(AB rfl).symm.trans z;cases z';exact⟨p,by rw[Ag];exact hl,vs,_,rv,p⟩
theorem walk_ofZT{l:PySem.W.OpenLaw}{k:Nat}{q:Program}{loose:List Str}{XP:(Str->Option Value)->Heap->Prop}{as0:List Addr}{N t:Nat}{d:DefRec}{K:Params->Af}{CX:wN}{sp:Af->Addr->Sp}
 (hn:l.most=some n) (r:n<=sizeLine) (C:d.params.defaults=[]) (hr:kz k callerA) (ek:∀P,as0=(K P).map (·.1)) (a1:0<t)
 (F:∀(w:World) (mg:Str->Option Value) (fa:Addr) (h:Heap),(K w.params).In h->h.Ns mainGlobals mg->mg d.name=some (.ref fa)->
  ∃Pt:Addr,Ji (K w.params) Pt/\∃fd:FuncData,(∀(s:Shared) (u:Value),BindsTo s fd ⟨[u],[]⟩ [(x,u)])/\
   ∀base:Heap,(lessK Pt<|K w.params).In base->base.Ns mainGlobals mg->ay l.prog w (lessK Pt<|K w.params) mg base CX k fa fd [x] (sp (lessK Pt<|K w.params) Pt))
 (a3:∀(K:Af) (Pt:Addr) (H:Hp) (a:Addr) (p:List Int),p.length<=n->H Pt=some (.tbl #[])->(H a=none\/∃o xs,H a=some (.frz o<|.lst xs))->aF K H a (p.map V.int)->sp K Pt [.ref a] H (λv _=>v=.bl true) λ_ _ _=>False)
 (a4:∀(H:Hp) (s:Shared) (e:Value) (s':Shared),CX [] H s (λ_ _ _=>False) e s'->False):
 PySem.W.WalkX q loose XP (PySem.W.X.obsZ as0) (PySem.W.X.valZ K N t) l.row.toRowW d [] (λf vs=>PySem.call f vs):=by
 refine Att.attach_callZ hn C ek a1 λw ac U mg mb fa o pm cd al a vs p G KX tk ho hd au a5 j J I hg=>?_;obtain⟨Pt,TI,fd,hb,hF⟩:=F w mg fa _ KX G.T.g a5;exact zZ KX TI G.T.g G.T.b G.T.builtins G.T.nolimit hg tk j J (AZ I r) hr hF hb (λH hP hO hS=>a3 _ Pt H a p I hP hO hS) λH e s'=>a4 H U e s'
end L2
namespace L3
open PySem L2
theorem top_startT{q:Str}:∀(K:Af) (Pt:Addr) (H:Hp) (a:Addr) (I:List Int),I.length<=63->H Pt=some (.tbl #[])->(H a=none\/∃o xs,H a=some (.frz o<|.lst xs))->aF K H a (I.map V.int)->spTopT q K Pt [.ref a] H (λv _=>v=.bl true) λ_ _ _=>False:=by
 intro K Pt H a I J U g j;refine⟨a,I,rfl,?_,J,U,λ_=>rfl⟩;rcases j with(h|⟨o,h⟩)|h
 ·rcases g with z|⟨o,xs,z⟩<;>rw[h] at z<;>cases z
 ·exact .inl ⟨o,h⟩
 ·exact .inr h
structure DefInT(K:Af)(x:Str)(st:Stmt)(Pt:Addr):Prop where
 ex:∃(f:Addr) (kV hQ pm:Value) (an:Option Addr) (eK ct:Value),PySem.W.nsIn K mainGlobals x=some (some<|.ref f)/\GA K x x st f (PySem.W.fnOf x x (xw st) (jc st) (ql st) .none kV hQ pm an eK ct) Pt
theorem DefInT.use{K:Af}(D:DefInT K x st Pt)(X:K.In h)(G:h.Ns mainGlobals mg)
 (I:∀(kV hQ pm:Value) (an:Option Addr) (eK ct:Value) (us:List Value),us.length=ps.length->bindArgs (PySem.W.fnOf x x (xw st) (jc st) (ql st) .none kV hQ pm an eK ct) ⟨us,[]⟩=pure (ps.zip us)):
 ∃f fd,GA K x x st f fd Pt/\dR K fd ps []/\mg x=some (.ref f):=by
 obtain⟨f,kV,hQ,pm,an,eK,ct,a,F⟩:=D.ex;exact⟨f,_,F,.all<|I kV hQ pm an eK ct,C5 X G a⟩
end L3
namespace L2
open PySem PySem.Spec PyProof.Rows
section
variable {hE:St}
theorem qx.ren(M:List Str)(I:qx X pins σ H s)(J:M.length=X.N.length)(hs:hE.length=σ.length)(h:∀(j:Nat) v,hE[j]?=some (some v)->σ[j]?=some (some v)/\X.N[j]?=M[j]?):qx { X with N:=M } pins hE H s:=by obtain⟨m,U,l⟩:=I.loc;have o:=I.ok;exact { ok:=⟨o.mod,o.kind,o.glob,o.blt,o.above,o.inj,o.has,o.cab,o.hd,o.frames,o.stk,o.exf,o.bs,o.bsz,o.noex,o.exfs,o.funs,o.frf⟩,os:=I.os,bare:=I.bare,base:=I.base,cell:=I.cell,free:=I.free,freeC:=I.freeC,pin:=I.pin,hok:=I.hok,tk:=I.tk,len:=(by rw[hs,I.len];exact J.symm),loc:=⟨m,U,λi x v g p r=>by obtain⟨a,b⟩:=h i v p;exact l i x v (b.trans g) a r⟩ }
theorem sj{v:V}(h:(σ.set i none)[j]?=some (some v)):j≠i/\σ[j]?=some (some v):=by
 by_cases c:i=j
 ·subst c;rw[Dl] at h;cases e:σ[i]? with|none=>rw[e] at h;cases h|some o=>rw[e] at h;cases h
 ·rw[Bd c] at h;exact⟨AL c,h⟩
def RL(i:Nat)(t:TS):TS:=λD σ H=>t { nx:=λhE H'=>D.nx (hE.set i none) H',rt:=D.rt,bk:=λhE H'=>D.bk (hE.set i none) H',ct:=λhE H'=>D.ct (hE.set i none) H' } (σ.set i none) H
theorem RM{t:TS}(h:PS { X with N:=X.N.set i x } st t):PS X st (RL i t):=by
 intro g s p H D I z;have C:qx { X with N:=X.N.set i x } g (p.set i none) H s:=I.ren _ (by rw[BA]) (by rw[BA]) λj v e=>by obtain⟨a,b⟩:=sj e;exact⟨b,by rw[Bd<|AL a]⟩
 refine aE (h g s _ H _ C z) λf o q=>?_;have back:∀{U:St} {l:Hp},qx { X with N:=X.N.set i x } g U l o->qx X g (U.set i none) l o:=λ{U l} J=>
  qx.ren (X:={ X with N:=X.N.set i x }) X.N J (by show X.N.length=(X.N.set i x).length;rw[BA]) (by rw[BA]) λj v e=>by obtain⟨a,b⟩:=sj e;exact⟨b,by show(X.N.set i x)[j]?=_;rw[Bd<|AL a]⟩
 cases f with
 |next=>obtain⟨U,l,J,q⟩:=q;exact⟨_,l,back J,q⟩
 |brk=>obtain⟨U,l,J,q⟩:=q;exact⟨_,l,back J,q⟩
 |cont=>obtain⟨U,l,J,q⟩:=q;exact⟨_,l,back J,q⟩
 |ret u=>obtain⟨v,U,l,J,r,q⟩:=q;exact⟨v,_,l,back J,r,q⟩
end
end L2
namespace L3
open PySem L2
def gg:jw->Nat->jw
 |[],_=>[]
 |_::r,0=>none::r
 |o::r,i+1=>o::gg r i
theorem tE:∀(τ:jw) (i:Nat),gg τ i=τ.set i none
 |[],_=>rfl
 |_::_,0=>rfl
 |o::r,i+1=>by unfold gg;rw[tE r i];rfl
def Jj(i:Nat)(t:vh)(D:xb)(τ:jw)(L:qo):Prop:=t { nx:=λI L'=>D.nx (gg I i) L',rt:=D.rt,bk:=λI L'=>D.bk (gg I i) L',ct:=λI L'=>D.ct (gg I i) L' } (gg τ i) L
theorem xn.forget(h:xn G H σ τ)(i:Nat):xn G H (σ.set i none) (gg τ i):=by
 rw[tE];refine⟨by rw[BA,BA];exact h.len,λj y e=>?_⟩;by_cases c:i=j
 ·subst c;rw[Dl] at e;cases I:τ[i]? with|none=>rw[I] at e;cases e|some o=>rw[I] at e;cases e
 ·rw[Bd c] at e ⊢;exact h.get j y e
theorem RN(x:Str){t:vh}(h:QS { X with N:=X.N.set i x } st t):QS X st (Jj i t):=
 EJ (RM h) λD T H p L D3 r C z k=>⟨gg p i,L,_,r.forget i,C,z,
  ⟨λU g j l o I J q=>k.nx _ g _ l o (I.forget i) J q,k.rt,λU g j l o I J q=>k.bk _ g _ l o (I.forget i) J q,λU g j l o I J q=>k.ct _ g _ l o (I.forget i) J q⟩⟩
theorem iq:bootBuiltins "min"=some (.builtin "min"):=by decide +kernel
def RP(x:Y)(lo hi:Option Int)(L:qo)(Q:YK):Prop:=match x with
 |.tup ys=>¬(HT.sIx ys.length 0 lo=0/\HT.sIx ys.length ys.length hi=ys.length)/\Q (.tup<|fq ys lo hi) L
 |_=>False
theorem GB(K:Af)(P:Program)(w:World)(U:X.K=K:=by rfl)(g:X.prog=P:=by rfl)(hw:X.w=w:=by rfl):rN X (Fu ⟨K,P,w⟩ RP):=by
 subst U g hw;refine rN.imp alt λx lo J H Q ψ=>?_;obtain⟨y,L,Q3,j,l,z,k⟩:=ψ;cases y with
 |tup o=>
  obtain⟨a,t,e,sq,r⟩:=j;obtain⟨C,T⟩:=z;exact⟨a,t,e,sq,by rw[<-r.length];exact C,λp I=>k _ _ (.tup<|fq o lo J) L (EE I) (l.skip I) ⟨p,_,rfl,.inl<|.inl zk,(qZ r lo J).ts<|EE I⟩ T⟩
 |_=>exact z.elim
theorem vY{a:Addr}{keep:qo->Prop}(h:∀H L,jg H₀ H->zy G H L->keep L->∃xs,dS G.K H a xs/\xr G H ys xs):iu G H₀ (FU G.K a) ys keep where
 go:=λi H L t I J U=>by
  obtain⟨xs,sq,r⟩:=h H L t I J;have:i<xs.length:=by rw[<-r.length];exact U
  exact⟨xs,xs[i],sq,Al this⟩
 yld:=λi H L x o y t I J g ψ=>by obtain⟨e,f⟩:=ψ;subst e;obtain⟨xs,sq,r⟩:=h _ L t I J;obtain⟨p,j,l⟩:=r.get g;have:=f xs sq;rw[j] at this;cases this;exact⟨ED _,I,l⟩
 stop:=λH L t I J=>by obtain⟨xs,sq,r⟩:=h H L t I J;exact⟨xs,sq,by rw[r.length];exact Ao _⟩
theorem vF(h:QE X e te):QI X tg e (OH te):=PI.imq (Mr h) λσ H R j L R3 l o z k=>by
 refine⟨j,L,_,l,o,z,λv p y C T I J U=>?_⟩;cases y with
 |tup ys=>
  obtain⟨a,g,e,sq,r⟩:=J;exact⟨a,e,⟨g,sq⟩,k _ p ys (λ_=>True) C T I (vY λH L t _ _=>⟨g,dS.ts sq t,r.ts t⟩) U⟩
 |_=>exact U.elim
theorem RQ{k:Nat}(I:kz k A):A.depth+3<recursionLimit:=by have:=I.dp;omega
abbrev lamQ:Str:="_law_order.<locals>.<lambda>"
open PySem L2 Words
def jC(ks:List<|Option Kn):Prop:=∀(p:Nat) (e:Bool) (i j:Nat),ks[p]?=some (some<|.nd e i j)->i<p/\j<p
def yV(ks:List<|Option Kn)(rks:List Int):Prop:=∀(p:Nat) (e:Bool) (i j:Nat),p<rks.length->ks[p]?=some (some<|.nd e i j)->rks.getD i 0<rks.getD p 0/\rks.getD j 0<rks.getD p 0
theorem mo{r:Int}(h:i<rks.length):(rks++[r]).getD i 0=rks.getD i 0:=by rw[Bu,Bu,AF h]
theorem RS{r:Int}:(rks++[r]).getD rks.length 0=r:=by rw[Bu,Av<|Ao _,DI];rfl
theorem yV.snoc{ks:List<|Option Kn}{r:Int}{k:Option Kn}(ok:jC ks)(h:yV ks rks)(U:ks[rks.length]?=some k)(g:∀e i j,k=some (.nd e i j)->rks.getD i 0<r/\rks.getD j 0<r):yV ks (rks++[r]):=by
 intro p e i j I J;obtain⟨l,o⟩:=ok p e i j J;rw[Ad] at I;have I:p<rks.length+1:=I;rw[mo (show i<rks.length by lia),mo (show j<rks.length by lia)];by_cases c:p<rks.length
 ·rw[mo c];exact h p e i j c J
 ·have:p=rks.length:=by lia
  subst this;rw[RS];exact g e i j<|Bc<|U.symm.trans J
def dM(ks:List<|Option Kn)(qs:List Nat):Prop:=qs.Pairwise λx y=>∀e i j,ks[x]?=some (some<|.nd e i j)->y≠i/\y≠j
theorem RT{ks:List<|Option Kn}{qs:List Nat}(ok:jC ks)(h:yV ks rks)(I:rks.length=ks.length)(hw:qs.Pairwise λi j=>rks.getD i 0*1000000+(i:Int)<=rks.getD j 0*1000000+(j:Int)):dM ks qs:=by refine hw.imp λ{x y} z e i j ex=>?_;obtain⟨J,U⟩:=ok x e i j ex;obtain⟨g,l⟩:=h x e i j (by rw[I];exact jb ex) ex;exact⟨λc=>by subst c;lia,λc=>by subst c;lia⟩
theorem tI(h:i<rks.length):(rks.map Y.int)[i]?=some (.int<|rks.getD i 0):=by rw[Aq,Bu,Al h];rfl
theorem aK(a:jf)(b:Y)(r:List<|jf×Y)(k:jf):kn ((a,b)::r) k=if a=k then some b else kn r k:=by
 unfold kn;rw[Bz];by_cases h:a=k
 ·rw[AB h,show decide ((a,b).1=k)=true from AM h];rfl
 ·rw[AC h,show decide ((a,b).1=k)=false from AE h]
theorem sS(k I:jf)(y:Y):∀kvs:List (jf×Y),kn (kvs.map λJ=>if J.1=k then(J.1,y) else J) I=if I=k then(kn kvs I).map (λ_=>y) else kn kvs I
 |[]=>by rw[Dm];split<;>rfl
 |(a,b)::r=>by
  have U:=sS k I y r;rw[AG,aK];by_cases h:a=k
  ·rw[AB<|show(a,b).1=k from h,aK,U];by_cases h2:I=k
   ·rw[AB h2,AB h2,AB<|h.trans h2.symm,AB<|h.trans h2.symm];rfl
   ·rw[AC h2,AC h2,AC λz=>h2<|z.symm.trans h,AC λz=>h2<|z.symm.trans h]
  ·rw[AC<|show ¬(a,b).1=k from h,aK,U];by_cases h2:I=k
   ·rw[AB h2,AB h2,AC λz=>h<|z.trans h2,AC λz=>h<|z.trans h2]
   ·rw[AC h2,AC h2]
theorem uB(k I:jf)(y:Y):∀kvs:List (jf×Y),kn (kvs++[(k,y)]) I=(kn kvs I).or (if k=I then some y else none)
 |[]=>by rw[Cn,aK];have:kn [] I=none:=rfl;rw[this];split<;>rfl
 |(a,b)::r=>by rw[Dy,aK,aK,uB k I y r];split<;>rfl
theorem tf(k:jf):∀kvs:List (jf×Y),(kvs.any λI=>decide<|I.1=k)=(kn kvs k).isSome
 |[]=>rfl
 |(a,b)::r=>by
  rw[Ct,aK,tf k r];by_cases h:a=k
  ·rw[AB h,show decide ((a,b).1=k)=true from AM h];rfl
  ·rw[AC h,show decide ((a,b).1=k)=false from AE h];rfl
theorem sM(kvs:List<|jf×Y)(k I:jf)(y:Y):kn (mI kvs k y) I=if I=k then some y else kn kvs I:=by
 unfold mI;rw[tf];cases e:kn kvs k with
 |some v=>
  rw[AB<|show(some v).isSome=true from rfl,sS];by_cases h:I=k
  ·rw[AB h,AB h,h,e];rfl
  ·rw[AC h,AC h]
 |none=>
  rw[AC (by simp),uB];by_cases h:I=k
  ·rw[AB h,h,e,AB rfl];rfl
  ·rw[AC h,AC λz=>h z.symm];cases kn kvs I<;>rfl
theorem uI(kvs:List<|jf×Y)(k:jf)(y:Y):(mI kvs k y).length<=kvs.length+1:=by
 unfold mI;split
 ·rw[Ag];omega
 ·rw[Ad];simp
def iV(f:Nat->Nat):Option Kn->Option Kn
 |some (.nd e i j)=>some<|.nd e (f i)<|f j
 |k=>k
theorem vZ{f g:Nat->Nat}:∀{k:Option Kn},(∀e i j,k=some (.nd e i j)->f i=g i/\f j=g j)->iV f k=iV g k
 |none,_=>rfl
 |some (.lf _ _),_=>rfl
 |some (.nd e i j),h=>by obtain⟨a,b⟩:=h e i j rfl;show some (Kn.nd e (f i)<|f j)=some (Kn.nd e (g i)<|g j);rw[a,b]
structure vC(ks:List<|Option Kn)(ps:List Nat)(f:Nat->Nat)(wd:List<|Option Kn):Prop where
 at_:∀p∈ps,∀k,ks[p]?=some k->wd[f p]?=some (iV f k)
 inj:∀p∈ps,∀q∈ps,f p=f q->p=q
 only:∀x k,wd[x]?=some (some k)->∃p∈ps,x=f p
 ok:jC wd
theorem vC.nil(ks:List<|Option Kn)(f:Nat->Nat):vC ks [] f []:=⟨λp I=>(Bv I).elim,λp I=>(Bv I).elim,λx k h=>(by simp at h),λp e i j h=>(by simp at h)⟩
theorem jC.gap(h:jC wd):jC (wd++[none]):=by
 intro p e i j I;by_cases c:p<wd.length
 ·rw[AF c] at I;exact h p e i j I
 ·rw[Av (by exact yq)] at I;cases J:p-wd.length with|zero=>rw[J] at I;cases I|succ m=>rw[J] at I;cases I
theorem vC.gap{ks:List<|Option Kn}{ps:List Nat}{f:Nat->Nat}(h:vC ks ps f wd):vC ks ps f (wd++[none]):=by
 refine⟨λp U k g=>iy<|h.at_ p U k g,h.inj,λx k I=>?_,h.ok.gap⟩;by_cases c:x<wd.length
 ·rw[AF c] at I;exact h.only x k I
 ·rw[Av (by lia)] at I;cases J:x-wd.length with|zero=>rw[J] at I;cases I|succ m=>rw[J] at I;cases I
theorem vC.lt{ks:List<|Option Kn}{ps:List Nat}{f:Nat->Nat}(h:vC ks ps f wd)(I:p∈ps)(J:p<ks.length):f p<wd.length:=jb<|h.at_ p I _<|Al J
theorem vC.step{ks:List<|Option Kn}{ps:List Nat}{f:Nat->Nat}(h:vC ks ps f wd)(r:∀p∈ps,p<ks.length){k:Option Kn}(C:p∉ps)(T:ks[p]?=some k)(o:∀x∈ps,∀e i j,ks[x]?=some (some<|.nd e i j)->i∈ps/\j∈ps)(J:∀e i j,k=some (.nd e i j)->i∈ps/\j∈ps):
 vC ks (ps++[p]) (λx=>if x=p then wd.length else f x) (wd++[iV f k]):=by
 have old:∀x∈ps,(if x=p then wd.length else f x)=f x:=λx I=>AC λ(c:x=p)=>C<|c▸I;have ren:∀l,(∀e i j,l=some (.nd e i j)->i∈ps/\j∈ps)->iV (λx=>if x=p then wd.length else f x) l=iV f l:=λl U=>vZ λe i j z=>by obtain⟨a,b⟩:=U e i j z;exact⟨old i a,old j b⟩
 refine⟨λx I l U=>?_,λx I y g e=>?_,λx l I=>?_,λx e i j I=>?_⟩
 ·rcases Aj.mp I with I|I
  ·show(wd++[iV f k])[if x=p then wd.length else f x]?=_;rw[old x I,ren l λe i j z=>o x I e i j (by rw[U,z])];exact iy<|h.at_ x I l U
  ·have I:=An.mp I;subst I;rw[T] at U;cases U;show(wd++[iV f k])[if x=x then wd.length else f x]?=_;rw[AB rfl,ren k J];exact fB wd _ []
 ·have e:(if x=p then wd.length else f x)=if y=p then wd.length else f y:=e
  rcases Aj.mp I with I|I<;>rcases Aj.mp g with g|g
  ·rw[old x I,old y g] at e;exact h.inj x I y g e
  ·cases An.mp g;rw[old x I,AB rfl] at e;have:=h.lt I<|r x I;lia
  ·cases An.mp I;rw[old y g,AB rfl] at e;have:=h.lt g<|r y g;lia
  ·rw[An.mp I,An.mp g]
 ·by_cases c:x<wd.length
  ·rw[AF c] at I;obtain⟨q,t,e⟩:=h.only x l I;exact⟨q,Ap _ t,by rw[e];exact(old q t).symm⟩
  ·refine⟨p,Ai _<|An.mpr rfl,?_⟩;have:=jb I;rw[Ad] at this;have:x<wd.length+1:=this;show x=if p=p then wd.length else f p
   rw[AB rfl];lia
 ·by_cases c:x<wd.length
  ·rw[AF c] at I;exact h.ok x e i j I
  ·have:=jb I;rw[Ad] at this;have:x<wd.length+1:=this;have:x=wd.length:=by lia
   subst this;rw[Av<|Ao _,DI] at I;have I:iV f k=some (.nd e i j):=Bc I;cases k with
   |none=>cases I
   |some k=>
    cases k with
    |lf=>cases I
    |nd e' i' j'=>
     obtain⟨a,b⟩:=J e' i' j' rfl;cases I;exact⟨h.lt a<|r _ a,h.lt b<|r _ b⟩
theorem mh{ks:List<|Option Kn}{qs:List Nat}(ok:jC ks)(pm:qs.Perm<|List.range ks.length)(g:dM ks qs)(J:qs[n]?=some p){e:Bool}(h:ks[p]?=some (some<|.nd e i j)):i∈qs.take n/\j∈qs.take n:=by
 obtain⟨T,l2⟩:=ok p e i j h;have hl:=jb h;have r:=jb J;have ind:∀x,x<ks.length->x≠p->(∀y∈qs.drop (n+1),y≠x)->x∈qs.take n:=λx C ne l=>by
  have I:x∈qs:=pm.mem_iff.mpr<|A7.mpr C;have o:qs=qs.take n++p::qs.drop (n+1):=by rw[Al r] at J;rw[<-Bc J,CC,Bh]
  rw[o] at I;rcases Aj.mp I with I|I
  ·exact I
  ·rcases Am.mp I with I|I
   ·exact absurd I ne
   ·exact absurd rfl<|l x I
 have t:∀y∈qs.drop (n+1),y≠i/\y≠j:=λy U=>by
  have o:qs=qs.take n++p::qs.drop (n+1):=by rw[Al r] at J;rw[<-Bc J,CC,Bh]
  unfold dM at g;rw[o] at g;have:=(AS.mp g).2.1;exact(List.pairwise_cons.mp this).1 y U e i j h
 exact⟨ind i (by exact rp) (by exact Hx) λy U=>(t y U).1,ind j (by exact rp) (by exact Hx) λy U=>(t y U).2⟩
def ao(p q:Nat×Nat):Prop:=p.1<q.1\/(p.1=q.1/\p.2<=q.2)
def sR(p:Nat×Nat):Int×Int:=((p.1:Int),(p.2:Int))
theorem RU{p q:Nat×Nat}(h:sR p=sR q):p=q:=by obtain⟨a,b⟩:=p;obtain⟨c,d⟩:=q;have h1:(a:Int)=c:=BF Prod.fst h;have h2:(b:Int)=d:=BF Prod.snd h;rw[BK.mp h1,BK.mp h2]
theorem rh(ps:List<|Nat×Nat):qt ps=(ps.map sR).map Fi:=by rw[Cq];rfl
theorem oY{a:Addr}{ps:List<|Nat×Nat}{Q:YK}(U:L a=some (.lst<|qt ps))(g:∀p∈ps,p.2<1000000)(nd:ps.Nodup)(j:ps.length<=127)
 (q:∀D qs,L D=none->qs.Perm ps->qs.Pairwise ao->Q (.ref D) (qi L D<|.lst<|qt qs)):kj [.ref a] L Q:=by
 refine qw U ⟨ps.map sR,rh ps,λp l=>?_,?_,by rw[Ag];exact j,λD qs o pm t=>?_⟩
 ·obtain⟨r,C,rfl⟩:=BS.mp l;have:=g r C;exact⟨A6 _,by show((r.2:Nat):Int)<1000000;omega⟩
 ·exact sw (λx _ y _ e=>RU e) nd
 ·obtain⟨T,pT,rfl⟩:=oX sR pm rfl;rw[<-rh];refine q D T o pT<|(Cr.mp t).imp λ{x y} z=>?_;unfold ao;rcases z with z|⟨I,J⟩
  ·left;have z:((x.1:Nat):Int)<y.1:=z;lia
  ·right;have I:((x.1:Nat):Int)=y.1:=I;have J:((x.2:Nat):Int)<=y.2:=J;exact⟨by lia,by lia⟩
structure pK(L0:qo)(ks:List<|Option Kn)(qs:List Nat)(d w D:Addr)(i ex:Nat)(f:Nat->Nat)(wd:List<|Option Kn)(kvs:List<|jf×Y)(L:qo):Prop where
 sub:qh L0 L
 hd:L d=some (.dct kvs)
 hw:L w=some (.lst<|jz wd)
 hD:L D=some (.lst<|nY qs)
 len:kvs.length<=i
 val:∀p:Nat,kn kvs (.inl (p:Int))=if p∈qs.take i then some (.int (f p:Int)) else none
 gap:vC ks (qs.take i) f wd
 wlen:wd.length<=2*i+ex
def Jk(f:Nat->Nat)(p:Nat×Nat):Nat×Nat:=(min (f p.1)<|f p.2,max (f p.1)<|f p.2)
def Jl(f:Nat->Nat)(p:Nat×Nat):Nat×Nat:=(f p.1,f p.2)
structure yE(f:Nat->Nat)(ks wd:List<|Option Kn):Prop where
 gap:vC ks (List.range ks.length) f wd
 len:wd.length<=2*ks.length+1
theorem tW(wd:List<|Option Kn)(k:Option Kn):jz wd++[uU k]=jz (wd++[k]):=by unfold jz;rw[AI];rfl
theorem cj(wd:List<|Option Kn):(jz wd).length=wd.length:=Ag ..
theorem pK.wide{ks:List<|Option Kn}{qs:List Nat}{d w:Addr}{ex ex':Nat}{f:Nat->Nat}{wd':List<|Option Kn}(G:pK L0 ks qs d w D i ex f wd kvs L)(h0:L0 w=none)(I:d≠w)(J:w≠D)(g:vC ks (qs.take i) f wd')(h:wd'.length<=2*i+ex'):
 pK L0 ks qs d w D i ex' f wd' kvs (qi L w<|.lst<|jz wd'):=
 ⟨G.sub.upd h0,(qg I).trans G.hd,q9,(qg<|AL J).trans G.hD,G.len,G.val,g,h⟩
def zc:Ru->List (Nat×Nat)
 |.link p q=>[(p,q)]
 |.ei _ A=>zc A
 |.bo _ A B=>zc A++zc B
 |.cu _ _ A B=>zc A++zc B
def ze:Ru->List (Nat×Nat)
 |.link _ _=>[]
 |.ei _ A=>ze A
 |.bo _ A B=>ze A++ze B
 |.cu p q A B=>(p,q)::(ze A++ze B)
def gb:Ru->Nat
 |.link _ _=>1
 |.ei _ A=>gb A+1
 |.bo _ A B=>gb A+gb B+1
 |.cu _ _ A B=>gb A+gb B+1
def wu:Ru->List Ru
 |.link _ _=>[]
 |.ei _ A=>[A]
 |.bo _ A B=>[A,B]
 |.cu _ _ A B=>[A,B]
def sV:Ru->List (Nat×Nat)
 |.link p q=>[(p,q)]
 |_=>[]
def vH:Ru->List (Nat×Nat)
 |.cu p q _ _=>[(p,q)]
 |_=>[]
theorem vX(A:Ru):zc A=sV A++(wu A).flatMap zc:=by cases A<;>simp[zc,sV,wu]
theorem zC(A:Ru):ze A=vH A++(wu A).flatMap ze:=by cases A<;>simp[ze,vH,wu]
theorem RW(A:Ru):((wu A).map gb).sum+1=gb A:=by cases A<;>simp[gb,wu]
theorem oU{A B:Ru}(h:B∈wu A):ve B<ve A:=by cases A<;>simp[wu] at h<;>(try rcases h with rfl|rfl)<;>(try subst h)<;>simp[ve]<;>omega
theorem vn(l:List<|Nat×Nat)(p:Nat×Nat):qt l++[h_ p]=qt (l++[p]):=by unfold qt;rw[AI];rfl
theorem RX:(100000:Nat)<=sizeLine:=by decide
open Classical in
theorem Jm{b:Bool}{A B:Prop}(h1:b=true->A)(h2:b=false->B):vt b A B:=by cases b with|true=>exact h1 rfl|false=>exact h2 rfl
def plcs(lk:List<|Nat×Nat):List Nat:=lk.flatMap λx=>[x.1,x.2]
theorem jm(a b:List<|Nat×Nat):plcs (a++b)=plcs a++plcs b:=by unfold plcs;rw[A5]
theorem v4(x:Nat×Nat):plcs [x]=[x.1,x.2]:=by simp[plcs]
theorem aO(lk:List<|Nat×Nat):(plcs lk).length=2*lk.length:=by
 induction lk with
 |nil=>rfl
 |cons x r I=>
  have:=jm [x] r;rw[Du] at this;rw[this,Ad,I,v4,AJ];simp;exact Nat.add_comm _ _
theorem jo{c:Nat×Nat}(h:c∈ct):c.1∈plcs ct/\c.2∈plcs ct:=by
 induction ct with
 |nil=>cases h
 |cons d r I=>
  have e:plcs (d::r)=[d.1,d.2]++plcs r:=by rw[<-v4,<-jm];rfl
  rw[e];rcases Am.mp h with rfl|h
  ·simp
  ·obtain⟨a,b⟩:=I h;exact⟨Ai _ a,Ai _ b⟩
theorem aw{x:Nat}(h:x∈plcs ct):∃c∈ct,x=c.1\/x=c.2:=by
 induction ct with
 |nil=>cases h
 |cons d r I=>
  have e:plcs (d::r)=[d.1,d.2]++plcs r:=by rw[<-v4,<-jm];rfl
  rw[e] at h;rcases Aj.mp h with h|h
  ·exact⟨d,Ak ..,by simpa using h⟩
  ·obtain⟨c,h1,h2⟩:=I h;exact⟨c,Ac _ h1,h2⟩
def RY(x:Nat×Nat):Da:=.tup [.s<|.int (x.1:Int),.s<|.int (x.2:Int)]
theorem gm{L:qo}:∀l:List (Nat×Nat),Paired (xa L 1) (qt l)<|l.map RY
 |[]=>.nil
 |_::r=>.cons (e9<|.cons (EO _)<|.cons (EO _) .nil)<|gm r
structure RZ(ks:List Kn)(lk:List<|Nat×Nat):Prop where
 nd:(plcs lk).Nodup
 lt:∀p∈lk,p.1<p.2
 at_:∀p∈lk,∃t n,ks[p.1]?=some (.lf t n)/\ks[p.2]?=some (.lf (!t) n)
theorem za(c:Nat×Nat)(r:List<|Nat×Nat):plcs (c::r)=c.1::c.2::plcs r:=by
 have e:plcs (c::r)=[c.1,c.2]++plcs r:=by rw[<-v4,<-jm];rfl
 rw[e];rfl
theorem jd{l m:List<|Nat×Nat}(h:l.Perm m):(plcs l).Perm (plcs m):=by
 induction h with
 |nil=>exact .nil
 |cons x _ I=>rw[za,za];exact(I.cons _).cons _
 |swap x y l=>
  rw[za,za,za,za];exact(AW (l₁:=[y.1,y.2]) (l₂:=[x.1,x.2])).append_right (plcs l)
 |trans _ _ h1 h2=>exact h1.trans h2
theorem zx:∀{l:List<|Nat×Nat},(plcs l).Nodup->l.Nodup
 |[],_=>CS
 |c::r,h=>by rw[za] at h;have h1:=Aw.mp h;have h2:=Aw.mp h1.2;exact Aw.mpr ⟨λI=>h1.1<|Ac _ (jo I).1,zx h2.2⟩
theorem gU{l:List<|Nat×Nat}(nd:l.Nodup){x y:Nat×Nat}(I:x∈l)(J:y∈l)(ne:x≠y):l.Perm (x::y::l.filter λz=>decide (z≠x)&&decide (z≠y)):=by
 refine(A3 nd ?_).mpr λz=>?_
 ·refine Aw.mpr ⟨λh=>?_,Aw.mpr ⟨λh=>?_,nd.filter _⟩⟩
  ·rcases Am.mp h with h|h
   ·exact ne h
   ·simp at h
  ·simp at h
 ·by_cases c1:z=x
  ·subst c1;simp[I]
  ·by_cases c2:z=y
   ·subst c2;simp[J]
   ·simp[c1,c2]
def bH(a b:Nat):Nat×Nat:=(min a b,max a b)
theorem dC(a b:Nat)(r:List Nat):(min a b::max a b::r).Perm (a::b::r):=by
 by_cases c:a<=b
 ·rw[BJ c,Cd c]
 ·rw[Cb (by lia),Co (by lia)];exact List.Perm.swap ..
theorem gH{l:List<|Nat×Nat}{x:Nat×Nat}(h:l[i]?=some x):(qt l)[i]?=some (h_ x):=by rw[Aq,h];rfl
theorem aq:∀R:Ru,gb R+1<=(z0 R).length
 |.link _ _=>Ao _
 |.ei r A=>by have:=aq A;show gb A+1+1<=(r::z0 A).length;rw[AJ];exact F7
 |.bo r A B=>by have:=aq A;have:=aq B;show gb A+gb B+1+1<=(r::(z0 A++z0 B)).length;rw[AJ,Ad];lia
 |.cu _ _ A B=>by have:=aq A;have:=aq B;show gb A+gb B+1+1<=(z0 A++z0 B).length;rw[Ad];lia
theorem aJ:∀R:Ru,∃rest,(plcs (zc R)++rest).Perm<|z0 R
 |.link p q=>⟨[],.refl _⟩
 |.ei r A=>by obtain⟨u,h⟩:=aJ A;exact⟨r::u,Cc.trans<|h.cons r⟩
 |.bo r A B=>by obtain⟨u,h⟩:=aJ A;obtain⟨v,k⟩:=aJ B;refine⟨r::(u++v),?_⟩;show(plcs (zc A++zc B)++r::(u++v)).Perm (r::(z0 A++z0 B));rw[jm];refine Cc.trans<|List.Perm.cons r ?_;refine List.Perm.trans ?_<|h.append k;rw[Ay,Ay];refine List.Perm.append_left _ ?_;rw[<-Ay,<-Ay];exact List.Perm.append_right _ AW
 |.cu p q A B=>by obtain⟨u,h⟩:=aJ A;obtain⟨v,k⟩:=aJ B;refine⟨u++v,?_⟩;show(plcs (zc A++zc B)++(u++v)).Perm (z0 A++z0 B);rw[jm];refine List.Perm.trans ?_<|h.append k;rw[Ay,Ay];refine List.Perm.append_left _ ?_;rw[<-Ay,<-Ay];exact List.Perm.append_right _ AW
theorem SR.links{E:List Nat}(h:SR ks R E):∀p∈zc R,p.1<p.2/\∃t n,ks[p.1]?=some (.lf t n)/\ks[p.2]?=some (.lf (!t) n):=by induction h with|@link p q t n E h1 h2 h3 j l=>intro x U;rw[An.mp U];exact⟨h1,t,n,h2,h3⟩|ei _ _ _ _ _ _ _ g=>exact g|bo _ _ _ _ _ _ _ I J=>intro x U;exact(Aj.mp U).elim (I x) (J x)|cu _ _ _ _ _ _ _ _ I J=>intro x U;exact(Aj.mp U).elim (I x) (J x)
theorem SR.lkI{E:List Nat}(h:SR ks R E)(nd:(z0 R).Nodup):RZ ks (zc R):=by obtain⟨u,J⟩:=aJ R;exact⟨(Ar.mp<|J.nodup_iff.mpr nd).1,λp I=>(h.links p I).1,λp I=>(h.links p I).2⟩
theorem SR.cuts{E:List Nat}(h:SR ks R E):(z0 R).Nodup->(plcs<|ze R).Nodup/\(∀x∈plcs (ze R),x∉E/\x∈z0 R):=by
 induction h with
 |link _ _ _ _ _=>exactλ_=>⟨CS,λx I=>by cases I⟩
 |@ei r i j A EA E h1 h2 h3 h4 h5 t h7 ih=>
  intro nd;obtain⟨n1,n2⟩:=Aw.mp<|show(r::z0 A).Nodup from nd;obtain⟨a,b⟩:=ih n2;refine⟨a,λx I=>⟨λJ=>?_,Ac _ (b x I).2⟩⟩;rcases (t x).mp J with⟨z,_⟩|rfl
  ·exact(b x I).1 z
  ·exact n1 (b x I).2
 |@bo r i j A B EA EB E h1 h2 h3 h4 h5 t h7 l o=>
  intro nd;obtain⟨n1,n2⟩:=Aw.mp<|show(r::(z0 A++z0 B)).Nodup from nd;obtain⟨m1,m2,U⟩:=Ar.mp n2;obtain⟨a1,b1⟩:=l m1;obtain⟨a2,b2⟩:=o m2;have sA:=h2.sub;have C:=h3.sub;show(plcs<|ze A++ze B).Nodup/\∀x∈plcs (ze A++ze B),x∉E/\x∈r::(z0 A++z0 B);rw[jm];refine⟨Ar.mpr ⟨a1,a2,λx I y hy=>U x (b1 x I).2 y (b2 y hy).2⟩,λx I=>?_⟩;rcases Aj.mp I with I|I
  ·refine⟨λJ=>?_,Ac _<|Ap _ (b1 x I).2⟩;rcases (t x).mp J with⟨z,_⟩|⟨z,_⟩|rfl
   ·exact(b1 x I).1 z
   ·exact U x (b1 x I).2 x (C x z) rfl
   ·exact n1<|Ap _ (b1 _ I).2
  ·refine⟨λJ=>?_,Ac _<|Ai _ (b2 x I).2⟩;rcases (t x).mp J with⟨z,_⟩|⟨z,_⟩|rfl
   ·exact U x (sA x z) x (b2 x I).2 rfl
   ·exact(b2 x I).1 z
   ·exact n1<|Ai _ (b2 _ I).2
 |@cu p q A B EA EB E w h1 h2 h3 h4 h5 t h7 h8 l o=>
  intro nd;obtain⟨m1,m2,U⟩:=Ar.mp<|show(z0 A++z0 B).Nodup from nd;obtain⟨a1,b1⟩:=l m1;obtain⟨a2,b2⟩:=o m2;have sA:=h1.sub;have C:=h2.sub;show(plcs<|(p,q)::(ze A++ze B)).Nodup/\∀x∈plcs ((p,q)::(ze A++ze B)),x∉E/\x∈z0 A++z0 B;rw[za,jm];have tp:=sA p h3;have tq:=C q h4;have a3:p≠q:=λe=>U p tp q tq e;have T:∀x,x∈plcs (ze A)++plcs (ze B)->x≠p/\x≠q:=λx I=>by
   rcases Aj.mp I with I|I
   ·exact⟨λe=>(b1 x I).1<|e▸h3,λe=>U x (b1 x I).2 q tq e⟩
   ·exact⟨λe=>U p tp x (b2 x I).2 e.symm,λe=>(b2 x I).1<|e▸h4⟩
  refine⟨Aw.mpr ⟨λh=>?_,Aw.mpr ⟨λh=>(T q h).2 rfl,Ar.mpr ⟨a1,a2,λx I y hy=>U x (b1 x I).2 y (b2 y hy).2⟩⟩⟩,λx I=>?_⟩
  ·rcases Am.mp h with h|h
   ·exact a3 h
   ·exact(T p h).1 rfl
  ·have g:x∈E->(x∈EA/\x≠p)\/(x∈EB/\x≠q):=(h7 x).mp;rcases Am.mp I with rfl|I
   ·exact⟨λJ=>(g J).elim (λz=>z.2 rfl) λz=>U x tp x (C x z.1) rfl,Ap _ tp⟩
   ·rcases Am.mp I with rfl|I
    ·exact⟨λJ=>(g J).elim (λz=>U x (sA x z.1) x tq rfl) λz=>z.2 rfl,Ai _ tq⟩
    ·rcases Aj.mp I with I|I
     ·exact⟨λJ=>(g J).elim (λz=>(b1 x I).1 z.1) λz=>U x (b1 x I).2 x (C x z.1) rfl,Ap _ (b1 x I).2⟩
     ·exact⟨λJ=>(g J).elim (λz=>U x (sA x z.1) x (b2 x I).2 rfl) λz=>(b2 x I).1 z.1,Ai _ (b2 x I).2⟩
theorem mD(ok:da ks):jC (ks.map some):=by intro p e i j h;rw[Aq] at h;obtain⟨k,I,J⟩:=AA.mp h;cases J;exact ok p _ I
theorem dm(ks:List Kn):jz (ks.map some)=jv ks:=by show(ks.map some).map uU=ks.map qX;rw[Cq];rfl
theorem KW.lf{n:Str}(h:wd[p]?=some (some<|.lf t n)):KW (jz wd) p (.leaf t n):=by show(jz wd)[p]?=_;rw[Aq,h];rfl
theorem KW.nd{e:Bool}{l r:Wd}(h:wd[p]?=some (some<|.nd e i j))(I:KW (jz wd) i l)(J:KW (jz wd) j r):KW (jz wd) p (.node e l r):=
 ⟨i,j,by rw[Aq,h];rfl,I,J⟩
theorem yb{k:Kn}{n:Str}(h:qX k=.tup [.str<|kL t,.str n]):k=.lf t n:=by
 cases k with
 |lf u m=>
  have h1:kL u=kL t:=by injection h with h;injection h with h _;injection h
  have h2:m=n:=by injection h with h;injection h with _ h;injection h with h _;injection h
  subst h2;cases u<;>cases t<;>first|rfl|(exfalso;revert h1;decide)
 |nd e i j=>injection h with h;injection h with _ h;injection h with _ h;cases h
theorem zH{k:Kn}{e:Bool}(h:qX k=.tup [.str<|kN e,.int (i:Int),.int (j:Int)]):k=.nd e i j:=by
 cases k with
 |lf u m=>injection h with h;injection h with _ h;injection h with _ h;cases h
 |nd b I J=>
  have h1:kN b=kN e:=by injection h with h;injection h with h _;injection h
  have h2:((I:Nat):Int)=i:=by injection h with h;injection h with _ h;injection h with h _;injection h
  have h3:((J:Nat):Int)=j:=by injection h with h;injection h with _ h;injection h with _ h;injection h with h _;injection h
  have h2:=BK.mp h2;have h3:=BK.mp h3;subst h2 h3;cases b<;>cases e<;>first|rfl|(exfalso;revert h1;decide)
theorem Jn(h:(jz wd)[p]?=some y):∃o,wd[p]?=some o/\uU o=y:=by rw[Aq] at h;obtain⟨o,a,b⟩:=AA.mp h;exact⟨o,a,b⟩
theorem KW.inv_lf{n:Str}(h:KW (jz wd) p<|.leaf t n):wd[p]?=some (some<|.lf t n):=by
 obtain⟨o,a,b⟩:=Jn<|show(jz wd)[p]?=some (.tup [.str<|kL t,.str n]) from h;cases o with
 |none=>cases b
 |some k=>rw[a,yb b]
theorem KW.inv_nd{e:Bool}{l r:Wd}(h:KW (jz wd) p<|.node e l r):∃i j,wd[p]?=some (some<|.nd e i j)/\KW (jz wd) i l/\KW (jz wd) j r:=by
 obtain⟨i,j,h1,h2,h3⟩:=h;obtain⟨o,a,b⟩:=Jn h1;cases o with
 |none=>cases b
 |some k=>exact⟨i,j,by rw[a,zH b],h2,h3⟩
theorem KW.dep{wd:List<|Option Kn}(ok:jC wd):∀{w:Wd} {p:Nat},KW (jz wd) p w->w.depth<=p+1
 |.leaf t n,p,_=>by show 1<=p+1;exact B3 _
 |.node e l r,p,h=>by obtain⟨i,j,a,I,J⟩:=h.inv_nd;have:=ok p e i j a;have:=KW.dep ok I;have:=KW.dep ok J;show max l.depth r.depth+1<=p+1;lia
theorem yE.inv{f:Nat->Nat}(r:yE f fm wd){x:Nat}{k:Kn}(h:wd[x]?=some (some k)):∃p,p<fm.length/\x=f p/\∃o,fm[p]?=some o/\iV f o=some k:=by obtain⟨p,I,e⟩:=r.gap.only x k h;have I:=A7.mp I;have:=r.gap.at_ p (A7.mpr I) _<|Al I;rw[<-e,h] at this;exact⟨p,I,e,_,Al I,(Bc this).symm⟩
theorem yE.word{f:Nat->Nat}(r:yE f fm wd):∀{w:Wd} {p:Nat},KW (jz fm) p w->KW (jz wd) (f p) w
 |.leaf t n,p,h=>by have e:=h.inv_lf;exact KW.lf<|r.gap.at_ p (A7.mpr<|jb e) _ e
 |.node b l rr,p,h=>by obtain⟨i,j,e,I,J⟩:=h.inv_nd;exact KW.nd (r.gap.at_ p (A7.mpr<|jb e) _ e) (r.word I)<|r.word J
theorem SR.cutw{E:List Nat}(h:SR ks R E):∀c∈ze R,∃w,cM ks c.1 w/\cM ks c.2 w.turn:=by
 induction h with
 |link _ _ _ _ _=>intro c g;cases g
 |ei _ _ _ _ _ _ _ j=>exact j
 |bo _ _ _ _ _ _ _ I J=>intro x U;exact(Aj.mp U).elim (I x) (J x)
 |@cu p q A B r t E w h1 h2 h3 C l o T h8 I J=>
  intro x U;rcases Am.mp U with rfl|U
  ·exact⟨w,l,o⟩
  ·exact(Aj.mp U).elim (I x) (J x)
noncomputable def jH:RD "_law_copy" dt 0 ["_law_web_here"] (λ_=>True):=⟨_,λV B c _ _ _ _ _ _ _ I hN J=>(qd<|qz<|zf<|bO (kq wf rfl B.bb vv<|xh<|J_ 0) (kq wf rfl B.bb vv<|xh<|J_ 0)<|kq wf rfl B.bb vv<|xh<|J_ 0)⟩
noncomputable def sd:vh:=(jH).1
def xl(wd:List<|Option Kn):List Nat:=wd.flatMap zq
theorem lu(wd:List<|Option Kn)(k:Option Kn):xl (wd++[k])=xl wd++zq k:=by unfold xl;rw[A5,Bm,CU,AD]
theorem u4(k:Option Kn):(zq k).length<=2:=by cases k with|none=>exact Bb _|some k=>cases k with|lf t n=>exact Bb _|nd e i j=>exact Ao _
theorem oB(wd:List<|Option Kn):(xl wd).length<=2*wd.length:=by
 induction wd with
 |nil=>exact Ao _
 |cons k r I=>
  have e:xl (k::r)=zq k++xl r:=Bm ..;have:=u4 k;rw[e,Ad,AJ];lia
def gp(wd:List<|Option Kn)(p:Nat):Bool:=match wd[p]? with
 |some (some _)=>true
 |_=>false
def jL(wd:List<|Option Kn)(us:List Nat)(p:Nat):Bool:=gp wd p&&!(decide<|p∈us)
def a7(wd:List<|Option Kn)(us:List Nat)(i:Nat):List Nat:=(List.range i).filter<|jL wd us
theorem mM(wd:List<|Option Kn)(us:List Nat)(i:Nat):a7 wd us (i+1)=a7 wd us i++if jL wd us i=true then [i] else []:=by unfold a7;rw[List.range_succ,Bp];congr 1;rw[CW,BZ]
def aP(wd:List<|Option Kn)(ct:List<|Nat×Nat):List Nat:=xl wd++plcs ct
def kE:zh:=λys L Q=>∃a l c,∃xs zs us:List Y,ys=[xi a l c]/\L a=some (.lst xs)/\L l=some (.lst zs)/\L c=some (.lst us)/\∀I J c' L',qh L L'->L I=none->L J=none->L c'=none->I≠J->I≠c'->J≠c'->L' I=some (.lst xs)->L' J=some (.lst zs)->L' c'=some (.lst us)->Q (xi I J c') L'
theorem R4:∀ys L Q,kE ys L Q->v9 sd 1 ys L Q:=by rintro ys L Q ⟨a,l,c,C,T,us,rfl,ha,hl,hc,q⟩;refine qb ha λg h1=>?_;have j:=By (o:=.lst C) h1;refine qb (j _ _ hl) λp h2=>?_;have r:=j.trans<|By (o:=.lst T) h2;refine qb (r _ _ hc) λt h3=>?_;have I:g≠p:=bx q9 h2;have J:p≠t:=bx q9 h3;have U:g≠t:=bx ((qg I).trans q9) h3;exact x8<|q g p t _ (r.trans<|By h3) h1 (j.none h2) (r.none h3) I U J ((qg U).trans<|(qg I).trans q9) ((qg J).trans q9) q9
def nM(ks:List Kn)(l:List Nat):List Nat:=l.flatMap λp=>zq ks[p]?
theorem hJ(ks:List Kn)(a b:List Nat):nM ks (a++b)=nM ks a++nM ks b:=by unfold nM;rw[A5]
theorem cR(ks:List Kn)(x:Nat)(l:List Nat):nM ks (x::l)=zq ks[x]?++nM ks l:=Bm ..
theorem cN{E:List Nat}(h:E.Nodup)(hi:i∈E):E.Perm ([i]++E.filter λx=>!decide (x=i)):=by
 refine(A3 h ?_).mpr λx=>?_
 ·refine Aw.mpr ⟨λz=>?_,h.filter _⟩;have:=(AK.mp z).2;simp at this
 ·rw[Aj,An,AK];constructor
  ·intro I;by_cases c:x=i
   ·exact .inl c
   ·exact .inr ⟨I,by simp[c]⟩
  ·rintro(rfl|I)
   ·exact hi
   ·exact I.1
theorem SR.part{E:List Nat}(h:SR ks R E):(z0 R).Nodup->(nM ks (z0 R)++(plcs (ze R)++E)).Perm (z0 R):=by
 induction h with
 |@link p q t n U h1 h2 h3 o C=>
  intro _;have e:nM ks [p,q]=[]:=by rw[cR,cR,h2,h3];rfl
  show(nM ks [p,q]++([]++U)).Perm [p,q];rw[e,Cn,Cn];refine(A3 C (by simp;lia)).mpr λx=>?_;rw[o x];simp
 |@ei r i j A g U h1 T h3 o C h6 h7 ih=>
  intro nd;obtain⟨n1,n2⟩:=Aw.mp nd;have ih:=ih n2;have l:g.Nodup:=(Ar.mp (Ar.mp<|ih.nodup_iff.mpr n2).2.1).2.1;have p1:=cN l h3;have p2:(g.filter λx=>!decide (x=i)).Perm _:=cN (l.filter _) (i:=j) (AK.mpr ⟨o,by simp;exact AL C⟩);have p3:U.Perm ([r]++(g.filter λx=>!decide (x=i)).filter λx=>!decide (x=j)):=by
   refine(A3 h7<|Aw.mpr ⟨λz=>n1<|T.sub _ (AK.mp (AK.mp z).1).1,(l.filter _).filter _⟩).mpr λx=>?_;rw[h6 x,Am,AK,AK];simp only[CM,decide_eq_false_iff_not];constructor
   ·rintro(⟨a,b,c⟩|rfl)
    ·exact .inr ⟨⟨a,b⟩,c⟩
    ·exact .inl rfl
   ·rintro(rfl|⟨⟨a,b⟩,c⟩)
    ·exact .inr rfl
    ·exact .inl ⟨a,b,c⟩
  show(nM ks (r::z0 A)++(plcs (ze A)++U)).Perm ([r]++z0 A);rw[cR,h1];show((([i]++[j])++nM ks (z0 A))++(plcs (ze A)++U)).Perm _;refine C4.mpr λa=>?_;have c1:=p1.count_eq a;have c2:=p2.count_eq a;have c3:=p3.count_eq a;have c4:=ih.count_eq a;simp only[Dt] at c1 c2 c3 c4 ⊢;lia
 |@bo r i j A B g EB U h1 T hB o C h6 h7 I J=>
  intro nd;obtain⟨n1,n2⟩:=Aw.mp nd;obtain⟨m1,m2,m3⟩:=Ar.mp n2;have I:=I m1;have J:=J m2;have l:g.Nodup:=(Ar.mp (Ar.mp<|I.nodup_iff.mpr m1).2.1).2.1;have nB:EB.Nodup:=(Ar.mp (Ar.mp<|J.nodup_iff.mpr m2).2.1).2.1;have p1:=cN l o;have p2:=cN nB C;have p3:U.Perm ([r]++((g.filter λx=>!decide (x=i))++EB.filter λx=>!decide (x=j))):=by
   refine(A3 h7<|Aw.mpr ⟨λz=>n1 ?_,Ar.mpr ⟨l.filter _,nB.filter _,λa ha b hb=>m3 a (T.sub _ (AK.mp ha).1) b<|hB.sub _ (AK.mp hb).1⟩⟩).mpr λx=>?_
   ·rcases Aj.mp z with z|z
    ·exact Ap _<|T.sub _ (AK.mp z).1
    ·exact Ai _<|hB.sub _ (AK.mp z).1
   ·rw[h6 x,Am,Aj,AK,AK];simp only[CM,decide_eq_false_iff_not];constructor
    ·rintro(a|a|rfl)
     ·exact .inr<|.inl a
     ·exact .inr<|.inr a
     ·exact .inl rfl
    ·rintro(rfl|a|a)
     ·exact .inr<|.inr rfl
     ·exact .inl a
     ·exact .inr<|.inl a
  show(nM ks (r::(z0 A++z0 B))++(plcs (ze A++ze B)++U)).Perm ([r]++(z0 A++z0 B));rw[cR,h1,hJ,jm];show((([i]++[j])++(nM ks (z0 A)++nM ks (z0 B)))++((plcs (ze A)++plcs (ze B))++U)).Perm _;refine C4.mpr λa=>?_;have c1:=p1.count_eq a;have c2:=p2.count_eq a;have c3:=p3.count_eq a;have c4:=I.count_eq a;have c5:=J.count_eq a;simp only[Dt] at c1 c2 c3 c4 c5 ⊢;lia
 |@cu p q A B g EB U w T hB h3 o C h6 h7 h8 I J=>
  intro n2;obtain⟨m1,m2,m3⟩:=Ar.mp<|show(z0 A++z0 B).Nodup from n2;have I:=I m1;have J:=J m2;have l:g.Nodup:=(Ar.mp (Ar.mp<|I.nodup_iff.mpr m1).2.1).2.1;have nB:EB.Nodup:=(Ar.mp (Ar.mp<|J.nodup_iff.mpr m2).2.1).2.1;have p1:=cN l h3;have p2:=cN nB o;have p3:U.Perm ((g.filter λx=>!decide (x=p))++EB.filter λx=>!decide (x=q)):=by refine(A3 h8<|Ar.mpr ⟨l.filter _,nB.filter _,λa ha b hb=>m3 a (T.sub _ (AK.mp ha).1) b<|hB.sub _ (AK.mp hb).1⟩).mpr λx=>?_;rw[h7 x,Aj,AK,AK];simp only[CM,decide_eq_false_iff_not]
  show(nM ks (z0 A++z0 B)++(plcs ((p,q)::(ze A++ze B))++U)).Perm (z0 A++z0 B);rw[hJ,za,jm];show((nM ks (z0 A)++nM ks (z0 B))++(([p]++[q]++(plcs (ze A)++plcs (ze B)))++U)).Perm _;refine C4.mpr λa=>?_;have c1:=p1.count_eq a;have c2:=p2.count_eq a;have c3:=p3.count_eq a;have c4:=I.count_eq a;have c5:=J.count_eq a;simp only[Dt] at c1 c2 c3 c4 c5 ⊢;lia
structure dU(wd:List<|Option Kn):Prop where
 ne:∀(p:Nat) (e:Bool) (i j:Nat),wd[p]?=some (some<|.nd e i j)->i≠j
 un:∀(p q:Nat) (k l:Kn) (x:Nat),wd[p]?=some (some k)->wd[q]?=some (some l)->x∈zq (some k)->x∈zq (some l)->p=q
theorem i7{x:Nat}(h:x∈xl wd):∃(p:Nat) (k:Kn),wd[p]?=some (some k)/\x∈zq (some k):=by
 obtain⟨o,J,I⟩:=Bf.mp h;obtain⟨p,e⟩:=DA J;cases o with
 |none=>cases I
 |some k=>exact⟨p,k,e,I⟩
theorem zL{x:Nat}{k:Kn}(h:wd[p]?=some (some k))(I:x∈zq (some k)):x∈xl wd:=Bf.mpr ⟨_,Az h,I⟩
theorem R5{l:List Nat}(h:(nM ks l).Nodup)(all:∀p,p<ks.length->p∈l):dU (ks.map some):=by
 have at_:∀{p:Nat} {k:Kn},(ks.map some)[p]?=some (some k)->ks[p]?=some k/\p∈l:=λ{p k} e=>by rw[Aq] at e;obtain⟨k',U,g⟩:=AA.mp e;cases g;exact⟨U,all p<|jb U⟩
 clear all;constructor
 ·intro p e i j I;obtain⟨h1,h2⟩:=at_ I;obtain⟨a,b,rfl⟩:=Cg h2;rw[hJ,cR,h1] at h;have:=(Ar.mp (Ar.mp h).2.1).1;have:[i,j].Nodup:=this;simpa using this
 ·intro p q k m x I o r t;obtain⟨h1,h2⟩:=at_ I;obtain⟨h3,C⟩:=at_ o;by_cases c:p=q
  ·exact c
  ·exfalso;obtain⟨a,b,rfl⟩:=Cg h2;have T:q∈a++b:=by
    rcases Aj.mp C with z|z
    ·exact Ap _ z
    ·rcases Am.mp z with z|z
     ·exact absurd z.symm c
     ·exact Ai _ z
   have pm:(nM ks<|a++p::b).Perm (zq (some k)++nM ks (a++b)):=by rw[hJ,cR,h1,hJ];refine C4.mpr λz=>?_;simp only[Dt];lia
   have n:=pm.nodup_iff.mp h;have J:x∈nM ks (a++b):=Bf.mpr ⟨q,T,by rw[h3];exact t⟩;exact(Ar.mp n).2.2 x r x J rfl
theorem yE.part{f:Nat->Nat}(r:yE f fm wd){x y:Nat}{k:Kn}(h:wd[x]?=some (some k))(I:y∈zq (some k)):∃(p:Nat) (o:Kn) (a:Nat),x=f p/\fm[p]?=some (some o)/\y=f a/\a∈zq (some o):=by
 obtain⟨p,g,e,o,U,J⟩:=r.inv h;cases o with
 |none=>cases J
 |some o=>
  cases o with
  |lf t n=>cases J;cases I
  |nd b i j=>
   cases J;have I:y∈[f i,f j]:=I;rcases Am.mp I with I|I
   ·exact⟨p,_,i,e,U,I,Ak ..⟩
   ·exact⟨p,_,j,e,U,An.mp I,Ac _<|Ak ..⟩
theorem lC(ok:jC fm){a:Nat}{o:Kn}(h:fm[p]?=some (some o))(I:a∈zq (some o)):a<fm.length:=by
 cases o with
 |lf t n=>cases I
 |nd e i j=>
  have:=ok p e i j h;have:=jb h;have I:a∈[i,j]:=I;rcases Am.mp I with rfl|I
  ·lia
  ·rw[An.mp I];lia
theorem yE.inj{f:Nat->Nat}(r:yE f fm wd){a b:Nat}(I:a<fm.length)(J:b<fm.length)(e:f a=f b):a=b:=r.gap.inj a (A7.mpr I) b (A7.mpr J) e
theorem dU.ren{f:Nat->Nat}(U:dU fm)(ok:jC fm)(r:yE f fm wd):dU wd:=by
 constructor
 ·intro x e i j h;obtain⟨p,hp,rfl,o,J,I⟩:=r.inv h;cases o with
  |none=>cases I
  |some o=>
   cases o with
   |lf t n=>cases I
   |nd b a c=>
    cases I;have:=ok p e a c J;exactλz=>U.ne p e a c J<|r.inj (by lia) (by lia) z
 ·intro x y k l z h1 h2 hz hw;obtain⟨p,o,a,rfl,g,rfl,C⟩:=r.part h1 hz;obtain⟨q,o',b,rfl,T,eb,hb⟩:=r.part h2 hw;cases r.inj (lC ok g C) (lC ok T hb) eb;rw[U.un p q o o' a g T C hb]
def D_:Option Kn->Bool
 |some (.lf _ _)=>true
 |_=>false
theorem SR.leaves{E:List Nat}(h:SR ks R E):(plcs<|zc R).Perm ((z0 R).filter λp=>D_ ks[p]?):=by
 induction h with
 |@link p q t n U h1 h2 h3 g l=>
  show(plcs [(p,q)]).Perm ([p,q].filter λp=>D_ ks[p]?);rw[v4,CW,CW,h2,h3];exact Ci _
 |@ei r i j A o U h1 C h3 g l T h7 ih=>
  show(plcs<|zc A).Perm ((r::z0 A).filter λp=>D_ ks[p]?);rw[CW,h1];exact ih
 |@bo r i j A B o EB U h1 C hB g l T h7 I J=>
  show(plcs<|zc A++zc B).Perm ((r::(z0 A++z0 B)).filter λp=>D_ ks[p]?);rw[CW,h1,jm];show(plcs (zc A)++plcs (zc B)).Perm ((z0 A++z0 B).filter λp=>D_ ks[p]?);rw[Bp];exact I.append J
 |@cu p q A B o EB U w C hB h3 g l T h7 h8 I J=>
  show(plcs<|zc A++zc B).Perm ((z0 A++z0 B).filter λp=>D_ ks[p]?);rw[jm,Bp];exact I.append J
theorem qA(f:Nat->Nat):∀lk:List (Nat×Nat),(plcs<|lk.map<|Jk f).Perm<|(plcs lk).map f
 |[]=>Ci _
 |c::r=>by
  have I:=qA f r;rw[AG,za,za,AG,AG];show(min (f c.1) (f c.2)::max (f c.1) (f c.2)::_).Perm _;by_cases h:f c.1<=f c.2
  ·rw[BJ h,Cd h];exact(I.cons _).cons _
  ·rw[Cb (by lia),Co (by lia)];exact((I.cons _).cons _).trans (List.Perm.swap _ _ _)
theorem kO(f:Nat->Nat):∀ct:List (Nat×Nat),plcs (ct.map<|Jl f)=(plcs ct).map f
 |[]=>rfl
 |c::r=>by rw[AG,za,za,AG,AG,kO f r];rfl
theorem cT{f:Nat->Nat}:∀{l:List Nat},l.Nodup->(∀a∈l,∀b∈l,f a=f b->a=b)->(l.map f).Nodup
 |[],_,_=>CS
 |a::r,h,g=>by obtain⟨h1,h2⟩:=Aw.mp h;rw[AG,Aw];refine⟨λz=>?_,cT h2 λx J y U=>g x (Ac _ J) y<|Ac _ U⟩;obtain⟨b,I,e⟩:=BS.mp z;exact h1<|g b (Ac _ I) a (Ak ..) e▸I
def bX(f:Nat->Nat):Ru->Ru
 |.link p q=>.link (min (f p)<|f q)<|max (f p)<|f q
 |.ei r A=>.ei (f r)<|bX f A
 |.bo r A B=>.bo (f r) (bX f A)<|bX f B
 |.cu p q A B=>.cu (f p) (f q) (bX f A)<|bX f B
theorem fK(f:Nat->Nat):∀R:Ru,(z0<|bX f R).Perm<|(z0 R).map f
 |.link p q=>by
  show [min (f p)<|f q,max (f p)<|f q].Perm [f p,f q];by_cases h:f p<=f q
  ·rw[BJ h,Cd h]
  ·rw[Cb (by lia),Co (by lia)];exact List.Perm.swap _ _ _
 |.ei r A=>(fK f A).cons _
 |.bo r A B=>by show(f r::(z0 (bX f A)++z0 (bX f B))).Perm (f r::(z0 A++z0 B).map f);rw[AI];exact((fK f A).append<|fK f B).cons _
 |.cu p q A B=>by show(z0 (bX f A)++z0 (bX f B)).Perm ((z0 A++z0 B).map f);rw[AI];exact(fK f A).append (fK f B)
theorem kW{x:Nat}{k:Kn}(h:(ks.map some)[x]?=some (some k)):ks[x]?=some k:=by rw[Aq] at h;obtain⟨I,e,z⟩:=AA.mp h;cases z;exact e
structure TrO(ks:List Kn)(R:Ru)(E:List Nat):Prop where
 ok:da ks
 sr:SR ks R E
 nd:(z0 R).Nodup
 len:ks.length<=96
def eW:Ru->List Ru
 |.link p q=>[.link p q]
 |.ei r A=>.ei r A::eW A
 |.bo r A B=>.bo r A B::(eW A++eW B)
 |.cu p q A B=>.cu p q A B::(eW A++eW B)
theorem rT(A:Ru):eW A=A::(wu A).flatMap eW:=by cases A<;>simp[eW,wu]
end L3
namespace TS
open PySem PyProof.Rows PySem.W
section
variable {w:World}
end
end TS
namespace L2
open PySem PySem.Spec PyProof.Rows
end L2
namespace L3
open PySem L2
open PySem L2 Words
theorem wQ(l:List Nat):nY l=(l.map λn:Nat=>(n:Int)).map Y.int:=by unfold nY;rw[Cq];rfl
theorem oA{L:qo}:∀xs:List Int,Paired (xa L 0) (xs.map Y.int)<|xs.map λx=>Da.s<|.int x
 |[]=>.nil
 |_::r=>.cons ⟨rfl,rfl⟩<|oA r
theorem KW.ex{w:Wd}(h:KW (jz wd) p w):∃k,wd[p]?=some (some k):=by cases w with|leaf t n=>exact⟨_,h.inv_lf⟩|node e l r=>obtain⟨i,j,a,_⟩:=h.inv_nd;exact⟨_,a⟩
def l_(ks:List Kn)(T:List Nat):List (Option Kn):=(List.range ks.length).map λp=>if p∈T then ks[p]? else none
theorem wY(ks:List Kn)(T:List Nat):(l_ ks T).length=ks.length:=by unfold l_;rw[Ag,BY]
theorem vB{T:List Nat}(I:p<ks.length):(l_ ks T)[p]?=some (if p∈T then ks[p]? else none):=by unfold l_;rw[Aq,DF I];rfl
theorem R6{T:List Nat}{k:Kn}(J:p∈T)(I:ks[p]?=some k):(l_ ks T)[p]?=some (some k):=by rw[vB<|jb I,AB J,I]
theorem R7{T:List Nat}{k:Kn}(h:(l_ ks T)[p]?=some (some k)):p∈T/\ks[p]?=some k:=by
 have I:p<ks.length:=by rw[<-wY ks T];exact jb h
 rw[vB I] at h;by_cases c:p∈T
 ·rw[AB c] at h;exact⟨c,Bc h⟩
 ·rw[AC c] at h;cases h
theorem R8{T:List Nat}(h:∀p,p<ks.length->p∈T):l_ ks T=ks.map some:=by
 refine Ds λp=>?_;by_cases c:p<ks.length
 ·rw[vB c,AB<|h p c,Aq,Al c];rfl
 ·rw[BE (by rw[wY];lia),BE (by rw[Ag];lia)]
section
variable {E:List Nat}
theorem TrO.prts(T:TrO ks R E){x:Nat}:x∈xl (l_ ks<|z0 R)↔x∈nM ks (z0 R):=by
 constructor
 ·intro h;obtain⟨p,k,h1,h2⟩:=i7 h;obtain⟨a,b⟩:=R7 h1;exact Bf.mpr ⟨p,a,by rw[b];exact h2⟩
 ·intro h;obtain⟨p,I,J⟩:=Bf.mp h;have e:=Al<|T.sr.lt p I;rw[e] at J;exact zL (R6 I e) J
theorem TrO.ends(T:TrO ks R E)(x:Nat):x∈E↔x∈z0 R/\x∉xl (l_ ks<|z0 R)/\x∉plcs (ze R):=by
 have P:=T.sr.part T.nd;have N:=P.nodup_iff.mpr T.nd;obtain⟨g,I,J⟩:=Ar.mp N;obtain⟨j,l,U⟩:=Ar.mp I;rw[T.prts];constructor
 ·intro h;exact⟨T.sr.sub x h,λz=>J x z x (Ai _ h) rfl,λz=>U x z x h rfl⟩
 ·rintro⟨a,b,c⟩;rcases Aj.mp (P.mem_iff.mpr a) with z|z
  ·exact absurd z b
  ·rcases Aj.mp z with z|z
   ·exact absurd z c
   ·exact z
theorem SR.rls(h:SR ks R E):∀B∈eW R,(∃EB,SR ks B EB)/\(∀x∈z0 B,x∈z0 R)/\(z0 B).Sublist (z0 R)/\ve B<=ve R/\(∀c∈ze B,c∈ze R):=by
 induction h with
 |link h1 h2 h3 U g=>
  intro B J;cases An.mp J;exact⟨⟨_,.link h1 h2 h3 U g⟩,λ_ h=>h,Cs _,Ao _,λ_ h=>h⟩
 |@ei r i j A EA E h1 t h3 U g T h7 ih=>
  intro B J;rcases Am.mp J with rfl|J
  ·exact⟨⟨_,.ei h1 t h3 U g T h7⟩,λ_ h=>h,Cs _,Ao _,λ_ h=>h⟩
  ·obtain⟨a,b,c,d,e⟩:=ih B J;exact⟨a,λx h=>Ac _<|b x h,c.cons _,BP d,e⟩
 |@bo r i j A B EA EB E h1 t J U g T h7 l o=>
  intro C I;rcases Am.mp I with rfl|I
  ·exact⟨⟨_,.bo h1 t J U g T h7⟩,λ_ h=>h,Cs _,Ao _,λ_ h=>h⟩
  ·rcases Aj.mp I with I|I
   ·obtain⟨a,b,c,d,e⟩:=l C I;exact⟨a,λx h=>Ac _<|Ap _<|b x h,(c.trans<|List.sublist_append_left ..).cons _,by show _<=max (ve A) (ve B)+1;lia,λx h=>Ap _<|e x h⟩
   ·obtain⟨a,b,c,d,e⟩:=o C I;exact⟨a,λx h=>Ac _<|Ai _<|b x h,(c.trans<|CY ..).cons _,by show _<=max (ve A) (ve B)+1;lia,λx h=>Ai _<|e x h⟩
 |@cu p q A B EA EB E w t J h3 U g T h7 h8 l o=>
  intro C I;rcases Am.mp I with rfl|I
  ·exact⟨⟨_,.cu t J h3 U g T h7 h8⟩,λ_ h=>h,Cs _,Ao _,λ_ h=>h⟩
  ·rcases Aj.mp I with I|I
   ·obtain⟨a,b,c,d,e⟩:=l C I;exact⟨a,λx h=>Ap _<|b x h,c.trans<|List.sublist_append_left ..,by show _<=max (ve A) (ve B)+1;lia,λx h=>Ac _<|Ap _<|e x h⟩
   ·obtain⟨a,b,c,d,e⟩:=o C I;exact⟨a,λx h=>Ai _<|b x h,c.trans<|CY ..,by show _<=max (ve A) (ve B)+1;lia,λx h=>Ac _<|Ai _<|e x h⟩
theorem ag:∀{R A B:Ru},A∈eW R->B∈eW A->B∈eW R
 |.link p q,A,B,h1,h2=>by cases An.mp h1;exact h2
 |.ei r C,A,B,h1,h2=>by
  rcases Am.mp h1 with rfl|h1
  ·exact h2
  ·exact Ac _<|ag h1 h2
 |.bo r C D,A,B,h1,h2=>by
  rcases Am.mp h1 with rfl|h1
  ·exact h2
  ·rcases Aj.mp h1 with h1|h1
   ·exact Ac _<|Ap _<|ag h1 h2
   ·exact Ac _<|Ai _<|ag h1 h2
 |.cu p q C D,A,B,h1,h2=>by
  rcases Am.mp h1 with rfl|h1
  ·exact h2
  ·rcases Aj.mp h1 with h1|h1
   ·exact Ac _<|Ap _<|ag h1 h2
   ·exact Ac _<|Ai _<|ag h1 h2
theorem gl(A:Ru):A∈eW A:=by rw[rT];exact Ak ..
theorem R9{A B:Ru}(h:B∈wu A):B∈eW A:=by rw[rT];exact Ac _<|Bf.mpr ⟨B,h,gl B⟩
end
noncomputable def jR:RD "_law_stir" eQ 0 ["_law_script","_law_total","_law_k","_law_cell"] (λ_=>True):=⟨_,λV B c _ _ _ _ _ _ _ I hN J=>(qa (S_ 1 hN qc)<|qa (aA wh rfl (kR rfl B.bn<|qv 0) (aD (n:=2) rfl<|zd (G_ 2 hN)<|zd (G_ 3 hN) vf)<|qd<|S_ 1 hN<|qj jj (qj jh (qj jh (qj jh (qj fh (qv 1) qc)<|qj jj (qv 3) qc)<|qv 2) qc) qc)<|qd<|qz<|qv 1)⟩
noncomputable def tO:vh:=(jR).1
noncomputable def jU:RD "_law_pick" dq 0 ["_law_stir_here","_law_factor"] (λ_=>True):=⟨_,λV B c _ _ _ _ _ _ _ I hN J=>(qd<|qz<|qj vg (qj jj (qj fh (qv 0)<|qv 1) qc) qc)⟩
noncomputable def uE:vh:=(jU).1
noncomputable def jP(J:zh)(U:zh)(I:zh):RD "_law_sown" fD 172 ["_law_script","_law_stir_here","_law_wide","_law_room"] (λV=>Fh V J/\IE V U/\Iw V I):=⟨_,λV B c _ _ _ _ _ _ _ g hN j=>(qa (S_ 3 hN<|qj jh qc<|qj jj (C_ c.1 g<|xm (qv 1) qc) qc)<|xu (zu (E_ j (qj jj (C_ c.1 g<|xm (qv 1) qc) qc) qc) (qd<|S_ 3 hN<|qv 2) z9)<|qd<|qz<|C_ c.2.1 g<|bO (wv (oH _ _ _) (qv 0) (aM qc) bW) (qj jj (C_ c.2.2 g<|xm (qv 0) qc) qc)<|qv 3)⟩
noncomputable def si(J:zh)(U:zh)(I:zh):vh:=(jP J U I).1
def qP:zh:=λys L Q=>∃I:List Int,ys=[.sq<|I.map Y.int]/\∀v:Int,Q (.int v) L
theorem Sa:∀ys L Q,qP ys L Q->v9 tO 4 ys L Q:=by
 rintro ys L Q ⟨g,rfl,q⟩;refine wz ⟨λ_ I J=>∃v c2 c3,I=[some<|.sq<|g.map Y.int,some<|.int v,c2,c3]/\J=L,⟨1,_,_,rfl,rfl⟩,λ_ _ _ _=>True.intro,?_,?_⟩
 ·rintro i y I J j ⟨v,c2,c3,rfl,rfl⟩;obtain⟨z,U,rfl⟩:=gc j;rw[Aq] at U;obtain⟨z,l,rfl⟩:=AA.mp U;exact⟨.inr ⟨by decide,by decide⟩,(by decide:(0:Int)<1000003),(by decide:(0:Int)<2147483647),_,EC _,_,_,_,rfl,rfl⟩
 ·rintro I J ⟨v,c2,c3,rfl,rfl⟩;exact x8<|q v
def dO:zh:=λys L Q=>∃s f:Int,ys=[.int s,.int f]/\0<f/\f<1000000000/\∀v,0<=v->v<134217728->Q (.int v) L
theorem Sb:∀ys L Q,dO ys L Q->v9 uE 2 ys L Q:=by
 rintro ys L Q ⟨s,f,rfl,h0,h1,q⟩;refine⟨.inr ⟨by omega,by omega⟩,(by decide:(0:Int)<2147483629),⟨by decide,by decide⟩,x8<|q _ ?_ ?_⟩
 all_goals
  generalize s*f=z;omega
structure iO(ks:List Kn)(R:Ru)(E:List Nat):Prop where
 ok:da ks
 sr:SR ks R E
 tp:(z0 R).Perm (List.range ks.length)
 len:ks.length<=96
theorem Sc(I:List Int)(lo hi:Option Int):∃ms:List Int,fq (I.map Y.int) lo hi=ms.map Y.int/\ms.length<=I.length:=by unfold fq;refine⟨(I.drop<|HT.sIx (I.map Y.int).length 0 lo).take<|HT.sIx (I.map Y.int).length (I.map Y.int).length hi-HT.sIx (I.map Y.int).length 0 lo,by rw[List.map_take,List.map_drop],?_⟩;rw[AY,BM];lia
def qT:zh:=λys L Q=>∃I:List Int,∃s:Int,∃w:Nat,∃wi:Int,ys=[.sq<|I.map Y.int,.int s,.int wi]/\wi=(w:Int)/\I.length<=63/\w<=96/\∀ka ks R E L',qh L L'->L ka=none->L' ka=some (.lst<|jv ks)->iO ks R E->Q (.tup [.ref ka,zj R]) L'
theorem Sd:∀ys L Q,qT ys L Q->v9 (si dO lK gJ) 4 ys L Q:=by
 rintro ys L Q ⟨I,s,w,wi,rfl,rfl,hn,hw,q⟩;refine⟨s,774511,rfl,by decide,by decide,λv v0 _=>⟨(by decide:(0:Int)<37),?_⟩⟩;refine⟨λg j=>∃r:Nat,r<=96/\g=[some<|.sq<|I.map Y.int,some<|.int s,some<|.int (w:Int),some<|.int (r:Int)]/\j=L,?_,?_⟩
 ·refine⟨s,31337,rfl,by decide,by decide,λu _ _=>⟨(by decide:(0:Int)<8),zp (λ_=>⟨w,hw,rfl,rfl⟩) λ_=>⟨(24+v % 37).toNat,by lia,?_,rfl⟩⟩⟩;rw[show(((24+v % 37).toNat:Nat):Int)=24+v % 37 by lia];rfl
 ·rintro g j ⟨r,o,rfl,rfl⟩ pm J;obtain⟨p,U,t⟩:=Sc I (some 1) none;rw[U];exact⟨I,0,rfl,by decide,λc=>⟨(by decide:(0:Int)<1000000000),pm,p,_,r,rfl,q9,by lia,o,λC T R E l ok sr tp hl=>x8<|q C T R E _ ((By J).trans<|By l) (bG l) q9 ⟨ok,sr,tp,by lia⟩⟩⟩
open PySem L2 PyProof.Rows
end L3
namespace L2
open PySem PySem.Spec PyProof.Rows
theorem Se(neg:Bool)(p:X.A.units+128<cLine):wg X (compareOp<|if neg then .NotIn else .In) (λx y H Q=>∃a kvs k,y=.ref a/\H a=some (.dK kvs)/\x=kV k/\Q (.bl<|if neg then !(bK kvs k).isSome else(bK kvs k).isSome) H):=by rintro U s r H x y v u Q I g j ⟨a,kvs,k,l,e,ex,q⟩;subst ex l;cases (show u=Value.ref a from j);cases neg with|false=>exact M8 (by omega) I (qI.k e) g λo J=>⟨.bl _,H,J,rfl,q⟩|true=>exact M9 (by omega) I (qI.k e) g λo J=>⟨.bl _,H,J,rfl,q⟩
end L2
namespace L3
open PySem L2
theorem zN{xs:List<|jf×V}(p:Paired (λ(p:jf×Y) (q:jf×V)=>p.1=q.1/\RV G H p.2 q.2) kvs xs)(k:jf):(bK xs k).isSome=(kn kvs k).isSome:=by
 unfold bK kn;rw[CL,CL]
 induction p with
 |nil=>rfl
 |@cons a b _ _ r t I=>
  rw[Bz,Bz,r.1];cases decide (b.1=k) with|true=>rfl|false=>exact I
def FE(neg:Bool)(x y:Y)(L:qo)(Q:YK):Prop:=match y,FA x with
 |.ref a,some k=>qB L a λkvs=>Q (.bl<|nb neg (kn kvs k).isSome) L
 |_,_=>False
theorem Sf(neg:Bool)(j:X.A.units+128<cLine):wg X (compareOp<|if neg then .NotIn else .In) (iI X.g3<|FE neg):=EV (Se neg j) λx y H Q C T L Q3 l o g z k=>by
 unfold FE at z;split at z
 ·rename_i a I p;obtain⟨J,e,z⟩:=gt z;obtain⟨U,r,t⟩:=g a _ e;refine⟨a,U,I,o,r,mY p l,?_⟩;have:(if neg=true then !(bK U I).isSome else(bK U I).isSome)=nb neg (kn J I).isSome:=by rw[zN t];cases neg<;>simp[nb]
  rw[this];exact k _ H _ L (ED _) g (by rfl) z
 ·exact z.elim
theorem Sg(I:X.A.units+128<cLine):wg X (compareOp .NotIn) (iI X.g3<|FE true):=Sf true I
def Jo(xs:List Y)(L:qo)(Q:YK):Prop:=match xs with
 |[.ref a]=>fP L a λys=>Q (.tup ys) L
 |_=>False
theorem Sh :jn X (.type "tuple") (b_ X.g3 Jo):=EN nV λt H Q C L T g J z k=>by
 unfold Jo at z;split at z
 ·rename_i a;obtain⟨u,rfl,j⟩:=g.inv1;obtain⟨o,e,z⟩:=ko z;obtain⟨U,p,r⟩:=J a _ e;cases (show u=V.ref a from j);exact⟨a,U,rfl,.inl ⟨.inl<|.inl p,λl I=>k _ _ (.tup o) L (EE I) (J.skip I) ⟨l,U,rfl,.inl<|.inl zk,r.ts<|EE I⟩ z⟩⟩
 ·exact z.elim
open PySem L2 Words
def plR:Ru->List Nat
 |.link p q=>[p,q]
 |.ei r _=>[r]
 |.bo r _ _=>[r]
 |.cu p q _ _=>[p,q]
theorem uP(A:Ru):0<ve A:=by cases A<;>simp[ve]
structure UsI(us:List Nat)(kvs:List<|jf×Y):Prop where
 val:∀x:Nat,(kn kvs<|.inl (x:Int)).isSome=decide (x∈us)
 len:kvs.length<=us.length
theorem UsI.nil:UsI [] []:=⟨λ_=>rfl,Ao _⟩
theorem UsI.put{us:List Nat}(h:UsI us kvs)(x:Nat)(y:Y):UsI (us++[x]) (mI kvs (.inl (x:Int)) y):=by
 refine⟨λz=>?_,?_⟩
 ·rw[sM];by_cases e:z=x
  ·subst e;rw[AB rfl,AM<|Ai _<|An.mpr rfl];rfl
  ·rw[AC λq=>e<|BK.mp<|Sum.inl.inj q,h.val];refine decide_eq_decide.mpr ⟨λq=>Ap _ q,λq=>?_⟩;rcases Aj.mp q with q|q
   ·exact q
   ·exact absurd (An.mp q) e
 ·have:=uI kvs (.inl (x:Int)) y;have:=h.len;rw[Ad];show _<=us.length+1;lia
theorem Si{k:Option Kn}(h:wd[i]?=some k):fQ (jz wd) (0+(i:Int))=some (uU k):=by rw[B4];exact kw h
def Sj(Pt:Addr)(I:zh):vh:=(zn (x5 (gK je)<|qp 2)
 (zn (rV (Ia<|qf 0) (jS 2<|vi (qp 3)<|vi (qp 4) gn) (zn (x5 (xx qC (jk I<|qk (qf 1)<|bN (qf 3)<|bJ 39373)<|bJ 40)<|qp 5)
 (tw (aG (o_ (qR 4)<|bJ 3) (x5 (xx bw (xx bw (qf 5)<|bJ 1)<|cL l7<|qk (xx fY (qf 2)<|wx 4 1)<|qk (xx fY (qf 2)<|wx 4 2) je)<|qp 5) vz)
 (wo<|kM x9 (qf 2)<|aX<|qf 5))))
 (we<|Jh Pt lamQ 2<|uJ<|qR 0)))
def iS(Pt:Addr):zh:=λys L Q=>∃a,∃ks:List Kn,∃s:Int,ys=[.ref a,.int s]/\L a=some (.lst<|jv ks)/\jC (ks.map some)/\ks.length<=127/\L Pt=some (.tb lamQ)/\
 ∀D qs,L D=none->qs.Perm (List.range (ks.map some).length)->dM (ks.map some) qs->Q (.ref D) (qi L D<|.lst<|nY qs)
theorem yT :∀ys L Q,iS Pt ys L Q->v9 (Sj Pt iM) 6 ys L Q:=by
 rintro ys L Q ⟨a,ac,s,rfl,ha,ok,hz,hP,q⟩;obtain⟨g,U⟩:∃g,g=ac.map some:=⟨_,rfl⟩;rw[<-dm,<-U] at ha;rw[<-U] at ok q;have hz:g.length<=127:=by rw[U,Ag];exact hz
 have all:∀i,g[i]?≠some none:=λi e=>by rw[U,Aq] at e;obtain⟨_,_,z⟩:=AA.mp e;cases z
 have big:=a_;intro J I;have s0:qh L (qi L J<|.lst []):=By I;have a3:a≠J:=bx ha I;refine ku (s0 _ _ ha) λkeep kp=>wz ⟨λi τ l=>∃rks:List Int,∃c3 c4 c5,τ=[some<|Y.ref a,some<|.int s,some<|Y.ref J,c3,c4,c5]/\l=qi L J (.lst<|rks.map Y.int)/\rks.length=i/\yV g rks,⟨[],_,_,_,rfl,rfl,rfl,λp _ _ _ hp=>by cases hp⟩,?_,?_,?_⟩
 ·rintro i τ l ⟨rks,c3,c4,c5,rfl,rfl,_⟩;exact kp _ (by rw[qg a3,qg a3])
 ·rintro i y τ l hy ⟨rks,c3,c4,c5,rfl,rfl,C,T⟩;obtain⟨z,ez,rfl⟩:=gc hy;rw[Aq] at ez;obtain⟨k,ek,rfl⟩:=AA.mp ez;have hi:=jb ek;refine⟨s,i,39373,rfl,by exact A6 _,by omega,by decide,by decide,λv h0 h1=>?_⟩;have m0:(0:Int)<=v % 40:=CD _ (by decide);have a4:(rks.map Y.int).length=i:=by rw[Ag];exact C
  refine⟨show(0:Int)<40 by decide,λa5 l=>∃r:Int,a5=[some<|Y.ref a,some<|.int s,some<|Y.ref J,some<|.int (i:Nat),some<|uU k,some<|.int r]/\l=qi L J (.lst<|rks.map Y.int)/\∀e i j,k=some (.nd e i j)->rks.getD i 0<r/\rks.getD j 0<r,?_,?_⟩
  ·cases k with
   |none=>exact absurd ek<|all i
   |some k=>
    cases k with
    |lf t n=>exact⟨v % 40,rfl,rfl,λe i j z=>by cases z⟩
    |nd e p1 p2=>
     obtain⟨l1,l2⟩:=ok _ _ _ _ ek;have g1:=jt<|tI (rks:=rks) (i:=p1) (by lia);have g2:=jt<|tI (rks:=rks) (i:=p2) (by lia);refine qb q9<|qm g1 ?_;refine qb q9<|qm g2 ?_;refine⟨v % 40+1+max (rks.getD p1 0) (rks.getD p2 0),rfl,rfl,λe' i' j' z=>?_⟩;cases z;have a1:rks.getD p1 0<=max (rks.getD p1 0) (rks.getD p2 0):=Int.le_max_left ..;have a2:rks.getD p2 0<=max (rks.getD p1 0) (rks.getD p2 0):=Int.le_max_right ..;constructor<;>lia
  ·rintro a5 l ⟨r,rfl,rfl,hr⟩;refine qb q9 (qw q9 ⟨by rw[a4];exact big _ (by lia),?_⟩);refine⟨_,EC _,rks++[r],_,_,_,rfl,?_,by rw[Ad,C];rfl,yV.snoc ok T (by rw[C];exact ek) hr⟩;rw[x4,AI];rfl
 ·rintro τ l ⟨rks,c3,c4,c5,rfl,rfl,C,T⟩;rw[o9,Ag] at C;have s1:qh L (qi L J<|.lst<|rks.map Y.int):=By I;refine qb (s1 _ _ ha) ?_;have lo:(jz g).length=g.length:=Ag ..;refine⟨⟨A6 _,by rw[lo];lia⟩,λp hp=>qw q9 ?_⟩;have al:J≠p:=bx q9 hp;have au:Pt≠p:=bx (s1 _ _ hP) hp;have av:Pt≠J:=bx hP I;refine⟨g.length,rks,J,by rw[BG,lo],rfl,(qg al).trans q9,C,hz,(qg au).trans<|(qg av).trans hP,λD qs hD pm pw=>?_⟩;have ax:=bG hD;have aL:=bG ax;refine⟨qi L D<|.lst<|nY qs,λb o e=>?_,q D qs aL pm<|RT ok T C pw⟩;by_cases c:b=D
  ·subst c;rw[q9] at e ⊢;exact e
  ·rw[qg c] at e ⊢;rw[qg (λz=>by subst z;rw[bG hp] at e;cases e),qg (λz=>by subst z;rw[I] at e;cases e)];exact e
theorem lm(y:Y)(l:List Y):fq (y::l) (some 1) none=l:=by
 unfold fq;have e:HT.sIx (y::l).length 0 (some 1)=1:=by show min 1 (l.length+1)=1;lia
 rw[e];show(l.take<|l.length+1-1)=l;rw[Nat.add_sub_cancel,BC]
theorem pN(y:Y)(l:List Y):¬(HT.sIx (y::l).length 0 (some 1)=0/\HT.sIx (y::l).length (y::l).length none=(y::l).length):=λz=>by
 have e:HT.sIx (y::l).length 0 (some 1)=1:=by show min 1 (l.length+1)=1;lia
 rw[e] at z;exact absurd z.1 (by decide)
def Fj:Ru->Str
 |.link _ _ => "link"
 |.ei _ _ => "either"
 |.bo _ _ _ => "both"
 |.cu _ _ _ _ => "cut"
theorem iD(A:Ru):zj A=.tup (.str (Fj A)::(nY (plR A)++(wu A).map zj)):=by cases A<;>rfl
def cU(n:Nat):zh:=λys L Q=>∃R:Ru,∃d,∃kvs:List (jf×Y),∃f:Nat->Nat,ys=[zj R,.ref d]/\L d=some (.dct kvs)/\(∀B∈eW R,∀x∈plR B,kn kvs (.inl (x:Int))=some (.int (f x:Int)))/\ve R<=n/\Q (zj<|bX f R) L
theorem Sk:∀ys L Q,¬cU 0 ys L Q:=by rintro ys L Q ⟨A,_,_,_,_,_,_,h,_⟩;have:=uP A;lia
theorem pU{P:List Nat}{As:List Ru}(h:(nY P++As.map zj)[i]?=some y):(i<P.length/\∃x,P[i]?=some x/\y=.int (x:Int))\/(P.length<=i/\∃B,As[i-P.length]?=some B/\y=zj B):=by
 by_cases c:i<P.length
 ·rw[AF (by rw[dP];exact c)] at h;exact .inl ⟨c,Jf h⟩
 ·rw[Av (by rw[dP];lia),dP,Aq] at h;obtain⟨B,e,z⟩:=AA.mp h;exact .inr ⟨by lia,B,e,z.symm⟩
theorem SR.pl{E:List Nat}(h:SR ks R E):∀B∈eW R,∀x∈plR B,x<ks.length:=λB J x I=>by
 obtain⟨⟨o,s⟩,_⟩:=h.rls B J;have l:=s.lt;cases s with
 |link=>exact l x I
 |ei=>rw[An.mp I];exact l _<|Ak ..
 |bo=>rw[An.mp I];exact l _<|Ak ..
 |cu U g h3 j=>
  rcases Am.mp I with rfl|I
  ·exact l _<|Ap _<|U.sub _ h3
  ·rw[An.mp I];exact l _<|Ai _<|g.sub _ j
noncomputable def fe(I:zh):RR "_law_gather" bu 1 ["_law_rule","_law_links","_law_cuts"] ["_law_rule","_law_links","_law_cuts","_law_arm"] I (λ_=>True):=⟨_,λV B c _ _ J _ _ _ _ _ _ g hN U=>(xu (zu (E_ U (J_ 0) jx) (qd<|zm<|zg (qv 1)<|xh<|zf<|xm (J_ 0)<|J_ 0) z9)<|xu (zu (E_ U (J_ 0) jx) (qd<|zm<|zg (qv 2)<|xh<|zf<|xm (J_ 0)<|J_ 0) z9)<|qd<|aA wh rfl (vF<|wv (GB _ _ _) (qv 0) (aM qc) bW) (G_ 3 hN)<|qd<|zu (vm<|ky .tuple rfl B.be rfl B.bi cQ<|qv 3) (qd<|zm<|C_ J g<|bO (qv 3) (qv 1)<|qv 2) z9)⟩
noncomputable def nS(I:zh):vh:=(fe I).1
noncomputable def Jp(I:zh):RD "_law_web" gA 121 ["_law_tree_here","_law_links","_law_cuts"] (λV=>IF V I):=⟨_,λV B c _ _ _ _ _ _ _ J hN U=>(qa (S_ 1 hN<|js wb)<|qa (S_ 2 hN<|js wb)<|qa (zm<|C_ c J<|bO (J_ 0) (qv 1)<|qv 2)<|qd<|qz<|zf<|bO (kq wf rfl B.bb vv<|xh<|J_ 0) (ji fM rfl B.bg ai<|xh<|qv 1)<|ji fM rfl B.bg ai<|xh<|qv 2)⟩
noncomputable def Sl(I:zh):vh:=(Jp I).1
abbrev ae(L:qo)(l c:Addr)(lk ct:List<|Nat×Nat):qo:=qi (qi L l<|.lst<|qt lk) c<|.lst<|qt ct
theorem GC{c:Addr}(h:l≠c):ae L l c lk ct l=some (.lst<|qt lk):=(qg h).trans q9
theorem Sm{c:Addr}(h:l≠c):qi (ae L l c lk ct) l (.lst<|qt fv)=ae L l c fv ct:=by unfold ae;rw[oP<|AL h,x4]
theorem wM{c:Addr}(h:l≠c):ae (ae L l c lk ct) l c fv ir=ae L l c fv ir:=by show qi (qi (ae L l c lk ct) l _) c _=_;rw[Sm h,x4]
theorem Sn{c:Addr}(h1:L l=some (.lst<|qt lk))(h2:L c=some (.lst<|qt ct)):ae L l c lk ct=L:=by unfold ae;rw[iw h1,iw h2]
def aj(n:Nat):zh:=λys L Q=>∃R:Ru,∃l c,∃lk ct:List (Nat×Nat),ys=[zj R,.ref l,.ref c]/\L l=some (.lst<|qt lk)/\L c=some (.lst<|qt ct)/\l≠c/\ve R<=n/\lk.length+gb R<=127/\ct.length+gb R<=127/\Q .non (ae L l c (lk++zc R)<|ct++ze R)
theorem y9:∀ys L Q,¬aj 0 ys L Q:=by rintro ys L Q ⟨A,_,_,_,_,_,_,_,_,h,_⟩;have:=uP A;lia
theorem So(R:Ru):(sV R).length<=1/\(vH R).length<=1:=by cases R<;>simp[sV,vH]
theorem ke:∀R:Ru,(zc R).length+(ze R).length<=gb R
 |.link _ _=>Ao _
 |.ei _ A=>by have:=ke A;show _<=gb A+1;exact BP this
 |.bo _ A B=>by have:=ke A;have:=ke B;show(zc A++zc B).length+(ze A++ze B).length<=gb A+gb B+1;rw[Ad,Ad];lia
 |.cu p q A B=>by have:=ke A;have:=ke B;show(zc A++zc B).length+((p,q)::(ze A++ze B)).length<=gb A+gb B+1;rw[Ad,AJ,Ad];lia
theorem Sr{As:List Ru} :((As.take j).flatMap zc).length<=((As.take j).map gb).sum/\((As.take j).flatMap ze).length<=((As.take j).map gb).sum:=by
 generalize As.take j=I
 induction I with
 |nil=>exact⟨Ao _,Ao _⟩
 |cons B r J=>
  have:=ke B;rw[Bm,Bm,Ad,Ad,AG,List.sum_cons];lia
theorem Ss{l:List Nat}{x:Nat}(h:l[j]?=some x):(l.take j).sum+x<=l.sum:=by
 obtain⟨I,e⟩:=AN.mp h;have:l=l.take j++x::l.drop (j+1):=by rw[<-e,CC,Bh]
 have:=BF List.sum this;rw[List.sum_append,List.sum_cons] at this;lia
theorem yu(n:Nat):∀ys L Q,aj (n+1) ys L Q->v9 (nS<|aj n) 4 ys L Q:=by
 rintro ys L Q ⟨R,l,c,lk,U,rfl,t,hc,ne,hr,hz,hy,q⟩;have big:=a_;have pl:∀l:List (Nat×Nat),(qt l).length=l.length:=λl=>Ag ..;have rz:=RW R;have same:ae L l c (lk++[]) (U++[])=L:=by rw[AD,AD];exact Sn t hc
 refine⟨λI J=>I=[some<|zj R,some<|.ref l,some<|.ref c,none]/\J=ae L l c (lk++sV R) (U++[]),?_,?_⟩
 ·cases R with|link p s=>exact qw t (qw t ⟨by rw[pl];exact big _ (by lia),rfl,by rw[AD];unfold ae;rw[oP ne,iw hc];exact BF (λz=>qi L l<|.lst z)<|vn lk (p,s)⟩)|ei r A=>exact⟨rfl,same.symm⟩|bo r A B=>exact⟨rfl,same.symm⟩|cu p s A B=>exact⟨rfl,same.symm⟩
 rintro I L1 ⟨rfl,rfl⟩;refine⟨λI J=>I=[some<|zj R,some<|.ref l,some<|.ref c,none]/\J=ae L l c (lk++sV R) (U++vH R),?_,?_⟩
 ·cases R with|link p s=>exact⟨rfl,rfl⟩|ei r A=>exact⟨rfl,rfl⟩|bo r A B=>exact⟨rfl,rfl⟩|cu p s A B=>exact qw q9 (qw q9 ⟨by rw[pl,AD];exact big _ (by lia),rfl,by rw[AD,x4];exact BF (λz=>qi _ c<|.lst z)<|vn U (p,s)⟩)
 rintro I L1 ⟨rfl,rfl⟩;have va:∀B∈wu R,ve B<=n:=λB hB=>by have:=oU hB;lia
 have lp:(plR R).length<=2:=by cases R<;>simp[plR]
 have ol:=So R;rw[vX,zC,<-Ay,<-Ay] at q;have l1:(lk++sV R).length<=lk.length+1:=by rw[Ad];lia
 have l2:(U++vH R).length<=U.length+1:=by rw[Ad];lia
 rw[iD R];generalize lk++sV R=gT at q l1 ⊢;generalize U++vH R=g at q l2 ⊢;generalize plR R=P at lp ⊢;generalize wu R=As at va rz q ⊢;generalize Fj R=C;have ll:(nY P++As.map zj).length=P.length+As.length:=by rw[Ad,dP,Ag]
 refine⟨pN _ _,?_⟩;rw[lm];refine wz ⟨λi I J=>∃c3,I=[some<|.tup<|.str C::(nY P++As.map zj),some<|.ref l,some<|.ref c,c3]/\J=ae L l c (gT++(As.take<|i-P.length).flatMap zc) (g++(As.take<|i-P.length).flatMap ze),⟨_,rfl,by rw[Nat.zero_sub,List.take_zero,CU,CU,AD,AD]⟩,λ_ _ _ _=>True.intro,?_,?_⟩
 ·rintro i y I J T ⟨c3,rfl,rfl⟩;rcases pU T with⟨o,x,ex,rfl⟩|⟨o,B,eB,rfl⟩
  ·exact⟨_,EC _,_,rfl,by rw[CI o,CI<|BL o]⟩
  ·have t1:=Sr (As:=As) (j:=i-P.length);have t2:=Ss (l:=As.map gb) (j:=i-P.length) (x:=gb B) (by rw[Aq,eB];rfl);rw[List.map_take] at t1;have z:aj n [zj B,.ref l,.ref c] (ae L l c (gT++(As.take<|i-P.length).flatMap zc)<|g++(As.take<|i-P.length).flatMap ze) λz L4=>db (λI J=>∃c3,I=[some<|.tup<|.str C::(nY P++As.map zj),some<|.ref l,some<|.ref c,c3]/\J=ae L l c (gT++(As.take<|i+1-P.length).flatMap zc) (g++(As.take<|i+1-P.length).flatMap ze)) [some<|.tup<|.str C::(nY P++As.map zj),some<|.ref l,some<|.ref c,some<|zj B] L4:=by refine⟨B,l,c,_,_,rfl,GC ne,q9,ne,va B<|Az eB,by rw[Ad];lia,by rw[Ad];lia,_,EC _,_,rfl,?_⟩;rw[wM ne,Nat.succ_sub o,Bo,eB,A5,A5,Ay,Ay];simp
   rw[iD B] at z ⊢;exact z
 ·rintro I J ⟨c3,rfl,rfl⟩;rw[ll,B9,BC];exact x8 q
def kF:zh:=λys L Q=>∃a,∃xs:List Y,∃R:Ru,ys=[.tup [.ref a,zj R]]/\L a=some (.lst xs)/\ve R<=120/\gb R<=127/\(zc R).Nodup/\(ze R).Nodup/\(∀p∈zc R,p.2<1000000)/\(∀p∈ze R,p.2<1000000)/\
 ∀I J c' lk ct L',qh L L'->L I=none->L J=none->L c'=none->I≠J->I≠c'->J≠c'->L' I=some (.lst xs)->L' J=some (.lst<|qt lk)->L' c'=some (.lst<|qt ct)->lk.Perm (zc R)->lk.Pairwise ao->ct.Perm (ze R)->ct.Pairwise ao->Q (xi I J c') L'
theorem Su:∀ys L Q,kF ys L Q->v9 (Sl<|aj 120) 3 ys L Q:=by rintro ys L Q ⟨a,xs,R,rfl,ha,hd,hz,n1,n2,b1,b2,q⟩ l hl c hc;have I:l≠c:=bx q9 hc;have p:L c=none:=bG hc;have pz:=ke R;have s0:qh L (ae L l c [] []):=(By hl).trans<|By hc;have e0:qi (qi L l<|.lst []) c (.lst [])=ae L l c [] []:=rfl;have ac:a≠l:=bx ha hl;have al:a≠c:=bx ha p;rw[e0];refine⟨R,l,c,[],[],rfl,GC I,q9,I,hd,by rw[DD];lia,by rw[DD];lia,?_⟩;rw[wM I,Cn,Cn];have T:qh L (ae L l c (zc R)<|ze R):=((EC _).upd hl).upd p;have g1:ae L l c (zc R) (ze R) l=some (.lst<|qt<|zc R):=GC I;have g2:ae L l c (zc R) (ze R) c=some (.lst<|qt<|ze R):=q9;generalize ae L l c (zc R) (ze R)=L1 at T g1 g2 ⊢;refine qb (T _ _ ha) λr J=>?_;have s2:=T.trans<|By (o:=.lst xs) J;show kj [.ref l] (qi L1 r<|.lst xs) λz2 L2=>kj [.ref c] L2 λz3 L3=>ip Q (.tup [.ref r,z2,z3]) L3;refine oY (By J _ _ g1) b1 n1 (by lia) λD1 lk U a1 a3=>?_;have s3:=s2.trans<|By (o:=.lst<|qt lk) U;refine oY (((By J).trans<|By U) _ _ g2) b2 n2 (by lia) λD2 ct g a4 a5=>?_;have j:r≠D1:=bx q9 U;have t:D1≠D2:=bx q9 g;have C:r≠D2:=bx ((qg j).trans q9) g;exact x8<|q r D1 D2 lk ct _ (s3.trans<|By g) (T.none J) (s2.none U) (s3.none g) j C t ((qg C).trans<|(qg j).trans q9) ((qg t).trans q9) q9 a1 a3 a4 a5
def uM:vh:=(zn (x5 (qf 0)<|jS 3<|vi (qp 1)<|vi (qp 2)<|vi (qp 3) gn)
 (zn (x5 Ik<|qp 4)
 (zn (rV (dr<|qf 1) (qp 5) (aG (yj (yB<|dY true<|qf 5)<|o_ (qR 5)<|bJ 3) (zn (tH (qf 4) (wx 5 1)<|yC<|.bl true)
 (tH (qf 4) (wx 5 2)<|yC<|.bl true)) vz))
 (zn (rV (dr<|qf 3) (jS 2<|vi (qp 6)<|vi (qp 7) gn) (zn (tH (qf 4) (qf 6)<|yC<|.bl true)
 (tH (qf 4) (qf 7)<|yC<|.bl true)))
 (Jj 6<|we<|s_ 1 (mZ<|aX<|qR 1) (qp 8) (yj (yB<|dY true<|xx fY (qf 1)<|qf 8)<|yB<|xx (FE true) (qf 8)<|qf 4)<|qf 8)))))
def pD:zh:=λys L Q=>∃a l c,∃wd:List (Option Kn),∃ct:List (Nat×Nat),ys=[xi a l c]/\L a=some (.lst<|jz wd)/\L c=some (.lst<|qt ct)/\wd.length<=1000/\ct.length<=1000/\∀p,L p=none->Q (.ref p) (qi L p<|.lst<|nY<|a7 wd (aP wd ct) wd.length)
theorem Sv:∀ys L Q,pD ys L Q->v9 uM 8 ys L Q:=by
 rintro ys L Q ⟨wa,la,ca,I,l,rfl,e1,e3,wl,cl,q⟩;have big:=a_;intro us T;have s2:qh L (qi L us<|.dct []):=By T;refine ku (s2 _ _ e1) λkeep kp=>wz ⟨λi r j=>∃J c3 c4 c5,r=[some<|xi wa la ca,some<|.ref wa,some<|.ref la,some<|.ref ca,some<|.ref us,c3,c4,c5]/\qh L j/\j us=some (.dct J)/\UsI (xl<|I.take i) J,⟨[],_,_,_,rfl,s2,q9,UsI.nil⟩,?_,?_,?_⟩
 ·rintro i r j ⟨J,c3,c4,c5,rfl,s,_⟩;exact kp j (by rw[s _ _ e1,s2 _ _ e1])
 ·rintro i y r j hy ⟨J,c3,c4,c5,rfl,s,g,U⟩;rw[Aq] at hy;obtain⟨k,ek,rfl⟩:=AA.mp hy;have et:I.take (i+1)=I.take i++[k]:=by rw[Bo,ek];rfl
  have pl:=oB<|I.take i;rw[AY] at pl;have ul:=U.len;have stay:zq k=[]->UsI (xl<|I.take<|i+1) J:=λh=>by rw[et,lu,h,AD];exact U
  cases k with
  |none=>exact⟨_,EC _,_,_,_,_,rfl,s,g,stay rfl⟩
  |some k=>
   cases k with
   |lf t n=>exact⟨_,EC _,_,_,_,_,rfl,s,g,stay rfl⟩
   |nd e i' j'=>
    refine vk g ⟨big _ (by lia),?_⟩;have U1:=U.put i'<|.bl true;have C:=U1.len;rw[Ad] at C;refine vk q9 ⟨big _ (by simp at C;lia),?_⟩;have U2:=U1.put j'<|.bl true;rw[x4];exact⟨_,EC _,_,_,_,_,rfl,s.upd T,q9,by rw[et,lu];rw[Ay] at U2;exact U2⟩
 rintro r L2 ⟨J,c3,c4,c5,rfl,s3,g,U⟩;rw[Ag,BC] at U;have pl:=oB I;have a1:=aO l;refine ku (s3 _ _ e3) λkeep kp=>wz ⟨λi r j=>∃J c4 c5,r=[some<|xi wa la ca,some<|.ref wa,some<|.ref la,some<|.ref ca,some<|.ref us,c3,c4,c5]/\qh L j/\j us=some (.dct J)/\UsI (xl I++plcs (l.take i)) J,⟨_,_,_,rfl,s3,g,by show UsI (xl I++[]) _;rw[AD];exact U⟩,?_,?_,?_⟩
 ·rintro i r j ⟨J,c4,c5,rfl,s,_⟩;exact kp j (by rw[s _ _ e3,s3 _ _ e3])
 ·rintro i y r j hy ⟨J,c4,c5,rfl,s,g,U⟩;rw[Aq] at hy;obtain⟨pr,ep,rfl⟩:=AA.mp hy;have et:l.take (i+1)=l.take i++[pr]:=by rw[Bo,ep];rfl
  have pt:=aO<|l.take i;rw[AY] at pt;have ul:=U.len;rw[Ad] at ul;refine vk g ⟨big _ (by lia),?_⟩;have U1:=U.put pr.1<|.bl true;have C:=U1.len;rw[Ad,Ad] at C;refine vk q9 ⟨big _ (by simp at C;lia),?_⟩;have U2:=U1.put pr.2<|.bl true;rw[x4];exact⟨_,EC _,_,_,_,rfl,s.upd T,q9,by rw[et,jm,v4,<-Ay];rw[Ay<|_++_] at U2;exact U2⟩
 rintro r L3 ⟨J,a3,a4,rfl,s4,g,U⟩;rw[Ag,BC] at U;have U:UsI (aP I l) J:=U;have C:=s4 _ _ e1;have lw:(jz I).length=I.length:=Ag ..;refine qb C ⟨⟨A6 _,by rw[lw];omega⟩,?_⟩;rw[lw,BG];refine rH (λi o=>o=nY (a7 I (aP I l) i)) (big _ (by lia)) rfl ?_ ?_
 ·rintro i o hi rfl;obtain⟨k,ek⟩:∃k,I[i]?=some k:=⟨_,Al hi⟩;have no:jL I (aP I l) i=false->db (λo j=>j=L3/\o=nY (a7 I (aP I l)<|i+1)) (nY<|a7 I (aP I l) i) L3:=λh=>⟨L3,EC _,rfl,by rw[mM,AC (by rw[h];exact AH),AD]⟩;have yes:jL I (aP I l) i=true->db (λo j=>j=L3/\o=nY (a7 I (aP I l)<|i+1)) (nY (a7 I (aP I l) i)++[.int<|0+(i:Int)]) L3:=λh=>⟨L3,EC _,rfl,by rw[mM,AB h,vJ,B4];rfl⟩;refine qb C<|qm (Si ek) ?_;cases k with
  |none=>exact no (by unfold jL gp;rw[ek];rfl)
  |some k=>
   have key:qB L3 us λJ=>vt (nb true (kn J<|.inl<|0+(i:Int)).isSome) (db (λo j=>j=L3/\o=nY (a7 I (aP I l)<|i+1)) (nY (a7 I (aP I l) i)++[.int<|0+(i:Int)]) L3) (db (λo j=>j=L3/\o=nY (a7 I (aP I l)<|i+1)) (nY<|a7 I (aP I l) i) L3):=by
    refine vk g ?_;rw[show(Sum.inl (0+(i:Int)):jf)=.inl (i:Int) by rw[B4],U.val];by_cases cu:i∈aP I l
    ·exact aZ (by rw[AM cu];rfl) (no (by unfold jL gp;rw[ek,AM cu];rfl))
    ·exact iP (by rw[AE cu];rfl) (yes (by unfold jL gp;rw[ek,AE cu];rfl))
   cases k with|lf t n=>exact key|nd e i' j'=>exact key
 ·rintro o rfl p hp;exact m8 (qh.put (s4.trans<|By hp) q9)<|q p<|s4.none hp
noncomputable def Jq(U:zh)(I:zh)(J:zh):RD "_law_gapped" cD 121 ["_law_tree_here","_law_stir_here","_law_number_here","_law_gap","_law_offset","_law_at","_law_made","_law_k","_law_p","_law_knot"] (λV=>Fh V U/\II V I/\IJ V J):=⟨_,λV B c _ _ _ _ _ _ _ j hN g=>(qa (S_ 2 hN<|C_ c.1 j<|xm (qv 1) qc)<|qa (S_ 3 hN qc)<|xu (zu (E_ g (qj jj (qv 2) qc) qc) (qd<|S_ 3 hN<|qj jh qc<|qj jj (qj vg (qv 2) qc) qc) z9)<|qa (S_ 4 hN<|qj jj (qj vg (qv 2) qc)<|qj jh (qv 3) qc)<|qa (S_ 5 hN xX)<|qa (S_ 6 hN<|js wb)<|qa (aA wh rfl (kR rfl B.bn<|C_ c.2.1 j<|xm (J_ 0)<|qv 1) (aD (n:=2) rfl<|zd (G_ 7 hN)<|zd (G_ 8 hN) vf)<|qa (lD wh (jq rm (L_ B.ba<|qv 6) (qj jh (qv 7)<|qj vg (qj jh (qv 7)<|qv 4)<|qv 3)<|km _)<|qd<|zm<|zg (qv 6)<|xh eM)<|qa (hW g (qv 5) (qv 8)<|L_ B.ba<|qv 6)<|qa (S_ 9 hN<|I_ (J_ 0)<|qv 8)<|qd<|zm<|zg (qv 6)<|xh<|du (E_ g (L_ B.ba<|qv 9) qc) (qv 9)<|zf<|bO (J_ 9) (dE g (qv 5) (J_ 9) λ_ _=>rfl)<|dE g (qv 5) (J_ 9) λ_ _=>rfl)<|qd<|qz<|zf<|xm (qv 6)<|C_ c.2.2 j<|xm (J_ 0)<|qv 5)⟩
noncomputable def Sw(U:zh)(I:zh)(J:zh):vh:=(Jq U I J).1
def qK(Pt:Addr):zh:=λys L Q=>∃a,∃ks:List Kn,∃R:Ru,∃E:List Nat,∃s:Int,ys=[.tup [.ref a,zj R],.int s]/\L a=some (.lst<|jv ks)/\iO ks R E/\L Pt=some (.tb lamQ)/\
 ∀w f wd,L w=none->yE f (ks.map some) wd->Q (.tup [.ref w,zj<|bX f R]) (qi L w<|.lst<|jz wd)
theorem Sx{i off g:Int}(hi:0<=i)(h1:1<=g)(I:off<=g):(i+off) / g<=i+1:=by refine Int.ediv_le_of_le_mul (by lia) ?_;have:=Int.mul_le_mul_of_nonneg_left h1 hi;rw[Er];lia
theorem Sy :∀ys L Q,qK Pt ys L Q->v9 (Sw dO (iS Pt)<|cU 120) 10 ys L Q:=by
 rintro ys L Q ⟨a,a3,R,E,s,rfl,ha,T,hP,q⟩;have big:=a_;have hz:=T.len;have sr:=T.sr;obtain⟨U,l⟩:∃U,U=a3.map some:=⟨_,rfl⟩;have aL:U.length=a3.length:=by rw[l,Ag]
 have ok:jC U:=by rw[l];exact mD T.ok
 refine⟨s,91827,rfl,by decide,by decide,λnum n0 _=>?_⟩;refine⟨λo L'=>∃g:Int,5<=g/\g<=200/\o=[some<|.tup [.ref a,zj R],some<|.int s,some<|.int num,some<|.int g,none,none,none,none,none,none]/\L'=L,?_,?_⟩
 ·exact⟨(by decide:(0:Int)<3),zp (λ_=>⟨⟨by decide,by decide⟩,(by decide:(0:Int)<9),_,by lia,by lia,rfl,rfl⟩) λ_=>⟨200,by decide,by decide,rfl,rfl⟩⟩
 rintro o L' ⟨g,g1,g2,rfl,rfl⟩;refine⟨⟨by decide,by decide⟩,(show(0:Int)<g+1 by lia),?_⟩;have ho:num / 27 % (g+1)<=g:=by have:=Ce (num / 27) (show(0:Int)<g+1 by lia);lia
 show qp 4 (.int<|num / 27 % (g+1)) _ _ _;generalize num / 27 % (g+1)=off at ho ⊢;intro d hd w hw;have a5:L' w=none:=bG hw;have a1:d≠w:=bx q9 hw;have s0:qh L' (qi (qi L' d<|.dct []) w<|.lst []):=(By hd).trans<|By hw;refine⟨a,a3,s,rfl,s0 _ _ ha,by rw[<-l];exact ok,by lia,s0 _ _ hP,λD I hD pm pf=>?_⟩;rw[<-l] at pm pf;have ac:w≠D:=bx q9 hD;have av:d≠D:=bx ((qg a1).trans q9) hD;have lq:I.length=U.length:=by rw[pm.length_eq,BY]
 have aR:I.Nodup:=pm.nodup_iff.mpr CV;have mq:∀p∈I,p<U.length:=λp hp=>A7.mp<|pm.mem_iff.mp hp;have G0:pK L' U I d w D 0 0 (λ_=>0) [] [] (qi (qi (qi L' d<|.dct []) w<|.lst []) D<|.lst<|nY I):=
  ⟨s0.trans<|By hD,(qg av).trans<|(qg a1).trans q9,(qg ac).trans q9,q9,Ao _,λp=>rfl,vC.nil _ _,Ao _⟩
 refine ku q9 λkeep kp=>wz ⟨λi o L1=>∃f wd J c7 c8 c9,o=[some<|.tup [.ref a,zj R],some<|.int s,some<|.int num,some<|.int g,some<|.int off,some<|.ref d,some<|.ref w,c7,c8,c9]/\pK L' U I d w D i 0 f wd J L1,⟨_,_,_,_,_,_,rfl,G0⟩,?_,?_,?_⟩
 ·rintro i o L1 ⟨f,wd,J,c7,c8,c9,rfl,G⟩;exact kp L1 (by rw[G.hD,q9])
 ·rintro i y o L1 hy ⟨f,wd,J,c7,c8,c9,rfl,G⟩;obtain⟨z,ez,rfl⟩:=gc hy;obtain⟨p,ep,rfl⟩:=Jf ez;have hi:=jb ep;have hp:p<U.length:=mq p<|Az ep;obtain⟨k,hk⟩:∃k,a3[p]?=some k:=⟨_,Al (by lia)⟩;have ax:U[p]?=some (some k):=by rw[l,Aq,hk];rfl
  have pn:p∉I.take i:=λhm=>by
   have e2:I=I.take i++p::I.drop (i+1):=by rw[Al hi] at ep;rw[<-Bc ep,CC,Bh]
   have nd:=aR;rw[e2] at nd;exact(Ar.mp nd).2.2 p hm p (Ak ..) rfl
  have et:I.take (i+1)=I.take i++[p]:=by rw[Bo,ep];rfl
  have a4:∀e i' j',some k=some (.nd e i' j')->i'∈I.take i/\j'∈I.take i:=λe i' j' z=>mh ok pm pf ep (by rw[ax,z]);have al:∀x∈I.take i,∀e i' j',U[x]?=some (some<|.nd e i' j')->i'∈I.take i/\j'∈I.take i:=λx hx e i' j' z=>by
   obtain⟨n,hn⟩:=DA hx;have ba:=jb hn;rw[AY] at ba;rw[List.getElem?_take_of_lt (by lia)] at hn;obtain⟨h1,h2⟩:=mh ok pm pf hn z;have sb:∀y,y∈I.take n->y∈I.take i:=λy hy=>by
    have:I.take n=(I.take i).take n:=by rw[List.take_take,BJ (by lia)]
    rw[this] at hy;exact BI hy
   exact⟨sb _ h1,sb _ h2⟩
  have plain:pK L' U I d w D i 1 f wd J L1:=⟨G.sub,G.hd,G.hw,G.hD,G.len,G.val,G.gap,BP G.wlen⟩;refine⟨λm o L2=>∃wd',o=[some<|.tup [.ref a,zj R],some<|.int s,some<|.int num,some<|.int g,some<|.int off,some<|.ref d,some<|.ref w,some<|.int (i:Int),some<|.int (p:Int),c9]/\pK L' U I d w D i 1 f wd' J L2/\m=2*i+1-wd'.length,⟨_,wd,rfl,plain,rfl⟩,?_⟩;rintro m o L2 ⟨wd',rfl,C,rfl⟩;have wl:=C.wlen;refine qb C.hw ⟨⟨by lia,by lia⟩,?_⟩;refine zp (λc=>?_) λc=>?_
  ·have c:((jz wd').length:Int)<(i:Int)+((i:Int)+off) / g:=c;rw[cj] at c;have dv:=Sx (i:=(i:Int)) (A6 _) (show 1<=g by lia) ho;refine⟨λo L3=>∃j,o=[some<|.tup [.ref a,zj R],some<|.int s,some<|.int num,some<|.int g,some<|.int off,some<|.ref d,some<|.ref w,some<|.int (i:Int),some<|.int (p:Int),c9]/\pK L' U I d w D i 1 f j J L3/\j.length=wd'.length+1,?_,?_⟩
   ·rintro o L3 ⟨j,rfl,G2,e⟩;exact⟨2*i+1-j.length,by lia,j,rfl,G2,rfl⟩
   ·refine qb C.hw (qw C.hw ⟨by rw[cj];exact big _ (by lia),?_⟩);have:=C.wide (wd':=wd'++[none]) (ex':=1) a5 a1 ac C.gap.gap (by rw[Ad];show wd'.length+1<=_;lia);rw[<-tW] at this;exact⟨_,EC _,wd'++[none],rfl,this,Ad⟩
  have vp:∀y:Nat,kn (mI J (.inl (p:Int))<|.int ((wd'.length:Nat):Int)) (.inl (y:Int))=if y∈I.take i++[p] then some (.int (((if y=p then wd'.length else f y):Nat):Int)) else none:=λy=>by
   rw[sM];by_cases e:y=p
   ·subst e;rw[AB rfl,AB rfl,AB<|Ai _<|An.mpr rfl]
   ·rw[AC λz=>e<|BK.mp<|Sum.inl.inj z,AC e,C.val];by_cases h:y∈I.take i
    ·rw[AB h,AB<|Ap _ h]
    ·rw[AC h,AC λz=>(Aj.mp z).elim h λz=>e<|An.mp z]
  have kl:=C.len;refine qb C.hw ?_;rw[cj];refine vk C.hd ⟨big _ (by lia),?_⟩;have bb:a≠d:=bx ha hd;refine qb ((qg bb).trans<|C.sub _ _ ha)<|qm (kw hk) ?_;have au:qi L2 d (.dct<|mI J (.inl (p:Int))<|.int ((wd'.length:Nat):Int)) w=some (.lst<|jz wd'):=(qg<|AL a1).trans C.hw;have hb:∀x∈I.take i,x<U.length:=λx hx=>mq x<|BI hx;have done:db (λo L1=>∃f wd J c7 c8 c9,o=[some<|.tup [.ref a,zj R],some<|.int s,some<|.int num,some<|.int g,some<|.int off,some<|.ref d,some<|.ref w,c7,c8,c9]/\pK L' U I d w D (i+1) 0 f wd J L1) [some<|.tup [.ref a,zj R],some<|.int s,some<|.int num,some<|.int g,some<|.int off,some<|.ref d,some<|.ref w,some<|.int (i:Int),some<|.int (p:Int),some<|qX k] (qi (qi L2 d<|.dct<|mI J (.inl (p:Int))<|.int ((wd'.length:Nat):Int)) w<|.lst<|jz wd'++[uU<|iV f<|some k]):=by
   rw[tW];refine⟨_,EC _,λx=>if x=p then wd'.length else f x,wd'++[iV f<|some k],_,_,_,_,rfl,(C.sub.upd hd).upd a5,(qg a1).trans q9,q9,(qg<|AL ac).trans<|(qg<|AL av).trans C.hD,?_,λy=>?_,?_,?_⟩
   ·have:=uI J (.inl (p:Int))<|.int ((wd'.length:Nat):Int);lia
   ·rw[et];exact vp y
   ·rw[et];exact C.gap.step hb pn ax al a4
   ·rw[Ad];show wd'.length+1<=_;lia
  refine qb au ?_;cases k with
  |lf t n=>exact qw au ⟨by rw[cj];exact big _ (by lia),done⟩
  |nd e p1 p2=>
   obtain⟨m1,m2⟩:=a4 e p1 p2 rfl;have v1:=vp p1;have v2:=vp p2;rw[AB<|Ap _ m1,AC λ(z:p1=p)=>pn<|z▸m1] at v1;rw[AB<|Ap _ m2,AC λ(z:p2=p)=>pn<|z▸m2] at v2;refine vk ((q9:qi L2 d _ d=some _))<|qm v1 ?_;refine vk ((q9:qi L2 d _ d=some _))<|qm v2 ?_;exact qw au ⟨by rw[cj];exact big _ (by lia),done⟩
 ·rintro o L1 ⟨f,wd,J,c7,c8,c9,rfl,G⟩;have eq:(mz<|nY I).length=I.length:=by rw[o9];exact Ag ..
  rw[eq] at G;have et:I.take I.length=I:=BC;have val:∀p,p<U.length->kn J (.inl (p:Int))=some (.int (f p:Int)):=λp hp=>by rw[G.val,et,AB<|pm.mem_iff.mpr<|A7.mpr hp]
  have gap:vC U (List.range U.length) f wd:=by have g:=G.gap;rw[et] at g;exact⟨λp hp=>g.at_ p<|pm.mem_iff.mpr hp,λp hp r hr=>g.inj p (pm.mem_iff.mpr hp) r<|pm.mem_iff.mpr hr,λx k hx=>let ⟨r,hr,e⟩:=g.only x k hx;⟨r,pm.mem_iff.mp hr,e⟩,g.ok⟩
  have rd:=w5 R;have tl:=T.tp.length_eq;rw[BY] at tl;refine⟨R,d,J,f,rfl,G.hd,λB hB x hx=>val x (by rw[aL];exact sr.pl B hB x hx),by lia,?_⟩;have wl:=G.wlen;rw[lq] at wl;exact m8 (qh.put G.sub G.hw) (q w f wd a5 ⟨by rw[<-l];exact gap,by rw[<-l];lia⟩)
end L3
namespace L2
open PySem PySem.W
section
variable {K:Af}(T:K.lookup Pt=some (PySem.W.tabObj #[]))
include T
theorem Jr :clsIn (lessK Pt K) C=clsIn K C:=by
 unfold clsIn;by_cases d:C=Pt
 ·subst d;rw[vj,T]
 ·rw[xj d]
theorem Sz{b:Value}:mroIn (lessK Pt K) C b=mroIn K C b:=by unfold mroIn;rw[Jr T]
theorem vM{t b:Value}:subIn (lessK Pt K) t b=subIn K t b:=by
 unfold subIn;split
 ·rfl
 ·exact Sz T
 ·rfl
theorem SA{t c:Value}{b:Bool}(e:kitCls K t c=some b):kitCls (lessK Pt K) t c=some b:=by
 unfold kitCls at e ⊢;split at e
 ·rename_i C;have n:C≠Pt:=by rintro rfl;unfold clsIn at e;rw[T] at e;cases e
  have h:typeIn (lessK Pt K) (.ref C)=typeIn K (.ref C):=by show(List.lookup C<|lessK Pt K).map _=(List.lookup C K).map _;rw[xj n]
  rw[Jr T,vM T,h];exact e
 ·rw[vM T];exact e
 ·cases e
theorem SD{t c:Value}{b:Bool}(e:exmOne K t c=some b):exmOne (lessK Pt K) t c=some b:=by
 unfold exmOne at e ⊢;rw[vM T];split at e
 ·rename_i h;rw[AB h];exact SA T e
 ·cases e
theorem xQ{N:Addr}:nsOkIn (lessK Pt K) N=nsOkIn K N:=by
 unfold nsOkIn;by_cases d:N=Pt
 ·subst d;rw[vj,T]
 ·rw[xj d]
theorem xG{bm:List Value}:∀l:List Value,tailIn (lessK Pt K) bm l=tailIn K bm l
 |[]=>rfl
 |v::r=>by
  unfold tailIn;congr 1;split
  ·rename_i A;by_cases d:A=Pt
   ·subst d;rw[vj,T]
   ·rw[xj d];split
    ·rw[xQ T,ns_dn T rfl,xG r]
    ·rfl
  ·rfl
theorem exc_dn{bm:List Value}{i:String}(e:excIn K C bm i=true):excIn (lessK Pt K) C bm i=true:=by
 unfold excIn at e ⊢;by_cases d:C=Pt
 ·subst d;rw[T] at e;cases e
 ·rw[xj d];split at e
  ·split at e
   ·rw[xG T,xQ T,ns_dn T rfl];exact e
   ·cases e
  ·cases e
end
section
variable {K:Af}(T:K.lookup Pt=some (PySem.W.tabObj #[]))
include T
end
end L2
namespace L3
open PySem L2
open PySem L2 Words
theorem o7{x y:Nat×Nat}(hN:(plcs lk).Nodup)(I:x∈lk)(J:y∈lk)(ne:x≠y){r s:Nat}(h:r=y.1/\s=y.2\/r=y.2/\s=y.1):(plcs<|(lk.filter λz=>decide (z≠x)&&decide (z≠y))++[bH x.1 r,bH x.2 s]).Perm (plcs lk):=by
 have pm:=jd<|gU (zx hN) I J ne;rw[za,za] at pm;rw[jm,za,v4];refine AW.trans<|List.Perm.trans ?_ pm.symm;refine(dC x.1 r _).trans ((((dC x.2 s _).cons _).cons _).trans<|List.Perm.cons _<|(List.Perm.swap ..).trans<|List.Perm.cons _ ?_);rcases h with⟨rfl,rfl⟩|⟨rfl,rfl⟩
 ·exact .refl _
 ·exact .swap ..
theorem wV{a b r:Int}{Q:YK}(h:0<b)(e:a % b=r)(q:Q (.int r) L):qC (.int a) (.int b) L Q:=by subst e;exact⟨h,q⟩
noncomputable def eU:RD "_law_swapped" bD 0 ["_law_web_here","_law_number_here","_law_knots","_law_links","_law_cuts","_law_one","_law_name_here","_law_alike_here","_law_two","_law_row","_law_p","_law_q","_law_x","_law_y"] (λ_=>True):=⟨_,λV B c _ _ _ _ _ _ _ J hN I=>(qa (cB (qv 0)<|aD (n:=3) rfl<|zd (bU (i:=2) hN rfl<|Or.inr rfl)<|zd (bU (i:=3) hN rfl<|Or.inr rfl)<|zd (G_ 4 hN) vf)<|qa (am (i:=5) hN rfl (Or.inr rfl)<|qj jj (qv 1)<|L_ B.ba<|qv 3)<|qa (am (i:=6) hN rfl (Or.inr rfl)<|I_ (I_ (qv 2)<|I_ (I_ (qv 3)<|qv 5) qc) qc)<|qa (aQ ["_law_k"] (i:=7) hN rfl (Or.inl rfl) (ER (by rfl)) rfl (wq rfl B.bf<|xh<|L_ B.ba<|qv 3) (uL 14) (λ_ _ _ _=>cx<|bF<|dD (N_ I (qv 14)<|qv 5)<|a9<|E_ I (I_ (I_ (qv 2)<|I_ (I_ (qv 3)<|qv 14) qc) qc)<|qv 6) λ_ _ _ _=>(qv 14))<|qa (zu (E_ I (qv 7)<|js wb) (qd<|qz<|qv 0) z9)<|qa (am (i:=8) hN rfl (Or.inr rfl)<|I_ (qv 7)<|qj jj (qj vg (qv 1) qc)<|L_ B.ba<|qv 7)<|qa (aQ ["_law_k"] (i:=9) hN rfl (Or.inl rfl) (ER (by rfl)) rfl (wq rfl B.bf<|xh<|L_ B.ba<|qv 3) (uL 14) (λ_ _ _ _=>cx<|jq (mV _ _ _) (qv 14) (zf<|xm (qv 5)<|qv 8) (by with_unfolding_all rfl)) λ_ _ _ _=>(I_ (qv 3)<|qv 14))<|qa (cB (I_ (qv 3)<|qv 5)<|aD (n:=2) rfl<|zd (G_ 10 hN)<|zd (G_ 11 hN) vf)<|qa (cB (I_ (qv 3)<|qv 8)<|aD (n:=2) rfl<|zd (G_ 12 hN)<|zd (G_ 13 hN) vf)<|xu (zu (N_ I (I_ (I_ (qv 2)<|qv 10) qc)<|I_ (I_ (qv 2)<|qv 12) qc) (qd<|wH (i:=12) (j:=13) rfl hN rfl rfl (by decide) rfl rfl (xm (qv 13)<|qv 12) rfl) z9)<|qa (zm<|zg (qv 9)<|xh<|zf<|xm (ji tV rfl B.bj iq<|xm (qv 10)<|qv 13)<|ji oE rfl B.bh fw<|xm (qv 10)<|qv 13)<|qa (zm<|zg (qv 9)<|xh<|zf<|xm (ji tV rfl B.bj iq<|xm (qv 12)<|qv 11)<|ji oE rfl B.bh fw<|xm (qv 12)<|qv 11)<|qd<|qz<|zf<|bO (qv 2) (ji fM rfl B.bg ai<|xh<|qv 9)<|qv 4)⟩
noncomputable def mC:vh:=(eU).1
def sT:vh:=(zn (wo<|kM x9 (qf 9)<|qk (aC<|qk (cL nj<|bN (qf 10)<|qf 13)<|qk (cL l7<|bN (qf 10)<|qf 13) je) je)
 (zn (wo<|kM x9 (qf 9)<|qk (aC<|qk (cL nj<|bN (qf 12)<|qf 11)<|qk (cL l7<|bN (qf 12)<|qf 11) je) je)
 (we<|aC<|qk (qf 2)<|qk (cL kj<|aX<|qf 9)<|aX<|qf 4)))
def SE:vh:=(tw (aG (g_ (xx fY (xx fY (qf 2)<|qf 10)<|bJ 0)<|xx fY (xx fY (qf 2)<|qf 12)<|bJ 0) (Fq 12 13<|bN (qf 13)<|qf 12) vz)
 (zn (wo<|kM x9 (qf 9)<|qk (aC<|qk (cL nj<|bN (qf 10)<|qf 13)<|qk (cL l7<|bN (qf 10)<|qf 13) je) je)
 (zn (wo<|kM x9 (qf 9)<|qk (aC<|qk (cL nj<|bN (qf 12)<|qf 11)<|qk (cL l7<|bN (qf 12)<|qf 11) je) je)
 (we<|aC<|qk (qf 2)<|qk (cL kj<|aX<|qf 9)<|aX<|qf 4))))
def SF:vh:=(zn (x5 (s_ 1 (mZ<|aX<|qR 3) (qp 14) (yB<|xx (iA true) (qf 14)<|Ff (qf 5)<|qf 8)<|xx fY (qf 3)<|qf 14)<|qp 9)
 (zn (x5 (xx fY (qf 3)<|qf 5)<|jS 2<|vi (qp 10)<|vi (qp 11) gn)
 (zn (x5 (xx fY (qf 3)<|qf 8)<|jS 2<|vi (qp 12)<|vi (qp 13) gn)
 (tw (aG (g_ (xx fY (xx fY (qf 2)<|qf 10)<|bJ 0)<|xx fY (xx fY (qf 2)<|qf 12)<|bJ 0) (Fq 12 13<|bN (qf 13)<|qf 12) vz)
 (zn (wo<|kM x9 (qf 9)<|qk (aC<|qk (cL nj<|bN (qf 10)<|qf 13)<|qk (cL l7<|bN (qf 10)<|qf 13) je) je)
 (zn (wo<|kM x9 (qf 9)<|qk (aC<|qk (cL nj<|bN (qf 12)<|qf 11)<|qk (cL l7<|bN (qf 12)<|qf 11) je) je)
 (we<|aC<|qk (qf 2)<|qk (cL kj<|aX<|qf 9)<|aX<|qf 4)))))))
structure iH(wd:List<|Option Kn)(lk:List<|Nat×Nat):Prop where
 lkA:∀c∈lk,c.1<c.2/\∃t n,wd[c.1]?=some (some<|.lf t n)/\wd[c.2]?=some (some<|.lf (!t) n)
 lkN:(plcs lk).Nodup
 lkL:∀p,p∈plcs lk↔∃t n,wd[p]?=some (some<|.lf t n)
 lkS:lk.Pairwise ao
 ll:lk.length<=60
 ne:lk≠[]
 wl:wd.length<=241
theorem mB(a b:Nat):bH a b=bH b a:=by unfold bH;rw[Nat.min_comm,Nat.max_comm]
theorem im{a b:Nat}{n:Str}(J:wd[a]?=some (some<|.lf t n))(I:wd[b]?=some (some<|.lf (!t) n)):(bH a b).1<(bH a b).2/\∃t n,wd[(bH a b).1]?=some (some<|.lf t n)/\wd[(bH a b).2]?=some (some<|.lf (!t) n):=by
 have U:a≠b:=λh=>by subst h;rw[J] at I;cases t<;>cases I
 unfold bH;by_cases c:a<b
 ·rw[BJ (by lia),Cd (by lia)];exact⟨c,t,n,J,I⟩
 ·rw[Cb (by lia),Co (by lia)];exact⟨by show b<a;lia,!t,n,I,by rw[Dp];exact J⟩
theorem iH.of(I:iH wd lk)(J:(plcs qs).Perm<|plcs lk)(h:∀c∈qs,c.1<c.2/\∃t n,wd[c.1]?=some (some<|.lf t n)/\wd[c.2]?=some (some<|.lf (!t) n))(U:qs.Pairwise ao):iH wd qs:=by have e:=J.length_eq;rw[aO,aO] at e;have l:=DG.mpr I.ne;exact⟨h,J.nodup_iff.mpr I.lkN,λp=>(J.mem_iff).trans<|I.lkL p,U,by have:=I.ll;lia,DG.mp (by lia),I.wl⟩
theorem iH.swap(I:iH wd lk){x y:Nat×Nat}(l:x∈lk)(o:y∈lk)(ne:x≠y){u:Bool}{n:Str}(x1:wd[x.1]?=some (some<|.lf t n))(p:wd[x.2]?=some (some<|.lf (!t) n))(g:wd[y.1]?=some (some<|.lf u n))(U:wd[y.2]?=some (some<|.lf (!u) n)){r s:Nat}(h:t=u/\s=y.1/\r=y.2\/t≠u/\s=y.2/\r=y.1)
 (pm:qs.Perm<|(lk.filter λz=>decide (z≠x)&&decide (z≠y))++[bH x.1 r,bH s x.2]) (C:qs.Pairwise ao):iH wd qs:=by
 have j:wd[s]?=some (some<|.lf t n)/\wd[r]?=some (some<|.lf (!t) n):=by
  rcases h with⟨rfl,rfl,rfl⟩|⟨e,rfl,rfl⟩
  ·exact⟨g,U⟩
  ·have:u=!t:=by cases t<;>cases u<;>simp at e ⊢
   subst this;rw[Dp] at U;exact⟨U,g⟩
 refine I.of ((jd pm).trans (by rw[mB s];exact o7 I.lkN l o ne<|h.elim (λh=>.inr ⟨h.2.2,h.2.1⟩) λh=>.inl ⟨h.2.2,h.2.1⟩)) (λc J=>?_) C;rcases Aj.mp (pm.mem_iff.mp J) with J|J
 ·exact I.lkA c (AK.mp J).1
 ·rcases Am.mp J with rfl|J
  ·exact im x1 j.2
  ·rw[An.mp J];exact im j.1 p
theorem lg(a b:Nat):(Y.tup [.int<|min (a:Int) (b:Int),.int<|max (a:Int) (b:Int)])=h_ (bH a b):=by
 have I:min (a:Int) (b:Int)=((min a b:Nat):Int):=by omega
 have J:max (a:Int) (b:Int)=((max a b:Nat):Int):=by omega
 unfold h_ bH;rw[I,J]
def gG:zh:=λys L Q=>∃a l c,∃wd:List (Option Kn),∃lk:List (Nat×Nat),∃num:Int,ys=[xi a l c,.int num]/\L a=some (.lst<|jz wd)/\L l=some (.lst<|qt lk)/\iH wd lk/\∀D fv L',qh L L'->L' D=some (.lst<|qt fv)->iH wd fv->Q (xi a D c) L'
theorem SG{wd:List<|Option Kn}{lk I:List<|Nat×Nat}{a c p9:Addr}{A B C D:Nat}(g:L p9=some (.lst<|qt I))(hz:I.length<=60)(nd:(I++[bH A D,bH C B]).Nodup)(U:∀p∈I++[bH A D,bH C B],p.2<1000000)(s:qh L0 L)(h0:L0 p9=none)
 (q:∀J qs L',qh L0 L'->L' J=some (.lst<|qt qs)->qs.Perm (I++[bH A D,bH C B])->qs.Pairwise ao->En.rt (xi a J c) L'):
 sT En [c0,c1,some<|.ref a,some<|.ref l,some<|.ref c,c5,c6,c7,c8,some<|.ref p9,some<|.int (A:Int),some<|.int (B:Int),some<|.int (C:Int),some<|.int (D:Int)] L:=by
 have big:=a_;have pl:∀l:List (Nat×Nat),(qt l).length=l.length:=λl=>Ag ..;refine qw g (qw g ⟨by rw[pl];exact big _ (by lia),?_⟩);rw[lg,vn];refine qw q9 (qw q9 ⟨by rw[pl,Ad];exact big _ (by show I.length+1<=_;lia),?_⟩);rw[lg,vn,x4,Ay];show kj [.ref p9] (qi L p9<|.lst<|qt<|I++[bH A D,bH C B]) λz L'=>En.rt (.tup [.ref a,z,.ref c]) L';exact oY q9 U nd (by rw[Ad];show I.length+2<=_;lia) λJ qs j pm o=>q J qs _ ((s.upd h0).trans<|By j) q9 pm o
theorem SH{a c p9:Addr}{x y:Nat×Nat}{u:Bool}{n:Str}(I:iH wd lk)(o:x∈lk)(C:y∈lk)(j:x≠y)(x1:wd[x.1]?=some (some<|.lf t n))(x2:wd[x.2]?=some (some<|.lf (!t) n))(y1:wd[y.1]?=some (some<|.lf u n))(y2:wd[y.2]?=some (some<|.lf (!u) n))
 (ha:L a=some (.lst<|jz wd)) (g:L p9=some (.lst<|qt<|lk.filter λz=>decide (z≠x)&&decide (z≠y))) (s:qh L0 L) (h0:L0 p9=none) (q:∀T qs L',qh L0 L'->L' T=some (.lst<|qt qs)->iH wd qs->En.rt (xi a T c) L'):
 SE En [c0,c1,some<|.ref a,some<|.ref l,some<|.ref c,c5,c6,c7,c8,some<|.ref p9,some<|.int (x.1:Int),some<|.int (x.2:Int),some<|.int (y.1:Int),some<|.int (y.2:Int)] L:=by
 have wl:=I.wl;have z2:=I.ll;have tail:∀r J:Nat,(t=u/\J=y.1/\r=y.2\/t≠u/\J=y.2/\r=y.1)->sT En [c0,c1,some<|.ref a,some<|.ref l,some<|.ref c,c5,c6,c7,c8,some<|.ref p9,some<|.int (x.1:Int),some<|.int (x.2:Int),some<|.int (J:Int),some<|.int (r:Int)] L:=λr J h=>by
  have fl:=B0 (λz=>decide (z≠x)&&decide (z≠y)) lk;have nd:((lk.filter λz=>decide (z≠x)&&decide (z≠y))++[bH x.1 r,bH J x.2]).Nodup:=by refine zx ?_;rw[mB J];exact(o7 I.lkN o C j<|h.elim (λh=>.inr ⟨h.2.2,h.2.1⟩) λh=>.inl ⟨h.2.2,h.2.1⟩).nodup_iff.mpr I.lkN
  refine SG (lk:=lk) (wd:=wd) g (by lia) nd (λp U=>?_) s h0 λT qs L' t1 t2 pm pw=>q T qs L' t1 t2<|I.swap o C j x1 x2 y1 y2 h pm pw;have lt:∀p∈plcs lk,p<wd.length:=λp U=>by obtain⟨_,_,e⟩:=(I.lkL p).mp U;exact jb e
  have l1:=lt _ (jo o).1;have l2:=lt _ (jo o).2;have l3:=lt _ (jo C).1;have l4:=lt _ (jo C).2;rcases Aj.mp U with U|U
  ·have:=lt _ (jo (AK.mp U).1).2;lia
  ·rcases Am.mp U with rfl|U
   ·show max _ _<_;lia
   ·rw[An.mp U];show max _ _<_;lia
 refine⟨λτ L'=>∃r J:Nat,(t=u/\J=y.1/\r=y.2\/t≠u/\J=y.2/\r=y.1)/\τ=[c0,c1,some<|.ref a,some<|.ref l,some<|.ref c,c5,c6,c7,c8,some<|.ref p9,some<|.int (x.1:Int),some<|.int (x.2:Int),some<|.int (J:Int),some<|.int (r:Int)]/\L'=L,?_,?_⟩
 ·refine qb ha<|qm (kw x1)<|qb ha<|qm (kw y1) ?_;cases t<;>cases u
  ·exact⟨y.2,y.1,.inl ⟨rfl,rfl,rfl⟩,rfl,rfl⟩
  ·exact⟨y.1,y.2,.inr ⟨by decide,rfl,rfl⟩,rfl,rfl⟩
  ·exact⟨y.1,y.2,.inr ⟨by decide,rfl,rfl⟩,rfl,rfl⟩
  ·exact⟨y.2,y.1,.inl ⟨rfl,rfl,rfl⟩,rfl,rfl⟩
 ·rintro τ L' ⟨r,J,h,rfl,rfl⟩;exact tail r J h
theorem SI{g:qo}{a c:Addr}{c11 c12 c13:Option Y}{k:Nat}{x y:Nat×Nat}{u:Bool}{n:Str}(I:iH wd lk)(ex:lk[k]?=some x)(T:lk[j]?=some y)(a1:x≠y)(x1:wd[x.1]?=some (some<|.lf t n))(x2:wd[x.2]?=some (some<|.lf (!t) n))(y1:wd[y.1]?=some (some<|.lf u n))(y2:wd[y.2]?=some (some<|.lf (!u) n))
 (a3:g a=some (.lst<|jz wd)) (J:g l=some (.lst<|qt lk)) (s8:qh L g) (q:∀Dd qs L',qh L L'->L' Dd=some (.lst<|qt qs)->iH wd qs->En.rt (xi a Dd c) L'):
 SF En [c0,c1,some<|.ref a,some<|.ref l,some<|.ref c,some<|.int (k:Int),c6,c7,some<|.int (j:Int),c9,bv,c11,c12,c13] g:=by
 have big:=a_;have pl:(qt lk).length=lk.length:=Ag ..;have z2:=I.ll;have mx:=Az ex;have my:=Az T;refine qb J ⟨⟨A6 _,by rw[pl];lia⟩,?_⟩;rw[pl,BG];refine rH (λi us=>us=qt ((lk.take i).filter λz=>decide (z≠x)&&decide (z≠y))) (big _ (by lia)) rfl ?_ ?_
 ·rintro i us hi rfl;have U:lk[i]?=some lk[i]:=Al hi;generalize lk[i]=z at U;have e0:(0:Int)+(i:Int)=(i:Int):=B4 _;rw[e0];refine⟨rfl,rfl,?_⟩;show vt (!(rO (fU<|.int (i:Int))<|([.int (k:Int),.int (j:Int)]:List Y).map fU)) _ _;rw[bQ];have idx:∀m w,lk[m]?=some w->(z=w↔i=m):=λm w ew=>by obtain⟨hm,ew⟩:=AN.mp ew;obtain⟨hi,U⟩:=AN.mp U;rw[<-U,<-ew];exact Ec (zx I.lkN)
  have i1:=idx k x ex;have i2:=idx j y T;by_cases c:i=k\/i=j
  ·refine aZ (by rw[AM c];rfl) ⟨_,EC _,rfl,?_⟩;rw[Bo,U,Bp];have:([z].filter λz=>decide (z≠x)&&decide (z≠y))=[]:=B7 (by rw[<-i1,<-i2] at c;simp;intro h;exact c.resolve_left h);rw[Df,this,AD]
  ·refine iP (by rw[AE c];rfl)<|qb J<|qm (jt<|gH U) ⟨_,EC _,rfl,?_⟩;rw[<-i1,<-i2] at c;rw[Bo,U,Bp];have:([z].filter λz=>decide (z≠x)&&decide (z≠y))=[z]:=B8 (by simp;exact⟨λh=>c<|.inl h,λh=>c<|.inr h⟩);rw[Df,this,vn]
 rintro us rfl p9 p;rw[BC];have C:=By (o:=.lst<|qt<|lk.filter λz=>decide (z≠x)&&decide (z≠y)) p;have g9:qi g p9 (.lst<|qt<|lk.filter λz=>decide (z≠x)&&decide (z≠y)) p9=some (.lst<|qt<|lk.filter λz=>decide (z≠x)&&decide (z≠y)):=q9;have n9:=s8.none p;generalize qi g p9 (.lst<|qt<|lk.filter λz=>decide (z≠x)&&decide (z≠y))=L9 at C g9 ⊢;have r:=C _ _ J;have a4:=C _ _ a3;refine qb r<|qm (jt<|gH ex)<|qb r<|qm (jt<|gH T) ?_;exact SH I mx my a1 x1 x2 y1 y2 a4 g9 (s8.trans C) n9 q
theorem wG:∀ys L Q,gG ys L Q->v9 mC 14 ys L Q:=by
 rintro ys L Q ⟨a,l,c,wd,lk,num,rfl,ha,g,I,q⟩;have big:=a_;have pl:(qt lk).length=lk.length:=Ag ..;have z2:=I.ll;have wl:=I.wl;obtain⟨k,x,ek,hk,ex⟩:=jG (DG.mpr I.ne) num;have mx:=Az ex;obtain⟨lx,t,n,x1,x2⟩:=I.lkA x mx;have em:num % ((qt lk).length:Int)=(k:Int):=by rw[pl];exact ek
 refine qb g (wV (by rw[pl];lia) em ?_);refine qb g<|qm (jt<|gH ex)<|qb ha<|qm (kw x1) ?_;refine qb g ⟨⟨A6 _,by rw[pl];lia⟩,?_⟩;rw[pl,BG];refine rH (λi C=>∃os:List Nat,C=nY os/\os.length<=i/\∀j∈os,j≠k/\∃y u,lk[j]?=some y/\wd[y.1]?=some (some<|.lf u n)/\wd[y.2]?=some (some<|.lf (!u) n)) (big _ (by lia)) ⟨[],rfl,Ao _,nofun⟩ ?_ ?_
 ·rintro i C hi ⟨os,rfl,lo,ho⟩;have U:lk[i]?=some lk[i]:=Al hi;generalize lk[i]=y at U;obtain⟨_,u,m,y1,y2⟩:=I.lkA y<|Az U;have no:db (λC L'=>L'=L/\∃os:List Nat,C=nY os/\os.length<=i+1/\∀j∈os,j≠k/\∃y u,lk[j]?=some y/\wd[y.1]?=some (some<|.lf u n)/\wd[y.2]?=some (some<|.lf (!u) n)) (nY os) L:=⟨_,EC _,rfl,os,rfl,BP lo,ho⟩;have e0:(0:Int)+(i:Int)=(i:Int):=B4 _;rw[e0];by_cases ck:i=k
  ·exact aZ (by rw[AM<|BF Nat.cast ck];rfl) no
  ·refine iP (by rw[AE λz=>ck<|BK.mp z];rfl) ?_;refine qb g<|qm (jt<|gH U)<|qb ha<|qm (kw y1) ?_;refine zp (λh=>?_) λ_=>no;have h:m=n:=h;subst h;refine⟨_,EC _,rfl,os++[i],by rw[vJ];rfl,by rw[Ad];exact Dw lo,λj p=>?_⟩;rcases Aj.mp p with p|p
   ·exact ho j p
   ·rw[An.mp p];exact⟨ck,y,u,U,y1,y2⟩
 rintro C ⟨os,rfl,lo,ho⟩ p7 a1;have s7:=By (o:=.lst<|nY os) a1;have g7:qi L p7 (.lst<|nY os) p7=some (.lst<|(os.map λn:Nat=>(n:Int)).map Y.int):=by rw[q9,wQ]
 generalize qi L p7 (.lst<|nY os)=L7 at s7 g7 ⊢;intro p8 T;have s8:=s7.trans<|By (o:=.lst []) T;have g8:=By (o:=.lst []) T _ _ g7;refine bB (n:=0) (m:=0) (by decide) g8 q9 (oA _) .nil ?_;generalize qi L7 p8 (.lst [])=L8 at s8 g8 ⊢;cases os with
 |nil=>exact m8 s8<|q l lk L (EC _) g I
 |cons o os=>
  rw[<-wQ] at g8;obtain⟨j,mj,ej⟩:∃r,r∈o::os/\fQ (nY<|o::os) (num / 64 % ((nY<|o::os).length:Int))=some (.int ((r:Nat):Int)):=gv (E:=o::os) (B3 _)<|num / 64;obtain⟨a3,y,u,U,y1,y2⟩:=ho j mj;have my:=Az U;have a4:x≠y:=λe=>by obtain⟨p,U⟩:=AN.mp U;obtain⟨hk,ex⟩:=AN.mp ex;exact a3<|(Ec<|zx I.lkN).mp<|U.trans<|e.symm.trans ex.symm
  refine⟨⟨by decide,by decide⟩,qb g8 ⟨by rw[dP];exact El.mpr<|B3 _,qb g8<|qm ej ?_⟩⟩;exact SI I ex U a4 x1 x2 y1 y2 (s8 _ _ ha) (s8 _ _ g) s8 λDd qs L' t1 t2 J=>x8<|q Dd qs L' t1 t2 J
end L3
namespace L2
open PySem PySem.Spec PyProof.Rows
theorem uV{a:Addr}{i j:Int}(I:qx X pins σ H s)(sq:aF X.K H a [.int i,.int j]):∃t t',s.heap.IsList a (intItems #[(i,t),(j,t')]):=by obtain⟨U,g,pl,_⟩:=I.list sq;obtain⟨u,v,rfl,⟨t,rfl⟩,⟨t',rfl⟩⟩:=F1 g;have J:=ja pl;rw[show #[Value.int i t,Value.int j t']=intItems #[(i,t),(j,t')] by simp[intItems]] at J;exact⟨t,t',J⟩
theorem zP(hc:X.calm=true:=by rfl):jn X (.builtin "min") (λxs H Q=>∃(a:Addr) (i j:Int),xs=[.ref a]/\aF X.K H a [.int i,.int j]/\Q (.int<|if j<i then j else i) H):=by
 intro U s T H xs us Q I r h;obtain⟨a,i,j,rfl,sq,q⟩:=h;obtain⟨u,rfl,g⟩:=jM r;cases g;obtain⟨t,t',l⟩:=uV I sq;refine jy I.tk<|min_intList (I.ok.hd hc) l (show 0<2 by decide) λv h' o J p C=>⟨_,H,I.kept (h':=h') (t':=o) p C,?_,q⟩;have J:(intItems #[(i,t),(j,t')])[if decide (j<i) then 1 else 0]?=some v:=J;by_cases c:j<i
 ·rw[AB c];rw[AB<|AM c] at J;exact⟨t',by simpa[intItems] using J.symm⟩
 ·rw[AC c];rw[AC (by simpa using c)] at J;exact⟨t,by simpa[intItems] using J.symm⟩
theorem zJ(hc:X.calm=true:=by rfl):jn X (.builtin "max") (λxs H Q=>∃(a:Addr) (i j:Int),xs=[.ref a]/\aF X.K H a [.int i,.int j]/\Q (.int<|if j > i then j else i) H):=by
 intro U s T H xs us Q I r h;obtain⟨a,i,j,rfl,sq,q⟩:=h;obtain⟨u,rfl,g⟩:=jM r;cases g;obtain⟨t,t',l⟩:=uV I sq;refine jy I.tk<|max_intList (I.ok.hd hc) l (show 0<2 by decide) λv h' o J p C=>⟨_,H,I.kept (h':=h') (t':=o) p C,?_,q⟩;have J:(intItems #[(i,t),(j,t')])[if decide (j > i) then 1 else 0]?=some v:=J;by_cases c:j > i
 ·rw[AB c];rw[AB<|AM c] at J;exact⟨t',by simpa[intItems] using J.symm⟩
 ·rw[AC c];rw[AC (by simpa using c)] at J;exact⟨t,by simpa[intItems] using J.symm⟩
end L2
namespace L3
open PySem L2
def yw(L:qo)(Q:Int->Int->Prop):List Y->Prop
 |[.ref a]=>match L a with
  |some (.lst [.int i,.int j])=>Q i j
  |_=>False
 |_=>False
theorem xC{a:Addr}{i j:Int}{Q:Int->Int->Prop}(h:L a=some (.lst [.int i,.int j]))(q:Q i j):yw L Q [.ref a]:=by unfold yw;simp only[h];exact q
theorem rY{Q:Int->Int->Prop}(h:yw L Q ys):∃a i j,ys=[.ref a]/\L a=some (.lst [.int i,.int j])/\Q i j:=by
 unfold yw at h;split at h
 ·split at h
  ·rename_i e;exact⟨_,_,_,rfl,e,h⟩
  ·exact h.elim
 ·exact h.elim
theorem wO{a:Addr}{i j:Int}(I:xr X.g3 H [.ref a] xs)(J:zy X.g3 H L)(e:L a=some (.lst [.int i,.int j])):∃b,xs=[.ref b]/\aF X.K H b [.int i,.int j]:=by obtain⟨x,rfl,r⟩:=I.inv1;obtain⟨b,U,rfl,sq,rr⟩:=iR J r rfl<|wr e;cases jE (bs:=[i,j]) rfl rr;exact⟨b,rfl,sq⟩
def GD(xs:List Y)(L:qo)(Q:YK):Prop:=yw L (λi j=>Q (.int<|min i j) L) xs
def GF(xs:List Y)(L:qo)(Q:YK):Prop:=yw L (λi j=>Q (.int<|max i j) L) xs
theorem SJ(hc:X.calm=true:=by rfl):jn X (.builtin "min") (b_ X.g3 GD):=EN (zP hc) λU H Q g L l J I z k=>by obtain⟨a,i,j,rfl,e,z⟩:=rY z;obtain⟨b,rfl,sq⟩:=wO J I e;refine⟨b,i,j,rfl,sq,?_⟩;rw[HU];exact k _ H _ L (ED _) I (by rfl) z
theorem SK(hc:X.calm=true:=by rfl):jn X (.builtin "max") (b_ X.g3 GF):=EN (zJ hc) λU H Q g L l J I z k=>by obtain⟨a,i,j,rfl,e,z⟩:=rY z;obtain⟨b,rfl,sq⟩:=wO J I e;refine⟨b,i,j,rfl,sq,?_⟩;rw[HR];exact k _ H _ L (ED _) I (by rfl) z
open PySem L2 Words
noncomputable def ff:RD "_law_looped" cG 0 ["_law_web_here","_law_number_here","_law_knots","_law_links","_law_cuts","_law_leaf","_law_p","_law_q","_law_row","_law_others","_law_link"] (λ_=>True):=⟨_,λV B c _ _ _ _ _ _ _ J hN I=>(qa (cB (qv 0)<|aD (n:=3) rfl<|zd (bU (i:=2) hN rfl<|Or.inr rfl)<|zd (G_ 3 hN)<|zd (G_ 4 hN) vf)<|qa (aQ ["_law_cut_here"] (i:=5) hN rfl (Or.inl rfl) (ER (by rfl)) rfl (aB<|qv 4) (uL 11) (λ_ _ _ _=>cx<|E_ I (L_ B.ba<|I_ (qv 2)<|J_ 11) qc) λ_ _ _ _=>(qv 11))<|qa (zu (E_ I (qv 5)<|js wb) (qd<|qz<|qv 0) z9)<|qa (cB (I_ (qv 5)<|qj jj (qv 1)<|L_ B.ba<|qv 5)<|aD (n:=2) rfl<|zd (G_ 6 hN)<|zd (G_ 7 hN) vf)<|qa (S_ 8 hN<|js<|xh<|zf<|xm (ji tV rfl B.bj iq<|xm (qv 6)<|qv 7)<|ji oE rfl B.bh fw<|xm (qv 6)<|qv 7)<|qa (S_ 9 hN<|js wb)<|qa (aA wh rfl (aB<|qv 3) (G_ 10 hN)<|qd<|zu (bF<|iC (jq (sE _ _ _) (qv 6) (qv 10) (by with_unfolding_all rfl))<|iU<|jq (sE _ _ _) (qv 7) (qv 10) (by with_unfolding_all rfl)) (qd<|zm<|zg (qv 9)<|xh<|qj cX (qj jh (J_ 10)<|J_ 10)<|du (jq (sE _ _ _) (qv 6) (qv 10) (by with_unfolding_all rfl)) (qv 6)<|qv 7)<|qd<|zm<|zg (qv 8)<|xh<|qv 10)<|qa (zu (bF<|iC (jq rm (L_ B.ba<|qv 9) qc<|km _)<|iU<|jq (sE _ _ _) (qv 7) (qv 9) (by with_unfolding_all rfl)) (qd<|qz<|qv 0) z9)<|qa (zm<|zg (qv 8)<|xh<|zf<|xm (ji SJ rfl B.bj iq<|xh<|qv 9)<|ji SK rfl B.bh fw<|xh<|qv 9)<|qd<|qz<|zf<|bO (qv 2) (ji fM rfl B.bg ai<|xh<|qv 8)<|qv 4)⟩
noncomputable def nZ:vh:=(ff).1
def SM:vh:=(zn (x5 (gK<|qk (aC<|qk (cL nj<|bN (qf 6)<|qf 7)<|qk (cL l7<|bN (qf 6)<|qf 7) je) je)<|qp 8)
 (zn (x5 (gK je)<|qp 9)
 (zn (rV (dr<|qf 3) (qp 10)<|aG (wX (yB<|xx (iA false) (qf 6)<|qf 10)<|yB<|xx (iA false) (qf 7)<|qf 10) (wo<|kM x9 (qf 9)<|qk (xx vU (xx bw (wx 10 0)<|wx 10 1)<|E6 (yB<|xx (iA false) (qf 6)<|qf 10) (qf 6)<|qf 7) je)<|wo<|kM x9 (qf 8)<|aX<|qf 10)
 (zn (aG (wX (yB<|xx Gh (qR 9)<|bJ 2)<|yB<|xx (iA false) (qf 7)<|qf 9) (we<|qf 0) vz)
 (zn (wo<|kM x9 (qf 8)<|qk (aC<|qk (cL GD<|aX<|qf 9)<|qk (cL GF<|aX<|qf 9) je) je)
 (we<|aC<|qk (qf 2)<|qk (cL kj<|aX<|qf 8)<|aX<|qf 4))))))
def xF:vh:=(zn (aG (wX (yB<|xx Gh (qR 9)<|bJ 2)<|yB<|xx (iA false) (qf 7)<|qf 9) (we<|qf 0) vz)
 (zn (wo<|kM x9 (qf 8)<|qk (aC<|qk (cL GD<|aX<|qf 9)<|qk (cL GF<|aX<|qf 9) je) je)
 (we<|aC<|qk (qf 2)<|qk (cL kj<|aX<|qf 8)<|aX<|qf 4)))
theorem aN(nd:(plcs lk).Nodup){x y:Nat×Nat}(I:x∈lk)(J:y∈lk)(px:p=x.1\/p=x.2)(py:p=y.1\/p=y.2):x=y:=Decidable.byContradiction λc=>by have pm:=jd<|gU (zx nd) I J c;rw[za,za] at pm;have:=pm.nodup_iff.mp nd;rcases px with rfl|rfl<;>rcases py with e|e<;>simp[e] at this
theorem SN{l:List α}{a b:α}(h:l.Perm [a,b]):l=[a,b]\/l=[b,a]:=by
 cases l with
 |nil=>exact absurd h.length_eq (by simp)
 |cons u r=>
  rcases Am.mp (h.mem_iff.mp Ak) with rfl|e
  ·exact .inl (by rw[DH.mp<|List.Perm.cons_inv h])
  ·cases An.mp e;exact .inr (by rw[DH.mp<|List.Perm.cons_inv<|h.trans<|List.Perm.swap ..])
def jr(p q:Nat)(z:Nat×Nat):Bool:=!(decide (p=z.1\/p=z.2)||decide (q=z.1\/q=z.2))
theorem l8{z:Nat×Nat}:(!jr p q z)=true↔(p=z.1\/p=z.2)\/(q=z.1\/q=z.2):=by unfold jr;simp
def nN(p q:Nat)(z:Nat×Nat):Int:=(z.1:Int)+(z.2:Int)-(if p=z.1\/p=z.2 then(p:Int) else(q:Int))
def fj(p x:Nat)(z:Nat×Nat):Prop:=z=(p,x)\/z=(x,p)
theorem qM{z:Nat×Nat}(h:p=z.1\/p=z.2):∃x,fj p x z:=by
 rcases h with rfl|rfl
 ·exact⟨z.2,.inl rfl⟩
 ·exact⟨z.1,.inr rfl⟩
theorem fj.mem{x:Nat}{z:Nat×Nat}(h:fj p x z):p=z.1\/p=z.2:=by rcases h with rfl|rfl;exact .inl rfl;exact .inr rfl
theorem fj.lf(I:∀c∈lk,c.1<c.2/\∃t n,wd[c.1]?=some (some<|.lf t n)/\wd[c.2]?=some (some<|.lf (!t) n)){x:Nat}{z:Nat×Nat}{n:Str}(h:fj p x z)(hz:z∈lk)(J:wd[p]?=some (some<|.lf t n)):wd[x]?=some (some<|.lf (!t) n):=by
 obtain⟨_,U,g,h1,h2⟩:=I z hz;rcases h with rfl|rfl
 ·rw[J] at h1;cases h1;exact h2
 ·rw[J] at h2;cases h2;rw[Dp];exact h1
theorem fj.plcs{x:Nat}{z:Nat×Nat}(h:fj p x z)(r:List Nat):(z.1::z.2::r).Perm (p::x::r):=by
 rcases h with rfl|rfl
 ·exact .refl _
 ·exact .swap ..
theorem tK(nd:(plcs lk).Nodup){I J:Nat×Nat}(U:I∈lk)(j:J∈lk)(px:p=I.1\/p=I.2)(l:q=J.1\/q=J.2):
 (I=J/\(lk.filter λz=>!jr p q z)=[I])\/(I≠J/\lk.filter (jr p q)=(lk.filter λz=>decide (z≠I)&&decide (z≠J))/\((lk.filter λz=>!jr p q z)=[I,J]\/(lk.filter λz=>!jr p q z)=[J,I])):=by
 have key:∀z∈lk,(!jr p q z)=true↔z=I\/z=J:=λz g=>by
  rw[l8];constructor
  ·rintro(h|h)
   ·exact .inl<|aN nd g U h px
   ·exact .inr<|aN nd g j h l
  ·rintro(rfl|rfl)
   ·exact .inl px
   ·exact .inr l
 have nl:=zx nd;by_cases c:I=J
 ·refine .inl ⟨c,DH.mp<|(A3 (nl.filter _) (by simp)).mpr λz=>?_⟩;rw[AK,An];constructor
  ·rintro⟨h1,h2⟩;rcases (key z h1).mp h2 with e|e;exact e;exact e.trans c.symm
  ·rintro rfl;exact⟨U,(key _ U).mpr<|.inl rfl⟩
 ·refine .inr ⟨c,List.filter_congr λz g=>?_,SN<|(A3 (nl.filter _) (by simp[c])).mpr λz=>?_⟩
  ·have:=key z g;cases o:jr p q z with
   |true=>
    rw[o] at this;have:¬(z=I\/z=J):=λh=>by have:=this.mpr h;cases this
    simp at this;simp[this]
   |false=>
    rw[o] at this;rcases this.mp rfl with rfl|rfl<;>simp
  ·rw[AK];constructor
   ·rintro⟨h1,h2⟩;rcases (key z h1).mp h2 with rfl|rfl<;>simp
   ·intro h;have h:z=I\/z=J:=by simpa using h
    rcases h with rfl|rfl
    ·exact⟨U,(key _ U).mpr<|.inl rfl⟩
    ·exact⟨j,(key _ j).mpr<|.inr rfl⟩
theorem iH.loop(I:iH wd lk){U g:Nat×Nat}(j:U∈lk)(l:g∈lk)(ne:U≠g){x y:Nat}(o:fj p x U)(r:fj q y g){n:Str}(C:wd[p]?=some (some<|.lf t n))(T:wd[q]?=some (some<|.lf (!t) n))
 (pm:qs.Perm<|bH p q::(lk.filter λz=>decide (z≠U)&&decide (z≠g))++[bH x y]) (pw:qs.Pairwise ao):iH wd qs:=by
 have h1:=o.lf I.lkA j C;have h2:=r.lf I.lkA l T;refine I.of ((jd pm).trans ?_) (λc J=>?_) pw
 ·have e:=jd<|gU (zx I.lkN) j l ne;rw[za,za] at e;refine List.Perm.trans ?_ e.symm;refine List.Perm.trans ?_ (o.plcs _).symm;rw[Dy,za,jm,v4];refine(dC p q _).trans (List.Perm.cons _<|List.Perm.trans ?_<|(r.plcs _).symm.cons _);refine(List.Perm.cons q<|AW.trans<|dC x y _).trans ?_;exact List.Perm.swap ..
 ·rcases Aj.mp (pm.mem_iff.mp J) with J|J
  ·rcases Am.mp J with rfl|J
   ·exact im C T
   ·exact I.lkA c (AK.mp J).1
  ·rw[An.mp J];exact im h1 (by rw[Dp] at h2 ⊢;exact h2)
theorem SO{M:qo}{a c g r9:Addr}{r:Nat}{n:Str}(I:iH wd lk)(j:wd[p]?=some (some<|.lf t n))(hr:wd[r]?=some (some<|.lf (!t) n))(s:qh L M)(hl:L l=some (.lst<|qt lk))(n8:L g=none)(g8:M g=some (.lst<|qt<|bH p r::lk.filter (jr p r)))(U:M r9=some (.lst<|((lk.filter λz=>!jr p r z).map<|nN p r).map Y.int))
 (q:∀Dd qs L',qh L L'->L' Dd=some (.lst<|qt qs)->iH wd qs->En.rt (xi a Dd c) L'):
 xF En [some<|xi a l c,c1,some<|.ref a,some<|.ref l,some<|.ref c,c5,some<|.int (p:Int),some<|.int (r:Int),some<|.ref g,some<|.ref r9,bv] M:=by
 have big:=a_;have pl:∀l:List (Nat×Nat),(qt l).length=l.length:=λl=>Ag ..;have z2:=I.ll;have wl:=I.wl;obtain⟨x0,o,px⟩:=aw<|(I.lkL p).mpr ⟨t,n,j⟩;obtain⟨y0,C,ry⟩:=aw<|(I.lkL r).mpr ⟨_,n,hr⟩;have back:En.rt (xi a l c) M:=q l lk M s (s _ _ hl) I;rcases tK I.lkN o C px ry with⟨_,e⟩|⟨ne,e1,T⟩
 ·rw[e] at U;exact qb U back
 obtain⟨x,ox⟩:=qM px;obtain⟨y,oy⟩:=qM ry;have fl:=B0 (λz=>decide (z≠x0)&&decide (z≠y0)) lk;rw[e1] at g8;have v1:nN p r x0=(x:Int):=by unfold nN;rw[AB px];rcases ox with rfl|rfl<;>simp only<;>lia
 have v2:nN p r y0=(y:Int):=by unfold nN;rw[AC λh=>ne<|aN I.lkN o C px h];rcases oy with rfl|rfl<;>simp only<;>lia
 have lt:∀p∈plcs lk,p<wd.length:=λp j=>by obtain⟨_,_,e⟩:=(I.lkL p).mp j;exact jb e
 have lp:=jb j;have lr:=jb hr;have lx:x<wd.length:=jb<|ox.lf I.lkA o j;have ly:y<wd.length:=jb<|oy.lf I.lkA C hr;have fin2:∀M',qh L M'->M' g=some (.lst<|qt<|bH p r::(lk.filter λz=>decide (z≠x0)&&decide (z≠y0))++[bH x y])->kj [.ref g] M' λz L'=>En.rt (.tup [.ref a,z,.ref c]) L':=λM' s' g'=>by
  have J:=λqs pm pw=>I.loop (qs:=qs) o C ne ox oy j hr pm pw;refine oY g' (λd hd=>?_) (zx ?_) (by rw[Ad,AJ];show _+1+1<=_;lia) λD qs hD pm pw=>q D qs _ (s'.trans<|By hD) q9<|J qs pm pw
  ·rcases Aj.mp hd with hd|hd
   ·rcases Am.mp hd with rfl|hd
    ·show max _ _<_;lia
    ·have:=lt _ (jo (AK.mp hd).1).2;lia
   ·rw[An.mp hd];show max _ _<_;lia
  ·have e:=jd<|gU (zx I.lkN) o C ne;rw[za,za] at e;have:=(e.trans<|ox.plcs _).nodup_iff.mp I.lkN;rw[Dy,za,jm,v4];refine(((dC p r _).trans<|List.Perm.cons _<|List.Perm.trans ?_<|(oy.plcs _).symm.cons _).nodup_iff).mpr this;exact(List.Perm.cons r<|AW.trans<|dC x y _).trans (List.Perm.swap ..)
 have go:∀u v:Nat,bH u v=bH x y->M r9=some (.lst [.int (u:Int),.int (v:Int)])->xF En [some<|xi a l c,c1,some<|.ref a,some<|.ref l,some<|.ref c,c5,some<|.int (p:Int),some<|.int (r:Int),some<|.ref g,some<|.ref r9,bv] M:=λu v e U=>by refine qb U<|qb U ⟨rfl,rfl,Jm (λ_=>back) λ_=>?_⟩;refine qw g8 (xC U (xC U (qw g8 ⟨by rw[pl,AJ];exact big _ (by lia),?_⟩)));rw[lg,e,vn];exact fin2 _ (s.upd n8) q9
 rcases T with T|T
 ·rw[T] at U;exact go x y rfl (by rw[U,<-v1,<-v2];rfl)
 ·rw[T] at U;exact go y x (mB y x) (by rw[U,<-v1,<-v2];rfl)
theorem SQ{a c:Addr}{r:Nat}{n:Str}(I:iH wd lk)(hp:wd[p]?=some (some<|.lf t n))(hr:wd[r]?=some (some<|.lf (!t) n))(s0:qh L0 L)(hl:L0 l=some (.lst<|qt lk))
 (q:∀Dd qs L',qh L0 L'->L' Dd=some (.lst<|qt qs)->iH wd qs->En.rt (xi a Dd c) L'):
 SM En [some<|xi a l c,c1,some<|.ref a,some<|.ref l,some<|.ref c,c5,some<|.int (p:Int),some<|.int (r:Int),c8,c9,bv] L:=by
 have big:=a_;have pl:∀l:List (Nat×Nat),(qt l).length=l.length:=λl=>Ag ..;have z2:=I.ll;intro U h8;rw[lg];intro J h9;have n8:=s0.none h8;have n9:=s0.none<|bG h9;have g:U≠J:=bx q9 h9;have s2:qh L0 (qi (qi L U<|.lst [h_<|bH p r]) J<|.lst []):=s0.trans<|(By h8).trans<|By h9;refine ku (s2 _ _ hl) λkeep kp=>wz ⟨λi C L'=>∃bv,C=[some<|xi a l c,c1,some<|.ref a,some<|.ref l,some<|.ref c,c5,some<|.int (p:Int),some<|.int (r:Int),some<|.ref U,some<|.ref J,bv]/\qh L0 L'/\L' U=some (.lst<|qt<|bH p r::(lk.take i).filter (jr p r))/\L' J=some (.lst<|(((lk.take i).filter λz=>!jr p r z).map<|nN p r).map Y.int),⟨_,rfl,s2,(qg g).trans q9,q9⟩,?_,?_,?_⟩
 ·rintro i C L' ⟨bv,rfl,s,_⟩;exact kp L' (by rw[s _ _ hl,s2 _ _ hl])
 ·rintro i y C L' hy ⟨bv,rfl,s,T,j⟩;rw[Aq] at hy;obtain⟨z,ez,rfl⟩:=AA.mp hy;have f1:=B0 (jr p r)<|lk.take i;have f2:=B0 (λz=>!jr p r z)<|lk.take i;rw[AY] at f1 f2;have et:lk.take (i+1)=lk.take i++[z]:=by rw[Bo,ez];rfl
  have yes:∀w:Int,jr p r z=false->nN p r z=w->fP L' J λys=>ys.length<sizeLine/\db (λC L'=>∃bv,C=[some<|xi a l c,c1,some<|.ref a,some<|.ref l,some<|.ref c,c5,some<|.int (p:Int),some<|.int (r:Int),some<|.ref U,some<|.ref J,bv]/\qh L0 L'/\L' U=some (.lst<|qt<|bH p r::(lk.take<|i+1).filter (jr p r))/\L' J=some (.lst<|(((lk.take<|i+1).filter λz=>!jr p r z).map<|nN p r).map Y.int)) [some<|xi a l c,c1,some<|.ref a,some<|.ref l,some<|.ref c,c5,some<|.int (p:Int),some<|.int (r:Int),some<|.ref U,some<|.ref J,some<|h_ z] (qi L' J<|.lst<|ys++[.int w]):=λw hk ho=>by
   refine qw j ⟨by rw[Ag,Ag];exact big _ (by lia),_,EC _,_,rfl,s.upd n9,?_,?_⟩
   ·rw[qg g,T,et,Bp,B7 (by rw[hk];decide),BZ,AD]
   ·rw[q9,et,Bp,B8 (by rw[hk];rfl),BZ,AI,AI,<-ho];rfl
  refine⟨rfl,rfl,?_⟩;show vt (rO (fU<|.int (p:Int))<|([.int (z.1:Int),.int (z.2:Int)]:List Y).map fU) _ _;rw[bQ];refine zp (λo=>?_) λo=>?_
  ·refine qw j ⟨rfl,rfl,?_⟩;show vt (rO (fU<|.int (p:Int))<|([.int (z.1:Int),.int (z.2:Int)]:List Y).map fU) _ _;rw[bQ];exact Oy o (yes _ (by unfold jr;rw[AM o];rfl) (by unfold nN;rw[AB o]))
  ·refine⟨rfl,rfl,?_⟩;show vt (rO (fU<|.int (r:Int))<|([.int (z.1:Int),.int (z.2:Int)]:List Y).map fU) _ _;rw[bQ];refine zp (λcr=>?_) λcr=>?_
   ·refine qw j ⟨rfl,rfl,?_⟩;show vt (rO (fU<|.int (p:Int))<|([.int (z.1:Int),.int (z.2:Int)]:List Y).map fU) _ _;rw[bQ];exact Oz o (yes _ (by unfold jr;rw[AM cr,Bool.or_true];rfl) (by unfold nN;rw[AC o]))
   ·have hk:jr p r z=true:=by unfold jr;rw[AE o,AE cr];rfl
    refine qw T (qw T ⟨by rw[pl,AJ];exact big _ (by lia),_,EC _,_,rfl,s.upd n8,?_,?_⟩)
    ·rw[q9,et,Bp,B8 hk,BZ,<-Dy,vn]
    ·rw[qg<|AL g,j,et,Bp,B7 (by rw[hk];decide),BZ,AD]
 ·rintro C L' ⟨bv,rfl,s,T,j⟩;rw[pl,BC] at T j;exact SO I hp hr s hl n8 T j q
def i8:zh:=λys L Q=>∃a l c,∃wd:List (Option Kn),∃lk ct:List (Nat×Nat),∃num:Int,ys=[xi a l c,.int num]/\L a=some (.lst<|jz wd)/\L l=some (.lst<|qt lk)/\L c=some (.lst<|qt ct)/\iH wd lk/\(∀d∈ct,∃w,KW (jz wd) d.1 w/\KW (jz wd) d.2 w.turn)/\ct.length<=200/\∀D fv L',qh L L'->L' D=some (.lst<|qt fv)->iH wd fv->Q (xi a D c) L'
theorem SS:∀ys L Q,i8 ys L Q->v9 nZ 11 ys L Q:=by
 rintro ys L Q ⟨a,l,c,wd,lk,ct,num,rfl,ha,hl,hc,I,hw,hz,q⟩;have big:=a_;have pl:∀l:List (Nat×Nat),(qt l).length=l.length:=λl=>Ag ..;refine ku hc λkeep kp=>gD (λi T=>∃fs:List (Nat×Nat),T=qt fs/\fs.length<=i/\∀f∈fs,∃t n,wd[f.1]?=some (some<|.lf t n)/\wd[f.2]?=some (some<|.lf (!t) n)) (by rw[pl];exact big _ (by lia)) (kp _ rfl) ⟨[],rfl,Ao _,nofun⟩ ?_ ?_
 ·rintro i y T hy ⟨fs,rfl,lo,p⟩;rw[Aq] at hy;obtain⟨f,r,rfl⟩:=AA.mp hy;obtain⟨w,h1,h2⟩:=hw f<|Az r;cases w with
  |leaf t n=>
   refine qb ha (qm (kw h1.inv_lf) ⟨_,EC _,rfl,fs++[f],vn fs f,by rw[Ad];exact Dw lo,λg U=>?_⟩);rcases Aj.mp U with U|U
   ·exact p g U
   ·rw[An.mp U];exact⟨t,n,h1.inv_lf,h2.inv_lf⟩
  |node e u v=>
   obtain⟨i',j',e1,_,_⟩:=h1.inv_nd;exact qb ha<|qm (kw e1) ⟨_,EC _,rfl,fs,rfl,BP lo,p⟩
 rintro T ⟨fs,rfl,lo,p⟩ p5 a1;have s5:=By (o:=.lst<|qt fs) a1;have g5:qi L p5 (.lst<|qt fs) p5=some (.lst<|qt fs):=q9;generalize qi L p5 (.lst<|qt fs)=L5 at s5 g5 ⊢;intro p6 j;have s6:=s5.trans<|By (o:=.lst []) j;have C:=By (o:=.lst []) j _ _ g5;refine bB (n:=1) (m:=0) (by decide) C q9 (gm fs) .nil ?_;generalize qi L5 p6 (.lst [])=L6 at s6 C ⊢;cases fs with
 |nil=>exact m8 s6<|q l lk L (EC _) hl I
 |cons f0 fs=>
  obtain⟨k,f,ek,hk,r⟩:=jG (l:=f0::fs) (B3 _) num;obtain⟨t,n,h1,h2⟩:=p f<|Az r;have em:num % ((qt<|f0::fs).length:Int)=(k:Int):=by rw[pl];exact ek
  refine qb C (wV (by rw[pl];exact El.mpr<|B3 _) em<|qb C<|qm (jt<|gH r) ?_);exact SQ I h1 h2 s6 hl λDd qs L' t1 t2 J=>x8<|q Dd qs L' t1 t2 J
noncomputable def rR(U:zh)(I:zh)(g:zh)(J:zh):RD "_law_crossed" bC 1 ["_law_web_here","_law_stir_here","_law_number_here","_law_k"] (λV=>Fh V U/\IL V I/\Gs V g/\IM V J):=⟨_,λV B c _ _ _ _ _ _ _ j hN l=>(qa (S_ 2 hN<|C_ c.1 j<|xm (qv 1) qc)<|qa (aA wh rfl (wq rfl B.bf<|xh<|qj jj (qv 2) qc) (G_ 3 hN)<|qd<|S_ 0 hN<|C_ c.2.1 j<|xm (qv 0)<|C_ c.2.2.1 j<|bO (qv 2) (qv 3) qc)<|xu (zu (E_ l (qj jj (qj vg (qv 2) qc) qc) qc) (qd<|S_ 0 hN<|C_ c.2.2.2 j<|xm (qv 0)<|qj vg (qv 2) qc) z9)<|qd<|qz<|qv 0)⟩
noncomputable def SU(U:zh)(I:zh)(g:zh)(J:zh):vh:=(rR U I g J).1
def iN:zh:=λys L Q=>∃a l c,∃wd:List (Option Kn),∃lk ct:List (Nat×Nat),∃s:Int,ys=[xi a l c,.int s]/\L a=some (.lst<|jz wd)/\L l=some (.lst<|qt lk)/\L c=some (.lst<|qt ct)/\iH wd lk/\(∀d∈ct,∃w,KW (jz wd) d.1 w/\KW (jz wd) d.2 w.turn)/\ct.length<=200/\∀D fv L',qh L L'->L' D=some (.lst<|qt fv)->iH wd fv->Q (xi a D c) L'
theorem zO:∀ys L Q,iN ys L Q->v9 (SU dO gG iM i8) 4 ys L Q:=by
 rintro ys L Q ⟨a,l,c,t,lk,ct,s,rfl,ha,hl,hc,I,hw,hz,q⟩;refine⟨s,52813309,rfl,by decide,by decide,λnum _ _=>⟨(by decide:(0:Int)<4),⟨by show _<=num % 4;lia,by show num % 4<_;lia⟩,?_⟩⟩;refine gy (λi p C=>∃D U c3,p=[some<|xi a D c,some<|.int s,some<|.int num,c3]/\qh L C/\C D=some (.lst<|qt U)/\iH t U) ⟨l,lk,_,rfl,EC _,hl,I⟩ ?_ ?_
 ·rintro i p C hi ⟨D,U,c3,rfl,o,r,J⟩;exact⟨num,_,39373,rfl,by lia,by lia,by decide,by decide,λv _ _=>⟨a,D,c,t,U,v,rfl,o _ _ ha,r,J,λT j g u1 u2 J'=>⟨_,EC _,T,j,_,rfl,o.trans u1,u2,J'⟩⟩⟩
 ·rintro p C ⟨D,U,c3,rfl,o,r,J⟩;refine⟨λp g=>∃D U c3,p=[some<|xi a D c,some<|.int s,some<|.int num,c3]/\qh L g/\g D=some (.lst<|qt U)/\iH t U,?_,?_⟩
  ·refine⟨⟨by decide,by decide⟩,(by decide:(0:Int)<8),zp (λ_=>?_) λ_=>⟨D,U,_,rfl,o,r,J⟩⟩;exact⟨⟨by decide,by decide⟩,a,D,c,t,U,ct,_,rfl,o _ _ ha,r,o _ _ hc,J,hw,hz,λT j g u1 u2 J'=>⟨T,j,_,rfl,o.trans u1,u2,J'⟩⟩
  ·rintro p g ⟨D,U,c3,rfl,o,r,J⟩;exact x8<|q D U g o r J
end L3
namespace L2
open PySem PySem.Spec PyProof.Rows
section
variable {w:World}
theorem uS{a:Addr}{Q:Option Obj->Shared->Prop}(h:Q (s.heap.get? a) s):wpAny M A (loadIfAlive a) Q E s:=by intro J I p;simp only[loadIfAlive,Sem.wp_loadIfAlive];exact h
abbrev i6(h:Heap)(z TI TO t:Addr)(b:Bool):Prop:=h.get? z=some { cls:=.type "zip",dict:=none,data:=.fields #[rawInt t,.bool b,.bool false,.ref TI,.ref TO],slots:=#[] }
theorem tJ{z TI TO t:Addr}{b:Bool}{o:Obj}{Q:Bool->Shared->Prop}(hz:i6 s.heap z TI TO t b)(I:s.heap.get? t=some o)(q:∀h',i6 h' z TI TO t true->Heap.SameBut z s.heap h'->Q false { s with heap:=h' }):
 wpAny (model prog w) A (Builtin.SmallTypes.ownedTupleIsFree<|.ref z) Q E s:=by
 unfold Builtin.SmallTypes.ownedTupleIsFree;refine Aa<|AV hz rfl (x:=rawInt t) rfl ?_;show wpAny _ _ (loadIfAlive (t:Int).toNat >>= _) _ _ _;refine Aa<|uS ?_;rw[BG,I];refine Aa<|AV hz rfl (x:=.bool b) rfl ?_;cases b with
 |true=>
  dsimp only;rw[AC (by decide)];exact Ah<|q s.heap hz ⟨rfl,λ_ _=>rfl⟩
 |false=>
  dsimp only;rw[AB (by decide)];exact Aa<|wpAny_setField_rec hz (by simp) λh' J U=>Ah<|q h' J U
theorem yt{z TI TO t:Addr}{c:Bool}{o:Obj}{k:Nat}{xs ys:Array Value}{x y:Value}(D:Fa z TI TO i1 i2 l1 l2)(hz:i6 s.heap z TI TO t c)(r:s.heap.get? t=some o)(C:IsPair s.heap TI (.ref i1)<|.ref i2)
 (h1:dW t1 s.heap i1 l1 k) (h2:dW t2 s.heap i2 l2 k) (T:iJ t1 s.heap l1 xs) (q2:iJ t2 s.heap l2 ys) (hx:xs[k]?=some x) (hy:ys[k]?=some y)
 (q:∀h',i6 h' z TI TO t true->dW t1 h' i1 l1 (k+1)->dW t2 h' i2 l2 (k+1)->IsPair h' s.heap.objs.size x y->
  (∀c o,c≠z->c≠i1->c≠i2->s.heap.get? c=some o->h'.get? c=some o)->Q (.ref s.heap.objs.size) { s with heap:=h' }):
 wpAny (model prog w) A (Builtin.«zip.__next__» ⟨[.ref z],[]⟩) (λx8 s'=>∃v,x8=.done (.ret v)/\Q v s') E s:=by
 refine Aa (m:=field (.ref z) 2)<|AV hz rfl (x:=.bool false) rfl<|Aa (m:=field (.ref z) 3)<|AV hz rfl (x:=.ref TI) rfl<|Aa<|Bk C rfl ?_;refine Aa (m:=Builtin.SmallTypes.ownedTupleIsFree<|.ref z)<|tJ hz r λg1 z1 I=>?_;simp only[BV,if_false];refine Aa ?_;rw[<-Array.forIn_toList];simp only[Cm,Do];refine Aa<|Aa<|A4<|Aa (m:=Builtin.SmallTypes.nextOf<|.ref i1)<|(h1.on λo e=>I.extBut _ _ D.n3 e).next (T.on λo e=>I.extBut _ _ D.n8 e) hx λg2 j J=>Ah<|Ah ?_;refine Aa<|Aa<|A4<|Aa (m:=Builtin.SmallTypes.nextOf<|.ref i2)<|dW.next (l:=l2) (i:=k) (xs:=ys) (x:=y) (t:=t2) (h2.on λo e=>J.extBut _ _ (AL D.n7)<|I.extBut _ _ D.n4 e) (q2.on λo e=>J.extBut _ _ D.n14<|I.extBut _ _ D.n12 e) hy λU p g=>Ah<|Ah<|Ah ?_;refine Aa (wpAny_newTuple (Ah ⟨_,rfl,?_⟩) (by show 2<=sizeLine;decide));have sz:U.objs.size=s.heap.objs.size:=by rw[g.1,J.1,I.1]
 have k4:∀c o,c≠z->c≠i1->c≠i2->s.heap.get? c=some o->(U.push { cls:=.type "tuple",data:=.seq #[x,y] }).get? c=some o:=λc o a1 a3 a4 e=>sy _<|g.extBut _ _ a4<|J.extBut _ _ a3<|I.extBut _ _ a1 e;have x8:=q (U.push { cls:=.type "tuple",data:=.seq #[x,y] }) (sy _<|g.extBut _ _ (AL D.n4)<|J.extBut _ _ (AL D.n3) z1) (j.on λo e=>sy _<|g.extBut _ _ D.n7 e) (p.on λo e=>sy _ e)
  (by rw[<-sz];exact vb _ rfl) k4
 show Q (.ref U.objs.size) _;rw[sz];exact x8
theorem SV{z TI TO t:Addr}{c:Bool}{o:Obj}{k:Nat}{xs ys:Array Value}{Q:Fin->Shared->Prop}(hh:A.handled=none)(D:Fa z TI TO i1 i2 l1 l2)(hz:i6 s.heap z TI TO t c)(ht:s.heap.get? t=some o)(hI:IsPair s.heap TI (.ref i1)<|.ref i2)
 (h1:dW t1 s.heap i1 l1 k) (h2:dW t2 s.heap i2 l2 k) (q1:iJ t1 s.heap l1 xs) (q2:iJ t2 s.heap l2 ys) (J:xs[k]?=none\/ys[k]?=none)
 (q:∀h' e,(∀c o,c≠z->c≠TO->c≠i1->c≠i2->s.heap.get? c=some o->h'.get? c=some o)->(∃o,h'.get? e=some o/\o.cls=.type "StopIteration")->E (.ref e) { s with heap:=h' }):
 wpAny (model prog w) A (Builtin.«zip.__next__» ⟨[.ref z],[]⟩) Q E s:=by
 refine Aa (m:=field (.ref z) 2)<|AV hz rfl (x:=.bool false) rfl<|Aa (m:=field (.ref z) 3)<|AV hz rfl (x:=.ref TI) rfl<|Aa<|Bk hI rfl ?_;refine Aa (m:=Builtin.SmallTypes.ownedTupleIsFree<|.ref z)<|tJ hz ht λg1 z1 I=>?_;simp only[BV,if_false];refine Aa ?_;rw[<-Array.forIn_toList];simp only[Cm,Do];refine Aa<|Aa<|A4<|Aa (m:=Builtin.SmallTypes.nextOf<|.ref i1) ?_;have U:=h1.on λo e=>I.extBut _ _ D.n3 e;have g:=q1.on λo e=>I.extBut _ _ D.n8 e;cases j:xs[k]? with
 |none=>exact dW.stop hh U g j λg2 e s2 p=>q g2 e (λc o r _ C _ w=>s2 _ _ C<|I.extBut _ _ r w) p
 |some x=>
  have hy:ys[k]?=none:=by rcases J with h|h;rw[j] at h;cases h;exact h
  refine dW.next U g j λg2 a5 T=>Ah<|Ah ?_;refine Aa<|Aa<|A4<|Aa (m:=Builtin.SmallTypes.nextOf<|.ref i2)<|dW.stop (t:=t2) (l:=l2) (i:=k) (xs:=ys) hh (h2.on λo e=>T.extBut _ _ (AL D.n7)<|I.extBut _ _ D.n4 e) (q2.on λo e=>T.extBut _ _ D.n14<|I.extBut _ _ D.n12 e) hy λg4 e s4 p=>?_;exact q g4 e (λc o r _ C a4 w=>s4 _ _ a4<|T.extBut _ _ C<|I.extBut _ _ r w) p
def ZS(t1 t2:Bool)(z TI TO i1 i2 l1 l2 B:Addr)(i:Nat)(h:Heap):Prop:=
 ((IsZip h z TI TO .none/\∃a b,IsPair h TO a b)\/∃t c u v,B<=t/\i6 h z TI TO t c/\IsPair h t u v)/\IsPair h TI (.ref i1) (.ref i2)/\dW t1 h i1 l1 i/\dW t2 h i2 l2 i
structure ZB(z TI TO i1 i2 l1 l2 B:Addr):Prop where
 ap:Fa z TI TO i1 i2 l1 l2
 d1:TI≠TO
 d2:TI≠i1
 d3:TI≠i2
 lt:∀c∈[z,TI,TO,i1,i2],c<B
section
variable {z TI TO B:Addr}{xs ys:Array Value}
theorem ZS.keep(st:ZS t1 t2 z TI TO i1 i2 l1 l2 B i h)(k:∀b o,b∈[z,TI,TO,i1,i2]\/B<=b->h.get? b=some o->h'.get? b=some o):ZS t1 t2 z TI TO i1 i2 l1 l2 B i h':=by
 obtain⟨J,U,g,j⟩:=st;refine⟨?_,k _ _ (.inl (by simp)) U,g.on λo e=>k _ o (.inl (by simp)) e,j.on λo e=>k _ o (.inl (by simp)) e⟩;rcases J with⟨a,u,v,b⟩|⟨t,c,u,v,I,a,b⟩
 ·exact .inl ⟨k _ _ (.inl (by simp)) a,u,v,k _ _ (.inl (by simp)) b⟩
 ·exact .inr ⟨t,c,u,v,I,k _ _ (.inl (by simp)) a,k _ _ (.inr I) b⟩
theorem ZS.type(st:ZS t1 t2 z TI TO i1 i2 l1 l2 B i s.heap):s.TypeIs (.ref z) "zip" := by
 rcases st.1 with⟨a,_⟩|⟨t,c,u,v,I,a,b⟩
 ·exact⟨_,a,rfl⟩
 ·exact⟨_,a,rfl⟩
theorem SW{x y:Value}{Q:Option Value->Shared->Prop}(D:ZB z TI TO i1 i2 l1 l2 B)(hB:B<=s.heap.objs.size)(st:ZS t1 t2 z TI TO i1 i2 l1 l2 B i s.heap)(p:iJ t1 s.heap l1 xs)(r:iJ t2 s.heap l2 ys)(C:xs[i]?=some x)(T:ys[i]?=some y)
 (q:∀h',ZS t1 t2 z TI TO i1 i2 l1 l2 B (i+1) h'->IsPair h' s.heap.objs.size x y->(∀c o,c∉[z,TI,TO,i1,i2]->s.heap.get? c=some o->h'.get? c=some o)->Q (some<|.ref s.heap.objs.size) { s with heap:=h' }):
 wpAny (model prog w) A (pyNext<|.ref z) Q E s:=by
 have hT:=st.type;obtain⟨s1,U,s3,s4⟩:=st;unfold pyNext;refine Aa<|wpAny_attempt<|wpAny_callSpecial?_slot (name:="__next__") hT E4<|wpAny_call_entry E4 hT F.entry_zip_next ?_<|F.args_zip_next_1 _;have ne:∀{c d:Addr},c∈[z,TI,TO,i1,i2]->B<=d->d≠c:=λh1 h2 z=>by have:=D.lt _ h1;rw[z] at h2;exact absurd h2<|Nat.not_le.mpr this
 rcases s1 with⟨a,u,v,b⟩|⟨t,c,u,v,g,a,b⟩
 ·refine Ph D.ap a U b s3 s4 p r C T λh' g1 g2 g3 l j J=>Ah<|q h' ⟨.inr ⟨_,false,x,y,hB,g1,j⟩,J _ _ D.ap.n1 D.d1 D.d2 D.d3 U,g3,l⟩ j λc o I e=>?_;simp only[Am,Bv,or_false,not_or] at I;exact J c o I.1 I.2.2.1 I.2.2.2.1 I.2.2.2.2 e
 ·refine yt D.ap a b U s3 s4 p r C T λh' g1 g3 l j J=>Ah<|q h' ⟨.inr ⟨t,true,u,v,g,g1,J _ _ (ne (by simp) g) (ne (by simp) g) (ne (by simp) g) b⟩,J _ _ D.ap.n1 D.d2 D.d3 U,g3,l⟩ j λc o I e=>?_;simp only[Am,Bv,or_false,not_or] at I;exact J c o I.1 I.2.2.2.1 I.2.2.2.2 e
theorem SX{Q:Option Value->Shared->Prop}(g:A.handled=none)(D:ZB z TI TO i1 i2 l1 l2 B)(st:ZS t1 t2 z TI TO i1 i2 l1 l2 B i s.heap)(j:iJ t1 s.heap l1 xs)(l:iJ t2 s.heap l2 ys)(I:xs[i]?=none\/ys[i]?=none)
 (q:∀h',(∀c o,c∉[z,TI,TO,i1,i2]->s.heap.get? c=some o->h'.get? c=some o)->Q none { s with heap:=h' }):wpAny (model prog w) A (pyNext<|.ref z) Q E s:=by
 have p:=st.type;obtain⟨s1,r,C,s4⟩:=st;unfold pyNext;refine Aa<|wpAny_attempt<|wpAny_callSpecial?_slot (name:="__next__") p E4<|wpAny_call_entry E4 p F.entry_zip_next ?_<|F.args_zip_next_1 _;have x8:∀h' e,(∀c o,c≠z->c≠TO->c≠i1->c≠i2->s.heap.get? c=some o->h'.get? c=some o)->(∃o,h'.get? e=some o/\o.cls=.type "StopIteration")->wpAny (model prog w) A (isInstance (.ref e) (.type "StopIteration") >>= λb=>if b=true then pure none else throw (.ref e)) Q E { s with heap:=h' }:=λh' e gk he=>by obtain⟨o,ho,U⟩:=he;refine Aa<|wpAny_isInstance (T:="StopIteration") (b:=true) ⟨o,ho,U⟩ isSubtype_stop<|Ah<|q h' λc o J e=>?_;simp only[Am,Bv,or_false,not_or] at J;exact gk c o J.1 J.2.2.1 J.2.2.2.1 J.2.2.2.2 e
 rcases s1 with⟨a,u,v,b⟩|⟨t,c,u,v,hb,a,b⟩
 ·exact Pj g D.ap a r b C s4 j l I x8
 ·exact SV g D.ap a b r C s4 j l I x8
end
end
inductive tM:Hp->List Addr->List (V×V)->Hp->Prop
 |nil {H:Hp}:tM H [] [] H
 |snoc {H H1:Hp} {ps:List Addr} {vs:List<|V×V} {p:Addr} {v:V×V}:tM H ps vs H1->H1 p=none->tM H (ps++[p]) (vs++[v]) (upd H1 p<|.tup [v.1,v.2])
theorem SY{a b:Addr}{o u:HO}(h:a≠b):upd (upd H a o) b u=upd (upd H b u) a o:=by
 funext c;by_cases I:c=a
 ·subst I;rw[qr h,zk,zk]
 ·by_cases J:c=b
  ·subst J;rw[zk,qr I,zk]
  ·rw[qr J,qr I,qr I,qr J]
theorem Sq.new{K:Af}{a p:Addr}{o:HO}(h:Sq t K H a xs)(I:H p=none):Sq t K (upd H p o) a xs:=by
 have rd:∀u,Rd H a u->Rd (upd H p o) a u:=λu r=>by
  rcases r with r|⟨c,r⟩
  ·exact .inl (by rw[qr<|zo r I];exact r)
  ·exact .inr ⟨c,by rw[qr<|zo r I];exact r⟩
 cases t with|false=>exact h.imp (rd _) id|true=>exact h.imp (rd _) id
section
variable {σ:L2.St}{z TI TO S:Addr}{ys:List V}{R:Result->Shared->Prop}{res:Value}
theorem S0(hh:A.handled=none)(D:ZB z TI TO i1 i2 l1 l2<|S+1)(hS:S∉[z,TI,TO,i1,i2])(hR:∀s' G ps,qx X pins σ (upd G S<|.lst<|ps.map V.ref) s'->tM H ps (xs.zip ys) G->G S=none->R (.ok<|.ret res) s'):
 ∀(k i:Nat) (s:Shared) (G:Hp) (ps:List Addr),min xs.length ys.length-i=k->i<=min xs.length ys.length->qx X pins σ (upd G S<|.lst<|ps.map V.ref) s->(∀b∈[z,TI,TO,i1,i2],jZ X pins (upd G S<|.lst<|ps.map V.ref) b)->ZS t1 t2 z TI TO i1 i2 l1 l2 (S+1) i s.heap->tM H ps ((xs.zip ys).take i) G->G S=none->Sq t1 X.K G l1 xs->Sq t2 X.K G l2 ys->ps.length=i->
  codeAny (model X.prog X.w) A (.builtin "list.extend.loop" ⟨[.ref S,.ref z,res],[]⟩) R s:=by
 have zl:(xs.zip ys).length=min xs.length ys.length:=C7;intro k
 induction k with
 |zero=>
  intro i s G ps hk hi I hf st nt j J U hl;have hi:min xs.length ys.length<=i:=by lia
  obtain⟨a3,p,p1,_⟩:=I.seq<|J.new j;obtain⟨a4,t,p2,_⟩:=I.seq<|U.new j;have e1:=p.length;have e2:=t.length;refine codeAny_builtin F.entry_extend_loop ?_;rw[EQ EX _];rw[AR (by lia)] at nt;refine Aa (m:=pyNext<|.ref z) (SX hh D st p1 p2 (by rcases Nat.le_total xs.length ys.length with h|h;exact .inl (by simp;lia);exact .inr (by simp;lia)) λh' kk=>Ah<|hR _ G ps (I.turnedL (t':=s.toks) (fp:=[z,TI,TO,i1,i2]) kk hf) nt j)
 |succ k ih=>
  intro i s G ps hk hi I hf st nt j J U hl;obtain⟨a3,p,p1,z1⟩:=I.seq<|J.new j;obtain⟨a4,t,p2,_⟩:=I.seq<|U.new j;have hx:xs[i]?=some (xs[i]'(by lia)):=Al (by lia);have hy:ys[i]?=some (ys[i]'(by lia)):=Al (by lia);have ez:(xs.zip ys).take (i+1)=(xs.zip ys).take i++[(xs[i]'(by lia),ys[i]'(by lia))]:=by rw[Bo,(DQ (z:=(xs[i]'(by lia),ys[i]'(by lia)))).mpr ⟨hx,hy⟩];rfl
  generalize xs[i]'(by lia)=x at hx ez;generalize ys[i]'(by lia)=y at hy ez;obtain⟨ux,a5,ac⟩:=p.get hx;obtain⟨uy,al,au⟩:=t.get hy;obtain⟨_,_,_,_,_,eS⟩:=I.lstM (l:=S) zk;have lS:S<s.heap.objs.size:=um eS;refine codeAny_builtin F.entry_extend_loop ?_;rw[EQ EX _];refine Aa (m:=pyNext<|.ref z)<|SW D lS st p1 p2 (x:=ux) (y:=uy) (by simpa using a5) (by simpa using al) λh' av tp kk=>?_;have I1:=I.turnedN (t':=s.toks) (fp:=[z,TI,TO,i1,i2]) (h':=h') (a:=s.heap.objs.size) (o:=.tup [x,y]) kk hf (Ao _) ⟨by show 2<=sizeLine;decide,[ux,uy],.cons ac<|.cons au .nil,⟨_,tp,rfl,_,rfl⟩⟩;have C:S≠s.heap.objs.size:=A9 lS;have gP:G s.heap.objs.size=none:=by have:=I.hok.fresh<|Ao s.heap.objs.size;rw[qr<|AL C] at this;exact this
  generalize s.heap.objs.size=P at I1 C gP lS tp ⊢;have T:upd (upd G S<|.lst<|ps.map V.ref) P (.tup [x,y]) S=some (.lst<|ps.map V.ref):=by rw[qr C,zk]
  obtain⟨_,a1,n,r,hn,e⟩:=I1.lstM T;rw[Ag,hl] at hn;have I2:=I1.lset (its':=a1++[.ref P]) (f:=(·.push (.ref P))) (ys:=(ps++[P]).map V.ref) (t':=s.toks) T e (by simp) (by rw[AI];exact r.append<|.cons rfl .nil) (by rw[Ag,Ad,CG];lia);rw[SY C,yL] at I2;have li:a1.length=i:=by lia
  refine Aa (m:=updateSeq S (·.push (.ref P))) (wpAny_updateSeq (s:={ s with heap:=h' }) e rfl (Ah ⟨plainId_quiet EX _,ih (i+1) _ (upd G P<|.tup [x,y]) (ps++[P]) (by lia) (by lia) I2 (λb g=>?_) (av.keep λb o g q=>?_) (by rw[ez];exact nt.snoc gP) (by rw[qr C];exact j) (J.new gP) (U.new gP) (by rw[Ad,hl];rfl)⟩)
   (by rw[Au];lia) (by rw[Bl,Au];lia))
  ·obtain⟨f0,f1⟩:=hf b g;have bl:=D.lt b g;have bS:b≠S:=λz=>hS<|z▸g;refine⟨?_,f1⟩;rw[qr bS,qr (by lia)];rw[qr bS] at f0;exact f0
  ·have bS:S≠b:=by
    rcases g with g|g
    ·exactλz=>hS<|z▸g
    ·lia
   exact(ya _ _ bS).trans q
theorem y8:typeLookup (.type "zip") "__len__" = pure none:=by rw[typeLookup_type,builtinLookup_eq_fast];kernel_rfl
theorem vO:typeLookup (.type "zip") "__length_hint__" = pure none:=by rw[typeLookup_type,builtinLookup_eq_fast];kernel_rfl
theorem S1{r:Addr}{Q:Bool->Shared->Prop}(J:s.TypeIs (.ref r) "zip")(h:Q true s):wpAny (model X.prog X.w) A (Builtin.List.listLengthHint<|.ref r) Q E s:=by unfold Builtin.List.listLengthHint;refine Aa<|wpAny_specialOf J y8 ?_;refine wpAny_ite_split (λI=>absurd I (by decide)) λ_=>?_;refine wpAny_ite_split (λI=>absurd I (by decide)) λ_=>?_;refine Aa<|wpAny_specialOf J vO<|Ah h
theorem pV(hh:A.handled=none)(I:qx X pins σ H s)(D:ZB z TI TO i1 i2 l1 l2 s.heap.objs.size)(hz:IsZip s.heap z TI TO .none)(hf:∀b∈[z,TI,TO,i1,i2],jZ X pins H b)(st:ZS t1 t2 z TI TO i1 i2 l1 l2 (s.heap.objs.size+1) 0 s.heap)(t:Sq t1 X.K H l1 xs)(C:Sq t2 X.K H l2 ys)
 (q:∀s' G ps,qx X pins σ (upd G s.heap.objs.size<|.lst<|ps.map V.ref) s'->tM H ps (xs.zip ys) G->G s.heap.objs.size=none->Q (.ref s.heap.objs.size) s'):wpAny (model X.prog X.w) A (call (.type "list") [.ref z]) Q E s:=by
 have hn:=I.hok.fresh<|Ao s.heap.objs.size;have I0:=I.laid (t':=s.toks) (h':=s.heap.push { cls:=.type "list",data:=.seq #[] }) (a:=s.heap.objs.size) (o:=.lst []) (λb u e=>sy _ e) (Ao _) ⟨Bb _,[],0,.nil,vb _ rfl⟩;have hS:s.heap.objs.size∉[z,TI,TO,i1,i2]:=λh=>CF _<|D.lt _ h;have D':ZB z TI TO i1 i2 l1 l2 (s.heap.objs.size+1):=⟨D.ap,D.d1,D.d2,D.d3,λc hc=>B6<|D.lt c hc⟩;refine callType_codes (Q₁:=λobj U=>obj=.ref s.heap.objs.size/\U={ s with heap:=s.heap.push { cls:=.type "list",data:=.seq #[] } }) F.called_list (F.typeCall_list_1 _) F.entry_list_init (code_list_new _ ⟨rfl,rfl⟩) λobj U g=>?_;obtain⟨rfl,rfl⟩:=g;have l:(s.heap.push { cls:=.type "list",data:=.seq #[] }).get? s.heap.objs.size=some { cls:=.type "list",data:=.seq #[] }:=vb _ rfl;have st0:=st.keep (h':=s.heap.push { cls:=.type "list",data:=.seq #[] }) λb o _ e=>sy _ e;refine⟨⟨_,l,rfl⟩,F.args_list_init_2 _ _,?_⟩;have key:∀(h:Heap) (c:Nat),h.get? s.heap.objs.size=some { cls:=.type "list",data:=.seq #[] c }->(∀b o,b≠s.heap.objs.size->(s.heap.push { cls:=.type "list",data:=.seq #[] }).get? b=some o->h.get? b=some o)->
  codeAny (model X.prog X.w) A.in1 (.builtin "list.extend.loop" ⟨[.ref s.heap.objs.size,.ref z,.none],[]⟩) (wants (λr j=>r=.none/\Q (.ref s.heap.objs.size) j) E) { s with heap:=h }:=λh c e k=>by
  refine S0 (X:=X) (pins:=pins) (σ:=σ) (H:=H) (xs:=xs) (ys:=ys) (A:=A.in1) hh D' hS (λs' G ps I' nt gS=>⟨rfl,q s' G ps I' nt gS⟩) _ 0 _ H [] rfl (Bb _) ?_ (λb J=>?_) (st0.keep λb o J e=>k b o ?_ e) .nil hn t C rfl
  ·exact I.laid (t':=s.toks) (h':=h) (a:=s.heap.objs.size) (o:=.lst []) (λb u e=>k b u (A9<|um e)<|sy _ e) (Ao _) ⟨Bb _,[],c,.nil,e⟩
  ·obtain⟨f0,f1⟩:=hf b J;exact⟨by rw[qr<|A9<|D.lt b J];exact f0,f1⟩
  ·rcases J with J|J
   ·exact A9<|D.lt b J
   ·exact CT J
 show wpAny _ _ (Builtin.List.listItems (.ref s.heap.objs.size) >>= λold=>Builtin.List.listUpdate (.ref s.heap.objs.size) (λ_=>#[]) >>= λ_=>letGo old.toList.reverse >>= λ_=>Builtin.List.listExtendWith (.ref s.heap.objs.size) (.ref z) .none) _ _ _;refine Aa ?_;unfold Builtin.List.listItems;refine Aa<|Bk l rfl<|Ah ?_;refine Aa (m:=updateSeq s.heap.objs.size λ_=>#[])<|wpAny_updateSeq l rfl ?_;have e2:=At (Obj.mapSeq λ_=>(#[]:Array Value)) l rfl;have p:∀b o,b≠s.heap.objs.size->(s.heap.push { cls:=.type "list",data:=.seq #[] }).get? b=some o->((s.heap.push { cls:=.type "list",data:=.seq #[] }).update s.heap.objs.size<|Obj.mapSeq λ_=>(#[]:Array Value)).get? b=some o:=λb o J e=>(ya _ _<|AL J).trans e;generalize (s.heap.push { cls:=.type "list",data:=.seq #[] }).update s.heap.objs.size (Obj.mapSeq λ_=>(#[]:Array Value))=g2 at e2 p ⊢;refine Aa<|wpAny_letGo ?_;unfold Builtin.List.listExtendWith;have a1:=st0.keep (h':=g2) λb o J e=>p b o (by rcases J with J|J;exact A9<|D.lt b J;exact CT J) e;have T2:=a1.type (s:={ s with heap:=g2 });refine Aa<|wpAny_typeOf (T:="zip") T2 ?_;have sr:Builtin.List.listSameRef (.ref s.heap.objs.size) (.ref z)=false:=by have:s.heap.objs.size≠z:=λe=>hS (by rw[e];simp);simp[Builtin.List.listSameRef,this]
 rw[AC (by rw[sr];decide)];refine Aa<|wpAny_pyIter_zip (s:={ s with heap:=g2 }) (p _ _ (A9<|D.lt z (by simp))<|sy _ hz) ?_;refine Aa<|A4<|S1 T2 ?_;rw[AB (by decide)];refine Aa<|Bt<|Aa ?_;show wpAny _ _ (updateSeq s.heap.objs.size (·.push .none) >>= λ_=>updateSeq s.heap.objs.size (·.pop)) _ _ _;refine Aa<|wpAny_updateSeq (s:={ s with heap:=g2 }) e2 rfl ?_;have e3:=At (Obj.mapSeq (·.push Value.none)) e2 rfl;refine wpAny_updateSeq (hz:=by seq_fits) e3 rfl ?_;have e4:=At (Obj.mapSeq (·.pop)) e3 rfl;exact Ah ⟨plainId_quiet EX _,key _ _ e4 λb o J e=>(ya _ _<|AL J).trans<|(ya _ _<|AL J).trans<|p b o J e⟩
end
def S2(X:Cx)(ta:TA):TE:=λσ H Q=>ta σ H λvs H1=>∃t1 t2 a b xs ys,vs=[.ref a,.ref b]/\Sq t1 X.K H1 a xs/\Sq t2 X.K H1 b ys/\∀S G ps,tM H1 ps (xs.zip ys) G->G S=none->Q (.ref S) (upd G S<|.lst<|ps.map V.ref)
theorem wB{a b:Expr}{ta:TA}{ps:Pos}(hc:X.calm=true)(t:Gl X "list")(C:X.mg "list"=none)(T:Gl X "zip")(a1:X.mg "zip"=none)(ha:PA X [a,b] ta)(hs:starEach [a,b] X.env=[(false,eval a X.env),(false,eval b X.env)]:=by rfl)
 (j:starEach [b] X.env=[(false,eval b X.env)]:=by rfl):PE X (.Call (.Name "list" p1) [.Call (.Name "zip" p2) [a,b] [] ps] [] pos) (S2 X ta):=by
 intro J s σ H Q I h;refine wpAny_Call_Name_kw<|fF I t C vv ?_;refine callWith_type1 ?_ rfl rfl;show wpAny _ _ (spliced<|(false,eval (.Call (.Name "zip" p2) [a,b] [] ps) X.env)::[]) _ _ s;refine Ev ?_;refine wpAny_Call_Name_kw<|fF I T a1 Pk ?_;refine callWith_type1 (aE (ha ps J s σ H _ I h) λus U ψ=>?_) (by rw[hs,j]) (by rw[j];rfl);obtain⟨vs,H1,g,r1,q1⟩:=ψ;obtain⟨t1,t2,l1,l2,xs,ys,e,hx,hy,q⟩:=q1;subst e;obtain⟨u1,u2,rfl,a3,a4⟩:=zw.two r1;cases a3;cases a4;obtain⟨av,_,w1,_⟩:=g.seq hx;obtain⟨ax,_,w2,_⟩:=g.seq hy;have a5:l1<U.heap.objs.size:=by
  cases t1 with
  |false=>obtain⟨o,e,_⟩:=w1;exact um e
  |true=>obtain⟨o,e,_⟩:=w1;exact um e
 have ac:l2<U.heap.objs.size:=by
  cases t2 with
  |false=>obtain⟨o,e,_⟩:=w2;exact um e
  |true=>obtain⟨o,e,_⟩:=w2;exact um e
 refine yn w1 w2 λg1 gz gI gO l p gk=>EY ?_;have I2:qx X J σ H1 { U with heap:=g1 }:=g.kept (t':=U.toks) gk;refine pV (s:={ U with heap:=g1 }) (g.ok.hd hc) I2 ⟨?_,?_,?_,?_,λc hc=>?_⟩ gz (λc hc=>?_) ⟨.inl ⟨gz,_,_,gO⟩,gI,l,p⟩ hx hy λs' G ps I' nt gS=>⟨.ref _,_,I',rfl,q _ G ps nt gS⟩
 ·have al:@LT.lt Nat instLTNat l1 U.heap.objs.size:=a5;have au:@LT.lt Nat instLTNat l2 U.heap.objs.size:=ac;constructor<;>exact uX (by lia)
 ·exact uX (by lia)
 ·exact uX (by lia)
 ·exact uX (by lia)
 ·simp only[Am,Bv,or_false] at hc;rcases hc with rfl|rfl|rfl|rfl|rfl
  ·exact um gz
  ·exact um gI
  ·exact um gO
  ·obtain⟨o,e,_⟩:=l.ob;exact um e
  ·obtain⟨o,e,_⟩:=p.ob;exact um e
 ·have r:U.heap.objs.size<=c:=by simp only[Am,Bv,or_false] at hc;rcases hc with rfl|rfl|rfl|rfl|rfl<;>exact u_ (by simp +arith only)
  exact g.fpOk r<|g.hok.fresh r
end L2
namespace L3
open PySem L2
theorem S3{H1:Hp}{ps:List Addr}{vs:List<|V×V}(n:tM H ps vs H1)(J:zy G H L):jg H H1/\zy G H1 L/\Paired (λp (v:V×V)=>H1 p=some (.tup [v.1,v.2])) ps vs:=by
 induction n with
 |nil=>exact⟨ED _,J,.nil⟩
 |snoc _ I U=>
  obtain⟨a,b,c⟩:=U;exact⟨a.trans<|EE I,b.skip I,Words.Paired.app (EI c λq v e=>(qr<|zo e I).trans e)<|.cons zk .nil⟩
theorem tG{G:G3}{H H1:Hp}(t:jg H H1):∀{xs ys:List Y} {us vs:List V} {ps:List Addr},xr G H xs us->xr G H ys vs->Paired (λp (v:V×V)=>H1 p=some (.tup [v.1,v.2])) ps (us.zip vs)->xr G H1 (Gj xs ys) (ps.map V.ref)
 |[],ys,us,vs,ps,h1,h2,h3=>by cases h1;cases h3;rfl
 |x::xs,[],us,vs,ps,h1,h2,h3=>by cases h2;rw[List.zip_nil_right] at h3;cases h3;rfl
 |x::xs,y::ys,us,vs,ps,ψ,χ,h3=>by obtain⟨u,I,J,U,h1⟩:=ψ;obtain⟨v,g,j,l,h2⟩:=χ;subst J j;cases h3 with|cons a b=>exact⟨_,_,rfl,⟨_,_,rfl,dS.of a,⟨_,_,rfl,U.ts t,_,_,rfl,l.ts t,rfl⟩⟩,tG t h1 h2 b⟩
def u5(ta:fV)(τ:jw)(L:qo)(Q:YK):Prop:=ta τ L λvs L1=>match vs with
 |[x,y]=>jY L1 x λxs=>jY L1 y λys=>∀p,L1 p=none->Q (.ref p) (qi L1 p<|.lst<|Gj xs ys)
 |_=>False
theorem S4{a b:Expr}{ta:fV}{ps:Pos}(hc:X.calm=true)(U:Gl X "list")(g:X.mg "list"=none)(j:Gl X "zip")(l:X.mg "zip"=none)(ha:QA X [a,b] ta)(hs:starEach [a,b] X.env=[(false,eval a X.env),(false,eval b X.env)]:=by rfl)
 (o:starEach [b] X.env=[(false,eval b X.env)]:=by rfl):QE X (.Call (.Name "list" p1) [.Call (.Name "zip" p2) [a,b] [] ps] [] pos) (u5 ta):=EF (wB hc U g j l ha hs o) λσ H Q τ L Q3 rs rl z k=>
 ⟨τ,L,_,rs,rl,z,λus H1 ys L1 t1 I p r=>by
  split at r
  ·rename_i x y;obtain⟨xs,ex,z2⟩:=aT r;obtain⟨zs,ez,z3⟩:=aT z2;obtain⟨u,v,rfl,r1,r2⟩:=p.inv2;obtain⟨b1,q1,t,rfl,s1,w1⟩:=Ib I r1 ex;obtain⟨b2,q2,C,rfl,s2,w2⟩:=Ib I r2 ez;refine⟨b1,b2,q1,q2,t,C,rfl,s1,s2,λS G ps nt T=>?_⟩;obtain⟨t2,J,pr⟩:=S3 nt I;exact k _ _ _ _ ((t1.trans t2).trans<|EE T) (J.newL T<|tG t2 w1 w2 pr) (by rfl) (z3 S<|J.none T)
  ·exact r.elim⟩
end L3
namespace L2
open PySem PySem.Spec PyProof.Rows
def FF(K:Af)(I:Addr)(th:TS)(D:qE):X1:=λσ c H=>∃C,c=.ref C/\PySem.W.exmOne K (.ref C) (.ref I)=some true/\th D σ H
def S5(K:Af)(I:Addr)(tb:X1->TS)(th:TS):TS:=λD σ H=>tb (FF K I th D) D σ H
theorem S6{Dc:Addr}{a3:Pos}{j:List Stmt}{t:Stmt}{tb:X1->TS}{th:TS}(hs:X.stack=X.env::X.outer)(hf:X.env.frame=some X.env.locals)(hx:X.ex=[])
 (hg:Gl X x) (hm:X.mg x=some (.ref Dc)) (hb:∀(pn:List<|Addr×Obj) (xe:Value->Shared->Prop) (E1:X1),bY (X.tr pn xe) E1->gZ (X.tr pn xe) body (tb E1)) (hh:∀a,gZ (X.hnd a) (t::j) th)
 (a5:Ey x:=by decide):PS X (.Try body [.ExceptHandler (some<|.Name x np) none (t::j) a3] [] [] pos) (S5 X.K Dc tb th):=by
 intro U s σ H D I h;have tk:bY (X.tr (X.pn++U) λe s'=>∃g l H' a C tr,e=.ref a/\qx X U l H' s'/\pZ X.s₀.heap s'.heap H' a C tr/\yJ (X.tr (X.pn++g) X.xe) a/\(∀p∈X.pn++U,p.1≠a)/\(∀T,tr=some T->∀p∈X.pn++U,p.1≠T)/\FF X.K Dc th D l (.ref C) H')
  (FF X.K Dc th D):=λg l H' s' a C tr I' L ap ac q=>⟨[],l,H',a,C,tr,rfl,I'.untr,L,⟨ap.1,ap.2.1,λp o=>ap.2.2 p (by have o:p∈X.pn++[]:=o;rw[AD] at o;exact Ap _ o)⟩,ap.2.2,λT e=>(ac T e).2.2,q⟩
 refine wpAny_Try_except<|AX (hb _ _ _ tk [] s σ H D (I.tr _) h) (λf s1 h1=>?_) λe s1 h1=>?_
 ·have h2:=SP.untr h1;cases f with|next=>exact wpAny_execs_nil h2|brk=>exact h2|cont=>exact h2|ret u=>exact h2
 ·obtain⟨g,l,H',a,C,tr,rfl,I1,L,ap,pa,al,C',ec,em,q⟩:=h1;cases ec;refine Ot I1 hs hf hx L (λp o=>⟨pa p o,λT e=>al T e p o⟩) λh' T I2 L2 a4=>?_;refine wpAny_handleBy_cons (codeAny_handlers_test ?_) (by intro q;cases q);refine hZ (X:=X.hnd a) (I2.hnd a) hg hm ?_ a5;obtain⟨_,_,oe,vs,a0,he,hc,_⟩:=id L2;have LT:PySem.W.Looks (model X.prog X.w) h' (typeOf<|.ref a) (.ref C):=hc▸(PySem.W.Looks.ld he).andThen .now;refine PySem.W.exm_one (K:=X.K) I2.kIn LT em _ _ _ _ (λ_ _ e=>e) ?_;refine codeAny_handlers_suite ?_;refine yi I2 hs hx L2 (λp o=>⟨pa p o,a4 p o⟩) λh3 T' I3 L3=>?_;refine AX (hh a U _ _ _ D (I3.hnd a) q) (λf s6 h6=>?_) λe s6 z=>z.elim;cases f with
  |next=>obtain⟨a1,H6,J,q6⟩:=h6;exact⟨_,H6,J.unhnd I.ok,q6⟩
  |brk=>obtain⟨a1,H6,J,q6⟩:=h6;exact⟨_,H6,J.unhnd I.ok,q6⟩
  |cont=>obtain⟨a1,H6,J,q6⟩:=h6;exact⟨_,H6,J.unhnd I.ok,q6⟩
  |ret u=>obtain⟨v,a1,H6,J,r,q6⟩:=h6;exact⟨v,_,H6,J.unhnd I.ok,r,q6⟩
end L2
namespace L3
open PySem L2
def yA(K:Af)(J:Addr)(tb:X3->vh)(th:vh)(D:xb)(τ:jw)(L:qo):Prop:=tb (λI C L'=>PySem.W.exmOne K (.ref C) (.ref J)=some true/\th D I L') D τ L
theorem xI{g:Addr}{U:Pos}{I:List Stmt}{J:Stmt}{tb:X3->vh}{th:vh}(hs:X.stack=X.env::X.outer)(r:X.env.frame=some X.env.locals)(t:X.ex=[])
 (T:Gl X x) (hm:X.mg x=some (.ref g)) (hb:QB X body tb) (hh:∀a,nO (X.hnd a) (J::I) th)
 (j:Ey x:=by decide):QS X (.Try body [.ExceptHandler (some<|.Name x np) none (J::I) U] [] [] pos) (yA X.K g tb th):=
 PS.imp (S6 (tb:=Gm X.g3 tb) (th:=A_ X.g3 th) hs r t T hm hb hh j) λD σ H ψ=>by
 obtain⟨τ,L,D3,rs,rl,z,k⟩:=ψ
 show Gm X.g3 tb (FF X.K g (A_ X.g3 th) D) D σ H;exact⟨τ,L,D3,_,rs,rl,z,k,λa1 C H' l L' t' o p ψ=>(by obtain⟨em,q⟩:=ψ;exact ⟨C,rfl,em,l,L',D3,o,p,q,k.ts t'⟩)⟩
open PySem L2 Words
theorem Paired.len{α β:Type}{F:α->β->Prop}:∀{xs:List α} {ys:List β},Paired F xs ys->xs.length=ys.length
 |_,_,.nil=>rfl
 |_,_,.cons _ r=>BF (· + 1)<|Paired.len r
def Js:Y->Bool
 |.non=>true
 |.int _=>true
 |.str _=>true
 |_=>false
def gr(L:qo):Nat->Y->Y->Prop
 |0,_,_=>False
 |n+1,x,y=>(Js x=true/\y=x)\/(∃xs ys,x=.tup xs/\y=.tup ys/\ys.length<=1000/\Paired (gr L n) xs ys)\/(∃a b xs ys,x=.ref a/\y=.ref b/\L a=some (.lst xs)/\L b=some (.lst ys)/\ys.length<=1000/\Paired (gr L n) xs ys)
theorem gr.flat{x:Y}(h:Js x=true):gr L (n+1) x x:=.inl ⟨h,rfl⟩
theorem gr.tup{xs:List Y}(h:Paired (gr L n) xs ys)(l:Nat.ble ys.length 1000=true:=by rfl):gr L (n+1) (.tup xs) (.tup ys):=.inr<|.inl ⟨xs,ys,rfl,rfl,CH l,h⟩
theorem oq{L:qo}{n:Nat}:∀wd:List (Option Kn),Paired (gr L<|n+2) (jz wd)<|jz wd
 |[]=>.nil
 |none::r=>.cons (.flat rfl)<|oq r
 |some (.lf t m)::r=>.cons (.tup<|.cons (.flat rfl)<|.cons (.flat rfl) .nil)<|oq r
 |some (.nd e i j)::r=>.cons (.tup<|.cons (.flat rfl)<|.cons (.flat rfl)<|.cons (.flat rfl) .nil)<|oq r
def aI(n:Nat):zh:=λys L Q=>∃x y,ys=[x,y]/\gr L n x y/\Q (.bl true) L
theorem S7:∀ys L Q,¬aI 0 ys L Q:=λys L Q ψ=>(by obtain⟨x,y,_,h,_⟩:=ψ;exact h)
noncomputable def uG(I:zh):RR "_law_moved" cc 1 ["_law_rule","_law_at"] ["_law_rule","_law_at","_law_places","_law_arms"] I (λ_=>True):=⟨_,λV B c _ _ J _ _ _ _ _ _ g hN U=>(qa (zu (E_ U (J_ 0) jx) (qd<|qz<|zf<|bO jx (ji tV rfl B.bj iq<|xm (dE U (qv 1) (J_ 0) λ_ _=>rfl)<|dE U (qv 1) (J_ 0) λ_ _=>rfl)<|ji oE rfl B.bh fw<|xm (dE U (qv 1) (J_ 0) λ_ _=>rfl)<|dE U (qv 1) (J_ 0) λ_ _=>rfl) z9)<|qa (aQ ["_law_x"] (i:=2) hN rfl (Or.inl rfl) (ER (by rfl)) rfl (vF<|wv (GB _ _ _) (qv 0) (aM qc) bW) (uL 4) (λ_ _ _ _=>cx<|vm<|ky .int rfl B.be rfl B.b_int wF<|qv 4) λ_ _ _ _=>(dE U (qv 1) (qv 4) λ_ _=>rfl))<|qa (aQ ["_law_x"] (i:=3) hN rfl (Or.inl rfl) (ER (by rfl)) rfl (vF<|wv (GB _ _ _) (qv 0) (aM qc) bW) (uL 4) (λ_ _ _ _=>cx<|vm<|ky .tuple rfl B.be rfl B.bi cQ<|qv 4) λ_ _ _ _=>(C_ J g<|xm (qv 4)<|qv 1))<|qd<|qz<|kq Sh rfl B.bi cQ<|xh<|qj jh (qj jh (js<|xh<|J_ 0)<|qv 2)<|qv 3)⟩
noncomputable def S8(I:zh):vh:=(uG I).1
theorem S9(n:Nat):∀ys L Q,cU (n+1) ys L Q->v9 (S8<|cU n) 4 ys L Q:=by
 rintro ys L Q ⟨R,d,g,f,rfl,hd,l,hr,q⟩;have big:=a_;by_cases U:∃a b,R=.link a b
 ·obtain⟨a,b,rfl⟩:=U;have v1:=l _ (gl _) a<|Ak ..;have v2:=l _ (gl _) b<|Ac _<|Ak ..;refine vk hd<|qm v1 ?_;refine vk hd<|qm v2 ?_;refine vk hd<|qm v1 ?_;refine vk hd<|qm v2 ?_;refine x8 ?_;have e1:min (f a:Int) (f b:Int)=((min (f a) (f b):Nat):Int):=Rx _ _;have e2:max (f a:Int) (f b:Int)=((max (f a) (f b):Nat):Int):=Ry _ _;have q:Q (.tup [.str "link",.int ((min (f a) (f b):Nat):Int),.int ((max (f a) (f b):Nat):Int)]) L:=q;rw[<-e1,<-e2] at q;exact q
 have hk:Fj R ≠ "link" := by cases R with|link a b=>exact absurd ⟨a,b,rfl⟩ U|ei r A=>show(Str.ofString "either") ≠ "link";decide +kernel|bo r A B=>show(Str.ofString "both") ≠ "link";decide +kernel|cu p s A B=>show(Str.ofString "cut") ≠ "link";decide +kernel
 have T:Q (.tup<|[.str<|Fj R]++nY ((plR R).map f)++(wu R).map λB=>zj<|bX f B) L:=by cases R with|link a b=>exact absurd ⟨a,b,rfl⟩ U|ei r A=>exact q|bo r A B=>exact q|cu p s A B=>exact q
 have vp:∀x∈plR R,kn g (.inl (x:Int))=some (.int (f x:Int)):=l R<|gl R;have va:∀B∈wu R,ve B<=n/\∀C∈eW B,∀x∈plR C,kn g (.inl (x:Int))=some (.int (f x:Int)):=λB hB=>⟨by have:=oU hB;lia,λC hC=>l C<|ag (R9 hB) hC⟩;have lp:(plR R).length<=2:=by cases R<;>simp[plR]
 have lA:(wu R).length<=2:=by cases R<;>simp[wu]
 rw[iD R];generalize plR R=P at vp T lp;generalize wu R=I at va T lA;generalize Fj R=t at hk T;clear q l U hr;have e0:fQ (Y.str t::(nY P++I.map zj)) 0=some (Y.str t):=jt (xs:=Y.str t::(nY P++I.map zj)) (j:=0) rfl;have ll:(nY P++I.map zj).length=P.length+I.length:=by rw[Ad,dP,Ag]
 walk_at "w";rw[e0];refine aZ (AE hk) ?_;refine⟨pN _ _,?_⟩;rw[lm];refine gD (λi J=>J=nY ((P.take i).map f)) (by rw[ll];exact big _ (by lia)) trivial rfl ?_ ?_
 ·rintro i y J hy rfl;rcases pU hy with⟨c,x,ex,rfl⟩|⟨c,B,eB,rfl⟩
  ·refine vk hd<|qm (vp x<|Az ex) ⟨_,EC _,rfl,?_⟩;rw[Bo,ex,AI,vJ];rfl
  ·have e1:P.take (i+1)=P.take i:=by rw[AR (by lia),AR c]
   have z:db (λJ L'=>L'=L/\J=nY ((P.take<|i+1).map f)) (nY<|(P.take i).map f) L:=⟨_,EC _,rfl,by rw[e1]⟩;rw[iD B];exact z
 rintro J rfl p1 h1;rw[ll,AR (by lia)];have s3:=By (o:=.lst<|nY<|P.map f) h1;have g3:qi L p1 (.lst<|nY<|P.map f) p1=some (.lst<|nY<|P.map f):=q9;refine⟨pN _ _,?_⟩;rw[lm];generalize qi L p1 (.lst<|nY<|P.map f)=L3 at s3 g3 ⊢;refine gD (λi J=>J=(I.take<|i-P.length).map λB=>zj<|bX f B) (by rw[ll];exact big _ (by lia)) trivial (by rw[Nat.zero_sub];rfl) ?_ ?_
 ·rintro i y J hy rfl;rcases pU hy with⟨c,x,ex,rfl⟩|⟨c,B,eB,rfl⟩
  ·exact⟨_,EC _,rfl,by rw[CI c,CI<|BL c]⟩
  ·obtain⟨h1,h2⟩:=va B<|Az eB;have z:cU n [zj B,.ref d] L3 λz L4=>db (λJ L'=>L'=L3/\J=(I.take<|i+1-P.length).map λB=>zj<|bX f B) (((I.take<|i-P.length).map λB=>zj<|bX f B)++[z]) L4:=by refine⟨B,d,g,f,rfl,s3 _ _ hd,h2,h1,_,EC _,rfl,?_⟩;rw[Nat.succ_sub c,Bo,eB,AI];rfl
   rw[iD B] at z ⊢;exact z
 rintro J rfl p4 h4;rw[ll,B9,BC];have a1:=bx g3 h4;have s4:=s3.trans<|By (o:=.lst<|I.map λB=>zj<|bX f B) h4;have g4:=(qg (o:=.lst<|I.map λB=>zj<|bX f B) a1).trans g3;have k4:qi L3 p4 (.lst<|I.map λB=>zj<|bX f B) p4=some (.lst<|I.map λB=>zj<|bX f B):=q9;generalize qi L3 p4 (.lst<|I.map λB=>zj<|bX f B)=L4 at s4 g4 k4 ⊢;walk_at "w";rw[e0];intro p2 h2;have s2:=By (o:=.lst [Y.str t]) h2;refine⟨_,_,q9,s2 _ _ g4,?_,λp3 h3=>?_⟩
 ·rw[dP,Ag];exact BL (big _ (by show 1+P.length<=20000;lia))
 have s5:=s2.trans<|By (o:=.lst<|[Y.str t]++nY (P.map f)) h3;refine⟨_,_,q9,s5 _ _ k4,?_,λp5 h5=>?_⟩
 ·rw[Ad,dP,Ag,Ag];exact BL (big _ (by show 1+P.length+I.length<=20000;lia))
 exact qw q9<|m8 ((s4.trans s5).trans<|By h5) T
noncomputable def f9:RD "_law_number" cA 0 ["_law_x"] (λ_=>True):=⟨_,λV B c _ _ _ _ _ _ _ I hN J=>(qd<|qz<|mw (ky .int rfl B.be rfl B.b_int wF<|qv 0)<|lT<|OV<|ky .bool rfl B.be rfl B.b_bool Oh<|qv 0)⟩
noncomputable def nU:vh:=(f9).1
noncomputable def sI(I:zh)(J:zh):RR "_law_alike" dN 2 ["_law_found","_law_due"] ["_law_found","_law_due","_law_k"] J (λV=>IP V I):=⟨_,λV B c _ _ U _ _ _ _ _ _ j hN g=>(qa (zu (gF<|qv 1) (qd<|qz<|vW<|qv 0) z9)<|qa (zu (vm<|ky .int rfl B.be rfl B.b_int wF<|qv 1) (qd<|qz<|mw (C_ c j<|xh<|qv 0)<|lT<|pP (Gf _ _ _ g) (qv 0) (qv 1)<|km _) z9)<|qa (zu (vm<|ky .str rfl B.be rfl B.b_str HG<|qv 1) (qd<|qz<|mw (ky .str rfl B.be rfl B.b_str HG<|qv 0)<|lT<|pP (Gf _ _ _ g) (qv 0) (qv 1)<|km _) z9)<|qa (zu (bF<|dD (vm<|ky .tuple rfl B.be rfl B.bi cQ<|qv 1)<|a9<|gL<|vm<|ky .tuple rfl B.be rfl B.bi cQ<|qv 0) (qd<|qz aS) z9)<|qa (zu (bF<|dD (vm<|ky .list rfl B.be rfl B.bb vv<|qv 1)<|a9<|gL<|vm<|ky .list rfl B.be rfl B.bb vv<|qv 0) (qd<|qz aS) z9)<|qa (zu (N_ g (L_ B.ba<|qv 0)<|L_ B.ba<|qv 1) (qd<|qz aS) z9)<|qa (aA wh rfl (wq rfl B.bf<|xh<|L_ B.ba<|qv 1) (G_ 2 hN)<|qd<|zu (gL<|vm<|C_ U j<|xm (I_ (qv 0)<|qv 2)<|I_ (qv 1)<|qv 2) (qd<|qz aS) z9)<|qd<|qz aS)⟩
noncomputable def S'(I:zh)(J:zh):vh:=(sI I J).1
noncomputable def jQ(U:zh)(j:zh)(g:zh)(I:zh)(J:zh):RD "_law_deep" dc 170 ["_law_tree_here","_law_number_here","_law_knots","_law_ends","_law_p","_law_word_here","_law_rule","_law_q","_law_same"] (λV=>IH V U/\IG V j/\Iy V g/\Iz V I/\IA V J):=⟨_,λV B c _ _ _ _ _ _ _ l hN o=>(qa (S_ 2 hN<|kq wf rfl B.bb vv<|xh<|J_ 0)<|qa (S_ 3 hN<|C_ c.1 l<|xh<|C_ c.2.1 l<|xh<|qv 0)<|qa (S_ 4 hN<|I_ (qv 3)<|qj jj (qv 1)<|L_ B.ba<|qv 3)<|qa (S_ 5 hN<|C_ c.2.2.1 l<|xm (qv 2)<|qv 4)<|qa (zu (jq yz (qj jh (qj fh qc<|C_ c.2.2.2.1 l<|xh<|qv 5)<|L_ B.ba<|qv 2) qc<|km _) (qd<|qz<|qv 0) z9)<|qa (cB (C_ c.2.2.2.2 l<|xm (qv 2)<|qv 5)<|Ir (n:=3) rfl<|zd (G_ 6 hN)<|zd (G_ 7 hN)<|zd (G_ 8 hN) vf)<|qa (zu (E_ o (qj jj (qj vg (qv 1) qc) qc) qc) (qd<|qz<|zf<|xm (qv 2)<|zf<|xz jx<|xz (qv 4)<|bO (qv 7) (J_ 0)<|qv 6) z9)<|qd<|qz<|zf<|xm (qv 2)<|zf<|xz jx<|xz (qv 7)<|bO (qv 4) (qv 6)<|J_ 0)⟩
noncomputable def sP(U:zh)(j:zh)(g:zh)(I:zh)(J:zh):vh:=(jQ U j g I J).1
noncomputable def gi(J:zh)(U:zh)(g:zh)(I:zh):RD "_law_grown" cf 173 ["_law_script","_law_stir_here","_law_wide","_law_tree_here"] (λV=>IQ V J/\Fh V U/\IR V g/\IK V I):=⟨_,λV B c _ _ _ _ _ _ _ j hN l=>(qa (S_ 3 hN<|C_ c.1 j<|bO (qv 0) (qv 1)<|qv 2)<|xu (zu (jq yz (qj jj (C_ c.2.1 j<|xm (qv 1) qc) qc) qc<|km _) (qd<|S_ 3 hN<|C_ c.2.2.1 j<|xm (qv 3)<|C_ c.2.1 j<|xm (qv 1) qc) z9)<|xu (zu (E_ l (qj jj (C_ c.2.1 j<|xm (qv 1) qc) qc) qc) (qd<|S_ 3 hN<|C_ c.2.2.1 j<|xm (qv 3)<|C_ c.2.1 j<|xm (qv 1) qc) z9)<|qd<|qz<|C_ c.2.2.2 j<|xm (qv 3)<|qv 1)⟩
noncomputable def qQ(J:zh)(U:zh)(g:zh)(I:zh):vh:=(gi J U g I).1
def ie:zh:=λys L Q=>∃i:Int,ys=[.int i]/\Q (.bl true) L
theorem zY:∀ys L Q,ie ys L Q->v9 nU 1 ys L Q:=by rintro ys L Q ⟨i,rfl,q⟩;exact x8 q
theorem yk(n:Nat):∀ys L Q,aI (n+1) ys L Q->v9 (S' ie<|aI n) 3 ys L Q:=by
 rintro ys L Q ⟨x,y,rfl,h,q⟩;rcases h with⟨f,rfl⟩|⟨I,ys,rfl,rfl,l,p⟩|⟨a,b,I,ys,rfl,rfl,h1,h2,l,p⟩
 ·cases y with
  |non=>exact x8 q
  |int i=>
   refine⟨i,rfl,x8 ?_⟩;show Q (.bl<|nb false<|decide<|i=i) L;rw[AM rfl];exact q
  |str i=>
   refine x8 ?_;show Q (.bl<|nb false<|decide<|i=i) L;rw[AM rfl];exact q
  |_=>cases f
 ·have j:=Paired.len p;walk_at "w";refine aZ (b:=nb true<|decide<|(I.length:Int)=ys.length) (by rw[j,AM rfl];rfl) ?_;refine⟨⟨A6 _,by lia⟩,?_⟩;rw[BG];refine gy (λi J U=>U=L/\∃c,J=[some<|.tup I,some<|.tup ys,c]) ⟨rfl,_,rfl⟩ ?_ ?_
  ·rintro i J U o ⟨rfl,c,rfl⟩;have g:I[i]?=some (I[i]'(by lia)):=Al (by lia);have ev:ys[i]?=some ys[i]:=Al o;have r:fQ I (0+(i:Int))=some (I[i]'(by lia)):=by rw[B4];exact jt g
   have t:fQ ys (0+(i:Int))=some ys[i]:=by rw[B4];exact jt ev
   walk_at "w";rw[r];walk_at "w";rw[t];exact⟨_,_,rfl,EK p g ev,_,EC _,rfl,_,rfl⟩
  ·rintro J U ⟨rfl,c,rfl⟩;exact x8 q
 ·have j:=Paired.len p;refine gu h2 ?_;walk_at "w";refine gu h2 ?_;walk_at "w";refine gu h2 ?_;walk_at "w";refine gu h2<|gu h1 ?_;walk_at "w";refine qb h1 (qb h2 (aZ (by rw[j,AM rfl];rfl) ?_));refine qb h2 ⟨⟨A6 _,by lia⟩,?_⟩;rw[BG];refine gy (λi J U=>U=L/\∃c,J=[some<|.ref a,some<|.ref b,c]) ⟨rfl,_,rfl⟩ ?_ ?_
  ·rintro i J U o ⟨rfl,c,rfl⟩;have g:I[i]?=some (I[i]'(by lia)):=Al (by lia);have ev:ys[i]?=some ys[i]:=Al o;have r:fQ I (0+(i:Int))=some (I[i]'(by lia)):=by rw[B4];exact jt g
   have t:fQ ys (0+(i:Int))=some ys[i]:=by rw[B4];exact jt ev
   refine qb h1<|qm r<|qb h2<|qm t ?_;exact⟨_,_,rfl,EK p g ev,_,EC _,rfl,_,rfl⟩
  ·rintro J U ⟨rfl,c,rfl⟩;exact x8 q
theorem Ta(h:m<=n)(I:n<=120):∀ys L Q,w4 m ys L Q->w4 n ys L Q:=by rintro ys L Q ⟨a,J,w,e,U,hd,_,z⟩;exact⟨a,J,w,e,U,by lia,I,z⟩
theorem iO.nd{E:List Nat}(T:iO ks R E):(z0 R).Nodup:=T.tp.nodup_iff.mpr CV
theorem iO.dep{E:List Nat}(T:iO ks R E):ve R<=96/\gb R<=96:=by have rd:=w5 R;have J:=aq R;have I:=T.tp.length_eq;have:=T.len;rw[BY] at I;exact⟨by lia,by lia⟩
theorem iO.pairs{E:List Nat}(T:iO ks R E):(zc R).Nodup/\(ze R).Nodup/\(∀p∈zc R,p.1<ks.length/\p.2<ks.length)/\∀p∈ze R,p.1<ks.length/\p.2<ks.length:=by
 have cu:=T.sr.cuts T.nd;refine⟨zx (T.sr.lkI T.nd).nd,zx cu.1,λp I=>?_,λp I=>?_⟩
 ·obtain⟨_,_,_,h1,h2⟩:=T.sr.links p I;exact⟨jb h1,jb h2⟩
 ·obtain⟨h1,h2⟩:=jo I;exact⟨T.sr.lt _ (cu.2 _ h1).2,T.sr.lt _ (cu.2 _ h2).2⟩
theorem iO.trO{E:List Nat}(T:iO ks R E):TrO ks R E/\l_ ks (z0 R)=ks.map some:=⟨⟨T.ok,T.sr,T.nd,T.len⟩,R8 λp I=>T.tp.mem_iff.mpr<|A7.mpr I⟩
theorem iO.open{E:List Nat}(T:iO ks R E)(I:ct.Perm<|ze R)(x:Nat):x∈a7 (ks.map some) (aP (ks.map some) ct) (ks.map some).length↔x∈E:=by
 obtain⟨TO,e⟩:=T.trO;rw[TO.ends x,e];unfold a7 jL gp aP;rw[AK,A7,Ag,Ba,CM,decide_eq_false_iff_not,Aj,(jd I).mem_iff,T.tp.mem_iff,A7];constructor
 ·rintro⟨a,b,c⟩;exact⟨a,λz=>c<|.inl z,λz=>c<|.inr z⟩
 ·rintro⟨a,b,c⟩;refine⟨a,?_,λz=>z.elim b c⟩;rw[Aq,Al a];rfl
theorem iO.cut{A:Ru}{E:List Nat}(T:iO ks R E){tp sp:Nat}{w:Wd}(j:p∈E)(hw:cM ks p w)(M:x_ ks w ms A tp sp)(C:ks.length+ms.length<=96):(∃U,iO (ks++ms) (.cu p tp R A) U)/\∃U,iO (ks++ms) (.cu tp p A R) U:=by
 have l:=M.sr.nod;have hs:sp≠tp:=λe=>by rw[e] at l;simp at l
 have ls:=(M.tm sp).mp<|M.sr.sub sp (by simp);have lE:∀x∈E,x<ks.length:=λx I=>T.sr.lt x<|T.sr.sub x I;have o:(E.filter (λx=>decide<|x≠p)++[sp]).Nodup:=Ar.mpr ⟨T.sr.nod.filter _,by simp,λx I y g e=>by rw[An.mp g] at e;have:=lE x (AK.mp I).1;lia⟩
 have r:∀x,x∈E.filter (λx=>decide<|x≠p)++[sp]↔(x∈E/\x≠p)\/(x∈[tp,sp]/\x≠tp):=λx=>by
  rw[Aj,AK,decide_eq_true_iff,An];constructor
  ·rintro(h|rfl)
   ·exact .inl h
   ·exact .inr ⟨by simp,hs⟩
  ·rintro(h|⟨h,n⟩)
   ·exact .inl h
   ·rcases Am.mp h with h|h
    ·exact(n h).elim
    ·exact .inr<|An.mp h
 have t:∀x,x∈z0 R↔x<ks.length:=λx=>by rw[T.tp.mem_iff,A7]
 have len:(ks++ms).length<=96:=by rw[Ad];exact C
 have tn:(z0 R++z0 A).Nodup:=Ar.mpr ⟨T.nd,M.nd,λx I y g e=>by have:=(t x).mp I;have:=(M.tm y).mp g;lia⟩
 have J:(z0 R++z0 A).Perm (List.range (ks++ms).length):=(A3 tn CV).mpr λx=>by rw[Aj,t,M.tm,A7,Ad];lia
 refine⟨⟨_,M.ok,.cu (T.sr.more ms) M.sr j (by simp) (hw.more ms) M.wt r o,J,len⟩,_,M.ok,.cu (w:=w.turn) M.sr (T.sr.more ms) (by simp) j M.wt (by rw[gf];exact hw.more ms) (λx=>(r x).trans Or.comm) o,AW.trans J,len⟩
theorem Wd.dep_size:∀w:Wd,w.depth<=w.size
 |.leaf _ _=>Ao _
 |.node _ l r=>by have:=Wd.dep_size l;have:=Wd.dep_size r;show max l.depth r.depth+1<=1+l.size+r.size;lia
def lL:zh:=λys L Q=>∃a,∃ks:List Kn,∃R:Ru,∃E:List Nat,∃num:Int,ys=[.tup [.ref a,zj R],.int num]/\L a=some (.lst<|jv ks)/\iO ks R E/\∀J I R' U L',qh L L'->L' J=some (.lst<|jv I)->iO I R' U->Q (.tup [.ref J,zj R']) L'
theorem Tb:∀ys L Q,lL ys L Q->v9 (sP pD kF (xg 120) (aH 120)<|w4 48) 9 ys L Q:=by
 rintro ys L Q ⟨a,I,R,E,num,rfl,ha,T,q⟩;have hz:=T.len;obtain⟨d1,d2⟩:=T.dep;obtain⟨n1,n2,b1,b2⟩:=T.pairs;refine qb ha λJ g=>?_;have j:=By (o:=.lst<|jv I) g;have g1:qi L J (.lst<|jv I) J=some (.lst<|jv I):=q9;generalize qi L J (.lst<|jv I)=L1 at j g1 ⊢;refine⟨a,jv I,R,rfl,j _ _ ha,by lia,by lia,n1,n2,λp U=>by have:=b1 p U;lia,λp U=>by have:=b2 p U;lia,λa' l' c' lk ct L2 s2 _ _ _ _ _ _ g2 _ g3 _ _ pc _=>?_⟩;refine⟨a',l',c',I.map some,ct,rfl,by rw[dm];exact g2,g3,by rw[Ag];lia,by rw[pc.length_eq];have:=ke R;lia,λp3 a3=>?_⟩;have op:=T.open pc;generalize a7 (I.map some) (aP (I.map some) ct) (I.map some).length=F at op ⊢;have nF:0<F.length:=by obtain⟨x,hx⟩:=DB<|T.sr.ends T.ok;exact List.length_pos_of_mem<|(op x).mpr hx
 have l:=s2.trans<|By (o:=.lst<|nY F) a3;have g4:qi L2 p3 (.lst<|nY F) p3=some (.lst<|nY F):=q9;generalize qi L2 p3 (.lst<|nY F)=L3 at l g4 ⊢;obtain⟨p,mp,ep⟩:∃r,r∈F/\fQ (nY F) (num % ((nY F).length:Int))=some (.int ((r:Nat):Int)):=gv nF num;refine qb g4 ⟨by rw[dP];exact El.mpr nF,qb g4<|qm ep ?_⟩;have U:=(op p).mp mp;have lp:=T.sr.lt p<|T.sr.sub p U;obtain⟨w,hw,a4,t⟩:=gN T.ok (p+1) p (by exact B1 _) lp;have k3:=l _ _ g1;refine⟨J,jv I,p,w,rfl,k3,hw,by lia,?_⟩;refine⟨w,rfl,by lia,.inl ⟨by decide,by decide⟩,qb k3 ?_⟩;have C:(jv I).length=I.length:=Ag ..;refine zp (λ_=>x8<|q a I R E L3 (j.trans l) (l _ _<|j _ _ ha) T) λcz=>?_;have cz:¬(2*(w.size:Int)+((jv I).length:Int) > 96):=cz;rw[C] at cz;have ds:=Wd.dep_size w;refine⟨J,I,w,rfl,k3,by lia,by decide,t,T.ok,by lia,λms A tp sp p5 a1 M=>?_⟩;have ml:=M.len;obtain⟨⟨E1,T1⟩,E2,T2⟩:=T.cut U hw M (by lia);have n5:J≠p5:=bx k3 a1;have nk:L J=none:=g;have s5:qh L (qi (qi L3 J<|.lst<|jv<|I++ms) p5<|.lst [zj A,.int ((tp:Nat):Int),.int ((sp:Nat):Int)]):=((j.trans l).upd nk).trans (By (by rw[qg<|AL n5];exact a1));have g5:qi (qi L3 J<|.lst<|jv<|I++ms) p5 (.lst [zj A,.int ((tp:Nat):Int),.int ((sp:Nat):Int)]) J=some (.lst<|jv<|I++ms):=(qg n5).trans q9;refine qw q9 ?_;generalize qi (qi L3 J<|.lst<|jv<|I++ms) p5 (.lst [zj A,.int ((tp:Nat):Int),.int ((sp:Nat):Int)])=L5 at s5 g5 ⊢;refine⟨⟨by decide,by decide⟩,(by decide:(0:Int)<2),zp (λ_=>?_) λ_=>?_⟩
 ·exact x8<|q J _ (.cu p tp R A) E1 L5 s5 g5 T1
 ·exact x8<|q J _ (.cu tp p A R) E2 L5 s5 g5 T2
def mW(Pt:Addr):zh:=λys L Q=>∃I:List Int,∃s:Int,∃w:Nat,∃wi:Int,ys=[.sq<|I.map Y.int,.int s,.int wi]/\wi=(w:Int)/\I.length<=63/\w<=96/\L Pt=some (.tb lamQ)/\∀ks R E wd f a L',qh L L'->L' a=some (.lst<|jz wd)->iO ks R E->yE f (ks.map some) wd->Q (.tup [.ref a,zj<|bX f R]) L'
theorem Tc :∀ys L Q,mW Pt ys L Q->v9 (qQ qT dO lL<|qK Pt) 4 ys L Q:=by
 rintro ys L Q ⟨j,s,w,wi,rfl,rfl,hn,hw,hP,q⟩;refine⟨j,s,w,_,rfl,rfl,hn,hw,λka I R E L1 s1 _ g1 T=>?_⟩;refine⟨λg J=>∃a I R E,g=[some<|.sq<|j.map Y.int,some<|.int s,some<|.int (w:Int),some<|.tup [.ref a,zj R]]/\qh L J/\J a=some (.lst<|jv I)/\iO I R E,?_,?_⟩
 ·refine⟨s,24680,rfl,by decide,by decide,λv _ _=>⟨(by decide:(0:Int)<8),zp (λ_=>?_) λ_=>⟨ka,I,R,E,rfl,s1,g1,T⟩⟩⟩;exact⟨s,1234577,rfl,by decide,by decide,λv _ _=>⟨ka,I,R,E,v,rfl,g1,T,λl U o p J r t C=>⟨l,U,o,p,rfl,s1.trans r,t,C⟩⟩⟩
 rintro g L2 ⟨a,I,R,E,rfl,s2,g2,T⟩;refine⟨λg J=>∃a I R E,g=[some<|.sq<|j.map Y.int,some<|.int s,some<|.int (w:Int),some<|.tup [.ref a,zj R]]/\qh L J/\J a=some (.lst<|jv I)/\iO I R E,?_,?_⟩
 ·refine⟨s,55667,rfl,by decide,by decide,λv _ _=>⟨(by decide:(0:Int)<3),zp (λ_=>?_) λ_=>⟨a,I,R,E,rfl,s2,g2,T⟩⟩⟩;exact⟨s,7654321,rfl,by decide,by decide,λv _ _=>⟨a,I,R,E,v,rfl,g2,T,λl U o p J r t C=>⟨l,U,o,p,rfl,s2.trans r,t,C⟩⟩⟩
 rintro g L3 ⟨a,I,R,E,rfl,s3,g3,T⟩;exact⟨a,I,R,E,s,rfl,g3,T,s3 _ _ hP,λw f wd hw rn=>x8<|q I R E wd f w _ (s3.trans<|By hw) q9 T rn⟩
theorem bE(f:Nat->Nat):∀R:Ru,zc (bX f R)=(zc R).map (Jk f)
 |.link _ _=>rfl
 |.ei _ A=>bE f A
 |.bo _ A B=>by show zc (bX f A)++zc (bX f B)=(zc A++zc B).map _;rw[bE f A,bE f B,AI]
 |.cu _ _ A B=>by show zc (bX f A)++zc (bX f B)=(zc A++zc B).map _;rw[bE f A,bE f B,AI]
theorem bR(f:Nat->Nat):∀R:Ru,ze (bX f R)=(ze R).map (Jl f)
 |.link _ _=>rfl
 |.ei _ A=>bR f A
 |.bo _ A B=>by show ze (bX f A)++ze (bX f B)=(ze A++ze B).map _;rw[bR f A,bR f B,AI]
 |.cu p q A B=>by show(f p,f q)::(ze (bX f A)++ze (bX f B))=((p,q)::(ze A++ze B)).map _;rw[bR f A,bR f B,AG,AI];rfl
structure bM(wd:List<|Option Kn)(ct:List<|Nat×Nat):Prop where
 pu:dU wd
 cw:∀c∈ct,∃w,KW (jz wd) c.1 w/\KW (jz wd) c.2 w.turn
 ctN:(plcs ct).Nodup
 ctP:∀x∈plcs ct,x∉xl wd
 ctS:ct.Pairwise ao
 wl:wd.length<=241
theorem bM.lt(I:bM wd ct){c:Nat×Nat}(hc:c∈ct):c.1<wd.length/\c.2<wd.length:=by obtain⟨w,h1,h2⟩:=I.cw c hc;obtain⟨_,J⟩:=h1.ex;obtain⟨_,U⟩:=h2.ex;exact⟨jb J,jb U⟩
theorem bM.len(I:bM wd ct):ct.length<=120:=by
 have:=kh wd.length _ I.ctN λx J=>by
  obtain⟨c,U,e⟩:=aw J;have:=I.lt U;rcases e with rfl|rfl
  ·exact this.1
  ·exact this.2
 rw[aO] at this;have:=I.wl;lia
theorem KW.leafI :∀{w:Wd} {p:Nat},KW (jz wd) p w->∃(q:Nat) (t:Bool) (n:Str),wd[q]?=some (some<|.lf t n)
 |.leaf t n,p,h=>⟨p,t,n,h.inv_lf⟩
 |.node e l r,p,h=>by obtain⟨i,j,_,I,_⟩:=h.inv_nd;exact I.leafI
theorem iO.cutI{E:List Nat}{f:Nat->Nat}(T:iO ks R E)(U:yE f (ks.map some) wd)(pl:lk.Perm<|zc<|bX f R)(a3:lk.Pairwise ao)(pc:ct.Perm<|ze<|bX f R)(a4:ct.Pairwise ao):bM wd ct/\iH wd lk:=by
 rw[bE] at pl;rw[bR] at pc;have nd:=T.nd;have hz:=T.len;have lt:∀x∈z0 R,x<ks.length:=λx g=>A7.mp<|T.tp.mem_iff.mp g;have N:=(T.sr.part nd).nodup_iff.mpr nd;obtain⟨N1,N2,N3⟩:=Ar.mp N;have U0:dU (ks.map some):=R5 N1 λp hp=>T.tp.mem_iff.mpr<|A7.mpr hp;have a1:=mD T.ok;have lo:(ks.map some).length=ks.length:=Ag ..;have ev:∀{p:Nat} {k:Kn},ks[p]?=some k->(ks.map some)[p]?=some (some k):=λh=>by rw[Aq,h];rfl
 have up:∀{p:Nat} {k:Kn},ks[p]?=some k->wd[f p]?=some (iV f<|some k):=λ{p k} h=>U.gap.at_ p (A7.mpr (by rw[lo];exact jb h)) _<|ev h;have inj:∀a b,a<ks.length->b<ks.length->f a=f b->a=b:=λa b ha hb=>U.inj (by lia) (by lia);have a5:∀x,x∈plcs ct->∃y,y∈plcs (ze R)/\x=f y:=λx g=>by have:=(jd pc).mem_iff.mp g;rw[kO] at this;obtain⟨y,J,e⟩:=BS.mp this;exact⟨y,J,e.symm⟩
 have l:∀y∈plcs (ze R),y<ks.length:=λy J=>lt y<|(T.sr.part nd).mem_iff.mp<|Ai _<|Ap _ J;have r:(plcs lk).Perm ((plcs<|zc R).map f):=(jd pl).trans<|qA f _;have gT:∀y∈plcs (zc R),y<ks.length:=λy J=>lt y (AK.mp<|T.sr.leaves.mem_iff.mp J).1;have wl:=U.len;have I:=T.sr.lkI nd;refine⟨⟨U0.ren a1 U,λc hc=>?_,?_,λx g z=>?_,a4,by lia⟩,λc hc=>?_,?_,λp=>?_,a3,?_,?_,by lia⟩
 ·obtain⟨c0,C,rfl⟩:=BS.mp<|pc.mem_iff.mp hc;obtain⟨w,w1,w2⟩:=T.sr.cutw c0 C;have e:∀{p w},cM ks p w->KW (jz<|ks.map some) p w:=λh=>by rw[dm];exact h
  exact⟨w,U.word<|e w1,U.word<|e w2⟩
 ·have e:(plcs ct).Perm ((plcs<|ze R).map f):=by rw[<-kO];exact jd pc
  exact e.nodup_iff.mpr<|cT (Ar.mp N2).1 λa ha b hb=>inj a b (l a ha)<|l b hb
 ·obtain⟨y,J,rfl⟩:=a5 x g;obtain⟨y',k,h1,h2⟩:=i7 z;obtain⟨p,o,a,_,h3,e,h4⟩:=U.part h1 h2;have la:=lC a1 h3 h4;have e1:ks[p]?=some o:=kW h3;cases inj _ _ (l y J) (by lia) e;exact N3 y (Bf.mpr ⟨p,T.tp.mem_iff.mpr<|A7.mpr<|jb e1,by rw[e1];exact h4⟩) y (Ap _ J) rfl
 ·obtain⟨c0,C,rfl⟩:=BS.mp<|pl.mem_iff.mp hc;obtain⟨t,n,h1,h2⟩:=I.at_ c0 C;exact im (up h1)<|up h2
 ·exact r.nodup_iff.mpr<|cT I.nd λa ha b hb=>inj a b (gT a ha)<|gT b hb
 ·rw[r.mem_iff,BS];constructor
  ·rintro⟨y,J,rfl⟩;have:=(AK.mp<|T.sr.leaves.mem_iff.mp J).2;cases e:ks[y]? with
   |none=>rw[e] at this;cases this
   |some k=>
    cases k with|lf t n=>exact⟨t,n,up e⟩|nd b i j=>rw[e] at this;cases this
  ·rintro⟨t,n,h⟩;obtain⟨y,J,rfl,o,eo,ek⟩:=U.inv h;cases o with
   |none=>cases ek
   |some o=>
    cases o with
    |nd b i j=>cases ek
    |lf t' n'=>
     have e1:=kW eo;exact⟨y,T.sr.leaves.mem_iff.mpr (AK.mpr ⟨T.tp.mem_iff.mpr<|A7.mpr<|jb e1,by rw[e1];rfl⟩),rfl⟩
 ·have h1:=pl.length_eq;have h2:=kh _ _ I.nd gT;rw[Ag] at h1;rw[aO] at h2;lia
 ·intro z;obtain⟨x,g⟩:=DB<|T.sr.ends T.ok;have lx:=T.sr.lt x<|T.sr.sub x g;obtain⟨w,hw,_⟩:=gN T.ok (x+1) x (by exact B1 _) lx;have hw:KW (jz<|ks.map some) x w:=by rw[dm];exact hw
  obtain⟨q,t,n,h⟩:=hw.leafI;have:=T.sr.leaves.mem_iff.mpr (AK.mpr ⟨T.tp.mem_iff.mpr<|A7.mpr<|jb<|kW h,by rw[kW h];rfl⟩);have:=r.mem_iff.mpr<|BS.mpr ⟨q,this,rfl⟩;rw[z] at this;cases this
noncomputable def hX:RD "partner_of" cZ 0 ["links","place","p","q"] (λ_=>True):=⟨_,λV B c _ _ _ _ _ _ _ J hN I=>(qa (aA wh rfl (aB<|qv 0) (aD (n:=2) rfl<|zd (G_ 2 hN)<|zd (G_ 3 hN) vf)<|qa (zu (E_ I (qv 2)<|qv 1) (qd<|qz<|qv 3) z9)<|qd<|zu (E_ I (qv 3)<|qv 1) (qd<|qz<|qv 2) z9)<|qd<|qz eM)⟩
noncomputable def pQ:vh:=(hX).1
def Jt(J:Addr)(E3:X3)(I:zh):vh:=(zn (x5 (jk I<|bN (qf 0)<|qf 1)<|qp 3)
 (zn (x5 (jk I<|bN (qf 0)<|qf 2)<|qp 4)
 (zn (aG (o_ (qf 3)<|qf 2) (u9 J E3<|qk (Im<|iL (f' "the places ")<|iL (Gp<|qf 1)<|iL (f' " and ")<|iL (Gp<|qf 2)<|iL (f' " of the cut are linked with one another") Il) je) vz)
 (zn (x5 (s_ 1 (dr<|qf 0) (qp 6) (yj (yB<|xx (iA true) (qf 1)<|qf 6)<|yB<|xx (iA true) (qf 2)<|qf 6)<|qf 6)<|qp 5)
 (we<|cL kj<|qk (xx bw (qf 5)<|gK<|qk (aC<|qk (cL nj<|bN (qf 3)<|qf 4)<|qk (cL l7<|bN (qf 3)<|qf 4) je) je) je)))))
theorem uQ:∀k:Nat,k<242->(toString ((k:Nat):Int):Str).length<=10:=by decide +kernel
theorem rZ:∀k:Nat,k<242->((k:Nat):Int).natAbs.log2<1920:=by decide +kernel
theorem kJ(nd:(plcs lk).Nodup){z:Nat×Nat}(hz:z∈lk):z.1≠z.2:=by obtain⟨a,b,rfl⟩:=Cg hz;rw[jm,za] at nd;have:=(Ar.mp nd).2.1;simp at this;exact this.1.1
theorem wI(nd:(plcs lk).Nodup){z:Nat×Nat}(hz:z∈lk){x:Nat}(o:fj p x z):p≠x:=by
 have:=kJ nd hz;rcases o with rfl|rfl
 ·exact this
 ·exact AL this
def dJ:zh:=λys L Q=>∃l,∃lk:List (Nat×Nat),∃p x:Nat,∃z:Nat×Nat,ys=[.ref l,.int (p:Int)]/\L l=some (.lst<|qt lk)/\(plcs lk).Nodup/\z∈lk/\fj p x z/\Q (.int (x:Int)) L
theorem uu:∀ys L Q,dJ ys L Q->v9 pQ 4 ys L Q:=by
 rintro ys L Q ⟨l,lk,p,x,z,rfl,T,nd,U,o,q⟩;have J:=wI nd U o;refine ku T λkeep kp=>wz ⟨λi g j=>∃c2 c3,g=[some<|.ref l,some<|.int (p:Int),c2,c3]/\j=L/\∀y∈lk.take i,¬(p=y.1\/p=y.2),⟨_,_,rfl,rfl,nofun⟩,?_,?_,?_⟩
 ·rintro i g j ⟨c2,c3,rfl,rfl,_⟩;exact kp _ rfl
 ·rintro i y g j r ⟨c2,c3,rfl,rfl,no⟩;rw[Aq] at r;obtain⟨y,t,rfl⟩:=AA.mp r;have C:=Az t;refine zp (λh=>?_) λh1=>zp (λh=>?_) λh2=>?_
  ·have h:y.1=p:=BK.mp h;cases aN nd C U (.inl h.symm) o.mem;rcases o with rfl|rfl
   ·exact x8 q
   ·exact(J h.symm).elim
  ·have h:y.2=p:=BK.mp h;cases aN nd C U (.inr h.symm) o.mem;rcases o with rfl|rfl
   ·exact(J h.symm).elim
   ·exact x8 q
  ·refine⟨_,EC _,_,_,rfl,rfl,λu I=>?_⟩;rw[Bo,t] at I;rcases Aj.mp I with I|I
   ·exact no u I
   ·rw[An.mp I];rintro(e|e)
    ·exact h1<|BF Nat.cast e.symm
    ·exact h2<|BF Nat.cast e.symm
 ·rintro g j ⟨c2,c3,rfl,rfl,no⟩;rw[Ag,BC] at no;exact(no z U o.mem).elim
theorem zK{lk:List<|Nat×Nat}{x:Nat}{I:Nat×Nat}(ne:p≠q)(J:fj p x I)(h:q=I.1\/q=I.2):x=q:=by
 rcases J with rfl|rfl<;>rcases h with h|h<;>simp only at h
 ·exact(ne h.symm).elim
 ·exact h.symm
 ·exact h.symm
 ·exact(ne h.symm).elim
theorem i5(nd:(plcs lk).Nodup){x y:Nat}{I J:Nat×Nat}(U:I∈lk)(g:J∈lk)(ne:I≠J)(j:fj p x I)(l:fj q y J):(plcs lk).Perm (p::q::plcs (lk.filter (jr p q)++[bH x y])):=by
 rcases tK nd U g j.mem l.mem with⟨e,_⟩|⟨_,e,_⟩
 ·exact(ne e).elim
 have pm:=jd<|gU (zx nd) U g ne;rw[za,za] at pm;rw[e];refine(pm.trans<|j.plcs _).trans (List.Perm.cons p ?_);rw[jm,v4];refine((l.plcs _).cons x).trans ((List.Perm.swap ..).trans<|List.Perm.cons q ?_);exact(dC x y _).symm.trans (AW (l₁:=[min x y,max x y]))
def pF(C:Addr):cK:=λys L Q E=>∃l,∃lk:List (Nat×Nat),∃p q x y:Nat,∃I J:Nat×Nat,ys=[.ref l,.int (p:Int),.int (q:Int)]/\L l=some (.lst<|qt lk)/\(plcs lk).Nodup/\lk.length<=60/\(∀c∈plcs lk,c<242)/\I∈lk/\J∈lk/\p≠q/\fj p x I/\fj q y J/\(x=q->E C L)/\
 (I≠J->∀D qs L',qh L L'->L D=none->L' D=some (.lst<|qt qs)->qs.Perm (lk.filter (jr p q)++[bH x y])->qs.Pairwise ao->Q (.ref D) L')
theorem Td :∀ys L Q E,pF C ys L Q E->v9 (Jt C (rC E) dJ) 6 ys L Q:=by
 rintro ys L Q E ⟨l,lk,p,q,x,y,x0,y0,rfl,hl,nd,hz,lt,hx,I,a1,g,j,qe,qq⟩;have big:=a_;have pl:∀l:List (Nat×Nat),(qt l).length=l.length:=λl=>Ag ..;have J:∀{p:Nat} {z:Nat×Nat},z∈lk->(p=z.1\/p=z.2)->p∈plcs lk:=λhz h=>by rcases h with rfl|rfl;exact(jo hz).1;exact(jo hz).2
 refine⟨l,lk,p,x,x0,rfl,hl,nd,hx,g,⟨l,lk,q,y,y0,rfl,hl,nd,I,j,zp (λh=>?_) λh=>?_⟩⟩
 ·have h:x=q:=BK.mp h;have lp:=lt p<|J hx g.mem;have lq:=lt q<|J I j.mem;have sl:=uQ p lp;have sm:=uQ q lq;have ap:∀a b:Str,(a++b).length=a.length+b.length:=λa b=>BQ;have l1:(Str.empty++Str.ofString "the places ").length=11:=by decide
  have l2:(Str.ofString " and ").length=5:=by decide
  have l3:(Str.ofString " of the cut are linked with one another").length=39:=by decide
  have a4:=RX;refine⟨by decide,rZ p lp,?_,?_,rZ q lq,?_,?_,?_,by show 1<=1000;decide,L,EC _,qe h⟩
  ·rw[ap];omega
  ·rw[ap,ap];omega
  ·rw[ap,ap,ap];omega
  ·rw[ap,ap,ap,ap];omega
  ·rw[ap,ap,ap,ap];omega
 have h:¬x=q:=λe=>h<|BF Nat.cast e;have ne:x0≠y0:=λe=>h<|zK (lk:=lk) a1 g<|e▸j.mem;have jp:=i5 nd hx I ne g j;refine ku hl λkeep kp=>gD (λi U=>U=qt ((lk.take i).filter<|jr p q)) (by rw[pl];exact big _ (by lia)) (kp _ rfl) rfl ?_ ?_
 ·rintro i y U I rfl;rw[Aq] at I;obtain⟨z,ez,rfl⟩:=AA.mp I;have no:jr p q z=false->db (λU L'=>L'=L/\U=qt ((lk.take<|i+1).filter<|jr p q)) (qt<|(lk.take i).filter<|jr p q) L:=λe=>⟨_,EC _,rfl,by rw[Bo,ez,Bp,Df,B7 (by rw[e];decide),BZ,AD]⟩;refine⟨rfl,rfl,?_⟩;show vt (!(rO (fU<|.int (p:Int))<|([.int (z.1:Int),.int (z.2:Int)]:List Y).map fU)) _ _;rw[bQ];by_cases r:p=z.1\/p=z.2
  ·exact aZ (by rw[AM r];rfl) (no (by unfold jr;rw[AM r];rfl))
  refine iP (by rw[AE r];rfl) ⟨rfl,rfl,?_⟩;show vt (!(rO (fU<|.int (q:Int))<|([.int (z.1:Int),.int (z.2:Int)]:List Y).map fU)) _ _;rw[bQ];by_cases t:q=z.1\/q=z.2
  ·exact aZ (by rw[AM t];rfl) (no (by unfold jr;rw[AM t,Bool.or_true];rfl))
  refine iP (by rw[AE t];rfl) ⟨_,EC _,rfl,?_⟩;rw[Bo,ez,Bp,Df,B8 (by unfold jr;rw[AE r,AE t];rfl),BZ,vn]
 rintro U rfl T h5;rw[pl,BC];have fl:=B0 (jr p q) lk;have s5:=By (o:=.lst<|qt<|lk.filter<|jr p q) h5;have g5:qi L T (.lst<|qt<|lk.filter<|jr p q) T=some (.lst<|qt<|lk.filter<|jr p q):=q9;generalize qi L T (.lst<|qt<|lk.filter<|jr p q)=L5 at s5 g5 ⊢;intro p6 h6;rw[lg];show bw (.ref T) (.ref p6) (qi L5 p6<|.lst [h_<|bH x y]) λz L'=>kj [z] L'<|ip Q;have s6:=By (o:=.lst [h_<|bH x y]) h6;refine⟨_,_,s6 _ _ g5,q9,by rw[pl];exact BL (big _ (by show _+1<=_;lia)),λp7 h7=>?_⟩;have s7:=s5.trans<|s6.trans<|By (o:=.lst<|qt (lk.filter<|jr p q)++[h_<|bH x y]) h7;have a3:=jp.nodup_iff.mp nd;refine oY (ps:=lk.filter (jr p q)++[bH x y]) (by rw[q9,vn]) (λd hd=>?_) (zx (Aw.mp (Aw.mp a3).2).2) (by rw[Ad];show _+1<=_;lia) λD qs hD pm pw=>x8<|qq ne D qs _ (s7.trans<|By hD) (s7.none hD) q9 pm pw;have:=lt d.2<|jp.mem_iff.mpr<|Ac _<|Ac _ (jo hd).2;lia
def xY(I:Addr)(E3:X3)(J:zh)(p1:cK)(p2:zh):vh:=(zn (x5 (wx 0 2)<|qp 2)
 (zn (aG (wC<|yB<|wA (bJ 0)<|Go O7 (qf 1)<|Gn Gh<|qR 2) (u9 I E3<|aX<|f' "no cut has that number") vz)
 (zn (x5 (cL cY<|aX<|wx 0 0)<|qp 3)
 (zn (x5 (xx fY (xx fY (qf 2)<|qf 1)<|bJ 0)<|qp 4)
 (zn (x5 (xx fY (xx fY (qf 2)<|qf 1)<|bJ 1)<|qp 5)
 (zn (x5 (E6 (yB<|jk J<|qk (xx fY (qf 3)<|qf 4) je) (ft p1 E3<|qk (wx 0 1)<|bN (qf 4)<|qf 5)<|cL cY<|aX<|wx 0 1)<|qp 6)
 (zn (x5 (u5<|qk (jk p2<|qk (xx fY (qf 3)<|qf 4) je)<|qk (jk p2<|qk (xx fY (qf 3)<|qf 5) je) je)<|qp 7)
 (zn (rQ (qf 3) (qf 4)<|yC .non)
 (zn (rQ (qf 3) (qf 5)<|yC .non)
 (we<|aC<|qk (qf 3)<|qk (qf 6)<|qk (cL kj<|qk (xx bw (xx bw (E8 Fc (qf 2) gj<|rc<|qf 1)<|E8 Fc (qf 2) (rc<|xx bw (qf 1)<|bJ 1) gj)<|qf 7) je) je))))))))))
def Te(E3:X3)(I:zh):vh:=(zn (x5 (u5<|qk (jk I<|qk (xx fY (qf 3)<|qf 4) je)<|qk (jk I<|qk (xx fY (qf 3)<|qf 5) je) je)<|qp 7)
 (zn (rQ (qf 3) (qf 4)<|yC .non)
 (zn (rQ (qf 3) (qf 5)<|yC .non)
 (we<|aC<|qk (qf 3)<|qk (qf 6)<|qk (cL kj<|qk (xx bw (xx bw (E8 Fc (qf 2) gj<|rc<|qf 1)<|E8 Fc (qf 2) (rc<|xx bw (qf 1)<|bJ 1) gj)<|qf 7) je) je))))
def gone2(wd:List<|Option Kn)(x:Nat×Nat):List (Option Kn):=(wd.set x.1 none).set x.2 none
def bz(wd:List<|Option Kn)(x:Nat×Nat):List (Nat×Nat):=(zq<|wd[x.1]?.getD none).zip<|zq<|wd[x.2]?.getD none
theorem bM.two(I:bM wd ct){x:Nat×Nat}(p:x∈ct):(∃t n,wd[x.1]?=some (some<|.lf t n)/\wd[x.2]?=some (some<|.lf (!t) n)/\bz wd x=[])\/∃e i j g o,wd[x.1]?=some (some<|.nd e i j)/\wd[x.2]?=some (some<|.nd (!e) g o)/\bz wd x=[(i,g),(j,o)]:=by
 obtain⟨w,h1,h2⟩:=I.cw x p;unfold bz;cases w with
 |leaf t n=>
  have J:=h1.inv_lf;have U:=h2.inv_lf;exact .inl ⟨t,n,J,U,by rw[J,U];rfl⟩
 |node e l r=>
  obtain⟨i,j,J,_⟩:=h1.inv_nd;obtain⟨g,o,U,_⟩:=h2.inv_nd;exact .inr ⟨e,i,j,g,o,J,U,by rw[J,U];rfl⟩
theorem lv{e:Bool}(h:wd[p]?=some (some<|.nd e i j)):i∈xl wd/\j∈xl wd:=⟨Bf.mpr ⟨_,Az h,Ak⟩,Bf.mpr ⟨_,Az h,Ac _ Ak⟩⟩
theorem bM.ins(I:bM wd ct){k:Nat}{x:Nat×Nat}(ex:ct[k]?=some x):(ct.eraseIdx k++bz wd x).Nodup/\(∀c∈ct.eraseIdx k++bz wd x,c.2<1000000)/\(ct.eraseIdx k++bz wd x).length<=127:=by
 have T:=Az ex;have sub:=Dv ct k;have cl:=I.len;have wl:=I.wl;have lt:∀c∈ct.eraseIdx k,c.2<1000000:=λc J=>by have:=I.lt<|sub.subset J;lia
 have nd:=sub.nodup<|zx I.ctN;have le:=sub.length_le;rcases I.two T with⟨t,n,_,_,e⟩|⟨e,i,j,i',j',g,e2,ei⟩
 ·rw[e,AD];exact⟨nd,lt,by lia⟩
 ·obtain⟨w,h1,h2⟩:=I.cw x T;cases w with
  |leaf t n=>have:=h1.inv_lf;rw[g] at this;cases this
  |node b l r=>
   obtain⟨i2,j2,U,o,p⟩:=h2.inv_nd;rw[e2] at U;obtain⟨rfl,rfl⟩:i'=i2/\j'=j2:=by injection U with U;injection U with U;injection U with _ a b;exact⟨a,b⟩
   obtain⟨_,z1⟩:=o.ex;obtain⟨_,z2⟩:=p.ex;have l1:=jb z1;have l2:=jb z2;have ne:=I.pu.ne _ _ _ _ g;rw[ei];refine⟨Ar.mpr ⟨nd,by simp;intro h;exact(ne h).elim,λc J d hd z=>?_⟩,λc J=>?_,by rw[Ad];show _+2<=_;lia⟩
   ·subst z;have C:=I.ctP _ (jo<|sub.subset J).1;rcases Am.mp hd with rfl|hd
    ·exact C (lv g).1
    ·rw[An.mp hd] at C;exact C (lv g).2
   ·rcases Aj.mp J with J|J
    ·exact lt c J
    ·rcases Am.mp J with rfl|J
     ·show i'<_;lia
     ·rw[An.mp J];show j'<_;lia
theorem xW(wd:List<|Option Kn)(p:Nat):(jz wd).set p .non=jz (wd.set p none):=by unfold jz;rw[List.map_set];rfl
theorem wL{M:qo}{J U c:Addr}{k:Nat}{x:Nat×Nat}{E3:X3}(I:bM wd ct)(ex:ct[k]?=some x)(s:qh L M)(na:L J=none)(nl:L U=none)(n1:J≠U)(k1:M J=some (.lst<|jz wd))(k2:M U=some (.lst<|qt fv))(k3:M c=some (.lst<|qt ct))(nc:J≠c)
 (q:∀ir c' L',qh L L'->L c'=none->J≠c'->U≠c'->L' J=some (.lst<|jz<|gone2 wd x)->L' U=some (.lst<|qt fv)->L' c'=some (.lst<|qt ir)->ir.Perm (ct.eraseIdx k++bz wd x)->ir.Pairwise ao->En.rt (xi J U c') L'):
 Te E3 eF En [c0,some<|.int (k:Int),some<|.ref c,some<|.ref J,some<|.int (x.1:Int),some<|.int (x.2:Int),some<|.ref U,c7] M:=by
 have big:=a_;have pl:∀l:List (Nat×Nat),(qt l).length=l.length:=λl=>Ag ..;have hx:=Az ex;have hk:=jb ex;obtain⟨lx,ly⟩:=I.lt hx;obtain⟨nd,lt,le⟩:=I.ins ex;have cl:=I.len;have e1:wd[x.1]?=some wd[x.1]:=Al lx;have e2:wd[x.2]?=some wd[x.2]:=Al ly;have ei:bz wd x=(zq wd[x.1]).zip (zq wd[x.2]):=by unfold bz;rw[e1,e2];rfl
 have ez:Gj (nY<|zq wd[x.1]) (nY<|zq wd[x.2])=qt (bz wd x):=by
  rw[ei];generalize wd[x.1]=u;generalize wd[x.2]=v;cases u with
  |none=>rfl
  |some u=>
   cases u with
   |lf t n=>rfl
   |nd e i j=>
    cases v with|none=>rfl|some v=>cases v<;>rfl
 refine qb k1<|qm (kw e1) ⟨_,rfl,λC h1=>?_⟩;have T:=By (o:=.lst<|nY<|zq wd[x.1]) h1;have g1:qi M C (.lst<|nY<|zq wd[x.1]) C=some (.lst<|nY<|zq wd[x.1]):=q9;generalize qi M C (.lst<|nY<|zq wd[x.1])=M1 at T g1 ⊢;refine qb (T _ _ k1)<|qm (kw e2) ⟨_,rfl,λp2 h2=>?_⟩;have s2:=T.trans<|By (o:=.lst<|nY<|zq wd[x.2]) h2;refine qb (By h2 _ _ g1)<|qb q9 λg h3=>?_;rw[ez];have p:=s2.trans<|By (o:=.lst<|qt<|bz wd x) h3;have g3:qi (qi M1 p2<|.lst<|nY<|zq wd[x.2]) g (.lst<|qt<|bz wd x) g=some (.lst<|qt<|bz wd x):=q9;generalize qi (qi M1 p2<|.lst<|nY<|zq wd[x.2]) g (.lst<|qt<|bz wd x)=M3 at p g3 ⊢;have j1:=p _ _ k1;have a1:J≠g:=λe=>by have:=(s.trans s2).none h3;subst e;have:=s2 _ _ k1;rw[this] at h3;cases h3
 refine qw j1 (qm (by rw[cj];exact xK lx:yo (jz wd).length (x.1:Int)=some x.1) ?_);rw[xW];refine qw q9 (qm (by rw[cj,BA];exact xK ly:yo (jz<|wd.set x.1 none).length (x.2:Int)=some x.2) ?_);rw[xW,x4];have s4:qh L (qi M3 J<|.lst<|jz<|gone2 wd x):=(s.trans p).upd na;have j4:qi M3 J (.lst<|jz<|gone2 wd x) J=some (.lst<|jz<|gone2 wd x):=q9;have j5:=(qg (o:=.lst<|jz<|gone2 wd x)<|AL n1).trans<|p _ _ k2;have j6:=(qg (o:=.lst<|jz<|gone2 wd x)<|AL nc).trans<|p _ _ k3;have j7:=(qg (o:=.lst<|jz<|gone2 wd x)<|AL a1).trans g3;rw[show(wd.set x.1 none).set x.2 none=gone2 wd x from rfl];generalize qi M3 J (.lst<|jz<|gone2 wd x)=M4 at s4 j4 j5 j6 j7 ⊢;refine qw j6 λr h5=>?_;rw[Pb];have s5:=By (o:=.lst<|(qt ct).take k) h5;have g5:qi M4 r (.lst<|(qt ct).take k) r=some (.lst<|(qt ct).take k):=q9;generalize qi M4 r (.lst<|(qt ct).take k)=M5 at s5 g5 ⊢;refine qw (s5 _ _ j6) λp6 h6=>?_;have ek:((k:Int)+1)=((k+1:Nat):Int):=by lia
 show bw (.ref r) (.ref p6) (qi M5 p6<|.lst<|fq (qt ct) (some<|(k:Int)+1) none) λy L2=>bw y (.ref g) L2 λz L3=>kj [z] L3 λz' L4=>En.rt (.tup [.ref J,.ref U,z']) L4;rw[ek,yQ];have s6:=s5.trans<|By (o:=.lst<|(qt ct).drop<|k+1) h6;refine⟨_,_,By h6 _ _ g5,q9,by rw[AY,BM,pl];exact BL<|big _ (by lia),λp7 h7=>?_⟩;have ee:(qt ct).take k++(qt ct).drop (k+1)=qt (ct.eraseIdx k):=by unfold qt;rw[List.eraseIdx_eq_take_drop_succ,AI,List.map_take,List.map_drop]
 rw[ee];have lE:=(Dv ct k).length_le;have s7:=s6.trans<|By (o:=.lst<|qt<|ct.eraseIdx k) h7;refine⟨_,_,q9,s7 _ _ j7,by rw[pl,pl];rw[Ad] at le;exact BL<|big _ (by lia),λp8 h8=>?_⟩;have s8:=s7.trans<|By (o:=.lst<|qt (ct.eraseIdx k)++qt (bz wd x)) h8;refine oY (ps:=ct.eraseIdx k++bz wd x) (by rw[q9];unfold qt;rw[AI]) lt nd (by lia) λD ir hD pm pw=>?_;have s9:=s8.trans<|By (o:=.lst<|qt ir) hD;have nD:=s8.none hD;exact q ir D _ (s4.trans s9) (s4.none nD) (bx j4 nD) (bx j5 nD) (s9 _ _ j4) (s9 _ _ j5) q9 pm pw
structure pJ(wd:List<|Option Kn)(lk:List<|Nat×Nat):Prop where
 lkA:∀c∈lk,c.1<c.2/\∃t n,wd[c.1]?=some (some<|.lf t n)/\wd[c.2]?=some (some<|.lf (!t) n)
 lkN:(plcs lk).Nodup
 lkL:∀p,p∈plcs lk↔∃t n,wd[p]?=some (some<|.lf t n)
 lkS:lk.Pairwise ao
 ll:lk.length<=60
theorem iH.c(I:iH wd lk):pJ wd lk:=⟨I.lkA,I.lkN,I.lkL,I.lkS,I.ll⟩
def vL(wd:List<|Option Kn)(lk:List<|Nat×Nat)(x:Nat×Nat)(fv:List<|Nat×Nat):Prop:=
 ((∃e i j,wd[x.1]?=some (some<|.nd e i j))/\fv=lk)\/∃t n I J u v,wd[x.1]?=some (some<|.lf t n)/\I∈lk/\J∈lk/\I≠J/\fj x.1 u I/\fj x.2 v J/\fv.Perm (lk.filter (jr x.1 x.2)++[bH u v])/\fv.Pairwise ao
def Ju(lk:List<|Nat×Nat)(x:Nat×Nat):Prop:=∃z∈lk,fj x.1 x.2 z
theorem Tf(nd:(plcs lk).Nodup){z y:Nat×Nat}(hz:z∈lk)(I:y∈lk){x:Nat}(o:fj p x z)(o':fj p q y):x=q/\z=y:=by
 cases aN nd hz I o.mem o'.mem;have:=wI nd hz o;refine⟨?_,rfl⟩;rcases o with rfl|rfl<;>rcases o' with h|h<;>injection h with h1 h2
 ·exact(this h2.symm).elim
 ·exact(this h1.symm).elim
def dg(C:Addr):cK:=λys L Q E=>∃a l c,∃wd:List (Option Kn),∃lk ct:List (Nat×Nat),∃ki:Int,ys=[xi a l c,.int ki]/\L a=some (.lst<|jz wd)/\L l=some (.lst<|qt lk)/\L c=some (.lst<|qt ct)/\bM wd ct/\pJ wd lk/\
 ((∀(k:Nat) (x:Nat×Nat),ki=(k:Int)->ct[k]?=some x->Ju lk x)->E C L)/\∀(k:Nat) (x:Nat×Nat),ki=(k:Int)->ct[k]?=some x->
   ∀fv ir I J c' L',qh L L'->L I=none->L J=none->L c'=none->I≠J->I≠c'->J≠c'->L' I=some (.lst<|jz<|gone2 wd x)->L' J=some (.lst<|qt fv)->L' c'=some (.lst<|qt ir)->vL wd lk x fv->ir.Perm (ct.eraseIdx k++bz wd x)->ir.Pairwise ao->Q (xi I J c') L'
theorem Tg :∀ys L Q E,dg C ys L Q E->v9 (xY C (rC E) wm (pF C) eF) 8 ys L Q:=by
 rintro ys L Q E ⟨a,l,c,wd,lk,ct,ki,rfl,ha,hl,hc,I,J,qe,q⟩;have pl:∀l:List (Nat×Nat),(qt l).length=l.length:=λl=>Ag ..;cases ki with
 |negSucc n=>exact⟨by decide,L,EC _,qe λk x e=>by cases e⟩
 |ofNat k=>
  refine qb hc<|Jm (b:=!decide ((k:Int)<((qt ct).length:Int))) (λh=>?_) λh=>?_
  ·exact⟨by decide,L,EC _,qe λk' x e ex=>by cases BK.mp e;rw[pl] at h;simp at h;exact absurd (jb ex)<|Nat.not_lt.mpr h⟩
  have hk:k<ct.length:=by rw[pl] at h;simp at h;exact h
  have ex:ct[k]?=some ct[k]:=Al hk;generalize ct[k]=x at ex;have q2:=q k x rfl ex;have hx:=Az ex;have a5:∀{r:Addr},L r=none->r≠c:=λh e=>by subst e;rw[hc] at h;cases h
  refine qb ha λr U=>?_;have g:=By (o:=.lst<|jz wd) U;have g1:qi L r (.lst<|jz wd) r=some (.lst<|jz wd):=q9;generalize qi L r (.lst<|jz wd)=L1 at g g1 ⊢;have ax:fQ (qt ct) (k:Int)=some (h_ x):=jt<|gH ex;have c1:=g _ _ hc;refine qb c1<|qm ax<|qb c1<|qm ax ?_;rcases I.two hx with⟨t,n,e1,e2,_⟩|⟨e,i,j,i',j',e1,e2,_⟩
  ·refine qb g1<|qm (kw e1) ⟨true,t,_,rfl,?_⟩;obtain⟨x0,mx,ox⟩:=aw<|(J.lkL x.1).mpr ⟨t,n,e1⟩;obtain⟨y0,my,oy⟩:=aw<|(J.lkL x.2).mpr ⟨_,n,e2⟩;obtain⟨u,ou⟩:=qM ox;obtain⟨v,ov⟩:=qM oy;have wl:=I.wl;have lt:∀p∈plcs lk,p<242:=λp hp=>by obtain⟨_,_,e⟩:=(J.lkL p).mp hp;have:=jb e;lia
   refine⟨l,lk,x.1,x.2,u,v,x0,y0,rfl,g _ _ hl,J.lkN,J.ll,lt,mx,my,kJ I.ctN hx,ou,ov,λe=>⟨L,g,qe λk' x' e' ac=>by cases BK.mp e';rw[ex] at ac;cases ac;exact⟨x0,mx,e▸ou⟩⟩,λne D al L2 s2 T g2 pm pw=>?_⟩;have n1:r≠D:=bx g1 T;exact wL (E3:=rC E) I ex (g.trans s2) U (g.none T) n1 (s2 _ _ g1) g2 (s2 _ _ c1) (a5 U) λa1 c' L' t1 t2 t3 t4 t5 t6 t7 a3 a4=>x8<|q2 al a1 r D c' L' t1 U (g.none T) t2 n1 t3 t4 t5 t6 t7 (.inr ⟨t,n,x0,y0,u,v,e1,mx,my,ne,ou,ov,pm,pw⟩) a3 a4
  ·refine qb g1<|qm (kw e1) ⟨false,e,_,rfl,?_⟩;refine qb (g _ _ hl) λD T=>?_;have n1:r≠D:=bx g1 T;have s2:=By (o:=.lst<|qt lk) T;exact wL (E3:=rC E) I ex (g.trans s2) U (g.none T) n1 (s2 _ _ g1) q9 (s2 _ _ c1) (a5 U) λa1 c' L' t1 t2 t3 t4 t5 t6 t7 a3 a4=>x8<|q2 lk a1 r D c' L' t1 U (g.none T) t2 n1 t3 t4 t5 t6 t7 (.inl ⟨⟨_,_,_,e1⟩,rfl⟩) a3 a4
theorem yZ(wd:List<|Option Kn)(x:Nat×Nat):(gone2 wd x).length=wd.length:=by unfold gone2;rw[BA,BA]
theorem KW.gone{wd:List<|Option Kn}{a:Nat}(I:a∉xl wd):∀{w:Wd} {p:Nat},p≠a->KW (jz wd) p w->KW (jz<|wd.set a none) p w
 |.leaf t n,p,J,h=>KW.lf (by rw[Bd<|AL J];exact h.inv_lf)
 |.node e l r,p,J,h=>by obtain⟨i,j,U,h1,h2⟩:=h.inv_nd;obtain⟨g,o⟩:=lv U;exact KW.nd (by rw[Bd<|AL J];exact U) (KW.gone I (λc=>I<|c▸g) h1)<|KW.gone I (λc=>I<|c▸o) h2
theorem ot{a:Nat}{o:Kn}(h:(wd.set a none)[q]?=some (some o)):q≠a/\wd[q]?=some (some o):=by
 by_cases c:q=a
 ·subst c;rw[Dl] at h;cases e:wd[q]? with|none=>rw[e] at h;cases h|some z=>rw[e] at h;cases h
 ·rw[Bd<|AL c] at h;exact⟨c,h⟩
theorem cO{x:Nat×Nat}{o:Kn}(h:(gone2 wd x)[q]?=some (some o)):q≠x.1/\q≠x.2/\wd[q]?=some (some o):=by obtain⟨h2,h⟩:=ot h;obtain⟨h1,h⟩:=ot h;exact⟨h1,h2,h⟩
theorem Th{x:Nat×Nat}(h1:q≠x.1)(h2:q≠x.2):(gone2 wd x)[q]?=wd[q]?:=by unfold gone2;rw[Bd<|AL h2,Bd<|AL h1]
theorem l6{wd':List<|Option Kn}(h:∀{q:Nat} {o:Kn},wd'[q]?=some (some o)->wd[q]?=some (some o)){x:Nat}(I:x∈xl wd'):∃(q:Nat) (k:Kn),wd'[q]?=some (some k)/\wd[q]?=some (some k)/\x∈zq (some k):=by obtain⟨y,k,h1,h2⟩:=i7 I;exact⟨y,k,h1,h h1,h2⟩
theorem KW.gone2{x:Nat×Nat}(I:x.1∉xl wd)(J:x.2∉xl wd){w:Wd}(h1:p≠x.1)(h2:p≠x.2)(h:KW (jz wd) p w):KW (jz<|L3.gone2 wd x) p w:=
 KW.gone (λz=>by obtain⟨q,k,_,e,U⟩:=l6 (λh=>(ot h).2) z;exact J<|Bf.mpr ⟨_,Az e,U⟩) h2 (KW.gone I h1 h)
theorem bM.step(I:bM wd ct){k:Nat}{x:Nat×Nat}(ex:ct[k]?=some x)(pm:ir.Perm<|ct.eraseIdx k++bz wd x)(pw:ir.Pairwise ao):bM (gone2 wd x) ir:=by
 have hx:=Az ex;have n1:=I.ctP _ (jo hx).1;have n2:=I.ctP _ (jo hx).2;have ac:=kJ I.ctN hx;have pe:(plcs ct).Perm (x.1::x.2::plcs (ct.eraseIdx k)):=by have:=jd<|x6 ex;rw[za] at this;exact this
 have nd:=pe.nodup_iff.mp I.ctN;obtain⟨f1,al⟩:=Aw.mp nd;obtain⟨f2,a4⟩:=Aw.mp al;have old:∀p∈plcs (ct.eraseIdx k),p≠x.1/\p≠x.2/\p∉xl wd:=λp hp=>⟨λe=>f1<|e▸Ac _ hp,λe=>f2<|e▸hp,I.ctP p<|pe.mem_iff.mpr<|Ac _<|Ac _ hp⟩;have sub:∀{q:Nat} {o:Kn},(gone2 wd x)[q]?=some (some o)->wd[q]?=some (some o):=λh=>(cO h).2.2;have T:∀p,p∉xl wd->p∉xl (gone2 wd x):=λp h z=>by obtain⟨q,k,_,e,hk⟩:=l6 sub z;exact h<|Bf.mpr ⟨_,Az e,hk⟩
 have U:(plcs ir).Perm (plcs (ct.eraseIdx k)++plcs (bz wd x)):=by rw[<-jm];exact jd pm
 have pu:dU (gone2 wd x):=⟨λq e i j h=>I.pu.ne q e i j<|sub h,λa b k1 k2 y h1 h2=>I.pu.un a b k1 k2 y (sub h1)<|sub h2⟩;have a3:∀c∈ct.eraseIdx k,∃w,KW (jz<|gone2 wd x) c.1 w/\KW (jz<|gone2 wd x) c.2 w.turn:=λc J=>by obtain⟨w,h1,h2⟩:=I.cw c<|(Dv ct k).subset J;obtain⟨a1,a2,_⟩:=old _ (jo J).1;obtain⟨b1,b2,_⟩:=old _ (jo J).2;exact⟨w,h1.gone2 n1 n2 a1 a2,h2.gone2 n1 n2 b1 b2⟩
 have wl:(gone2 wd x).length<=241:=by rw[yZ];exact I.wl
 rcases I.two hx with⟨t,n,_,_,ei⟩|⟨e,i,j,i',j',e1,e2,ei⟩
 ·rw[ei,AD] at pm;rw[ei] at U;have U:(plcs ir).Perm (plcs<|ct.eraseIdx k):=by rw[show plcs []=[] from rfl,AD] at U;exact U
  exact⟨pu,λc J=>a3 c<|pm.mem_iff.mp J,U.nodup_iff.mpr a4,λy C=>T y (old y<|U.mem_iff.mp C).2.2,pw,wl⟩
 ·obtain⟨w,h1,h2⟩:=I.cw x hx;cases w with
  |leaf t n=>have:=h1.inv_lf;rw[e1] at this;cases this
  |node b l r=>
   obtain⟨i1,j1,q1,au,av⟩:=h1.inv_nd;obtain⟨i2,j2,q2,ax,aL⟩:=h2.inv_nd;rw[e1] at q1;rw[e2] at q2;obtain⟨rfl,rfl⟩:i=i1/\j=j1:=by injection q1 with q1;injection q1 with q1;injection q1 with _ a b;exact⟨a,b⟩
   obtain⟨rfl,rfl⟩:i'=i2/\j'=j2:=by injection q2 with q2;injection q2 with q2;injection q2 with _ a b;exact⟨a,b⟩
   have P:∀y,y=i\/y=j->y∈zq (some<|.nd e i j):=λy h=>by rcases h with rfl|rfl;exact Ak;exact Ac _ Ak
   have P':∀y,y=i'\/y=j'->y∈zq (some<|.nd (!e) i' j'):=λy h=>by rcases h with rfl|rfl;exact Ak;exact Ac _ Ak
   have mP:∀y,y=i\/y=j\/y=i'\/y=j'->y∈xl wd:=λy h=>by
    rcases h with h|h|h|h
    ·exact h▸(lv e1).1
    ·exact h▸(lv e1).2
    ·exact h▸(lv e2).1
    ·exact h▸(lv e2).2
   have new:∀y,y=i\/y=j\/y=i'\/y=j'->y≠x.1/\y≠x.2/\y∉xl (gone2 wd x):=λy h=>by
    refine⟨λe=>n1<|e▸mP y h,λe=>n2<|e▸mP y h,λz=>?_⟩;obtain⟨q,k,g,ek,hk⟩:=l6 sub z;obtain⟨c1,c2,_⟩:=cO g;rcases h with h|h|h|h
    ·exact c1<|I.pu.un _ _ _ _ y ek e1 hk<|P y<|.inl h
    ·exact c1<|I.pu.un _ _ _ _ y ek e1 hk<|P y<|.inr h
    ·exact c2<|I.pu.un _ _ _ _ y ek e2 hk<|P' y<|.inl h
    ·exact c2<|I.pu.un _ _ _ _ y ek e2 hk<|P' y<|.inr h
   have a5:∀y,(y=i\/y=j)->¬(y=i'\/y=j'):=λy h h'=>ac<|I.pu.un _ _ _ _ y e1 e2 (P y h)<|P' y h';rw[ei] at pm U;refine⟨pu,λc J=>?_,U.nodup_iff.mpr<|Ar.mpr ⟨a4,?_,λa ha b hb z=>?_⟩,λy C=>?_,pw,wl⟩
   ·rcases Aj.mp (pm.mem_iff.mp J) with J|J
    ·exact a3 c J
    ·rcases Am.mp J with rfl|J
     ·obtain⟨a1,a2,_⟩:=new i<|.inl rfl;obtain⟨b1,b2,_⟩:=new i'<|.inr<|.inr<|.inl rfl;exact⟨l,au.gone2 n1 n2 a1 a2,ax.gone2 n1 n2 b1 b2⟩
     ·rw[An.mp J];obtain⟨a1,a2,_⟩:=new j<|.inr<|.inl rfl;obtain⟨b1,b2,_⟩:=new j'<|.inr<|.inr<|.inr rfl;exact⟨r,av.gone2 n1 n2 a1 a2,aL.gone2 n1 n2 b1 b2⟩
   ·have d1:=a5 i<|.inl rfl;have d2:=a5 j<|.inr rfl;have d3:=I.pu.ne _ _ _ _ e1;have d4:=I.pu.ne _ _ _ _ e2;rw[za,v4];simp only[Aw,Am,Bv,or_false,not_or,CS,and_true,not_false_eq_true];exact⟨⟨λh=>d1<|.inl h,d3,λh=>d1<|.inr h⟩,⟨λh=>d2<|.inl h.symm,d4⟩,λh=>d2<|.inr h⟩
   ·subst z;have hb:a=i\/a=j\/a=i'\/a=j':=by
     rw[za,v4] at hb;simp at hb;rcases hb with h|h|h|h
     ·exact .inl h
     ·exact .inr<|.inr<|.inl h
     ·exact .inr<|.inl h
     ·exact .inr<|.inr<|.inr h
    exact(old a ha).2.2 (mP a hb)
   ·rcases Aj.mp (U.mem_iff.mp C) with C|C
    ·exact T y (old y C).2.2
    ·rw[za,v4] at C;simp at C;refine(new y ?_).2.2;rcases C with h|h|h|h
     ·exact .inl h
     ·exact .inr<|.inr<|.inl h
     ·exact .inr<|.inl h
     ·exact .inr<|.inr<|.inr h
theorem pJ.step(I:bM wd ct){x:Nat×Nat}(hx:x∈ct)(J:pJ wd lk)(st:vL wd lk x fv):pJ (gone2 wd x) fv:=by
 have ap:∀{p:Nat} {t:Bool} {n:Str},p≠x.1->p≠x.2->wd[p]?=some (some<|.lf t n)->(gone2 wd x)[p]?=some (some<|.lf t n):=λa b h=>by rw[Th a b];exact h
 rcases st with⟨⟨e,i,j,U⟩,rfl⟩|⟨t,n,x0,y0,u,v,U,mx,my,ne,ou,ov,pm,pw⟩
 ·rcases I.two hx with⟨t,n,g,_⟩|⟨_,_,_,i',j',_,g,_⟩
  ·rw[U] at g;cases g
  have no:∀{p:Nat} {t:Bool} {n:Str},wd[p]?=some (some<|.lf t n)->p≠x.1/\p≠x.2:=λh=>⟨(λz=>by rw[z,U] at h;cases h),(λz=>by rw[z,g] at h;cases h)⟩;refine⟨λc o=>?_,J.lkN,λp=>(J.lkL p).trans ⟨λ ψ=>(by obtain⟨t,n,h⟩:=ψ;exact ⟨t,n,ap (no h).1 (no h).2 h⟩),λ ψ=>(by obtain⟨t,n,h⟩:=ψ;exact ⟨t,n,(cO h).2.2⟩)⟩,J.lkS,J.ll⟩;obtain⟨l,t,n,h1,h2⟩:=J.lkA c o;exact⟨l,t,n,ap (no h1).1 (no h1).2 h1,ap (no h2).1 (no h2).2 h2⟩
 ·have g:wd[x.2]?=some (some<|.lf (!t) n):=by
   rcases I.two hx with⟨t',n',a,b,_⟩|⟨_,_,_,_,_,a,_⟩
   ·rw[U] at a;cases a;exact b
   ·rw[U] at a;cases a
  have jp:=(i5 J.lkN mx my ne ou ov).trans<|((jd pm).symm.cons _).cons _;obtain⟨f1,nd⟩:=Aw.mp<|jp.nodup_iff.mp J.lkN;obtain⟨f2,nd⟩:=Aw.mp nd;have r:∀{p:Nat},p∈plcs fv->p≠x.1/\p≠x.2:=λh=>⟨λz=>f1<|Ac _<|z▸h,λz=>f2<|z▸h⟩;have pl:=jp.length_eq;rw[aO,AJ,AJ,aO] at pl;refine⟨λc o=>?_,nd,λp=>⟨λh=>?_,λ⟨t,n,h⟩=>?_⟩,pw,by have:=J.ll;lia⟩
  ·have C:=r (jo o).1;have T:=r (jo o).2;rcases Aj.mp (pm.mem_iff.mp o) with h|h
   ·obtain⟨l,t,n,h1,h2⟩:=J.lkA c (AK.mp h).1;exact⟨l,t,n,ap C.1 C.2 h1,ap T.1 T.2 h2⟩
   ·have h:c=bH u v:=An.mp h;have w1:=ou.lf J.lkA mx U;have w2:=ov.lf J.lkA my g;obtain⟨l,t,n,h1,h2⟩:=im w1 w2;rw[<-h] at l h1 h2;exact⟨l,t,n,ap C.1 C.2 h1,ap T.1 T.2 h2⟩
  ·obtain⟨t,n,h1⟩:=(J.lkL p).mp<|jp.mem_iff.mpr<|Ac _<|Ac _ h;exact⟨t,n,ap (r h).1 (r h).2 h1⟩
  ·obtain⟨a,b,h⟩:=cO h;rcases Am.mp (jp.mem_iff.mp<|(J.lkL p).mpr ⟨t,n,h⟩) with z|z
   ·exact(a z).elim
   ·exact(Am.mp z).resolve_left b
def w6(lk:List<|Nat×Nat)(a b:Nat):Prop:=∃z∈lk,fj a b z
theorem fj.symm{x:Nat}{z:Nat×Nat}(h:fj p x z):fj x p z:=by
 rcases h with rfl|rfl
 ·exact .inr rfl
 ·exact .inl rfl
theorem w6.symm{a b:Nat}(h:w6 lk a b):w6 lk b a:=by obtain⟨z,I,o⟩:=h;exact⟨z,I,o.symm⟩
theorem w6.fn(nd:(plcs lk).Nodup){a b c:Nat}(h:w6 lk a b)(h':w6 lk a c):b=c:=by obtain⟨z,I,o⟩:=h;obtain⟨y,J,U⟩:=h';exact(Tf nd I J o U).1
abbrev EG:=@w6.fn
theorem w6.ne(nd:(plcs lk).Nodup){a b:Nat}(h:w6 lk a b):a≠b:=by obtain⟨z,I,o⟩:=h;exact wI nd I o
theorem w6.mem{a b:Nat}(h:w6 lk a b):a∈plcs lk/\b∈plcs lk:=by
 obtain⟨z,I,o⟩:=h;rcases o with rfl|rfl
 ·exact jo I
 ·exact⟨(jo I).2,(jo I).1⟩
theorem aW{l m:List<|Nat×Nat}(h:l.Perm m){a b:Nat}:w6 l a b↔w6 m a b:=⟨λ ψ=>(by obtain⟨z,I,o⟩:=ψ;exact ⟨z,h.mem_iff.mp I,o⟩),λ ψ=>(by obtain⟨z,I,o⟩:=ψ;exact ⟨z,h.mem_iff.mpr I,o⟩)⟩
theorem adr{u v a b:Nat}:fj a b (bH u v)↔(a=u/\b=v)\/(a=v/\b=u):=by
 unfold fj bH;by_cases c:u<=v
 ·rw[BJ c,Cd c];simp only[Prod.mk.injEq];constructor
  ·rintro(⟨h1,h2⟩|⟨h1,h2⟩)
   ·exact .inl ⟨h1.symm,h2.symm⟩
   ·exact .inr ⟨h2.symm,h1.symm⟩
  ·rintro(⟨rfl,rfl⟩|⟨rfl,rfl⟩)
   ·exact .inl ⟨rfl,rfl⟩
   ·exact .inr ⟨rfl,rfl⟩
 ·rw[Cb (by lia),Co (by lia)];simp only[Prod.mk.injEq];constructor
  ·rintro(⟨h1,h2⟩|⟨h1,h2⟩)
   ·exact .inr ⟨h1.symm,h2.symm⟩
   ·exact .inl ⟨h2.symm,h1.symm⟩
  ·rintro(⟨rfl,rfl⟩|⟨rfl,rfl⟩)
   ·exact .inr ⟨rfl,rfl⟩
   ·exact .inl ⟨rfl,rfl⟩
structure FH(lk fv:List<|Nat×Nat)(p q u v:Nat):Prop where
 up:w6 lk p u
 vq:w6 lk q v
 pv:p≠v
 qu:q≠u
 pq:p≠q
 iff:∀a b,w6 fv a b↔(w6 lk a b/\a≠p/\a≠q/\b≠p/\b≠q)\/(a=u/\b=v)\/(a=v/\b=u)
theorem Ti(nd:(plcs lk).Nodup){u v:Nat}{J U:Nat×Nat}(g:J∈lk)(j:U∈lk)(ne:J≠U)(l:p≠q)(r:fj p u J)(t:fj q v U)(pm:fv.Perm<|lk.filter (jr p q)++[bH u v]):FH lk fv p q u v:=by
 refine⟨⟨J,g,r⟩,⟨U,j,t⟩,λe=>?_,λe=>?_,l,λa b=>?_⟩
 ·exact ne<|aN nd g j r.mem<|e▸t.symm.mem
 ·exact ne<|aN nd g j (e▸r.symm.mem) t.mem
 ·rw[aW pm];constructor
  ·rintro⟨z,I,o⟩;rcases Aj.mp I with I|I
   ·obtain⟨I,C⟩:=AK.mp I;have no:¬((p=z.1\/p=z.2)\/(q=z.1\/q=z.2)):=λh=>by have:=l8.mpr h;rw[C] at this;cases this
    refine .inl ⟨⟨z,I,o⟩,λe=>no<|.inl<|e▸o.mem,λe=>no<|.inr<|e▸o.mem,λe=>no<|.inl<|e▸o.symm.mem,λe=>no<|.inr<|e▸o.symm.mem⟩
   ·rw[An.mp I] at o;exact .inr<|adr.mp o
  ·rintro(⟨⟨z,I,o⟩,h1,h2,h3,T⟩|h)
   ·refine⟨z,Ap _<|AK.mpr ⟨I,?_⟩,o⟩;cases C:jr p q z with
    |true=>rfl
    |false=>
     exfalso;have:=l8.mp (show(!jr p q z)=true by rw[C];rfl);rcases o with rfl|rfl<;>rcases this with(e|e)|(e|e)
     ·exact h1 e.symm
     ·exact h3 e.symm
     ·exact h2 e.symm
     ·exact T e.symm
     ·exact h3 e.symm
     ·exact h1 e.symm
     ·exact T e.symm
     ·exact h2 e.symm
   ·exact⟨_,Ai _ Ak,adr.mpr h⟩
def nK(ps:List<|Nat×Nat)(a b:Nat):Prop:=w6 ps a b
inductive nL(lk ps:List<|Nat×Nat):Nat->Nat->Nat->Prop
 |one {x y:Nat}:w6 lk x y->nL lk ps 0 x y
 |more {n x a b y:Nat}:w6 lk x a->nK ps a b->nL lk ps n b y->nL lk ps (n+1) x y
theorem nL.back{ps:List<|Nat×Nat}{u v:Nat}(J:FH lk fv p q u v)(U:∀a b,nK kb a b->nK ps a b)(I:nK ps p q){x y:Nat}(h:nL fv kb n x y):∃m,nL lk ps m x y:=by
 induction h with
 |@one x y h=>
  rcases (J.iff x y).mp h with⟨h,_⟩|⟨rfl,rfl⟩|⟨rfl,rfl⟩
  ·exact⟨0,.one h⟩
  ·exact⟨1,.more J.up.symm I<|.one J.vq⟩
  ·exact⟨1,.more J.vq.symm I.symm<|.one J.up⟩
 |@more n x a b y h h2 _ g=>
  obtain⟨m,w⟩:=g;rcases (J.iff x a).mp h with⟨h,_⟩|⟨rfl,rfl⟩|⟨rfl,rfl⟩
  ·exact⟨m+1,.more h (U _ _ h2) w⟩
  ·exact⟨m+1+1,.more J.up.symm I<|.more J.vq (U _ _ h2) w⟩
  ·exact⟨m+1+1,.more J.vq.symm I.symm<|.more J.up (U _ _ h2) w⟩
theorem nL.on{ps:List<|Nat×Nat}(nd:(plcs lk).Nodup)(np:(plcs ps).Nodup){u v:Nat}(J:FH lk fv p q u v)(o:nK ps p q)(C:∀a b,nK ps a b->a≠p->a≠q->nK kb a b):∀(n:Nat) {x y:Nat},x≠p->x≠q->y≠p->y≠q->nL lk ps n x y->∃m,nL fv kb m x y:=by
 intro n
 induction n using Nat.strongRecOn with
 |_ n T=>
  intro x y x1 x2 r t h;have nb:∀{a b:Nat},nK ps a b->a≠p->a≠q->b≠p/\b≠q:=λh h1 h2=>⟨λe=>h2<|EG np (e▸h).symm o,λe=>h1<|EG np (e▸h).symm o.symm⟩;cases h with
  |one h=>exact⟨0,.one<|(J.iff x y).mpr<|.inl ⟨h,x1,x2,r,t⟩⟩
  |@more n _ a b _ h h2 w=>
   by_cases c1:a=p
   ·subst c1;have e1:x=u:=EG nd h.symm J.up;have e2:b=q:=EG np h2 o;subst e1 e2;have uv:w6 fv x v:=(J.iff _ _).mpr<|.inr<|.inl ⟨rfl,rfl⟩;cases w with
    |one j=>
     have:=EG nd j J.vq;subst this;exact⟨0,.one uv⟩
    |@more m _ l b' _ j I w'=>
     have:=EG nd j J.vq;subst this;have U:l≠a:=AL J.pv;have g:l≠b:=AL<|w6.ne nd J.vq;obtain⟨b1,b2⟩:=nb I U g;obtain⟨k,w⟩:=T m (by lia) b1 b2 r t w';exact⟨k+1,.more uv (C _ _ I U g) w⟩
   ·by_cases c2:a=q
    ·subst c2;have e1:x=v:=EG nd h.symm J.vq;have e2:b=p:=EG np h2 o.symm;subst e1 e2;have vu:w6 fv x u:=(J.iff _ _).mpr<|.inr<|.inr ⟨rfl,rfl⟩;cases w with
     |one j=>
      have:=EG nd j J.up;subst this;exact⟨0,.one vu⟩
     |@more m _ l b' _ j I w'=>
      have:=EG nd j J.up;subst this;have U:l≠b:=AL<|w6.ne nd J.up;have g:l≠a:=AL J.qu;obtain⟨b1,b2⟩:=nb I U g;obtain⟨k,w⟩:=T m (by lia) b1 b2 r t w';exact⟨k+1,.more vu (C _ _ I U g) w⟩
    ·obtain⟨b1,b2⟩:=nb h2 c1 c2;obtain⟨k,w⟩:=T n (by lia) b1 b2 r t w;exact⟨k+1,.more ((J.iff _ _).mpr<|.inl ⟨h,x1,x2,c1,c2⟩) (C _ _ h2 c1 c2) w⟩
inductive iK(lk ps:List<|Nat×Nat):Nat->Nat->Prop
 |self {x:Nat}:iK lk ps x x
 |at_ {x y z:Nat}:w6 lk x y->nK ps y z->iK lk ps x y
 |next {x y z a:Nat}:w6 lk x y->nK ps y z->iK lk ps z a->iK lk ps x a
def ar(lk ps:List<|Nat×Nat):Prop:=∀a∈plcs lk,∃x∈plcs lk,x∉plcs ps/\iK lk ps x a
section
variable {ps:List<|Nat×Nat}{u v:Nat}
structure Out(lk fv ps kb:List<|Nat×Nat)(p q u v:Nat):Prop where
 nd:(plcs lk).Nodup
 np:(plcs ps).Nodup
 j:FH lk fv p q u v
 pq:nK ps p q
 up:∀a b,nK ps a b->a≠p->a≠q->nK kb a b
 dn:∀a b,nK kb a b->nK ps a b/\a≠p/\a≠q
theorem Out.nb(O:Out lk fv ps kb p q u v){a b:Nat}(h:nK ps a b)(h1:a≠p)(h2:a≠q):b≠p/\b≠q:=⟨λe=>h2<|EG O.np (e▸h).symm O.pq,λe=>h1<|EG O.np (e▸h).symm O.pq.symm⟩
theorem Out.uv(O:Out lk fv ps kb p q u v):u≠p/\u≠q/\v≠p/\v≠q:=⟨AL<|w6.ne O.nd O.j.up,AL O.j.qu,AL O.j.pv,AL<|w6.ne O.nd O.j.vq⟩
theorem iK.back(O:Out lk fv ps kb p q u v){x a:Nat}(h:iK fv kb x a):iK lk ps x a:=by
 have J:=O.j
 induction h with
 |self=>exact .self
 |@at_ x y z h h2=>
  have h2:=(O.dn _ _ h2).1;rcases (J.iff x y).mp h with⟨h,_⟩|⟨rfl,rfl⟩|⟨rfl,rfl⟩
  ·exact .at_ h h2
  ·exact .next J.up.symm O.pq (.at_ J.vq h2)
  ·exact .next J.vq.symm O.pq.symm (.at_ J.up h2)
 |@next x y z a h h2 _ I=>
  have h2:=(O.dn _ _ h2).1;rcases (J.iff x y).mp h with⟨h,_⟩|⟨rfl,rfl⟩|⟨rfl,rfl⟩
  ·exact .next h h2 I
  ·exact .next J.up.symm O.pq (.next J.vq h2 I)
  ·exact .next J.vq.symm O.pq.symm (.next J.up h2 I)
theorem iK.on(O:Out lk fv ps kb p q u v){x a:Nat}(h:iK lk ps x a):a≠p->a≠q->(x≠p->x≠q->iK fv kb x a)/\(x=q->iK fv kb u a)/\(x=p->iK fv kb v a):=by
 have J:=O.j;have L1:w6 fv u v:=(J.iff _ _).mpr<|.inr<|.inl ⟨rfl,rfl⟩;have L2:w6 fv v u:=(J.iff _ _).mpr<|.inr<|.inr ⟨rfl,rfl⟩;obtain⟨g,l,v1,o⟩:=O.uv;have kp:∀{x y:Nat},w6 lk x y->x≠p->x≠q->y≠p->y≠q->w6 fv x y:=λh a b c d=>(J.iff _ _).mpr<|.inl ⟨h,a,b,c,d⟩
 induction h with
 |self=>exactλI U=>⟨λ_ _=>.self,λe=>(U e).elim,λe=>(I e).elim⟩
 |@at_ x y z h h2=>
  intro I U;refine⟨λr t=>.at_ (kp h r t I U)<|O.up _ _ h2 I U,λe=>?_,λe=>?_⟩
  ·subst e;have:=EG O.nd h J.vq;subst this;exact .at_ L1<|O.up _ _ h2 v1 o
  ·subst e;have:=EG O.nd h J.up;subst this;exact .at_ L2<|O.up _ _ h2 g l
 |@next x y z a h h2 _ ih=>
  intro I U;obtain⟨C,i2,i3⟩:=ih I U;refine⟨λr t=>?_,λe=>?_,λe=>?_⟩
  ·by_cases c1:y=p
   ·subst c1;have T:=EG O.nd h.symm J.up;have e2:=EG O.np h2 O.pq;subst T;exact i2 e2
   ·by_cases c2:y=q
    ·subst c2;have T:=EG O.nd h.symm J.vq;have e2:=EG O.np h2 O.pq.symm;subst T;exact i3 e2
    ·obtain⟨b1,b2⟩:=O.nb h2 c1 c2;exact .next (kp h r t c1 c2) (O.up _ _ h2 c1 c2) (C b1 b2)
  ·subst e;have:=EG O.nd h J.vq;subst this;obtain⟨b1,b2⟩:=O.nb h2 v1 o;exact .next L1 (O.up _ _ h2 v1 o) (C b1 b2)
  ·subst e;have:=EG O.nd h J.up;subst this;obtain⟨b1,b2⟩:=O.nb h2 g l;exact .next L2 (O.up _ _ h2 g l) (C b1 b2)
theorem iK.mid(O:Out lk fv ps kb p q u v){x a:Nat}(h:iK fv kb x a):a=u\/a=v->x≠p->x≠q->iK lk ps x p/\iK lk ps x q:=by
 have J:=O.j;have I:iK lk ps u p/\iK lk ps u q:=⟨.at_ J.up.symm O.pq,.next J.up.symm O.pq .self⟩;have U:iK lk ps v p/\iK lk ps v q:=⟨.next J.vq.symm O.pq.symm .self,.at_ J.vq.symm O.pq.symm⟩
 induction h with
 |self=>exactλh _ _=>by rcases h with rfl|rfl;exact I;exact U
 |@at_ x y z h h2=>
  intro e g l;rcases (J.iff x y).mp h with⟨h,_,_,o,r⟩|⟨rfl,rfl⟩|⟨rfl,rfl⟩
  ·exfalso;rcases e with rfl|rfl
   ·exact g<|EG O.nd h.symm J.up.symm
   ·exact l<|EG O.nd h.symm J.vq.symm
  ·exact I
  ·exact U
 |@next x y z a h h2 _ t=>
  intro e g l;obtain⟨g2,o,r⟩:=O.dn _ _ h2;obtain⟨b1,b2⟩:=O.nb g2 o r;rcases (J.iff x y).mp h with⟨h,_⟩|⟨rfl,rfl⟩|⟨rfl,rfl⟩
  ·obtain⟨C,T⟩:=t e b1 b2;exact⟨.next h g2 C,.next h g2 T⟩
  ·exact I
  ·exact U
theorem ar.iff(O:Out lk fv ps kb p q u v)(U:∀a,a∈plcs fv↔a∈plcs lk/\a≠p/\a≠q)(hs:∀a,a∈plcs kb↔a∈plcs ps/\a≠p/\a≠q):ar lk ps↔ar fv kb:=by
 have r:=O.pq.mem;obtain⟨C,T,_⟩:=O.uv;constructor
 ·intro A a g;obtain⟨g,a1,a2⟩:=(U a).mp g;obtain⟨x,J,I,m⟩:=A a g;have l:x≠p:=λe=>I<|e▸r.1;have o:x≠q:=λe=>I<|e▸r.2;exact⟨x,(U x).mpr ⟨J,l,o⟩,λz=>I ((hs x).mp z).1,(m.on O a1 a2).1 l o⟩
 ·intro A a g;have old:∀x,x∈plcs fv->x∉plcs kb->x∈plcs lk/\x∉plcs ps/\x≠p/\x≠q:=λx J I=>by obtain⟨h,l,o⟩:=(U x).mp J;exact⟨h,λz=>I<|(hs x).mpr ⟨z,l,o⟩,l,o⟩
  have t:∃x∈plcs lk,x∉plcs ps/\iK lk ps x p/\iK lk ps x q:=by obtain⟨x,J,I,m⟩:=A u<|(U u).mpr ⟨O.j.up.mem.2,C,T⟩;obtain⟨h1,h2,h3,h4⟩:=old x J I;exact⟨x,h1,h2,m.mid O (.inl rfl) h3 h4⟩
  by_cases c1:a=p
  ·subst c1;obtain⟨x,h1,h2,h3,_⟩:=t;exact⟨x,h1,h2,h3⟩
  by_cases c2:a=q
  ·subst c2;obtain⟨x,h1,h2,_,h3⟩:=t;exact⟨x,h1,h2,h3⟩
  obtain⟨x,J,I,m⟩:=A a<|(U a).mpr ⟨g,c1,c2⟩;obtain⟨h1,h2,_⟩:=old x J I;exact⟨x,h1,h2,m.back O⟩
theorem iK.ring(nd:(plcs lk).Nodup)(np:(plcs ps).Nodup)(I:nK ps p q)(l:w6 lk p q){x a:Nat}(h:iK lk ps x a):x≠p->x≠q->a≠p/\a≠q:=by
 have st:∀{x y:Nat},w6 lk x y->x≠p->x≠q->y≠p/\y≠q:=λh J U=>⟨λe=>U<|EG nd (e▸h).symm l,λe=>J<|EG nd (e▸h).symm l.symm⟩
 induction h with
 |self=>exactλa b=>⟨a,b⟩
 |at_ h _=>exactλa b=>st h a b
 |next h h2 _ g=>
  intro a b;obtain⟨j,o⟩:=st h a b;exact g (λe=>o<|EG np (e▸h2).symm I) λe=>j<|EG np (e▸h2).symm I.symm
theorem ar.no(nd:(plcs lk).Nodup)(np:(plcs ps).Nodup)(I:nK ps p q)(l:w6 lk p q):¬ar lk ps:=λA=>by obtain⟨x,_,J,m⟩:=A p l.mem.1;exact(m.ring nd np I l (λe=>J<|e▸I.mem.1) λe=>J<|e▸I.mem.2).1 rfl
end
theorem nL.mono{ps:List<|Nat×Nat}(h1:∀a b,w6 lk a b->w6 fv a b)(h2:∀a b,nK ps a b->nK kb a b){x y:Nat}(h:nL lk ps n x y):nL fv kb n x y:=by induction h with|one h=>exact .one (h1 _ _ h)|more h g _ I=>exact .more (h1 _ _ h) (h2 _ _ g) I
inductive Dn(wd:List<|Option Kn)(p:Nat):Nat->Prop
 |self:Dn wd p p
 |part {z y:Nat} {k:Kn}:Dn wd p z->wd[z]?=some (some k)->y∈zq (some k)->Dn wd p y
theorem Dn.le(ok:jC wd){y:Nat}(h:Dn wd p y):y<=p:=by
 induction h with
 |self=>exact Ao _
 |@part z y k _ e I J=>
  cases k with
  |lf t n=>cases I
  |nd b i j=>
   have:=ok z b i j e;have I:y=i\/y=j:=by simpa[zq] using I
   rcases I with rfl|rfl<;>lia
theorem Dn.up{z y:Nat}{k:Kn}(e:wd[p]?=some (some k))(hz:z∈zq (some k))(h:Dn wd z y):Dn wd p y:=by induction h with|self=>exact .part .self e hz|part _ I J U=>exact .part U I J
theorem Dn.prt{y:Nat}(h:Dn wd p y):y=p\/y∈xl wd:=by cases h with|self=>exact .inl rfl|part _ e I=>exact .inr<|Bf.mpr ⟨_,Az e,I⟩
theorem Dn.meet(U:dU wd){y:Nat}(h:Dn wd p y)(g:Dn wd q y):Dn wd p q\/Dn wd q p:=by
 induction h with
 |self=>exact .inr g
 |@part z y k h e J j=>
  cases g with
  |self=>exact .inl<|.part h e J
  |@part o _ r g l I=>
   cases U.un _ _ _ _ y e l J I;exact j g
theorem rL(U:dU wd){y:Nat}(np:p∉xl wd)(I:q∉xl wd)(h:Dn wd p y)(g:Dn wd q y):p=q:=by
 rcases h.meet U g with h|h
 ·exact(h.prt.resolve_right I).symm
 ·exact h.prt.resolve_right np
theorem rg(ok:jC wd)(U:dU wd){y:Nat}{e:Bool}(h:wd[p]?=some (some<|.nd e i j))(h1:Dn wd i y)(h2:Dn wd j y):False:=by
 have no:∀{a b:Nat},a∈zq (some<|.nd e i j)->b∈zq (some<|.nd e i j)->a≠b->¬Dn wd a b:=λ{a b} I o ne g=>by
  cases g with
  |self=>exact ne rfl
  |@part z _ k g r t=>
   cases U.un _ _ _ _ b h r o t;have C:=g.le ok;obtain⟨T,k2⟩:=ok _ _ _ _ h;have I:a=i\/a=j:=by simpa[zq] using I
   rcases I with rfl|rfl<;>lia
 have J:i∈zq (some<|.nd e i j):=Ak;have l:j∈zq (some<|.nd e i j):=Ac _ Ak;have ne:=U.ne _ _ _ _ h;rcases h1.meet U h2 with g|g
 ·exact no J l ne g
 ·exact no l J (AL ne) g
inductive re(wd:List<|Option Kn):Nat->Nat->List (Nat×Nat)->List Nat->Prop
 |lf {p q:Nat} {t t':Bool} {n n':Str}:wd[p]?=some (some<|.lf t n)->wd[q]?=some (some<|.lf t' n')->re wd p q [(p,q)] [p,q]
 |nd {p q i j i' j':Nat} {e e':Bool} {A B:List<|Nat×Nat} {G H:List Nat}:wd[p]?=some (some<|.nd e i j)->wd[q]?=some (some<|.nd e' i' j')->re wd i i' A G->re wd j j' B H->re wd p q (A++B) (p::q::(G++H))
theorem vT{wd:List<|Option Kn}:∀{w:Wd} {p q:Nat},KW (jz wd) p w->KW (jz wd) q w.turn->∃A G,re wd p q A G
 |.leaf t n,p,q,h,g=>⟨_,_,.lf h.inv_lf g.inv_lf⟩
 |.node e l r,p,q,h,g=>by obtain⟨i,j,I,h1,h2⟩:=h.inv_nd;obtain⟨C,T,J,g1,g2⟩:=g.inv_nd;obtain⟨A,G,U⟩:=vT h1 g1;obtain⟨B,H,o⟩:=vT h2 g2;exact⟨_,_,.nd I J U o⟩
theorem kQ{x y:α}{l:List α}:x∉y::l↔x≠y/\x∉l:=by simp
section
variable {A:List<|Nat×Nat}{G:List Nat}
theorem re.dn(M:re wd p q A G):∀y∈G,Dn wd p y\/Dn wd q y:=by
 induction M with
 |lf _ _=>
  intro y I;rcases Am.mp I with rfl|I
  ·exact .inl .self
  ·rw[An.mp I];exact .inr .self
 |@nd p q i j o r e t A B G H g l _ _ J U=>
  intro y I;rcases Am.mp I with rfl|I
  ·exact .inl .self
  rcases Am.mp I with rfl|I
  ·exact .inr .self
  rcases Aj.mp I with I|I
  ·exact(J y I).imp (Dn.up g Ak) (Dn.up l Ak)
  ·exact(U y I).imp (Dn.up g<|Ac _ Ak) (Dn.up l<|Ac _ Ak)
theorem re.gone{x:Nat}(M:re wd p q A G):x∉G->re (wd.set x none) p q A G:=by
 have st:∀{y:Nat} {o:Option Kn},x≠y->wd[y]?=some o->(wd.set x none)[y]?=some o:=λh e=>by rw[Bd h];exact e
 induction M with
 |lf h1 h2=>
  intro J;have I:=(kQ.mp J);exact .lf (st I.1 h1)<|st (kQ.mp I.2).1 h2
 |nd h1 h2 _ _ U g=>
  intro J;have I:=(kQ.mp J);have j:=(kQ.mp I.2);exact .nd (st I.1 h1) (st j.1 h2) (U λh=>j.2<|Ap _ h)<|g λh=>j.2<|Ai _ h
theorem re.nodup(ok:jC wd)(U:dU wd)(M:re wd p q A G):(∀y,Dn wd p y->¬Dn wd q y)->G.Nodup:=by
 induction M with
 |@lf p q t t' n n' h1 h2=>
  intro ap;have:p≠q:=λe=>ap p .self<|e▸.self;simp[this]
 |@nd p q i j i' j' e e' A B G H I J m1 m2 a1 a3=>
  intro ap;have o:∀{a b:Nat} {e:Bool},a∈zq (some<|.nd e a b):=Ak;have r:∀{a b:Nat} {e:Bool},b∈zq (some<|.nd e a b):=Ac _ Ak;have n1:=a1 λy h h'=>ap y (h.up I o)<|h'.up J o;have n2:=a3 λy h h'=>ap y (h.up I r)<|h'.up J r;have dG:∀y∈G,Dn wd i y\/Dn wd i' y:=m1.dn;have dH:∀y∈H,Dn wd j y\/Dn wd j' y:=m2.dn;obtain⟨l1,l2⟩:=ok _ _ _ _ I;obtain⟨l3,l4⟩:=ok _ _ _ _ J;have C:∀y∈G++H,(Dn wd p y/\y<p)\/(Dn wd q y/\y<q):=λy T=>by
   rcases Aj.mp T with T|T
   ·rcases dG y T with h|h
    ·exact .inl ⟨h.up I o,by have:=h.le ok;lia⟩
    ·exact .inr ⟨h.up J o,by have:=h.le ok;lia⟩
   ·rcases dH y T with h|h
    ·exact .inl ⟨h.up I r,by have:=h.le ok;lia⟩
    ·exact .inr ⟨h.up J r,by have:=h.le ok;lia⟩
  refine Aw.mpr ⟨λh=>?_,Aw.mpr ⟨λh=>?_,Ar.mpr ⟨n1,n2,λa ha b hb z=>?_⟩⟩⟩
  ·rcases Am.mp h with e|h
   ·exact ap p .self<|e▸.self
   ·rcases C p h with⟨_,l⟩|⟨h,_⟩
    ·lia
    ·exact ap p .self h
  ·rcases C q h with⟨h,_⟩|⟨_,l⟩
   ·exact ap q h .self
   ·lia
  ·subst z;rcases dG a ha with h|h<;>rcases dH a hb with g|g
   ·exact rg ok U I h g
   ·exact ap a (h.up I o)<|g.up J r
   ·exact ap a (g.up I r)<|h.up J o
   ·exact rg ok U J h g
end
inductive wc(wd:List<|Option Kn):List (Nat×Nat)->List (Nat×Nat)->List Nat->Prop
 |nil:wc wd [] [] []
 |cons {c:Nat×Nat} {ct A B:List<|Nat×Nat} {G H:List Nat}:re wd c.1 c.2 A G->wc wd ct B H->wc wd (c::ct) (A++B) (G++H)
theorem yD{wd:List<|Option Kn}:∀{ct:List<|Nat×Nat},(∀c∈ct,∃w,KW (jz wd) c.1 w/\KW (jz wd) c.2 w.turn)->∃A G,wc wd ct A G
 |[],_=>⟨_,_,.nil⟩
 |c::ct,h=>by obtain⟨w,h1,h2⟩:=h c Ak;obtain⟨A,G,m⟩:=vT h1 h2;obtain⟨B,H,n⟩:=yD λd hd=>h d<|Ac _ hd;exact⟨_,_,.cons m n⟩
theorem re.subl{A:List<|Nat×Nat}{G:List Nat}(M:re wd p q A G):(plcs A).Sublist G:=by induction M with|lf _ _=>rw[v4];exact Cs _|nd _ _ _ _ I J=>rw[jm];exact((I.append J).cons _).cons _
section
variable {A:List<|Nat×Nat}{G:List Nat}
theorem wc.subl(M:wc wd ct A G):(plcs A).Sublist G:=by induction M with|nil=>exact Cs _|cons m _ I=>rw[jm];exact m.subl.append I
theorem wc.dn(M:wc wd ct A G):∀y∈G,∃p∈plcs ct,Dn wd p y:=by
 induction M with
 |nil=>exact nofun
 |@cons c ct A B G H m _ J=>
  intro y I;rw[za];rcases Aj.mp I with I|I
  ·rcases m.dn y I with h|h
   ·exact⟨_,Ak,h⟩
   ·exact⟨_,Ac _ Ak,h⟩
  ·obtain⟨p,U,h⟩:=J y I;exact⟨p,Ac _<|Ac _ U,h⟩
theorem wc.nodup(ok:jC wd)(U:dU wd)(M:wc wd ct A G):(plcs ct).Nodup->(∀x∈plcs ct,x∉xl wd)->G.Nodup:=by
 induction M with
 |nil=>exactλ_ _=>CS
 |@cons c ct A B G H m o r=>
  intro nd np;rw[za] at nd np;obtain⟨f1,nd⟩:=Aw.mp nd;obtain⟨f2,nd⟩:=Aw.mp nd;have j:=np c.1 Ak;have l:=np c.2<|Ac _ Ak;have J:∀p∈plcs ct,p∉xl wd:=λp I=>np p<|Ac _<|Ac _ I;refine Ar.mpr ⟨m.nodup ok U λy h g=>f1<|rL U j l h g▸Ak,r nd J,λa t b C z=>?_⟩;subst z;obtain⟨p,I,g⟩:=o.dn a C;rcases m.dn a t with h|h
  ·exact f1<|rL U j (J p I) h g▸Ac _ I
  ·exact f2<|rL U l (J p I) h g▸I
theorem wc.gone{x:Nat}(M:wc wd ct A G):x∉G->wc (wd.set x none) ct A G:=by induction M with|nil=>exactλ_=>.nil|cons m _ I=>exactλh=>.cons (m.gone λz=>h<|Ap _ z)<|I λz=>h<|Ai _ z
theorem wc.app{B:List<|Nat×Nat}{H:List Nat}(M:wc wd ct A G)(N:wc wd ir B H):wc wd (ct++ir) (A++B) (G++H):=by induction M with|nil=>exact N|cons m _ I=>rw[Ay,Ay];exact .cons m I
theorem wc.perm(p:ct.Perm ir):∀{A G},wc wd ct A G->∃j r,wc wd ir j r/\j.Perm A/\r.Perm G:=by
 induction p with
 |nil=>exactλM=>⟨_,_,M,.refl _,.refl _⟩
 |cons c _ t=>
  rintro _ _ (⟨⟩|⟨m,n⟩);obtain⟨B,H,C,I,J⟩:=t n;exact⟨_,_,.cons m C,I.append_left _,J.append_left _⟩
 |swap c d l=>
  rintro _ _ (⟨⟩|⟨m,⟨⟩|⟨n,o⟩⟩);refine⟨_,_,.cons n<|.cons m o,?_,?_⟩
  ·rw[<-Ay,<-Ay];exact AW.append_right _
  ·rw[<-Ay,<-Ay];exact AW.append_right _
 |trans _ _ U g=>
  intro _ _ M;obtain⟨A1,G1,T,I,J⟩:=U M;obtain⟨A2,G2,M2,p3,p4⟩:=g T;exact⟨A2,G2,M2,p3.trans I,p4.trans J⟩
end
def w9(l:List<|Option Kn):List Nat->List (Option Kn)
 |[]=>l
 |x::G=>w9 (l.set x none) G
theorem fI:∀(G:List Nat) (l:List<|Option Kn),(w9 l G).length=l.length
 |[],_=>rfl
 |x::G,l=>by show(w9 (l.set x none) G).length=_;rw[fI G,BA]
theorem nJ:∀(G:List Nat) (l:List<|Option Kn) (i:Nat),i<l.length->(w9 l G)[i]?=if i∈G then some none else l[i]?
 |[],l,i,_=>by rw[AC (by simp)];rfl
 |x::G,l,i,h=>by
  show(w9 (l.set x none) G)[i]?=_;rw[nJ G _ i (by rw[BA];exact h)];by_cases c:i∈G
  ·rw[AB c,AB<|Ac _ c]
  ·rw[AC c];by_cases e:i=x
   ·subst e;rw[AB Ak,BX h]
   ·rw[AC λz=>(Am.mp z).elim e c,Bd<|AL e]
theorem vE{G H:List Nat}(p:G.Perm H)(l:List<|Option Kn):w9 l G=w9 l H:=by
 refine Ds λi=>?_;by_cases h:i<l.length
 ·rw[nJ G l i h,nJ H l i h];by_cases c:i∈G
  ·rw[AB c,AB<|p.mem_iff.mp c]
  ·rw[AC c,AC λz=>c<|p.mem_iff.mpr z]
 ·rw[BE (by rw[fI];lia),BE (by rw[fI];lia)]
theorem wc.step{A:List<|Nat×Nat}{G:List Nat}(ok:jC wd)(I:bM wd ct)(M:wc wd ct A G){k:Nat}{x:Nat×Nat}(ex:ct[k]?=some x)(pm:ir.Perm<|ct.eraseIdx k++bz wd x):∃J U,wc (gone2 wd x) ir J U/\G.Perm (x.1::x.2::U)/\
 ((∃e i j,wd[x.1]?=some (some<|.nd e i j))/\J.Perm A\/(∃t n,wd[x.1]?=some (some<|.lf t n))/\A.Perm (x::J)):=by
 have hx:=Az ex;obtain⟨A1,g,M1,pA,p⟩:=M.perm<|x6 ex;have nd:=p.nodup_iff.mpr<|M.nodup ok I.pu I.ctN I.ctP;cases M1 with
 |@cons _ _ Ax B Gx H m n=>
  rcases I.two hx with⟨t,nm,l,e2,ei⟩|⟨e,i,j,i',j',l,e2,ei⟩
  ·rw[ei,AD] at pm;cases m with
   |nd h1 _ _ _=>rw[l] at h1;cases h1
   |lf h1 h2=>
    have d:=Ar.mp nd;have g1:x.1∉H:=λz=>d.2.2 x.1 Ak x.1 z rfl;have g2:x.2∉H:=λz=>d.2.2 x.2 (Ac _ Ak) x.2 z rfl;obtain⟨J,U,r,C,T⟩:=((n.gone g1).gone g2).perm pm.symm;exact⟨J,U,r,p.symm.trans<|(T.symm.cons _).cons _,.inr ⟨⟨t,nm,l⟩,pA.symm.trans<|C.symm.cons x⟩⟩
  ·rw[ei] at pm;cases m with
   |lf h1 _=>rw[l] at h1;cases h1
   |@nd _ _ i1 j1 i2 j2 b b' A1 A2 g o h1 h2 m1 m2=>
    rw[l] at h1;rw[e2] at h2;obtain⟨rfl,rfl⟩:i=i1/\j=j1:=by injection h1 with q;injection q with q;injection q with _ a b;exact⟨a,b⟩
    obtain⟨rfl,rfl⟩:i'=i2/\j'=j2:=by injection h2 with q;injection q with q;injection q with _ a b;exact⟨a,b⟩
    have nd:(x.1::x.2::((g++o)++H)).Nodup:=nd;obtain⟨f1,nd⟩:=Aw.mp nd;obtain⟨f2,nd⟩:=Aw.mp nd;have f1:x.1∉(g++o)++H:=λz=>f1<|Ac _ z;have N:wc wd (ct.eraseIdx k++[(i,i'),(j,j')]) (B++(A1++(A2++[]))) (H++(g++(o++[]))):=n.app<|.cons m1<|.cons m2 .nil;have pH:(H++(g++(o++[]))).Perm ((g++o)++H):=by rw[AD];exact AW
    obtain⟨J,U,r,C,T⟩:=((N.gone λz=>f1<|pH.mem_iff.mp z).gone λz=>f2<|pH.mem_iff.mp z).perm pm.symm;refine⟨J,U,r,p.symm.trans<|((T.trans pH).symm.cons _).cons _,.inl ⟨⟨e,i,j,l⟩,C.trans<|List.Perm.trans ?_ pA⟩⟩;rw[AD];exact AW
theorem iK.mono{ps:List<|Nat×Nat}(h:∀a b,nK ps a b->nK kb a b){x a:Nat}(m:iK lk ps x a):iK lk kb x a:=by induction m with|self=>exact .self|at_ h1 h2=>exact .at_ h1 (h _ _ h2)|next h1 h2 _ I=>exact .next h1 (h _ _ h2) I
theorem ar.perm{A B:List<|Nat×Nat}(p:A.Perm B):ar lk A↔ar lk B:=by
 have one:∀{A B:List<|Nat×Nat},A.Perm B->ar lk A->ar lk B:=λp h a I=>by obtain⟨x,J,U,m⟩:=h a I;exact⟨x,J,λz=>U<|(jd p).mem_iff.mpr z,m.mono λa b=>(aW p).mp⟩
 exact⟨one p,one p.symm⟩
theorem nL.perm{A B:List<|Nat×Nat}(p:A.Perm B){x y:Nat}:(∃n,nL lk A n x y)↔∃n,nL lk B n x y:=⟨λ ψ=>(by obtain⟨n,w⟩:=ψ;exact ⟨n,w.mono (λ_ _ h=>h) λa b=>(aW p).mp⟩),λ ψ=>(by obtain⟨n,w⟩:=ψ;exact ⟨n,w.mono (λ_ _ h=>h) λa b=>(aW p).mpr⟩)⟩
theorem oj{l m:List Nat}(pm:l.Perm<|p::q::m)(nd:l.Nodup)(a:Nat):a∈m↔a∈l/\a≠p/\a≠q:=by
 obtain⟨f1,I⟩:=Aw.mp<|pm.nodup_iff.mp nd;obtain⟨f2,_⟩:=Aw.mp I;constructor
 ·exactλh=>⟨pm.mem_iff.mpr<|Ac _<|Ac _ h,λe=>f1<|e▸Ac _ h,λe=>f2<|e▸h⟩
 ·rintro⟨h,h1,h2⟩;exact(Am.mp<|(Am.mp<|pm.mem_iff.mp h).resolve_left h1).resolve_left h2
theorem Tj{A U:List<|Nat×Nat}{x g j:Nat×Nat}{u v:Nat}(nd:(plcs lk).Nodup)(np:(plcs A).Nodup)(J:A.Perm<|x::U)(l:x.1≠x.2)(p:g∈lk)(r:j∈lk)(ne:g≠j)(t:fj x.1 u g)(C:fj x.2 v j)(pm:fv.Perm<|lk.filter (jr x.1 x.2)++[bH u v]):Out lk fv A U x.1 x.2 u v:=by
 have pl:(plcs A).Perm (x.1::x.2::plcs U):=by have:=jd J;rw[za] at this;exact this
 refine⟨nd,np,Ti nd p r ne l t C pm,(aW J).mpr ⟨x,Ak,.inl rfl⟩,λa b h h1 h2=>?_,λa b h=>⟨(aW J).mpr ?_,((oj pl np a).mp (w6.mem h).1).2⟩⟩
 ·obtain⟨z,I,o⟩:=(aW J).mp h;rcases Am.mp I with rfl|I
  ·rcases o.mem with e|e
   ·exact(h1 e).elim
   ·exact(h2 e).elim
  ·exact⟨z,I,o⟩
 ·obtain⟨z,I,o⟩:=h;exact⟨z,Ac _ I,o⟩
structure uW(mE A0:List<|Nat×Nat)(Z wd:List<|Option Kn)(lk ct:List<|Nat×Nat)(m:Nat):Prop where
 ok:jC wd
 i:bM wd ct
 j:pJ wd lk
 ex:∃A G,wc wd ct A G/\w9 wd G=Z/\G.length=m/\(ar lk A↔ar mE A0)/\(∀x,(x∈plcs lk/\x∉plcs A)↔(x∈plcs mE/\x∉plcs A0))/\∀x y,x∈plcs lk->x∉plcs A->y∈plcs lk->y∉plcs A->((∃n,nL lk A n x y)↔∃n,nL mE A0 n x y)
section
variable {mE A0:List<|Nat×Nat}{Z:List<|Option Kn}
theorem uW.start(ok:jC wd)(I:bM wd ct)(J:pJ wd lk){A:List<|Nat×Nat}{G:List Nat}(M:wc wd ct A G):uW lk A (w9 wd G) wd lk ct G.length:=⟨ok,I,J,A,G,M,rfl,rfl,Iff.rfl,λ_=>Iff.rfl,λ_ _ _ _ _ _=>Iff.rfl⟩
theorem jC.gone2(ok:jC wd)(x:Nat×Nat):jC (L3.gone2 wd x):=λp e i j h=>ok p e i j (cO h).2.2
theorem uW.step(F:uW mE A0 Z wd lk ct m){k:Nat}{x:Nat×Nat}(ex:ct[k]?=some x)(st:vL wd lk x fv)(pm:ir.Perm<|ct.eraseIdx k++bz wd x)(pw:ir.Pairwise ao):∃m',m=m'+2/\uW mE A0 Z (gone2 wd x) fv ir m':=by
 have hx:=Az ex;obtain⟨A,G,M,eZ,em,aR,fr,wk⟩:=F.ex;obtain⟨l,p,M',pG,h⟩:=M.step F.ok F.i ex pm;have zl:=pG.length_eq;rw[AJ,AJ] at zl;have nG:=M.nodup F.ok F.i.pu F.i.ctN F.i.ctP;have np:(plcs A).Nodup:=M.subl.nodup nG;have r:w9 (gone2 wd x) p=Z:=by rw[<-eZ,vE pG];rfl
 have I':=F.i.step ex pm pw;have J':=F.j.step F.i hx st;refine⟨p.length,by lia,F.ok.gone2 x,I',J',l,p,M',r,rfl,?_⟩;rcases h with⟨⟨e,i,j,C⟩,J⟩|⟨⟨t,n,C⟩,J⟩
 ·rcases st with⟨_,rfl⟩|⟨t,n,_,_,_,_,U,_⟩
  ·have T:∀x,x∈plcs l↔x∈plcs A:=λx=>(jd J).mem_iff;refine⟨(ar.perm J).trans aR,λx=>by rw[T x];exact fr x,λx y h1 h2 h3 g=>(nL.perm J).trans<|wk x y h1 (λz=>h2<|(T x).mpr z) h3 λz=>g<|(T y).mpr z⟩
  ·rw[C] at U;cases U
 ·rcases st with⟨⟨e,i,j,U⟩,_⟩|⟨t',n',x0,y0,u,v,_,mx,my,ne,ou,ov,pl,a4⟩
  ·rw[C] at U;cases U
  ·have a3:=kJ F.i.ctN hx;have O:=Tj F.j.lkN np J a3 mx my ne ou ov pl;have pp:(plcs A).Perm (x.1::x.2::plcs l):=by have:=jd J;rw[za] at this;exact this
   have hs:=oj pp np;have o:=oj ((i5 F.j.lkN mx my ne ou ov).trans<|((jd pl).symm.cons _).cons _) F.j.lkN;have pq:=O.pq.mem;have I:∀y,(y∈plcs fv/\y∉plcs l)↔(y∈plcs lk/\y∉plcs A):=λy=>by
    rw[o y,hs y];constructor
    ·rintro⟨⟨h1,h2,h3⟩,g⟩;exact⟨h1,λz=>g ⟨z,h2,h3⟩⟩
    ·rintro⟨h1,h2⟩;exact⟨⟨h1,λe=>h2<|e▸pq.1,λe=>h2<|e▸pq.2⟩,λz=>h2 z.1⟩
   refine⟨(ar.iff O o hs).symm.trans aR,λy=>(I y).trans<|fr y,λy z h1 h2 h3 g=>?_⟩;obtain⟨a1,a2⟩:=(I y).mp ⟨h1,h2⟩;obtain⟨b1,b2⟩:=(I z).mp ⟨h3,g⟩;obtain⟨_,y1,y2⟩:=(o y).mp h1;obtain⟨_,z1,z2⟩:=(o z).mp h3;refine Iff.trans ⟨λ ψ=>(by obtain⟨n,w⟩:=ψ;exact nL.back O.j (λa b h=>(O.dn a b h).1) O.pq w),λ ψ=>(by obtain⟨n,w⟩:=ψ;exact nL.on O.nd O.np O.j O.pq O.up n y1 y2 z1 z2 w)⟩<|wk y z a1 a2 b1 b2
theorem uW.ref(F:uW mE A0 Z wd lk ct m){k:Nat}{x:Nat×Nat}(ex:ct[k]?=some x)(U:Ju lk x):¬ar mE A0:=by
 have C:=Az ex;obtain⟨A,G,M,T,em,g,fr,wk⟩:=F.ex;obtain⟨_,_,_,_,h⟩:=M.step F.ok F.i ex<|.refl _;have l:=M.nodup F.ok F.i.pu F.i.ctN F.i.ctP;obtain⟨z,I,o⟩:=U;have lf:x.1∈plcs lk:=(w6.mem ⟨z,I,o⟩).1;rcases h with⟨⟨e,i,j,p⟩,_⟩|⟨_,r⟩
 ·obtain⟨t,n,J⟩:=(F.j.lkL x.1).mp lf;rw[p] at J;cases J
 ·exactλh=>ar.no F.j.lkN (M.subl.nodup l) ((aW r).mpr ⟨x,Ak,.inl rfl⟩) ⟨z,I,o⟩<|g.mpr h
theorem uW.end_(F:uW mE A0 Z wd lk [] m):wd=Z/\ar mE A0/\∀x y,w6 lk x y↔(x∈plcs mE/\x∉plcs A0)/\(y∈plcs mE/\y∉plcs A0)/\∃n,nL mE A0 n x y:=by
 obtain⟨A,G,M,g,em,j,I,U⟩:=F.ex;cases M;have no:∀a,a∉plcs ([]:List<|Nat×Nat):=λa=>nofun;refine⟨g,j.mp λa l=>⟨a,l,no a,.self⟩,λx y=>⟨λh=>?_,λ⟨h1,h2,h3⟩=>?_⟩⟩
 ·have J:=h.mem;exact⟨(I x).mp ⟨J.1,no x⟩,(I y).mp ⟨J.2,no y⟩,(U x y J.1 (no x) J.2<|no y).mp ⟨0,.one h⟩⟩
 ·obtain⟨o,p⟩:=(I x).mpr h1;obtain⟨b1,b2⟩:=(I y).mpr h2;obtain⟨n,w⟩:=(U x y o p b1 b2).mpr h3;cases w with
  |one h=>exact h
  |more _ h _=>obtain⟨z,r,_⟩:=h;cases r
end
def xJ(E3:X3)(I:cK):vh:=(zn (x5 (aC<|qk (cL cY<|aX<|wx 0 0)<|qk (cL cY<|aX<|wx 0 1)<|qk (cL cY<|aX<|wx 0 2) je)<|qp 1)
 (zn (HN (g_ (wx 1 2)<|gK je)<|x5 (ft I E3<|bN (qf 1)<|bJ 0)<|qp 1)
 (we<|qf 1)))
def jB(lk A fv:List<|Nat×Nat):Prop:=∀x y,w6 fv x y↔(x∈plcs lk/\x∉plcs A)/\(y∈plcs lk/\y∉plcs A)/\∃n,nL lk A n x y
def eG(C:Addr):cK:=λys L Q E=>∃a l c,∃wd:List (Option Kn),∃lk ct A:List (Nat×Nat),∃G:List Nat,ys=[xi a l c]/\L a=some (.lst<|jz wd)/\L l=some (.lst<|qt lk)/\L c=some (.lst<|qt ct)/\jC wd/\bM wd ct/\pJ wd lk/\wc wd ct A G/\(¬ar lk A->E C L)/\
 (ar lk A->∀fv I J c' L',qh L L'->L I=none->L J=none->L c'=none->I≠J->I≠c'->J≠c'->L' I=some (.lst<|jz<|w9 wd G)->L' J=some (.lst<|qt fv)->L' c'=some (.lst [])->pJ (w9 wd G) fv->jB lk A fv->Q (xi I J c') L')
theorem Tk :∀ys L Q E,eG C ys L Q E->v9 (xJ (rC E)<|dg C) 2 ys L Q:=by
 rintro ys L Q E ⟨a,l,c,wd,lk,ct,A,G,rfl,ha,hl,hc,ok,I,J,M,qe,q⟩;refine qb ha λU h1=>?_;have s1:=By (o:=.lst<|jz wd) h1;refine qb (s1 _ _ hl) λg h2=>?_;have s2:=s1.trans<|By (o:=.lst<|qt lk) h2;refine qb (s2 _ _ hc) λc1 h3=>?_;have a3:U≠g:=bx q9 h2;have a4:g≠c1:=bx q9 h3;have a5:U≠c1:=bx ((qg a3).trans q9) h3;have s3:=s2.trans<|By (o:=.lst<|qt ct) h3;have g1:qi (qi (qi L U<|.lst<|jz wd) g<|.lst<|qt lk) c1 (.lst<|qt ct) U=some (.lst<|jz wd):=(qg a5).trans<|(qg a3).trans q9;have g2:qi (qi (qi L U<|.lst<|jz wd) g<|.lst<|qt lk) c1 (.lst<|qt ct) g=some (.lst<|qt lk):=(qg a4).trans q9;have g3:qi (qi (qi L U<|.lst<|jz wd) g<|.lst<|qt lk) c1 (.lst<|qt ct) c1=some (.lst<|qt ct):=q9;have f2:=s1.none h2;have f3:=s2.none h3;generalize qi (qi (qi L U<|.lst<|jz wd) g<|.lst<|qt lk) c1 (.lst<|qt ct)=L3 at s3 g1 g2 g3 ⊢;refine⟨λm τ T=>∃U g c1 t gT r,τ=[some<|xi a l c,some<|xi U g c1]/\qh L T/\L U=none/\L g=none/\L c1=none/\U≠g/\U≠c1/\g≠c1/\T U=some (.lst<|jz t)/\T g=some (.lst<|qt gT)/\T c1=some (.lst<|qt r)/\uW lk A (w9 wd G) t gT r m,⟨_,U,g,c1,wd,lk,ct,rfl,s3,h1,f2,f3,a3,a5,a4,g1,g2,g3,uW.start ok I J M⟩,?_⟩;rintro m τ L4 ⟨U,g,c1,t,gT,r,rfl,s4,e1,e2,e3,d1,d2,d3,k1,k2,k3,F⟩;intro p hp;have sp:=By (o:=.lst []) hp;refine bB (n:=1) (m:=0) (by decide) (sp _ _ k3) q9 (gm r) .nil ?_;have s5:=s4.trans sp;have j1:=sp _ _ k1;have j2:=sp _ _ k2;have j3:=sp _ _ k3;generalize qi L4 p (.lst [])=L5 at s5 j1 j2 j3 ⊢;cases r with
 |nil=>
  obtain⟨ew,aR,fr⟩:=F.end_;subst ew;exact x8<|q aR gT U g c1 L5 s5 e1 e2 e3 d1 d2 d3 j1 j2 j3 F.j fr
 |cons x0 r=>
  refine⟨λτ T=>∃m',m'<m/\∃U g c1 t gT r,τ=[some<|xi a l c,some<|xi U g c1]/\qh L T/\L U=none/\L g=none/\L c1=none/\U≠g/\U≠c1/\g≠c1/\T U=some (.lst<|jz t)/\T g=some (.lst<|qt gT)/\T c1=some (.lst<|qt r)/\uW lk A (w9 wd G) t gT r m',?_,?_⟩
  ·rintro τ T ⟨m',h,z⟩;exact⟨m',h,z⟩
  ·refine⟨U,g,c1,t,gT,_,0,rfl,j1,j2,j3,F.i,F.j,λh=>⟨L,s5,qe<|F.ref (k:=0) rfl<|h 0 x0 rfl rfl⟩,λk x ek ex ac al a' l' c' T t1 r1 r2 r3 n1 n2 n3 v1 v2 v3 st pm pw=>?_⟩;obtain⟨m',em,F'⟩:=F.step ex st pm pw;exact⟨_,EC _,m',by lia,a',l',c',_,ac,al,rfl,s5.trans t1,s5.none r1,s5.none r2,s5.none r3,n1,n2,n3,v1,v2,v3,F'⟩
section
variable {A:List<|Nat×Nat}{b y w z x:Nat}
end
theorem To{l:List α}{x:α}(h:l[i]?=some x):l.drop i=x::l.drop (i+1):=by have I:=jb h;rw[Ck I];rw[Al I] at h;rw[Bc h]
noncomputable def Jv(I:zh)(J:zh):RD "steps_due" eJ 122 ["web"] (λV=>Iu V I/\Iv V J):=⟨_,λV B c _ _ _ _ _ _ _ U hN g=>(qd<|qz<|ji Io rfl B.bp Ip<|xh<|wT ["cut"] (ER (by rfl)) rfl (aB<|J_ 0) (uL 1) (λ_ _ _ _=>vK) λ_ _ _ _=>(C_ c.1 U<|xh<|C_ c.2 U<|xm (J_ 0)<|J_ 1))⟩
noncomputable def Tp(I:zh)(J:zh):vh:=(Jv I J).1
def Tq(K:Af)(I:Addr)(J:zh)(p1:cK)(p2:zh):vh:=(zn (x5 (jk J<|aX<|qf 0)<|qp 3)
 (zn (rV (mZ<|qk (xx bw (qf 2)<|bJ 1) je) (qp 4) (zn (aG (o_ (wx 3 2)<|gK je) (we<|Ff (qf 3)<|qf 4) vz)
 (zn (x5 (yC<|.bl false)<|qp 5)
 (zn (yA K I (λE3=>x5 (ft p1 E3<|qk (qf 3)<|qk (xx qC (jk p2<|qk (qf 4)<|qk (xx qC (qf 2)<|bJ 7)<|aX<|qf 1)<|cL A'<|aX<|wx 3 2) je)<|qp 3)<|x5 (yC<|.bl true)<|qp 5)
 (aG (yB<|qf 5) (we<|Ff (yC .non)<|qf 4) vz)))))
 (we<|aC<|qk (qf 3)<|qk (xx bw (qf 2)<|bJ 1) je)))
theorem re.size{A:List<|Nat×Nat}{G:List Nat}(M:re wd p q A G):∀{w:Wd},KW (jz wd) p w->G.length=2*w.size:=by
 induction M with
 |lf J _=>
  intro w h;cases w with|leaf=>rfl|node e l r=>obtain⟨_,_,I,_⟩:=h.inv_nd;rw[J] at I;cases I
 |nd J _ _ _ U g=>
  intro w h;cases w with
  |leaf=>have I:=h.inv_lf;rw[J] at I;cases I
  |node e l r=>
   obtain⟨i,j,I,o,t⟩:=h.inv_nd;rw[J] at I;cases I;have:=U o;have:=g t;rw[AJ,AJ,Ad];show _=2*(1+l.size+r.size);lia
theorem Jw{A:List<|Nat×Nat}{G:List Nat}{keep:qo->Prop}{Q:YK}(M:wc wd ct A G)(hw:∀c∈ct,∃w,KW (jz wd) c.1 w/\KW (jz wd) c.2 w.turn/\w.depth<=96)(hz:ct.length<=1000)(C:keep L)
 (T:∀(x:Nat×Nat) (w:Wd) (W:YK) (X:qo->Prop),KW (jz wd) x.1 w->w.depth<=96->W (.int w.size) L->g (.tup [.int (x.1:Int),.int (x.2:Int)]) (τ++List.replicate 1 none) L λI L2=>Fs I L2 λb L3=>vt b (te I L3 W)<|X L3)
 (q:∀bs:List Int,2*bs.sum=(G.length:Int)->∀p,L p=none->Q (.ref p) (qi L p<|.lst<|bs.map Y.int)):k_ (qt ct) keep 1 g Fs te τ L Q:=by
 refine gD (λi j=>∃(bs:List Int) (l:List<|Nat×Nat) (U:List Nat),j=bs.map Y.int/\wc wd (ct.drop i) l U/\2*bs.sum+(U.length:Int)=(G.length:Int)) (by rw[qt,Ag];exact CA hz (by decide)) C ⟨[],A,G,rfl,M,by simp⟩ ?_ ?_
 ·rintro i y j r ⟨bs,l,U,rfl,J,o⟩;rw[qt,Aq] at r;obtain⟨x,ex,rfl⟩:=AA.mp r;obtain⟨w,t,_,hd⟩:=hw x<|Az ex;rw[To ex] at J;cases J with
  |@cons _ _ Ax B Gx H m n=>
   refine T x w _ _ t hd ⟨_,EC _,rfl,bs++[(w.size:Int)],B,H,by rw[AI];rfl,n,?_⟩;have:=m.size t;rw[Ad] at o;rw[List.sum_append];simp;lia
 ·rintro j ⟨bs,l,U,rfl,J,o⟩;rw[qt,Ag,List.drop_length] at J;cases J;exact q bs (by simpa using o)
def qU:zh:=λys L Q=>∃a l c,∃wd:List (Option Kn),∃ct A:List (Nat×Nat),∃G:List Nat,ys=[xi a l c]/\L a=some (.lst<|jz wd)/\L c=some (.lst<|qt ct)/\ct.length<=1000/\wc wd ct A G/\(∀c∈ct,∃w,KW (jz wd) c.1 w/\KW (jz wd) c.2 w.turn/\w.depth<=96)/\∀s:Int,2*s=(G.length:Int)->∀L',qh L L'->Q (.int s) L'
theorem Ts:∀ys L Q,qU ys L Q->v9 (Tp (bA 120)<|xg 120) 1 ys L Q:=by
 rintro ys L Q ⟨a,l,c,I,t,A,G,rfl,J,U,g,M,hw,q⟩;refine ku U λkeep j=>Jw M hw g (j _ rfl) (λx w W X k d h=>?_) λbs o p r=>?_
 ·exact⟨a,jz I,x.1,w,rfl,J,k,by lia,w,rfl,by lia,h⟩
 ·exact⟨rfl,qb q9<|qm (oC _)<|x8<|q _ o _<|By r⟩
theorem uW.zero{mE A0:List<|Nat×Nat}{Z:List<|Option Kn}(F:uW mE A0 Z wd lk [] m):m=0:=by obtain⟨A,G,M,_,e,_⟩:=F.ex;cases M;exact e.symm
def om:zh:=λys L Q=>∃a l c,∃wd:List (Option Kn),∃lk ct A:List (Nat×Nat),∃G:List Nat,∃fa s:Int,ys=[xi a l c,.int fa,.int s]/\L a=some (.lst<|jz wd)/\L l=some (.lst<|qt lk)/\L c=some (.lst<|qt ct)/\jC wd/\bM wd ct/\pJ wd lk/\wc wd ct A G/\2*s=(G.length:Int)/\0<fa/\fa<1000000/\
 (¬ar lk A->∀k L',qh L L'->Q (.tup [.non,.int k]) L')/\(ar lk A->∀fv I J c' L',qh L L'->L' I=some (.lst<|jz<|w9 wd G)->L' J=some (.lst<|qt fv)->L' c'=some (.lst [])->pJ (w9 wd G) fv->jB lk A fv->Q (.tup [xi I J c',.int s]) L')
structure XF53(K:Af)(N:Addr):Prop where
 em:PySem.W.exmOne K (.ref N) (.ref N)=some true
theorem XF53.dn{K:Af}{N:Addr}(t:K.lookup Pt=some (PySem.W.tabObj #[]))(x:XF53 K N):XF53 (lessK Pt K) N:=⟨SD t x.em⟩
theorem Tt{K:Af}(xf:XF53 K C):∀ys L Q,om ys L Q->v9 (Tq K C kE (dg C) iM) 6 ys L Q:=by
 rintro ys L Q ⟨a,l,c,wd,lk,ct,A,G,fa,s,rfl,ha,hl,hc,ok,I,J,M,hs,f0,f1,q1,q2⟩;obtain⟨s,rfl⟩:∃n:Nat,s=(n:Int):=⟨s.toNat,by lia⟩;have sl:s<=1000:=by
  have nG:=M.nodup ok I.pu I.ctN I.ctP;have:=kh wd.length _ nG λy hy=>by obtain⟨p,hp,h⟩:=M.dn y hy;obtain⟨d,hd,e⟩:=aw hp;have:=I.lt hd;have:=h.le ok;rcases e with rfl|rfl<;>lia
  have:=I.wl;lia
 refine⟨a,l,c,_,_,_,rfl,ha,hl,hc,λa2 l2 c2 L2 s2 _ _ _ _ _ _ g1 g2 g3=>?_⟩;refine⟨⟨by lia,by lia⟩,?_⟩;rw[show((s:Int)+1).toNat=s+1 by lia];refine gy (λi τ r=>∃t T c1 g gT U m c4 c5,τ=[some<|xi a l c,some<|.int fa,some<|.int (s:Int),some<|xi t T c1,c4,c5]/\qh L r/\r t=some (.lst<|jz g)/\r T=some (.lst<|qt gT)/\r c1=some (.lst<|qt U)/\uW lk A (w9 wd G) g gT U m/\m+2*i=2*s) ⟨a2,l2,c2,wd,lk,ct,_,_,_,rfl,s2,g1,g2,g3,uW.start ok I J M,by lia⟩ ?_ ?_
 ·rintro i τ L4 hi ⟨t,T,c1,g,gT,U,m,c4,c5,rfl,s4,k1,k2,k3,F,hm⟩;intro p hp;have sp:=By (o:=.lst []) hp;refine bB (n:=1) (m:=0) (by decide) (sp _ _ k3) q9 (gm U) .nil ?_;have s5:=s4.trans sp;have j1:=sp _ _ k1;have j2:=sp _ _ k2;have j3:=sp _ _ k3;generalize qi L4 p (.lst [])=L5 at s5 j1 j2 j3 ⊢;cases U with
  |nil=>
   have:=F.zero;obtain⟨ew,aR,fr⟩:=F.end_;subst ew;have:i=s:=by lia
   subst this;rw[B4];exact x8<|q2 aR gT t T c1 L5 s5 j1 j2 j3 F.j fr
  |cons x0 U=>
   have lp:(0:Int)<((qt<|x0::U).length:Int):=by rw[qt,Ag];exact El.mpr<|B3 _
   refine⟨(by decide:(0:Int)<7),_,_,fa,rfl,by lia,by lia,f0,f1,λv v0 _=>qb j3 ⟨lp,?_⟩⟩;obtain⟨k,ek,hk⟩:∃k:Nat,v % ((qt<|x0::U).length:Int)=(k:Int)/\k<(x0::U).length:=by have h1:=CD v<|Int.ne_of_gt lp;have h2:=Ce v lp;rw[qt,Ag] at h1 h2 ⊢;exact⟨(v % ((x0::U).length:Int)).toNat,by lia,by lia⟩
   obtain⟨x,ex⟩:∃x,(x0::U)[k]?=some x:=⟨_,Al hk⟩;refine⟨t,T,c1,g,gT,_,_,rfl,j1,j2,j3,F.i,F.j,λh=>⟨xf.em,?_⟩,λk' x' a4 a3 a5 ac a' l' c' r t1 r1 r2 r3 n1 n2 n3 v1 v2 v3 st pm pw=>?_⟩
   ·exact x8<|q1 (F.ref ex<|h k x ek ex) _ L5 s5
   ·cases BK.mp (ek.symm.trans a4);rw[ex] at a3;cases a3;obtain⟨m',em,F'⟩:=F.step ex st pm pw;exact⟨_,EC _,a',l',c',_,a5,ac,m',_,_,rfl,s5.trans t1,v1,v2,v3,F',by lia⟩
 ·rintro τ r ⟨t,T,c1,g,gT,U,m,c4,c5,rfl,s4,k1,k2,k3,F,hm⟩;exact absurd hm (by lia)
theorem rA{L:qo}{n:Nat}:∀l:List (Nat×Nat),Paired (gr L<|n+2) (qt l)<|qt l
 |[]=>.nil
 |_::r=>.cons (.tup<|.cons (.flat rfl)<|.cons (.flat rfl) .nil)<|rA r
theorem oz{a b:Addr}{xs:List Y}(I:L a=some (.lst xs))(J:L b=some (.lst xs))(l:xs.length<=1000)(p:Paired (gr L n) xs xs):gr L (n+1) (.ref a) (.ref b):=.inr<|.inr ⟨a,b,xs,xs,rfl,rfl,I,J,l,p⟩
theorem pY{a c I J:Addr}(h1:L a=some (.lst<|jz wd))(h2:L l=some (.lst<|qt lk))(h3:L c=some (.lst<|qt ct))(g1:L I=some (.lst<|jz wd))(g2:L J=some (.lst<|qt lk))(g3:L c'=some (.lst<|qt ct))(U:wd.length<=1000)(g:lk.length<=1000)(j:ct.length<=1000):gr L 4 (xi a l c) (xi I J c'):=
 .tup (.cons (oz h1 g1 (by rw[Ag];exact U)<|oq wd) (.cons (oz h2 g2 (by rw[Ag];exact g)<|rA lk) (.cons (oz h3 g3 (by rw[Ag];exact j)<|rA ct) .nil)))
theorem yf{l m:List<|Nat×Nat}(h:l.Perm m)(I:l.Pairwise ao)(J:m.Pairwise ao):l=m:=
 List.Perm.eq_of_pairwise (le:=ao) (λa b _ _ h1 h2=>by unfold ao at h1 h2;exact Prod.ext (by lia) (by lia)) I J h
section
variable {K:Af}{O N b1 b2 b3 b4 b5 b6 b7 b8 b9:Addr}{a c:Addr}{o3:Option Y}{ki:Int}
end
theorem iO.mvp{E:List Nat}{f:Nat->Nat}(T:iO ks R E)(j:yE f (ks.map some) wd):ve (bX f R)<=96/\gb (bX f R)<=96/\(zc<|bX f R).Nodup/\(ze<|bX f R).Nodup/\(∀p∈zc (bX f R),p.2<1000000)/\∀p∈ze (bX f R),p.2<1000000:=by
 have rd:=w5<|bX f R;have C:=aq<|bX f R;have o:=(fK f R).length_eq;have r:=T.tp.length_eq;have hz:=T.len;have wl:=j.len;have lo:(ks.map some).length=ks.length:=Ag ..;rw[Ag] at o;rw[BY] at r;obtain⟨_,_,b1,b2⟩:=T.pairs;have inj:∀a b,a<ks.length->b<ks.length->f a=f b->a=b:=λa b U g=>j.inj (by lia) (by lia);have flt:∀p,p<ks.length->f p<wd.length:=λp J=>j.gap.lt (A7.mpr (by lia)) (by lia);have cu:=T.sr.cuts T.nd;rw[bE,bR];have I:∀{l:List<|Nat×Nat},(∀p∈l,p.1<ks.length/\p.2<ks.length)->∀x∈plcs l,x<ks.length:=λh x t=>by
  obtain⟨p,J,e⟩:=aw t;rcases e with rfl|rfl
  ·exact(h p J).1
  ·exact(h p J).2
 refine⟨by lia,by lia,zx<|(qA f _).nodup_iff.mpr<|cT (T.sr.lkI T.nd).nd λa U b g=>inj a b (I b1 a U)<|I b1 b g,zx (by rw[kO];exact cT cu.1 λa U b g=>inj a b (I b2 a U)<|I b2 b g),λp J=>?_,λp J=>?_⟩
 ·obtain⟨d,hd,rfl⟩:=BS.mp J;have:=flt _ (b1 d hd).1;have:=flt _ (b1 d hd).2;show max _ _<_;lia
 ·obtain⟨d,hd,rfl⟩:=BS.mp J;have:=flt _ (b2 d hd).2;show f d.2<_;lia
theorem iO.depC{E:List Nat}{f:Nat->Nat}(T:iO ks R E)(U:yE f (ks.map some) wd)(g:ct.Perm<|ze<|bX f R):∀c∈ct,∃w,KW (jz wd) c.1 w/\KW (jz wd) c.2 w.turn/\w.depth<=96:=λc j=>by
 rw[bR] at g;obtain⟨c0,I,rfl⟩:=BS.mp<|g.mem_iff.mp j;obtain⟨w,J,l⟩:=T.sr.cutw c0 I;have e:∀{p w},cM ks p w->KW (jz<|ks.map some) p w:=λh=>by rw[dm];exact h
 obtain⟨k,o⟩:=(e J).ex;have h1:=(e J).dep<|mD T.ok;have h2:=jb o;have h3:=T.len;rw[Ag] at h2;exact⟨w,U.word<|e J,U.word<|e l,by lia⟩
section
variable {K:Af}{O W T N:Addr}{a c:Addr}{A:List<|Nat×Nat}{G:List Nat}
end
def Tu(K:Af)(J:Addr)(U:zh)(p1:zh)(p2:zh)(p3:zh)(p4:zh)(p5:zh)(p6:zh)(p7:zh)(p8:zh)(p9:zh)(r4:zh)(I:cK):vh:=(zn (x5 (jk U<|aX<|qf 0)<|qp 1)
 (zn (x5 (jk p1<|qk (jk p2<|qk (jk p3<|qk (qf 0)<|bN (qf 1)<|bJ 96) je)<|aX<|qf 1)<|qp 2)
 (zn (x5 (cL Gq<|qk (s_ 1 (dr<|wx 2 2) (qp 9) Fs<|jk p4<|qk (jk p5<|bN (wx 2 0)<|wx 9 0) je) je)<|qp 3)
 (zn (aG (wC<|yB<|jk p6<|qk (jk p7<|qk (jk p8<|aX<|qf 2) je)<|aX<|qf 3) (we<|yC<|.bl false) vz)
 (zn (x5 (jk p9<|qk (qf 2)<|qk (xx bw (bJ 16807)<|xx qC (xx H0 (bJ 2)<|jk r4<|bN (qf 1)<|bJ 424243)<|bJ 9973)<|aX<|qf 3)<|qp 4)
 (zn (x5 (jk p9<|qk (qf 2)<|qk (xx bw (bJ 69621)<|xx qC (xx H0 (bJ 2)<|jk r4<|bN (qf 1)<|bJ 868687)<|bJ 9967)<|aX<|qf 3)<|qp 5)
 (zn (x5 (jk p8<|aX<|qf 2)<|qp 6)
 (zn (x5 (yC .non)<|qp 7)
 (zn (x5 (yC<|.bl false)<|qp 8)
 (zn (yA K J (λE3=>x5 (ft I E3<|aX<|qf 6)<|qp 7)<|x5 (yC<|.bl true)<|qp 8)
 (zn (aG (wC<|yB<|jk p6<|bN (qf 6)<|qf 2) (we<|yC<|.bl false) vz)
 (zn (aG (yB<|qf 8) (we<|rX (dY false<|wx 4 0)<|dY false<|wx 5 0) vz)
 (zn (aG (wX (yB<|dY false<|wx 4 0)<|wX (yB<|dY false<|wx 5 0)<|wX (g_ (wx 4 1)<|qf 3)<|g_ (wx 5 1)<|qf 3) (we<|yC<|.bl false) vz)
 (zn (aG (wX (wC<|yB<|Gb .tuple<|qf 7)<|wX (g_ (qR 7)<|bJ 3)<|g_ (wx 7 2)<|gK je) (we<|yC<|.bl false) vz)
 (we<|rX (jk p6<|bN (wx 4 0)<|qf 7)<|jk p6<|bN (wx 5 0)<|qf 7)))))))))))))))
def tZ(K:Af)(I:Addr)(J:cK)(p1:zh):vh:=(zn (yA K I (λE3=>x5 (ft J E3<|aX<|qf 6)<|qp 7)<|x5 (yC<|.bl true)<|qp 8)
 (zn (aG (wC<|yB<|jk p1<|bN (qf 6)<|qf 2) (we<|yC<|.bl false) vz)
 (zn (aG (yB<|qf 8) (we<|rX (dY false<|wx 4 0)<|dY false<|wx 5 0) vz)
 (zn (aG (wX (yB<|dY false<|wx 4 0)<|wX (yB<|dY false<|wx 5 0)<|wX (g_ (wx 4 1)<|qf 3)<|g_ (wx 5 1)<|qf 3) (we<|yC<|.bl false) vz)
 (zn (aG (wX (wC<|yB<|Gb .tuple<|qf 7)<|wX (g_ (qR 7)<|bJ 3)<|g_ (wx 7 2)<|gK je) (we<|yC<|.bl false) vz)
 (we<|rX (jk p1<|bN (wx 4 0)<|qf 7)<|jk p1<|bN (wx 5 0)<|qf 7))))))
theorem oQ{l1 l2 A:List<|Nat×Nat}(I:pJ wd l1)(J:pJ wd l2)(f1:jB lk A l1)(f2:jB lk A l2):l1=l2:=
 yf ((A3 (zx I.lkN)<|zx J.lkN).mpr λz=>by
  have key:∀{l m:List<|Nat×Nat},pJ wd l->pJ wd m->(∀x y,w6 l x y->w6 m x y)->z∈l->z∈m:=λ{l m} K M h U=>by
   obtain⟨y,g,e|e⟩:=h z.1 z.2 ⟨z,U,.inl rfl⟩
   ·rw[show z=y from e.symm];exact g
   ·have h1:=(M.lkA y g).1;have h2:=(K.lkA z U).1;rw[e] at h1;exact(Nat.lt_asymm h1 h2).elim
  exact⟨key I J λx y h=>(f2 x y).mpr<|(f1 x y).mp h,key J I λx y h=>(f1 x y).mpr<|(f2 x y).mp h⟩) I.lkS J.lkS
section
variable {K:Af}{N:Addr}{a c a2 c2:Addr}{A:List<|Nat×Nat}{G:List Nat}{s:Int}
theorem Tv(xf:XF53 K N)(ok:jC wd)(I:bM wd ct)(J:pJ wd lk)(M:wc wd ct A G)(U:¬ar lk A)(g:L a=some (.lst<|jz wd))(j:L l=some (.lst<|qt lk))(hc:L c=some (.lst<|qt ct))(g1:L a2=some (.lst<|jz wd))(g2:L l2=some (.lst<|qt lk))(g3:L c2=some (.lst<|qt ct)){k1 k2:Int}(q:En.rt (.bl true) L):
 tZ K N (eG N) (aI 4) En [o0,o1,some<|xi a l c,some<|.int s,some<|.tup [.non,.int k1],some<|.tup [.non,.int k2],some<|xi a2 l2 c2,some .non,some<|.bl false] L:=by
 have o:=I.wl;have p:=I.len;have r:=J.ll;exact⟨a2,l2,c2,wd,lk,ct,A,G,rfl,g1,g2,g3,ok,I,J,M,λ_=>⟨xf.em,_,_,rfl,pY g1 g2 g3 g j hc (by lia) (by lia) (by lia),q⟩,λz=>(U z).elim⟩
theorem Tw(ok:jC wd)(I:bM wd ct)(J:pJ wd lk)(M:wc wd ct A G)(aR:ar lk A)(ha:L a=some (.lst<|jz wd))(hl:L l=some (.lst<|qt lk))(hc:L c=some (.lst<|qt ct))(g1:L a2=some (.lst<|jz wd))(g2:L l2=some (.lst<|qt lk))(g3:L c2=some (.lst<|qt ct)){d1 d2 d3 r C T:Addr}{gT lk2:List<|Nat×Nat}
 (h1:L d1=some (.lst<|jz<|w9 wd G)) (h2:L d2=some (.lst<|qt gT)) (h3:L d3=some (.lst [])) (j:pJ (w9 wd G) gT) (f1:jB lk A gT) (k1:L r=some (.lst<|jz<|w9 wd G)) (k2:L C=some (.lst<|qt lk2)) (k3:L T=some (.lst [])) (J2:pJ (w9 wd G) lk2) (f2:jB lk A lk2) (q:∀L',qh L L'->En.rt (.bl true) L'):
 tZ K N (eG N) (aI 4) En [o0,o1,some<|xi a l c,some<|.int s,some<|.tup [xi d1 d2 d3,.int s],some<|.tup [xi r C T,.int s],some<|xi a2 l2 c2,some .non,some<|.bl false] L:=by
 have wl:=I.wl;have cl:=I.len;have ll:=J.ll;refine⟨a2,l2,c2,wd,lk,ct,A,G,rfl,g1,g2,g3,ok,I,J,M,λz=>(z aR).elim,λ_ lk3 a3 l3 c3 L3 U _ _ _ _ _ _ r1 r2 r3 J3 f3=>?_⟩;cases oQ j J3 f1 f3;cases oQ J2 j f2 f1;have l1:=j.ll;refine⟨_,_,rfl,pY (U _ _ g1) (U _ _ g2) (U _ _ g3) (U _ _ ha) (U _ _ hl) (U _ _ hc) (by lia) (by lia) (by lia),?_⟩;refine aZ rfl<|aZ (by simp[nb])<|aZ (by simp[nb]) ?_;intro p hp;have g:=By (o:=.lst []) hp;refine bB (n:=0) (m:=0) (by decide) (g _ _ r3) q9 .nil .nil ?_;have t:=U.trans g;have al:∀{x y z:Addr},L x=some (.lst<|jz<|w9 wd G)->L y=some (.lst<|qt gT)->L z=some (.lst [])->gr (qi L3 p<|.lst []) 4 (xi x y z) (xi a3 l3 c3):=λh1 h2 h3=>pY (ct:=[]) (t _ _ h1) (t _ _ h2) (t _ _ h3) (g _ _ r1) (g _ _ r2) (g _ _ r3) (by rw[fI];lia) (by lia)<|Bb _;exact⟨_,_,rfl,al h1 h2 h3,_,_,rfl,al k1 k2 k3,q _ t⟩
end
theorem Tx{K:Af}{N:Addr}(xf:XF53 K N):∀ys L Q,qY Pt lamQ ys L Q->v9 (Tu K N qP iN kF (mW Pt) (aH 120) (xg 120) (aI 4) qU kE om dO<|eG N) 9 ys L Q:=by
 rintro ys L Q ⟨ns,rfl,ac,hL,q⟩;have hP:L Pt=some (.tb lamQ):=by rw[hL];exact q9
 clear hL;refine⟨ns,rfl,λst=>?_⟩;refine⟨ns,st,96,_,rfl,rfl,by lia,by decide,hP,λks R E C f a L1 s1 g1 T rn=>?_⟩;obtain⟨m1,m2,m3,m4,m5,m6⟩:=T.mvp rn;refine⟨a,jz C,bX f R,rfl,g1,by lia,by lia,m3,m4,m5,m6,λr l' c' lk ct L2 s2 _ _ _ _ _ _ e1 e2 e3 pl a4 pc a5=>?_⟩;obtain⟨I,J0⟩:=T.cutI rn pl a4 pc a5;have cl:=I.len;refine⟨r,l',c',C,lk,ct,st,rfl,e1,e2,e3,J0,I.cw,by lia,λD a1 L3 s3 g3 J'=>?_⟩;have J:=J'.c;have U:=s3 _ _ e1;have g:=s3 _ _ e3;obtain⟨A,G,M⟩:=yD I.cw;have ok:=rn.gap.ok;have hw:=T.depC rn pc;refine ku g λkeep kp=>Jw M hw (by lia) (kp _ rfl) (λx w W X k d h=>?_) λbs hs p hp=>⟨rfl,qb q9<|qm (oC _) ?_⟩
 ·exact⟨r,jz C,x.1,w,rfl,U,k,by lia,w,rfl,by lia,h⟩
 have s4:=By (o:=.lst<|bs.map Y.int) hp;have U:=s4 _ _ U;have j:=s4 _ _ g3;have g:=s4 _ _ g;generalize qi L3 p (.lst<|bs.map Y.int)=L4 at U j g ⊢;generalize bs.sum=s at hs ⊢;refine⟨r,D,c',_,_,_,rfl,U,j,g,λa2 l2 c2 L5 s5 _ _ _ _ _ _ v1 v2 v3=>?_⟩;refine⟨a2,l2,c2,C,ct,A,G,rfl,v1,v3,by lia,M,hw,λs' a3 L6 s6=>?_⟩;obtain rfl:s'=s:=by lia
 refine⟨_,_,rfl,.flat rfl,?_⟩;have t6:=s5.trans s6;have U:=t6 _ _ U;have j:=t6 _ _ j;have g:=t6 _ _ g;refine⟨st,424243,rfl,by decide,by decide,λv v0 v1=>⟨.inl ⟨by decide,by decide⟩,(by decide:(0:Int)<9973),?_⟩⟩;have b1:=CD (2*v) (by decide:(9973:Int)≠0);have b2:=Ce (2*v) (by decide:(0:Int)<9973);refine⟨r,D,c',C,a1,ct,A,G,_,s',rfl,U,j,g,ok,I,J,M,a3,by lia,by lia,λnR x1 L7 s7=>?_,λaR l1 d1 d2 d3 L7 s7 h1 h2 h3 J1 f1=>?_⟩
 all_goals
  have U:=s7 _ _ U;have j:=s7 _ _ j;have g:=s7 _ _ g;refine⟨st,868687,rfl,by decide,by decide,λu u0 u1=>⟨.inl ⟨by decide,by decide⟩,(by decide:(0:Int)<9967),?_⟩⟩;have c1:=CD (2*u) (by decide:(9967:Int)≠0);have c2:=Ce (2*u) (by decide:(0:Int)<9967)
 ·refine⟨r,D,c',C,a1,ct,A,G,_,s',rfl,U,j,g,ok,I,J,M,a3,by lia,by lia,λnR x2 L8 t=>?_,λaR=>(nR aR).elim⟩;have U:=t _ _ U;have j:=t _ _ j;have g:=t _ _ g;refine⟨r,D,c',_,_,_,rfl,U,j,g,λa2 l2 c2 L9 l _ _ _ _ _ _ w1 w2 w3=>?_⟩;exact Tv xf ok I J M nR (l _ _ U) (l _ _ j) (l _ _ g) w1 w2 w3<|x8<|q _
 ·refine⟨r,D,c',C,a1,ct,A,G,_,s',rfl,U,j,g,ok,I,J,M,a3,by lia,by lia,λnR=>(nR aR).elim,λaR l2 i1 i2 i3 L8 t j1 j2 j3 J2 f2=>?_⟩;have U:=t _ _ U;have j:=t _ _ j;have g:=t _ _ g;refine⟨r,D,c',_,_,_,rfl,U,j,g,λa2 l2 c2 L9 l _ _ _ _ _ _ w1 w2 w3=>?_⟩;have t9:=t.trans l;exact Tw ok I J M aR (l _ _ U) (l _ _ j) (l _ _ g) w1 w2 w3 (t9 _ _ h1) (t9 _ _ h2) (t9 _ _ h3) J1 f1 (l _ _ j1) (l _ _ j2) (l _ _ j3) J2 f2 λL' _=>x8<|q L'
end L3
end
set_option maxRecDepth 100000
set_option maxHeartbeats 8000000
namespace K53
open PySem L2 L3 Words
abbrev ng:Str:="_law_script"
abbrev nh:Str:="_law_knots"
abbrev ni:Str:="_law_web_here"
theorem Tz{us:List Value}{n:Nat}(h:us.length=n+1):∃a r,us=a::r/\r.length=n:=by cases us with|nil=>cases h|cons a r=>exact⟨a,r,rfl,Nat.succ.inj h⟩
structure B_(V:V_):Prop extends B0_ V where
 hp:∃h:Heap,V.K.In h/\h.Ns mainGlobals V.mg
 D0:zb V.K "is_leaf" oG
 D1:zb V.K "size_of" oV
 D2:zb V.K "word_at" ig
 D3:zb V.K "parts_of" gQ
 D4:zb V.K "partner_of" cZ
 D5:zb V.K "links_without" dQ
 D6:zb V.K "cut_step" mO
 D7:zb V.K "steps_due" eJ
 D8:zb V.K "cut_free" lh
 D9:zb V.K "_law_cell_at" az
 D10:zb V.K "_law_stir" eQ
 D11:zb V.K "_law_pick" dq
 D12:zb V.K "_law_mix" gC
 D13:zb V.K "_law_name" dh
 D14:zb V.K "_law_word" dw
 D15:zb V.K "_law_flip" eE
 D16:zb V.K "_law_weight" cH
 D17:zb V.K "_law_mirror" fZ
 D18:zb V.K "_law_join" fA
 D19:zb V.K "_law_fold" eY
 D20:zb V.K "_law_cut" mf
 D21:zb V.K "_law_tree" eO
 D22:zb V.K "_law_gather" bu
 D23:zb V.K "_law_web" gA
 D24:zb V.K "_law_open" jO
 D25:DefInT V.K "_law_order" s__law_order V.Pt
 D26:zb V.K "_law_moved" cc
 D27:zb V.K "_law_gapped" cD
 D28:zb V.K "_law_swapped" bD
 D29:zb V.K "_law_looped" cG
 D30:zb V.K "_law_crossed" bC
 D31:zb V.K "_law_number" cA
 D32:zb V.K "_law_alike" dN
 D33:zb V.K "_law_copy" dt
 D34:zb V.K "_law_sown" fD
 D35:zb V.K "_law_deep" dc
 D36:zb V.K "_law_grown" cf
 D37:zb V.K "_law_run" m7
 md:V.mg "NoCut"=some (.ref V.Ca)
 x_NoCut:EL V.K V.Ca
 xf:L3.XF53 V.K V.Ca
abbrev c0(_:V_):Prop:=True
local macro_rules|`(tactic| walk_at "s")=>`(tactic| exact⟨rfl,rfl,rfl,by decide +kernel,rfl,by decide +kernel,by decide +kernel⟩)
local macro_rules|`(tactic| walk_at "l")=>`(tactic| first|(rintro _ _ _ ⟨_,e,_⟩;rw[e];rfl)|(rintro _ _ _ ⟨_,_,e,_⟩;rw[e];rfl)|(rintro _ _ _ ⟨_,_,_,e,_⟩;rw[e];rfl)|(rintro _ _ _ ⟨_,_,_,_,e,_⟩;rw[e];rfl)|(rintro _ _ _ ⟨_,_,_,_,_,e,_⟩;rw[e];rfl)|(rintro _ _ _ ⟨_,_,_,_,_,_,e,_⟩;rw[e];rfl)|(rintro _ _ _ ⟨_,_,_,_,_,_,_,e,_⟩;rw[e];rfl)|(rintro _ _ _ ⟨_,_,_,_,_,_,_,_,e,_⟩;rw[e];rfl)|(rintro _ _ _ ⟨_,_,_,_,_,_,_,_,_,e,_⟩;rw[e];rfl)|(rintro _ _ _ ⟨_,_,_,_,_,_,_,_,_,_,e,_⟩;rw[e];rfl))
local macro_rules|`(tactic| walk_at "x")=>`(tactic| (intro _;walk_at "l"))
local macro_rules|`(tactic| walk_at "b")=>`(tactic| (intro _ _ _ _ _ _ us hl;(repeat (obtain⟨_,_,e,h⟩:=Tz hl;clear hl;subst e;have hl:=h;clear h));cases List.eq_nil_of_length_eq_zero hl;rfl))
section
variable {f:Addr}{fd:FuncData}{x q:Str}{st:Stmt}{ps:List Str}(V:V_)(k:Nat)(N:List Str)
theorem W_{sp:zh}{t:vh}(F:Fun V.K x q st f fd)(U:∀ys L Q,sp ys L Q->v9 t N.length ys L Q)(h:∀(eK:Value) (A:Around) (outer:List Env) (s:Shared) (H:Hp) (E:XK),kz k (A.deeper<|PyProof.Rows.envOfC q (ql st) s.heap.objs.size f eK)->N.Nodup->(A.deeper<|PyProof.Rows.envOfC q (ql st) s.heap.objs.size f eK).units+128<cLine->nO (br CX0 V.P V.w V.K V.mg V.base N q (ql st) f eK A outer s H E).nox (jc st) t)(I:ww N ps (ql st):=by walk_at "s")(len:∀ys L Q,sp ys L Q->ys.length=ps.length:=by walk_at "l"):Fn3 V.P V.w V.K V.mg V.base (k+1) f fd ps sp:=
 OZ F I len λeK A outer s H E J=>⟨t,h eK A outer s H E J I.nd<|F9 J,U⟩
theorem M_{sp:zh}{t:vh}(I:∃h:Heap,V.K.In h/\h.Ns mainGlobals V.mg)(D:zb V.K x st)(J:∀ys L Q,sp ys L Q->v9 t N.length ys L Q)(h:∀f,∀(eK:Value) (A:Around) (outer:List Env) (s:Shared) (H:Hp) (E:XK),kz k (A.deeper<|PyProof.Rows.envOfC x (ql st) s.heap.objs.size f eK)->N.Nodup->(A.deeper<|PyProof.Rows.envOfC x (ql st) s.heap.objs.size f eK).units+128<cLine->nO (br CX0 V.P V.w V.K V.mg V.base N x (ql st) f eK A outer s H E).nox (jc st) t)(U:ww N ps (ql st):=by walk_at "s")(len:∀ys L Q,sp ys L Q->ys.length=ps.length:=by walk_at "l")(g:∀(kV hQ pm:Value) (an:Option Addr) (eK ct:Value) (us:List Value),us.length=ps.length->bindArgs (PySem.W.fnOf x x (xw st) (jc st) (ql st) .none kV hQ pm an eK ct) ⟨us,[]⟩=pure (ps.zip us):=by walk_at "b"):Q_ V (k+1) x ps sp:=by obtain⟨_,X,G⟩:=I;obtain⟨f,fd,F,b,m⟩:=D.use X G g;exact Cal.of (W_ V k N F J (h f) U len) b F.kp m
theorem R_{sp:Nat->zh}{t:Nat->vh}(I:∃h:Heap,V.K.In h/\h.Ns mainGlobals V.mg)(D:zb V.K x st)(no:∀ys L Q,¬sp 0 ys L Q)(J:∀n ys L Q,sp (n+1) ys L Q->v9 (t n) N.length ys L Q)(h:∀n f,Q_ V (n+k) x ps (sp n)->∀(eK:Value) (A:Around) (outer:List Env) (s:Shared) (H:Hp) (E:XK),kz (n+k) (A.deeper<|PyProof.Rows.envOfC x (ql st) s.heap.objs.size f eK)->N.Nodup->(A.deeper<|PyProof.Rows.envOfC x (ql st) s.heap.objs.size f eK).units+128<cLine->nO (br CX0 V.P V.w V.K V.mg V.base N x (ql st) f eK A outer s H E).nox (jc st) (t n))(n:Nat)(U:ww N ps (ql st):=by walk_at "s")(len:∀n ys L Q,sp n ys L Q->ys.length=ps.length:=by walk_at "x")(g:∀(kV hQ pm:Value) (an:Option Addr) (eK ct:Value) (us:List Value),us.length=ps.length->bindArgs (PySem.W.fnOf x x (xw st) (jc st) (ql st) .none kV hQ pm an eK ct) ⟨us,[]⟩=pure (ps.zip us):=by walk_at "b"):Q_ V (n+k) x ps (sp n):=by
 obtain⟨_,X,G⟩:=I;obtain⟨f,fd,F,b,m⟩:=D.use X G g
 induction n with|zero=>exact Cal.of (Fn3.never no) b F.kp m|succ n j=>rw[Nat.add_right_comm];exact Cal.of (W_ V (n+k) N F (J n) (h n f j) U<|len _) b F.kp m
theorem X_{sp:cK}{t:X3->vh}(U:∃h:Heap,V.K.In h/\h.Ns mainGlobals V.mg)(D:zb V.K x st)(g:∀ys L Q E,sp ys L Q E->v9 (t<|rC E) N.length ys L Q)(h:∀f,∀(eK:Value) (A:Around) (outer:List Env) (s:Shared) (H:Hp) (E:XK) (E3:X3),kz k (A.deeper<|PyProof.Rows.envOfC x (ql st) s.heap.objs.size f eK)->bY (br (f_ V.P V.w) V.P V.w V.K V.mg V.base N x (ql st) f eK A outer s H E) (Fe ⟨V.K,V.P,V.w⟩ E3)->N.Nodup->(A.deeper<|PyProof.Rows.envOfC x (ql st) s.heap.objs.size f eK).units+128<cLine->nO (br (f_ V.P V.w) V.P V.w V.K V.mg V.base N x (ql st) f eK A outer s H E) (jc st) (t E3))(I:ww N ps (ql st):=by walk_at "s")(len:∀ys L Q E,sp ys L Q E->ys.length=ps.length:=by walk_at "x")(j:∀(kV hQ pm:Value) (an:Option Addr) (eK ct:Value) (us:List Value),us.length=ps.length->bindArgs (PySem.W.fnOf x x (xw st) (jc st) (ql st) .none kV hQ pm an eK ct) ⟨us,[]⟩=pure (ps.zip us):=by walk_at "b"):gw V.P V.w V.K V.mg V.base (k+1) x ps sp:=by obtain⟨_,X,G⟩:=U;obtain⟨f,fd,F,b,m⟩:=D.use X G j;exact⟨_,_,Pw F I len (λeK A outer s H E E3 J l=>h f eK A outer s H E E3 J l I.nd<|F9 J) g,b,F.kp,m⟩
theorem T_{sp:zh}{t:vh}(U:∃h:Heap,V.K.In h/\h.Ns mainGlobals V.mg)(D:DefInT V.K x st V.Pt)(g:∀ys L Q,sp ys L Q->v9 t N.length ys L Q)(h:∀f,∀(eK:Value) (A:Around) (outer:List Env) (s:Shared) (H:Hp) (E:XK),DZ V.K eK V.Pt->kz k (A.deeper<|PyProof.Rows.envOfC x (ql st) s.heap.objs.size f eK)->N.Nodup->(A.deeper<|PyProof.Rows.envOfC x (ql st) s.heap.objs.size f eK).units+128<cLine->nO (br CX0 V.P V.w V.K V.mg V.base N x (ql st) f eK A outer s H E).nox (jc st) t)(I:ww N ps (ql st):=by walk_at "s")(len:∀ys L Q,sp ys L Q->ys.length=ps.length:=by walk_at "l")(j:∀(kV hQ pm:Value) (an:Option Addr) (eK ct:Value) (us:List Value),us.length=ps.length->bindArgs (PySem.W.fnOf x x (xw st) (jc st) (ql st) .none kV hQ pm an eK ct) ⟨us,[]⟩=pure (ps.zip us):=by walk_at "b"):Q_ V (k+1) x ps sp:=by obtain⟨_,X,G⟩:=U;obtain⟨f,fd,F,b,m⟩:=D.use X G j;exact Cal.of (RH F I len λeK A outer s H E C J=>⟨t,h f eK A outer s H E C J I.nd<|F9 J,g⟩) b F.kp m
end
abbrev c1(V:V_):Prop:=c0 V/\Gr V (wm)
theorem d1(V:V_)(B:B_ V)(c:c0 V):c1 V:=⟨c,M_ V 0 ["word"] B.hp B.D0 u8 λ_ _ _ _ _ _ _ I hN J=>(qd<|qz<|pP (sE _ _ _) (J_ 0) (O9 B.k_LEAF_KINDS rfl) (by with_unfolding_all rfl))⟩
abbrev c2(V:V_):Prop:=c1 V/\Iu V (bA 120)
theorem d2(V:V_)(B:B_ V)(c:c1 V):c2 V:=⟨c,R_ V 2 ["word"] B.hp B.D1 ut ur (λ_ _ I _ _ _ _ _ _ J hN U=>(qa (zu (vm<|C_ c.2 J<|xh<|qv 0) (qd<|qz qc) z9)<|qd<|qz<|qj jh (qj jh qc<|C_ I J<|xh<|J_ 0)<|C_ I J<|xh<|J_ 0)) 120⟩
abbrev c3(V:V_):Prop:=c2 V/\Iv V (xg 120)
theorem d3(V:V_)(B:B_ V)(c:c2 V):c3 V:=⟨c,R_ V _ _ B.hp B.D2 kZ uZ (λn=>(oW _ _).2 V B.toB0_ c.1.2 n) 120⟩
abbrev c4(V:V_):Prop:=c3 V/\Qe V (eF)
theorem d4(V:V_)(B:B_ V)(c:c3 V):c4 V:=⟨c,M_ V _ _ B.hp B.D3 Rw<|(lV _).2 V B.toB0_ c.1.1.2⟩
abbrev c5(V:V_):Prop:=c4 V/\Qf V (dJ)
theorem d5(V:V_)(B:B_ V)(c:c4 V):c5 V:=⟨c,M_ V _ _ B.hp B.D4 uu<|(hX).2 V B.toB0_ ⟨⟩⟩
abbrev c6(V:V_):Prop:=c5 V/\Qg V (pF V.Ca)
theorem d6(V:V_)(B:B_ V)(c:c5 V):c6 V:=⟨c,X_ V 1 ["links","p","q","x","y","kept"] (t:=(λJ=>Jt V.Ca J<|dJ)) B.hp B.D5 Td λ_ _ _ _ _ _ _ _ I U hN g=>(qa (S_ 3 hN<|C_ c.2 I<|xm (qv 0)<|qv 1)<|qa (S_ 4 hN<|C_ c.2 I<|xm (qv 0)<|qv 2)<|qa (zu (E_ g (qv 3)<|qv 2) (qd<|uC B.x_NoCut rfl B.md rfl U rfl<|xh<|P0<|gd jx<|gd (xZ<|qv 1)<|gd jx<|gd (xZ<|qv 2)<|gd jx PZ) z9)<|qa (aQ ["link"] (i:=5) hN rfl (Or.inl rfl) (ER (by rfl)) rfl (aB<|qv 0) (fC Fg (λ_ _ _ _=>Or.inl rfl) λ_ _ _ _=>rfl) (λ_ _ _ _=>cx<|bF<|dD (jq (mV _ _ _) (qv 1) (qv 6) (by with_unfolding_all rfl))<|a9<|jq (mV _ _ _) (qv 2) (qv 6) (by with_unfolding_all rfl)) λ_ _ _ _=>(qv 6))<|qd<|qz<|ji fM rfl B.bg ai<|xh<|qj jh (qv 5)<|js<|xh<|zf<|xm (ji tV rfl B.bj iq<|xm (qv 3)<|qv 4)<|ji oE rfl B.bh fw<|xm (qv 3)<|qv 4)⟩
abbrev c7(V:V_):Prop:=c6 V/\Qh V (dg V.Ca)
theorem d7(V:V_)(B:B_ V)(c:c6 V):c7 V:=⟨c,X_ V 2 ["web","k","cuts","knots","p","q","links","inner"] (t:=(λU=>xY V.Ca U (wm) (pF V.Ca)<|eF)) B.hp B.D6 Tg λ_ _ _ _ _ _ _ _ I J hN g=>(qa (S_ 2 hN<|J_ 0)<|qa (zu (gL<|PH qc<|PB ON (qv 1)<|zR rm<|L_ B.ba<|qv 2) (qd<|uC B.x_NoCut rfl B.md rfl J rfl<|xh jx) z9)<|qa (S_ 3 hN<|kq wf rfl B.bb vv<|xh<|J_ 0)<|qa (S_ 4 hN<|I_ (I_ (qv 2)<|qv 1) qc)<|qa (S_ 5 hN<|I_ (I_ (qv 2)<|qv 1) qc)<|qa (S_ 6 hN<|du (vm<|C_ c.1.1.1.1.1.2 I<|xh<|I_ (qv 3)<|qv 4) (Ih (c.2.mono (by decide)) I rfl J rfl<|bO (J_ 0) (qv 4)<|qv 5)<|kq wf rfl B.bb vv<|xh<|J_ 0)<|qa (S_ 7 hN<|S4 rfl rfl B.bb rfl B.bq<|xm (C_ c.1.1.2 I<|xh<|I_ (qv 3)<|qv 4)<|C_ c.1.1.2 I<|xh<|I_ (qv 3)<|qv 5)<|qa (pX (qv 3) (qv 4) eM)<|qa (pX (qv 3) (qv 5) eM)<|qd<|qz<|zf<|bO (qv 3) (qv 6)<|ji fM rfl B.bg ai<|xh<|qj jh (qj jh (wv (oH _ _ _) (qv 2) bW<|aM<|qv 1)<|wv (oH _ _ _) (qv 2) (aM<|qj jh (qv 1) qc) bW)<|qv 7)⟩
abbrev c8(V:V_):Prop:=c7 V/\Qi V (qU)
theorem d8(V:V_)(B:B_ V)(c:c7 V):c8 V:=⟨c,M_ V _ _ B.hp B.D7 Ts<|(Jv _ _).2 V B.toB0_ ⟨c.1.1.1.1.1.2,c.1.1.1.1.2⟩⟩
abbrev c9(V:V_):Prop:=c8 V/\Qj V (eG V.Ca)
theorem d9(V:V_)(B:B_ V)(c:c8 V):c9 V:=⟨c,X_ V 3 ["web","free"] (t:=(λI=>xJ I<|dg V.Ca)) B.hp B.D8 Tk λ_ _ _ _ _ _ _ _ J U hN g=>(qa (S_ 1 hN<|zf<|bO (kq wf rfl B.bb vv<|xh<|J_ 0) (kq wf rfl B.bb vv<|xh<|J_ 0)<|kq wf rfl B.bb vv<|xh<|J_ 0)<|qa (lD PassesOwn.leaving (N_ g (J_ 1)<|js wb)<|qd<|S_ 1 hN<|Ih (c.1.2.mono (by decide)) J rfl U rfl<|xm (qv 1) qc)<|qd<|qz<|qv 1)⟩
abbrev bv(V:V_):Prop:=c9 V/\Iw V (gJ)
theorem d10(V:V_)(B:B_ V)(c:c9 V):bv V:=⟨c,M_ V _ _ B.hp B.D9 vS<|(eI).2 V B.toB0_ ⟨⟩⟩
abbrev c11(V:V_):Prop:=bv V/\Qk V (qP)
theorem TB(V:V_)(B:B_ V)(c:bv V):c11 V:=⟨c,M_ V _ _ B.hp B.D10 Sa<|(jR).2 V B.toB0_ ⟨⟩⟩
abbrev c12(V:V_):Prop:=c11 V/\Fh V (dO)
theorem TC(V:V_)(B:B_ V)(c:c11 V):c12 V:=⟨c,M_ V _ _ B.hp B.D11 Sb<|(jU).2 V B.toB0_ ⟨⟩⟩
abbrev c13(V:V_):Prop:=c12 V/\Gs V (iM)
theorem TD(V:V_)(B:B_ V)(c:c12 V):c13 V:=⟨c,M_ V _ _ B.hp B.D12 Qs<|(lI).2 V B.toB0_ ⟨⟩⟩
abbrev GG(V:V_):Prop:=c13 V/\Ix V (lH)
theorem TF(V:V_)(B:B_ V)(c:c13 V):GG V:=⟨c,M_ V _ _ B.hp B.D13 QU<|(uO).2 V B.toB0_ ⟨⟩⟩
abbrev GH(V:V_):Prop:=GG V/\Iy V (xg 120)
theorem TH(V:V_)(B:B_ V)(c:GG V):GH V:=⟨c,R_ V _ _ B.hp B.D14 qJ t8 (λn=>(jJ _).2 V B.toB0_ ⟨⟩ n) 120⟩
abbrev GI(V:V_):Prop:=GH V/\Ql V (aV 120)
theorem TJ(V:V_)(B:B_ V)(c:GH V):GI V:=⟨c,R_ V _ _ B.hp B.D15 Qw Qx (λn=>(wZ _).2 V B.toB0_ ⟨⟩ n) 120⟩
abbrev GJ(V:V_):Prop:=GI V/\Iz V (aH 120)
theorem TK(V:V_)(B:B_ V)(c:GI V):GJ V:=⟨c,R_ V _ _ B.hp B.D16 mn ym (λn=>(fc _).2 V B.toB0_ ⟨⟩ n) 120⟩
abbrev GK(V:V_):Prop:=GJ V/\IA V (w4 48)
theorem TL(V:V_)(B:B_ V)(c:GJ V):GK V:=⟨c,R_ V 122 [nh,"_law_word_here","_law_left","_law_right","_law_turn","_law_same","_law_low","_law_high"] B.hp B.D17 zI (QM (FS:=aV 120) λ_ _ _ h=>h) (λ_ _ I _ _ _ _ _ _ J hN U=>(qa (zu (E_ U (L_ B.ba<|qv 1) qc) (qa (zm<|zg (qv 0)<|xh<|C_ c.1.2 J<|xh<|qv 1)<|qa (zm<|zg (qv 0)<|xh<|qv 1)<|qd<|qz<|js<|bO (zf<|bO jx (qj cX (L_ B.ba<|qv 0) qc)<|qj cX (L_ B.ba<|qv 0) qc) (qj cX (L_ B.ba<|qv 0) qc)<|qj cX (L_ B.ba<|qv 0) qc) z9)<|qa (S_ 2 hN<|C_ I J<|xm (qv 0)<|J_ 1)<|qa (S_ 3 hN<|C_ I J<|xm (qv 0)<|J_ 1)<|qa (zm<|zg (qv 0)<|xh<|zf<|bO (I_ (C_ c.1.2 J<|xh<|qv 1) qc) (J_ 2)<|J_ 3)<|qa (zm<|zg (qv 0)<|xh<|zf<|bO (J_ 1) (J_ 2)<|J_ 3)<|qa (wH (i:=4) (j:=5) rfl hN rfl rfl (by decide) rfl rfl (xm (qj cX (L_ B.ba<|qv 0) qc)<|qj cX (L_ B.ba<|qv 0) qc) rfl)<|qa (S_ 6 hN<|du (E_ U (J_ 1) jx) (qv 4)<|qv 5)<|qa (S_ 7 hN<|du (E_ U (J_ 1) jx) (qv 5)<|qv 4)<|qd<|qz<|js<|bO (zf<|bO jx (qv 7)<|zf<|xz jx<|bO (qv 6) (J_ 2)<|J_ 3) (qv 4)<|qv 5)) 48⟩
abbrev GL(V:V_):Prop:=GK V/\IB V (rE)
theorem TM(V:V_)(B:B_ V)(c:GK V):GL V:=⟨c,M_ V _ _ B.hp B.D18 QY<|(IU).2 V B.toB0_ ⟨⟩⟩
abbrev GN(V:V_):Prop:=GL V/\IC V (mJ)
theorem TN(V:V_)(B:B_ V)(c:GL V):GN V:=⟨c,M_ V _ _ B.hp B.D19 QZ<|(yF).2 V B.toB0_ ⟨⟩⟩
abbrev GO(V:V_):Prop:=GN V/\ID V (pW)
theorem TQ(V:V_)(B:B_ V)(c:GN V):GO V:=⟨c,M_ V 170 [nh,"_law_forest","_law_one","_law_two","_law_first","_law_p","_law_word_here","_law_second","_law_q","_law_at","_law_end","_law_rule","_law_same","_law_ends"] B.hp B.D20 (Q5 (FS:=aV 120) (MS:=w4 48) (λ_ _ _ h=>h)<|Ta (by decide) (by decide)) λ_ _ _ _ _ _ _ I hN J=>(qa (S_ 4 hN<|cV (qv 1)<|xh<|qj jj (qv 3)<|L_ B.ba<|qv 1)<|qa (am (i:=5) hN rfl (Or.inr rfl)<|I_ (J_ 4)<|qj jj (qj vg (qv 3) qc)<|L_ B.ba<|J_ 4)<|qa (S_ 6 hN<|C_ c.1.1.1.1.1.2 I<|xm (qv 0)<|qv 5)<|qa (cB (zf<|xm eM eM)<|aD rfl<|zd (G_ 7 hN)<|zd (bU (i:=8) hN rfl<|Or.inr rfl) vf)<|qa (aA wh rfl (wq rfl B.bf<|xh<|L_ B.ba<|qv 1) (G_ 9 hN)<|qd<|aA wh rfl (aB<|I_ (I_ (qv 1)<|qv 9) qc) (G_ 10 hN)<|qd<|zu (bF<|dD (gF<|qv 7)<|a9<|E_ J (C_ c.1.1.1.1.1.2 I<|xm (qv 0)<|qv 10)<|C_ c.1.1.1.1.2 I<|xh<|qv 6) (qd<|cB (zf<|xm (I_ (qv 1)<|qv 9)<|qv 10)<|aD rfl<|zd (G_ 7 hN)<|zd (bU (i:=8) hN rfl<|Or.inr rfl) vf) z9)<|qa (zu (bF<|dD (gF<|qv 7)<|a9<|jq yz (C_ c.1.1.1.2 I<|xh<|qv 6) qc<|km _) (qa (zm<|zg (qv 1)<|xh<|qv 4)<|qd yN) z9)<|xu (zu (gF<|qv 7) (qa (cB (C_ c.1.1.2 I<|xm (qv 0)<|qv 6)<|Ir rfl<|zd (G_ 11 hN)<|zd (bU (i:=8) hN rfl<|Or.inr rfl)<|zd (G_ 12 hN) vf)<|qd<|S_ 7 hN<|js<|xm (qv 11)<|js<|xm (qv 8)<|qv 12)<|qd<|zm<|yy J (qv 1)<|xh<|qv 7)<|qa (aQ ["_law_x"] (i:=13) hN rfl (Or.inl rfl) (ER (by rfl)) rfl (aB<|qj jh (J_ 4)<|J_ 7) (fC Fg (λ_ _ _ _=>Or.inl rfl) λ_ _ _ _=>rfl) (λ_ _ _ _=>cx<|jq (mV _ _ _) (qv 14) (zf<|xm (qv 5)<|qv 8) (by with_unfolding_all rfl)) λ_ _ _ _=>(qv 14))<|qd<|zu (E_ J (qj jj (qv 2) qc) qc) (qd<|zm<|zg (qv 1)<|xh<|js<|xm (zf<|xz jx<|xz (qv 5)<|bO (qv 8) (J_ 4)<|J_ 7)<|qv 13)<|qd<|zm<|zg (qv 1)<|xh<|js<|xm (zf<|xz jx<|xz (qv 8)<|bO (qv 5) (J_ 7)<|J_ 4)<|qv 13)⟩
abbrev GP(V:V_):Prop:=GO V/\IE V (lK)
theorem TR(V:V_)(B:B_ V)(c:GO V):GP V:=⟨c,M_ V _ _ B.hp B.D21 Q7<|(xA _ _ _ _ _).2 V B.toB0_ ⟨c.1.1.1.1.1.1.1.1.2,c.1.1.1.1.1.1.1.2,c.1.2,c.1.1.2,c.2⟩⟩
abbrev GQ(V:V_):Prop:=GP V/\IF V (aj 120)
theorem TU(V:V_)(B:B_ V)(c:GP V):GQ V:=⟨c,R_ V _ _ B.hp B.D22 y9 yu (λn=>(fe _).2 V B.toB0_ ⟨⟩ n) 120⟩
abbrev GR(V:V_):Prop:=GQ V/\IG V (kF)
theorem TX(V:V_)(B:B_ V)(c:GQ V):GR V:=⟨c,M_ V _ _ B.hp B.D23 Su<|(Jp _).2 V B.toB0_ c.2⟩
abbrev GS(V:V_):Prop:=GR V/\IH V (pD)
theorem TY(V:V_)(B:B_ V)(c:GR V):GS V:=⟨c,M_ V 0 [ni,nh,"_law_links","_law_cuts","_law_taken","_law_knot","_law_p","_law_q"] B.hp B.D24 Sv λ_ _ _ _ _ _ _ J hN I=>(qa (cB (qv 0)<|aD rfl<|zd (bU (i:=1) hN rfl<|Or.inr rfl)<|zd (G_ 2 hN)<|zd (G_ 3 hN) vf)<|qa (am (i:=4) hN rfl (Or.inr rfl) xX)<|qa (aA wh rfl (aB<|qv 1) (G_ 5 hN)<|qd<|zu (bF<|dD (xR<|qv 5)<|a9<|E_ I (L_ B.ba<|qv 5) qc) (qa (hW I (qv 4) (J_ 5) aS)<|qd<|hW I (qv 4) (J_ 5) aS) z9)<|qa (aA wh rfl (aB<|qv 3) (aD rfl<|zd (G_ 6 hN)<|zd (G_ 7 hN) vf)<|qa (hW I (qv 4) (qv 6) aS)<|qd<|hW I (qv 4) (qv 7) aS)<|qd<|RN "_law_p'"<|qz<|wT ["_law_p"] (ER (by rfl)) rfl (wq rfl B.bf<|xh<|L_ B.ba<|qv 1) (fC Fg (λ_ _ _ _=>Or.inl rfl) λ_ _ _ _=>rfl) (λ_ _ _ _=>cx<|bF<|dD (xR<|I_ (qv 1)<|qv 8)<|a9<|jq (Sg I) (qv 8) (qv 4) (by with_unfolding_all rfl)) λ_ _ _ _=>(qv 8))⟩
abbrev GU(V:V_):Prop:=GS V/\II V (iS V.Pt)
theorem TZ(V:V_)(B:B_ V)(c:GS V):GU V:=⟨c,T_ V 1 [nh,"_law_seed","_law_ranks","_law_p","_law_knot","_law_rank"] B.hp B.D25 yT λ_ _ _ _ _ _ _ C I hN J=>(qa (am (i:=2) hN rfl (Or.inr rfl)<|js wb)<|qa (aA wh rfl (kR rfl B.bn<|qv 0) (aD rfl<|zd (G_ 3 hN)<|zd (G_ 4 hN) vf)<|qa (S_ 5 hN<|qj jj (C_ c.1.1.1.1.1.1.1.1.1.1.1.1.2 I<|bO (qv 1) (qv 3) qc) qc)<|xu (zu (E_ J (L_ B.ba<|qv 4) qc) (qd<|S_ 5 hN<|qj jh (qj jh (qv 5) qc)<|ji oE rfl B.bh fw<|xm (I_ (qv 2)<|J_ 4)<|I_ (qv 2)<|J_ 4) z9)<|qd<|zm<|zg (qv 2)<|xh<|qv 5)<|qd<|qz<|RG rfl B.bg (uz rfl rfl B.bb rfl B.bf<|L_ B.ba<|qv 0) ⟨rfl,rfl,rfl,by decide +kernel,rfl,rfl,by decide,by decide,by decide⟩ C (RQ I) rfl rfl rfl ⟨_,rfl,rfl⟩ rfl λ_ _ _ _ _ _ _=>rfl)⟩
abbrev GV(V:V_):Prop:=GU V/\IJ V (cU 120)
theorem T3(V:V_)(B:B_ V)(c:GU V):GV V:=⟨c,R_ V _ _ B.hp B.D26 Sk S9 (λn=>(uG _).2 V B.toB0_ ⟨⟩ n) 120⟩
abbrev GW(V:V_):Prop:=GV V/\IK V (qK V.Pt)
theorem T4(V:V_)(B:B_ V)(c:GV V):GW V:=⟨c,M_ V _ _ B.hp B.D27 Sy<|(Jq _ _ _).2 V B.toB0_ ⟨c.1.1.1.1.1.1.1.1.1.1.1.1.1.1.1.2,c.1.2,c.2⟩⟩
abbrev GX(V:V_):Prop:=GW V/\IL V (gG)
theorem T5(V:V_)(B:B_ V)(c:GW V):GX V:=⟨c,M_ V _ _ B.hp B.D28 wG<|(eU).2 V B.toB0_ ⟨⟩⟩
abbrev GY(V:V_):Prop:=GX V/\IM V (i8)
theorem T6(V:V_)(B:B_ V)(c:GX V):GY V:=⟨c,M_ V _ _ B.hp B.D29 SS<|(ff).2 V B.toB0_ ⟨⟩⟩
abbrev GZ(V:V_):Prop:=GY V/\Qm V (iN)
theorem T7(V:V_)(B:B_ V)(c:GY V):GZ V:=⟨c,M_ V _ _ B.hp B.D30 zO<|(rR _ _ _ _).2 V B.toB0_ ⟨c.1.1.1.1.1.1.1.1.1.1.1.1.1.1.1.1.1.1.2,c.1.2,c.1.1.1.1.1.1.1.1.1.1.1.1.1.1.1.1.1.2,c.2⟩⟩
abbrev G4(V:V_):Prop:=GZ V/\IP V (ie)
theorem T9(V:V_)(B:B_ V)(c:GZ V):G4 V:=⟨c,M_ V _ _ B.hp B.D31 zY<|(f9).2 V B.toB0_ ⟨⟩⟩
abbrev G5(V:V_):Prop:=G4 V/\Qn V (aI 4)
theorem Ua(V:V_)(B:B_ V)(c:G4 V):G5 V:=⟨c,R_ V _ _ B.hp B.D32 S7 yk (λn=>(sI _ _).2 V B.toB0_ c.2 n) 4⟩
abbrev G6(V:V_):Prop:=G5 V/\Qo V (kE)
theorem Ub(V:V_)(B:B_ V)(c:G5 V):G6 V:=⟨c,M_ V _ _ B.hp B.D33 R4<|(jH).2 V B.toB0_ ⟨⟩⟩
abbrev G7(V:V_):Prop:=G6 V/\IQ V (qT)
theorem Uc(V:V_)(B:B_ V)(c:G6 V):G7 V:=⟨c,M_ V _ _ B.hp B.D34 Sd<|(jP _ _ _).2 V B.toB0_ ⟨c.1.1.1.1.1.1.1.1.1.1.1.1.1.1.1.1.1.1.1.1.1.1.2,c.1.1.1.1.1.1.1.1.1.1.1.1.2,c.1.1.1.1.1.1.1.1.1.1.1.1.1.1.1.1.1.1.1.1.1.1.1.1.2⟩⟩
abbrev G8(V:V_):Prop:=G7 V/\IR V (lL)
theorem Ud(V:V_)(B:B_ V)(c:G7 V):G8 V:=⟨c,M_ V _ _ B.hp B.D35 Tb<|(jQ _ _ _ _ _).2 V B.toB0_ ⟨c.1.1.1.1.1.1.1.1.1.1.2,c.1.1.1.1.1.1.1.1.1.1.1.2,c.1.1.1.1.1.1.1.1.1.1.1.1.1.1.1.1.1.1.1.1.2,c.1.1.1.1.1.1.1.1.1.1.1.1.1.1.1.1.1.1.2,c.1.1.1.1.1.1.1.1.1.1.1.1.1.1.1.1.1.2⟩⟩
abbrev G9(V:V_):Prop:=G8 V/\Qp V (mW V.Pt)
theorem Ue(V:V_)(B:B_ V)(c:G8 V):G9 V:=⟨c,M_ V _ _ B.hp B.D36 Tc<|(gi _ _ _ _).2 V B.toB0_ ⟨c.1.2,c.1.1.1.1.1.1.1.1.1.1.1.1.1.1.1.1.1.1.1.1.1.1.1.1.2,c.2,c.1.1.1.1.1.1.1.1.2⟩⟩
abbrev Jx(V:V_):Prop:=G9 V/\Qq V (om)
theorem Uf(V:V_)(B:B_ V)(c:G9 V):Jx V:=⟨c,M_ V 3 [ni,"_law_factor","_law_most","_law_now","_law_count","_law_refused"] B.hp B.D37 (Tt B.xf) λ_ _ _ _ _ _ _ I hN J=>(qa (S_ 3 hN<|C_ c.1.1.1.2 I<|xh<|qv 0)<|qa (aA wh rfl (wq rfl B.bf<|xh<|qj jh (qv 2) qc) (G_ 4 hN)<|qa (zu (E_ J (J_ 3)<|js wb) (qd<|qz<|zf<|xm (qv 3)<|qv 4) z9)<|qa (S_ 5 hN aS)<|qa (xI rfl rfl rfl rfl B.md (acl (i:=3) (c.1.1.1.1.1.1.1.1.1.1.1.1.1.1.1.1.1.1.1.1.1.1.1.1.1.1.1.1.1.1.2.mono (by decide)) I rfl rfl hN rfl (Or.inl rfl) λ_ _=>(xm (qv 3)<|qj jj (C_ c.1.1.1.1.1.1.1.1.1.1.1.1.1.1.1.1.1.1.1.1.1.1.1.1.2 I<|bO (qv 4) (qj jj (qv 2) qc)<|qv 1)<|L_ B.ba<|J_ 3)) λ_=>(qd<|S_ 5 hN aS))<|qd<|zu (vm<|qv 5) (qd<|qz<|zf<|xm eM<|qv 4) z9)<|qd<|qz<|zf<|xm (qv 3)<|qj jh (qv 2) qc)⟩
theorem dL(V:V_)(B:B_ V)(c:Jx V){f:Addr}{fd:FuncData}(F:Fun V.K "law" "law" tz f fd):Fn3 V.P V.w V.K V.mg V.base 175 f fd [ng] (qY V.Pt lamQ):=
 W_ V 174 [ng,"_law_stir_here",ni,"_law_due","_law_one","_law_two","_law_handed","_law_found","_law_refused"] F (Tx B.xf) λ_ _ _ _ _ _ I hN J=>(qa (S_ 1 hN<|C_ c.1.1.1.1.1.1.1.1.1.1.1.1.1.1.1.1.1.1.1.1.1.1.1.1.1.1.1.2 I<|xh<|qv 0)<|qa (am (i:=2) hN rfl (Or.inr rfl)<|C_ c.1.1.1.1.1.1.1.2 I<|xm (C_ c.1.1.1.1.1.1.1.1.1.1.1.1.1.1.2 I<|xh<|C_ c.1.2 I<|bO (qv 0) (qv 1) qc)<|qv 1)<|qa (S_ 3 hN<|ji Io rfl B.bp Ip<|xh<|wT ["_law_cut_here"] (ER (by rfl)) rfl (aB<|J_ 2) (fC Fg (λ_ _ _ _=>Or.inl rfl) λ_ _ _ _=>rfl) (λ_ _ _ _=>vK) λ_ _ _ _=>(C_ c.1.1.1.1.1.1.1.1.1.1.1.1.1.1.1.1.1.1.1.1.1.2 I<|xh<|C_ c.1.1.1.1.1.1.1.1.1.1.1.1.1.1.1.1.1.1.1.1.1.1.1.2 I<|xm (J_ 2)<|J_ 9))<|qa (zu (gL<|vm<|C_ c.1.1.1.1.1.2 I<|xm (C_ c.1.1.1.1.1.1.1.1.1.1.1.1.1.1.1.1.1.1.1.1.1.1.1.1.1.1.1.1.1.1.2 I<|xh<|C_ c.1.1.1.1.2 I<|xh<|qv 2)<|qv 3) (qd<|qz aS) z9)<|qa (S_ 4 hN<|C_ c.2 I<|bO (qv 2) (qj jh qc<|qj jj (qj fh qc<|C_ c.1.1.1.1.1.1.1.1.1.1.1.1.1.1.1.1.1.1.1.1.1.1.1.1.1.1.2 I<|xm (qv 1) qc) qc)<|qv 3)<|qa (S_ 5 hN<|C_ c.2 I<|bO (qv 2) (qj jh qc<|qj jj (qj fh qc<|C_ c.1.1.1.1.1.1.1.1.1.1.1.1.1.1.1.1.1.1.1.1.1.1.1.1.1.1.2 I<|xm (qv 1) qc) qc)<|qv 3)<|qa (S_ 6 hN<|C_ c.1.1.1.1.2 I<|xh<|qv 2)<|qa (S_ 7 hN eM)<|qa (S_ 8 hN aS)<|qa (xI rfl rfl rfl rfl B.md (acl (i:=7) (c.1.1.1.1.1.1.1.1.1.1.1.1.1.1.1.1.1.1.1.1.1.1.1.1.1.1.1.1.1.2.mono (by decide)) I rfl rfl hN rfl (Or.inl rfl) λ_ _=>(xh<|qv 6)) λ_=>(qd<|S_ 8 hN aS))<|qa (zu (gL<|vm<|C_ c.1.1.1.1.1.2 I<|xm (qv 6)<|qv 2) (qd<|qz aS) z9)<|qa (zu (vm<|qv 8) (qd<|qz<|mw (vW<|J_ 4)<|lT<|vW<|J_ 5) z9)<|qa (zu (bF<|iC (gF<|J_ 4)<|iC (gF<|J_ 5)<|iC (N_ J (J_ 4)<|qv 3)<|iU<|N_ J (J_ 5)<|qv 3) (qd<|qz aS) z9)<|qa (zu (bF<|iC (gL<|vm<|ky .tuple rfl B.be rfl B.bi cQ<|qv 7)<|iC (N_ J (L_ B.ba<|qv 7) qc)<|iU<|N_ J (J_ 7)<|js wb) (qd<|qz aS) z9)<|qd<|qz<|mw (C_ c.1.1.1.1.1.2 I<|xm (J_ 4)<|qv 7)<|lT<|C_ c.1.1.1.1.1.2 I<|xm (J_ 5)<|qv 7)
theorem all_mk{l:PySem.W.OpenLaw}{w:World}{K:Af}{h:Heap}{mg:Str->Option Value}{fa:Addr}{I:Addr}{g:Option Addr}{j:Nat}{o:Array<|Option Value}{J U:Tok}{p:Addr}{Pt:Addr}(X:K.In h)(G:h.Ns mainGlobals mg)(r:mg "law"=some (.ref fa))
 (D0:zb K "is_leaf" oG)
 (D1:zb K "size_of" oV)
 (D2:zb K "word_at" ig)
 (D3:zb K "parts_of" gQ)
 (D4:zb K "partner_of" cZ)
 (D5:zb K "links_without" dQ)
 (D6:zb K "cut_step" mO)
 (D7:zb K "steps_due" eJ)
 (D8:zb K "cut_free" lh)
 (D9:zb K "_law_cell_at" az)
 (D10:zb K "_law_stir" eQ)
 (D11:zb K "_law_pick" dq)
 (D12:zb K "_law_mix" gC)
 (D13:zb K "_law_name" dh)
 (D14:zb K "_law_word" dw)
 (D15:zb K "_law_flip" eE)
 (D16:zb K "_law_weight" cH)
 (D17:zb K "_law_mirror" fZ)
 (D18:zb K "_law_join" fA)
 (D19:zb K "_law_fold" eY)
 (D20:zb K "_law_cut" mf)
 (D21:zb K "_law_tree" eO)
 (D22:zb K "_law_gather" bu)
 (D23:zb K "_law_web" gA)
 (D24:zb K "_law_open" jO)
 (D25:DefInT K "_law_order" s__law_order Pt)
 (D26:zb K "_law_moved" cc)
 (D27:zb K "_law_gapped" cD)
 (D28:zb K "_law_swapped" bD)
 (D29:zb K "_law_looped" cG)
 (D30:zb K "_law_crossed" bC)
 (D31:zb K "_law_number" cA)
 (D32:zb K "_law_alike" dN)
 (D33:zb K "_law_copy" dt)
 (D34:zb K "_law_sown" fD)
 (D35:zb K "_law_deep" dc)
 (D36:zb K "_law_grown" cf)
 (D37:zb K "_law_run" m7)
 (D38:zb K "law" tz)
 (aLEAF_KINDS:PySem.W.nsIn K mainGlobals "LEAF_KINDS"=some (some<|.ref I))
 (lLEAF_KINDS:K.lookup I=some ⟨.type "tuple",g,.seq #[.str "plain" J,.str "turned" U] j,o⟩)
 (aCNoCut:PySem.W.nsIn K mainGlobals "NoCut"=some (some<|.ref p))
 (qCNoCut:PySem.W.excIn K p [.type "ValueError",.type "Exception",.type "BaseException",.type "object"] "ValueError.__new__"=true)
 (xf:L3.XF53 K p)
 (zmax:PySem.W.nsIn K mainGlobals "max"=some none)
 (zmin:PySem.W.nsIn K mainGlobals "min"=some none)
 (zsorted:PySem.W.nsIn K mainGlobals "sorted"=some none)
 (zlen:PySem.W.nsIn K mainGlobals "len"=some none)
 (zlist:PySem.W.nsIn K mainGlobals "list"=some none)
 (zzip:PySem.W.nsIn K mainGlobals "zip"=some none)
 (zsum:PySem.W.nsIn K mainGlobals "sum"=some none)
 (zenumerate:PySem.W.nsIn K mainGlobals "enumerate"=some none)
 (zrange:PySem.W.nsIn K mainGlobals "range"=some none)
 (zisinstance:PySem.W.nsIn K mainGlobals "isinstance"=some none)
 (ztuple:PySem.W.nsIn K mainGlobals "tuple"=some none)
 (zint:PySem.W.nsIn K mainGlobals "int"=some none)
 (zbool:PySem.W.nsIn K mainGlobals "bool"=some none)
 (zstr:PySem.W.nsIn K mainGlobals "str"=some none):
 ∃fd:FuncData,(∀(s:Shared) (v:Value),BindsTo s fd ⟨[v],[]⟩ [(ng,v)])/\∀base:Heap,K.In base->base.Ns mainGlobals mg->ay l.prog w K mg base CX0 175 fa fd [ng] (spTopT lamQ K Pt):=by
 obtain⟨fL,kV,t,pm,an,C,T,aL,FL⟩:=D38.ex;have e:=r.symm.trans<|C5 X G aL;cases e;refine⟨PySem.W.fnOf "law" "law" (xw tz) (jc tz) (ql tz) .none kV t pm an C T,λs v=>.of_eq rfl,λbase _ _=>?_⟩;have B:B_ ⟨l.prog,w,K,mg,base,Pt,p⟩:=⟨⟨Bj X G zmax,Bj X G zmin,Bj X G zsorted,Bj X G zlen,Bj X G zlist,Bj X G zzip,Bj X G zsum,Bj X G zenumerate,Bj X G zrange,Bj X G zisinstance,Bj X G ztuple,Bj X G zint,Bj X G zbool,Bj X G zstr,⟨I,C5 X G aLEAF_KINDS,λH=>⟨I,[V.str "plain",V.str "turned"],rfl,.inr ⟨_,_,_,lLEAF_KINDS,rfl,rfl,by show 2<=sizeLine;decide,.cons ⟨_,rfl⟩<|.cons ⟨_,rfl⟩<|.nil⟩,⟨_,_,rfl,rfl,⟨_,_,rfl,rfl,rfl⟩⟩⟩⟩⟩,⟨h,X,G⟩,D0,D1,D2,D3,D4,D5,D6,D7,D8,D9,D10,D11,D12,D13,D14,D15,D16,D17,D18,D19,D20,D21,D22,D23,D24,D25,D26,D27,D28,D29,D30,D31,D32,D33,D34,D35,D36,D37,C5 X G aCNoCut,wK qCNoCut,xf⟩;exact ay.imp (dL _ B (Uf _ B<|Ue _ B<|Ud _ B<|Uc _ B<|Ub _ B<|Ua _ B<|T9 _ B<|T7 _ B<|T6 _ B<|T5 _ B<|T4 _ B<|T3 _ B<|TZ _ B<|TY _ B<|TX _ B<|TU _ B<|TR _ B<|TQ _ B<|TN _ B<|TM _ B<|TL _ B<|TK _ B<|TJ _ B<|TH _ B<|TF _ B<|TD _ B<|TC _ B<|TB _ B<|d10 _ B<|d9 _ B<|d8 _ B<|d7 _ B<|d6 _ B<|d5 _ B<|d4 _ B<|d3 _ B<|d2 _ B<|d1 _ B trivial) FL) λvs H Q E q=>RI q
theorem def_inT{K:Af}{x:Str}{st:Stmt}{f Pt:Addr}{oc:Value}{od an:Option Addr}{nE:Array<|Option Value}{kV hQ pm eK ct:Value}(a:PySem.W.nsIn K mainGlobals x=some (some<|.ref f))
 (l:K.lookup f=some ⟨oc,od,.func<|PySem.W.fnOf x x (xw st) (jc st) (ql st) .none kV hQ pm an eK ct,nE⟩) (c:PySem.W.codeIn K eK x=true) (k:PySem.W.keepIn K (.ref f)=true) (C:DZ K eK Pt):DefInT K x st Pt:=
 ⟨f,kV,hQ,pm,an,eK,ct,a,⟨⟨oc,od,kV,hQ,pm,an,eK,ct,nE,rfl,l,c,C⟩,k⟩⟩
end K53
namespace H53
noncomputable section
open PySem PySem.W PySem.W.X L2 L3 PyProof.Rows
abbrev rr:=PySem.Challenge.rw_oncewise_k53_any_order_of_cuts
abbrev p:Program:=PySem.Challenge.pw_oncewise_k53_any_order_of_cuts
abbrev top:=L3.top
abbrev s(x:String):Str:=Str.ofString x
noncomputable abbrev S (x:String) (t:Tok):Value:=.str (Str.ofString x) t
noncomputable abbrev I (i:Int) (t:Tok):Value:=.int i t
noncomputable abbrev R (a:Addr):Value:=.ref a
abbrev E(P:Params)(k:String)(t:Tok)(v:Value):DictEntry:=⟨PyData.keyHash P<|Str.ofString k,.str (Str.ofString k) t,v⟩
noncomputable abbrev O (c:Value) (d:Data):Obj:=⟨c,none,d,#[]⟩
abbrev FN(n q:String)(st:Stmt)(I kV hQ pm:Value)(an:Option Addr)(cd ct:Value):FuncData:=fnOf (Str.ofString n) (Str.ofString q) (xw st) (jc st) (ql st) I kV hQ pm an cd ct
abbrev FG(n q:String)(st:Stmt):FuncData:={ fnOf (Str.ofString n) (Str.ofString q) (xw st) (jc st) (ql st) .none .none .none .none none .none .none with globals:=0 }
abbrev tu(l:Array Value):Obj:=O (.type "tuple")<|.seq l 0
abbrev fo(f:FuncData):Obj:=O (.type "function")<|.func f
abbrev go(f:FuncData):Obj:=O .none<|.func f
abbrev co(n q:String)(t l a b c fl v:Nat)(o:Bool)(m k:Nat)(x y z u:Value)(d:Nat):Obj:=O (.type "code")<|.fields #[S n t,S q<|t+1,S "/claim/cut.py"<|t+2,I l 0,I a 0,I b 0,I c 0,I fl 0,R v,.bool o,I m 0,R k,x,y,z,u,I d 0,I l 0,S "/claim/cut.py"<|d+1]
abbrev gR:Value:=S "law_oncewise_k53_any_order_of_cuts" 306
abbrev Fk:Value:=S "oncewise.cutting" 260
abbrev Jy:Value:=S "oncewise.words" 223
abbrev Jz:Value:=S "oncewise.webs" 242
abbrev fX(n:String)(i:Nat)(m:Value)(r:Nat):Obj:=fo<|FN n n (top i) .none .none .none m none (R r) .none
abbrev gX(n:String)(i:Nat):Obj:=go<|FG n n<|top i
abbrev cF(n:String)(t l a v d:Nat):Obj:=co n n t l a 0 0 3 v true 181 (v+1) .none (R<|v+2) (R<|v+3) (R<|v+4) d
abbrev cC(n:String)(t l v d:Nat):Obj:=co n n t l 0 0 0 0 v false 181 (v+1) .none .none .none .none d
abbrev cS(n:String)(a I k t v:Nat):Obj:=⟨.type "type",none,.cls<|ClassData.mk (s n) [R 24] [R a,R 24,.type "ValueError",.type "Exception",.type "BaseException",.type "object"] I (s n) true [] [] false none false,#[some<|R k,none,some<|S n t,some<|S n v,some<|.builtin "ValueError.__new__",some<|.bool true]⟩
abbrev dA(P:Params)(a b:Nat)(l:Int)(c d r e:Nat):Obj:=O (.type "dict")<|.dict #[E P "__module__" a<|S "oncewise.errors" 187,E P "__firstlineno__" b<|I l c,E P "__static_attributes__" d<|R r,E P "__doc__" e .none] 2
abbrev dB(P:Params)(a q:Nat)(n:String)(J b:Nat)(l:Int)(c d r:Nat):Obj:=O (.type "dict")<|.dict #[E P "__module__" a<|S "oncewise.errors" 187,E P "__qualname__" q<|S n J,E P "__firstlineno__" b<|I l c,E P "__static_attributes__" d<|R r] 4
abbrev fR(a b:Nat):Obj:=⟨.type "frame",none,.plain,#[some<|R a,some<|R 3,some<|R b,none,some<|S "oncewise.errors" 187,none,some<|R 0]⟩
abbrev bI(a:Nat):Obj:=O (.type "builtin_function_or_method")<|.fields #[.builtin "object.__init_subclass__",R a]
abbrev sU(a:Nat):Obj:=O (.type "super")<|.fields #[R a,R a,R a]
abbrev Ob:=Params->Obj
def ev{α:Type}:Bool->List α->List α
 |_,[]=>[]
 |true,x::r=>x::ev false r
 |false,_::r=>ev true r
def bt:Nat->List Obj->BT
 |0,_=>.nil
 |_,[]=>.nil
 |n+1,x::r=>.node x (bt n<|ev true r)<|bt n<|ev false r
def env0:Env:={ scope:=p.main.scope,locals:=mainNs,globals:=mainNs,cells:=[],code:=.ref 13,frame:=some 14 }
abbrev cE:Code:=.body (behindTheImports p) env0
abbrev q0:Pos:=⟨0,0,0,0⟩
abbrev an:Option Value:=some<|.ref 6
abbrev Pc(n:Nat)(S I:World->OsState->SharedT)(l:List Stmt)(q J:Pos)(w:World):Prop:=(λos=>segRunT treeTable p w 11 an 1 n (S w os)<|piecesOf l env0 cE q [topFrame q0])=λos=>some (Flow.next,I w os,cE,J)
abbrev b0:=PySem.W.boot_o_0
abbrev b1:=PySem.W.boot_o_1
abbrev b2:=PySem.W.boot_o_2
abbrev b3:=PySem.W.boot_o_3
abbrev b4:=PySem.W.boot_o_4
abbrev b5:=PySem.W.boot_o_5
abbrev b6:=PySem.W.boot_o_6
abbrev b7:=PySem.W.boot_o_7
abbrev b8:=PySem.W.boot_o_8
abbrev b9:=PySem.W.boot_o_9
abbrev FI:=PySem.W.boot_o_10
def kc:Ob:=λ_=>tu #[]
def bP:Ob:=λ_=>O .none<|.fields #[]
def FJ:Ob:=λ_=>cC "<module>" 182 1 11 185
def G':Ob:=λ_=>⟨(.type "frame"),none,.plain,#[(some<|R 13),(some<|R 3),(some<|R 3),none,(some<|S "__main__" 164),none,(some<|R 0)]⟩
def JA:Ob:=λP=>O (.type "dict")<|.dict #[(E P "__module__" 196<|S "oncewise.errors" 187),(E P "__firstlineno__" 200<|I 2 199),(E P "__static_attributes__" 201<|R 22),(E P "__weakref__" 203<|R 25),(E P "__doc__" 204 .none)] 3
def JB:Ob:=λ_=>O (.type "getset_descriptor")<|.fields #[S "__weakref__" 202,R 24,(.builtin "ExceptionGroup.__weakref__"),.none]
def JC:Ob:=λ_=>O (.type "builtin_function_or_method")<|.fields #[(.builtin "type.__prepare__"),(.type "type")]
def JD:Ob:=λ_=>fX "is_leaf" 5 Jy 46
def JE:Ob:=λ_=>cF "parts_of" 253 20 1 62 257
def JF:Ob:=λ_=>cS "NoCut" 37 36 28 207 215
def JG:Ob:=λ_=>cF "size_of" 235 10 1 48 239
def JH:Ob:=λ_=>fX "word_at" 8 Jz 60
def JI:Ob:=λ_=>⟨(.type "type"),none,(.cls<|ClassData.mk (s "OnceError") [(.type "ValueError")] [R 24,(.type "ValueError"),(.type "Exception"),(.type "BaseException"),(.type "object")] 23 (s "OnceError") true [] [R 37] false none false),#[(some<|R 15),none,(some<|S "OnceError" 189),(some<|S "OnceError" 197),(some<|.builtin "ValueError.__new__"),(some<|.bool true)]⟩
def JJ:Ob:=λ_=>tu #[S "plain" 225,S "turned" 226]
def JK:Ob:=λP=>dA P 214 218 4 217 219 35 220
def JL:Ob:=λ_=>fX "parts_of" 9 Jz 67
def JM:Ob:=λ_=>cF "word_at" 244 15 2 55 250
def JN:Ob:=λ_=>fX "size_of" 6 Jy 53
def JO:Ob:=λ_=>cF "is_leaf" 228 8 1 41 232
def JP:Ob:=λ_=>fX "_law_mix" 20 gR 126
def JQ:Ob:=λ_=>co "links_without" "links_without" 272 32 3 0 0 3 76 true 181 77 .none .none .none (R 78) 275
def JR:Ob:=λ_=>fX "cut_step" 13 Fk 86
def JS:Ob:=λ_=>cF "_law_pick" 326 68 2 114 331
def JT:Ob:=λ_=>co "_law_name" "_law_name" 343 72 2 0 0 3 128 true 181 129 .none .none .none (R 130) 346
def JU:Ob:=λ_=>fX "cut_free" 15 Fk 98
def JV:Ob:=λ_=>fX "partner_of" 11 Fk 74
def JW:Ob:=λ_=>fX "_law_word" 22 gR 138
def JX:Ob:=λ_=>co "steps_due" "steps_due" 292 51 1 0 0 3 88 true 181 89 .none .none .none (R 90) 295
def JY:Ob:=λ_=>cF "_law_flip" 358 86 1 140 363
def JZ:Ob:=λ_=>fX "_law_stir" 18 gR 112
def J4:Ob:=λ_=>cF "_law_cell_at" 308 59 2 100 313
def J5:Ob:=λ_=>fX "_law_weight" 24 gR 152
def J6:Ob:=λ_=>fX "links_without" 12 Fk 79
def J7:Ob:=λ_=>cF "_law_stir" 316 63 1 107 323
def J8:Ob:=λ_=>cF "_law_weight" 366 91 1 147 370
def J9:Ob:=λ_=>fX "_law_pick" 19 gR 119
def Ka:Ob:=λ_=>fX "_law_name" 21 gR 131
def Kb:Ob:=λ_=>fX "steps_due" 14 Fk 91
def Kc:Ob:=λ_=>cF "cut_free" 298 53 1 93 303
def Kd:Ob:=λ_=>fX "_law_flip" 23 gR 145
def Ke:Ob:=λ_=>cF "partner_of" 262 25 2 69 269
def Kf:Ob:=λ_=>cF "_law_word" 349 81 2 133 355
def Kg:Ob:=λ_=>fX "_law_cell_at" 17 gR 105
def Kh:Ob:=λ_=>cF "cut_step" 278 39 2 81 289
def Ki:Ob:=λ_=>cF "_law_mix" 334 70 3 121 340
def Kj:Ob:=λ_=>fX "_law_gather" 30 gR 190
def Kk:Ob:=λ_=>cF "_law_mirror" 373 95 2 154 384
def Kl:Ob:=λ_=>co "_law_looped" "_law_looped" 493 244 2 0 0 3 228 true 181 229 .none .none .none (R 230) 496
def Km:Ob:=λ_=>fX "_law_moved" 34 gR 214
def Ko:Ob:=λ_=>cF "_law_tree" 411 146 3 178 425
def Kp:Ob:=λ_=>fX "_law_swapped" 36 gR 226
def Kq:Ob:=λ_=>fX "_law_open" 32 gR 202
def Kr:Ob:=λ_=>cF "_law_fold" 393 116 4 166 402
def Ha:Ob:=λ_=>cF "_law_order" 453 199 2 204 462
def Ks:Ob:=λ_=>fX "_law_cut" 28 gR 176
def Kt:Ob:=λ_=>cF "_law_web" 438 183 1 192 444
def Ku:Ob:=λ_=>fX "_law_join" 26 gR 164
def Kv:Ob:=λ_=>cF "_law_gapped" 471 213 2 216 484
def Kw:Ob:=λ_=>fX "_law_mirror" 25 gR 159
def Kx:Ob:=λ_=>co "_law_cut" "_law_cut" 405 124 4 0 0 3 173 true 181 174 .none .none .none (R 175) 408
def Ky:Ob:=λ_=>fX "_law_looped" 37 gR 231
def Kz:Ob:=λ_=>fX "_law_tree" 29 gR 183
def KA:Ob:=λ_=>co "_law_join" "_law_join" 387 108 4 0 0 3 161 true 181 162 .none .none .none (R 163) 390
def KC:Ob:=λ_=>fX "_law_fold" 27 gR 171
def KE:Ob:=λ_=>co "_law_swapped" "_law_swapped" 487 228 2 0 0 3 223 true 181 224 .none .none .none (R 225) 490
def KG:Ob:=λ_=>fX "_law_order" 33 gR 209
def KH:Ob:=λ_=>co "_law_open" "_law_open" 447 188 1 0 0 3 199 true 181 200 .none .none .none (R 201) 450
def KI:Ob:=λ_=>fX "_law_web" 31 gR 197
def KJ:Ob:=λ_=>co "_law_moved" "_law_moved" 465 207 2 0 0 3 211 true 181 212 .none .none .none (R 213) 468
def KL:Ob:=λ_=>fX "_law_gapped" 35 gR 221
def KN:Ob:=λ_=>cF "_law_gather" 428 175 3 185 435
def KO:Ob:=λP=>O (.type "dict")<|.dict #[(E P "__name__" 165<|S "law_oncewise_k53_any_order_of_cuts" 306),(E P "__doc__" 166 .none),(E P "__package__" 167 .none),(E P "__loader__" 168<|.builtin "__main__.__loader__#opaque"),(E P "__spec__" 169 .none),(E P "__annotations__" 170<|R 6),(E P "__builtins__" 171<|R 4),(E P "__file__" 173<|S "/claim/cut.py" 172),(E P "__cached__" 174 .none),(E P "OnceError" 206<|R 24),(E P "NoCut" 222<|R 37),(E P "LEAF_KINDS" 227<|R 40),(E P "is_leaf" 234<|R 47),(E P "size_of" 241<|R 54),(E P "word_at" 252<|R 61),(E P "parts_of" 259<|R 68),(E P "partner_of" 271<|R 75),(E P "links_without" 277<|R 80),(E P "cut_step" 291<|R 87),(E P "steps_due" 297<|R 92),(E P "cut_free" 305<|R 99),(E P "_law_cell_at" 315<|R 106),(E P "_law_stir" 325<|R 113),(E P "_law_pick" 333<|R 120),(E P "_law_mix" 342<|R 127),(E P "_law_name" 348<|R 132),(E P "_law_word" 357<|R 139),(E P "_law_flip" 365<|R 146),(E P "_law_weight" 372<|R 153),(E P "_law_mirror" 386<|R 160),(E P "_law_join" 392<|R 165),(E P "_law_fold" 404<|R 172),(E P "_law_cut" 410<|R 177),(E P "_law_tree" 427<|R 184),(E P "_law_gather" 437<|R 191),(E P "_law_web" 446<|R 198),(E P "_law_open" 452<|R 203),(E P "_law_order" 464<|R 210),(E P "_law_moved" 470<|R 215),(E P "_law_gapped" 486<|R 222),(E P "_law_swapped" 492<|R 227),(E P "_law_looped" 498<|R 232),(E P "_law_crossed" 508<|R 239),(E P "_law_number" 515<|R 246),(E P "_law_alike" 524<|R 253),(E P "_law_copy" 531<|R 260),(E P "_law_sown" 541<|R 267),(E P "_law_deep" 556<|R 274),(E P "_law_grown" 566<|R 281),(E P "_law_run" 578<|R 288),(E P "law" 584<|R 293)] 51
def KP:Ob:=λ_=>cF "_law_run" 567 312 3 282 576
def KQ:Ob:=λ_=>fX "_law_crossed" 38 gR 238
def KR:Ob:=λ_=>cF "_law_copy" 525 287 1 254 529
def KS:Ob:=λ_=>fX "_law_sown" 42 gR 266
def KU:Ob:=λ_=>cF "_law_deep" 542 294 2 268 554
def KY:Ob:=λ_=>fX "_law_grown" 44 gR 280
def KZ:Ob:=λ_=>fX "law" 46 gR 292
def K1:Ob:=λ_=>cF "_law_number" 509 268 1 240 513
def K2:Ob:=λ_=>fX "_law_alike" 40 gR 252
def K3:Ob:=λ_=>fX "_law_run" 45 gR 287
def K4:Ob:=λ_=>cF "_law_grown" 557 305 3 275 564
def K5:Ob:=λ_=>fX "_law_copy" 41 gR 259
def K6:Ob:=λ_=>co "law" "law" 579 325 1 0 0 3 289 true 181 290 .none .none .none (R 291) 582
def K7:Ob:=λ_=>cF "_law_alike" 516 270 2 247 522
def K8:Ob:=λ_=>fX "_law_deep" 43 gR 273
def K9:Ob:=λ_=>cF "_law_sown" 532 289 3 261 539
def K_:Ob:=λ_=>fX "_law_number" 39 gR 245
def K':Ob:=λ_=>cF "_law_crossed" 499 261 2 233 506
def ar0:List Ob:=[b0,b1,b2,b3,b4,b5,b6,b7,b8,b9,FI,kc,bP,FJ,G']
def aq8:List Ob:=[b0,b1,b2,KO,b4,b5,b6,b7,b8,b9,FI,kc,λ_=>O .none<|.fields #[I 2 0,I 0 0,R 20,I 4 0,I 0 0,R 33,I 8 0,I 0 0,R 46,I 10 0,I 0 0,R 53,I 15 0,I 0 0,R 60,I 20 0,I 0 0,R 67,I 25 0,I 0 0,R 74,I 32 0,I 0 0,R 79,I 39 0,I 0 0,R 86,I 51 0,I 0 0,R 91,I 53 0,I 0 0,R 98,I 59 0,I 0 0,R 105,I 63 0,I 0 0,R 112,I 68 0,I 0 0,R 119,I 70 0,I 0 0,R 126,I 72 0,I 0 0,R 131,I 81 0,I 0 0,R 138,I 86 0,I 0 0,R 145,I 91 0,I 0 0,R 152,I 95 0,I 0 0,R 159,I 108 0,I 0 0,R 164,I 116 0,I 0 0,R 171,I 124 0,I 0 0,R 176,I 146 0,I 0 0,R 183,I 175 0,I 0 0,R 190,I 183 0,I 0 0,R 197,I 188 0,I 0 0,R 202,I 199 0,I 0 0,R 209,I 207 0,I 0 0,R 214,I 213 0,I 0 0,R 221,I 228 0,I 0 0,R 226,I 244 0,I 0 0,R 231,I 261 0,I 0 0,R 238,I 268 0,I 0 0,R 245,I 270 0,I 0 0,R 252,I 287 0,I 0 0,R 259,I 289 0,I 0 0,R 266,I 294 0,I 0 0,R 273,I 305 0,I 0 0,R 280,I 312 0,I 0 0,R 287,I 325 0,I 0 0,R 292],FJ,G',λ_=>tu #[(.type "ValueError")],JC,λP=>dB P 196 198 "OnceError" 197 200 2 199 201 22,kc,bP,λ_=>cC "OnceError" 191 2 18 194,λ_=>fR 20 17,kc,JA,JI,JB,λ_=>sU 24,λ_=>bI 24,λ_=>tu #[R 24],JC,λP=>dB P 214 216 "NoCut" 215 218 4 217 219 35,kc,bP,λ_=>cC "NoCut" 209 4 31 212,λ_=>fR 33 30,kc,JK,JF,λ_=>sU 37,λ_=>bI 37,JJ,kc,bP,λ_=>tu #[S "word" 231],kc,λ_=>gX "is_leaf" 5,JO,JD,kc,bP,λ_=>tu #[S "word" 238],kc,λ_=>gX "size_of" 6,JG,JN,kc,bP,λ_=>tu #[S "knots" 247,S "place" 248,S "knot" 249],kc,λ_=>gX "word_at" 8,JM,JH,kc,bP,λ_=>tu #[S "knot" 256],kc,λ_=>gX "parts_of" 9,JE,JL,kc,bP,λ_=>tu #[S "links" 265,S "place" 266,S "p" 267,S "q" 268],kc,λ_=>gX "partner_of" 11,Ke,JV,kc,bP,λ_=>gX "links_without" 12,JQ,J6,kc,bP,λ_=>tu #[S "web" 281,S "k" 282,S "cuts" 283,S "knots" 284,S "p" 285,S "q" 286,S "links" 287,S "inner" 288],kc,λ_=>gX "cut_step" 13,Kh,JR,kc,bP,λ_=>gX "steps_due" 14,JX,Kb,kc,bP,λ_=>tu #[S "web" 301,S "free" 302],kc,λ_=>gX "cut_free" 15,Kc,JU,kc,bP,λ_=>tu #[S "_law_script" 311,S "_law_k" 312],kc,λ_=>gX "_law_cell_at" 17,J4,Kg,kc,bP,λ_=>tu #[S "_law_script" 319,S "_law_total" 320,S "_law_k" 321,S "_law_cell" 322],kc,λ_=>gX "_law_stir" 18,J7,JZ,kc,bP,λ_=>tu #[S "_law_stir_here" 329,S "_law_factor" 330],kc,λ_=>gX "_law_pick" 19,JS,J9,kc,bP,λ_=>tu #[S "_law_cell" 337,S "_law_k" 338,S "_law_factor" 339],kc,λ_=>gX "_law_mix" 20,Ki,JP,kc,bP,λ_=>gX "_law_name" 21,JT,Ka,kc,bP,λ_=>tu #[S "_law_knots" 352,S "_law_p" 353,S "_law_knot" 354],kc,λ_=>gX "_law_word" 22,Kf,JW,kc,bP,λ_=>tu #[S "_law_word_here" 361,S "_law_sides" 362],kc,λ_=>gX "_law_flip" 23,JY,Kd,kc,bP,λ_=>tu #[S "_law_word_here" 369],kc,λ_=>gX "_law_weight" 24,J8,J5,kc,bP,λ_=>tu #[S "_law_knots" 376,S "_law_word_here" 377,S "_law_left" 378,S "_law_right" 379,S "_law_turn" 380,S "_law_same" 381,S "_law_low" 382,S "_law_high" 383],kc,λ_=>gX "_law_mirror" 25,Kk,Kw,kc,bP,λ_=>gX "_law_join" 26,KA,Ku,kc,bP,λ_=>tu #[S "_law_knots" 396,S "_law_tree_here" 397,S "_law_one" 398,S "_law_two" 399,S "_law_left" 400,S "_law_right" 401],kc,λ_=>gX "_law_fold" 27,Kr,KC,kc,bP,λ_=>gX "_law_cut" 28,Kx,Ks,kc,bP,λ_=>tu #[S "_law_cells" 414,S "_law_seed" 415,S "_law_room" 416,S "_law_knots" 417,S "_law_forest" 418,S "_law_k" 419,S "_law_cell" 420,S "_law_one" 421,S "_law_two" 422,S "_law_deed" 423,S "_law_at" 424],kc,λ_=>gX "_law_tree" 29,Ko,Kz,kc,bP,λ_=>tu #[S "_law_rule" 431,S "_law_links" 432,S "_law_cuts" 433,S "_law_arm" 434],kc,λ_=>gX "_law_gather" 30,KN,Kj,kc,bP,λ_=>tu #[S "_law_tree_here" 441,S "_law_links" 442,S "_law_cuts" 443],kc,λ_=>gX "_law_web" 31,Kt,KI,kc,bP,λ_=>gX "_law_open" 32,KH,Kq,kc,bP,λ_=>tu #[S "_law_knots" 456,S "_law_seed" 457,S "_law_p" 458,S "_law_knot" 459,S "_law_rank" 460],λ_=>tu #[S "_law_ranks" 461],λ_=>gX "_law_order" 33,Ha,KG,kc,bP,λ_=>gX "_law_moved" 34,KJ,Km,kc,bP,λ_=>tu #[S "_law_tree_here" 474,S "_law_stir_here" 475,S "_law_number_here" 476,S "_law_gap" 477,S "_law_offset" 478,S "_law_at" 479,S "_law_made" 480,S "_law_k" 481,S "_law_p" 482,S "_law_knot" 483],kc,λ_=>gX "_law_gapped" 35,Kv,KL,kc,bP,λ_=>gX "_law_swapped" 36,KE,Kp,kc,bP,λ_=>gX "_law_looped" 37,Kl,Ky,kc,bP,λ_=>tu #[S "_law_web_here" 502,S "_law_stir_here" 503,S "_law_number_here" 504,S "_law_k" 505],kc,λ_=>gX "_law_crossed" 38,K',KQ,kc,bP,λ_=>tu #[S "_law_x" 512],kc,λ_=>gX "_law_number" 39,K1,K_,kc,bP,λ_=>tu #[S "_law_found" 519,S "_law_due" 520,S "_law_k" 521],kc,λ_=>gX "_law_alike" 40,K7,K2,kc,bP,λ_=>tu #[S "_law_web_here" 528],kc,λ_=>gX "_law_copy" 41,KR,K5,kc,bP,λ_=>tu #[S "_law_script" 535,S "_law_stir_here" 536,S "_law_wide" 537,S "_law_room" 538],kc,λ_=>gX "_law_sown" 42,K9,KS,kc,bP,λ_=>tu #[S "_law_tree_here" 545,S "_law_number_here" 546,S "_law_knots" 547,S "_law_ends" 548,S "_law_p" 549,S "_law_word_here" 550,S "_law_rule" 551,S "_law_q" 552,S "_law_same" 553],kc,λ_=>gX "_law_deep" 43,KU,K8,kc,bP,λ_=>tu #[S "_law_script" 560,S "_law_stir_here" 561,S "_law_wide" 562,S "_law_tree_here" 563],kc,λ_=>gX "_law_grown" 44,K4,KY,kc,bP,λ_=>tu #[S "_law_web_here" 570,S "_law_factor" 571,S "_law_most" 572,S "_law_now" 573,S "_law_count" 574,S "_law_refused" 575],kc,λ_=>gX "_law_run" 45,KP,K3,kc,bP,λ_=>gX "law" 46,K6,KZ]
def atz:List Ob:=[b0,b1,b2,b3,b4,b5,b6,b7,b8,b9,FI,kc,bP,FJ,G']
def atn:List Ob:=aq8
def Ug(P:Params):Heap:=⟨⟨ar0.map (· P)⟩,{}⟩
def FK(P:Params):Heap:=⟨⟨aq8.map (· P)⟩,{}⟩
def Uh(P:Params):BT:=bt 20 (atz.map (· P))
def Ui(P:Params):BT:=bt 20 (atn.map (· P))
def sA(w:World)(os:OsState):Shared:=⟨Ug w.params,#[],{},187,os⟩
def sZ(w:World)(os:OsState):Shared:=⟨FK w.params,#[],{},585,os⟩
def st0(w:World)(os:OsState):SharedT:=⟨Uh w.params,15,{},#[],{},187,os⟩
def m_(w:World)(os:OsState):SharedT:=⟨Ui w.params,294,{},#[],{},585,os⟩
def Hb:List Stmt:=((behindTheImports p).drop 0).take 47
theorem Uj(w:World):(λos=>topGo treeTable p w 11 an 12 ⟨boot_heap w.params,#[],boot_drawn,boot_toks,os⟩<|topStub p)=λos=>some (sA w os,⟨denote treeTable cE,cE,⟨0,0,0,0⟩,[topFrame q0]⟩):=by kernel_rfl
theorem ast(w:World):(λos=>segRun treeTable p w 11 an 1 1 (sA w os)<|blockOf (behindTheImports p) env0 cE ⟨0,0,0,0⟩ [topFrame q0])=λos=>some (.next,(st0 w os).abs,cE,⟨0,0,0,0⟩):=by kernel_rfl
theorem Uk:∀w,Pc 1650 st0 m_ Hb ⟨0,0,0,0⟩ ⟨325,0,348,86⟩ w:=λw=>by kernel_rfl
theorem Ul(w:World):(λos=>topRun treeTable p w 11 an 2 (m_ w os).abs ⟨doneF .next,cE,⟨325,0,348,86⟩,[topFrame q0]⟩)=λos=>some (sZ w os):=by kernel_rfl
theorem Um:Hb++([])=behindTheImports p:=by kernel_rfl
theorem Uo(w:World)(os:OsState):topRun treeTable p w 11 an (12+(1+(1650+(2)))) ⟨boot_heap w.params,#[],boot_drawn,boot_toks,os⟩ (topStub p)=some (sZ w os):=by have h:=(piece_app (l:=Hb) (rest:=[]) (segRun_of<|Ef (Uk w) os)<|piece_nil (env:=env0)<|Ef (Ul w) os);rw[Um] at h;exact go_top (Ef (Uj w) os)<|piece_block (Ef (ast w) os) h
def as0:List Nat:=[0,1,2,3,4,5,6,7,8,9,10,13,23,24,25,36,37,40,46,47,53,54,60,61,67,68,74,75,79,80,86,87,91,92,98,99,105,106,112,113,119,120,126,127,131,132,138,139,145,146,152,153,159,160,164,165,171,172,176,177,183,184,190,191,197,198,202,203,205,209,210,214,215,221,222,226,227,231,232,238,239,245,246,252,253,259,260,266,267,273,274,280,281,287,288,292,293]
def vw:Program:={ p with main:={ p.main with body:=[top 1,top 2,top 4,top 5,top 6,top 8,top 9,top 11,top 12,top 13,top 14,top 15,top 17,top 18,top 19,top 20,top 21,top 22,top 23,top 24,top 25,top 26,top 27,top 28,top 29,top 30,top 31,top 32,top 33,top 34,top 35,top 36,top 37,top 38,top 39,top 40,top 41,top 42,top 43,top 44,top 45,top 46] } }
def K0:Params->Frag:=λP=>(nat_lit 0,b0 P)::(nat_lit 1,b1 P)::(nat_lit 2,b2 P)::(nat_lit 3,KO P)::(nat_lit 4,b4 P)::(nat_lit 5,b5 P)::(nat_lit 6,b6 P)::(nat_lit 7,b7 P)::(nat_lit 8,b8 P)::(nat_lit 9,b9 P)::(nat_lit 10,FI P)::(nat_lit 13,FJ P)::(nat_lit 23,JA P)::(nat_lit 24,JI P)::(nat_lit 25,JB P)::(nat_lit 36,JK P)::(nat_lit 37,JF P)::(nat_lit 40,JJ P)::(nat_lit 46,JO P)::(nat_lit 47,JD P)::(nat_lit 53,JG P)::(nat_lit 54,JN P)::(nat_lit 60,JM P)::(nat_lit 61,JH P)::(nat_lit 67,JE P)::(nat_lit 68,JL P)::(nat_lit 74,Ke P)::(nat_lit 75,JV P)::(nat_lit 79,JQ P)::(nat_lit 80,J6 P)::(nat_lit 86,Kh P)::(nat_lit 87,JR P)::(nat_lit 91,JX P)::(nat_lit 92,Kb P)::(nat_lit 98,Kc P)::(nat_lit 99,JU P)::(nat_lit 105,J4 P)::(nat_lit 106,Kg P)::(nat_lit 112,J7 P)::(nat_lit 113,JZ P)::(nat_lit 119,JS P)::(nat_lit 120,J9 P)::(nat_lit 126,Ki P)::(nat_lit 127,JP P)::(nat_lit 131,JT P)::(nat_lit 132,Ka P)::(nat_lit 138,Kf P)::(nat_lit 139,JW P)::(nat_lit 145,JY P)::(nat_lit 146,Kd P)::(nat_lit 152,J8 P)::(nat_lit 153,J5 P)::(nat_lit 159,Kk P)::(nat_lit 160,Kw P)::(nat_lit 164,KA P)::(nat_lit 165,Ku P)::(nat_lit 171,Kr P)::(nat_lit 172,KC P)::(nat_lit 176,Kx P)::(nat_lit 177,Ks P)::(nat_lit 183,Ko P)::(nat_lit 184,Kz P)::(nat_lit 190,KN P)::(nat_lit 191,Kj P)::(nat_lit 197,Kt P)::(nat_lit 198,KI P)::(nat_lit 202,KH P)::(nat_lit 203,Kq P)::(nat_lit 205,bP P)::(nat_lit 209,Ha P)::(nat_lit 210,KG P)::(nat_lit 214,KJ P)::(nat_lit 215,Km P)::(nat_lit 221,Kv P)::(nat_lit 222,KL P)::(nat_lit 226,KE P)::(nat_lit 227,Kp P)::(nat_lit 231,Kl P)::(nat_lit 232,Ky P)::(nat_lit 238,K' P)::(nat_lit 239,KQ P)::(nat_lit 245,K1 P)::(nat_lit 246,K_ P)::(nat_lit 252,K7 P)::(nat_lit 253,K2 P)::(nat_lit 259,KR P)::(nat_lit 260,K5 P)::(nat_lit 266,K9 P)::(nat_lit 267,KS P)::(nat_lit 273,KU P)::(nat_lit 274,K8 P)::(nat_lit 280,K4 P)::(nat_lit 281,KY P)::(nat_lit 287,KP P)::(nat_lit 288,K3 P)::(nat_lit 292,K6 P)::(nat_lit 293,KZ P)::[]
abbrev lamC:Nat:=209
abbrev lamT:Nat:=205
abbrev lamO:Ob:=Ha
abbrev ls:List Str:=[]
abbrev Xt:Shared->Bool:=λs=>xlAt vw [] s&&recOk (RowW.records rr.row.toRowW) s
theorem Uq(w:World):((boot_heap w.params).isNs mainGlobals&&(#[]:Array GenState).size==0,(boot_heap w.params).objs.size,(boot_heap w.params).nsMap mainGlobals "__annotations__")=(true,11,an):=by kernel_rfl
theorem Ur:opening p=plainProg p.main.scope.names:=by kernel_rfl
theorem Us(s:Shared):fenceModules? p s=some s:=by kernel_rfl
theorem gT(w:World):(λos=>(staticsOk (importedModules p.main.body) (boot_heap w.params) (FK w.params)&&namesBound p (FK w.params)&&gensDone (sZ w os)&&laidKept (boot_heap w.params) (FK w.params)))=λ_=>true:=by kernel_rfl
theorem lk2(w:World):(λos=>openSeen vw ls (importedModules p.main.body) Xt true<|sZ w os)=λ_=>openGood vw ls:=by kernel_rfl
theorem lk3(w:World):(λos=>obsZ as0<|sZ w os)=λ_=>valZ K0 294 585 w:=by kernel_rfl
theorem left_:LeftO p vw ls Xt (obsZ as0) (valZ K0 294 585) 3416:=LeftO.of_pieces (boot_open Ur rfl Us) Uq Uo rfl λw=>funext λos=>looks_pair (Ef (gT w) os)<|looks_pair (Ef (lk2 w) os)<|Ef (lk3 w) os
end
end H53
open PySem PySem.W PyProof.Rows
set_option maxRecDepth 100000 in
set_option maxHeartbeats 0 in
theorem PySem.Challenge.cw_oncewise_k53_any_order_of_cuts_holds : PySem.Challenge.rw_oncewise_k53_any_order_of_cuts.Holds := by
 w_on;refine holds_law (by unfold OpenLaw.wellSaid OpenRow.wellSaid OpenRow.partSaid looksOpen;walk_at "y";walk_at "y";walk_at "y";walk_at "y";walk_at "y";walk_at "y";all_goals decide +kernel) λJ=>?_
 refine holds_openX (q:=H53.vw) (loose:=H53.ls) (Xt:=H53.Xt) (XP:=XL H53.vw []) (Yf:=PySem.W.X.obsZ H53.as0) (Ya:=PySem.W.X.valZ H53.K0 294 585) (N:=3416) H53.left_ (λs e=>xl_of s (Bool.and_eq_true_iff.mp e).1)
  XL.keeps (by rfl) (by rfl) (by rfl) (λs e=>recFacts_of (Bool.and_eq_true_iff.mp e).2)
  (by rfl) (by decide +kernel) (by decide +kernel) ⟨rfl,rfl,rfl,rfl,rfl,by decide +kernel⟩ ?hw ?hc
 case hw=>w_witness2
 k_fill
 refine L2.walk_ofZT (l:=PySem.Challenge.rw_oncewise_k53_any_order_of_cuts) (n:=63) (k:=175) (x:="_law_script") (CX:=L2.CX0) (sp:=L3.spTopT L3.lamQ) rfl (by decide) rfl ⟨rfl,by decide,by decide⟩ (λ_=>rfl) (by decide) ?F ?S ?C
 case F=>
  intro w r t h g G I;have T:(H53.K0 w.params).lookup H53.lamT=some (PySem.W.tabObj #[]):=by k_is
  have U:(H53.K0 w.params).lookup H53.lamC=some (H53.lamO w.params):=by k_is
  have hd:∀h:Heap,h.get? H53.lamC=some (H53.lamO w.params)->PySem.W.CodeHd h H53.lamC H53.lamT:=λh e=>⟨_,_,_,_,_,_,_,_,_,e,rfl,rfl,rfl,rfl,rfl,rfl,rfl,rfl,by decide⟩;have j:(H53.K0 w.params).lookup 4=some (PySem.W.boot_o_4 w.params):=by k_is
  have o:L3.DefInT (L2.lessK H53.lamT<|H53.K0 w.params) "_law_order" L3.s__law_order H53.lamT:=by
   refine' K53.def_inT (L2.ns_dn T ?a) (L2.lk_dn T ?l ?n) (L2.code_dn T ?c) (L2.keep_dn T ?k) ?LC
   (case a=>k_is);(case l=>k_is);(case n=>(intro e;cases e));(case c=>k_is);(case k=>k_is)
   refine'⟨⟨H53.lamC,_,rfl,L2.lk_dn T U ?m,hd⟩,⟨4,_,L2.ns_dn T ?b,by decide,by decide,L2.lk_dn T j ?p,rfl,rfl,rfl⟩⟩
   (case m=>(intro e;cases e));(case b=>k_is);(case p=>(intro e;cases e))
  refine⟨H53.lamT,⟨T,⟨H53.lamC,λh X=>hd h<|X _ _ U⟩,by decide⟩,?_⟩;refine' K53.all_mk (K:=L2.lessK H53.lamT<|H53.K0 w.params) (L2.lessK_in g) G I ?D0 ?D1 ?D2 ?D3 ?D4 ?D5 ?D6 ?D7 ?D8 ?D9 ?D10 ?D11 ?D12 ?D13 ?D14 ?D15 ?D16 ?D17 ?D18 ?D19 ?D20 ?D21 ?D22 ?D23 ?D24 ?D25 ?D26 ?D27 ?D28 ?D29 ?D30 ?D31 ?D32 ?D33 ?D34 ?D35 ?D36 ?D37 ?D38 ?aLEAF_KINDS ?lLEAF_KINDS ?aCNoCut ?qCNoCut ?xf ?zmax ?zmin ?zsorted ?zlen ?zlist ?zzip ?zsum ?zenumerate ?zrange ?zisinstance ?ztuple ?zint ?zbool ?zstr
  (case aCNoCut=>(refine' L2.ns_dn T ?_;k_is))
  (case D0|D1|D2|D3|D4|D5|D6|D7|D8|D9|D10|D11|D12|D13|D14|D15|D16|D17|D18|D19|D20|D21|D22|D23|D24|D26|D27|D28|D29|D30|D31|D32|D33|D34|D35|D36|D37|D38=>refine' L2.def_in (L2.ns_dn T ?a) (L2.lk_dn T ?l ?n) (L2.code_dn T ?c)<|L2.keep_dn T ?k;(case a=>k_is);(case l=>k_is);(case n=>(intro e;cases e));(case c=>k_is);(case k=>k_is))
  (case D25=>exact o)
  (case aLEAF_KINDS=>(refine' L2.ns_dn T ?_;k_is))
  (case lLEAF_KINDS=>(refine' L2.lk_dn T ?x ?n;(case x=>k_is);(case n=>(intro e;cases e))))
  (case qCNoCut=>(refine' L2.exc_dn T ?_;k_exc))
  (case xf=>(refine' L3.XF53.dn T ?_;(refine' L3.XF53.mk ?em;(case em=>(refine' L3.exm_own ?h0 ?h1 ?h2 ?h3;(case h0=>k_is);(case h1=>k_is);(case h2=>k_is);(case h3=>k_is))))))
  (case zmax|zmin|zsorted|zlen|zlist|zzip|zsum|zenumerate|zrange|zisinstance|ztuple|zint|zbool|zstr=>(refine' L2.ns_dn T ?_;k_is))
 case S=>exact L3.top_startT
 case C=>exactλ_ _ _ _ z=>z
#print axioms PySem.Challenge.cw_oncewise_k53_any_order_of_cuts_holds
