import PyProof.Rows.All
import Wide.All
import OpenK.AllK
import Wide.FinOn
import Lean
import PyProof.EqAt
import PyProof.EqKinds
import PyProof.TupleCall
import PyProof.NeKinds
import PySem.Challenge.RW_oncewise_k14_spoilt_links
import OpenK.ZGo
set_option genSizeOf false
set_option bootstrap.genMatcherCode false
set_option compiler.extract_closed false
set_option hygiene false
local macro_rules|`(tactic| walk_at "t")=>`(tactic| (first|assumption|exact Nat.succ_pos _|exact qt.tk (by assumption)|exact Nat.lt_of_lt_of_le (qt.tk (by assumption)) (Nat.le_add_right _ _)|exact Nat.lt_of_lt_of_le (qt.tk (by assumption)) (by assumption)))
set_option hygiene true
local macro_rules|`(tactic| walk_at "w")=>`(tactic| conv=>whnf)
local macro_rules|`(tactic| walk_at "y")=>`(tactic| ((refine PySem.W.look_both ?_ ?_);(refine PySem.W.look_both ?_ ?_);(refine PySem.W.look_both ?_ ?_);(refine PySem.W.look_both ?_ ?_);(refine PySem.W.look_both ?_ ?_);(refine PySem.W.look_both ?_ ?_)))
set_option Elab.async false
set_option linter.all false
set_option maxRecDepth 100000
abbrev Aa:=@PySem.wpAny_bind
abbrev Ab:=@PyProof.Rows.wpS_bind
abbrev Ac:=@List.length_append
abbrev Ad:=@PyProof.Rows.wpS_pure
abbrev Ae:=@List.length_map
abbrev Af:=@PySem.W.Frag
abbrev Ag:=@List.getElem?_eq_getElem
abbrev Ah:=@List.mem_append_right
abbrev Ai:=@List.mem_cons_of_mem
abbrev Aj:=@PySem.wpAny_pure
abbrev Ak:=@List.mem_append
abbrev Al:=@List.getElem?_map
abbrev Am:=@List.mem_append_left
abbrev An:=@Nat.le_refl
abbrev Ao:=@List.mem_singleton
abbrev Ap:=@List.size_toArray
abbrev Aq:=@Option.map_eq_some_iff
abbrev Ar:=@List.mem_cons_self
abbrev As:=@List.mem_cons
abbrev Au:=@decide_eq_false
abbrev Av:=@List.nodup_append
abbrev Aw:=@decide_eq_true
abbrev Ax:=@List.map_append
abbrev Ay:=@List.append_assoc
abbrev Az:=@List.getElem?_append_left
abbrev AA:=@List.map_cons
abbrev AB:=@if_neg
abbrev AC:=@List.mem_of_getElem?
abbrev AD:=@if_pos
abbrev AE:=@List.nodup_cons
abbrev AF:=@List.getElem?_append_right
abbrev AG:=@Bool.false_ne_true
abbrev AH:=@Ne.symm
abbrev AI:=@List.getElem?_eq_some_iff
abbrev AJ:=@PyProof.Rows.wpS_forRange
abbrev AK:=@Nat.lt_of_lt_of_le
abbrev AL:=@List.length_cons
abbrev AM:=@Nat.le_trans
abbrev AN:=@List.append_nil
abbrev AO:=@List.mem_filter
abbrev AQ:=@List.pairwise_append
abbrev AR:=@List.flatMap_append
abbrev AS:=@Bool.and_eq_true
abbrev AU:=@PyProof.Rows.wpS_mono
abbrev AV:=@Int.natCast_nonneg
abbrev AW:=@PySem.wpAny_mono
abbrev AX:=@List.length_take
abbrev AY:=@List.mem_range
abbrev AZ:=@Option.some.inj
abbrev A1:=@Nat.zero_le
abbrev A2:=@Array.length_toList
abbrev A3:=@Nat.ne_of_lt
abbrev A4:=@PySem.W.mg_none_of
abbrev A5:=@List.getElem?_set_ne
abbrev A6:=@Array.getElem?_toList
abbrev A7:=@List.take_append_drop
abbrev A8:=@Array.toList_append
abbrev A9:=@Nat.le_add_right
abbrev Ba:=@PySem.wpAny_field
abbrev Bb:=@List.take_of_length_le
abbrev Bc:=@List.perm_ext_iff_of_nodup
abbrev Bd:=@List.perm_append_comm
abbrev Be:=@List.not_mem_nil
abbrev Bf:=@PySem.wpAny_holding
abbrev Bg:=@List.mem_map
abbrev Bh:=@List.flatMap_cons
abbrev Bi:=@Nat.le_of_lt
abbrev Bj:=@List.take_length
abbrev Bk:=@congrArg
abbrev Bl:=@List.getD_eq_getElem?_getD
abbrev Bm:=@List.take_succ
abbrev Bo:=@PySem.wpAny_newObj_type
abbrev Bp:=@Nat.add_sub_cancel_left
abbrev Bq:=@PySem.W.mg_of
abbrev Br:=@PySem.W.kia_one
abbrev Bs:=@List.length_set
abbrev Bt:=@Array.size_push
abbrev Bu:=@Nat.lt_of_le_of_lt
abbrev Bv:=@List.length_replicate
abbrev Bw:=@PySem.wpAny_rule
abbrev Bx:=@List.perm_append_right_iff
abbrev Bz:=@List.mem_flatMap
abbrev BA:=@List.getElem_take
abbrev BB:=@List.perm_append_left_iff
abbrev BC:=@List.lookup_cons
abbrev BD:=@Nat.lt_succ_self
abbrev BE:=@PySem.mem_of_lookup
abbrev BF:=@List.getElem_of_mem
abbrev BG:=@PySem.wpAny_seqItems
abbrev BH:=@List.mem_of_mem_take
abbrev BI:=@List.mem_erase_of_ne
abbrev BJ:=@List.getElem?_set_self
abbrev BK:=@List.map_map
abbrev BL:=@Int.le_of_lt
abbrev BM:=@List.length_range
abbrev BN:=@List.eq_nil_of_length_eq_zero
abbrev BO:=@List.pairwise_map
abbrev BP:=@List.find?_cons
abbrev BQ:=@Int.le_trans
abbrev BR:=@PySem.W.hideAll_none
abbrev BS:=@List.length_drop
abbrev BU:=@PyProof.Rows.callWith_type1
abbrev BV:=@Nat.succ_pos
abbrev BW:=@Array.size_append
abbrev BX:=@PySem.W.kia_tup
abbrev BY:=@Nat.min_eq_left
abbrev BZ:=@List.drop_eq_getElem_cons
abbrev B3:=@List.pairwise_iff_getElem
abbrev B4:=@List.length_singleton
abbrev B5:=@List.nodup_range
abbrev B6:=@List.nodup_nil
abbrev B7:=@Nat.exists_eq_add_of_le
abbrev B8:=@Nat.lt_irrefl
abbrev B9:=@Int.ofNat_inj
abbrev Cm:=@List.all_eq_true
abbrev Cn:=@Nat.max_eq_right
abbrev Co:=@List.perm_middle
abbrev Cp:=@Bool.and_false
abbrev Cq:=@Bool.false_eq_true
abbrev Cr:=@List.filter_append
abbrev Cs:=@List.perm_append_singleton
abbrev Ct:=@Nat.le_of_ble_eq_true
abbrev Cu:=@Nat.max_eq_left
abbrev Cv:=@PySem.W.look_both
abbrev Cw:=@Int.toNat_natCast
abbrev Cy:=@Nat.lt_or_ge
abbrev Cz:=@Nat.lt_succ_of_lt
abbrev CA:=@List.any_cons
abbrev CB:=@PyProof.Rows.slot_tuple_getitem
abbrev CC:=@List.filterMap_cons
abbrev CD:=@List.length_pos_iff
abbrev CF:=@List.getElem?_replicate
abbrev CG:=@List.eraseIdx_cons_succ
abbrev CH:=@List.getElem_mem
abbrev CI:=@List.Perm.refl
abbrev CK:=@Int.mul_le_mul_of_nonneg_right
abbrev CL:=@PySem.W.of_hideAll
abbrev CM:=@PySem.W.funFrames_hide
abbrev CN:=@List.append_of_mem
abbrev CO:=@Nat.not_lt_zero
abbrev CP:=@List.getElem?_eq_none
abbrev CQ:=@List.length_filter_le
abbrev CS:=@PySem.W.kitx_list
abbrev CT:=@Nat.le_succ_of_le
abbrev CU:=@Nat.le_succ
abbrev CV:=@List.mem_of_mem_drop
abbrev CW:=@Array.toList_reverse
abbrev CY:=@Nat.le_sub_one_of_lt
abbrev CZ:=@List.replicate_succ'
abbrev C0:=@Nat.ne_of_gt
abbrev C1:=@List.filter_cons
abbrev C2:=@Nat.min_eq_right
abbrev C3:=@PySem.W.hideAll_get
abbrev C4:=@List.reverse_append
abbrev C5:=@List.mem_map_of_mem
abbrev C6:=@List.perm_iff_count
abbrev C7:=@List.all_cons
abbrev C8:=@List.Perm.eq_of_pairwise
abbrev C9:=@List.forIn_cons
abbrev De:=@Nat.le_add_left
abbrev Df:=@List.nil_append
abbrev Dg:=@List.filter_nil
abbrev Di:=@Int.emod_nonneg
abbrev Dj:=@Array.size_extract
abbrev Dk:=@Int.emod_lt_of_pos
abbrev Dl:=@List.getElem?_cons_succ
abbrev Dm:=@List.length_eraseIdx_le
abbrev Dn:=@Int.le_refl
abbrev Do:=@Nat.lt_add_of_pos_right
abbrev Dp:=@List.getElem?_set_self'
abbrev Dq:=@List.map_nil
abbrev Dr:=@Nat.lt_trans
abbrev Ds:=@Bool.not_eq_true'
abbrev Dt:=@Array.toList_push
abbrev Du:=@List.length_take_of_le
abbrev Dv:=@Nat.sub_self
abbrev Dw:=@List.getElem_cons_drop
abbrev Dx:=@List.mem_range'_1
abbrev Dy:=@List.Perm.append_right
abbrev Dz:=@List.count_append
abbrev DA:=@List.eraseIdxIfInBounds_toArray
abbrev DB:=@List.eraseIdx_eq_take_drop_succ
abbrev DC:=@List.singleton_append
abbrev DE:=@List.Perm.append_left
abbrev DF:=@List.getElem_inj
abbrev DG:=@List.flatMap_nil
abbrev DH:=@List.sum_cons
abbrev DI:=@List.take_append_of_le_length
abbrev DJ:=@List.getElem?_of_mem
abbrev DK:=@List.of_mem_zip
abbrev DL:=@List.length_zip
abbrev DM:=@List.length_reverse
abbrev DN:=@Nat.zero_add
abbrev DO:=@List.mem_filterMap
abbrev DP:=@PySem.W.kitx_tuple
abbrev DQ:=@Option.isSome_some
abbrev DR:=@Prod.ext
abbrev DS:=@PySem.F.excBase_ValueError
abbrev DU:=@PyProof.Rows.LSm.kept_iter
abbrev DV:=@Nat.lt_or_eq_of_le
abbrev DW:=@List.zip_cons_cons
abbrev DX:=@decide_eq_true_iff
abbrev DY:=@List.length_eraseIdx_of_lt
abbrev DZ:=@PySem.F.slot_dict_getitem
abbrev Eb:=@PySem.W.kitx_dict
abbrev Ec:=@List.take_sublist
abbrev Ed:=@List.getElem_drop
abbrev Ee:=@List.reverse_perm
abbrev Ef:=@List.nodup_range'
abbrev Eg:=@List.set_comm
abbrev Eh:=@List.getElem?_take_of_lt
abbrev Ei:=@List.cons.inj
abbrev Ej:=@List.getElem_append_left
abbrev Ek:=@List.Pairwise.imp_of_mem
abbrev El:=@Nat.succ_le_succ
abbrev Em:=@Nat.le_of_not_lt
abbrev Eo:=@decide_eq_decide
abbrev Ep:=@PySem.F.plainAttrs_list
abbrev Er:=@List.zipIdx_cons
abbrev Es:=@List.range'_succ
abbrev Et:=@PySem.Str.length_append
abbrev Eu:=@List.filter_cons_of_neg
abbrev Ew:=@List.filter_cons_of_pos
abbrev Ex:=@congrFun
abbrev Ey:=@PySem.W.cellsFrom_some
abbrev Ez:=@List.drop_eq_nil_of_le
abbrev EC:=@Bool.not_not
abbrev ED:=@List.map_set
abbrev EE:=@Bool.eq_iff_iff
abbrev EF:=@Bool.or_eq_true
abbrev EG:=@List.Perm.of_eq
abbrev EH:=@beq_false_of_ne
abbrev EI:=@List.range_succ
abbrev EJ:=@List.sum_append
abbrev EK:=@List.forIn_nil
abbrev EL:=@List.drop_zero
abbrev EM:=@Nat.add_assoc
abbrev EN:=@Nat.sub_le
abbrev EO:=@Nat.not_lt
abbrev wh:=@PySem.Heap.get?_push_of_some
abbrev xT:=@PySem.Heap.lt_size
abbrev ya:=@PySem.Heap.get?_push_size
abbrev yp:=@PySem.PassesOwn.never
abbrev At:=@PySem.Heap.SameBut.update
abbrev Db:=@PySem.Calls.spliced_cons
abbrev DT:=@PySem.F.slot_tuple_iterator_next
abbrev Ev:=@PySem.MeetsSeq.plain_remove_loop
abbrev EQ:=@PySem.W.look_both
abbrev Fa:=@PySem.Calls.spliced_nil
abbrev Fg:=@PySem.Heap.size_push
abbrev Fh:=@PySem.Heap.get?_update_self
abbrev Fi:=@PySem.F.slot_zip_next
abbrev Wa:=PySem.Value->PySem.Shared->Prop
abbrev Wb:=Unit->PySem.Shared->Prop
abbrev Wc:=PySem.Str->Option PySem.Value
abbrev We:=List<|Nat×Nat
abbrev Wf:=List (Nat×Nat)
abbrev Wg:=List PySem.Value
abbrev Wh:=Array PySem.Value
abbrev Wi:=List Nat
abbrev Wj:=List PySem.Str
abbrev Wk:=List PySem.Expr
abbrev Wl:=List PySem.Stmt
abbrev Wm:=List Int
abbrev Wn:=Option PySem.Value
abbrev Wo:=Option Int
abbrev Wp:=Nat->Nat
abbrev Wq:=Nat×Nat
abbrev Wr:=PySem.Value
abbrev Ws:=PySem.Shared
abbrev Wt:=PySem.Program
abbrev Wu:=PySem.World
abbrev Wv:=PySem.Heap
abbrev Ww:=String
noncomputable section
namespace L2
open PySem PyProof.Rows
def iy{M:Model}{U:Ctx}{p:Pos}{t:Sem Fin}{fs:List Frame}{s s':Ws}{e:End}(h:Runs M U p t fs s e s'):s.toks<=s'.toks:=by induction h with|fresh _ g=>exact AM (CU _) g|call _ _ I J=>exact AM I J|resumeFresh _ _ _ _ I J=>exact AM I J|resumeSuspended _ _ _ _ I J=>exact AM I J|segRet _ _ I J=>exact AM I J|segGen _ _ I J=>exact AM I J|segSuspGen _ _ _ _ I J=>exact AM I J|_=>first|exact An _|assumption
def vO{M:Model}{J:Ctx}{p:Pos}{g:Nat}{r:Resume}{s s':Ws}{res:GenResult}(h:Wakes M J p g r s res s'):s.toks<=s'.toks:=by
 unfold Wakes at h;split at h
 ·exact h.elim
 ·split at h
  ·obtain⟨e,U,I,_,_,rfl⟩:=h;have q:=iy I;exact q
  ·obtain⟨_,rfl⟩:=h;exact An _
  ·obtain⟨_,rfl⟩:=h;exact An _
 ·obtain⟨e,U,I,_,_,rfl⟩:=h;have q:=iy I;exact q
 ·obtain⟨_,rfl⟩:=h;exact An _
 ·obtain⟨_,rfl⟩:=h;exact An _
def Mo{α:Type}{M:Model}{j:Ctx}(t:Sem α):∀{Q:α->Pos->Ws->Prop} {E:Wr->Pos->Ws->Prop} {p:Pos} {s:Ws} (n:Nat),n<=s.toks->Sem.wp M j t Q E p s->Sem.wp M j t (λa U s'=>Q a U s'/\n<=s'.toks) (λe U s'=>E e U s'/\n<=s'.toks) p s:=by induction t with|pure a=>intro Q E p s n I h;exact⟨h,I⟩|raise e=>intro Q E p s n I h;exact⟨h,I⟩|load a part k J=>intro Q E p s n I ⟨o,h1,h2⟩;exact⟨o,h1,J o n I h2⟩|update a part f k J=>intro Q E p s n I ⟨h1,h2⟩;exact⟨h1,J () n I h2⟩|fresh k J=>intro Q E p s n I h;exact J s.toks n (AM I<|CU _) h|choose C m k J=>intro Q E p s n I ⟨h1,h2⟩;exact⟨h1,J _ n I h2⟩|call c hd g l k J=>intro Q E p s n I ⟨r,s',h1,h2⟩;exact⟨r,s',h1,J r n (AM I<|iy h1) h2⟩|genState g k J=>intro Q E p s n I ⟨st,h1,h2⟩;exact⟨st,h1,J _ n I h2⟩|resume g r l k J=>intro Q E p s n I ⟨res,s',h1,h2⟩;exact⟨res,s',h1,J _ n (AM I<|vO h1) h2⟩|rule tag k J=>intro Q E p s n I h;exact J () n I h|«at» pos k J=>intro Q E p s n I h;exact J () n I h|alloc o k J=>intro Q E p s n I h;exact J _ n I h|loadIfAlive a k J=>intro Q E p s n I h;exact J _ n I h|point l k J=>intro Q E p s n I h;exact J _ n I h|ask k J=>intro Q E p s n I h;exact J _ n I h|os q l k J=>intro Q E p s n I h;exact J _ n I h|handled own k J=>intro Q E p s n I h;exact J _ n I h|newGen c k J=>intro Q E p s n I h;exact J _ n I h|stack k J=>intro Q E p s n I h;exact J _ n I h|thread k J=>intro Q E p s n I h;exact J _ n I h|unsupported w=>intro Q E p s n I h;exact h.elim|finish e=>intro Q E p s n I h;exact h.elim|register a k J=>intro Q E p s n I h;exact h.elim|yield v g l k J=>intro Q E p s n I h;exact h.elim|fork c k J=>intro Q E p s n I h;exact h.elim|await a f d l k J=>intro Q E p s n I h;exact h.elim
def xG{α:Type}{M:Model}{A:Around}{t:Sem α}{Q:α->Ws->Prop}{E:Wa}{s:Ws}(h:wpAny M A t Q E s):wpAny M A t (λa s'=>Q a s'/\s.toks<=s'.toks) (λe s'=>E e s'/\s.toks<=s'.toks) s:=
 λJ p I=>Mo t s.toks (An _)<|h J p I
def j5{α:Type}{M:Model}{A:Around}{t:Sem α}{Q:α->Ws->Prop}{E:Wa}{s:Ws}(I:0<s.toks)(h:wpAny M A t (λa s'=>0<s'.toks->Q a s') (λe s'=>0<s'.toks->E e s') s):wpAny M A t Q E s:=
 AW (xG h) (λ_ _ z=>z.1<|AK I z.2) λ_ _ z=>z.1<|AK I z.2
end L2
variable {M:PySem.Model}{apos fm sL np p p1 p2 p3 p4 p5 pos fy py tp:PySem.Pos}{t t1 t2:Bool}{s s':PySem.Shared}{c e pj o target tg value:PySem.Expr}{α β κ:Type}{A:PySem.Around}{E Q xe:PySem.Value->PySem.Shared->Prop}{eA us vs:List PySem.Value}{cd eW hQ oc pm u:PySem.Value}{base h h':PySem.Heap}{d i j kt n na t' x1:Nat}{ch fp:List PySem.Addr}{C Pt c' dx f fa it ka l1 l2 pa pb:PySem.Addr}{kx name px q eK x:PySem.Str}{pins:List<|PySem.Addr×PySem.Obj}{st:PySem.Stmt}{mv es nC:List PySem.Expr}{body:List PySem.Stmt}{ct l lk m:We}{lo:Int}{mA mg:PySem.Str->Option PySem.Value}{fd:PySem.FuncData}{ps:List PySem.Str}{fx scope:PySem.Scope}{outer:List PySem.Env}{an od:Option PySem.Addr}{pR:Array<|Option PySem.Value}{prog:PySem.Program}{env:PySem.Env}{rks:Wm}{qs:Wi}
namespace L2
open PySem PySem.Spec PyProof.Rows
abbrev jh:=Sum Int Str
abbrev Wz:=List jh
def ny:jh->Wr->Bool
 |.inl k,v=>Value.isInt k v
 |.inr x,v=>Value.isStrOf x v
def Mp(w:Wu):jh->Int
 |.inl k=>hashInt k
 |.inr x=>hashStr w x
theorem vd:∀{k:jh} {v:Wr},ny k v=true->(∃i t,k=Sum.inl i/\v=Value.int i t)\/(∃x t,k=Sum.inr x/\v=Value.str x t)
 |.inl i,v,h=>by obtain⟨t,e⟩:=Value.isInt_shape (k:=i) (v:=v) h;exact .inl ⟨i,t,rfl,e⟩
 |.inr x,v,h=>by obtain⟨t,e⟩:=Value.isStrOf_shape (x:=x) (v:=v) h;exact .inr ⟨x,t,rfl,e⟩
def Mq(i:Int)(t:Tok):ny (.inl i) (.int i t)=true:=by simp[ny,Value.isInt]
def jB(x:Str)(t:Tok):ny (.inr x) (.str x t)=true:=by simp[ny,Value.isStrOf]
def Mr(a b:Int):decide ((Sum.inl a:jh)=Sum.inl b)=(a==b):=by
 by_cases e:a=b
 ·subst e;simp
 ·have h:¬(Sum.inl a:jh)=Sum.inl b:=λq=>e<|Sum.inl.inj q;rw[Au h];exact(beq_eq_false_iff_ne.mpr e).symm
def Ms(a b:Str):decide ((Sum.inr a:jh)=Sum.inr b)=decide (a=b):=by
 by_cases e:a=b
 ·subst e;simp
 ·have h:¬(Sum.inr a:jh)=Sum.inr b:=λq=>e<|Sum.inr.inj q;rw[Au h,Au e]
def Mt(a:Int)(b:Str):decide ((Sum.inl a:jh)=Sum.inr b)=false:=Au λq=>nomatch q
def Mu(a:Str)(b:Int):decide ((Sum.inr a:jh)=Sum.inl b)=false:=Au λq=>nomatch q
def va(prog:Wt)(w:Wu):PySem.KeyKind prog w jh where
 is:=ny
 hash:=Mp w
 inj:=λv a b g U=>by
  rcases vd g with⟨i,t,rfl,rfl⟩|⟨x,t,rfl,rfl⟩
  ·rcases vd U with⟨j,u,rfl,e⟩|⟨y,u,rfl,e⟩
   ·injection e with I _;rw[I]
   ·exact nomatch e
  ·rcases vd U with⟨j,u,rfl,e⟩|⟨y,u,rfl,e⟩
   ·exact nomatch e
   ·injection e with I _;rw[I]
 byValue:=λk v h=>by rcases vd h with⟨i,t,rfl,rfl⟩|⟨x,t,rfl,rfl⟩<;>rfl
 pyHash:=λJ h=>by
  rcases vd J with⟨i,t,rfl,rfl⟩|⟨x,t,rfl,rfl⟩
  ·exact wpAny_pyHash_int h
  ·exact wpAny_pyHash_str h
 eqBool:=λl J h=>by
  rcases vd l with⟨i,t,rfl,rfl⟩|⟨x,t,rfl,rfl⟩
  ·rcases vd J with⟨j,u,rfl,rfl⟩|⟨y,u,rfl,rfl⟩
   ·rw[Mr] at h;exact wpAny_eqBool_int h
   ·rw[Mt] at h;exact SeqAt.EqAt.int_str i t y u _ _ _ _ h
  ·rcases vd J with⟨j,u,rfl,rfl⟩|⟨y,u,rfl,rfl⟩
   ·rw[Mu] at h;exact SeqAt.EqAt.str_int x t j u _ _ _ _ h
   ·rw[Ms] at h;exact wpAny_eqBool_str h
 «strs» := λk x t v h=>by
  rcases vd h with⟨i,u,rfl,e⟩|⟨y,u,rfl,e⟩
  ·exact nomatch e
  ·injection e with I _
   subst I;cases v<;>rfl
def se(prog:Wt)(w:Wu)(i:Int)(t:Tok):(va prog w).is (.inl i) (.int i t)=true:=Mq i t
def tf(prog:Wt)(w:Wu)(x:Str)(t:Tok):(va prog w).is (.inr x) (.str x t)=true:=jB x t
inductive V where
 |non|bl (b:Bool)|int (i:Int)|str (x:Str)|byt (b:Array UInt8)|flt (b:UInt64)|ref (a:Addr)|ty (n:Ww)
 deriving DecidableEq
abbrev Wy:=Option V
abbrev Wx:=List V
def zq:V->Wr->Prop
 |.non,u=>u=Value.none
 |.bl b,u=>u=Value.bool b
 |.int i,u=>∃t,u=Value.int i t
 |.str x,u=>∃t,u=Value.str x t
 |.byt b,u=>∃t,u=Value.bytes b t
 |.flt b,u=>∃t,u=Value.float b t
 |.ref a,u=>u=Value.ref a
 |.ty n,u=>u=Value.type n
abbrev zf:Wx->Wg->Prop:=Paired zq
theorem zf.length{xs:Wx}(r:zf xs us):xs.length=us.length:=Paired.length r
theorem zf.get:∀{xs:Wx} {us:Wg} {i:Nat} {x:V},zf xs us->xs[i]?=some x->∃u,us[i]?=some u/\zq x u
 |_,_,_,_,.nil,e=>by simp at e
 |_,_,0,_,.cons r _,e=>by simp at e;subst e;exact⟨_,rfl,r⟩
 |_,_,i+1,x,.cons _ t,e=>by obtain⟨u,h1,h2⟩:=zf.get (i:=i) (x:=x) t (by simpa using e);exact⟨u,by simpa using h1,h2⟩
theorem zf.set{x:V}{u:Wr}(r:zq x u):∀{xs:Wx} {us:Wg} (i:Nat),zf xs us->zf (xs.set i x) (us.set i u)
 |_,_,_,.nil=>.nil
 |_,_,0,.cons _ t=>.cons r t
 |_,_,i+1,.cons q t=>.cons q<|zf.set r i t
def zf.append:∀{xs ys:Wx} {us I:Wg},zf xs us->zf ys I->zf (xs++ys) (us++I):=by
 intro xs ys us I h s
 induction h with|nil=>exact s|cons r t J=>exact .cons r J
theorem zf.take:∀{xs:Wx} {us:Wg} (n:Nat),zf xs us->zf (xs.take n) (us.take n)
 |_,_,0,_=>.nil
 |_,_,_+1,.nil=>.nil
 |_,_,n+1,.cons r t=>.cons r<|zf.take n t
theorem zf.drop:∀{xs:Wx} {us:Wg} (n:Nat),zf xs us->zf (xs.drop n) (us.drop n)
 |_,_,0,r=>r
 |_,_,_+1,.nil=>.nil
 |_,_,n+1,.cons _ t=>zf.drop n t
def ig:Wy->Wn->Prop
 |some v,some u=>zq v u
 |none,none=>True
 |_,_=>False
def KV :List (κ×V)->List (κ×Wr)->Prop:=Paired λ(p:κ×V) (q:κ×Wr)=>p.1=q.1/\zq p.2 q.2
def kV:jh->V
 |.inl i=>.int i
 |.inr x=>.str x
inductive HO where
 |lst (xs:Wx)
 |tup (xs:Wx)
 |dK (kvs:List<|jh×V)|dT (kvs:List<|Wz×V)
 |set (S:Int->Bool) (n:Nat)
 |ins (C dx:Addr) (fs:List<|Str×V)
 |own (x:Addr)
 |xd (fs:List<|Str×V)
 |met (f x:Addr)
 |rng (lo hi:Int)
 |frz (o:Obj) (u:HO)
 |tbl (ps:Wh)
 |ext (φ:Wv->Prop)
abbrev Hp:=Addr->Option HO
def upd(H:Hp)(a:Addr)(o:HO):Hp:=λb=>if b=a then some o else H b
def zu{H:Hp}{a:Addr}{o:HO}:upd H a o a=some o:=by unfold upd;rw[AD rfl]
def qp{H:Hp}{a b:Addr}{o:HO}(h:b≠a):upd H a o b=H b:=by unfold upd;rw[AB h]
def Mv{H:Hp}{a:Addr}{o u:HO}:upd (upd H a o) a u=upd H a u:=by funext b;unfold upd;split<;>rfl
def Mw{H:Hp}{a b:Addr}{o u:HO}(h:H a=some o)(h':H b=some u)(d:o≠u):a≠b:=by intro e;subst e;rw[h] at h';exact d<|AZ h'
def zx{H:Hp}{a b:Addr}{o:HO}(h:H a=some o)(h':H b=none):a≠b:=by intro e;subst e;rw[h] at h';cases h'
section
variable (P:Wt)(w:Wu)
def x9(H:Hp)(h:Wv)(a:Addr):HO->Prop
 |.lst xs=>xs.length<=sizeLine/\∃(eA:Wg) (n:Nat),zf xs eA/\h.get? a=some {cls:=.type "list",data:=.seq eA.toArray n}
 |.tup xs=>xs.length<=sizeLine/\∃eA:Wg,zf xs eA/\IsTup h a eA.toArray
 |.dK kvs=>kvs.length<=sizeLine/\(a==sysModules)=false/\∃vs,KV kvs vs/\h.DictOf (va P w) a vs
 |.dT kvs=>kvs.length<=sizeLine/\(a==sysModules)=false/\∃xs:List (Wz×Addr×Wr),
  Paired (λ(p:Wz×V) (q:Wz×Addr×Wr)=>p.1=q.1/\H q.2.1=some (.tup<|p.1.map kV)/\zq p.2 q.2.2) kvs xs/\
  ∃o es J,h.get? a=some o/\o.ExactDict/\o.data=.dict es J/\es.toList=xs.map (entryOfKey<|tupleKind<|va P w)/\(xs.map (·.1)).Nodup
 |.set S n=>h.SetOf (intKind P w) a S n
 |.ins C dx fs=>H dx=some (.own a)/\fs.length<=1000/\dx≠a/\h.get? a=some (PySem.W.instObj C dx)/\
  ∃mA,h.Ns1 dx mA/\(∀f,ig (fs.lookup f)<|mA f)/\PySem.Within mA (fs.map (·.1))
 |.own _=>∃o,h.get? a=some o
 |.xd fs=>∃mA,h.Ns1 a mA/\∀f,ig (fs.lookup f)<|mA f
 |.rng lo hi=>∃t u v,h.get? a=some {cls:=.type "range",data:=.fields #[.int lo t,.int hi u,.int 1 v]}
 |.frz o u=>h.get? a=some o/\x9 H h a u
 |.tbl ps=>h.get? a=some {cls:=.none,data:=.fields ps}
 |.met f x=>h.get? a=some (PySem.W.methodObj (.ref f)<|.ref x)
 |.ext I=>I h/\(∃o,h.get? a=some o)/\∀h1 h2:Wv,I h1->(∀o,h1.get? a=some o->h2.get? a=some o)->I h2
def eE(H:Hp)(h:Wv):Prop:=∀a o,H a=some o->x9 P w H h a o
end
section
variable {P:Wt}{w:Wu}{H H':Hp}{a:Addr}{o:HO}
theorem x9.lt(x:x9 P w H h a o):a<h.objs.size:=by
 cases o with
 |lst J=>obtain⟨_,_,_,_,e⟩:=x;exact xT e
 |tup J=>obtain⟨_,_,_,p⟩:=x;exact p.lt
 |dK I=>obtain⟨_,_,_,_,o,_,_,e,_⟩:=x;exact xT e
 |dT I=>obtain⟨_,_,_,_,o,_,_,e,_⟩:=x;exact xT e
 |set S n=>obtain⟨o,_,_,_,e,_⟩:=x;exact xT e
 |ins C U fs=>obtain⟨_,_,_,e,_⟩:=x;exact xT e
 |own y=>obtain⟨_,e⟩:=x;exact xT e
 |xd fs=>obtain⟨_,⟨_,_,_,e,_⟩,_⟩:=x;exact xT e
 |rng lo g=>obtain⟨_,_,_,e⟩:=x;exact xT e
 |frz ob u=>obtain⟨e,_⟩:=x;exact xT e
 |tbl j=>exact xT<|show h.get? a=some _ from x
 |met f y=>exact xT<|show h.get? a=some _ from x
 |ext l=>obtain⟨_,⟨_,e⟩,_⟩:=x;exact xT e
def Paired.mapP{F G:α->β->Prop}:∀{l₁:List α} {l₂:List β},Paired F l₁ l₂->(∀a b,F a b->G a b)->Paired G l₁ l₂:=by
 intro l₁ l₂ h f
 induction h with|nil=>exact .nil|cons r t I=>exact .cons (f _ _ r) I
abbrev EY:=@Paired.mapP
def x9.stay(x:x9 P w H h a o)(k:∀b u,(b=a\/H b=some (.own a))->h.get? b=some u->h'.get? b=some u)
 (ho:∀b,H b=some (.own a)->H' b=some (.own a)) (ht:∀b xs,H b=some (.tup xs)->H' b=some (.tup xs)):x9 P w H' h' a o:=by
 induction o with
 |lst xs=>obtain⟨z,U,n,r,e⟩:=x;exact⟨z,U,n,r,k _ _ (.inl rfl) e⟩
 |tup xs=>obtain⟨z,U,r,ob,e,c⟩:=x;exact⟨z,U,r,ob,k _ _ (.inl rfl) e,c⟩
 |dK g=>obtain⟨z,y,vs,r,ob,I,J,e,c⟩:=x;exact⟨z,y,vs,r,ob,I,J,k _ _ (.inl rfl) e,c⟩
 |dT g=>
  obtain⟨z,y,xs,r,ob,I,J,e,c⟩:=x;exact⟨z,y,xs,EY r λp q z=>⟨z.1,ht _ _ z.2.1,z.2.2⟩,ob,I,J,k _ _ (.inl rfl) e,c⟩
 |set S n=>obtain⟨ob,I,J,t,e,c⟩:=x;exact⟨ob,I,J,t,k _ _ (.inl rfl) e,c⟩
 |ins C dx fs=>
  obtain⟨d,z,ne,e,j,⟨l,I,J,e2,c⟩,r⟩:=x;exact⟨ho _ d,z,ne,k _ _ (.inl rfl) e,j,⟨l,I,J,k _ _ (.inr d) e2,c⟩,r⟩
 |own y=>obtain⟨ob,e⟩:=x;exact⟨ob,k _ _ (.inl rfl) e⟩
 |xd fs=>obtain⟨j,⟨l,I,J,e,c⟩,r⟩:=x;exact⟨j,⟨l,I,J,k _ _ (.inl rfl) e,c⟩,r⟩
 |rng lo hi=>obtain⟨t,u,v,e⟩:=x;exact⟨t,u,v,k _ _ (.inl rfl) e⟩
 |frz ob u ih=>obtain⟨e,q⟩:=x;exact⟨k _ _ (.inl rfl) e,ih q⟩
 |tbl T=>
  have e:h.get? a=some {cls:=.none,data:=.fields T}:=x;show h'.get? a=some {cls:=.none,data:=.fields T};exact k a _ (.inl rfl) e
 |met f y=>
  have e:h.get? a=some (PySem.W.methodObj (.ref f)<|.ref y):=x;show h'.get? a=some (PySem.W.methodObj (.ref f)<|.ref y);exact k a _ (.inl rfl) e
 |ext φ=>obtain⟨p,⟨o,e⟩,st⟩:=x;exact⟨st _ _ p λo q=>k _ _ (.inl rfl) q,⟨o,k _ _ (.inl rfl) e⟩,st⟩
theorem eE.lt(x:eE P w H h)(e:H a=some o):a<h.objs.size:=(x a o e).lt
def eE.fresh(x:eE P w H h)(e:h.objs.size<=a):H a=none:=by cases q:H a with|none=>rfl|some u=>exact absurd (AK (x.lt q) e)<|B8 _
def eE.kept(x:eE P w H h)(k:∀b u,h.get? b=some u->h'.get? b=some u):eE P w H h':=λa o e=>
 (x a o e).stay (λb u _ q=>k b u q) (λ_ q=>q) λ_ _ q=>q
def eE.laid(x:eE P w H h)(k:∀b u,h.get? b=some u->h'.get? b=some u)(U:h.objs.size<=a)(new:x9 P w (upd H a o) h' a o):eE P w (upd H a o) h':=λb u e=>by
 have I:=x.fresh U;by_cases J:b=a
 ·subst J;rw[zu] at e;cases e;exact new
 ·rw[qp J] at e;exact(x b u e).stay (λc v _ q=>k c v q) (λc q=>by rw[qp<|zx q I];exact q) λc g q=>by rw[qp<|zx q I];exact q
end
def Rd(H:Hp)(a:Addr)(u:HO):Prop:=H a=some u\/∃o,H a=some (.frz o u)
def Rd.ok{P:Wt}{w:Wu}{H:Hp}{a:Addr}{u:HO}(r:Rd H a u)(x:eE P w H h):x9 P w H h a u:=by
 rcases r with r|⟨o,r⟩
 ·exact x a u r
 ·obtain⟨_,q⟩:=x a _ r;exact q
def Fw:Option HO->Prop
 |some (.lst _)=>True
 |some (.dK _)=>True
 |some (.dT _)=>True
 |some (.set _ _)=>True
 |some (.ins _ _ _)=>True
 |some (.ext _)=>True
 |_=>False
section
variable {P:Wt}{w:Wu}{H:Hp}{x e:Addr}{o':HO}
def eE.write(ok:eE P w H h)(g:Fw<|H x)(t:e=x\/H e=some (.own x))(k:∀b u,b≠e->h.get? b=some u->h'.get? b=some u)(p:∃u,h'.get? e=some u)
 (new:x9 P w (upd H x o') h' x o'):eE P w (upd H x o') h':=λb u q=>by
 have J:∀c y,H c=some (.own y)->c≠x:=λc y r z=>by subst z;rw[r] at g;exact g
 have U:∀c j,H c=some (.tup j)->c≠x:=λc j r z=>by subst z;rw[r] at g;exact g
 by_cases l:b=x
 ·subst l;rw[zu] at q;cases q;exact new
 ·rw[qp l] at q;by_cases I:b=e
  ·have C:H b=some (.own x):=by
    rcases t with z|z
    ·exact absurd (I.trans z) l
    ·rw[I];exact z
   rw[q] at C;cases C;obtain⟨v,T⟩:=p;exact⟨v,by rw[I];exact T⟩
  ·refine(ok b u q).stay (λc v o r=>k c v ?_ r) (λc r=>by rw[qp<|J c b r];exact r) λc j r=>by rw[qp<|U c j r];exact r
   rcases o with rfl|o
   ·exact I
   ·rintro rfl;rcases t with z|z
    ·exact J c b o z
    ·rw[o] at z;cases z;exact l rfl
end
structure Un(fs ex:List Addr)(H H':Hp)(h h':Wv):Prop where
 keep:∀b o,h.get? b=some o->H b=none->b∉fs->b∉ex->h'.get? b=some o
 slot:∀b o,h.get? b=some o->H b=none->b∈fs->b∉ex->∃sl,h'.get? b=some {o with slots:=sl}
 free:∀b o,h.get? b=some o->H b=none->b∉ex->H' b=none
 there:∀b o,h.get? b=some o->b∉ex->∃o',h'.get? b=some o'
 tups:∀b xs,H b=some (.tup xs)->H' b=some (.tup xs)
 frzs:∀b o u,H b=some (.frz o u)->H' b=some (.frz o u)
 tbls:∀b ps,H b=some (.tbl ps)->∃more,H' b=some (.tbl<|ps++more)
section
variable {fs fs' ex ex':List Addr}{H H1 H2:Hp}{h1 h2:Wv}{a x e:Addr}{o:HO}
def Un.any(u:Un fs ex H H1 h h1){b:Addr}{ob:Obj}(q:h.get? b=some ob)(n:H b=none)(I:b∉ex):∃U,h1.get? b=some {ob with slots:=U}:=by
 by_cases J:b∈fs
 ·exact u.slot b ob q n J I
 ·exact⟨ob.slots,u.keep b ob q n J I⟩
def Un.kept(k:∀b u,h.get? b=some u->h'.get? b=some u):Un fs ex H H h h':=
 ⟨λb ob q _ _ _=>k b ob q,λb ob q _ _ _=>⟨ob.slots,k b ob q⟩,λ_ _ _ n _=>n,λb ob q _=>⟨ob,k b ob q⟩,λ_ _ q=>q,λ_ _ _ q=>q,λ_ I q=>⟨#[],by rw[q];simp⟩⟩
def Un.refl:Un fs ex H H h h:=Un.kept λ_ _ q=>q
def Un.laid(k:∀b u,h.get? b=some u->h'.get? b=some u)(J:h.objs.size<=a)(I:H a=none):Un fs ex H (upd H a o) h h' where
 keep:=λb u q _ _ _=>k b u q
 slot:=λb u q _ _ _=>⟨u.slots,k b u q⟩
 free:=λb u q n _=>by rw[qp<|A3<|AK (xT q) J];exact n
 there:=λb u q _=>⟨u,k b u q⟩
 tups:=λb U q=>by rw[qp<|zx q I];exact q
 frzs:=λb u U q=>by rw[qp<|zx q I];exact q
 tbls:=λb g q=>⟨#[],by rw[qp<|zx q I,q];simp⟩
def Un.write(J:Fw<|H x)(p:e=x\/H e=some (.own x))(k:∀b u,b≠e->h.get? b=some u->h'.get? b=some u)(U:∃u,h'.get? e=some u):Un fs ex H (upd H x o) h h':=by
 have j:∀b,H b=none->b≠x:=λb n z=>by subst z;rw[n] at J;exact J
 have l:∀b,H b=none->b≠e:=λb n z=>by
  subst z;rcases p with r|r
  ·exact j b n r
  ·rw[n] at r;cases r
 have g:∀b u,H b=some u->¬Fw (some u)->b≠x:=λb u q nm z=>by subst z;rw[q] at J;exact nm J
 refine⟨λb u q n _ _=>k b u (l b n) q,λb u q n _ _=>⟨u.slots,k b u (l b n) q⟩,λb u q n _=>by rw[qp<|j b n];exact n,λb u q _=>?_,
  λb t q=>by rw[qp<|g b _ q λz=>z];exact q,λb u t q=>by rw[qp<|g b _ q λz=>z];exact q,λb C q=>⟨#[],by rw[qp<|g b _ q λz=>z,q];simp⟩⟩
 by_cases I:b=e
 ·subst I;exact U
 ·exact⟨u,k b u I q⟩
end
def F1(h:Wv)(H:Hp):List Addr:=(List.range h.objs.size).filter λa=>(H a).isSome
def rZ(h:Wv)(H:Hp):Wv:=PySem.W.hideAll h<|F1 h H
def Mx(h:Wv)(H:Hp):(rZ h H).objs.size=h.objs.size:=PySem.W.hideAll_size _ _
def My{H:Hp}{b:Addr}{o:Obj}(e:h.get? b=some o)(n:H b=none):(rZ h H).get? b=some o:=
 C3 _ e λI=>by have q:(H b).isSome=true:=(AO.mp I).2;rw[n] at q;simp at q
def Mz{H:Hp}{b:Addr}{o:Obj}(e:(rZ h H).get? b=some o):h.get? b=some o/\H b=none:=by
 have I:h.get? b=some o:=CL (F1 h H) e;refine⟨I,?_⟩;cases q:H b with
 |none=>rfl
 |some x=>
  have J:b∈F1 h H:=AO.mpr ⟨AY.mpr<|xT I,by simp[q]⟩;have z:(rZ h H).get? b=none:=BR (F1 h H) J;rw[z] at e;cases e
end L2
variable {xs zs:List L2.V}{H H' H₀:L2.Hp}{v:L2.V}{kvs:List<|List L2.jh×L2.V}
namespace L2
open PySem PySem.Spec PyProof.Rows
structure Mod(K:Af)(mg:Wc)(base:Wv):Prop where
 kin:K.In base
 glob:base.Ns mainGlobals mg
 blt:∃mb,base.Ns builtinsNs mb/\∀x:Str,x ≠ "__name__" -> mb x=bootBuiltins x
 nolimit:base.NoLimit
structure Cx where
 prog:Wt
 w:Wu
 K:Af
 mg:Wc
 base:Wv
 A:Around
 N:Wj
 s₀:Ws
 H₀:Hp
 env:Env
 outer:List Env
 stack:List Env
 ex:List Addr
 fn:Str->Bool
 calm:Bool
 pn:List (Addr×Obj)
 xe:Wa
def bX(l:List Env):List Addr:=l.filterMap (·.frame)
abbrev Cx.fs(X:Cx):List Addr:=bX X.outer
def y_(I:Scope)(x:Str):Prop:=I.names.lookup x=some .local\/I.names.lookup x=some .cell\/I.names.lookup x=some .free
def Loc(I:Scope)(x:Str):Prop:=I.names.lookup x=some .local\/I.names.lookup x=some .cell
def MA(env:Env)(h:Wv)(m:Wc)(x:Str)(u:Wr):Prop:=
 (env.kindOf x=some .local/\m x=some u)\/((env.kindOf x=some .cell\/env.kindOf x=some .free)/\∃c,env.cells.lookup x=some c/\h.IsCell c (some u))
structure Cx.Ok(X:Cx):Prop where
 mod:Mod X.K X.mg X.base
 kind:X.env.scope.kind=.function
 glob:X.env.globals=mainGlobals
 blt:X.env.builtins=builtinsNs
 above:X.s₀.heap.objs.size<=X.env.locals
 inj:∀x y c,X.env.cells.lookup x=some c->X.env.cells.lookup y=some c->x=y
 has:∀x,(X.env.kindOf x=some .cell\/X.env.kindOf x=some .free)->∃c,X.env.cells.lookup x=some c
 cab:∀x c,X.fn x=true->X.env.cells.lookup x=some c->X.s₀.heap.objs.size<=c
 hd:X.calm=true->X.A.handled=none
 frames:X.A.frames=some X.stack
 stk:X.stack=X.outer\/(X.stack=X.env::X.outer/\X.env.frame=some X.env.locals)
 exf:∀b∈X.ex,b≠X.env.locals/\∀x c,X.env.cells.lookup x=some c->c≠b
 bs:∀b o,X.base.get? b=some o->X.s₀.heap.get? b=some o/\X.H₀ b=none
 bsz:X.base.objs.size<=X.s₀.heap.objs.size
 noex:∀b o,X.base.get? b=some o->b∉X.ex
 exfs:∀b∈X.ex,b∉X.fs
 funs:X.s₀.heap.FunFrames X.base X.outer
 frf:∀b∈X.fs,X.H₀ b=none
structure qt(X:Cx)(pins:List<|Addr×Obj)(σ:List<|Wy)(H:Hp)(s:Ws):Prop where
 ok:X.Ok
 os:s.os=X.s₀.os
 bare:AllBare s.gens
 base:Un X.fs X.ex X.H₀ H X.s₀.heap s.heap
 loc:∃m,s.heap.Ns X.env.locals m/\∀(i:Nat) (x:Str) (v:V),X.N[i]?=some x->σ[i]?=some (some v)->y_ X.env.scope x->∃u,zq v u/\MA X.env s.heap m x u
 cell:∀x c,X.env.cells.lookup x=some c->∃v,s.heap.IsCell c v
 free:H X.env.locals=none
 freeC:∀x c,X.env.cells.lookup x=some c->H c=none
 pin:∀p∈X.pn++pins,s.heap.get? p.1=some p.2/\H p.1=none/\p.1≠X.env.locals/\p.1∉X.fs/\∀v,p.2.data≠.cell v
 hok:eE X.prog X.w H s.heap
 len:σ.length=X.N.length
 tk:0<s.toks
section
variable {X:Cx}{σ:List<|Wy}
theorem Cx.Ok.nofr(ok:X.Ok){b:Addr}{o:Obj}(e:X.base.get? b=some o):b∉X.fs:=λI=>by have:=(ok.funs.mem I).1;rw[e] at this;cases this
theorem qt.bs(I:qt X pins σ H s):∀b o,X.base.get? b=some o->s.heap.get? b=some o/\H b=none:=λb o e=>
 ⟨I.base.keep b o (I.ok.bs b o e).1 (I.ok.bs b o e).2 (I.ok.nofr e)<|I.ok.noex b o e,I.base.free b o (I.ok.bs b o e).1 (I.ok.bs b o e).2<|I.ok.noex b o e⟩
def qt.bk(I:qt X pins σ H s):∀b o,X.base.get? b=some o->s.heap.get? b=some o:=λb o e=>(I.bs b o e).1
theorem qt.mod(I:qt X pins σ H s):Mod X.K X.mg X.base:=I.ok.mod
def qt.kIn(I:qt X pins σ H s):X.K.In s.heap:=I.ok.mod.kin.keeps I.bk
theorem qt.nolimit(I:qt X pins σ H s):s.heap.NoLimit:=I.ok.mod.nolimit.keeps I.bk
theorem qt.lt(I:qt X pins σ H s):X.env.locals<s.heap.objs.size:=let ⟨_,J,_⟩:=I.loc;J.lt
def qt.sz(I:qt X pins σ H s):X.s₀.heap.objs.size<=s.heap.objs.size:=AM I.ok.above<|Bi I.lt
def qt.nofs(I:qt X pins σ H s){a:Addr}(h:s.heap.objs.size<=a):a∉X.fs:=λJ=>by obtain⟨_,o,U,_⟩:=I.ok.funs.mem J;exact absurd (AK (xT U)<|AM I.sz h)<|B8 _
def qt.cne(I:qt X pins σ H s):∀x c,X.env.cells.lookup x=some c->c≠X.env.locals:=λx c e z=>by obtain⟨v,o,g,hd⟩:=I.cell x c e;obtain⟨m,⟨j,l,p,J,U,_⟩,_⟩:=I.loc;rw[z,J] at g;cases g;rw[U] at hd;cases hd
theorem qt.funs(I:qt X pins σ H s):s.heap.FunFrames X.base X.outer:=by
 have all:∀(l:List Env),(∀b∈bX l,b∈X.fs)->X.s₀.heap.FunFrames X.base l->s.heap.FunFrames X.base l:=by
  intro l
  induction l with
  |nil=>intro _ _;trivial
  |cons p r t=>
   rintro j⟨T,⟨L,o,J,hn,ho,hd⟩,hr⟩;have U:L∈X.fs:=j L (by unfold bX;rw[CC,J];exact Ar);obtain⟨sl,e⟩:=I.base.slot L o ho (I.ok.frf L U) U λz=>I.ok.exfs L z U;exact⟨T,⟨L,_,J,hn,e,hd⟩,t (λb g=>j b (by unfold bX;rw[CC,J];exact Ai _ g)) hr⟩
 exact all X.outer (λ_ g=>g) I.ok.funs
def qt.stack(I:qt X pins σ H s):s.heap.FunFrames X.base X.stack:=by
 rcases I.ok.stk with e|⟨e,J⟩
 ·rw[e];exact I.funs
 ·rw[e];obtain⟨m,U,_⟩:=I.loc;refine .cons (by rw[I.ok.kind];decide) J U ?_ I.funs;exact Heap.get?_none_of_le<|AM I.ok.bsz I.ok.above
def qt.stkSub(I:qt X pins σ H s):∀b∈bX X.stack,b∈X.env.locals::X.fs:=λb J=>by
 rcases I.ok.stk with e|⟨e,U⟩
 ·rw[e] at J;exact Ai _ J
 ·rw[e] at J;unfold bX at J;rw[CC,U] at J;exact J
def qt.stkFree(I:qt X pins σ H s):∀b∈bX X.stack,H b=none:=λb J=>by
 rcases As.mp (I.stkSub b J) with e|J
 ·rw[e];exact I.free
 ·obtain⟨_,o,U,_⟩:=I.ok.funs.mem J;exact I.base.free b o U (I.ok.frf b J) λz=>I.ok.exfs b z J
def qt.step{g':Array GenState}{d':Drawn}(I:qt X pins σ H s)
 (U:∀b∈ch,(b∈X.ex\/X.s₀.heap.objs.size<=b)/\b≠X.env.locals/\(∀x c,X.env.cells.lookup x=some c->c≠b)/\∀p∈X.pn++pins,p.1≠b)
 (keep:∀b o,b≠X.env.locals->b∉X.fs->b∉ch->s.heap.get? b=some o->H b=none->h'.get? b=some o)
 (slot:∀b o,b≠X.env.locals->b∈X.fs->b∉ch->s.heap.get? b=some o->H b=none->∃sl,h'.get? b=some {o with slots:=sl}) (free:∀b o,b∉ch->s.heap.get? b=some o->H b=none->H' b=none)
 (there:∀b o,b∉ch->s.heap.get? b=some o->∃o',h'.get? b=some o')
 (tups:∀b xs,H b=some (.tup xs)->H' b=some (.tup xs)) (frzs:∀b o u,H b=some (.frz o u)->H' b=some (.frz o u)) (tbls:∀b ps,H b=some (.tbl ps)->∃more,H' b=some (.tbl<|ps++more))
 (ns:∀m,s.heap.Ns X.env.locals m->h'.Ns X.env.locals m) (hok:eE X.prog X.w H' h') (hg:AllBare g') (ht:0<t':=by walk_at "t"):
 qt X pins σ H' {s with heap:=h',gens:=g',drawn:=d',toks:=t'}:=by
 have kw:∀b o,X.s₀.heap.get? b=some o->b≠X.env.locals:=λb o e=>A3<|AK (xT e) I.ok.above;have t:∀b o,X.s₀.heap.get? b=some o->b∉X.ex->b∉ch:=λb o e J T=>by
  rcases (U b T).1 with z|z
  ·exact J z
  ·exact absurd (AK (xT e) z)<|B8 _
 have g:∀x c,X.env.cells.lookup x=some c->∀v,s.heap.IsCell c v->h'.IsCell c v:=λx c e v ⟨o,ho,hd⟩=>by
  have j:c∉ch:=λz=>(U c z).2.2.1 x c e rfl;by_cases hc:c∈X.fs
  ·obtain⟨sl,q⟩:=slot c o (I.cne x c e) hc j ho<|I.freeC x c e;exact⟨_,q,hd⟩
  ·exact⟨o,keep c o (I.cne x c e) hc j ho<|I.freeC x c e,hd⟩
 refine⟨I.ok,I.os,hg,⟨λb o e n T J=>?_,λb o e n T J=>?_,λb o e n J=>?_,λb o e J=>?_,λb xs e=>tups b xs<|I.base.tups b xs e,λb o xs e=>frzs b o xs<|I.base.frzs b o xs e,λb ps e=>?_⟩,?_,λx c e=>?_,?_,λx c e=>?_,λp hp=>?_,hok,I.len,ht⟩
 ·exact keep b o (kw b o e) T (t b o e J) (I.base.keep b o e n T J)<|I.base.free b o e n J
 ·obtain⟨sl,C⟩:=I.base.slot b o e n T J;obtain⟨a1,e2⟩:=slot b _ (kw b o e) T (t b o e J) C<|I.base.free b o e n J;exact⟨a1,e2⟩
 ·obtain⟨o',C⟩:=I.base.there b o e J;exact free b o' (t b o e J) C<|I.base.free b o e n J
 ·obtain⟨o',C⟩:=I.base.there b o e J;exact there b o' (t b o e J) C
 ·obtain⟨m1,C⟩:=I.base.tbls b ps e;obtain⟨m2,e2⟩:=tbls b _ C;exact⟨m1++m2,by rw[e2,Array.append_assoc]⟩
 ·obtain⟨m,hn,hl⟩:=I.loc;refine⟨m,ns m hn,λi x v C e2 e3=>?_⟩;obtain⟨u,r,l⟩:=hl i x v C e2 e3;refine⟨u,r,?_⟩;rcases l with l|⟨k,c,e,z⟩
  ·exact .inl l
  ·exact .inr ⟨k,c,e,g x c e _ z⟩
 ·obtain⟨v,z⟩:=I.cell x c e;exact⟨v,g x c e v z⟩
 ·obtain⟨m,⟨o,_,_,ho,_⟩,_⟩:=I.loc;exact free _ o (λz=>(U _ z).2.1 rfl) ho I.free
 ·obtain⟨v,o,ho,hd⟩:=I.cell x c e;exact free c o (λz=>(U c z).2.2.1 x c e rfl) ho<|I.freeC x c e
 ·obtain⟨e,n,ne,nf,d⟩:=I.pin p hp;have j:p.1∉ch:=λz=>(U p.1 z).2.2.2 p hp rfl;exact⟨keep p.1 p.2 ne nf j e n,free p.1 p.2 j e n,ne,nf,d⟩
def qt.un(I:qt X pins σ H s)(u:Un X.fs [] H H' s.heap h')(hok:eE X.prog X.w H' h')(T:0<t':=by walk_at "t"):qt X pins σ H' {s with heap:=h',toks:=t'}:=by obtain⟨m,⟨o,es,ep,l,r⟩,_⟩:=id I.loc;obtain⟨sl,p⟩:=u.any l I.free (by simp);exact I.step (g':=s.gens) (d':=s.drawn) (ch:=[]) (λ_ z=>nomatch z) (λb o _ U _ e n=>u.keep b o e n U (by simp)) (λb o _ U _ e n=>u.slot b o e n U (by simp)) (λb o _ e n=>u.free b o e n (by simp)) (λb o _ e=>u.there b o e (by simp)) u.tups u.frzs u.tbls (λm' t=>by obtain⟨o',g,j,J,C⟩:=t;rw[l] at J;cases J;exact⟨_,g,j,p,C⟩) hok I.bare
def qt.call{g':Array GenState}{d':Drawn}(I:qt X pins σ H s)(u:Un (bX X.stack) ch H H' s.heap h')(hok:eE X.prog X.w H' h')(T:AllBare g')
 (U:∀b∈ch,(b∈X.ex\/X.s₀.heap.objs.size<=b)/\b≠X.env.locals/\(∀x c,X.env.cells.lookup x=some c->c≠b)/\∀p∈X.pn++pins,p.1≠b) (ht:0<t':=by walk_at "t"):
 qt X pins σ H' {s with heap:=h',gens:=g',drawn:=d',toks:=t'}:=by
 obtain⟨m,⟨o,es,ep,C,r⟩,_⟩:=id I.loc;obtain⟨sl,j⟩:=u.any C I.free λz=>(U _ z).2.1 rfl;exact I.step (ch:=ch) U (λb o j hb J e n=>u.keep b o e n (λz=>(As.mp<|I.stkSub b z).elim j hb) J) (λb o _ _ J e n=>u.any e n J) (λb o J e n=>u.free b o e n J) (λb o J e=>u.there b o e J) u.tups u.frzs u.tbls (λm' hm=>by obtain⟨o',l,t,g,r'⟩:=hm;rw[C] at g;cases g;exact⟨_,l,t,j,r'⟩) hok T
def qt.turned(I:qt X pins σ H s)(k:∀b o,b≠it->s.heap.get? b=some o->h'.get? b=some o)(j:H it=none)(g:it≠X.env.locals)
 (h1:it∈X.ex\/X.s₀.heap.objs.size<=it) (h2:∀x c,X.env.cells.lookup x=some c->c≠it) (h3:∀p∈X.pn++pins,p.1≠it) (ht:0<t':=by walk_at "t"):qt X pins σ H {s with heap:=h',toks:=t'}:=by
 have U:∀b u,H b=some u->b≠it:=λb u e z=>by rw[z,j] at e;cases e
 refine I.step (g':=s.gens) (d':=s.drawn) (ch:=[it]) (λb l=>?_) (λb o _ _ J e _=>k b o (λz=>J (by simp[z])) e) (λb o _ _ J e _=>⟨o.slots,k b o (λz=>J (by simp[z])) e⟩) (λ_ _ _ _ n=>n)
  (λb o J e=>⟨o,k b o (λz=>J (by simp[z])) e⟩) (λ_ _ e=>e) (λ_ _ _ e=>e) (λb ps e=>⟨#[],by rw[e];simp⟩) (λm t=>?_) (λb u e=>?_) I.bare
 ·have e:b=it:=by simpa using l
  subst e;exact⟨h1,g,h2,h3⟩
 ·obtain⟨o,C,T,ho,r⟩:=t;exact⟨o,C,T,k _ o (AH g) ho,r⟩
 ·refine(I.hok b u e).stay (λc v J q=>k c v ?_ q) (λ_ q=>q) λ_ _ q=>q;rcases J with z|z
  ·rw[z];exact U b u e
  ·exact U c _ z
def qt.tok(I:qt X pins σ H s)(t:Nat)(J:0<t:=by walk_at "t"):qt X pins σ H {s with toks:=t}:=I.un (h':=s.heap) (t':=t) Un.refl I.hok
theorem qt.kept(I:qt X pins σ H s)(k:∀b u,s.heap.get? b=some u->h'.get? b=some u)(J:0<t':=by walk_at "t"):qt X pins σ H {s with heap:=h',toks:=t'}:=I.un (Un.kept k)<|I.hok.kept k
theorem qt.laid{a:Addr}{o:HO}(I:qt X pins σ H s)(k:∀b u,s.heap.get? b=some u->h'.get? b=some u)(J:s.heap.objs.size<=a)(new:x9 X.prog X.w (upd H a o) h' a o)(U:0<t':=by walk_at "t"):
 qt X pins σ (upd H a o) {s with heap:=h',toks:=t'}:=I.un (Un.laid k J<|I.hok.fresh J)<|I.hok.laid k J new
theorem qt.write{x e:Addr}{o:HO}(I:qt X pins σ H s)(U:Fw<|H x)(g:e=x\/H e=some (.own x))(k:∀b u,b≠e->s.heap.get? b=some u->h'.get? b=some u)(J:∃u,h'.get? e=some u)
 (new:x9 X.prog X.w (upd H x o) h' x o) (j:0<t':=by walk_at "t"):qt X pins σ (upd H x o) {s with heap:=h',toks:=t'}:=I.un (Un.write U g k J)<|I.hok.write U g k J new
def qt.weak{hE:List<|Wy}(I:qt X pins σ H s)(U:hE.length=σ.length)(w:∀(i:Nat) v,hE[i]?=some (some v)->σ[i]?=some (some v)):qt X pins hE H s:=
 ⟨I.ok,I.os,I.bare,I.base,let ⟨m,g,J⟩:=I.loc;⟨m,g,λi x v j l o=>J i x v j (w i v l) o⟩,I.cell,I.free,I.freeC,I.pin,I.hok,U.trans I.len,I.tk⟩
def qt.pins_of{J:List<|Addr×Obj}(I:qt X pins σ H s)(h:∀p∈J,s.heap.get? p.1=some p.2/\H p.1=none/\p.1≠X.env.locals/\p.1∉X.fs/\∀v,p.2.data≠.cell v):qt X J σ H s:=
 ⟨I.ok,I.os,I.bare,I.base,I.loc,I.cell,I.free,I.freeC,λp U=>(Ak.mp U).elim (λz=>I.pin p<|Am _ z)<|h p,I.hok,I.len,I.tk⟩
def mV{N:Wj}(hN:N.Nodup)(a:N[i]?=some x)(b:N[j]?=some x):i=j:=by obtain⟨h1,I⟩:=AI.mp a;obtain⟨h2,J⟩:=AI.mp b;exact(DF hN).mp (I.trans J.symm)
def pP{Q:Wb}(I:qt X pins σ H s)(hN:X.N.Nodup)(hi:X.N[i]?=some x)(t:Loc X.env.scope x)(r:zq v u)
 (h:∀s',qt X pins (σ.set i<|some v) H s'->(∃a,Heap.SameBut a s.heap s'.heap/\(a=X.env.locals\/X.env.cells.lookup x=some a))->(X.env.kindOf x=some .local->∃m',s'.heap.Ns X.env.locals m'/\m' x=some u)->Q () s') (hf:X.fn x=true\/X.env.scope.names.lookup x=some .local:=by first|exact .inl rfl|exact .inr rfl|assumption):wpAny M A (storeName X.env x u) Q E s:=by
 obtain⟨m,hn,hl⟩:=id I.loc;have a3:(X.env.scope.kind==.class||(X.env.scope.kind==.module&&X.env.locals != X.env.globals))=false:=by rw[I.ok.kind];rfl
 have a1:i<σ.length:=by rw[I.len];exact(AI.mp hi).1
 have cne:=I.cne;have U:∀{a:Addr} {h':Wv},(∃o,s.heap.get? a=some o/\H a=none)->Heap.SameBut a s.heap h'->eE X.prog X.w H h':=λ{a h'} ha J b ob e=>by
  obtain⟨_,_,C⟩:=ha;refine(I.hok b ob e).stay (λc w' l q=>(J.2 c ?_).trans q) (λ_ q=>q) λ_ _ q=>q;rintro rfl;rcases l with rfl|l
  ·rw[C] at e;cases e
  ·rw[C] at l;cases l
 rcases t with T|T
 ·refine wpAny_storeName_local T hn (λh' a4 J=>?_) a3;obtain⟨oL,_,_,ay,_⟩:=id hn;refine h _ ⟨I.ok,I.os,I.bare,⟨λb o e n hb t=>?_,λb o e n hb t=>?_,I.base.free,λb o e t=>?_,I.base.tups,I.base.frzs,I.base.tbls⟩,⟨_,a4,λj y v' g e2 e3=>?_⟩,λy c e=>?_,I.free,I.freeC,λp hp=>?_,U ⟨oL,ay,I.free⟩ J,by simpa using I.len,by first|exact I.tk|exact BV _⟩ ⟨_,J,.inl rfl⟩ λ_=>⟨_,a4,by simp⟩
  ·exact(J.2 b<|A3<|AK (xT e) I.ok.above).trans (I.base.keep b o e n hb t)
  ·obtain⟨sl,g⟩:=I.base.slot b o e n hb t;exact⟨sl,(J.2 b<|A3<|AK (xT e) I.ok.above).trans g⟩
  ·obtain⟨o',g⟩:=I.base.there b o e t;exact⟨o',(J.2 b<|A3<|AK (xT e) I.ok.above).trans g⟩
  ·by_cases hj:j=i
   ·subst hj;rw[hi] at g;cases g;rw[BJ a1] at e2;cases e2;exact⟨u,r,.inl ⟨T,by simp⟩⟩
   ·rw[A5<|AH hj] at e2;obtain⟨u',r',q⟩:=hl j y v' g e2 e3;refine⟨u',r',?_⟩;rcases q with⟨k,e⟩|⟨k,c,e,z⟩
    ·refine .inl ⟨k,?_⟩;have:y≠x:=λe=>hj<|mV hN g<|e▸hi;simp[this,e]
    ·exact .inr ⟨k,c,e,z.sameBut J<|cne y c e⟩
  ·obtain⟨w',z⟩:=I.cell y c e;exact⟨w',z.sameBut J<|cne y c e⟩
  ·obtain⟨e,n,ne,nf,d⟩:=I.pin p hp;exact⟨(J.2 p.1 ne).trans e,n,ne,nf,d⟩
 ·have a2:X.fn x=true:=by
   rcases hf with z|z
   ·exact z
   ·rw[z] at T;cases T
  obtain⟨c,l⟩:=I.ok.has x<|.inl T;obtain⟨w',z⟩:=I.cell x c l;refine wpAny_storeName_cell I.ok.kind T l z λh' a5 J=>?_;obtain⟨oc,ac,al⟩:=id z;refine h {s with heap:=h'} ⟨I.ok,I.os,I.bare,⟨λb o e n hb t=>?_,λb o e n hb t=>?_,I.base.free,λb o e t=>?_,I.base.tups,I.base.frzs,I.base.tbls⟩,⟨m,hn.sameBut J<|AH<|cne x c l,λj y v' g e2 e3=>?_⟩,λy c' e=>?_,I.free,I.freeC,λp hp=>?_,U ⟨oc,ac,I.freeC x c l⟩ J,by simpa using I.len,I.tk⟩ ⟨c,J,.inr l⟩ (λz=>by have e:=(show X.env.kindOf x=some .cell from T).symm.trans z;cases e)
  ·exact(J.2 b<|A3<|AK (xT e)<|I.ok.cab x c a2 l).trans (I.base.keep b o e n hb t)
  ·obtain⟨sl,g⟩:=I.base.slot b o e n hb t;exact⟨sl,(J.2 b<|A3<|AK (xT e)<|I.ok.cab x c a2 l).trans g⟩
  ·obtain⟨o',g⟩:=I.base.there b o e t;exact⟨o',(J.2 b<|A3<|AK (xT e)<|I.ok.cab x c a2 l).trans g⟩
  ·by_cases hj:j=i
   ·subst hj;rw[hi] at g;cases g;rw[BJ a1] at e2;cases e2;exact⟨u,r,.inr ⟨.inl T,c,l,a5⟩⟩
   ·rw[A5<|AH hj] at e2;obtain⟨u',r',q⟩:=hl j y v' g e2 e3;refine⟨u',r',?_⟩;rcases q with q|⟨k,c',e,z'⟩
    ·exact .inl q
    ·refine .inr ⟨k,c',e,z'.sameBut J ?_⟩;rintro rfl;exact hj<|mV hN g<|I.ok.inj _ _ _ e l▸hi
  ·by_cases ax:c'=c
   ·subst ax;exact⟨_,a5⟩
   ·obtain⟨w2,z2⟩:=I.cell y c' e;exact⟨w2,z2.sameBut J ax⟩
  ·obtain⟨e,n,ne,nf,d⟩:=I.pin p hp;refine⟨(J.2 p.1 ?_).trans e,n,ne,nf,d⟩;intro q;rw[q,ac] at e;have q':oc=p.2:=AZ e;exact d w' (by rw[<-q'];exact al)
def ag{Q:Wb}(I:qt X pins σ H s)(hN:X.N.Nodup)(hi:X.N[i]?=some x)(J:Loc X.env.scope x)(r:zq v u)
 (h:∀s',qt X pins (σ.set i<|some v) H s'->Q () s') (U:X.fn x=true\/X.env.scope.names.lookup x=some .local:=by first|exact .inl rfl|exact .inr rfl|assumption):wpAny M A (storeName X.env x u) Q E s:=
 pP I hN hi J r (λs' g _ _=>h s' g) U
def qt.call'(I:qt X pins σ H s)(U:s'.os=s.os)(u:Un (bX X.stack) ch H H' s.heap s'.heap)(hok:eE X.prog X.w H' s'.heap)(g:AllBare s'.gens)
 (J:∀b∈ch,(b∈X.ex\/X.s₀.heap.objs.size<=b)/\b≠X.env.locals/\(∀x c,X.env.cells.lookup x=some c->c≠b)/\∀p∈X.pn++pins,p.1≠b) (j:0<s'.toks:=by walk_at "t"):qt X pins σ H' s':=by
 obtain⟨o,g',d',t',l⟩:=s';have e:l=s.os:=U;subst e;exact I.call (g':=g') (t':=t') (d':=d') u hok g J j
end
abbrev XK:=Wr->Option Addr->Hp->Prop
abbrev St:=List<|Wy
abbrev VK:=V->Hp->Prop
abbrev TE:=St->Hp->VK->Prop
abbrev TT:=St->Hp->(Bool->Hp->Prop)->Prop
abbrev TA:=St->Hp->(Wx->Hp->Prop)->Prop
structure mZ where
 nx:St->Hp->Prop
 rt:VK
 bk:St->Hp->Prop:=λ_ _=>False
 ct:St->Hp->Prop:=λ_ _=>False
abbrev TS:=mZ->St->Hp->Prop
def EP(X:Cx)(pins:List<|Addr×Obj)(σ:St)(Q:VK)(u:Wr)(s':Ws):Prop:=∃v H',qt X pins σ H' s'/\zq v u/\Q v H'
def TP(X:Cx)(pins:List<|Addr×Obj)(σ:St)(Q:Bool->Hp->Prop)(b:Bool)(s':Ws):Prop:=∃H',qt X pins σ H' s'/\Q b H'
def AP(X:Cx)(pins:List<|Addr×Obj)(σ:St)(Q:Wx->Hp->Prop)(us:Wg)(s':Ws):Prop:=∃vs H',qt X pins σ H' s'/\zf vs us/\Q vs H'
def SP(X:Cx)(pins:List<|Addr×Obj)(D:mZ)(f:Flow)(s':Ws):Prop:=
 match f with
 |.next=>∃hE H',qt X pins hE H' s'/\D.nx hE H'
 |.brk=>∃hE H',qt X pins hE H' s'/\D.bk hE H'
 |.cont=>∃hE H',qt X pins hE H' s'/\D.ct hE H'
 |.ret u=>∃v hE H',qt X pins hE H' s'/\zq v u/\D.rt v H'
def PE(X:Cx)(e:Expr)(t:TE):Prop:=
 ∀(pins:List<|Addr×Obj) (s:Ws) (σ:St) (H:Hp) (Q:VK),qt X pins σ H s->t σ H Q->wpAny (model X.prog X.w) X.A (eval e X.env) (EP X pins σ Q) X.xe s
def PT(X:Cx)(e:Expr)(t:TT):Prop:=
 ∀(pins:List<|Addr×Obj) (s:Ws) (σ:St) (H:Hp) (Q:Bool->Hp->Prop),qt X pins σ H s->t σ H Q->wpAny (model X.prog X.w) X.A (isTrue e X.env<|eval e X.env) (TP X pins σ Q) X.xe s
def PW(X:Cx)(e:Expr)(t:TT):Prop:=
 ∀(whole:Sem Wr) (pins:List<|Addr×Obj) (s:Ws) (σ:St) (H:Hp) (Q:Bool->Hp->Prop),qt X pins σ H s->t σ H Q->wpAny (model X.prog X.w) X.A (isTrue e X.env whole) (TP X pins σ Q) X.xe s
def PW.pt{X:Cx}{t:TT}(h:PW X e t):PT X e t:=h _
def PA(X:Cx)(es:Wk)(t:TA):Prop:=
 ∀(pos:Pos) (pins:List<|Addr×Obj) (s:Ws) (σ:St) (H:Hp) (Q:Wx->Hp->Prop),qt X pins σ H s->t σ H Q->wpAny (model X.prog X.w) X.A (spliced<|backTo pos<|starEach es X.env) (AP X pins σ Q) X.xe s
def PS(X:Cx)(st:Stmt)(t:TS):Prop:=
 ∀(pins:List<|Addr×Obj) (s:Ws) (σ:St) (H:Hp) (D:mZ),qt X pins σ H s->t D σ H->wpAny (model X.prog X.w) X.A (exec st X.env) (SP X pins D) X.xe s
def iW(X:Cx)(st:Wl)(t:TS):Prop:=
 ∀(pins:List<|Addr×Obj) (s:Ws) (σ:St) (H:Hp) (D:mZ),qt X pins σ H s->t D σ H->wpAny (model X.prog X.w) X.A (execs st X.env) (SP X pins D) X.xe s
def wr{t:Sem α}{Q I:α->Ws->Prop}(h:wpAny M A t Q E s)(J:∀a s,Q a s->I a s):wpAny M A t I E s:=AW h J λ_ _ x=>x
def az{t:Sem Wr}{X:Cx}{σ:St}{Q:VK}{I:Wa}(h:wpAny M A t (EP X pins σ Q) E s)(J:∀v s x H,qt X pins σ H s->zq x v->Q x H->I v s):wpAny M A t I E s:=wr h λv s ⟨x,H,a,b,c⟩=>J v s x H a b c
def wQ{t:Sem<|Wg}{X:Cx}{σ:St}{Q:Wx->Hp->Prop}{I:Wg->Ws->Prop}(h:wpAny M A t (AP X pins σ Q) E s)(J:∀v s x H,qt X pins σ H s->zf x v->Q x H->I v s):wpAny M A t I E s:=wr h λv s ⟨x,H,a,b,c⟩=>J v s x H a b c
end L2
variable {r:L2.V->Wo->Wo->L2.Hp->L2.VK->Prop}{X:L2.Cx}{σ:L2.St}
namespace L2
open PySem PySem.Spec PyProof.Rows
section
def Gw(i:Nat):TE:=λσ H Q=>∃v,σ[i]?=some (some v)/\Q v H
def tC(v:V):TE:=λ_ H Q=>Q v H
abbrev Fe(x:Str):Prop:=(x==("__debug__":Str))=false
abbrev Ff(x:Str):Prop:=(x==("__classdict__":Str))=false
def MB(hN:X.N[i]?=some x)(p:y_ X.env.scope x)(hd:Fe x:=by decide)(j:Ff x:=by decide):PE X (.Name x pos) (Gw i):=by
 rintro g s t H Q I⟨v,e,h⟩;obtain⟨m,C,T⟩:=I.loc;obtain⟨u,r,l⟩:=T i x v hN e p;have xt:EP X g t Q u s:=⟨v,H,I,r,h⟩;rcases l with⟨U,hm⟩|⟨U,c,o,J⟩
 ·exact wpAny_Name (wpAny_loadName_local I.ok.kind U C hm xt) hd
 ·rcases U with U|U
  ·exact wpAny_Name (wpAny_loadName_cell I.ok.kind U o J xt) hd
  ·exact wpAny_Name (wpAny_loadName_free I.ok.kind U o J xt j) hd
def MC{i j pos}:PE X (.Constant (.int i) j pos) (tC<|.int i):=λ_ _ _ H _ I h=>wpAny_Constant_int ⟨.int i,H,I.tok _,⟨_,rfl⟩,h⟩
def MD{b j pos}:PE X (.Constant (.bool b) j pos) (tC<|.bl b):=λ_ _ _ H _ I h=>Constant_bool ⟨.bl b,H,I,rfl,h⟩
def ME{j pos}:PE X (.Constant .none j pos) (tC .non):=λ_ _ _ H _ I h=>Constant_none ⟨.non,H,I,rfl,h⟩
def dN{x j pos}:PE X (.Constant (.str x) j pos) (tC<|.str x):=λ_ _ _ H _ I h=>Calls.Constant_str ⟨.str x,H,I.tok _,⟨_,rfl⟩,h⟩
def Gl(X:Cx)(x:Str):Prop:=X.env.kindOf x=some .globalImplicit
def iH(I:qt X pins σ H s)(J:Gl X x)(U:X.mg x=some u)(h:Q u s)
 (hd:Fe x:=by decide):wpAny (model X.prog X.w) X.A (eval (.Name x pos) X.env) Q E s:=
 Calls.Name_function_global I.ok.kind J (Calls.loadGlobal_global (by rw[I.ok.glob];exact I.mod.glob.keeps I.bk) U h) hd
def cM(I:qt X pins σ H s)(J:Gl X x)(U:X.mg x=none)(g:bootBuiltins x=some u)(h:Q u s)
 (j:x ≠ "__name__" := by decide) (hd:Fe x:=by decide):wpAny (model X.prog X.w) X.A (eval (.Name x pos) X.env) Q E s:=by
 obtain⟨l,h1,h2⟩:=I.mod.blt;exact Calls.Name_function_global I.ok.kind J (Calls.loadGlobal_builtin (by rw[I.ok.glob];exact I.mod.glob.keeps I.bk) U (by rw[I.ok.blt];exact h1.keeps I.bk) ((h2 x j).trans g) h) hd
def MF(J:Gl X x)(U:X.mg x=some u)(r:zq v u)(hd:Fe x:=by decide):PE X (.Name x pos) (tC v):=
 λ_ _ _ H _ I h=>iH I J U ⟨v,H,I,r,h⟩ hd
def MG(J:Gl X x)(U:X.mg x=none)(g:bootBuiltins x=some u)(r:zq v u)(j:x ≠ "__name__" := by decide)(hd:Fe x:=by decide):PE X (.Name x pos) (tC v):=
 λ_ _ _ H _ I h=>cM I J U g ⟨v,H,I,r,h⟩ j hd
variable {a b:Expr}{ta tb:TE}
def PC(X:Cx)(op:CmpOp)(a b:Expr)(t:TE):Prop:=
 ∀(pins:List<|Addr×Obj) (s:Ws) (σ:St) (H:Hp) (Q:VK),qt X pins σ H s->t σ H Q->
  wpAny (model X.prog X.w) X.A (eval a X.env) (λv I=>wpAny (model X.prog X.w) X.A (eval b X.env) (λu J=>wpAny (model X.prog X.w) X.A (compareOp op v u) (EP X pins σ Q) X.xe J) X.xe I) X.xe s
def uD(b:Expr){op:CmpOp}(h:op≠.In)(h2:op≠.NotIn):behindInMarks op b=false:=by
 have I:(op==CmpOp.In)=false:=by cases op<;>first|rfl|exact absurd rfl h
 have J:(op==CmpOp.NotIn)=false:=by cases op<;>first|rfl|exact absurd rfl h2
 cases b<;>simp[behindInMarks,I,J]
def HK(ta:TE):TE:=λσ H Q=>ta σ H λx H1=>Q (.bl<|decide<|x=.non) H1
def HL(ta:TE):TE:=λσ H Q=>ta σ H λx H1=>Q (.bl<|!decide (x=.non)) H1
def zq.none_iff{x:V}{v:Wr}(r:zq x v):(v==Value.none)=decide (x=.non):=by
 cases x with
 |non=>cases r;rfl
 |bl _=>cases r;rfl
 |int _=>obtain⟨t,rfl⟩:=r;rfl
 |str _=>obtain⟨t,rfl⟩:=r;rfl
 |byt _=>obtain⟨t,rfl⟩:=r;rfl
 |flt _=>obtain⟨t,rfl⟩:=r;rfl
 |ref _=>cases r;rfl
 |ty _=>cases r;rfl
def HM{j fy}(U:PE X a ta):PC X .Is a (.Constant .none j fy) (HK ta):=by intro J s g H Q I h;refine az (U J s g H _ I h) λv t x l o p r=>?_;exact Constant_none (is_none_gen ⟨.bl _,l,o,by rw[p.none_iff];rfl,r⟩)
def yJ{j fy}(U:PE X a ta):PC X .IsNot a (.Constant .none j fy) (HL ta):=by intro J s g H Q I h;refine az (U J s g H _ I h) λv t x l o p r=>?_;exact Constant_none (isnot_none_gen ⟨.bl _,l,o,by rw[p.none_iff];rfl,r⟩)
def tB(t:TE):TT:=λσ H Q=>t σ H λx H1=>∃c,x=.bl c/\Q c H1
def HN{op:CmpOp}{t:TE}(h:PC X op a b t)(h1:behindInMarks op b=false:=by first|exact uD _ (by decide) (by decide)|rfl):PE X (.Compare a [op] [b] pos) t:=λJ s U H Q I hw=>wpAny_Compare1 (h J s U H Q I hw) h1
def HQ{op:CmpOp}{t:TE}(h:PC X op a b t)(h1:behindInMarks op b=false:=by first|exact uD _ (by decide) (by decide)|rfl):PT X (.Compare a [op] [b] pos) (tB t):=by intro J s U H Q I hw;refine wpAny_isTrue_Compare1 (wr (h J s U H _ I hw) λv p h1=>wr h1 λu r h2=>wr h2 λc C ⟨x,g,j,l,o⟩=>?_) h1;obtain⟨d,rfl,q⟩:=o;cases l;exact wpAny_truthy_bool ⟨g,j,q⟩
def MJ{t:TE}(h:PE X e t)(U:∀whole,isTrue e X.env whole=(do let v <-whole;standAt e.pos;holding [v] (truthy v)):=by intro _;rfl):PT X e (tB t):=by intro J s g H Q I hw;refine isTrue_plain (az (h J s g H _ I hw) λv r x j l o p=>?_)<|U _;obtain⟨d,rfl,q⟩:=p;cases o;exact wpAny_truthy_bool ⟨j,l,q⟩
variable {tA vb:TT}{rest:Wk}
def MK(t u:TT):TT:=λσ H Q=>t σ H λc H1=>if c=true then u σ H1 Q else Q false H1
def MN(t u:TT):TT:=λσ H Q=>t σ H λc H1=>if c=true then Q true H1 else u σ H1 Q
def MO(t:TT):TT:=λσ H Q=>t σ H λc H1=>Q (!c) H1
def MQ(U:PT X a tA):PW X (.BoolOp .And [a] pos) tA:=by intro j J s g H Q I h;refine isTrue_and<|wr (U J s g H Q I h) λc l e=>?_;cases c with|true=>exact isTrue_and_nil e|false=>exact e
def MT(U:PT X a tA):PW X (.BoolOp .Or [a] pos) tA:=by intro j J s g H Q I h;refine isTrue_or<|wr (U J s g H Q I h) λc l e=>?_;cases c with|false=>exact isTrue_or_nil e|true=>exact e
def MU(o:PT X a tA)(p:PW X (.BoolOp .And (b::rest) pos) vb):PW X (.BoolOp .And (a::b::rest) pos) (MK tA vb):=by intro r J s U H Q I h;refine isTrue_and<|wr (o J s U H _ I h) λc t ⟨g,j,l⟩=>?_;cases c with|true=>exact p r J t U g Q j l|false=>exact⟨g,j,l⟩
def MV(o:PT X a tA)(p:PW X (.BoolOp .Or (b::rest) pos) vb):PW X (.BoolOp .Or (a::b::rest) pos) (MN tA vb):=by intro r J s U H Q I h;refine isTrue_or<|wr (o J s U H _ I h) λc t ⟨g,j,l⟩=>?_;cases c with|true=>exact⟨g,j,l⟩|false=>exact p r J t U g Q j l
def MW(U:PT X a tA):PT X (.UnaryOp .Not a pos) (MO tA):=by intro J s g H Q I h;exact isTrue_not<|U J s g H (λc j=>Q (!c) j) I h
def MX(ta tb:TE):TE:=λσ H Q=>ta σ H λx H1=>∃c,x=.bl c/\if c=true then tb σ H1 Q else Q (.bl false) H1
def MY(ta:TE):TE:=λσ H Q=>ta σ H λx H1=>∃c,x=.bl c/\Q (.bl<|!c) H1
def MZ{op}{t:TE}(h:PE X a t):PE X (.BoolOp op [a] pos) t:=λJ s U H Q I hw=>BoolOp_one<|h J s U H Q I hw
def M5(o:PE X a ta)(p:PE X (.BoolOp .And (b::rest) pos) tb):PE X (.BoolOp .And (a::b::rest) pos) (MX ta tb):=by
 intro J s g H Q I h;refine BoolOp_and<|az (o J s g H _ I h) λv r x j l t U=>?_;obtain⟨c,rfl,U⟩:=U;cases t;refine wpAny_truthy_bool ?_;cases c with
 |true=>exact p J r g j Q l U
 |false=>exact⟨.bl false,j,l,rfl,U⟩
def M6(g:PE X a ta):PE X (.UnaryOp .Not a pos) (MY ta):=by intro J s j H Q I h;refine UnaryOp_<|az (g J s j H _ I h) λv r x l o p U=>?_;obtain⟨c,rfl,U⟩:=U;cases p;exact not_of<|wpAny_truthy_bool ⟨.bl<|!c,l,o,rfl,U⟩
def M7(t:TT)(ta tb:TE):TE:=λσ H Q=>t σ H λc H1=>if c=true then ta σ H1 Q else tb σ H1 Q
def M8(hc:PT X c tA)(p:PE X a ta)(r:PE X b tb):PE X (.IfExp c a b pos) (M7 tA ta tb):=by intro J s U H Q I h;refine wpAny_IfExp<|wr (hc J s U H _ I h) λd g ⟨j,l,o⟩=>?_;cases d with|true=>exact p J g U j Q l o|false=>exact r J g U j Q l o
end
def aF(K:Af)(H:Hp)(a:Addr)(xs:Wx):Prop:=
 Rd H a (.lst xs)\/
  ∃(o:Obj) (eA:Wh) (n:Nat),K.lookup a=some o/\o.cls=.type "list" /\ o.dict=none/\o.data=.seq eA n/\eA.size<=sizeLine/\zf xs eA.toList
def dz(K:Af)(H:Hp)(a:Addr)(xs:Wx):Prop:=
 Rd H a (.tup xs)\/
  ∃(o:Obj) (eA:Wh) (n:Nat),K.lookup a=some o/\o.cls=.type "tuple" /\ o.data=.seq eA n/\eA.size<=sizeLine/\zf xs eA.toList
def M9:Wr->Wy
 |.none=>some .non
 |.bool b=>some<|.bl b
 |.int i _=>some<|.int i
 |.str x _=>some<|.str x
 |.bytes b _=>some<|.byt b
 |.float b _=>some<|.flt b
 |.ref a=>some<|.ref a
 |.type n=>some<|.ty n
 |_=>none
def zq.abs{x:V}(r:zq x u):M9 u=some x:=by
 cases x with
 |non=>cases r;rfl
 |bl _=>cases r;rfl
 |int _=>obtain⟨t,rfl⟩:=r;rfl
 |str _=>obtain⟨t,rfl⟩:=r;rfl
 |byt _=>obtain⟨t,rfl⟩:=r;rfl
 |flt _=>obtain⟨t,rfl⟩:=r;rfl
 |ref _=>cases r;rfl
 |ty _=>cases r;rfl
def zq.inj{x y:V}(r:zq x u)(q:zq y u):x=y:=AZ<|r.abs.symm.trans q.abs
theorem zf.inj:∀{xs ys:Wx} {us:Wg},zf xs us->zf ys us->xs=ys:=by
 intro xs ys us h k
 induction h generalizing ys with
 |nil=>cases k;rfl
 |cons r t I=>
  cases k with|cons J U=>rw[r.inj J,I U]
section
variable {a:Addr}{ys:Wx}
def aF.of{K:Af}(h:H a=some (.lst xs)):aF K H a xs:=.inl<|.inl h
abbrev FA:=@aF.of
def dz.of{K:Af}(h:H a=some (.tup xs)):dz K H a xs:=.inl<|.inl h
def qt.list(I:qt X pins σ H s)(h:aF X.K H a xs):∃eA:Wg,zf xs eA/\PlainL s.heap a eA.toArray/\xs.length<=sizeLine:=by
 rcases h with h|⟨o,eA,n,J,U,hd,g,j,r⟩
 ·obtain⟨z,eA,n,r,e⟩:=h.ok I.hok;exact⟨eA,r,⟨_,n,e,rfl,rfl,rfl⟩,z⟩
 ·refine⟨eA.toList,r,⟨o,n,I.kIn a o J,U,hd,by simpa using g⟩,?_⟩;have e:=r.length;simp only[A2] at e;lia
def qt.tuple(I:qt X pins σ H s)(h:dz X.K H a xs):∃eA:Wg,zf xs eA/\IsTup s.heap a eA.toArray/\xs.length<=sizeLine:=by
 rcases h with h|⟨o,eA,n,J,U,g,j,r⟩
 ·obtain⟨z,eA,r,p⟩:=h.ok I.hok;exact⟨eA,r,p,z⟩
 ·refine⟨eA.toList,r,⟨o,I.kIn a o J,U,n,by simpa using g⟩,?_⟩;have e:=r.length;simp only[A2] at e;lia
def qt.list_inj(I:qt X pins σ H s)(h:aF X.K H a xs)(h':aF X.K H a ys):xs=ys:=by
 obtain⟨U,r,⟨o,n,e,_,_,d⟩,_⟩:=I.list h;obtain⟨J,l,⟨p,t,g,_,_,j⟩,_⟩:=I.list h';rw[e] at g;cases g;rw[d] at j;injection j with d1 _
 have:U=J:=by simpa using Bk Array.toList d1
 subst this;exact r.inj l
def qt.tuple_inj(I:qt X pins σ H s)(h:dz X.K H a xs)(h':dz X.K H a ys):xs=ys:=by
 obtain⟨U,r,⟨o,e,_,n,d⟩,_⟩:=I.tuple h;obtain⟨J,l,⟨p,g,_,t,j⟩,_⟩:=I.tuple h';rw[e] at g;cases g;rw[d] at j;injection j with d1 _
 have:U=J:=by simpa using Bk Array.toList d1
 subst this;exact r.inj l
end
abbrev Cx.wish(X:Cx)(E:Wa):Cx:={X with xe:=E}
abbrev Cx.nox(X:Cx):Cx:=X.wish λ_ _=>False
theorem Cx.Ok.wish(ok:X.Ok)(E:Wa):(X.wish E).Ok:=
 ⟨ok.mod,ok.kind,ok.glob,ok.blt,ok.above,ok.inj,ok.has,ok.cab,ok.hd,ok.frames,ok.stk,ok.exf,ok.bs,ok.bsz,ok.noex,ok.exfs,ok.funs,ok.frf⟩
theorem Cx.Ok.unwish(ok:(X.wish E).Ok):X.Ok:=
 ⟨ok.mod,ok.kind,ok.glob,ok.blt,ok.above,ok.inj,ok.has,ok.cab,ok.hd,ok.frames,ok.stk,ok.exf,ok.bs,ok.bsz,ok.noex,ok.exfs,ok.funs,ok.frf⟩
theorem qt.wish(I:qt X pins σ H s)(E:Wa):qt (X.wish E) pins σ H s:=⟨I.ok.wish E,I.os,I.bare,I.base,I.loc,I.cell,I.free,I.freeC,I.pin,I.hok,I.len,I.tk⟩
theorem qt.unwish(I:qt (X.wish E) pins σ H s):qt X pins σ H s:=⟨I.ok.unwish,I.os,I.bare,I.base,I.loc,I.cell,I.free,I.freeC,I.pin,I.hok,I.len,I.tk⟩
theorem SP.unwish{D:mZ}{f:Flow}(h:SP (X.wish E) pins D f s'):SP X pins D f s':=by
 cases f with
 |next=>obtain⟨J,U,I,q⟩:=h;exact⟨J,U,I.unwish,q⟩
 |brk=>obtain⟨J,U,I,q⟩:=h;exact⟨J,U,I.unwish,q⟩
 |cont=>obtain⟨J,U,I,q⟩:=h;exact⟨J,U,I.unwish,q⟩
 |ret u=>obtain⟨v,J,U,I,r,q⟩:=h;exact⟨v,J,U,I.unwish,r,q⟩
def iW.nox{st:Wl}{t:TS}(h:iW X.nox st t):iW X st t:=λJ s U H D I hw=>
 AW (h J s U H D (I.wish _) hw) (λ_ _ q=>q.unwish) λ_ _ z=>False.elim z
section
variable {rest:Wl}{t u:TS}{te:TE}
def Na:TS:=λD σ H=>D.nx σ H
def Nb(t u:TS):TS:=λD σ H=>t {D with nx:=u D} σ H
def Nc:iW X [] Na:=λ_ _ J H _ I h=>wpAny_execs_nil ⟨J,H,I,h⟩
def uk(h1:PS X st t)(h2:iW X rest u):iW X (st::rest) (Nb t u):=by
 intro J s g H D I h;refine wpAny_execs_cons<|wr (h1 J s g H {D with nx:=u D} I h) λf j q=>?_;cases f with
 |next=>
  obtain⟨U,l,o,q⟩:=q;exact h2 J j U l D o q
 |ret v=>exact q
 |brk=>exact q
 |cont=>exact q
def yy(h1:PS X st t):iW X [st] t:=by intro J s U H D I h;refine wpAny_execs_cons<|wr (h1 J s U H D I h) λf g q=>?_;cases f with|next=>exact wpAny_execs_nil q|ret v=>exact q|brk=>exact q|cont=>exact q
def Nd:TS:=λD σ H=>D.ct σ H
def sT:PS X (.Continue pos) Nd:=λ_ _ J H _ I h=>wpAny_Continue ⟨J,H,I,h⟩
def qt.quiet(I:qt X pins σ H s):interactive X.env=false:=by simp[interactive,I.ok.kind]
def Nf(te:TE):TS:=λD σ H=>te σ H λ_ H1=>D.nx σ H1
def yu(g:PE X e te)(hs:swapsWith e none pos.line X.env=pure false:=by rfl):PS X (.Expr e pos) (Nf te):=by intro J s U H D I h;exact wpAny_Expr_any (az (g J s U H _ I h) λv p x j l r o=>⟨U,j,l,o⟩) I.quiet hs
def Ng(te:TE):TS:=λD σ H=>te σ H D.rt
def Nh(g:PE X e te):PS X (.Return (some e) pos) (Ng te):=by intro J s U H D I h;exact wpAny_Return_some<|az (g J s U H _ I h) λv r x j l o p=>⟨x,U,j,l,o,p⟩
def Ni:TS:=λD _ H=>D.rt .non H
def Nj:PS X (.Return none pos) Ni:=λ_ _ J H _ I h=>wpAny_Return_none ⟨.non,J,H,I,rfl,h⟩
def Nk(c:TT)(t u:TS):TS:=λD σ H=>c σ H λb H1=>if b=true then t D σ H1 else u D σ H1
def Nl{a b:Wl}{tc:TT}(hc:PT X c tc)(p:iW X a t)(r:iW X b u):PS X (.If c a b pos) (Nk tc t u):=by intro J s U H D I h;refine wpAny_If<|wr (hc J s U H _ I h) λd g ⟨j,l,o⟩=>?_;cases d with|true=>exact p J g U j D l o|false=>exact r J g U j D l o
end
abbrev TG:=V->St->Hp->(St->Hp->Prop)->Prop
abbrev e_:=Wx->St->Hp->(St->Hp->Prop)->Prop
def PG(X:Cx)(target:Expr)(t:TG):Prop:=
 ∀(pins:List<|Addr×Obj) (s:Ws) (σ:St) (H:Hp) (v:V) (u:Wr) (Q:St->Hp->Prop),qt X pins σ H s->zq v u->t v σ H Q->
  wpAny (model X.prog X.w) X.A (assign target X.env u) (λ_ s'=>∃hE H',qt X pins hE H' s'/\Q hE H') X.xe s
def PGs(X:Cx)(ts:Wk)(t:e_):Prop:=
 ∀(pins:List<|Addr×Obj) (s:Ws) (σ:St) (H:Hp) (vs:Wx) (us:Wg) (Q:St->Hp->Prop),qt X pins σ H s->zf vs us->t vs σ H Q->
  wpAny (model X.prog X.w) X.A (assignInOrder ((assignEach ts X.env).map (·.2)) us) (λ_ s'=>∃hE H',qt X pins hE H' s'/\Q hE H') X.xe s
abbrev Gx:=V->V->V->Hp->(Hp->Prop)->Prop
def HR(X:Cx)(t:Gx):Prop:=
 ∀(pins:List<|Addr×Obj) (s:Ws) (σ:St) (H:Hp) (o i v:V) (I J u:Wr) (Q:Hp->Prop),qt X pins σ H s->zq o I->zq i J->zq v u->t o i v H Q->
  wpAny (model X.prog X.w) X.A (setItem I J u) (λ_ s'=>∃H',qt X pins σ H' s'/\Q H') X.xe s
def fA(i:Nat):TG:=λv σ H Q=>Q (σ.set i<|some v) H
def l8(hN:X.N.Nodup)(hi:X.N[i]?=some x)(U:Loc X.env.scope x)(g:X.fn x=true\/X.env.scope.names.lookup x=some .local:=by first|exact .inl rfl|exact .inr rfl|assumption):PG X (.Name x pos) (fA i):=by intro J s l H v u Q I r h;exact wpAny_assign_Name<|ag I hN hi U r (λo j=>⟨_,H,j,h⟩) g
def Gy:e_:=λvs σ H Q=>vs=[]/\Q σ H
def tG(t:TG)(u:e_):e_:=λvs σ H Q=>∃v r,vs=v::r/\t v σ H λhE H'=>u r hE H' Q
def yk:PGs X [] Gy:=by rintro J s U H g j Q I r⟨e,h⟩;subst e;cases r;exact assignInOrder_nil ⟨U,H,I,h⟩
def mL{t:TG}{u:e_}(h1:PG X e t)(h2:PGs X es u)
 (hs:(assignEach (e::es) X.env).map (·.2)=assign e X.env::(assignEach es X.env).map (·.2):=by rfl):PGs X (e::es) (tG t u):=by
 rintro J s g H T us Q I r⟨v,vr,j,h⟩;subst j;cases r with
 |cons r rr=>
  rw[hs];refine assignInOrder_cons<|wr (h1 J s g H _ _ _ I r h) λ_ l ⟨U,o,p,C⟩=>?_;exact h2 J l U o _ _ Q p rr C
def Gz(K:Af)(n:Nat)(t:e_):TG:=λv σ H Q=>∃a xs,v=.ref a/\dz K H a xs/\xs.length=n/\t xs σ H Q
def HU{k:Nat}{t:e_}(hc:X.calm=true)(h:PGs X es t)
 (l:(assignEach es X.env).length=n:=by rfl) (U:(assignEach es X.env).findIdx? (·.1)=none:=by rfl):PG X (.Tuple es k pos) (Gz X.K n t):=by
 rintro J s g H v u Q I r⟨a,p,C,T,hl,hw⟩;subst C;cases r;obtain⟨a1,j,ht,hz⟩:=I.tuple T;refine assign_Tuple_tuple (I.ok.hd hc) ht (by simp[l,<-hl,j.length]) U λh' hx=>?_;have I1:qt X J g H {s with heap:=h'}:=I.kept (t':=s.toks) λb o e=>hx b o (A3<|xT e) e;exact h J _ g H p _ Q I1 (by simpa using j) hw
def Nm(to ti:TE)(t:Gx):TG:=λv σ H Q=>to σ H λo H1=>ti σ H1 λi H2=>t o i v H2 λI=>Q σ I
def HV{i:Expr}{to ti:TE}{t:Gx}(l:PE X o to)(hi:PE X i ti)(hs:HR X t)
 (p:∀v,assign (.Subscript o i pos) X.env v=(do
  let U <-holding [v] (eval o X.env)
  let g <-holding [v,U] (eval i X.env)
  standAt pos
  holding [v,U,g] (setItem U g v)
  release [v,U,g] []):=by intro _;rfl):PG X (.Subscript o i pos) (Nm to ti t):=by
 intro J s j H v u Q I r h;rw[p];refine Aa<|Bf<|az (l J s j H _ I h) λU C x T I1 r1 q1=>?_;refine Aa<|Bf<|az (hi J C j T _ I1 q1) λg s2 y H2 I2 r2 q2=>?_;refine Aa<|wpAny_standAt<|Aa<|Bf<|wr (hs J s2 j H2 x y v U g u _ I2 r1 r2 r q2) λ_ s3 ⟨H3,I3,q3⟩=>?_;exact wpAny_release ⟨j,H3,I3,q3⟩
def GA(te:TE)(g:TG):TS:=λD σ H=>te σ H λx H1=>g x σ H1 D.nx
def HW{te:TE}{g:TG}(j:PE X e te)(l:PG X tg g)(hs:swapsWithSole [tg] e pos.line X.env=pure false:=by rfl)(hw:swappedStores [tg] e X.env=pure none:=by rfl)
 (h1:(assignEach [tg] X.env).map (·.2)=[assign tg X.env]:=by rfl):PS X (.Assign [tg] e pos) (GA te g):=by
 intro J s U H D I h;refine wpAny_Assign_stores (az (j J s U H _ I h) λv o x p r t C=>?_) hs hw;rw[h1];exact wr (l J o U p x v _ r t C) λ_ T q=>q
def Nn{te:TE}(hN:X.N.Nodup)(hi:X.N[i]?=some x)(U:Loc X.env.scope x)(g:PE X e te)(hs:swapsWith e (some<|.Name x fy) pos.line X.env=pure false:=by rfl)(j:X.fn x=true\/X.env.scope.names.lookup x=some .local:=by first|exact .inl rfl|exact .inr rfl|assumption):
 PS X (.Assign [.Name x fy] e pos) (GA te<|fA i):=by
 intro J s l H D I h;refine wpAny_Assign_Name (az (g J s l H _ I h) λv T y o p r t=>?_) hs;exact ag p hN hi U r (λs2 C=>⟨_,o,C,t⟩) j
def No(i j:Nat)(ta:TA):TS:=λD σ H=>ta σ H λvs H1=>∃v w,vs=[v,w]/\D.nx ((σ.set i<|some v).set j<|some w) H1
def Np{y:Str}{a b:Expr}{ta:TA}{px pt:Pos}{kt k2 U}(hc:X.calm=true)(hN:X.N.Nodup)(hi:X.N[i]?=some x)(hj:X.N[j]?=some y)(t:i≠j)
 (hx:X.env.scope.names.lookup x=some .local) (hy:X.env.scope.names.lookup y=some .local) (ha:PA X [a,b] ta)
 (hw:swappedStores [.Tuple [.Name x px,.Name y py] kt pt] (.Tuple [a,b] k2 U) X.env=pure (some [x,y]))
 (hs:swapsWithSole [.Tuple [.Name x px,.Name y py] kt pt] (.Tuple [a,b] k2 U) pos.line X.env=pure false:=by rfl):
 PS X (.Assign [.Tuple [.Name x px,.Name y py] kt pt] (.Tuple [a,b] k2 U) pos) (No i j ta):=by
 intro J s σ H D I h;rw[exec_Assign_arm];refine Aa<|wpAny_standAt ?_;rw[hs];refine Aa<|Aj ?_;rw[AB (by decide)];refine Aa<|Tuple_<|wQ (ha _ J s σ H _ I h) λus g vs H1 I1 r1 C=>?_;obtain⟨v,w,e1,C⟩:=C;subst e1;obtain⟨l,r,rfl,rv,T⟩:∃l r,us=[l,r]/\zq v l/\zq w r:=by
  cases r1 with
  |cons p q=>
   cases q with
   |cons p' q'=>
    cases q';exact⟨_,_,rfl,p,p'⟩
 refine Bo ?_ (by show 2<=sizeLine;decide);have I2:qt X J σ H1 {g with heap:=g.heap.push {cls:=.type "tuple",data:=.seq [l,r].toArray}}:=I1.kept (t':=g.toks) λb o e=>wh _ e;rw[hw];refine Aa<|Aj ?_;show wpAny (model X.prog X.w) X.A (do rule "assign.swapped-stores";let items <-unpackItems (.ref g.heap.objs.size) 2 none;assignInOrder [λv=>bindName X.env y v,λv=>bindName X.env x v] items.reverse;pure Flow.next) _ _ _;refine Aa<|Bw<|Aa<|unpackItems_tuple (items:=#[l,r]) (I.ok.hd hc) (IsTup.new g.heap _) λh' a1=>?_;have I3:=I2.kept (h':=h') (t':=g.toks) λb o e=>a1 b o (A3<|xT e) e;show wpAny _ _ (assignInOrder [λv=>bindName X.env y v,λv=>bindName X.env x v] [r,l] >>= λ_=>pure Flow.next) _ _ _;refine Aa<|assignInOrder_cons<|wpAny_bindName<|ag I3 hN hj (.inl hy) T (λs2 I4=>?_)<|.inr hy;refine assignInOrder_cons<|wpAny_bindName<|ag I4 hN hi (.inl hx) rv (λs3 I5=>assignInOrder_nil<|Aj ?_)<|.inr hx;rw[Eg _ _<|AH t] at I5;exact⟨_,H1,I5,C⟩
def Nq(c:TT)(tb:TS):TS:=λD σ H=>∃W:Nat->St->Hp->Prop,(∃m,W m σ H)/\∀m σ H,W m σ H->
 c σ H λb H1=>if b=true then ∃N:St->Hp->Prop,(∀hE H',N hE H'->∃I,I<m/\W I hE H')/\tb {D with nx:=N,ct:=N,bk:=D.nx} σ H1 else D.nx σ H1
def Nr{tc:TT}{tb:TS}(hp:PassesOwn (model X.prog X.w) X.A X.env X.xe)(hc:PT X c tc)(hb:iW X body tb):PS X (.While c body [] pos) (Nq tc tb):=by
 rintro J s σ H D I⟨W,⟨m0,w0⟩,turn⟩;refine wpAny_While<|codeAny_whileLoop (λn s'=>∃j H',qt X J j H' s'/\W n j H') ?_ m0 ⟨σ,H,I,w0⟩;rintro n s1 ⟨g,H1,I1,w1⟩;refine wpAny_passesOwn hp<|wr (hc J s1 g H1 _ I1<|turn n g H1 w1) λb s2 ⟨H2,I2,o⟩=>?_;cases b with
 |true=>
  obtain⟨N,hN,o⟩:=o;rw[AD rfl];refine wpAny_passesOwn hp<|wr (hb J s2 g H2 _ I2 o) λf s3 p=>?_;cases f with
  |next=>
   obtain⟨U,l,r,t⟩:=p;obtain⟨C,T,w3⟩:=hN U l t;exact⟨C,T,U,l,r,w3⟩
  |cont=>
   obtain⟨U,l,r,t⟩:=p;obtain⟨C,T,w3⟩:=hN U l t;exact⟨C,T,U,l,r,w3⟩
  |brk=>exact p
  |ret v=>exact p
 |false=>
  rw[AB AG];exact wpAny_execs_nil ⟨g,H2,I2,o⟩
structure It where
 go:Nat->Hp->Prop
 yld:Nat->Hp->V->Hp->Prop
 stop:Nat->Hp->Prop
def oY(X:Cx)(pins:List<|Addr×Obj)(H:Hp)(b:Addr):Prop:=
 H b=none/\b≠X.env.locals/\b∉X.fs/\(b∈X.ex\/X.s₀.heap.objs.size<=b)/\(∀x c,X.env.cells.lookup x=some c->c≠b)/\∀p∈X.pn++pins,p.1≠b
def qt.fpOk{b:Addr}(I:qt X pins σ H s)(J:s.heap.objs.size<=b)(U:H' b=none):oY X pins H' b:=by
 refine⟨U,C0<|AK I.lt J,I.nofs J,.inr<|AM I.sz J,λx c e z=>?_,λp g z=>?_⟩
 ·obtain⟨v,q⟩:=I.cell x c e;exact absurd (AK q.lt (by rw[z];exact J))<|B8 _
 ·exact absurd (AK (xT (I.pin p g).1) (by rw[z];exact J))<|B8 _
structure z_(P:Wt)(w:Wu)(K:Af)(tg:Expr)(J:It)(fp:List Addr)(it:Addr)(tn:Nat->Wv->Prop):Prop where
 mem:it∈fp
 obj:∀i h,tn i h->∀b∈fp,∃o,h.get? b=some o/\∀v,o.data≠.cell v
 keep:∀i h h',tn i h->(∀b∈fp,∀o,h.get? b=some o->h'.get? b=some o)->tn i h'
 item:∀(X:Cx),X.prog=P->X.w=w->X.K=K->X.calm=true->∀(i:Nat) (pins:List<|Addr×Obj) (s:Ws) (σ:St) (H:Hp) (E:Wa),qt X pins σ H s->(∀b∈fp,oY X pins H b)->tn i s.heap->J.go i H->
  wpAny (model P w) X.A (pyNext<|.ref it) (λr s1=>∃u,r=some u/\
   wpAny (model P w) X.A (letOwnedTupleGo tg (.ref it) u) (λ_ s2=>∃x H',qt X pins σ H' s2/\zq x u/\J.yld i H x H'/\tn (i+1) s2.heap/\∀b∈fp,H' b=none) E s1) E s
 done:∀(X:Cx),X.prog=P->X.w=w->X.K=K->X.calm=true->∀(i:Nat) (pins:List<|Addr×Obj) (s:Ws) (σ:St) (H:Hp) (E:Wa),qt X pins σ H s->(∀b∈fp,oY X pins H b)->tn i s.heap->J.stop i H->
  wpAny (model P w) X.A (pyNext<|.ref it) (λr s1=>r=none/\qt X pins σ H s1) E s
 self:∀(A:Around) (i:Nat) (s:Ws) (Q:Wa) (E:Wa),tn i s.heap->Q (.ref it) s->wpAny (model P w) A (pyIter<|.ref it) Q E s
abbrev TI:=St->Hp->(It->Hp->Prop)->Prop
def GB(X:Cx)(pins:List<|Addr×Obj)(σ:St)(tg:Expr)(R:It->Hp->Prop)(I:Wr)(U:Ws):Prop:=
 ∃(it:Addr) (fp:List Addr) (g:Nat->Wv->Prop) (J:It) (H':Hp),I=.ref it/\qt X pins σ H' U/\z_ X.prog X.w X.K tg J fp it g/\g 0 U.heap/\(∀b∈fp,oY X pins H' b)/\R J H'
def PI(X:Cx)(tg iter:Expr)(wi:TI):Prop:=
 ∀(pins:List<|Addr×Obj) (s:Ws) (σ:St) (H:Hp) (R:It->Hp->Prop),qt X pins σ H s->wi σ H R->
  wpAny (model X.prog X.w) X.A (eval iter X.env) (λv I=>wpAny (model X.prog X.w) X.A (pyIter v) (GB X pins σ tg R) X.xe I) X.xe s
def GC{o:Obj}{n:Ww}{vs:Wh}{Q:Wb}(J:s.heap.get? it=some o)(hc:o.cls=.type n)(hd:o.data=.fields vs)
 (U:["enumerate","zip","dict_itemiterator","dict_reverseitemiterator","odict_iterator","itertools.zip_longest","itertools.pairwise"].contains n=false) (I:Q () s):wpAny M A (letOwnedTupleGo tg (.ref it) u) Q E s:=by
 unfold letOwnedTupleGo;cases tg<;>first
  |exact Aj I
  |(cases u<;>first
   |exact Aj I
   |(refine Aa (wpAny_load J ?_)
     rw[hc,hd];show wpAny M A (if (["enumerate","zip","dict_itemiterator","dict_reverseitemiterator","odict_iterator","itertools.zip_longest","itertools.pairwise"].contains n&&vs[0]?==some (rawInt _))=true then _ else _) Q E s;rw[AB (by intro h;rw[U,Bool.false_and] at h;cases h)];exact Aj I))
def GD(K:Af)(a:Addr):It:=
 ⟨λi H=>∃xs x,aF K H a xs/\xs[i]?=some x,λi H x H'=>H'=H/\∀xs,aF K H a xs->xs[i]?=some x,λi H=>∃xs,aF K H a xs/\xs.length<=i⟩
def GF(K:Af)(a:Addr):It:=
 ⟨λi H=>∃xs x,dz K H a xs/\xs[i]?=some x,λi H x H'=>H'=H/\∀xs,dz K H a xs->xs[i]?=some x,λi H=>∃xs,dz K H a xs/\xs.length<=i⟩
def A_(lo:Int)(n:Nat):It:=⟨λi _=>i<n,λi H x H'=>H'=H/\x=.int (lo+i),λi _=>n<=i⟩
def Nt{P:Wt}{w:Wu}{K:Af}(a it:Addr):z_ P w K tg (GD K a) [it] it (λi h=>h.IsListIter it a i) where
 mem:=by simp
 obj:=λi h st b U=>by
  have e:b=it:=by simpa using U
  subst e;obtain⟨o,e,c,d⟩:=st;exact⟨o,e,λv z=>by rw[d] at z;cases z⟩
 keep:=λi h j st k=>st.at λo e=>k it (by simp) o e
 item:=by intro X t hw C hc i J s σ H E I l st T;subst t hw C;obtain⟨xs,x,r,hx⟩:=T;obtain⟨a1,rv,p,hz⟩:=I.list r;obtain⟨u,hu,ru⟩:=rv.get hx;obtain⟨f0,f1,f2,f3,f4,f5⟩:=l it (by simp);refine wpAny_pyNext_list_item st p.isList (x:=u) (by simpa using hu) λj g sb=>?_;have I1:qt X J σ H {s with heap:=j}:=I.turned (t':=s.toks) (λb o U e=>(sb.2 b U).trans e) f0 f1 f3 f4 f5;obtain⟨o,e,c,d⟩:=id g;exact⟨u,rfl,GC (s:={s with heap:=j}) e c d (by decide) ⟨x,H,I1,ru,⟨rfl,λys hy=>by rw[I.list_inj hy r];exact hx⟩,g,λb U=>(l b U).1⟩⟩
 done:=by intro X t hw C hc i J s σ H E I l st T;subst t hw C;obtain⟨xs,r,hx⟩:=T;obtain⟨a1,rv,p,hz⟩:=I.list r;obtain⟨f0,f1,f2,f3,f4,f5⟩:=l it (by simp);have hl:=rv.length;exact wpAny_pyNext_list_end (I.ok.hd hc) st p.isList (by simp;lia) λj eb=>⟨rfl,I.turned (t':=s.toks) (λb o U e=>eb b o U e) f0 f1 f3 f4 f5⟩
 self:=λ_ _ _ _ _ st h=>wpAny_pyIter_listiter st h
def xI{P:Wt}{w:Wu}{K:Af}(a it:Addr):z_ P w K tg (GF K a) [it] it (λi h=>h.IsTupleIter it a i) where
 mem:=by simp
 obj:=λi h st b U=>by
  have e:b=it:=by simpa using U
  subst e;obtain⟨o,e,c,d⟩:=st;exact⟨o,e,λv z=>by rw[d] at z;cases z⟩
 keep:=λi h l st k=>st.at λo e=>k it (by simp) o e
 item:=by intro X C hw T hc i J s σ H E I r st hg;subst C hw T;obtain⟨xs,x,t,hx⟩:=hg;obtain⟨g,rv,p,hz⟩:=I.tuple t;obtain⟨u,hu,ru⟩:=rv.get hx;obtain⟨f0,f1,f2,f3,f4,f5⟩:=r it (by simp);refine wpAny_pyNext_tuple_item st (show s.heap.IsTuple a g.toArray from p) (x:=u) (by simpa using hu) λl j sb=>?_;have I1:qt X J σ H {s with heap:=l}:=I.turned (t':=s.toks) (λb o U e=>(sb.2 b U).trans e) f0 f1 f3 f4 f5;obtain⟨o,e,c,d⟩:=id j;exact⟨u,rfl,GC (s:={s with heap:=l}) e c d (by decide) ⟨x,H,I1,ru,⟨rfl,λys hy=>by rw[I.tuple_inj hy t];exact hx⟩,j,λb U=>(r b U).1⟩⟩
 done:=by intro X C hw T hc i J s σ H E I r st hg;subst C hw T;obtain⟨xs,t,hx⟩:=hg;obtain⟨g,rv,p,hz⟩:=I.tuple t;obtain⟨f0,f1,f2,f3,f4,f5⟩:=r it (by simp);have hl:=rv.length;exact wpAny_pyNext_tuple_end (I.ok.hd hc) st (show s.heap.IsTuple a g.toArray from p) (by simp;lia) λl eb=>⟨rfl,I.turned (t':=s.toks) (λb o U e=>eb b o U e) f0 f1 f3 f4 f5⟩
 self:=λ_ _ _ _ _ st h=>wpAny_pyIter_tupleiter st h
theorem wO{P:Wt}{w:Wu}{K:Af}(it:Addr)(lo:Int)(n:Nat):z_ P w K tg (A_ lo n) [it] it (λi h=>IsRangeIter h it (lo+(i:Nat)*1) ((n:Int)-(i:Nat)) 1) where
 mem:=by simp
 obj:=λi h st b U=>by
  have e:b=it:=by simpa using U
  subst e;exact⟨_,st,λv z=>by have z':Data.fields _=Data.cell v:=z;cases z'⟩
 keep:=λi h j st k=>k it (by simp) _ st
 item:=by intro X p hw r C i J s σ H E I l st T;subst p hw r;obtain⟨f0,f1,f2,f3,f4,f5⟩:=l it (by simp);have W:=Walks.range (prog:=X.prog) (w:=X.w) (I.ok.hd C) it lo 1 n;refine j5 I.tk<|W.item i s _ _ T st λv j tk hv g kk ht=>?_;obtain⟨t,rfl⟩:=hv;have I1:qt X J σ H {s with heap:=j,toks:=tk}:=I.turned (λb o U e=>kk b o (by simpa using U) e) f0 f1 f3 f4 f5;refine⟨_,rfl,GC (s:={s with heap:=j,toks:=tk}) (n:="range_iterator") g rfl rfl (by decide) ⟨.int<|lo+i,H,I1,⟨t,?_⟩,⟨rfl,rfl⟩,g,λb U=>(l b U).1⟩⟩;rw[Int.mul_one]
 done:=by intro X p hw r C i J s σ H E I l st T;subst p hw r;obtain⟨f0,f1,f2,f3,f4,f5⟩:=l it (by simp);exact wpAny_pyNext_range_end (I.ok.hd C) st (by have:n<=i:=T;lia) λj eb=>⟨rfl,I.turned (t':=s.toks) (λb o U e=>eb b o U e) f0 f1 f3 f4 f5⟩
 self:=λ_ _ _ _ _ st h=>wpAny_pyIter_rangeiter st h
end L2
variable {wi:L2.TI}
namespace L2
open PySem PySem.Spec PyProof.Rows
def are(K:Af)(tl:TE):TI:=λσ H R=>tl σ H λx H1=>∃a,x=.ref a/\(∃xs,aF K H1 a xs)/\R (GD K a) H1
def Nu(K:Af)(tl:TE):TI:=λσ H R=>tl σ H λx H1=>∃a,x=.ref a/\(∃xs,dz K H1 a xs)/\R (GF K a) H1
def Nv{l:Expr}{tl:TE}(j:PE X l tl):PI X tg l (are X.K tl):=by
 intro J s r H R I h;refine az (j J s r H _ I h) λv U x t g C T=>?_;obtain⟨a,e,⟨xs,hq⟩,q⟩:=T;subst e;cases C;obtain⟨a1,rv,p,hz⟩:=g.list hq;refine wpAny_pyIter_list p.isList ?_;refine⟨U.heap.objs.size,[U.heap.objs.size],_,_,t,rfl,g.kept (t':=U.toks) λb o e=>wh _ e,Nt a _,⟨_,ya _ rfl,rfl,rfl⟩,λb hb=>?_,q⟩;have e:b=U.heap.objs.size:=by simpa using hb
 subst e;exact g.fpOk (An _)<|g.hok.fresh<|An _
def Nw{l:Expr}{tl:TE}(r:PE X l tl):PI X tg l (Nu X.K tl):=by
 intro J s t H R I h;refine az (r J s t H _ I h) λv U x C g T q1=>?_;obtain⟨a,e,⟨xs,hq⟩,q⟩:=q1;subst e;cases T;obtain⟨j,rv,p,hz⟩:=g.tuple hq;refine wpAny_pyIter_tuple (show U.heap.IsTuple a j.toArray from p) ?_;refine⟨U.heap.objs.size,[U.heap.objs.size],_,_,C,rfl,g.kept (t':=U.toks) λb o e=>wh _ e,xI a _,⟨_,ya _ rfl,rfl,rfl⟩,λb hb=>?_,q⟩;have e:b=U.heap.objs.size:=by simpa using hb
 subst e;exact g.fpOk (An _)<|g.hok.fresh<|An _
def uB{R:It->Hp->Prop}{hi:Int}{t u v:Tok}{tk:Nat}(I:qt X pins σ H s)(h1 : -(2 ^ 62)<=lo)(h2:lo<2 ^ 62)(h3 : -(2 ^ 62)<=hi)(U:hi<2 ^ 62)
 (q:R (A_ lo (hi-lo).toNat) H) (p:0<tk:=by walk_at "t"):wpAny (model X.prog X.w) X.A (pyIter<|.ref s.heap.objs.size) (GB X pins σ tg R) E {s with heap:=s.heap.push {cls:=.type "range",data:=.fields #[.int lo t,.int hi u,.int 1 v]},toks:=tk}:=by
 refine wpAny_pyIter_range (IsRange.new ..) (small_one h1 h2 h3 U) ?_;have J:qt X pins σ H {s with heap:=s.heap.push {cls:=.type "range",data:=.fields #[.int lo t,.int hi u,.int 1 v]},toks:=tk}:=I.kept λb o e=>wh _ e;refine⟨(s.heap.push {cls:=.type "range",data:=.fields #[.int lo t,.int hi u,.int 1 v]}).objs.size,[(s.heap.push {cls:=.type "range",data:=.fields #[.int lo t,.int hi u,.int 1 v]}).objs.size],_,_,H,rfl,
  J.kept (t':=tk) λb o e=>wh _ e,wO _ lo (hi-lo).toNat,?_,λb g=>?_,q⟩
 ·have j:lo+((0:Nat):Int)*1=lo:=by simp
  have l:(((hi-lo).toNat:Nat):Int)-((0:Nat):Int)=Builtin.Range.rangeSize lo hi 1:=by rw[rangeSize_one];split<;>lia
  show IsRangeIter _ _ (lo+((0:Nat):Int)*1) ((((hi-lo).toNat:Nat):Int)-((0:Nat):Int)) 1;rw[j,l];exact ya _ rfl
 ·have e:b=(s.heap.push {cls:=.type "range",data:=.fields #[.int lo t,.int hi u,.int 1 v]}).objs.size:=by simpa using g
  subst e;exact J.fpOk (An _)<|J.hok.fresh<|An _
def Nx(ta:TA):TI:=λσ H R=>ta σ H λvs H1=>∃j:Int,vs=[.int j] /\ -(2 ^ 62)<=j/\j<2 ^ 62/\R (A_ 0 j.toNat) H1
def Ny(ta:TA):TI:=λσ H R=>ta σ H λvs H1=>∃i j:Int,vs=[.int i,.int j]/\(-(2 ^ 62)<=i/\i<2 ^ 62 /\ -(2 ^ 62)<=j/\j<2 ^ 62)/\R (A_ i (j-i).toNat) H1
def Nz{a:Expr}{ta:TA}(g:Gl X "range")(l:X.mg "range"=none)(o:PA X [a] ta)(hs:starEach [a] X.env=[(false,eval a X.env)]:=by rfl):PI X tg (.Call (.Name "range" p) [a] [] pos) (Nx ta):=by
 intro J s C H R I h;refine Call_<|cM I g l boot_range<|BU (wQ (o pos J s C H _ I h) λus s1 vs H1 T r1 U=>?_) hs rfl;obtain⟨j,e,U,q2,q⟩:=U;subst e;cases r1 with
 |cons r rr=>
  cases rr;obtain⟨t,rfl⟩:=r;exact call_range_1<|uB T (by lia) (by lia) U q2 (by simpa using q)
def NA{a b:Expr}{ta:TA}(l:Gl X "range")(o:X.mg "range"=none)(C:PA X [a,b] ta)(hs:starEach [a,b] X.env=[(false,eval a X.env),(false,eval b X.env)]:=by rfl)(J:starEach [b] X.env=[(false,eval b X.env)]:=by rfl):
 PI X tg (.Call (.Name "range" p) [a,b] [] pos) (Ny ta):=by
 intro U s T H R I h;refine Call_ (cM I l o boot_range (BU (wQ (C pos U s T H _ I h) λus s1 vs H1 I1 r1 g=>?_) (by rw[hs,J]) (by rw[J];rfl)));obtain⟨i,j,e,⟨g,q2,q3,q4⟩,q⟩:=g;subst e;cases r1 with
 |cons r rr=>
  cases rr with
  |cons r' rr=>
   cases rr;obtain⟨t,rfl⟩:=r;obtain⟨t',rfl⟩:=r';exact call_range_2<|uB I1 g q2 q3 q4 q
def NB(wi:TI)(g:TG)(tb:TS):TS:=λD σ H=>wi σ H λJ H1=>∃W:Nat->Nat->St->Hp->Prop,(∃m,W 0 m σ H1)/\∀i m σ H,W i m σ H->
 (J.stop i H/\D.nx σ H)\/(J.go i H/\∃N:St->Hp->Prop,(∀hE H',N hE H'->∃U,U<m/\W (i+1) U hE H')/\∀x H',J.yld i H x H'->g x σ H' λI H2=>tb {D with nx:=N,ct:=N,bk:=D.nx} I H2)
def nJ(fp:List Addr)(h:Wv):List (Addr×Obj):=fp.filterMap λb=>(h.get? b).map λo=>(b,o)
def df{b:Addr}{o:Obj}(I:b∈fp)(e:h.get? b=some o):(b,o)∈nJ fp h:=DO.mpr ⟨b,I,by rw[e];rfl⟩
def NC{p:Addr×Obj}(I:p∈nJ fp h):p.1∈fp/\h.get? p.1=some p.2:=by
 obtain⟨b,J,e⟩:=DO.mp I;cases q:h.get? b with
 |none=>rw[q] at e;cases e
 |some o=>
  rw[q] at e;have U:(b,o)=p:=AZ e;subst U;exact⟨J,q⟩
def qt.pinned(I:qt X pins σ H s)(g:∀b∈fp,oY X pins H b)(j:∀b∈fp,∃o,s.heap.get? b=some o/\∀v,o.data≠.cell v):qt X (pins++nJ fp s.heap) σ H s:=
 I.pins_of λp l=>(Ak.mp l).elim (λz=>I.pin p<|Ah _ z) λz=>by obtain⟨J,e⟩:=NC z;obtain⟨r,f1,f2,_⟩:=g p.1 J;obtain⟨o,U,d⟩:=j p.1 J;rw[e] at U;cases U;exact⟨e,r,f1,f2,d⟩
def qt.unpinned{J:List<|Addr×Obj}(I:qt X (pins++J) σ H s):qt X pins σ H s:=I.pins_of λp U=>I.pin p<|Ah _<|Am _ U
def ND{iter:Expr}{g:TG}{tb:TS}(hp:PassesOwn (model X.prog X.w) X.A X.env X.xe)(hc:X.calm=true)(hi:PI X tg iter wi)(hg:PG X tg g)(l:iW X body tb)
 (hs:∀x,foldedSetIterable iter X.env x=pure x:=by intro _;rfl):PS X (.For tg iter body [] pos) (NB wi g tb):=by
 intro U s σ H D I h;refine wpAny_For (wr (hi U s σ H _ I h) λv s1 h1=>wr h1 λax s2 h2=>?_) hs;obtain⟨it,fp,tn,J,H2,e,I2,T,a4,f2,W,⟨m0,w0⟩,turn⟩:=h2;subst e;have p:∀{H':Hp},(∀b∈fp,H' b=none)->∀b∈fp,oY X U H' b:=λhn b l=>⟨hn b l,(f2 b l).2⟩;refine codeAny_forLoop_any (λn s'=>∃i t H',qt X U t H' s'/\tn i s'.heap/\(∀b∈fp,H' b=none)/\W i n t H') ?_ m0 ⟨0,σ,H2,I2,a4,λb l=>(f2 b l).1,w0⟩;rintro n s3 ⟨i,C,H3,I3,a2,a3,w3⟩;rcases turn i n C H3 w3 with⟨stop,qn⟩|⟨go,N,hN,step⟩
 ·refine wpAny_passesOwn hp<|wr (T.done X rfl rfl rfl hc i U s3 C H3 X.xe I3 (p a3) a2 stop) λr s4 ⟨hr,I4⟩=>?_;subst hr;exact wpAny_execs_nil ⟨C,H3,I4,qn⟩
 ·refine wpAny_passesOwn hp<|wr (T.item X rfl rfl rfl hc i U s3 C H3 X.xe I3 (p a3) a2 go) λr s4 ⟨u,hr,h4⟩=>?_;subst hr;refine wpAny_passesOwn hp<|wr h4 λ_ s5 ⟨x,H5,I5,r5,y5,a1,a5⟩=>?_;have ac:=I5.pinned (p a5)<|T.obj _ _ a1;refine wpAny_passesOwn hp<|wr (hg _ s5 C H5 x u _ ac r5<|step x H5 y5) λ_ s6 ⟨al,H6,I6,q6⟩=>?_;refine wpAny_passesOwn hp<|wr (l _ s6 al H6 _ I6 q6) λf s7 q7=>?_;have again:∀{j:St} {H7:Hp},qt X (U++nJ fp s5.heap) j H7 s7->N j H7->∃m,m<n/\∃i t H',qt X U t H' s7/\tn i s7.heap/\(∀b∈fp,H' b=none)/\W i m t H':=λ{j H7} I7 n7=>by obtain⟨m',hm,w7⟩:=hN j H7 n7;refine⟨m',hm,i+1,j,H7,I7.unpinned,T.keep _ _ _ a1 λb l o e=>(I7.pin (b,o)<|Ah _<|Ah _<|df l e).1,λb l=>?_,w7⟩;obtain⟨o,e,d⟩:=T.obj _ _ a1 b l;exact(I7.pin (b,o)<|Ah _<|Ah _<|df l e).2.1
  cases f with
  |next=>obtain⟨j,H7,I7,n7⟩:=q7;exact again I7 n7
  |cont=>obtain⟨j,H7,I7,n7⟩:=q7;exact again I7 n7
  |brk=>obtain⟨j,H7,I7,q7⟩:=q7;exact⟨j,H7,I7.unpinned,q7⟩
  |ret v=>obtain⟨x7,j,H7,I7,r7,q7⟩:=q7;exact⟨x7,j,H7,I7.unpinned,r7,q7⟩
abbrev R2:=V->V->Hp->VK->Prop
def wb(X:Cx)(f:Wr->Wr->Sem Wr)(r:R2):Prop:=
 ∀(pins:List<|Addr×Obj) (s:Ws) (σ:St) (H:Hp) (x y:V) (v u:Wr) (Q:VK),qt X pins σ H s->zq x v->zq y u->r x y H Q->
  wpAny (model X.prog X.w) X.A (f v u) (EP X pins σ Q) X.xe s
def ja(X:Cx)(f:Wr)(r:Wx->Hp->VK->Prop):Prop:=
 ∀(pins:List<|Addr×Obj) (s:Ws) (σ:St) (H:Hp) (xs:Wx) (us:Wg) (Q:VK),qt X pins σ H s->zf xs us->r xs H Q->
  wpAny (model X.prog X.w) X.A (call f us) (EP X pins σ Q) X.xe s
def Fx(r:R2)(ta tb:TE):TE:=λσ H Q=>ta σ H λx H1=>tb σ H1 λy H2=>r x y H2 Q
def rI(C:Int->Int->Prop)(g:Int->Int->V):R2:=λx y H Q=>∃i j,x=.int i/\y=.int j/\C i j/\Q (g i j) H
def o_(g:Int->Int->V):R2:=λx y H Q=>∃i j,x=.int i/\y=.int j/\Q (g i j) H
section
variable {a b:Expr}{ta tb tc:TE}
def GG(j:PE X a ta)(l:PE X b tb){R:V->V->Hp->Prop}(I:qt X pins σ H s)
 (h:ta σ H λx H1=>tb σ H1 λy H2=>R x y H2) {f:Wr->Wr->Sem Wr}
 (o:∀v u g x y H2,qt X pins σ H2 g->zq x v->zq y u->R x y H2->wpAny (model X.prog X.w) X.A (f v u) Q X.xe g):
 wpAny (model X.prog X.w) X.A (eval a X.env) (λv J=>wpAny (model X.prog X.w) X.A (eval b X.env) (λu U=>wpAny (model X.prog X.w) X.A (f v u) Q X.xe U) X.xe J) X.xe s:=by
 refine az (j pins s σ H _ I h) λv p x H1 r t C=>?_;refine az (l pins p σ H1 _ r C) λu g y H2 T r2 q2=>?_;exact o v u g x y H2 T t r2 q2
def NE{op:Operator}{r:R2}(U:wb X (binaryOp op) r)(g:PE X a ta)(j:PE X b tb):PE X (.BinOp a op b pos) (Fx r ta tb):=by intro J s l H Q I h;exact wpAny_BinOp<|GG g j I h λv u o x y p t C T q=>U J o l p x y v u Q t C T q
def F2{f:Wr->Wr->Sem Wr}{C:Int->Int->Prop}{g:Int->Int->Int}
 (rule:∀(i j:Int) (t u:Tok) (s:Ws) (Q:Wa) (E:Wa),C i j->Q (.int (g i j) s.toks) {s with toks:=s.toks+1}->wpAny (model X.prog X.w) X.A (f (.int i t)<|.int j u) Q E s):
 wb X f (rI C λi j=>.int<|g i j):=by
 rintro J s r H x y v u Q I U l⟨i,j,rfl,rfl,o,q⟩;obtain⟨t,rfl⟩:=U;obtain⟨p,rfl⟩:=l;exact rule i j t p s _ _ o ⟨.int<|g i j,H,I.tok _,⟨_,rfl⟩,q⟩
def HX{f:Wr->Wr->Sem Wr}{g:Int->Int->Int}
 (rule:∀(i j:Int) (t u:Tok) (s:Ws) (Q:Wa) (E:Wa),Q (.int (g i j) s.toks) {s with toks:=s.toks+1}->wpAny (model X.prog X.w) X.A (f (.int i t)<|.int j u) Q E s):
 wb X f (o_ λi j=>.int<|g i j):=by
 rintro J s p H x y v u Q I U l⟨i,j,rfl,rfl,q⟩;obtain⟨t,rfl⟩:=U;obtain⟨o,rfl⟩:=l;exact rule i j t o s _ _ ⟨.int<|g i j,H,I.tok _,⟨_,rfl⟩,q⟩
def GH{f:Wr->Wr->Sem Wr}{g:Int->Int->Bool}
 (rule:∀(i j:Int) (t u:Tok) (s:Ws) (Q:Wa) (E:Wa),Q (.bool<|g i j) s->wpAny (model X.prog X.w) X.A (f (.int i t)<|.int j u) Q E s):
 wb X f (o_ λi j=>.bl<|g i j):=by
 rintro J s p H x y v u Q I U l⟨i,j,rfl,rfl,q⟩;obtain⟨t,rfl⟩:=U;obtain⟨o,rfl⟩:=l;exact rule i j t o s _ _ ⟨.bl<|g i j,H,I,rfl,q⟩
def F4(i j:Int):Prop:=0<j/\j<1073741824
def GI(i j:Int):Prop:=0<=j/\j<=1000000/\i.natAbs<2 ^ 64
def acv(i j:Int):Prop:=(-(2 ^ 64)<i/\i<2 ^ 64)\/(-(2 ^ 64)<j/\j<2 ^ 64)
def acv.ok{i j:Int}(h:acv i j):IntMulOk i j:=by
 rcases h with⟨h1,h2⟩|⟨h1,h2⟩
 ·exact .of_left<|intBits_le_64 h1 h2
 ·exact .of_right<|intBits_le_64 h1 h2
def NF:wb X (binaryOp .Add) (o_ λi j=>.int<|i+j):=HX λ_ _ _ _ _ _ _ q=>add_int q
def NG:wb X (binaryOp .Sub) (o_ λi j=>.int<|i-j):=HX λ_ _ _ _ _ _ _ q=>sub_int q
def NH:wb X (binaryOp .Mult) (rI acv λi j=>.int<|i*j):=F2 λ_ _ _ _ _ _ _ I q=>mul_int q I.ok
def NI:wb X (binaryOp .FloorDiv) (rI F4 λi j=>.int<|i / j):=F2 λi j _ _ _ _ _ I q=>by have h1:(0:Int)<j:=I.1;have h2:j<1073741824:=I.2;exact floordiv_int (by lia) (by rw[Int.fdiv_eq_ediv_of_nonneg i (by lia)];exact q)<|.inl<|PyProof.noPylong_small (by lia)
def NJ:wb X (binaryOp .Mod) (rI (λ_ j=>0<j) λi j=>.int<|i % j):=F2 λi j _ _ _ _ _ I q=>by have h1:(0:Int)<j:=I;exact mod_int' (by lia) (by rw[Int.fmod_eq_emod_of_nonneg i (by lia)];exact q)
def NK:wb X (binaryOp .Pow) (rI GI λi j=>.int<|i ^ j.toNat):=F2 λ_ _ _ _ _ _ _ I q=>pow_int_small I.1 I.2.1 I.2.2 q
end
def HY:V->V->Bool
 |.int _,.int _=>true
 |.bl _,.bl _=>true
 |.str _,.str _=>true
 |_,_=>false
def F5:Bool->CmpOp
 |true=>.NotEq
 |false=>.Eq
def Fy(ne b:Bool):Bool:=match ne with
 |true=>!b
 |false=>b
def NL(ne:Bool):R2:=λx y H Q=>HY x y=true/\Q (.bl<|Fy ne<|decide<|x=y) H
def yf{i j:Int}:decide (V.int i=V.int j)=(i==j):=by rw[EE];simp
def HZ{i j:Bool}:decide (V.bl i=V.bl j)=(i==j):=by rw[EE];simp
def yF{i j:Str}:decide (V.str i=V.str j)=(i==j):=by rw[EE];simp
section
variable {a b:Expr}{ta tb tc:TE}
def gN{Q:VK}{k J:Bool}(I:qt X pins σ H s)(q:Q (.bl k) H)(e:k=J):EP X pins σ Q (.bool J) s:=by subst e;exact⟨.bl k,H,I,rfl,q⟩
def H0(ne:Bool):wb X (compareOp<|F5 ne) (NL ne):=by
 rintro l s o H x y v u Q I U g⟨J,q⟩;cases x with
 |bl i=>
  cases y with|bl j=>cases U;cases g;cases ne;exact eq_bool<|gN I q HZ;exact ne_bool (gN I q<|Bk not HZ)|_=>exact(AG J).elim
 |int i=>
  cases y with
  |int j=>obtain⟨_,rfl⟩:=U;obtain⟨_,rfl⟩:=g;cases ne;exact eq_int<|gN I q yf;exact ne_int<|gN I q<|Bk not yf
  |_=>exact(AG J).elim
 |str i=>
  cases y with
  |str j=>obtain⟨_,rfl⟩:=U;obtain⟨_,rfl⟩:=g;cases ne;exact eq_str<|gN I q yF;exact ne_str<|gN I q<|Bk not yF
  |_=>exact(AG J).elim
 |_=>cases y<;>exact(AG J).elim
def NM:wb X (compareOp .Lt) (o_ λi j=>.bl<|decide<|i<j):=GH λ_ _ _ _ _ _ _ q=>lt_int q
def NN:wb X (compareOp .LtE) (o_ λi j=>.bl<|decide<|i<=j):=GH λ_ _ _ _ _ _ _ q=>le_int q
def NO:wb X (compareOp .Gt) (o_ λi j=>.bl<|decide<|j<i):=GH λ_ _ _ _ _ _ _ q=>gt_int q
def jf(b:Expr){op:CmpOp}(h:op≠.In:=by decide)(h2:op≠.NotIn:=by decide):behindInMarks op b=false:=by
 have I:(op==CmpOp.In)=false:=by cases op<;>first|rfl|exact absurd rfl h
 have J:(op==CmpOp.NotIn)=false:=by cases op<;>first|rfl|exact absurd rfl h2
 cases b<;>simp[behindInMarks,I,J]
def NP{op:CmpOp}{r:R2}(U:wb X (compareOp op) r)(g:PE X a ta)(j:PE X b tb)(l:behindInMarks op b=false):PE X (.Compare a [op] [b] pos) (Fx r ta tb):=by intro J s o H Q I h;exact wpAny_Compare1 (GG g j I h λv u p x y t C T ry q=>U J p o t x y v u Q C T ry q) l
def GJ(t:TE):TT:=λσ H Q=>t σ H λx H'=>∃k,x=.bl k/\Q k H'
def NQ{op:CmpOp}{r:R2}(g:wb X (compareOp op) r)(j:PE X a ta)(l:PE X b tb)(o:behindInMarks op b=false):PT X (.Compare a [op] [b] pos) (GJ<|Fx r ta tb):=by
 intro J s U H Q I h;refine wpAny_isTrue_Compare1 (az (j J s U H _ I h) λv p x t C T q1=>az (l J p U t _ C q1) λu s2 y H2 I2 r2 q2=>
  wr (g J s2 U H2 x y v u _ I2 T r2 q2) λc s3 ⟨z,H3,I3,r3,k,e,q3⟩=>?_) o
 subst e;cases r3;exact wpAny_truthy_bool ⟨H3,I3,q3⟩
def jG:(sizeLine:Nat)<2 ^ 63:=by rw[sizeLine_eq];decide
def vH:wb X (binaryOp .Add) (λx y H Q=>∃i j,x=.str i/\y=.str j/\i.length+j.length<=sizeLine/\Q (.str<|i++j) H):=by rintro J s p H x y v u Q I U g⟨i,j,rfl,rfl,l,q⟩;obtain⟨t,rfl⟩:=U;obtain⟨o,rfl⟩:=g;exact j5 I.tk<|add_str (λo tk r=>⟨.str<|i++j,H,I.tok _,⟨_,rfl⟩,q⟩) l
def qD{x:V}(r:zf [x] us):∃u,us=[u]/\zq x u:=by cases r with|cons I J=>cases J;exact⟨_,rfl,I⟩
def H9{x y:V}(r:zf [x,y] us):∃u I,us=[u,I]/\zq x u/\zq y I:=by
 cases r with
 |cons J U=>
  cases U with|cons g j=>cases j;exact⟨_,_,rfl,J,g⟩
def NR(hc:X.calm=true):ja X (.builtin "max") (λxs H Q=>∃i j,xs=[.int i,.int j]/\Q (.int<|if j > i then j else i) H):=by
 rintro U s g H xs l Q I r⟨i,j,rfl,q⟩;obtain⟨u,o,rfl,⟨t,rfl⟩,⟨p,rfl⟩⟩:=H9 r;refine j5 I.tk<|max_two_ints (I.ok.hd hc) λC tk k T=>⟨_,H,I.kept k,?_,q⟩;by_cases J:j > i
 ·rw[AD J,AD J];exact⟨_,rfl⟩
 ·rw[AB J,AB J];exact⟨_,rfl⟩
def NS(hc:X.calm=true):ja X (.builtin "min") (λxs H Q=>∃i j,xs=[.int i,.int j]/\Q (.int<|if j<i then j else i) H):=by
 rintro U s g H xs l Q I r⟨i,j,rfl,q⟩;obtain⟨u,o,rfl,⟨t,rfl⟩,⟨p,rfl⟩⟩:=H9 r;refine j5 I.tk<|min_two_ints (I.ok.hd hc) λC tk k T=>⟨_,H,I.kept k,?_,q⟩;by_cases J:j<i
 ·rw[AD J,AD J];exact⟨_,rfl⟩
 ·rw[AB J,AB J];exact⟨_,rfl⟩
end
structure alt(h:Wv)(x dx C:Addr)(mA:Wc):Prop where
 obj:h.get? x=some (PySem.W.instObj C dx)
 ns:h.Ns1 dx mA
 ne:dx≠x
def NT(n:h.Ns1 dx mA):∃od,h.get? dx=some od/\∀name,PySem.W.lookIn name od=some (mA name):=by
 obtain⟨o,J,r,U,hd,g,_,j⟩:=n;refine⟨o,U,λname=>?_⟩;have e:=j name;unfold nsFind findBy at e;rw[<-Array.find?_toList] at e;unfold PySem.W.lookIn;rw[hd];dsimp only;split
 ·rename_i y q;rw[q] at e;exact Bk some e
 ·rename_i q;rw[q] at e;have a:J.toList.any (·.refKey)=false:=by rw[List.any_eq_false];intro y l;obtain⟨z,t,I⟩:=g y<|Array.mem_toList_iff.mp l;simp[DictEntry.refKey,I]
  have p:¬J.toList.any (·.refKey)=true:=by rw[a];exact AG
  rw[AB p];exact Bk some e
def alt.look{x:Addr}(I:alt h x dx C mA):∃od,PySem.W.InstAt h x (PySem.W.instObj C dx) C (some od)/\∀name,PySem.W.lookIn name od=some (mA name):=
 let ⟨od,J,U⟩:=NT I.ns
 ⟨od,⟨I.obj,rfl,rfl,J⟩,U⟩
section
variable {w:Wu}{K:Af}{x:Addr}{v:Wr}
end
def ig.some_of{o:Wn}(r:ig (some v) o):∃u,o=some u/\zq v u:=by cases o with|none=>exact(show False from r).elim|some u=>exact⟨u,rfl,r⟩
abbrev E8:=@ig.some_of
section
variable {P:Wt}{w:Wu}{a:Addr}{fs fs':List<|Str×V}
def NU(hok:eE P w H h)(e:H a=some (.ins C dx fs)):∃mA,alt h a dx C mA/\(∀f,ig (fs.lookup f)<|mA f)/\PySem.Within mA (fs.map (·.1))/\fs.length<=1000/\H dx=some (.own a):=by obtain⟨d,z,ne,ob,mA,n,r,q⟩:=(show x9 P w H h a (.ins C dx fs) from hok a _ e);exact⟨mA,⟨ob,n,ne⟩,r,q,z,d⟩
end
structure Cls(K:Af)(C:Addr):Prop where
 pg:PySem.W.plainGet K C Str.empty=true
 hd:PySem.W.hasDictIn K C=true
 po:PySem.W.plainOver K C=true
 sa:PySem.W.findIn K (.ref C) "__setattr__"=some (some<|.builtin "object.__setattr__")
def Cls.get{K:Af}(c:Cls K C)(f:Str):PySem.W.plainGet K C f=true:=c.pg
section
variable {a:Addr}{fs:List<|Str×V}{f:Str}
end
section
variable {f:Str}{tpos:Pos}{ta tv:TE}
end
section
variable {c:Wr}{b:Bool}
inductive lG(K:Af)(H:Hp):V->Wr->Prop where
 |non:lG K H .non (.type "NoneType")
 |bl (x:Bool):lG K H (.bl x) (.type "bool")
 |int (i:Int):lG K H (.int i) (.type "int")
 |str (x:Str):lG K H (.str x) (.type "str")
 |flt (x:UInt64):lG K H (.flt x) (.type "float")
 |lst {a:Addr} {xs:Wx} (e:H a=some (.lst xs)):lG K H (.ref a) (.type "list")
 |frz {a:Addr} {o:Obj} {xs:Wx} (e:H a=some (.frz o<|.lst xs)):lG K H (.ref a) (.type "list")
 |tup {a:Addr} {xs:Wx} (e:H a=some (.tup xs)):lG K H (.ref a) (.type "tuple")
 |dK {a:Addr} {kvs:List<|jh×V} (e:H a=some (.dK kvs)):lG K H (.ref a) (.type "dict")
 |dT {a:Addr} {kvs:List<|Wz×V} (e:H a=some (.dT kvs)):lG K H (.ref a) (.type "dict")
 |ins {a C dx:Addr} {fs:List<|Str×V} (e:H a=some (.ins C dx fs)) (cl:Cls K C) (ha:PySem.W.findIn K (.ref C) "__class__"=some (some<|.builtin "object.__class__"))
  (hn:PySem.W.specialIn K (.builtin "object.__class__") "__get__"=some (some<|.builtin "getset_descriptor.__get__")) (htk:PySem.W.takesIn K (.builtin "object.__class__")=some true)
  (hm:PySem.W.mroIn K C (.type "object")=some true):lG K H (.ref a) (.ref C)
def bC{x:V}{t:Wr}(I:qt X pins σ H s)(U:zq x u)(ty:lG X.K H x t)(e:PySem.W.kitOne X.K t c=some b)(h:∀tk,Q (.bool b) {s with toks:=tk}):
 wpAny (model X.prog X.w) A (call (.builtin "isinstance") [u,c]) Q E s:=by
 cases ty with
 |non=>cases (show u=Value.none from U);exact Br PySem.W.kitx_none I.kIn True.intro e (λz=>nomatch z) h
 |bl y=>cases (show u=Value.bool y from U);exact Br PySem.W.kitx_bool I.kIn True.intro e (λz=>nomatch z) h
 |int i=>obtain⟨t,q⟩:=(show ∃t,u=Value.int i t from U);cases q;exact Br PySem.W.kitx_int I.kIn True.intro e (λz=>nomatch z) h
 |str y=>obtain⟨t,q⟩:=(show ∃t,u=Value.str y t from U);cases q;exact Br PySem.W.kitx_str I.kIn True.intro e (λz=>nomatch z) h
 |flt y=>obtain⟨t,q⟩:=(show ∃t,u=Value.float y t from U);cases q;exact Br PySem.W.kitx_float I.kIn True.intro e (λz=>nomatch z) h
 |@lst a j ea=>
  cases (show u=Value.ref a from U);obtain⟨_,_,n,_,h1⟩:=(show x9 X.prog X.w H s.heap a (.lst j) from I.hok a _ ea);exact Br CS I.kIn ⟨_,h1,rfl⟩ e (λz=>nomatch z) h
 |@frz a ob j ea=>
  cases (show u=Value.ref a from U);obtain⟨_,_,_,n,_,h1⟩:=(show x9 X.prog X.w H s.heap a (.frz ob<|.lst j) from I.hok a _ ea);exact Br CS I.kIn ⟨_,h1,rfl⟩ e (λz=>nomatch z) h
 |@tup a j ea=>
  cases (show u=Value.ref a from U);obtain⟨_,_,_,p⟩:=(show x9 X.prog X.w H s.heap a (.tup j) from I.hok a _ ea);obtain⟨o,h1,h2,_⟩:=p;exact Br DP I.kIn ⟨o,h1,h2⟩ e (λz=>nomatch z) h
 |@dK a g ea=>
  cases (show u=Value.ref a from U);obtain⟨_,_,vs,_,p⟩:=(show x9 X.prog X.w H s.heap a (.dK g) from I.hok a _ ea);obtain⟨o,r,T,h1,h2,_⟩:=p;exact Br Eb I.kIn ⟨o,h1,h2.1⟩ e (λz=>nomatch z) h
 |@dT a g ea=>
  cases (show u=Value.ref a from U);obtain⟨_,_,j,_,o,r,T,h1,h2,_⟩:=(show x9 X.prog X.w H s.heap a (.dT g) from I.hok a _ ea);exact Br Eb I.kIn ⟨o,h1,h2.1⟩ e (λz=>nomatch z) h
 |@ins a C dx fs ea cl ha hn l hm=>
  cases (show u=Value.ref a from U);obtain⟨mA,O,_⟩:=NU I.hok ea;obtain⟨od,J,_⟩:=O.look;exact Br (PySem.W.kitx_own (cl.get _) cl.hd ha hn l hm) I.kIn J e (λz=>nomatch z) h
end
structure wz(k:Nat)(A:Around):Prop where
 hd:A.handled=none
 dp:A.depth+3*k+5<recursionLimit
 un:A.units+16*k+200<cLine
def wz.mono{k:Nat}(r:wz k A)(h:j<=k):wz j A:=⟨r.hd,by have:=r.dp;lia,by have:=r.un;lia⟩
def wz.deeper{k:Nat}(r:wz (k+1) A)(env:Env):wz k (A.deeper env):=
 ⟨r.hd,by have:=r.dp;show A.depth+1+3*k+5<_;lia,by have:=r.un;show A.units+3+16*k+200<_;lia⟩
def wz.depth{k:Nat}(r:wz k A):A.depth<recursionLimit:=by have:=r.dp;lia
def NV:TA:=λ_ H Q=>Q [] H
def NW(ta:TE)(tr:TA):TA:=λσ H Q=>ta σ H λx H1=>tr σ H1 λxs H2=>Q (x::xs) H2
section
variable {te:TE}{t:TA}
def bx:PA X [] NV:=λ_ _ _ _ H Q I h=>Fa ⟨[],H,I,.nil,h⟩
abbrev Fb(e:Expr)(es:Wk)(X:Cx):Prop:=starEach (e::es) X.env=(false,eval e X.env)::starEach es X.env
def vm(g:PE X e te)(j:PA X es t)(hs:Fb e es X:=by rfl):PA X (e::es) (NW te t):=by intro pos J s U H Q I h;rw[hs];show wpAny _ _ (spliced<|(false,eval e X.env)::backTo pos (starEach es X.env)) _ _ s;refine Db<|az (g J s U H _ I h) λu l x o p r C=>?_;exact wQ (j pos J l U o _ p C) λus s2 T H2 I2 r2 q2=>⟨x::T,H2,I2,.cons r r2,q2⟩
def NX(t:TA):TE:=λσ H Q=>t σ H λxs H1=>xs.length<=sizeLine/\∀p,H1 p=none->Q (.ref p) (upd H1 p<|.tup xs)
def aug(t:TA):TE:=λσ H Q=>t σ H λxs H1=>xs.length<=sizeLine/\∀p,H1 p=none->Q (.ref p) (upd H1 p<|.lst xs)
def vV{x1}(h:PA X es t):PE X (.Tuple es x1 pos) (NX t):=by intro J s l H Q I o;refine wpAny_Tuple_spliced (wr (h pos J s l H _ I o) λp U ⟨C,g,j,r,z,q⟩=>⟨by rw[<-r.length];exact z,?_⟩);have T:g U.heap.objs.size=none:=j.hok.fresh<|An _;refine⟨.ref U.heap.objs.size,upd g U.heap.objs.size<|.tup C,j.laid (t':=U.toks) (λb u e=>wh _ e) (An _) ?_,rfl,q _ T⟩;exact⟨z,p,r,⟨_,ya _ rfl,rfl,_,rfl⟩⟩
def NY(h:PA X es t):PE X (.List es pos) (aug t):=by intro J s l H Q I o;refine wpAny_List_spliced (wr (h pos J s l H _ I o) λp U ⟨C,g,j,r,z,q⟩=>⟨by rw[<-r.length];exact z,?_⟩);have T:g U.heap.objs.size=none:=j.hok.fresh<|An _;refine⟨.ref U.heap.objs.size,upd g U.heap.objs.size<|.lst C,j.laid (t':=U.toks) (λb u e=>wh _ e) (An _) ?_,rfl,q _ T⟩;exact⟨z,p,0,r,ya _ rfl⟩
end
abbrev Sp:=Wx->Hp->VK->XK->Prop
abbrev yR:=List Env->Hp->Ws->XK->Wa
structure F6(P:Wt)(w:Wu)(K:Af)(mg:Wc)(base:Wv)(A:Around)(outer:List Env)(s:Ws)(H:Hp):Prop where
 frames:A.frames=some outer
 mod:Mod K mg base
 bs:∀b o,base.get? b=some o->s.heap.get? b=some o/\H b=none
 bsz:base.objs.size<=s.heap.objs.size
 funs:s.heap.FunFrames base outer
 frf:∀b∈bX outer,H b=none
 hok:eE P w H s.heap
 bare:AllBare s.gens
 tk:0<s.toks
def CE(outer:List Env)(P:Wt)(w:Wu)(H:Hp)(s:Ws)(Q:VK)(u:Wr)(s':Ws):Prop:=
 ∃v H',s'.os=s.os/\AllBare s'.gens/\Un (bX outer) [] H H' s.heap s'.heap/\eE P w H' s'.heap/\zq v u/\Q v H'/\0<s'.toks
def CR(CX:yR)(outer:List Env)(P:Wt)(w:Wu)(H:Hp)(s:Ws)(Q:VK)(E:XK)(r:Result)(s':Ws):Prop:=
 match r with
 |.ok (.ret u)=>CE outer P w H s Q u s'
 |.ok _=>False
 |.error e=>CX outer H s E e s'
structure bQ(P:Wt)(w:Wu)(K:Af)(mg:Wc)(base:Wv)(CX:yR)(k:Nat)(f:Addr)(fd:FuncData)(ps:Wj)(sp:Sp):Prop where
 len:∀vs H Q E,sp vs H Q E->vs.length=ps.length
 run:∀(A:Around) (outer:List Env) (s:Ws) (H:Hp) (args:Args) (us:Wg) (vs:Wx) (Q:VK) (E:XK),wz k A->F6 P w K mg base A outer s H->BindsTo s fd args (ps.zip us)->zf vs us->sp vs H Q E->
  codeAny (model P w) A (.call (.ref f) args) (CR CX outer P w H s Q E) s
theorem bQ.mono{P:Wt}{w:Wu}{K:Af}{CX:yR}{k:Nat}{sp:Sp}(F:bQ P w K mg base CX j f fd ps sp)(h:j<=k):
 bQ P w K mg base CX k f fd ps sp:=⟨F.len,λA I s H args J U Q E g=>F.run A I s H args J U Q E<|g.mono h⟩
def bQ.imp{P:Wt}{w:Wu}{K:Af}{CX:yR}{k:Nat}{sp J:Sp}(F:bQ P w K mg base CX k f fd ps sp)
 (h:∀vs H Q E,J vs H Q E->sp vs H Q E):bQ P w K mg base CX k f fd ps J:=
 ⟨λvs H Q E q=>F.len vs H Q E<|h _ _ _ _ q,λA I s H args U vs Q E g j l o p=>F.run A I s H args U vs Q E g j l o<|h _ _ _ _ p⟩
def qt.env0(I:qt X pins σ H s):F6 X.prog X.w X.K X.mg X.base X.A X.stack s H:=
 ⟨I.ok.frames,I.ok.mod,I.bs,AM I.ok.bsz I.sz,I.stack,I.stkFree,I.hok,I.bare,I.tk⟩
def qt.after{Q:VK}(I:qt X pins σ H s)(h:CE X.stack X.prog X.w H s Q u s'):EP X pins σ Q u s':=by obtain⟨v,j,os,bare,un,J,r,q,o⟩:=h;obtain⟨l,g,d,t,U⟩:=s';obtain rfl:U=s.os:=os;exact⟨v,j,I.call (h':=l) (g':=g) (d':=d) (t':=t) (ch:=[]) un J bare λb z=>absurd z (by simp),r,q⟩
def H_(sp:Sp)(sy:Wx)(E:XK)(t:TA):TE:=λσ H Q=>t σ H λvs H1=>sp (vs++sy) H1 Q E
def dw(K:Af)(fd:FuncData)(ps:Wj)(ds:Wg):Prop:=
 ∀(s:Ws) (us:Wg),K.In s.heap->(us++ds).length=ps.length->BindsTo s fd ⟨us,[]⟩ (ps.zip<|us++ds)
def dw.all{K:Af}(h:∀us:Wg,us.length=ps.length->bindArgs fd ⟨us,[]⟩=pure (ps.zip us)):dw K fd ps []:=λs us _ I=>by rw[AN] at I ⊢;exact .of_eq<|h us I
def vN(CX:yR)(X:Cx)(E:XK):Prop:=∀(pins:List<|Addr×Obj) (σ:St) (H:Hp) (s:Ws) (e:Wr) (s':Ws),qt X pins σ H s->CX X.stack H s E e s'->X.xe e s'
section
variable {CX:yR}{k:Nat}{sp:Sp}{sy:Wx}{ds:Wg}{E:XK}{m:Str}{ta:TE}{t:TA}
def NZ{Q:VK}{vs:Wx}(F:bQ X.prog X.w X.K X.mg X.base CX k f fd ps sp)(g:wz k X.A)(j:dw X.K fd ps ds)(hd:zf sy ds)(l:vN CX X E)
 (I:qt X pins σ H s) (r:zf vs us) (h:sp (vs++sy) H Q E):wpAny (model X.prog X.w) X.A (call (.ref f) us) (EP X pins σ Q) X.xe s:=by
 have U:zf (vs++sy) (us++ds):=r.append hd;have o:(us++ds).length=ps.length:=by rw[<-U.length];exact F.len _ _ _ _ h
 refine wpAny_call<|codeAny_mono (F.run X.A X.stack s H ⟨us,[]⟩ (us++ds) (vs++sy) Q E g I.env0 (j s us I.kIn o) U h) λr p J=>?_;cases r with
 |error e=>exact l pins σ H s e p I J
 |ok t=>
  cases t with|ret u=>exact I.after J|next=>exact False.elim J|brk=>exact False.elim J|cont=>exact False.elim J
abbrev Fc(p:Pos)(es:Wk)(X:Cx):Prop:=(backTo p<|starEach es X.env).any (·.1)=false
def N0(F:bQ X.prog X.w X.K X.mg X.base CX k f fd ps sp)(l:wz k X.A)(o:Gl X x)(C:X.mg x=some (.ref f))(T:PySem.W.keepIn X.K (.ref f)=true)(hb:dw X.K fd ps ds)(hd:zf sy ds)(hx:vN CX X E)
 (ha:PA X (e::es) t) (U:Fe x:=by decide) (he:Fb e es X:=by rfl) (g:Fc pos es X:=by rfl):
 PE X (.Call (.Name x p) (e::es) [] pos) (H_ sp sy E t):=by
 intro J s σ H Q I h;refine wpAny_Call_Name_kw<|iH I o C ?_ U;refine PySem.W.callWith_K (h₀:=X.base) I.ok.mod.kin T (wQ (ha pos J s σ H _ I h) λus s1 vs H1 j r q=>⟨j.kIn,?_⟩) he g;exact NZ F l hb hd hx j r q
end
section
variable {CX:yR}{k:Nat}{ks:Wj}{sp:Sp}{E:XK}{m:Str}{kws:List Keyword}{te ta:TE}{t tk:TA}{nm:Option Str}
variable {g:Wg->Wg->Wg}{gV:Wx->Wx->Wx}
end
structure aA(N P:Wj)(sc:Scope):Prop where
 kind:sc.kind=.function
 co:sc.isCoroutine=false
 gen:sc.isGenerator=false
 nd:N.Nodup
 pre:N.take P.length=P
 par:∀x∈P,sc.names.lookup x=some .local\/sc.names.lookup x=some .cell
 nofree:∀y∈sc.names,y.2≠.free
theorem pS{kindOf:Str->Option NameKind}{x:Str}:∀{I:List<|Str×Wr} {m:Wc},(∀v,(x,v)∉I)->bindL kindOf I m x=m x
 |[],_,_=>rfl
 |(n,v)::r,m,h=>by
  unfold bindL;rw[pS λw hw=>h w<|Ai _ hw];split
  ·have:x≠n:=by rintro rfl;exact h v Ar
   simp[this]
  ·rfl
theorem ox{kindOf:Str->Option NameKind}{x:Str}:∀{I:List<|Str×Wr} {m:Wc},(∀v,(x,v)∉I)->bindC kindOf I m x=m x
 |[],_,_=>rfl
 |(n,v)::r,m,h=>by
  unfold bindC;rw[ox λw hw=>h w<|Ai _ hw];split
  ·rfl
  ·have:x≠n:=by rintro rfl;exact h v Ar
   simp[this]
theorem qF{kindOf:Str->Option NameKind}{x:Str}{v:Wr}:∀{P:Wj} {vs:Wg} {i:Nat} {m:Wc},P.Nodup->P[i]?=some x->vs[i]?=some v->kindOf x=some .local->
 bindL kindOf (P.zip vs) m x=some v
 |[],_,_,_,_,h,_,_=>by simp at h
 |_::_,[],_,_,_,_,h,_=>by simp at h
 |p::P,w::vs,0,m,nd,h1,h2,I=>by simp at h1 h2;subst h1;subst h2;show bindL kindOf ((p,w)::P.zip vs) m p=_;unfold bindL;rw[pS λv J=>(AE.mp nd).1 (DK J).1,AD I];simp
 |p::P,w::vs,i+1,m,nd,h1,h2,I=>by show bindL kindOf ((p,w)::P.zip vs) m x=_;unfold bindL;exact qF (i:=i) (AE.mp nd).2 (by simpa using h1) (by simpa using h2) I
theorem qJ{kindOf:Str->Option NameKind}{x:Str}{v:Wr}:∀{P:Wj} {vs:Wg} {i:Nat} {m:Wc},P.Nodup->P[i]?=some x->vs[i]?=some v->kindOf x≠some .local->
 bindC kindOf (P.zip vs) m x=some v
 |[],_,_,_,_,h,_,_=>by simp at h
 |_::_,[],_,_,_,_,h,_=>by simp at h
 |p::P,w::vs,0,m,nd,h1,h2,I=>by simp at h1 h2;subst h1;subst h2;show bindC kindOf ((p,w)::P.zip vs) m p=_;unfold bindC;rw[ox λv J=>(AE.mp nd).1 (DK J).1,AB I];simp
 |p::P,w::vs,i+1,m,nd,h1,h2,I=>by show bindC kindOf ((p,w)::P.zip vs) m x=_;unfold bindC;exact qJ (i:=i) (AE.mp nd).2 (by simpa using h1) (by simpa using h2) I
def start(N:Wj)(vs:Wx):St:=vs.map some++List.replicate (N.length-vs.length) none
def fJ(CX:yR)(P:Wt)(w:Wu)(K:Af)(mg:Wc)(base:Wv)(N:Wj)(eK:Str)(scope:Scope)(f:Addr)(cd:Wr)(A:Around)(outer:List Env)(s:Ws)(H:Hp)(E:XK):Cx where
 prog:=P
 w:=w
 K:=K
 mg:=mg
 base:=base
 A:=A.deeper<|envOfC eK scope s.heap.objs.size f cd
 N:=N
 s₀:=s
 H₀:=H
 env:=envOfC eK scope s.heap.objs.size f cd
 outer:=outer
 stack:=envOfC eK scope s.heap.objs.size f cd::outer
 ex:=[]
 calm:=true
 fn:=λ_=>true
 pn:=[]
 xe:=λe s'=>wpAny (model P w) (A.deeper<|envOfC eK scope s.heap.objs.size f cd) (leaving (envOfC eK scope s.heap.objs.size f cd) e) (λ_ I=>CX outer H s E e I) (λJ I=>CX outer H s E J I) s'
def uM{I:Scope}(h:I.names.lookup x=some .cell):∃c,(cellsFrom n I.names []).lookup x=some c:=by have q:=Ey I.names n []<|.inl h;exact Option.isSome_iff_exists.mp q
def zZ{CX:yR}{P:Wt}{w:Wu}{K:Af}{N:Wj}{o:Ws}{E:XK}{vs:Wx}
 (S:aA N ps scope) (hd:A.handled=none) (I:F6 P w K mg base A outer s H) (hl:vs.length=ps.length) (r:zf vs us)
 (x:InCallC s s.heap.objs.size (bindL (envOfC eK scope s.heap.objs.size f cd).kindOf (ps.zip us) λ_=>none) (cellsFrom (s.heap.objs.size+1) scope.names []) (bindC (envOfC eK scope s.heap.objs.size f cd).kindOf (ps.zip us) λ_=>none) o) (T:0<o.toks):
 qt (fJ CX P w K mg base N eK scope f cd A outer s H E) [] (start N vs) H o:=by
 have a1:ps.length<=N.length:=by have:=Bk List.length S.pre;rw[AX] at this;lia
 obtain⟨h1,tk,rfl,t⟩:=x.done;have J:∀b:Addr,b∉(fJ CX P w K mg base N eK scope f cd A outer s H E).ex:=λb z=>absurd (show b∈([]:List Addr) from z) (by simp);refine⟨⟨I.mod,S.kind,rfl,rfl,An _,λy z c h1 h2=>?_,λy U=>?_,λy c _ h=>?_,λ_=>hd,Around.frames_deeper I.frames,.inr ⟨rfl,rfl⟩,λb z=>absurd z<|J b,I.bs,I.bsz,λb _ _=>J b,λb z=>absurd z<|J b,I.funs,I.frf⟩,
  rfl,I.bare,Un.kept t,⟨_,x.toInCall.ns,λi y v h1 h2 h3=>?_⟩,λy c h=>⟨_,x.cell y c h⟩,I.hok.fresh<|An _,λy c h=>?_,λp g=>absurd (show p∈([]:List<|Addr×Obj) from g) (by simp),I.hok.kept t,?_,T⟩
 ·exact name_of_addr x.apart (BE h1)<|BE h2
 ·have U:scope.names.lookup y=some .cell\/scope.names.lookup y=some .free:=U;rcases U with U|U
  ·exact uM U
  ·exact absurd rfl<|S.nofree _<|BE U
 ·exact Bi<|x.above y c<|BE h
 ·have l:i<vs.length:=by
   unfold start at h2;by_cases l:i<vs.length
   ·exact l
   ·rw[AF (by simpa using l)] at h2;rw[CF] at h2;split at h2<;>cases h2
  have ha:vs[i]?=some v:=by unfold start at h2;rw[Az (by simpa using l),Al] at h2;cases e:vs[i]? with|none=>rw[e] at h2;cases h2|some a=>rw[e] at h2;cases h2;rfl
  obtain⟨u,C,rv⟩:=r.get ha;have g:ps[i]?=some y:=by rw[<-S.pre,Eh (by lia)];exact h1
  have j:ps.Nodup:=by rw[<-S.pre];exact S.nd.sublist<|Ec _ _
  refine⟨u,rv,?_⟩;rcases S.par y (AC g) with k|k
  ·exact .inl ⟨k,qF j g C k⟩
  ·obtain⟨c,e⟩:=uM (n:=s.heap.objs.size+1) k;refine .inr ⟨.inl k,c,e,?_⟩;have q:=x.cell y c e;rw[qJ j g C (by show scope.names.lookup y≠_;rw[k];decide)] at q;exact q
 ·exact I.hok.fresh<|Bi<|x.above y c<|BE h
 ·unfold start;show _=N.length;rw[Ac,Ae,Bv];lia
theorem GK{CX:yR}{P:Wt}{w:Wu}{K:Af}{k:Nat}{U:Arguments}{dV kV ct:Wr}
 {N:Wj} {sp:Sp} (lk:K.lookup f=some ⟨oc,od,.func<|PySem.W.fnOf name eK U body scope dV kV hQ pm an eW ct,pR⟩) (a1:PySem.W.codeIn K eW eK=true) (S:aA N ps scope)
 (len:∀vs H Q E,sp vs H Q E->vs.length=ps.length)
 (j:∀(A:Around) (outer:List Env) (s:Ws) (H:Hp) (vs:Wx) (Q:VK) (E:XK),wz k (A.deeper<|envOfC eK scope s.heap.objs.size f eW)->sp vs H Q E->
  ∃t,iW (fJ CX P w K mg base N eK scope f eW A outer s H E) body t/\t {nx:=λ_ H'=>Q .non H',rt:=Q} (start N vs) H):
 bQ P w K mg base CX (k+1) f (PySem.W.fnOf name eK U body scope dV kV hQ pm an eW ct) ps sp:=by
 refine⟨len,λA outer s H args us vs Q E hr p hb r T=>?_⟩;have hl:=len _ _ _ _ T;have KX:K.In s.heap:=p.mod.kin.keeps λb o e=>(p.bs b o e).1;have a2:s.heap.NoLimit:=p.mod.nolimit.keeps λb o e=>(p.bs b o e).1;have l:∀y∈ps.zip us,scope.names.lookup y.1=some .local\/(scope.names.lookup y.1=some .cell/\((cellsFrom (s.heap.objs.size+1) scope.names []).lookup y.1).isSome=true):=λ⟨n,v⟩ hy=>by
  rcases S.par n (DK hy).1 with q|q
  ·exact .inl q
  ·exact .inr ⟨q,Ey _ _ _<|.inl q⟩
 refine codeAny_call_function hr.depth (KX _ _ lk) rfl S.co S.gen rfl (PySem.W.codeRec_of KX a1)<|hb _ _ _ _ ?_;refine j5 p.tk<|wpAny_newFunctionEnv_cells S.kind l λa4 he s1 x a3=>?_;subst he;refine⟨a2.keeps x.toInCall.keep,codeAny_func ?_⟩;obtain⟨t,ht,hq⟩:=j A outer s H vs Q E (hr.deeper _) T;have I:qt (fJ CX P w K mg base N eK scope f eW A outer s H E) [] (start N vs) H s1:=zZ S hr.hd p hl r x a3;refine AW (ht [] s1 (start N vs) H _ I hq) (λfl s' C=>?_) λe s' C=>C;have xt:∀{g:St} {H':Hp} {v:V} {u:Wr},qt (fJ CX P w K mg base N eK scope f eW A outer s H E) [] g H' s'->zq v u->Q v H'->CE outer P w H s Q u s':=
  λ{g H' v u} J rv q=>⟨v,H',J.os,J.bare,J.base,J.hok,rv,q,J.tk⟩
 cases fl with
 |ret u=>
  obtain⟨v,g,H',J,rv,q⟩:=C;exact xt J rv q
 |next=>
  obtain⟨g,H',J,q⟩:=C;exact xt (v:=V.non) (u:=Value.none) J rfl q
 |brk=>
  obtain⟨_,_,_,q⟩:=C;exact False.elim q
 |cont=>
  obtain⟨_,_,_,q⟩:=C;exact False.elim q
end L2
variable {sp:L2.Sp}
namespace L2
open PySem PySem.Spec PyProof.Rows
section
variable {t:TA}{id T:Ww}{r:Wx->Hp->VK->Prop}
def Ia(r:Wx->Hp->VK->Prop)(t:TA):TE:=λσ H Q=>t σ H λvs H1=>r vs H1 Q
def eJ(hc:ja X (.builtin id) r)(l:Gl X x)(o:X.mg x=none)(C:bootBuiltins x=some (.builtin id))(T:PA X (e::es) t)(hn:x ≠ "__name__" := by decide)(U:Fe x:=by decide)
 (he:Fb e es X:=by rfl) (g:Fc pos es X:=by rfl):PE X (.Call (.Name x p) (e::es) [] pos) (Ia r t):=by
 intro J s j H Q I h;refine wpAny_Call_Name_kw<|cM I l o C ?_ hn U;exact PyProof.Rows.callWith_builtin1 (wQ (T pos J s j H _ I h) λus s1 vs H1 I1 r1 q1=>hc J s1 j H1 vs us Q I1 r1 q1) he g
def jD(hc:ja X (.type T) r)(l:Gl X x)(o:X.mg x=none)(C:bootBuiltins x=some (.type T))(ha:PA X (e::es) t)(hn:x ≠ "__name__" := by decide)(U:Fe x:=by decide)
 (he:Fb e es X:=by rfl) (g:Fc pos es X:=by rfl):PE X (.Call (.Name x p) (e::es) [] pos) (Ia r t):=by
 intro J s j H Q I h;refine wpAny_Call_Name_kw<|cM I l o C ?_ hn U;exact BU (wQ (ha pos J s j H _ I h) λus s1 vs H1 I1 r1 q1=>hc J s1 j H1 vs us Q I1 r1 q1) he g
end
section
variable [DecidableEq κ]
def gD(kvs:List<|κ×V)(k:κ):Wy:=(kvs.find? λI=>decide<|I.1=k).map (·.2)
def fF(kvs:List<|κ×V)(k:κ)(v:V):List (κ×V):=
 if (kvs.any λI=>decide<|I.1=k)=true then kvs.map (λI=>if I.1=k then(I.1,v) else I) else kvs++[(k,v)]
def oD{p:κ×V}{r:List<|κ×V}{k:κ}(e:p.1=k):gD (p::r) k=some p.2:=by simp[gD,BP,e]
def oG{p:κ×V}{r:List<|κ×V}{k:κ}(e:¬p.1=k):gD (p::r) k=gD r k:=by simp[gD,BP,e]
theorem uP(k:κ):∀kvs:List (κ×V),(kvs.any λI=>decide<|I.1=k)=(gD kvs k).isSome
 |[]=>rfl
 |p::r=>by
  rw[CA];by_cases e:p.1=k
  ·simp only[oD e,Aw e,Bool.true_or,DQ]
  ·rw[oG e,Au e,Bool.false_or];exact uP k r
def eV(kvs:List<|κ×V)(k:κ)(v:V):(fF kvs k v).length<=kvs.length+1:=by
 unfold fF;split
 ·rw[Ae];lia
 ·rw[Ac,AL,List.length_nil];lia
def ig.isSome_eq{o:Wy}{u:Wn}(r:ig o u):o.isSome=u.isSome:=by
 cases o with
 |none=>cases u with|none=>rfl|some _=>exact(show False from r).elim
 |some _=>cases u with|none=>exact(show False from r).elim|some _=>rfl
def KV.val{kvs:List<|κ×V}{vs:List<|κ×Wr}(r:KV kvs vs)(k:κ):ig (gD kvs k) (valueAt vs k):=by
 unfold KV at r
 induction r with
 |nil=>exact True.intro
 |@cons p q g I h t U=>
  obtain⟨h1,h2⟩:=h;by_cases e:p.1=k
  ·have J:q.1=k:=h1.symm.trans e;have b:valueAt (q::I) k=some q.2:=by simp[valueAt,BP,J]
   rw[oD e,b];exact h2
  ·have J:¬q.1=k:=λz=>e<|h1.trans z;have b:valueAt (q::I) k=valueAt I k:=by simp[valueAt,BP,J]
   rw[oG e,b];exact U
def KV.any{kvs:List<|κ×V}{vs:List<|κ×Wr}(r:KV kvs vs)(k:κ):(kvs.any λI=>decide<|I.1=k)=vs.any λI=>decide (I.1=k):=by
 unfold KV at r
 induction r with|nil=>rfl|cons h t J=>rw[CA,CA,J,h.1]
def KV.repl{kvs:List<|κ×V}{vs:List<|κ×Wr}(r:KV kvs vs)(k:κ){y:V}(J:zq y u):
 KV (kvs.map λI=>if I.1=k then(I.1,y) else I) (vs.map λI=>if I.1=k then(I.1,u) else I):=by
 unfold KV at r ⊢
 induction r with
 |nil=>exact .nil
 |@cons p q g j h t U=>
  rw[AA,AA];refine .cons ?_ U;obtain⟨h1,h2⟩:=h;by_cases e:p.1=k
  ·rw[AD e,AD<|h1.symm.trans e];exact⟨h1,J⟩
  ·rw[AB e,AB λz=>e<|h1.trans z];exact⟨h1,h2⟩
def KV.put{kvs:List<|κ×V}{vs:List<|κ×Wr}(r:KV kvs vs)(k:κ){y:V}(I:zq y u):KV (fF kvs k y) (stored vs k u):=by
 unfold fF stored;rw[r.any k];by_cases e:(vs.any λJ=>decide<|J.1=k)=true
 ·rw[AD e,AD e];exact r.repl k I
 ·rw[AB e,AB e];exact Paired.snoc r ⟨rfl,I⟩
theorem KV.length{kvs:List<|κ×V}{vs:List<|κ×Wr}(r:KV kvs vs):kvs.length=vs.length:=Paired.length r
end
def pV{P:Wt}{w:Wu}{k:jh}(r:zq (kV k) u):(va P w).is k u=true:=by
 cases k with
 |inl i=>obtain⟨t,e⟩:=(show ∃t,u=Value.int i t from r);subst e;exact se P w i t
 |inr x=>obtain⟨t,e⟩:=(show ∃t,u=Value.str x t from r);subst e;exact tf P w x t
theorem pN{P:Wt}{w:Wu}:∀{ks:Wz} {us:Wg},zf (ks.map kV) us->ItemsAre (va P w) ks us
 |[],_,r=>by rw[Dq] at r;cases r;exact .nil
 |k::ks,_,r=>by rw[AA] at r;cases r with|cons h t=>exact .cons (pV h)<|pN t
abbrev KT(H:Hp):List (Wz×V)->List (Wz×Addr×Wr)->Prop:=Paired λp q=>p.1=q.1/\H q.2.1=some (.tup<|p.1.map kV)/\zq p.2 q.2.2
def KT.val{xs:List<|Wz×Addr×Wr}(r:KT H kvs xs)(k:Wz):ig (gD kvs k) ((atKey xs k).map (·.2)):=by
 induction r with
 |nil=>exact True.intro
 |@cons p q g I h t U=>
  obtain⟨h1,_,h2⟩:=h;by_cases e:p.1=k
  ·have J:q.1=k:=h1.symm.trans e;have b:atKey (q::I) k=some q.2:=by simp[atKey,BP,J]
   rw[oD e,b];exact h2
  ·have J:¬q.1=k:=λz=>e<|h1.trans z;have b:atKey (q::I) k=atKey I k:=by simp[atKey,BP,J]
   rw[oG e,b];exact U
def KT.repl{xs:List<|Wz×Addr×Wr}(r:KT H kvs xs)(k:Wz){y:V}(J:zq y u):
 KT H (kvs.map λI=>if I.1=k then(I.1,y) else I) (xs.map<|putAt k u):=by
 induction r with
 |nil=>exact .nil
 |@cons p q g j h t U=>
  rw[AA,AA];refine .cons ?_ U;obtain⟨h1,h2,h3⟩:=h;unfold putAt;by_cases e:p.1=k
  ·rw[AD e,AD<|h1.symm.trans e];exact⟨h1,h2,J⟩
  ·rw[AB e,AB λz=>e<|h1.trans z];exact⟨h1,h2,h3⟩
def KT.put{xs:List<|Wz×Addr×Wr}(r:KT H kvs xs)(k:Wz){b:Addr}{y:V}(J:H b=some (.tup<|k.map kV))(I:zq y u):
 KT H (fF kvs k y) (storedH xs k b u):=by
 have e:(kvs.any λU=>decide<|U.1=k)=(atKey xs k).isSome:=by rw[uP,(r.val k).isSome_eq,Option.isSome_map]
 unfold fF storedH;rw[e];by_cases q:(atKey xs k).isSome=true
 ·rw[AD q,AD q];exact r.repl k I
 ·rw[AB q,AB q];exact Paired.snoc r ⟨rfl,J,I⟩
def KT.keeps{xs:List<|Wz×Addr×Wr}(r:KT H kvs xs)(I:∀b ys,H b=some (.tup ys)->H' b=some (.tup ys)):KT H' kvs xs:=
 EY r λ_ _ z=>⟨z.1,I _ _ z.2.1,z.2.2⟩
section
variable {P:Wt}{w:Wu}{a:Addr}
def Ib{u:HO}(ok:eE P w H h)(e:Rd H a u):x9 P w H h a u:=e.ok ok
def yH{kvs:List<|jh×V}(ok:eE P w H h)(e:Rd H a<|.dK kvs):kvs.length<=sizeLine/\(a==sysModules)=false/\∃vs,KV kvs vs/\h.DictOf (va P w) a vs:=
 show x9 P w H h a (.dK kvs) from Ib ok e
def Ic{kvs:List<|jh×V}(ok:eE P w H h)(e:H a=some (.dK kvs)):kvs.length<=sizeLine/\(a==sysModules)=false/\∃vs,KV kvs vs/\h.DictOf (va P w) a vs:=yH ok<|.inl e
def wE{ks:Wz}(ok:eE P w H h)(e:H a=some (.tup<|ks.map kV)):(tupleKind<|va P w).is h ks a:=by obtain⟨_,I,r,o,h1,h2,n,h3⟩:=(show x9 P w H h a (.tup<|ks.map kV) from ok a _ e);exact⟨o,I.toArray,n,h1,h2,h3,by simpa using pN r⟩
def GL(ok:eE P w H h)(e:Rd H a<|.dT kvs):kvs.length<=sizeLine/\(a==sysModules)=false/\
 ∃xs,KT H kvs xs/\h.DictOfH (tupleKind<|va P w) a xs:=by
 obtain⟨z,y,xs,r,o,U,g,h1,h2,h3,j,C⟩:=(show x9 P w H h a (.dT kvs) from Ib ok e);refine⟨z,y,xs,r,o,U,g,h1,h2,h3,j,λx I=>?_,C⟩;have all:∀{l:List<|Wz×V} {m:List<|Wz×Addr×Wr},KT H l m->∀x∈m,(tupleKind<|va P w).is h x.1 x.2.1:=by
  intro l m q
  induction q with
  |nil=>intro x I;exact nomatch I
  |@cons p q ps qs J t T=>
   intro x I;rcases As.mp I with e|I
   ·subst e;exact wE ok (by rw[<-J.1];exact J.2.1)
   ·exact T x I
 exact all r x I
def N5(ok:eE P w H h)(e:H a=some (.dT kvs)):kvs.length<=sizeLine/\(a==sysModules)=false/\
 ∃xs,KT H kvs xs/\h.DictOfH (tupleKind<|va P w) a xs:=GL ok<|.inl e
end
def GN(H:Hp)(a:Addr)(y:V)(r:Wy):Prop:=
 (∃kvs k,Rd H a (.dK kvs)/\y=kV k/\r=gD kvs k)\/∃kvs k b,Rd H a (.dT kvs)/\y=.ref b/\H b=some (.tup<|k.map kV)/\r=gD kvs k
def Ie(H:Hp)(a:Addr)(y v:V)(H':Hp):Prop:=
 (∃kvs k,H a=some (.dK kvs)/\y=kV k/\kvs.length<sizeLine/\H'=upd H a (.dK<|fF kvs k v))\/
 ∃kvs k b,H a=some (.dT kvs)/\y=.ref b/\H b=some (.tup<|k.map kV)/\kvs.length<sizeLine/\H'=upd H a (.dT<|fF kvs k v)
section
variable {a:Addr}{y:V}{r:Wr}{o:Wy}
def qt.big(I:qt X pins σ H s):sysModules<s.heap.objs.size:=by have h:mainGlobals<s.heap.objs.size:=(I.mod.glob.keeps I.bk).lt;exact Dr (by decide) h
def N6(hu:A.units+1<cLine)(I:qt X pins σ H s)(g:GN H a y<|some v)(T:zq y u)(h:∀U s',qt X pins σ H s'->zq v U->Q U s'):
 wpAny (model X.prog X.w) A (getItem (.ref a) u) Q E s:=by
 rcases g with⟨j,k,e,r,l⟩|⟨j,k,b,e,r,eb,l⟩
 ·subst r;obtain⟨z,hd,vs,rel,t⟩:=yH I.hok e;obtain⟨U,hw,J⟩:=E8 (v:=v) (o:=valueAt vs k) (by rw[l];exact rel.val k);exact wpAny_getItem_of (pV T) t.mapOf hw<|h U _ (I.tok _) J
 ·subst r;cases (show u=Value.ref b from T);obtain⟨z,hd,xs,rel,t⟩:=GL I.hok e;obtain⟨U,hw,J⟩:=E8 (v:=v) (o:=(atKey xs k).map (·.2)) (by rw[l];exact rel.val k);obtain⟨p,hp,C⟩:=Aq.mp hw;refine wpAny_getItem_heap (tupleKind_room_in1 hu) (wE I.hok eb) t hp ?_;rw[C];exact h U _ (I.tok _) J
def sG{ob:HO}(I:qt X pins σ H s)(J:Fw<|H a)(hs:Heap.SameBut a s.heap h')(U:∃q,h'.get? a=some q)(new:x9 X.prog X.w (upd H a ob) h' a ob)(j:0<t':=by walk_at "t"):
 qt X pins σ (upd H a ob) {s with heap:=h',toks:=t'}:=
 I.write (x:=a) (e:=a) J (.inl rfl) (λb q g z=>(hs.2 b g).trans z) U new
def Ig{P:Wt}{w:Wu}{kvs:List<|jh×V}{vs:List<|jh×Wr}(z:kvs.length<=sizeLine)(hd:(a==sysModules)=false)(rel:KV kvs vs)(dd:h'.DictOf (va P w) a vs):
 x9 P w H' h' a (.dK kvs):=⟨z,hd,vs,rel,dd⟩
def N7{Q:Wb}(hu:A.units+1<cLine)(I:qt X pins σ H s)(g:Ie H a y v H')(ry:zq y u)(rv:zq v r)(h:∀s',qt X pins σ H' s'->Q () s'):
 wpAny (model X.prog X.w) A (setItem (.ref a) u r) Q E s:=by
 rcases g with⟨J,k,e,o,l,p⟩|⟨J,k,b,e,o,eb,l,p⟩
 ·subst o p;obtain⟨z,hd,vs,rel,t⟩:=Ic I.hok e;have C:vs.length<=sizeLine:=by rw[<-rel.length];exact z
  have T:(fF J k v).length<=sizeLine:=by have:=eV J k v;lia
  refine wpAny_setItem_pairs (hsz:=C) (pV ry) t λh' U hs=>h _ ?_;have he:∃q,h'.get? a=some q:=let ⟨q,_,_,j,_⟩:=U;⟨q,j⟩;exact sG I (by rw[e];exact True.intro) hs he<|Ig T hd (rel.put k rv) U
 ·subst o p;cases (show u=Value.ref b from ry);obtain⟨z,hd,xs,rel,t⟩:=N5 I.hok e;have C:xs.length<=sizeLine:=by rw[<-Paired.length rel];exact z
  have T:(fF J k v).length<=sizeLine:=by have:=eV J k v;lia
  refine wpAny_setItem_heap (hsz:=C) (tupleKind_room_in1 hu) (wE I.hok eb) t λh' U hs=>h _ ?_;obtain⟨q,es,ep,j,h2,h3,h4,_,h5⟩:=U;refine sG I (by rw[e];exact True.intro) hs ⟨q,j⟩ ⟨T,hd,_,(rel.put k eb rv).keeps λc ys ec=>?_,q,es,ep,j,h2,h3,h4,h5⟩;rw[qp<|Mw ec e λz=>nomatch z];exact ec
end
section
variable {a:Addr}{kvs:List<|jh×V}{k:jh}
end
def GO(i:Expr):Prop:=∀I J,subscripted i false I J=operate [I,J] (getItem I J)
def N8{w:Wu}{slice:Expr}{T id:Ww}
 (t:typeLookup (.type T) "__getitem__" = pure (some<|.builtin id)) (hs:GO slice)
 (h:wpAny (model prog w) A (eval value env) (λo U=>wpAny (model prog w) A (eval slice env) (λi I=>I.TypeIs o T/\wpAny (model prog w) A (getItem o i) Q E I) E U) E s):
 wpAny (model prog w) A (eval (.Subscript value slice pos) env) Q E s:=by
 refine Subscript_<|AW h (λo U j=>AW j (λi I J=>?_) λ_ _ x=>x) λ_ _ x=>x;obtain⟨p,J⟩:=J;unfold subscriptTail;refine Aa ?_;rw[getitemInPython_of_ne p.not_modules];refine Aa<|wpAny_specialOf p t ?_;have xt:wpAny (model prog w) A (subscripted slice false o i) (λr g=>wpAny (model prog w) A (letTemporaryGo value o r >>= λ_=>pure r) Q E g) E I:=by rw[hs o i];exact wpAny_operating<|AW J (λr g l=>Aa<|wpAny_letTemporaryGo<|Aj l) λ_ _ x=>x
 first
  |exact Aj<|Aa xt
  |exact Aa<|Aj<|Aa xt
  |exact Aa xt
def ss{a:Addr}{y:V}{o:Wy}(I:qt X pins σ H s)(g:GN H a y o):s.TypeIs (.ref a) "dict" := by
 rcases g with⟨J,k,e,_,_⟩|⟨J,k,b,e,_,_,_⟩
 ·obtain⟨_,_,j,_,U⟩:=yH I.hok e;exact U.typeIs
 ·obtain⟨_,_,l,_,U⟩:=GL I.hok e;exact U.typeIs
def N9(td ty:TE):TE:=λσ H Q=>td σ H λx H1=>ty σ H1 λy H2=>∃a v,x=.ref a/\GN H2 a y (some v)/\Q v H2
def N'(td ty tv:TE):TS:=λD σ H=>tv σ H λv H1=>td σ H1 λx H2=>ty σ H2 λy J=>∃a I,x=.ref a/\Ie J a y v I/\D.nx σ I
section
variable {i:Expr}{tpos:Pos}{td ty tv:TE}
def Oa(p:X.A.units+1<cLine)(r:PE X o td)(hi:PE X i ty)(hs:GO i):PE X (.Subscript o i pos) (N9 td ty):=by intro J s j H Q I h;refine N8 DZ.lookup hs<|az (r J s j H _ I h) λu t x C T rx q1=>wr (hi J t j C _ T q1) λiv s2 ⟨y,H2,l,ry,a,v,ex,g,q2⟩=>?_;subst ex;obtain rfl:u=Value.ref a:=rx;exact⟨ss l g,N6 p l g ry λw' s3 I3 U=>⟨v,H2,I3,U,q2⟩⟩
def Oc(j:X.A.units+1<cLine)(l:PE X o td)(hi:PE X i ty)(p:PE X value tv)(hs:swapsWith value (some<|.Subscript o i fy) pos.line X.env=pure false):
 PS X (.Assign [.Subscript o i fy] value pos) (N' td ty tv):=by
 intro J s U H D I h;refine wpAny_Assign_Subscript (az (p J s U H _ I h) λr t v C T rv q1=>az (l J t U C _ T q1) λu s2 x H2 I2 rx q2=>wr (hi J s2 U H2 _ I2 q2) λiv s3 ⟨y,H3,I3,ry,a,H4,ex,g,q3⟩=>?_) hs;subst ex;obtain rfl:u=Value.ref a:=rx;exact N7 j I3 g ry rv λs4 I4=>⟨U,H4,I4,q3⟩
end
def tW{P:Wt}{w:Wu}(h:Wv)(I:sysModules<h.objs.size):x9 P w H (h.push {cls:=.type "dict",data:=.dict #[]}) h.objs.size (.dK []):=
 ⟨A1 _,beq_eq_false_iff_ne.mpr<|AH<|A3 I,[],.nil,Heap.DictOf.new h⟩
def Od:TE:=λ_ H Q=>∀p,H p=none->Q (.ref p) (upd H p<|.dK [])
def Oe:PE X (.Dict [] [] pos) Od:=λJ s U H Q I h=>
 wpAny_Dict_empty ⟨.ref s.heap.objs.size,_,I.laid (a:=s.heap.objs.size) (o:=.dK []) (t':=s.toks) (λ_ _ q=>wh _ q) (An _)<|tW s.heap I.big,rfl,h _<|I.hok.fresh<|An _⟩
def qX:List (TE×TE)->St->Hp->(List (V×V)->Hp->Prop)->Prop
 |[],_,H,Q=>Q [] H
 |(tk,tv)::r,σ,H,Q=>tk σ H λx H1=>tv σ H1 λy H2=>qX r σ H2 λps I=>Q ((x,y)::ps) I
abbrev VV:List (V×V)->List (Wr×Wr)->Prop:=Paired λp q=>zq p.1 q.1/\zq p.2 q.2
def Fz(X:Cx)(pos:Pos)(keys:List<|Option Expr)(values:Wk)(I:List<|TE×TE):Prop:=
 ∀(pins:List<|Addr×Obj) (s:Ws) (σ:St) (H:Hp) (Q:List (V×V)->Hp->Prop),qt X pins σ H s->qX I σ H Q->
  wpAny (model X.prog X.w) X.A (evalPairs<|pairTrees keys values X.env pos) (λvs s'=>∃ps H',qt X pins σ H' s'/\VV ps vs/\Q ps H') X.xe s
def Of :Fz X pos [] [] []:=λJ s U H Q I h=>pairTrees_nil_walk ⟨[],H,I,.nil,h⟩
def iP{k v:Expr}{ks:List<|Option Expr}{vs:Wk}{tk tv:TE}{U:List<|TE×TE}(j:PE X k tk)(l:PE X v tv)(o:Fz X pos ks vs U):
 Fz X pos (some k::ks) (v::vs) ((tk,tv)::U):=λJ s g H Q I h=>
 pairTrees_cons_walk (az (j J s g H _ I h) λu p x r t C T=>az (l J p g r _ t T) λw2 s2 y H2 I2 ry q2=>
  wr (o J s2 g H2 _ I2 q2) λws s3 ⟨ps,H3,I3,rel,q3⟩=>⟨(x,y)::ps,H3,I3,.cons ⟨C,ry⟩ rel,q3⟩)
def jA(kvs more:List<|jh×V):List (jh×V):=more.foldl (λI J=>fF I J.1 J.2) kvs
def KV.merge:∀{more:List<|jh×V} {I:List<|jh×Wr} {kvs:List<|jh×V} {vs:List<|jh×Wr},KV more I->KV kvs vs->KV (jA kvs more) (merged vs I):=by
 intro more I kvs vs r;unfold KV at r
 induction r generalizing kvs vs with
 |nil=>intro q;exact q
 |@cons p q g j h t J=>
  intro U;have e:KV (fF kvs p.1 p.2) (stored vs q.1 q.2):=by have:=U.put p.1 h.2;rw[<-h.1];exact this
  exact J e
theorem fq:∀(more kvs:List<|jh×V),(jA kvs more).length<=kvs.length+more.length
 |[],kvs=>by show kvs.length<=kvs.length+0;lia
 |p::r,kvs=>by have h1:=fq r<|fF kvs p.1 p.2;have h2:=eV kvs p.1 p.2;show(jA (fF kvs p.1 p.2) r).length<=_;rw[AL];lia
theorem nH{P:Wt}{w:Wu}:∀{kvs:List<|jh×V} {J:List<|Wr×Wr},VV (kvs.map λU=>(kV U.1,U.2)) J->∃I,Carries (va P w) J I/\KV kvs I
 |[],_,r=>by rw[Dq] at r;cases r;exact⟨[],True.intro,.nil⟩
 |p::kvs,_,r=>by
  rw[AA] at r;cases r with
  |@cons a b as bs h t=>
   obtain⟨I,c,q⟩:=nH (P:=P) (w:=w) t;obtain⟨b1,b2⟩:=b;exact⟨(p.1,b2)::I,⟨pV h.1,rfl,c⟩,.cons ⟨rfl,h.2⟩ q⟩
def Og(I:List<|TE×TE):TE:=λσ H Q=>∀p,H p=none->qX I σ (upd H p<|.dK []) λps H2=>H2 p=some (.dK [])/\∃kvs:List (jh×V),ps=kvs.map (λJ=>(kV J.1,J.2))/\kvs.length<=15/\Q (.ref p) (upd H2 p<|.dK<|jA [] kvs)
def Oh{keys:List<|Option Expr}{values:Wk}{J:List<|TE×TE}(h:Fz X pos keys values J)(U:keys.all (·.isSome)=true)(t:keys.length=values.length)(h0:keys≠[])
 (p:keys.length<=15):PE X (.Dict keys values pos) (Og J):=by
 intro g s C H Q I q;have T:=I.hok.fresh<|An s.heap.objs.size;have I1:=I.laid (a:=s.heap.objs.size) (o:=.dK []) (h':=s.heap.push {cls:=.type "dict",data:=.dict #[]}) (t':=s.toks) (λ_ _ q=>wh _ q) (An _)<|tW s.heap I.big;refine wpAny_Dict_walk (knd:=va X.prog X.w) U t h0 p<|wr (h g _ C _ _ I1<|q _ T) λws s2 ⟨ps,H2,r,rel,e,j,ep,lk,q2⟩=>?_;subst ep;obtain⟨rs,c,rk⟩:=nH (P:=X.prog) (w:=X.w) rel;obtain⟨z,hd,a1,r0,dd⟩:=Ic r.hok e;cases r0;refine⟨rs,c,dd,λh' l hs=>⟨.ref s.heap.objs.size,_,?_,rfl,q2⟩⟩;have hz:(jA [] j).length<=sizeLine:=by have h1:=fq j [];rw[List.length_nil] at h1;rw[sizeLine_eq];lia
 have he:∃q,h'.get? s.heap.objs.size=some q:=let ⟨q,_,_,hq,_⟩:=l;⟨q,hq⟩;exact sG r (by rw[e];exact True.intro) hs he<|Ig hz hd (rk.merge .nil) l
section
variable {a:Addr}{y d:V}{r:Wr}{o:Wy}
end
section
variable {f:Expr}{td ty tx:TE}
end
section
variable {a:Addr}{kvs:List<|jh×V}
end
section
variable {a:Addr}{y:V}
end
end L2
namespace HT
open PySem PyProof.Rows
section
open PySem.SeqAt
open PySem.AutoSeq1 (wpAny_loadPart')
open PySem.MeetsSeq PySem.MeetsSeq2 PySem.MeetsSeq3
end
section
variable {w:Wu}
def sIx(n d:Nat):Wo->Nat
 |none=>d
 |some v=>if v<0 then(v+(n:Int)).toNat else min v.toNat n
def sIx_none(n d:Nat):sIx n d none=d:=rfl
def sIx_nat(n d k:Nat):sIx n d (some (k:Int))=min k n:=by show(if (k:Int)<0 then((k:Int)+(n:Int)).toNat else min (k:Int).toNat n)=min k n;rw[AB (by lia),Cw]
def sIx_le(n d:Nat)(hd:d<=n)(o:Wo):sIx n d o<=n:=by
 cases o with
 |none=>exact hd
 |some v=>
  show(if v<0 then(v+(n:Int)).toNat else min v.toNat n)<=n;by_cases I:v<0
  ·rw[AD I];lia
  ·rw[AB I];exact Nat.min_le_right _ _
def yZ(v:Int)(n d:Nat):(if v<0 then max (v+(n:Int)) 0 else min v (n:Int))=((sIx n d (some v):Nat):Int):=by
 show(if v<0 then max (v+(n:Int)) 0 else min v (n:Int))=(((if v<0 then(v+(n:Int)).toNat else min v.toNat n):Nat):Int);by_cases I:v<0
 ·simp only[AD I];lia
 ·simp only[AB I];lia
def xR(lo hi:Wo)(n:Nat):Builtin.Slice.sliceAdjust lo hi 1 (n:Int)=(((sIx n 0 lo:Nat):Int),(sIx n n hi:Int)):=by
 have h1:¬((1:Int)<0):=by lia
 unfold Builtin.Slice.sliceAdjust;simp only[h1,if_false];refine DR ?_ ?_
 ·cases lo with|none=>rfl|some v=>exact yZ v n 0
 ·cases hi with|none=>rfl|some v=>exact yZ v n n
def wP(i j:Nat):Builtin.Slice.slicePlaces (i:Int) (j:Int) 1=j-i:=by
 unfold Builtin.Slice.slicePlaces;have h1:(1:Int) > 0:=by lia
 simp only[h1,if_true,Int.ediv_one];split<;>lia
def mM{v:Wr}{o:Wo}{Q:Wo->Ws->Prop}(p:IsPart v o)(h:Q o s):wpAny (model prog w) A (Builtin.Slice.slicePartIndex v) Q E s:=by cases p with|none=>exact slicePart_none h|int i t=>exact slicePart_int h
def i4{j:Addr}{U g:Wr}{lo hi:Wo}{Q:Int×Int×Nat->Ws->Prop}(hs:s.heap.IsSliceOf j U g .none)(l:IsPart U lo)(o:IsPart g hi)
 (h:Q (((sIx n 0 lo:Nat):Int),1,sIx n n hi-sIx n 0 lo) s):wpAny (model prog w) A (Builtin.Slice.sliceApplied (.ref j)<|pure (n:Int)) Q E s:=by
 obtain⟨os,I,p,J⟩:=id hs;unfold Builtin.Slice.sliceApplied Builtin.Slice.sliceFields;refine Aa<|Aa<|Ba I J (x:=U) rfl<|Aa<|Ba I J (x:=g) rfl<|Aa<|Ba I J (x:=.none) rfl<|Aj ?_;refine Aa<|slicePart_none ?_;show wpAny _ _ (if ((1:Int)==0)=true then _ else _) _ _ s;rw[AB (by decide)];refine Aa<|mM l<|Aa<|mM o<|Aa<|Aj ?_;show wpAny _ _ (match Builtin.Slice.sliceAdjust lo hi 1 (n:Int) with|(lo,hi)=>pure (lo,(1:Int),Builtin.Slice.slicePlaces lo hi 1)) _ _ s;rw[xR lo hi n];show wpAny _ _ (pure (((sIx n 0 lo:Nat):Int),(1:Int),Builtin.Slice.slicePlaces ((sIx n 0 lo:Nat):Int) (sIx n n hi:Int) 1)) _ _ s;rw[wP];exact Aj h
def Oi(xs:Wh)(i k:Nat):((List.range k).filterMap λ(m:Nat)=>xs[((i:Int)+(m:Int)*1).toNat]?).toArray=((xs.toList.drop i).take k).toArray:=by
 have e:(λ(m:Nat)=>xs[((i:Int)+(m:Int)*1).toNat]?)=λm=>xs[i+m]?:=by
  funext m;have:((i:Int)+(m:Int)*1).toNat=i+m:=by lia
  rw[this]
 rw[e];have:=pick_run xs i k;rw[List.filterMap_map] at this;have I:((λx=>xs[x]?)∘λx=>i+x)=λm=>xs[i+m]?:=rfl;rw[I] at this;rw[this]
def getItem_tuple_cut{t U:Addr}{items:Wh}{p r:Wr}{lo hi:Wo}(J:IsTup s.heap t items)(hs:s.heap.IsSliceOf U p r .none)(C:IsPart p lo)(T:IsPart r hi)
 (hw:¬(sIx items.size 0 lo=0/\sIx items.size items.size hi=items.size))
 (h:Q (.ref s.heap.objs.size) {s with heap:=s.heap.push {cls:=.type "tuple",data:=.seq ((items.toList.drop<|sIx items.size 0 lo).take<|sIx items.size items.size hi-sIx items.size 0 lo).toArray}})
 (hsz:items.size<=sizeLine):wpAny (model prog w) A (getItem (.ref t)<|.ref U) Q E s:=by
 have I:sizeOk (.seq ((items.toList.drop<|sIx items.size 0 lo).take<|sIx items.size items.size hi-sIx items.size 0 lo).toArray):=by show((items.toList.drop<|sIx items.size 0 lo).take<|sIx items.size items.size hi-sIx items.size 0 lo).toArray.size<=sizeLine;rw[Ap,AX,BS,A2];lia
 have hj:sIx items.size items.size hi<=items.size:=sIx_le _ _ (An _) hi;obtain⟨os,g,j,a1⟩:=id hs;have l:s.TypeIs (.ref U) "slice" := ⟨os,g,j⟩;unfold getItem
 try with_reducible refine Bf ?_
 first|refine Aa (Aj ?_)|skip
 refine Aa<|wpAny_sequenceKey J.typeIs (by decide) ?_;refine Aa (wpAny_callSpecial?_slot (name:=Str.ofString "__getitem__") J.typeIs CB
  (wpAny_call_entry CB J.typeIs entry_tuple_getitem ?_<|args_tuple_getitem _ _))
 show wpAny _ _ (Builtin.Tuple.tupleItemsOf (.ref t) >>= _) _ _ s;refine Aa<|tupleItemsOf_ J ?_;refine Aa<|wpAny_typeOf l ?_;rw[AD (by decide)];refine Aa<|i4 hs C T ?_;have o:¬((((sIx items.size 0 lo:Nat):Int)==0&&(1:Int)==1&&(sIx items.size items.size hi-sIx items.size 0 lo)==items.size)=true):=by intro q;rw[AS,AS] at q;have q1:((sIx items.size 0 lo:Nat):Int)=0:=eq_of_beq q.1.1;have q2:sIx items.size items.size hi-sIx items.size 0 lo=items.size:=eq_of_beq q.2;exact hw ⟨by lia,by lia⟩
 show wpAny _ _ (if (((sIx items.size 0 lo:Nat):Int)==0&&(1:Int)==1&&(sIx items.size items.size hi-sIx items.size 0 lo)==items.size)=true then _ else _) _ _ s;rw[AB o,Oi]
 first
  |exact Aa (m:=Builtin.Tuple.tupleExact _)<|Bo (Aj ⟨_,rfl,Aj h⟩) I
  |exact Aa (m:=Builtin.Tuple.tupleExact _)<|Bo (Aa<|Aj<|Aj ⟨_,rfl,Aj h⟩) I
  |exact Aa<|Aa (m:=Builtin.Tuple.tupleExact _)<|Bo (Aj<|Aj ⟨_,rfl,Aj h⟩) I
  |exact Aa<|Aa (m:=Builtin.Tuple.tupleExact _)<|Bo (Aj ⟨_,rfl,Aj h⟩) I
end
end HT
namespace L2
open PySem PySem.Spec PyProof.Rows
abbrev TO:=St->Hp->(Wo->Hp->Prop)->Prop
def PO(X:Cx)(e:Option Expr)(t:TO):Prop:=
 ∀(pins:List<|Addr×Obj) (s:Ws) (σ:St) (H:Hp) (Q:Wo->Hp->Prop),qt X pins σ H s->t σ H Q->
  wpAny (model X.prog X.w) X.A (evalPart e X.env) (λu s'=>∃o H',qt X pins σ H' s'/\IsPart u o/\Q o H') X.xe s
def Oj:TO:=λ_ H Q=>Q none H
def Ol(t:TE):TO:=λσ H Q=>t σ H λx H1=>∃i,x=.int i/\Q (some i) H1
section
variable {te:TE}{lo hi:Option Expr}{tl th:TO}
def Om:PO X none Oj:=by intro J s U H Q I h;rw[evalPart_none];exact Aj ⟨none,H,I,.none,h⟩
def Oo(h:PE X e te):PO X (some e) (Ol te):=by intro J s U H Q I hw;rw[evalPart_some];refine az (h J s U H _ I hw) λu p x g j l o=>?_;obtain⟨i,rfl,q⟩:=o;obtain⟨t,rfl⟩:=l;exact⟨some i,g,j,.int i t,q⟩
def sM(X:Cx)(r:V->Wo->Wo->Hp->VK->Prop):Prop:=
 ∀(pins:List<|Addr×Obj) (s:Ws) (σ:St) (H:Hp) (x:V) (v I J:Wr) (lo hi:Wo) (U:Addr) (Q:VK),qt X pins σ H s->zq x v->s.heap.IsSliceOf U I J .none->IsPart I lo->IsPart J hi->r x lo hi H Q->
  ∃T id,typeLookup (.type T) "__getitem__" = pure (some<|.builtin id)/\s.TypeIs v T/\wpAny (model X.prog X.w) X.A (getItem v<|.ref U) (EP X pins σ Q) X.xe s
def sM.or{U:V->Wo->Wo->Hp->VK->Prop}(h:sM X r)(h':sM X U):sM X (λx lo hi H Q=>r x lo hi H Q\/U x lo hi H Q):=by
 intro J s g H x v j l lo hi o Q I p t C T q;rcases q with q|q
 ·exact h J s g H x v j l lo hi o Q I p t C T q
 ·exact h' J s g H x v j l lo hi o Q I p t C T q
def Op(r:V->Wo->Wo->Hp->VK->Prop)(te:TE)(tl th:TO):TE:=λσ H Q=>te σ H λx H1=>tl σ H1 λl H2=>th σ H2 λu I=>r x l u I Q
def Oq(t:sM X r)(C:PE X e te)(hl:PO X lo tl)(hu:PO X hi th):PE X (.Subscript e (.Slice lo hi none p2) pos) (Op r te tl th):=by intro J s g H Q I h;refine Subscript_<|wr (C J s g H _ I h) λv s1 ⟨x,H1,I1,r1,q1⟩=>?_;refine wpAny_Slice<|wr (hl J s1 g H1 _ I1 q1) λj s2 ⟨l,H2,I2,pl,q2⟩=>wr (hu J s2 g H2 _ I2 q2) λo U ⟨u,p,I3,pu,q3⟩=>?_;rw[evalPart_none];refine Aj ?_;have I4:qt X J g p {U with heap:=U.heap.push {cls:=.type "slice",data:=.fields #[j,o,.none]}}:=I3.kept (t':=U.toks) λb ob q=>wh _ q;obtain⟨T,id,hT,ht,hg⟩:=t J {U with heap:=U.heap.push {cls:=.type "slice",data:=.fields #[j,o,.none]}} g p x v j o l u U.heap.objs.size Q I4 r1 (Heap.IsSliceOf.new ..) pl pu q3;show wpAny (model X.prog X.w) X.A (subscriptTail e (.Slice lo hi none p2) v<|.ref U.heap.objs.size) (EP X J g Q) X.xe {U with heap:=U.heap.push {cls:=.type "slice",data:=.fields #[j,o,.none]}};exact tail_any (ops:=[.ref U.heap.objs.size,v]) ht hT hg (by with_unfolding_all rfl)
def uC(xs:Wx)(lo hi:Wo):Wx:=(xs.drop<|HT.sIx xs.length 0 lo).take<|HT.sIx xs.length xs.length hi-HT.sIx xs.length 0 lo
def kM(xs:Wx)(lo hi:Wo):(uC xs lo hi).length<=xs.length:=by unfold uC;rw[AX,BS];lia
def Ot(K:Af):V->Wo->Wo->Hp->VK->Prop:=λx lo hi H Q=>∃a xs,x=.ref a/\dz K H a xs/\
 ¬(HT.sIx xs.length 0 lo=0/\HT.sIx xs.length xs.length hi=xs.length)/\∀p,H p=none->Q (.ref p) (upd H p<|.tup<|uC xs lo hi)
def Ou:sM X (Ot X.K):=by
 rintro l s σ H x v vl vu lo g sl Q I C T pl pu⟨a,U,rfl,hx,hw,q⟩;cases C;obtain⟨j,r,p,t⟩:=I.tuple hx;have J:j.toArray.size=U.length:=by rw[Ap];exact r.length.symm
 refine⟨"tuple",_,CB.lookup,p.typeIs,?_⟩;refine HT.getItem_tuple_cut p T pl pu (by rw[J];exact hw) ?_ (by rw[J];exact t);rw[J];refine⟨.ref s.heap.objs.size,_,I.laid (t':=s.toks) (o:=.tup<|uC U lo g) (λb ob q=>wh _ q) (An _) ?_,rfl,q _<|I.hok.fresh<|An _⟩;exact⟨AM (kM U lo g) t,_,(r.drop<|HT.sIx U.length 0 lo).take<|HT.sIx U.length U.length g-HT.sIx U.length 0 lo,IsTup.new _ _⟩
end
def sO(n:Nat)(i:Int):Option Nat:=if 0<=i then(if i<n then some i.toNat else none) else if -(n:Int)<=i then some (i+n).toNat else none
def eI(xs:List α)(i:Int):Option α:=(sO xs.length i).bind λj=>xs[j]?
def zI{i:Int}(h:sO n i=some j):seqIndex? i n=some j/\j<n /\ -(n:Int)<=i/\i<n:=by
 unfold sO at h;by_cases h0:0<=i
 ·rw[AD h0] at h;by_cases h1:i<n
  ·rw[AD h1] at h;have e:i.toNat=j:=AZ h;exact⟨by rw[seqIndex_of h0 h1,e],by lia,by lia,h1⟩
  ·rw[AB h1] at h;cases h
 ·rw[AB h0] at h;by_cases h1 : -(n:Int)<=i
  ·rw[AD h1] at h;have e:(i+n).toNat=j:=AZ h;exact⟨by rw[seqIndex_neg (by lia) h1,e],by lia,h1,by lia⟩
  ·rw[AB h1] at h;cases h
def rG{xs:List α}{i:Int}{v:α}(h:eI xs i=some v):∃j,seqIndex? i xs.length=some j/\xs[j]?=some v/\j<xs.length /\ -(xs.length:Int)<=i/\i<xs.length:=by
 unfold eI at h;cases e:sO xs.length i with
 |none=>rw[e] at h;cases h
 |some j=>
  rw[e] at h;obtain⟨h1,h2,h3,I⟩:=zI e;exact⟨j,h1,h,h2,h3,I⟩
def x5{xs:List α}{v:α}(h:xs[j]?=some v):eI xs (j:Int)=some v:=by
 have I:j<xs.length:=(AI.mp h).1;have e:sO xs.length (j:Int)=some j:=by unfold sO;rw[AD (by lia),AD (by lia)];simp
 unfold eI;rw[e];exact h
def rJ(b:Expr):Prop:=∀o i,subscripted b false o i=operate [o,i] (getItem o i)
def IxR(X:Cx)(r:R2):Prop:=
 ∀(value slice:Expr) (pins:List<|Addr×Obj) (s:Ws) (σ:St) (H:Hp) (x y:V) (v u:Wr) (Q:VK),qt X pins σ H s->zq x v->zq y u->r x y H Q->
  subscripted slice false v u=operate [v,u] (getItem v u)->wpAny (model X.prog X.w) X.A (subscriptTail value slice v u) (EP X pins σ Q) X.xe s
def Ih(X:Cx)(id:Ww)(r:V->Wx->Hp->VK->Prop):Prop:=
 ∀(pins:List<|Addr×Obj) (s:Ws) (σ:St) (H:Hp) (x:V) (xs:Wx) (v:Wr) (us:Wg) (Q:VK),qt X pins σ H s->zq x v->zf xs us->r x xs H Q->
  wpAny (model X.prog X.w) X.A (call (.builtin id)<|v::us) (EP X pins σ Q) X.xe s
section
variable {a b:Expr}{ta tb:TE}
def Ov{r:R2}(U:IxR X r)(g:PE X a ta)(j:PE X b tb)(hs:rJ b):PE X (.Subscript a b pos) (Fx r ta tb):=by intro J s l H Q I h;exact Subscript_<|GG g j I h λv u o x y p t C T q=>U a b J o l p x y v u Q t C T q<|hs _ _
def Ow(K:Af):R2:=λx y H Q=>∃p xs i v,x=.ref p/\y=.int i/\aF K H p xs/\eI xs i=some v/\Q v H
def Ox(K:Af):R2:=λx y H Q=>∃p xs i v,x=.ref p/\y=.int i/\dz K H p xs/\eI xs i=some v/\Q v H
def Oy:R2:=λx y H Q=>∃z i c,x=.str z/\y=.int i/\z.length<=sizeLine/\eI z.cps.toList i=some c/\Q (.str ⟨#[c]⟩) H
def Oz:IxR X (Ow X.K):=by
 intro value slice J s C H x y v u Q I rx ry h T;obtain⟨p,xs,i,z,rfl,rfl,hq,he,q⟩:=h;cases rx;obtain⟨t,rfl⟩:=ry;obtain⟨U,r,g,hz⟩:=I.list hq;obtain⟨j,h1,h2,h3,h4,h5⟩:=rG he;obtain⟨w,ew,l⟩:=r.get h2;have hl:=r.length;have hn:=jG;have xt:EP X J C Q w s:=⟨z,H,I,l,q⟩;by_cases h0:0<=i
 ·have o:i.toNat=j:=by rw[seqIndex_of h0 h5] at h1;exact AZ h1
  exact item_listR g.isList h0 (by lia) (by rw[o];simpa using ew) xt T
 ·have o:(i+(U.toArray.size:Int)).toNat=j:=by rw[seqIndex_neg (by lia) h4] at h1;rw[Ap,<-hl];exact AZ h1
  exact subscriptTail_builtinR (x:=w) g.isList.typeIs slot_list_getitem.lookup
   (wpAny_getItem_list_neg (Q:=λr s'=>r=w/\EP X J C Q r s') g.isList (by lia) (by rw[Ap]<;>lia) (by lia) (by rw[o];simpa using ew) ⟨rfl,xt⟩) T
def OA:IxR X (Ox X.K):=by
 intro value slice J s g H x y v u Q I o C h T;obtain⟨p,xs,i,z,rfl,rfl,hq,he,q⟩:=h;cases o;obtain⟨t,rfl⟩:=C;obtain⟨a1,r,l,hz⟩:=I.tuple hq;obtain⟨j,h1,h2,h3,h4,h5⟩:=rG he;obtain⟨w,ew,U⟩:=r.get h2;have hl:=r.length;have hn:=jG;have xt:EP X J g Q w s:=⟨z,H,I,U,q⟩;exact subscriptTail_builtinR (x:=w) l.typeIs slot_tuple_getitem.lookup
  (getItem_tuple (j:=j) (Q:=λr s'=>r=w/\EP X J g Q r s') l (by lia) (by lia) (by rw[Ap,<-hl];exact h1) (by simpa using ew) ⟨rfl,xt⟩) T
def OB:IxR X Oy:=by
 intro value slice J s σ H x y v u Q I U g h l;obtain⟨z,i,c,rfl,rfl,hz,o,q⟩:=h;obtain⟨t,rfl⟩:=U;obtain⟨t',rfl⟩:=g;obtain⟨j,h1,h2,h3,p,r⟩:=rG o;have C:z.cps.toList.length=z.length:=by simp[Str.length]
 rw[C] at h1 p r;have hn:=jG;exact tail_any (typeIs_str s z t) slot_str_getitem.lookup (getItem_str (c:=c) (by have T:decide (i < -(2 ^ 63:Int))=false:=Au (by lia);have e2:decide (i>=2 ^ 63)=false:=Au (by lia);rw[T,e2,Bool.or_false]) (by rw[h1];simpa using h2) ⟨.str ⟨#[c]⟩,H,I.tok _,⟨_,rfl⟩,q⟩) l
def xF(eA:Wg)(n j:Nat)(u:Wr):Obj.mapSeq (·.setIfInBounds j u) {cls:=.type "list",data:=.seq eA.toArray n}={cls:=.type "list",data:=.seq (eA.set j u).toArray n}:=by simp[Obj.mapSeq]
def qt.lst{p:Addr}(I:qt X pins σ H s)(h:H p=some (.lst xs)):
 ∃(eA:Wg) (n:Nat),zf xs eA/\s.heap.get? p=some {cls:=.type "list",data:=.seq eA.toArray n}/\xs.length<=sizeLine:=by
 obtain⟨z,eA,n,r,e⟩:=I.hok p _ h;exact⟨eA,n,r,e,z⟩
def qt.lstUpd{p:Addr}{ys:Wx}{its':Wg}{J:Nat}{f:Obj->Obj}(I:qt X pins σ H s)(h:H p=some (.lst xs))
 (g:s.heap.get? p=some {cls:=.type "list",data:=.seq eA.toArray n}) (U:f {cls:=.type "list",data:=.seq eA.toArray n}={cls:=.type "list",data:=.seq its'.toArray J}) (r:zf ys its') (hz:ys.length<=sizeLine) (t:Nat) (l:0<t:=by walk_at "t"):
 qt X pins σ (upd H p<|.lst ys) {s with heap:=s.heap.update p f,toks:=t}:=by
 have e:(s.heap.update p f).get? p=some {cls:=.type "list",data:=.seq its'.toArray J}:=by rw[Fh f g (by rw[U]<;>rfl),U]
 refine I.write (x:=p) (e:=p) (by rw[h];trivial) (.inl rfl) (λb u j q=>(Heap.get?_update_other _ _<|AH j).trans q) ⟨_,e⟩ ?_;exact⟨hz,its',J,r,e⟩
def OC:V->V->V->Hp->(Hp->Prop)->Prop:=λo i v H Q=>∃p xs k j,o=.ref p/\i=.int k/\H p=some (.lst xs)/\sO xs.length k=some j/\Q (upd H p<|.lst<|xs.set j v)
def uh:HR X OC:=by
 rintro J s σ H o i v ov iv u Q I ro ri rv⟨p,xs,k,j,rfl,rfl,T,hj,q⟩;cases ro;obtain⟨t,rfl⟩:=ri;obtain⟨U,n,r,g,hz⟩:=I.lst T;obtain⟨h1,h2,h3,h4⟩:=zI hj;have l:=r.length;have hn:=jG;have I':qt X J σ (upd H p<|.lst<|xs.set j v) {s with heap:=s.heap.update p (Obj.mapSeq (·.setIfInBounds j u))}:=
  I.lstUpd T g (xF U n j u) (r.set rv j) (by rw[Bs];exact hz) s.toks
 by_cases h0:0<=k
 ·have C:k.toNat=j:=by rw[seqIndex_of h0 h4] at h1;exact AZ h1
  exact PySem.W.ki_setAt g h0 (by lia) (by rw[Ap,<-l];exact h4) (by rw[C];exact⟨_,I',q⟩)
 ·have C:(k+(U.toArray.size:Int)).toNat=j:=by rw[seqIndex_neg (by lia) h3] at h1;rw[Ap,<-l];exact AZ h1
  exact PySem.W.ki_setBack g (by lia) (by rw[Ap,<-l];exact h3) (by lia) (by rw[C];exact⟨_,I',q⟩)
def rP(lo hi:Wo)(n:Nat):(sliceBounds lo hi none n).1=((HT.sIx n 0 lo:Nat):Int)/\(sliceBounds lo hi none n).2.1=((HT.sIx n n hi:Nat):Int)/\(sliceBounds lo hi none n).2.2=1:=by
 refine⟨?_,?_,rfl⟩
 ·cases lo with
  |none=>simp[sliceBounds,HT.sIx]
  |some i=>
   simp only[sliceBounds,HT.sIx,Option.getD_none,show(1:Int) > 0 by decide,if_true];by_cases h:i<0
   ·simp only[h,if_true]<;>lia
   ·simp only[h,if_false]<;>lia
 ·cases hi with
  |none=>simp[sliceBounds,HT.sIx]
  |some i=>
   simp only[sliceBounds,HT.sIx,Option.getD_none,show(1:Int) > 0 by decide,if_true];by_cases h:i<0
   ·simp only[h,if_true]<;>lia
   ·simp only[h,if_false]<;>lia
def oq(eA:Wg)(lo hi:Wo):slicePick eA.toArray lo hi none=((eA.drop<|HT.sIx eA.length 0 lo).take<|HT.sIx eA.length eA.length hi-HT.sIx eA.length 0 lo).toArray:=by obtain⟨h1,h2,h3⟩:=rP lo hi eA.toArray.size;unfold slicePick;rw[h1,h2,h3];simp only[sliceRange_one,pick_run,Ap]<;>rfl
def OD(K:Af):V->Wo->Wo->Hp->VK->Prop:=λx lo hi H Q=>∃a xs,x=.ref a/\aF K H a xs/\∀p,H p=none->Q (.ref p) (upd H p<|.lst<|uC xs lo hi)
def OE:sM X (OD X.K):=by rintro j s σ H x v vl vu lo g sl Q I p t C T⟨a,J,rfl,hx,q⟩;cases p;obtain⟨a1,r,l,hz⟩:=I.list hx;have U:=r.length;refine⟨"list",_,slot_list_getitem.lookup,l.isList.typeIs,?_⟩;refine wpAny_getItem_list_slice l.isList t C T .none (by simp) ?_ (by rw[Ap]<;>lia);rw[oq,<-U];refine⟨.ref s.heap.objs.size,_,I.laid (t':=s.toks) (o:=.lst<|uC J lo g) (λb ob q=>wh _ q) (An _) ?_,rfl,q _<|I.hok.fresh<|An _⟩;exact⟨AM (kM J lo g) hz,_,0,(r.drop<|HT.sIx J.length 0 lo).take<|HT.sIx J.length J.length g-HT.sIx J.length 0 lo,ya _ rfl⟩
def au:V->Bool
 |.non=>true
 |.bl _=>true
 |.int _=>true
 |.str _=>true
 |_=>false
def gZ:V->V->Bool
 |.non,.non=>true
 |.bl a,.bl b=>a==b
 |.bl a,.int b=>(if a then 1 else 0)==b
 |.int a,.bl b=>a==(if b then 1 else 0)
 |.int a,.int b=>a==b
 |.str a,.str b=>a==b
 |_,_=>false
def mW{y x:V}{v:Wr}(U:zq y u)(I:zq x v)(j:au y=true)(g:au x=true):SeqAt.EqAt A s u v (gZ y x):=by
 cases y with
 |non=>
  cases U;cases x with
  |non=>cases I;exact SeqAt.EqAt.same _
  |bl b=>cases I;exact SeqAt.EqAt.none_bool b
  |int b=>obtain⟨t,rfl⟩:=I;exact SeqAt.EqAt.none_int b t
  |str b=>obtain⟨t,rfl⟩:=I;exact SeqAt.EqAt.none_str b t
  |_=>exact absurd (show false=true from g) AG
 |bl a=>
  cases U;cases x with
  |non=>cases I;exact SeqAt.EqAt.bool_none a
  |bl b=>cases I;exact SeqAt.EqAt.bool_bool a b
  |int b=>obtain⟨t,rfl⟩:=I;exact SeqAt.EqAt.bool_int a b t
  |str b=>obtain⟨t,rfl⟩:=I;exact SeqAt.EqAt.bool_str a b t
  |_=>exact absurd (show false=true from g) AG
 |int a=>
  obtain⟨J,rfl⟩:=U;cases x with
  |non=>cases I;exact SeqAt.EqAt.int_none a J
  |bl b=>cases I;exact SeqAt.EqAt.int_bool a J b
  |int b=>obtain⟨t,rfl⟩:=I;exact SeqAt.EqAt.int_int a J b t
  |str b=>obtain⟨t,rfl⟩:=I;exact SeqAt.EqAt.int_str a J b t
  |_=>exact absurd (show false=true from g) AG
 |str a=>
  obtain⟨J,rfl⟩:=U;cases x with
  |non=>cases I;exact SeqAt.EqAt.str_none a J
  |bl b=>cases I;exact SeqAt.EqAt.str_bool a J b
  |int b=>obtain⟨t,rfl⟩:=I;exact SeqAt.EqAt.str_int a J b t
  |str b=>obtain⟨t,rfl⟩:=I;exact SeqAt.EqAt.str_str a J b t
  |_=>exact absurd (show false=true from g) AG
 |_=>exact absurd (show false=true from j) AG
def vQ(x:V)(u:Wr):Bool:=match u with
 |.none=>gZ .non x
 |.bool b=>gZ (.bl b) x
 |.int i _=>gZ (.int i) x
 |.str z _=>gZ (.str z) x
 |_=>false
def Ii{x y:V}(r:zq y u)(f:au y=true):vQ x u=gZ y x:=by
 cases y with
 |non=>cases r;rfl
 |bl b=>cases r;rfl
 |int i=>obtain⟨t,rfl⟩:=r;rfl
 |str z=>obtain⟨t,rfl⟩:=r;rfl
 |_=>exact absurd (show false=true from f) AG
theorem iD{x:V}:∀{xs:Wx} {us:Wg},zf xs us->xs.all au=true->us.any (vQ x)=xs.any λy=>gZ y x
 |_,_,.nil,_=>rfl
 |y::xs,u::us,.cons r t,f=>by rw[C7,AS] at f;rw[CA,CA,Ii r f.1,iD t f.2]
def iJ{x:V}{v:Wr}(J:zq x v)(U:au x=true):∀{xs:Wx} {us:Wg},zf xs us->xs.all au=true->∀u∈us,SeqAt.EqAt A s u v (vQ x u):=by
 intro xs us h
 induction h with
 |nil=>intro _ u I;cases I
 |cons r t g=>
  intro f j I;rw[C7,AS] at f;rcases As.mp I with rfl|I
  ·rw[Ii r f.1];exact mW r J f.1 U
  ·exact g f.2 j I
def vF(x:V)(xs:Wx):Bool:=xs.any λy=>gZ y x
def GP(K:Af)(neg:Bool):R2:=λx y H Q=>∃p xs,y=.ref p/\(aF K H p xs\/dz K H p xs)/\au x=true/\xs.all au=true/\Q (.bl<|if neg then !vF x xs else vF x xs) H
def zY:wb X (compareOp .In) (GP X.K false):=by
 rintro j s T H x y v u Q I l t⟨p,xs,rfl,U,o,fs,q⟩;cases t;rcases U with U|U
 ·obtain⟨J,r,g,C⟩:=I.list U;refine SeqAt.in_listAt (vQ x) g.isList (λw hw=>iJ l o r fs w (by simpa using hw)) ⟨.bl _,H,I,rfl,?_⟩;rw[show J.toArray.any (vQ x)=J.any (vQ x) by simp,iD r fs];exact q
 ·obtain⟨J,r,g,C⟩:=I.tuple U;refine SeqAt.in_tupleAt (vQ x) g (λw hw=>iJ l o r fs w (by simpa using hw)) ⟨.bl _,H,I,rfl,?_⟩;rw[show J.toArray.any (vQ x)=J.any (vQ x) by simp,iD r fs];exact q
def sH:wb X (compareOp .NotIn) (GP X.K true):=by
 rintro j s T H x y v u Q I l t⟨p,xs,rfl,U,o,fs,q⟩;cases t;rcases U with U|U
 ·obtain⟨J,r,g,C⟩:=I.list U;refine SeqAt.notIn_listAt (vQ x) g.isList (λw hw=>iJ l o r fs w (by simpa using hw)) ⟨.bl _,H,I,rfl,?_⟩;rw[show J.toArray.any (vQ x)=J.any (vQ x) by simp,iD r fs];exact q
 ·obtain⟨J,r,g,C⟩:=I.tuple U;refine SeqAt.notIn_tupleAt (vQ x) g (λw hw=>iJ l o r fs w (by simpa using hw)) ⟨.bl _,H,I,rfl,?_⟩;rw[show J.toArray.any (vQ x)=J.any (vQ x) by simp,iD r fs];exact q
def sI:ja X (.builtin "len") (λxs H Q=>∃p ys,xs=[.ref p]/\(aF X.K H p ys\/dz X.K H p ys)/\Q (.int ys.length) H):=by
 rintro o s T H xs us Q I r⟨p,ys,rfl,U,q⟩;obtain⟨u,rfl,t⟩:=qD r;cases t;have hn:=jG;rcases U with U|U
 ·obtain⟨g,j,l,C⟩:=I.list U;have J:=j.length;exact Calls.call_len_list l.isList (by simp only[Ap]<;>lia) ⟨.int ys.length,H,I.tok _,⟨s.toks+1,by rw[Ap,J]⟩,q⟩
 ·obtain⟨g,j,l,C⟩:=I.tuple U;have J:=j.length;exact len_tuple l (by simp only[Ap]<;>lia) ⟨.int ys.length,H,I.tok _,⟨s.toks+1,by rw[Ap,J]⟩,q⟩
def rh:ja X (.builtin "len") (λxs H Q=>∃z,xs=[.str z]/\z.length<=sizeLine/\Q (.int z.length) H):=by rintro J s U H xs g Q I r⟨z,rfl,j,q⟩;obtain⟨u,rfl,t,rfl⟩:=qD r;have l:=jG;exact len_str (by lia) ⟨.int z.length,H,I.tok _,⟨_,rfl⟩,q⟩
def qU:ja X (.type "list") (λxs H Q=>∃p ys,xs=[.ref p]/\(aF X.K H p ys\/dz X.K H p ys)/\∀l,H l=none->Q (.ref l) (upd H l<|.lst ys)):=by
 rintro t s σ H xs us Q I r⟨p,ys,rfl,C,q⟩;obtain⟨u,rfl,rx⟩:=qD r;cases rx;have xt:∀(J:Wg),zf ys J->ys.length<=sizeLine->∀(U:Wv) (g:Nat),(∀b o',s.heap.get? b=some o'->U.get? b=some o')->
  U.get? s.heap.objs.size=some {cls:=.type "list",dict:=none,data:=.seq J.toArray g,slots:=#[]}->EP X t σ Q (.ref s.heap.objs.size) {s with heap:=U}:=λJ j T U g kp e=>
  ⟨.ref s.heap.objs.size,_,I.laid (t':=s.toks) kp (An _)<|show x9 X.prog X.w _ U _ (.lst ys) from⟨T,J,g,j,e⟩,rfl,q _<|I.hok.fresh<|An _⟩
 rcases C with C|C
 ·obtain⟨J,j,pl,T⟩:=I.list C;have a1:=j.length;obtain⟨o,ho,hc,n,hd⟩:=pl.isList;exact call_list_seq p (.inl rfl) ho hc hd (λU g kp e=>xt J j T U g kp e) (by simp only[Ap]<;>lia)
 ·obtain⟨J,j,pl,T⟩:=I.tuple C;have a1:=j.length;obtain⟨o,ho,hc,n,hd⟩:=pl;exact call_list_seq p (.inr rfl) ho hc hd (λU g kp e=>xt J j T U g kp e) (by simp only[Ap]<;>lia)
def F7(K:Af)(T:Ww)(x:V)(H:Hp):Prop:=match x with
 |.str _=>T = "str"
 |.int _=>T = "int"
 |.ref p=>(T = "list" /\ ∃xs,aF K H p xs)\/(T = "tuple" /\ ∃o,K.lookup p=some o/\o.cls=.type "tuple" /\ o.dict=none)\/
  (T = "dict" /\ ((∃kvs,H p=some (.dK kvs))\/∃kvs,H p=some (.dT kvs)))\/(T = "set" /\ ∃S n,H p=some (.set S n))
 |_=>False
def Ij{T:Ww}{x:V}{v:Wr}(I:qt X pins σ H s)(r:zq x v)(ty:F7 X.K T x H):
 s.TypeIs v T/\∀a,v=.ref a->∃ob,s.heap.get? a=some ob/\ob.dict=none:=by
 cases x with
 |str z=>
  obtain⟨t,rfl⟩:=r;cases (show T = "str" from ty);exact⟨typeIs_str s z t,λ_ e=>nomatch e⟩
 |int i=>
  obtain⟨t,rfl⟩:=r;cases (show T = "int" from ty);exact⟨typeIs_int s i t,λ_ e=>nomatch e⟩
 |ref p=>
  cases r;rcases ty with⟨rfl,xs,l⟩|⟨rfl,o,J,C,hd⟩|⟨rfl,J⟩|⟨rfl,S,n,J⟩
  ·obtain⟨a1,_,j,_⟩:=I.list l;refine⟨j.isList.typeIs,λa e=>?_⟩;cases e;obtain⟨o,n,e,c,hd,_⟩:=j;exact⟨o,e,hd⟩
  ·refine⟨⟨o,I.kIn p o J,C⟩,λa e=>?_⟩;cases e;exact⟨o,I.kIn _ o J,hd⟩
  ·have z:∃o,s.heap.get? p=some o/\o.ExactDict:=by
    rcases J with⟨U,J⟩|⟨U,J⟩
    ·obtain⟨_,_,_,_,o,_,_,e,ex,_⟩:=I.hok p _ J;exact⟨o,e,ex⟩
    ·obtain⟨_,_,_,_,o,_,_,e,ex,_⟩:=I.hok p _ J;exact⟨o,e,ex⟩
   obtain⟨o,e,ex⟩:=z;refine⟨⟨o,e,ex.1⟩,λa g=>?_⟩;cases g;exact⟨o,e,ex.2.1⟩
  ·obtain⟨o,_,_,_,e,ex,_⟩:=I.hok p _ J;refine⟨⟨o,e,ex.1⟩,λa g=>?_⟩;cases g;exact⟨o,e,ex.2.1⟩
 |_=>exact False.elim ty
def OF(K:Af)(T:Ww)(r:V->Wx->Hp->VK->Prop)(to:TE):TE:=λσ H Q=>to σ H λx H1=>F7 K T x H1/\r x [] H1 Q
def OG(K:Af)(T:Ww)(r:V->Wx->Hp->VK->Prop)(to:TE)(t:TA):TE:=λσ H Q=>to σ H λx H1=>F7 K T x H1/\t σ H1 λxs H2=>r x xs H2 Q
variable {to:TE}{t:TA}{T id:Ww}{r:V->Wx->Hp->VK->Prop}
def OH(pa:PlainAttrs T)(slot:Slot T name id)(j:typeOf (.builtin id)=pure (.type "method_descriptor"))(C:Ih X id r)(ho:PE X o to)
 (U:attributeBase o name X.env (eval o X.env)=eval o X.env:=by rfl) (g:(apos.endLine==fm.line)=true:=by rfl):PE X (.Call (.Attribute o name apos) [] [] fm) (OF X.K T r to):=by
 intro J s l H Q I h;refine wpAny_Call_method0_late U g<|wr (ho J s l H _ I h) λv s1 ⟨x,H1,p,t,ty,q1⟩=>?_;obtain⟨h1,h2⟩:=Ij p t ty;exact⟨T,id,pa,slot,j,h1,h2,Calls.callWith_builtin rfl<|PySem.evalArgs_none<|C J s1 l H1 x [] v [] Q p t .nil q1⟩
def Ik(pa:PlainAttrs T)(slot:Slot T name id)(p:typeOf (.builtin id)=pure (.type "method_descriptor"))(hm:Ih X id r)(ho:PE X o to)(ha:PA X (e::es) t)
 (g:attributeBase o name X.env (eval o X.env)=eval o X.env:=by rfl)
 (l:((backTo fm<|starEach (e::es) X.env).all (λx=>!x.1)&&(backToKw fm<|keywordEach [] X.env).all (λx=>x.1.isSome)
  && decide ((e::es).length+([]:List Keyword).length+(if ([]:List Keyword).isEmpty then 0 else 1)<30))=true:=by rfl)
 (j:(apos.endLine==fm.line)=true:=by rfl) (hs:Fb e es X:=by rfl) (U:Fc fm es X:=by rfl):
 PE X (.Call (.Attribute o name apos) (e::es) [] fm) (OG X.K T r to t):=by
 intro J s C H Q I h;refine wpAny_Call_method_late g l j rfl<|wr (ho J s C H _ I h) λv s1 ⟨x,H1,I1,r1,ty,q1⟩=>?_;obtain⟨h1,h2⟩:=Ij I1 r1 ty;refine⟨T,id,pa,slot,p,h1,h2,?_⟩;have hA:=ha fm J s1 C H1 _ I1 q1;rw[hs] at hA ⊢;refine Calls.callWith_builtin (by show(false||(backTo fm<|starEach es X.env).any (·.1))=false;rw[U]<;>rfl)<|Calls.evalArgs_plain ?_;exact wr hA λus s2 ⟨vs,H2,I2,r2,q2⟩=>hm J s2 C H2 x vs v us Q I2 r1 r2 q2
end
def g9(X:Cx)(id:Ww)(r:V->Wx->Hp->VK->Prop):Prop:=
 ∀(pins:List<|Addr×Obj) (s:Ws) (σ:St) (H:Hp) (x:V) (xs:Wx) (v:Wr) (us:Wg) (Q:VK),qt X pins σ H s->zq x v->zf xs us->r x xs H Q->
  wpAny (model X.prog X.w) X.A (call (.builtin id)<|v::us) (EP X pins σ Q) X.xe s
def zf.one{x:V}(h:zf [x] us):∃u,us=[u]/\zq x u:=by cases h with|cons r t=>cases t;exact⟨_,rfl,r⟩
def zf.two{x y:V}(h:zf [x,y] us):∃u v,us=[u,v]/\zq x u/\zq y v:=by cases h with|cons r t=>cases t with|cons q t=>cases t;exact⟨_,_,rfl,r,q⟩
theorem zf.zero:∀{us:Wg},zf [] us->us=[]
 |_,.nil=>rfl
def zf.dropLast(h:zf xs us):zf xs.dropLast us.dropLast:=by
 induction h with
 |nil=>exact .nil
 |cons r t I=>
  cases t with|nil=>exact .nil|cons q J=>exact .cons r I
theorem zf.eraseIdx:∀{xs:Wx} {us:Wg} (i:Nat),zf xs us->zf (xs.eraseIdx i) (us.eraseIdx i)
 |_,_,_,.nil=>.nil
 |_,_,0,.cons _ t=>t
 |_,_,i+1,.cons r t=>.cons r<|zf.eraseIdx i t
def vD(l:List α):l.eraseIdx (l.length-1)=l.dropLast:=by
 induction l with
 |nil=>rfl
 |cons a r I=>
  cases r with
  |nil=>rfl
  |cons b r=>
   have e:(a::b::r).length-1=((b::r).length-1)+1:=by have h1:(a::b::r).length=r.length+2:=rfl;have h2:(b::r).length=r.length+1:=rfl;lia
   rw[e,CG,I]
   all_goals rfl
theorem pU{α:Type}:∀(l:List α) (i:Nat),(l.eraseIdx i).length<=l.length
 |[],_=>An _
 |_::_,0=>CU _
 |_::r,i+1=>El<|pU r i
section
variable {l b:Addr}{ys:Wx}
def qt.lset{its':Wg}{f:Wh->Wh}(I:qt X pins σ H s)(J:H l=some (.lst xs))
 (e:s.heap.get? l=some {cls:=.type "list",data:=.seq eA.toArray n}) (U:f eA.toArray=its'.toArray) (g:zf ys its') (hz:ys.length<=sizeLine) (p:0<t':=by walk_at "t"):
 qt X pins σ (upd H l<|.lst ys) {s with heap:=s.heap.update l<|Obj.mapSeq f,toks:=t'}:=by
 have q:=PySem.IsL.update e f;rw[U] at q;refine I.write (x:=l) (e:=l) (by rw[J];exact trivial) (.inl rfl) (λr u j o=>(Heap.get?_update_other s.heap (Obj.mapSeq f)<|AH j).trans o) ⟨_,q⟩ ?_;exact⟨hz,its',_,g,q⟩
def qt.lnew(I:qt X pins σ H s)(J:zf ys eA)(hz:ys.length<=sizeLine)(U:0<t':=by walk_at "t"):
 qt X pins σ (upd H s.heap.objs.size<|.lst ys) {s with heap:=s.heap.push {cls:=.type "list",data:=.seq eA.toArray},toks:=t'}:=
 I.laid (λ_ _ q=>wh _ q) (An _) ⟨hz,eA,0,J,ya _ rfl⟩
theorem qt.fresh(I:qt X pins σ H s):H s.heap.objs.size=none:=I.hok.fresh<|An _
def qt.lstM(I:qt X pins σ H s)(J:H l=some (.lst xs)):xs.length<=sizeLine/\∃(eA:Wg) (n:Nat),zf xs eA/\xs.length=eA.length/\s.heap.get? l=some {cls:=.type "list",data:=.seq eA.toArray n}:=by obtain⟨z,eA,n,r,e⟩:=I.hok l _ J;exact⟨z,eA,n,r,r.length,e⟩
def OI(h:n<=sizeLine):Builtin.List.listTooLong n=false:=by unfold Builtin.List.listTooLong;exact Au (by lia)
end
def OJ:V->Wx->Hp->VK->Prop:=λx vs H Q=>∃l xs y,x=.ref l/\vs=[y]/\H l=some (.lst xs)/\xs.length<sizeLine/\Q .non (upd H l<|.lst<|xs++[y])
def OK:g9 X "list.append" OJ:=by rintro U s t H x C v T Q I j o⟨l,xs,y,rfl,rfl,g,hz,q⟩;cases j;obtain⟨u,rfl,p⟩:=o.one;obtain⟨z,J,n,r,hl,e⟩:=I.lstM g;refine call_meets F.slot_list_append ⟨_,e,rfl⟩ F.entry_list_append (F.args_list_append_2 _ _) (PySem.list_append l J.toArray n u (by rw[Ap];lia)) ⟨e,?_⟩;refine⟨.non,_,I.lset (its':=J++[u]) g e (by simp) (r.append<|.cons p .nil) ?_,rfl,q⟩;rw[Ac,B4];lia
def OL:V->Wx->Hp->VK->Prop:=λx vs H Q=>∃l b xs zs,x=.ref l/\vs=[.ref b]/\H l=some (.lst xs)/\H b=some (.lst zs)/\xs.length+zs.length<=sizeLine/\Q .non (upd H l<|.lst<|xs++zs)
def OM:g9 X "list.extend" OL:=by
 rintro o s σ H x vs v us Q I t C⟨l,b,xs,zs,rfl,rfl,p,T,hz,q⟩;cases t;obtain⟨u,rfl,ru⟩:=C.one;cases ru;obtain⟨z,U,n,r,hl,e⟩:=I.lstM p;obtain⟨z2,J,n2,r2,a1,e2⟩:=I.lstM T;have j:U.toArray.size+J.toArray.size<=sizeLine:=by rw[Ap,Ap];lia
 have g:¬(!U.toArray.isEmpty&&Builtin.List.listTooLong (U.toArray.size+J.toArray.size))=true:=by rw[OI j,Cp];exact AG
 refine call_meets F.slot_list_extend ⟨_,e,rfl⟩ F.entry_list_extend (F.args_list_extend_2 _ _)
  (AutoSeq1.list_extend_list_list_0 l U.toArray n b J.toArray n2 g (by rw[Ap];lia) (by lia)) ⟨e,e2,?_⟩
 refine⟨.non,_,I.lset (its':=U++J) p e (by simp) (r.append r2) ?_,rfl,q⟩;rw[Ac];lia
def ON:V->Wx->Hp->VK->Prop:=λx vs H Q=>∃l xs y,x=.ref l/\vs=[]/\H l=some (.lst xs)/\xs[xs.length-1]?=some y/\Q y (upd H l<|.lst xs.dropLast)
def OO:g9 X "list.pop" ON:=by
 rintro j s σ H x vs v us Q I p t⟨l,xs,y,rfl,rfl,o,C,q⟩;cases p;have U:=t.zero;subst U;obtain⟨z,J,n,r,T,e⟩:=I.lstM o;obtain⟨u,hu,ru⟩:=r.get C;have g:J.toArray[J.toArray.size-1]?=some u:=by show J.toArray[J.length-1]?=some u;rw[<-A6,<-T];exact hu
 refine call_meets F.slot_list_pop ⟨_,e,rfl⟩ F.entry_list_pop (F.args_list_pop_1 _) (MeetsSeq.list_pop_last l J.toArray n u g (by rw[Ap];lia)) ⟨e,?_⟩;refine⟨y,_,I.lset (its':=J.dropLast) o e ?_ r.dropLast ?_,ru,q⟩
 ·show J.toArray.eraseIdxIfInBounds (J.toArray.size-1)=J.dropLast.toArray;rw[Ap,DA,vD]
 ·rw[List.length_dropLast];lia
def OP:V->Wx->Hp->VK->Prop:=λx vs H Q=>∃l xs i k y,x=.ref l/\vs=[.int i]/\H l=some (.lst xs) /\ -(2 ^ 63)<=i/\i<2 ^ 63/\seqIndex? i xs.length=some k/\xs[k]?=some y/\Q y (upd H l<|.lst<|xs.eraseIdx k)
def OQ:g9 X "list.pop" OP:=by
 rintro g s σ H x vs v us Q I o p⟨l,C,i,k,y,rfl,rfl,j,h1,h2,T,hy,q⟩;cases o;obtain⟨u,rfl,ru⟩:=p.one;obtain⟨t,rfl⟩:=ru;obtain⟨z,J,n,r,hl,e⟩:=I.lstM j;obtain⟨w,hw,U⟩:=r.get hy;refine call_meets F.slot_list_pop ⟨_,e,rfl⟩ F.entry_list_pop (F.args_list_pop_2 _ _)
  (MeetsSeq.list_pop_at l J.toArray n i t k w (fitsIndex_both h1 h2) (by rw[Ap,<-hl];exact T) (by rw[<-A6];exact hw) (by rw[Ap];lia)) ⟨e,?_⟩
 refine⟨y,_,I.lset (its':=J.eraseIdx k) j e ?_ (r.eraseIdx k) ?_,U,q⟩
 ·show J.toArray.eraseIdxIfInBounds k=(J.eraseIdx k).toArray;rw[DA]
 ·have:=pU C k;lia
def OR:R2:=λx y H Q=>∃l b xs zs,x=.ref l/\y=.ref b/\H l=some (.lst xs)/\H b=some (.lst zs)/\xs.length+zs.length<=sizeLine/\∀p,H p=none->Q (.ref p) (upd H p<|.lst<|xs++zs)
def OS:wb X (binaryOp .Add) OR:=by
 rintro g s σ H x y v u Q I j o⟨l,b,xs,zs,rfl,rfl,p,t,hz,q⟩;cases j;cases o;obtain⟨z,U,n,r,hl,e⟩:=I.lstM p;obtain⟨z2,J,n2,C,T,e2⟩:=I.lstM t;refine PySem.P.add_list e e2 ?_ (by rw[Ap,Ap];lia);have ea:U.toArray++J.toArray=(U++J).toArray:=by simp
 rw[ea];exact⟨.ref _,_,I.lnew (t':=s.toks) (r.append C) (by rw[Ac];lia),rfl,q _ I.fresh⟩
section
variable {w:Wu}
set_option maxRecDepth 100000 in
end
end L2
namespace Att
open PySem PySem.W PySem.Calls PyProof.Rows
def lJ{P:Params} :∀(ns:Wm) (vs:Wg),WellAll P h vs (ns.map WData.int)->IntsAre vs ns:=by
 intro ns
 induction ns with
 |nil=>
  intro vs w;rw[Dq] at w;cases w;exact .nil
 |cons n ns I=>
  intro vs w;rw[AA] at w;cases w with
  |cons a b=>
   cases a;exact .cons _ _<|I _ b
def OT{l:OpenLaw}(T:l.most=some n){P:Params}{args:List WData}{I:Wg}
 (J:l.row.toRowW.claim.pre args=true) (p:WellAll P h I args):
 ∃a vs ns,I=[Value.ref a]/\args=[WData.list<|ns.map WData.int]/\h.get? a=some {cls:=.type "list",data:=.seq vs.toArray}/\IntsAre vs ns/\ns.length<=n:=by
 have t:WShape.hasAll [] args [.list .int]=true:=(pre_splitW J).1;have C:l.pre.holds [] {args:=args}=true:=(pre_splitW J).2;obtain⟨d,r,rfl,h1,h2⟩:=hasAllW_cons t;obtain rfl:=hasAllW_nil h2;obtain⟨xs,rfl,h3⟩:=hasW_list h1;obtain⟨ns,rfl⟩:=items_int h3;have U:ns.length<=n:=by
  unfold OpenLaw.pre at C;have j:(WTm.not<|.lt (.lit<|.int (n:Int))<|.len<|.arg 0).holds [] {args:=[.list<|ns.map .int]}=true:=by have j:=(holds_andW C).1;rw[T] at j;exact j
  have o:=condW_of j<|w_not<|w_lt w_lit<|w_len_list<|w_arg rfl;rw[Ae] at o;refine Em λq=>?_;have q':(n:Int)<((ns.length:Nat):Int):=by lia
  first
   |(rw[Aw q'] at o;exact absurd o (by decide))
   |(simp at o;lia)
 cases p with
 |cons w1 w2=>
  cases w2;cases w1 with|list ho g=>exact⟨_,_,ns,rfl,rfl,ho,lJ ns _ g,U⟩
def OU(l:OpenLaw)(args:List WData):l.row.toRowW.claim.post args (.bool true) args=true:=
 postW_of (r:=l.row.toRowW) (X:=(true==true))
  (show WShape.has [] (.bool true) .bool=true by first|rfl|decide|simp[WShape.has,WShape.arms,WShape.armsAll])
  (show(WTm.eq .res<|.lit<|.bool true).value [] {args:=args,res:=some<|.bool true,after:=args}=some (.bool<|true==true) from w_eq_bool (w_res rfl) w_lit) rfl
theorem attach_callZ{l:OpenLaw}{q:Wt}{loose:Wj}{XP:(Wc)->Wv->Prop}{as0:List Addr}{N t:Nat}{K:Params->Frag}{d:DefRec}
 (hn:l.most=some n) (p:d.params.defaults=[]) (ek:∀P,as0=(K P).map (·.1)) (C:0<t)
 (call:∀(w:Wu) (s₀ I:Ws) (mg T:Wc) (fa:Addr) (o:Obj) (pm cd hQ:Wr) (a:Addr) (vs:Wg) (ns:Wm),
  Ground q loose [] XP w s₀ mg T I.heap->(K w.params).In I.heap->0<I.toks->
  I.heap.get? fa=some o->o.data=.func (docDef d.name d.params d.body d.scope pm cd hQ)->I.heap.CodeRec cd d.name->mg d.name=some (.ref fa)->
  I.heap.get? a=some {cls:=.type "list",data:=.seq vs.toArray}->IntsAre vs ns->ns.length<=n->I.gens=#[]->
  codeAny (model l.prog w) callerA (.call (.ref fa) ⟨[.ref a],[]⟩) (λr s'=>r=.ok (.ret<|.bool true)/\OldK I.heap s'.heap/\s'.os=I.os/\AllBare s'.gens) I):
 WalkX q loose XP (PySem.W.X.obsZ as0) (PySem.W.X.valZ K N t) l.row.toRowW d [] (λf vs=>PySem.call f vs):=by
 intro w s₀ I mg T G Y fa o pm cd hQ dV kV ho hd a1 hD a2 hg args a5 as L U ac al a3 ax;obtain rfl:dV=.none:=Dflts.none hD p;obtain rfl:kV=.none:=Dflts.noKw hD;obtain⟨a,vs,ns,rfl,rfl,g,J,j⟩:=OT hn U a3;obtain⟨_,zi,_,zt⟩:=X.z_facts ek Y;have eP:∀ns:Wm,ofPy (PyData.list<|ns.map PyData.int)=WData.list (ns.map WData.int):=λns=>by
  simp only[ofPy];congr 1
  induction ns with|nil=>simp[ofPys]|cons n r ih=>simp only[AA,ofPys,ofPy,ih]
 rw[<-eP] at L;have KX:=InK.keeps w s₀.heap I.heap zi L.keeps;have a4:0<I.toks:=AK C<|X.script_toks L zt;refine enter_call<|codeAny_mono (call w s₀ I mg T fa o pm cd hQ a vs ns G KX a4 ho (fd_plain hd) a1 a2 g J j hg) λr s' hq=>?_;obtain⟨rfl,h2,h3,h4⟩:=hq;exact⟨.inl ⟨.bool true,.bool true,[],rfl,λ_=>rfl,.bool true,OU l _,λ_=>⟨List.Pairwise.nil,λ_ hm=>(nomatch hm)⟩⟩,h2,h3,h4⟩
section
variable {w:Wu}{K:Frag}
end
end Att
namespace L2
open PySem PySem.Spec PyProof.Rows
theorem pX:∀{vs:Wg} {ns:Wm},IntsAre vs ns->zf (ns.map V.int) vs
 |_,_,.nil=>.nil
 |_,_,.cons n t h=>.cons ⟨t,rfl⟩<|pX h
def kc(s:Stmt):Arguments:=match s with
 |.FunctionDef _ a _ _ _ _ _ _ _ _=>a
 |_=>{posonlyargs:=[],args:=[],vararg:=none,kwonlyargs:=[],kw_defaults:=[],kwarg:=none,defaults:=[]}
def jv(s:Stmt):Wl:=match s with
 |.FunctionDef _ _ b _ _ _ _ _ _ _=>b
 |_=>[]
def qw(s:Stmt):Scope:=match s with
 |.FunctionDef _ _ _ _ _ _ I _ _ _=>I
 |_=>{kind:=.function,names:=[],isGenerator:=false,isCoroutine:=false}
abbrev CX0:yR:=λ_ _ _ _ _ _=>False
abbrev E0:XK:=λ_ _ _=>False
def OV :vN CX0 X E0:=λ_ _ _ _ _ _ _ h=>h.elim
structure Fun(K:Af)(x eK:Str)(st:Stmt)(f:Addr)(fd:FuncData):Prop where
 ex:∃(oc:Wr) (od:Option Addr) (kV hQ pm:Wr) (an:Option Addr) (eW ct:Wr) (pR:Array<|Wn),
  fd=PySem.W.fnOf x eK (kc st) (jv st) (qw st) .none kV hQ pm an eW ct/\K.lookup f=some ⟨oc,od,.func fd,pR⟩/\PySem.W.codeIn K eW eK=true
 kp:PySem.W.keepIn K (.ref f)=true
section
variable {P:Wt}{w:Wu}{K:Af}
def Fun.ok{N:Wj}{k:Nat}(F:Fun K x eK st f fd)(S:aA N ps<|qw st)(len:∀vs H Q E,sp vs H Q E->vs.length=ps.length)
 (I:∀(eW:Wr) (A:Around) (outer:List Env) (s:Ws) (H:Hp) (vs:Wx) (Q:VK) (E:XK),wz k (A.deeper<|envOfC eK (qw st) s.heap.objs.size f eW)->sp vs H Q E->
  ∃t,iW (fJ CX0 P w K mg base N eK (qw st) f eW A outer s H E).nox (jv st) t/\t {nx:=λ_ H'=>Q .non H',rt:=Q} (start N vs) H):bQ P w K mg base CX0 (k+1) f fd ps sp:=by
 obtain⟨o,p,kV,g,pm,an,eW,r,j,rfl,lk,J⟩:=F.ex;refine GK lk J S len λA outer s H vs Q E l U=>?_;obtain⟨t,h,q⟩:=I eW A outer s H vs Q E l U;exact⟨t,h.nox,q⟩
def OW{kV ct:Wr}(l:K.lookup f=some ⟨oc,od,.func<|PySem.W.fnOf x eK (kc st) (jv st) (qw st) .none kV hQ pm an eW ct,pR⟩)
 (c:PySem.W.codeIn K eW eK=true) (k:PySem.W.keepIn K (.ref f)=true):Fun K x eK st f (PySem.W.fnOf x eK (kc st) (jv st) (qw st) .none kV hQ pm an eW ct):=⟨⟨oc,od,kV,hQ,pm,an,eW,ct,pR,rfl,l,c⟩,k⟩
end
def qK(h:n<=1000):n<sizeLine:=Bu h (by decide)
def pv(i:Nat)(hN:X.N[i]?=some x:=by rfl)(J:y_ X.env.scope x:=by first|exact Or.inl rfl|exact Or.inr (Or.inl rfl)|exact Or.inr<|Or.inr rfl)(hd:Fe x:=by decide)
 (I:Ff x:=by decide):PE X (.Name x pos) (Gw i):=MB hN J hd I
section
variable [DecidableEq κ]
end
end L2
set_option maxHeartbeats 8000000
def FC{a b c:Nat}(h:a<b:=by assumption)(k:b<=c:=by assumption):a<c:=AK h k
def oW{a b c:Nat}(h:a<=b:=by assumption)(k:b<c:=by assumption):a<c:=Bu h k
def GQ{a b c:Nat}(h:a<=b:=by assumption)(k:b<=c:=by assumption):a<=c:=AM h k
def r9{a b c:Nat}(h:a<b:=by assumption)(k:b<c:=by assumption):a<c:=Dr h k
def eM{a b c:Nat}(h:a<=b:=by assumption)(k:b<=c:=by decide):a<=c:=AM h k
def A'{a b:Nat}(h:a<=b:=by assumption):a<b+1:=Nat.lt_succ_of_le h
def Il{a b:Nat}(h:a<=b:=by assumption):a<=b+1:=CT h
def hJ{a b:Nat}(h:a<b:=by assumption):a<=b:=Bi h
def Im{a b:Nat}(h:a<b:=by assumption):a≠b:=A3 h
def Io{a b:Nat}(h:b<a:=by assumption):a≠b:=C0 h
def FD{a:Nat}(h:a≠0:=by assumption):0<a:=Nat.pos_of_ne_zero h
def Ip{a b c:Nat}(h:a<b:=by assumption)(k:b<=c:=by assumption):a<=c:=AM (Bi h) k
def GR{a b c:Nat}(h:a<b:=by assumption):a<b+c:=AK h<|A9 _ _
def uz{a b:Nat}(h:a=b:=by assumption):a<=b:=Nat.le_of_eq h
def FE{a b:Nat}(h:¬a<b:=by assumption):b<=a:=Em h
def Iq{a b:Nat}(h:¬b<=a:=by assumption):a<b:=Nat.lt_of_not_le h
def Ir{a b:Nat}(h:a<b+1:=by assumption):a<=b:=Nat.le_of_lt_succ h
def OX{a b c:Nat}(h:a<=b:=by assumption)(k:c<=d:=by assumption):a+c<=b+d:=Nat.add_le_add h k
def D_{a b:Nat}(h:0<a:=by assumption)(k:0<b:=by decide):a-b<a:=Nat.sub_lt h k
def Iu{a b c:Nat}(h:a<=c:=by assumption):a-b<=c:=AM (EN _ _) h
def qN{a b c:Nat}(h:a<c:=by assumption):a-b<c:=Bu (EN _ _) h
def zR{a b:Nat}(h:a<=b:=by assumption)(k:a≠b:=by assumption):a<b:=Nat.lt_of_le_of_ne h k
namespace L2
open PySem PySem.Spec PyProof.Rows
def OY:R2:=λx y H Q=>match x,y with
 |.int i,.int j=>Q (.int<|i+j) H
 |.str a,.str b=>a.length+b.length<=sizeLine/\Q (.str<|a++b) H
 |.ref l,.ref b=>∃xs zs,H l=some (.lst xs)/\H b=some (.lst zs)/\xs.length+zs.length<=sizeLine/\∀p,H p=none->Q (.ref p) (upd H p<|.lst<|xs++zs)
 |_,_=>False
def OZ:wb X (binaryOp .Add) OY:=by
 intro J s U H x y v u Q I g j h;cases x<;>cases y<;>first
  |exact False.elim h
  |exact NF J s U H _ _ v u Q I g j ⟨_,_,rfl,rfl,h⟩
  |exact vH J s U H _ _ v u Q I g j ⟨_,_,rfl,rfl,h.1,h.2⟩
  |(obtain⟨l,o,h1,h2,h3,p⟩:=h;exact OS J s U H _ _ v u Q I g j ⟨_,_,l,o,rfl,rfl,h1,h2,h3,p⟩)
def KD(K:Af)(P:Wt)(w:Wu)(a:Addr)(kvs:List<|jh×V):Prop:=
 (a==sysModules)=false/\kvs.length<=sizeLine/\∀h:Wv,K.In h->∃vs,KV kvs vs/\h.DictOf (va P w) a vs
def Iv(K:Af)(P:Wt)(w:Wu):R2:=λx y H Q=>match x,y with
 |.str z,.int i=>z.length<=sizeLine/\∃c,eI z.cps.toList i=some c/\Q (.str ⟨#[c]⟩) H
 |.ref p,.int i=>∃xs v,(aF K H p xs\/dz K H p xs)/\eI xs i=some v/\Q v H
 |.ref p,.str k=>∃kvs v,(Rd H p (.dK kvs)\/KD K P w p kvs)/\gD kvs (Sum.inr k)=some v/\Q v H
 |_,_=>False
def Iw{slice:Expr}{a:Addr}{vs:List<|jh×Wr}{k:jh}{J:Wr}{Q:VK}(I:qt X pins σ H s)(dd:s.heap.DictOf (va X.prog X.w) a vs)(U:ny k u=true)
 (hw:valueAt vs k=some J) (r:zq v J) (q:Q v H) (hs:subscripted slice false (.ref a) u=operate [.ref a,u] (getItem (.ref a) u)):wpAny (model X.prog X.w) X.A (subscriptTail value slice (.ref a) u) (EP X pins σ Q) X.xe s:=
 tail_any dd.typeIs DZ.lookup (wpAny_getItem_of U dd.mapOf hw ⟨v,H,I.tok _,r,q⟩) hs
def O0:IxR X (Iv X.K X.prog X.w):=by
 intro value slice J s T H x y v u Q I t C q g;cases x with
 |str z=>
  cases y with
  |int i=>
   obtain⟨h1,c,h2,h3⟩:=q;exact OB value slice J s T H _ _ v u Q I t C ⟨z,i,c,rfl,rfl,h1,h2,h3⟩ g
  |_=>exact q.elim
 |ref p=>
  cases y with
  |int i=>
   obtain⟨xs,j,h1,h2,h3⟩:=q;rcases h1 with h1|h1
   ·exact Oz value slice J s T H _ _ v u Q I t C ⟨p,xs,i,j,rfl,rfl,h1,h2,h3⟩ g
   ·exact OA value slice J s T H _ _ v u Q I t C ⟨p,xs,i,j,rfl,rfl,h1,h2,h3⟩ g
  |str k=>
   obtain⟨a1,j,h1,h2,h3⟩:=q;have l:zq (kV<|Sum.inr k) u:=C;cases (show v=Value.ref p from t);rcases h1 with h1|h1
   ·obtain⟨z,hd,vs,rel,r⟩:=yH I.hok h1;obtain⟨w2,hw,U⟩:=E8 (v:=j) (o:=valueAt vs<|Sum.inr k) (by rw[<-h2];exact rel.val _);exact Iw I r (pV (P:=X.prog) (w:=X.w) l) hw U h3 g
   ·obtain⟨hd,z,r⟩:=h1;obtain⟨vs,rel,r⟩:=r s.heap I.kIn;obtain⟨w2,hw,U⟩:=E8 (v:=j) (o:=valueAt vs<|Sum.inr k) (by rw[<-h2];exact rel.val _);exact Iw I r (pV (P:=X.prog) (w:=X.w) l) hw U h3 g
  |_=>exact q.elim
 |_=>cases y<;>exact q.elim
def O1(K:Af):Wx->Hp->VK->Prop:=λxs H Q=>match xs with
 |[.str z]=>z.length<=sizeLine/\Q (.int z.length) H
 |[.ref p]=>∃ys,(aF K H p ys\/dz K H p ys)/\Q (.int ys.length) H
 |_=>False
def O6:ja X (.builtin "len") (O1 X.K):=by
 intro J s U H j g Q I r h;obtain _|⟨x,_|⟨y,t⟩⟩:=j
 ·exact h.elim
 ·cases x with
  |str z=>exact rh J s U H _ g Q I r ⟨z,rfl,h.1,h.2⟩
  |ref p=>
   obtain⟨l,h1,h2⟩:=h;exact sI J s U H _ g Q I r ⟨p,l,rfl,h1,h2⟩
  |_=>exact h.elim
 ·cases x<;>exact h.elim
inductive Da where
 |s (v:V)
 |tup (xs:List Da)
 |lst (xs:List Da)
mutual
def Da.eq:Da->Da->Bool
 |.s v,.s w=>gZ v w
 |.tup xs,.tup ys=>Da.eqs xs ys
 |.lst xs,.lst ys=>Da.eqs xs ys
 |_,_=>false
def Da.eqs:List Da->List Da->Bool
 |[],[]=>true
 |x::xs,y::ys=>Da.eq x y&&Da.eqs xs ys
 |_,_=>false
end
def aQ(K:Af)(H:Hp):Nat->V->Da->Prop
 |0,v,d=>d=.s v/\au v=true
 |n+1,v,d=>(d=.s v/\au v=true)\/(∃a xs ds,v=.ref a/\d=.tup ds/\dz K H a xs/\Paired (aQ K H n) xs ds)\/(∃a xs ds,v=.ref a/\d=.lst ds/\aF K H a xs/\Paired (aQ K H n) xs ds)
theorem Da.eqs_range:∀(ds es:List Da),((List.range<|min ds.length es.length).all (λj=>Da.eq (ds.getD j<|.s .non)<|es.getD j<|.s .non)&&ds.length==es.length)=Da.eqs ds es
 |[],[]=>by simp[Da.eqs]
 |[],e::es=>by simp[Da.eqs]
 |d::ds,[]=>by simp[Da.eqs]
 |d::ds,e::es=>by
  have I:=Da.eqs_range ds es;rw[Da.eqs,<-I];have:min (d::ds).length (e::es).length=min ds.length es.length+1:=by simp only[AL];lia
  rw[this,List.range_succ_eq_map,C7,List.all_map];have h2:((d::ds).length==(e::es).length)=(ds.length==es.length):=by simp
  rw[h2,Bool.and_assoc];rfl
theorem Paired.at{F:α->β->Prop}:∀{xs:List α} {ys:List β} {j:Nat} {x:α} {y:β},Paired F xs ys->xs[j]?=some x->ys[j]?=some y->F x y:=by
 intro xs ys j x y h
 induction h generalizing j with
 |nil=>intro h _;simp at h
 |cons r t I=>
  intro h1 h2;cases j with|zero=>simp at h1 h2;subst h1 h2;exact r|succ j=>exact I (j:=j) (by simpa using h1) (by simpa using h2)
abbrev E5:=@Paired.at
theorem bK:∀{v:V},au v=true->gZ v v=true
 |.non,_=>rfl
 |.bl _,_=>by simp[gZ]
 |.int _,_=>by simp[gZ]
 |.str _,_=>by simp[gZ]
def ju{a:Addr}(h:au (.ref a)=true):False:=by simp[au] at h
def qt.notBoth(I:qt X pins σ H s){a:Addr}{ys:Wx}(h:dz X.K H a xs)(h':aF X.K H a ys):False:=by
 obtain⟨j,_,⟨o,e,c,_⟩,_⟩:=I.tuple h;obtain⟨U,_,⟨l,p,g,J,_⟩,_⟩:=I.list h';rw[e] at g;cases g;rw[c] at J;injection J with J
 exact absurd J (by decide)
theorem rS(I:qt X pins σ H s):∀(n:Nat) {m:Nat} {x:V} {d e:Da},aQ X.K H n x d->aQ X.K H m x e->Da.eq d e=true
 |0,m,x,d,e,h1,h2=>by
  obtain⟨rfl,f⟩:=h1;cases m with
  |zero=>obtain⟨rfl,_⟩:=h2;exact bK f
  |succ m=>
   rcases h2 with⟨rfl,_⟩|⟨a,g,j,rfl,_⟩|⟨a,g,j,rfl,_⟩
   ·exact bK f
   ·exact(ju f).elim
   ·exact(ju f).elim
 |n+1,m,x,d,e,h1,h2=>by
  have both:∀{g:Wx} {j l:List Da} {m:Nat},Paired (aQ X.K H n) g j->Paired (aQ X.K H m) g l->Da.eqs j l=true:=by
   intro g j l m p
   induction p generalizing l with
   |nil=>intro q;cases q;rfl
   |cons r t ih=>
    intro q;cases q with|cons r' t'=>rw[Da.eqs,rS I n r r',ih t'];rfl
  rcases h1 with⟨rfl,f⟩|⟨a,g,j,rfl,rfl,C,T⟩|⟨a,g,j,rfl,rfl,C,T⟩
  ·cases m with
   |zero=>obtain⟨rfl,_⟩:=h2;exact bK f
   |succ m=>
    rcases h2 with⟨rfl,_⟩|⟨a,g,j,rfl,_⟩|⟨a,g,j,rfl,_⟩
    ·exact bK f
    ·exact(ju f).elim
    ·exact(ju f).elim
  ·cases m with
   |zero=>exact(ju h2.2).elim
   |succ m=>
    rcases h2 with⟨_,f⟩|⟨a',ys,l,o,rfl,J,U⟩|⟨a',ys,l,o,rfl,J,U⟩
    ·exact(ju f).elim
    ·cases o;cases I.tuple_inj C J;exact both T U
    ·cases o;exact(I.notBoth C J).elim
  ·cases m with
   |zero=>exact(ju h2.2).elim
   |succ m=>
    rcases h2 with⟨_,f⟩|⟨a',ys,l,o,rfl,J,U⟩|⟨a',ys,l,o,rfl,J,U⟩
    ·exact(ju f).elim
    ·cases o;exact(I.notBoth J C).elim
    ·cases o;cases I.list_inj C J;exact both T U
def x8{a:Addr}{eA:Wh}(p:PlainL h a eA):h.IsList a eA:=let ⟨o,n,e,c,_,d⟩:=p;⟨o,e,c,n,d⟩
def u8{m:Nat}{ys:Wx}{ds es:List Da}(px:Paired (aQ X.K H n) xs ds)(py:Paired (aQ X.K H m) ys es)(I:zf xs us)(J:zf ys vs)
 (p:∀{x y:V} {d e:Da} {u v:Wr},aQ X.K H n x d->aQ X.K H m y e->zq x u->zq y v->SeqAt.EqAt A.in1 s u v (Da.eq d e)):
 ∀j (h1:j<us.toArray.size) (h2:j<vs.toArray.size),SeqAt.EqAt A.in1 s us.toArray[j] vs.toArray[j] (Da.eq (ds.getD j<|.s .non)<|es.getD j<|.s .non):=by
 intro j h1 h2;have C:=px.length;have T:=py.length;have l3:=I.length;have l4:=J.length;rw[Ap] at h1 h2;have U:xs[j]?=some xs[j]:=Ag (by lia);have g:ys[j]?=some ys[j]:=Ag (by lia);have l:ds[j]?=some ds[j]:=Ag (by lia);have o:es[j]?=some es[j]:=Ag (by lia);have r:us[j]?=some us[j]:=Ag (by lia);have t:vs[j]?=some vs[j]:=Ag (by lia);rw[Bl,Bl,l,o];exact p (E5 px U l) (E5 py g o) (E5 I U r)<|E5 J g t
def GS(ne:Bool)(A:Around)(s:Ws)(u v:Wr)(k:Bool):Prop:=match ne with
 |true=>SeqAt.RcNeAt A s u v<|!k
 |false=>SeqAt.RcAt A s u v k
def qG(ne:Bool){m:Nat}{a b:Addr}{ys:Wx}{ds es:List Da}(I:qt X pins σ H s)(J:A.units<cLine)(l:dz X.K H a xs)(o:dz X.K H b ys)(px:Paired (aQ X.K H n) xs ds)(py:Paired (aQ X.K H m) ys es)
 (p:∀{x y:V} {d e:Da} {u v:Wr},aQ X.K H n x d->aQ X.K H m y e->zq x u->zq y v->SeqAt.EqAt A.in1 s u v (Da.eq d e)):GS ne A s (.ref a) (.ref b) (Da.eqs ds es):=by
 obtain⟨r,U,g,_⟩:=I.tuple l;obtain⟨t,j,ty,_⟩:=I.tuple o;have i:=u8 px py U j p;cases ne
 case' false=>have q:=SeqAt.RcAt.tuples g ty J i
 case' true=>have q:=SeqAt.RcNeAt.tuples g ty J i
 all_goals
  rw[Ap,Ap,<-U.length,<-j.length,px.length,py.length,Da.eqs_range] at q;exact q
def uc(ne:Bool){m:Nat}{a b:Addr}{ys:Wx}{ds es:List Da}(I:qt X pins σ H s)(g:A.units<cLine)(C:aF X.K H a xs)(T:aF X.K H b ys)(px:Paired (aQ X.K H n) xs ds)(py:Paired (aQ X.K H m) ys es)
 (ih:∀{x y:V} {d e:Da} {u v:Wr},aQ X.K H n x d->aQ X.K H m y e->zq x u->zq y v->SeqAt.EqAt A.in1 s u v (Da.eq d e)):GS ne A s (.ref a) (.ref b) (Da.eqs ds es):=by
 obtain⟨l,o,J,_⟩:=I.list C;obtain⟨p,r,ty,_⟩:=I.list T;have J:=x8 J;have ty:=x8 ty;have e:=Da.eqs_range ds es;have j:ds.length=l.toArray.size:=by rw[<-px.length,o.length,Ap]
 have t:es.length=p.toArray.size:=by rw[<-py.length,r.length,Ap]
 by_cases U:l.toArray.size=p.toArray.size
 ·have i:=u8 px py o r ih;rw[t,<-U,<-j,Nat.min_self,beq_self_eq_true,Bool.and_true] at e;cases ne
  case' false=>have q:=SeqAt.RcAt.lists J ty U g i
  case' true=>have q:=SeqAt.RcNeAt.lists J ty U g i
  all_goals
   rw[<-j,e] at q;exact q
 ·rw[show(ds.length==es.length)=false by rw[j,t];simpa using U,Cp] at e;rw[<-e];cases ne
  ·exact SeqAt.RcAt.lists_lengths J ty (by simpa using U) g
  ·exact SeqAt.RcNeAt.lists_lengths J ty (by simpa using U) g
def xH(I:qt X pins σ H s):∀(n:Nat) {m:Nat} {A:Around} {x y:V} {d e:Da} {u v:Wr},A.units+n<cLine->aQ X.K H n x d->aQ X.K H m y e->zq x u->zq y v->SeqAt.EqAt A s u v (Da.eq d e):=by
 have J:∀{A:Around} {x:V} {u:Wr} {b:Addr} {p:Wx},A.units<cLine->au x=true->zq x u->(dz X.K H b p\/aF X.K H b p)->SeqAt.EqAt A s u (.ref b) false/\SeqAt.EqAt A s (.ref b) u false:=by
  intro A x u b p g f r h;have h':(∃C,s.heap.IsTuple b C)\/∃C,s.heap.IsList b C:=by
   rcases h with h|h
   ·obtain⟨C,_,t,_⟩:=I.tuple h;exact .inl ⟨_,t⟩
   ·obtain⟨C,_,t,_⟩:=I.list h;exact .inr ⟨_,x8 t⟩
  cases x with
  |non=>cases r;rcases h' with⟨_,t⟩|⟨_,t⟩;exact⟨.none_tuple t g,.tuple_none t g⟩;exact⟨.none_list t g,.list_none t g⟩
  |bl k=>cases r;rcases h' with⟨_,t⟩|⟨_,t⟩;exact⟨.bool_tuple k t g,.tuple_bool k t g⟩;exact⟨.bool_list k t g,.list_bool k t g⟩
  |int k=>obtain⟨tk,rfl⟩:=r;rcases h' with⟨_,t⟩|⟨_,t⟩;exact⟨.int_tuple k tk t g,.tuple_int k tk t g⟩;exact⟨.int_list k tk t g,.list_int k tk t g⟩
  |str k=>obtain⟨tk,rfl⟩:=r;rcases h' with⟨_,t⟩|⟨_,t⟩;exact⟨.str_tuple k tk t g,.tuple_str k tk t g⟩;exact⟨.str_list k tk t g,.list_str k tk t g⟩
  |_=>simp[au] at f
 intro n
 induction n with
 |zero=>
  intro m A x y d e u v g h1 h2 T j;obtain⟨rfl,f⟩:=h1;cases m with
  |zero=>obtain⟨rfl,l⟩:=h2;exact mW T j f l
  |succ m=>
   rcases h2 with⟨rfl,l⟩|⟨b,p,es,rfl,rfl,U,py⟩|⟨b,p,es,rfl,rfl,U,py⟩
   ·exact mW T j f l
   ·cases j;exact(J (by lia) f T<|.inl U).1
   ·cases j;exact(J (by lia) f T<|.inr U).1
 |succ n ih=>
  intro m A x y d e u v g h1 h2 T j;have a2:A.in1.units+n<cLine:=by show A.units+1+n<cLine;lia
  rcases h1 with⟨rfl,f⟩|⟨a,xs,ds,rfl,rfl,o,px⟩|⟨a,xs,ds,rfl,rfl,o,px⟩
  ·cases m with
   |zero=>obtain⟨rfl,l⟩:=h2;exact mW T j f l
   |succ m=>
    rcases h2 with⟨rfl,l⟩|⟨b,p,es,rfl,rfl,U,py⟩|⟨b,p,es,rfl,rfl,U,py⟩
    ·exact mW T j f l
    ·cases j;exact(J (by lia) f T<|.inl U).1
    ·cases j;exact(J (by lia) f T<|.inr U).1
  ·cases T;cases m with
   |zero=>obtain⟨rfl,l⟩:=h2;exact(J (by lia) l j<|.inl o).2
   |succ m=>
    rcases h2 with⟨rfl,l⟩|⟨b,p,es,rfl,rfl,U,py⟩|⟨b,p,es,rfl,rfl,U,py⟩
    ·exact(J (by lia) l j<|.inl o).2
    ·cases j;by_cases a1:a=b
     ·subst a1;cases I.tuple_inj o U;have e:Da.eq (.tup ds) (.tup es)=true:=rS I (n+1) (m:=m+1) (x:=.ref a) (.inr<|.inl ⟨a,xs,ds,rfl,rfl,o,px⟩)<|.inr<|.inl ⟨a,xs,es,rfl,rfl,U,py⟩;rw[e];exact .same _
     ·exact .of_refs a1<|qG false I (by lia) o U px py λh1 h2 r1 r2=>ih a2 h1 h2 r1 r2
    ·cases j;obtain⟨us,vx,tx,_⟩:=I.tuple o;obtain⟨vs,vy,ty,_⟩:=I.list U;exact .tuple_list tx (x8 ty) (by lia)
  ·cases T;cases m with
   |zero=>obtain⟨rfl,l⟩:=h2;exact(J (by lia) l j<|.inr o).2
   |succ m=>
    rcases h2 with⟨rfl,l⟩|⟨b,p,es,rfl,rfl,U,py⟩|⟨b,p,es,rfl,rfl,U,py⟩
    ·exact(J (by lia) l j<|.inr o).2
    ·cases j;obtain⟨us,vx,tx,_⟩:=I.list o;obtain⟨vs,vy,ty,_⟩:=I.tuple U;exact .list_tuple (x8 tx) ty (by lia)
    ·cases j;by_cases a1:a=b
     ·subst a1;cases I.list_inj o U;have e:Da.eq (.lst ds) (.lst es)=true:=rS I (n+1) (m:=m+1) (x:=.ref a) (.inr<|.inr ⟨a,xs,ds,rfl,rfl,o,px⟩)<|.inr<|.inr ⟨a,xs,es,rfl,rfl,U,py⟩;rw[e];exact .same _
     ·exact .of_refs a1<|uc false I (by lia) o U px py λh1 h2 r1 r2=>ih a2 h1 h2 r1 r2
def O7(K:Af)(k:Nat)(ne:Bool):R2:=λx y H Q=>match x,y with
 |.ref a,.ref b=>∃n m d e,n<=k/\aQ K H n (.ref a) d/\aQ K H m (.ref b) e/\Q (.bl<|Fy ne<|Da.eq d e) H
 |x,y=>HY x y=true/\Q (.bl<|Fy ne<|decide<|x=y) H
def O8(ne:Bool){k:Nat}(U:X.A.units+k<cLine):wb X (compareOp<|F5 ne) (O7 X.K k ne):=by
 intro J s t H x y v u Q I C T h;cases x with
 |ref a=>
  cases y with
  |ref b=>
   obtain⟨n,m,d,e,hn,h1,h2,q⟩:=h;cases C;cases T;have xt:GS ne X.A s (.ref a) (.ref b) (Da.eq d e)->wpAny (model X.prog X.w) X.A (compareOp (F5 ne) (.ref a)<|.ref b) (EP X J t Q) X.xe s:=λr=>by cases ne<;>exact r X.prog X.w X.xe (EP X J t Q) ⟨.bl _,H,I,rfl,q⟩
   cases n with
   |zero=>exact(ju h1.2).elim
   |succ n=>
    cases m with
    |zero=>exact(ju h2.2).elim
    |succ m=>
     have l:X.A.in1.units+n<cLine:=by show X.A.units+1+n<cLine;lia
     have U:X.A.units<cLine:=by lia
     rcases h1 with⟨_,f⟩|⟨a',xs,ds,e1,rfl,o,px⟩|⟨a',xs,ds,e1,rfl,o,px⟩
     ·exact(ju f).elim
     ·cases e1;rcases h2 with⟨_,f⟩|⟨b',ys,es,g,rfl,j,py⟩|⟨b',ys,es,g,rfl,j,py⟩
      ·exact(ju f).elim
      ·cases g;exact xt<|qG ne I U o j px py λh1 h2 r1 r2=>xH I n l h1 h2 r1 r2
      ·cases g;obtain⟨us,vx,p,_⟩:=I.tuple o;obtain⟨vs,vy,ty,_⟩:=I.list j;exact xt (by cases ne;exact SeqAt.RcAt.tuple_list p (x8 ty) U;exact SeqAt.RcNeAt.tuple_list p (x8 ty) U)
     ·cases e1;rcases h2 with⟨_,f⟩|⟨b',ys,es,g,rfl,j,py⟩|⟨b',ys,es,g,rfl,j,py⟩
      ·exact(ju f).elim
      ·cases g;obtain⟨us,vx,p,_⟩:=I.list o;obtain⟨vs,vy,ty,_⟩:=I.tuple j;exact xt (by cases ne;exact SeqAt.RcAt.list_tuple (x8 p) ty U;exact SeqAt.RcNeAt.list_tuple (x8 p) ty U)
      ·cases g;exact xt<|uc ne I U o j px py λh1 h2 r1 r2=>xH I n l h1 h2 r1 r2
  |_=>exact H0 ne J s t H _ _ v u Q I C T h
 |_=>cases y<;>exact H0 ne J s t H _ _ v u Q I C T h
def Ix{c:Addr}(I:Gl X x)(J:X.mg x=some (.ref c))(hd:Fe x:=by decide):PE X (.Name x pos) (tC<|.ref c):=MF I J (v:=.ref c) rfl hd
def yz{T:Ww}(I:Gl X x)(J:X.mg x=none)(U:bootBuiltins x=some (.type T))(g:x ≠ "__name__" := by decide)(hd:Fe x:=by decide):PE X (.Name x pos) (tC<|.ty T):=MG I J U (v:=.ty T) rfl g hd
structure Cal(P:Wt)(w:Wu)(K:Af)(mg:Wc)(base:Wv)(k:Nat)(x:Str)(ps:Wj)(sp:Sp):Prop where
 ex:∃f fd,bQ P w K mg base CX0 k f fd ps sp/\dw K fd ps []/\PySem.W.keepIn K (.ref f)=true/\mg x=some (.ref f)
def O9{k:Nat}{t:TA}(c:Cal X.prog X.w X.K X.mg X.base k x ps sp)(U:wz k X.A)(g:Gl X x)(j:PA X (e::es) t)(I:Fe x:=by decide)
 (l:Fb e es X:=by rfl) (J:Fc pos es X:=by rfl):PE X (.Call (.Name x p) (e::es) [] pos) (H_ sp [] E0 t):=by
 obtain⟨f,fd,F,b,o,m⟩:=c.ex;exact N0 F U g m o b .nil OV j I l J
theorem Cal.mono{P:Wt}{w:Wu}{K:Af}{k:Nat}(c:Cal P w K mg base j x ps sp)(h:j<=k):Cal P w K mg base k x ps sp:=by obtain⟨f,fd,F,b,I,m⟩:=c.ex;exact⟨f,fd,F.mono h,b,I,m⟩
end L2
variable {ds:List L2.Da}
namespace L2
open PySem PySem.Spec PyProof.Rows
def m4(env:Env):List (Str×NameKind)->List (Str×Addr)->List (Str×Addr)
 |[],cs=>cs
 |(n,k)::r,cs=>m4 env r<|if k==.free then(n,(env.cells.lookup n).getD 0)::cs else cs
def fj(scope:Scope)(env:Env):List (Str×Addr):=m4 env scope.names []
theorem tz{env:Env}:∀{names:List<|Str×NameKind} {cs:List<|Str×Addr} {p:Str×Addr},p∈m4 env names cs->p∈cs\/((p.1,NameKind.free)∈names/\p.2=(env.cells.lookup p.1).getD 0)
 |[],_,_,h=>.inl h
 |(n,k)::r,cs,p,h=>by
  rcases tz (names:=r) h with q|⟨q,e⟩
  ·by_cases I:(k==NameKind.free)=true
   ·rw[AD I] at q;rcases As.mp q with rfl|q
    ·have:k=.free:=by simpa using I
     exact .inr ⟨by rw[this];exact Ar,rfl⟩
    ·exact .inl q
   ·rw[AB I] at q;exact .inl q
  ·exact .inr ⟨Ai _ q,e⟩
theorem tU{env:Env}{x:Str}:∀{names:List<|Str×NameKind} {cs:List<|Str×Addr},((∃c,(x,c)∈cs)\/(x,NameKind.free)∈names)->∃c,(x,c)∈m4 env names cs
 |[],_,.inl h=>h
 |[],_,.inr h=>by simp at h
 |(n,k)::r,cs,h=>by
  refine tU (names:=r) ?_;rcases h with⟨c,h⟩|h
  ·left;by_cases I:(k==NameKind.free)=true
   ·rw[AD I];exact⟨c,Ai _ h⟩
   ·rw[AB I];exact⟨c,h⟩
  ·rcases As.mp h with e|h
   ·left;injection e with J U
    subst J;subst U;exact⟨_,Ar⟩
   ·exact .inr h
theorem fz{x:Str}:∀{l:List<|Str×Addr} {c:Addr},(x,c)∈l->∃c',l.lookup x=some c'
 |(n,d)::r,c,h=>by
  rw[BC];cases I:x==n with
  |true=>exact⟨d,rfl⟩
  |false=>
   rcases As.mp h with e|h
   ·injection e with J _;subst J;simp at I
   ·exact fz h
def lE(h:∀n,(n,NameKind.free)∈scope.names->∃c,env.cells.lookup n=some c):closureFor scope env=pure (fj scope env):=by
 unfold closureFor fj;have key:∀(names:List<|Str×NameKind) (I:List<|Str×Addr),(∀n,(n,NameKind.free)∈names->∃c,env.cells.lookup n=some c)->
  (forIn names I λx (r:List<|Str×Addr)=>(match x with|(name,kind)=>if kind==NameKind.free then do let a <-cellOf env name;pure (ForInStep.yield<|(name,a)::r) else pure (ForInStep.yield r):Sem<|ForInStep<|List<|Str×Addr))=pure (m4 env names I):=by
  intro names
  induction names with
  |nil=>intro I _;rfl
  |cons p r o=>
   intro I J;obtain⟨n,k⟩:=p;rw[C9];cases U:k==NameKind.free with
   |true=>
    have g:k=.free:=by simpa using U
    subst g;obtain⟨c,t⟩:=J n Ar;have e:cellOf env n=pure c:=by unfold cellOf;rw[t]
    simp only[beq_self_eq_true,if_true,e];have j:m4 env ((n,NameKind.free)::r) I=m4 env r ((n,c)::I):=by show m4 env r _=_;rw[t];rfl
    rw[j];exact o ((n,c)::I) λm l=>J m<|Ai _ l
   |false=>
    simp only[U,Cq,if_false];have j:m4 env ((n,k)::r) I=m4 env r I:=by show m4 env r (if (k==NameKind.free)=true then _ else _)=_;rw[U];rfl
    rw[j];exact o I λm l=>J m<|Ai _ l
 exact(Bk (· >>= pure)<|key scope.names [] h)
theorem aE{env:Env}{x:Str}:∀{names:List<|Str×NameKind},
 (names.map λ(n,k)=>if (k==NameKind.free&&env.scope.kind==.function&&env.kindOf n==some .cell) then(n,NameKind.cell) else(n,k)).lookup x
  = (names.lookup x).map λk=>if (k==NameKind.free&&env.scope.kind==.function&&env.kindOf x==some .cell) then NameKind.cell else k
 |[]=>rfl
 |(n,k)::r=>by
  have g:=@aE env x r;show List.lookup x ((if (k==NameKind.free&&env.scope.kind==.function&&env.kindOf n==some .cell)=true then(n,NameKind.cell) else(n,k))::_)=_;cases J:x==n with
  |true=>
   have U:x=n:=by simpa using J
   subst U;by_cases I:(k==NameKind.free&&env.scope.kind==.function&&env.kindOf x==some .cell)=true
   ·rw[AD I];simp only[BC,beq_self_eq_true,Option.map_some];rw[AD I]
   ·rw[AB I];simp only[BC,beq_self_eq_true,Option.map_some];rw[AB I]
  |false=>
   by_cases I:(k==NameKind.free&&env.scope.kind==.function&&env.kindOf n==some .cell)=true
   ·rw[AD I];simp only[BC,J];exact g
   ·rw[AB I];simp only[BC,J];exact g
def Cx.comp(X:Cx)(scope:Scope)(T:Wj)(C:Addr)(fp:List Addr)(s₀:Ws)(H₀:Hp):Cx:=
 {X with N:=X.N++T,s₀:=s₀,H₀:=H₀,env:=compEnvC scope (fj scope X.env) C X.env,outer:=X.stack,ex:=fp,fn:=λ_=>false,xe:=λ_ _=>False}
structure jd(X:Cx)(scope:Scope):Prop where
 kind:scope.kind=.function
 nocell:∀y∈scope.names,y.2≠.cell
 names:∀y∈scope.names,y.2=.local->scope.names.lookup y.1=some .local
 free:∀n,scope.names.lookup n=some .free->X.env.kindOf n=some .cell\/X.env.kindOf n=some .free
 freeM:∀n,(n,NameKind.free)∈scope.names->X.env.kindOf n=some .cell\/X.env.kindOf n=some .free
 apart:∀x∈X.N,scope.names.lookup x≠some .local
def jd.clo(S:jd X scope)(I:qt X pins σ H s):closureFor scope X.env=pure (fj scope X.env):=
 lE λn h=>I.ok.has n<|S.freeM n h
def jd.cl_old(S:jd X scope)(I:qt X pins σ H s){c:Addr}(h:(fj scope X.env).lookup x=some c):X.env.cells.lookup x=some c:=by
 rcases tz (BE h) with q|⟨q,e⟩
 ·simp at q
 ·obtain⟨d,hd⟩:=I.ok.has x<|S.freeM x q;have J:c=(X.env.cells.lookup x).getD 0:=e;rw[hd] at J ⊢;rw[J];rfl
def jd.cl_has(_:jd X scope)(h:scope.names.lookup x=some .free):∃c,(fj scope X.env).lookup x=some c:=by obtain⟨c,I⟩:=tU (env:=X.env) (names:=scope.names) (cs:=[]) (x:=x)<|.inr<|BE h;exact fz I
theorem jd.kindOf(S:jd X scope)(h:(compEnvC scope (fj scope X.env) C X.env).kindOf x=some .cell\/(compEnvC scope (fj scope X.env) C X.env).kindOf x=some .free):scope.names.lookup x=some .free:=by
 have e:(compEnvC scope (fj scope X.env) C X.env).kindOf x=(scope.names.lookup x).map λk=>if (k==NameKind.free&&X.env.scope.kind==.function&&X.env.kindOf x==some .cell) then NameKind.cell else k:=aE
 rw[e] at h;cases I:scope.names.lookup x with
 |none=>rw[I] at h;rcases h with h|h<;>cases h
 |some k=>
  rw[I] at h;cases k with|free=>rfl|cell=>exact absurd rfl (S.nocell _<|BE I)|_=>rcases h with h|h<;>cases h
def jd.vis(S:jd X scope)(U:x∈X.N)(h:y_ (compEnvC scope (fj scope X.env) C X.env).scope x):scope.names.lookup x=some .free:=by
 rcases h with h|h|h
 ·exfalso;have e:(compEnvC scope (fj scope X.env) C X.env).kindOf x=(scope.names.lookup x).map λk=>if (k==NameKind.free&&X.env.scope.kind==.function&&X.env.kindOf x==some .cell) then NameKind.cell else k:=aE
  have I:(compEnvC scope (fj scope X.env) C X.env).kindOf x=some .local:=h;rw[e] at I;cases J:scope.names.lookup x with
  |none=>rw[J] at I;cases I
  |some k=>
   rw[J] at I;have I:(if (k==NameKind.free&&X.env.scope.kind==.function&&X.env.kindOf x==some .cell)=true then NameKind.cell else k)=.local:=AZ I;split at I
   ·cases I
   ·subst I;exact S.apart x U J
 ·exact S.kindOf (C:=C)<|.inl h
 ·exact S.kindOf (C:=C)<|.inr h
def jd.back(S:jd X scope)(h:scope.names.lookup x=some .free):(compEnvC scope (fj scope X.env) C X.env).kindOf x=some .cell\/(compEnvC scope (fj scope X.env) C X.env).kindOf x=some .free:=by
 have e:(compEnvC scope (fj scope X.env) C X.env).kindOf x=(scope.names.lookup x).map λk=>if (k==NameKind.free&&X.env.scope.kind==.function&&X.env.kindOf x==some .cell) then NameKind.cell else k:=aE
 rw[e,h];show some (if _ then _ else _)=_\/some (if _ then _ else _)=_;split
 ·exact .inl rfl
 ·exact .inr rfl
def PF(X:Cx)(nC:Wk)(t:TT):Prop:=
 ∀(pins:List<|Addr×Obj) (s:Ws) (σ:St) (H:Hp) (Q:Bool->Hp->Prop),qt X pins σ H s->t σ H Q->
  wpAny (model X.prog X.w) X.A (forIn nC true λc r=>if r=true then do let ok <-isTrue c X.env (eval c X.env);pure (ForInStep.yield ok) else pure (ForInStep.yield r)) (TP X pins σ Q) X.xe s
def O_:TT:=λ_ H Q=>Q true H
def O' :PF X [] O_:=λ_ _ _ H _ I h=>Aj ⟨H,I,h⟩
def Pa{t:TT}(hc:PT X c t):PF X [c] t:=by intro J s U H Q I h;rw[C9];simp only[if_true];refine Aa<|Aa<|wr (hc J s U H Q I h) λb g q=>Aj ?_;exact Aj q
def fk{w:Wu}{R:Result->Ws->Prop}{iter:Expr}{it C:Wr}(I:Nat->Ws->Prop)
 (turn:∀n s,I n s->wpAny (model prog w) A (pyNext it) (λr J=>match r with
  |none=>R (.ok .next) J
  |some v=>wpAny (model prog w) A (letOwnedTupleGo target it v) (λ_ J=>wpAny (model prog w) A (assign target env v) (λ_ l=>
   wpAny (model prog w) A (forIn nC true λc r=>if r=true then do let ok <-isTrue c env (eval c env);pure (ForInStep.yield ok) else pure (ForInStep.yield r)) (λok g=>
    if ok=true then wpAny (model prog w) A (eval pj env) (λx o=>
     wpAny (model prog w) A (call (.builtin "list.append") [C,x]) (λ_ p=>∃m,m<n/\I m p) (λ_ _=>False) o) (λ_ _=>False) g
    else ∃m,m<n/\I m g) (λ_ _=>False) l) (λ_ _=>False) J) (λ_ _=>False) J) (λ_ _=>False) s)
 (n:Nat) (h:I n s):
 codeAny (model prog w) A (.compLoop (.ListComp pj [⟨target,iter,nC,0⟩] scope pos) 0 it C env) R s:=by
 refine codeAny_loop rfl I (λn s hI=>?_) n h;show wpAny _ A ((compTurn (.ListComp pj [⟨target,iter,nC,0⟩] scope pos) 0 it C env).onRaise (λx=>do noteFrame x env;theTreesLotGoes x)) _ _ s;refine wpAny_noted ?_;rw[compTurn_list];refine Aa<|wpAny_standAt<|Aa<|AW (turn n s hI) (λr J U=>?_) λ_ _ j=>j.elim;cases r with
 |none=>exact Aj U
 |some v=>
  refine Aa<|AW U (λ_ J U=>?_) λ_ _ j=>j.elim;refine Aa<|AW U (λ_ l T=>Aa<|AW T (λok g t=>?_) λ_ _ j=>j.elim) λ_ _ j=>j.elim;cases ok with
  |false=>exact Aj ⟨rfl,t⟩
  |true=>
   exact Aa<|Aa<|AW t (λx o a1=>Aa<|AW a1 (λ_ p a2=>Aj<|Aj ⟨rfl,a2⟩) λ_ _ j=>j.elim) λ_ _ j=>j.elim
def GU(n:Nat)(wi:TI)(g:TG)(tc:TT)(te:TE):TE:=λσ H Q=>wi σ H λJ H1=>∃W:Nat->Nat->Wx->Hp->Prop,(∃m,W 0 m [] H1)/\∀i m ys H,W i m ys H->
 (J.stop i H/\ys.length<=sizeLine/\∀D,H D=none->Q (.ref D) (upd H D<|.lst ys))\/
 (J.go i H/\ys.length<sizeLine/\∀x H',J.yld i H x H'->g x (σ++List.replicate n none) H' λI H2=>tc I H2 λb j=>
  if b=true then te I j λy l=>∃U,U<m/\W (i+1) U (ys++[y]) l else ∃U,U<m/\W (i+1) U ys j)
def pY(g:TG)(n k:Nat):Prop:=∀(σ:St),σ.length=n->∀x H Q,g x (σ++List.replicate k none) H Q->
 g x (σ++List.replicate k none) H λI H2=>((I.length=n+k/\∀(i:Nat) v,(σ++List.replicate k none)[i]?=some (some v)->I[i]?=some (some v))/\Q I H2)
section
variable {T:Wj}{iter:Expr}{g:TG}{tc:TT}{te:TE}
def ltN{b:Addr}{o:Obj}(e:h.get? b=some o):@LT.lt Nat instLTNat b h.objs.size:=xT e
def vA{a b:Addr}(h:@Ne Nat a b):a≠b:=h
def t_{a b:Addr}(h:@LE.le Nat instLENat a b):a<=b:=h
def Pb(eA:Wg)(n:Nat)(u:Wr):∃I,Obj.mapSeq (·.push u) {cls:=.type "list",data:=.seq eA.toArray n}=({cls:=.type "list",data:=.seq (eA++[u]).toArray I}:Obj):=
 ⟨_,by simp[Obj.mapSeq];rfl⟩
def wL{w:Wu}{D:Addr}(I:s.heap.get? D=some {cls:=.type "list",data:=.seq eA.toArray n})
 (hz:eA.length<=sizeLine) (h:∀h' J,Heap.SameBut D s.heap h'->h'.get? D=some {cls:=.type "list",data:=.seq (eA++[u]).toArray J}->Q .none {s with heap:=h'}):
 wpAny (model prog w) A (call (.builtin "list.append") [.ref D,u]) Q E s:=by
 have g:s.heap.IsList D eA.toArray:=⟨_,I,rfl,n,rfl⟩;refine wpAny_call_entry slot_list_append g.typeIs entry_list_append ?_<|args_list_append _ _;show wpAny _ _ (updateSeq D (·.push u) >>= λ_=>ret .none) _ _ s;refine Aa ?_;obtain⟨J,U⟩:=Pb eA n u;refine wpAny_updateSeq (f:=(·.push u)) I rfl (Aj ⟨.none,rfl,h _ J (At ..) ?_⟩) (by rw[Ap];exact hz) (by rw[Bt,Ap];exact El hz);rw[<-U];exact Fh _ I (by rw[U];rfl)
theorem m9{Q:VK}{c5:Wr}{I:Ws}{RR:Wr->Addr->Result->Ws->Prop}
 (S:jd X scope) (hc:X.calm=true)
 (hg:∀C fp s₀ H₀,PG (X.comp scope T C fp s₀ H₀) target g) (de:pY g X.N.length T.length) (hf:∀C fp s₀ H₀,PF (X.comp scope T C fp s₀ H₀) nC tc) (he:∀C fp s₀ H₀,PE (X.comp scope T C fp s₀ H₀) pj te)
 (h:GB X pins σ target (λJ H1=>∃W:Nat->Nat->Wx->Hp->Prop,(∃m,W 0 m [] H1)/\∀i m ys H,W i m ys H->
  (J.stop i H/\ys.length<=sizeLine/\∀D,H D=none->Q (.ref D) (upd H D<|.lst ys))\/
  (J.go i H/\ys.length<sizeLine/\∀x H',J.yld i H x H'->g x (σ++List.replicate T.length none) H' λc6 H2=>tc c6 H2 λb H3=>
   if b=true then te c6 H3 λy H4=>∃m',m'<m/\W (i+1) m' (ys++[y]) H4 else ∃m',m'<m/\W (i+1) m' ys H3)) c5 I)
 (di:∀D C s' H' m',qt X pins σ H' s'->oY X pins H' C->s'.heap.Ns C m'->Q (.ref D) H'->RR (.ref D) C (.ok .next) s'):
 wpAny (model X.prog X.w) X.A (newList []) (λc7 ay=>wpAny (model X.prog X.w) X.A (newFunctionEnv scope X.env.globals (fj scope X.env) [] X.env.qual none .none<|some X.env) (λbh c8=>
  codeAny (model X.prog X.w) X.A (.compStart (.ListComp pj [⟨target,iter,nC,0⟩] scope pos) 0 c5 c7 {bh with scope:=relabel scope X.env}) (RR c7 bh.locals) c8) E ay) E I:=by
 obtain⟨it,fp,tn,J,H2,rfl,U,Tn,bj,f2,W,⟨m0,w0⟩,turn⟩:=h;refine Bo (wpAny_newFunctionEnv S.nocell (by intro y hy;simp at hy) (λbb al t=>?_) S.kind);dsimp only at al t ⊢;generalize bn:I.heap.push {cls:=.type "list",dict:=none,data:=.seq ([]:Wg).toArray}=G at al t ⊢;have hC:G.objs.size=I.heap.objs.size+1:=by rw[<-bn,Fg]
 obtain⟨D,eD⟩:∃D,I.heap.objs.size=D:=⟨_,rfl⟩;obtain⟨C,eC⟩:∃C,G.objs.size=C:=⟨_,rfl⟩;rw[eD] at hC ⊢;rw[eC] at hC al t ⊢;have bp:D≠C:=by lia
 have old:∀b o,I.heap.get? b=some o->bb.get? b=some o:=λb o e=>by have j:=ltN e;exact t.extBut b o (vA (by lia))<|wh _<|bn▸wh _ e
 have c9:bb.get? D=some {cls:=.type "list",data:=.seq ([]:Wg).toArray 0}:=by refine t.extBut _ _ bp<|wh _ ?_;rw[<-bn,<-eD];exact ya _ rfl
 have bq:∀b∈fp,@LT.lt Nat instLTNat b I.heap.objs.size:=λb j=>by obtain⟨o,e,_⟩:=Tn.obj _ _ bj b j;exact ltN e
 have cb:@LT.lt Nat instLTNat X.env.locals I.heap.objs.size:=U.lt;have eg:X.s₀.heap.objs.size<=I.heap.objs.size:=U.sz;have HD:H2 D=none:=U.hok.fresh<|t_ (by exact uz);have HC:H2 C=none:=U.hok.fresh<|t_ (by lia);have dj:∀b:Addr,@LE.le Nat instLENat I.heap.objs.size b->b∉bX X.stack:=λb j z=>by
  have q:=U.stkSub b z;rcases As.mp q with q|q
  ·rw[<-q] at cb;exact absurd cb<|EO.mpr j
  ·exact U.nofs j q
 have bc:∀x c,X.env.cells.lookup x=some c->@LT.lt Nat instLTNat c I.heap.objs.size:=λx c e=>by obtain⟨v,q⟩:=U.cell x c e;exact q.lt
 let X':Cx:=X.comp scope T C fp I H2
 have br:X'.Ok:={
  mod:=U.ok.mod,kind:=S.kind,glob:=U.ok.glob,blt:=U.ok.blt
  above:=t_ (by show @LE.le Nat instLENat I.heap.objs.size C;lia)
  inj:=λx y c h1 h2=>U.ok.inj x y c (S.cl_old U h1) (S.cl_old U h2)
  has:=λx hx=>S.cl_has (S.kindOf hx)
  cab:=λx c hx=>absurd (show false=true from hx) (by simp)
  hd:=U.ok.hd,frames:=U.ok.frames,stk:=.inl rfl
  exf:=λb j=>⟨vA (by have:=bq b j;show @Ne Nat b C;lia),λx c e=>(f2 b j).2.2.2.2.1 x c<|S.cl_old U e⟩
  bs:=U.bs,bsz:=AM U.ok.bsz U.sz
  noex:=λb o e j=>by
   obtain⟨e0,n0⟩:=U.ok.bs b o e;rcases (f2 b j).2.2.2.1 with q|q
   ·exact U.ok.noex b o e q
   ·have q':@LE.le Nat instLENat X.s₀.heap.objs.size b:=q;have:=ltN e0;lia
  exfs:=λb j z=>by
   rcases As.mp (U.stkSub b z) with q|q
   ·exact(f2 b j).2.1 q
   ·exact(f2 b j).2.2.1 q
  funs:=U.stack,frf:=U.stkFree}
 have I4:∀tk,0<tk->qt X' pins (σ++List.replicate T.length none) H2 {I with heap:=bb,toks:=tk}:=λtk dp=>{
  tk:=dp,ok:=br,os:=rfl,bare:=U.bare,base:=Un.kept old
  loc:=⟨_,al,λi x v e1 e2 e3=>by
   have hi:i<σ.length:=by
    by_cases hi:i<σ.length
    ·exact hi
    ·rw[AF (by exact FE),CF] at e2;split at e2<;>cases e2
   rw[Az hi] at e2;have dr:i<X.N.length:=by rw[<-U.len];exact hi
   have cc:X.N[i]?=some x:=by have:(X.N++T)[i]?=some x:=e1;rw[Az dr] at this;exact this
   have c1:=S.vis (AC cc) e3;obtain⟨m,hn,hl⟩:=U.loc;have hk:=S.free x c1;obtain⟨u,r,l⟩:=hl i x v cc e2<|.inr hk;refine⟨u,r,.inr ⟨S.back c1,?_⟩⟩;rcases l with⟨l,_⟩|⟨_,c,e,z⟩
   ·rw[l] at hk;rcases hk with q|q<;>cases q
   ·obtain⟨c',e'⟩:=S.cl_has c1;have ck:=S.cl_old U e';rw[e] at ck;cases ck;exact⟨c,e',z.keeps old⟩⟩
  cell:=λx c e=>by obtain⟨v,z⟩:=U.cell x c<|S.cl_old U e;exact⟨v,z.keeps old⟩
  free:=HC,freeC:=λx c e=>U.freeC x c (S.cl_old U e)
  pin:=λp hp=>by
   obtain⟨a,b,c,d,e⟩:=U.pin p hp;have dt:=ltN a;refine⟨old _ _ a,b,vA (by show @Ne Nat p.1 C;lia),λz=>?_,e⟩;rcases As.mp (U.stkSub _ z) with q|q
   ·exact c q
   ·exact d q
  hok:=U.hok.kept old
  len:=by show(σ++_).length=(X.N++T).length;rw[Ac,Ac,Bv,U.len]}
 have c2:∀(aL:List<|Addr×Obj) (H':Hp),(∀p∈aL,p∈pins\/p.1=D)->(∀b∈fp,H' b=none)->∀b∈fp,oY X' aL H' b:=λaL H' hp hn b j=>by
  obtain⟨_,q1,q2,q3,q4,q5⟩:=f2 b j;have dt:=bq b j;refine⟨hn b j,vA (by show @Ne Nat b C;lia),br.exfs b j,.inl j,(br.exf b j).2,λp dv=>?_⟩;rcases Ak.mp dv with z|z
  ·exact q5 p<|Am _ z
  ·rcases hp p z with z|z
   ·exact q5 p<|Ah _ z
   ·rw[z];exact vA (by lia)
 have stay:Tn.keep=Tn.keep:=rfl;have bi:∀ay:Ws,ay={I with heap:=bb,toks:=I.toks+([]:List<|Str×Wr).length}->
  codeAny (model X.prog X.w) X.A (.compLoop (.ListComp pj [⟨target,iter,nC,0⟩] scope pos) 0 (.ref it) (.ref D) X'.env) (RR (.ref D) C) ay:=by
  rintro ay rfl;refine fk (λn s'=>∃i c3 H' ys ax k,qt X' pins c3 H' s'/\(c3.length=X.N.length+T.length/\∀(i:Nat) v,(σ++List.replicate T.length none)[i]?=some (some v)->c3[i]?=some (some v))/\
   s'.heap.get? D=some {cls:=.type "list",data:=.seq (ax:Wg).toArray k}/\zf ys ax/\H' D=none/\tn i s'.heap/\(∀b∈fp,H' b=none)/\W i n ys H') ?_ m0
   ⟨0,_,H2,[],[],0,I4 _ U.tk,⟨by rw[Ac,Bv,U.len],λ_ _ e=>e⟩,c9,.nil,HD,Tn.keep _ _ _ bj λb _ o e=>old b o e,λb j=>(f2 b j).1,w0⟩
  rintro n s3 ⟨i,ej,H3,ys,ax,k,I3,⟨dV,e4⟩,e5,bf,bg,cm,cn,w3⟩;have ef:ax.length=ys.length:=bf.length.symm;have cv:D∉X'.fs:=dj D (by exact uz);have cy:D≠X'.env.locals:=bp;have cI:qt X' (pins++[(D,{cls:=.type "list",data:=.seq ax.toArray k})]) (σ++List.replicate T.length none) H3 s3:=
   (I3.weak (by rw[dV,Ac,Bv,U.len]) e4).pins_of λp hp=>by
    rcases Ak.mp hp with z|z
    ·exact I3.pin p<|Ah _ z
    ·have e:=Ao.mp z;subst e;exact⟨e5,bg,cy,cv,λv z=>by cases z⟩
  have ba:∀p∈pins++[(D,({cls:=.type "list",data:=.seq ax.toArray k}:Obj))],p∈pins\/p.1=D:=λp hp=>by
   rcases Ak.mp hp with z|z
   ·exact .inl z
   ·exact .inr (by rw[Ao.mp z])
  rcases turn i n ys H3 w3 with⟨stop,hz,qn⟩|⟨go,hz,step⟩
  ·refine wr (Tn.done X' rfl rfl rfl hc i _ s3 _ H3 _ cI (c2 _ H3 ba cn) cm stop) λr s4 ⟨hr,ac⟩=>?_;subst hr;obtain⟨e6,ek,_⟩:=ac.pin (D,_)<|Ah _<|Ah _ Ar;obtain⟨m',e7,_⟩:=ac.loc;have un:Un (bX X.stack) fp H2 (upd H3 D<|.lst ys) I.heap s4.heap:={
    keep:=ac.base.keep,slot:=ac.base.slot
    free:=λb o e n hx=>by have:=ltN e;rw[qp<|vA (by lia)];exact ac.base.free b o e n hx
    there:=ac.base.there
    tups:=λb xs e=>by rw[qp (λz=>by rw[z,HD] at e;cases e)];exact ac.base.tups b xs e
    frzs:=λb o u e=>by rw[qp (λz=>by rw[z,HD] at e;cases e)];exact ac.base.frzs b o u e
    tbls:=λb ps e=>by rw[qp (λz=>by rw[z,HD] at e;cases e)];exact ac.base.tbls b ps e}
   have e8:eE X.prog X.w (upd H3 D<|.lst ys) s4.heap:=λb u e=>by
    by_cases j:b=D
    ·subst j;rw[zu] at e;cases e;exact⟨hz,ax,k,bf,e6⟩
    ·rw[qp j] at e;refine(ac.hok b u e).stay (λ_ _ _ q=>q) (λc q=>?_) λc xs q=>?_
     ·rw[qp<|zx q bg];exact q
     ·rw[qp<|zx q bg];exact q
   have I5:qt X pins σ (upd H3 D<|.lst ys) s4:=U.call' (ch:=fp) ac.os un e8 ac.bare λb j=>⟨(f2 b j).2.2.2.1,(f2 b j).2.1,(f2 b j).2.2.2.2.1,(f2 b j).2.2.2.2.2⟩;refine di D C s4 _ m' I5 ?_ e7<|qn D bg;refine⟨by rw[qp<|AH bp];exact ac.free,?_,?_,.inr ?_,λx c e=>?_,λp hp=>?_⟩
   ·exact vA (by lia)
   ·exact U.nofs<|t_ (by lia)
   ·exact t_ (by lia)
   ·exact vA (by have:=bc x c e;lia)
   ·exact vA (by have:=ltN (U.pin p hp).1;lia)
  ·refine wr (Tn.item X' rfl rfl rfl hc i _ s3 _ H3 _ cI (c2 _ H3 ba cn) cm go) λr s4 ⟨u,hr,h4⟩=>?_;subst hr;refine wr h4 λ_ s5 ⟨x,H5,I5,r5,y5,c4,ec⟩=>?_;have ed:=I5.pinned (c2 _ H5 ba ec)<|Tn.obj _ _ c4;refine AW ((hg C fp I H2) _ s5 _ H5 x u _ ed r5<|de σ U.len x H5 _<|step x H5 y5) (λ_ s6 ⟨bd,H6,I6,⟨cP,d0⟩,q6⟩=>?_) λ_ _ z=>z;refine AW ((hf C fp I H2) _ s6 bd H6 _ I6 q6) (λb s7 ⟨H7,I7,q7⟩=>?_) λ_ _ z=>z;have xt:∀{s8:Ws} {H8:Hp} (I8:qt X' ((pins++[(D,{cls:=.type "list",data:=.seq ax.toArray k})])++nJ fp s5.heap) bd H8 s8),tn (i+1) s8.heap/\(∀b∈fp,H8 b=none)/\s8.heap.get? D=some {cls:=.type "list",data:=.seq ax.toArray k}/\H8 D=none/\qt X' pins bd H8 s8:=λ{s8 H8} I8=>by
    refine⟨Tn.keep _ _ _ c4 λb j o e=>(I8.pin (b,o)<|Ah _<|Ah _<|df j e).1,λb j=>?_,?_,?_,I8.unpinned.unpinned⟩
    ·obtain⟨o,e,d⟩:=Tn.obj _ _ c4 b j;exact(I8.pin (b,o)<|Ah _<|Ah _<|df j e).2.1
    ·exact(I8.pin (D,_)<|Ah _<|Am _<|Ah _ Ar).1
    ·exact(I8.pin (D,_)<|Ah _<|Am _<|Ah _ Ar).2.1
   cases b with
   |false=>
    rw[AB AG] at q7 ⊢;obtain⟨m',hm,w7⟩:=q7;obtain⟨a1,a2,a3,a4,a5⟩:=xt I7;exact⟨m',hm,i+1,bd,H7,ys,ax,k,a5,⟨cP,d0⟩,a3,bf,a4,a1,a2,w7⟩
   |true=>
    rw[AD rfl] at q7 ⊢;refine AW ((he C fp I H2) _ s7 bd H7 _ I7 q7) (λv s8 ⟨y,H8,I8,r8,m',hm,w8⟩=>?_) λ_ _ z=>z;obtain⟨a1,a2,a3,a4,a5⟩:=xt I8;refine wL a3 (by lia) λh9 k9 dc ee=>?_;have nD:∀b∈fp,b≠D:=λb j=>vA (by have:=bq b j;lia);refine⟨m',hm,i+1,bd,H8,ys++[y],ax++[v],k9,?_,⟨cP,d0⟩,ee,bf.append<|.cons r8 .nil,a4,Tn.keep _ _ _ a1 λb j o e=>(dc.2 b<|nD b j).trans e,a2,w8⟩;exact a5.turned (t':=s8.toks) (it:=D) (λb o j e=>(dc.2 b j).trans e) a4 cy (.inr (t_ (by show @LE.le Nat instLENat I.heap.objs.size D;exact uz))) (λx c e=>vA (by have:=bc x c<|S.cl_old U e;lia)) λp hp=>vA (by have:=ltN (U.pin p hp).1;lia)
 exact codeAny_compStart_list (bi _ rfl)<|Tn.self _ _ _ _ _ (Tn.keep _ _ _ bj λb _ o e=>old b o e)<|bi _ rfl
end
section
variable {T:Wj}{iter:Expr}{g:TG}{tc:TT}{te:TE}
def Pd(T:Wj)(S:jd X scope)(hc:X.calm=true)(hi:PI X target iter wi)(t:∀C fp s₀ H₀,PG (X.comp scope T C fp s₀ H₀) target g)(j:pY g X.N.length T.length)
 (hf:∀C fp s₀ H₀,PF (X.comp scope T C fp s₀ H₀) nC tc) (he:∀C fp s₀ H₀,PE (X.comp scope T C fp s₀ H₀) pj te)
 (hs:∀x,foldedSetIterable iter X.env x=pure x:=by intro _;rfl):PE X (.ListComp pj [⟨target,iter,nC,0⟩] scope pos) (GU T.length wi g tc te):=by
 intro J s r H Q I h;rw[eval_ListComp];refine wpAny_comprehension_free (use:=none) rfl hs (S.clo I) S.kind S.names<|wr (hi J s r H _ I h) λv s1 h1=>wr h1 λa1 s2 h2=>?_;refine m9 (RR:=λl C=>compPost (model X.prog X.w) X.A X.xe none (EP X J r Q) l C) S hc t j hf he h2 ?_;intro D C s' H' m' I' U hn q;exact⟨m',hn,λh' p=>⟨.ref D,H',I'.turned (t':=s'.toks) (it:=C) (λb o hb e=>(p.2 b hb).trans e) U.1 (AH<|AH U.2.1) U.2.2.2.1 U.2.2.2.2.1 U.2.2.2.2.2,rfl,q⟩⟩
theorem Pe(T:Wj){px j:Pos}(hN:X.N.Nodup)(l:X.N[i]?=some x)(hx:Loc X.env.scope x)(S:jd X scope)(hc:X.calm=true)(hi:PI X target iter wi)
 (hg:∀C fp s₀ H₀,PG (X.comp scope T C fp s₀ H₀) target g) (p:pY g X.N.length T.length)
 (hf:∀C fp s₀ H₀,PF (X.comp scope T C fp s₀ H₀) nC tc) (he:∀C fp s₀ H₀,PE (X.comp scope T C fp s₀ H₀) pj te)
 (r:swapsWith (.ListComp pj [⟨target,iter,nC,0⟩] scope j) (some<|.Name x px) pos.line X.env=pure true:=by rfl)
 (t:X.fn x=true\/X.env.scope.names.lookup x=some .local:=by first|exact .inl rfl|exact .inr rfl|assumption)
 (hs:∀x,foldedSetIterable iter X.env x=pure x:=by intro _;rfl):PS X (.Assign [.Name x px] (.ListComp pj [⟨target,iter,nC,0⟩] scope j) pos) (GA (GU T.length wi g tc te)<|fA i):=by
 intro pins s σ H D I h;rw[exec_Assign_Name_used _ _ _ _ r];refine Aa<|wpAny_standAt<|Aa ?_;show wpAny _ X.A (do let _ <-comprehension (.ListComp pj [⟨target,iter,nC,0⟩] scope j) scope X.env _ (newList []) false (eval iter X.env) (some<|assign (.Name x px) X.env)) _ _ s;refine Aa (AW (wpAny_comprehension_free (use:=some<|assign (.Name x px) X.env) (Q:=λ_ U=>SP X pins D .next U) rfl hs (S.clo I) S.kind S.names
  (wr (hi pins s σ H _ I h) λv s1 h1=>wr h1 λac s2 h2=>?_)) (λ_ U hq=>Aj<|Aj hq) λ_ _ e=>e)
 refine m9 (RR:=λa1 C=>compPost (model X.prog X.w) X.A X.xe (some<|assign (.Name x px) X.env) (λ_ U=>SP X pins D .next U) a1 C) (pins:=pins) (σ:=σ) (Q:=λx H1=>fA i x σ H1 D.nx) S hc hg p hf he h2 ?_;intro A C U H' m' I' J hn q;show wpAny _ X.A (assign (.Name x px) X.env<|.ref A) _ _ U;refine wpAny_assign_Name<|pP I' hN l hx (v:=.ref A) rfl (λa2 a3 ⟨a,hs,ha⟩ _=>?_) t;have a4:C≠a:=by
  rcases ha with z|z
  ·rw[z];exact J.2.1
  ·exactλe=>J.2.2.2.2.1 x a z e.symm
 exact⟨m',hn.sameBut hs a4,λh' a5=>⟨_,H',a3.turned (t':=a2.toks) (it:=C) (λb o hb e=>(a5.2 b hb).trans e) J.1 J.2.1 J.2.2.2.1 J.2.2.2.2.1 J.2.2.2.2.2,q⟩⟩
end
def v4(outer:Scope)(N:Wj)(I:Scope):Bool:=
 decide (I.kind=.function)&&I.names.all (λp=>decide (p.2≠.cell)&&(decide (p.2≠.local)||decide (I.names.lookup p.1=some .local))&&(decide (p.2≠.free)||(decide (outer.names.lookup p.1=some .cell)||decide (outer.names.lookup p.1=some .free))))
  && N.all (λx=>decide<|I.names.lookup x≠some .local)
def v4.mk{I:Scope}(h:v4 X.env.scope X.N I=true):jd X I:=by
 unfold v4 at h;rw[AS,AS,Cm,Cm] at h;obtain⟨⟨h1,h2⟩,h3⟩:=h;have g:∀n,(n,NameKind.free)∈I.names->X.env.kindOf n=some .cell\/X.env.kindOf n=some .free:=λn J=>by
  have q:=h2 _ J;simp only[AS,EF,decide_eq_true_eq] at q;rcases q.2 with z|z
  ·exact absurd rfl z
  ·exact z
 refine⟨of_decide_eq_true h1,λy U=>?_,λy U e=>?_,λn J=>g n<|BE J,g,λx j=>of_decide_eq_true<|h3 x j⟩
 ·have q:=h2 _ U;simp only[AS,EF,decide_eq_true_eq] at q;exact q.1.1
 ·have q:=h2 _ U;simp only[AS,EF,decide_eq_true_eq] at q;rcases q.1.2 with z|z
  ·exact absurd e z
  ·exact z
abbrev EV:=@v4.mk
def vS(n:Nat):pY (fA n) n 1:=by
 intro U I x H Q h;refine⟨⟨by simp[I],λi v e=>?_⟩,h⟩;by_cases J:i=n
 ·subst J;rw[AF (by exact uz)] at e;simp[I] at e
 ·rw[A5<|AH J];exact e
def aW:bootBuiltins "isinstance"=some (.builtin "isinstance"):=by decide +kernel
def gi:bootBuiltins "tuple"=some (.type "tuple"):=by decide +kernel
def Iy:bootBuiltins "str"=some (.type "str"):=by decide +kernel
def wN:bootBuiltins "int"=some (.type "int"):=by decide +kernel
def dS:bootBuiltins "list"=some (.type "list"):=by decide +kernel
def Iz:bootBuiltins "len"=some (.builtin "len"):=by decide +kernel
def GV{k:Nat}(I:wz k A):A.units+128<cLine:=by have:=I.un;lia
def cz(h:n<=1000):n<=sizeLine:=Bi<|qK h
def Cal.of{P:Wt}{w:Wu}{K:Af}{k:Nat}(F:bQ P w K mg base CX0 k f fd ps sp)(b:dw K fd ps [])(I:PySem.W.keepIn K (.ref f)=true)(m:mg x=some (.ref f)):
 Cal P w K mg base k x ps sp:=⟨f,fd,F,b,I,m⟩
def bQ.never{P:Wt}{w:Wu}{K:Af}{k:Nat}(no:∀vs H Q E,¬sp vs H Q E):bQ P w K mg base CX0 k f fd ps sp:=
 ⟨λvs H Q E h=>absurd h<|no vs H Q E,λA I s H args J vs Q E _ _ _ _ h=>absurd h<|no vs H Q E⟩
section
variable (K:Af)(P:Wt)(w:Wu)
end
structure j6(K:Af)(x:Str)(st:Stmt):Prop where
 ex:∃(f:Addr) (kV hQ pm:Wr) (an:Option Addr) (eW ct:Wr),PySem.W.nsIn K mainGlobals x=some (some<|.ref f)/\Fun K x x st f (PySem.W.fnOf x x (kc st) (jv st) (qw st) .none kV hQ pm an eW ct)
def def_in{K:Af}{kV ct:Wr}(a:PySem.W.nsIn K mainGlobals x=some (some<|.ref f))
 (l:K.lookup f=some ⟨oc,od,.func<|PySem.W.fnOf x x (kc st) (jv st) (qw st) .none kV hQ pm an eW ct,pR⟩) (c:PySem.W.codeIn K eW x=true) (k:PySem.W.keepIn K (.ref f)=true):j6 K x st:=
 ⟨f,kV,hQ,pm,an,eW,ct,a,OW (st:=st) l c k⟩
def j6.use{K:Af}(D:j6 K x st)(X:K.In h)(G:h.Ns mainGlobals mg)
 (I:∀(kV hQ pm:Wr) (an:Option Addr) (eW ct:Wr) (us:Wg),us.length=ps.length->bindArgs (PySem.W.fnOf x x (kc st) (jv st) (qw st) .none kV hQ pm an eW ct) ⟨us,[]⟩=pure (ps.zip us)):
 ∃f fd,Fun K x x st f fd/\dw K fd ps []/\mg x=some (.ref f):=by
 obtain⟨f,kV,hQ,pm,an,eW,ct,a,F⟩:=D.ex;exact⟨f,_,F,dw.all<|I kV hQ pm an eW ct,Bq X G a⟩
def zA(w:Wu)(r:Str×Tok×Str×Tok):DictEntry:=⟨hashStr w r.1,.str r.1 r.2.1,.str r.2.2.1 r.2.2.2⟩
def Pf{K:Af}{P:Wt}{w:Wu}{c:Addr}{U:Nat}(rows:List<|Str×Tok×Str×Tok)(l:K.lookup c=some ⟨.type "dict",none,.dict (rows.map<|zA w).toArray U,#[]⟩)(hs:(c==sysModules)=false)(hz:rows.length<=1000)(nd:(rows.map λr=>(Sum.inr r.1:jh)).Nodup):
 KD K P w c (rows.map λr=>(Sum.inr r.1,.str r.2.2.1)):=by
 refine⟨hs,by rw[Ae];exact cz hz,λh X=>⟨rows.map λr=>(Sum.inr r.1,.str r.2.2.1 r.2.2.2),?_,_,_,U,X c _ l,⟨rfl,rfl,rfl⟩,rfl,?_,?_,?_⟩⟩
 ·unfold KV;clear l hz nd
  induction rows with|nil=>exact .nil|cons r t I=>exact .cons ⟨rfl,_,rfl⟩ I
 ·intro e g;have J:e∈rows.map (zA w):=by simpa using g
  obtain⟨r,_,rfl⟩:=Bg.mp J;exact⟨Sum.inr r.1,jB r.1 r.2.1,rfl⟩
 ·show Pairs _ (rows.map<|zA w).toArray.toList _;rw[List.toList_toArray];clear l hz nd
  induction rows with|nil=>exact .nil|cons r t I=>exact .cons (jB r.1 r.2.1) rfl I
 ·rw[BK];exact nd
end L2
namespace Words
open PySem L2
inductive Wd where
 |leaf (t:Bool) (n:Str)
 |node (e:Bool) (l r:Wd)
def kL:Bool->Str
 |false => "plain"
 |true => "turned"
def kN:Bool->Str
 |false => "both"
 |true => "either"
def Wd.turn:Wd->Wd
 |.leaf t n=>.leaf (!t) n
 |.node e l r=>.node (!e) l.turn r.turn
def Wd.depth:Wd->Nat
 |.leaf _ _=>1
 |.node _ l r=>max l.depth r.depth+1
def Wd.leaves:Wd->Nat
 |.leaf _ _=>1
 |.node _ l r=>l.leaves+r.leaves
theorem Wd.leaves_pos:∀w:Wd,1<=w.leaves
 |.leaf _ _=>An _
 |.node _ l r=>by have:=Wd.leaves_pos l;show 1<=l.leaves+r.leaves;exact GR
abbrev E6:=@Wd.leaves_pos
theorem Wd.depth_le:∀w:Wd,w.depth<=w.leaves
 |.leaf _ _=>An _
 |.node _ l r=>by have:=Wd.depth_le l;have:=Wd.depth_le r;have:=E6 l;have:=E6 r;show max l.depth r.depth+1<=l.leaves+r.leaves;lia
def nO:Wd->Da
 |.leaf t n=>.tup [.s<|.str<|kL t,.s<|.str n]
 |.node e l r=>.tup [.s<|.str<|kN e,nO l,nO r]
theorem gq:∀w:Wd,Da.eq (nO w) (nO w)=true
 |.leaf t n=>by simp[nO,Da.eq,Da.eqs,gZ]
 |.node e l r=>by simp[nO,Da.eq,Da.eqs,gZ,gq l,gq r]
def fD(x:Str):Prop:=1<=x.length/\x.length<=8/\∀c∈x.cps.toList,97<=c/\c<=122
def Wd.ok:Wd->Prop
 |.leaf _ n=>fD n
 |.node _ l r=>l.ok/\r.ok
def Paired.getP{F:α->β->Prop}:∀{xs:List α} {ys:List β} {i:Nat} {x:α},Paired F xs ys->xs[i]?=some x->∃y,ys[i]?=some y/\F x y:=by
 intro xs ys i x h
 induction h generalizing i with
 |nil=>intro h;simp at h
 |cons r t I=>
  intro h;cases i with
  |zero=>simp at h;subst h;exact⟨_,rfl,r⟩
  |succ i=>
   obtain⟨y,e,q⟩:=I (i:=i) (by simpa using h);exact⟨y,by simpa using e,q⟩
end Words
namespace L2
open PySem PySem.Spec PyProof.Rows
def iz:bootBuiltins "max"=some (.builtin "max"):=by decide +kernel
def l6:bootBuiltins "bool"=some (.type "bool"):=by decide +kernel
end L2
namespace Words
open PySem L2
def Wd.size:Wd->Nat
 |.leaf _ _=>1
 |.node _ l r=>1+l.size+r.size
theorem Wd.size_eq:∀w:Wd,w.size+1=2*w.leaves
 |.leaf _ _=>rfl
 |.node _ l r=>by have:=Wd.size_eq l;have:=Wd.size_eq r;show 1+l.size+r.size+1=2*(l.leaves+r.leaves);lia
end Words
namespace L2
open PySem PySem.Spec PyProof.Rows
theorem x9.get{P:Wt}{w:Wu}{a:Addr}{o:HO}(x:x9 P w H h a o):∃ob,h.get? a=some ob:=by
 cases o with
 |lst J=>obtain⟨_,_,_,_,e⟩:=x;exact⟨_,e⟩
 |tup J=>obtain⟨_,_,_,_,e,_⟩:=x;exact⟨_,e⟩
 |dK I=>obtain⟨_,_,_,_,o,_,_,e,_⟩:=x;exact⟨_,e⟩
 |dT I=>obtain⟨_,_,_,_,o,_,_,e,_⟩:=x;exact⟨_,e⟩
 |set S n=>obtain⟨o,_,_,_,e,_⟩:=x;exact⟨_,e⟩
 |ins C U fs=>obtain⟨_,_,_,e,_⟩:=x;exact⟨_,e⟩
 |own y=>exact x
 |xd fs=>obtain⟨_,⟨_,_,_,e,_⟩,_⟩:=x;exact⟨_,e⟩
 |rng lo g=>obtain⟨_,_,_,e⟩:=x;exact⟨_,e⟩
 |frz ob u=>obtain⟨e,_⟩:=x;exact⟨_,e⟩
 |tbl j=>exact⟨_,show h.get? a=some _ from x⟩
 |met f y=>exact⟨_,show h.get? a=some _ from x⟩
 |ext l=>obtain⟨_,e,_⟩:=x;exact e
def sJ(h0 h:Wv)(H:Hp)(a C:Addr)(tr:Option Addr):Prop:=
 h0.get? a=none/\H a=none/\∃I vs a0,h.get? a=some I/\I.cls=.ref C/\I.data=.fields vs/\vs[0]?=some a0/\
  match tr with
  |none=>vs[1]?=some .none
  |some T=>vs[1]?=some (.ref T)/\h0.get? T=none/\H T=none/\T≠a/\∃J ts,h.get? T=some J/\J.data=.fields ts/\ts[3]?=some .none
def ar(a:Addr)(tr:Option Addr)(fs:List Addr):List Addr:=a::(tr.toList++fs)
section
variable {a:Addr}{tr:Option Addr}
def lZ{l:List Env}{b:Addr}(h:env∈l)(e:env.frame=some b):b∈bX l:=DO.mpr ⟨env,h,e⟩
def lQ(I:qt X pins σ H s)(hs:X.stack=X.env::X.outer)(hx:X.ex=[])(new:X.s₀.heap.get? a=none)(free:H a=none)(j:∀T,tr=some T->X.s₀.heap.get? T=none/\H T=none){a0 fl:Wr}
 (k1:(PySem.W.hideAll s.heap<|ar a tr<|bX X.stack).StaysIn h') (k2:h'.FunFrames (PySem.W.hideAll s.heap<|ar a tr<|bX X.stack) X.stack) (k3:h'.TracedAtW (PySem.W.hideAll s.heap<|ar a tr<|bX X.stack) a (.ref C) a0 fl)
 (k4:∀b o,s.heap.get? b=some o->(∀vs,o.data≠.fields vs)->∃sl,h'.get? b=some {o with slots:=sl}):
 Un X.fs [] X.H₀ H X.s₀.heap h'/\eE X.prog X.w H h'/\∃T,(∀b o,s.heap.get? b=some o->(∀T0,tr=some T0->b≠T0)->b≠T)/\X.s₀.heap.get? T=none/\H T=none/\T≠a/\∃oe vs oT ts,h'.get? a=some oe/\oe.cls=.ref C/\vs[0]?=some a0/\oe.data=.fields vs/\vs[1]?=some (.ref T)/\h'.get? T=some oT/\oT.data=.fields ts/\ts[3]?=some fl:=by
 have kp:∀b o,s.heap.get? b=some o->b∉ar a tr (bX X.stack)->h'.get? b=some o:=λb o e n=>k1 b o<|C3 _ e n;have sl:∀b o,s.heap.get? b=some o->b∈bX X.stack->∃sl,h'.get? b=some {o with slots:=sl}:=λb o e J=>by obtain⟨_,l,e',nf⟩:=I.stack.mem J;rw[e] at e';cases e';exact k4 b o e nf
 have p:∀b,b∈ar a tr (bX X.stack)->H b=none:=λb J=>by
  rcases As.mp J with e|J
  ·rw[e];exact free
  ·rcases Ak.mp J with q|q
   ·exact(j b (by simpa using q)).2
   ·exact I.stkFree b q
 have g:∀b o,X.s₀.heap.get? b=some o->b∉X.fs->b∉ar a tr (bX X.stack):=λb o e nb J=>by
  rcases As.mp J with q|J
  ·rw[q,new] at e;cases e
  ·rcases Ak.mp J with q|q
   ·rw[(j b (by simpa using q)).1] at e;cases e
   ·rcases As.mp (I.stkSub b q) with q|q
    ·exact absurd (AK (xT e) I.ok.above) (by rw[q];exact B8 _)
    ·exact nb q
 have r:∀b,b∈X.fs->b∈bX X.stack:=λb J=>by
  rw[hs];unfold bX;rw[CC];split
  ·exact J
  ·exact Ai _ J
 have U:∀b:Addr,b∉X.ex:=λb=>by rw[hx];simp
 have a3:eE X.prog X.w H h':=λb u e=>(I.hok b u e).stay (λc w' hc q=>kp c w' q λhm=>by
  have n:=p c hm;rcases hc with z|z
  ·rw[z,e] at n;cases n
  ·rw[z] at n;cases n) (λ_ q=>q) λ_ _ q=>q
 refine⟨⟨λb o e n J _=>?_,λb o e n J _=>?_,λb o e n _=>I.base.free b o e n<|U b,λb o e _=>?_,I.base.tups,I.base.frzs,I.base.tbls⟩,a3,?_⟩
 ·exact kp b o (I.base.keep b o e n J<|U b)<|g b o e J
 ·obtain⟨z,t⟩:=I.base.slot b o e n J<|U b;obtain⟨z',e2⟩:=sl b _ t<|r b J;exact⟨z',e2⟩
 ·obtain⟨l,t⟩:=I.base.there b o e<|U b;by_cases J:b∈X.fs
  ·obtain⟨z',e2⟩:=sl b _ t<|r b J;exact⟨_,e2⟩
  ·exact⟨l,kp b l t<|g b o e J⟩
 ·obtain⟨al,ax,T,oT,ts,ay,⟨aL,ba⟩,bb,bc,a4,a1,hT,a5,h3⟩:=k3;have a2:∀o,s.heap.get? T=some o->T∈ar a tr (bX X.stack):=λo e=>by
   by_cases q:T∈ar a tr (bX X.stack)
   ·exact q
   ·rw[C3 _ e q] at a4;cases a4
  have ac:T∉bX X.stack:=λJ=>by obtain⟨_,l,e',nf⟩:=k2.mem J;rw[hT] at e';cases e';exact nf ts a5
  refine⟨T,λb o e ne z=>?_,?_,?_,a1,al,ax,oT,ts,ay,aL,ba,bb,bc,hT,a5,h3⟩
  ·subst z;rcases As.mp (a2 o e) with z|z
   ·exact a1 z
   ·rcases Ak.mp z with z|z
    ·exact ne b (by simpa using z) rfl
    ·exact ac z
  ·cases q:X.s₀.heap.get? T with
   |none=>rfl
   |some o=>
    obtain⟨l,t⟩:=I.base.there T o q<|U T;rcases As.mp (a2 l t) with z|z
    ·exact absurd z a1
    ·rcases Ak.mp z with z|z
     ·rw[(j T (by simpa using z)).1] at q;cases q
     ·exact absurd z ac
  ·cases q:H T with
   |none=>rfl
   |some u=>
    obtain⟨l,t⟩:=(I.hok T u q).get;have:=p T<|a2 l t;rw[q] at this;cases this
def Pg{Q:Wb}(I:qt X pins σ H s)(hs:X.stack=X.env::X.outer)(hf:X.env.frame=some X.env.locals)(hx:X.ex=[])(L:sJ X.s₀.heap s.heap H a C tr)
 (h:∀h' T,Un X.fs [] X.H₀ H X.s₀.heap h'->eE X.prog X.w H h'->sJ X.s₀.heap h' H a C (some T)->Q () {s with heap:=h'}):wpAny M X.A (leaving X.env<|.ref a) Q E s:=by
 have L0:=L;obtain⟨new,free,oe,vs,b0,g,hc,hd,h0,J⟩:=L0;have j:s.heap.FunFrames (PySem.W.hideAll s.heap<|ar a tr<|bX X.stack) X.stack:=CM I.stack λenv g b hb=>Ai _<|Ah _<|lZ g hb;have st:(PySem.W.hideAll s.heap<|ar a tr<|bX X.stack).StaysIn s.heap:=λb o e=>CL _ e;have l:(PySem.W.hideAll s.heap<|ar a tr<|bX X.stack).get? a=none:=BR _ Ar;have U:X.A.frames=some (X.env::X.outer):=by rw[<-hs];exact I.ok.frames
 have go:∀h',Heap.LeftW (PySem.W.hideAll s.heap<|ar a tr<|bX X.stack) (X.env::X.outer) a (.ref C) b0 s.heap h'->Q () {s with heap:=h'}:=λh' ⟨k1,k2,k3,k4⟩=>by obtain⟨u,p,T,_,n1,n2,ne,r,t,oT,ts,e1,e2,e3,e4,e5,e6,e7,e8⟩:=lQ I hs hx new free (by intro T e;subst e;exact⟨J.2.1,J.2.2.1⟩) k1 (by rw[hs];rw[hs] at k2;exact k2) k3.at k4;exact h h' T u p ⟨new,free,r,t,b0,e1,e2,e4,e3,e5,n1,n2,ne,oT,ts,e6,e7,e8⟩
 have nT:∀T,tr=some T->(PySem.W.hideAll s.heap<|ar a tr<|bX X.stack).get? T=none:=λT e=>by subst e;exact BR _<|Ai _<|Am _ (by simp)
 generalize PySem.W.hideAll s.heap (ar a tr<|bX X.stack)=base at j st l go nT;rw[hs] at j;cases tr with
 |none=>exact wpAny_leaving_firstW U j hf g st l hd J h0 (by rw[hc];exact go)
 |some T=>
  obtain⟨h1,_,_,a1,oT,ts,hT,a2,h3⟩:=J;exact wpAny_leaving_nextW U j hf ⟨oe,vs,T,oT,ts,g,⟨hc,h0⟩,hd,h1,nT T rfl,a1,hT,a2,h3⟩ st l go
end
def f_(P:Wt)(w:Wu):yR:=λouter H s E e s'=>∃a C T H',e=.ref a/\s'.os=s.os/\AllBare s'.gens/\Un (bX outer) [] H H' s.heap s'.heap/\eE P w H' s'.heap/\sJ s.heap s'.heap H' a C (some T)/\E (.ref C) none H'/\0<s'.toks
def sk(X:Cx)(a:Addr):Prop:=a≠X.env.locals/\(∀x c,X.env.cells.lookup x=some c->c≠a)/\∀p∈X.pn,p.1≠a
abbrev X1:=St->Wr->Hp->Prop
def bS(X:Cx)(E1:X1):Prop:=∀(pins:List<|Addr×Obj) (σ:St) (H:Hp) (s:Ws) (a C:Addr) (tr:Option Addr),qt X pins σ H s->sJ X.s₀.heap s.heap H a C tr->sk X a->(∀T,tr=some T->sk X T)->E1 σ (.ref C) H->X.xe (.ref a) s
section
variable {a b T:Addr}{tr:Option Addr}{E1:X1}
def qt.apart(I:qt X pins σ H s)(h:s.heap.get? b=none):sk X b:=by
 refine⟨λe=>?_,λx c e z=>?_,λp U z=>?_⟩
 ·obtain⟨m,⟨o,_,_,J,_⟩,_⟩:=I.loc;rw[<-e,h] at J;cases J
 ·obtain⟨v,o,J,_⟩:=I.cell x c e;rw[z,h] at J;cases J
 ·obtain⟨e,_⟩:=I.pin p<|Am _ U;rw[z,h] at e;cases e
def qt.news(I:qt X pins σ H s)(J:X.ex=[])(h:s.heap.get? b=none):X.s₀.heap.get? b=none:=by
 cases q:X.s₀.heap.get? b with
 |none=>rfl
 |some o=>
  obtain⟨U,e⟩:=I.base.there b o q (by rw[J];simp);rw[h] at e;cases e
def bS.pass(t:bS X E1)(U:X.ex=[]){e:Wr}(I:qt X pins σ H s)(h:f_ X.prog X.w X.stack H s (λc _ H'=>E1 σ c H') e s'):X.xe e s':=by obtain⟨a,C,T,H',rfl,j,l,u,J,⟨new,free,o,p,r,he,hc,hd,h0,h1,g,fT,rest⟩,q,a1⟩:=h;have I':qt X pins σ H' s':=I.call' (ch:=[]) j u J l λb z=>absurd z (by simp);exact t pins σ H' s' a C (some T) I' ⟨I.news U new,free,o,p,r,he,hc,hd,h0,h1,I.news U g,fT,rest⟩ (I.apart new) (λT' e=>by cases e;exact I.apart g) q
def Ph{k:Nat}{Q:VK}{vs:Wx}(F:bQ X.prog X.w X.K X.mg X.base (f_ X.prog X.w) k f fd ps sp)(U:wz k X.A)(g:dw X.K fd ps [])(j:bS X E1)(l:X.ex=[])
 (I:qt X pins σ H s) (r:zf vs us) (h:sp vs H Q λc _ H'=>E1 σ c H'):wpAny (model X.prog X.w) X.A (call (.ref f) us) (EP X pins σ Q) X.xe s:=by
 have o:(us++[]).length=ps.length:=by rw[AN,<-r.length];exact F.len _ _ _ _ h
 refine wpAny_call (codeAny_mono (F.run X.A X.stack s H ⟨us,[]⟩ us vs Q _ U I.env0 (by have:=g s us I.kIn o;rw[AN] at this;exact this) r h) λr t J=>?_);cases r with
 |error e=>exact j.pass l I J
 |ok p=>
  cases p with|ret u=>exact I.after J|next=>exact False.elim J|brk=>exact False.elim J|cont=>exact False.elim J
end
def Pj(sp:Sp)(E1:X1)(t:TA):TE:=λσ H Q=>t σ H λvs H1=>sp vs H1 Q λc _ H'=>E1 σ c H'
section
variable {k:Nat}{E1:X1}{t:TA}
def tK(F:bQ X.prog X.w X.K X.mg X.base (f_ X.prog X.w) k f fd ps sp)(l:wz k X.A)(o:Gl X x)(C:X.mg x=some (.ref f))(T:PySem.W.keepIn X.K (.ref f)=true)(hb:dw X.K fd ps [])(ht:bS X E1)(hx:X.ex=[])
 (ha:PA X (e::es) t) (U:Fe x:=by decide) (he:Fb e es X:=by rfl) (g:Fc pos es X:=by rfl):
 PE X (.Call (.Name x p) (e::es) [] pos) (Pj sp E1 t):=by
 intro J s σ H Q I h;refine wpAny_Call_Name_kw<|iH I o C ?_ U;refine PySem.W.callWith_K (h₀:=X.base) I.ok.mod.kin T (wr (ha pos J s σ H _ I h) λus s1 ⟨vs,H1,j,r,q⟩=>⟨j.kIn,?_⟩) he g;exact Ph F l hb ht hx j r q
end
def Pk{P:Wt}{w:Wu}{K:Af}{N:Wj}{E:XK}:
 bS (fJ (f_ P w) P w K mg base N eK scope f cd A outer s H E) λ_ c H'=>E c none H':=by
 intro U j H' l a C tr I L _ _ q;refine Pg (X:=fJ (f_ P w) P w K mg base N eK scope f cd A outer s H E) I rfl rfl rfl L λo T u J g=>?_;exact⟨a,C,T,H',rfl,I.os,I.bare,u,J,g,q,I.tk⟩
structure FF(K:Af)(C:Addr):Prop where
 ex:∃(nm q:Str) (N:Addr) (bs bm:Wg) (hdct:Bool) (sn:Wj) (sub:Wg) (ab:Bool) (col:Option Bool) (dd:Option Addr) (k0 k1 k2 k3 k5:Wn) (B Bn newId nid initId inN:Ww) (bmB bmN:Wg),
  ExcBaseFacts Bn newId inN bmN/\bmB.contains (.type Bn)=true/\ExcBaseFacts B nid initId bmB/\
  ∀h,K.In h->h.get? C=some (excClassObj nm q C N bs bm hdct sn sub ab col dd k0 k1 k2 k3 k5 newId)/\(∃mN,h.Ns N mN/\mN "__init__"=none)/\OwnTail h bmB bm
def Pl{K:Af}{U o:Wg}{B T J p I r:Ww}(q:PySem.W.excIn K C U J=true)(Fn:ExcBaseFacts T J r o)(a1:U.contains (.type T)=true)(F:ExcBaseFacts B p I U):FF K C:=by
 unfold PySem.W.excIn at q;split at q
 ·rename_i dd cd sl ho;split at q
  ·rename_i C' bm k0 k1 k2 k3 n k5 hm hs;simp only[AS,beq_iff_eq,Ds] at q;obtain⟨⟨⟨⟨⟨rfl,rfl⟩,g⟩,ht⟩,j⟩,t⟩:=q;obtain⟨nm,bs,a4,ns,qn,hd,sn,sub,ab,a2,del⟩:=cd;dsimp only at hm g j t;subst hm g;have a3:sl=#[k0,k1,k2,k3,some<|.builtin n,k5]:=by obtain⟨l⟩:=sl;simp only at hs;rw[hs]
   subst a3;exact⟨nm,qn,ns,bs,bm,hd,sn,sub,ab,a2,dd,k0,k1,k2,k3,k5,B,T,n,p,I,r,U,o,Fn,a1,F,λh X=>⟨X _ _ ho,⟨_,.of_isNs<|PySem.W.isNs_of_in X j,PySem.W.nsMap_none_of_in X j t⟩,PySem.W.tail_of_in X ht⟩⟩
  ·cases q
 ·cases q
def Pm(C:Addr)(E1:X1)(t:TA):TS:=λ_ σ H=>t σ H λvs H1=>vs.length<=sizeLine/\E1 σ (.ref C) H1
def Pn{E1:X1}{t:TA}(c:FF X.K C)(hg:Gl X x)(U:X.mg x=some (.ref C))(hc:X.calm=true)(ht:bS X E1)(hx:X.ex=[])(ha:PA X (e::es) t)(a1:Fe x:=by decide)
 (he:Fb e es X:=by rfl) (a2:Fc fm es X:=by rfl):
 PS X (.Raise (some<|.Call (.Name x np) (e::es) [] fm) none pos) (Pm C E1 t):=by
 intro J s σ H D I h;obtain⟨nm,q,N,bs,bm,hdct,sn,sub,ab,col,dd,k0,k1,k2,k3,k5,B,Bn,a3,ac,l,al,ax,ay,Fn,a4,F,all⟩:=c.ex;obtain⟨_,⟨mN,hn,a5⟩,ow⟩:=all X.base I.ok.mod.kin;refine wpAny_Raise_call_subU (C:=C) (nm:=nm) (q:=q) (N:=N) (bs:=bs) (bm:=bm) (hdct:=hdct) (sn:=sn) (sub:=sub) (ab:=ab) (col:=col) (dd:=dd) (k0:=k0) (k1:=k1) (k2:=k2) (k3:=k3) (k5:=k5) Fn a4 F (mN:=mN) (ow.hasType F.hasBase) (I.ok.hd hc)
  (by rw[he];show(false||(backTo fm<|starEach es X.env).any (·.1))=false;rw[a2];rfl) a5 (iH I hg U ⟨rfl,?_⟩ a1)
 rw[he];have j:=ha fm J s σ H _ I h;rw[he] at j;refine Calls.evalArgs_plain (wr j λus s2 ⟨vs,p,g,r,hl,q1⟩=>⟨rfl,by rw[<-r.length];exact hl,(all _ g.kIn).1,hn.keeps g.bk,(all _ g.kIn).2.2,λh' a U=>?_⟩);obtain⟨t0,e1,_,_⟩:=U.there;have I2:qt X J σ p {s2 with heap:=h'}:=g.kept (t':=s2.toks) U.keeps;have fr:p a=none:=by
  cases z:p a with
  |none=>rfl
  |some u=>
   obtain⟨o,eo⟩:=(g.hok a u z).get;rw[U.new] at eo;cases eo
 exact ht J σ p _ a C none I2 ⟨g.news hx U.new,fr,_,_,.ref t0,e1,rfl,rfl,rfl,rfl⟩ (g.apart U.new) (λT z=>nomatch z) q1
section
variable {a T:Addr}{tr:Option Addr}
def im(I:qt X pins σ H s)(C:X.ex=[])(hf:X.stack=X.env::X.outer)(un:Un X.fs [] X.H₀ H X.s₀.heap h')(hok:eE X.prog X.w H h')
 (k1:(PySem.W.hideAll s.heap<|ar a tr<|bX X.stack).StaysIn h') (l:∀b o,s.heap.get? b=some o->(∀vs,o.data≠.fields vs)->∃J,h'.get? b=some {o with slots:=J})
 (pa:∀p∈X.pn++pins,p.1≠a/\∀T,tr=some T->p.1≠T):qt X pins σ H {s with heap:=h'}:=by
 have cl:∀{c:Addr} {v:Wn},s.heap.IsCell c v->h'.IsCell c v:=λ{c v} ⟨o,U,hd⟩=>by
  obtain⟨J,e⟩:=l c o U λvs q=>by rw[hd] at q;cases q
  exact⟨_,e,hd⟩
 obtain⟨m,hn,hl⟩:=id I.loc;have g:h'.Ns X.env.locals m:=by
  obtain⟨o,es,ep,U,hd,r⟩:=hn;obtain⟨J,e⟩:=l _ o U λvs q=>by rw[hd] at q;cases q
  exact⟨_,es,ep,e,hd,r⟩
 refine⟨I.ok,I.os,I.bare,by rw[C];exact un,⟨m,g,λi x v e1 e2 e3=>?_⟩,λx c e=>?_,I.free,I.freeC,λp j=>?_,hok,I.len,I.tk⟩
 ·obtain⟨u,ru,lk⟩:=hl i x v e1 e2 e3;refine⟨u,ru,?_⟩;rcases lk with lk|⟨k,c,e,z⟩
  ·exact .inl lk
  ·exact .inr ⟨k,c,e,cl z⟩
 ·obtain⟨v,z⟩:=I.cell x c e;exact⟨v,cl z⟩
 ·obtain⟨e,n,ne,t,d⟩:=I.pin p j;refine⟨k1 _ _<|C3 _ e λhm=>?_,n,ne,t,d⟩;rcases As.mp hm with z|z
  ·exact(pa p j).1 z
  ·rcases Ak.mp z with z|z
   ·exact(pa p j).2 p.1 (by simpa using z) rfl
   ·rcases As.mp (I.stkSub _ z) with z|z
    ·exact ne z
    ·exact t z
def Po{Q:Wb}(I:qt X pins σ H s)(hs:X.stack=X.env::X.outer)(hf:X.env.frame=some X.env.locals)(hx:X.ex=[])(L:sJ X.s₀.heap s.heap H a C tr)
 (pa:∀p∈X.pn++pins,p.1≠a/\∀T,tr=some T->p.1≠T)
 (h:∀h' T,qt X pins σ H {s with heap:=h'}->sJ X.s₀.heap h' H a C (some T)->(∀p∈X.pn++pins,p.1≠T)->Q () {s with heap:=h'}):
 wpAny M X.A (noteFrame (.ref a) X.env) (λ_ j=>wpAny M X.A (setFlight (.ref a) none) Q E j) E s:=by
 obtain⟨new,free,oe,vs,b0,g,hc,hd,h0,J⟩:=id L;have r:∀T,tr=some T->X.s₀.heap.get? T=none/\H T=none:=by intro T e;subst e;exact⟨J.2.1,J.2.2.1⟩
 have fr:s.heap.FunFrames (PySem.W.hideAll s.heap<|ar a tr<|bX X.stack) X.stack:=CM I.stack λenv g b hb=>Ai _<|Ah _<|lZ g hb;have st:(PySem.W.hideAll s.heap<|ar a tr<|bX X.stack).StaysIn s.heap:=λb o e=>CL _ e;have na:(PySem.W.hideAll s.heap<|ar a tr<|bX X.stack).get? a=none:=BR _ Ar;have t:X.A.frames=some (X.env::X.outer):=by rw[<-hs];exact I.ok.frames
 have nT:∀T,tr=some T->(PySem.W.hideAll s.heap<|ar a tr<|bX X.stack).get? T=none:=λT e=>by subst e;exact BR _<|Ai _<|Am _ (by simp)
 have go:∀h',Heap.NotedW (PySem.W.hideAll s.heap<|ar a tr<|bX X.stack) (X.env::X.outer) a (.ref C) b0 (rawInt X.env.locals) s.heap h'->wpAny M X.A (setFlight (.ref a) none) Q E {s with heap:=h'}:=λh' ⟨k1,k2,k3,k4⟩=>by
  rw[<-hs] at k2;obtain⟨u,a5,T,ac,n1,n2,ne,al,ax,oT,ts,e1,e2,e3,e4,e5,e6,e7,e8⟩:=lQ I hs hx new free r k1 k2 k3 k4;have I2:qt X pins σ H {s with heap:=h'}:=im I hx hs u a5 k1 k4 pa;have a1:∀p∈X.pn++pins,p.1≠T:=λp U=>by obtain⟨e,_⟩:=I.pin p U;exact ac p.1 _ e (pa p U).2
  have ay:h'.FunFrames (PySem.W.hideAll h'<|ar a (some T)<|bX X.stack) X.stack:=CM I2.stack λenv g b hb=>Ai _<|Ah _<|lZ g hb;refine wpAny_setFlight_noneW (s:={s with heap:=h'}) (base:=PySem.W.hideAll h'<|ar a (some T)<|bX X.stack) (l:=X.stack) (e:=a) (cls:=.ref C) (a0:=b0) (fl:=rawInt X.env.locals) (λb o e=>CL _ e) ay
   ⟨al,ax,T,oT,ts,e1,⟨e2,e3⟩,e4,e5,BR _<|Ai _<|Am _ (by simp),ne,e6,e7,e8⟩ λh3 j1 j2 j3 j4=>?_
  have a2:∀b o,h'.get? b=some o->(∀vs,o.data≠.fields vs)->∃sl,h3.get? b=some {o with slots:=sl}:=λb o e q=>⟨o.slots,j4 b o e q⟩;obtain⟨u',a3,T',a4,aL,ba,bb,bc,bd,bf,bg,f1,f2,f3,f4,f5,f6,f7,f8⟩:=lQ (s:={s with heap:=h'}) (tr:=some T) I2 hs hx new free (λT0 e=>by cases e;exact⟨n1,n2⟩) j1 j2 j3.at a2;have I3:qt X pins σ H {s with heap:=h3}:=im (s:={s with heap:=h'}) (h':=h3) (tr:=some T) I2 hx hs u' a3 j1 a2 λp U=>⟨(pa p U).1,λT0 e=>by cases e;exact a1 p U⟩;refine h h3 T' I3 ⟨new,free,bc,bd,b0,f1,f2,f4,f3,f5,aL,ba,bb,bf,bg,f6,f7,f8⟩ λp U=>?_;obtain⟨e,_⟩:=I2.pin p U;exact a4 p.1 _ e λT0 z=>by cases z;exact a1 p U
 generalize PySem.W.hideAll s.heap (ar a tr<|bX X.stack)=base at fr st na go nT;rw[hs] at fr;cases tr with
 |none=>
  unfold noteFrame;simp only[hf];refine Aa<|Ba g hd J ?_;rw[AB (by decide)];exact wpAny_entryW t fr hf g st na hd (Array.getElem?_eq_some_iff.mp J).1 h0 (by rw[hc];exact go)
 |some T=>
  obtain⟨h1,_,_,bh,oT,ts,hT,bi,h3⟩:=J;exact wpAny_noteFrame_onW t fr hf ⟨oe,vs,T,oT,ts,g,⟨hc,h0⟩,hd,h1,nT T rfl,bh,hT,bi,h3⟩ st na go
end
abbrev Cx.tr(X:Cx)(pn:List<|Addr×Obj)(xe:Wa):Cx:={X with pn:=pn,xe:=xe}
abbrev Cx.hnd(X:Cx)(a:Addr):Cx:={X with A:=X.A.mark<|some<|.ref a,calm:=false,xe:=λ_ _=>False}
theorem Cx.Ok.tr(ok:X.Ok)(pn:List<|Addr×Obj)(xe:Wa):(X.tr pn xe).Ok:=
 ⟨ok.mod,ok.kind,ok.glob,ok.blt,ok.above,ok.inj,ok.has,ok.cab,ok.hd,ok.frames,ok.stk,ok.exf,ok.bs,ok.bsz,ok.noex,ok.exfs,ok.funs,ok.frf⟩
theorem Cx.Ok.untr{pn:List<|Addr×Obj}(ok:(X.tr pn xe).Ok):X.Ok:=
 ⟨ok.mod,ok.kind,ok.glob,ok.blt,ok.above,ok.inj,ok.has,ok.cab,ok.hd,ok.frames,ok.stk,ok.exf,ok.bs,ok.bsz,ok.noex,ok.exfs,ok.funs,ok.frf⟩
theorem Cx.Ok.hnd(ok:X.Ok)(a:Addr):(X.hnd a).Ok:=
 ⟨ok.mod,ok.kind,ok.glob,ok.blt,ok.above,ok.inj,ok.has,ok.cab,(λz=>nomatch z),ok.frames,ok.stk,ok.exf,ok.bs,ok.bsz,ok.noex,ok.exfs,ok.funs,ok.frf⟩
section
variable {a T:Addr}
theorem qt.tr(I:qt X pins σ H s)(xe:Wa):qt (X.tr (X.pn++pins) xe) [] σ H s:=⟨I.ok.tr _ _,I.os,I.bare,I.base,I.loc,I.cell,I.free,I.freeC,(λp J=>I.pin p (by simpa using J)),I.hok,I.len,I.tk⟩
theorem qt.untr{J:List<|Addr×Obj}(I:qt (X.tr (X.pn++pins) xe) J σ H s):qt X pins σ H s:=⟨I.ok.untr,I.os,I.bare,I.base,I.loc,I.cell,I.free,I.freeC,(λp U=>I.pin p<|Am _ U),I.hok,I.len,I.tk⟩
theorem qt.hnd(I:qt X pins σ H s)(a:Addr):qt (X.hnd a) pins σ H s:=⟨I.ok.hnd a,I.os,I.bare,I.base,I.loc,I.cell,I.free,I.freeC,I.pin,I.hok,I.len,I.tk⟩
def qt.unhnd(ok:X.Ok)(I:qt (X.hnd a) pins σ H s):qt X pins σ H s:=⟨ok,I.os,I.bare,I.base,I.loc,I.cell,I.free,I.freeC,I.pin,I.hok,I.len,I.tk⟩
theorem SP.untr{D:mZ}{f:Flow}(h:SP (X.tr (X.pn++pins) xe) [] D f s'):SP X pins D f s':=by
 cases f with
 |next=>obtain⟨I,U,J,q⟩:=h;exact⟨I,U,J.untr,q⟩
 |brk=>obtain⟨I,U,J,q⟩:=h;exact⟨I,U,J.untr,q⟩
 |cont=>obtain⟨I,U,J,q⟩:=h;exact⟨I,U,J.untr,q⟩
 |ret u=>obtain⟨v,I,U,J,r,q⟩:=h;exact⟨v,I,U,J.untr,r,q⟩
def fS{n:Str}{Q:Wb}(I:qt X pins σ H s)(hN:X.N.Nodup)(hi:X.N[i]?=some n)(hk:X.env.scope.names.lookup n=some .local)
 (h:∀s',qt X pins (σ.set i none) H s'->Q () s'):wpAny M A (do bindName X.env n .none;unbindBehindTheSuite X.env n pos) Q E s:=by
 obtain⟨m,hn,hl⟩:=id I.loc;have g:(X.env.scope.kind==.class||(X.env.scope.kind==.module&&X.env.locals != X.env.globals))=false:=by rw[I.ok.kind];rfl
 refine wpAny_nameGoes_keeps hk hn g λh' v C J=>h _ ?_;obtain⟨oL,_,_,a1,_⟩:=id hn;have kw:∀b o,X.s₀.heap.get? b=some o->b≠X.env.locals:=λb o e=>A3<|AK (xT e) I.ok.above;refine⟨I.ok,I.os,I.bare,⟨λb o e n T l=>?_,λb o e n T l=>?_,I.base.free,λb o e l=>?_,I.base.tups,I.base.frzs,I.base.tbls⟩,⟨_,C,λj y v' U t e3=>?_⟩,λy c e=>?_,I.free,I.freeC,λp hp=>?_,λb ob e=>?_,by simpa using I.len,by first|exact I.tk|exact BV _⟩
 ·exact(J.2 b<|kw b o e).trans (I.base.keep b o e n T l)
 ·obtain⟨sl,U⟩:=I.base.slot b o e n T l;exact⟨sl,(J.2 b<|kw b o e).trans U⟩
 ·obtain⟨o',U⟩:=I.base.there b o e l;exact⟨o',(J.2 b<|kw b o e).trans U⟩
 ·by_cases hj:j=i
  ·subst hj;have r:j<σ.length:=by rw[I.len];exact(AI.mp hi).1
   rw[BJ r] at t;cases t
  ·rw[A5<|AH hj] at t;obtain⟨u',r',q⟩:=hl j y v' U t e3;refine⟨u',r',?_⟩;rcases q with⟨k,e⟩|⟨k,c,e,z⟩
   ·refine .inl ⟨k,?_⟩;have:y≠n:=λe=>hj<|mV hN U<|e▸hi;simp[this,e]
   ·exact .inr ⟨k,c,e,z.sameBut J<|I.cne y c e⟩
 ·obtain⟨w',z⟩:=I.cell y c e;exact⟨w',z.sameBut J<|I.cne y c e⟩
 ·obtain⟨e,n,ne,nf,d⟩:=I.pin p hp;exact⟨(J.2 p.1 ne).trans e,n,ne,nf,d⟩
 ·refine(I.hok b ob e).stay (λc w' hc q=>(J.2 c ?_).trans q) (λ_ q=>q) λ_ _ q=>q;rintro rfl;rcases hc with z|z
  ·rw[<-z,I.free] at e;cases e
  ·rw[I.free] at z;cases z
def Pp{J:Obj}(I:qt X pins σ H s)(C:X.ex=[])(new:X.s₀.heap.get? a=none)(free:H a=none)(U:s.heap.get? a=some J)(ap:sk X a)(pa:∀p∈X.pn++pins,p.1≠a):qt X pins σ (upd H a<|.frz J<|.own 0) s:=by
 refine⟨I.ok,I.os,I.bare,⟨I.base.keep,I.base.slot,λb o e n l=>?_,I.base.there,λb g e=>?_,λb o u e=>?_,λb r e=>?_⟩,I.loc,I.cell,?_,λx c e=>?_,λp j=>?_,λb u e=>?_,I.len,I.tk⟩
 ·rw[qp (λz=>by rw[z,new] at e;cases e)];exact I.base.free b o e n l
 ·have:=I.base.tups b g e;rw[qp (λz=>by rw[z,free] at this;cases this)];exact this
 ·have:=I.base.frzs b o u e;rw[qp (λz=>by rw[z,free] at this;cases this)];exact this
 ·obtain⟨more,this⟩:=I.base.tbls b r e;exact⟨more,by rw[qp (λz=>by rw[z,free] at this;cases this)];exact this⟩
 ·rw[qp<|AH ap.1];exact I.free
 ·rw[qp<|ap.2.1 x c e];exact I.freeC x c e
 ·obtain⟨e,n,ne,t,d⟩:=I.pin p j;exact⟨e,by rw[qp<|pa p j];exact n,ne,t,d⟩
 ·by_cases z:b=a
  ·subst z;rw[zu] at e;cases e;exact⟨U,J,U⟩
  ·rw[qp z] at e;exact(I.hok b u e).stay (λ_ _ _ q=>q) (λc q=>by rw[qp (λz=>by rw[z,free] at q;cases q)];exact q) λc g q=>by rw[qp (λz=>by rw[z,free] at q;cases q)];exact q
def Pq{Q:Wb}(I:qt X pins σ H s)(hs:X.stack=X.env::X.outer)(hx:X.ex=[])(L:sJ X.s₀.heap s.heap H a C<|some T)
 (pa:∀p∈X.pn++pins,p.1≠a/\p.1≠T) (h:∀h' g,qt X pins σ H {s with heap:=h'}->sJ X.s₀.heap h' H a C (some g)->Q () {s with heap:=h'}):wpAny M A (setFlight (.ref a) none) Q E s:=by
 obtain⟨new,free,oe,j,b0,r,hc,hd,h0,h1,n1,n2,ne,oT,ts,hT,t,h3⟩:=L;have a1:s.heap.FunFrames (PySem.W.hideAll s.heap<|ar a (some T)<|bX X.stack) X.stack:=CM I.stack λenv r b hb=>Ai _<|Ah _<|lZ r hb;refine wpAny_setFlight_noneW (base:=PySem.W.hideAll s.heap<|ar a (some T)<|bX X.stack) (l:=X.stack) (e:=a) (cls:=.ref C) (a0:=b0) (fl:=.none) (λb o e=>CL _ e) a1
  ⟨oe,j,T,oT,ts,r,⟨hc,h0⟩,hd,h1,BR _<|Ai _<|Am _ (by simp),ne,hT,t,h3⟩ λh3 j1 j2 j3 j4=>?_
 have J:∀b o,s.heap.get? b=some o->(∀j,o.data≠.fields j)->∃sl,h3.get? b=some {o with slots:=sl}:=λb o e q=>⟨o.slots,j4 b o e q⟩;obtain⟨u',U,g,ay,a2,a3,a4,a5,ac,al,ax,f1,f2,f3,f4,f5,f6,f7,f8⟩:=lQ (tr:=some T) I hs hx new free (λT0 e=>by cases e;exact⟨n1,n2⟩) j1 j2 j3.at J;exact h h3 g (im (tr:=some T) I hx hs u' U j1 J λp hp=>⟨(pa p hp).1,λT0 e=>by cases e;exact(pa p hp).2⟩) ⟨new,free,a5,ac,b0,f1,f2,f4,f3,f5,a2,a3,a4,al,ax,f6,f7,f8⟩
end
def Dh(i:Nat)(D:mZ):mZ where
 nx:=λσ H=>D.nx (σ.set i none) H
 rt:=D.rt
 bk:=λσ H=>D.bk (σ.set i none) H
 ct:=λσ H=>D.ct (σ.set i none) H
def F8(K:Af)(J:Addr)(i:Nat)(th:TS)(D:mZ):X1:=λσ c H=>∃C,c=.ref C/\PySem.W.exmOne K (.ref C) (.ref J)=some true/\∀a I,H a=none->I.cls=.ref C->th (Dh i D) (σ.set i<|some<|.ref a) (upd H a<|.frz I<|.own 0)
def Pr(K:Af)(I:Addr)(i:Nat)(tb:X1->TS)(th:TS):TS:=λD σ H=>tb (F8 K I i th D) D σ H
def Ps{Dc:Addr}{n:Str}{a2:Pos}{l:Wl}{t:Stmt}{tb:X1->TS}{th:TS}(hs:X.stack=X.env::X.outer)(hf:X.env.frame=some X.env.locals)(hx:X.ex=[])(hN:X.N.Nodup)(hi:X.N[i]?=some n)
 (hk:X.env.scope.names.lookup n=some .local) (hg:Gl X x) (hm:X.mg x=some (.ref Dc)) (hb:∀(pn:List<|Addr×Obj) (xe:Wa) (E1:X1),bS (X.tr pn xe) E1->iW (X.tr pn xe) body (tb E1)) (hh:∀a,iW (X.hnd a) (t::l) th)
 (a5:Fe x:=by decide):PS X (.Try body [.ExceptHandler (some<|.Name x np) (some n) (t::l) a2] [] [] pos) (Pr X.K Dc i tb th):=by
 intro U s σ H D I h;have tk:bS (X.tr (X.pn++U) λe s'=>∃g o H' a C tr,e=.ref a/\qt X U o H' s'/\sJ X.s₀.heap s'.heap H' a C tr/\sk (X.tr (X.pn++g) X.xe) a/\(∀p∈X.pn++U,p.1≠a)/\(∀T,tr=some T->∀p∈X.pn++U,p.1≠T)/\F8 X.K Dc i th D o (.ref C) H')
  (F8 X.K Dc i th D):=λg o H' s' a C tr I' L ap ac q=>⟨[],o,H',a,C,tr,rfl,I'.untr,L,⟨ap.1,ap.2.1,λp j=>ap.2.2 p (by have j:p∈X.pn++[]:=j;rw[AN] at j;exact Am _ j)⟩,ap.2.2,λT e=>(ac T e).2.2,q⟩
 refine wpAny_Try_except<|AW (hb _ _ _ tk [] s σ H D (I.tr _) h) (λf s1 h1=>?_) λe s1 h1=>?_
 ·have h2:=SP.untr h1;cases f with|next=>exact wpAny_execs_nil h2|brk=>exact h2|cont=>exact h2|ret u=>exact h2
 ·obtain⟨g,o,H',a,C,tr,rfl,I1,L,ap,pa,al,C',ec,em,q⟩:=h1;cases ec;refine Po I1 hs hf hx L (λp j=>⟨pa p j,λT e=>al T e p j⟩) λh' T I2 L2 a4=>?_;refine wpAny_handleBy_cons (codeAny_handlers_test ?_) (by intro q;cases q);refine iH (X:=X.hnd a) (I2.hnd a) hg hm ?_ a5;obtain⟨_,_,oe,vs,a0,he,hc,_⟩:=id L2;have LT:PySem.W.Looks (model X.prog X.w) h' (typeOf<|.ref a) (.ref C):=hc▸(PySem.W.Looks.ld he).andThen .now;refine PySem.W.exm_one (K:=X.K) I2.kIn LT em _ _ _ _ (λ_ _ e=>e) ?_;refine codeAny_handlers_suite_as ?_;refine Pq I2 hs hx L2 (λp j=>⟨pa p j,a4 p j⟩) λh3 T' I3 L3=>?_;obtain⟨new,free,ax,ba,a3,ay,aL,_⟩:=L3;have I4:=Pp I3 hx new free ay ⟨ap.1,ap.2.1,λp j=>pa p<|Am _ j⟩ pa;refine ag (X:=X.hnd a) (I4.hnd a) hN hi (.inl hk) (v:=.ref a) (u:=.ref a) rfl (λs5 I5=>?_)<|.inr hk;refine AW (hh a U s5 _ _ (Dh i D) I5<|q a ax free aL) (λf s6 h6=>?_) λe s6 z=>z.elim;cases f with
  |next=>obtain⟨a1,H6,J,q6⟩:=h6;exact fS (J.unhnd I.ok) hN hi hk λs7 I7=>⟨_,H6,I7,q6⟩
  |brk=>obtain⟨a1,H6,J,q6⟩:=h6;exact fS (J.unhnd I.ok) hN hi hk λs7 I7=>⟨_,H6,I7,q6⟩
  |cont=>obtain⟨a1,H6,J,q6⟩:=h6;exact fS (J.unhnd I.ok) hN hi hk λs7 I7=>⟨_,H6,I7,q6⟩
  |ret u=>obtain⟨v,a1,H6,J,r,q6⟩:=h6;exact fS (J.unhnd I.ok) hN hi hk λs7 I7=>⟨v,_,H6,I7,r,q6⟩
open PySem PySem.Spec PyProof.Rows PySem.W
structure u_(K:Frag)(C:Addr):Prop where
 ga:findIn K (.ref C) "__getattribute__"=some (some<|.builtin "BaseException.__getattribute__")
 gt:findIn K (.ref C) "__getattr__"=some none
 cl:findIn K (.ref C) "__class__"=some (some<|.builtin "object.__class__")
 ge:specialIn K (.builtin "object.__class__") "__get__"=some (some<|.builtin "getset_descriptor.__get__")
 tk:takesIn K (.builtin "object.__class__")=some true
 mo:mroIn K C (.type "object")=some true
 be:subIn K (.ref C) (.type "BaseException")=some true
def Pu(self:Wr):bindSpecial (.builtin "BaseException.__getattribute__") self=pure (.builtin "BaseException.__getattribute__",[self]):=by
 have J:withoutEnding? "BaseException.__getattribute__" "#opaque"=none:=by decide +kernel
 have I:withoutEnding? "BaseException.__getattribute__" "#data"=none:=by decide +kernel
 have U:builtinKind "BaseException.__getattribute__"=some .slot:=by decide +kernel
 simp only[bindSpecial,typeOf,builtinType,J,I,U];rfl
def rX(h:Wv)(a C:Addr):Prop:=∃o,h.get? a=some o/\o.cls=.ref C
def rX.type{a:Addr}(I:rX h a C):Looks M h (typeOf<|.ref a) (.ref C):=by obtain⟨o,h1,h2⟩:=I;exact h2▸(Looks.ld h1).andThen .now
open Builtin.ObjectAttr in
def Pw{K:Frag}{a:Addr}(c:u_ K C)(X:K.In h):Looks M h (find (.ref a) (.ref C) "__class__") (.bind (.builtin "getset_descriptor.__get__")<|.builtin "object.__class__"):=by have I:=looks_findIn (M:=M) X c.cl;have L2:=looks_specialIn (M:=M) X c.ge;have L3:=looks_takesIn (M:=M) X c.tk;refine I.andThen<|L2.andThen ?_;exact(show Looks M h (dataDescriptor? (some<|.builtin "object.__class__")<|some<|.builtin "getset_descriptor.__get__") (some (.builtin "getset_descriptor.__get__",.builtin "object.__class__")) from L3.andThen .now).andThen (Looks.tag .now)
section
variable {w:Wu}{K:Frag}{a:Addr}
open Builtin Builtin.ObjectAttr Builtin.Getset_descriptor in
def Px{R:Result->Ws->Prop}{tp:Wr}(X:K.In s.heap)(I:rX s.heap a C)(J:mroIn K C (.type "object")=some true)
 (h:R (.ok<|.ret<|.ref C) s):codeAny (model prog w) A (.call (.builtin "getset_descriptor.__get__") ⟨[.builtin "object.__class__",.ref a,tp],[]⟩) R s:=by
 obtain⟨U,g,j,t,os⟩:=s;have l:=I.type (M:=model prog w);have o:=looks_mroIn (M:=model prog w) X J;refine codeAny_call_builtin KF.slot_gs.plain KF.entry_gs<|KF.slot_gs.check _ _ _ _ _ _ _ _ KF.type_class (KF.args_gs _ _ _) ?_;unfold Builtin.«getset_descriptor.__get__» descrGet;rw[dga_obj];refine Aa<|Aj ?_;unfold descrGetter descrCheckInstance descrNameAndClass isInstance;simp only[KF.owner_class]
 repeat lk
 refine⟨Code.quiet_builtin _ (by decide +kernel),codeAny_builtin KF.entry_class ?_⟩;unfold Builtin.«object.__class__» shownTypeOf
 repeat lk
 exact h
def Py{tk:Tok}{Q:Fin->Ws->Prop}(c:u_ K C)(X:K.In s.heap)(I:rX s.heap a C)(h:Q (.done<|.ret<|.ref C) s):
 wpAny (model prog w) A (Builtin.«object.__getattribute__» ⟨[.ref a,.str "__class__" tk],[]⟩) Q E s:=by
 obtain⟨J,g,d,t,os⟩:=s;have U:=I.type (M:=model prog w);have j:=Pw (M:=model prog w) (a:=a) c X;unfold Builtin.«object.__getattribute__»
 repeat (first|with_reducible refine wpAny_call ?_|lk)
 refine Px X I c.mo ?_
 repeat lk
 exact h
def Pz{Q:Wb}{J:Wr}(c:u_ K C)(X:K.In s.heap)(I:rX s.heap a C)(j:Q () s):wpAny (model prog w) A (checkBuiltinCall "BaseException.__getattribute__" ⟨[.ref a,J],[]⟩) Q E s:=by
 obtain⟨o,g,d,t,os⟩:=s;have p:=I.type (M:=model prog w);have r:=looks_subIn (M:=model prog w) X c.be;have l:builtinKind "BaseException.__getattribute__"=some .slot:=by decide +kernel
 have U:splitId "BaseException.__getattribute__"=some ("BaseException","__getattribute__"):=by decide +kernel
 have T:=F.args_bexc_ga (.ref a) J;simp only[checkBuiltinCall,l,U];refine Aa ?_;unfold isInstance
 repeat lk
 exact j
def PB{tk:Tok}(c:u_ K C)(X:K.In s.heap)(I:rX s.heap a C)(h:Q (.ref C) s):wpAny (model prog w) A (getAttrBy (.ref a) (.str "__class__" tk) false) Q E s:=by
 obtain⟨J,g,d,t,os⟩:=s;have U:=I.type (M:=model prog w);have j:=looks_findIn (M:=model prog w) X c.ga;have L2:=looks_findIn (M:=model prog w) X c.gt;have l:=Pu<|.ref a;unfold getAttrBy
 repeat (first|with_reducible refine wpAny_call ?_|with_reducible refine wpAny_attempt ?_|lk)
 refine codeAny_call_builtin (by decide +kernel) F.entry_bexc_ga<|Pz c X I<|Py c X I ?_;exact handed_on rfl h
def PD{Q:Wn->Ws->Prop}(c:u_ K C)(X:K.In s.heap)(I:rX s.heap a C)(h:Q (some<|.ref C) {s with toks:=s.toks+1}):wpAny (model prog w) A (getAttr? (.ref a) "__class__") Q E s:=by unfold getAttr? getAttrBy?;refine Aa<|wpAny_mkText<|Aa<|wpAny_attempt<|PB (s:={s with toks:=s.toks+1}) c X I ?_;exact Aj h
end
def um{K:Frag}{a:Addr}(c:u_ K C)(J:(clsIn K C).isSome=true):KitX K (.ref a) (.ref C) (λh=>rX h a C) where
 ty:=λ_ _ _ I=>I.type
 it:=λ_ _ X _=>by
  unfold clsIn at J;split at J
  ·rename_i o p U g j;intro T Q' E' s' k q;unfold isType loadHead;exact Aa<|wpAny_loadPart (k _ _<|X _ _ j)<|Aj q
  ·cases J
 ne:=λh r dd t n sl X l=>by
  refine Bool.eq_false_iff.mpr λq=>?_;have e:C=r:=Value.ref.inj<|beq_iff_eq.mp q;subst e;unfold clsIn at J;split at J
  ·rename_i o p U g j;have z:=(X _ _ j).symm.trans l;cases z
  ·cases J
 ca:=λX I k=>PD c X I k
def D':V->Wn
 |.ref D=>some<|.ref D
 |.ty T=>some<|.type T
 |_=>none
def tL{c:Wr}(h:D' v=some c)(r:zq v u):u=c:=by cases v with|ref D=>cases h;exact r|ty T=>cases h;exact r|_=>cases h
theorem uH:∀{vs:Wx} {us cs:Wg},vs.map D'=cs.map some->zf vs us->us=cs
 |[],_,[],_,.nil=>rfl
 |[],_,_::_,h,_=>by cases h
 |_::_,_,[],h,_=>by cases h
 |v::vs,_,c::cs,h,.cons r t=>by rw[AA,AA] at h;obtain⟨h1,h2⟩:=Ei h;rw[tL h1 r,uH h2 t]
structure v_(K:Af)(C:Addr):Prop where
 at_:u_ K C
 cls:(PySem.W.clsIn K C).isSome=true
def GW(K:Af)(H:Hp)(a C:Addr):Prop:=∃I,H a=some (.frz I<|.own 0)/\I.cls=.ref C
def PH(K:Af):Wx->Hp->VK->Prop:=λxs H Q=>∃a C v,xs=[.ref a,v]/\GW K H a C/\v_ K C/\
 ((∃u b,D' v=some u/\PySem.W.kitOne K (.ref C) u=some b/\Q (.bl b) H)\/(∃tp I us b,v=.ref tp/\dz K H tp I/\I.map D'=us.map some/\PySem.W.kitAny K (.ref C) us=some b/\Q (.bl b) H))
def oA :ja X (.builtin "isinstance") (PH X.K):=by
 rintro U s σ H xs us Q I r⟨a,C,v,rfl,⟨g,l,p⟩,hd,h⟩;obtain⟨t,T,rfl,r1,j⟩:=zf.two r;cases (show t=Value.ref a from r1);obtain⟨he,_⟩:=(show x9 X.prog X.w H s.heap a (.frz g<|.own 0) from I.hok a _ l);have ex:rX s.heap a C:=⟨g,he,p⟩;rcases h with⟨c,b,e,k,q⟩|⟨tp,ws,cs,b,rfl,J,e,k,q⟩
 ·cases tL e j;exact j5 I.tk<|Br (um hd.at_ hd.cls) I.kIn ex k (λz=>nomatch z) λtk J=>⟨.bl b,H,I.tok _,rfl,q⟩
 ·cases (show T=Value.ref tp from j);obtain⟨a1,rv,⟨o,h1,h2,n,h3⟩,_⟩:=I.tuple J;cases uH e rv;obtain⟨oc,od,a2,a3⟩:=o;dsimp only at h2 h3;subst h2 h3;exact j5 I.tk<|BX (um hd.at_ hd.cls) I.kIn ex h1 k (λz=>nomatch z) λtk J=>⟨.bl b,H,I.tok _,rfl,q⟩
def sD(H:Hp)(P:Addr)(q:Str):Prop:=∃ps,H P=some (.tbl ps)/\TriplesOk ps.toList/\∀pos I,codeAmong pos ps.toList=some I->∃c' oc vs t,I=.ref c'/\H c'=some (.frz oc<|.own 0)/\oc.data=.fields vs/\vs[1]?=some (.str q t)
def sD.keep{P:Addr}(h:sD H P q)(e:H' P=H P)(t:∀b o u,H b=some (.frz o u)->H' b=some (.frz o u)):sD H' P q:=by obtain⟨I,h1,h2,h3⟩:=h;refine⟨I,e.trans h1,h2,λpos J z=>?_⟩;obtain⟨U,g,j,l,p,r,C⟩:=h3 pos J z;exact⟨U,g,j,l,p,t _ _ _ r,C⟩
end L2
namespace L3
open PySem L2
inductive Y where
 |non|bl (b:Bool)|int (i:Int)|str (x:Str)|ref (a:Addr)|ty (n:Ww)|cd (kvs:List<|Str×Str)|tup (ys:List Y)|sq (ys:List Y)
inductive LO where
 |lst (ys:List Y)|dct (kvs:List<|jh×Y)|ins (C:Addr) (fs:List<|Str×Y)|exc (C:Addr)|tb (q:Str)
abbrev qk:=Addr->Option LO
def qi(L:qk)(a:Addr)(o:LO):qk:=λb=>if b=a then some o else L b
def q9{L:qk}{a:Addr}{o:LO}:qi L a o a=some o:=by unfold qi;rw[AD rfl]
def qc{L:qk}{a b:Addr}{o:LO}(h:b≠a):qi L a o b=L b:=by unfold qi;rw[AB h]
def vj{L:qk}{a:Addr}{o u:LO}:qi (qi L a o) a u=qi L a u:=by funext b;unfold qi;split<;>rfl
def kw{L:qk}{a b:Addr}{o:LO}(h:L a=some o)(h':L b=none):a≠b:=by intro e;subst e;rw[h] at h';cases h'
structure G3 where
 K:Af
 P:Wt
 w:Wu
abbrev _root_.L2.Cx.g3(X:Cx):G3:=⟨X.K,X.prog,X.w⟩
def SqF(K:Af)(H:Hp)(a:Addr)(xs:Wx):Prop:=(∃o,H a=some (.frz o<|.lst xs))\/
 ∃(o:Obj) (eA:Wh) (n:Nat),K.lookup a=some o/\o.cls=.type "list" /\ o.dict=none/\o.data=.seq eA n/\eA.size<=sizeLine/\zf xs eA.toList
def SqF.sq{K:Af}{a:Addr}(h:SqF K H a xs):aF K H a xs:=by
 rcases h with⟨o,h⟩|h
 ·exact .inl<|.inr ⟨o,h⟩
 ·exact .inr h
mutual
def RV(G:G3)(H:Hp):Y->V->Prop
 |.non,v=>v=.non
 |.bl b,v=>v=.bl b
 |.int i,v=>v=.int i
 |.str x,v=>v=.str x
 |.ref a,v=>v=.ref a
 |.ty n,v=>v=.ty n
 |.cd kvs,v=>∃a,v=.ref a/\KD G.K G.P G.w a (kvs.map λp=>(Sum.inr p.1,V.str p.2))
 |.tup ys,v=>∃a xs,v=.ref a/\dz G.K H a xs/\xm G H ys xs
 |.sq ys,v=>∃a xs,v=.ref a/\SqF G.K H a xs/\xm G H ys xs
def xm(G:G3)(H:Hp):List Y->Wx->Prop
 |[],xs=>xs=[]
 |y::ys,xs=>∃x I,xs=x::I/\RV G H y x/\xm G H ys I
end
def PJ:HO->Bool
 |.tup _=>true
 |.frz _ _=>true
 |_=>false
def zy(H H':Hp):Prop:=∀a u,PJ u=true->H a=some u->H' a=some u
def zy.refl(H:Hp):zy H H:=λ_ _ _ h=>h
abbrev ES:=@zy.refl
def zy.trans{H1 H2:Hp}(a:zy H H1)(b:zy H1 H2):zy H H2:=λc u i h=>b c u i<|a c u i h
def zy.new{p:Addr}{o:HO}(h:H p=none):zy H (upd H p o):=λ_ _ _ q=>by rw[qp<|zx q h];exact q
abbrev ET:=@zy.new
def zy.lst{p:Addr}{o:HO}(h:H p=some (.lst zs)):zy H (upd H p o):=λa u i q=>by rw[qp ?_];exact q;rintro rfl;rw[h] at q;cases q;cases i
abbrev EZ:=@zy.lst
def dz.ts{K:Af}{a:Addr}(h:dz K H a xs)(t:zy H H'):dz K H' a xs:=by
 rcases h with(h|⟨o,h⟩)|h
 ·exact .inl<|.inl<|t _ _ rfl h
 ·exact .inl<|.inr ⟨o,t _ _ rfl h⟩
 ·exact .inr h
def SqF.ts{K:Af}{a:Addr}(h:SqF K H a xs)(t:zy H H'):SqF K H' a xs:=by
 rcases h with⟨o,h⟩|h
 ·exact .inl ⟨o,t _ _ rfl h⟩
 ·exact .inr h
mutual
theorem RV.ts{G:G3}{H H':Hp}(t:zy H H'):∀{y:Y} {v:V},RV G H y v->RV G H' y v
 |.non,_,h=>h
 |.bl _,_,h=>h
 |.int _,_,h=>h
 |.str _,_,h=>h
 |.ref _,_,h=>h
 |.ty _,_,h=>h
 |.cd _,_,h=>h
 |.tup _,_,⟨a,I,e,s,r⟩=>⟨a,I,e,dz.ts s t,xm.ts t r⟩
 |.sq _,_,⟨a,I,e,s,r⟩=>⟨a,I,e,s.ts t,xm.ts t r⟩
theorem xm.ts{G:G3}{H H':Hp}(t:zy H H'):∀{ys:List Y} {xs:Wx},xm G H ys xs->xm G H' ys xs
 |[],_,h=>h
 |_::_,_,⟨x,I,e,r,s⟩=>⟨x,I,e,RV.ts t r,xm.ts t s⟩
end
theorem xm.length{G:G3}{H:Hp}:∀{ys:List Y} {xs:Wx},xm G H ys xs->ys.length=xs.length
 |[],_,h=>by cases h;rfl
 |_::_,_,⟨x,I,e,_,s⟩=>by subst e;simp[xm.length s]
theorem xm.get{G:G3}{H:Hp}:∀{ys:List Y} {xs:Wx} {i:Nat} {y:Y},xm G H ys xs->ys[i]?=some y->∃x,xs[i]?=some x/\RV G H y x
 |[],_,_,_,_,h=>by simp at h
 |_::_,_,0,_,⟨x,I,e,r,_⟩,h=>by subst e;simp at h;subst h;exact⟨x,rfl,r⟩
 |_::_,_,i+1,_,⟨x,I,e,_,s⟩,h=>by subst e;obtain⟨J,q,r⟩:=xm.get (i:=i) s (by simpa using h);exact⟨J,by simpa using q,r⟩
theorem xm.app{G:G3}{H:Hp}:∀{ys zs:List Y} {xs us:Wx},xm G H ys xs->xm G H zs us->xm G H (ys++zs) (xs++us)
 |[],_,_,_,h,q=>by cases h;exact q
 |_::_,_,_,_,⟨x,I,e,r,s⟩,q=>by subst e;exact⟨x,I++_,rfl,r,xm.app s q⟩
def xm.one{G:G3}{y:Y}{x:V}(r:RV G H y x):xm G H [y] [x]:=⟨x,[],rfl,r,rfl⟩
theorem xm.take{G:G3}{H:Hp}:∀{ys:List Y} {xs:Wx} (n:Nat),xm G H ys xs->xm G H (ys.take n) (xs.take n)
 |[],_,n,h=>by cases h;simp[xm]
 |_::_,_,0,_=>by simp[xm]
 |_::_,_,n+1,⟨x,I,e,r,s⟩=>by subst e;exact⟨x,I.take n,rfl,r,xm.take n s⟩
theorem xm.drop{G:G3}{H:Hp}:∀{ys:List Y} {xs:Wx} (n:Nat),xm G H ys xs->xm G H (ys.drop n) (xs.drop n)
 |[],_,n,h=>by cases h;simp[xm]
 |_::_,_,0,h=>h
 |_::_,_,n+1,⟨x,I,e,r,s⟩=>by subst e;exact xm.drop n s
theorem xm.setY{G:G3}{H:Hp}{y:Y}{x:V}(r:RV G H y x):∀{ys:List Y} {xs:Wx} (i:Nat),xm G H ys xs->xm G H (ys.set i y) (xs.set i x)
 |[],_,_,h=>by cases h;simp[xm]
 |_::_,_,0,⟨J,I,e,_,s⟩=>by subst e;exact⟨x,I,rfl,r,s⟩
 |_::_,_,i+1,⟨J,I,e,q,s⟩=>by subst e;exact⟨J,I.set i x,rfl,q,xm.setY r i s⟩
def xm.dropLast{G:G3}{ys:List Y}(h:xm G H ys xs):xm G H ys.dropLast xs.dropLast:=by rw[List.dropLast_eq_take,List.dropLast_eq_take,h.length];exact h.take _
theorem xm.eraseIdx{G:G3}{H:Hp}:∀{ys:List Y} {xs:Wx} (n:Nat),xm G H ys xs->xm G H (ys.eraseIdx n) (xs.eraseIdx n)
 |[],_,n,h=>by cases h;simp[xm]
 |_::_,_,0,⟨x,I,e,r,s⟩=>by subst e;exact s
 |_::_,_,n+1,⟨x,I,e,r,s⟩=>by subst e;exact⟨x,I.eraseIdx n,rfl,r,xm.eraseIdx n s⟩
def RO(G:G3)(H:Hp)(a:Addr):LO->Prop
 |.lst ys=>∃xs,H a=some (.lst xs)/\xm G H ys xs
 |.dct kvs=>∃xs,H a=some (.dK xs)/\Paired (λ(p:jh×Y) (q:jh×V)=>p.1=q.1/\RV G H p.2 q.2) kvs xs
 |.ins C fs=>∃dx xs,H a=some (.ins C dx xs)/\Paired (λ(p:Str×Y) (q:Str×V)=>p.1=q.1/\RV G H p.2 q.2) fs xs
 |.exc C=>GW G.K H a C
 |.tb q=>sD H a q
def zr(G:G3)(H:Hp)(L:qk):Prop:=∀a o,L a=some o->RO G H a o
theorem RO.ex{G:G3}{a:Addr}:∀{o:LO},RO G H a o->∃u,H a=some u
 |.lst _,⟨_,h,_⟩=>⟨_,h⟩
 |.dct _,⟨_,h,_⟩=>⟨_,h⟩
 |.ins _ _,⟨_,_,h,_⟩=>⟨_,h⟩
 |.exc _,⟨_,h,_⟩=>⟨_,h⟩
 |.tb _,⟨_,h,_⟩=>⟨_,h⟩
theorem zr.none{G:G3}{L:qk}(h:zr G H L){p:Addr}(I:H p=none):L p=none:=by cases e:L p with|none=>rfl|some o=>obtain⟨u,q⟩:=(h p o e).ex;rw[I] at q;cases q
theorem RO.keep{G:G3}(t:zy H H'){a:Addr}(e:H' a=H a):∀{o:LO},RO G H a o->RO G H' a o
 |.lst _,⟨I,h,r⟩=>⟨I,e.trans h,r.ts t⟩
 |.dct _,⟨I,h,r⟩=>⟨I,e.trans h,EY r λ_ _ ⟨a,b⟩=>⟨a,b.ts t⟩⟩
 |.ins _ _,⟨J,I,h,r⟩=>⟨J,I,e.trans h,EY r λ_ _ ⟨a,b⟩=>⟨a,b.ts t⟩⟩
 |.exc _,⟨o,h,c⟩=>⟨o,e.trans h,c⟩
 |.tb _,h=>sD.keep h e λb o u z=>t b _ rfl z
def zr.skip{G:G3}{L:qk}(h:zr G H L){p:Addr}{o:HO}(I:H p=.none):zr G (upd H p o) L:=λa u e=>by obtain⟨x,q⟩:=(h a u e).ex;exact(h a u e).keep (ET I) (qp<|zx q I)
def zr.newL{G:G3}{L:qk}(h:zr G H L){p:Addr}{ys:List Y}(I:H p=.none)(r:xm G H ys xs):zr G (upd H p<|.lst xs) (qi L p<|.lst ys):=λa u e=>by
 by_cases c:a=p
 ·subst c;rw[q9] at e;cases e;exact⟨xs,zu,r.ts<|ET I⟩
 ·rw[qc c] at e;exact(h a u e).keep (ET I) (qp c)
def zr.setL{G:G3}{L:qk}(h:zr G H L){p:Addr}{ys:List Y}(I:H p=some (.lst zs))(r:xm G H ys xs):zr G (upd H p<|.lst xs) (qi L p<|.lst ys):=λa u e=>by
 by_cases c:a=p
 ·subst c;rw[q9] at e;cases e;exact⟨xs,zu,r.ts<|EZ I⟩
 ·rw[qc c] at e;exact(h a u e).keep (EZ I) (qp c)
def qh(L L':qk):Prop:=∀a o,L a=some o->L' a=some o
def qh.refl(L:qk):qh L L:=λ_ _ h=>h
abbrev ER:=@qh.refl
def qh.trans{L L1 L2:qk}(a:qh L L1)(b:qh L1 L2):qh L L2:=λc o h=>b c o<|a c o h
def qh.new{L:qk}{p:Addr}{o:LO}(h:L p=none):qh L (qi L p o):=λa u e=>by rw[qc<|kw e h];exact e
abbrev By:=@qh.new
@[elab_as_elim] theorem IA {L:qk} {p:Addr} {o:LO} {motive:qk->Prop} (h:L p=none) (k:∀L',qh L L'->L' p=some o->motive L'):motive (qi L p o):=k _ (By h) q9
def zr.sub{G:G3}{L L':qk}(h:zr G H L')(s:qh L L'):zr G H L:=λa o e=>h a o<|s a o e
abbrev j9:=List<|Option Y
structure xb(G:G3)(H:Hp)(σ:St)(τ:j9):Prop where
 len:σ.length=τ.length
 get:∀(i:Nat) y,τ[i]?=some (some y)->∃v,σ[i]?=some (some v)/\RV G H y v
theorem xb.ts{G:G3}{τ:j9}(h:xb G H σ τ)(t:zy H H'):xb G H' σ τ:=
 ⟨h.len,λi y e=>let ⟨v,a,b⟩:=h.get i y e;⟨v,a,b.ts t⟩⟩
def xb.set{G:G3}{τ:j9}(h:xb G H σ τ){y:Y}(r:RV G H y v):xb G H (σ.set i<|some v) (τ.set i<|some y):=by
 refine⟨by simp[h.len],λj z e=>?_⟩;by_cases c:i=j
 ·subst c;have I:i<τ.length:=by
   by_cases q:i<τ.length
   ·exact q
   ·rw[CP (by simp;omega)] at e;cases e
  rw[BJ I] at e;cases e;exact⟨v,BJ (by rw[h.len];exact I),r⟩
 ·rw[A5 c] at e ⊢;exact h.get j z e
def xb.more{G:G3}{τ:j9}(h:xb G H σ τ)(n:Nat):xb G H (σ++List.replicate n none) (τ++List.replicate n none):=by
 refine⟨by simp[h.len],λj z e=>?_⟩;by_cases c:j<τ.length
 ·rw[Az c] at e;rw[Az (by rw[h.len];exact c)];exact h.get j z e
 ·rw[AF (by omega),CF] at e;split at e<;>cases e
def xM:j9->Nat->Option Y
 |[],_=>none
 |o::_,0=>o
 |_::r,i+1=>xM r i
theorem qR:∀(τ:j9) (i:Nat) {y:Y},xM τ i=some y->τ[i]?=some (some y)
 |[],_,_,h=>by cases h
 |o::_,0,_,h=>by simp[xM] at h;simp[h]
 |_::r,i+1,_,h=>by simp only[Dl];exact qR r i h
abbrev YK:=Y->qk->Prop
abbrev xg:=j9->qk->YK->Prop
abbrev hG:=j9->qk->(Bool->qk->Prop)->Prop
abbrev eB:=j9->qk->(List Y->qk->Prop)->Prop
structure xn where
 nx:j9->qk->Prop
 rt:YK
 bk:j9->qk->Prop:=λ_ _=>False
 ct:j9->qk->Prop:=λ_ _=>False
abbrev bB:=xn->j9->qk->Prop
abbrev iq:=Y->j9->qk->(j9->qk->Prop)->Prop
abbrev tE:=List Y->j9->qk->(j9->qk->Prop)->Prop
abbrev p_:=j9->qk->(List Y->(qk->Prop)->qk->Prop)->Prop
abbrev oQ:=Y->Y->qk->YK->Prop
def sK(G:G3)(H:Hp)(I:YK)(Q:VK):Prop:=∀v H' y L',zy H H'->zr G H' L'->RV G H' y v->I y L'->Q v H'
def abe(G:G3)(H:Hp)(I:Bool->qk->Prop)(Q:Bool->Hp->Prop):Prop:=∀b H' L',zy H H'->zr G H' L'->I b L'->Q b H'
def IB(G:G3)(H:Hp)(I:List Y->qk->Prop)(Q:Wx->Hp->Prop):Prop:=∀vs H' ys L',zy H H'->zr G H' L'->xm G H' ys vs->I ys L'->Q vs H'
def oh(G:G3)(H:Hp)(I:j9->qk->Prop)(Q:St->Hp->Prop):Prop:=∀σ H' τ L',zy H H'->xb G H' σ τ->zr G H' L'->I τ L'->Q σ H'
def sK.ts{G:G3}{I:YK}{Q:VK}(h:sK G H I Q)(t:zy H H'):sK G H' I Q:=λv J y U g=>h v J y U<|t.trans g
def abe.ts{G:G3}{I:Bool->qk->Prop}{Q:Bool->Hp->Prop}(h:abe G H I Q)(t:zy H H'):abe G H' I Q:=λv J U g=>h v J U<|t.trans g
def oh.ts{G:G3}{I:j9->qk->Prop}{Q:St->Hp->Prop}(h:oh G H I Q)(t:zy H H'):oh G H' I Q:=λv J y U g=>h v J y U<|t.trans g
structure vX(G:G3)(H:Hp)(D3:xn)(D:mZ):Prop where
 nx:oh G H D3.nx D.nx
 rt:sK G H D3.rt D.rt
 bk:oh G H D3.bk D.bk
 ct:oh G H D3.ct D.ct
theorem vX.ts{G:G3}{I:xn}{D:mZ}(h:vX G H I D)(t:zy H H'):vX G H' I D:=⟨h.nx.ts t,h.rt.ts t,h.bk.ts t,h.ct.ts t⟩
def rM(G:G3)(t:xg):TE:=λσ H Q=>∃τ L I,xb G H σ τ/\zr G H L/\t τ L I/\sK G H I Q
def h_(G:G3)(t:hG):TT:=λσ H Q=>∃τ L I,xb G H σ τ/\zr G H L/\t τ L I/\abe G H I Q
def IC(G:G3)(t:eB):TA:=λσ H Q=>∃τ L I,xb G H σ τ/\zr G H L/\t τ L I/\IB G H I Q
def Fj(G:G3)(t:bB):L2.TS:=λD σ H=>∃τ L I,xb G H σ τ/\zr G H L/\t I τ L/\vX G H I D
def FH(G:G3)(g:iq):TG:=λv σ H Q=>∃y τ L I,RV G H y v/\xb G H σ τ/\zr G H L/\g y τ L I/\oh G H I Q
def PK(G:G3)(g:tE):e_:=λvs σ H Q=>∃ys τ L I,xm G H ys vs/\xb G H σ τ/\zr G H L/\g ys τ L I/\oh G H I Q
structure gF(G:G3)(H₀:Hp)(J:It)(ys:List Y)(keep:qk->Prop):Prop where
 go:∀i H L,zy H₀ H->zr G H L->keep L->i<ys.length->J.go i H
 yld:∀i H L x H' y,zy H₀ H->zr G H L->keep L->ys[i]?=some y->J.yld i H x H'->zy H H'/\zr G H' L/\RV G H' y x
 stop:∀H L,zy H₀ H->zr G H L->keep L->J.stop ys.length H
def GX(G:G3)(wi:p_):TI:=λσ H R=>∃τ L I,xb G H σ τ/\zr G H L/\wi τ L I/\∀J H' ys keep L',zy H H'->zr G H' L'->gF G H' J ys keep->I ys keep L'->R J H'
def gB(G:G3)(U:oQ):R2:=λx y H Q=>∃x3 I L J,RV G H x3 x/\RV G H I y/\zr G H L/\U x3 I L J/\sK G H J Q
def c_(G:G3)(J:List Y->qk->YK->Prop):Wx->Hp->VK->Prop:=λxs H Q=>∃ys L I,xm G H ys xs/\zr G H L/\J ys L I/\sK G H I Q
def PE.imp{t u:TE}(h:PE X e t)(q:∀σ H Q,u σ H Q->t σ H Q):PE X e u:=λJ s σ H Q I z=>h J s σ H Q I<|q σ H Q z
abbrev E4:=@PE.imp
def PE.imq{G:G3}{t:TE}{u:xg}(h:PE X e t)(q:∀σ H Q τ L I,xb G H σ τ->zr G H L->u τ L I->sK G H I Q->t σ H Q):PE X e (rM G u):=E4 h λσ H Q ⟨τ,L,I,a,b,c,d⟩=>q σ H Q τ L I a b c d
abbrev EU:=@PE.imq
def PT.imp{t u:TT}(h:PT X e t)(q:∀σ H Q,u σ H Q->t σ H Q):PT X e u:=λJ s σ H Q I z=>h J s σ H Q I<|q σ H Q z
def PT.imq{G:G3}{t:TT}{u:hG}(h:PT X e t)(q:∀σ H Q τ L I,xb G H σ τ->zr G H L->u τ L I->abe G H I Q->t σ H Q):PT X e (h_ G u):=PT.imp h λσ H Q ⟨τ,L,I,a,b,c,d⟩=>q σ H Q τ L I a b c d
def PW.imp{t u:TT}(h:PW X e t)(q:∀σ H Q,u σ H Q->t σ H Q):PW X e u:=λU J s σ H Q I z=>h U J s σ H Q I<|q σ H Q z
def PW.imq{G:G3}{t:TT}{u:hG}(h:PW X e t)(q:∀σ H Q τ L I,xb G H σ τ->zr G H L->u τ L I->abe G H I Q->t σ H Q):PW X e (h_ G u):=PW.imp h λσ H Q ⟨τ,L,I,a,b,c,d⟩=>q σ H Q τ L I a b c d
def PA.imp{e:Wk}{t u:TA}(h:PA X e t)(q:∀σ H Q,u σ H Q->t σ H Q):PA X e u:=λpos J s σ H Q I z=>h pos J s σ H Q I<|q σ H Q z
def PA.imq{G:G3}{e:Wk}{t:TA}{u:eB}(h:PA X e t)(q:∀σ H Q τ L I,xb G H σ τ->zr G H L->u τ L I->IB G H I Q->t σ H Q):PA X e (IC G u):=PA.imp h λσ H Q ⟨τ,L,I,a,b,c,d⟩=>q σ H Q τ L I a b c d
def PS.imp{e:Stmt}{t u:L2.TS}(h:PS X e t)(q:∀D σ H,u D σ H->t D σ H):PS X e u:=λJ s σ H Q I z=>h J s σ H Q I<|q _ σ H z
def PS.imq{G:G3}{e:Stmt}{t:L2.TS}{u:bB}(h:PS X e t)(q:∀D σ H τ L I,xb G H σ τ->zr G H L->u I τ L->vX G H I D->t D σ H):PS X e (Fj G u):=PS.imp h λD σ H ⟨τ,L,I,a,b,c,d⟩=>q D σ H τ L I a b c d
abbrev EW:=@PS.imq
def iW.imp{e:Wl}{t u:L2.TS}(h:iW X e t)(q:∀D σ H,u D σ H->t D σ H):iW X e u:=λJ s σ H Q I z=>h J s σ H Q I<|q _ σ H z
def iW.imq{G:G3}{e:Wl}{t:L2.TS}{u:bB}(h:iW X e t)(q:∀D σ H τ L I,xb G H σ τ->zr G H L->u I τ L->vX G H I D->t D σ H):iW X e (Fj G u):=iW.imp h λD σ H ⟨τ,L,I,a,b,c,d⟩=>q D σ H τ L I a b c d
def PF.imp{e:Wk}{t u:TT}(h:PF X e t)(q:∀σ H Q,u σ H Q->t σ H Q):PF X e u:=λJ s σ H Q I z=>h J s σ H Q I<|q σ H Q z
end L3
variable {g:L3.iq}{G:L3.G3}{y:L3.Y}{D En:L3.xn}{tA tc:L3.hG}{ta tb te ti to:L3.xg}{ys:List L3.Y}{L L' L0 L1:L3.qk}{τ:L3.j9}{gs:L3.tE}{c0:Option L3.Y}
namespace L3
open PySem L2
def oR:Y:=(.tup [(.str "plain"),(.str "turned")])
def lK:Y:=(.cd [("plain","turned"),("turned","plain"),("both","either"),("either","both")])
def wf(b:Bool)(A B:Prop):Prop:=match b with
 |true=>A
 |false=>B
def PL{b:Bool}{A B:Prop}(h:b=true->A)(k:b=false->B):wf b A B:=by cases b with|true=>exact h rfl|false=>exact k rfl
def aM{b:Bool}{A B:Prop}(e:b=true)(h:A):wf b A B:=by rw[e];exact h
def aC{b:Bool}{A B:Prop}(e:b=false)(h:B):wf b A B:=by rw[e];exact h
def zo{p:Prop} [Decidable p]{A B:Prop}(h:p->A)(k:¬p->B):wf (decide p) A B:=by
 by_cases c:p
 ·rw[Aw c];exact h c
 ·rw[Au c];exact k c
def nb(neg b:Bool):Bool:=match neg with
 |true=>!b
 |false=>b
def qg(i:Nat)(τ:j9)(L:qk)(Q:YK):Prop:=match xM τ i with
 |some y=>Q y L
 |none=>False
def yC(y:Y)(_:j9)(L:qk)(Q:YK):Prop:=Q y L
def xu(r:oQ)(ta tb:xg)(τ:j9)(L:qk)(Q:YK):Prop:=ta τ L λx L1=>tb τ L1 λy L2=>r x y L2 Q
def yI(C:Int->Int->Prop)(g:Int->Int->Y)(x y:Y)(L:qk)(Q:YK):Prop:=match x,y with
 |.int i,.int j=>C i j/\Q (g i j) L
 |_,_=>False
def l_(g:Int->Int->Y)(x y:Y)(L:qk)(Q:YK):Prop:=match x,y with
 |.int i,.int j=>Q (g i j) L
 |_,_=>False
def cO(L:qk):Y->Option (List Y)
 |.tup ys=>some ys
 |.sq ys=>some ys
 |.ref a=>match L a with
  |some (.lst ys)=>some ys
  |_=>none
 |_=>none
@[irreducible] def cB (L:qk) (a:Addr) (k:List Y->Prop):Prop:=match L a with
 |some (.lst ys)=>k ys
 |_=>False
def jy{a:Addr}{k:List Y->Prop}(h:cB L a k):∃ys,L a=some (.lst ys)/\k ys:=by
 unfold cB at h;split at h
 ·rename_i ys e;exact⟨ys,e,h⟩
 ·exact h.elim
def qj{a:Addr}{k:List Y->Prop}(e:L a=some (.lst ys))(h:k ys):cB L a k:=by unfold cB;rw[e];exact h
def iL(L:qk)(x:Y)(k:List Y->Prop):Prop:=match x with
 |.tup ys=>k ys
 |.sq ys=>k ys
 |.ref a=>cB L a k
 |_=>False
def wx{a:Addr}(h:L a=some (.lst ys)):cO L (.ref a)=some ys:=by show(match L a with|some (.lst ys)=>some ys|_=>none)=some ys;rw[h]
def wm{x:Y}{k:List Y->Prop}(h:iL L x k):∃ys,cO L x=some ys/\k ys:=by
 cases x with
 |tup ys=>exact⟨ys,rfl,h⟩
 |sq ys=>exact⟨ys,rfl,h⟩
 |ref a=>obtain⟨ys,e,q⟩:=jy h;exact⟨ys,wx e,q⟩
 |_=>exact h.elim
def iw{a:Addr}(h:cO L (.ref a)=some ys):L a=some (.lst ys):=by
 have I:(match L a with|some (.lst ys)=>some ys|_=>none)=some ys:=h;split at I
 ·rename_i e;cases I;exact e
 ·cases I
def PM{x:Y}{k:List Y->Prop}(e:cO L x=some ys)(h:k ys):iL L x k:=by cases x with|tup I=>cases e;exact h|sq I=>cases e;exact h|ref a=>exact qj (iw e) h|_=>cases e
def qa{a:Addr}{k:List Y->Prop}(e:L a=some (.lst ys))(h:k ys):iL L (.ref a) k:=PM (wx e) h
def fi(x y:Y)(L:qk)(Q:YK):Prop:=match x,y with
 |.int i,.int j=>Q (.int<|i+j) L
 |.str a,.str b=>a.length+b.length<=sizeLine/\Q (.str<|a++b) L
 |.ref a,.ref b=>∃ys zs,L a=some (.lst ys)/\L b=some (.lst zs)/\ys.length+zs.length<=sizeLine/\∀p,L p=none->Q (.ref p) (qi L p<|.lst<|ys++zs)
 |_,_=>False
def xA(L:qk)(Q:α->qk->Prop):Option α->Prop
 |some v=>Q v L
 |none=>False
def a6(kvs:List<|jh×Y)(k:jh):Option Y:=(kvs.find? λp=>decide<|p.1=k).map (·.2)
@[irreducible] def wI (L:qk) (a:Addr) (k:List (jh×Y)->Prop):Prop:=match L a with
 |some (.dct kvs)=>k kvs
 |_=>False
def oN{a:Addr}{k:List (jh×Y)->Prop}(h:wI L a k):∃kvs,L a=some (.dct kvs)/\k kvs:=by
 unfold wI at h;split at h
 ·rename_i I e;exact⟨I,e,h⟩
 ·exact h.elim
def aB{a:Addr}{k:List (jh×Y)->Prop}{kvs:List<|jh×Y}(e:L a=some (.dct kvs))(h:k kvs):wI L a k:=by unfold wI;rw[e];exact h
def hU(x y:Y)(L:qk)(Q:YK):Prop:=match x,y with
 |.str z,.int i=>z.length<=sizeLine/\xA L (λc L=>Q (.str ⟨#[c]⟩) L) (eI z.cps.toList i)
 |.cd kvs,.str k=>xA L (λs L=>Q (.str s) L)<|kvs.lookup k
 |.ref a,.str k=>wI L a λkvs=>xA L Q<|a6 kvs<|.inr k
 |x,.int i=>iL L x λys=>xA L Q<|eI ys i
 |_,_=>False
def vI(xs:List Y)(L:qk)(Q:YK):Prop:=match xs with
 |[.str z]=>z.length<=sizeLine/\Q (.int z.length) L
 |[x]=>iL L x λys=>Q (.int ys.length) L
 |_=>False
def zO(xs:List Y)(L:qk)(Q:YK):Prop:=match xs with
 |[.int i,.int j]=>Q (.int<|max i j) L
 |_=>False
def FI(xs:List Y)(L:qk)(Q:YK):Prop:=match xs with
 |[.int i,.int j]=>Q (.int<|min i j) L
 |_=>False
inductive kC where
 |non|bool|int|str|tuple|list|dict
def kC.nm:kC->Ww
 |.non => "NoneType"
 |.bool => "bool"
 |.int => "int"
 |.str => "str"
 |.tuple => "tuple"
 |.list => "list"
 |.dict => "dict"
def q_(L:qk):Y->Option kC
 |.non=>some .non
 |.bl _=>some .bool
 |.int _=>some .int
 |.str _=>some .str
 |.tup _=>some .tuple
 |.sq _=>some .list
 |.ref a=>match L a with
  |some (.lst _)=>some .list
  |some (.dct _)=>some .dict
  |_=>none
 |_=>none
def PN{a:Addr}(h:L a=some (.lst ys)):q_ L (.ref a)=some .list:=by show(match L a with|some (.lst _)=>some kC.list|some (.dct _)=>some .dict|_=>none)=some .list;rw[h]
def dC:kC->kC->Bool
 |.bool,.int=>true
 |.bool,.bool=>true
 |.int,.int=>true
 |.str,.str=>true
 |.tuple,.tuple=>true
 |.list,.list=>true
 |.dict,.dict=>true
 |.non,.non=>true
 |_,_=>false
@[irreducible] def FJ (L:qk) (a:Addr) (k:kC->Prop):Prop:=match q_ L (.ref a) with
 |some T=>k T
 |none=>False
def PP{a:Addr}{k:kC->Prop}(h:FJ L a k):∃T,q_ L (.ref a)=some T/\k T:=by
 unfold FJ at h;split at h
 ·rename_i T e;exact⟨T,e,h⟩
 ·exact h.elim
def dM{a:Addr}{k:kC->Prop}(e:L a=some (.lst ys))(h:k .list):FJ L a k:=by unfold FJ;rw[PN e];exact h
def GY(L:qk)(x:Y)(k:kC->Prop):Prop:=match x with
 |.non=>k .non
 |.bl _=>k .bool
 |.int _=>k .int
 |.str _=>k .str
 |.tup _=>k .tuple
 |.sq _=>k .list
 |.ref a=>FJ L a k
 |_=>False
def sQ{x:Y}{k:kC->Prop}(h:GY L x k):∃T,q_ L x=some T/\k T:=by cases x with|ref a=>exact PP h|ty n=>exact h.elim|cd k=>exact h.elim|_=>exact⟨_,rfl,h⟩
def ID(S:kC)(te:xg)(τ:j9)(L:qk)(Q:YK):Prop:=te τ L λx L1=>GY L1 x λT=>Q (.bl<|dC T S) L1
def PQ(S I:kC)(te:xg)(τ:j9)(L:qk)(Q:YK):Prop:=te τ L λx L1=>GY L1 x λT=>Q (.bl<|dC T S||dC T I) L1
def fu:Y->Bool
 |.non=>true
 |.bl _=>true
 |.int _=>true
 |.str _=>true
 |_=>false
def ft:Y->V
 |.non=>.non
 |.bl b=>.bl b
 |.int i=>.int i
 |.str x=>.str x
 |_=>.ty "?"
def RV.flat :∀{y:Y} {v:V},fu y=true->RV G H y v->v=ft y:=by intro y v e h;cases y<;>first|exact h|cases e
theorem hV:∀{y:Y},fu y=true->au (ft y)=true
 |.non,_=>rfl
 |.bl _,_=>rfl
 |.int _,_=>rfl
 |.str _,_=>rfl
theorem xm.flat :∀{ys:List Y} {xs:Wx},ys.all fu=true->xm G H ys xs->xs=ys.map ft
 |[],_,_,h=>h
 |y::ys,_,f,⟨x,I,e,r,s⟩=>by rw[C7,AS] at f;rw[e,r.flat f.1,s.flat f.2];rfl
def zD:Y->Bool
 |.ref _=>true
 |.sq _=>true
 |_=>false
def jc(L:qk):Nat->Y->Da->Prop
 |0,y,d=>fu y=true/\d=.s (ft y)
 |n+1,y,d=>(fu y=true/\d=.s (ft y))\/(∃ys ds,y=.tup ys/\d=.tup ds/\Paired (jc L n) ys ds)\/(∃ys ds,zD y=true/\d=.lst ds/\cO L y=some ys/\Paired (jc L n) ys ds)
def Fk:Y->Bool
 |.ref _=>true
 |.tup _=>true
 |.sq _=>true
 |_=>false
def b_(neg:Bool)(x y:Y)(L:qk)(Q:YK):Prop:=match x,y with
 |.int i,.int j=>Q (.bl<|nb neg<|decide<|i=j) L
 |.str i,.str j=>Q (.bl<|nb neg<|decide<|i=j) L
 |.bl i,.bl j=>Q (.bl<|nb neg<|decide<|i=j) L
 |x,y=>Fk x=true/\Fk y=true/\∃n m d e,n<=128/\jc L n x d/\jc L m y e/\Q (.bl<|nb neg<|Da.eq d e) L
def oE(neg:Bool)(ta:xg)(τ:j9)(L:qk)(Q:YK):Prop:=ta τ L λx L1=>match x with
 |.non=>Q (.bl<|!neg) L1
 |_=>Q (.bl neg) L1
def yB(t:xg)(τ:j9)(L:qk)(Q:Bool->qk->Prop):Prop:=t τ L λx L1=>match x with
 |.bl c=>Q c L1
 |_=>False
def lL(t u:hG)(τ:j9)(L:qk)(Q:Bool->qk->Prop):Prop:=t τ L λc L1=>wf c (u τ L1 Q)<|Q false L1
def FK(t u:hG)(τ:j9)(L:qk)(Q:Bool->qk->Prop):Prop:=t τ L λc L1=>wf c (Q true L1)<|u τ L1 Q
def FM(t:hG)(τ:j9)(L:qk)(Q:Bool->qk->Prop):Prop:=t τ L λc L1=>Q (!c) L1
def GZ(ta tb:xg)(τ:j9)(L:qk)(Q:YK):Prop:=ta τ L λx L1=>match x with
 |.bl c=>wf c (tb τ L1 Q)<|Q (.bl false) L1
 |_=>False
def IE(ta:xg)(τ:j9)(L:qk)(Q:YK):Prop:=ta τ L λx L1=>match x with
 |.bl c=>Q (.bl<|!c) L1
 |_=>False
def FO(t:hG)(ta tb:xg)(τ:j9)(L:qk)(Q:YK):Prop:=t τ L λc L1=>wf c (ta τ L1 Q)<|tb τ L1 Q
def ji(_:j9)(L:qk)(Q:List Y->qk->Prop):Prop:=Q [] L
def qm(ta:xg)(tr:eB)(τ:j9)(L:qk)(Q:List Y->qk->Prop):Prop:=ta τ L λx L1=>tr τ L1 λxs L2=>Q (x::xs) L2
def ah(t:eB)(τ:j9)(L:qk)(Q:YK):Prop:=t τ L λys L1=>match Nat.ble ys.length 1000 with
 |true=>Q (.tup ys) L1
 |false=>False
def fh(t:eB)(τ:j9)(L:qk)(Q:YK):Prop:=t τ L λys L1=>match Nat.ble ys.length 1000 with
 |true=>∀p,L1 p=none->Q (.ref p) (qi L1 p<|.lst ys)
 |false=>False
def pQ(r:List Y->qk->YK->Prop)(t:eB)(τ:j9)(L:qk)(Q:YK):Prop:=t τ L λvs L1=>r vs L1 Q
abbrev FP:=j9->qk->(Wo->qk->Prop)->Prop
def rQ(_:j9)(L:qk)(Q:Wo->qk->Prop):Prop:=Q none L
def G2(t:xg)(τ:j9)(L:qk)(Q:Wo->qk->Prop):Prop:=t τ L λx L1=>match x with
 |.int i=>Q (some i) L1
 |_=>False
def oS(xs:List Y)(lo hi:Wo):List Y:=(xs.drop<|HT.sIx xs.length 0 lo).take<|HT.sIx xs.length xs.length hi-HT.sIx xs.length 0 lo
def IF(x:Y)(lo hi:Wo)(L:qk)(Q:YK):Prop:=match x with
 |.ref a=>cB L a λys=>∀p,L p=none->Q (.ref p) (qi L p<|.lst<|oS ys lo hi)
 |.sq ys=>∀p,L p=none->Q (.ref p) (qi L p<|.lst<|oS ys lo hi)
 |_=>False
def G4(r:Y->Wo->Wo->qk->YK->Prop)(te:xg)(tl th:FP)(τ:j9)(L:qk)(Q:YK):Prop:=te τ L λx L1=>tl τ L1 λl L2=>th τ L2 λu L3=>r x l u L3 Q
def jm(t u:bB)(D:xn)(τ:j9)(L:qk):Prop:=t {D with nx:=u D} τ L
def dE(D:xn)(τ:j9)(L:qk):Prop:=D.nx τ L
def PR(D:xn)(τ:j9)(L:qk):Prop:=D.ct τ L
def vi(te:xg)(D:xn)(τ:j9)(L:qk):Prop:=te τ L λ_ L1=>D.nx τ L1
def eL(te:xg)(D:xn)(τ:j9)(L:qk):Prop:=te τ L D.rt
def IG(D:xn)(_:j9)(L:qk):Prop:=D.rt .non L
def aR(c:hG)(t u:bB)(D:xn)(τ:j9)(L:qk):Prop:=c τ L λb L1=>wf b (t D τ L1)<|u D τ L1
def xz(te:xg)(g:iq)(D:xn)(τ:j9)(L:qk):Prop:=te τ L λx L1=>g x τ L1 D.nx
def ak:j9->Nat->Y->j9
 |[],_,_=>[]
 |_::r,0,y=>some y::r
 |o::r,i+1,y=>o::ak r i y
theorem wc:∀(τ:j9) (i:Nat) (y:Y),ak τ i y=τ.set i (some y)
 |[],_,_=>rfl
 |_::_,0,_=>rfl
 |o::r,i+1,y=>by rw[ak,wc r i y];rfl
def qo(i:Nat)(y:Y)(τ:j9)(L:qk)(Q:j9->qk->Prop):Prop:=Q (ak τ i y) L
def cQ(ys:List Y)(τ:j9)(L:qk)(Q:j9->qk->Prop):Prop:=match ys with
 |[]=>Q τ L
 |_=>False
def jx(t:iq)(u:tE)(ys:List Y)(τ:j9)(L:qk)(Q:j9->qk->Prop):Prop:=match ys with
 |[]=>False
 |y::r=>t y τ L λI L'=>u r I L' Q
def fC(n:Nat)(t:tE)(y:Y)(τ:j9)(L:qk)(Q:j9->qk->Prop):Prop:=match y with
 |.tup ys=>match ys.length==n with
  |true=>t ys τ L Q
  |false=>False
 |_=>False
def IH(i j:Nat)(ta:eB)(D:xn)(τ:j9)(L:qk):Prop:=ta τ L λvs L1=>match vs with
 |[v,w]=>D.nx (ak (ak τ i v) j w) L1
 |_=>False
inductive i0{α:Type}(W:α->qk->Prop)(x:α)(L:qk):Prop
 |mk:∀L',qh L' L->W x L'->i0 W x L
def II{W:α->qk->Prop}{x:α}(h:W x L):i0 W x L:=⟨L,ER L,h⟩
inductive IJ(c:hG)(tb:bB)(D:xn)(τ:j9)(L:qk):Prop
 |mk:∀W:Nat->j9->qk->Prop,(∃m,W m τ L)->(∀m τ L,W m τ L->
 c τ L λb L1=>wf b (∃N:j9->qk->Prop,(∀τ' L',N τ' L'->∃m',m'<m/\W m' τ' L')/\tb {D with nx:=i0 N,ct:=i0 N,bk:=D.nx} τ L1)<|D.nx τ L1)->IJ c tb D τ L
inductive qS(ys:List Y)(keep:qk->Prop)(g:iq)(tb:bB)(D:xn)(τ:j9)(L1:qk):Prop
 |mk:∀W:Nat->j9->qk->Prop,W 0 τ L1->(∀i τ L,W i τ L->keep L)->
 (∀i y τ L,ys[i]?=some y->W i τ L->g y τ L λτ2 L2=>tb {D with nx:=i0<|W<|i+1,ct:=i0<|W<|i+1,bk:=D.nx} τ2 L2)->(∀τ L,W ys.length τ L->D.nx τ L)->qS ys keep g tb D τ L1
def aV{keep:qk->Prop}{tb:bB}(h:qS ys keep g tb D τ L1):qS ys keep g tb D τ L1:=h
def PU{keep:qk->Prop}{tb:bB}(h:qS ys keep g tb D τ L1):qS ys keep g tb D τ L1:=h
def uY(wi:p_)(g:iq)(tb:bB)(D:xn)(τ:j9)(L:qk):Prop:=wi τ L λys keep L1=>qS ys keep g tb D τ L1
@[irreducible] def ut (L:qk) (a:Addr) (R:List Y->(qk->Prop)->qk->Prop):Prop:=match L a with
 |some (.lst ys)=>R ys (λL=>L a=some (.lst ys)) L
 |_=>False
def x4{a:Addr}{R:List Y->(qk->Prop)->qk->Prop}(h:L a=some (.lst ys))(q:∀keep:qk->Prop,(∀L',L' a=L a->keep L')->R ys keep L):ut L a R:=by unfold ut;rw[h];exact q _ λL' I=>I.trans h
def tZ{a:Addr}{R:List Y->(qk->Prop)->qk->Prop}(h:ut L a R):∃ys keep,cO L (.ref a)=some ys/\keep L/\(∀L',keep L'->cO L' (.ref a)=some ys)/\R ys keep L:=by
 unfold ut at h;split at h
 ·rename_i ys e;exact⟨ys,_,wx e,e,λL' I=>wx I,h⟩
 ·exact h.elim
def bw(tl:xg)(τ:j9)(L:qk)(R:List Y->(qk->Prop)->qk->Prop):Prop:=tl τ L λx L1=>match x with
 |.ref a=>ut L1 a R
 |.sq ys=>R ys (λ_=>True) L1
 |_=>False
def PV(tl:xg)(τ:j9)(L:qk)(R:List Y->(qk->Prop)->qk->Prop):Prop:=tl τ L λx L1=>match x with
 |.tup ys=>R ys (λ_=>True) L1
 |_=>False
def ww(lo:Int)(n:Nat):List Y:=(List.range n).map λk=>.int<|lo+(k:Nat)
def rB(ta:eB)(τ:j9)(L:qk)(R:List Y->(qk->Prop)->qk->Prop):Prop:=ta τ L λvs L1=>match vs with
 |[.int j]=>(-(2 ^ 62)<=j/\j<2 ^ 62)/\R (ww 0 j.toNat) (λ_=>True) L1
 |_=>False
def PX(ta:eB)(τ:j9)(L:qk)(R:List Y->(qk->Prop)->qk->Prop):Prop:=ta τ L λvs L1=>match vs with
 |[.int i,.int j]=>(-(2 ^ 62)<=i/\i<2 ^ 62 /\ -(2 ^ 62)<=j/\j<2 ^ 62)/\R (ww i (j-i).toNat) (λ_=>True) L1
 |_=>False
def FQ(_:j9)(L:qk)(Q:Bool->qk->Prop):Prop:=Q true L
inductive xS(ys:List Y)(keep:qk->Prop)(n:Nat)(g:iq)(tc:hG)(te:xg)(τ:j9)(L1:qk)(Q:YK):Prop
 |mk:ys.length<sizeLine->∀W:Nat->List Y->qk->Prop,W 0 [] L1->(∀i zs L,W i zs L->keep L)->
 (∀i y zs L,ys[i]?=some y->W i zs L->g y (τ++List.replicate n none) L λτ2 L2=>tc τ2 L2 λb L3=>wf b (te τ2 L3 λz L4=>i0 (W<|i+1) (zs++[z]) L4)<|i0 (W<|i+1) zs L3)->
 (∀zs L,W ys.length zs L->∀p,L p=none->Q (.ref p) (qi L p<|.lst zs))->xS ys keep n g tc te τ L1 Q
def IK{keep:qk->Prop}{Q:YK}(h:xS ys keep n g tc te τ L1 Q):xS ys keep n g tc te τ L1 Q:=h
def PY{keep:qk->Prop}{Q:YK}(h:xS ys keep n g tc te τ L1 Q):xS ys keep n g tc te τ L1 Q:=h
def i_(n:Nat)(wi:p_)(g:iq)(tc:hG)(te:xg)(τ:j9)(L:qk)(Q:YK):Prop:=wi τ L λys keep L1=>xS ys keep n g tc te τ L1 Q
abbrev vh:=List Y->qk->YK->Prop
def jt(sp:vh)(t:eB)(τ:j9)(L:qk)(Q:YK):Prop:=t τ L λys L1=>sp ys L1 Q
def xl(x:Y)(vs:List Y)(L:qk)(Q:YK):Prop:=match x,vs with
 |.ref a,[v]=>cB L a λys=>ys.length<sizeLine/\Q .non (qi L a<|.lst<|ys++[v])
 |_,_=>False
def li(x:Y)(vs:List Y)(L:qk)(Q:YK):Prop:=match x,vs with
 |.ref a,[.ref b]=>cB L a λys=>cB L b λzs=>ys.length+zs.length<=sizeLine/\Q .non (qi L a<|.lst<|ys++zs)
 |_,_=>False
def F9(x:Y)(vs:List Y)(L:qk)(Q:YK):Prop:=match x,vs with
 |.ref a,[]=>cB L a λys=>xA L (λv L=>Q v<|qi L a<|.lst ys.dropLast)<|ys[ys.length-1]?
 |_,_=>False
def wb.imp{f:Wr->Wr->Sem Wr}{r U:R2}(h:wb X f r)(q:∀x y H Q,U x y H Q->r x y H Q):wb X f U:=λJ s g H x y v u Q I j l z=>h J s g H x y v u Q I j l<|q x y H Q z
def wb.imq{f:Wr->Wr->Sem Wr}{r:R2}{u:oQ}(h:wb X f r)(q:∀x y H Q x3 I L J,RV G H x3 x->RV G H I y->zr G H L->u x3 I L J->sK G H J Q->r x y H Q):wb X f (gB G u):=wb.imp h λx y H Q ⟨x3,I,L,J,a,b,c,d,e⟩=>q x y H Q x3 I L J a b c d e
def ja.imp{f:Wr}{r U:Wx->Hp->VK->Prop}(h:ja X f r)(q:∀x H Q,U x H Q->r x H Q):ja X f U:=λJ s g H x v Q I j z=>h J s g H x v Q I j<|q x H Q z
def ja.imq{f:Wr}{r:Wx->Hp->VK->Prop}{u:List Y->qk->YK->Prop}(h:ja X f r)(q:∀xs H Q ys L I,xm G H ys xs->zr G H L->u ys L I->sK G H I Q->r xs H Q):ja X f (c_ G u):=ja.imp h λxs H Q ⟨ys,L,I,a,b,c,d⟩=>q xs H Q ys L I a b c d
abbrev E9:=@ja.imq
def IxR.imp{r U:R2}(h:IxR X r)(q:∀x y H Q,U x y H Q->r x y H Q):IxR X U:=λvalue slice J s g H x y v u Q I j l z=>h value slice J s g H x y v u Q I j l<|q x y H Q z
def g9.imp{id:Ww}{r U:V->Wx->Hp->VK->Prop}(h:g9 X id r)(q:∀x xs H Q,U x xs H Q->r x xs H Q):g9 X id U:=λJ s g H x xs v j Q I l o z=>h J s g H x xs v j Q I l o<|q x xs H Q z
def rj(U:zr G H L)(r:RV G H y v)(h:cO L y=some ys):∃p xs,v=.ref p/\(aF G.K H p xs\/dz G.K H p xs)/\xm G H ys xs:=by
 cases y with
 |tup J=>
  obtain⟨a,xs,e,s,q⟩:=r;cases h;exact⟨a,xs,e,.inr s,q⟩
 |sq J=>
  obtain⟨a,xs,e,s,q⟩:=r;cases h;exact⟨a,xs,e,.inl s.sq,q⟩
 |ref a=>
  cases (show v=.ref a from r);have I:(match L a with|some (.lst ys)=>some ys|_=>none)=some ys:=h;split at I
  ·rename_i J e;cases I;obtain⟨xs,g,q⟩:=U a _ e;exact⟨a,xs,rfl,.inl<|FA g,q⟩
  ·cases I
 |_=>cases h
def PZ{i:Int}(s:xm G H ys xs)(h:eI ys i=some y):∃x,eI xs i=some x/\RV G H y x:=by
 unfold eI at h ⊢;rw[<-s.length];cases e:sO ys.length i with
 |none=>rw[e] at h;cases h
 |some j=>
  rw[e] at h;exact s.get (i:=j) h
section
variable {a b:Expr}{tc:xg}
abbrev QE(X:Cx)(e:Expr)(t:xg):Prop:=PE X e<|rM X.g3 t
abbrev QT(X:Cx)(e:Expr)(t:hG):Prop:=PT X e<|h_ X.g3 t
abbrev QW(X:Cx)(e:Expr)(t:hG):Prop:=PW X e<|h_ X.g3 t
abbrev QA(X:Cx)(es:Wk)(t:eB):Prop:=PA X es<|IC X.g3 t
abbrev QS(X:Cx)(st:Stmt)(t:bB):Prop:=PS X st<|Fj X.g3 t
abbrev ue(X:Cx)(st:Wl)(t:bB):Prop:=iW X st<|Fj X.g3 t
abbrev QG(X:Cx)(e:Expr)(g:iq):Prop:=PG X e<|FH X.g3 g
abbrev FR(X:Cx)(es:Wk)(g:tE):Prop:=PGs X es<|PK X.g3 g
abbrev QI(X:Cx)(tg it:Expr)(w:p_):Prop:=PI X tg it<|GX X.g3 w
abbrev QF(X:Cx)(es:Wk)(t:hG):Prop:=PF X es<|h_ X.g3 t
def QE.of_var(h:PE X e<|Gw i):QE X e (qg i):=EU h λj H Q l L o I J z k=>by
 unfold qg at z;split at z
 ·rename_i y U;obtain⟨v,ev,g⟩:=I.get i y<|qR _ _ U;exact⟨v,ev,k v H y L (ES _) J g z⟩
 ·exact z.elim
def QE.of_c(h:PE X e<|tC v)(q:∀H,RV X.g3 H y v):QE X e (yC y):=EU h λJ H Q U L g j I z k=>k v H y L (ES _) I (q H) z
def qv(i:Nat)(hN:X.N[i]?=some x:=by rfl)(J:y_ X.env.scope x:=by first|exact Or.inl rfl|exact Or.inr (Or.inl rfl)|exact Or.inr<|Or.inr rfl)(hd:Fe x:=by decide)
 (I:Ff x:=by decide):QE X (.Name x pos) (qg i):=QE.of_var<|pv i hN J hd I
def gK :QE X (.Constant .none j pos) (yC .non):=QE.of_c ME λ_=>rfl
def bZ{b:Bool} :QE X (.Constant (.bool b) j pos) (yC<|.bl b):=QE.of_c MD λ_=>rfl
def qd{i:Int} :QE X (.Constant (.int i) j pos) (yC<|.int i):=QE.of_c MC λ_=>rfl
def je :QE X (.Constant (.str x) j pos) (yC<|.str x):=QE.of_c dN λ_=>rfl
def P0{c:Addr}(I:Gl X x)(J:X.mg x=some (.ref c))(q:∀H,RV X.g3 H y<|.ref c)(hd:Fe x:=by decide):QE X (.Name x pos) (yC y):=QE.of_c (Ix I J hd) q
def yT{r:oQ}(σ:St)(H:Hp)(Q:VK):rM G (xu r ta tb) σ H Q->Fx (gB G r) (rM G ta) (rM G tb) σ H Q:=λ⟨j,L,t,l,C,z,k⟩=>
 ⟨j,L,_,l,C,z,λv H1 y T o I J z1=>⟨j,T,_,l.ts o,I,z1,λv2 H2 y2 L2 p U g z2=>⟨y,y2,L2,t,J.ts p,g,U,z2,k.ts<|o.trans p⟩⟩⟩
def ql{op:Operator}{r:oQ}(h:wb X (binaryOp op)<|gB X.g3 r)(I:QE X a ta)(J:QE X b tb):QE X (.BinOp a op b pos) (xu r ta tb):=E4 (NE h I J) yT
def P1{r:oQ}(h:IxR X<|gB X.g3 r)(I:QE X a ta)(J:QE X b tb)(U:rJ b):QE X (.Subscript a b pos) (xu r ta tb):=E4 (Ov h I J U) yT
def kh{op:CmpOp}{r:oQ}(h:wb X (compareOp op)<|gB X.g3 r)(I:QE X a ta)(J:QE X b tb)(U:behindInMarks op b=false):QE X (.Compare a [op] [b] pos) (xu r ta tb):=E4 (NP h I J U) yT
def G5{t:xg}(σ:St)(H:Hp)(Q:Bool->Hp->Prop):h_ G (yB t) σ H Q->GJ (rM G t) σ H Q:=λ⟨g,L,C,j,l,z,k⟩=>
 ⟨g,L,_,j,l,z,λv o y p r I J U=>by cases y with|bl b=>exact⟨b,J,k b o p r I U⟩|_=>exact U.elim⟩
def IL{t:xg}(σ:St)(H:Hp)(Q:Bool->Hp->Prop):h_ G (yB t) σ H Q->L2.tB (rM G t) σ H Q:=G5 σ H Q
def jk{op:CmpOp}{r:oQ}(h:wb X (compareOp op)<|gB X.g3 r)(J:QE X a ta)(U:QE X b tb)(g:behindInMarks op b=false):QT X (.Compare a [op] [b] pos) (yB<|xu r ta tb):=
 PT.imp (NQ h J U g) λI H Q q=>by have j:=G5 I H Q q;obtain⟨l,L,o,p,t,z,k⟩:=j;exact yT I H _ ⟨l,L,o,p,t,z,k⟩
def vq(h:QE X e te)(I:∀whole,isTrue e X.env whole=(do let v <-whole;standAt e.pos;holding [v] (truthy v)):=by intro _;rfl):QT X e (yB te):=PT.imp (MJ h I) IL
def F_{f:Wr->Wr->Sem Wr}{C:Int->Int->Prop}{g:Int->Int->V}{g3:Int->Int->Y}(h:wb X f<|rI C g)(e:∀i j H,RV X.g3 H (g3 i j)<|g i j):wb X f (gB X.g3<|yI C g3):=wb.imq h λx y H Q J I L p U l o z k=>by
 cases J with
 |int i=>
  cases I with|int j=>exact⟨i,j,U,l,z.1,k _ H _ L (ES _) o (e i j H) z.2⟩|_=>exact z.elim
 |_=>cases I<;>exact z.elim
def Ga{f:Wr->Wr->Sem Wr}{g:Int->Int->V}{g3:Int->Int->Y}(h:wb X f<|o_ g)(e:∀i j H,RV X.g3 H (g3 i j)<|g i j):wb X f (gB X.g3<|l_ g3):=wb.imq h λx y H Q J I L p U l o z k=>by
 cases J with
 |int i=>
  cases I with|int j=>exact⟨i,j,U,l,k _ H _ L (ES _) o (e i j H) z⟩|_=>exact z.elim
 |_=>cases I<;>exact z.elim
def wy:wb X (binaryOp .Sub) (gB X.g3<|l_ λi j=>.int<|i-j):=Ga NG λ_ _ _=>rfl
def qL:wb X (binaryOp .Mult) (gB X.g3<|yI acv λi j=>.int<|i*j):=F_ NH λ_ _ _=>rfl
def vk:wb X (binaryOp .FloorDiv) (gB X.g3<|yI F4 λi j=>.int<|i / j):=F_ NI λ_ _ _=>rfl
def j7:wb X (binaryOp .Mod) (gB X.g3<|yI (λ_ j=>0<j) λi j=>.int<|i % j):=F_ NJ λ_ _ _=>rfl
def IM:wb X (binaryOp .Pow) (gB X.g3<|yI GI λi j=>.int<|i ^ j.toNat):=F_ NK λ_ _ _=>rfl
def gG:wb X (compareOp .Lt) (gB X.g3<|l_ λi j=>.bl<|decide<|i<j):=Ga NM λ_ _ _=>rfl
def G6:wb X (compareOp .LtE) (gB X.g3<|l_ λi j=>.bl<|decide<|i<=j):=Ga NN λ_ _ _=>rfl
def FT:wb X (compareOp .Gt) (gB X.g3<|l_ λi j=>.bl<|decide<|j<i):=Ga NO λ_ _ _=>rfl
def js:wb X (binaryOp .Add) (gB X.g3 fi):=wb.imq OZ λx y H Q t J L Q3 U g I z k=>by
 cases t with
 |int i=>
  cases J with|int j=>cases U;cases g;exact k _ H _ L (ES _) I (by rfl) z|_=>exact z.elim
 |str i=>
  cases J with|str j=>cases U;cases g;exact⟨z.1,k _ H _ L (ES _) I (by rfl) z.2⟩|_=>exact z.elim
 |ref a=>
  cases J with
  |ref b=>
   cases U;cases g;obtain⟨ys,zs,C,T,hz,q⟩:=z;obtain⟨xs,h1,o⟩:=I a _ C;obtain⟨us,h2,r⟩:=I b _ T;refine⟨xs,us,h1,h2,by rw[<-o.length,<-r.length];exact hz,λp l=>?_⟩;exact k _ _ _ _ (ET l) (I.newL l<|o.app r) (by rfl)<|q p<|I.none l
  |_=>exact z.elim
 |_=>cases J<;>exact z.elim
def uV{kvs:List<|Str×Str}{k:Str}(h:kvs.lookup k=some x):gD (kvs.map λp=>((Sum.inr p.1:jh),V.str p.2)) (Sum.inr k)=some (V.str x):=by
 induction kvs with
 |nil=>simp at h
 |cons p r I=>
  obtain⟨a,b⟩:=p;unfold gD;rw[AA,BP];rw[BC] at h;by_cases c:k=a
  ·subst c;simp at h;simp[h]
  ·have J:(k==a)=false:=by simpa using c
   rw[J] at h;have U:decide ((Sum.inr a:jh)=Sum.inr k)=false:=Au λz=>c (Sum.inr.inj z).symm;simp only[U];exact I h
def qC{kvs:List<|jh×Y}{xs:List<|jh×V}{k:jh}(p:Paired (λ(p:jh×Y) (q:jh×V)=>p.1=q.1/\RV G H p.2 q.2) kvs xs)(h:a6 kvs k=some y):∃x,gD xs k=some x/\RV G H y x:=by
 induction p with
 |nil=>cases h
 |@cons a b _ _ r t U=>
  obtain⟨I,l⟩:=a;obtain⟨g,j⟩:=b;obtain⟨e,r⟩:=r;cases (show I=g from e);unfold a6 at h;unfold gD;rw[BP] at h ⊢;by_cases c:I=k
  ·have J:decide (I=k)=true:=Aw c;simp only[J] at h ⊢;cases h;exact⟨j,rfl,r⟩
  ·have J:decide (I=k)=false:=Au c;simp only[J] at h ⊢;exact U h
def P2(K:Af)(P:Wt)(w:Wu)(hK:X.K=K:=by rfl)(hP:X.prog=P:=by rfl)(hw:X.w=w:=by rfl):IxR X (gB ⟨K,P,w⟩ hU):=by
 subst hK hP hw;refine IxR.imp O0 λx y H Q ⟨x3,j,L,Q3,I,l,o,z,k⟩=>?_;have seq:∀{i:Int} {x3:Y},RV X.g3 H x3 x->y=.int i->(iL L x3 λg=>xA L Q3<|eI g i)->Iv X.K X.prog X.w x y H Q:=by
  intro i x3 I ey z;subst ey;obtain⟨g,es,z⟩:=wm z;obtain⟨p,C,e,sq,rv⟩:=rj o I es;subst e;cases ea:eI g i with
  |none=>rw[ea] at z;exact z.elim
  |some y=>
   rw[ea] at z;obtain⟨x,ex,T⟩:=PZ rv ea;exact⟨C,x,sq,ex,k _ H _ L (ES _) o T z⟩
 cases x3 with
 |str s=>
  cases j with
  |int i=>
   cases I;cases l;obtain⟨z1,r⟩:=z;cases ea:eI s.cps.toList i with
   |none=>rw[ea] at r;exact r.elim
   |some c=>rw[ea] at r;exact⟨z1,c,ea,k _ H _ L (ES _) o (by rfl) r⟩
  |_=>exact z.elim
 |cd J=>
  cases j with
  |str s=>
   obtain⟨a,ea,kd⟩:=I;cases ea;cases l;have U:xA L (λs L=>Q3 (.str s) L) (J.lookup s):=z;cases el:J.lookup s with
   |none=>rw[el] at U;exact U.elim
   |some t=>rw[el] at U;exact⟨_,_,.inr kd,uV el,k _ H _ L (ES _) o (by rfl) U⟩
  |int i=>exact z.elim
  |_=>exact z.elim
 |ref a=>
  cases j with
  |int i=>exact seq (x3:=.ref a) I l z
  |str s=>
   cases I;cases l;obtain⟨J,e,U⟩:=oN z;obtain⟨C,e2,pr⟩:=o a _ e;cases ev:a6 J (Sum.inr s) with
   |none=>rw[ev] at U;exact U.elim
   |some y=>
    rw[ev] at U;obtain⟨x,ex,I⟩:=qC pr ev;exact⟨C,x,.inl<|.inl e2,ex,k _ H _ L (ES _) o I U⟩
  |_=>exact z.elim
 |tup g=>
  cases j with|int i=>exact seq (x3:=.tup g) I l z|_=>exact z.elim
 |sq g=>
  cases j with|int i=>exact seq (x3:=.sq g) I l z|_=>exact z.elim
 |_=>cases j<;>exact z.elim
def xm.inv1(h:xm G H [y] xs):∃x,xs=[x]/\RV G H y x:=by obtain⟨x,I,e,r,s⟩:=h;cases (show I=[] from s);exact⟨x,e,r⟩
def xm.inv2{J:Y}(h:xm G H [y,J] xs):∃x I,xs=[x,I]/\RV G H y x/\RV G H J I:=by obtain⟨x,U,e,r,s⟩:=h;obtain⟨I,g,j⟩:=s.inv1;exact⟨x,I,by rw[e,g],r,j⟩
def P4(K:Af)(P:Wt)(w:Wu)(g:X.K=K:=by rfl)(j:X.prog=P:=by rfl)(hw:X.w=w:=by rfl):ja X (.builtin "len") (c_ ⟨K,P,w⟩ vI):=by
 subst g j hw;refine E9 O6 λC H Q l L T U I z k=>?_;unfold vI at z;split at z
 ·obtain⟨x,rfl,r⟩:=U.inv1;cases r;exact⟨z.1,k _ H _ L (ES _) I (by rfl) z.2⟩
 ·rename_i y _;obtain⟨x,rfl,r⟩:=U.inv1;obtain⟨l,o,z⟩:=wm z;obtain⟨p,t,e,sq,J⟩:=rj I r o;subst e;refine⟨t,sq,?_⟩;rw[<-J.length];exact k _ H _ L (ES _) I (by rfl) z
 ·exact z.elim
def P5(i j:Int):(if j > i then j else i)=max i j:=by split<;>lia
def P6(i j:Int):(if j<i then j else i)=min i j:=by split<;>lia
def pK(hc:X.calm=true:=by rfl):ja X (.builtin "max") (c_ X.g3 zO):=E9 (NR hc) λl H Q o L p I J z k=>by
 unfold zO at z;split at z
 ·rename_i i j;obtain⟨x,r,rfl,U,g⟩:=I.inv2;cases U;cases g;refine⟨i,j,rfl,?_⟩;rw[P5];exact k _ H _ L (ES _) J (by rfl) z
 ·exact z.elim
def qA(hc:X.calm=true:=by rfl):ja X (.builtin "min") (c_ X.g3 FI):=E9 (NS hc) λl H Q o L p I J z k=>by
 unfold FI at z;split at z
 ·rename_i i j;obtain⟨x,r,rfl,U,g⟩:=I.inv2;cases U;cases g;refine⟨i,j,rfl,?_⟩;rw[P6];exact k _ H _ L (ES _) J (by rfl) z
 ·exact z.elim
end
section
variable {a b:Expr}{tc:xg}
def fN{a:Addr}(J:zr G H L)(h:cO L (.ref a)=some ys):∃xs,aF G.K H a xs/\xm G H ys xs:=by
 have I:(match L a with|some (.lst ys)=>some ys|_=>none)=some ys:=h;split at I
 ·rename_i e;cases I;obtain⟨xs,U,q⟩:=J a _ e;exact⟨xs,FA U,q⟩
 ·cases I
def jK(I:zr G H L)(r:RV G H y v)(J:zD y=true)(h:cO L y=some ys):∃a xs,v=.ref a/\aF G.K H a xs/\xm G H ys xs:=by
 cases y with
 |ref a=>obtain⟨xs,s,q⟩:=fN I h;exact⟨a,xs,r,s,q⟩
 |sq U=>obtain⟨a,xs,e,s,q⟩:=r;cases h;exact⟨a,xs,e,s.sq,q⟩
 |_=>cases J
def zL{G:G3}{T:kC}{σ:L2.St}(I:qt X pins σ H s)(C:zr X.g3 H L)(r:RV X.g3 H y v)(J:zq v u)(h:q_ L y=some T)
 {c:Wr} {b:Bool} (e:PySem.W.kitOne X.K (.type T.nm) c=some b) (U:∀tk,Q (.bool b) {s with toks:=tk}):
 wpAny (model X.prog X.w) A (call (.builtin "isinstance") [u,c]) Q E s:=by
 cases y with
 |non=>cases h;cases r;exact bC I J .non e U
 |bl b=>cases h;cases r;exact bC I J (.bl _) e U
 |int i=>cases h;cases r;exact bC I J (.int _) e U
 |str x=>cases h;cases r;exact bC I J (.str _) e U
 |tup ys=>
  cases h;obtain⟨a,j,rfl,sq,_⟩:=r;cases (show u=Value.ref a from J);obtain⟨l,_,⟨o,h1,h2,_⟩,_⟩:=I.tuple sq;exact Br DP I.kIn ⟨o,h1,h2⟩ e (λz=>nomatch z) U
 |sq ys=>
  cases h;obtain⟨a,j,rfl,sq,_⟩:=r;cases (show u=Value.ref a from J);obtain⟨l,_,⟨o,n,h1,h2,_⟩,_⟩:=I.list sq.sq;exact Br CS I.kIn ⟨o,h1,h2⟩ e (λz=>nomatch z) U
 |ref a=>
  cases (show v=.ref a from r);have g:(match L a with|some (.lst _)=>some kC.list|some (.dct _)=>some .dict|_=>none)=some T:=h;split at g
  ·rename_i ys p;cases g;obtain⟨j,t,_⟩:=C a _ p;exact bC I J (.lst t) e U
  ·rename_i a1 p;cases g;obtain⟨j,t,_⟩:=C a _ p;exact bC I J (.dK t) e U
  ·cases g
 |_=>cases h
def qT(K:Af):∀T S:kC,PySem.W.kitOne K (.type T.nm) (.type S.nm)=some (dC T S):=by intro T S;cases T<;>cases S<;>rfl
def P7(G:G3)(S:kC):Wx->Hp->VK->Prop:=λxs H Q=>∃y v L I T,xs=[v,.ty S.nm]/\RV G H y v/\zr G H L/\q_ L y=some T/\I (.bl<|dC T S) L/\sK G H I Q
def P8(S:kC):ja X (.builtin "isinstance") (P7 X.g3 S):=by rintro J s o H p t Q I r⟨y,v,L,C,T,rfl,g,U,ty,q,k⟩;obtain⟨u,c,rfl,j,l⟩:=zf.two r;cases (show c=Value.type S.nm from l);exact j5 I.tk<|zL (G:=X.g3) I U g j ty (qT _ T S) λtk ht=>⟨.bl _,H,I.tok _,rfl,k _ H _ L (ES _) U (by rfl) q⟩
def w6{I:Str}(S:kC)(t:Gl X "isinstance")(C:X.mg "isinstance"=none)(J:Gl X I)(U:X.mg I=none)(g:bootBuiltins I=some (.type S.nm))(ha:QE X a ta)
 (hn:I ≠ "__name__" := by decide) (hd:(I==("__debug__" : Str))=false:=by decide)
 (hs:starEach [a,.Name I p1] X.env=(false,eval a X.env)::starEach [.Name I p1] X.env:=by rfl) (j:starEach [.Name I p1] X.env=(false,eval (.Name I p1) X.env)::starEach [] X.env:=by rfl)
 (hp:(backTo pos<|starEach [.Name I p1] X.env).any (·.1)=false:=by rfl):
 QE X (.Call (.Name "isinstance" p) [a,.Name I p1] [] pos) (ID S ta):=by
 refine E4 (eJ (P8 S) t C aW (vm ha (vm (yz J U g hn hd) bx j) hs) (by decide) (by decide) hs hp) ?_;rintro σ H Q ⟨τ,L,Q3,rs,rl,z,k⟩;refine⟨τ,L,_,rs,rl,z,λv H1 y L1 t1 l o r=>?_⟩;obtain⟨T,et,r⟩:=sQ r;exact⟨y,v,L1,Q3,T,rfl,o,l,et,r,k.ts t1⟩
def wV(neg:Bool)(x y:Y)(L:qk)(Q:YK):Prop:=iL L y λys=>fu x=true/\ys.all fu=true/\Q (.bl<|nb neg<|vF (ft x)<|ys.map ft) L
def IP(neg:Bool){op:CmpOp}(h:wb X (compareOp op)<|GP X.K neg):wb X (compareOp op) (gB X.g3<|wV neg):=wb.imq h λx y H Q I t L C g j U z k=>by
 obtain⟨J,l,f1,f2,q⟩:=wm z;obtain⟨p,T,e,sq,o⟩:=rj U j l;rw[g.flat f1];rw[o.flat f2] at sq;refine⟨p,_,e,sq,hV f1,?_,?_⟩
 ·rw[List.all_map,Cm];intro y r;exact hV<|Cm.mp f2 y r
 ·have:(if neg=true then !vF (ft I) (J.map ft) else vF (ft I) (J.map ft))=(nb neg<|vF (ft I)<|J.map ft):=by cases neg<;>simp[nb]
  rw[this];exact k _ H _ L (ES _) U (by rfl) q
def IQ(K:Af)(P:Wt)(w:Wu)(I:X.K=K:=by rfl)(J:X.prog=P:=by rfl)(hw:X.w=w:=by rfl):wb X (compareOp .In) (gB ⟨K,P,w⟩<|wV false):=by subst I J hw;exact IP false zY
def qP(K:Af)(P:Wt)(w:Wu)(I:X.K=K:=by rfl)(J:X.prog=P:=by rfl)(hw:X.w=w:=by rfl):wb X (compareOp .NotIn) (gB ⟨K,P,w⟩<|wV true):=by subst I J hw;exact IP true sH
theorem jc.rep{G:G3}{H:Hp}{L:qk}(j:zr G H L):∀{n:Nat} {y:Y} {d:Da} {v:V},jc L n y d->RV G H y v->aQ G.K H n v d
 |0,y,d,v,⟨f,e⟩,r=>by rw[r.flat f];exact⟨e,hV f⟩
 |n+1,y,d,v,h,r=>by
  have both:∀{U:List Y} {J:List Da} {I:Wx},Paired (jc L n) U J->xm G H U I->Paired (aQ G.K H n) I J:=by
   intro U J I p
   induction p generalizing I with
   |nil=>intro r;cases (show I=[] from r);exact .nil
   |cons q t l=>
    rintro⟨x,o,rfl,C,T⟩;exact .cons (jc.rep j q C)<|l T
  rcases h with⟨f,e⟩|⟨U,J,rfl,rfl,p⟩|⟨U,J,hy,rfl,es,p⟩
  ·rw[r.flat f];exact .inl ⟨e,hV f⟩
  ·obtain⟨a,I,rfl,sq,g⟩:=r;exact .inr<|.inl ⟨a,I,J,rfl,rfl,sq,both p g⟩
  ·obtain⟨a,I,rfl,sq,g⟩:=jK j r hy es;exact .inr<|.inr ⟨a,I,J,rfl,rfl,sq,both p g⟩
def yG(h:Fk y=true)(r:RV G H y v):∃a,v=.ref a:=by
 cases y with
 |ref a=>exact⟨a,r⟩
 |tup I=>obtain⟨a,J,e,_⟩:=r;exact⟨a,e⟩
 |sq I=>obtain⟨a,J,e,_⟩:=r;exact⟨a,e⟩
 |_=>cases h
def IR(neg:Bool)(K:Af)(P:Wt)(w:Wu)(g:X.A.units+128<cLine)(l:X.K=K)(o:X.prog=P)(hw:X.w=w):wb X (compareOp<|F5 neg) (gB ⟨K,P,w⟩<|b_ neg):=by
 subst l o hw;refine wb.imq (O8 neg g) λx y H Q T y3 L r J U I z k=>?_;have t:∀{p q:Prop} [Decidable p] [Decidable q],(p↔q)->Fy neg (decide p)=nb neg (decide q):=λh=>by rw[Eo.mpr h];cases neg<;>rfl
 unfold b_ at z;split at z
 any_goals
  rename_i i j;cases J;cases U;refine⟨rfl,?_⟩;rw[t (q:=i=j) (by simp)];exact k _ H _ L (ES _) I (by rfl) z
 obtain⟨f1,f2,n,m,d,e,C,h1,h2,q⟩:=z;obtain⟨a,rfl⟩:=yG f1 J;obtain⟨b,rfl⟩:=yG f2 U;have q:r (.bl<|Fy neg<|Da.eq d e) L:=by cases neg<;>exact q
 exact⟨n,m,d,e,C,h1.rep I J,h2.rep I U,k _ H _ L (ES _) I (by rfl) q⟩
def cf(K:Af)(P:Wt)(w:Wu)(I:X.A.units+128<cLine)(J:X.K=K:=by rfl)(U:X.prog=P:=by rfl)(hw:X.w=w:=by rfl):wb X (compareOp .Eq) (gB ⟨K,P,w⟩<|b_ false):=IR false K P w I J U hw
def P9(K:Af)(P:Wt)(w:Wu)(I:X.A.units+128<cLine)(J:X.K=K:=by rfl)(U:X.prog=P:=by rfl)(hw:X.w=w:=by rfl):wb X (compareOp .NotEq) (gB ⟨K,P,w⟩<|b_ true):=IR true K P w I J U hw
def RV.non_iff(r:RV G H y v):decide (v=.non)=(match y with|.non=>true|_=>false):=by
 cases y with
 |non=>cases r;rfl
 |cd I=>obtain⟨a,rfl,_⟩:=r;rfl
 |tup J=>obtain⟨a,U,rfl,_⟩:=r;rfl
 |sq J=>obtain⟨a,U,rfl,_⟩:=r;rfl
 |_=>cases r;rfl
def IS(σ:L2.St)(H:Hp)(Q:VK):rM G (oE false ta) σ H Q->HK (rM G ta) σ H Q:=λ⟨U,L,t,g,j,z,k⟩=>
 ⟨U,L,_,g,j,z,λv l y o p I J r=>by dsimp only;rw[J.non_iff];cases y<;>exact k _ l _ o p I (by rfl) r⟩
def yK(σ:L2.St)(H:Hp)(Q:VK):rM G (oE true ta) σ H Q->HL (rM G ta) σ H Q:=λ⟨U,L,t,g,j,z,k⟩=>
 ⟨U,L,_,g,j,z,λv l y o p I J r=>by dsimp only;rw[J.non_iff];cases y<;>exact k _ l _ o p I (by rfl) r⟩
def P_(h:QE X a ta):QE X (.Compare a [.Is] [.Constant .none j fy] pos) (oE false ta):=E4 (HN<|HM h) IS
def l9(h:QE X a ta):QE X (.Compare a [.IsNot] [.Constant .none j fy] pos) (oE true ta):=E4 (HN<|yJ h) yK
def IT{t:TE}(h:∀σ H Q,rM G te σ H Q->t σ H Q)(σ:L2.St)(H:Hp)(Q:Bool->Hp->Prop):h_ G (yB te) σ H Q->L2.tB t σ H Q:=λq=>h σ H _<|IL σ H Q q
def mY(h:QE X a ta):QT X (.Compare a [.Is] [.Constant .none j fy] pos) (yB<|oE false ta):=PT.imp (HQ<|HM h)<|IT IS
def yj(h:QE X a ta):QT X (.Compare a [.IsNot] [.Constant .none j fy] pos) (yB<|oE true ta):=PT.imp (HQ<|yJ h)<|IT yK
end
section
variable {a b:Expr}{rest:Wk}{tc:xg}{tB:hG}{tr:eB}
def vn(h:QT X a tA):QW X (.BoolOp .And [a] pos) tA:=MQ h
def da(h:QT X a tA):QW X (.BoolOp .Or [a] pos) tA:=MT h
def wv(h:QT X a tA)(k:QW X (.BoolOp .And (b::rest) pos) tB):QW X (.BoolOp .And (a::b::rest) pos) (lL tA tB):=PW.imq (MU h k) λt H Q U L o g p z k=>
 ⟨U,L,_,g,p,z,λc r j J I l=>by cases c with|true=>rw[AD rfl];exact⟨U,j,o,g.ts J,I,l,k.ts J⟩|false=>rw[AB AG];exact k _ r j J I l⟩
def gv(h:QT X a tA)(k:QW X (.BoolOp .Or (b::rest) pos) tB):QW X (.BoolOp .Or (a::b::rest) pos) (FK tA tB):=PW.imq (MV h k) λt H Q U L o g p z k=>
 ⟨U,L,_,g,p,z,λc r j J I l=>by cases c with|true=>rw[AD rfl];exact k _ r j J I l|false=>rw[AB AG];exact⟨U,j,o,g.ts J,I,l,k.ts J⟩⟩
def kj(h:QW X a tA):QT X a tA:=PW.pt h
def gQ(h:QT X a tA):QT X (.UnaryOp .Not a pos) (FM tA):=PT.imq (MW h) λr H Q J L t U g z k=>
 ⟨J,L,_,U,g,z,λc j l o I p=>k _ j l o I p⟩
def ai{op:BoolOp}(h:QE X a ta):QE X (.BoolOp op [a] pos) ta:=MZ h
def ky(h:QE X a ta)(k:QE X (.BoolOp .And (b::rest) pos) tb):QE X (.BoolOp .And (a::b::rest) pos) (GZ ta tb):=EU (M5 h k) λT H Q U L g o t z k=>
 ⟨U,L,_,o,t,z,λv C y J j I l p=>by
  cases y with
  |bl c=>
   refine⟨c,l,?_⟩;have r:wf c (tb U J g) (g (.bl false) J):=p;cases c with|true=>rw[AD rfl];exact⟨U,J,g,o.ts j,I,r,k.ts j⟩|false=>rw[AB AG];exact k _ C _ J j I (by rfl) r
  |_=>exact p.elim⟩
def P'(h:QE X a ta):QE X (.UnaryOp .Not a pos) (IE ta):=EU (M6 h) λt H Q g L C j l z k=>
 ⟨g,L,_,j,l,z,λv o y p r I J U=>by cases y with|bl c=>exact⟨c,J,k _ o _ p r I (by rfl) U⟩|_=>exact U.elim⟩
def cX(h:QT X c tA)(p:QE X a ta)(r:QE X b tb):QE X (.IfExp c a b pos) (FO tA ta tb):=EU (M8 h p r) λC H Q U L j g t z k=>
 ⟨U,L,_,g,t,z,λc T l J I o=>by cases c with|true=>rw[AD rfl];exact⟨U,l,j,g.ts J,I,o,k.ts J⟩|false=>rw[AB AG];exact⟨U,l,j,g.ts J,I,o,k.ts J⟩⟩
def v5:QA X [] ji:=PA.imq bx λJ H Q U L g j I z k=>k _ H _ L (ES _) I (by rfl) z
def jo(h:QE X e te)(t:QA X es tr)(hs:Fb e es X:=by rfl):QA X (e::es) (qm te tr):=PA.imq (vm h t hs) λσ H Q j L Q3 l C z k=>
 ⟨j,L,_,l,C,z,λv H1 y T o I J z1=>⟨j,T,_,l.ts o,I,z1,λp H2 ys L2 r U g z2=>k (v::p) H2 (y::ys) L2 (o.trans r) U ⟨v,p,rfl,J.ts r,g⟩ z2⟩⟩
def zb(h:QA X es tr):QE X (.Tuple es x1 pos) (ah tr):=EU (vV h) λσ H Q l L Q3 o r z k=>
 ⟨l,L,_,o,r,z,λt H1 j C T U I J=>by
  cases e:Nat.ble j.length 1000 with
  |false=>rw[e] at J;exact J.elim
  |true=>
   rw[e] at J;have:=Ct e;refine⟨cz (by rw[<-I.length];exact this),λp g=>?_⟩;exact k _ _ (.tup j) C (T.trans<|ET g) (U.skip g) ⟨p,t,rfl,dz.of zu,I.ts<|ET g⟩ J⟩
def zk(h:QA X es tr):QE X (.List es pos) (fh tr):=EU (NY h) λC H Q j L T l o z k=>
 ⟨j,L,_,l,o,z,λvs H1 r L1 t I J U=>by
  cases e:Nat.ble r.length 1000 with
  |false=>rw[e] at U;exact U.elim
  |true=>
   rw[e] at U;have:=Ct e;refine⟨cz (by rw[<-J.length];exact this),λp g=>?_⟩;exact k _ _ _ _ (t.trans<|ET g) (I.newL g J) (by rfl)<|U p<|I.none g⟩
def zm{id:Ww}{r:List Y->qk->YK->Prop}(hc:ja X (.builtin id)<|c_ X.g3 r)(U:Gl X x)(g:X.mg x=none)(j:bootBuiltins x=some (.builtin id))(h:QA X (e::es) tr)
 (l:x ≠ "__name__" := by decide) (hd:Fe x:=by decide) (hs:Fb e es X:=by rfl) (o:Fc pos es X:=by rfl):
 QE X (.Call (.Name x p) (e::es) [] pos) (pQ r tr):=EU (eJ hc U g j h l hd hs o) λσ H Q t L C T rl z k=>
 ⟨t,L,_,T,rl,z,λvs H1 ys L1 t1 I J z1=>⟨ys,L1,C,J,I,z1,k.ts t1⟩⟩
def IU(G:G3)(t:FP):TO:=λσ H Q=>∃τ L I,xb G H σ τ/\zr G H L/\t τ L I/\∀(o:Wo) H' L',zy H H'->zr G H' L'->I o L'->Q o H'
abbrev QO(X:Cx)(e:Option Expr)(t:FP):Prop:=PO X e<|IU X.g3 t
def PO.imp{e:Option Expr}{t u:TO}(h:PO X e t)(q:∀σ H Q,u σ H Q->t σ H Q):PO X e u:=λJ s σ H Q I z=>h J s σ H Q I<|q σ H Q z
def PO.imq{e:Option Expr}{t:TO}{u:FP}(h:PO X e t)(q:∀σ H Q τ L I,xb G H σ τ->zr G H L->u τ L I->(∀(o:Wo) H' L',zy H H'->zr G H' L'->I o L'->Q o H')->t σ H Q):PO X e (IU G u):=PO.imp h λσ H Q ⟨τ,L,I,a,b,c,d⟩=>q σ H Q τ L I a b c d
def sM.imp{U:V->Wo->Wo->Hp->VK->Prop}(h:sM X r)(q:∀x lo hi H Q,U x lo hi H Q->r x lo hi H Q):sM X U:=by intro J s g H x v j l lo hi o Q I p t C T z;exact h J s g H x v j l lo hi o Q I p t C T<|q _ _ _ _ _ z
def iA:QO X none rQ:=PO.imq Om λJ H Q U L g j I z k=>k _ H L (ES _) I z
def dh(h:QE X e te):QO X (some e) (G2 te):=PO.imq (Oo h) λt H Q g L C j l z k=>
 ⟨g,L,_,j,l,z,λv o y p r I J U=>by cases y with|int i=>exact⟨i,J,k _ o p r I U⟩|_=>exact U.elim⟩
def Gb(G:G3)(r:Y->Wo->Wo->qk->YK->Prop):V->Wo->Wo->Hp->VK->Prop:=λx lo hi H Q=>∃y L I,RV G H y x/\zr G H L/\r y lo hi L I/\sK G H I Q
def cN{lo hi:Option Expr}{tl th:FP}{r:Y->Wo->Wo->qk->YK->Prop}(h:sM X<|Gb X.g3 r)(T:QE X a ta)(hl:QO X lo tl)(hh:QO X hi th):QE X (.Subscript a (.Slice lo hi none p2) pos) (G4 r ta tl th):=
 EU (Oq h T hl hh) λσ H Q I L Q3 J rl z k=>
 ⟨I,L,_,J,rl,z,λv H1 y L1 U g j z1=>⟨I,L1,_,J.ts U,g,z1,λo H2 L2 l p z2=>⟨I,L2,_,J.ts<|U.trans l,p,z2,λo' H3 L3 C t z3=>⟨y,L3,Q3,j.ts<|l.trans C,t,z3,k.ts<|U.trans<|l.trans C⟩⟩⟩⟩
def rq(r:xm G H ys xs)(lo hi:Wo):xm G H (oS ys lo hi) (uC xs lo hi):=by unfold oS uC;rw[r.length];exact(r.drop _).take _
def Qa(K:Af)(P:Wt)(w:Wu)(l:X.K=K:=by rfl)(o:X.prog=P:=by rfl)(hw:X.w=w:=by rfl):sM X (Gb ⟨K,P,w⟩ IF):=by
 subst l o hw;refine sM.imp OE λx lo g H Q ⟨y,L,Q3,j,J,z,k⟩=>?_;cases y with
 |ref a=>
  obtain⟨t,C,T⟩:=jy z;obtain⟨U,sq,r⟩:=fN J<|wx C;exact⟨a,U,j,sq,λp I=>k _ _ _ _ (ET I) (J.newL I<|rq r lo g) (by rfl)<|T p<|J.none I⟩
 |sq t=>
  obtain⟨a,U,e,sf,r⟩:=j;exact⟨a,U,e,sf.sq,λp I=>k _ _ _ _ (ET I) (J.newL I<|rq r lo g) (by rfl)<|z p<|J.none I⟩
 |_=>exact z.elim
end
section
variable {a b iter:Expr}{tc:xg}{tB:hG}{tr:eB}{rest r4:Wl}{t u:bB}
def ze:ue X [] dE:=iW.imq Nc λD U H g L j I J z k=>k.nx _ H _ L (ES _) I J z
def qe(h:QS X st t):ue X [st] t:=yy h
def qb(h:QS X st t)(k:ue X rest u):ue X (st::rest) (jm t u):=iW.imq (uk h k) λD σ H j L I l o z k=>
 ⟨j,L,{I with nx:=u I},l,o,z,λp H1 J r C U g T=>⟨J,r,I,U,g,T,k.ts C⟩,k.rt,k.bk,k.ct⟩
def sP:QS X (.Continue pos) PR:=EW sT λD U H g L j I J z k=>k.ct _ H _ L (ES _) I J z
def qy(h:QE X e te)(hs:swapsWith e none pos.line X.env=pure false:=by rfl):QS X (.Expr e pos) (vi te):=EW (yu h hs) λD t H g L C J j z k=>
 ⟨g,L,_,J,j,z,λv l y o U I p r=>k.nx _ l _ o U (J.ts U) I r⟩
def qu(h:QE X e te):QS X (.Return (some e) pos) (eL te):=EW (Nh h) λD g H I L j J U z k=>⟨I,L,_,J,U,z,k.rt⟩
def zG:QS X (.Return none pos) IG:=EW Nj λD J H U L g j I z k=>k.rt _ H _ L (ES _) I (by rfl) z
def zj(h:QT X c tA)(p:ue X body t)(r:ue X r4 u):QS X (.If c body r4 pos) (aR tA t u):=EW (Nl h p r) λD T H U L j g C z k=>
 ⟨U,L,_,g,C,z,λc H1 l J I o=>by cases c with|true=>rw[AD rfl];exact⟨U,l,j,g.ts J,I,o,k.ts J⟩|false=>rw[AB AG];exact⟨U,l,j,g.ts J,I,o,k.ts J⟩⟩
def ao(hN:X.N.Nodup)(I:X.N[i]?=some x)(r:Loc X.env.scope x)(h:QE X e te)(J:swapsWith e (some<|.Name x fy) pos.line X.env=pure false:=by rfl)
 (U:X.fn x=true\/X.env.scope.names.lookup x=some .local:=by first|exact .inl rfl|exact .inr rfl|assumption):QS X (.Assign [.Name x fy] e pos) (xz te<|qo i):=EW (Nn hN I r h J U) λD σ H l L D3 o t z k=>
 ⟨l,L,_,o,t,z,λv C y T p g j z1=>k.nx _ C _ T p (show xb _ _ _ (ak l i y) by rw[wc];exact(o.ts p).set j) g z1⟩
def aU(h:QE X e te)(o:QG X tg g)(h1:swapsWithSole [tg] e pos.line X.env=pure false:=by rfl)(h2:swappedStores [tg] e X.env=pure none:=by rfl)
 (h3:(assignEach [tg] X.env).map (·.2)=[assign tg X.env]:=by rfl):QS X (.Assign [tg] e pos) (xz te g):=EW (HW h o h1 h2 h3) λD C H U L T j p z k=>
 ⟨U,L,_,j,p,z,λv H1 y r l I J t=>⟨y,U,r,_,J,j.ts l,I,t,k.nx.ts l⟩⟩
def PG.imp{t u:TG}(h:PG X e t)(q:∀v σ H Q,u v σ H Q->t v σ H Q):PG X e u:=λJ s σ H x v Q I r z=>h J s σ H x v Q I r<|q _ _ _ _ z
def PGs.imp{e:Wk}{t u:e_}(h:PGs X e t)(q:∀v σ H Q,u v σ H Q->t v σ H Q):PGs X e u:=λJ s σ H x v Q I r z=>h J s σ H x v Q I r<|q _ _ _ _ z
def gj(hN:X.N.Nodup)(I:X.N[i]?=some x)(U:Loc X.env.scope x)(J:X.fn x=true\/X.env.scope.names.lookup x=some .local:=by first|exact .inl rfl|exact .inr rfl|assumption):QG X (.Name x pos) (qo i):=
 PG.imp (l8 hN I U J) λv p H Q ⟨y,g,L,r,j,l,o,z,k⟩=>k _ H _ L (ES _) (show xb _ _ _ (ak g i y) by rw[wc];exact l.set j) o z
def xh:FR X [] cQ:=PGs.imp yk λj l H Q ⟨I,o,L,p,J,U,g,z,k⟩=>by cases I with|nil=>exact⟨J,k _ H _ L (ES _) U g z⟩|cons y r=>exact z.elim
def qx(h:QG X e g)(hs:FR X es gs)(l:(assignEach (e::es) X.env).map (·.2)=assign e X.env::(assignEach es X.env).map (·.2):=by rfl):FR X (e::es) (jx g gs):=
 PGs.imp (mL h hs l) λvs σ H Q ⟨o,p,L,t,C,T,rl,z,k⟩=>by
 cases o with
 |nil=>exact z.elim
 |cons y r=>
  obtain⟨x,xs,rfl,r1,r2⟩:=C;exact⟨x,xs,rfl,y,p,L,_,r1,T,rl,z,λa1 H1 I L1 j J U z1=>⟨r,I,L1,t,r2.ts j,J,U,z1,k.ts j⟩⟩
def vz{j:Nat}(hc:X.calm=true)(h:FR X es gs)(h1:(assignEach es X.env).length=n:=by rfl)(h2:(assignEach es X.env).findIdx? (·.1)=none:=by rfl):QG X (.Tuple es j pos) (fC n gs):=
 PG.imp (HU hc h h1 h2) λv C H Q ⟨y,U,L,g,l,o,p,z,k⟩=>by
 cases y with
 |tup I=>
  obtain⟨a,t,rfl,sq,r⟩:=l;have J:(match I.length==n with|true=>gs I U L g|false=>False):=z;split at J
  ·rename_i e;exact⟨a,t,rfl,sq,by rw[<-r.length];exact beq_iff_eq.mp e,I,U,L,g,r,o,p,J,k⟩
  ·exact J.elim
 |_=>exact z.elim
def vW{y:Str}{px pt:Pos}{k2:Nat}{I:Pos}(hc:X.calm=true)(hN:X.N.Nodup)(hi:X.N[i]?=some x)(t:X.N[j]?=some y)(J:i≠j)(C:X.env.scope.names.lookup x=some .local)(T:X.env.scope.names.lookup y=some .local)
 (h:QA X [a,b] tr) (h1:swappedStores [.Tuple [.Name x px,.Name y py] kt pt] (.Tuple [a,b] k2 I) X.env=pure (some [x,y])) (h2:swapsWithSole [.Tuple [.Name x px,.Name y py] kt pt] (.Tuple [a,b] k2 I) pos.line X.env=pure false:=by rfl):
 QS X (.Assign [.Tuple [.Name x px,.Name y py] kt pt] (.Tuple [a,b] k2 I) pos) (IH i j tr):=EW (Np hc hN hi t J C T h h1 h2) λD σ H o L D3 p rl z k=>
 ⟨o,L,_,p,rl,z,λvs H1 ys L1 r U g l=>by
  split at l
  ·rename_i v w;obtain⟨x',y',rfl,r1,r2⟩:=g.inv2;exact⟨x',y',rfl,k.nx _ H1 _ L1 r (show xb _ _ _ (ak (ak o i v) j w) by rw[wc,wc];exact((p.ts r).set r1).set r2) U l⟩
  ·exact l.elim⟩
def nK(hp:PassesOwn (model X.prog X.w) X.A X.env X.xe)(h:QT X c tA)(hb:ue X body t):QS X (.While c body [] pos) (IJ tA t):=PS.imp (Nr hp h hb) λD σ H ⟨τ,L,D3,rs,rl,⟨W,⟨m0,w0⟩,turn⟩,k⟩=>by
 refine⟨λm r H1=>∃J C,zy H H1/\xb X.g3 H1 r J/\zr X.g3 H1 C/\W m J C,⟨m0,τ,L,ES _,rs,rl,w0⟩,?_⟩;rintro m r H1 ⟨J,C,t1,l,a2,w1⟩;refine⟨J,C,_,l,a2,turn m J C w1,λb H2 L2 T a1 z2=>?_⟩;cases b with
 |false=>rw[AB AG];exact k.nx _ H2 _ L2 (t1.trans T) (l.ts T) a1 z2
 |true=>
  rw[AD rfl];obtain⟨N,hN,z2⟩:=z2;refine⟨λU g=>∃I j,zy H g/\xb X.g3 g U I/\zr X.g3 g j/\N I j,?_,?_⟩
  ·rintro U g ⟨I,j,t',o,p,n'⟩;obtain⟨m',hm,w'⟩:=hN I j n';exact⟨m',hm,I,j,t',o,p,w'⟩
  ·have nx:oh X.g3 H2 (i0 N) (λU g=>∃I j,zy H g/\xb X.g3 g U I/\zr X.g3 g j/\N I j):=λU g I j t' o p ⟨L5,s5,n'⟩=>⟨I,L5,(t1.trans T).trans t',o,p.sub s5,n'⟩;have k2:=k.ts<|t1.trans T;exact⟨J,L2,_,l.ts T,a1,z2,nx,k2.rt,k2.nx,nx⟩
def aP{wi:p_}(hp:PassesOwn (model X.prog X.w) X.A X.env X.xe)(hc:X.calm=true)(hi:QI X tg iter wi)(hg:QG X tg g)(hb:ue X body t)(hs:∀x,foldedSetIterable iter X.env x=pure x:=by intro _;rfl):
 QS X (.For tg iter body [] pos) (uY wi g t):=EW (ND hp hc hi hg hb hs) λD σ H τ L D3 rs rl z k=>by
 refine⟨τ,L,_,rs,rl,z,λJ H1 r keep L1 t1 a3 yl zz=>?_⟩;obtain⟨W,w0,wk,turn,xt⟩:=PU zz;refine⟨λi m U j=>∃I o,i+m=r.length/\zy H1 j/\xb X.g3 j U I/\zr X.g3 j o/\W i I o,⟨r.length,τ,L1,by omega,ES _,rs.ts t1,a3,w0⟩,?_⟩;rintro i m ay H2 ⟨l,L2,aL,t2,a1,p,w2⟩;by_cases a2:i<r.length
 ·refine .inr ⟨yl.go i H2 L2 t2 p (wk i l L2 w2) a2,λU j=>∃I o,zy H1 j/\xb X.g3 j U I/\zr X.g3 j o/\W (i+1) I o,?_,?_⟩
  ·rintro U j ⟨I,o,t',C,T,w'⟩;exact⟨m-1,by omega,I,o,by omega,t',C,T,w'⟩
  ·intro x H3 y3;have ey:r[i]?=some r[i]:=Ag a2;obtain⟨t3,a4,a5⟩:=yl.yld i H2 L2 x H3 _ t2 p (wk i l L2 w2) ey y3;refine⟨r[i],l,L2,_,a5,a1.ts t3,a4,turn i _ l L2 ey w2,λba H4 ac L4 t4 al ax z4=>?_⟩;have nx:oh X.g3 H4 (i0<|W<|i+1) (λU j=>∃I o,zy H1 j/\xb X.g3 j U I/\zr X.g3 j o/\W (i+1) I o):=λU j I o t' C T ⟨L5,s5,n'⟩=>⟨I,L5,((t2.trans t3).trans t4).trans t',C,T.sub s5,n'⟩;have k2:=k.ts<|t1.trans<|(t2.trans t3).trans t4;exact⟨ac,L4,_,al,ax,z4,nx,k2.rt,k2.nx,nx⟩
 ·have e:i=r.length:=by omega
  subst e;exact .inl ⟨yl.stop H2 L2 t2 p<|wk _ l L2 w2,k.nx _ H2 _ L2 (t1.trans t2) a1 p<|xt l L2 w2⟩
def PI.imp{t u:TI}(h:PI X tg e t)(q:∀σ H Q,u σ H Q->t σ H Q):PI X tg e u:=λJ s σ H Q I z=>h J s σ H Q I<|q σ H Q z
def PI.imq{t:TI}{u:p_}(h:PI X tg e t)(q:∀σ H R τ L I,xb G H σ τ->zr G H L->u τ L I->(∀J H' ys keep L',zy H H'->zr G H' L'->gF G H' J ys keep->I ys keep L'->R J H')->t σ H R):PI X tg e (GX G u):=PI.imp h λσ H R ⟨τ,L,I,a,b,c,d⟩=>q σ H R τ L I a b c d
def jT{a:Addr}{keep:qk->Prop}(h:∀H L,zy H₀ H->zr G H L->keep L->∃xs,aF G.K H a xs/\xm G H ys xs):gF G H₀ (GD G.K a) ys keep where
 go:=λi H L t I J U=>by
  obtain⟨xs,sq,r⟩:=h H L t I J;have:i<xs.length:=by rw[<-r.length];exact U
  exact⟨xs,xs[i],sq,Ag this⟩
 yld:=λi H L x o y t I J g ⟨e,f⟩=>by subst e;obtain⟨xs,sq,r⟩:=h _ L t I J;obtain⟨p,j,l⟩:=r.get g;have:=f xs sq;rw[j] at this;cases this;exact⟨ES _,I,l⟩
 stop:=λH L t I J=>by obtain⟨xs,sq,r⟩:=h H L t I J;exact⟨xs,sq,by rw[r.length];exact An _⟩
def xj(h:QE X e te):QI X tg e (bw te):=PI.imq (Nv h) λσ H R τ L R3 rs l z k=>by
 refine⟨τ,L,_,rs,l,z,λv g y o C I U p=>?_⟩;cases y with
 |ref a=>
  obtain⟨j,keep,es,kp,hk,z2⟩:=tZ p;have T:∀H L,zy g H->zr X.g3 H L->keep L->∃J,aF X.K H a J/\xm X.g3 H j J:=λH L _ l e=>fN l<|hk L e;obtain⟨J,sq,_⟩:=T g o (ES _) I kp;exact⟨a,U,⟨J,sq⟩,k _ g j _ o C I (jT T) z2⟩
 |sq j=>
  obtain⟨a,J,e,sf,r⟩:=U;exact⟨a,e,⟨J,sf.sq⟩,k _ g j (λ_=>True) o C I (jT λH L t _ _=>⟨J,(sf.ts t).sq,r.ts t⟩) p⟩
 |_=>exact p.elim
def jN(lo:Int)(n:Nat):gF G H₀ (A_ lo n) (ww lo n) (λ_=>True) where
 go:=λi H L t J g j=>show i<n by simpa[ww] using j
 yld:=λi H L x l y t J g U ⟨e,f⟩=>by
  subst e f;refine⟨ES _,J,?_⟩;unfold ww at U;rw[Al] at U;obtain⟨z,I,e⟩:=Aq.mp U;have:=List.getElem?_range (i:=i) (n:=n) (by
   by_cases c:i<n
   ·exact c
   ·rw[CP (by simp;omega)] at I;cases I)
  rw[this] at I;cases I;subst e;rfl
 stop:=λH L t J g=>by simp[ww,A_]
def bD(g:Gl X "range")(l:X.mg "range"=none)(h:QA X [a] tr)(hs:starEach [a] X.env=[(false,eval a X.env)]:=by rfl):QI X tg (.Call (.Name "range" p) [a] [] pos) (rB tr):=
 PI.imq (Nz g l h hs) λσ H R o L R3 t C z k=>by
 refine⟨o,L,_,t,C,z,λvs T ys L1 t1 J U I=>?_⟩;split at I
 ·rename_i j;obtain⟨x,rfl,r⟩:=U.inv1;cases r;exact⟨j,rfl,I.1.1,I.1.2,k _ T _ _ L1 t1 J (jN 0 _) I.2⟩
 ·exact I.elim
def Qb(l:Gl X "range")(o:X.mg "range"=none)(h:QA X [a,b] tr)(hs:starEach [a,b] X.env=[(false,eval a X.env),(false,eval b X.env)]:=by rfl)(J:starEach [b] X.env=[(false,eval b X.env)]:=by rfl):QI X tg (.Call (.Name "range" p) [a,b] [] pos) (PX tr):=
 PI.imq (NA l o h hs J) λσ H R t L R3 C T z k=>by
 refine⟨t,L,_,C,T,z,λvs H1 ys L1 t1 U g I=>?_⟩;split at I
 ·rename_i i j;obtain⟨x,x',rfl,r,r'⟩:=g.inv2;cases r;cases r';exact⟨i,j,rfl,I.1,k _ H1 _ _ L1 t1 U (jN i _) I.2⟩
 ·exact I.elim
end
section
variable {T:Wj}{iter:Expr}{wi:p_}{tr:eB}
def cD:QF X [] FQ:=PF.imp O' λJ H Q ⟨U,L,g,j,I,z,k⟩=>k _ H L (ES _) I z
def dZ(h:QT X c tA):QF X [c] tA:=Pa h
def IV{g2:TG}(a1:∀v σ H Q,FH G g v σ H Q->g2 v σ H Q)(σ:L2.St)(H:Hp)(Q:VK):rM G (i_ n wi g tA te) σ H Q->GU n (GX G wi) g2 (h_ G tA) (rM G te) σ H Q:=λ⟨τ,L,Q3,rs,rl,z,k⟩=>by
 refine⟨τ,L,_,rs,rl,z,λJ H1 l keep L1 t1 a2 yl zz=>?_⟩;obtain⟨hz,W,w0,wk,turn,xt⟩:=PY zz;refine⟨λi m vs H'=>∃I L',i+m=l.length/\I.length<=i/\zy H1 H'/\xm G H' I vs/\zr G H' L'/\W i I L',⟨l.length,[],L1,by exact Nat.add_comm _ _,An _,ES _,rfl,a2,w0⟩,?_⟩;rintro i m vs H2 ⟨I,L2,ax,ay,o,U,j,p⟩;by_cases r:i<l.length
 ·refine .inr ⟨yl.go i H2 L2 o j (wk i I L2 p) r,by rw[<-U.length];lia,?_⟩;intro x H3 y3;have ey:l[i]?=some l[i]:=Ag r;obtain⟨t3,a3,a4⟩:=yl.yld i H2 L2 x H3 _ o j (wk i I L2 p) ey y3;refine a1 _ _ _ _ ⟨l[i],_,L2,_,a4,(rs.ts<|(t1.trans o).trans t3).more n,a3,turn i _ I L2 ey p,λaL H4 t L4 t4 C a5 z4=>?_⟩;refine⟨t,L4,_,C,a5,z4,λb H5 L5 t5 T z5=>?_⟩;cases b with
  |true=>
   rw[AD rfl];refine⟨t,L5,_,C.ts t5,T,z5,λv6 H6 y6 L6 t6 ac al ⟨L7,s7,z6⟩=>?_⟩;have tt:=((t3.trans t4).trans t5).trans t6;exact⟨m-1,by omega,I++[y6],L7,by lia,by rw[Ac,B4];exact A',o.trans tt,(U.ts tt).app<|xm.one al,ac.sub s7,z6⟩
  |false=>
   rw[AB AG];have tt:=(t3.trans t4).trans t5;obtain⟨L7,s7,z6⟩:=z5;exact⟨m-1,by lia,I,L7,by lia,by exact Il,o.trans tt,U.ts tt,T.sub s7,z6⟩
 ·have ei:i=l.length:=by lia
  subst ei;refine .inl ⟨yl.stop H2 L2 o j<|wk _ I L2 p,by rw[<-U.length];lia,λD hD=>?_⟩;exact k _ _ _ _ ((t1.trans o).trans<|ET hD) (j.newL hD U) (by rfl)<|xt I L2 p D<|j.none hD
structure Fl(X:Cx)(scope:Scope)(T:Wj)(target:Expr)(g:iq):Prop where
 ex:∃g2:TG,(∀C fp s₀ H₀,PG (X.comp scope T C fp s₀ H₀) target g2)/\pY g2 X.N.length T.length/\∀v σ H Q,FH X.g3 g v σ H Q->g2 v σ H Q
def Qc(i:Nat)(v:V)(σ:L2.St)(H:Hp)(Q:L2.St->Hp->Prop):FH G (qo i) v σ H Q->fA i v σ H Q:=λ⟨y,I,L,j,J,U,g,z,k⟩=>
 k _ H _ L (ES _) (show xb _ _ _ (ak I i y) by rw[wc];exact U.set J) g z
def gf(hN:(X.N++[x]).Nodup)(J:∀C fp s₀ H₀,Loc (X.comp scope [x] C fp s₀ H₀).env.scope x)(I:∀C fp s₀ H₀,(X.comp scope [x] C fp s₀ H₀).env.scope.names.lookup x=some .local):Fl X scope [x] (.Name x p) (qo X.N.length):=
 ⟨fA X.N.length,λC fp s₀ H₀=>l8 (X:=X.comp scope [x] C fp s₀ H₀) hN (by show(X.N++[x])[X.N.length]?=some x;simp) (J C fp s₀ H₀)<|.inr<|I C fp s₀ H₀,vS _,Qc _⟩
def Qd{K:Af}(n:Nat):pY (Gz K 2<|tG (fA n)<|tG (fA<|n+1) Gy) n 2:=by
 rintro o I x H Q ⟨a,J,e,sq,len,v,r,U,w,g,j,l,q⟩;refine⟨a,J,e,sq,len,v,r,U,w,g,j,l,⟨by simp[I],λi u ei=>?_⟩,q⟩;have p:i<n:=by
  by_cases c:i<n
  ·exact c
  ·rw[AF (by lia),CF] at ei;split at ei<;>cases ei
 rw[A5 (by lia),A5 (by exact Io)];exact ei
def Qe(i j:Nat)(v:V)(σ:L2.St)(H:Hp)(Q:L2.St->Hp->Prop):FH G (fC 2<|jx (qo i)<|jx (qo j) cQ) v σ H Q->Gz G.K 2 (tG (fA i)<|tG (fA j) Gy) v σ H Q:=λ⟨y,U,L,g,o,p,t,z,k⟩=>by
 cases y with
 |tup I=>
  obtain⟨a,xs,rfl,sq,r⟩:=o;have J:(match I.length==2 with|true=>jx (qo i) (jx (qo j) cQ) I U L g|false=>False):=z;split at J
  ·rename_i e;have C:I.length=2:=beq_iff_eq.mp e
   match I,C with
   |[T,y2],_=>
    obtain⟨x1,l,rfl,r1,r2⟩:=r.inv2;have z2:g (ak (ak U i T) j y2) L:=J;exact⟨a,_,rfl,sq,rfl,x1,[l],rfl,l,[],rfl,rfl,k _ H _ L (ES _) (by rw[wc,wc];exact(p.set r1).set r2) t z2⟩
  ·exact J.elim
 |_=>exact z.elim
def qQ{y:Str}{I pt:Pos}(hc:X.calm=true)(hN:(X.N++[x,y]).Nodup)(U:∀C fp s₀ H₀,(X.comp scope [x,y] C fp s₀ H₀).env.scope.names.lookup x=some .local)(J:∀C fp s₀ H₀,(X.comp scope [x,y] C fp s₀ H₀).env.scope.names.lookup y=some .local)
 (h1:∀env,(assignEach [.Name x p,.Name y I] env).length=2:=by intro _;rfl) (h2:∀env,(assignEach [.Name x p,.Name y I] env).findIdx? (·.1)=none:=by intro _;rfl)
 (h3:∀env,(assignEach [.Name x p,.Name y I] env).map (·.2)=assign (.Name x p) env::(assignEach [.Name y I] env).map (·.2):=by intro _;rfl) (g:∀env,(assignEach [.Name y I] env).map (·.2)=assign (.Name y I) env::(assignEach [] env).map (·.2):=by intro _;rfl):
 Fl X scope [x,y] (.Tuple [.Name x p,.Name y I] kt pt) (fC 2<|jx (qo X.N.length)<|jx (qo<|X.N.length+1) cQ):=
 ⟨_,λC fp s₀ H₀=>HU (X:=X.comp scope [x,y] C fp s₀ H₀) hc (mL (l8 hN (by show(X.N++[x,y])[X.N.length]?=some x;simp) (.inl<|U C fp s₀ H₀)<|.inr<|U C fp s₀ H₀) (mL (l8 hN (by show(X.N++[x,y])[X.N.length+1]?=some y;simp) (.inl<|J C fp s₀ H₀)<|.inr<|J C fp s₀ H₀) yk<|g _)<|h3 _) (h1 _)<|h2 _,Qd _,Qe _ _⟩
def dD(T:Wj)(S:jd X scope)(hc:X.calm=true)(hi:QI X target iter wi)(I:Fl X scope T target g)
 (J:∀C fp s₀ H₀,QF (X.comp scope T C fp s₀ H₀) nC tA) (U:∀C fp s₀ H₀,QE (X.comp scope T C fp s₀ H₀) pj te)
 (hs:∀x,foldedSetIterable iter X.env x=pure x:=by intro _;rfl):QE X (.ListComp pj [⟨target,iter,nC,0⟩] scope pos) (i_ T.length wi g tA te):=by
 obtain⟨g2,h1,h2,h3⟩:=I.ex;exact E4 (Pd T S hc hi h1 h2 J U hs)<|IV h3
def cV(T:Wj){px o:Pos}(hN:X.N.Nodup)(I:X.N[i]?=some x)(hx:Loc X.env.scope x)(S:jd X scope)(hc:X.calm=true)(hi:QI X target iter wi)
 (hg:Fl X scope T target g) (hf:∀C fp s₀ H₀,QF (X.comp scope T C fp s₀ H₀) nC tA) (he:∀C fp s₀ H₀,QE (X.comp scope T C fp s₀ H₀) pj te)
 (J:swapsWith (.ListComp pj [⟨target,iter,nC,0⟩] scope o) (some<|.Name x px) pos.line X.env=pure true:=by rfl)
 (U:X.fn x=true\/X.env.scope.names.lookup x=some .local:=by first|exact .inl rfl|exact .inr rfl|assumption)
 (hs:∀x,foldedSetIterable iter X.env x=pure x:=by intro _;rfl):QS X (.Assign [.Name x px] (.ListComp pj [⟨target,iter,nC,0⟩] scope o) pos) (xz (i_ T.length wi g tA te)<|qo i):=by
 obtain⟨g2,h1,h2,h3⟩:=hg.ex;refine PS.imp (Pe (tc:=h_ X.g3 tA) (te:=rM X.g3 te) T hN I hx S hc hi h1 h2 hf he J U hs) λD σ H ⟨p,L,D3,r,rl,z,k⟩=>?_;refine IV h3 σ H _ ⟨p,L,_,r,rl,z,λv H1 y L1 t j l z1=>?_⟩;exact k.nx _ H1 _ L1 t (show xb _ _ _ (ak p i y) by rw[wc];exact(r.ts t).set l) j z1
def dn(G:G3)(sp:vh):Sp:=λvs H Q _=>∃ys L I,xm G H ys vs/\zr G H L/\sp ys L I/\sK G H I Q
abbrev G7(P:Wt)(w:Wu)(K:Af)(mg:Wc)(base:Wv)(k:Nat)(x:Str)(ps:Wj)(sp:vh):Prop:=Cal P w K mg base k x ps<|dn ⟨K,P,w⟩ sp
abbrev Fn3(P:Wt)(w:Wu)(K:Af)(mg:Wc)(base:Wv)(k:Nat)(f:Addr)(fd:FuncData)(ps:Wj)(sp:vh):Prop:=bQ P w K mg base CX0 k f fd ps<|dn ⟨K,P,w⟩ sp
def Qf{k:Nat}{sp:vh}(c:G7 X.prog X.w X.K X.mg X.base k x ps sp)(j:wz k X.A)(l:Gl X x)(o:QA X (e::es) tr)(I:Fe x:=by decide)
 (r:Fb e es X:=by rfl) (J:Fc pos es X:=by rfl):QE X (.Call (.Name x p) (e::es) [] pos) (jt sp tr):=
 EU (O9 c j l o I r J) λσ H Q t L C T rl z k=>
 ⟨t,L,_,T,rl,z,λvs H1 ys L1 t1 U g z1=>⟨ys,L1,C,by rw[AN];exact g,U,z1,k.ts t1⟩⟩
def a7(Q:YK):YK:=λy L=>∃L2,qh L2 L/\Q y L2
def fK(N:Wj)(ys:List Y):j9:=ys.map some++List.replicate (N.length-ys.length) none
def ip{N:Wj}{vs:Wx}(r:xm G H ys vs):xb G H (L2.start N vs) (fK N ys):=by unfold L2.start fK;rw[<-r.length];refine xb.more ⟨by simp[r.length],λi y e=>?_⟩ _;rw[Al] at e;obtain⟨g,I,J⟩:=Aq.mp e;cases J;obtain⟨x,ex,U⟩:=r.get I;exact⟨x,by rw[Al,ex];rfl,U⟩
def Qg{P:Wt}{w:Wu}{K:Af}{N:Wj}{k:Nat}{sp:vh}(F:Fun K x eK st f fd)(S:aA N ps<|qw st)(len:∀ys L Q,sp ys L Q->ys.length=ps.length)
 (I:∀(eW:Wr) (A:Around) (outer:List Env) (s:Ws) (H:Hp) (E:XK),wz k (A.deeper<|PyProof.Rows.envOfC eK (qw st) s.heap.objs.size f eW)->
  ∃t,ue (fJ CX0 P w K mg base N eK (qw st) f eW A outer s H E).nox (jv st) t/\∀ys L Q,sp ys L Q->t {nx:=λ_ L'=>a7 Q .non L',rt:=a7 Q} (fK N ys) L):Fn3 P w K mg base (k+1) f fd ps sp:=by
 refine F.ok S (λT H Q E ⟨ys,L,U,g,C,z,_⟩=>by rw[<-g.length];exact len ys L U z) λeW A outer s H T Q E hr ⟨ys,L,U,g,C,z,k⟩=>?_;obtain⟨t,ht,q⟩:=I eW A outer s H E hr;refine⟨_,ht,fK N ys,L,_,ip g,C,q ys L U z,?_⟩;refine⟨λσ j τ L' l a1 J ⟨L2,o,p⟩=>k .non j .non L2 l (J.sub o) (by rfl) p,λv j y L' l J r ⟨L2,o,p⟩=>k v j y L2 l (J.sub o) r p,λ_ _ _ _ _ _ _ z=>z.elim,λ_ _ _ _ _ _ _ z=>z.elim⟩
def f'(G:G3)(r:Y->List Y->qk->YK->Prop):V->Wx->Hp->VK->Prop:=λx xs H Q=>∃y ys L I,RV G H y x/\xm G H ys xs/\zr G H L/\r y ys L I/\sK G H I Q
def g9.imq{id:Ww}{r:V->Wx->Hp->VK->Prop}{u:Y->List Y->qk->YK->Prop}(h:g9 X id r)(q:∀x xs H Q y ys L I,RV G H y x->xm G H ys xs->zr G H L->u y ys L I->sK G H I Q->r x xs H Q):g9 X id (f' G u):=g9.imp h λx xs H Q ⟨y,ys,L,I,a,b,c,d,e⟩=>q x xs H Q y ys L I a b c d e
def Qh:g9 X "list.append" (f' X.g3 xl):=g9.imq OK λx p H Q y t L C U g J z k=>by
 unfold xl at z;split at z
 ·rename_i a v;obtain⟨T,e,z⟩:=jy z;obtain⟨j,I,r⟩:=J a _ e;obtain⟨l,rfl,o⟩:=g.inv1;exact⟨a,j,l,U,rfl,I,by rw[<-r.length];exact z.1,k _ _ _ _ (EZ I) (J.setL I<|r.app<|xm.one o) (by rfl) z.2⟩
 ·exact z.elim
def Qi:g9 X "list.extend" (f' X.g3 li):=g9.imq OM λx T H Q y ys L Q3 g j I z k=>by
 unfold li at z;split at z
 ·rename_i a b;obtain⟨zs,e,z⟩:=jy z;obtain⟨us,l,z⟩:=jy z;obtain⟨o,J,r⟩:=I a _ e;obtain⟨p,t,U⟩:=I b _ l;obtain⟨v',rfl,C⟩:=j.inv1;cases C;exact⟨a,b,o,p,g,rfl,J,t,by rw[<-r.length,<-U.length];exact z.1,k _ _ _ _ (EZ J) (I.setL J<|r.app U) (by rfl) z.2⟩
 ·exact z.elim
def Qj:g9 X "list.pop" (f' X.g3 F9):=g9.imq OO λx l H Q y T L Q3 o p U z k=>by
 unfold F9 at z;split at z
 ·rename_i a;obtain⟨g,e,z⟩:=jy z;obtain⟨t,I,r⟩:=U a _ e;cases (show l=[] from p);cases J:g[g.length-1]? with
  |none=>rw[J] at z;exact z.elim
  |some v=>
   rw[J] at z;obtain⟨u,j,C⟩:=r.get J;rw[r.length] at j;exact⟨a,t,u,o,rfl,I,j,k _ _ _ _ (EZ I) (U.setL I r.dropLast) (C.ts<|EZ I) z⟩
 ·exact z.elim
def y9{a:Addr}(I:zr G H L)(h:cO L (.ref a)=some ys):F7 G.K "list" (.ref a) H:=by obtain⟨J,sq,_⟩:=fN I h;exact .inl ⟨rfl,J,sq⟩
def iQ(r:Y->List Y->qk->YK->Prop)(to:xg)(t:eB)(τ:j9)(L:qk)(Q:YK):Prop:=to τ L λx L1=>match x with
 |.ref a=>iL L1 (.ref a) λ_=>t τ L1 λxs L2=>r (.ref a) xs L2 Q
 |_=>False
structure r_(X:Cx)(o e:Expr)(es:Wk)(name:Str)(apos fm:Pos):Prop where
 h4:attributeBase o name X.env (eval o X.env)=eval o X.env
 h5:((backTo fm<|starEach (e::es) X.env).all (λx=>!x.1)&&(backToKw fm<|keywordEach [] X.env).all (λx=>x.1.isSome)&&decide ((e::es).length+([]:List Keyword).length+(if ([]:List Keyword).isEmpty=true then 0 else 1)<30))=true
 h6:(apos.endLine==fm.line)=true
 h7:Fb e es X
 h8:Fc fm es X
def m7{id:Ww}{r:Y->List Y->qk->YK->Prop}(h2:Slot "list" name id)(h3:typeOf (.builtin id)=pure (.type "method_descriptor"))(hm:g9 X id<|f' X.g3 r)(ho:QE X o to)(ha:QA X (e::es) tr)
 (I:r_ X o e es name apos fm:=by exact⟨rfl,rfl,rfl,rfl,rfl⟩):
 QE X (.Call (.Attribute o name apos) (e::es) [] fm) (iQ r to tr):=EU (Ik Ep h2 h3 hm ho ha I.h4 I.h5 I.h6 I.h7 I.h8) λσ H Q p L Q3 t rl z k=>
 ⟨p,L,_,t,rl,z,λv H1 y L1 C J U g=>by
  split at g
  ·rename_i a;obtain⟨T,es,g⟩:=wm g;exact⟨by cases U;exact y9 J es,p,L1,_,t.ts C,J,g,λvs H2 T L2 t2 j l z2=>⟨.ref a,T,L2,Q3,U.ts t2,l,j,z2,k.ts<|C.trans t2⟩⟩
  ·exact g.elim⟩
def Qk{id:Ww}{r:Y->List Y->qk->YK->Prop}(h2:Slot "list" name id)(h3:typeOf (.builtin id)=pure (.type "method_descriptor"))(g:g9 X id<|f' X.g3 r)(j:QE X o to)
 (l:attributeBase o name X.env (eval o X.env)=eval o X.env:=by rfl) (p:(apos.endLine==fm.line)=true:=by rfl):
 QE X (.Call (.Attribute o name apos) [] [] fm) (iQ r to ji):=EU (OH Ep h2 h3 g j l p) λσ H Q t L C T rl z k=>
 ⟨t,L,_,T,rl,z,λv H1 y L1 t1 I J U=>by
  split at U
  ·rename_i a;obtain⟨ys,es,U⟩:=wm U;exact⟨by cases J;exact y9 I es,.ref a,[],L1,C,J,rfl,I,U,k.ts t1⟩
  ·exact U.elim⟩
def z9(I:QE X o to)(J:QA X (e::es) tr)(U:r_ X o e es "append" apos fm:=by exact⟨rfl,rfl,rfl,rfl,rfl⟩):
 QE X (.Call (.Attribute o "append" apos) (e::es) [] fm) (iQ xl to tr):=m7 PySem.F.slot_list_append PySem.F.type_list_append Qh I J U
def cT(I:QE X o to)(J:QA X (e::es) tr)(U:r_ X o e es "extend" apos fm:=by exact⟨rfl,rfl,rfl,rfl,rfl⟩):
 QE X (.Call (.Attribute o "extend" apos) (e::es) [] fm) (iQ li to tr):=m7 PySem.F.slot_list_extend PySem.F.type_list_extend Qi I J U
def IW(I:QE X o to)(J:attributeBase o "pop" X.env (eval o X.env)=eval o X.env:=by rfl)(U:(apos.endLine==fm.line)=true:=by rfl):
 QE X (.Call (.Attribute o "pop" apos) [] [] fm) (iQ F9 to ji):=Qk PySem.F.slot_list_pop PySem.F.type_list_pop Qj I J U
end
abbrev lF:oQ:=l_ λi j=>.int<|i-j
abbrev Ql:oQ:=yI acv λi j=>.int<|i*j
abbrev xW:oQ:=yI F4 λi j=>.int<|i / j
abbrev eF:oQ:=yI (λ_ j=>0<j) λi j=>.int<|i % j
abbrev IX:oQ:=yI GI λi j=>.int<|i ^ j.toNat
abbrev Fm:oQ:=l_ λi j=>.bl<|decide<|i<j
abbrev yLe:oQ:=l_ λi j=>.bl<|decide<|i<=j
abbrev IY:oQ:=l_ λi j=>.bl<|decide<|j<i
structure G8(G:G3)(mg:Wc)(x:Str)(y:Y):Prop where
 ex:∃c,mg x=some (.ref c)/\∀H,RV G H y<|.ref c
def IZ(t:G8 X.g3 X.mg x y)(I:Gl X x)(hd:Fe x:=by decide):QE X (.Name x pos) (yC y):=by obtain⟨c,J,q⟩:=t.ex;exact P0 I J q hd
def I0(kvs:List<|Str×Str):LO:=.dct<|kvs.map λp=>(Sum.inr p.1,Y.str p.2)
def Qm(kvs:List<|Str×Str)(_:j9)(L:qk)(Q:YK):Prop:=∀p,L p=none->Q (.ref p) (qi L p<|I0 kvs)
def w_(kvs:List<|Str×Str):List (jh×V):=kvs.map λp=>(Sum.inr p.1,V.str p.2)
theorem uj{σ:L2.St}{H:Hp}{Q:List (V×V)->Hp->Prop}:∀{kvs:List<|Str×Str},Q (kvs.map λp=>(V.str p.1,V.str p.2)) H->qX (kvs.map λp=>(tC<|.str p.1,tC<|.str p.2)) σ H Q
 |[],h=>h
 |_::r,h=>uj (kvs:=r) h
theorem y7{G:G3}{H:Hp}:∀kvs:List (Str×Str),Paired (λ(p:jh×Y) (q:jh×V)=>p.1=q.1/\RV G H p.2 q.2) (kvs.map λp=>(Sum.inr p.1,Y.str p.2))<|w_ kvs
 |[]=>.nil
 |_::r=>.cons ⟨rfl,rfl⟩<|y7 r
def Qn{keys:List<|Option Expr}{values:Wk}(kvs:List<|Str×Str)(h:Fz X pos keys values<|kvs.map λp=>(tC<|.str p.1,tC<|.str p.2))(h1:(keys.all λx=>x.isSome)=true)(h2:keys.length=values.length)(h3:keys≠[])(U:keys.length<=15)
 (g:kvs.length<=15:=by decide) (nd:jA [] (w_ kvs)=w_ kvs:=by decide +kernel):QE X (.Dict keys values pos) (Qm kvs):=EU (Oh h h1 h2 h3 U) λj H Q l L o r J z k=>by
 intro p I;refine uj ⟨zu,w_ kvs,by simp[w_,kV],by simpa[w_] using g,?_⟩;rw[nd,Mv];refine k _ _ _ (qi L p<|I0 kvs) (ET I) ?_ (by rfl)<|z p<|J.none I;intro a u e;by_cases c:a=p
 ·subst c;rw[q9] at e;cases e;exact⟨w_ kvs,zu,y7 kvs⟩
 ·rw[qc c] at e;exact(J a u e).keep (ET I) (qp c)
def gr{Q:α->qk->Prop}{o:Option α}(h:xA L Q o):∃v,o=some v/\Q v L:=by cases o with|none=>exact h.elim|some v=>exact⟨v,rfl,h⟩
def jS{kvs:List<|Str×Str}{k:Str}(h:kvs.lookup k=some x):a6 (kvs.map λp=>((Sum.inr p.1:jh),Y.str p.2)) (Sum.inr k)=some (Y.str x):=by
 induction kvs with
 |nil=>simp at h
 |cons p r I=>
  obtain⟨a,b⟩:=p;unfold a6;rw[AA,BP];rw[BC] at h;by_cases c:k=a
  ·subst c;simp at h;simp[h]
  ·have J:(k==a)=false:=by simpa using c
   rw[J] at h;have U:decide ((Sum.inr a:jh)=Sum.inr k)=false:=Au λz=>c (Sum.inr.inj z).symm;simp only[U];exact I h
def yb(h:(ww lo n)[i]?=some y):i<n/\y=.int (lo+i):=by
 unfold ww at h;rw[Al] at h;obtain⟨z,I,e⟩:=Aq.mp h;have J:i<n:=by
  by_cases c:i<n
  ·exact c
  ·rw[CP (by simp;exact FE)] at I;cases I
 rw[List.getElem?_range J] at I;cases I;exact⟨J,e.symm⟩
def nS(lo:Int)(n:Nat):(ww lo n).length=n:=by simp[ww]
def rN{tb:bB}(W:Nat->j9->qk->Prop)(h0:W 0 τ L)
 (hs:∀i τ L,i<n->W i τ L->g (.int<|lo+i) τ L λI L2=>tb {D with nx:=i0<|W<|i+1,ct:=i0<|W<|i+1,bk:=D.nx} I L2) (hd:∀τ L,W n τ L->D.nx τ L):qS (ww lo n) (λ_=>True) g tb D τ L:=by
 refine aV ⟨W,h0,λ_ _ _ _=>trivial,λi y τ L e w=>?_,λτ L w=>hd τ L (by rw[nS] at w;exact w)⟩;obtain⟨J,rfl⟩:=yb e;exact hs i τ L J w
def I9{a:Addr}{v:Y}{Q:YK}(e:L a=some (.lst<|ys++[v]))(q:Q v<|qi L a<|.lst ys):iL L (.ref a) (λ_=>ji τ L λxs L2=>F9 (.ref a) xs L2 Q):=by
 refine qa e<|qj e ?_;have:(ys++[v])[(ys++[v]).length-1]?=some v:=by simp
 rw[this,List.dropLast_concat];exact q
def yY{tb:bB}{a:Addr}(h:cO L (.ref a)=some ys)(W:Nat->j9->qk->Prop)(h0:W 0 τ L)(J:∀i τ L',W i τ L'->L' a=L a)
 (hs:∀i y τ L,ys[i]?=some y->W i τ L->g y τ L λI L2=>tb {D with nx:=i0<|W<|i+1,ct:=i0<|W<|i+1,bk:=D.nx} I L2) (hd:∀τ L,W ys.length τ L->D.nx τ L):
 ut L a λys keep L1=>qS ys keep g tb D τ L1:=x4 (iw h) λkeep U=>aV ⟨W,h0,λi τ L' w=>U L'<|J i τ L' w,hs,hd⟩
def aj{keep:qk->Prop}{Q:YK}(I:Nat->List Y->Prop)(hz:ys.length<sizeLine)(j:keep L)(h0:I 0 [])
 (turn:∀(i:Nat) y zs,ys[i]?=some y->I i zs->g y (τ++List.replicate n none) L λJ L2=>tc J L2 λb L3=>wf b (te J L3 λz l=>i0 (λzs L'=>L'=L/\I (i+1) zs) (zs++[z]) l)<|i0 (λzs L'=>L'=L/\I (i+1) zs) zs L3)
 (o:∀zs,I ys.length zs->∀p,L p=none->Q (.ref p) (qi L p<|.lst zs)):xS ys keep n g tc te τ L Q:=by
 refine IK ⟨hz,λi zs L'=>L'=L/\I i zs,⟨rfl,h0⟩,?_,?_,?_⟩
 ·rintro i zs L' ⟨rfl,_⟩;exact j
 ·rintro i y zs L' r ⟨rfl,U⟩;exact turn i y zs r U
 ·rintro zs L' ⟨rfl,U⟩ p t;exact o zs U p t
def wT{m:Nat}{Q:YK}(I:Nat->List Y->Prop)(hz:m<sizeLine)(h0:I 0 [])
 (turn:∀(i:Nat) zs,i<m->I i zs->g (.int<|lo+i) (τ++List.replicate n none) L λJ L2=>tc J L2 λb L3=>wf b (te J L3 λz j=>i0 (λzs L'=>L'=L/\I (i+1) zs) (zs++[z]) j)<|i0 (λzs L'=>L'=L/\I (i+1) zs) zs L3)
 (l:∀zs,I m zs->∀p,L p=none->Q (.ref p) (qi L p<|.lst zs)):xS (ww lo m) (λ_=>True) n g tc te τ L Q:=by
 refine aj (keep:=λ_=>True) I (by rw[nS];exact hz) trivial h0 (λi y zs e U=>?_) λzs U=>l zs (by rw[nS] at U;exact U);obtain⟨o,rfl⟩:=yb e;exact turn i zs o U
def jp{I:List α}{f:α->Y}{w:α}(h:I[i]?=some w):eI (I.map f) (i:Int)=some (f w):=x5 (by rw[Al,h];rfl)
def Qo{keep:qk->Prop}{Q:YK}(f:Y->Option Y)(hz:ys.length<sizeLine)(j:keep L)
 (turn:∀(i:Nat) y (W:List Y->qk->Prop) zs,ys[i]?=some y->W (zs++(f y).toList) L->g y (τ++List.replicate n none) L λI L2=>tc I L2 λb L3=>wf b (te I L3 λz l=>i0 W (zs++[z]) l)<|i0 W zs L3)
 (o:∀p,L p=none->Q (.ref p) (qi L p<|.lst<|ys.filterMap f)):xS ys keep n g tc te τ L Q:=by
 refine IK ⟨hz,λi zs J=>J=L/\zs=(ys.take i).filterMap f,⟨rfl,by simp⟩,?_,?_,?_⟩
 ·rintro i zs J ⟨rfl,_⟩;exact j
 ·rintro i y zs J U ⟨rfl,rfl⟩;refine turn i y _ _ U ⟨rfl,?_⟩;rw[Bm,U,List.filterMap_append];congr 1
 ·rintro zs J ⟨rfl,rfl⟩ p r;rw[Bj];exact o p r
def xi(t:bB)(n:Nat)(ys:List Y)(L:qk)(Q:YK):Prop:=t {nx:=λ_ L'=>a7 Q .non L',rt:=a7 Q} (ys.map some++List.replicate (n-ys.length) none) L
def xt{Q:YK}(h:Q y L):a7 Q y L:=⟨L,ER L,h⟩
def eY{Q:YK}(s:qh L L')(h:Q y L):a7 Q y L':=⟨L,s,h⟩
theorem Fn3.never{P:Wt}{w:Wu}{K:Af}{k:Nat}{sp:vh}(no:∀ys L Q,¬sp ys L Q):Fn3 P w K mg base k f fd ps sp:=
 bQ.never λJ H Q E ⟨ys,L,I,_,_,z,_⟩=>no ys L I z
def qh.upd{a:Addr}{o:LO}(s:qh L L')(h:L a=none):qh L (qi L' a o):=λb u e=>by rw[qc<|kw e h];exact s b u e
def qh.put{a:Addr}{o:LO}(s:qh L L')(h:L' a=some o):qh (qi L a o) L':=λb u e=>by
 by_cases c:b=a
 ·subst c;rw[q9] at e;cases e;exact h
 ·rw[qc c] at e;exact s b u e
theorem uv{G:G3}{H:Hp}:∀ns:Wm,xm G H (ns.map Y.int)<|ns.map V.int
 |[]=>rfl
 |_::r=>⟨_,_,rfl,rfl,uv r⟩
end L3
namespace L2
open PySem PySem.Spec PyProof.Rows
section
variable {σ:L2.St}
def mP(I:qt X pins σ H s)(U:∀b∈fp,H b=none)(k:∀b o,b∉fp->s.heap.get? b=some o->h'.get? b=some o):eE X.prog X.w H h':=λb u e=>by
 refine(I.hok b u e).stay (λc v g q=>k c v (λz=>?_) q) (λ_ q=>q) λ_ _ q=>q;have J:=U c z;rcases g with w|w
 ·rw[w,e] at J;cases J
 ·rw[w] at J;cases J
def Qp{fs:List Addr}(k:∀b o,b∉fp->h.get? b=some o->h'.get? b=some o):Un fs fp H H h h':=
 ⟨λb o q _ _ x=>k b o x q,λb o q _ _ x=>⟨o.slots,k b o x q⟩,λ_ _ _ n _=>n,λb o q x=>⟨o,k b o x q⟩,λ_ _ q=>q,λ_ _ _ q=>q,λb I q=>⟨#[],by rw[q];simp⟩⟩
def qt.turnedL(I:qt X pins σ H s)(k:∀b o,b∉fp->s.heap.get? b=some o->h'.get? b=some o)(U:∀b∈fp,oY X pins H b)(g:0<t':=by walk_at "t"):qt X pins σ H {s with heap:=h',toks:=t'}:=
 I.call' (s':={s with heap:=h',toks:=t'}) (ch:=fp) rfl (Qp k) (mP I (λb J=>(U b J).1) k) I.bare λb J=>⟨(U b J).2.2.2.1,(U b J).2.1,(U b J).2.2.2.2.1,(U b J).2.2.2.2.2⟩
def qt.turnedN{a:Addr}{o:HO}(I:qt X pins σ H s)(k:∀b o,b∉fp->s.heap.get? b=some o->h'.get? b=some o)(U:∀b∈fp,oY X pins H b)(j:s.heap.objs.size<=a)
 (new:x9 X.prog X.w (upd H a o) h' a o) (p:0<t':=by walk_at "t"):qt X pins σ (upd H a o) {s with heap:=h',toks:=t'}:=by
 have g:H a=none:=I.hok.fresh j;have lt:∀b ob,s.heap.get? b=some ob->b≠a:=λb ob q=>A3<|AK (xT q) j;refine I.call' (s':={s with heap:=h',toks:=t'}) (ch:=fp) rfl ?_ ?_ I.bare λb J=>⟨(U b J).2.2.2.1,(U b J).2.1,(U b J).2.2.2.2.1,(U b J).2.2.2.2.2⟩
 ·exact⟨λb ob q _ _ x=>k b ob x q,λb ob q _ _ x=>⟨ob.slots,k b ob x q⟩,λb ob q n _=>by rw[qp<|lt b ob q];exact n,λb ob q x=>⟨ob,k b ob x q⟩,
   λb l q=>by rw[qp<|zx q g];exact q,λb ob u q=>by rw[qp<|zx q g];exact q,λb r q=>⟨#[],by rw[qp<|zx q g,q];simp⟩⟩
 ·intro b u e;by_cases J:b=a
  ·subst J;rw[zu] at e;cases e;exact new
  ·rw[qp J] at e;have ok:=mP I (h':=h') (λb J=>(U b J).1) k b u e;exact ok.stay (λ_ _ _ q=>q) (λc q=>by rw[qp<|zx q g];exact q) λc l q=>by rw[qp<|zx q g];exact q
end
def G9(K:Af)(a:Addr):It:=
 ⟨λi H=>∃xs x,aF K H a xs/\xs[i]?=some x,λi H v H'=>∃p x,H p=none/\v=.ref p/\H'=upd H p (.tup [.int i,x])/\∀xs,aF K H a xs->xs[i]?=some x,λi H=>∃xs,aF K H a xs/\xs.length<=i⟩
def Qq{P:Wt}{w:Wu}{K:Af}(a e it:Addr)(l:e≠it):z_ P w K (.Tuple mv x1 tp) (G9 K a) [e,it] e (λi h=>(∃old,IsEnum h e it i old)/\h.IsListIter it a i) where
 mem:=by simp
 obj:=λi h ⟨⟨old,J⟩,U⟩ b g=>by
  rcases As.mp g with rfl|g
  ·exact⟨_,J,λv z=>by cases z⟩
  ·cases Ao.mp g;obtain⟨o,T,hc,hd⟩:=U;exact⟨o,T,λv z=>by rw[hd] at z;cases z⟩
 keep:=λi h h' ⟨⟨old,J⟩,U⟩ k=>⟨⟨old,k e (by simp) _ J⟩,U.at λo q=>k it (by simp) o q⟩
 item:=by
  intro X hP hw hK hc i r s σ H E I t ⟨⟨old,J⟩,U⟩ hg;subst hP hw hK;obtain⟨xs,x,C,hx⟩:=hg;obtain⟨a1,rv,p,hz⟩:=I.list C;obtain⟨u,hu,ru⟩:=rv.get hx;refine wpAny_pyNext_enum_item J U p.isList (x:=u) (by simpa using hu) l λh1 a2 a3 ht ac hk=>⟨.ref s.heap.objs.size,rfl,wpAny_letOwnedTupleGo_enum a2 λh2 a4 j=>?_⟩;have el:e<s.heap.objs.size:=xT J;have il:it<s.heap.objs.size:=by obtain⟨o,T,_⟩:=U;exact xT T
  have kk:∀b o,b∉[e,it]->s.heap.get? b=some o->h2.get? b=some o:=λb o nb q=>by have n1:b≠e:=λz=>nb (by simp[z]);have n2:b≠it:=λz=>nb (by simp[z]);exact j.extBut b o n1<|hk b o n1 n2 q
  have tg:h2.get? s.heap.objs.size=some {cls:=.type "tuple",data:=.seq #[.int i s.toks,u]}:=j.extBut _ _ (C0 el) ht;refine⟨.ref s.heap.objs.size,upd H s.heap.objs.size<|.tup [.int i,x],?_,rfl,⟨_,x,I.hok.fresh<|An _,rfl,rfl,λys hy=>by rw[I.list_inj hy C];exact hx⟩,⟨⟨_,a4⟩,a3.at λo q=>j.extBut _ _ (AH l) q⟩,λb g=>?_⟩
  ·exact I.turnedN (t':=s.toks+1) kk t (An _) ⟨by show 2<=sizeLine;decide,[.int i s.toks,u],.cons ⟨_,rfl⟩<|.cons ru .nil,⟨_,tg,rfl,_,rfl⟩⟩
  ·have a5:b<s.heap.objs.size:=by rcases As.mp g with rfl|g;exact el;cases Ao.mp g;exact il
   rw[qp<|A3 a5];exact(t b g).1
 done:=by intro X hP hw hK hc i r s σ H E I t ⟨⟨old,J⟩,U⟩ hg;subst hP hw hK;obtain⟨xs,C,hx⟩:=hg;obtain⟨a1,rv,p,hz⟩:=I.list C;have hl:=rv.length;exact wpAny_pyNext_enum_end (I.ok.hd hc) J U p.isList (by simp;omega) λh1 eb=>⟨rfl,I.turnedL (t':=s.toks) (fp:=[e,it]) (λb o nb q=>eb b o (λz=>nb (by simp[z])) q) t⟩
 self:=λ_ _ _ _ _ ⟨⟨_,J⟩,_⟩ h=>wpAny_pyIter_enum J h
def Qr(K:Af)(ta:TA):TI:=λσ H R=>ta σ H λvs H1=>∃a,vs=[.ref a]/\(∃xs,aF K H1 a xs)/\R (G9 K a) H1
def rL:bootBuiltins "enumerate"=some (.type "enumerate"):=by decide +kernel
def Qs{a:Expr}{ta:TA}(T:Gl X "enumerate")(hm:X.mg "enumerate"=none)(ha:PA X [a] ta)(hs:starEach [a] X.env=[(false,eval a X.env)]:=by rfl):
 PI X (.Tuple mv x1 tp) (.Call (.Name "enumerate" p) [a] [] pos) (Qr X.K ta):=by
 intro J s r H R I h;refine Call_<|cM I T hm rL<|BU (wr (ha pos J s r H _ I h) λus U ⟨vs,t,j,r1,q1⟩=>?_) hs rfl;obtain⟨l,e,⟨xs,hq⟩,q⟩:=q1;subst e;obtain⟨u,rfl,ru⟩:=qD r1;cases ru;obtain⟨a1,rv,pl,hz⟩:=j.list hq;refine call_enumerate_list pl.isList λh1 C hi a2 hk=>?_;have I2:qt X J r t {U with heap:=h1}:=j.kept (t':=U.toks) hk;refine wpAny_pyIter_enum (s:={U with heap:=h1}) C ?_;refine⟨U.heap.objs.size+1,[U.heap.objs.size+1,U.heap.objs.size],_,_,t,rfl,I2,Qq l _ _<|Nat.succ_ne_self _,⟨⟨_,C⟩,hi⟩,λb o=>?_,q⟩;have g:U.heap.objs.size<=b:=by rcases As.mp o with rfl|o;exact CU _;cases Ao.mp o;exact An _
 exact j.fpOk g<|j.hok.fresh g
end L2
namespace L3
open PySem L2
theorem kO{a:Addr}{keep:qk->Prop}(h:∀H L,zy H₀ H->zr G H L->keep L->∃xs,aF G.K H a xs/\xm G H ys xs):gF G H₀ (G9 G.K a) (ys.zipIdx.map λp=>Y.tup [.int (p.2:Nat),p.1]) keep where
 go:=λi H L t I J o=>by
  obtain⟨xs,sq,r⟩:=h H L t I J;have:i<xs.length:=by rw[<-r.length];simpa using o
  exact⟨xs,xs[i],sq,Ag this⟩
 yld:=λi H L x H' y t I J l ⟨p,z,U,C,T,f⟩=>by subst C T;obtain⟨xs,sq,r⟩:=h H L t I J;rw[Al,List.getElem?_zipIdx] at l;obtain⟨⟨y',j⟩,ey,e3⟩:=Aq.mp l;obtain⟨a1,g,e4⟩:=Aq.mp ey;cases e4;subst e3;obtain⟨x',e',rv⟩:=r.get g;have:=f xs sq;rw[e'] at this;cases this;refine⟨ET U,I.skip U,p,_,rfl,dz.of zu,⟨_,_,rfl,?_,_,_,rfl,rv.ts<|ET U,rfl⟩⟩;show V.int _=V.int _;congr 1;simp
 stop:=λH L t I J=>by obtain⟨xs,sq,r⟩:=h H L t I J;exact⟨xs,sq,by rw[Ae,List.length_zipIdx,r.length];exact An _⟩
def mI(ys:List Y):List Y:=ys.zipIdx.map λp=>Y.tup [.int (p.2:Nat),p.1]
def gc(h:(mI ys)[i]?=some y):∃z,ys[i]?=some z/\y=.tup [.int i,z]:=by unfold mI at h;rw[Al,List.getElem?_zipIdx] at h;obtain⟨⟨J,j⟩,U,g⟩:=Aq.mp h;obtain⟨l,I,o⟩:=Aq.mp U;cases o;exact⟨J,I,by rw[<-g];simp⟩
def fY(ys:List Y):(mI ys).length=ys.length:=by simp[mI]
def vG(tl:xg)(τ:j9)(L:qk)(R:List Y->(qk->Prop)->qk->Prop):Prop:=tl τ L λx L1=>match x with
 |.ref a=>ut L1 a λys keep L=>R (mI ys) keep L
 |.sq ys=>R (mI ys) (λ_=>True) L1
 |_=>False
def lw{a:Expr}(hg:Gl X "enumerate")(hm:X.mg "enumerate"=none)(ha:QE X a te)(hs:starEach [a] X.env=[(false,eval a X.env)]:=by rfl)
 (j:starEach [a] X.env=(false,eval a X.env)::starEach [] X.env:=by rfl):QI X (.Tuple mv x1 tp) (.Call (.Name "enumerate" p) [a] [] pos) (vG te):=PI.imq (Qs hg hm (vm ha bx j) hs) λσ H R τ L R3 rs l z k=>by
 refine⟨τ,L,_,rs,l,z,λv g y o T I U C=>?_⟩;cases y with
 |ref a=>
  obtain⟨ys,keep,es,kp,hk,z2⟩:=tZ C;have hy:∀H L,zy g H->zr X.g3 H L->keep L->∃J,aF X.K H a J/\xm X.g3 H ys J:=λH L _ l e=>fN l<|hk L e;obtain⟨J,sq,_⟩:=hy g o (ES _) I kp;cases U;exact⟨a,rfl,⟨J,sq⟩,k _ g _ _ o T I (kO hy) z2⟩
 |sq ys=>
  obtain⟨a,J,e,sf,r⟩:=U;subst e;exact⟨a,rfl,⟨J,sf.sq⟩,k _ g _ (λ_=>True) o T I (kO λH L t _ _=>⟨J,(sf.ts t).sq,r.ts t⟩) C⟩
 |_=>exact C.elim
end L3
namespace L2
open PySem PySem.Spec PyProof.Rows
def i3(t:Bool)(h:Wv)(it l:Addr)(k:Nat):Prop:=match t with
 |false=>h.IsListIter it l k
 |true=>h.IsTupleIter it l k
def pM(t:Bool)(h:Wv)(l:Addr)(xs:Wh):Prop:=match t with
 |false=>h.IsList l xs
 |true=>h.IsTuple l xs
def i3.on{l:Addr}{k:Nat}(x:i3 t h it l k)(e:∀o,h.get? it=some o->h'.get? it=some o):i3 t h' it l k:=by cases t with|false=>exact Heap.IsListIter.at x e|true=>exact Heap.IsTupleIter.at x e
def pM.on{l:Addr}{xs:Wh}(x:pM t h l xs)(e:∀o,h.get? l=some o->h'.get? l=some o):pM t h' l xs:=by cases t with|false=>exact Heap.IsList.at x e|true=>exact Heap.IsTuple.at x e
def i3.ob{l:Addr}{k:Nat}(x:i3 t h it l k):∃o,h.get? it=some o/\∀v,o.data≠.cell v:=by
 cases t with
 |false=>obtain⟨o,e,c,d⟩:=x;exact⟨o,e,λv z=>by rw[d] at z;cases z⟩
 |true=>obtain⟨o,e,c,d⟩:=x;exact⟨o,e,λv z=>by rw[d] at z;cases z⟩
def ye(l:Addr):¬((Value.ref l==Value.none)=true):=AG
section
variable {w:Wu}
def wC{l:Addr}{xs:Wh}{x:Wr}(hi:s.heap.IsTupleIter it l i)(U:s.heap.IsTuple l xs)(g:xs[i]?=some x)
 (q:∀h',h'.IsTupleIter it l (i+1)->Heap.SameBut it s.heap h'->Q x {s with heap:=h'}):wpAny (model prog w) A (Builtin.SmallTypes.nextOf<|.ref it) Q E s:=by
 obtain⟨o,J,ci,I⟩:=id hi;obtain⟨u,ul,_,n,dl⟩:=U;unfold Builtin.SmallTypes.nextOf;refine Aa<|wpAny_callSpecial?_slot (name:="__next__") hi.typeIs DT<|wpAny_call_entry DT hi.typeIs F.entry_tuple_iterator_next ?_<|F.args_tuple_iterator_next_1 _;refine Aa (m:=field (.ref it) 0)<|Ba J I (x:=.ref l) rfl ?_;rw[AB<|ye l];refine Aa (m:=field (.ref it) 1)<|Ba J I (x:=.int i 0) rfl<|Aa (m:=seqItems?<|.ref l)<|BG ul dl ?_;simp only[Cw,g];refine Aa<|wpAny_setField J I (by simp)<|Aj ⟨x,rfl,Aj<|q _ ⟨_,Fh _ J<|Obj.isFreed_of_fields<|Obj.data_mapFields I _,(Obj.cls_mapFields ..).trans ci,?_⟩<|At ..⟩;rw[Obj.data_mapFields I];simp[rawInt]
def Qt{l:Addr}{xs:Wh}(U:A.handled=none)(hi:s.heap.IsTupleIter it l i)(g:s.heap.IsTuple l xs)(j:xs[i]?=none)
 (q:∀h' e,Heap.ExtBut it s.heap h'->(∃o,h'.get? e=some o/\o.cls=.type "StopIteration")->E (.ref e) {s with heap:=h'}):wpAny (model prog w) A (Builtin.SmallTypes.nextOf<|.ref it) Q E s:=by
 obtain⟨o,I,ci,J⟩:=id hi;obtain⟨u,ul,_,n,dl⟩:=g;unfold Builtin.SmallTypes.nextOf;refine Aa<|wpAny_callSpecial?_slot (name:="__next__") hi.typeIs DT<|wpAny_call_entry DT hi.typeIs F.entry_tuple_iterator_next ?_<|F.args_tuple_iterator_next_1 _;refine Aa (m:=field (.ref it) 0)<|Ba I J (x:=.ref l) rfl ?_;rw[AB<|ye l];refine Aa (m:=field (.ref it) 1)<|Ba I J (x:=.int i 0) rfl<|Aa (m:=seqItems?<|.ref l)<|BG ul dl ?_;simp only[Cw,j];refine Aa<|Bw<|Aa<|wpAny_setField I J (by simp) ?_;refine Aa (m:=newExc (.type "StopIteration") []) ?_;simp only[newExc,newTuple];refine Aa (Bo (Aa (m:=firstArgMember _ _) (wpAny_of_eq (a:=Value.none) (by first|rfl|(simp only[firstArgMember];rfl))<|Bo ?_ (by size_fits))) (by size_fits));simp only[raiseNew];refine Aa<|wpAny_handled ?_
 first|rw[show A.in1.handled=none from U]|rw[U]
 exact Aa<|Aj<|wpAny_throw<|q _ _ (((At ..).extBut.push _).push _) ⟨_,ya _ rfl,rfl⟩
def i3.next{l:Addr}{xs:Wh}{x:Wr}(hi:i3 t s.heap it l i)(I:pM t s.heap l xs)(J:xs[i]?=some x)
 (q:∀h',i3 t h' it l (i+1)->Heap.SameBut it s.heap h'->Q x {s with heap:=h'}):wpAny (model prog w) A (Builtin.SmallTypes.nextOf<|.ref it) Q E s:=by
 cases t with|false=>exact wpAny_nextOf_list_item hi I J q|true=>exact wC hi I J q
def i3.stop{l:Addr}{xs:Wh}(I:A.handled=none)(hi:i3 t s.heap it l i)(J:pM t s.heap l xs)(U:xs[i]?=none)
 (q:∀h' e,Heap.ExtBut it s.heap h'->(∃o,h'.get? e=some o/\o.cls=.type "StopIteration")->E (.ref e) {s with heap:=h'}):wpAny (model prog w) A (Builtin.SmallTypes.nextOf<|.ref it) Q E s:=by
 cases t with|false=>exact wpAny_nextOf_list_end I hi J U q|true=>exact Qt I hi J U q
structure G'(z TI TO i1 i2 l1 l2:Addr):Prop where
 n1:TI≠z
 n2:TO≠z
 n3:i1≠z
 n4:i2≠z
 n5:TO≠i1
 n6:TO≠i2
 n7:i1≠i2
 n8:l1≠z
 n9:l1≠TO
 n10:l1≠i1
 n11:l1≠i2
 n12:l2≠z
 n13:l2≠TO
 n14:l2≠i1
 n15:l2≠i2
def Qu{z TI TO J U:Addr}{k:Nat}{xs ys:Wh}{x y a b:Wr}(D:G' z TI TO J U l1 l2)(hz:IsZip s.heap z TI TO .none)(hI:IsPair s.heap TI (.ref J)<|.ref U)(hO:IsPair s.heap TO a b)
 (h1:i3 t1 s.heap J l1 k) (h2:i3 t2 s.heap U l2 k) (q1:pM t1 s.heap l1 xs) (q2:pM t2 s.heap l2 ys) (hx:xs[k]?=some x) (hy:ys[k]?=some y)
 (q:∀h',IsZip h' z TI TO (rawInt s.heap.objs.size)->IsPair h' TO x y->i3 t1 h' J l1 (k+1)->i3 t2 h' U l2 (k+1)->IsPair h' s.heap.objs.size x y->
  (∀c o,c≠z->c≠TO->c≠J->c≠U->s.heap.get? c=some o->h'.get? c=some o)->Q (.ref s.heap.objs.size) {s with heap:=h'}):
 wpAny (model prog w) A (Builtin.«zip.__next__» ⟨[.ref z],[]⟩) (λxt s'=>∃v,xt=.done (.ret v)/\Q v s') E s:=by
 refine Aa (m:=field (.ref z) 2)<|Ba hz rfl (x:=.bool false) rfl<|Aa (m:=field (.ref z) 3)<|Ba hz rfl (x:=.ref TI) rfl<|Aa<|BG hI rfl ?_;refine Aa (m:=Builtin.SmallTypes.ownedTupleIsFree<|.ref z) ?_;unfold Builtin.SmallTypes.ownedTupleIsFree;refine Aa<|Ba hz rfl (x:=.none) rfl<|Aj ?_;simp only[if_true];refine Aa<|Bw<|Aa<|Ba hz rfl (x:=.ref TO) rfl<|Aa<|wpAny_setField_rec hz (by simp) λg1 z1 g=>?_;have ac:IsZip g1 z TI TO .ellipsis:=z1;refine Aa ?_;simp only[Er,List.zipIdx_nil,C9,EK];refine Aa<|Aa<|wpAny_onRaise<|Aa (m:=Builtin.SmallTypes.nextOf<|.ref J)<|(h1.on λo e=>g.extBut _ _ D.n3 e).next (q1.on λo e=>g.extBut _ _ D.n8 e) hx λg2 al p=>Aj ?_;have O2:IsPair g2 TO a b:=p.extBut _ _ D.n5<|g.extBut _ _ D.n2 hO;refine Aa<|BG O2 rfl<|Aa<|wpAny_updateSeq_pair O2 λg3 O3 r=>Aa<|wpAny_letGo<|Aj ?_;have ax:IsPair g3 TO x b:=O3;refine Aa (Aa (wpAny_onRaise (Aa (m:=Builtin.SmallTypes.nextOf<|.ref U) (i3.next (l:=l2) (i:=k) (xs:=ys) (x:=y) (t:=t2) (h2.on λo e=>r.extBut _ _ (AH D.n6)<|p.extBut _ _ (AH D.n7)<|g.extBut _ _ D.n4 e)
  (q2.on λo e=>r.extBut _ _ D.n13<|p.extBut _ _ D.n14<|g.extBut _ _ D.n12 e) hy λg4 ay C=>Aj ?_))))
 have O4:IsPair g4 TO x b:=C.extBut _ _ D.n6 ax;refine Aa<|BG O4 rfl<|Aa<|wpAny_updateSeq_pair O4 λI O5 T=>Aa<|wpAny_letGo<|Aj<|Aj ?_;have a5:IsPair I TO x y:=O5;refine Aa<|BG a5 rfl<|Aa<|wpAny_newTuple ?_;have sz:I.objs.size=s.heap.objs.size:=by rw[T.1,C.1,r.1,p.1,g.1]
 have z5:IsZip I z TI TO .ellipsis:=T.extBut _ _ (AH D.n2)<|C.extBut _ _ (AH D.n4)<|r.extBut _ _ (AH D.n2)<|p.extBut _ _ (AH D.n3) ac;have k5:∀c o,c≠z->c≠TO->c≠J->c≠U->s.heap.get? c=some o->I.get? c=some o:=λc o j a2 a3 a4 e=>T.extBut _ _ a2<|C.extBut _ _ a4<|r.extBut _ _ a2<|p.extBut _ _ a3<|g.extBut _ _ j e;have zl:z<I.objs.size:=xT z5;refine Aa (m:=Builtin.SmallTypes.ownedTupleHandOut (.ref z)<|.ref I.objs.size) ?_;unfold Builtin.SmallTypes.ownedTupleHandOut;refine Aa<|wpAny_setField_rec (show IsZip (I.push {cls:=.type "tuple",data:=.seq #[x,y]}) z TI TO .ellipsis from wh _ z5) (by simp) λg7 z7 e7=>?_;have aL:IsZip g7 z TI TO (rawInt I.objs.size):=z7;refine wpAny_setField_rec aL (by simp) λg8 z8 e8=>Aj ⟨_,rfl,?_⟩;have ba:IsZip g8 z TI TO (rawInt I.objs.size):=z8;have up:∀c o,c≠z->I.get? c=some o->g8.get? c=some o:=λc o j e=>e8.extBut _ _ j<|e7.extBut _ _ j<|wh _ e;have T8:IsPair g8 I.objs.size x y:=e8.extBut _ _ (C0 zl)<|e7.extBut _ _ (C0 zl)<|ya _ rfl;have xt:=q g8 (by rw[<-sz];exact ba) (up _ _ D.n2 a5) (al.on λo e=>up _ o D.n3<|T.extBut _ _ (AH D.n5)<|C.extBut _ _ D.n7<|r.extBut _ _ (AH D.n5) e) (ay.on λo e=>up _ o D.n4<|T.extBut _ _ (AH D.n6) e)
  (by rw[<-sz];exact T8) λc o j a2 a3 a4 e=>up c o j<|k5 c o j a2 a3 a4 e
 show Q (.ref I.objs.size) _;rw[sz];exact xt
def Qv{z TI TO J U:Addr}{k:Nat}{xs ys:Wh}{a b:Wr}{Q:Fin->Ws->Prop}(hh:A.handled=none)(D:G' z TI TO J U l1 l2)(hz:IsZip s.heap z TI TO .none)(hI:IsPair s.heap TI (.ref J)<|.ref U)(hO:IsPair s.heap TO a b)
 (h1:i3 t1 s.heap J l1 k) (h2:i3 t2 s.heap U l2 k) (q1:pM t1 s.heap l1 xs) (q2:pM t2 s.heap l2 ys) (g:xs[k]?=none\/ys[k]?=none)
 (q:∀h' e,(∀c o,c≠z->c≠TO->c≠J->c≠U->s.heap.get? c=some o->h'.get? c=some o)->(∃o,h'.get? e=some o/\o.cls=.type "StopIteration")->E (.ref e) {s with heap:=h'}):
 wpAny (model prog w) A (Builtin.«zip.__next__» ⟨[.ref z],[]⟩) Q E s:=by
 refine Aa (m:=field (.ref z) 2)<|Ba hz rfl (x:=.bool false) rfl<|Aa (m:=field (.ref z) 3)<|Ba hz rfl (x:=.ref TI) rfl<|Aa<|BG hI rfl ?_;refine Aa (m:=Builtin.SmallTypes.ownedTupleIsFree<|.ref z) ?_;unfold Builtin.SmallTypes.ownedTupleIsFree;refine Aa<|Ba hz rfl (x:=.none) rfl<|Aj ?_;simp only[if_true];refine Aa<|Bw<|Aa<|Ba hz rfl (x:=.ref TO) rfl<|Aa<|wpAny_setField_rec hz (by simp) λg1 z1 I=>?_;have j:IsZip g1 z TI TO .ellipsis:=z1;refine Aa ?_;simp only[Er,List.zipIdx_nil,C9,EK];refine Aa<|Aa<|wpAny_onRaise<|Aa (m:=Builtin.SmallTypes.nextOf<|.ref J) ?_;have p:=h1.on λo e=>I.extBut _ _ D.n3 e;have r:=q1.on λo e=>I.extBut _ _ D.n8 e;cases hx:xs[k]? with
 |none=>
  refine i3.stop hh p r hx λg2 e s2 he=>?_;obtain⟨oe,ge,ce⟩:=he;have z2:IsZip g2 z TI TO .ellipsis:=s2 _ _ (AH D.n3) j;have nz:e≠z:=λw=>by subst w;rw[z2] at ge;cases ge;simp at ce
  exact wpAny_setField_rec z2 (by simp) λg3 _ s3=>q g3 e (λc o C _ a3 _ w=>s3.extBut _ _ C<|s2 _ _ a3<|I.extBut _ _ C w) ⟨oe,s3.extBut _ _ nz ge,ce⟩
 |some x=>
  have hy:ys[k]?=none:=by rcases g with h|h;rw[hx] at h;cases h;exact h
  refine i3.next p r hx λg2 a5 T=>Aj ?_;have O2:IsPair g2 TO a b:=T.extBut _ _ D.n5<|I.extBut _ _ D.n2 hO;refine Aa<|BG O2 rfl<|Aa<|wpAny_updateSeq_pair O2 λg3 O3 e3=>Aa<|wpAny_letGo<|Aj ?_;refine Aa (Aa (wpAny_onRaise (Aa (m:=Builtin.SmallTypes.nextOf<|.ref U) (i3.stop (t:=t2) (l:=l2) (i:=k) (xs:=ys) hh (h2.on λo e=>e3.extBut _ _ (AH D.n6)<|T.extBut _ _ (AH D.n7)<|I.extBut _ _ D.n4 e)
   (q2.on λo e=>e3.extBut _ _ D.n13<|T.extBut _ _ D.n14<|I.extBut _ _ D.n12 e) hy λg4 e s4 he=>?_))))
  obtain⟨oe,ge,ce⟩:=he;have z4:IsZip g4 z TI TO .ellipsis:=s4 _ _ (AH D.n4)<|e3.extBut _ _ (AH D.n2)<|T.extBut _ _ (AH D.n3) j;have nz:e≠z:=λw=>by subst w;rw[z4] at ge;cases ge;simp at ce
  exact wpAny_setField_rec z4 (by simp) λg5 _ s5=>q g5 e (λc o C a2 a3 a4 w=>s5.extBut _ _ C<|s4 _ _ a4<|e3.extBut _ _ a2<|T.extBut _ _ a3<|I.extBut _ _ C w) ⟨oe,s5.extBut _ _ nz ge,ce⟩
end
def FU(t:Bool):Ww:=if t then "tuple_iterator" else "list_iterator"
section
variable {w:Wu}
def pM.iter{l:Addr}{xs:Wh}(I:pM t s.heap l xs)(q:Q (.ref s.heap.objs.size) {s with heap:=s.heap.push {cls:=.type<|FU t,data:=.fields #[.ref l,.int 0 0]}}):wpAny (model prog w) A (pyIter<|.ref l) Q E s:=by cases t with|false=>exact wpAny_pyIter_list I q|true=>exact wpAny_pyIter_tuple I q
end
def i3.new{l:Addr}(e:h.get? it=some {cls:=.type<|FU t,data:=.fields #[.ref l,.int 0 0]}):i3 t h it l 0:=by cases t with|false=>exact⟨_,e,rfl,rfl⟩|true=>exact⟨_,e,rfl,rfl⟩
abbrev Gc(t1:Bool)(h:Wv)(l1:Addr):Wv:=h.push {cls:=.type<|FU t1,data:=.fields #[.ref l1,.int 0 0]}
abbrev Gd(t1 t2:Bool)(h:Wv)(l1 l2:Addr):Wv:=(Gc t1 h l1).push {cls:=.type<|FU t2,data:=.fields #[.ref l2,.int 0 0]}
abbrev Ge(t1 t2:Bool)(h:Wv)(l1 l2:Addr):Wv:=(Gd t1 t2 h l1 l2).push {cls:=.type "tuple",data:=.seq #[.ref h.objs.size,.ref (Gc t1 h l1).objs.size]}
abbrev Gf(t1 t2:Bool)(h:Wv)(l1 l2:Addr):Wv:=(Ge t1 t2 h l1 l2).push {cls:=.type "tuple",data:=.seq #[.none,.none]}
abbrev Fo(t1 t2:Bool)(h:Wv)(l1 l2:Addr):Wv:=(Gf t1 t2 h l1 l2).push {cls:=.type "zip",data:=.fields #[.none,.bool false,.bool false,.ref (Gd t1 t2 h l1 l2).objs.size,.ref (Ge t1 t2 h l1 l2).objs.size]}
def wU(t1 t2:Bool)(l1 l2:Addr)(xs ys:Wh):Meets (Builtin.«zip.__new__» ⟨[.type "zip",.ref l1,.ref l2],[]⟩) (λ_ R s=>pM t1 s.heap l1 xs/\pM t2 s.heap l2 ys/\R (.ok<|.ret<|.ref (Gf t1 t2 s.heap l1 l2).objs.size) {s with heap:=Fo t1 t2 s.heap l1 l2}):=
 .of_wp λI w A R s h=>by
  obtain⟨J,g,d,tk,os⟩:=s;obtain⟨j,l,h⟩:=h;have U:=sub_zip;have p:pM t1 (Shared.heap ⟨J,g,d,tk,os⟩) l1 xs:=j;have r:pM t2 (Shared.heap ⟨J.push {cls:=.type<|FU t1,data:=.fields #[.ref l1,.int 0 0]},g,d,tk,os⟩) l2 ys:=l.on λo e=>wh _ e
  wp_walk using pM.iter p,pM.iter r
  exact⟨_,rfl,h⟩
def Qw{w:Wu}{xs ys:Wh}(p:pM t1 s.heap l1 xs)(r:pM t2 s.heap l2 ys)
 (q:∀h',IsZip h' (s.heap.objs.size+4) (s.heap.objs.size+2) (s.heap.objs.size+3) .none->IsPair h' (s.heap.objs.size+2) (.ref s.heap.objs.size) (.ref<|s.heap.objs.size+1)->IsPair h' (s.heap.objs.size+3) .none .none->
  i3 t1 h' s.heap.objs.size l1 0->i3 t2 h' (s.heap.objs.size+1) l2 0->(∀c o,s.heap.get? c=some o->h'.get? c=some o)->Q (.ref<|s.heap.objs.size+4) {s with heap:=h'}):
 wpAny (model prog w) A (call (.type "zip") [.ref l1,.ref l2]) Q E s:=by
 refine callType_new F.called_zip (by decide) (F.typeCall_zip_2 _ _) (F.newCall_zip_2 _ _) (λobj=>F.args_object_init_3 obj _ _) F.entry_zip_new (wU t1 t2 l1 l2 xs ys) ⟨p,r,?_⟩;have I:(Gc t1 s.heap l1).objs.size=s.heap.objs.size+1:=Fg ..;have J:(Gd t1 t2 s.heap l1 l2).objs.size=s.heap.objs.size+2:=by rw[Fg,I]
 have U:(Ge t1 t2 s.heap l1 l2).objs.size=s.heap.objs.size+3:=by rw[Fg,J]
 have j:(Gf t1 t2 s.heap l1 l2).objs.size=s.heap.objs.size+4:=by rw[Fg,U]
 have g:(Fo t1 t2 s.heap l1 l2).get? (Gf t1 t2 s.heap l1 l2).objs.size=some _:=ya _ rfl;have l:(Fo t1 t2 s.heap l1 l2).get? (Ge t1 t2 s.heap l1 l2).objs.size=some _:=wh _<|ya _ rfl;have g3:(Fo t1 t2 s.heap l1 l2).get? (Gd t1 t2 s.heap l1 l2).objs.size=some _:=wh _<|wh _<|ya _ rfl;have g2:(Fo t1 t2 s.heap l1 l2).get? (Gc t1 s.heap l1).objs.size=some _:=wh _<|wh _<|wh _<|ya _ rfl;have g1:(Fo t1 t2 s.heap l1 l2).get? s.heap.objs.size=some _:=wh _<|wh _<|wh _<|wh _<|ya _ rfl;show _/\_;rw[J,U,j] at g;rw[I,J] at g3;rw[U] at l;rw[I] at g2;rw[j];exact⟨⟨_,g,rfl⟩,q _ g g3 l (i3.new g1) (i3.new g2) λc o e=>wh _<|wh _<|wh _<|wh _<|wh _ e⟩
def Sq(t:Bool)(K:Af)(H:Hp)(a:Addr)(xs:Wx):Prop:=match t with
 |false=>aF K H a xs
 |true=>dz K H a xs
section
variable {σ:L2.St}
def qt.seq{a:Addr}(I:qt X pins σ H s)(h:Sq t X.K H a xs):∃eA:Wg,zf xs eA/\pM t s.heap a eA.toArray/\xs.length<=sizeLine:=by
 cases t with
 |false=>obtain⟨eA,v,p,z⟩:=I.list h;exact⟨eA,v,p.isList,z⟩
 |true=>obtain⟨eA,v,p,z⟩:=I.tuple h;exact⟨eA,v,p,z⟩
def qt.seq_inj{a:Addr}{ys:Wx}(I:qt X pins σ H s)(h:Sq t X.K H a xs)(h':Sq t X.K H a ys):xs=ys:=by cases t with|false=>exact I.list_inj h h'|true=>exact I.tuple_inj h h'
end
def Ha(t1 t2:Bool)(K:Af)(a b:Addr):It:=
 ⟨λi H=>∃xs ys x y,Sq t1 K H a xs/\Sq t2 K H b ys/\xs[i]?=some x/\ys[i]?=some y,
  λi H v H'=>∃p x y,H p=none/\v=.ref p/\H'=upd H p (.tup [x,y])/\(∀xs,Sq t1 K H a xs->xs[i]?=some x)/\∀ys,Sq t2 K H b ys->ys[i]?=some y,
  λi H=>∃xs ys,Sq t1 K H a xs/\Sq t2 K H b ys/\(xs.length<=i\/ys.length<=i)⟩
def Qx{P:Wt}{w:Wu}{K:Af}(a b z TI TO l p:Addr)(D:G' z TI TO l p a b)(d1:TI≠TO)(d2:TI≠l)(d3:TI≠p):
 z_ P w K (.Tuple mv x1 tp) (Ha t1 t2 K a b) [z,TI,TO,l,p] z (λi h=>IsZip h z TI TO .none/\IsPair h TI (.ref l) (.ref p)/\(∃u v,IsPair h TO u v)/\i3 t1 h l a i/\i3 t2 h p b i) where
 mem:=by simp
 obj:=λi h ⟨U,r,⟨u,v,t⟩,h1,h2⟩ c j=>by
  simp only[As,Be,or_false] at j;rcases j with rfl|rfl|rfl|rfl|rfl
  ·exact⟨_,U,λv z=>by cases z⟩
  ·exact⟨_,r,λv z=>by cases z⟩
  ·exact⟨_,t,λv z=>by cases z⟩
  ·exact h1.ob
  ·exact h2.ob
 keep:=λi h h' ⟨U,r,⟨u,v,t⟩,h1,h2⟩ k=>⟨k z (by simp) _ U,k TI (by simp) _ r,⟨u,v,k TO (by simp) _ t⟩,h1.on λo q=>k l (by simp) o q,h2.on λo q=>k p (by simp) o q⟩
 item:=by
  intro X hP hw hK j i a2 s σ H E I hf ⟨U,r,⟨u,v,t⟩,h1,h2⟩ hg;subst hP hw hK;obtain⟨xs,ys,x,y,q1,q2,hx,hy⟩:=hg;obtain⟨a3,C,p1,_⟩:=I.seq q1;obtain⟨a4,a1,p2,_⟩:=I.seq q2;obtain⟨ux,a5,ac⟩:=C.get hx;obtain⟨uy,al,ax⟩:=a1.get hy;have hT:s.TypeIs (.ref z) "zip" := ⟨_,U,rfl⟩;unfold pyNext;refine Aa (wpAny_attempt (wpAny_callSpecial?_slot (name:="__next__") hT Fi (wpAny_call_entry Fi hT F.entry_zip_next
   (Qu D U r t h1 h2 p1 p2 (x:=ux) (y:=uy) (by simpa using a5) (by simpa using al) λg1 gz gO ay aL gT gk=>Aj ⟨.ref s.heap.objs.size,rfl,wpAny_letOwnedTupleGo_zip gz λg2 ba J=>?_⟩) (F.args_zip_next_1 _))))
  have lz:z<s.heap.objs.size:=xT U;have bb:∀c∈[z,TI,TO,l,p],c<s.heap.objs.size:=λc j=>by
   simp only[As,Be,or_false] at j;rcases j with rfl|rfl|rfl|rfl|rfl
   ·exact lz
   ·exact xT r
   ·exact xT t
   ·obtain⟨o,e,_⟩:=h1.ob;exact xT e
   ·obtain⟨o,e,_⟩:=h2.ob;exact xT e
  have kk:∀c o,c∉[z,TI,TO,l,p]->s.heap.get? c=some o->g2.get? c=some o:=λc o g q=>by simp only[As,Be,or_false,not_or] at g;exact J.extBut c o g.1<|gk c o g.1 g.2.2.1 g.2.2.2.1 g.2.2.2.2 q
  have tg:g2.get? s.heap.objs.size=some {cls:=.type "tuple",data:=.seq #[ux,uy]}:=J.extBut _ _ (C0 lz) gT;refine⟨.ref s.heap.objs.size,upd H s.heap.objs.size<|.tup [x,y],?_,rfl,⟨_,x,y,I.hok.fresh<|An _,rfl,rfl,λzs hq=>by rw[I.seq_inj hq q1];exact hx,λzs hq=>by rw[I.seq_inj hq q2];exact hy⟩,?_,λc j=>?_⟩
  ·exact I.turnedN (t':=s.toks) kk hf (An _) ⟨by show 2<=sizeLine;decide,[ux,uy],.cons ac<|.cons ax .nil,⟨_,tg,rfl,_,rfl⟩⟩
  ·exact⟨ba,J.extBut _ _ D.n1<|gk _ _ D.n1 d1 d2 d3 r,⟨_,_,J.extBut _ _ D.n2 gO⟩,ay.on λo q=>J.extBut _ _ D.n3 q,aL.on λo q=>J.extBut _ _ D.n4 q⟩
  ·rw[qp<|A3<|bb c j];exact(hf c j).1
 done:=by
  intro X hP hw hK j i a2 s σ H E I hf ⟨U,r,⟨u,v,t⟩,h1,h2⟩ hg;subst hP hw hK;obtain⟨xs,ys,q1,q2,hl⟩:=hg;obtain⟨a3,C,p1,_⟩:=I.seq q1;obtain⟨a4,a1,p2,_⟩:=I.seq q2;have l1:=C.length;have l2:=a1.length;have hT:s.TypeIs (.ref z) "zip" := ⟨_,U,rfl⟩;unfold pyNext;refine Aa (wpAny_attempt (wpAny_callSpecial?_slot (name:="__next__") hT Fi (wpAny_call_entry Fi hT F.entry_zip_next
   (Qv (I.ok.hd j) D U r t h1 h2 p1 p2 (by rcases hl with h|h;exact .inl (by simp;lia);exact .inr (by simp;lia)) λg1 e gk he=>?_) (F.args_zip_next_1 _))))
  obtain⟨o,ho,bc⟩:=he;refine Aa<|wpAny_isInstance (T:="StopIteration") (b:=true) ⟨o,ho,bc⟩ isSubtype_stop<|Aj ⟨rfl,?_⟩;exact I.turnedL (t':=s.toks) (fp:=[z,TI,TO,l,p]) (λc o g q=>by simp only[As,Be,or_false,not_or] at g;exact gk c o g.1 g.2.2.1 g.2.2.2.1 g.2.2.2.2 q) hf
 self:=λ_ _ _ _ _ ⟨U,_⟩ h=>wpAny_pyIter_zip U h
def Qy(K:Af)(ta:TA):TI:=λσ H R=>ta σ H λvs H1=>∃t1 t2 a b,vs=[.ref a,.ref b]/\(∃xs,Sq t1 K H1 a xs)/\(∃xs,Sq t2 K H1 b xs)/\R (Ha t1 t2 K a b) H1
def Qz:bootBuiltins "zip"=some (.type "zip"):=by decide +kernel
def QC{a b:Expr}{ta:TA}(hg:Gl X "zip")(hm:X.mg "zip"=none)(ha:PA X [a,b] ta)(hs:starEach [a,b] X.env=[(false,eval a X.env),(false,eval b X.env)]:=by rfl)
 (g:starEach [b] X.env=[(false,eval b X.env)]:=by rfl):PI X (.Tuple mv x1 tp) (.Call (.Name "zip" p) [a,b] [] pos) (Qy X.K ta):=by
 intro U s σ H R I h;refine Call_ (cM I hg hm Qz (BU (wr (ha pos U s σ H _ I h) λus J ⟨vs,H1,j,r1,q1⟩=>?_) (by rw[hs,g]) (by rw[g];rfl)));obtain⟨t1,t2,r,t,e,⟨xs,hx⟩,⟨ys,hy⟩,q⟩:=q1;subst e;obtain⟨u1,u2,rfl,C,T⟩:=zf.two r1;cases C;cases T;obtain⟨al,_,p1,_⟩:=j.seq hx;obtain⟨ax,_,p2,_⟩:=j.seq hy;have a1:r<J.heap.objs.size:=by
  cases t1 with
  |false=>obtain⟨o,e,_⟩:=p1;exact xT e
  |true=>obtain⟨o,e,_⟩:=p1;exact xT e
 have a2:t<J.heap.objs.size:=by
  cases t2 with
  |false=>obtain⟨o,e,_⟩:=p2;exact xT e
  |true=>obtain⟨o,e,_⟩:=p2;exact xT e
 refine Qw p1 p2 λg1 gz gI gO a3 a4 gk=>?_;have I2:qt X U σ H1 {J with heap:=g1}:=j.kept (t':=J.toks) gk;refine wpAny_pyIter_zip (s:={J with heap:=g1}) gz ?_;refine⟨_,[_,J.heap.objs.size+2,J.heap.objs.size+3,J.heap.objs.size,J.heap.objs.size+1],_,_,H1,rfl,I2,Qx r t _ _ _ _ _ ?_ (vA (by lia)) (vA (by lia))<|vA (by lia),⟨gz,gI,⟨_,_,gO⟩,a3,a4⟩,λc hc=>?_,q⟩
 ·have a5:@LT.lt Nat instLTNat r J.heap.objs.size:=a1;have ac:@LT.lt Nat instLTNat t J.heap.objs.size:=a2;constructor<;>exact vA (by lia)
 ·have l:J.heap.objs.size<=c:=by simp only[As,Be,or_false] at hc;rcases hc with rfl|rfl|rfl|rfl|rfl<;>exact t_ (by simp +arith only)
  exact j.fpOk l<|j.hok.fresh l
end L2
namespace L3
open PySem L2
def rE(I:qk):Y->qk->Prop
 |.ref a,L=>L a=I a
 |_,_=>True
theorem kH(L:qk):∀y:Y,rE L y L
 |.ref _=>rfl
 |.non=>trivial
 |.bl _=>trivial
 |.int _=>trivial
 |.str _=>trivial
 |.ty _=>trivial
 |.cd _=>trivial
 |.tup _=>trivial
 |.sq _=>trivial
def xY{H1:Hp}(r:RV G H1 y v)(h:cO L1 y=some ys):∃t p,v=.ref p/\∀H L,zy H1 H->zr G H L->rE L1 y L->∃xs,Sq t G.K H p xs/\xm G H ys xs:=by
 cases y with
 |tup I=>
  obtain⟨a,xs,e,s,q⟩:=r;cases h;exact⟨true,a,e,λH L t _ _=>⟨xs,dz.ts s t,q.ts t⟩⟩
 |sq I=>
  obtain⟨a,xs,e,s,q⟩:=r;cases h;exact⟨false,a,e,λH L t _ _=>⟨xs,(s.ts t).sq,q.ts t⟩⟩
 |ref a=>
  have e:=iw h;exact⟨false,a,r,λH L _ J U=>let ⟨xs,g,q⟩:=J a _<|U.trans e;⟨xs,FA g,q⟩⟩
 |_=>cases h
def vY(xs ys:List Y):List Y:=List.zipWith (λa b=>Y.tup [a,b]) xs ys
def xX{xs:List Y}(h:(vY xs ys)[i]?=some y):∃a b,xs[i]?=some a/\ys[i]?=some b/\y=.tup [a,b]:=by
 unfold vY at h;rw[List.getElem?_zipWith] at h;cases I:xs[i]? with
 |none=>rw[I] at h;simp at h
 |some a=>
  cases J:ys[i]? with|none=>rw[I,J] at h;simp at h|some b=>rw[I,J] at h;simp at h;exact⟨a,b,rfl,rfl,h.symm⟩
def nU(xs ys:List Y):(vY xs ys).length=min xs.length ys.length:=by simp[vY]
def vC{a b:Addr}{xs:List Y}{keep:qk->Prop}(h1:∀H L,zy H₀ H->zr G H L->keep L->∃us,Sq t1 G.K H a us/\xm G H xs us)(h2:∀H L,zy H₀ H->zr G H L->keep L->∃us,Sq t2 G.K H b us/\xm G H ys us):
 gF G H₀ (Ha t1 t2 G.K a b) (vY xs ys) keep where
 go:=λi H L t I J hi=>by obtain⟨us,g,j⟩:=h1 H L t I J;obtain⟨U,l,o⟩:=h2 H L t I J;rw[nU] at hi;have l1:=j.length;have l2:=o.length;exact⟨us,U,us[i]'(by lia),U[i]'(by lia),g,l,Ag _,Ag _⟩
 yld:=λi H L x H' y t I J hy ⟨p,u,v,r,e1,e2,f1,f2⟩=>by subst e1 e2;obtain⟨us,g,j⟩:=h1 H L t I J;obtain⟨U,l,o⟩:=h2 H L t I J;obtain⟨c,d,ec,ed,rfl⟩:=xX hy;obtain⟨u',eu,ru⟩:=j.get ec;obtain⟨v',ev,rv⟩:=o.get ed;have C:=f1 us g;rw[eu] at C;cases C;have T:=f2 U l;rw[ev] at T;cases T;exact⟨ET r,I.skip r,p,_,rfl,dz.of zu,⟨_,_,rfl,ru.ts<|ET r,_,_,rfl,rv.ts<|ET r,rfl⟩⟩
 stop:=λH L t I J=>by obtain⟨us,g,j⟩:=h1 H L t I J;obtain⟨U,l,o⟩:=h2 H L t I J;have l1:=j.length;have l2:=o.length;exact⟨us,U,g,l,by rw[nU];lia⟩
def QD(ta:eB)(τ:j9)(L:qk)(R:List Y->(qk->Prop)->qk->Prop):Prop:=ta τ L λvs L1=>match vs with
 |[x,y]=>iL L1 x λxs=>iL L1 y λys=>R (vY xs ys) (λL=>rE L1 x L/\rE L1 y L) L1
 |_=>False
def QH{a b:Expr}{tr:eB}(hg:Gl X "zip")(hm:X.mg "zip"=none)(ha:QA X [a,b] tr)(hs:starEach [a,b] X.env=[(false,eval a X.env),(false,eval b X.env)]:=by rfl)
 (g:starEach [b] X.env=[(false,eval b X.env)]:=by rfl):QI X (.Tuple mv x1 tp) (.Call (.Name "zip" p) [a,b] [] pos) (QD tr):=PI.imq (QC hg hm ha hs g) λσ H R τ L R3 rs U z k=>by
 refine⟨τ,L,_,rs,U,z,λvs j ys l t1 I o J=>?_⟩;split at J
 ·rename_i x y;obtain⟨u,v,rfl,ru,rv⟩:=o.inv2;obtain⟨xs,ex,J⟩:=wm J;obtain⟨zs,ez,J⟩:=wm J;obtain⟨r,p1,rfl,k1⟩:=xY ru ex;obtain⟨C,p2,rfl,k2⟩:=xY rv ez;obtain⟨us,s1,_⟩:=k1 j l (ES _) I<|kH _ _;obtain⟨ws,s2,_⟩:=k2 j l (ES _) I<|kH _ _;exact⟨r,C,p1,p2,rfl,⟨us,s1⟩,⟨ws,s2⟩,k _ j _ _ l t1 I (vC (λH L t U T=>k1 H L t U T.1) λH L t U T=>k2 H L t U T.2) J⟩
 ·exact J.elim
def zC(xs:List Y)(L:qk)(Q:YK):Prop:=match xs with
 |[x]=>iL L x λys=>∀p,L p=none->Q (.ref p) (qi L p<|.lst ys)
 |_=>False
def nW :ja X (.type "list") (c_ X.g3 zC):=E9 qU λt H Q C L T U I z k=>by
 unfold zC at z;split at z
 ·rename_i x;obtain⟨u,rfl,g⟩:=U.inv1;obtain⟨zs,j,z⟩:=wm z;obtain⟨p,o,e,sq,r⟩:=rj I g j;subst e;exact⟨p,o,rfl,sq,λl J=>k _ _ _ _ (ET J) (I.newL J r) (by rfl)<|z l<|I.none J⟩
 ·exact z.elim
def iC{T:Ww}{tr:eB}{r:List Y->qk->YK->Prop}(hc:ja X (.type T)<|c_ X.g3 r)(U:Gl X x)(g:X.mg x=none)(j:bootBuiltins x=some (.type T))(h:QA X (e::es) tr)
 (l:x ≠ "__name__" := by decide) (hd:Fe x:=by decide) (hs:Fb e es X:=by rfl) (o:Fc pos es X:=by rfl):
 QE X (.Call (.Name x p) (e::es) [] pos) (pQ r tr):=EU (jD hc U g j h l hd hs o) λσ H Q t L C rs rl z k=>
 ⟨t,L,_,rs,rl,z,λvs H1 ys L1 t1 I J z1=>⟨ys,L1,C,J,I,z1,k.ts t1⟩⟩
def mK(x:Y)(vs:List Y)(L:qk)(Q:YK):Prop:=match x,vs with
 |.ref a,[.int i]=>cB L a λys=>0<=i/\i<ys.length/\xA L (λv L=>Q v<|qi L a<|.lst<|ys.eraseIdx i.toNat) (ys[i.toNat]?)
 |_,_=>False
def QJ :g9 X "list.pop" (f' X.g3 mK):=λJ s l H x xs v o Q I p t ⟨y,ys,L,Q3,C,T,j,z,k⟩=>by
 unfold mK at z;split at z
 ·rename_i a i;obtain⟨zs,e,h0,h1,z⟩:=jy z;obtain⟨ws,U,r⟩:=j a _ e;obtain⟨i',rfl,ri⟩:=T.inv1;cases ri;cases g:zs[i.toNat]? with
  |none=>rw[g] at z;exact z.elim
  |some w=>
   rw[g] at z;obtain⟨u,eu,ru⟩:=r.get g;obtain⟨_,_,_,hz⟩:=I.list<|FA U;have hl:=r.length;have hs:sizeLine<2 ^ 62:=by decide
   refine OQ J s l H x _ v o Q I p t ⟨a,ws,i,i.toNat,u,C,rfl,U,by lia,by lia,?_,eu,k _ _ _ _ (EZ U) (j.setL U<|r.eraseIdx _) (ru.ts<|EZ U) z⟩;unfold seqIndex?;rw[AB (show ¬i<0 by lia),AD (by simp;lia)]
 ·exact z.elim
def bL{tr:eB}(I:QE X o to)(J:QA X (e::es) tr)(U:r_ X o e es "pop" apos fm:=by exact⟨rfl,rfl,rfl,rfl,rfl⟩):
 QE X (.Call (.Attribute o "pop" apos) (e::es) [] fm) (iQ mK to tr):=m7 PySem.F.slot_list_pop PySem.F.type_list_pop QJ I J U
end L3
namespace L2
open PySem PySem.Spec PyProof.Rows
def yi(i:Int)(n d:Nat):max 0 (min (if i<0 then i+(n:Int) else i) n)=((HT.sIx n d (some i):Nat):Int):=by
 simp only[HT.sIx];by_cases h:i<0
 ·simp only[h,if_true]<;>lia
 ·simp only[h,if_false]<;>lia
def zQ(l u:Wo)(n:Nat):Builtin.Str.strSliceIndices l u 1 n=(List.range<|HT.sIx n n u-HT.sIx n 0 l).map (HT.sIx n 0 l+·):=by
 have z:(0:Int)=((HT.sIx n 0 none:Nat):Int):=rfl;have y:(n:Int)=((HT.sIx n n none:Nat):Int):=rfl;unfold Builtin.Str.strSliceIndices;cases l with
 |none=>
  cases u with
  |none=>exact sliceRange_one 0 n
  |some j=>
   show sliceRange 0 (max 0<|min (if j<0 then j+(n:Int) else j) n) 1=_;rw[yi j n n];exact sliceRange_one 0 _
 |some i=>
  cases u with
  |none=>
   show sliceRange (max 0<|min (if i<0 then i+(n:Int) else i) n) n 1=_;rw[yi i n 0];exact sliceRange_one _ n
  |some j=>
   show sliceRange (max 0<|min (if i<0 then i+(n:Int) else i) n) (max 0<|min (if j<0 then j+(n:Int) else j) n) 1=_;rw[yi i n 0,yi j n n];exact sliceRange_one _ _
def pO(x:Str)(l u:Wo):(Txt.slice x l u).cps.toList=(x.cps.toList.drop<|HT.sIx x.length 0 l).take (HT.sIx x.length x.length u-HT.sIx x.length 0 l):=by
 have U:x.length=x.cps.toList.length:=by simp[Str.length]
 have I:=pick_run x.cps (HT.sIx x.length 0 l)<|HT.sIx x.length x.length u-HT.sIx x.length 0 l;unfold Txt.slice;rw[zQ];split
 ·rename_i h;simp only[beq_self_eq_true,Bool.true_and,Ae,BM,beq_iff_eq] at h;have h1:=HT.sIx_le x.length 0 (A1 _) l;have h2:=HT.sIx_le x.length x.length (An _) u;have J:HT.sIx x.length 0 l=0:=by lia
  rw[h,J,EL,Bb (by exact uz)]
 ·show(List.filterMap (λi=>x.cps[i]?) _).toArray.toList=_;rw[List.toList_toArray];exact I
def QK:V->Wo->Wo->Hp->VK->Prop:=λx lo hi H Q=>∃z,x=.str z/\z.length<=sizeLine/\Q (.str<|Txt.slice z lo hi) H
def ank:sM X QK:=by
 rintro J s σ H x v U g lo j sl Q I o p r C⟨z,rfl,T,q⟩;obtain⟨t,rfl⟩:=o;obtain⟨l,rfl,hl⟩:∃l:Option (Int×Tok),U=partValue l/\l.map (·.1)=lo:=by cases r with|none=>exact⟨none,rfl,rfl⟩|int i t=>exact⟨some (i,t),rfl,rfl⟩
 obtain⟨u,rfl,hu⟩:∃u:Option (Int×Tok),g=partValue u/\u.map (·.1)=j:=by cases C with|none=>exact⟨none,rfl,rfl⟩|int i t=>exact⟨some (i,t),rfl,rfl⟩
 subst hl hu;refine⟨"str",_,F.slot_str_getitem.lookup,typeIs_str _ _ _,j5 I.tk<|wpAny_getItem_str_slice (l:=l) (u:=u) (st:=none) p rfl ?_⟩;exact post_val_or_str ⟨AM (Txt.slice_le z _ _) T,λt' k ht=>⟨.str _,H,I.tok _,⟨t',rfl⟩,q⟩⟩
def vP{zs:Wj}:∀{us:Wg},zf (zs.map V.str) us->StrsAre us zs:=by
 induction zs with
 |nil=>intro us r;rw[Dq] at r;cases r;exact .nil
 |cons z zs I=>
  intro us r;rw[AA] at r;cases r with
  |cons J U=>
   obtain⟨t,e⟩:=J;subst e;exact .cons z t<|I U
def QL(K:Af):V->Wx->Hp->VK->Prop:=λx vs H Q=>∃z a zs,x=.str z/\vs=[.ref a]/\aF K H a ((zs:Wj).map V.str)/\(zs.map (·.length)).sum+zs.length*z.length<=16777216/\Q (.str<|Txt.join z zs) H
def QM:g9 X "str.join" (QL X.K):=by rintro J s σ H x vs v us Q I U g⟨z,a,zs,rfl,rfl,j,l,q⟩;obtain⟨t,rfl⟩:=U;obtain⟨u,rfl,o⟩:=g.one;cases o;obtain⟨C,r,p,_⟩:=I.list j;exact j5 I.tk<|PyProof.Rows.join_list p.isList (by simpa using vP r) l λT k ht=>⟨.str _,H,I.tok _,⟨T,rfl⟩,q⟩
end L2
namespace L3
open PySem L2
def Hb(x:Y)(lo hi:Wo)(L:qk)(Q:YK):Prop:=match x with
 |.str z=>z.length<=sizeLine/\Q (.str<|Txt.slice z lo hi) L
 |x=>IF x lo hi L Q
def uW(K:Af)(P:Wt)(w:Wu)(U:X.K=K:=by rfl)(g:X.prog=P:=by rfl)(hw:X.w=w:=by rfl):sM X (Gb ⟨K,P,w⟩ Hb):=by refine sM.imp (ank.or<|Qa K P w U g hw) λx lo l H Q ⟨y,L,j,I,J,z,k⟩=>?_;cases y with|str s=>exact .inl ⟨s,I,z.1,k _ H _ L (ES _) J (by rfl) z.2⟩|_=>exact .inr ⟨_,L,j,I,J,z,k⟩
def Ja(r:Y->List Y->qk->YK->Prop)(to:xg)(t:eB)(τ:j9)(L:qk)(Q:YK):Prop:=to τ L λx L1=>match x with
 |.str z=>t τ L1 λxs L2=>r (.str z) xs L2 Q
 |_=>False
def QN{tr:eB}{id:Ww}{r:Y->List Y->qk->YK->Prop}(h2:Slot "str" name id)(h3:typeOf (.builtin id)=pure (.type "method_descriptor"))(T:g9 X id<|f' X.g3 r)(ho:QE X o to)(ha:QA X (e::es) tr)
 (I:r_ X o e es name apos fm:=by exact⟨rfl,rfl,rfl,rfl,rfl⟩):
 QE X (.Call (.Attribute o name apos) (e::es) [] fm) (Ja r to tr):=EU (Ik PySem.F.plainAttrs_str h2 h3 T ho ha I.h4 I.h5 I.h6 I.h7 I.h8) λσ H Q p L Q3 t rl z k=>
 ⟨p,L,_,t,rl,z,λv H1 y L1 C J U g=>by
  split at g
  ·rename_i s;cases U;exact⟨rfl,p,L1,_,t.ts C,J,g,λvs H2 ys L2 t2 j l z2=>⟨.str s,ys,L2,Q3,rfl,l,j,z2,k.ts<|C.trans t2⟩⟩
  ·exact g.elim⟩
theorem tM{G:G3}{H:Hp}:∀{zs:Wj} {xs:Wx},xm G H (zs.map Y.str) xs->xs=zs.map V.str
 |[],_,h=>h
 |z::r,_,⟨x,I,e,q,s⟩=>by rw[e,show x=V.str z from q,tM s];rfl
def Hc(x:Y)(vs:List Y)(L:qk)(Q:YK):Prop:=match x,vs with
 |.str z,[.ref a]=>cB L a λys=>∃zs,ys=zs.map Y.str/\(zs.map (·.length)).sum+zs.length*z.length<=16777216/\Q (.str<|Txt.join z zs) L
 |_,_=>False
def QP :g9 X "str.join" (f' X.g3 Hc):=g9.imq QM λx p H Q y t L C U g I z k=>by
 unfold Hc at z;split at z
 ·rename_i s a;obtain⟨T,e,j,rfl,l,z⟩:=jy z;obtain⟨ws,J,r⟩:=I a _ e;obtain⟨u,rfl,o⟩:=g.inv1;cases o;rw[tM r] at J;exact⟨s,a,j,U,rfl,FA J,l,k _ H _ L (ES _) I (by rfl) z⟩
 ·exact z.elim
def QQ{tr:eB}(I:QE X o to)(J:QA X (e::es) tr)(U:r_ X o e es "join" apos fm:=by exact⟨rfl,rfl,rfl,rfl,rfl⟩):
 QE X (.Call (.Attribute o "join" apos) (e::es) [] fm) (Ja Hc to tr):=QN PySem.F.slot_str_join PySem.F.type_str_join QP I J U
def rV(zs:Wj):(Txt.join "" zs).cps.toList=zs.flatMap λz=>z.cps.toList:=by
 have e:∀zs:Wj,(Str.join "" zs).cps.toList=zs.flatMap λz=>z.cps.toList:=by
  intro zs
  induction zs with
  |nil=>rfl
  |cons z r I=>
   cases r with
   |nil=>simp[Str.join]
   |cons y r=>
    show(z ++ "" ++ Str.join "" (y::r)).cps.toList=_;have:(z ++ "" ++ Str.join "" (y::r)).cps=z.cps++#[]++(Str.join ""<|y::r).cps:=rfl;rw[this];simp only[A8,I,Bh,Array.append_empty]
 exact(Bk (λx:Str=>x.cps.toList)<|StrLaws.glued_eq_join "" zs).trans (e zs)
def QR(K:Af)(T S I:kC):PySem.W.kitAny K (.type T.nm) [.type S.nm,.type I.nm]=some (dC T S||dC T I):=by show(match PySem.W.kitOne K (.type T.nm) (.type S.nm) with|some true=>some true|some false=>(match PySem.W.kitOne K (.type T.nm) (.type I.nm) with|some true=>some true|some false=>some false|none=>none)|none=>none)=_;rw[qT,qT];cases dC T S<;>cases dC T I<;>rfl
def QU{T S g:kC}{a:Addr}{σ:L2.St}(I:qt X pins σ H s)(rl:zr X.g3 H L)(r:RV X.g3 H y v)(U:zq v u)(h:q_ L y=some T)(ha:H a=some (.tup [.ty S.nm,.ty g.nm]))
 (J:∀tk,Q (.bool<|dC T S||dC T g) {s with toks:=tk}):wpAny (model X.prog X.w) A (call (.builtin "isinstance") [u,.ref a]) Q E s:=by
 obtain⟨_,a1,vs,⟨⟨oc,od,dt,sl⟩,h1,h2,n,h3⟩⟩:=(show x9 X.prog X.w H s.heap a (.tup [.ty S.nm,.ty g.nm]) from I.hok a _ ha);obtain⟨u1,u2,rfl,r1,r2⟩:=zf.two vs;cases (show u1=Value.type S.nm from r1);cases (show u2=Value.type g.nm from r2);cases (show oc=_ from h2);cases (show dt=_ from h3);have e:=QR X.K T S g;cases y with
 |non=>cases h;cases r;cases (show u=Value.none from U);exact BX PySem.W.kitx_none I.kIn True.intro h1 e (λz=>nomatch z) J
 |bl b=>cases h;cases r;cases (show u=Value.bool b from U);exact BX PySem.W.kitx_bool I.kIn True.intro h1 e (λz=>nomatch z) J
 |int i=>cases h;cases r;obtain⟨t,q⟩:=(show ∃t,u=Value.int i t from U);cases q;exact BX PySem.W.kitx_int I.kIn True.intro h1 e (λz=>nomatch z) J
 |str x=>cases h;cases r;obtain⟨t,q⟩:=(show ∃t,u=Value.str x t from U);cases q;exact BX PySem.W.kitx_str I.kIn True.intro h1 e (λz=>nomatch z) J
 |tup ys=>
  cases h;obtain⟨b,j,rfl,sq,_⟩:=r;cases (show u=Value.ref b from U);obtain⟨_,_,⟨o,g1,g2,_⟩,_⟩:=I.tuple sq;exact BX DP I.kIn ⟨o,g1,g2⟩ h1 e (λz=>nomatch z) J
 |sq ys=>
  cases h;obtain⟨b,j,rfl,sq,_⟩:=r;cases (show u=Value.ref b from U);obtain⟨_,_,⟨o,_,g1,g2,_⟩,_⟩:=I.list sq.sq;exact BX CS I.kIn ⟨o,g1,g2⟩ h1 e (λz=>nomatch z) J
 |ref b=>
  cases (show v=.ref b from r);cases (show u=Value.ref b from U);have l:(match L b with|some (.lst _)=>some kC.list|some (.dct _)=>some .dict|_=>none)=some T:=h;split at l
  ·rename_i ys C;cases l;obtain⟨j,e2,_⟩:=rl b _ C;obtain⟨_,_,⟨o,_,g1,g2,_⟩,_⟩:=I.list<|FA e2;exact BX CS I.kIn ⟨o,g1,g2⟩ h1 e (λz=>nomatch z) J
  ·rename_i a2 C;cases l;obtain⟨j,e2,_⟩:=rl b _ C;obtain⟨_,_,ws,_,p⟩:=(show x9 X.prog X.w H s.heap b (.dK j) from I.hok b _ e2);obtain⟨o,es,ep,g1,g2,_⟩:=p;exact BX Eb I.kIn ⟨o,g1,g2.1⟩ h1 e (λz=>nomatch z) J
  ·cases l
 |_=>cases h
def QV(G:G3)(S I:kC):Wx->Hp->VK->Prop:=λxs H Q=>∃y v L J T a,xs=[v,.ref a]/\H a=some (.tup [.ty S.nm,.ty I.nm])/\RV G H y v/\zr G H L/\q_ L y=some T/\J (.bl<|dC T S||dC T I) L/\sK G H J Q
def zP(S g:kC):ja X (.builtin "isinstance") (QV X.g3 S g):=by rintro J s t H C us Q I r⟨y,v,L,Q3,T,a,rfl,j,l,U,ty,q,k⟩;obtain⟨u,c,rfl,o,p⟩:=zf.two r;cases (show c=Value.ref a from p);exact j5 I.tk<|QU I U l o ty j λtk ht=>⟨.bl _,H,I.tok _,rfl,k _ H _ L (ES _) U (by rfl) q⟩
def vK{a:Expr}{pt:Pos}{J I:Str}(S l:kC)(hg:Gl X "isinstance")(hm:X.mg "isinstance"=none)(o:Gl X J)(r:X.mg J=none)(t:bootBuiltins J=some (.type S.nm))(U:Gl X I)(g:X.mg I=none)(j:bootBuiltins I=some (.type l.nm))(ha:QE X a ta)
 (hn:J ≠ "__name__" := by decide) (hd:(J==("__debug__" : Str))=false:=by decide) (C:I ≠ "__name__" := by decide) (a1:(I==("__debug__" : Str))=false:=by decide)
 (hs:starEach [a,.Tuple [.Name J p1,.Name I p2] kt pt] X.env=(false,eval a X.env)::starEach [.Tuple [.Name J p1,.Name I p2] kt pt] X.env:=by rfl)
 (a2:starEach [.Tuple [.Name J p1,.Name I p2] kt pt] X.env=(false,eval (.Tuple [.Name J p1,.Name I p2] kt pt) X.env)::starEach [] X.env:=by rfl)
 (a3:starEach [.Name J p1,.Name I p2] X.env=(false,eval (.Name J p1) X.env)::starEach [.Name I p2] X.env:=by rfl) (a4:starEach [.Name I p2] X.env=(false,eval (.Name I p2) X.env)::starEach [] X.env:=by rfl)
 (hp:(backTo pos<|starEach [.Tuple [.Name J p1,.Name I p2] kt pt] X.env).any (·.1)=false:=by rfl):
 QE X (.Call (.Name "isinstance" p) [a,.Tuple [.Name J p1,.Name I p2] kt pt] [] pos) (PQ S l ta):=by
 refine E4 (eJ (zP S l) hg hm aW (vm ha (vm (vV<|vm (yz o r t hn hd) (vm (yz U g j C a1) bx a4) a3) bx a2) hs) (by decide) (by decide) hs hp) ?_;rintro σ H Q ⟨τ,L,Q3,rs,rl,z,k⟩;refine⟨τ,L,_,rs,rl,z,λv H1 y L1 t1 a5 ac z1=>?_⟩;obtain⟨T,et,z1⟩:=sQ z1;refine⟨by show 2<=sizeLine;decide,λq hq=>?_⟩;exact⟨y,v,L1,Q3,T,q,rfl,zu,ac.ts<|ET hq,a5.skip hq,et,z1,k.ts<|t1.trans<|ET hq⟩
inductive nQ(t u:bB)(D:xn)(τ:j9)(L:qk):Prop
 |mk:∀J:j9->qk->Prop,t {D with nx:=J} τ L->(∀τ' L',J τ' L'->u D τ' L')->nQ t u D τ L
def v9{rest:Wl}{t u:bB}(h:QS X st t)(k:ue X rest u):ue X (st::rest) (nQ t u):=iW.imp (uk h k) λD σ H ⟨o,L,j,p,r,⟨J,z,q⟩,k⟩=>
 ⟨o,L,{j with nx:=J},p,r,z,λC H1 I l T U g z1=>⟨I,l,j,U,g,q I l z1,k.ts T⟩,k.rt,k.bk,k.ct⟩
abbrev X3:=j9->Addr->qk->Prop
abbrev lI:=List Y->qk->YK->(Addr->qk->Prop)->Prop
def Fp(G:G3)(E3:X3):X1:=λσ c H=>∃C τ L,c=.ref C/\xb G H σ τ/\zr G H L/\E3 τ C L
def Jb(G:G3)(H:Hp)(E3:Addr->qk->Prop)(E:XK):Prop:=∀C H' L',zy H H'->zr G H' L'->E3 C L'->E (.ref C) none H'
def QX(G:G3)(sp:lI):Sp:=λvs H Q E=>∃ys L I E3,xm G H ys vs/\zr G H L/\sp ys L I E3/\sK G H I Q/\Jb G H E3 E
def Fq(E3:Addr->qk->Prop):X3:=λ_ C L=>∃L2,qh L2 L/\E3 C L2
abbrev Jc(P:Wt)(w:Wu)(K:Af)(mg:Wc)(base:Wv)(k:Nat)(f:Addr)(fd:FuncData)(ps:Wj)(sp:lI):Prop:=bQ P w K mg base (f_ P w) k f fd ps<|QX ⟨K,P,w⟩ sp
structure jZ(P:Wt)(w:Wu)(K:Af)(mg:Wc)(base:Wv)(k:Nat)(x:Str)(ps:Wj)(sp:lI):Prop where
 ex:∃f fd,Jc P w K mg base k f fd ps sp/\dw K fd ps []/\PySem.W.keepIn K (.ref f)=true/\mg x=some (.ref f)
theorem jZ.mono{P:Wt}{w:Wu}{K:Af}{k:Nat}{sp:lI}(c:jZ P w K mg base j x ps sp)(h:j<=k):jZ P w K mg base k x ps sp:=by obtain⟨f,fd,F,b,I,m⟩:=c.ex;exact⟨f,fd,F.mono h,b,I,m⟩
def qt.tst{σ:L2.St}(I:qt X pins σ H s):zy X.H₀ H:=λa u i e=>by cases u with|tup J=>exact I.base.tups a J e|frz o u=>exact I.base.frzs a o u e|_=>cases i
def QY{P:Wt}{w:Wu}{K:Af}{N:Wj}{E:XK}{E3:Addr->qk->Prop}(h:Jb ⟨K,P,w⟩ H E3 E):
 bS (fJ (f_ P w) P w K mg base N eK scope f cd A outer s H E) (Fp ⟨K,P,w⟩<|Fq E3):=by
 intro J j g l a C tr I L ap U ⟨t,T,L',o,rs,p,L2,r,q⟩;cases o;exact Pk J j g l a C tr I L ap U<|h C g L2 (qt.tst I) (p.sub r) q
def dH(sp:lI)(E3:X3)(t:eB)(τ:j9)(L:qk)(Q:YK):Prop:=t τ L λys L1=>sp ys L1 Q<|E3 τ
def Jd(C:Addr)(E3:X3)(t:eB)(_:xn)(τ:j9)(L:qk):Prop:=t τ L λys L1=>ys.length<=1000/\E3 τ C L1
section
variable {tr:eB}{E3:X3}
def qE{k:Nat}{sp:lI}(c:jZ X.prog X.w X.K X.mg X.base k x ps sp)(t:wz k X.A)(T:Gl X x)(ht:bS X<|Fp X.g3 E3)(hx:X.ex=[])(ha:QA X (e::es) tr)(I:Fe x:=by decide)
 (he:Fb e es X:=by rfl) (J:Fc pos es X:=by rfl):QE X (.Call (.Name x p) (e::es) [] pos) (dH sp E3 tr):=by
 obtain⟨f,fd,F,b,kp,m⟩:=c.ex;refine EU (tK F t T m kp b ht hx ha I he J) λσ H Q U L Q3 o rl z k=>?_;exact⟨U,L,_,o,rl,z,λvs H1 ys L1 r g j z1=>⟨ys,L1,Q3,E3 U,j,g,z1,k.ts r,λC H' L' t' l q=>⟨C,U,L',rfl,o.ts<|r.trans t',l,q⟩⟩⟩
def QZ(c:FF X.K C)(o:Gl X x)(p:X.mg x=some (.ref C))(hc:X.calm=true)(r:bS X<|Fp X.g3 E3)(t:X.ex=[])(T:QA X (e::es) tr)(I:Fe x:=by decide)
 (he:Fb e es X:=by rfl) (J:Fc fm es X:=by rfl):
 QS X (.Raise (some<|.Call (.Name x np) (e::es) [] fm) none pos) (Jd C E3 tr):=EW (Pn c o p hc r t T I he J) λD σ H j L D3 l rl z k=>
 ⟨j,L,_,l,rl,z,λvs H1 ys L1 t1 U g ⟨hl,z1⟩=>⟨cz (by rw[<-g.length];exact hl),C,j,L1,rfl,l.ts t1,U,z1⟩⟩
end
def Q0{P:Wt}{w:Wu}{K:Af}{N:Wj}{k:Nat}{sp:lI}{t:X3->bB}(F:Fun K x eK st f fd)(S:aA N ps<|qw st)(len:∀ys L Q E,sp ys L Q E->ys.length=ps.length)
 (I:∀(eW:Wr) (A:Around) (outer:List Env) (s:Ws) (H:Hp) (E:XK) (E3:X3),wz k (A.deeper<|PyProof.Rows.envOfC eK (qw st) s.heap.objs.size f eW)->
  bS (fJ (f_ P w) P w K mg base N eK (qw st) f eW A outer s H E) (Fp ⟨K,P,w⟩ E3)->ue (fJ (f_ P w) P w K mg base N eK (qw st) f eW A outer s H E) (jv st) (t E3))
 (vc:∀ys L Q E,sp ys L Q E->t (Fq E) {nx:=λ_ L'=>a7 Q .non L',rt:=a7 Q} (fK N ys) L):Jc P w K mg base (k+1) f fd ps sp:=by
 obtain⟨oc,od,kV,a1,pm,an,eW,ct,a2,rfl,lk,U⟩:=F.ex;refine GK lk U S (λvs H Q E ⟨ys,L,g,E3,j,T,z,_⟩=>by rw[<-j.length];exact len ys L g E3 z) λA outer s H vs Q E hr ⟨ys,L,g,E3,j,T,z,k,kx⟩=>?_;refine⟨_,I eW A outer s H E (Fq E3) hr<|QY kx,fK N ys,L,_,ip j,T,vc ys L g E3 z,?_⟩;exact⟨λσ l τ L' o a3 J ⟨L2,p,r⟩=>k .non l .non L2 o (J.sub p) (by rfl) r,λv l y L' o J C ⟨L2,p,r⟩=>k v l y L2 o (J.sub p) C r,λ_ _ _ _ _ _ _ z=>z.elim,λ_ _ _ _ _ _ _ z=>z.elim⟩
open PySem L2 Words
def top(i:Nat):Stmt:=PySem.Challenge.pw_oncewise_k14_spoilt_links.main.body.getD i<|.Pass ⟨0,0,0,0⟩
abbrev oy:Stmt:=top 15
abbrev uq:Stmt:=top 16
abbrev pW:Stmt:=top 18
abbrev iR:Stmt:=top 19
abbrev nR:Stmt:=top 20
abbrev mX:Stmt:=top 21
abbrev kR:Stmt:=top 22
abbrev kQ:Stmt:=top 23
abbrev jX:Stmt:=top 24
abbrev lA:Stmt:=top 25
abbrev pD:Stmt:=top 26
abbrev kZ:Stmt:=top 27
abbrev iN:Stmt:=top 28
abbrev sW:Stmt:=top 29
abbrev mO:Stmt:=top 30
abbrev Q1:Stmt:=top 31
abbrev oX:Stmt:=top 32
abbrev eQ:Stmt:=top 34
abbrev jL:Stmt:=top 35
abbrev mF:Stmt:=top 36
abbrev jU:Stmt:=top 37
abbrev jV:Stmt:=top 38
abbrev kI:Stmt:=top 39
abbrev gC:Stmt:=top 40
abbrev o8:Stmt:=top 41
abbrev kU:Stmt:=top 42
abbrev lB:Stmt:=top 43
abbrev wM:Stmt:=top 44
abbrev kJ:Stmt:=top 45
abbrev kY:Stmt:=top 46
abbrev fM:Stmt:=top 47
abbrev eO:Stmt:=top 48
abbrev oZ:Stmt:=top 49
abbrev s__law_order:Stmt:=top 50
abbrev o4:Stmt:=top 51
abbrev mR:Stmt:=top 52
abbrev kE:Stmt:=top 53
abbrev fE:Stmt:=top 54
abbrev cZ:Stmt:=top 55
abbrev dq:Stmt:=top 56
abbrev fw:Stmt:=top 57
abbrev mJ:Stmt:=top 58
abbrev u7:Stmt:=top 59
structure V_ where
 (P:Wt) (w:Wu) (K:Af) (mg:Wc) (base:Wv) (Pt:Addr) (Ca Cf Ch Ce Cg Ci Cd Cj Cb Ck Cc:Addr)
structure B0_(V:V_):Prop where
 ba:V.mg "len"=none
 b_set:V.mg "set"=none
 b_all:V.mg "all"=none
 bh:V.mg "range"=none
 b_any:V.mg "any"=none
 bq:V.mg "enumerate"=none
 bg:V.mg "sorted"=none
 bf:V.mg "isinstance"=none
 b_bool:V.mg "bool"=none
 bi:V.mg "list"=none
 b_tuple:V.mg "tuple"=none
 b_zip:V.mg "zip"=none
 br:V.mg "int"=none
 b_str:V.mg "str"=none
 bj:V.mg "max"=none
 bp:V.mg "min"=none
 b_ValueError:V.mg "ValueError"=none
 k_LEAF_KINDS:G8 ⟨V.K,V.P,V.w⟩ V.mg "LEAF_KINDS" oR
 k_TURNED_KINDS:G8 ⟨V.K,V.P,V.w⟩ V.mg "TURNED_KINDS" lK
abbrev Q_(V:V_)(k:Nat)(x:Str)(ps:Wj)(sp:vh):Prop:=G7 V.P V.w V.K V.mg V.base k x ps sp
def I_{a b:Expr}(I:QE X a ta)(J:QE X b tb)(U:rJ b:=by exactλ_ _=>rfl):QE X (.Subscript a b pos) (xu hU ta tb):=P1 (P2 X.K X.prog X.w) I J U
def jn{t:xg}(h:QE X e t)(s:starEach [e] X.env=[(false,eval e X.env)]:=by rfl):QA X [e] (qm t ji):=jo h v5 s
def xx{f:Expr}{t u:xg}(h:QE X e t)(g:QE X f u)(s:starEach [e,f] X.env=[(false,eval e X.env),(false,eval f X.env)]:=by rfl)(r:starEach [f] X.env=[(false,eval f X.env)]:=by rfl):QA X [e,f] (qm t<|qm u ji):=jo h (jn g r) (by show _=_;rw[s,r])
def aT{f d:Expr}{t u v:xg}(h:QE X e t)(g:QE X f u)(i:QE X d v)(s:starEach [e,f,d] X.env=[(false,eval e X.env),(false,eval f X.env),(false,eval d X.env)]:=by rfl)(r:starEach [f,d] X.env=[(false,eval f X.env),(false,eval d X.env)]:=by rfl)(q:starEach [d] X.env=[(false,eval d X.env)]:=by rfl):QA X [e,f,d] (qm t<|qm u<|qm v ji):=jo h (xx g i r q) (by show _=_;rw[s,r])
def E_{a b:Expr}(I:X.A.units+128<cLine)(J:QE X a ta)(U:QE X b tb):QT X (.Compare a [.Eq] [b] pos) (yB<|xu (b_ false) ta tb):=jk (cf X.K X.prog X.w I) J U<|jf _
def N_{a b:Expr}(I:X.A.units+128<cLine)(J:QE X a ta)(U:QE X b tb):QT X (.Compare a [.NotEq] [b] pos) (yB<|xu (b_ true) ta tb):=jk (P9 X.K X.prog X.w I) J U<|jf _
def S_(i:Nat)(hN:X.N.Nodup)(h:QE X e te)(I:X.N[i]?=some x:=by rfl)(g:Loc X.env.scope x:=by exact Or.inl rfl)(J:swapsWith e (some<|.Name x fy) pos.line X.env=pure false:=by rfl)(U:X.fn x=true\/X.env.scope.names.lookup x=some .local:=by first|exact .inl rfl|exact .inr rfl|assumption):QS X (.Assign [.Name x fy] e pos) (xz te<|qo i):=ao (i:=i) hN I g h J U
def G_(i:Nat)(hN:X.N.Nodup)(I:X.N[i]?=some x:=by rfl)(U:Loc X.env.scope x:=by exact Or.inl rfl)(J:X.fn x=true\/X.env.scope.names.lookup x=some .local:=by first|exact .inl rfl|exact .inr rfl|assumption):QG X (.Name x pos) (qo i):=gj (i:=i) hN I U J
def C_{tr:eB}{k:Nat}{sp:vh}(c:G7 X.prog X.w X.K X.mg X.base j x ps sp)(U:wz k X.A)(g:QA X (e::es) tr)(l:j<=k:=by first|decide|exact An _|exact AM (by decide)<|De _ _)(o:Gl X x:=by rfl)(I:Fe x:=by decide)(r:Fb e es X:=by rfl)(J:Fc pos es X:=by rfl):QE X (.Call (.Name x p) (e::es) [] pos) (jt sp tr):=Qf (Cal.mono c l) U o g I r J
def J_{n:Int}{k:Nat}{q:Pos}(i:Nat)(hN:X.N[i]?=some x:=by rfl)(I:y_ X.env.scope x:=by first|exact Or.inl rfl|exact Or.inr (Or.inl rfl)|exact Or.inr<|Or.inr rfl)(hd:Fe x:=by decide)(hc:Ff x:=by decide):QE X (.Subscript (.Name x p) (.Constant (.int n) k q) pos) (xu hU (qg i)<|yC<|.int n):=I_ (qv i hN I hd hc) qd λ_ _=>rfl
def L_{t:xg}(I:X.mg "len"=none)(h:QE X e t)(s:starEach [e] X.env=[(false,eval e X.env)]:=by rfl)(J:Gl X "len" := by rfl):QE X (.Call (.Name "len" p) [e] [] pos) (pQ vI<|qm t ji):=zm (P4 X.K X.prog X.w) J I Iz (jn h s) (hs:=s)
def j_{l:Wj}(h:decide l.Nodup=true:=by kernel_rfl):l.Nodup:=of_decide_eq_true h
abbrev FV(V:V_):=Q_ V 1 "is_leaf" ["word"]
abbrev Hd(V:V_):=Q_ V 122 "turned" ["word"]
abbrev Je(V:V_):=Q_ V 122 "word_at" ["knots","place"]
abbrev He(V:V_):=Q_ V 2 "holds_leaf" ["knot"]
abbrev Hf(V:V_):=Q_ V 2 "parts_of" ["knot"]
abbrev Jf(V:V_):=Q_ V 3 "parts_in" ["knots"]
abbrev Hg(V:V_):=Q_ V 1 "places_in" ["pairs"]
abbrev Hh(V:V_):=Q_ V 1 "each_once" ["places"]
abbrev Jg(V:V_):=Q_ V 3 "parts_fit" ["knots","place"]
abbrev Q2(V:V_):=Q_ V 4 "are_knots" ["knots"]
abbrev Jh(V:V_):=Q_ V 123 "is_link" ["knots","p","q"]
abbrev Q4(V:V_):=Q_ V 124 "are_links" ["knots","links"]
abbrev Ji(V:V_):=Q_ V 4 "can_be_cut" ["knots","place"]
abbrev Jj(V:V_):=Q_ V 123 "is_cut" ["knots","p","q"]
abbrev Q5(V:V_):=Q_ V 124 "are_cuts" ["knots","cuts"]
abbrev Q6(V:V_):=jZ V.P V.w V.K V.mg V.base 1 "demand" ["holds","words"]
abbrev Q7(V:V_):=jZ V.P V.w V.K V.mg V.base 125 "checked_web" ["web"]
abbrev Q8(V:V_):=Q_ V 1 "_law_cell_at" ["_law_script","_law_k"]
abbrev Q9(V:V_):=Q_ V 125 "_law_same" ["_law_found","_law_due"]
abbrev Hi(V:V_):=Q_ V 1 "_law_mix" ["_law_cell","_law_k","_law_factor"]
abbrev Jk(V:V_):=Q_ V 1 "_law_name" ["_law_seed","_law_which"]
abbrev Ra(V:V_):=Q_ V 121 "_law_word" ["_law_knots","_law_p"]
abbrev Jl(V:V_):=Q_ V 121 "_law_flip" ["_law_word_here"]
abbrev Rb(V:V_):=Q_ V 121 "_law_weight" ["_law_word_here"]
abbrev Rc(V:V_):=Q_ V 127 "_law_mirror" ["_law_knots","_law_word_here"]
abbrev Jm(V:V_):=Q_ V 1 "_law_join" ["_law_knots","_law_forest","_law_one","_law_two"]
abbrev asg(V:V_):=Q_ V 1 "_law_fold" ["_law_knots","_law_tree_here","_law_one","_law_two"]
abbrev Jn(V:V_):=Q_ V 128 "_law_cut" ["_law_knots","_law_forest","_law_one","_law_two"]
abbrev Jo(V:V_):=Q_ V 129 "_law_tree" ["_law_cells","_law_seed","_law_room"]
abbrev Jp(V:V_):=Q_ V 1 "_law_told" ["_law_rule"]
abbrev Jq(V:V_):=Q_ V 1 "_law_crossed" ["_law_knots","_law_links","_law_one","_law_two"]
abbrev Rf(V:V_):=Q_ V 1 "_law_beneath" ["_law_knots","_law_cuts"]
abbrev Jr(V:V_):=Q_ V 2 "_law_recast" ["_law_knots","_law_cuts","_law_seed","_law_most"]
abbrev Rg(V:V_):=Q_ V 2 "_law_order" ["_law_knots","_law_seed"]
abbrev Js(V:V_):=Q_ V 3 "_law_gapped" ["_law_knots","_law_links","_law_cuts","_law_seed","_law_gaps"]
abbrev Rh(V:V_):=Q_ V 130 "_law_web" ["_law_script","_law_seed","_law_room","_law_most"]
abbrev Hj(V:V_):=Q_ V 1 "_law_copy" ["_law_web_here"]
abbrev Jt(V:V_):=Q_ V 1 "_law_matched" ["_law_knots","_law_links","_law_at"]
abbrev Ju(V:V_):=Q_ V 2 "_law_bad_links" ["_law_web_here","_law_way","_law_one","_law_two"]
abbrev Jv(V:V_):=Q_ V 122 "_law_bad_leaf" ["_law_web_here","_law_way","_law_one","_law_two"]
abbrev Ri(V:V_):=Q_ V 123 "_law_spoilt" ["_law_web_here","_law_draw","_law_one","_law_two"]
abbrev Rj(V:V_):=Q_ V 126 "_law_refused" ["_law_web_here"]
abbrev FW(V:V_)(k:Nat)(N:Wj)(x:Str)(st:Stmt)(f:Addr)(t:bB):Prop:=∀(eW:Wr) (A:Around) (outer:List Env) (s:Ws) (H:Hp) (E:XK),wz k (A.deeper<|PyProof.Rows.envOfC x (qw st) s.heap.objs.size f eW)->N.Nodup->(A.deeper<|PyProof.Rows.envOfC x (qw st) s.heap.objs.size f eW).units+128<cLine->ue (fJ CX0 V.P V.w V.K V.mg V.base N x (qw st) f eW A outer s H E).nox (jv st) t
abbrev Gg(x:Str)(st:Stmt)(ps:Wj):Prop:=∀(kV hQ pm:Wr) (an:Option Addr) (eW ct:Wr) (us:Wg),us.length=ps.length->bindArgs (PySem.W.fnOf x x (kc st) (jv st) (qw st) .none kV hQ pm an eW ct) ⟨us,[]⟩=pure (ps.zip us)
abbrev RD(x:Str)(st:Stmt)(k:Nat)(N:Wj)(h:V_->Prop):=PSigma λt:bB=>∀V:V_,B0_ V->h V->∀f:Addr,FW V k N x st f t
abbrev RR(x:Str)(st:Stmt)(k:Nat)(ps N:Wj)(p:vh)(h:V_->Prop):=PSigma λt:bB=>∀V:V_,B0_ V->h V->∀(n:Nat) (f:Addr),Q_ V (n+k) x ps p->FW V (n+k) N x st f t
def m6(i:Nat)(hi:X.N.length=i:=by rfl)(hN:(X.N++[x]).Nodup:=by exact j_)(J:∀C fp s₀ H₀,Loc (X.comp scope [x] C fp s₀ H₀).env.scope x:=by exactλ_ _ _ _=>Or.inl rfl)(I:∀C fp s₀ H₀,(X.comp scope [x] C fp s₀ H₀).env.scope.names.lookup x=some .local:=by exactλ_ _ _ _=>rfl):Fl X scope [x] (.Name x p) (qo i):=hi▸gf hN J I
def Hk{y:Str}{I pt:Pos}(i:Nat)(hi:X.N.length=i:=by rfl)(hc:X.calm=true:=by rfl)(hN:(X.N++[x,y]).Nodup:=by exact j_)(U:∀C fp s₀ H₀,(X.comp scope [x,y] C fp s₀ H₀).env.scope.names.lookup x=some .local:=by exactλ_ _ _ _=>rfl)(J:∀C fp s₀ H₀,(X.comp scope [x,y] C fp s₀ H₀).env.scope.names.lookup y=some .local:=by exactλ_ _ _ _=>rfl)(h1:∀env,(assignEach [.Name x p,.Name y I] env).length=2:=by intro _;rfl)(h2:∀env,(assignEach [.Name x p,.Name y I] env).findIdx? (·.1)=none:=by intro _;rfl)(h3:∀env,(assignEach [.Name x p,.Name y I] env).map (·.2)=assign (.Name x p) env::(assignEach [.Name y I] env).map (·.2):=by intro _;rfl)(g:∀env,(assignEach [.Name y I] env).map (·.2)=assign (.Name y I) env::(assignEach [] env).map (·.2):=by intro _;rfl):Fl X scope [x,y] (.Tuple [.Name x p,.Name y I] kt pt) (fC 2<|jx (qo i)<|jx (qo<|i+1) cQ):=hi▸qQ hc hN U J h1 h2 h3 g
def vM:j9->Nat->j9
 |[],_=>[]
 |_::r,0=>none::r
 |o::r,i+1=>o::vM r i
theorem zH:∀(τ:j9) (i:Nat),vM τ i=τ.set i none
 |[],_=>rfl
 |_::_,0=>rfl
 |o::r,i+1=>by rw[vM,zH r i];rfl
def xb.clr{σ:L2.St}(h:xb G H σ τ)(i:Nat):xb G H (σ.set i none) (vM τ i):=by
 rw[zH];refine⟨by simpa using h.len,λj y e=>?_⟩;by_cases I:i=j
 ·subst I;rw[List.getElem?_set] at e;simp at e
 ·rw[A5 I] at e ⊢;exact h.get j y e
def Jw(i:Nat)(D:xn):xn where
 nx:=λτ L=>D.nx (vM τ i) L
 rt:=D.rt
 bk:=λτ L=>D.bk (vM τ i) L
 ct:=λτ L=>D.ct (vM τ i) L
def Rk(G:G3)(H:Hp)(E3:X3)(E1:X1):Prop:=∀hE C H' I L',zy H H'->xb G H' hE I->zr G H' L'->E3 I C L'->E1 hE (.ref C) H'
def Hl(G:G3)(t:X3->bB):X1->L2.TS:=λE1 D σ H=>∃τ L I E3,xb G H σ τ/\zr G H L/\t E3 I τ L/\vX G H I D/\Rk G H E3 E1
def QB(X:Cx)(body:Wl)(t:X3->bB):Prop:=∀(pn:List<|Addr×Obj) (xe:Wa) (E1:X1),bS (X.tr pn xe) E1->iW (X.tr pn xe) body (Hl X.g3 t E1)
def Jx(K:Af)(J:Addr)(i:Nat)(tb:X3->bB)(th:bB)(D:xn)(τ:j9)(L:qk):Prop:=
 tb (λI C L'=>PySem.W.exmOne K (.ref C) (.ref J)=some true/\∀a,L' a=none->th (Jw i D) (ak I i<|.ref a) (qi L' a<|.exc C)) D τ L
section
variable {tr:eB}{cp:Pos}
def Rl{k:Nat}{sp:lI}(c:jZ X.prog X.w X.K X.mg X.base k x ps sp)(hr:wz k X.A)(hg:Gl X x)(hx:X.ex=[])(ha:∀pn xe,QA (X.tr pn xe) (e::es) tr)(J:Fe x:=by decide)
 (he:Fb e es X:=by rfl) (U:Fc cp es X:=by rfl) (hs:swapsWith (.Call (.Name x p) (e::es) [] cp) none pos.line X.env=pure false:=by rfl):
 QB X [.Expr (.Call (.Name x p) (e::es) [] cp) pos] (λE3=>vi<|dH sp E3 tr):=by
 obtain⟨f,fd,F,b,kp,m⟩:=c.ex;intro pn xe E1 ht;refine iW.imp (yy<|yu (tK (X:=X.tr pn xe) F hr hg m kp b ht hx (ha pn xe) J he U) hs) λD σ H ⟨g,L,D3,E3,j,rl,z,k,kx⟩=>?_;exact⟨g,L,_,j,rl,z,λvs H1 ys L1 I l o z1=>⟨ys,L1,_,E3 g,o,l,z1,(λv H2 y L2 T r a1 z2=>k.nx _ H2 _ L2 (I.trans T) (j.ts<|I.trans T) r z2),λC H' L' t' t q=>kx σ C H' g L' (I.trans t') (j.ts<|I.trans t') t q⟩⟩
def Rm{Dc:Addr}{n:Str}{j:Pos}{I:Wl}{g:Stmt}{tb:X3->bB}{th:bB}(hs:X.stack=X.env::X.outer)(hf:X.env.frame=some X.env.locals)(hx:X.ex=[])(hN:X.N.Nodup)(hi:X.N[i]?=some n)
 (hk:X.env.scope.names.lookup n=some .local) (hg:Gl X x) (hm:X.mg x=some (.ref Dc)) (hb:QB X body tb) (hh:∀a,ue (X.hnd a) (g::I) th)
 (a1:Fe x:=by decide):QS X (.Try body [.ExceptHandler (some<|.Name x np) (some n) (g::I) j] [] [] pos) (Jx X.K Dc i tb th):=
 PS.imp (Ps (tb:=Hl X.g3 tb) (th:=Fj X.g3 th) hs hf hx hN hi hk hg hm hb hh a1) λD σ H ⟨τ,L,D3,rs,rl,z,k⟩=>by
 show Hl X.g3 tb (F8 X.K Dc i (Fj X.g3 th) D) D σ H;refine⟨τ,L,D3,_,rs,rl,z,k,λa4 C H' a2 L' t' a3 l ⟨em,q⟩=>⟨C,rfl,em,λa oe ha hc=>?_⟩⟩;have ta:zy H' (upd H' a<|.frz oe<|.own 0):=ET ha;refine⟨ak a2 i<|.ref a,qi L' a<|.exc C,Jw i D3,by rw[wc];exact(a3.ts ta).set rfl,λb u e=>?_,q a<|l.none ha,?_⟩
 ·by_cases c:b=a
  ·subst c;rw[q9] at e;cases e;exact⟨oe,zu,hc⟩
  ·rw[qc c] at e;exact(l b u e).keep ta (qp c)
 ·have k2:=k.ts<|t'.trans ta;exact⟨λo p r L2 t J U T=>k2.nx _ p _ L2 t (J.clr i) U T,k2.rt,λo p r L2 t J U T=>k2.bk _ p _ L2 t (J.clr i) U T,λo p r L2 t J U T=>k2.ct _ p _ L2 t (J.clr i) U T⟩
end
@[irreducible] def abd (L:qk) (a:Addr) (k:Addr->Prop):Prop:=match L a with
 |some (.exc C)=>k C
 |_=>False
def rO{a:Addr}{k:Addr->Prop}(e:L a=some (.exc C))(h:k C):abd L a k:=by unfold abd;rw[e];exact h
def uf{a:Addr}{k:Addr->Prop}(h:abd L a k):∃C,L a=some (.exc C)/\k C:=by
 unfold abd at h;split at h
 ·rename_i C e;exact⟨C,e,h⟩
 ·exact h.elim
def wK(K:Af)(u:Wr)(te:xg)(τ:j9)(L:qk)(Q:YK):Prop:=te τ L λx L1=>match x with
 |.ref a=>abd L1 a λC=>v_ K C/\∃b,PySem.W.kitOne K (.ref C) u=some b/\Q (.bl b) L1
 |_=>False
def xZ(K:Af)(us:Wg)(te:xg)(τ:j9)(L:qk)(Q:YK):Prop:=te τ L λx L1=>match x with
 |.ref a=>abd L1 a λC=>v_ K C/\∃b,PySem.W.kitAny K (.ref C) us=some b/\Q (.bl b) L1
 |_=>False
def Gh(X:Cx)(es:Wk)(vs:Wx):Prop:=PA X es λ_ H Q=>Q vs H
section
variable {a:Expr}{pt:Pos}{vs:Wx}
def Rn:Gh X [] []:=bx
def aD(h:PE X e<|tC v)(t:Gh X es vs)(hs:Fb e es X:=by rfl):Gh X (e::es) (v::vs):=PA.imp (vm h t hs) λ_ _ _ q=>q
def cG(I:Gl X x)(J:X.mg x=some (.ref C))(hd:Fe x:=by decide):PE X (.Name x p) (tC<|.ref C):=Ix I J hd
def sS(j:Gl X "isinstance")(l:X.mg "isinstance"=none)(o:QE X a ta)(hc:PE X c<|tC v)(r:D' v=some u)
 (hs:starEach [a,c] X.env=(false,eval a X.env)::starEach [c] X.env:=by rfl) (J:starEach [c] X.env=(false,eval c X.env)::starEach [] X.env:=by rfl) (t:(backTo pos<|starEach [c] X.env).any (·.1)=false:=by rfl):
 QE X (.Call (.Name "isinstance" p) [a,c] [] pos) (wK X.K u ta):=by
 refine E4 (eJ oA j l aW (vm o (vm hc bx J) hs) (by decide) (by decide) hs t) ?_;rintro σ H Q ⟨T,L,Q3,rs,rl,z,k⟩;refine⟨T,L,_,rs,rl,z,λw H1 y L1 t1 I U g=>?_⟩;cases y with
 |ref b=>
  obtain⟨C,e,hd,bb,kk,q⟩:=uf g;cases U;exact⟨b,C,v,rfl,I b _ e,hd,.inl ⟨u,bb,r,kk,k _ H1 _ L1 t1 I (by rfl) q⟩⟩
 |_=>exact g.elim
def Ro(t:Gl X "isinstance")(T:X.mg "isinstance"=none)(ha:QE X a ta)(hc:Gh X es vs)(hv:vs.map D'=us.map some)(hl:vs.length<=1000)
 (hs:starEach [a,.Tuple es kt pt] X.env=(false,eval a X.env)::starEach [.Tuple es kt pt] X.env:=by rfl) (J:starEach [.Tuple es kt pt] X.env=(false,eval (.Tuple es kt pt) X.env)::starEach [] X.env:=by rfl) (hp:(backTo pos<|starEach [.Tuple es kt pt] X.env).any (·.1)=false:=by rfl):
 QE X (.Call (.Name "isinstance" p) [a,.Tuple es kt pt] [] pos) (xZ X.K us ta):=by
 refine E4 (eJ oA t T aW (vm ha (vm (vV hc) bx J) hs) (by decide) (by decide) hs hp) ?_;rintro σ H Q ⟨τ,L,Q3,rs,rl,z,k⟩;refine⟨τ,L,_,rs,rl,z,λw U y L1 t1 I g l=>⟨cz hl,λq o=>?_⟩⟩;cases y with
 |ref b=>
  obtain⟨C,e,hd,bb,kk,z2⟩:=uf l;cases g;have r:zy U (upd U q<|.tup vs):=ET o;obtain⟨oe,ho,j⟩:=(I b _ e:GW X.K U b C);refine⟨b,C,.ref q,rfl,⟨oe,r _ _ rfl ho,j⟩,hd,.inr ⟨q,vs,us,bb,rfl,.inl<|.inl zu,hv,kk,k _ _ _ L1 (t1.trans r) (I.skip o) (by rfl) z2⟩⟩
 |_=>exact l.elim
end
def Hm:X3:=λ_ _ _=>False
def Jy :bS X (Fp X.g3 Hm):=λ_ _ _ _ _ _ _ _ _ _ _ ⟨_,_,_,_,_,_,z⟩=>z.elim
def og:bootBuiltins "ValueError"=some (.type "ValueError"):=by decide +kernel
open PySem L2 PySem.W
def wS{K:Frag}(q:excIn K C [.type "ValueError",.type "Exception",.type "BaseException",.type "object"] "ValueError.__new__"=true):FF K C:=Pl q DS (by decide +kernel) DS
section
variable {K:Frag}{D:Addr}{t c:Wr}{b:Bool}
def kit_own{cd:ClassData}(ne:(Value.ref C==Value.ref D)=false)(h1:clsIn K D=some cd)(h2:typeIn K (.ref D)=some (.type "type"))(h3:subIn K (.ref C) (.ref D)=some b):kitOne K (.ref C) (.ref D)=some b:=by unfold kitOne;rw[AB (by rw[ne];exact AG)];unfold kitCls;simp only[h1,h2,DQ,beq_self_eq_true,Bool.and_self,if_true];exact h3
def kit_blt{T:Ww}(I:kitMeta T=true)(h3:subIn K (.ref C) (.type T)=some b):kitOne K (.ref C) (.type T)=some b:=by unfold kitOne;rw[AB (by intro q;cases beq_iff_eq.mp q)];unfold kitCls;simp only[I,if_true];exact h3
def kitAny_no{r:Wg}(h:kitOne K t c=some false)(k:kitAny K t r=some b):kitAny K t (c::r)=some b:=by unfold kitAny;rw[h];exact k
def exm_own{cd:ClassData}(h0:subIn K (.ref D) (.type "BaseException")=some true)(h1:clsIn K D=some cd)(h2:typeIn K (.ref D)=some (.type "type"))(h3:subIn K (.ref C) (.ref D)=some b):exmOne K (.ref C) (.ref D)=some b:=by unfold exmOne;rw[AD (by rw[h0];rfl)];unfold kitCls;simp only[h1,h2,DQ,beq_self_eq_true,Bool.and_self,if_true];exact h3
def xhd_of{cd:ClassData}(ga:findIn K (.ref C) "__getattribute__"=some (some<|.builtin "BaseException.__getattribute__"))(gt:findIn K (.ref C) "__getattr__"=some none)(cl:findIn K (.ref C) "__class__"=some (some<|.builtin "object.__class__"))
 (ge:specialIn K (.builtin "object.__class__") "__get__"=some (some<|.builtin "getset_descriptor.__get__")) (tk:takesIn K (.builtin "object.__class__")=some true) (mo:mroIn K C (.type "object")=some true) (be:subIn K (.ref C) (.type "BaseException")=some true) (h:clsIn K C=some cd):v_ K C:=
 ⟨⟨ga,gt,cl,ge,tk,mo,be⟩,by rw[h];rfl⟩
end
end L3
namespace L2
open PySem PySem.Spec PyProof.Rows
def PCh(X:Cx)(ops:List CmpOp)(es:Wk)(t:V->TE):Prop:=∀(pos:Pos) (pins:List<|Addr×Obj) (s:Ws) (σ:St) (H:Hp) (x:V) (v:Wr) (Q:VK),qt X pins σ H s->zq x v->t x σ H Q->wpAny (model X.prog X.w) X.A (compareChain pos v ops<|evalEach es X.env) (EP X pins σ Q) X.xe s
def io(X:Cx)(ops:List CmpOp)(es:Wk)(t:V->TE):Prop:=∀(pos:Pos) (pins:List<|Addr×Obj) (s:Ws) (σ:St) (H:Hp) (x:V) (v:Wr) (Q:Bool->Hp->Prop),qt X pins σ H s->zq x v->(t x σ H λz H'=>∃k,z=.bl k/\Q k H')->wpAny (model X.prog X.w) X.A (testChain pos v ops<|evalEach es X.env) (TP X pins σ Q) X.xe s
def Ho(r:R2)(tb:TE):V->TE:=λx σ H Q=>tb σ H λy H1=>r x y H1 Q
def Hq(r:R2)(tb:TE)(u:V->TE):V->TE:=λx σ H Q=>tb σ H λy H1=>r x y H1 λz H2=>∃k,z=.bl k/\(if k=true then u y σ H2 Q else Q (.bl false) H2)
section
variable {a b:Expr}{ta tb:TE}{op ml:CmpOp}{ops:List CmpOp}{r:R2}{u:V->TE}
def Rp(g:wb X (compareOp op) r)(j:PE X b tb):PCh X [op] [b] (Ho r tb):=by intro pos J s U H x v Q I l h;exact chain_last<|wr (j J s U H _ I h) λo p ⟨y,t,C,T,q1⟩=>g J p U t x y v o Q C l T q1
def Rq(t:wb X (compareOp op) r)(C:PE X b tb)(T:PCh X (ml::ops) (c::es) u):PCh X (op::ml::ops) (b::c::es) (Hq r tb u):=by intro pos J s U H x v Q I rx h;refine chain_link<|wr (C J s U H _ I h) λg s1 ⟨y,H1,I1,j,q1⟩=>wr (t J s1 U H1 x y v g _ I1 rx j q1) λd s2 ⟨z,l,o,r2,k,e,p⟩=>?_;subst e;cases r2;refine wpAny_truthy_bool ?_;cases k with|false=>exact ite_ff ⟨.bl false,l,o,rfl,p⟩|true=>exact ite_tt<|T pos J s2 U l y g Q o j p
def Rr(U:PE X a ta)(h:PCh X (op::ml::ops) (b::c::es) u)(g:lastMarks (op::ml::ops) (b::c::es)=false):PE X (.Compare a (op::ml::ops) (b::c::es) pos) (λσ H Q=>ta σ H λx H1=>u x σ H1 Q):=by intro J s σ H Q I j;exact Compare_chain (wr (U J s σ H _ I j) λv l ⟨x,H1,o,p,r⟩=>h pos J l σ H1 x v Q o p r) g
def Rs(g:wb X (compareOp op) r)(j:PE X b tb):io X [op] [b] (Ho r tb):=by intro pos J s U H x v Q I l h;refine test_last<|wr (j J s U H _ I h) λo p ⟨y,t,C,T,q1⟩=>wr (g J p U t x y v o _ C l T q1) λd s2 ⟨z,H2,I2,r2,k,e,q2⟩=>?_;subst e;cases r2;exact wpAny_truthy_bool ⟨H2,I2,q2⟩
def Rt(t:wb X (compareOp op) r)(C:PE X b tb)(T:io X (ml::ops) (c::es) u):io X (op::ml::ops) (b::c::es) (Hq r tb u):=by
 intro pos J s U H x v Q I rx h;refine test_link<|wr (C J s U H _ I h) λg s1 ⟨y,H1,I1,j,q1⟩=>wr (t J s1 U H1 x y v g _ I1 rx j q1) λd s2 ⟨z,l,o,r2,k,e,p⟩=>?_;subst e;cases r2;refine wpAny_truthy_bool ?_;cases k with
 |false=>
  obtain⟨k',e',q'⟩:=p;cases e';exact ite_ff ⟨l,o,q'⟩
 |true=>exact ite_tt<|T pos J s2 U l y g Q o j p
def Rv(U:PE X a ta)(h:io X (op::ml::ops) (b::c::es) u)(g:lastMarks (op::ml::ops) (b::c::es)=false):PT X (.Compare a (op::ml::ops) (b::c::es) pos) (GJ λσ H Q=>ta σ H λx H1=>u x σ H1 Q):=by intro J s σ H Q I j;exact isTrue_chain (wr (U J s σ H _ I j) λv l ⟨x,H1,o,p,r⟩=>h pos J l σ H1 x v Q o p r) g
end
end L2
namespace L3
open PySem L2
def vR(ta:xg)(u:Y->xg)(τ:j9)(L:qk)(Q:YK):Prop:=ta τ L λx L1=>u x τ L1 Q
def Hr(r:oQ)(tb:xg)(x:Y)(τ:j9)(L:qk)(Q:YK):Prop:=tb τ L λy L1=>r x y L1 Q
def Hs(r:oQ)(tb:xg)(u:Y->xg)(x:Y)(τ:j9)(L:qk)(Q:YK):Prop:=tb τ L λy L1=>r x y L1 λz L2=>match z with
 |.bl k=>wf k (u y τ L2 Q)<|Q (.bl false) L2
 |_=>False
def d_(G:G3)(u:Y->xg):V->TE:=λx σ H Q=>∃y τ L I,RV G H y x/\xb G H σ τ/\zr G H L/\u y τ L I/\sK G H I Q
def PCh.imp{ops:List CmpOp}{t u:V->TE}(h:PCh X ops es t)(q:∀x σ H Q,u x σ H Q->t x σ H Q):PCh X ops es u:=λpos J s σ H x v Q I r z=>h pos J s σ H x v Q I r<|q _ _ _ _ z
def io.imp{ops:List CmpOp}{t u:V->TE}(h:io X ops es t)(q:∀x σ H Q,u x σ H Q->t x σ H Q):io X ops es u:=λpos J s σ H x v Q I r z=>h pos J s σ H x v Q I r<|q _ _ _ _ z
def yU{r:oQ}(x:V)(σ:L2.St)(H:Hp)(Q:VK):d_ G (Hr r tb) x σ H Q->Ho (gB G r) (rM G tb) x σ H Q:=λ⟨y,g,L,j,l,o,p,z,k⟩=>
 ⟨g,L,_,o,p,z,λv H1 t C U I J T=>⟨y,t,C,j,l.ts U,J,I,T,k.ts U⟩⟩
def zB{r:oQ}{u:Y->xg}(x:V)(σ:L2.St)(H:Hp)(Q:VK):d_ G (Hs r tb u) x σ H Q->Hq (gB G r) (rM G tb) (d_ G u) x σ H Q:=λ⟨y,j,L,l,rv,T,rl,z,k⟩=>
 ⟨j,L,_,T,rl,z,λv H1 o L1 U p I z1=>⟨y,o,L1,_,rv.ts U,I,p,z1,λv2 H2 y2 L2 g J t z2=>by
  cases y2 with
  |bl C=>
   refine⟨C,t,?_⟩;have z3:wf C (u o j L2 l) (l (.bl false) L2):=z2;cases C with|true=>rw[AD rfl];exact⟨o,j,L2,l,I.ts g,T.ts<|U.trans g,J,z3,k.ts<|U.trans g⟩|false=>rw[AB AG];exact k _ H2 _ L2 (U.trans g) J (by rfl) z3
  |_=>exact z2.elim⟩⟩
section
variable {a b:Expr}{op ml:CmpOp}{ops:List CmpOp}{r:oQ}{u:Y->xg}
def tH(I:wb X (compareOp op)<|gB X.g3 r)(J:QE X b tb):PCh X [op] [b] (d_ X.g3<|Hr r tb):=PCh.imp (Rp I J) yU
def tj(I:wb X (compareOp op)<|gB X.g3 r)(J:QE X b tb)(U:PCh X (ml::ops) (c::es)<|d_ X.g3 u):PCh X (op::ml::ops) (b::c::es) (d_ X.g3<|Hs r tb u):=PCh.imp (Rq I J U) zB
def Rw(I:wb X (compareOp op)<|gB X.g3 r)(J:QE X b tb):io X [op] [b] (d_ X.g3<|Hr r tb):=io.imp (Rs I J) yU
def pJ(I:wb X (compareOp op)<|gB X.g3 r)(J:QE X b tb)(U:io X (ml::ops) (c::es)<|d_ X.g3 u):io X (op::ml::ops) (b::c::es) (d_ X.g3<|Hs r tb u):=io.imp (Rt I J U) zB
def u4(σ:L2.St)(H:Hp)(Q:VK):rM G (vR ta u) σ H Q->(λσ H Q=>rM G ta σ H λx H1=>d_ G u x σ H1 Q) σ H Q:=λ⟨U,L,l,g,o,z,k⟩=>
 ⟨U,L,_,g,o,z,λv H1 y p j I J r=>⟨y,U,p,l,J,g.ts j,I,r,k.ts j⟩⟩
def uw(I:QE X a ta)(h:PCh X (op::ml::ops) (b::c::es)<|d_ X.g3 u)(J:lastMarks (op::ml::ops) (b::c::es)=false:=by with_unfolding_all rfl):QE X (.Compare a (op::ml::ops) (b::c::es) pos) (vR ta u):=E4 (Rr I h J) u4
def Rx(J:QE X a ta)(h:io X (op::ml::ops) (b::c::es)<|d_ X.g3 u)(U:lastMarks (op::ml::ops) (b::c::es)=false:=by with_unfolding_all rfl):QT X (.Compare a (op::ml::ops) (b::c::es) pos) (yB<|vR ta u):=
 PT.imp (Rv J h U) λI H Q q=>u4 I H _<|G5 I H Q q
end
end L3
namespace L2
open PySem PySem.Spec PyProof.Rows
theorem re:∀{bs:List Bool} {us:Wg},zf (bs.map V.bl) us->us=bs.map Value.bool
 |[],_,.nil=>rfl
 |b::bs,_,.cons r t=>by cases (show _=Value.bool b from r);rw[re t];rfl
def Ry(hc:X.calm=true:=by rfl):ja X (.builtin "all") (λxs H Q=>∃(a:Addr) (bs:List Bool),xs=[.ref a]/\aF X.K H a (bs.map V.bl)/\Q (.bl<|bs.all id) H):=by
 rintro l s σ H xs us Q I r⟨a,bs,rfl,sq,q⟩;obtain⟨u,rfl,o⟩:=qD r;cases o;obtain⟨p,t,C,_⟩:=I.list sq;cases re t;have g:=x8 C;have j:a<s.heap.objs.size:=by obtain⟨_,e,_⟩:=g;exact xT e
 refine j5 I.tk<|call_all_walk<|wpAny_pyIter_list g ?_;refine⟨s.heap.objs.size,[s.heap.objs.size,a],[s.heap.objs.size],(bs.map Value.bool).toArray.size,_,_,λi=>(bs[i]?).getD true,rfl,Walks.list (A:=X.A.in1) (I.ok.hd hc) _ a (A3 j) (bs.map Value.bool).toArray,
  ⟨⟨_,ya _ rfl,rfl,rfl⟩,g.push _⟩,λi v T Q' E' J U=>?_,λh' tk hk ht=>?_⟩
 ·have J:(bs.map Value.bool).toArray[i]?=some v:=J;rw[List.getElem?_toArray,Al] at J;obtain⟨b,e,rfl⟩:=Aq.mp J;have U:Q' ((bs[i]?).getD true) T:=U;rw[e] at U;exact wpAny_truthy_bool U
 ·have e:((List.range (bs.map Value.bool).toArray.size).all λi=>(bs[i]?).getD true)=bs.all id:=by rw[Ap,Ae];exact PyProof.Rows.LSm.range_all bs
  rw[e];exact⟨.bl _,H,I.kept (h':=h') (t':=tk)<|DU hk,rfl,q⟩
def Rz(hc:X.calm=true:=by rfl):ja X (.builtin "any") (λxs H Q=>∃(a:Addr) (bs:List Bool),xs=[.ref a]/\aF X.K H a (bs.map V.bl)/\Q (.bl<|bs.any id) H):=by
 rintro l s σ H xs us Q I r⟨a,bs,rfl,sq,q⟩;obtain⟨u,rfl,o⟩:=qD r;cases o;obtain⟨p,t,C,_⟩:=I.list sq;cases re t;have g:=x8 C;have j:a<s.heap.objs.size:=by obtain⟨_,e,_⟩:=g;exact xT e
 refine j5 I.tk<|call_any_walk<|wpAny_pyIter_list g ?_;refine⟨s.heap.objs.size,[s.heap.objs.size,a],[s.heap.objs.size],(bs.map Value.bool).toArray.size,_,_,λi=>(bs[i]?).getD false,rfl,Walks.list (A:=X.A.in1) (I.ok.hd hc) _ a (A3 j) (bs.map Value.bool).toArray,
  ⟨⟨_,ya _ rfl,rfl,rfl⟩,g.push _⟩,λi v T Q' E' J U=>?_,λh' tk hk ht=>?_⟩
 ·have J:(bs.map Value.bool).toArray[i]?=some v:=J;rw[List.getElem?_toArray,Al] at J;obtain⟨b,e,rfl⟩:=Aq.mp J;have U:Q' ((bs[i]?).getD false) T:=U;rw[e] at U;exact wpAny_truthy_bool U
 ·have e:((List.range (bs.map Value.bool).toArray.size).any λi=>(bs[i]?).getD false)=bs.any id:=by rw[Ap,Ae];exact PyProof.Rows.LSm.range_any bs
  rw[e];exact⟨.bl _,H,I.kept (h':=h') (t':=tk)<|DU hk,rfl,q⟩
end L2
namespace L3
open PySem L2
def xO:List Y->Option (List Bool)
 |[]=>some []
 |.bl b::r=>(xO r).map (b::·)
 |_::_=>none
def fG(bs:List Bool):xO (bs.map Y.bl)=some bs:=by induction bs with|nil=>rfl|cons b r I=>show(xO<|r.map Y.bl).map (b::·)=_;rw[I];rfl
theorem m8{G:G3}{H:Hp}:∀{ys:List Y} {xs:Wx} {bs:List Bool},xO ys=some bs->xm G H ys xs->xs=bs.map V.bl
 |[],_,_,h,r=>by cases h;exact r
 |y::ys,_,bs,h,⟨x,I,e,J,U⟩=>by
  cases y with
  |bl b=>
   have g:(xO ys).map (b::·)=some bs:=h;obtain⟨l,j,rfl⟩:=Aq.mp g;cases (show x=V.bl b from J);rw[e,m8 j U];rfl
  |_=>cases h
def Jz(xs:List Y)(L:qk)(Q:YK):Prop:=match xs with
 |[y]=>zD y=true/\iL L y λys=>xA L (λbs L=>Q (.bl<|List.all bs id) L)<|xO ys
 |_=>False
def JA(xs:List Y)(L:qk)(Q:YK):Prop:=match xs with
 |[y]=>zD y=true/\iL L y λys=>xA L (λbs L=>Q (.bl<|List.any bs id) L)<|xO ys
 |_=>False
def yA(hc:X.calm=true:=by rfl):ja X (.builtin "all") (c_ X.g3 Jz):=E9 (Ry hc) λj H Q l L o J I z k=>by
 unfold Jz at z;split at z
 ·rename_i y;obtain⟨x,rfl,r⟩:=J.inv1;obtain⟨U,z⟩:=z;obtain⟨p,g,z⟩:=wm z;obtain⟨bs,eb,z⟩:=gr z;obtain⟨a,t,rfl,sq,rr⟩:=jK I r U g;cases m8 eb rr;exact⟨a,bs,rfl,sq,k _ H _ L (ES _) I (by rfl) z⟩
 ·exact z.elim
def RA(hc:X.calm=true:=by rfl):ja X (.builtin "any") (c_ X.g3 JA):=E9 (Rz hc) λj H Q l L o J I z k=>by
 unfold JA at z;split at z
 ·rename_i y;obtain⟨x,rfl,r⟩:=J.inv1;obtain⟨U,z⟩:=z;obtain⟨p,g,z⟩:=wm z;obtain⟨bs,eb,z⟩:=gr z;obtain⟨a,t,rfl,sq,rr⟩:=jK I r U g;cases m8 eb rr;exact⟨a,bs,rfl,sq,k _ H _ L (ES _) I (by rfl) z⟩
 ·exact z.elim
def rR:bootBuiltins "all"=some (.builtin "all"):=by decide +kernel
def amp:bootBuiltins "any"=some (.builtin "any"):=by decide +kernel
def Ht:Y->Option jh
 |.int i=>some<|.inl i
 |.str x=>some<|.inr x
 |_=>none
def sm{k:jh}(h:Ht y=some k)(r:RV G H y v):v=kV k:=by cases y with|int i=>cases h;exact r|str x=>cases h;exact r|_=>cases h
def ou(kvs:List<|jh×Y)(k:jh)(y:Y):List (jh×Y):=
 if (kvs.any λI=>decide<|I.1=k)=true then kvs.map (λI=>if I.1=k then(I.1,y) else I) else kvs++[(k,y)]
def zy.dct{p:Addr}{zs:List<|jh×V}{o:HO}(h:H p=some (.dK zs)):zy H (upd H p o):=λa u i q=>by rw[qp ?_];exact q;rintro rfl;rw[h] at q;cases q;cases i
def RB{kvs:List<|jh×Y}{xs:List<|jh×V}(p:Paired (λ(p:jh×Y) (q:jh×V)=>p.1=q.1/\RV G H p.2 q.2) kvs xs)(k:jh):(kvs.any λI=>decide<|I.1=k)=xs.any λI=>decide (I.1=k):=by induction p with|nil=>rfl|cons r t J=>rw[CA,CA,J,r.1]
def RC{kvs:List<|jh×Y}{xs:List<|jh×V}(p:Paired (λ(p:jh×Y) (q:jh×V)=>p.1=q.1/\RV G H p.2 q.2) kvs xs)(k:jh)(r:RV G H y v):
 Paired (λ(p:jh×Y) (q:jh×V)=>p.1=q.1/\RV G H p.2 q.2) (kvs.map λI=>if I.1=k then(I.1,y) else I) (xs.map λI=>if I.1=k then(I.1,v) else I):=by
 induction p with
 |nil=>exact .nil
 |@cons a b _ _ J t U=>
  refine .cons ?_ U;obtain⟨e,q⟩:=J;dsimp only;by_cases c:a.1=k
  ·rw[AD c,AD<|e▸c];exact⟨e,r⟩
  ·rw[AB c,AB λz=>c<|e.trans z];exact⟨e,q⟩
def RE{kvs:List<|jh×Y}{xs:List<|jh×V}(p:Paired (λ(p:jh×Y) (q:jh×V)=>p.1=q.1/\RV G H p.2 q.2) kvs xs)(k:jh)(r:RV G H y v):
 Paired (λ(p:jh×Y) (q:jh×V)=>p.1=q.1/\RV G H p.2 q.2) (kvs++[(k,y)]) (xs++[(k,v)]):=by
 induction p with|nil=>exact .cons ⟨rfl,r⟩ .nil|cons I t J=>exact .cons I J
def RF{kvs:List<|jh×Y}{xs:List<|jh×V}(p:Paired (λ(p:jh×Y) (q:jh×V)=>p.1=q.1/\RV G H p.2 q.2) kvs xs)(k:jh)(r:RV G H y v):
 Paired (λ(p:jh×Y) (q:jh×V)=>p.1=q.1/\RV G H p.2 q.2) (ou kvs k y) (fF xs k v):=by
 unfold ou fF;rw[RB p k];by_cases c:(xs.any λI=>decide<|I.1=k)=true
 ·rw[AD c,AD c];exact RC p k r
 ·rw[AB c,AB c];exact RE p k r
def RG{R:α->β->Prop}{l:List α}{m:List β}(p:Paired R l m):l.length=m.length:=by induction p with|nil=>rfl|cons _ _ I=>rw[AL,AL,I]
def JB(_:j9)(L:qk)(Q:YK):Prop:=∀p,L p=none->Q (.ref p) (qi L p<|.dct [])
def iG(td ti:xg)(τ:j9)(L:qk)(Q:YK):Prop:=td τ L λx L1=>ti τ L1 λy L2=>match x,Ht y with
 |.ref a,some k=>wI L2 a λkvs=>xA L2 Q<|a6 kvs k
 |_,_=>False
def JC(td ti tv:xg)(D:xn)(τ:j9)(L:qk):Prop:=tv τ L λv L1=>td τ L1 λx L2=>ti τ L2 λy L3=>match x,Ht y with
 |.ref a,some k=>wI L3 a λkvs=>kvs.length<sizeLine/\D.nx τ (qi L3 a<|.dct<|ou kvs k v)
 |_,_=>False
section
variable {i:Expr}{td tv:xg}
def RH:QE X (.Dict [] [] pos) JB:=EU Oe λU H Q g L j l J z k=>λp I=>by
 refine k _ _ _ (qi L p<|.dct []) (ET I) (λa u e=>?_) (by rfl)<|z p<|J.none I;by_cases c:a=p
 ·subst c;rw[q9] at e;cases e;exact⟨[],zu,.nil⟩
 ·rw[qc c] at e;exact(J a u e).keep (ET I) (qp c)
def bW(hu:X.A.units+128<cLine)(t:QE X o td)(hi:QE X i ti)(hs:GO i):QE X (.Subscript o i pos) (iG td ti):=EU (Oa (by omega) t hi hs) λσ H Q l L Q3 p C z k=>
 ⟨l,L,_,p,C,z,λv H1 x T r J U z1=>⟨l,T,_,p.ts r,J,z1,λw H2 y L2 t2 I g j=>by
  split at j
  ·rename_i a kk ek;obtain⟨a1,e,z3⟩:=oN j;obtain⟨yv,ev,q⟩:=gr z3;obtain⟨xs,e2,pr⟩:=I a _ e;obtain⟨xv,ex,rx⟩:=qC pr ev;exact⟨a,xv,U,.inl ⟨xs,kk,.inl e2,sm ek g,ex.symm⟩,k _ H2 _ L2 (r.trans t2) I rx q⟩
  ·exact j.elim⟩⟩
theorem RI(hu:X.A.units+128<cLine)(ho:QE X o td)(hi:QE X i ti)(hv:QE X value tv)(hs:swapsWith value (some<|.Subscript o i fy) pos.line X.env=pure false:=by rfl):QS X (.Assign [.Subscript o i fy] value pos) (JC td ti tv):=
 EW (Oc (by omega) ho hi hv hs) λD σ H l L D3 J rl z k=>
 ⟨l,L,_,J,rl,z,λv H1 vy L1 U p r z1=>⟨l,L1,_,J.ts U,p,z1,λx H2 xy L2 g t C z2=>⟨l,L2,_,J.ts<|U.trans g,t,z2,λw H3 y L3 T I a1 z3=>by
  split at z3
  ·rename_i a kk ek;obtain⟨a2,e,hl,q⟩:=oN z3;obtain⟨xs,e2,pr⟩:=I a _ e;have j:zy H3 (upd H3 a<|.dK<|fF xs kk v):=zy.dct e2;cases (show x=V.ref a from C);refine⟨a,_,rfl,.inl ⟨xs,kk,e2,sm ek a1,by rw[<-RG pr];exact hl,rfl⟩,?_⟩;refine k.nx _ _ _ _ (((U.trans g).trans T).trans j) (J.ts<|((U.trans g).trans T).trans j) (λb u eb=>?_) q;by_cases c:b=a
   ·subst c;rw[q9] at eb;cases eb;exact⟨_,zu,EY (RF pr kk<|r.ts<|g.trans T) λ_ _ ⟨h1,h2⟩=>⟨h1,h2.ts j⟩⟩
   ·rw[qc c] at eb;exact(I b u eb).keep j (qp c)
  ·exact z3.elim⟩⟩⟩
end
def uR(to ti tv:xg)(D:xn)(τ:j9)(L:qk):Prop:=tv τ L λv L1=>to τ L1 λx L2=>ti τ L2 λy L3=>match x,y with
 |.ref a,.int i=>cB L3 a λys=>xA L3 (λj L=>D.nx τ<|qi L a<|.lst<|ys.set j v)<|sO ys.length i
 |_,_=>False
section
variable {i:Expr}{tv:xg}
theorem iM(ho:QE X o to)(hi:QE X i ti)(hv:QE X value tv)
 (ha:∀v,assign (.Subscript o i fy) X.env v=(do
  let J <-holding [v] (eval o X.env)
  let p <-holding [v,J] (eval i X.env)
  standAt fy
  holding [v,J,p] (setItem J p v)
  release [v,J,p] []):=by intro _;rfl)
 (h1:swapsWithSole [.Subscript o i fy] value pos.line X.env=pure false:=by rfl) (h2:swappedStores [.Subscript o i fy] value X.env=pure none:=by rfl)
 (h3:(assignEach [.Subscript o i fy] X.env).map (·.2)=[assign (.Subscript o i fy) X.env]:=by rfl):QS X (.Assign [.Subscript o i fy] value pos) (uR to ti tv):=
 EW (HW hv (HV ho hi uh ha) h1 h2 h3) λD σ H t L D3 U rl z k=>
 ⟨t,L,_,U,rl,z,λv H1 vy L1 g C T z1=>⟨t,L1,_,U.ts g,C,z1,λx H2 xy L2 l a1 a2 z2=>⟨t,L2,_,U.ts<|g.trans l,a1,z2,λw H3 y L3 t3 I a3 z3=>by
  split at z3
  ·rename_i a ii;obtain⟨ys,e,z4⟩:=jy z3;obtain⟨j,ej,q⟩:=gr z4;obtain⟨xs,e2,r⟩:=I a _ e;cases (show x=V.ref a from a2);cases (show w=V.int ii from a3);have tt:zy H3 (upd H3 a<|.lst<|xs.set j v):=EZ e2;exact⟨a,xs,ii,j,rfl,rfl,e2,by rw[<-r.length];exact ej,k.nx _ _ _ _ (((g.trans l).trans t3).trans tt) (U.ts<|((g.trans l).trans t3).trans tt) (I.setL e2<|xm.setY (T.ts<|l.trans t3) j r) q⟩
  ·exact z3.elim⟩⟩⟩
end
end L3
namespace L2
open PySem PySem.Spec PyProof.Rows
section
variable {v₁ v₂:Expr}{te:TE}{u:Str->TE}
end
end L2
namespace L3
open PySem L2
section
variable {v₁ v₂:Expr}{u:Str->xg}
end
section
variable {tv:xg}{tr:eB}{f m:Str}{g:Addr}
end
open PySem.AutoSeq1 (wpAny_loadPart')
open MeetsSeq MeetsSeq2 MeetsSeq3 SeqRoads2
end L3
namespace Txs
open PySem PySem.Builtin.Str
def len_list(x:Str):x.cps.toList.length=x.length:=by simp[Str.length]
end Txs
namespace L2
open PySem PySem.Spec PyProof.Rows
section
variable {isp imk c j1 j2:Nat}{sp mk:Str}{u:Tok}{m:Wc}{p6 p7 p8 p9 p10:Pos}{Q:Flow->Ws->Prop}
end
end L2
namespace L2
open PySem PySem.Spec PyProof.Rows
end L2
namespace L3
open PySem L2
def RJ(s:Stmt):Wl:=match s with
 |.ClassDef _ _ _ b _ _ _ _ _ _ _=>b
 |_=>[]
section
variable {tr:eB}{m:Str}{k:Nat}{sp:vh}
end
end L3
namespace L2
open PySem PySem.Spec PyProof.Rows
section
variable {te:TE}
end
end L2
namespace L3
open PySem L2
end L3
namespace L2
open PySem PySem.Spec PyProof.Rows
section
variable {a T:Addr}{tr:Option Addr}
end
section
variable {T:Wj}{iter:Expr}{g:TG}{tc:TT}{te:TE}
end
section
variable {a b T:Addr}{tr:Option Addr}{E1:X1}
end
section
variable {k:Nat}{E1:X1}{t:TA}
end
end L2
namespace L3
open PySem L2
section
variable {T:Wj}{iter:Expr}{wi:p_}{tr:eB}{E3:X3}{Ea:Addr->qk->Prop}
end
end L3
namespace L2
open PySem PySem.Spec PyProof.Rows
theorem zf.takeN:∀{xs:Wx} {us:Wg} (n:Nat),zf xs us->zf (xs.take n) (us.take n)
 |[],_,n,.nil=>by simp;exact .nil
 |_::_,_,0,.cons _ _=>.nil
 |_::_,_,n+1,.cons r t=>.cons r<|zf.takeN n t
theorem zf.dropN:∀{xs:Wx} {us:Wg} (n:Nat),zf xs us->zf (xs.drop n) (us.drop n)
 |[],_,n,.nil=>by simp;exact .nil
 |_::_,_,0,.cons r t=>.cons r t
 |_::_,_,n+1,.cons _ t=>zf.dropN n t
def RK:V->Wx->Hp->VK->Prop:=λx vs H Q=>∃l xs,∃i:Int,∃y,x=.ref l/\vs=[.int i,y]/\H l=some (.lst xs)/\0<=i/\i.toNat<=xs.length/\xs.length<=100000/\Q .non (upd H l<|.lst<|xs.take i.toNat++y::xs.drop i.toNat)
def RL:g9 X "list.insert" RK:=by
 rintro o s σ H x vs v us Q I T rv⟨l,xs,i,y,rfl,rfl,p,h0,hk,hz,q⟩;cases T;obtain⟨u0,u,rfl,r0,ru⟩:=rv.two;obtain⟨t,rfl⟩:=(show ∃t,u0=Value.int i t from r0);obtain⟨z,J,n,r,hl,e⟩:=I.lstM p;have C:J.length=xs.length:=r.length.symm;have hb:(100000:Nat)<sizeLine:=by decide
 have g:¬(!Builtin.List.listFitsIndex i)=true:=by unfold Builtin.List.listFitsIndex;simp;lia
 obtain⟨arr,U⟩:∃arr:Wh,arr=J.toArray:=⟨_,rfl⟩;have j:arr.size<=sizeLine:=by rw[U,Ap];lia
 have M:=PySem.AutoListH.list_insert_list_int_val_1 l arr n i t u g j;rw[U] at M;refine call_meets F.slot_list_insert ⟨_,e,rfl⟩ F.entry_list_insert (F.args_list_insert_3 _ _ _) M ⟨e,?_⟩;refine⟨.non,_,I.lset (its':=J.take i.toNat++u::J.drop i.toNat) p e ?_ ((r.takeN i.toNat).append<|.cons ru<|r.dropN i.toNat) ?_,rfl,q⟩
 ·have h1:¬(i<0):=by lia
  have h2:min i.toNat J.length=i.toNat:=by lia
  simp[h1,h2];exact Bb (by rw[BS];simp +arith only)
 ·simp;lia
end L2
namespace L3
open PySem L2
def lW(x:Y)(vs:List Y)(L:qk)(Q:YK):Prop:=match x,vs with
 |.ref a,[.int i,v]=>cB L a λys=>(0<=i/\i<=ys.length/\ys.length<=100000)/\Q .non (qi L a<|.lst<|ys.take i.toNat++v::ys.drop i.toNat)
 |_,_=>False
def RM :g9 X "list.insert" (f' X.g3 lW):=g9.imq RL λx t H Q y C L T j l U z k=>by
 unfold lW at z;split at z
 ·rename_i a i v;obtain⟨zs,e,⟨h0,h1,h2⟩,z⟩:=jy z;obtain⟨o,I,r⟩:=U a _ e;obtain⟨v0,g,rfl,J,p⟩:=l.inv2;cases J;refine⟨a,o,i,g,j,rfl,I,h0,by rw[<-r.length];lia,by rw[<-r.length];exact h2,?_⟩;exact k _ _ _ _ (EZ I) (U.setL I<|(r.take _).app<|show xm X.g3 H (v::_) _ from⟨g,_,rfl,p,r.drop _⟩) (by rfl) z
 ·exact z.elim
def RN{tr:eB}(I:QE X o to)(J:QA X (e::es) tr)(U:r_ X o e es "insert" apos fm:=by exact⟨rfl,rfl,rfl,rfl,rfl⟩):
 QE X (.Call (.Attribute o "insert" apos) (e::es) [] fm) (iQ lW to tr):=m7 PySem.F.slot_list_insert PySem.F.type_list_insert RM I J U
end L3
namespace L2
open PySem PySem.Spec PyProof.Rows
section
variable {w:Wu}
theorem ud{it t:Addr}{eA:Wh}(I:t≠it):∀(n i:Nat) (s:Ws) (Q:Wg->Ws->Prop),s.heap.IsListIter it t i->s.heap.IsList t eA->i+n<=eA.size->
 (∀h',h'.IsListIter it t (i+n)->Heap.SameBut it s.heap h'->Q ((eA.toList.drop i).take n) {s with heap:=h'})->wpAny (model prog w) A (draw (.ref it) n) Q E s
 |0,i,s,Q,hit,_,_,g=>by unfold draw;exact Aj (by simpa using g s.heap hit (Heap.SameBut.refl ..))
 |n+1,i,s,Q,hit,p,r,g=>by
  have J:i<eA.size:=by omega
  unfold draw;refine Aa<|wpAny_pyNext_list_item hit p (x:=eA[i]) (by simp[J]) λg1 j U=>?_;refine Aa<|Bf<|ud I n (i+1) _ _ j (p.extBut U.extBut I) (by lia) λg2 l o=>Aj ?_;have e:eA.toList.drop i=eA[i]::eA.toList.drop (i+1):=by simp[BZ,J]
  have q:=g g2 (by rw[show i+(n+1)=i+1+n by simp +arith only];exact l)
   (U.trans o)
  rw[e,List.take_succ_cons] at q;exact q
def RP{t:Addr}{eA:Wh}{Q:Wb}(T:A.handled=none)(I:s.heap.IsList t eA)(hn:(assignEach mv env).length=eA.size)(j:(assignEach mv env).findIdx? (·.1)=none)
 (h:∀g,Heap.ExtBut s.heap.objs.size s.heap g->wpAny (model prog w) A (assignInOrder ((assignEach mv env).map (·.2)) eA.toList) Q E {s with heap:=g}):wpAny (model prog w) A (assign (.Tuple mv x1 pos) env<|.ref t) Q E s:=by
 have J:t≠s.heap.objs.size:=by obtain⟨o,ho,_⟩:=I;exact A3<|xT ho
 rw[arm_assign_Tuple];refine Aa<|wpAny_standAt ?_;unfold unpack;rw[hn,j];refine Aa<|Bf ?_;unfold unpackItems notIterableAtAll;refine Aa<|Aa<|wpAny_specialOf I.typeIs slot_list_iter.lookup ?_;refine Aj ?_;rw[AB (by simp)];refine Aa<|Bf<|wpAny_pyIter_list I ?_;refine Aa<|Bf<|ud J eA.size 0 _ _ ⟨_,ya _ rfl,rfl,rfl⟩ (I.push _) (by simp +arith only) λg1 l U=>?_;have all:List.take eA.size (List.drop 0 eA.toList)=eA.toList:=by rw[EL];exact Bb (by simp)
 rw[all,AB (by simp)];have p:g1.IsList t eA:=(I.push _).extBut U.extBut J;refine Aa<|Bf<|wpAny_pyNext_list_end T l p (by simp) λg2 r=>?_;rw[AB (by simp)];exact Aj<|h g2 λb o C e=>r b o C<|U.extBut b o C<|wh _ e
end
def RQ(K:Af)(n:Nat)(t:e_):TG:=λv σ H Q=>∃a xs,v=.ref a/\aF K H a xs/\xs.length=n/\t xs σ H Q
def RS{k:Nat}{t:e_}(hc:X.calm=true)(h:PGs X es t)
 (l:(assignEach es X.env).length=n:=by rfl) (U:(assignEach es X.env).findIdx? (·.1)=none:=by rfl):PG X (.Tuple es k pos) (RQ X.K n t):=by
 rintro J s g H v u Q I r⟨a,p,C,T,hl,hw⟩;subst C;cases r;obtain⟨a1,j,pl,hz⟩:=I.list T;have ht:=x8 pl;refine RP (I.ok.hd hc) ht (by simp[l,<-hl,j.length]) U λh' hx=>?_;have I1:qt X J g H {s with heap:=h'}:=I.kept (t':=s.toks) λb o e=>hx b o (A3<|xT e) e;exact h J _ g H p _ Q I1 (by simpa using j) hw
def RT(l:Addr)(eA:Wh)(n:Nat)(x:Wr)(b:Nat->Bool)(j:Nat)(C:j<eA.size)(hit:b j=true)(hz:eA.size<=sizeLine):∀(k i:Nat),j-i=k->i<=j->(∀m,i<=m->m<j->b m=false)->
 Meets (Builtin.«list.remove.loop» ⟨[.ref l,x,rawInt i],[]⟩) (λA R s=>s.heap.get? l=some {cls:=.type "list",dict:=none,data:=.seq eA n,slots:=#[]}/\(∀m (hm:m<eA.size),SeqAt.EqAt A.in1 s eA[m] x<|b m)/\R (.ok<|.ret .none) {s with heap:=s.heap.update l (Obj.mapSeq λxs=>xs.eraseIdxIfInBounds j)}):=by
 intro k
 induction k with
 |zero=>
  intro i T p J I w A R s h;obtain⟨hp,g,d,tk,os⟩:=s;obtain⟨U,eq,h⟩:=h;have e:i=j:=by lia
  subst e
  (wp_walk using wpAny_loadPart' U)
  have r:eA[((i:Nat):Int).toNat]?=some eA[i]:=by simp[C]
  rw[r];refine Aa<|eq i C I w _ _ ?_;rw[hit];have t:(eA.eraseIdxIfInBounds i).size<=sizeLine+1:=AM (MeetsSeq.size_erased eA _)<|CT hz
  (wp_walk using (wpAny_updateSeq U rfl (hz:=hz) (_hz':=t)),wpAny_loadPart' U)
  simpa using h
 |succ k ih=>
  intro i T p J I w A R s h;obtain⟨hp,g,d,tk,os⟩:=s;obtain⟨U,eq,h⟩:=h;have o:i<eA.size:=by exact oW
  (wp_walk using wpAny_loadPart' U)
  have r:eA[((i:Nat):Int).toNat]?=some eA[i]:=by simp[o]
  have hc:((i:Int)+1)=((i+1:Nat):Int):=by rfl
  rw[r];refine Aa<|eq i o I w _ _ ?_;rw[J i (An _) (by omega)]
  wp_walk
  rw[hc];refine⟨plainId_quiet Ev _,codeAny_builtin MeetsSeq.entry_remove_loop ?_⟩;rw[Around.under_plainId Ev _];exact ih (i+1) (by omega) (by omega) (λm h1 h2=>J m (by exact hJ) h2) I w A R _ ⟨U,eq,h⟩
def RU(l:Addr)(eA:Wh)(n:Nat)(x:Wr)(b:Nat->Bool)(j:Nat)(o:j<eA.size)(hit:b j=true)(hz:eA.size<=sizeLine)(J:∀m,m<j->b m=false):
 Meets (Builtin.«list.remove» ⟨[.ref l,x],[]⟩) (λA R s=>s.heap.get? l=some {cls:=.type "list",dict:=none,data:=.seq eA n,slots:=#[]}/\(∀m (p:m<eA.size),SeqAt.EqAt A.in1 s eA[m] x<|b m)/\R (.ok<|.ret .none) {s with heap:=s.heap.update l (Obj.mapSeq λxs=>xs.eraseIdxIfInBounds j)}):=by
 intro I w A R s h;obtain⟨r,g,d,tk,os⟩:=s;obtain⟨U,eq,h⟩:=h
 (wp_walk using wpAny_loadPart' U)
 refine⟨plainId_quiet Ev _,codeAny_builtin MeetsSeq.entry_remove_loop ?_⟩;rw[Around.under_plainId Ev _];exact RT l eA n x b j o hit hz _ 0 rfl (A1 _) (λm _ h2=>J m h2) I w A R _ ⟨U,eq,h⟩
theorem zf.eraseN:∀{xs:Wx} {us:Wg} (n:Nat),zf xs us->zf (xs.eraseIdx n) (us.eraseIdx n)
 |[],_,n,.nil=>by simp;exact .nil
 |_::_,_,0,.cons _ t=>t
 |_::_,_,n+1,.cons r t=>.cons r<|zf.eraseN n t
def RW(X:Cx):V->Wx->Hp->VK->Prop:=λx vs H Q=>∃l xs y ds e,∃n m j:Nat,x=.ref l/\vs=[y]/\H l=some (.lst xs)/\n<=126/\Paired (aQ X.K H n) xs ds/\aQ X.K H m y e/\j<ds.length/\(∃d,ds[j]?=some d/\Da.eq d e=true)/\
 (∀(k:Nat) d,k<j->ds[k]?=some d->Da.eq d e=false)/\Q .non (upd H l<|.lst<|xs.eraseIdx j)
def RX(hu:X.A.units+128<cLine):g9 X "list.remove" (RW X):=by
 rintro a5 s σ H x vs v us Q I rx rv⟨l,o,y,g,e,n,m,j,rfl,rfl,hH,hn,pd,ry,hj,⟨dj,t,C⟩,T,q⟩;cases rx;obtain⟨u,rfl,ru⟩:=rv.one;obtain⟨z,J,nn,r,hl,eo⟩:=I.lstM hH;have l1:o.length=g.length:=pd.length;have l2:J.length=o.length:=r.length.symm;obtain⟨arr,U⟩:∃arr:Wh,arr=J.toArray:=⟨_,rfl⟩;have a1:arr.size=J.length:=by rw[U,Ap]
 have b:Nat->Bool:=λ_=>true;have a2:arr.size<=sizeLine:=by rw[a1];lia
 have M:=RU l arr nn u (λk=>((g[k]?).map λd=>Da.eq d e).getD false) j (by lia) (by show((g[j]?).map λd=>Da.eq d e).getD false=true;rw[t];exact C) a2 (λk p=>by show((g[k]?).map λd=>Da.eq d e).getD false=false;cases ek:g[k]? with|none=>rfl|some d=>exact T k d p ek)
 rw[U] at M;refine call_meets F.slot_list_remove ⟨_,eo,rfl⟩ F.entry_list_remove (F.args_list_remove_2 _ _) M ⟨eo,λk p=>?_,?_⟩
 ·have ac:k<J.length:=by rw[Ap] at p;exact p
  obtain⟨d,ed,rd⟩:=Words.Paired.getP pd<|Ag (by lia:k<o.length);show SeqAt.EqAt _ s _ u (((g[k]?).map λd=>Da.eq d e).getD false);rw[ed];obtain⟨u',a3,a4⟩:=Words.Paired.getP r<|Ag (by lia:k<o.length);have eg:J.toArray[k]=u':=by have:=(AI.mp a3).2;simpa using this
  rw[eg];exact xH I n (by show X.A.units+1+n<cLine;lia) rd ry a4 ru
 ·refine⟨.non,_,I.lset (its':=J.eraseIdx j) hH eo ?_ (r.eraseN j) ?_,rfl,q⟩
  ·have:j<J.length:=by lia
   simp[Array.eraseIdxIfInBounds,this]
  ·have:=Dm o j;exact GQ
end L2
namespace L3
open PySem L2
def JD(n:Nat)(t:tE)(y:Y)(τ:j9)(L:qk)(Q:j9->qk->Prop):Prop:=match y with
 |.ref a=>cB L a λys=>match ys.length==n with
  |true=>t ys τ L Q
  |false=>False
 |_=>False
def RY{U:Nat}(hc:X.calm=true)(h:FR X es gs)(h1:(assignEach es X.env).length=n:=by rfl)(h2:(assignEach es X.env).findIdx? (·.1)=none:=by rfl):QG X (.Tuple es U pos) (JD n gs):=
 PG.imp (RS hc h h1 h2) λv σ H Q ⟨y,g,L,j,l,o,J,z,k⟩=>by
 cases y with
 |ref a=>
  cases (show v=.ref a from l);obtain⟨p,e,I⟩:=jy z;obtain⟨t,C,r⟩:=J a _ e;split at I
  ·rename_i T;exact⟨a,t,rfl,FA C,by rw[<-r.length];exact beq_iff_eq.mp T,p,g,L,j,r,o,J,I,k⟩
  ·exact I.elim
 |_=>exact z.elim
def l5(x:Y)(vs:List Y)(L:qk)(Q:YK):Prop:=match x,vs with
 |.ref a,[v]=>cB L a λys=>∃ds e,∃n m j:Nat,n<=126/\Paired (jc L n) ys ds/\jc L m v e/\j<ds.length/\(∃d,ds[j]?=some d/\Da.eq d e=true)/\(∀(k:Nat) d,k<j->ds[k]?=some d->Da.eq d e=false)/\Q .non (qi L a<|.lst<|ys.eraseIdx j)
 |_,_=>False
def RZ(C:X.A.units+128<cLine):g9 X "list.remove" (f' X.g3 l5):=g9.imq (RX C) λx I H Q y U L Q3 T r2 g z k=>by
 unfold l5 at z;split at z
 ·rename_i a v;obtain⟨zs,e,J,de,n,m,j,hn,pd,dv,hj,hit,l,z⟩:=jy z;obtain⟨us,o,r⟩:=g a _ e;obtain⟨v',rfl,rv⟩:=r2.inv1;have both:∀{U:List Y} {J:List Da} {I:Wx},Paired (jc L n) U J->xm X.g3 H U I->Paired (aQ X.K H n) I J:=by
   intro U J I p
   induction p generalizing I with
   |nil=>intro q;cases (show I=[] from q);exact .nil
   |cons h t ih=>
    rintro⟨x,a1,rfl,q1,q2⟩;exact .cons (jc.rep g h q1)<|ih q2
  exact⟨a,us,v',J,de,n,m,j,T,rfl,o,hn,both pd r,jc.rep g dv rv,hj,hit,l,k _ _ _ _ (EZ o) (g.setL o<|r.eraseIdx j) (by rfl) z⟩
 ·exact z.elim
def R4(I:X.A.units+128<cLine){tr:eB}(J:QE X o to)(U:QA X (e::es) tr)(g:r_ X o e es "remove" apos fm:=by exact⟨rfl,rfl,rfl,rfl,rfl⟩):
 QE X (.Call (.Attribute o "remove" apos) (e::es) [] fm) (iQ l5 to tr):=m7 PySem.F.slot_list_remove PySem.F.type_list_remove (RZ I) J U g
end L3
namespace L2
open PySem PySem.Spec PyProof.Rows
end L2
namespace L2
open PySem PySem.Spec PyProof.Rows
def R5:Wx->Hp->VK->Prop:=λxs H Q=>∃n:Int,xs=[.int n]/\∀p,H p=none->Q (.ref p) (upd H p<|.rng 0 n)
def R6:ja X (.type "range") R5:=by rintro J s g H j l Q I r⟨n,rfl,q⟩;obtain⟨u,rfl,U⟩:=r.one;obtain⟨t,rfl⟩:=(show ∃t,u=Value.int n t from U);refine call_range_1 ?_;refine⟨.ref s.heap.objs.size,_,I.laid (t':=s.toks+1+1) (o:=.rng 0 n) (λb ob q=>wh _ q) (An _) ?_,rfl,q _<|I.hok.fresh<|An _⟩;exact⟨s.toks,t,s.toks+1,ya _ rfl⟩
def xB{I:Wh}(h:ItemsOf (λi v=>∃t,v=.int (0+(i:Int)*1) t) I n):zf ((List.range n).map λi:Nat=>V.int<|0+(i:Int)) I.toList:=by
 have len:I.toList.length=n:=by rw[A2];exact h.1
 have key:∀(l:Wg) (k:Nat),(∀(j:Nat) v,l[j]?=some v->∃t,v=Value.int (0+((k+j:Nat):Int)*1) t)->zf ((List.range' k l.length).map λi:Nat=>V.int<|0+(i:Int)) l:=by
  intro l
  induction l with
  |nil=>intro k _;exact .nil
  |cons v r g=>
   intro k U;rw[AL,Es,AA];obtain⟨t,e⟩:=U 0 v rfl;refine .cons ?_<|g (k+1) λj o J=>?_
   ·exact⟨t,by rw[e];simp⟩
   ·have:=U (j+1) o J;rw[show k+1+j=k+(j+1) by simp +arith only];exact this
 have:=key I.toList 0 λj v J=>by rw[DN];exact h.2 j v (by simpa using J)
 rw[len,<-List.range_eq_range'] at this;exact this
def R7:Wx->Hp->VK->Prop:=λxs H Q=>∃a,∃n:Nat,xs=[.ref a]/\H a=some (.rng 0 n)/\n<=100000/\∀p,H p=none->Q (.ref p) (upd H p<|.lst ((List.range n).map λi:Nat=>V.int<|0+(i:Int)))
theorem R8(hc:X.calm=true):ja X (.type "list") R7:=by
 rintro g s σ H xs us Q I r⟨a,n,rfl,j,l,q⟩;obtain⟨u,rfl,p⟩:=r.one;cases (show u=Value.ref a from p);obtain⟨t,u,v,e⟩:=I.hok a _ j;have hb:(100000:Nat)<=sizeLine:=by decide
 have C:Builtin.Range.rangeSize 0 (n:Int) 1=((n:Nat):Int):=by rw[rangeSize_one];split<;>lia
 refine j5 I.tk<|call_list_range (I.ok.hd hc) (show IsRange s.heap a 0 (n:Int) 1 t u v from e) (small_one (by decide) (by decide) (by exact AV _) (by omega)) C (AM l (by decide)) λh' tk U c T hS J ht=>?_;refine⟨.ref s.heap.objs.size,_,I.laid (t':=tk) (o:=.lst ((List.range n).map λi:Nat=>V.int<|0+(i:Int))) T (An _) ?_,rfl,q _<|I.hok.fresh<|An _⟩;refine⟨by rw[Ae,BM];exact GQ,U.toList,c,xB J,?_⟩;rw[hS]
def R9:Wx->Hp->VK->Prop:=λxs H Q=>∃b:Bool,xs=[.bl b]/\Q (.int<|if b=true then 1 else 0) H
def Sa:ja X (.type "int") R9:=by rintro J s g H j l Q I r⟨b,rfl,q⟩;obtain⟨u,rfl,U⟩:=r.one;cases (show u=Value.bool b from U);exact call_int_bool ⟨.int _,_,I.tok<|s.toks+1,⟨_,rfl⟩,q⟩
end L2
namespace L3
open PySem L2
def Sb:bootBuiltins "range"=some (.type "range"):=by decide +kernel
def uN(te:xg)(τ:j9)(L:qk)(Q:YK):Prop:=te τ L λy L1=>match y with
 |.int n=>(0<=n/\n<=100000)/\∀p,L1 p=none->Q (.ref p) (qi L1 p<|.lst<|ww 0 n.toNat)
 |_=>False
def Sc(n:Nat):xm G H (ww 0 n) ((List.range n).map λi:Nat=>V.int<|0+(i:Int)):=by
 unfold ww;generalize List.range n=l
 induction l with|nil=>rfl|cons k r I=>exact⟨_,_,rfl,rfl,I⟩
theorem wF{I:Pos}(hc:X.calm=true)(C:Gl X "list")(T:X.mg "list"=none)(j:Gl X "range")(l:X.mg "range"=none)(h:QE X e te)
 (h1:starEach [.Call (.Name "range" p2) [e] [] I] X.env=(false,eval (.Call (.Name "range" p2) [e] [] I) X.env)::starEach [] X.env:=by rfl) (h2:(backTo pos<|starEach [] X.env).any (·.1)=false:=by rfl)
 (h3:starEach [e] X.env=(false,eval e X.env)::starEach [] X.env:=by rfl) (h4:(backTo I<|starEach [] X.env).any (·.1)=false:=by rfl):
 QE X (.Call (.Name "list" p) [.Call (.Name "range" p2) [e] [] I] [] pos) (uN te):=
 EU (jD (R8 hc) C T dS (vm (jD R6 j l Sb (vm h bx h3) (by decide) (by decide) h3 h4) bx h1) (by decide) (by decide) h1 h2) λσ H Q τ L Q3 rs rl z k=>
 ⟨τ,L,_,rs,rl,z,λv H1 y L1 t1 J o U=>by
  cases y with
  |int n=>
   obtain⟨⟨h0,h5⟩,U⟩:=U;cases (show v=V.int n from o);obtain⟨m,rfl⟩:∃m:Nat,n=(m:Int):=⟨n.toNat,by lia⟩;refine⟨_,rfl,λq r=>⟨q,m,rfl,zu,by lia,λp g=>?_⟩⟩;have t:H1 p=none:=by
    by_cases c:p=q
    ·subst c;exact r
    ·rw[qp c] at g;exact g
   exact k _ _ _ _ (t1.trans<|(ET r).trans<|ET g) ((J.skip r).newL g<|Sc m) (by rfl) (U p<|J.none t)
  |_=>exact U.elim⟩
def Hu(xs:List Y)(L:qk)(Q:YK):Prop:=match xs with
 |[.bl b]=>Q (.int<|if b=true then 1 else 0) L
 |_=>False
theorem Sd :ja X (.type "int") (c_ X.g3 Hu):=E9 Sa λg H Q j L l I J z k=>by
 unfold Hu at z;split at z
 ·rename_i b;obtain⟨u,rfl,U⟩:=I.inv1;cases (show u=V.bl b from U);exact⟨b,rfl,k _ _ _ _ (ES _) J (by rfl) z⟩
 ·exact z.elim
section
variable {tr:eB}{m:Str}{g:Addr}
end
end L3
namespace TS
open PySem PyProof.Rows
abbrev WH:=Keyed->Int
abbrev WG:=Array Keyed
abbrev WF:=List Keyed
def Se:Bool->Keyed->WG->Nat->Nat->Nat->StateT SortSt Sem (Option Nat):=sortPriv% PySem.Builtin.gallop
section
variable {w:Wu}
structure Ord(prog:Wt)(w:Wu)(A:Around)(s:Ws)(κ:SortKind)(Ok:Keyed->Prop)(f:WH):Prop where
 lt:∀x y,Ok x->Ok y->∀{E:Wa} {Q:Bool->Ws->Prop},Q (decide<|f x<f y) s->wpAny (model prog w) A (keyLt' κ x.1 y.1) Q E s
variable {κ:SortKind}{Ok:Keyed->Prop}{f:WH}
def w_lt(O:Ord prog w A s κ Ok f){st:SortSt}{x y:Keyed}{Q:Option Bool->SortSt->Prop}(I:kindOf st=κ)(J:Ok x)(U:Ok y)(h:Q (some<|decide<|f x<f y) st):wpS (model prog w) A E s (lt' x y) Q st:=by rw[lt'_eq];refine Ab<|wpS_get ?_;rw[I];refine Ab<|wpS_lift<|wpAny_attempt<|O.lt x y J U ⟨rfl,?_⟩;exact Ad h
def xp{arr:WG}{x:Keyed}{st:SortSt}{Q:Keyed->SortSt->Prop}(h:arr[i]?=some x)(q:Q x st):wpS (model prog w) A E s (elem' arr i) Q st:=by rw[elem'_eq,h];exact Ad q
def JE(left:Bool)(key:Keyed)(arr:WG)(i:Nat):StateT SortSt Sem (Option Bool):=elem' arr i >>= λx=>if left=true then lt' x key else lt' key x >>= λr=>pure<|r.map λb=>!b
def Sf(O:Ord prog w A s κ Ok f){left:Bool}{key x:Keyed}{arr:WG}{st:SortSt}{Q:Option Bool->SortSt->Prop}(J:kindOf st=κ)(I:Ok key)(U:Ok x)(hi:arr[i]?=some x)
 (q:Q (some<|if left=true then decide (f x<f key) else !decide (f key<f x)) st):wpS (model prog w) A E s (JE left key arr i) Q st:=by
 refine Ab<|xp hi ?_;cases left with|true=>exact w_lt O J U I q|false=>exact Ab<|w_lt O J I U<|Ad q
def cx(O:Ord prog w A s κ Ok f){left:Bool}{key:Keyed}{arr:WG}{base hint:Nat}{st:SortSt}{Q:Option Nat->SortSt->Prop}(hk:kindOf st=κ)(a3:Ok key)(hh:hint<n)
 (it:Nat->Keyed) (hit:∀i,i<n->arr[base+i]?=some (it i)/\Ok (it i)) (o:Nat->Bool) (a4:∀i,i<n->o i=if left=true then decide (f (it i)<f key) else !decide (f key<f (it i)))
 (mono:∀i j,i<=j->j<n->o j=true->o i=true)
 (q:∀k,k<=n->(∀i,i<k->o i=true)->(∀i,k<=i->i<n->o i=false)->Q (some k) st):wpS (model prog w) A E s (Se left key arr base n hint) Q st:=by
 have go:∀i,i<n->∀Q':Option Bool->SortSt->Prop,Q' (some<|o i) st->wpS (model prog w) A E s (JE left key arr<|base+i) Q' st:=λi U Q' h=>Sf O hk a3 (hit i U).2 (hit i U).1 (by rw[<-a4 i U];exact h);refine Ab<|go hint hh _ ?_;dsimp only;cases hb:o hint with
 |true=>
  rw[AD rfl];refine Ab (AU (AJ (I:=λx c g=>g=st/\∃l J,c=(none,l,J)/\l<J/\l<n-hint/\o (hint+l)=true/\x+1<=J)
   (Q:=λc g=>g=st/\∃l J,c=(none,l,J)/\l<J/\l<n-hint/\o (hint+l)=true/\(n-hint<=J\/o (hint+J)=false)) ?_ ?_ ⟨rfl,0,1,rfl,by exact BD _,by omega,hb,by exact BD _⟩) ?_)
  ·rintro x c g _ hx ⟨rfl,l,J,rfl,h1,h2,h3,r⟩;dsimp only;by_cases c:J>=n-hint
   ·rw[AD c];exact Ad ⟨rfl,l,J,rfl,h1,h2,h3,.inl c⟩
   ·rw[AB c];refine Ab<|go (hint+J) (by lia) _ ?_;dsimp only;cases t:o (hint+J) with
    |true=>
     rw[AB (by simp)];exact Ad ⟨rfl,J,2*J+1,rfl,by simp +arith only,by exact Iq,t,by lia⟩
    |false=>
     rw[AD (by simp)];exact Ad ⟨rfl,l,J,rfl,h1,h2,h3,.inr t⟩
  ·rintro c g ⟨rfl,l,J,rfl,h1,h2,h3,r⟩;exact⟨rfl,l,J,rfl,h1,h2,h3,.inl (by lia)⟩
  ·rintro c g ⟨rfl,l,J,rfl,h1,h2,h3,r⟩;dsimp only;obtain⟨lo,a1⟩:∃lo,lo=hint+l+1:=⟨_,rfl⟩;obtain⟨U,a2⟩:∃U,U=hint+min J (n-hint):=⟨_,rfl⟩;rw[<-a1,<-a2];have g1:lo<=U:=by omega
   have g2:U<=n:=by lia
   have g3:∀i,i<lo->o i=true:=λi U=>mono i (hint+l) (by lia) (by lia) h3;have g4:∀i,U<=i->i<n->o i=false:=λi h5 h6=>by
    rcases r with r|r
    ·omega
    ·cases e:o i with
     |false=>rfl
     |true=>
      by_cases c:J<n-hint
      ·rw[mono (hint+J) i (by omega) h6 e] at r;cases r
      ·omega
   refine Ab (AU (AJ (I:=λx c sx=>sx=g/\∃lo U,c=(none,lo,U)/\lo<=U/\U<=n/\(∀i,i<lo->o i=true)/\(∀i,U<=i->i<n->o i=false)/\U-lo+x<=n)
    (Q:=λc sx=>sx=g/\∃U,c=(none,U,U)/\U<=n/\(∀i,i<U->o i=true)/\(∀i,U<=i->i<n->o i=false)) ?_ ?_ ⟨rfl,lo,U,rfl,g1,g2,g3,g4,by exact Iu⟩) ?_)
   ·rintro x c p _ hx ⟨rfl,lo,U,rfl,k1,C,T,k4,k5⟩;dsimp only;by_cases c:lo>=U
    ·rw[AD c];have:lo=U:=by lia
     subst this;exact Ad ⟨rfl,lo,rfl,C,T,k4⟩
    ·rw[AB c];refine Ab<|go (lo+(U-lo) / 2) (by lia) _ ?_;dsimp only;cases t:o (lo+(U-lo) / 2) with
     |true=>
      rw[AD rfl];exact Ad ⟨rfl,lo+(U-lo) / 2+1,U,rfl,by lia,C,λi h5=>mono i _ (by exact Ir) (by lia) t,k4,by lia⟩
     |false=>
      rw[AB (by simp)];refine Ad ⟨rfl,lo,lo+(U-lo) / 2,rfl,by exact A9 _ _,by lia,T,λi h5 h6=>?_,by omega⟩;cases e:o i with|false=>rfl|true=>rw[mono _ i h5 h6 e] at t;cases t
   ·rintro c p ⟨rfl,lo,U,rfl,k1,C,T,k4,k5⟩;have:lo=U:=by lia
    subst this;exact⟨rfl,lo,rfl,C,T,k4⟩
   ·rintro c p ⟨rfl,U,rfl,C,T,k4⟩;exact Ad<|q U C T k4
 |false=>
  rw[AB (by simp)];refine Ab (AU (AJ (I:=λx c g=>g=st/\∃l J,c=(none,l,J)/\l<J/\l<hint+1/\o (hint-l)=false/\x+1<=J)
   (Q:=λc g=>g=st/\∃l J,c=(none,l,J)/\l<J/\l<hint+1/\o (hint-l)=false/\(hint+1<=J\/o (hint-J)=true)) ?_ ?_ ⟨rfl,0,1,rfl,by lia,by exact BV _,hb,by lia⟩) ?_)
  ·rintro x c g _ hx ⟨rfl,l,J,rfl,h1,h2,h3,r⟩;dsimp only;by_cases c:J>=hint+1
   ·rw[AD c];exact Ad ⟨rfl,l,J,rfl,h1,h2,h3,.inl c⟩
   ·rw[AB c];refine Ab<|go (hint-J) (by exact qN) _ ?_;dsimp only;cases t:o (hint-J) with
    |true=>
     rw[AD rfl];exact Ad ⟨rfl,l,J,rfl,h1,h2,h3,.inr t⟩
    |false=>
     rw[AB (by simp)];exact Ad ⟨rfl,J,2*J+1,rfl,by lia,by exact Iq,t,by lia⟩
  ·rintro c g ⟨rfl,l,J,rfl,h1,h2,h3,r⟩;exact⟨rfl,l,J,rfl,h1,h2,h3,.inl (by exact r9)⟩
  ·rintro c g ⟨rfl,l,J,rfl,h1,h2,h3,r⟩;dsimp only;obtain⟨lo,a1⟩:∃lo,lo=hint+1-min J (hint+1):=⟨_,rfl⟩;obtain⟨U,a2⟩:∃U,U=hint-l:=⟨_,rfl⟩;rw[<-a1,<-a2];have g1:lo<=U:=by omega
   have g2:U<=n:=by omega
   have g3:∀i,i<lo->o i=true:=λi h5=>by
    rcases r with r|r
    ·omega
    ·exact mono i (hint-J) (by omega) (by exact qN) r
   have g4:∀i,U<=i->i<n->o i=false:=λi h5 h6=>by cases e:o i with|false=>rfl|true=>rw[mono (hint-l) i (by lia) h6 e] at h3;cases h3
   refine Ab (AU (AJ (I:=λx c sx=>sx=g/\∃lo U,c=(none,lo,U)/\lo<=U/\U<=n/\(∀i,i<lo->o i=true)/\(∀i,U<=i->i<n->o i=false)/\U-lo+x<=n)
    (Q:=λc sx=>sx=g/\∃U,c=(none,U,U)/\U<=n/\(∀i,i<U->o i=true)/\(∀i,U<=i->i<n->o i=false)) ?_ ?_ ⟨rfl,lo,U,rfl,g1,g2,g3,g4,by exact Iu⟩) ?_)
   ·rintro x c p _ hx ⟨rfl,lo,U,rfl,k1,C,T,k4,k5⟩;dsimp only;by_cases c:lo>=U
    ·rw[AD c];have:lo=U:=by lia
     subst this;exact Ad ⟨rfl,lo,rfl,C,T,k4⟩
    ·rw[AB c];refine Ab<|go (lo+(U-lo) / 2) (by lia) _ ?_;dsimp only;cases t:o (lo+(U-lo) / 2) with
     |true=>
      rw[AD rfl];exact Ad ⟨rfl,lo+(U-lo) / 2+1,U,rfl,by lia,C,λi h5=>mono i _ (by lia) (by lia) t,k4,by lia⟩
     |false=>
      rw[AB (by simp)];refine Ad ⟨rfl,lo,lo+(U-lo) / 2,rfl,by lia,by lia,T,λi h5 h6=>?_,by lia⟩;cases e:o i with|false=>rfl|true=>rw[mono _ i h5 h6 e] at t;cases t
   ·rintro c p ⟨rfl,lo,U,rfl,k1,C,T,k4,k5⟩;have:lo=U:=by lia
    subst this;exact⟨rfl,lo,rfl,C,T,k4⟩
   ·rintro c p ⟨rfl,U,rfl,C,T,k4⟩;exact Ad<|q U C T k4
end
def Sg:WG->WG->StateT SortSt Sem (WG):=sortPriv% PySem.Builtin.mergeLo
def Sh:WG->WG->StateT SortSt Sem (WG):=sortPriv% PySem.Builtin.mergeHi
structure MI(f:WH)(la lb eH ra rb:WF):Prop where
 perm:(eH++(ra++rb)).Perm (la++lb)
 so:eH.Pairwise λx y=>f x<=f y
 sa:ra.Pairwise λx y=>f x<=f y
 sb:rb.Pairwise λx y=>f x<=f y
 oa:∀x∈eH,∀y∈ra,f x<=f y
 ob:∀x∈eH,∀y∈rb,f x<=f y
def MI.a{f:WH}{j l eH seg o U:WF}(h:MI f j l eH (seg++o) U)(hs:∀x∈seg,∀y∈U,f x<=f y):MI f j l (eH++seg) o U:=by
 have g:=AQ.mp h.sa;refine⟨?_,AQ.mpr ⟨h.so,g.1,λx I y J=>h.oa x I y<|Am _ J⟩,g.2.1,h.sb,λx I y J=>?_,λx I y J=>?_⟩
 ·have:=h.perm;rw[Ay] at this ⊢;exact this
 ·rcases Ak.mp I with I|I
  ·exact h.oa x I y<|Ah _ J
  ·exact g.2.2 x I y J
 ·rcases Ak.mp I with I|I
  ·exact h.ob x I y J
  ·exact hs x I y J
def MI.b{f:WH}{l o eH seg U g:WF}(h:MI f l o eH U<|seg++g)(hs:∀x∈seg,∀y∈U,f x<=f y):MI f l o (eH++seg) U g:=by
 have j:=AQ.mp h.sb;refine⟨?_,AQ.mpr ⟨h.so,j.1,λx I y J=>h.ob x I y<|Am _ J⟩,h.sa,j.2.1,λx I y J=>?_,λx I y J=>?_⟩
 ·refine List.Perm.trans ?_ h.perm;rw[Ay];exact(BB eH).mpr (by rw[<-Ay,<-Ay];exact(Bx g).mpr Bd)
 ·rcases Ak.mp I with I|I
  ·exact h.oa x I y J
  ·exact hs x I y J
 ·rcases Ak.mp I with I|I
  ·exact h.ob x I y<|Ah _ J
  ·exact j.2.2 x I y J
def kn(f:WH)(I J r:WF):Prop:=r.Perm (I++J)/\r.Pairwise λx y=>f x<=f y
def MI.ea{f:WH}{I J eH U:WF}(h:MI f I J eH U []):kn f I J (eH++U):=⟨by have:=h.perm;rwa[AN] at this,AQ.mpr ⟨h.so,h.sa,h.oa⟩⟩
def MI.eb{f:WH}{g j eH J U:WF}(h:MI f g j eH J U)(hs:∀x∈U,∀y∈J,f x<=f y):kn f g j (eH++U++J):=by
 refine⟨List.Perm.trans ?_ h.perm,?_⟩
 ·rw[Ay];exact(BB eH).mpr Bd
 ·rw[Ay];refine AQ.mpr ⟨h.so,AQ.mpr ⟨h.sb,h.sa,hs⟩,λx l y I=>?_⟩;rcases Ak.mp I with I|I
  ·exact h.ob x l y I
  ·exact h.oa x l y I
structure MP(f:WH)(a b eH:WG)(ia ib:Nat):Prop where
 mi:MI f a.toList b.toList eH.toList (a.toList.drop ia) (b.toList.drop ib)
 sz:eH.size=ia+ib
 la:ia<=a.size
 lb:ib<=b.size
def JF(a:WG)(h:i<a.size):a.toList.drop i=a[i]::a.toList.drop (i+1):=by rw[BZ (by simpa using h)];simp
def gy(a:WG)(i j:Nat):(a.extract i j).toList=(a.toList.drop i).take (j-i):=by rw[Array.toList_extract,List.extract_eq_drop_take]
def JG(l:WF)(i k:Nat):(l.drop i).take k++l.drop (i+k)=l.drop i:=by rw[<-List.drop_drop,A7]
def sF{a:WG}{k:Nat}{x:Keyed}(h:x∈(a.toList.drop i).take k):∃j,∃I:i+j<a.size,j<k/\a[i+j]=x:=by
 obtain⟨j,I,e⟩:=BF h;rw[AX,BS] at I;have h1:i+j<a.size:=by have:a.toList.length=a.size:=A2;omega
 refine⟨j,h1,by omega,?_⟩;rw[<-e];simp
def iV{a:WG}{x:Keyed}(h:x∈a.toList.drop i):∃j,∃I:j<a.size,i<=j/\a[j]=x:=by
 obtain⟨j,I,e⟩:=BF h;rw[BS] at I;have h1:i+j<a.size:=by have:a.toList.length=a.size:=A2;omega
 refine⟨i+j,h1,by exact A9 _ _,?_⟩;rw[<-e];simp
def m_{f:WH}{a:WG}(s:a.toList.Pairwise λx y=>f x<=f y)(I:i<=j)(J:j<a.size):f (a[i]'(by exact oW))<=f a[j]:=by
 rcases DV I with h|h
 ·have:=B3.mp s i j (by simpa using (by exact oW:i<a.size)) (by simpa using J) h;simpa using this
 ·subst h;exact Dn _
section
variable {f:WH}{a b eH:WG}{ia ib:Nat}
def MP.segA(M:MP f a b eH ia ib){k:Nat}(J:ia+k<=a.size)(h:∀i (hi:ia+i<a.size),i<k->∀j (I:j<b.size),ib<=j->f a[ia+i]<=f b[j]):MP f a b (eH++a.extract ia (ia+k)) (ia+k) ib:=by
 refine⟨?_,?_,J,M.lb⟩
 ·rw[A8,gy,show ia+k-ia=k by omega];refine MI.a (by rw[JG];exact M.mi) λx U y g=>?_;obtain⟨i,hi,h1,rfl⟩:=sF U;obtain⟨j,I,h2,rfl⟩:=iV g;exact h i hi h1 j I h2
 ·rw[BW,Dj,M.sz];lia
def MP.segB(M:MP f a b eH ia ib){k:Nat}(J:ib+k<=b.size)(h:∀i (hi:ib+i<b.size),i<k->∀j (I:j<a.size),ia<=j->f b[ib+i]<=f a[j]):MP f a b (eH++b.extract ib (ib+k)) ia (ib+k):=by
 refine⟨?_,?_,M.la,J⟩
 ·rw[A8,gy,show ib+k-ib=k by lia];refine MI.b (by rw[JG];exact M.mi) λx U y g=>?_;obtain⟨i,hi,h1,rfl⟩:=sF U;obtain⟨j,I,h2,rfl⟩:=iV g;exact h i hi h1 j I h2
 ·rw[BW,Dj,M.sz];lia
def MP.oneA(M:MP f a b eH ia ib)(hi:ia<a.size)(h:∀j (I:j<b.size),ib<=j->f a[ia]<=f b[j]):MP f a b (eH.push a[ia]) (ia+1) ib:=by refine⟨?_,by rw[Bt,M.sz];simp +arith only,hi,M.lb⟩;rw[Dt];refine MI.a (seg:=[a[ia]]) (by rw[DC,<-JF a hi];exact M.mi) λx J y U=>?_;obtain⟨j,I,h2,rfl⟩:=iV U;rw[Ao.mp J];exact h j I h2
def MP.oneB(M:MP f a b eH ia ib)(hi:ib<b.size)(h:∀j (I:j<a.size),ia<=j->f b[ib]<=f a[j]):MP f a b (eH.push b[ib]) ia (ib+1):=by refine⟨?_,by rw[Bt,M.sz];exact EM _ _ _,M.la,hi⟩;rw[Dt];refine MI.b (seg:=[b[ib]]) (by rw[DC,<-JF b hi];exact M.mi) λx J y U=>?_;obtain⟨j,I,h2,rfl⟩:=iV U;rw[Ao.mp J];exact h j I h2
def MP.done(M:MP f a b eH ia ib)(h:ib=b.size):kn f a.toList b.toList (eH++a.extract ia++b.extract ib).toList:=by have e:b.toList.drop ib=[]:=Ez (by rw[A2];lia);have m:=M.mi;rw[e] at m;have:=m.ea;rw[A8,A8,gy,gy,e,List.take_nil,AN,Bb (by simp)];exact this
def MP.last(M:MP f a b eH ia ib)(h:ia+1=a.size)(I:∀x∈b.toList,f x<f (a[a.size-1]'(by omega))):kn f a.toList b.toList (eH++b.extract ib++a.extract ia).toList:=by
 have:=M.mi.eb λx J y U=>by
  obtain⟨j,g,h2,rfl⟩:=iV U;have e:j=a.size-1:=by omega
  subst e;exact BL<|I x<|CV J
 rw[A8,A8,gy,gy,Bb (by simp),Bb (by simp)];exact this
end
section
variable {w:Wu}{κ:SortKind}{Ok:Keyed->Prop}{f:WH}
abbrev gx(st:SortSt)(g:Nat):SortSt:=SortSt.mk' (kindOf st) (arrOf st) (pendingOf st) g<|failedOf st
def uX{c:Prop}{_:Decidable c}{K:β->StateT SortSt Sem α}{y:β}{Q:α->SortSt->Prop}{st:SortSt}(key:∀z,wpS (model prog w) A E s (K z) Q st):∀x,wpS (model prog w) A E s (if c then K x else K y) Q st:=λx=>by
 by_cases h:c
 ·rw[AD h];exact key x
 ·rw[AB h];exact key y
def lv{I:Type}{c:Prop}{_:Decidable c}{K T:β->I->StateT SortSt Sem α}{P:β->I->Prop}{x:β}{i:I}{Q:α->SortSt->Prop}{st:SortSt}(key:∀o j,P o j->wpS (model prog w) A E s (K o j) Q st)(J:¬c->P x i)
 (U:c->(∀o j,P o j->wpS (model prog w) A E s (K o j) Q st)->wpS (model prog w) A E s (T x i) Q st):∀o,x=o->∀j,i=j->wpS (model prog w) A E s (if c then T o j else K o j) Q st:=by
 rintro _ rfl _ rfl;by_cases h:c
 ·rw[AD h];exact U h key
 ·rw[AB h];exact key x i<|J h
def xw{c:Prop} [Decidable c]{x y:StateT SortSt Sem α}{Q:α->SortSt->Prop}{st:SortSt}(h:c)(k:wpS M A E s x Q st):wpS M A E s (if c then x else y) Q st:=by rw[AD h];exact k
def jz{c:Prop} [Decidable c]{x y:StateT SortSt Sem α}{Q:α->SortSt->Prop}{st:SortSt}(h:¬c)(k:wpS M A E s y Q st):wpS M A E s (if c then x else y) Q st:=by rw[AB h];exact k
def fe{c:Prop} [Decidable c]{x y:StateT SortSt Sem α}{Q:α->SortSt->Prop}{st:SortSt}(h:c->wpS M A E s x Q st)(k:¬c->wpS M A E s y Q st):wpS M A E s (if c then x else y) Q st:=by
 by_cases d:c
 ·rw[AD d];exact h d
 ·rw[AB d];exact k d
def Gi{a:WG}(ok:∀x∈a.toList,Ok x)(U:a.toList.Pairwise λx y=>f x<=f y)(d:Keyed):∃t:Nat->Keyed,(∀i (hi:i<a.size),t i=a[i])/\(∀i,i<a.size->a[i]?=some (t i))/\(∀i,i<a.size->Ok (t i))/\∀{i j},i<=j->j<a.size->f (t i)<=f (t j):=by
 have e:∀i (hi:i<a.size),(a[i]?).getD d=a[i]:=λi hi=>by simp[hi]
 exact⟨λi=>(a[i]?).getD d,e,λi hi=>by simp[hi],λi hi=>by show Ok ((a[i]?).getD d);rw[e i hi];exact ok _ (by simp),λ{i j} I J=>by show f ((a[i]?).getD d)<=f ((a[j]?).getD d);rw[e i (by exact oW),e j J];exact m_ U I J⟩
theorem Si(O:Ord prog w A s κ Ok f){a b:WG}{st:SortSt}{Q:WG->SortSt->Prop}(hk:kindOf st=κ)(bp:∀x∈a.toList,Ok x)(bq:∀x∈b.toList,Ok x)
 (sa:a.toList.Pairwise λx y=>f x<=f y) (sb:b.toList.Pairwise λx y=>f x<=f y) (ha:0<a.size) (hb:0<b.size) (h0:∀x∈a.toList,f b[0]<f x) (hl:∀x∈b.toList,f x<f a[a.size-1])
 (q:∀r g,kn f a.toList b.toList r.toList->Q r (gx st g)):wpS (model prog w) A E s (Sg a b) Q st:=by
 refine Ab<|wpS_lift<|Bw ⟨rfl,?_⟩;refine Ab<|xp (x:=b[0]) (by simp[hb]) ?_;dsimp only;have M0:MP f a b #[b[0]] 0 1:=by have M:MP f a b #[] 0 0:=⟨⟨by simp,by simp,by simpa using sa,by simpa using sb,by simp,by simp⟩,rfl,A1 _,A1 _⟩;have:=M.oneB hb λj hj _=>BL<|h0 a[j] (by simp);simpa using this
 by_cases c1:(1==b.size)=true
 ·refine xw c1 ?_;exact Ad<|q _ (gallopOf st)<|M0.done (by simpa using c1)
 refine jz c1 ?_;by_cases c2:(0+1==a.size)=true
 ·refine xw c2 ?_;exact Ad<|q _ (gallopOf st)<|M0.last (by simpa using c2) hl
 refine jz c2 ?_;have c1:¬1=b.size:=by simpa using c1
 have c2:¬1=a.size:=by simpa using c2
 refine Ab<|wpS_get ?_;have br:∀i (hi:i<a.size),Ok a[i]:=λi hi=>bp _ (by simp);have c3:∀i (hi:i<b.size),Ok b[i]:=λi hi=>bq _ (by simp);have ax:∀i (hi:i<a.size),a[i]?=some a[i]:=λi hi=>by simp[hi]
 have ay:∀i (hi:i<b.size),b[i]?=some b[i]:=λi hi=>by simp[hi]
 obtain⟨tA,bh,c8,c9,cb⟩:=Gi (f:=f) bp sa b[0];obtain⟨tB,c4,cc,cm,cn⟩:=Gi (f:=f) bq sb b[0];refine Ab (AU (AJ (I:=λx c p=>(∃g,p=gx st g)/\∃a3 l U mg,c=(none,a3,l,U,mg)/\MP f a b a3 l U/\l+1<a.size/\U<b.size/\x+1<=a3.size)
  (Q:=λc p=>(∃g,p=gx st g)/\∃r,c.1=some r/\kn f a.toList b.toList r.toList) ?_ ?_ ⟨⟨gallopOf st,rfl⟩,_,_,_,_,rfl,M0,by exact zR,by exact zR,by simp⟩) ?_)
 ·rintro x c p _ hx ⟨⟨g,rfl⟩,a3,l,U,mg,rfl,M,T,t,hs⟩;dsimp only;refine Ab (AU (AJ (I:=λy c p=>p=gx st g/\∃J l U ac bc,c=(none,J,l,U,ac,bc)/\MP f a b J l U/\l+1<a.size/\U<b.size/\a3.size+y<=J.size)
   (Q:=λc p=>p=gx st g/\((∃r,c.1=some r/\kn f a.toList b.toList r.toList)\/∃J l U ac bc,c=(none,J,l,U,ac,bc)/\MP f a b J l U/\l+1<a.size/\U<b.size/\a3.size+1<=J.size)) ?_ ?_ ⟨rfl,_,_,_,_,_,rfl,M,T,t,An _⟩) ?_)
  ·rintro y c p _ hy ⟨rfl,J,l,U,ac,bc,rfl,M,T,t,c5⟩;have aL:l<a.size:=by exact hJ
   dsimp only;refine Ab<|xp (ay U t) ?_;refine Ab<|xp (ax l aL) ?_;refine Ab<|w_lt O hk (c3 U t) (br l aL) ?_;dsimp only;by_cases c:f b[U]<f a[l]
   ·refine xw (Aw c) ?_;refine Ab<|xp (ay U t) ?_;have M':=M.oneB t λj hj a1=>BL<|Int.lt_of_lt_of_le c<|m_ sa a1 hj;have s2:(J.push b[U]).size=J.size+1:=Bt _;by_cases e1:(U+1==b.size)=true
    ·refine xw e1 ?_;exact Ad ⟨rfl,.inl ⟨_,rfl,M'.done (by simpa using e1)⟩⟩
    ·refine jz e1 ?_;have e1:¬U+1=b.size:=by simpa using e1
     refine fe (λ_=>?_) λ_=>?_
     ·exact Ad ⟨rfl,.inr ⟨_,_,_,_,_,rfl,M',T,by exact zR,by lia⟩⟩
     ·exact Ad ⟨rfl,_,_,_,_,_,rfl,M',T,by lia,by lia⟩
   ·refine jz (by rw[Au c];decide) ?_;refine Ab<|xp (ax l aL) ?_;have M':=M.oneA (by lia) λj hj a1=>BQ (by omega)<|m_ sb a1 hj;have s2:(J.push a[l]).size=J.size+1:=Bt _;by_cases e1:(l+1+1==a.size)=true
    ·refine xw e1 ?_;exact Ad ⟨rfl,.inl ⟨_,rfl,M'.last (by simpa using e1) hl⟩⟩
    ·refine jz e1 ?_;have e1:¬l+1+1=a.size:=by simpa using e1
     refine fe (λ_=>?_) λ_=>?_
     ·exact Ad ⟨rfl,.inr ⟨_,_,_,_,_,rfl,M',by exact zR,t,by lia⟩⟩
     ·exact Ad ⟨rfl,_,_,_,_,_,rfl,M',by lia,t,by lia⟩
  ·rintro c p ⟨rfl,J,l,U,ac,bc,rfl,M,T,t,c5⟩;have:=M.sz;omega
  ·rintro c p ⟨rfl,h⟩;rcases h with⟨r,er,hr⟩|⟨bd,l,U,ac,bc,rfl,M,T,t,c5⟩
   ·obtain⟨c1,c2⟩:=c;cases er;exact Ad ⟨⟨g,rfl⟩,r,rfl,hr⟩
   ·dsimp only;refine Ab<|wpS_lift<|Bw ⟨rfl,?_⟩;refine Ab (AU (AJ (I:=λy c p=>(∃g,p=gx st g)/\∃J l U mg ac bc,c=(none,J,l,U,mg,ac,bc)/\MP f a b J l U/\l+1<a.size/\U<b.size/\bd.size+y<=J.size)
     (Q:=λc p=>(∃g,p=gx st g)/\((∃r,c.1=some r/\kn f a.toList b.toList r.toList)\/∃J l U mg ac bc,c=(none,J,l,U,mg,ac,bc)/\MP f a b J l U/\l+1<a.size/\U<b.size/\bd.size<=J.size)) ?_ ?_ ⟨⟨g,rfl⟩,_,_,_,_,_,_,rfl,M,T,t,An _⟩) ?_)
    ·rintro y c p _ hy ⟨⟨g',rfl⟩,J,l,U,bi,ac,bc,rfl,M,T,t,bf⟩;have aL:l<a.size:=by exact hJ
     dsimp only;generalize bi-1=cv;revert cv;refine uX (y:=bi) λcy=>?_
     all_goals
      refine Ab<|wpS_modify ?_;refine Ab<|xp (ay U t) ?_;refine Ab<|cx O hk (c3 U t) (by lia) (λi=>tA<|l+i) (λi hi=>⟨c8 _ (by lia),c9 _ (by lia)⟩) (λi=>!decide (f b[U]<f (tA<|l+i))) (λi hi=>by rw[AB (by simp)]) (λi j a1 hj h=>?_) λk cI al ba=>?_
      ·have:=cb (i:=l+i) (j:=l+j) (by lia) (by lia);simp at h ⊢;lia
      have al:∀i,i<k->f (tA<|l+i)<=f b[U]:=λi hi=>by have:=al i hi;simpa using this
      have ba:∀i,k<=i->i<a.size-l->f b[U]<f (tA<|l+i):=λi hi hj=>by have:=ba i hi hj;simpa using this
      have kl:k<a.size-l:=by
       rcases DV cI with h|h
       ·exact h
       ·exfalso;have h1:=al (a.size-1-l) (by lia);have h2:=hl b[U] (by simp);rw[show l+(a.size-1-l)=a.size-1 by lia,bh _ (by exact D_)] at h1;omega
      have M1:MP f a b (J++a.extract l (l+k)) (l+k) U:=M.segA (by lia) λi hi bj j hj a1=>by have h1:=al i bj;rw[bh _ hi] at h1;exact BQ h1<|m_ sb a1 hj
      have pB:∀j (hj:j<a.size),l+k<=j->f b[U]<=f a[j]:=λj hj a1=>by have h1:=ba (j-l) (by lia) (by lia);rw[show l+(j-l)=j by lia,bh _ hj] at h1;lia
      dsimp only;generalize cP:J=o0;generalize d0:l=j0;revert j0;revert o0;refine lv (P:=λ(o:WG) (j:Nat)=>MP f a b o j U/\J.size<=o.size/\j+1<a.size/\∀j' (hj:j'<a.size),j<=j'->f b[U]<=f a[j']) (x:=J) (i:=l) (λa2 C hP=>?tail) (λck=>?hN) λck key=>?hY
      case hN=>
       obtain rfl:k=0:=by lia
       exact⟨M,An _,T,λj hj a1=>pB j hj (by lia)⟩
      case hY=>
       by_cases e1:(l+k+1==a.size)=true
       ·refine xw e1 ?_;exact Ad ⟨⟨_,rfl⟩,.inl ⟨_,rfl,M1.last (by simpa using e1) hl⟩⟩
       ·refine jz e1 (jz (show ¬(l+k==a.size)=true by simp;lia) ?_);have e1:¬l+k+1=a.size:=by simpa using e1
        exact key _ _ ⟨M1,by rw[BW];exact A9 _ _,by lia,pB⟩
      clear pB M1 al ba;obtain⟨M1,h3,l3,pB⟩:=hP;have bn:C<a.size:=by exact hJ
      all_goals
       refine Ab<|xp (ay U t) ?_;have M2:=M1.oneB t pB;have s2:(a2.push b[U]).size=a2.size+1:=Bt _;by_cases e2:(U+1==b.size)=true
       case' pos=>
        refine xw e2 ?_;exact Ad ⟨⟨_,rfl⟩,.inl ⟨_,rfl,M2.done (by simpa using e2)⟩⟩
       case' neg=>
        refine jz e2 ?_;have e2:¬U+1=b.size:=by simpa using e2
        refine Ab<|xp (ax C bn) ?_;refine Ab<|cx O hk (br C bn) (by lia) (λi=>tB<|U+1+i) (λi hi=>⟨cc _ (by omega),cm _ (by lia)⟩) (λi=>decide<|f (tB<|U+1+i)<f a[C]) (λi hi=>by rw[AD rfl]) (λi j a1 hj h=>?_) λk2 dc a4 a5=>?_
        ·have:=cn (i:=U+1+i) (j:=U+1+j) (by lia) (by omega);simp at h ⊢;lia
        have a4:∀i,i<k2->f (tB<|U+1+i)<f a[C]:=λi hi=>by have:=a4 i hi;simpa using this
        have a5:∀i,k2<=i->i<b.size-(U+1)->f a[C]<=f (tB<|U+1+i):=λi hi hj=>by have:=a5 i hi hj;simpa using this
        have M3:MP f a b (a2.push b[U]++b.extract (U+1) (U+1+k2)) C (U+1+k2):=M2.segB (by omega) λi hi bj j hj a1=>by have h1:=a4 i bj;rw[c4 _ hi] at h1;exact BQ (BL h1)<|m_ sa a1 hj
        have pA:∀j (hj:j<b.size),U+1+k2<=j->f a[C]<=f b[j]:=λj hj a1=>by have h1:=a5 (j-(U+1)) (by lia) (by omega);rw[show U+1+(j-(U+1))=j by lia,c4 _ hj] at h1;exact h1
        dsimp only;obtain⟨o3,c6⟩:∃o,o=a2.push b[U]:=⟨_,rfl⟩;obtain⟨bb,c7⟩:∃i,i=U+1:=⟨_,rfl⟩;rw[<-c6] at s2;rw[<-c6,<-c7] at M2 M3 ⊢;rw[<-c7] at pA dc;generalize cP:o3=o0;generalize d0:bb=j0;revert j0;revert o0;refine lv (P:=λ(o:WG) (j:Nat)=>MP f a b o C j/\a2.size+1<=o.size/\j<b.size/\∀j' (hj:j'<b.size),j<=j'->f a[C]<=f b[j']) (x:=o3) (i:=bb) (λbg di hP=>?tail2) (λck=>?hN) λck key=>?hY
        case hN=>
         obtain rfl:k2=0:=by lia
         exact⟨M2,by lia,by lia,λj hj a1=>pA j hj (by lia)⟩
        case hY=>
         by_cases e3:(bb+k2==b.size)=true
         ·refine xw e3 ?_;exact Ad ⟨⟨_,rfl⟩,.inl ⟨_,rfl,M3.done (by simpa using e3)⟩⟩
         ·refine jz e3 ?_;have e3:¬bb+k2=b.size:=by simpa using e3
          exact key _ _ ⟨M3,by rw[BW];lia,by lia,pA⟩
        clear pA M3 a4 a5;obtain⟨M3,h4,l4,pA⟩:=hP
        all_goals
         refine Ab<|xp (ax C bn) ?_;have M4:=M3.oneA (by lia) pA;have s4:(bg.push a[C]).size=bg.size+1:=Bt _;by_cases e4:(C+1+1==a.size)=true
         ·refine xw e4 ?_;exact Ad ⟨⟨_,rfl⟩,.inl ⟨_,rfl,M4.last (by simpa using e4) hl⟩⟩
         ·refine jz e4 ?_;have e4:¬C+1+1=a.size:=by simpa using e4
          refine fe (λ_=>?_) λ_=>?_
          ·exact Ad ⟨⟨_,rfl⟩,.inr ⟨_,_,_,_,_,_,rfl,M4,by exact zR,l4,by lia⟩⟩
          ·exact Ad ⟨⟨_,rfl⟩,_,_,_,_,_,_,rfl,M4,by lia,l4,by lia⟩
    ·rintro c p ⟨⟨g',rfl⟩,J,l,U,bi,ac,bc,rfl,M,T,t,bf⟩;have:=M.sz;omega
    ·rintro c p ⟨⟨g',rfl⟩,h⟩;rcases h with⟨r,er,hr⟩|⟨de,l,U,cy,ac,bc,rfl,M,T,t,bf⟩
     ·obtain⟨c1,c2⟩:=c;cases er;exact Ad ⟨⟨g',rfl⟩,r,rfl,hr⟩
     ·dsimp only;refine Ab<|wpS_modify ?_;exact Ad ⟨⟨_,rfl⟩,_,_,_,_,rfl,M,T,t,by lia⟩
 ·rintro c p ⟨⟨g,rfl⟩,a3,l,U,mg,rfl,M,T,t,hs⟩;have:=M.sz;lia
 ·rintro c p ⟨⟨g,rfl⟩,r,er,hr⟩;obtain⟨c1,c2⟩:=c;cases er;exact Ad<|q r g hr
end
structure MH(f:WH)(la lb ra rb o:WF):Prop where
 perm:(ra++rb++o).Perm (la++lb)
 so:o.Pairwise λx y=>f x<=f y
 sa:ra.Pairwise λx y=>f x<=f y
 sb:rb.Pairwise λx y=>f x<=f y
 oa:∀x∈ra,∀y∈o,f x<=f y
 ob:∀x∈rb,∀y∈o,f x<=f y
def MH.a{f:WH}{l p o seg U g:WF}(h:MH f l p (U++seg) g o)(hs:∀x∈g,∀y∈seg,f x<=f y):MH f l p U g (seg++o):=by
 have j:=AQ.mp h.sa;refine⟨List.Perm.trans ?_ h.perm,AQ.mpr ⟨j.2.1,h.so,λx J y I=>h.oa x (Ah _ J) y I⟩,j.1,h.sb,λx J y I=>?_,λx J y I=>?_⟩
 ·rw[<-Ay];refine(Bx o).mpr ?_;rw[Ay,Ay];exact(BB U).mpr Bd
 ·rcases Ak.mp I with I|I
  ·exact j.2.2 x J y I
  ·exact h.oa x (Am _ J) y I
 ·rcases Ak.mp I with I|I
  ·exact hs x J y I
  ·exact h.ob x J y I
def MH.b{f:WH}{l p o seg U g:WF}(h:MH f l p U (g++seg) o)(hs:∀x∈U,∀y∈seg,f x<=f y):MH f l p U g (seg++o):=by
 have j:=AQ.mp h.sb;refine⟨?_,AQ.mpr ⟨j.2.1,h.so,λx J y I=>h.ob x (Ah _ J) y I⟩,h.sa,j.1,λx J y I=>?_,λx J y I=>?_⟩
 ·have:=h.perm;rw[<-Ay,Ay U g seg];exact this
 ·rcases Ak.mp I with I|I
  ·exact hs x J y I
  ·exact h.oa x J y I
 ·rcases Ak.mp I with I|I
  ·exact j.2.2 x J y I
  ·exact h.ob x (Am _ J) y I
def MH.ea{f:WH}{I J o U:WF}(h:MH f I J [] U o):kn f I J (U++o):=⟨by have:=h.perm;rwa[Df] at this,AQ.mpr ⟨h.sb,h.so,h.ob⟩⟩
def MH.eb{f:WH}{g j o J U:WF}(h:MH f g j J U o)(hs:∀x∈U,∀y∈J,f x<=f y):kn f g j (U++J++o):=by
 refine⟨List.Perm.trans ?_ h.perm,?_⟩
 ·exact(Bx o).mpr Bd
 ·refine AQ.mpr ⟨AQ.mpr ⟨h.sb,h.sa,hs⟩,h.so,λx I y l=>?_⟩;rcases Ak.mp I with I|I
  ·exact h.ob x I y l
  ·exact h.oa x I y l
structure HP(f:WH)(a b eH:WG)(na nb:Nat):Prop where
 mi:MH f a.toList b.toList (a.toList.take na) (b.toList.take nb) eH.toList.reverse
 sz:eH.size+na+nb=a.size+b.size
 la:na<=a.size
 lb:nb<=b.size
def JH(a:WG)(h:i<a.size):a.toList.take (i+1)=a.toList.take i++[a[i]]:=by rw[Bm];simp[h]
def hX{a:WG}{x:Keyed}(h:x∈a.toList.take i):∃j,∃I:j<a.size,j<i/\a[j]=x:=by
 obtain⟨j,I,e⟩:=BF h;rw[AX] at I;have h1:j<a.size:=by have:a.toList.length=a.size:=A2;omega
 refine⟨j,h1,by omega,?_⟩;rw[<-e];simp
def Gj(l:WF){k:Nat}(h:i<=k):l.take i++(l.drop i).take (k-i)=l.take k:=by have:=List.take_add (l:=l) (i:=i) (j:=k-i);rw[show i+(k-i)=k by omega] at this;exact this.symm
section
variable {f:WH}{a b eH:WG}{nb:Nat}
def HP.segA(M:HP f a b eH na nb){k:Nat}(J:k<=na)(h:∀i (hi:i<a.size),k<=i->i<na->∀j (I:j<b.size),j<nb->f b[j]<=f a[i]):HP f a b (eH++(a.extract k na).reverse) k nb:=by
 have l:=M.la;refine⟨?_,?_,by exact GQ,M.lb⟩
 ·rw[A8,C4,CW,List.reverse_reverse,gy];refine MH.a (by rw[Gj _ J];exact M.mi) λx U y g=>?_;obtain⟨j,I,h2,rfl⟩:=hX U;obtain⟨i,hi,h1,rfl⟩:=sF g;exact h (k+i) hi (by exact A9 _ _) (by lia) j I h2
 ·have:=M.sz;rw[BW,Array.size_reverse,Dj];lia
def HP.segB(M:HP f a b eH na nb){k:Nat}(J:k<=nb)(h:∀i (hi:i<b.size),k<=i->i<nb->∀j (I:j<a.size),j<na->f a[j]<=f b[i]):HP f a b (eH++(b.extract k nb).reverse) na k:=by
 have l:=M.lb;refine⟨?_,?_,M.la,by lia⟩
 ·rw[A8,C4,CW,List.reverse_reverse,gy];refine MH.b (by rw[Gj _ J];exact M.mi) λx U y g=>?_;obtain⟨j,I,h2,rfl⟩:=hX U;obtain⟨i,hi,h1,rfl⟩:=sF g;exact h (k+i) hi (by lia) (by lia) j I h2
 ·have:=M.sz;rw[BW,Array.size_reverse,Dj];lia
def HP.oneA(M:HP f a b eH (na+1) nb)(hi:na<a.size)(h:∀j (I:j<b.size),j<nb->f b[j]<=f a[na]):HP f a b (eH.push a[na]) na nb:=by refine⟨?_,by have:=M.sz;rw[Bt];lia,by exact hJ,M.lb⟩;rw[Dt,C4];refine MH.a (seg:=[a[na]]) (by rw[<-JH a hi];exact M.mi) λx J y U=>?_;obtain⟨j,I,h2,rfl⟩:=hX J;rw[Ao.mp U];exact h j I h2
def HP.oneB(M:HP f a b eH na<|nb+1)(hi:nb<b.size)(h:∀j (I:j<a.size),j<na->f a[j]<=f b[nb]):HP f a b (eH.push b[nb]) na nb:=by refine⟨?_,by have:=M.sz;rw[Bt];lia,M.la,by lia⟩;rw[Dt,C4];refine MH.b (seg:=[b[nb]]) (by rw[<-JH b hi];exact M.mi) λx J y U=>?_;obtain⟨j,I,h2,rfl⟩:=hX J;rw[Ao.mp U];exact h j I h2
def HP.done(M:HP f a b eH na nb)(h:na=0):kn f a.toList b.toList (a.extract 0 na++b.extract 0 nb++eH.reverse).toList:=by subst h;have:=M.mi;rw[List.take_zero] at this;have:=this.ea;rw[A8,A8,gy,gy,CW];simpa using this
def HP.last(M:HP f a b eH na nb)(h:nb=1)(U:0<b.size)(h0:∀x∈a.toList,f b[0]<f x):kn f a.toList b.toList (b.extract 0 nb++a.extract 0 na++eH.reverse).toList:=by
 have:=M.mi.eb λx I y J=>by
  obtain⟨j,g,h2,rfl⟩:=hX I;have e:j=0:=by lia
  subst e;exact BL<|h0 y<|BH J
 rw[A8,A8,gy,gy,CW];simpa using this
end
def HP.preA{f:WH}{a b eH:WG}{nb:Nat}(M:HP f a b eH na nb)(h0:0<na)(h:∀j (I:j<b.size),j<nb->f b[j]<=f (a[na-1]'(by have:=M.la;omega))):HP f a b (eH.push (a[na-1]'(by have:=M.la;omega))) (na-1) nb:=by obtain⟨n,rfl⟩:∃n,na=n+1:=⟨na-1,by lia⟩;have J:=M.la;exact HP.oneA M (by assumption) h
def HP.preB{f:WH}{a b eH:WG}{nb:Nat}(M:HP f a b eH na nb)(h0:0<nb)(h:∀j (I:j<a.size),j<na->f a[j]<=f (b[nb-1]'(by have:=M.lb;omega))):HP f a b (eH.push (b[nb-1]'(by have:=M.lb;lia))) na (nb-1):=by obtain⟨n,rfl⟩:∃n,nb=n+1:=⟨nb-1,by lia⟩;have J:=M.lb;exact HP.oneB M (by lia) h
section
variable {w:Wu}{κ:SortKind}{Ok:Keyed->Prop}{f:WH}
theorem Sj(O:Ord prog w A s κ Ok f){a b:WG}{st:SortSt}{Q:WG->SortSt->Prop}(hk:kindOf st=κ)(br:∀x∈a.toList,Ok x)(c3:∀x∈b.toList,Ok x)
 (sa:a.toList.Pairwise λx y=>f x<=f y) (sb:b.toList.Pairwise λx y=>f x<=f y) (ha:0<a.size) (hb:0<b.size) (h0:∀x∈a.toList,f b[0]<f x) (hl:∀x∈b.toList,f x<f a[a.size-1])
 (q:∀r g,kn f a.toList b.toList r.toList->Q r (gx st g)):wpS (model prog w) A E s (Sh a b) Q st:=by
 have c4:∀i (t:i<a.size),Ok a[i]:=λi t=>br _ (by simp);have c5:∀i (t:i<b.size),Ok b[i]:=λi t=>c3 _ (by simp);have ax:∀i (t:i<a.size),a[i]?=some a[i]:=λi t=>by simp[t]
 have aL:∀i (t:i<b.size),b[i]?=some b[i]:=λi t=>by simp[t]
 obtain⟨tA,c6,bj,cb,cc⟩:=Gi (f:=f) br sa b[0];obtain⟨tB,bn,bp,cm,cv⟩:=Gi (f:=f) c3 sb b[0];have bj:∀i,i<a.size->a[0+i]?=some (tA i):=λi t=>by rw[DN];exact bj i t
 have bp:∀i,i<b.size->b[0+i]?=some (tB i):=λi t=>by rw[DN];exact bp i t
 refine Ab<|wpS_lift<|Bw ⟨rfl,?_⟩;refine Ab<|xp (x:=a[a.size-1]) (ax _ (by exact D_)) ?_;dsimp only;obtain⟨n0,dv⟩:∃n,a.size=n+1:=⟨a.size-1,by lia⟩;have M0:HP f a b #[a[a.size-1]] (a.size-1) b.size:=by
  have M:HP f a b #[] (a.size-1+1) b.size:=by
   refine⟨⟨?_,by simp,?_,?_,by simp,by simp⟩,by simp;lia,by exact D_,An _⟩
   ·rw[Bb (by simp;lia),Bb (by simp)];simp
   ·rw[Bb (by simp;lia)];exact sa
   ·rw[Bb (by simp)];exact sb
  have:=M.oneA (by lia) λj hj _=>BL<|hl b[j] (by simp);simpa using this
 by_cases c1:(a.size-1==0)=true
 ·refine xw c1 ?_;exact Ad<|q _ (gallopOf st)<|M0.done (by simpa using c1)
 refine jz c1 ?_;by_cases c2:(b.size==1)=true
 ·refine xw c2 ?_;exact Ad<|q _ (gallopOf st)<|M0.last (by simpa using c2) hb h0
 refine jz c2 ?_;have c1:¬a.size-1=0:=by simpa using c1
 have c2:¬b.size=1:=by simpa using c2
 refine Ab<|wpS_get ?_;refine Ab (AU (AJ (I:=λx c l=>(∃g,l=gx st g)/\∃U nb a5 mg,c=(none,U,nb,a5,mg)/\HP f a b a5 U nb/\0<U/\1<nb/\x+1<=a5.size)
  (Q:=λc l=>(∃g,l=gx st g)/\∃r,c.1=some r/\kn f a.toList b.toList r.toList) ?_ ?_ ⟨⟨gallopOf st,rfl⟩,_,_,_,_,rfl,M0,by exact FD,by lia,by simp⟩) ?_)
 ·rintro x c l _ hx ⟨⟨g,rfl⟩,U,nb,a5,mg,rfl,M,C,a1,hs⟩;dsimp only;refine Ab (AU (AJ (I:=λy c l=>l=gx st g/\∃U nb J ac bc,c=(none,U,nb,J,ac,bc)/\HP f a b J U nb/\0<U/\1<nb/\a5.size+y<=J.size)
   (Q:=λc l=>l=gx st g/\((∃r,c.1=some r/\kn f a.toList b.toList r.toList)\/∃U nb J ac bc,c=(none,U,nb,J,ac,bc)/\HP f a b J U nb/\0<U/\1<nb/\a5.size+1<=J.size)) ?_ ?_ ⟨rfl,_,_,_,_,_,rfl,M,C,a1,An _⟩) ?_)
  ·rintro y c l _ hy ⟨rfl,U,nb,J,ac,bc,rfl,M,C,a1,c7⟩;have cy:=M.la;have cI:=M.lb;have a2:nb-1<b.size:=by omega
   have ay:U-1<a.size:=by lia
   dsimp only;refine Ab<|xp (aL (nb-1) a2) ?_;refine Ab<|xp (ax (U-1) ay) ?_;refine Ab<|w_lt O hk (c5 (nb-1) a2) (c4 (U-1) ay) ?_;dsimp only;by_cases c:f b[nb-1]<f a[U-1]
   ·refine xw (Aw c) ?_;refine Ab<|xp (ax (U-1) ay) ?_;have M':=M.preA C λj hj T=>BL<|Int.lt_of_le_of_lt (m_ sb (i:=j) (j:=nb-1) (CY T) a2) c;have s2:(J.push a[U-1]).size=J.size+1:=Bt _;by_cases e1:(U-1==0)=true
    ·refine xw e1 ?_;exact Ad ⟨rfl,.inl ⟨_,rfl,M'.done (by simpa using e1)⟩⟩
    ·refine jz e1 ?_;have e1:¬U-1=0:=by simpa using e1
     refine fe (λ_=>?_) λ_=>?_
     ·exact Ad ⟨rfl,.inr ⟨_,_,_,_,_,rfl,M',by exact FD,a1,by lia⟩⟩
     ·exact Ad ⟨rfl,_,_,_,_,_,rfl,M',by lia,a1,by lia⟩
   ·refine jz (by rw[Au c];decide) ?_;refine Ab<|xp (aL (nb-1) a2) ?_;have M':=M.preB (by exact hJ) λj hj T=>BQ (m_ sa (i:=j) (j:=U-1) (CY T) ay) (by omega);have s2:(J.push b[nb-1]).size=J.size+1:=Bt _;by_cases e1:(nb-1==1)=true
    ·refine xw e1 ?_;exact Ad ⟨rfl,.inl ⟨_,rfl,M'.last (by simpa using e1) hb h0⟩⟩
    ·refine jz e1 ?_;have e1:¬nb-1=1:=by simpa using e1
     refine fe (λ_=>?_) λ_=>?_
     ·exact Ad ⟨rfl,.inr ⟨_,_,_,_,_,rfl,M',C,by lia,by lia⟩⟩
     ·exact Ad ⟨rfl,_,_,_,_,_,rfl,M',C,by lia,by lia⟩
  ·rintro c l ⟨rfl,U,nb,J,ac,bc,rfl,M,C,a1,c7⟩;have:=M.sz;omega
  ·rintro c l ⟨rfl,h⟩;rcases h with⟨r,er,hr⟩|⟨U,nb,bg,ac,bc,rfl,M,C,a1,c7⟩
   ·obtain⟨c1,c2⟩:=c;cases er;exact Ad ⟨⟨g,rfl⟩,r,rfl,hr⟩
   ·dsimp only;refine Ab<|wpS_lift<|Bw ⟨rfl,?_⟩;refine Ab (AU (AJ (I:=λy c l=>(∃g,l=gx st g)/\∃U nb J mg ac bc,c=(none,U,nb,J,mg,ac,bc)/\HP f a b J U nb/\0<U/\1<nb/\bg.size+y<=J.size)
     (Q:=λc l=>(∃g,l=gx st g)/\((∃r,c.1=some r/\kn f a.toList b.toList r.toList)\/∃U nb J mg ac bc,c=(none,U,nb,J,mg,ac,bc)/\HP f a b J U nb/\0<U/\1<nb/\bg.size<=J.size)) ?_ ?_ ⟨⟨g,rfl⟩,_,_,_,_,_,_,rfl,M,C,a1,An _⟩) ?_)
    ·rintro y c l _ hy ⟨⟨g',rfl⟩,U,nb,J,bq,ac,bc,rfl,M,C,a1,bh⟩;have cy:=M.la;have cI:=M.lb;have a2:nb-1<b.size:=by omega
     have ay:U-1<a.size:=by lia
     dsimp only;generalize bq-1=cP;revert cP;refine uX (y:=bq) λd0=>?_
     all_goals
      refine Ab<|wpS_modify ?_;refine Ab<|xp (aL (nb-1) a2) ?_;refine Ab<|cx O hk (c5 (nb-1) a2) (by exact D_) tA (λi t=>⟨bj _ (by exact FC),cb _ (by lia)⟩) (λi=>!decide (f b[nb-1]<f (tA i))) (λi t=>by rw[AB (by simp)]) (λi j T hj h=>?_) λk dc ba bb=>?_
      ·have:=cc (i:=i) (j:=j) (by lia) (by exact FC);simp at h ⊢;lia
      have ba:∀i,i<k->f (tA i)<=f b[nb-1]:=λi t=>by have:=ba i t;simpa using this
      have bb:∀i,k<=i->i<U->f b[nb-1]<f (tA i):=λi t hj=>by have:=bb i t hj;simpa using this
      have M1:HP f a b (J++(a.extract k U).reverse) k nb:=M.segA dc λi t h1 h2 j hj T=>by have h3:=bb i h1 h2;rw[c6 _ t] at h3;exact BQ (m_ sb (i:=j) (j:=nb-1) (CY T) a2)<|BL h3
      have pB:∀j (hj:j<a.size),j<k->f a[j]<=f b[nb-1]:=λj hj T=>by have h1:=ba j T;rw[c6 _ hj] at h1;exact h1
      dsimp only;generalize dV:U-k=cn;generalize de:J=o0;generalize di:U=j0;revert j0;revert o0;refine lv (P:=λ(o:WG) (j:Nat)=>HP f a b o j nb/\J.size<=o.size/\0<j/\∀j' (hj:j'<a.size),j'<j->f a[j']<=f b[nb-1]) (x:=J) (i:=U) (λa3 p hP=>?tail) (λck=>?hN) λck key=>?hY
      case hN=>
       obtain rfl:k=U:=by lia
       exact⟨M,An _,by lia,pB⟩
      case hY=>
       by_cases e1:(k==0)=true
       ·refine xw e1 ?_;exact Ad ⟨⟨_,rfl⟩,.inl ⟨_,rfl,M1.done (by simpa using e1)⟩⟩
       ·refine jz e1 ?_;have e1:¬k=0:=by simpa using e1
        exact key _ _ ⟨M1,by rw[BW];exact A9 _ _,by exact FD,pB⟩
      clear pB M1 ba bb;obtain⟨M1,h3,l3,pB⟩:=hP
      all_goals
       have dr:=M1.la;have bd:p-1<a.size:=by lia
       refine Ab<|xp (aL (nb-1) a2) ?_;have M2:=M1.preB (by exact hJ) pB;have s2:(a3.push b[nb-1]).size=a3.size+1:=Bt _;by_cases e2:(nb-1==1)=true
       case' pos=>
        refine xw e2 ?_;exact Ad ⟨⟨_,rfl⟩,.inl ⟨_,rfl,M2.last (by simpa using e2) hb h0⟩⟩
       case' neg=>
        refine jz e2 ?_;have e2:¬nb-1=1:=by simpa using e2
        refine Ab<|xp (ax (p-1) bd) ?_;refine Ab<|cx O hk (c4 (p-1) bd) (by lia) tB (λi t=>⟨bp _ (by exact r9),cm _ (by lia)⟩) (λi=>decide<|f (tB i)<f a[p-1]) (λi t=>by rw[AD rfl]) (λi j T hj h=>?_) λk2 c8 al a4=>?_
        ·have:=cv (i:=i) (j:=j) (by lia) (by exact r9);simp at h ⊢;lia
        have al:∀i,i<k2->f (tB i)<f a[p-1]:=λi t=>by have:=al i t;simpa using this
        have a4:∀i,k2<=i->i<nb-1->f a[p-1]<=f (tB i):=λi t hj=>by have:=a4 i t hj;simpa using this
        have k1:0<k2:=by
         rcases Nat.eq_zero_or_pos k2 with h|h
         ·exfalso;have h5:=a4 0 (by exact uz) (by lia);rw[bn _ hb] at h5;have h6:=h0 a[p-1] (by simp);lia
         ·exact h
        have M3:HP f a b (a3.push b[nb-1]++(b.extract k2<|nb-1).reverse) p k2:=M2.segB c8 λi t h1 h2 j hj T=>by have h5:=a4 i h1 h2;rw[bn _ t] at h5;exact BQ (m_ sa (i:=j) (j:=p-1) (CY T) bd) h5
        have pA:∀j (hj:j<b.size),j<k2->f b[j]<=f a[p-1]:=λj hj T=>by have h5:=al j T;rw[bn _ hj] at h5;exact BL h5
        dsimp only;generalize dj:nb-1-k2=e0;obtain⟨o3,dp⟩:∃o,o=a3.push b[nb-1]:=⟨_,rfl⟩;obtain⟨bf,c9⟩:∃i,i=nb-1:=⟨_,rfl⟩;have eb:b[nb-1]=b[bf]'(by lia):=by subst c9;rfl
        rw[<-dp] at s2 M2 M3 ⊢;rw[<-c9] at M2 M3 dj c8 ⊢;generalize de:o3=o0;generalize di:bf=j0;revert j0;revert o0;refine lv (P:=λ(o:WG) (j:Nat)=>HP f a b o p j/\a3.size+1<=o.size/\1<j/\∀j' (hj:j'<b.size),j'<j->f b[j']<=f a[p-1]) (x:=o3) (i:=bf) (λbi e5 hP=>?tail2) (λck=>?hN) λck key=>?hY
        case hN=>
         obtain rfl:k2=bf:=by lia
         exact⟨M2,by lia,by lia,pA⟩
        case hY=>
         by_cases e3:(k2==1)=true
         ·refine xw e3 ?_;exact Ad ⟨⟨_,rfl⟩,.inl ⟨_,rfl,M3.last (by simpa using e3) hb h0⟩⟩
         ·refine jz e3 (jz (show ¬(k2==0)=true by simp;exact Io) ?_);have e3:¬k2=1:=by simpa using e3
          exact key _ _ ⟨M3,by rw[BW];lia,by lia,pA⟩
        clear pA M3 al a4;obtain⟨M3,h4,l4,pA⟩:=hP
        all_goals
         refine Ab<|xp (ax (p-1) bd) ?_;have M4:=M3.preA l3 pA;have s4:(bi.push a[p-1]).size=bi.size+1:=Bt _;by_cases e4:(p-1==0)=true
         ·refine xw e4 ?_;exact Ad ⟨⟨_,rfl⟩,.inl ⟨_,rfl,M4.done (by simpa using e4)⟩⟩
         ·refine jz e4 ?_;have e4:¬p-1=0:=by simpa using e4
          refine fe (λ_=>?_) λ_=>?_
          ·exact Ad ⟨⟨_,rfl⟩,.inr ⟨_,_,_,_,_,_,rfl,M4,by exact FD,l4,by lia⟩⟩
          ·exact Ad ⟨⟨_,rfl⟩,_,_,_,_,_,_,rfl,M4,by lia,l4,by lia⟩
    ·rintro c l ⟨⟨g',rfl⟩,U,nb,J,bq,ac,bc,rfl,M,C,a1,bh⟩;have:=M.sz;omega
    ·rintro c l ⟨⟨g',rfl⟩,h⟩;rcases h with⟨r,er,hr⟩|⟨U,nb,dt,d0,ac,bc,rfl,M,C,a1,bh⟩
     ·obtain⟨c1,c2⟩:=c;cases er;exact Ad ⟨⟨g',rfl⟩,r,rfl,hr⟩
     ·dsimp only;refine Ab<|wpS_modify ?_;exact Ad ⟨⟨_,rfl⟩,_,_,_,_,rfl,M,C,a1,by lia⟩
 ·rintro c l ⟨⟨g,rfl⟩,U,nb,a5,mg,rfl,M,C,a1,hs⟩;have:=M.sz;lia
 ·rintro c l ⟨⟨g,rfl⟩,r,er,hr⟩;obtain⟨c1,c2⟩:=c;cases er;exact Ad<|q r g hr
end
def Sk{σ:Type}{st I:σ}{Q:PUnit->σ->Prop}(h:Q ⟨⟩ I):wpS M A E s (set I:StateT σ Sem PUnit) Q st:=by unfold wpS;rw[StateT.run_set];exact Aj ⟨rfl,h⟩
theorem mG{α:Type}:∀(m:List α) (arr:Array α) (i k:Nat),i+k+m.length<=arr.size->((m.zipIdx k).foldl (λ(a:Array α) (I:α×Nat)=>a.setIfInBounds (i+I.2) I.1) arr).toList=arr.toList.take (i+k)++(m++arr.toList.drop (i+k+m.length))
 |[],arr,i,k,h=>by simp
 |x::m,arr,i,k,h=>by
  rw[Er,List.foldl_cons];simp only[AL] at h;rw[mG m _ i (k+1) (by simp;lia)];have e:(arr.setIfInBounds (i+k) x).toList=arr.toList.set (i+k) x:=by simp
  have l:arr.toList.length=arr.size:=A2;rw[e,List.drop_set,AD (by exact A9 _ _),<-EM,Bm,BJ (by lia),List.take_set_of_le (by simp +arith only),AL];simp;congr 1;simp +arith only
section
variable {w:Wu}{κ:SortKind}{Ok:Keyed->Prop}{f:WH}
def tQ{l:WF}(s:l.Pairwise λx y=>f x<=f y)(I:i<=j)(J:j<l.length):f (l[i]'(by exact oW))<=f l[j]:=by
 rcases DV I with h|h
 ·exact B3.mp s i j (by exact oW) J h
 ·subst h;exact Dn _
def Hv{l:WF}{x:Keyed}(h:x∈l):∃i,∃hi:i<l.length,l[i]=x:=BF h
def Hw{l:WF}{x:Keyed}{m:Nat}(h:x∈l.take m):∃i,∃hi:i<l.length,i<m/\l[i]=x:=by obtain⟨i,hi,rfl⟩:=BF h;rw[AX] at hi;exact⟨i,by lia,by lia,BA.symm⟩
def Gk{l:WF}{x:Keyed}{k:Nat}(h:x∈l.drop k):∃i,∃hi:i<l.length,k<=i/\l[i]=x:=by obtain⟨i,hi,rfl⟩:=BF h;rw[BS] at hi;exact⟨k+i,by lia,A9 _ _,Ed.symm⟩
theorem Sl(O:Ord prog w A s κ Ok f){st:SortSt}{X Y:WF}{w1 w2:Nat}{Q:Bool->SortSt->Prop}(hk:kindOf st=κ)(hf:failedOf st=none)(hp:pendingOf st=#[(0,X.length,w1),(X.length,Y.length,w2)])(ea:(arrOf st).toList=X++Y)(ok:∀x∈X++Y,Ok x)
 (lX:0<X.length) (lY:0<Y.length) (sX:X.Pairwise λx y=>f x<=f y) (sY:Y.Pairwise λx y=>f x<=f y) (q:∀T,failedOf T=none->(pendingOf T).size=1->(arrOf T).toList.Perm (X++Y)->((arrOf T).toList.Pairwise λx y=>f x<=f y)->Q true T):wpS (model prog w) A E s (mergeAt' 0) Q st:=by
 have a1:(pendingOf st)[0]?=some (0,X.length,w1):=by rw[hp];rfl
 have a2:(pendingOf st)[0+1]?=some (X.length,Y.length,w2):=by rw[hp];rfl
 have a3:(((pendingOf st).setIfInBounds 0 (0,X.length+Y.length,w1)).eraseIdxIfInBounds<|0+1).size=1:=by simp[hp]
 refine Ab<|wpS_get ?_;rw[show(sortPriv% PySem.Builtin.SortState.pending) st=pendingOf st from rfl,a1,a2];dsimp only;refine Ab<|Sk ?_;generalize ((pendingOf st).setIfInBounds 0 (0,X.length+Y.length,w1)).eraseIdxIfInBounds (0+1)=pn at a3 ⊢;have aL:∀i (I:i<X.length),(arrOf st)[i]?=some X[i]:=λi I=>by rw[<-A6,ea,Az I];simp
 have ba:∀i (I:i<Y.length),(arrOf st)[X.length+i]?=some Y[i]:=λi I=>by rw[<-A6,ea,AF<|A9 _ _,Bp];simp
 have al:∀x∈X,Ok x:=λx l=>ok x<|Am _ l;have ax:∀x∈Y,Ok x:=λx l=>ok x<|Ah _ l;obtain⟨tX,bb⟩:∃t:Nat->Keyed,t=λi=>(X[i]?).getD X[0]:=⟨_,rfl⟩;have p:∀i (I:i<X.length),tX i=X[i]:=λi I=>by rw[bb];simp[I]
 obtain⟨tY,bc⟩:∃t:Nat->Keyed,t=λi=>(Y[i]?).getD X[0]:=⟨_,rfl⟩;have C:∀i (I:i<Y.length),tY i=Y[i]:=λi I=>by rw[bc];simp[I]
 refine Ab<|xp (x:=Y[0]) (ba 0 lY) ?_;refine Ab (cx O hk (ax _<|CH _) lX tX (λi I=>⟨by rw[p i I,DN];exact aL i I,by rw[p i I];exact al _<|CH _⟩) (λi=>!decide (f Y[0]<f (tX i))) (λi I=>by rw[AB (by simp)]) (λi j ay J h=>?_) λk bd a5 ac=>?_)
 ·have:=tQ sX ay J;rw[p j J] at h;rw[p i (by exact oW)];simp at h ⊢;omega
 have a5:∀i (I:i<k),f (X[i]'(by exact FC))<=f Y[0]:=λi I=>by have:=a5 i I;rw[p i (by lia)] at this;simpa using this
 have ac:∀i (J:i<X.length),k<=i->f Y[0]<f X[i]:=λi J I=>by have:=ac i I J;rw[p i J] at this;simpa using this
 dsimp only;rw[DN];by_cases c:(X.length-k==0)=true
 ·rw[AD c];have c:X.length-k=0:=by simpa using c
  refine Ad (q _ hf a3 (by show(arrOf st).toList.Perm _;rw[ea]) (by show(arrOf st).toList.Pairwise _;rw[ea];refine AQ.mpr ⟨sX,sY,λx l y hy=>?_⟩;obtain⟨i,I,rfl⟩:=Hv l;obtain⟨j,J,rfl⟩:=Hv hy;exact BQ (a5 i (by lia))<|tQ sY (A1 _) J))
 rw[AB c];have c:k<X.length:=by
  have:¬X.length-k=0:=by simpa using c
  lia
 refine Ab (xp (x:=X[X.length-1]) (by rw[show k+(X.length-k)-1=X.length-1 by lia];exact aL _ (by lia)) ?_);refine Ab (cx O hk (al _<|CH _) (by lia) tY (λi I=>⟨by rw[C i I];exact ba i I,by rw[C i I];exact ax _<|CH _⟩) (λi=>decide<|f (tY i)<f X[X.length-1]) (λi I=>by rw[AD rfl]) (λi j ay J h=>?_) λm bf a4 o=>?_)
 ·have:=tQ sY ay J;rw[C j J] at h;rw[C i (by exact oW)];simp at h ⊢;omega
 have a4:∀i (I:i<m),f (Y[i]'(by exact FC))<f X[X.length-1]:=λi I=>by have:=a4 i I;rw[C i (by lia)] at this;simpa using this
 have o:∀i (J:i<Y.length),m<=i->f X[X.length-1]<=f Y[i]:=λi J I=>by have:=o i I J;rw[C i J] at this;simpa using this
 have m0:0<m:=Nat.pos_of_ne_zero λh=>by have h5:=o 0 lY (by lia);have h6:=ac (X.length-1) (by lia) (by lia);omega
 dsimp only;rw[AB (show ¬(m==0)=true by simp;lia)];have ex:((arrOf st).extract k X.length).toList=X.drop k:=by rw[gy,ea,List.drop_append_of_le_length (by lia),DI (by simp),Bb (by simp)]
 have ey:((arrOf st).extract X.length<|X.length+m).toList=Y.take m:=by rw[gy,ea,List.drop_left,Bp]
 have xt:∀(r:WG) (g:Nat),kn f (X.drop k) (Y.take m) r.toList->Q (failedOf st).isNone (SortSt.mk' (kindOf st) (r.toList.zipIdx.foldl (λa x=>a.setIfInBounds (k+x.2) x.1)<|arrOf st) pn g<|failedOf st):=by
  rintro r g ⟨hm,hs⟩;have lr:r.toList.length=X.length-k+m:=by rw[hm.length_eq];simp;lia
  have pt:=mG r.toList (arrOf st) k 0 (by rw[lr,<-A2,ea,Ac];lia);rw[ea,lr,Nat.add_zero,show k+(X.length-k+m)=X.length+m by lia,DI (by lia),List.drop_length_add_append] at pt;rw[hf];refine q _ rfl a3 ((EG pt).trans ?_)<|Eq.subst (motive:=List.Pairwise λx y=>f x<=f y) pt.symm ?_
  ·have h1:=(BB<|X.take k).mpr<|(Bx<|Y.drop m).mpr hm;rwa[Ay<|X.drop k,A7,<-Ay (X.take k) (X.drop k),A7] at h1
  ·refine AQ.mpr ⟨sX.sublist<|Ec _ _,AQ.mpr ⟨hs,sY.sublist<|List.drop_sublist _ _,λx l y hy=>?_⟩,λx l y hy=>?_⟩
   ·obtain⟨j,J,h2,rfl⟩:=Gk hy;rcases Ak.mp (hm.mem_iff.mp l) with h|h
    ·obtain⟨i,I,_,rfl⟩:=Gk h;exact BQ (tQ sX (by lia) (by lia))<|o j J h2
    ·obtain⟨i,I,h1,rfl⟩:=Hw h;exact tQ sY (by lia) J
   ·obtain⟨i,I,h1,rfl⟩:=Hw l;have low:∀z∈Y,f X[i]<=f z:=λz hz=>by obtain⟨j,J,rfl⟩:=Hv hz;exact BQ (a5 i h1) (tQ sY (A1 _) J)
    rcases Ak.mp hy with h|h
    ·rcases Ak.mp (hm.mem_iff.mp h) with h|h
     ·obtain⟨j,J,h2,rfl⟩:=Gk h;exact tQ sX (by lia) J
     ·exact low y<|BH h
    ·exact low y<|CV h
 generalize (arrOf st).extract k X.length=U at ex ⊢;generalize (arrOf st).extract X.length (X.length+m)=V at ey ⊢;have zU:U.size=X.length-k:=by rw[<-A2,ex];simp
 have zV:V.size=m:=by rw[<-A2,ey];simp;lia
 have q5:0<U.size:=by lia
 have q6:0<V.size:=by lia
 have v0:V[0]=Y[0]:=by
  have:V.toList[0]?=(Y.take m)[0]?:=by rw[ey]
  rw[A6,List.getElem?_take,AD m0] at this;simpa[q6,lY] using this
 have ul:U[U.size-1]=X[X.length-1]:=by
  have:U.toList[U.size-1]?=(X.drop k)[U.size-1]?:=by rw[ex]
  rw[A6,List.getElem?_drop,show k+(U.size-1)=X.length-1 by lia] at this;rw[Array.getElem?_eq_getElem (by lia),Ag (by lia)] at this;exact AZ this
 have q1:∀x∈U.toList,Ok x:=λx l=>al x (CV (by rw[ex] at l;exact l));have q2:∀x∈V.toList,Ok x:=λx l=>ax x (BH (by rw[ey] at l;exact l));have q3:U.toList.Pairwise λx y=>f x<=f y:=by rw[ex];exact sX.sublist<|List.drop_sublist _ _
 have q4:V.toList.Pairwise λx y=>f x<=f y:=by rw[ey];exact sY.sublist<|Ec _ _
 have q7:∀x∈U.toList,f V[0]<f x:=λx l=>by rw[v0];rw[ex] at l;obtain⟨i,I,h1,rfl⟩:=Gk l;exact ac i I h1
 have q8:∀x∈V.toList,f x<f U[U.size-1]:=λx l=>by rw[ul];rw[ey] at l;obtain⟨i,I,h1,rfl⟩:=Hw l;exact a4 i h1
 rw[<-ex,<-ey] at xt;split
 ·exact Ab<|Si O hk q1 q2 q3 q4 q5 q6 q7 q8 λr g h=>Ab<|wpS_modify<|Ab<|wpS_get<|Ad<|xt r g h
 ·exact Ab<|Sj O hk q1 q2 q3 q4 q5 q6 q7 q8 λr g h=>Ab<|wpS_modify<|Ab<|wpS_get<|Ad<|xt r g h
end
def jR{arr:Array α}{P R:List α}(h:arr.toList=P++R)(J:n<=R.length):(mirror arr P.length (P.length+n)<|(P.length+n-P.length) / 2).toList=P++((R.take n).reverse++R.drop n):=by
 have U:P.length+n<=arr.size:=by rw[<-A2,h,Ac];exact Nat.add_le_add_left J _
 have ap:∀(B:List α) (t:Nat),(P++B)[P.length+t]?=B[t]?:=λB t=>by rw[AF<|A9 ..,Bp]
 have I:(R.take n).length=n:=Du J;refine List.ext_getElem? λk=>?_;rw[A6,getElem?_mirror_all U,<-A6,<-A6,h];rcases Cy k P.length with c|c
 ·rw[AB λz=>EO.mpr z.1 c,Az c,Az c]
 obtain⟨j,rfl⟩:=B7 c;rw[ap ((R.take n).reverse++R.drop n) j];rcases Cy j n with d|d
 ·rw[AD ⟨c,Nat.add_lt_add_left d _⟩,show P.length+(P.length+n)-1-(P.length+j)=P.length+(n-1-j) by lia,ap,Az (by rw[DM,I];exact d),List.getElem?_reverse (by rw[I];exact d),I,List.getElem?_take,AD (by lia)]
 ·obtain⟨t,rfl⟩:=B7 d;rw[AB λz=>EO.mpr (A9 n t)<|Nat.lt_of_add_lt_add_left z.2,ap,AF (by rw[DM,I];exact d),DM,I,Bp,List.getElem?_drop]
def Sm{arr:Array α}{A Y Z:List α}{r:α}(h:arr.toList=A++(Y++r::Z)):(bubble arr (A.length+Y.length) Y.length).toList=A++r::(Y++Z):=by
 have J:A.length+Y.length<arr.size:=by rw[<-A2,h,Ac,Ac];exact Nat.add_lt_add_left (Do<|BV _) _
 refine List.ext_getElem? λi=>?_;rw[A6,getElem?_bubble J _<|De ..,Nat.add_sub_cancel,<-A6,<-A6,<-A6,h];rcases Cy i A.length with c|c
 ·rw[AB<|A3 c,AB λz=>Nat.lt_asymm z.1 c,Az c,Az c]
 obtain⟨j,rfl⟩:=B7 c;have ap:∀(B:List α) (t:Nat),(A++B)[A.length+t]?=B[t]?:=λB t=>by rw[AF<|A9 ..,Bp]
 have I:∀(B:List α) (t:Nat),(Y++B)[Y.length+t]?=B[t]?:=λB t=>by rw[AF<|A9 ..,Bp]
 rw[ap (r::(Y++Z)) j];cases j with
 |zero=>rw[AD<|Nat.add_zero _,ap,List.getElem?_cons_zero];exact I _ 0
 |succ j=>
  rw[AB<|C0<|Do<|BV _,Dl,show A.length+(j+1)-1=A.length+j from rfl,ap _ j,ap _<|j+1];rcases Cy j Y.length with d|d
  ·rw[AD ⟨Do<|BV _,Nat.add_le_add_left d _⟩,Az d,Az d]
  ·obtain⟨t,rfl⟩:=B7 d;rw[AB λz=>EO.mpr d<|Nat.le_of_add_le_add_left z.2,I,show Y.length+t+1=Y.length+(t+1) from rfl,I,Dl]
def uO{arr:Array α}{P R:List α}{k l:Nat}(h:arr.toList=P++R)(I:k<R.length)(J:l<=k):(bubble arr (P.length+k)<|P.length+k-(P.length+l)).toList=P++(R.take l++R[k]::((R.drop l).take (k-l)++R.drop (k+1))):=by
 obtain⟨d,rfl⟩:=B7 J;have U:R.take l++((R.drop l).take d++R[l+d]::R.drop (l+d+1))=R:=by rw[<-BZ I,<-List.drop_drop,A7,A7]
 have g:(R.take l).length=l:=Du<|AM J<|Bi I;have j:((R.drop l).take d).length=d:=Du (by rw[BS];lia);have b:=Sm (arr:=arr) (A:=P++R.take l) (Y:=(R.drop l).take d) (Z:=R.drop<|l+d+1) (r:=R[l+d]) (by rw[Ay,U];exact h);rw[Ac,g,j,Ay] at b;rw[Bp,show P.length+(l+d)=P.length+l+d from(EM _ _ _).symm,Bp];exact b
section
variable {w:Wu}{κ:SortKind}{Ok:Keyed->Prop}{f:WH}
structure Tl(κ:SortKind)(Ok:Keyed->Prop)(st:SortSt)(P R:WF):Prop where
 kind:kindOf st=κ
 arr:(arrOf st).toList=P++R
 ok:∀x∈R,Ok x
def ij(O:Ord prog w A s κ Ok f){st:SortSt}{P R:WF}(T:Tl κ Ok st P R)(hi:i<R.length)(I:j<R.length){a b:Nat}(ea:a=P.length+i)(eb:b=P.length+j){Q:Option Bool->SortSt->Prop}(q:Q (some<|decide<|f R[i]<f R[j]) st):wpS (model prog w) A E s (ltAt' a b) Q st:=by
 have at_:∀i (hi:i<R.length),(arrOf st)[P.length+i]?=some R[i]:=λi hi=>by rw[<-A6,T.arr,AF (by exact A9 _ _),Bp];simp
 subst ea eb;rw[ltAt'_eq];refine Ab<|wpS_get ?_;refine Ab<|xp (at_ i hi)<|Ab<|xp (at_ j I) ?_;exact w_lt O T.kind (T.ok _<|CH _) (T.ok _<|CH _) q
def Up(f:WH)(R:WF)(n:Nat):Prop:=∀i j (_:i<=j) (_:j<R.length),j<n->f (R[i]'(by exact oW))<=f R[j]
def Up.snoc{R:WF}(h:Up f R n)(h1:1<=n)(l:n<R.length)(hs:f (R[n-1]'(by exact qN))<=f R[n]):Up f R (n+1):=λi j I J U=>by
 rcases Cy j n with c|c
 ·exact h i j I J c
 ·have e:j=n:=by lia
  subst e;rcases Cy i j with g|g
  ·exact BQ (h i (j-1) (by omega) (by exact qN) (by exact D_)) hs
  ·have e:i=j:=by lia
   subst e;exact Dn _
def Up.pair{R:WF}(h:Up f R n)(g:n<=R.length):(R.take n).Pairwise λx y=>f x<=f y:=by rw[B3];intro i j I J U;rw[AX] at I J;rw[BA,BA];exact h i j (by exact hJ) (by lia) (by lia)
end
section
variable {w:Wu}{κ:SortKind}{Ok:Keyed->Prop}{f:WH}
def Tl.same{st:SortSt}{P R R':WF}(T:Tl κ Ok st P R)(p:R'.Perm R){arr:WG}(h:arr.toList=P++R'):Tl κ Ok (setArr st arr) P R':=⟨T.kind,h,λx I=>T.ok x<|p.mem_iff.mp I⟩
def Up.one{R:WF}:Up f R 1:=λi j I J h=>by
 have:i=j:=by lia
 subst this;exact Dn _
def jC{c:Prop}{_:Decidable c}{K T:StateT SortSt Sem α}{P:SortSt->Prop}{Q:α->SortSt->Prop}{st:SortSt}(J:¬c->P st)(key:∀I,P I->wpS (model prog w) A E s K Q I)
 (U:c->(∀I,P I->wpS (model prog w) A E s K Q I)->wpS (model prog w) A E s T Q st):wpS (model prog w) A E s (if c then T else K) Q st:=by
 by_cases h:c
 ·rw[AD h];exact U h key
 ·rw[AB h];exact key st<|J h
def gM(f:WH)(R:WF)(n:Nat):Prop:=∀i j (_:i<=j) (_:j<R.length),j<n->f R[j]<=f (R[i]'(by exact oW))
def JI{R R':WF}(e:R'.map f=R.map f)(h1:i<R'.length)(h2:i<R.length):f R'[i]=f R[i]:=by
 have:(R'.map f)[i]?=(R.map f)[i]?:=by rw[e]
 rw[Al,Al,Ag h1,Ag h2] at this;exact AZ this
def gM.same{R R':WF}(D:gM f R n)(e:R'.map f=R.map f):gM f R' n:=λi j I U J=>by
 have l:R'.length=R.length:=by have:=Bk List.length e;rwa[Ae,Ae] at this
 rw[JI e U (by lia),JI e (by lia) (by lia)];exact D i j I (by lia) J
def gM.snoc{R:WF}(h:gM f R n)(h1:1<=n)(l:n<R.length)(hs:f R[n]<=f (R[n-1]'(by exact qN))):gM f R (n+1):=λi j I J U=>by
 rcases Cy j n with c|c
 ·exact h i j I J c
 ·have e:j=n:=by lia
  subst e;rcases Cy i j with g|g
  ·exact BQ hs<|h i (j-1) (by omega) (by exact qN) (by exact D_)
  ·have e:i=j:=by lia
   subst e;exact Dn _
def oB{arr:WG}{P R:WF}{a b:Nat}{v:Int}(h:arr.toList=P++R)(U:a<=b)(l:b<=R.length)(g:∀i (_:i<R.length),a<=i->i<b->f R[i]=v):
 ∃R',(mirror arr (P.length+a) (P.length+b)<|(P.length+b-(P.length+a)) / 2).toList=P++R'/\R'.Perm R/\R'.map f=R.map f:=by
 have j:(P++R.take a).length=P.length+a:=by simp;lia
 have I:R=R.take a++((R.drop a).take (b-a)++(R.drop a).drop (b-a)):=by rw[A7,A7]
 have m:=jR (P:=P++R.take a) (R:=R.drop a) (n:=b-a) (by rw[h,Ay,A7]) (by simp;lia);rw[j,show P.length+a+(b-a)=P.length+b by lia,Ay] at m;refine⟨_,m,?_,?_⟩
 ·refine List.Perm.trans ?_<|EG I.symm;exact(BB _).mpr ((Bx _).mpr<|Ee _)
 ·have r:((R.drop a).take<|b-a).map f=List.replicate (b-a) v:=by refine List.ext_getElem (by simp;lia) λi h1 h2=>?_;rw[List.getElem_map,BA,Ed,List.getElem_replicate];rw[Bv] at h2;exact g _ _ (by lia) (by lia)
  have J:=Bk (List.map f) I;rw[Ax,Ax,r] at J;rw[Ax,Ax,List.map_reverse,r,List.reverse_replicate,J]
theorem Sn(O:Ord prog w A s κ Ok f){st:SortSt}{P R:WF}(T:Tl κ Ok st P R)(h1:1<=R.length){Q:Option Nat->SortSt->Prop}
 (q:∀n R' arr,1<=n->n<=R.length->R'.Perm R->arr.toList=P++R'->Up f R' n->Q (some n) (setArr st arr)):wpS (model prog w) A E s (countRun' P.length R.length) Q st:=by
 have bc:setArr st (arrOf st)=st:=rfl;refine Ab (AU (AJ (I:=λx c g=>g=st/\c=(none,x)/\Up f R x)
  (Q:=λc g=>g=st/\∃n,c=(none,n)/\1<=n/\n<=R.length/\Up f R n/\(n=R.length\/∃h:n<R.length,f R[n]<f (R[n-1]'(by exact qN)))) ?_ ?_ ⟨rfl,rfl,Up.one⟩) ?_)
 ·rintro x c g t hx ⟨rfl,rfl,U⟩;dsimp only;refine Ab<|ij O T (i:=x) (j:=x-1) hx (by exact qN) rfl (by lia) ?_;dsimp only;by_cases c:f R[x]<f (R[x-1]'(by omega))
  ·rw[Aw c,AD rfl];exact Ad ⟨rfl,x,rfl,t,by exact hJ,U,.inr ⟨hx,c⟩⟩
  ·rw[Au c,AB (by simp)];exact Ad ⟨rfl,rfl,U.snoc t hx (by omega)⟩
 ·rintro c g ⟨rfl,rfl,U⟩;exact⟨rfl,_,rfl,by lia,by lia,by rw[Cn h1] at *;exact U,.inl (by lia)⟩
 ·rintro c g ⟨rfl,n,rfl,a3,a4,U,ac⟩;dsimp only;by_cases c1:(n==R.length)=true
  ·rw[AD c1];exact Ad<|q n R (arrOf g) a3 a4 (CI _) T.arr U
  rw[AB c1];have c1:¬n=R.length:=by simpa using c1
  have ax:n<R.length:=by exact zR
  have hd:f R[n]<f (R[n-1]'(by omega)):=by
   rcases ac with h|⟨h,h'⟩
   ·exact absurd h c1
   ·exact h'
  refine jC (P:=λo=>∃arr R',o=setArr g arr/\arr.toList=P++R'/\R'.Perm R/\gM f R' (n+1)) (λc2=>⟨arrOf g,R,rfl,T.arr,CI _,?_⟩) ?_ λc2 key=>?_
  ·obtain rfl:n=1:=by lia
   exact gM.snoc (λi j ay hj a5=>by (have e:i=j:=by lia);(subst e;exact Dn _)) (An _) ax<|BL hd
  rotate_left
  ·refine Ab<|ij O T (i:=0) (j:=n-1) (by assumption) (by exact qN) rfl (by omega) ?_;dsimp only;by_cases c3:f R[0]<f (R[n-1]'(by omega))
   ·rw[Aw c3,AD rfl];exact Ad<|q n R (arrOf g) a3 a4 (CI _) T.arr U
   rw[Au c3,AB (by simp)];have al:∀i (_:i<R.length),0<=i->i<n->f R[i]=f R[0]:=λi hi _ bb=>by have a1:=U 0 i (A1 _) hi bb;have a2:=U i (n-1) (by lia) (by lia) (by lia);lia
   obtain⟨R',m1,m2,m3⟩:=oB (f:=f) T.arr (A1 n) a4 al;refine Ab<|wpS_modify<|key _ ⟨_,R',rfl,m1,m2,gM.same (gM.snoc (λi j ay hj a5=>?_) a3 ax<|BL hd) m3⟩;rw[al j hj (A1 _) a5,al i (by lia) (A1 _) (by lia)];exact Dn _
  rintro _ ⟨arr,R0,rfl,r,aL,D0⟩;refine Ab<|wpS_lift<|Bw ⟨rfl,?_⟩;have l0:R0.length=R.length:=aL.length_eq;refine Ab (AU (AJ (I:=λx c o=>∃J arr R',c=(none,x,J)/\o=setArr g arr/\arr.toList=P++R'/\R'.Perm R/\gM f R' x/\J+1<=x/\∃v,∀i (_:i<R'.length),x-(J+1)<=i->i<x->f R'[i]=v)
   (Q:=λc o=>∃n J arr R',c=(none,n,J)/\o=setArr g arr/\arr.toList=P++R'/\R'.Perm R/\gM f R' n/\J+1<=n/\n<=R.length/\∃v,∀i (_:i<R'.length),n-(J+1)<=i->i<n->f R'[i]=v) ?_ ?_ ⟨0,arr,R0,rfl,rfl,r,aL,D0,by lia,f<|R0[n]'(by lia),λi hi h2 h3=>by (have e:i=n:=by lia);(subst e;rfl)⟩) ?_)
  ·rintro x c o t hx ⟨J,arr,p,rfl,rfl,r,l,D,hq,v,C⟩;have l1:p.length=R.length:=l.length_eq;have T1:=T.same l r;dsimp only;refine Ab<|ij O T1 (i:=x) (j:=x-1) (by lia) (by lia) rfl (by lia) ?_;dsimp only;by_cases c:f (p[x]'(by lia))<f (p[x-1]'(by omega))
   ·rw[Aw c,AD rfl];refine jC (P:=λo=>∃arr R',o=setArr g arr/\arr.toList=P++R'/\R'.Perm R/\gM f R' (x+1)) (λ_=>⟨arr,p,rfl,r,l,D.snoc (by lia) (by lia)<|BL c⟩) ?_ λc2 key=>?_
    ·rintro _ ⟨arr,R',rfl,r,l,D⟩;exact Ad ⟨0,arr,R',rfl,rfl,r,l,D,by lia,f (R'[x]'(by have:=l.length_eq;lia)),λi hi h2 h3=>by (have e:i=x:=by lia);(subst e;rfl)⟩
    ·obtain⟨R',m1,m2,m3⟩:=oB (f:=f) (a:=x-(J+1)) (b:=x) r (by lia) (by lia) C;refine Ab<|wpS_modify<|key _ ⟨_,R',rfl,?_,m2.trans l,gM.same (D.snoc (by lia) (by lia)<|BL c) m3⟩;rw[<-m1];show(mirror arr (P.length+x-(J+1)) (P.length+x)<|(P.length+x-(P.length+x-(J+1))) / 2).toList=_;rw[show P.length+x-(J+1)=P.length+(x-(J+1)) by lia]
   ·rw[Au c,AB (by simp)];refine Ab<|ij O T1 (i:=x-1) (j:=x) (by omega) (by lia) (by lia) rfl ?_;dsimp only;by_cases c3:f (p[x-1]'(by omega))<f (p[x]'(by lia))
    ·rw[Aw c3,AD rfl];exact Ad ⟨x,J,arr,p,rfl,rfl,r,l,D,hq,by lia,v,C⟩
    ·rw[Au c3,AB (by simp)];refine Ad ⟨J+1,arr,p,rfl,rfl,r,l,D.snoc (by lia) (by lia) (by lia),by lia,v,λi hi h2 h3=>?_⟩;rcases Cy i x with h|h
     ·exact C i hi (by lia) h
     ·have:i=x:=by lia
      subst this;rw[<-C (i-1) (by lia) (by lia) (by lia)];lia
  ·rintro c o ⟨J,arr,p,rfl,rfl,r,l,D,hq,v,C⟩;exact⟨_,J,arr,p,rfl,rfl,r,l,D,hq,by lia,v,C⟩
  ·rintro c o ⟨n,J,arr,p,rfl,rfl,r,l,D,hq,g2,v,C⟩;have l1:p.length=R.length:=l.length_eq;dsimp only;refine jC (P:=λo=>∃arr R',o=setArr g arr/\arr.toList=P++R'/\R'.Perm R/\gM f R' n) (λ_=>⟨arr,p,rfl,r,l,D⟩) ?_ (λc2 key=>?_)
   rotate_left
   ·obtain⟨R',m1,m2,m3⟩:=oB (f:=f) (a:=n-(J+1)) (b:=n) r (by lia) (by lia) C;refine Ab<|wpS_modify<|key _ ⟨_,R',rfl,?_,m2.trans l,D.same m3⟩;rw[<-m1];show(mirror arr (P.length+n-(J+1)) (P.length+n)<|(P.length+n-(P.length+n-(J+1))) / 2).toList=_;rw[show P.length+n-(J+1)=P.length+(n-(J+1)) by lia]
   clear C D r l l1;rintro _ ⟨arr,p,rfl,r,l,D⟩;have l1:p.length=R.length:=l.length_eq;have T1:=T.same l r;have T':=T1.same (R':=(p.take n).reverse++p.drop n) (((Bx _).mpr<|Ee _).trans (by rw[A7]))<|jR r (by lia);obtain⟨R',eR⟩:∃R',R'=(p.take n).reverse++p.drop n:=⟨_,rfl⟩;have ba:R'.Perm R:=by rw[eR];exact(((Bx _).mpr<|Ee _).trans (by rw[A7])).trans l
   have lR:R'.length=R.length:=ba.length_eq;have U':Up f R' n:=λi j ay hj a5=>by
    subst eR;rw[Ej (by simp;lia),Ej (by simp;lia),List.getElem_reverse,List.getElem_reverse,BA,BA];refine D _ _ ?_ (by simp;omega) ?_
    ·simp;omega
    ·simp;omega
   rw[<-eR] at T';refine Ab<|wpS_modify ?_;refine Ab (AU (AJ (I:=λx c o=>o=setArr g (mirror arr P.length (P.length+n)<|(P.length+n-P.length) / 2)/\c=(none,x)/\Up f R' x)
    (Q:=λc o=>o=setArr g (mirror arr P.length (P.length+n)<|(P.length+n-P.length) / 2)/\∃n,c=(none,n)/\1<=n/\n<=R.length/\Up f R' n) ?_ ?_ ⟨rfl,rfl,U'⟩) ?_)
   ·rintro x c o t hx ⟨rfl,rfl,U⟩;dsimp only;refine Ab<|ij O T' (i:=x) (j:=x-1) (by lia) (by omega) rfl (by lia) ?_;dsimp only;by_cases c:f (R'[x]'(by omega))<f (R'[x-1]'(by omega))
    ·rw[Aw c,AD rfl];exact Ad ⟨rfl,x,rfl,by lia,by exact hJ,U⟩
    ·rw[Au c,AB (by simp)];exact Ad ⟨rfl,rfl,U.snoc (by omega) (by lia) (by omega)⟩
   ·rintro c o ⟨rfl,rfl,U⟩;exact⟨rfl,_,rfl,by lia,by lia,U⟩
   ·rintro c o ⟨rfl,n,rfl,k1,k2,U⟩;exact Ad<|q n R' _ k1 k2 ba T'.arr U
end
section
variable {w:Wu}{κ:SortKind}{Ok:Keyed->Prop}{f:WH}
def Up.of{R:WF}(h:(R.take n).Pairwise λx y=>f x<=f y):Up f R n:=λi j I U J=>by have:=tQ h (i:=i) (j:=j) I (by simp;lia);rw[BA,BA] at this;exact this
def So{R:WF}{k l:Nat}(I:k<R.length)(J:l<=k):(R.take l++R[k]::((R.drop l).take (k-l)++R.drop (k+1))).Perm R:=by
 have e:R=R.take l++((R.drop l).take (k-l)++(R[k]::R.drop (k+1))):=by rw[<-Ay,Gj _ J,<-BZ I,A7]
 refine List.Perm.trans ?_<|EG e.symm;exact(BB _).mpr Co.symm
def Sr{R:WF}{k l:Nat}(p:k<R.length)(r:l<=k)(U:Up f R k)(lo:∀i (_:i<l),f (R[i]'(by lia))<=f R[k])(hi:∀i (_:i<k),l<=i->f R[k]<=f (R[i]'(by exact r9))):
 Up f (R.take l++R[k]::((R.drop l).take (k-l)++R.drop (k+1))) (k+1):=by
 apply Up.of;have e:R.take l++R[k]::((R.drop l).take (k-l)++R.drop (k+1))=(R.take l++R[k]::(R.drop l).take (k-l))++R.drop (k+1):=by simp
 rw[e,List.take_left' (by simp;lia)];have I:=U.pair<|Bi p;rw[<-Gj R r] at I;have I:=AQ.mp I;have t:∀y∈(R.drop l).take (k-l),f R[k]<=f y:=λy J=>by obtain⟨j,o,rfl⟩:=BF J;rw[AX,BS] at o;rw[BA,Ed];exact hi (l+j) (by lia) (by exact A9 _ _)
 have C:∀x∈R.take l,f x<=f R[k]:=λx g=>by obtain⟨j,o,rfl⟩:=BF g;rw[AX] at o;rw[BA];exact lo j (by lia)
 refine AQ.mpr ⟨I.1,List.pairwise_cons.mpr ⟨t,I.2.1⟩,λx g y J=>?_⟩;rcases As.mp J with rfl|J
 ·exact C x g
 ·exact I.2.2 x g y J
def Ss(O:Ord prog w A s κ Ok f){st:SortSt}{P R:WF}(T:Tl κ Ok st P R){ok:Nat}(hn:n<=R.length)(h1:1<=ok)(ho:ok<=n)(U:Up f R ok){Q:Bool->SortSt->Prop}
 (q:∀R' arr,R'.Perm R->arr.toList=P++R'->Up f R' n->Q true (setArr st arr)):wpS (model prog w) A E s (binarySort' P.length n ok) Q st:=by
 have a1:setArr st (arrOf st)=st:=rfl;refine Ab (AU (AJ (I:=λx c J=>c=(none,())/\∃R' arr,J=setArr st arr/\R'.Perm R/\arr.toList=P++R'/\Up f R' x)
  (Q:=λc J=>c=(none,())/\∃R' arr,J=setArr st arr/\R'.Perm R/\arr.toList=P++R'/\Up f R' n) ?_ ?_ ⟨rfl,R,arrOf st,rfl,CI _,T.arr,by rw[Cu h1];exact U⟩) ?_)
 ·rintro x c J a2 hx ⟨rfl,R',arr,rfl,p,t,o⟩;have T':=T.same p t;have lR:R'.length=R.length:=p.length_eq;have g:x<R'.length:=by lia
  dsimp only;refine Ab (AU (AJ (I:=λy c J=>J=setArr st arr/\∃l r,c=(none,l,r)/\l<=r/\r<=x/\r-l+y<=x/\(∀i (_:i<l) (_:i<R'.length),f R'[i]<=f R'[x])/\(∀i (_:i<x),r<=i->f R'[x]<=f (R'[i]'(by exact r9))))
   (Q:=λc J=>J=setArr st arr/\∃l,c=(none,l,l)/\l<=x/\(∀i (_:i<l) (_:i<R'.length),f R'[i]<=f R'[x])/\(∀i (_:i<x),l<=i->f R'[x]<=f (R'[i]'(by lia)))) ?_ ?_ ⟨rfl,0,x,rfl,A1 _,An _,by exact EN _ _,λi h=>by lia,λi h h'=>by omega⟩) ?_)
  ·rintro y c J _ hy ⟨rfl,l,r,rfl,g1,g2,g3,C,g5⟩;dsimp only;by_cases c:l>=r
   ·rw[AD c];obtain rfl:l=r:=by lia
    exact Ad ⟨rfl,l,rfl,g2,C,g5⟩
   ·rw[AB c];refine Ab<|ij O T' (i:=x) (j:=(l+r) / 2) g (by lia) rfl rfl ?_;dsimp only;by_cases e:f R'[x]<f (R'[(l+r) / 2]'(by lia))
    ·rw[Aw e,AD rfl];refine Ad ⟨rfl,l,(l+r) / 2,rfl,by lia,by lia,by omega,C,λi h h'=>?_⟩;exact BQ (BL e)<|o _ _ h' (by exact r9) h
    ·rw[Au e,AB (by simp)];refine Ad ⟨rfl,(l+r) / 2+1,r,rfl,by lia,g2,by omega,λi h h'=>?_,g5⟩;exact BQ (o i ((l+r) / 2) (by exact Ir) (by lia) (by lia)) (by omega)
  ·rintro c J ⟨rfl,l,r,rfl,g1,g2,g3,C,g5⟩;obtain rfl:l=r:=by lia
   exact⟨rfl,l,rfl,g2,C,g5⟩
  ·rintro c J ⟨rfl,l,rfl,g2,C,g5⟩;dsimp only;refine Ab<|wpS_modify ?_;exact Ad ⟨rfl,_,_,rfl,(So g g2).trans p,uO t g g2,Sr g g2 o (λi h=>C i h (by lia)) g5⟩
 ·rintro c J ⟨rfl,R',arr,rfl,p,t,o⟩;exact⟨rfl,R',arr,rfl,p,t,by rw[Cu h1,Cn ho] at o;exact o⟩
 ·rintro c J ⟨rfl,R',arr,rfl,p,t,o⟩;exact Ad<|q R' arr p t o
end
section
variable {w:Wu}{κ:SortKind}{Ok:Keyed->Prop}{f:WH}
def Su{N:Nat}(h:N<128):N<=2*(sortPriv% PySem.Builtin.minRun) N N 0:=by
 show N<=2*minRun' N N 0;cases N with
 |zero=>exact A1 _
 |succ r=>
  rw[minRun'_succ];split
  ·lia
  ·cases r with|zero=>lia|succ r=>rw[minRun'_succ,AD (by lia)];lia
def Hx(f:WH)(I:Nat)(pn:Array<|Nat×Nat×Nat)(X Y R:WF):Prop:=
 (pn=#[]/\X=[]/\Y=[])\/(∃w,pn=#[(0,X.length,w)]/\Y=[]/\(I<=X.length\/R=[])/\X.Pairwise λx y=>f x<=f y)\/
  ∃w v,pn=#[(0,X.length,w),(X.length,Y.length,v)]/\0<X.length/\0<Y.length/\R=[]/\(X.Pairwise λx y=>f x<=f y)/\Y.Pairwise λx y=>f x<=f y
theorem JJ(O:Ord prog w A s κ Ok f){st:SortSt}{Q:Unit->SortSt->Prop}(a3:(arrOf st).size<128)(hk:kindOf st=κ)(hp:pendingOf st=#[])(hf:failedOf st=none)(ok:∀x∈(arrOf st).toList,Ok x)
 (q:∀g,failedOf g=none->(arrOf g).toList.Perm (arrOf st).toList->((arrOf g).toList.Pairwise λx y=>f x<=f y)->Q () g):wpS (model prog w) A E s sortRuns' Q st:=by
 refine Ab<|wpS_get ?_;dsimp only;have lN:(arrOf st).toList.length=(arrOf st).size:=A2;obtain⟨N,eN⟩:∃N,N=(arrOf st).size:=⟨_,rfl⟩;rw[<-eN] at a3 lN ⊢;obtain⟨Z,eZ⟩:∃Z,Z=(arrOf st).toList:=⟨_,rfl⟩;rw[<-eZ] at lN ok q;have ax:=Su a3;generalize (sortPriv% PySem.Builtin.minRun) N N 0=mr at ax ⊢;refine Ab (AU (AJ (I:=λx c g=>∃X Y R lo,c=(none,lo)/\kindOf g=κ/\failedOf g=none/\(arrOf g).toList=X++Y++R/\(X++Y++R).Perm Z/\lo=(X++Y).length/\Hx f mr (pendingOf g) X Y R/\x<=lo)
  (Q:=λc g=>∃X Y lo,c=(none,lo)/\kindOf g=κ/\failedOf g=none/\(arrOf g).toList=X++Y/\(X++Y).Perm Z/\Hx f mr (pendingOf g) X Y []) ?_ ?_ ⟨[],[],Z,0,rfl,hk,hf,eZ.symm,.refl _,rfl,.inl ⟨hp,rfl,rfl⟩,An _⟩) ?_)
 ·rintro x c g _ hx ⟨X,Y,R,lo,rfl,k1,k2,t,r,rfl,k6,k7⟩;dsimp only;have lt:=r.length_eq;rw[Ac,lN] at lt;by_cases c:(X++Y).length>=N
  ·rw[AD c];cases BN (show R.length=0 by lia);rw[AN] at t r;exact Ad ⟨X,Y,_,rfl,k1,k2,t,r,k6⟩
  rw[AB c,show N-(X++Y).length=R.length by lia];have T:Tl κ Ok g (X++Y) R:=⟨k1,t,λx hx=>ok x<|r.mem_iff.mp<|Ah _ hx⟩;refine Ab<|Sn O T (by lia) λn R1 a4 g1 g2 a1 ac U1=>?_;dsimp only;have l1:=a1.length_eq;have xt:∀{J:SortSt} {R2:WF} {j:Nat} {pn:Array<|Nat×Nat×Nat},kindOf J=κ->failedOf J=none->(arrOf J).toList=X++Y++R2->pendingOf J=pn.push ((X++Y).length,j,0)->((pendingOf g=#[]/\pn=#[])\/∃v,pn=(pendingOf g).modify ((pendingOf g).size-1) λp=>(p.1,p.2.1,v))->R2.Perm R->1<=j->j<=R.length->(mr<=j\/j=R.length)->Up f R2 j->
   ∃X' Y' R' lo,((none,(X++Y).length+j):Option Unit×Nat)=(none,lo)/\kindOf J=κ/\failedOf J=none/\(arrOf J).toList=X'++Y'++R'/\(X'++Y'++R').Perm Z/\lo=(X'++Y').length/\Hx f mr (pendingOf J) X' Y' R'/\x+1<=lo:=λ{J R2 j pn} h1 h2 h3 h4 hn p2 h5 h6 h7 U=>by
   have l2:=p2.length_eq;have ay:(R2.take j).length=j:=by rw[AX];lia
   have U':=U.pair (by lia);have pz:(X++Y++R2).Perm Z:=((BB _).mpr p2).trans r;rcases k6 with⟨o,rfl,rfl⟩|⟨w,o,rfl,h8,h9⟩|⟨w,v',o,_,_,rfl,_⟩
   ·have e2:pn=#[]:=by
     rcases hn with⟨_,h⟩|⟨v,h⟩
     ·exact h
     ·rw[h,o];rfl
    refine⟨R2.take j,[],R2.drop j,_,rfl,h1,h2,by rw[h3];simp,by simpa using pz,by simp;lia,.inr (.inl ⟨0,by rw[h4,e2,ay];rfl,rfl,?_,U'⟩),by lia⟩;rcases h7 with h|h
    ·exact .inl (by lia)
    ·exact .inr<|Ez (by lia)
   ·have e2:∃v,pn=#[(0,X.length,v)]:=by
     rcases hn with⟨h,_⟩|⟨v,h⟩
     ·rw[o] at h;cases h
     ·exact⟨v,by rw[h,o];rfl⟩
    obtain⟨v,e2⟩:=e2;have r0:R≠[]:=λe=>by rw[e] at h6;exact absurd h6 (by simp;lia)
    have h8:=h8.resolve_right r0;rw[AN] at h3 h4 pz lt c ⊢;have en:j=R2.length:=by rcases h7 with h'|h'<;>lia
    rw[Bb (by lia)] at U';exact⟨X,R2,[],_,rfl,h1,h2,by rw[h3];simp,by simpa using pz,by rw[Ac,en],.inr (.inr ⟨v,0,by rw[h4,e2,en];rfl,by lia,by lia,rfl,h9,U'⟩),by lia⟩
   ·exact absurd h6 (by simp;lia)
  have sz:(pendingOf g).size<=1:=by
   rcases k6 with⟨o,_⟩|⟨w,o,_⟩|⟨w,v',o,_,_,rfl,_⟩
   ·rw[o];exact A1 _
   ·rw[o];exact An _
   ·exact absurd lt (by simp at c ⊢;lia)
  by_cases cm:n<mr
  case' pos=>
   rw[AD cm];refine Ab<|wpS_lift<|Bw ⟨rfl,?_⟩;refine Ab<|Ss O (T.same a1 ac) (by lia) g1 (by lia) U1 λR2 al aL ba U2=>?_;rw[AB (by simp)];obtain⟨j,a2⟩:∃j,j=min R.length mr:=⟨_,rfl⟩;rw[<-a2] at U2 ⊢;have p2:R2.Perm R:=aL.trans a1;have h7:mr<=j\/j=R.length:=by lia
   obtain⟨l,C⟩:∃l,l=setArr (setArr g a4) al:=⟨_,rfl⟩
  case' neg=>
   rw[AB cm];obtain⟨j,a2⟩:∃j,j=n:=⟨_,rfl⟩;obtain⟨R2,a5⟩:∃R2,R2=R1:=⟨_,rfl⟩;rw[<-a2,<-a5] at U1;rw[<-a2];have U2:=U1;have p2:R2.Perm R:=by rw[a5];exact a1
   have h7:mr<=j\/j=R.length:=by lia
   obtain⟨l,C⟩:∃l,l=setArr g a4:=⟨_,rfl⟩
  all_goals
   have n1:1<=j:=by lia
   have n3:j<=R.length:=by lia
   have o:kindOf l=κ:=by rw[C];exact k1
   have e2:failedOf l=none:=by rw[C];exact k2
   have e3:(arrOf l).toList=X++Y++R2:=by rw[C];first|exact ba|(rw[a5];exact ac)
   have e4:pendingOf l=pendingOf g:=by rw[C]
   rw[<-C];refine Ab<|wpS_get ?_;split
   ·refine Ab<|AU (AJ (I:=λy c J=>c=(none,())/\J=l) (Q:=λc J=>c=(none,())/\J=l) ?_ ?_ ⟨rfl,rfl⟩) ?_
    ·rintro y c J _ hy ⟨rfl,rfl⟩;refine Ab<|wpS_get ?_;rw[AB (show ¬(pendingOf J).size > 1 by rw[e4];lia)];exact Ad ⟨rfl,rfl⟩
    ·exactλc J h=>h
    ·rintro c J ⟨rfl,rfl⟩;dsimp only;refine Ab<|wpS_modify<|Ab<|wpS_modify<|Ad ?_;exact xt o e2 e3 rfl (.inr ⟨_,by rw[<-e4]⟩) p2 n1 n3 h7 U2
   ·rename_i hb;have hb:(pendingOf l).back?=none:=Option.eq_none_iff_forall_ne_some.mpr λp=>hb p.1 p.2.1 p.2.2;rw[e4,Array.back?_eq_none_iff] at hb;exact Ab<|wpS_modify<|Ad<|xt o e2 e3 rfl (.inl ⟨hb,e4.trans hb⟩) p2 n1 n3 h7 U2
 ·rintro c g ⟨X,Y,R,lo,rfl,k1,k2,t,r,rfl,k6,k7⟩;have lt:=r.length_eq;rw[Ac,lN] at lt;cases BN (show R.length=0 by lia);rw[AN] at t r;exact⟨X,Y,_,rfl,k1,k2,t,r,k6⟩
 ·rintro c g ⟨X,Y,lo,rfl,k1,k2,t,r,k6⟩;dsimp only;have lt:=r.length_eq;rw[lN] at lt;refine Ab (AU (AJ (I:=λy c J=>c=(none,())/\((y=0/\J=g)\/(failedOf J=none/\(pendingOf J).size<=1/\(arrOf J).toList.Perm Z/\(arrOf J).toList.Pairwise λx y=>f x<=f y)))
   (Q:=λc J=>c=(none,())/\failedOf J=none/\(arrOf J).toList.Perm Z/\(arrOf J).toList.Pairwise λx y=>f x<=f y) ?_ ?_ ⟨rfl,.inl ⟨rfl,rfl⟩⟩) ?_)
  ·rintro y c J _ hy ⟨rfl,h⟩;refine Ab<|wpS_get ?_;rcases h with⟨rfl,rfl⟩|⟨h1,h2,h3⟩
   ·rcases k6 with⟨o,rfl,rfl⟩|⟨w,o,rfl,_,h9⟩|⟨w,v,o,lX,lY,_,sX,sY⟩
    ·rw[AD (show(pendingOf J).size<=1 by rw[o];exact A1 _)];exact Ad ⟨rfl,k2,by rw[t];exact r,by rw[t];exact .nil⟩
    ·rw[AD (show(pendingOf J).size<=1 by rw[o];exact An _)];exact Ad ⟨rfl,k2,by rw[t];exact r,by rw[t,AN];exact h9⟩
    ·rw[AB (show ¬(pendingOf J).size<=1 by rw[o];exact Nat.not_succ_le_self 1)];have gen:∀b:Bool,(if b=true then(pendingOf J).size-2-1 else(pendingOf J).size-2)=0:=λb=>by cases b<;>rw[o]<;>rfl
     refine Ab ?_;show wpS _ _ _ _ (mergeAt'<|if _=true then(pendingOf J).size-2-1 else(pendingOf J).size-2) _ _;rw[gen];refine Sl O k1 k2 o t (λx hx=>ok x<|r.mem_iff.mp hx) lX lY sX sY λbb b1 b2 b3 b4=>?_;rw[AB (by simp)];exact Ad ⟨rfl,.inr ⟨b1,by rw[b2];exact An _,b3.trans r,b4⟩⟩
   ·rw[AD h2];exact Ad ⟨rfl,h1,h3⟩
  ·rintro c J ⟨rfl,h⟩;rcases h with⟨h0,rfl⟩|⟨h1,_,h3⟩
   ·have e:X++Y=[]:=BN (by lia);rw[e] at t r;exact⟨rfl,k2,by rw[t];exact r,by rw[t];exact .nil⟩
   ·exact⟨rfl,h1,h3⟩
  ·rintro c J ⟨rfl,h1,h2,h3⟩;exact Ad<|q J h1 h2 h3
end
open PySem PyProof.Rows PySem.W
def JK(h:Wv)(B:Int)(x:Keyed):Prop:=∃a o n r p t u,x.1=.ref a/\h.get? a=some o/\o.data=.seq #[.int r t,.int p u] n/\0<=p/\p<B
noncomputable def num(h:Wv)(B:Int)(x:Keyed):Int:=match x.1 with
 |.ref a=>match h.get? a with
  |some o=>match o.data with
   |.seq xs _=>match xs.toList with
    |[.int r _,.int p _]=>r*B+p
    |_=>0
   |_=>0
  |none=>0
 |_=>0
def num_of{B:Int}{x:Keyed}{a:Addr}{o:Obj}{r p:Int}{t u:Tok}(I:x.1=.ref a)(J:h.get? a=some o)(U:o.data=.seq #[.int r t,.int p u] n):num h B x=r*B+p:=by unfold num;simp[I,J,U]
def tJ{w:Wu}{B:Int}:Ord prog w A s (tuples' true) (JK s.heap B) (num s.heap B):=by
 constructor;rintro x y ⟨a1,o1,n1,I,J,r,t,l,g1,d1,b1,c1⟩ ⟨a2,o2,n2,U,g,C,T,o,g2,d2,b2,c2⟩ E Q h;rw[num_of l g1 d1,num_of o g2 d2] at h;rw[l,o];refine kat_lt g1 d1 g2 d2 ?_;show KatLex prog w A true _ Q [(.int I r,.int U C),(.int J t,.int g T)] 0 s;refine kat_cons<|wpAny_eqBool_int ?_;by_cases c:I=U
 ·subst c;rw[beq_self_eq_true];refine kat_yes<|kat_cons<|wpAny_eqBool_int ?_;by_cases p:J=g
  ·subst p;rw[beq_self_eq_true];refine kat_yes<|kat_nil ?_;have e:decide (I*B+J<I*B+J)=false:=Au (by lia);rw[e] at h;exact h
  ·rw[EH p];refine kat_no<|kat_one _ _<|PyProof.Rows.lt_int ?_;have e:decide (I*B+J<I*B+g)=decide (J<g):=by
    by_cases z:J<g
    ·rw[Aw z];exact Aw (by lia)
    ·rw[Au z];exact Au (by lia)
   rw[e] at h;exact h
 ·rw[EH c];refine kat_no<|oneLt_int ?_;have e:decide (I*B+J<U*B+g)=decide (I<U):=by
   by_cases z:I<U
   ·rw[Aw z];have j:(I+1)*B<=U*B:=CK (by assumption) (by lia);rw[Int.add_mul,Int.one_mul] at j;exact Aw (by omega)
   ·rw[Au z];have j:(U+1)*B<=I*B:=CK (by lia) (by lia);rw[Int.add_mul,Int.one_mul] at j;exact Au (by lia)
  rw[e] at h;exact h
section
variable {w:Wu}
def o5(h:Wv)(B:Int)(v:Wr):Prop:=∃a o n r p t u,v=.ref a/\h.get? a=some o/\o.cls=.type "tuple" /\ o.data=.seq #[.int r t,.int p u] n/\0<=p/\p<B
def o5.pair{B:Int}{x:Keyed}(k:o5 h B x.1):JK h B x:=by obtain⟨a,o,n,r,p,t,u,I,J,_,U,g,j⟩:=k;exact⟨a,o,n,r,p,t,u,I,J,U,g,j⟩
theorem tups{h:Wv}{B:Int}:∀{ks:Wg},(∀v∈ks,o5 h B v)->∃fs,KatTups h ks fs/\fs.length=ks.length/\∀v∈fs,∃r t,v=Value.int r t
 |[],_=>⟨[],trivial,rfl,λv I=>by simp at I⟩
 |k::ks,J=>by
  obtain⟨fs,h1,h2,h3⟩:=tups (ks:=ks) λv I=>J v<|Ai _ I;obtain⟨a,o,n,r,p,t,u,rfl,U,g,j,_,_⟩:=J k<|Ar ..;refine⟨.int r t::fs,KatTups.cons U g j rfl h1,by simp[h2],λv I=>?_⟩;rcases As.mp I with rfl|I
  ·exact⟨r,t,rfl⟩
  ·exact h3 v I
def JL{B:Int}{ks:Wg}{Q:SortKind->Ws->Prop}(I:∀v∈ks,o5 s.heap B v)(h0:0<ks.length)(q:Q (tuples' true) s):wpAny (model prog w) A (keyKind' ks.toArray) Q E s:=by
 obtain⟨fs,h1,h2,h3⟩:=tups I;refine kat_kind (T:=.type "int") h1 (by lia) (λv J=>?_) (by decide) ?_
 ·obtain⟨r,t,rfl⟩:=h3 v J;exact .now
 ·exact q
theorem tV{R:α->α->Prop}:∀{l:List α},l.length<2->l.Pairwise R
 |[],_=>List.Pairwise.nil
 |[_],_=>List.pairwise_singleton _ _
 |_::_::_,h=>absurd h (by simp)
def Sv{a kS:Addr}{ks:Wg}{e j:Nat}{B:Int}{P:PySem.Fin->Ws->Prop}(p:s.heap.get? kS=some (seqObj "list" ks.toArray e))(ha:s.heap.get? a=some (seqObj "list" #[] j))(r:kS≠a)(hl:ks.length=vs.length)(U:vs.length<=127)
 (hk:∀v∈ks,o5 s.heap B v)
 (h:∀h' tk (xs:WF) c,(∀b,b≠kS->b≠a->h'.get? b=s.heap.get? b)->h'.get? a=some (seqObj "list" (List.toArray (xs.map (·.2))) c)->xs.Perm (ks.zip vs)->(xs.Pairwise λx y=>num s.heap B x<=num s.heap B y)->P (.done<|.ret .none) {s with heap:=h',toks:=tk}):
 wpAny (model prog w) A (ksk_end a false vs.toArray j (.ref kS) ks.toArray) P E s:=by
 have hz:vs.length<=sizeLine:=AM U (by decide);have l:(ks.toArray.zip vs.toArray).toList=ks.zip vs:=by simp
 have tail:∀st:SortSt,failedOf st=none->(arrOf st).toList.Perm (ks.zip vs)->((arrOf st).toList.Pairwise λx y=>num s.heap B x<=num s.heap B y)->wpAny (model prog w) A (ksk_tail a false j (.ref kS) st) P E s:=by
  intro st hf hp hs;have s1:=At s.heap kS<|Obj.mapSeq λ_=>(#[]:Wh);have J:(s.heap.update kS<|Obj.mapSeq λ_=>(#[]:Wh)).get? a=some (seqObj "list" #[] j):=(s1.2 a r.symm).trans ha;have s2:=At (s.heap.update kS<|Obj.mapSeq λ_=>(#[]:Wh)) a (Obj.mapSeq λ_=>(arrOf st).map (·.2));have len:((arrOf st).map (·.2)).size<=sizeLine:=by have:=hp.length_eq;rw[DL,A2] at this;rw[Array.size_map];lia
  unfold ksk_tail
  try dsimp only
  refine Aa (listUpdate_at p rfl ?_ (by rw[Ap];lia)<|A1 _);refine Aa<|wpAny_letGo ?_;refine Aa<|seqEpoch_at J rfl ?_;refine Aa (listUpdate_at J rfl ?_ (A1 _) (by simp only[Cq,if_false];exact CT len));rw[hf];simp only[bne_self_eq_false,Cq,if_false];obtain⟨t,g⟩:∃t,((s.heap.update kS<|Obj.mapSeq λ_=>(#[]:Wh)).update a (Obj.mapSeq λ_=>(arrOf st).map (·.2))).get? a=some (seqObj "list" ((arrOf st).map (·.2)) t):=⟨_,get?_update_seq J λ_=>(arrOf st).map (·.2)⟩;refine Aj<|h _ _ (arrOf st).toList t (λb C T=>?_) ?_ hp hs
  ·exact(s2.2 b T).trans (s1.2 b C)
  ·have em:(arrOf st).map (·.2)=List.toArray ((arrOf st).toList.map (·.2)):=by apply Array.toList_inj.mp;rw[Array.toList_map]
   rw[em] at g ⊢;exact g
 unfold ksk_end;simp only[Cq,if_false];by_cases h2:vs.toArray.size<2
 ·rw[AD h2,AD h2];refine Aa<|Aj ?_;rw[StateT.run_pure];refine Aa<|Aj ?_;refine tail _ rfl (by show(ks.toArray.zip vs.toArray).toList.Perm _;rw[l]) ?_;show(ks.toArray.zip vs.toArray).toList.Pairwise _;rw[l];rw[Ap] at h2;have:(ks.zip vs).length<2:=by rw[DL];lia
  exact tV this
 ·rw[AB h2,AB h2];rw[Ap] at h2;refine Aa<|JL hk (by omega) ?_;refine Aa (AW (JJ (E:=E) (tJ (B:=B)) (st:=SortSt.mk' (tuples' true) (ks.toArray.zip vs.toArray) #[] 7 none)
   (Q:=λ_ I=>failedOf I=none/\(arrOf I).toList.Perm (ks.zip vs)/\((arrOf I).toList.Pairwise λx y=>num s.heap B x<=num s.heap B y)) (by show(ks.toArray.zip vs.toArray).size<128;simp;lia) rfl rfl rfl (λx o=>?_) λI b1 b2 b3=>⟨b1,?_,b3⟩) ?_ λ_ _ e=>e)
  ·have o:x∈(ks.toArray.zip vs.toArray).toList:=o;rw[l] at o;exact o5.pair<|hk _ (DK (a:=x.1) (b:=x.2) o).1
  ·have b2:(arrOf I).toList.Perm (ks.toArray.zip vs.toArray).toList:=b2;rw[l] at b2;exact b2
  ·rintro⟨⟨⟩,I⟩ s' ⟨rfl,b1,b2,b3⟩;exact tail I b1 b2 b3
end
def permLift(f:α->β):∀{l m:List β},l.Perm m->∀{T:List α},T.map f=m->∃U:List α,U.Perm T/\U.map f=l:=by
 intro l m p
 induction p with
 |nil=>intro T e;exact⟨T,CI _,e⟩
 |cons x _ o=>
  intro T e;cases T with
  |nil=>cases e
  |cons t r=>
   rw[AA] at e;obtain⟨I,J⟩:=Ei e;obtain⟨U,C,e'⟩:=o J;exact⟨t::U,C.cons t,by rw[AA,e',I]⟩
 |swap x y l=>
  intro T e
  match T,e with
  |t::u::r,e=>
   rw[AA,AA] at e;obtain⟨I,J⟩:=Ei e;obtain⟨e3,e4⟩:=Ei J;exact⟨u::t::r,List.Perm.swap t u r,by rw[AA,AA,I,e3,e4]⟩
 |trans _ _ g j=>
  intro T e;obtain⟨T1,p1,I⟩:=j e;obtain⟨T2,p2,J⟩:=g I;exact⟨T2,p2.trans p1,J⟩
section
variable {w:Wu}
def mem_self_zip{x:Keyed}(h:x∈vs.zip vs):x.1∈vs/\x.1=x.2:=by
 induction vs with
 |nil=>simp at h
 |cons v r I=>
  rw[DW] at h;rcases As.mp h with rfl|h
  ·exact⟨Ar ..,rfl⟩
  ·exact⟨Ai _ (I h).1,(I h).2⟩
def JM(prog:Wt)(w:Wu)(s:Ws)(keep:Wv->Prop)(κ:SortKind)(vs:Wg)(nm:WH):Prop:=∀(A:Around) (E:Wa) (g:Wv),keep g->
 Ord prog w A {s with heap:=g} κ (λx=>x∈vs.zip vs) nm/\(¬vs.length<2->∀Q:SortKind->Ws->Prop,Q κ {s with heap:=g}->wpAny (model prog w) A (keyKind' vs.toArray) Q E {s with heap:=g})
def Sw{a:Addr}{κ:SortKind}{nm:WH}{P:PySem.Fin->Ws->Prop}(T:s.heap.get? a=some (seqObj "list" vs.toArray n))(hz:vs.length<=127)(ok:JM prog w s (λg=>∀b o,b≠a->s.heap.get? b=some o->g.get? b=some o) κ vs nm)
 (h:∀h' tk (xs:WF) c,(∀b o,b≠a->s.heap.get? b=some o->h'.get? b=some o)->h'.get? a=some (seqObj "list" (List.toArray (xs.map (·.2))) c)->xs.Perm (vs.zip vs)->(xs.Pairwise λx y=>nm x<=nm y)->P (.done<|.ret .none) {s with heap:=h',toks:=tk}):
 wpAny (model prog w) A (Builtin.«list.sort» ⟨[.ref a],[]⟩) P E s:=by
 have big:(100000:Nat)+1<=sizeLine:=by rw[sizeLine_eq];exact De _ _
 have r:(vs.toArray.zip vs.toArray).toList=vs.zip vs:=by simp
 have s1:=At s.heap a<|Obj.mapSeq λ_=>(#[]:Wh);obtain⟨e1,l⟩:∃e1,(s.heap.update a<|Obj.mapSeq λ_=>(#[]:Wh)).get? a=some (seqObj "list" #[] e1):=⟨_,get?_update_seq T λ_=>#[]⟩;obtain⟨I,U⟩:∃g,g=((s.heap.update a<|Obj.mapSeq λ_=>(#[]:Wh)).push<|seqObj "tuple" vs.toArray 0).push (seqObj "list" #[] 0):=⟨_,rfl⟩;have k3:∀b o,b≠a->s.heap.get? b=some o->I.get? b=some o:=λb o t e=>by rw[U];exact wh _<|wh _<|(s1.2 b t).trans e
 have j:I.get? a=some (seqObj "list" #[] e1):=by rw[U];exact wh _<|wh _ l
 have tail:∀st:SortSt,(arrOf st).toList.Perm (vs.zip vs)->((arrOf st).toList.Pairwise λx y=>nm x<=nm y)->
  ∀tk,P (.done<|.ret .none) {s with heap:=I.update a (Obj.mapSeq λ_=>(arrOf st).map (·.2)),toks:=tk}:=by
  intro st hp hs tk;have s2:=At I a (Obj.mapSeq λ_=>(arrOf st).map (·.2));obtain⟨c2,p⟩:∃c2,(I.update a (Obj.mapSeq λ_=>(arrOf st).map (·.2))).get? a=some (seqObj "list" ((arrOf st).map (·.2)) c2):=⟨_,get?_update_seq j λ_=>(arrOf st).map (·.2)⟩;have em:(arrOf st).map (·.2)=List.toArray ((arrOf st).toList.map (·.2)):=by apply Array.toList_inj.mp;rw[Array.toList_map]
  refine h _ tk (arrOf st).toList c2 (λb o t e=>(s2.2 b t).trans<|k3 b o t e) ?_ hp hs;rw[em] at p ⊢;exact p
 have len:∀st:SortSt,(arrOf st).toList.Perm (vs.zip vs)->((arrOf st).map (·.2)).size<=sizeLine+1:=λst hp=>by have:=hp.length_eq;rw[DL,A2] at this;rw[Array.size_map];lia
 rw[list_sort_plain];refine Aa<|listItems_at T rfl ?_;refine Aa (listUpdate_at T rfl ?_ (by rw[Ap];exact eM)<|A1 _);refine Aa<|seqEpoch_at l rfl ?_;refine Aa (wpAny_newTuple ?_ (by show vs.length<=_;lia));refine Aa<|wpAny_newList ?_<|A1 _;refine Bf ?_;show wpAny (model prog w) A _ P E {s with heap:=((s.heap.update a<|Obj.mapSeq λ_=>(#[]:Wh)).push<|seqObj "tuple" vs.toArray 0).push (seqObj "list" #[] 0)};rw[<-U];dsimp only;by_cases h2:vs.toArray.size<2
 ·rw[AD h2,AD h2];refine Aa<|Aj ?_;rw[StateT.run_pure];refine Aa<|Aj ?_;dsimp only;refine Aa<|seqEpoch_at j rfl ?_;have pz:(arrOf<|SortSt.mk' κ (vs.toArray.zip vs.toArray) #[] 7 none).toList.Perm (vs.zip vs):=by show(vs.toArray.zip vs.toArray).toList.Perm _;rw[r]
  refine Aa<|listUpdate_at j rfl ?_ (A1 _)<|len _ pz;simp only[bne_self_eq_false,Cq,if_false];refine Aj<|tail (SortSt.mk' κ (vs.toArray.zip vs.toArray) #[] 7 none) pz ?_ _;show(vs.toArray.zip vs.toArray).toList.Pairwise _;rw[r];rw[Ap] at h2;have:(vs.zip vs).length<2:=by rw[DL];lia
  exact tV this
 ·rw[AB h2,AB h2];rw[Ap] at h2;refine Aa<|(ok _ _ I k3).2 h2 _ ?_;refine Aa (AW (JJ (E:=E) (ok _ E I k3).1 (st:=SortSt.mk' κ (vs.toArray.zip vs.toArray) #[] 7 none)
   (Q:=λ_ J=>failedOf J=none/\(arrOf J).toList.Perm (vs.zip vs)/\((arrOf J).toList.Pairwise λx y=>nm x<=nm y)) (by show(vs.toArray.zip vs.toArray).size<128;simp;lia) rfl rfl rfl (λx C=>?_) λJ b1 b2 b3=>⟨b1,?_,b3⟩) ?_ λ_ _ e=>e)
  ·have C:x∈(vs.toArray.zip vs.toArray).toList:=C;rw[r] at C;exact C
  ·have b2:(arrOf J).toList.Perm (vs.toArray.zip vs.toArray).toList:=b2;rw[r] at b2;exact b2
  ·rintro⟨⟨⟩,J⟩ s' ⟨rfl,b1,b2,b3⟩;dsimp only;refine Aa<|seqEpoch_at j rfl ?_;refine Aa<|listUpdate_at j rfl ?_ (A1 _)<|len _ b2;rw[b1];simp only[bne_self_eq_false,Cq,if_false];exact Aj<|tail J b2 b3 _
def qI{l:Addr}{κ:SortKind}{nm:WH}(r:s.heap.IsList l vs.toArray)(hz:vs.length<=127)(ok:JM prog w s (λg=>∀b o,s.heap.get? b=some o->g.get? b=some o) κ vs nm)
 (h:∀h' tk (xs:WF) D c,s.heap.objs.size<=D->(∀b o,s.heap.get? b=some o->h'.get? b=some o)->h'.get? D=some (seqObj "list" (List.toArray (xs.map (·.2))) c)->xs.Perm (vs.zip vs)->(xs.Pairwise λx y=>nm x<=nm y)->Q (.ref D) {s with heap:=h',toks:=tk}):
 wpAny (model prog w) A (call (.builtin "sorted") [.ref l]) Q E s:=by
 have big:(100000:Nat)+1<=sizeLine:=by rw[sizeLine_eq];lia
 refine Calls.call_function_entry kind_sorted plain_sorted entry_sorted (args_sorted1 _) ?_;unfold Builtin.«sorted»;refine Aa (m:=checkCount "sorted" 1 1 _)<|Aj ?_;refine Aa<|collect_list r ?_ (by lia);refine Aa<|wpAny_newList ?_ (by lia);obtain⟨g,j⟩:∃g,g=(s.heap.push<|seqObj "list" #[] 0).update s.heap.objs.size (Obj.mapSeq (· ++ vs.toArray)):=⟨_,rfl⟩;have p:g.objs.size=s.heap.objs.size+1:=by rw[j,Heap.size_update,size_push']
 have t:∀b o,s.heap.get? b=some o->g.get? b=some o:=λb o q=>by have I:b<s.heap.objs.size:=xT q;rw[j,Heap.get?_update_ne _ _ _ _<|A3 I];exact wh _ q
 show wpAny _ _ _ _ _ {s with heap:=((s.heap.push<|seqObj "list" #[] 0).update s.heap.objs.size (Obj.mapSeq (· ++ vs.toArray))).push (seqObj "list" vs.toArray 0)};rw[<-j];have U:(g.push<|seqObj "list" vs.toArray 0).get? g.objs.size=some (seqObj "list" vs.toArray 0):=ya _ rfl;have keep:∀J:Wv,(∀b o,b≠g.objs.size->(g.push<|seqObj "list" vs.toArray 0).get? b=some o->J.get? b=some o)->∀b o,s.heap.get? b=some o->J.get? b=some o:=λJ k b o q=>k b o (λz=>by have I:b<s.heap.objs.size:=xT q;rw[z,p] at I;exact Nat.not_succ_lt_self I)<|wh _<|t b o q
 refine Aa<|Bf<|wpAny_call_entry slot_list_sort ⟨_,U,rfl⟩ entry_list_sort ?body<|args_list_sort _
 case body=>
  refine Sw (s:={s with heap:=g.push (seqObj "list" vs.toArray 0)}) U hz (λA E J k=>ok A E J<|keep J k) λh' tk xs c C T pm pw=>?_;exact⟨_,rfl,Aj ⟨_,rfl,h h' tk xs g.objs.size c (by rw[p];exact CU _) (keep h' C) T pm pw⟩⟩
def w_sorted{l:Addr}{B:Int}(hl:s.heap.IsList l vs.toArray)(hz:vs.length<=127)(C:∀v∈vs,o5 s.heap B v)
 (h:∀h' tk (xs:WF) D c,s.heap.objs.size<=D->(∀b o,s.heap.get? b=some o->h'.get? b=some o)->h'.get? D=some (seqObj "list" (List.toArray (xs.map (·.2))) c)->xs.Perm (vs.zip vs)->(xs.Pairwise λx y=>num s.heap B x<=num s.heap B y)->Q (.ref D) {s with heap:=h',toks:=tk}):
 wpAny (model prog w) A (call (.builtin "sorted") [.ref l]) Q E s:=by
 refine qI (κ:=tuples' true) hl hz (λA E g k=>?_) h;have j:∀v∈vs,o5 g B v:=λv hv=>by obtain⟨a,o,m,r,p,t,u,I,J,r'⟩:=C v hv;exact⟨a,o,m,r,p,t,u,I,k _ _ J,r'⟩
 have nk:∀x∈vs.zip vs,num g B x=num s.heap B x:=λx U=>by obtain⟨a,o,m,r,p,t,u,I,J,e3,T,_⟩:=C _ (mem_self_zip U).1;rw[num_of I J T,num_of I (k _ _ J) T]
 refine⟨⟨λx y U hy {E Q} q=>?_⟩,λh2 Q q=>JL (s:={s with heap:=g}) j (by lia) q⟩;rw[<-nk x U,<-nk y hy] at q;exact(tJ (s:={s with heap:=g})).lt x y (o5.pair<|j _ (mem_self_zip U).1) (o5.pair<|j _ (mem_self_zip hy).1) q
end
end TS
namespace L2
open PySem PySem.Spec PyProof.Rows
def i6(f:α->β){l m:List β}(p:l.Perm m){T:List α}(e:T.map f=m):∃I:List α,I.Perm T/\I.map f=l:=TS.permLift f p e
theorem gS{α β I:Type}{R:β->I->Prop}{g:α->β}{h:α->I}:∀{T:List α},(∀t∈T,R (g t)<|h t)->Paired R (T.map g) (T.map h)
 |[],_=>.nil
 |t::_,k=>.cons (k t<|Ar ..)<|gS λu J=>k u<|Ai _ J
def rp{J:Type}{R:α->β->Prop}{S:α->J->Prop}:∀{xs:List α} {ys:List β} {zs:List J},Paired R xs ys->Paired S xs zs->∃T:List (α×β×J),T.map (·.1)=xs/\T.map (λt=>t.2.1)=ys/\T.map (λt=>t.2.2)=zs/\∀t∈T,R t.1 t.2.1/\S t.1 t.2.2
 := by
 intro xs ys zs p q
 induction p generalizing zs with
 |nil=>cases q;exact⟨[],rfl,rfl,rfl,λt I=>by cases I⟩
 |cons r p l=>
  cases q with
  |cons q o=>
   rename_i x y U g z j;obtain⟨T,C,e2,e3,k⟩:=l o;refine⟨(x,y,z)::T,by rw[AA,C],by rw[AA,e2],by rw[AA,e3],λt I=>?_⟩;rcases As.mp I with rfl|I
   ·exact⟨r,q⟩
   ·exact k t I
theorem cR{α β:Type}{f:α->β}:∀{l:List α},(∀x∈l,∀y∈l,f x=f y->x=y)->l.Nodup->(l.map f).Nodup
 |[],_,_=>B6
 |a::r,h,n=>by obtain⟨J,U⟩:=AE.mp n;rw[AA];refine AE.mpr ⟨λz=>?_,cR (λx g y I=>h x (Ai _ g) y<|Ai _ I) U⟩;obtain⟨y,I,e⟩:=Bg.mp z;have:=h y (Ai _ I) a (Ar ..) e;exact J<|this▸I
def oC(p q:Int×Int):Prop:=p.1<q.1\/(p.1=q.1/\p.2<=q.2)
abbrev yw(K:Af)(H:Hp)(v:V)(p:Int×Int):Prop:=∃a,v=.ref a/\dz K H a [.int p.1,.int p.2]
def Sx{B:Int}{p q:Int×Int}(J:0<=p.2/\p.2<B)(U:0<=q.2/\q.2<B)(h:p.1*B+p.2<=q.1*B+q.2):oC p q:=by
 unfold oC;by_cases c:p.1<q.1
 ·exact .inl c
 ·right;by_cases d:q.1<p.1
  ·have I:(q.1+1)*B<=p.1*B:=CK (by assumption) (by lia);rw[Int.add_mul,Int.one_mul] at I;omega
  ·have e:p.1=q.1:=by lia
   rw[e] at h;exact⟨e,by lia⟩
def Sy(X:Cx):Wx->Hp->VK->Prop:=λxs H Q=>∃l ys ps,xs=[.ref l]/\aF X.K H l ys/\Paired (yw X.K H) ys ps/\(∀p∈ps,0<=p.2/\p.2<1000000)/\ps.Nodup/\ys.length<=127/\
 ∀D zs qs,H D=none->Paired (yw X.K H) zs qs->qs.Perm ps->qs.Pairwise oC->Q (.ref D) (upd H D<|.lst zs)
def wH:ja X (.builtin "sorted") (Sy X):=by
 rintro a4 s σ H xs us Q I r⟨l,ys,ps,rfl,hl,pr,hb,hnd,a1,q⟩;obtain⟨u,rfl,ru⟩:=r.one;cases (show u=Value.ref l from ru);obtain⟨p,rv,pl,hz⟩:=I.list hl;have l1:ys.length=p.length:=rv.length;obtain⟨T,e1,e2,e3,kT⟩:=rp rv pr;have U:∀t∈T,(∃a o n g j,t.2.1=Value.ref a/\s.heap.get? a=some o/\o.cls=.type "tuple" /\ o.data=.seq #[.int t.2.2.1 g,.int t.2.2.2 j] n)/\0<=t.2.2.2/\t.2.2.2<1000000:=λt J=>by obtain⟨r1,a,ea,hs⟩:=kT t J;obtain⟨a5,a2,⟨o,g1,g2,n,g3⟩,_⟩:=I.tuple hs;obtain⟨w1,w2,rfl,x1,x2⟩:=a2.two;obtain⟨g,rfl⟩:=(show ∃g,w1=Value.int t.2.2.1 g from x1);obtain⟨j,rfl⟩:=(show ∃j,w2=Value.int t.2.2.2 j from x2);rw[ea] at r1;refine⟨⟨a,o,n,g,j,r1,g1,g2,g3⟩,?_⟩;exact hb _ (by rw[<-e3];exact C5 (f:=λt:V×Wr×(Int×Int)=>t.2.2) J)
 have nT:∀t∈T,TS.num s.heap 1000000 (t.2.1,t.2.1)=t.2.2.1*1000000+t.2.2.2:=λt J=>by obtain⟨⟨a,o,n,g,j,g0,g1,g2,g3⟩,_⟩:=U t J;exact TS.num_of g0 g1 g3
 have ez:p.zip p=T.map λt=>(t.2.1,t.2.1):=by rw[<-e2,List.zip_map']
 refine j5 I.tk (TS.w_sorted (B:=1000000) pl.isList (by rw[<-l1];exact a1) (λv hv=>?_) λh' tk ks D c hD hk hg pm pw J=>?_)
 ·rw[<-e2] at hv;obtain⟨t,J,rfl⟩:=Bg.mp hv;obtain⟨⟨a,o,n,g,j,g0,g1,g2,g3⟩,b1,b2⟩:=U t J;exact⟨a,o,n,_,_,g,j,g0,g1,g2,g3,b1,b2⟩
 ·rw[ez] at pm;obtain⟨T',pT,eT⟩:=i6 _ pm rfl;subst eT;have C:∀t,t∈T'->t∈T:=λt=>pT.mem_iff.mp;have a3:=BO.mp pw;refine⟨.ref D,_,I.laid (t':=tk) (o:=.lst (T'.map (·.1))) hk hD ?_,rfl,q D (T'.map (·.1)) (T'.map λt=>t.2.2) (I.hok.fresh hD) (gS λt J=>(kT t<|C t J).2) ?_ ?_⟩
  ·refine⟨?_,T'.map λt=>t.2.1,c,gS λt J=>(kT t<|C t J).1,?_⟩
   ·rw[Ae,pT.length_eq];have:T.length=ys.length:=by rw[<-e1,Ae]
    rw[this];exact hz
   ·rw[hg,BK];rfl
  ·rw[<-e3];exact pT.map _
  ·refine BO.mpr<|Ek (λ{x y} hx hy z=>?_) a3;rw[nT x<|C x hx,nT y<|C y hy] at z;exact Sx (U x<|C x hx).2 (U y<|C y hy).2 z
end L2
namespace L3
open PySem L2
def rg(p:Int×Int):Y:=.tup [.int p.1,.int p.2]
theorem uF{G:G3}{H:Hp}:∀{ps:List<|Int×Int} {xs:Wx},xm G H (ps.map rg) xs->Paired (yw G.K H) xs ps
 |[],_,h=>by cases (show _=[] from h);exact .nil
 |p::r,_,⟨x,U,e,⟨a,zs,ea,g,j,l,o,I,t,C,T,J,e3⟩,s⟩=>by subst e ea o T e3;cases (show j=V.int p.1 from I);cases (show t=V.int p.2 from J);exact .cons ⟨a,rfl,g⟩<|uF s
def Sz :∀{ps:List<|Int×Int} {xs:Wx},Paired (yw G.K H) xs ps->xm G H (ps.map rg) xs:=by
 intro ps xs h
 induction h with
 |nil=>exact rfl
 |cons z t I=>
  obtain⟨a,ea,J⟩:=z;subst ea;exact⟨_,_,rfl,⟨a,_,rfl,J,_,_,rfl,rfl,_,_,rfl,rfl,rfl⟩,I⟩
def am(xs:List Y)(L:qk)(Q:YK):Prop:=match xs with
 |[.ref a]=>cB L a λys=>∃ps:List (Int×Int),ys=ps.map rg/\(∀p∈ps,0<=p.2/\p.2<1000000)/\ps.Nodup/\ps.length<=127/\∀(D:Addr) (qs:List<|Int×Int),L D=none->qs.Perm ps->qs.Pairwise oC->Q (.ref D) (qi L D<|.lst<|qs.map rg)
 |_=>False
def vv:bootBuiltins "sorted"=some (.builtin "sorted"):=by decide +kernel
theorem bA :ja X (.builtin "sorted") (c_ X.g3 am):=E9 wH λxs H Q ys L Q3 g J z k=>by
 unfold am at z;split at z
 ·rename_i a;obtain⟨j,e,l,rfl,o,hnd,I,z⟩:=jy z;obtain⟨p,t,r⟩:=J a _ e;obtain⟨u,rfl,C⟩:=g.inv1;cases (show u=V.ref a from C);have T:=uF r;exact⟨a,p,l,rfl,FA t,T,o,hnd,by rw[<-r.length,Ae];exact I,λD j qs U pz pm pw=>k _ _ _ _ (ET U) (J.newL U<|Sz pz) (by rfl)<|z D qs (J.none U) pm pw⟩
 ·exact z.elim
open PySem L2 Words
def bM:Wd->Y
 |.leaf t n=>.tup [.str<|kL t,.str n]
 |.node e l r=>.tup [.str<|kN e,bM l,bM r]
def qf{Q:α->qk->Prop}{o:Option α}{v:α}(e:o=some v)(h:Q v L):xA L Q o:=by rw[e];exact h
def pG:RD "is_leaf" oy 0 ["word"] (λ_=>True):=⟨_,λV B c _ _ _ _ _ _ _ I hN J=>(qe<|qu<|kh (IQ _ _ _) (J_ 0) (IZ B.k_LEAF_KINDS rfl) (by with_unfolding_all rfl))⟩
def kX:Bool->Bool->Str
 |true,t=>kL t
 |false,e=>kN e
inductive wo(ys:List Y)(L:qk)(Q:YK):Prop
 |mk:∀lf b rest,(ys=[.tup<|.str (kX lf b)::rest])->(Q (.bl lf) L)->wo ys L Q
def SA(t:Bool):vF (.str<|kL t) [.str "plain",.str "turned"]=true:=by cases t<;>decide +kernel
def SD(t:Bool):vF (.str<|kN t) [.str "plain",.str "turned"]=false:=by cases t<;>decide +kernel
def xD:∀ys L Q,wo ys L Q->xi pG.1 1 ys L Q:=by
 rintro ys L Q ⟨lf,b,rest,rfl,q⟩;have I:eI (Y.str (kX lf b)::rest) 0=some (Y.str<|kX lf b):=x5 (xs:=Y.str (kX lf b)::rest) (j:=0) rfl;walk_at "w";rw[I];refine⟨rfl,rfl,xt ?_⟩;cases lf with
 |true=>
  rw[show nb false (vF (ft<|.str<|kX true b)<|[Y.str "plain",.str "turned"].map ft)=true from SA b];exact q
 |false=>
  rw[show nb false (vF (ft<|.str<|kX false b)<|[Y.str "plain",.str "turned"].map ft)=false from SD b];exact q
def u6(J U:vh):RR "turned" uq 2 ["word"] ["word","kind"] U (λV=>FV V J):=⟨_,λV B c _ _ I _ _ _ _ _ _ g hN j=>(qb (S_ 1 hN<|I_ (IZ B.k_TURNED_KINDS rfl)<|J_ 0)<|qb (zj (vq<|C_ c g<|jn<|qv 0) (qe<|qu<|zb<|xx (qv 1)<|J_ 0) ze)<|qe<|qu<|zb<|aT (qv 1) (C_ I g<|jn<|J_ 0)<|C_ I g<|jn<|J_ 0)⟩
inductive aK(n:Nat)(ys:List Y)(L:qk)(Q:YK):Prop
 |mk:∀wd,(ys=[bM wd])->(wd.depth<=n)->(Q (bM wd.turn) L)->aK n ys L Q
def pL(t:Bool):List.lookup (kL t) [(("plain" : Str),("turned" : Str)),("turned","plain"),("both","either"),("either","both")]=some (kL<|!t):=by cases t<;>decide +kernel
def pI(t:Bool):List.lookup (kN t) [(("plain" : Str),("turned" : Str)),("turned","plain"),("both","either"),("either","both")]=some (kN<|!t):=by cases t<;>decide +kernel
def SE(n:Nat):∀ys L Q,aK (n+1) ys L Q->xi (u6 wo<|aK n).1 2 ys L Q:=by
 rintro ys L Q ⟨I,rfl,hd,q⟩;cases I with
 |leaf t nm=>
  exact qf (pL t) ⟨true,t,_,rfl,xt q⟩
 |node e l r=>
  have J:max l.depth r.depth+1<=n+1:=hd;refine qf (pI e) ⟨false,e,_,rfl,l,rfl,by lia,r,rfl,by lia,?_⟩;exact xt q
def jc.str(x:Str):jc L n (.str x) (.s<|.str x):=by cases n with|zero=>exact⟨rfl,rfl⟩|succ n=>exact .inl ⟨rfl,rfl⟩
abbrev E7:=@jc.str
def jc.int(x:Int):jc L n (.int x) (.s<|.int x):=by cases n with|zero=>exact⟨rfl,rfl⟩|succ n=>exact .inl ⟨rfl,rfl⟩
abbrev EX:=@jc.int
theorem gn{L:qk}:∀{wd:Wd} {n:Nat},wd.depth<=n->jc L n (bM wd) (nO wd)
 |.leaf t nm,n+1,_=>.inr<|.inl ⟨_,_,rfl,rfl,.cons (E7 _)<|.cons (E7 _) .nil⟩
 |.node e l r,n+1,h=>by have I:max l.depth r.depth+1<=n+1:=h;exact .inr<|.inl ⟨_,_,rfl,rfl,.cons (E7 _)<|.cons (gn (by lia))<|.cons (gn (by lia)) .nil⟩
def we{a:Addr}(e:L a=some (.lst ys))(p:Paired (jc L n) ys ds):jc L (n+1) (.ref a) (.lst ds):=.inr<|.inr ⟨ys,ds,rfl,rfl,wx e,p⟩
def w4(p:Paired (jc L n) ys ds):jc L (n+1) (.tup ys) (.tup ds):=.inr<|.inl ⟨ys,ds,rfl,rfl,p⟩
def mC{neg:Bool}{u v:Wd}{Q:YK}(J:u.depth<=128)(q:Q (.bl<|nb neg<|Da.eq (nO u)<|nO v) L):b_ neg (bM u) (bM v) L Q:=by
 have I:∀w:Wd,Fk (bM w)=true:=λw=>by cases w<;>rfl
 have:Fk (bM u)=true/\Fk (bM v)=true/\∃n m d e,n<=128/\jc L n (bM u) d/\jc L m (bM v) e/\Q (.bl<|nb neg<|Da.eq d e) L:=
  ⟨I u,I v,u.depth,v.depth,nO u,nO v,J,gn<|An _,gn<|An _,q⟩
 cases u<;>cases v<;>exact this
def bR{neg:Bool}{a b:Addr}{zs:List Y}{es:List Da}{m:Nat}{Q:YK}(I:n<128)(ea:L a=some (.lst ys))(eb:L b=some (.lst zs))(pa:Paired (jc L n) ys ds)(pb:Paired (jc L m) zs es)(q:Q (.bl<|nb neg<|Da.eqs ds es) L):
 b_ neg (.ref a) (.ref b) L Q:=⟨rfl,rfl,n+1,m+1,_,_,I,we ea pa,we eb pb,q⟩
def zT:∀ys L Q,¬aK 0 ys L Q:=by rintro ys L Q ⟨I,_,hd,_⟩;cases I<;>simp[Wd.depth] at hd
def nY(hs:Wi):List Y:=hs.map λn:Nat=>.int (n:Int)
def aq(hs:Wi):(nY hs).length=hs.length:=by unfold nY;rw[Ae]
def y8(h:j<n):sO n (j:Int)=some j:=by unfold sO;rw[AD (by exact AV _),AD (by omega)];rfl
def vf{a p:Addr}{o:LO}(h:qi L a o p=none):L p=none:=by
 by_cases c:p=a
 ·subst c;rw[q9] at h;cases h
 ·rw[qc c] at h;exact h
def zd{l:List α}{x:α}(h:l[i]?=some x):i<l.length:=(AI.mp h).1
def fB:RD "_law_cell_at" eQ 0 ["_law_script","_law_k"] (λ_=>True):=⟨_,λV B c _ _ _ _ _ _ _ I hN J=>(qb (zj (jk gG (qv 1) (L_ B.ba<|qv 0)<|jf _) (qe<|qu<|I_ (qv 0)<|qv 1) ze)<|qe<|qu qd)⟩
def nZ:RD "_law_mix" mF 0 ["_law_cell","_law_k","_law_factor"] (λ_=>True):=⟨_,λV B c _ _ _ _ _ _ _ I hN J=>(qe<|qu<|ql vk (ql j7 (ql qL (ql js (ql js (ql qL (ql j7 (qv 0) qd) qd)<|ql qL (qv 1)<|qv 1) qd)<|qv 2) qd) qd)⟩
def fv(J:vh):RR "_law_weight" gC 1 ["_law_word_here"] ["_law_word_here"] J (λ_=>True):=⟨_,λV B c _ _ I _ _ _ _ _ _ U hN g=>(qb (zj (E_ g (L_ B.ba<|qv 0) qd) (qe<|qu qd) ze)<|qe<|qu<|ql js (ql js qd<|C_ I U<|jn<|J_ 0)<|C_ I U<|jn<|J_ 0)⟩
def kB(I:vh):RR "_law_same" jL 1 ["_law_found","_law_due"] ["_law_found","_law_due","_law_one","_law_other"] I (λ_=>True):=⟨_,λV B c _ _ J _ _ _ _ _ _ g hN U=>(qb (zj (kj<|gv (vq<|w6 .bool rfl B.bf rfl B.b_bool l6<|qv 0)<|da<|vq<|w6 .bool rfl B.bf rfl B.b_bool l6<|qv 1) (qe<|qu<|ky (w6 .bool rfl B.bf rfl B.b_bool l6<|qv 0)<|ky (w6 .bool rfl B.bf rfl B.b_bool l6<|qv 1)<|ai<|kh (cf _ _ _ U) (qv 0) (qv 1)<|jf _) ze)<|qb (zj (vq<|vK .list .tuple rfl B.bf rfl B.bi dS rfl B.b_tuple gi<|qv 1) (qb (zj (kj<|gv (N_ U (w6 .list rfl B.bf rfl B.bi dS<|qv 0)<|w6 .list rfl B.bf rfl B.bi dS<|qv 1)<|da<|N_ U (w6 .tuple rfl B.bf rfl B.b_tuple gi<|qv 0)<|w6 .tuple rfl B.bf rfl B.b_tuple gi<|qv 1) (qe<|qu bZ) ze)<|qb (zj (N_ U (L_ B.ba<|qv 0)<|L_ B.ba<|qv 1) (qe<|qu bZ) ze)<|qb (aP yp rfl (QH rfl B.b_zip<|xx (qv 0)<|qv 1) (vz (n:=2) rfl<|qx (G_ 2 hN)<|qx (G_ 3 hN) xh)<|qe<|zj (gQ<|vq<|C_ J g<|xx (qv 2)<|qv 3) (qe<|qu bZ) ze)<|qe<|qu bZ) ze)<|qb (zj (vq<|w6 .int rfl B.bf rfl B.br wN<|qv 1) (qe<|qu<|ky (w6 .int rfl B.bf rfl B.br wN<|qv 0)<|ai<|kh (cf _ _ _ U) (qv 0) (qv 1)<|jf _) ze)<|qb (zj (vq<|w6 .str rfl B.bf rfl B.b_str Iy<|qv 1) (qe<|qu<|ky (w6 .str rfl B.bf rfl B.b_str Iy<|qv 0)<|ai<|kh (cf _ _ _ U) (qv 0) (qv 1)<|jf _) ze)<|qe<|qu<|P_<|qv 0)⟩
def kW(J:vh):RR "_law_word" jV 1 ["_law_knots","_law_p"] ["_law_knots","_law_p","_law_knot"] J (λ_=>True):=⟨_,λV B c _ _ I _ _ _ _ _ _ U hN g=>(qb (S_ 2 hN<|I_ (qv 0)<|qv 1)<|qb (zj (E_ g (L_ B.ba<|qv 2) qd) (qe<|qu<|qv 2) ze)<|qe<|qu<|zb<|aT (J_ 2) (C_ I U<|xx (qv 0)<|J_ 2)<|C_ I U<|xx (qv 0)<|J_ 2)⟩
def qM(J U:vh):RR "word_at" pW 2 ["knots","place"] ["knots","place","knot"] U (λV=>FV V J):=⟨_,λV B c _ _ I _ _ _ _ _ _ g hN j=>(qb (S_ 2 hN<|I_ (qv 0)<|qv 1)<|qb (zj (vq<|C_ c g<|jn<|qv 2) (qe<|qu<|qv 2) ze)<|qe<|qu<|zb<|aT (J_ 2) (C_ I g<|xx (qv 0)<|J_ 2)<|C_ I g<|xx (qv 0)<|J_ 2)⟩
inductive dW(ys:List Y)(L:qk)(Q:YK):Prop
 |mk:∀ns:Wm,∀k:Int,(ys=[.sq<|ns.map Y.int,.int k])->(0<=k)->(∀v,Q (.int v) L)->dW ys L Q
def xQ:∀ys L Q,dW ys L Q->xi fB.1 2 ys L Q:=by rintro ys L Q ⟨I,k,rfl,h0,q⟩;refine zo (λc=>?_) λc=>xt<|q 0;have J:k<((I.map Y.int).length:Int):=c;rw[Ae] at J;obtain⟨j,rfl⟩:∃j:Nat,k=(j:Int):=⟨k.toNat,by lia⟩;have e:eI (I.map Y.int) (j:Int)=some (Y.int<|I[j]'(by omega)):=jp<|Ag _;walk_at "w";rw[e];exact xt<|q _
inductive cJ(ys:List Y)(L:qk)(Q:YK):Prop
 |mk:∀c k f:Int,(ys=[.int c,.int k,.int f])->(0<=k)->(k<1000000)->(0<f)->(f<1000000)->(∀v,0<=v->v<134217728->Q (.int v) L)->cJ ys L Q
def SF:∀ys L Q,cJ ys L Q->xi nZ.1 3 ys L Q:=by
 rintro ys L Q ⟨c,k,f,rfl,h0,h1,h2,h3,q⟩;refine⟨(by decide:(0:Int)<1000003),.inr ⟨by decide,by decide⟩,.inl ⟨by lia,by lia⟩,.inr ⟨by lia,by lia⟩,(by decide:(0:Int)<2147483647),⟨by decide,by decide⟩,xt<|q _ ?_ ?_⟩
 all_goals
  generalize ((c % 1000003*7+k*k+1)*f)=z;lia
def SG(cs:Wi):(Txt.join ""<|cs.map λc=>(⟨#[c]⟩:Str)).cps.toList=cs:=by
 rw[rV]
 induction cs with|nil=>rfl|cons c r I=>rw[AA,Bh,I];rfl
inductive bG(n:Nat)(ys:List Y)(L:qk)(Q:YK):Prop
 |mk:∀wd,(ys=[bM wd])->(wd.depth<=n)->(Q (.int wd.size) L)->bG n ys L Q
def oI:∀ys L Q,¬bG 0 ys L Q:=by rintro ys L Q ⟨I,_,hd,_⟩;cases I<;>simp[Wd.depth] at hd
def SH(n:Nat):∀ys L Q,bG (n+1) ys L Q->xi (fv<|bG n).1 1 ys L Q:=by
 rintro ys L Q ⟨I,rfl,hd,q⟩;cases I with
 |leaf t n=>exact xt q
 |node e l r=>
  have J:max l.depth r.depth+1<=n+1:=hd;refine⟨l,rfl,by lia,r,rfl,by lia,xt ?_⟩;have e:(1+(l.size:Int)+(r.size:Int))=(((Wd.node e l r).size:Nat):Int):=by show _=((1+l.size+r.size:Nat):Int);rfl
  rw[e];exact q
def dy(L:qk):Nat->Y->Y->Prop
 |0,_,_=>False
 |n+1,x,y=>(fu x=true/\y=x)\/(∃xs ys,x=.tup xs/\y=.tup ys/\Paired (dy L n) xs ys)\/(∃a b xs ys,x=.ref a/\y=.ref b/\L a=some (.lst xs)/\L b=some (.lst ys)/\Paired (dy L n) xs ys)
def dy.flat{x:Y}(h:fu x=true):dy L (n+1) x x:=.inl ⟨h,rfl⟩
inductive fQ(n:Nat)(ys:List Y)(L:qk)(Q:YK):Prop
 |mk:∀x y,(ys=[x,y])->(dy L n x y)->(Q (.bl true) L)->fQ n ys L Q
def rK:∀ys L Q,¬fQ 0 ys L Q:=λys L Q ⟨x,y,_,h,_⟩=>h
def yM{xs:List Y}{keep:qk->Prop}{tb:bB}(W:Nat->j9->qk->Prop)(h0:W 0 τ L)(J:∀i τ L',W i τ L'->keep L')
 (hs:∀i x y τ L,xs[i]?=some x->ys[i]?=some y->W i τ L->g (.tup [x,y]) τ L λI L2=>tb {D with nx:=i0<|W<|i+1,ct:=i0<|W<|i+1,bk:=D.nx} I L2) (hd:∀τ L,W (min xs.length ys.length) τ L->D.nx τ L):
 qS (vY xs ys) keep g tb D τ L:=aV ⟨W,h0,J,λi y τ L e w=>by obtain⟨a,b,ea,eb,rfl⟩:=xX e;exact hs i a b τ L ea eb w,λτ L w=>hd τ L (by rw[nU] at w;exact w)⟩
def SI(n:Nat):∀ys L Q,fQ (n+1) ys L Q->xi (kB<|fQ n).1 4 ys L Q:=by
 rintro ys L Q ⟨x,y,rfl,h,q⟩;rcases h with⟨f,rfl⟩|⟨U,ys,rfl,rfl,p⟩|⟨a,b,U,ys,rfl,rfl,h1,h2,p⟩
 ·cases y with
  |non=>exact xt q
  |bl b=>
   refine xt ?_;show Q (.bl<|nb false<|decide<|b=b) L;rw[Aw rfl];exact q
  |int i=>
   refine xt ?_;show Q (.bl<|nb false<|decide<|i=i) L;rw[Aw rfl];exact q
  |str i=>
   refine xt ?_;show Q (.bl<|nb false<|decide<|i=i) L;rw[Aw rfl];exact q
  |_=>cases f
 ·have g:=p.length;walk_at "w";refine aC (b:=nb true<|decide<|(U.length:Int)=ys.length) (by rw[g,Aw rfl];rfl) ?_;refine yM (λi I J=>J=L/\∃c d,I=[some<|.tup U,some<|.tup ys,c,d]) ⟨rfl,_,_,rfl⟩ (λi I J w=>⟨trivial,trivial⟩) ?_ ?_
  ·rintro i u v I J j ev ⟨rfl,c,d,rfl⟩;exact⟨u,v,rfl,E5 p j ev,_,ER _,rfl,_,_,rfl⟩
  ·rintro I J ⟨rfl,c,d,rfl⟩;exact xt q
 ·have g:=p.length;refine dM h1<|dM h2 ?_;walk_at "w";refine dM h2 ?_;walk_at "w";refine dM h1<|dM h2 ?_;walk_at "w";refine dM h1<|dM h2 ?_;walk_at "w";refine qa h1 (qa h2 (aC (by rw[g,Aw rfl];rfl) ?_));walk_at "w";refine qj h1<|qj h2 ?_;refine yM (λi I J=>J=L/\∃c d,I=[some<|.ref a,some<|.ref b,c,d]) ⟨rfl,_,_,rfl⟩ (λi I J ⟨e,_⟩=>by subst e;exact⟨rfl,rfl⟩) ?_ ?_
  ·rintro i u v I J j ev ⟨rfl,c,d,rfl⟩;exact⟨u,v,rfl,E5 p j ev,_,ER _,rfl,_,_,rfl⟩
  ·rintro I J ⟨rfl,c,d,rfl⟩;exact xt q
def KW(ks:List Y):Nat->Wd->Prop
 |p,.leaf t n=>ks[p]?=some (.tup [.str<|kL t,.str n])
 |p,.node e l r=>∃i j:Nat,ks[p]?=some (.tup [.str<|kN e,.int i,.int j])/\KW ks i l/\KW ks j r
theorem KW.more{ks:List Y}(ms:List Y):∀{wd:Wd} {p:Nat},KW ks p wd->KW (ks++ms) p wd
 |.leaf _ _,p,h=>by have I:ks[p]?=some _:=h;show(ks++ms)[p]?=some _;rw[Az (AI.mp I).1];exact I
 |.node _ _ _,p,⟨i,j,h,a,b⟩=>⟨i,j,by rw[Az (AI.mp h).1];exact h,KW.more ms a,KW.more ms b⟩
inductive xq(n:Nat)(ys:List Y)(L:qk)(Q:YK):Prop
 |mk:∀k ks p wd,(ys=[.ref k,.int ((p:Nat):Int)])->(L k=some (.lst ks))->(KW ks p wd)->(wd.depth<=n)->(Q (bM wd) L)->xq n ys L Q
def mB:∀ys L Q,¬xq 0 ys L Q:=by rintro ys L Q ⟨k,J,p,I,_,_,_,hd,_⟩;cases I<;>simp[Wd.depth] at hd
def rU:∀ys L Q,¬xq 0 ys L Q:=mB
def xP(n:Nat):∀ys L Q,xq (n+1) ys L Q->xi (qM wo<|xq n).1 3 ys L Q:=by
 rintro ys L Q ⟨k,J,p,U,rfl,I,h,hd,q⟩;cases U with
 |leaf t nm=>exact qa I<|qf (x5 h) ⟨true,t,_,rfl,xt q⟩
 |node e l r=>
  obtain⟨i,j,h,g,o⟩:=h;have C:max l.depth r.depth+1<=n+1:=hd;exact qa I<|qf (x5 h) ⟨false,e,_,rfl,k,J,i,l,rfl,I,g,by lia,k,J,j,r,rfl,I,o,by lia,xt q⟩
def sv(n:Nat):∀ys L Q,xq (n+1) ys L Q->xi (kW<|xq n).1 3 ys L Q:=by
 rintro ys L Q ⟨k,J,p,U,rfl,I,h,hd,q⟩;cases U with
 |leaf t nm=>exact qa I<|qf (x5 h)<|xt q
 |node e l r=>
  obtain⟨i,j,h,g,o⟩:=h;have C:max l.depth r.depth+1<=n+1:=hd;exact qa I<|qf (x5 h) ⟨k,J,i,l,rfl,I,g,by lia,k,J,j,r,rfl,I,o,by lia,xt q⟩
def n_(l:Wi):Str:=⟨l.toArray⟩
def yr(x:Str):n_ x.cps.toList=x:=by cases x;rfl
def yV(J:vh):RR "_law_flip" kI 1 ["_law_word_here"] ["_law_word_here","_law_sides"] J (λ_=>True):=⟨_,λV B c _ _ I _ _ _ _ _ _ U hN g=>(qb (S_ 1 hN<|Qn [ ("plain" ,"turned") ,("turned" ,"plain") ,("both" ,"either") ,("either" ,"both") ] (iP dN dN<|iP dN dN<|iP dN dN<|iP dN dN Of) rfl rfl (List.cons_ne_nil _ _)<|Ct rfl)<|qb (zj (E_ g (L_ B.ba<|qv 0) qd) (qe<|qu<|zb<|xx (I_ (qv 1)<|J_ 0)<|J_ 0) ze)<|qe<|qu<|zb<|aT (I_ (qv 1)<|J_ 0) (C_ I U<|jn<|J_ 0)<|C_ I U<|jn<|J_ 0)⟩
abbrev k8(i:Int):xg:=yC<|.int i
abbrev vB(x:Str):xg:=yC<|.str x
abbrev e9(i:Nat)(n:Int):xg:=xu hU (qg i)<|yC<|.int n
abbrev rD(i:Nat):xg:=pQ vI<|qm (qg i) ji
abbrev oO(a b:xg):hG:=yB<|xu (b_ false) a b
abbrev Hy(a b:xg):hG:=yB<|xu (b_ true) a b
abbrev Hz(a b:xg):xg:=ah<|qm a<|qm b ji
abbrev dI(a:xg):eB:=qm a ji
abbrev eG(a b:xg):eB:=qm a<|qm b ji
def SJ(I:vh)(p1:vh):bB:=(jm (aR (oO (rD 1)<|k8 2) (jm (vi<|iQ xl (qg 0)<|qm (jt I<|dI<|qg 1) ji)
 (jm (vi<|iQ xl (qg 0)<|dI<|qg 1)
 (eL<|fh<|qm (ah<|qm (vB "link")<|qm (xu lF (rD 0)<|k8 2)<|qm (xu lF (rD 0)<|k8 1) ji)<|qm (xu lF (rD 0)<|k8 2)<|qm (xu lF (rD 0)<|k8 1) ji))) dE)
 (jm (xz (jt p1<|eG (qg 0)<|e9 1 1)<|qo 2)
 (jm (xz (jt p1<|eG (qg 0)<|e9 1 2)<|qo 3)
 (jm (vi<|iQ xl (qg 0)<|qm (ah<|qm (xu hU (jt I<|dI<|qg 1)<|k8 0)<|eG (e9 2 1)<|e9 3 1) ji)
 (jm (vi<|iQ xl (qg 0)<|qm (ah<|qm (e9 1 0)<|eG (e9 2 2)<|e9 3 2) ji)
 (jm (IH 4 5<|qm (xu lF (rD 0)<|k8 2)<|qm (xu lF (rD 0)<|k8 1) ji)
 (jm (xz (FO (oO (e9 1 0)<|vB "either") (qg 4)<|qg 5)<|qo 6)
 (jm (xz (FO (oO (e9 1 0)<|vB "either") (qg 5)<|qg 4)<|qo 7)
 (eL<|fh<|qm (ah<|qm (vB "either")<|qm (qg 7)<|qm (ah<|qm (vB "both")<|qm (qg 6)<|eG (e9 2 0)<|e9 3 0) ji)<|eG (qg 4)<|qg 5)))))))))
inductive Kn where
 |lf (t:Bool) (n:Str)|nd (e:Bool) (i j:Nat)
abbrev WD:=Option Kn
abbrev WC:=List Kn
def o9:Kn->Y
 |.lf t n=>.tup [.str<|kL t,.str n]
 |.nd e i j=>.tup [.str<|kN e,.int ((i:Nat):Int),.int ((j:Nat):Int)]
inductive Ru where
 |link (p q:Nat)|ei (r:Nat) (A:Ru)|bo (r:Nat) (A B:Ru)|cu (p q:Nat) (A B:Ru)
def jj:Ru->Y
 |.link p q=>.tup [.str "link",.int ((p:Nat):Int),.int ((q:Nat):Int)]
 |.ei r A=>.tup [.str "either",.int ((r:Nat):Int),jj A]
 |.bo r A B=>.tup [.str "both",.int ((r:Nat):Int),jj A,jj B]
 |.cu p q A B=>.tup [.str "cut",.int ((p:Nat):Int),.int ((q:Nat):Int),jj A,jj B]
def qz:Ru->Wi
 |.link p q=>[p,q]
 |.ei r A=>r::qz A
 |.bo r A B=>r::(qz A++qz B)
 |.cu _ _ A B=>qz A++qz B
abbrev vg(ks:WC):List Y:=ks.map o9
def dO(ks:WC)(p:Nat)(w:Wd):Prop:=KW (vg ks) p w
theorem dO.more{ks:WC}{p:Nat}{w:Wd}(h:dO ks p w)(ms:WC):dO (ks++ms) p w:=by unfold dO vg;rw[Ax];exact KW.more _ h
def ae(ks:WC):Prop:=∀(p:Nat) (k:Kn),ks[p]?=some k->match k with
 |.lf _ n=>fD n
 |.nd _ i j=>i<p/\j<p
def ae.snoc{ks:WC}{k:Kn}(h:ae ks)(I:match k with|.lf _ n=>fD n|.nd _ i j=>i<ks.length/\j<ks.length):ae (ks++[k]):=by
 intro p J e;by_cases c:p<ks.length
 ·rw[Az c] at e;exact h p J e
 ·rw[AF (by exact FE)] at e;have U:p=ks.length:=by
   by_cases g:p-ks.length=0
   ·omega
   ·rw[CP (by simp;exact FD)] at e;cases e
  subst U;rw[Dv] at e;cases e;exact I
def dR(l:List α)(x:α)(r:List α):(l++x::r)[l.length]?=some x:=by rw[AF<|An _,Dv];rfl
def i5{l r:List α}{p:Nat}{x:α}(h:l[p]?=some x):(l++r)[p]?=some x:=by rw[Az (AI.mp h).1];exact h
inductive SR(ks:WC):Ru->Wi->Prop
 |link {p q:Nat} {t:Bool} {n:Str} {E:Wi}:p<q->ks[p]?=some (.lf t n)->ks[q]?=some (.lf (!t) n)->(∀x,x∈E↔x=p\/x=q)->E.Nodup->SR ks (.link p q) E
 |ei {r i j:Nat} {A:Ru} {EA E:Wi}:ks[r]?=some (.nd true i j)->SR ks A EA->i∈EA->j∈EA->i≠j->(∀x,x∈E↔(x∈EA/\x≠i/\x≠j)\/x=r)->E.Nodup->SR ks (.ei r A) E
 |bo {r i j:Nat} {A B:Ru} {EA EB E:Wi}:ks[r]?=some (.nd false i j)->SR ks A EA->SR ks B EB->i∈EA->j∈EB->(∀x,x∈E↔(x∈EA/\x≠i)\/(x∈EB/\x≠j)\/x=r)->E.Nodup->SR ks (.bo r A B) E
 |cu {p q:Nat} {A B:Ru} {EA EB E:Wi} {w:Wd}:SR ks A EA->SR ks B EB->p∈EA->q∈EB->dO ks p w->dO ks q w.turn->(∀x,x∈E↔(x∈EA/\x≠p)\/(x∈EB/\x≠q))->E.Nodup->SR ks (.cu p q A B) E
theorem SR.more{ks:WC}{R:Ru}{E:Wi}(h:SR ks R E)(ms:WC):SR (ks++ms) R E:=by induction h with|link h1 h2 h3 I J=>exact .link h1 (i5 h2) (i5 h3) I J|ei h1 _ h3 I J j l o=>exact .ei (i5 h1) o h3 I J j l|bo h1 _ _ I J j l U g=>exact .bo (i5 h1) U g I J j l|cu _ _ h3 I J j l p U g=>exact .cu U g h3 I (J.more ms) (j.more ms) l p
def SR.sub{ks:WC}{R:Ru}{E:Wi}(h:SR ks R E):∀x∈E,x∈qz R:=by
 induction h with
 |link _ _ _ j _=>intro x I;rcases (j x).mp I with rfl|rfl<;>simp[qz]
 |ei _ _ _ _ _ g _ l=>intro x I;rcases (g x).mp I with⟨h,_⟩|rfl;exact Ai _<|l x h;exact Ar ..
 |bo _ _ _ _ _ g _ J U=>
  intro x I;rcases (g x).mp I with⟨h,_⟩|⟨h,_⟩|rfl
  ·exact Ai _<|Am _<|J x h
  ·exact Ai _<|Ah _<|U x h
  ·exact Ar ..
 |cu _ _ _ _ _ _ o _ J U=>
  intro x I;rcases (o x).mp I with⟨h,_⟩|⟨h,_⟩
  ·exact Am _<|J x h
  ·exact Ah _<|U x h
inductive w5(n:Nat)(ys:List Y)(L:qk)(Q:YK):Prop
 |mk:∀wd,(ys=[bM wd])->(wd.depth<=n)->(Q (bM wd.turn) L)->w5 n ys L Q
def SK:∀ys L Q,¬w5 0 ys L Q:=by rintro ys L Q ⟨I,_,hd,_⟩;cases I<;>simp[Wd.depth] at hd
def xJ(t:Bool):a6 ([(("plain" : Str),("turned" : Str)),("turned","plain"),("both","either"),("either","both")].map λp=>((Sum.inr p.1:jh),Y.str p.2)) (Sum.inr<|kL t)=some (.str<|kL<|!t):=jS<|pL t
def wW(t:Bool):a6 ([(("plain" : Str),("turned" : Str)),("turned","plain"),("both","either"),("either","both")].map λp=>((Sum.inr p.1:jh),Y.str p.2)) (Sum.inr<|kN t)=some (.str<|kN<|!t):=jS<|pI t
def SM(n:Nat):∀ys L Q,w5 (n+1) ys L Q->xi (yV<|w5 n).1 2 ys L Q:=by
 rintro ys L Q ⟨J,rfl,hd,q⟩;intro p I;cases J with
 |leaf t nm=>
  refine aB q9<|qf (xJ t) ?_;exact eY (By I) q
 |node e l r=>
  have U:max l.depth r.depth+1<=n+1:=hd;refine aB q9<|qf (wW e) ?_;refine⟨l,rfl,by lia,r,rfl,by lia,?_⟩;exact eY (By I) q
structure Fs(ks:WC)(w:Wd)(ms:WC)(R:Ru)(tp sp:Nat):Prop where
 len:ms.length=2*w.size
 sr:SR (ks++ms) R [tp,sp]
 wt:dO (ks++ms) tp w.turn
 ws:dO (ks++ms) sp w
 tm:∀x,x∈qz R↔ks.length<=x/\x<ks.length+ms.length
 nd:(qz R).Nodup
 ok:ae (ks++ms)
def dO.leaf{ks:WC}{p:Nat}{n:Str}(h:ks[p]?=some (.lf t n)):dO ks p (.leaf t n):=by show(vg ks)[p]?=_;rw[Al,h];rfl
def dO.node{ks:WC}{p:Nat}{e:Bool}{l r:Wd}(h:ks[p]?=some (.nd e i j))(I:dO ks i l)(J:dO ks j r):dO ks p (.node e l r):=by refine⟨i,j,?_,I,J⟩;rw[Al,h];rfl
abbrev FB:=@dO.node
def tS{ks:WC}(g:ae ks){n:Str}(I:fD n):Fs ks (.leaf t n) [.lf (!t) n,.lf t n] (.link ks.length<|ks.length+1) ks.length (ks.length+1):=by
 have J:(ks++[Kn.lf (!t) n,.lf t n])[ks.length]?=some (.lf (!t) n):=dR _ _ _;have U:(ks++[Kn.lf (!t) n,.lf t n])[ks.length+1]?=some (.lf t n):=by have:=dR (ks++[Kn.lf (!t) n]) (Kn.lf t n) [];rw[Ac,Ay] at this;exact this
 refine⟨rfl,.link (t:=!t) (n:=n) (by exact BD _) J (by rw[EC];exact U) (by simp) (by simp),dO.leaf J,dO.leaf U,λx=>?_,by simp[qz],?_⟩
 ·show x∈[ks.length,ks.length+1]↔ks.length<=x/\x<ks.length+2;simp;lia
 ·have:=(g.snoc (k:=.lf (!t) n) I).snoc (k:=.lf t n) I;rw[Ay] at this;exact this
def SR.nod{ks:WC}{R:Ru}{E:Wi}(h:SR ks R E):E.Nodup:=by cases h<;>assumption
def SN{x h lo a m r N:Nat}(I:(h=N/\lo=N+1)\/(h=N+1/\lo=N))(hN:N=a+m+r):x=h\/x=lo\/(a<=x/\x<a+m)\/a+m<=x/\x<a+m+r↔a<=x/\x<N+2:=by subst hN;rcases I with⟨rfl,rfl⟩|⟨rfl,rfl⟩<;>lia
def SO{x a b c N:Nat}(h:a≠b)(k:c≠d):x∈[b,d,N]↔(x∈[a,b]/\x≠a)\/(x∈[c,d]/\x≠c)\/x=N:=by simp only[As,Be,or_false];lia
def SQ{x a b c N:Nat}(h:a≠b)(k:c≠d):x∈[a,c,N]↔(x∈[a,b]/\x≠b)\/(x∈[c,d]/\x≠d)\/x=N:=by simp only[As,Be,or_false];lia
def SS{x a b N M:Nat}(h:a<N)(k:b<N):x∈[N,M]↔(x∈[a,b,N]/\x≠a/\x≠b)\/x=M:=by simp only[As,Be,or_false];lia
def SU{x a b N M:Nat}(h:a<N)(k:b<N):x∈[M,N]↔(x∈[a,b,N]/\x≠a/\x≠b)\/x=M:=by simp only[As,Be,or_false];lia
def JN{a b N:Nat}(h:a<N)(k:b<N)(d:a≠b):[a,b,N].Nodup:=by rw[AE,AE];simp;lia
def SV{a m r N t s u v:Nat}(I:a<=t/\t<a+m)(J:a<=s/\s<a+m)(b1:a+m<=u/\u<a+m+r)(b2:a+m<=v/\v<a+m+r)(hN:N=a+m+r):t<N/\s<N/\u<N/\v<N/\t≠u/\s≠v:=by lia
def JO{h lo a m r N:Nat}(I:(h=N/\lo=N+1)\/(h=N+1/\lo=N))(hN:N=a+m+r):¬(h=lo\/(a<=h/\h<a+m)\/a+m<=h/\h<a+m+r)/\¬((a<=lo/\lo<a+m)\/a+m<=lo/\lo<a+m+r):=by lia
def SW{x y a m r:Nat}(h1:a<=x/\x<a+m)(h2:a+m<=y/\y<a+m+r)(e:x=y):False:=by lia
def SX{ks I g:WC}{e:Bool}{l r:Wd}{A B:Ru}{tl J tr U:Nat}(p:Fs ks l I A tl J)(o:Fs (ks++I) r g B tr U){N:Nat}(hN:N=ks.length+(I++g).length):
 Fs ks (.node e l r) (I++g++[.nd (!e) tl tr,.nd e J U]) (.ei (if e=true then N+1 else N)<|.bo (if e=true then N else N+1) A B) N (N+1):=by
 have hA:∀x∈[tl,J],ks.length<=x/\x<ks.length+I.length:=λx T=>(p.tm x).mp<|p.sr.sub x T;have hB:∀x∈[tr,U],ks.length+I.length<=x/\x<ks.length+I.length+g.length:=λx T=>by have:=(o.tm x).mp<|o.sr.sub x T;rw[Ac] at this;exact this
 have a1:=hA tl (by simp);have a2:=hA J (by simp);have b1:=hB tr (by simp);have b2:=hB U (by simp);have nA:tl≠J:=by have:=p.sr.nod;simpa using this
 have nB:tr≠U:=by have:=o.sr.nod;simpa using this
 have t:N=ks.length+I.length+g.length:=by rw[hN,Ac];simp +arith only
 obtain⟨d1,d2,d3,d4,d5,d6⟩:=SV a1 a2 b1 b2 t;generalize j:ks++(I++g++[Kn.nd (!e) tl tr,.nd e J U])=K;have k1:K=(ks++I)++(g++[Kn.nd (!e) tl tr,.nd e J U]):=by rw[<-j];simp
 have k2:K=((ks++I)++g)++[Kn.nd (!e) tl tr,.nd e J U]:=by rw[<-j];simp
 have k3:K=(((ks++I)++g)++[Kn.nd (!e) tl tr])++[.nd e J U]:=by rw[<-j];simp
 have l2:((ks++I)++g).length=N:=by rw[Ac,Ac];lia
 have g1:K[N]?=some (.nd (!e) tl tr):=by rw[k2,<-l2];exact dR _ _ _
 have g2:K[N+1]?=some (.nd e J U):=by
  have l3:(((ks++I)++g)++[Kn.nd (!e) tl tr]).length=N+1:=by rw[Ac,l2];rfl
  rw[k3,<-l3];exact dR _ _ _
 have sA:SR K A [tl,J]:=by rw[k1];exact p.sr.more _
 have sB:SR K B [tr,U]:=by rw[k2];exact o.sr.more _
 have a3:ae K:=by have o1:=o.ok.snoc (k:=.nd (!e) tl tr) (by show tl<((ks++I)++g).length/\tr<((ks++I)++g).length;rw[l2];exact⟨d1,d3⟩);have o2:=o1.snoc (k:=.nd e J U) (by show J<_/\U<_;rw[Ac,l2];exact⟨Cz d2,Cz d4⟩);rw[k3];exact o2
 have tA:=p.tm;have tB:=o.tm;rw[Ac] at tB;have wt:dO K N (Wd.node e l r).turn:=FB g1 (by rw[k1];exact p.wt.more _) (by rw[k2];exact o.wt.more _);have a4:dO K (N+1) (Wd.node e l r):=FB g2 (by rw[k1];exact p.ws.more _) (by rw[k2];exact o.ws.more _);have C:(I++g++[Kn.nd (!e) tl tr,.nd e J U]).length=2*(Wd.node e l r).size:=by have h1:=p.len;have h2:=o.len;show _=2*(1+l.size+r.size);rw[Ac,Ac];simp;lia
 have lt:ks.length+(I++g++[Kn.nd (!e) tl tr,.nd e J U]).length=N+2:=by rw[Ac];simp[hN];rfl
 have tt:∀h lo:Nat,(h=N/\lo=N+1)\/(h=N+1/\lo=N)->(∀x,x∈qz (.ei h<|.bo lo A B)↔ks.length<=x/\x<ks.length+(I++g++[Kn.nd (!e) tl tr,.nd e J U]).length)/\(qz<|.ei h<|.bo lo A B).Nodup:=by
  intro h lo hh;constructor
  ·intro x;rw[lt];show x∈h::lo::(qz A++qz B)↔_;rw[As,As,Ak,tA,tB];exact SN hh t
  ·show(h::lo::(qz A++qz B)).Nodup;rw[AE,AE,Av];refine⟨?_,?_,p.nd,o.nd,λx T y hy e=>?_⟩
   ·rw[As,Ak,tA,tB];exact(JO hh t).1
   ·rw[Ak,tA,tB];exact(JO hh t).2
   ·exact SW ((tA x).mp T) ((tB y).mp hy) e
 cases e with
 |true=>
  have s1:SR K (.bo N A B) [J,U,N]:=by exact .bo g1 sA sB (by simp) (by simp) (λx=>SO nA nB)<|JN d2 d4 d6
  have s2:SR K (.ei (N+1)<|.bo N A B) [N,N+1]:=by exact .ei g2 s1 (by simp) (by simp) d6 (λx=>SS d2 d4) (by simp)
  obtain⟨t1,t2⟩:=tt (N+1) N<|.inr ⟨rfl,rfl⟩;exact⟨C,by rw[j];exact s2,by rw[j];exact wt,by rw[j];exact a4,t1,t2,by rw[j];exact a3⟩
 |false=>
  have s1:SR K (.bo (N+1) A B) [tl,tr,N+1]:=by exact .bo g2 sA sB (by simp) (by simp) (λx=>SQ nA nB)<|JN (Cz d1) (Cz d3) d5
  have s2:SR K (.ei N<|.bo (N+1) A B) [N,N+1]:=by exact .ei g1 s1 (by simp) (by simp) d5 (λx=>SU (Cz d1)<|Cz d3) (by simp)
  obtain⟨t1,t2⟩:=tt N (N+1)<|.inl ⟨rfl,rfl⟩;exact⟨C,by rw[j];exact s2,by rw[j];exact wt,by rw[j];exact a4,t1,t2,by rw[j];exact a3⟩
inductive aN(n:Nat)(ys:List Y)(L:qk)(Q:YK):Prop
 |mk:∀a,∀ks:WC,∀w:Wd,(ys=[.ref a,bM w])->(L a=some (.lst<|vg ks))->(w.depth<=n)->(n<=120)->(w.ok)->(ae ks)->(ks.length+2*w.size<=10000)->(∀ms R tp sp p,L p=none->Fs ks w ms R tp sp->Q (.ref p) (qi (qi L a<|.lst<|vg<|ks++ms) p<|.lst [jj R,.int ((tp:Nat):Int),.int ((sp:Nat):Int)]))->aN n ys L Q
def SY:∀ys L Q,¬aN 0 ys L Q:=by rintro ys L Q ⟨a,J,I,_,_,hd,_⟩;cases I<;>simp[Wd.depth] at hd
def y4{a p:Addr}{o x y:LO}(J:L a=some o)(I:L p=none):qi (qi L a x) p y a=some x/\qi (qi L a x) p y p=some y/\∀b u,b≠a->L b=some u->qi (qi L a x) p y b=some u:=
 ⟨(qc<|kw J I).trans q9,q9,λ_ _ n e=>(qc<|kw e I).trans<|(qc n).trans e⟩
def uK{a p:Addr}{o x:LO}(J:L a=some o)(I:qi L a x p=none):L p=none:=by
 have:p≠a:=λe=>by rw[e,q9] at I;cases I
 rw[qc this] at I;exact I
def a_:∀m:Nat,m<=20000->m<sizeLine:=λm h=>Bu h (by decide)
def S4{FS:vh}(hF:∀ys L Q,w5 120 ys L Q->FS ys L Q)(n:Nat):∀ys L Q,aN (n+1) ys L Q->xi (SJ FS<|aN n) 8 ys L Q:=by
 rintro ys L Q ⟨a,I,w,rfl,ha,hd,hn,T,hk,hb,q⟩;have big:=a_;cases w with
 |leaf t nm=>
  have hb:I.length+2*1<=10000:=hb;refine qa ha (hF _ _ _ ⟨.leaf t nm,rfl,by exact BV _,qj ha ⟨big _ (by rw[Ae];lia),?_⟩⟩);refine qa q9 (qj q9 ⟨big _ (by rw[Ac,Ae];simp;lia),?_⟩);rw[vj];obtain⟨W,j⟩:∃W,W=vg (I++[Kn.lf (!t) nm,.lf t nm]):=⟨_,rfl⟩;have e1:(vg I++[bM (Wd.leaf t nm).turn])++[bM<|.leaf t nm]=W:=by rw[j];unfold vg;rw[Ax,Ay];rfl
  have e2:W.length=I.length+2:=by rw[j,Ae,Ac];rfl
  have i1:((W.length:Nat):Int)-2=((I.length:Nat):Int):=by rw[e2];lia
  have i2:((W.length:Nat):Int)-1=((I.length+1:Nat):Int):=by rw[e2];lia
  have ax:(vg I++[bM (Wd.leaf t nm).turn])++[.tup [.str<|kL t,.str nm]]=W:=e1
  first|rw[e1]|rw[ax]
  refine qa q9<|qa q9<|qa q9<|qa q9 λp J=>?_;have np:L p=none:=uK ha J;have:=q _ _ _ _ p np<|tS hk T;rw[<-j] at this;show a7 Q (.ref p) (qi _ p<|.lst [.tup [.str "link",.int<|((W.length:Nat):Int)-2,.int<|((W.length:Nat):Int)-1],.int<|((W.length:Nat):Int)-2,.int<|((W.length:Nat):Int)-1]);rw[i1,i2];exact xt this
 |node e l r=>
  have aL:max l.depth r.depth+1<=n+1:=hd;have hb:I.length+2*(1+l.size+r.size)<=10000:=hb;refine⟨a,I,l,rfl,ha,by lia,by exact hJ,T.1,hk,by lia,λU A tl sl p1 a5 ML=>?_⟩;obtain⟨g,g1,o1⟩:=y4 (x:=.lst<|vg<|I++U) (y:=.lst [jj A,.int ((tl:Nat):Int),.int ((sl:Nat):Int)]) ha a5;have ac:p1≠a:=AH<|kw ha a5;have ba:=ML.len;generalize qi (qi L a<|.lst<|vg<|I++U) p1 _=L1 at g g1 o1 ⊢;refine⟨a,I++U,r,rfl,g,by lia,by exact hJ,T.2,ML.ok,by rw[Ac];lia,λC B tr sr p2 al MR=>?_⟩;obtain⟨a1,h2,o2⟩:=y4 (x:=.lst<|vg<|(I++U)++C) (y:=.lst [jj B,.int ((tr:Nat):Int),.int ((sr:Nat):Int)]) g al;have ay:p2≠a:=AH<|kw g al;have h1:=o2 _ _ ac g1;have bb:=MR.len;generalize qi (qi L1 a<|.lst<|vg<|(I++U)++C) p2 _=L2 at a1 h1 h2 o2 ⊢;have bc:(vg<|(I++U)++C).length=I.length+U.length+C.length:=by rw[Ae,Ac,Ac]
  refine qa a1 (hF _ _ _ ⟨.node e l r,rfl,by show max l.depth r.depth+1<=120;exact FC,qa h1<|qa h2<|qj a1 ⟨big _ (by lia),?_⟩⟩);have a2:=λo=>(qc (L:=L2) (o:=o) ac).trans h1;have a3:=λo=>(qc (L:=L2) (o:=o) ay).trans h2;refine qa q9 (qa (a2 _) (qa (a3 _) (qj q9 ⟨big _ (by rw[Ac];simp;lia),?_⟩)));rw[vj];obtain⟨N,hN⟩:∃N,N=I.length+(U++C).length:=⟨_,rfl⟩;have M:=SX (e:=e) ML MR hN;obtain⟨W,j⟩:∃W,W=vg (I++(U++C++[.nd (!e) tl tr,.nd e sl sr])):=⟨_,rfl⟩;have e1:(vg ((I++U)++C)++[.tup [.str<|kN<|!e,.int ((tl:Nat):Int),.int ((tr:Nat):Int)]])++[.tup [.str<|kN e,.int ((sl:Nat):Int),.int ((sr:Nat):Int)]]=W:=by rw[j];unfold vg;simp[o9]
  rw[e1];have lN:W.length=N+2:=by rw[j,Ae,Ac,Ac,hN];simp;rfl
  have i1:((W.length:Nat):Int)-2=((N:Nat):Int):=by rw[lN];lia
  have i2:((W.length:Nat):Int)-1=((N+1:Nat):Int):=by rw[lN];lia
  refine qa q9<|qa q9 ?_;have done:∀p,qi L2 a (.lst W) p=none->∀R,Fs I (.node e l r) (U++C++[Kn.nd (!e) tl tr,.nd e sl sr]) R N (N+1)->
   a7 Q (.ref p) (qi (qi L2 a<|.lst W) p<|.lst [jj R,.int ((N:Nat):Int),.int ((N+1:Nat):Int)]):=λp J R MM=>by
   have a4:p≠a:=λz=>by rw[z,q9] at J;cases J
   rw[qc a4] at J;have np:L p=none:=by cases z:L p with|none=>rfl|some o=>rw[o2 p o a4<|o1 p o a4 z] at J;cases J
   refine eY ?_<|q _ _ _ _ p np MM;rw[<-j];intro b o z;by_cases c1:b=p
   ·subst c1;rw[q9] at z ⊢;exact z
   ·rw[qc c1] at z ⊢;by_cases c2:b=a
    ·subst c2;rw[q9] at z ⊢;exact z
    ·rw[qc c2] at z ⊢;exact o2 b o c2<|o1 b o c2 z
  clear j e1;cases e with
  |true=>
   walk_at "w";refine qa (a2 _)<|qa (a3 _) λp J=>?_;show a7 Q (.ref p) (qi _ p<|.lst [.tup [.str "either",.int<|((W.length:Nat):Int)-1,.tup [.str "both",.int<|((W.length:Nat):Int)-2,jj A,jj B]],.int<|((W.length:Nat):Int)-2,.int<|((W.length:Nat):Int)-1]);rw[i1,i2];exact done p J _ M
  |false=>
   walk_at "w";refine qa (a2 _)<|qa (a3 _) λp J=>?_;show a7 Q (.ref p) (qi _ p<|.lst [.tup [.str "either",.int<|((W.length:Nat):Int)-2,.tup [.str "both",.int<|((W.length:Nat):Int)-1,jj A,jj B]],.int<|((W.length:Nat):Int)-2,.int<|((W.length:Nat):Int)-1]);rw[i1,i2];exact done p J _ M
end L3
variable {R:L3.Ru}{ks ms:List L3.Kn}{eH wd:List<|Option L3.Kn}
namespace L3
open PySem L2 Words
def oH(I:vh):RD "parts_of" nR 1 ["knot"] (λV=>FV V I):=⟨_,λV B c _ _ _ _ _ _ _ J hN U=>(qb (zj (kj<|gv (mY<|qv 0)<|da<|vq<|C_ c J<|jn<|qv 0) (qe<|qu<|zk v5) ze)<|qe<|qu<|zk<|xx (J_ 0)<|J_ 0)⟩
def jM:RD "places_in" kR 0 ["pairs","places","p","q"] (λ_=>True):=⟨_,λV B c _ _ _ _ _ _ _ I hN J=>(qb (S_ 1 hN<|zk v5)<|qb (aP yp rfl (xj<|qv 0) (vz (n:=2) rfl<|qx (G_ 2 hN)<|qx (G_ 3 hN) xh)<|qb (qy<|z9 (qv 1)<|jn<|qv 2)<|qe<|qy<|z9 (qv 1)<|jn<|qv 3)<|qe<|qu<|qv 1)⟩
def cA:WD->Y
 |none=>.non
 |some k=>o9 k
abbrev jw(ks:List<|WD):List Y:=ks.map cA
def zp:WD->Wi
 |some (.nd _ i j)=>[i,j]
 |_=>[]
inductive eh(ys:List Y)(L:qk)(Q:YK):Prop
 |mk:∀k:WD,(ys=[cA k])->(∀p,L p=none->Q (.ref p) (qi L p<|.lst<|nY<|zp k))->eh ys L Q
def S5:∀ys L Q,eh ys L Q->xi (oH wo).1 1 ys L Q:=by
 rintro ys L Q ⟨k,rfl,q⟩;cases k with
 |none=>exactλp I=>xt<|q p I
 |some k=>
  cases k with|lf t n=>exact⟨true,t,_,rfl,λp I=>xt<|q p I⟩|nd e i j=>exact⟨false,e,_,rfl,λp I=>xt<|q p I⟩
def qH(f:WD->Bool)(ks:List<|WD)(i:Nat):Wi:=(List.range i).filter λp=>match ks[p]? with
 |some k=>f k
 |none=>false
def uG{f:WD->Bool}{ks:List<|WD}{k:WD}(h:ks[i]?=some k):qH f ks (i+1)=qH f ks i++if f k=true then [i] else []:=by unfold qH;rw[EI,Cr];congr 1;rw[C1];simp only[h,Dg]
def S6{f:WD->Bool}{ks:List<|WD}{p:Nat}(h:p∈qH f ks i):p<i/\∃k,ks[p]?=some k/\f k=true:=by
 unfold qH at h;obtain⟨h1,h2⟩:=AO.mp h;refine⟨AY.mp h1,?_⟩;split at h2
 ·rename_i k e;exact⟨k,e,h2⟩
 ·cases h2
def cL:WD->Bool
 |some _=>true
 |none=>false
def S7(e:Bool):WD->Bool
 |some (.nd I _ _)=>decide<|I=e
 |_=>false
def bz(a b:Wi):nY (a++b)=nY a++nY b:=by unfold nY;rw[Ax]
def JP{hs:Wi}(h:(nY hs)[i]?=some y):∃n,hs[i]?=some n/\y=.int (n:Int):=by unfold nY at h;rw[Al] at h;obtain⟨n,I,J⟩:=Aq.mp h;exact⟨n,I,J.symm⟩
def S8{f:WD->Bool}{ks:List<|WD}{keep:qk->Prop}{Q:YK}(hz:ks.length<=1000)(j:keep L)
 (turn:∀(i:Nat) (k:WD) (R:List Y->qk->Prop) zs,ks[i]?=some k->(f k=true->R (zs++[.int (i:Int)]) L)->(f k=false->R zs L)->g (.tup [.int (i:Nat),cA k]) (τ++List.replicate 2 none) L λI L2=>tc I L2 λb L3=>wf b (te I L3 λz l=>R (zs++[z]) l)<|R zs L3)
 (o:∀p,L p=none->Q (.ref p) (qi L p<|.lst<|nY<|qH f ks ks.length)):xS (mI<|jw ks) keep 2 g tc te τ L Q:=by
 refine aj (λi zs=>zs=nY (qH f ks i)) (by rw[fY,Ae];exact Bu hz (by decide)) j rfl ?_ ?_
 ·rintro i y zs r rfl;obtain⟨z,U,rfl⟩:=gc r;rw[Al] at U;obtain⟨k,J,rfl⟩:=Aq.mp U;refine turn i k _ _ J (λh=>⟨L,ER _,rfl,?_⟩) λh=>⟨L,ER _,rfl,?_⟩
  ·rw[uG J,AD h,bz];rfl
  ·rw[uG J,AB (by rw[h];exact AG),AN]
 ·rintro zs rfl;rw[fY,Ae];exact o
abbrev gH(a l c:Addr):Y:=.tup [.ref a,.ref l,.ref c]
def S9(a b:Nat):min (a:Int) (b:Int)=((min a b:Nat):Int):=by omega
def S'(a b:Nat):max (a:Int) (b:Int)=((max a b:Nat):Int):=by omega
def gu(p:Wq):Y:=.tup [.int ((p.1:Nat):Int),.int ((p.2:Nat):Int)]
abbrev qr(l:We):List Y:=l.map gu
def Ta(k:WD):(zp k).length<=2:=by unfold zp;split<;>simp
end L3
namespace TS
open PySem PyProof.Rows PySem.W PySem.Calls
section
variable {w:Wu}
abbrev keyBody(kx px:Str)(p1 p2 p3 p4 p5:Pos)(n:Nat):Expr:=.Tuple [.Subscript (.Name kx p1) (.Name px p2) p3,.Name px p4] n p5
structure mH(h:Wv)(f:Addr)(kx px:Str)(scope:Scope)(kvs:Wg):Prop where
 ex:∃(name eK:Str) (params:Arguments) (p1 p2 p3 p4 p5:Pos) (n:Nat) (pm ctv:Wr) (c' cell k:Addr),h.get? f=some (kla_obj name eK params (keyBody kx px p1 p2 p3 p4 p5 n) scope [(kx,cell)] pm c' ctv)/\h.CodeRec (.ref c') eK/\
  h.IsCell cell (some<|.ref k)/\h.IsList k kvs.toArray/\∀v:Wr,bindArgs (kla_fn name eK params (keyBody kx px p1 p2 p3 p4 p5 n) scope [(kx,cell)] pm (.ref c') ctv) ⟨[v],[]⟩=pure [(px,v)]
 lim:h.NoLimit
structure KeySc(scope:Scope)(kx px:Str):Prop where
 kind:scope.kind=.function
 co:scope.isCoroutine=false
 gen:scope.isGenerator=false
 nc:∀x∈scope.names,x.2≠.cell
 lp:scope.names.lookup px=some .local
 lk:scope.names.lookup kx=some .free
 d1:(kx==("__debug__" : Str))=false
 d2:(px==("__debug__" : Str))=false
 d3:(kx==("__classdict__" : Str))=false
theorem mH.keeps{kvs:Wg}(k:mH h f kx px scope kvs)(J:∀b o,h.get? b=some o->h'.get? b=some o):mH h' f kx px scope kvs:=by
 obtain⟨name,U,I,p,r,t,C,T,n,pm,l,c',cell,kk,g1,g2,g3,g4,g5⟩:=k.ex;refine⟨⟨name,U,I,p,r,t,C,T,n,pm,l,c',cell,kk,J _ _ g1,?_,?_,?_,g5⟩,k.lim.keeps J⟩
 ·obtain⟨c,oc,vs,tq,g,j,e3⟩:=g2;exact⟨c,oc,vs,tq,g,J _ _ j,e3⟩
 ·obtain⟨o,g,j⟩:=g3;exact⟨o,J _ _ g,j⟩
 ·obtain⟨o,g,j⟩:=g4;exact⟨o,J _ _ g,j⟩
def Tb{kvs:Wg}{u t:Tok}{r:Int}(K:mH s.heap f kx px scope kvs)(S:KeySc scope kx px)(U:A.depth<recursionLimit)(hi:kvs[i]?=some (.int r t))(a1:i<2 ^ 40)
 (h:∀h' tk a,(∀b o,s.heap.get? b=some o->h'.get? b=some o)->h'.get? a=some {cls:=.type "tuple",data:=.seq #[.int r t,.int (i:Int) u]}->Q (.ref a) {s with heap:=h',toks:=tk}):
 wpAny (model prog w) A (call (.ref f) [.int (i:Int) u]) Q E s:=by
 obtain⟨name,I,l,p1,p2,p3,p4,p5,n,pm,a2,p,cell,kk,g1,g2,g3,g4,g5⟩:=K.ex;refine wpAny_call<|kla_callFunE U g1 rfl S.co S.gen rfl g2 ?_;rw[g5];refine Aj (wpAny_newFunctionEnv S.nc (λx hx=>by rw[Ao.mp hx];exact S.lp) (λJ g j=>⟨K.lim.fresh _ j,?_⟩) S.kind);have C:∀b o,s.heap.get? b=some o->J.get? b=some o:=λb o e=>j.extBut b o (A3<|xT e)<|wh _ e;show codeAny _ _ (.expr _<|envX I scope s.heap.objs.size f (.ref p) [(kx,cell)]) _ _;refine kla_codeExpr ?_;have look:(([(px,Value.int (i:Int) u)]:List<|Str×Wr).reverse.lookup px)=some (.int (i:Int) u):=by simp
 have kf:(envX I scope s.heap.objs.size f (.ref p) [(kx,cell)]).kindOf kx=some .free:=S.lk;have kp:(envX I scope s.heap.objs.size f (.ref p) [(kx,cell)]).kindOf px=some .local:=S.lp;have cl:(envX I scope s.heap.objs.size f (.ref p) [(kx,cell)]).cells.lookup kx=some cell:=by show([(kx,cell)]:List<|Str×Addr).lookup kx=_;simp
 have ic:J.IsCell cell (some<|.ref kk):=by obtain⟨o,T,e2⟩:=g3;exact⟨o,C _ _ T,e2⟩
 have il:J.IsList kk kvs.toArray:=by obtain⟨o,T,e2⟩:=g4;exact⟨o,C _ _ T,e2⟩
 refine wpAny_Tuple_spliced<|Db<|Subscript_<|wpAny_Name (wpAny_loadName_free S.kind kf cl ic (wpAny_Name (wpAny_loadName_local S.kind kp g look ?_) S.d2) S.d3) S.d1;refine item_listL il (by exact AV _) (by omega) (by rw[show((i:Nat):Int).toNat=i from rfl];exact hi) ?_;refine Db<|wpAny_Name (wpAny_loadName_local S.kind kp g look ?_) S.d2;refine Fa ⟨by show 2<=sizeLine;decide,?_⟩;exact h _ _ _ (λb o e=>wh _<|C b o e)<|ya _ rfl
end
def itV(x:Nat×Tok):Wr:=.int (x.1:Int) x.2
def HA(h:Wv)(kS:Addr)(rk:Nat->Int)(k:Wr)(x:Nat×Tok):Prop:=∃a t u,k=.ref a/\a≠kS/\h.get? a=some {cls:=.type "tuple",data:=.seq #[.int (rk x.1) t,.int (x.1:Int) u]}
def jQ(h:Wv)(kS:Addr)(rk:Nat->Int):Wg->List (Nat×Tok)->Prop
 |[],[]=>True
 |k::ks,x::xs=>HA h kS rk k x/\jQ h kS rk ks xs
 |_,_=>False
theorem jQ.len{h:Wv}{kS:Addr}{rk:Nat->Int}:∀{ks:Wg} {xs:List<|Nat×Tok},jQ h kS rk ks xs->ks.length=xs.length
 |[],[],_=>rfl
 |_::_,_::_,⟨_,b⟩=>by rw[AL,AL,jQ.len b]
 |[],_::_,z=>z.elim
 |_::_,[],z=>z.elim
theorem jQ.mem{h:Wv}{kS:Addr}{rk:Nat->Int}:∀{ks:Wg} {xs:List<|Nat×Tok},jQ h kS rk ks xs->∀t∈ks.zip xs,HA h kS rk t.1 t.2
 |[],[],_,t,I=>by cases I
 |_::_,_::_,⟨a,b⟩,t,I=>by
  rw[DW] at I;rcases As.mp I with rfl|I
  ·exact a
  ·exact jQ.mem b t I
 |[],_::_,z,_,_=>z.elim
 |_::_,[],z,_,_=>z.elim
section
variable {w:Wu}
theorem JQ{g:Wv}{f:Addr}{kx px:Str}{scope:Scope}{kvs:Wg}{kS:Addr}{rk:Nat->Int}{body:Wr->PUnit->Sem (ForInStep PUnit)}(K:mH g f kx px scope kvs)(S:KeySc scope kx px)(I:A.depth<recursionLimit)(hn:g.get? kS=none)
 (hb:∀(x:Wr) (s:Ws) (Q':ForInStep PUnit->Ws->Prop),wpAny (model prog w) A (call (.ref f) [x]) (λk s'=>wpAny (model prog w) A (Builtin.List.listUpdate (.ref kS) (·.push k)) (λ_ C=>Q' (.yield ⟨⟩) C) E s') (λ_ _=>False) s->wpAny (model prog w) A (body x ⟨⟩) Q' E s):
 ∀(ps:List<|Nat×Tok) (ks:Wg) (e:Nat) (s:Ws) (Q:PUnit->Ws->Prop),(∀b o,g.get? b=some o->s.heap.get? b=some o)->s.heap.get? kS=some (seqObj "list" ks.toArray e)->ks.length+ps.length<=100000->
  (∀x∈ps,x.1<2 ^ 40/\∃t,kvs[x.1]?=some (.int (rk x.1) t))->
  (∀h' tk j T,(∀b o,b≠kS->s.heap.get? b=some o->h'.get? b=some o)->h'.get? kS=some (seqObj "list" (ks++j).toArray T)->jQ h' kS rk j ps->Q ⟨⟩ {s with heap:=h',toks:=tk})->
  wpAny (model prog w) A (forIn (ps.map itV) PUnit.unit body) Q E s
 |[],ks,e,s,Q,hg,hk,hz,hp,q=>by rw[Dq,EK];exact Aj (q s.heap s.toks [] e (λ_ _ _ h=>h) (by rw[AN];exact hk) trivial)
 |x::r,ks,e,s,Q,hg,hk,hz,hp,q=>by
  rw[AA,C9];rw[AL] at hz;obtain⟨a1,t,ht⟩:=hp x<|Ar ..;have big:(100000:Nat)+1<=sizeLine:=by rw[sizeLine_eq];exact De _ _
  refine Aa<|hb (itV x) s _<|Tb (K.keeps hg) S I ht a1 λh1 l a k1 ha=>?_;have J:h1.get? kS=some (seqObj "list" ks.toArray e):=k1 _ _ hk;have s1:=At h1 kS (Obj.mapSeq (·.push (.ref a)));have ea:ks.toArray.push (.ref a)=List.toArray (ks++[.ref a]):=by simp
  obtain⟨c2,a2⟩:∃c2,(h1.update kS (Obj.mapSeq (·.push (.ref a)))).get? kS=some (seqObj "list" (List.toArray<|ks++[.ref a]) c2):=⟨_,by rw[<-ea];exact get?_update_seq J (·.push (.ref a))⟩;have p:a≠kS:=λz=>by
   rw[z,J] at ha;have:=Bk (λo:Option Obj=>o.map (·.cls)) ha;have z2:some (Value.type "list")=some (Value.type "tuple"):=this;injection z2 with z3
   injection z3 with z4
   exact absurd z4 (by decide)
  refine listUpdate_at (s:={s with heap:=h1,toks:=l}) J rfl ?_ (by rw[Ap];lia) (AM (Nat.le_of_eq<|Bt ..) (by rw[Ap];lia));refine JQ K S I hn hb r (ks++[.ref a]) c2 {s with heap:=h1.update kS (Obj.mapSeq (·.push (.ref a))),toks:=l} Q (λb o e=>?_) a2 (by rw[Ac,B4];lia) (λy hy=>hp y<|Ai _ hy) λh' tk j T kk a3 vs=>?_
  ·have nb:b≠kS:=λz=>by rw[z,hn] at e;cases e
   exact(s1.2 b nb).trans (k1 b o<|hg b o e)
  ·have U:∀b o,b≠kS->h1.get? b=some o->h'.get? b=some o:=λb o nb e=>kk b o nb<|(s1.2 b nb).trans e;refine q h' tk (.ref a::j) T (λb o nb e=>U b o nb<|k1 b o e) (by rw[a3,Ay];rfl) ⟨⟨a,t,x.2,rfl,p,U a _ p ha⟩,vs⟩
end
section
variable {w:Wu}
def Tc{g:Wv}{kvs:Wg}{kS a:Addr}{rk:Nat->Int}{ps:List<|Nat×Tok}{e1 e0:Nat}{B:Int}{P:PySem.Fin->Ws->Prop}(K:mH g f kx px scope kvs)(S:KeySc scope kx px)(I:A.depth<recursionLimit)(hn:g.get? kS=none)
 (hg:∀b o,g.get? b=some o->s.heap.get? b=some o) (hk:s.heap.get? kS=some (seqObj "list" #[] e0)) (ha:s.heap.get? a=some (seqObj "list" #[] e1)) (l:kS≠a) (hz:ps.length<=127)
 (hp:∀x∈ps,x.1<2 ^ 40/\∃t,kvs[x.1]?=some (.int (rk x.1) t)) (hB:∀x∈ps,((x.1:Nat):Int)<B) (nd:(ps.map (·.1)).Nodup)
 (h:∀h' tk (qs:List<|Nat×Tok) c,(∀b o,b≠kS->b≠a->s.heap.get? b=some o->h'.get? b=some o)->h'.get? a=some (seqObj "list" (qs.map itV).toArray c)->qs.Perm ps->(qs.Pairwise λx y=>rk x.1*B+(x.1:Int)<=rk y.1*B+(y.1:Int))->P (.done<|.ret .none) {s with heap:=h',toks:=tk}):
 wpAny (model prog w) A (ksk_rest a (.ref f) false (ps.map itV).toArray e1<|.ref kS) P E s:=by
 have big:(100000:Nat)+1<=sizeLine:=by rw[sizeLine_eq];exact De _ _
 unfold ksk_rest;refine Aa<|Bw ?_;rw[List.forIn_toArray];refine Aa (JQ (rk:=rk) K S I hn (λx s' Q' hx=>?_) ps [] e0 s _ hg hk (by simp;lia) hp λh' tk ks e' keep J kv=>?_)
 ·refine Aa (wpAny_attempt<|AW hx (λk a5 hk=>?_) λ_ _ hF=>hF.elim)
  try dsimp only
  exact Aa<|AW hk (λ_ s3 q=>Aj q) λ_ _ e=>e
 ·try dsimp only
  rw[Df] at J;refine Aa<|listItems_at (s:={s with heap:=h',toks:=tk}) J rfl ?_;have a1:h'.get? a=some (seqObj "list" #[] e1):=keep _ _ (AH l) ha;have len:ks.length=ps.length:=kv.len;obtain⟨T,C⟩:∃T,T=ks.zip ps:=⟨_,rfl⟩;have kT:∀t∈T,HA h' kS rk t.1 t.2:=λt p=>kv.mem t<|C▸p;have e2:T.map (·.2)=ps:=by rw[C];exact List.map_snd_zip (by lia)
  have ez:ks.zip (ps.map itV)=T.map λt=>(t.1,itV t.2):=by rw[C,List.zip_map_right];rfl
  have mp:∀t∈T,t.2∈ps:=λt p=>by rw[<-e2];exact C5 p
  have nT:∀t∈T,num h' B (t.1,itV t.2)=rk t.2.1*B+(t.2.1:Int):=λt p=>by obtain⟨b,tt,u,r,x2,x3⟩:=kT t p;exact num_of r x3 rfl
  have ac:∀x∈ps,(0:Int)<=((x.1:Nat):Int):=λ_ _=>by exact AV _
  refine Sv (s:={s with heap:=h',toks:=tk}) (vs:=ps.map itV) (ks:=ks) (B:=B) J a1 l (by rw[Ae];exact len) (by rw[Ae];exact hz) (λv hv=>?_) λh2 a2 xs c U hc pm pw=>?_
  ·obtain⟨j,hj⟩:=DJ hv;have a3:j<ps.length:=by rw[<-len];exact(AI.mp hj).1
   have hm:(v,ps[j])∈T:=by rw[C];refine List.mem_iff_getElem?.mpr ⟨j,?_⟩;rw[List.getElem?_zip_eq_some];exact⟨hj,Ag a3⟩
   obtain⟨b,tt,u,r,x2,x3⟩:=kT _ hm;have r:v=.ref b:=r;exact⟨b,_,_,_,_,tt,u,r,x3,rfl,rfl,by exact AV _,hB _<|mp _ hm⟩
  ·rw[ez] at pm;obtain⟨T',pT,a4⟩:=permLift _ pm rfl;subst a4;have mT:∀t,t∈T'->t∈T:=λt=>pT.mem_iff.mp;refine h h2 a2 (T'.map (·.2)) c (λb o n1 n2 e=>?_) ?_ ?_ ?_
   ·rw[U b n1 n2];exact keep b o n1 e
   ·rw[hc,BK,BK];rfl
   ·rw[<-e2];exact pT.map _
   ·refine BO.mpr<|Ek (λ{x y} hx hy z=>?_)<|BO.mp pw;rw[nT x<|mT x hx,nT y<|mT y hy] at z;exact z
def w_sortedK{l:Addr}{kvs:Wg}{rk:Nat->Int}{ps:List<|Nat×Tok}{B:Int}(K:mH s.heap f kx px scope kvs)(S:KeySc scope kx px)(j:A.in1.in1.depth<recursionLimit)
 (hl:s.heap.IsList l (ps.map itV).toArray) (hz:ps.length<=127)
 (hp:∀x∈ps,x.1<2 ^ 40/\∃t,kvs[x.1]?=some (.int (rk x.1) t)) (hB:∀x∈ps,((x.1:Nat):Int)<B) (nd:(ps.map (·.1)).Nodup)
 (h:∀h' tk (qs:List<|Nat×Tok) D c,s.heap.objs.size<=D->(∀b o,s.heap.get? b=some o->h'.get? b=some o)->h'.get? D=some (seqObj "list" (qs.map itV).toArray c)->qs.Perm ps->(qs.Pairwise λx y=>rk x.1*B+(x.1:Int)<=rk y.1*B+(y.1:Int))->Q (.ref D) {s with heap:=h',toks:=tk}):
 wpAny (model prog w) A (call (.builtin "sorted") [.ref l] [(Str.ofString "key",.ref f)]) Q E s:=by
 have big:(100000:Nat)+1<=sizeLine:=by rw[sizeLine_eq];lia
 have a2:(ps.map itV).length<=100000:=by rw[Ae];lia
 refine call_function_entry_kw kind_sorted plain_sorted entry_sorted (ksk_s1 _ _) ?_;unfold Builtin.«sorted»;refine Aa (m:=checkCount "sorted" 1 1 _)<|Aj ?_;refine Aa<|collect_list hl ?_ (by exact eM);refine Aa<|wpAny_newList ?_ (by lia);obtain⟨g1,C⟩:∃g1,g1=(s.heap.push<|seqObj "list" #[] 0).update s.heap.objs.size (Obj.mapSeq (· ++ (ps.map itV).toArray)):=⟨_,rfl⟩;have T:g1.objs.size=s.heap.objs.size+1:=by rw[C,Heap.size_update,size_push']
 have gk:∀b o,s.heap.get? b=some o->g1.get? b=some o:=λb o q=>by have J:b<s.heap.objs.size:=xT q;rw[C,Heap.get?_update_ne _ _ _ _<|A3 J];exact wh _ q
 show wpAny _ _ _ _ _ {s with heap:=((s.heap.push<|seqObj "list" #[] 0).update s.heap.objs.size (Obj.mapSeq (· ++ (ps.map itV).toArray))).push (seqObj "list" (ps.map itV).toArray 0)};rw[<-C];have I:(g1.push<|seqObj "list" (ps.map itV).toArray 0).get? g1.objs.size=some (seqObj "list" (ps.map itV).toArray 0):=ya _ rfl;have keep:∀b o,s.heap.get? b=some o->(g1.push<|seqObj "list" (ps.map itV).toArray 0).get? b=some o:=λb o q=>wh _<|gk b o q;refine Aa<|Bf<|wpAny_call_entry_kw slot_list_sort ⟨_,I,rfl⟩ entry_list_sort ?body<|ksk_l1 _ _
 case body=>
  obtain⟨D,eD⟩:∃D,D=g1.objs.size:=⟨_,rfl⟩;rw[<-eD] at I ⊢;show wpAny (model prog w) A.in1.in1 (Builtin.«list.sort» ⟨[.ref D],[(Str.ofString "key",.ref f)]⟩) _ _ _;rw[ksk_t1];obtain⟨g2,p⟩:∃g2,g2=g1.push (seqObj "list" (ps.map itV).toArray 0):=⟨_,rfl⟩;rw[<-p] at I keep ⊢;have s1:=At g2 D<|Obj.mapSeq λ_=>(#[]:Wh);obtain⟨e1,r⟩:∃e1,(g2.update D<|Obj.mapSeq λ_=>(#[]:Wh)).get? D=some (seqObj "list" #[] e1):=⟨_,get?_update_seq I λ_=>#[]⟩;have nD:∀b o,s.heap.get? b=some o->b≠D:=λb o q z=>by have J:b<s.heap.objs.size:=xT q;rw[z,eD,T] at J;exact Nat.not_succ_lt_self J
  unfold ksk_tree;refine Aa<|listItems_at (s:={s with heap:=g2}) I rfl ?_;refine Aa (listUpdate_at (s:={s with heap:=g2}) I rfl ?_ (by rw[Ap];exact eM)<|A1 _);refine Aa<|seqEpoch_at r rfl ?_;refine Aa (wpAny_newTuple ?_ (by show(ps.map itV).length<=_;lia));refine Aa<|wpAny_newList ?_<|A1 _;refine Bf ?_;obtain⟨g3,U⟩:∃g3,g3=(g2.update D<|Obj.mapSeq λ_=>(#[]:Wh)).push (seqObj "tuple" (ps.map itV).toArray 0):=⟨_,rfl⟩;have k3:∀b o,s.heap.get? b=some o->g3.get? b=some o:=λb o q=>by rw[U];exact wh _<|(s1.2 b<|nD b o q).trans<|keep b o q
  have d3:g3.get? D=some (seqObj "list" #[] e1):=by rw[U];exact wh _ r
  show wpAny (model prog w) A.in1.in1 (ksk_rest D (.ref f) false (ps.map itV).toArray _<|.ref ((g2.update D<|Obj.mapSeq λ_=>(#[]:Wh)).push<|seqObj "tuple" (ps.map itV).toArray 0).objs.size) _ _ {s with heap:=((g2.update D<|Obj.mapSeq λ_=>(#[]:Wh)).push<|seqObj "tuple" (ps.map itV).toArray 0).push (seqObj "list" #[] 0)};rw[<-U];have a1:(g3.push<|seqObj "list" #[] 0).get? g3.objs.size=some (seqObj "list" #[] 0):=ya _ rfl;refine Tc (s:={s with heap:=g3.push (seqObj "list" #[] 0)}) (g:=s.heap) (kS:=g3.objs.size) (a:=D) (rk:=rk) (B:=B) K S j (Heap.get?_none_of_le ?_) (λb o q=>wh _<|k3 b o q) a1 (wh _ d3) ?_ hz hp hB nd λh' tk qs c kp hD pm pw=>?_
  ·have l1:g3.objs.size=g1.objs.size+2:=by rw[U,size_push',Heap.size_update,p,size_push']
   rw[l1,T];exact AM (CU _)<|A9 _ 2
  ·exact(A3<|xT d3).symm
  ·refine⟨_,rfl,Aj ⟨_,rfl,h h' tk qs D c (by rw[eD,T];exact CU _) (λb o q=>?_) hD pm pw⟩⟩;exact kp b o (A3<|xT<|k3 b o q) (nD b o q)<|wh _<|k3 b o q
end
end TS
namespace L2
open PySem PySem.Spec PyProof.Rows
def qW{i j:Int}{t u:Tok}{c:Wr}(l:Wg)(h:TriplesOk l):TriplesOk (l++[.int i t,.int j u,c]):=by
 fun_induction TriplesOk l with
 |case1=>trivial
 |case2 _ _ _ _ _ rest I=>exact I h
 |case3=>exact h.elim
def wY{i j:Int}{t u:Tok}{c I:Wr}(l:Wg)(h:TriplesOk l)(e:codeAmong pos (l++[.int i t,.int j u,c])=some I):codeAmong pos l=some I\/I=c:=by
 fun_induction TriplesOk l with
 |case1=>
  right;have e:(if i==pos.line&&j==pos.col then some c else none)=some I:=e;split at e
  ·cases e;rfl
  ·cases e
 |case2 a _ b _ d rest J=>
  have e:(if a==pos.line&&b==pos.col then some d else codeAmong pos (rest++[.int i t,.int j u,c]))=some I:=e;show(if a==pos.line&&b==pos.col then some d else codeAmong pos rest)=some I\/I=c;split at e
  ·rename_i z;rw[AD z];exact .inl e
  ·rename_i z;rw[AB z];exact J h e
 |case3=>exact h.elim
structure zS(K:Af)(eW:Wr)(P:Addr):Prop where
 ex:∃c oc,eW=.ref c/\K.lookup c=some oc/\∀h:Wv,h.get? c=some oc->PySem.W.CodeHd h c P
 bm:∃bm ob,PySem.W.nsIn K mainGlobals "__builtins__"=some (some<|.ref bm)/\bm≠builtinsNs/\bm≠mainGlobals/\K.lookup bm=some ob/\ob.cls=.type "module" /\ ob.dict=some builtinsNs/\ob.data=.plain
theorem uS:∀{l:Wi} {us:Wg},zf (l.map λi:Nat=>V.int<|0+(i:Int)) us->∃ps:List (Nat×Tok),us=ps.map TS.itV/\ps.map (·.1)=l
 |[],_,.nil=>⟨[],rfl,rfl⟩
 |i::r,_,.cons (b:=u) h t=>by obtain⟨ps,I,J⟩:=uS (l:=r) t;obtain⟨tk,U⟩:=(show ∃tk,u=Value.int (0+(i:Int)) tk from h);refine⟨(i,tk)::ps,?_,by rw[AA,J]⟩;rw[AA,I,U];show _=Value.int (i:Int) tk::_;rw[Int.zero_add]
theorem sg:∀ps:List (Nat×Tok),zf (ps.map λx=>V.int ((x.1:Nat):Int))<|ps.map TS.itV
 |[]=>.nil
 |x::r=>.cons ⟨x.2,rfl⟩<|sg r
def Td(P:Addr)(q:Str)(J:Nat)(te:TE):TE:=λσ H Q=>te σ H λv H1=>∃l I,∃n:Nat,∃rks:Wm,v=.ref l/\H1 l=some (.lst ((List.range n).map λi:Nat=>V.int<|0+(i:Int)))/\σ[J]?=some (some<|.ref I)/\H1 I=some (.lst<|rks.map V.int)/\rks.length=n/\n<=127/\sD H1 P q/\
 ∀H2 D (qs:Wi),(∀b u,b≠P->H1 b=some u->H2 b=some u)->sD H2 P q->H1 D=none->D≠P->H2 D=some (.lst (qs.map λi:Nat=>V.int (i:Int)))->qs.Perm (List.range n)->(qs.Pairwise λi j=>rks.getD i 0*1000000+(i:Int)<=rks.getD j 0*1000000+(j:Int))->Q (.ref D) H2
def Te{l kk cell:Addr}{J:Arguments}{p:Wr}{Q:VK}(I:qt X pins σ H s)(S:TS.KeySc fx kx px)(hr:X.A.depth+3<recursionLimit)
 (hf:s.heap.get? f=some (PySem.W.kla_obj name eK J (TS.keyBody kx px p1 p2 p3 p4 p5 x1) fx [(kx,cell)] pm c' p)) (a1:s.heap.CodeRec (.ref c') eK) (r:s.heap.IsCell cell<|some<|.ref kk)
 (hb:∀v:Wr,bindArgs (PySem.W.kla_fn name eK J (TS.keyBody kx px p1 p2 p3 p4 p5 x1) fx [(kx,cell)] pm (.ref c') p) ⟨[v],[]⟩=pure [(px,v)])
 (hl:H l=some (.lst ((List.range n).map λi:Nat=>V.int<|0+(i:Int)))) (hk:H kk=some (.lst<|rks.map V.int)) (hn:rks.length=n) (hz:n<=127)
 (q:∀D (qs:Wi),H D=none->qs.Perm (List.range n)->(qs.Pairwise λi j=>rks.getD i 0*1000000+(i:Int)<=rks.getD j 0*1000000+(j:Int))->Q (.ref D) (upd H D<|.lst (qs.map λi:Nat=>V.int (i:Int)))):
 wpAny (model X.prog X.w) X.A (call (.builtin "sorted") [.ref l] [(Str.ofString "key",.ref f)]) (EP X pins σ Q) X.xe s:=by
 obtain⟨a4,rv,pl,_⟩:=I.list<|FA hl;obtain⟨g,rk,pk,_⟩:=I.list<|FA hk;obtain⟨ps,rfl,U⟩:=uS rv;have lk:g.length=n:=by rw[<-rk.length,Ae,hn]
 have lp:ps.length=n:=by have:=Bk List.length U;rwa[Ae,BM] at this
 have big:(100000:Nat)<=sizeLine:=by decide
 refine j5 I.tk<|TS.w_sortedK (rk:=λi=>rks.getD i 0) (B:=1000000) (kvs:=g) ⟨⟨name,eK,J,p1,p2,p3,p4,p5,x1,pm,p,c',cell,kk,hf,a1,r,pk.isList,hb⟩,I.nolimit⟩ S ?_ pl.isList (by lia) (λx hx=>?_) (λx hx=>?_) ?_ λh' tk qs D c hD keep hg T pw ht=>?_
 ·show X.A.depth<recursionLimit;lia
 ·have C:x.1∈List.range n:=by rw[<-U];exact C5 hx
  have a2:=AY.mp C;refine⟨by lia,?_⟩;have e1:(rks.map V.int)[x.1]?=some (V.int<|rks.getD x.1 0):=by rw[Al,Ag (by lia),Bl,Ag (by lia)];rfl
  obtain⟨u,e2,r2⟩:=Words.Paired.getP rk e1;obtain⟨t,rfl⟩:=(show ∃t,u=Value.int (rks.getD x.1 0) t from r2);exact⟨t,e2⟩
 ·have C:x.1∈List.range n:=by rw[<-U];exact C5 hx
  have a2:=AY.mp C;omega
 ·rw[U];exact B5
 ·have a3:H D=none:=I.hok.fresh hD;refine⟨.ref D,_,I.laid (t':=tk) (o:=.lst ((qs.map (·.1)).map λi:Nat=>V.int (i:Int))) keep hD ?_,rfl,q D (qs.map (·.1)) a3 ?_ ?_⟩
  ·refine⟨?_,qs.map TS.itV,c,?_,hg⟩
   ·rw[Ae,Ae,T.length_eq];lia
   ·rw[BK];exact sg qs
  ·rw[<-U];exact T.map _
  ·exact BO.mpr pw
def qt.tabbed{P:Addr}{ps more:Wh}{oc fo:Obj}{tk:Nat}(I:qt X pins σ H s)(C:H P=some (.tbl ps))(hx:Heap.ExtBut P s.heap h')(U:h'.get? P=some (PySem.W.tabObj<|ps++more))
 (hc:s.heap.objs.size<=c') (g:h'.get? c'=some oc) (ht:0<tk):qt X pins σ (upd (upd H P<|.tbl<|ps++more) c'<|.frz oc<|.own 0) {s with heap:=h'.push fo,toks:=tk}:=by
 have nc:H c'=none:=I.hok.fresh hc;have p:∀b,H b=none->b≠P:=λb e z=>by rw[z,C] at e;cases e
 have j:∀b u,H b=some u->b≠c':=λb u e z=>by rw[z,nc] at e;cases e
 have l:∀b o,s.heap.get? b=some o->b≠c':=λb o e=>A3<|AK (xT e) hc;have t:∀b o,b≠P->s.heap.get? b=some o->(h'.push fo).get? b=some o:=λb o n e=>wh _<|hx b o n e;have J:∀b u,H b=some u->(∀ps,u≠.tbl ps)->b≠P:=λb u e d z=>by rw[z,C] at e;cases e;exact d _ rfl
 refine I.step (ch:=[]) (g':=s.gens) (d':=s.drawn) (t':=tk) (λ_ z=>nomatch z) (λb o _ _ _ e n=>t b o (p b n) e) (λb o _ _ _ e n=>⟨o.slots,t b o (p b n) e⟩) (λb o _ e n=>?_) (λb o _ e=>?_) (λb xs e=>?_) (λb o u e=>?_) (λb qs e=>?_) (λm hm=>?_) (λb u e=>?_) I.bare ht
 ·rw[qp<|l b o e,qp<|p b n];exact n
 ·by_cases c:b=P
  ·subst c;exact⟨_,wh _ U⟩
  ·exact⟨o,t b o c e⟩
 ·rw[qp<|j b _ e,qp (J b _ e λ_ z=>by cases z)];exact e
 ·rw[qp<|j b _ e,qp (J b _ e λ_ z=>by cases z)];exact e
 ·rw[qp<|j b _ e];by_cases c:b=P
  ·subst c;rw[C] at e;cases e;exact⟨more,zu⟩
  ·rw[qp c];exact⟨#[],by rw[e];simp⟩
 ·exact(hm.extBut hx<|p _ I.free).push _
 ·by_cases c:b=c'
  ·subst c;rw[zu] at e;cases e;exact⟨wh _ g,_,wh _ g⟩
  ·rw[qp c] at e;by_cases d:b=P
   ·subst d;rw[zu] at e;cases e;exact wh _ U
   ·rw[qp d] at e;refine(I.hok b u e).stay (λa v T r=>t a v ?_ r) (λa r=>?_) (λa xs r=>?_)
    ·rcases T with rfl|T
     ·exact d
     ·exact J a _ T λ_ z=>by cases z
    ·rw[qp<|j a _ r,qp (J a _ r λ_ z=>by cases z)];exact r
    ·rw[qp<|j a _ r,qp (J a _ r λ_ z=>by cases z)];exact r
def Tf{te:TE}{J:Arguments}{U:Pos}{ik:Nat}{P:Addr}(hg:Gl X "sorted")(hm:X.mg "sorted"=none)(he:PE X e te)(S:TS.KeySc fx kx px)(C:zS X.K X.env.code P)(hr:X.A.depth+3<recursionLimit)
 (hq:X.env.qual ++ "<lambda>" = q) (bq:X.N[ik]?=some kx) (aL:X.env.scope.names.lookup kx=some .cell) (ba:∃cell,X.env.cells.lookup kx=some cell/\closureFor fx X.env=pure [(kx,cell)])
 (bb:defaultsOf J X.env=([],[])) (hb:∀(name eK:Str) (cl:List<|Str×Addr) (pm cd ct v:Wr),bindArgs (PySem.W.kla_fn name eK J (TS.keyBody kx px p1 p2 p3 p4 p5 x1) fx cl pm cd ct) ⟨[v],[]⟩=pure [(px,v)])
 (h1:starEach [e] X.env=(false,eval e X.env)::starEach [] X.env:=by rfl) (h2:(backTo pos<|starEach [e] X.env).any (·.1)=false:=by rfl)
 (h3:backTo pos (starEach [e] X.env)=(false,eval e X.env)::backTo pos (starEach [] X.env):=by rfl):
 PE X (.Call (.Name "sorted" p) [e] [⟨some "key",.Lambda J (TS.keyBody kx px p1 p2 p3 p4 p5 x1) fx U,sL⟩] pos) (Td P q ik te):=by
 intro a1 s σ H Q I h;refine wpAny_Call_Name_kw<|cM I hg hm (by decide +kernel:bootBuiltins "sorted"=some (.builtin "sorted")) ?_ (by decide) (by decide);refine PyProof.Rows.callWith_kw ?_ h3 h2;rw[h3];refine Db<|wr (he a1 s σ H _ I h) λv s1 ⟨x,H1,g,rx,l,kk,n,rks,ev,hl,hs,hk,hn,hz,T,qq⟩=>?_;refine Fa ?_;subst ev;cases (show v=Value.ref l from rx);show wpAny _ _ (evalAll ((do let v <-eval (.Lambda J (TS.keyBody kx px p1 p2 p3 p4 p5 x1) fx U) X.env;standAt pos;pure v)::[])) _ _ s1;refine wpAny_evalAll_cons<|Aa ?_;obtain⟨cell,a3,ax⟩:=ba;obtain⟨c,br,bc,lc,hC⟩:=C.ex;obtain⟨bm,ob,b1,b2,b3,b4,b5,b6,b7⟩:=C.bm;obtain⟨ac,tP,tok,a4⟩:=T;have bd:s1.heap.Ns mainGlobals X.mg:=g.ok.mod.glob.keeps g.bk;have bf:s1.heap.get? P=some (PySem.W.tabObj ac):=g.hok P _ tP;have bg:PySem.W.CodeHd s1.heap c P:=hC _<|g.kIn c br lc;have a2:∀b o,X.base.get? b=some o->b≠P:=λb o e z=>by have:=(g.bs b o e).2;rw[z,tP] at this;cases this
 have ay:=g.ok.mod.kin bm ob b4;have hB:s1.heap.BuiltinsAt X.mg P:=⟨bm,ob,Bq g.ok.mod.kin g.ok.mod.glob b1,b2,b3,a2 _ _ ay,(g.bs _ _ ay).1,b5,b6,b7⟩;have c1:mainGlobals≠P:=by obtain⟨o,es,ep,e,hd,_⟩:=g.ok.mod.glob;exact a2 _ _ e
 have a5:s1.heap.IsCell cell (some<|.ref kk):=by
  obtain⟨m,_,c3⟩:=g.loc;obtain⟨u,ru,lk⟩:=c3 ik kx _ bq hs<|.inr<|.inl aL;cases (show u=Value.ref kk from ru);rcases lk with⟨k1,_⟩|⟨_,c2,e2,c4⟩
  ·have k1:X.env.scope.names.lookup kx=some .local:=k1;rw[aL] at k1;cases k1
  ·rw[a3] at e2;cases e2;exact c4
 refine PySem.W.kla_eval bb ?_;rw[hq];have xt:∀(s2:Ws) (H2:Hp) (f j:Addr) (r pm:Wr),qt X a1 σ H2 s2->s2.heap.get? f=some (PySem.W.kla_obj "<lambda>" q J (TS.keyBody kx px p1 p2 p3 p4 p5 x1) fx [(kx,cell)] pm j r)->s2.heap.CodeRec (.ref j) q->s2.heap.IsCell cell (some<|.ref kk)->
  (∀b u,b≠P->H1 b=some u->H2 b=some u)->sD H2 P q->(∀b,H2 b=none->H1 b=none)->
  wpAny (model X.prog X.w) X.A (do standAt pos;pure (Value.ref f)) (λv s'=>wpAny (model X.prog X.w) X.A (evalAll []) (λvs c5=>wpAny (model X.prog X.w) X.A (call (.builtin "sorted") [.ref l]<|[Str.ofString "key"].zip<|v::vs) (EP X a1 σ Q) X.xe c5) X.xe s') X.xe s2:=by
  intro s2 H2 f j r pm I2 g1 g2 g3 g4 g5 g6;refine Aa<|wpAny_standAt<|Aj<|wpAny_evalAll_nil ?_;have lP:l≠P:=λz=>by rw[z,tP] at hl;cases hl
  have kP:kk≠P:=λz=>by rw[z,tP] at hk;cases hk
  refine Te (n:=n) (rks:=rks) I2 S hr g1 g2 g3 (λv=>hb _ _ _ _ _ _ v) (g4 _ _ lP hl) (g4 _ _ kP hk) hn hz λD qs hD c6 pw=>?_;have bh:D≠P:=λz=>by obtain⟨cb,e2,_⟩:=g5;rw[z,e2] at hD;cases hD
  refine qq _ D qs (λb u n e=>?_) ?_ (g6 D hD) bh zu c6 pw
  ·rw[qp<|zx (g4 b u n e) hD];exact g4 b u n e
  ·exact g5.keep (qp<|AH bh) λb o u e=>by rw[qp<|zx e hD];exact e
 cases hf:codeAmong U ac.toList with
 |some cv=>
  obtain⟨j,oc,vs,t,c7,f1,f2,f3⟩:=a4 U cv hf;subst c7;refine j5 g.tk<|PySem.W.kla_makeFunctionHit (mg:=X.mg) ax g.ok.glob bd bc bg bf tok hf hB λr h' tk bi cc ht=>?_;have I2:qt X a1 σ H1 {s1 with heap:=h'.push {cls:=.type "function",data:=.func (PySem.W.kla_fn "<lambda>" q J (TS.keyBody kx px p1 p2 p3 p4 p5 x1) fx [(kx,cell)] ((X.mg "__name__").getD .none) (.ref j) r)},toks:=tk}:=g.kept (t':=tk) λb o e=>wh _<|bi b o e;obtain⟨al,_⟩:=I2.hok j _ f1;refine xt _ H1 _ j r _ I2 (ya _ rfl) ⟨j,oc,vs,t,rfl,al,f2,f3⟩ ?_ (λb u _ e=>e) ⟨ac,tP,tok,a4⟩ λb e=>e;obtain⟨o,e1,e2⟩:=a5;exact⟨o,wh _<|bi _ _ e1,e2⟩
 |none=>
  refine j5 g.tk<|PySem.W.kla_makeFunction (mg:=X.mg) ax g.ok.glob bd bc bg bf tok hf c1 hB λj r h' tk hx bj ck bn c8 ht=>?_;obtain⟨c2,oc,vs,t,e2,al,f2,f3⟩:=bn;cases e2;have I2:=g.tabbed (fo:=PySem.W.kla_obj "<lambda>" q J (TS.keyBody kx px p1 p2 p3 p4 p5 x1) fx [(kx,cell)] ((X.mg "__name__").getD .none) j r) tP hx c8 bj al ht;have nc:H1 j=none:=g.hok.fresh bj;have cP:j≠P:=λz=>by rw[z,tP] at nc;cases nc
  refine xt _ _ _ j r _ I2 (ya _ rfl) ⟨j,oc,vs,t,rfl,wh _ al,f2,f3⟩ ?_ (λb u n e=>?_) ?_ λb e=>?_
  ·obtain⟨o,e1,e2⟩:=a5;have nP:cell≠P:=λz=>by have:=g.freeC kx cell a3;rw[z,tP] at this;cases this
   exact⟨o,wh _<|hx _ _ nP e1,e2⟩
  ·rw[qp<|zx e nc,qp n];exact e
  ·refine⟨ac++#[rawInt U.line,rawInt U.col,.ref j],by rw[qp<|AH cP,zu],?_,λbp cv z=>?_⟩
   ·rw[A8];exact qW _ tok
   ·rw[A8] at z;rcases wY _ tok z with z|z
    ·obtain⟨d',od,c9,t',k1,k2,k3⟩:=a4 bp cv z;have nP:d'≠P:=λz=>by rw[z,tP] at k2;cases k2
     exact⟨d',od,c9,t',k1,by rw[qp<|zx k2 nc,qp nP];exact k2,k3⟩
    ·exact⟨j,oc,vs,t,z,zu,f2,f3⟩
  ·by_cases d:b=j
   ·subst d;exact nc
   ·rw[qp d] at e;by_cases d2:b=P
    ·subst d2;rw[zu] at e;cases e
    ·rw[qp d2] at e;exact e
end L2
namespace L3
open PySem L2
def JR(Pt:Addr)(q:Str)(J:Nat)(te:xg)(τ:j9)(L:qk)(Q:YK):Prop:=te τ L λy L1=>match y with
 |.ref l=>cB L1 l λys=>∃(n:Nat) (rks:Wm) (I:Addr),ys=ww 0 n/\xM τ J=some (.ref I)/\L1 I=some (.lst<|rks.map Y.int)/\rks.length=n/\n<=127/\L1 Pt=some (.tb q)/\
  ∀(D:Addr) (qs:Wi),L1 D=none->qs.Perm (List.range n)->(qs.Pairwise λi j=>rks.getD i 0*1000000+(i:Int)<=rks.getD j 0*1000000+(j:Int))->Q (.ref D) (qi L1 D<|.lst (qs.map λi:Nat=>Y.int (i:Int)))
 |_=>False
theorem pH{G:G3}{H:Hp}:∀{l:Wi} {xs:Wx},xm G H (l.map λi:Nat=>Y.int<|0+(i:Int)) xs->xs=l.map λi:Nat=>V.int<|0+(i:Int)
 |[],_,h=>h
 |_::_,_,⟨x,I,e,r,s⟩=>by subst e;cases r;rw[pH s];rfl
theorem iF{G:G3}{H:Hp}:∀{l:Wm} {xs:Wx},xm G H (l.map Y.int) xs->xs=l.map V.int
 |[],_,h=>h
 |_::_,_,⟨x,I,e,r,s⟩=>by subst e;cases r;rw[iF s];rfl
theorem tT{G:G3}{H:Hp}:∀qs:Wi,xm G H (qs.map λi:Nat=>Y.int (i:Int)) (qs.map λi:Nat=>V.int (i:Int))
 |[]=>rfl
 |_::r=>⟨_,_,rfl,rfl,tT r⟩
def Tg{I:Arguments}{U:Pos}{r:Nat}(hg:Gl X "sorted")(hm:X.mg "sorted"=none)(he:QE X e te)(S:TS.KeySc fx kx px)(C:zS X.K X.env.code Pt)(hr:X.A.depth+3<recursionLimit)
 (hq:X.env.qual ++ "<lambda>" = q) (t:X.N[r]?=some kx) (a1:X.env.scope.names.lookup kx=some .cell) (g:∃cell,X.env.cells.lookup kx=some cell/\closureFor fx X.env=pure [(kx,cell)])
 (j:defaultsOf I X.env=([],[])) (hb:∀(name eK:Str) (cl:List<|Str×Addr) (pm cd ct v:Wr),bindArgs (PySem.W.kla_fn name eK I (TS.keyBody kx px p1 p2 p3 p4 p5 x1) fx cl pm cd ct) ⟨[v],[]⟩=pure [(px,v)])
 (h1:starEach [e] X.env=(false,eval e X.env)::starEach [] X.env:=by rfl) (h2:(backTo pos<|starEach [e] X.env).any (·.1)=false:=by rfl)
 (h3:backTo pos (starEach [e] X.env)=(false,eval e X.env)::backTo pos (starEach [] X.env):=by rfl):
 QE X (.Call (.Name "sorted" p) [e] [⟨some "key",.Lambda I (TS.keyBody kx px p1 p2 p3 p4 p5 x1) fx U,sL⟩] pos) (JR Pt q r te):=
 EU (Tf hg hm he S C hr hq t a1 g j hb h1 h2 h3) λσ H Q τ L Q3 rs rl z k=>by
  refine⟨τ,L,_,rs,rl,z,λv H1 y L1 t1 J rv z=>?_⟩;cases y with
  |ref l=>
   obtain⟨ys,e1,n,a2,kk,rfl,e2,e3,hn,hz,eP,qq⟩:=jy z;cases rv;obtain⟨xs,h1,r1⟩:=J l _ e1;obtain⟨xk,h2,r2⟩:=J kk _ e3;have T:sD H1 Pt q:=J Pt _ eP;cases pH r1;cases iF r2;obtain⟨v,hv,rv⟩:=rs.get r _<|qR _ _ e2;cases rv;refine⟨l,kk,n,a2,rfl,h1,hv,h2,hn,hz,T,λH2 D qs kp T2 hD a4 a3 pm pw=>?_⟩;have tb:∃o,H1 Pt=some (.tbl o):=let ⟨o,e,_⟩:=T;⟨o,e⟩;have t2:zy H1 H2:=λa u i h=>kp a u (λc=>by obtain⟨o,e⟩:=tb;rw[c,e] at h;cases h;cases i) h
   refine k _ _ _ _ (t1.trans t2) (λa u e=>?_) (by rfl)<|qq D qs (J.none hD) pm pw;by_cases c:a=D
   ·subst c;rw[q9] at e;cases e;exact⟨_,a3,tT qs⟩
   ·rw[qc c] at e;by_cases d:a=Pt
    ·subst d;rw[eP] at e;cases e;exact T2
    ·obtain⟨x,hx⟩:=(J a u e).ex;exact(J a u e).keep t2 (by rw[hx];exact kp a x d hx)
  |_=>exact z.elim
structure HB(K:Af)(x eK:Str)(st:Stmt)(f:Addr)(fd:FuncData)(Pt:Addr):Prop where
 ex:∃(oc:Wr) (od:Option Addr) (kV hQ pm:Wr) (an:Option Addr) (eW ct:Wr) (pR:Array<|Wn),
  fd=PySem.W.fnOf x eK (kc st) (jv st) (qw st) .none kV hQ pm an eW ct/\K.lookup f=some ⟨oc,od,.func fd,pR⟩/\PySem.W.codeIn K eW eK=true/\zS K eW Pt
 kp:PySem.W.keepIn K (.ref f)=true
def Th{P:Wt}{w:Wu}{K:Af}{N:Wj}{k:Nat}{sp:vh}(F:HB K x eK st f fd Pt)(S:aA N ps<|qw st)(len:∀ys L Q,sp ys L Q->ys.length=ps.length)
 (I:∀(eW:Wr) (A:Around) (outer:List Env) (s:Ws) (H:Hp) (E:XK),zS K eW Pt->wz k (A.deeper<|PyProof.Rows.envOfC eK (qw st) s.heap.objs.size f eW)->
  ∃t,ue (fJ CX0 P w K mg base N eK (qw st) f eW A outer s H E).nox (jv st) t/\∀ys L Q,sp ys L Q->t {nx:=λ_ L'=>a7 Q .non L',rt:=a7 Q} (fK N ys) L):Fn3 P w K mg base (k+1) f fd ps sp:=by
 obtain⟨oc,od,kV,g,pm,an,eW,ct,j,rfl,lk,U,C⟩:=F.ex;have F0:Fun K x eK st f _:=⟨⟨oc,od,kV,g,pm,an,eW,ct,j,rfl,lk,U⟩,F.kp⟩;refine GK lk U S (λvs H Q E ⟨ys,L,l,o,rl,z,_⟩=>by rw[<-o.length];exact len ys L l z) λA outer s H vs Q E hr ⟨ys,L,l,o,rl,z,k⟩=>?_;obtain⟨t,ht,q⟩:=I eW A outer s H E C hr;refine⟨_,iW.nox ht,fK N ys,L,_,ip o,rl,q ys L l z,?_⟩;exact⟨λσ p τ L' r a2 J ⟨L2,T,q2⟩=>k .non p .non L2 r (J.sub T) (by rfl) q2,λv p y L' r J a1 ⟨L2,T,q2⟩=>k v p y L2 r (J.sub T) a1 q2,λ_ _ _ _ _ _ _ z=>z.elim,λ_ _ _ _ _ _ _ z=>z.elim⟩
inductive l7(Pt:Addr)(q:Str)(ys:List Y)(L:qk)(Q:YK):Prop
 |mk:∀ns:Wm,(ys=[.sq<|ns.map Y.int])->(ns.length<=63)->(L=qi (λ_=>none) Pt (.tb q))->(∀L',Q (.bl true) L')->l7 Pt q ys L Q
def spTopT(q:Str)(K:Af)(Pt:Addr):Sp:=λvs H Q _=>∃(a:Addr) (ns:Wm),vs=[.ref a]/\SqF K H a (ns.map V.int)/\ns.length<=63/\H Pt=some (.tbl #[])/\∀H',Q (.bl true) H'
def Ti{vs:Wx}{Q:VK}{E:XK}(h:spTopT q G.K Pt vs H Q E):dn G (l7 Pt q) vs H Q E:=by
 obtain⟨a,I,rfl,J,U,g,z⟩:=h;refine⟨[.sq<|I.map Y.int],qi (λ_=>none) Pt<|.tb q,λy _=>y=.bl true,xm.one ⟨a,_,rfl,J,uv I⟩,(λb u e=>?_),⟨I,rfl,U,rfl,λ_=>rfl⟩,?_⟩
 ·by_cases c:b=Pt
  ·subst c;rw[q9] at e;cases e;exact⟨#[],g,trivial,λpos o z=>by cases z⟩
  ·rw[qc c] at e;cases e
 ·rintro v j y p _ _ l rfl;cases l;exact z j
end L3
namespace L2
open PySem PySem.Spec PyProof.Rows
def lessK(Pt:Addr):Af->Af
 |[]=>[]
 |(a,o)::r=>if a==Pt then lessK Pt r else(a,o)::lessK Pt r
theorem xa{Pt a:Addr}(h:a≠Pt):∀K:Af,(lessK Pt K).lookup a=K.lookup a
 |[]=>rfl
 |(b,o)::r=>by
  unfold lessK;by_cases c:(b==Pt)=true
  ·rw[AD c,xa h r,BC];have:(a==b)=false:=by have I:=eq_of_beq c;subst I;exact EH h
   rw[this]
  ·rw[AB c,BC,BC,xa h r]
theorem vo{Pt:Addr}:∀K:Af,(lessK Pt K).lookup Pt=none
 |[]=>rfl
 |(b,o)::r=>by
  unfold lessK;by_cases c:(b==Pt)=true
  ·rw[AD c];exact vo r
  ·rw[AB c,BC];have:(Pt==b)=false:=by cases d:Pt==b with|false=>rfl|true=>exact absurd (beq_iff_eq.mpr (eq_of_beq d).symm) c
   rw[this];exact vo r
def mQ{a:Addr}{K:Af}{o:Obj}(e:(lessK Pt K).lookup a=some o):a≠Pt/\K.lookup a=some o:=by
 by_cases c:a=Pt
 ·subst c;rw[vo] at e;cases e
 ·rw[xa c] at e;exact⟨c,e⟩
def lessK_in{K:Af}(X:K.In h):(lessK Pt K).In h:=λa o e=>X a o (mQ e).2
structure JS(K:Af)(Pt:Addr):Prop where
 tab:K.lookup Pt=some (PySem.W.tabObj #[])
 hd:∃c,∀h:Wv,K.In h->PySem.W.CodeHd h c Pt
 st:Pt≠cStatics
section
variable {K:Af}(T:K.lookup Pt=some (PySem.W.tabObj #[]))
include T
def ns_dn{a:Addr}{r:Option<|Wn}(e:PySem.W.nsIn K a x=r):PySem.W.nsIn (lessK Pt K) a x=r:=by
 rw[<-e];unfold PySem.W.nsIn;by_cases c:a=Pt
 ·subst c;rw[vo,T]
 ·rw[xa c]
def lk_dn{a:Addr}{o:Obj}(e:K.lookup a=some o)(n:o.cls≠.none):(lessK Pt K).lookup a=some o:=by
 rw[xa ?_]
 ·exact e
 ·rintro rfl;rw[T] at e;cases e;exact n rfl
def code_dn(e:PySem.W.codeIn K cd q=true):PySem.W.codeIn (lessK Pt K) cd q=true:=by
 unfold PySem.W.codeIn at e ⊢;split at e
 ·rename_i c;by_cases d:c=Pt
  ·subst d;rw[T] at e;simp at e
  ·rw[xa d];exact e
 ·cases e
def Tj{v:Wr}:PySem.W.ownIn (lessK Pt K) x v=PySem.W.ownIn K x v:=by
 unfold PySem.W.ownIn;split
 ·rfl
 ·rename_i a;by_cases d:a=Pt
  ·subst d;rw[vo,T]
  ·rw[xa d];split
   ·exact ns_dn T rfl
   ·rfl
 ·rfl
theorem tN{x:Str}:∀l:Wg,PySem.W.alongIn (lessK Pt K) x l=PySem.W.alongIn K x l
 |[]=>rfl
 |c::r=>by unfold PySem.W.alongIn;rw[Tj T,tN r]
def iZ{v:Wr}:PySem.W.findIn (lessK Pt K) v x=PySem.W.findIn K v x:=by
 unfold PySem.W.findIn;split
 ·rfl
 ·rename_i a;by_cases d:a=Pt
  ·subst d;rw[vo,T]
  ·rw[xa d];split
   ·exact tN T _
   ·rfl
 ·rfl
def xC{a:Addr}(n:a≠Pt):PySem.W.specialIn (lessK Pt K) (.ref a) x=PySem.W.specialIn K (.ref a) x:=by unfold PySem.W.specialIn PySem.W.typeIn;dsimp only;rw[xa n];congr 1;funext t;exact iZ T
def keep_dn{f:Wr}(e:PySem.W.keepIn K f=true):PySem.W.keepIn (lessK Pt K) f=true:=by
 unfold PySem.W.keepIn at e ⊢;split at e
 ·rename_i a;by_cases d:a=Pt
  ·subst d;rw[T] at e;simp at e
  ·rw[xa d,xC T d];exact e
 ·cases e
end
def Tk{P:Wt}{w:Wu}{K:Af}{mb:Wc}{CX:yR}{k:Nat}{a:Addr}{I:Ws}{ns:Wm}
 (KX:K.In I.heap) (TI:JS K Pt) (T:I.heap.Ns mainGlobals mg) (hb:I.heap.Ns builtinsNs mb) (al:∀x:Str,x ≠ "__name__" -> mb x=bootBuiltins x) (a1:I.heap.NoLimit) (hg:I.gens=#[]) (ax:0<I.toks)
 (p:I.heap.get? a=some {cls:=.type "list",data:=.seq vs.toArray}) (hi:IntsAre vs ns) (hl:ns.length<=sizeLine) (hr:wz k callerA)
 (F:∀base:Wv,(lessK Pt K).In base->base.Ns mainGlobals mg->bQ P w (lessK Pt K) mg base CX k fa fd [x] sp) (l:∀(s:Ws) (u:Wr),BindsTo s fd ⟨[u],[]⟩ [(x,u)])
 (ay:∀H:Hp,H Pt=some (.tbl #[])->(H a=none\/∃o xs,H a=some (.frz o<|.lst xs))->aF (lessK Pt K) H a (ns.map V.int)->sp [.ref a] H (λv _=>v=.bl true) λ_ _ _=>False)
 (aL:∀H e s',CX [] H I (λ_ _ _=>False) e s'->False):
 codeAny (model P w) callerA (.call (.ref fa) ⟨[.ref a],[]⟩) (λr s'=>r=.ok (.ret<|.bool true)/\OldK I.heap s'.heap/\s'.os=I.os/\AllBare s'.gens) I:=by
 have rv:=pX hi;have a2:=hi.length;have hP:I.heap.get? Pt=some (PySem.W.tabObj #[]):=KX Pt _ TI.tab;have U:a≠Pt:=λz=>by rw[z,hP] at p;cases p
 have core:∀H:Hp,H Pt=some (.tbl #[])->(∀b,b≠a->b≠Pt->H b=none)->(H a=none\/∃o xs,H a=some (.frz o<|.lst xs))->aF (lessK Pt K) H a (ns.map V.int)->(∀u,H a=some u->x9 P w H I.heap a u)->(H a≠none->K.lookup a=none)->
  codeAny (model P w) callerA (.call (.ref fa) ⟨[.ref a],[]⟩) (λr s'=>r=.ok (.ret<|.bool true)/\OldK I.heap s'.heap/\s'.os=I.os/\AllBare s'.gens) I:=by
  intro H HP Hn HO HS a3 ba;have a4:eE P w H I.heap:=λb u e=>by
   by_cases c:b=a
   ·subst c;exact a3 u e
   ·by_cases d:b=Pt
    ·subst d;rw[HP] at e;cases e;exact hP
    ·rw[Hn b c d] at e;cases e
  have J:∀{b:Addr} {o:Obj},I.heap.get? b=some o->H b=none->(rZ I.heap H).get? b=some o:=λe n=>My e n;have bb:∀{b:Addr} {o:Obj} {t:Array DictEntry} {C:Nat},I.heap.get? b=some o->o.data=.dict t C->H b=none:=λ{b o t C} e d=>by
   refine Hn b (λz=>?_) λz=>?_
   ·subst z;rw[p] at e;cases e;have d':Data.seq vs.toArray _=Data.dict t C:=d;cases d'
   ·subst z;rw[hP] at e;cases e;have d':Data.fields _=Data.dict t C:=d;cases d'
  have g:∀{b:Addr} {m:Wc},I.heap.Ns b m->(rZ I.heap H).Ns b m:=λ{b m} ⟨o,t,C,e,d,r⟩=>⟨o,t,C,J e<|bb e d,d,r⟩;have a5:(lessK Pt K).In (rZ I.heap H):=λb o e=>by
   obtain⟨n,e⟩:=mQ e;refine J (KX b o e) ?_;by_cases c:b=a
   ·subst c;cases q:H b with|none=>rfl|some u=>rw[ba (by rw[q];simp)] at e;cases e
   ·exact Hn b c n
  have hM:Mod (lessK Pt K) mg (rZ I.heap H):=⟨a5,g T,⟨mb,g hb,al⟩,let ⟨mc,h1,h2⟩:=a1;⟨mc,g h1,h2⟩⟩;have e0:F6 P w (lessK Pt K) mg (rZ I.heap H) callerA [] I H:=⟨rfl,hM,λb o e=>Mz e,Nat.le_of_eq<|Mx _ _,trivial,λb hb=>absurd (show b∈([]:List Addr) from hb) (by simp),a4,.of_eq hg,ax⟩;refine codeAny_mono ((F _ a5<|g T).run callerA [] I H ⟨[.ref a],[]⟩ [.ref a] [.ref a] _ _ hr e0 (l I<|.ref a) (.cons rfl .nil)<|ay H HP HO HS) λr s' h=>?_;cases r with
  |error e=>exact(aL H e s' h).elim
  |ok fl=>
   cases fl with
   |next=>exact False.elim h
   |brk=>exact False.elim h
   |cont=>exact False.elim h
   |ret u=>
    obtain⟨v,H',os,bare,un,j,r',q,_⟩:=h;have q':v=.bl true:=q;subst q';obtain rfl:u=Value.bool true:=r';obtain⟨more,em⟩:=un.tbls Pt _ HP;have gP:s'.heap.get? Pt=some (PySem.W.tabObj<|#[]++more):=j Pt _ em;have kp:∀b o,b≠Pt->I.heap.get? b=some o->s'.heap.get? b=some o:=λb o n e=>by
     have ac:H b=none->s'.heap.get? b=some o:=λz=>un.keep b o e z (by intro z;exact absurd (show b∈([]:List Addr) from z) (by simp)) (by simp);by_cases c:b=a
     ·subst c;rcases HO with z|⟨ob,xs,z⟩
      ·exact ac z
      ·have z2:=un.frzs _ _ _ z;obtain⟨e1,_⟩:=a4 _ _ z;obtain⟨e2,_⟩:=j _ _ z2;rw[e] at e1;cases e1;exact e2
     ·exact ac<|Hn b c n
    obtain⟨c,hc⟩:=TI.hd;refine⟨rfl,⟨λb o e=>?_,λb o e=>?_⟩,os,bare⟩
    ·by_cases n:b=Pt
     ·subst n;rw[hP] at e;cases e;exact .inr<|.inl ⟨((hc _ KX).tab hP).isCodeTable,rfl,#[],more,rfl,gP⟩
     ·exact .inl<|kp b o n e
    ·by_cases n:b=Pt
     ·subst n;exact⟨_,gP⟩
     ·exact⟨o,kp b o n e⟩
 cases hk:K.lookup a with
 |some o=>
  have e:=KX a o hk;rw[p] at e;cases e;refine core (λb=>if b=Pt then some (.tbl #[]) else none) (AD rfl) (λb _ n=>AB n) (.inl<|AB U) (.inr ⟨_,vs.toArray,_,(xa U K).trans hk,rfl,rfl,rfl,by rw[Ap,a2];exact hl,by simpa using rv⟩) (λu z=>by have z':=(AB U).symm.trans z;cases z') λz=>absurd (AB U) z
 |none=>
  refine core (λb=>if b=a then some (.frz {cls:=.type "list",data:=.seq vs.toArray}<|.lst<|ns.map V.int) else if b=Pt then some (.tbl #[]) else none) ((AB<|AH U).trans<|AD rfl) (λb n1 n2=>(AB n1).trans<|AB n2) (.inr ⟨_,_,AD rfl⟩) (.inl<|.inr ⟨_,AD rfl⟩) (λu z=>?_) λ_=>hk;have z':=(AD rfl).symm.trans z;cases z';exact⟨p,by rw[Ae];exact hl,vs,_,rv,p⟩
def walk_ofZT{l:PySem.W.OpenLaw}{k:Nat}{q:Wt}{loose:Wj}{XP:(Wc)->Wv->Prop}{as0:List Addr}{N t:Nat}{d:DefRec}{K:Params->Af}{CX:yR}{sp:Af->Addr->Sp}
 (hn:l.most=some n) (p:n<=sizeLine) (r:d.params.defaults=[]) (hr:wz k callerA) (ek:∀P,as0=(K P).map (·.1)) (C:0<t)
 (F:∀(w:Wu) (mg:Wc) (fa:Addr) (h:Wv),(K w.params).In h->h.Ns mainGlobals mg->mg d.name=some (.ref fa)->
  ∃Pt:Addr,JS (K w.params) Pt/\∃fd:FuncData,(∀(s:Ws) (u:Wr),BindsTo s fd ⟨[u],[]⟩ [(x,u)])/\
   ∀base:Wv,(lessK Pt<|K w.params).In base->base.Ns mainGlobals mg->bQ l.prog w (lessK Pt<|K w.params) mg base CX k fa fd [x] (sp (lessK Pt<|K w.params) Pt))
 (a1:∀(K:Af) (Pt:Addr) (H:Hp) (a:Addr) (ns:Wm),ns.length<=n->H Pt=some (.tbl #[])->(H a=none\/∃o xs,H a=some (.frz o<|.lst xs))->aF K H a (ns.map V.int)->sp K Pt [.ref a] H (λv _=>v=.bl true) λ_ _ _=>False)
 (a2:∀(H:Hp) (s:Ws) (e:Wr) (s':Ws),CX [] H s (λ_ _ _=>False) e s'->False):
 PySem.W.WalkX q loose XP (PySem.W.X.obsZ as0) (PySem.W.X.valZ K N t) l.row.toRowW d [] (λf vs=>PySem.call f vs):=by
 refine Att.attach_callZ hn r ek C λw a4 U mg mb fa o pm cd a5 a vs ns G KX tk ho hd ac a3 j J I hg=>?_;obtain⟨Pt,TI,fd,hb,hF⟩:=F w mg fa _ KX G.T.g a3;exact Tk KX TI G.T.g G.T.b G.T.builtins G.T.nolimit hg tk j J (AM I p) hr hF hb (λH hP hO hS=>a1 _ Pt H a ns I hP hO hS) λH e s'=>a2 H U e s'
end L2
namespace L3
open PySem L2
def top_startT :∀(K:Af) (Pt:Addr) (H:Hp) (a:Addr) (ns:Wm),ns.length<=63->H Pt=some (.tbl #[])->(H a=none\/∃o xs,H a=some (.frz o<|.lst xs))->aF K H a (ns.map V.int)->spTopT q K Pt [.ref a] H (λv _=>v=.bl true) λ_ _ _=>False:=by
 intro K Pt H a ns I J U g;refine⟨a,ns,rfl,?_,I,J,λ_=>rfl⟩;rcases g with(h|⟨o,h⟩)|h
 ·rcases U with z|⟨o,xs,z⟩<;>rw[h] at z<;>cases z
 ·exact .inl ⟨o,h⟩
 ·exact .inr h
structure DefInT(K:Af)(x:Str)(st:Stmt)(Pt:Addr):Prop where
 ex:∃(f:Addr) (kV hQ pm:Wr) (an:Option Addr) (eW ct:Wr),PySem.W.nsIn K mainGlobals x=some (some<|.ref f)/\HB K x x st f (PySem.W.fnOf x x (kc st) (jv st) (qw st) .none kV hQ pm an eW ct) Pt
def DefInT.use{K:Af}(D:DefInT K x st Pt)(X:K.In h)(G:h.Ns mainGlobals mg)
 (I:∀(kV hQ pm:Wr) (an:Option Addr) (eW ct:Wr) (us:Wg),us.length=ps.length->bindArgs (PySem.W.fnOf x x (kc st) (jv st) (qw st) .none kV hQ pm an eW ct) ⟨us,[]⟩=pure (ps.zip us)):
 ∃f fd,HB K x x st f fd Pt/\dw K fd ps []/\mg x=some (.ref f):=by
 obtain⟨f,kV,hQ,pm,an,eW,ct,a,F⟩:=D.ex;exact⟨f,_,F,.all<|I kV hQ pm an eW ct,Bq X G a⟩
end L3
namespace L2
open PySem PySem.Spec PyProof.Rows
section
variable {hE:St}
def qt.ren(M:Wj)(I:qt X pins σ H s)(J:M.length=X.N.length)(hs:hE.length=σ.length)(h:∀(j:Nat) v,hE[j]?=some (some v)->σ[j]?=some (some v)/\X.N[j]?=M[j]?):qt {X with N:=M} pins hE H s:=by obtain⟨m,U,l⟩:=I.loc;have o:=I.ok;exact {ok:=⟨o.mod,o.kind,o.glob,o.blt,o.above,o.inj,o.has,o.cab,o.hd,o.frames,o.stk,o.exf,o.bs,o.bsz,o.noex,o.exfs,o.funs,o.frf⟩,os:=I.os,bare:=I.bare,base:=I.base,cell:=I.cell,free:=I.free,freeC:=I.freeC,pin:=I.pin,hok:=I.hok,tk:=I.tk,len:=(by rw[hs,I.len];exact J.symm),loc:=⟨m,U,λi x v g p r=>by obtain⟨a,b⟩:=h i v p;exact l i x v (b.trans g) a r⟩}
def uu(h:(σ.set i none)[j]?=some (some v)):j≠i/\σ[j]?=some (some v):=by
 by_cases c:i=j
 ·subst c;rw[Dp] at h;cases e:σ[i]? with|none=>rw[e] at h;cases h|some o=>rw[e] at h;cases h
 ·rw[A5 c] at h;exact⟨AH c,h⟩
def To(i:Nat)(t:TS):TS:=λD σ H=>t {nx:=λhE H'=>D.nx (hE.set i none) H',rt:=D.rt,bk:=λhE H'=>D.bk (hE.set i none) H',ct:=λhE H'=>D.ct (hE.set i none) H'} (σ.set i none) H
def Tp{t:TS}(h:PS {X with N:=X.N.set i x} st t):PS X st (To i t):=by
 intro g s p H D I z;have C:qt {X with N:=X.N.set i x} g (p.set i none) H s:=I.ren _ (by rw[Bs]) (by rw[Bs]) λj v e=>by obtain⟨a,b⟩:=uu e;exact⟨b,by rw[A5<|AH a]⟩
 refine wr (h g s _ H _ C z) λf o q=>?_;have back:∀{U:St} {l:Hp},qt {X with N:=X.N.set i x} g U l o->qt X g (U.set i none) l o:=λ{U l} J=>
  qt.ren (X:={X with N:=X.N.set i x}) X.N J (by show X.N.length=(X.N.set i x).length;rw[Bs]) (by rw[Bs]) λj v e=>by obtain⟨a,b⟩:=uu e;exact⟨b,by show(X.N.set i x)[j]?=_;rw[A5<|AH a]⟩
 cases f with
 |next=>obtain⟨U,l,J,q⟩:=q;exact⟨_,l,back J,q⟩
 |brk=>obtain⟨U,l,J,q⟩:=q;exact⟨_,l,back J,q⟩
 |cont=>obtain⟨U,l,J,q⟩:=q;exact⟨_,l,back J,q⟩
 |ret u=>obtain⟨v,U,l,J,r,q⟩:=q;exact⟨v,_,l,back J,r,q⟩
def Tq(i j k:Nat)(ta:TA):TS:=λD σ H=>ta σ H λvs H1=>∃u v w,vs=[u,v,w]/\D.nx (((σ.set i<|some u).set j<|some v).set k<|some w) H1
def Ts{k:Nat}{y z:Str}{a b:Expr}{ta:TA}{px C pt:Pos}{kt k2 U}(hc:X.calm=true)(hN:X.N.Nodup)(hi:X.N[i]?=some x)(hj:X.N[j]?=some y)(hk:X.N[k]?=some z)(T:i≠j)(a1:i≠k)(a2:j≠k)
 (hx:X.env.scope.names.lookup x=some .local) (hy:X.env.scope.names.lookup y=some .local) (hz:X.env.scope.names.lookup z=some .local) (ha:PA X [a,b,c] ta)
 (hw:swappedStores [.Tuple [.Name x px,.Name y py,.Name z C] kt pt] (.Tuple [a,b,c] k2 U) X.env=pure (some [x,y,z]))
 (hs:swapsWithSole [.Tuple [.Name x px,.Name y py,.Name z C] kt pt] (.Tuple [a,b,c] k2 U) pos.line X.env=pure false:=by rfl):
 PS X (.Assign [.Tuple [.Name x px,.Name y py,.Name z C] kt pt] (.Tuple [a,b,c] k2 U) pos) (Tq i j k ta):=by
 intro J s σ H D I h;rw[exec_Assign_arm];refine Aa<|wpAny_standAt ?_;rw[hs];refine Aa<|Aj ?_;rw[AB (by decide)];refine Aa<|Tuple_<|wr (ha _ J s σ H _ I h) λus g ⟨vs,H1,I1,r1,q1⟩=>?_;obtain⟨v,w,v3,e1,q1⟩:=q1;subst e1;obtain⟨l,r,t,rfl,rv,a3,r3⟩:∃l r t,us=[l,r,t]/\zq v l/\zq w r/\zq v3 t:=by
  cases r1 with
  |cons p q=>
   cases q with
   |cons p' q'=>
    cases q' with
    |cons a4 a5=>
     cases a5;exact⟨_,_,_,rfl,p,p',a4⟩
 refine Bo ?_ (by show 3<=sizeLine;decide);have I2:qt X J σ H1 {g with heap:=g.heap.push {cls:=.type "tuple",data:=.seq [l,r,t].toArray}}:=I1.kept (t':=g.toks) λb o e=>wh _ e;rw[hw];refine Aa<|Aj ?_;show wpAny (model X.prog X.w) X.A (do rule "assign.swapped-stores";let items <-unpackItems (.ref g.heap.objs.size) 3 none;assignInOrder [λv=>bindName X.env z v,λv=>bindName X.env y v,λv=>bindName X.env x v] items.reverse;pure Flow.next) _ _ _;refine Aa<|Bw<|Aa<|unpackItems_tuple (items:=#[l,r,t]) (I.ok.hd hc) (IsTup.new g.heap _) λh' ac=>?_;have I3:=I2.kept (h':=h') (t':=g.toks) λb o e=>ac b o (A3<|xT e) e;show wpAny _ _ (assignInOrder [λv=>bindName X.env z v,λv=>bindName X.env y v,λv=>bindName X.env x v] [t,r,l] >>= λ_=>pure Flow.next) _ _ _;refine Aa<|assignInOrder_cons<|wpAny_bindName<|ag I3 hN hk (.inl hz) r3 (λs2 I4=>?_)<|.inr hz;refine assignInOrder_cons<|wpAny_bindName<|ag I4 hN hj (.inl hy) a3 (λs3 I5=>?_)<|.inr hy;refine assignInOrder_cons<|wpAny_bindName<|ag I5 hN hi (.inl hx) rv (λs4 I6=>assignInOrder_nil<|Aj ?_)<|.inr hx;rw[Eg _ _<|AH T,Eg _ _<|AH a1,Eg _ _<|AH a2] at I6;exact⟨_,H1,I6,q1⟩
end
end L2
namespace L3
open PySem L2
def iK:j9->Nat->j9
 |[],_=>[]
 |_::r,0=>none::r
 |o::r,i+1=>o::iK r i
theorem u9:∀(τ:j9) (i:Nat),iK τ i=τ.set i none
 |[],_=>rfl
 |_::_,0=>rfl
 |o::r,i+1=>by unfold iK;rw[u9 r i];rfl
def ym(i:Nat)(t:bB)(D:xn)(τ:j9)(L:qk):Prop:=t {nx:=λI L'=>D.nx (iK I i) L',rt:=D.rt,bk:=λI L'=>D.bk (iK I i) L',ct:=λI L'=>D.ct (iK I i) L'} (iK τ i) L
def xb.forget(h:xb G H σ τ)(i:Nat):xb G H (σ.set i none) (iK τ i):=by
 rw[u9];refine⟨by rw[Bs,Bs];exact h.len,λj y e=>?_⟩;by_cases c:i=j
 ·subst c;rw[Dp] at e;cases I:τ[i]? with|none=>rw[I] at e;cases e|some o=>rw[I] at e;cases e
 ·rw[A5 c] at e ⊢;exact h.get j y e
def r6(x:Str){t:bB}(h:QS {X with N:=X.N.set i x} st t):QS X st (ym i t):=
 EW (Tp h) λD T H p L D3 r C z k=>⟨iK p i,L,_,r.forget i,C,z,
  ⟨λU g j l o I J q=>k.nx _ g _ l o (I.forget i) J q,k.rt,λU g j l o I J q=>k.bk _ g _ l o (I.forget i) J q,λU g j l o I J q=>k.ct _ g _ l o (I.forget i) J q⟩⟩
def Tt(i j k:Nat)(ta:eB)(D:xn)(τ:j9)(L:qk):Prop:=ta τ L λys L'=>match ys with
 |[u,v,w]=>D.nx (ak (ak (ak τ i u) j v) k w) L'
 |_=>False
def Tu{k:Nat}{y z:Str}{a b:Expr}{tr:eB}{px J pt:Pos}{k2:Nat}{I:Pos}(hc:X.calm=true)(hN:X.N.Nodup)(hi:X.N[i]?=some x)(hj:X.N[j]?=some y)(hk:X.N[k]?=some z)(U:i≠j)(g:i≠k)(l:j≠k)
 (lx:X.env.scope.names.lookup x=some .local) (ly:X.env.scope.names.lookup y=some .local) (lz:X.env.scope.names.lookup z=some .local) (h:QA X [a,b,c] tr)
 (h1:swappedStores [.Tuple [.Name x px,.Name y py,.Name z J] kt pt] (.Tuple [a,b,c] k2 I) X.env=pure (some [x,y,z])) (h2:swapsWithSole [.Tuple [.Name x px,.Name y py,.Name z J] kt pt] (.Tuple [a,b,c] k2 I) pos.line X.env=pure false:=by rfl):
 QS X (.Assign [.Tuple [.Name x px,.Name y py,.Name z J] kt pt] (.Tuple [a,b,c] k2 I) pos) (Tt i j k tr):=EW (Ts hc hN hi hj hk U g l lx ly lz h h1 h2) λD σ H C L D3 T rl z kk=>
 ⟨C,L,_,T,rl,z,λvs H1 ys L1 t1 o p r=>by
  split at r
  ·rename_i u v w;obtain⟨x1,a1,rfl,r1,x2,a2,rfl,r2,x3,t,rfl,r3,e3⟩:=p;cases (show t=[] from e3);exact⟨x1,x2,x3,rfl,kk.nx _ H1 _ L1 t1 (show xb _ _ _ (ak (ak (ak C i u) j v) k w) by rw[wc,wc,wc];exact(((T.ts t1).set r1).set r2).set r3) o r⟩
  ·exact r.elim⟩
def i7:bootBuiltins "min"=some (.builtin "min"):=by decide +kernel
def Tv(x:Y)(lo hi:Wo)(L:qk)(Q:YK):Prop:=match x with
 |.tup ys=>¬(HT.sIx ys.length 0 lo=0/\HT.sIx ys.length ys.length hi=ys.length)/\Q (.tup<|oS ys lo hi) L
 |_=>False
def Tw(K:Af)(P:Wt)(w:Wu)(U:X.K=K:=by rfl)(g:X.prog=P:=by rfl)(hw:X.w=w:=by rfl):sM X (Gb ⟨K,P,w⟩ Tv):=by
 subst U g hw;refine sM.imp Ou λx lo J H Q ⟨y,L,Q3,j,l,z,k⟩=>?_;cases y with
 |tup o=>
  obtain⟨a,t,e,sq,r⟩:=j;obtain⟨C,T⟩:=z;exact⟨a,t,e,sq,by rw[<-r.length];exact C,λp I=>k _ _ (.tup<|oS o lo J) L (ET I) (l.skip I) ⟨p,_,rfl,.inl<|.inl zu,(rq r lo J).ts<|ET I⟩ T⟩
 |_=>exact z.elim
def vL{a:Addr}{keep:qk->Prop}(h:∀H L,zy H₀ H->zr G H L->keep L->∃xs,dz G.K H a xs/\xm G H ys xs):gF G H₀ (GF G.K a) ys keep where
 go:=λi H L t I J U=>by
  obtain⟨xs,sq,r⟩:=h H L t I J;have:i<xs.length:=by rw[<-r.length];exact U
  exact⟨xs,xs[i],sq,Ag this⟩
 yld:=λi H L x o y t I J g ⟨e,f⟩=>by subst e;obtain⟨xs,sq,r⟩:=h _ L t I J;obtain⟨p,j,l⟩:=r.get g;have:=f xs sq;rw[j] at this;cases this;exact⟨ES _,I,l⟩
 stop:=λH L t I J=>by obtain⟨xs,sq,r⟩:=h H L t I J;exact⟨xs,sq,by rw[r.length];exact An _⟩
def Tx(h:QE X e te):QI X tg e (PV te):=PI.imq (Nw h) λσ H R j L R3 l o z k=>by
 refine⟨j,L,_,l,o,z,λv p y C T I J U=>?_⟩;cases y with
 |tup ys=>
  obtain⟨a,g,e,sq,r⟩:=J;exact⟨a,e,⟨g,sq⟩,k _ p ys (λ_=>True) C T I (vL λH L t _ _=>⟨g,dz.ts sq t,r.ts t⟩) U⟩
 |_=>exact U.elim
def Tz{k:Nat}(I:wz k A):A.depth+3<recursionLimit:=by have:=I.dp;omega
abbrev lamQ:Str:="_law_order.<locals>.<lambda>"
open PySem L2 Words
def sE(Pt:Addr)(I:vh):bB:=(jm (xz (fh ji)<|qo 2)
 (jm (uY (vG<|qg 0) (fC 2<|jx (qo 3)<|jx (qo 4) cQ) (jm (xz (xu eF (jt I<|qm (qg 1)<|eG (qg 3)<|k8 39373)<|k8 40)<|qo 5)
 (nQ (aR (lL (yB<|oE true<|qg 4)<|oO (rD 4)<|k8 3) (xz (xu fi (xu fi (qg 5)<|k8 1)<|pQ zO<|qm (xu hU (qg 2)<|e9 4 1)<|qm (xu hU (qg 2)<|e9 4 2) ji)<|qo 5) dE)
 (vi<|iQ xl (qg 2)<|dI<|qg 5))))
 (eL<|JR Pt lamQ 2<|uN<|rD 0)))
def oP(ks:List<|WD):Prop:=∀(p:Nat) (e:Bool) (i j:Nat),ks[p]?=some (some<|.nd e i j)->i<p/\j<p
def zN(ks:List<|WD)(rks:Wm):Prop:=∀(p:Nat) (e:Bool) (i j:Nat),p<rks.length->ks[p]?=some (some<|.nd e i j)->rks.getD i 0<rks.getD p 0/\rks.getD j 0<rks.getD p 0
def nI{r:Int}(h:i<rks.length):(rks++[r]).getD i 0=rks.getD i 0:=by rw[Bl,Bl,Az h]
def TB{r:Int}:(rks++[r]).getD rks.length 0=r:=by rw[Bl,AF<|An _,Dv];rfl
def zN.snoc{ks:List<|WD}{r:Int}{k:WD}(ok:oP ks)(h:zN ks rks)(U:ks[rks.length]?=some k)(g:∀e i j,k=some (.nd e i j)->rks.getD i 0<r/\rks.getD j 0<r):zN ks (rks++[r]):=by
 intro p e i j I J;obtain⟨l,o⟩:=ok p e i j J;rw[Ac] at I;have I:p<rks.length+1:=I;rw[nI (show i<rks.length by lia),nI (show j<rks.length by lia)];by_cases c:p<rks.length
 ·rw[nI c];exact h p e i j c J
 ·have:p=rks.length:=by lia
  subst this;rw[TB];exact g e i j<|AZ<|U.symm.trans J
def dP(ks:List<|WD)(qs:Wi):Prop:=qs.Pairwise λx y=>∀e i j,ks[x]?=some (some<|.nd e i j)->y≠i/\y≠j
def TC{ks:List<|WD}(ok:oP ks)(h:zN ks rks)(I:rks.length=ks.length)(hw:qs.Pairwise λi j=>rks.getD i 0*1000000+(i:Int)<=rks.getD j 0*1000000+(j:Int)):dP ks qs:=by refine hw.imp λ{x y} z e i j ex=>?_;obtain⟨J,U⟩:=ok x e i j ex;obtain⟨g,l⟩:=h x e i j (by rw[I];exact zd ex) ex;exact⟨λc=>by subst c;lia,λc=>by subst c;lia⟩
inductive gh(Pt:Addr)(ys:List Y)(L:qk)(Q:YK):Prop
 |mk:∀a,∀ks:List (WD),∀s:Int,(ys=[.ref a,.int s])->(L a=some (.lst<|jw ks))->(oP ks)->(ks.length<=127)->(L Pt=some (.tb lamQ))->(∀D qs,L D=none->qs.Perm (List.range ks.length)->dP ks qs->Q (.ref D) (qi L D<|.lst<|nY qs))->gh Pt ys L Q
def tI(h:i<rks.length):(rks.map Y.int)[i]?=some (.int<|rks.getD i 0):=by rw[Al,Bl,Ag h];rfl
def TD :∀ys L Q,gh Pt ys L Q->xi (sE Pt cJ) 6 ys L Q:=by
 rintro ys L Q ⟨a,ks,s,rfl,ha,ok,hz,hP,q⟩;have big:=a_;intro J I;have s0:qh L (qi L J<|.lst []):=By I;have C:a≠J:=kw ha I;refine x4 (s0 _ _ ha) λkeep kp=>aV ⟨λi τ U=>∃rks:Wm,∃c3 c4 c5,τ=[some<|Y.ref a,some<|.int s,some<|Y.ref J,c3,c4,c5]/\U=qi L J (.lst<|rks.map Y.int)/\rks.length=i/\zN ks rks,⟨[],_,_,_,rfl,rfl,rfl,λp _ _ _ T=>by cases T⟩,?_,?_,?_⟩
 ·rintro i τ U ⟨rks,c3,c4,c5,rfl,rfl,_⟩;exact kp _ (by rw[qc C,qc C])
 ·rintro i y τ U hy ⟨rks,c3,c4,c5,rfl,rfl,g,l⟩;obtain⟨z,ez,rfl⟩:=gc hy;rw[Al] at ez;obtain⟨k,ek,rfl⟩:=Aq.mp ez;have hi:=zd ek;refine⟨s,i,39373,rfl,by exact AV _,by omega,by decide,by decide,λv h0 h1=>?_⟩;have m0:(0:Int)<=v % 40:=Di _ (by decide);have a3:(rks.map Y.int).length=i:=by rw[Ae];exact g
  refine⟨show(0:Int)<40 by decide,λa4 U=>∃r:Int,a4=[some<|Y.ref a,some<|.int s,some<|Y.ref J,some<|.int (i:Nat),some<|cA k,some<|.int r]/\U=qi L J (.lst<|rks.map Y.int)/\∀e i j,k=some (.nd e i j)->rks.getD i 0<r/\rks.getD j 0<r,?_,?_⟩
  ·cases k with
   |none=>exact⟨v % 40,rfl,rfl,λe i j z=>by cases z⟩
   |some k=>
    cases k with
    |lf t n=>exact⟨v % 40,rfl,rfl,λe i j z=>by cases z⟩
    |nd e p1 p2=>
     obtain⟨l1,l2⟩:=ok _ _ _ _ ek;have g1:=x5<|tI (rks:=rks) (i:=p1) (by lia);have g2:=x5<|tI (rks:=rks) (i:=p2) (by lia);refine qa q9<|qf g1 ?_;refine qa q9<|qf g2 ?_;refine⟨v % 40+1+max (rks.getD p1 0) (rks.getD p2 0),rfl,rfl,λe' i' j' z=>?_⟩;cases z;have a1:rks.getD p1 0<=max (rks.getD p1 0) (rks.getD p2 0):=Int.le_max_left ..;have a2:rks.getD p2 0<=max (rks.getD p1 0) (rks.getD p2 0):=Int.le_max_right ..;constructor<;>lia
  ·rintro a4 U ⟨r,rfl,rfl,hr⟩;refine qa q9 (qj q9 ⟨by rw[a3];exact big _ (by lia),?_⟩);refine⟨_,ER _,rks++[r],_,_,_,rfl,?_,by rw[Ac,g];rfl,zN.snoc ok l (by rw[g];exact ek) hr⟩;rw[vj,Ax];rfl
 ·rintro τ U ⟨rks,c3,c4,c5,rfl,rfl,g,l⟩;rw[fY,Ae] at g;have s1:qh L (qi L J<|.lst<|rks.map Y.int):=By I;refine qa (s1 _ _ ha) ?_;have lo:(jw ks).length=ks.length:=Ae ..;refine⟨⟨AV _,by rw[lo];lia⟩,λp T=>qj q9 ?_⟩;have a5:J≠p:=kw q9 T;have ac:Pt≠p:=kw (s1 _ _ hP) T;have al:Pt≠J:=kw hP I;refine⟨ks.length,rks,J,by rw[Cw,lo],rfl,(qc a5).trans q9,g,hz,(qc ac).trans<|(qc al).trans hP,λD qs hD pm pw=>?_⟩;have ax:=vf hD;have ay:=vf ax;refine⟨qi L D<|.lst<|nY qs,λb o e=>?_,q D qs ay pm<|TC ok l g pw⟩;by_cases c:b=D
  ·subst c;rw[q9] at e ⊢;exact e
  ·rw[qc c] at e ⊢;rw[qc (λz=>by subst z;rw[vf T] at e;cases e),qc (λz=>by subst z;rw[I] at e;cases e)];exact e
def uI:RD "_law_name" jU 0 ["_law_seed","_law_which","_law_letters","_law_size","_law_place","_law_base","_law_sign"] (λ_=>True):=⟨_,λV B c _ _ _ _ _ _ _ J hN I=>(qb (ao (i:=2) hN rfl (Or.inr rfl) je)<|qb (S_ 3 hN<|ql js qd<|ql j7 (qv 0) qd)<|qb (S_ 4 hN<|ql j7 (ql vk (qv 0) qd)<|qv 3)<|qb (S_ 5 hN<|QQ je<|jn<|dD ["_law_k"] (EV (by rfl)) rfl (bD rfl B.bh<|jn qd) (m6 7) (λ_ _ _ _=>cD) λ_ _ _ _=>(I_ (qv 2)<|ql j7 (ql js (ql vk (qv 0) qd)<|ql qL qd<|qv 7) qd))<|qb (zj (E_ I (ql j7 (ql vk (qv 0) qd) qd) qd) (qe<|qu<|cN (uW _ _ _) (qv 5) iA<|dh<|ql js qd<|ql j7 (ql js (qv 1)<|qv 0) qd) ze)<|qb (S_ 6 hN<|I_ (qv 2)<|ql j7 (ql js (ql js (ql vk (qv 0) qd)<|ql qL qd<|qv 4)<|qv 1) qd)<|qe<|qu<|ql js (ql js (cN (uW _ _ _) (qv 5) iA<|dh<|qv 4)<|qv 6)<|cN (uW _ _ _) (qv 5) (dh<|ql js (qv 4) qd)<|dh<|qv 3)⟩
def fP(i:Int):Nat:=97+(i % 26).toNat
def yD(i:Int):eI ("abcdefghijklmnopqrstuvwxyz" : Str).cps.toList (i % 26)=some (fP i):=by
 obtain⟨n,I⟩:∃n:Nat,i % 26=n:=⟨(i % 26).toNat,by lia⟩;have h:n<26:=by lia
 unfold fP;rw[I];have key:∀n,n<26->("abcdefghijklmnopqrstuvwxyz" : Str).cps.toList[n]?=some (97+n):=by decide +kernel
 exact x5<|key n h
def yq(i:Int):97<=fP i/\fP i<=122:=by unfold fP;lia
def du(s:Int):Wi:=(List.range 8).map λk:Nat=>fP<|s / 64+3*(k:Int)
def nN(s:Int):(du s).length=8:=by unfold du;simp
def nX(s:Int):∀c∈du s,97<=c/\c<=122:=λc I=>by obtain⟨k,_,rfl⟩:=Bg.mp I;exact yq _
def pF(s:Int):Nat:=(s / 8 % (1+s % 8)).toNat
def szN(s:Int):Nat:=(1+s % 8).toNat
def JT(s:Int):pF s<szN s/\szN s<=8/\s / 8 % (1+s % 8)=(pF s:Int)/\1+s % 8=(szN s:Int):=by
 have h0:0<1+s % 8:=by lia
 have h1:0<=s / 8 % (1+s % 8):=Di _ (by lia);have h2:s / 8 % (1+s % 8)<1+s % 8:=Dk _ h0;unfold pF szN;lia
def a8(s w:Int):Wi:=
 if s / 64 % 3=1 then(du s).take (1+(w+s) % 3).toNat
 else((du s).take (pF s)++[fP<|s / 64+3*(pF s:Int)+w])++((du s).drop<|pF s+1).take (szN s-(pF s+1))
def uo(s w:Int):fD (n_<|a8 s w):=by
 have I:(n_<|a8 s w).length=(a8 s w).length:=by rw[<-Txs.len_list];show(a8 s w).toArray.toList.length=_;simp
 have J:(n_<|a8 s w).cps.toList=a8 s w:=by show(a8 s w).toArray.toList=_;simp
 have U:=nN s;obtain⟨g,j,_,_⟩:=JT s;refine⟨?_,?_,?_⟩
 ·rw[I];unfold a8;split
  ·rw[AX];omega
  ·rw[Ac,Ac];simp;simp +arith only
 ·rw[I];unfold a8;split
  ·rw[AX];omega
  ·rw[Ac,Ac,AX,AX,BS];simp;lia
 ·rw[J];intro c h;unfold a8 at h;split at h
  ·exact nX s c<|BH h
  ·rcases Ak.mp h with h|h
   ·rcases Ak.mp h with h|h
    ·exact nX s c<|BH h
    ·rw[Ao.mp h];exact yq _
   ·exact nX s c<|CV<|BH h
inductive iX(ys:List Y)(L:qk)(Q:YK):Prop
 |mk:∀s w:Int,(ys=[.int s,.int w])->(Q (.str<|n_<|a8 s w) L)->iX ys L Q
def TF{m:Nat}(h:m<=n)(h2:n<=x.length):(Txt.slice x (some (m:Int))<|some (n:Int)).cps.toList=(x.cps.toList.drop m).take (n-m):=by have e:=pO x (some (m:Int))<|some (n:Int);rw[HT.sIx_nat,HT.sIx_nat,BY h2,BY<|AM h h2] at e;exact e
def i9(h:n<=x.length):(Txt.slice x none<|some (n:Int)).cps.toList=x.cps.toList.take n:=by have e:=pO x none<|some (n:Int);rw[HT.sIx_nat,HT.sIx_none,EL,Nat.sub_zero,BY h] at e;exact e
def TH:∀ys L Q,iX ys L Q->xi uI.1 7 ys L Q:=by
 rintro ys L Q ⟨s,w,rfl,q⟩;have j:0<1+s % 8:=by lia
 refine⟨(by decide:(0:Int)<8),⟨by decide,by decide⟩,j,⟨by decide,by decide⟩,?_⟩;show xS (ww 0 8) _ _ _ _ _ _ _ _;refine wT (m:=8) (λi zs=>zs=((List.range i).map λk:Nat=>Y.str ⟨#[fP<|s / 64+3*(k:Int)]⟩)) (by decide) rfl ?_ ?_
 ·rintro i _ hi rfl;have I:=yD<|s / 64+3*(0+(i:Int));refine⟨⟨by decide,by decide⟩,.inl ⟨by decide,by decide⟩,(by decide:(0:Int)<26),by decide +kernel,?_⟩;walk_at "w";rw[I];refine⟨_,ER _,rfl,?_⟩;rw[EI,Ax,show(0:Int)+(i:Int)=(i:Int) by simp +arith only];rfl
 ·rintro _ rfl p t;have e0:((List.range 8).map λk:Nat=>Y.str ⟨#[fP<|s / 64+3*(k:Int)]⟩)=((du s).map λc=>(⟨#[c]⟩:Str)).map Y.str:=by unfold du;rw[BK,BK];rfl
  rw[e0];refine qj q9 ⟨(du s).map λc=>(⟨#[c]⟩:Str),rfl,?_,?_⟩
  ·have J:∀U:Wi,((U.map λc=>(⟨#[c]⟩:Str)).map (·.length)).sum=U.length:=λU=>by induction U with|nil=>rfl|cons c r ih=>rw[AA,AA,DH,ih,AL];show 1+r.length=_;exact Nat.add_comm _ _
   rw[J,nN];show 8+_*0<=_;rw[Nat.mul_zero];decide
  ·have g:=SG<|du s;have l:(Txt.join ""<|(du s).map λc=>(⟨#[c]⟩:Str)).length=8:=by rw[<-Txs.len_list,g,nN]
   generalize Txt.join "" ((du s).map λc=>(⟨#[c]⟩:Str))=base at l g;obtain⟨p1,p2,o,C⟩:=JT s;refine⟨⟨by decide,by decide⟩,(by decide:(0:Int)<3),?_⟩;refine zo (λc=>?_) λc=>?_
   ·have e:1+(w+s) % 3=((1+(w+s) % 3).toNat:Int):=by lia
    refine⟨(by decide:(0:Int)<3),cz (by lia),eY (By t) ?_⟩;have es:=i9 (x:=base) (n:=(1+(w+s) % 3).toNat) (by lia);have eq:Txt.slice base none (some<|1+(w+s) % 3)=n_ (a8 s w):=by rw[e];refine(yr _).symm.trans ?_;rw[es,g];unfold a8;rw[AD c]
    rw[<-eq] at q;exact q
   ·have I:=yD<|s / 64+3*(s / 8 % (1+s % 8))+w;refine⟨⟨by decide,by decide⟩,.inl ⟨by decide,by decide⟩,(by decide:(0:Int)<26),by decide +kernel,?_⟩;walk_at "w";rw[I];have T:=i9 (x:=base) (n:=pF s) (by lia);have s2:=TF (x:=base) (m:=pF s+1) (n:=szN s) (by assumption) (by lia);have l1:(Txt.slice base none<|some (pF s:Int)).length=pF s:=by rw[<-Txs.len_list,T,AX,Txs.len_list];lia
    have l2:(Txt.slice base (some ((pF s+1:Nat):Int))<|some (szN s:Int)).length<=8:=by rw[<-Txs.len_list,s2,AX];lia
    refine⟨cz (by lia),?_⟩;refine⟨cz (by rw[o,l1];show pF s+1<=1000;lia),?_⟩;refine⟨cz (by lia),?_⟩;have J:((pF s:Int)+1)=((pF s+1:Nat):Int):=by rfl
    have l3:(Txt.slice base none (some (pF s:Int))++(⟨#[fP<|s / 64+3*(s / 8 % (1+s % 8))+w]⟩:Str)).length=pF s+1:=by rw[Et,l1];rfl
    refine⟨cz ?_,eY (By t) ?_⟩
    ·rw[o] at l3 ⊢;rw[l3,J,C];lia
    ·have eq:(Txt.slice base none (some (pF s:Int))++(⟨#[fP<|s / 64+3*(pF s:Int)+w]⟩:Str))++Txt.slice base (some ((pF s+1:Nat):Int)) (some (szN s:Int))=n_ (a8 s w):=by
      refine(yr _).symm.trans ?_;have ca:∀a b:Str,(a++b).cps.toList=a.cps.toList++b.cps.toList:=λa b=>by show(a.cps++b.cps).toList=_;simp
      rw[ca,ca,T,s2,g];unfold a8;rw[AB c]
     rw[o,J,C,eq];exact q
def yn(t t':Bool)(n I:Str):Da.eq (nO<|.leaf t n) (nO<|.leaf t' I)=(decide (t=t')&&decide (n=I)):=by
 by_cases h:n=I
 ·subst h;cases t<;>cases t'<;>simp[nO,Da.eq,Da.eqs,gZ,kL]<;>decide +kernel
 ·cases t<;>cases t'<;>simp[nO,Da.eq,Da.eqs,gZ,kL,h]<;>decide +kernel
theorem jH{α β:Type}(f:α->β):∀(l:List α) (n:Nat),(l.map f).eraseIdx n=(l.eraseIdx n).map f
 |[],n=>by simp
 |_::_,0=>rfl
 |x::r,n+1=>by rw[AA,CG,CG,AA,jH f r n]
def aO(a:jh)(b:Y)(r:List<|jh×Y)(k:jh):a6 ((a,b)::r) k=if a=k then some b else a6 r k:=by
 unfold a6;rw[BP];by_cases h:a=k
 ·rw[AD h,show decide ((a,b).1=k)=true from Aw h];rfl
 ·rw[AB h,show decide ((a,b).1=k)=false from Au h]
theorem tO(k I:jh)(y:Y):∀kvs:List (jh×Y),a6 (kvs.map λJ=>if J.1=k then(J.1,y) else J) I=if I=k then(a6 kvs I).map (λ_=>y) else a6 kvs I
 |[]=>by rw[Dq];split<;>rfl
 |(a,b)::r=>by
  have U:=tO k I y r;rw[AA,aO];by_cases h:a=k
  ·rw[AD<|show(a,b).1=k from h,aO,U];by_cases h2:I=k
   ·rw[AD h2,AD h2,AD<|h.trans h2.symm,AD<|h.trans h2.symm];rfl
   ·rw[AB h2,AB h2,AB λz=>h2<|z.symm.trans h,AB λz=>h2<|z.symm.trans h]
  ·rw[AB<|show ¬(a,b).1=k from h,aO,U];by_cases h2:I=k
   ·rw[AD h2,AD h2,AB λz=>h<|z.trans h2,AB λz=>h<|z.trans h2]
   ·rw[AB h2,AB h2]
theorem ui(k I:jh)(y:Y):∀kvs:List (jh×Y),a6 (kvs++[(k,y)]) I=(a6 kvs I).or (if k=I then some y else none)
 |[]=>by rw[Df,aO];have:a6 [] I=none:=rfl;rw[this];split<;>rfl
 |(a,b)::r=>by rw[List.cons_append,aO,aO,ui k I y r];split<;>rfl
theorem si(k:jh):∀kvs:List (jh×Y),(kvs.any λI=>decide<|I.1=k)=(a6 kvs k).isSome
 |[]=>rfl
 |(a,b)::r=>by
  rw[CA,aO,si k r];by_cases h:a=k
  ·rw[AD h,show decide ((a,b).1=k)=true from Aw h];rfl
  ·rw[AB h,show decide ((a,b).1=k)=false from Au h];rfl
def TJ(kvs:List<|jh×Y)(k I:jh)(y:Y):a6 (ou kvs k y) I=if I=k then some y else a6 kvs I:=by
 unfold ou;rw[si];cases e:a6 kvs k with
 |some v=>
  rw[AD<|show(some v).isSome=true from rfl,tO];by_cases h:I=k
  ·rw[AD h,AD h,h,e];rfl
  ·rw[AB h,AB h]
 |none=>
  rw[AB (by simp),ui];by_cases h:I=k
  ·rw[AD h,h,e,AD rfl];rfl
  ·rw[AB h,AB λz=>h z.symm];cases a6 kvs I<;>rfl
def TK(kvs:List<|jh×Y)(k:jh)(y:Y):(ou kvs k y).length<=kvs.length+1:=by
 unfold ou;split
 ·rw[Ae];omega
 ·rw[Ac];simp
def oo(I:vh)(p1:vh):bB:=(jm (xz JB<|qo 5)
 (jm (xz (fh ji)<|qo 6)
 (jm (uY (bw<|jt I<|eG (qg 0)<|qg 3) (qo 7) (nQ (aR (lL (yB<|qg 4)<|oO (xu eF (jt p1<|qm (qg 3)<|eG (qg 7)<|k8 40692)<|k8 3)<|k8 0) (vi<|iQ xl (qg 6)<|dI<|yC .non) dE)
 (jm (JC (qg 5) (qg 7)<|rD 6)
 (jm (xz (xu hU (qg 0)<|qg 7)<|qo 8)
 (nQ (aR (lL (yB<|oE true<|qg 8)<|oO (rD 8)<|k8 3) (xz (ah<|qm (e9 8 0)<|qm (iG (qg 5)<|e9 8 1)<|qm (iG (qg 5)<|e9 8 2) ji)<|qo 8) dE)
 (vi<|iQ xl (qg 6)<|dI<|qg 8))))))
 (jm (ym 7<|xz (pQ am<|qm (i_ 2 (bw<|qg 1) (fC 2<|jx (qo 9)<|jx (qo 10) cQ) FQ<|ah<|qm (pQ FI<|qm (iG (qg 5)<|qg 9)<|qm (iG (qg 5)<|qg 10) ji)<|qm (pQ zO<|qm (iG (qg 5)<|qg 9)<|qm (iG (qg 5)<|qg 10) ji) ji) ji)<|qo 1)
 (jm (ym 7<|xz (pQ am<|qm (i_ 2 (bw<|qg 2) (fC 2<|jx (qo 9)<|jx (qo 10) cQ) FQ<|ah<|qm (iG (qg 5)<|qg 9)<|qm (iG (qg 5)<|qg 10) ji) ji)<|qo 2)
 (eL<|ah<|qm (xu fi (qg 6)<|i_ 1 (rB<|qm (pQ Hu<|dI<|qg 4) ji) (qo 9) FQ<|yC .non)<|eG (qg 1)<|qg 2))))))
def iu(f:Wp):WD->WD
 |some (.nd e i j)=>some<|.nd e (f i)<|f j
 |k=>k
theorem wR{f g:Wp}:∀{k:WD},(∀e i j,k=some (.nd e i j)->f i=g i/\f j=g j)->iu f k=iu g k
 |none,_=>rfl
 |some (.lf _ _),_=>rfl
 |some (.nd e i j),h=>by obtain⟨a,b⟩:=h e i j rfl;show some (Kn.nd e (f i)<|f j)=some (Kn.nd e (g i)<|g j);rw[a,b]
structure sN(ks:List<|WD)(ps:Wi)(f:Wp)(wd:List<|WD):Prop where
 at_:∀p∈ps,∀k,ks[p]?=some k->wd[f p]?=some (iu f k)
 inj:∀p∈ps,∀q∈ps,f p=f q->p=q
 only:∀x k,wd[x]?=some (some k)->∃p∈ps,x=f p
 ok:oP wd
def sN.nil(ks:List<|WD)(f:Wp):sN ks [] f []:=⟨λp I=>(Be I).elim,λp I=>(Be I).elim,λx k h=>(by simp at h),λp e i j h=>(by simp at h)⟩
def oP.gap(h:oP wd):oP (wd++[none]):=by
 intro p e i j I;by_cases c:p<wd.length
 ·rw[Az c] at I;exact h p e i j I
 ·rw[AF (by exact FE)] at I;cases J:p-wd.length with|zero=>rw[J] at I;cases I|succ m=>rw[J] at I;cases I
theorem sN.gap{ks:List<|WD}{ps:Wi}{f:Wp}(h:sN ks ps f wd):sN ks ps f (wd++[none]):=by
 refine⟨λp U k g=>i5<|h.at_ p U k g,h.inj,λx k I=>?_,h.ok.gap⟩;by_cases c:x<wd.length
 ·rw[Az c] at I;exact h.only x k I
 ·rw[AF (by lia)] at I;cases J:x-wd.length with|zero=>rw[J] at I;cases I|succ m=>rw[J] at I;cases I
def sN.lt{ks:List<|WD}{ps:Wi}{f:Wp}(h:sN ks ps f wd){p:Nat}(I:p∈ps)(J:p<ks.length):f p<wd.length:=zd<|h.at_ p I _<|Ag J
def sN.step{ks:List<|WD}{ps:Wi}{f:Wp}(h:sN ks ps f wd)(r:∀p∈ps,p<ks.length){p:Nat}{k:WD}(C:p∉ps)(T:ks[p]?=some k)(o:∀x∈ps,∀e i j,ks[x]?=some (some<|.nd e i j)->i∈ps/\j∈ps)(J:∀e i j,k=some (.nd e i j)->i∈ps/\j∈ps):
 sN ks (ps++[p]) (λx=>if x=p then wd.length else f x) (wd++[iu f k]):=by
 have old:∀x∈ps,(if x=p then wd.length else f x)=f x:=λx I=>AB λ(c:x=p)=>C<|c▸I;have ren:∀l,(∀e i j,l=some (.nd e i j)->i∈ps/\j∈ps)->iu (λx=>if x=p then wd.length else f x) l=iu f l:=λl U=>wR λe i j z=>by obtain⟨a,b⟩:=U e i j z;exact⟨old i a,old j b⟩
 refine⟨λx I l U=>?_,λx I y g e=>?_,λx l I=>?_,λx e i j I=>?_⟩
 ·rcases Ak.mp I with I|I
  ·show(wd++[iu f k])[if x=p then wd.length else f x]?=_;rw[old x I,ren l λe i j z=>o x I e i j (by rw[U,z])];exact i5<|h.at_ x I l U
  ·have I:=Ao.mp I;subst I;rw[T] at U;cases U;show(wd++[iu f k])[if x=x then wd.length else f x]?=_;rw[AD rfl,ren k J];exact dR wd _ []
 ·have e:(if x=p then wd.length else f x)=if y=p then wd.length else f y:=e
  rcases Ak.mp I with I|I<;>rcases Ak.mp g with g|g
  ·rw[old x I,old y g] at e;exact h.inj x I y g e
  ·cases Ao.mp g;rw[old x I,AD rfl] at e;have:=h.lt I<|r x I;lia
  ·cases Ao.mp I;rw[old y g,AD rfl] at e;have:=h.lt g<|r y g;lia
  ·rw[Ao.mp I,Ao.mp g]
 ·by_cases c:x<wd.length
  ·rw[Az c] at I;obtain⟨q,t,e⟩:=h.only x l I;exact⟨q,Am _ t,by rw[e];exact(old q t).symm⟩
  ·refine⟨p,Ah _<|Ao.mpr rfl,?_⟩;have:=zd I;rw[Ac] at this;have:x<wd.length+1:=this;show x=if p=p then wd.length else f p
   rw[AD rfl];lia
 ·by_cases c:x<wd.length
  ·rw[Az c] at I;exact h.ok x e i j I
  ·have:=zd I;rw[Ac] at this;have:x<wd.length+1:=this;have:x=wd.length:=by lia
   subst this;rw[AF<|An _,Dv] at I;have I:iu f k=some (.nd e i j):=AZ I;cases k with
   |none=>cases I
   |some k=>
    cases k with
    |lf=>cases I
    |nd e' i' j'=>
     obtain⟨a,b⟩:=J e' i' j' rfl;cases I;exact⟨h.lt a<|r _ a,h.lt b<|r _ b⟩
def oF{ks:List<|WD}(ok:oP ks)(pm:qs.Perm<|List.range ks.length)(g:dP ks qs){p:Nat}(J:qs[n]?=some p){e:Bool}(h:ks[p]?=some (some<|.nd e i j)):i∈qs.take n/\j∈qs.take n:=by
 obtain⟨T,l2⟩:=ok p e i j h;have hl:=zd h;have r:=zd J;have ind:∀x,x<ks.length->x≠p->(∀y∈qs.drop (n+1),y≠x)->x∈qs.take n:=λx C ne l=>by
  have I:x∈qs:=pm.mem_iff.mpr<|AY.mpr C;have o:qs=qs.take n++p::qs.drop (n+1):=by rw[Ag r] at J;rw[<-AZ J,Dw,A7]
  rw[o] at I;rcases Ak.mp I with I|I
  ·exact I
  ·rcases As.mp I with I|I
   ·exact absurd I ne
   ·exact absurd rfl<|l x I
 have t:∀y∈qs.drop (n+1),y≠i/\y≠j:=λy U=>by
  have o:qs=qs.take n++p::qs.drop (n+1):=by rw[Ag r] at J;rw[<-AZ J,Dw,A7]
  unfold dP at g;rw[o] at g;have:=(AQ.mp g).2.1;exact(List.pairwise_cons.mp this).1 y U e i j h
 exact⟨ind i (by exact r9) (by exact Im) λy U=>(t y U).1,ind j (by exact r9) (by exact Im) λy U=>(t y U).2⟩
def JU:RD "_law_join" kU 0 ["_law_knots","_law_forest","_law_one","_law_two","_law_first","_law_second","_law_left","_law_right","_law_ends"] (λ_=>True):=⟨_,λV B c _ _ _ _ _ _ _ I hN J=>(qb (S_ 4 hN<|bL (qv 1)<|jn<|ql j7 (qv 3)<|L_ B.ba<|qv 1)<|qb (S_ 5 hN<|bL (qv 1)<|jn<|ql j7 (qv 2)<|L_ B.ba<|qv 1)<|qb (ao (i:=6) hN rfl (Or.inr rfl)<|I_ (J_ 4)<|ql j7 (ql vk (qv 3) qd)<|L_ B.ba<|J_ 4)<|qb (ao (i:=7) hN rfl (Or.inr rfl)<|I_ (J_ 5)<|ql j7 (ql vk (qv 2) qd)<|L_ B.ba<|J_ 5)<|qb (qy<|z9 (qv 0)<|jn<|zb<|aT je (qv 6)<|qv 7)<|qb (cV ["_law_p"] (i:=8) hN rfl (Or.inl rfl) (EV (by rfl)) rfl (xj<|ql js (J_ 4)<|J_ 5) (m6 9) (λ_ _ _ _=>dZ<|jk (qP _ _ _) (qv 9) (zb<|xx (qv 6)<|qv 7) (by with_unfolding_all rfl)) λ_ _ _ _=>(qv 9))<|qe<|qy<|z9 (qv 1)<|jn<|zk<|xx (zb<|jo je<|aT (ql wy (L_ B.ba<|qv 0) qd) (J_ 4)<|J_ 5)<|ql js (qv 8)<|zk<|jn<|ql wy (L_ B.ba<|qv 0) qd)⟩
def yd:RD "_law_fold" lB 0 ["_law_knots","_law_tree_here","_law_one","_law_two","_law_left","_law_right"] (λ_=>True):=⟨_,λV B c _ _ _ _ _ _ _ I hN J=>(qb (zj (jk gG (L_ B.ba<|J_ 1) qd<|jf _) (qe zG) ze)<|qb (S_ 4 hN<|bL (J_ 1)<|jn<|ql j7 (qv 3)<|L_ B.ba<|J_ 1)<|qb (S_ 5 hN<|bL (J_ 1)<|jn<|ql j7 (qv 2)<|L_ B.ba<|J_ 1)<|qb (qy<|z9 (qv 0)<|jn<|zb<|aT je (qv 4)<|qv 5)<|qb (iM (qv 1) qd<|zb<|aT je (ql wy (L_ B.ba<|qv 0) qd)<|J_ 1)<|qe<|qy<|z9 (J_ 1)<|jn<|ql wy (L_ B.ba<|qv 0) qd)⟩
theorem cW{ks:WC}:∀{w v:Wd} {p:Nat},dO ks p w->dO ks p v->w=v
 |.leaf t n,.leaf g C,p,h,k=>by
  have h:(vg ks)[p]?=some (.tup [.str<|kL t,.str n]):=h;have k:(vg ks)[p]?=some (.tup [.str<|kL g,.str C]):=k;rw[h] at k;injection k with k;injection k with k;injection k with J I;injection I with I _
  injection J with J;injection I with I
  have:t=g:=by cases t<;>cases g<;>first|rfl|(exfalso;revert J;decide +kernel)
  rw[this,I]
 |.leaf t n,.node e l r,p,h,k=>by obtain⟨i,j,k,_⟩:=k;have h:(vg ks)[p]?=some (.tup [.str<|kL t,.str n]):=h;rw[h] at k;injection k with k;injection k with k;injection k with _ k;injection k with _ k;cases k
 |.node e l r,.leaf t n,p,h,k=>by obtain⟨i,j,h,_⟩:=h;have k:(vg ks)[p]?=some (.tup [.str<|kL t,.str n]):=k;rw[h] at k;injection k with k;injection k with k;injection k with _ k;injection k with _ k;cases k
 |.node e l r,.node o l' r',p,⟨i,j,h,T,hr⟩,⟨i',j',k,kl,kr⟩=>by
  rw[h] at k;injection k with k;injection k with k;injection k with J I;injection I with I U;injection U with U _
  injection J with J;injection I with I;injection U with U
  have e1:i=i':=by lia
  have e2:j=j':=by lia
  subst e1 e2;have:e=o:=by cases e<;>cases o<;>first|rfl|(exfalso;revert J;decide +kernel)
  rw[this,cW (ks:=ks) T kl,cW (ks:=ks) hr kr]
theorem nG{ks:WC}(I:ae ks):∀(m p:Nat),p<m->p<ks.length->∃w,dO ks p w/\w.depth<=p+1/\w.ok
 |0,p,h,_=>absurd h (by lia)
 |m+1,p,h,g=>by
  obtain⟨k,J⟩:∃k,ks[p]?=some k:=⟨_,Ag g⟩;have U:=I p k J;cases k with
  |lf t n=>exact⟨.leaf t n,dO.leaf J,by show 1<=p+1;exact BV _,U⟩
  |nd e i j=>
   have U:i<p/\j<p:=U;obtain⟨l,o,T,C⟩:=nG I m i (by lia) (by omega);obtain⟨r,b1,b2,b3⟩:=nG I m j (by lia) (by lia);exact⟨.node e l r,FB J o b1,by show max l.depth r.depth+1<=p+1;lia,C,b3⟩
def TV(v:Str->Bool):Wd->Bool
 |.leaf t n=>if t=true then !v n else v n
 |.node e l r=>if e=true then TV v l||TV v r else TV v l&&TV v r
theorem lT(v:Str->Bool):∀w:Wd,TV v w.turn=!TV v w
 |.leaf t n=>by cases t<;>simp[Wd.turn,TV]
 |.node e l r=>by cases e<;>simp[Wd.turn,TV,lT v l,lT v r]
theorem SR.lt{E:Wi}(h:SR ks R E):∀x∈qz R,x<ks.length:=by
 have lt:∀{p:Nat} {k:Kn},ks[p]?=some k->p<ks.length:=λh=>(AI.mp h).1
 induction h with
 |link _ h2 h3 _ _=>intro x I;simp[qz] at I;rcases I with rfl|rfl;exact lt h2;exact lt h3
 |ei h1 _ _ _ _ _ _ g=>intro x I;rcases As.mp I with rfl|I;exact lt h1;exact g x I
 |bo h1 _ _ _ _ _ _ J U=>
  intro x I;rcases As.mp I with rfl|I
  ·exact lt h1
  ·rcases Ak.mp I with I|I
   ·exact J x I
   ·exact U x I
 |cu _ _ _ _ _ _ _ _ J U=>
  intro x I;rcases Ak.mp I with I|I
  ·exact J x I
  ·exact U x I
theorem SR.tv(hk:ae ks)(v:Str->Bool){E:Wi}(h:SR ks R E):∃x∈E,∃w,dO ks x w/\TV v w=true:=by
 have ex:∀{R':Ru} {E':Wi},SR ks R' E'->∀x∈E',∃w,dO ks x w:=λs x U=>by obtain⟨w,hw,_⟩:=nG hk (x+1) x (by exact BD _)<|s.lt x<|s.sub x U;exact⟨w,hw⟩
 induction h with
 |@link p q t n E _ h2 h3 h4 _=>
  cases ht:TV v (.leaf t n) with
  |true=>exact⟨p,(h4 p).mpr<|.inl rfl,_,dO.leaf h2,ht⟩
  |false=>
   refine⟨q,(h4 q).mpr<|.inr rfl,_,dO.leaf h3,?_⟩;have:=lT v<|.leaf t n;rw[ht] at this;exact this
 |@ei r i j A EA E h1 hA hi hj _ g _ ih=>
  obtain⟨x,U,w,hw,tv⟩:=ih;obtain⟨wi,l⟩:=ex hA i hi;obtain⟨wj,o⟩:=ex hA j hj;by_cases I:x=i
  ·subst I;rw[cW hw l] at tv;exact⟨r,(g r).mpr<|.inr rfl,_,FB h1 l o,by simp[TV,tv]⟩
  ·by_cases J:x=j
   ·subst J;rw[cW hw o] at tv;exact⟨r,(g r).mpr<|.inr rfl,_,FB h1 l o,by simp[TV,tv]⟩
   ·exact⟨x,(g x).mpr<|.inl ⟨U,I,J⟩,w,hw,tv⟩
 |@bo r i j A B EA EB E h1 hA hB hi hj g _ C T=>
  obtain⟨x,U,w,hw,tv⟩:=C;obtain⟨y,hy,u,hu,tu⟩:=T;by_cases I:x=i
  ·by_cases J:y=j
   ·subst I J;exact⟨r,(g r).mpr<|.inr<|.inr rfl,_,FB h1 hw hu,by simp[TV,tv,tu]⟩
   ·exact⟨y,(g y).mpr<|.inr<|.inl ⟨hy,J⟩,u,hu,tu⟩
  ·exact⟨x,(g x).mpr<|.inl ⟨U,I⟩,w,hw,tv⟩
 |@cu p q A B EA EB E w0 hA hB hp hq a1 a2 h7 _ C T=>
  obtain⟨x,U,w,hw,tv⟩:=C;obtain⟨y,hy,u,hu,tu⟩:=T;by_cases I:x=p
  ·by_cases J:y=q
   ·subst I J;rw[cW hw a1] at tv;rw[cW hu a2,lT,tv] at tu;cases tu
   ·exact⟨y,(h7 y).mpr<|.inr ⟨hy,J⟩,u,hu,tu⟩
  ·exact⟨x,(h7 x).mpr<|.inl ⟨U,I⟩,w,hw,tv⟩
def SR.ends(I:ae ks){E:Wi}(h:SR ks R E):0<E.length:=by obtain⟨x,J,_⟩:=h.tv I λ_=>true;exact List.length_pos_of_mem J
structure Tr where
 a:Addr
 b:Addr
 R:Ru
 E:Wi
abbrev WE:=List Tr
abbrev zv(E:Wi):List Y:=E.map λn:Nat=>Y.int (n:Int)
def Tr.ads(t:Tr):List Addr:=[t.a,t.b]
structure bY(L0 L:qk)(ka fa:Addr)(ks:WC)(fo:WE):Prop where
 hk:L ka=some (.lst<|vg ks)
 ht:∀t∈fo,L t.a=some (.lst [jj t.R,.ref t.b])/\L t.b=some (.lst<|zv t.E)
 sr:∀t∈fo,SR ks t.R t.E
 nd:(fo.flatMap λt=>qz t.R).Nodup
 tm:∀x,x∈(fo.flatMap λt=>qz t.R)↔x<ks.length
 ad:(ka::fa::fo.flatMap Tr.ads).Nodup
 ok:ae ks
 sub:qh L0 L
 fr:∀x∈ka::fa::fo.flatMap Tr.ads,L0 x=none
def zn(fo:WE):List Y:=fo.map λt=>Y.ref t.a
structure oV(L0 L:qk)(ka fa:Addr)(ks:WC)(fo:WE):Prop where
 b:bY L0 L ka fa ks fo
 hf:L fa=some (.lst<|zn fo)
def Ft:Ru->Prop
 |.link _ _=>True
 |.ei _ A=>Ft A
 |.bo _ A B=>Ft A/\Ft B
 |.cu _ _ _ _=>False
def JV(ks:WC)(fo:WE)(I:WC)(fo':WE):Prop:=(∃ms:WC,I=ks++ms/\∀k∈ms,∃e i j,k=.nd e i j)/\((∀t∈fo,Ft t.R)->∀t∈fo',Ft t.R)
def bY.perm{fo fo':WE}(h:bY L0 L ka fa ks fo)(p:fo.Perm fo'):bY L0 L ka fa ks fo':=by have J:(fo.flatMap λt=>qz t.R).Perm (fo'.flatMap λt=>qz t.R):=p.flatMap_right _;have U:(fo.flatMap Tr.ads).Perm (fo'.flatMap Tr.ads):=p.flatMap_right _;refine⟨h.hk,λt I=>h.ht t<|p.mem_iff.mpr I,λt I=>h.sr t<|p.mem_iff.mpr I,J.nodup_iff.mp h.nd,λx=>by rw[<-J.mem_iff];exact h.tm x,((U.cons _).cons _).nodup_iff.mp h.ad,h.ok,h.sub,λx g=>h.fr x<|((U.cons _).cons _).mem_iff.mpr g⟩
end L3
variable {fo rest:List L3.Tr}
namespace L3
open PySem L2 Words
theorem xr{α:Type}:∀{l:List α} {j:Nat} {x:α},l[j]?=some x->l.Perm (x::l.eraseIdx j)
 |[],_,_,h=>by simp at h
 |y::r,0,x,h=>by
  have:y=x:=by simpa using h
  subst this;exact .refl _
 |y::r,j+1,x,h=>by have I:=xr (l:=r) (j:=j) (x:=x) (by simpa using h);rw[CG];exact(I.cons y).trans (.swap _ _ _)
def nV(fo:WE)(j:Nat):(zn fo).eraseIdx j=zn (fo.eraseIdx j):=jH _ fo j
theorem qh.none(s:qh L L'){p:Addr}(h:L' p=none):L p=none:=by cases z:L p with|none=>rfl|some o=>rw[s _ _ z] at h;cases h
def bY.nkf(h:bY L0 L ka fa ks fo):ka≠fa:=by have ad:=h.ad;rw[AE] at ad;exactλe=>ad.1<|e▸Ar ..
def bY.nk(h:bY L0 L ka fa ks fo):∀t∈fo,t.a≠fa/\t.b≠fa/\t.a≠ka/\t.b≠ka:=λt I=>by have ad:=h.ad;rw[AE,AE] at ad;have J:t.a∈fo.flatMap Tr.ads:=Bz.mpr ⟨t,I,by simp[Tr.ads]⟩;have U:t.b∈fo.flatMap Tr.ads:=Bz.mpr ⟨t,I,by simp[Tr.ads]⟩;exact⟨λe=>ad.2.1<|e▸J,λe=>ad.2.1<|e▸U,λe=>ad.1<|Ai _<|e▸J,λe=>ad.1<|Ai _<|e▸U⟩
def bY.setF(h:bY L0 L ka fa ks fo)(o:LO):bY L0 (qi L fa o) ka fa ks fo:=by
 refine⟨by rw[qc h.nkf];exact h.hk,λt I=>?_,h.sr,h.nd,h.tm,h.ad,h.ok,λb u e=>?_,h.fr⟩
 ·obtain⟨J,U,_,_⟩:=h.nk t I;rw[qc J,qc U];exact h.ht t I
 ·have:b≠fa:=λz=>by rw[z,h.fr fa (by simp)] at e;cases e
  rw[qc this];exact h.sub _ _ e
def bY.mono(h:bY L0 L ka fa ks fo)(s:qh L L'):bY L0 L' ka fa ks fo:=
 ⟨s _ _ h.hk,λt I=>⟨s _ _ (h.ht t I).1,s _ _ (h.ht t I).2⟩,h.sr,h.nd,h.tm,h.ad,h.ok,h.sub.trans s,h.fr⟩
def bY.exs(h:bY L0 L ka fa ks fo):∀z∈fo.flatMap Tr.ads,∃o,L z=some o:=λz I=>by
 obtain⟨t,J,I⟩:=Bz.mp I;obtain⟨h1,h2⟩:=h.ht t J;have I:z=t.a\/z=t.b:=by simpa[Tr.ads] using I
 rcases I with rfl|rfl
 ·exact⟨_,h1⟩
 ·exact⟨_,h2⟩
def TL{l:List Addr}(nd:l.Nodup)(ex:∀z∈l,∃o,L z=some o)(U:L pa=none)(g:L pb=none)(ne:pa≠pb):(l++[pa,pb]).Nodup:=by
 rw[Av];refine⟨nd,by simp[ne],λu j v J e=>?_⟩;subst e;obtain⟨o,I⟩:=ex u j;simp at J;rcases J with rfl|rfl
 ·rw[U] at I;cases I
 ·rw[g] at I;cases I
def bY.step{old:WE}{t':Tr}(h:bY L0 L ka fa ks<|old++rest)(l:L' ka=some (.lst<|vg<|ks++ms))(o:L' t'.a=some (.lst [jj t'.R,.ref t'.b])/\L' t'.b=some (.lst<|zv t'.E))
 (keep:∀t∈rest,L' t.a=L t.a/\L' t.b=L t.b) (sub:qh L0 L') (ad:(ka::fa::(rest++[t']).flatMap Tr.ads).Nodup) (p:∀x∈t'.ads,L0 x=none) (ok:ae<|ks++ms) (r:SR (ks++ms) t'.R t'.E)
 (tp:(qz t'.R).Perm<|List.range' ks.length ms.length++old.flatMap λt=>qz t.R):bY L0 L' ka fa (ks++ms) (rest++[t']):=by
 have hnd:=h.nd;have U:=h.tm;rw[AR] at hnd;have j:((rest++[t']).flatMap λt=>qz t.R)=(rest.flatMap λt=>qz t.R)++qz t'.R:=by rw[AR];simp
 have mem:∀x,x∈qz t'.R↔(ks.length<=x/\x<ks.length+ms.length)\/x∈(old.flatMap λt=>qz t.R):=λx=>by rw[tp.mem_iff,Ak,Dx]
 refine⟨l,λt J=>?_,λt J=>?_,?_,λx=>?_,ad,ok,sub,λx I=>?_⟩
 ·rcases Ak.mp J with J|J
  ·obtain⟨C,T⟩:=keep t J;rw[C,T];exact h.ht t<|Ah _ J
  ·rw[Ao.mp J];exact o
 ·rcases Ak.mp J with J|J
  ·exact(h.sr t<|Ah _ J).more _
  ·rw[Ao.mp J];exact r
 ·rw[j,Av];rw[Av] at hnd;refine⟨hnd.2.1,tp.nodup_iff.mpr ?_,λx I y g e=>?_⟩
  ·rw[Av];refine⟨Ef,hnd.1,λx I y g e=>?_⟩;have I:=Dx.mp I;have g:=(U y).mp (by rw[AR];exact Am _ g);lia
  ·subst e;rcases (mem x).mp g with g|g
   ·have:=(U x).mp (by rw[AR];exact Ah _ I);lia
   ·exact hnd.2.2 x g x I rfl
 ·rw[j,Ak,mem,Ac];have h1:=U x;rw[AR,Ak] at h1;constructor
  ·rintro(h2|h2|h2)
   ·have:=h1.mp<|.inr h2;exact GR
   ·lia
   ·have:=h1.mp<|.inl h2;lia
  ·intro h2;by_cases c:x<ks.length
   ·rcases h1.mpr c with h3|h3
    ·exact .inr<|.inr h3
    ·exact .inl h3
   ·exact .inr<|.inl (by lia)
 ·rcases As.mp I with rfl|I
  ·exact h.fr _<|Ar ..
  ·rcases As.mp I with rfl|I
   ·exact h.fr _<|Ai _<|Ar ..
   ·rw[AR] at I;rcases Ak.mp I with I|I
    ·exact h.fr _ (Ai _ (Ai _ (by rw[AR];exact Ah _ I)))
    ·exact p x (by simpa using I)
def bY.put{M:qk}{old:WE}{E:Wi}{fs:LO}(h:bY L0 L ka fa ks<|old++rest)(U:∀z o,z≠ka->L z=some o->M z=some o)(g:M ka=some (.lst<|vg<|ks++ms))(l:M fa=some fs)(na:M pa=none)(nb:M pb=none)(ne:pa≠pb)(s:qh M L')(p:L' pa=some (.lst [jj R,.ref pb]))(r:L' pb=some (.lst<|zv E))
 (ok:ae<|ks++ms) (C:SR (ks++ms) R E) (tp:(qz R).Perm<|List.range' ks.length ms.length++old.flatMap λt=>qz t.R):bY L0 L' ka fa (ks++ms) (rest++[⟨pa,pb,R,E⟩]):=by
 have J:∀z o,L0 z=some o->M z=some o:=λz o e=>U _ _ (λw=>by rw[w,h.fr ka (by simp)] at e;cases e)<|h.sub _ _ e;have two:∀z,z∈(⟨pa,pb,R,E⟩:Tr).ads->M z=none:=λz I=>by
  have I:z=pa\/z=pb:=by simpa[Tr.ads] using I
  rcases I with rfl|rfl<;>assumption
 refine bY.step (old:=old) (t':=⟨pa,pb,R,E⟩) h (s _ _ g) ⟨p,r⟩ (λt j=>?_) (λz o e=>s _ _<|J z o e) ?_ (λz I=>?_) ok C tp
 ·obtain⟨_,_,T,n4⟩:=h.nk t<|Ah _ j;obtain⟨h1,h2⟩:=h.ht t<|Ah _ j;rw[h1,h2];exact⟨s _ _<|U _ _ T h1,s _ _<|U _ _ n4 h2⟩
 ·have ad:=h.ad;rw[AR] at ad;have:=TL (L:=M) ((((List.sublist_append_right ..).cons_cons _).cons_cons _).nodup ad) (λz I=>?_) na nb ne
  ·rw[AR];simpa[Tr.ads] using this
  ·rcases As.mp I with rfl|I
   ·exact⟨_,g⟩
   rcases As.mp I with rfl|I
   ·exact⟨_,l⟩
   obtain⟨o,e⟩:=h.exs z (by rw[AR];exact Ah _ I);exact⟨o,U _ _ (λw=>(AE.mp ad).1 (by rw[<-w];exact Ai _<|Ah _ I)) e⟩
 ·cases e:L0 z with|none=>rfl|some o=>have w:=J z o e;rw[two z I] at w;cases w
inductive lV(ys:List Y)(L:qk)(Q:YK):Prop
 |mk:∀L0 ka fa ks fo,∀one two:Int,(ys=[.ref ka,.ref fa,.int one,.int two])->(oV L0 L ka fa ks fo)->(2<=fo.length)->(fo.length<=200)->(ks.length<=200)->(∀L' ks' fo',oV L0 L' ka fa ks' fo'->ks'.length=ks.length+1->fo'.length+1=fo.length->JV ks fo ks' fo'->Q .non L')->lV ys L Q
def dX{l:List α}(h:0<l.length)(k:Int):∃(j:Nat) (x:α),k % (l.length:Int)=(j:Int)/\j<l.length/\l[j]?=some x:=by have h0:0<=k % (l.length:Int):=Di _ (by lia);have h1:k % (l.length:Int)<(l.length:Int):=Dk _ (by omega);refine⟨(k % (l.length:Int)).toNat,l[(k % (l.length:Int)).toNat]'(by lia),by lia,by lia,Ag (by lia)⟩
theorem bV:∀(n:Nat) (l:Wi),l.Nodup->(∀x∈l,x<n)->l.length<=n
 |0,l,_,h=>by cases l with|nil=>exact An _|cons x r=>exact absurd (h x<|Ar ..) (by lia)
 |n+1,l,nd,h=>by
  by_cases c:n∈l
  ·have p:=List.perm_cons_erase c;have J:=bV n (l.erase n) (nd.erase n) λx I=>by have:=(List.Nodup.mem_erase_iff nd).mp I;have:=h x this.2;lia
   rw[p.length_eq,AL];exact A'
  ·exact CT (bV n l nd λx I=>by have:=h x I;have:x≠n:=λe=>c<|e▸I;lia)
def bJ(h:bY L0 L ka fa ks fo){t:Tr}(I:t∈fo):0<t.E.length/\t.E.length<=ks.length:=by have s:=h.sr t I;exact⟨s.ends h.ok,bV _ _ s.nod λx J=>s.lt x<|s.sub x J⟩
def TM(x l r:Nat):vF (ft<|.int (x:Int)) (([.int (l:Int),.int (r:Int)]:List Y).map ft)=decide (x=l\/x=r):=by
 show(gZ (.int (l:Int)) (.int (x:Int))||(gZ (.int (r:Int)) (.int (x:Int))||false))=_;have e:∀a b:Nat,gZ (.int (a:Int)) (.int (b:Int))=decide (b=a):=λa b=>by
  show decide ((a:Int)=(b:Int))=decide (b=a);by_cases c:b=a
  ·subst c;simp
  ·rw[Au c];apply Au;lia
 rw[e,e];by_cases h1:x=l<;>by_cases h2:x=r<;>simp[h1,h2]
def lh{E:Wi}(h:0<E.length)(k:Int):∃x,x∈E/\eI (zv E) (k % ((zv E).length:Int))=some (.int ((x:Nat):Int)):=by obtain⟨j,x,I,J,ex⟩:=dX h k;refine⟨x,AC ex,?_⟩;rw[Ae,I];exact x5 (by rw[Al,ex];rfl)
def kg(E1 E2:Wi)(l r:Nat):Wi:=(E1++E2).filter λx=>!decide (x=l\/x=r)
def JW{U:Addr}{E:Wi}{l r k:Nat}{Q:YK}(C:L U=some (.lst<|zv E))(I:E.length<=1000)
 (T:∀y (g:Bool->qk->Prop),wV true y (.tup [.int (l:Int),.int (r:Int)]) L (λx L'=>match x with|.bl c=>g c L'|_=>False)->tc (ak (τ++List.replicate 1 none) k y) L g)
 (hv:∀y,xM (ak (τ++List.replicate 1 none) k y) k=some y)
 (hq:∀p,L p=none->Q (.ref p) (qi L p<|.lst<|zv<|E.filter λx=>!decide (x=l\/x=r))):
 ut L U λys keep L2=>xS ys keep 1 (qo k) tc (qg k) τ L2 Q:=by
 refine x4 C λkeep kp=>aj (λj zs=>zs=zv ((E.take j).filter λx=>!decide (x=l\/x=r))) (by rw[Ae];exact qK I) (kp L rfl) rfl ?_ ?_
 ·rintro j y _ o rfl;obtain⟨x,ex,rfl⟩:∃x:Nat,E[j]?=some x/\y=Y.int (x:Int):=by rw[Al] at o;obtain⟨x,e1,e2⟩:=Aq.mp o;exact⟨x,e1,e2.symm⟩
  refine T _ _ ⟨rfl,rfl,?_⟩;rw[TM];show wf (!decide (x=l\/x=r)) _ _;have t:(E.take<|j+1).filter (λx=>!decide (x=l\/x=r))=(E.take j).filter (λx=>!decide (x=l\/x=r))++[x].filter (λx=>!decide (x=l\/x=r)):=by rw[Bm,ex,Cr];rfl
  by_cases c:x=l\/x=r
  ·refine aC (by rw[Aw c];rfl) ?_;refine II ⟨rfl,?_⟩;rw[t,Eu (by simp[c]),Dg,AN]
  ·refine aM (by rw[Au c];rfl) ?_;unfold qg;rw[hv];refine II ⟨rfl,?_⟩;rw[t,Ew (by simp[c]),Dg];unfold zv;rw[Ax];rfl
 ·rintro _ rfl p J;rw[Ae,Bj];exact hq p J
def wX{k:Int}(U:L fa=some (.lst<|zn fo))(h:0<fo.length):∃(j:Nat) (t:Tr),fo[j]?=some t/\0<=k % ((zn fo).length:Int)/\k % ((zn fo).length:Int)<((zn fo).length:Int)/\
 (zn fo)[(k % ((zn fo).length:Int)).toNat]?=some (.ref t.a)/\qi L fa (.lst<|(zn fo).eraseIdx (k % ((zn fo).length:Int)).toNat) fa=some (.lst<|zn<|fo.eraseIdx j):=by
 obtain⟨j,t,J,g,I⟩:=dX h k;have e:(zn fo).length=fo.length:=Ae ..;rw[e,J];refine⟨j,t,I,by exact AV _,by lia,?_,?_⟩
 ·show(zn fo)[j]?=_;unfold zn;rw[Al,I];rfl
 ·rw[q9];show some (LO.lst<|(zn fo).eraseIdx j)=_;rw[nV]
def bY.two{t1 t2:Tr}(h:bY L0 L ka fa ks<|t1::t2::rest):∀x,x∈qz t1.R->x∈qz t2.R->False:=by intro x h1 h2;have nd:=h.nd;rw[Bh,Bh,Av] at nd;exact nd.2.2 x h1 x (Am _ h2) rfl
def y0{E1 E2:Wi}{l r:Nat}(I:l∉E2)(J:r∉E1)(x:Nat):x∈kg E1 E2 l r↔(x∈E1/\x≠l)\/(x∈E2/\x≠r):=by
 unfold kg;rw[AO,Ak];constructor
 ·rintro⟨h,c⟩;have c:¬(x=l\/x=r):=by simpa using c
  rcases h with h|h
  ·exact .inl ⟨h,λe=>c<|.inl e⟩
  ·exact .inr ⟨h,λe=>c<|.inr e⟩
 ·rintro(⟨h,c⟩|⟨h,c⟩)
  ·refine⟨.inl h,?_⟩;have:x≠r:=λe=>J<|e▸h;simp[c,this]
  ·refine⟨.inr h,?_⟩;have:x≠l:=λe=>I<|e▸h;simp[c,this]
def yP{E1 E2:Wi}{l r:Nat}(h1:E1.Nodup)(h2:E2.Nodup)(d:∀x,x∈E1->x∈E2->False):(kg E1 E2 l r).Nodup:=by
 unfold kg;have h:(E1++E2).Nodup:=by rw[Av];exact⟨h1,h2,λx I y J e=>d x I<|e▸J⟩
 exact List.Pairwise.filter _ h
def jE(a b:Wi):zv (a++b)=zv a++zv b:=Ax
def gE(a:WE)(t:Tr):zn (a++[t])=zn a++[.ref t.a]:=Ax
theorem TN:∀ys L Q,lV ys L Q->xi JU.1 9 ys L Q:=by
 rintro ys L Q ⟨L0,ka,fa,j,fo,one,two,rfl,F,h2,c2,bj,q⟩;have big:=a_;have p:∀fo:WE,(zn fo).length=fo.length:=λfo=>Ae ..;have U:∀E:Wi,(zv E).length=E.length:=λE=>Ae ..;obtain⟨j1,I,bn,a1,a2,a3,g⟩:=wX (k:=two) F.hf (by exact hJ);have p1:=xr bn;refine qa F.hf (qa F.hf ⟨(by show(0:Int)<((zn fo).length:Int);rw[p];lia),qj F.hf ⟨a1,a2,qf a3 ?_⟩⟩);have B:=(F.b.perm p1).setF<|.lst<|(zn fo).eraseIdx (two % ((zn fo).length:Int)).toNat;generalize qi L fa _=L1 at g B ⊢;have l1:=p1.length_eq;generalize fo.eraseIdx j1=T at l1 g B p1 ⊢;rw[AL] at l1;obtain⟨j2,J,bp,b1,b2,b3,ax⟩:=wX (k:=one) g (by lia);have p2:=xr bp;refine qa g (qa g ⟨(by show(0:Int)<((zn T).length:Int);rw[p];lia),qj g ⟨b1,b2,qf b3 ?_⟩⟩);replace B:=(B.perm<|p2.cons _).setF<|.lst<|(zn T).eraseIdx (one % ((zn T).length:Int)).toNat;generalize qi L1 fa _=L2 at ax B ⊢;have l2:=p2.length_eq;have bd:=p1.trans<|p2.cons _;generalize T.eraseIdx j2=rest at l2 ax B bd ⊢;rw[AL] at l2;clear g a1 a2 a3 b1 b2 b3 p1 p2;have m1:I∈I::J::rest:=by simp
 have m2:J∈I::J::rest:=by simp
 obtain⟨a4,ay⟩:=B.ht I m1;obtain⟨a5,aL⟩:=B.ht J m2;obtain⟨_,_,n1,n2⟩:=B.nk I m1;obtain⟨_,_,n3,n4⟩:=B.nk J m2;have bq:=bJ B m1;have br:=bJ B m2;obtain⟨x,hx,ex⟩:=lh bq.1<|two / 64;obtain⟨y,hy,ey⟩:=lh br.1<|one / 64;refine qa a4 ⟨⟨by decide,by decide⟩,qa a4 (qa ay ⟨(by show(0:Int)<((zv I.E).length:Int);rw[U];omega),qa ay<|qf ex ?_⟩)⟩;refine qa a5 ⟨⟨by decide,by decide⟩,qa a5 (qa aL ⟨(by show(0:Int)<((zv J.E).length:Int);rw[U];omega),qa aL<|qf ey ?_⟩)⟩;refine qa B.hk (qj B.hk ⟨big _ (by rw[Ae];exact eM),?_⟩);have ek:vg j++[.tup [.str "both",.int ((x:Nat):Int),.int ((y:Nat):Int)]]=vg (j++[.nd false x y]):=by unfold vg;rw[Ax];rfl
 rw[ek];have k3:∀z o,z≠ka->L2 z=some o->qi L2 ka (.lst<|vg<|j++[.nd false x y]) z=some o:=λz o n e=>(qc n).trans e;have bf:qi L2 ka (.lst<|vg<|j++[.nd false x y]) ka=some (.lst<|vg<|j++[.nd false x y]):=q9;generalize qi L2 ka _=L3 at bf k3 ⊢;refine qa (k3 _ _ n1 a4) (qa (k3 _ _ n3 a5) ⟨_,_,k3 _ _ n2 ay,k3 _ _ n4 aL,cz (by rw[U,U];lia),λpp bg=>?_⟩);rw[<-jE];refine JW (E:=I.E++J.E) (l:=x) (r:=y) (k:=9) q9 (by rw[Ac];lia) (λy' Q' h=>h) (λ_=>rfl) λpe bh=>?_;generalize hL:qi (qi L3 pp _) pe _=L4;have s4:qh L3 L4:=by rw[<-hL];exact(By bg).trans (By bh)
 have c1:L4 pe=some (.lst<|zv<|kg I.E J.E x y):=by rw[<-hL];exact q9
 clear hL bg bh;have k4:∀z o,z≠ka->L2 z=some o->L4 z=some o:=λz o n e=>s4 _ _<|k3 z o n e;have ba:=s4 _ _ bf;have bb:=k4 _ _ (AH B.nkf) ax;have nn:(((vg<|j++[.nd false x y]).length:Nat):Int)-1=((j.length:Nat):Int):=by rw[Ae,Ac];simp
 have lb:(kg I.E J.E x y).length<=(I.E++J.E).length:=CQ ..;rw[Ac] at lb;refine qa bb<|qa ba<|qa (k4 _ _ n1 a4)<|qa (k4 _ _ n3 a5)<|qa ba λpn C=>?_;refine⟨_,_,By C _ _ c1,q9,cz (by rw[U];show _+1<=1000;lia),λpb ac pa al=>?_⟩;have bi:pb≠pa:=kw q9 al;have nb:=(By C).none ac;have na:=((By C).trans<|By ac).none al;generalize hL:qi (qi (qi L4 pn _) pb _) pa _=L7;have s7:qh L4 L7:=by rw[<-hL];exact((By C).trans<|By ac).trans (By al)
 have ea:L7 pa=some (.lst [jj<|.bo j.length I.R J.R,.ref pb]):=by rw[<-hL,q9];dsimp only;rw[nn];rfl
 have eb:L7 pb=some (.lst<|zv<|kg I.E J.E x y++[j.length]):=by rw[<-hL,qc bi,q9];dsimp only;rw[nn,jE];rfl
 clear hL C ac al;refine qj (s7 _ _ bb) ⟨big _ (by rw[p];lia),?_⟩;have s1:=B.sr I m1;have s2:=B.sr J m2;have bc:∀z,z∈I.E->z∈J.E->False:=λz h1 h2=>B.two z (s1.sub z h1)<|s2.sub z h2;have bm:=y0 (E1:=I.E) (E2:=J.E) (λh=>bc x hx h) λh=>bc y h hy;refine xt (q _ (j++[.nd false x y]) (rest++[⟨pa,pb,.bo j.length I.R J.R,kg I.E J.E x y++[j.length]⟩]) ⟨(bY.put (old:=[I,J]) B k4 ba bb na nb (AH bi) s7 ea eb (B.ok.snoc ⟨s1.lt x<|s1.sub x hx,s2.lt y<|s2.sub y hy⟩) (.bo (dR _ _ _) (s1.more _) (s2.more _) hx hy (λz=>?_) ?_) ?_).setF _,by rw[q9,gE]⟩ (by rw[Ac];rfl) (by rw[Ac];simp;lia) ⟨⟨_,rfl,λk hk=>⟨_,_,_,Ao.mp hk⟩⟩,λh t ht=>?_⟩)
 ·rw[Ak,bm,Ao,or_assoc]
 ·rw[Av];refine⟨yP s1.nod s2.nod bc,by simp,λu hu v hv e=>?_⟩;rw[Ao.mp hv] at e;rcases (bm u).mp hu with⟨h,_⟩|⟨h,_⟩
  ·have:=s1.lt u<|s1.sub u h;lia
  ·have:=s2.lt u<|s2.sub u h;lia
 ·show(j.length::(qz I.R++qz J.R)).Perm (List.range' j.length 1++([I,J].flatMap λt=>qz t.R));simp[Es]
 ·have h':∀u∈I::J::rest,Ft u.R:=λu hu=>h u<|bd.mem_iff.mpr hu;rcases Ak.mp ht with ht|ht
  ·exact h' t<|Ai _<|Ai _ ht
  ·rw[Ao.mp ht];exact⟨h' I m1,h' J m2⟩
def uA{E:Wi}{k:Int}(h:0<E.length):∃(j x:Nat),E[j]?=some x/\0<=k % ((zv E).length:Int)/\k % ((zv E).length:Int)<((zv E).length:Int)/\
 (zv E)[(k % ((zv E).length:Int)).toNat]?=some (.int ((x:Nat):Int))/\(zv E).eraseIdx (k % ((zv E).length:Int)).toNat=zv (E.eraseIdx j):=by
 obtain⟨j,x,J,U,I⟩:=dX h k;have e:(zv E).length=E.length:=Ae ..;rw[e,J];refine⟨j,x,I,by exact AV _,by lia,?_,?_⟩
 ·show(zv E)[j]?=_;rw[Al,I];rfl
 ·exact jH _ E j
def HE{a:Addr}{o:LO}:∀z u,z≠a->L z=some u->qi L a o z=some u:=λz u n e=>(qc n).trans e
inductive iI(ys:List Y)(L:qk)(Q:YK):Prop
 |mk:∀L0 ka fa ks,∀pre post:WE,∀t:Tr,∀one two:Int,(ys=[.ref ka,.ref t.a,.int one,.int two])->(oV L0 L ka fa ks<|pre++t::post)->(ks.length<=200)->(∀L' ks' fo',oV L0 L' ka fa ks' fo'->ks'.length<=ks.length+1->fo'.length=(pre++t::post).length->JV ks (pre++t::post) ks' fo'->Q .non L')->iI ys L Q
theorem TQ:∀ys L Q,iI ys L Q->xi yd.1 6 ys L Q:=by
 rintro ys L Q ⟨L0,T,fa,I,pre,post,t,one,two,rfl,F,bf,q⟩;have big:=a_;have mt:t∈pre++t::post:=by simp
 have B:=F.b;obtain⟨ta,tb⟩:=B.ht t mt;have le:=bJ B mt;have s:=B.sr t mt;have U:∀E:Wi,(zv E).length=E.length:=λE=>Ae ..;refine qa ta<|qa tb ?_;refine zo (λc=>?_) λc=>?_
 ·exact xt<|q L I _ F (CU _) rfl ⟨⟨[],(AN _).symm,λk hk=>by cases hk⟩,λh=>h⟩
 have c:¬(((zv t.E).length:Int)<2):=c;rw[U] at c;have ad:=B.ad;have nkf:=B.nkf;have nk:=B.nk;have r:t.a≠t.b:=by rw[AE,AE,AR,Bh,Av,Av] at ad;have:=ad.2.2.2.1.1;simpa[Tr.ads] using this
 obtain⟨C,x,e1,a1,a2,a3,a4⟩:=uA (k:=two) le.1;refine qa ta (qa tb (qa ta (qa tb ⟨(by show(0:Int)<((zv t.E).length:Int);rw[U];omega),qj tb ⟨a1,a2,qf a3 ?_⟩⟩)));rw[a4];have bi:(t.E.eraseIdx C).length+1=t.E.length:=by have:=(xr e1).length_eq;rw[AL] at this;lia
 have ac:qi L t.b (.lst<|zv<|t.E.eraseIdx C) t.a=some (.lst [jj t.R,.ref t.b]):=by rw[qc r];exact ta
 obtain⟨j2,y,e2,b1,b2,b3,b4⟩:=uA (E:=t.E.eraseIdx C) (k:=one) (by lia);refine qa ac (qa q9 (qa ac (qa q9 ⟨(by show(0:Int)<((zv<|t.E.eraseIdx C).length:Int);rw[U];omega),qj q9 ⟨b1,b2,qf b3 ?_⟩⟩)));rw[b4,vj];have bg:((t.E.eraseIdx C).eraseIdx j2).length+1=(t.E.eraseIdx C).length:=by have:=(xr e2).length_eq;rw[AL] at this;lia
 have pE:t.E.Perm (x::y::(t.E.eraseIdx C).eraseIdx j2):=(xr e1).trans<|(xr e2).cons _;generalize (t.E.eraseIdx C).eraseIdx j2=j at bg pE;have nt:=nk t mt;have k1:=HE (L:=L) (a:=t.b) (o:=.lst<|zv j);have al:qi L t.b (.lst<|zv j) t.b=some (.lst<|zv j):=q9;generalize qi L t.b _=L1 at k1 al ⊢;have ax:=k1 _ _ (AH nt.2.2.2) B.hk;refine qa ax (qj ax ⟨big _ (by rw[Ae];exact eM),?_⟩);have ek:vg I++[.tup [.str "either",.int ((x:Nat):Int),.int ((y:Nat):Int)]]=vg (I++[.nd true x y]):=by unfold vg;rw[Ax];rfl
 rw[ek];have nn:(((vg<|I++[.nd true x y]).length:Nat):Int)-1=((I.length:Nat):Int):=by rw[Ae,Ac];simp
 have k2:=HE (L:=L1) (a:=T) (o:=.lst<|vg<|I++[.nd true x y]);have a5:qi L1 T (.lst<|vg<|I++[.nd true x y]) T=some (.lst<|vg<|I++[.nd true x y]):=q9;generalize qi L1 T _=L2 at k2 a5 ⊢;have ay:=k2 _ _ nt.2.2.1<|k1 _ _ r ta;refine qa a5<|qa ay<|qj ay<|qf (v:=0) rfl ?_;generalize hL:qi L2 t.a _=L3;have aL:L3 t.a=some (.lst [jj<|.ei I.length t.R,.ref t.b]):=by rw[<-hL,q9];dsimp only;rw[nn];rfl
 have k3:∀z o,z≠t.a->L2 z=some o->L3 z=some o:=by rw[<-hL];exact HE
 clear hL;have ba:=k3 _ _ (AH nt.2.2.1) a5;have bb:=k3 _ _ (AH r)<|k2 _ _ nt.2.2.2 al;have g:∀b u,b≠t.a->b≠t.b->b≠T->L b=some u->L3 b=some u:=λb u n1 n2 n3 e=>k3 _ _ n1<|k2 _ _ n3<|k1 _ _ n2 e;refine qa aL (qa bb (qa ba (qj bb ⟨big _ (by rw[U];lia),?_⟩)));have en:zv j++[.int<|(((vg<|I++[.nd true x y]).length:Nat):Int)-1]=zv (j++[I.length]):=by rw[nn];unfold zv;rw[Ax];rfl
 have l:=pE.nodup_iff.mp s.nod;rw[AE,AE] at l;have hx:x∈t.E:=pE.mem_iff.mpr (by simp);have hy:y∈t.E:=pE.mem_iff.mpr (by simp);have bh:∀u∈pre++post,u.a≠t.a/\u.a≠t.b/\u.b≠t.a/\u.b≠t.b:=λu J=>by have p:(pre++t::post).Perm (t::(pre++post)):=Co;have bc:=(p.flatMap_right Tr.ads).nodup_iff.mp (by rw[AE,AE] at ad;exact ad.2.2);rw[Bh,Av] at bc;have k:=bc.2.2;have ma:u.a∈(pre++post).flatMap Tr.ads:=Bz.mpr ⟨u,J,by simp[Tr.ads]⟩;have mb:u.b∈(pre++post).flatMap Tr.ads:=Bz.mpr ⟨u,J,by simp[Tr.ads]⟩;exact⟨λe=>k t.a (by simp[Tr.ads]) u.a ma e.symm,λe=>k t.b (by simp[Tr.ads]) u.a ma e.symm,λe=>k t.a (by simp[Tr.ads]) u.b mb e.symm,λe=>k t.b (by simp[Tr.ads]) u.b mb e.symm⟩
 refine xt (q _ (I++[.nd true x y]) (pre++⟨t.a,t.b,.ei I.length t.R,j++[I.length]⟩::post) ⟨?_,?_⟩ (by rw[Ac];exact An _) (by simp) ⟨⟨_,rfl,λk hk=>⟨_,_,_,Ao.mp hk⟩⟩,λh u J=>?_⟩)
 rotate_right
 ·rcases Ak.mp J with J|J
  ·exact h u<|Am _ J
  ·rcases As.mp J with rfl|J
   ·exact h t mt
   ·exact h u<|Ah _<|Ai _ J
 ·have B':=B.perm (fo':=[t]++(pre++post)) Co;have st:=bY.step (old:=[t]) (rest:=pre++post) (t':=⟨t.a,t.b,.ei I.length t.R,j++[I.length]⟩) (ms:=[.nd true x y]) (L':=qi L3 t.b<|.lst<|zv j++[.int<|(((vg<|I++[.nd true x y]).length:Nat):Int)-1]) B' ?_ ⟨?_,?_⟩ (λu J=>?_) (λb o e=>?_) ?_ (λz hz=>?_) ?_ ?_ ?_
  ·exact st.perm (by have p1:((pre++post)++[(⟨t.a,t.b,.ei I.length t.R,j++[I.length]⟩:Tr)]).Perm ((⟨t.a,t.b,.ei I.length t.R,j++[I.length]⟩:Tr)::(pre++post)):=Cs _ _;exact p1.trans Co.symm)
  ·rw[qc<|AH (nk t mt).2.2.2];exact ba
  ·rw[qc r];exact aL
  ·rw[q9,en]
  ·have bd:u∈pre++t::post:=by rcases Ak.mp J with h|h;exact Am _ h;exact Ah _ (Ai _ h)
   obtain⟨n1,n2,n3,n4⟩:=bh u J;obtain⟨k1,k2,k3,k4⟩:=nk u bd;obtain⟨h1,h2⟩:=B.ht u bd;rw[h1,h2,qc n2,qc n4];exact⟨g _ _ n1 n2 k3 h1,g _ _ n3 n4 k4 h2⟩
  ·have fr:=B.fr;have n0:∀z,L0 z=none->b≠z:=λz hz w=>by rw[w,hz] at e;cases e
   have n1:=n0 T<|fr T (by simp);have n2:=n0 t.a<|fr t.a (by simp[Tr.ads]);have n3:=n0 t.b<|fr t.b (by simp[Tr.ads]);rw[qc n3];exact g _ _ n2 n3 n1<|B.sub _ _ e
  ·have p:(pre++t::post).Perm ((pre++post)++[t]):=Co.trans (Cs _ _).symm;have e:((pre++post)++[(⟨t.a,t.b,.ei I.length t.R,j++[I.length]⟩:Tr)]).flatMap Tr.ads=((pre++post)++[t]).flatMap Tr.ads:=by simp[AR,Tr.ads]
   rw[e];exact(((p.flatMap_right Tr.ads).cons _).cons _).nodup_iff.mp ad
  ·have hz:z=t.a\/z=t.b:=by simpa[Tr.ads] using hz
   rcases hz with rfl|rfl
   ·exact B.fr _ (by simp[Tr.ads])
   ·exact B.fr _ (by simp[Tr.ads])
  ·exact B.ok.snoc ⟨s.lt x<|s.sub x hx,s.lt y<|s.sub y hy⟩
  ·refine .ei (dR _ _ _) (s.more _) hx hy (λe=>l.1 (by rw[e];exact Ar ..)) (λz=>?_) ?_
   ·rw[Ak,Ao];have hm:=pE.mem_iff (a:=z);rw[As,As] at hm;have h1:z∈j->z≠x/\z≠y:=λh=>⟨λe=>l.1 (by rw[<-e];exact Ai _ h),λe=>l.2.1<|e▸h⟩;constructor
    ·rintro(h|h)
     ·exact .inl ⟨hm.mpr<|.inr<|.inr h,h1 h⟩
     ·exact .inr h
    ·rintro(⟨h,c1,c2⟩|h)
     ·rcases hm.mp h with e|e|e
      ·exact absurd e c1
      ·exact absurd e c2
      ·exact .inl e
     ·exact .inr h
   ·rw[Av];refine⟨l.2.2,by simp,λu J v hv e=>?_⟩;rw[Ao.mp hv] at e;have:u∈t.E:=pE.mem_iff.mpr<|Ai _<|Ai _ J;have:=s.lt u<|s.sub u this;lia
  ·show(I.length::qz t.R).Perm (List.range' I.length 1++([t].flatMap λt=>qz t.R));simp[Es]
 ·have nf:=nk t mt;rw[qc<|AH nf.2.1];have:=g fa _ (AH nf.1) (AH nf.2.1) (AH nkf) F.hf;rw[this];unfold zn;rw[Ax,Ax];rfl
def TR(I:vh)(p1:vh)(p2:vh)(p3:vh):bB:=(jm (xz (iQ mK (qg 1)<|qm (xu eF (qg 3)<|rD 1) ji)<|qo 4)
 (jm (xz (xu hU (e9 4 1)<|xu eF (xu xW (qg 3)<|k8 64)<|pQ vI<|dI<|e9 4 1)<|qo 5)
 (jm (xz (jt I<|eG (qg 0)<|qg 5)<|qo 6)
 (jm (xz (Hz (yC .non)<|yC .non)<|fC 2<|jx (qo 7)<|jx (qo 8) cQ)
 (jm (uY (rB<|dI<|rD 1) (qo 9)<|uY (bw<|xu hU (xu hU (qg 1)<|qg 9)<|k8 1) (qo 10)<|aR (lL (yB<|oE false<|qg 7)<|oO (jt I<|eG (qg 0)<|qg 10)<|jt p1<|dI<|qg 6) (xz (ah<|qm (xu hU (qg 1)<|qg 9)<|dI<|qg 10)<|fC 2<|jx (qo 7)<|jx (qo 8) cQ) dE)
 (jm (aR (lL (yB<|oE false<|qg 7)<|yB<|xu IY (jt p2<|dI<|qg 6)<|k8 5) (jm (vi<|iQ xl (qg 1)<|dI<|qg 4)
 IG) dE)
 (nQ (aR (yB<|oE false<|qg 7) (jm (xz (jt p3<|eG (qg 0)<|qg 6)<|JD 3<|jx (qo 11)<|jx (qo 8)<|jx (qo 12) cQ)
 (xz (fh<|qm (qg 11)<|qm (fh<|eG (qg 8)<|qg 12) ji)<|qo 7))<|vi<|iQ l5 (qg 1)<|dI<|qg 7)
 (jm (xz (i_ 1 (bw<|xu fi (e9 4 1)<|e9 7 1) (qo 14) (yB<|xu (wV true) (qg 14)<|Hz (qg 5)<|qg 8)<|qg 14)<|qo 13)
 (aR (oO (xu eF (qg 2)<|k8 2)<|k8 0) (vi<|iQ xl (qg 1)<|qm (fh<|qm (ah<|qm (vB "cut")<|qm (qg 5)<|qm (qg 8)<|eG (e9 4 0)<|e9 7 0)<|dI<|qg 13) ji)<|vi<|iQ xl (qg 1)<|qm (fh<|qm (ah<|qm (vB "cut")<|qm (qg 8)<|qm (qg 5)<|eG (e9 7 0)<|e9 4 0)<|dI<|qg 13) ji)))))))))
theorem rF:∀a b:List Da,Da.eqs a b=true->a.length=b.length
 |[],[],_=>rfl
 |[],_::_,h=>by cases h
 |_::_,[],h=>by cases h
 |x::r,y::q,h=>by have h:(Da.eq x y&&Da.eqs r q)=true:=h;rw[AS] at h;rw[AL,AL,rF r q h.2]
def TU(u:Wd):∀v:Wd,Da.eq (nO u) (nO v)=true->u=v:=by
 induction u with
 |leaf t n=>
  intro v h;cases v with
  |leaf o p=>
   rw[yn,AS] at h;rw[of_decide_eq_true h.1,of_decide_eq_true h.2]
  |node e l r=>exact absurd (rF _ _ h) (by intro z;cases z)
 |node e l r g j=>
  intro v h;cases v with
  |leaf t n=>exact absurd (rF _ _ h) (by intro z;cases z)
  |node I J U=>
   have h:(gZ (.str<|kN e) (.str<|kN I)&&(Da.eq (nO l) (nO J)&&(Da.eq (nO r) (nO U)&&true)))=true:=h;rw[AS,AS,AS] at h;obtain⟨h1,h2,h3,_⟩:=h;have:e=I:=by cases e<;>cases I<;>first|rfl|(exfalso;revert h1;decide +kernel)
   rw[this,g J h2,j U h3]
def aH:Ru->Nat
 |.link _ _=>1
 |.ei _ A=>aH A+1
 |.bo _ A B=>max (aH A) (aH B)+1
 |.cu _ _ A B=>max (aH A) (aH B)+1
theorem aJ:∀R:Ru,aH R+1<=(qz R).length
 |.link _ _=>An _
 |.ei _ A=>by have:=aJ A;simp[aH,qz];lia
 |.bo _ A B=>by have:=aJ A;have:=aJ B;simp[aH,qz];lia
 |.cu _ _ A B=>by have:=aJ A;have:=aJ B;simp[aH,qz];lia
def cY:Ru->Da
 |.link p q=>.tup [.s<|.str "link",.s<|.int (p:Int),.s<|.int (q:Int)]
 |.ei r A=>.tup [.s<|.str "either",.s<|.int (r:Int),cY A]
 |.bo r A B=>.tup [.s<|.str "both",.s<|.int (r:Int),cY A,cY B]
 |.cu p q A B=>.tup [.s<|.str "cut",.s<|.int (p:Int),.s<|.int (q:Int),cY A,cY B]
theorem dQ{L:qk}:∀{R:Ru} {n:Nat},aH R<=n->jc L n (jj R) (cY R)
 |.link p q,n+1,_=>w4<|.cons (E7 _)<|.cons (EX _)<|.cons (EX _) .nil
 |.ei r A,n+1,h=>w4 (.cons (E7 _) (.cons (EX _) (.cons (dQ (by simp[aH] at h;lia)) .nil)))
 |.bo r A B,n+1,h=>w4 (.cons (E7 _) (.cons (EX _) (.cons (dQ (by simp[aH] at h;lia)) (.cons (dQ (by simp[aH] at h;lia)) .nil))))
 |.cu p q A B,n+1,h=>w4 (.cons (E7 _) (.cons (EX _) (.cons (EX _) (.cons (dQ (by simp[aH] at h;lia)) (.cons (dQ (by simp[aH] at h;lia)) .nil)))))
 |.link _ _,0,h=>by simp[aH] at h
 |.ei _ _,0,h=>by simp[aH] at h
 |.bo _ _ _,0,h=>by simp[aH] at h
 |.cu _ _ _ _,0,h=>by simp[aH] at h
theorem bF:∀R:Ru,Da.eq (cY R) (cY R)=true
 |.link p q=>by simp[cY,Da.eq,Da.eqs,gZ]
 |.ei r A=>by simp[cY,Da.eq,Da.eqs,gZ,bF A]
 |.bo r A B=>by simp[cY,Da.eq,Da.eqs,gZ,bF A,bF B]
 |.cu p q A B=>by simp[cY,Da.eq,Da.eqs,gZ,bF A,bF B]
def gR(E:Wi):List Da:=E.map λn:Nat=>Da.s<|.int (n:Int)
theorem rA{L:qk}{n:Nat}:∀E:Wi,Paired (jc L n) (zv E)<|gR E
 |[]=>.nil
 |_::r=>.cons (EX _)<|rA r
theorem iS:∀E I:Wi,Da.eqs (gR E) (gR I)=true↔E=I
 |[],[]=>by simp[gR,Da.eqs]
 |[],_::_=>by simp[gR,Da.eqs]
 |_::_,[]=>by simp[gR,Da.eqs]
 |x::r,y::J=>by
  have U:=iS r J;show(Da.eq (.s<|.int (x:Int)) (.s<|.int (y:Int))&&Da.eqs (gR r) (gR J))=true↔_;rw[AS,U];have:Da.eq (.s<|.int (x:Int)) (.s<|.int (y:Int))=true↔x=y:=by show decide ((x:Int)=(y:Int))=true↔_;rw[DX];lia
  rw[this];constructor
  ·rintro⟨rfl,rfl⟩;rfl
  ·intro e;injection e with g j;exact⟨g,j⟩
def fg(t:Tr):Da:=.lst [cY t.R,.lst<|gR t.E]
def rY{t:Tr}(I:L t.a=some (.lst [jj t.R,.ref t.b]))(J:L t.b=some (.lst<|zv t.E))(h:aH t.R<=n+1):jc L (n+2) (.ref t.a) (fg t):=
 we I (.cons (dQ h)<|.cons (we J<|rA _) .nil)
def TX{t u:Tr}:Da.eq (fg t) (fg u)=true->t.E=u.E:=by intro h;have h:(Da.eq (cY t.R) (cY u.R)&&(Da.eqs (gR t.E) (gR u.E)&&true))=true:=h;rw[AS,AS] at h;exact(iS _ _).mp h.2.1
def TY(t:Tr):Da.eq (fg t) (fg t)=true:=by show(Da.eq (cY t.R) (cY t.R)&&(Da.eqs (gR t.E) (gR t.E)&&true))=true;rw[bF,(iS _ _).mpr rfl];rfl
def bY.rd(h:bY L0 L ka fa ks fo){t:Tr}(I:t∈fo):aH t.R<=ks.length:=by
 have h1:=aJ t.R;have nd:(qz t.R).Nodup:=by obtain⟨a,b,rfl⟩:=CN I;have:=h.nd;rw[AR,Bh,Av,Av] at this;exact this.2.1.1
 have:=bV _ _ nd λx J=>(h.sr t I).lt x J;exact Ip
def bY.one(h:bY L0 L ka fa ks fo){t u:Tr}(hi:fo[i]?=some t)(I:fo[j]?=some u)(e:t.E=u.E):i=j:=by
 by_cases c:i=j
 ·exact c
 ·exfalso;have s:=h.sr t<|AC hi;have l:=s.ends h.ok;obtain⟨x,J⟩:∃x,x∈t.E:=by cases g:t.E with|nil=>rw[g] at l;simp at l|cons x r=>exact⟨x,Ar ..⟩
  have o:=h.sr u<|AC I;have p:=xr hi;have C:(u::(fo.eraseIdx i))=_:=rfl;have U:u∈fo.eraseIdx i:=by have:fo[j]?=some u:=I;rw[List.mem_eraseIdx_iff_getElem?];exact⟨j,λz=>c z.symm,I⟩
  obtain⟨a,b,T⟩:=CN U;have nd:=(p.flatMap_right λt:Tr=>qz t.R).nodup_iff.mp h.nd;rw[Bh,Av] at nd;exact nd.2.2 x (s.sub x J) x (Bz.mpr ⟨u,U,o.sub x<|e▸J⟩) rfl
theorem nM:∀w:Wd,w.turn.turn=w
 |.leaf t n=>by simp[Wd.turn]
 |.node e l r=>by simp[Wd.turn,nM l,nM r]
theorem dk:∀w:Wd,w.turn.depth=w.depth
 |.leaf t n=>rfl
 |.node e l r=>by simp[Wd.turn,Wd.depth,dk l,dk r]
def Fd(ks:WC)(w:Wd)(rest:WE)(I J:Y):Prop:=(I=.non/\J=.non)\/∃(j:Nat) (u:Tr) (q:Nat),rest[j]?=some u/\q∈u.E/\dO ks q w.turn/\I=.ref u.a/\J=.int (q:Int)
def TZ{g j:qk}{t1 u:Tr}{x q:Nat}{w:Wd}(B:bY L0 g ka fa ks<|t1::u::rest){fs:LO}(hf:g fa=some fs)(hx:x∈t1.E)(hq:q∈u.E)(o:dO ks x w)(p:dO ks q w.turn){I:Addr}(s:qh g j)(a1:g I=none)
 (he:j I=some (.lst<|zv<|kg t1.E u.E x q)) (J:j pa=none) (hR:R=.cu x q t1.R u.R\/R=.cu q x u.R t1.R):bY L0 (qi j pa<|.lst [jj R,.ref I]) ka fa ks (rest++[⟨pa,I,R,kg t1.E u.E x q⟩]):=by
 have t:I≠pa:=kw he J;have C:=B.sr t1 (by simp);have T:=B.sr u (by simp);have U:∀z,z∈t1.E->z∈u.E->False:=λz h1 h2=>B.two z (C.sub z h1)<|T.sub z h2;have bm:=y0 (E1:=t1.E) (E2:=u.E) (λh=>U x hx h) λh=>U q h hq;have nod:=yP (l:=x) (r:=q) C.nod T.nod U;have st:=bY.put (M:=g) (L':=qi j pa<|.lst [jj R,.ref I]) (old:=[t1,u]) (ms:=[]) (R:=R) (E:=kg t1.E u.E x q) (pa:=pa) (pb:=I) B (λ_ _ _ e=>e) (by rw[AN];exact B.hk) hf (s.none J) a1 (AH t) (s.trans<|By J) q9 (by rw[qc t];exact he) (by rw[AN];exact B.ok) ?_ ?_
 ·rw[AN] at st;exact st
 ·rw[AN];rcases hR with rfl|rfl
  ·exact .cu C T hx hq o p bm nod
  ·exact .cu (w:=w.turn) T C hq hx p (by rw[nM];exact o) (λz=>by rw[bm];exact Or.comm) nod
 ·rcases hR with rfl|rfl
  ·show(qz t1.R++qz u.R).Perm _;simp
  ·show(qz u.R++qz t1.R).Perm _;simpa using Bd
def CJ(L0:qk)(ka fa:Addr)(ks:WC)(one two:Int)(t1:Tr)(x:Nat)(w:Wd)(n:Nat)(τ:j9)(L:qk):Prop:=∃ms u q rest g I J U,τ=[some<|.ref ka,some<|.ref fa,some<|.int one,some<|.int two,some<|.ref t1.a,some<|.int (x:Int),some<|bM w,some<|.ref u.a,some<|.int ((q:Nat):Int),g,I,J,U,none]/\
 bY L0 L ka fa (ks++ms) (t1::u::rest)/\L fa=some (.lst<|zn rest)/\q∈u.E/\dO (ks++ms) q w.turn/\ms.length<=10/\rest.length<=n
inductive lg(ys:List Y)(L:qk)(Q:YK):Prop
 |mk:∀L0 ka fa ks fo,∀one two:Int,(ys=[.ref ka,.ref fa,.int one,.int two])->(oV L0 L ka fa ks fo)->(1<=fo.length)->(fo.length<=110)->(ks.length<=110)->(∀L' ks' fo',oV L0 L' ka fa ks' fo'->ks'.length<=ks.length+10->1<=fo'.length->fo'.length<=fo.length->Q .non L')->lg ys L Q
theorem T3{FS MS:vh}(hF:∀ys L Q,w5 120 ys L Q->FS ys L Q)(hM:∀ys L Q,aN 5 ys L Q->MS ys L Q):∀ys L Q,lg ys L Q->xi (TR (xq 120) FS (bG 120) MS) 14 ys L Q:=by
 rintro ys L Q ⟨L0,ka,fa,ks,fo,one,two,rfl,F,h1,c4,bq,q⟩;have big:=a_;have C:∀fo:WE,(zn fo).length=fo.length:=λfo=>Ae ..;obtain⟨j1,I,bd,a1,a2,a3,g⟩:=wX (k:=two) F.hf (by assumption);have l1:(fo.eraseIdx j1).length+1=fo.length:=by have:=(xr bd).length_eq;rw[AL] at this;lia
 refine qa F.hf (qa F.hf ⟨(by show(0:Int)<((zn fo).length:Int);rw[C];lia),qj F.hf ⟨a1,a2,qf a3 ?_⟩⟩);have B:=(F.b.perm<|xr bd).setF<|.lst<|(zn fo).eraseIdx (two % ((zn fo).length:Int)).toNat;generalize qi L fa _=L1 at g B ⊢;generalize fo.eraseIdx j1=rest at l1 g B;clear a1 a2 a3;have m1:I∈I::rest:=by simp
 obtain⟨a4,ac⟩:=B.ht I m1;have al:=bJ B m1;have s1:=B.sr I m1;obtain⟨x,hx,ex⟩:=lh al.1<|two / 64;refine qa a4 ⟨⟨by decide,by decide⟩,qa a4 (qa ac ⟨(by show(0:Int)<((zv I.E).length:Int);rw[Ae];omega),qa ac<|qf ex ?_⟩)⟩;obtain⟨w,hw,c6,bf⟩:=nG B.ok (x+1) x (by exact BD _)<|s1.lt x<|s1.sub x hx;have c7:=s1.lt x<|s1.sub x hx;refine⟨ka,vg ks,x,w,rfl,B.hk,hw,by lia,?_⟩;have c8:w.turn.depth=w.depth:=dk w;refine qa g ⟨⟨by show _<=(((zn rest).length:Nat):Int);exact AV _,by show(((zn rest).length:Nat):Int)<_;rw[C];omega⟩,?_⟩;refine rN (λi τ L'=>∃v7 v8 c9 T,τ=[some<|.ref ka,some<|.ref fa,some<|.int one,some<|.int two,some<|.ref I.a,some<|.int (x:Int),some<|bM w,some v7,some v8,c9,T,none,none,none]/\L'=L1/\Fd ks w rest v7 v8) ⟨_,_,_,_,rfl,rfl,.inl ⟨rfl,rfl⟩⟩ ?_ ?_
 ·rintro i τ L' hi ⟨v7,v8,c9,T,rfl,rfl,fd⟩;have hi:i<rest.length:=by have:i<(((zn rest).length:Nat):Int).toNat:=hi;rw[C] at this;assumption
  obtain⟨u,hu⟩:∃u,rest[i]?=some u:=⟨_,Ag hi⟩;have mu:u∈I::rest:=Ai _<|AC hu;obtain⟨ua,ub⟩:=B.ht u mu;have ei:(zn rest)[i]?=some (.ref u.a):=by unfold zn;rw[Al,hu];rfl
  have e0:(0:Int)+(i:Int)=((i:Nat):Int):=by simp +arith only
  rw[e0];have bg:eI (zn rest) ((i:Nat):Int)=some (.ref u.a):=x5 ei;have le:=bJ B mu;have su:=B.sr u mu;refine qa g<|qf bg<|qa ua ?_;refine yY (ys:=zv u.E) (wx ub) (λk τ ax=>∃v7 v8 T,τ=[some<|.ref ka,some<|.ref fa,some<|.int one,some<|.int two,some<|.ref I.a,some<|.int (x:Int),some<|bM w,some v7,some v8,some<|.int ((i:Nat):Int),T,none,none,none]/\ax=L'/\Fd ks w rest v7 v8) ⟨_,_,_,rfl,rfl,fd⟩ ?_ ?_ ?_
  ·rintro k τ _ ⟨_,_,_,_,rfl,_⟩;rfl
  ·rintro k y τ ax ey ⟨v7,v8,T,rfl,rfl,fd⟩;obtain⟨z,ez,rfl⟩:∃z:Nat,u.E[k]?=some z/\y=Y.int (z:Int):=by rw[Al] at ey;obtain⟨z,e1,e2⟩:=Aq.mp ey;exact⟨z,e1,e2.symm⟩
   have hz:z∈u.E:=AC ez;rcases fd with⟨rfl,rfl⟩|⟨j,t,q0,h1,h2,h3,rfl,rfl⟩
   ·have br:=su.lt z<|su.sub z hz;obtain⟨v,hv,cb,c5⟩:=nG B.ok (z+1) z (by exact BD _) br;refine⟨ka,vg ks,z,v,rfl,B.hk,hv,by lia,hF _ _ _ ⟨w,rfl,by lia,?_⟩⟩;refine mC (u:=v) (v:=w.turn) (by lia) ?_;show wf (Da.eq (nO v)<|nO w.turn) _ _;refine PL (λc=>?_) λc=>?_
    ·have hh:=TU _ _ c;refine qa g<|qf bg ?_;refine⟨_,ER _,?_⟩;exact⟨_,_,_,rfl,rfl,.inr ⟨i,u,z,hu,hz,hh▸hv,rfl,rfl⟩⟩
    ·refine⟨_,ER _,?_⟩;exact⟨_,_,_,rfl,rfl,.inl ⟨rfl,rfl⟩⟩
   ·refine⟨_,ER _,?_⟩;exact⟨_,_,_,rfl,rfl,.inr ⟨j,t,q0,h1,h2,h3,rfl,rfl⟩⟩
  ·rintro τ ax ⟨v7,v8,T,rfl,rfl,fd⟩;refine⟨_,ER _,?_⟩;exact⟨_,_,_,_,rfl,rfl,fd⟩
 ·rintro τ L' ⟨v7,v8,c9,T,rfl,rfl,fd⟩;rcases fd with⟨rfl,rfl⟩|⟨j,u,q0,hj,ay,aL,rfl,rfl⟩
  case' inl=>
   refine⟨w,rfl,by lia,?_⟩;show wf (decide<|(w.size:Int) > 5) _ _;refine zo (λc=>?_) λc=>?_
   case' refine_1=>
    refine qa g (qj g ⟨big _ (by rw[C];lia),?_⟩);rw[<-gE];exact xt (q _ ks (rest++[I]) ⟨(B.perm (Cs _ _).symm).setF _,q9⟩ (by exact A9 _ _) (by simp) (by rw[Ac];simp;exact uz))
   case' refine_2=>
    refine⟨CJ L0 ka fa ks one two I x w rest.length,?_,?_⟩
    ·refine hM _ _ _ ⟨ka,ks,w,rfl,B.hk,(by have h1:=w.depth_le;have h2:=w.size_eq;lia),(by decide),bf,B.ok,by lia,λms R tp sp p hp a5=>?_⟩;refine qj q9 ?_;intro pb ba pa J;have bb:qi L' ka (.lst<|vg<|ks++ms) p=none:=by rw[qc<|AH<|kw B.hk hp];exact hp
     have bh:pb≠pa:=kw q9 J;have nb:=(By bb).none ba;have na:=((By bb).trans<|By ba).none J;have bi:qi L' ka (.lst<|vg<|ks++ms) fa=some (.lst<|zn rest):=by rw[qc<|AH B.nkf];exact g
     generalize hL:qi (qi (qi _ p _) pb _) pa _=LF;have sA:qh (qi L' ka<|.lst<|vg<|ks++ms) LF:=by rw[<-hL];exact((By bb).trans<|By ba).trans (By J)
     have ea:LF pa=some (.lst [jj R,.ref pb]):=by rw[<-hL];exact q9
     have eb:LF pb=some (.lst<|zv [tp,sp]):=by rw[<-hL,qc bh];exact q9
     clear hL;refine⟨ms,⟨pa,pb,R,[tp,sp]⟩,tp,rest,_,_,_,_,rfl,?_,sA _ _ bi,Ar ..,a5.wt,by have:=a5.len;lia,An _⟩;have st:=bY.put (old:=[]) B (λz o n e=>(qc n).trans e) q9 bi na nb (AH bh) sA ea eb a5.ok a5.sr (by rw[DG,AN];exact(Bc a5.nd Ef).mpr λz=>by rw[a5.tm,Dx]);exact st.perm<|(Cs _ _).trans<|List.Perm.swap _ _ _
  case' inr=>
   refine⟨CJ L0 ka fa ks one two I x w rest.length,?_,?_⟩
   ·refine qa g<|qj g ⟨rest.map fg,fg u,120,120,j,by decide,?_,?_,?_,⟨fg u,?_,TY u⟩,λk d hk ek=>?_,?_⟩
    ·have dd:∀l:WE,(∀t∈l,t∈I::rest)->Paired (jc L' 120) (zn l) (l.map fg):=λl=>by
      induction l with
      |nil=>intro _;exact .nil
      |cons t r ih=>
       intro h;have mt:=h t<|Ar ..;obtain⟨h1,h2⟩:=B.ht t mt;have:=B.rd mt;exact .cons (rY (n:=118) h1 h2 (by lia))<|ih λt ht=>h t<|Ai _ ht
     exact dd rest λt ht=>Ai _ ht
    ·have mt:u∈I::rest:=Ai _<|AC hj;obtain⟨h1,h2⟩:=B.ht u mt;have:=B.rd mt;exact rY (n:=118) h1 h2 (by omega)
    ·rw[Ae];exact(AI.mp hj).1
    ·rw[Al,hj];rfl
    ·rw[Al] at ek;obtain⟨v,ev,rfl⟩:=Aq.mp ek;cases c:Da.eq (fg v) (fg u) with
     |false=>rfl
     |true=>
      have:=B.one (i:=k+1) (j:=j+1) (by simpa using ev) (by simpa using hj)<|TX c;lia
    ·rw[nV];have B2:=(B.perm<|(xr hj).cons _).setF<|.lst<|zn<|rest.eraseIdx j;exact⟨[],u,q0,rest.eraseIdx j,_,_,_,_,rfl,(AN ks).symm▸B2,q9,ay,(AN ks).symm▸aL,A1 _,Dm ..⟩
  all_goals
   rintro cc L' ⟨ms,u,q0,U,c9,T,ck,cm,rfl,B',hf,ay,aL,cn,cv⟩;have m1:I∈I::u::U:=by simp
   have m2:u∈I::u::U:=by simp
   obtain⟨a4,ac⟩:=B'.ht I m1;obtain⟨bc,c1⟩:=B'.ht u m2;have al:=bJ B' m1;have c2:=bJ B' m2;rw[Ac] at al c2;refine qa a4 (qa bc ⟨_,_,ac,c1,cz (by rw[Ae,Ae];omega),λpp bj=>?_⟩);rw[<-jE];refine JW (E:=I.E++u.E) (l:=x) (r:=q0) (k:=14) q9 (by rw[Ac];omega) (λy' Q' h=>h) (λ_=>rfl) λpe bn=>?_;have bp:L' pe=none:=(By bj).none bn;generalize hL:qi (qi L' pp _) pe _=L4;have s4:qh L' L4:=by rw[<-hL];exact(By bj).trans (By bn)
   have c3:L4 pe=some (.lst<|zv<|kg I.E u.E x q0):=by rw[<-hL];exact q9
   have done:∀(R:Ru) pa,L4 pa=none->(R=.cu x q0 I.R u.R\/R=.cu q0 x u.R I.R)->Q .non (qi (qi L4 pa<|.lst [jj R,.ref pe]) fa<|.lst<|zn U++[.ref pa]):=λR pa J hR=>by rw[<-gE U ⟨pa,pe,R,kg I.E u.E x q0⟩];exact q _ (ks++ms) (U++[⟨pa,pe,R,kg I.E u.E x q0⟩]) ⟨(TZ B' hf hx ay (hw.more ms) aL s4 bp c3 J hR).setF _,q9⟩ (by rw[Ac];omega) (by simp) (by rw[Ac];simp;omega)
   refine⟨(by show(0:Int)<2;decide),?_⟩;show wf (decide<|one % 2=0) _ _;refine zo (λc=>?_) λc=>?_
   ·refine qa (s4 _ _ hf)<|qa (s4 _ _ a4)<|qa (s4 _ _ bc) λpa J=>?_;refine qj (By J _ _<|s4 _ _ hf) ⟨big _ (by rw[C];omega),?_⟩;exact xt<|done _ pa J<|.inl rfl
   ·refine qa (s4 _ _ hf)<|qa (s4 _ _ bc)<|qa (s4 _ _ a4) λpa J=>?_;refine qj (By J _ _<|s4 _ _ hf) ⟨big _ (by rw[C];omega),?_⟩;exact xt<|done _ pa J<|.inr rfl
def JX(g:vh)(I:vh)(J:vh)(U:vh)(l:vh):RD "_law_tree" kJ 128 ["_law_cells","_law_seed","_law_room","_law_knots","_law_forest","_law_k","_law_cell","_law_one","_law_two","_law_deed","_law_at"] (λV=>Hi V g/\Jk V I/\asg V J/\Jm V U/\Jn V l):=⟨_,λV B c _ _ _ _ _ _ _ o hN p=>(qb (S_ 3 hN<|zk v5)<|qb (S_ 4 hN<|zk v5)<|qb (aP yp rfl (lw rfl B.bq<|qv 0) (vz (n:=2) rfl<|qx (G_ 5 hN)<|qx (G_ 6 hN) xh)<|qb (vW (i:=7) (j:=8) rfl hN rfl rfl (by decide) rfl rfl (xx (C_ c.1 o<|aT (qv 6) (qv 5) qd)<|C_ c.1 o<|aT (qv 6) (qv 5) qd) rfl)<|qb (zj (jk FT (ql js (ql js (L_ B.ba<|qv 3)<|L_ B.ba<|qv 4) qd) (qv 2)<|jf _) (qe sP) ze)<|qb (S_ 9 hN<|ql j7 (qv 7) qd)<|qb (S_ 7 hN<|ql vk (qv 7) qd)<|qe<|zj (kj<|gv (jk gG (qv 9) qd<|jf _)<|da<|E_ p (qv 4)<|zk v5) (qb (qy<|z9 (qv 3)<|jn<|zb<|xx je<|C_ c.2.1 o<|xx (qv 1)<|ql j7 (qv 8) qd)<|qb (qy<|z9 (qv 3)<|jn<|zb<|xx je<|C_ c.2.1 o<|xx (qv 1)<|ql j7 (qv 8) qd)<|v9 (zj (E_ p (ql j7 (qv 7) qd) qd) (qe<|qy<|z9 (qv 3)<|jn<|bL (qv 3)<|jn<|ql wy (L_ B.ba<|qv 3) qd) ze)<|qb (S_ 10 hN<|ql wy (L_ B.ba<|qv 3) qd)<|qe<|qy<|z9 (qv 4)<|jn<|zk<|xx (zb<|aT je (qv 10)<|ql js (qv 10) qd)<|zk<|xx (qv 10)<|ql js (qv 10) qd)<|qe<|zj (jk gG (qv 9) qd<|jf _) (qe<|qy<|C_ c.2.2.1 o<|jo (qv 3)<|aT (I_ (qv 4)<|ql j7 (qv 8)<|L_ B.ba<|qv 4) (qv 7)<|ql vk (qv 8) qd)<|qe<|zj (kj<|wv (jk gG (qv 9) qd<|jf _)<|vn<|jk FT (L_ B.ba<|qv 4) qd<|jf _) (qe<|qy<|C_ c.2.2.2.1 o<|jo (qv 3)<|aT (qv 4) (qv 7)<|qv 8)<|qe<|qy<|C_ c.2.2.2.2 o<|jo (qv 3)<|aT (qv 4) (qv 7)<|qv 8)<|v9 (zj (E_ p (qv 4)<|zk v5) (qb (qy<|z9 (qv 3)<|jn<|zb<|xx je<|C_ c.2.1 o<|xx (qv 1) qd)<|qb (qy<|z9 (qv 3)<|jn<|zb<|xx je<|C_ c.2.1 o<|xx (qv 1) qd)<|qe<|qy<|z9 (qv 4)<|jn<|zk<|xx (zb<|aT je qd qd)<|zk<|xx qd qd) ze)<|qb (nK yp (jk FT (L_ B.ba<|qv 4) qd<|jf _)<|qe<|qy<|C_ c.2.2.2.1 o<|jo (qv 3)<|aT (qv 4) (ql js (ql vk (qv 1) qd)<|L_ B.ba<|qv 4)<|ql vk (qv 1) qd)<|qe<|qu<|zb<|xx (qv 3)<|I_ (J_ 4) qd)⟩
theorem oV.mono(h:oV L0 L ka fa ks fo)(s:qh L L'):oV L0 L' ka fa ks fo:=⟨h.b.mono s,s _ _ h.hf⟩
def bY.plus{I:qk}{t':Tr}{fs:LO}(B:bY L0 L ka fa ks rest)(j:L fa=some fs)(sA:qh (qi L ka<|.lst<|vg<|ks++ms) I)(ea:I t'.a=some (.lst [jj t'.R,.ref t'.b]))(eb:I t'.b=some (.lst<|zv t'.E))
 (J:qi L ka (.lst<|vg<|ks++ms) t'.a=none) (U:qi L ka (.lst<|vg<|ks++ms) t'.b=none) (g:t'.a≠t'.b) (ok:ae<|ks++ms) (l:SR (ks++ms) t'.R t'.E) (p:∀x,x∈qz t'.R↔ks.length<=x/\x<ks.length+ms.length) (nd:(qz t'.R).Nodup):
 bY L0 I ka fa (ks++ms) (rest++[t']):=by
 exact bY.put (old:=[]) B (λz o n e=>(qc n).trans e) q9 (by rw[qc<|AH B.nkf];exact j) J U g sA ea eb ok l (by rw[DG,AN];exact(Bc nd Ef).mpr λz=>by rw[p,Dx])
theorem oV.link(F:oV L0 L ka fa ks fo){nm:Str}(j:fD nm)(b:Bool)(J:qi L ka (.lst<|vg<|ks++[.lf b nm,.lf (!b) nm]) pb=none)
 (U:qi (qi L ka<|.lst<|vg<|ks++[.lf b nm,.lf (!b) nm]) pb (.lst<|zv [ks.length,ks.length+1]) pa=none) {fs:List Y} (g:fs=zn fo++[.ref pa]):
 oV L0 (qi (qi (qi (qi L ka<|.lst<|vg<|ks++[.lf b nm,.lf (!b) nm]) pb<|.lst<|zv [ks.length,ks.length+1]) pa<|.lst [jj<|.link ks.length<|ks.length+1,.ref pb]) fa<|.lst fs) ka fa (ks++[.lf b nm,.lf (!b) nm]) (fo++[⟨pa,pb,.link ks.length<|ks.length+1,[ks.length,ks.length+1]⟩]):=by
 have I:pb≠pa:=kw q9 U;have M:=tS F.b.ok (t:=!b) j;rw[EC] at M;refine⟨(bY.plus F.b F.hf ((By J).trans<|By U) q9 (by rw[qc I];exact q9) ((By J).none U) J (AH I) M.ok M.sr M.tm M.nd).setF _,?_⟩;rw[q9,g];unfold zn;rw[Ax];rfl
def bY.dats(h:bY L0 L ka fa ks fo)(g:ks.length<=120):Paired (jc L 124) (zn fo) (fo.map fg):=by
 have J:∀l:WE,(∀t∈l,t∈fo)->Paired (jc L 124) (zn l) (l.map fg):=λl=>by
  induction l with
  |nil=>intro _;exact .nil
  |cons t r U=>
   intro k;have mt:=k t<|Ar ..;obtain⟨h1,h2⟩:=h.ht t mt;have:=h.rd mt;exact .cons (rY (n:=122) h1 h2 (by lia))<|U λt I=>k t<|Ai _ I
 exact J fo λt I=>I
def yX(fo:WE):Da.eqs (fo.map fg) []=decide (fo=[]):=by cases fo<;>rfl
inductive gm(ys:List Y)(L:qk)(Q:YK):Prop
 |mk:∀cy,∀ns:Wm,∀s:Int,∀room:Nat,(ys=[cy,.int s,.int (room:Int)])->(cy=.sq (ns.map Y.int))->(ns.length<=1000)->(room<=120)->(∀ka ks R E,L ka=none->ae ks->SR ks R E->(qz R).Perm (List.range ks.length)->ks.length<=max room 2->Q (.tup [.ref ka,jj R]) (qi L ka<|.lst<|vg ks))->gm ys L Q
def TW(L0:qk)(ka fa:Addr)(s:Int)(room:Nat)(τ:j9)(L:qk):Prop:=∃c0 J U g j l I ks fo,τ=[c0,some<|.int s,some<|.int (room:Int),some<|.ref ka,some<|.ref fa,J,U,g,j,l,I]/\oV L0 L ka fa ks fo/\ks.length+fo.length<=room
def TW.of{s:Int}{room:Nat}{J U g j l I:Option Y}(F:oV L0 L ka fa ks fo)(h:ks.length+fo.length<=room):TW L0 ka fa s room [c0,some<|.int s,some<|.int (room:Int),some<|.ref ka,some<|.ref fa,J,U,g,j,l,I] L:=⟨_,_,_,_,_,_,_,ks,fo,rfl,F,h⟩
def T4:∀ys L Q,gm ys L Q->xi (JX cJ iX iI lV lg).1 11 ys L Q:=by
 rintro ys L Q ⟨cy,ns,s,room,rfl,bb,bf,bc,q⟩;have big:=a_;have U:∀fo:WE,(zn fo).length=fo.length:=λfo=>Ae ..;have C:∀I:WC,(vg I).length=I.length:=λI=>Ae ..;intro J al g ax;have nkf:J≠g:=kw q9 ax;have aL:L g=none:=(By al).none ax;have F0:oV L (qi (qi L J<|.lst []) g<|.lst []) J g [] []:=by
  refine⟨⟨by rw[qc nkf];exact q9,λt ht=>by simp at ht,λt ht=>by simp at ht,by simp,by simp,by simp[nkf],λp k e=>by simp at e,(By al).trans<|By ax,λx hx=>?_⟩,q9⟩;rcases As.mp hx with rfl|hx
  ·exact al
  ·rw[Ao.mp hx];exact aL
 generalize qi (qi L J<|.lst []) g (.lst [])=L1 at F0;subst bb
 all_goals
  refine aV ⟨λ_ τ L'=>TW L J g s room τ L',?_,?_,?_,?_⟩
  ·exact TW.of F0<|A1 _
  ·rintro i τ L' ⟨T,c5,c6,c7,c8,c9,l,I,fo,rfl,F,hb⟩;exact True.intro
  ·rintro i y τ L' ey ⟨T,c5,c6,c7,c8,c9,l,I,fo,rfl,F,hb⟩;obtain⟨z,ez,rfl⟩:=gc ey;obtain⟨cell,ec,rfl⟩:∃cell:Int,ns[i]?=some cell/\z=Y.int cell:=by rw[Al] at ez;obtain⟨z,e1,e2⟩:=Aq.mp ez;exact⟨z,e1,e2.symm⟩
   have hi:=(AI.mp ec).1;refine⟨cell,((i:Nat):Int),48271,rfl,by exact AV _,by omega,by decide,by decide,λone h1 bg=>⟨cell,((i:Nat):Int),69621,rfl,by exact AV _,by omega,by decide,by decide,λtwo h2 bh=>?_⟩⟩;refine qa F.b.hk<|qa F.hf ?_;refine zo (λc=>?_) λc=>?_
   ·exact⟨_,ER _,TW.of F hb⟩
   have c:¬((((vg I).length:Nat):Int)+(((zn fo).length:Nat):Int)+12 > (room:Int)):=c;rw[C,U] at c;refine⟨(by decide:(0:Int)<9),⟨by decide,by decide⟩,?_⟩;refine zo (λc3=>?_) λc3=>?_
   case' refine_1=>
    obtain⟨L2,ba⟩:∃L2,L2=L':=⟨_,rfl⟩;rw[<-ba];have F':oV L L2 J g I fo:=by rw[ba];exact F
   case' refine_2=>
    intro p hp;refine bR (by decide) (By hp _ _ F.hf) q9 ((F.b.mono<|By hp).dats (by lia)) (.nil:Paired (jc _ 0) _ []) ?_;show wf (Da.eqs (fo.map fg) []) _ _;rw[yX];have F':oV L (qi L' p<|.lst []) J g I fo:=F.mono<|By hp;generalize qi L' p (.lst [])=L2 at F';refine zo (λT=>?_) λT=>?_
   case' refine_2.refine_2=>
    have bd:0<fo.length:=by cases fo with|nil=>exact absurd rfl T|cons _ _=>simp
    have F:=F';refine zo (λc6=>?_) λc6=>?_
    ·obtain⟨j,t,ej,lj,et⟩:=dX bd two;refine qa F.hf ⟨(by show(0:Int)<((zn fo).length:Int);rw[U];lia),qa F.hf (qf (v:=.ref t.a) (by show eI (zn fo) (two % ((zn fo).length:Int))=_;rw[U,ej];exact x5 (by unfold zn;rw[Al,et];rfl)) ?_)⟩;obtain⟨pre,post,ep⟩:=CN<|AC et;rw[ep] at F hb;refine⟨⟨by decide,by decide⟩,L,J,g,I,pre,post,t,one / 9,two / 64,rfl,F,by lia,λL3 a1 a2 F3 h1 h2 _=>?_⟩;refine⟨_,ER _,?_⟩;exact TW.of F3 (by rw[ep] at c;lia)
    refine zo (λc8=>?_) λc8=>?_
    ·refine qa F.hf ?_;refine zo (λc1=>?_) λc1=>?_
     ·have c1:(((zn fo).length:Nat):Int) > 1:=c1;rw[U] at c1;refine⟨L,J,g,I,fo,one / 9,two,rfl,F,by lia,by lia,by lia,λL3 a1 a2 F3 h1 h2 _=>?_⟩;refine⟨_,ER _,?_⟩;exact TW.of F3 (by lia)
     ·refine⟨L,J,g,I,fo,one / 9,two,rfl,F,by assumption,by lia,by lia,λL3 a1 a2 F3 h1 h2 h3=>?_⟩;refine⟨_,ER _,?_⟩;exact TW.of F3 (by lia)
    ·refine⟨L,J,g,I,fo,one / 9,two,rfl,F,by lia,by lia,by lia,λL3 a1 a2 F3 h1 h2 h3=>?_⟩;refine⟨_,ER _,?_⟩;exact TW.of F3 (by lia)
   all_goals
    obtain⟨nm,a3⟩:∃nm,nm=n_ (a8 s<|two % 3):=⟨_,rfl⟩;have ay:fD nm:=by rw[a3];exact uo _ _
    refine qa F'.b.hk ⟨(by decide:(0:Int)<3),s,two % 3,rfl,qj F'.b.hk ⟨big _ (by rw[C];omega),?_⟩⟩;refine qa q9 ⟨(by decide:(0:Int)<3),s,two % 3,rfl,qj q9 ⟨big _ (by rw[Ac,C];simp;omega),?_⟩⟩;rw[<-a3,vj];have e1:(vg I++[.tup [.str "plain",.str nm]])++[.tup [.str "turned",.str nm]]=vg (I++[.lf false nm,.lf true nm]):=by unfold vg;rw[Ax,Ay];rfl
    rw[e1];refine⟨λτ L3=>∃(b:Bool) (d0 d10:Option Y),τ=[d0,some<|.int s,some<|.int (room:Int),some<|.ref J,some<|.ref g,some<|.int ((i:Nat):Int),some<|.int cell,some<|.int<|one / 9,some<|.int two,some<|.int<|one % 9,d10]/\L3=qi L2 J (.lst<|vg<|I++[.lf b nm,.lf (!b) nm]),?_,?_⟩
    ·refine⟨(by decide:(0:Int)<2),?_⟩;show wf (decide<|one / 9 % 2=1) _ _;refine zo (λc2=>?_) λc2=>?_
     ·have l2:(vg<|I++[Kn.lf false nm,.lf true nm]).length=I.length+2:=by rw[C,Ac];rfl
      have t2:((((vg<|I++[Kn.lf false nm,.lf true nm]).length:Nat):Int)-2).toNat=I.length:=by rw[l2];omega
      refine qa q9<|qa q9<|qa q9<|qj q9 ⟨?_,?_,qf (v:=o9<|.lf false nm) ?_ ?_⟩
      ·show(0:Int)<=(((vg<|I++[Kn.lf false nm,.lf true nm]).length:Nat):Int)-2;rw[l2];omega
      ·show(((vg<|I++[Kn.lf false nm,.lf true nm]).length:Nat):Int)-2<_;omega
      ·show(vg<|I++[Kn.lf false nm,.lf true nm])[((((vg<|I++[Kn.lf false nm,.lf true nm]).length:Nat):Int)-2).toNat]?=_;rw[t2];unfold vg;rw[Al,dR];rfl
      ·rw[vj];refine qj q9 ⟨big _ ?_,?_⟩
       ·refine AM (Dm ..) ?_;show(vg<|I++[Kn.lf false nm,.lf true nm]).length<=20000;rw[l2];omega
       ·refine⟨true,_,_,rfl,?_⟩;rw[vj];have e3:(vg<|I++[Kn.lf false nm,.lf true nm]).eraseIdx ((((vg<|I++[Kn.lf false nm,.lf true nm]).length:Nat):Int)-2).toNat++[o9<|.lf false nm]=vg (I++[.lf true nm,.lf false nm]):=by rw[t2];unfold vg;rw[Ax,List.eraseIdx_append_of_length_le (by simp),Ae,Dv,Ax,Ay];rfl
        rw[e3];rfl
     ·exact⟨false,_,_,rfl,rfl⟩
    ·rintro bi L3 ⟨b,d0,d10,rfl,rfl⟩;have l2:(vg<|I++[Kn.lf b nm,.lf (!b) nm]).length=I.length+2:=by rw[C,Ac];rfl
     have nn:(((vg<|I++[Kn.lf b nm,.lf (!b) nm]).length:Nat):Int)-2=((I.length:Nat):Int):=by rw[l2];omega
     have a4:qi L2 J (.lst<|vg<|I++[.lf b nm,.lf (!b) nm]) g=some (.lst<|zn fo):=by rw[qc<|AH nkf];exact F'.hf
     have en:∀z:Int,z=((I.length:Nat):Int)->zv [I.length,I.length+1]=[.int z,.int<|z+1]:=λz e=>by rw[e];rfl
     have er:∀z:Int,z=((I.length:Nat):Int)->jj (.link I.length<|I.length+1)=.tup [.str "link",.int z,.int<|z+1]:=λz e=>by rw[e];rfl
     have en:=en _ nn;have er:=er _ nn;refine qa q9<|qa a4 λpb a5 pa ac=>?_;have H:=F'.link ay b (pb:=pb) (pa:=pa) a5 (by rw[en];exact ac) rfl;refine qj (((By a5).trans<|By ac) _ _ a4) ⟨big _ (by rw[U];omega),?_⟩;rw[en,er] at H;refine⟨_,ER _,?_⟩;exact TW.of H (by rw[Ac,Ac];simp;omega)
  ·rintro τ L' ⟨T,c5,c6,c7,c8,c9,l,I,fo,rfl,F,hb⟩;refine⟨λτ L3=>∃T c5 c6 c7 c8 c9 l I fo,τ=[T,some<|.int s,some<|.int (room:Int),some<|.ref J,some<|.ref g,c5,c6,c7,c8,c9,l]/\oV L L3 J g I fo/\1<=fo.length/\I.length+fo.length<=max room 3,?_,?_⟩
   ·intro p hp;refine bR (by decide) (By hp _ _ F.hf) q9 ((F.b.mono<|By hp).dats (by lia)) (.nil:Paired (jc _ 0) _ []) ?_;show wf (Da.eqs (fo.map fg) []) _ _;rw[yX];have F':oV L (qi L' p<|.lst []) J g I fo:=F.mono<|By hp;generalize qi L' p (.lst [])=L2 at F';refine zo (λT=>?_) λT=>?_
    ·subst T;have k0:I=[]:=by cases I with|nil=>rfl|cons k r=>exact absurd ((F.b.tm 0).mpr (by simp)) (by simp)
     subst k0;obtain⟨nm,a3⟩:∃nm,nm=n_ (a8 s 0):=⟨_,rfl⟩;have ay:fD nm:=by rw[a3];exact uo _ _
     refine qa F'.b.hk ⟨s,0,rfl,qj F'.b.hk ⟨big _ (by decide),?_⟩⟩;refine qa q9 ⟨s,0,rfl,qj q9 ⟨big _ (by show 1<=20000;decide),?_⟩⟩;rw[<-a3,vj];have a4:∀o,qi L2 J o g=some (.lst<|zn []):=λo=>by rw[qc<|AH nkf];exact F'.hf
     refine qa (a4 _) λpb a5 pa ac=>?_;have H:=F'.link ay true (pb:=pb) (pa:=pa) a5 ac rfl;refine qj (((By a5).trans<|By ac) _ _<|a4 _) ⟨big _ (by show 0<=20000;decide),?_⟩;exact⟨_,_,_,_,_,_,_,_,_,rfl,H,by simp,by simp;lia⟩
    ·exact⟨_,_,_,_,_,_,_,I,fo,rfl,F',(by cases fo with|nil=>exact absurd rfl T|cons _ _=>simp),by lia⟩
   ·rintro τ L' ⟨T,c5,c6,c7,c8,c9,l,I,fo,rfl,F,h1,hb⟩;refine⟨λm τ L3=>∃T c5 c6 c7 c8 c9 l I fo,τ=[T,some<|.int s,some<|.int (room:Int),some<|.ref J,some<|.ref g,c5,c6,c7,c8,c9,l]/\oV L L3 J g I fo/\1<=fo.length/\fo.length=m/\I.length+fo.length<=max room 3,⟨_,_,_,_,_,_,_,_,_,_,rfl,F,h1,rfl,hb⟩,?_⟩;rintro m τ L' ⟨T,c5,c6,c7,c8,c9,l,I,fo,rfl,F,h1,hm,hb⟩;refine qa F.hf ?_;refine zo (λc1=>?_) λc1=>?_
    ·have c1:(((zn fo).length:Nat):Int) > 1:=c1;rw[U] at c1;refine⟨λτ L3=>∃T c5 c6 c7 c8 c9 l I fo,τ=[T,some<|.int s,some<|.int (room:Int),some<|.ref J,some<|.ref g,c5,c6,c7,c8,c9,l]/\oV L L3 J g I fo/\1<=fo.length/\fo.length+1=m/\I.length+fo.length<=max room 3,?_,?_⟩
     ·rintro τ L3 ⟨d0,d5,d6,d7,d8,d9,d10,a1,a2,rfl,F3,g1,g2,g3⟩;exact⟨m-1,by lia,_,_,_,_,_,_,_,_,_,rfl,F3,g1,by lia,g3⟩
     ·refine⟨⟨by decide,by decide⟩,qa F.hf ⟨⟨by decide,by decide⟩,L,J,g,I,fo,_,_,rfl,F,by lia,by lia,by lia,λL3 a1 a2 F3 g1 g2 _=>?_⟩⟩;exact⟨_,ER _,_,_,_,_,_,_,_,a1,a2,rfl,F3,by lia,by lia,by lia⟩
    ·have c1:¬((((zn fo).length:Nat):Int) > 1):=c1;rw[U] at c1;obtain⟨t,rfl⟩:∃t,fo=[t]:=by
      match fo,h1,c1 with
      |[t],_,_=>exact⟨t,rfl⟩
      |t::u::r,_,c=>exact absurd (show(((t::u::r).length:Nat):Int) > 1 by simp;lia) c
     have ta:=(F.b.ht t<|Ar ..).1;refine qa F.hf<|qa ta ?_;refine eY (qh.put F.b.sub F.b.hk)<|q J I t.R t.E al F.b.ok (F.b.sr t<|Ar ..) ?_ ?_
     ·have nd:=F.b.nd;have tm:=F.b.tm;simp at nd tm;exact(Bc nd B5).mpr λx=>by rw[tm,AY]
     ·simp at hb;lia
def aG(p q:Wq):Prop:=p.1<q.1\/(p.1=q.1/\p.2<=q.2)
def xc(p:Wq):Int×Int:=((p.1:Int),(p.2:Int))
def fV{p q:Wq}(h:xc p=xc q):p=q:=by obtain⟨a,b⟩:=p;obtain⟨c,d⟩:=q;have h1:(a:Int)=c:=Bk Prod.fst h;have h2:(b:Int)=d:=Bk Prod.snd h;rw[B9.mp h1,B9.mp h2]
def vt(ps:We):qr ps=(ps.map xc).map rg:=by rw[BK];rfl
def m5{a:Addr}{ps:We}{Q:YK}(U:L a=some (.lst<|qr ps))(g:∀p∈ps,p.2<1000000)(nd:ps.Nodup)(j:ps.length<=127)
 (q:∀D qs,L D=none->qs.Perm ps->qs.Pairwise aG->Q (.ref D) (qi L D<|.lst<|qr qs)):am [.ref a] L Q:=by
 refine qj U ⟨ps.map xc,vt ps,λp l=>?_,?_,by rw[Ae];exact j,λD qs o pm t=>?_⟩
 ·obtain⟨r,C,rfl⟩:=Bg.mp l;have:=g r C;exact⟨AV _,by show((r.2:Nat):Int)<1000000;omega⟩
 ·exact cR (λx _ y _ e=>fV e) nd
 ·obtain⟨T,pT,rfl⟩:=i6 xc pm rfl;rw[<-vt];refine q D T o pT<|(BO.mp t).imp λ{x y} z=>?_;unfold aG;rcases z with z|⟨I,J⟩
  ·left;have z:((x.1:Nat):Int)<y.1:=z;lia
  ·right;have I:((x.1:Nat):Int)=y.1:=I;have J:((x.2:Nat):Int)<=y.2:=J;exact⟨by lia,by lia⟩
def sR{m:Wq->Wq}{keep:qk->Prop}{Q:YK}(hz:lk.length<=127)(l:keep L)
 (turn:∀(i:Nat) (I:Wq) (R:List Y->qk->Prop) zs,lk[i]?=some I->R (zs++[gu<|m I]) L->g (gu I) (τ++List.replicate 2 none) L λJ L2=>tc J L2 λb L3=>wf b (te J L3 λz o=>R (zs++[z]) o)<|R zs L3)
 (r:∀p,L p=none->Q (.ref p) (qi L p<|.lst<|qr<|lk.map m)):xS (qr lk) keep 2 g tc te τ L Q:=by
 refine aj (λi zs=>zs=qr ((lk.take i).map m)) (by rw[Ae];exact Bu hz (by decide)) l rfl ?_ ?_
 ·rintro i y zs U rfl;rw[Al] at U;obtain⟨I,j,rfl⟩:=Aq.mp U;refine turn i I _ _ j ⟨L,ER _,rfl,?_⟩;rw[Bm,j,Ax];show _=(_++_:We).map gu;rw[Ax];rfl
 ·rintro zs rfl p t;rw[Ae,Bj];exact r p t
structure wG(L0:qk)(ks:List<|WD)(qs:Wi)(d w D:Addr)(i ex:Nat)(f:Wp)(wd:List<|WD)(kvs:List<|jh×Y)(L:qk):Prop where
 sub:qh L0 L
 hd:L d=some (.dct kvs)
 hw:L w=some (.lst<|jw wd)
 hD:L D=some (.lst<|nY qs)
 len:kvs.length<=i
 val:∀p:Nat,a6 kvs (.inl (p:Int))=if p∈qs.take i then some (.int (f p:Int)) else none
 gap:sN ks (qs.take i) f wd
 wlen:wd.length<=2*i+ex
def mmP(f:Wp)(p:Wq):Wq:=(min (f p.1)<|f p.2,max (f p.1)<|f p.2)
def ppP(f:Wp)(p:Wq):Wq:=(f p.1,f p.2)
structure zE(f:Wp)(ks wd:List<|WD):Prop where
 gap:sN ks (List.range ks.length) f wd
 len:wd.length<=2*ks.length+1
inductive cw(Pt:Addr)(ys:List Y)(L:qk)(Q:YK):Prop
 |mk:∀a l c,∀ks:List (WD),∀lk ct:Wf,∀s:Int,∀b:Bool,(ys=[.ref a,.ref l,.ref c,.int s,.bl b])->(L a=some (.lst<|jw ks))->(L l=some (.lst<|qr lk))->(L c=some (.lst<|qr ct))->(oP ks)->(ks.length<=127)->(L Pt=some (.tb lamQ))->(lk.Nodup)->((∀p∈lk,p.1<p.2/\p.2<ks.length))->(lk.length<=127)->(ct.Nodup)->((∀p∈ct,p.1<ks.length/\p.2<ks.length))->(ct.length<=127)->(∀f wd lk' ct' wa la ca L',zE f ks wd->lk'.Perm (lk.map<|mmP f)->lk'.Pairwise aG->ct'.Perm (ct.map<|ppP f)->ct'.Pairwise aG->qh L L'->L wa=none->L la=none->L ca=none->wa≠la->wa≠ca->la≠ca->L' wa=some (.lst<|jw wd)->L' la=some (.lst<|qr lk')->L' ca=some (.lst<|qr ct')->Q (gH wa la ca) L')->cw Pt ys L Q
def cr(wd:List<|WD)(k:WD):jw wd++[cA k]=jw (wd++[k]):=by unfold jw;rw[Ax];rfl
def jg(wd:List<|WD):(jw wd).length=wd.length:=Ae ..
def wG.wide{ks:List<|WD}{d w D:Addr}{ex ex':Nat}{f:Wp}{wd':List<|WD}{kvs:List<|jh×Y}(G:wG L0 ks qs d w D i ex f wd kvs L)(h0:L0 w=none)(I:d≠w)(J:w≠D)(g:sN ks (qs.take i) f wd')(h:wd'.length<=2*i+ex'):
 wG L0 ks qs d w D i ex' f wd' kvs (qi L w<|.lst<|jw wd'):=
 ⟨G.sub.upd h0,(qc I).trans G.hd,q9,(qc<|AH J).trans G.hD,G.len,G.val,g,h⟩
theorem sN.gaps{ks:List<|WD}{ps:Wi}{f:Wp}(h:sN ks ps f wd):∀n,sN ks ps f<|wd++List.replicate n none
 |0=>by rw[List.replicate_zero,AN];exact h
 |n+1=>by rw[CZ,<-Ay];exact(h.gaps n).gap
def T5{a b c:Nat}(h1:min a b=min c d)(h2:max a b=max c d):(a=c/\b=d)\/(a=d/\b=c):=by lia
theorem zM :∀ys L Q,cw Pt ys L Q->xi (oo (gh Pt) cJ) 9 ys L Q:=by
 rintro ys L Q ⟨a,l,c,j,lk,ct,s,b,rfl,ha,hl,hc,ok,hz,hP,c9,a4,cb,cc,a5,ck,q⟩;have big:=a_;intro d hd w hw;have bd:L w=none:=vf hw;have a2:d≠w:=kw q9 hw;have s0:qh L (qi (qi L d<|.dct []) w<|.lst []):=(By hd).trans<|By hw;refine⟨a,j,s,rfl,s0 _ _ ha,ok,by exact eM,s0 _ _ hP,λD I hD pm pf=>?_⟩;have dt:L D=none:=vf<|vf hD;have ba:w≠D:=kw q9 hD;have bf:d≠D:=kw ((qc a2).trans q9) hD;have lq:I.length=j.length:=by rw[pm.length_eq,BM]
 have cm:I.Nodup:=pm.nodup_iff.mpr B5;have mq:∀p∈I,p<j.length:=λp C=>AY.mp<|pm.mem_iff.mp C;have G0:wG L j I d w D 0 0 (λ_=>0) [] [] (qi (qi (qi L d<|.dct []) w<|.lst []) D<|.lst<|nY I):=
  ⟨s0.trans<|By hD,(qc bf).trans<|(qc a2).trans q9,(qc ba).trans q9,q9,An _,λp=>rfl,sN.nil _ _,An _⟩
 refine x4 q9 λkeep kp=>aV ⟨λi τ L'=>∃f T J c7 c8,τ=[some<|Y.ref a,some<|Y.ref l,some<|Y.ref c,some<|.int s,some<|.bl b,some<|Y.ref d,some<|Y.ref w,c7,c8]/\wG L j I d w D i 0 f T J L',⟨_,_,_,_,_,rfl,G0⟩,?_,?_,?_⟩
 ·rintro i τ L' ⟨f,T,J,c7,c8,rfl,G⟩;exact kp L' (by rw[G.hD,q9])
 ·rintro i y τ L' hy ⟨f,T,J,c7,c8,rfl,G⟩;obtain⟨p,ep,rfl⟩:=JP hy;have hi:=zd ep;have C:p<j.length:=mq p<|AC ep;obtain⟨k,hk⟩:∃k,j[p]?=some k:=⟨_,Ag C⟩;have pn:p∉I.take i:=λhm=>by
   have e2:I=I.take i++p::I.drop (i+1):=by rw[Ag hi] at ep;rw[<-AZ ep,Dw,A7]
   have nd:=cm;rw[e2] at nd;exact(Av.mp nd).2.2 p hm p (Ar ..) rfl
  have et:I.take (i+1)=I.take i++[p]:=by rw[Bm,ep];rfl
  refine⟨λa3 L1=>∃wd',a3=[some<|Y.ref a,some<|Y.ref l,some<|Y.ref c,some<|.int s,some<|.bl b,some<|Y.ref d,some<|Y.ref w,some<|.int (p:Nat),c8]/\wG L j I d w D i 1 f wd' J L1,?_,?_⟩
  ·have plain:wG L j I d w D i 1 f T J L':=⟨G.sub,G.hd,G.hw,G.hD,G.len,G.val,G.gap,by have:=G.wlen;exact Il⟩;cases b with
   |false=>exact⟨T,rfl,plain⟩
   |true=>
    refine⟨s,(p:Nat),40692,rfl,by exact AV _,by omega,by decide,by decide,λv h0 h1=>?_⟩;refine⟨show(0:Int)<3 by decide,?_⟩;refine zo (λg=>?_) λg=>⟨T,rfl,plain⟩;refine qa G.hw (qj G.hw ⟨by rw[jg];have:=G.wlen;exact big _ (by lia),?_⟩);refine⟨T++[none],rfl,?_⟩;have:=G.wide (wd':=T++[none]) (ex':=1) bd a2 ba G.gap.gap (by rw[Ac];have:=G.wlen;show T.length+1<=_;exact A');rw[<-cr] at this;exact this
  ·rintro a3 L1 ⟨wd',rfl,G1⟩;have ay:∀e i' j',k=some (.nd e i' j')->i'∈I.take i/\j'∈I.take i:=λe i' j' z=>oF ok pm pf ep (by rw[hk,z]);have bb:∀x∈I.take i,∀e i' j',j[x]?=some (some<|.nd e i' j')->i'∈I.take i/\j'∈I.take i:=λx hx e i' j' z=>by
    obtain⟨n,hn⟩:=DJ hx;have cn:=zd hn;rw[AX] at cn;rw[Eh (by lia)] at hn;obtain⟨h1,h2⟩:=oF ok pm pf hn z;have sb:∀y,y∈I.take n->y∈I.take i:=λy hy=>by
     have:I.take n=(I.take i).take n:=by rw[List.take_take,BY (by lia)]
     rw[this] at hy;exact BH hy
    exact⟨sb _ h1,sb _ h2⟩
   have vp:∀y:Nat,a6 (ou J (.inl (p:Int))<|.int ((wd'.length:Nat):Int)) (.inl (y:Int))=if y∈I.take i++[p] then some (.int (((if y=p then wd'.length else f y):Nat):Int)) else none:=λy=>by
    rw[TJ];by_cases e:y=p
    ·subst e;rw[AD rfl,AD rfl,AD<|Ah _<|Ao.mpr rfl]
    ·rw[AB λz=>e<|B9.mp<|Sum.inl.inj z,AB e,G1.val];by_cases h:y∈I.take i
     ·rw[AD h,AD<|Am _ h]
     ·rw[AB h,AB λz=>(Ak.mp z).elim h λz=>e<|Ao.mp z]
   have wl:=G1.wlen;have kl:=G1.len;refine qa G1.hw ?_;rw[jg];refine aB G1.hd ⟨big _ (by lia),?_⟩;have cv:a≠d:=kw ha hd;refine qa ((qc cv).trans<|G1.sub _ _ ha)<|qf (jp hk) ?_;have dv:∀{o},qi L1 d o d=some o:=q9;refine⟨λa3 L2=>a3=[some<|Y.ref a,some<|Y.ref l,some<|Y.ref c,some<|.int s,some<|.bl b,some<|Y.ref d,some<|Y.ref w,some<|.int (p:Nat),some<|cA<|iu f k]/\L2=qi L1 d (.dct<|ou J (.inl (p:Int))<|.int ((wd'.length:Nat):Int)),?_,?_⟩
   ·cases k with
    |none=>exact⟨rfl,rfl⟩
    |some k=>
     cases k with
     |lf t n=>exact⟨rfl,rfl⟩
     |nd e p1 p2=>
      obtain⟨m1,m2⟩:=ay e p1 p2 rfl;have v1:=vp p1;have v2:=vp p2;rw[AD<|Am _ m1,AB λ(z:p1=p)=>pn<|z▸m1] at v1;rw[AD<|Am _ m2,AB λ(z:p2=p)=>pn<|z▸m2] at v2;refine aB q9<|qf v1 ?_;refine aB q9<|qf v2 ?_;exact⟨rfl,rfl⟩
   ·rintro a3 L2 ⟨rfl,rfl⟩;have bg:qi L1 d (.dct<|ou J (.inl (p:Int))<|.int ((wd'.length:Nat):Int)) w=some (.lst<|jw wd'):=(qc<|AH a2).trans G1.hw;refine qa bg (qj bg ⟨by rw[jg];exact big _ (by lia),?_⟩);rw[cr];have hb:∀x∈I.take i,x<j.length:=λx hx=>mq x<|BH hx;refine⟨_,ER _,λx=>if x=p then wd'.length else f x,wd'++[iu f k],_,_,_,rfl,(G1.sub.upd hd).upd bd,(qc a2).trans q9,q9,(qc<|AH ba).trans<|(qc<|AH bf).trans G1.hD,?_,λy=>?_,?_,?_⟩
    ·have:=TK J (.inl (p:Int))<|.int ((wd'.length:Nat):Int);lia
    ·rw[et];exact vp y
    ·rw[et];exact G1.gap.step hb pn hk bb ay
    ·rw[Ac];show wd'.length+1<=_;exact A'
 ·rintro τ L' ⟨f,T,J,c7,c8,rfl,G⟩;have eq:(nY I).length=I.length:=Ae ..;rw[eq] at G;have et:I.take I.length=I:=Bj;have val:∀p,p<j.length->a6 J (.inl (p:Int))=some (.int (f p:Int)):=λp C=>by rw[G.val,et,AD<|pm.mem_iff.mpr<|AY.mpr C]
  have gap:sN j (List.range j.length) f T:=by have g:=G.gap;rw[et] at g;exact⟨λp C=>g.at_ p<|pm.mem_iff.mpr C,λp C r hr=>g.inj p (pm.mem_iff.mpr C) r<|pm.mem_iff.mpr hr,λx k hx=>let ⟨r,hr,e⟩:=g.only x k hx;⟨r,pm.mem_iff.mp hr,e⟩,g.ok⟩
  have flt:∀p,p<j.length->f p<T.length:=λp C=>gap.lt (AY.mpr C) C;have inj:∀p r,p<j.length->r<j.length->f p=f r->p=r:=λp r C hr e=>gap.inj p (AY.mpr C) r (AY.mpr hr) e;have wl:T.length<=2*j.length:=by have:=G.wlen;rw[lq] at this;lia
  refine x4 (G.sub _ _ hl) λkeep kp=>sR (m:=mmP f) cb (kp _ rfl) (λi U R zs bc hR=>?_) λp1 bh=>?_
  ·obtain⟨l1,l2⟩:=a4 U<|AC bc;have v1:=val U.1 (by exact r9);have v2:=val U.2 l2;refine aB G.hd<|qf v1 ?_;refine aB G.hd<|qf v2 ?_;refine aB G.hd<|qf v1 ?_;refine aB G.hd<|qf v2 ?_;have e1:min ((f U.1:Nat):Int) ((f U.2:Nat):Int)=((min (f U.1) (f U.2):Nat):Int):=S9 _ _;have e2:max ((f U.1:Nat):Int) ((f U.2:Nat):Int)=((max (f U.1) (f U.2):Nat):Int):=S' _ _;have cy:R (zs++[.tup [.int<|min ((f U.1:Nat):Int) ((f U.2:Nat):Int),.int<|max ((f U.1:Nat):Int) ((f U.2:Nat):Int)]]) L':=by rw[e1,e2];exact hR
   exact cy
  have b1:∀p∈lk.map (mmP f),p.2<1000000:=λp C=>by obtain⟨r,hr,rfl⟩:=Bg.mp C;obtain⟨h1,h2⟩:=a4 r hr;have:=flt r.1 (by lia);have:=flt r.2 h2;exact Nat.max_lt.mpr ⟨by lia,by lia⟩
  have n1:(lk.map<|mmP f).Nodup:=cR (λx hx y hy e=>by
   obtain⟨x1,x2⟩:=a4 x hx;obtain⟨y1,y2⟩:=a4 y hy;have m1:min (f x.1) (f x.2)=min (f y.1) (f y.2):=Bk Prod.fst e;have m2:max (f x.1) (f x.2)=max (f y.1) (f y.2):=Bk Prod.snd e;have a1:x.1=y.1/\x.2=y.2:=by
    rcases T5 m1 m2 with⟨c1,c2⟩|⟨c1,c2⟩
    ·exact⟨inj x.1 y.1 (Dr x1 x2) (Dr y1 y2) c1,inj x.2 y.2 x2 y2 c2⟩
    ·have e3:=inj x.1 y.2 (Dr x1 x2) y2 c1;have e4:=inj x.2 y.1 x2 (Dr y1 y2) c2;rw[e3,e4] at x1;exact absurd x1 (Nat.lt_asymm y1)
   exact DR a1.1 a1.2) c9
  dsimp only[ji];refine m5 (ps:=lk.map<|mmP f) q9 b1 n1 (by rw[Ae];exact eM) λD1 bi bj cI cP=>?_;have dp:L p1=none:=G.sub.none bh;have bn:=vf bj;have bp:L D1=none:=G.sub.none bn;have S1:qh L' (qi (qi L' p1<|.lst<|qr<|lk.map<|mmP f) D1<|.lst<|qr bi):=(By bh).trans<|By bj;refine x4 (S1 _ _<|G.sub _ _ hc) λkeep kp=>sR (m:=ppP f) ck (kp _ rfl) (λi U R zs bc hR=>?_) λp2 ac=>?_
  ·obtain⟨l1,l2⟩:=a5 U<|AC bc;refine aB (S1 _ _ G.hd)<|qf (val U.1 l1) ?_;refine aB (S1 _ _ G.hd)<|qf (val U.2 l2) ?_;exact hR
  have b2:∀p∈ct.map (ppP f),p.2<1000000:=λp C=>by obtain⟨r,hr,rfl⟩:=Bg.mp C;obtain⟨h1,h2⟩:=a5 r hr;have:=flt r.2 h2;show f r.2<1000000;lia
  have n2:(ct.map<|ppP f).Nodup:=cR (λx hx y hy e=>by obtain⟨x1,x2⟩:=a5 x hx;obtain⟨y1,y2⟩:=a5 y hy;exact DR (inj _ _ x1 y1<|Bk Prod.fst e)<|inj _ _ x2 y2<|Bk Prod.snd e) cc
  dsimp only[ji];refine m5 (ps:=ct.map<|ppP f) q9 b2 n2 (by rw[Ae];exact eM) λD2 bq br d0 dc=>?_;have aL:=vf br;have S2:=S1.trans<|(By ac).trans<|By (o:=.lst<|qr bq) br;have c3:L D2=none:=G.sub.none<|S1.none aL;have al:D1≠D2:=kw q9 aL;obtain⟨m,hm,dV⟩:∃m:Nat,(if b=true then(1:Int) else 0)=(m:Int)/\m<=1:=by cases b;exact⟨0,rfl,by exact A1 _⟩;exact⟨1,rfl,by exact BD _⟩
  walk_at "w";rw[hm];refine⟨⟨by exact AV _,by omega⟩,?_⟩;rw[Cw];refine wT (λi zs=>zs=jw (List.replicate i none)) (big _ (by exact eM)) rfl ?_ ?_
  ·rintro i zs hi rfl;refine⟨_,ER _,rfl,?_⟩;rw[CZ];exact cr _ none
  rintro zs rfl p3 ax;have S3:=S2.trans<|By (o:=.lst<|jw<|List.replicate m none) ax;refine⟨_,_,S3 _ _ G.hw,q9,?_,λp4 c4=>?_⟩
  ·rw[jg,jg,Bv];exact Bi<|big _ (by lia)
  have h4:=vf c4;have de:L p4=none:=G.sub.none<|S2.none h4;have c5:D2≠p4:=kw q9 h4;have c6:D1≠p4:=kw ((qc al).trans<|(qc<|kw q9 ac).trans q9) h4;have dr:=vf ax;have di:D1≠p3:=kw ((qc al).trans<|(qc<|kw q9 ac).trans q9) ax;have dj:D2≠p3:=kw q9 ax;have eo:jw T++jw (List.replicate m none)=jw (T++List.replicate m none):=by unfold jw;rw[Ax]
  rw[eo];refine xt<|q f (T++List.replicate m none) bi bq p4 D1 D2 _ ⟨gap.gaps m,?_⟩ cI cP d0 dc ((G.sub.trans S3).trans<|By c4) de bp c3 (AH c6) (AH c5) al q9 ?_ ?_
  ·rw[Ac,Bv];exact OX
  ·rw[qc c6,qc di,qc al,qc<|kw q9 ac,q9]
  ·rw[qc c5,qc dj,q9]
def jO:RD "_law_told" kY 0 ["_law_rule","_law_links","_law_cuts","_law_todo","_law_here"] (λ_=>True):=⟨_,λV B c _ _ _ _ _ _ _ J hN I=>(qb (Tu (i:=1) (j:=2) (k:=3) rfl hN rfl rfl rfl (by decide) (by decide) (by decide) rfl rfl rfl (aT (zk v5) (zk v5)<|zk<|jn<|qv 0) rfl)<|qb (nK yp (N_ I (qv 3)<|zk v5)<|qb (S_ 4 hN<|IW<|qv 3)<|v9 (zj (E_ I (J_ 4) je) (qe<|qy<|z9 (qv 1)<|jn<|zb<|xx (J_ 4)<|J_ 4) ze)<|v9 (zj (E_ I (J_ 4) je) (qe<|qy<|z9 (qv 2)<|jn<|zb<|xx (J_ 4)<|J_ 4) ze)<|qe<|qy<|cT (qv 3)<|jn<|dD ["_law_arm"] (EV (by rfl)) rfl (Tx<|cN (Tw _ _ _) (qv 4) (dh qd) iA) (m6 5) (λ_ _ _ _=>dZ<|vq<|w6 .tuple rfl B.bf rfl B.b_tuple gi<|qv 5) λ_ _ _ _=>(qv 5))<|qe<|qu<|zb<|xx (zm bA rfl B.bg vv<|jn<|qv 1)<|zm bA rfl B.bg vv<|jn<|qv 2)⟩
def zg:Ru->Wf
 |.link p q=>[(p,q)]
 |.ei _ A=>zg A
 |.bo _ A B=>zg A++zg B
 |.cu _ _ A B=>zg A++zg B
def zh:Ru->Wf
 |.link _ _=>[]
 |.ei _ A=>zh A
 |.bo _ A B=>zh A++zh B
 |.cu p q A B=>(p,q)::(zh A++zh B)
def lO:Ru->Nat
 |.link _ _=>1
 |.ei _ A=>lO A+1
 |.bo _ A B=>lO A+lO B+1
 |.cu _ _ A B=>lO A+lO B+1
def aX:Ru->List Ru
 |.link _ _=>[]
 |.ei _ A=>[A]
 |.bo _ A B=>[A,B]
 |.cu _ _ A B=>[A,B]
def o7:Ru->Wf
 |.link p q=>[(p,q)]
 |_=>[]
def qO:Ru->Wf
 |.cu p q _ _=>[(p,q)]
 |_=>[]
def wJ(A:Ru):zg A=o7 A++(aX A).flatMap zg:=by cases A<;>simp[zg,o7,aX]
def T6(A:Ru):zh A=qO A++(aX A).flatMap zh:=by cases A<;>simp[zh,qO,aX]
def s9(A:Ru):((aX A).map lO).sum+1=lO A:=by cases A<;>simp[lO,aX]
def T7(A:Ru):0<lO A:=by cases A<;>simp[lO]
def T9{A B:Ru}(h:B∈aX A):aH B<aH A:=by cases A<;>simp[aX] at h<;>(try rcases h with rfl|rfl)<;>(try subst h)<;>simp[aH]<;>omega
def nF:Ru->List Y
 |.link _ q=>[.int ((q:Nat):Int)]
 |.ei _ A=>[jj A]
 |.bo _ A B=>[jj A,jj B]
 |.cu _ q A B=>[.int ((q:Nat):Int),jj A,jj B]
def Gm:Y->Option Y
 |.tup ys=>some<|.tup ys
 |_=>none
def zF(A:Ru):Gm (jj A)=some (jj A):=by cases A<;>rfl
def yW(i:Int):Gm (.int i)=none:=rfl
def Ua(A:Ru):(nF A).filterMap Gm=(aX A).map jj:=by cases A<;>simp[nF,aX,CC,zF,yW]
def Ub{A:Ru}(h:y∈nF A):(∃q:Nat,y=.int (q:Int))\/∃B,y=jj B:=by
 cases A<;>simp[nF] at h
 ·exact .inl ⟨_,h⟩
 ·exact .inr ⟨_,h⟩
 ·rcases h with h|h<;>exact .inr ⟨_,h⟩
 ·rcases h with h|h|h
  ·exact .inl ⟨_,h⟩
  ·exact .inr ⟨_,h⟩
  ·exact .inr ⟨_,h⟩
structure jP(R:Ru)(lk ct:We)(st:List Ru):Prop where
 pl:(lk++st.flatMap zg).Perm (zg R)
 pc:(ct++st.flatMap zh).Perm (zh R)
 sz:(st.map lO).sum<=lO R
 dp:∀A∈st,aH A<=aH R
def jP.start(R:Ru):jP R [] [] [R]:=⟨by simp,by simp,by simp,λA I=>by simp at I;subst I;exact An _⟩
def jP.step{A:Ru}{st:List Ru}(h:jP R lk ct<|st++[A]):jP R (lk++o7 A) (ct++qO A) (st++aX A):=by
 have pm:∀{X U V W:We},(X++U++(V++W)).Perm (X++(V++(U++W))):=λ{X U V W}=>by rw[Ay];refine DE X ?_;rw[<-Ay,<-Ay];exact Dy W Bd
 refine⟨?_,?_,?_,λB I=>?_⟩
 ·refine List.Perm.trans ?_ h.pl;rw[AR,AR];have:[A].flatMap zg=o7 A++(aX A).flatMap zg:=by rw[<-wJ];simp
  rw[this];exact pm
 ·refine List.Perm.trans ?_ h.pc;rw[AR,AR];have:[A].flatMap zh=qO A++(aX A).flatMap zh:=by rw[<-T6];simp
  rw[this];exact pm
 ·have:=h.sz;have:=s9 A;simp at *;lia
 ·rcases Ak.mp I with I|I
  ·exact h.dp B<|Am _ I
  ·have:=T9 I;have:=h.dp A<|Ah _<|Ao.mpr rfl;exact Ip
inductive iB(ys:List Y)(L:qk)(Q:YK):Prop
 |mk:∀R:Ru,(ys=[jj R])->(aH R<=120)->(lO R<=1000)->((zg R).Nodup)->((zh R).Nodup)->((∀p∈zg R,p.2<1000000))->((∀p∈zh R,p.2<1000000))->((zg R).length<=127)->((zh R).length<=127)->(∀la ca lk ct,L la=none->L ca=none->la≠ca->lk.Perm (zg R)->lk.Pairwise aG->ct.Perm (zh R)->ct.Pairwise aG->Q (.tup [.ref la,.ref ca]) (qi (qi L la<|.lst<|qr lk) ca<|.lst<|qr ct))->iB ys L Q
def jF(l:We)(p:Wq):qr l++[gu p]=qr (l++[p]):=by unfold qr;rw[Ax];rfl
def Uc(st:List Ru):Da.eqs (st.map cY) []=decide (st=[]):=by cases st<;>rfl
theorem mD{L:qk}{n:Nat}:∀{st:List Ru},(∀A∈st,aH A<=n)->Paired (jc L n) (st.map jj) (st.map cY)
 |[],_=>.nil
 |A::r,h=>.cons (dQ<|h A<|Ar ..)<|mD λB I=>h B<|Ai _ I
def Ud:∀ys L Q,iB ys L Q->xi jO.1 5 ys L Q:=by
 rintro ys L Q ⟨R,rfl,hd,hz,bd,bf,b1,b2,z1,z2,q⟩;have big:=a_;intro g al J ac I a1;have a2:g≠J:=kw q9 ac;have a3:J≠I:=kw q9 a1;have a4:g≠I:=kw ((qc a2).trans q9) a1;have ax:L J=none:=vf ac;have a5:L I=none:=vf<|vf a1;have S0:qh L (qi (qi (qi L g<|.lst []) J<|.lst []) I<|.lst [jj R]):=((By al).trans<|By ac).trans<|By a1;refine⟨λm τ j=>∃lk t st c4,τ=[some<|jj R,some<|Y.ref g,some<|Y.ref J,some<|Y.ref I,c4]/\qh L j/\j g=some (.lst<|qr lk)/\j J=some (.lst<|qr t)/\j I=some (.lst<|st.map jj)/\jP R lk t st/\m=(st.map lO).sum,⟨_,[],[],[R],_,rfl,S0,(qc a4).trans<|(qc a2).trans q9,(qc a3).trans q9,q9,jP.start R,rfl⟩,?_⟩;rintro m τ j ⟨lk,t,st,c4,rfl,s,h1,h2,h3,T,rfl⟩;intro p hp;refine bR (n:=120) (m:=0) (by decide) (By hp _ _ h3) q9 (mD λA hA=>AM (T.dp A hA) hd) (.nil:Paired (jc _ 0) _ []) ?_;have bg:g≠p:=kw h1 hp;have bh:J≠p:=kw h2 hp;have bi:I≠p:=kw h3 hp;have s2:qh L (qi j p<|.lst []):=s.trans<|By hp;replace h1:=(qc (o:=.lst []) bg).trans h1;replace h2:=(qc (o:=.lst []) bh).trans h2;replace h3:=(qc (o:=.lst []) bi).trans h3;generalize qi j p (.lst [])=L2 at s2 h1 h2 h3 ⊢;show wf (!(Da.eqs (st.map cY) [])) _ _;rw[Uc];rcases List.eq_nil_or_concat st with rfl|⟨gb,A,rfl⟩
 ·refine aC rfl ?_;have pl:lk.Perm (zg R):=by have:=T.pl;simpa using this
  have pc:t.Perm (zh R):=by have:=T.pc;simpa using this
  dsimp only[eL,ah,pQ,qm,dI,eG,Hz,qg,xM,ji];refine m5 h1 (λx hx=>b1 x<|pl.mem_iff.mp hx) (pl.nodup_iff.mpr bd) (by rw[pl.length_eq];exact eM) λD1 bj ay bn bp=>?_;have n1:J≠D1:=kw h2 ay;refine m5 ((qc n1).trans h2) (λx hx=>b2 x<|pc.mem_iff.mp hx) (pc.nodup_iff.mpr bf) (by rw[pc.length_eq];exact eM) λD2 bq aL br c3=>?_;have c5:D1≠D2:=kw q9 aL;have ba:=s2.none ay;have bb:=s2.none<|vf aL;refine⟨_,λz o e=>?_,q D1 D2 bj bq ba bb c5 (bn.trans pl) bp (br.trans pc) c3⟩;by_cases c1:z=D2
  ·subst c1;rw[q9] at e ⊢;exact e
  ·rw[qc c1] at e ⊢;by_cases c2:z=D1
   ·subst c2;rw[q9] at e ⊢;exact e
   ·rw[qc c2] at e ⊢;exact s2 _ _ e
 ·rw[List.concat_eq_append] at *;have T1:=T.step;have ne:gb++[A]≠[]:=by simp
  rw[Au ne];refine aM rfl ⟨λU j=>∃m',m'<((gb++[A]).map lO).sum/\∃lk t st c4,U=[some<|jj R,some<|Y.ref g,some<|Y.ref J,some<|Y.ref I,c4]/\qh L j/\j g=some (.lst<|qr lk)/\j J=some (.lst<|qr t)/\j I=some (.lst<|st.map jj)/\jP R lk t st/\m'=(st.map lO).sum,λU j h=>h,?_⟩;rw[Ax] at h3;refine I9 h3 ?_;refine⟨λU L3=>U=[some<|jj R,some<|Y.ref g,some<|Y.ref J,some<|Y.ref I,some<|jj A]/\qh L L3/\L3 g=some (.lst<|qr<|lk++o7 A)/\L3 J=some (.lst<|qr t)/\L3 I=some (.lst<|gb.map jj),?_,?_⟩
  ·have C:qh L (qi L2 I<|.lst<|gb.map jj):=s2.upd a5;have g1:qi L2 I (.lst<|gb.map jj) g=some (.lst<|qr lk):=(qc a4).trans h1;have g2:qi L2 I (.lst<|gb.map jj) J=some (.lst<|qr t):=(qc a3).trans h2;have g3:qi L2 I (.lst<|gb.map jj) I=some (.lst<|gb.map jj):=q9;generalize qi L2 I (.lst<|gb.map jj)=L3 at C g1 g2 g3 ⊢;cases A with
   |link p0 q0=>
    refine qa g1<|qj g1 ⟨?_,?_⟩
    ·have:=T.pl.length_eq;rw[Ac] at this;rw[Ae];exact big _ (by lia)
    ·exact⟨rfl,C.upd al,by rw[q9];exact Bk (λl=>some<|LO.lst l)<|jF lk (p0,q0),(qc<|AH a2).trans g2,(qc<|AH a4).trans g3⟩
   |ei r0 A0=>exact⟨rfl,C,by rw[g1];simp[o7],g2,g3⟩
   |bo r0 A0 B0=>exact⟨rfl,C,by rw[g1];simp[o7],g2,g3⟩
   |cu p0 q0 A0 B0=>exact⟨rfl,C,by rw[g1];simp[o7],g2,g3⟩
  ·rintro U L3 ⟨rfl,C,g1,g2,g3⟩;refine⟨λU L3=>U=[some<|jj R,some<|Y.ref g,some<|Y.ref J,some<|Y.ref I,some<|jj A]/\qh L L3/\L3 g=some (.lst<|qr<|lk++o7 A)/\L3 J=some (.lst<|qr<|t++qO A)/\L3 I=some (.lst<|gb.map jj),?_,?_⟩
   ·cases A with
    |cu p0 q0 A0 B0=>
     refine qa g2<|qj g2 ⟨?_,?_⟩
     ·have:=T.pc.length_eq;rw[Ac] at this;rw[Ae];exact big _ (by lia)
     ·exact⟨rfl,C.upd ax,(qc a2).trans g1,by rw[q9];exact Bk (λl=>some<|LO.lst l)<|jF t (p0,q0),(qc<|AH a3).trans g3⟩
    |ei r0 A0=>exact⟨rfl,C,g1,by rw[g2];simp[qO],g3⟩
    |bo r0 A0 B0=>exact⟨rfl,C,g1,by rw[g2];simp[qO],g3⟩
    |link p0 q0=>exact⟨rfl,C,g1,by rw[g2];simp[qO],g3⟩
   ·rintro U L3 ⟨rfl,C,g1,g2,g3⟩;obtain⟨ys,e,c6⟩:∃ys,jj A=.tup ys/\oS ys (some 2) none=nF A:=by cases A<;>exact⟨_,rfl,rfl⟩
    rw[e];have key:∀(zs:List Y) (keep:qk->Prop) (Q':YK),zs=nF A->keep L3->(∀p,L3 p=none->Q' (.ref p) (qi L3 p<|.lst<|(aX A).map jj))->xS zs keep 1 (qo 5) (yB<|ID kC.tuple<|qg 5) (qg 5) [some<|jj R,some<|Y.ref g,some<|Y.ref J,some<|Y.ref I,some<|.tup ys] L3 Q':=by
     rintro zs keep Q' rfl hk hq;refine Qo Gm ?_ hk (λi y W us ey hW=>?_) (by rw[Ua];exact hq)
     ·cases A<;>exact big _ (by simp[nF])
     ·rcases Ub (AC ey) with⟨n,rfl⟩|⟨B,rfl⟩
      ·rw[yW] at hW;refine⟨_,ER _,?_⟩;simpa using hW
      ·rw[zF] at hW;cases B<;>exact⟨_,ER _,hW⟩
    refine qa g3 ?_;walk_at "w";refine⟨by cases A<;>(cases e;first|exactλh=>absurd (show HT.sIx 3 0 (some 2)=0 from h.1) (by decide)|exactλh=>absurd (show HT.sIx 4 0 (some 2)=0 from h.1) (by decide)|exactλh=>absurd (show HT.sIx 5 0 (some 2)=0 from h.1) (by decide)),?_⟩;walk_at "w";refine key (oS ys (some 2) none) (λ_=>True) _ c6 trivial λp hp=>?_;have c7:I≠p:=kw g3 hp;have c8:g≠p:=kw g1 hp;have c9:J≠p:=kw g2 hp;have cb:=T.sz;have cc:=s9 A;have ck:=T1.sz;have bc:∀l:List Ru,l.length<=(l.map lO).sum:=λl=>by induction l with|nil=>exact An _|cons B r ih=>have:=T7 B;simp;lia
    have l1:=bc<|gb++aX A;refine qj ((qc c7).trans g3)<|qj q9 ⟨?_,?_⟩
    ·rw[Ae,Ae];rw[Ac] at l1;exact Bi<|big _ (by lia)
    refine⟨_,ER _,((gb++aX A).map lO).sum,?_,lk++o7 A,t++qO A,gb++aX A,_,rfl,(C.trans<|By hp).upd a5,(qc a4).trans<|(qc c8).trans g1,(qc a3).trans<|(qc c9).trans g2,?_,T1,rfl⟩
    ·simp;exact uz
    ·rw[q9,Ax]
def oK(ks:WC):Nat->Nat->Nat
 |0,_=>1
 |n+1,p=>match ks[p]? with
  |some (.nd _ i j)=>1+oK ks n i+oK ks n j
  |_=>1
def bT(ks:WC)(p:Nat):Nat:=oK ks (p+1) p
theorem Ue(ks:WC):∀n p,1<=oK ks n p
 |0,_=>An _
 |n+1,p=>by
  unfold oK;split
  ·simp +arith only
  ·exact An _
theorem gl{ks:WC}(ok:ae ks):∀(n m p:Nat),p<n->p<m->oK ks n p=oK ks m p
 |0,_,_,h,_=>absurd h<|CO _
 |_+1,0,_,_,h=>absurd h<|CO _
 |n+1,m+1,p,h1,h2=>by
  show(match ks[p]? with|some (.nd _ i j)=>1+oK ks n i+oK ks n j|_=>1)=match ks[p]? with|some (.nd _ i j)=>1+oK ks m i+oK ks m j|_=>1
  cases e:ks[p]? with
  |none=>rfl
  |some k=>
   cases k with
   |lf t n=>rfl
   |nd b i j=>
    have:=ok p _ e;have:i<p/\j<p:=this;show 1+oK ks n i+oK ks n j=1+oK ks m i+oK ks m j;rw[gl ok n m i (by lia) (by lia),gl ok n m j (by lia) (by lia)]
def Uf(ks:WC)(p:Nat):1<=bT ks p:=Ue ks _ _
def wA{p:Nat}{n:Str}(e:ks[p]?=some (.lf t n)):bT ks p=1:=by show(match ks[p]? with|some (.nd _ i j)=>1+oK ks p i+oK ks p j|_=>1)=1;rw[e]
def vE(ok:ae ks){p:Nat}{b:Bool}(e:ks[p]?=some (.nd b i j)):bT ks p=1+bT ks i+bT ks j:=by have h:i<p/\j<p:=ok p _ e;show(match ks[p]? with|some (.nd _ i j)=>1+oK ks p i+oK ks p j|_=>1)=_;rw[e];show 1+oK ks p i+oK ks p j=1+oK ks (i+1) i+oK ks (j+1) j;rw[gl ok p (i+1) i (by omega) (by exact BD _),gl ok p (j+1) j (by omega) (by exact BD _)]
def km(f:Wp)(l:Wi):Nat:=(l.map f).sum
def w9(f:Wp)(x:Nat)(l:Wi):km f (x::l)=f x+km f l:=by unfold km;rw[AA,DH]
def ko(f:Wp)(l m:Wi):km f (l++m)=km f l+km f m:=by unfold km;rw[Ax,EJ]
def wu{f:Wp}{l:Wi}{x:Nat}(h:x∈l):km f l=f x+km f (l.erase x):=by have:=((List.perm_cons_erase h).map f).sum_nat;unfold km;rw[this,AA,DH]
theorem fO{f:Wp}:∀{E U:Wi},E.Nodup->(∀x∈E,x∈U)->km f E<=km f U
 |[],_,_,_=>A1 _
 |x::E,U,nd,h=>by obtain⟨J,g⟩:=AE.mp nd;rw[w9,wu<|h x<|Ar ..];have:=fO (f:=f) (E:=E) (U:=U.erase x) g λy I=>(BI λ(z:y=x)=>J<|z▸I).mpr<|h y<|Ai _ I;lia
def bv(f:Wp)(l:We):Nat:=(l.map λc=>f c.1+f c.2).sum
def jW(f:Wp)(l m:We):bv f (l++m)=bv f l+bv f m:=by unfold bv;rw[Ax,EJ]
def SR.weight(ok:ae ks){E:Wi}(h:SR ks R E):km (bT ks) E+bv (bT ks) (zh R)<=(qz R).length:=by
 induction h with
 |@link p q t n E h1 h2 h3 I g=>
  have:=fO (f:=bT ks) (U:=[p,q]) g λx J=>by rcases (I x).mp J with rfl|rfl<;>simp
  have e:km (bT ks) [p,q]=2:=by unfold km;simp[wA h2,wA h3]
  show km (bT ks) E+0<=2;lia
 |@ei r i j A l E h1 h2 h3 I g T o ih=>
  have hj:j∈l.erase i:=(BI<|AH g).mpr I;have C:=fO (f:=bT ks) (U:=(l.erase i).erase j++[r]) o λx J=>by
   rcases (T x).mp J with⟨a,b,c⟩|rfl
   ·exact Am _<|(BI c).mpr<|(BI b).mpr a
   ·simp
  have s2:=wu (f:=bT ks) h3;have s3:=wu (f:=bT ks) hj;have s4:=vE ok h1;rw[ko,w9] at C;have e0:km (bT ks) []=0:=rfl;show _+bv _ (zh A)<=(r::qz A).length;rw[AL];lia
 |@bo r i j A B l EB E h1 h2 h3 I g T o a1 a2=>
  have C:=fO (f:=bT ks) (U:=l.erase i++(EB.erase j++[r])) o λx J=>by
   rcases (T x).mp J with⟨a,b⟩|⟨a,b⟩|rfl
   ·exact Am _<|(BI b).mpr a
   ·exact Ah _<|Am _<|(BI b).mpr a
   ·simp
  have s2:=wu (f:=bT ks) I;have s3:=wu (f:=bT ks) g;have s4:=vE ok h1;rw[ko,ko,w9] at C;have e0:km (bT ks) []=0:=rfl;show _+bv _ (zh A++zh B)<=(r::(qz A++qz B)).length;rw[AL,Ac,jW];lia
 |@cu p q A B l EB E w h1 h2 h3 I g T o h8 a1 a2=>
  have C:=fO (f:=bT ks) (U:=l.erase p++EB.erase q) h8 λx J=>by
   rcases (o x).mp J with⟨a,b⟩|⟨a,b⟩
   ·exact Am _<|(BI b).mpr a
   ·exact Ah _<|(BI b).mpr a
  have s2:=wu (f:=bT ks) h3;have s3:=wu (f:=bT ks) I;rw[ko] at C;have e1:bv (bT ks) (zh<|.cu p q A B)=bT ks p+bT ks q+(bv (bT ks) (zh A)+bv (bT ks) (zh B)):=by show bv _ ((p,q)::(zh A++zh B))=_;rw[<-jW];unfold bv;rw[AA,DH]
  show _<=(qz A++qz B).length;rw[Ac,e1];lia
def Ug(a b:Nat):decide ((a:Int)=(b:Int))=decide (a=b):=by
 by_cases c:a=b
 ·rw[Aw c];exact Aw (by lia)
 ·rw[Au c];exact Au (by lia)
open Classical in
def Uh{b:Bool}{A B:Prop}(h1:A)(h2:B):wf b A B:=by cases b<;>assumption
def gJ{b:Bool}{A B:Prop}(h1:b=true->A)(h2:b=false->B):wf b A B:=by cases b with|true=>exact h1 rfl|false=>exact h2 rfl
def za(lk:We):Wi:=lk.flatMap λx=>[x.1,x.2]
def jq(a b:We):za (a++b)=za a++za b:=by unfold za;rw[AR]
def ku(x:Wq):za [x]=[x.1,x.2]:=by simp[za]
def jr(lk:We):(za lk).length=2*lk.length:=by
 induction lk with
 |nil=>rfl
 |cons x r I=>
  have:=jq [x] r;rw[DC] at this;rw[this,Ac,I,ku,AL];simp;exact Nat.add_comm _ _
inductive gw(ys:List Y)(L:qk)(Q:YK):Prop
 |mk:∀a,∀lk:Wf,(ys=[.ref a])->(L a=some (.lst<|qr lk))->(lk.length<=1000)->(∀p,L p=none->Q (.ref p) (qi L p<|.lst<|nY<|za lk))->gw ys L Q
def Ui:∀ys L Q,gw ys L Q->xi jM.1 4 ys L Q:=by
 rintro ys L Q ⟨a,lk,rfl,l,T,q⟩;intro p o;have I:a≠p:=kw l o;refine yY (ys:=qr lk) (wx<|(qc I).trans l) (λi J U=>∃g j,J=[some<|.ref a,some<|.ref p,g,j]/\U=qi L p (.lst<|nY<|za<|lk.take i)) ⟨_,_,rfl,rfl⟩ ?_ ?_ ?_
 ·rintro i J U ⟨g,j,rfl,rfl⟩;rw[qc I,qc I]
 ·rintro i y J U r ⟨g,j,rfl,rfl⟩;rw[Al] at r;obtain⟨x,ex,rfl⟩:=Aq.mp r;have t:lk.take (i+1)=lk.take i++[x]:=by rw[Bm,ex];rfl
  have C:(nY<|za<|lk.take i).length<=2000:=by rw[aq,jr,AX];lia
  refine qa q9<|qj q9 ⟨Bu C (by decide),?_⟩;refine qa q9 (qj q9 ⟨Bu (by rw[Ac,B4];exact A':_<=2001) (by decide),_,ER _,_,_,rfl,?_⟩);rw[vj,vj,t,jq,ku,bz,Ay];rfl
 ·rintro J U ⟨g,j,rfl,rfl⟩;rw[Ae,Bj];exact xt<|q p o
def JY:Kn->Da
 |.lf t n=>.tup [.s<|.str<|kL t,.s<|.str n]
 |.nd e i j=>.tup [.s<|.str<|kN e,.s<|.int ((i:Nat):Int),.s<|.int ((j:Nat):Int)]
def Uj(k:Kn):jc L 1 (o9 k) (JY k):=by cases k with|lf t n=>exact w4 (.cons ⟨rfl,rfl⟩<|.cons ⟨rfl,rfl⟩ .nil)|nd e i j=>exact w4<|.cons ⟨rfl,rfl⟩<|.cons ⟨rfl,rfl⟩<|.cons ⟨rfl,rfl⟩ .nil
def JZ{f:WD->Bool}{ks:List<|WD}{p:Nat}{k:WD}(h:ks[p]?=some k)(I:f k=true)(hi:p<i):p∈qH f ks i:=by unfold qH;refine AO.mpr ⟨AY.mpr hi,?_⟩;simp only[h];exact I
def sC(m:Nat)(l:Wi):vF (ft<|.int (m:Int)) ((nY l).map ft)=decide (m∈l):=by
 induction l with
 |nil=>rfl
 |cons n r I=>
  have e:vF (ft<|.int (m:Int)) ((nY<|n::r).map ft)=(gZ (ft<|.int (n:Int)) (ft<|.int (m:Int))||vF (ft<|.int (m:Int)) ((nY r).map ft)):=rfl;rw[e,I];have J:gZ (ft<|.int (n:Int)) (ft<|.int (m:Int))=decide (n=m):=Ug n m;rw[J];by_cases c:n=m
  ·subst c;simp
  ·by_cases d:m∈r
   ·simp[d]
   ·simp[c,d,AH c]
def rf(l:Wi):(nY l).all fu=true:=by rw[Cm];intro y I;obtain⟨n,_,rfl⟩:=Bg.mp I;rfl
def fI:RD "_law_beneath" eO 0 ["_law_knots","_law_cuts","_law_todo","_law_p","_law_q","_law_beneath_here"] (λ_=>True):=⟨_,λV B c _ _ _ _ _ _ _ J hN I=>(qb (S_ 2 hN<|zk v5)<|qb (aP yp rfl (xj<|qv 1) (vz (n:=2) rfl<|qx (G_ 3 hN)<|qx (G_ 4 hN) xh)<|qe<|qy<|cT (qv 2)<|jn<|zk<|xx (qv 3)<|qv 4)<|qb (S_ 5 hN<|zk v5)<|qb (nK yp (N_ I (qv 2)<|zk v5)<|qb (S_ 3 hN<|IW<|qv 2)<|qb (qy<|z9 (qv 5)<|jn<|qv 3)<|qe<|zj (E_ I (L_ B.ba<|I_ (qv 0)<|qv 3) qd) (qe<|qy<|cT (qv 2)<|jn<|zk<|xx (I_ (I_ (qv 0)<|qv 3) qd)<|I_ (I_ (qv 0)<|qv 3) qd) ze)<|qe<|qu<|qv 5)⟩
structure oJ(ks:WC)(ct:We)(qs st:Wi):Prop where
 cut:∀c∈ct,(c.1∈qs\/c.1∈st)/\(c.2∈qs\/c.2∈st)
 part:∀p∈qs,∀e i j,ks[p]?=some (.nd e i j)->(i∈qs\/i∈st)/\(j∈qs\/j∈st)
 lt:∀p∈st,p<ks.length
 sz:qs.length+km (bT ks) st<=1000
theorem iY(ks:WC):∀l:Wi,l.length<=km (bT ks) l
 |[]=>An _
 |x::r=>by have:=iY ks r;have:=Uf ks x;rw[w9,AL];lia
theorem bH(f:Wp):∀l:Wf,km f (za l)=bv f l
 |[]=>rfl
 |c::r=>by
  have e:za (c::r)=[c.1,c.2]++za r:=by rw[<-ku,<-jq];rfl
  rw[e,ko,bH f r,w9,w9];show f c.1+(f c.2+km f [])+bv f r=_;have I:km f []=0:=rfl;unfold bv;rw[I,AA,DH];rfl
def kq{c:Wq}(h:c∈ct):c.1∈za ct/\c.2∈za ct:=by
 induction ct with
 |nil=>cases h
 |cons d r I=>
  have e:za (d::r)=[d.1,d.2]++za r:=by rw[<-ku,<-jq];rfl
  rw[e];rcases As.mp h with rfl|h
  ·simp
  ·obtain⟨a,b⟩:=I h;exact⟨Ah _ a,Ah _ b⟩
def Uk{x:Nat}(h:x∈za ct):∃c∈ct,x=c.1\/x=c.2:=by
 induction ct with
 |nil=>cases h
 |cons d r I=>
  have e:za (d::r)=[d.1,d.2]++za r:=by rw[<-ku,<-jq];rfl
  rw[e] at h;rcases Ak.mp h with h|h
  ·exact⟨d,Ar ..,by simpa using h⟩
  ·obtain⟨c,h1,h2⟩:=I h;exact⟨c,Ai _ h1,h2⟩
def lH(ks:WC)(p:Nat):Wi:=match ks[p]? with
 |some (.nd _ i j)=>[i,j]
 |_=>[]
def oJ.step(ok:ae ks){st:Wi}{p:Nat}(h:oJ ks ct qs<|st++[p]):oJ ks ct (qs++[p]) (st++lH ks p)/\km (bT ks) (st++lH ks p)<km (bT ks) (st++[p]):=by
 have J:∀x,(x∈qs\/x∈st++[p])->(x∈qs++[p]\/x∈st++lH ks p):=λx I=>by
  rcases I with I|I
  ·exact .inl<|Am _ I
  ·rcases Ak.mp I with I|I
   ·exact .inr<|Am _ I
   ·exact .inl<|Ah _ I
 have o:=h.sz;have r:km (bT ks) (st++[p])=km (bT ks) st+bT ks p:=by rw[ko,w9];rfl
 have C:km (bT ks) (st++lH ks p)+1=km (bT ks) st+bT ks p:=by
  rw[ko];unfold lH;cases e:ks[p]? with
  |none=>
   have:=h.lt p<|Ah _<|Ao.mpr rfl;rw[Ag this] at e;cases e
  |some k=>
   cases k with
   |lf t n=>
    have:=wA e;show km _ st+0+1=_;lia
   |nd b i j=>
    have:=vE ok e;show km (bT ks) st+km (bT ks) [i,j]+1=_;rw[w9,w9];have T:km (bT ks) []=0:=rfl;lia
 refine⟨⟨λc g=>⟨J _ (h.cut c g).1,J _ (h.cut c g).2⟩,λx I e i j U=>?_,λx I=>?_,?_⟩,by lia⟩
 ·rcases Ak.mp I with I|I
  ·exact⟨J _ (h.part x I e i j U).1,J _ (h.part x I e i j U).2⟩
  ·have I:=Ao.mp I;subst I;have:lH ks x=[i,j]:=by unfold lH;rw[U]
   rw[this];simp
 ·rcases Ak.mp I with I|I
  ·exact h.lt x<|Am _ I
  ·unfold lH at I;split at I
   ·rename_i b i j e;have:=zd e;have l:i<p/\j<p:=ok p _ e;have:x=i\/x=j:=by simpa using I
    lia
   ·cases I
 ·rw[Ac,B4];lia
inductive dY(ys:List Y)(L:qk)(Q:YK):Prop
 |mk:∀a c,∀ks:WC,∀ct:Wf,(ys=[.ref a,.ref c])->(L a=some (.lst<|vg ks))->(L c=some (.lst<|qr ct))->(ae ks)->((∀x∈ct,x.1<ks.length/\x.2<ks.length))->(bv (bT ks) ct<=1000)->(ks.length<=1000)->(∀D qs,L D=none->oJ ks ct qs []->Q (.ref D) (qi L D<|.lst<|nY qs))->dY ys L Q
def Ul(l:Wi):Da.eqs (gR l) []=decide (l=[]):=by cases l<;>rfl
theorem xE:∀ys L Q,dY ys L Q->xi fI.1 6 ys L Q:=by
 rintro ys L Q ⟨a,c,l,r,rfl,ha,hc,ok,hb,hz,hn,q⟩;have big:=a_;have lp:(za r).length<=1000:=AM (iY l _) (by rw[bH];exact hz);intro I C;have s0:qh L (qi L I<|.lst []):=By C;refine x4 (s0 _ _ hc) λkeep kp=>aV ⟨λi τ g=>∃T c4 c5,τ=[some<|Y.ref a,some<|Y.ref c,some<|Y.ref I,T,c4,c5]/\qh L g/\g I=some (.lst<|nY<|za<|r.take i),⟨_,_,_,rfl,s0,q9⟩,?_,?_,?_⟩
 ·rintro i τ g ⟨T,c4,c5,rfl,s,h⟩;exact kp g (by rw[s _ _ hc,s0 _ _ hc])
 ·rintro i y τ g hy ⟨T,c4,c5,rfl,s,h⟩;rw[Al] at hy;obtain⟨pr,ep,rfl⟩:=Aq.mp hy;have et:r.take (i+1)=r.take i++[pr]:=by rw[Bm,ep];rfl
  refine qa h ?_;intro p hp;have al:I≠p:=kw h hp;have ll:(za<|r.take i).length<=(za r).length:=by rw[jr,jr,AX];lia
  refine qj ((qc al).trans h)<|qj q9 ⟨?_,?_⟩
  ·rw[aq];exact Bi (big _ (by simp;lia))
  ·refine⟨_,ER _,_,_,_,rfl,(s.trans<|By hp).upd C,?_⟩;rw[q9,et,jq,ku,bz];rfl
 ·rintro τ g ⟨T,c4,c5,rfl,s,h⟩;rw[Ae,Bj] at h;intro J a4;have a1:I≠J:=kw h a4;have a3:L J=none:=s.none a4;have B0:oJ l r [] (za r):=⟨λx hx=>⟨.inr (kq hx).1,.inr (kq hx).2⟩,λx hx=>(Be hx).elim,λx hx=>by obtain⟨d,hd,e⟩:=Uk hx;have:=hb d hd;lia,by rw[bH];show 0+_<=1000;lia⟩
  refine⟨λm τ g=>∃U st T c4,τ=[some<|Y.ref a,some<|Y.ref c,some<|Y.ref I,T,c4,some<|Y.ref J]/\qh L g/\g I=some (.lst<|nY st)/\g J=some (.lst<|nY U)/\oJ l r U st/\m=km (bT l) st,⟨_,[],za r,_,_,rfl,s.trans<|By a4,(qc a1).trans h,q9,B0,rfl⟩,?_⟩;rintro m τ L1 ⟨U,st,T,c4,rfl,s1,h1,h2,B,rfl⟩;intro p hp;refine bR (n:=0) (m:=0) (by decide) (By hp _ _ h1) q9 (rA st) (.nil:Paired (jc _ 0) _ []) ?_;have ax:I≠p:=kw h1 hp;have ay:J≠p:=kw h2 hp;have s2:qh L (qi L1 p<|.lst []):=s1.trans<|By hp;replace h1:=(qc (o:=.lst []) ax).trans h1;replace h2:=(qc (o:=.lst []) ay).trans h2;generalize qi L1 p (.lst [])=L2 at s2 h1 h2 ⊢;show wf (!(Da.eqs (gR st) [])) _ _;rw[Ul];rcases List.eq_nil_or_concat st with rfl|⟨gb,x,rfl⟩
  ·refine aC rfl ?_;refine⟨qi L J<|.lst<|nY U,λb o e=>?_,q J U a3 B⟩;by_cases cc:b=J
   ·subst cc;rw[q9] at e;rw[<-e];exact h2
   ·rw[qc cc] at e;exact s2 _ _ e
  ·rw[List.concat_eq_append] at *;obtain⟨B1,a2⟩:=B.step ok;have ne:gb++[x]≠[]:=by simp
   rw[Au ne];refine aM rfl ⟨λac g=>∃m',m'<km (bT l) (gb++[x])/\∃U st T c4,ac=[some<|Y.ref a,some<|Y.ref c,some<|Y.ref I,T,c4,some<|Y.ref J]/\qh L g/\g I=some (.lst<|nY st)/\g J=some (.lst<|nY U)/\oJ l r U st/\m'=km (bT l) st,λac g h=>h,?_⟩;rw[bz] at h1;refine I9 h1 ?_;have g1:qi L2 I (.lst<|nY gb) I=some (.lst<|nY gb):=q9;have g2:qi L2 I (.lst<|nY gb) J=some (.lst<|nY U):=(qc<|AH a1).trans h2;have s3:qh L (qi L2 I<|.lst<|nY gb):=s2.upd C;generalize qi L2 I (.lst<|nY gb)=L3 at g1 g2 s3 ⊢;have aL:=B.sz;refine qa g2 (qj g2 ⟨by rw[aq];exact big _ (by lia),?_⟩);have k1:qi L3 J (.lst<|nY U++[.int ((x:Nat):Int)]) I=some (.lst<|nY gb):=(qc a1).trans g1;have k2:qi L3 J (.lst<|nY U++[.int ((x:Nat):Int)]) J=some (.lst<|nY<|U++[x]):=by rw[q9,bz];rfl
   have s4:qh L (qi L3 J<|.lst<|nY U++[.int ((x:Nat):Int)]):=s3.upd a3;generalize qi L3 J (.lst<|nY U++[.int ((x:Nat):Int)])=L4 at k1 k2 s4 ⊢;have hx:=B.lt x<|Ah _<|Ao.mpr rfl;obtain⟨k,ek⟩:∃k,l[x]?=some k:=⟨_,Ag hx⟩;have ga:=s4 _ _ ha;refine qa ga<|qf (jp ek) ?_;cases k with
   |lf t n=>
    have e0:lH l x=[]:=by unfold lH;rw[ek]
    rw[e0,AN] at B1 a2;exact⟨_,ER _,_,a2,U++[x],gb,_,_,rfl,s4,k1,k2,B1,rfl⟩
   |nd b i j=>
    have e0:lH l x=[i,j]:=by unfold lH;rw[ek]
    rw[e0] at B1 a2;refine qa k1 ?_;refine qa ga<|qf (jp ek) ?_;refine qa ga<|qf (jp ek) ?_;intro p2 a5;have n1:I≠p2:=kw k1 a5;have n2:J≠p2:=kw k2 a5;have l1:=iY l<|gb++[i,j];have z1:=B1.sz;refine qj ((qc n1).trans k1)<|qj q9 ⟨?_,?_⟩
    ·rw[aq];rw[Ac] at l1;exact Bi (big _ (by simp at l1 ⊢;lia))
    ·refine⟨_,ER _,_,a2,U++[x],gb++[i,j],_,_,rfl,(s4.trans<|By a5).upd C,?_,(qc<|AH a1).trans<|(qc n2).trans k2,B1,rfl⟩;rw[q9,bz];rfl
def oU(I:vh)(p1:vh):bB:=(jm (xz (jt I<|eG (qg 0)<|qg 1)<|qo 4)
 (jm (xz (fh ji)<|qo 5)
 (jm (uY (bw<|qg 0) (qo 6)<|aR (oO (rD 6)<|k8 3) (vi<|iQ li (qg 5)<|qm (fh<|eG (e9 6 1)<|e9 6 2) ji) dE)
 (jm (ym 6<|xz (pQ vI<|qm (i_ 1 (bw<|qg 0) (qo 11) (oO (e9 11 0)<|vB "either")<|qg 11) ji)<|qo 7)
 (jm (xz (fh ji)<|qo 8)
 (jm (uY (vG<|qg 0) (fC 2<|jx (qo 9)<|jx (qo 6) cQ) (jm (xz (xu eF (jt p1<|qm (qg 2)<|eG (qg 9)<|k8 30269)<|k8 8)<|qo 10)
 (aR (FK (oO (rD 6)<|k8 2)<|yB<|xu (wV false) (qg 9)<|qg 4) (vi<|iQ xl (qg 8)<|dI<|qg 6) (aR (oO (xu eF (xu xW (qg 2)<|k8 3)<|k8 2)<|k8 1) (vi<|iQ xl (qg 8)<|qm (FO (lL (oO (xu eF (qg 10)<|k8 2)<|k8 0)<|yB<|xu (wV true) (qg 9)<|qg 5) (yC .non)<|qg 6) ji) (aR (lL (yB<|xu Fm (qg 10)<|k8 3)<|oO (e9 6 0)<|vB "either") (jm (vi<|iQ xl (qg 8)<|qm (ah<|qm (vB "both")<|eG (e9 6 1)<|e9 6 2) ji)
 (xz (xu lF (qg 7)<|k8 1)<|qo 7)) (aR (lL (yB<|xu Fm (qg 10)<|k8 3)<|yB<|xu Fm (qg 7)<|qg 3) (jm (vi<|iQ xl (qg 8)<|qm (ah<|qm (vB "either")<|eG (e9 6 1)<|e9 6 2) ji)
 (xz (xu fi (qg 7)<|k8 1)<|qo 7))<|vi<|iQ xl (qg 8)<|dI<|qg 6))))))
 (eL<|qg 8)))))))
def x_:Kn->Wi
 |.nd _ i j=>[i,j]
 |.lf _ _=>[]
def af(ks:WC):Wi:=ks.flatMap x_
def uT{r:Nat}{e:Bool}(h:ks[r]?=some (.nd e i j)):i∈af ks/\j∈af ks:=
 ⟨Bz.mpr ⟨_,AC h,by simp[x_]⟩,Bz.mpr ⟨_,AC h,by simp[x_]⟩⟩
def Um(ks:WC):(af ks).length<=2*ks.length:=by
 induction ks with
 |nil=>exact An _
 |cons k r I=>
  have e:af (k::r)=x_ k++af r:=Bh ..;have:(x_ k).length<=2:=by cases k<;>simp[x_]
  rw[e,Ac,AL];lia
def oz(ks:WC)(k:Kn):af (ks++[k])=af ks++x_ k:=by unfold af;rw[AR,Bh,DG,AN]
structure aw(ks:WC)(kept:Wi)(n:Nat)(eH:List<|WD):Prop where
 len:eH.length=n
 lf:∀p t m,p<n->ks[p]?=some (.lf t m)->eH[p]?=some (some<|.lf t m)
 kp:∀p∈kept,p<n->∀k,ks[p]?=some k->eH[p]?=some (some k)
 nd:∀p e i j,p<n->ks[p]?=some (.nd e i j)->(eH[p]?=some none/\p∉af ks)\/∃e',eH[p]?=some (some<|.nd e' i j)
def aw.nil(ks:WC)(kept:Wi):aw ks kept 0 []:=⟨rfl,λ_ _ _ h=>absurd h<|CO _,λ_ _ h=>absurd h<|CO _,λ_ _ _ _ h=>absurd h<|CO _⟩
def aw.snoc{kept:Wi}(T:aw ks kept n eH){k:Kn}{o:WD}(h:ks[n]?=some k)(U:∀t m,k=.lf t m->o=some k)(g:n∈kept->o=some k)
 (l:∀e i j,k=.nd e i j->(o=none/\n∉af ks)\/∃J,o=some (.nd J i j)):aw ks kept (n+1) (eH++[o]):=by
 have old:∀p,p<n->(eH++[o])[p]?=eH[p]?:=λp I=>Az (by rw[T.len];exact I);have new:(eH++[o])[n]?=some o:=by rw[<-T.len];exact dR eH o []
 refine⟨by rw[Ac,T.len];rfl,λp t m I e=>?_,λp I r C e=>?_,λp b i j I e=>?_⟩
 ·by_cases c:p<n
  ·rw[old p c];exact T.lf p t m c e
  ·have:p=n:=by lia
   subst this;rw[h] at e;cases e;rw[new,U t m rfl]
 ·by_cases c:p<n
  ·rw[old p c];exact T.kp p I c C e
  ·have:p=n:=by lia
   subst this;rw[h] at e;cases e;rw[new,g I]
 ·by_cases c:p<n
  ·rw[old p c];exact T.nd p b i j c e
  ·have:p=n:=by lia
   subst this;rw[h] at e;cases e;rw[new];rcases l b i j rfl with⟨a1,a2⟩|⟨J,a⟩
   ·exact .inl ⟨by rw[a1],a2⟩
   ·exact .inr ⟨J,by rw[a]⟩
def bE(o:WD):Nat:=if S7 true o=true then 1 else 0
def cE(l:List<|WD):Nat:=(l.map bE).sum
def cK(l:WC):Nat:=cE<|l.map some
def zK(l:List<|WD)(o:WD):cE (l++[o])=cE l+bE o:=by unfold cE;rw[Ax,EJ];simp
structure Mny(ks:WC)(eH:List<|WD)(i:Nat)(mn m:Int):Prop where
 a:(cE eH:Int)+((cK (ks.drop i):Nat):Int)<=mn
 b:mn<=max (cK ks:Int) m
def Mny.step{U m I:Int}{k:Kn}{o:WD}(M:Mny ks eH i U m)(J:ks[i]?=some k)(h:(bE o:Int)+U<=I+((bE (some k):Nat):Int))(j:I<=max (cK ks:Int) m):Mny ks (eH++[o]) (i+1) I m:=by
 have g:=zd J;have e:cK (ks.drop i)=bE (some k)+cK (ks.drop<|i+1):=by rw[BZ g];rw[Ag g] at J;rw[AZ J];rfl
 have:=M.a;rw[e] at this;exact⟨by rw[zK];omega,j⟩
inductive cj(ys:List Y)(L:qk)(Q:YK):Prop
 |mk:∀a c,∀ks:WC,∀ct:Wf,∀s m:Int,(ys=[.ref a,.ref c,.int s,.int m])->(L a=some (.lst<|vg ks))->(L c=some (.lst<|qr ct))->(ae ks)->((∀x∈ct,x.1<ks.length/\x.2<ks.length))->(bv (bT ks) ct<=1000)->(ks.length<=1000)->(∀D qs eH,L D=none->oJ ks ct qs []->aw ks qs ks.length eH->(cE eH:Int)<=max (cK ks:Int) m->Q (.ref D) (qi L D<|.lst<|jw eH))->cj ys L Q
theorem Uo:∀ys L Q,cj ys L Q->xi (oU dY cJ) 11 ys L Q:=by
 rintro ys L Q ⟨a,c,U,ct,s,m,rfl,ha,hc,ok,hb,hz,hn,q⟩;have big:=a_;refine⟨a,c,U,ct,rfl,ha,hc,ok,hb,hz,hn,λD l hD B=>?_⟩;have s1:qh L (qi L D<|.lst<|nY l):=By hD;have a3:qi L D (.lst<|nY l) D=some (.lst<|nY l):=q9;generalize qi L D (.lst<|nY l)=L1 at s1 a3 ⊢;intro r a4;have s2:qh L (qi L1 r<|.lst []):=s1.trans<|By a4;have al:L r=none:=s1.none a4;have ax:D≠r:=kw a3 a4;refine x4 (s2 _ _ ha) λkeep kp=>aV ⟨λi τ J=>∃c6 c7 c8 c9 g,τ=[some<|Y.ref a,some<|Y.ref c,some<|.int s,some<|.int m,some<|Y.ref D,some<|Y.ref r,c6,c7,c8,c9,g]/\qh L J/\J D=some (.lst<|nY l)/\J r=some (.lst<|nY<|af<|U.take i),⟨_,_,_,_,_,rfl,s2,(qc ax).trans a3,q9⟩,?_,?_,?_⟩
 ·rintro i τ J ⟨c6,c7,c8,c9,g,rfl,C,_⟩;exact kp J (by rw[C _ _ ha,s2 _ _ ha])
 ·rintro i y τ J hy ⟨c6,c7,c8,c9,g,rfl,C,g1,g2⟩;rw[Al] at hy;obtain⟨k,ek,rfl⟩:=Aq.mp hy;have et:U.take (i+1)=U.take i++[k]:=by rw[Bm,ek];rfl
  have pl:=Um<|U.take i;rw[AX] at pl;cases k with
  |lf t n=>exact⟨_,ER _,_,_,_,_,_,rfl,C,g1,by rw[et,oz];show _=some (LO.lst<|nY<|af (U.take i)++[]);rw[AN];exact g2⟩
  |nd e p1 p2=>
   refine qa g2 ?_;intro p hp;have n1:r≠p:=kw g2 hp;have n2:D≠p:=kw g1 hp;refine qj ((qc n1).trans g2)<|qj q9 ⟨?_,?_⟩
   ·rw[aq];exact Bi (big _ (by simp;lia))
   ·refine⟨_,ER _,_,_,_,_,_,rfl,(C.trans<|By hp).upd al,(qc ax).trans<|(qc n2).trans g1,?_⟩;rw[q9,et,oz,bz];rfl
 ·rintro τ J ⟨c6,c7,c8,c9,g,rfl,C,g1,g2⟩;rw[Ae,Bj] at g2;refine x4 (C _ _ ha) λkeep kp=>aj (λi zs=>zs.length=cK (U.take i)) (by rw[Ae];exact big _ (by exact eM)) (kp _ rfl) rfl ?_ ?_
  ·rintro i y zs ey hl;rw[Al] at ey;obtain⟨k,ek,rfl⟩:=Aq.mp ey;have et:cK (U.take<|i+1)=cK (U.take i)+bE (some k):=by rw[Bm,ek];show cE (((U.take i)++[k]).map some)=_;rw[Ax];exact zK _ _
   have no:bE (some k)=0->i0 (λzs a5=>a5=J/\zs.length=cK (U.take<|i+1)) zs J:=λh=>⟨_,ER _,rfl,by rw[et,h];exact hl⟩;have yes:∀z,bE (some k)=1->i0 (λzs a5=>a5=J/\zs.length=cK (U.take<|i+1)) (zs++[z]) J:=λz h=>⟨_,ER _,rfl,by rw[Ac,B4,et,h,hl]⟩;cases k with
   |lf t n=>cases t<;>exact no rfl
   |nd e p1 p2=>
    cases e with|true=>exact yes _ rfl|false=>exact no rfl
  rintro zs ay p hp;rw[Ae,Bj] at ay;refine qj q9 ?_;rw[ay];have s3:qh L (qi J p<|.lst zs):=C.trans<|By hp;have k1:qi J p (.lst zs) D=some (.lst<|nY l):=(qc<|kw g1 hp).trans g1;have k2:qi J p (.lst zs) r=some (.lst<|nY<|af U):=(qc<|kw g2 hp).trans g2;generalize qi J p (.lst zs)=L2 at s3 k1 k2 ⊢;intro mk a1;have a2:L mk=none:=s3.none a1;have s4:qh L (qi L2 mk<|.lst []):=s3.trans<|By a1;have aL:D≠mk:=kw k1 a1;have ba:r≠mk:=kw k2 a1;refine x4 (s4 _ _ ha) λkeep kp=>aV ⟨λi τ J=>∃c6,∃j:Int,∃c9 g I,τ=[some<|Y.ref a,some<|Y.ref c,some<|.int s,some<|.int m,some<|Y.ref D,some<|Y.ref r,c6,some<|.int j,some<|Y.ref mk,c9,g]/\qh L J/\J D=some (.lst<|nY l)/\J r=some (.lst<|nY<|af U)/\J mk=some (.lst<|jw I)/\aw U l i I/\Mny U I i j m,⟨_,_,_,_,[],rfl,s4,(qc aL).trans k1,(qc ba).trans k2,q9,aw.nil _ _,⟨by show((0:Nat):Int)+(cK U:Int)<=_;omega,by omega⟩⟩,?_,?_,?_⟩
  ·rintro i τ J ⟨c6,j,c9,g,I,rfl,C,_⟩;exact kp J (by rw[C _ _ ha,s4 _ _ ha])
  ·rintro i y τ J hy ⟨c6,j,c9,g,I,rfl,C,g1,g2,g3,T,M⟩;obtain⟨z,ez,rfl⟩:=gc hy;rw[Al] at ez;obtain⟨k,ek,rfl⟩:=Aq.mp ez;have hi:=zd ek;have ol:=T.len;refine⟨s,i,30269,rfl,by exact AV _,by omega,by decide,by decide,λv h0 h1=>?_⟩;refine⟨show(0:Int)<8 by decide,?_⟩;have add:∀(o:WD) (y:Y) (ac:Int),cA o=y->aw U l (i+1) (I++[o])->Mny U (I++[o]) (i+1) ac m->i0 (λ(τ:j9) (J:qk)=>∃c6,∃j:Int,∃c9 g I,τ=[some<|Y.ref a,some<|Y.ref c,some<|.int s,some<|.int m,some<|Y.ref D,some<|Y.ref r,c6,some<|.int j,some<|Y.ref mk,c9,g]/\qh L J/\J D=some (.lst<|nY l)/\J r=some (.lst<|nY<|af U)/\J mk=some (.lst<|jw I)/\aw U l (i+1) I/\Mny U I (i+1) j m) [some<|Y.ref a,some<|Y.ref c,some<|.int s,some<|.int m,some<|Y.ref D,some<|Y.ref r,some<|o9 k,some<|.int ac,some<|Y.ref mk,some<|.int ((i:Nat):Int),some<|.int<|v % 8] (qi J mk<|.lst<|jw I++[y]):=λo y ac ey T' M'=>
    ⟨_,ER _,_,_,_,_,I++[o],rfl,C.upd a2,(qc aL).trans g1,(qc ba).trans g2,by rw[q9,<-ey,cr],T',M'⟩
   have len:(jw I).length<sizeLine:=by rw[jg,ol];exact big _ (by lia)
   have M0:Mny U (I++[some k]) (i+1) j m:=M.step ek (by omega) M.b;cases k with
   |lf t n=>
    have T':aw U l (i+1) (I++[some<|.lf t n]):=T.snoc ek (λ_ _ h=>by rw[h]) (λ_=>rfl) (λ_ _ _ h=>by cases h);exact qa g3<|qj g3 ⟨len,add _ _ j rfl T' M0⟩
   |nd e p1 p2=>
    refine qa g1 ⟨rfl,rf _,?_⟩;rw[sC];by_cases ck:i∈l
    ·have T':aw U l (i+1) (I++[some<|.nd e p1 p2]):=T.snoc ek (λ_ _ h=>by cases h) (λ_=>rfl) (λ_ _ _ h=>.inr ⟨e,by cases h;rfl⟩);refine aM (by rw[Aw ck];rfl) ?_;exact qa g3<|qj g3 ⟨len,add _ _ j rfl T' M0⟩
    refine aC (by rw[Au ck];rfl) ?_;have T':∀e',aw U l (i+1) (I++[some<|.nd e' p1 p2]):=λe'=>T.snoc ek (λ_ _ h=>by cases h) (λh=>absurd h ck) (λ_ _ _ h=>.inr ⟨e',by cases h;rfl⟩);refine⟨⟨by decide,by decide⟩,show(0:Int)<2 by decide,?_⟩;refine zo (λh=>?_) λh=>?_
    ·refine qa g3 ?_;refine⟨show(0:Int)<2 by decide,?_⟩;refine zo (λh2=>?_) λh2=>?_
     ·refine qa g2 ⟨rfl,rf _,?_⟩;rw[sC];by_cases cp:i∈af U
      ·refine aC (by rw[Aw cp];rfl) ?_;exact qj g3 ⟨len,add _ _ j rfl (T' e) M0⟩
      ·refine aM (by rw[Au cp];rfl) ?_;have T2:aw U l (i+1) (I++[none]):=T.snoc ek (λ_ _ h=>by cases h) (λh=>absurd h ck) λ_ _ _ h=>.inl ⟨rfl,cp⟩;exact qj g3 ⟨len,add _ _ j rfl T2 (M.step ek (by have:bE (none:WD)=0:=rfl;omega) M.b)⟩
     ·exact qj g3 ⟨len,add _ _ j rfl (T' e) M0⟩
    ·have same:=add (some<|.nd e p1 p2) _ j rfl (T' e) M0;refine zo (λh2=>?_) λh2=>?_
     ·cases e with
      |true=>exact qa g3 (qj g3 ⟨len,add (some<|.nd false p1 p2) _ (j-1) rfl (T' false) (M.step ek (by show((0:Nat):Int)+j<=j-1+((1:Nat):Int);omega) (by have:=M.b;omega))⟩)
      |false=>
       refine zo (λh2=>?_) λh2=>?_
       ·refine zo (λh3=>?_) λh3=>?_
        ·exact qa g3 (qj g3 ⟨len,add (some<|.nd true p1 p2) _ (j+1) rfl (T' true) (M.step ek (by show((1:Nat):Int)+j<=j+1+((0:Nat):Int);omega) (by omega))⟩)
        ·exact qa g3<|qj g3 ⟨len,same⟩
       ·exact qa g3<|qj g3 ⟨len,same⟩
     ·refine zo (λh3=>absurd h3 h2) λh3=>?_;exact qa g3<|qj g3 ⟨len,same⟩
  ·rintro τ J ⟨c6,j,c9,g,I,rfl,C,g1,g2,g3,T,M⟩;rw[fY,Ae] at T M;have mb:(cE I:Int)<=max (cK U:Int) m:=by have:=M.a;have:=M.b;omega
   refine⟨qi L mk<|.lst<|jw I,λb o e=>?_,q mk l I a2 B T mb⟩;by_cases cc:b=mk
   ·subst cc;rw[q9] at e;rw[<-e];exact g3
   ·rw[qc cc] at e;exact C _ _ e
def eU:RD "_law_crossed" fM 0 ["_law_knots","_law_links","_law_one","_law_two","_law_first","_law_mates","_law_second","_law_a","_law_b","_law_c","_law_d","_law_rest"] (λ_=>True):=⟨_,λV B c _ _ _ _ _ _ _ J hN I=>(qb (ao (i:=4) hN rfl (Or.inr rfl)<|I_ (qv 1)<|ql j7 (qv 2)<|L_ B.ba<|qv 1)<|qb (cV ["_law_x"] (i:=5) hN rfl (Or.inl rfl) (EV (by rfl)) rfl (xj<|qv 1) (m6 12) (λ_ _ _ _=>dZ<|kj<|wv (N_ I (qv 12)<|qv 4)<|vn<|E_ I (I_ (I_ (qv 0)<|J_ 12) qd)<|I_ (I_ (qv 0)<|J_ 4) qd) λ_ _ _ _=>(qv 12))<|qb (zj (E_ I (qv 5)<|zk v5) (qe<|qu<|qv 1) ze)<|qb (ao (i:=6) hN rfl (Or.inr rfl)<|I_ (qv 5)<|ql j7 (qv 3)<|L_ B.ba<|qv 5)<|qb (aU (cX (E_ I (I_ (I_ (qv 0)<|J_ 4) qd) je) (qv 4)<|zb<|xx (J_ 4)<|J_ 4)<|vz (n:=2) rfl<|qx (G_ 7 hN)<|qx (G_ 8 hN) xh)<|qb (aU (cX (E_ I (I_ (I_ (qv 0)<|J_ 6) qd) je) (qv 6)<|zb<|xx (J_ 6)<|J_ 6)<|vz (n:=2) rfl<|qx (G_ 9 hN)<|qx (G_ 10 hN) xh)<|qb (cV ["_law_x"] (i:=11) hN rfl (Or.inl rfl) (EV (by rfl)) rfl (xj<|qv 1) (m6 12) (λ_ _ _ _=>dZ<|kj<|wv (N_ I (qv 12)<|qv 4)<|vn<|N_ I (qv 12)<|qv 6) λ_ _ _ _=>(qv 12))<|qe<|qu<|zm bA rfl B.bg vv<|jn<|ql js (qv 11)<|zk<|xx (zb<|xx (zm qA rfl B.bp i7<|xx (qv 7)<|qv 10)<|zm pK rfl B.bj iz<|xx (qv 7)<|qv 10)<|zb<|xx (zm qA rfl B.bp i7<|xx (qv 9)<|qv 8)<|zm pK rfl B.bj iz<|xx (qv 9)<|qv 8)⟩
def bU(x:Wq):Da:=.tup [.s<|.int (x.1:Int),.s<|.int (x.2:Int)]
def db(x y:Wq):Da.eq (bU x) (bU y)=decide (x=y):=by show(decide ((x.1:Int)=(y.1:Int))&&(decide ((x.2:Int)=(y.2:Int))&&true))=_;rw[Bool.and_true,<-Bool.decide_and];exact Eo.mpr ⟨λ⟨h1,h2⟩=>DR (B9.mp h1)<|B9.mp h2,λh=>by subst h;exact⟨rfl,rfl⟩⟩
def cH(x:Wq):jc L 1 (gu x) (bU x):=w4<|.cons (EX _)<|.cons (EX _) .nil
theorem aY{L:qk}:∀l:Wf,Paired (jc L 1) (qr l)<|l.map bU
 |[]=>.nil
 |_::r=>.cons (w4<|.cons (EX _)<|.cons (EX _) .nil)<|aY r
def Uq(l:We):Da.eqs (l.map bU) []=decide (l=[]):=by cases l<;>rfl
def rC{f:Wq->Bool}{keep:qk->Prop}{Q:YK}(hz:lk.length<=1000)(o:keep L)
 (turn:∀(i:Nat) (I:Wq) (R:List Y->qk->Prop) zs,lk[i]?=some I->(f I=true->R (zs++[gu I]) L)->(f I=false->R zs L)->g (gu I) (τ++List.replicate 1 none) L λJ L2=>tc J L2 λb L3=>wf b (te J L3 λz r=>R (zs++[z]) r)<|R zs L3)
 (t:∀p,L p=none->Q (.ref p) (qi L p<|.lst<|qr<|lk.filter f)):xS (qr lk) keep 1 g tc te τ L Q:=by
 refine aj (λi zs=>zs=qr ((lk.take i).filter f)) (by rw[Ae];exact Bu hz (by decide)) o rfl ?_ ?_
 ·rintro i y zs U rfl;rw[Al] at U;obtain⟨I,j,rfl⟩:=Aq.mp U;have l:lk.take (i+1)=lk.take i++[I]:=by rw[Bm,j];rfl
  refine turn i I _ _ j (λh=>⟨L,ER _,rfl,?_⟩) λh=>⟨L,ER _,rfl,?_⟩
  ·rw[l,Cr,Ew h,Dg,<-jF]
  ·rw[l,Cr,Eu (by rw[h];simp),Dg,AN]
 ·rintro zs rfl p C;rw[Ae,Bj];exact t p C
structure LkI(ks:WC)(lk:We):Prop where
 nd:(za lk).Nodup
 lt:∀p∈lk,p.1<p.2
 at_:∀p∈lk,∃t n,ks[p.1]?=some (.lf t n)/\ks[p.2]?=some (.lf (!t) n)
def j8(c:Wq)(r:We):za (c::r)=c.1::c.2::za r:=by
 have e:za (c::r)=[c.1,c.2]++za r:=by rw[<-ku,<-jq];rfl
 rw[e];rfl
def x6(h:l.Perm m):(za l).Perm (za m):=by
 induction h with
 |nil=>exact .nil
 |cons x _ I=>rw[j8,j8];exact(I.cons _).cons _
 |swap x y l=>
  rw[j8,j8,j8,j8];exact(Bd (l₁:=[y.1,y.2]) (l₂:=[x.1,x.2])).append_right (za l)
 |trans _ _ h1 h2=>exact h1.trans h2
theorem jl:∀{l:We},(za l).Nodup->l.Nodup
 |[],_=>B6
 |c::r,h=>by rw[j8] at h;have h1:=AE.mp h;have h2:=AE.mp h1.2;exact AE.mpr ⟨λI=>h1.1<|Ai _ (kq I).1,jl h2.2⟩
def yo(nd:l.Nodup){x y:Wq}(U:x∈l)(g:y∈l)(ne:x≠y):l.Perm (x::y::l.filter λz=>decide (z≠x)&&decide (z≠y)):=by
 refine(Bc nd ?_).mpr λz=>?_
 ·refine AE.mpr ⟨λh=>?_,AE.mpr ⟨λh=>?_,nd.filter _⟩⟩
  ·rcases As.mp h with h|h
   ·exact ne h
   ·simp at h
  ·simp at h
 ·by_cases I:z=x
  ·subst I;simp[U]
  ·by_cases J:z=y
   ·subst J;simp[g]
   ·simp[I,J]
def bu(a b:Nat):Wq:=(min a b,max a b)
def ln(a b:Nat)(r:Wi):(min a b::max a b::r).Perm (a::b::r):=by
 by_cases c:a<=b
 ·rw[BY c,Cn c]
 ·rw[C2 (by lia),Cu (by lia)];exact List.Perm.swap ..
def jb(t:Bool)(p:Wq):Wq:=if t=true then(p.2,p.1) else p
def kG(t:Bool)(p:Wq)(r:Wi):((jb t p).1::(jb t p).2::r).Perm (p.1::p.2::r):=by cases t with|true=>exact List.Perm.swap ..|false=>exact .refl _
def LkI.cross(I:LkI ks lk){x y:Wq}(C:x∈lk)(T:y∈lk)(ne:x≠y){u:Bool}{n:Str}(x1:ks[x.1]?=some (.lf t n))(g:ks[x.2]?=some (.lf (!t) n))(j:ks[y.1]?=some (.lf u n))(l:ks[y.2]?=some (.lf (!u) n)):
 (za<|(lk.filter λz=>decide (z≠x)&&decide (z≠y))++[bu (jb t x).1 (jb u y).2,bu (jb u y).1 (jb t x).2]).Perm (za lk)/\
 LkI ks ((lk.filter λz=>decide (z≠x)&&decide (z≠y))++[bu (jb t x).1 (jb u y).2,bu (jb u y).1 (jb t x).2]):=by
 have pm:=x6<|yo (jl I.nd) C T ne;rw[j8,j8] at pm;generalize o:(lk.filter λz=>decide (z≠x)&&decide (z≠y))=rest at pm;have r:(za<|rest++[bu (jb t x).1 (jb u y).2,bu (jb u y).1 (jb t x).2]).Perm (za lk):=by rw[jq,j8,ku];refine Bd.trans<|List.Perm.trans ?_ pm.symm;refine(ln (jb t x).1 (jb u y).2 _).trans ?_;refine(((ln (jb u y).1 (jb t x).2<|za rest).cons _).cons _).trans ?_;refine List.Perm.trans ?_<|kG t x _;refine List.Perm.cons _ ?_;refine List.Perm.trans ?_<|(kG u y _).cons _;refine(Bd (l₁:=[(jb u y).2,(jb u y).1]) (l₂:=[(jb t x).2])).append_right (za rest) |>.trans ?_;exact(List.Perm.swap ..).cons _
 have J:ks[(jb t x).1]?=some (.lf false n)/\ks[(jb t x).2]?=some (.lf true n):=by cases t;exact⟨x1,g⟩;exact⟨g,x1⟩
 have U:ks[(jb u y).1]?=some (.lf false n)/\ks[(jb u y).2]?=some (.lf true n):=by cases u;exact⟨j,l⟩;exact⟨l,j⟩
 have two:∀a b,ks[a]?=some (.lf false n)->ks[b]?=some (.lf true n)->(bu a b).1<(bu a b).2/\∃t n,ks[(bu a b).1]?=some (.lf t n)/\ks[(bu a b).2]?=some (.lf (!t) n):=λa b ea eb=>by
  have a1:a≠b:=λh=>by subst h;rw[ea] at eb;cases eb
  unfold bu;by_cases c:a<b
  ·rw[BY (by exact hJ),Cn (by lia)];exact⟨c,false,n,ea,eb⟩
  ·rw[C2 (by exact FE),Cu (by lia)];exact⟨by show b<a;lia,true,n,eb,ea⟩
 refine⟨r,r.nodup_iff.mpr I.nd,λp h=>?_,λp h=>?_⟩
 ·rcases Ak.mp h with h|h
  ·rw[<-o] at h;exact I.lt p (AO.mp h).1
  ·rcases As.mp h with rfl|h
   ·exact(two _ _ J.1 U.2).1
   ·rw[Ao.mp h];exact(two _ _ U.1 J.2).1
 ·rcases Ak.mp h with h|h
  ·rw[<-o] at h;exact I.at_ p (AO.mp h).1
  ·rcases As.mp h with rfl|h
   ·exact(two _ _ J.1 U.2).2
   ·rw[Ao.mp h];exact(two _ _ U.1 J.2).2
def LkI.perm(I:LkI ks l)(p:m.Perm l):LkI ks m:=⟨(x6 p).nodup_iff.mpr I.nd,λx J=>I.lt x<|p.mem_iff.mp J,λx J=>I.at_ x<|p.mem_iff.mp J⟩
inductive bO(ys:List Y)(L:qk)(Q:YK):Prop
 |mk:∀a l,∀ks:WC,∀lk:Wf,∀one two:Int,(ys=[.ref a,.ref l,.int one,.int two])->(L a=some (.lst<|vg ks))->(L l=some (.lst<|qr lk))->(LkI ks lk)->(lk≠[])->(lk.length<=125)->(ks.length<=1000)->(Q (.ref l) L)->(∀D lk',L D=none->LkI ks lk'->lk'.length=lk.length->(za lk').Perm (za lk)->lk'.Pairwise aG->Q (.ref D) (qi L D<|.lst<|qr lk'))->bO ys L Q
def iO(ks:WC)(p:Nat):Str:=match ks[p]? with
 |some (.lf _ n)=>n
 |_ => ""
def lU{p:Nat}{n:Str}(e:ks[p]?=some (.lf t n)):iO ks p=n:=by unfold iO;rw[e]
def bP{x:Wq}(h:l[i]?=some x):(qr l)[i]?=some (gu x):=by rw[Al,h];rfl
def Ur:bB:=(jm (xz (i_ 1 (bw<|qg 1) (qo 12) (lL (Hy (qg 12)<|qg 4)<|Hy (qg 12)<|qg 6)<|qg 12)<|qo 11)
 (eL<|pQ am<|qm (xu fi (qg 11)<|fh<|qm (ah<|qm (pQ FI<|eG (qg 7)<|qg 10)<|qm (pQ zO<|eG (qg 7)<|qg 10) ji)<|qm (ah<|qm (pQ FI<|eG (qg 9)<|qg 8)<|qm (pQ zO<|eG (qg 9)<|qg 8) ji) ji) ji))
def yh{I:We}{A B C D:Nat}{p:Addr}{Q:YK}(h:L p=some (.lst<|qr I))(hz:I.length<=125)(nd:(I++[bu A D,bu C B]).Nodup)(r:∀p∈I++[bu A D,bu C B],p.2<1000000)
 (q:∀L' J qs,qh L L'->L' J=none->qs.Perm (I++[bu A D,bu C B])->qs.Pairwise aG->Q (.ref J) (qi L' J<|.lst<|qr qs)):
 ∀p2,L p2=none->fi (.ref p) (.ref p2) (qi L p2<|.lst [Y.tup [.int<|min (A:Int) (D:Int),.int<|max (A:Int) (D:Int)],Y.tup [.int<|min (C:Int) (B:Int),.int<|max (C:Int) (B:Int)]]) λy L'=>am [y] L' Q:=by
 have big:=a_;intro p2 g;have l:∀a b:Nat,(Y.tup [.int<|min (a:Int) (b:Int),.int<|max (a:Int) (b:Int)])=gu (bu a b):=λa b=>by
  have t:min (a:Int) (b:Int)=((min a b:Nat):Int):=by omega
  have T:max (a:Int) (b:Int)=((max a b:Nat):Int):=by omega
  unfold gu bu;rw[t,T]
 rw[l,l];have j:=By (o:=.lst [gu<|bu A D,gu<|bu C B]) g;refine⟨_,_,j _ _ h,q9,?_,λp3 U=>?_⟩
 ·rw[Ae];exact Bi (big _ (by show _+2<=_;lia))
 generalize qi L p2 (.lst [gu<|bu A D,gu<|bu C B])=L1 at j U ⊢;rw[show qr I++[gu<|bu A D,gu<|bu C B]=qr (I++[bu A D,bu C B]) by unfold qr;rw[Ax];rfl];exact m5 (ps:=I++[bu A D,bu C B]) q9 r nd (by rw[Ac];show I.length+2<=_;lia) λJ qs hD pm pw=>q _ J qs (j.trans<|By U) hD pm pw
def dU{J j o:Option Y}{l:Addr}{x y:Wq}{A B C D:Nat}(r:L l=some (.lst<|qr lk))(hz:lk.length<=125)
 (nd:((lk.filter λz=>decide (z≠x)&&decide (z≠y))++[bu A D,bu C B]).Nodup) (t:∀p∈(lk.filter λz=>decide (z≠x)&&decide (z≠y))++[bu A D,bu C B],p.2<1000000)
 (q:∀L' U qs,qh L L'->L' U=none->qs.Perm ((lk.filter λz=>decide (z≠x)&&decide (z≠y))++[bu A D,bu C B])->qs.Pairwise aG->En.rt (.ref U) (qi L' U<|.lst<|qr qs)):
 Ur En [c0,some<|.ref l,J,j,some<|gu x,o,some<|gu y,some<|.int (A:Int),some<|.int (B:Int),some<|.int (C:Int),some<|.int (D:Int),none] L:=by
 have big:=a_;refine x4 r λkeep T=>rC (f:=λz=>decide (z≠x)&&decide (z≠y)) (by exact eM) (T _ rfl) (λi I R zs ep hy g=>?_) λp hp=>?_
 ·refine⟨rfl,rfl,1,1,bU I,bU x,by decide,cH I,cH x,?_⟩;rw[db];by_cases c:I=x
  ·refine aC (by rw[Aw c];rfl) (g (by rw[Au (by simpa using c)];rfl))
  ·refine aM (by rw[Au c];rfl) ?_;refine⟨rfl,rfl,1,1,bU I,bU y,by decide,cH I,cH y,?_⟩;rw[db];by_cases J:I=y
   ·refine aC (by rw[Aw J];rfl)<|g (by rw[Au (by simpa using J:¬I≠y),Cp])
   ·refine aM (by rw[Au J];rfl) (hy (by rw[Aw c,Aw J];rfl))
 exact yh q9 (AM (CQ ..) hz) nd t λL' U qs sl=>q L' U qs<|(By hp).trans sl
def wB:∀ys L Q,bO ys L Q->xi eU.1 12 ys L Q:=by
 rintro ys L Q ⟨a,l,J,lk,one,two,rfl,ha,hl,I,ne,hz,hn,q0,q⟩;have big:=a_;have a2:0<lk.length:=CD.mpr ne;obtain⟨j1,x,e1,h1,ex⟩:=dX a2 one;have pl:(qr lk).length=lk.length:=Ae ..;have mx:=AC ex;obtain⟨t,n,x1,x2⟩:=I.at_ x mx;refine qa hl ⟨by show(0:Int)<((qr lk).length:Int);rw[pl];lia,qa hl (qf (by rw[pl,e1];exact x5 (bP ex):eI (qr lk) (one % ((qr lk).length:Int))=some (gu x)) ?_)⟩;refine x4 hl λkeep kp=>rC (f:=λz=>decide (z≠x)&&decide (iO J z.1=iO J x.1)) (by exact eM) (kp _ rfl) (λi pr R zs ep hy a3=>?_) λp hp=>?_
 ·obtain⟨t2,n2,p1,p2⟩:=I.at_ pr<|AC ep;refine⟨rfl,rfl,1,1,bU pr,bU x,by decide,cH pr,cH x,?_⟩;rw[db];by_cases c:pr=x
  ·refine aC (by rw[Aw c];rfl) (a3 (by rw[Au (by simpa using c)];rfl))
  ·refine aM (by rw[Au c];rfl) ?_;refine qa ha<|qf (jp p1) ?_;refine qa ha<|qf (jp x1) ?_;have en:(decide<|iO J pr.1=iO J x.1)=decide (n2=n):=by rw[lU p1,lU x1]
   refine zo (λh=>hy ?_) λh=>a3 ?_
   ·rw[en,Aw h,Aw c];rfl
   ·rw[en,Au h,Cp]
 have np:l≠p:=kw hl hp;have s1:qh L (qi L p<|.lst<|qr<|lk.filter λz=>decide (z≠x)&&decide (iO J z.1=iO J x.1)):=By hp;have g1:qi L p (.lst<|qr<|lk.filter λz=>decide (z≠x)&&decide (iO J z.1=iO J x.1)) p=some (.lst<|qr<|lk.filter λz=>decide (z≠x)&&decide (iO J z.1=iO J x.1)):=q9;obtain⟨mt,C⟩:∃mt,mt=lk.filter λz=>decide (z≠x)&&decide (iO J z.1=iO J x.1):=⟨_,rfl⟩;rw[<-C] at s1 g1 ⊢;have lm:mt.length<=lk.length:=by rw[C];exact CQ ..
 generalize qi L p (.lst<|qr mt)=L1 at s1 g1 ⊢;intro p2 T;refine bR (n:=1) (m:=0) (by decide) (By T _ _ g1) q9 (aY mt) (.nil:Paired (jc _ 0) _ []) ?_;have s2:qh L (qi L1 p2<|.lst []):=s1.trans<|By T;have g2:qi L1 p2 (.lst []) p=some (.lst<|qr mt):=By T _ _ g1;generalize qi L1 p2 (.lst [])=L2 at s2 g2 ⊢;show wf (Da.eqs (mt.map bU) []) _ _;rw[Uq];by_cases cm:mt=[]
 ·refine aM (by rw[Aw cm]) ?_;exact⟨L,s2,q0⟩
 refine aC (by rw[Au cm]) ?_;obtain⟨j2,y,e2,h2,ey⟩:=dX (CD.mpr cm) two;have pm:(qr mt).length=mt.length:=Ae ..;have my:=AC ey;rw[C] at my;obtain⟨my,cy⟩:=AO.mp my;rw[AS,DX,DX] at cy;obtain⟨u,n',y1,y2⟩:=I.at_ y my;have a4:n'=n:=by rw[<-lU y1,<-lU x1];exact cy.2
 subst a4;have U:=s2 _ _ hl;have a1:=s2 _ _ ha;refine qa g2 ⟨by show(0:Int)<((qr mt).length:Int);rw[pm];have:=CD.mpr cm;lia,qa g2 (qf (by rw[pm,e2];exact x5 (bP ey):eI (qr mt) (two % ((qr mt).length:Int))=some (gu y)) ?_)⟩;obtain⟨cp,cI⟩:=I.cross mx my (AH cy.1) x1 x2 y1 y2;have tail:∀L' r qs,qh L2 L'->L' r=none->qs.Perm ((lk.filter λz=>decide (z≠x)&&decide (z≠y))++[bu (jb t x).1 (jb u y).2,bu (jb u y).1 (jb t x).2])->qs.Pairwise aG->a7 Q (.ref r) (qi L' r<|.lst<|qr qs):=λL' r qs sl hD pq pw=>by
  have a5:L r=none:=s2.none<|sl.none hD;refine⟨qi L r<|.lst<|qr qs,λb o e=>?_,q r qs a5 (cI.perm pq) ?_ ((x6 pq).trans cp) pw⟩
  ·by_cases c:b=r
   ·subst c;rw[q9] at e ⊢;exact e
   ·rw[qc c] at e ⊢;exact sl _ _<|s2 _ _ e
  ·have l1:=cp.length_eq;rw[jr,jr] at l1;rw[pq.length_eq];lia
 have g:=jl cI.nd;have j:∀p∈(lk.filter λz=>decide (z≠x)&&decide (z≠y))++[bu (jb t x).1 (jb u y).2,bu (jb u y).1 (jb t x).2],p.2<1000000:=λp hp=>by obtain⟨_,_,_,h⟩:=cI.at_ p hp;have:=zd h;lia
 refine qa a1<|qf (jp x1) ?_;cases t with
 |false=>
  refine qa a1<|qf (jp y1) ?_;cases u with|false=>exact dU U hz g j tail|true=>exact dU U hz g j tail
 |true=>
  refine qa a1<|qf (jp y1) ?_;cases u with|false=>exact dU U hz g j tail|true=>exact dU U hz g j tail
def gY(l:vh)(g:vh)(j:vh)(I:vh)(J:vh)(U:vh):RD "_law_web" mR 129 ["_law_script","_law_seed","_law_room","_law_most","_law_bits","_law_gaps","_law_knots","_law_rule","_law_links","_law_cuts","_law_k"] (λV=>Hi V l/\Jo V g/\Jp V j/\Jq V I/\Jr V J/\Js V U):=⟨_,λV B c _ _ _ _ _ _ _ o hN p=>(qb (S_ 4 hN<|C_ c.1 o<|aT (qv 1) qd qd)<|qb (S_ 5 hN<|kh (cf _ _ _ p) (ql j7 (qv 4) qd) qd<|jf _)<|v9 (zj (vq<|qv 5) (qe<|S_ 2 hN<|zm qA rfl B.bp i7<|xx (qv 2) qd) ze)<|qb (aU (C_ c.2.1 o<|aT (qv 0) (qv 1)<|qv 2)<|vz (n:=2) rfl<|qx (G_ 6 hN)<|qx (G_ 7 hN) xh)<|qb (aU (C_ c.2.2.1 o<|jn<|qv 7)<|vz (n:=2) rfl<|qx (G_ 8 hN)<|qx (G_ 9 hN) xh)<|qb (aP yp rfl (bD rfl B.bh<|jn<|ql j7 (ql vk (qv 4) qd) qd) (G_ 10 hN)<|qe<|S_ 8 hN<|C_ c.2.2.2.1 o<|jo (qv 6)<|aT (qv 8) (C_ c.1 o<|aT (qv 1) (ql js qd<|qv 10) qd)<|C_ c.1 o<|aT (qv 1) (ql js qd<|qv 10) qd)<|v9 (zj (E_ p (ql j7 (ql vk (qv 4) qd) qd) qd) (qe<|S_ 6 hN<|C_ c.2.2.2.2.1 o<|jo (qv 6)<|aT (qv 9) (qv 1)<|qv 3) ze)<|qe<|qu<|C_ c.2.2.2.2.2 o<|jo (qv 6)<|jo (qv 8)<|aT (qv 9) (qv 1)<|qv 5)⟩
theorem cq:∀R:Ru,lO R+1<=(qz R).length
 |.link _ _=>An _
 |.ei r A=>by have:=cq A;show lO A+1+1<=(r::qz A).length;rw[AL];exact A'
 |.bo r A B=>by have:=cq A;have:=cq B;show lO A+lO B+1+1<=(r::(qz A++qz B)).length;rw[AL,Ac];lia
 |.cu _ _ A B=>by have:=cq A;have:=cq B;show lO A+lO B+1+1<=(qz A++qz B).length;rw[Ac];lia
theorem kz:∀R:Ru,∃rest,(za (zg R)++rest).Perm<|qz R
 |.link p q=>⟨[],.refl _⟩
 |.ei r A=>by obtain⟨u,h⟩:=kz A;exact⟨r::u,Co.trans<|h.cons r⟩
 |.bo r A B=>by obtain⟨u,h⟩:=kz A;obtain⟨v,k⟩:=kz B;refine⟨r::(u++v),?_⟩;show(za (zg A++zg B)++r::(u++v)).Perm (r::(qz A++qz B));rw[jq];refine Co.trans<|List.Perm.cons r ?_;refine List.Perm.trans ?_<|h.append k;rw[Ay,Ay];refine DE _ ?_;rw[<-Ay,<-Ay];exact Dy _ Bd
 |.cu p q A B=>by obtain⟨u,h⟩:=kz A;obtain⟨v,k⟩:=kz B;refine⟨u++v,?_⟩;show(za (zg A++zg B)++(u++v)).Perm (qz A++qz B);rw[jq];refine List.Perm.trans ?_<|h.append k;rw[Ay,Ay];refine DE _ ?_;rw[<-Ay,<-Ay];exact Dy _ Bd
def SR.links{E:Wi}(h:SR ks R E):∀p∈zg R,p.1<p.2/\∃t n,ks[p.1]?=some (.lf t n)/\ks[p.2]?=some (.lf (!t) n):=by induction h with|@link p q t n E h1 h2 h3 j l=>intro x U;rw[Ao.mp U];exact⟨h1,t,n,h2,h3⟩|ei _ _ _ _ _ _ _ g=>exact g|bo _ _ _ _ _ _ _ I J=>intro x U;exact(Ak.mp U).elim (I x) (J x)|cu _ _ _ _ _ _ _ _ I J=>intro x U;exact(Ak.mp U).elim (I x) (J x)
def SR.lkI{E:Wi}(h:SR ks R E)(nd:(qz R).Nodup):LkI ks (zg R):=by obtain⟨u,J⟩:=kz R;exact⟨(Av.mp<|J.nodup_iff.mpr nd).1,λp I=>(h.links p I).1,λp I=>(h.links p I).2⟩
def SR.cuts{E:Wi}(h:SR ks R E):(qz R).Nodup->(za<|zh R).Nodup/\(∀x∈za (zh R),x∉E/\x∈qz R):=by
 induction h with
 |link _ _ _ _ _=>exactλ_=>⟨B6,λx I=>by cases I⟩
 |@ei r i j A EA E h1 h2 h3 h4 h5 t h7 ih=>
  intro nd;obtain⟨n1,n2⟩:=AE.mp<|show(r::qz A).Nodup from nd;obtain⟨a,b⟩:=ih n2;refine⟨a,λx I=>⟨λJ=>?_,Ai _ (b x I).2⟩⟩;rcases (t x).mp J with⟨z,_⟩|rfl
  ·exact(b x I).1 z
  ·exact n1 (b x I).2
 |@bo r i j A B EA EB E h1 h2 h3 h4 h5 t h7 l o=>
  intro nd;obtain⟨n1,n2⟩:=AE.mp<|show(r::(qz A++qz B)).Nodup from nd;obtain⟨m1,m2,U⟩:=Av.mp n2;obtain⟨a1,b1⟩:=l m1;obtain⟨a2,b2⟩:=o m2;have sA:=h2.sub;have C:=h3.sub;show(za<|zh A++zh B).Nodup/\∀x∈za (zh A++zh B),x∉E/\x∈r::(qz A++qz B);rw[jq];refine⟨Av.mpr ⟨a1,a2,λx I y hy=>U x (b1 x I).2 y (b2 y hy).2⟩,λx I=>?_⟩;rcases Ak.mp I with I|I
  ·refine⟨λJ=>?_,Ai _<|Am _ (b1 x I).2⟩;rcases (t x).mp J with⟨z,_⟩|⟨z,_⟩|rfl
   ·exact(b1 x I).1 z
   ·exact U x (b1 x I).2 x (C x z) rfl
   ·exact n1<|Am _ (b1 _ I).2
  ·refine⟨λJ=>?_,Ai _<|Ah _ (b2 x I).2⟩;rcases (t x).mp J with⟨z,_⟩|⟨z,_⟩|rfl
   ·exact U x (sA x z) x (b2 x I).2 rfl
   ·exact(b2 x I).1 z
   ·exact n1<|Ah _ (b2 _ I).2
 |@cu p q A B EA EB E w h1 h2 h3 h4 h5 t h7 h8 l o=>
  intro nd;obtain⟨m1,m2,U⟩:=Av.mp<|show(qz A++qz B).Nodup from nd;obtain⟨a1,b1⟩:=l m1;obtain⟨a2,b2⟩:=o m2;have sA:=h1.sub;have C:=h2.sub;show(za<|(p,q)::(zh A++zh B)).Nodup/\∀x∈za ((p,q)::(zh A++zh B)),x∉E/\x∈qz A++qz B;rw[j8,jq];have tp:=sA p h3;have tq:=C q h4;have a3:p≠q:=λe=>U p tp q tq e;have T:∀x,x∈za (zh A)++za (zh B)->x≠p/\x≠q:=λx I=>by
   rcases Ak.mp I with I|I
   ·exact⟨λe=>(b1 x I).1<|e▸h3,λe=>U x (b1 x I).2 q tq e⟩
   ·exact⟨λe=>U p tp x (b2 x I).2 e.symm,λe=>(b2 x I).1<|e▸h4⟩
  refine⟨AE.mpr ⟨λh=>?_,AE.mpr ⟨λh=>(T q h).2 rfl,Av.mpr ⟨a1,a2,λx I y hy=>U x (b1 x I).2 y (b2 y hy).2⟩⟩⟩,λx I=>?_⟩
  ·rcases As.mp h with h|h
   ·exact a3 h
   ·exact(T p h).1 rfl
  ·have g:x∈E->(x∈EA/\x≠p)\/(x∈EB/\x≠q):=(h7 x).mp;rcases As.mp I with rfl|I
   ·exact⟨λJ=>(g J).elim (λz=>z.2 rfl) λz=>U x tp x (C x z.1) rfl,Am _ tp⟩
   ·rcases As.mp I with rfl|I
    ·exact⟨λJ=>(g J).elim (λz=>U x (sA x z.1) x tq rfl) λz=>z.2 rfl,Ah _ tq⟩
    ·rcases Ak.mp I with I|I
     ·exact⟨λJ=>(g J).elim (λz=>(b1 x I).1 z.1) λz=>U x (b1 x I).2 x (C x z.1) rfl,Am _ (b1 x I).2⟩
     ·exact⟨λJ=>(g J).elim (λz=>U x (sA x z.1) x (b2 x I).2 rfl) λz=>(b2 x I).1 z.1,Ah _ (b2 x I).2⟩
structure abi(wd:List<|WD)(lk' ct':We):Prop where
 ex:∃(ks:WC) (R:Ru) (E:Wi) (lk ct:We) (eH:List<|WD) (f:Wp),ae ks/\SR ks R E/\(qz R).Perm (List.range ks.length)/\ks.length<=120/\
  LkI ks lk/\(za lk).Perm (za<|zg R)/\ct.Perm (zh R)/\(eH=ks.map some\/∃qs,oJ ks ct qs []/\aw ks qs ks.length eH)/\zE f eH wd/\lk'.Perm (lk.map<|mmP f)/\lk'.Pairwise aG/\ct'.Perm (ct.map<|ppP f)/\ct'.Pairwise aG
def aw.okO(ok:ae ks)(T:aw ks qs ks.length eH):oP eH:=by
 intro p e i j h;have J:p<ks.length:=by have:=zd h;rw[T.len] at this;exact this
 cases I:ks[p]? with
 |none=>rw[Ag J] at I;cases I
 |some k=>
  cases k with
  |lf t n=>
   have:=T.lf p t n J I;rw[h] at this;cases this
  |nd l U g=>
   have lt:U<p/\g<p:=ok p _ I;rcases T.nd p l U g J I with⟨z,_⟩|⟨o,z⟩
   ·rw[h] at z;cases z
   ·rw[h] at z;cases z;exact lt
def gg(ok:ae ks):oP (ks.map some):=by intro p e i j h;rw[Al] at h;obtain⟨k,I,J⟩:=Aq.mp h;cases J;exact ok p _ I
def uU(ks:WC):jw (ks.map some)=vg ks:=by show(ks.map some).map cA=ks.map o9;rw[BK];rfl
def uZ(ks:WC):∀l:Wf,2*l.length<=bv (bT ks) l:=λl=>by have:=iY ks<|za l;rw[bH,jr] at this;exact this
def Us{f:Wp}(h:l.Perm m):bv f l=bv f m:=by rw[<-bH,<-bH];exact((x6 h).map f).sum_nat
inductive qY(Pt:Addr)(ys:List Y)(L:qk)(Q:YK):Prop
 |mk:∀cy,∀ns:Wm,∀s m:Int,∀room:Nat,(ys=[cy,.int s,.int (room:Int),.int m])->(cy=.sq (ns.map Y.int))->(ns.length<=1000)->(room<=120)->(L Pt=some (.tb lamQ))->(∀wa la ca wd lk ct L',abi wd lk ct->qh L L'->L wa=none->L la=none->L ca=none->wa≠la->wa≠ca->la≠ca->L' wa=some (.lst<|jw wd)->L' la=some (.lst<|qr lk)->L' ca=some (.lst<|qr ct)->Q (gH wa la ca) L')->qY Pt ys L Q
structure Ut(room:Nat)(m:Int)(wd:List<|WD):Prop where
 ex:∃(ks:WC) (R:Ru) (E:Wi) (eH:List<|WD) (f:Wp),SR ks R E/\(qz R).Perm (List.range ks.length)/\ks.length<=max room 2/\eH.length=ks.length/\(cE eH:Int)<=max (cK ks:Int) m/\zE f eH wd
inductive yS(Pt:Addr)(ys:List Y)(L:qk)(Q:YK):Prop
 |mk:∀cy,∀ns:Wm,∀s m:Int,∀room:Nat,(ys=[cy,.int s,.int (room:Int),.int m])->(cy=.sq (ns.map Y.int))->(ns.length<=1000)->(room<=120)->(L Pt=some (.tb lamQ))->(∀wa la ca wd lk ct L',abi wd lk ct->Ut room m wd->qh L L'->L wa=none->L la=none->L ca=none->wa≠la->wa≠ca->la≠ca->L' wa=some (.lst<|jw wd)->L' la=some (.lst<|qr lk)->L' ca=some (.lst<|qr ct)->Q (gH wa la ca) L')->yS Pt ys L Q
def Uu :∀ys L Q,yS Pt ys L Q->xi (gY cJ gm iB bO cj<|cw Pt).1 11 ys L Q:=by
 rintro ys L Q ⟨cy,ns,s,m,room,rfl,bf,bg,ac,hP,q⟩;have big:=a_;refine⟨s,5,16807,rfl,by decide,by decide,by decide,by decide,λv h0 h1=>?_⟩;refine⟨show(0:Int)<4 by decide,?_⟩;refine⟨λa2 C=>∃J:Nat,(J<=120/\J<=room)/\a2=[some cy,some<|.int s,some<|.int (J:Int),some<|.int m,some<|.int v,some<|.bl<|decide<|v % 4=1,none,none,none,none,none]/\C=L,?_,?_⟩
 ·refine zo (λh=>?_) λh=>?_
  ·refine⟨min room 57,⟨by lia,by lia⟩,?_,rfl⟩;have e:min (room:Int) 57=((min room 57:Nat):Int):=by lia
   rw[<-e,Aw h];rfl
  ·exact⟨room,⟨ac,An _⟩,by rw[Au h];rfl,rfl⟩
 rintro a2 C ⟨J,⟨hr,c9⟩,rfl,rfl⟩;refine⟨cy,ns,s,J,rfl,bf,bg,hr,λg I R E bh ok a1 tp kl=>?_⟩;have al:I.length<=120:=by lia
 have tl:(qz R).length=I.length:=by rw[tp.length_eq,BM]
 have tn:(qz R).Nodup:=tp.nodup_iff.mpr B5;have ax:∀x∈qz R,x<I.length:=λx hx=>AY.mp<|tp.mem_iff.mp hx;have LI:=a1.lkI tn;obtain⟨cn,ay⟩:=a1.cuts tn;have cb:=a1.weight ok;have cc:bv (bT I) (zh R)<=120:=by lia
 have cl:=uZ I<|zh R;have aL:∀x∈zh R,x.1<I.length/\x.2<I.length:=λx hx=>⟨ax _ (ay _ (kq hx).1).2,ax _ (ay _ (kq hx).2).2⟩;have ll:2*(zg R).length<=I.length:=by obtain⟨u,hu⟩:=kz R;have:=hu.length_eq;rw[Ac,jr] at this;lia
 have bi:∀x∈zg R,x.1<I.length/\x.2<I.length:=λx hx=>by obtain⟨_,t,n,a,b⟩:=a1.links x hx;exact⟨zd a,zd b⟩
 have bj:zg R≠[]:=by
  have:∀R:Ru,1<=(zg R).length:=λR=>by induction R with|link p q=>exact An _|ei r A ih=>exact ih|bo r A B ih _=>show 1<=(zg A++zg B).length;rw[Ac];exact GR|cu p q A B ih _=>show 1<=(zg A++zg B).length;rw[Ac];lia
  intro e;have:=this R;rw[e] at this;simp at this
 have s1:qh C (qi C g<|.lst<|vg I):=By bh;have rd:=aJ R;have rz:=cq R;refine⟨R,rfl,by lia,by lia,jl LI.nd,jl cn,λp hp=>by have:=(bi p hp).2;lia,λp hp=>by have:=(aL p hp).2;lia,by lia,by lia,λla j lk o ba bb bc pl ck pc cm=>?_⟩;have bn:g≠la:=kw q9 ba;have bp:g≠j:=kw q9 bb;have bd:(qi (qi C g<|.lst<|vg I) la<|.lst<|qr lk) j=none:=(qc<|AH bc).trans bb;have s2:qh C (qi (qi (qi C g<|.lst<|vg I) la<|.lst<|qr lk) j<|.lst<|qr o):=(s1.trans<|By ba).trans<|By bd;have g1:qi (qi (qi C g<|.lst<|vg I) la<|.lst<|qr lk) j (.lst<|qr o) g=some (.lst<|vg I):=(qc bp).trans<|(qc bn).trans q9;have g2:qi (qi (qi C g<|.lst<|vg I) la<|.lst<|qr lk) j (.lst<|qr o) la=some (.lst<|qr lk):=(qc bc).trans q9;have g3:qi (qi (qi C g<|.lst<|vg I) la<|.lst<|qr lk) j (.lst<|qr o) j=some (.lst<|qr o):=q9;generalize qi (qi (qi C g<|.lst<|vg I) la<|.lst<|qr lk) j (.lst<|qr o)=L1 at s2 g1 g2 g3 ⊢;have b0:(0:Int)<=v / 4 % 3:=Di _ (by decide);have b1:v / 4 % 3<3:=Dk _ (by decide);have rng:∃r:Nat,v / 4 % 3=(r:Int)/\r<3:=⟨(v / 4 % 3).toNat,by lia,by lia⟩;obtain⟨r,er,cv⟩:=rng;have a4:∀l2:Wf,(za l2).Perm (za<|zg R)->l2.length=(zg R).length:=λl2 p=>by have:=p.length_eq;rw[jr,jr] at this;lia
 refine⟨⟨by decide,by decide⟩,show(0:Int)<3 by decide,⟨by lia,by lia⟩,?_⟩;refine rN (λi τ L2=>∃l yg a3,τ=[some cy,some<|.int s,some<|.int (J:Int),some<|.int m,some<|.int v,some<|.bl<|decide<|v % 4=1,some<|.ref g,some<|jj R,some<|.ref l,some<|.ref j,a3]/\qh C L2/\L2 g=some (.lst<|vg I)/\L2 l=some (.lst<|qr yg)/\L2 j=some (.lst<|qr o)/\LkI I yg/\(za yg).Perm (za<|zg R)) ⟨la,lk,_,rfl,s2,g1,g2,g3,LI.perm pl,x6 pl⟩ ?_ ?_
 ·rintro i τ L2 hi ⟨l,yg,a3,rfl,s3,k1,k2,k3,I2,p2⟩;have l2:=a4 yg p2;refine⟨s,11+(0+(i:Int)),16807,rfl,by exact AV _,by omega,by decide,by decide,λv1 _ _=>?_⟩;refine⟨s,17+(0+(i:Int)),40692,rfl,by exact AV _,by omega,by decide,by decide,λv2 _ _=>?_⟩;refine⟨g,l,I,yg,v1,v2,rfl,k1,k2,I2,λe=>?_,by lia,by exact eM,?_,λD lk3 hD I3 l3 p3 cI=>?_⟩
  ·rw[e] at l2;exact bj<|BN l2.symm
  ·exact⟨_,ER _,l,yg,_,rfl,s3,k1,k2,k3,I2,p2⟩
  ·have bq:g≠D:=kw k1 hD;have br:j≠D:=kw k3 hD;exact⟨_,ER _,D,lk3,_,rfl,s3.trans<|By hD,(qc bq).trans k1,q9,(qc br).trans k3,I3,p3.trans p2⟩
 rintro τ L2 ⟨l,yg,a3,rfl,s3,k1,k2,k3,I2,p2⟩;have l2:=a4 yg p2;have lc:o.length=(zh R).length:=pc.length_eq;have a5:∀x∈o,x.1<I.length/\x.2<I.length:=λx hx=>aL x<|pc.mem_iff.mp hx;refine⟨λa2 L3=>∃kb U,a2=[some cy,some<|.int s,some<|.int (J:Int),some<|.int m,some<|.int v,some<|.bl<|decide<|v % 4=1,some<|.ref kb,some<|jj R,some<|.ref l,some<|.ref j,a3]/\qh C L3/\L3 kb=some (.lst<|jw U)/\L3 l=some (.lst<|qr yg)/\L3 j=some (.lst<|qr o)/\(U=I.map some\/∃qs,oJ I o qs []/\aw I qs I.length U)/\(cE U:Int)<=max (cK I:Int) m,?_,?_⟩
 ·refine⟨⟨by decide,by decide⟩,show(0:Int)<2 by decide,?_⟩;refine zo (λh=>?_) λh=>?_
  ·refine⟨g,j,I,o,s,m,rfl,k1,k3,ok,a5,by rw[Us pc];exact eM,by exact eM,λD qs U hD B T M=>?_⟩;exact⟨D,U,rfl,s3.trans<|By hD,q9,(qc<|kw k2 hD).trans k2,(qc<|kw k3 hD).trans k3,.inr ⟨qs,B,T⟩,M⟩
  ·exact⟨g,I.map some,rfl,s3,by rw[uU];exact k1,k2,k3,.inl rfl,by show(cK I:Int)<=_;omega⟩
 rintro a2 L3 ⟨kb,U,rfl,s4,j1,j2,j3,ho,hM⟩;have okO:oP U:=by
  rcases ho with rfl|⟨qs,B,T⟩
  ·exact gg ok
  ·exact T.okO ok
 have lo:U.length=I.length:=by
  rcases ho with rfl|⟨qs,B,T⟩
  ·exact Ae ..
  ·exact T.len
 refine⟨kb,l,j,U,yg,o,s,_,rfl,j1,j2,j3,okO,by lia,s4 _ _ hP,jl I2.nd,λp hp=>⟨I2.lt p hp,?_⟩,by lia,pc.nodup_iff.mpr<|jl cn,λp hp=>by rw[lo];exact a5 p hp,by lia,λf wd c1 c2 wa c3 c4 L4 rn c5 c6 c7 c8 sl nw nl nc n1 n2 n3 e1 e2 e3=>?_⟩
 ·obtain⟨_,_,_,h⟩:=I2.at_ p hp;rw[lo];exact zd h
 ·exact xt<|q wa c3 c4 wd c1 c2 L4 ⟨I,R,E,yg,o,U,f,ok,a1,tp,al,I2,p2,pc,ho,rn,c5,c6,c7,c8⟩ ⟨I,R,E,U,f,a1,tp,by lia,lo,hM,rn⟩ (s4.trans sl) (s4.none nw) (s4.none nl) (s4.none nc) n1 n2 n3 e1 e2 e3
def Uv :∀ys L Q,qY Pt ys L Q->xi (gY cJ gm iB bO cj<|cw Pt).1 11 ys L Q:=by rintro ys L Q ⟨I,J,s,m,room,h1,h2,h3,U,g,q⟩;exact Uu ys L Q ⟨I,J,s,m,room,h1,h2,h3,U,g,λj l o p lk r t W _=>q j l o p lk r t W⟩
def KW.lf{p:Nat}{n:Str}(h:wd[p]?=some (some<|.lf t n)):KW (jw wd) p (.leaf t n):=by show(jw wd)[p]?=_;rw[Al,h];rfl
def KW.nd{p:Nat}{e:Bool}{l r:Wd}(h:wd[p]?=some (some<|.nd e i j))(I:KW (jw wd) i l)(J:KW (jw wd) j r):KW (jw wd) p (.node e l r):=
 ⟨i,j,by rw[Al,h];rfl,I,J⟩
def Uw{k:Kn}{n:Str}(h:o9 k=.tup [.str<|kL t,.str n]):k=.lf t n:=by
 cases k with
 |lf u m=>
  have h1:kL u=kL t:=by injection h with h;injection h with h _;injection h
  have h2:m=n:=by injection h with h;injection h with _ h;injection h with h _;injection h
  subst h2;cases u<;>cases t<;>first|rfl|(exfalso;revert h1;decide)
 |nd e i j=>injection h with h;injection h with _ h;injection h with _ h;cases h
def Ux{k:Kn}{e:Bool}(h:o9 k=.tup [.str<|kN e,.int (i:Int),.int (j:Int)]):k=.nd e i j:=by
 cases k with
 |lf u m=>injection h with h;injection h with _ h;injection h with _ h;cases h
 |nd b I J=>
  have h1:kN b=kN e:=by injection h with h;injection h with h _;injection h
  have h2:((I:Nat):Int)=i:=by injection h with h;injection h with _ h;injection h with h _;injection h
  have h3:((J:Nat):Int)=j:=by injection h with h;injection h with _ h;injection h with _ h;injection h with h _;injection h
  have h2:=B9.mp h2;have h3:=B9.mp h3;subst h2 h3;cases b<;>cases e<;>first|rfl|(exfalso;revert h1;decide)
def J0{p:Nat}(h:(jw wd)[p]?=some y):∃o,wd[p]?=some o/\cA o=y:=by rw[Al] at h;obtain⟨o,a,b⟩:=Aq.mp h;exact⟨o,a,b⟩
def KW.inv_lf{p:Nat}{n:Str}(h:KW (jw wd) p<|.leaf t n):wd[p]?=some (some<|.lf t n):=by
 obtain⟨o,a,b⟩:=J0<|show(jw wd)[p]?=some (.tup [.str<|kL t,.str n]) from h;cases o with
 |none=>cases b
 |some k=>rw[a,Uw b]
def KW.inv_nd{p:Nat}{e:Bool}{l r:Wd}(h:KW (jw wd) p<|.node e l r):∃i j,wd[p]?=some (some<|.nd e i j)/\KW (jw wd) i l/\KW (jw wd) j r:=by
 obtain⟨i,j,h1,h2,h3⟩:=h;obtain⟨o,a,b⟩:=J0 h1;cases o with
 |none=>cases b
 |some k=>exact⟨i,j,by rw[a,Ux b],h2,h3⟩
theorem KW.dep{wd:List<|WD}(ok:oP wd):∀{w:Wd} {p:Nat},KW (jw wd) p w->w.depth<=p+1
 |.leaf t n,p,_=>by show 1<=p+1;exact BV _
 |.node e l r,p,h=>by obtain⟨i,j,a,I,J⟩:=h.inv_nd;have:=ok p e i j a;have:=KW.dep ok I;have:=KW.dep ok J;show max l.depth r.depth+1<=p+1;lia
def hZ(wd:List<|WD):Prop:=∀(p:Nat) (e:Bool) (i j:Nat),wd[p]?=some (some<|.nd e i j)->(∃k,wd[i]?=some (some k))/\∃k,wd[j]?=some (some k)
theorem rT{wd:List<|WD}(ok:oP wd)(th:hZ wd):∀(n p:Nat) (k:Kn),p<n->wd[p]?=some (some k)->∃w,KW (jw wd) p w
 |0,_,_,h,_=>absurd h<|CO _
 |n+1,p,.lf t m,_,e=>⟨_,KW.lf e⟩
 |n+1,p,.nd b i j,h,e=>by have:=ok p b i j e;obtain⟨⟨I,J⟩,U,g⟩:=th p b i j e;obtain⟨l,o⟩:=rT ok th n i I (by lia) J;obtain⟨r,C⟩:=rT ok th n j U (by lia) g;exact⟨_,KW.nd e o C⟩
def xK(ok:ae ks):hZ (ks.map some):=by
 intro p e i j h;have lt:=gg ok p e i j h;have I:=zd h;rw[Ae] at I;have at_:∀x,x<ks.length->∃k,(ks.map some)[x]?=some (some k):=λx J=>⟨ks[x],by rw[Al,Ag J];rfl⟩
 exact⟨at_ i (by omega),at_ j (by lia)⟩
def aw.inv(T:aw ks qs ks.length eH){p:Nat}{e:Bool}(h:eH[p]?=some (some<|.nd e i j)):∃I,ks[p]?=some (.nd I i j):=by
 have U:p<ks.length:=by have:=zd h;rw[T.len] at this;exact this
 cases J:ks[p]? with
 |none=>rw[Ag U] at J;cases J
 |some k=>
  cases k with
  |lf t n=>
   have:=T.lf p t n U J;rw[h] at this;cases this
  |nd I g l=>
   rcases T.nd p I g l U J with⟨z,_⟩|⟨o,z⟩
   ·rw[h] at z;cases z
   ·rw[h] at z;cases z;exact⟨I,rfl⟩
def aw.there(ok:ae ks)(T:aw ks qs ks.length eH):hZ eH:=by
 intro p e i j h;obtain⟨o,I⟩:=T.inv h;have lt:i<p/\j<p:=ok p _ I;have r:=zd I;obtain⟨U,g⟩:=uT I;have at_:∀x,x<ks.length->x∈af ks->∃k,eH[x]?=some (some k):=λx J l=>by
  cases ex:ks[x]? with
  |none=>rw[Ag J] at ex;cases ex
  |some k=>
   cases k with
   |lf t n=>exact⟨_,T.lf x t n J ex⟩
   |nd b a c=>
    rcases T.nd x b a c J ex with⟨_,z⟩|⟨C,z⟩
    ·exact absurd l z
    ·exact⟨_,z⟩
 exact⟨at_ i (by lia) U,at_ j (by lia) g⟩
def zE.inv{f:Wp}(r:zE f eH wd){x:Nat}{k:Kn}(h:wd[x]?=some (some k)):∃p,p<eH.length/\x=f p/\∃o,eH[p]?=some o/\iu f o=some k:=by obtain⟨p,I,e⟩:=r.gap.only x k h;have I:=AY.mp I;have:=r.gap.at_ p (AY.mpr I) _<|Ag I;rw[<-e,h] at this;exact⟨p,I,e,_,Ag I,(AZ this).symm⟩
def zE.there{f:Wp}(r:zE f eH wd)(th:hZ eH):hZ wd:=by
 intro x e i j h;obtain⟨p,hp,rfl,o,g,I⟩:=r.inv h;cases o with
 |none=>cases I
 |some k=>
  cases k with
  |lf t n=>cases I
  |nd b a c=>
   cases I;obtain⟨⟨l,C⟩,T,e2⟩:=th p e a c g;have J:∀y k,eH[y]?=some (some k)->∃k',wd[f y]?=some (some k'):=λy k U=>by have:=r.gap.at_ y (AY.mpr<|zd U) _ U;cases k with|lf t n=>exact⟨_,this⟩|nd b a c=>exact⟨_,this⟩
   exact⟨J a l C,J c T e2⟩
theorem zE.word{f:Wp}(r:zE f eH wd):∀{w:Wd} {p:Nat},KW (jw eH) p w->KW (jw wd) (f p) w
 |.leaf t n,p,h=>by have e:=h.inv_lf;exact KW.lf<|r.gap.at_ p (AY.mpr<|zd e) _ e
 |.node b l rr,p,h=>by obtain⟨i,j,e,I,J⟩:=h.inv_nd;exact KW.nd (r.gap.at_ p (AY.mpr<|zd e) _ e) (r.word I)<|r.word J
def SR.cutw{E:Wi}(h:SR ks R E):∀c∈zh R,∃w,dO ks c.1 w/\dO ks c.2 w.turn:=by
 induction h with
 |link _ _ _ _ _=>intro c g;cases g
 |ei _ _ _ _ _ _ _ j=>exact j
 |bo _ _ _ _ _ _ _ I J=>intro x U;exact(Ak.mp U).elim (I x) (J x)
 |@cu p q A B r t E w h1 h2 h3 C l o T h8 I J=>
  intro x U;rcases As.mp U with rfl|U
  ·exact⟨w,l,o⟩
  ·exact(Ak.mp U).elim (I x) (J x)
theorem fb{ks:WC}{ct:We}{qs:Wi}{eH:List<|WD}(B:oJ ks ct qs [])(T:aw ks qs ks.length eH):∀{w:Wd} {p:Nat},p∈qs->KW (jw<|ks.map some) p w->KW (jw eH) p w
 |.leaf t n,p,J,h=>by have e:=h.inv_lf;rw[Al] at e;obtain⟨k,I,U⟩:=Aq.mp e;cases U;exact KW.lf<|T.kp p J (zd I) _ I
 |.node b l r,p,J,h=>by obtain⟨i,j,e,C,hr⟩:=h.inv_nd;rw[Al] at e;obtain⟨k,I,U⟩:=Aq.mp e;cases U;obtain⟨g,o⟩:=B.part p J _ _ _ I;have g:i∈qs:=g.resolve_right<|Be;have o:j∈qs:=o.resolve_right<|Be;exact KW.nd (T.kp p J (zd I) _ I) (fb B T g C)<|fb B T o hr
structure Uy(wd:List<|WD)(ct:We):Prop where
 ok:oP wd
 len:wd.length<=241
 there:hZ wd
 word:∀x k,wd[x]?=some (some k)->∃w,KW (jw wd) x w/\w.depth<=120
 cut:∀c∈ct,∃w,KW (jw wd) c.1 w/\KW (jw wd) c.2 w.turn/\w.depth<=120
 ctl:ct.length<=60
theorem abi.webI(W:abi wd lk ct):Uy wd ct/\lk.length<=60:=by
 obtain⟨U,R,E,a4,a5,J,f,ok,C,tp,hk,I,pl,pc,ho,g,a3,_,a1,_⟩:=W.ex;have okO:oP J:=by
  rcases ho with rfl|⟨qs,B,T⟩
  ·exact gg ok
  ·exact T.okO ok
 have lo:J.length=U.length:=by
  rcases ho with rfl|⟨qs,B,T⟩
  ·exact Ae ..
  ·exact T.len
 have th:hZ J:=by
  rcases ho with rfl|⟨qs,B,T⟩
  ·exact xK ok
  ·exact T.there ok
 have tl:(qz R).length=U.length:=by rw[tp.length_eq,BM]
 have wg:=C.weight ok;have cl:=uZ U<|zh R;have ll:2*(zg R).length<=U.length:=by obtain⟨u,hu⟩:=kz R;have:=hu.length_eq;rw[Ac,jr] at this;lia
 have l1:lk.length=(zg R).length:=by have h1:=a3.length_eq;have h2:=pl.length_eq;rw[Ae] at h1;rw[jr,jr] at h2;lia
 have l2:ct.length=(zh R).length:=by have h1:=a1.length_eq;rw[Ae,pc.length_eq] at h1;exact h1
 refine⟨⟨g.gap.ok,by have:=g.len;lia,g.there th,λx k e=>?_,λc hc=>?_,by lia⟩,by lia⟩
 ·obtain⟨p,hp,rfl,o,eo,ek⟩:=g.inv e;cases o with
  |none=>cases ek
  |some k0=>
   obtain⟨w,hw⟩:=rT okO th (p+1) p k0 (by exact BD _) eo;have:=KW.dep okO hw;exact⟨w,g.word hw,by lia⟩
 ·obtain⟨c0,a2,rfl⟩:=Bg.mp<|a1.mem_iff.mp hc;obtain⟨w,w1,w2⟩:=C.cutw c0<|pc.mem_iff.mp a2;have q1:KW (jw J) c0.1 w/\KW (jw J) c0.2 w.turn:=by
   have e:∀{p w},dO U p w->KW (jw<|U.map some) p w:=λh=>by rw[uU];exact h
   rcases ho with rfl|⟨qs,B,T⟩
   ·exact⟨e w1,e w2⟩
   ·obtain⟨m1,m2⟩:=B.cut c0 a2;exact⟨fb B T (m1.resolve_right Be)<|e w1,fb B T (m2.resolve_right Be)<|e w2⟩
  have hp:c0.1<U.length:=by
   have:∀{w:Wd} {p:Nat},KW (jw J) p w->p<J.length:=λ{w p} h=>by cases w with|leaf t n=>exact zd h.inv_lf|node e l r=>obtain⟨i,j,a,_⟩:=h.inv_nd;exact zd a
   rw[<-lo];exact this q1.1
  have:=KW.dep okO q1.1;exact⟨w,g.word q1.1,g.word q1.2,by lia⟩
def mE(I:vh):RD "parts_in" mX 2 ["knots","parts","knot"] (λV=>Hf V I):=⟨_,λV B c _ _ _ _ _ _ _ J hN U=>(qb (S_ 1 hN<|zk v5)<|qb (aP yp rfl (xj<|qv 0) (G_ 2 hN)<|qe<|qy<|cT (qv 1)<|jn<|C_ c J<|jn<|qv 2)<|qe<|qu<|qv 1)⟩
def jY:RD "_law_copy" kE 0 ["_law_web_here"] (λ_=>True):=⟨_,λV B c _ _ _ _ _ _ _ I hN J=>(qe<|qu<|zb<|aT (iC nW rfl B.bi dS<|jn<|J_ 0) (iC nW rfl B.bi dS<|jn<|J_ 0)<|iC nW rfl B.bi dS<|jn<|J_ 0)⟩
def ke(wd:List<|WD):Wi:=wd.flatMap zp
def wZ(wd:List<|WD)(k:WD):ke (wd++[k])=ke wd++zp k:=by unfold ke;rw[AR,Bh,DG,AN]
def oM(k:WD):(zp k).length<=2:=by cases k with|none=>exact A1 _|some k=>cases k with|lf t n=>exact A1 _|nd e i j=>exact An _
def ph(wd:List<|WD):(ke wd).length<=2*wd.length:=by
 induction wd with
 |nil=>exact An _
 |cons k r I=>
  have e:ke (k::r)=zp k++ke r:=Bh ..;have:=oM k;rw[e,Ac,AL];lia
inductive f9(ys:List Y)(L:qk)(Q:YK):Prop
 |mk:∀a,∀wd:List (WD),(ys=[.ref a])->(L a=some (.lst<|jw wd))->(wd.length<=1000)->(∀p,L p=none->Q (.ref p) (qi L p<|.lst<|nY<|ke wd))->f9 ys L Q
def Uz:∀ys L Q,f9 ys L Q->xi (mE eh).1 3 ys L Q:=by
 rintro ys L Q ⟨a,J,rfl,l,hz,q⟩;have big:=a_;intro p r;have t:qh L (qi L p<|.lst []):=By r;refine x4 (t _ _ l) λkeep kp=>aV ⟨λi U I=>∃j,U=[some<|Y.ref a,some<|Y.ref p,j]/\qh L I/\I p=some (.lst<|nY<|ke<|J.take i),⟨_,rfl,t,q9⟩,?_,?_,?_⟩
 ·rintro i U I ⟨j,rfl,s,_⟩;exact kp I (by rw[s _ _ l,t _ _ l])
 ·rintro i y U I C ⟨j,rfl,s,g⟩;rw[Al] at C;obtain⟨k,ek,rfl⟩:=Aq.mp C;have et:J.take (i+1)=J.take i++[k]:=by rw[Bm,ek];rfl
  have pl:=ph<|J.take i;have pk:=oM k;rw[AX] at pl;refine qa g ⟨k,rfl,λd hd=>?_⟩;have n1:p≠d:=kw g hd;refine qj ((qc n1).trans g)<|qj q9 ⟨?_,?_⟩
  ·rw[aq,aq];exact Bi<|big _ (by lia)
  ·refine⟨_,ER _,_,rfl,(s.trans<|By hd).upd r,?_⟩;rw[q9,et,wZ,bz]
 ·rintro U I ⟨j,rfl,s,g⟩;rw[Ae,Bj] at g;refine⟨qi L p<|.lst<|nY<|ke J,λb o e=>?_,q p r⟩;by_cases T:b=p
  ·subst T;rw[q9] at e;rw[<-e];exact g
  ·rw[qc T] at e;exact s _ _ e
inductive fZ(ys:List Y)(L:qk)(Q:YK):Prop
 |mk:∀a l c,∀xs zs us:List Y,(ys=[gH a l c])->(L a=some (.lst xs))->(L l=some (.lst zs))->(L c=some (.lst us))->(∀a' l' c' L',qh L L'->L a'=none->L l'=none->L c'=none->a'≠l'->a'≠c'->l'≠c'->L' a'=some (.lst xs)->L' l'=some (.lst zs)->L' c'=some (.lst us)->Q (gH a' l' c') L')->fZ ys L Q
def UA:∀ys L Q,fZ ys L Q->xi jY.1 1 ys L Q:=by rintro ys L Q ⟨a,l,c,C,T,us,rfl,ha,hl,hc,q⟩;refine qa ha λg h1=>?_;have j:=By (o:=.lst C) h1;refine qa (j _ _ hl) λp h2=>?_;have r:=j.trans<|By (o:=.lst T) h2;refine qa (r _ _ hc) λt h3=>?_;have I:g≠p:=kw q9 h2;have J:p≠t:=kw q9 h3;have U:g≠t:=kw ((qc I).trans q9) h3;exact xt<|q g p t _ (r.trans<|By h3) h1 (j.none h2) (r.none h3) I U J ((qc U).trans<|(qc I).trans q9) ((qc J).trans q9) q9
def lD(ks:WC)(l:Wi):Wi:=l.flatMap λp=>zp ks[p]?
def gp(ks:WC)(a b:Wi):lD ks (a++b)=lD ks a++lD ks b:=by unfold lD;rw[AR]
def cU(ks:WC)(x:Nat)(l:Wi):lD ks (x::l)=zp ks[x]?++lD ks l:=Bh ..
def dF{E:Wi}(h:E.Nodup)(hi:i∈E):E.Perm ([i]++E.filter λx=>!decide (x=i)):=by
 refine(Bc h ?_).mpr λx=>?_
 ·refine AE.mpr ⟨λz=>?_,h.filter _⟩;have:=(AO.mp z).2;simp at this
 ·rw[Ak,Ao,AO];constructor
  ·intro I;by_cases c:x=i
   ·exact .inl c
   ·exact .inr ⟨I,by simp[c]⟩
  ·rintro(rfl|I)
   ·exact hi
   ·exact I.1
def SR.part{E:Wi}(h:SR ks R E):(qz R).Nodup->(lD ks (qz R)++(za (zh R)++E)).Perm (qz R):=by
 induction h with
 |@link p q t n U h1 h2 h3 o C=>
  intro _;have e:lD ks [p,q]=[]:=by rw[cU,cU,h2,h3];rfl
  show(lD ks [p,q]++([]++U)).Perm [p,q];rw[e,Df,Df];refine(Bc C (by simp;lia)).mpr λx=>?_;rw[o x];simp
 |@ei r i j A g U h1 T h3 o C h6 h7 ih=>
  intro nd;obtain⟨n1,n2⟩:=AE.mp nd;have ih:=ih n2;have l:g.Nodup:=(Av.mp (Av.mp<|ih.nodup_iff.mpr n2).2.1).2.1;have p1:=dF l h3;have p2:(g.filter λx=>!decide (x=i)).Perm _:=dF (l.filter _) (i:=j) (AO.mpr ⟨o,by simp;exact AH C⟩);have p3:U.Perm ([r]++(g.filter λx=>!decide (x=i)).filter λx=>!decide (x=j)):=by
   refine(Bc h7<|AE.mpr ⟨λz=>n1<|T.sub _ (AO.mp (AO.mp z).1).1,(l.filter _).filter _⟩).mpr λx=>?_;rw[h6 x,As,AO,AO];simp only[Ds,decide_eq_false_iff_not];constructor
   ·rintro(⟨a,b,c⟩|rfl)
    ·exact .inr ⟨⟨a,b⟩,c⟩
    ·exact .inl rfl
   ·rintro(rfl|⟨⟨a,b⟩,c⟩)
    ·exact .inr rfl
    ·exact .inl ⟨a,b,c⟩
  show(lD ks (r::qz A)++(za (zh A)++U)).Perm ([r]++qz A);rw[cU,h1];show((([i]++[j])++lD ks (qz A))++(za (zh A)++U)).Perm _;refine C6.mpr λa=>?_;have c1:=p1.count_eq a;have c2:=p2.count_eq a;have c3:=p3.count_eq a;have c4:=ih.count_eq a;simp only[Dz] at c1 c2 c3 c4 ⊢;lia
 |@bo r i j A B g EB U h1 T hB o C h6 h7 I J=>
  intro nd;obtain⟨n1,n2⟩:=AE.mp nd;obtain⟨m1,m2,m3⟩:=Av.mp n2;have I:=I m1;have J:=J m2;have l:g.Nodup:=(Av.mp (Av.mp<|I.nodup_iff.mpr m1).2.1).2.1;have nB:EB.Nodup:=(Av.mp (Av.mp<|J.nodup_iff.mpr m2).2.1).2.1;have p1:=dF l o;have p2:=dF nB C;have p3:U.Perm ([r]++((g.filter λx=>!decide (x=i))++EB.filter λx=>!decide (x=j))):=by
   refine(Bc h7<|AE.mpr ⟨λz=>n1 ?_,Av.mpr ⟨l.filter _,nB.filter _,λa ha b hb=>m3 a (T.sub _ (AO.mp ha).1) b<|hB.sub _ (AO.mp hb).1⟩⟩).mpr λx=>?_
   ·rcases Ak.mp z with z|z
    ·exact Am _<|T.sub _ (AO.mp z).1
    ·exact Ah _<|hB.sub _ (AO.mp z).1
   ·rw[h6 x,As,Ak,AO,AO];simp only[Ds,decide_eq_false_iff_not];constructor
    ·rintro(a|a|rfl)
     ·exact .inr<|.inl a
     ·exact .inr<|.inr a
     ·exact .inl rfl
    ·rintro(rfl|a|a)
     ·exact .inr<|.inr rfl
     ·exact .inl a
     ·exact .inr<|.inl a
  show(lD ks (r::(qz A++qz B))++(za (zh A++zh B)++U)).Perm ([r]++(qz A++qz B));rw[cU,h1,gp,jq];show((([i]++[j])++(lD ks (qz A)++lD ks (qz B)))++((za (zh A)++za (zh B))++U)).Perm _;refine C6.mpr λa=>?_;have c1:=p1.count_eq a;have c2:=p2.count_eq a;have c3:=p3.count_eq a;have c4:=I.count_eq a;have c5:=J.count_eq a;simp only[Dz] at c1 c2 c3 c4 c5 ⊢;lia
 |@cu p q A B g EB U w T hB h3 o C h6 h7 h8 I J=>
  intro n2;obtain⟨m1,m2,m3⟩:=Av.mp<|show(qz A++qz B).Nodup from n2;have I:=I m1;have J:=J m2;have l:g.Nodup:=(Av.mp (Av.mp<|I.nodup_iff.mpr m1).2.1).2.1;have nB:EB.Nodup:=(Av.mp (Av.mp<|J.nodup_iff.mpr m2).2.1).2.1;have p1:=dF l h3;have p2:=dF nB o;have p3:U.Perm ((g.filter λx=>!decide (x=p))++EB.filter λx=>!decide (x=q)):=by refine(Bc h8<|Av.mpr ⟨l.filter _,nB.filter _,λa ha b hb=>m3 a (T.sub _ (AO.mp ha).1) b<|hB.sub _ (AO.mp hb).1⟩).mpr λx=>?_;rw[h7 x,Ak,AO,AO];simp only[Ds,decide_eq_false_iff_not]
  show(lD ks (qz A++qz B)++(za ((p,q)::(zh A++zh B))++U)).Perm (qz A++qz B);rw[gp,j8,jq];show((lD ks (qz A)++lD ks (qz B))++(([p]++[q]++(za (zh A)++za (zh B)))++U)).Perm _;refine C6.mpr λa=>?_;have c1:=p1.count_eq a;have c2:=p2.count_eq a;have c3:=p3.count_eq a;have c4:=I.count_eq a;have c5:=J.count_eq a;simp only[Dz] at c1 c2 c3 c4 c5 ⊢;lia
structure bN(wd:List<|WD):Prop where
 ne:∀(p:Nat) (e:Bool) (i j:Nat),wd[p]?=some (some<|.nd e i j)->i≠j
 un:∀(p q:Nat) (k l:Kn) (x:Nat),wd[p]?=some (some k)->wd[q]?=some (some l)->x∈zp (some k)->x∈zp (some l)->p=q
def pZ{x:Nat}(h:x∈ke wd):∃(p:Nat) (k:Kn),wd[p]?=some (some k)/\x∈zp (some k):=by
 obtain⟨o,J,I⟩:=Bz.mp h;obtain⟨p,e⟩:=DJ J;cases o with
 |none=>cases I
 |some k=>exact⟨p,k,e,I⟩
theorem bN.nodup:∀{wd:List<|WD},bN wd->(ke wd).Nodup
 |[],_=>B6
 |k::r,U=>by
  have e:ke (k::r)=zp k++ke r:=Bh ..;rw[e];refine Av.mpr ⟨?_,bN.nodup ⟨λp e i j h=>U.ne (p+1) e i j h,λp q k l x h1 h2 h3 J=>Nat.succ.inj<|U.un (p+1) (q+1) k l x h1 h2 h3 J⟩,λa I b g z=>?_⟩
  ·cases k with
   |none=>exact B6
   |some k=>
    cases k with
    |lf t n=>exact B6
    |nd b i j=>
     have:=U.ne 0 b i j rfl;show [i,j].Nodup;simp[this]
  ·subst z;obtain⟨p,l,h1,h2⟩:=pZ g;cases k with
   |none=>cases I
   |some k=>exact absurd (U.un 0 (p+1) k l a rfl h1 I h2) (Nat.succ_ne_zero p).symm
def UB{l:Wi}(h:(lD ks l).Nodup)(all:∀p,p<ks.length->p∈l):bN (ks.map some):=by
 have at_:∀{p:Nat} {k:Kn},(ks.map some)[p]?=some (some k)->ks[p]?=some k/\p∈l:=λ{p k} e=>by rw[Al] at e;obtain⟨k',U,g⟩:=Aq.mp e;cases g;exact⟨U,all p<|zd U⟩
 clear all;constructor
 ·intro p e i j I;obtain⟨h1,h2⟩:=at_ I;obtain⟨a,b,rfl⟩:=CN h2;rw[gp,cU,h1] at h;have:=(Av.mp (Av.mp h).2.1).1;have:[i,j].Nodup:=this;simpa using this
 ·intro p q k m x I o r t;obtain⟨h1,h2⟩:=at_ I;obtain⟨h3,C⟩:=at_ o;by_cases c:p=q
  ·exact c
  ·exfalso;obtain⟨a,b,rfl⟩:=CN h2;have T:q∈a++b:=by
    rcases Ak.mp C with z|z
    ·exact Am _ z
    ·rcases As.mp z with z|z
     ·exact absurd z.symm c
     ·exact Ah _ z
   have pm:(lD ks<|a++p::b).Perm (zp (some k)++lD ks (a++b)):=by rw[gp,cU,h1,gp];refine C6.mpr λz=>?_;simp only[Dz];lia
   have n:=pm.nodup_iff.mp h;have J:x∈lD ks (a++b):=Bz.mpr ⟨q,T,by rw[h3];exact t⟩;exact(Av.mp n).2.2 x r x J rfl
def bN.recT(U:bN<|ks.map some)(T:aw ks qs ks.length eH):bN eH:=by
 have dn:∀{p:Nat} {k:Kn} {x:Nat},eH[p]?=some (some k)->x∈zp (some k)->∃I,(ks.map some)[p]?=some (some I)/\x∈zp (some I):=λ{p k x} h J=>by
  cases k with
  |lf t n=>cases J
  |nd e i j=>
   obtain⟨g,o⟩:=T.inv h;exact⟨.nd g i j,by rw[Al,o];rfl,J⟩
 constructor
 ·intro p e i j h;obtain⟨g,o⟩:=T.inv h;exact U.ne p g i j (by rw[Al,o];rfl)
 ·intro p q k l x h1 h2 J r;obtain⟨I,C,a2⟩:=dn h1 J;obtain⟨l',b1,b2⟩:=dn h2 r;exact U.un p q I l' x C b1 a2 b2
def zE.part{f:Wp}(r:zE f eH wd){x y:Nat}{k:Kn}(h:wd[x]?=some (some k))(I:y∈zp (some k)):∃(p:Nat) (o:Kn) (a:Nat),x=f p/\eH[p]?=some (some o)/\y=f a/\a∈zp (some o):=by
 obtain⟨p,g,e,o,U,J⟩:=r.inv h;cases o with
 |none=>cases J
 |some o=>
  cases o with
  |lf t n=>cases J;cases I
  |nd b i j=>
   cases J;have I:y∈[f i,f j]:=I;rcases As.mp I with I|I
   ·exact⟨p,_,i,e,U,I,Ar ..⟩
   ·exact⟨p,_,j,e,U,Ao.mp I,Ai _<|Ar ..⟩
def nE(ok:oP eH){p a:Nat}{o:Kn}(h:eH[p]?=some (some o))(I:a∈zp (some o)):a<eH.length:=by
 cases o with
 |lf t n=>cases I
 |nd e i j=>
  have:=ok p e i j h;have:=zd h;have I:a∈[i,j]:=I;rcases As.mp I with rfl|I
  ·lia
  ·rw[Ao.mp I];lia
theorem zE.inj{f:Wp}(r:zE f eH wd){a b:Nat}(I:a<eH.length)(J:b<eH.length)(e:f a=f b):a=b:=r.gap.inj a (AY.mpr I) b (AY.mpr J) e
def bN.ren{f:Wp}(U:bN eH)(ok:oP eH)(r:zE f eH wd):bN wd:=by
 constructor
 ·intro x e i j h;obtain⟨p,hp,rfl,o,J,I⟩:=r.inv h;cases o with
  |none=>cases I
  |some o=>
   cases o with
   |lf t n=>cases I
   |nd b a c=>
    cases I;have:=ok p e a c J;exactλz=>U.ne p e a c J<|r.inj (by lia) (by lia) z
 ·intro x y k l z h1 h2 hz hw;obtain⟨p,o,a,rfl,g,rfl,C⟩:=r.part h1 hz;obtain⟨q,o',b,rfl,T,eb,hb⟩:=r.part h2 hw;cases r.inj (nE ok g C) (nE ok T hb) eb;rw[U.un p q o o' a g T C hb]
def vZ:WD->Bool
 |some (.lf _ _)=>true
 |_=>false
def SR.leaves{E:Wi}(h:SR ks R E):(za<|zg R).Perm ((qz R).filter λp=>vZ ks[p]?):=by
 induction h with
 |@link p q t n U h1 h2 h3 g l=>
  show(za [(p,q)]).Perm ([p,q].filter λp=>vZ ks[p]?);rw[ku,C1,C1,h2,h3];exact CI _
 |@ei r i j A o U h1 C h3 g l T h7 ih=>
  show(za<|zg A).Perm ((r::qz A).filter λp=>vZ ks[p]?);rw[C1,h1];exact ih
 |@bo r i j A B o EB U h1 C hB g l T h7 I J=>
  show(za<|zg A++zg B).Perm ((r::(qz A++qz B)).filter λp=>vZ ks[p]?);rw[C1,h1,jq];show(za (zg A)++za (zg B)).Perm ((qz A++qz B).filter λp=>vZ ks[p]?);rw[Cr];exact I.append J
 |@cu p q A B o EB U w C hB h3 g l T h7 h8 I J=>
  show(za<|zg A++zg B).Perm ((qz A++qz B).filter λp=>vZ ks[p]?);rw[jq,Cr];exact I.append J
theorem yx(f:Wp):∀lk:Wf,(za<|lk.map<|mmP f).Perm<|(za lk).map f
 |[]=>CI _
 |c::r=>by
  have I:=yx f r;rw[AA,j8,j8,AA,AA];show(min (f c.1) (f c.2)::max (f c.1) (f c.2)::_).Perm _;by_cases h:f c.1<=f c.2
  ·rw[BY h,Cn h];exact(I.cons _).cons _
  ·rw[C2 (by lia),Cu (by lia)];exact((I.cons _).cons _).trans (List.Perm.swap _ _ _)
theorem qZ(f:Wp):∀ct:Wf,za (ct.map<|ppP f)=(za ct).map f
 |[]=>rfl
 |c::r=>by rw[AA,j8,j8,AA,AA,qZ f r];rfl
theorem ie{f:Wp}:∀{l:Wi},l.Nodup->(∀a∈l,∀b∈l,f a=f b->a=b)->(l.map f).Nodup
 |[],_,_=>B6
 |a::r,h,g=>by obtain⟨h1,h2⟩:=AE.mp h;rw[AA,AE];refine⟨λz=>?_,ie h2 λx J y U=>g x (Ai _ J) y<|Ai _ U⟩;obtain⟨b,I,e⟩:=Bg.mp z;exact h1<|g b (Ai _ I) a (Ar ..) e▸I
structure UC(wd:List<|WD)(ct:We):Prop where
 ok:oP wd
 len:wd.length<=241
 there:hZ wd
 word:∀x k,wd[x]?=some (some k)->∃w,KW (jw wd) x w/\w.depth<=120
 cut:∀c∈ct,∃w,KW (jw wd) c.1 w/\KW (jw wd) c.2 w.turn/\w.depth<=120
 ctl:ct.length<=61
structure tw(wd:List<|WD)(lk ct:We):Prop where
 web:UC wd ct
 pu:bN wd
 lkA:∀c∈lk,c.1<c.2/\∃t n,wd[c.1]?=some (some<|.lf t n)/\wd[c.2]?=some (some<|.lf (!t) n)
 lkN:(za lk).Nodup
 lkL:∀p,p∈za lk↔∃t n,wd[p]?=some (some<|.lf t n)
 lkS:lk.Pairwise aG
 ctP:∀x∈za ct,x∉ke wd
 ctN:(za ct).Nodup
 ctS:ct.Pairwise aG
 ll:lk.length<=60
 nm:∀(p:Nat) (t:Bool) (n:Str),wd[p]?=some (some<|.lf t n)->n.length<=8
def abi.snd(W:abi wd lk ct):tw wd lk ct/\∃(x:Nat) (k:Kn),wd[x]?=some (some k)/\x∉ke wd/\x∉za ct:=by
 obtain⟨WI,ll⟩:=W.webI;obtain⟨U,R,E,a3,ba,J,f,ok,C,tp,hk,I,pl,pc,ho,rn,a4,bb,a5,bc⟩:=W.ex;have nd:(qz R).Nodup:=tp.nodup_iff.mpr B5;have lt:∀x∈qz R,x<U.length:=λx hx=>AY.mp<|tp.mem_iff.mp hx;have N:=(C.part nd).nodup_iff.mpr nd;obtain⟨N1,N2,N3⟩:=Av.mp N;obtain⟨_,_,N4⟩:=Av.mp N2;have U0:bN (U.map some):=UB N1 λp hp=>tp.mem_iff.mpr<|AY.mpr hp;have okO:oP J:=by
  rcases ho with rfl|⟨qs,B,T⟩
  ·exact gg ok
  ·exact T.okO ok
 have lo:J.length=U.length:=by
  rcases ho with rfl|⟨qs,B,T⟩
  ·exact Ae ..
  ·exact T.len
 have U1:bN J:=by
  rcases ho with rfl|⟨qs,B,T⟩
  ·exact U0
  ·exact U0.recT T
 have a1:∀(p:Nat) (t:Bool) (n:Str),U[p]?=some (.lf t n)->J[p]?=some (some<|.lf t n):=λp t n h=>by
  rcases ho with rfl|⟨qs,B,T⟩
  ·rw[Al,h];rfl
  ·exact T.lf p t n (zd h) h
 have dn:∀(p:Nat) (k:Kn),J[p]?=some (some k)->∃k',U[p]?=some k'/\zp (some k')=zp (some k)/\(∀t n,k=.lf t n->k'=.lf t n):=λp k h=>by
  have hp:p<U.length:=by have:=zd h;lia
  rcases ho with rfl|⟨qs,B,T⟩
  ·rw[Al] at h;obtain⟨k',e1,e2⟩:=Aq.mp h;cases e2;exact⟨k,e1,rfl,λ_ _ e=>e⟩
  ·cases k with
   |lf t n=>
    cases l:U[p]? with
    |none=>rw[Ag hp] at l;cases l
    |some k'=>
     cases k' with
     |lf t' n'=>
      have:=T.lf p t' n' hp l;rw[h] at this;cases this;exact⟨_,rfl,rfl,λ_ _ e=>e⟩
     |nd e i j=>
      rcases T.nd p e i j hp l with⟨z,_⟩|⟨e',z⟩
      ·rw[h] at z;cases z
      ·rw[h] at z;cases z
   |nd e i j=>
    obtain⟨e',l⟩:=T.inv h;exact⟨_,l,rfl,λ_ _ z=>by cases z⟩
 have up:∀{p:Nat} {o:WD},J[p]?=some o->wd[f p]?=some (iu f o):=λ{p o} h=>rn.gap.at_ p (AY.mpr<|zd h) _ h;have ac:∀x,x∈ke wd->∃(a p:Nat) (k:Kn),x=f a/\a<U.length/\J[p]?=some (some k)/\a∈zp (some k)/\a∈lD U (qz R):=λx hx=>by obtain⟨y,k,h1,h2⟩:=pZ hx;obtain⟨p,o,a,_,h3,e,h4⟩:=rn.part h1 h2;have:=nE okO h3 h4;obtain⟨k',e1,e2,_⟩:=dn p o h3;exact⟨a,p,o,e,by lia,h3,h4,Bz.mpr ⟨p,tp.mem_iff.mpr<|AY.mpr<|zd e1,by rw[e1,e2];exact h4⟩⟩
 have inj:∀a b,a<U.length->b<U.length->f a=f b->a=b:=λa b ha hb=>rn.inj (by lia) (by lia);have al:∀x,x∈za ct->∃y,y∈za (zh R)/\x=f y:=λx hx=>by have:=(x6 a5).mem_iff.mp hx;rw[qZ] at this;obtain⟨y,r,e⟩:=Bg.mp this;exact⟨y,(x6 pc).mem_iff.mp r,e.symm⟩
 have a2:∀y∈za (zh R),y<U.length:=λy r=>lt y<|(C.part nd).mem_iff.mp<|Ah _<|Am _ r;have Gv:∀y∈za a3,y<U.length:=λy r=>by have:=C.leaves.mem_iff.mp<|pl.mem_iff.mp r;exact lt y (AO.mp this).1
 have ax:(za lk).Perm ((za a3).map f):=(x6 a4).trans<|yx f a3;have ay:∀p t n,wd[p]?=some (some<|.lf t n)->∃y,f y=p/\U[y]?=some (.lf t n):=λp t n h=>by
  obtain⟨y,r,rfl,o,eo,l⟩:=rn.inv h;cases o with
  |none=>cases l
  |some o=>
   cases o with
   |nd b i j=>cases l
   |lf t' n'=>
    cases l;obtain⟨k',e1,_,e3⟩:=dn y _ eo;rw[e3 _ _ rfl] at e1;exact⟨y,rfl,e1⟩
 refine⟨⟨⟨WI.ok,WI.len,WI.there,WI.word,WI.cut,by have:=WI.ctl;lia⟩,U1.ren okO rn,λc hc=>?_,?_,λp=>?_,bb,λx hx z=>?_,?_,bc,ll,λp t n h=>let ⟨y,_,e⟩:=ay p t n h;(ok y _ e).2.1⟩,?_⟩
 ·obtain⟨c0,aL,rfl⟩:=Bg.mp<|a4.mem_iff.mp hc;obtain⟨t,n,h1,h2⟩:=I.at_ c0 aL;have l0:=I.lt c0 aL;have w1:=up<|a1 _ _ _ h1;have w2:=up<|a1 _ _ _ h2;have ne:f c0.1≠f c0.2:=λz=>by have:=inj _ _ (zd h1) (zd h2) z;lia
  show min (f c0.1) (f c0.2)<max (f c0.1) (f c0.2)/\∃t n,wd[min (f c0.1)<|f c0.2]?=some (some<|.lf t n)/\wd[max (f c0.1)<|f c0.2]?=some (some<|.lf (!t) n);by_cases h:f c0.1<=f c0.2
  ·rw[BY h,Cn h];exact⟨by lia,t,n,w1,w2⟩
  ·rw[C2 (by lia),Cu (by lia)];exact⟨by lia,!t,n,w2,by rw[EC];exact w1⟩
 ·exact ax.nodup_iff.mpr<|ie I.nd λa ha b hb=>inj a b (Gv a ha)<|Gv b hb
 ·rw[ax.mem_iff,Bg];constructor
  ·rintro⟨y,r,rfl⟩;have:=(AO.mp<|C.leaves.mem_iff.mp<|pl.mem_iff.mp r).2;cases e:U[y]? with
   |none=>rw[e] at this;cases this
   |some k=>
    cases k with|lf t n=>exact⟨t,n,up<|a1 y t n e⟩|nd b i j=>rw[e] at this;cases this
  ·rintro⟨t,n,h⟩;obtain⟨y,e,e1⟩:=ay p t n h;exact⟨y,pl.mem_iff.mpr (C.leaves.mem_iff.mpr (AO.mpr ⟨tp.mem_iff.mpr<|AY.mpr<|zd e1,by rw[e1];rfl⟩)),e⟩
 ·obtain⟨y,r,rfl⟩:=al x hx;obtain⟨a,p,k,e,ha,_,_,hr⟩:=ac _ z;cases inj _ _ (a2 y r) ha e;exact N3 y hr y (Am _ r) rfl
 ·have e:(za ct).Perm ((za ba).map f):=by rw[<-qZ];exact x6 a5
  refine e.nodup_iff.mpr<|ie ((x6 pc).nodup_iff.mpr (Av.mp N2).1) λa ha b hb=>inj a b (a2 a<|(x6 pc).mem_iff.mp ha)<|a2 b<|(x6 pc).mem_iff.mp hb
 ·obtain⟨g,h0⟩:=List.exists_mem_of_length_pos<|C.ends ok;have t0:=C.sub g h0;have l0:=lt g t0;have nr:g∉lD U (qz R):=λz=>N3 g z g (Ah _ h0) rfl;have nc:∀y,y∈za (zh R)->y≠g:=λy r z=>N4 y r g h0 z;have free:∀(a:Nat) (k:Kn),J[a]?=some (some k)->(a∉lD U (qz R)\/∀(p:Nat) (k:Kn),J[p]?=some (some k)->a∉zp (some k))->a∉za (zh R)->∃(x:Nat) (k:Kn),wd[x]?=some (some k)/\x∉ke wd/\x∉za ct:=λa k h1 h2 h3=>by
   have la:a<U.length:=by have:=zd h1;lia
   obtain⟨k',bd⟩:∃k',wd[f a]?=some (some k'):=by have:=up h1;cases k<;>exact⟨_,this⟩
   refine⟨f a,k',bd,λz=>?_,λz=>?_⟩
   ·obtain⟨b,p,k,e,hb,g1,g2,g3⟩:=ac _ z;cases inj _ _ la hb e;exact h2.elim (λh=>h g3) λh=>h p k g1 g2
   ·obtain⟨y,r,e⟩:=al _ z;cases inj _ _ la (a2 y r) e;exact h3 r
  have e0:J[g]?=some J[g]:=Ag (by lia);cases eo:J[g] with
  |some k=>exact free g k (by rw[e0,eo]) (.inl nr) λz=>nc g z rfl
  |none=>
   rw[eo] at e0;rcases ho with rfl|⟨qs,B,T⟩
   ·rw[Al] at e0;obtain⟨_,_,z⟩:=Aq.mp e0;cases z
   ·cases l:U[g]? with
    |none=>rw[Ag l0] at l;cases l
    |some k=>
     cases k with
     |lf t n=>rw[a1 g t n l] at e0;cases e0
     |nd e i j=>
      have pi:=(uT l).1;have oi:=ok g _ l;have oi:i<g/\j<g:=oi;have ir:i∈lD U (qz R):=Bz.mpr ⟨g,t0,by rw[l];exact Ar ..⟩;obtain⟨ki,hi⟩:∃ki,J[i]?=some (some ki):=by
       cases ei:U[i]? with
       |none=>rw[Ag (by lia)] at ei;cases ei
       |some m=>
        cases m with
        |lf t n=>exact⟨_,a1 i t n ei⟩
        |nd b a c=>
         rcases T.nd i b a c (by lia) ei with⟨_,z⟩|⟨e2,z⟩
         ·exact absurd pi z
         ·exact⟨_,z⟩
      refine free i ki hi (.inr λp k hp hm=>?_) λz=>N3 i ir i (Am _ z) rfl;obtain⟨k',e1,e2,_⟩:=dn p k hp;have:=U0.un g p _ k' i (by rw[Al,l];rfl) (by rw[Al,e1];rfl) (Ar ..) (by rw[e2];exact hm);rw[<-this,e0] at hp;cases hp
end L3
namespace TS
open PySem PyProof.Rows PySem.W
section
variable {w:Wu}
def IntV(v:Wr):Prop:=∃i t,v=.int i t
noncomputable def nmI(x:Keyed):Int:=match x.1 with
 |.int i _=>i
 |_=>0
def ahn:Ord prog w A s oneType' (λx=>IntV x.1) nmI:=by
 constructor;rintro x y ⟨i,t,I⟩ ⟨j,u,J⟩ E Q h;have h1:nmI x=i:=by unfold nmI;rw[I]
 have h2:nmI y=j:=by unfold nmI;rw[J]
 rw[h1,h2] at h;rw[I,J];exact kat_lt_int h
theorem tD:∀{vs:Wg},(∀v∈vs,IntV v)->∃ns,IntsAre vs ns
 |[],_=>⟨[],.nil⟩
 |v::r,h=>by obtain⟨i,t,rfl⟩:=h v<|Ar ..;obtain⟨ns,k⟩:=tD (vs:=r) λu I=>h u<|Ai _ I;exact⟨_,.cons i t k⟩
def UD(h:∀v∈vs,IntV v)(h2:¬vs.length<2):keyKind' vs.toArray=pure oneType':=by
 obtain⟨I,k⟩:=tD h
 match vs,k,h2 with
 |[],_,h2=>exact absurd (Nat.zero_lt_succ 1) h2
 |[_],_,h2=>exact absurd (BD 1) h2
 |_::_::_,k,_=>exact keyKind_ints k
def w_sortedI{l:Addr}(J:s.heap.IsList l vs.toArray)(hz:vs.length<=127)(I:∀v∈vs,IntV v)
 (h:∀h' tk (xs:WF) D c,s.heap.objs.size<=D->(∀b o,s.heap.get? b=some o->h'.get? b=some o)->h'.get? D=some (seqObj "list" (List.toArray (xs.map (·.2))) c)->xs.Perm (vs.zip vs)->(xs.Pairwise λx y=>nmI x<=nmI y)->Q (.ref D) {s with heap:=h',toks:=tk}):
 wpAny (model prog w) A (call (.builtin "sorted") [.ref l]) Q E s:=by
 exact qI J hz (λA E g _=>⟨⟨λx y U j=>ahn.lt x y (I _ (mem_self_zip U).1)<|I _ (mem_self_zip j).1⟩,λh2 Q q=>by rw[UD I h2];exact Aj q⟩) h
end
end TS
namespace L2
open PySem PySem.Spec PyProof.Rows
theorem gU:∀{ns:Wm} {vs:Wg},zf (ns.map V.int) vs->IntsAre vs ns
 |[],_,.nil=>.nil
 |n::_,_,.cons ⟨t,e⟩ p=>by subst e;exact .cons n t<|gU p
theorem uE:∀{vs:Wg} {ns:Wm},IntsAre vs ns->(vs.zip vs).map TS.nmI=ns
 |_,_,.nil=>rfl
 |_,_,.cons n t h=>by rw[DW,AA,uE h];rfl
def ur:∀{vs:Wg} {ns:Wm},IntsAre vs ns->∀v∈vs,TS.IntV v:=by
 intro vs ns h
 induction h with
 |nil=>intro v h;cases h
 |cons n t k I=>
  intro v h;rcases As.mp h with rfl|h
  ·exact⟨n,t,rfl⟩
  ·exact I v h
theorem sd:∀{xs:List PyProof.Rows.Keyed},(∀x∈xs,TS.IntV x.1/\x.1=x.2)->zf ((xs.map TS.nmI).map V.int) (xs.map (·.2))
 |[],_=>.nil
 |x::r,h=>by obtain⟨⟨i,t,e⟩,I⟩:=h x<|Ar ..;refine .cons ⟨t,?_⟩<|sd λy J=>h y<|Ai _ J;show x.2=Value.int (TS.nmI x) t;rw[<-I,e];unfold TS.nmI;rw[e]
def UE(X:Cx):Wx->Hp->VK->Prop:=λxs H Q=>∃(l:Addr) (ns:Wm),xs=[.ref l]/\aF X.K H l (ns.map V.int)/\ns.length<=127/\
 ∀(D:Addr) (ms:Wm),H D=none->ms.Perm ns->ms.Pairwise (λa b:Int=>a<=b)->Q (.ref D) (upd H D<|.lst<|ms.map V.int)
theorem vT:ja X (.builtin "sorted") (UE X):=by
 rintro p s σ H xs us Q I r⟨l,t,rfl,hl,J,q⟩;obtain⟨u,rfl,ru⟩:=r.one;cases (show u=Value.ref l from ru);obtain⟨g,C,pl,hz⟩:=I.list hl;have j:=gU C;have l1:t.length=g.length:=by have:=C.length;rw[Ae] at this;exact this
 refine j5 I.tk (TS.w_sortedI pl.isList (by rw[<-l1];exact J) (ur j) λh' tk U D c T hk hg pm pw ht=>?_);have mk:∀x∈U,TS.IntV x.1/\x.1=x.2:=λx hx=>by obtain⟨m1,m2⟩:=TS.mem_self_zip<|pm.mem_iff.mp hx;exact⟨ur j _ m1,m2⟩
 have pn:(U.map TS.nmI).Perm t:=by rw[<-uE j];exact pm.map _
 refine⟨.ref D,_,I.laid (t':=tk) (o:=.lst<|(U.map TS.nmI).map V.int) hk T ⟨?_,U.map (·.2),c,sd mk,hg⟩,rfl,q D _ (I.hok.fresh T) pn<|BO.mpr pw⟩;rw[Ae,pn.length_eq,<-Ae (f:=V.int)];exact hz
def ug(ns:Wm):Nat:=(firstMet (λi=>ns.getD i 0) ns.length).length
def UF(X:Cx)(te:TE):TE:=λσ H Q=>te σ H λx H1=>∃(a:Addr) (ns:Wm),x=.ref a/\aF X.K H1 a (ns.map V.int)/\ns.length<=4000/\Q (.int (ug ns:Nat)) H1
def UG:bootBuiltins "set"=some (.type "set"):=by decide +kernel
def UH{te:TE}{ps:Pos}(hc:X.calm=true)(l:Gl X "len")(p:X.mg "len"=none)(r:Gl X "set")(C:X.mg "set"=none)(he:PE X e te)(h1:starEach [e] X.env=(false,eval e X.env)::starEach [] X.env:=by rfl):
 PE X (.Call (.Name "len" p1) [.Call (.Name "set" p2) [e] [] ps] [] pos) (UF X te):=by
 intro J s T H Q I h;refine wpAny_Call_Name_kw<|cM I l p Iz ?_;refine callWith_builtin1 ?_ rfl rfl;show wpAny _ _ (spliced<|(false,eval (.Call (.Name "set" p2) [e] [] ps) X.env)::[]) _ _ s;refine Db ?_;refine wpAny_Call_Name_kw<|cM I r C UG ?_;refine callWith_type1 ?_ h1 rfl;rw[h1];show wpAny _ _ (spliced<|(false,eval e X.env)::[]) _ _ s;refine Db<|wr (he J s T H _ I h) λu s1 ⟨x,H1,g,r1,q1⟩=>?_;obtain⟨a,ns,rfl,hq,hz,q⟩:=q1;cases (show u=Value.ref a from r1);obtain⟨U,rv,pl,_⟩:=g.list hq;have ia:=gU rv;have l1:ns.length=U.length:=by have:=rv.length;rw[Ae] at this;exact this
 have sb:(4001:Nat)<scanBound:=by decide
 refine Fa ?_;refine j5 g.tk (call_set_list (g.ok.hd hc) pl.isList (ns:=ns) (by simpa using ia) (by rw[Ap];lia) λh' tk hS hk ht=>?_);have sz:U.toArray.size=ns.length:=by rw[Ap,l1]
 rw[sz] at hS;obtain⟨o,ho,hex,es,ep,t,hd,_,_,j,hf⟩:=hS.objOf;have I2:qt X J T H1 {s1 with heap:=h',toks:=tk}:=g.kept (λb o e=>hk b o (xT e) e) ht;have le:ug ns<=ns.length:=firstMet_length_le _ _;have j:es.size=ug ns:=j;refine Fa (call_len_set (s:={s1 with heap:=h',toks:=tk}) ho hex hd hf (by rw[j];lia) ?_);rw[j];exact⟨.int (ug ns:Nat),H1,I2.kept (λ_ _ e=>e)<|BV _,⟨_,rfl⟩,q⟩
end L2
namespace L3
open PySem L2
def J1(xs:List Y)(L:qk)(Q:YK):Prop:=match xs with
 |[.ref a]=>cB L a λys=>∃ns:Wm,ys=ns.map Y.int/\ns.length<=127/\∀(D:Addr) (ms:Wm),L D=none->ms.Perm ns->ms.Pairwise (λa b:Int=>a<=b)->Q (.ref D) (qi L D<|.lst<|ms.map Y.int)
 |_=>False
theorem rm{G:G3}{H:Hp}:∀{ns:Wm} {xs:Wx},xm G H (ns.map Y.int) xs->xs=ns.map V.int
 |[],_,h=>h
 |n::r,_,⟨x,I,e,J,s⟩=>by subst e;cases (show x=V.int n from J);rw[rm s];rfl
theorem yO{G:G3}{H:Hp}:∀ns:Wm,xm G H (ns.map Y.int)<|ns.map V.int
 |[]=>rfl
 |n::r=>⟨_,_,rfl,rfl,yO r⟩
theorem UI :ja X (.builtin "sorted") (c_ X.g3 J1):=E9 vT λC H Q T L Q3 j J z k=>by
 unfold J1 at z;split at z
 ·rename_i a;obtain⟨zs,e,l,rfl,I,z⟩:=jy z;obtain⟨vs,o,r⟩:=J a _ e;obtain⟨u,rfl,p⟩:=j.inv1;cases (show u=V.ref a from p);cases rm r;exact⟨a,l,rfl,FA o,I,λD g U pm t=>k _ _ _ _ (ET U) (J.newL U<|yO g) (by rfl)<|z D g (J.none U) pm t⟩
 ·exact z.elim
def UJ(ta:xg)(τ:j9)(L:qk)(Q:YK):Prop:=ta τ L λx L1=>match x with
 |.ref a=>cB L1 a λys=>∃ns:Wm,ys=ns.map Y.int/\ns.length<=4000/\Q (.int (ug ns:Nat)) L1
 |_=>False
def UK{ps:Pos}(hc:X.calm=true)(J:Gl X "len")(U:X.mg "len"=none)(g:Gl X "set")(j:X.mg "set"=none)(p:QE X e te)(h1:starEach [e] X.env=(false,eval e X.env)::starEach [] X.env:=by rfl):
 QE X (.Call (.Name "len" p1) [.Call (.Name "set" p2) [e] [] ps] [] pos) (UJ te):=EU (UH hc J U g j p h1) λσ H Q t L Q3 C T z k=>
 ⟨t,L,_,C,T,z,λv H1 y L1 t1 I l o=>by
  cases y with
  |ref a=>
   obtain⟨zs,e,ns,rfl,hz,z⟩:=jy o;obtain⟨vs,e2,r⟩:=I a _ e;cases rm r;exact⟨a,ns,l,FA e2,hz,k _ H1 _ L1 t1 I (by rfl) z⟩
  |_=>exact o.elim⟩
def UL{ns:Wm}(h:ns.Nodup):ug ns=ns.length:=by
 have key:∀i,i<=ns.length->PyProof.Rows.firstMet (λi=>ns.getD i 0) i=ns.take i:=by
  intro i
  induction i with
  |zero=>intro _;rfl
  |succ i g=>
   intro J;rw[PyProof.Rows.firstMet_succ,g<|Nat.le_of_succ_le J];have e:ns[i]?=some ns[i]:=Ag J;have l:ns.getD i 0=ns[i]:=by rw[Bl,e];rfl
   rw[l,Bm,e,Option.toList_some];unfold PyProof.Rows.step_dedup;rw[AB];intro I;have I:ns[i]∈ns.take i:=by simpa using I
   obtain⟨j,o,U⟩:=BF I;rw[AX] at o;rw[BA] at U;have:=(DF h).mp U;lia
 unfold ug;rw[key _<|An _,Bj]
open PySem L2 Words
def gd(I:vh):RD "holds_leaf" iR 1 ["knot"] (λV=>FV V I):=⟨_,λV B c _ _ _ _ _ _ _ J hN U=>(qe<|qu<|ky (l9<|qv 0)<|ai<|C_ c J<|jn<|qv 0)⟩
def kK:RD "each_once" kQ 0 ["places"] (λ_=>True):=⟨_,λV B c _ _ _ _ _ _ _ J hN I=>(qe<|qu<|kh (cf _ _ _ I) (UK rfl rfl B.ba rfl B.b_set<|qv 0) (L_ B.ba<|qv 0)<|jf _)⟩
def kF(J:vh)(I:vh):RD "parts_fit" jX 2 ["knots","place","parts","fit"] (λV=>Hf V J/\Hh V I):=⟨_,λV B c _ _ _ _ _ _ _ U hN g=>(qb (S_ 2 hN<|C_ c.1 U<|jn<|I_ (qv 0)<|qv 1)<|qb (S_ 3 hN<|zm yA rfl B.b_all rR<|jn<|dD ["part"] (EV (by rfl)) rfl (xj<|qv 2) (m6 4) (λ_ _ _ _=>cD) λ_ _ _ _=>(ky (uw qd<|tj G6 (qv 4)<|tH gG<|qv 1)<|ai<|l9<|I_ (qv 0)<|qv 4))<|qe<|qu<|ky (qv 3)<|ai<|C_ c.2 U<|jn<|qv 2)⟩
def kD(I:vh):RD "are_knots" lA 3 ["knots","fit"] (λV=>Jg V I):=⟨_,λV B c _ _ _ _ _ _ _ J hN U=>(qb (S_ 1 hN<|zm yA rfl B.b_all rR<|jn<|dD ["place"] (EV (by rfl)) rfl (bD rfl B.bh<|jn<|L_ B.ba<|qv 0) (m6 2) (λ_ _ _ _=>cD) λ_ _ _ _=>(C_ c J<|xx (qv 0)<|qv 2))<|qe<|qu<|ky (qv 1)<|ai<|zm RA rfl B.b_any amp<|jn<|dD ["knot"] (EV (by rfl)) rfl (xj<|qv 0) (m6 2) (λ_ _ _ _=>cD) λ_ _ _ _=>(l9<|qv 2))⟩
def lC(U:vh)(I:vh)(J:vh):RD "are_links" kZ 123 ["knots","links","fit","leaves"] (λV=>Jh V U/\He V I/\Hg V J):=⟨_,λV B c _ _ _ _ _ _ _ g hN j=>(qb (S_ 2 hN<|zm yA rfl B.b_all rR<|jn<|dD ["p","q" ] (EV (by rfl)) rfl (xj<|qv 1) (Hk 4) (λ_ _ _ _=>cD) λ_ _ _ _=>(C_ c.1 g<|aT (qv 0) (qv 4)<|qv 5))<|qb (cV ["place","knot" ] (i:=3) hN rfl (Or.inl rfl) (EV (by rfl)) rfl (lw rfl B.bq<|qv 0) (Hk 4) (λ_ _ _ _=>dZ<|vq<|C_ c.2.1 g<|jn<|qv 5) λ_ _ _ _=>(qv 4))<|qe<|qu<|ky (qv 2)<|ky (kh (cf _ _ _ j) (zm UI rfl B.bg vv<|jn<|C_ c.2.2 g<|jn<|qv 1) (qv 3)<|jf _)<|ai<|kh (cf _ _ _ j) (qv 1) (zm bA rfl B.bg vv<|jn<|qv 1)<|jf _)⟩
def iT(I:vh):RD "can_be_cut" iN 3 ["knots","place"] (λV=>Jf V I):=⟨_,λV B c _ _ _ _ _ _ _ J hN U=>(qe<|qu<|ky (uw qd<|tj G6 (qv 1)<|tH gG<|L_ B.ba<|qv 0)<|ky (l9<|I_ (qv 0)<|qv 1)<|ai<|kh (qP _ _ _) (qv 1) (C_ c J<|jn<|qv 0) (by with_unfolding_all rfl))⟩
def tR(I:vh)(J:vh)(U:vh):RD "is_cut" sW 122 ["knots","p","q"] (λV=>Ji V I/\Je V J/\Hd V U):=⟨_,λV B c _ _ _ _ _ _ _ g hN j=>(qb (zj (gQ<|kj<|wv (vq<|C_ c.1 g<|xx (qv 0)<|qv 1)<|vn<|vq<|C_ c.1 g<|xx (qv 0)<|qv 2) (qe<|qu bZ) ze)<|qe<|qu<|kh (cf _ _ _ j) (C_ c.2.1 g<|xx (qv 0)<|qv 2) (C_ c.2.2 g<|jn<|C_ c.2.1 g<|xx (qv 0)<|qv 1)<|jf _)⟩
def mU(U:vh)(I:vh)(J:vh):RD "are_cuts" mO 123 ["knots","cuts","fit"] (λV=>Jj V U/\Hh V I/\Hg V J):=⟨_,λV B c _ _ _ _ _ _ _ g hN j=>(qb (S_ 2 hN<|zm yA rfl B.b_all rR<|jn<|dD ["p","q" ] (EV (by rfl)) rfl (xj<|qv 1) (Hk 3) (λ_ _ _ _=>cD) λ_ _ _ _=>(C_ c.1 g<|aT (qv 0) (qv 3)<|qv 4))<|qe<|qu<|ky (qv 2)<|ky (C_ c.2.1 g<|jn<|C_ c.2.2 g<|jn<|qv 1)<|ai<|kh (cf _ _ _ j) (qv 1) (zm bA rfl B.bg vv<|jn<|qv 1)<|jf _)⟩
def rc(l:Wi):nY l=(l.map λn:Nat=>(n:Int)).map Y.int:=by unfold nY;rw[BK];rfl
def vJ{l:Wi}(h:l.Nodup):(l.map λn:Nat=>(n:Int)).Nodup:=cR (λ_ _ _ _ e=>B9.mp e) h
inductive dJ(ys:List Y)(L:qk)(Q:YK):Prop
 |mk:∀a,∀l:Wi,(ys=[.ref a])->(L a=some (.lst<|nY l))->(l.length<=1000)->(l.Nodup)->(Q (.bl true) L)->dJ ys L Q
def UM:∀ys L Q,dJ ys L Q->xi kK.1 1 ys L Q:=by rintro ys L Q ⟨a,l,rfl,I,U,J,q⟩;refine qj I ⟨_,rc l,by rw[Ae];lia,qa I ?_⟩;show a7 Q (.bl<|nb false<|decide<|((ug (l.map λn:Nat=>(n:Int)):Nat):Int)=((nY l).length:Int)) L;rw[UL<|vJ J,Ae,aq,Aw rfl];exact xt q
inductive fH(ys:List Y)(L:qk)(Q:YK):Prop
 |mk:∀k:WD,(ys=[cA k])->(Q (.bl<|vZ k) L)->fH ys L Q
def UN:∀ys L Q,fH ys L Q->xi (gd wo).1 1 ys L Q:=by
 rintro ys L Q ⟨k,rfl,q⟩;cases k with
 |none=>exact xt q
 |some k=>
  cases k with|lf t n=>exact⟨true,t,_,rfl,xt q⟩|nd e i j=>exact⟨false,e,_,rfl,xt q⟩
def UO(n:Nat):(List.replicate n true).all id=true:=by induction n with|zero=>rfl|succ n I=>rw[List.replicate_succ];exact I
def UP(n:Nat):(List.replicate n true).map Y.bl++[.bl true]=(List.replicate (n+1) true).map Y.bl:=by rw[CZ,Ax];rfl
structure KnS(wd:List<|WD):Prop where
 ok:oP wd
 there:hZ wd
 pu:bN wd
def KnS.at_(S:KnS wd){p m:Nat}{k:WD}(h:wd[p]?=some k)(I:m∈zp k):m<p/\∃J,wd[m]?=some (some J):=by
 cases k with
 |none=>cases I
 |some k=>
  cases k with
  |lf t n=>cases I
  |nd e i j=>
   obtain⟨a,b⟩:=S.ok p e i j h;obtain⟨c,d⟩:=S.there p e i j h;have I:m∈[i,j]:=I;rcases As.mp I with rfl|I
   ·exact⟨a,c⟩
   ·rw[Ao.mp I];exact⟨b,d⟩
theorem i8{L:qk}:∀xs:Wm,Paired (jc L 0) (xs.map Y.int)<|xs.map λx=>Da.s<|.int x
 |[]=>.nil
 |_::r=>.cons ⟨rfl,rfl⟩<|i8 r
theorem lM:∀l:Wf,Da.eqs (l.map bU) (l.map bU)=true
 |[]=>rfl
 |x::r=>by rw[AA,Da.eqs,db,lM r,Aw rfl];rfl
def UQ(f:WD->Bool)(wd:List<|WD)(n:Nat):(qH f wd n).Pairwise λa b=>a<b:=by unfold qH;exact List.Pairwise.filter _ List.pairwise_lt_range
def sj(I:lk.Pairwise aG){qs:List<|Int×Int}(pm:qs.Perm<|lk.map xc)(J:qs.Pairwise oC):qs=lk.map xc:=by
 refine C8 (le:=oC) (λa b _ _ h1 h2=>?_) J ?_ pm
 ·unfold oC at h1 h2;exact DR (by lia) (by lia)
 ·refine BO.mpr<|I.imp λ{a b} h=>?_;unfold aG at h;show(a.1:Int)<(b.1:Int)\/((a.1:Int)=(b.1:Int)/\(a.2:Int)<=(b.2:Int));lia
def u5{l:Addr}{Q:YK}(I:L l=some (.lst<|qr lk))(J:lk.Pairwise aG)(hN:lk.Nodup)(hz:lk.length<=127)(U:∀c∈lk,c.2<1000000)(q:∀L',qh L L'->Q (.bl true) L'):am [.ref l] L λy L'=>b_ false (.ref l) y L' Q:=by
 refine qj I ⟨lk.map xc,vt lk,λp g=>?_,cR (λx _ y _ e=>fV e) hN,by rw[Ae];lia,λD C j pm r=>?_⟩
 ·obtain⟨c,t,rfl⟩:=Bg.mp g;have:=U c t;show(0:Int)<=(c.2:Int)/\(c.2:Int)<1000000;lia
 ·rw[sj J pm r,<-vt];have s:=By (o:=.lst<|qr lk) j;refine bR (n:=1) (m:=1) (by decide) (s _ _ I) q9 (aY lk) (aY lk) ?_;show Q (.bl<|Da.eqs _ _) _;rw[lM];exact q _ s
inductive qV(ys:List Y)(L:qk)(Q:YK):Prop
 |mk:∀a,∀wd:List (WD),∀p:Nat,∀k:Kn,(ys=[.ref a,.int (p:Int)])->(L a=some (.lst<|jw wd))->(wd.length<=1000)->(wd[p]?=some (some k))->(p∉ke wd)->(Q (.bl true) L)->qV ys L Q
def UR:∀ys L Q,qV ys L Q->xi (iT f9).1 2 ys L Q:=by
 rintro ys L Q ⟨a,J,p,k,rfl,U,j,g,l,q⟩;refine qa U (aM (by show decide ((p:Int)<((jw J).length:Int))=true;rw[jg];exact Aw<|Int.ofNat_lt.mpr<|zd g) ?_);refine qa U<|qf (jp g) ?_;have key:∀I,L I=none->a7 Q (.bl<|nb true<|vF (ft<|.int (p:Int))<|(nY<|ke J).map ft) (qi L I<|.lst<|nY<|ke J):=λI h1=>by rw[sC,Au l];exact eY (By h1) q
 cases k<;>exact⟨a,J,rfl,U,j,λI h1=>qa q9 ⟨rfl,rf _,key I h1⟩⟩
def KW.ex{p:Nat}{w:Wd}(h:KW (jw wd) p w):∃k,wd[p]?=some (some k):=by cases w with|leaf t n=>exact⟨_,h.inv_lf⟩|node e l r=>obtain⟨i,j,a,_⟩:=h.inv_nd;exact⟨_,a⟩
inductive iU(ys:List Y)(L:qk)(Q:YK):Prop
 |mk:∀a,∀wd:List (WD),∀p r:Nat,∀w:Wd,(ys=[.ref a,.int (p:Int),.int (r:Int)])->(L a=some (.lst<|jw wd))->(wd.length<=1000)->(KW (jw wd) p w)->(KW (jw wd) r w.turn)->(w.depth<=120)->(p∉ke wd)->(r∉ke wd)->(Q (.bl true) L)->iU ys L Q
def US:∀ys L Q,iU ys L Q->xi (tR qV (xq 120)<|aK 120).1 3 ys L Q:=by rintro ys L Q ⟨a,I,p,r,w,rfl,J,U,h1,h2,hd,g,j,q⟩;obtain⟨l,o⟩:=h1.ex;obtain⟨t,C⟩:=h2.ex;have T:w.turn.depth=w.depth:=dk w;refine⟨a,I,p,l,rfl,J,U,o,g,?_⟩;refine⟨a,I,r,t,rfl,J,U,C,j,?_⟩;refine⟨a,jw I,r,w.turn,rfl,J,h2,by lia,?_⟩;refine⟨a,jw I,p,w,rfl,J,h1,hd,⟨w,rfl,hd,?_⟩⟩;refine mC (u:=w.turn) (v:=w.turn) (by lia) ?_;show a7 Q (.bl<|Da.eq _ _) L;rw[gq];exact xt q
inductive eS(ys:List Y)(L:qk)(Q:YK):Prop
 |mk:∀a c,∀wd:List (WD),∀lk ct:Wf,(ys=[.ref a,.ref c])->(L a=some (.lst<|jw wd))->(L c=some (.lst<|qr ct))->(tw wd lk ct)->(Q (.bl true) L)->eS ys L Q
def UT:∀ys L Q,eS ys L Q->xi (mU iU dJ gw).1 3 ys L Q:=by
 rintro ys L Q ⟨a,c,r,lk,I,rfl,t,J,S,q⟩;have big:=a_;have z1:=S.web.len;have z2:=S.web.ctl;have pl:=jr I;refine x4 J λkeep C=>aj (λi U=>U=(List.replicate i true).map Y.bl) (by rw[Ae];exact big _ (by lia)) (C _ rfl) rfl ?_ ?_
 ·rintro i y U j rfl;rw[Al] at j;obtain⟨x,ex,rfl⟩:=Aq.mp j;have l:=AC ex;obtain⟨w,h1,h2,hd⟩:=S.web.cut x l;obtain⟨T,m2⟩:=kq l;exact⟨a,r,x.1,x.2,w,rfl,t,by lia,h1,h2,hd,S.ctP _ T,S.ctP _ m2,_,ER _,rfl,UP i⟩
 rintro U rfl p1 h1;have g:=By (o:=.lst<|(List.replicate (qr I).length true).map Y.bl) h1;refine⟨rfl,qa q9<|qf (fG _) ?_⟩;rw[UO];generalize qi L p1 (.lst<|(List.replicate (qr I).length true).map Y.bl)=L1 at g ⊢;refine⟨c,I,rfl,g _ _ J,by lia,λp3 h3=>?_⟩;have p:=g.trans<|By (o:=.lst<|nY<|za I) h3;refine⟨p3,za I,rfl,q9,by lia,S.ctN,?_⟩;refine u5 (p _ _ J) S.ctS (jl S.ctN) (by lia) (λx hx=>?_) λL' s5=>eY (p.trans s5) q;obtain⟨w,_,h2,_⟩:=S.web.cut x hx;obtain⟨k,e⟩:=h2.ex;have:=zd e;lia
def HF(to ti:xg)(v:Y)(τ:j9)(L:qk)(Q:j9->qk->Prop):Prop:=to τ L λx L2=>ti τ L2 λy L3=>match x,y with
 |.ref a,.int i=>cB L3 a λys=>xA L3 (λj L=>Q τ<|qi L a<|.lst<|ys.set j v)<|sO ys.length i
 |_,_=>False
theorem J2{i:Expr}(ho:QE X o to)(hi:QE X i ti)
 (ha:∀v,assign (.Subscript o i fy) X.env v=(do
  let J <-holding [v] (eval o X.env)
  let g <-holding [v,J] (eval i X.env)
  standAt fy
  holding [v,J,g] (setItem J g v)
  release [v,J,g] []):=by intro _;rfl):QG X (.Subscript o i fy) (HF to ti):=
 PG.imp (HV ho hi uh ha) λv σ H Q z0=>by
 obtain⟨vy,τ,L,Q3,l,p,rl,z,k⟩:=z0;exact⟨τ,L,_,p,rl,z,λx H2 xy L2 U t C z2=>⟨τ,L2,_,p.ts U,t,z2,λw H3 y L3 T I a1 z3=>by
  split at z3
  ·rename_i a ii;obtain⟨ys,e,z4⟩:=jy z3;obtain⟨j,ej,q⟩:=gr z4;obtain⟨xs,e2,r⟩:=I a _ e;cases (show x=V.ref a from C);cases (show w=V.int ii from a1);have tt:zy H3 (upd H3 a<|.lst<|xs.set j v):=EZ e2;exact⟨a,xs,ii,j,rfl,rfl,e2,by rw[<-r.length];exact ej,k _ _ _ _ ((U.trans T).trans tt) (p.ts<|(U.trans T).trans tt) (I.setL e2<|xm.setY (l.ts<|U.trans T) j r) q⟩
  ·exact z3.elim⟩⟩
def UU(x y:Y)(L:qk)(Q:YK):Prop:=(x=.non/\(∃ys,y=.tup ys)/\Q (.bl false) L)\/b_ false x y L Q
def UV(K:Af)(P:Wt)(w:Wu)(o:X.A.units+128<cLine)(C:X.K=K:=by rfl)(T:X.prog=P:=by rfl)(hw:X.w=w:=by rfl):wb X (compareOp .Eq) (gB ⟨K,P,w⟩ UU):=by
 subst C T hw;rintro J s U H x y v u Q I g j ⟨x3,y3,L,Q3,a,b,l,z,k⟩;rcases z with⟨rfl,⟨ys,rfl⟩,z⟩|z
 ·cases a;obtain⟨p,xs,rfl,sq,r⟩:=b;cases g;cases j;obtain⟨a1,_,t,_⟩:=I.tuple sq;exact SeqAt.RcAt.none_tuple t (by lia) X.prog X.w X.xe (EP X J U Q) ⟨.bl false,H,I,rfl,k _ H _ L (ES _) l (by rfl) z⟩
 ·exact cf X.K X.prog X.w o rfl rfl rfl J s U H x y v u Q I g j ⟨x3,y3,L,Q3,a,b,l,z,k⟩
end L3
namespace L2
open PySem PySem.W
section
variable {K:Af}(T:K.lookup Pt=some (PySem.W.tabObj #[]))
include T
def xL :clsIn (lessK Pt K) C=clsIn K C:=by
 unfold clsIn;by_cases d:C=Pt
 ·subst d;rw[vo,T]
 ·rw[xa d]
def J3{b:Wr}:mroIn (lessK Pt K) C b=mroIn K C b:=by unfold mroIn;rw[xL T]
def rW{t b:Wr}:subIn (lessK Pt K) t b=subIn K t b:=by
 unfold subIn;split
 ·rfl
 ·exact J3 T
 ·rfl
def wD{i:Ww} :specialIn (lessK Pt K) (.builtin i) x=specialIn K (.builtin i) x:=by unfold specialIn typeIn;dsimp only;congr 1;funext t;exact iZ T
def UW{i:Ww}:takesIn (lessK Pt K) (.builtin i)=takesIn K (.builtin i):=by unfold takesIn;rw[wD T,wD T]
def pC{t c:Wr}{b:Bool}(e:kitCls K t c=some b):kitCls (lessK Pt K) t c=some b:=by
 unfold kitCls at e ⊢;split at e
 ·rename_i C;have n:C≠Pt:=by rintro rfl;unfold clsIn at e;rw[T] at e;cases e
  have h:typeIn (lessK Pt K) (.ref C)=typeIn K (.ref C):=by show(List.lookup C<|lessK Pt K).map _=(List.lookup C K).map _;rw[xa n]
  rw[xL T,rW T,h];exact e
 ·rw[rW T];exact e
 ·cases e
def fU{t c:Wr}{b:Bool}(e:kitOne K t c=some b):kitOne (lessK Pt K) t c=some b:=by
 unfold kitOne at e ⊢;split at e
 ·rename_i h;rw[AD h];exact e
 ·rename_i h;rw[AB h];exact pC T e
theorem qB{t:Wr}{b:Bool}:∀{l:Wg},kitAny K t l=some b->kitAny (lessK Pt K) t l=some b
 |[],e=>e
 |c::r,e=>by
  unfold kitAny at e ⊢;split at e
  ·rename_i h;rw[fU T h];exact e
  ·rename_i h;rw[fU T h];exact qB e
  ·cases e
def UX{t c:Wr}{b:Bool}(e:exmOne K t c=some b):exmOne (lessK Pt K) t c=some b:=by
 unfold exmOne at e ⊢;rw[rW T];split at e
 ·rename_i h;rw[AD h];exact pC T e
 ·cases e
def UY(x:v_ K C):v_ (lessK Pt K) C:=by obtain⟨⟨ga,gt,cl,ge,tk,mo,be⟩,h⟩:=x;exact⟨⟨(iZ T).trans ga,(iZ T).trans gt,(iZ T).trans cl,(wD T).trans ge,(UW T).trans tk,(J3 T).trans mo,(rW T).trans be⟩,by rw[xL T];exact h⟩
def yN{N:Addr}:nsOkIn (lessK Pt K) N=nsOkIn K N:=by
 unfold nsOkIn;by_cases d:N=Pt
 ·subst d;rw[vo,T]
 ·rw[xa d]
theorem yc{bm:Wg}:∀l:Wg,tailIn (lessK Pt K) bm l=tailIn K bm l
 |[]=>rfl
 |v::r=>by
  unfold tailIn;congr 1;split
  ·rename_i A;by_cases d:A=Pt
   ·subst d;rw[vo,T]
   ·rw[xa d];split
    ·rw[yN T,ns_dn T rfl,yc r]
    ·rfl
  ·rfl
def exc_dn{bm:Wg}{i:Ww}(e:excIn K C bm i=true):excIn (lessK Pt K) C bm i=true:=by
 unfold excIn at e ⊢;by_cases d:C=Pt
 ·subst d;rw[T] at e;cases e
 ·rw[xa d];split at e
  ·split at e
   ·rw[yc T,yN T,ns_dn T rfl];exact e
   ·cases e
  ·cases e
end
section
variable {K:Af}(T:K.lookup Pt=some (PySem.W.tabObj #[]))
include T
end
end L2
namespace L3
open PySem L2
open PySem L2 PyProof.Rows
def Gn(neg:Bool)(x y:Y)(L:qk)(Q:YK):Prop:=match x,y with
 |.bl c,.bl d=>Q (.bl<|nb neg<|c==d) L
 |_,_=>False
def UZ :wb X (compareOp .IsNot) (λx y H Q=>∃c d,x=.bl c/\y=.bl d/\Q (.bl<|!(c==d)) H):=by rintro J s j H x y v u Q I U g⟨c,d,rfl,rfl,q⟩;cases U;cases g;exact isnot_bool<|gN I q rfl
def J4 :wb X (compareOp .IsNot) (gB X.g3<|Gn true):=wb.imq UZ λx y H Q g j L l I J U z k=>by
 unfold Gn at z;split at z
 ·exact⟨_,_,I,J,k _ H _ L (ES _) U (by rfl) z⟩
 ·exact z.elim
open PySem L2 Words
def tF(J:vh)(I:vh):RD "is_link" pD 122 ["knots","p","q"] (λV=>Hd V J/\He V I):=⟨_,λV B c _ _ _ _ _ _ _ U hN g=>(qb (zj (gQ<|Rx qd<|pJ G6 (qv 1)<|pJ gG (qv 2)<|Rw gG<|L_ B.ba<|qv 0) (qe<|qu bZ) ze)<|qe<|qu<|ky (C_ c.2 U<|jn<|I_ (qv 0)<|qv 1)<|ai<|kh (UV _ _ _ g) (I_ (qv 0)<|qv 2) (C_ c.1 U<|jn<|I_ (qv 0)<|qv 1)<|jf _)⟩
def mS(I:Addr)(E3:X3):bB:=(aR (FM<|yB<|qg 0) (Jd I E3<|dI<|qg 1) dE)
def uL(E3:X3)(I:lI)(p1:vh)(p2:vh)(p3:vh)(p4:vh)(p5:vh):bB:=(jm (xz (e9 0 0)<|qo 1)
 (jm (vi<|dH I E3<|qm (jt p1<|dI<|qg 1)<|dI<|vB "the knots are not sound, or all of them are gone")
 (jm (vi<|dH I E3<|qm (jt p2<|qm (jt p3<|dI<|qg 1) ji)<|dI<|vB "a place is a part of two knots")
 (jm (vi<|dH I E3<|qm (jt p4<|eG (qg 1)<|e9 0 1)<|dI<|vB "the links do not link each leaf once, in rising order")
 (jm (vi<|dH I E3<|qm (jt p5<|eG (qg 1)<|e9 0 2)<|dI<|vB "the cuts are not of two free turned sides each, in rising order")
 (eL<|yC<|.bl true))))))
structure nL(wd:List<|WD):Prop where
 ok:oP wd
 pu:bN wd
def nv(wd:List<|WD)(m:Nat):Bool:=cL<|wd[m]?.getD none
def o6(wd:List<|WD)(p:Nat):Bool:=((zp<|wd[p]?.getD none).map<|nv wd).all id
def nL.lt(S:nL wd){p m:Nat}{k:WD}(h:wd[p]?=some k)(I:m∈zp k):m<p:=by
 cases k with
 |none=>cases I
 |some k=>
  cases k with
  |lf t n=>cases I
  |nd e i j=>
   obtain⟨a,b⟩:=S.ok p e i j h;have I:m∈[i,j]:=I;rcases As.mp I with rfl|I
   ·exact a
   ·rw[Ao.mp I];exact b
theorem nL.nd(S:nL wd){p:Nat}{k:WD}(h:wd[p]?=some k):(zp k).Nodup:=by
 cases k with
 |none=>exact B6
 |some k=>
  cases k with
  |lf t n=>exact B6
  |nd e i j=>
   have:=S.pu.ne p e i j h;show [i,j].Nodup;simp[this]
inductive fW(ys:List Y)(L:qk)(Q:YK):Prop
 |mk:∀a,∀wd:List (WD),∀p:Nat,∀pi:Int,(ys=[.ref a,.int pi])->(pi=(p:Int))->(L a=some (.lst<|jw wd))->(p<wd.length)->(nL wd)->(Q (.bl<|o6 wd p) L)->fW ys L Q
def zX:∀ys L Q,fW ys L Q->xi (kF eh dJ).1 4 ys L Q:=by
 rintro ys L Q ⟨a,I,p,pi,rfl,rfl,t,hp,S,q⟩;have J:I[p]?=some I[p]:=Ag hp;have C:o6 I p=((zp I[p]).map<|nv I).all id:=by unfold o6;rw[J];rfl
 rw[C] at q;clear C;generalize I[p]=k at J q;refine qa t<|qf (jp J) ⟨k,rfl,λj h1=>?_⟩;have l:=By (o:=.lst<|nY<|zp k) h1;have pl:=Ta k;refine x4 q9 λkeep kp=>aj (λi U=>U=(((zp k).take i).map<|nv I).map Y.bl) (by rw[aq];exact Bu pl (by decide)) (kp _ rfl) rfl ?_ ?_
 ·rintro i y U hy rfl;obtain⟨m,em,rfl⟩:=JP hy;have h2:=S.lt J<|AC em;have h3:I[m]?=some I[m]:=Ag (by lia);have e:nv I m=cL I[m]:=by unfold nv;rw[h3];rfl
  generalize I[m]=g at h3 e;refine aM (Aw<|Int.ofNat_lt.mpr h2)<|qa (l _ _ t)<|qf (jp h3) ?_;have z:i0 (λU L'=>L'=qi L j (.lst<|nY<|zp k)/\U=(((zp k).take<|i+1).map<|nv I).map Y.bl) ((((zp k).take i).map<|nv I).map Y.bl++[.bl<|cL g]) (qi L j<|.lst<|nY<|zp k):=⟨_,ER _,rfl,by rw[Bm,em,Ax,Ax,<-e];rfl⟩;cases g with|none=>exact z|some g=>cases g<;>exact z
 rintro U rfl p2 h2;rw[aq,Bj];have r:=By (o:=.lst<|((zp k).map<|nv I).map Y.bl) h2;refine⟨rfl,qa q9<|qf (fG _) ?_⟩;cases T:((zp k).map<|nv I).all id with
 |false=>
  rw[T] at q;exact eY (l.trans r) q
 |true=>
  rw[T] at q;exact⟨j,zp k,rfl,r _ _ q9,by lia,S.nd J,eY (l.trans r) q⟩
def oj(wd:List<|WD):Bool:=((List.range wd.length).map<|o6 wd).all id&&(wd.map cL).any id
inductive aa(ys:List Y)(L:qk)(Q:YK):Prop
 |mk:∀a,∀wd:List (WD),(ys=[.ref a])->(L a=some (.lst<|jw wd))->(wd.length<=1000)->(nL wd)->(Q (.bl<|oj wd) L)->aa ys L Q
def sw:∀ys L Q,aa ys L Q->xi (kD fW).1 2 ys L Q:=by
 rintro ys L Q ⟨a,I,rfl,g,hz,S,q⟩;have big:=a_;refine qa g ⟨⟨AV _,by rw[jg];lia⟩,?_⟩;rw[jg,Cw];refine wT (λi J=>J=((List.range i).map<|o6 I).map Y.bl) (big _ (by lia)) rfl ?_ ?_
 ·rintro i J r rfl;exact⟨a,I,i,_,rfl,Int.zero_add _,g,r,S,_,ER _,rfl,by rw[EI,Ax,Ax];rfl⟩
 rintro J rfl t h1;have U:=By (o:=.lst<|((List.range I.length).map<|o6 I).map Y.bl) h1;refine⟨rfl,qa q9<|qf (fG _) ?_⟩;unfold oj at q;generalize qi L t (.lst<|((List.range I.length).map<|o6 I).map Y.bl)=j at U ⊢;cases l:((List.range I.length).map<|o6 I).all id with
 |false=>
  rw[l] at q;exact eY U q
 |true=>
  rw[l,Bool.true_and] at q;refine x4 (U _ _ g) λkeep C=>aj (λi J=>J=((I.take i).map cL).map Y.bl) (by rw[jg];exact big _ (by lia)) (C _ rfl) rfl ?_ ?_
  ·rintro i y J p rfl;rw[Al] at p;obtain⟨k,T,rfl⟩:=Aq.mp p;have z:i0 (λJ L'=>L'=j/\J=((I.take<|i+1).map cL).map Y.bl) (((I.take i).map cL).map Y.bl++[.bl<|cL k]) j:=⟨_,ER _,rfl,by rw[Bm,T,Ax,Ax];rfl⟩;cases k with
   |none=>exact z
   |some k=>cases k<;>exact z
  rintro J rfl p2 h2;rw[jg,Bj];have s2:=By (o:=.lst<|(I.map cL).map Y.bl) h2;exact⟨rfl,qa q9<|qf (fG _)<|eY (U.trans s2) q⟩
def vU(wd:List<|WD)(c:Wq):Prop:=c.1<c.2/\∃t n,wd[c.1]?=some (some<|.lf t n)/\wd[c.2]?=some (some<|.lf (!t) n)
def om(wd:List<|WD)(c:Int×Int):Prop:=∃d,c=xc d/\vU wd d
def om.nat{p r:Nat}(h:om wd ((p:Int),(r:Int))):vU wd (p,r):=by obtain⟨d,e,h⟩:=h;rw[fV (p:=(p,r)) e];exact h
inductive ff(ys:List Y)(L:qk)(Q:YK):Prop
 |mk:∀a,∀wd:List (WD),∀c:Int×Int,(ys=[.ref a,.int c.1,.int c.2])->(L a=some (.lst<|jw wd))->(∀b:Bool,(b=true↔om wd c)->Q (.bl b) L)->ff ys L Q
def jI{A:Prop}(h:¬A):false=true↔A:=⟨nofun,λx=>(h x).elim⟩
def U3:∀ys L Q,ff ys L Q->xi (tF (aK 120) fH).1 3 ys L Q:=by
 rintro ys L Q ⟨a,I,⟨c1,J⟩,rfl,o,q⟩;cases c1 with
 |negSucc n=>exact xt (q false (jI λ⟨d,e,_⟩=>by have:Int.negSucc n=(d.1:Int):=Bk Prod.fst e;lia))
 |ofNat p=>
  refine gJ (b:=decide<|(p:Int)<J) (λh1=>?_) λh1=>xt<|q false<|jI λh0=>?_
  ·have h1:=of_decide_eq_true h1;refine qa o<|gJ (b:=!decide (J<((jw I).length:Int))) (λh2=>xt<|q false<|jI λh0=>?_) λh2=>?_
   ·obtain⟨d,e,_,t,n,_,U⟩:=h0;have e:J=(d.2:Int):=Bk Prod.snd e;have:=zd U;rw[jg,Aw (by lia)] at h2;cases h2
   ·have h2:J<((jw I).length:Int):=by
     rcases Decidable.em (J<((jw I).length:Int)) with h|h
     ·exact h
     ·rw[Au h] at h2;cases h2
    rw[jg] at h2;obtain⟨r,rfl⟩:=Int.eq_ofNat_of_zero_le (a:=J) (by lia);have g:I[p]?=some I[p]:=Ag (by lia);have l:I[r]?=some I[r]:=Ag (by lia);generalize I[p]=k at g;generalize I[r]=C at l;refine qa o<|qf (jp g) ⟨k,rfl,?_⟩;have no:(∀t n,k=some (.lf t n)->C≠some (.lf (!t) n))->a7 Q (.bl false) L:=λh=>xt (q false (jI λz=>by obtain⟨_,t,n,T,U⟩:=om.nat z;exact h t n (AZ<|g.symm.trans T)<|AZ<|l.symm.trans U))
    cases k with
    |none=>exact no nofun
    |some k=>
     cases k with
     |nd e i j=>exact no nofun
     |lf t n=>
      refine qa o<|qf (jp l)<|qa o<|qf (jp g) ⟨.leaf t n,rfl,(show 1<=120 by decide),?_⟩;cases C with
      |none=>exact .inl ⟨rfl,⟨_,rfl⟩,no nofun⟩
      |some C=>
       cases C with
       |nd e i j=>
        refine .inr ⟨rfl,rfl,1,1,_,_,by decide,w4<|.cons (E7 _)<|.cons (EX _)<|.cons (EX _) .nil,w4<|.cons (E7 _)<|.cons (E7 _) .nil,?_⟩;show a7 Q (.bl<|_&&(_&&false)) L;rw[Cp,Cp];exact no nofun
       |lf u m=>
        refine .inr<|mC (u:=.leaf u m) (v:=.leaf (!t) n) (show 1<=128 by decide) ?_;show a7 Q (.bl<|Da.eq _ _) L;refine xt<|q _ ?_;rw[yn,AS,decide_eq_true_eq,decide_eq_true_eq];constructor
        ·rintro⟨rfl,rfl⟩;exact⟨(p,r),rfl,Int.ofNat_lt.mp h1,t,m,g,l⟩
        ·intro z;obtain⟨_,t',n',T,U⟩:=om.nat z;cases g.symm.trans T;cases l.symm.trans U;exact⟨rfl,rfl⟩
  ·obtain⟨d,e,z,_⟩:=h0;have T:(p:Int)=(d.1:Int):=Bk Prod.fst e;have U:J=(d.2:Int):=Bk Prod.snd e;exact of_decide_eq_false h1 (by lia)
def av(wd:List<|WD)(cs:List<|Int×Int):Prop:=∃lk:Wf,cs=lk.map xc/\(∀c∈lk,vU wd c)/\(za lk).Perm (qH vZ wd wd.length)/\lk.Pairwise aG
def av.all{cs:List<|Int×Int}(h:av wd cs):∀c∈cs,om wd c:=by obtain⟨lk,rfl,h,_⟩:=h;intro c I;obtain⟨d,hd,rfl⟩:=Bg.mp I;exact⟨d,rfl,h d hd⟩
theorem sV{wd:List<|WD}:∀{cs:List<|Int×Int},(∀c∈cs,om wd c)->∃lk:Wf,cs=lk.map xc/\∀c∈lk,vU wd c
 |[],_=>⟨[],rfl,nofun⟩
 |c::r,h=>by obtain⟨d,rfl,hd⟩:=h c (by simp);obtain⟨lk,rfl,J⟩:=sV (cs:=r) λx I=>h x<|Ai _ I;exact⟨d::lk,rfl,λx I=>by rcases As.mp I with rfl|I;exact hd;exact J x I⟩
def jJ(h:l.map xc=m.map xc):l=m:=(List.map_inj_right λ_ _=>fV).mp h
theorem uJ:∀l m:Wf,Da.eqs (l.map bU) (m.map bU)=decide (l=m)
 |[],[]=>rfl
 |[],_::_=>rfl
 |_::_,[]=>rfl
 |x::r,y::t=>by rw[AA,AA,Da.eqs,db,uJ r t,<-Bool.decide_and];exact Eo.mpr<|List.cons.injEq ..▸Iff.rfl
def U4(h:l.Perm m)(I:l.Pairwise aG)(J:m.Pairwise aG):l=m:=
 C8 (le:=aG) (λa b _ _ h1 h2=>by unfold aG at h1 h2;exact DR (by lia) (by lia)) I J h
def U5{l m:Wi}(h:(l.map λn:Nat=>(n:Int))=m.map λn:Nat=>(n:Int)):l=m:=(List.map_inj_right λ_ _=>B9.mp).mp h
def U6{l m:Wi}{ms:Wm}(pm:ms.Perm (l.map λn:Nat=>(n:Int)))(I:ms.Pairwise λa b:Int=>a<=b)(J:m.Pairwise λa b=>a<b)(h:l.Perm m):ms=m.map λn:Nat=>(n:Int):=
 C8 (le:=λa b:Int=>a<=b) (λa b _ _ h1 h2=>Int.le_antisymm h1 h2) I (BO.mpr<|J.imp λh=>Int.ofNat_le.mpr<|Bi h) (pm.trans<|h.map _)
inductive aZ(ys:List Y)(L:qk)(Q:YK):Prop
 |mk:∀a l,∀wd:List (WD),∀cs:List (Int×Int),(ys=[.ref a,.ref l])->(L a=some (.lst<|jw wd))->(L l=some (.lst<|cs.map rg))->(wd.length<=1000)->(cs.length<=63)->(∀b:Bool,(b=true↔av wd cs)->Q (.bl b) L)->aZ ys L Q
def uQ:∀ys L Q,aZ ys L Q->xi (lC ff fH gw).1 4 ys L Q:=by
 rintro ys L Q ⟨a,l,I,cs,rfl,ha,U,z1,z2,q⟩;have big:=a_;refine x4 U λkeep C=>aj (λi p=>∃bs:List Bool,p=bs.map Y.bl/\(bs.all id=true↔∀c∈cs.take i,om I c)) (by rw[Ae];exact big _ (by lia)) (C _ rfl) ⟨[],rfl,λ_=>nofun,λ_=>rfl⟩ ?_ ?_
 ·rintro i y p hy ⟨bs,rfl,g⟩;rw[Al] at hy;obtain⟨c,ec,rfl⟩:=Aq.mp hy;refine⟨a,I,c,rfl,ha,λb eb=>⟨_,ER _,rfl,bs++[b],by rw[Ax];rfl,?_⟩⟩;rw[List.all_append,AS,g,Bm,ec];constructor
  ·rintro⟨h1,h2⟩ x J;rcases Ak.mp J with J|J
   ·exact h1 x J
   ·rw[Ao.mp J];rw[C7,AS] at h2;exact eb.mp h2.1
  ·intro h;refine⟨λx J=>h x<|Am _ J,?_⟩;rw[C7,AS];exact⟨eb.mpr<|h c<|Ah _ Ar,rfl⟩
 rintro p ⟨bs,rfl,g⟩ p1 h1;rw[Ae,Bj] at g;have T:=By (o:=.lst<|bs.map Y.bl) h1;refine⟨rfl,qa q9<|qf (fG _) ?_⟩;generalize qi L p1 (.lst<|bs.map Y.bl)=L1 at T ⊢;refine x4 (T _ _ ha) λkeep C=>S8 (f:=vZ) (by lia) (C _ rfl) (λi k R p ek h1 h2=>⟨k,rfl,gJ h1 h2⟩) λp2 h2=>?_;refine IA h2 λL2 j g2=>?_;have j:=T.trans j;refine gJ (b:=bs.all id) (λe=>?_) λe=>eY j (q false (jI λh=>by rw[g.mpr h.all] at e;cases e));obtain⟨lk,rfl,hA⟩:=sV<|g.mp e;rw[<-vt] at U;rw[Ae] at z2;have pl:=jr lk;refine⟨l,lk,rfl,j _ _ U,by lia,λp3 h3=>?_⟩;have s3:=j.trans<|By (o:=.lst<|nY<|za lk) h3;refine qj q9 ⟨_,rc<|za lk,by rw[Ae];lia,λD ms hD pm pw=>?_⟩;obtain⟨ns,pn,rfl⟩:=i6 (λn:Nat=>(n:Int)) pm rfl;have s4:=By (o:=.lst<|(ns.map λn:Nat=>(n:Int)).map Y.int) hD;have g4:=s4 _ _<|By (o:=.lst<|nY<|za lk) h3 _ _ g2;have r:=s3.trans s4;rw[rc<|qH vZ I I.length] at g4;refine⟨rfl,rfl,1,1,_,_,by decide,we q9<|i8 _,we g4<|i8 _,?_⟩;have wn:(qH vZ I I.length).Nodup:=by unfold qH;exact B5.filter _
 refine gJ (λe=>?_) λe=>eY r<|q false<|jI λ⟨a1,e',_,h',_⟩=>?_
 ·have e:Da.eqs _ _=true:=e;rw[BK,BK] at e;have e:=(iS _ _).mp e;subst e;have nd:lk.Nodup:=jl<|pn.nodup_iff.mp wn;show am [.ref l] _ λy L'=>b_ false (.ref l) y L'<|a7 Q;refine m5 (r _ _ U) (λc hc=>by obtain⟨_,t,n,_,e⟩:=hA c hc;have:=zd e;lia) nd (by lia) λD' qs a2 pq wq=>?_;have s6:=By (o:=.lst<|qr qs) a2;refine bR (n:=1) (m:=1) (by decide) (s6 _ _<|r _ _ U) q9 (aY lk) (aY qs) ?_;show a7 Q (.bl<|Da.eqs _ _) _;rw[uJ];refine eY (r.trans s6)<|q _ ?_;rw[decide_eq_true_eq];constructor
  ·rintro rfl;exact⟨lk,rfl,hA,pn.symm,wq⟩
  ·rintro⟨a1,e',_,_,w'⟩;cases jJ e';exact U4 pq.symm w' wq
 ·cases jJ e';have e:Da.eqs _ _=false:=e;rw[BK,BK] at e;exact AG<|e.symm.trans<|(iS _ _).mpr<|U5<|U6 pm pw (UQ vZ I I.length) h'
inductive a9(C:Addr)(ys:List Y)(L:qk)(Q:YK)(E:Addr->qk->Prop):Prop
 |mk:∀b z,(ys=[.bl b,.str z])->((b=true->Q .non L))->((b=false->E C L))->a9 C ys L Q E
def sh :∀ys L Q E,a9 C ys L Q E->xi (mS C<|Fq E) 2 ys L Q:=by
 rintro ys L Q E ⟨b,z,rfl,h1,h2⟩;cases b with
 |true=>exact xt<|h1 rfl
 |false=>exact⟨Ct rfl,L,ER L,h2 rfl⟩
inductive cg(C:Addr)(ys:List Y)(L:qk)(Q:YK)(E:Addr->qk->Prop):Prop
 |mk:∀a l c,∀wd:List (WD),∀cs:List (Int×Int),∀ct:Wf,(ys=[gH a l c])->(L a=some (.lst<|jw wd))->(L l=some (.lst<|cs.map rg))->(L c=some (.lst<|qr ct))->(nL wd)->(wd.length<=450)->(cs.length<=63)->(((oj wd=true/\(∃lk,cs=lk.map xc/\tw wd lk ct)/\Q (.bl true) L)\/((oj wd=true->¬av wd cs)/\E C L)))->cg C ys L Q E
def tw.lkOk(S:tw wd lk ct):av wd (lk.map xc):=by
 refine⟨lk,rfl,S.lkA,?_,S.lkS⟩;have J:(qH vZ wd wd.length).Nodup:=by unfold qH;exact B5.filter _
 refine(Bc S.lkN J).mpr λx=>?_;rw[S.lkL x];constructor
 ·rintro⟨t,n,e⟩;exact JZ e rfl<|zd e
 ·intro h;obtain⟨_,k,e,I⟩:=S6 h;cases k with
  |none=>cases I
  |some k=>
   cases k with|lf t n=>exact⟨t,n,e⟩|nd b i j=>cases I
def U7 :∀ys L Q E,cg C ys L Q E->xi (uL (Fq E) (a9 C) aa dJ f9 aZ eS) 2 ys L Q:=by
 rintro ys L Q E ⟨a,l,c,I,j,p,rfl,U,r,t,S,z1,T,h⟩;have pl:=ph I;refine⟨a,I,rfl,U,by lia,S,⟨_,_,rfl,λe=>?_,λe=>?_⟩⟩
 ·refine⟨a,I,rfl,U,by lia,λp1 h1=>?_⟩;have J:=By (o:=.lst<|nY<|ke I) h1;refine⟨p1,ke I,rfl,q9,by lia,S.pu.nodup,⟨_,_,rfl,λ_=>?_,nofun⟩⟩;refine⟨a,l,I,j,rfl,J _ _ U,J _ _ r,by lia,T,λb g=>⟨_,_,rfl,λeb=>?_,λeb=>?_⟩⟩
  ·subst eb;rcases h with⟨_,⟨lk,rfl,S⟩,q⟩|⟨no,_⟩
   ·exact⟨a,c,I,lk,p,rfl,J _ _ U,J _ _ t,S,⟨_,_,rfl,λ_=>eY J q,nofun⟩⟩
   ·exact(no e<|g.mp rfl).elim
  ·subst eb;rcases h with⟨_,⟨lk,rfl,S⟩,q⟩|⟨_,q⟩
   ·exact absurd (g.mpr S.lkOk) (by decide)
   ·exact⟨L,J,q⟩
 ·rcases h with⟨h,_⟩|⟨_,q⟩
  ·rw[h] at e;cases e
  ·exact⟨L,ER _,q⟩
def eX:RD "_law_matched" fE 0 ["_law_knots","_law_links","_law_at","_law_p","_law_q","_law_r","_law_s","_law_rest"] (λ_=>True):=⟨_,λV B c _ _ _ _ _ _ _ J hN I=>(qb (zj (E_ I (L_ B.ba<|qv 1) qd) (qe<|qu<|zk v5) ze)<|qb (aU (I_ (qv 1)<|qv 2)<|vz (n:=2) rfl<|qx (G_ 3 hN)<|qx (G_ 4 hN) xh)<|qb (aU (I_ (qv 1)<|ql wy (qv 2) qd)<|vz (n:=2) rfl<|qx (G_ 5 hN)<|qx (G_ 6 hN) xh)<|qb (cV ["_law_x"] (i:=7) hN rfl (Or.inl rfl) (EV (by rfl)) rfl (xj<|qv 1) (m6 8) (λ_ _ _ _=>dZ<|kj<|wv (N_ I (qv 8)<|I_ (qv 1)<|qv 2)<|vn<|N_ I (qv 8)<|I_ (qv 1)<|ql wy (qv 2) qd) λ_ _ _ _=>(qv 8))<|v9 (zj (N_ I (kh (cf _ _ _ I) (I_ (I_ (qv 0)<|qv 3) qd) (I_ (I_ (qv 0)<|qv 5) qd)<|jf _)<|kh (cf _ _ _ I) (I_ (I_ (qv 0)<|qv 3) qd) (I_ (I_ (qv 0)<|qv 5) qd)<|jf _) (qe<|vW (i:=5) (j:=6) rfl hN rfl rfl (by decide) rfl rfl (xx (qv 6)<|qv 5) rfl) ze)<|qe<|qu<|zm bA rfl B.bg vv<|jn<|ql js (qv 7)<|zk<|xx (zb<|xx (zm qA rfl B.bp i7<|xx (qv 3)<|qv 5)<|zm pK rfl B.bj iz<|xx (qv 3)<|qv 5)<|zb<|xx (zm qA rfl B.bp i7<|xx (qv 4)<|qv 6)<|zm pK rfl B.bj iz<|xx (qv 4)<|qv 6)⟩
def yQ{k:Nat}(I:k<n)(J:1<n):∃j,sO n ((k:Int)-1)=some j/\j<n/\j≠k:=by
 unfold sO;by_cases h:k=0
 ·subst h;exact⟨n-1,by rw[AB (by decide),AD (by lia)];exact Bk some (by lia),by lia,by lia⟩
 ·exact⟨k-1,by rw[AD (by lia),AD (by lia)];exact Bk some (by lia),by lia,by lia⟩
def J5{xs:List α}{i:Int}{x:α}(h:sO xs.length i=some j)(e:xs[j]?=some x):eI xs i=some x:=by unfold eI;rw[h];exact e
def vU.of_mm{a b:Nat}(h:vU wd<|bu a b):∃t n,wd[a]?=some (some<|.lf t n)/\wd[b]?=some (some<|.lf (!t) n):=by
 obtain⟨_,t,n,h1,h2⟩:=h;unfold bu at h1 h2;by_cases c:a<=b
 ·rw[BY c] at h1;rw[Cn c] at h2;exact⟨t,n,h1,h2⟩
 ·rw[C2 (by lia)] at h1;rw[Cu (by lia)] at h2;exact⟨!t,n,h2,by rw[EC];exact h1⟩
def av.nat(h:av wd<|lk.map xc):(∀c∈lk,vU wd c)/\(za lk).Perm (qH vZ wd wd.length)/\lk.Pairwise aG:=by obtain⟨I,e,h⟩:=h;cases jJ e;exact h
def av.len{I:We}(h:av wd<|lk.map xc)(h':av wd<|I.map xc):lk.length=I.length:=by have e:=(h.nat.2.1.trans h'.nat.2.1.symm).length_eq;rw[jr,jr] at e;lia
def U8{x y:Wq}(hN:(za lk).Nodup)(I:x∈lk)(J:y∈lk)(ne:x≠y){r s:Nat}(h:r=y.1/\s=y.2\/r=y.2/\s=y.1):(za<|(lk.filter λz=>decide (z≠x)&&decide (z≠y))++[bu x.1 r,bu x.2 s]).Perm (za lk):=by
 have pm:=x6<|yo (jl hN) I J ne;rw[j8,j8] at pm;rw[jq,j8,ku];refine Bd.trans<|List.Perm.trans ?_ pm.symm;refine(ln x.1 r _).trans ((((ln x.2 s _).cons _).cons _).trans<|List.Perm.cons _<|(List.Perm.swap ..).trans<|List.Perm.cons _ ?_);rcases h with⟨rfl,rfl⟩|⟨rfl,rfl⟩
 ·exact .refl _
 ·exact .swap ..
inductive aS(ys:List Y)(L:qk)(Q:YK):Prop
 |mk:∀a l,∀wd:List (WD),∀lk ct:Wf,∀k:Nat,∀ki:Int,(ys=[.ref a,.ref l,.int ki])->(ki=(k:Int))->(L a=some (.lst<|jw wd))->(L l=some (.lst<|qr lk))->(tw wd lk ct)->(k<lk.length)->(∀D cs L',qh L L'->L' D=some (.lst<|qr cs)->cs.length<=lk.length->¬av wd (cs.map xc)->Q (.ref D) L')->aS ys L Q
def xN:∀ys L Q,aS ys L Q->xi eX.1 8 ys L Q:=by
 rintro ys L Q ⟨a,l,wd,lk,ct,k,ki,rfl,rfl,ha,C,S,hk,q⟩;have z2:=S.ll;have pl:(qr lk).length=lk.length:=Ae ..;refine qa C<|gJ (b:=decide<|((qr lk).length:Int)=1) (λh=>?_) λh=>?_
 ·intro p hp;exact xt (q p [] _ (By hp) q9 (A1 _) λz=>by have:=z.len S.lkOk;simp at this;lia)
 have h1:1<lk.length:=by have:=of_decide_eq_false h;rw[pl] at this;lia
 obtain⟨j,ej,hj,nj⟩:=yQ hk h1;have ex:lk[k]?=some lk[k]:=Ag hk;have ey:lk[j]?=some lk[j]:=Ag hj;have ne:lk[k]≠lk[j]:=λe=>nj ((DF<|jl S.lkN).mp e).symm;generalize lk[k]=x at ex ne;generalize lk[j]=y at ey ne;have mx:=AC ex;have my:=AC ey;obtain⟨lx,t,n,x1,x2⟩:=S.lkA x mx;obtain⟨ly,u,m,y1,y2⟩:=S.lkA y my;have ax:eI (qr lk) (k:Int)=some (gu x):=x5<|bP ex;have ay:eI (qr lk) ((k:Int)-1)=some (gu y):=J5 (by rw[pl];exact ej)<|bP ey;refine qa C<|qf ax<|qa C<|qf ay ?_;refine x4 C λkeep kp=>rC (f:=λz=>decide (z≠x)&&decide (z≠y)) (by lia) (kp _ rfl) (λi g R zs ep hy T=>?_) λp hp=>?_
 ·refine qa C<|qf ax ⟨rfl,rfl,1,1,bU g,bU x,by decide,cH g,cH x,?_⟩;rw[db];by_cases c:g=x
  ·refine aC (by rw[Aw c];rfl) (T (by rw[Au (by simpa using c)];rfl))
  ·refine aM (by rw[Au c];rfl) ?_;refine qa C<|qf ay ⟨rfl,rfl,1,1,bU g,bU y,by decide,cH g,cH y,?_⟩;rw[db];by_cases c2:g=y
   ·refine aC (by rw[Aw c2];rfl)<|T (by rw[Au (by simpa using c2:¬g≠y),Cp])
   ·refine aM (by rw[Au c2];rfl) (hy (by rw[Aw c,Aw c2];rfl))
 have s1:=By (o:=.lst<|qr<|lk.filter λz=>decide (z≠x)&&decide (z≠y)) hp;have key:∀r s:Nat,(r=y.1/\s=y.2\/r=y.2/\s=y.1)->(∀J U,wd[x.1]?=some (some<|.lf J U)->wd[r]?≠some (some<|.lf (!J) U))->∀p2,qi L p (.lst<|qr<|lk.filter λz=>decide (z≠x)&&decide (z≠y)) p2=none->
  fi (.ref p) (.ref p2) (qi (qi L p<|.lst<|qr<|lk.filter λz=>decide (z≠x)&&decide (z≠y)) p2<|.lst [Y.tup [.int<|min (x.1:Int) (r:Int),.int<|max (x.1:Int) (r:Int)],Y.tup [.int<|min (x.2:Int) (s:Int),.int<|max (x.2:Int) (s:Int)]]) λy L'=>am [y] L' (a7 Q):=λr s h no=>by
  have pp:=U8 S.lkN mx my ne h;have a1:=pp.length_eq;rw[jr,jr] at a1;refine yh q9 (AM (CQ ..) (by lia)) (jl<|pp.nodup_iff.mpr S.lkN) (λc hc=>?_) λL' Dd qs sl hD pm pw=>?_
  ·obtain⟨_,_,e⟩:=(S.lkL c.2).mp<|pp.mem_iff.mp (kq hc).2;have:=zd e;have:=S.web.len;lia
  ·refine xt (q Dd qs _ ((s1.trans sl).trans<|By hD) q9 (by rw[pm.length_eq];lia) λz=>?_);obtain⟨J,U,e1,e2⟩:=(z.nat.1 _<|pm.mem_iff.mpr<|Ah _ Ar).of_mm;exact no J U e1 e2
 have I:=s1 _ _ ha;generalize qi L p (.lst<|qr<|lk.filter λz=>decide (z≠x)&&decide (z≠y))=L1 at I key ⊢;refine⟨λa2 L'=>L'=L1/\∃r s:Nat,a2=[some<|.ref a,some<|.ref l,some<|.int (k:Int),some<|.int (x.1:Int),some<|.int (x.2:Int),some<|.int (r:Int),some<|.int (s:Int),some<|.ref p]/\(r=y.1/\s=y.2\/r=y.2/\s=y.1)/\∀J U,wd[x.1]?=some (some<|.lf J U)->wd[r]?≠some (some<|.lf (!J) U),?_,?_⟩
 ·refine qa I<|qf (jp x1)<|qa I<|qf (jp y1)<|qa I<|qf (jp x1)<|qa I<|qf (jp y1) ?_;refine gJ (b:=!decide (decide (n=m)=decide (kL t=kL u))) (λh=>?_) λh=>?_
  ·refine⟨rfl,y.2,y.1,rfl,.inr ⟨rfl,rfl⟩,λJ U e1 e2=>?_⟩;cases x1.symm.trans e1;have e:u=t/\m=n:=by simpa using y2.symm.trans e2
   obtain⟨rfl,rfl⟩:=e;rw[Aw rfl,Aw rfl] at h;cases h
  ·refine⟨rfl,y.1,y.2,rfl,.inl ⟨rfl,rfl⟩,λJ U e1 e2=>?_⟩;cases x1.symm.trans e1;cases y1.symm.trans e2;rw[Aw (rfl:n=n)] at h;revert h;cases t<;>decide
 ·rintro a2 L' ⟨rfl,r,s,rfl,h,no⟩;exact key r s h no
def U9(I:vh):bB:=(nQ (aR (yB<|xu Fm (qg 1)<|k8 4) (uR (qg 5) (qg 7)<|xu hU (qg 11)<|qg 1)<|aR (oO (qg 1)<|k8 4) (vi<|iQ mK (qg 5)<|dI<|qg 7)<|aR (oO (qg 1)<|k8 5) (vi<|iQ lW (qg 5)<|qm (qg 7)<|qm (xu hU (qg 5)<|xu eF (qg 3)<|rD 5) ji)<|aR (lL (oO (qg 1)<|k8 6)<|yB<|xu IY (rD 5)<|k8 1) (xz (ah<|qm (xu hU (qg 5)<|xu lF (qg 7)<|k8 1)<|qm (xu hU (qg 5)<|qg 7) ji)<|fC 2<|jx (HF (qg 5)<|qg 7)<|jx (HF (qg 5)<|xu lF (qg 7)<|k8 1) cQ)<|xz (jt I<|qm (qg 4)<|eG (qg 5)<|qg 7)<|qo 5)
 (eL<|ah<|qm (qg 4)<|eG (qg 5)<|qg 6))
def fc{a b r:Int}{Q:YK}(h:0<b)(e:a % b=r)(q:Q (.int r) L):eF (.int a) (.int b) L Q:=by subst e;exact⟨h,q⟩
def U_{cs:List<|Int×Int}{k:Nat}{c:Int×Int}(I:k<cs.length)(h:¬om wd c):¬av wd (cs.set k c):=λz=>h<|z.all c<|List.mem_set I c
def yE{I:We}(h:av wd<|lk.map xc)(n:I.length≠lk.length):¬av wd (I.map xc):=λz=>n<|z.len h
def Va{k:Nat}{x y:Wq}(h:lk.Pairwise aG)(ex:lk[k]?=some x)(I:lk[j]?=some y)(ne:x≠y)(J:j≠k):¬((lk.set k y).set j x).Pairwise aG:=λz=>by
 have U:=B3.mp z;have h:=B3.mp h;obtain⟨g,ex⟩:=AI.mp ex;obtain⟨l,I⟩:=AI.mp I;have r:((lk.set k y).set j x).length=lk.length:=by rw[Bs,Bs]
 have o:((lk.set k y).set j x)[j]'(by lia)=x:=by rw[List.getElem_set_self]
 have p:((lk.set k y).set j x)[k]'(by lia)=y:=by rw[List.getElem_set_ne J,List.getElem_set_self]
 apply ne;rcases Nat.lt_or_gt_of_ne J with c|c
 ·have a:=U j k (by lia) (by lia) c;have b:=h j k l g c;rw[o,p] at a;rw[ex,I] at b;unfold aG at a b;exact DR (by lia) (by lia)
 ·have a:=U k j (by lia) (by lia) c;have b:=h k j g l c;rw[o,p] at a;rw[ex,I] at b;unfold aG at a b;exact DR (by lia) (by lia)
def Vb{k:Nat}{x y:Wq}(h:lk.Pairwise aG)(ex:lk[k]?=some x)(I:lk[j]?=some y)(ne:x≠y)(J:j≠k):¬av wd (((lk.set k y).set j x).map xc):=λz=>Va h ex I ne J z.nat.2.2
def Vc(lk:We)(k:Nat)(c:Int×Int):(qr lk).set k (rg c)=((lk.map xc).set k c).map rg:=by rw[ED,<-vt]
def Vd(lk:We)(k:Nat):(qr lk).eraseIdx k=qr (lk.eraseIdx k):=by unfold qr;rw[DB,DB,Ax,List.map_take,List.map_drop]
def Ve(lk:We)(k:Nat)(y:Wq):(qr lk).take k++gu y::(qr lk).drop k=qr (lk.take k++y::lk.drop k):=by unfold qr;rw[Ax,AA,List.map_take,List.map_drop]
def arm(L:qk)(wd:List<|WD)(ct:We)(Q:YK):Prop:=∀I J c' cs L',qh L L'->L' I=some (.lst<|jw wd)->L' J=some (.lst<|cs.map rg)->L' c'=some (.lst<|qr ct)->cs.length<=63->¬av wd cs->Q (gH I J c') L'
def FX(L:qk)(wd:List<|WD)(ct:We)(J c':Addr)(T:Addr->j9)(I:j9)(L':qk):Prop:=∃D cs,I=T D/\qh L L'/\L' J=some (.lst<|jw wd)/\L' D=some (.lst<|cs.map rg)/\L' c'=some (.lst<|qr ct)/\cs.length<=63/\¬av wd cs
def Vf{g:qk}{U I p4:Addr}{C:Option Y}{one two:Int}{w k o:Nat}{x:Wq}(S:tw wd lk ct)(hw:w<8)(ht:0<=two)(ex:lk[k]?=some x)(s:qh L g)(nl:L I=none)(n1:U≠I)(n3:I≠c')(k1:g U=some (.lst<|jw wd))(k2:g I=some (.lst<|qr lk))(k3:g c'=some (.lst<|qr ct))
 (g4:g p4=some (.lst<|[((x.2:Int),(x.1:Int)),((x.1:Int)-((jw wd).length:Int),(x.2:Int)),((x.1:Int),((jw wd).length:Int)+two),((x.1:Int),(o:Int))].map rg)) (ho:o=x.1\/∀t n,wd[o]?≠some (some<|.lf t n)) (q:arm L wd ct En.rt):
 U9 aS En [c0,some<|.int (w:Int),some<|.int one,some<|.int two,some<|.ref U,some<|.ref I,some<|.ref c',some<|.int (k:Int),some<|.int (x.1:Int),some<|.int (x.2:Int),C,some<|.ref p4] g:=by
 have z2:=S.ll;have hk:=zd ex;have l:(qr lk).length=lk.length:=Ae ..;have lx:=(S.lkA x<|AC ex).1;have l1:x.1<wd.length:=by obtain⟨_,t,n,h,_⟩:=S.lkA x<|AC ex;exact zd h
 have ax:eI (qr lk) (k:Int)=some (gu x):=x5<|bP ex;refine⟨FX L wd ct U c' λD=>[c0,some<|.int (w:Int),some<|.int one,some<|.int two,some<|.ref U,some<|.ref D,some<|.ref c',some<|.int (k:Int),some<|.int (x.1:Int),some<|.int (x.2:Int),C,some<|.ref p4],?_,?_⟩
 ·generalize eT:(λD=>[c0,some<|.int (w:Int),some<|.int one,some<|.int two,some<|.ref U,some<|.ref D,some<|.ref c',some<|.int (k:Int),some<|.int (x.1:Int),some<|.int (x.2:Int),C,some<|.ref p4]:Addr->j9)=T;have put:∀p:List (Int×Int),p.length<=63->¬av wd p->∀r,r=p.map rg->FX L wd ct U c' T (T I) (qi g I<|.lst r):=λp hz no r e=>by subst e;exact⟨I,p,rfl,s.upd nl,(qc n1).trans k1,q9,(qc<|AH n3).trans k3,hz,no⟩
  have putN:∀ls:Wf,ls.length<=63->¬av wd (ls.map xc)->∀r,r=qr ls->FX L wd ct U c' T (T I) (qi g I<|.lst r):=λls hz no r e=>put _ (by rw[Ae];exact hz) no r (by rw[e];exact vt ls);have J:∀c,¬om wd c->FX L wd ct U c' T (T I) (qi g I<|.lst<|(qr lk).set k<|rg c):=λc h=>put _ (by rw[Bs,Ae];lia) (U_ (by rw[Ae];exact hk) h) _<|Vc lk k c;have ix:sO (qr lk).length (k:Int)=some k:=by rw[l];exact y8 hk
  have a1:aS [.ref U,.ref I,.int (k:Int)] g λy L'=>FX L wd ct U c' T (ak (T I) 5 y) L':=⟨U,I,wd,lk,ct,k,_,rfl,rfl,k1,k2,S,hk,λD p L' t1 t2 t3 no=>⟨D,p.map xc,by subst eT;rfl,s.trans t1,t1 _ _ k1,by rw[<-vt];exact t2,t1 _ _ k3,by rw[Ae];lia,no⟩⟩;subst eT;rcases (show w=0\/w=1\/w=2\/w=3\/w=4\/w=5\/w=6\/w=7 by lia) with rfl|rfl|rfl|rfl|rfl|rfl|rfl|rfl
  ·exact qa g4 (qf rfl (qj k2 (qf ix (J (_,_) λh=>by have:=h.nat.1;simp only at this;lia))))
  ·exact qa g4 (qf rfl (qj k2 (qf ix (J (_,_) λ⟨d,e,_⟩=>by have e:(x.1:Int)-((jw wd).length:Int)=(d.1:Int):=Bk Prod.fst e;rw[jg] at e;lia))))
  ·exact qa g4 (qf rfl (qj k2 (qf ix (J (_,_) λ⟨d,e,_,_,_,_,e2⟩=>by have e:((jw wd).length:Int)+two=(d.2:Int):=Bk Prod.snd e;rw[jg] at e;have:=zd e2;lia))))
  ·refine qa g4<|qf rfl<|qj k2<|qf ix<|J (_,_) λh=>?_;obtain⟨lt,t',n',_,e2⟩:=h.nat;rcases ho with ho|ho
   ·subst ho;exact B8 _ lt
   ·exact ho _ _ e2
  ·refine qj k2 (qj k2 ⟨AV _,by rw[l];lia,qf (bP ex) (putN (lk.eraseIdx k) (by rw[DY hk];lia) (yE S.lkOk (by rw[DY hk];lia)) _<|Vd lk k)⟩)
  ·obtain⟨j,y,ej,hj,ey⟩:=dX (Bu (A1 _) hk) two;have ll:(lk.take k++y::lk.drop k).length=lk.length+1:=by simp;lia
   refine qj k2 (qa k2 ⟨by rw[l];lia,qa k2 (qf (by rw[l,ej];exact x5 (bP ey):eI (qr lk) (two % ((qr lk).length:Int))=some (gu y)) (qj k2 ⟨⟨AV _,by rw[l];lia,by rw[l];lia⟩,putN _ (by rw[ll];lia) (yE S.lkOk (by rw[ll];lia)) _<|Ve lk k y⟩))⟩)
  ·refine qa k2<|zo (λh=>?_) λ_=>?_
   ·have h:(1:Int)<((qr lk).length:Int):=h;rw[l] at h;obtain⟨j,ej,hj,nj⟩:=yQ hk (by lia);have ey:lk[j]?=some lk[j]:=Ag hj;have nx:x≠lk[j]:=λe=>by obtain⟨_,ex⟩:=AI.mp ex;exact nj ((DF<|jl S.lkN).mp<|e.symm.trans ex.symm)
    generalize lk[j]=y at ey nx;refine qa k2 (qf (J5 (by rw[l];exact ej)<|bP ey)<|qa k2<|qf ax ?_);refine qj k2 (qf ix (qj q9 (qf (show sO ((qr lk).set k<|gu y).length ((k:Int)-1)=some j by rw[Bs,l];exact ej) ?_)));rw[vj];exact putN ((lk.set k y).set j x) (by rw[Bs,Bs];lia) (Vb S.lkS ex ey nx nj) _ (by unfold qr;rw[ED,ED])
   ·exact a1
  ·exact a1
 ·rintro a2 L' ⟨D,p,rfl,t1,t2,t3,t4,t5,t6⟩;exact q U D c' p L' t1 t2 t3 t4 t5 t6
def dG(J:vh)(I:vh):RD "_law_bad_links" cZ 1 ["_law_web_here","_law_way","_law_one","_law_two","_law_knots","_law_links","_law_cuts","_law_at","_law_p","_law_q","_law_others","_law_made"] (λV=>Hj V J/\Jt V I):=⟨_,λV B c _ _ _ _ _ _ _ g hN U=>(qb (aU (C_ c.1 g<|jn<|qv 0)<|vz (n:=3) rfl<|qx (gj (i:=4) hN rfl<|Or.inr rfl)<|qx (G_ 5 hN)<|qx (G_ 6 hN) xh)<|qb (S_ 7 hN<|ql j7 (qv 2)<|L_ B.ba<|qv 5)<|qb (aU (I_ (qv 5)<|qv 7)<|vz (n:=2) rfl<|qx (G_ 8 hN)<|qx (G_ 9 hN) xh)<|qb (S_ 10 hN<|ql js (dD ["_law_x"] (EV (by rfl)) rfl (Qb rfl B.bh<|xx (qv 8)<|L_ B.ba<|qv 4) (m6 12) (λ_ _ _ _=>dZ<|kj<|gv (mY<|I_ (qv 4)<|qv 12)<|da<|E_ U (L_ B.ba<|I_ (qv 4)<|qv 12) qd) λ_ _ _ _=>(qv 12))<|zk<|jn<|qv 8)<|qb (S_ 11 hN<|zk<|jo (zb<|xx (qv 9)<|qv 8)<|aT (zb<|xx (ql wy (qv 8)<|L_ B.ba<|qv 4)<|qv 9) (zb<|xx (qv 8)<|ql js (L_ B.ba<|qv 4)<|qv 3)<|zb<|xx (qv 8)<|I_ (qv 10)<|ql j7 (qv 3)<|L_ B.ba<|qv 10)<|v9 (zj (jk gG (qv 1) qd<|jf _) (qe<|iM (qv 5) (qv 7)<|I_ (qv 11)<|qv 1)<|qe<|zj (E_ U (qv 1) qd) (qe<|qy<|bL (qv 5)<|jn<|qv 7)<|qe<|zj (E_ U (qv 1) qd) (qe<|qy<|RN (qv 5)<|xx (qv 7)<|I_ (qv 5)<|ql j7 (qv 3)<|L_ B.ba<|qv 5)<|qe<|zj (kj<|wv (E_ U (qv 1) qd)<|vn<|jk FT (L_ B.ba<|qv 5) qd<|jf _) (qe<|aU (zb<|xx (I_ (qv 5)<|ql wy (qv 7) qd)<|I_ (qv 5)<|qv 7)<|vz (n:=2) rfl<|qx (J2 (qv 5)<|qv 7)<|qx (J2 (qv 5)<|ql wy (qv 7) qd) xh)<|qe<|S_ 5 hN<|C_ c.2 g<|aT (qv 4) (qv 5)<|qv 7)<|qe<|qu<|zb<|aT (qv 4) (qv 5)<|qv 6)⟩
inductive lS(ys:List Y)(L:qk)(Q:YK):Prop
 |mk:∀a l c,∀wd:List (WD),∀lk ct:Wf,∀w:Nat,∀wi one two:Int,(ys=[gH a l c,.int wi,.int one,.int two])->(wi=(w:Int))->(w<8)->(0<=two)->(L a=some (.lst<|jw wd))->(L l=some (.lst<|qr lk))->(L c=some (.lst<|qr ct))->(tw wd lk ct)->(lk≠[])->(arm L wd ct Q)->lS ys L Q
def Vg:∀ys L Q,lS ys L Q->xi (dG fZ aS).1 12 ys L Q:=by
 rintro ys L Q ⟨a,l,c,J,lk,ct,w,wi,one,two,rfl,rfl,hw,ht,ha,hl,hc,S,ne,q⟩;have big:=a_;have z1:=S.web.len;have z2:=S.ll;refine⟨a,l,c,_,_,_,rfl,ha,hl,hc,λa' l' c' T s1 na nl nc n1 n2 n3 h1 h2 h3=>?_⟩;have pl:(qr lk).length=lk.length:=Ae ..;obtain⟨k,x,ek,hk,ex⟩:=dX (CD.mpr ne) one;obtain⟨lx,t,n,x1,x2⟩:=S.lkA x<|AC ex;have l1:=zd x1;have em:one % ((qr lk).length:Int)=(k:Int):=by rw[pl];exact ek
 refine qa h2 (fc (by rw[pl];lia) em ?_);have ax:eI (qr lk) (k:Int)=some (gu x):=x5<|bP ex;refine qa h2<|qf ax ?_;refine qa h1 ⟨⟨by lia,by lia,by lia,by rw[jg];lia⟩,aj (λi j=>∃os:Wi,j=nY os/\os.length<=i/\∀y∈os,∀t n,J[y]?≠some (some<|.lf t n)) (by unfold ww;rw[Ae,BM,jg];exact big _ (by lia)) trivial ⟨[],rfl,An _,nofun⟩ ?_ ?_⟩
 ·rintro i y j I ⟨os,rfl,lo,ho⟩;unfold ww at I;rw[Al] at I;obtain⟨i',ei,rfl⟩:=Aq.mp I;obtain⟨hi,e⟩:=AI.mp ei;rw[List.getElem_range] at e;subst e;rw[BM,jg] at hi;have hi:x.1+i<J.length:=by lia
  have hq:J[x.1+i]?=some J[x.1+i]:=Ag hi;generalize J[x.1+i]=p at hq;have ay:eI (jw J) ((x.1:Int)+(i:Int))=some (cA p):=jp (i:=x.1+i) hq;have yes:(∀t n,p≠some (.lf t n))->i0 (λj L'=>L'=T/\∃os:Wi,j=nY os/\os.length<=i+1/\∀y∈os,∀t n,J[y]?≠some (some<|.lf t n)) (nY os++[.int<|(x.1:Int)+(i:Int)]) T:=λh=>⟨_,ER _,rfl,os++[x.1+i],by rw[bz];rfl,by rw[Ac];exact El lo,λy I t n e=>by
   rcases Ak.mp I with I|I
   ·exact ho y I t n e
   ·rw[Ao.mp I] at e;exact h t n<|AZ<|hq.symm.trans e⟩
  refine qa h1<|qf ay ?_;cases p with
  |none=>exact yes nofun
  |some p=>
   cases p with|nd e i' j'=>exact qa h1 (qf ay<|yes nofun)|lf t' n'=>exact qa h1<|qf ay ⟨_,ER _,rfl,os,rfl,CT lo,ho⟩
 rintro j ⟨os,rfl,lo,ho⟩ p1 a1 p2 r;have lo:os.length<=241:=by unfold ww at lo;rw[Ae,BM,jg] at lo;lia
 refine⟨_,_,By r _ _ q9,q9,by rw[aq];exact Bi (big _ (by show _+1<=_;lia)),λp3 a2=>?_⟩;have s2:=((By (o:=.lst<|nY os) a1).trans<|By (o:=.lst [.int (x.1:Int)]) r).trans<|By (o:=.lst<|nY os++[.int (x.1:Int)]) a2;have g:(qi (qi (qi T p1<|.lst<|nY os) p2<|.lst [.int (x.1:Int)]) p3<|.lst<|nY os++[.int (x.1:Int)]) p3=some (.lst<|nY<|os++[x.1]):=by rw[bz];exact q9
 generalize qi (qi (qi T p1<|.lst<|nY os) p2<|.lst [.int (x.1:Int)]) p3 (.lst<|nY os++[.int (x.1:Int)])=L2 at s2 g ⊢;obtain⟨o,mo,eo⟩:∃o,o∈os++[x.1]/\eI (nY<|os++[x.1]) (two % ((nY<|os++[x.1]).length:Int))=some (.int ((o:Nat):Int)):=lh (by rw[Ac];exact BV _) two;have C:=s2 _ _ h1;refine qa C (qa C (qa g ⟨by rw[aq,Ac];show(0:Int)<((_+1:Nat):Int);lia,qa g<|qf eo ?_⟩));intro p4 a3;refine IA a3 λLc U g4=>?_;have U:=s2.trans U;have k1:=U _ _ h1;have k2:=U _ _ h2;have k3:=U _ _ h3;have s:=s1.trans U;exact Vf S hw ht ex s nl n1 n3 k1 k2 k3 g4 ((Ak.mp mo).elim (λh=>.inr<|ho o h) λh=>.inl<|Ao.mp h) λa' l' c' cs L' t1 t2 t3 t4 t5 t6=>xt<|q a' l' c' cs L' t1 t2 t3 t4 t5 t6
def dm(I:vh)(J:vh):RD "_law_bad_leaf" dq 121 ["_law_web_here","_law_way","_law_one","_law_two","_law_knots","_law_links","_law_cuts","_law_p"] (λV=>Hj V I/\Jl V J):=⟨_,λV B c _ _ _ _ _ _ _ g hN U=>(qb (aU (C_ c.1 g<|jn<|qv 0)<|vz (n:=3) rfl<|qx (G_ 4 hN)<|qx (G_ 5 hN)<|qx (G_ 6 hN) xh)<|qb (S_ 7 hN<|I_ (I_ (qv 5)<|ql j7 (qv 2)<|L_ B.ba<|qv 5)<|ql j7 (qv 3) qd)<|qb (zj (E_ U (qv 1) qd) (qe<|iM (qv 4) (qv 7) gK)<|qe<|zj (E_ U (qv 1) qd) (qe<|iM (qv 4) (qv 7)<|C_ c.2 g<|jn<|I_ (qv 4)<|qv 7)<|qe<|zj (E_ U (qv 1) qd) (qe<|iM (qv 4) (qv 7)<|zb<|xx (I_ (I_ (qv 4)<|qv 7) qd)<|cX (jk gG (L_ B.ba<|I_ (I_ (qv 4)<|qv 7) qd) qd<|jf _) (ql js (I_ (I_ (qv 4)<|qv 7) qd) je)<|cN (uW _ _ _) (I_ (I_ (qv 4)<|qv 7) qd) iA<|dh qd)<|qe<|zj (jk gG (qv 1) qd<|jf _) (qb (qy<|z9 (qv 4)<|jn<|I_ (qv 4)<|qv 7)<|qe<|zj (E_ U (qv 1) qd) (qe<|S_ 5 hN<|zm bA rfl B.bg vv<|jn<|ql js (qv 5)<|zk<|jn<|zb<|xx (I_ (I_ (qv 5)<|ql j7 (qv 2)<|L_ B.ba<|qv 5)<|ql wy qd<|ql j7 (qv 3) qd)<|ql wy (L_ B.ba<|qv 4) qd) ze)<|qe<|qu<|zb<|aT (cN (uW _ _ _) (dD ["_law_knot"] (EV (by rfl)) rfl (xj<|qv 4) (m6 8) (λ_ _ _ _=>cD) λ_ _ _ _=>gK) iA<|dh<|ql qL (ql j7 (ql vk (qv 3) qd) qd) qd) (zk v5)<|zk v5)<|qe<|qu<|zb<|aT (qv 4) (qv 5)<|qv 6)⟩
def Vh(I:vh):bB:=(jm (aR (oO (qg 1)<|k8 0) (uR (qg 4) (qg 7)<|yC .non) (aR (oO (qg 1)<|k8 1) (uR (qg 4) (qg 7)<|jt I<|qm (xu hU (qg 4)<|qg 7) ji) (aR (oO (qg 1)<|k8 2) (uR (qg 4) (qg 7)<|ah<|qm (xu hU (xu hU (qg 4)<|qg 7)<|k8 0)<|qm (FO (yB<|xu Fm (pQ vI<|qm (xu hU (xu hU (qg 4)<|qg 7)<|k8 1) ji)<|k8 8) (xu fi (xu hU (xu hU (qg 4)<|qg 7)<|k8 1)<|vB "q")<|G4 Hb (xu hU (xu hU (qg 4)<|qg 7)<|k8 1) rQ<|G2<|k8 7) ji) (aR (yB<|xu Fm (qg 1)<|k8 5) (jm (vi<|iQ xl (qg 4)<|qm (xu hU (qg 4)<|qg 7) ji)
 (aR (oO (qg 1)<|k8 4) (xz (pQ am<|qm (xu fi (qg 5)<|fh<|qm (ah<|qm (xu hU (xu hU (qg 5)<|xu eF (qg 2)<|rD 5)<|xu lF (k8 1)<|xu eF (qg 3)<|k8 2)<|qm (xu lF (rD 4)<|k8 1) ji) ji) ji)<|qo 5) dE))<|eL<|ah<|qm (G4 Hb (i_ 1 (bw<|qg 4) (qo 8) FQ<|yC .non) rQ<|G2<|xu Ql (xu eF (xu xW (qg 3)<|k8 2)<|k8 2)<|k8 999)<|eG (fh ji)<|fh ji))))
 (eL<|ah<|qm (qg 4)<|eG (qg 5)<|qg 6))
def nL.of{wd':List<|WD}(S:nL wd)(nd:∀{q:Nat} {o:Kn} {x:Nat},wd'[q]?=some (some o)->x∈zp (some o)->wd[q]?=some (some o)):nL wd':=⟨λq e i j I=>S.ok q e i j<|nd (x:=i) I Ar,λq e i j I=>S.pu.ne q e i j<|nd (x:=i) I Ar,λa b g l x h1 h2 J U=>S.pu.un a b g l x (nd h1 J) (nd h2 U) J U⟩
def nL.set(S:nL wd){p:Nat}{k:WD}(h:zp k=[]):nL (wd.set p k):=S.of λ{q o x} e I=>by
 by_cases c:p=q
 ·subst c;rw[Dp] at e;cases J:wd[p]? with
  |none=>rw[J] at e;cases e
  |some z=>
   rw[J] at e;cases e;rw[h] at I;cases I
 ·rw[A5 c] at e;exact e
def nL.snoc(S:nL wd){k:WD}(h:zp k=[]):nL (wd++[k]):=S.of λ{q o x} e I=>by
 by_cases c:q<wd.length
 ·rw[Az c] at e;exact e
 ·rw[AF<|Em c] at e;have:=Ao.mp<|AC e;rw[this,h] at I;cases I
def nL.gone(m:Nat):nL (List.replicate m none):=by
 have nd:∀{q:Nat} {o:Kn},(List.replicate m none)[q]?=some (some o)->False:=λ{q o} e=>by have:=(List.mem_replicate.mp<|AC e).2;cases this
 exact⟨λ_ _ _ _ h=>(nd h).elim,λ_ _ _ _ h=>(nd h).elim,λ_ _ _ _ _ h=>(nd h).elim⟩
def Vi(m:Nat):oj (List.replicate m none)=false:=by
 unfold oj;rw[List.map_replicate];have:(List.replicate m<|cL none).any id=false:=by rw[List.any_eq_false];intro b I;rw[(List.mem_replicate.mp I).2];decide
 rw[this,Cp]
def Vj(S:tw wd lk ct){x:Wq}(U:x∈lk){p:Nat}(j:p=x.1\/p=x.2){n:Str}(e:wd[p]?=some (some<|.lf t n)){k:WD}(h:k≠some (.lf t n)):¬av (wd.set p k) (lk.map xc):=λz=>by
 obtain⟨lt,u,m,I,J⟩:=z.nat.1 x U;obtain⟨_,l,o,f1,f2⟩:=S.lkA x U;have g:(wd.set p k)[p]?=some k:=BJ<|zd e;rcases j with rfl|rfl
 ·rw[g] at I;rw[A5 (by lia),f2] at J;rw[e] at f1;cases I;cases f1;have:t=u/\n=m:=by simpa using J
  exact h (by rw[this.1,this.2])
 ·rw[g] at J;rw[A5 (by lia),f1] at I;rw[e] at f2;cases I;cases f2;cases J;exact h rfl
def Vk(S:tw wd lk ct){n:Str}:¬av (wd++[some<|.lf t n]) (lk.map xc):=λz=>by
 have e:(wd++[some<|Kn.lf t n])[wd.length]?=some (some<|.lf t n):=by rw[AF<|An _,Dv];rfl
 have:=(S.lkL _).mp<|z.nat.2.1.mem_iff.mpr<|JZ e rfl<|zd e;obtain⟨_,_,h⟩:=this;exact B8 _<|zd h
def Vl{qs:We}{y m:Nat}(I:y∈za lk)(pm:qs.Perm<|lk++[(y,m)]):¬av wd (qs.map xc):=λz=>by
 have J:(qH vZ wd wd.length).Nodup:=by unfold qH;exact B5.filter _
 have h:=(x6 pm).nodup_iff.mp<|z.nat.2.1.nodup_iff.mpr J;rw[jq] at h;exact(Av.mp h).2.2 y I y (by rw[ku];exact Ar) rfl
def Vm(m:Nat)(lo hi:Wo):∃I,I<=m/\oS (List.replicate m .non) lo hi=jw (List.replicate I none):=by unfold oS;rw[List.drop_replicate,List.take_replicate,Bv];exact⟨_,AM (Nat.min_le_right ..)<|EN ..,by unfold jw;rw[List.map_replicate];rfl⟩
def FY(L:qk)(Q:YK):Prop:=∀I J c' wd cs ct L',qh L L'->L' I=some (.lst<|jw wd)->L' J=some (.lst<|cs.map rg)->L' c'=some (.lst<|qr ct)->nL wd->wd.length<=450->cs.length<=63->ct.length<=61->(oj wd=true->¬av wd cs)->Q (gH I J c') L'
def yt{I j:Addr}{one two:Int}{w k r p:Nat}{x:Wq}(S:tw wd lk ct)(hw:w<6)(ex:lk[k]?=some x)(em:one % ((qr lk).length:Int)=(k:Int))(er:two % 2=(r:Int))(hp:r=0/\p=x.1\/r=1/\p=x.2)
 (s:qh L L1) (na:L I=none) (n1:I≠j) (n2:I≠c') (k1:L1 I=some (.lst<|jw wd)) (k2:L1 j=some (.lst<|qr lk)) (k3:L1 c'=some (.lst<|qr ct)) (q:FY L En.rt):
 Vh (w5 120) En [c0,some<|.int (w:Int),some<|.int one,some<|.int two,some<|.ref I,some<|.ref j,some<|.ref c',some<|.int (p:Int)] L1:=by
 have big:=a_;have z1:=S.web.len;have z2:=S.ll;have z3:=S.web.ctl;have pl:(qr lk).length=lk.length:=Ae ..;have mx:=AC ex;have l:p=x.1\/p=x.2:=hp.imp (·.2) (·.2);obtain⟨t,n,ep⟩:∃t n,wd[p]?=some (some<|.lf t n):=by
  obtain⟨_,t,n,h1,h2⟩:=S.lkA x mx;rcases l with rfl|rfl
  ·exact⟨_,_,h1⟩
  ·exact⟨_,_,h2⟩
 have nn:=S.nm p t n ep;have ix:sO (jw wd).length (p:Int)=some p:=by rw[jg];exact y8<|zd ep
 have K0:nL wd:=⟨S.web.ok,S.pu⟩;have ap:eI (jw wd) (p:Int)=some (cA<|some<|.lf t n):=jp ep;have J:∀C,zp C=[]->C≠some (.lf t n)->En.rt (gH I j c') (qi L1 I<|.lst<|(jw wd).set p<|cA C):=λC h1 h2=>q I j c' (wd.set p C) (lk.map xc) ct _ (s.upd na) (by rw[q9];unfold jw;rw[ED]) (by rw[<-vt];exact(qc<|AH n1).trans k2) ((qc<|AH n2).trans k3) (K0.set h1) (by rw[Bs];lia) (by rw[Ae];lia) z3 λ_=>Vj S mx l ep h2;have nl:n.length<=sizeLine:=Bi<|big _ (by lia);rcases (show w=0\/w=1\/w=2\/w=3\/w=4\/w=5 by lia) with rfl|rfl|rfl|rfl|rfl|rfl
 ·exact qj k1<|qf ix<|J none rfl nofun
 ·exact qa k1<|qf ap ⟨.leaf t n,rfl,(show 1<=120 by decide),qj k1<|qf ix<|J (some<|.lf (!t) n) rfl (by simp)⟩
 ·refine qa k1<|qf ap<|qa k1<|qf ap ⟨nl,zo (λh=>?_) λh=>?_⟩
  ·refine qa k1 (qf ap ⟨Bi (big _ (by show _+1<=_;lia)),qj k1<|qf ix<|J (some<|.lf t<|n ++ "q") rfl λe=>?_⟩);have e:n ++ "q" = n:=by injection e with e;injection e
   have:=Bk Str.length e;rw[Et] at this;exact absurd this (by show n.length+1≠_;lia)
  ·refine qa k1<|qf ap ⟨nl,qj k1<|qf ix<|J (some<|.lf t<|Txt.slice n none<|some 7) rfl λe=>?_⟩;have e:Txt.slice n none (some ((7:Nat):Int))=n:=by injection e with e;injection e
   have f:=i9 (x:=n) (n:=7) (by lia);rw[e] at f;have:=Bk List.length f;rw[AX,Txs.len_list] at this;lia
 ·refine qj k1 (qa k1 (qf ap (qj k1 ⟨by rw[jg];exact big _ (by lia),?_⟩)));exact q I j c' (wd++[some<|.lf t n]) (lk.map xc) ct _ (s.upd na) (by rw[q9,<-cr]) (by rw[<-vt];exact(qc<|AH n1).trans k2) ((qc<|AH n2).trans k3) (K0.snoc rfl) (by rw[Ac];show _+1<=_;lia) (by rw[Ae];lia) z3 λ_=>Vk S
 ·refine qj k1 (qa k1 (qf ap (qj k1 ⟨by rw[jg];exact big _ (by lia),?_⟩)));have j1:qi L1 I (.lst<|jw wd++[cA<|some<|.lf t n]) I=some (.lst<|jw wd++[cA<|some<|.lf t n]):=q9;have j2:=(qc (o:=.lst<|jw wd++[cA<|some<|.lf t n])<|AH n1).trans k2;have j3:=(qc (o:=.lst<|jw wd++[cA<|some<|.lf t n])<|AH n2).trans k3;have s':=s.upd (o:=.lst<|jw wd++[cA<|some<|.lf t n]) na;generalize qi L1 I (.lst<|jw wd++[cA<|some<|.lf t n])=L2 at j1 j2 j3 s' ⊢;have g:∀y:Nat,y∈za lk->∀T,L2 T=none->fi (.ref j) (.ref T) (qi L2 T<|.lst [Y.tup [.int (y:Int),.int<|((jw wd++[cA<|some<|.lf t n]).length:Int)-1]]) λz L'=>am [z] L' λz' a1=>En.rt (.tup [.ref I,z',.ref c']) a1:=λy hy T h1=>by
   have el:((jw wd++[cA<|some<|.lf t n]).length:Int)-1=(wd.length:Int):=by rw[Ac,jg];show((_+1:Nat):Int)-1=_;lia
   rw[el];have t1:=By (o:=.lst [Y.tup [.int (y:Int),.int (wd.length:Int)]]) h1;refine⟨_,_,t1 _ _ j2,q9,by rw[pl];exact Bi (big _ (by show _+1<=_;lia)),λp2 h2=>?_⟩;have t2:=t1.trans<|By (o:=.lst<|qr lk++[Y.tup [.int (y:Int),.int (wd.length:Int)]]) h2;have lp:∀c∈za lk,c<wd.length:=λc U=>by obtain⟨_,_,e⟩:=(S.lkL c).mp U;exact zd e
   refine m5 (ps:=lk++[(y,wd.length)]) (by rw[q9];unfold qr;rw[Ax];rfl) (λc U=>?_) (Av.mpr ⟨jl S.lkN,by simp,λc U d hd z=>?_⟩) (by rw[Ac];show _+1<=_;lia) λD qs hD pm pw=>?_
   ·rcases Ak.mp U with U|U
    ·have:=lp _ (kq U).2;lia
    ·rw[Ao.mp U];show wd.length<_;lia
   ·rw[Ao.mp hd] at z;subst z;exact B8 _<|lp _ (kq U).2
   ·have t3:=t2.trans<|By (o:=.lst<|qr qs) hD;exact q I D c' (wd++[some<|.lf t n]) (qs.map xc) ct _ (s'.trans t3) (t3 _ _ (by rw[<-cr];exact j1)) (by rw[<-vt];exact q9) (t3 _ _ j3) (K0.snoc rfl) (by rw[Ac];show _+1<=_;lia) (by rw[Ae,pm.length_eq,Ac];show _+1<=_;lia) z3 λ_=>Vl hy pm
  refine qa j2 (fc (by rw[pl];have:=zd ex;lia) em<|qa j2<|qf (x5<|bP ex) ?_);show eF (.int two) (.int 2) L2 λy L2=>lF (.int 1) y L2 _;refine fc (by decide) er ?_;rcases hp with⟨rfl,_⟩|⟨rfl,_⟩
  ·exact qa j1<|g x.2 (kq mx).2
  ·exact qa j1<|g x.1 (kq mx).1
 ·refine x4 k1 λkeep kp=>aj (λi zs=>zs=List.replicate i .non) (by rw[jg];exact big _ (by lia)) (kp _ rfl) rfl ?_ ?_
  ·rintro i y zs hy rfl;exact⟨_,ER _,rfl,CZ.symm⟩
  rintro zs rfl T h1;obtain⟨m,hm,e⟩:=Vm (jw wd).length none<|some<|two / 2 % 2*999;rw[jg] at hm;refine⟨(⟨by decide,by decide⟩:F4 two 2),(show(0:Int)<2 by decide),.inr ⟨by decide,by decide⟩,?_⟩;walk_at "w";refine qj q9 λp2 h2=>?_;rw[e];intro p3 h3 p4 h4;have t2:=(By (o:=.lst []) h3).trans<|By (o:=.lst []) h4;exact q p2 p3 p4 (List.replicate m none) [] [] _ (s.trans<|(By h1).trans<|(By h2).trans t2) (t2 _ _ q9) (By h4 _ _ q9) q9 (nL.gone m) (by rw[Bv];lia) (A1 _) (A1 _) λh=>by rw[Vi] at h;cases h
def gW{xs:List Y}(h:∀x∈xs,dy L n x x):Paired (dy L n) xs xs:=by induction xs with|nil=>exact .nil|cons x r I=>exact .cons (h x<|Ar ..)<|I λy J=>h y<|Ai _ J
def acl(l:We):Paired (dy L<|n+2) (qr l) (qr l):=gW λx I=>by obtain⟨m,_,rfl⟩:=Bg.mp I;exact .inr<|.inl ⟨_,_,rfl,rfl,.cons (.flat rfl)<|.cons (.flat rfl) .nil⟩
def Vn(l:List<|WD):Paired (dy L<|n+2) (jw l) (jw l):=gW λx I=>by
 obtain⟨m,_,rfl⟩:=Bg.mp I;cases m with
 |none=>exact .flat rfl
 |some k=>
  cases k with|lf t n=>exact .inr (.inl ⟨_,_,rfl,rfl,.cons (.flat rfl)<|.cons (.flat rfl) .nil⟩)|nd e i j=>exact .inr<|.inl ⟨_,_,rfl,rfl,.cons (.flat rfl)<|.cons (.flat rfl)<|.cons (.flat rfl) .nil⟩
def gL{a b:Addr}{xs:List Y}(I:L a=some (.lst xs))(J:L b=some (.lst xs))(p:Paired (dy L n) xs xs):dy L (n+1) (.ref a) (.ref b):=.inr<|.inr ⟨a,b,xs,xs,rfl,rfl,I,J,p⟩
structure XF32(K:Af)(C n1 n2 n3 n4 n5 n6 n7 n8 n9 o:Addr):Prop where
 hd:v_ K C
 em:PySem.W.exmOne K (.ref C) (.ref C)=some true
 ot:PySem.W.kitAny K (.ref C) [.ref n1,.ref n2,.ref n3,.ref n4,.ref n5,.ref n6,.ref n7,.ref n8,.ref n9]=some false
 on:PySem.W.kitOne K (.ref C) (.ref o)=some true
 ve:PySem.W.kitOne K (.ref C) (.type "ValueError")=some true
def XF32.dn{K:Af}{I J U g j l p r t o:Addr}(T:K.lookup Pt=some (PySem.W.tabObj #[]))(x:XF32 K C I J U g j l p r t o):XF32 (lessK Pt K) C I J U g j l p r t o:=⟨UY T x.hd,UX T x.em,qB T x.ot,fU T x.on,fU T x.ve⟩
def gA(I:vh)(J:vh):RD "_law_spoilt" fw 122 ["_law_web_here","_law_draw","_law_one","_law_two"] (λV=>Ju V I/\Jv V J):=⟨_,λV B c _ _ _ _ _ _ _ U hN g=>(qb (zj (E_ g (ql j7 (qv 1) qd) qd) (qe<|qu<|C_ c.1 U<|jo (qv 0)<|aT (ql j7 (ql vk (qv 1) qd) qd) (qv 2)<|qv 3) ze)<|qe<|qu<|C_ c.2 U<|jo (qv 0)<|aT (ql j7 (ql vk (qv 1) qd) qd) (qv 2)<|qv 3)⟩
def Vo(K:Af)(I:Addr)(J:Addr)(Ch:Addr)(U:Addr)(g:Addr)(j:Addr)(l:Addr)(o:Addr)(p:Addr)(r:Addr)(t:Addr)(C:lI):bB:=(jm (xz (yC<|.bl false)<|qo 1)
 (jm (Jx K I 2 (λE3=>vi<|dH C E3<|dI<|qg 0) (jm (xz (xZ K [(.ref J),(.ref Ch),(.ref U),(.ref g),(.ref j),(.ref l),(.ref o),(.ref p),(.ref r)]<|qg 2)<|qo 3)
 (xz (GZ (wK K (.ref t)<|qg 2)<|GZ (wK K (.type "ValueError")<|qg 2)<|IE<|qg 3)<|qo 1)))
 (eL<|qg 1)))
def Vp(I:vh)(p1:vh)(p2:vh)(p3:vh)(p4:vh)(p5:lI)(p6:vh)(p7:vh):bB:=(jm (xz (xu eF (jt I<|eG (qg 0)<|k8 0)<|xu IX (k8 10)<|k8 9)<|qo 1)
 (jm (xz (jt p1<|qm (qg 0)<|qm (qg 1)<|eG (k8 100)<|k8 100)<|qo 2)
 (jm (uY (rB<|dI<|k8 2) (qo 3) (jm (xz (jt p2<|qm (xu fi (xu eF (jt I<|eG (qg 0)<|qg 3)<|xu IX (k8 10)<|k8 9)<|qg 1)<|qm (xu fi (k8 31)<|qg 3)<|dI<|k8 40692)<|qo 4)
 (jm (xz (jt p3<|qm (qg 2)<|qm (jt p2<|qm (qg 1)<|qm (xu fi (k8 23)<|qg 3)<|dI<|k8 16807)<|qm (jt p2<|qm (qg 1)<|qm (xu fi (k8 27)<|qg 3)<|dI<|k8 69621)<|dI<|qg 4)<|qo 5)
 (jm (xz (jt p4<|dI<|qg 2)<|qo 6)
 (jm (aR (FK (lL (oO (xu eF (xu xW (qg 4)<|k8 4)<|k8 2)<|k8 0)<|yB<|xu (Gn true) (dH p5 Hm<|dI<|qg 6)<|yC<|.bl true)<|Hy (qg 6)<|qg 2) (eL<|yC<|.bl false) dE)
 (jm (xz (jt p4<|dI<|qg 5)<|qo 6)
 (jm (aR (FK (FM<|yB<|jt p7<|dI<|qg 6)<|FM<|yB<|jt p6<|eG (qg 6)<|qg 5) (eL<|yC<|.bl false) dE)
 (aR (FK (yB<|xu (Gn true) (dH p5 Hm<|qm (jt p4<|dI<|qg 2) ji)<|yC<|.bl true)<|FM<|yB<|jt p7<|qm (jt p4<|dI<|qg 5) ji) (eL<|yC<|.bl false) dE))))))))
 (eL<|yC<|.bl true))))
inductive lu(ys:List Y)(L:qk)(Q:YK):Prop
 |mk:∀a l c,∀wd:List (WD),∀lk ct:Wf,∀w:Nat,∀wi one two:Int,(ys=[gH a l c,.int wi,.int one,.int two])->(wi=(w:Int))->(w<6)->(L a=some (.lst<|jw wd))->(L l=some (.lst<|qr lk))->(L c=some (.lst<|qr ct))->(tw wd lk ct)->(lk≠[])->(FY L Q)->lu ys L Q
def Vq:∀ys L Q,lu ys L Q->xi (dm fZ<|w5 120).1 8 ys L Q:=by
 rintro ys L Q ⟨a,l,c,J,lk,U,w,wi,one,two,rfl,rfl,hw,ha,hl,hc,S,ne,q⟩;refine⟨a,l,c,_,_,_,rfl,ha,hl,hc,λg j o L1 p r nl nc t C n3 h1 h2 h3=>?_⟩;have T:(qr lk).length=lk.length:=Ae ..;obtain⟨k,x,ek,hk,ex⟩:=dX (CD.mpr ne) one;have em:one % ((qr lk).length:Int)=(k:Int):=by rw[T];exact ek
 refine qa h2 (fc (by rw[T];lia) em<|qa h2<|qf (x5<|bP ex) ?_);have q':FY L (a7 Q):=λg j o J cs U L' t1 t2 t3 t4 t5 t6 t7 t8 t9=>xt<|q g j o J cs U L' t1 t2 t3 t4 t5 t6 t7 t8 t9;show eF (.int two) (.int 2) L1 λy L2=>hU (gu x) y L2 _;rcases (show two % 2=((0:Nat):Int)\/two % 2=((1:Nat):Int) by lia) with I|I
 ·refine fc (by decide) I ?_;exact yt S hw ex em I (.inl ⟨rfl,rfl⟩) p r t C h1 h2 h3 q'
 ·refine fc (by decide) I ?_;exact yt S hw ex em I (.inr ⟨rfl,rfl⟩) p r t C h1 h2 h3 q'
inductive iE(ys:List Y)(L:qk)(Q:YK):Prop
 |mk:∀a l c,∀wd:List (WD),∀lk ct:Wf,∀d one two:Int,(ys=[gH a l c,.int d,.int one,.int two])->(0<=two)->(L a=some (.lst<|jw wd))->(L l=some (.lst<|qr lk))->(L c=some (.lst<|qr ct))->(tw wd lk ct)->(lk≠[])->(FY L Q)->iE ys L Q
def yL(d:Int)(n:Nat)(h:0<n):∃w:Nat,d % (n:Int)=(w:Int)/\w<n:=by have h1:=Di d (show(n:Int)≠0 by lia);have h2:=Dk d (show(0:Int)<n by lia);exact⟨(d % n).toNat,by lia,by lia⟩
def Vr:∀ys L Q,iE ys L Q->xi (gA lS lu).1 4 ys L Q:=by
 rintro ys L Q ⟨a,l,c,I,lk,J,d,one,two,rfl,ht,ha,hl,hc,S,ne,q⟩;have q':FY L (a7 Q):=λU g j I o J p r t C T t5 t6 t7 t8 t9=>xt<|q U g j I o J p r t C T t5 t6 t7 t8 t9;have z1:=S.web.len;have z3:=S.web.ctl;refine⟨(show(0:Int)<2 by decide),zo (λ_=>?_) λ_=>?_⟩
 ·obtain⟨w,ew,hw⟩:=yL (d / 2) 8 (by decide);exact⟨⟨by decide,by decide⟩,(show(0:Int)<8 by decide),a,l,c,I,lk,J,w,_,one,two,rfl,ew,hw,ht,ha,hl,hc,S,ne,λU g j o p r t C T t5 t6=>q' U g j I o J p r t C T ⟨S.web.ok,S.pu⟩ (by lia) t5 z3 λ_=>t6⟩
 ·obtain⟨w,ew,hw⟩:=yL (d / 2) 6 (by decide);exact⟨⟨by decide,by decide⟩,(show(0:Int)<6 by decide),a,l,c,I,lk,J,w,_,one,two,rfl,ew,hw,ha,hl,hc,S,ne,q'⟩
inductive dg(ys:List Y)(L:qk)(Q:YK):Prop
 |mk:∀a l c,∀wd:List (WD),∀cs:List (Int×Int),∀ct:Wf,(ys=[gH a l c])->(L a=some (.lst<|jw wd))->(L l=some (.lst<|cs.map rg))->(L c=some (.lst<|qr ct))->(nL wd)->(wd.length<=450)->(cs.length<=63)->((oj wd=true->¬av wd cs))->(Q (.bl true) L)->dg ys L Q
def xV{K:Af}{J U g j p r t T n9 o:Addr}(xf:XF32 K C J U g j p r t T n9 o):∀ys L Q,dg ys L Q->xi (Vo K C J U g j p r t T n9 o<|cg C) 4 ys L Q:=by rintro ys L Q ⟨a,l,c,wd,cs,ct,rfl,I,hl,hc,S,z1,z2,no,q⟩;refine⟨a,l,c,wd,cs,ct,rfl,I,hl,hc,S,z1,z2,.inr ⟨no,xf.em,λa I=>?_⟩⟩;refine rO q9 ⟨xf.hd,false,xf.ot,?_⟩;refine rO q9 ⟨xf.hd,true,xf.on,?_⟩;refine rO q9 ⟨xf.hd,true,xf.ve,?_⟩;exact eY (By I) q
def tw.akn(S:tw wd lk ct){x:Nat}{k:Kn}(e:wd[x]?=some (some k)):oj wd=true:=by unfold oj;rw[AS];refine⟨Cm.mpr λb I=>?_,List.any_eq_true.mpr ⟨true,Bg.mpr ⟨_,AC e,rfl⟩,rfl⟩⟩;obtain⟨p,J,rfl⟩:=Bg.mp I;have J:=AY.mp J;have U:wd[p]?=some wd[p]:=Ag J;show o6 wd p=true;unfold o6;rw[U];refine Cm.mpr λb I=>?_;obtain⟨m,g,rfl⟩:=Bg.mp I;obtain⟨_,l,j⟩:=KnS.at_ ⟨S.web.ok,S.web.there,S.pu⟩ U g;show nv wd m=true;unfold nv;rw[j];rfl
theorem KW.leaf :∀{w:Wd} {p:Nat},KW (jw wd) p w->∃(q:Nat) (t:Bool) (n:Str),wd[q]?=some (some<|.lf t n)
 |.leaf t n,p,h=>⟨p,t,n,h.inv_lf⟩
 |.node e l r,p,h=>by obtain⟨i,j,_,I,_⟩:=h.inv_nd;exact I.leaf
def tw.ne(S:tw wd lk ct){x:Nat}{k:Kn}(e:wd[x]?=some (some k)):lk≠[]:=λz=>by obtain⟨w,hw,_⟩:=S.web.word x k e;obtain⟨q,h⟩:=hw.leaf;have:=(S.lkL q).mpr h;rw[z] at this;cases this
def Fu:WD->Da
 |none=>.s<|ft .non
 |some k=>JY k
theorem rH{L:qk}:∀l:List (WD),Paired (jc L 1) (jw l)<|l.map Fu
 |[]=>.nil
 |none::r=>.cons (.inl ⟨rfl,rfl⟩)<|rH r
 |some k::r=>.cons (Uj k)<|rH r
def Vs(k:WD):Da.eq (Fu k) (Fu k)=true:=by
 cases k with
 |none=>rfl
 |some k=>
  cases k with
  |lf t n=>exact gq<|.leaf t n
  |nd e i j=>
   show(gZ (.str<|kN e) (.str<|kN e)&&(gZ (.int i) (.int i)&&(gZ (.int j) (.int j)&&true)))=true;rw[bK rfl,bK rfl,bK rfl];rfl
theorem J6:∀l:List (WD),Da.eqs (l.map Fu) (l.map Fu)=true
 |[]=>rfl
 |x::r=>by rw[AA,Da.eqs,Vs,J6 r];rfl
def HG(wd:List<|WD)(lk ct:We):Da:=.tup [.lst<|wd.map Fu,.lst<|lk.map bU,.lst<|ct.map bU]
def zJ{a l c:Addr}(h1:L a=some (.lst<|jw wd))(h2:L l=some (.lst<|qr lk))(h3:L c=some (.lst<|qr ct)):jc L 3 (gH a l c) (HG wd lk ct):=w4<|.cons (we h1<|rH wd)<|.cons (we h2<|aY lk)<|.cons (we h3<|aY ct) .nil
def Vt(wd:List<|WD)(lk ct:We):Da.eq (HG wd lk ct) (HG wd lk ct)=true:=by show(Da.eqs _ _&&(Da.eqs _ _&&(Da.eqs _ _&&true)))=true;rw[J6,lM,lM];rfl
def zW(l:List<|Int×Int):Paired (dy L<|n+2) (l.map rg) (l.map rg):=gW λx I=>by obtain⟨m,_,rfl⟩:=Bg.mp I;exact .inr<|.inl ⟨_,_,rfl,rfl,.cons (.flat rfl)<|.cons (.flat rfl) .nil⟩
def Vu{b:Bool}{A B:Prop}(h:B->A)(k:B):wf b A B:=Uh (h k) k
def Vv :∀ys L Q,l7 Pt lamQ ys L Q->xi (Vp dW (qY Pt) cJ iE fZ (cg C) (fQ 124) dg) 7 ys L Q:=by
 rintro ys L Q ⟨r,rfl,a1,hL,q⟩;have hP:L Pt=some (.tb lamQ):=by rw[hL];exact q9
 clear hL;refine⟨r,0,rfl,by decide,λv=>⟨⟨by decide,by decide,by decide⟩,(show(0:Int)<10 ^ (9:Int).toNat by decide),_,r,_,100,100,rfl,rfl,by lia,by decide,hP,λt T ca g lk ct L1 W s1 nw nl nc n1 n2 n3 e1 e2 e3=>?_⟩⟩;obtain⟨S,x0,k0,f0,_⟩:=W.snd;have ne:=S.ne f0;have z1:=S.web.len;have z2:=S.ll;have K0:nL g:=⟨S.web.ok,S.pu⟩;have hk:∀{l':Addr} {U:qk},U l'=some (.lst<|qr lk)->U l'=some (.lst<|(lk.map xc).map rg):=λh=>by rw[<-vt];exact h
 have zw:g.length<=450:=by lia
 have zc:(lk.map xc).length<=63:=by rw[Ae];lia
 have A:=S.akn f0;refine⟨by decide,?_⟩;refine rN (λi τ U=>∃j l c5 c6,τ=[some<|.sq<|r.map Y.int,some<|.int<|v % 10 ^ Int.toNat 9,some<|gH t T ca,j,l,c5,c6]/\qh L1 U) ⟨_,_,_,_,rfl,ER _⟩ ?_ ?_
 ·rintro i τ U hi ⟨j,l,c5,c6,rfl,o⟩;refine⟨r,_,rfl,by lia,λv1=>⟨⟨by decide,by decide,by decide⟩,(show(0:Int)<10 ^ (9:Int).toNat by decide),_,_,40692,rfl,by lia,by lia,by decide,by decide,λtwo ht _=>?_⟩⟩;refine⟨_,_,16807,rfl,by lia,by lia,by decide,by decide,λd _ _=>⟨_,_,69621,rfl,by lia,by lia,by decide,by decide,λone _ _=>?_⟩⟩;refine⟨t,T,ca,g,lk,ct,d,one,two,rfl,ht,o _ _ e1,o _ _ e2,o _ _ e3,S,ne,λab lb cb I cs J L2 s3 b1 b2 b3 K' y1 y2 y3 no=>?_⟩;have t3:=o.trans s3;refine⟨t,T,ca,_,_,_,rfl,t3 _ _ e1,t3 _ _ e2,t3 _ _ e3,λa' l' c' L3 s4 _ _ _ _ _ _ h1 h2 h3=>?_⟩;have t4:=t3.trans s4;refine⟨⟨by decide,by decide⟩,(show(0:Int)<2 by decide),?_⟩;refine Vu (b:=decide _) (λh=>⟨a',l',c',g,_,ct,rfl,h1,hk h2,h3,K0,zw,zc,.inl ⟨A,⟨lk,rfl,S⟩,h⟩⟩) ?_;refine⟨rfl,rfl,3,3,_,_,by decide,zJ h1 h2 h3,zJ (t4 _ _ e1) (t4 _ _ e2)<|t4 _ _ e3,aC (by show(!Da.eq _ _)=false;rw[Vt];rfl) ?_⟩;have b1:=s4 _ _ b1;have b2:=s4 _ _ b2;have b3:=s4 _ _ b3;refine⟨ab,lb,cb,_,_,_,rfl,b1,b2,b3,λa2 l2 c2 L4 p _ _ _ _ _ _ g1 g2 g3=>?_⟩;refine⟨a2,l2,c2,I,cs,J,rfl,g1,g2,g3,K',y1,y2,no,?_⟩;refine⟨_,_,rfl,.inr<|.inl ⟨_,_,rfl,rfl,.cons (gL g1 (p _ _ b1)<|Vn (n:=120) I)<|.cons (gL g2 (p _ _ b2)<|zW (n:=120) cs)<|.cons (gL g3 (p _ _ b3)<|acl (n:=120) J) .nil⟩,?_⟩;have t5:=t4.trans p;refine⟨t,T,ca,_,_,_,rfl,t5 _ _ e1,t5 _ _ e2,t5 _ _ e3,λa3 l3 j L5 s6 _ _ _ _ _ _ r1 r2 r3=>⟨a3,l3,j,g,_,ct,rfl,r1,hk r2,r3,K0,zw,zc,.inl ⟨A,⟨lk,rfl,S⟩,?_⟩⟩⟩;have t6:=p.trans s6;refine⟨ab,lb,cb,_,_,_,rfl,t6 _ _ b1,t6 _ _ b2,t6 _ _ b3,λa4 l4 l L6 s7 _ _ _ _ _ _ u1 u2 u3=>?_⟩;exact⟨a4,l4,l,I,cs,J,rfl,u1,u2,u3,K',y1,y2,no,_,ER _,_,_,_,_,rfl,(t5.trans s6).trans s7⟩
 ·rintro τ U ⟨j,l,c5,c6,rfl,o⟩;exact xt<|q _
end L3
end
set_option maxRecDepth 100000
set_option maxHeartbeats 8000000
namespace K14
open PySem L2 L3 Words
abbrev ng:Str:="_law_knots"
abbrev nh:Str:="_law_script"
abbrev ni:Str:="_law_p"
abbrev nq:Str:="_law_seed"
abbrev nu:Str:="_law_knot"
theorem Vw{us:Wg}{n:Nat}(h:us.length=n+1):∃a r,us=a::r/\r.length=n:=by cases us with|nil=>cases h|cons a r=>exact⟨a,r,rfl,Nat.succ.inj h⟩
structure DD(K:Af):Prop where
 D0:j6 K "is_leaf" oy
 D1:j6 K "turned" uq
 D2:j6 K "word_at" pW
 D3:j6 K "holds_leaf" iR
 D4:j6 K "parts_of" nR
 D5:j6 K "parts_in" mX
 D6:j6 K "places_in" kR
 D7:j6 K "each_once" kQ
 D8:j6 K "parts_fit" jX
 D9:j6 K "are_knots" lA
 D10:j6 K "is_link" pD
 D11:j6 K "are_links" kZ
 D12:j6 K "can_be_cut" iN
 D13:j6 K "is_cut" sW
 D14:j6 K "are_cuts" mO
 D15:j6 K "demand" Q1
 D16:j6 K "checked_web" oX
 D17:j6 K "_law_cell_at" eQ
 D18:j6 K "_law_same" jL
 D19:j6 K "_law_mix" mF
 D20:j6 K "_law_name" jU
 D21:j6 K "_law_word" jV
 D22:j6 K "_law_flip" kI
 D23:j6 K "_law_weight" gC
 D24:j6 K "_law_mirror" o8
 D25:j6 K "_law_join" kU
 D26:j6 K "_law_fold" lB
 D27:j6 K "_law_cut" wM
 D28:j6 K "_law_tree" kJ
 D29:j6 K "_law_told" kY
 D30:j6 K "_law_crossed" fM
 D31:j6 K "_law_beneath" eO
 D32:j6 K "_law_recast" oZ
 D34:j6 K "_law_gapped" o4
 D35:j6 K "_law_web" mR
 D36:j6 K "_law_copy" kE
 D37:j6 K "_law_matched" fE
 D38:j6 K "_law_bad_links" cZ
 D39:j6 K "_law_bad_leaf" dq
 D40:j6 K "_law_spoilt" fw
 D41:j6 K "_law_refused" mJ
 D42:j6 K "law" u7
structure B_(V:V_):Prop extends B0_ V,DD V.K where
 hp:∃h:Wv,V.K.In h/\h.Ns mainGlobals V.mg
 D33:DefInT V.K "_law_order" s__law_order V.Pt
 md:V.mg "BadWeb"=some (.ref V.Ca)
 me:V.mg "NoWord"=some (.ref V.Cf)
 maa:V.mg "BadText"=some (.ref V.Ch)
 mf:V.mg "BadTree"=some (.ref V.Ce)
 mz:V.mg "BadChoices"=some (.ref V.Cg)
 mj:V.mg "NoTree"=some (.ref V.Ci)
 mm:V.mg "NoCut"=some (.ref V.Cd)
 mab:V.mg "NoExchange"=some (.ref V.Cj)
 mw:V.mg "OtherWeb"=some (.ref V.Cb)
 mac:V.mg "TooMany"=some (.ref V.Ck)
 mh:V.mg "OnceError"=some (.ref V.Cc)
 x_BadWeb:FF V.K V.Ca
 xf:L3.XF32 V.K V.Ca V.Cf V.Ch V.Ce V.Cg V.Ci V.Cd V.Cj V.Cb V.Ck V.Cc
local macro_rules|`(tactic| walk_at "s")=>`(tactic| exact⟨rfl,rfl,rfl,by decide +kernel,rfl,by decide +kernel,by decide +kernel⟩)
local macro_rules|`(tactic| walk_at "l")=>`(tactic| (rintro _ _ _ h;cases h;subst_vars;rfl))
local macro_rules|`(tactic| walk_at "x")=>`(tactic| (intro _;walk_at "l"))
local macro_rules|`(tactic| walk_at "b")=>`(tactic| (intro _ _ _ _ _ _ us hl;(repeat (obtain⟨_,_,e,h⟩:=Vw hl;clear hl;subst e;have hl:=h;clear h));cases List.eq_nil_of_length_eq_zero hl;rfl))
section
variable {f:Addr}{fd:FuncData}{x q:Str}{st:Stmt}{ps:Wj}(V:V_)(k:Nat)(N:Wj)
theorem W_{sp:vh}{t:bB}(F:Fun V.K x q st f fd)(j:∀ys L Q,sp ys L Q->xi t N.length ys L Q)(h:FW V k N q st f t)(U:aA N ps (qw st):=by walk_at "s")(len:∀ys L Q,sp ys L Q->ys.length=ps.length:=by walk_at "l"):Fn3 V.P V.w V.K V.mg V.base (k+1) f fd ps sp:=
 Qg F U len λJ A I s H E g=>⟨t,h J A I s H E g U.nd<|GV g,j⟩
theorem M_{sp:vh}{t:bB}(I:∃h:Wv,V.K.In h/\h.Ns mainGlobals V.mg)(D:j6 V.K x st)(J:∀ys L Q,sp ys L Q->xi t N.length ys L Q)(h:∀f,FW V k N x st f t)(U:aA N ps (qw st):=by walk_at "s")(len:∀ys L Q,sp ys L Q->ys.length=ps.length:=by walk_at "l")(g:Gg x st ps:=by walk_at "b"):Q_ V (k+1) x ps sp:=by obtain⟨_,X,G⟩:=I;obtain⟨f,fd,F,b,m⟩:=D.use X G g;exact Cal.of (W_ V k N F J (h f) U len) b F.kp m
theorem R_{sp:Nat->vh}{t:Nat->bB}(I:∃h:Wv,V.K.In h/\h.Ns mainGlobals V.mg)(D:j6 V.K x st)(no:∀ys L Q,¬sp 0 ys L Q)(J:∀n ys L Q,sp (n+1) ys L Q->xi (t n) N.length ys L Q)(h:∀n f,Q_ V (n+k) x ps (sp n)->FW V (n+k) N x st f (t n))(n:Nat)(U:aA N ps (qw st):=by walk_at "s")(len:∀n ys L Q,sp n ys L Q->ys.length=ps.length:=by walk_at "x")(g:Gg x st ps:=by walk_at "b"):Q_ V (n+k) x ps (sp n):=by
 obtain⟨_,X,G⟩:=I;obtain⟨f,fd,F,b,m⟩:=D.use X G g
 induction n with|zero=>exact Cal.of (Fn3.never no) b F.kp m|succ n j=>rw[Nat.add_right_comm];exact Cal.of (W_ V (n+k) N F (J n) (h n f j) U<|len _) b F.kp m
theorem X_{sp:lI}{t:X3->bB}(U:∃h:Wv,V.K.In h/\h.Ns mainGlobals V.mg)(D:j6 V.K x st)(g:∀ys L Q E,sp ys L Q E->xi (t<|Fq E) N.length ys L Q)(h:∀f,∀(eW:Wr) (A:Around) (outer:List Env) (s:Ws) (H:Hp) (E:XK) (E3:X3),wz k (A.deeper<|PyProof.Rows.envOfC x (qw st) s.heap.objs.size f eW)->bS (fJ (f_ V.P V.w) V.P V.w V.K V.mg V.base N x (qw st) f eW A outer s H E) (Fp ⟨V.K,V.P,V.w⟩ E3)->N.Nodup->(A.deeper<|PyProof.Rows.envOfC x (qw st) s.heap.objs.size f eW).units+128<cLine->ue (fJ (f_ V.P V.w) V.P V.w V.K V.mg V.base N x (qw st) f eW A outer s H E) (jv st) (t E3))(I:aA N ps (qw st):=by walk_at "s")(len:∀ys L Q E,sp ys L Q E->ys.length=ps.length:=by walk_at "x")(j:Gg x st ps:=by walk_at "b"):jZ V.P V.w V.K V.mg V.base (k+1) x ps sp:=by obtain⟨_,X,G⟩:=U;obtain⟨f,fd,F,b,m⟩:=D.use X G j;exact⟨_,_,Q0 F I len (λeW A outer s H E E3 J l=>h f eW A outer s H E E3 J l I.nd<|GV J) g,b,F.kp,m⟩
theorem T_{sp:vh}{t:bB}(U:∃h:Wv,V.K.In h/\h.Ns mainGlobals V.mg)(D:DefInT V.K x st V.Pt)(g:∀ys L Q,sp ys L Q->xi t N.length ys L Q)(h:∀f,∀(eW:Wr) (A:Around) (outer:List Env) (s:Ws) (H:Hp) (E:XK),zS V.K eW V.Pt->wz k (A.deeper<|PyProof.Rows.envOfC x (qw st) s.heap.objs.size f eW)->N.Nodup->(A.deeper<|PyProof.Rows.envOfC x (qw st) s.heap.objs.size f eW).units+128<cLine->ue (fJ CX0 V.P V.w V.K V.mg V.base N x (qw st) f eW A outer s H E).nox (jv st) t)(I:aA N ps (qw st):=by walk_at "s")(len:∀ys L Q,sp ys L Q->ys.length=ps.length:=by walk_at "l")(j:Gg x st ps:=by walk_at "b"):Q_ V (k+1) x ps sp:=by obtain⟨_,X,G⟩:=U;obtain⟨f,fd,F,b,m⟩:=D.use X G j;exact Cal.of (Th F I len λeW A outer s H E C J=>⟨t,h f eW A outer s H E C J I.nd<|GV J,g⟩) b F.kp m
end
section
variable {V:V_}(B:B_ V)
include B
theorem d1:FV V (wo):=M_ V _ _ B.hp B.D0 xD<|(pG).2 V B.toB0_ ⟨⟩
theorem d2:Hd V (aK 120):=R_ V _ _ B.hp B.D1 zT SE (λn=>(u6 _ _).2 V B.toB0_ (d1 B) n) 120
theorem d3:Je V (xq 120):=R_ V _ _ B.hp B.D2 mB xP (λn=>(qM _ _).2 V B.toB0_ (d1 B) n) 120
theorem d4:He V (fH):=M_ V _ _ B.hp B.D3 UN<|(gd _).2 V B.toB0_<|d1 B
theorem d5:Hf V (eh):=M_ V _ _ B.hp B.D4 S5<|(oH _).2 V B.toB0_<|d1 B
theorem d6:Jf V (f9):=M_ V _ _ B.hp B.D5 Uz<|(mE _).2 V B.toB0_<|d5 B
theorem d7:Hg V (gw):=M_ V _ _ B.hp B.D6 Ui<|(jM).2 V B.toB0_ ⟨⟩
theorem d8:Hh V (dJ):=M_ V _ _ B.hp B.D7 UM<|(kK).2 V B.toB0_ ⟨⟩
theorem d9:Jg V (fW):=M_ V _ _ B.hp B.D8 zX<|(kF _ _).2 V B.toB0_ ⟨(d5 B),(d8 B)⟩
theorem d10:Q2 V (aa):=M_ V _ _ B.hp B.D9 sw<|(kD _).2 V B.toB0_<|d9 B
theorem Vx:Jh V (ff):=M_ V _ _ B.hp B.D10 U3<|(tF _ _).2 V B.toB0_ ⟨(d2 B),(d4 B)⟩
theorem Vy:Q4 V (aZ):=M_ V _ _ B.hp B.D11 uQ<|(lC _ _ _).2 V B.toB0_ ⟨(Vx B),(d4 B),(d7 B)⟩
theorem Vz:Ji V (qV):=M_ V _ _ B.hp B.D12 UR<|(iT _).2 V B.toB0_<|d6 B
theorem VA:Jj V (iU):=M_ V _ _ B.hp B.D13 US<|(tR _ _ _).2 V B.toB0_ ⟨(Vz B),(d3 B),(d2 B)⟩
theorem VB:Q5 V (eS):=M_ V _ _ B.hp B.D14 UT<|(mU _ _ _).2 V B.toB0_ ⟨(VA B),(d8 B),(d7 B)⟩
theorem Go:Q6 V (a9 V.Ca):=X_ V 0 ["holds","words"] (t:=(λI=>mS V.Ca I)) B.hp B.D15 sh λ_ _ _ _ _ _ _ _ U J hN g=>(qe<|zj (gQ<|vq<|qv 0) (qe<|QZ B.x_BadWeb rfl B.md rfl J rfl<|jn<|qv 1) ze)
theorem HH:Q7 V (cg V.Ca):=X_ V 124 ["web","knots"] (t:=(λU=>uL U (a9 V.Ca) (aa) (dJ) (f9) (aZ)<|eS)) B.hp B.D16 U7 λ_ _ _ _ _ _ _ _ I J hN g=>(qb (S_ 1 hN<|J_ 0)<|qb (qy<|qE ((Go B).mono (by decide)) I rfl J rfl<|xx (C_ (d10 B) I<|jn<|qv 1) je)<|qb (qy<|qE ((Go B).mono (by decide)) I rfl J rfl<|xx (C_ (d8 B) I<|jn<|C_ (d6 B) I<|jn<|qv 1) je)<|qb (qy<|qE ((Go B).mono (by decide)) I rfl J rfl<|xx (C_ (Vy B) I<|xx (qv 1)<|J_ 0) je)<|qb (qy<|qE ((Go B).mono (by decide)) I rfl J rfl<|xx (C_ (VB B) I<|xx (qv 1)<|J_ 0) je)<|qe<|qu bZ)
theorem J7:Q8 V (dW):=M_ V _ _ B.hp B.D17 xQ<|(fB).2 V B.toB0_ ⟨⟩
theorem VC:Q9 V (fQ 124):=R_ V _ _ B.hp B.D18 rK SI (λn=>(kB _).2 V B.toB0_ ⟨⟩ n) 124
theorem s_:Hi V (cJ):=M_ V _ _ B.hp B.D19 SF<|(nZ).2 V B.toB0_ ⟨⟩
theorem VD:Jk V (iX):=M_ V _ _ B.hp B.D20 TH<|(uI).2 V B.toB0_ ⟨⟩
theorem J8:Ra V (xq 120):=R_ V _ _ B.hp B.D21 rU sv (λn=>(kW _).2 V B.toB0_ ⟨⟩ n) 120
theorem Gp:Jl V (w5 120):=R_ V _ _ B.hp B.D22 SK SM (λn=>(yV _).2 V B.toB0_ ⟨⟩ n) 120
theorem VE:Rb V (bG 120):=R_ V _ _ B.hp B.D23 oI SH (λn=>(fv _).2 V B.toB0_ ⟨⟩ n) 120
theorem VF:Rc V (aN 5):=R_ V 122 [ng,"_law_word_here","_law_left","_law_right","_law_turn","_law_same_here","_law_low","_law_high"] B.hp B.D24 SY (S4 (FS:=w5 120) λ_ _ _ h=>h) (λ_ _ I _ _ _ _ _ _ J hN U=>(qb (zj (E_ U (L_ B.ba<|qv 1) qd) (qb (qy<|z9 (qv 0)<|jn<|C_ (Gp B) J<|jn<|qv 1)<|qb (qy<|z9 (qv 0)<|jn<|qv 1)<|qe<|qu<|zk<|aT (zb<|aT je (ql wy (L_ B.ba<|qv 0) qd)<|ql wy (L_ B.ba<|qv 0) qd) (ql wy (L_ B.ba<|qv 0) qd)<|ql wy (L_ B.ba<|qv 0) qd) ze)<|qb (S_ 2 hN<|C_ I J<|xx (qv 0)<|J_ 1)<|qb (S_ 3 hN<|C_ I J<|xx (qv 0)<|J_ 1)<|qb (qy<|z9 (qv 0)<|jn<|zb<|aT (I_ (C_ (Gp B) J<|jn<|qv 1) qd) (J_ 2)<|J_ 3)<|qb (qy<|z9 (qv 0)<|jn<|zb<|aT (J_ 1) (J_ 2)<|J_ 3)<|qb (vW (i:=4) (j:=5) rfl hN rfl rfl (by decide) rfl rfl (xx (ql wy (L_ B.ba<|qv 0) qd)<|ql wy (L_ B.ba<|qv 0) qd) rfl)<|qb (S_ 6 hN<|cX (E_ U (J_ 1) je) (qv 4)<|qv 5)<|qb (S_ 7 hN<|cX (E_ U (J_ 1) je) (qv 5)<|qv 4)<|qe<|qu<|zk<|aT (zb<|aT je (qv 7)<|zb<|jo je<|aT (qv 6) (J_ 2)<|J_ 3) (qv 4)<|qv 5)) 5
theorem VG:Jm V (lV):=M_ V _ _ B.hp B.D25 TN<|(JU).2 V B.toB0_ ⟨⟩
theorem VH:asg V (iI):=M_ V _ _ B.hp B.D26 TQ<|(yd).2 V B.toB0_ ⟨⟩
theorem VI:Jn V (lg):=M_ V 127 [ng,"_law_forest","_law_one","_law_two","_law_first",ni,"_law_word_here","_law_second","_law_q","_law_at","_law_end","_law_rule","_law_same_here","_law_ends"] B.hp B.D27 (T3 (FS:=w5 120) (MS:=aN 5) (λ_ _ _ h=>h) λ_ _ _ h=>h) λ_ _ _ _ _ _ _ I hN J=>(qb (S_ 4 hN<|bL (qv 1)<|jn<|ql j7 (qv 3)<|L_ B.ba<|qv 1)<|qb (ao (i:=5) hN rfl (Or.inr rfl)<|I_ (J_ 4)<|ql j7 (ql vk (qv 3) qd)<|L_ B.ba<|J_ 4)<|qb (S_ 6 hN<|C_ (J8 B) I<|xx (qv 0)<|qv 5)<|qb (aU (zb<|xx gK gK)<|vz rfl<|qx (G_ 7 hN)<|qx (gj (i:=8) hN rfl<|Or.inr rfl) xh)<|qb (aP yp rfl (bD rfl B.bh<|jn<|L_ B.ba<|qv 1) (G_ 9 hN)<|qe<|aP yp rfl (xj<|I_ (I_ (qv 1)<|qv 9) qd) (G_ 10 hN)<|qe<|zj (kj<|wv (mY<|qv 7)<|vn<|E_ J (C_ (J8 B) I<|xx (qv 0)<|qv 10)<|C_ (Gp B) I<|jn<|qv 6) (qe<|aU (zb<|xx (I_ (qv 1)<|qv 9)<|qv 10)<|vz rfl<|qx (G_ 7 hN)<|qx (gj (i:=8) hN rfl<|Or.inr rfl) xh) ze)<|qb (zj (kj<|wv (mY<|qv 7)<|vn<|jk FT (C_ (VE B) I<|jn<|qv 6) qd<|jf _) (qb (qy<|z9 (qv 1)<|jn<|qv 4)<|qe zG) ze)<|v9 (zj (mY<|qv 7) (qb (aU (C_ (VF B) I<|xx (qv 0)<|qv 6)<|RY rfl<|qx (G_ 11 hN)<|qx (gj (i:=8) hN rfl<|Or.inr rfl)<|qx (G_ 12 hN) xh)<|qe<|S_ 7 hN<|zk<|xx (qv 11)<|zk<|xx (qv 8)<|qv 12)<|qe<|qy<|R4 J (qv 1)<|jn<|qv 7)<|qb (cV ["_law_x"] (i:=13) hN rfl (Or.inl rfl) (EV (by rfl)) rfl (xj<|ql js (J_ 4)<|J_ 7) (gf j_ (λ_ _ _ _=>Or.inl rfl) λ_ _ _ _=>rfl) (λ_ _ _ _=>dZ<|jk (qP _ _ _) (qv 14) (zb<|xx (qv 5)<|qv 8) (by with_unfolding_all rfl)) λ_ _ _ _=>(qv 14))<|qe<|zj (E_ J (ql j7 (qv 2) qd) qd) (qe<|qy<|z9 (qv 1)<|jn<|zk<|xx (zb<|jo je<|jo (qv 5)<|aT (qv 8) (J_ 4)<|J_ 7)<|qv 13)<|qe<|qy<|z9 (qv 1)<|jn<|zk<|xx (zb<|jo je<|jo (qv 8)<|aT (qv 5) (J_ 7)<|J_ 4)<|qv 13)
theorem VJ:Jo V (gm):=M_ V _ _ B.hp B.D28 T4<|(JX _ _ _ _ _).2 V B.toB0_ ⟨(s_ B),(VD B),(VH B),(VG B),(VI B)⟩
theorem VL:Jp V (iB):=M_ V _ _ B.hp B.D29 Ud<|(jO).2 V B.toB0_ ⟨⟩
theorem VM:Jq V (bO):=M_ V _ _ B.hp B.D30 wB<|(eU).2 V B.toB0_ ⟨⟩
theorem VN:Rf V (dY):=M_ V _ _ B.hp B.D31 xE<|(fI).2 V B.toB0_ ⟨⟩
theorem VO:Jr V (cj):=M_ V 1 [ng,"_law_cuts",nq,"_law_most","_law_kept","_law_parts",nu,"_law_many","_law_made",ni,"_law_bits"] B.hp B.D32 Uo λ_ _ _ _ _ _ _ J hN I=>(qb (S_ 4 hN<|C_ (VN B) J<|xx (qv 0)<|qv 1)<|qb (S_ 5 hN<|zk v5)<|qb (aP yp rfl (xj<|qv 0) (G_ 6 hN)<|qe<|zj (E_ I (L_ B.ba<|qv 6) qd) (qe<|qy<|cT (qv 5)<|jn<|zk<|xx (J_ 6)<|J_ 6) ze)<|qb (r6 "_law_knot'"<|ao (i:=7) j_ rfl (Or.inl rfl)<|L_ B.ba<|dD [nu] (EV (by rfl)) rfl (xj<|qv 0) (gf j_ (λ_ _ _ _=>Or.inl rfl) λ_ _ _ _=>rfl) (λ_ _ _ _=>dZ<|E_ I (J_ 11) je) λ_ _ _ _=>(qv 11))<|qb (S_ 8 hN<|zk v5)<|qb (aP yp rfl (lw rfl B.bq<|qv 0) (vz rfl<|qx (G_ 9 hN)<|qx (G_ 6 hN) xh)<|qb (S_ 10 hN<|ql j7 (C_ (s_ B) J<|aT (qv 2) (qv 9) qd) qd)<|qe<|zj (kj<|gv (E_ I (L_ B.ba<|qv 6) qd)<|da<|jk (IQ _ _ _) (qv 9) (qv 4) (by with_unfolding_all rfl)) (qe<|qy<|z9 (qv 8)<|jn<|qv 6)<|qe<|zj (E_ I (ql j7 (ql vk (qv 2) qd) qd) qd) (qe<|qy<|z9 (qv 8)<|jn<|cX (kj<|wv (E_ I (ql j7 (qv 10) qd) qd)<|vn<|jk (qP _ _ _) (qv 9) (qv 5) (by with_unfolding_all rfl)) gK<|qv 6)<|qe<|zj (kj<|wv (jk gG (qv 10) qd<|jf _)<|vn<|E_ I (J_ 6) je) (qb (qy<|z9 (qv 8)<|jn<|zb<|aT je (J_ 6)<|J_ 6)<|qe<|S_ 7 hN<|ql wy (qv 7) qd)<|qe<|zj (kj<|wv (jk gG (qv 10) qd<|jf _)<|vn<|jk gG (qv 7) (qv 3)<|jf _) (qb (qy<|z9 (qv 8)<|jn<|zb<|aT je (J_ 6)<|J_ 6)<|qe<|S_ 7 hN<|ql js (qv 7) qd)<|qe<|qy<|z9 (qv 8)<|jn<|qv 6)<|qe<|qu<|qv 8)
theorem VP:Rg V (gh V.Pt):=T_ V 1 [ng,nq,"_law_keys",ni,nu,"_law_rank"] B.hp B.D33 TD λ_ _ _ _ _ _ _ C I hN J=>(qb (ao (i:=2) hN rfl (Or.inr rfl)<|zk v5)<|qb (aP yp rfl (lw rfl B.bq<|qv 0) (vz rfl<|qx (G_ 3 hN)<|qx (G_ 4 hN) xh)<|qb (S_ 5 hN<|ql j7 (C_ (s_ B) I<|aT (qv 1) (qv 3) qd) qd)<|v9 (zj (kj<|wv (yj<|qv 4)<|vn<|E_ J (L_ B.ba<|qv 4) qd) (qe<|S_ 5 hN<|ql js (ql js (qv 5) qd)<|zm pK rfl B.bj iz<|xx (I_ (qv 2)<|J_ 4)<|I_ (qv 2)<|J_ 4) ze)<|qe<|qy<|z9 (qv 2)<|jn<|qv 5)<|qe<|qu<|Tg rfl B.bg (wF rfl rfl B.bi rfl B.bh<|L_ B.ba<|qv 0) ⟨rfl,rfl,rfl,by decide +kernel,rfl,rfl,by decide,by decide,by decide⟩ C (Tz I) rfl rfl rfl ⟨_,rfl,rfl⟩ rfl λ_ _ _ _ _ _ _=>rfl)
theorem VQ:Js V (cw V.Pt):=M_ V 2 [ng,"_law_links","_law_cuts",nq,"_law_gaps","_law_at","_law_wide",ni,nu] B.hp B.D34 zM λ_ _ _ _ _ _ _ J hN I=>(qb (ao (i:=5) hN rfl (Or.inr rfl) RH)<|qb (S_ 6 hN<|zk v5)<|qb (aP yp rfl (xj<|C_ (VP B) J<|xx (qv 0)<|qv 3) (G_ 7 hN)<|v9 (zj (kj<|wv (vq<|qv 4)<|vn<|E_ I (ql j7 (C_ (s_ B) J<|aT (qv 3) (qv 7) qd) qd) qd) (qe<|qy<|z9 (qv 6)<|jn gK) ze)<|qb (RI I (qv 5) (qv 7)<|L_ B.ba<|qv 6)<|qb (S_ 8 hN<|I_ (qv 0)<|qv 7)<|v9 (zj (kj<|wv (yj<|qv 8)<|vn<|E_ I (L_ B.ba<|qv 8) qd) (qe<|S_ 8 hN<|zb<|aT (J_ 8) (bW I (qv 5) (J_ 8) λ_ _=>rfl)<|bW I (qv 5) (J_ 8) λ_ _=>rfl) ze)<|qe<|qy<|z9 (qv 6)<|jn<|qv 8)<|qb (r6 "_law_p'"<|ao (i:=1) j_ rfl (Or.inl rfl)<|zm bA rfl B.bg vv<|jn<|dD [ni,"_law_q" ] (EV (by rfl)) rfl (xj<|qv 1) (qQ rfl j_ (λ_ _ _ _=>rfl) λ_ _ _ _=>rfl) (λ_ _ _ _=>cD) λ_ _ _ _=>(zb<|xx (zm qA rfl B.bp i7<|xx (bW I (qv 5) (qv 9) λ_ _=>rfl)<|bW I (qv 5) (qv 10) λ_ _=>rfl)<|zm pK rfl B.bj iz<|xx (bW I (qv 5) (qv 9) λ_ _=>rfl)<|bW I (qv 5) (qv 10) λ_ _=>rfl))<|qb (r6 "_law_p'"<|ao (i:=2) j_ rfl (Or.inl rfl)<|zm bA rfl B.bg vv<|jn<|dD [ni,"_law_q" ] (EV (by rfl)) rfl (xj<|qv 2) (qQ rfl j_ (λ_ _ _ _=>rfl) λ_ _ _ _=>rfl) (λ_ _ _ _=>cD) λ_ _ _ _=>(zb<|xx (bW I (qv 5) (qv 9) λ_ _=>rfl)<|bW I (qv 5) (qv 10) λ_ _=>rfl))<|qe<|qu<|zb<|aT (ql js (qv 6)<|dD ["_law_k"] (EV (by rfl)) rfl (bD rfl B.bh<|jn<|iC Sd rfl B.br wN<|jn<|qv 4) (gf j_ (λ_ _ _ _=>Or.inl rfl) λ_ _ _ _=>rfl) (λ_ _ _ _=>cD) λ_ _ _ _=>gK) (qv 1)<|qv 2)
theorem VR:Rh V (qY V.Pt):=M_ V _ _ B.hp B.D35 Uv<|(gY _ _ _ _ _ _).2 V B.toB0_ ⟨(s_ B),(VJ B),(VL B),(VM B),(VO B),(VQ B)⟩
theorem Fv:Hj V (fZ):=M_ V _ _ B.hp B.D36 UA<|(jY).2 V B.toB0_ ⟨⟩
theorem VS:Jt V (aS):=M_ V _ _ B.hp B.D37 xN<|(eX).2 V B.toB0_ ⟨⟩
theorem VT:Ju V (lS):=M_ V _ _ B.hp B.D38 Vg<|(dG _ _).2 V B.toB0_ ⟨(Fv B),(VS B)⟩
theorem VU:Jv V (lu):=M_ V _ _ B.hp B.D39 Vq<|(dm _ _).2 V B.toB0_ ⟨(Fv B),(Gp B)⟩
theorem VW:Ri V (iE):=M_ V _ _ B.hp B.D40 Vr<|(gA _ _).2 V B.toB0_ ⟨(VT B),(VU B)⟩
theorem J9:Rj V (dg):=M_ V 125 ["_law_web_here","_law_good","e","_law_others"] B.hp B.D41 (xV B.xf) λ_ _ _ _ _ _ _ I hN J=>(qb (S_ 1 hN bZ)<|qb (Rm (i:=2) rfl rfl rfl hN rfl rfl rfl B.md (Rl ((HH B).mono (by decide)) I rfl rfl λ_ _=>(jn<|qv 0)) λ_=>(qb (S_ 3 hN<|Ro rfl B.bf (qv 2) (aD (cG rfl B.me)<|aD (cG rfl B.maa)<|aD (cG rfl B.mf)<|aD (cG rfl B.mz)<|aD (cG rfl B.mj)<|aD (cG rfl B.mm)<|aD (cG rfl B.mab)<|aD (cG rfl B.mw)<|aD (cG rfl B.mac) Rn) rfl<|Ct rfl)<|qe<|S_ 1 hN<|ky (sS rfl B.bf (qv 2) (cG rfl B.mh) rfl)<|ky (sS rfl B.bf (qv 2) (yz rfl B.b_ValueError og) rfl)<|ai<|P'<|qv 3))<|qe<|qu<|qv 1)
theorem dL{f:Addr}{fd:FuncData}(F:Fun V.K "law" "law" u7 f fd):Fn3 V.P V.w V.K V.mg V.base 131 f fd [nh] (l7 V.Pt lamQ):=
 W_ V 130 [nh,nq,"_law_web_here","_law_k","_law_two","_law_bad","_law_handed"] F Vv λ_ _ _ _ _ _ I hN J=>(qb (S_ 1 hN<|ql j7 (C_ (J7 B) I<|xx (qv 0) qd)<|ql IM qd qd)<|qb (S_ 2 hN<|C_ (VR B) I<|jo (qv 0)<|aT (qv 1) qd qd)<|qb (aP yp rfl (bD rfl B.bh<|jn qd) (G_ 3 hN)<|qb (S_ 4 hN<|C_ (s_ B) I<|aT (ql js (ql j7 (C_ (J7 B) I<|xx (qv 0)<|qv 3)<|ql IM qd qd)<|qv 1) (ql js qd<|qv 3) qd)<|qb (S_ 5 hN<|C_ (VW B) I<|jo (qv 2)<|aT (C_ (s_ B) I<|aT (qv 1) (ql js qd<|qv 3) qd) (C_ (s_ B) I<|aT (qv 1) (ql js qd<|qv 3) qd)<|qv 4)<|qb (S_ 6 hN<|C_ (Fv B) I<|jn<|qv 2)<|qb (zj (kj<|gv (kj<|wv (E_ J (ql j7 (ql vk (qv 4) qd) qd) qd)<|vn<|jk J4 (qE ((HH B).mono (by decide)) I rfl Jy rfl<|jn<|qv 6) bZ<|jf _)<|da<|N_ J (qv 6)<|qv 2) (qe<|qu bZ) ze)<|qb (S_ 6 hN<|C_ (Fv B) I<|jn<|qv 5)<|qb (zj (kj<|gv (gQ<|vq<|C_ (J9 B) I<|jn<|qv 6)<|da<|gQ<|vq<|C_ (VC B) I<|xx (qv 6)<|qv 5) (qe<|qu bZ) ze)<|qe<|zj (kj<|gv (jk J4 (qE ((HH B).mono (by decide)) I rfl Jy rfl<|jn<|C_ (Fv B) I<|jn<|qv 2) bZ<|jf _)<|da<|gQ<|vq<|C_ (J9 B) I<|jn<|C_ (Fv B) I<|jn<|qv 5) (qe<|qu bZ) ze)<|qe<|qu bZ)
end
theorem all_mk{l:PySem.W.OpenLaw}{w:Wu}{K:Af}{h:Wv}{mg:Wc}{fa:Addr}{J:Addr}{a3:Option Addr}{a4:Nat}{a5:Array<|Wn}{a1 a2:Tok}{I:Addr}{T:Nat}{U g j o p r t C:Tok}{Ca:Addr}{Cf:Addr}{Ch:Addr}{Ce:Addr}{Cg:Addr}{Ci:Addr}{Cd:Addr}{Cj:Addr}{Cb:Addr}{Ck:Addr}{Cc:Addr}{Pt:Addr}(X:K.In h)(G:h.Ns mainGlobals mg)(ac:mg "law"=some (.ref fa))
 (D:DD K)
 (D33:DefInT K "_law_order" s__law_order Pt)
 (aLEAF_KINDS:PySem.W.nsIn K mainGlobals "LEAF_KINDS"=some (some<|.ref J))
 (lLEAF_KINDS:K.lookup J=some ⟨.type "tuple",a3,.seq #[.str "plain" a1,.str "turned" a2] a4,a5⟩)
 (aTURNED_KINDS:PySem.W.nsIn K mainGlobals "TURNED_KINDS"=some (some<|.ref I))
 (lTURNED_KINDS:K.lookup I=some ⟨.type "dict",none,.dict ((([("plain",U,"turned",p),("turned",g,"plain",r),("both",j,"either",t),("either",o,"both",C)]:List<|Str×Tok×Str×Tok).map<|zA w).toArray) T,#[]⟩)
 (hTURNED_KINDS:(I==sysModules)=false)
 (aCBadWeb:PySem.W.nsIn K mainGlobals "BadWeb"=some (some<|.ref Ca))
 (aCNoWord:PySem.W.nsIn K mainGlobals "NoWord"=some (some<|.ref Cf))
 (aCBadText:PySem.W.nsIn K mainGlobals "BadText"=some (some<|.ref Ch))
 (aCBadTree:PySem.W.nsIn K mainGlobals "BadTree"=some (some<|.ref Ce))
 (aCBadChoices:PySem.W.nsIn K mainGlobals "BadChoices"=some (some<|.ref Cg))
 (aCNoTree:PySem.W.nsIn K mainGlobals "NoTree"=some (some<|.ref Ci))
 (aCNoCut:PySem.W.nsIn K mainGlobals "NoCut"=some (some<|.ref Cd))
 (aCNoExchange:PySem.W.nsIn K mainGlobals "NoExchange"=some (some<|.ref Cj))
 (aCOtherWeb:PySem.W.nsIn K mainGlobals "OtherWeb"=some (some<|.ref Cb))
 (aCTooMany:PySem.W.nsIn K mainGlobals "TooMany"=some (some<|.ref Ck))
 (aCOnceError:PySem.W.nsIn K mainGlobals "OnceError"=some (some<|.ref Cc))
 (qCBadWeb:PySem.W.excIn K Ca [.type "ValueError",.type "Exception",.type "BaseException",.type "object"] "ValueError.__new__"=true)
 (xf:L3.XF32 K Ca Cf Ch Ce Cg Ci Cd Cj Cb Ck Cc)
 (zlen:PySem.W.nsIn K mainGlobals "len"=some none)
 (zset:PySem.W.nsIn K mainGlobals "set"=some none)
 (zall:PySem.W.nsIn K mainGlobals "all"=some none)
 (zrange:PySem.W.nsIn K mainGlobals "range"=some none)
 (zany:PySem.W.nsIn K mainGlobals "any"=some none)
 (zenumerate:PySem.W.nsIn K mainGlobals "enumerate"=some none)
 (zsorted:PySem.W.nsIn K mainGlobals "sorted"=some none)
 (zisinstance:PySem.W.nsIn K mainGlobals "isinstance"=some none)
 (zbool:PySem.W.nsIn K mainGlobals "bool"=some none)
 (zlist:PySem.W.nsIn K mainGlobals "list"=some none)
 (ztuple:PySem.W.nsIn K mainGlobals "tuple"=some none)
 (zzip:PySem.W.nsIn K mainGlobals "zip"=some none)
 (zint:PySem.W.nsIn K mainGlobals "int"=some none)
 (zstr:PySem.W.nsIn K mainGlobals "str"=some none)
 (zmax:PySem.W.nsIn K mainGlobals "max"=some none)
 (zmin:PySem.W.nsIn K mainGlobals "min"=some none)
 (zValueError:PySem.W.nsIn K mainGlobals "ValueError"=some none):
 ∃fd:FuncData,(∀(s:Ws) (v:Wr),BindsTo s fd ⟨[v],[]⟩ [(nh,v)])/\∀base:Wv,K.In base->base.Ns mainGlobals mg->bQ l.prog w K mg base CX0 131 fa fd [nh] (spTopT lamQ K Pt):=by
 obtain⟨fL,kV,al,pm,an,ax,ct,aL,FL⟩:=D.D42.ex;have e:=ac.symm.trans<|Bq X G aL;cases e;refine⟨PySem.W.fnOf "law" "law" (kc u7) (jv u7) (qw u7) .none kV al pm an ax ct,λs v=>.of_eq rfl,λbase _ _=>?_⟩;have B:B_ ⟨l.prog,w,K,mg,base,Pt,Ca,Cf,Ch,Ce,Cg,Ci,Cd,Cj,Cb,Ck,Cc⟩:=⟨⟨A4 X G zlen,A4 X G zset,A4 X G zall,A4 X G zrange,A4 X G zany,A4 X G zenumerate,A4 X G zsorted,A4 X G zisinstance,A4 X G zbool,A4 X G zlist,A4 X G ztuple,A4 X G zzip,A4 X G zint,A4 X G zstr,A4 X G zmax,A4 X G zmin,A4 X G zValueError,⟨J,Bq X G aLEAF_KINDS,λH=>⟨J,[V.str "plain",V.str "turned"],rfl,.inr ⟨_,_,_,lLEAF_KINDS,rfl,rfl,by show 2<=sizeLine;decide,.cons ⟨_,rfl⟩<|.cons ⟨_,rfl⟩<|.nil⟩,⟨_,_,rfl,rfl,⟨_,_,rfl,rfl,rfl⟩⟩⟩⟩,⟨I,Bq X G aTURNED_KINDS,λH=>⟨I,rfl,Pf _ lTURNED_KINDS hTURNED_KINDS (by show 4<=1000;decide) (by show List.Nodup ([Sum.inr "plain",Sum.inr "turned",Sum.inr "both",Sum.inr "either"]:Wz);decide +kernel)⟩⟩⟩,D,⟨h,X,G⟩,D33,Bq X G aCBadWeb,Bq X G aCNoWord,Bq X G aCBadText,Bq X G aCBadTree,Bq X G aCBadChoices,Bq X G aCNoTree,Bq X G aCNoCut,Bq X G aCNoExchange,Bq X G aCOtherWeb,Bq X G aCTooMany,Bq X G aCOnceError,wS qCBadWeb,xf⟩;exact bQ.imp (dL B FL) λvs H Q E q=>Ti q
theorem def_inT{K:Af}{x:Str}{st:Stmt}{f Pt:Addr}{oc:Wr}{od an:Option Addr}{pR:Array<|Wn}{kV hQ pm eW ct:Wr}(a:PySem.W.nsIn K mainGlobals x=some (some<|.ref f))
 (l:K.lookup f=some ⟨oc,od,.func<|PySem.W.fnOf x x (kc st) (jv st) (qw st) .none kV hQ pm an eW ct,pR⟩) (c:PySem.W.codeIn K eW x=true) (k:PySem.W.keepIn K (.ref f)=true) (C:zS K eW Pt):DefInT K x st Pt:=
 ⟨f,kV,hQ,pm,an,eW,ct,a,⟨⟨oc,od,kV,hQ,pm,an,eW,ct,pR,rfl,l,c,C⟩,k⟩⟩
end K14
namespace H14
noncomputable section
open PySem PySem.W PySem.W.X L2 L3 PyProof.Rows
abbrev rr:=PySem.Challenge.rw_oncewise_k14_spoilt_links
abbrev p:Wt:=PySem.Challenge.pw_oncewise_k14_spoilt_links
abbrev top:=L3.top
abbrev J'(i k:Nat):Stmt:=(RJ<|top i).getD k<|.Pass ⟨0,0,0,0⟩
abbrev s(x:Ww):Str:=Str.ofString x
noncomputable abbrev S (x:Ww) (t:Tok):Wr:=.str (Str.ofString x) t
noncomputable abbrev I (i:Int) (t:Tok):Wr:=.int i t
noncomputable abbrev R (a:Addr):Wr:=.ref a
abbrev E(P:Params)(k:Ww)(t:Tok)(v:Wr):DictEntry:=⟨PyData.keyHash P<|Str.ofString k,.str (Str.ofString k) t,v⟩
noncomputable abbrev O (c:Wr) (d:Data):Obj:=⟨c,none,d,#[]⟩
abbrev FN(n q:Ww)(st:Stmt)(I kV hQ pm:Wr)(an:Option Addr)(cd ct:Wr):FuncData:=fnOf (Str.ofString n) (Str.ofString q) (kc st) (jv st) (qw st) I kV hQ pm an cd ct
abbrev FG(n q:Ww)(st:Stmt):FuncData:={fnOf (Str.ofString n) (Str.ofString q) (kc st) (jv st) (qw st) .none .none .none .none none .none .none with globals:=0}
abbrev tu(l:Wh):Obj:=O (.type "tuple")<|.seq l 0
abbrev fo(f:FuncData):Obj:=O (.type "function")<|.func f
abbrev go(f:FuncData):Obj:=O .none<|.func f
abbrev co(n q:Ww)(t l a b c fl v:Nat)(o:Bool)(m k:Nat)(x y z u:Wr)(d:Nat):Obj:=O (.type "code")<|.fields #[S n t,S q<|t+1,S "/claim/cut.py"<|t+2,I l 0,I a 0,I b 0,I c 0,I fl 0,R v,.bool o,I m 0,R k,x,y,z,u,I d 0,I l 0,S "/claim/cut.py"<|d+1]
abbrev kA:Wr:=S "law_oncewise_k14_spoilt_links" 527
abbrev xU:Wr:=S "oncewise.webs" 410
abbrev Ka:Wr:=S "oncewise.words" 377
abbrev fX(n:Ww)(i:Nat)(m:Wr)(r:Nat):Obj:=fo<|FN n n (top i) .none .none .none m none (R r) .none
abbrev gX(n:Ww)(i:Nat):Obj:=go<|FG n n<|top i
abbrev cF(n:Ww)(t l a v d:Nat):Obj:=co n n t l a 0 0 3 v true 181 (v+1) .none (R<|v+2) (R<|v+3) (R<|v+4) d
abbrev cC(n:Ww)(t l v d:Nat):Obj:=co n n t l 0 0 0 0 v false 181 (v+1) .none .none .none .none d
abbrev cS(n:Ww)(a ns k t v:Nat):Obj:=⟨.type "type",none,.cls<|ClassData.mk (s n) [R 24] [R a,R 24,.type "ValueError",.type "Exception",.type "BaseException",.type "object"] ns (s n) true [] [] false none false,#[some<|R k,none,some<|S n t,some<|S n v,some<|.builtin "ValueError.__new__",some<|.bool true]⟩
abbrev dA(P:Params)(a b:Nat)(l:Int)(c d r e:Nat):Obj:=O (.type "dict")<|.dict #[E P "__module__" a<|S "oncewise.errors" 187,E P "__firstlineno__" b<|I l c,E P "__static_attributes__" d<|R r,E P "__doc__" e .none] 2
abbrev dB(P:Params)(a q:Nat)(n:Ww)(J b:Nat)(l:Int)(c d r:Nat):Obj:=O (.type "dict")<|.dict #[E P "__module__" a<|S "oncewise.errors" 187,E P "__qualname__" q<|S n J,E P "__firstlineno__" b<|I l c,E P "__static_attributes__" d<|R r] 4
abbrev fR(a b:Nat):Obj:=⟨.type "frame",none,.plain,#[some<|R a,some<|R 3,some<|R b,none,some<|S "oncewise.errors" 187,none,some<|R 0]⟩
abbrev bI(a:Nat):Obj:=O (.type "builtin_function_or_method")<|.fields #[.builtin "object.__init_subclass__",R a]
abbrev sU(a:Nat):Obj:=O (.type "super")<|.fields #[R a,R a,R a]
abbrev Ob:=Params->Obj
def ev{α:Type}:Bool->List α->List α
 |_,[]=>[]
 |true,x::r=>x::ev false r
 |false,_::r=>ev true r
def bt:Nat->List Obj->BT
 |0,_=>.nil
 |_,[]=>.nil
 |n+1,x::r=>.node x (bt n<|ev true r)<|bt n<|ev false r
def env0:Env:={scope:=p.main.scope,locals:=mainNs,globals:=mainNs,cells:=[],code:=.ref 13,frame:=some 14}
abbrev cE:Code:=.body (behindTheImports p) env0
abbrev q0:Pos:=⟨0,0,0,0⟩
abbrev an:Wn:=some<|.ref 6
abbrev Pc(n:Nat)(S I:Wu->OsState->SharedT)(l:Wl)(q J:Pos)(w:Wu):Prop:=(λos=>segRunT treeTable p w 11 an 1 n (S w os)<|piecesOf l env0 cE q [topFrame q0])=λos=>some (Flow.next,I w os,cE,J)
abbrev b0:=PySem.W.boot_o_0
abbrev b1:=PySem.W.boot_o_1
abbrev b2:=PySem.W.boot_o_2
abbrev b3:=PySem.W.boot_o_3
abbrev b4:=PySem.W.boot_o_4
abbrev b5:=PySem.W.boot_o_5
abbrev b6:=PySem.W.boot_o_6
abbrev b7:=PySem.W.boot_o_7
abbrev b8:=PySem.W.boot_o_8
abbrev b9:=PySem.W.boot_o_9
abbrev Gq:=PySem.W.boot_o_10
def xo:Ob:=λ_=>tu #[]
def aI:Ob:=λ_=>O .none<|.fields #[]
def Gr:Ob:=λ_=>cC "<module>" 182 1 11 185
def HI:Ob:=λ_=>⟨(.type "frame"),none,.plain,#[(some<|R 13),(some<|R 3),(some<|R 3),none,(some<|S "__main__" 164),none,(some<|R 0)]⟩
def Kb:Ob:=λP=>O (.type "dict")<|.dict #[(E P "__module__" 196<|S "oncewise.errors" 187),(E P "__firstlineno__" 200<|I 2 199),(E P "__static_attributes__" 201<|R 22),(E P "__weakref__" 203<|R 25),(E P "__doc__" 204 .none)] 3
def Kc:Ob:=λ_=>O (.type "getset_descriptor")<|.fields #[S "__weakref__" 202,R 24,(.builtin "ExceptionGroup.__weakref__"),.none]
def g_:Ob:=λ_=>O (.type "builtin_function_or_method")<|.fields #[(.builtin "type.__prepare__"),(.type "type")]
def Kd:Ob:=λ_=>cS "NoWord" 37 36 28 207 215
def Ke:Ob:=λP=>dA P 214 218 4 217 219 35 220
def k_:Ob:=λ_=>tu #[R 24]
def Kf:Ob:=λ_=>cS "BadText" 49 48 40 223 231
def Kg:Ob:=λP=>dA P 230 234 6 233 235 47 236
def Kh:Ob:=λ_=>cS "BadWeb" 61 60 52 239 247
def Ki:Ob:=λP=>dA P 246 250 8 249 251 59 252
def Kj:Ob:=λ_=>cS "BadTree" 73 72 64 255 263
def Kk:Ob:=λP=>dA P 262 266 10 265 267 71 268
def Kl:Ob:=λ_=>cS "BadChoices" 85 84 76 271 279
def Km:Ob:=λP=>dA P 278 282 12 281 283 83 284
def Ko:Ob:=λP=>O (.type "dict")<|.dict #[(E P "__module__" 294<|S "oncewise.errors" 187),(E P "__firstlineno__" 298<|I 14 297),(E P "__init__" 307<|R 101),(E P "__static_attributes__" 309<|R 102),(E P "__doc__" 310 .none)] 2
def Kp:Ob:=λ_=>fo<|FN "__init__" "NoTree.__init__" (J' 7 0) .none .none .none (S "oncewise.errors" 187) none (R 100) .none
def Kq:Ob:=λ_=>cS "NoTree" 104 103 88 287 295
def Kr:Ob:=λ_=>co "__init__" "NoTree.__init__" 299 16 3 0 0 3 95 true 181 96 .none (R 97) (R 98) (R 99) 305
def Ks:Ob:=λP=>dA P 320 324 19 323 325 114 326
def Kt:Ob:=λ_=>cS "NoCut" 116 115 107 313 321
def Ku:Ob:=λP=>dA P 336 340 21 339 341 126 342
def Kv:Ob:=λ_=>cS "NoExchange" 128 127 119 329 337
def Kw:Ob:=λP=>dA P 352 356 23 355 357 138 358
def Kx:Ob:=λ_=>cS "OtherWeb" 140 139 131 345 353
def Ky:Ob:=λP=>dA P 368 372 25 371 373 150 374
def Kz:Ob:=λ_=>fX "is_leaf" 15 Ka 162
def KA:Ob:=λ_=>tu #[S "plain" 379,S "turned" 380]
def KC:Ob:=λ_=>cF "turned" 402 32 1 164 407
def KE:Ob:=λ_=>⟨(.type "type"),none,(.cls<|ClassData.mk (s "OnceError") [(.type "ValueError")] [R 24,(.type "ValueError"),(.type "Exception"),(.type "BaseException"),(.type "object")] 23 (s "OnceError") true [] [R 37,R 49,R 61,R 73,R 85,R 104,R 116,R 128,R 140,R 152] false none false),#[(some<|R 15),none,(some<|S "OnceError" 189),(some<|S "OnceError" 197),(some<|.builtin "ValueError.__new__"),(some<|.bool true)]⟩
def KG:Ob:=λ_=>cS "TooMany" 152 151 143 361 369
def KH:Ob:=λP=>O (.type "dict")<|.dict #[(E P "plain" 382<|S "turned" 383),(E P "turned" 384<|S "plain" 385),(E P "both" 386<|S "either" 387),(E P "either" 388<|S "both" 389)] 4
def KI:Ob:=λ_=>cF "is_leaf" 395 30 1 157 399
def KJ:Ob:=λ_=>fX "turned" 16 Ka 169
def KL:Ob:=λ_=>fX "parts_of" 20 xU 190
def KN:Ob:=λ_=>cF "holds_leaf" 421 43 1 178 425
def KO:Ob:=λ_=>cF "is_cut" 496 79 3 242 502
def KP:Ob:=λ_=>cF "each_once" 454 60 1 206 458
def KQ:Ob:=λ_=>fX "word_at" 18 xU 176
def KR:Ob:=λ_=>fX "can_be_cut" 28 xU 240
def KS:Ob:=λ_=>co "are_links" "are_links" 482 73 2 0 0 3 230 true 181 231 .none .none .none (R 232) 485
def KU:Ob:=λ_=>fX "parts_fit" 24 xU 216
def KY:Ob:=λ_=>cF "parts_in" 435 49 1 192 441
def KZ:Ob:=λ_=>fX "is_link" 26 xU 228
def K1:Ob:=λ_=>fX "places_in" 22 xU 204
def K2:Ob:=λ_=>co "are_knots" "are_knots" 467 66 1 0 0 3 218 true 181 219 .none .none .none (R 220) 470
def K3:Ob:=λ_=>fX "are_cuts" 30 xU 252
def K4:Ob:=λ_=>cF "word_at" 412 38 2 171 418
def K5:Ob:=λ_=>cF "can_be_cut" 488 77 2 235 493
def K6:Ob:=λ_=>co "parts_fit" "parts_fit" 461 62 2 0 0 3 213 true 181 214 .none .none .none (R 215) 464
def K7:Ob:=λ_=>fX "holds_leaf" 19 xU 183
def K8:Ob:=λ_=>fX "is_cut" 29 xU 247
def K9:Ob:=λ_=>cF "is_link" 473 69 3 223 479
def K_:Ob:=λ_=>fX "each_once" 23 xU 211
def La:Ob:=λ_=>cF "places_in" 444 54 1 199 451
def Lb:Ob:=λ_=>co "are_cuts" "are_cuts" 505 83 2 0 0 3 249 true 181 250 .none .none .none (R 251) 508
def Lc:Ob:=λ_=>fX "are_links" 27 xU 233
def Ld:Ob:=λ_=>fX "parts_in" 21 xU 197
def Le:Ob:=λ_=>fX "are_knots" 25 xU 221
def Lf:Ob:=λ_=>cF "parts_of" 428 45 1 185 432
def Lg:Ob:=λ_=>cF "_law_mix" 547 118 3 282 553
def Lh:Ob:=λ_=>cF "demand" 511 86 2 254 516
def Li:Ob:=λ_=>fX "_law_flip" 39 kA 306
def Lj:Ob:=λ_=>fX "checked_web" 32 xU 266
def Lk:Ob:=λ_=>cF "_law_word" 562 129 2 294 568
def Ll:Ob:=λ_=>fX "_law_mirror" 41 kA 320
def Lm:Ob:=λ_=>cF "_law_cell_at" 529 97 2 268 534
def Ln:Ob:=λ_=>co "_law_cut" "_law_cut" 618 172 4 0 0 3 334 true 181 335 .none .none .none (R 336) 621
def Lo:Ob:=λ_=>fX "_law_same" 35 kA 280
def Lp:Ob:=λ_=>cF "_law_weight" 579 139 1 308 583
def Lq:Ob:=λ_=>co "_law_join" "_law_join" 600 156 4 0 0 3 322 true 181 323 .none .none .none (R 324) 603
def Lr:Ob:=λ_=>fX "_law_name" 37 kA 292
def Ls:Ob:=λ_=>fX "_law_fold" 43 kA 332
def Lu:Ob:=λ_=>cF "_law_mirror" 586 143 2 315 597
def Lv:Ob:=λ_=>fX "_law_mix" 36 kA 287
def Lw:Ob:=λ_=>cF "_law_same" 537 101 2 275 544
def Lx:Ob:=λ_=>fX "demand" 31 xU 259
def Ly:Ob:=λ_=>co "_law_name" "_law_name" 556 120 2 0 0 3 289 true 181 290 .none .none .none (R 291) 559
def Lz:Ob:=λ_=>cF "_law_fold" 606 164 4 327 615
def LA:Ob:=λ_=>fX "_law_word" 38 kA 299
def LB:Ob:=λ_=>fX "_law_cell_at" 34 kA 273
def LC:Ob:=λ_=>fX "_law_cut" 44 kA 337
def LD:Ob:=λ_=>cF "_law_flip" 571 134 1 301 576
def LG:Ob:=λ_=>cF "checked_web" 519 89 1 261 524
def LH:Ob:=λ_=>fX "_law_weight" 40 kA 313
def LJ:Ob:=λ_=>fX "_law_join" 42 kA 325
def LK:Ob:=λ_=>fX "_law_spoilt" 57 kA 414
def LL:Ob:=λ_=>fX "_law_recast" 49 kA 366
def LM:Ob:=λ_=>co "_law_bad_leaf" "_law_bad_leaf" 725 339 4 0 0 3 404 true 181 405 .none .none .none (R 406) 728
def LN:Ob:=λ_=>fX "_law_crossed" 47 kA 354
def LP:Ob:=λ_=>fX "_law_bad_links" 55 kA 402
def LQ:Ob:=λ_=>fX "_law_gapped" 51 kA 378
def LR:Ob:=λ_=>cF "_law_web" 689 299 4 380 703
def LS:Ob:=λ_=>fX "_law_copy" 53 kA 392
def LU:Ob:=λ_=>cF "_law_beneath" 653 243 2 356 662
def LV:Ob:=λ_=>fX "_law_tree" 45 kA 344
def HJ:Ob:=λ_=>cF "_law_order" 671 277 2 368 680
def LW:Ob:=λ_=>co "_law_matched" "_law_matched" 713 313 3 0 0 3 394 true 181 395 .none .none .none (R 396) 716
def LX:Ob:=λ_=>co "_law_told" "_law_told" 641 223 1 0 0 3 346 true 181 347 .none .none .none (R 348) 644
def LY:Ob:=λ_=>cF "_law_copy" 706 311 1 387 710
def LZ:Ob:=λ_=>fX "_law_bad_leaf" 56 kA 407
def L8:Ob:=λ_=>cF "_law_tree" 624 194 3 339 638
def L9:Ob:=λ_=>fX "_law_web" 52 kA 385
def Ma:Ob:=λ_=>co "_law_crossed" "_law_crossed" 647 233 4 0 0 3 351 true 181 352 .none .none .none (R 353) 650
def Mb:Ob:=λ_=>co "_law_bad_links" "_law_bad_links" 719 322 4 0 0 3 399 true 181 400 .none .none .none (R 401) 722
def Mc:Ob:=λ_=>fX "_law_beneath" 48 kA 361
def Md:Ob:=λ_=>co "_law_gapped" "_law_gapped" 683 285 5 0 0 3 375 true 181 376 .none .none .none (R 377) 686
def Me:Ob:=λ_=>fX "_law_order" 50 kA 373
def Mf:Ob:=λ_=>fX "_law_matched" 54 kA 397
def Mg:Ob:=λ_=>co "_law_recast" "_law_recast" 665 254 4 0 0 3 363 true 181 364 .none .none .none (R 365) 668
def Mh:Ob:=λ_=>cF "_law_spoilt" 731 355 4 409 738
def Mi:Ob:=λ_=>fX "_law_told" 46 kA 349
def Mj:Ob:=λP=>O (.type "dict")<|.dict #[(E P "__name__" 165<|S "law_oncewise_k14_spoilt_links" 527),(E P "__doc__" 166 .none),(E P "__package__" 167 .none),(E P "__loader__" 168<|.builtin "__main__.__loader__#opaque"),(E P "__spec__" 169 .none),(E P "__annotations__" 170<|R 6),(E P "__builtins__" 171<|R 4),(E P "__file__" 173<|S "/claim/cut.py" 172),(E P "__cached__" 174 .none),(E P "OnceError" 206<|R 24),(E P "NoWord" 222<|R 37),(E P "BadText" 238<|R 49),(E P "BadWeb" 254<|R 61),(E P "BadTree" 270<|R 73),(E P "BadChoices" 286<|R 85),(E P "NoTree" 312<|R 104),(E P "NoCut" 328<|R 116),(E P "NoExchange" 344<|R 128),(E P "OtherWeb" 360<|R 140),(E P "TooMany" 376<|R 152),(E P "LEAF_KINDS" 381<|R 155),(E P "TURNED_KINDS" 394<|R 156),(E P "is_leaf" 401<|R 163),(E P "turned" 409<|R 170),(E P "word_at" 420<|R 177),(E P "holds_leaf" 427<|R 184),(E P "parts_of" 434<|R 191),(E P "parts_in" 443<|R 198),(E P "places_in" 453<|R 205),(E P "each_once" 460<|R 212),(E P "parts_fit" 466<|R 217),(E P "are_knots" 472<|R 222),(E P "is_link" 481<|R 229),(E P "are_links" 487<|R 234),(E P "can_be_cut" 495<|R 241),(E P "is_cut" 504<|R 248),(E P "are_cuts" 510<|R 253),(E P "demand" 518<|R 260),(E P "checked_web" 526<|R 267),(E P "_law_cell_at" 536<|R 274),(E P "_law_same" 546<|R 281),(E P "_law_mix" 555<|R 288),(E P "_law_name" 561<|R 293),(E P "_law_word" 570<|R 300),(E P "_law_flip" 578<|R 307),(E P "_law_weight" 585<|R 314),(E P "_law_mirror" 599<|R 321),(E P "_law_join" 605<|R 326),(E P "_law_fold" 617<|R 333),(E P "_law_cut" 623<|R 338),(E P "_law_tree" 640<|R 345),(E P "_law_told" 646<|R 350),(E P "_law_crossed" 652<|R 355),(E P "_law_beneath" 664<|R 362),(E P "_law_recast" 670<|R 367),(E P "_law_order" 682<|R 374),(E P "_law_gapped" 688<|R 379),(E P "_law_web" 705<|R 386),(E P "_law_copy" 712<|R 393),(E P "_law_matched" 718<|R 398),(E P "_law_bad_links" 724<|R 403),(E P "_law_bad_leaf" 730<|R 408),(E P "_law_spoilt" 740<|R 415),(E P "_law_refused" 750<|R 422),(E P "law" 763<|R 429)] 65
def Mk:Ob:=λ_=>cF "_law_refused" 741 359 1 416 748
def Ml:Ob:=λ_=>fX "law" 59 kA 428
def Mm:Ob:=λ_=>cF "law" 751 367 1 423 761
def Mn:Ob:=λ_=>fX "_law_refused" 58 kA 421
def avf:List Ob:=[b0,b1,b2,b3,b4,b5,b6,b7,b8,b9,Gq,xo,aI,Gr,HI]
def aqf:List Ob:=[b0,b1,b2,Mj,b4,b5,b6,b7,b8,b9,Gq,xo,λ_=>O .none<|.fields #[I 2 0,I 0 0,R 20,I 4 0,I 0 0,R 33,I 6 0,I 0 0,R 45,I 8 0,I 0 0,R 57,I 10 0,I 0 0,R 69,I 12 0,I 0 0,R 81,I 14 0,I 0 0,R 93,I 19 0,I 0 0,R 112,I 21 0,I 0 0,R 124,I 23 0,I 0 0,R 136,I 25 0,I 0 0,R 148,I 30 0,I 0 0,R 162,I 32 0,I 0 0,R 169,I 38 0,I 0 0,R 176,I 43 0,I 0 0,R 183,I 45 0,I 0 0,R 190,I 49 0,I 0 0,R 197,I 54 0,I 0 0,R 204,I 60 0,I 0 0,R 211,I 62 0,I 0 0,R 216,I 66 0,I 0 0,R 221,I 69 0,I 0 0,R 228,I 73 0,I 0 0,R 233,I 77 0,I 0 0,R 240,I 79 0,I 0 0,R 247,I 83 0,I 0 0,R 252,I 86 0,I 0 0,R 259,I 89 0,I 0 0,R 266,I 97 0,I 0 0,R 273,I 101 0,I 0 0,R 280,I 118 0,I 0 0,R 287,I 120 0,I 0 0,R 292,I 129 0,I 0 0,R 299,I 134 0,I 0 0,R 306,I 139 0,I 0 0,R 313,I 143 0,I 0 0,R 320,I 156 0,I 0 0,R 325,I 164 0,I 0 0,R 332,I 172 0,I 0 0,R 337,I 194 0,I 0 0,R 344,I 223 0,I 0 0,R 349,I 233 0,I 0 0,R 354,I 243 0,I 0 0,R 361,I 254 0,I 0 0,R 366,I 277 0,I 0 0,R 373,I 285 0,I 0 0,R 378,I 299 0,I 0 0,R 385,I 311 0,I 0 0,R 392,I 313 0,I 0 0,R 397,I 322 0,I 0 0,R 402,I 339 0,I 0 0,R 407,I 355 0,I 0 0,R 414,I 359 0,I 0 0,R 421,I 367 0,I 0 0,R 428],Gr,HI,λ_=>tu #[(.type "ValueError")],g_,λP=>dB P 196 198 "OnceError" 197 200 2 199 201 22,xo,aI,λ_=>cC "OnceError" 191 2 18 194,λ_=>fR 20 17,xo,Kb,KE,Kc,λ_=>sU 24,λ_=>bI 24,k_,g_,λP=>dB P 214 216 "NoWord" 215 218 4 217 219 35,xo,aI,λ_=>cC "NoWord" 209 4 31 212,λ_=>fR 33 30,xo,Ke,Kd,λ_=>sU 37,λ_=>bI 37,k_,g_,λP=>dB P 230 232 "BadText" 231 234 6 233 235 47,xo,aI,λ_=>cC "BadText" 225 6 43 228,λ_=>fR 45 42,xo,Kg,Kf,λ_=>sU 49,λ_=>bI 49,k_,g_,λP=>dB P 246 248 "BadWeb" 247 250 8 249 251 59,xo,aI,λ_=>cC "BadWeb" 241 8 55 244,λ_=>fR 57 54,xo,Ki,Kh,λ_=>sU 61,λ_=>bI 61,k_,g_,λP=>dB P 262 264 "BadTree" 263 266 10 265 267 71,xo,aI,λ_=>cC "BadTree" 257 10 67 260,λ_=>fR 69 66,xo,Kk,Kj,λ_=>sU 73,λ_=>bI 73,k_,g_,λP=>dB P 278 280 "BadChoices" 279 282 12 281 283 83,xo,aI,λ_=>cC "BadChoices" 273 12 79 276,λ_=>fR 81 78,xo,Km,Kl,λ_=>sU 85,λ_=>bI 85,k_,g_,λP=>O (.type "dict")<|.dict #[(E P "__module__" 294<|S "oncewise.errors" 187),(E P "__qualname__" 296<|S "NoTree" 295),(E P "__firstlineno__" 298<|I 14 297),(E P "__init__" 307<|R 101),(E P "__static_attributes__" 309<|R 102)] 5,xo,λ_=>O .none<|.fields #[I 16 0,I 4 0,R 100],λ_=>cC "NoTree" 289 14 91 292,λ_=>fR 93 90,xo,aI,λ_=>tu #[S "self" 302,S "words" 303,S "choices" 304],xo,λ_=>go<|FG "__init__" "NoTree.__init__"<|J' 7 0,Kr,Kp,λ_=>tu #[S "choices" 308],Ko,Kq,λ_=>sU 104,λ_=>bI 104,k_,g_,λP=>dB P 320 322 "NoCut" 321 324 19 323 325 114,xo,aI,λ_=>cC "NoCut" 315 19 110 318,λ_=>fR 112 109,xo,Ks,Kt,λ_=>sU 116,λ_=>bI 116,k_,g_,λP=>dB P 336 338 "NoExchange" 337 340 21 339 341 126,xo,aI,λ_=>cC "NoExchange" 331 21 122 334,λ_=>fR 124 121,xo,Ku,Kv,λ_=>sU 128,λ_=>bI 128,k_,g_,λP=>dB P 352 354 "OtherWeb" 353 356 23 355 357 138,xo,aI,λ_=>cC "OtherWeb" 347 23 134 350,λ_=>fR 136 133,xo,Kw,Kx,λ_=>sU 140,λ_=>bI 140,k_,g_,λP=>dB P 368 370 "TooMany" 369 372 25 371 373 150,xo,aI,λ_=>cC "TooMany" 363 25 146 366,λ_=>fR 148 145,xo,Ky,KG,λ_=>sU 152,λ_=>bI 152,KA,KH,xo,aI,λ_=>tu #[S "word" 398],xo,λ_=>gX "is_leaf" 15,KI,Kz,xo,aI,λ_=>tu #[S "word" 405,S "kind" 406],xo,λ_=>gX "turned" 16,KC,KJ,xo,aI,λ_=>tu #[S "knots" 415,S "place" 416,S "knot" 417],xo,λ_=>gX "word_at" 18,K4,KQ,xo,aI,λ_=>tu #[S "knot" 424],xo,λ_=>gX "holds_leaf" 19,KN,K7,xo,aI,λ_=>tu #[S "knot" 431],xo,λ_=>gX "parts_of" 20,Lf,KL,xo,aI,λ_=>tu #[S "knots" 438,S "parts" 439,S "knot" 440],xo,λ_=>gX "parts_in" 21,KY,Ld,xo,aI,λ_=>tu #[S "pairs" 447,S "places" 448,S "p" 449,S "q" 450],xo,λ_=>gX "places_in" 22,La,K1,xo,aI,λ_=>tu #[S "places" 457],xo,λ_=>gX "each_once" 23,KP,K_,xo,aI,λ_=>gX "parts_fit" 24,K6,KU,xo,aI,λ_=>gX "are_knots" 25,K2,Le,xo,aI,λ_=>tu #[S "knots" 476,S "p" 477,S "q" 478],xo,λ_=>gX "is_link" 26,K9,KZ,xo,aI,λ_=>gX "are_links" 27,KS,Lc,xo,aI,λ_=>tu #[S "knots" 491,S "place" 492],xo,λ_=>gX "can_be_cut" 28,K5,KR,xo,aI,λ_=>tu #[S "knots" 499,S "p" 500,S "q" 501],xo,λ_=>gX "is_cut" 29,KO,K8,xo,aI,λ_=>gX "are_cuts" 30,Lb,K3,xo,aI,λ_=>tu #[S "holds" 514,S "words" 515],xo,λ_=>gX "demand" 31,Lh,Lx,xo,aI,λ_=>tu #[S "web" 522,S "knots" 523],xo,λ_=>gX "checked_web" 32,LG,Lj,xo,aI,λ_=>tu #[S "_law_script" 532,S "_law_k" 533],xo,λ_=>gX "_law_cell_at" 34,Lm,LB,xo,aI,λ_=>tu #[S "_law_found" 540,S "_law_due" 541,S "_law_one" 542,S "_law_other" 543],xo,λ_=>gX "_law_same" 35,Lw,Lo,xo,aI,λ_=>tu #[S "_law_cell" 550,S "_law_k" 551,S "_law_factor" 552],xo,λ_=>gX "_law_mix" 36,Lg,Lv,xo,aI,λ_=>gX "_law_name" 37,Ly,Lr,xo,aI,λ_=>tu #[S "_law_knots" 565,S "_law_p" 566,S "_law_knot" 567],xo,λ_=>gX "_law_word" 38,Lk,LA,xo,aI,λ_=>tu #[S "_law_word_here" 574,S "_law_sides" 575],xo,λ_=>gX "_law_flip" 39,LD,Li,xo,aI,λ_=>tu #[S "_law_word_here" 582],xo,λ_=>gX "_law_weight" 40,Lp,LH,xo,aI,λ_=>tu #[S "_law_knots" 589,S "_law_word_here" 590,S "_law_left" 591,S "_law_right" 592,S "_law_turn" 593,S "_law_same_here" 594,S "_law_low" 595,S "_law_high" 596],xo,λ_=>gX "_law_mirror" 41,Lu,Ll,xo,aI,λ_=>gX "_law_join" 42,Lq,LJ,xo,aI,λ_=>tu #[S "_law_knots" 609,S "_law_tree_here" 610,S "_law_one" 611,S "_law_two" 612,S "_law_left" 613,S "_law_right" 614],xo,λ_=>gX "_law_fold" 43,Lz,Ls,xo,aI,λ_=>gX "_law_cut" 44,Ln,LC,xo,aI,λ_=>tu #[S "_law_cells" 627,S "_law_seed" 628,S "_law_room" 629,S "_law_knots" 630,S "_law_forest" 631,S "_law_k" 632,S "_law_cell" 633,S "_law_one" 634,S "_law_two" 635,S "_law_deed" 636,S "_law_at" 637],xo,λ_=>gX "_law_tree" 45,L8,LV,xo,aI,λ_=>gX "_law_told" 46,LX,Mi,xo,aI,λ_=>gX "_law_crossed" 47,Ma,LN,xo,aI,λ_=>tu #[S "_law_knots" 656,S "_law_cuts" 657,S "_law_todo" 658,S "_law_p" 659,S "_law_q" 660,S "_law_beneath_here" 661],xo,λ_=>gX "_law_beneath" 48,LU,Mc,xo,aI,λ_=>gX "_law_recast" 49,Mg,LL,xo,aI,λ_=>tu #[S "_law_knots" 674,S "_law_seed" 675,S "_law_p" 676,S "_law_knot" 677,S "_law_rank" 678],λ_=>tu #[S "_law_keys" 679],λ_=>gX "_law_order" 50,HJ,Me,xo,aI,λ_=>gX "_law_gapped" 51,Md,LQ,xo,aI,λ_=>tu #[S "_law_script" 692,S "_law_seed" 693,S "_law_room" 694,S "_law_most" 695,S "_law_bits" 696,S "_law_gaps" 697,S "_law_knots" 698,S "_law_rule" 699,S "_law_links" 700,S "_law_cuts" 701,S "_law_k" 702],xo,λ_=>gX "_law_web" 52,LR,L9,xo,aI,λ_=>tu #[S "_law_web_here" 709],xo,λ_=>gX "_law_copy" 53,LY,LS,xo,aI,λ_=>gX "_law_matched" 54,LW,Mf,xo,aI,λ_=>gX "_law_bad_links" 55,Mb,LP,xo,aI,λ_=>gX "_law_bad_leaf" 56,LM,LZ,xo,aI,λ_=>tu #[S "_law_web_here" 734,S "_law_draw" 735,S "_law_one" 736,S "_law_two" 737],xo,λ_=>gX "_law_spoilt" 57,Mh,LK,xo,aI,λ_=>tu #[S "_law_web_here" 744,S "_law_good" 745,S "e" 746,S "_law_others" 747],xo,λ_=>gX "_law_refused" 58,Mk,Mn,xo,aI,λ_=>tu #[S "_law_script" 754,S "_law_seed" 755,S "_law_web_here" 756,S "_law_k" 757,S "_law_two" 758,S "_law_bad" 759,S "_law_handed" 760],xo,λ_=>gX "law" 59,Mm,Ml]
def auv:List Ob:=[b0,b1,b2,b3,b4,b5,b6,b7,b8,b9,Gq,xo,aI,Gr,HI]
def apd:List Ob:=aqf
def VX(P:Params):Wv:=⟨⟨avf.map (· P)⟩,{}⟩
def Gs(P:Params):Wv:=⟨⟨aqf.map (· P)⟩,{}⟩
def VY(P:Params):BT:=bt 20 (auv.map (· P))
def VZ(P:Params):BT:=bt 20 (apd.map (· P))
def sA(w:Wu)(os:OsState):Ws:=⟨VX w.params,#[],{},187,os⟩
def sZ(w:Wu)(os:OsState):Ws:=⟨Gs w.params,#[],{},764,os⟩
def gb(w:Wu)(os:OsState):SharedT:=⟨VY w.params,15,{},#[],{},187,os⟩
def Gu(w:Wu)(os:OsState):SharedT:=⟨VZ w.params,430,{},#[],{},764,os⟩
def FZ:Wl:=((behindTheImports p).drop 0).take 60
theorem V0(w:Wu):(λos=>topGo treeTable p w 11 an 12 ⟨boot_heap w.params,#[],boot_drawn,boot_toks,os⟩<|topStub p)=λos=>some (sA w os,⟨denote treeTable cE,cE,⟨0,0,0,0⟩,[topFrame q0]⟩):=by kernel_rfl
theorem V1(w:Wu):(λos=>segRun treeTable p w 11 an 1 1 (sA w os)<|blockOf (behindTheImports p) env0 cE ⟨0,0,0,0⟩ [topFrame q0])=λos=>some (.next,(gb w os).abs,cE,⟨0,0,0,0⟩):=by kernel_rfl
theorem V2(w:Wu):Pc 3765 gb Gu FZ ⟨0,0,0,0⟩ ⟨367,0,381,15⟩ (w.withFollow "special-get-raises" false):=by kernel_rfl
theorem V3(w:Wu):Pc 3765 gb Gu FZ ⟨0,0,0,0⟩ ⟨367,0,381,15⟩ (w.withFollow "special-get-raises" true):=by kernel_rfl
theorem V4:∀w,Pc 3765 gb Gu FZ ⟨0,0,0,0⟩ ⟨367,0,381,15⟩ w:=byRow2 "special-get-raises" V2 V3
theorem V5(w:Wu):(λos=>topRun treeTable p w 11 an 2 (Gu w os).abs ⟨doneF .next,cE,⟨367,0,381,15⟩,[topFrame q0]⟩)=λos=>some (sZ w os):=by kernel_rfl
theorem V6:FZ++([])=behindTheImports p:=by kernel_rfl
theorem V7(w:Wu)(os:OsState):topRun treeTable p w 11 an (12+(1+(3765+(2)))) ⟨boot_heap w.params,#[],boot_drawn,boot_toks,os⟩ (topStub p)=some (sZ w os):=by have h:=(piece_app (l:=FZ) (rest:=[]) (segRun_of<|Ex (V4 w) os)<|piece_nil (env:=env0)<|Ex (V5 w) os);rw[V6] at h;exact go_top (Ex (V0 w) os)<|piece_block (Ex (V1 w) os) h
def as0:Wi:=[0,1,2,3,4,5,6,7,8,9,10,13,23,24,25,36,37,48,49,60,61,72,73,84,85,100,101,103,104,115,116,127,128,139,140,151,152,155,156,162,163,169,170,176,177,183,184,190,191,197,198,204,205,211,212,216,217,221,222,228,229,233,234,240,241,247,248,252,253,259,260,266,267,273,274,280,281,287,288,292,293,299,300,306,307,313,314,320,321,325,326,332,333,337,338,344,345,349,350,354,355,361,362,366,367,369,373,374,378,379,385,386,392,393,397,398,402,403,407,408,414,415,421,422,428,429]
def vw:Wt:={p with main:={p.main with body:=[top 1,top 2,top 3,top 4,top 5,top 6,top 7,top 8,top 9,top 10,top 11,top 13,top 14,top 15,top 16,top 18,top 19,top 20,top 21,top 22,top 23,top 24,top 25,top 26,top 27,top 28,top 29,top 30,top 31,top 32,top 34,top 35,top 36,top 37,top 38,top 39,top 40,top 41,top 42,top 43,top 44,top 45,top 46,top 47,top 48,top 49,top 50,top 51,top 52,top 53,top 54,top 55,top 56,top 57,top 58,top 59]}}
def K0:Params->Frag:=λP=>(nat_lit 0,b0 P)::(nat_lit 1,b1 P)::(nat_lit 2,b2 P)::(nat_lit 3,Mj P)::(nat_lit 4,b4 P)::(nat_lit 5,b5 P)::(nat_lit 6,b6 P)::(nat_lit 7,b7 P)::(nat_lit 8,b8 P)::(nat_lit 9,b9 P)::(nat_lit 10,Gq P)::(nat_lit 13,Gr P)::(nat_lit 23,Kb P)::(nat_lit 24,KE P)::(nat_lit 25,Kc P)::(nat_lit 36,Ke P)::(nat_lit 37,Kd P)::(nat_lit 48,Kg P)::(nat_lit 49,Kf P)::(nat_lit 60,Ki P)::(nat_lit 61,Kh P)::(nat_lit 72,Kk P)::(nat_lit 73,Kj P)::(nat_lit 84,Km P)::(nat_lit 85,Kl P)::(nat_lit 100,Kr P)::(nat_lit 101,Kp P)::(nat_lit 103,Ko P)::(nat_lit 104,Kq P)::(nat_lit 115,Ks P)::(nat_lit 116,Kt P)::(nat_lit 127,Ku P)::(nat_lit 128,Kv P)::(nat_lit 139,Kw P)::(nat_lit 140,Kx P)::(nat_lit 151,Ky P)::(nat_lit 152,KG P)::(nat_lit 155,KA P)::(nat_lit 156,KH P)::(nat_lit 162,KI P)::(nat_lit 163,Kz P)::(nat_lit 169,KC P)::(nat_lit 170,KJ P)::(nat_lit 176,K4 P)::(nat_lit 177,KQ P)::(nat_lit 183,KN P)::(nat_lit 184,K7 P)::(nat_lit 190,Lf P)::(nat_lit 191,KL P)::(nat_lit 197,KY P)::(nat_lit 198,Ld P)::(nat_lit 204,La P)::(nat_lit 205,K1 P)::(nat_lit 211,KP P)::(nat_lit 212,K_ P)::(nat_lit 216,K6 P)::(nat_lit 217,KU P)::(nat_lit 221,K2 P)::(nat_lit 222,Le P)::(nat_lit 228,K9 P)::(nat_lit 229,KZ P)::(nat_lit 233,KS P)::(nat_lit 234,Lc P)::(nat_lit 240,K5 P)::(nat_lit 241,KR P)::(nat_lit 247,KO P)::(nat_lit 248,K8 P)::(nat_lit 252,Lb P)::(nat_lit 253,K3 P)::(nat_lit 259,Lh P)::(nat_lit 260,Lx P)::(nat_lit 266,LG P)::(nat_lit 267,Lj P)::(nat_lit 273,Lm P)::(nat_lit 274,LB P)::(nat_lit 280,Lw P)::(nat_lit 281,Lo P)::(nat_lit 287,Lg P)::(nat_lit 288,Lv P)::(nat_lit 292,Ly P)::(nat_lit 293,Lr P)::(nat_lit 299,Lk P)::(nat_lit 300,LA P)::(nat_lit 306,LD P)::(nat_lit 307,Li P)::(nat_lit 313,Lp P)::(nat_lit 314,LH P)::(nat_lit 320,Lu P)::(nat_lit 321,Ll P)::(nat_lit 325,Lq P)::(nat_lit 326,LJ P)::(nat_lit 332,Lz P)::(nat_lit 333,Ls P)::(nat_lit 337,Ln P)::(nat_lit 338,LC P)::(nat_lit 344,L8 P)::(nat_lit 345,LV P)::(nat_lit 349,LX P)::(nat_lit 350,Mi P)::(nat_lit 354,Ma P)::(nat_lit 355,LN P)::(nat_lit 361,LU P)::(nat_lit 362,Mc P)::(nat_lit 366,Mg P)::(nat_lit 367,LL P)::(nat_lit 369,aI P)::(nat_lit 373,HJ P)::(nat_lit 374,Me P)::(nat_lit 378,Md P)::(nat_lit 379,LQ P)::(nat_lit 385,LR P)::(nat_lit 386,L9 P)::(nat_lit 392,LY P)::(nat_lit 393,LS P)::(nat_lit 397,LW P)::(nat_lit 398,Mf P)::(nat_lit 402,Mb P)::(nat_lit 403,LP P)::(nat_lit 407,LM P)::(nat_lit 408,LZ P)::(nat_lit 414,Mh P)::(nat_lit 415,LK P)::(nat_lit 421,Mk P)::(nat_lit 422,Mn P)::(nat_lit 428,Mm P)::(nat_lit 429,Ml P)::[]
abbrev lamC:Nat:=373
abbrev lamT:Nat:=369
abbrev lamO:Ob:=HJ
abbrev ls:Wj:=[Str.ofString "TURNED_KINDS"]
abbrev Xt:Ws->Bool:=λs=>xlAt vw [] s&&recOk (RowW.records rr.row.toRowW) s
theorem V8(w:Wu):((boot_heap w.params).isNs mainGlobals&&(#[]:Array GenState).size==0,(boot_heap w.params).objs.size,(boot_heap w.params).nsMap mainGlobals "__annotations__")=(true,11,an):=by kernel_rfl
theorem V9:opening p=plainProg p.main.scope.names:=by kernel_rfl
theorem V'(s:Ws):fenceModules? p s=some s:=by kernel_rfl
theorem Gv(w:Wu):(λos=>(staticsOk (importedModules p.main.body) (boot_heap w.params) (Gs w.params)&&namesBound p (Gs w.params)&&gensDone (sZ w os)&&laidKept (boot_heap w.params) (Gs w.params)))=λ_=>true:=by kernel_rfl
theorem yg(w:Wu):(λos=>openSeen vw ls (importedModules p.main.body) Xt true<|sZ w os)=λ_=>openGood vw ls:=by kernel_rfl
theorem lk3(w:Wu):(λos=>obsZ as0<|sZ w os)=λ_=>valZ K0 430 764 w:=by kernel_rfl
theorem left_:LeftO p vw ls Xt (obsZ as0) (valZ K0 430 764) 7626:=LeftO.of_pieces (boot_open V9 rfl V') V8 V7 rfl λw=>funext λos=>looks_pair (Ex (Gv w) os)<|looks_pair (Ex (yg w) os)<|Ex (lk3 w) os
end
end H14
open PySem PySem.W PyProof.Rows
set_option maxRecDepth 100000 in
set_option maxHeartbeats 0 in
theorem PySem.Challenge.cw_oncewise_k14_spoilt_links_holds : PySem.Challenge.rw_oncewise_k14_spoilt_links.Holds := by
 w_on;refine holds_law (by unfold OpenLaw.wellSaid OpenRow.wellSaid OpenRow.partSaid looksOpen;walk_at "y";walk_at "y";walk_at "y";walk_at "y";walk_at "y";walk_at "y";all_goals decide +kernel) λJ=>?_
 refine holds_openX (q:=H14.vw) (loose:=H14.ls) (Xt:=H14.Xt) (XP:=XL H14.vw []) (Yf:=PySem.W.X.obsZ H14.as0) (Ya:=PySem.W.X.valZ H14.K0 430 764) (N:=7626) H14.left_ (λs e=>xl_of s (Bool.and_eq_true_iff.mp e).1)
  XL.keeps (by rfl) (by rfl) (by rfl) (λs e=>recFacts_of (Bool.and_eq_true_iff.mp e).2)
  (by rfl) (by decide +kernel) (by decide +kernel) ⟨rfl,rfl,rfl,rfl,rfl,by decide +kernel⟩ ?hw ?hc
 case hw=>w_witness2
 k_fill
 refine L2.walk_ofZT (l:=PySem.Challenge.rw_oncewise_k14_spoilt_links) (n:=63) (k:=131) (x:="_law_script") (CX:=L2.CX0) (sp:=L3.spTopT L3.lamQ) rfl (by decide) rfl ⟨rfl,by decide,by decide⟩ (λ_=>rfl) (by decide) ?F ?S ?C
 case F=>
  intro w r t h g G I;have T:(H14.K0 w.params).lookup H14.lamT=some (PySem.W.tabObj #[]):=by k_is
  have U:(H14.K0 w.params).lookup H14.lamC=some (H14.lamO w.params):=by k_is
  have hd:∀h:Wv,h.get? H14.lamC=some (H14.lamO w.params)->PySem.W.CodeHd h H14.lamC H14.lamT:=λh e=>⟨_,_,_,_,_,_,_,_,_,e,rfl,rfl,rfl,rfl,rfl,rfl,rfl,rfl,by decide⟩;have j:(H14.K0 w.params).lookup 4=some (PySem.W.boot_o_4 w.params):=by k_is
  have o:L3.DefInT (L2.lessK H14.lamT<|H14.K0 w.params) "_law_order" L3.s__law_order H14.lamT:=by
   refine' K14.def_inT (L2.ns_dn T ?a) (L2.lk_dn T ?l ?n) (L2.code_dn T ?c) (L2.keep_dn T ?k) ?LC
   (case a=>k_is);(case l=>k_is);(case n=>(intro e;cases e));(case c=>k_is);(case k=>k_is)
   refine'⟨⟨H14.lamC,_,rfl,L2.lk_dn T U ?m,hd⟩,⟨4,_,L2.ns_dn T ?b,by decide,by decide,L2.lk_dn T j ?p,rfl,rfl,rfl⟩⟩
   (case m=>(intro e;cases e));(case b=>k_is);(case p=>(intro e;cases e))
  refine⟨H14.lamT,⟨T,⟨H14.lamC,λh X=>hd h<|X _ _ U⟩,by decide⟩,?_⟩;refine' K14.all_mk (K:=L2.lessK H14.lamT<|H14.K0 w.params) (L2.lessK_in g) G I ?D ?D33 ?aLEAF_KINDS ?lLEAF_KINDS ?aTURNED_KINDS ?lTURNED_KINDS ?hTURNED_KINDS ?aCBadWeb ?aCNoWord ?aCBadText ?aCBadTree ?aCBadChoices ?aCNoTree ?aCNoCut ?aCNoExchange ?aCOtherWeb ?aCTooMany ?aCOnceError ?qCBadWeb ?xf ?zlen ?zset ?zall ?zrange ?zany ?zenumerate ?zsorted ?zisinstance ?zbool ?zlist ?ztuple ?zzip ?zint ?zstr ?zmax ?zmin ?zValueError
  (case aCBadWeb=>(refine' L2.ns_dn T ?_;k_is))
  (case aCNoWord=>(refine' L2.ns_dn T ?_;k_is))
  (case aCBadText=>(refine' L2.ns_dn T ?_;k_is))
  (case aCBadTree=>(refine' L2.ns_dn T ?_;k_is))
  (case aCBadChoices=>(refine' L2.ns_dn T ?_;k_is))
  (case aCNoTree=>(refine' L2.ns_dn T ?_;k_is))
  (case aCNoCut=>(refine' L2.ns_dn T ?_;k_is))
  (case aCNoExchange=>(refine' L2.ns_dn T ?_;k_is))
  (case aCOtherWeb=>(refine' L2.ns_dn T ?_;k_is))
  (case aCTooMany=>(refine' L2.ns_dn T ?_;k_is))
  (case aCOnceError=>(refine' L2.ns_dn T ?_;k_is))
  (case D=>(constructor<;>(refine' L2.def_in (L2.ns_dn T ?a) (L2.lk_dn T ?l ?n) (L2.code_dn T ?c)<|L2.keep_dn T ?k;(case a=>k_is);(case l=>k_is);(case n=>(intro e;cases e));(case c=>k_is);(case k=>k_is))))
  (case D33=>exact o)
  (case aLEAF_KINDS=>(refine' L2.ns_dn T ?_;k_is))
  (case lLEAF_KINDS=>(refine' L2.lk_dn T ?x ?n;(case x=>k_is);(case n=>(intro e;cases e))))
  (case aTURNED_KINDS=>(refine' L2.ns_dn T ?_;k_is))
  (case lTURNED_KINDS=>(refine' L2.lk_dn T ?x ?n;(case x=>k_is);(case n=>(intro e;cases e))))
  (case hTURNED_KINDS=>rfl)
  (case qCBadWeb=>(refine' L2.exc_dn T ?_;k_exc))
  (case xf=>(refine' L3.XF32.dn T ?_;(refine' L3.XF32.mk ?hd ?em ?ot ?on ?ve;(case hd=>(refine' L3.xhd_of ?ga ?gt ?cl ?ge ?tk ?mo ?be ?h;(case ga=>k_is);(case gt=>k_is);(case cl=>k_is);(case ge=>k_is);(case tk=>k_is);(case mo=>k_is);(case be=>k_is);(case h=>k_is)));(case em=>(refine' L3.exm_own ?h0 ?h1 ?h2 ?h3;(case h0=>k_is);(case h1=>k_is);(case h2=>k_is);(case h3=>k_is)));(case ot=>(refine' L3.kitAny_no ?z ?_;(case z=>(refine' L3.kit_own ?a ?b ?c ?d;(case a=>rfl);(case b=>k_is);(case c=>k_is);(case d=>k_is)));refine' L3.kitAny_no ?z ?_;(case z=>(refine' L3.kit_own ?a ?b ?c ?d;(case a=>rfl);(case b=>k_is);(case c=>k_is);(case d=>k_is)));refine' L3.kitAny_no ?z ?_;(case z=>(refine' L3.kit_own ?a ?b ?c ?d;(case a=>rfl);(case b=>k_is);(case c=>k_is);(case d=>k_is)));refine' L3.kitAny_no ?z ?_;(case z=>(refine' L3.kit_own ?a ?b ?c ?d;(case a=>rfl);(case b=>k_is);(case c=>k_is);(case d=>k_is)));refine' L3.kitAny_no ?z ?_;(case z=>(refine' L3.kit_own ?a ?b ?c ?d;(case a=>rfl);(case b=>k_is);(case c=>k_is);(case d=>k_is)));refine' L3.kitAny_no ?z ?_;(case z=>(refine' L3.kit_own ?a ?b ?c ?d;(case a=>rfl);(case b=>k_is);(case c=>k_is);(case d=>k_is)));refine' L3.kitAny_no ?z ?_;(case z=>(refine' L3.kit_own ?a ?b ?c ?d;(case a=>rfl);(case b=>k_is);(case c=>k_is);(case d=>k_is)));refine' L3.kitAny_no ?z ?_;(case z=>(refine' L3.kit_own ?a ?b ?c ?d;(case a=>rfl);(case b=>k_is);(case c=>k_is);(case d=>k_is)));refine' L3.kitAny_no ?z ?_;(case z=>(refine' L3.kit_own ?a ?b ?c ?d;(case a=>rfl);(case b=>k_is);(case c=>k_is);(case d=>k_is)));exact rfl));(case on=>(refine' L3.kit_own ?a ?b ?c ?d;(case a=>rfl);(case b=>k_is);(case c=>k_is);(case d=>k_is)));(case ve=>(refine' L3.kit_blt ?a ?b;(case a=>rfl);(case b=>k_is))))))
  (case zlen|zset|zall|zrange|zany|zenumerate|zsorted|zisinstance|zbool|zlist|ztuple|zzip|zint|zstr|zmax|zmin|zValueError=>(refine' L2.ns_dn T ?_;k_is))
 case S=>exact L3.top_startT
 case C=>exactλ_ _ _ _ z=>z
#print axioms PySem.Challenge.cw_oncewise_k14_spoilt_links_holds
