import PyProof.Rows.All
import Wide.All
import OpenK.AllK
import Wide.FinOn
import Lean
import PyProof.EqAt
import PyProof.EqKinds
import PyProof.TupleCall
import PyProof.NeKinds
import PySem.Challenge.RW_oncewise_k12_ends_and_eithers
import OpenK.ZGo
set_option genSizeOf false
set_option Elab.async false
set_option linter.all false
set_option maxRecDepth 100000
abbrev Aa:=@PySem.wpAny_bind
abbrev Ab:=@PyProof.Rows.wpS_bind
abbrev Ac:=@PyProof.Rows.wpS_pure
abbrev Ad:=@List.length_append
abbrev Ae:=@List.length_map
abbrev Af:=@PySem.W.Frag
abbrev Ag:=@List.mem_append_right
abbrev Ah:=@PySem.wpAny_pure
abbrev Ai:=@List.mem_cons_of_mem
abbrev Aj:=@List.getElem?_eq_getElem
abbrev Ak:=@Nat.lt_of_lt_of_le
abbrev Al:=@List.mem_append
abbrev Am:=@List.getElem?_append_right
abbrev An:=@Nat.le_refl
abbrev Ao:=@List.size_toArray
abbrev Ap:=@List.getElem?_map
abbrev Aq:=@decide_eq_false
abbrev Ar:=@Option.map_eq_some_iff
abbrev As:=@List.mem_cons
abbrev Au:=@List.nodup_cons
abbrev Av:=@List.mem_cons_self
abbrev Aw:=@List.mem_append_left
abbrev Ax:=@if_neg
abbrev Ay:=@List.append_assoc
abbrev Az:=@List.getElem?_append_left
abbrev AA:=@Bool.false_ne_true
abbrev AB:=@if_pos
abbrev AC:=@List.mem_singleton
abbrev AD:=@decide_eq_true
abbrev AE:=@List.map_cons
abbrev AF:=@List.length_cons
abbrev AG:=@List.map_append
abbrev AH:=@PyProof.Rows.wpS_forRange
abbrev AI:=@List.nodup_append
abbrev AJ:=@Array.length_toList
abbrev AK:=@Ne.symm
abbrev AL:=@List.length_take
abbrev AM:=@List.mem_of_getElem?
abbrev AN:=@List.pairwise_append
abbrev AO:=@List.flatMap_append
abbrev AQ:=@PyProof.Rows.wpS_mono
abbrev AR:=@List.append_nil
abbrev AS:=@List.flatMap_cons
abbrev AU:=@List.getElem?_eq_some_iff
abbrev AV:=@PySem.wpAny_mono
abbrev AW:=@Nat.le_trans
abbrev AX:=@Bool.and_eq_true
abbrev AY:=@Array.getElem?_toList
abbrev AZ:=@Array.toList_append
abbrev A1:=@List.getElem_of_mem
abbrev A2:=@Nat.le_add_right
abbrev A3:=@Nat.ne_of_lt
abbrev A4:=@PySem.wpAny_field
abbrev A5:=@List.not_mem_nil
abbrev A6:=@Option.some.inj
abbrev A7:=@PySem.wpAny_holding
abbrev A8:=@List.perm_append_comm
abbrev A9:=@PySem.W.mg_none_of
abbrev Ba:=@List.take_of_length_le
abbrev Bb:=@List.mem_range
abbrev Bc:=@List.perm_append_right_iff
abbrev Bd:=@List.take_append_drop
abbrev Be:=@PySem.wpAny_newObj_type
abbrev Bf:=@Nat.zero_le
abbrev Bg:=@Array.size_push
abbrev Bh:=@List.mem_flatMap
abbrev Bi:=@List.getElem?_set_ne
abbrev Bj:=@Nat.succ_pos
abbrev Bk:=@PySem.W.kia_one
abbrev Bl:=@PySem.wpAny_rule
abbrev Bm:=@List.getD_eq_getElem?_getD
abbrev Bn:=@List.getElem_take
abbrev Bo:=@List.perm_append_left_iff
abbrev Bp:=@List.take_succ
abbrev Bq:=@List.length_drop
abbrev Br:=@List.lookup_cons
abbrev Bs:=@List.take_length
abbrev Bu:=@PySem.mem_of_lookup
abbrev Bv:=@Nat.le_of_lt
abbrev Bw:=@PySem.wpAny_seqItems
abbrev Bx:=@List.mem_of_mem_take
abbrev Bz:=@List.mem_erase_of_ne
abbrev BA:=@congrArg
abbrev BB:=@Bool.eq_iff_iff
abbrev BC:=@List.find?_cons
abbrev BD:=@Int.le_trans
abbrev BE:=@Array.size_append
abbrev BF:=@Int.le_of_lt
abbrev BG:=@List.Perm.refl
abbrev BH:=@List.mem_map
abbrev BI:=@List.map_map
abbrev BJ:=@List.drop_eq_getElem_cons
abbrev BK:=@List.length_replicate
abbrev BL:=@List.length_singleton
abbrev BM:=@Nat.lt_of_le_of_lt
abbrev BN:=@Int.toNat_natCast
abbrev BO:=@PySem.W.kia_tup
abbrev BP:=@List.getElem?_set_self
abbrev BQ:=@PyProof.Rows.callWith_type1
abbrev BR:=@List.perm_middle
abbrev BS:=@Bool.false_eq_true
abbrev BU:=@List.perm_append_singleton
abbrev BV:=@List.perm_ext_iff_of_nodup
abbrev BW:=@List.pairwise_iff_getElem
abbrev BX:=@List.mem_filter
abbrev BY:=@List.length_set
abbrev BZ:=@List.length_range
abbrev B3:=@List.getElem_drop
abbrev B4:=@List.pairwise_map
abbrev B5:=@Nat.lt_succ_of_lt
abbrev B6:=@List.any_cons
abbrev B7:=@List.Pairwise.imp_of_mem
abbrev B8:=@PyProof.Rows.slot_tuple_getitem
abbrev B9:=@List.mem_map_of_mem
abbrev Ca:=@List.getElem?_replicate
abbrev Cb:=@List.eraseIdx_cons_succ
abbrev Cc:=@Nat.add_sub_cancel_left
abbrev Cd:=@List.getElem_mem
abbrev Ce:=@Int.mul_le_mul_of_nonneg_right
abbrev Cf:=@List.take_append_of_le_length
abbrev Cg:=@List.eq_nil_of_length_eq_zero
abbrev Ci:=@List.filter_append
abbrev Cj:=@List.filter_nil
abbrev Ck:=@Nat.min_eq_left
abbrev Cm:=@Nat.not_lt_zero
abbrev Cn:=@Int.ofNat_inj
abbrev Co:=@List.getElem?_eq_none
abbrev Cp:=@PySem.W.kitx_list
abbrev Cq:=@Array.toList_push
abbrev Cr:=@List.flatten_cons
abbrev Cs:=@Nat.le_succ
abbrev Ct:=@List.mem_of_mem_drop
abbrev Cu:=@Array.toList_reverse
abbrev Cv:=@Nat.le_sub_one_of_lt
abbrev Cw:=@List.all_eq_true
abbrev Cy:=@Nat.sub_self
abbrev Cz:=@List.filterMap_cons
abbrev CA:=@List.reverse_append
abbrev CB:=@List.flatten_append
abbrev CC:=@List.map_congr_left
abbrev CD:=@List.cons.inj
abbrev CF:=@List.forIn_cons
abbrev CG:=@Array.size_extract
abbrev CH:=@Int.natCast_nonneg
abbrev CI:=@List.getElem?_cons_succ
abbrev CK:=@List.length_eraseIdx_le
abbrev CL:=@Int.le_refl
abbrev CM:=@List.eraseIdx_append_of_length_le
abbrev CN:=@List.map_nil
abbrev CO:=@Bool.and_false
abbrev CP:=@List.drop_drop
abbrev CQ:=@List.drop_left
abbrev CS:=@List.getElem_cons_drop
abbrev CT:=@List.mem_range'_1
abbrev CU:=@List.Perm.append_right
abbrev CV:=@List.eraseIdxIfInBounds_toArray
abbrev CW:=@Nat.le_of_ble_eq_true
abbrev CY:=@List.singleton_append
abbrev CZ:=@List.length_filter_le
abbrev C0:=@List.Perm.append_left
abbrev C1:=@Nat.max_eq_right
abbrev C2:=@List.nodup_range
abbrev C3:=@List.flatMap_nil
abbrev C4:=@Nat.lt_irrefl
abbrev C5:=@PySem.W.mg_of
abbrev C6:=@List.sum_cons
abbrev C7:=@List.drop_append_of_le_length
abbrev C8:=@congrFun
abbrev C9:=@List.of_mem_zip
abbrev Dc:=@Nat.max_eq_left
abbrev De:=@List.length_zip
abbrev Df:=@Int.emod_nonneg
abbrev Dg:=@List.length_pos_iff
abbrev Dh:=@Nat.ne_of_gt
abbrev Di:=@Nat.lt_trans
abbrev Dj:=@Int.add_mul_emod_self_right
abbrev Dk:=@Int.zero_add
abbrev Dl:=@PySem.W.kitx_tuple
abbrev Dm:=@Nat.lt_or_eq_of_le
abbrev Dn:=@List.getElem?_take
abbrev Do:=@List.getElem?_drop
abbrev Dp:=@List.nodup_nil
abbrev Dq:=@Int.emod_lt_of_pos
abbrev Dr:=@decide_eq_true_iff
abbrev Ds:=@List.append_of_mem
abbrev Dt:=@PySem.F.slot_dict_getitem
abbrev Du:=@PySem.W.kitx_dict
abbrev Dv:=@List.take_sublist
abbrev Dw:=@Nat.le_succ_of_le
abbrev Dx:=@List.nodup_range'
abbrev Dy:=@List.set_comm
abbrev Dz:=@List.getElem?_take_of_lt
abbrev DA:=@List.all_cons
abbrev DB:=@List.getElem_append_left
abbrev DC:=@PySem.F.plainAttrs_list
abbrev DD:=@List.zipIdx_cons
abbrev DE:=@List.range'_succ
abbrev DF:=@List.getElem?_set_self'
abbrev DG:=@List.filter_cons_of_neg
abbrev DH:=@List.filter_cons_of_pos
abbrev DI:=@PySem.W.cellsFrom_some
abbrev DJ:=@Nat.zero_add
abbrev DK:=@Nat.lt_or_ge
abbrev DL:=@Bool.or_eq_true
abbrev DM:=@List.nil_append
abbrev DN:=@beq_false_of_ne
abbrev DO:=@List.range_succ
abbrev DP:=@List.forIn_nil
abbrev DQ:=@List.drop_zero
abbrev DR:=@Bool.and_true
abbrev DS:=@Prod.ext
namespace L2
open PySem PyProof.Rows
theorem afh{M:Model}{Γ:Ctx}{p:Pos}{t:Sem Fin}{fs:List Frame}{s s':Shared}{e:End}(h:Runs M Γ p t fs s e s'):s.toks≤s'.toks:=by
 induction h with
 |fresh _ ih=>exact AW (Cs _) ih
 |call _ _ ih1 ih2=>exact AW ih1 ih2
 |resumeFresh _ _ _ _ ih1 ih2=>exact AW ih1 ih2
 |resumeSuspended _ _ _ _ ih1 ih2=>exact AW ih1 ih2
 |segRet _ _ ih1 ih2=>exact AW ih1 ih2
 |segGen _ _ ih1 ih2=>exact AW ih1 ih2
 |segSuspGen _ _ _ _ ih1 ih2=>exact AW ih1 ih2
 |_=>first | exact An _ | assumption
theorem aoq{M:Model}{Γ:Ctx}{p:Pos}{g:Nat}{r:Resume}{s s':Shared}{res:GenResult}(h:Wakes M Γ p g r s res s'):s.toks≤s'.toks:=by
 unfold Wakes at h
 split at h
 ·exact h.elim
 ·split at h
  ·obtain⟨e,s1,hr,_,_,rfl⟩:=h;have q:=afh hr;exact q
  ·obtain⟨_,rfl⟩:=h;exact An _
  ·obtain⟨_,rfl⟩:=h;exact An _
 ·obtain⟨e,s1,hr,_,_,rfl⟩:=h;have q:=afh hr;exact q
 ·obtain⟨_,rfl⟩:=h;exact An _
 ·obtain⟨_,rfl⟩:=h;exact An _
theorem awi{α:Type}{M:Model}{Γ:Ctx}(t:Sem α):∀{Q:α->Pos->Shared->Prop} {E:Value->Pos->Shared->Prop} {p:Pos} {s:Shared} (n:Nat),n≤s.toks->Sem.wp M Γ t Q E p s->Sem.wp M Γ t (fun a p' s'=>Q a p' s'/\n≤s'.toks) (fun e p' s'=>E e p' s'/\n≤s'.toks) p s:=by
 induction t with
 |pure a=>intro Q E p s n hn h;exact⟨h,hn⟩
 |raise e=>intro Q E p s n hn h;exact⟨h,hn⟩
 |load a part k ih=>intro Q E p s n hn ⟨o,h1,h2⟩;exact⟨o,h1,ih o n hn h2⟩
 |update a part f k ih=>intro Q E p s n hn ⟨h1,h2⟩;exact⟨h1,ih () n hn h2⟩
 |fresh k ih=>intro Q E p s n hn h;exact ih s.toks n (AW hn (Cs _)) h
 |choose src m k ih=>intro Q E p s n hn ⟨h1,h2⟩;exact⟨h1,ih _ n hn h2⟩
 |call c hd g l k ih=>intro Q E p s n hn ⟨r,s',h1,h2⟩;exact⟨r,s',h1,ih r n (AW hn (afh h1)) h2⟩
 |genState g k ih=>intro Q E p s n hn ⟨st,h1,h2⟩;exact⟨st,h1,ih _ n hn h2⟩
 |resume g r l k ih=>intro Q E p s n hn ⟨res,s',h1,h2⟩;exact⟨res,s',h1,ih _ n (AW hn (aoq h1)) h2⟩
 |rule tag k ih=>intro Q E p s n hn h;exact ih () n hn h
 |«at» pos k ih=>intro Q E p s n hn h;exact ih () n hn h
 |alloc o k ih=>intro Q E p s n hn h;exact ih _ n hn h
 |loadIfAlive a k ih=>intro Q E p s n hn h;exact ih _ n hn h
 |point l k ih=>intro Q E p s n hn h;exact ih _ n hn h
 |ask k ih=>intro Q E p s n hn h;exact ih _ n hn h
 |os q l k ih=>intro Q E p s n hn h;exact ih _ n hn h
 |handled own k ih=>intro Q E p s n hn h;exact ih _ n hn h
 |newGen c k ih=>intro Q E p s n hn h;exact ih _ n hn h
 |stack k ih=>intro Q E p s n hn h;exact ih _ n hn h
 |thread k ih=>intro Q E p s n hn h;exact ih _ n hn h
 |unsupported w=>intro Q E p s n hn h;exact h.elim
 |finish e=>intro Q E p s n hn h;exact h.elim
 |register a k ih=>intro Q E p s n hn h;exact h.elim
 |yield v g l k ih=>intro Q E p s n hn h;exact h.elim
 |fork c k ih=>intro Q E p s n hn h;exact h.elim
 |await a f d l k ih=>intro Q E p s n hn h;exact h.elim
theorem aoz{α:Type}{M:Model}{A:Around}{t:Sem α}{Q:α->Shared->Prop}{E:Value->Shared->Prop}{s:Shared}(h:wpAny M A t Q E s):wpAny M A t (fun a s'=>Q a s'/\s.toks≤s'.toks) (fun e s'=>E e s'/\s.toks≤s'.toks) s:=
 fun Γ p hΓ=>awi t s.toks (An _) (h Γ p hΓ)
theorem ji{α:Type}{M:Model}{A:Around}{t:Sem α}{Q:α->Shared->Prop}{E:Value->Shared->Prop}{s:Shared}(hp:0<s.toks)(h:wpAny M A t (fun a s'=>0<s'.toks->Q a s') (fun e s'=>0<s'.toks->E e s') s):wpAny M A t Q E s:=
 AV (aoz h) (fun _ _ z=>z.1 (Ak hp z.2)) fun _ _ z=>z.1 (Ak hp z.2)
open PySem PySem.Spec PyProof.Rows
abbrev Key:=Sum Int Str
def ahj:Key->Value->Bool
 |.inl k,v=>Value.isInt k v
 |.inr x,v=>Value.isStrOf x v
def a2s(w:World):Key->Int
 |.inl k=>hashInt k
 |.inr x=>hashStr w x
theorem jz:∀{k:Key} {v:Value},ahj k v=true->(∃i t,k=Sum.inl i/\v=Value.int i t)\/(∃x t,k=Sum.inr x/\v=Value.str x t)
 |.inl i,v,h=>by
  obtain⟨t,e⟩:=Value.isInt_shape (k:=i) (v:=v) h;exact .inl ⟨i,t,rfl,e⟩
 |.inr x,v,h=>by
  obtain⟨t,e⟩:=Value.isStrOf_shape (x:=x) (v:=v) h;exact .inr ⟨x,t,rfl,e⟩
theorem art(i:Int)(t:Tok):ahj (.inl i) (.int i t)=true:=by simp[ahj,Value.isInt]
theorem aqu(x:Str)(t:Tok):ahj (.inr x) (.str x t)=true:=by simp[ahj,Value.isStrOf]
theorem a06(a b:Int):decide ((Sum.inl a:Key)=Sum.inl b)=(a==b):=by
 by_cases e:a=b
 ·subst e;simp
 ·have h:¬(Sum.inl a:Key)=Sum.inl b:=fun q=>e (Sum.inl.inj q);rw[Aq h];exact(beq_eq_false_iff_ne.mpr e).symm
theorem aya(a b:Str):decide ((Sum.inr a:Key)=Sum.inr b)=decide (a=b):=by
 by_cases e:a=b
 ·subst e;simp
 ·have h:¬(Sum.inr a:Key)=Sum.inr b:=fun q=>e (Sum.inr.inj q);rw[Aq h,Aq e]
theorem azb(a:Int)(b:Str):decide ((Sum.inl a:Key)=Sum.inr b)=false:=Aq (fun q=>nomatch q)
theorem ayx(a:Str)(b:Int):decide ((Sum.inr a:Key)=Sum.inl b)=false:=Aq (fun q=>nomatch q)
def jv(prog:Program)(w:World):PySem.KeyKind prog w Key where
 is:=ahj
 hash:=a2s w
 inj:=fun v a b ha hb=>by
  rcases jz ha with⟨i,t,rfl,rfl⟩ | ⟨x,t,rfl,rfl⟩
  ·rcases jz hb with⟨j,u,rfl,e⟩ | ⟨y,u,rfl,e⟩
   ·injection e with e1 _;rw[e1]
   ·exact nomatch e
  ·rcases jz hb with⟨j,u,rfl,e⟩ | ⟨y,u,rfl,e⟩
   ·exact nomatch e
   ·injection e with e1 _;rw[e1]
 byValue:=fun k v h=>by
  rcases jz h with⟨i,t,rfl,rfl⟩ | ⟨x,t,rfl,rfl⟩<;>rfl
 pyHash:=fun hv h=>by
  rcases jz hv with⟨i,t,rfl,rfl⟩ | ⟨x,t,rfl,rfl⟩
  ·exact wpAny_pyHash_int h
  ·exact wpAny_pyHash_str h
 eqBool:=fun hu hv h=>by
  rcases jz hu with⟨i,t,rfl,rfl⟩ | ⟨x,t,rfl,rfl⟩
  ·rcases jz hv with⟨j,u,rfl,rfl⟩ | ⟨y,u,rfl,rfl⟩
   ·rw[a06] at h;exact wpAny_eqBool_int h
   ·rw[azb] at h;exact SeqAt.EqAt.int_str i t y u _ _ _ _ h
  ·rcases jz hv with⟨j,u,rfl,rfl⟩ | ⟨y,u,rfl,rfl⟩
   ·rw[ayx] at h;exact SeqAt.EqAt.str_int x t j u _ _ _ _ h
   ·rw[aya] at h;exact wpAny_eqBool_str h
 «strs» := fun k x t v h=>by
  rcases jz h with⟨i,u,rfl,e⟩ | ⟨y,u,rfl,e⟩
  ·exact nomatch e
  ·injection e with e1 _
   subst e1;cases v<;>rfl
theorem aln(prog:Program)(w:World)(i:Int)(t:Tok):(jv prog w).is (.inl i) (.int i t)=true:=art i t
theorem alt(prog:Program)(w:World)(x:Str)(t:Tok):(jv prog w).is (.inr x) (.str x t)=true:=aqu x t
inductive V where
 |non | bl (b:Bool) | int (i:Int) | str (x:Str) | byt (b:Array UInt8) | flt (b:UInt64) | ref (a:Addr) | ty (n:String)
 deriving DecidableEq
def RelV:V->Value->Prop
 |.non,u=>u=Value.none
 |.bl b,u=>u=Value.bool b
 |.int i,u=>∃t,u=Value.int i t
 |.str x,u=>∃t,u=Value.str x t
 |.byt b,u=>∃t,u=Value.bytes b t
 |.flt b,u=>∃t,u=Value.float b t
 |.ref a,u=>u=Value.ref a
 |.ty n,u=>u=Value.type n
abbrev Vals:List V->List Value->Prop:=Paired RelV
theorem Vals.length{xs:List V}{us:List Value}(r:Vals xs us):xs.length=us.length:=Paired.length r
theorem Vals.get:∀{xs:List V} {us:List Value} {i:Nat} {x:V},Vals xs us->xs[i]?=some x->∃u,us[i]?=some u/\RelV x u
 |_,_,_,_,.nil,e=>by simp at e
 |_,_,0,_,.cons r _,e=>by simp at e;subst e;exact⟨_,rfl,r⟩
 |_,_,i+1,x,.cons _ t,e=>by
  obtain⟨u,h1,h2⟩:=Vals.get (i:=i) (x:=x) t (by simpa using e);exact⟨u,by simpa using h1,h2⟩
theorem Vals.set{x:V}{u:Value}(r:RelV x u):∀{xs:List V} {us:List Value} (i:Nat),Vals xs us->Vals (xs.set i x) (us.set i u)
 |_,_,_,.nil=>.nil
 |_,_,0,.cons _ t=>.cons r t
 |_,_,i+1,.cons q t=>.cons q (Vals.set r i t)
theorem Vals.append:∀{xs ys:List V} {us ws:List Value},Vals xs us->Vals ys ws->Vals (xs++ys) (us++ws)
 |_,_,_,_,.nil,s=>s
 |_,_,_,_,.cons r t,s=>.cons r (Vals.append t s)
theorem Vals.take:∀{xs:List V} {us:List Value} (n:Nat),Vals xs us->Vals (xs.take n) (us.take n)
 |_,_,0,_=>.nil
 |_,_,_+1,.nil=>.nil
 |_,_,n+1,.cons r t=>.cons r (Vals.take n t)
theorem Vals.drop:∀{xs:List V} {us:List Value} (n:Nat),Vals xs us->Vals (xs.drop n) (us.drop n)
 |_,_,0,r=>r
 |_,_,_+1,.nil=>.nil
 |_,_,n+1,.cons _ t=>Vals.drop n t
def RelO:Option V->Option Value->Prop
 |some v,some u=>RelV v u
 |none,none=>True
 |_,_=>False
def KV{κ:Type}:List (κ×V)->List (κ×Value)->Prop:=Paired fun(p:κ×V) (q:κ×Value)=>p.1=q.1/\RelV p.2 q.2
def kV:Key->V
 |.inl i=>.int i
 |.inr x=>.str x
inductive HO where
 |lst (xs:List V)
 |tup (xs:List V)
 |dK (kvs:List (Key×V)) | dT (kvs:List (List Key×V))
 |set (S:Int->Bool) (n:Nat)
 |ins (C dx:Addr) (fs:List (Str×V))
 |own (x:Addr)
 |xd (fs:List (Str×V))
 |met (f x:Addr)
 |rng (lo hi:Int)
 |frz (o:Obj) (u:HO)
 |tbl (ps:Array Value)
 |ext (φ:Heap->Prop)
abbrev Hp:=Addr->Option HO
def upd(H:Hp)(a:Addr)(o:HO):Hp:=fun b=>if b=a then some o else H b
theorem zv{H:Hp}{a:Addr}{o:HO}:upd H a o a=some o:=by unfold upd;rw[AB rfl]
theorem qr{H:Hp}{a b:Addr}{o:HO}(h:b≠a):upd H a o b=H b:=by unfold upd;rw[Ax h]
theorem aux{H:Hp}{a:Addr}{o u:HO}:upd (upd H a o) a u=upd H a u:=by
 funext b;unfold upd;split<;>rfl
theorem a1y{H:Hp}{a b:Addr}{o u:HO}(h:H a=some o)(h':H b=some u)(d:o≠u):a≠b:=by
 intro e;subst e;rw[h] at h';exact d (A6 h')
theorem zq{H:Hp}{a b:Addr}{o:HO}(h:H a=some o)(h':H b=none):a≠b:=by
 intro e;subst e;rw[h] at h';cases h'
section
variable (P:Program)(w:World)
def ObjOk(H:Hp)(h:Heap)(a:Addr):HO->Prop
 |.lst xs=>xs.length≤sizeLine/\∃(its:List Value) (n:Nat),Vals xs its/\h.get? a=some { cls:=.type "list",data:=.seq its.toArray n }
 |.tup xs=>xs.length≤sizeLine/\∃its:List Value,Vals xs its/\IsTup h a its.toArray
 |.dK kvs=>kvs.length≤sizeLine/\(a==sysModules)=false/\∃vs,KV kvs vs/\h.DictOf (jv P w) a vs
 |.dT kvs=>kvs.length≤sizeLine/\(a==sysModules)=false/\∃xs:List (List Key×Addr×Value),
  Paired (fun(p:List Key×V) (q:List Key×Addr×Value)=>p.1=q.1/\H q.2.1=some (.tup (p.1.map kV))/\RelV p.2 q.2.2) kvs xs/\
  ∃o es ep,h.get? a=some o/\o.ExactDict/\o.data=.dict es ep/\es.toList=xs.map (entryOfKey (tupleKind (jv P w)))/\(xs.map (·.1)).Nodup
 |.set S n=>h.SetOf (intKind P w) a S n
 |.ins C dx fs=>H dx=some (.own a)/\fs.length≤1000/\dx≠a/\h.get? a=some (PySem.W.instObj C dx)/\
  ∃mA,h.Ns1 dx mA/\(∀f,RelO (fs.lookup f) (mA f))/\PySem.Within mA (fs.map (·.1))
 |.own _=>∃o,h.get? a=some o
 |.xd fs=>∃mA,h.Ns1 a mA/\∀f,RelO (fs.lookup f) (mA f)
 |.rng lo hi=>∃t u v,h.get? a=some { cls:=.type "range",data:=.fields #[.int lo t,.int hi u,.int 1 v] }
 |.frz o u=>h.get? a=some o/\ObjOk H h a u
 |.tbl ps=>h.get? a=some { cls:=.none,data:=.fields ps }
 |.met f x=>h.get? a=some (PySem.W.methodObj (.ref f) (.ref x))
 |.ext φ=>φ h/\(∃o,h.get? a=some o)/\∀h1 h2:Heap,φ h1->(∀o,h1.get? a=some o->h2.get? a=some o)->φ h2
def HOk(H:Hp)(h:Heap):Prop:=∀a o,H a=some o->ObjOk P w H h a o
end
section
variable {P:Program}{w:World}{H H':Hp}{h h':Heap}{a:Addr}{o:HO}
theorem ObjOk.lt(x:ObjOk P w H h a o):a<h.objs.size:=by
 cases o with
 |lst xs=>obtain⟨_,_,_,_,e⟩:=x;exact Heap.lt_size e
 |tup xs=>obtain⟨_,_,_,p⟩:=x;exact p.lt
 |dK kvs=>obtain⟨_,_,_,_,o,_,_,e,_⟩:=x;exact Heap.lt_size e
 |dT kvs=>obtain⟨_,_,_,_,o,_,_,e,_⟩:=x;exact Heap.lt_size e
 |set S n=>obtain⟨o,_,_,_,e,_⟩:=x;exact Heap.lt_size e
 |ins C dx fs=>obtain⟨_,_,_,e,_⟩:=x;exact Heap.lt_size e
 |own y=>obtain⟨_,e⟩:=x;exact Heap.lt_size e
 |xd fs=>obtain⟨_,⟨_,_,_,e,_⟩,_⟩:=x;exact Heap.lt_size e
 |rng lo hi=>obtain⟨_,_,_,e⟩:=x;exact Heap.lt_size e
 |frz ob u=>obtain⟨e,_⟩:=x;exact Heap.lt_size e
 |tbl ps=>exact Heap.lt_size (show h.get? a=some _ from x)
 |met f y=>exact Heap.lt_size (show h.get? a=some _ from x)
 |ext φ=>obtain⟨_,⟨_,e⟩,_⟩:=x;exact Heap.lt_size e
theorem Paired.mapP{α β:Type}{F G:α->β->Prop}:∀{l₁:List α} {l₂:List β},Paired F l₁ l₂->(∀a b,F a b->G a b)->Paired G l₁ l₂
 |_,_,.nil,_=>.nil
 |_,_,.cons r t,f=>.cons (f _ _ r) (Paired.mapP t f)
theorem ObjOk.stay(x:ObjOk P w H h a o)(k:∀b u,(b=a\/H b=some (.own a))->h.get? b=some u->h'.get? b=some u)
 (ho:∀b,H b=some (.own a)->H' b=some (.own a)) (ht:∀b xs,H b=some (.tup xs)->H' b=some (.tup xs)):ObjOk P w H' h' a o:=by
 induction o with
 |lst xs=>obtain⟨z,its,n,r,e⟩:=x;exact⟨z,its,n,r,k _ _ (.inl rfl) e⟩
 |tup xs=>obtain⟨z,its,r,ob,e,c⟩:=x;exact⟨z,its,r,ob,k _ _ (.inl rfl) e,c⟩
 |dK kvs=>obtain⟨z,y,vs,r,ob,es,ep,e,c⟩:=x;exact⟨z,y,vs,r,ob,es,ep,k _ _ (.inl rfl) e,c⟩
 |dT kvs=>
  obtain⟨z,y,xs,r,ob,es,ep,e,c⟩:=x;exact⟨z,y,xs,Paired.mapP r fun p q z=>⟨z.1,ht _ _ z.2.1,z.2.2⟩,ob,es,ep,k _ _ (.inl rfl) e,c⟩
 |set S n=>obtain⟨ob,es,ep,t,e,c⟩:=x;exact⟨ob,es,ep,t,k _ _ (.inl rfl) e,c⟩
 |ins C dx fs=>
  obtain⟨d,z,ne,e,mA,⟨od,es,ep,e2,c⟩,r⟩:=x;exact⟨ho _ d,z,ne,k _ _ (.inl rfl) e,mA,⟨od,es,ep,k _ _ (.inr d) e2,c⟩,r⟩
 |own y=>obtain⟨ob,e⟩:=x;exact⟨ob,k _ _ (.inl rfl) e⟩
 |xd fs=>obtain⟨mA,⟨od,es,ep,e,c⟩,r⟩:=x;exact⟨mA,⟨od,es,ep,k _ _ (.inl rfl) e,c⟩,r⟩
 |rng lo hi=>obtain⟨t,u,v,e⟩:=x;exact⟨t,u,v,k _ _ (.inl rfl) e⟩
 |frz ob u ih=>obtain⟨e,q⟩:=x;exact⟨k _ _ (.inl rfl) e,ih q⟩
 |tbl ps=>
  have e:h.get? a=some { cls:=.none,data:=.fields ps }:=x;show h'.get? a=some { cls:=.none,data:=.fields ps };exact k a _ (.inl rfl) e
 |met f y=>
  have e:h.get? a=some (PySem.W.methodObj (.ref f) (.ref y)):=x;show h'.get? a=some (PySem.W.methodObj (.ref f) (.ref y));exact k a _ (.inl rfl) e
 |ext φ=>obtain⟨p,⟨o,e⟩,st⟩:=x;exact⟨st _ _ p fun o q=>k _ _ (.inl rfl) q,⟨o,k _ _ (.inl rfl) e⟩,st⟩
theorem HOk.lt(x:HOk P w H h)(e:H a=some o):a<h.objs.size:=(x a o e).lt
theorem HOk.fresh(x:HOk P w H h)(e:h.objs.size≤a):H a=none:=by
 cases q:H a with
 |none=>rfl
 |some u=>exact absurd (Ak (x.lt q) e) (C4 _)
theorem HOk.kept(x:HOk P w H h)(k:∀b u,h.get? b=some u->h'.get? b=some u):HOk P w H h':=fun a o e=>
 (x a o e).stay (fun b u _ q=>k b u q) (fun _ q=>q) fun _ _ q=>q
theorem HOk.laid(x:HOk P w H h)(k:∀b u,h.get? b=some u->h'.get? b=some u)(hp:h.objs.size≤a)(new:ObjOk P w (upd H a o) h' a o):HOk P w (upd H a o) h':=fun b u e=>by
 have hn:=x.fresh hp
 by_cases hb:b=a
 ·subst hb;rw[zv] at e;cases e;exact new
 ·rw[qr hb] at e;exact(x b u e).stay (fun c v _ q=>k c v q) (fun c q=>by rw[qr (zq q hn)];exact q) fun c xs q=>by rw[qr (zq q hn)];exact q
end
def Rd(H:Hp)(a:Addr)(u:HO):Prop:=H a=some u\/∃o,H a=some (.frz o u)
theorem Rd.ok{P:Program}{w:World}{H:Hp}{h:Heap}{a:Addr}{u:HO}(r:Rd H a u)(x:HOk P w H h):ObjOk P w H h a u:=by
 rcases r with r | ⟨o,r⟩
 ·exact x a u r
 ·obtain⟨_,q⟩:=x a _ r;exact q
def Mut:Option HO->Prop
 |some (.lst _)=>True
 |some (.dK _)=>True
 |some (.dT _)=>True
 |some (.set _ _)=>True
 |some (.ins _ _ _)=>True
 |some (.ext _)=>True
 |_=>False
section
variable {P:Program}{w:World}{H:Hp}{h h':Heap}{x e:Addr}{o':HO}
theorem HOk.write(ok:HOk P w H h)(mu:Mut (H x))(he:e=x\/H e=some (.own x))(k:∀b u,b≠e->h.get? b=some u->h'.get? b=some u)(heo:∃u,h'.get? e=some u)
 (new:ObjOk P w (upd H x o') h' x o'):HOk P w (upd H x o') h':=fun b u q=>by
 have nown:∀c y,H c=some (.own y)->c≠x:=fun c y r z=>by subst z;rw[r] at mu;exact mu
 have ntup:∀c xs,H c=some (.tup xs)->c≠x:=fun c xs r z=>by subst z;rw[r] at mu;exact mu
 by_cases hb:b=x
 ·subst hb;rw[zv] at q;cases q;exact new
 ·rw[qr hb] at q
  by_cases hbe:b=e
  ·have q':H b=some (.own x):=by
    rcases he with z | z
    ·exact absurd (hbe.trans z) hb
    ·rw[hbe];exact z
   rw[q] at q';cases q';obtain⟨v,hv⟩:=heo;exact⟨v,by rw[hbe];exact hv⟩
  ·refine(ok b u q).stay (fun c v hc r=>k c v ?_ r) (fun c r=>by rw[qr (nown c b r)];exact r) fun c xs r=>by rw[qr (ntup c xs r)];exact r
   rcases hc with rfl | hc
   ·exact hbe
   ·rintro rfl;rcases he with z | z
    ·exact nown c b hc z
    ·rw[hc] at z;cases z;exact hb rfl
end
structure Un(fs ex:List Addr)(H H':Hp)(h h':Heap):Prop where
 keep:∀b o,h.get? b=some o->H b=none->b∉fs->b∉ex->h'.get? b=some o
 slot:∀b o,h.get? b=some o->H b=none->b∈fs->b∉ex->∃sl,h'.get? b=some { o with slots:=sl }
 free:∀b o,h.get? b=some o->H b=none->b∉ex->H' b=none
 there:∀b o,h.get? b=some o->b∉ex->∃o',h'.get? b=some o'
 tups:∀b xs,H b=some (.tup xs)->H' b=some (.tup xs)
 frzs:∀b o u,H b=some (.frz o u)->H' b=some (.frz o u)
 tbls:∀b ps,H b=some (.tbl ps)->∃more,H' b=some (.tbl (ps++more))
section
variable {fs fs' ex ex':List Addr}{H H1 H2:Hp}{h h1 h2 h':Heap}{a x e:Addr}{o:HO}
theorem Un.any(u:Un fs ex H H1 h h1){b:Addr}{ob:Obj}(q:h.get? b=some ob)(n:H b=none)(hx:b∉ex):∃sl,h1.get? b=some { ob with slots:=sl }:=by
 by_cases hb:b∈fs
 ·exact u.slot b ob q n hb hx
 ·exact⟨ob.slots,u.keep b ob q n hb hx⟩
theorem Un.kept(k:∀b u,h.get? b=some u->h'.get? b=some u):Un fs ex H H h h':=
 ⟨fun b ob q _ _ _=>k b ob q,fun b ob q _ _ _=>⟨ob.slots,k b ob q⟩,fun _ _ _ n _=>n,fun b ob q _=>⟨ob,k b ob q⟩,fun _ _ q=>q,fun _ _ _ q=>q,fun _ ps q=>⟨#[],by rw[q];simp⟩⟩
theorem Un.refl:Un fs ex H H h h:=Un.kept fun _ _ q=>q
theorem Un.laid(k:∀b u,h.get? b=some u->h'.get? b=some u)(hp:h.objs.size≤a)(hn:H a=none):Un fs ex H (upd H a o) h h' where
 keep:=fun b u q _ _ _=>k b u q
 slot:=fun b u q _ _ _=>⟨u.slots,k b u q⟩
 free:=fun b u q n _=>by rw[qr (A3 (Ak (Heap.lt_size q) hp))];exact n
 there:=fun b u q _=>⟨u,k b u q⟩
 tups:=fun b xs q=>by rw[qr (zq q hn)];exact q
 frzs:=fun b u xs q=>by rw[qr (zq q hn)];exact q
 tbls:=fun b ps q=>⟨#[],by rw[qr (zq q hn),q];simp⟩
theorem Un.write(mu:Mut (H x))(he:e=x\/H e=some (.own x))(k:∀b u,b≠e->h.get? b=some u->h'.get? b=some u)(heo:∃u,h'.get? e=some u):Un fs ex H (upd H x o) h h':=by
 have hx:∀b,H b=none->b≠x:=fun b n z=>by subst z;rw[n] at mu;exact mu
 have hb:∀b,H b=none->b≠e:=fun b n z=>by
  subst z;rcases he with r | r
  ·exact hx b n r
  ·rw[n] at r;cases r
 have hm:∀b u,H b=some u->¬Mut (some u)->b≠x:=fun b u q nm z=>by subst z;rw[q] at mu;exact nm mu
 refine⟨fun b u q n _ _=>k b u (hb b n) q,fun b u q n _ _=>⟨u.slots,k b u (hb b n) q⟩,fun b u q n _=>by rw[qr (hx b n)];exact n,fun b u q _=>?_,
  fun b xs q=>by rw[qr (hm b _ q fun z=>z)];exact q,fun b u xs q=>by rw[qr (hm b _ q fun z=>z)];exact q,fun b ps q=>⟨#[],by rw[qr (hm b _ q fun z=>z),q];simp⟩⟩
 by_cases hbe:b=e
 ·subst hbe;exact heo
 ·exact⟨u,k b u hbe q⟩
end
def trk(h:Heap)(H:Hp):List Addr:=(List.range h.objs.size).filter fun a=>(H a).isSome
def aju(h:Heap)(H:Hp):Heap:=PySem.W.hideAll h (trk h H)
theorem ar3(h:Heap)(H:Hp):(aju h H).objs.size=h.objs.size:=PySem.W.hideAll_size _ _
theorem asm{h:Heap}{H:Hp}{b:Addr}{o:Obj}(e:h.get? b=some o)(n:H b=none):(aju h H).get? b=some o:=
 PySem.W.hideAll_get _ e fun hm=>by
  have q:(H b).isSome=true:=(BX.mp hm).2;rw[n] at q;simp at q
theorem aus{h:Heap}{H:Hp}{b:Addr}{o:Obj}(e:(aju h H).get? b=some o):h.get? b=some o/\H b=none:=by
 have e':h.get? b=some o:=PySem.W.of_hideAll (trk h H) e;refine⟨e',?_⟩;cases q:H b with
 |none=>rfl
 |some x=>
  have hm:b∈trk h H:=BX.mpr ⟨Bb.mpr (Heap.lt_size e'),by simp[q]⟩;have z:(aju h H).get? b=none:=PySem.W.hideAll_none (trk h H) hm;rw[z] at e;cases e
structure Mod(K:Af)(mg:Str->Option Value)(base:Heap):Prop where
 kin:K.In base
 glob:base.Ns mainGlobals mg
 blt:∃mb,base.Ns builtinsNs mb/\∀x:Str,x ≠ "__name__" -> mb x=bootBuiltins x
 nolimit:base.NoLimit
structure Cx where
 prog:Program
 w:World
 K:Af
 mg:Str->Option Value
 base:Heap
 A:Around
 N:List Str
 s₀:Shared
 H₀:Hp
 env:Env
 outer:List Env
 stack:List Env
 ex:List Addr
 fn:Str->Bool
 calm:Bool
 pn:List (Addr×Obj)
 xe:Value->Shared->Prop
def frs(l:List Env):List Addr:=l.filterMap (·.frame)
abbrev Cx.fs(X:Cx):List Addr:=frs X.outer
def Vis(sc:Scope)(x:Str):Prop:=sc.names.lookup x=some .local\/sc.names.lookup x=some .cell\/sc.names.lookup x=some .free
def Loc(sc:Scope)(x:Str):Prop:=sc.names.lookup x=some .local\/sc.names.lookup x=some .cell
def a35(env:Env)(h:Heap)(m:Str->Option Value)(x:Str)(u:Value):Prop:=
 (env.kindOf x=some .local/\m x=some u)\/((env.kindOf x=some .cell\/env.kindOf x=some .free)/\∃c,env.cells.lookup x=some c/\h.IsCell c (some u))
structure Cx.Ok(X:Cx):Prop where
 mod:Mod X.K X.mg X.base
 kind:X.env.scope.kind=.function
 glob:X.env.globals=mainGlobals
 blt:X.env.builtins=builtinsNs
 above:X.s₀.heap.objs.size≤X.env.locals
 inj:∀x y c,X.env.cells.lookup x=some c->X.env.cells.lookup y=some c->x=y
 has:∀x,(X.env.kindOf x=some .cell\/X.env.kindOf x=some .free)->∃c,X.env.cells.lookup x=some c
 cab:∀x c,X.fn x=true->X.env.cells.lookup x=some c->X.s₀.heap.objs.size≤c
 hd:X.calm=true->X.A.handled=none
 frames:X.A.frames=some X.stack
 stk:X.stack=X.outer\/(X.stack=X.env::X.outer/\X.env.frame=some X.env.locals)
 exf:∀b∈X.ex,b≠X.env.locals/\∀x c,X.env.cells.lookup x=some c->c≠b
 bs:∀b o,X.base.get? b=some o->X.s₀.heap.get? b=some o/\X.H₀ b=none
 bsz:X.base.objs.size≤X.s₀.heap.objs.size
 noex:∀b o,X.base.get? b=some o->b∉X.ex
 exfs:∀b∈X.ex,b∉X.fs
 funs:X.s₀.heap.FunFrames X.base X.outer
 frf:∀b∈X.fs,X.H₀ b=none
structure Inv(X:Cx)(pins:List (Addr×Obj))(σ:List (Option V))(H:Hp)(s:Shared):Prop where
 ok:X.Ok
 os:s.os=X.s₀.os
 bare:AllBare s.gens
 base:Un X.fs X.ex X.H₀ H X.s₀.heap s.heap
 loc:∃m,s.heap.Ns X.env.locals m/\∀(i:Nat) (x:Str) (v:V),X.N[i]?=some x->σ[i]?=some (some v)->Vis X.env.scope x->∃u,RelV v u/\a35 X.env s.heap m x u
 cell:∀x c,X.env.cells.lookup x=some c->∃v,s.heap.IsCell c v
 free:H X.env.locals=none
 freeC:∀x c,X.env.cells.lookup x=some c->H c=none
 pin:∀p∈X.pn++pins,s.heap.get? p.1=some p.2/\H p.1=none/\p.1≠X.env.locals/\p.1∉X.fs/\∀v,p.2.data≠.cell v
 hok:HOk X.prog X.w H s.heap
 len:σ.length=X.N.length
 tk:0<s.toks
section
variable {X:Cx}{pins:List (Addr×Obj)}{σ:List (Option V)}{H H':Hp}{s:Shared}{h':Heap}
theorem Cx.Ok.nofr(ok:X.Ok){b:Addr}{o:Obj}(e:X.base.get? b=some o):b∉X.fs:=fun hb=>by
 have:=(ok.funs.mem hb).1;rw[e] at this;cases this
theorem Inv.bs(I:Inv X pins σ H s):∀b o,X.base.get? b=some o->s.heap.get? b=some o/\H b=none:=fun b o e=>
 ⟨I.base.keep b o (I.ok.bs b o e).1 (I.ok.bs b o e).2 (I.ok.nofr e) (I.ok.noex b o e),I.base.free b o (I.ok.bs b o e).1 (I.ok.bs b o e).2 (I.ok.noex b o e)⟩
theorem Inv.bk(I:Inv X pins σ H s):∀b o,X.base.get? b=some o->s.heap.get? b=some o:=fun b o e=>(I.bs b o e).1
theorem Inv.mod(I:Inv X pins σ H s):Mod X.K X.mg X.base:=I.ok.mod
theorem Inv.kIn(I:Inv X pins σ H s):X.K.In s.heap:=I.ok.mod.kin.keeps I.bk
theorem Inv.nolimit(I:Inv X pins σ H s):s.heap.NoLimit:=I.ok.mod.nolimit.keeps I.bk
theorem Inv.lt(I:Inv X pins σ H s):X.env.locals<s.heap.objs.size:=let ⟨_,hn,_⟩:=I.loc;hn.lt
theorem Inv.sz(I:Inv X pins σ H s):X.s₀.heap.objs.size≤s.heap.objs.size:=AW I.ok.above (Bv I.lt)
theorem Inv.nofs(I:Inv X pins σ H s){a:Addr}(h:s.heap.objs.size≤a):a∉X.fs:=fun hb=>by
 obtain⟨_,o,ho,_⟩:=I.ok.funs.mem hb;exact absurd (Ak (Heap.lt_size ho) (AW I.sz h)) (C4 _)
theorem Inv.cne(I:Inv X pins σ H s):∀x c,X.env.cells.lookup x=some c->c≠X.env.locals:=fun x c e z=>by
 obtain⟨v,o,ho,hd⟩:=I.cell x c e;obtain⟨m,⟨o',es,ep,ho',hd',_⟩,_⟩:=I.loc;rw[z,ho'] at ho;cases ho;rw[hd'] at hd;cases hd
theorem Inv.funs(I:Inv X pins σ H s):s.heap.FunFrames X.base X.outer:=by
 have all:∀(l:List Env),(∀b∈frs l,b∈X.fs)->X.s₀.heap.FunFrames X.base l->s.heap.FunFrames X.base l:=by
  intro l
  induction l with
  |nil=>intro _ _;trivial
  |cons env r ih=>
   intro hs hl;obtain⟨hk,⟨L,o,hf,hn,ho,hd⟩,hr⟩:=hl;have hL:L∈X.fs:=hs L (by unfold frs;rw[Cz,hf];exact Av);obtain⟨sl,e⟩:=I.base.slot L o ho (I.ok.frf L hL) hL fun z=>I.ok.exfs L z hL;exact⟨hk,⟨L,_,hf,hn,e,hd⟩,ih (fun b hb=>hs b (by unfold frs;rw[Cz,hf];exact Ai _ hb)) hr⟩
 exact all X.outer (fun _ hb=>hb) I.ok.funs
theorem Inv.stack(I:Inv X pins σ H s):s.heap.FunFrames X.base X.stack:=by
 rcases I.ok.stk with e | ⟨e,hf⟩
 ·rw[e];exact I.funs
 ·rw[e];obtain⟨m,hn,_⟩:=I.loc;refine .cons (by rw[I.ok.kind];decide) hf hn ?_ I.funs;exact Heap.get?_none_of_le (AW I.ok.bsz I.ok.above)
theorem Inv.stkSub(I:Inv X pins σ H s):∀b∈frs X.stack,b∈X.env.locals::X.fs:=fun b hb=>by
 rcases I.ok.stk with e | ⟨e,hf⟩
 ·rw[e] at hb;exact Ai _ hb
 ·rw[e] at hb;unfold frs at hb;rw[Cz,hf] at hb;exact hb
theorem Inv.stkFree(I:Inv X pins σ H s):∀b∈frs X.stack,H b=none:=fun b hb=>by
 rcases As.mp (I.stkSub b hb) with e | hb
 ·rw[e];exact I.free
 ·obtain⟨_,o,ho,_⟩:=I.ok.funs.mem hb;exact I.base.free b o ho (I.ok.frf b hb) fun z=>I.ok.exfs b z hb
theorem Inv.step{g':Array GenState}{t':Nat}{d':Drawn}{ch:List Addr}(I:Inv X pins σ H s)
 (hch:∀b∈ch,(b∈X.ex\/X.s₀.heap.objs.size≤b)/\b≠X.env.locals/\(∀x c,X.env.cells.lookup x=some c->c≠b)/\∀p∈X.pn++pins,p.1≠b)
 (keep:∀b o,b≠X.env.locals->b∉X.fs->b∉ch->s.heap.get? b=some o->H b=none->h'.get? b=some o)
 (slot:∀b o,b≠X.env.locals->b∈X.fs->b∉ch->s.heap.get? b=some o->H b=none->∃sl,h'.get? b=some { o with slots:=sl }) (free:∀b o,b∉ch->s.heap.get? b=some o->H b=none->H' b=none)
 (there:∀b o,b∉ch->s.heap.get? b=some o->∃o',h'.get? b=some o')
 (tups:∀b xs,H b=some (.tup xs)->H' b=some (.tup xs)) (frzs:∀b o u,H b=some (.frz o u)->H' b=some (.frz o u)) (tbls:∀b ps,H b=some (.tbl ps)->∃more,H' b=some (.tbl (ps++more)))
 (ns:∀m,s.heap.Ns X.env.locals m->h'.Ns X.env.locals m) (hok:HOk X.prog X.w H' h') (hg:AllBare g') (ht:0<t':=by (first | assumption | exact Bj _ | exact Inv.tk (by assumption) | exact Ak (Inv.tk (by assumption)) (A2 _ _) | exact Ak (Inv.tk (by assumption)) (by assumption))):
 Inv X pins σ H' { s with heap:=h',gens:=g',drawn:=d',toks:=t' }:=by
 have neL:∀b o,X.s₀.heap.get? b=some o->b≠X.env.locals:=fun b o e=>A3 (Ak (Heap.lt_size e) I.ok.above);have neC:∀b o,X.s₀.heap.get? b=some o->b∉X.ex->b∉ch:=fun b o e hx hb=>by
  rcases (hch b hb).1 with z | z
  ·exact hx z
  ·exact absurd (Ak (Heap.lt_size e) z) (C4 _)
 have cellK:∀x c,X.env.cells.lookup x=some c->∀v,s.heap.IsCell c v->h'.IsCell c v:=fun x c e v ⟨o,ho,hd⟩=>by
  have nch:c∉ch:=fun z=>(hch c z).2.2.1 x c e rfl
  by_cases hc:c∈X.fs
  ·obtain⟨sl,q⟩:=slot c o (I.cne x c e) hc nch ho (I.freeC x c e);exact⟨_,q,hd⟩
  ·exact⟨o,keep c o (I.cne x c e) hc nch ho (I.freeC x c e),hd⟩
 refine⟨I.ok,I.os,hg,⟨fun b o e n hb hx=>?_,fun b o e n hb hx=>?_,fun b o e n hx=>?_,fun b o e hx=>?_,fun b xs e=>tups b xs (I.base.tups b xs e),fun b o xs e=>frzs b o xs (I.base.frzs b o xs e),fun b ps e=>?_⟩,?_,fun x c e=>?_,?_,fun x c e=>?_,fun p hp=>?_,hok,I.len,ht⟩
 ·exact keep b o (neL b o e) hb (neC b o e hx) (I.base.keep b o e n hb hx) (I.base.free b o e n hx)
 ·obtain⟨sl,e1⟩:=I.base.slot b o e n hb hx;obtain⟨sl',e2⟩:=slot b _ (neL b o e) hb (neC b o e hx) e1 (I.base.free b o e n hx);exact⟨sl',e2⟩
 ·obtain⟨o',e1⟩:=I.base.there b o e hx;exact free b o' (neC b o e hx) e1 (I.base.free b o e n hx)
 ·obtain⟨o',e1⟩:=I.base.there b o e hx;exact there b o' (neC b o e hx) e1
 ·obtain⟨m1,e1⟩:=I.base.tbls b ps e;obtain⟨m2,e2⟩:=tbls b _ e1;exact⟨m1++m2,by rw[e2,Array.append_assoc]⟩
 ·obtain⟨m,hn,hl⟩:=I.loc;refine⟨m,ns m hn,fun i x v e1 e2 e3=>?_⟩;obtain⟨u,r,l⟩:=hl i x v e1 e2 e3;refine⟨u,r,?_⟩;rcases l with l | ⟨k,c,e,z⟩
  ·exact .inl l
  ·exact .inr ⟨k,c,e,cellK x c e _ z⟩
 ·obtain⟨v,z⟩:=I.cell x c e;exact⟨v,cellK x c e v z⟩
 ·obtain⟨m,⟨o,_,_,ho,_⟩,_⟩:=I.loc;exact free _ o (fun z=>(hch _ z).2.1 rfl) ho I.free
 ·obtain⟨v,o,ho,hd⟩:=I.cell x c e;exact free c o (fun z=>(hch c z).2.2.1 x c e rfl) ho (I.freeC x c e)
 ·obtain⟨e,n,ne,nf,d⟩:=I.pin p hp;have nch:p.1∉ch:=fun z=>(hch p.1 z).2.2.2 p hp rfl;exact⟨keep p.1 p.2 ne nf nch e n,free p.1 p.2 nch e n,ne,nf,d⟩
theorem Inv.un{t':Nat}(I:Inv X pins σ H s)(u:Un X.fs [] H H' s.heap h')(hok:HOk X.prog X.w H' h')(ht:0<t':=by (first | assumption | exact Bj _ | exact Inv.tk (by assumption) | exact Ak (Inv.tk (by assumption)) (A2 _ _) | exact Ak (Inv.tk (by assumption)) (by assumption))):Inv X pins σ H' { s with heap:=h',toks:=t' }:=by
 obtain⟨m,⟨o,es,ep,ho,r⟩,_⟩:=id I.loc;obtain⟨sl,hL⟩:=u.any ho I.free (by simp);exact I.step (g':=s.gens) (d':=s.drawn) (ch:=[]) (fun _ z=>nomatch z) (fun b o _ hb _ e n=>u.keep b o e n hb (by simp)) (fun b o _ hb _ e n=>u.slot b o e n hb (by simp)) (fun b o _ e n=>u.free b o e n (by simp)) (fun b o _ e=>u.there b o e (by simp)) u.tups u.frzs u.tbls (fun m' hm=>by
  obtain⟨o',es',ep',ho',r'⟩:=hm;rw[ho] at ho';cases ho';exact⟨_,es',ep',hL,r'⟩) hok I.bare
theorem Inv.call{g':Array GenState}{t':Nat}{d':Drawn}{ch:List Addr}(I:Inv X pins σ H s)(u:Un (frs X.stack) ch H H' s.heap h')(hok:HOk X.prog X.w H' h')(hg:AllBare g')
 (hch:∀b∈ch,(b∈X.ex\/X.s₀.heap.objs.size≤b)/\b≠X.env.locals/\(∀x c,X.env.cells.lookup x=some c->c≠b)/\∀p∈X.pn++pins,p.1≠b) (ht:0<t':=by (first | assumption | exact Bj _ | exact Inv.tk (by assumption) | exact Ak (Inv.tk (by assumption)) (A2 _ _) | exact Ak (Inv.tk (by assumption)) (by assumption))):
 Inv X pins σ H' { s with heap:=h',gens:=g',drawn:=d',toks:=t' }:=by
 obtain⟨m,⟨o,es,ep,ho,r⟩,_⟩:=id I.loc;obtain⟨sl,hL⟩:=u.any ho I.free fun z=>(hch _ z).2.1 rfl;exact I.step (ch:=ch) hch (fun b o hL hb hc e n=>u.keep b o e n (fun z=>(As.mp (I.stkSub b z)).elim hL hb) hc) (fun b o _ _ hc e n=>u.any e n hc) (fun b o hc e n=>u.free b o e n hc) (fun b o hc e=>u.there b o e hc) u.tups u.frzs u.tbls (fun m' hm=>by
  obtain⟨o',es',ep',ho',r'⟩:=hm;rw[ho] at ho';cases ho';exact⟨_,es',ep',hL,r'⟩) hok hg
theorem Inv.turned{t':Nat}{it:Addr}(I:Inv X pins σ H s)(k:∀b o,b≠it->s.heap.get? b=some o->h'.get? b=some o)(hn:H it=none)(hL:it≠X.env.locals)
 (h1:it∈X.ex\/X.s₀.heap.objs.size≤it) (h2:∀x c,X.env.cells.lookup x=some c->c≠it) (h3:∀p∈X.pn++pins,p.1≠it) (ht:0<t':=by (first | assumption | exact Bj _ | exact Inv.tk (by assumption) | exact Ak (Inv.tk (by assumption)) (A2 _ _) | exact Ak (Inv.tk (by assumption)) (by assumption))):Inv X pins σ H { s with heap:=h',toks:=t' }:=by
 have nit:∀b u,H b=some u->b≠it:=fun b u e z=>by rw[z,hn] at e;cases e
 refine I.step (g':=s.gens) (d':=s.drawn) (ch:=[it]) (fun b hb=>?_) (fun b o _ _ hc e _=>k b o (fun z=>hc (by simp[z])) e) (fun b o _ _ hc e _=>⟨o.slots,k b o (fun z=>hc (by simp[z])) e⟩) (fun _ _ _ _ n=>n)
  (fun b o hc e=>⟨o,k b o (fun z=>hc (by simp[z])) e⟩) (fun _ _ e=>e) (fun _ _ _ e=>e) (fun b ps e=>⟨#[],by rw[e];simp⟩) (fun m hm=>?_) (fun b u e=>?_) I.bare
 ·have e:b=it:=by simpa using hb
  subst e;exact⟨h1,hL,h2,h3⟩
 ·obtain⟨o,es,ep,ho,r⟩:=hm;exact⟨o,es,ep,k _ o (AK hL) ho,r⟩
 ·refine(I.hok b u e).stay (fun c v hc q=>k c v ?_ q) (fun _ q=>q) fun _ _ q=>q;rcases hc with z | z
  ·rw[z];exact nit b u e
  ·exact nit c _ z
theorem Inv.tok(I:Inv X pins σ H s)(t:Nat)(ht:0<t:=by (first | assumption | exact Bj _ | exact Inv.tk (by assumption) | exact Ak (Inv.tk (by assumption)) (A2 _ _) | exact Ak (Inv.tk (by assumption)) (by assumption))):Inv X pins σ H { s with toks:=t }:=I.un (h':=s.heap) (t':=t) Un.refl I.hok
theorem Inv.kept{t':Nat}(I:Inv X pins σ H s)(k:∀b u,s.heap.get? b=some u->h'.get? b=some u)(ht:0<t':=by (first | assumption | exact Bj _ | exact Inv.tk (by assumption) | exact Ak (Inv.tk (by assumption)) (A2 _ _) | exact Ak (Inv.tk (by assumption)) (by assumption))):Inv X pins σ H { s with heap:=h',toks:=t' }:=I.un (Un.kept k) (I.hok.kept k)
theorem Inv.laid{a:Addr}{o:HO}{t':Nat}(I:Inv X pins σ H s)(k:∀b u,s.heap.get? b=some u->h'.get? b=some u)(hp:s.heap.objs.size≤a)(new:ObjOk X.prog X.w (upd H a o) h' a o)(ht:0<t':=by (first | assumption | exact Bj _ | exact Inv.tk (by assumption) | exact Ak (Inv.tk (by assumption)) (A2 _ _) | exact Ak (Inv.tk (by assumption)) (by assumption))):
 Inv X pins σ (upd H a o) { s with heap:=h',toks:=t' }:=I.un (Un.laid k hp (I.hok.fresh hp)) (I.hok.laid k hp new)
theorem Inv.write{x e:Addr}{o:HO}{t':Nat}(I:Inv X pins σ H s)(mu:Mut (H x))(he:e=x\/H e=some (.own x))(k:∀b u,b≠e->s.heap.get? b=some u->h'.get? b=some u)(heo:∃u,h'.get? e=some u)
 (new:ObjOk X.prog X.w (upd H x o) h' x o) (ht:0<t':=by (first | assumption | exact Bj _ | exact Inv.tk (by assumption) | exact Ak (Inv.tk (by assumption)) (A2 _ _) | exact Ak (Inv.tk (by assumption)) (by assumption))):Inv X pins σ (upd H x o) { s with heap:=h',toks:=t' }:=I.un (Un.write mu he k heo) (I.hok.write mu he k heo new)
theorem Inv.weak{σ':List (Option V)}(I:Inv X pins σ H s)(hl:σ'.length=σ.length)(w:∀(i:Nat) v,σ'[i]?=some (some v)->σ[i]?=some (some v)):Inv X pins σ' H s:=
 ⟨I.ok,I.os,I.bare,I.base,let ⟨m,hn,hl'⟩:=I.loc;⟨m,hn,fun i x v e1 e2 e3=>hl' i x v e1 (w i v e2) e3⟩,I.cell,I.free,I.freeC,I.pin,I.hok,hl.trans I.len,I.tk⟩
theorem Inv.pins_of{pins':List (Addr×Obj)}(I:Inv X pins σ H s)(h:∀p∈pins',s.heap.get? p.1=some p.2/\H p.1=none/\p.1≠X.env.locals/\p.1∉X.fs/\∀v,p.2.data≠.cell v):Inv X pins' σ H s:=
 ⟨I.ok,I.os,I.bare,I.base,I.loc,I.cell,I.free,I.freeC,fun p hp=>(Al.mp hp).elim (fun z=>I.pin p (Aw _ z)) (h p),I.hok,I.len,I.tk⟩
theorem amv{N:List Str}(hN:N.Nodup){i j:Nat}{x:Str}(a:N[i]?=some x)(b:N[j]?=some x):i=j:=by
 obtain⟨h1,e1⟩:=AU.mp a;obtain⟨h2,e2⟩:=AU.mp b;exact(List.getElem_inj hN).mp (e1.trans e2.symm)
theorem ajd{M:Model}{A:Around}{E:Value->Shared->Prop}{i:Nat}{x:Str}{v:V}{u:Value}{Q:Unit->Shared->Prop}(I:Inv X pins σ H s)(hN:X.N.Nodup)(hi:X.N[i]?=some x)(hx:Loc X.env.scope x)(r:RelV v u)
 (h:∀s',Inv X pins (σ.set i (some v)) H s'->(∃a,Heap.SameBut a s.heap s'.heap/\(a=X.env.locals\/X.env.cells.lookup x=some a))->(X.env.kindOf x=some .local->∃m',s'.heap.Ns X.env.locals m'/\m' x=some u)->Q () s') (hf:X.fn x=true\/X.env.scope.names.lookup x=some .local:=by first | exact .inl rfl | exact .inr rfl | assumption):wpAny M A (storeName X.env x u) Q E s:=by
 obtain⟨m,hn,hl⟩:=id I.loc;have hcls:(X.env.scope.kind==.class||(X.env.scope.kind==.module&&X.env.locals != X.env.globals))=false:=by rw[I.ok.kind];rfl
 have hiσ:i<σ.length:=by rw[I.len];exact(AU.mp hi).1
 have cne:=I.cne;have tracked:∀{a:Addr} {h':Heap},(∃o,s.heap.get? a=some o/\H a=none)->Heap.SameBut a s.heap h'->HOk X.prog X.w H h':=fun {a h'} ha hs b ob e=>by
  obtain⟨_,_,hfree⟩:=ha;refine(I.hok b ob e).stay (fun c w' hc q=>(hs.2 c ?_).trans q) (fun _ q=>q) fun _ _ q=>q;rintro rfl;rcases hc with rfl | hc
  ·rw[hfree] at e;cases e
  ·rw[hfree] at hc;cases hc
 rcases hx with hk | hk
 ·refine wpAny_storeName_local hk hn (fun h' hn' hs=>?_) hcls;obtain⟨oL,_,_,hoL,_⟩:=id hn;refine h _ ⟨I.ok,I.os,I.bare,⟨fun b o e n hb hx=>?_,fun b o e n hb hx=>?_,I.base.free,fun b o e hx=>?_,I.base.tups,I.base.frzs,I.base.tbls⟩,⟨_,hn',fun j y v' e1 e2 e3=>?_⟩,fun y c e=>?_,I.free,I.freeC,fun p hp=>?_,tracked ⟨oL,hoL,I.free⟩ hs,by simpa using I.len,by first | exact I.tk | exact Bj _⟩ ⟨_,hs,.inl rfl⟩ (fun _=>⟨_,hn',by simp⟩)
  ·exact(hs.2 b (A3 (Ak (Heap.lt_size e) I.ok.above))).trans (I.base.keep b o e n hb hx)
  ·obtain⟨sl,e1⟩:=I.base.slot b o e n hb hx;exact⟨sl,(hs.2 b (A3 (Ak (Heap.lt_size e) I.ok.above))).trans e1⟩
  ·obtain⟨o',e1⟩:=I.base.there b o e hx;exact⟨o',(hs.2 b (A3 (Ak (Heap.lt_size e) I.ok.above))).trans e1⟩
  ·by_cases hj:j=i
   ·subst hj;rw[hi] at e1;cases e1;rw[BP hiσ] at e2;cases e2;exact⟨u,r,.inl ⟨hk,by simp⟩⟩
   ·rw[Bi (AK hj)] at e2;obtain⟨u',r',q⟩:=hl j y v' e1 e2 e3;refine⟨u',r',?_⟩;rcases q with⟨k,e⟩ | ⟨k,c,e,z⟩
    ·refine .inl ⟨k,?_⟩;have:y≠x:=fun e=>hj (amv hN e1 (e▸hi));simp[this,e]
    ·exact .inr ⟨k,c,e,z.sameBut hs (cne y c e)⟩
  ·obtain⟨w',z⟩:=I.cell y c e;exact⟨w',z.sameBut hs (cne y c e)⟩
  ·obtain⟨e,n,ne,nf,d⟩:=I.pin p hp;exact⟨(hs.2 p.1 ne).trans e,n,ne,nf,d⟩
 ·have hfn:X.fn x=true:=by
   rcases hf with z | z
   ·exact z
   ·rw[z] at hk;cases hk
  obtain⟨c,hc⟩:=I.ok.has x (.inl hk);obtain⟨w',z⟩:=I.cell x c hc;refine wpAny_storeName_cell I.ok.kind hk hc z (fun h' hc' hs=>?_);obtain⟨oc,hoc,hocd⟩:=id z;refine h { s with heap:=h' } ⟨I.ok,I.os,I.bare,⟨fun b o e n hb hx=>?_,fun b o e n hb hx=>?_,I.base.free,fun b o e hx=>?_,I.base.tups,I.base.frzs,I.base.tbls⟩,⟨m,hn.sameBut hs (AK (cne x c hc)),fun j y v' e1 e2 e3=>?_⟩,fun y c' e=>?_,I.free,I.freeC,fun p hp=>?_,tracked ⟨oc,hoc,I.freeC x c hc⟩ hs,by simpa using I.len,I.tk⟩ ⟨c,hs,.inr hc⟩ (fun z=>by have e:=(show X.env.kindOf x=some .cell from hk).symm.trans z;cases e)
  ·exact(hs.2 b (A3 (Ak (Heap.lt_size e) (I.ok.cab x c hfn hc)))).trans (I.base.keep b o e n hb hx)
  ·obtain⟨sl,e1⟩:=I.base.slot b o e n hb hx;exact⟨sl,(hs.2 b (A3 (Ak (Heap.lt_size e) (I.ok.cab x c hfn hc)))).trans e1⟩
  ·obtain⟨o',e1⟩:=I.base.there b o e hx;exact⟨o',(hs.2 b (A3 (Ak (Heap.lt_size e) (I.ok.cab x c hfn hc)))).trans e1⟩
  ·by_cases hj:j=i
   ·subst hj;rw[hi] at e1;cases e1;rw[BP hiσ] at e2;cases e2;exact⟨u,r,.inr ⟨.inl hk,c,hc,hc'⟩⟩
   ·rw[Bi (AK hj)] at e2;obtain⟨u',r',q⟩:=hl j y v' e1 e2 e3;refine⟨u',r',?_⟩;rcases q with q | ⟨k,c',e,z'⟩
    ·exact .inl q
    ·refine .inr ⟨k,c',e,z'.sameBut hs ?_⟩;rintro rfl;exact hj (amv hN e1 (I.ok.inj _ _ _ e hc▸hi))
  ·by_cases hcc:c'=c
   ·subst hcc;exact⟨_,hc'⟩
   ·obtain⟨w2,z2⟩:=I.cell y c' e;exact⟨w2,z2.sameBut hs hcc⟩
  ·obtain⟨e,n,ne,nf,d⟩:=I.pin p hp;refine⟨(hs.2 p.1 ?_).trans e,n,ne,nf,d⟩;intro q;rw[q,hoc] at e;have q':oc=p.2:=A6 e;exact d w' (by rw[<-q'];exact hocd)
theorem aaj{M:Model}{A:Around}{E:Value->Shared->Prop}{i:Nat}{x:Str}{v:V}{u:Value}{Q:Unit->Shared->Prop}(I:Inv X pins σ H s)(hN:X.N.Nodup)(hi:X.N[i]?=some x)(hx:Loc X.env.scope x)(r:RelV v u)
 (h:∀s',Inv X pins (σ.set i (some v)) H s'->Q () s') (hf:X.fn x=true\/X.env.scope.names.lookup x=some .local:=by first | exact .inl rfl | exact .inr rfl | assumption):wpAny M A (storeName X.env x u) Q E s:=
 ajd I hN hi hx r (fun s' I' _ _=>h s' I') hf
theorem Inv.call'{s':Shared}{ch:List Addr}(I:Inv X pins σ H s)(ho:s'.os=s.os)(u:Un (frs X.stack) ch H H' s.heap s'.heap)(hok:HOk X.prog X.w H' s'.heap)(hg:AllBare s'.gens)
 (hch:∀b∈ch,(b∈X.ex\/X.s₀.heap.objs.size≤b)/\b≠X.env.locals/\(∀x c,X.env.cells.lookup x=some c->c≠b)/\∀p∈X.pn++pins,p.1≠b) (ht:0<s'.toks:=by (first | assumption | exact Bj _ | exact Inv.tk (by assumption) | exact Ak (Inv.tk (by assumption)) (A2 _ _) | exact Ak (Inv.tk (by assumption)) (by assumption))):Inv X pins σ H' s':=by
 obtain⟨h',g',d',t',o'⟩:=s';have e:o'=s.os:=ho;subst e;exact I.call (g':=g') (t':=t') (d':=d') u hok hg hch ht
end
abbrev XK:=Value->Option Addr->Hp->Prop
abbrev St:=List (Option V)
abbrev VK:=V->Hp->Prop
abbrev TE:=St->Hp->VK->Prop
abbrev TT:=St->Hp->(Bool->Hp->Prop)->Prop
abbrev TA:=St->Hp->(List V->Hp->Prop)->Prop
structure Ends where
 nx:St->Hp->Prop
 rt:VK
 bk:St->Hp->Prop:=fun _ _=>False
 ct:St->Hp->Prop:=fun _ _=>False
abbrev TS:=Ends->St->Hp->Prop
def EP(X:Cx)(pins:List (Addr×Obj))(σ:St)(Q:VK)(u:Value)(s':Shared):Prop:=∃v H',Inv X pins σ H' s'/\RelV v u/\Q v H'
def TP(X:Cx)(pins:List (Addr×Obj))(σ:St)(Q:Bool->Hp->Prop)(b:Bool)(s':Shared):Prop:=∃H',Inv X pins σ H' s'/\Q b H'
def AP(X:Cx)(pins:List (Addr×Obj))(σ:St)(Q:List V->Hp->Prop)(us:List Value)(s':Shared):Prop:=∃vs H',Inv X pins σ H' s'/\Vals vs us/\Q vs H'
def SP(X:Cx)(pins:List (Addr×Obj))(D:Ends)(f:Flow)(s':Shared):Prop:=
 match f with
 |.next=>∃σ' H',Inv X pins σ' H' s'/\D.nx σ' H'
 |.brk=>∃σ' H',Inv X pins σ' H' s'/\D.bk σ' H'
 |.cont=>∃σ' H',Inv X pins σ' H' s'/\D.ct σ' H'
 |.ret u=>∃v σ' H',Inv X pins σ' H' s'/\RelV v u/\D.rt v H'
def PE(X:Cx)(e:Expr)(t:TE):Prop:=
 ∀(pins:List (Addr×Obj)) (s:Shared) (σ:St) (H:Hp) (Q:VK),Inv X pins σ H s->t σ H Q->wpAny (model X.prog X.w) X.A (eval e X.env) (EP X pins σ Q) X.xe s
def PT(X:Cx)(e:Expr)(t:TT):Prop:=
 ∀(pins:List (Addr×Obj)) (s:Shared) (σ:St) (H:Hp) (Q:Bool->Hp->Prop),Inv X pins σ H s->t σ H Q->wpAny (model X.prog X.w) X.A (isTrue e X.env (eval e X.env)) (TP X pins σ Q) X.xe s
def PW(X:Cx)(e:Expr)(t:TT):Prop:=
 ∀(whole:Sem Value) (pins:List (Addr×Obj)) (s:Shared) (σ:St) (H:Hp) (Q:Bool->Hp->Prop),Inv X pins σ H s->t σ H Q->wpAny (model X.prog X.w) X.A (isTrue e X.env whole) (TP X pins σ Q) X.xe s
theorem PW.pt{X:Cx}{e:Expr}{t:TT}(h:PW X e t):PT X e t:=h _
def PA(X:Cx)(es:List Expr)(t:TA):Prop:=
 ∀(pos:Pos) (pins:List (Addr×Obj)) (s:Shared) (σ:St) (H:Hp) (Q:List V->Hp->Prop),Inv X pins σ H s->t σ H Q->wpAny (model X.prog X.w) X.A (spliced (backTo pos (starEach es X.env))) (AP X pins σ Q) X.xe s
def PS(X:Cx)(st:Stmt)(t:TS):Prop:=
 ∀(pins:List (Addr×Obj)) (s:Shared) (σ:St) (H:Hp) (D:Ends),Inv X pins σ H s->t D σ H->wpAny (model X.prog X.w) X.A (exec st X.env) (SP X pins D) X.xe s
def PSs(X:Cx)(st:List Stmt)(t:TS):Prop:=
 ∀(pins:List (Addr×Obj)) (s:Shared) (σ:St) (H:Hp) (D:Ends),Inv X pins σ H s->t D σ H->wpAny (model X.prog X.w) X.A (execs st X.env) (SP X pins D) X.xe s
theorem thn{α:Type}{t:Sem α}{Q Q':α->Shared->Prop}{M:Model}{A:Around}{E:Value->Shared->Prop}{s:Shared}(h:wpAny M A t Q E s)(hQ:∀a s,Q a s->Q' a s):wpAny M A t Q' E s:=AV h hQ fun _ _ x=>x
section
variable {X:Cx}
def ay9(i:Nat):TE:=fun σ H Q=>∃v,σ[i]?=some (some v)/\Q v H
def tC(v:V):TE:=fun _ H Q=>Q v H
theorem aze{i:Nat}{x:Str}{pos:Pos}(hN:X.N[i]?=some x)(hv:Vis X.env.scope x)(hd:(x==("__debug__" : Str))=false:=by decide)(hcd:(x==("__classdict__" : Str))=false:=by decide):PE X (.Name x pos) (ay9 i):=by
 intro pins s σ H Q I h;obtain⟨v,e,h⟩:=h;obtain⟨m,hn,hl⟩:=I.loc;obtain⟨u,r,l⟩:=hl i x v hN e hv;have fin:EP X pins σ Q u s:=⟨v,H,I,r,h⟩;rcases l with⟨hk,hm⟩ | ⟨hk,c,hc,hcell⟩
 ·exact wpAny_Name (wpAny_loadName_local I.ok.kind hk hn hm fin) hd
 ·rcases hk with hk | hk
  ·exact wpAny_Name (wpAny_loadName_cell I.ok.kind hk hc hcell fin) hd
  ·exact wpAny_Name (wpAny_loadName_free I.ok.kind hk hc hcell fin hcd) hd
theorem azh{i j pos}:PE X (.Constant (.int i) j pos) (tC (.int i)):=fun _ _ _ H _ I h=>wpAny_Constant_int ⟨.int i,H,I.tok _,⟨_,rfl⟩,h⟩
theorem a1m{b j pos}:PE X (.Constant (.bool b) j pos) (tC (.bl b)):=fun _ _ _ H _ I h=>Constant_bool ⟨.bl b,H,I,rfl,h⟩
theorem ay6{j pos}:PE X (.Constant .none j pos) (tC .non):=fun _ _ _ H _ I h=>Constant_none ⟨.non,H,I,rfl,h⟩
theorem abr{x j pos}:PE X (.Constant (.str x) j pos) (tC (.str x)):=fun _ _ _ H _ I h=>Calls.Constant_str ⟨.str x,H,I.tok _,⟨_,rfl⟩,h⟩
def Gl(X:Cx)(x:Str):Prop:=X.env.kindOf x=some .globalImplicit
theorem apb{E:Value->Shared->Prop}{pins:List (Addr×Obj)}{s:Shared}{σ:St}{H:Hp}{x:Str}{u:Value}{pos:Pos}{Q:Value->Shared->Prop}(I:Inv X pins σ H s)(hg:Gl X x)(hm:X.mg x=some u)(h:Q u s)
 (hd:(x==("__debug__" : Str))=false:=by decide):wpAny (model X.prog X.w) X.A (eval (.Name x pos) X.env) Q E s:=
 Calls.Name_function_global I.ok.kind hg (Calls.loadGlobal_global (by rw[I.ok.glob];exact I.mod.glob.keeps I.bk) hm h) hd
theorem adm{E:Value->Shared->Prop}{pins:List (Addr×Obj)}{s:Shared}{σ:St}{H:Hp}{x:Str}{u:Value}{pos:Pos}{Q:Value->Shared->Prop}(I:Inv X pins σ H s)(hg:Gl X x)(hm:X.mg x=none)(hv:bootBuiltins x=some u)(h:Q u s)
 (hn:x ≠ "__name__" := by decide) (hd:(x==("__debug__" : Str))=false:=by decide):wpAny (model X.prog X.w) X.A (eval (.Name x pos) X.env) Q E s:=by
 obtain⟨mb,h1,h2⟩:=I.mod.blt;exact Calls.Name_function_global I.ok.kind hg (Calls.loadGlobal_builtin (by rw[I.ok.glob];exact I.mod.glob.keeps I.bk) hm (by rw[I.ok.blt];exact h1.keeps I.bk) ((h2 x hn).trans hv) h) hd
theorem ava{x:Str}{v:V}{u:Value}{pos:Pos}(hg:Gl X x)(hm:X.mg x=some u)(r:RelV v u)(hd:(x==("__debug__" : Str))=false:=by decide):PE X (.Name x pos) (tC v):=
 fun _ _ _ H _ I h=>apb I hg hm ⟨v,H,I,r,h⟩ hd
theorem awe{x:Str}{v:V}{u:Value}{pos:Pos}(hg:Gl X x)(hm:X.mg x=none)(hv:bootBuiltins x=some u)(r:RelV v u)(hn:x ≠ "__name__" := by decide)(hd:(x==("__debug__" : Str))=false:=by decide):PE X (.Name x pos) (tC v):=
 fun _ _ _ H _ I h=>adm I hg hm hv ⟨v,H,I,r,h⟩ hn hd
variable {a b:Expr}{ta tb:TE}{pos:Pos}
def PC(X:Cx)(op:CmpOp)(a b:Expr)(t:TE):Prop:=
 ∀(pins:List (Addr×Obj)) (s:Shared) (σ:St) (H:Hp) (Q:VK),Inv X pins σ H s->t σ H Q->
  wpAny (model X.prog X.w) X.A (eval a X.env) (fun v s₁=>wpAny (model X.prog X.w) X.A (eval b X.env) (fun u s₂=>wpAny (model X.prog X.w) X.A (compareOp op v u) (EP X pins σ Q) X.xe s₂) X.xe s₁) X.xe s
theorem anf(b:Expr){op:CmpOp}(h:op≠.In)(h2:op≠.NotIn):behindInMarks op b=false:=by
 have e1:(op==CmpOp.In)=false:=by cases op<;>first | rfl | exact absurd rfl h
 have e2:(op==CmpOp.NotIn)=false:=by cases op<;>first | rfl | exact absurd rfl h2
 cases b<;>simp[behindInMarks,e1,e2]
def a0q(ta:TE):TE:=fun σ H Q=>ta σ H fun x H1=>Q (.bl (decide (x=.non))) H1
def axi(ta:TE):TE:=fun σ H Q=>ta σ H fun x H1=>Q (.bl (!decide (x=.non))) H1
theorem RelV.none_iff{x:V}{v:Value}(r:RelV x v):(v==Value.none)=decide (x=.non):=by
 cases x with
 |non=>cases r;rfl
 |bl _=>cases r;rfl
 |int _=>obtain⟨t,rfl⟩:=r;rfl
 |str _=>obtain⟨t,rfl⟩:=r;rfl
 |byt _=>obtain⟨t,rfl⟩:=r;rfl
 |flt _=>obtain⟨t,rfl⟩:=r;rfl
 |ref _=>cases r;rfl
 |ty _=>cases r;rfl
theorem as8{j pos'}(ha:PE X a ta):PC X .Is a (.Constant .none j pos') (a0q ta):=by
 intro pins s σ H Q I h;refine thn (ha pins s σ H _ I h) fun v s1 ⟨x,H1,I1,r1,q1⟩=>?_;exact Constant_none (is_none_gen ⟨.bl _,H1,I1,by rw[r1.none_iff];rfl,q1⟩)
theorem avm{j pos'}(ha:PE X a ta):PC X .IsNot a (.Constant .none j pos') (axi ta):=by
 intro pins s σ H Q I h;refine thn (ha pins s σ H _ I h) fun v s1 ⟨x,H1,I1,r1,q1⟩=>?_;exact Constant_none (isnot_none_gen ⟨.bl _,H1,I1,by rw[r1.none_iff];rfl,q1⟩)
def tB(t:TE):TT:=fun σ H Q=>t σ H fun x H1=>∃c,x=.bl c/\Q c H1
theorem ayu{op:CmpOp}{t:TE}(h:PC X op a b t)(h1:behindInMarks op b=false:=by first | exact anf _ (by decide) (by decide) | rfl):PE X (.Compare a [op] [b] pos) t:=fun pins s σ H Q I hw=>wpAny_Compare1 (h pins s σ H Q I hw) h1
theorem as3{op:CmpOp}{t:TE}(h:PC X op a b t)(h1:behindInMarks op b=false:=by first | exact anf _ (by decide) (by decide) | rfl):PT X (.Compare a [op] [b] pos) (tB t):=by
 intro pins s σ H Q I hw;refine wpAny_isTrue_Compare1 (thn (h pins s σ H _ I hw) fun v s1 h1=>thn h1 fun u s2 h2=>thn h2 fun c s3 ⟨x,H1,I1,r1,q1⟩=>?_) h1;obtain⟨d,rfl,q⟩:=q1;cases r1;exact wpAny_truthy_bool ⟨H1,I1,q⟩
theorem az7{e:Expr}{t:TE}(h:PE X e t)(he:∀whole,isTrue e X.env whole=(do let v <-whole;standAt e.pos;holding [v] (truthy v)):=by intro _;rfl):PT X e (tB t):=by
 intro pins s σ H Q I hw;refine isTrue_plain (thn (h pins s σ H _ I hw) fun v s1 ⟨x,H1,I1,r1,q1⟩=>?_) (he _);obtain⟨d,rfl,q⟩:=q1;cases r1;exact wpAny_truthy_bool ⟨H1,I1,q⟩
variable {tA tB':TT}{rest:List Expr}
def a3c(t u:TT):TT:=fun σ H Q=>t σ H fun c H1=>if c=true then u σ H1 Q else Q false H1
def tOr(t u:TT):TT:=fun σ H Q=>t σ H fun c H1=>if c=true then Q true H1 else u σ H1 Q
def a23(t:TT):TT:=fun σ H Q=>t σ H fun c H1=>Q (!c) H1
theorem aw4(ha:PT X a tA):PW X (.BoolOp .And [a] pos) tA:=by
 intro wh pins s σ H Q I h;refine isTrue_and (thn (ha pins s σ H Q I h) fun c s1 e=>?_);cases c with
 |true=>exact isTrue_and_nil e
 |false=>exact e
theorem a03(ha:PT X a tA):PW X (.BoolOp .Or [a] pos) tA:=by
 intro wh pins s σ H Q I h;refine isTrue_or (thn (ha pins s σ H Q I h) fun c s1 e=>?_);cases c with
 |false=>exact isTrue_or_nil e
 |true=>exact e
theorem az1(ha:PT X a tA)(hb:PW X (.BoolOp .And (b::rest) pos) tB'):PW X (.BoolOp .And (a::b::rest) pos) (a3c tA tB'):=by
 intro wh pins s σ H Q I h;refine isTrue_and (thn (ha pins s σ H _ I h) fun c s1 ⟨H1,I1,q1⟩=>?_);cases c with
 |true=>exact hb wh pins s1 σ H1 Q I1 q1
 |false=>exact⟨H1,I1,q1⟩
theorem a14(ha:PT X a tA)(hb:PW X (.BoolOp .Or (b::rest) pos) tB'):PW X (.BoolOp .Or (a::b::rest) pos) (tOr tA tB'):=by
 intro wh pins s σ H Q I h;refine isTrue_or (thn (ha pins s σ H _ I h) fun c s1 ⟨H1,I1,q1⟩=>?_);cases c with
 |true=>exact⟨H1,I1,q1⟩
 |false=>exact hb wh pins s1 σ H1 Q I1 q1
theorem aza(ha:PT X a tA):PT X (.UnaryOp .Not a pos) (a23 tA):=by
 intro pins s σ H Q I h;exact isTrue_not (ha pins s σ H (fun c H1=>Q (!c) H1) I h)
def a0i(ta tb:TE):TE:=fun σ H Q=>ta σ H fun x H1=>∃c,x=.bl c/\if c=true then tb σ H1 Q else Q (.bl false) H1
theorem ayr{op}{t:TE}(h:PE X a t):PE X (.BoolOp op [a] pos) t:=fun pins s σ H Q I hw=>BoolOp_one (h pins s σ H Q I hw)
theorem ays(ha:PE X a ta)(hb:PE X (.BoolOp .And (b::rest) pos) tb):PE X (.BoolOp .And (a::b::rest) pos) (a0i ta tb):=by
 intro pins s σ H Q I h;refine BoolOp_and (thn (ha pins s σ H _ I h) fun v s1 ⟨x,H1,I1,r1,q1⟩=>?_);obtain⟨c,rfl,q1⟩:=q1;cases r1;refine wpAny_truthy_bool ?_;cases c with
 |true=>exact hb pins s1 σ H1 Q I1 q1
 |false=>exact⟨.bl false,H1,I1,rfl,q1⟩
def tIf(t:TT)(ta tb:TE):TE:=fun σ H Q=>t σ H fun c H1=>if c=true then ta σ H1 Q else tb σ H1 Q
theorem atk{c:Expr}(hc:PT X c tA)(ha:PE X a ta)(hb:PE X b tb):PE X (.IfExp c a b pos) (tIf tA ta tb):=by
 intro pins s σ H Q I h;refine wpAny_IfExp (thn (hc pins s σ H _ I h) fun d s1 ⟨H1,I1,q1⟩=>?_);cases d with
 |true=>exact ha pins s1 σ H1 Q I1 q1
 |false=>exact hb pins s1 σ H1 Q I1 q1
end
def SqL(K:Af)(H:Hp)(a:Addr)(xs:List V):Prop:=
 Rd H a (.lst xs)\/
  ∃(o:Obj) (its:Array Value) (n:Nat),K.lookup a=some o/\o.cls=.type "list" /\ o.dict=none/\o.data=.seq its n/\its.size≤sizeLine/\Vals xs its.toList
def SqT(K:Af)(H:Hp)(a:Addr)(xs:List V):Prop:=
 Rd H a (.tup xs)\/
  ∃(o:Obj) (its:Array Value) (n:Nat),K.lookup a=some o/\o.cls=.type "tuple" /\ o.data=.seq its n/\its.size≤sizeLine/\Vals xs its.toList
def a2u:Value->Option V
 |.none=>some .non
 |.bool b=>some (.bl b)
 |.int i _=>some (.int i)
 |.str x _=>some (.str x)
 |.bytes b _=>some (.byt b)
 |.float b _=>some (.flt b)
 |.ref a=>some (.ref a)
 |.type n=>some (.ty n)
 |_=>none
theorem RelV.abs{x:V}{u:Value}(r:RelV x u):a2u u=some x:=by
 cases x with
 |non=>cases r;rfl
 |bl _=>cases r;rfl
 |int _=>obtain⟨t,rfl⟩:=r;rfl
 |str _=>obtain⟨t,rfl⟩:=r;rfl
 |byt _=>obtain⟨t,rfl⟩:=r;rfl
 |flt _=>obtain⟨t,rfl⟩:=r;rfl
 |ref _=>cases r;rfl
 |ty _=>cases r;rfl
theorem RelV.inj{x y:V}{u:Value}(r:RelV x u)(q:RelV y u):x=y:=A6 (r.abs.symm.trans q.abs)
theorem Vals.inj:∀{xs ys:List V} {us:List Value},Vals xs us->Vals ys us->xs=ys
 |_,_,_,.nil,.nil=>rfl
 |_,_,_,.cons r t,.cons r' t'=>by rw[r.inj r',Vals.inj t t']
section
variable {X:Cx}{pins:List (Addr×Obj)}{σ:St}{H:Hp}{s:Shared}{a:Addr}{xs ys:List V}
theorem SqL.of{K:Af}(h:H a=some (.lst xs)):SqL K H a xs:=.inl (.inl h)
theorem SqT.of{K:Af}(h:H a=some (.tup xs)):SqT K H a xs:=.inl (.inl h)
theorem Inv.list(I:Inv X pins σ H s)(h:SqL X.K H a xs):∃its:List Value,Vals xs its/\PlainL s.heap a its.toArray/\xs.length≤sizeLine:=by
 rcases h with h | ⟨o,its,n,hk,hc,hd,hs,hz,r⟩
 ·obtain⟨z,its,n,r,e⟩:=h.ok I.hok;exact⟨its,r,⟨_,n,e,rfl,rfl,rfl⟩,z⟩
 ·refine⟨its.toList,r,⟨o,n,I.kIn a o hk,hc,hd,by simpa using hs⟩,?_⟩;have e:=r.length;simp only[AJ] at e;omega
theorem Inv.tuple(I:Inv X pins σ H s)(h:SqT X.K H a xs):∃its:List Value,Vals xs its/\IsTup s.heap a its.toArray/\xs.length≤sizeLine:=by
 rcases h with h | ⟨o,its,n,hk,hc,hs,hz,r⟩
 ·obtain⟨z,its,r,p⟩:=h.ok I.hok;exact⟨its,r,p,z⟩
 ·refine⟨its.toList,r,⟨o,I.kIn a o hk,hc,n,by simpa using hs⟩,?_⟩;have e:=r.length;simp only[AJ] at e;omega
theorem Inv.list_inj(I:Inv X pins σ H s)(h:SqL X.K H a xs)(h':SqL X.K H a ys):xs=ys:=by
 obtain⟨its,r,⟨o,n,e,_,_,d⟩,_⟩:=I.list h;obtain⟨its',r',⟨o',n',e',_,_,d'⟩,_⟩:=I.list h';rw[e] at e';cases e';rw[d] at d';injection d' with d1 _
 have:its=its':=by simpa using BA Array.toList d1
 subst this;exact r.inj r'
theorem Inv.tuple_inj(I:Inv X pins σ H s)(h:SqT X.K H a xs)(h':SqT X.K H a ys):xs=ys:=by
 obtain⟨its,r,⟨o,e,_,n,d⟩,_⟩:=I.tuple h;obtain⟨its',r',⟨o',e',_,n',d'⟩,_⟩:=I.tuple h';rw[e] at e';cases e';rw[d] at d';injection d' with d1 _
 have:its=its':=by simpa using BA Array.toList d1
 subst this;exact r.inj r'
end
abbrev Cx.wish(X:Cx)(E:Value->Shared->Prop):Cx:={ X with xe:=E }
abbrev Cx.nox(X:Cx):Cx:=X.wish fun _ _=>False
theorem Cx.Ok.wish{X:Cx}(ok:X.Ok)(E:Value->Shared->Prop):(X.wish E).Ok:=
 ⟨ok.mod,ok.kind,ok.glob,ok.blt,ok.above,ok.inj,ok.has,ok.cab,ok.hd,ok.frames,ok.stk,ok.exf,ok.bs,ok.bsz,ok.noex,ok.exfs,ok.funs,ok.frf⟩
theorem Cx.Ok.unwish{X:Cx}{E:Value->Shared->Prop}(ok:(X.wish E).Ok):X.Ok:=
 ⟨ok.mod,ok.kind,ok.glob,ok.blt,ok.above,ok.inj,ok.has,ok.cab,ok.hd,ok.frames,ok.stk,ok.exf,ok.bs,ok.bsz,ok.noex,ok.exfs,ok.funs,ok.frf⟩
section
variable {X:Cx}{pins:List (Addr×Obj)}{σ:St}{H:Hp}{s:Shared}{E:Value->Shared->Prop}
theorem Inv.wish(I:Inv X pins σ H s)(E:Value->Shared->Prop):Inv (X.wish E) pins σ H s:=⟨I.ok.wish E,I.os,I.bare,I.base,I.loc,I.cell,I.free,I.freeC,I.pin,I.hok,I.len,I.tk⟩
theorem Inv.unwish(I:Inv (X.wish E) pins σ H s):Inv X pins σ H s:=⟨I.ok.unwish,I.os,I.bare,I.base,I.loc,I.cell,I.free,I.freeC,I.pin,I.hok,I.len,I.tk⟩
theorem SP.unwish{D:Ends}{f:Flow}{s':Shared}(h:SP (X.wish E) pins D f s'):SP X pins D f s':=by
 cases f with
 |next=>obtain⟨σ',H',I,q⟩:=h;exact⟨σ',H',I.unwish,q⟩
 |brk=>obtain⟨σ',H',I,q⟩:=h;exact⟨σ',H',I.unwish,q⟩
 |cont=>obtain⟨σ',H',I,q⟩:=h;exact⟨σ',H',I.unwish,q⟩
 |ret u=>obtain⟨v,σ',H',I,r,q⟩:=h;exact⟨v,σ',H',I.unwish,r,q⟩
theorem PSs.nox{st:List Stmt}{t:TS}(h:PSs X.nox st t):PSs X st t:=fun pins s σ H D I hw=>
 AV (h pins s σ H D (I.wish _) hw) (fun _ _ q=>q.unwish) fun _ _ z=>False.elim z
end
section
variable {X:Cx}{st:Stmt}{rest:List Stmt}{t u:TS}{e:Expr}{te:TE}{pos:Pos}
def a10:TS:=fun D σ H=>D.nx σ H
def a3f(t u:TS):TS:=fun D σ H=>t { D with nx:=u D } σ H
theorem aw2:PSs X [] a10:=fun _ _ σ H _ I h=>wpAny_execs_nil ⟨σ,H,I,h⟩
theorem ald(h1:PS X st t)(h2:PSs X rest u):PSs X (st::rest) (a3f t u):=by
 intro pins s σ H D I h;refine wpAny_execs_cons (thn (h1 pins s σ H { D with nx:=u D } I h) fun f s1 q=>?_);cases f with
 |next=>
  obtain⟨σ',H',I',q⟩:=q;exact h2 pins s1 σ' H' D I' q
 |ret v=>exact q
 |brk=>exact q
 |cont=>exact q
theorem avi(h1:PS X st t):PSs X [st] t:=by
 intro pins s σ H D I h;refine wpAny_execs_cons (thn (h1 pins s σ H D I h) fun f s1 q=>?_);cases f with
 |next=>exact wpAny_execs_nil q
 |ret v=>exact q
 |brk=>exact q
 |cont=>exact q
def a1w:TS:=fun D σ H=>D.ct σ H
theorem alf:PS X (.Continue pos) a1w:=fun _ _ σ H _ I h=>wpAny_Continue ⟨σ,H,I,h⟩
theorem Inv.quiet{pins:List (Addr×Obj)}{σ:St}{H:Hp}{s:Shared}(I:Inv X pins σ H s):interactive X.env=false:=by simp[interactive,I.ok.kind]
def a0y(te:TE):TS:=fun D σ H=>te σ H fun _ H1=>D.nx σ H1
theorem avp(he:PE X e te)(hs:swapsWith e none pos.line X.env=pure false:=by rfl):PS X (.Expr e pos) (a0y te):=by
 intro pins s σ H D I h;exact wpAny_Expr_any (thn (he pins s σ H _ I h) fun v s1 ⟨x,H1,I1,r1,q1⟩=>⟨σ,H1,I1,q1⟩) I.quiet hs
def a3g(te:TE):TS:=fun D σ H=>te σ H D.rt
theorem azs(he:PE X e te):PS X (.Return (some e) pos) (a3g te):=by
 intro pins s σ H D I h;exact wpAny_Return_some (thn (he pins s σ H _ I h) fun v s1 ⟨x,H1,I1,r1,q1⟩=>⟨x,σ,H1,I1,r1,q1⟩)
def a0v:TS:=fun D _ H=>D.rt .non H
theorem aw6:PS X (.Return none pos) a0v:=fun _ _ σ H _ I h=>wpAny_Return_none ⟨.non,σ,H,I,rfl,h⟩
def a2v(c:TT)(t u:TS):TS:=fun D σ H=>c σ H fun b H1=>if b=true then t D σ H1 else u D σ H1
theorem a1p{c:Expr}{a b:List Stmt}{tc:TT}(hc:PT X c tc)(ha:PSs X a t)(hb:PSs X b u):PS X (.If c a b pos) (a2v tc t u):=by
 intro pins s σ H D I h;refine wpAny_If (thn (hc pins s σ H _ I h) fun d s1 ⟨H1,I1,q1⟩=>?_);cases d with
 |true=>exact ha pins s1 σ H1 D I1 q1
 |false=>exact hb pins s1 σ H1 D I1 q1
end
abbrev TG:=V->St->Hp->(St->Hp->Prop)->Prop
abbrev TGs:=List V->St->Hp->(St->Hp->Prop)->Prop
def PG(X:Cx)(target:Expr)(t:TG):Prop:=
 ∀(pins:List (Addr×Obj)) (s:Shared) (σ:St) (H:Hp) (v:V) (u:Value) (Q:St->Hp->Prop),Inv X pins σ H s->RelV v u->t v σ H Q->
  wpAny (model X.prog X.w) X.A (assign target X.env u) (fun _ s'=>∃σ' H',Inv X pins σ' H' s'/\Q σ' H') X.xe s
def PGs(X:Cx)(ts:List Expr)(t:TGs):Prop:=
 ∀(pins:List (Addr×Obj)) (s:Shared) (σ:St) (H:Hp) (vs:List V) (us:List Value) (Q:St->Hp->Prop),Inv X pins σ H s->Vals vs us->t vs σ H Q->
  wpAny (model X.prog X.w) X.A (assignInOrder ((assignEach ts X.env).map (·.2)) us) (fun _ s'=>∃σ' H',Inv X pins σ' H' s'/\Q σ' H') X.xe s
abbrev azl:=V->V->V->Hp->(Hp->Prop)->Prop
def a1k(X:Cx)(t:azl):Prop:=
 ∀(pins:List (Addr×Obj)) (s:Shared) (σ:St) (H:Hp) (o i v:V) (ov iv u:Value) (Q:Hp->Prop),Inv X pins σ H s->RelV o ov->RelV i iv->RelV v u->t o i v H Q->
  wpAny (model X.prog X.w) X.A (setItem ov iv u) (fun _ s'=>∃H',Inv X pins σ H' s'/\Q H') X.xe s
section
variable {X:Cx}{pos:Pos}
def acq(i:Nat):TG:=fun v σ H Q=>Q (σ.set i (some v)) H
theorem ags{i:Nat}{x:Str}(hN:X.N.Nodup)(hi:X.N[i]?=some x)(hx:Loc X.env.scope x)(hf:X.fn x=true\/X.env.scope.names.lookup x=some .local:=by first | exact .inl rfl | exact .inr rfl | assumption):PG X (.Name x pos) (acq i):=by
 intro pins s σ H v u Q I r h;exact wpAny_assign_Name (aaj I hN hi hx r (fun s' I'=>⟨_,H,I',h⟩) hf)
def azf:TGs:=fun vs σ H Q=>vs=[]/\Q σ H
def alg(t:TG)(u:TGs):TGs:=fun vs σ H Q=>∃v r,vs=v::r/\t v σ H fun σ' H'=>u r σ' H' Q
theorem apd:PGs X [] azf:=by
 intro pins s σ H vs us Q I r h;obtain⟨e,h⟩:=h;subst e;cases r;exact assignInOrder_nil ⟨σ,H,I,h⟩
theorem ah9{e:Expr}{es:List Expr}{t:TG}{u:TGs}(h1:PG X e t)(h2:PGs X es u)
 (hs:(assignEach (e::es) X.env).map (·.2)=assign e X.env::(assignEach es X.env).map (·.2):=by rfl):PGs X (e::es) (alg t u):=by
 intro pins s σ H vs us Q I r h;obtain⟨v,vr,e1,h⟩:=h;subst e1;cases r with
 |cons r rr=>
  rw[hs];refine assignInOrder_cons (thn (h1 pins s σ H _ _ _ I r h) fun _ s1 ⟨σ1,H1,I1,q1⟩=>?_);exact h2 pins s1 σ1 H1 _ _ Q I1 rr q1
def azd(K:Af)(n:Nat)(t:TGs):TG:=fun v σ H Q=>∃a xs,v=.ref a/\SqT K H a xs/\xs.length=n/\t xs σ H Q
theorem atx{es:List Expr}{k:Nat}{t:TGs}{n:Nat}(hc:X.calm=true)(h:PGs X es t)
 (hn:(assignEach es X.env).length=n:=by rfl) (hst:(assignEach es X.env).findIdx? (·.1)=none:=by rfl):PG X (.Tuple es k pos) (azd X.K n t):=by
 intro pins s σ H v u Q I r hw;obtain⟨a,xs,e1,hq,hl,hw⟩:=hw;subst e1;cases r;obtain⟨its,rv,ht,hz⟩:=I.tuple hq;refine assign_Tuple_tuple (I.ok.hd hc) ht (by simp[hn,<-hl,rv.length]) hst fun h' hx=>?_;have I1:Inv X pins σ H { s with heap:=h' }:=I.kept (t':=s.toks) fun b o e=>hx b o (A3 (Heap.lt_size e)) e;exact h pins _ σ H xs _ Q I1 (by simpa using rv) hw
def a2e(to ti:TE)(t:azl):TG:=fun v σ H Q=>to σ H fun o H1=>ti σ H1 fun i H2=>t o i v H2 fun H3=>Q σ H3
theorem a0a{o i:Expr}{to ti:TE}{t:azl}(ho:PE X o to)(hi:PE X i ti)(hs:a1k X t)
 (ha:∀v,assign (.Subscript o i pos) X.env v=(do
  let ov <-holding [v] (eval o X.env)
  let iv <-holding [v,ov] (eval i X.env)
  standAt pos
  holding [v,ov,iv] (setItem ov iv v)
  release [v,ov,iv] []):=by intro _;rfl):PG X (.Subscript o i pos) (a2e to ti t):=by
 intro pins s σ H v u Q I r h;rw[ha];refine Aa (A7 (thn (ho pins s σ H _ I h) fun ov s1 ⟨x,H1,I1,r1,q1⟩=>?_));refine Aa (A7 (thn (hi pins s1 σ H1 _ I1 q1) fun iv s2 ⟨y,H2,I2,r2,q2⟩=>?_));refine Aa (wpAny_standAt (Aa (A7 (thn (hs pins s2 σ H2 x y v ov iv u _ I2 r1 r2 r q2) fun _ s3 ⟨H3,I3,q3⟩=>?_))));exact wpAny_release ⟨σ,H3,I3,q3⟩
def ayg(te:TE)(g:TG):TS:=fun D σ H=>te σ H fun x H1=>g x σ H1 D.nx
theorem ase{tg e:Expr}{te:TE}{g:TG}(he:PE X e te)(hg:PG X tg g)(hs:swapsWithSole [tg] e pos.line X.env=pure false:=by rfl)(hw:swappedStores [tg] e X.env=pure none:=by rfl)
 (h1:(assignEach [tg] X.env).map (·.2)=[assign tg X.env]:=by rfl):PS X (.Assign [tg] e pos) (ayg te g):=by
 intro pins s σ H D I h;refine wpAny_Assign_stores (thn (he pins s σ H _ I h) fun v s1 ⟨x,H1,I1,r1,q1⟩=>?_) hs hw;rw[h1];exact thn (hg pins s1 σ H1 x v _ I1 r1 q1) fun _ s2 q=>q
theorem ayt{i:Nat}{x:Str}{e:Expr}{te:TE}{pos':Pos}(hN:X.N.Nodup)(hi:X.N[i]?=some x)(hx:Loc X.env.scope x)(he:PE X e te)(hs:swapsWith e (some (.Name x pos')) pos.line X.env=pure false:=by rfl)(hf:X.fn x=true\/X.env.scope.names.lookup x=some .local:=by first | exact .inl rfl | exact .inr rfl | assumption):
 PS X (.Assign [.Name x pos'] e pos) (ayg te (acq i)):=by
 intro pins s σ H D I h;refine wpAny_Assign_Name (thn (he pins s σ H _ I h) fun v s1 ⟨y,H1,I1,r1,q1⟩=>?_) hs;exact aaj I1 hN hi hx r1 (fun s2 I2=>⟨_,H1,I2,q1⟩) hf
def a24(i j:Nat)(ta:TA):TS:=fun D σ H=>ta σ H fun vs H1=>∃v w,vs=[v,w]/\D.nx ((σ.set i (some v)).set j (some w)) H1
theorem axx{i j:Nat}{x y:Str}{a b:Expr}{ta:TA}{px py pt:Pos}{kt k2 pt2}(hc:X.calm=true)(hN:X.N.Nodup)(hi:X.N[i]?=some x)(hj:X.N[j]?=some y)(hij:i≠j)
 (hx:X.env.scope.names.lookup x=some .local) (hy:X.env.scope.names.lookup y=some .local) (ha:PA X [a,b] ta)
 (hw:swappedStores [.Tuple [.Name x px,.Name y py] kt pt] (.Tuple [a,b] k2 pt2) X.env=pure (some [x,y]))
 (hs:swapsWithSole [.Tuple [.Name x px,.Name y py] kt pt] (.Tuple [a,b] k2 pt2) pos.line X.env=pure false:=by rfl):
 PS X (.Assign [.Tuple [.Name x px,.Name y py] kt pt] (.Tuple [a,b] k2 pt2) pos) (a24 i j ta):=by
 intro pins s σ H D I h;rw[exec_Assign_arm];refine Aa (wpAny_standAt ?_);rw[hs];refine Aa (Ah ?_);rw[Ax (by decide)];refine Aa (Tuple_ (thn (ha _ pins s σ H _ I h) fun us s1 ⟨vs,H1,I1,r1,q1⟩=>?_));obtain⟨v,w,e1,q1⟩:=q1;subst e1;obtain⟨u1,u2,rfl,rv,rw'⟩:∃u1 u2,us=[u1,u2]/\RelV v u1/\RelV w u2:=by
  cases r1 with
  |cons p q=>
   cases q with
   |cons p' q'=>
    cases q';exact⟨_,_,rfl,p,p'⟩
 refine Be ?_ (by show 2≤sizeLine;decide);have I2:Inv X pins σ H1 { s1 with heap:=s1.heap.push { cls:=.type "tuple",data:=.seq [u1,u2].toArray } }:=I1.kept (t':=s1.toks) fun b o e=>Heap.get?_push_of_some _ e;rw[hw];refine Aa (Ah ?_);show wpAny (model X.prog X.w) X.A (do rule "assign.swapped-stores";let items <-unpackItems (.ref s1.heap.objs.size) 2 none;assignInOrder [fun v=>bindName X.env y v,fun v=>bindName X.env x v] items.reverse;pure Flow.next) _ _ _;refine Aa (Bl (Aa (unpackItems_tuple (items:=#[u1,u2]) (I.ok.hd hc) (IsTup.new s1.heap _) fun h' hx'=>?_)));have I3:=I2.kept (h':=h') (t':=s1.toks) fun b o e=>hx' b o (A3 (Heap.lt_size e)) e;show wpAny _ _ (assignInOrder [fun v=>bindName X.env y v,fun v=>bindName X.env x v] [u2,u1] >>= fun _=>pure Flow.next) _ _ _;refine Aa (assignInOrder_cons (wpAny_bindName (aaj I3 hN hj (.inl hy) rw' (fun s2 I4=>?_) (.inr hy))));refine assignInOrder_cons (wpAny_bindName (aaj I4 hN hi (.inl hx) rv (fun s3 I5=>assignInOrder_nil (Ah ?_)) (.inr hx)));rw[Dy _ _ (AK hij)] at I5;exact⟨_,H1,I5,q1⟩
end
section
variable {X:Cx}{pos:Pos}
def az9(c:TT)(tb:TS):TS:=fun D σ H=>∃W:Nat->St->Hp->Prop,(∃m,W m σ H)/\∀m σ H,W m σ H->
 c σ H fun b H1=>if b=true then ∃N:St->Hp->Prop,(∀σ' H',N σ' H'->∃m',m'<m/\W m' σ' H')/\tb { D with nx:=N,ct:=N,bk:=D.nx } σ H1 else D.nx σ H1
theorem asb{c:Expr}{body:List Stmt}{tc:TT}{tb:TS}(hp:PassesOwn (model X.prog X.w) X.A X.env X.xe)(hc:PT X c tc)(hb:PSs X body tb):PS X (.While c body [] pos) (az9 tc tb):=by
 intro pins s σ H D I h;obtain⟨W,⟨m0,w0⟩,turn⟩:=h;refine wpAny_While (codeAny_whileLoop (fun n s'=>∃σ' H',Inv X pins σ' H' s'/\W n σ' H') ?_ m0 ⟨σ,H,I,w0⟩);rintro n s1 ⟨σ1,H1,I1,w1⟩;refine wpAny_passesOwn hp (thn (hc pins s1 σ1 H1 _ I1 (turn n σ1 H1 w1)) fun b s2 ⟨H2,I2,q2⟩=>?_);cases b with
 |true=>
  obtain⟨N,hN,q2⟩:=q2;rw[AB rfl];refine wpAny_passesOwn hp (thn (hb pins s2 σ1 H2 _ I2 q2) fun f s3 q3=>?_);cases f with
  |next=>
   obtain⟨σ3,H3,I3,n3⟩:=q3;obtain⟨m',hm,w3⟩:=hN σ3 H3 n3;exact⟨m',hm,σ3,H3,I3,w3⟩
  |cont=>
   obtain⟨σ3,H3,I3,n3⟩:=q3;obtain⟨m',hm,w3⟩:=hN σ3 H3 n3;exact⟨m',hm,σ3,H3,I3,w3⟩
  |brk=>exact q3
  |ret v=>exact q3
 |false=>
  rw[Ax AA];exact wpAny_execs_nil ⟨σ1,H2,I2,q2⟩
end
structure It where
 go:Nat->Hp->Prop
 yld:Nat->Hp->V->Hp->Prop
 stop:Nat->Hp->Prop
def aix(X:Cx)(pins:List (Addr×Obj))(H:Hp)(b:Addr):Prop:=
 H b=none/\b≠X.env.locals/\b∉X.fs/\(b∈X.ex\/X.s₀.heap.objs.size≤b)/\(∀x c,X.env.cells.lookup x=some c->c≠b)/\∀p∈X.pn++pins,p.1≠b
theorem Inv.fpOk{X:Cx}{pins:List (Addr×Obj)}{σ:St}{H H':Hp}{s:Shared}{b:Addr}(I:Inv X pins σ H s)(hb:s.heap.objs.size≤b)(hn:H' b=none):aix X pins H' b:=by
 refine⟨hn,Dh (Ak I.lt hb),I.nofs hb,.inr (AW I.sz hb),fun x c e z=>?_,fun p hp z=>?_⟩
 ·obtain⟨v,q⟩:=I.cell x c e;exact absurd (Ak q.lt (by rw[z];exact hb)) (C4 _)
 ·exact absurd (Ak (Heap.lt_size (I.pin p hp).1) (by rw[z];exact hb)) (C4 _)
structure Turn(P:Program)(w:World)(K:Af)(tg:Expr)(J:It)(fp:List Addr)(it:Addr)(tn:Nat->Heap->Prop):Prop where
 mem:it∈fp
 obj:∀i h,tn i h->∀b∈fp,∃o,h.get? b=some o/\∀v,o.data≠.cell v
 keep:∀i h h',tn i h->(∀b∈fp,∀o,h.get? b=some o->h'.get? b=some o)->tn i h'
 item:∀(X:Cx),X.prog=P->X.w=w->X.K=K->X.calm=true->∀(i:Nat) (pins:List (Addr×Obj)) (s:Shared) (σ:St) (H:Hp) (E:Value->Shared->Prop),Inv X pins σ H s->(∀b∈fp,aix X pins H b)->tn i s.heap->J.go i H->
  wpAny (model P w) X.A (pyNext (.ref it)) (fun r s1=>∃u,r=some u/\
   wpAny (model P w) X.A (letOwnedTupleGo tg (.ref it) u) (fun _ s2=>∃x H',Inv X pins σ H' s2/\RelV x u/\J.yld i H x H'/\tn (i+1) s2.heap/\∀b∈fp,H' b=none) E s1) E s
 done:∀(X:Cx),X.prog=P->X.w=w->X.K=K->X.calm=true->∀(i:Nat) (pins:List (Addr×Obj)) (s:Shared) (σ:St) (H:Hp) (E:Value->Shared->Prop),Inv X pins σ H s->(∀b∈fp,aix X pins H b)->tn i s.heap->J.stop i H->
  wpAny (model P w) X.A (pyNext (.ref it)) (fun r s1=>r=none/\Inv X pins σ H s1) E s
 self:∀(A:Around) (i:Nat) (s:Shared) (Q:Value->Shared->Prop) (E:Value->Shared->Prop),tn i s.heap->Q (.ref it) s->wpAny (model P w) A (pyIter (.ref it)) Q E s
abbrev TI:=St->Hp->(It->Hp->Prop)->Prop
def PIE(X:Cx)(pins:List (Addr×Obj))(σ:St)(tg:Expr)(R:It->Hp->Prop)(itv:Value)(s2:Shared):Prop:=
 ∃(it:Addr) (fp:List Addr) (tn:Nat->Heap->Prop) (J:It) (H':Hp),itv=.ref it/\Inv X pins σ H' s2/\Turn X.prog X.w X.K tg J fp it tn/\tn 0 s2.heap/\(∀b∈fp,aix X pins H' b)/\R J H'
def PI(X:Cx)(tg iter:Expr)(wi:TI):Prop:=
 ∀(pins:List (Addr×Obj)) (s:Shared) (σ:St) (H:Hp) (R:It->Hp->Prop),Inv X pins σ H s->wi σ H R->
  wpAny (model X.prog X.w) X.A (eval iter X.env) (fun v s1=>wpAny (model X.prog X.w) X.A (pyIter v) (PIE X pins σ tg R) X.xe s1) X.xe s
theorem atm{M:Model}{A:Around}{E:Value->Shared->Prop}{s:Shared}{tg:Expr}{it:Addr}{u:Value}{o:Obj}{n:String}{vs:Array Value}{Q:Unit->Shared->Prop}(ho:s.heap.get? it=some o)(hc:o.cls=.type n)(hd:o.data=.fields vs)
 (hn:["enumerate", "zip", "dict_itemiterator", "dict_reverseitemiterator", "odict_iterator", "itertools.zip_longest", "itertools.pairwise"].contains n=false) (hQ:Q () s):wpAny M A (letOwnedTupleGo tg (.ref it) u) Q E s:=by
 unfold letOwnedTupleGo;cases tg<;>first
  |exact Ah hQ
  |(cases u<;>first
   |exact Ah hQ
   |(refine Aa (wpAny_load ho ?_)
     rw[hc,hd];show wpAny M A (if (["enumerate", "zip", "dict_itemiterator", "dict_reverseitemiterator", "odict_iterator", "itertools.zip_longest", "itertools.pairwise"].contains n&&vs[0]?==some (rawInt _))=true then _ else _) Q E s;rw[Ax (by intro h;rw[hn,Bool.false_and] at h;cases h)];exact Ah hQ))
def Itl(K:Af)(a:Addr):It:=
 ⟨fun i H=>∃xs x,SqL K H a xs/\xs[i]?=some x,fun i H x H'=>H'=H/\∀xs,SqL K H a xs->xs[i]?=some x,fun i H=>∃xs,SqL K H a xs/\xs.length≤i⟩
def Itt(K:Af)(a:Addr):It:=
 ⟨fun i H=>∃xs x,SqT K H a xs/\xs[i]?=some x,fun i H x H'=>H'=H/\∀xs,SqT K H a xs->xs[i]?=some x,fun i H=>∃xs,SqT K H a xs/\xs.length≤i⟩
def Itr(lo:Int)(n:Nat):It:=⟨fun i _=>i<n,fun i H x H'=>H'=H/\x=.int (lo+i),fun i _=>n≤i⟩
theorem ark{P:Program}{w:World}{K:Af}{tg:Expr}(a it:Addr):Turn P w K tg (Itl K a) [it] it (fun i h=>h.IsListIter it a i) where
 mem:=by simp
 obj:=fun i h st b hb=>by
  have e:b=it:=by simpa using hb
  subst e;obtain⟨o,e,c,d⟩:=st;exact⟨o,e,fun v z=>by rw[d] at z;cases z⟩
 keep:=fun i h h' st k=>st.at fun o e=>k it (by simp) o e
 item:=by
  intro X hP hw hK hc i pins s σ H E I hf st hg;subst hP hw hK;obtain⟨xs,x,hq,hx⟩:=hg;obtain⟨its,rv,p,hz⟩:=I.list hq;obtain⟨u,hu,ru⟩:=rv.get hx;obtain⟨f0,f1,f2,f3,f4,f5⟩:=hf it (by simp);refine wpAny_pyNext_list_item st p.isList (x:=u) (by simpa using hu) fun h' st' sb=>?_;have I1:Inv X pins σ H { s with heap:=h' }:=I.turned (t':=s.toks) (fun b o hb e=>(sb.2 b hb).trans e) f0 f1 f3 f4 f5;obtain⟨o,e,c,d⟩:=id st';exact⟨u,rfl,atm (s:={ s with heap:=h' }) e c d (by decide) ⟨x,H,I1,ru,⟨rfl,fun ys hy=>by rw[I.list_inj hy hq];exact hx⟩,st',fun b hb=>(hf b hb).1⟩⟩
 done:=by
  intro X hP hw hK hc i pins s σ H E I hf st hg;subst hP hw hK;obtain⟨xs,hq,hx⟩:=hg;obtain⟨its,rv,p,hz⟩:=I.list hq;obtain⟨f0,f1,f2,f3,f4,f5⟩:=hf it (by simp);have hl:=rv.length;exact wpAny_pyNext_list_end (I.ok.hd hc) st p.isList (by simp;omega) fun h' eb=>⟨rfl,I.turned (t':=s.toks) (fun b o hb e=>eb b o hb e) f0 f1 f3 f4 f5⟩
 self:=fun _ _ _ _ _ st h=>wpAny_pyIter_listiter st h
theorem aod{P:Program}{w:World}{K:Af}{tg:Expr}(a it:Addr):Turn P w K tg (Itt K a) [it] it (fun i h=>h.IsTupleIter it a i) where
 mem:=by simp
 obj:=fun i h st b hb=>by
  have e:b=it:=by simpa using hb
  subst e;obtain⟨o,e,c,d⟩:=st;exact⟨o,e,fun v z=>by rw[d] at z;cases z⟩
 keep:=fun i h h' st k=>st.at fun o e=>k it (by simp) o e
 item:=by
  intro X hP hw hK hc i pins s σ H E I hf st hg;subst hP hw hK;obtain⟨xs,x,hq,hx⟩:=hg;obtain⟨its,rv,p,hz⟩:=I.tuple hq;obtain⟨u,hu,ru⟩:=rv.get hx;obtain⟨f0,f1,f2,f3,f4,f5⟩:=hf it (by simp);refine wpAny_pyNext_tuple_item st (show s.heap.IsTuple a its.toArray from p) (x:=u) (by simpa using hu) fun h' st' sb=>?_;have I1:Inv X pins σ H { s with heap:=h' }:=I.turned (t':=s.toks) (fun b o hb e=>(sb.2 b hb).trans e) f0 f1 f3 f4 f5;obtain⟨o,e,c,d⟩:=id st';exact⟨u,rfl,atm (s:={ s with heap:=h' }) e c d (by decide) ⟨x,H,I1,ru,⟨rfl,fun ys hy=>by rw[I.tuple_inj hy hq];exact hx⟩,st',fun b hb=>(hf b hb).1⟩⟩
 done:=by
  intro X hP hw hK hc i pins s σ H E I hf st hg;subst hP hw hK;obtain⟨xs,hq,hx⟩:=hg;obtain⟨its,rv,p,hz⟩:=I.tuple hq;obtain⟨f0,f1,f2,f3,f4,f5⟩:=hf it (by simp);have hl:=rv.length;exact wpAny_pyNext_tuple_end (I.ok.hd hc) st (show s.heap.IsTuple a its.toArray from p) (by simp;omega) fun h' eb=>⟨rfl,I.turned (t':=s.toks) (fun b o hb e=>eb b o hb e) f0 f1 f3 f4 f5⟩
 self:=fun _ _ _ _ _ st h=>wpAny_pyIter_tupleiter st h
theorem aol{P:Program}{w:World}{K:Af}{tg:Expr}(it:Addr)(lo:Int)(n:Nat):Turn P w K tg (Itr lo n) [it] it (fun i h=>IsRangeIter h it (lo+(i:Nat)*1) ((n:Int) - (i:Nat)) 1) where
 mem:=by simp
 obj:=fun i h st b hb=>by
  have e:b=it:=by simpa using hb
  subst e;exact⟨_,st,fun v z=>by
   have z':Data.fields _=Data.cell v:=z;cases z'⟩
 keep:=fun i h h' st k=>k it (by simp) _ st
 item:=by
  intro X hP hw hK hc i pins s σ H E I hf st hg;subst hP hw hK;obtain⟨f0,f1,f2,f3,f4,f5⟩:=hf it (by simp);have W:=Walks.range (prog:=X.prog) (w:=X.w) (I.ok.hd hc) it lo 1 n;refine ji I.tk (W.item i s _ _ hg st fun v h' tk hv st' kk ht=>?_);obtain⟨t,rfl⟩:=hv;have I1:Inv X pins σ H { s with heap:=h',toks:=tk }:=I.turned (fun b o hb e=>kk b o (by simpa using hb) e) f0 f1 f3 f4 f5;refine⟨_,rfl,atm (s:={ s with heap:=h',toks:=tk }) (n:="range_iterator") st' rfl rfl (by decide) ⟨.int (lo+i),H,I1,⟨t,?_⟩,⟨rfl,rfl⟩,st',fun b hb=>(hf b hb).1⟩⟩;rw[Int.mul_one]
 done:=by
  intro X hP hw hK hc i pins s σ H E I hf st hg;subst hP hw hK;obtain⟨f0,f1,f2,f3,f4,f5⟩:=hf it (by simp);exact wpAny_pyNext_range_end (I.ok.hd hc) st (by have:n≤i:=hg;omega) fun h' eb=>⟨rfl,I.turned (t':=s.toks) (fun b o hb e=>eb b o hb e) f0 f1 f3 f4 f5⟩
 self:=fun _ _ _ _ _ st h=>wpAny_pyIter_rangeiter st h
section
variable {X:Cx}{tg:Expr}
def a15(K:Af)(tl:TE):TI:=fun σ H R=>tl σ H fun x H1=>∃a,x=.ref a/\(∃xs,SqL K H1 a xs)/\R (Itl K a) H1
def a2f(K:Af)(tl:TE):TI:=fun σ H R=>tl σ H fun x H1=>∃a,x=.ref a/\(∃xs,SqT K H1 a xs)/\R (Itt K a) H1
theorem aw7{l:Expr}{tl:TE}(hl:PE X l tl):PI X tg l (a15 X.K tl):=by
 intro pins s σ H R I h;refine thn (hl pins s σ H _ I h) fun v s1 ⟨x,H1,I1,r1,q1⟩=>?_;obtain⟨a,e,⟨xs,hq⟩,q⟩:=q1;subst e;cases r1;obtain⟨its,rv,p,hz⟩:=I1.list hq;refine wpAny_pyIter_list p.isList ?_;refine⟨s1.heap.objs.size,[s1.heap.objs.size],_,_,H1,rfl,I1.kept (t':=s1.toks) fun b o e=>Heap.get?_push_of_some _ e,ark a _,⟨_,Heap.get?_push_size _ rfl,rfl,rfl⟩,fun b hb=>?_,q⟩;have e:b=s1.heap.objs.size:=by simpa using hb
 subst e;exact I1.fpOk (An _) (I1.hok.fresh (An _))
theorem ay3{l:Expr}{tl:TE}(hl:PE X l tl):PI X tg l (a2f X.K tl):=by
 intro pins s σ H R I h;refine thn (hl pins s σ H _ I h) fun v s1 ⟨x,H1,I1,r1,q1⟩=>?_;obtain⟨a,e,⟨xs,hq⟩,q⟩:=q1;subst e;cases r1;obtain⟨its,rv,p,hz⟩:=I1.tuple hq;refine wpAny_pyIter_tuple (show s1.heap.IsTuple a its.toArray from p) ?_;refine⟨s1.heap.objs.size,[s1.heap.objs.size],_,_,H1,rfl,I1.kept (t':=s1.toks) fun b o e=>Heap.get?_push_of_some _ e,aod a _,⟨_,Heap.get?_push_size _ rfl,rfl,rfl⟩,fun b hb=>?_,q⟩;have e:b=s1.heap.objs.size:=by simpa using hb
 subst e;exact I1.fpOk (An _) (I1.hok.fresh (An _))
theorem at0{pins:List (Addr×Obj)}{σ:St}{H:Hp}{s:Shared}{R:It->Hp->Prop}{E:Value->Shared->Prop}{lo hi:Int}{t u v:Tok}{tk:Nat}(I:Inv X pins σ H s)(h1 : -(2 ^ 62)≤lo)(h2:lo<2 ^ 62)(h3 : -(2 ^ 62)≤hi)(h4:hi<2 ^ 62)
 (q:R (Itr lo (hi - lo).toNat) H) (ht:0<tk:=by (first | assumption | exact Bj _ | exact Inv.tk (by assumption) | exact Ak (Inv.tk (by assumption)) (A2 _ _) | exact Ak (Inv.tk (by assumption)) (by assumption))):wpAny (model X.prog X.w) X.A (pyIter (.ref s.heap.objs.size)) (PIE X pins σ tg R) E { s with heap:=s.heap.push { cls:=.type "range",data:=.fields #[.int lo t,.int hi u,.int 1 v] },toks:=tk }:=by
 refine wpAny_pyIter_range (IsRange.new ..) (small_one h1 h2 h3 h4) ?_;have I1:Inv X pins σ H { s with heap:=s.heap.push { cls:=.type "range",data:=.fields #[.int lo t,.int hi u,.int 1 v] },toks:=tk }:=I.kept fun b o e=>Heap.get?_push_of_some _ e;refine⟨(s.heap.push { cls:=.type "range",data:=.fields #[.int lo t,.int hi u,.int 1 v] }).objs.size,[(s.heap.push { cls:=.type "range",data:=.fields #[.int lo t,.int hi u,.int 1 v] }).objs.size],_,_,H,rfl,
  I1.kept (t':=tk) fun b o e=>Heap.get?_push_of_some _ e,aol _ lo (hi - lo).toNat,?_,fun b hb=>?_,q⟩
 ·have e1:lo+((0:Nat):Int)*1=lo:=by simp
  have e2:(((hi - lo).toNat:Nat):Int) - ((0:Nat):Int)=Builtin.Range.rangeSize lo hi 1:=by rw[rangeSize_one];split<;>omega
  show IsRangeIter _ _ (lo+((0:Nat):Int)*1) ((((hi - lo).toNat:Nat):Int) - ((0:Nat):Int)) 1;rw[e1,e2];exact Heap.get?_push_size _ rfl
 ·have e:b=(s.heap.push { cls:=.type "range",data:=.fields #[.int lo t,.int hi u,.int 1 v] }).objs.size:=by simpa using hb
  subst e;exact I1.fpOk (An _) (I1.hok.fresh (An _))
def a0s(ta:TA):TI:=fun σ H R=>ta σ H fun vs H1=>∃j:Int,vs=[.int j] /\ -(2 ^ 62)≤j/\j<2 ^ 62/\R (Itr 0 j.toNat) H1
theorem aqs{a:Expr}{ta:TA}{p pos:Pos}(hg:Gl X "range")(hm:X.mg "range" = none)(ha:PA X [a] ta)(hs:starEach [a] X.env=[(false,eval a X.env)]:=by rfl):PI X tg (.Call (.Name "range" p) [a] [] pos) (a0s ta):=by
 intro pins s σ H R I h;refine Call_ (adm I hg hm boot_range (BQ (thn (ha pos pins s σ H _ I h) fun us s1 ⟨vs,H1,I1,r1,q1⟩=>?_) hs rfl));obtain⟨j,e,q1,q2,q⟩:=q1;subst e;cases r1 with
 |cons r rr=>
  cases rr;obtain⟨t,rfl⟩:=r;exact call_range_1 (at0 I1 (by omega) (by omega) q1 q2 (by simpa using q))
def a36(wi:TI)(g:TG)(tb:TS):TS:=fun D σ H=>wi σ H fun J H1=>∃W:Nat->Nat->St->Hp->Prop,(∃m,W 0 m σ H1)/\∀i m σ H,W i m σ H->
 (J.stop i H/\D.nx σ H)\/(J.go i H/\∃N:St->Hp->Prop,(∀σ' H',N σ' H'->∃m',m'<m/\W (i+1) m' σ' H')/\∀x H',J.yld i H x H'->g x σ H' fun σ2 H2=>tb { D with nx:=N,ct:=N,bk:=D.nx } σ2 H2)
def aib(fp:List Addr)(h:Heap):List (Addr×Obj):=fp.filterMap fun b=>(h.get? b).map fun o=>(b,o)
theorem abn{fp:List Addr}{h:Heap}{b:Addr}{o:Obj}(hb:b∈fp)(e:h.get? b=some o):(b,o)∈aib fp h:=List.mem_filterMap.mpr ⟨b,hb,by rw[e];rfl⟩
theorem aql{fp:List Addr}{h:Heap}{p:Addr×Obj}(hp:p∈aib fp h):p.1∈fp/\h.get? p.1=some p.2:=by
 obtain⟨b,hb,e⟩:=List.mem_filterMap.mp hp;cases q:h.get? b with
 |none=>rw[q] at e;cases e
 |some o=>
  rw[q] at e;have e':(b,o)=p:=A6 e;subst e';exact⟨hb,q⟩
theorem Inv.pinned{pins:List (Addr×Obj)}{σ:St}{H:Hp}{s:Shared}{fp:List Addr}(I:Inv X pins σ H s)(hf:∀b∈fp,aix X pins H b)(ho:∀b∈fp,∃o,s.heap.get? b=some o/\∀v,o.data≠.cell v):Inv X (pins++aib fp s.heap) σ H s:=
 I.pins_of fun p hp=>(Al.mp hp).elim (fun z=>I.pin p (Ag _ z)) fun z=>by
  obtain⟨hb,e⟩:=aql z;obtain⟨f0,f1,f2,_⟩:=hf p.1 hb;obtain⟨o,e',d⟩:=ho p.1 hb;rw[e] at e';cases e';exact⟨e,f0,f1,f2,d⟩
theorem Inv.unpinned{pins pl:List (Addr×Obj)}{σ:St}{H:Hp}{s:Shared}(I:Inv X (pins++pl) σ H s):Inv X pins σ H s:=I.pins_of fun p hp=>I.pin p (Ag _ (Aw _ hp))
theorem ayj{iter:Expr}{body:List Stmt}{wi:TI}{g:TG}{tb:TS}{pos:Pos}(hp:PassesOwn (model X.prog X.w) X.A X.env X.xe)(hc:X.calm=true)(hi:PI X tg iter wi)(hg:PG X tg g)(hb:PSs X body tb)
 (hs:∀x,foldedSetIterable iter X.env x=pure x:=by intro _;rfl):PS X (.For tg iter body [] pos) (a36 wi g tb):=by
 intro pins s σ H D I h;refine wpAny_For (thn (hi pins s σ H _ I h) fun v s1 h1=>thn h1 fun itv s2 h2=>?_) hs;obtain⟨it,fp,tn,J,H2,e,I2,T,st2,f2,W,⟨m0,w0⟩,turn⟩:=h2;subst e;have stat:∀{H':Hp},(∀b∈fp,H' b=none)->∀b∈fp,aix X pins H' b:=fun hn b hb=>⟨hn b hb,(f2 b hb).2⟩;refine codeAny_forLoop_any (fun n s'=>∃i σ' H',Inv X pins σ' H' s'/\tn i s'.heap/\(∀b∈fp,H' b=none)/\W i n σ' H') ?_ m0 ⟨0,σ,H2,I2,st2,fun b hb=>(f2 b hb).1,w0⟩;rintro n s3 ⟨i,σ3,H3,I3,st3,fr3,w3⟩;rcases turn i n σ3 H3 w3 with⟨stop,qn⟩ | ⟨go,N,hN,step⟩
 ·refine wpAny_passesOwn hp (thn (T.done X rfl rfl rfl hc i pins s3 σ3 H3 X.xe I3 (stat fr3) st3 stop) fun r s4 ⟨hr,I4⟩=>?_);subst hr;exact wpAny_execs_nil ⟨σ3,H3,I4,qn⟩
 ·refine wpAny_passesOwn hp (thn (T.item X rfl rfl rfl hc i pins s3 σ3 H3 X.xe I3 (stat fr3) st3 go) fun r s4 ⟨u,hr,h4⟩=>?_);subst hr;refine wpAny_passesOwn hp (thn h4 fun _ s5 ⟨x,H5,I5,r5,y5,st5,fr5⟩=>?_);have I5':=I5.pinned (stat fr5) (T.obj _ _ st5);refine wpAny_passesOwn hp (thn (hg _ s5 σ3 H5 x u _ I5' r5 (step x H5 y5)) fun _ s6 ⟨σ6,H6,I6,q6⟩=>?_);refine wpAny_passesOwn hp (thn (hb _ s6 σ6 H6 _ I6 q6) fun f s7 q7=>?_);have again:∀{σ7:St} {H7:Hp},Inv X (pins++aib fp s5.heap) σ7 H7 s7->N σ7 H7->∃m,m<n/\∃i σ' H',Inv X pins σ' H' s7/\tn i s7.heap/\(∀b∈fp,H' b=none)/\W i m σ' H':=fun {σ7 H7} I7 n7=>by
   obtain⟨m',hm,w7⟩:=hN σ7 H7 n7;refine⟨m',hm,i+1,σ7,H7,I7.unpinned,T.keep _ _ _ st5 fun b hb o e=>(I7.pin (b,o) (Ag _ (Ag _ (abn hb e)))).1,fun b hb=>?_,w7⟩;obtain⟨o,e,d⟩:=T.obj _ _ st5 b hb;exact(I7.pin (b,o) (Ag _ (Ag _ (abn hb e)))).2.1
  cases f with
  |next=>obtain⟨σ7,H7,I7,n7⟩:=q7;exact again I7 n7
  |cont=>obtain⟨σ7,H7,I7,n7⟩:=q7;exact again I7 n7
  |brk=>obtain⟨σ7,H7,I7,q7⟩:=q7;exact⟨σ7,H7,I7.unpinned,q7⟩
  |ret v=>obtain⟨x7,σ7,H7,I7,r7,q7⟩:=q7;exact⟨x7,σ7,H7,I7.unpinned,r7,q7⟩
end
abbrev R2:=V->V->Hp->VK->Prop
def OpR(X:Cx)(f:Value->Value->Sem Value)(r:R2):Prop:=
 ∀(pins:List (Addr×Obj)) (s:Shared) (σ:St) (H:Hp) (x y:V) (v u:Value) (Q:VK),Inv X pins σ H s->RelV x v->RelV y u->r x y H Q->
  wpAny (model X.prog X.w) X.A (f v u) (EP X pins σ Q) X.xe s
def CallR(X:Cx)(f:Value)(r:List V->Hp->VK->Prop):Prop:=
 ∀(pins:List (Addr×Obj)) (s:Shared) (σ:St) (H:Hp) (xs:List V) (us:List Value) (Q:VK),Inv X pins σ H s->Vals xs us->r xs H Q->
  wpAny (model X.prog X.w) X.A (call f us) (EP X pins σ Q) X.xe s
def tOp(r:R2)(ta tb:TE):TE:=fun σ H Q=>ta σ H fun x H1=>tb σ H1 fun y H2=>r x y H2 Q
def rI(C:Int->Int->Prop)(g:Int->Int->V):R2:=fun x y H Q=>∃i j,x=.int i/\y=.int j/\C i j/\Q (g i j) H
def rI0(g:Int->Int->V):R2:=fun x y H Q=>∃i j,x=.int i/\y=.int j/\Q (g i j) H
section
variable {X:Cx}{a b c:Expr}{ta tb tc:TE}{pos:Pos}
theorem ayp(ha:PE X a ta)(hb:PE X b tb){pins:List (Addr×Obj)}{s:Shared}{σ:St}{H:Hp}{R:V->V->Hp->Prop}(I:Inv X pins σ H s)
 (h:ta σ H fun x H1=>tb σ H1 fun y H2=>R x y H2) {Q:Value->Shared->Prop} {f:Value->Value->Sem Value}
 (hf:∀v u s2 x y H2,Inv X pins σ H2 s2->RelV x v->RelV y u->R x y H2->wpAny (model X.prog X.w) X.A (f v u) Q X.xe s2):
 wpAny (model X.prog X.w) X.A (eval a X.env) (fun v s₁=>wpAny (model X.prog X.w) X.A (eval b X.env) (fun u s₂=>wpAny (model X.prog X.w) X.A (f v u) Q X.xe s₂) X.xe s₁) X.xe s:=by
 refine thn (ha pins s σ H _ I h) fun v s1 ⟨x,H1,I1,r1,q1⟩=>?_;refine thn (hb pins s1 σ H1 _ I1 q1) fun u s2 ⟨y,H2,I2,r2,q2⟩=>?_;exact hf v u s2 x y H2 I2 r1 r2 q2
theorem a17{op:Operator}{r:R2}(ho:OpR X (binaryOp op) r)(ha:PE X a ta)(hb:PE X b tb):PE X (.BinOp a op b pos) (tOp r ta tb):=by
 intro pins s σ H Q I h;exact wpAny_BinOp (ayp ha hb I h fun v u s2 x y H2 I2 rx ry q=>ho pins s2 σ H2 x y v u Q I2 rx ry q)
theorem opI{f:Value->Value->Sem Value}{C:Int->Int->Prop}{g:Int->Int->Int}
 (rule:∀(i j:Int) (t u:Tok) (s:Shared) (Q:Value->Shared->Prop) (E:Value->Shared->Prop),C i j->Q (.int (g i j) s.toks) { s with toks:=s.toks+1 }->wpAny (model X.prog X.w) X.A (f (.int i t) (.int j u)) Q E s):
 OpR X f (rI C fun i j=>.int (g i j)):=by
 intro pins s σ H x y v u Q I rx ry h;obtain⟨i,j,rfl,rfl,hc,q⟩:=h;obtain⟨t,rfl⟩:=rx;obtain⟨t',rfl⟩:=ry;exact rule i j t t' s _ _ hc ⟨.int (g i j),H,I.tok _,⟨_,rfl⟩,q⟩
theorem a0x{f:Value->Value->Sem Value}{g:Int->Int->Int}
 (rule:∀(i j:Int) (t u:Tok) (s:Shared) (Q:Value->Shared->Prop) (E:Value->Shared->Prop),Q (.int (g i j) s.toks) { s with toks:=s.toks+1 }->wpAny (model X.prog X.w) X.A (f (.int i t) (.int j u)) Q E s):
 OpR X f (rI0 fun i j=>.int (g i j)):=by
 intro pins s σ H x y v u Q I rx ry h;obtain⟨i,j,rfl,rfl,q⟩:=h;obtain⟨t,rfl⟩:=rx;obtain⟨t',rfl⟩:=ry;exact rule i j t t' s _ _ ⟨.int (g i j),H,I.tok _,⟨_,rfl⟩,q⟩
theorem a1r{f:Value->Value->Sem Value}{g:Int->Int->Bool}
 (rule:∀(i j:Int) (t u:Tok) (s:Shared) (Q:Value->Shared->Prop) (E:Value->Shared->Prop),Q (.bool (g i j)) s->wpAny (model X.prog X.w) X.A (f (.int i t) (.int j u)) Q E s):
 OpR X f (rI0 fun i j=>.bl (g i j)):=by
 intro pins s σ H x y v u Q I rx ry h;obtain⟨i,j,rfl,rfl,q⟩:=h;obtain⟨t,rfl⟩:=rx;obtain⟨t',rfl⟩:=ry;exact rule i j t t' s _ _ ⟨.bl (g i j),H,I,rfl,q⟩
def ay8(i j:Int):Prop:=0<j/\j<1073741824
def az2(i j:Int):Prop:=0≤j/\j≤1000000/\i.natAbs<2 ^ 64
def CMul(i j:Int):Prop:=(-(2 ^ 64)<i/\i<2 ^ 64)\/(-(2 ^ 64)<j/\j<2 ^ 64)
theorem CMul.ok{i j:Int}(h:CMul i j):IntMulOk i j:=by
 rcases h with⟨h1,h2⟩ | ⟨h1,h2⟩
 ·exact .of_left (intBits_le_64 h1 h2)
 ·exact .of_right (intBits_le_64 h1 h2)
theorem ayc:OpR X (binaryOp .Add) (rI0 fun i j=>.int (i+j)):=a0x fun _ _ _ _ _ _ _ q=>add_int q
theorem aye:OpR X (binaryOp .Sub) (rI0 fun i j=>.int (i - j)):=a0x fun _ _ _ _ _ _ _ q=>sub_int q
theorem ayl:OpR X (binaryOp .Mult) (rI CMul fun i j=>.int (i*j)):=opI fun _ _ _ _ _ _ _ hc q=>mul_int q hc.ok
theorem auy:OpR X (binaryOp .FloorDiv) (rI ay8 fun i j=>.int (i / j)):=opI fun i j _ _ _ _ _ hc q=>by
 have h1:(0:Int)<j:=hc.1;have h2:j<1073741824:=hc.2;exact floordiv_int (by omega) (by rw[Int.fdiv_eq_ediv_of_nonneg i (by omega)];exact q) (.inl (PyProof.noPylong_small (by omega)))
theorem a08:OpR X (binaryOp .Mod) (rI (fun _ j=>0<j) fun i j=>.int (i % j)):=opI fun i j _ _ _ _ _ hc q=>by
 have h1:(0:Int)<j:=hc;exact mod_int' (by omega) (by rw[Int.fmod_eq_emod_of_nonneg i (by omega)];exact q)
theorem azy:OpR X (binaryOp .Pow) (rI az2 fun i j=>.int (i ^ j.toNat)):=opI fun _ _ _ _ _ _ _ hc q=>pow_int_small hc.1 hc.2.1 hc.2.2 q
end
def awa:V->V->Bool
 |.non,.non=>true | .non,.int _=>true | .int _,.non=>true | .non,.bl _=>true | .bl _,.non=>true | .non,.str _=>true | .str _,.non=>true
 |.int _,.int _=>true | .bl _,.bl _=>true | .str _,.str _=>true | .byt _,.byt _=>true
 |.int _,.str _=>true | .str _,.int _=>true | .bl _,.str _=>true | .str _,.bl _=>true
 |_,_=>false
def rEq:R2:=fun x y H Q=>awa x y=true/\Q (.bl (decide (x=y))) H
def rNe:R2:=fun x y H Q=>awa x y=true/\Q (.bl (!decide (x=y))) H
theorem api{i j:Int}:decide (V.int i=V.int j)=(i==j):=by
 rw[BB];simp
theorem aum{i j:Bool}:decide (V.bl i=V.bl j)=(i==j):=by
 rw[BB];simp
theorem ap0{i j:Str}:decide (V.str i=V.str j)=(i==j):=by
 rw[BB];simp
theorem apz{i j:Array UInt8}:decide (V.byt i=V.byt j)=(i.toList==j.toList):=by
 rw[BB];cases i;cases j;simp
section
variable {X:Cx}{a b c:Expr}{ta tb tc:TE}{pos:Pos}
theorem jb{pins:List (Addr×Obj)}{σ:St}{H:Hp}{s:Shared}{Q:VK}{k k':Bool}(I:Inv X pins σ H s)(q:Q (.bl k) H)(e:k=k'):EP X pins σ Q (.bool k') s:=by
 subst e;exact⟨.bl k,H,I,rfl,q⟩
theorem ax9:OpR X (compareOp .Eq) rEq:=by
 intro pins s σ H x y v u Q I rx ry h;obtain⟨hs,q⟩:=h;cases x with
 |non=>
  cases rx;cases y with
  |non=>cases ry;exact PySem.EqNone.eq_none_none (jb I q (by simp))
  |bl j=>cases ry;exact PySem.EqNone.eq_none_bool (jb I q (by simp))
  |int j=>obtain⟨t',rfl⟩:=ry;exact PySem.EqNone.eq_none_int (jb I q (by simp))
  |str j=>obtain⟨t',rfl⟩:=ry;exact PySem.EqNone.eq_none_str (jb I q (by simp))
  |_=>exact absurd (show false=true from hs) AA
 |bl i=>
  cases rx;cases y with
  |non=>cases ry;exact PySem.EqNone.eq_bool_none (jb I q (by simp))
  |bl j=>cases ry;exact eq_bool (jb I q aum)
  |str j=>obtain⟨t',rfl⟩:=ry;exact PySem.EqMixed.eq_bool_str (jb I q (by simp))
  |_=>exact absurd (show false=true from hs) AA
 |int i=>
  obtain⟨t,rfl⟩:=rx;cases y with
  |non=>cases ry;exact PySem.EqNone.eq_int_none (jb I q (by simp))
  |int j=>obtain⟨t',rfl⟩:=ry;exact eq_int (jb I q api)
  |str j=>obtain⟨t',rfl⟩:=ry;exact PySem.EqMixed.eq_int_str (jb I q (by simp))
  |_=>exact absurd (show false=true from hs) AA
 |str i=>
  obtain⟨t,rfl⟩:=rx;cases y with
  |non=>cases ry;exact PySem.EqNone.eq_str_none (jb I q (by simp))
  |bl j=>cases ry;exact PySem.EqMixed.eq_str_bool (jb I q (by simp))
  |int j=>obtain⟨t',rfl⟩:=ry;exact PySem.EqMixed.eq_str_int (jb I q (by simp))
  |str j=>obtain⟨t',rfl⟩:=ry;exact eq_str (jb I q ap0)
  |_=>exact absurd (show false=true from hs) AA
 |byt i=>
  obtain⟨t,rfl⟩:=rx;cases y with
  |byt j=>obtain⟨t',rfl⟩:=ry;exact PySem.W.eq_bytes (jb I q apz)
  |_=>exact absurd (show false=true from hs) AA
 |_=>cases y<;>exact absurd (show false=true from hs) AA
theorem axu:OpR X (compareOp .NotEq) rNe:=by
 intro pins s σ H x y v u Q I rx ry h;obtain⟨hs,q⟩:=h;cases x with
 |non=>
  cases rx;cases y with
  |non=>cases ry;exact PySem.EqNone.ne_none_none (jb I q (by simp))
  |bl j=>cases ry;exact PySem.EqNone.ne_none_bool (jb I q (by simp))
  |int j=>obtain⟨t',rfl⟩:=ry;exact PySem.EqNone.ne_none_int (jb I q (by simp))
  |str j=>obtain⟨t',rfl⟩:=ry;exact PySem.EqNone.ne_none_str (jb I q (by simp))
  |_=>exact absurd (show false=true from hs) AA
 |bl i=>
  cases rx;cases y with
  |non=>cases ry;exact PySem.EqNone.ne_bool_none (jb I q (by simp))
  |bl j=>cases ry;exact ne_bool (jb I q (BA not aum))
  |str j=>obtain⟨t',rfl⟩:=ry;exact PySem.EqMixed.ne_bool_str (jb I q (by simp))
  |_=>exact absurd (show false=true from hs) AA
 |int i=>
  obtain⟨t,rfl⟩:=rx;cases y with
  |non=>cases ry;exact PySem.EqNone.ne_int_none (jb I q (by simp))
  |int j=>obtain⟨t',rfl⟩:=ry;exact ne_int (jb I q (BA not api))
  |str j=>obtain⟨t',rfl⟩:=ry;exact PySem.EqMixed.ne_int_str (jb I q (by simp))
  |_=>exact absurd (show false=true from hs) AA
 |str i=>
  obtain⟨t,rfl⟩:=rx;cases y with
  |non=>cases ry;exact PySem.EqNone.ne_str_none (jb I q (by simp))
  |bl j=>cases ry;exact PySem.EqMixed.ne_str_bool (jb I q (by simp))
  |int j=>obtain⟨t',rfl⟩:=ry;exact PySem.EqMixed.ne_str_int (jb I q (by simp))
  |str j=>obtain⟨t',rfl⟩:=ry;exact ne_str (jb I q (BA not ap0))
  |_=>exact absurd (show false=true from hs) AA
 |byt i=>
  obtain⟨t,rfl⟩:=rx;cases y with
  |byt j=>obtain⟨t',rfl⟩:=ry;exact PySem.W.ne_bytes (jb I q (BA not apz))
  |_=>exact absurd (show false=true from hs) AA
 |_=>cases y<;>exact absurd (show false=true from hs) AA
theorem a0u:OpR X (compareOp .Lt) (rI0 fun i j=>.bl (decide (i<j))):=a1r fun _ _ _ _ _ _ _ q=>lt_int q
theorem a1x:OpR X (compareOp .Gt) (rI0 fun i j=>.bl (decide (j<i))):=a1r fun _ _ _ _ _ _ _ q=>gt_int q
theorem xq(b:Expr){op:CmpOp}(h:op≠.In:=by decide)(h2:op≠.NotIn:=by decide):behindInMarks op b=false:=by
 have e1:(op==CmpOp.In)=false:=by cases op<;>first | rfl | exact absurd rfl h
 have e2:(op==CmpOp.NotIn)=false:=by cases op<;>first | rfl | exact absurd rfl h2
 cases b<;>simp[behindInMarks,e1,e2]
theorem avu{op:CmpOp}{r:R2}(ho:OpR X (compareOp op) r)(ha:PE X a ta)(hb:PE X b tb)(hm:behindInMarks op b=false):PE X (.Compare a [op] [b] pos) (tOp r ta tb):=by
 intro pins s σ H Q I h;exact wpAny_Compare1 (ayp ha hb I h fun v u s2 x y H2 I2 rx ry q=>ho pins s2 σ H2 x y v u Q I2 rx ry q) hm
def axc(t:TE):TT:=fun σ H Q=>t σ H fun x H'=>∃k,x=.bl k/\Q k H'
theorem avl{op:CmpOp}{r:R2}(ho:OpR X (compareOp op) r)(ha:PE X a ta)(hb:PE X b tb)(hm:behindInMarks op b=false):PT X (.Compare a [op] [b] pos) (axc (tOp r ta tb)):=by
 intro pins s σ H Q I h;refine wpAny_isTrue_Compare1 (thn (ha pins s σ H _ I h) fun v s1 ⟨x,H1,I1,r1,q1⟩=>thn (hb pins s1 σ H1 _ I1 q1) fun u s2 ⟨y,H2,I2,r2,q2⟩=>
  thn (ho pins s2 σ H2 x y v u _ I2 r1 r2 q2) fun c s3 ⟨z,H3,I3,r3,k,e,q3⟩=>?_) hm
 subst e;cases r3;exact wpAny_truthy_bool ⟨H3,I3,q3⟩
theorem afa:(sizeLine:Nat)<2 ^ 63:=by rw[sizeLine_eq];decide
theorem aoe:OpR X (binaryOp .Add) (fun x y H Q=>∃i j,x=.str i/\y=.str j/\i.length+j.length≤sizeLine/\Q (.str (i++j)) H):=by
 intro pins s σ H x y v u Q I rx ry h;obtain⟨i,j,rfl,rfl,hz,q⟩:=h;obtain⟨t,rfl⟩:=rx;obtain⟨t',rfl⟩:=ry;exact ji I.tk (add_str (fun t' tk ht=>⟨.str (i++j),H,I.tok _,⟨_,rfl⟩,q⟩) hz)
theorem apx{x:V}{us:List Value}(r:Vals [x] us):∃u,us=[u]/\RelV x u:=by
 cases r with
 |cons r1 r2=>cases r2;exact⟨_,rfl,r1⟩
theorem axr{x y:V}{us:List Value}(r:Vals [x,y] us):∃u w',us=[u,w']/\RelV x u/\RelV y w':=by
 cases r with
 |cons r1 r2=>
  cases r2 with
  |cons r3 r4=>cases r4;exact⟨_,_,rfl,r1,r3⟩
theorem ar2(hc:X.calm=true):CallR X (.builtin "max") (fun xs H Q=>∃i j,xs=[.int i,.int j]/\Q (.int (if j > i then j else i)) H):=by
 intro pins s σ H xs us Q I r h;obtain⟨i,j,rfl,q⟩:=h;obtain⟨u,w',rfl,⟨t,rfl⟩,⟨t',rfl⟩⟩:=axr r;refine ji I.tk (max_two_ints (I.ok.hd hc) fun h' tk k ht=>⟨_,H,I.kept k,?_,q⟩)
 by_cases hj:j > i
 ·rw[AB hj,AB hj];exact⟨_,rfl⟩
 ·rw[Ax hj,Ax hj];exact⟨_,rfl⟩
theorem aqy(hc:X.calm=true):CallR X (.builtin "min") (fun xs H Q=>∃i j,xs=[.int i,.int j]/\Q (.int (if j<i then j else i)) H):=by
 intro pins s σ H xs us Q I r h;obtain⟨i,j,rfl,q⟩:=h;obtain⟨u,w',rfl,⟨t,rfl⟩,⟨t',rfl⟩⟩:=axr r;refine ji I.tk (min_two_ints (I.ok.hd hc) fun h' tk k ht=>⟨_,H,I.kept k,?_,q⟩)
 by_cases hj:j<i
 ·rw[AB hj,AB hj];exact⟨_,rfl⟩
 ·rw[Ax hj,Ax hj];exact⟨_,rfl⟩
end
structure ObjM(h:Heap)(x dx C:Addr)(mA:Str->Option Value):Prop where
 obj:h.get? x=some (PySem.W.instObj C dx)
 ns:h.Ns1 dx mA
 ne:dx≠x
theorem aqr{h:Heap}{dx:Addr}{mA:Str->Option Value}(n:h.Ns1 dx mA):∃od,h.get? dx=some od/\∀name,PySem.W.lookIn name od=some (mA name):=by
 obtain⟨o,es,ep,ho,hd,hk,_,hm⟩:=n;refine⟨o,ho,fun name=>?_⟩;have e:=hm name;unfold nsFind findBy at e;rw[<-Array.find?_toList] at e;unfold PySem.W.lookIn;rw[hd];dsimp only
 split
 ·rename_i y q;rw[q] at e;exact BA some e
 ·rename_i q;rw[q] at e;have a:es.toList.any (·.refKey)=false:=by
   rw[List.any_eq_false];intro y hy;obtain⟨z,t,hkey⟩:=hk y (Array.mem_toList_iff.mp hy);simp[DictEntry.refKey,hkey]
  have a':¬es.toList.any (·.refKey)=true:=by rw[a];exact AA
  rw[Ax a'];exact BA some e
theorem ObjM.look{h:Heap}{x dx C:Addr}{mA:Str->Option Value}(I:ObjM h x dx C mA):∃od,PySem.W.InstAt h x (PySem.W.instObj C dx) C (some od)/\∀name,PySem.W.lookIn name od=some (mA name):=
 let ⟨od,ho,hl⟩:=aqr I.ns
 ⟨od,⟨I.obj,rfl,rfl,ho⟩,hl⟩
section
variable {prog:Program}{w:World}{A:Around}{E:Value->Shared->Prop}{s:Shared}{K:Af}{x dx C f:Addr}{mA:Str->Option Value}{name:Str}{v:Value}
end
theorem RelO.some_of{v:V}{o:Option Value}(r:RelO (some v) o):∃u,o=some u/\RelV v u:=by
 cases o with
 |none=>exact(show False from r).elim
 |some u=>exact⟨u,rfl,r⟩
section
variable {P:Program}{w:World}{H H':Hp}{h h':Heap}{a C dx:Addr}{fs fs':List (Str×V)}
theorem aw8(hok:HOk P w H h)(e:H a=some (.ins C dx fs)):∃mA,ObjM h a dx C mA/\(∀f,RelO (fs.lookup f) (mA f))/\PySem.Within mA (fs.map (·.1))/\fs.length≤1000/\H dx=some (.own a):=by
 obtain⟨d,z,ne,ob,mA,n,r,q⟩:=(show ObjOk P w H h a (.ins C dx fs) from hok a _ e);exact⟨mA,⟨ob,n,ne⟩,r,q,z,d⟩
end
structure Cls(K:Af)(C:Addr):Prop where
 pg:PySem.W.plainGet K C Str.empty=true
 hd:PySem.W.hasDictIn K C=true
 po:PySem.W.plainOver K C=true
 sa:PySem.W.findIn K (.ref C) "__setattr__" = some (some (.builtin "object.__setattr__"))
theorem Cls.get{K:Af}{C:Addr}(c:Cls K C)(f:Str):PySem.W.plainGet K C f=true:=c.pg
section
variable {X:Cx}{pins:List (Addr×Obj)}{σ:St}{H:Hp}{s:Shared}{a C dx:Addr}{fs:List (Str×V)}{f:Str}{v:V}{A:Around}{E:Value->Shared->Prop}
end
section
variable {X:Cx}{o e value:Expr}{f:Str}{pos pos' tpos:Pos}{ta tv:TE}
end
section
variable {X:Cx}{pins:List (Addr×Obj)}{σ:St}{H:Hp}{s:Shared}{A:Around}{E:Value->Shared->Prop}{Q:Value->Shared->Prop}{c:Value}{b:Bool}
inductive TyOf(K:Af)(H:Hp):V->Value->Prop where
 |non:TyOf K H .non (.type "NoneType")
 |bl (x:Bool):TyOf K H (.bl x) (.type "bool")
 |int (i:Int):TyOf K H (.int i) (.type "int")
 |str (x:Str):TyOf K H (.str x) (.type "str")
 |flt (x:UInt64):TyOf K H (.flt x) (.type "float")
 |lst {a:Addr} {xs:List V} (e:H a=some (.lst xs)):TyOf K H (.ref a) (.type "list")
 |frz {a:Addr} {o:Obj} {xs:List V} (e:H a=some (.frz o (.lst xs))):TyOf K H (.ref a) (.type "list")
 |tup {a:Addr} {xs:List V} (e:H a=some (.tup xs)):TyOf K H (.ref a) (.type "tuple")
 |dK {a:Addr} {kvs:List (Key×V)} (e:H a=some (.dK kvs)):TyOf K H (.ref a) (.type "dict")
 |dT {a:Addr} {kvs:List (List Key×V)} (e:H a=some (.dT kvs)):TyOf K H (.ref a) (.type "dict")
 |ins {a C dx:Addr} {fs:List (Str×V)} (e:H a=some (.ins C dx fs)) (cl:Cls K C) (ha:PySem.W.findIn K (.ref C) "__class__" = some (some (.builtin "object.__class__")))
  (hn:PySem.W.specialIn K (.builtin "object.__class__") "__get__" = some (some (.builtin "getset_descriptor.__get__"))) (htk:PySem.W.takesIn K (.builtin "object.__class__")=some true)
  (hm:PySem.W.mroIn K C (.type "object")=some true):TyOf K H (.ref a) (.ref C)
theorem aae{x:V}{u t:Value}(I:Inv X pins σ H s)(rx:RelV x u)(ty:TyOf X.K H x t)(e:PySem.W.kitOne X.K t c=some b)(h:∀tk,Q (.bool b) { s with toks:=tk }):
 wpAny (model X.prog X.w) A (call (.builtin "isinstance") [u,c]) Q E s:=by
 cases ty with
 |non=>cases (show u=Value.none from rx);exact Bk PySem.W.kitx_none I.kIn True.intro e (fun z=>nomatch z) h
 |bl y=>cases (show u=Value.bool y from rx);exact Bk PySem.W.kitx_bool I.kIn True.intro e (fun z=>nomatch z) h
 |int i=>obtain⟨t,q⟩:=(show ∃t,u=Value.int i t from rx);cases q;exact Bk PySem.W.kitx_int I.kIn True.intro e (fun z=>nomatch z) h
 |str y=>obtain⟨t,q⟩:=(show ∃t,u=Value.str y t from rx);cases q;exact Bk PySem.W.kitx_str I.kIn True.intro e (fun z=>nomatch z) h
 |flt y=>obtain⟨t,q⟩:=(show ∃t,u=Value.float y t from rx);cases q;exact Bk PySem.W.kitx_float I.kIn True.intro e (fun z=>nomatch z) h
 |@lst a xs ea=>
  cases (show u=Value.ref a from rx);obtain⟨_,_,n,_,h1⟩:=(show ObjOk X.prog X.w H s.heap a (.lst xs) from I.hok a _ ea);exact Bk Cp I.kIn ⟨_,h1,rfl⟩ e (fun z=>nomatch z) h
 |@frz a ob xs ea=>
  cases (show u=Value.ref a from rx);obtain⟨_,_,_,n,_,h1⟩:=(show ObjOk X.prog X.w H s.heap a (.frz ob (.lst xs)) from I.hok a _ ea);exact Bk Cp I.kIn ⟨_,h1,rfl⟩ e (fun z=>nomatch z) h
 |@tup a xs ea=>
  cases (show u=Value.ref a from rx);obtain⟨_,_,_,p⟩:=(show ObjOk X.prog X.w H s.heap a (.tup xs) from I.hok a _ ea);obtain⟨o,h1,h2,_⟩:=p;exact Bk Dl I.kIn ⟨o,h1,h2⟩ e (fun z=>nomatch z) h
 |@dK a kvs ea=>
  cases (show u=Value.ref a from rx);obtain⟨_,_,vs,_,p⟩:=(show ObjOk X.prog X.w H s.heap a (.dK kvs) from I.hok a _ ea);obtain⟨o,es,ep,h1,h2,_⟩:=p;exact Bk Du I.kIn ⟨o,h1,h2.1⟩ e (fun z=>nomatch z) h
 |@dT a kvs ea=>
  cases (show u=Value.ref a from rx);obtain⟨_,_,xs,_,o,es,ep,h1,h2,_⟩:=(show ObjOk X.prog X.w H s.heap a (.dT kvs) from I.hok a _ ea);exact Bk Du I.kIn ⟨o,h1,h2.1⟩ e (fun z=>nomatch z) h
 |@ins a C dx fs ea cl ha hn htk hm=>
  cases (show u=Value.ref a from rx);obtain⟨mA,O,_⟩:=aw8 I.hok ea;obtain⟨od,J,_⟩:=O.look;exact Bk (PySem.W.kitx_own (cl.get _) cl.hd ha hn htk hm) I.kIn J e (fun z=>nomatch z) h
end
structure Room(k:Nat)(A:Around):Prop where
 hd:A.handled=none
 dp:A.depth+3*k+5<recursionLimit
 un:A.units+16*k+200<cLine
theorem Room.mono{j k:Nat}{A:Around}(r:Room k A)(h:j≤k):Room j A:=⟨r.hd,by have:=r.dp;omega,by have:=r.un;omega⟩
theorem Room.deeper{k:Nat}{A:Around}(r:Room (k+1) A)(env:Env):Room k (A.deeper env):=
 ⟨r.hd,by have:=r.dp;show A.depth+1+3*k+5<_;omega,by have:=r.un;show A.units+3+16*k+200<_;omega⟩
theorem Room.depth{k:Nat}{A:Around}(r:Room k A):A.depth<recursionLimit:=by have:=r.dp;omega
def a2c:TA:=fun _ H Q=>Q [] H
def a0j(ta:TE)(tr:TA):TA:=fun σ H Q=>ta σ H fun x H1=>tr σ H1 fun xs H2=>Q (x::xs) H2
section
variable {X:Cx}{e:Expr}{es:List Expr}{te:TE}{t:TA}{pos:Pos}
theorem adh:PA X [] a2c:=fun _ _ _ _ H Q I h=>Calls.spliced_nil ⟨[],H,I,.nil,h⟩
theorem wy(ha:PE X e te)(hr:PA X es t)(hs:starEach (e::es) X.env=(false,eval e X.env)::starEach es X.env:=by rfl):PA X (e::es) (a0j te t):=by
 intro pos pins s σ H Q I h;rw[hs];show wpAny _ _ (spliced ((false,eval e X.env)::backTo pos (starEach es X.env))) _ _ s;refine Calls.spliced_cons (thn (ha pins s σ H _ I h) fun u s1 ⟨x,H1,I1,r1,q1⟩=>?_);exact thn (hr pos pins s1 σ H1 _ I1 q1) fun us s2 ⟨xs,H2,I2,r2,q2⟩=>⟨x::xs,H2,I2,.cons r1 r2,q2⟩
def a2m(t:TA):TE:=fun σ H Q=>t σ H fun xs H1=>xs.length≤sizeLine/\∀p,H1 p=none->Q (.ref p) (upd H1 p (.tup xs))
def a2l(t:TA):TE:=fun σ H Q=>t σ H fun xs H1=>xs.length≤sizeLine/\∀p,H1 p=none->Q (.ref p) (upd H1 p (.lst xs))
theorem ary{x1}(h:PA X es t):PE X (.Tuple es x1 pos) (a2m t):=by
 intro pins s σ H Q I hq;refine wpAny_Tuple_spliced (thn (h pos pins s σ H _ I hq) fun us s1 ⟨xs,H1,I1,r,z,q⟩=>⟨by rw[<-r.length];exact z,?_⟩);have hf:H1 s1.heap.objs.size=none:=I1.hok.fresh (An _);refine⟨.ref s1.heap.objs.size,upd H1 s1.heap.objs.size (.tup xs),I1.laid (t':=s1.toks) (fun b u e=>Heap.get?_push_of_some _ e) (An _) ?_,rfl,q _ hf⟩;exact⟨z,us,r,⟨_,Heap.get?_push_size _ rfl,rfl,_,rfl⟩⟩
theorem azo(h:PA X es t):PE X (.List es pos) (a2l t):=by
 intro pins s σ H Q I hq;refine wpAny_List_spliced (thn (h pos pins s σ H _ I hq) fun us s1 ⟨xs,H1,I1,r,z,q⟩=>⟨by rw[<-r.length];exact z,?_⟩);have hf:H1 s1.heap.objs.size=none:=I1.hok.fresh (An _);refine⟨.ref s1.heap.objs.size,upd H1 s1.heap.objs.size (.lst xs),I1.laid (t':=s1.toks) (fun b u e=>Heap.get?_push_of_some _ e) (An _) ?_,rfl,q _ hf⟩;exact⟨z,us,0,r,Heap.get?_push_size _ rfl⟩
end
abbrev Sp:=List V->Hp->VK->XK->Prop
abbrev CXT:=List Env->Hp->Shared->XK->Value->Shared->Prop
structure Env0(P:Program)(w:World)(K:Af)(mg:Str->Option Value)(base:Heap)(A:Around)(outer:List Env)(s:Shared)(H:Hp):Prop where
 frames:A.frames=some outer
 mod:Mod K mg base
 bs:∀b o,base.get? b=some o->s.heap.get? b=some o/\H b=none
 bsz:base.objs.size≤s.heap.objs.size
 funs:s.heap.FunFrames base outer
 frf:∀b∈frs outer,H b=none
 hok:HOk P w H s.heap
 bare:AllBare s.gens
 tk:0<s.toks
def CE(outer:List Env)(P:Program)(w:World)(H:Hp)(s:Shared)(Q:VK)(u:Value)(s':Shared):Prop:=
 ∃v H',s'.os=s.os/\AllBare s'.gens/\Un (frs outer) [] H H' s.heap s'.heap/\HOk P w H' s'.heap/\RelV v u/\Q v H'/\0<s'.toks
def CR(CX:CXT)(outer:List Env)(P:Program)(w:World)(H:Hp)(s:Shared)(Q:VK)(E:XK)(r:Result)(s':Shared):Prop:=
 match r with
 |.ok (.ret u)=>CE outer P w H s Q u s'
 |.ok _=>False
 |.error e=>CX outer H s E e s'
structure FnOk(P:Program)(w:World)(K:Af)(mg:Str->Option Value)(base:Heap)(CX:CXT)(k:Nat)(f:Addr)(fd:FuncData)(ps:List Str)(sp:Sp):Prop where
 len:∀vs H Q E,sp vs H Q E->vs.length=ps.length
 run:∀(A:Around) (outer:List Env) (s:Shared) (H:Hp) (args:Args) (us:List Value) (vs:List V) (Q:VK) (E:XK),Room k A->Env0 P w K mg base A outer s H->BindsTo s fd args (ps.zip us)->Vals vs us->sp vs H Q E->
  codeAny (model P w) A (.call (.ref f) args) (CR CX outer P w H s Q E) s
theorem FnOk.mono{P:Program}{w:World}{K:Af}{mg:Str->Option Value}{base:Heap}{CX:CXT}{j k:Nat}{f:Addr}{fd:FuncData}{ps:List Str}{sp:Sp}(F:FnOk P w K mg base CX j f fd ps sp)(h:j≤k):
 FnOk P w K mg base CX k f fd ps sp:=⟨F.len,fun A outer s H args us vs Q E hr=>F.run A outer s H args us vs Q E (hr.mono h)⟩
theorem FnOk.imp{P:Program}{w:World}{K:Af}{mg:Str->Option Value}{base:Heap}{CX:CXT}{k:Nat}{f:Addr}{fd:FuncData}{ps:List Str}{sp sp':Sp}(F:FnOk P w K mg base CX k f fd ps sp)
 (h:∀vs H Q E,sp' vs H Q E->sp vs H Q E):FnOk P w K mg base CX k f fd ps sp':=
 ⟨fun vs H Q E q=>F.len vs H Q E (h _ _ _ _ q),fun A outer s H args us vs Q E hr he hb hv hs=>F.run A outer s H args us vs Q E hr he hb hv (h _ _ _ _ hs)⟩
section
variable {X:Cx}{pins:List (Addr×Obj)}{σ:St}{H:Hp}{s s':Shared}
theorem Inv.env0(I:Inv X pins σ H s):Env0 X.prog X.w X.K X.mg X.base X.A X.stack s H:=
 ⟨I.ok.frames,I.ok.mod,I.bs,AW I.ok.bsz I.sz,I.stack,I.stkFree,I.hok,I.bare,I.tk⟩
theorem Inv.after{Q:VK}{u:Value}(I:Inv X pins σ H s)(h:CE X.stack X.prog X.w H s Q u s'):EP X pins σ Q u s':=by
 obtain⟨v,H',os,bare,un,hok,r,q,ht⟩:=h;obtain⟨hh,g,d,t,os'⟩:=s';obtain rfl:os'=s.os:=os;exact⟨v,H',I.call (h':=hh) (g':=g) (d':=d) (t':=t) (ch:=[]) un hok bare (fun b z=>absurd z (by simp)),r,q⟩
end
def axa(sp:Sp)(dvs:List V)(E:XK)(t:TA):TE:=fun σ H Q=>t σ H fun vs H1=>sp (vs++dvs) H1 Q E
def Binds(K:Af)(fd:FuncData)(ps:List Str)(ds:List Value):Prop:=
 ∀(s:Shared) (us:List Value),K.In s.heap->(us++ds).length=ps.length->BindsTo s fd ⟨us,[]⟩ (ps.zip (us++ds))
theorem Binds.all{K:Af}{fd:FuncData}{ps:List Str}(h:∀us:List Value,us.length=ps.length->bindArgs fd ⟨us,[]⟩=pure (ps.zip us)):Binds K fd ps []:=fun s us _ hl=>by
 rw[AR] at hl ⊢;exact .of_eq (h us hl)
def ao2(CX:CXT)(X:Cx)(E:XK):Prop:=∀(pins:List (Addr×Obj)) (σ:St) (H:Hp) (s:Shared) (e:Value) (s':Shared),Inv X pins σ H s->CX X.stack H s E e s'->X.xe e s'
section
variable {X:Cx}{CX:CXT}{k:Nat}{f C:Addr}{fd:FuncData}{ps:List Str}{sp:Sp}{dvs:List V}{ds:List Value}{E:XK}{x m:Str}{p pos apos:Pos}{e o:Expr}{es:List Expr}{ta:TE}{t:TA}
theorem azk{pins:List (Addr×Obj)}{σ:St}{H:Hp}{s:Shared}{Q:VK}{us:List Value}{vs:List V}(F:FnOk X.prog X.w X.K X.mg X.base CX k f fd ps sp)(hr:Room k X.A)(hb:Binds X.K fd ps ds)(hd:Vals dvs ds)(hx:ao2 CX X E)
 (I:Inv X pins σ H s) (r:Vals vs us) (h:sp (vs++dvs) H Q E):wpAny (model X.prog X.w) X.A (call (.ref f) us) (EP X pins σ Q) X.xe s:=by
 have r2:Vals (vs++dvs) (us++ds):=r.append hd;have hl:(us++ds).length=ps.length:=by rw[<-r2.length];exact F.len _ _ _ _ h
 refine wpAny_call (codeAny_mono (F.run X.A X.stack s H ⟨us,[]⟩ (us++ds) (vs++dvs) Q E hr I.env0 (hb s us I.kIn hl) r2 h) fun r s' hq=>?_);cases r with
 |error e=>exact hx pins σ H s e s' I hq
 |ok fl=>
  cases fl with
  |ret u=>exact I.after hq
  |next=>exact False.elim hq
  |brk=>exact False.elim hq
  |cont=>exact False.elim hq
theorem avr(F:FnOk X.prog X.w X.K X.mg X.base CX k f fd ps sp)(hr:Room k X.A)(hg:Gl X x)(hm:X.mg x=some (.ref f))(hk:PySem.W.keepIn X.K (.ref f)=true)(hb:Binds X.K fd ps ds)(hd:Vals dvs ds)(hx:ao2 CX X E)
 (ha:PA X (e::es) t) (hdb:(x==("__debug__" : Str))=false:=by decide) (he:starEach (e::es) X.env=(false,eval e X.env)::starEach es X.env:=by rfl) (hpl:(backTo pos (starEach es X.env)).any (·.1)=false:=by rfl):
 PE X (.Call (.Name x p) (e::es) [] pos) (axa sp dvs E t):=by
 intro pins s σ H Q I h;refine wpAny_Call_Name_kw (apb I hg hm ?_ hdb);refine PySem.W.callWith_K (h₀:=X.base) I.ok.mod.kin hk (thn (ha pos pins s σ H _ I h) fun us s1 ⟨vs,H1,I1,r,q⟩=>⟨I1.kIn,?_⟩) he hpl;exact azk F hr hb hd hx I1 r q
end
section
variable {X:Cx}{CX:CXT}{k:Nat}{f C:Addr}{fd:FuncData}{ps ks:List Str}{sp:Sp}{E:XK}{x m:Str}{p pos apos kpos:Pos}{e o:Expr}{es:List Expr}{kws:List Keyword}{te ta:TE}{t tk:TA}{nm:Option Str}
variable {g:List Value->List Value->List Value}{gV:List V->List V->List V}
end
structure FnScope(N P:List Str)(sc:Scope):Prop where
 kind:sc.kind=.function
 co:sc.isCoroutine=false
 gen:sc.isGenerator=false
 nd:N.Nodup
 pre:N.take P.length=P
 par:∀x∈P,sc.names.lookup x=some .local\/sc.names.lookup x=some .cell
 nofree:∀y∈sc.names,y.2≠.free
theorem aja{kindOf:Str->Option NameKind}{x:Str}:∀{binds:List (Str×Value)} {m:Str->Option Value},(∀v,(x,v)∉binds)->bindL kindOf binds m x=m x
 |[],_,_=>rfl
 |(n,v)::r,m,h=>by
  unfold bindL;rw[aja fun w hw=>h w (Ai _ hw)]
  split
  ·have:x≠n:=by rintro rfl;exact h v Av
   simp[this]
  ·rfl
theorem aj3{kindOf:Str->Option NameKind}{x:Str}:∀{binds:List (Str×Value)} {m:Str->Option Value},(∀v,(x,v)∉binds)->bindC kindOf binds m x=m x
 |[],_,_=>rfl
 |(n,v)::r,m,h=>by
  unfold bindC;rw[aj3 fun w hw=>h w (Ai _ hw)]
  split
  ·rfl
  ·have:x≠n:=by rintro rfl;exact h v Av
   simp[this]
theorem aj5{kindOf:Str->Option NameKind}{x:Str}{v:Value}:∀{P:List Str} {vs:List Value} {i:Nat} {m:Str->Option Value},P.Nodup->P[i]?=some x->vs[i]?=some v->kindOf x=some .local->
 bindL kindOf (P.zip vs) m x=some v
 |[],_,_,_,_,h,_,_=>by simp at h
 |_::_,[],_,_,_,_,h,_=>by simp at h
 |p::P,w::vs,0,m,nd,h1,h2,hk=>by
  simp at h1 h2;subst h1;subst h2;show bindL kindOf ((p,w)::P.zip vs) m p=_;unfold bindL;rw[aja fun v hv=>(Au.mp nd).1 (C9 hv).1,AB hk];simp
 |p::P,w::vs,i+1,m,nd,h1,h2,hk=>by
  show bindL kindOf ((p,w)::P.zip vs) m x=_;unfold bindL;exact aj5 (i:=i) (Au.mp nd).2 (by simpa using h1) (by simpa using h2) hk
theorem aj6{kindOf:Str->Option NameKind}{x:Str}{v:Value}:∀{P:List Str} {vs:List Value} {i:Nat} {m:Str->Option Value},P.Nodup->P[i]?=some x->vs[i]?=some v->kindOf x≠some .local->
 bindC kindOf (P.zip vs) m x=some v
 |[],_,_,_,_,h,_,_=>by simp at h
 |_::_,[],_,_,_,_,h,_=>by simp at h
 |p::P,w::vs,0,m,nd,h1,h2,hk=>by
  simp at h1 h2;subst h1;subst h2;show bindC kindOf ((p,w)::P.zip vs) m p=_;unfold bindC;rw[aj3 fun v hv=>(Au.mp nd).1 (C9 hv).1,Ax hk];simp
 |p::P,w::vs,i+1,m,nd,h1,h2,hk=>by
  show bindC kindOf ((p,w)::P.zip vs) m x=_;unfold bindC;exact aj6 (i:=i) (Au.mp nd).2 (by simpa using h1) (by simpa using h2) hk
def start(N:List Str)(vs:List V):St:=vs.map some++List.replicate (N.length - vs.length) none
def xx(CX:CXT)(P:Program)(w:World)(K:Af)(mg:Str->Option Value)(base:Heap)(N:List Str)(qual:Str)(scope:Scope)(f:Addr)(cd:Value)(A:Around)(outer:List Env)(s:Shared)(H:Hp)(E:XK):Cx where
 prog:=P
 w:=w
 K:=K
 mg:=mg
 base:=base
 A:=A.deeper (envOfC qual scope s.heap.objs.size f cd)
 N:=N
 s₀:=s
 H₀:=H
 env:=envOfC qual scope s.heap.objs.size f cd
 outer:=outer
 stack:=envOfC qual scope s.heap.objs.size f cd::outer
 ex:=[]
 calm:=true
 fn:=fun _=>true
 pn:=[]
 xe:=fun e s'=>wpAny (model P w) (A.deeper (envOfC qual scope s.heap.objs.size f cd)) (leaving (envOfC qual scope s.heap.objs.size f cd) e) (fun _ s''=>CX outer H s E e s'') (fun e' s''=>CX outer H s E e' s'') s'
theorem anb{sc:Scope}{n:Nat}{x:Str}(h:sc.names.lookup x=some .cell):∃c,(cellsFrom n sc.names []).lookup x=some c:=by
 have q:=DI sc.names n [] (.inl h);exact Option.isSome_iff_exists.mp q
theorem aqe{CX:CXT}{P:Program}{w:World}{K:Af}{mg:Str->Option Value}{base:Heap}{N ps:List Str}{qual:Str}{scope:Scope}{f:Addr}{cd:Value}{A:Around}{outer:List Env}{s s1:Shared}{H:Hp}{E:XK}{us:List Value}{vs:List V}
 (S:FnScope N ps scope) (hd:A.handled=none) (e0:Env0 P w K mg base A outer s H) (hl:vs.length=ps.length) (r:Vals vs us)
 (x:InCallC s s.heap.objs.size (bindL (envOfC qual scope s.heap.objs.size f cd).kindOf (ps.zip us) fun _=>none) (cellsFrom (s.heap.objs.size+1) scope.names []) (bindC (envOfC qual scope s.heap.objs.size f cd).kindOf (ps.zip us) fun _=>none) s1) (ht:0<s1.toks):
 Inv (xx CX P w K mg base N qual scope f cd A outer s H E) [] (start N vs) H s1:=by
 have hpl:ps.length≤N.length:=by have:=BA List.length S.pre;rw[AL] at this;omega
 obtain⟨h1,tk,rfl,hk⟩:=x.done;have noA:∀b:Addr,b∉(xx CX P w K mg base N qual scope f cd A outer s H E).ex:=fun b z=>absurd (show b∈([]:List Addr) from z) (by simp);refine⟨⟨e0.mod,S.kind,rfl,rfl,An _,fun y z c h1 h2=>?_,fun y hy=>?_,fun y c _ h=>?_,fun _=>hd,Around.frames_deeper e0.frames,.inr ⟨rfl,rfl⟩,fun b z=>absurd z (noA b),e0.bs,e0.bsz,fun b _ _=>noA b,fun b z=>absurd z (noA b),e0.funs,e0.frf⟩,
  rfl,e0.bare,Un.kept hk,⟨_,x.toInCall.ns,fun i y v h1 h2 h3=>?_⟩,fun y c h=>⟨_,x.cell y c h⟩,e0.hok.fresh (An _),fun y c h=>?_,fun p hp=>absurd (show p∈([]:List (Addr×Obj)) from hp) (by simp),e0.hok.kept hk,?_,ht⟩
 ·exact name_of_addr x.apart (Bu h1) (Bu h2)
 ·have hy:scope.names.lookup y=some .cell\/scope.names.lookup y=some .free:=hy;rcases hy with hy | hy
  ·exact anb hy
  ·exact absurd rfl (S.nofree _ (Bu hy))
 ·exact Bv (x.above y c (Bu h))
 ·have hi:i<vs.length:=by
   unfold start at h2
   by_cases hi:i<vs.length
   ·exact hi
   ·rw[Am (by simpa using hi)] at h2;rw[Ca] at h2
    split at h2<;>cases h2
  have ha:vs[i]?=some v:=by
   unfold start at h2;rw[Az (by simpa using hi),Ap] at h2;cases e:vs[i]? with
   |none=>rw[e] at h2;cases h2
   |some a=>rw[e] at h2;cases h2;rfl
  obtain⟨u,hu,rv⟩:=r.get ha;have hp:ps[i]?=some y:=by
   rw[<-S.pre,Dz (by omega)];exact h1
  have ndP:ps.Nodup:=by rw[<-S.pre];exact S.nd.sublist (Dv _ _)
  refine⟨u,rv,?_⟩;rcases S.par y (AM hp) with k | k
  ·exact .inl ⟨k,aj5 ndP hp hu k⟩
  ·obtain⟨c,e⟩:=anb (n:=s.heap.objs.size+1) k;refine .inr ⟨.inl k,c,e,?_⟩;have q:=x.cell y c e;rw[aj6 ndP hp hu (by show scope.names.lookup y≠_;rw[k];decide)] at q;exact q
 ·exact e0.hok.fresh (Bv (x.above y c (Bu h)))
 ·unfold start;show _=N.length;rw[Ad,Ae,BK];omega
theorem axv{CX:CXT}{P:Program}{w:World}{K:Af}{mg:Str->Option Value}{base:Heap}{k:Nat}{f:Addr}{name qual:Str}{params:Arguments}{body:List Stmt}{scope:Scope}{dV kV doc pm cdv ct oc:Value}{an od:Option Addr}
 {osl:Array (Option Value)} {N ps:List Str} {sp:Sp} (lk:K.lookup f=some ⟨oc,od,.func (PySem.W.fnOf name qual params body scope dV kV doc pm an cdv ct),osl⟩) (hcd:PySem.W.codeIn K cdv qual=true) (S:FnScope N ps scope)
 (len:∀vs H Q E,sp vs H Q E->vs.length=ps.length)
 (hbody:∀(A:Around) (outer:List Env) (s:Shared) (H:Hp) (vs:List V) (Q:VK) (E:XK),Room k (A.deeper (envOfC qual scope s.heap.objs.size f cdv))->sp vs H Q E->
  ∃t,PSs (xx CX P w K mg base N qual scope f cdv A outer s H E) body t/\t { nx:=fun _ H'=>Q .non H',rt:=Q } (start N vs) H):
 FnOk P w K mg base CX (k+1) f (PySem.W.fnOf name qual params body scope dV kV doc pm an cdv ct) ps sp:=by
 refine⟨len,fun A outer s H args us vs Q E hr e0 hb r hsp=>?_⟩;have hl:=len _ _ _ _ hsp;have KX:K.In s.heap:=e0.mod.kin.keeps fun b o e=>(e0.bs b o e).1;have lim:s.heap.NoLimit:=e0.mod.nolimit.keeps fun b o e=>(e0.bs b o e).1;have hkind:∀y∈ps.zip us,scope.names.lookup y.1=some .local\/(scope.names.lookup y.1=some .cell/\((cellsFrom (s.heap.objs.size+1) scope.names []).lookup y.1).isSome=true):=fun⟨n,v⟩ hy=>by
  rcases S.par n (C9 hy).1 with q | q
  ·exact .inl q
  ·exact .inr ⟨q,DI _ _ _ (.inl q)⟩
 refine codeAny_call_function hr.depth (KX _ _ lk) rfl S.co S.gen rfl (PySem.W.codeRec_of KX hcd) (hb _ _ _ _ ?_);refine ji e0.tk (wpAny_newFunctionEnv_cells S.kind hkind fun env he s1 x htk=>?_);subst he;refine⟨lim.keeps x.toInCall.keep,codeAny_func ?_⟩;obtain⟨t,ht,hq⟩:=hbody A outer s H vs Q E (hr.deeper _) hsp;have I:Inv (xx CX P w K mg base N qual scope f cdv A outer s H E) [] (start N vs) H s1:=aqe S hr.hd e0 hl r x htk;refine AV (ht [] s1 (start N vs) H _ I hq) (fun fl s' hs=>?_) fun e s' hs=>hs;have fin:∀{σ':St} {H':Hp} {v:V} {u:Value},Inv (xx CX P w K mg base N qual scope f cdv A outer s H E) [] σ' H' s'->RelV v u->Q v H'->CE outer P w H s Q u s':=
  fun {σ' H' v u} J rv q=>⟨v,H',J.os,J.bare,J.base,J.hok,rv,q,J.tk⟩
 cases fl with
 |ret u=>
  obtain⟨v,σ',H',J,rv,q⟩:=hs;exact fin J rv q
 |next=>
  obtain⟨σ',H',J,q⟩:=hs;exact fin (v:=V.non) (u:=Value.none) J rfl q
 |brk=>
  obtain⟨_,_,_,q⟩:=hs;exact False.elim q
 |cont=>
  obtain⟨_,_,_,q⟩:=hs;exact False.elim q
section
variable {X:Cx}{x:Str}{p pos:Pos}{e:Expr}{es:List Expr}{t:TA}{id T:String}{r:List V->Hp->VK->Prop}
def tCB(r:List V->Hp->VK->Prop)(t:TA):TE:=fun σ H Q=>t σ H fun vs H1=>r vs H1 Q
theorem ahg(hc:CallR X (.builtin id) r)(hg:Gl X x)(hm:X.mg x=none)(hv:bootBuiltins x=some (.builtin id))(ha:PA X (e::es) t)(hn:x ≠ "__name__" := by decide)(hdb:(x==("__debug__" : Str))=false:=by decide)
 (he:starEach (e::es) X.env=(false,eval e X.env)::starEach es X.env:=by rfl) (hpl:(backTo pos (starEach es X.env)).any (·.1)=false:=by rfl):PE X (.Call (.Name x p) (e::es) [] pos) (tCB r t):=by
 intro pins s σ H Q I h;refine wpAny_Call_Name_kw (adm I hg hm hv ?_ hn hdb);exact PyProof.Rows.callWith_builtin1 (thn (ha pos pins s σ H _ I h) fun us s1 ⟨vs,H1,I1,r1,q1⟩=>hc pins s1 σ H1 vs us Q I1 r1 q1) he hpl
theorem afl(hc:CallR X (.type T) r)(hg:Gl X x)(hm:X.mg x=none)(hv:bootBuiltins x=some (.type T))(ha:PA X (e::es) t)(hn:x ≠ "__name__" := by decide)(hdb:(x==("__debug__" : Str))=false:=by decide)
 (he:starEach (e::es) X.env=(false,eval e X.env)::starEach es X.env:=by rfl) (hpl:(backTo pos (starEach es X.env)).any (·.1)=false:=by rfl):PE X (.Call (.Name x p) (e::es) [] pos) (tCB r t):=by
 intro pins s σ H Q I h;refine wpAny_Call_Name_kw (adm I hg hm hv ?_ hn hdb);exact BQ (thn (ha pos pins s σ H _ I h) fun us s1 ⟨vs,H1,I1,r1,q1⟩=>hc pins s1 σ H1 vs us Q I1 r1 q1) he hpl
end
section
variable {κ:Type} [DecidableEq κ]
def adk(kvs:List (κ×V))(k:κ):Option V:=(kvs.find? fun kv=>decide (kv.1=k)).map (·.2)
def acj(kvs:List (κ×V))(k:κ)(v:V):List (κ×V):=
 if (kvs.any fun kv=>decide (kv.1=k))=true then kvs.map (fun kv=>if kv.1=k then(kv.1,v) else kv) else kvs++[(k,v)]
theorem ah6{p:κ×V}{r:List (κ×V)}{k:κ}(e:p.1=k):adk (p::r) k=some p.2:=by simp[adk,BC,e]
theorem ah7{p:κ×V}{r:List (κ×V)}{k:κ}(e:¬p.1=k):adk (p::r) k=adk r k:=by simp[adk,BC,e]
theorem alz(k:κ):∀kvs:List (κ×V),(kvs.any fun kv=>decide (kv.1=k))=(adk kvs k).isSome
 |[]=>rfl
 |p::r=>by
  rw[B6]
  by_cases e:p.1=k
  ·simp only[ah6 e,AD e,Bool.true_or,Option.isSome_some]
  ·rw[ah7 e,Aq e,Bool.false_or];exact alz k r
theorem ac6(kvs:List (κ×V))(k:κ)(v:V):(acj kvs k v).length≤kvs.length+1:=by
 unfold acj
 split
 ·rw[Ae];omega
 ·rw[Ad,AF,List.length_nil];omega
theorem RelO.isSome_eq{o:Option V}{u:Option Value}(r:RelO o u):o.isSome=u.isSome:=by
 cases o with
 |none=>cases u with
  |none=>rfl
  |some _=>exact(show False from r).elim
 |some _=>cases u with
  |none=>exact(show False from r).elim
  |some _=>rfl
theorem KV.val{kvs:List (κ×V)}{vs:List (κ×Value)}(r:KV kvs vs)(k:κ):RelO (adk kvs k) (valueAt vs k):=by
 unfold KV at r
 induction r with
 |nil=>exact True.intro
 |@cons p q ps qs h t ih=>
  obtain⟨h1,h2⟩:=h
  by_cases e:p.1=k
  ·have e':q.1=k:=h1.symm.trans e;have b:valueAt (q::qs) k=some q.2:=by simp[valueAt,BC,e']
   rw[ah6 e,b];exact h2
  ·have e':¬q.1=k:=fun z=>e (h1.trans z);have b:valueAt (q::qs) k=valueAt qs k:=by simp[valueAt,BC,e']
   rw[ah7 e,b];exact ih
theorem KV.any{kvs:List (κ×V)}{vs:List (κ×Value)}(r:KV kvs vs)(k:κ):(kvs.any fun kv=>decide (kv.1=k))=vs.any fun kv=>decide (kv.1=k):=by
 unfold KV at r
 induction r with
 |nil=>rfl
 |cons h t ih=>rw[B6,B6,ih,h.1]
theorem KV.repl{kvs:List (κ×V)}{vs:List (κ×Value)}(r:KV kvs vs)(k:κ){y:V}{u:Value}(ry:RelV y u):
 KV (kvs.map fun kv=>if kv.1=k then(kv.1,y) else kv) (vs.map fun kv=>if kv.1=k then(kv.1,u) else kv):=by
 unfold KV at r ⊢
 induction r with
 |nil=>exact .nil
 |@cons p q ps qs h t ih=>
  rw[AE,AE];refine .cons ?_ ih;obtain⟨h1,h2⟩:=h
  by_cases e:p.1=k
  ·rw[AB e,AB (h1.symm.trans e)];exact⟨h1,ry⟩
  ·rw[Ax e,Ax (fun z=>e (h1.trans z))];exact⟨h1,h2⟩
theorem KV.put{kvs:List (κ×V)}{vs:List (κ×Value)}(r:KV kvs vs)(k:κ){y:V}{u:Value}(ry:RelV y u):KV (acj kvs k y) (stored vs k u):=by
 unfold acj stored;rw[r.any k]
 by_cases e:(vs.any fun kv=>decide (kv.1=k))=true
 ·rw[AB e,AB e];exact r.repl k ry
 ·rw[Ax e,Ax e];exact Paired.snoc r ⟨rfl,ry⟩
theorem KV.length{kvs:List (κ×V)}{vs:List (κ×Value)}(r:KV kvs vs):kvs.length=vs.length:=Paired.length r
end
theorem aj9{P:Program}{w:World}{k:Key}{u:Value}(r:RelV (kV k) u):(jv P w).is k u=true:=by
 cases k with
 |inl i=>obtain⟨t,e⟩:=(show ∃t,u=Value.int i t from r);subst e;exact aln P w i t
 |inr x=>obtain⟨t,e⟩:=(show ∃t,u=Value.str x t from r);subst e;exact alt P w x t
theorem ajf{P:Program}{w:World}:∀{ks:List Key} {us:List Value},Vals (ks.map kV) us->ItemsAre (jv P w) ks us
 |[],_,r=>by rw[CN] at r;cases r;exact .nil
 |k::ks,_,r=>by
  rw[AE] at r;cases r with
  |cons h t=>exact .cons (aj9 h) (ajf t)
abbrev KT(H:Hp):List (List Key×V)->List (List Key×Addr×Value)->Prop:=Paired fun p q=>p.1=q.1/\H q.2.1=some (.tup (p.1.map kV))/\RelV p.2 q.2.2
theorem KT.val{H:Hp}{kvs:List (List Key×V)}{xs:List (List Key×Addr×Value)}(r:KT H kvs xs)(k:List Key):RelO (adk kvs k) ((atKey xs k).map (·.2)):=by
 induction r with
 |nil=>exact True.intro
 |@cons p q ps qs h t ih=>
  obtain⟨h1,_,h2⟩:=h
  by_cases e:p.1=k
  ·have e':q.1=k:=h1.symm.trans e;have b:atKey (q::qs) k=some q.2:=by simp[atKey,BC,e']
   rw[ah6 e,b];exact h2
  ·have e':¬q.1=k:=fun z=>e (h1.trans z);have b:atKey (q::qs) k=atKey qs k:=by simp[atKey,BC,e']
   rw[ah7 e,b];exact ih
theorem KT.repl{H:Hp}{kvs:List (List Key×V)}{xs:List (List Key×Addr×Value)}(r:KT H kvs xs)(k:List Key){y:V}{u:Value}(ry:RelV y u):
 KT H (kvs.map fun kv=>if kv.1=k then(kv.1,y) else kv) (xs.map (putAt k u)):=by
 induction r with
 |nil=>exact .nil
 |@cons p q ps qs h t ih=>
  rw[AE,AE];refine .cons ?_ ih;obtain⟨h1,h2,h3⟩:=h;unfold putAt
  by_cases e:p.1=k
  ·rw[AB e,AB (h1.symm.trans e)];exact⟨h1,h2,ry⟩
  ·rw[Ax e,Ax (fun z=>e (h1.trans z))];exact⟨h1,h2,h3⟩
theorem KT.put{H:Hp}{kvs:List (List Key×V)}{xs:List (List Key×Addr×Value)}(r:KT H kvs xs)(k:List Key){b:Addr}{y:V}{u:Value}(hb:H b=some (.tup (k.map kV)))(ry:RelV y u):
 KT H (acj kvs k y) (storedH xs k b u):=by
 have e:(kvs.any fun kv=>decide (kv.1=k))=(atKey xs k).isSome:=by
  rw[alz,(r.val k).isSome_eq,Option.isSome_map]
 unfold acj storedH;rw[e]
 by_cases q:(atKey xs k).isSome=true
 ·rw[AB q,AB q];exact r.repl k ry
 ·rw[Ax q,Ax q];exact Paired.snoc r ⟨rfl,hb,ry⟩
theorem KT.keeps{H H':Hp}{kvs:List (List Key×V)}{xs:List (List Key×Addr×Value)}(r:KT H kvs xs)(ht:∀b ys,H b=some (.tup ys)->H' b=some (.tup ys)):KT H' kvs xs:=
 Paired.mapP r fun _ _ z=>⟨z.1,ht _ _ z.2.1,z.2.2⟩
section
variable {P:Program}{w:World}{H:Hp}{h:Heap}{a:Addr}
theorem axh{u:HO}(ok:HOk P w H h)(e:Rd H a u):ObjOk P w H h a u:=e.ok ok
theorem apf{kvs:List (Key×V)}(ok:HOk P w H h)(e:Rd H a (.dK kvs)):kvs.length≤sizeLine/\(a==sysModules)=false/\∃vs,KV kvs vs/\h.DictOf (jv P w) a vs:=
 show ObjOk P w H h a (.dK kvs) from axh ok e
theorem ax6{kvs:List (Key×V)}(ok:HOk P w H h)(e:H a=some (.dK kvs)):kvs.length≤sizeLine/\(a==sysModules)=false/\∃vs,KV kvs vs/\h.DictOf (jv P w) a vs:=apf ok (.inl e)
theorem aoy{ks:List Key}(ok:HOk P w H h)(e:H a=some (.tup (ks.map kV))):(tupleKind (jv P w)).is h ks a:=by
 obtain⟨_,its,r,o,h1,h2,n,h3⟩:=(show ObjOk P w H h a (.tup (ks.map kV)) from ok a _ e);exact⟨o,its.toArray,n,h1,h2,h3,by simpa using ajf r⟩
theorem asx{kvs:List (List Key×V)}(ok:HOk P w H h)(e:Rd H a (.dT kvs)):kvs.length≤sizeLine/\(a==sysModules)=false/\
 ∃xs,KT H kvs xs/\h.DictOfH (tupleKind (jv P w)) a xs:=by
 obtain⟨z,y,xs,r,o,es,ep,h1,h2,h3,h4,h5⟩:=(show ObjOk P w H h a (.dT kvs) from axh ok e);refine⟨z,y,xs,r,o,es,ep,h1,h2,h3,h4,fun x hx=>?_,h5⟩;have all:∀{l:List (List Key×V)} {m:List (List Key×Addr×Value)},KT H l m->∀x∈m,(tupleKind (jv P w)).is h x.1 x.2.1:=by
  intro l m q
  induction q with
  |nil=>intro x hx;exact nomatch hx
  |@cons p q ps qs hq t ih=>
   intro x hx;rcases As.mp hx with e | hx
   ·subst e;exact aoy ok (by rw[<-hq.1];exact hq.2.1)
   ·exact ih x hx
 exact all r x hx
theorem a1o{kvs:List (List Key×V)}(ok:HOk P w H h)(e:H a=some (.dT kvs)):kvs.length≤sizeLine/\(a==sysModules)=false/\
 ∃xs,KT H kvs xs/\h.DictOfH (tupleKind (jv P w)) a xs:=asx ok (.inl e)
end
def az6(H:Hp)(a:Addr)(y:V)(r:Option V):Prop:=
 (∃kvs k,Rd H a (.dK kvs)/\y=kV k/\r=adk kvs k)\/∃kvs k b,Rd H a (.dT kvs)/\y=.ref b/\H b=some (.tup (k.map kV))/\r=adk kvs k
def a0w(H:Hp)(a:Addr)(y v:V)(H':Hp):Prop:=
 (∃kvs k,H a=some (.dK kvs)/\y=kV k/\kvs.length<sizeLine/\H'=upd H a (.dK (acj kvs k v)))\/
 ∃kvs k b,H a=some (.dT kvs)/\y=.ref b/\H b=some (.tup (k.map kV))/\kvs.length<sizeLine/\H'=upd H a (.dT (acj kvs k v))
section
variable {X:Cx}{pins:List (Addr×Obj)}{σ:St}{H:Hp}{s:Shared}{a:Addr}{y v:V}{u r:Value}{o:Option V}{A:Around}{E:Value->Shared->Prop}
theorem Inv.big(I:Inv X pins σ H s):sysModules<s.heap.objs.size:=by
 have h:mainGlobals<s.heap.objs.size:=(I.mod.glob.keeps I.bk).lt;exact Di (by decide) h
theorem ar6{Q:Value->Shared->Prop}(hu:A.units+1<cLine)(I:Inv X pins σ H s)(g:az6 H a y (some v))(ry:RelV y u)(h:∀w' s',Inv X pins σ H s'->RelV v w'->Q w' s'):
 wpAny (model X.prog X.w) A (getItem (.ref a) u) Q E s:=by
 rcases g with⟨kvs,k,e,ey,l⟩ | ⟨kvs,k,b,e,ey,eb,l⟩
 ·subst ey;obtain⟨z,hd,vs,rel,dd⟩:=apf I.hok e;obtain⟨w',hw,rw'⟩:=RelO.some_of (v:=v) (o:=valueAt vs k) (by rw[l];exact rel.val k);exact wpAny_getItem_of (aj9 ry) dd.mapOf hw (h w' _ (I.tok _) rw')
 ·subst ey;cases (show u=Value.ref b from ry);obtain⟨z,hd,xs,rel,dd⟩:=asx I.hok e;obtain⟨w',hw,rw'⟩:=RelO.some_of (v:=v) (o:=(atKey xs k).map (·.2)) (by rw[l];exact rel.val k);obtain⟨p,hp,hp2⟩:=Ar.mp hw;refine wpAny_getItem_heap (tupleKind_room_in1 hu) (aoy I.hok eb) dd hp ?_;rw[hp2];exact h w' _ (I.tok _) rw'
theorem ak1{h':Heap}{t':Nat}{ob:HO}(I:Inv X pins σ H s)(mu:Mut (H a))(hs:Heap.SameBut a s.heap h')(he:∃q,h'.get? a=some q)(new:ObjOk X.prog X.w (upd H a ob) h' a ob)(ht:0<t':=by (first | assumption | exact Bj _ | exact Inv.tk (by assumption) | exact Ak (Inv.tk (by assumption)) (A2 _ _) | exact Ak (Inv.tk (by assumption)) (by assumption))):
 Inv X pins σ (upd H a ob) { s with heap:=h',toks:=t' }:=
 I.write (x:=a) (e:=a) mu (.inl rfl) (fun b q hb z=>(hs.2 b hb).trans z) he new
theorem asq{P:Program}{w:World}{H':Hp}{h':Heap}{kvs:List (Key×V)}{vs:List (Key×Value)}(z:kvs.length≤sizeLine)(hd:(a==sysModules)=false)(rel:KV kvs vs)(dd:h'.DictOf (jv P w) a vs):
 ObjOk P w H' h' a (.dK kvs):=⟨z,hd,vs,rel,dd⟩
theorem aqn{H':Hp}{Q:Unit->Shared->Prop}(hu:A.units+1<cLine)(I:Inv X pins σ H s)(g:a0w H a y v H')(ry:RelV y u)(rv:RelV v r)(h:∀s',Inv X pins σ H' s'->Q () s'):
 wpAny (model X.prog X.w) A (setItem (.ref a) u r) Q E s:=by
 rcases g with⟨kvs,k,e,ey,l,eH⟩ | ⟨kvs,k,b,e,ey,eb,l,eH⟩
 ·subst ey eH;obtain⟨z,hd,vs,rel,dd⟩:=ax6 I.hok e;have hz:vs.length≤sizeLine:=by rw[<-rel.length];exact z
  have hl:(acj kvs k v).length≤sizeLine:=by have:=ac6 kvs k v;omega
  refine wpAny_setItem_pairs (hsz:=hz) (aj9 ry) dd fun h' dd' hs=>h _ ?_;have he:∃q,h'.get? a=some q:=let ⟨q,_,_,hq,_⟩:=dd';⟨q,hq⟩;exact ak1 I (by rw[e];exact True.intro) hs he (asq hl hd (rel.put k rv) dd')
 ·subst ey eH;cases (show u=Value.ref b from ry);obtain⟨z,hd,xs,rel,dd⟩:=a1o I.hok e;have hz:xs.length≤sizeLine:=by rw[<-Paired.length rel];exact z
  have hl:(acj kvs k v).length≤sizeLine:=by have:=ac6 kvs k v;omega
  refine wpAny_setItem_heap (hsz:=hz) (tupleKind_room_in1 hu) (aoy I.hok eb) dd fun h' dd' hs=>h _ ?_;obtain⟨q,es,ep,hq,h2,h3,h4,_,h5⟩:=dd';refine ak1 I (by rw[e];exact True.intro) hs ⟨q,hq⟩ ⟨hl,hd,_,(rel.put k eb rv).keeps fun c ys ec=>?_,q,es,ep,hq,h2,h3,h4,h5⟩;rw[qr (a1y ec e (fun z=>nomatch z))];exact ec
end
section
variable {X:Cx}{pins:List (Addr×Obj)}{σ:St}{H:Hp}{s:Shared}{a:Addr}{kvs:List (Key×V)}{k:Key}{u:Value}{A:Around}{E:Value->Shared->Prop}
end
def ayi(i:Expr):Prop:=∀ov iv,subscripted i false ov iv=operate [ov,iv] (getItem ov iv)
theorem avt{prog:Program}{w:World}{A:Around}{E:Value->Shared->Prop}{s:Shared}{env:Env}{value slice:Expr}{pos:Pos}{T id:String}{Q:Value->Shared->Prop}
 (hl:typeLookup (.type T) "__getitem__" = pure (some (.builtin id))) (hs:ayi slice)
 (h:wpAny (model prog w) A (eval value env) (fun o s₁=>wpAny (model prog w) A (eval slice env) (fun i s₂=>s₂.TypeIs o T/\wpAny (model prog w) A (getItem o i) Q E s₂) E s₁) E s):
 wpAny (model prog w) A (eval (.Subscript value slice pos) env) Q E s:=by
 refine Subscript_ (AV h (fun o s₁ h₁=>AV h₁ (fun i s₂ h₂=>?_) fun _ _ x=>x) fun _ _ x=>x);obtain⟨hT,h₂⟩:=h₂;unfold subscriptTail;refine Aa ?_;rw[getitemInPython_of_ne hT.not_modules];refine Aa (wpAny_specialOf hT hl ?_);have fin:wpAny (model prog w) A (subscripted slice false o i) (fun r s₃=>wpAny (model prog w) A (letTemporaryGo value o r >>= fun _=>pure r) Q E s₃) E s₂:=by
  rw[hs o i];exact wpAny_operating (AV h₂ (fun r s₃ h₃=>Aa (wpAny_letTemporaryGo (Ah h₃))) fun _ _ x=>x)
 first
  |exact Ah (Aa fin)
  |exact Aa (Ah (Aa fin))
  |exact Aa fin
theorem anm{X:Cx}{pins:List (Addr×Obj)}{σ:St}{H:Hp}{s:Shared}{a:Addr}{y:V}{o:Option V}(I:Inv X pins σ H s)(g:az6 H a y o):s.TypeIs (.ref a) "dict" := by
 rcases g with⟨kvs,k,e,_,_⟩ | ⟨kvs,k,b,e,_,_,_⟩
 ·obtain⟨_,_,vs,_,dd⟩:=apf I.hok e;exact dd.typeIs
 ·obtain⟨_,_,xs,_,dd⟩:=asx I.hok e;exact dd.typeIs
def a0n(td ty:TE):TE:=fun σ H Q=>td σ H fun x H1=>ty σ H1 fun y H2=>∃a v,x=.ref a/\az6 H2 a y (some v)/\Q v H2
def a16(td ty tv:TE):TS:=fun D σ H=>tv σ H fun v H1=>td σ H1 fun x H2=>ty σ H2 fun y H3=>∃a H4,x=.ref a/\a0w H3 a y v H4/\D.nx σ H4
section
variable {X:Cx}{o i e value:Expr}{pos pos' tpos:Pos}{td ty tv:TE}
theorem avn(hu:X.A.units+1<cLine)(ho:PE X o td)(hi:PE X i ty)(hs:ayi i):PE X (.Subscript o i pos) (a0n td ty):=by
 intro pins s σ H Q I h;refine avt Dt.lookup hs (thn (ho pins s σ H _ I h) fun u s1 ⟨x,H1,I1,rx,q1⟩=>thn (hi pins s1 σ H1 _ I1 q1) fun iv s2 ⟨y,H2,I2,ry,a,v,ex,g,q2⟩=>?_);subst ex;obtain rfl:u=Value.ref a:=rx;exact⟨anm I2 g,ar6 hu I2 g ry fun w' s3 I3 rw'=>⟨v,H2,I3,rw',q2⟩⟩
theorem awy(hu:X.A.units+1<cLine)(ho:PE X o td)(hi:PE X i ty)(hv:PE X value tv)(hs:swapsWith value (some (.Subscript o i pos')) pos.line X.env=pure false):
 PS X (.Assign [.Subscript o i pos'] value pos) (a16 td ty tv):=by
 intro pins s σ H D I h;refine wpAny_Assign_Subscript (thn (hv pins s σ H _ I h) fun r s1 ⟨v,H1,I1,rv,q1⟩=>thn (ho pins s1 σ H1 _ I1 q1) fun u s2 ⟨x,H2,I2,rx,q2⟩=>thn (hi pins s2 σ H2 _ I2 q2) fun iv s3 ⟨y,H3,I3,ry,a,H4,ex,g,q3⟩=>?_) hs;subst ex;obtain rfl:u=Value.ref a:=rx;exact aqn hu I3 g ry rv fun s4 I4=>⟨σ,H4,I4,q3⟩
end
theorem amk{P:Program}{w:World}{H:Hp}(h:Heap)(hb:sysModules<h.objs.size):ObjOk P w H (h.push { cls:=.type "dict",data:=.dict #[] }) h.objs.size (.dK []):=
 ⟨Bf _,beq_eq_false_iff_ne.mpr (AK (A3 hb)),[],.nil,Heap.DictOf.new h⟩
def ayh:TE:=fun _ H Q=>∀p,H p=none->Q (.ref p) (upd H p (.dK []))
section
variable {X:Cx}{pos:Pos}
theorem atq:PE X (.Dict [] [] pos) ayh:=fun pins s σ H Q I h=>
 wpAny_Dict_empty ⟨.ref s.heap.objs.size,_,I.laid (a:=s.heap.objs.size) (o:=.dK []) (t':=s.toks) (fun _ _ q=>Heap.get?_push_of_some _ q) (An _) (amk s.heap I.big),rfl,h _ (I.hok.fresh (An _))⟩
end
def ajq:List (TE×TE)->St->Hp->(List (V×V)->Hp->Prop)->Prop
 |[],_,H,Q=>Q [] H
 |(tk,tv)::r,σ,H,Q=>tk σ H fun x H1=>tv σ H1 fun y H2=>ajq r σ H2 fun ps H3=>Q ((x,y)::ps) H3
abbrev VV:List (V×V)->List (Value×Value)->Prop:=Paired fun p q=>RelV p.1 q.1/\RelV p.2 q.2
def PPs(X:Cx)(pos:Pos)(keys:List (Option Expr))(values:List Expr)(trs:List (TE×TE)):Prop:=
 ∀(pins:List (Addr×Obj)) (s:Shared) (σ:St) (H:Hp) (Q:List (V×V)->Hp->Prop),Inv X pins σ H s->ajq trs σ H Q->
  wpAny (model X.prog X.w) X.A (evalPairs (pairTrees keys values X.env pos)) (fun vs s'=>∃ps H',Inv X pins σ H' s'/\VV ps vs/\Q ps H') X.xe s
theorem auw{X:Cx}{pos:Pos}:PPs X pos [] [] []:=fun pins s σ H Q I h=>pairTrees_nil_walk ⟨[],H,I,.nil,h⟩
theorem aem{X:Cx}{pos:Pos}{k v:Expr}{ks:List (Option Expr)}{vs:List Expr}{tk tv:TE}{trs:List (TE×TE)}(hk:PE X k tk)(hv:PE X v tv)(hr:PPs X pos ks vs trs):
 PPs X pos (some k::ks) (v::vs) ((tk,tv)::trs):=fun pins s σ H Q I h=>
 pairTrees_cons_walk (thn (hk pins s σ H _ I h) fun u s1 ⟨x,H1,I1,rx,q1⟩=>thn (hv pins s1 σ H1 _ I1 q1) fun w2 s2 ⟨y,H2,I2,ry,q2⟩=>
  thn (hr pins s2 σ H2 _ I2 q2) fun ws s3 ⟨ps,H3,I3,rel,q3⟩=>⟨(x,y)::ps,H3,I3,.cons ⟨rx,ry⟩ rel,q3⟩)
def af9(kvs more:List (Key×V)):List (Key×V):=more.foldl (fun acc kv=>acj acc kv.1 kv.2) kvs
theorem KV.merge:∀{more:List (Key×V)} {rs:List (Key×Value)} {kvs:List (Key×V)} {vs:List (Key×Value)},KV more rs->KV kvs vs->KV (af9 kvs more) (merged vs rs):=by
 intro more rs kvs vs r;unfold KV at r
 induction r generalizing kvs vs with
 |nil=>intro q;exact q
 |@cons p q ps qs h t ih=>
  intro r0;have e:KV (acj kvs p.1 p.2) (stored vs q.1 q.2):=by
   have:=r0.put p.1 h.2;rw[<-h.1];exact this
  exact ih e
theorem ada:∀(more kvs:List (Key×V)),(af9 kvs more).length≤kvs.length+more.length
 |[],kvs=>by show kvs.length≤kvs.length+0;omega
 |p::r,kvs=>by
  have h1:=ada r (acj kvs p.1 p.2);have h2:=ac6 kvs p.1 p.2;show(af9 (acj kvs p.1 p.2) r).length≤_;rw[AF];omega
theorem ahu{P:Program}{w:World}:∀{kvs:List (Key×V)} {ws:List (Value×Value)},VV (kvs.map fun kv=>(kV kv.1,kv.2)) ws->∃rs,Carries (jv P w) ws rs/\KV kvs rs
 |[],_,r=>by rw[CN] at r;cases r;exact⟨[],True.intro,.nil⟩
 |p::kvs,_,r=>by
  rw[AE] at r;cases r with
  |@cons a b as bs h t=>
   obtain⟨rs,c,q⟩:=ahu (P:=P) (w:=w) t;obtain⟨b1,b2⟩:=b;exact⟨(p.1,b2)::rs,⟨aj9 h.1,rfl,c⟩,.cons ⟨rfl,h.2⟩ q⟩
def a19(trs:List (TE×TE)):TE:=fun σ H Q=>∀p,H p=none->ajq trs σ (upd H p (.dK [])) fun ps H2=>H2 p=some (.dK [])/\∃kvs:List (Key×V),ps=kvs.map (fun kv=>(kV kv.1,kv.2))/\kvs.length≤15/\Q (.ref p) (upd H2 p (.dK (af9 [] kvs)))
theorem av8{X:Cx}{pos:Pos}{keys:List (Option Expr)}{values:List Expr}{trs:List (TE×TE)}(h:PPs X pos keys values trs)(hall:keys.all (·.isSome)=true)(hl:keys.length=values.length)(h0:keys≠[])
 (h15:keys.length≤15):PE X (.Dict keys values pos) (a19 trs):=by
 intro pins s σ H Q I q;have hn:=I.hok.fresh (An s.heap.objs.size);have I1:=I.laid (a:=s.heap.objs.size) (o:=.dK []) (h':=s.heap.push { cls:=.type "dict",data:=.dict #[] }) (t':=s.toks) (fun _ _ q=>Heap.get?_push_of_some _ q) (An _) (amk s.heap I.big);refine wpAny_Dict_walk (knd:=jv X.prog X.w) hall hl h0 h15 (thn (h pins _ σ _ _ I1 (q _ hn)) fun ws s2 ⟨ps,H2,I2,rel,e,kvs,ep,lk,q2⟩=>?_);subst ep;obtain⟨rs,c,rk⟩:=ahu (P:=X.prog) (w:=X.w) rel;obtain⟨z,hd,vs0,r0,dd⟩:=ax6 I2.hok e;cases r0;refine⟨rs,c,dd,fun h' dd' hs=>⟨.ref s.heap.objs.size,_,?_,rfl,q2⟩⟩;have hz:(af9 [] kvs).length≤sizeLine:=by
  have h1:=ada kvs [];rw[List.length_nil] at h1;rw[sizeLine_eq];omega
 have he:∃q,h'.get? s.heap.objs.size=some q:=let ⟨q,_,_,hq,_⟩:=dd';⟨q,hq⟩;exact ak1 I2 (by rw[e];exact True.intro) hs he (asq hz hd (rk.merge .nil) dd')
section
variable {X:Cx}{pins:List (Addr×Obj)}{σ:St}{H:Hp}{s:Shared}{a:Addr}{y d:V}{u r:Value}{o:Option V}{A:Around}{E:Value->Shared->Prop}
end
section
variable {X:Cx}{o e f:Expr}{apos cpos:Pos}{td ty tx:TE}
end
section
variable {X:Cx}{pins:List (Addr×Obj)}{σ:St}{H:Hp}{s:Shared}{a:Addr}{kvs:List (Key×V)}{A:Around}{E:Value->Shared->Prop}
end
section
variable {X:Cx}{pins:List (Addr×Obj)}{σ:St}{H:Hp}{s:Shared}{a:Addr}{y:V}{u:Value}{A:Around}{E:Value->Shared->Prop}
end
end L2
namespace HT
open PySem PyProof.Rows
section
open PySem.SeqAt
open PySem.AutoSeq1 (wpAny_loadPart')
open PySem.MeetsSeq PySem.MeetsSeq2 PySem.MeetsSeq3
end
section
variable {prog:Program}{w:World}{A:Around}{E:Value->Shared->Prop}{s:Shared}
def sIx(n d:Nat):Option Int->Nat
 |none=>d
 |some v=>if v<0 then(v+(n:Int)).toNat else min v.toNat n
theorem sIx_none(n d:Nat):sIx n d none=d:=rfl
theorem sIx_nat(n d k:Nat):sIx n d (some (k:Int))=min k n:=by
 show(if (k:Int)<0 then((k:Int)+(n:Int)).toNat else min (k:Int).toNat n)=min k n;rw[Ax (by omega),BN]
theorem sIx_le(n d:Nat)(hd:d≤n)(o:Option Int):sIx n d o≤n:=by
 cases o with
 |none=>exact hd
 |some v=>
  show(if v<0 then(v+(n:Int)).toNat else min v.toNat n)≤n
  by_cases hv:v<0
  ·rw[AB hv];omega
  ·rw[Ax hv];exact Nat.min_le_right _ _
theorem ap7(v:Int)(n d:Nat):(if v<0 then max (v+(n:Int)) 0 else min v (n:Int))=((sIx n d (some v):Nat):Int):=by
 show(if v<0 then max (v+(n:Int)) 0 else min v (n:Int))=(((if v<0 then(v+(n:Int)).toNat else min v.toNat n):Nat):Int)
 by_cases hv:v<0
 ·simp only[AB hv];omega
 ·simp only[Ax hv];omega
theorem ao6(lo hi:Option Int)(n:Nat):Builtin.Slice.sliceAdjust lo hi 1 (n:Int)=(((sIx n 0 lo:Nat):Int),((sIx n n hi:Nat):Int)):=by
 have h1:¬((1:Int)<0):=by omega
 unfold Builtin.Slice.sliceAdjust;simp only[h1,if_false];refine DS ?_ ?_
 ·cases lo with
  |none=>rfl
  |some v=>exact ap7 v n 0
 ·cases hi with
  |none=>rfl
  |some v=>exact ap7 v n n
theorem aob(i j:Nat):Builtin.Slice.slicePlaces (i:Int) (j:Int) 1=j - i:=by
 unfold Builtin.Slice.slicePlaces;have h1:(1:Int) > 0:=by omega
 simp only[h1,if_true,Int.ediv_one]
 split<;>omega
theorem ahr{v:Value}{o:Option Int}{Q:Option Int->Shared->Prop}(p:IsPart v o)(h:Q o s):wpAny (model prog w) A (Builtin.Slice.slicePartIndex v) Q E s:=by
 cases p with
 |none=>exact slicePart_none h
 |int i t=>exact slicePart_int h
theorem af4{sl:Addr}{vl vu:Value}{lo hi:Option Int}{n:Nat}{Q:Int×Int×Nat->Shared->Prop}(hs:s.heap.IsSliceOf sl vl vu .none)(pl:IsPart vl lo)(pu:IsPart vu hi)
 (h:Q (((sIx n 0 lo:Nat):Int),1,sIx n n hi - sIx n 0 lo) s):wpAny (model prog w) A (Builtin.Slice.sliceApplied (.ref sl) (pure (n:Int))) Q E s:=by
 obtain⟨os,hos,hcs,hds⟩:=id hs;unfold Builtin.Slice.sliceApplied Builtin.Slice.sliceFields;refine Aa (Aa (A4 hos hds (x:=vl) rfl (Aa (A4 hos hds (x:=vu) rfl (Aa (A4 hos hds (x:=.none) rfl (Ah ?_)))))));refine Aa (slicePart_none ?_);show wpAny _ _ (if ((1:Int)==0)=true then _ else _) _ _ s;rw[Ax (by decide)];refine Aa (ahr pl (Aa (ahr pu (Aa (Ah ?_)))));show wpAny _ _ (match Builtin.Slice.sliceAdjust lo hi 1 (n:Int) with | (lo,hi)=>pure (lo,(1:Int),Builtin.Slice.slicePlaces lo hi 1)) _ _ s;rw[ao6 lo hi n];show wpAny _ _ (pure (((sIx n 0 lo:Nat):Int),(1:Int),Builtin.Slice.slicePlaces ((sIx n 0 lo:Nat):Int) ((sIx n n hi:Nat):Int) 1)) _ _ s;rw[aob];exact Ah h
theorem aty(xs:Array Value)(i k:Nat):((List.range k).filterMap fun(m:Nat)=>xs[((i:Int)+(m:Int)*1).toNat]?).toArray=((xs.toList.drop i).take k).toArray:=by
 have e:(fun(m:Nat)=>xs[((i:Int)+(m:Int)*1).toNat]?)=fun m=>xs[i+m]?:=by
  funext m;have:((i:Int)+(m:Int)*1).toNat=i+m:=by omega
  rw[this]
 rw[e];have:=pick_run xs i k;rw[List.filterMap_map] at this;have e2:((fun x=>xs[x]?)∘fun x=>i+x)=fun m=>xs[i+m]?:=rfl;rw[e2] at this;rw[this]
theorem getItem_tuple_cut{t sl:Addr}{items:Array Value}{vl vu:Value}{lo hi:Option Int}{Q:Value->Shared->Prop}(ht:IsTup s.heap t items)(hs:s.heap.IsSliceOf sl vl vu .none)(pl:IsPart vl lo)(pu:IsPart vu hi)
 (hw:¬(sIx items.size 0 lo=0/\sIx items.size items.size hi=items.size))
 (h:Q (.ref s.heap.objs.size) { s with heap:=s.heap.push { cls:=.type "tuple",data:=.seq ((items.toList.drop (sIx items.size 0 lo)).take (sIx items.size items.size hi - sIx items.size 0 lo)).toArray } })
 (hsz:items.size≤sizeLine):wpAny (model prog w) A (getItem (.ref t) (.ref sl)) Q E s:=by
 have htake:sizeOk (.seq ((items.toList.drop (sIx items.size 0 lo)).take (sIx items.size items.size hi - sIx items.size 0 lo)).toArray):=by
  show((items.toList.drop (sIx items.size 0 lo)).take (sIx items.size items.size hi - sIx items.size 0 lo)).toArray.size≤sizeLine;rw[Ao,AL,Bq,AJ];omega
 have hj:sIx items.size items.size hi≤items.size:=sIx_le _ _ (An _) hi;obtain⟨os,hos,hcs,hds⟩:=id hs;have hTs:s.TypeIs (.ref sl) "slice" := ⟨os,hos,hcs⟩;unfold getItem
 try with_reducible refine A7 ?_
 first | refine Aa (Ah ?_) | skip
 refine Aa (wpAny_sequenceKey ht.typeIs (by decide) ?_);refine Aa (wpAny_callSpecial?_slot (name:=Str.ofString "__getitem__") ht.typeIs B8
  (wpAny_call_entry B8 ht.typeIs entry_tuple_getitem ?_ (args_tuple_getitem _ _)))
 show wpAny _ _ (Builtin.Tuple.tupleItemsOf (.ref t) >>= _) _ _ s;refine Aa (tupleItemsOf_ ht ?_);refine Aa (wpAny_typeOf hTs ?_);rw[AB (by decide)];refine Aa (af4 hs pl pu ?_);have hno:¬((((sIx items.size 0 lo:Nat):Int)==0&&(1:Int)==1&&(sIx items.size items.size hi - sIx items.size 0 lo)==items.size)=true):=by
  intro q;rw[AX,AX] at q;have q1:((sIx items.size 0 lo:Nat):Int)=0:=eq_of_beq q.1.1;have q2:sIx items.size items.size hi - sIx items.size 0 lo=items.size:=eq_of_beq q.2;exact hw ⟨by omega,by omega⟩
 show wpAny _ _ (if (((sIx items.size 0 lo:Nat):Int)==0&&(1:Int)==1&&(sIx items.size items.size hi - sIx items.size 0 lo)==items.size)=true then _ else _) _ _ s;rw[Ax hno,aty]
 first
  |exact Aa (m:=Builtin.Tuple.tupleExact _) (Be (Ah ⟨_,rfl,Ah h⟩) htake)
  |exact Aa (m:=Builtin.Tuple.tupleExact _) (Be (Aa (Ah (Ah ⟨_,rfl,Ah h⟩))) htake)
  |exact Aa (Aa (m:=Builtin.Tuple.tupleExact _) (Be (Ah (Ah ⟨_,rfl,Ah h⟩)) htake))
  |exact Aa (Aa (m:=Builtin.Tuple.tupleExact _) (Be (Ah ⟨_,rfl,Ah h⟩) htake))
end
end HT
namespace L2
open PySem PySem.Spec PyProof.Rows
abbrev TO:=St->Hp->(Option Int->Hp->Prop)->Prop
def PO(X:Cx)(e:Option Expr)(t:TO):Prop:=
 ∀(pins:List (Addr×Obj)) (s:Shared) (σ:St) (H:Hp) (Q:Option Int->Hp->Prop),Inv X pins σ H s->t σ H Q->
  wpAny (model X.prog X.w) X.A (evalPart e X.env) (fun u s'=>∃o H',Inv X pins σ H' s'/\IsPart u o/\Q o H') X.xe s
def ax1:TO:=fun _ H Q=>Q none H
def a18(t:TE):TO:=fun σ H Q=>t σ H fun x H1=>∃i,x=.int i/\Q (some i) H1
section
variable {X:Cx}{e:Expr}{te:TE}{lo hi:Option Expr}{tl th:TO}{pos p2:Pos}
theorem awu:PO X none ax1:=by
 intro pins s σ H Q I h;rw[evalPart_none];exact Ah ⟨none,H,I,.none,h⟩
theorem avv(h:PE X e te):PO X (some e) (a18 te):=by
 intro pins s σ H Q I hw;rw[evalPart_some];refine thn (h pins s σ H _ I hw) fun u s1 ⟨x,H1,I1,r1,q1⟩=>?_;obtain⟨i,rfl,q⟩:=q1;obtain⟨t,rfl⟩:=r1;exact⟨some i,H1,I1,.int i t,q⟩
def SlR(X:Cx)(r:V->Option Int->Option Int->Hp->VK->Prop):Prop:=
 ∀(pins:List (Addr×Obj)) (s:Shared) (σ:St) (H:Hp) (x:V) (v vl vu:Value) (lo hi:Option Int) (sl:Addr) (Q:VK),Inv X pins σ H s->RelV x v->s.heap.IsSliceOf sl vl vu .none->IsPart vl lo->IsPart vu hi->r x lo hi H Q->
  ∃T id,typeLookup (.type T) "__getitem__" = pure (some (.builtin id))/\s.TypeIs v T/\wpAny (model X.prog X.w) X.A (getItem v (.ref sl)) (EP X pins σ Q) X.xe s
theorem SlR.or{r r':V->Option Int->Option Int->Hp->VK->Prop}(h:SlR X r)(h':SlR X r'):SlR X (fun x lo hi H Q=>r x lo hi H Q\/r' x lo hi H Q):=by
 intro pins s σ H x v vl vu lo hi sl Q I rx hs pl pu q;rcases q with q | q
 ·exact h pins s σ H x v vl vu lo hi sl Q I rx hs pl pu q
 ·exact h' pins s σ H x v vl vu lo hi sl Q I rx hs pl pu q
def tSl(r:V->Option Int->Option Int->Hp->VK->Prop)(te:TE)(tl th:TO):TE:=fun σ H Q=>te σ H fun x H1=>tl σ H1 fun l H2=>th σ H2 fun u H3=>r x l u H3 Q
theorem at8{r:V->Option Int->Option Int->Hp->VK->Prop}(hr:SlR X r)(he:PE X e te)(hl:PO X lo tl)(hu:PO X hi th):PE X (.Subscript e (.Slice lo hi none p2) pos) (tSl r te tl th):=by
 intro pins s σ H Q I h;refine Subscript_ (thn (he pins s σ H _ I h) fun v s1 ⟨x,H1,I1,r1,q1⟩=>?_);refine wpAny_Slice (thn (hl pins s1 σ H1 _ I1 q1) fun vl s2 ⟨l,H2,I2,pl,q2⟩=>thn (hu pins s2 σ H2 _ I2 q2) fun vu s3 ⟨u,H3,I3,pu,q3⟩=>?_);rw[evalPart_none];refine Ah ?_;have I4:Inv X pins σ H3 { s3 with heap:=s3.heap.push { cls:=.type "slice",data:=.fields #[vl,vu,.none] } }:=I3.kept (t':=s3.toks) fun b ob q=>Heap.get?_push_of_some _ q;obtain⟨T,id,hT,ht,hg⟩:=hr pins { s3 with heap:=s3.heap.push { cls:=.type "slice",data:=.fields #[vl,vu,.none] } } σ H3 x v vl vu l u s3.heap.objs.size Q I4 r1 (Heap.IsSliceOf.new ..) pl pu q3;show wpAny (model X.prog X.w) X.A (subscriptTail e (.Slice lo hi none p2) v (.ref s3.heap.objs.size)) (EP X pins σ Q) X.xe { s3 with heap:=s3.heap.push { cls:=.type "slice",data:=.fields #[vl,vu,.none] } };exact tail_any (ops:=[.ref s3.heap.objs.size,v]) ht hT hg (by with_unfolding_all rfl)
def am1(xs:List V)(lo hi:Option Int):List V:=(xs.drop (HT.sIx xs.length 0 lo)).take (HT.sIx xs.length xs.length hi - HT.sIx xs.length 0 lo)
theorem afv(xs:List V)(lo hi:Option Int):(am1 xs lo hi).length≤xs.length:=by
 unfold am1;rw[AL,Bq];omega
def a39(K:Af):V->Option Int->Option Int->Hp->VK->Prop:=fun x lo hi H Q=>∃a xs,x=.ref a/\SqT K H a xs/\
 ¬(HT.sIx xs.length 0 lo=0/\HT.sIx xs.length xs.length hi=xs.length)/\∀p,H p=none->Q (.ref p) (upd H p (.tup (am1 xs lo hi)))
theorem a07:SlR X (a39 X.K):=by
 intro pins s σ H x v vl vu lo hi sl Q I rx hs pl pu h;obtain⟨a,xs,rfl,hx,hw,q⟩:=h;cases rx;obtain⟨its,r,ht,hz⟩:=I.tuple hx;have hlen:its.toArray.size=xs.length:=by rw[Ao];exact r.length.symm
 refine⟨"tuple",_,B8.lookup,ht.typeIs,?_⟩;refine HT.getItem_tuple_cut ht hs pl pu (by rw[hlen];exact hw) ?_ (by rw[hlen];exact hz);rw[hlen];refine⟨.ref s.heap.objs.size,_,I.laid (t':=s.toks) (o:=.tup (am1 xs lo hi)) (fun b ob q=>Heap.get?_push_of_some _ q) (An _) ?_,rfl,q _ (I.hok.fresh (An _))⟩;exact⟨AW (afv xs lo hi) hz,_,(r.drop (HT.sIx xs.length 0 lo)).take (HT.sIx xs.length xs.length hi - HT.sIx xs.length 0 lo),IsTup.new _ _⟩
end
def ixN(n:Nat)(i:Int):Option Nat:=if 0≤i then(if i<n then some i.toNat else none) else if -(n:Int)≤i then some (i+n).toNat else none
def atI{α:Type}(xs:List α)(i:Int):Option α:=(ixN xs.length i).bind fun j=>xs[j]?
theorem ap6{n:Nat}{i:Int}{j:Nat}(h:ixN n i=some j):seqIndex? i n=some j/\j<n /\ -(n:Int)≤i/\i<n:=by
 unfold ixN at h
 by_cases h0:0≤i
 ·rw[AB h0] at h
  by_cases h1:i<n
  ·rw[AB h1] at h;have e:i.toNat=j:=A6 h;exact⟨by rw[seqIndex_of h0 h1,e],by omega,by omega,h1⟩
  ·rw[Ax h1] at h;cases h
 ·rw[Ax h0] at h
  by_cases h1 : -(n:Int)≤i
  ·rw[AB h1] at h;have e:(i+n).toNat=j:=A6 h;exact⟨by rw[seqIndex_neg (by omega) h1,e],by omega,h1,by omega⟩
  ·rw[Ax h1] at h;cases h
theorem akq{α:Type}{xs:List α}{i:Int}{v:α}(h:atI xs i=some v):∃j,seqIndex? i xs.length=some j/\xs[j]?=some v/\j<xs.length /\ -(xs.length:Int)≤i/\i<xs.length:=by
 unfold atI at h;cases e:ixN xs.length i with
 |none=>rw[e] at h;cases h
 |some j=>
  rw[e] at h;obtain⟨h1,h2,h3,h4⟩:=ap6 e;exact⟨j,h1,h,h2,h3,h4⟩
theorem xu{α:Type}{xs:List α}{j:Nat}{v:α}(h:xs[j]?=some v):atI xs (j:Int)=some v:=by
 have hj:j<xs.length:=(AU.mp h).1;have e:ixN xs.length (j:Int)=some j:=by
  unfold ixN;rw[AB (by omega),AB (by omega)];simp
 unfold atI;rw[e];exact h
def akf(b:Expr):Prop:=∀o i,subscripted b false o i=operate [o,i] (getItem o i)
def IxR(X:Cx)(r:R2):Prop:=
 ∀(value slice:Expr) (pins:List (Addr×Obj)) (s:Shared) (σ:St) (H:Hp) (x y:V) (v u:Value) (Q:VK),Inv X pins σ H s->RelV x v->RelV y u->r x y H Q->
  subscripted slice false v u=operate [v,u] (getItem v u)->wpAny (model X.prog X.w) X.A (subscriptTail value slice v u) (EP X pins σ Q) X.xe s
def MtR(X:Cx)(id:String)(r:V->List V->Hp->VK->Prop):Prop:=
 ∀(pins:List (Addr×Obj)) (s:Shared) (σ:St) (H:Hp) (x:V) (xs:List V) (v:Value) (us:List Value) (Q:VK),Inv X pins σ H s->RelV x v->Vals xs us->r x xs H Q->
  wpAny (model X.prog X.w) X.A (call (.builtin id) (v::us)) (EP X pins σ Q) X.xe s
section
variable {X:Cx}{a b:Expr}{ta tb:TE}{pos:Pos}
theorem a0p{r:R2}(hr:IxR X r)(ha:PE X a ta)(hb:PE X b tb)(hs:akf b):PE X (.Subscript a b pos) (tOp r ta tb):=by
 intro pins s σ H Q I h;exact Subscript_ (ayp ha hb I h fun v u s2 x y H2 I2 rx ry q=>hr a b pins s2 σ H2 x y v u Q I2 rx ry q (hs _ _))
def a34(K:Af):R2:=fun x y H Q=>∃p xs i v,x=.ref p/\y=.int i/\SqL K H p xs/\atI xs i=some v/\Q v H
def a2t(K:Af):R2:=fun x y H Q=>∃p xs i v,x=.ref p/\y=.int i/\SqT K H p xs/\atI xs i=some v/\Q v H
def a25:R2:=fun x y H Q=>∃z i c,x=.str z/\y=.int i/\z.length≤sizeLine/\atI z.cps.toList i=some c/\Q (.str ⟨#[c]⟩) H
theorem avd:IxR X (a34 X.K):=by
 intro value slice pins s σ H x y v u Q I rx ry h hs;obtain⟨p,xs,i,z,rfl,rfl,hq,he,q⟩:=h;cases rx;obtain⟨t,rfl⟩:=ry;obtain⟨its,r,pl,hz⟩:=I.list hq;obtain⟨j,h1,h2,h3,h4,h5⟩:=akq he;obtain⟨w,ew,rw'⟩:=r.get h2;have hl:=r.length;have hn:=afa;have fin:EP X pins σ Q w s:=⟨z,H,I,rw',q⟩
 by_cases h0:0≤i
 ·have hj:i.toNat=j:=by
   rw[seqIndex_of h0 h5] at h1;exact A6 h1
  exact item_listR pl.isList h0 (by omega) (by rw[hj];simpa using ew) fin hs
 ·have hj:(i+(its.toArray.size:Int)).toNat=j:=by
   rw[seqIndex_neg (by omega) h4] at h1;rw[Ao,<-hl];exact A6 h1
  exact subscriptTail_builtinR (x:=w) pl.isList.typeIs slot_list_getitem.lookup
   (wpAny_getItem_list_neg (Q:=fun r s'=>r=w/\EP X pins σ Q r s') pl.isList (by omega) (by rw[Ao]<;>omega) (by omega) (by rw[hj];simpa using ew) ⟨rfl,fin⟩) hs
theorem azg:IxR X (a2t X.K):=by
 intro value slice pins s σ H x y v u Q I rx ry h hs;obtain⟨p,xs,i,z,rfl,rfl,hq,he,q⟩:=h;cases rx;obtain⟨t,rfl⟩:=ry;obtain⟨its,r,pl,hz⟩:=I.tuple hq;obtain⟨j,h1,h2,h3,h4,h5⟩:=akq he;obtain⟨w,ew,rw'⟩:=r.get h2;have hl:=r.length;have hn:=afa;have fin:EP X pins σ Q w s:=⟨z,H,I,rw',q⟩;exact subscriptTail_builtinR (x:=w) pl.typeIs slot_tuple_getitem.lookup
  (getItem_tuple (j:=j) (Q:=fun r s'=>r=w/\EP X pins σ Q r s') pl (by omega) (by omega) (by rw[Ao,<-hl];exact h1) (by simpa using ew) ⟨rfl,fin⟩) hs
theorem a05:IxR X a25:=by
 intro value slice pins s σ H x y v u Q I rx ry h hs;obtain⟨z,i,c,rfl,rfl,hz,he,q⟩:=h;obtain⟨t,rfl⟩:=rx;obtain⟨t',rfl⟩:=ry;obtain⟨j,h1,h2,h3,h4,h5⟩:=akq he;have hl:z.cps.toList.length=z.length:=by simp[Str.length]
 rw[hl] at h1 h4 h5;have hn:=afa;exact tail_any (typeIs_str s z t) slot_str_getitem.lookup (getItem_str (c:=c) (by
  have e1:decide (i < -(2 ^ 63:Int))=false:=Aq (by omega);have e2:decide (i≥2 ^ 63)=false:=Aq (by omega);rw[e1,e2,Bool.or_false]) (by rw[h1];simpa using h2) ⟨.str ⟨#[c]⟩,H,I.tok _,⟨_,rfl⟩,q⟩) hs
theorem aof(its:List Value)(n j:Nat)(u:Value):Obj.mapSeq (·.setIfInBounds j u) { cls:=.type "list",data:=.seq its.toArray n }={ cls:=.type "list",data:=.seq (its.set j u).toArray n }:=by
 simp[Obj.mapSeq]
theorem Inv.lst{pins:List (Addr×Obj)}{σ:St}{H:Hp}{s:Shared}{p:Addr}{xs:List V}(I:Inv X pins σ H s)(h:H p=some (.lst xs)):
 ∃(its:List Value) (n:Nat),Vals xs its/\s.heap.get? p=some { cls:=.type "list",data:=.seq its.toArray n }/\xs.length≤sizeLine:=by
 obtain⟨z,its,n,r,e⟩:=I.hok p _ h;exact⟨its,n,r,e,z⟩
theorem Inv.lstUpd{pins:List (Addr×Obj)}{σ:St}{H:Hp}{s:Shared}{p:Addr}{xs ys:List V}{its its':List Value}{n n':Nat}{f:Obj->Obj}(I:Inv X pins σ H s)(h:H p=some (.lst xs))
 (ho:s.heap.get? p=some { cls:=.type "list",data:=.seq its.toArray n }) (hf:f { cls:=.type "list",data:=.seq its.toArray n }={ cls:=.type "list",data:=.seq its'.toArray n' }) (r:Vals ys its') (hz:ys.length≤sizeLine) (t:Nat) (ht:0<t:=by (first | assumption | exact Bj _ | exact Inv.tk (by assumption) | exact Ak (Inv.tk (by assumption)) (A2 _ _) | exact Ak (Inv.tk (by assumption)) (by assumption))):
 Inv X pins σ (upd H p (.lst ys)) { s with heap:=s.heap.update p f,toks:=t }:=by
 have e:(s.heap.update p f).get? p=some { cls:=.type "list",data:=.seq its'.toArray n' }:=by
  rw[Heap.get?_update_self f ho (by rw[hf]<;>rfl),hf]
 refine I.write (x:=p) (e:=p) (by rw[h];trivial) (.inl rfl) (fun b u hb q=>(Heap.get?_update_other _ _ (AK hb)).trans q) ⟨_,e⟩ ?_;exact⟨hz,its',n',r,e⟩
def a12:V->V->V->Hp->(Hp->Prop)->Prop:=fun o i v H Q=>∃p xs k j,o=.ref p/\i=.int k/\H p=some (.lst xs)/\ixN xs.length k=some j/\Q (upd H p (.lst (xs.set j v)))
theorem atz:a1k X a12:=by
 intro pins s σ H o i v ov iv u Q I ro ri rv h;obtain⟨p,xs,k,j,rfl,rfl,hp,hj,q⟩:=h;cases ro;obtain⟨t,rfl⟩:=ri;obtain⟨its,n,r,ho,hz⟩:=I.lst hp;obtain⟨h1,h2,h3,h4⟩:=ap6 hj;have hl:=r.length;have hn:=afa;have I':Inv X pins σ (upd H p (.lst (xs.set j v))) { s with heap:=s.heap.update p (Obj.mapSeq (·.setIfInBounds j u)) }:=
  I.lstUpd hp ho (aof its n j u) (r.set rv j) (by rw[BY];exact hz) s.toks
 by_cases h0:0≤k
 ·have hk:k.toNat=j:=by
   rw[seqIndex_of h0 h4] at h1;exact A6 h1
  exact PySem.W.ki_setAt ho h0 (by omega) (by rw[Ao,<-hl];exact h4) (by rw[hk];exact⟨_,I',q⟩)
 ·have hk:(k+(its.toArray.size:Int)).toNat=j:=by
   rw[seqIndex_neg (by omega) h3] at h1;rw[Ao,<-hl];exact A6 h1
  exact PySem.W.ki_setBack ho (by omega) (by rw[Ao,<-hl];exact h3) (by omega) (by rw[hk];exact⟨_,I',q⟩)
theorem akz(lo hi:Option Int)(n:Nat):(sliceBounds lo hi none n).1=((HT.sIx n 0 lo:Nat):Int)/\(sliceBounds lo hi none n).2.1=((HT.sIx n n hi:Nat):Int)/\(sliceBounds lo hi none n).2.2=1:=by
 refine⟨?_,?_,rfl⟩
 ·cases lo with
  |none=>simp[sliceBounds,HT.sIx]
  |some i=>
   simp only[sliceBounds,HT.sIx,Option.getD_none,show(1:Int) > 0 by decide,if_true]
   by_cases h:i<0
   ·simp only[h,if_true]<;>omega
   ·simp only[h,if_false]<;>omega
 ·cases hi with
  |none=>simp[sliceBounds,HT.sIx]
  |some i=>
   simp only[sliceBounds,HT.sIx,Option.getD_none,show(1:Int) > 0 by decide,if_true]
   by_cases h:i<0
   ·simp only[h,if_true]<;>omega
   ·simp only[h,if_false]<;>omega
theorem aiv(its:List Value)(lo hi:Option Int):slicePick its.toArray lo hi none=((its.drop (HT.sIx its.length 0 lo)).take (HT.sIx its.length its.length hi - HT.sIx its.length 0 lo)).toArray:=by
 obtain⟨h1,h2,h3⟩:=akz lo hi its.toArray.size;unfold slicePick;rw[h1,h2,h3];simp only[sliceRange_one,pick_run,Ao]<;>rfl
def a2y(K:Af):V->Option Int->Option Int->Hp->VK->Prop:=fun x lo hi H Q=>∃a xs,x=.ref a/\SqL K H a xs/\∀p,H p=none->Q (.ref p) (upd H p (.lst (am1 xs lo hi)))
theorem aut:SlR X (a2y X.K):=by
 intro pins s σ H x v vl vu lo hi sl Q I rx hs pl pu h;obtain⟨a,xs,rfl,hx,q⟩:=h;cases rx;obtain⟨its,r,ht,hz⟩:=I.list hx;have hlen:=r.length;refine⟨"list",_,slot_list_getitem.lookup,ht.isList.typeIs,?_⟩;refine wpAny_getItem_list_slice ht.isList hs pl pu .none (by simp) ?_ (by rw[Ao]<;>omega);rw[aiv,<-hlen];refine⟨.ref s.heap.objs.size,_,I.laid (t':=s.toks) (o:=.lst (am1 xs lo hi)) (fun b ob q=>Heap.get?_push_of_some _ q) (An _) ?_,rfl,q _ (I.hok.fresh (An _))⟩;exact⟨AW (afv xs lo hi) hz,_,0,(r.drop (HT.sIx xs.length 0 lo)).take (HT.sIx xs.length xs.length hi - HT.sIx xs.length 0 lo),Heap.get?_push_size _ rfl⟩
def aa6:V->Bool
 |.non=>true
 |.bl _=>true
 |.int _=>true
 |.str _=>true
 |_=>false
def eqV:V->V->Bool
 |.non,.non=>true
 |.bl a,.bl b=>a==b
 |.bl a,.int b=>(if a then 1 else 0)==b
 |.int a,.bl b=>a==(if b then 1 else 0)
 |.int a,.int b=>a==b
 |.str a,.str b=>a==b
 |_,_=>false
theorem ai5{A:Around}{s:Shared}{y x:V}{u v:Value}(ry:RelV y u)(rx:RelV x v)(fy:aa6 y=true)(fx:aa6 x=true):SeqAt.EqAt A s u v (eqV y x):=by
 cases y with
 |non=>
  cases ry;cases x with
  |non=>cases rx;exact SeqAt.EqAt.same _
  |bl b=>cases rx;exact SeqAt.EqAt.none_bool b
  |int b=>obtain⟨t,rfl⟩:=rx;exact SeqAt.EqAt.none_int b t
  |str b=>obtain⟨t,rfl⟩:=rx;exact SeqAt.EqAt.none_str b t
  |_=>exact absurd (show false=true from fx) AA
 |bl a=>
  cases ry;cases x with
  |non=>cases rx;exact SeqAt.EqAt.bool_none a
  |bl b=>cases rx;exact SeqAt.EqAt.bool_bool a b
  |int b=>obtain⟨t,rfl⟩:=rx;exact SeqAt.EqAt.bool_int a b t
  |str b=>obtain⟨t,rfl⟩:=rx;exact SeqAt.EqAt.bool_str a b t
  |_=>exact absurd (show false=true from fx) AA
 |int a=>
  obtain⟨t',rfl⟩:=ry;cases x with
  |non=>cases rx;exact SeqAt.EqAt.int_none a t'
  |bl b=>cases rx;exact SeqAt.EqAt.int_bool a t' b
  |int b=>obtain⟨t,rfl⟩:=rx;exact SeqAt.EqAt.int_int a t' b t
  |str b=>obtain⟨t,rfl⟩:=rx;exact SeqAt.EqAt.int_str a t' b t
  |_=>exact absurd (show false=true from fx) AA
 |str a=>
  obtain⟨t',rfl⟩:=ry;cases x with
  |non=>cases rx;exact SeqAt.EqAt.str_none a t'
  |bl b=>cases rx;exact SeqAt.EqAt.str_bool a t' b
  |int b=>obtain⟨t,rfl⟩:=rx;exact SeqAt.EqAt.str_int a t' b t
  |str b=>obtain⟨t,rfl⟩:=rx;exact SeqAt.EqAt.str_str a t' b t
  |_=>exact absurd (show false=true from fx) AA
 |_=>exact absurd (show false=true from fy) AA
def eqU(x:V)(u:Value):Bool:=match u with
 |.none=>eqV .non x
 |.bool b=>eqV (.bl b) x
 |.int i _=>eqV (.int i) x
 |.str z _=>eqV (.str z) x
 |_=>false
theorem au3{x y:V}{u:Value}(r:RelV y u)(f:aa6 y=true):eqU x u=eqV y x:=by
 cases y with
 |non=>cases r;rfl
 |bl b=>cases r;rfl
 |int i=>obtain⟨t,rfl⟩:=r;rfl
 |str z=>obtain⟨t,rfl⟩:=r;rfl
 |_=>exact absurd (show false=true from f) AA
theorem aee{x:V}:∀{xs:List V} {us:List Value},Vals xs us->xs.all aa6=true->us.any (eqU x)=xs.any fun y=>eqV y x
 |_,_,.nil,_=>rfl
 |y::xs,u::us,.cons r t,f=>by
  rw[DA,AX] at f;rw[B6,B6,au3 r f.1,aee t f.2]
theorem ac2{A:Around}{s:Shared}{x:V}{v:Value}(rx:RelV x v)(fx:aa6 x=true):∀{xs:List V} {us:List Value},Vals xs us->xs.all aa6=true->∀u∈us,SeqAt.EqAt A s u v (eqU x u)
 |_,_,.nil,_=>fun u hu=>by cases hu
 |y::xs,u::us,.cons r t,f=>fun u' hu=>by
  rw[DA,AX] at f;rcases As.mp hu with rfl | hu
  ·rw[au3 r f.1];exact ai5 r rx f.1 fx
  ·exact ac2 rx fx t f.2 u' hu
def inV(x:V)(xs:List V):Bool:=xs.any fun y=>eqV y x
def rIn(K:Af)(neg:Bool):R2:=fun x y H Q=>∃p xs,y=.ref p/\(SqL K H p xs\/SqT K H p xs)/\aa6 x=true/\xs.all aa6=true/\Q (.bl (if neg then !inV x xs else inV x xs)) H
theorem aq2:OpR X (compareOp .In) (rIn X.K false):=by
 intro pins s σ H x y v u Q I rx ry h;obtain⟨p,xs,rfl,hq,fx,fs,q⟩:=h;cases ry;rcases hq with hq | hq
 ·obtain⟨its,r,pl,hz⟩:=I.list hq;refine SeqAt.in_listAt (eqU x) pl.isList (fun w hw=>ac2 rx fx r fs w (by simpa using hw)) ⟨.bl _,H,I,rfl,?_⟩;rw[show its.toArray.any (eqU x)=its.any (eqU x) by simp,aee r fs];exact q
 ·obtain⟨its,r,pl,hz⟩:=I.tuple hq;refine SeqAt.in_tupleAt (eqU x) pl (fun w hw=>ac2 rx fx r fs w (by simpa using hw)) ⟨.bl _,H,I,rfl,?_⟩;rw[show its.toArray.any (eqU x)=its.any (eqU x) by simp,aee r fs];exact q
theorem akv:OpR X (compareOp .NotIn) (rIn X.K true):=by
 intro pins s σ H x y v u Q I rx ry h;obtain⟨p,xs,rfl,hq,fx,fs,q⟩:=h;cases ry;rcases hq with hq | hq
 ·obtain⟨its,r,pl,hz⟩:=I.list hq;refine SeqAt.notIn_listAt (eqU x) pl.isList (fun w hw=>ac2 rx fx r fs w (by simpa using hw)) ⟨.bl _,H,I,rfl,?_⟩;rw[show its.toArray.any (eqU x)=its.any (eqU x) by simp,aee r fs];exact q
 ·obtain⟨its,r,pl,hz⟩:=I.tuple hq;refine SeqAt.notIn_tupleAt (eqU x) pl (fun w hw=>ac2 rx fx r fs w (by simpa using hw)) ⟨.bl _,H,I,rfl,?_⟩;rw[show its.toArray.any (eqU x)=its.any (eqU x) by simp,aee r fs];exact q
theorem ak0:CallR X (.builtin "len") (fun xs H Q=>∃p ys,xs=[.ref p]/\(SqL X.K H p ys\/SqT X.K H p ys)/\Q (.int ys.length) H):=by
 intro pins s σ H xs us Q I r h;obtain⟨p,ys,rfl,hq,q⟩:=h;obtain⟨u,rfl,rx⟩:=apx r;cases rx;have hn:=afa;rcases hq with hq | hq
 ·obtain⟨its,r',pl,hz⟩:=I.list hq;have hlen:=r'.length;exact Calls.call_len_list pl.isList (by simp only[Ao]<;>omega) ⟨.int ys.length,H,I.tok _,⟨s.toks+1,by rw[Ao,hlen]⟩,q⟩
 ·obtain⟨its,r',pl,hz⟩:=I.tuple hq;have hlen:=r'.length;exact len_tuple pl (by simp only[Ao]<;>omega) ⟨.int ys.length,H,I.tok _,⟨s.toks+1,by rw[Ao,hlen]⟩,q⟩
theorem akm:CallR X (.builtin "len") (fun xs H Q=>∃z,xs=[.str z]/\z.length≤sizeLine/\Q (.int z.length) H):=by
 intro pins s σ H xs us Q I r h;obtain⟨z,rfl,hz,q⟩:=h;obtain⟨u,rfl,t,rfl⟩:=apx r;have hn:=afa;exact len_str (by omega) ⟨.int z.length,H,I.tok _,⟨_,rfl⟩,q⟩
theorem aky:CallR X (.type "list") (fun xs H Q=>∃p ys,xs=[.ref p]/\(SqL X.K H p ys\/SqT X.K H p ys)/\∀l,H l=none->Q (.ref l) (upd H l (.lst ys))):=by
 intro pins s σ H xs us Q I r h;obtain⟨p,ys,rfl,hq,q⟩:=h;obtain⟨u,rfl,rx⟩:=apx r;cases rx;have fin:∀(its:List Value),Vals ys its->ys.length≤sizeLine->∀(h':Heap) (c':Nat),(∀b o',s.heap.get? b=some o'->h'.get? b=some o')->
  h'.get? s.heap.objs.size=some { cls:=.type "list",dict:=none,data:=.seq its.toArray c',slots:=#[] }->EP X pins σ Q (.ref s.heap.objs.size) { s with heap:=h' }:=fun its r' hz h' c' kp e=>
  ⟨.ref s.heap.objs.size,_,I.laid (t':=s.toks) kp (An _) (show ObjOk X.prog X.w _ h' _ (.lst ys) from⟨hz,its,c',r',e⟩),rfl,q _ (I.hok.fresh (An _))⟩
 rcases hq with hq | hq
 ·obtain⟨its,r',pl,hz⟩:=I.list hq;have hlen:=r'.length;obtain⟨o,ho,hc,n,hd⟩:=pl.isList;exact call_list_seq p (.inl rfl) ho hc hd (fun h' c' kp e=>fin its r' hz h' c' kp e) (by simp only[Ao]<;>omega)
 ·obtain⟨its,r',pl,hz⟩:=I.tuple hq;have hlen:=r'.length;obtain⟨o,ho,hc,n,hd⟩:=pl;exact call_list_seq p (.inr rfl) ho hc hd (fun h' c' kp e=>fin its r' hz h' c' kp e) (by simp only[Ao]<;>omega)
def tyV(K:Af)(T:String)(x:V)(H:Hp):Prop:=match x with
 |.str _=>T = "str"
 |.int _=>T = "int"
 |.ref p=>(T = "list" /\ ∃xs,SqL K H p xs)\/(T = "tuple" /\ ∃o,K.lookup p=some o/\o.cls=.type "tuple" /\ o.dict=none)\/
  (T = "dict" /\ ((∃kvs,H p=some (.dK kvs))\/∃kvs,H p=some (.dT kvs)))\/(T = "set" /\ ∃S n,H p=some (.set S n))
 |_=>False
theorem asr{pins:List (Addr×Obj)}{σ:St}{H:Hp}{s:Shared}{T:String}{x:V}{v:Value}(I:Inv X pins σ H s)(r:RelV x v)(ty:tyV X.K T x H):
 s.TypeIs v T/\∀a,v=.ref a->∃ob,s.heap.get? a=some ob/\ob.dict=none:=by
 cases x with
 |str z=>
  obtain⟨t,rfl⟩:=r;cases (show T = "str" from ty);exact⟨typeIs_str s z t,fun _ e=>nomatch e⟩
 |int i=>
  obtain⟨t,rfl⟩:=r;cases (show T = "int" from ty);exact⟨typeIs_int s i t,fun _ e=>nomatch e⟩
 |ref p=>
  cases r;rcases ty with⟨rfl,xs,hq⟩ | ⟨rfl,o,hk,hc,hd⟩ | ⟨rfl,hk⟩ | ⟨rfl,S,n,hk⟩
  ·obtain⟨its,_,pl,_⟩:=I.list hq;refine⟨pl.isList.typeIs,fun a e=>?_⟩;cases e;obtain⟨o,n,e,c,hd,_⟩:=pl;exact⟨o,e,hd⟩
  ·refine⟨⟨o,I.kIn p o hk,hc⟩,fun a e=>?_⟩;cases e;exact⟨o,I.kIn _ o hk,hd⟩
  ·have z:∃o,s.heap.get? p=some o/\o.ExactDict:=by
    rcases hk with⟨kvs,hk⟩ | ⟨kvs,hk⟩
    ·obtain⟨_,_,_,_,o,_,_,e,ex,_⟩:=I.hok p _ hk;exact⟨o,e,ex⟩
    ·obtain⟨_,_,_,_,o,_,_,e,ex,_⟩:=I.hok p _ hk;exact⟨o,e,ex⟩
   obtain⟨o,e,ex⟩:=z;refine⟨⟨o,e,ex.1⟩,fun a e2=>?_⟩;cases e2;exact⟨o,e,ex.2.1⟩
  ·obtain⟨o,_,_,_,e,ex,_⟩:=I.hok p _ hk;refine⟨⟨o,e,ex.1⟩,fun a e2=>?_⟩;cases e2;exact⟨o,e,ex.2.1⟩
 |_=>exact False.elim ty
def a3b(K:Af)(T:String)(r:V->List V->Hp->VK->Prop)(to:TE):TE:=fun σ H Q=>to σ H fun x H1=>tyV K T x H1/\r x [] H1 Q
def tBM(K:Af)(T:String)(r:V->List V->Hp->VK->Prop)(to:TE)(t:TA):TE:=fun σ H Q=>to σ H fun x H1=>tyV K T x H1/\t σ H1 fun xs H2=>r x xs H2 Q
variable {o e:Expr}{es:List Expr}{to:TE}{t:TA}{name:Str}{apos cpos:Pos}{T id:String}{r:V->List V->Hp->VK->Prop}
theorem azi(pa:PlainAttrs T)(slot:Slot T name id)(hty:typeOf (.builtin id)=pure (.type "method_descriptor"))(hm:MtR X id r)(ho:PE X o to)
 (hbase:attributeBase o name X.env (eval o X.env)=eval o X.env:=by rfl) (hline:(apos.endLine==cpos.line)=true:=by rfl):PE X (.Call (.Attribute o name apos) [] [] cpos) (a3b X.K T r to):=by
 intro pins s σ H Q I h;refine wpAny_Call_method0_late hbase hline (thn (ho pins s σ H _ I h) fun v s1 ⟨x,H1,I1,r1,ty,q1⟩=>?_);obtain⟨h1,h2⟩:=asr I1 r1 ty;exact⟨T,id,pa,slot,hty,h1,h2,Calls.callWith_builtin rfl (PySem.evalArgs_none (hm pins s1 σ H1 x [] v [] Q I1 r1 .nil q1))⟩
theorem axl(pa:PlainAttrs T)(slot:Slot T name id)(hty:typeOf (.builtin id)=pure (.type "method_descriptor"))(hm:MtR X id r)(ho:PE X o to)(ha:PA X (e::es) t)
 (hbase:attributeBase o name X.env (eval o X.env)=eval o X.env:=by rfl)
 (hfew:((backTo cpos (starEach (e::es) X.env)).all (fun x=>!x.1)&&(backToKw cpos (keywordEach [] X.env)).all (fun x=>x.1.isSome)
  && decide ((e::es).length+([]:List Keyword).length+(if ([]:List Keyword).isEmpty then 0 else 1)<30))=true:=by rfl)
 (hline:(apos.endLine==cpos.line)=true:=by rfl) (hs:starEach (e::es) X.env=(false,eval e X.env)::starEach es X.env:=by rfl) (hplain:(backTo cpos (starEach es X.env)).any (·.1)=false:=by rfl):
 PE X (.Call (.Attribute o name apos) (e::es) [] cpos) (tBM X.K T r to t):=by
 intro pins s σ H Q I h;refine wpAny_Call_method_late hbase hfew hline rfl (thn (ho pins s σ H _ I h) fun v s1 ⟨x,H1,I1,r1,ty,q1⟩=>?_);obtain⟨h1,h2⟩:=asr I1 r1 ty;refine⟨T,id,pa,slot,hty,h1,h2,?_⟩;have hA:=ha cpos pins s1 σ H1 _ I1 q1;rw[hs] at hA ⊢;refine Calls.callWith_builtin (by show(false||(backTo cpos (starEach es X.env)).any (·.1))=false;rw[hplain]<;>rfl) (Calls.evalArgs_plain ?_);exact thn hA fun us s2 ⟨vs,H2,I2,r2,q2⟩=>hm pins s2 σ H2 x vs v us Q I2 r1 r2 q2
end
def MtM(X:Cx)(id:String)(r:V->List V->Hp->VK->Prop):Prop:=
 ∀(pins:List (Addr×Obj)) (s:Shared) (σ:St) (H:Hp) (x:V) (xs:List V) (v:Value) (us:List Value) (Q:VK),Inv X pins σ H s->RelV x v->Vals xs us->r x xs H Q->
  wpAny (model X.prog X.w) X.A (call (.builtin id) (v::us)) (EP X pins σ Q) X.xe s
theorem Vals.one:∀{x:V} {us:List Value},Vals [x] us->∃u,us=[u]/\RelV x u
 |_,_,.cons r .nil=>⟨_,rfl,r⟩
theorem Vals.two:∀{x y:V} {us:List Value},Vals [x,y] us->∃u v,us=[u,v]/\RelV x u/\RelV y v
 |_,_,_,.cons r (.cons q .nil)=>⟨_,_,rfl,r,q⟩
theorem Vals.zero:∀{us:List Value},Vals [] us->us=[]
 |_,.nil=>rfl
theorem Vals.dropLast{xs:List V}{us:List Value}(h:Vals xs us):Vals xs.dropLast us.dropLast:=by
 induction h with
 |nil=>exact .nil
 |cons r t ih=>
  cases t with
  |nil=>exact .nil
  |cons q t'=>exact .cons r ih
theorem Vals.eraseIdx:∀{xs:List V} {us:List Value} (i:Nat),Vals xs us->Vals (xs.eraseIdx i) (us.eraseIdx i)
 |_,_,_,.nil=>.nil
 |_,_,0,.cons _ t=>t
 |_,_,i+1,.cons r t=>.cons r (Vals.eraseIdx i t)
theorem aok{α:Type}(l:List α):l.eraseIdx (l.length - 1)=l.dropLast:=by
 induction l with
 |nil=>rfl
 |cons a r ih=>
  cases r with
  |nil=>rfl
  |cons b r=>
   have e:(a::b::r).length - 1=((b::r).length - 1)+1:=by
    have h1:(a::b::r).length=r.length+2:=rfl;have h2:(b::r).length=r.length+1:=rfl;omega
   rw[e,Cb,ih]
   all_goals rfl
theorem ajm{α:Type}:∀(l:List α) (i:Nat),(l.eraseIdx i).length≤l.length
 |[],_=>An _
 |_::_,0=>Cs _
 |_::r,i+1=>Nat.succ_le_succ (ajm r i)
section
variable {X:Cx}{pins:List (Addr×Obj)}{σ:St}{H:Hp}{s:Shared}{l b:Addr}{xs ys zs:List V}
theorem Inv.lset{its its':List Value}{n:Nat}{f:Array Value->Array Value}{t':Nat}(I:Inv X pins σ H s)(hH:H l=some (.lst xs))
 (e:s.heap.get? l=some { cls:=.type "list",data:=.seq its.toArray n }) (hf:f its.toArray=its'.toArray) (hv:Vals ys its') (hz:ys.length≤sizeLine) (ht:0<t':=by (first | assumption | exact Bj _ | exact Inv.tk (by assumption) | exact Ak (Inv.tk (by assumption)) (A2 _ _) | exact Ak (Inv.tk (by assumption)) (by assumption))):
 Inv X pins σ (upd H l (.lst ys)) { s with heap:=s.heap.update l (Obj.mapSeq f),toks:=t' }:=by
 have q:=PySem.IsL.update e f;rw[hf] at q;refine I.write (x:=l) (e:=l) (by rw[hH];exact trivial) (.inl rfl) (fun b' u hb hu=>(Heap.get?_update_other s.heap (Obj.mapSeq f) (AK hb)).trans hu) ⟨_,q⟩ ?_;exact⟨hz,its',_,hv,q⟩
theorem Inv.lnew{its:List Value}{t':Nat}(I:Inv X pins σ H s)(hv:Vals ys its)(hz:ys.length≤sizeLine)(ht:0<t':=by (first | assumption | exact Bj _ | exact Inv.tk (by assumption) | exact Ak (Inv.tk (by assumption)) (A2 _ _) | exact Ak (Inv.tk (by assumption)) (by assumption))):
 Inv X pins σ (upd H s.heap.objs.size (.lst ys)) { s with heap:=s.heap.push { cls:=.type "list",data:=.seq its.toArray },toks:=t' }:=
 I.laid (fun _ _ q=>Heap.get?_push_of_some _ q) (An _) ⟨hz,its,0,hv,Heap.get?_push_size _ rfl⟩
theorem Inv.fresh(I:Inv X pins σ H s):H s.heap.objs.size=none:=I.hok.fresh (An _)
theorem Inv.lstM(I:Inv X pins σ H s)(hH:H l=some (.lst xs)):xs.length≤sizeLine/\∃(its:List Value) (n:Nat),Vals xs its/\xs.length=its.length/\s.heap.get? l=some { cls:=.type "list",data:=.seq its.toArray n }:=by
 obtain⟨z,its,n,r,e⟩:=I.hok l _ hH;exact⟨z,its,n,r,r.length,e⟩
theorem au4{n:Nat}(h:n≤sizeLine):Builtin.List.listTooLong n=false:=by
 unfold Builtin.List.listTooLong;exact Aq (by omega)
end
section
variable {X:Cx}
def avq:V->List V->Hp->VK->Prop:=fun x vs H Q=>∃l xs y,x=.ref l/\vs=[y]/\H l=some (.lst xs)/\xs.length<sizeLine/\Q .non (upd H l (.lst (xs++[y])))
theorem ar7:MtM X "list.append" avq:=by
 intro pins s σ H x vs v us Q I rx rv h;obtain⟨l,xs,y,rfl,rfl,hH,hz,q⟩:=h;cases rx;obtain⟨u,rfl,ru⟩:=rv.one;obtain⟨z,its,n,r,hl,e⟩:=I.lstM hH;refine call_meets F.slot_list_append ⟨_,e,rfl⟩ F.entry_list_append (F.args_list_append_2 _ _) (PySem.list_append l its.toArray n u (by rw[Ao];omega)) ⟨e,?_⟩;refine⟨.non,_,I.lset (its':=its++[u]) hH e (by simp) (r.append (.cons ru .nil)) ?_,rfl,q⟩;rw[Ad,BL];omega
def av0:V->List V->Hp->VK->Prop:=fun x vs H Q=>∃l b xs zs,x=.ref l/\vs=[.ref b]/\H l=some (.lst xs)/\H b=some (.lst zs)/\xs.length+zs.length≤sizeLine/\Q .non (upd H l (.lst (xs++zs)))
theorem aqk:MtM X "list.extend" av0:=by
 intro pins s σ H x vs v us Q I rx rv h;obtain⟨l,b,xs,zs,rfl,rfl,hH,hB,hz,q⟩:=h;cases rx;obtain⟨u,rfl,ru⟩:=rv.one;cases ru;obtain⟨z,its,n,r,hl,e⟩:=I.lstM hH;obtain⟨z2,its2,n2,r2,hl2,e2⟩:=I.lstM hB;have hsz:its.toArray.size+its2.toArray.size≤sizeLine:=by rw[Ao,Ao];omega
 have hlong:¬(!its.toArray.isEmpty&&Builtin.List.listTooLong (its.toArray.size+its2.toArray.size))=true:=by
  rw[au4 hsz,CO];exact AA
 refine call_meets F.slot_list_extend ⟨_,e,rfl⟩ F.entry_list_extend (F.args_list_extend_2 _ _)
  (AutoSeq1.list_extend_list_list_0 l its.toArray n b its2.toArray n2 hlong (by rw[Ao];omega) (by omega)) ⟨e,e2,?_⟩
 refine⟨.non,_,I.lset (its':=its++its2) hH e (by simp) (r.append r2) ?_,rfl,q⟩;rw[Ad];omega
def a2z:V->List V->Hp->VK->Prop:=fun x vs H Q=>∃l xs y,x=.ref l/\vs=[]/\H l=some (.lst xs)/\xs[xs.length - 1]?=some y/\Q y (upd H l (.lst xs.dropLast))
theorem azq:MtM X "list.pop" a2z:=by
 intro pins s σ H x vs v us Q I rx rv h;obtain⟨l,xs,y,rfl,rfl,hH,hy,q⟩:=h;cases rx;have hus:=rv.zero;subst hus;obtain⟨z,its,n,r,hl,e⟩:=I.lstM hH;obtain⟨u,hu,ru⟩:=r.get hy;have hy':its.toArray[its.toArray.size - 1]?=some u:=by
  show its.toArray[its.length - 1]?=some u;rw[<-AY,<-hl];exact hu
 refine call_meets F.slot_list_pop ⟨_,e,rfl⟩ F.entry_list_pop (F.args_list_pop_1 _) (MeetsSeq.list_pop_last l its.toArray n u hy' (by rw[Ao];omega)) ⟨e,?_⟩;refine⟨y,_,I.lset (its':=its.dropLast) hH e ?_ r.dropLast ?_,ru,q⟩
 ·show its.toArray.eraseIdxIfInBounds (its.toArray.size - 1)=its.dropLast.toArray;rw[Ao,CV,aok]
 ·rw[List.length_dropLast];omega
def ay5:V->List V->Hp->VK->Prop:=fun x vs H Q=>∃l xs i k y,x=.ref l/\vs=[.int i]/\H l=some (.lst xs) /\ -(2 ^ 63)≤i/\i<2 ^ 63/\seqIndex? i xs.length=some k/\xs[k]?=some y/\Q y (upd H l (.lst (xs.eraseIdx k)))
theorem ass:MtM X "list.pop" ay5:=by
 intro pins s σ H x vs v us Q I rx rv h;obtain⟨l,xs,i,k,y,rfl,rfl,hH,h1,h2,hk,hy,q⟩:=h;cases rx;obtain⟨u,rfl,ru⟩:=rv.one;obtain⟨t,rfl⟩:=ru;obtain⟨z,its,n,r,hl,e⟩:=I.lstM hH;obtain⟨w,hw,rw'⟩:=r.get hy;refine call_meets F.slot_list_pop ⟨_,e,rfl⟩ F.entry_list_pop (F.args_list_pop_2 _ _)
  (MeetsSeq.list_pop_at l its.toArray n i t k w (fitsIndex_both h1 h2) (by rw[Ao,<-hl];exact hk) (by rw[<-AY];exact hw) (by rw[Ao];omega)) ⟨e,?_⟩
 refine⟨y,_,I.lset (its':=its.eraseIdx k) hH e ?_ (r.eraseIdx k) ?_,rw',q⟩
 ·show its.toArray.eraseIdxIfInBounds k=(its.eraseIdx k).toArray;rw[CV]
 ·have:=ajm xs k;omega
def a2j:R2:=fun x y H Q=>∃l b xs zs,x=.ref l/\y=.ref b/\H l=some (.lst xs)/\H b=some (.lst zs)/\xs.length+zs.length≤sizeLine/\∀p,H p=none->Q (.ref p) (upd H p (.lst (xs++zs)))
theorem azm:OpR X (binaryOp .Add) a2j:=by
 intro pins s σ H x y v u Q I rx ry h;obtain⟨l,b,xs,zs,rfl,rfl,hH,hB,hz,q⟩:=h;cases rx;cases ry;obtain⟨z,its,n,r,hl,e⟩:=I.lstM hH;obtain⟨z2,its2,n2,r2,hl2,e2⟩:=I.lstM hB;refine PySem.P.add_list e e2 ?_ (by rw[Ao,Ao];omega);have ea:its.toArray++its2.toArray=(its++its2).toArray:=by simp
 rw[ea];exact⟨.ref _,_,I.lnew (t':=s.toks) (r.append r2) (by rw[Ad];omega),rfl,q _ I.fresh⟩
end
section
variable {prog:Program}{w:World}{A:Around}{E:Value->Shared->Prop}{s:Shared}
set_option maxRecDepth 100000 in
end
section
variable {X:Cx}
end
end L2
namespace Att
open PySem PySem.W PySem.Calls PyProof.Rows
theorem agb{P:Params}{h:Heap}:∀(ns:List Int) (vs:List Value),WellAll P h vs (ns.map WData.int)->IntsAre vs ns:=by
 intro ns
 induction ns with
 |nil=>
  intro vs w;rw[CN] at w;cases w;exact .nil
 |cons n ns ih=>
  intro vs w;rw[AE] at w;cases w with
  |cons a b=>
   cases a;exact .cons _ _ (ih _ b)
theorem ara{l:OpenLaw}{n:Nat}(hn:l.most=some n){P:Params}{h:Heap}{args:List WData}{vals:List Value}
 (hpre:l.row.toRowW.claim.pre args=true) (hwl:WellAll P h vals args):
 ∃a vs ns,vals=[Value.ref a]/\args=[WData.list (ns.map WData.int)]/\h.get? a=some { cls:=.type "list",data:=.seq vs.toArray }/\IntsAre vs ns/\ns.length≤n:=by
 have hsh:WShape.hasAll [] args [.list .int]=true:=(pre_splitW hpre).1;have hc:l.pre.holds [] { args:=args }=true:=(pre_splitW hpre).2;obtain⟨d,r,rfl,h1,h2⟩:=hasAllW_cons hsh;obtain rfl:=hasAllW_nil h2;obtain⟨xs,rfl,h3⟩:=hasW_list h1;obtain⟨ns,rfl⟩:=items_int h3;have hlen:ns.length≤n:=by
  unfold OpenLaw.pre at hc;have h4:(WTm.not (.lt (.lit (.int (n:Int))) (.len (.arg 0)))).holds [] { args:=[.list (ns.map .int)] }=true:=by
   have h4:=(holds_andW hc).1;rw[hn] at h4;exact h4
  have h5:=condW_of h4 (w_not (w_lt w_lit (w_len_list (w_arg rfl))));rw[Ae] at h5;refine Nat.le_of_not_lt fun q=>?_;have q':(n:Int)<((ns.length:Nat):Int):=by omega
  first
   |(rw[AD q'] at h5;exact absurd h5 (by decide))
   |(simp at h5;omega)
 cases hwl with
 |cons w1 w2=>
  cases w2;cases w1 with
  |list ho hall=>exact⟨_,_,ns,rfl,rfl,ho,agb ns _ hall,hlen⟩
theorem aqz(l:OpenLaw)(args:List WData):l.row.toRowW.claim.post args (.bool true) args=true:=
 postW_of (r:=l.row.toRowW) (X:=(true==true))
  (show WShape.has [] (.bool true) .bool=true by first | rfl | decide | simp[WShape.has,WShape.arms,WShape.armsAll])
  (show(WTm.eq .res (.lit (.bool true))).value [] { args:=args,res:=some (.bool true),after:=args }=some (.bool (true==true)) from w_eq_bool (w_res rfl) w_lit) rfl
theorem attach_callZ{l:OpenLaw}{n:Nat}{q:Program}{loose:List Str}{XP:(Str->Option Value)->Heap->Prop}{as0:List Addr}{N t:Nat}{K:Params->Frag}{d:DefRec}
 (hn:l.most=some n) (hdf:d.params.defaults=[]) (ek:∀P,as0=(K P).map (·.1)) (htk:0<t)
 (call:∀(w:World) (s₀ s₁:Shared) (mg mb:Str->Option Value) (fa:Addr) (o:Obj) (pm cd doc:Value) (a:Addr) (vs:List Value) (ns:List Int),
  Ground q loose [] XP w s₀ mg mb s₁.heap->(K w.params).In s₁.heap->0<s₁.toks->
  s₁.heap.get? fa=some o->o.data=.func (docDef d.name d.params d.body d.scope pm cd doc)->s₁.heap.CodeRec cd d.name->mg d.name=some (.ref fa)->
  s₁.heap.get? a=some { cls:=.type "list",data:=.seq vs.toArray }->IntsAre vs ns->ns.length≤n->s₁.gens=#[]->
  codeAny (model l.prog w) callerA (.call (.ref fa) ⟨[.ref a],[]⟩) (fun r s'=>r=.ok (.ret (.bool true))/\OldK s₁.heap s'.heap/\s'.os=s₁.os/\AllBare s'.gens) s₁):
 WalkX q loose XP (X.obsZ as0) (X.valZ K N t) l.row.toRowW d [] (fun f vs=>PySem.call f vs):=by
 intro w s₀ s₁ mg mb G Y fa o pm cd doc dV kV ho hd hcd hD hmg hg args vals as L hpre hlay hrd hwl hlo;obtain rfl:dV=.none:=Dflts.none hD hdf;obtain rfl:kV=.none:=Dflts.noKw hD;obtain⟨a,vs,ns,rfl,rfl,hobj,hints,hlen⟩:=ara hn hpre hwl;obtain⟨_,zi,_,zt⟩:=X.z_facts ek Y;have eP:∀ns:List Int,ofPy (PyData.list (ns.map PyData.int))=WData.list (ns.map WData.int):=fun ns=>by
  simp only[ofPy];congr 1
  induction ns with
  |nil=>simp[ofPys]
  |cons n r ih=>simp only[AE,ofPys,ofPy,ih]
 rw[<-eP] at L;have KX:=InK.keeps w s₀.heap s₁.heap zi L.keeps;have tk1:0<s₁.toks:=Ak htk (X.script_toks L zt);refine enter_call (codeAny_mono (call w s₀ s₁ mg mb fa o pm cd doc a vs ns G KX tk1 ho (fd_plain hd) hcd hmg hobj hints hlen hg) fun r s' hq=>?_);obtain⟨rfl,h2,h3,h4⟩:=hq;exact⟨.inl ⟨.bool true,.bool true,[],rfl,fun _=>rfl,.bool true,aqz l _,fun _=>⟨List.Pairwise.nil,fun _ hm=>(nomatch hm)⟩⟩,h2,h3,h4⟩
section
variable {prog:Program}{w:World}{A:Around}{E:Value->Shared->Prop}{s:Shared}{K:Frag}
end
end Att
namespace L2
open PySem PySem.Spec PyProof.Rows
theorem ajb:∀{vs:List Value} {ns:List Int},IntsAre vs ns->Vals (ns.map V.int) vs
 |_,_,.nil=>.nil
 |_,_,.cons n t h=>.cons ⟨t,rfl⟩ (ajb h)
def vc(s:Stmt):Arguments:=match s with
 |.FunctionDef _ a _ _ _ _ _ _ _ _=>a
 |_=>{ posonlyargs:=[],args:=[],vararg:=none,kwonlyargs:=[],kw_defaults:=[],kwarg:=none,defaults:=[] }
def qw(s:Stmt):List Stmt:=match s with
 |.FunctionDef _ _ b _ _ _ _ _ _ _=>b
 |_=>[]
def qg(s:Stmt):Scope:=match s with
 |.FunctionDef _ _ _ _ _ _ sc _ _ _=>sc
 |_=>{ kind:=.function,names:=[],isGenerator:=false,isCoroutine:=false }
abbrev CX0:CXT:=fun _ _ _ _ _ _=>False
abbrev E0:XK:=fun _ _ _=>False
theorem a1l{X:Cx}:ao2 CX0 X E0:=fun _ _ _ _ _ _ _ h=>h.elim
structure Fun(K:Af)(x qual:Str)(st:Stmt)(f:Addr)(fd:FuncData):Prop where
 ex:∃(oc:Value) (od:Option Addr) (kV doc pm:Value) (an:Option Addr) (cdv ct:Value) (osl:Array (Option Value)),
  fd=PySem.W.fnOf x qual (vc st) (qw st) (qg st) .none kV doc pm an cdv ct/\K.lookup f=some ⟨oc,od,.func fd,osl⟩/\PySem.W.codeIn K cdv qual=true
 kp:PySem.W.keepIn K (.ref f)=true
section
variable {P:Program}{w:World}{K:Af}{mg:Str->Option Value}{base:Heap}
theorem Fun.ok{x qual:Str}{st:Stmt}{f:Addr}{fd:FuncData}{N ps:List Str}{k:Nat}{sp:Sp}(F:Fun K x qual st f fd)(S:FnScope N ps (qg st))(len:∀vs H Q E,sp vs H Q E->vs.length=ps.length)
 (hbody:∀(cdv:Value) (A:Around) (outer:List Env) (s:Shared) (H:Hp) (vs:List V) (Q:VK) (E:XK),Room k (A.deeper (envOfC qual (qg st) s.heap.objs.size f cdv))->sp vs H Q E->
  ∃t,PSs (xx CX0 P w K mg base N qual (qg st) f cdv A outer s H E).nox (qw st) t/\t { nx:=fun _ H'=>Q .non H',rt:=Q } (start N vs) H):FnOk P w K mg base CX0 (k+1) f fd ps sp:=by
 obtain⟨oc,od,kV,doc,pm,an,cdv,ct,osl,rfl,lk,hcd⟩:=F.ex;refine axv lk hcd S len fun A outer s H vs Q E hr hsp=>?_;obtain⟨t,h,q⟩:=hbody cdv A outer s H vs Q E hr hsp;exact⟨t,h.nox,q⟩
theorem ayy{x qual:Str}{st:Stmt}{f:Addr}{oc:Value}{od an:Option Addr}{osl:Array (Option Value)}{kV doc pm cdv ct:Value}(l:K.lookup f=some ⟨oc,od,.func (PySem.W.fnOf x qual (vc st) (qw st) (qg st) .none kV doc pm an cdv ct),osl⟩)
 (c:PySem.W.codeIn K cdv qual=true) (k:PySem.W.keepIn K (.ref f)=true):Fun K x qual st f (PySem.W.fnOf x qual (vc st) (qw st) (qg st) .none kV doc pm an cdv ct):=⟨⟨oc,od,kV,doc,pm,an,cdv,ct,osl,rfl,l,c⟩,k⟩
end
theorem ajk{n:Nat}(h:n≤1000):n<sizeLine:=BM h (by decide)
section
variable {X:Cx}
theorem pv(i:Nat){x:Str}{pos:Pos}(hN:X.N[i]?=some x:=by rfl)(hv:Vis X.env.scope x:=by first | exact Or.inl rfl | exact Or.inr (Or.inl rfl) | exact Or.inr (Or.inr rfl))(hd:(x==("__debug__" : Str))=false:=by decide)
 (hcd:(x==("__classdict__" : Str))=false:=by decide):PE X (.Name x pos) (ay9 i):=aze hN hv hd hcd
end
section
variable {κ:Type} [DecidableEq κ]
end
end L2
set_option maxHeartbeats 8000000
namespace L2
open PySem PySem.Spec PyProof.Rows
section
variable {X:Cx}
def a2b:R2:=fun x y H Q=>match x,y with
 |.int i,.int j=>Q (.int (i+j)) H
 |.str a,.str b=>a.length+b.length≤sizeLine/\Q (.str (a++b)) H
 |.ref l,.ref b=>∃xs zs,H l=some (.lst xs)/\H b=some (.lst zs)/\xs.length+zs.length≤sizeLine/\∀p,H p=none->Q (.ref p) (upd H p (.lst (xs++zs)))
 |_,_=>False
theorem avj:OpR X (binaryOp .Add) a2b:=by
 intro pins s σ H x y v u Q I rx ry h;cases x<;>cases y<;>first
  |exact False.elim h
  |exact ayc pins s σ H _ _ v u Q I rx ry ⟨_,_,rfl,rfl,h⟩
  |exact aoe pins s σ H _ _ v u Q I rx ry ⟨_,_,rfl,rfl,h.1,h.2⟩
  |(obtain⟨xs,zs,h1,h2,h3,h4⟩:=h;exact azm pins s σ H _ _ v u Q I rx ry ⟨_,_,xs,zs,rfl,rfl,h1,h2,h3,h4⟩)
def KD(K:Af)(P:Program)(w:World)(a:Addr)(kvs:List (Key×V)):Prop:=
 (a==sysModules)=false/\kvs.length≤sizeLine/\∀h:Heap,K.In h->∃vs,KV kvs vs/\h.DictOf (jv P w) a vs
def uIx(K:Af)(P:Program)(w:World):R2:=fun x y H Q=>match x,y with
 |.str z,.int i=>z.length≤sizeLine/\∃c,atI z.cps.toList i=some c/\Q (.str ⟨#[c]⟩) H
 |.ref p,.int i=>∃xs v,(SqL K H p xs\/SqT K H p xs)/\atI xs i=some v/\Q v H
 |.ref p,.str k=>∃kvs v,(Rd H p (.dK kvs)\/KD K P w p kvs)/\adk kvs (Sum.inr k)=some v/\Q v H
 |_,_=>False
theorem auc{value slice:Expr}{pins:List (Addr×Obj)}{s:Shared}{σ:St}{H:Hp}{a:Addr}{u:Value}{vs:List (Key×Value)}{k:Key}{w':Value}{v:V}{Q:VK}(I:Inv X pins σ H s)(dd:s.heap.DictOf (jv X.prog X.w) a vs)(hk:ahj k u=true)
 (hw:valueAt vs k=some w') (r:RelV v w') (q:Q v H) (hs:subscripted slice false (.ref a) u=operate [.ref a,u] (getItem (.ref a) u)):wpAny (model X.prog X.w) X.A (subscriptTail value slice (.ref a) u) (EP X pins σ Q) X.xe s:=
 tail_any dd.typeIs Dt.lookup (wpAny_getItem_of hk dd.mapOf hw ⟨v,H,I.tok _,r,q⟩) hs
theorem a3d:IxR X (uIx X.K X.prog X.w):=by
 intro value slice pins s σ H x y v u Q I rx ry q hs;cases x with
 |str z=>
  cases y with
  |int i=>
   obtain⟨h1,c,h2,h3⟩:=q;exact a05 value slice pins s σ H _ _ v u Q I rx ry ⟨z,i,c,rfl,rfl,h1,h2,h3⟩ hs
  |_=>exact q.elim
 |ref p=>
  cases y with
  |int i=>
   obtain⟨xs,w',h1,h2,h3⟩:=q;rcases h1 with h1 | h1
   ·exact avd value slice pins s σ H _ _ v u Q I rx ry ⟨p,xs,i,w',rfl,rfl,h1,h2,h3⟩ hs
   ·exact azg value slice pins s σ H _ _ v u Q I rx ry ⟨p,xs,i,w',rfl,rfl,h1,h2,h3⟩ hs
  |str k=>
   obtain⟨kvs,w',h1,h2,h3⟩:=q;have ry':RelV (kV (Sum.inr k)) u:=ry;cases (show v=Value.ref p from rx);rcases h1 with h1 | h1
   ·obtain⟨z,hd,vs,rel,dd⟩:=apf I.hok h1;obtain⟨w2,hw,rw'⟩:=RelO.some_of (v:=w') (o:=valueAt vs (Sum.inr k)) (by rw[<-h2];exact rel.val _);exact auc I dd (aj9 (P:=X.prog) (w:=X.w) ry') hw rw' h3 hs
   ·obtain⟨hd,z,dd⟩:=h1;obtain⟨vs,rel,dd⟩:=dd s.heap I.kIn;obtain⟨w2,hw,rw'⟩:=RelO.some_of (v:=w') (o:=valueAt vs (Sum.inr k)) (by rw[<-h2];exact rel.val _);exact auc I dd (aj9 (P:=X.prog) (w:=X.w) ry') hw rw' h3 hs
  |_=>exact q.elim
 |_=>cases y<;>exact q.elim
def a2g(K:Af):List V->Hp->VK->Prop:=fun xs H Q=>match xs with
 |[.str z]=>z.length≤sizeLine/\Q (.int z.length) H
 |[.ref p]=>∃ys,(SqL K H p ys\/SqT K H p ys)/\Q (.int ys.length) H
 |_=>False
theorem aqg:CallR X (.builtin "len") (a2g X.K):=by
 intro pins s σ H xs us Q I r h
 match xs,h with
 |[.str z],h=>exact akm pins s σ H _ us Q I r ⟨z,rfl,h.1,h.2⟩
 |[.ref p],h=>
  obtain⟨ys,h1,h2⟩:=h;exact ak0 pins s σ H _ us Q I r ⟨p,ys,rfl,h1,h2⟩
inductive Da where
 |s (v:V)
 |tup (xs:List Da)
 |lst (xs:List Da)
mutual
def Da.eq:Da->Da->Bool
 |.s v,.s w=>eqV v w
 |.tup xs,.tup ys=>Da.eqs xs ys
 |.lst xs,.lst ys=>Da.eqs xs ys
 |_,_=>false
def Da.eqs:List Da->List Da->Bool
 |[],[]=>true
 |x::xs,y::ys=>Da.eq x y&&Da.eqs xs ys
 |_,_=>false
end
def xp(K:Af)(H:Hp):Nat->V->Da->Prop
 |0,v,d=>d=.s v/\aa6 v=true
 |n+1,v,d=>(d=.s v/\aa6 v=true)\/(∃a xs ds,v=.ref a/\d=.tup ds/\SqT K H a xs/\Paired (xp K H n) xs ds)\/(∃a xs ds,v=.ref a/\d=.lst ds/\SqL K H a xs/\Paired (xp K H n) xs ds)
theorem Da.eqs_range:∀(ds es:List Da),((List.range (min ds.length es.length)).all (fun j=>Da.eq (ds.getD j (.s .non)) (es.getD j (.s .non)))&&ds.length==es.length)=Da.eqs ds es
 |[],[]=>by simp[Da.eqs]
 |[],e::es=>by simp[Da.eqs]
 |d::ds,[]=>by simp[Da.eqs]
 |d::ds,e::es=>by
  have ih:=Da.eqs_range ds es;rw[Da.eqs,<-ih];have:min (d::ds).length (e::es).length=min ds.length es.length+1:=by simp only[AF];omega
  rw[this,List.range_succ_eq_map,DA,List.all_map];have h2:((d::ds).length==(e::es).length)=(ds.length==es.length):=by simp
  rw[h2,Bool.and_assoc];rfl
theorem Paired.at{α β:Type}{F:α->β->Prop}:∀{xs:List α} {ys:List β} {j:Nat} {x:α} {y:β},Paired F xs ys->xs[j]?=some x->ys[j]?=some y->F x y
 |_,_,_,_,_,.nil,h,_=>by simp at h
 |_,_,0,_,_,.cons r _,h1,h2=>by simp at h1 h2;subst h1 h2;exact r
 |_,_,j+1,_,_,.cons _ t,h1,h2=>Paired.at (j:=j) t (by simpa using h1) (by simpa using h2)
theorem aeb:∀{v:V},aa6 v=true->eqV v v=true
 |.non,_=>rfl
 |.bl _,_=>by simp[eqV]
 |.int _,_=>by simp[eqV]
 |.str _,_=>by simp[eqV]
section
variable {pins:List (Addr×Obj)}{σ:St}{H:Hp}{s:Shared}
theorem zr{a:Addr}(h:aa6 (.ref a)=true):False:=by simp[aa6] at h
theorem Inv.notBoth(I:Inv X pins σ H s){a:Addr}{xs ys:List V}(h:SqT X.K H a xs)(h':SqL X.K H a ys):False:=by
 obtain⟨its,_,⟨o,e,c,_⟩,_⟩:=I.tuple h;obtain⟨its',_,⟨o',n',e',c',_⟩,_⟩:=I.list h';rw[e] at e';cases e';rw[c] at c';injection c' with c'
 exact absurd c' (by decide)
theorem ak5(I:Inv X pins σ H s):∀(n:Nat) {m:Nat} {x:V} {d e:Da},xp X.K H n x d->xp X.K H m x e->Da.eq d e=true
 |0,m,x,d,e,h1,h2=>by
  obtain⟨rfl,f⟩:=h1;cases m with
  |zero=>obtain⟨rfl,_⟩:=h2;exact aeb f
  |succ m=>
   rcases h2 with⟨rfl,_⟩ | ⟨a,xs,ds,rfl,_⟩ | ⟨a,xs,ds,rfl,_⟩
   ·exact aeb f
   ·exact(zr f).elim
   ·exact(zr f).elim
 |n+1,m,x,d,e,h1,h2=>by
  have both:∀{xs:List V} {ds es:List Da} {m:Nat},Paired (xp X.K H n) xs ds->Paired (xp X.K H m) xs es->Da.eqs ds es=true:=by
   intro xs ds es m p
   induction p generalizing es with
   |nil=>intro q;cases q;rfl
   |cons r t ih=>
    intro q;cases q with
    |cons r' t'=>rw[Da.eqs,ak5 I n r r',ih t'];rfl
  rcases h1 with⟨rfl,f⟩ | ⟨a,xs,ds,rfl,rfl,hs,hp⟩ | ⟨a,xs,ds,rfl,rfl,hs,hp⟩
  ·cases m with
   |zero=>obtain⟨rfl,_⟩:=h2;exact aeb f
   |succ m=>
    rcases h2 with⟨rfl,_⟩ | ⟨a,xs,ds,rfl,_⟩ | ⟨a,xs,ds,rfl,_⟩
    ·exact aeb f
    ·exact(zr f).elim
    ·exact(zr f).elim
  ·cases m with
   |zero=>exact(zr h2.2).elim
   |succ m=>
    rcases h2 with⟨_,f⟩ | ⟨a',ys,es,e1,rfl,hs',hp'⟩ | ⟨a',ys,es,e1,rfl,hs',hp'⟩
    ·exact(zr f).elim
    ·cases e1;cases I.tuple_inj hs hs';exact both hp hp'
    ·cases e1;exact(I.notBoth hs hs').elim
  ·cases m with
   |zero=>exact(zr h2.2).elim
   |succ m=>
    rcases h2 with⟨_,f⟩ | ⟨a',ys,es,e1,rfl,hs',hp'⟩ | ⟨a',ys,es,e1,rfl,hs',hp'⟩
    ·exact(zr f).elim
    ·cases e1;exact(I.notBoth hs' hs).elim
    ·cases e1;cases I.list_inj hs hs';exact both hp hp'
theorem j7{h:Heap}{a:Addr}{its:Array Value}(p:PlainL h a its):h.IsList a its:=let ⟨o,n,e,c,_,d⟩:=p;⟨o,e,c,n,d⟩
theorem aeu{A:Around}{n m:Nat}{xs ys:List V}{ds es:List Da}{us vs:List Value}(px:Paired (xp X.K H n) xs ds)(py:Paired (xp X.K H m) ys es)(vx:Vals xs us)(vy:Vals ys vs)
 (ih:∀{x y:V} {d e:Da} {u v:Value},xp X.K H n x d->xp X.K H m y e->RelV x u->RelV y v->SeqAt.EqAt A.in1 s u v (Da.eq d e)):
 ∀j (h1:j<us.toArray.size) (h2:j<vs.toArray.size),SeqAt.EqAt A.in1 s us.toArray[j] vs.toArray[j] (Da.eq (ds.getD j (.s .non)) (es.getD j (.s .non))):=by
 intro j h1 h2;have l1:=px.length;have l2:=py.length;have l3:=vx.length;have l4:=vy.length;rw[Ao] at h1 h2;have q1:xs[j]?=some xs[j]:=Aj (by omega);have q2:ys[j]?=some ys[j]:=Aj (by omega);have q3:ds[j]?=some ds[j]:=Aj (by omega);have q4:es[j]?=some es[j]:=Aj (by omega);have q5:us[j]?=some us[j]:=Aj (by omega);have q6:vs[j]?=some vs[j]:=Aj (by omega);rw[Bm,Bm,q3,q4];exact ih (Paired.at px q1 q3) (Paired.at py q2 q4) (Paired.at vx q1 q5) (Paired.at vy q2 q6)
theorem aj7{A:Around}{n m:Nat}{a b:Addr}{xs ys:List V}{ds es:List Da}(I:Inv X pins σ H s)(hu:A.units<cLine)(sx:SqT X.K H a xs)(sy:SqT X.K H b ys)(px:Paired (xp X.K H n) xs ds)(py:Paired (xp X.K H m) ys es)
 (ih:∀{x y:V} {d e:Da} {u v:Value},xp X.K H n x d->xp X.K H m y e->RelV x u->RelV y v->SeqAt.EqAt A.in1 s u v (Da.eq d e)):SeqAt.RcAt A s (.ref a) (.ref b) (Da.eqs ds es):=by
 obtain⟨us,vx,tx,_⟩:=I.tuple sx;obtain⟨vs,vy,ty,_⟩:=I.tuple sy;have q:=SeqAt.RcAt.tuples tx ty hu (aeu px py vx vy ih);rw[Ao,Ao,<-vx.length,<-vy.length,px.length,py.length,Da.eqs_range] at q;exact q
theorem alc{A:Around}{n m:Nat}{a b:Addr}{xs ys:List V}{ds es:List Da}(I:Inv X pins σ H s)(hu:A.units<cLine)(sx:SqL X.K H a xs)(sy:SqL X.K H b ys)(px:Paired (xp X.K H n) xs ds)(py:Paired (xp X.K H m) ys es)
 (ih:∀{x y:V} {d e:Da} {u v:Value},xp X.K H n x d->xp X.K H m y e->RelV x u->RelV y v->SeqAt.EqAt A.in1 s u v (Da.eq d e)):SeqAt.RcAt A s (.ref a) (.ref b) (Da.eqs ds es):=by
 obtain⟨us,vx,tx,_⟩:=I.list sx;obtain⟨vs,vy,ty,_⟩:=I.list sy
 by_cases hz:us.toArray.size=vs.toArray.size
 ·have q:=SeqAt.RcAt.lists (j7 tx) (j7 ty) hz hu (aeu px py vx vy ih);have hz':ds.length=es.length:=by rw[<-px.length,<-py.length,vx.length,vy.length];simpa using hz
  have e:=Da.eqs_range ds es;rw[hz',Nat.min_self] at e;rw[<-hz'] at e;rw[Ao,<-vx.length,px.length] at q;simp only[beq_self_eq_true,DR] at e;rw[e] at q;exact q
 ·have q:=SeqAt.RcAt.lists_lengths (j7 tx) (j7 ty) (by simpa using hz) hu;have hz':ds.length≠es.length:=by
   rw[<-px.length,<-py.length,vx.length,vy.length];intro z;exact hz (by simpa using z)
  have e:=Da.eqs_range ds es;have f:(ds.length==es.length)=false:=by simpa using hz'
  rw[f,CO] at e;rw[<-e];exact q
theorem aie(I:Inv X pins σ H s):∀(n:Nat) {m:Nat} {A:Around} {x y:V} {d e:Da} {u v:Value},A.units+n<cLine->xp X.K H n x d->xp X.K H m y e->RelV x u->RelV y v->SeqAt.EqAt A s u v (Da.eq d e):=by
 have flatRef:∀{A:Around} {x:V} {u:Value} {b:Addr} {ys:List V},A.units<cLine->aa6 x=true->RelV x u->(SqT X.K H b ys\/SqL X.K H b ys)->SeqAt.EqAt A s u (.ref b) false/\SeqAt.EqAt A s (.ref b) u false:=by
  intro A x u b ys hu f r h;have h':(∃its,s.heap.IsTuple b its)\/∃its,s.heap.IsList b its:=by
   rcases h with h | h
   ·obtain⟨its,_,t,_⟩:=I.tuple h;exact .inl ⟨_,t⟩
   ·obtain⟨its,_,t,_⟩:=I.list h;exact .inr ⟨_,j7 t⟩
  cases x with
  |non=>cases r;rcases h' with⟨_,t⟩ | ⟨_,t⟩;exact⟨.none_tuple t hu,.tuple_none t hu⟩;exact⟨.none_list t hu,.list_none t hu⟩
  |bl k=>cases r;rcases h' with⟨_,t⟩ | ⟨_,t⟩;exact⟨.bool_tuple k t hu,.tuple_bool k t hu⟩;exact⟨.bool_list k t hu,.list_bool k t hu⟩
  |int k=>obtain⟨tk,rfl⟩:=r;rcases h' with⟨_,t⟩ | ⟨_,t⟩;exact⟨.int_tuple k tk t hu,.tuple_int k tk t hu⟩;exact⟨.int_list k tk t hu,.list_int k tk t hu⟩
  |str k=>obtain⟨tk,rfl⟩:=r;rcases h' with⟨_,t⟩ | ⟨_,t⟩;exact⟨.str_tuple k tk t hu,.tuple_str k tk t hu⟩;exact⟨.str_list k tk t hu,.list_str k tk t hu⟩
  |_=>simp[aa6] at f
 intro n
 induction n with
 |zero=>
  intro m A x y d e u v hu h1 h2 rx ry;obtain⟨rfl,f⟩:=h1;cases m with
  |zero=>obtain⟨rfl,f'⟩:=h2;exact ai5 rx ry f f'
  |succ m=>
   rcases h2 with⟨rfl,f'⟩ | ⟨b,ys,es,rfl,rfl,sy,py⟩ | ⟨b,ys,es,rfl,rfl,sy,py⟩
   ·exact ai5 rx ry f f'
   ·cases ry;exact(flatRef (by omega) f rx (.inl sy)).1
   ·cases ry;exact(flatRef (by omega) f rx (.inr sy)).1
 |succ n ih=>
  intro m A x y d e u v hu h1 h2 rx ry;have hin:A.in1.units+n<cLine:=by show A.units+1+n<cLine;omega
  rcases h1 with⟨rfl,f⟩ | ⟨a,xs,ds,rfl,rfl,sx,px⟩ | ⟨a,xs,ds,rfl,rfl,sx,px⟩
  ·cases m with
   |zero=>obtain⟨rfl,f'⟩:=h2;exact ai5 rx ry f f'
   |succ m=>
    rcases h2 with⟨rfl,f'⟩ | ⟨b,ys,es,rfl,rfl,sy,py⟩ | ⟨b,ys,es,rfl,rfl,sy,py⟩
    ·exact ai5 rx ry f f'
    ·cases ry;exact(flatRef (by omega) f rx (.inl sy)).1
    ·cases ry;exact(flatRef (by omega) f rx (.inr sy)).1
  ·cases rx;cases m with
   |zero=>obtain⟨rfl,f'⟩:=h2;exact(flatRef (by omega) f' ry (.inl sx)).2
   |succ m=>
    rcases h2 with⟨rfl,f'⟩ | ⟨b,ys,es,rfl,rfl,sy,py⟩ | ⟨b,ys,es,rfl,rfl,sy,py⟩
    ·exact(flatRef (by omega) f' ry (.inl sx)).2
    ·cases ry
     by_cases hab:a=b
     ·subst hab;cases I.tuple_inj sx sy;have e:Da.eq (.tup ds) (.tup es)=true:=ak5 I (n+1) (m:=m+1) (x:=.ref a) (.inr (.inl ⟨a,xs,ds,rfl,rfl,sx,px⟩)) (.inr (.inl ⟨a,xs,es,rfl,rfl,sy,py⟩));rw[e];exact .same _
     ·exact .of_refs hab (aj7 I (by omega) sx sy px py fun h1 h2 r1 r2=>ih hin h1 h2 r1 r2)
    ·cases ry;obtain⟨us,vx,tx,_⟩:=I.tuple sx;obtain⟨vs,vy,ty,_⟩:=I.list sy;exact .tuple_list tx (j7 ty) (by omega)
  ·cases rx;cases m with
   |zero=>obtain⟨rfl,f'⟩:=h2;exact(flatRef (by omega) f' ry (.inr sx)).2
   |succ m=>
    rcases h2 with⟨rfl,f'⟩ | ⟨b,ys,es,rfl,rfl,sy,py⟩ | ⟨b,ys,es,rfl,rfl,sy,py⟩
    ·exact(flatRef (by omega) f' ry (.inr sx)).2
    ·cases ry;obtain⟨us,vx,tx,_⟩:=I.list sx;obtain⟨vs,vy,ty,_⟩:=I.tuple sy;exact .list_tuple (j7 tx) ty (by omega)
    ·cases ry
     by_cases hab:a=b
     ·subst hab;cases I.list_inj sx sy;have e:Da.eq (.lst ds) (.lst es)=true:=ak5 I (n+1) (m:=m+1) (x:=.ref a) (.inr (.inr ⟨a,xs,ds,rfl,rfl,sx,px⟩)) (.inr (.inr ⟨a,xs,es,rfl,rfl,sy,py⟩));rw[e];exact .same _
     ·exact .of_refs hab (alc I (by omega) sx sy px py fun h1 h2 r1 r2=>ih hin h1 h2 r1 r2)
end
def uEq(K:Af)(k:Nat):R2:=fun x y H Q=>match x,y with
 |.ref a,.ref b=>∃n m d e,n≤k/\xp K H n (.ref a) d/\xp K H m (.ref b) e/\Q (.bl (Da.eq d e)) H
 |x,y=>awa x y=true/\Q (.bl (decide (x=y))) H
theorem axy{k:Nat}(hu:X.A.units+k<cLine):OpR X (compareOp .Eq) (uEq X.K k):=by
 intro pins s σ H x y v u Q I rx ry h;cases x with
 |ref a=>
  cases y with
  |ref b=>
   obtain⟨n,m,d,e,hn,h1,h2,q⟩:=h;cases rx;cases ry;have fin:∀{k:Bool},k=Da.eq d e->SeqAt.RcAt X.A s (.ref a) (.ref b) k->wpAny (model X.prog X.w) X.A (compareOp .Eq (.ref a) (.ref b)) (EP X pins σ Q) X.xe s:=fun {k} e' r=>
    r X.prog X.w X.xe (EP X pins σ Q) (by rw[e'];exact⟨.bl _,H,I,rfl,q⟩)
   cases n with
   |zero=>exact(zr h1.2).elim
   |succ n=>
    cases m with
    |zero=>exact(zr h2.2).elim
    |succ m=>
     have hin:X.A.in1.units+n<cLine:=by show X.A.units+1+n<cLine;omega
     rcases h1 with⟨_,f⟩ | ⟨a',xs,ds,e1,rfl,sx,px⟩ | ⟨a',xs,ds,e1,rfl,sx,px⟩
     ·exact(zr f).elim
     ·cases e1;rcases h2 with⟨_,f⟩ | ⟨b',ys,es,e2,rfl,sy,py⟩ | ⟨b',ys,es,e2,rfl,sy,py⟩
      ·exact(zr f).elim
      ·cases e2;exact fin rfl (aj7 I (by omega) sx sy px py fun h1 h2 r1 r2=>aie I n hin h1 h2 r1 r2)
      ·cases e2;obtain⟨us,vx,tx,_⟩:=I.tuple sx;obtain⟨vs,vy,ty,_⟩:=I.list sy;exact fin rfl (.tuple_list tx (j7 ty) (by omega))
     ·cases e1;rcases h2 with⟨_,f⟩ | ⟨b',ys,es,e2,rfl,sy,py⟩ | ⟨b',ys,es,e2,rfl,sy,py⟩
      ·exact(zr f).elim
      ·cases e2;obtain⟨us,vx,tx,_⟩:=I.list sx;obtain⟨vs,vy,ty,_⟩:=I.tuple sy;exact fin rfl (.list_tuple (j7 tx) ty (by omega))
      ·cases e2;exact fin rfl (alc I (by omega) sx sy px py fun h1 h2 r1 r2=>aie I n hin h1 h2 r1 r2)
  |_=>exact ax9 pins s σ H _ _ v u Q I rx ry h
 |_=>cases y<;>exact ax9 pins s σ H _ _ v u Q I rx ry h
end
theorem a0l{X:Cx}{x:Str}{c:Addr}{pos:Pos}(hg:Gl X x)(hm:X.mg x=some (.ref c))(hd:(x==("__debug__" : Str))=false:=by decide):PE X (.Name x pos) (tC (.ref c)):=ava hg hm (v:=.ref c) rfl hd
theorem atu{X:Cx}{x:Str}{T:String}{pos:Pos}(hg:Gl X x)(hm:X.mg x=none)(hv:bootBuiltins x=some (.type T))(hn:x ≠ "__name__" := by decide)(hd:(x==("__debug__" : Str))=false:=by decide):PE X (.Name x pos) (tC (.ty T)):=awe hg hm hv (v:=.ty T) rfl hn hd
structure Cal(P:Program)(w:World)(K:Af)(mg:Str->Option Value)(base:Heap)(k:Nat)(x:Str)(ps:List Str)(sp:Sp):Prop where
 ex:∃f fd,FnOk P w K mg base CX0 k f fd ps sp/\Binds K fd ps []/\PySem.W.keepIn K (.ref f)=true/\mg x=some (.ref f)
theorem a31{X:Cx}{k:Nat}{x:Str}{ps:List Str}{sp:Sp}{e:Expr}{es:List Expr}{t:TA}{p pos:Pos}(c:Cal X.prog X.w X.K X.mg X.base k x ps sp)(hr:Room k X.A)(hg:Gl X x)(ha:PA X (e::es) t)(hdb:(x==("__debug__" : Str))=false:=by decide)
 (he:starEach (e::es) X.env=(false,eval e X.env)::starEach es X.env:=by rfl) (hpl:(backTo pos (starEach es X.env)).any (·.1)=false:=by rfl):PE X (.Call (.Name x p) (e::es) [] pos) (axa sp [] E0 t):=by
 obtain⟨f,fd,F,b,kp,m⟩:=c.ex;exact avr F hr hg m kp b .nil a1l ha hdb he hpl
theorem Cal.mono{P:Program}{w:World}{K:Af}{mg:Str->Option Value}{base:Heap}{j k:Nat}{x:Str}{ps:List Str}{sp:Sp}(c:Cal P w K mg base j x ps sp)(h:j≤k):Cal P w K mg base k x ps sp:=by
 obtain⟨f,fd,F,b,kp,m⟩:=c.ex;exact⟨f,fd,F.mono h,b,kp,m⟩
def aig(env:Env):List (Str×NameKind)->List (Str×Addr)->List (Str×Addr)
 |[],cs=>cs
 |(n,k)::r,cs=>aig env r (if k==.free then(n,(env.cells.lookup n).getD 0)::cs else cs)
def ad1(scope:Scope)(env:Env):List (Str×Addr):=aig env scope.names []
theorem ams{env:Env}:∀{names:List (Str×NameKind)} {cs:List (Str×Addr)} {p:Str×Addr},p∈aig env names cs->p∈cs\/((p.1,NameKind.free)∈names/\p.2=(env.cells.lookup p.1).getD 0)
 |[],_,_,h=>.inl h
 |(n,k)::r,cs,p,h=>by
  rcases ams (names:=r) h with q | ⟨q,e⟩
  ·by_cases hk:(k==NameKind.free)=true
   ·rw[AB hk] at q;rcases As.mp q with rfl | q
    ·have:k=.free:=by simpa using hk
     exact .inr ⟨by rw[this];exact Av,rfl⟩
    ·exact .inl q
   ·rw[Ax hk] at q;exact .inl q
  ·exact .inr ⟨Ai _ q,e⟩
theorem ama{env:Env}{x:Str}:∀{names:List (Str×NameKind)} {cs:List (Str×Addr)},((∃c,(x,c)∈cs)\/(x,NameKind.free)∈names)->∃c,(x,c)∈aig env names cs
 |[],_,.inl h=>h
 |[],_,.inr h=>by simp at h
 |(n,k)::r,cs,h=>by
  refine ama (names:=r) ?_;rcases h with⟨c,h⟩ | h
  ·left
   by_cases hk:(k==NameKind.free)=true
   ·rw[AB hk];exact⟨c,Ai _ h⟩
   ·rw[Ax hk];exact⟨c,h⟩
  ·rcases As.mp h with e | h
   ·left;injection e with e1 e2
    subst e1;subst e2;exact⟨_,Av⟩
   ·exact .inr h
theorem ad4{x:Str}:∀{l:List (Str×Addr)} {c:Addr},(x,c)∈l->∃c',l.lookup x=some c'
 |(n,d)::r,c,h=>by
  rw[Br];cases hx:x==n with
  |true=>exact⟨d,rfl⟩
  |false=>
   rcases As.mp h with e | h
   ·injection e with e1 _;subst e1;simp at hx
   ·exact ad4 h
theorem agd{scope:Scope}{env:Env}(h:∀n,(n,NameKind.free)∈scope.names->∃c,env.cells.lookup n=some c):closureFor scope env=pure (ad1 scope env):=by
 unfold closureFor ad1;have key:∀(names:List (Str×NameKind)) (cs:List (Str×Addr)),(∀n,(n,NameKind.free)∈names->∃c,env.cells.lookup n=some c)->
  (forIn names cs fun x (r:List (Str×Addr))=>(match x with | (name,kind)=>if kind==NameKind.free then do let a <-cellOf env name;pure (ForInStep.yield ((name,a)::r)) else pure (ForInStep.yield r):Sem (ForInStep (List (Str×Addr)))))=pure (aig env names cs):=by
  intro names
  induction names with
  |nil=>intro cs _;rfl
  |cons p r ih=>
   intro cs hf;obtain⟨n,k⟩:=p;rw[CF];cases hk:k==NameKind.free with
   |true=>
    have hk':k=.free:=by simpa using hk
    subst hk';obtain⟨c,hc⟩:=hf n Av;have e:cellOf env n=pure c:=by unfold cellOf;rw[hc]
    simp only[beq_self_eq_true,if_true,e];have e2:aig env ((n,NameKind.free)::r) cs=aig env r ((n,c)::cs):=by show aig env r _=_;rw[hc];rfl
    rw[e2];exact ih ((n,c)::cs) fun m hm=>hf m (Ai _ hm)
   |false=>
    simp only[hk,BS,if_false];have e2:aig env ((n,k)::r) cs=aig env r cs:=by show aig env r (if (k==NameKind.free)=true then _ else _)=_;rw[hk];rfl
    rw[e2];exact ih cs fun m hm=>hf m (Ai _ hm)
 exact(BA (· >>= pure) (key scope.names [] h))
theorem w4{env:Env}{x:Str}:∀{names:List (Str×NameKind)},
 (names.map fun(n,k)=>if (k==NameKind.free&&env.scope.kind==.function&&env.kindOf n==some .cell) then(n,NameKind.cell) else(n,k)).lookup x
  = (names.lookup x).map fun k=>if (k==NameKind.free&&env.scope.kind==.function&&env.kindOf x==some .cell) then NameKind.cell else k
 |[]=>rfl
 |(n,k)::r=>by
  have ih:=@w4 env x r;show List.lookup x ((if (k==NameKind.free&&env.scope.kind==.function&&env.kindOf n==some .cell)=true then(n,NameKind.cell) else(n,k))::_)=_;cases hx:x==n with
  |true=>
   have hx':x=n:=by simpa using hx
   subst hx'
   by_cases hc:(k==NameKind.free&&env.scope.kind==.function&&env.kindOf x==some .cell)=true
   ·rw[AB hc];simp only[Br,beq_self_eq_true,Option.map_some];rw[AB hc]
   ·rw[Ax hc];simp only[Br,beq_self_eq_true,Option.map_some];rw[Ax hc]
  |false=>
   by_cases hc:(k==NameKind.free&&env.scope.kind==.function&&env.kindOf n==some .cell)=true
   ·rw[AB hc];simp only[Br,hx];exact ih
   ·rw[Ax hc];simp only[Br,hx];exact ih
def Cx.comp(X:Cx)(scope:Scope)(T:List Str)(C:Addr)(fp:List Addr)(s₀:Shared)(H₀:Hp):Cx:=
 { X with N:=X.N++T,s₀:=s₀,H₀:=H₀,env:=compEnvC scope (ad1 scope X.env) C X.env,outer:=X.stack,ex:=fp,fn:=fun _=>false,xe:=fun _ _=>False }
structure CompScope(X:Cx)(scope:Scope):Prop where
 kind:scope.kind=.function
 nocell:∀y∈scope.names,y.2≠.cell
 names:∀y∈scope.names,y.2=.local->scope.names.lookup y.1=some .local
 free:∀n,scope.names.lookup n=some .free->X.env.kindOf n=some .cell\/X.env.kindOf n=some .free
 freeM:∀n,(n,NameKind.free)∈scope.names->X.env.kindOf n=some .cell\/X.env.kindOf n=some .free
 apart:∀x∈X.N,scope.names.lookup x≠some .local
section
variable {X:Cx}{scope:Scope}{pins:List (Addr×Obj)}{σ:St}{H:Hp}{s:Shared}
theorem CompScope.clo(S:CompScope X scope)(I:Inv X pins σ H s):closureFor scope X.env=pure (ad1 scope X.env):=
 agd fun n h=>I.ok.has n (S.freeM n h)
theorem CompScope.cl_old(S:CompScope X scope)(I:Inv X pins σ H s){x:Str}{c:Addr}(h:(ad1 scope X.env).lookup x=some c):X.env.cells.lookup x=some c:=by
 rcases ams (Bu h) with q | ⟨q,e⟩
 ·simp at q
 ·obtain⟨d,hd⟩:=I.ok.has x (S.freeM x q);have e':c=(X.env.cells.lookup x).getD 0:=e;rw[hd] at e' ⊢;rw[e'];rfl
theorem CompScope.cl_has(_:CompScope X scope){x:Str}(h:scope.names.lookup x=some .free):∃c,(ad1 scope X.env).lookup x=some c:=by
 obtain⟨c,hc⟩:=ama (env:=X.env) (names:=scope.names) (cs:=[]) (x:=x) (.inr (Bu h));exact ad4 hc
theorem CompScope.kindOf(S:CompScope X scope){C:Addr}{x:Str}(h:(compEnvC scope (ad1 scope X.env) C X.env).kindOf x=some .cell\/(compEnvC scope (ad1 scope X.env) C X.env).kindOf x=some .free):scope.names.lookup x=some .free:=by
 have e:(compEnvC scope (ad1 scope X.env) C X.env).kindOf x=(scope.names.lookup x).map fun k=>if (k==NameKind.free&&X.env.scope.kind==.function&&X.env.kindOf x==some .cell) then NameKind.cell else k:=w4
 rw[e] at h;cases hl:scope.names.lookup x with
 |none=>rw[hl] at h;rcases h with h | h<;>cases h
 |some k=>
  rw[hl] at h;cases k with
  |free=>rfl
  |cell=>exact absurd rfl (S.nocell _ (Bu hl))
  |_=>rcases h with h | h<;>cases h
theorem CompScope.vis(S:CompScope X scope){C:Addr}{x:Str}(hx:x∈X.N)(h:Vis (compEnvC scope (ad1 scope X.env) C X.env).scope x):scope.names.lookup x=some .free:=by
 rcases h with h | h | h
 ·exfalso;have e:(compEnvC scope (ad1 scope X.env) C X.env).kindOf x=(scope.names.lookup x).map fun k=>if (k==NameKind.free&&X.env.scope.kind==.function&&X.env.kindOf x==some .cell) then NameKind.cell else k:=w4
  have h':(compEnvC scope (ad1 scope X.env) C X.env).kindOf x=some .local:=h;rw[e] at h';cases hl:scope.names.lookup x with
  |none=>rw[hl] at h';cases h'
  |some k=>
   rw[hl] at h';have h':(if (k==NameKind.free&&X.env.scope.kind==.function&&X.env.kindOf x==some .cell)=true then NameKind.cell else k)=.local:=A6 h'
   split at h'
   ·cases h'
   ·subst h';exact S.apart x hx hl
 ·exact S.kindOf (C:=C) (.inl h)
 ·exact S.kindOf (C:=C) (.inr h)
theorem CompScope.back(S:CompScope X scope){C:Addr}{x:Str}(h:scope.names.lookup x=some .free):(compEnvC scope (ad1 scope X.env) C X.env).kindOf x=some .cell\/(compEnvC scope (ad1 scope X.env) C X.env).kindOf x=some .free:=by
 have e:(compEnvC scope (ad1 scope X.env) C X.env).kindOf x=(scope.names.lookup x).map fun k=>if (k==NameKind.free&&X.env.scope.kind==.function&&X.env.kindOf x==some .cell) then NameKind.cell else k:=w4
 rw[e,h];show some (if _ then _ else _)=_\/some (if _ then _ else _)=_
 split
 ·exact .inl rfl
 ·exact .inr rfl
end
def PF(X:Cx)(ifs:List Expr)(t:TT):Prop:=
 ∀(pins:List (Addr×Obj)) (s:Shared) (σ:St) (H:Hp) (Q:Bool->Hp->Prop),Inv X pins σ H s->t σ H Q->
  wpAny (model X.prog X.w) X.A (forIn ifs true fun c r=>if r=true then do let ok <-isTrue c X.env (eval c X.env);pure (ForInStep.yield ok) else pure (ForInStep.yield r)) (TP X pins σ Q) X.xe s
def a29:TT:=fun _ H Q=>Q true H
theorem azj{X:Cx}:PF X [] a29:=fun _ _ _ H _ I h=>Ah ⟨H,I,h⟩
theorem ay0{X:Cx}{c:Expr}{t:TT}(hc:PT X c t):PF X [c] t:=by
 intro pins s σ H Q I h;rw[CF];simp only[if_true];refine Aa (Aa (thn (hc pins s σ H Q I h) fun b s1 q=>Ah ?_));exact Ah q
theorem acz{prog:Program}{w:World}{A:Around}{R:Result->Shared->Prop}{s:Shared}{elt target iter:Expr}{ifs:List Expr}{scope:Scope}{pos:Pos}{it acc:Value}{env:Env}(I:Nat->Shared->Prop)
 (turn:∀n s,I n s->wpAny (model prog w) A (pyNext it) (fun r s₁=>match r with
  |none=>R (.ok .next) s₁
  |some v=>wpAny (model prog w) A (letOwnedTupleGo target it v) (fun _ s₁=>wpAny (model prog w) A (assign target env v) (fun _ s₂=>
   wpAny (model prog w) A (forIn ifs true fun c r=>if r=true then do let ok <-isTrue c env (eval c env);pure (ForInStep.yield ok) else pure (ForInStep.yield r)) (fun ok s₃=>
    if ok=true then wpAny (model prog w) A (eval elt env) (fun x s₄=>
     wpAny (model prog w) A (call (.builtin "list.append") [acc,x]) (fun _ s₅=>∃m,m<n/\I m s₅) (fun _ _=>False) s₄) (fun _ _=>False) s₃
    else ∃m,m<n/\I m s₃) (fun _ _=>False) s₂) (fun _ _=>False) s₁) (fun _ _=>False) s₁) (fun _ _=>False) s)
 (n:Nat) (h:I n s):
 codeAny (model prog w) A (.compLoop (.ListComp elt [⟨target,iter,ifs,0⟩] scope pos) 0 it acc env) R s:=by
 refine codeAny_loop rfl I (fun n s hI=>?_) n h;show wpAny _ A ((compTurn (.ListComp elt [⟨target,iter,ifs,0⟩] scope pos) 0 it acc env).onRaise (fun x=>do noteFrame x env;theTreesLotGoes x)) _ _ s;refine wpAny_noted ?_;rw[compTurn_list];refine Aa (wpAny_standAt (Aa (AV (turn n s hI) (fun r s₁ h₁=>?_) fun _ _ h'=>h'.elim)));cases r with
 |none=>exact Ah h₁
 |some v=>
  refine Aa (AV h₁ (fun _ s₁ h₁=>?_) fun _ _ h'=>h'.elim);refine Aa (AV h₁ (fun _ s₂ h₂=>Aa (AV h₂ (fun ok s₃ h₃=>?_) fun _ _ h'=>h'.elim)) fun _ _ h'=>h'.elim);cases ok with
  |false=>exact Ah ⟨rfl,h₃⟩
  |true=>
   exact Aa (Aa (AV h₃ (fun x s₄ h₄=>Aa (AV h₄ (fun _ s₅ h₅=>Ah (Ah ⟨rfl,h₅⟩)) fun _ _ h'=>h'.elim)) fun _ _ h'=>h'.elim))
def tLC(n:Nat)(wi:TI)(g:TG)(tc:TT)(te:TE):TE:=fun σ H Q=>wi σ H fun J H1=>∃W:Nat->Nat->List V->Hp->Prop,(∃m,W 0 m [] H1)/\∀i m ys H,W i m ys H->
 (J.stop i H/\ys.length≤sizeLine/\∀D,H D=none->Q (.ref D) (upd H D (.lst ys)))\/
 (J.go i H/\ys.length<sizeLine/\∀x H',J.yld i H x H'->g x (σ++List.replicate n none) H' fun σ2 H2=>tc σ2 H2 fun b H3=>
  if b=true then te σ2 H3 fun y H4=>∃m',m'<m/\W (i+1) m' (ys++[y]) H4 else ∃m',m'<m/\W (i+1) m' ys H3)
def aj0(g:TG)(n k:Nat):Prop:=∀(σ:St),σ.length=n->∀x H Q,g x (σ++List.replicate k none) H Q->
 g x (σ++List.replicate k none) H fun σ2 H2=>((σ2.length=n+k/\∀(i:Nat) v,(σ++List.replicate k none)[i]?=some (some v)->σ2[i]?=some (some v))/\Q σ2 H2)
section
variable {X:Cx}{scope:Scope}{T:List Str}{elt target iter:Expr}{ifs:List Expr}{wi:TI}{g:TG}{tc:TT}{te:TE}
theorem ltN{h:Heap}{b:Addr}{o:Obj}(e:h.get? b=some o):@LT.lt Nat instLTNat b h.objs.size:=Heap.lt_size e
theorem neN{a b:Addr}(h:@Ne Nat a b):a≠b:=h
theorem leN{a b:Addr}(h:@LE.le Nat instLENat a b):a≤b:=h
theorem as1(its:List Value)(n:Nat)(u:Value):∃n',Obj.mapSeq (·.push u) { cls:=.type "list",data:=.seq its.toArray n }=({ cls:=.type "list",data:=.seq (its++[u]).toArray n' }:Obj):=
 ⟨_,by simp[Obj.mapSeq];rfl⟩
theorem aov{prog:Program}{w:World}{A:Around}{E:Value->Shared->Prop}{s:Shared}{D:Addr}{its:List Value}{n:Nat}{u:Value}{Q:Value->Shared->Prop}(hD:s.heap.get? D=some { cls:=.type "list",data:=.seq its.toArray n })
 (hz:its.length≤sizeLine) (h:∀h' n',Heap.SameBut D s.heap h'->h'.get? D=some { cls:=.type "list",data:=.seq (its++[u]).toArray n' }->Q .none { s with heap:=h' }):
 wpAny (model prog w) A (call (.builtin "list.append") [.ref D,u]) Q E s:=by
 have hl:s.heap.IsList D its.toArray:=⟨_,hD,rfl,n,rfl⟩;refine wpAny_call_entry slot_list_append hl.typeIs entry_list_append ?_ (args_list_append _ _);show wpAny _ _ (updateSeq D (·.push u) >>= fun _=>ret .none) _ _ s;refine Aa ?_;obtain⟨n',e'⟩:=as1 its n u;refine wpAny_updateSeq (f:=(·.push u)) hD rfl (Ah ⟨.none,rfl,h _ n' (Heap.SameBut.update ..) ?_⟩) (by rw[Ao];exact hz) (by rw[Bg,Ao];exact Nat.succ_le_succ hz);rw[<-e'];exact Heap.get?_update_self _ hD (by rw[e'];rfl)
theorem ai2{pins:List (Addr×Obj)}{σ:St}{Q:VK}{E:Value->Shared->Prop}{pos:Pos}{itv:Value}{s₂:Shared}{RR:Value->Addr->Result->Shared->Prop}
 (S:CompScope X scope) (hc:X.calm=true)
 (hg:∀C fp s₀ H₀,PG (X.comp scope T C fp s₀ H₀) target g) (hgo:aj0 g X.N.length T.length) (hf:∀C fp s₀ H₀,PF (X.comp scope T C fp s₀ H₀) ifs tc) (he:∀C fp s₀ H₀,PE (X.comp scope T C fp s₀ H₀) elt te)
 (h:PIE X pins σ target (fun J H1=>∃W:Nat->Nat->List V->Hp->Prop,(∃m,W 0 m [] H1)/\∀i m ys H,W i m ys H->
  (J.stop i H/\ys.length≤sizeLine/\∀D,H D=none->Q (.ref D) (upd H D (.lst ys)))\/
  (J.go i H/\ys.length<sizeLine/\∀x H',J.yld i H x H'->g x (σ++List.replicate T.length none) H' fun σ2 H2=>tc σ2 H2 fun b H3=>
   if b=true then te σ2 H3 fun y H4=>∃m',m'<m/\W (i+1) m' (ys++[y]) H4 else ∃m',m'<m/\W (i+1) m' ys H3)) itv s₂)
 (hRR:∀D C s' H' m',Inv X pins σ H' s'->aix X pins H' C->s'.heap.Ns C m'->Q (.ref D) H'->RR (.ref D) C (.ok .next) s'):
 wpAny (model X.prog X.w) X.A (newList []) (fun acc s₃=>wpAny (model X.prog X.w) X.A (newFunctionEnv scope X.env.globals (ad1 scope X.env) [] X.env.qual none .none (some X.env)) (fun cenv s₄=>
  codeAny (model X.prog X.w) X.A (.compStart (.ListComp elt [⟨target,iter,ifs,0⟩] scope pos) 0 itv acc { cenv with scope:=relabel scope X.env }) (RR acc cenv.locals) s₄) E s₃) E s₂:=by
 obtain⟨it,fp,tn,J,H2,rfl,I2,Tn,st2,f2,W,⟨m0,w0⟩,turn⟩:=h;refine Be (wpAny_newFunctionEnv S.nocell (by intro y hy;simp at hy) (fun h₁ hns₁ hsb₁=>?_) S.kind);dsimp only at hns₁ hsb₁ ⊢;generalize hH2:s₂.heap.push { cls:=.type "list",dict:=none,data:=.seq ([]:List Value).toArray }=G at hns₁ hsb₁ ⊢;have hC:G.objs.size=s₂.heap.objs.size+1:=by rw[<-hH2,Heap.size_push]
 obtain⟨D,eD⟩:∃D,s₂.heap.objs.size=D:=⟨_,rfl⟩;obtain⟨C,eC⟩:∃C,G.objs.size=C:=⟨_,rfl⟩;rw[eD] at hC ⊢;rw[eC] at hC hns₁ hsb₁ ⊢;have hDC:D≠C:=by omega
 have old:∀b o,s₂.heap.get? b=some o->h₁.get? b=some o:=fun b o e=>by
  have hb:=ltN e;exact hsb₁.extBut b o (neN (by omega)) (Heap.get?_push_of_some _ (hH2▸Heap.get?_push_of_some _ e))
 have hacc:h₁.get? D=some { cls:=.type "list",data:=.seq ([]:List Value).toArray 0 }:=by
  refine hsb₁.extBut _ _ hDC (Heap.get?_push_of_some _ ?_);rw[<-hH2,<-eD];exact Heap.get?_push_size _ rfl
 have fpo:∀b∈fp,@LT.lt Nat instLTNat b s₂.heap.objs.size:=fun b hb=>by
  obtain⟨o,e,_⟩:=Tn.obj _ _ st2 b hb;exact ltN e
 have ilt:@LT.lt Nat instLTNat X.env.locals s₂.heap.objs.size:=I2.lt;have isz:X.s₀.heap.objs.size≤s₂.heap.objs.size:=I2.sz;have HD:H2 D=none:=I2.hok.fresh (leN (by omega));have HC:H2 C=none:=I2.hok.fresh (leN (by omega));have nfs:∀b:Addr,@LE.le Nat instLENat s₂.heap.objs.size b->b∉frs X.stack:=fun b hb z=>by
  have q:=I2.stkSub b z;rcases As.mp q with q | q
  ·rw[<-q] at ilt;exact absurd ilt (Nat.not_lt.mpr hb)
  ·exact I2.nofs hb q
 have cellLt:∀x c,X.env.cells.lookup x=some c->@LT.lt Nat instLTNat c s₂.heap.objs.size:=fun x c e=>by
  obtain⟨v,q⟩:=I2.cell x c e;exact q.lt
 let X':Cx:=X.comp scope T C fp s₂ H2
 have ok':X'.Ok:={
  mod:=I2.ok.mod,kind:=S.kind,glob:=I2.ok.glob,blt:=I2.ok.blt
  above:=leN (by show @LE.le Nat instLENat s₂.heap.objs.size C;omega)
  inj:=fun x y c h1 h2=>I2.ok.inj x y c (S.cl_old I2 h1) (S.cl_old I2 h2)
  has:=fun x hx=>S.cl_has (S.kindOf hx)
  cab:=fun x c hx=>absurd (show false=true from hx) (by simp)
  hd:=I2.ok.hd,frames:=I2.ok.frames,stk:=.inl rfl
  exf:=fun b hb=>⟨neN (by have:=fpo b hb;show @Ne Nat b C;omega),fun x c e=>(f2 b hb).2.2.2.2.1 x c (S.cl_old I2 e)⟩
  bs:=I2.bs,bsz:=AW I2.ok.bsz I2.sz
  noex:=fun b o e hb=>by
   obtain⟨e0,n0⟩:=I2.ok.bs b o e;rcases (f2 b hb).2.2.2.1 with q | q
   ·exact I2.ok.noex b o e q
   ·have q':@LE.le Nat instLENat X.s₀.heap.objs.size b:=q;have:=ltN e0;omega
  exfs:=fun b hb z=>by
   rcases As.mp (I2.stkSub b z) with q | q
   ·exact(f2 b hb).2.1 q
   ·exact(f2 b hb).2.2.1 q
  funs:=I2.stack,frf:=I2.stkFree }
 have I4:∀tk,0<tk->Inv X' pins (σ++List.replicate T.length none) H2 { s₂ with heap:=h₁,toks:=tk }:=fun tk htk=>{
  tk:=htk,ok:=ok',os:=rfl,bare:=I2.bare,base:=Un.kept old
  loc:=⟨_,hns₁,fun i x v e1 e2 e3=>by
   have hi:i<σ.length:=by
    by_cases hi:i<σ.length
    ·exact hi
    ·rw[Am (by omega),Ca] at e2
     split at e2<;>cases e2
   rw[Az hi] at e2;have hi':i<X.N.length:=by rw[<-I2.len];exact hi
   have e1':X.N[i]?=some x:=by
    have:(X.N++T)[i]?=some x:=e1;rw[Az hi'] at this;exact this
   have hfr:=S.vis (AM e1') e3;obtain⟨m,hn,hl⟩:=I2.loc;have hk:=S.free x hfr;obtain⟨u,r,l⟩:=hl i x v e1' e2 (.inr hk);refine⟨u,r,.inr ⟨S.back hfr,?_⟩⟩;rcases l with⟨l,_⟩ | ⟨_,c,e,z⟩
   ·rw[l] at hk;rcases hk with q | q<;>cases q
   ·obtain⟨c',e'⟩:=S.cl_has hfr;have e'':=S.cl_old I2 e';rw[e] at e'';cases e'';exact⟨c,e',z.keeps old⟩⟩
  cell:=fun x c e=>by
   obtain⟨v,z⟩:=I2.cell x c (S.cl_old I2 e);exact⟨v,z.keeps old⟩
  free:=HC,freeC:=fun x c e=>I2.freeC x c (S.cl_old I2 e)
  pin:=fun p hp=>by
   obtain⟨a,b,c,d,e⟩:=I2.pin p hp;have hlt:=ltN a;refine⟨old _ _ a,b,neN (by show @Ne Nat p.1 C;omega),fun z=>?_,e⟩;rcases As.mp (I2.stkSub _ z) with q | q
   ·exact c q
   ·exact d q
  hok:=I2.hok.kept old
  len:=by show(σ++_).length=(X.N++T).length;rw[Ad,Ad,BK,I2.len] }
 have fpk:∀(pins':List (Addr×Obj)) (H':Hp),(∀p∈pins',p∈pins\/p.1=D)->(∀b∈fp,H' b=none)->∀b∈fp,aix X' pins' H' b:=fun pins' H' hp hn b hb=>by
  obtain⟨_,q1,q2,q3,q4,q5⟩:=f2 b hb;have hlt:=fpo b hb;refine⟨hn b hb,neN (by show @Ne Nat b C;omega),ok'.exfs b hb,.inl hb,(ok'.exf b hb).2,fun p hpp=>?_⟩;rcases Al.mp hpp with z | z
  ·exact q5 p (Aw _ z)
  ·rcases hp p z with z | z
   ·exact q5 p (Ag _ z)
   ·rw[z];exact neN (by omega)
 have stay:Tn.keep=Tn.keep:=rfl;have loop:∀s₃:Shared,s₃={ s₂ with heap:=h₁,toks:=s₂.toks+([]:List (Str×Value)).length }->
  codeAny (model X.prog X.w) X.A (.compLoop (.ListComp elt [⟨target,iter,ifs,0⟩] scope pos) 0 (.ref it) (.ref D) X'.env) (RR (.ref D) C) s₃:=by
  rintro s₃ rfl;refine acz (fun n s'=>∃i σ' H' ys its k,Inv X' pins σ' H' s'/\(σ'.length=X.N.length+T.length/\∀(i:Nat) v,(σ++List.replicate T.length none)[i]?=some (some v)->σ'[i]?=some (some v))/\
   s'.heap.get? D=some { cls:=.type "list",data:=.seq (its:List Value).toArray k }/\Vals ys its/\H' D=none/\tn i s'.heap/\(∀b∈fp,H' b=none)/\W i n ys H') ?_ m0
   ⟨0,_,H2,[],[],0,I4 _ I2.tk,⟨by rw[Ad,BK,I2.len],fun _ _ e=>e⟩,hacc,.nil,HD,Tn.keep _ _ _ st2 fun b _ o e=>old b o e,fun b hb=>(f2 b hb).1,w0⟩
  rintro n s3 ⟨i,σ3,H3,ys,its,k,I3,⟨hl3,hs3⟩,hD3,hv3,hH3,st3,fr3,w3⟩;have hlen:its.length=ys.length:=hv3.length.symm;have D_fs:D∉X'.fs:=nfs D (by omega);have DC':D≠X'.env.locals:=hDC;have I3p:Inv X' (pins++[(D,{ cls:=.type "list",data:=.seq its.toArray k })]) (σ++List.replicate T.length none) H3 s3:=
   (I3.weak (by rw[hl3,Ad,BK,I2.len]) hs3).pins_of fun p hp=>by
    rcases Al.mp hp with z | z
    ·exact I3.pin p (Ag _ z)
    ·have e:=AC.mp z;subst e;exact⟨hD3,hH3,DC',D_fs,fun v z=>by cases z⟩
  have pinsD:∀p∈pins++[(D,({ cls:=.type "list",data:=.seq its.toArray k }:Obj))],p∈pins\/p.1=D:=fun p hp=>by
   rcases Al.mp hp with z | z
   ·exact .inl z
   ·exact .inr (by rw[AC.mp z])
  rcases turn i n ys H3 w3 with⟨stop,hz,qn⟩ | ⟨go,hz,step⟩
  ·refine thn (Tn.done X' rfl rfl rfl hc i _ s3 _ H3 _ I3p (fpk _ H3 pinsD fr3) st3 stop) fun r s4 ⟨hr,I4'⟩=>?_;subst hr;obtain⟨hD4,hH4,_⟩:=I4'.pin (D,_) (Ag _ (Ag _ Av));obtain⟨m',hn',_⟩:=I4'.loc;have un:Un (frs X.stack) fp H2 (upd H3 D (.lst ys)) s₂.heap s4.heap:={
    keep:=I4'.base.keep,slot:=I4'.base.slot
    free:=fun b o e n hx=>by
     have:=ltN e;rw[qr (neN (by omega))];exact I4'.base.free b o e n hx
    there:=I4'.base.there
    tups:=fun b xs e=>by rw[qr (fun z=>by rw[z,HD] at e;cases e)];exact I4'.base.tups b xs e
    frzs:=fun b o u e=>by rw[qr (fun z=>by rw[z,HD] at e;cases e)];exact I4'.base.frzs b o u e
    tbls:=fun b ps e=>by rw[qr (fun z=>by rw[z,HD] at e;cases e)];exact I4'.base.tbls b ps e }
   have hok:HOk X.prog X.w (upd H3 D (.lst ys)) s4.heap:=fun b u e=>by
    by_cases hb:b=D
    ·subst hb;rw[zv] at e;cases e;exact⟨hz,its,k,hv3,hD4⟩
    ·rw[qr hb] at e;refine(I4'.hok b u e).stay (fun _ _ _ q=>q) (fun c q=>?_) fun c xs q=>?_
     ·rw[qr (zq q hH3)];exact q
     ·rw[qr (zq q hH3)];exact q
   have I5:Inv X pins σ (upd H3 D (.lst ys)) s4:=I2.call' (ch:=fp) I4'.os un hok I4'.bare fun b hb=>⟨(f2 b hb).2.2.2.1,(f2 b hb).2.1,(f2 b hb).2.2.2.2.1,(f2 b hb).2.2.2.2.2⟩;refine hRR D C s4 _ m' I5 ?_ hn' (qn D hH3);refine⟨by rw[qr (AK hDC)];exact I4'.free,?_,?_,.inr ?_,fun x c e=>?_,fun p hp=>?_⟩
   ·exact neN (by omega)
   ·exact I2.nofs (leN (by omega))
   ·exact leN (by omega)
   ·exact neN (by have:=cellLt x c e;omega)
   ·exact neN (by have:=ltN (I2.pin p hp).1;omega)
  ·refine thn (Tn.item X' rfl rfl rfl hc i _ s3 _ H3 _ I3p (fpk _ H3 pinsD fr3) st3 go) fun r s4 ⟨u,hr,h4⟩=>?_;subst hr;refine thn h4 fun _ s5 ⟨x,H5,I5,r5,y5,st5,fr5⟩=>?_;have I5':=I5.pinned (fpk _ H5 pinsD fr5) (Tn.obj _ _ st5);refine AV ((hg C fp s₂ H2) _ s5 _ H5 x u _ I5' r5 (hgo σ I2.len x H5 _ (step x H5 y5))) (fun _ s6 ⟨σ6,H6,I6,⟨hl6,hs6⟩,q6⟩=>?_) fun _ _ z=>z;refine AV ((hf C fp s₂ H2) _ s6 σ6 H6 _ I6 q6) (fun b s7 ⟨H7,I7,q7⟩=>?_) fun _ _ z=>z;have fin:∀{s8:Shared} {H8:Hp} (I8:Inv X' ((pins++[(D,{ cls:=.type "list",data:=.seq its.toArray k })])++aib fp s5.heap) σ6 H8 s8),tn (i+1) s8.heap/\(∀b∈fp,H8 b=none)/\s8.heap.get? D=some { cls:=.type "list",data:=.seq its.toArray k }/\H8 D=none/\Inv X' pins σ6 H8 s8:=fun {s8 H8} I8=>by
    refine⟨Tn.keep _ _ _ st5 fun b hb o e=>(I8.pin (b,o) (Ag _ (Ag _ (abn hb e)))).1,fun b hb=>?_,?_,?_,I8.unpinned.unpinned⟩
    ·obtain⟨o,e,d⟩:=Tn.obj _ _ st5 b hb;exact(I8.pin (b,o) (Ag _ (Ag _ (abn hb e)))).2.1
    ·exact(I8.pin (D,_) (Ag _ (Aw _ (Ag _ Av)))).1
    ·exact(I8.pin (D,_) (Ag _ (Aw _ (Ag _ Av)))).2.1
   cases b with
   |false=>
    rw[Ax AA] at q7 ⊢;obtain⟨m',hm,w7⟩:=q7;obtain⟨a1,a2,a3,a4,a5⟩:=fin I7;exact⟨m',hm,i+1,σ6,H7,ys,its,k,a5,⟨hl6,hs6⟩,a3,hv3,a4,a1,a2,w7⟩
   |true=>
    rw[AB rfl] at q7 ⊢;refine AV ((he C fp s₂ H2) _ s7 σ6 H7 _ I7 q7) (fun v s8 ⟨y,H8,I8,r8,m',hm,w8⟩=>?_) fun _ _ z=>z;obtain⟨a1,a2,a3,a4,a5⟩:=fin I8;refine aov a3 (by omega) fun h9 k9 hs9 hD9=>?_;have nD:∀b∈fp,b≠D:=fun b hb=>neN (by have:=fpo b hb;omega);refine⟨m',hm,i+1,σ6,H8,ys++[y],its++[v],k9,?_,⟨hl6,hs6⟩,hD9,hv3.append (.cons r8 .nil),a4,Tn.keep _ _ _ a1 fun b hb o e=>(hs9.2 b (nD b hb)).trans e,a2,w8⟩;exact a5.turned (t':=s8.toks) (it:=D) (fun b o hb e=>(hs9.2 b hb).trans e) a4 DC' (.inr (leN (by show @LE.le Nat instLENat s₂.heap.objs.size D;omega))) (fun x c e=>neN (by have:=cellLt x c (S.cl_old I2 e);omega)) fun p hp=>neN (by
     have:=ltN (I2.pin p hp).1;omega)
 exact codeAny_compStart_list (loop _ rfl) (Tn.self _ _ _ _ _ (Tn.keep _ _ _ st2 fun b _ o e=>old b o e) (loop _ rfl))
end
section
variable {X:Cx}{scope:Scope}{T:List Str}{elt target iter:Expr}{ifs:List Expr}{wi:TI}{g:TG}{tc:TT}{te:TE}
theorem a1i(T:List Str){pos:Pos}(S:CompScope X scope)(hc:X.calm=true)(hi:PI X target iter wi)(hg:∀C fp s₀ H₀,PG (X.comp scope T C fp s₀ H₀) target g)(hgo:aj0 g X.N.length T.length)
 (hf:∀C fp s₀ H₀,PF (X.comp scope T C fp s₀ H₀) ifs tc) (he:∀C fp s₀ H₀,PE (X.comp scope T C fp s₀ H₀) elt te)
 (hs:∀x,foldedSetIterable iter X.env x=pure x:=by intro _;rfl):PE X (.ListComp elt [⟨target,iter,ifs,0⟩] scope pos) (tLC T.length wi g tc te):=by
 intro pins s σ H Q I h;rw[eval_ListComp];refine wpAny_comprehension_free (use:=none) rfl hs (S.clo I) S.kind S.names (thn (hi pins s σ H _ I h) fun v s1 h1=>thn h1 fun itv s2 h2=>?_);refine ai2 (RR:=fun acc C=>compPost (model X.prog X.w) X.A X.xe none (EP X pins σ Q) acc C) S hc hg hgo hf he h2 ?_;intro D C s' H' m' I' f' hn q;exact⟨m',hn,fun h' hs'=>⟨.ref D,H',I'.turned (t':=s'.toks) (it:=C) (fun b o hb e=>(hs'.2 b hb).trans e) f'.1 (AK (AK f'.2.1)) f'.2.2.2.1 f'.2.2.2.2.1 f'.2.2.2.2.2,rfl,q⟩⟩
theorem atb(T:List Str){i:Nat}{x:Str}{px lp pos:Pos}(hN:X.N.Nodup)(hix:X.N[i]?=some x)(hx:Loc X.env.scope x)(S:CompScope X scope)(hc:X.calm=true)(hi:PI X target iter wi)
 (hg:∀C fp s₀ H₀,PG (X.comp scope T C fp s₀ H₀) target g) (hgo:aj0 g X.N.length T.length)
 (hf:∀C fp s₀ H₀,PF (X.comp scope T C fp s₀ H₀) ifs tc) (he:∀C fp s₀ H₀,PE (X.comp scope T C fp s₀ H₀) elt te)
 (hsw:swapsWith (.ListComp elt [⟨target,iter,ifs,0⟩] scope lp) (some (.Name x px)) pos.line X.env=pure true:=by rfl)
 (hfn:X.fn x=true\/X.env.scope.names.lookup x=some .local:=by first | exact .inl rfl | exact .inr rfl | assumption)
 (hs:∀x,foldedSetIterable iter X.env x=pure x:=by intro _;rfl):PS X (.Assign [.Name x px] (.ListComp elt [⟨target,iter,ifs,0⟩] scope lp) pos) (ayg (tLC T.length wi g tc te) (acq i)):=by
 intro pins s σ H D I h;rw[exec_Assign_Name_used _ _ _ _ hsw];refine Aa (wpAny_standAt (Aa ?_));show wpAny _ X.A (do let _ <-comprehension (.ListComp elt [⟨target,iter,ifs,0⟩] scope lp) scope X.env _ (newList []) false (eval iter X.env) (some (assign (.Name x px) X.env))) _ _ s;refine Aa (AV (wpAny_comprehension_free (use:=some (assign (.Name x px) X.env)) (Q:=fun _ s'=>SP X pins D .next s') rfl hs (S.clo I) S.kind S.names
  (thn (hi pins s σ H _ I h) fun v s1 h1=>thn h1 fun itv s2 h2=>?_)) (fun _ s' hq=>Ah (Ah hq)) fun _ _ e=>e)
 refine ai2 (RR:=fun acc C=>compPost (model X.prog X.w) X.A X.xe (some (assign (.Name x px) X.env)) (fun _ s'=>SP X pins D .next s') acc C) (pins:=pins) (σ:=σ) (Q:=fun x H1=>acq i x σ H1 D.nx) S hc hg hgo hf he h2 ?_;intro A C s' H' m' I' f' hn q;show wpAny _ X.A (assign (.Name x px) X.env (.ref A)) _ _ s';refine wpAny_assign_Name (ajd I' hN hix hx (v:=.ref A) rfl (fun s'' I'' ⟨a,hs,ha⟩ _=>?_) hfn);have hCa:C≠a:=by
  rcases ha with z | z
  ·rw[z];exact f'.2.1
  ·exact fun e=>f'.2.2.2.2.1 x a z e.symm
 exact⟨m',hn.sameBut hs hCa,fun h' hs'=>⟨_,H',I''.turned (t':=s''.toks) (it:=C) (fun b o hb e=>(hs'.2 b hb).trans e) f'.1 f'.2.1 f'.2.2.2.1 f'.2.2.2.2.1 f'.2.2.2.2.2,q⟩⟩
end
def compOk(outer:Scope)(N:List Str)(sc:Scope):Bool:=
 decide (sc.kind=.function)&&sc.names.all (fun p=>decide (p.2≠.cell)&&(decide (p.2≠.local)||decide (sc.names.lookup p.1=some .local))&&(decide (p.2≠.free)||(decide (outer.names.lookup p.1=some .cell)||decide (outer.names.lookup p.1=some .free))))
  && N.all (fun x=>decide (sc.names.lookup x≠some .local))
theorem compOk.mk{X:Cx}{sc:Scope}(h:compOk X.env.scope X.N sc=true):CompScope X sc:=by
 unfold compOk at h;rw[AX,AX,Cw,Cw] at h;obtain⟨⟨h1,h2⟩,h3⟩:=h;have fm:∀n,(n,NameKind.free)∈sc.names->X.env.kindOf n=some .cell\/X.env.kindOf n=some .free:=fun n hn=>by
  have q:=h2 _ hn;simp only[AX,DL,decide_eq_true_eq] at q;rcases q.2 with z | z
  ·exact absurd rfl z
  ·exact z
 refine⟨of_decide_eq_true h1,fun y hy=>?_,fun y hy e=>?_,fun n hn=>fm n (Bu hn),fm,fun x hx=>of_decide_eq_true (h3 x hx)⟩
 ·have q:=h2 _ hy;simp only[AX,DL,decide_eq_true_eq] at q;exact q.1.1
 ·have q:=h2 _ hy;simp only[AX,DL,decide_eq_true_eq] at q;rcases q.1.2 with z | z
  ·exact absurd e z
  ·exact z
theorem ao8(n:Nat):aj0 (acq n) n 1:=by
 intro σ hl x H Q h;refine⟨⟨by simp[hl],fun i v e=>?_⟩,h⟩
 by_cases hi:i=n
 ·subst hi;rw[Am (by omega)] at e;simp[hl] at e
 ·rw[Bi (AK hi)];exact e
theorem adg:bootBuiltins "isinstance" = some (.builtin "isinstance"):=by decide +kernel
theorem ae8:bootBuiltins "tuple" = some (.type "tuple"):=by decide +kernel
theorem as6:bootBuiltins "str" = some (.type "str"):=by decide +kernel
theorem aoi:bootBuiltins "int" = some (.type "int"):=by decide +kernel
theorem abi:bootBuiltins "list" = some (.type "list"):=by decide +kernel
theorem zc:bootBuiltins "len" = some (.builtin "len"):=by decide +kernel
theorem huK{A:Around}{k:Nat}(hr:Room k A):A.units+128<cLine:=by have:=hr.un;omega
theorem adf{n:Nat}(h:n≤1000):n≤sizeLine:=Bv (ajk h)
theorem Cal.of{P:Program}{w:World}{K:Af}{mg:Str->Option Value}{base:Heap}{k:Nat}{x:Str}{ps:List Str}{sp:Sp}{f:Addr}{fd:FuncData}(F:FnOk P w K mg base CX0 k f fd ps sp)(b:Binds K fd ps [])(kp:PySem.W.keepIn K (.ref f)=true)(m:mg x=some (.ref f)):
 Cal P w K mg base k x ps sp:=⟨f,fd,F,b,kp,m⟩
theorem FnOk.never{P:Program}{w:World}{K:Af}{mg:Str->Option Value}{base:Heap}{k:Nat}{ps:List Str}{sp:Sp}{f:Addr}{fd:FuncData}(no:∀vs H Q E,¬sp vs H Q E):FnOk P w K mg base CX0 k f fd ps sp:=
 ⟨fun vs H Q E h=>absurd h (no vs H Q E),fun A outer s H args us vs Q E _ _ _ _ h=>absurd h (no vs H Q E)⟩
section
variable {X:Cx}(K:Af)(P:Program)(w:World)
end
structure DefIn(K:Af)(x:Str)(st:Stmt):Prop where
 ex:∃(f:Addr) (kV doc pm:Value) (an:Option Addr) (cdv ct:Value),PySem.W.nsIn K mainGlobals x=some (some (.ref f))/\Fun K x x st f (PySem.W.fnOf x x (vc st) (qw st) (qg st) .none kV doc pm an cdv ct)
theorem def_in{K:Af}{x:Str}{st:Stmt}{f:Addr}{oc:Value}{od an:Option Addr}{osl:Array (Option Value)}{kV doc pm cdv ct:Value}(a:PySem.W.nsIn K mainGlobals x=some (some (.ref f)))
 (l:K.lookup f=some ⟨oc,od,.func (PySem.W.fnOf x x (vc st) (qw st) (qg st) .none kV doc pm an cdv ct),osl⟩) (c:PySem.W.codeIn K cdv x=true) (k:PySem.W.keepIn K (.ref f)=true):DefIn K x st:=
 ⟨f,kV,doc,pm,an,cdv,ct,a,ayy (st:=st) l c k⟩
theorem DefIn.use{K:Af}{x:Str}{st:Stmt}{ps:List Str}{h:Heap}{mg:Str->Option Value}(D:DefIn K x st)(X:K.In h)(G:h.Ns mainGlobals mg)
 (hb:∀(kV doc pm:Value) (an:Option Addr) (cdv ct:Value) (us:List Value),us.length=ps.length->bindArgs (PySem.W.fnOf x x (vc st) (qw st) (qg st) .none kV doc pm an cdv ct) ⟨us,[]⟩=pure (ps.zip us)):
 ∃f fd,Fun K x x st f fd/\Binds K fd ps []/\mg x=some (.ref f):=by
 obtain⟨f,kV,doc,pm,an,cdv,ct,a,F⟩:=D.ex;exact⟨f,_,F,Binds.all (hb kV doc pm an cdv ct),C5 X G a⟩
end L2
namespace Words
open PySem L2
inductive Wd where
 |leaf (t:Bool) (n:Str)
 |node (e:Bool) (l r:Wd)
def kL:Bool->Str
 |false => "plain"
 |true => "turned"
def kN:Bool->Str
 |false => "both"
 |true => "either"
def Wd.turn:Wd->Wd
 |.leaf t n=>.leaf (!t) n
 |.node e l r=>.node (!e) l.turn r.turn
def Wd.depth:Wd->Nat
 |.leaf _ _=>1
 |.node _ l r=>max l.depth r.depth+1
def Wd.leaves:Wd->Nat
 |.leaf _ _=>1
 |.node _ l r=>l.leaves+r.leaves
theorem Wd.leaves_pos:∀w:Wd,1≤w.leaves
 |.leaf _ _=>An _
 |.node _ l r=>by have:=Wd.leaves_pos l;show 1≤l.leaves+r.leaves;omega
theorem Wd.depth_le:∀w:Wd,w.depth≤w.leaves
 |.leaf _ _=>An _
 |.node _ l r=>by
  have:=Wd.depth_le l;have:=Wd.depth_le r;have:=Wd.leaves_pos l;have:=Wd.leaves_pos r;show max l.depth r.depth+1≤l.leaves+r.leaves;omega
def enc:Wd->Da
 |.leaf t n=>.tup [.s (.str (kL t)),.s (.str n)]
 |.node e l r=>.tup [.s (.str (kN e)),enc l,enc r]
def acm(x:Str):Prop:=1≤x.length/\x.length≤8/\∀c∈x.cps.toList,97≤c/\c≤122
def Wd.ok:Wd->Prop
 |.leaf _ n=>acm n
 |.node _ l r=>l.ok/\r.ok
theorem Paired.getP{α β:Type}{F:α->β->Prop}:∀{xs:List α} {ys:List β} {i:Nat} {x:α},Paired F xs ys->xs[i]?=some x->∃y,ys[i]?=some y/\F x y
 |_,_,_,_,.nil,h=>by simp at h
 |_,_,0,_,.cons (b:=y) r _,h=>by simp at h;subst h;exact⟨y,rfl,r⟩
 |_,_,i+1,_,.cons _ t,h=>by
  obtain⟨y,e,q⟩:=Paired.getP (i:=i) t (by simpa using h);exact⟨y,by simpa using e,q⟩
end Words
namespace L2
open PySem PySem.Spec PyProof.Rows
section
variable {X:Cx}{pins:List (Addr×Obj)}{σ:St}{H:Hp}{s:Shared}
theorem aqb{A:Around}{n m:Nat}{a b:Addr}{xs ys:List V}{ds es:List Da}(I:Inv X pins σ H s)(hu:A.units<cLine)(sx:SqT X.K H a xs)(sy:SqT X.K H b ys)(px:Paired (xp X.K H n) xs ds)(py:Paired (xp X.K H m) ys es)
 (ih:∀{x y:V} {d e:Da} {u v:Value},xp X.K H n x d->xp X.K H m y e->RelV x u->RelV y v->SeqAt.EqAt A.in1 s u v (Da.eq d e)):SeqAt.RcNeAt A s (.ref a) (.ref b) (!Da.eqs ds es):=by
 obtain⟨us,vx,tx,_⟩:=I.tuple sx;obtain⟨vs,vy,ty,_⟩:=I.tuple sy;have q:=SeqAt.RcNeAt.tuples tx ty hu (aeu px py vx vy ih);rw[Ao,Ao,<-vx.length,<-vy.length,px.length,py.length,Da.eqs_range] at q;exact q
theorem asv{A:Around}{n m:Nat}{a b:Addr}{xs ys:List V}{ds es:List Da}(I:Inv X pins σ H s)(hu:A.units<cLine)(sx:SqL X.K H a xs)(sy:SqL X.K H b ys)(px:Paired (xp X.K H n) xs ds)(py:Paired (xp X.K H m) ys es)
 (ih:∀{x y:V} {d e:Da} {u v:Value},xp X.K H n x d->xp X.K H m y e->RelV x u->RelV y v->SeqAt.EqAt A.in1 s u v (Da.eq d e)):SeqAt.RcNeAt A s (.ref a) (.ref b) (!Da.eqs ds es):=by
 obtain⟨us,vx,tx,_⟩:=I.list sx;obtain⟨vs,vy,ty,_⟩:=I.list sy
 by_cases hz:us.toArray.size=vs.toArray.size
 ·have q:=SeqAt.RcNeAt.lists (j7 tx) (j7 ty) hz hu (aeu px py vx vy ih);have hz':ds.length=es.length:=by rw[<-px.length,<-py.length,vx.length,vy.length];simpa using hz
  have e:=Da.eqs_range ds es;rw[hz',Nat.min_self] at e;rw[<-hz'] at e;rw[Ao,<-vx.length,px.length] at q;simp only[beq_self_eq_true,DR] at e;rw[e] at q;exact q
 ·have q:=SeqAt.RcNeAt.lists_lengths (j7 tx) (j7 ty) (by simpa using hz) hu;have hz':ds.length≠es.length:=by
   rw[<-px.length,<-py.length,vx.length,vy.length];intro z;exact hz (by simpa using z)
  have e:=Da.eqs_range ds es;have f:(ds.length==es.length)=false:=by simpa using hz'
  rw[f,CO] at e;rw[<-e];exact q
end
section
variable {X:Cx}
def uNe(K:Af)(k:Nat):R2:=fun x y H Q=>match x,y with
 |.ref a,.ref b=>∃n m d e,n≤k/\xp K H n (.ref a) d/\xp K H m (.ref b) e/\Q (.bl (!Da.eq d e)) H
 |x,y=>awa x y=true/\Q (.bl (!decide (x=y))) H
theorem a04{k:Nat}(hu:X.A.units+k<cLine):OpR X (compareOp .NotEq) (uNe X.K k):=by
 intro pins s σ H x y v u Q I rx ry h;cases x with
 |ref a=>
  cases y with
  |ref b=>
   obtain⟨n,m,d,e,hn,h1,h2,q⟩:=h;cases rx;cases ry;have fin:∀{k:Bool},k=(!Da.eq d e)->SeqAt.RcNeAt X.A s (.ref a) (.ref b) k->wpAny (model X.prog X.w) X.A (compareOp .NotEq (.ref a) (.ref b)) (EP X pins σ Q) X.xe s:=fun {k} e' r=>
    r X.prog X.w X.xe (EP X pins σ Q) (by rw[e'];exact⟨.bl _,H,I,rfl,q⟩)
   cases n with
   |zero=>exact(zr h1.2).elim
   |succ n=>
    cases m with
    |zero=>exact(zr h2.2).elim
    |succ m=>
     have hin:X.A.in1.units+n<cLine:=by show X.A.units+1+n<cLine;omega
     rcases h1 with⟨_,f⟩ | ⟨a',xs,ds,e1,rfl,sx,px⟩ | ⟨a',xs,ds,e1,rfl,sx,px⟩
     ·exact(zr f).elim
     ·cases e1;rcases h2 with⟨_,f⟩ | ⟨b',ys,es,e2,rfl,sy,py⟩ | ⟨b',ys,es,e2,rfl,sy,py⟩
      ·exact(zr f).elim
      ·cases e2;exact fin rfl (aqb I (by omega) sx sy px py fun h1 h2 r1 r2=>aie I n hin h1 h2 r1 r2)
      ·cases e2;obtain⟨us,vx,tx,_⟩:=I.tuple sx;obtain⟨vs,vy,ty,_⟩:=I.list sy;exact fin rfl (.tuple_list tx (j7 ty) (by omega))
     ·cases e1;rcases h2 with⟨_,f⟩ | ⟨b',ys,es,e2,rfl,sy,py⟩ | ⟨b',ys,es,e2,rfl,sy,py⟩
      ·exact(zr f).elim
      ·cases e2;obtain⟨us,vx,tx,_⟩:=I.list sx;obtain⟨vs,vy,ty,_⟩:=I.tuple sy;exact fin rfl (.list_tuple (j7 tx) ty (by omega))
      ·cases e2;exact fin rfl (asv I (by omega) sx sy px py fun h1 h2 r1 r2=>aie I n hin h1 h2 r1 r2)
  |_=>exact axu pins s σ H _ _ v u Q I rx ry h
 |_=>cases y<;>exact axu pins s σ H _ _ v u Q I rx ry h
end
theorem akb:bootBuiltins "max" = some (.builtin "max"):=by decide +kernel
theorem agz:bootBuiltins "bool" = some (.type "bool"):=by decide +kernel
end L2
namespace Words
open PySem L2
def Wd.size:Wd->Nat
 |.leaf _ _=>1
 |.node _ l r=>1+l.size+r.size
theorem Wd.size_eq:∀w:Wd,w.size+1=2*w.leaves
 |.leaf _ _=>rfl
 |.node _ l r=>by
  have:=Wd.size_eq l;have:=Wd.size_eq r;show 1+l.size+r.size+1=2*(l.leaves+r.leaves);omega
end Words
namespace L2
open PySem PySem.Spec PyProof.Rows
section
variable {X:Cx}{pins:List (Addr×Obj)}{σ:St}{H:Hp}{s:Shared}{a C:Addr}{tr:Option Addr}
end
section
variable {X:Cx}{pins:List (Addr×Obj)}{σ:St}{H H':Hp}{s s':Shared}{a b C T:Addr}{tr:Option Addr}{E1:X1}
end
section
variable {X:Cx}{k:Nat}{f C:Addr}{fd:FuncData}{ps:List Str}{sp:Sp}{E1:X1}{x:Str}{p pos:Pos}{e:Expr}{es:List Expr}{t:TA}
end
section
variable {X:Cx}{pins:List (Addr×Obj)}{σ:St}{H:Hp}{s:Shared}{a C T:Addr}{tr:Option Addr}{h':Heap}
end
section
variable {X:Cx}{pins:List (Addr×Obj)}{σ:St}{H:Hp}{s:Shared}{a C T:Addr}
end
open PySem PySem.Spec PyProof.Rows PySem.W
open Builtin.ObjectAttr in
section
variable {prog:Program}{w:World}{A:Around}{E:Value->Shared->Prop}{s:Shared}{K:Frag}{a C:Addr}
open Builtin Builtin.ObjectAttr Builtin.Getset_descriptor in
end
def a0r(K:Af)(H:Hp)(a C:Addr):Prop:=∃oe,H a=some (.frz oe (.own 0))/\oe.cls=.ref C
def TabR(H:Hp)(P:Addr)(q:Str):Prop:=∃ps,H P=some (.tbl ps)/\TriplesOk ps.toList/\∀pos cv,codeAmong pos ps.toList=some cv->∃c' oc vs t,cv=.ref c'/\H c'=some (.frz oc (.own 0))/\oc.data=.fields vs/\vs[1]?=some (.str q t)
theorem TabR.keep{H H':Hp}{P:Addr}{q:Str}(h:TabR H P q)(e:H' P=H P)(t:∀b o u,H b=some (.frz o u)->H' b=some (.frz o u)):TabR H' P q:=by
 obtain⟨ps,h1,h2,h3⟩:=h;refine⟨ps,e.trans h1,h2,fun pos cv z=>?_⟩;obtain⟨c',oc,vs,tt,e1,e2,e3⟩:=h3 pos cv z;exact⟨c',oc,vs,tt,e1,t _ _ _ e2,e3⟩
end L2
namespace L3
open PySem L2
inductive Y where
 |non | bl (b:Bool) | int (i:Int) | str (x:Str) | ref (a:Addr) | ty (n:String) | cd (kvs:List (Str×Str)) | tup (ys:List Y) | sq (ys:List Y)
inductive LO where
 |lst (ys:List Y) | dct (kvs:List (Key×Y)) | ins (C:Addr) (fs:List (Str×Y)) | exc (C:Addr) | tb (q:Str)
abbrev LHp:=Addr->Option LO
def qh(L:LHp)(a:Addr)(o:LO):LHp:=fun b=>if b=a then some o else L b
theorem q9{L:LHp}{a:Addr}{o:LO}:qh L a o a=some o:=by unfold qh;rw[AB rfl]
theorem qd{L:LHp}{a b:Addr}{o:LO}(h:b≠a):qh L a o b=L b:=by unfold qh;rw[Ax h]
theorem xm{L:LHp}{a:Addr}{o u:LO}:qh (qh L a o) a u=qh L a u:=by
 funext b;unfold qh;split<;>rfl
theorem neL{L:LHp}{a b:Addr}{o:LO}(h:L a=some o)(h':L b=none):a≠b:=by
 intro e;subst e;rw[h] at h';cases h'
structure G3 where
 K:Af
 P:Program
 w:World
abbrev _root_.L2.Cx.g3(X:Cx):G3:=⟨X.K,X.prog,X.w⟩
def SqF(K:Af)(H:Hp)(a:Addr)(xs:List V):Prop:=(∃o,H a=some (.frz o (.lst xs)))\/
 ∃(o:Obj) (its:Array Value) (n:Nat),K.lookup a=some o/\o.cls=.type "list" /\ o.dict=none/\o.data=.seq its n/\its.size≤sizeLine/\Vals xs its.toList
theorem SqF.sq{K:Af}{H:Hp}{a:Addr}{xs:List V}(h:SqF K H a xs):SqL K H a xs:=by
 rcases h with⟨o,h⟩ | h
 ·exact .inl (.inr ⟨o,h⟩)
 ·exact .inr h
mutual
def RV(G:G3)(H:Hp):Y->V->Prop
 |.non,v=>v=.non
 |.bl b,v=>v=.bl b
 |.int i,v=>v=.int i
 |.str x,v=>v=.str x
 |.ref a,v=>v=.ref a
 |.ty n,v=>v=.ty n
 |.cd kvs,v=>∃a,v=.ref a/\KD G.K G.P G.w a (kvs.map fun p=>(Sum.inr p.1,V.str p.2))
 |.tup ys,v=>∃a xs,v=.ref a/\SqT G.K H a xs/\RVs G H ys xs
 |.sq ys,v=>∃a xs,v=.ref a/\SqF G.K H a xs/\RVs G H ys xs
def RVs(G:G3)(H:Hp):List Y->List V->Prop
 |[],xs=>xs=[]
 |y::ys,xs=>∃x xs',xs=x::xs'/\RV G H y x/\RVs G H ys xs'
end
def Imm:HO->Bool
 |.tup _=>true
 |.frz _ _=>true
 |_=>false
def TSt(H H':Hp):Prop:=∀a u,Imm u=true->H a=some u->H' a=some u
theorem TSt.refl(H:Hp):TSt H H:=fun _ _ _ h=>h
theorem TSt.trans{H H1 H2:Hp}(a:TSt H H1)(b:TSt H1 H2):TSt H H2:=fun c u i h=>b c u i (a c u i h)
theorem TSt.new{H:Hp}{p:Addr}{o:HO}(h:H p=none):TSt H (upd H p o):=fun _ _ _ q=>by rw[qr (zq q h)];exact q
theorem TSt.lst{H:Hp}{p:Addr}{zs:List V}{o:HO}(h:H p=some (.lst zs)):TSt H (upd H p o):=fun a u i q=>by
 rw[qr ?_];exact q;rintro rfl;rw[h] at q;cases q;cases i
theorem SqT.ts{K:Af}{H H':Hp}{a:Addr}{xs:List V}(h:SqT K H a xs)(t:TSt H H'):SqT K H' a xs:=by
 rcases h with(h | ⟨o,h⟩) | h
 ·exact .inl (.inl (t _ _ rfl h))
 ·exact .inl (.inr ⟨o,t _ _ rfl h⟩)
 ·exact .inr h
theorem SqF.ts{K:Af}{H H':Hp}{a:Addr}{xs:List V}(h:SqF K H a xs)(t:TSt H H'):SqF K H' a xs:=by
 rcases h with⟨o,h⟩ | h
 ·exact .inl ⟨o,t _ _ rfl h⟩
 ·exact .inr h
mutual
theorem RV.ts{G:G3}{H H':Hp}(t:TSt H H'):∀{y:Y} {v:V},RV G H y v->RV G H' y v
 |.non,_,h=>h
 |.bl _,_,h=>h
 |.int _,_,h=>h
 |.str _,_,h=>h
 |.ref _,_,h=>h
 |.ty _,_,h=>h
 |.cd _,_,h=>h
 |.tup _,_,⟨a,xs,e,s,r⟩=>⟨a,xs,e,SqT.ts s t,RVs.ts t r⟩
 |.sq _,_,⟨a,xs,e,s,r⟩=>⟨a,xs,e,s.ts t,RVs.ts t r⟩
theorem RVs.ts{G:G3}{H H':Hp}(t:TSt H H'):∀{ys:List Y} {xs:List V},RVs G H ys xs->RVs G H' ys xs
 |[],_,h=>h
 |_::_,_,⟨x,xs',e,r,s⟩=>⟨x,xs',e,RV.ts t r,RVs.ts t s⟩
end
theorem RVs.length{G:G3}{H:Hp}:∀{ys:List Y} {xs:List V},RVs G H ys xs->ys.length=xs.length
 |[],_,h=>by cases h;rfl
 |_::_,_,⟨x,xs',e,_,s⟩=>by subst e;simp[RVs.length s]
theorem RVs.get{G:G3}{H:Hp}:∀{ys:List Y} {xs:List V} {i:Nat} {y:Y},RVs G H ys xs->ys[i]?=some y->∃x,xs[i]?=some x/\RV G H y x
 |[],_,_,_,_,h=>by simp at h
 |_::_,_,0,_,⟨x,xs',e,r,_⟩,h=>by subst e;simp at h;subst h;exact⟨x,rfl,r⟩
 |_::_,_,i+1,_,⟨x,xs',e,_,s⟩,h=>by
  subst e;obtain⟨x',q,r⟩:=RVs.get (i:=i) s (by simpa using h);exact⟨x',by simpa using q,r⟩
theorem RVs.app{G:G3}{H:Hp}:∀{ys zs:List Y} {xs us:List V},RVs G H ys xs->RVs G H zs us->RVs G H (ys++zs) (xs++us)
 |[],_,_,_,h,q=>by cases h;exact q
 |_::_,_,_,_,⟨x,xs',e,r,s⟩,q=>by subst e;exact⟨x,xs'++_,rfl,r,RVs.app s q⟩
theorem RVs.one{G:G3}{H:Hp}{y:Y}{x:V}(r:RV G H y x):RVs G H [y] [x]:=⟨x,[],rfl,r,rfl⟩
theorem RVs.take{G:G3}{H:Hp}:∀{ys:List Y} {xs:List V} (n:Nat),RVs G H ys xs->RVs G H (ys.take n) (xs.take n)
 |[],_,n,h=>by cases h;simp[RVs]
 |_::_,_,0,_=>by simp[RVs]
 |_::_,_,n+1,⟨x,xs',e,r,s⟩=>by subst e;exact⟨x,xs'.take n,rfl,r,RVs.take n s⟩
theorem RVs.drop{G:G3}{H:Hp}:∀{ys:List Y} {xs:List V} (n:Nat),RVs G H ys xs->RVs G H (ys.drop n) (xs.drop n)
 |[],_,n,h=>by cases h;simp[RVs]
 |_::_,_,0,h=>h
 |_::_,_,n+1,⟨x,xs',e,r,s⟩=>by subst e;exact RVs.drop n s
theorem RVs.setY{G:G3}{H:Hp}{y:Y}{x:V}(r:RV G H y x):∀{ys:List Y} {xs:List V} (i:Nat),RVs G H ys xs->RVs G H (ys.set i y) (xs.set i x)
 |[],_,_,h=>by cases h;simp[RVs]
 |_::_,_,0,⟨x',xs',e,_,s⟩=>by subst e;exact⟨x,xs',rfl,r,s⟩
 |_::_,_,i+1,⟨x',xs',e,q,s⟩=>by subst e;exact⟨x',xs'.set i x,rfl,q,RVs.setY r i s⟩
theorem RVs.dropLast{G:G3}{H:Hp}{ys:List Y}{xs:List V}(h:RVs G H ys xs):RVs G H ys.dropLast xs.dropLast:=by
 rw[List.dropLast_eq_take,List.dropLast_eq_take,h.length];exact h.take _
theorem RVs.eraseIdx{G:G3}{H:Hp}:∀{ys:List Y} {xs:List V} (n:Nat),RVs G H ys xs->RVs G H (ys.eraseIdx n) (xs.eraseIdx n)
 |[],_,n,h=>by cases h;simp[RVs]
 |_::_,_,0,⟨x,xs',e,r,s⟩=>by subst e;exact s
 |_::_,_,n+1,⟨x,xs',e,r,s⟩=>by subst e;exact⟨x,xs'.eraseIdx n,rfl,r,RVs.eraseIdx n s⟩
def RO(G:G3)(H:Hp)(a:Addr):LO->Prop
 |.lst ys=>∃xs,H a=some (.lst xs)/\RVs G H ys xs
 |.dct kvs=>∃xs,H a=some (.dK xs)/\Paired (fun(p:Key×Y) (q:Key×V)=>p.1=q.1/\RV G H p.2 q.2) kvs xs
 |.ins C fs=>∃dx xs,H a=some (.ins C dx xs)/\Paired (fun(p:Str×Y) (q:Str×V)=>p.1=q.1/\RV G H p.2 q.2) fs xs
 |.exc C=>a0r G.K H a C
 |.tb q=>TabR H a q
def RelH(G:G3)(H:Hp)(L:LHp):Prop:=∀a o,L a=some o->RO G H a o
theorem RO.ex{G:G3}{H:Hp}{a:Addr}:∀{o:LO},RO G H a o->∃u,H a=some u
 |.lst _,⟨_,h,_⟩=>⟨_,h⟩
 |.dct _,⟨_,h,_⟩=>⟨_,h⟩
 |.ins _ _,⟨_,_,h,_⟩=>⟨_,h⟩
 |.exc _,⟨_,h,_⟩=>⟨_,h⟩
 |.tb _,⟨_,h,_⟩=>⟨_,h⟩
theorem RelH.none{G:G3}{H:Hp}{L:LHp}(h:RelH G H L){p:Addr}(hp:H p=none):L p=none:=by
 cases e:L p with
 |none=>rfl
 |some o=>obtain⟨u,q⟩:=(h p o e).ex;rw[hp] at q;cases q
theorem RO.keep{G:G3}{H H':Hp}(t:TSt H H'){a:Addr}(e:H' a=H a):∀{o:LO},RO G H a o->RO G H' a o
 |.lst _,⟨xs,h,r⟩=>⟨xs,e.trans h,r.ts t⟩
 |.dct _,⟨xs,h,r⟩=>⟨xs,e.trans h,Paired.mapP r fun _ _ ⟨a,b⟩=>⟨a,b.ts t⟩⟩
 |.ins _ _,⟨dx,xs,h,r⟩=>⟨dx,xs,e.trans h,Paired.mapP r fun _ _ ⟨a,b⟩=>⟨a,b.ts t⟩⟩
 |.exc _,⟨o,h,c⟩=>⟨o,e.trans h,c⟩
 |.tb _,h=>TabR.keep h e fun b o u z=>t b _ rfl z
theorem RelH.skip{G:G3}{H:Hp}{L:LHp}(h:RelH G H L){p:Addr}{o:HO}(hp:H p=.none):RelH G (upd H p o) L:=fun a u e=>by
 obtain⟨x,q⟩:=(h a u e).ex;exact(h a u e).keep (TSt.new hp) (qr (zq q hp))
theorem RelH.newL{G:G3}{H:Hp}{L:LHp}(h:RelH G H L){p:Addr}{ys:List Y}{xs:List V}(hp:H p=.none)(r:RVs G H ys xs):RelH G (upd H p (.lst xs)) (qh L p (.lst ys)):=fun a u e=>by
 by_cases c:a=p
 ·subst c;rw[q9] at e;cases e;exact⟨xs,zv,r.ts (TSt.new hp)⟩
 ·rw[qd c] at e;exact(h a u e).keep (TSt.new hp) (qr c)
theorem RelH.setL{G:G3}{H:Hp}{L:LHp}(h:RelH G H L){p:Addr}{ys:List Y}{xs zs:List V}(hp:H p=some (.lst zs))(r:RVs G H ys xs):RelH G (upd H p (.lst xs)) (qh L p (.lst ys)):=fun a u e=>by
 by_cases c:a=p
 ·subst c;rw[q9] at e;cases e;exact⟨xs,zv,r.ts (TSt.lst hp)⟩
 ·rw[qd c] at e;exact(h a u e).keep (TSt.lst hp) (qr c)
def LSub(L L':LHp):Prop:=∀a o,L a=some o->L' a=some o
theorem LSub.refl(L:LHp):LSub L L:=fun _ _ h=>h
theorem LSub.trans{L L1 L2:LHp}(a:LSub L L1)(b:LSub L1 L2):LSub L L2:=fun c o h=>b c o (a c o h)
theorem LSub.new{L:LHp}{p:Addr}{o:LO}(h:L p=none):LSub L (qh L p o):=fun a u e=>by rw[qd (neL e h)];exact e
theorem RelH.sub{G:G3}{H:Hp}{L L':LHp}(h:RelH G H L')(s:LSub L L'):RelH G H L:=fun a o e=>h a o (s a o e)
abbrev St3:=List (Option Y)
structure RelS(G:G3)(H:Hp)(σ:St)(τ:St3):Prop where
 len:σ.length=τ.length
 get:∀(i:Nat) y,τ[i]?=some (some y)->∃v,σ[i]?=some (some v)/\RV G H y v
theorem RelS.ts{G:G3}{H H':Hp}{σ:St}{τ:St3}(h:RelS G H σ τ)(t:TSt H H'):RelS G H' σ τ:=
 ⟨h.len,fun i y e=>let ⟨v,a,b⟩:=h.get i y e;⟨v,a,b.ts t⟩⟩
theorem RelS.set{G:G3}{H:Hp}{σ:St}{τ:St3}(h:RelS G H σ τ){i:Nat}{v:V}{y:Y}(r:RV G H y v):RelS G H (σ.set i (some v)) (τ.set i (some y)):=by
 refine⟨by simp[h.len],fun j z e=>?_⟩
 by_cases c:i=j
 ·subst c;have hi:i<τ.length:=by
   by_cases q:i<τ.length
   ·exact q
   ·rw[Co (by simp;omega)] at e;cases e
  rw[BP hi] at e;cases e;exact⟨v,BP (by rw[h.len];exact hi),r⟩
 ·rw[Bi c] at e ⊢;exact h.get j z e
theorem RelS.more{G:G3}{H:Hp}{σ:St}{τ:St3}(h:RelS G H σ τ)(n:Nat):RelS G H (σ++List.replicate n none) (τ++List.replicate n none):=by
 refine⟨by simp[h.len],fun j z e=>?_⟩
 by_cases c:j<τ.length
 ·rw[Az c] at e;rw[Az (by rw[h.len];exact c)];exact h.get j z e
 ·rw[Am (by omega),Ca] at e
  split at e<;>cases e
def ano:St3->Nat->Option Y
 |[],_=>none
 |o::_,0=>o
 |_::r,i+1=>ano r i
theorem akc:∀(τ:St3) (i:Nat) {y:Y},ano τ i=some y->τ[i]?=some (some y)
 |[],_,_,h=>by cases h
 |o::_,0,_,h=>by simp[ano] at h;simp[h]
 |_::r,i+1,_,h=>by simp only[CI];exact akc r i h
abbrev YK:=Y->LHp->Prop
abbrev TE3:=St3->LHp->YK->Prop
abbrev TT3:=St3->LHp->(Bool->LHp->Prop)->Prop
abbrev TA3:=St3->LHp->(List Y->LHp->Prop)->Prop
structure Ends3 where
 nx:St3->LHp->Prop
 rt:YK
 bk:St3->LHp->Prop:=fun _ _=>False
 ct:St3->LHp->Prop:=fun _ _=>False
abbrev TS3:=Ends3->St3->LHp->Prop
abbrev TG3:=Y->St3->LHp->(St3->LHp->Prop)->Prop
abbrev amx:=List Y->St3->LHp->(St3->LHp->Prop)->Prop
abbrev TI3:=St3->LHp->(List Y->(LHp->Prop)->LHp->Prop)->Prop
abbrev R23:=Y->Y->LHp->YK->Prop
def Aft(G:G3)(H:Hp)(Q3:YK)(Q:VK):Prop:=∀v H' y L',TSt H H'->RelH G H' L'->RV G H' y v->Q3 y L'->Q v H'
def AftB(G:G3)(H:Hp)(Q3:Bool->LHp->Prop)(Q:Bool->Hp->Prop):Prop:=∀b H' L',TSt H H'->RelH G H' L'->Q3 b L'->Q b H'
def a2p(G:G3)(H:Hp)(Q3:List Y->LHp->Prop)(Q:List V->Hp->Prop):Prop:=∀vs H' ys L',TSt H H'->RelH G H' L'->RVs G H' ys vs->Q3 ys L'->Q vs H'
def AftS(G:G3)(H:Hp)(Q3:St3->LHp->Prop)(Q:St->Hp->Prop):Prop:=∀σ H' τ L',TSt H H'->RelS G H' σ τ->RelH G H' L'->Q3 τ L'->Q σ H'
theorem Aft.ts{G:G3}{H H':Hp}{Q3:YK}{Q:VK}(h:Aft G H Q3 Q)(t:TSt H H'):Aft G H' Q3 Q:=fun v H2 y L' t2=>h v H2 y L' (t.trans t2)
theorem AftB.ts{G:G3}{H H':Hp}{Q3:Bool->LHp->Prop}{Q:Bool->Hp->Prop}(h:AftB G H Q3 Q)(t:TSt H H'):AftB G H' Q3 Q:=fun v H2 L' t2=>h v H2 L' (t.trans t2)
theorem AftS.ts{G:G3}{H H':Hp}{Q3:St3->LHp->Prop}{Q:St->Hp->Prop}(h:AftS G H Q3 Q)(t:TSt H H'):AftS G H' Q3 Q:=fun v H2 y L' t2=>h v H2 y L' (t.trans t2)
structure AftD(G:G3)(H:Hp)(D3:Ends3)(D:Ends):Prop where
 nx:AftS G H D3.nx D.nx
 rt:Aft G H D3.rt D.rt
 bk:AftS G H D3.bk D.bk
 ct:AftS G H D3.ct D.ct
theorem AftD.ts{G:G3}{H H':Hp}{D3:Ends3}{D:Ends}(h:AftD G H D3 D)(t:TSt H H'):AftD G H' D3 D:=⟨h.nx.ts t,h.rt.ts t,h.bk.ts t,h.ct.ts t⟩
def upE(G:G3)(t:TE3):TE:=fun σ H Q=>∃τ L Q3,RelS G H σ τ/\RelH G H L/\t τ L Q3/\Aft G H Q3 Q
def upT(G:G3)(t:TT3):TT:=fun σ H Q=>∃τ L Q3,RelS G H σ τ/\RelH G H L/\t τ L Q3/\AftB G H Q3 Q
def upA(G:G3)(t:TA3):TA:=fun σ H Q=>∃τ L Q3,RelS G H σ τ/\RelH G H L/\t τ L Q3/\a2p G H Q3 Q
def upS(G:G3)(t:TS3):L2.TS:=fun D σ H=>∃τ L D3,RelS G H σ τ/\RelH G H L/\t D3 τ L/\AftD G H D3 D
def upG(G:G3)(g:TG3):TG:=fun v σ H Q=>∃y τ L Q3,RV G H y v/\RelS G H σ τ/\RelH G H L/\g y τ L Q3/\AftS G H Q3 Q
def a3e(G:G3)(g:amx):TGs:=fun vs σ H Q=>∃ys τ L Q3,RVs G H ys vs/\RelS G H σ τ/\RelH G H L/\g ys τ L Q3/\AftS G H Q3 Q
structure Yields(G:G3)(H₀:Hp)(J:It)(ys:List Y)(keep:LHp->Prop):Prop where
 go:∀i H L,TSt H₀ H->RelH G H L->keep L->i<ys.length->J.go i H
 yld:∀i H L x H' y,TSt H₀ H->RelH G H L->keep L->ys[i]?=some y->J.yld i H x H'->TSt H H'/\RelH G H' L/\RV G H' y x
 stop:∀H L,TSt H₀ H->RelH G H L->keep L->J.stop ys.length H
def upI(G:G3)(wi:TI3):TI:=fun σ H R=>∃τ L R3,RelS G H σ τ/\RelH G H L/\wi τ L R3/\∀J H' ys keep L',TSt H H'->RelH G H' L'->Yields G H' J ys keep->R3 ys keep L'->R J H'
def upR(G:G3)(r3:R23):R2:=fun x y H Q=>∃x3 y3 L Q3,RV G H x3 x/\RV G H y3 y/\RelH G H L/\r3 x3 y3 L Q3/\Aft G H Q3 Q
def upL(G:G3)(r3:List Y->LHp->YK->Prop):List V->Hp->VK->Prop:=fun xs H Q=>∃ys L Q3,RVs G H ys xs/\RelH G H L/\r3 ys L Q3/\Aft G H Q3 Q
theorem PE.imp{X:Cx}{e:Expr}{t u:TE}(h:PE X e t)(q:∀σ H Q,u σ H Q->t σ H Q):PE X e u:=fun pins s σ H Q I z=>h pins s σ H Q I (q σ H Q z)
theorem PT.imp{X:Cx}{e:Expr}{t u:TT}(h:PT X e t)(q:∀σ H Q,u σ H Q->t σ H Q):PT X e u:=fun pins s σ H Q I z=>h pins s σ H Q I (q σ H Q z)
theorem PW.imp{X:Cx}{e:Expr}{t u:TT}(h:PW X e t)(q:∀σ H Q,u σ H Q->t σ H Q):PW X e u:=fun wh pins s σ H Q I z=>h wh pins s σ H Q I (q σ H Q z)
theorem PA.imp{X:Cx}{e:List Expr}{t u:TA}(h:PA X e t)(q:∀σ H Q,u σ H Q->t σ H Q):PA X e u:=fun pos pins s σ H Q I z=>h pos pins s σ H Q I (q σ H Q z)
theorem PS.imp{X:Cx}{e:Stmt}{t u:L2.TS}(h:PS X e t)(q:∀D σ H,u D σ H->t D σ H):PS X e u:=fun pins s σ H Q I z=>h pins s σ H Q I (q _ σ H z)
theorem PSs.imp{X:Cx}{e:List Stmt}{t u:L2.TS}(h:PSs X e t)(q:∀D σ H,u D σ H->t D σ H):PSs X e u:=fun pins s σ H Q I z=>h pins s σ H Q I (q _ σ H z)
theorem PF.imp{X:Cx}{e:List Expr}{t u:TT}(h:PF X e t)(q:∀σ H Q,u σ H Q->t σ H Q):PF X e u:=fun pins s σ H Q I z=>h pins s σ H Q I (q σ H Q z)
def vm(b:Bool)(A B:Prop):Prop:=match b with
 |true=>A
 |false=>B
theorem awt{b:Bool}{A B:Prop}(h:b=true->A)(k:b=false->B):vm b A B:=by
 cases b with
 |true=>exact h rfl
 |false=>exact k rfl
theorem aai{b:Bool}{A B:Prop}(e:b=true)(h:A):vm b A B:=by rw[e];exact h
theorem wo{b:Bool}{A B:Prop}(e:b=false)(h:B):vm b A B:=by rw[e];exact h
theorem zu{p:Prop} [Decidable p]{A B:Prop}(h:p->A)(k:¬p->B):vm (decide p) A B:=by
 by_cases c:p
 ·rw[AD c];exact h c
 ·rw[Aq c];exact k c
def nb(neg b:Bool):Bool:=match neg with
 |true=>!b
 |false=>b
def qb(i:Nat)(τ:St3)(L:LHp)(Q:YK):Prop:=match ano τ i with
 |some y=>Q y L
 |none=>False
def yC(y:Y)(_:St3)(L:LHp)(Q:YK):Prop:=Q y L
def yOp(r:R23)(ta tb:TE3)(τ:St3)(L:LHp)(Q:YK):Prop:=ta τ L fun x L1=>tb τ L1 fun y L2=>r x y L2 Q
def yI(C:Int->Int->Prop)(g:Int->Int->Y)(x y:Y)(L:LHp)(Q:YK):Prop:=match x,y with
 |.int i,.int j=>C i j/\Q (g i j) L
 |_,_=>False
def yI0(g:Int->Int->Y)(x y:Y)(L:LHp)(Q:YK):Prop:=match x,y with
 |.int i,.int j=>Q (g i j) L
 |_,_=>False
def ab4(L:LHp):Y->Option (List Y)
 |.tup ys=>some ys
 |.sq ys=>some ys
 |.ref a=>match L a with
  |some (.lst ys)=>some ys
  |_=>none
 |_=>none
@[irreducible] def ac7 (L:LHp) (a:Addr) (k:List Y->Prop):Prop:=match L a with
 |some (.lst ys)=>k ys
 |_=>False
theorem x8{L:LHp}{a:Addr}{k:List Y->Prop}(h:ac7 L a k):∃ys,L a=some (.lst ys)/\k ys:=by
 unfold ac7 at h
 split at h
 ·rename_i ys e;exact⟨ys,e,h⟩
 ·exact h.elim
theorem qm{L:LHp}{a:Addr}{k:List Y->Prop}{ys:List Y}(e:L a=some (.lst ys))(h:k ys):ac7 L a k:=by
 unfold ac7;rw[e];exact h
def aew(L:LHp)(x:Y)(k:List Y->Prop):Prop:=match x with
 |.tup ys=>k ys
 |.sq ys=>k ys
 |.ref a=>ac7 L a k
 |_=>False
theorem kj{L:LHp}{a:Addr}{ys:List Y}(h:L a=some (.lst ys)):ab4 L (.ref a)=some ys:=by
 show(match L a with | some (.lst ys)=>some ys | _=>none)=some ys;rw[h]
theorem aa0{L:LHp}{x:Y}{k:List Y->Prop}(h:aew L x k):∃ys,ab4 L x=some ys/\k ys:=by
 cases x with
 |tup ys=>exact⟨ys,rfl,h⟩
 |sq ys=>exact⟨ys,rfl,h⟩
 |ref a=>obtain⟨ys,e,q⟩:=x8 h;exact⟨ys,kj e,q⟩
 |_=>exact h.elim
theorem af8{L:LHp}{a:Addr}{ys:List Y}(h:ab4 L (.ref a)=some ys):L a=some (.lst ys):=by
 have h':(match L a with | some (.lst ys)=>some ys | _=>none)=some ys:=h
 split at h'
 ·rename_i e;cases h';exact e
 ·cases h'
theorem awo{L:LHp}{x:Y}{k:List Y->Prop}{ys:List Y}(e:ab4 L x=some ys)(h:k ys):aew L x k:=by
 cases x with
 |tup zs=>cases e;exact h
 |sq zs=>cases e;exact h
 |ref a=>exact qm (af8 e) h
 |_=>cases e
theorem qe{L:LHp}{a:Addr}{k:List Y->Prop}{ys:List Y}(e:L a=some (.lst ys))(h:k ys):aew L (.ref a) k:=awo (kj e) h
def vt(x y:Y)(L:LHp)(Q:YK):Prop:=match x,y with
 |.int i,.int j=>Q (.int (i+j)) L
 |.str a,.str b=>a.length+b.length≤sizeLine/\Q (.str (a++b)) L
 |.ref a,.ref b=>∃ys zs,L a=some (.lst ys)/\L b=some (.lst zs)/\ys.length+zs.length≤sizeLine/\∀p,L p=none->Q (.ref p) (qh L p (.lst (ys++zs)))
 |_,_=>False
def atK{α:Type}(L:LHp)(Q:α->LHp->Prop):Option α->Prop
 |some v=>Q v L
 |none=>False
def aa2(kvs:List (Key×Y))(k:Key):Option Y:=(kvs.find? fun p=>decide (p.1=k)).map (·.2)
@[irreducible] def ao3 (L:LHp) (a:Addr) (k:List (Key×Y)->Prop):Prop:=match L a with
 |some (.dct kvs)=>k kvs
 |_=>False
theorem ahn{L:LHp}{a:Addr}{k:List (Key×Y)->Prop}(h:ao3 L a k):∃kvs,L a=some (.dct kvs)/\k kvs:=by
 unfold ao3 at h
 split at h
 ·rename_i ys e;exact⟨ys,e,h⟩
 ·exact h.elim
theorem w5{L:LHp}{a:Addr}{k:List (Key×Y)->Prop}{kvs:List (Key×Y)}(e:L a=some (.dct kvs))(h:k kvs):ao3 L a k:=by
 unfold ao3;rw[e];exact h
def yIx(x y:Y)(L:LHp)(Q:YK):Prop:=match x,y with
 |.str z,.int i=>z.length≤sizeLine/\atK L (fun c L=>Q (.str ⟨#[c]⟩) L) (atI z.cps.toList i)
 |.cd kvs,.str k=>atK L (fun s L=>Q (.str s) L) (kvs.lookup k)
 |.ref a,.str k=>ao3 L a fun kvs=>atK L Q (aa2 kvs (.inr k))
 |x,.int i=>aew L x fun ys=>atK L Q (atI ys i)
 |_,_=>False
def jk(xs:List Y)(L:LHp)(Q:YK):Prop:=match xs with
 |[.str z]=>z.length≤sizeLine/\Q (.int z.length) L
 |[x]=>aew L x fun ys=>Q (.int ys.length) L
 |_=>False
def amm(xs:List Y)(L:LHp)(Q:YK):Prop:=match xs with
 |[.int i,.int j]=>Q (.int (max i j)) L
 |_=>False
def am7(xs:List Y)(L:LHp)(Q:YK):Prop:=match xs with
 |[.int i,.int j]=>Q (.int (min i j)) L
 |_=>False
inductive Ty3 where
 |non | bool | int | str | tuple | list | dict
def Ty3.nm:Ty3->String
 |.non => "NoneType"
 |.bool => "bool"
 |.int => "int"
 |.str => "str"
 |.tuple => "tuple"
 |.list => "list"
 |.dict => "dict"
def tyY(L:LHp):Y->Option Ty3
 |.non=>some .non
 |.bl _=>some .bool
 |.int _=>some .int
 |.str _=>some .str
 |.tup _=>some .tuple
 |.sq _=>some .list
 |.ref a=>match L a with
  |some (.lst _)=>some .list
  |some (.dct _)=>some .dict
  |_=>none
 |_=>none
theorem tyL{L:LHp}{a:Addr}{ys:List Y}(h:L a=some (.lst ys)):tyY L (.ref a)=some .list:=by
 show(match L a with | some (.lst _)=>some Ty3.list | some (.dct _)=>some .dict | _=>none)=some .list;rw[h]
def ab2:Ty3->Ty3->Bool
 |.bool,.int=>true
 |.bool,.bool=>true
 |.int,.int=>true
 |.str,.str=>true
 |.tuple,.tuple=>true
 |.list,.list=>true
 |.dict,.dict=>true
 |.non,.non=>true
 |_,_=>false
@[irreducible] def tyK (L:LHp) (a:Addr) (k:Ty3->Prop):Prop:=match tyY L (.ref a) with
 |some T=>k T
 |none=>False
theorem av5{L:LHp}{a:Addr}{k:Ty3->Prop}(h:tyK L a k):∃T,tyY L (.ref a)=some T/\k T:=by
 unfold tyK at h
 split at h
 ·rename_i T e;exact⟨T,e,h⟩
 ·exact h.elim
theorem abf{L:LHp}{a:Addr}{ys:List Y}{k:Ty3->Prop}(e:L a=some (.lst ys))(h:k .list):tyK L a k:=by unfold tyK;rw[tyL e];exact h
def ayn(L:LHp)(x:Y)(k:Ty3->Prop):Prop:=match x with
 |.non=>k .non
 |.bl _=>k .bool
 |.int _=>k .int
 |.str _=>k .str
 |.tup _=>k .tuple
 |.sq _=>k .list
 |.ref a=>tyK L a k
 |_=>False
theorem amz{L:LHp}{x:Y}{k:Ty3->Prop}(h:ayn L x k):∃T,tyY L x=some T/\k T:=by
 cases x with
 |ref a=>exact av5 h
 |ty n=>exact h.elim
 |cd k=>exact h.elim
 |_=>exact⟨_,rfl,h⟩
def aao(S:Ty3)(te:TE3)(τ:St3)(L:LHp)(Q:YK):Prop:=te τ L fun x L1=>ayn L1 x fun T=>Q (.bl (ab2 T S)) L1
def amb(S S':Ty3)(te:TE3)(τ:St3)(L:LHp)(Q:YK):Prop:=te τ L fun x L1=>ayn L1 x fun T=>Q (.bl (ab2 T S||ab2 T S')) L1
def aat:Y->Bool
 |.non=>true
 |.bl _=>true
 |.int _=>true
 |.str _=>true
 |_=>false
def toV:Y->V
 |.non=>.non
 |.bl b=>.bl b
 |.int i=>.int i
 |.str x=>.str x
 |_=>.ty "?"
theorem RV.flat{G:G3}{H:Hp}:∀{y:Y} {v:V},aat y=true->RV G H y v->v=toV y
 |.non,_,_,h=>h
 |.bl _,_,_,h=>h
 |.int _,_,_,h=>h
 |.str _,_,_,h=>h
theorem aeo:∀{y:Y},aat y=true->aa6 (toV y)=true
 |.non,_=>rfl
 |.bl _,_=>rfl
 |.int _,_=>rfl
 |.str _,_=>rfl
theorem RVs.flat{G:G3}{H:Hp}:∀{ys:List Y} {xs:List V},ys.all aat=true->RVs G H ys xs->xs=ys.map toV
 |[],_,_,h=>h
 |y::ys,_,f,⟨x,xs',e,r,s⟩=>by
  rw[DA,AX] at f;rw[e,r.flat f.1,s.flat f.2];rfl
def axe:Y->Bool
 |.ref _=>true
 |.sq _=>true
 |_=>false
def DatN(L:LHp):Nat->Y->Da->Prop
 |0,y,d=>aat y=true/\d=.s (toV y)
 |n+1,y,d=>(aat y=true/\d=.s (toV y))\/(∃ys ds,y=.tup ys/\d=.tup ds/\Paired (DatN L n) ys ds)\/(∃ys ds,axe y=true/\d=.lst ds/\ab4 L y=some ys/\Paired (DatN L n) ys ds)
def aq5:Y->Bool
 |.ref _=>true
 |.tup _=>true
 |.sq _=>true
 |_=>false
def yEq(neg:Bool)(x y:Y)(L:LHp)(Q:YK):Prop:=match x,y with
 |.int i,.int j=>Q (.bl (nb neg (decide (i=j)))) L
 |.str i,.str j=>Q (.bl (nb neg (decide (i=j)))) L
 |.bl i,.bl j=>Q (.bl (nb neg (decide (i=j)))) L
 |x,y=>aq5 x=true/\aq5 y=true/\∃n m d e,n≤128/\DatN L n x d/\DatN L m y e/\Q (.bl (nb neg (Da.eq d e))) L
def aco(neg:Bool)(ta:TE3)(τ:St3)(L:LHp)(Q:YK):Prop:=ta τ L fun x L1=>match x with
 |.non=>Q (.bl (!neg)) L1
 |_=>Q (.bl neg) L1
def yB(t:TE3)(τ:St3)(L:LHp)(Q:Bool->LHp->Prop):Prop:=t τ L fun x L1=>match x with
 |.bl c=>Q c L1
 |_=>False
def ac1(t u:TT3)(τ:St3)(L:LHp)(Q:Bool->LHp->Prop):Prop:=t τ L fun c L1=>vm c (u τ L1 Q) (Q false L1)
def yOr(t u:TT3)(τ:St3)(L:LHp)(Q:Bool->LHp->Prop):Prop:=t τ L fun c L1=>vm c (Q true L1) (u τ L1 Q)
def anr(t:TT3)(τ:St3)(L:LHp)(Q:Bool->LHp->Prop):Prop:=t τ L fun c L1=>Q (!c) L1
def amo(ta tb:TE3)(τ:St3)(L:LHp)(Q:YK):Prop:=ta τ L fun x L1=>match x with
 |.bl c=>vm c (tb τ L1 Q) (Q (.bl false) L1)
 |_=>False
def yIf(t:TT3)(ta tb:TE3)(τ:St3)(L:LHp)(Q:YK):Prop:=t τ L fun c L1=>vm c (ta τ L1 Q) (tb τ L1 Q)
def qj(_:St3)(L:LHp)(Q:List Y->LHp->Prop):Prop:=Q [] L
def qa(ta:TE3)(tr:TA3)(τ:St3)(L:LHp)(Q:List Y->LHp->Prop):Prop:=ta τ L fun x L1=>tr τ L1 fun xs L2=>Q (x::xs) L2
def jw(t:TA3)(τ:St3)(L:LHp)(Q:YK):Prop:=t τ L fun ys L1=>match Nat.ble ys.length 1000 with
 |true=>Q (.tup ys) L1
 |false=>False
def xa(t:TA3)(τ:St3)(L:LHp)(Q:YK):Prop:=t τ L fun ys L1=>match Nat.ble ys.length 1000 with
 |true=>∀p,L1 p=none->Q (.ref p) (qh L1 p (.lst ys))
 |false=>False
def yCB(r:List Y->LHp->YK->Prop)(t:TA3)(τ:St3)(L:LHp)(Q:YK):Prop:=t τ L fun vs L1=>r vs L1 Q
abbrev TO3:=St3->LHp->(Option Int->LHp->Prop)->Prop
def agu(_:St3)(L:LHp)(Q:Option Int->LHp->Prop):Prop:=Q none L
def aj4(t:TE3)(τ:St3)(L:LHp)(Q:Option Int->LHp->Prop):Prop:=t τ L fun x L1=>match x with
 |.int i=>Q (some i) L1
 |_=>False
def alo(xs:List Y)(lo hi:Option Int):List Y:=(xs.drop (HT.sIx xs.length 0 lo)).take (HT.sIx xs.length xs.length hi - HT.sIx xs.length 0 lo)
def a1u(x:Y)(lo hi:Option Int)(L:LHp)(Q:YK):Prop:=match x with
 |.ref a=>ac7 L a fun ys=>∀p,L p=none->Q (.ref p) (qh L p (.lst (alo ys lo hi)))
 |.sq ys=>∀p,L p=none->Q (.ref p) (qh L p (.lst (alo ys lo hi)))
 |_=>False
def ySl(r:Y->Option Int->Option Int->LHp->YK->Prop)(te:TE3)(tl th:TO3)(τ:St3)(L:LHp)(Q:YK):Prop:=te τ L fun x L1=>tl τ L1 fun l L2=>th τ L2 fun u L3=>r x l u L3 Q
def qt(t u:TS3)(D:Ends3)(τ:St3)(L:LHp):Prop:=t { D with nx:=u D } τ L
def je(D:Ends3)(τ:St3)(L:LHp):Prop:=D.nx τ L
def axb(D:Ends3)(τ:St3)(L:LHp):Prop:=D.ct τ L
def j9(te:TE3)(D:Ends3)(τ:St3)(L:LHp):Prop:=te τ L fun _ L1=>D.nx τ L1
def jo(te:TE3)(D:Ends3)(τ:St3)(L:LHp):Prop:=te τ L D.rt
def atd(D:Ends3)(_:St3)(L:LHp):Prop:=D.rt .non L
def jt(c:TT3)(t u:TS3)(D:Ends3)(τ:St3)(L:LHp):Prop:=c τ L fun b L1=>vm b (t D τ L1) (u D τ L1)
def zm(te:TE3)(g:TG3)(D:Ends3)(τ:St3)(L:LHp):Prop:=te τ L fun x L1=>g x τ L1 D.nx
def aaq:St3->Nat->Y->St3
 |[],_,_=>[]
 |_::r,0,y=>some y::r
 |o::r,i+1,y=>o::aaq r i y
theorem vq:∀(τ:St3) (i:Nat) (y:Y),aaq τ i y=τ.set i (some y)
 |[],_,_=>rfl
 |_::_,0,_=>rfl
 |o::r,i+1,y=>by rw[aaq,vq r i y];rfl
def qi(i:Nat)(y:Y)(τ:St3)(L:LHp)(Q:St3->LHp->Prop):Prop:=Q (aaq τ i y) L
def xt(ys:List Y)(τ:St3)(L:LHp)(Q:St3->LHp->Prop):Prop:=match ys with
 |[]=>Q τ L
 |_=>False
def za(t:TG3)(u:amx)(ys:List Y)(τ:St3)(L:LHp)(Q:St3->LHp->Prop):Prop:=match ys with
 |[]=>False
 |y::r=>t y τ L fun τ' L'=>u r τ' L' Q
def vg(n:Nat)(t:amx)(y:Y)(τ:St3)(L:LHp)(Q:St3->LHp->Prop):Prop:=match y with
 |.tup ys=>match ys.length==n with
  |true=>t ys τ L Q
  |false=>False
 |_=>False
def azv(i j:Nat)(ta:TA3)(D:Ends3)(τ:St3)(L:LHp):Prop:=ta τ L fun vs L1=>match vs with
 |[v,w]=>D.nx (aaq (aaq τ i v) j w) L1
 |_=>False
def Frg{α:Type}(W:α->LHp->Prop)(x:α)(L:LHp):Prop:=∃L',LSub L' L/\W x L'
theorem frg{α:Type}{W:α->LHp->Prop}{x:α}{L:LHp}(h:W x L):Frg W x L:=⟨L,LSub.refl L,h⟩
def ak4(c:TT3)(tb:TS3)(D:Ends3)(τ:St3)(L:LHp):Prop:=∃W:Nat->St3->LHp->Prop,(∃m,W m τ L)/\∀m τ L,W m τ L->
 c τ L fun b L1=>vm b (∃N:St3->LHp->Prop,(∀τ' L',N τ' L'->∃m',m'<m/\W m' τ' L')/\tb { D with nx:=Frg N,ct:=Frg N,bk:=D.nx } τ L1) (D.nx τ L1)
@[irreducible] def ane (ys:List Y) (keep:LHp->Prop) (g:TG3) (tb:TS3) (D:Ends3) (τ:St3) (L1:LHp):Prop:=∃W:Nat->St3->LHp->Prop,W 0 τ L1/\(∀i τ L,W i τ L->keep L)/\
 (∀i y τ L,ys[i]?=some y->W i τ L->g y τ L fun τ2 L2=>tb { D with nx:=Frg (W (i+1)),ct:=Frg (W (i+1)),bk:=D.nx } τ2 L2)/\∀τ L,W ys.length τ L->D.nx τ L
theorem xr{ys:List Y}{keep:LHp->Prop}{g:TG3}{tb:TS3}{D:Ends3}{τ:St3}{L1:LHp}(h:∃W:Nat->St3->LHp->Prop,W 0 τ L1/\(∀i τ L,W i τ L->keep L)/\
 (∀i y τ L,ys[i]?=some y->W i τ L->g y τ L fun τ2 L2=>tb { D with nx:=Frg (W (i+1)),ct:=Frg (W (i+1)),bk:=D.nx } τ2 L2)/\∀τ L,W ys.length τ L->D.nx τ L):ane ys keep g tb D τ L1:=by unfold ane;exact h
theorem arw{ys:List Y}{keep:LHp->Prop}{g:TG3}{tb:TS3}{D:Ends3}{τ:St3}{L1:LHp}(h:ane ys keep g tb D τ L1):∃W:Nat->St3->LHp->Prop,W 0 τ L1/\(∀i τ L,W i τ L->keep L)/\
 (∀i y τ L,ys[i]?=some y->W i τ L->g y τ L fun τ2 L2=>tb { D with nx:=Frg (W (i+1)),ct:=Frg (W (i+1)),bk:=D.nx } τ2 L2)/\∀τ L,W ys.length τ L->D.nx τ L:=by unfold ane at h;exact h
def ac3(wi:TI3)(g:TG3)(tb:TS3)(D:Ends3)(τ:St3)(L:LHp):Prop:=wi τ L fun ys keep L1=>ane ys keep g tb D τ L1
@[irreducible] def alv (L:LHp) (a:Addr) (R:List Y->(LHp->Prop)->LHp->Prop):Prop:=match L a with
 |some (.lst ys)=>R ys (fun L=>L a=some (.lst ys)) L
 |_=>False
theorem jn{L:LHp}{a:Addr}{R:List Y->(LHp->Prop)->LHp->Prop}{ys:List Y}(h:L a=some (.lst ys))(q:∀keep:LHp->Prop,(∀L',L' a=L a->keep L')->R ys keep L):alv L a R:=by
 unfold alv;rw[h];exact q _ fun L' e'=>e'.trans h
theorem anl{L:LHp}{a:Addr}{R:List Y->(LHp->Prop)->LHp->Prop}(h:alv L a R):∃ys keep,ab4 L (.ref a)=some ys/\keep L/\(∀L',keep L'->ab4 L' (.ref a)=some ys)/\R ys keep L:=by
 unfold alv at h
 split at h
 ·rename_i ys e;exact⟨ys,_,kj e,e,fun L' e'=>kj e',h⟩
 ·exact h.elim
def xg(tl:TE3)(τ:St3)(L:LHp)(R:List Y->(LHp->Prop)->LHp->Prop):Prop:=tl τ L fun x L1=>match x with
 |.ref a=>alv L1 a R
 |.sq ys=>R ys (fun _=>True) L1
 |_=>False
def axk(tl:TE3)(τ:St3)(L:LHp)(R:List Y->(LHp->Prop)->LHp->Prop):Prop:=tl τ L fun x L1=>match x with
 |.tup ys=>R ys (fun _=>True) L1
 |_=>False
def aa5(lo:Int)(n:Nat):List Y:=(List.range n).map fun k=>.int (lo+(k:Nat))
def adn(ta:TA3)(τ:St3)(L:LHp)(R:List Y->(LHp->Prop)->LHp->Prop):Prop:=ta τ L fun vs L1=>match vs with
 |[.int j]=>(-(2 ^ 62)≤j/\j<2 ^ 62)/\R (aa5 0 j.toNat) (fun _=>True) L1
 |_=>False
def auk(_:St3)(L:LHp)(Q:Bool->LHp->Prop):Prop:=Q true L
@[irreducible] def lcK (ys:List Y) (keep:LHp->Prop) (n:Nat) (g:TG3) (tc:TT3) (te:TE3) (τ:St3) (L1:LHp) (Q:YK):Prop:=ys.length<sizeLine/\∃W:Nat->List Y->LHp->Prop,W 0 [] L1/\(∀i zs L,W i zs L->keep L)/\
 (∀i y zs L,ys[i]?=some y->W i zs L->g y (τ++List.replicate n none) L fun τ2 L2=>tc τ2 L2 fun b L3=>vm b (te τ2 L3 fun z L4=>Frg (W (i+1)) (zs++[z]) L4) (Frg (W (i+1)) zs L3))/\
 ∀zs L,W ys.length zs L->∀p,L p=none->Q (.ref p) (qh L p (.lst zs))
theorem atn{ys:List Y}{keep:LHp->Prop}{n:Nat}{g:TG3}{tc:TT3}{te:TE3}{τ:St3}{L1:LHp}{Q:YK}(h:ys.length<sizeLine/\∃W:Nat->List Y->LHp->Prop,W 0 [] L1/\(∀i zs L,W i zs L->keep L)/\
 (∀i y zs L,ys[i]?=some y->W i zs L->g y (τ++List.replicate n none) L fun τ2 L2=>tc τ2 L2 fun b L3=>vm b (te τ2 L3 fun z L4=>Frg (W (i+1)) (zs++[z]) L4) (Frg (W (i+1)) zs L3))/\
 ∀zs L,W ys.length zs L->∀p,L p=none->Q (.ref p) (qh L p (.lst zs))):lcK ys keep n g tc te τ L1 Q:=by unfold lcK;exact h
theorem avc{ys:List Y}{keep:LHp->Prop}{n:Nat}{g:TG3}{tc:TT3}{te:TE3}{τ:St3}{L1:LHp}{Q:YK}(h:lcK ys keep n g tc te τ L1 Q):ys.length<sizeLine/\∃W:Nat->List Y->LHp->Prop,W 0 [] L1/\(∀i zs L,W i zs L->keep L)/\
 (∀i y zs L,ys[i]?=some y->W i zs L->g y (τ++List.replicate n none) L fun τ2 L2=>tc τ2 L2 fun b L3=>vm b (te τ2 L3 fun z L4=>Frg (W (i+1)) (zs++[z]) L4) (Frg (W (i+1)) zs L3))/\
 ∀zs L,W ys.length zs L->∀p,L p=none->Q (.ref p) (qh L p (.lst zs)):=by unfold lcK at h;exact h
def yLC(n:Nat)(wi:TI3)(g:TG3)(tc:TT3)(te:TE3)(τ:St3)(L:LHp)(Q:YK):Prop:=wi τ L fun ys keep L1=>lcK ys keep n g tc te τ L1 Q
abbrev Sp3:=List Y->LHp->YK->Prop
def zb(sp:Sp3)(t:TA3)(τ:St3)(L:LHp)(Q:YK):Prop:=t τ L fun ys L1=>sp ys L1 Q
def zh(x:Y)(vs:List Y)(L:LHp)(Q:YK):Prop:=match x,vs with
 |.ref a,[v]=>ac7 L a fun ys=>ys.length<sizeLine/\Q .non (qh L a (.lst (ys++[v])))
 |_,_=>False
def wx(x:Y)(vs:List Y)(L:LHp)(Q:YK):Prop:=match x,vs with
 |.ref a,[.ref b]=>ac7 L a fun ys=>ac7 L b fun zs=>ys.length+zs.length≤sizeLine/\Q .non (qh L a (.lst (ys++zs)))
 |_,_=>False
def arn(x:Y)(vs:List Y)(L:LHp)(Q:YK):Prop:=match x,vs with
 |.ref a,[]=>ac7 L a fun ys=>atK L (fun v L=>Q v (qh L a (.lst ys.dropLast))) (ys[ys.length - 1]?)
 |_,_=>False
section
variable {G:G3}{H:Hp}{L:LHp}
theorem OpR.imp{X:Cx}{f:Value->Value->Sem Value}{r r':R2}(h:OpR X f r)(q:∀x y H Q,r' x y H Q->r x y H Q):OpR X f r':=fun pins s σ H x y v u Q I rx ry z=>h pins s σ H x y v u Q I rx ry (q x y H Q z)
theorem CallR.imp{X:Cx}{f:Value}{r r':List V->Hp->VK->Prop}(h:CallR X f r)(q:∀x H Q,r' x H Q->r x H Q):CallR X f r':=fun pins s σ H x v Q I rx z=>h pins s σ H x v Q I rx (q x H Q z)
theorem IxR.imp{X:Cx}{r r':R2}(h:IxR X r)(q:∀x y H Q,r' x y H Q->r x y H Q):IxR X r':=fun value slice pins s σ H x y v u Q I rx ry z=>h value slice pins s σ H x y v u Q I rx ry (q x y H Q z)
theorem MtM.imp{X:Cx}{id:String}{r r':V->List V->Hp->VK->Prop}(h:MtM X id r)(q:∀x xs H Q,r' x xs H Q->r x xs H Q):MtM X id r':=fun pins s σ H x xs v us Q I rx ry z=>h pins s σ H x xs v us Q I rx ry (q x xs H Q z)
theorem akg{y:Y}{v:V}{ys:List Y}(rl:RelH G H L)(r:RV G H y v)(h:ab4 L y=some ys):∃p xs,v=.ref p/\(SqL G.K H p xs\/SqT G.K H p xs)/\RVs G H ys xs:=by
 cases y with
 |tup zs=>
  obtain⟨a,xs,e,s,q⟩:=r;cases h;exact⟨a,xs,e,.inr s,q⟩
 |sq zs=>
  obtain⟨a,xs,e,s,q⟩:=r;cases h;exact⟨a,xs,e,.inl s.sq,q⟩
 |ref a=>
  cases (show v=.ref a from r);have h':(match L a with | some (.lst ys)=>some ys | _=>none)=some ys:=h
  split at h'
  ·rename_i zs e;cases h';obtain⟨xs,e2,q⟩:=rl a _ e;exact⟨a,xs,rfl,.inl (SqL.of e2),q⟩
  ·cases h'
 |_=>cases h
theorem ay4{ys:List Y}{xs:List V}{i:Int}{y:Y}(s:RVs G H ys xs)(h:atI ys i=some y):∃x,atI xs i=some x/\RV G H y x:=by
 unfold atI at h ⊢;rw[<-s.length];cases e:ixN ys.length i with
 |none=>rw[e] at h;cases h
 |some j=>
  rw[e] at h;exact s.get (i:=j) h
end
section
variable {X:Cx}{a b c e:Expr}{ta tb tc te:TE3}{pos:Pos}
abbrev QE(X:Cx)(e:Expr)(t:TE3):Prop:=PE X e (upE X.g3 t)
abbrev QT(X:Cx)(e:Expr)(t:TT3):Prop:=PT X e (upT X.g3 t)
abbrev QW(X:Cx)(e:Expr)(t:TT3):Prop:=PW X e (upT X.g3 t)
abbrev QA(X:Cx)(es:List Expr)(t:TA3):Prop:=PA X es (upA X.g3 t)
abbrev QS(X:Cx)(st:Stmt)(t:TS3):Prop:=PS X st (upS X.g3 t)
abbrev QSs(X:Cx)(st:List Stmt)(t:TS3):Prop:=PSs X st (upS X.g3 t)
abbrev QG(X:Cx)(e:Expr)(g:TG3):Prop:=PG X e (upG X.g3 g)
abbrev QGs(X:Cx)(es:List Expr)(g:amx):Prop:=PGs X es (a3e X.g3 g)
abbrev QI(X:Cx)(tg it:Expr)(w:TI3):Prop:=PI X tg it (upI X.g3 w)
abbrev QF(X:Cx)(es:List Expr)(t:TT3):Prop:=PF X es (upT X.g3 t)
theorem QE.of_var{i:Nat}(h:PE X e (ay9 i)):QE X e (qb i):=PE.imp h fun σ H Q ⟨τ,L,Q3,rs,rl,z,k⟩=>by
 unfold qb at z
 split at z
 ·rename_i y ey;obtain⟨v,ev,rv⟩:=rs.get i y (akc _ _ ey);exact⟨v,ev,k v H y L (TSt.refl _) rl rv z⟩
 ·exact z.elim
theorem QE.of_c{v:V}{y:Y}(h:PE X e (tC v))(q:∀H,RV X.g3 H y v):QE X e (yC y):=PE.imp h fun σ H Q ⟨τ,L,Q3,rs,rl,z,k⟩=>k v H y L (TSt.refl _) rl (q H) z
theorem qv(i:Nat){x:Str}{pos:Pos}(hN:X.N[i]?=some x:=by rfl)(hv:Vis X.env.scope x:=by first | exact Or.inl rfl | exact Or.inr (Or.inl rfl) | exact Or.inr (Or.inr rfl))(hd:(x==("__debug__" : Str))=false:=by decide)
 (hcd:(x==("__classdict__" : Str))=false:=by decide):QE X (.Name x pos) (qb i):=QE.of_var (pv i hN hv hd hcd)
theorem ai9{j:Nat}:QE X (.Constant .none j pos) (yC .non):=QE.of_c ay6 fun _=>rfl
theorem afq{b:Bool}{j:Nat}:QE X (.Constant (.bool b) j pos) (yC (.bl b)):=QE.of_c a1m fun _=>rfl
theorem qc{i:Int}{j:Nat}:QE X (.Constant (.int i) j pos) (yC (.int i)):=QE.of_c azh fun _=>rfl
theorem jc{x:Str}{j:Nat}:QE X (.Constant (.str x) j pos) (yC (.str x)):=QE.of_c abr fun _=>rfl
theorem a1v{x:Str}{c:Addr}{y:Y}(hg:Gl X x)(hm:X.mg x=some (.ref c))(q:∀H,RV X.g3 H y (.ref c))(hd:(x==("__debug__" : Str))=false:=by decide):QE X (.Name x pos) (yC y):=QE.of_c (a0l hg hm hd) q
theorem apj{G:G3}{r:R23}{ta tb:TE3}(σ:St)(H:Hp)(Q:VK):upE G (yOp r ta tb) σ H Q->tOp (upR G r) (upE G ta) (upE G tb) σ H Q:=fun⟨τ,L,Q3,rs,rl,z,k⟩=>
 ⟨τ,L,_,rs,rl,z,fun v H1 y L1 t1 rl1 rv1 z1=>⟨τ,L1,_,rs.ts t1,rl1,z1,fun v2 H2 y2 L2 t2 rl2 rv2 z2=>⟨y,y2,L2,Q3,rv1.ts t2,rv2,rl2,z2,k.ts (t1.trans t2)⟩⟩⟩
theorem qo{op:Operator}{r:R23}(h:OpR X (binaryOp op) (upR X.g3 r))(ha:QE X a ta)(hb:QE X b tb):QE X (.BinOp a op b pos) (yOp r ta tb):=PE.imp (a17 h ha hb) apj
theorem a0o{r:R23}(h:IxR X (upR X.g3 r))(ha:QE X a ta)(hb:QE X b tb)(hp:akf b):QE X (.Subscript a b pos) (yOp r ta tb):=PE.imp (a0p h ha hb hp) apj
theorem ael{op:CmpOp}{r:R23}(h:OpR X (compareOp op) (upR X.g3 r))(ha:QE X a ta)(hb:QE X b tb)(hm:behindInMarks op b=false):QE X (.Compare a [op] [b] pos) (yOp r ta tb):=PE.imp (avu h ha hb hm) apj
theorem a0f{G:G3}{t:TE3}(σ:St)(H:Hp)(Q:Bool->Hp->Prop):upT G (yB t) σ H Q->axc (upE G t) σ H Q:=fun⟨τ,L,Q3,rs,rl,z,k⟩=>
 ⟨τ,L,_,rs,rl,z,fun v H1 y L1 t1 rl1 rv1 z1=>by
  cases y with
  |bl b=>exact⟨b,rv1,k b H1 L1 t1 rl1 z1⟩
  |_=>exact z1.elim⟩
theorem axg{G:G3}{t:TE3}(σ:St)(H:Hp)(Q:Bool->Hp->Prop):upT G (yB t) σ H Q->L2.tB (upE G t) σ H Q:=a0f σ H Q
theorem jj{op:CmpOp}{r:R23}(h:OpR X (compareOp op) (upR X.g3 r))(ha:QE X a ta)(hb:QE X b tb)(hm:behindInMarks op b=false):QT X (.Compare a [op] [b] pos) (yB (yOp r ta tb)):=
 PT.imp (avl h ha hb hm) fun σ H Q q=>by
  have q':=a0f σ H Q q;obtain⟨τ,L,Q3,rs,rl,z,k⟩:=q';exact apj σ H _ ⟨τ,L,Q3,rs,rl,z,k⟩
theorem vh(h:QE X e te)(he:∀whole,isTrue e X.env whole=(do let v <-whole;standAt e.pos;holding [v] (truthy v)):=by intro _;rfl):QT X e (yB te):=PT.imp (az7 h he) axg
theorem OpI{f:Value->Value->Sem Value}{C:Int->Int->Prop}{g:Int->Int->V}{g3:Int->Int->Y}(h:OpR X f (rI C g))(e:∀i j H,RV X.g3 H (g3 i j) (g i j)):OpR X f (upR X.g3 (yI C g3)):=OpR.imp h fun x y H Q ⟨x3,y3,L,Q3,rx,ry,rl,z,k⟩=>by
 cases x3 with
 |int i=>
  cases y3 with
  |int j=>exact⟨i,j,rx,ry,z.1,k _ H _ L (TSt.refl _) rl (e i j H) z.2⟩
  |_=>exact z.elim
 |_=>cases y3<;>exact z.elim
theorem azc{f:Value->Value->Sem Value}{g:Int->Int->V}{g3:Int->Int->Y}(h:OpR X f (rI0 g))(e:∀i j H,RV X.g3 H (g3 i j) (g i j)):OpR X f (upR X.g3 (yI0 g3)):=OpR.imp h fun x y H Q ⟨x3,y3,L,Q3,rx,ry,rl,z,k⟩=>by
 cases x3 with
 |int i=>
  cases y3 with
  |int j=>exact⟨i,j,rx,ry,k _ H _ L (TSt.refl _) rl (e i j H) z⟩
  |_=>exact z.elim
 |_=>cases y3<;>exact z.elim
theorem ab5:OpR X (binaryOp .Sub) (upR X.g3 (yI0 fun i j=>.int (i - j))):=azc aye fun _ _ _=>rfl
theorem am5:OpR X (binaryOp .Mult) (upR X.g3 (yI CMul fun i j=>.int (i*j))):=OpI ayl fun _ _ _=>rfl
theorem k6:OpR X (binaryOp .FloorDiv) (upR X.g3 (yI ay8 fun i j=>.int (i / j))):=OpI auy fun _ _ _=>rfl
theorem jl:OpR X (binaryOp .Mod) (upR X.g3 (yI (fun _ j=>0<j) fun i j=>.int (i % j))):=OpI a08 fun _ _ _=>rfl
theorem a0e:OpR X (binaryOp .Pow) (upR X.g3 (yI az2 fun i j=>.int (i ^ j.toNat))):=OpI azy fun _ _ _=>rfl
theorem an7:OpR X (compareOp .Lt) (upR X.g3 (yI0 fun i j=>.bl (decide (i<j)))):=azc a0u fun _ _ _=>rfl
theorem aur:OpR X (compareOp .Gt) (upR X.g3 (yI0 fun i j=>.bl (decide (j<i)))):=azc a1x fun _ _ _=>rfl
theorem jy:OpR X (binaryOp .Add) (upR X.g3 vt):=OpR.imp avj fun x y H Q ⟨x3,y3,L,Q3,rx,ry,rl,z,k⟩=>by
 cases x3 with
 |int i=>
  cases y3 with
  |int j=>cases rx;cases ry;exact k _ H _ L (TSt.refl _) rl (by rfl) z
  |_=>exact z.elim
 |str i=>
  cases y3 with
  |str j=>cases rx;cases ry;exact⟨z.1,k _ H _ L (TSt.refl _) rl (by rfl) z.2⟩
  |_=>exact z.elim
 |ref a=>
  cases y3 with
  |ref b=>
   cases rx;cases ry;obtain⟨ys,zs,e1,e2,hz,q⟩:=z;obtain⟨xs,h1,r1⟩:=rl a _ e1;obtain⟨us,h2,r2⟩:=rl b _ e2;refine⟨xs,us,h1,h2,by rw[<-r1.length,<-r2.length];exact hz,fun p hp=>?_⟩;exact k _ _ _ _ (TSt.new hp) (rl.newL hp (r1.app r2)) (by rfl) (q p (rl.none hp))
  |_=>exact z.elim
 |_=>cases y3<;>exact z.elim
theorem alp{kvs:List (Str×Str)}{k x:Str}(h:kvs.lookup k=some x):adk (kvs.map fun p=>((Sum.inr p.1:Key),V.str p.2)) (Sum.inr k)=some (V.str x):=by
 induction kvs with
 |nil=>simp at h
 |cons p r ih=>
  obtain⟨a,b⟩:=p;unfold adk;rw[AE,BC];rw[Br] at h
  by_cases c:k=a
  ·subst c;simp at h;simp[h]
  ·have c1:(k==a)=false:=by simpa using c
   rw[c1] at h;have c2:decide ((Sum.inr a:Key)=Sum.inr k)=false:=Aq fun z=>c (Sum.inr.inj z).symm;simp only[c2];exact ih h
theorem ajn{G:G3}{H:Hp}{kvs:List (Key×Y)}{xs:List (Key×V)}{k:Key}{y:Y}(p:Paired (fun(p:Key×Y) (q:Key×V)=>p.1=q.1/\RV G H p.2 q.2) kvs xs)(h:aa2 kvs k=some y):∃x,adk xs k=some x/\RV G H y x:=by
 induction p with
 |nil=>cases h
 |@cons a b _ _ r t ih=>
  obtain⟨ka,ya⟩:=a;obtain⟨kb,vb⟩:=b;obtain⟨e,r⟩:=r;cases (show ka=kb from e);unfold aa2 at h;unfold adk;rw[BC] at h ⊢
  by_cases c:ka=k
  ·have c':decide (ka=k)=true:=AD c;simp only[c'] at h ⊢;cases h;exact⟨vb,rfl,r⟩
  ·have c':decide (ka=k)=false:=Aq c;simp only[c'] at h ⊢;exact ih h
theorem a0z(K:Af)(P:Program)(w:World)(hK:X.K=K:=by rfl)(hP:X.prog=P:=by rfl)(hw:X.w=w:=by rfl):IxR X (upR ⟨K,P,w⟩ yIx):=by
 subst hK hP hw;refine IxR.imp a3d fun x y H Q ⟨x3,y3,L,Q3,rx,ry,rl,z,k⟩=>?_;have seq:∀{i:Int} {x3:Y},RV X.g3 H x3 x->y=.int i->(aew L x3 fun ys=>atK L Q3 (atI ys i))->uIx X.K X.prog X.w x y H Q:=by
  intro i x3 rx ey z;subst ey;obtain⟨ys,es,z⟩:=aa0 z;obtain⟨p,xs,e,sq,rv⟩:=akg rl rx es;subst e;cases ea:atI ys i with
  |none=>rw[ea] at z;exact z.elim
  |some y=>
   rw[ea] at z;obtain⟨x,ex,rvx⟩:=ay4 rv ea;exact⟨xs,x,sq,ex,k _ H _ L (TSt.refl _) rl rvx z⟩
 cases x3 with
 |str s=>
  cases y3 with
  |int i=>
   cases rx;cases ry;obtain⟨z1,z2⟩:=z;cases ea:atI s.cps.toList i with
   |none=>rw[ea] at z2;exact z2.elim
   |some c=>rw[ea] at z2;exact⟨z1,c,ea,k _ H _ L (TSt.refl _) rl (by rfl) z2⟩
  |_=>exact z.elim
 |cd kvs=>
  cases y3 with
  |str s=>
   obtain⟨a,ea,kd⟩:=rx;cases ea;cases ry;have z':atK L (fun s L=>Q3 (.str s) L) (kvs.lookup s):=z;cases el:kvs.lookup s with
   |none=>rw[el] at z';exact z'.elim
   |some t=>rw[el] at z';exact⟨_,_,.inr kd,alp el,k _ H _ L (TSt.refl _) rl (by rfl) z'⟩
  |int i=>exact z.elim
  |_=>exact z.elim
 |ref a=>
  cases y3 with
  |int i=>exact seq (x3:=.ref a) rx ry z
  |str s=>
   cases rx;cases ry;obtain⟨kvs,e,z'⟩:=ahn z;obtain⟨xs,e2,pr⟩:=rl a _ e;cases ev:aa2 kvs (Sum.inr s) with
   |none=>rw[ev] at z';exact z'.elim
   |some y=>
    rw[ev] at z';obtain⟨x,ex,rx⟩:=ajn pr ev;exact⟨xs,x,.inl (.inl e2),ex,k _ H _ L (TSt.refl _) rl rx z'⟩
  |_=>exact z.elim
 |tup ys=>
  cases y3 with
  |int i=>exact seq (x3:=.tup ys) rx ry z
  |_=>exact z.elim
 |sq ys=>
  cases y3 with
  |int i=>exact seq (x3:=.sq ys) rx ry z
  |_=>exact z.elim
 |_=>cases y3<;>exact z.elim
theorem RVs.inv1{G:G3}{H:Hp}{y:Y}{xs:List V}(h:RVs G H [y] xs):∃x,xs=[x]/\RV G H y x:=by
 obtain⟨x,xs',e,r,s⟩:=h;cases (show xs'=[] from s);exact⟨x,e,r⟩
theorem RVs.inv2{G:G3}{H:Hp}{y y':Y}{xs:List V}(h:RVs G H [y,y'] xs):∃x x',xs=[x,x']/\RV G H y x/\RV G H y' x':=by
 obtain⟨x,xs',e,r,s⟩:=h;obtain⟨x',e',r'⟩:=s.inv1;exact⟨x,x',by rw[e,e'],r,r'⟩
theorem zd(K:Af)(P:Program)(w:World)(hK:X.K=K:=by rfl)(hP:X.prog=P:=by rfl)(hw:X.w=w:=by rfl):CallR X (.builtin "len") (upL ⟨K,P,w⟩ jk):=by
 subst hK hP hw;refine CallR.imp aqg fun xs H Q ⟨ys,L,Q3,rv,rl,z,k⟩=>?_;unfold jk at z
 split at z
 ·obtain⟨x,rfl,r⟩:=rv.inv1;cases r;exact⟨z.1,k _ H _ L (TSt.refl _) rl (by rfl) z.2⟩
 ·rename_i y _;obtain⟨x,rfl,r⟩:=rv.inv1;obtain⟨ys,es,z⟩:=aa0 z;obtain⟨p,us,e,sq,rw'⟩:=akg rl r es;subst e;refine⟨us,sq,?_⟩;rw[<-rw'.length];exact k _ H _ L (TSt.refl _) rl (by rfl) z
 ·exact z.elim
theorem axz(i j:Int):(if j > i then j else i)=max i j:=by split<;>omega
theorem axw(i j:Int):(if j<i then j else i)=min i j:=by split<;>omega
theorem aph(hc:X.calm=true:=by rfl):CallR X (.builtin "max") (upL X.g3 amm):=CallR.imp (ar2 hc) fun xs H Q ⟨ys,L,Q3,rv,rl,z,k⟩=>by
 unfold amm at z
 split at z
 ·rename_i i j;obtain⟨x,x',rfl,r1,r2⟩:=rv.inv2;cases r1;cases r2;refine⟨i,j,rfl,?_⟩;rw[axz];exact k _ H _ L (TSt.refl _) rl (by rfl) z
 ·exact z.elim
theorem apo(hc:X.calm=true:=by rfl):CallR X (.builtin "min") (upL X.g3 am7):=CallR.imp (aqy hc) fun xs H Q ⟨ys,L,Q3,rv,rl,z,k⟩=>by
 unfold am7 at z
 split at z
 ·rename_i i j;obtain⟨x,x',rfl,r1,r2⟩:=rv.inv2;cases r1;cases r2;refine⟨i,j,rfl,?_⟩;rw[axw];exact k _ H _ L (TSt.refl _) rl (by rfl) z
 ·exact z.elim
end
section
variable {X:Cx}{a b c e:Expr}{ta tb tc te:TE3}{pos:Pos}
theorem acl{G:G3}{H:Hp}{L:LHp}{a:Addr}{ys:List Y}(rl:RelH G H L)(h:ab4 L (.ref a)=some ys):∃xs,SqL G.K H a xs/\RVs G H ys xs:=by
 have h':(match L a with | some (.lst ys)=>some ys | _=>none)=some ys:=h
 split at h'
 ·rename_i e;cases h';obtain⟨xs,e2,q⟩:=rl a _ e;exact⟨xs,SqL.of e2,q⟩
 ·cases h'
theorem aqa{G:G3}{H:Hp}{L:LHp}{y:Y}{v:V}{ys:List Y}(rl:RelH G H L)(r:RV G H y v)(hy:axe y=true)(h:ab4 L y=some ys):∃a xs,v=.ref a/\SqL G.K H a xs/\RVs G H ys xs:=by
 cases y with
 |ref a=>obtain⟨xs,s,q⟩:=acl rl h;exact⟨a,xs,r,s,q⟩
 |sq zs=>obtain⟨a,xs,e,s,q⟩:=r;cases h;exact⟨a,xs,e,s.sq,q⟩
 |_=>cases hy
theorem arm{G:G3}{H:Hp}{L:LHp}{y:Y}{v:V}{u:Value}{T:Ty3}{pins:List (Addr×Obj)}{σ:L2.St}{s:Shared}(I:Inv X pins σ H s)(rl:RelH X.g3 H L)(r:RV X.g3 H y v)(ru:RelV v u)(h:tyY L y=some T)
 {A:Around} {E:Value->Shared->Prop} {Q:Value->Shared->Prop} {c:Value} {b:Bool} (e:PySem.W.kitOne X.K (.type T.nm) c=some b) (hq:∀tk,Q (.bool b) { s with toks:=tk }):
 wpAny (model X.prog X.w) A (call (.builtin "isinstance") [u,c]) Q E s:=by
 cases y with
 |non=>cases h;cases r;exact aae I ru .non e hq
 |bl b=>cases h;cases r;exact aae I ru (.bl _) e hq
 |int i=>cases h;cases r;exact aae I ru (.int _) e hq
 |str x=>cases h;cases r;exact aae I ru (.str _) e hq
 |tup ys=>
  cases h;obtain⟨a,xs,rfl,sq,_⟩:=r;cases (show u=Value.ref a from ru);obtain⟨its,_,⟨o,h1,h2,_⟩,_⟩:=I.tuple sq;exact Bk Dl I.kIn ⟨o,h1,h2⟩ e (fun z=>nomatch z) hq
 |sq ys=>
  cases h;obtain⟨a,xs,rfl,sq,_⟩:=r;cases (show u=Value.ref a from ru);obtain⟨its,_,⟨o,n,h1,h2,_⟩,_⟩:=I.list sq.sq;exact Bk Cp I.kIn ⟨o,h1,h2⟩ e (fun z=>nomatch z) hq
 |ref a=>
  cases (show v=.ref a from r);have h':(match L a with | some (.lst _)=>some Ty3.list | some (.dct _)=>some .dict | _=>none)=some T:=h
  split at h'
  ·rename_i ys el;cases h';obtain⟨xs,e2,_⟩:=rl a _ el;exact aae I ru (.lst e2) e hq
  ·rename_i kvs el;cases h';obtain⟨xs,e2,_⟩:=rl a _ el;exact aae I ru (.dK e2) e hq
  ·cases h'
 |_=>cases h
theorem akk(K:Af):∀T S:Ty3,PySem.W.kitOne K (.type T.nm) (.type S.nm)=some (ab2 T S):=by
 intro T S;cases T<;>cases S<;>rfl
def azr(G:G3)(S:Ty3):List V->Hp->VK->Prop:=fun xs H Q=>∃y v L Q3 T,xs=[v,.ty S.nm]/\RV G H y v/\RelH G H L/\tyY L y=some T/\Q3 (.bl (ab2 T S)) L/\Aft G H Q3 Q
theorem aym(S:Ty3):CallR X (.builtin "isinstance") (azr X.g3 S):=by
 intro pins s σ H xs us Q I r h;obtain⟨y,v,L,Q3,T,rfl,rv,rl,ty,q,k⟩:=h;obtain⟨u,c,rfl,r1,r2⟩:=Vals.two r;cases (show c=Value.type S.nm from r2);exact ji I.tk (arm (G:=X.g3) I rl rv r1 ty (akk _ T S) fun tk ht=>⟨.bl _,H,I.tok _,rfl,k _ H _ L (TSt.refl _) rl (by rfl) q⟩)
theorem v9{p p1:Pos}{xT:Str}(S:Ty3)(hg:Gl X "isinstance")(hm:X.mg "isinstance" = none)(hgT:Gl X xT)(hmT:X.mg xT=none)(hvT:bootBuiltins xT=some (.type S.nm))(ha:QE X a ta)
 (hn:xT ≠ "__name__" := by decide) (hd:(xT==("__debug__" : Str))=false:=by decide)
 (hs:starEach [a,.Name xT p1] X.env=(false,eval a X.env)::starEach [.Name xT p1] X.env:=by rfl) (hs2:starEach [.Name xT p1] X.env=(false,eval (.Name xT p1) X.env)::starEach [] X.env:=by rfl)
 (hp:(backTo pos (starEach [.Name xT p1] X.env)).any (·.1)=false:=by rfl):
 QE X (.Call (.Name "isinstance" p) [a,.Name xT p1] [] pos) (aao S ta):=by
 refine PE.imp (ahg (aym S) hg hm adg (wy ha (wy (atu hgT hmT hvT hn hd) adh hs2) hs) (by decide) (by decide) hs hp) ?_;rintro σ H Q ⟨τ,L,Q3,rs,rl,z,k⟩;refine⟨τ,L,_,rs,rl,z,fun v H1 y L1 t1 rl1 rv1 z1=>?_⟩;obtain⟨T,et,z1⟩:=amz z1;exact⟨y,v,L1,Q3,T,rfl,rv1,rl1,et,z1,k.ts t1⟩
def ahw(neg:Bool)(x y:Y)(L:LHp)(Q:YK):Prop:=aew L y fun ys=>aat x=true/\ys.all aat=true/\Q (.bl (nb neg (inV (toV x) (ys.map toV)))) L
theorem a0b(neg:Bool){op:CmpOp}(h:OpR X (compareOp op) (rIn X.K neg)):OpR X (compareOp op) (upR X.g3 (ahw neg)):=OpR.imp h fun x y H Q ⟨x3,y3,L,Q3,rx,ry,rl,z,k⟩=>by
 obtain⟨ys,es,f1,f2,q⟩:=aa0 z;obtain⟨p,xs,e,sq,rv⟩:=akg rl ry es;rw[rx.flat f1];rw[rv.flat f2] at sq;refine⟨p,_,e,sq,aeo f1,?_,?_⟩
 ·rw[List.all_map,Cw];intro y hy;exact aeo (Cw.mp f2 y hy)
 ·have:(if neg=true then !inV (toV x3) (ys.map toV) else inV (toV x3) (ys.map toV))=(nb neg (inV (toV x3) (ys.map toV))):=by cases neg<;>simp[nb]
  rw[this];exact k _ H _ L (TSt.refl _) rl (by rfl) q
theorem ax8(K:Af)(P:Program)(w:World)(hK:X.K=K:=by rfl)(hP:X.prog=P:=by rfl)(hw:X.w=w:=by rfl):OpR X (compareOp .In) (upR ⟨K,P,w⟩ (ahw false)):=by subst hK hP hw;exact a0b false aq2
theorem ai4(K:Af)(P:Program)(w:World)(hK:X.K=K:=by rfl)(hP:X.prog=P:=by rfl)(hw:X.w=w:=by rfl):OpR X (compareOp .NotIn) (upR ⟨K,P,w⟩ (ahw true)):=by subst hK hP hw;exact a0b true akv
theorem DatN.rep{G:G3}{H:Hp}{L:LHp}(rl:RelH G H L):∀{n:Nat} {y:Y} {d:Da} {v:V},DatN L n y d->RV G H y v->xp G.K H n v d
 |0,y,d,v,⟨f,e⟩,r=>by
  rw[r.flat f];exact⟨e,aeo f⟩
 |n+1,y,d,v,h,r=>by
  have both:∀{ys:List Y} {ds:List Da} {xs:List V},Paired (DatN L n) ys ds->RVs G H ys xs->Paired (xp G.K H n) xs ds:=by
   intro ys ds xs p
   induction p generalizing xs with
   |nil=>intro r;cases (show xs=[] from r);exact .nil
   |cons q t ih=>
    rintro⟨x,xs',rfl,r1,r2⟩;exact .cons (DatN.rep rl q r1) (ih r2)
  rcases h with⟨f,e⟩ | ⟨ys,ds,rfl,rfl,p⟩ | ⟨ys,ds,hy,rfl,es,p⟩
  ·rw[r.flat f];exact .inl ⟨e,aeo f⟩
  ·obtain⟨a,xs,rfl,sq,rv⟩:=r;exact .inr (.inl ⟨a,xs,ds,rfl,rfl,sq,both p rv⟩)
  ·obtain⟨a,xs,rfl,sq,rv⟩:=aqa rl r hy es;exact .inr (.inr ⟨a,xs,ds,rfl,rfl,sq,both p rv⟩)
theorem ago{G:G3}{H:Hp}{y:Y}{v:V}(h:aq5 y=true)(r:RV G H y v):∃a,v=.ref a:=by
 cases y with
 |ref a=>exact⟨a,r⟩
 |tup ys=>obtain⟨a,xs,e,_⟩:=r;exact⟨a,e⟩
 |sq ys=>obtain⟨a,xs,e,_⟩:=r;exact⟨a,e⟩
 |_=>cases h
theorem anh(K:Af)(P:Program)(w:World)(hu:X.A.units+128<cLine)(hK:X.K=K:=by rfl)(hP:X.prog=P:=by rfl)(hw:X.w=w:=by rfl):OpR X (compareOp .Eq) (upR ⟨K,P,w⟩ (yEq false)):=by
 subst hK hP hw;refine OpR.imp (axy hu) fun x y H Q ⟨x3,y3,L,Q3,rx,ry,rl,z,k⟩=>?_;unfold yEq at z
 split at z
 ·rename_i i j;cases rx;cases ry;refine⟨rfl,?_⟩;have:decide (V.int i=V.int j)=nb false (decide (i=j)):=by rw[BB];simp[nb]
  rw[this];exact k _ H _ L (TSt.refl _) rl (by rfl) z
 ·rename_i i j;cases rx;cases ry;refine⟨rfl,?_⟩;have:decide (V.str i=V.str j)=nb false (decide (i=j)):=by rw[BB];simp[nb]
  rw[this];exact k _ H _ L (TSt.refl _) rl (by rfl) z
 ·rename_i i j;cases rx;cases ry;refine⟨rfl,?_⟩;have:decide (V.bl i=V.bl j)=nb false (decide (i=j)):=by rw[BB];simp[nb]
  rw[this];exact k _ H _ L (TSt.refl _) rl (by rfl) z
 ·obtain⟨f1,f2,n,m,d,e,hn,h1,h2,q⟩:=z;obtain⟨a,rfl⟩:=ago f1 rx;obtain⟨b,rfl⟩:=ago f2 ry;have q:Q3 (.bl (Da.eq d e)) L:=q;exact⟨n,m,d,e,hn,h1.rep rl rx,h2.rep rl ry,k _ H _ L (TSt.refl _) rl (by rfl) q⟩
theorem a1e(K:Af)(P:Program)(w:World)(hu:X.A.units+128<cLine)(hK:X.K=K:=by rfl)(hP:X.prog=P:=by rfl)(hw:X.w=w:=by rfl):OpR X (compareOp .NotEq) (upR ⟨K,P,w⟩ (yEq true)):=by
 subst hK hP hw;refine OpR.imp (a04 hu) fun x y H Q ⟨x3,y3,L,Q3,rx,ry,rl,z,k⟩=>?_;unfold yEq at z
 split at z
 ·rename_i i j;cases rx;cases ry;refine⟨rfl,?_⟩;have:(!decide (V.int i=V.int j))=nb true (decide (i=j)):=by show _=!_;congr 1;rw[BB];simp
  rw[this];exact k _ H _ L (TSt.refl _) rl (by rfl) z
 ·rename_i i j;cases rx;cases ry;refine⟨rfl,?_⟩;have:(!decide (V.str i=V.str j))=nb true (decide (i=j)):=by show _=!_;congr 1;rw[BB];simp
  rw[this];exact k _ H _ L (TSt.refl _) rl (by rfl) z
 ·rename_i i j;cases rx;cases ry;refine⟨rfl,?_⟩;have:(!decide (V.bl i=V.bl j))=nb true (decide (i=j)):=by show _=!_;congr 1;rw[BB];simp
  rw[this];exact k _ H _ L (TSt.refl _) rl (by rfl) z
 ·obtain⟨f1,f2,n,m,d,e,hn,h1,h2,q⟩:=z;obtain⟨a,rfl⟩:=ago f1 rx;obtain⟨b,rfl⟩:=ago f2 ry;have q:Q3 (.bl (!Da.eq d e)) L:=q;exact⟨n,m,d,e,hn,h1.rep rl rx,h2.rep rl ry,k _ H _ L (TSt.refl _) rl (by rfl) q⟩
theorem RV.non_iff{G:G3}{H:Hp}{y:Y}{v:V}(r:RV G H y v):decide (v=.non)=(match y with | .non=>true | _=>false):=by
 cases y with
 |non=>cases r;rfl
 |cd kvs=>obtain⟨a,rfl,_⟩:=r;rfl
 |tup ys=>obtain⟨a,xs,rfl,_⟩:=r;rfl
 |sq ys=>obtain⟨a,xs,rfl,_⟩:=r;rfl
 |_=>cases r;rfl
theorem at6{G:G3}(σ:L2.St)(H:Hp)(Q:VK):upE G (aco false ta) σ H Q->a0q (upE G ta) σ H Q:=fun⟨τ,L,Q3,rs,rl,z,k⟩=>
 ⟨τ,L,_,rs,rl,z,fun v H1 y L1 t1 rl1 rv1 z1=>by
  dsimp only;rw[rv1.non_iff];cases y<;>exact k _ H1 _ L1 t1 rl1 (by rfl) z1⟩
theorem aws{G:G3}(σ:L2.St)(H:Hp)(Q:VK):upE G (aco true ta) σ H Q->axi (upE G ta) σ H Q:=fun⟨τ,L,Q3,rs,rl,z,k⟩=>
 ⟨τ,L,_,rs,rl,z,fun v H1 y L1 t1 rl1 rv1 z1=>by
  dsimp only;rw[rv1.non_iff];cases y<;>exact k _ H1 _ L1 t1 rl1 (by rfl) z1⟩
theorem az5{j:Nat}{pos':Pos}(h:QE X a ta):QE X (.Compare a [.Is] [.Constant .none j pos'] pos) (aco false ta):=PE.imp (ayu (as8 h)) at6
theorem ax4{G:G3}{t:TE}(h:∀σ H Q,upE G te σ H Q->t σ H Q)(σ:L2.St)(H:Hp)(Q:Bool->Hp->Prop):upT G (yB te) σ H Q->L2.tB t σ H Q:=fun q=>h σ H _ (axg σ H Q q)
theorem akl{j:Nat}{pos':Pos}(h:QE X a ta):QT X (.Compare a [.Is] [.Constant .none j pos'] pos) (yB (aco false ta)):=PT.imp (as3 (as8 h)) (ax4 at6)
theorem abj{j:Nat}{pos':Pos}(h:QE X a ta):QT X (.Compare a [.IsNot] [.Constant .none j pos'] pos) (yB (aco true ta)):=PT.imp (as3 (avm h)) (ax4 aws)
end
section
variable {X:Cx}{a b c e:Expr}{es rest:List Expr}{ta tb tc te:TE3}{tA tB:TT3}{tr:TA3}{pos:Pos}
theorem x4(h:QT X a tA):QW X (.BoolOp .And [a] pos) tA:=aw4 h
theorem afm(h:QT X a tA):QW X (.BoolOp .Or [a] pos) tA:=a03 h
theorem vi(h:QT X a tA)(k:QW X (.BoolOp .And (b::rest) pos) tB):QW X (.BoolOp .And (a::b::rest) pos) (ac1 tA tB):=PW.imp (az1 h k) fun σ H Q ⟨τ,L,Q3,rs,rl,z,k⟩=>
 ⟨τ,L,_,rs,rl,z,fun c H1 L1 t1 rl1 z1=>by
  cases c with
  |true=>rw[AB rfl];exact⟨τ,L1,Q3,rs.ts t1,rl1,z1,k.ts t1⟩
  |false=>rw[Ax AA];exact k _ H1 L1 t1 rl1 z1⟩
theorem aiz(h:QT X a tA)(k:QW X (.BoolOp .Or (b::rest) pos) tB):QW X (.BoolOp .Or (a::b::rest) pos) (yOr tA tB):=PW.imp (a14 h k) fun σ H Q ⟨τ,L,Q3,rs,rl,z,k⟩=>
 ⟨τ,L,_,rs,rl,z,fun c H1 L1 t1 rl1 z1=>by
  cases c with
  |true=>rw[AB rfl];exact k _ H1 L1 t1 rl1 z1
  |false=>rw[Ax AA];exact⟨τ,L1,Q3,rs.ts t1,rl1,z1,k.ts t1⟩⟩
theorem ve(h:QW X a tA):QT X a tA:=PW.pt h
theorem afc(h:QT X a tA):QT X (.UnaryOp .Not a pos) (anr tA):=PT.imp (aza h) fun σ H Q ⟨τ,L,Q3,rs,rl,z,k⟩=>
 ⟨τ,L,_,rs,rl,z,fun c H1 L1 t1 rl1 z1=>k _ H1 L1 t1 rl1 z1⟩
theorem ao5{op:BoolOp}(h:QE X a ta):QE X (.BoolOp op [a] pos) ta:=ayr h
theorem akp(h:QE X a ta)(k:QE X (.BoolOp .And (b::rest) pos) tb):QE X (.BoolOp .And (a::b::rest) pos) (amo ta tb):=PE.imp (ays h k) fun σ H Q ⟨τ,L,Q3,rs,rl,z,k⟩=>
 ⟨τ,L,_,rs,rl,z,fun v H1 y L1 t1 rl1 rv1 z1=>by
  cases y with
  |bl c=>
   refine⟨c,rv1,?_⟩;have z2:vm c (tb τ L1 Q3) (Q3 (.bl false) L1):=z1;cases c with
   |true=>rw[AB rfl];exact⟨τ,L1,Q3,rs.ts t1,rl1,z2,k.ts t1⟩
   |false=>rw[Ax AA];exact k _ H1 _ L1 t1 rl1 (by rfl) z2
  |_=>exact z1.elim⟩
theorem ace(h:QT X c tA)(ha:QE X a ta)(hb:QE X b tb):QE X (.IfExp c a b pos) (yIf tA ta tb):=PE.imp (atk h ha hb) fun σ H Q ⟨τ,L,Q3,rs,rl,z,k⟩=>
 ⟨τ,L,_,rs,rl,z,fun c H1 L1 t1 rl1 z1=>by
  cases c with
  |true=>rw[AB rfl];exact⟨τ,L1,Q3,rs.ts t1,rl1,z1,k.ts t1⟩
  |false=>rw[Ax AA];exact⟨τ,L1,Q3,rs.ts t1,rl1,z1,k.ts t1⟩⟩
theorem x6:QA X [] qj:=PA.imp adh fun σ H Q ⟨τ,L,Q3,rs,rl,z,k⟩=>k _ H _ L (TSt.refl _) rl (by rfl) z
theorem js(h:QE X e te)(ht:QA X es tr)(hs:starEach (e::es) X.env=(false,eval e X.env)::starEach es X.env:=by rfl):QA X (e::es) (qa te tr):=PA.imp (wy h ht hs) fun σ H Q ⟨τ,L,Q3,rs,rl,z,k⟩=>
 ⟨τ,L,_,rs,rl,z,fun v H1 y L1 t1 rl1 rv1 z1=>⟨τ,L1,_,rs.ts t1,rl1,z1,fun vs H2 ys L2 t2 rl2 rv2 z2=>k (v::vs) H2 (y::ys) L2 (t1.trans t2) rl2 ⟨v,vs,rfl,rv1.ts t2,rv2⟩ z2⟩⟩
theorem zk{x1:Nat}(h:QA X es tr):QE X (.Tuple es x1 pos) (jw tr):=PE.imp (ary h) fun σ H Q ⟨τ,L,Q3,rs,rl,z,k⟩=>
 ⟨τ,L,_,rs,rl,z,fun vs H1 ys L1 t1 rl1 rv1 z1=>by
  cases e:Nat.ble ys.length 1000 with
  |false=>rw[e] at z1;exact z1.elim
  |true=>
   rw[e] at z1;have:=CW e;refine⟨adf (by rw[<-rv1.length];exact this),fun p hp=>?_⟩;exact k _ _ (.tup ys) L1 (t1.trans (TSt.new hp)) (rl1.skip hp) ⟨p,vs,rfl,SqT.of zv,rv1.ts (TSt.new hp)⟩ z1⟩
theorem zn(h:QA X es tr):QE X (.List es pos) (xa tr):=PE.imp (azo h) fun σ H Q ⟨τ,L,Q3,rs,rl,z,k⟩=>
 ⟨τ,L,_,rs,rl,z,fun vs H1 ys L1 t1 rl1 rv1 z1=>by
  cases e:Nat.ble ys.length 1000 with
  |false=>rw[e] at z1;exact z1.elim
  |true=>
   rw[e] at z1;have:=CW e;refine⟨adf (by rw[<-rv1.length];exact this),fun p hp=>?_⟩;exact k _ _ _ _ (t1.trans (TSt.new hp)) (rl1.newL hp rv1) (by rfl) (z1 p (rl1.none hp))⟩
theorem ql{x:Str}{p:Pos}{id:String}{r:List Y->LHp->YK->Prop}(hc:CallR X (.builtin id) (upL X.g3 r))(hg:Gl X x)(hm:X.mg x=none)(hv:bootBuiltins x=some (.builtin id))(h:QA X (e::es) tr)
 (hn:x ≠ "__name__" := by decide) (hd:(x==("__debug__" : Str))=false:=by decide) (hs:starEach (e::es) X.env=(false,eval e X.env)::starEach es X.env:=by rfl) (hp:(backTo pos (starEach es X.env)).any (·.1)=false:=by rfl):
 QE X (.Call (.Name x p) (e::es) [] pos) (yCB r tr):=PE.imp (ahg hc hg hm hv h hn hd hs hp) fun σ H Q ⟨τ,L,Q3,rs,rl,z,k⟩=>
 ⟨τ,L,_,rs,rl,z,fun vs H1 ys L1 t1 rl1 rv1 z1=>⟨ys,L1,Q3,rv1,rl1,z1,k.ts t1⟩⟩
def upO(G:G3)(t:TO3):TO:=fun σ H Q=>∃τ L Q3,RelS G H σ τ/\RelH G H L/\t τ L Q3/\∀(o:Option Int) H' L',TSt H H'->RelH G H' L'->Q3 o L'->Q o H'
abbrev QO(X:Cx)(e:Option Expr)(t:TO3):Prop:=PO X e (upO X.g3 t)
theorem PO.imp{X:Cx}{e:Option Expr}{t u:TO}(h:PO X e t)(q:∀σ H Q,u σ H Q->t σ H Q):PO X e u:=fun pins s σ H Q I z=>h pins s σ H Q I (q σ H Q z)
theorem SlR.imp{X:Cx}{r r':V->Option Int->Option Int->Hp->VK->Prop}(h:SlR X r)(q:∀x lo hi H Q,r' x lo hi H Q->r x lo hi H Q):SlR X r':=by
 intro pins s σ H x v vl vu lo hi sl Q I rx hs pl pu z;exact h pins s σ H x v vl vu lo hi sl Q I rx hs pl pu (q _ _ _ _ _ z)
theorem aku:QO X none agu:=PO.imp awu fun σ H Q ⟨τ,L,Q3,rs,rl,z,k⟩=>k _ H L (TSt.refl _) rl z
theorem ae7(h:QE X e te):QO X (some e) (aj4 te):=PO.imp (avv h) fun σ H Q ⟨τ,L,Q3,rs,rl,z,k⟩=>
 ⟨τ,L,_,rs,rl,z,fun v H1 y L1 t1 rl1 rv1 z1=>by
  cases y with
  |int i=>exact⟨i,rv1,k _ H1 L1 t1 rl1 z1⟩
  |_=>exact z1.elim⟩
def avw(G:G3)(r:Y->Option Int->Option Int->LHp->YK->Prop):V->Option Int->Option Int->Hp->VK->Prop:=fun x lo hi H Q=>∃y L Q3,RV G H y x/\RelH G H L/\r y lo hi L Q3/\Aft G H Q3 Q
theorem adz{lo hi:Option Expr}{tl th:TO3}{p2:Pos}{r:Y->Option Int->Option Int->LHp->YK->Prop}(h:SlR X (avw X.g3 r))(ha:QE X a ta)(hl:QO X lo tl)(hh:QO X hi th):QE X (.Subscript a (.Slice lo hi none p2) pos) (ySl r ta tl th):=
 PE.imp (at8 h ha hl hh) fun σ H Q ⟨τ,L,Q3,rs,rl,z,k⟩=>
 ⟨τ,L,_,rs,rl,z,fun v H1 y L1 t1 rl1 rv1 z1=>⟨τ,L1,_,rs.ts t1,rl1,z1,fun o H2 L2 t2 rl2 z2=>⟨τ,L2,_,rs.ts (t1.trans t2),rl2,z2,fun o' H3 L3 t3 rl3 z3=>⟨y,L3,Q3,rv1.ts (t2.trans t3),rl3,z3,k.ts (t1.trans (t2.trans t3))⟩⟩⟩⟩
theorem ak6{G:G3}{H:Hp}{ys:List Y}{xs:List V}(r:RVs G H ys xs)(lo hi:Option Int):RVs G H (alo ys lo hi) (am1 xs lo hi):=by
 unfold alo am1;rw[r.length];exact(r.drop _).take _
theorem a1j(K:Af)(P:Program)(w:World)(hK:X.K=K:=by rfl)(hP:X.prog=P:=by rfl)(hw:X.w=w:=by rfl):SlR X (avw ⟨K,P,w⟩ a1u):=by
 subst hK hP hw;refine SlR.imp aut fun x lo hi H Q ⟨y,L,Q3,rv,rl,z,k⟩=>?_;cases y with
 |ref a=>
  obtain⟨ys,es,z'⟩:=x8 z;obtain⟨xs,sq,r⟩:=acl rl (kj es);exact⟨a,xs,rv,sq,fun p hp=>k _ _ _ _ (TSt.new hp) (rl.newL hp (ak6 r lo hi)) (by rfl) (z' p (rl.none hp))⟩
 |sq ys=>
  obtain⟨a,xs,e,sf,r⟩:=rv;exact⟨a,xs,e,sf.sq,fun p hp=>k _ _ _ _ (TSt.new hp) (rl.newL hp (ak6 r lo hi)) (by rfl) (z p (rl.none hp))⟩
 |_=>exact z.elim
end
section
variable {X:Cx}{a b c e tg iter:Expr}{es:List Expr}{ta tb tc te:TE3}{tA tB:TT3}{tr:TA3}{pos:Pos}{st:Stmt}{rest body orelse:List Stmt}{t u:TS3}
theorem ze:QSs X [] je:=PSs.imp aw2 fun D σ H ⟨τ,L,D3,rs,rl,z,k⟩=>k.nx _ H _ L (TSt.refl _) rs rl z
theorem qk(h:QS X st t):QSs X [st] t:=avi h
theorem qf(h:QS X st t)(k:QSs X rest u):QSs X (st::rest) (qt t u):=PSs.imp (ald h k) fun D σ H ⟨τ,L,D3,rs,rl,z,k⟩=>
 ⟨τ,L,{ D3 with nx:=u D3 },rs,rl,z,fun σ1 H1 τ1 L1 t1 rs1 rl1 z1=>⟨τ1,L1,D3,rs1,rl1,z1,k.ts t1⟩,k.rt,k.bk,k.ct⟩
theorem amn:QS X (.Continue pos) axb:=PS.imp alf fun D σ H ⟨τ,L,D3,rs,rl,z,k⟩=>k.ct _ H _ L (TSt.refl _) rs rl z
theorem qy(h:QE X e te)(hs:swapsWith e none pos.line X.env=pure false:=by rfl):QS X (.Expr e pos) (j9 te):=PS.imp (avp h hs) fun D σ H ⟨τ,L,D3,rs,rl,z,k⟩=>
 ⟨τ,L,_,rs,rl,z,fun v H1 y L1 t1 rl1 rv1 z1=>k.nx _ H1 _ L1 t1 (rs.ts t1) rl1 z1⟩
theorem zf(h:QE X e te):QS X (.Return (some e) pos) (jo te):=PS.imp (azs h) fun D σ H ⟨τ,L,D3,rs,rl,z,k⟩=>⟨τ,L,_,rs,rl,z,k.rt⟩
theorem apt:QS X (.Return none pos) atd:=PS.imp aw6 fun D σ H ⟨τ,L,D3,rs,rl,z,k⟩=>k.rt _ H _ L (TSt.refl _) rl (by rfl) z
theorem j6(h:QT X c tA)(ha:QSs X body t)(hb:QSs X orelse u):QS X (.If c body orelse pos) (jt tA t u):=PS.imp (a1p h ha hb) fun D σ H ⟨τ,L,D3,rs,rl,z,k⟩=>
 ⟨τ,L,_,rs,rl,z,fun c H1 L1 t1 rl1 z1=>by
  cases c with
  |true=>rw[AB rfl];exact⟨τ,L1,D3,rs.ts t1,rl1,z1,k.ts t1⟩
  |false=>rw[Ax AA];exact⟨τ,L1,D3,rs.ts t1,rl1,z1,k.ts t1⟩⟩
theorem ku{i:Nat}{x:Str}{pos':Pos}(hN:X.N.Nodup)(hix:X.N[i]?=some x)(hx:Loc X.env.scope x)(h:QE X e te)(hsw:swapsWith e (some (.Name x pos')) pos.line X.env=pure false:=by rfl)
 (hfn:X.fn x=true\/X.env.scope.names.lookup x=some .local:=by first | exact .inl rfl | exact .inr rfl | assumption):QS X (.Assign [.Name x pos'] e pos) (zm te (qi i)):=PS.imp (ayt hN hix hx h hsw hfn) fun D σ H ⟨τ,L,D3,rs,rl,z,k⟩=>
 ⟨τ,L,_,rs,rl,z,fun v H1 y L1 t1 rl1 rv1 z1=>k.nx _ H1 _ L1 t1 (show RelS _ _ _ (aaq τ i y) by rw[vq];exact(rs.ts t1).set rv1) rl1 z1⟩
theorem ack{g:TG3}(h:QE X e te)(hg:QG X tg g)(h1:swapsWithSole [tg] e pos.line X.env=pure false:=by rfl)(h2:swappedStores [tg] e X.env=pure none:=by rfl)
 (h3:(assignEach [tg] X.env).map (·.2)=[assign tg X.env]:=by rfl):QS X (.Assign [tg] e pos) (zm te g):=PS.imp (ase h hg h1 h2 h3) fun D σ H ⟨τ,L,D3,rs,rl,z,k⟩=>
 ⟨τ,L,_,rs,rl,z,fun v H1 y L1 t1 rl1 rv1 z1=>⟨y,τ,L1,_,rv1,rs.ts t1,rl1,z1,k.nx.ts t1⟩⟩
theorem PG.imp{X:Cx}{e:Expr}{t u:TG}(h:PG X e t)(q:∀v σ H Q,u v σ H Q->t v σ H Q):PG X e u:=fun pins s σ H x v Q I r z=>h pins s σ H x v Q I r (q _ _ _ _ z)
theorem PGs.imp{X:Cx}{e:List Expr}{t u:TGs}(h:PGs X e t)(q:∀v σ H Q,u v σ H Q->t v σ H Q):PGs X e u:=fun pins s σ H x v Q I r z=>h pins s σ H x v Q I r (q _ _ _ _ z)
theorem ae4{i:Nat}{x:Str}(hN:X.N.Nodup)(hix:X.N[i]?=some x)(hx:Loc X.env.scope x)(hfn:X.fn x=true\/X.env.scope.names.lookup x=some .local:=by first | exact .inl rfl | exact .inr rfl | assumption):QG X (.Name x pos) (qi i):=
 PG.imp (ags hN hix hx hfn) fun v σ H Q ⟨y,τ,L,Q3,rv,rs,rl,z,k⟩=>k _ H _ L (TSt.refl _) (show RelS _ _ _ (aaq τ i y) by rw[vq];exact rs.set rv) rl z
theorem x0:QGs X [] xt:=PGs.imp apd fun vs σ H Q ⟨ys,τ,L,Q3,rv,rs,rl,z,k⟩=>by
 cases ys with
 |nil=>exact⟨rv,k _ H _ L (TSt.refl _) rs rl z⟩
 |cons y r=>exact z.elim
theorem z0{g:TG3}{gs:amx}(h:QG X e g)(hs:QGs X es gs)(he:(assignEach (e::es) X.env).map (·.2)=assign e X.env::(assignEach es X.env).map (·.2):=by rfl):QGs X (e::es) (za g gs):=
 PGs.imp (ah9 h hs he) fun vs σ H Q ⟨ys,τ,L,Q3,rv,rs,rl,z,k⟩=>by
 cases ys with
 |nil=>exact z.elim
 |cons y r=>
  obtain⟨x,xs,rfl,r1,r2⟩:=rv;exact⟨x,xs,rfl,y,τ,L,_,r1,rs,rl,z,fun σ1 H1 τ1 L1 t1 rs1 rl1 z1=>⟨r,τ1,L1,Q3,r2.ts t1,rs1,rl1,z1,k.ts t1⟩⟩
theorem vz{gs:amx}{kk n:Nat}(hc:X.calm=true)(h:QGs X es gs)(h1:(assignEach es X.env).length=n:=by rfl)(h2:(assignEach es X.env).findIdx? (·.1)=none:=by rfl):QG X (.Tuple es kk pos) (vg n gs):=
 PG.imp (atx hc h h1 h2) fun v σ H Q ⟨y,τ,L,Q3,rv,rs,rl,z,k⟩=>by
 cases y with
 |tup ys=>
  obtain⟨a,xs,rfl,sq,r⟩:=rv;have z':(match ys.length==n with | true=>gs ys τ L Q3 | false=>False):=z
  split at z'
  ·rename_i e;exact⟨a,xs,rfl,sq,by rw[<-r.length];exact beq_iff_eq.mp e,ys,τ,L,Q3,r,rs,rl,z',k⟩
  ·exact z'.elim
 |_=>exact z.elim
theorem ats{i j:Nat}{x y:Str}{px py pt:Pos}{kt k2:Nat}{pt2:Pos}(hc:X.calm=true)(hN:X.N.Nodup)(hi:X.N[i]?=some x)(hj:X.N[j]?=some y)(hij:i≠j)(lx:X.env.scope.names.lookup x=some .local)(ly:X.env.scope.names.lookup y=some .local)
 (h:QA X [a,b] tr) (h1:swappedStores [.Tuple [.Name x px,.Name y py] kt pt] (.Tuple [a,b] k2 pt2) X.env=pure (some [x,y])) (h2:swapsWithSole [.Tuple [.Name x px,.Name y py] kt pt] (.Tuple [a,b] k2 pt2) pos.line X.env=pure false:=by rfl):
 QS X (.Assign [.Tuple [.Name x px,.Name y py] kt pt] (.Tuple [a,b] k2 pt2) pos) (azv i j tr):=PS.imp (axx hc hN hi hj hij lx ly h h1 h2) fun D σ H ⟨τ,L,D3,rs,rl,z,k⟩=>
 ⟨τ,L,_,rs,rl,z,fun vs H1 ys L1 t1 rl1 rv1 z1=>by
  split at z1
  ·rename_i v w;obtain⟨x',y',rfl,r1,r2⟩:=rv1.inv2;exact⟨x',y',rfl,k.nx _ H1 _ L1 t1 (show RelS _ _ _ (aaq (aaq τ i v) j w) by rw[vq,vq];exact((rs.ts t1).set r1).set r2) rl1 z1⟩
  ·exact z1.elim⟩
theorem ahk(hp:PassesOwn (model X.prog X.w) X.A X.env X.xe)(h:QT X c tA)(hb:QSs X body t):QS X (.While c body [] pos) (ak4 tA t):=PS.imp (asb hp h hb) fun D σ H ⟨τ,L,D3,rs,rl,⟨W,⟨m0,w0⟩,turn⟩,k⟩=>by
 refine⟨fun m σ1 H1=>∃τ1 L1,TSt H H1/\RelS X.g3 H1 σ1 τ1/\RelH X.g3 H1 L1/\W m τ1 L1,⟨m0,τ,L,TSt.refl _,rs,rl,w0⟩,?_⟩;rintro m σ1 H1 ⟨τ1,L1,t1,rs1,rl1,w1⟩;refine⟨τ1,L1,_,rs1,rl1,turn m τ1 L1 w1,fun b H2 L2 t2 rl2 z2=>?_⟩;cases b with
 |false=>rw[Ax AA];exact k.nx _ H2 _ L2 (t1.trans t2) (rs1.ts t2) rl2 z2
 |true=>
  rw[AB rfl];obtain⟨N,hN,z2⟩:=z2;refine⟨fun σ' H'=>∃τ' L',TSt H H'/\RelS X.g3 H' σ' τ'/\RelH X.g3 H' L'/\N τ' L',?_,?_⟩
  ·rintro σ' H' ⟨τ',L',t',rs',rl',n'⟩;obtain⟨m',hm,w'⟩:=hN τ' L' n';exact⟨m',hm,τ',L',t',rs',rl',w'⟩
  ·have nx:AftS X.g3 H2 (Frg N) (fun σ' H'=>∃τ' L',TSt H H'/\RelS X.g3 H' σ' τ'/\RelH X.g3 H' L'/\N τ' L'):=fun σ' H' τ' L' t' rs' rl' ⟨L5,s5,n'⟩=>⟨τ',L5,(t1.trans t2).trans t',rs',rl'.sub s5,n'⟩;have k2:=k.ts (t1.trans t2);exact⟨τ1,L2,_,rs1.ts t2,rl2,z2,nx,k2.rt,k2.nx,nx⟩
theorem vj{g:TG3}{wi:TI3}(hp:PassesOwn (model X.prog X.w) X.A X.env X.xe)(hc:X.calm=true)(hi:QI X tg iter wi)(hg:QG X tg g)(hb:QSs X body t)(hs:∀x,foldedSetIterable iter X.env x=pure x:=by intro _;rfl):
 QS X (.For tg iter body [] pos) (ac3 wi g t):=PS.imp (ayj hp hc hi hg hb hs) fun D σ H ⟨τ,L,D3,rs,rl,z,k⟩=>by
 refine⟨τ,L,_,rs,rl,z,fun J H1 ys keep L1 t1 rl1 yl zz=>?_⟩;obtain⟨W,w0,wk,turn,fin⟩:=arw zz;refine⟨fun i m σ' H'=>∃τ' L',i+m=ys.length/\TSt H1 H'/\RelS X.g3 H' σ' τ'/\RelH X.g3 H' L'/\W i τ' L',⟨ys.length,τ,L1,by omega,TSt.refl _,rs.ts t1,rl1,w0⟩,?_⟩;rintro i m σ2 H2 ⟨τ2,L2,him,t2,rs2,rl2,w2⟩
 by_cases hlt:i<ys.length
 ·refine .inr ⟨yl.go i H2 L2 t2 rl2 (wk i τ2 L2 w2) hlt,fun σ' H'=>∃τ' L',TSt H1 H'/\RelS X.g3 H' σ' τ'/\RelH X.g3 H' L'/\W (i+1) τ' L',?_,?_⟩
  ·rintro σ' H' ⟨τ',L',t',rs',rl',w'⟩;exact⟨m - 1,by omega,τ',L',by omega,t',rs',rl',w'⟩
  ·intro x H3 y3;have ey:ys[i]?=some ys[i]:=Aj hlt;obtain⟨t3,rl3,rv3⟩:=yl.yld i H2 L2 x H3 _ t2 rl2 (wk i τ2 L2 w2) ey y3;refine⟨ys[i],τ2,L2,_,rv3,rs2.ts t3,rl3,turn i _ τ2 L2 ey w2,fun σ4 H4 τ4 L4 t4 rs4 rl4 z4=>?_⟩;have nx:AftS X.g3 H4 (Frg (W (i+1))) (fun σ' H'=>∃τ' L',TSt H1 H'/\RelS X.g3 H' σ' τ'/\RelH X.g3 H' L'/\W (i+1) τ' L'):=fun σ' H' τ' L' t' rs' rl' ⟨L5,s5,n'⟩=>⟨τ',L5,((t2.trans t3).trans t4).trans t',rs',rl'.sub s5,n'⟩;have k2:=k.ts (t1.trans ((t2.trans t3).trans t4));exact⟨τ4,L4,_,rs4,rl4,z4,nx,k2.rt,k2.nx,nx⟩
 ·have e:i=ys.length:=by omega
  subst e;exact .inl ⟨yl.stop H2 L2 t2 rl2 (wk _ τ2 L2 w2),k.nx _ H2 _ L2 (t1.trans t2) rs2 rl2 (fin τ2 L2 w2)⟩
theorem PI.imp{X:Cx}{tg e:Expr}{t u:TI}(h:PI X tg e t)(q:∀σ H Q,u σ H Q->t σ H Q):PI X tg e u:=fun pins s σ H Q I z=>h pins s σ H Q I (q σ H Q z)
theorem afr{G:G3}{H₀:Hp}{a:Addr}{ys:List Y}{keep:LHp->Prop}(h:∀H L,TSt H₀ H->RelH G H L->keep L->∃xs,SqL G.K H a xs/\RVs G H ys xs):Yields G H₀ (Itl G.K a) ys keep where
 go:=fun i H L t rl kp hi=>by
  obtain⟨xs,sq,r⟩:=h H L t rl kp;have:i<xs.length:=by rw[<-r.length];exact hi
  exact⟨xs,xs[i],sq,Aj this⟩
 yld:=fun i H L x H' y t rl kp hy ⟨e,f⟩=>by
  subst e;obtain⟨xs,sq,r⟩:=h _ L t rl kp;obtain⟨x',e',rv⟩:=r.get hy;have:=f xs sq;rw[e'] at this;cases this;exact⟨TSt.refl _,rl,rv⟩
 stop:=fun H L t rl kp=>by
  obtain⟨xs,sq,r⟩:=h H L t rl kp;exact⟨xs,sq,by rw[r.length];exact An _⟩
theorem ju(h:QE X e te):QI X tg e (xg te):=PI.imp (aw7 h) fun σ H R ⟨τ,L,R3,rs,rl,z,k⟩=>by
 refine⟨τ,L,_,rs,rl,z,fun v H1 y L1 t1 rl1 rv1 z1=>?_⟩;cases y with
 |ref a=>
  obtain⟨ys,keep,es,kp,hk,z2⟩:=anl z1;have hy:∀H L,TSt H1 H->RelH X.g3 H L->keep L->∃xs,SqL X.K H a xs/\RVs X.g3 H ys xs:=fun H L _ rl e=>acl rl (hk L e);obtain⟨xs,sq,_⟩:=hy H1 L1 (TSt.refl _) rl1 kp;exact⟨a,rv1,⟨xs,sq⟩,k _ H1 ys _ L1 t1 rl1 (afr hy) z2⟩
 |sq ys=>
  obtain⟨a,xs,e,sf,r⟩:=rv1;exact⟨a,e,⟨xs,sf.sq⟩,k _ H1 ys (fun _=>True) L1 t1 rl1 (afr fun H L t _ _=>⟨xs,(sf.ts t).sq,r.ts t⟩) z1⟩
 |_=>exact z1.elim
theorem am8{G:G3}{H₀:Hp}(lo:Int)(n:Nat):Yields G H₀ (Itr lo n) (aa5 lo n) (fun _=>True) where
 go:=fun i H L t rl kp hi=>show i<n by simpa[aa5] using hi
 yld:=fun i H L x H' y t rl kp hy ⟨e,f⟩=>by
  subst e f;refine⟨TSt.refl _,rl,?_⟩;unfold aa5 at hy;rw[Ap] at hy;obtain⟨z,ez,e⟩:=Ar.mp hy;have:=List.getElem?_range (i:=i) (n:=n) (by
   by_cases c:i<n
   ·exact c
   ·rw[Co (by simp;omega)] at ez;cases ez)
  rw[this] at ez;cases ez;subst e;rfl
 stop:=fun H L t rl kp=>by simp[aa5,Itr]
theorem aaf{p:Pos}(hg:Gl X "range")(hm:X.mg "range" = none)(h:QA X [a] tr)(hs:starEach [a] X.env=[(false,eval a X.env)]:=by rfl):QI X tg (.Call (.Name "range" p) [a] [] pos) (adn tr):=
 PI.imp (aqs hg hm h hs) fun σ H R ⟨τ,L,R3,rs,rl,z,k⟩=>by
 refine⟨τ,L,_,rs,rl,z,fun vs H1 ys L1 t1 rl1 rv1 z1=>?_⟩
 split at z1
 ·rename_i j;obtain⟨x,rfl,r⟩:=rv1.inv1;cases r;exact⟨j,rfl,z1.1.1,z1.1.2,k _ H1 _ _ L1 t1 rl1 (am8 0 _) z1.2⟩
 ·exact z1.elim
end
section
variable {X:Cx}{scope:Scope}{T:List Str}{elt target iter c e o:Expr}{ifs es:List Expr}{wi:TI3}{g:TG3}{tA:TT3}{te to:TE3}{tr:TA3}{pos:Pos}
theorem akn:QF X [] auk:=PF.imp azj fun σ H Q ⟨τ,L,Q3,rs,rl,z,k⟩=>k _ H L (TSt.refl _) rl z
theorem aax(h:QT X c tA):QF X [c] tA:=ay0 h
theorem ax5{G:G3}{n:Nat}{g2:TG}(hg2:∀v σ H Q,upG G g v σ H Q->g2 v σ H Q)(σ:L2.St)(H:Hp)(Q:VK):upE G (yLC n wi g tA te) σ H Q->tLC n (upI G wi) g2 (upT G tA) (upE G te) σ H Q:=fun⟨τ,L,Q3,rs,rl,z,k⟩=>by
 refine⟨τ,L,_,rs,rl,z,fun J H1 ys keep L1 t1 rl1 yl zz=>?_⟩;obtain⟨hz,W,w0,wk,turn,fin⟩:=avc zz;refine⟨fun i m vs H'=>∃zs L',i+m=ys.length/\zs.length≤i/\TSt H1 H'/\RVs G H' zs vs/\RelH G H' L'/\W i zs L',⟨ys.length,[],L1,by omega,An _,TSt.refl _,rfl,rl1,w0⟩,?_⟩;rintro i m vs H2 ⟨zs,L2,him,hzi,t2,rv2,rl2,w2⟩
 by_cases hlt:i<ys.length
 ·refine .inr ⟨yl.go i H2 L2 t2 rl2 (wk i zs L2 w2) hlt,by rw[<-rv2.length];omega,?_⟩;intro x H3 y3;have ey:ys[i]?=some ys[i]:=Aj hlt;obtain⟨t3,rl3,rv3⟩:=yl.yld i H2 L2 x H3 _ t2 rl2 (wk i zs L2 w2) ey y3;refine hg2 _ _ _ _ ⟨ys[i],_,L2,_,rv3,(rs.ts ((t1.trans t2).trans t3)).more n,rl3,turn i _ zs L2 ey w2,fun σ4 H4 τ4 L4 t4 rs4 rl4 z4=>?_⟩;refine⟨τ4,L4,_,rs4,rl4,z4,fun b H5 L5 t5 rl5 z5=>?_⟩;cases b with
  |true=>
   rw[AB rfl];refine⟨τ4,L5,_,rs4.ts t5,rl5,z5,fun v6 H6 y6 L6 t6 rl6 rv6 ⟨L7,s7,z6⟩=>?_⟩;have tt:=((t3.trans t4).trans t5).trans t6;exact⟨m - 1,by omega,zs++[y6],L7,by omega,by rw[Ad,BL];omega,t2.trans tt,(rv2.ts tt).app (RVs.one rv6),rl6.sub s7,z6⟩
  |false=>
   rw[Ax AA];have tt:=(t3.trans t4).trans t5;obtain⟨L7,s7,z6⟩:=z5;exact⟨m - 1,by omega,zs,L7,by omega,by omega,t2.trans tt,rv2.ts tt,rl5.sub s7,z6⟩
 ·have ei:i=ys.length:=by omega
  subst ei;refine .inl ⟨yl.stop H2 L2 t2 rl2 (wk _ zs L2 w2),by rw[<-rv2.length];omega,fun D hD=>?_⟩;exact k _ _ _ _ ((t1.trans t2).trans (TSt.new hD)) (rl2.newL hD rv2) (by rfl) (fin zs L2 w2 D (rl2.none hD))
structure TGx(X:Cx)(scope:Scope)(T:List Str)(target:Expr)(g:TG3):Prop where
 ex:∃g2:TG,(∀C fp s₀ H₀,PG (X.comp scope T C fp s₀ H₀) target g2)/\aj0 g2 X.N.length T.length/\∀v σ H Q,upG X.g3 g v σ H Q->g2 v σ H Q
theorem av3{G:G3}(i:Nat)(v:V)(σ:L2.St)(H:Hp)(Q:L2.St->Hp->Prop):upG G (qi i) v σ H Q->acq i v σ H Q:=fun⟨y,τ,L,Q3,rv,rs,rl,z,k⟩=>
 k _ H _ L (TSt.refl _) (show RelS _ _ _ (aaq τ i y) by rw[vq];exact rs.set rv) rl z
theorem vo{x:Str}{p:Pos}(hN:(X.N++[x]).Nodup)(hl:∀C fp s₀ H₀,Loc (X.comp scope [x] C fp s₀ H₀).env.scope x)(hfn:∀C fp s₀ H₀,(X.comp scope [x] C fp s₀ H₀).env.scope.names.lookup x=some .local):TGx X scope [x] (.Name x p) (qi X.N.length):=
 ⟨acq X.N.length,fun C fp s₀ H₀=>ags (X:=X.comp scope [x] C fp s₀ H₀) hN (by show(X.N++[x])[X.N.length]?=some x;simp) (hl C fp s₀ H₀) (.inr (hfn C fp s₀ H₀)),ao8 _,av3 _⟩
theorem aqc{K:Af}(n:Nat):aj0 (azd K 2 (alg (acq n) (alg (acq (n+1)) azf))) n 2:=by
 rintro σ hl x H Q ⟨a,xs,e,sq,len,v,r,e1,w,r',e2,e3,q⟩;refine⟨a,xs,e,sq,len,v,r,e1,w,r',e2,e3,⟨by simp[hl],fun i u ei=>?_⟩,q⟩;have hi:i<n:=by
  by_cases c:i<n
  ·exact c
  ·rw[Am (by omega),Ca] at ei
   split at ei<;>cases ei
 rw[Bi (by omega),Bi (by omega)];exact ei
theorem ay7{G:G3}(i j:Nat)(v:V)(σ:L2.St)(H:Hp)(Q:L2.St->Hp->Prop):upG G (vg 2 (za (qi i) (za (qi j) xt))) v σ H Q->azd G.K 2 (alg (acq i) (alg (acq j) azf)) v σ H Q:=fun⟨y,τ,L,Q3,rv,rs,rl,z,k⟩=>by
 cases y with
 |tup ys=>
  obtain⟨a,xs,rfl,sq,r⟩:=rv;have z':(match ys.length==2 with | true=>za (qi i) (za (qi j) xt) ys τ L Q3 | false=>False):=z
  split at z'
  ·rename_i e;have hl:ys.length=2:=beq_iff_eq.mp e
   match ys,hl with
   |[y1,y2],_=>
    obtain⟨x1,x2,rfl,r1,r2⟩:=r.inv2;have z2:Q3 (aaq (aaq τ i y1) j y2) L:=z';exact⟨a,_,rfl,sq,rfl,x1,[x2],rfl,x2,[],rfl,rfl,k _ H _ L (TSt.refl _) (by rw[vq,vq];exact(rs.set r1).set r2) rl z2⟩
  ·exact z'.elim
 |_=>exact z.elim
theorem agx{x y:Str}{p p' pt:Pos}{kt:Nat}(hc:X.calm=true)(hN:(X.N++[x,y]).Nodup)(hl:∀C fp s₀ H₀,(X.comp scope [x,y] C fp s₀ H₀).env.scope.names.lookup x=some .local)(hl2:∀C fp s₀ H₀,(X.comp scope [x,y] C fp s₀ H₀).env.scope.names.lookup y=some .local)
 (h1:∀env,(assignEach [.Name x p,.Name y p'] env).length=2:=by intro _;rfl) (h2:∀env,(assignEach [.Name x p,.Name y p'] env).findIdx? (·.1)=none:=by intro _;rfl)
 (h3:∀env,(assignEach [.Name x p,.Name y p'] env).map (·.2)=assign (.Name x p) env::(assignEach [.Name y p'] env).map (·.2):=by intro _;rfl) (h4:∀env,(assignEach [.Name y p'] env).map (·.2)=assign (.Name y p') env::(assignEach [] env).map (·.2):=by intro _;rfl):
 TGx X scope [x,y] (.Tuple [.Name x p,.Name y p'] kt pt) (vg 2 (za (qi X.N.length) (za (qi (X.N.length+1)) xt))):=
 ⟨_,fun C fp s₀ H₀=>atx (X:=X.comp scope [x,y] C fp s₀ H₀) hc (ah9 (ags hN (by show(X.N++[x,y])[X.N.length]?=some x;simp) (.inl (hl C fp s₀ H₀)) (.inr (hl C fp s₀ H₀))) (ah9 (ags hN (by show(X.N++[x,y])[X.N.length+1]?=some y;simp) (.inl (hl2 C fp s₀ H₀)) (.inr (hl2 C fp s₀ H₀))) apd (h4 _)) (h3 _)) (h1 _) (h2 _),aqc _,ay7 _ _⟩
theorem afw(T:List Str)(S:CompScope X scope)(hc:X.calm=true)(hi:QI X target iter wi)(hg:TGx X scope T target g)
 (hf:∀C fp s₀ H₀,QF (X.comp scope T C fp s₀ H₀) ifs tA) (he:∀C fp s₀ H₀,QE (X.comp scope T C fp s₀ H₀) elt te)
 (hs:∀x,foldedSetIterable iter X.env x=pure x:=by intro _;rfl):QE X (.ListComp elt [⟨target,iter,ifs,0⟩] scope pos) (yLC T.length wi g tA te):=by
 obtain⟨g2,h1,h2,h3⟩:=hg.ex;exact PE.imp (a1i T S hc hi h1 h2 hf he hs) (ax5 h3)
theorem aba(T:List Str){i:Nat}{x:Str}{px lp:Pos}(hN:X.N.Nodup)(hix:X.N[i]?=some x)(hx:Loc X.env.scope x)(S:CompScope X scope)(hc:X.calm=true)(hi:QI X target iter wi)
 (hg:TGx X scope T target g) (hf:∀C fp s₀ H₀,QF (X.comp scope T C fp s₀ H₀) ifs tA) (he:∀C fp s₀ H₀,QE (X.comp scope T C fp s₀ H₀) elt te)
 (hsw:swapsWith (.ListComp elt [⟨target,iter,ifs,0⟩] scope lp) (some (.Name x px)) pos.line X.env=pure true:=by rfl)
 (hfn:X.fn x=true\/X.env.scope.names.lookup x=some .local:=by first | exact .inl rfl | exact .inr rfl | assumption)
 (hs:∀x,foldedSetIterable iter X.env x=pure x:=by intro _;rfl):QS X (.Assign [.Name x px] (.ListComp elt [⟨target,iter,ifs,0⟩] scope lp) pos) (zm (yLC T.length wi g tA te) (qi i)):=by
 obtain⟨g2,h1,h2,h3⟩:=hg.ex;refine PS.imp (atb (tc:=upT X.g3 tA) (te:=upE X.g3 te) T hN hix hx S hc hi h1 h2 hf he hsw hfn hs) fun D σ H ⟨τ,L,D3,rs,rl,z,k⟩=>?_;refine ax5 h3 σ H _ ⟨τ,L,_,rs,rl,z,fun v H1 y L1 t1 rl1 rv1 z1=>?_⟩;exact k.nx _ H1 _ L1 t1 (show RelS _ _ _ (aaq τ i y) by rw[vq];exact(rs.ts t1).set rv1) rl1 z1
def dn(G:G3)(sp:Sp3):Sp:=fun vs H Q _=>∃ys L Q3,RVs G H ys vs/\RelH G H L/\sp ys L Q3/\Aft G H Q3 Q
abbrev zo(P:Program)(w:World)(K:Af)(mg:Str->Option Value)(base:Heap)(k:Nat)(x:Str)(ps:List Str)(sp:Sp3):Prop:=Cal P w K mg base k x ps (dn ⟨K,P,w⟩ sp)
abbrev Fn3(P:Program)(w:World)(K:Af)(mg:Str->Option Value)(base:Heap)(k:Nat)(f:Addr)(fd:FuncData)(ps:List Str)(sp:Sp3):Prop:=FnOk P w K mg base CX0 k f fd ps (dn ⟨K,P,w⟩ sp)
theorem ja{k:Nat}{x:Str}{ps:List Str}{sp:Sp3}{p:Pos}(c:zo X.prog X.w X.K X.mg X.base k x ps sp)(hr:Room k X.A)(hg:Gl X x)(ha:QA X (e::es) tr)(hdb:(x==("__debug__" : Str))=false:=by decide)
 (he:starEach (e::es) X.env=(false,eval e X.env)::starEach es X.env:=by rfl) (hpl:(backTo pos (starEach es X.env)).any (·.1)=false:=by rfl):QE X (.Call (.Name x p) (e::es) [] pos) (zb sp tr):=
 PE.imp (a31 c hr hg ha hdb he hpl) fun σ H Q ⟨τ,L,Q3,rs,rl,z,k⟩=>
 ⟨τ,L,_,rs,rl,z,fun vs H1 ys L1 t1 rl1 rv1 z1=>⟨ys,L1,Q3,by rw[AR];exact rv1,rl1,z1,k.ts t1⟩⟩
def aiu(Q:YK):YK:=fun y L=>∃L2,LSub L2 L/\Q y L2
def af7(N:List Str)(ys:List Y):St3:=ys.map some++List.replicate (N.length - ys.length) none
theorem ajl{G:G3}{H:Hp}{N:List Str}{ys:List Y}{vs:List V}(r:RVs G H ys vs):RelS G H (L2.start N vs) (af7 N ys):=by
 unfold L2.start af7;rw[<-r.length];refine RelS.more ⟨by simp[r.length],fun i y e=>?_⟩ _;rw[Ap] at e;obtain⟨y',e1,e2⟩:=Ar.mp e;cases e2;obtain⟨x,ex,rx⟩:=r.get e1;exact⟨x,by rw[Ap,ex];rfl,rx⟩
theorem ok3{P:Program}{w:World}{K:Af}{mg:Str->Option Value}{base:Heap}{x qual:Str}{st:Stmt}{f:Addr}{fd:FuncData}{N ps:List Str}{k:Nat}{sp:Sp3}(F:Fun K x qual st f fd)(S:FnScope N ps (qg st))(len:∀ys L Q,sp ys L Q->ys.length=ps.length)
 (hbody:∀(cdv:Value) (A:Around) (outer:List Env) (s:Shared) (H:Hp) (E:XK),Room k (A.deeper (PyProof.Rows.envOfC qual (qg st) s.heap.objs.size f cdv))->
  ∃t,QSs (xx CX0 P w K mg base N qual (qg st) f cdv A outer s H E).nox (qw st) t/\∀ys L Q,sp ys L Q->t { nx:=fun _ L'=>aiu Q .non L',rt:=aiu Q } (af7 N ys) L):Fn3 P w K mg base (k+1) f fd ps sp:=by
 refine F.ok S (fun vs H Q E ⟨ys,L,Q3,rv,rl,z,_⟩=>by rw[<-rv.length];exact len ys L Q3 z) fun cdv A outer s H vs Q E hr ⟨ys,L,Q3,rv,rl,z,k⟩=>?_;obtain⟨t,ht,q⟩:=hbody cdv A outer s H E hr;refine⟨_,ht,af7 N ys,L,_,ajl rv,rl,q ys L Q3 z,?_⟩;refine⟨fun σ H' τ L' t' rs' rl' ⟨L2,s2,q2⟩=>k .non H' .non L2 t' (rl'.sub s2) (by rfl) q2,fun v H' y L' t' rl' rv' ⟨L2,s2,q2⟩=>k v H' y L2 t' (rl'.sub s2) rv' q2,fun _ _ _ _ _ _ _ z=>z.elim,fun _ _ _ _ _ _ _ z=>z.elim⟩
def upM(G:G3)(r:Y->List Y->LHp->YK->Prop):V->List V->Hp->VK->Prop:=fun x xs H Q=>∃y ys L Q3,RV G H y x/\RVs G H ys xs/\RelH G H L/\r y ys L Q3/\Aft G H Q3 Q
theorem atl:MtM X "list.append" (upM X.g3 zh):=MtM.imp ar7 fun x xs H Q ⟨y,ys,L,Q3,r1,r2,rl,z,k⟩=>by
 unfold zh at z
 split at z
 ·rename_i a v;obtain⟨zs,e,z⟩:=x8 z;obtain⟨us,e2,r⟩:=rl a _ e;obtain⟨v',rfl,rv⟩:=r2.inv1;exact⟨a,us,v',r1,rfl,e2,by rw[<-r.length];exact z.1,k _ _ _ _ (TSt.lst e2) (rl.setL e2 (r.app (RVs.one rv))) (by rfl) z.2⟩
 ·exact z.elim
theorem atg:MtM X "list.extend" (upM X.g3 wx):=MtM.imp aqk fun x xs H Q ⟨y,ys,L,Q3,r1,r2,rl,z,k⟩=>by
 unfold wx at z
 split at z
 ·rename_i a b;obtain⟨zs,e,z⟩:=x8 z;obtain⟨us,e',z⟩:=x8 z;obtain⟨vs,e2,r⟩:=rl a _ e;obtain⟨ws,e3,r'⟩:=rl b _ e';obtain⟨v',rfl,rv⟩:=r2.inv1;cases rv;exact⟨a,b,vs,ws,r1,rfl,e2,e3,by rw[<-r.length,<-r'.length];exact z.1,k _ _ _ _ (TSt.lst e2) (rl.setL e2 (r.app r')) (by rfl) z.2⟩
 ·exact z.elim
theorem a1h:MtM X "list.pop" (upM X.g3 arn):=MtM.imp azq fun x xs H Q ⟨y,ys,L,Q3,r1,r2,rl,z,k⟩=>by
 unfold arn at z
 split at z
 ·rename_i a;obtain⟨zs,e,z⟩:=x8 z;obtain⟨us,e2,r⟩:=rl a _ e;cases (show xs=[] from r2);cases el:zs[zs.length - 1]? with
  |none=>rw[el] at z;exact z.elim
  |some v=>
   rw[el] at z;obtain⟨u,eu,ru⟩:=r.get el;rw[r.length] at eu;exact⟨a,us,u,r1,rfl,e2,eu,k _ _ _ _ (TSt.lst e2) (rl.setL e2 r.dropLast) (ru.ts (TSt.lst e2)) z⟩
 ·exact z.elim
theorem apc{G:G3}{H:Hp}{L:LHp}{a:Addr}{ys:List Y}(rl:RelH G H L)(h:ab4 L (.ref a)=some ys):tyV G.K "list" (.ref a) H:=by
 obtain⟨xs,sq,_⟩:=acl rl h;exact .inl ⟨rfl,xs,sq⟩
def yBL(r:Y->List Y->LHp->YK->Prop)(to:TE3)(t:TA3)(τ:St3)(L:LHp)(Q:YK):Prop:=to τ L fun x L1=>match x with
 |.ref a=>aew L1 (.ref a) fun _=>t τ L1 fun xs L2=>r (.ref a) xs L2 Q
 |_=>False
theorem ak9{id:String}{name:Str}{apos cpos:Pos}{r:Y->List Y->LHp->YK->Prop}(h2:Slot "list" name id)(h3:typeOf (.builtin id)=pure (.type "method_descriptor"))(hm:MtM X id (upM X.g3 r))(ho:QE X o to)(ha:QA X (e::es) tr)
 (h4:attributeBase o name X.env (eval o X.env)=eval o X.env:=by rfl)
 (h5:((backTo cpos (starEach (e::es) X.env)).all (fun x=>!x.1)&&(backToKw cpos (keywordEach [] X.env)).all (fun x=>x.1.isSome)&&decide ((e::es).length+([]:List Keyword).length+(if ([]:List Keyword).isEmpty=true then 0 else 1)<30))=true:=by rfl)
 (h6:(apos.endLine==cpos.line)=true:=by rfl) (h7:starEach (e::es) X.env=(false,eval e X.env)::starEach es X.env:=by rfl) (h8:(backTo cpos (starEach es X.env)).any (·.1)=false:=by rfl):
 QE X (.Call (.Attribute o name apos) (e::es) [] cpos) (yBL r to tr):=PE.imp (axl DC h2 h3 hm ho ha h4 h5 h6 h7 h8) fun σ H Q ⟨τ,L,Q3,rs,rl,z,k⟩=>
 ⟨τ,L,_,rs,rl,z,fun v H1 y L1 t1 rl1 rv1 z1=>by
  split at z1
  ·rename_i a;obtain⟨ys,es,z1⟩:=aa0 z1;exact⟨by cases rv1;exact apc rl1 es,τ,L1,_,rs.ts t1,rl1,z1,fun vs H2 ys L2 t2 rl2 rv2 z2=>⟨.ref a,ys,L2,Q3,rv1.ts t2,rv2,rl2,z2,k.ts (t1.trans t2)⟩⟩
  ·exact z1.elim⟩
theorem azn{id:String}{name:Str}{apos cpos:Pos}{r:Y->List Y->LHp->YK->Prop}(h2:Slot "list" name id)(h3:typeOf (.builtin id)=pure (.type "method_descriptor"))(hm:MtM X id (upM X.g3 r))(ho:QE X o to)
 (h4:attributeBase o name X.env (eval o X.env)=eval o X.env:=by rfl) (h6:(apos.endLine==cpos.line)=true:=by rfl):
 QE X (.Call (.Attribute o name apos) [] [] cpos) (yBL r to qj):=PE.imp (azi DC h2 h3 hm ho h4 h6) fun σ H Q ⟨τ,L,Q3,rs,rl,z,k⟩=>
 ⟨τ,L,_,rs,rl,z,fun v H1 y L1 t1 rl1 rv1 z1=>by
  split at z1
  ·rename_i a;obtain⟨ys,es,z1⟩:=aa0 z1;exact⟨by cases rv1;exact apc rl1 es,.ref a,[],L1,Q3,rv1,rfl,rl1,z1,k.ts t1⟩
  ·exact z1.elim⟩
theorem qx{apos cpos:Pos}(ho:QE X o to)(ha:QA X (e::es) tr)(h4:attributeBase o "append" X.env (eval o X.env)=eval o X.env:=by rfl)
 (h5:((backTo cpos (starEach (e::es) X.env)).all (fun x=>!x.1)&&(backToKw cpos (keywordEach [] X.env)).all (fun x=>x.1.isSome)&&decide ((e::es).length+([]:List Keyword).length+(if ([]:List Keyword).isEmpty=true then 0 else 1)<30))=true:=by rfl)
 (h6:(apos.endLine==cpos.line)=true:=by rfl) (h7:starEach (e::es) X.env=(false,eval e X.env)::starEach es X.env:=by rfl) (h8:(backTo cpos (starEach es X.env)).any (·.1)=false:=by rfl):
 QE X (.Call (.Attribute o "append" apos) (e::es) [] cpos) (yBL zh to tr):=ak9 PySem.F.slot_list_append PySem.F.type_list_append atl ho ha h4 h5 h6 h7 h8
theorem wm{apos cpos:Pos}(ho:QE X o to)(ha:QA X (e::es) tr)(h4:attributeBase o "extend" X.env (eval o X.env)=eval o X.env:=by rfl)
 (h5:((backTo cpos (starEach (e::es) X.env)).all (fun x=>!x.1)&&(backToKw cpos (keywordEach [] X.env)).all (fun x=>x.1.isSome)&&decide ((e::es).length+([]:List Keyword).length+(if ([]:List Keyword).isEmpty=true then 0 else 1)<30))=true:=by rfl)
 (h6:(apos.endLine==cpos.line)=true:=by rfl) (h7:starEach (e::es) X.env=(false,eval e X.env)::starEach es X.env:=by rfl) (h8:(backTo cpos (starEach es X.env)).any (·.1)=false:=by rfl):
 QE X (.Call (.Attribute o "extend" apos) (e::es) [] cpos) (yBL wx to tr):=ak9 PySem.F.slot_list_extend PySem.F.type_list_extend atg ho ha h4 h5 h6 h7 h8
theorem att{apos cpos:Pos}(ho:QE X o to)(h4:attributeBase o "pop" X.env (eval o X.env)=eval o X.env:=by rfl)(h6:(apos.endLine==cpos.line)=true:=by rfl):
 QE X (.Call (.Attribute o "pop" apos) [] [] cpos) (yBL arn to qj):=azn PySem.F.slot_list_pop PySem.F.type_list_pop a1h ho h4 h6
end
abbrev aff:R23:=yI0 fun i j=>.int (i - j)
abbrev aug:R23:=yI CMul fun i j=>.int (i*j)
abbrev aan:R23:=yI ay8 fun i j=>.int (i / j)
abbrev vk:R23:=yI (fun _ j=>0<j) fun i j=>.int (i % j)
abbrev a3h:R23:=yI az2 fun i j=>.int (i ^ j.toNat)
abbrev yLt:R23:=yI0 fun i j=>.bl (decide (i<j))
abbrev yGt:R23:=yI0 fun i j=>.bl (decide (j<i))
structure TopC(G:G3)(mg:Str->Option Value)(x:Str)(y:Y):Prop where
 ex:∃c,mg x=some (.ref c)/\∀H,RV G H y (.ref c)
theorem ayw{X:Cx}{x:Str}{y:Y}{pos:Pos}(t:TopC X.g3 X.mg x y)(hg:Gl X x)(hd:(x==("__debug__" : Str))=false:=by decide):QE X (.Name x pos) (yC y):=by
 obtain⟨c,hm,q⟩:=t.ex;exact a1v hg hm q hd
def axp(kvs:List (Str×Str)):LO:=.dct (kvs.map fun p=>(Sum.inr p.1,Y.str p.2))
def axd(kvs:List (Str×Str))(_:St3)(L:LHp)(Q:YK):Prop:=∀p,L p=none->Q (.ref p) (qh L p (axp kvs))
def kvV(kvs:List (Str×Str)):List (Key×V):=kvs.map fun p=>(Sum.inr p.1,V.str p.2)
theorem am6{σ:L2.St}{H:Hp}{Q:List (V×V)->Hp->Prop}:∀{kvs:List (Str×Str)},Q (kvs.map fun p=>(V.str p.1,V.str p.2)) H->ajq (kvs.map fun p=>(tC (.str p.1),tC (.str p.2))) σ H Q
 |[],h=>h
 |_::r,h=>am6 (kvs:=r) h
theorem ap9{G:G3}{H:Hp}:∀kvs:List (Str×Str),Paired (fun(p:Key×Y) (q:Key×V)=>p.1=q.1/\RV G H p.2 q.2) (kvs.map fun p=>(Sum.inr p.1,Y.str p.2)) (kvV kvs)
 |[]=>.nil
 |_::r=>.cons ⟨rfl,rfl⟩ (ap9 r)
theorem awf{X:Cx}{pos:Pos}{keys:List (Option Expr)}{values:List Expr}(kvs:List (Str×Str))(h:PPs X pos keys values (kvs.map fun p=>(tC (.str p.1),tC (.str p.2))))(h1:(keys.all fun x=>x.isSome)=true)(h2:keys.length=values.length)(h3:keys≠[])(h4:keys.length≤15)
 (h5:kvs.length≤15:=by decide) (nd:af9 [] (kvV kvs)=kvV kvs:=by decide +kernel):QE X (.Dict keys values pos) (axd kvs):=PE.imp (av8 h h1 h2 h3 h4) fun σ H Q ⟨τ,L,Q3,rs,rl,z,k⟩=>by
 intro p hp;refine am6 ⟨zv,kvV kvs,by simp[kvV,kV],by simpa[kvV] using h5,?_⟩;rw[nd,aux];refine k _ _ _ (qh L p (axp kvs)) (TSt.new hp) ?_ (by rfl) (z p (rl.none hp));intro a u e
 by_cases c:a=p
 ·subst c;rw[q9] at e;cases e;exact⟨kvV kvs,zv,ap9 kvs⟩
 ·rw[qd c] at e;exact(rl a u e).keep (TSt.new hp) (qr c)
theorem ap2{α:Type}{L:LHp}{Q:α->LHp->Prop}{o:Option α}(h:atK L Q o):∃v,o=some v/\Q v L:=by
 cases o with
 |none=>exact h.elim
 |some v=>exact⟨v,rfl,h⟩
theorem ag1{kvs:List (Str×Str)}{k x:Str}(h:kvs.lookup k=some x):aa2 (kvs.map fun p=>((Sum.inr p.1:Key),Y.str p.2)) (Sum.inr k)=some (Y.str x):=by
 induction kvs with
 |nil=>simp at h
 |cons p r ih=>
  obtain⟨a,b⟩:=p;unfold aa2;rw[AE,BC];rw[Br] at h
  by_cases c:k=a
  ·subst c;simp at h;simp[h]
  ·have c1:(k==a)=false:=by simpa using c
   rw[c1] at h;have c2:decide ((Sum.inr a:Key)=Sum.inr k)=false:=Aq fun z=>c (Sum.inr.inj z).symm;simp only[c2];exact ih h
theorem aq1{lo:Int}{n i:Nat}{y:Y}(h:(aa5 lo n)[i]?=some y):i<n/\y=.int (lo+i):=by
 unfold aa5 at h;rw[Ap] at h;obtain⟨z,ez,e⟩:=Ar.mp h;have hi:i<n:=by
  by_cases c:i<n
  ·exact c
  ·rw[Co (by simp;omega)] at ez;cases ez
 rw[List.getElem?_range hi] at ez;cases ez;exact⟨hi,e.symm⟩
theorem aht(lo:Int)(n:Nat):(aa5 lo n).length=n:=by simp[aa5]
theorem ap5{lo:Int}{n:Nat}{g:TG3}{tb:TS3}{D:Ends3}{τ:St3}{L:LHp}(W:Nat->St3->LHp->Prop)(h0:W 0 τ L)
 (hs:∀i τ L,i<n->W i τ L->g (.int (lo+i)) τ L fun τ2 L2=>tb { D with nx:=Frg (W (i+1)),ct:=Frg (W (i+1)),bk:=D.nx } τ2 L2) (hd:∀τ L,W n τ L->D.nx τ L):ane (aa5 lo n) (fun _=>True) g tb D τ L:=by
 refine xr ⟨W,h0,fun _ _ _ _=>trivial,fun i y τ L e w=>?_,fun τ L w=>hd τ L (by rw[aht] at w;exact w)⟩;obtain⟨hi,rfl⟩:=aq1 e;exact hs i τ L hi w
theorem ash{τ:St3}{L:LHp}{a:Addr}{ys:List Y}{v:Y}{Q:YK}(e:L a=some (.lst (ys++[v])))(q:Q v (qh L a (.lst ys))):aew L (.ref a) (fun _=>qj τ L fun xs L2=>arn (.ref a) xs L2 Q):=by
 refine qe e (qm e ?_);have:(ys++[v])[(ys++[v]).length - 1]?=some v:=by simp
 rw[this,List.dropLast_concat];exact q
theorem apg{g:TG3}{tb:TS3}{D:Ends3}{τ:St3}{L:LHp}{a:Addr}{ys:List Y}(h:ab4 L (.ref a)=some ys)(W:Nat->St3->LHp->Prop)(h0:W 0 τ L)(hk:∀i τ L',W i τ L'->L' a=L a)
 (hs:∀i y τ L,ys[i]?=some y->W i τ L->g y τ L fun τ2 L2=>tb { D with nx:=Frg (W (i+1)),ct:=Frg (W (i+1)),bk:=D.nx } τ2 L2) (hd:∀τ L,W ys.length τ L->D.nx τ L):
 alv L a fun ys keep L1=>ane ys keep g tb D τ L1:=jn (af8 h) fun keep kp=>xr ⟨W,h0,fun i τ L' w=>kp L' (hk i τ L' w),hs,hd⟩
theorem ado{ys:List Y}{keep:LHp->Prop}{L:LHp}{n:Nat}{g:TG3}{tc:TT3}{te:TE3}{τ:St3}{Q:YK}(I:Nat->List Y->Prop)(hz:ys.length<sizeLine)(hk:keep L)(h0:I 0 [])
 (turn:∀(i:Nat) y zs,ys[i]?=some y->I i zs->g y (τ++List.replicate n none) L fun τ2 L2=>tc τ2 L2 fun b L3=>vm b (te τ2 L3 fun z L4=>Frg (fun zs L'=>L'=L/\I (i+1) zs) (zs++[z]) L4) (Frg (fun zs L'=>L'=L/\I (i+1) zs) zs L3))
 (hq:∀zs,I ys.length zs->∀p,L p=none->Q (.ref p) (qh L p (.lst zs))):lcK ys keep n g tc te τ L Q:=by
 refine atn ⟨hz,fun i zs L'=>L'=L/\I i zs,⟨rfl,h0⟩,?_,?_,?_⟩
 ·rintro i zs L' ⟨rfl,_⟩;exact hk
 ·rintro i y zs L' ey ⟨rfl,hI⟩;exact turn i y zs ey hI
 ·rintro zs L' ⟨rfl,hI⟩ p hp;exact hq zs hI p hp
theorem ako{lo:Int}{m:Nat}{L:LHp}{n:Nat}{g:TG3}{tc:TT3}{te:TE3}{τ:St3}{Q:YK}(I:Nat->List Y->Prop)(hz:m<sizeLine)(h0:I 0 [])
 (turn:∀(i:Nat) zs,i<m->I i zs->g (.int (lo+i)) (τ++List.replicate n none) L fun τ2 L2=>tc τ2 L2 fun b L3=>vm b (te τ2 L3 fun z L4=>Frg (fun zs L'=>L'=L/\I (i+1) zs) (zs++[z]) L4) (Frg (fun zs L'=>L'=L/\I (i+1) zs) zs L3))
 (hq:∀zs,I m zs->∀p,L p=none->Q (.ref p) (qh L p (.lst zs))):lcK (aa5 lo m) (fun _=>True) n g tc te τ L Q:=by
 refine ado (keep:=fun _=>True) I (by rw[aht];exact hz) trivial h0 (fun i y zs e hI=>?_) fun zs hI=>hq zs (by rw[aht] at hI;exact hI);obtain⟨hi,rfl⟩:=aq1 e;exact turn i zs hi hI
theorem kz{ws:List α}{f:α->Y}{i:Nat}{w:α}(h:ws[i]?=some w):atI (ws.map f) (i:Int)=some (f w):=xu (by rw[Ap,h];rfl)
theorem auq{ys:List Y}{keep:LHp->Prop}{L:LHp}{n:Nat}{g:TG3}{tc:TT3}{te:TE3}{τ:St3}{Q:YK}(f:Y->Option Y)(hz:ys.length<sizeLine)(hk:keep L)
 (turn:∀(i:Nat) y (W:List Y->LHp->Prop) zs,ys[i]?=some y->W (zs++(f y).toList) L->g y (τ++List.replicate n none) L fun τ2 L2=>tc τ2 L2 fun b L3=>vm b (te τ2 L3 fun z L4=>Frg W (zs++[z]) L4) (Frg W zs L3))
 (hq:∀p,L p=none->Q (.ref p) (qh L p (.lst (ys.filterMap f)))):lcK ys keep n g tc te τ L Q:=by
 refine atn ⟨hz,fun i zs L'=>L'=L/\zs=(ys.take i).filterMap f,⟨rfl,by simp⟩,?_,?_,?_⟩
 ·rintro i zs L' ⟨rfl,_⟩;exact hk
 ·rintro i y zs L' ey ⟨rfl,rfl⟩;refine turn i y _ _ ey ⟨rfl,?_⟩;rw[Bp,ey,List.filterMap_append];congr 1
 ·rintro zs L' ⟨rfl,rfl⟩ p hp;rw[Bs];exact hq p hp
def w9(t:TS3)(n:Nat)(ys:List Y)(L:LHp)(Q:YK):Prop:=t { nx:=fun _ L'=>aiu Q .non L',rt:=aiu Q } (ys.map some++List.replicate (n - ys.length) none) L
theorem fin{Q:YK}{y:Y}{L:LHp}(h:Q y L):aiu Q y L:=⟨L,LSub.refl L,h⟩
theorem aqf{Q:YK}{y:Y}{L L':LHp}(s:LSub L L')(h:Q y L):aiu Q y L':=⟨L,s,h⟩
theorem Fn3.never{P:Program}{w:World}{K:Af}{mg:Str->Option Value}{base:Heap}{k:Nat}{ps:List Str}{sp:Sp3}{f:Addr}{fd:FuncData}(no:∀ys L Q,¬sp ys L Q):Fn3 P w K mg base k f fd ps sp:=
 FnOk.never fun vs H Q E ⟨ys,L,Q3,_,_,z,_⟩=>no ys L Q3 z
theorem LSub.upd{L L':LHp}{a:Addr}{o:LO}(s:LSub L L')(h:L a=none):LSub L (qh L' a o):=fun b u e=>by
 rw[qd (neL e h)];exact s b u e
theorem LSub.put{L L':LHp}{a:Addr}{o:LO}(s:LSub L L')(h:L' a=some o):LSub (qh L a o) L':=fun b u e=>by
 by_cases c:b=a
 ·subst c;rw[q9] at e;cases e;exact h
 ·rw[qd c] at e;exact s b u e
theorem amp{G:G3}{H:Hp}:∀ns:List Int,RVs G H (ns.map Y.int) (ns.map V.int)
 |[]=>rfl
 |_::r=>⟨_,_,rfl,rfl,amp r⟩
end L3
namespace L2
open PySem PySem.Spec PyProof.Rows
section
variable {X:Cx}{pins:List (Addr×Obj)}{σ:L2.St}{H:Hp}{s:Shared}{h':Heap}
theorem aid(I:Inv X pins σ H s){fp:List Addr}(hf:∀b∈fp,H b=none)(k:∀b o,b∉fp->s.heap.get? b=some o->h'.get? b=some o):HOk X.prog X.w H h':=fun b u e=>by
 refine(I.hok b u e).stay (fun c v hc q=>k c v (fun z=>?_) q) (fun _ q=>q) fun _ _ q=>q;have hn:=hf c z;rcases hc with w | w
 ·rw[w,e] at hn;cases hn
 ·rw[w] at hn;cases hn
theorem ar5{fs fp:List Addr}{h:Heap}(k:∀b o,b∉fp->h.get? b=some o->h'.get? b=some o):Un fs fp H H h h':=
 ⟨fun b o q _ _ x=>k b o x q,fun b o q _ _ x=>⟨o.slots,k b o x q⟩,fun _ _ _ n _=>n,fun b o q x=>⟨o,k b o x q⟩,fun _ _ q=>q,fun _ _ _ q=>q,fun b ps q=>⟨#[],by rw[q];simp⟩⟩
theorem Inv.turnedL{t':Nat}{fp:List Addr}(I:Inv X pins σ H s)(k:∀b o,b∉fp->s.heap.get? b=some o->h'.get? b=some o)(hf:∀b∈fp,aix X pins H b)(ht:0<t':=by (first | assumption | exact Bj _ | exact Inv.tk (by assumption) | exact Ak (Inv.tk (by assumption)) (A2 _ _) | exact Ak (Inv.tk (by assumption)) (by assumption))):Inv X pins σ H { s with heap:=h',toks:=t' }:=
 I.call' (s':={ s with heap:=h',toks:=t' }) (ch:=fp) rfl (ar5 k) (aid I (fun b hb=>(hf b hb).1) k) I.bare fun b hb=>⟨(hf b hb).2.2.2.1,(hf b hb).2.1,(hf b hb).2.2.2.2.1,(hf b hb).2.2.2.2.2⟩
theorem Inv.turnedN{t':Nat}{fp:List Addr}{a:Addr}{o:HO}(I:Inv X pins σ H s)(k:∀b o,b∉fp->s.heap.get? b=some o->h'.get? b=some o)(hf:∀b∈fp,aix X pins H b)(ha:s.heap.objs.size≤a)
 (new:ObjOk X.prog X.w (upd H a o) h' a o) (ht:0<t':=by (first | assumption | exact Bj _ | exact Inv.tk (by assumption) | exact Ak (Inv.tk (by assumption)) (A2 _ _) | exact Ak (Inv.tk (by assumption)) (by assumption))):Inv X pins σ (upd H a o) { s with heap:=h',toks:=t' }:=by
 have hn:H a=none:=I.hok.fresh ha;have lt:∀b ob,s.heap.get? b=some ob->b≠a:=fun b ob q=>A3 (Ak (Heap.lt_size q) ha);refine I.call' (s':={ s with heap:=h',toks:=t' }) (ch:=fp) rfl ?_ ?_ I.bare fun b hb=>⟨(hf b hb).2.2.2.1,(hf b hb).2.1,(hf b hb).2.2.2.2.1,(hf b hb).2.2.2.2.2⟩
 ·exact⟨fun b ob q _ _ x=>k b ob x q,fun b ob q _ _ x=>⟨ob.slots,k b ob x q⟩,fun b ob q n _=>by rw[qr (lt b ob q)];exact n,fun b ob q x=>⟨ob,k b ob x q⟩,
   fun b xs q=>by rw[qr (zq q hn)];exact q,fun b ob u q=>by rw[qr (zq q hn)];exact q,fun b ps q=>⟨#[],by rw[qr (zq q hn),q];simp⟩⟩
 ·intro b u e
  by_cases hb:b=a
  ·subst hb;rw[zv] at e;cases e;exact new
  ·rw[qr hb] at e;have ok:=aid I (h':=h') (fun b hb=>(hf b hb).1) k b u e;exact ok.stay (fun _ _ _ q=>q) (fun c q=>by rw[qr (zq q hn)];exact q) fun c xs q=>by rw[qr (zq q hn)];exact q
end
def Ite(K:Af)(a:Addr):It:=
 ⟨fun i H=>∃xs x,SqL K H a xs/\xs[i]?=some x,fun i H v H'=>∃p x,H p=none/\v=.ref p/\H'=upd H p (.tup [.int i,x])/\∀xs,SqL K H a xs->xs[i]?=some x,fun i H=>∃xs,SqL K H a xs/\xs.length≤i⟩
theorem aqh{P:Program}{w:World}{K:Af}{elts:List Expr}{x1:Nat}{tp:Pos}(a e it:Addr)(hne:e≠it):Turn P w K (.Tuple elts x1 tp) (Ite K a) [e,it] e (fun i h=>(∃old,IsEnum h e it i old)/\h.IsListIter it a i) where
 mem:=by simp
 obj:=fun i h ⟨⟨old,he⟩,hi⟩ b hb=>by
  rcases As.mp hb with rfl | hb
  ·exact⟨_,he,fun v z=>by cases z⟩
  ·cases AC.mp hb;obtain⟨o,ho,hc,hd⟩:=hi;exact⟨o,ho,fun v z=>by rw[hd] at z;cases z⟩
 keep:=fun i h h' ⟨⟨old,he⟩,hi⟩ k=>⟨⟨old,k e (by simp) _ he⟩,hi.at fun o q=>k it (by simp) o q⟩
 item:=by
  intro X hP hw hK hc i pins s σ H E I hf ⟨⟨old,he⟩,hi⟩ hg;subst hP hw hK;obtain⟨xs,x,hq,hx⟩:=hg;obtain⟨its,rv,p,hz⟩:=I.list hq;obtain⟨u,hu,ru⟩:=rv.get hx;refine wpAny_pyNext_enum_item he hi p.isList (x:=u) (by simpa using hu) hne fun h1 heo hi1 ht hz1 hk=>⟨.ref s.heap.objs.size,rfl,wpAny_letOwnedTupleGo_enum heo fun h2 he2 hs2=>?_⟩;have el:e<s.heap.objs.size:=Heap.lt_size he;have il:it<s.heap.objs.size:=by obtain⟨o,ho,_⟩:=hi;exact Heap.lt_size ho
  have kk:∀b o,b∉[e,it]->s.heap.get? b=some o->h2.get? b=some o:=fun b o nb q=>by
   have n1:b≠e:=fun z=>nb (by simp[z]);have n2:b≠it:=fun z=>nb (by simp[z]);exact hs2.extBut b o n1 (hk b o n1 n2 q)
  have tg:h2.get? s.heap.objs.size=some { cls:=.type "tuple",data:=.seq #[.int i s.toks,u] }:=hs2.extBut _ _ (Dh el) ht;refine⟨.ref s.heap.objs.size,upd H s.heap.objs.size (.tup [.int i,x]),?_,rfl,⟨_,x,I.hok.fresh (An _),rfl,rfl,fun ys hy=>by rw[I.list_inj hy hq];exact hx⟩,⟨⟨_,he2⟩,hi1.at fun o q=>hs2.extBut _ _ (AK hne) q⟩,fun b hb=>?_⟩
  ·exact I.turnedN (t':=s.toks+1) kk hf (An _) ⟨by show 2≤sizeLine;decide,[.int i s.toks,u],.cons ⟨_,rfl⟩ (.cons ru .nil),⟨_,tg,rfl,_,rfl⟩⟩
  ·have hb':b<s.heap.objs.size:=by rcases As.mp hb with rfl | hb;exact el;cases AC.mp hb;exact il
   rw[qr (A3 hb')];exact(hf b hb).1
 done:=by
  intro X hP hw hK hc i pins s σ H E I hf ⟨⟨old,he⟩,hi⟩ hg;subst hP hw hK;obtain⟨xs,hq,hx⟩:=hg;obtain⟨its,rv,p,hz⟩:=I.list hq;have hl:=rv.length;exact wpAny_pyNext_enum_end (I.ok.hd hc) he hi p.isList (by simp;omega) fun h1 eb=>⟨rfl,I.turnedL (t':=s.toks) (fp:=[e,it]) (fun b o nb q=>eb b o (fun z=>nb (by simp[z])) q) hf⟩
 self:=fun _ _ _ _ _ ⟨⟨_,he⟩,_⟩ h=>wpAny_pyIter_enum he h
def a0k(K:Af)(ta:TA):TI:=fun σ H R=>ta σ H fun vs H1=>∃a,vs=[.ref a]/\(∃xs,SqL K H1 a xs)/\R (Ite K a) H1
theorem akr:bootBuiltins "enumerate" = some (.type "enumerate"):=by decide +kernel
theorem avf{X:Cx}{a:Expr}{ta:TA}{elts:List Expr}{x1:Nat}{tp p pos:Pos}(hg:Gl X "enumerate")(hm:X.mg "enumerate" = none)(ha:PA X [a] ta)(hs:starEach [a] X.env=[(false,eval a X.env)]:=by rfl):
 PI X (.Tuple elts x1 tp) (.Call (.Name "enumerate" p) [a] [] pos) (a0k X.K ta):=by
 intro pins s σ H R I h;refine Call_ (adm I hg hm akr (BQ (thn (ha pos pins s σ H _ I h) fun us s1 ⟨vs,H1,I1,r1,q1⟩=>?_) hs rfl));obtain⟨l,e,⟨xs,hq⟩,q⟩:=q1;subst e;obtain⟨u,rfl,ru⟩:=apx r1;cases ru;obtain⟨its,rv,pl,hz⟩:=I1.list hq;refine call_enumerate_list pl.isList fun h1 he hi hsz hk=>?_;have I2:Inv X pins σ H1 { s1 with heap:=h1 }:=I1.kept (t':=s1.toks) hk;refine wpAny_pyIter_enum (s:={ s1 with heap:=h1 }) he ?_;refine⟨s1.heap.objs.size+1,[s1.heap.objs.size+1,s1.heap.objs.size],_,_,H1,rfl,I2,aqh l _ _ (Nat.succ_ne_self _),⟨⟨_,he⟩,hi⟩,fun b hb=>?_,q⟩;have hb':s1.heap.objs.size≤b:=by rcases As.mp hb with rfl | hb;exact Cs _;cases AC.mp hb;exact An _
 exact I1.fpOk hb' (I1.hok.fresh hb')
end L2
namespace L3
open PySem L2
theorem aft{G:G3}{H₀:Hp}{a:Addr}{ys:List Y}{keep:LHp->Prop}(h:∀H L,TSt H₀ H->RelH G H L->keep L->∃xs,SqL G.K H a xs/\RVs G H ys xs):Yields G H₀ (Ite G.K a) (ys.zipIdx.map fun p=>Y.tup [.int (p.2:Nat),p.1]) keep where
 go:=fun i H L t rl kp hi=>by
  obtain⟨xs,sq,r⟩:=h H L t rl kp;have:i<xs.length:=by rw[<-r.length];simpa using hi
  exact⟨xs,xs[i],sq,Aj this⟩
 yld:=fun i H L x H' y t rl kp hy ⟨p,z,hp,e1,e2,f⟩=>by
  subst e1 e2;obtain⟨xs,sq,r⟩:=h H L t rl kp;rw[Ap,List.getElem?_zipIdx] at hy;obtain⟨⟨y',j⟩,ey,e3⟩:=Ar.mp hy;obtain⟨y'',ey',e4⟩:=Ar.mp ey;cases e4;subst e3;obtain⟨x',e',rv⟩:=r.get ey';have:=f xs sq;rw[e'] at this;cases this;refine⟨TSt.new hp,rl.skip hp,p,_,rfl,SqT.of zv,⟨_,_,rfl,?_,_,_,rfl,rv.ts (TSt.new hp),rfl⟩⟩;show V.int _=V.int _;congr 1;simp
 stop:=fun H L t rl kp=>by
  obtain⟨xs,sq,r⟩:=h H L t rl kp;exact⟨xs,sq,by rw[Ae,List.length_zipIdx,r.length];exact An _⟩
def ah5(ys:List Y):List Y:=ys.zipIdx.map fun p=>Y.tup [.int (p.2:Nat),p.1]
theorem acb{ys:List Y}{i:Nat}{y:Y}(h:(ah5 ys)[i]?=some y):∃z,ys[i]?=some z/\y=.tup [.int i,z]:=by
 unfold ah5 at h;rw[Ap,List.getElem?_zipIdx] at h;obtain⟨⟨y',j⟩,ey,e3⟩:=Ar.mp h;obtain⟨y'',ey',e4⟩:=Ar.mp ey;cases e4;exact⟨y',ey',by rw[<-e3];simp⟩
theorem aad(ys:List Y):(ah5 ys).length=ys.length:=by simp[ah5]
def af3(tl:TE3)(τ:St3)(L:LHp)(R:List Y->(LHp->Prop)->LHp->Prop):Prop:=tl τ L fun x L1=>match x with
 |.ref a=>alv L1 a fun ys keep L=>R (ah5 ys) keep L
 |.sq ys=>R (ah5 ys) (fun _=>True) L1
 |_=>False
theorem aed{X:Cx}{a:Expr}{te:TE3}{elts:List Expr}{x1:Nat}{tp p pos:Pos}(hg:Gl X "enumerate")(hm:X.mg "enumerate" = none)(ha:QE X a te)(hs:starEach [a] X.env=[(false,eval a X.env)]:=by rfl)
 (hs2:starEach [a] X.env=(false,eval a X.env)::starEach [] X.env:=by rfl):QI X (.Tuple elts x1 tp) (.Call (.Name "enumerate" p) [a] [] pos) (af3 te):=PI.imp (avf hg hm (wy ha adh hs2) hs) fun σ H R ⟨τ,L,R3,rs,rl,z,k⟩=>by
 refine⟨τ,L,_,rs,rl,z,fun v H1 y L1 t1 rl1 rv1 z1=>?_⟩;cases y with
 |ref a=>
  obtain⟨ys,keep,es,kp,hk,z2⟩:=anl z1;have hy:∀H L,TSt H1 H->RelH X.g3 H L->keep L->∃xs,SqL X.K H a xs/\RVs X.g3 H ys xs:=fun H L _ rl e=>acl rl (hk L e);obtain⟨xs,sq,_⟩:=hy H1 L1 (TSt.refl _) rl1 kp;cases rv1;exact⟨a,rfl,⟨xs,sq⟩,k _ H1 _ _ L1 t1 rl1 (aft hy) z2⟩
 |sq ys=>
  obtain⟨a,xs,e,sf,r⟩:=rv1;subst e;exact⟨a,rfl,⟨xs,sf.sq⟩,k _ H1 _ (fun _=>True) L1 t1 rl1 (aft fun H L t _ _=>⟨xs,(sf.ts t).sq,r.ts t⟩) z1⟩
 |_=>exact z1.elim
end L3
namespace L2
open PySem PySem.Spec PyProof.Rows
def SIt(t:Bool)(h:Heap)(it l:Addr)(k:Nat):Prop:=match t with
 |false=>h.IsListIter it l k
 |true=>h.IsTupleIter it l k
def SSq(t:Bool)(h:Heap)(l:Addr)(xs:Array Value):Prop:=match t with
 |false=>h.IsList l xs
 |true=>h.IsTuple l xs
theorem SIt.on{t:Bool}{h h':Heap}{it l:Addr}{k:Nat}(x:SIt t h it l k)(e:∀o,h.get? it=some o->h'.get? it=some o):SIt t h' it l k:=by
 cases t with
 |false=>exact Heap.IsListIter.at x e
 |true=>exact Heap.IsTupleIter.at x e
theorem SSq.on{t:Bool}{h h':Heap}{l:Addr}{xs:Array Value}(x:SSq t h l xs)(e:∀o,h.get? l=some o->h'.get? l=some o):SSq t h' l xs:=by
 cases t with
 |false=>exact Heap.IsList.at x e
 |true=>exact Heap.IsTuple.at x e
theorem SIt.ob{t:Bool}{h:Heap}{it l:Addr}{k:Nat}(x:SIt t h it l k):∃o,h.get? it=some o/\∀v,o.data≠.cell v:=by
 cases t with
 |false=>obtain⟨o,e,c,d⟩:=x;exact⟨o,e,fun v z=>by rw[d] at z;cases z⟩
 |true=>obtain⟨o,e,c,d⟩:=x;exact⟨o,e,fun v z=>by rw[d] at z;cases z⟩
theorem ap4(l:Addr):¬((Value.ref l==Value.none)=true):=AA
section
variable {prog:Program}{w:World}{A:Around}{E:Value->Shared->Prop}{s:Shared}
theorem aoh{it l:Addr}{i:Nat}{xs:Array Value}{x:Value}{Q:Value->Shared->Prop}(hi:s.heap.IsTupleIter it l i)(hl:s.heap.IsTuple l xs)(hx:xs[i]?=some x)
 (q:∀h',h'.IsTupleIter it l (i+1)->Heap.SameBut it s.heap h'->Q x { s with heap:=h' }):wpAny (model prog w) A (Builtin.SmallTypes.nextOf (.ref it)) Q E s:=by
 obtain⟨o,oi,ci,di⟩:=id hi;obtain⟨u,ul,_,n,dl⟩:=hl;unfold Builtin.SmallTypes.nextOf;refine Aa (wpAny_callSpecial?_slot (name:="__next__") hi.typeIs F.slot_tuple_iterator_next (wpAny_call_entry F.slot_tuple_iterator_next hi.typeIs F.entry_tuple_iterator_next ?_ (F.args_tuple_iterator_next_1 _)));refine Aa (m:=field (.ref it) 0) (A4 oi di (x:=.ref l) rfl ?_);rw[Ax (ap4 l)];refine Aa (m:=field (.ref it) 1) (A4 oi di (x:=.int i 0) rfl (Aa (m:=seqItems? (.ref l)) (Bw ul dl ?_)));simp only[BN,hx];refine Aa (wpAny_setField oi di (by simp) (Ah ⟨x,rfl,Ah (q _ ⟨_,Heap.get?_update_self _ oi (Obj.isFreed_of_fields (Obj.data_mapFields di _)),(Obj.cls_mapFields ..).trans ci,?_⟩ (Heap.SameBut.update ..))⟩));rw[Obj.data_mapFields di];simp[rawInt]
theorem aqv{it l:Addr}{i:Nat}{xs:Array Value}{Q:Value->Shared->Prop}(hh:A.handled=none)(hi:s.heap.IsTupleIter it l i)(hl:s.heap.IsTuple l xs)(hx:xs[i]?=none)
 (q:∀h' e,Heap.ExtBut it s.heap h'->(∃o,h'.get? e=some o/\o.cls=.type "StopIteration")->E (.ref e) { s with heap:=h' }):wpAny (model prog w) A (Builtin.SmallTypes.nextOf (.ref it)) Q E s:=by
 obtain⟨o,oi,ci,di⟩:=id hi;obtain⟨u,ul,_,n,dl⟩:=hl;unfold Builtin.SmallTypes.nextOf;refine Aa (wpAny_callSpecial?_slot (name:="__next__") hi.typeIs F.slot_tuple_iterator_next (wpAny_call_entry F.slot_tuple_iterator_next hi.typeIs F.entry_tuple_iterator_next ?_ (F.args_tuple_iterator_next_1 _)));refine Aa (m:=field (.ref it) 0) (A4 oi di (x:=.ref l) rfl ?_);rw[Ax (ap4 l)];refine Aa (m:=field (.ref it) 1) (A4 oi di (x:=.int i 0) rfl (Aa (m:=seqItems? (.ref l)) (Bw ul dl ?_)));simp only[BN,hx];refine Aa (Bl (Aa (wpAny_setField oi di (by simp) ?_)));refine Aa (m:=newExc (.type "StopIteration") []) ?_;simp only[newExc,newTuple];refine Aa (Be (Aa (m:=firstArgMember _ _) (wpAny_of_eq (a:=Value.none) (by first | rfl | (simp only[firstArgMember];rfl)) (Be ?_ (by size_fits)))) (by size_fits));simp only[raiseNew];refine Aa (wpAny_handled ?_)
 first | rw[show A.in1.handled=none from hh] | rw[hh]
 exact Aa (Ah (wpAny_throw (q _ _ (((Heap.SameBut.update ..).extBut.push _).push _) ⟨_,Heap.get?_push_size _ rfl,rfl⟩)))
theorem SIt.next{t:Bool}{it l:Addr}{i:Nat}{xs:Array Value}{x:Value}{Q:Value->Shared->Prop}(hi:SIt t s.heap it l i)(hl:SSq t s.heap l xs)(hx:xs[i]?=some x)
 (q:∀h',SIt t h' it l (i+1)->Heap.SameBut it s.heap h'->Q x { s with heap:=h' }):wpAny (model prog w) A (Builtin.SmallTypes.nextOf (.ref it)) Q E s:=by
 cases t with
 |false=>exact wpAny_nextOf_list_item hi hl hx q
 |true=>exact aoh hi hl hx q
theorem SIt.stop{t:Bool}{it l:Addr}{i:Nat}{xs:Array Value}{Q:Value->Shared->Prop}(hh:A.handled=none)(hi:SIt t s.heap it l i)(hl:SSq t s.heap l xs)(hx:xs[i]?=none)
 (q:∀h' e,Heap.ExtBut it s.heap h'->(∃o,h'.get? e=some o/\o.cls=.type "StopIteration")->E (.ref e) { s with heap:=h' }):wpAny (model prog w) A (Builtin.SmallTypes.nextOf (.ref it)) Q E s:=by
 cases t with
 |false=>exact wpAny_nextOf_list_end hh hi hl hx q
 |true=>exact aqv hh hi hl hx q
structure ZAp(z TI TO i1 i2 l1 l2:Addr):Prop where
 n1:TI≠z
 n2:TO≠z
 n3:i1≠z
 n4:i2≠z
 n5:TO≠i1
 n6:TO≠i2
 n7:i1≠i2
 n8:l1≠z
 n9:l1≠TO
 n10:l1≠i1
 n11:l1≠i2
 n12:l2≠z
 n13:l2≠TO
 n14:l2≠i1
 n15:l2≠i2
theorem aub{t1 t2:Bool}{z TI TO i1 i2 l1 l2:Addr}{k:Nat}{xs ys:Array Value}{x y a b:Value}{Q:Value->Shared->Prop}(D:ZAp z TI TO i1 i2 l1 l2)(hz:IsZip s.heap z TI TO .none)(hI:IsPair s.heap TI (.ref i1) (.ref i2))(hO:IsPair s.heap TO a b)
 (h1:SIt t1 s.heap i1 l1 k) (h2:SIt t2 s.heap i2 l2 k) (q1:SSq t1 s.heap l1 xs) (q2:SSq t2 s.heap l2 ys) (hx:xs[k]?=some x) (hy:ys[k]?=some y)
 (q:∀h',IsZip h' z TI TO (rawInt s.heap.objs.size)->IsPair h' TO x y->SIt t1 h' i1 l1 (k+1)->SIt t2 h' i2 l2 (k+1)->IsPair h' s.heap.objs.size x y->
  (∀c o,c≠z->c≠TO->c≠i1->c≠i2->s.heap.get? c=some o->h'.get? c=some o)->Q (.ref s.heap.objs.size) { s with heap:=h' }):
 wpAny (model prog w) A (Builtin.«zip.__next__» ⟨[.ref z],[]⟩) (fun fin s'=>∃v,fin=.done (.ret v)/\Q v s') E s:=by
 refine Aa (m:=field (.ref z) 2) (A4 hz rfl (x:=.bool false) rfl (Aa (m:=field (.ref z) 3) (A4 hz rfl (x:=.ref TI) rfl (Aa (Bw hI rfl ?_)))));refine Aa (m:=Builtin.SmallTypes.ownedTupleIsFree (.ref z)) ?_;unfold Builtin.SmallTypes.ownedTupleIsFree;refine Aa (A4 hz rfl (x:=.none) rfl (Ah ?_));simp only[if_true];refine Aa (Bl (Aa (A4 hz rfl (x:=.ref TO) rfl (Aa (wpAny_setField_rec hz (by simp) fun g1 z1 e1=>?_)))));have z1':IsZip g1 z TI TO .ellipsis:=z1;refine Aa ?_;simp only[DD,List.zipIdx_nil,CF,DP];refine Aa (Aa (wpAny_onRaise (Aa (m:=Builtin.SmallTypes.nextOf (.ref i1)) ((h1.on fun o e=>e1.extBut _ _ D.n3 e).next (q1.on fun o e=>e1.extBut _ _ D.n8 e) hx fun g2 h12 e2=>Ah ?_))));have O2:IsPair g2 TO a b:=e2.extBut _ _ D.n5 (e1.extBut _ _ D.n2 hO);refine Aa (Bw O2 rfl (Aa (wpAny_updateSeq_pair O2 fun g3 O3 e3=>Aa (wpAny_letGo (Ah ?_)))));have O3':IsPair g3 TO x b:=O3;refine Aa (Aa (wpAny_onRaise (Aa (m:=Builtin.SmallTypes.nextOf (.ref i2)) (SIt.next (l:=l2) (i:=k) (xs:=ys) (x:=y) (t:=t2) (h2.on fun o e=>e3.extBut _ _ (AK D.n6) (e2.extBut _ _ (AK D.n7) (e1.extBut _ _ D.n4 e)))
  (q2.on fun o e=>e3.extBut _ _ D.n13 (e2.extBut _ _ D.n14 (e1.extBut _ _ D.n12 e))) hy fun g4 h24 e4=>Ah ?_))))
 have O4:IsPair g4 TO x b:=e4.extBut _ _ D.n6 O3';refine Aa (Bw O4 rfl (Aa (wpAny_updateSeq_pair O4 fun g5 O5 e5=>Aa (wpAny_letGo (Ah (Ah ?_))))));have O5':IsPair g5 TO x y:=O5;refine Aa (Bw O5' rfl (Aa (wpAny_newTuple ?_)));have sz:g5.objs.size=s.heap.objs.size:=by rw[e5.1,e4.1,e3.1,e2.1,e1.1]
 have z5:IsZip g5 z TI TO .ellipsis:=e5.extBut _ _ (AK D.n2) (e4.extBut _ _ (AK D.n4) (e3.extBut _ _ (AK D.n2) (e2.extBut _ _ (AK D.n3) z1')));have k5:∀c o,c≠z->c≠TO->c≠i1->c≠i2->s.heap.get? c=some o->g5.get? c=some o:=fun c o a1 a2 a3 a4 e=>e5.extBut _ _ a2 (e4.extBut _ _ a4 (e3.extBut _ _ a2 (e2.extBut _ _ a3 (e1.extBut _ _ a1 e))));have zl:z<g5.objs.size:=Heap.lt_size z5;refine Aa (m:=Builtin.SmallTypes.ownedTupleHandOut (.ref z) (.ref g5.objs.size)) ?_;unfold Builtin.SmallTypes.ownedTupleHandOut;refine Aa (wpAny_setField_rec (show IsZip (g5.push { cls:=.type "tuple",data:=.seq #[x,y] }) z TI TO .ellipsis from Heap.get?_push_of_some _ z5) (by simp) fun g7 z7 e7=>?_);have z7':IsZip g7 z TI TO (rawInt g5.objs.size):=z7;refine wpAny_setField_rec z7' (by simp) fun g8 z8 e8=>Ah ⟨_,rfl,?_⟩;have z8':IsZip g8 z TI TO (rawInt g5.objs.size):=z8;have up:∀c o,c≠z->g5.get? c=some o->g8.get? c=some o:=fun c o a1 e=>e8.extBut _ _ a1 (e7.extBut _ _ a1 (Heap.get?_push_of_some _ e));have T8:IsPair g8 g5.objs.size x y:=e8.extBut _ _ (Dh zl) (e7.extBut _ _ (Dh zl) (Heap.get?_push_size _ rfl));have fin:=q g8 (by rw[<-sz];exact z8') (up _ _ D.n2 O5') (h12.on fun o e=>up _ o D.n3 (e5.extBut _ _ (AK D.n5) (e4.extBut _ _ D.n7 (e3.extBut _ _ (AK D.n5) e)))) (h24.on fun o e=>up _ o D.n4 (e5.extBut _ _ (AK D.n6) e))
  (by rw[<-sz];exact T8) fun c o a1 a2 a3 a4 e=>up c o a1 (k5 c o a1 a2 a3 a4 e)
 show Q (.ref g5.objs.size) _;rw[sz];exact fin
theorem atr{t1 t2:Bool}{z TI TO i1 i2 l1 l2:Addr}{k:Nat}{xs ys:Array Value}{a b:Value}{Q:Fin->Shared->Prop}(hh:A.handled=none)(D:ZAp z TI TO i1 i2 l1 l2)(hz:IsZip s.heap z TI TO .none)(hI:IsPair s.heap TI (.ref i1) (.ref i2))(hO:IsPair s.heap TO a b)
 (h1:SIt t1 s.heap i1 l1 k) (h2:SIt t2 s.heap i2 l2 k) (q1:SSq t1 s.heap l1 xs) (q2:SSq t2 s.heap l2 ys) (hend:xs[k]?=none\/ys[k]?=none)
 (q:∀h' e,(∀c o,c≠z->c≠TO->c≠i1->c≠i2->s.heap.get? c=some o->h'.get? c=some o)->(∃o,h'.get? e=some o/\o.cls=.type "StopIteration")->E (.ref e) { s with heap:=h' }):
 wpAny (model prog w) A (Builtin.«zip.__next__» ⟨[.ref z],[]⟩) Q E s:=by
 refine Aa (m:=field (.ref z) 2) (A4 hz rfl (x:=.bool false) rfl (Aa (m:=field (.ref z) 3) (A4 hz rfl (x:=.ref TI) rfl (Aa (Bw hI rfl ?_)))));refine Aa (m:=Builtin.SmallTypes.ownedTupleIsFree (.ref z)) ?_;unfold Builtin.SmallTypes.ownedTupleIsFree;refine Aa (A4 hz rfl (x:=.none) rfl (Ah ?_));simp only[if_true];refine Aa (Bl (Aa (A4 hz rfl (x:=.ref TO) rfl (Aa (wpAny_setField_rec hz (by simp) fun g1 z1 e1=>?_)))));have z1':IsZip g1 z TI TO .ellipsis:=z1;refine Aa ?_;simp only[DD,List.zipIdx_nil,CF,DP];refine Aa (Aa (wpAny_onRaise (Aa (m:=Builtin.SmallTypes.nextOf (.ref i1)) ?_)));have h1':=h1.on fun o e=>e1.extBut _ _ D.n3 e;have q1':=q1.on fun o e=>e1.extBut _ _ D.n8 e;cases hx:xs[k]? with
 |none=>
  refine SIt.stop hh h1' q1' hx fun g2 e s2 he=>?_;obtain⟨oe,ge,ce⟩:=he;have z2:IsZip g2 z TI TO .ellipsis:=s2 _ _ (AK D.n3) z1';have nz:e≠z:=fun w=>by subst w;rw[z2] at ge;cases ge;simp at ce
  exact wpAny_setField_rec z2 (by simp) fun g3 _ s3=>q g3 e (fun c o a1 _ a3 _ w=>s3.extBut _ _ a1 (s2 _ _ a3 (e1.extBut _ _ a1 w))) ⟨oe,s3.extBut _ _ nz ge,ce⟩
 |some x=>
  have hy:ys[k]?=none:=by rcases hend with h | h;rw[hx] at h;cases h;exact h
  refine SIt.next h1' q1' hx fun g2 h12 e2=>Ah ?_;have O2:IsPair g2 TO a b:=e2.extBut _ _ D.n5 (e1.extBut _ _ D.n2 hO);refine Aa (Bw O2 rfl (Aa (wpAny_updateSeq_pair O2 fun g3 O3 e3=>Aa (wpAny_letGo (Ah ?_)))));refine Aa (Aa (wpAny_onRaise (Aa (m:=Builtin.SmallTypes.nextOf (.ref i2)) (SIt.stop (t:=t2) (l:=l2) (i:=k) (xs:=ys) hh (h2.on fun o e=>e3.extBut _ _ (AK D.n6) (e2.extBut _ _ (AK D.n7) (e1.extBut _ _ D.n4 e)))
   (q2.on fun o e=>e3.extBut _ _ D.n13 (e2.extBut _ _ D.n14 (e1.extBut _ _ D.n12 e))) hy fun g4 e s4 he=>?_))))
  obtain⟨oe,ge,ce⟩:=he;have z4:IsZip g4 z TI TO .ellipsis:=s4 _ _ (AK D.n4) (e3.extBut _ _ (AK D.n2) (e2.extBut _ _ (AK D.n3) z1'));have nz:e≠z:=fun w=>by subst w;rw[z4] at ge;cases ge;simp at ce
  exact wpAny_setField_rec z4 (by simp) fun g5 _ s5=>q g5 e (fun c o a1 a2 a3 a4 w=>s5.extBut _ _ a1 (s4 _ _ a4 (e3.extBut _ _ a2 (e2.extBut _ _ a3 (e1.extBut _ _ a1 w))))) ⟨oe,s5.extBut _ _ nz ge,ce⟩
end
def asz(t:Bool):String:=if t then "tuple_iterator" else "list_iterator"
section
variable {prog:Program}{w:World}{A:Around}{E:Value->Shared->Prop}{s:Shared}
theorem SSq.iter{t:Bool}{l:Addr}{xs:Array Value}{Q:Value->Shared->Prop}(hl:SSq t s.heap l xs)(q:Q (.ref s.heap.objs.size) { s with heap:=s.heap.push { cls:=.type (asz t),data:=.fields #[.ref l,.int 0 0] } }):wpAny (model prog w) A (pyIter (.ref l)) Q E s:=by
 cases t with
 |false=>exact wpAny_pyIter_list hl q
 |true=>exact wpAny_pyIter_tuple hl q
end
theorem SIt.new{t:Bool}{h:Heap}{l it:Addr}(e:h.get? it=some { cls:=.type (asz t),data:=.fields #[.ref l,.int 0 0] }):SIt t h it l 0:=by
 cases t with
 |false=>exact⟨_,e,rfl,rfl⟩
 |true=>exact⟨_,e,rfl,rfl⟩
abbrev zh1(t1:Bool)(h:Heap)(l1:Addr):Heap:=h.push { cls:=.type (asz t1),data:=.fields #[.ref l1,.int 0 0] }
abbrev zh2(t1 t2:Bool)(h:Heap)(l1 l2:Addr):Heap:=(zh1 t1 h l1).push { cls:=.type (asz t2),data:=.fields #[.ref l2,.int 0 0] }
abbrev zh3(t1 t2:Bool)(h:Heap)(l1 l2:Addr):Heap:=(zh2 t1 t2 h l1 l2).push { cls:=.type "tuple",data:=.seq #[.ref h.objs.size,.ref (zh1 t1 h l1).objs.size] }
abbrev zh4(t1 t2:Bool)(h:Heap)(l1 l2:Addr):Heap:=(zh3 t1 t2 h l1 l2).push { cls:=.type "tuple",data:=.seq #[.none,.none] }
abbrev zh5(t1 t2:Bool)(h:Heap)(l1 l2:Addr):Heap:=(zh4 t1 t2 h l1 l2).push { cls:=.type "zip",data:=.fields #[.none,.bool false,.bool false,.ref (zh2 t1 t2 h l1 l2).objs.size,.ref (zh3 t1 t2 h l1 l2).objs.size] }
theorem aor(t1 t2:Bool)(l1 l2:Addr)(xs ys:Array Value):Meets (Builtin.«zip.__new__» ⟨[.type "zip",.ref l1,.ref l2],[]⟩) (fun _ R s=>SSq t1 s.heap l1 xs/\SSq t2 s.heap l2 ys/\R (.ok (.ret (.ref (zh4 t1 t2 s.heap l1 l2).objs.size))) { s with heap:=zh5 t1 t2 s.heap l1 l2 }):=
 .of_wp fun prog w A R s h=>by
  obtain⟨hp,g,d,tk,os⟩:=s;obtain⟨q1,q2,h⟩:=h;have hsub:=sub_zip;have a1:SSq t1 (Shared.heap ⟨hp,g,d,tk,os⟩) l1 xs:=q1;have a2:SSq t2 (Shared.heap ⟨hp.push { cls:=.type (asz t1),data:=.fields #[.ref l1,.int 0 0] },g,d,tk,os⟩) l2 ys:=q2.on fun o e=>Heap.get?_push_of_some _ e
  wp_walk using SSq.iter a1,SSq.iter a2
  exact⟨_,rfl,h⟩
theorem aq4{prog:Program}{w:World}{A:Around}{E:Value->Shared->Prop}{s:Shared}{t1 t2:Bool}{l1 l2:Addr}{xs ys:Array Value}{Q:Value->Shared->Prop}(q1:SSq t1 s.heap l1 xs)(q2:SSq t2 s.heap l2 ys)
 (q:∀h',IsZip h' (s.heap.objs.size+4) (s.heap.objs.size+2) (s.heap.objs.size+3) .none->IsPair h' (s.heap.objs.size+2) (.ref s.heap.objs.size) (.ref (s.heap.objs.size+1))->IsPair h' (s.heap.objs.size+3) .none .none->
  SIt t1 h' s.heap.objs.size l1 0->SIt t2 h' (s.heap.objs.size+1) l2 0->(∀c o,s.heap.get? c=some o->h'.get? c=some o)->Q (.ref (s.heap.objs.size+4)) { s with heap:=h' }):
 wpAny (model prog w) A (call (.type "zip") [.ref l1,.ref l2]) Q E s:=by
 refine callType_new F.called_zip (by decide) (F.typeCall_zip_2 _ _) (F.newCall_zip_2 _ _) (fun obj=>F.args_object_init_3 obj _ _) F.entry_zip_new (aor t1 t2 l1 l2 xs ys) ⟨q1,q2,?_⟩;have s1:(zh1 t1 s.heap l1).objs.size=s.heap.objs.size+1:=Heap.size_push ..;have s2:(zh2 t1 t2 s.heap l1 l2).objs.size=s.heap.objs.size+2:=by rw[Heap.size_push,s1]
 have s3:(zh3 t1 t2 s.heap l1 l2).objs.size=s.heap.objs.size+3:=by rw[Heap.size_push,s2]
 have s4:(zh4 t1 t2 s.heap l1 l2).objs.size=s.heap.objs.size+4:=by rw[Heap.size_push,s3]
 have g5:(zh5 t1 t2 s.heap l1 l2).get? (zh4 t1 t2 s.heap l1 l2).objs.size=some _:=Heap.get?_push_size _ rfl;have g4:(zh5 t1 t2 s.heap l1 l2).get? (zh3 t1 t2 s.heap l1 l2).objs.size=some _:=Heap.get?_push_of_some _ (Heap.get?_push_size _ rfl);have g3:(zh5 t1 t2 s.heap l1 l2).get? (zh2 t1 t2 s.heap l1 l2).objs.size=some _:=Heap.get?_push_of_some _ (Heap.get?_push_of_some _ (Heap.get?_push_size _ rfl));have g2:(zh5 t1 t2 s.heap l1 l2).get? (zh1 t1 s.heap l1).objs.size=some _:=Heap.get?_push_of_some _ (Heap.get?_push_of_some _ (Heap.get?_push_of_some _ (Heap.get?_push_size _ rfl)));have g1:(zh5 t1 t2 s.heap l1 l2).get? s.heap.objs.size=some _:=Heap.get?_push_of_some _ (Heap.get?_push_of_some _ (Heap.get?_push_of_some _ (Heap.get?_push_of_some _ (Heap.get?_push_size _ rfl))));show _/\_;rw[s2,s3,s4] at g5;rw[s1,s2] at g3;rw[s3] at g4;rw[s1] at g2;rw[s4];exact⟨⟨_,g5,rfl⟩,q _ g5 g3 g4 (SIt.new g1) (SIt.new g2) fun c o e=>Heap.get?_push_of_some _ (Heap.get?_push_of_some _ (Heap.get?_push_of_some _ (Heap.get?_push_of_some _ (Heap.get?_push_of_some _ e))))⟩
def Sq(t:Bool)(K:Af)(H:Hp)(a:Addr)(xs:List V):Prop:=match t with
 |false=>SqL K H a xs
 |true=>SqT K H a xs
section
variable {X:Cx}{pins:List (Addr×Obj)}{σ:L2.St}{H:Hp}{s:Shared}
theorem Inv.seq{t:Bool}{a:Addr}{xs:List V}(I:Inv X pins σ H s)(h:Sq t X.K H a xs):∃its:List Value,Vals xs its/\SSq t s.heap a its.toArray/\xs.length≤sizeLine:=by
 cases t with
 |false=>obtain⟨its,v,p,z⟩:=I.list h;exact⟨its,v,p.isList,z⟩
 |true=>obtain⟨its,v,p,z⟩:=I.tuple h;exact⟨its,v,p,z⟩
theorem Inv.seq_inj{t:Bool}{a:Addr}{xs ys:List V}(I:Inv X pins σ H s)(h:Sq t X.K H a xs)(h':Sq t X.K H a ys):xs=ys:=by
 cases t with
 |false=>exact I.list_inj h h'
 |true=>exact I.tuple_inj h h'
end
def Itz(t1 t2:Bool)(K:Af)(a b:Addr):It:=
 ⟨fun i H=>∃xs ys x y,Sq t1 K H a xs/\Sq t2 K H b ys/\xs[i]?=some x/\ys[i]?=some y,
  fun i H v H'=>∃p x y,H p=none/\v=.ref p/\H'=upd H p (.tup [x,y])/\(∀xs,Sq t1 K H a xs->xs[i]?=some x)/\∀ys,Sq t2 K H b ys->ys[i]?=some y,
  fun i H=>∃xs ys,Sq t1 K H a xs/\Sq t2 K H b ys/\(xs.length≤i\/ys.length≤i)⟩
theorem at3{P:Program}{w:World}{K:Af}{t1 t2:Bool}{elts:List Expr}{x1:Nat}{tp:Pos}(a b z TI TO i1 i2:Addr)(D:ZAp z TI TO i1 i2 a b)(d1:TI≠TO)(d2:TI≠i1)(d3:TI≠i2):
 Turn P w K (.Tuple elts x1 tp) (Itz t1 t2 K a b) [z,TI,TO,i1,i2] z (fun i h=>IsZip h z TI TO .none/\IsPair h TI (.ref i1) (.ref i2)/\(∃u v,IsPair h TO u v)/\SIt t1 h i1 a i/\SIt t2 h i2 b i) where
 mem:=by simp
 obj:=fun i h ⟨hz,hI,⟨u,v,hO⟩,h1,h2⟩ c hc=>by
  simp only[As,A5,or_false] at hc;rcases hc with rfl | rfl | rfl | rfl | rfl
  ·exact⟨_,hz,fun v z=>by cases z⟩
  ·exact⟨_,hI,fun v z=>by cases z⟩
  ·exact⟨_,hO,fun v z=>by cases z⟩
  ·exact h1.ob
  ·exact h2.ob
 keep:=fun i h h' ⟨hz,hI,⟨u,v,hO⟩,h1,h2⟩ k=>⟨k z (by simp) _ hz,k TI (by simp) _ hI,⟨u,v,k TO (by simp) _ hO⟩,h1.on fun o q=>k i1 (by simp) o q,h2.on fun o q=>k i2 (by simp) o q⟩
 item:=by
  intro X hP hw hK hc i pins s σ H E I hf ⟨hz,hI,⟨u,v,hO⟩,h1,h2⟩ hg;subst hP hw hK;obtain⟨xs,ys,x,y,q1,q2,hx,hy⟩:=hg;obtain⟨is1,rv1,p1,_⟩:=I.seq q1;obtain⟨is2,rv2,p2,_⟩:=I.seq q2;obtain⟨ux,hux,rux⟩:=rv1.get hx;obtain⟨uy,huy,ruy⟩:=rv2.get hy;have hT:s.TypeIs (.ref z) "zip" := ⟨_,hz,rfl⟩;unfold pyNext;refine Aa (wpAny_attempt (wpAny_callSpecial?_slot (name:="__next__") hT F.slot_zip_next (wpAny_call_entry F.slot_zip_next hT F.entry_zip_next
   (aub D hz hI hO h1 h2 p1 p2 (x:=ux) (y:=uy) (by simpa using hux) (by simpa using huy) fun g1 gz gO gi1 gi2 gT gk=>Ah ⟨.ref s.heap.objs.size,rfl,wpAny_letOwnedTupleGo_zip gz fun g2 gz2 gs2=>?_⟩) (F.args_zip_next_1 _))))
  have lz:z<s.heap.objs.size:=Heap.lt_size hz;have lts:∀c∈[z,TI,TO,i1,i2],c<s.heap.objs.size:=fun c hc=>by
   simp only[As,A5,or_false] at hc;rcases hc with rfl | rfl | rfl | rfl | rfl
   ·exact lz
   ·exact Heap.lt_size hI
   ·exact Heap.lt_size hO
   ·obtain⟨o,e,_⟩:=h1.ob;exact Heap.lt_size e
   ·obtain⟨o,e,_⟩:=h2.ob;exact Heap.lt_size e
  have kk:∀c o,c∉[z,TI,TO,i1,i2]->s.heap.get? c=some o->g2.get? c=some o:=fun c o nc q=>by
   simp only[As,A5,or_false,not_or] at nc;exact gs2.extBut c o nc.1 (gk c o nc.1 nc.2.2.1 nc.2.2.2.1 nc.2.2.2.2 q)
  have tg:g2.get? s.heap.objs.size=some { cls:=.type "tuple",data:=.seq #[ux,uy] }:=gs2.extBut _ _ (Dh lz) gT;refine⟨.ref s.heap.objs.size,upd H s.heap.objs.size (.tup [x,y]),?_,rfl,⟨_,x,y,I.hok.fresh (An _),rfl,rfl,fun zs hq=>by rw[I.seq_inj hq q1];exact hx,fun zs hq=>by rw[I.seq_inj hq q2];exact hy⟩,?_,fun c hc=>?_⟩
  ·exact I.turnedN (t':=s.toks) kk hf (An _) ⟨by show 2≤sizeLine;decide,[ux,uy],.cons rux (.cons ruy .nil),⟨_,tg,rfl,_,rfl⟩⟩
  ·exact⟨gz2,gs2.extBut _ _ D.n1 (gk _ _ D.n1 d1 d2 d3 hI),⟨_,_,gs2.extBut _ _ D.n2 gO⟩,gi1.on fun o q=>gs2.extBut _ _ D.n3 q,gi2.on fun o q=>gs2.extBut _ _ D.n4 q⟩
  ·rw[qr (A3 (lts c hc))];exact(hf c hc).1
 done:=by
  intro X hP hw hK hc i pins s σ H E I hf ⟨hz,hI,⟨u,v,hO⟩,h1,h2⟩ hg;subst hP hw hK;obtain⟨xs,ys,q1,q2,hl⟩:=hg;obtain⟨is1,rv1,p1,_⟩:=I.seq q1;obtain⟨is2,rv2,p2,_⟩:=I.seq q2;have l1:=rv1.length;have l2:=rv2.length;have hT:s.TypeIs (.ref z) "zip" := ⟨_,hz,rfl⟩;unfold pyNext;refine Aa (wpAny_attempt (wpAny_callSpecial?_slot (name:="__next__") hT F.slot_zip_next (wpAny_call_entry F.slot_zip_next hT F.entry_zip_next
   (atr (I.ok.hd hc) D hz hI hO h1 h2 p1 p2 (by rcases hl with h | h;exact .inl (by simp;omega);exact .inr (by simp;omega)) fun g1 e gk he=>?_) (F.args_zip_next_1 _))))
  obtain⟨o,ho,hc'⟩:=he;refine Aa (wpAny_isInstance (T:="StopIteration") (b:=true) ⟨o,ho,hc'⟩ isSubtype_stop (Ah ⟨rfl,?_⟩));exact I.turnedL (t':=s.toks) (fp:=[z,TI,TO,i1,i2]) (fun c o nc q=>by
   simp only[As,A5,or_false,not_or] at nc;exact gk c o nc.1 nc.2.2.1 nc.2.2.2.1 nc.2.2.2.2 q) hf
 self:=fun _ _ _ _ _ ⟨hz,_⟩ h=>wpAny_pyIter_zip hz h
def a3j(K:Af)(ta:TA):TI:=fun σ H R=>ta σ H fun vs H1=>∃t1 t2 a b,vs=[.ref a,.ref b]/\(∃xs,Sq t1 K H1 a xs)/\(∃xs,Sq t2 K H1 b xs)/\R (Itz t1 t2 K a b) H1
theorem azu:bootBuiltins "zip" = some (.type "zip"):=by decide +kernel
theorem ayf{X:Cx}{a b:Expr}{ta:TA}{elts:List Expr}{x1:Nat}{tp p pos:Pos}(hg:Gl X "zip")(hm:X.mg "zip" = none)(ha:PA X [a,b] ta)(hs:starEach [a,b] X.env=[(false,eval a X.env),(false,eval b X.env)]:=by rfl)
 (hs2:starEach [b] X.env=[(false,eval b X.env)]:=by rfl):PI X (.Tuple elts x1 tp) (.Call (.Name "zip" p) [a,b] [] pos) (a3j X.K ta):=by
 intro pins s σ H R I h;refine Call_ (adm I hg hm azu (BQ (thn (ha pos pins s σ H _ I h) fun us s1 ⟨vs,H1,I1,r1,q1⟩=>?_) (by rw[hs,hs2]) (by rw[hs2];rfl)));obtain⟨t1,t2,l1,l2,e,⟨xs,hx⟩,⟨ys,hy⟩,q⟩:=q1;subst e;obtain⟨u1,u2,rfl,ru1,ru2⟩:=Vals.two r1;cases ru1;cases ru2;obtain⟨is1,_,p1,_⟩:=I1.seq hx;obtain⟨is2,_,p2,_⟩:=I1.seq hy;have lt1:l1<s1.heap.objs.size:=by
  cases t1 with
  |false=>obtain⟨o,e,_⟩:=p1;exact Heap.lt_size e
  |true=>obtain⟨o,e,_⟩:=p1;exact Heap.lt_size e
 have lt2:l2<s1.heap.objs.size:=by
  cases t2 with
  |false=>obtain⟨o,e,_⟩:=p2;exact Heap.lt_size e
  |true=>obtain⟨o,e,_⟩:=p2;exact Heap.lt_size e
 refine aq4 p1 p2 fun g1 gz gI gO g1' g2' gk=>?_;have I2:Inv X pins σ H1 { s1 with heap:=g1 }:=I1.kept (t':=s1.toks) gk;refine wpAny_pyIter_zip (s:={ s1 with heap:=g1 }) gz ?_;refine⟨_,[_,s1.heap.objs.size+2,s1.heap.objs.size+3,s1.heap.objs.size,s1.heap.objs.size+1],_,_,H1,rfl,I2,at3 l1 l2 _ _ _ _ _ ?_ (neN (by omega)) (neN (by omega)) (neN (by omega)),⟨gz,gI,⟨_,_,gO⟩,g1',g2'⟩,fun c hc=>?_,q⟩
 ·have lt1':@LT.lt Nat instLTNat l1 s1.heap.objs.size:=lt1;have lt2':@LT.lt Nat instLTNat l2 s1.heap.objs.size:=lt2;constructor<;>exact neN (by omega)
 ·have hc':s1.heap.objs.size≤c:=by
   simp only[As,A5,or_false] at hc;rcases hc with rfl | rfl | rfl | rfl | rfl<;>exact leN (by omega)
  exact I1.fpOk hc' (I1.hok.fresh hc')
end L2
namespace L3
open PySem L2
def al1(L₀:LHp):Y->LHp->Prop
 |.ref a,L=>L a=L₀ a
 |_,_=>True
theorem ag7(L:LHp):∀y:Y,al1 L y L
 |.ref _=>rfl
 |.non=>trivial
 |.bl _=>trivial
 |.int _=>trivial
 |.str _=>trivial
 |.ty _=>trivial
 |.cd _=>trivial
 |.tup _=>trivial
 |.sq _=>trivial
theorem apm{G:G3}{H1:Hp}{L1:LHp}{y:Y}{v:V}{ys:List Y}(r:RV G H1 y v)(h:ab4 L1 y=some ys):∃t p,v=.ref p/\∀H L,TSt H1 H->RelH G H L->al1 L1 y L->∃xs,Sq t G.K H p xs/\RVs G H ys xs:=by
 cases y with
 |tup zs=>
  obtain⟨a,xs,e,s,q⟩:=r;cases h;exact⟨true,a,e,fun H L t _ _=>⟨xs,SqT.ts s t,q.ts t⟩⟩
 |sq zs=>
  obtain⟨a,xs,e,s,q⟩:=r;cases h;exact⟨false,a,e,fun H L t _ _=>⟨xs,(s.ts t).sq,q.ts t⟩⟩
 |ref a=>
  have e:=af8 h;exact⟨false,a,r,fun H L _ rl kp=>let ⟨xs,e2,q⟩:=rl a _ (kp.trans e);⟨xs,SqL.of e2,q⟩⟩
 |_=>cases h
def aou(xs ys:List Y):List Y:=List.zipWith (fun a b=>Y.tup [a,b]) xs ys
theorem apr{xs ys:List Y}{i:Nat}{y:Y}(h:(aou xs ys)[i]?=some y):∃a b,xs[i]?=some a/\ys[i]?=some b/\y=.tup [a,b]:=by
 unfold aou at h;rw[List.getElem?_zipWith] at h;cases e1:xs[i]? with
 |none=>rw[e1] at h;simp at h
 |some a=>
  cases e2:ys[i]? with
  |none=>rw[e1,e2] at h;simp at h
  |some b=>rw[e1,e2] at h;simp at h;exact⟨a,b,rfl,rfl,h.symm⟩
theorem ahb(xs ys:List Y):(aou xs ys).length=min xs.length ys.length:=by simp[aou]
theorem anw{G:G3}{H₀:Hp}{t1 t2:Bool}{a b:Addr}{xs ys:List Y}{keep:LHp->Prop}(h1:∀H L,TSt H₀ H->RelH G H L->keep L->∃us,Sq t1 G.K H a us/\RVs G H xs us)(h2:∀H L,TSt H₀ H->RelH G H L->keep L->∃us,Sq t2 G.K H b us/\RVs G H ys us):
 Yields G H₀ (Itz t1 t2 G.K a b) (aou xs ys) keep where
 go:=fun i H L t rl kp hi=>by
  obtain⟨us,s1,r1⟩:=h1 H L t rl kp;obtain⟨vs,s2,r2⟩:=h2 H L t rl kp;rw[ahb] at hi;have l1:=r1.length;have l2:=r2.length;exact⟨us,vs,us[i]'(by omega),vs[i]'(by omega),s1,s2,Aj _,Aj _⟩
 yld:=fun i H L x H' y t rl kp hy ⟨p,u,v,hp,e1,e2,f1,f2⟩=>by
  subst e1 e2;obtain⟨us,s1,r1⟩:=h1 H L t rl kp;obtain⟨vs,s2,r2⟩:=h2 H L t rl kp;obtain⟨c,d,ec,ed,rfl⟩:=apr hy;obtain⟨u',eu,ru⟩:=r1.get ec;obtain⟨v',ev,rv⟩:=r2.get ed;have z1:=f1 us s1;rw[eu] at z1;cases z1;have z2:=f2 vs s2;rw[ev] at z2;cases z2;exact⟨TSt.new hp,rl.skip hp,p,_,rfl,SqT.of zv,⟨_,_,rfl,ru.ts (TSt.new hp),_,_,rfl,rv.ts (TSt.new hp),rfl⟩⟩
 stop:=fun H L t rl kp=>by
  obtain⟨us,s1,r1⟩:=h1 H L t rl kp;obtain⟨vs,s2,r2⟩:=h2 H L t rl kp;have l1:=r1.length;have l2:=r2.length;exact⟨us,vs,s1,s2,by rw[ahb];omega⟩
def axn(ta:TA3)(τ:St3)(L:LHp)(R:List Y->(LHp->Prop)->LHp->Prop):Prop:=ta τ L fun vs L1=>match vs with
 |[x,y]=>aew L1 x fun xs=>aew L1 y fun ys=>R (aou xs ys) (fun L=>al1 L1 x L/\al1 L1 y L) L1
 |_=>False
theorem azw{X:Cx}{a b:Expr}{tr:TA3}{elts:List Expr}{x1:Nat}{tp p pos:Pos}(hg:Gl X "zip")(hm:X.mg "zip" = none)(ha:QA X [a,b] tr)(hs:starEach [a,b] X.env=[(false,eval a X.env),(false,eval b X.env)]:=by rfl)
 (hs2:starEach [b] X.env=[(false,eval b X.env)]:=by rfl):QI X (.Tuple elts x1 tp) (.Call (.Name "zip" p) [a,b] [] pos) (axn tr):=PI.imp (ayf hg hm ha hs hs2) fun σ H R ⟨τ,L,R3,rs,rl,z,k⟩=>by
 refine⟨τ,L,_,rs,rl,z,fun vs H1 ys L1 t1 rl1 rv1 z1=>?_⟩
 split at z1
 ·rename_i x y;obtain⟨u,v,rfl,ru,rv⟩:=rv1.inv2;obtain⟨xs,ex,z1⟩:=aa0 z1;obtain⟨zs,ez,z1⟩:=aa0 z1;obtain⟨t1',p1,rfl,k1⟩:=apm ru ex;obtain⟨t2',p2,rfl,k2⟩:=apm rv ez;obtain⟨us,s1,_⟩:=k1 H1 L1 (TSt.refl _) rl1 (ag7 _ _);obtain⟨ws,s2,_⟩:=k2 H1 L1 (TSt.refl _) rl1 (ag7 _ _);exact⟨t1',t2',p1,p2,rfl,⟨us,s1⟩,⟨ws,s2⟩,k _ H1 _ _ L1 t1 rl1 (anw (fun H L t rl kp=>k1 H L t rl kp.1) fun H L t rl kp=>k2 H L t rl kp.2) z1⟩
 ·exact z1.elim
def ae6(xs:List Y)(L:LHp)(Q:YK):Prop:=match xs with
 |[x]=>aew L x fun ys=>∀p,L p=none->Q (.ref p) (qh L p (.lst ys))
 |_=>False
theorem ah3{X:Cx}:CallR X (.type "list") (upL X.g3 ae6):=CallR.imp aky fun xs H Q ⟨ys,L,Q3,rv,rl,z,k⟩=>by
 unfold ae6 at z
 split at z
 ·rename_i x;obtain⟨u,rfl,ru⟩:=rv.inv1;obtain⟨zs,ez,z⟩:=aa0 z;obtain⟨p,us,e,sq,r⟩:=akg rl ru ez;subst e;exact⟨p,us,rfl,sq,fun l hl=>k _ _ _ _ (TSt.new hl) (rl.newL hl r) (by rfl) (z l (rl.none hl))⟩
 ·exact z.elim
theorem aex{X:Cx}{x:Str}{T:String}{e:Expr}{es:List Expr}{tr:TA3}{p pos:Pos}{r:List Y->LHp->YK->Prop}(hc:CallR X (.type T) (upL X.g3 r))(hg:Gl X x)(hm:X.mg x=none)(hv:bootBuiltins x=some (.type T))(h:QA X (e::es) tr)
 (hn:x ≠ "__name__" := by decide) (hd:(x==("__debug__" : Str))=false:=by decide) (hs:starEach (e::es) X.env=(false,eval e X.env)::starEach es X.env:=by rfl) (hp:(backTo pos (starEach es X.env)).any (·.1)=false:=by rfl):
 QE X (.Call (.Name x p) (e::es) [] pos) (yCB r tr):=PE.imp (afl hc hg hm hv h hn hd hs hp) fun σ H Q ⟨τ,L,Q3,rs,rl,z,k⟩=>
 ⟨τ,L,_,rs,rl,z,fun vs H1 ys L1 t1 rl1 rv1 z1=>⟨ys,L1,Q3,rv1,rl1,z1,k.ts t1⟩⟩
def abg(x:Y)(vs:List Y)(L:LHp)(Q:YK):Prop:=match x,vs with
 |.ref a,[.int i]=>ac7 L a fun ys=>0≤i/\i<ys.length/\atK L (fun v L=>Q v (qh L a (.lst (ys.eraseIdx i.toNat)))) (ys[i.toNat]?)
 |_,_=>False
theorem aw0{X:Cx}:MtM X "list.pop" (upM X.g3 abg):=fun pins s σ H x xs v us Q I rx ry ⟨y,ys,L,Q3,r1,r2,rl,z,k⟩=>by
 unfold abg at z
 split at z
 ·rename_i a i;obtain⟨zs,e,h0,h1,z⟩:=x8 z;obtain⟨ws,e2,r⟩:=rl a _ e;obtain⟨i',rfl,ri⟩:=r2.inv1;cases ri;cases el:zs[i.toNat]? with
  |none=>rw[el] at z;exact z.elim
  |some w=>
   rw[el] at z;obtain⟨u,eu,ru⟩:=r.get el;obtain⟨_,_,_,hz⟩:=I.list (SqL.of e2);have hl:=r.length;have hs:sizeLine<2 ^ 62:=by decide
   refine ass pins s σ H x _ v us Q I rx ry ⟨a,ws,i,i.toNat,u,r1,rfl,e2,by omega,by omega,?_,eu,k _ _ _ _ (TSt.lst e2) (rl.setL e2 (r.eraseIdx _)) (ru.ts (TSt.lst e2)) z⟩;unfold seqIndex?;rw[Ax (show ¬i<0 by omega),AB (by simp;omega)]
 ·exact z.elim
theorem aaz{X:Cx}{o e:Expr}{es:List Expr}{to:TE3}{tr:TA3}{apos cpos:Pos}(ho:QE X o to)(ha:QA X (e::es) tr)(h4:attributeBase o "pop" X.env (eval o X.env)=eval o X.env:=by rfl)
 (h5:((backTo cpos (starEach (e::es) X.env)).all (fun x=>!x.1)&&(backToKw cpos (keywordEach [] X.env)).all (fun x=>x.1.isSome)&&decide ((e::es).length+([]:List Keyword).length+(if ([]:List Keyword).isEmpty=true then 0 else 1)<30))=true:=by rfl)
 (h6:(apos.endLine==cpos.line)=true:=by rfl) (h7:starEach (e::es) X.env=(false,eval e X.env)::starEach es X.env:=by rfl) (h8:(backTo cpos (starEach es X.env)).any (·.1)=false:=by rfl):
 QE X (.Call (.Attribute o "pop" apos) (e::es) [] cpos) (yBL abg to tr):=ak9 PySem.F.slot_list_pop PySem.F.type_list_pop aw0 ho ha h4 h5 h6 h7 h8
end L3
namespace L2
open PySem PySem.Spec PyProof.Rows
section
variable {X:Cx}
theorem aps(i:Int)(n d:Nat):max 0 (min (if i<0 then i+(n:Int) else i) n)=((HT.sIx n d (some i):Nat):Int):=by
 simp only[HT.sIx]
 by_cases h:i<0
 ·simp only[h,if_true]<;>omega
 ·simp only[h,if_false]<;>omega
theorem ari(l u:Option Int)(n:Nat):Builtin.Str.strSliceIndices l u 1 n=(List.range (HT.sIx n n u - HT.sIx n 0 l)).map (HT.sIx n 0 l+·):=by
 have z:(0:Int)=((HT.sIx n 0 none:Nat):Int):=rfl;have y:(n:Int)=((HT.sIx n n none:Nat):Int):=rfl;unfold Builtin.Str.strSliceIndices;cases l with
 |none=>
  cases u with
  |none=>exact sliceRange_one 0 n
  |some j=>
   show sliceRange 0 (max 0 (min (if j<0 then j+(n:Int) else j) n)) 1=_;rw[aps j n n];exact sliceRange_one 0 _
 |some i=>
  cases u with
  |none=>
   show sliceRange (max 0 (min (if i<0 then i+(n:Int) else i) n)) n 1=_;rw[aps i n 0];exact sliceRange_one _ n
  |some j=>
   show sliceRange (max 0 (min (if i<0 then i+(n:Int) else i) n)) (max 0 (min (if j<0 then j+(n:Int) else j) n)) 1=_;rw[aps i n 0,aps j n n];exact sliceRange_one _ _
theorem aje(x:Str)(l u:Option Int):(Txt.slice x l u).cps.toList=(x.cps.toList.drop (HT.sIx x.length 0 l)).take (HT.sIx x.length x.length u - HT.sIx x.length 0 l):=by
 have hn:x.length=x.cps.toList.length:=by simp[Str.length]
 have pick:=pick_run x.cps (HT.sIx x.length 0 l) (HT.sIx x.length x.length u - HT.sIx x.length 0 l);unfold Txt.slice;rw[ari]
 split
 ·rename_i h;simp only[beq_self_eq_true,Bool.true_and,Ae,BZ,beq_iff_eq] at h;have h1:=HT.sIx_le x.length 0 (Bf _) l;have h2:=HT.sIx_le x.length x.length (An _) u;have a0:HT.sIx x.length 0 l=0:=by omega
  rw[h,a0,DQ,Ba (by omega)]
 ·show(List.filterMap (fun i=>x.cps[i]?) _).toArray.toList=_;rw[List.toList_toArray];exact pick
def a2h:V->Option Int->Option Int->Hp->VK->Prop:=fun x lo hi H Q=>∃z,x=.str z/\z.length≤sizeLine/\Q (.str (Txt.slice z lo hi)) H
theorem az3:SlR X a2h:=by
 intro pins s σ H x v vl vu lo hi sl Q I rx hs pl pu h;obtain⟨z,rfl,hz,q⟩:=h;obtain⟨t,rfl⟩:=rx;obtain⟨l,rfl,hl⟩:∃l:Option (Int×Tok),vl=partValue l/\l.map (·.1)=lo:=by
  cases pl with
  |none=>exact⟨none,rfl,rfl⟩
  |int i t=>exact⟨some (i,t),rfl,rfl⟩
 obtain⟨u,rfl,hu⟩:∃u:Option (Int×Tok),vu=partValue u/\u.map (·.1)=hi:=by
  cases pu with
  |none=>exact⟨none,rfl,rfl⟩
  |int i t=>exact⟨some (i,t),rfl,rfl⟩
 subst hl hu;refine⟨"str",_,F.slot_str_getitem.lookup,typeIs_str _ _ _,ji I.tk (wpAny_getItem_str_slice (l:=l) (u:=u) (st:=none) hs rfl ?_)⟩;exact post_val_or_str ⟨AW (Txt.slice_le z _ _) hz,fun t' k ht=>⟨.str _,H,I.tok _,⟨t',rfl⟩,q⟩⟩
theorem ao7{zs:List Str}:∀{us:List Value},Vals (zs.map V.str) us->StrsAre us zs:=by
 induction zs with
 |nil=>intro us r;rw[CN] at r;cases r;exact .nil
 |cons z zs ih=>
  intro us r;rw[AE] at r;cases r with
  |cons r1 r2=>
   obtain⟨t,e⟩:=r1;subst e;exact .cons z t (ih r2)
def a1n(K:Af):V->List V->Hp->VK->Prop:=fun x vs H Q=>∃z a zs,x=.str z/\vs=[.ref a]/\SqL K H a ((zs:List Str).map V.str)/\(zs.map (·.length)).sum+zs.length*z.length≤16777216/\Q (.str (Txt.join z zs)) H
theorem awx:MtM X "str.join" (a1n X.K):=by
 intro pins s σ H x vs v us Q I rx rv h;obtain⟨z,a,zs,rfl,rfl,hq,hz,q⟩:=h;obtain⟨t,rfl⟩:=rx;obtain⟨u,rfl,ru⟩:=rv.one;cases ru;obtain⟨its,r,p,_⟩:=I.list hq;exact ji I.tk (PyProof.Rows.join_list p.isList (by simpa using ao7 r) hz fun t' k ht=>⟨.str _,H,I.tok _,⟨t',rfl⟩,q⟩)
end
end L2
namespace L3
open PySem L2
def av2(x:Y)(lo hi:Option Int)(L:LHp)(Q:YK):Prop:=match x with
 |.str z=>z.length≤sizeLine/\Q (.str (Txt.slice z lo hi)) L
 |x=>a1u x lo hi L Q
theorem as7{X:Cx}(K:Af)(P:Program)(w:World)(hK:X.K=K:=by rfl)(hP:X.prog=P:=by rfl)(hw:X.w=w:=by rfl):SlR X (avw ⟨K,P,w⟩ av2):=by
 refine SlR.imp (az3.or (a1j K P w hK hP hw)) fun x lo hi H Q ⟨y,L,Q3,rv,rl,z,k⟩=>?_;cases y with
 |str s=>exact .inl ⟨s,rv,z.1,k _ H _ L (TSt.refl _) rl (by rfl) z.2⟩
 |_=>exact .inr ⟨_,L,Q3,rv,rl,z,k⟩
def yBS(r:Y->List Y->LHp->YK->Prop)(to:TE3)(t:TA3)(τ:St3)(L:LHp)(Q:YK):Prop:=to τ L fun x L1=>match x with
 |.str z=>t τ L1 fun xs L2=>r (.str z) xs L2 Q
 |_=>False
theorem ayq{X:Cx}{o e:Expr}{es:List Expr}{to:TE3}{tr:TA3}{id:String}{name:Str}{apos cpos:Pos}{r:Y->List Y->LHp->YK->Prop}(h2:Slot "str" name id)(h3:typeOf (.builtin id)=pure (.type "method_descriptor"))(hm:MtM X id (upM X.g3 r))(ho:QE X o to)(ha:QA X (e::es) tr)
 (h4:attributeBase o name X.env (eval o X.env)=eval o X.env:=by rfl)
 (h5:((backTo cpos (starEach (e::es) X.env)).all (fun x=>!x.1)&&(backToKw cpos (keywordEach [] X.env)).all (fun x=>x.1.isSome)&&decide ((e::es).length+([]:List Keyword).length+(if ([]:List Keyword).isEmpty=true then 0 else 1)<30))=true:=by rfl)
 (h6:(apos.endLine==cpos.line)=true:=by rfl) (h7:starEach (e::es) X.env=(false,eval e X.env)::starEach es X.env:=by rfl) (h8:(backTo cpos (starEach es X.env)).any (·.1)=false:=by rfl):
 QE X (.Call (.Attribute o name apos) (e::es) [] cpos) (yBS r to tr):=PE.imp (axl PySem.F.plainAttrs_str h2 h3 hm ho ha h4 h5 h6 h7 h8) fun σ H Q ⟨τ,L,Q3,rs,rl,z,k⟩=>
 ⟨τ,L,_,rs,rl,z,fun v H1 y L1 t1 rl1 rv1 z1=>by
  split at z1
  ·rename_i s;cases rv1;exact⟨rfl,τ,L1,_,rs.ts t1,rl1,z1,fun vs H2 ys L2 t2 rl2 rv2 z2=>⟨.str s,ys,L2,Q3,rfl,rv2,rl2,z2,k.ts (t1.trans t2)⟩⟩
  ·exact z1.elim⟩
theorem an4{G:G3}{H:Hp}:∀{zs:List Str} {xs:List V},RVs G H (zs.map Y.str) xs->xs=zs.map V.str
 |[],_,h=>h
 |z::r,_,⟨x,xs',e,q,s⟩=>by rw[e,show x=V.str z from q,an4 s];rfl
def apu(x:Y)(vs:List Y)(L:LHp)(Q:YK):Prop:=match x,vs with
 |.str z,[.ref a]=>ac7 L a fun ys=>∃zs,ys=zs.map Y.str/\(zs.map (·.length)).sum+zs.length*z.length≤16777216/\Q (.str (Txt.join z zs)) L
 |_,_=>False
theorem a00{X:Cx}:MtM X "str.join" (upM X.g3 apu):=MtM.imp awx fun x xs H Q ⟨y,ys,L,Q3,r1,r2,rl,z,k⟩=>by
 unfold apu at z
 split at z
 ·rename_i s a;obtain⟨us,e,zs,rfl,hz,z⟩:=x8 z;obtain⟨ws,e2,r⟩:=rl a _ e;obtain⟨u,rfl,ru⟩:=r2.inv1;cases ru;rw[an4 r] at e2;exact⟨s,a,zs,r1,rfl,SqL.of e2,hz,k _ H _ L (TSt.refl _) rl (by rfl) z⟩
 ·exact z.elim
theorem awr{X:Cx}{o e:Expr}{es:List Expr}{to:TE3}{tr:TA3}{apos cpos:Pos}(ho:QE X o to)(ha:QA X (e::es) tr)(h4:attributeBase o "join" X.env (eval o X.env)=eval o X.env:=by rfl)
 (h5:((backTo cpos (starEach (e::es) X.env)).all (fun x=>!x.1)&&(backToKw cpos (keywordEach [] X.env)).all (fun x=>x.1.isSome)&&decide ((e::es).length+([]:List Keyword).length+(if ([]:List Keyword).isEmpty=true then 0 else 1)<30))=true:=by rfl)
 (h6:(apos.endLine==cpos.line)=true:=by rfl) (h7:starEach (e::es) X.env=(false,eval e X.env)::starEach es X.env:=by rfl) (h8:(backTo cpos (starEach es X.env)).any (·.1)=false:=by rfl):
 QE X (.Call (.Attribute o "join" apos) (e::es) [] cpos) (yBS apu to tr):=ayq PySem.F.slot_str_join PySem.F.type_str_join a00 ho ha h4 h5 h6 h7 h8
theorem akt(zs:List Str):(Txt.join "" zs).cps.toList=zs.flatMap fun z=>z.cps.toList:=by
 have e:∀zs:List Str,(Str.join "" zs).cps.toList=zs.flatMap fun z=>z.cps.toList:=by
  intro zs
  induction zs with
  |nil=>rfl
  |cons z r ih=>
   cases r with
   |nil=>simp[Str.join]
   |cons y r=>
    show(z ++ "" ++ Str.join "" (y::r)).cps.toList=_;have:(z ++ "" ++ Str.join "" (y::r)).cps=z.cps++#[]++(Str.join "" (y::r)).cps:=rfl;rw[this];simp only[AZ,ih,AS,Array.append_empty]
 exact(BA (fun x:Str=>x.cps.toList) (StrLaws.glued_eq_join "" zs)).trans (e zs)
theorem av1(K:Af)(T S S':Ty3):PySem.W.kitAny K (.type T.nm) [.type S.nm,.type S'.nm]=some (ab2 T S||ab2 T S'):=by
 show(match PySem.W.kitOne K (.type T.nm) (.type S.nm) with | some true=>some true | some false=>(match PySem.W.kitOne K (.type T.nm) (.type S'.nm) with | some true=>some true | some false=>some false | none=>none) | none=>none)=_;rw[akk,akk];cases ab2 T S<;>cases ab2 T S'<;>rfl
theorem aqq{X:Cx}{H:Hp}{L:LHp}{y:Y}{v:V}{u:Value}{T S S':Ty3}{a:Addr}{pins:List (Addr×Obj)}{σ:L2.St}{s:Shared}(I:Inv X pins σ H s)(rl:RelH X.g3 H L)(r:RV X.g3 H y v)(ru:RelV v u)(h:tyY L y=some T)(ha:H a=some (.tup [.ty S.nm,.ty S'.nm]))
 {A:Around} {E:Value->Shared->Prop} {Q:Value->Shared->Prop} (hq:∀tk,Q (.bool (ab2 T S||ab2 T S')) { s with toks:=tk }):wpAny (model X.prog X.w) A (call (.builtin "isinstance") [u,.ref a]) Q E s:=by
 obtain⟨_,its,vs,⟨⟨oc,od,dt,sl⟩,h1,h2,n,h3⟩⟩:=(show ObjOk X.prog X.w H s.heap a (.tup [.ty S.nm,.ty S'.nm]) from I.hok a _ ha);obtain⟨u1,u2,rfl,r1,r2⟩:=Vals.two vs;cases (show u1=Value.type S.nm from r1);cases (show u2=Value.type S'.nm from r2);cases (show oc=_ from h2);cases (show dt=_ from h3);have e:=av1 X.K T S S';cases y with
 |non=>cases h;cases r;cases (show u=Value.none from ru);exact BO PySem.W.kitx_none I.kIn True.intro h1 e (fun z=>nomatch z) hq
 |bl b=>cases h;cases r;cases (show u=Value.bool b from ru);exact BO PySem.W.kitx_bool I.kIn True.intro h1 e (fun z=>nomatch z) hq
 |int i=>cases h;cases r;obtain⟨t,q⟩:=(show ∃t,u=Value.int i t from ru);cases q;exact BO PySem.W.kitx_int I.kIn True.intro h1 e (fun z=>nomatch z) hq
 |str x=>cases h;cases r;obtain⟨t,q⟩:=(show ∃t,u=Value.str x t from ru);cases q;exact BO PySem.W.kitx_str I.kIn True.intro h1 e (fun z=>nomatch z) hq
 |tup ys=>
  cases h;obtain⟨b,xs,rfl,sq,_⟩:=r;cases (show u=Value.ref b from ru);obtain⟨_,_,⟨o,g1,g2,_⟩,_⟩:=I.tuple sq;exact BO Dl I.kIn ⟨o,g1,g2⟩ h1 e (fun z=>nomatch z) hq
 |sq ys=>
  cases h;obtain⟨b,xs,rfl,sq,_⟩:=r;cases (show u=Value.ref b from ru);obtain⟨_,_,⟨o,_,g1,g2,_⟩,_⟩:=I.list sq.sq;exact BO Cp I.kIn ⟨o,g1,g2⟩ h1 e (fun z=>nomatch z) hq
 |ref b=>
  cases (show v=.ref b from r);cases (show u=Value.ref b from ru);have h':(match L b with | some (.lst _)=>some Ty3.list | some (.dct _)=>some .dict | _=>none)=some T:=h
  split at h'
  ·rename_i ys el;cases h';obtain⟨xs,e2,_⟩:=rl b _ el;obtain⟨_,_,⟨o,_,g1,g2,_⟩,_⟩:=I.list (SqL.of e2);exact BO Cp I.kIn ⟨o,g1,g2⟩ h1 e (fun z=>nomatch z) hq
  ·rename_i kvs el;cases h';obtain⟨xs,e2,_⟩:=rl b _ el;obtain⟨_,_,ws,_,p⟩:=(show ObjOk X.prog X.w H s.heap b (.dK xs) from I.hok b _ e2);obtain⟨o,es,ep,g1,g2,_⟩:=p;exact BO Du I.kIn ⟨o,g1,g2.1⟩ h1 e (fun z=>nomatch z) hq
  ·cases h'
 |_=>cases h
def aqx(G:G3)(S S':Ty3):List V->Hp->VK->Prop:=fun xs H Q=>∃y v L Q3 T a,xs=[v,.ref a]/\H a=some (.tup [.ty S.nm,.ty S'.nm])/\RV G H y v/\RelH G H L/\tyY L y=some T/\Q3 (.bl (ab2 T S||ab2 T S')) L/\Aft G H Q3 Q
theorem aq8{X:Cx}(S S':Ty3):CallR X (.builtin "isinstance") (aqx X.g3 S S'):=by
 intro pins s σ H xs us Q I r h;obtain⟨y,v,L,Q3,T,a,rfl,ha,rv,rl,ty,q,k⟩:=h;obtain⟨u,c,rfl,r1,r2⟩:=Vals.two r;cases (show c=Value.ref a from r2);exact ji I.tk (aqq I rl rv r1 ty ha fun tk ht=>⟨.bl _,H,I.tok _,rfl,k _ H _ L (TSt.refl _) rl (by rfl) q⟩)
theorem aoc{X:Cx}{a:Expr}{ta:TE3}{p p1 p2 pt pos:Pos}{kt:Nat}{xT xT':Str}(S S':Ty3)(hg:Gl X "isinstance")(hm:X.mg "isinstance" = none)(hgT:Gl X xT)(hmT:X.mg xT=none)(hvT:bootBuiltins xT=some (.type S.nm))(hgT':Gl X xT')(hmT':X.mg xT'=none)(hvT':bootBuiltins xT'=some (.type S'.nm))(ha:QE X a ta)
 (hn:xT ≠ "__name__" := by decide) (hd:(xT==("__debug__" : Str))=false:=by decide) (hn':xT' ≠ "__name__" := by decide) (hd':(xT'==("__debug__" : Str))=false:=by decide)
 (hs:starEach [a,.Tuple [.Name xT p1,.Name xT' p2] kt pt] X.env=(false,eval a X.env)::starEach [.Tuple [.Name xT p1,.Name xT' p2] kt pt] X.env:=by rfl)
 (hs2:starEach [.Tuple [.Name xT p1,.Name xT' p2] kt pt] X.env=(false,eval (.Tuple [.Name xT p1,.Name xT' p2] kt pt) X.env)::starEach [] X.env:=by rfl)
 (hs3:starEach [.Name xT p1,.Name xT' p2] X.env=(false,eval (.Name xT p1) X.env)::starEach [.Name xT' p2] X.env:=by rfl) (hs4:starEach [.Name xT' p2] X.env=(false,eval (.Name xT' p2) X.env)::starEach [] X.env:=by rfl)
 (hp:(backTo pos (starEach [.Tuple [.Name xT p1,.Name xT' p2] kt pt] X.env)).any (·.1)=false:=by rfl):
 QE X (.Call (.Name "isinstance" p) [a,.Tuple [.Name xT p1,.Name xT' p2] kt pt] [] pos) (amb S S' ta):=by
 refine PE.imp (ahg (aq8 S S') hg hm adg (wy ha (wy (ary (wy (atu hgT hmT hvT hn hd) (wy (atu hgT' hmT' hvT' hn' hd') adh hs4) hs3)) adh hs2) hs) (by decide) (by decide) hs hp) ?_;rintro σ H Q ⟨τ,L,Q3,rs,rl,z,k⟩;refine⟨τ,L,_,rs,rl,z,fun v H1 y L1 t1 rl1 rv1 z1=>?_⟩;obtain⟨T,et,z1⟩:=amz z1;refine⟨by show 2≤sizeLine;decide,fun q hq=>?_⟩;exact⟨y,v,L1,Q3,T,q,rfl,zv,rv1.ts (TSt.new hq),rl1.skip hq,et,z1,k.ts (t1.trans (TSt.new hq))⟩
def aci(t u:TS3)(D:Ends3)(τ:St3)(L:LHp):Prop:=∃J:St3->LHp->Prop,t { D with nx:=J } τ L/\∀τ' L',J τ' L'->u D τ' L'
theorem xi{X:Cx}{st:Stmt}{rest:List Stmt}{t u:TS3}(h:QS X st t)(k:QSs X rest u):QSs X (st::rest) (aci t u):=PSs.imp (ald h k) fun D σ H ⟨τ,L,D3,rs,rl,⟨J,z,q⟩,k⟩=>
 ⟨τ,L,{ D3 with nx:=J },rs,rl,z,fun σ1 H1 τ1 L1 t1 rs1 rl1 z1=>⟨τ1,L1,D3,rs1,rl1,q τ1 L1 z1,k.ts t1⟩,k.rt,k.bk,k.ct⟩
section
variable {X:Cx}{e:Expr}{es:List Expr}{tr:TA3}{pos:Pos}{E3:X3}
end
section
variable {X:Cx}{e:Expr}{es:List Expr}{tr:TA3}{pos cp:Pos}
end
section
variable {X:Cx}{a e:Expr}{es:List Expr}{ta:TE3}{pos p pt:Pos}{v:V}{vs:List V}
end
open PySem L2 PySem.W
section
variable {K:Frag}{C D:Addr}{t c:Value}{b:Bool}
end
end L3
namespace L2
open PySem PySem.Spec PyProof.Rows
section
variable {X:Cx}{a b c:Expr}{es:List Expr}{ta tb:TE}{op op':CmpOp}{ops:List CmpOp}{r:R2}{u:V->TE}{pos:Pos}
end
end L2
namespace L3
open PySem L2
section
variable {X:Cx}{a b c:Expr}{es:List Expr}{ta tb:TE3}{op op':CmpOp}{ops:List CmpOp}{r:R23}{u:Y->TE3}{pos:Pos}
end
end L3
namespace L2
open PySem PySem.Spec PyProof.Rows
section
variable {X:Cx}
end
end L2
namespace L3
open PySem L2
def a09:Y->Option Key
 |.int i=>some (.inl i)
 |.str x=>some (.inr x)
 |_=>none
theorem an1{G:G3}{H:Hp}{y:Y}{v:V}{k:Key}(h:a09 y=some k)(r:RV G H y v):v=kV k:=by
 cases y with
 |int i=>cases h;exact r
 |str x=>cases h;exact r
 |_=>cases h
def aim(kvs:List (Key×Y))(k:Key)(y:Y):List (Key×Y):=
 if (kvs.any fun kv=>decide (kv.1=k))=true then kvs.map (fun kv=>if kv.1=k then(kv.1,y) else kv) else kvs++[(k,y)]
theorem TSt.dct{H:Hp}{p:Addr}{zs:List (Key×V)}{o:HO}(h:H p=some (.dK zs)):TSt H (upd H p o):=fun a u i q=>by
 rw[qr ?_];exact q;rintro rfl;rw[h] at q;cases q;cases i
theorem arx{G:G3}{H:Hp}{kvs:List (Key×Y)}{xs:List (Key×V)}(p:Paired (fun(p:Key×Y) (q:Key×V)=>p.1=q.1/\RV G H p.2 q.2) kvs xs)(k:Key):(kvs.any fun kv=>decide (kv.1=k))=xs.any fun kv=>decide (kv.1=k):=by
 induction p with
 |nil=>rfl
 |cons r t ih=>rw[B6,B6,ih,r.1]
theorem asl{G:G3}{H:Hp}{kvs:List (Key×Y)}{xs:List (Key×V)}{y:Y}{v:V}(p:Paired (fun(p:Key×Y) (q:Key×V)=>p.1=q.1/\RV G H p.2 q.2) kvs xs)(k:Key)(r:RV G H y v):
 Paired (fun(p:Key×Y) (q:Key×V)=>p.1=q.1/\RV G H p.2 q.2) (kvs.map fun kv=>if kv.1=k then(kv.1,y) else kv) (xs.map fun kv=>if kv.1=k then(kv.1,v) else kv):=by
 induction p with
 |nil=>exact .nil
 |@cons a b _ _ r' t ih=>
  refine .cons ?_ ih;obtain⟨e,q⟩:=r';dsimp only
  by_cases c:a.1=k
  ·rw[AB c,AB (e▸c)];exact⟨e,r⟩
  ·rw[Ax c,Ax (fun z=>c (e.trans z))];exact⟨e,q⟩
theorem ar9{G:G3}{H:Hp}{kvs:List (Key×Y)}{xs:List (Key×V)}{y:Y}{v:V}(p:Paired (fun(p:Key×Y) (q:Key×V)=>p.1=q.1/\RV G H p.2 q.2) kvs xs)(k:Key)(r:RV G H y v):
 Paired (fun(p:Key×Y) (q:Key×V)=>p.1=q.1/\RV G H p.2 q.2) (kvs++[(k,y)]) (xs++[(k,v)]):=by
 induction p with
 |nil=>exact .cons ⟨rfl,r⟩ .nil
 |cons r' t ih=>exact .cons r' ih
theorem aui{G:G3}{H:Hp}{kvs:List (Key×Y)}{xs:List (Key×V)}{y:Y}{v:V}(p:Paired (fun(p:Key×Y) (q:Key×V)=>p.1=q.1/\RV G H p.2 q.2) kvs xs)(k:Key)(r:RV G H y v):
 Paired (fun(p:Key×Y) (q:Key×V)=>p.1=q.1/\RV G H p.2 q.2) (aim kvs k y) (acj xs k v):=by
 unfold aim acj;rw[arx p k]
 by_cases c:(xs.any fun kv=>decide (kv.1=k))=true
 ·rw[AB c,AB c];exact asl p k r
 ·rw[Ax c,Ax c];exact ar9 p k r
theorem au2{α β:Type}{R:α->β->Prop}{l:List α}{m:List β}(p:Paired R l m):l.length=m.length:=by
 induction p with
 |nil=>rfl
 |cons _ _ ih=>rw[AF,AF,ih]
def axm(_:St3)(L:LHp)(Q:YK):Prop:=∀p,L p=none->Q (.ref p) (qh L p (.dct []))
def aey(td ti:TE3)(τ:St3)(L:LHp)(Q:YK):Prop:=td τ L fun x L1=>ti τ L1 fun y L2=>match x,a09 y with
 |.ref a,some k=>ao3 L2 a fun kvs=>atK L2 Q (aa2 kvs k)
 |_,_=>False
def axj(td ti tv:TE3)(D:Ends3)(τ:St3)(L:LHp):Prop:=tv τ L fun v L1=>td τ L1 fun x L2=>ti τ L2 fun y L3=>match x,a09 y with
 |.ref a,some k=>ao3 L3 a fun kvs=>kvs.length<sizeLine/\D.nx τ (qh L3 a (.dct (aim kvs k v)))
 |_,_=>False
section
variable {X:Cx}{o i value:Expr}{td ti tv:TE3}{pos pos':Pos}
theorem aun:QE X (.Dict [] [] pos) axm:=PE.imp atq fun σ H Q ⟨τ,L,Q3,rs,rl,z,k⟩=>fun p hp=>by
 refine k _ _ _ (qh L p (.dct [])) (TSt.new hp) (fun a u e=>?_) (by rfl) (z p (rl.none hp))
 by_cases c:a=p
 ·subst c;rw[q9] at e;cases e;exact⟨[],zv,.nil⟩
 ·rw[qd c] at e;exact(rl a u e).keep (TSt.new hp) (qr c)
theorem aaw(hu:X.A.units+128<cLine)(ho:QE X o td)(hi:QE X i ti)(hs:ayi i):QE X (.Subscript o i pos) (aey td ti):=PE.imp (avn (by omega) ho hi hs) fun σ H Q ⟨τ,L,Q3,rs,rl,z,k⟩=>
 ⟨τ,L,_,rs,rl,z,fun v H1 x L1 t1 rl1 rv1 z1=>⟨τ,L1,_,rs.ts t1,rl1,z1,fun w H2 y L2 t2 rl2 rv2 z2=>by
  split at z2
  ·rename_i a kk ek;obtain⟨kvs,e,z3⟩:=ahn z2;obtain⟨yv,ev,q⟩:=ap2 z3;obtain⟨xs,e2,pr⟩:=rl2 a _ e;obtain⟨xv,ex,rx⟩:=ajn pr ev;exact⟨a,xv,rv1,.inl ⟨xs,kk,.inl e2,an1 ek rv2,ex.symm⟩,k _ H2 _ L2 (t1.trans t2) rl2 rx q⟩
  ·exact z2.elim⟩⟩
theorem aup(hu:X.A.units+128<cLine)(ho:QE X o td)(hi:QE X i ti)(hv:QE X value tv)(hs:swapsWith value (some (.Subscript o i pos')) pos.line X.env=pure false:=by rfl):QS X (.Assign [.Subscript o i pos'] value pos) (axj td ti tv):=
 PS.imp (awy (by omega) ho hi hv hs) fun D σ H ⟨τ,L,D3,rs,rl,z,k⟩=>
 ⟨τ,L,_,rs,rl,z,fun v H1 vy L1 t1 rl1 rv1 z1=>⟨τ,L1,_,rs.ts t1,rl1,z1,fun x H2 xy L2 t2 rl2 rv2 z2=>⟨τ,L2,_,rs.ts (t1.trans t2),rl2,z2,fun w H3 y L3 t3 rl3 rv3 z3=>by
  split at z3
  ·rename_i a kk ek;obtain⟨kvs,e,hl,q⟩:=ahn z3;obtain⟨xs,e2,pr⟩:=rl3 a _ e;have tt:TSt H3 (upd H3 a (.dK (acj xs kk v))):=TSt.dct e2;cases (show x=V.ref a from rv2);refine⟨a,_,rfl,.inl ⟨xs,kk,e2,an1 ek rv3,by rw[<-au2 pr];exact hl,rfl⟩,?_⟩;refine k.nx _ _ _ _ (((t1.trans t2).trans t3).trans tt) (rs.ts (((t1.trans t2).trans t3).trans tt)) (fun b u eb=>?_) q
   by_cases c:b=a
   ·subst c;rw[q9] at eb;cases eb;exact⟨_,zv,Paired.mapP (aui pr kk (rv1.ts (t2.trans t3))) fun _ _ ⟨h1,h2⟩=>⟨h1,h2.ts tt⟩⟩
   ·rw[qd c] at eb;exact(rl3 b u eb).keep tt (qr c)
  ·exact z3.elim⟩⟩⟩
end
def axf(to ti tv:TE3)(D:Ends3)(τ:St3)(L:LHp):Prop:=tv τ L fun v L1=>to τ L1 fun x L2=>ti τ L2 fun y L3=>match x,y with
 |.ref a,.int i=>ac7 L3 a fun ys=>atK L3 (fun j L=>D.nx τ (qh L a (.lst (ys.set j v)))) (ixN ys.length i)
 |_,_=>False
section
variable {X:Cx}{o i value:Expr}{to ti tv:TE3}{pos pos':Pos}
theorem awq(ho:QE X o to)(hi:QE X i ti)(hv:QE X value tv)
 (ha:∀v,assign (.Subscript o i pos') X.env v=(do
  let ov <-holding [v] (eval o X.env)
  let iv <-holding [v,ov] (eval i X.env)
  standAt pos'
  holding [v,ov,iv] (setItem ov iv v)
  release [v,ov,iv] []):=by intro _;rfl)
 (h1:swapsWithSole [.Subscript o i pos'] value pos.line X.env=pure false:=by rfl) (h2:swappedStores [.Subscript o i pos'] value X.env=pure none:=by rfl)
 (h3:(assignEach [.Subscript o i pos'] X.env).map (·.2)=[assign (.Subscript o i pos') X.env]:=by rfl):QS X (.Assign [.Subscript o i pos'] value pos) (axf to ti tv):=
 PS.imp (ase hv (a0a ho hi atz ha) h1 h2 h3) fun D σ H ⟨τ,L,D3,rs,rl,z,k⟩=>
 ⟨τ,L,_,rs,rl,z,fun v H1 vy L1 t1 rl1 rv1 z1=>⟨τ,L1,_,rs.ts t1,rl1,z1,fun x H2 xy L2 t2 rl2 rv2 z2=>⟨τ,L2,_,rs.ts (t1.trans t2),rl2,z2,fun w H3 y L3 t3 rl3 rv3 z3=>by
  split at z3
  ·rename_i a ii;obtain⟨ys,e,z4⟩:=x8 z3;obtain⟨j,ej,q⟩:=ap2 z4;obtain⟨xs,e2,r⟩:=rl3 a _ e;cases (show x=V.ref a from rv2);cases (show w=V.int ii from rv3);have tt:TSt H3 (upd H3 a (.lst (xs.set j v))):=TSt.lst e2;exact⟨a,xs,ii,j,rfl,rfl,e2,by rw[<-r.length];exact ej,k.nx _ _ _ _ (((t1.trans t2).trans t3).trans tt) (rs.ts (((t1.trans t2).trans t3).trans tt)) (rl3.setL e2 (RVs.setY (rv1.ts (t2.trans t3)) j r)) q⟩
  ·exact z3.elim⟩⟩⟩
end
end L3
namespace L2
open PySem PySem.Spec PyProof.Rows
section
variable {X:Cx}{e v₁ v₂:Expr}{es:List Expr}{te:TE}{u:Str->TE}{pos:Pos}
end
end L2
namespace L3
open PySem L2
section
variable {X:Cx}{e v₁ v₂:Expr}{es:List Expr}{te:TE3}{u:Str->TE3}{pos:Pos}
end
section
variable {X:Cx}{o e value:Expr}{es:List Expr}{to te tv:TE3}{tr:TA3}{pos pos' apos p:Pos}{f m x:Str}{C g:Addr}
end
open PySem.AutoSeq1 (wpAny_loadPart')
open MeetsSeq MeetsSeq2 MeetsSeq3 SeqRoads2
end L3
namespace L2
open PySem PySem.Spec PyProof.Rows
end L2
namespace Txs
open PySem PySem.Builtin.Str
theorem len_list(x:Str):x.cps.toList.length=x.length:=by simp[Str.length]
end Txs
namespace L2
open PySem PySem.Spec PyProof.Rows
section
variable {X:Cx}{pins:List (Addr×Obj)}{σ:St}{H:Hp}{s:Shared}{isp imk c j1 j2:Nat}{sp mk:Str}{x:Str}{u:Tok}{m:Str->Option Value}{p1 p3 p4 p5 p6 p7 p8 p9 p10 apos cpos pos:Pos}{Q:Flow->Shared->Prop}
end
end L2
namespace L3
open PySem L2
end L3
namespace L2
open PySem PySem.Spec PyProof.Rows
section
variable {X:Cx}
end
end L2
namespace L3
open PySem L2
section
variable {X:Cx}{o e:Expr}{es:List Expr}{to:TE3}{tr:TA3}{pos apos p:Pos}{m x:Str}{C:Addr}{k:Nat}{ps:List Str}{sp:Sp3}
end
end L3
namespace L2
open PySem PySem.Spec PyProof.Rows
end L2
namespace L3
open PySem L2
end L3
namespace L2
open PySem PySem.Spec PyProof.Rows
section
variable {X:Cx}{e:Expr}{te:TE}{pos:Pos}
end
end L2
namespace L3
open PySem L2
section
variable {X:Cx}{e:Expr}{te:TE3}{pos:Pos}
end
end L3
namespace L2
open PySem PySem.Spec PyProof.Rows
end L2
namespace L3
open PySem L2 PySem.Spec PyProof.Rows
end L3
namespace L2
open PySem PySem.Spec PyProof.Rows
section
variable {X:Cx}{pins:List (Addr×Obj)}{σ:St}{H:Hp}{s:Shared}{a C T:Addr}{tr:Option Addr}
end
section
variable {X:Cx}{scope:Scope}{T:List Str}{elt target iter:Expr}{ifs:List Expr}{wi:TI}{g:TG}{tc:TT}{te:TE}
end
section
variable {X:Cx}{pins:List (Addr×Obj)}{σ:St}{H H':Hp}{s s':Shared}{a b C T:Addr}{tr:Option Addr}{E1:X1}
end
section
variable {X:Cx}{k:Nat}{f C:Addr}{fd:FuncData}{ps:List Str}{sp:Sp}{E1:X1}{x:Str}{p pos:Pos}{e:Expr}{es:List Expr}{t:TA}
end
end L2
namespace L3
open PySem L2
section
variable {X:Cx}{scope:Scope}{T:List Str}{elt target iter c e o:Expr}{ifs es:List Expr}{wi:TI3}{g:TG3}{tA:TT3}{te to:TE3}{tr:TA3}{pos:Pos}{E3:X3}{Ea:Addr->LHp->Prop}
end
end L3
namespace L2
open PySem PySem.Spec PyProof.Rows
section
variable {X:Cx}
end
end L2
namespace L3
open PySem L2
end L3
namespace L2
open PySem PySem.Spec PyProof.Rows
section
variable {prog:Program}{w:World}{A:Around}{E:Value->Shared->Prop}
theorem amr{it t:Addr}{its:Array Value}(hne:t≠it):∀(n i:Nat) (s:Shared) (Q:List Value->Shared->Prop),s.heap.IsListIter it t i->s.heap.IsList t its->i+n≤its.size->
 (∀h',h'.IsListIter it t (i+n)->Heap.SameBut it s.heap h'->Q ((its.toList.drop i).take n) { s with heap:=h' })->wpAny (model prog w) A (draw (.ref it) n) Q E s
 |0,i,s,Q,hit,_,_,hQ=>by
  unfold draw;exact Ah (by simpa using hQ s.heap hit (Heap.SameBut.refl ..))
 |n+1,i,s,Q,hit,ht,hle,hQ=>by
  have hlt:i<its.size:=by omega
  unfold draw;refine Aa (wpAny_pyNext_list_item hit ht (x:=its[i]) (by simp[hlt]) fun g1 it1 sb1=>?_);refine Aa (A7 (amr hne n (i+1) _ _ it1 (ht.extBut sb1.extBut hne) (by omega) fun g2 it2 sb2=>Ah ?_));have e:its.toList.drop i=its[i]::its.toList.drop (i+1):=by simp[BJ,hlt]
  have q:=hQ g2 (by rw[show i+(n+1)=i+1+n by omega];exact it2)
   (sb1.trans sb2)
  rw[e,List.take_succ_cons] at q;exact q
theorem awc{s:Shared}{env:Env}{elts:List Expr}{x1:Nat}{pos:Pos}{t:Addr}{its:Array Value}{Q:Unit->Shared->Prop}(hh:A.handled=none)(ht:s.heap.IsList t its)(hn:(assignEach elts env).length=its.size)(hst:(assignEach elts env).findIdx? (·.1)=none)
 (h:∀g,Heap.ExtBut s.heap.objs.size s.heap g->wpAny (model prog w) A (assignInOrder ((assignEach elts env).map (·.2)) its.toList) Q E { s with heap:=g }):wpAny (model prog w) A (assign (.Tuple elts x1 pos) env (.ref t)) Q E s:=by
 have hlt:t≠s.heap.objs.size:=by obtain⟨o,ho,_⟩:=ht;exact A3 (Heap.lt_size ho)
 rw[arm_assign_Tuple];refine Aa (wpAny_standAt ?_);unfold unpack;rw[hn,hst];refine Aa (A7 ?_);unfold unpackItems notIterableAtAll;refine Aa (Aa (wpAny_specialOf ht.typeIs slot_list_iter.lookup ?_));refine Ah ?_;rw[Ax (by simp)];refine Aa (A7 (wpAny_pyIter_list ht ?_));refine Aa (A7 (amr hlt its.size 0 _ _ ⟨_,Heap.get?_push_size _ rfl,rfl,rfl⟩ (ht.push _) (by omega) fun g1 it1 sb1=>?_));have all:List.take its.size (List.drop 0 its.toList)=its.toList:=by rw[DQ];exact Ba (by simp)
 rw[all,Ax (by simp)];have ht1:g1.IsList t its:=(ht.push _).extBut sb1.extBut hlt;refine Aa (A7 (wpAny_pyNext_list_end hh it1 ht1 (by simp) fun g2 eb2=>?_));rw[Ax (by simp)];exact Ah (h g2 fun b o hb e=>eb2 b o hb (sb1.extBut b o hb (Heap.get?_push_of_some _ e)))
end
section
variable {X:Cx}{pos:Pos}
def a2d(K:Af)(n:Nat)(t:TGs):TG:=fun v σ H Q=>∃a xs,v=.ref a/\SqL K H a xs/\xs.length=n/\t xs σ H Q
theorem az4{es:List Expr}{k:Nat}{t:TGs}{n:Nat}(hc:X.calm=true)(h:PGs X es t)
 (hn:(assignEach es X.env).length=n:=by rfl) (hst:(assignEach es X.env).findIdx? (·.1)=none:=by rfl):PG X (.Tuple es k pos) (a2d X.K n t):=by
 intro pins s σ H v u Q I r hw;obtain⟨a,xs,e1,hq,hl,hw⟩:=hw;subst e1;cases r;obtain⟨its,rv,pl,hz⟩:=I.list hq;have ht:=j7 pl;refine awc (I.ok.hd hc) ht (by simp[hn,<-hl,rv.length]) hst fun h' hx=>?_;have I1:Inv X pins σ H { s with heap:=h' }:=I.kept (t':=s.toks) fun b o e=>hx b o (A3 (Heap.lt_size e)) e;exact h pins _ σ H xs _ Q I1 (by simpa using rv) hw
end
section
theorem avh(l:Addr)(its:Array Value)(n:Nat)(x:Value)(b:Nat->Bool)(j:Nat)(hj:j<its.size)(hit:b j=true)(hz:its.size≤sizeLine):∀(k i:Nat),j - i=k->i≤j->(∀m,i≤m->m<j->b m=false)->
 Meets (Builtin.«list.remove.loop» ⟨[.ref l,x,rawInt i],[]⟩) (fun A R s=>s.heap.get? l=some { cls:=.type "list",dict:=none,data:=.seq its n,slots:=#[] }/\(∀m (hm:m<its.size),SeqAt.EqAt A.in1 s its[m] x (b m))/\R (.ok (.ret .none)) { s with heap:=s.heap.update l (Obj.mapSeq fun xs=>xs.eraseIdxIfInBounds j) }):=by
 intro k
 induction k with
 |zero=>
  intro i hk hij hno prog w A R s h;obtain⟨hp,g,d,tk,os⟩:=s;obtain⟨hl,eq,h⟩:=h;have e:i=j:=by omega
  subst e
  (wp_walk using wpAny_loadPart' hl)
  have hi:its[((i:Nat):Int).toNat]?=some its[i]:=by simp[hj]
  rw[hi];refine Aa (eq i hj prog w _ _ ?_);rw[hit];have hz':(its.eraseIdxIfInBounds i).size≤sizeLine+1:=AW (MeetsSeq.size_erased its _) (Dw hz)
  (wp_walk using (wpAny_updateSeq hl rfl (hz:=hz) (_hz':=hz')),wpAny_loadPart' hl)
  simpa using h
 |succ k ih=>
  intro i hk hij hno prog w A R s h;obtain⟨hp,g,d,tk,os⟩:=s;obtain⟨hl,eq,h⟩:=h;have hlt:i<its.size:=by omega
  (wp_walk using wpAny_loadPart' hl)
  have hi:its[((i:Nat):Int).toNat]?=some its[i]:=by simp[hlt]
  have hc:((i:Int)+1)=((i+1:Nat):Int):=by omega
  rw[hi];refine Aa (eq i hlt prog w _ _ ?_);rw[hno i (An _) (by omega)]
  wp_walk
  rw[hc];refine⟨plainId_quiet MeetsSeq.plain_remove_loop _,codeAny_builtin MeetsSeq.entry_remove_loop ?_⟩;rw[Around.under_plainId MeetsSeq.plain_remove_loop _];exact ih (i+1) (by omega) (by omega) (fun m h1 h2=>hno m (by omega) h2) prog w A R _ ⟨hl,eq,h⟩
theorem asi(l:Addr)(its:Array Value)(n:Nat)(x:Value)(b:Nat->Bool)(j:Nat)(hj:j<its.size)(hit:b j=true)(hz:its.size≤sizeLine)(hno:∀m,m<j->b m=false):
 Meets (Builtin.«list.remove» ⟨[.ref l,x],[]⟩) (fun A R s=>s.heap.get? l=some { cls:=.type "list",dict:=none,data:=.seq its n,slots:=#[] }/\(∀m (hm:m<its.size),SeqAt.EqAt A.in1 s its[m] x (b m))/\R (.ok (.ret .none)) { s with heap:=s.heap.update l (Obj.mapSeq fun xs=>xs.eraseIdxIfInBounds j) }):=by
 intro prog w A R s h;obtain⟨hp,g,d,tk,os⟩:=s;obtain⟨hl,eq,h⟩:=h
 (wp_walk using wpAny_loadPart' hl)
 refine⟨plainId_quiet MeetsSeq.plain_remove_loop _,codeAny_builtin MeetsSeq.entry_remove_loop ?_⟩;rw[Around.under_plainId MeetsSeq.plain_remove_loop _];exact avh l its n x b j hj hit hz _ 0 rfl (Bf _) (fun m _ h2=>hno m h2) prog w A R _ ⟨hl,eq,h⟩
end
theorem Vals.eraseN:∀{xs:List V} {us:List Value} (n:Nat),Vals xs us->Vals (xs.eraseIdx n) (us.eraseIdx n)
 |[],_,n,.nil=>by simp;exact .nil
 |_::_,_,0,.cons _ t=>t
 |_::_,_,n+1,.cons r t=>.cons r (Vals.eraseN n t)
section
variable {X:Cx}
def av7(X:Cx):V->List V->Hp->VK->Prop:=fun x vs H Q=>∃l xs y ds e,∃n m j:Nat,x=.ref l/\vs=[y]/\H l=some (.lst xs)/\n≤126/\Paired (xp X.K H n) xs ds/\xp X.K H m y e/\j<ds.length/\(∃d,ds[j]?=some d/\Da.eq d e=true)/\
 (∀(k:Nat) d,k<j->ds[k]?=some d->Da.eq d e=false)/\Q .non (upd H l (.lst (xs.eraseIdx j)))
theorem ar1(hu:X.A.units+128<cLine):MtM X "list.remove" (av7 X):=by
 intro pins s σ H x vs v us Q I rx rv h;obtain⟨l,xs,y,ds,e,n,m,j,rfl,rfl,hH,hn,pd,ry,hj,⟨dj,edj,hdj⟩,hno,q⟩:=h;cases rx;obtain⟨u,rfl,ru⟩:=rv.one;obtain⟨z,its,nn,r,hl,eo⟩:=I.lstM hH;have l1:xs.length=ds.length:=pd.length;have l2:its.length=xs.length:=r.length.symm;obtain⟨arr,harr⟩:∃arr:Array Value,arr=its.toArray:=⟨_,rfl⟩;have hsz:arr.size=its.length:=by rw[harr,Ao]
 have b:Nat->Bool:=fun _=>true;have hzz:arr.size≤sizeLine:=by rw[hsz];omega
 have M:=asi l arr nn u (fun k=>((ds[k]?).map fun d=>Da.eq d e).getD false) j (by omega) (by show((ds[j]?).map fun d=>Da.eq d e).getD false=true;rw[edj];exact hdj) hzz (fun k hk=>by
  show((ds[k]?).map fun d=>Da.eq d e).getD false=false;cases ek:ds[k]? with
  |none=>rfl
  |some d=>exact hno k d hk ek)
 rw[harr] at M;refine call_meets F.slot_list_remove ⟨_,eo,rfl⟩ F.entry_list_remove (F.args_list_remove_2 _ _) M ⟨eo,fun k hk=>?_,?_⟩
 ·have hk':k<its.length:=by rw[Ao] at hk;exact hk
  obtain⟨d,ed,rd⟩:=Words.Paired.getP pd (Aj (by omega:k<xs.length));show SeqAt.EqAt _ s _ u (((ds[k]?).map fun d=>Da.eq d e).getD false);rw[ed];obtain⟨u',eu',ru'⟩:=Words.Paired.getP r (Aj (by omega:k<xs.length));have eg:its.toArray[k]=u':=by
   have:=(AU.mp eu').2;simpa using this
  rw[eg];exact aie I n (by show X.A.units+1+n<cLine;omega) rd ry ru' ru
 ·refine⟨.non,_,I.lset (its':=its.eraseIdx j) hH eo ?_ (r.eraseN j) ?_,rfl,q⟩
  ·have:j<its.length:=by omega
   simp[Array.eraseIdxIfInBounds,this]
  ·have:=CK xs j;omega
end
end L2
namespace L3
open PySem L2
def axt(n:Nat)(t:amx)(y:Y)(τ:St3)(L:LHp)(Q:St3->LHp->Prop):Prop:=match y with
 |.ref a=>ac7 L a fun ys=>match ys.length==n with
  |true=>t ys τ L Q
  |false=>False
 |_=>False
theorem az8{X:Cx}{es:List Expr}{gs:amx}{kk n:Nat}{pos:Pos}(hc:X.calm=true)(h:QGs X es gs)(h1:(assignEach es X.env).length=n:=by rfl)(h2:(assignEach es X.env).findIdx? (·.1)=none:=by rfl):QG X (.Tuple es kk pos) (axt n gs):=
 PG.imp (az4 hc h h1 h2) fun v σ H Q ⟨y,τ,L,Q3,rv,rs,rl,z,k⟩=>by
 cases y with
 |ref a=>
  cases (show v=.ref a from rv);obtain⟨ys,e,z'⟩:=x8 z;obtain⟨xs,e2,r⟩:=rl a _ e
  split at z'
  ·rename_i ee;exact⟨a,xs,rfl,SqL.of e2,by rw[<-r.length];exact beq_iff_eq.mp ee,ys,τ,L,Q3,r,rs,rl,z',k⟩
  ·exact z'.elim
 |_=>exact z.elim
def agq(x:Y)(vs:List Y)(L:LHp)(Q:YK):Prop:=match x,vs with
 |.ref a,[v]=>ac7 L a fun ys=>∃ds e,∃n m j:Nat,n≤126/\Paired (DatN L n) ys ds/\DatN L m v e/\j<ds.length/\(∃d,ds[j]?=some d/\Da.eq d e=true)/\(∀(k:Nat) d,k<j->ds[k]?=some d->Da.eq d e=false)/\Q .non (qh L a (.lst (ys.eraseIdx j)))
 |_,_=>False
theorem aul{X:Cx}(hu:X.A.units+128<cLine):MtM X "list.remove" (upM X.g3 agq):=MtM.imp (ar1 hu) fun x xs H Q ⟨y,ys,L,Q3,r1,r2,rl,z,k⟩=>by
 unfold agq at z
 split at z
 ·rename_i a v;obtain⟨zs,e,ds,de,n,m,j,hn,pd,dv,hj,hit,hno,z⟩:=x8 z;obtain⟨us,e2,r⟩:=rl a _ e;obtain⟨v',rfl,rv⟩:=r2.inv1;have both:∀{ys:List Y} {ds:List Da} {xs:List V},Paired (DatN L n) ys ds->RVs X.g3 H ys xs->Paired (xp X.K H n) xs ds:=by
   intro ys ds xs p
   induction p generalizing xs with
   |nil=>intro q;cases (show xs=[] from q);exact .nil
   |cons h t ih=>
    rintro⟨x,xs',rfl,q1,q2⟩;exact .cons (DatN.rep rl h q1) (ih q2)
  exact⟨a,us,v',ds,de,n,m,j,r1,rfl,e2,hn,both pd r,DatN.rep rl dv rv,hj,hit,hno,k _ _ _ _ (TSt.lst e2) (rl.setL e2 (r.eraseIdx j)) (by rfl) z⟩
 ·exact z.elim
theorem ar4{X:Cx}(hu:X.A.units+128<cLine){o e:Expr}{es:List Expr}{to:TE3}{tr:TA3}{apos cpos:Pos}(ho:QE X o to)(ha:QA X (e::es) tr)(h4:attributeBase o "remove" X.env (eval o X.env)=eval o X.env:=by rfl)
 (h5:((backTo cpos (starEach (e::es) X.env)).all (fun x=>!x.1)&&(backToKw cpos (keywordEach [] X.env)).all (fun x=>x.1.isSome)&&decide ((e::es).length+([]:List Keyword).length+(if ([]:List Keyword).isEmpty=true then 0 else 1)<30))=true:=by rfl)
 (h6:(apos.endLine==cpos.line)=true:=by rfl) (h7:starEach (e::es) X.env=(false,eval e X.env)::starEach es X.env:=by rfl) (h8:(backTo cpos (starEach es X.env)).any (·.1)=false:=by rfl):
 QE X (.Call (.Attribute o "remove" apos) (e::es) [] cpos) (yBL agq to tr):=ak9 PySem.F.slot_list_remove PySem.F.type_list_remove (aul hu) ho ha h4 h5 h6 h7 h8
end L3
namespace L2
open PySem PySem.Spec PyProof.Rows
section
end
section
variable {X:Cx}
end
end L2
namespace L3
open PySem L2
end L3
namespace L2
open PySem PySem.Spec PyProof.Rows
section
variable {X:Cx}
def a2x:List V->Hp->VK->Prop:=fun xs H Q=>∃n:Int,xs=[.int n]/\∀p,H p=none->Q (.ref p) (upd H p (.rng 0 n))
theorem asj:CallR X (.type "range") a2x:=by
 intro pins s σ H xs us Q I r h;obtain⟨n,rfl,q⟩:=h;obtain⟨u,rfl,ru⟩:=r.one;obtain⟨t,rfl⟩:=(show ∃t,u=Value.int n t from ru);refine call_range_1 ?_;refine⟨.ref s.heap.objs.size,_,I.laid (t':=s.toks+1+1) (o:=.rng 0 n) (fun b ob q=>Heap.get?_push_of_some _ q) (An _) ?_,rfl,q _ (I.hok.fresh (An _))⟩;exact⟨s.toks,t,s.toks+1,Heap.get?_push_size _ rfl⟩
theorem anz{n:Nat}{acc:Array Value}(h:ItemsOf (fun i v=>∃t,v=.int (0+(i:Int)*1) t) acc n):Vals ((List.range n).map fun i:Nat=>V.int (0+(i:Int))) acc.toList:=by
 have len:acc.toList.length=n:=by rw[AJ];exact h.1
 have key:∀(l:List Value) (k:Nat),(∀(j:Nat) v,l[j]?=some v->∃t,v=Value.int (0+((k+j:Nat):Int)*1) t)->Vals ((List.range' k l.length).map fun i:Nat=>V.int (0+(i:Int))) l:=by
  intro l
  induction l with
  |nil=>intro k _;exact .nil
  |cons v r ih=>
   intro k hk;rw[AF,DE,AE];obtain⟨t,e⟩:=hk 0 v rfl;refine .cons ?_ (ih (k+1) fun j v' hj=>?_)
   ·exact⟨t,by rw[e];simp⟩
   ·have:=hk (j+1) v' hj;rw[show k+1+j=k+(j+1) by omega];exact this
 have:=key acc.toList 0 fun j v hj=>by
  rw[DJ];exact h.2 j v (by simpa using hj)
 rw[len,<-List.range_eq_range'] at this;exact this
def a1f:List V->Hp->VK->Prop:=fun xs H Q=>∃a,∃n:Nat,xs=[.ref a]/\H a=some (.rng 0 n)/\n≤100000/\∀p,H p=none->Q (.ref p) (upd H p (.lst ((List.range n).map fun i:Nat=>V.int (0+(i:Int)))))
theorem are(hc:X.calm=true):CallR X (.type "list") a1f:=by
 intro pins s σ H xs us Q I r h;obtain⟨a,n,rfl,ha,hn,q⟩:=h;obtain⟨u,rfl,ru⟩:=r.one;cases (show u=Value.ref a from ru);obtain⟨t,u,v,e⟩:=I.hok a _ ha;have hb:(100000:Nat)≤sizeLine:=by decide
 have rs:Builtin.Range.rangeSize 0 (n:Int) 1=((n:Nat):Int):=by rw[rangeSize_one];split<;>omega
 refine ji I.tk (call_list_range (I.ok.hd hc) (show IsRange s.heap a 0 (n:Int) 1 t u v from e) (small_one (by decide) (by decide) (by omega) (by omega)) rs (AW hn (by decide)) fun h' tk acc c hk hS hacc ht=>?_);refine⟨.ref s.heap.objs.size,_,I.laid (t':=tk) (o:=.lst ((List.range n).map fun i:Nat=>V.int (0+(i:Int)))) hk (An _) ?_,rfl,q _ (I.hok.fresh (An _))⟩;refine⟨by rw[Ae,BZ];omega,acc.toList,c,anz hacc,?_⟩;rw[hS]
def a11:List V->Hp->VK->Prop:=fun xs H Q=>∃b:Bool,xs=[.bl b]/\Q (.int (if b=true then 1 else 0)) H
theorem ar0:CallR X (.type "int") a11:=by
 intro pins s σ H xs us Q I r h;obtain⟨b,rfl,q⟩:=h;obtain⟨u,rfl,ru⟩:=r.one;cases (show u=Value.bool b from ru);exact call_int_bool ⟨.int _,_,I.tok (s.toks+1),⟨_,rfl⟩,q⟩
end
end L2
namespace L3
open PySem L2
theorem azx:bootBuiltins "range" = some (.type "range"):=by decide +kernel
def ale(te:TE3)(τ:St3)(L:LHp)(Q:YK):Prop:=te τ L fun y L1=>match y with
 |.int n=>(0≤n/\n≤100000)/\∀p,L1 p=none->Q (.ref p) (qh L1 p (.lst (aa5 0 n.toNat)))
 |_=>False
theorem awv{G:G3}{H:Hp}(n:Nat):RVs G H (aa5 0 n) ((List.range n).map fun i:Nat=>V.int (0+(i:Int))):=by
 unfold aa5;generalize List.range n=l
 induction l with
 |nil=>rfl
 |cons k r ih=>exact⟨_,_,rfl,rfl,ih⟩
theorem aos{X:Cx}{e:Expr}{te:TE3}{p p2 pos pos2:Pos}(hc:X.calm=true)(hg:Gl X "list")(hm:X.mg "list" = none)(hg2:Gl X "range")(hm2:X.mg "range" = none)(h:QE X e te)
 (h1:starEach [.Call (.Name "range" p2) [e] [] pos2] X.env=(false,eval (.Call (.Name "range" p2) [e] [] pos2) X.env)::starEach [] X.env:=by rfl) (h2:(backTo pos (starEach [] X.env)).any (·.1)=false:=by rfl)
 (h3:starEach [e] X.env=(false,eval e X.env)::starEach [] X.env:=by rfl) (h4:(backTo pos2 (starEach [] X.env)).any (·.1)=false:=by rfl):
 QE X (.Call (.Name "list" p) [.Call (.Name "range" p2) [e] [] pos2] [] pos) (ale te):=
 PE.imp (afl (are hc) hg hm abi (wy (afl asj hg2 hm2 azx (wy h adh h3) (by decide) (by decide) h3 h4) adh h1) (by decide) (by decide) h1 h2) fun σ H Q ⟨τ,L,Q3,rs,rl,z,k⟩=>
 ⟨τ,L,_,rs,rl,z,fun v H1 y L1 t1 rl1 rv1 z1=>by
  cases y with
  |int n=>
   obtain⟨⟨h0,h5⟩,z1⟩:=z1;cases (show v=V.int n from rv1);obtain⟨m,rfl⟩:∃m:Nat,n=(m:Int):=⟨n.toNat,by omega⟩;refine⟨_,rfl,fun q hq=>⟨q,m,rfl,zv,by omega,fun p hp=>?_⟩⟩;have hp1:H1 p=none:=by
    by_cases c:p=q
    ·subst c;exact hq
    ·rw[qr c] at hp;exact hp
   exact k _ _ _ _ (t1.trans ((TSt.new hq).trans (TSt.new hp))) ((rl1.skip hq).newL hp (awv m)) (by rfl) (z1 p (rl1.none hp1))
  |_=>exact z1.elim⟩
def at9(xs:List Y)(L:LHp)(Q:YK):Prop:=match xs with
 |[.bl b]=>Q (.int (if b=true then 1 else 0)) L
 |_=>False
theorem ayk{X:Cx}:CallR X (.type "int") (upL X.g3 at9):=CallR.imp ar0 fun xs H Q ⟨ys,L,Q3,rv,rl,z,k⟩=>by
 unfold at9 at z
 split at z
 ·rename_i b;obtain⟨u,rfl,ru⟩:=rv.inv1;cases (show u=V.bl b from ru);exact⟨b,rfl,k _ _ _ _ (TSt.refl _) rl (by rfl) z⟩
 ·exact z.elim
section
variable {X:Cx}{o e:Expr}{es:List Expr}{to:TE3}{tr:TA3}{pos apos:Pos}{m:Str}{C g:Addr}
end
end L3
namespace TS
open PySem PyProof.Rows
def awg:Bool->Keyed->Array Keyed->Nat->Nat->Nat->StateT SortSt Sem (Option Nat):=sortPriv% PySem.Builtin.gallop
section
variable {prog:Program}{w:World}{A:Around}{E:Value->Shared->Prop}{s:Shared}
structure Ord(prog:Program)(w:World)(A:Around)(s:Shared)(κ:SortKind)(Ok:Keyed->Prop)(f:Keyed->Int):Prop where
 lt:∀x y,Ok x->Ok y->∀{E:Value->Shared->Prop} {Q:Bool->Shared->Prop},Q (decide (f x<f y)) s->wpAny (model prog w) A (keyLt' κ x.1 y.1) Q E s
variable {κ:SortKind}{Ok:Keyed->Prop}{f:Keyed->Int}
theorem w_lt(O:Ord prog w A s κ Ok f){st:SortSt}{x y:Keyed}{Q:Option Bool->SortSt->Prop}(hk:kindOf st=κ)(hx:Ok x)(hy:Ok y)(h:Q (some (decide (f x<f y))) st):wpS (model prog w) A E s (lt' x y) Q st:=by
 rw[lt'_eq];refine Ab (wpS_get ?_);rw[hk];refine Ab (wpS_lift (wpAny_attempt (O.lt x y hx hy ⟨rfl,?_⟩)));exact Ac h
theorem jr{arr:Array Keyed}{i:Nat}{x:Keyed}{st:SortSt}{Q:Keyed->SortSt->Prop}(h:arr[i]?=some x)(q:Q x st):wpS (model prog w) A E s (elem' arr i) Q st:=by
 rw[elem'_eq,h];exact Ac q
def bey(left:Bool)(key:Keyed)(arr:Array Keyed)(i:Nat):StateT SortSt Sem (Option Bool):=elem' arr i >>= fun x=>if left=true then lt' x key else lt' key x >>= fun r=>pure (r.map fun b=>!b)
theorem a0d(O:Ord prog w A s κ Ok f){left:Bool}{key x:Keyed}{arr:Array Keyed}{i:Nat}{st:SortSt}{Q:Option Bool->SortSt->Prop}(hk:kindOf st=κ)(hkey:Ok key)(hx:Ok x)(hi:arr[i]?=some x)
 (q:Q (some (if left=true then decide (f x<f key) else !decide (f key<f x))) st):wpS (model prog w) A E s (bey left key arr i) Q st:=by
 refine Ab (jr hi ?_);cases left with
 |true=>exact w_lt O hk hx hkey q
 |false=>exact Ab (w_lt O hk hkey hx (Ac q))
theorem ab6(O:Ord prog w A s κ Ok f){left:Bool}{key:Keyed}{arr:Array Keyed}{base n hint:Nat}{st:SortSt}{Q:Option Nat->SortSt->Prop}(hk:kindOf st=κ)(hkey:Ok key)(hh:hint<n)
 (it:Nat->Keyed) (hit:∀i,i<n->arr[base+i]?=some (it i)/\Ok (it i)) (bd:Nat->Bool) (hbd:∀i,i<n->bd i=if left=true then decide (f (it i)<f key) else !decide (f key<f (it i)))
 (mono:∀i j,i≤j->j<n->bd j=true->bd i=true)
 (q:∀k,k≤n->(∀i,i<k->bd i=true)->(∀i,k≤i->i<n->bd i=false)->Q (some k) st):wpS (model prog w) A E s (awg left key arr base n hint) Q st:=by
 have go:∀i,i<n->∀Q':Option Bool->SortSt->Prop,Q' (some (bd i)) st->wpS (model prog w) A E s (bey left key arr (base+i)) Q' st:=fun i hi Q' h=>a0d O hk hkey (hit i hi).2 (hit i hi).1 (by rw[<-hbd i hi];exact h);refine Ab (go hint hh _ ?_);dsimp only;cases hb:bd hint with
 |true=>
  rw[AB rfl];refine Ab (AQ (AH (I:=fun x c st'=>st'=st/\∃la ofs,c=(none,la,ofs)/\la<ofs/\la<n - hint/\bd (hint+la)=true/\x+1≤ofs)
   (Q:=fun c st'=>st'=st/\∃la ofs,c=(none,la,ofs)/\la<ofs/\la<n - hint/\bd (hint+la)=true/\(n - hint≤ofs\/bd (hint+ofs)=false)) ?_ ?_ ⟨rfl,0,1,rfl,by omega,by omega,hb,by omega⟩) ?_)
  ·rintro x c st' _ hx ⟨rfl,la,ofs,rfl,h1,h2,h3,h4⟩;dsimp only
   by_cases c:ofs≥n - hint
   ·rw[AB c];exact Ac ⟨rfl,la,ofs,rfl,h1,h2,h3,.inl c⟩
   ·rw[Ax c];refine Ab (go (hint+ofs) (by omega) _ ?_);dsimp only;cases hm:bd (hint+ofs) with
    |true=>
     rw[Ax (by simp)];exact Ac ⟨rfl,ofs,2*ofs+1,rfl,by omega,by omega,hm,by omega⟩
    |false=>
     rw[AB (by simp)];exact Ac ⟨rfl,la,ofs,rfl,h1,h2,h3,.inr hm⟩
  ·rintro c st' ⟨rfl,la,ofs,rfl,h1,h2,h3,h4⟩;exact⟨rfl,la,ofs,rfl,h1,h2,h3,.inl (by omega)⟩
  ·rintro c st' ⟨rfl,la,ofs,rfl,h1,h2,h3,h4⟩;dsimp only;obtain⟨lo,elo⟩:∃lo,lo=hint+la+1:=⟨_,rfl⟩;obtain⟨hi,ehi⟩:∃hi,hi=hint+min ofs (n - hint):=⟨_,rfl⟩;rw[<-elo,<-ehi];have g1:lo≤hi:=by omega
   have g2:hi≤n:=by omega
   have g3:∀i,i<lo->bd i=true:=fun i hi=>mono i (hint+la) (by omega) (by omega) h3;have g4:∀i,hi≤i->i<n->bd i=false:=fun i h5 h6=>by
    rcases h4 with h4 | h4
    ·omega
    ·cases e:bd i with
     |false=>rfl
     |true=>
      by_cases c:ofs<n - hint
      ·rw[mono (hint+ofs) i (by omega) h6 e] at h4;cases h4
      ·omega
   refine Ab (AQ (AH (I:=fun x c sx=>sx=st'/\∃lo hi,c=(none,lo,hi)/\lo≤hi/\hi≤n/\(∀i,i<lo->bd i=true)/\(∀i,hi≤i->i<n->bd i=false)/\hi - lo+x≤n)
    (Q:=fun c sx=>sx=st'/\∃hi,c=(none,hi,hi)/\hi≤n/\(∀i,i<hi->bd i=true)/\(∀i,hi≤i->i<n->bd i=false)) ?_ ?_ ⟨rfl,lo,hi,rfl,g1,g2,g3,g4,by omega⟩) ?_)
   ·rintro x c st'' _ hx ⟨rfl,lo,hi,rfl,k1,k2,k3,k4,k5⟩;dsimp only
    by_cases c:lo≥hi
    ·rw[AB c];have:lo=hi:=by omega
     subst this;exact Ac ⟨rfl,lo,rfl,k2,k3,k4⟩
    ·rw[Ax c];refine Ab (go (lo+(hi - lo) / 2) (by omega) _ ?_);dsimp only;cases hm:bd (lo+(hi - lo) / 2) with
     |true=>
      rw[AB rfl];exact Ac ⟨rfl,lo+(hi - lo) / 2+1,hi,rfl,by omega,k2,fun i h5=>mono i _ (by omega) (by omega) hm,k4,by omega⟩
     |false=>
      rw[Ax (by simp)];refine Ac ⟨rfl,lo,lo+(hi - lo) / 2,rfl,by omega,by omega,k3,fun i h5 h6=>?_,by omega⟩;cases e:bd i with
      |false=>rfl
      |true=>rw[mono _ i h5 h6 e] at hm;cases hm
   ·rintro c st'' ⟨rfl,lo,hi,rfl,k1,k2,k3,k4,k5⟩;have:lo=hi:=by omega
    subst this;exact⟨rfl,lo,rfl,k2,k3,k4⟩
   ·rintro c st'' ⟨rfl,hi,rfl,k2,k3,k4⟩;exact Ac (q hi k2 k3 k4)
 |false=>
  rw[Ax (by simp)];refine Ab (AQ (AH (I:=fun x c st'=>st'=st/\∃la ofs,c=(none,la,ofs)/\la<ofs/\la<hint+1/\bd (hint - la)=false/\x+1≤ofs)
   (Q:=fun c st'=>st'=st/\∃la ofs,c=(none,la,ofs)/\la<ofs/\la<hint+1/\bd (hint - la)=false/\(hint+1≤ofs\/bd (hint - ofs)=true)) ?_ ?_ ⟨rfl,0,1,rfl,by omega,by omega,hb,by omega⟩) ?_)
  ·rintro x c st' _ hx ⟨rfl,la,ofs,rfl,h1,h2,h3,h4⟩;dsimp only
   by_cases c:ofs≥hint+1
   ·rw[AB c];exact Ac ⟨rfl,la,ofs,rfl,h1,h2,h3,.inl c⟩
   ·rw[Ax c];refine Ab (go (hint - ofs) (by omega) _ ?_);dsimp only;cases hm:bd (hint - ofs) with
    |true=>
     rw[AB rfl];exact Ac ⟨rfl,la,ofs,rfl,h1,h2,h3,.inr hm⟩
    |false=>
     rw[Ax (by simp)];exact Ac ⟨rfl,ofs,2*ofs+1,rfl,by omega,by omega,hm,by omega⟩
  ·rintro c st' ⟨rfl,la,ofs,rfl,h1,h2,h3,h4⟩;exact⟨rfl,la,ofs,rfl,h1,h2,h3,.inl (by omega)⟩
  ·rintro c st' ⟨rfl,la,ofs,rfl,h1,h2,h3,h4⟩;dsimp only;obtain⟨lo,elo⟩:∃lo,lo=hint+1 - min ofs (hint+1):=⟨_,rfl⟩;obtain⟨hi,ehi⟩:∃hi,hi=hint - la:=⟨_,rfl⟩;rw[<-elo,<-ehi];have g1:lo≤hi:=by omega
   have g2:hi≤n:=by omega
   have g3:∀i,i<lo->bd i=true:=fun i h5=>by
    rcases h4 with h4 | h4
    ·omega
    ·exact mono i (hint - ofs) (by omega) (by omega) h4
   have g4:∀i,hi≤i->i<n->bd i=false:=fun i h5 h6=>by
    cases e:bd i with
    |false=>rfl
    |true=>rw[mono (hint - la) i (by omega) h6 e] at h3;cases h3
   refine Ab (AQ (AH (I:=fun x c sx=>sx=st'/\∃lo hi,c=(none,lo,hi)/\lo≤hi/\hi≤n/\(∀i,i<lo->bd i=true)/\(∀i,hi≤i->i<n->bd i=false)/\hi - lo+x≤n)
    (Q:=fun c sx=>sx=st'/\∃hi,c=(none,hi,hi)/\hi≤n/\(∀i,i<hi->bd i=true)/\(∀i,hi≤i->i<n->bd i=false)) ?_ ?_ ⟨rfl,lo,hi,rfl,g1,g2,g3,g4,by omega⟩) ?_)
   ·rintro x c st'' _ hx ⟨rfl,lo,hi,rfl,k1,k2,k3,k4,k5⟩;dsimp only
    by_cases c:lo≥hi
    ·rw[AB c];have:lo=hi:=by omega
     subst this;exact Ac ⟨rfl,lo,rfl,k2,k3,k4⟩
    ·rw[Ax c];refine Ab (go (lo+(hi - lo) / 2) (by omega) _ ?_);dsimp only;cases hm:bd (lo+(hi - lo) / 2) with
     |true=>
      rw[AB rfl];exact Ac ⟨rfl,lo+(hi - lo) / 2+1,hi,rfl,by omega,k2,fun i h5=>mono i _ (by omega) (by omega) hm,k4,by omega⟩
     |false=>
      rw[Ax (by simp)];refine Ac ⟨rfl,lo,lo+(hi - lo) / 2,rfl,by omega,by omega,k3,fun i h5 h6=>?_,by omega⟩;cases e:bd i with
      |false=>rfl
      |true=>rw[mono _ i h5 h6 e] at hm;cases hm
   ·rintro c st'' ⟨rfl,lo,hi,rfl,k1,k2,k3,k4,k5⟩;have:lo=hi:=by omega
    subst this;exact⟨rfl,lo,rfl,k2,k3,k4⟩
   ·rintro c st'' ⟨rfl,hi,rfl,k2,k3,k4⟩;exact Ac (q hi k2 k3 k4)
end
def at4:Array Keyed->Array Keyed->StateT SortSt Sem (Array Keyed):=sortPriv% PySem.Builtin.mergeLo
def as9:Array Keyed->Array Keyed->StateT SortSt Sem (Array Keyed):=sortPriv% PySem.Builtin.mergeHi
structure MI(f:Keyed->Int)(la lb out ra rb:List Keyed):Prop where
 perm:(out++(ra++rb)).Perm (la++lb)
 so:out.Pairwise fun x y=>f x≤f y
 sa:ra.Pairwise fun x y=>f x≤f y
 sb:rb.Pairwise fun x y=>f x≤f y
 oa:∀x∈out,∀y∈ra,f x≤f y
 ob:∀x∈out,∀y∈rb,f x≤f y
theorem MI.a{f:Keyed->Int}{la lb out seg ra rb:List Keyed}(h:MI f la lb out (seg++ra) rb)(hs:∀x∈seg,∀y∈rb,f x≤f y):MI f la lb (out++seg) ra rb:=by
 have sa:=AN.mp h.sa;refine⟨?_,AN.mpr ⟨h.so,sa.1,fun x hx y hy=>h.oa x hx y (Aw _ hy)⟩,sa.2.1,h.sb,fun x hx y hy=>?_,fun x hx y hy=>?_⟩
 ·have:=h.perm;rw[Ay] at this ⊢;exact this
 ·rcases Al.mp hx with hx | hx
  ·exact h.oa x hx y (Ag _ hy)
  ·exact sa.2.2 x hx y hy
 ·rcases Al.mp hx with hx | hx
  ·exact h.ob x hx y hy
  ·exact hs x hx y hy
theorem MI.b{f:Keyed->Int}{la lb out seg ra rb:List Keyed}(h:MI f la lb out ra (seg++rb))(hs:∀x∈seg,∀y∈ra,f x≤f y):MI f la lb (out++seg) ra rb:=by
 have sb:=AN.mp h.sb;refine⟨?_,AN.mpr ⟨h.so,sb.1,fun x hx y hy=>h.ob x hx y (Aw _ hy)⟩,h.sa,sb.2.1,fun x hx y hy=>?_,fun x hx y hy=>?_⟩
 ·refine List.Perm.trans ?_ h.perm;rw[Ay];exact(Bo out).mpr (by
   rw[<-Ay,<-Ay];exact(Bc rb).mpr A8)
 ·rcases Al.mp hx with hx | hx
  ·exact h.oa x hx y hy
  ·exact hs x hx y hy
 ·rcases Al.mp hx with hx | hx
  ·exact h.ob x hx y (Ag _ hy)
  ·exact sb.2.2 x hx y hy
def xz(f:Keyed->Int)(la lb r:List Keyed):Prop:=r.Perm (la++lb)/\r.Pairwise fun x y=>f x≤f y
theorem MI.ea{f:Keyed->Int}{la lb out ra:List Keyed}(h:MI f la lb out ra []):xz f la lb (out++ra):=⟨by have:=h.perm;rwa[AR] at this,AN.mpr ⟨h.so,h.sa,h.oa⟩⟩
theorem MI.eb{f:Keyed->Int}{la lb out ra rb:List Keyed}(h:MI f la lb out ra rb)(hs:∀x∈rb,∀y∈ra,f x≤f y):xz f la lb (out++rb++ra):=by
 refine⟨List.Perm.trans ?_ h.perm,?_⟩
 ·rw[Ay];exact(Bo out).mpr A8
 ·rw[Ay];refine AN.mpr ⟨h.so,AN.mpr ⟨h.sb,h.sa,hs⟩,fun x hx y hy=>?_⟩;rcases Al.mp hy with hy | hy
  ·exact h.ob x hx y hy
  ·exact h.oa x hx y hy
structure MP(f:Keyed->Int)(a b out:Array Keyed)(ia ib:Nat):Prop where
 mi:MI f a.toList b.toList out.toList (a.toList.drop ia) (b.toList.drop ib)
 sz:out.size=ia+ib
 la:ia≤a.size
 lb:ib≤b.size
theorem axo(a:Array Keyed){i:Nat}(h:i<a.size):a.toList.drop i=a[i]::a.toList.drop (i+1):=by
 rw[BJ (by simpa using h)];simp
theorem ae3(a:Array Keyed)(i j:Nat):(a.extract i j).toList=(a.toList.drop i).take (j - i):=by
 rw[Array.toList_extract,List.extract_eq_drop_take]
theorem zw(l:List Keyed)(i k:Nat):(l.drop i).take k++l.drop (i+k)=l.drop i:=by
 rw[<-CP,Bd]
theorem al0{a:Array Keyed}{i k:Nat}{x:Keyed}(h:x∈(a.toList.drop i).take k):∃j,∃hj:i+j<a.size,j<k/\a[i+j]=x:=by
 obtain⟨j,hj,e⟩:=A1 h;rw[AL,Bq] at hj;have h1:i+j<a.size:=by have:a.toList.length=a.size:=AJ;omega
 refine⟨j,h1,by omega,?_⟩;rw[<-e];simp
theorem adr{a:Array Keyed}{i:Nat}{x:Keyed}(h:x∈a.toList.drop i):∃j,∃hj:j<a.size,i≤j/\a[j]=x:=by
 obtain⟨j,hj,e⟩:=A1 h;rw[Bq] at hj;have h1:i+j<a.size:=by have:a.toList.length=a.size:=AJ;omega
 refine⟨i+j,h1,by omega,?_⟩;rw[<-e];simp
theorem srt{f:Keyed->Int}{a:Array Keyed}(s:a.toList.Pairwise fun x y=>f x≤f y){i j:Nat}(hij:i≤j)(hj:j<a.size):f (a[i]'(by omega))≤f a[j]:=by
 rcases Dm hij with h | h
 ·have:=BW.mp s i j (by simpa using (by omega:i<a.size)) (by simpa using hj) h;simpa using this
 ·subst h;exact CL _
section
variable {f:Keyed->Int}{a b out:Array Keyed}{ia ib:Nat}
theorem MP.segA(M:MP f a b out ia ib){k:Nat}(hk:ia+k≤a.size)(h:∀i (hi:ia+i<a.size),i<k->∀j (hj:j<b.size),ib≤j->f a[ia+i]≤f b[j]):MP f a b (out++a.extract ia (ia+k)) (ia+k) ib:=by
 refine⟨?_,?_,hk,M.lb⟩
 ·rw[AZ,ae3,show ia+k - ia=k by omega];refine MI.a (by rw[zw];exact M.mi) fun x hx y hy=>?_;obtain⟨i,hi,h1,rfl⟩:=al0 hx;obtain⟨j,hj,h2,rfl⟩:=adr hy;exact h i hi h1 j hj h2
 ·rw[BE,CG,M.sz];omega
theorem MP.segB(M:MP f a b out ia ib){k:Nat}(hk:ib+k≤b.size)(h:∀i (hi:ib+i<b.size),i<k->∀j (hj:j<a.size),ia≤j->f b[ib+i]≤f a[j]):MP f a b (out++b.extract ib (ib+k)) ia (ib+k):=by
 refine⟨?_,?_,M.la,hk⟩
 ·rw[AZ,ae3,show ib+k - ib=k by omega];refine MI.b (by rw[zw];exact M.mi) fun x hx y hy=>?_;obtain⟨i,hi,h1,rfl⟩:=al0 hx;obtain⟨j,hj,h2,rfl⟩:=adr hy;exact h i hi h1 j hj h2
 ·rw[BE,CG,M.sz];omega
theorem MP.oneA(M:MP f a b out ia ib)(hi:ia<a.size)(h:∀j (hj:j<b.size),ib≤j->f a[ia]≤f b[j]):MP f a b (out.push a[ia]) (ia+1) ib:=by
 refine⟨?_,by rw[Bg,M.sz];omega,hi,M.lb⟩;rw[Cq];refine MI.a (seg:=[a[ia]]) (by rw[CY,<-axo a hi];exact M.mi) fun x hx y hy=>?_;obtain⟨j,hj,h2,rfl⟩:=adr hy;rw[AC.mp hx];exact h j hj h2
theorem MP.oneB(M:MP f a b out ia ib)(hi:ib<b.size)(h:∀j (hj:j<a.size),ia≤j->f b[ib]≤f a[j]):MP f a b (out.push b[ib]) ia (ib+1):=by
 refine⟨?_,by rw[Bg,M.sz];omega,M.la,hi⟩;rw[Cq];refine MI.b (seg:=[b[ib]]) (by rw[CY,<-axo b hi];exact M.mi) fun x hx y hy=>?_;obtain⟨j,hj,h2,rfl⟩:=adr hy;rw[AC.mp hx];exact h j hj h2
theorem MP.done(M:MP f a b out ia ib)(h:ib=b.size):xz f a.toList b.toList (out++a.extract ia++b.extract ib).toList:=by
 have e:b.toList.drop ib=[]:=List.drop_eq_nil_of_le (by rw[AJ];omega);have m:=M.mi;rw[e] at m;have:=m.ea;rw[AZ,AZ,ae3,ae3,e,List.take_nil,AR,Ba (by simp)];exact this
theorem MP.last(M:MP f a b out ia ib)(h:ia+1=a.size)(hl:∀x∈b.toList,f x<f (a[a.size - 1]'(by omega))):xz f a.toList b.toList (out++b.extract ib++a.extract ia).toList:=by
 have:=M.mi.eb fun x hx y hy=>by
  obtain⟨j,hj,h2,rfl⟩:=adr hy;have e:j=a.size - 1:=by omega
  subst e;exact BF (hl x (Ct hx))
 rw[AZ,AZ,ae3,ae3,Ba (by simp),Ba (by simp)];exact this
end
section
variable {prog:Program}{w:World}{A:Around}{E:Value->Shared->Prop}{s:Shared}{κ:SortKind}{Ok:Keyed->Prop}{f:Keyed->Int}
abbrev aev(st:SortSt)(g:Nat):SortSt:=SortSt.mk' (kindOf st) (arrOf st) (pendingOf st) g (failedOf st)
theorem am9{α β:Type}{c:Prop}{_:Decidable c}{K:β->StateT SortSt Sem α}{y:β}{Q:α->SortSt->Prop}{st:SortSt}(key:∀z,wpS (model prog w) A E s (K z) Q st):∀x,wpS (model prog w) A E s (if c then K x else K y) Q st:=fun x=>by
 by_cases h:c
 ·rw[AB h];exact key x
 ·rw[Ax h];exact key y
theorem agt{α β γ:Type}{c:Prop}{_:Decidable c}{K T:β->γ->StateT SortSt Sem α}{P:β->γ->Prop}{x:β}{i:γ}{Q:α->SortSt->Prop}{st:SortSt}(key:∀o j,P o j->wpS (model prog w) A E s (K o j) Q st)(hn:¬c->P x i)
 (hp:c->(∀o j,P o j->wpS (model prog w) A E s (K o j) Q st)->wpS (model prog w) A E s (T x i) Q st):∀o,x=o->∀j,i=j->wpS (model prog w) A E s (if c then T o j else K o j) Q st:=by
 rintro _ rfl _ rfl
 by_cases h:c
 ·rw[AB h];exact hp h key
 ·rw[Ax h];exact key x i (hn h)
theorem aq9(O:Ord prog w A s κ Ok f){a b:Array Keyed}{st:SortSt}{Q:Array Keyed->SortSt->Prop}(hk:kindOf st=κ)(oka:∀x∈a.toList,Ok x)(okb:∀x∈b.toList,Ok x)
 (sa:a.toList.Pairwise fun x y=>f x≤f y) (sb:b.toList.Pairwise fun x y=>f x≤f y) (ha:0<a.size) (hb:0<b.size) (h0:∀x∈a.toList,f b[0]<f x) (hl:∀x∈b.toList,f x<f a[a.size - 1])
 (q:∀r g,xz f a.toList b.toList r.toList->Q r (aev st g)):wpS (model prog w) A E s (at4 a b) Q st:=by
 refine Ab (wpS_lift (Bl ⟨rfl,?_⟩));refine Ab (jr (x:=b[0]) (by simp[hb]) ?_);dsimp only;have M0:MP f a b #[b[0]] 0 1:=by
  have M:MP f a b #[] 0 0:=⟨⟨by simp,by simp,by simpa using sa,by simpa using sb,by simp,by simp⟩,rfl,Bf _,Bf _⟩;have:=M.oneB hb fun j hj _=>BF (h0 a[j] (by simp));simpa using this
 by_cases c1:(1==b.size)=true
 ·rw[AB c1];exact Ac (q _ (gallopOf st) (M0.done (by simpa using c1)))
 rw[Ax c1]
 by_cases c2:(0+1==a.size)=true
 ·rw[AB c2];exact Ac (q _ (gallopOf st) (M0.last (by simpa using c2) hl))
 rw[Ax c2];have c1:¬1=b.size:=by simpa using c1
 have c2:¬1=a.size:=by simpa using c2
 refine Ab (wpS_get ?_);have okA:∀i (hi:i<a.size),Ok a[i]:=fun i hi=>oka _ (by simp);have okB:∀i (hi:i<b.size),Ok b[i]:=fun i hi=>okb _ (by simp);have atA:∀i (hi:i<a.size),a[i]?=some a[i]:=fun i hi=>by simp[hi]
 have atB:∀i (hi:i<b.size),b[i]?=some b[i]:=fun i hi=>by simp[hi]
 obtain⟨tA,tA0⟩:∃t:Nat->Keyed,t=fun i=>(a[i]?).getD b[0]:=⟨_,rfl⟩;have tA2:∀i (hi:i<a.size),tA i=a[i]:=fun i hi=>by rw[tA0];simp[hi]
 have tA1:∀i (hi:i<a.size),a[i]?=some (tA i):=fun i hi=>by rw[tA2 i hi];exact atA i hi
 have tA3:∀i (hi:i<a.size),Ok (tA i):=fun i hi=>by rw[tA2 i hi];exact okA i hi
 have tA4:∀{i j},i≤j->j<a.size->f (tA i)≤f (tA j):=fun {i j} hij hj=>by rw[tA2 i (by omega),tA2 j hj];exact srt sa hij hj
 obtain⟨tB,tB0⟩:∃t:Nat->Keyed,t=fun i=>(b[i]?).getD b[0]:=⟨_,rfl⟩;have tB2:∀i (hi:i<b.size),tB i=b[i]:=fun i hi=>by rw[tB0];simp[hi]
 have tB1:∀i (hi:i<b.size),b[i]?=some (tB i):=fun i hi=>by rw[tB2 i hi];exact atB i hi
 have tB3:∀i (hi:i<b.size),Ok (tB i):=fun i hi=>by rw[tB2 i hi];exact okB i hi
 have tB4:∀{i j},i≤j->j<b.size->f (tB i)≤f (tB j):=fun {i j} hij hj=>by rw[tB2 i (by omega),tB2 j hj];exact srt sb hij hj
 refine Ab (AQ (AH (I:=fun x c st'=>(∃g,st'=aev st g)/\∃out ia ib mg,c=(none,out,ia,ib,mg)/\MP f a b out ia ib/\ia+1<a.size/\ib<b.size/\x+1≤out.size)
  (Q:=fun c st'=>(∃g,st'=aev st g)/\∃r,c.1=some r/\xz f a.toList b.toList r.toList) ?_ ?_ ⟨⟨gallopOf st,rfl⟩,_,_,_,_,rfl,M0,by omega,by omega,by simp⟩) ?_)
 ·rintro x c st' _ hx ⟨⟨g,rfl⟩,out,ia,ib,mg,rfl,M,ha',hb',hs⟩;dsimp only;refine Ab (AQ (AH (I:=fun y c st'=>st'=aev st g/\∃out' ia ib ac bc,c=(none,out',ia,ib,ac,bc)/\MP f a b out' ia ib/\ia+1<a.size/\ib<b.size/\out.size+y≤out'.size)
   (Q:=fun c st'=>st'=aev st g/\((∃r,c.1=some r/\xz f a.toList b.toList r.toList)\/∃out' ia ib ac bc,c=(none,out',ia,ib,ac,bc)/\MP f a b out' ia ib/\ia+1<a.size/\ib<b.size/\out.size+1≤out'.size)) ?_ ?_ ⟨rfl,_,_,_,_,_,rfl,M,ha',hb',An _⟩) ?_)
  ·rintro y c st' _ hy ⟨rfl,out',ia,ib,ac,bc,rfl,M,ha',hb',hs'⟩;have pA1:ia<a.size:=by omega
   dsimp only;refine Ab (jr (atB ib hb') ?_);refine Ab (jr (atA ia pA1) ?_);refine Ab (w_lt O hk (okB ib hb') (okA ia pA1) ?_);dsimp only
   by_cases c:f b[ib]<f a[ia]
   ·rw[AD c,AB rfl];refine Ab (jr (atB ib hb') ?_);have M':=M.oneB hb' fun j hj hij=>BF (Int.lt_of_lt_of_le c (srt sa hij hj));have s2:(out'.push b[ib]).size=out'.size+1:=Bg _
    by_cases e1:(ib+1==b.size)=true
    ·rw[AB e1];exact Ac ⟨rfl,.inl ⟨_,rfl,M'.done (by simpa using e1)⟩⟩
    ·rw[Ax e1];have e1:¬ib+1=b.size:=by simpa using e1
     split
     ·exact Ac ⟨rfl,.inr ⟨_,_,_,_,_,rfl,M',ha',by omega,by omega⟩⟩
     ·exact Ac ⟨rfl,_,_,_,_,_,rfl,M',ha',by omega,by omega⟩
   ·rw[Aq c,Ax (by simp)];refine Ab (jr (atA ia pA1) ?_);have M':=M.oneA (by omega) fun j hj hij=>BD (by omega) (srt sb hij hj);have s2:(out'.push a[ia]).size=out'.size+1:=Bg _
    by_cases e1:(ia+1+1==a.size)=true
    ·rw[AB e1];exact Ac ⟨rfl,.inl ⟨_,rfl,M'.last (by simpa using e1) hl⟩⟩
    ·rw[Ax e1];have e1:¬ia+1+1=a.size:=by simpa using e1
     split
     ·exact Ac ⟨rfl,.inr ⟨_,_,_,_,_,rfl,M',by omega,hb',by omega⟩⟩
     ·exact Ac ⟨rfl,_,_,_,_,_,rfl,M',by omega,hb',by omega⟩
  ·rintro c st' ⟨rfl,out',ia,ib,ac,bc,rfl,M,ha',hb',hs'⟩;have:=M.sz;omega
  ·rintro c st' ⟨rfl,h⟩;rcases h with⟨r,er,hr⟩ | ⟨out1,ia,ib,ac,bc,rfl,M,ha',hb',hs'⟩
   ·obtain⟨c1,c2⟩:=c;cases er;exact Ac ⟨⟨g,rfl⟩,r,rfl,hr⟩
   ·dsimp only;refine Ab (wpS_lift (Bl ⟨rfl,?_⟩));refine Ab (AQ (AH (I:=fun y c st'=>(∃g,st'=aev st g)/\∃out' ia ib mg ac bc,c=(none,out',ia,ib,mg,ac,bc)/\MP f a b out' ia ib/\ia+1<a.size/\ib<b.size/\out1.size+y≤out'.size)
     (Q:=fun c st'=>(∃g,st'=aev st g)/\((∃r,c.1=some r/\xz f a.toList b.toList r.toList)\/∃out' ia ib mg ac bc,c=(none,out',ia,ib,mg,ac,bc)/\MP f a b out' ia ib/\ia+1<a.size/\ib<b.size/\out1.size≤out'.size)) ?_ ?_ ⟨⟨g,rfl⟩,_,_,_,_,_,_,rfl,M,ha',hb',An _⟩) ?_)
    ·rintro y c st' _ hy ⟨⟨g',rfl⟩,out',ia,ib,mg',ac,bc,rfl,M,ha',hb',hs''⟩;have pA1:ia<a.size:=by omega
     dsimp only;generalize mg' - 1=mgx;revert mgx;refine am9 (y:=mg') fun mg2=>?_
     all_goals
      refine Ab (wpS_modify ?_);refine Ab (jr (atB ib hb') ?_);refine Ab (ab6 O hk (okB ib hb') (by omega) (fun i=>tA (ia+i)) (fun i hi=>⟨tA1 _ (by omega),tA3 _ (by omega)⟩) (fun i=>!decide (f b[ib]<f (tA (ia+i)))) (fun i hi=>by rw[Ax (by simp)]) (fun i j hij hj h=>?_) fun k hk1 hlo hhi=>?_)
      ·have:=tA4 (i:=ia+i) (j:=ia+j) (by omega) (by omega);simp at h ⊢;omega
      have hlo:∀i,i<k->f (tA (ia+i))≤f b[ib]:=fun i hi=>by have:=hlo i hi;simpa using this
      have hhi:∀i,k≤i->i<a.size - ia->f b[ib]<f (tA (ia+i)):=fun i hi hj=>by have:=hhi i hi hj;simpa using this
      have kl:k<a.size - ia:=by
       rcases Dm hk1 with h | h
       ·exact h
       ·exfalso;have h1:=hlo (a.size - 1 - ia) (by omega);have h2:=hl b[ib] (by simp);rw[show ia+(a.size - 1 - ia)=a.size - 1 by omega,tA2 _ (by omega)] at h1;omega
      have M1:MP f a b (out'++a.extract ia (ia+k)) (ia+k) ib:=M.segA (by omega) fun i hi hik j hj hij=>by
       have h1:=hlo i hik;rw[tA2 _ hi] at h1;exact BD h1 (srt sb hij hj)
      have pB:∀j (hj:j<a.size),ia+k≤j->f b[ib]≤f a[j]:=fun j hj hij=>by
       have h1:=hhi (j - ia) (by omega) (by omega);rw[show ia+(j - ia)=j by omega,tA2 _ hj] at h1;omega
      dsimp only;generalize eo0:out'=o0;generalize ej0:ia=j0;revert j0;revert o0;refine agt (P:=fun(o:Array Keyed) (j:Nat)=>MP f a b o j ib/\out'.size≤o.size/\j+1<a.size/\∀j' (hj:j'<a.size),j≤j'->f b[ib]≤f a[j']) (x:=out') (i:=ia) (fun out3 ia3 hP=>?tail) (fun ck=>?hN) (fun ck key=>?hY)
      case hN=>
       obtain rfl:k=0:=by omega
       exact⟨M,An _,ha',fun j hj hij=>pB j hj (by omega)⟩
      case hY=>
       by_cases e1:(ia+k+1==a.size)=true
       ·rw[AB e1];exact Ac ⟨⟨_,rfl⟩,.inl ⟨_,rfl,M1.last (by simpa using e1) hl⟩⟩
       ·rw[Ax e1,Ax (show ¬(ia+k==a.size)=true by simp;omega)];have e1:¬ia+k+1=a.size:=by simpa using e1
        exact key _ _ ⟨M1,by rw[BE];omega,by omega,pB⟩
      clear pB M1 hlo hhi;obtain⟨M1,h3,l3,pB⟩:=hP;have pA3:ia3<a.size:=by omega
      all_goals
       refine Ab (jr (atB ib hb') ?_);have M2:=M1.oneB hb' pB;have s2:(out3.push b[ib]).size=out3.size+1:=Bg _
       by_cases e2:(ib+1==b.size)=true
       case' pos=>
        rw[AB e2];exact Ac ⟨⟨_,rfl⟩,.inl ⟨_,rfl,M2.done (by simpa using e2)⟩⟩
       case' neg=>
        rw[Ax e2];have e2:¬ib+1=b.size:=by simpa using e2
        refine Ab (jr (atA ia3 pA3) ?_);refine Ab (ab6 O hk (okA ia3 pA3) (by omega) (fun i=>tB (ib+1+i)) (fun i hi=>⟨tB1 _ (by omega),tB3 _ (by omega)⟩) (fun i=>decide (f (tB (ib+1+i))<f a[ia3])) (fun i hi=>by rw[AB rfl]) (fun i j hij hj h=>?_) fun k2 hk2 hlo2 hhi2=>?_)
        ·have:=tB4 (i:=ib+1+i) (j:=ib+1+j) (by omega) (by omega);simp at h ⊢;omega
        have hlo2:∀i,i<k2->f (tB (ib+1+i))<f a[ia3]:=fun i hi=>by have:=hlo2 i hi;simpa using this
        have hhi2:∀i,k2≤i->i<b.size - (ib+1)->f a[ia3]≤f (tB (ib+1+i)):=fun i hi hj=>by have:=hhi2 i hi hj;simpa using this
        have M3:MP f a b (out3.push b[ib]++b.extract (ib+1) (ib+1+k2)) ia3 (ib+1+k2):=M2.segB (by omega) fun i hi hik j hj hij=>by
         have h1:=hlo2 i hik;rw[tB2 _ hi] at h1;exact BD (BF h1) (srt sa hij hj)
        have pA:∀j (hj:j<b.size),ib+1+k2≤j->f a[ia3]≤f b[j]:=fun j hj hij=>by
         have h1:=hhi2 (j - (ib+1)) (by omega) (by omega);rw[show ib+1+(j - (ib+1))=j by omega,tB2 _ hj] at h1;exact h1
        dsimp only;obtain⟨o3,eo3⟩:∃o,o=out3.push b[ib]:=⟨_,rfl⟩;obtain⟨ib3,ei3⟩:∃i,i=ib+1:=⟨_,rfl⟩;rw[<-eo3] at s2;rw[<-eo3,<-ei3] at M2 M3 ⊢;rw[<-ei3] at pA hk2;generalize eo0:o3=o0;generalize ej0:ib3=j0;revert j0;revert o0;refine agt (P:=fun(o:Array Keyed) (j:Nat)=>MP f a b o ia3 j/\out3.size+1≤o.size/\j<b.size/\∀j' (hj:j'<b.size),j≤j'->f a[ia3]≤f b[j']) (x:=o3) (i:=ib3) (fun out4 ib4 hP=>?tail2) (fun ck=>?hN) (fun ck key=>?hY)
        case hN=>
         obtain rfl:k2=0:=by omega
         exact⟨M2,by omega,by omega,fun j hj hij=>pA j hj (by omega)⟩
        case hY=>
         by_cases e3:(ib3+k2==b.size)=true
         ·rw[AB e3];exact Ac ⟨⟨_,rfl⟩,.inl ⟨_,rfl,M3.done (by simpa using e3)⟩⟩
         ·rw[Ax e3];have e3:¬ib3+k2=b.size:=by simpa using e3
          exact key _ _ ⟨M3,by rw[BE];omega,by omega,pA⟩
        clear pA M3 hlo2 hhi2;obtain⟨M3,h4,l4,pA⟩:=hP
        all_goals
         refine Ab (jr (atA ia3 pA3) ?_);have M4:=M3.oneA (by omega) pA;have s4:(out4.push a[ia3]).size=out4.size+1:=Bg _
         by_cases e4:(ia3+1+1==a.size)=true
         ·rw[AB e4];exact Ac ⟨⟨_,rfl⟩,.inl ⟨_,rfl,M4.last (by simpa using e4) hl⟩⟩
         ·rw[Ax e4];have e4:¬ia3+1+1=a.size:=by simpa using e4
          split
          ·exact Ac ⟨⟨_,rfl⟩,.inr ⟨_,_,_,_,_,_,rfl,M4,by omega,l4,by omega⟩⟩
          ·exact Ac ⟨⟨_,rfl⟩,_,_,_,_,_,_,rfl,M4,by omega,l4,by omega⟩
    ·rintro c st' ⟨⟨g',rfl⟩,out',ia,ib,mg',ac,bc,rfl,M,ha',hb',hs''⟩;have:=M.sz;omega
    ·rintro c st' ⟨⟨g',rfl⟩,h⟩;rcases h with⟨r,er,hr⟩ | ⟨out2,ia,ib,mg2,ac,bc,rfl,M,ha',hb',hs''⟩
     ·obtain⟨c1,c2⟩:=c;cases er;exact Ac ⟨⟨g',rfl⟩,r,rfl,hr⟩
     ·dsimp only;refine Ab (wpS_modify ?_);exact Ac ⟨⟨_,rfl⟩,_,_,_,_,rfl,M,ha',hb',by omega⟩
 ·rintro c st' ⟨⟨g,rfl⟩,out,ia,ib,mg,rfl,M,ha',hb',hs⟩;have:=M.sz;omega
 ·rintro c st' ⟨⟨g,rfl⟩,r,er,hr⟩;obtain⟨c1,c2⟩:=c;cases er;exact Ac (q r g hr)
end
structure MH(f:Keyed->Int)(la lb ra rb o:List Keyed):Prop where
 perm:(ra++rb++o).Perm (la++lb)
 so:o.Pairwise fun x y=>f x≤f y
 sa:ra.Pairwise fun x y=>f x≤f y
 sb:rb.Pairwise fun x y=>f x≤f y
 oa:∀x∈ra,∀y∈o,f x≤f y
 ob:∀x∈rb,∀y∈o,f x≤f y
theorem MH.a{f:Keyed->Int}{la lb o seg ra rb:List Keyed}(h:MH f la lb (ra++seg) rb o)(hs:∀x∈rb,∀y∈seg,f x≤f y):MH f la lb ra rb (seg++o):=by
 have sa:=AN.mp h.sa;refine⟨List.Perm.trans ?_ h.perm,AN.mpr ⟨sa.2.1,h.so,fun x hx y hy=>h.oa x (Ag _ hx) y hy⟩,sa.1,h.sb,fun x hx y hy=>?_,fun x hx y hy=>?_⟩
 ·rw[<-Ay];refine(Bc o).mpr ?_;rw[Ay,Ay];exact(Bo ra).mpr A8
 ·rcases Al.mp hy with hy | hy
  ·exact sa.2.2 x hx y hy
  ·exact h.oa x (Aw _ hx) y hy
 ·rcases Al.mp hy with hy | hy
  ·exact hs x hx y hy
  ·exact h.ob x hx y hy
theorem MH.b{f:Keyed->Int}{la lb o seg ra rb:List Keyed}(h:MH f la lb ra (rb++seg) o)(hs:∀x∈ra,∀y∈seg,f x≤f y):MH f la lb ra rb (seg++o):=by
 have sb:=AN.mp h.sb;refine⟨?_,AN.mpr ⟨sb.2.1,h.so,fun x hx y hy=>h.ob x (Ag _ hx) y hy⟩,h.sa,sb.1,fun x hx y hy=>?_,fun x hx y hy=>?_⟩
 ·have:=h.perm;rw[<-Ay,Ay ra rb seg];exact this
 ·rcases Al.mp hy with hy | hy
  ·exact hs x hx y hy
  ·exact h.oa x hx y hy
 ·rcases Al.mp hy with hy | hy
  ·exact sb.2.2 x hx y hy
  ·exact h.ob x (Aw _ hx) y hy
theorem MH.ea{f:Keyed->Int}{la lb o rb:List Keyed}(h:MH f la lb [] rb o):xz f la lb (rb++o):=⟨by have:=h.perm;rwa[DM] at this,AN.mpr ⟨h.sb,h.so,h.ob⟩⟩
theorem MH.eb{f:Keyed->Int}{la lb o ra rb:List Keyed}(h:MH f la lb ra rb o)(hs:∀x∈rb,∀y∈ra,f x≤f y):xz f la lb (rb++ra++o):=by
 refine⟨List.Perm.trans ?_ h.perm,?_⟩
 ·exact(Bc o).mpr A8
 ·refine AN.mpr ⟨AN.mpr ⟨h.sb,h.sa,hs⟩,h.so,fun x hx y hy=>?_⟩;rcases Al.mp hx with hx | hx
  ·exact h.ob x hx y hy
  ·exact h.oa x hx y hy
structure HP(f:Keyed->Int)(a b out:Array Keyed)(na nb:Nat):Prop where
 mi:MH f a.toList b.toList (a.toList.take na) (b.toList.take nb) out.toList.reverse
 sz:out.size+na+nb=a.size+b.size
 la:na≤a.size
 lb:nb≤b.size
theorem axq(a:Array Keyed){i:Nat}(h:i<a.size):a.toList.take (i+1)=a.toList.take i++[a[i]]:=by
 rw[Bp];simp[h]
theorem ae2{a:Array Keyed}{i:Nat}{x:Keyed}(h:x∈a.toList.take i):∃j,∃hj:j<a.size,j<i/\a[j]=x:=by
 obtain⟨j,hj,e⟩:=A1 h;rw[AL] at hj;have h1:j<a.size:=by have:a.toList.length=a.size:=AJ;omega
 refine⟨j,h1,by omega,?_⟩;rw[<-e];simp
theorem awl(l:List Keyed){i k:Nat}(h:i≤k):l.take i++(l.drop i).take (k - i)=l.take k:=by
 have:=List.take_add (l:=l) (i:=i) (j:=k - i);rw[show i+(k - i)=k by omega] at this;exact this.symm
section
variable {f:Keyed->Int}{a b out:Array Keyed}{na nb:Nat}
theorem HP.segA(M:HP f a b out na nb){k:Nat}(hk:k≤na)(h:∀i (hi:i<a.size),k≤i->i<na->∀j (hj:j<b.size),j<nb->f b[j]≤f a[i]):HP f a b (out++(a.extract k na).reverse) k nb:=by
 have hl:=M.la;refine⟨?_,?_,by omega,M.lb⟩
 ·rw[AZ,CA,Cu,List.reverse_reverse,ae3];refine MH.a (by rw[awl _ hk];exact M.mi) fun x hx y hy=>?_;obtain⟨j,hj,h2,rfl⟩:=ae2 hx;obtain⟨i,hi,h1,rfl⟩:=al0 hy;exact h (k+i) hi (by omega) (by omega) j hj h2
 ·have:=M.sz;rw[BE,Array.size_reverse,CG];omega
theorem HP.segB(M:HP f a b out na nb){k:Nat}(hk:k≤nb)(h:∀i (hi:i<b.size),k≤i->i<nb->∀j (hj:j<a.size),j<na->f a[j]≤f b[i]):HP f a b (out++(b.extract k nb).reverse) na k:=by
 have hl:=M.lb;refine⟨?_,?_,M.la,by omega⟩
 ·rw[AZ,CA,Cu,List.reverse_reverse,ae3];refine MH.b (by rw[awl _ hk];exact M.mi) fun x hx y hy=>?_;obtain⟨j,hj,h2,rfl⟩:=ae2 hx;obtain⟨i,hi,h1,rfl⟩:=al0 hy;exact h (k+i) hi (by omega) (by omega) j hj h2
 ·have:=M.sz;rw[BE,Array.size_reverse,CG];omega
theorem HP.oneA(M:HP f a b out (na+1) nb)(hi:na<a.size)(h:∀j (hj:j<b.size),j<nb->f b[j]≤f a[na]):HP f a b (out.push a[na]) na nb:=by
 refine⟨?_,by have:=M.sz;rw[Bg];omega,by omega,M.lb⟩;rw[Cq,CA];refine MH.a (seg:=[a[na]]) (by rw[<-axq a hi];exact M.mi) fun x hx y hy=>?_;obtain⟨j,hj,h2,rfl⟩:=ae2 hx;rw[AC.mp hy];exact h j hj h2
theorem HP.oneB(M:HP f a b out na (nb+1))(hi:nb<b.size)(h:∀j (hj:j<a.size),j<na->f a[j]≤f b[nb]):HP f a b (out.push b[nb]) na nb:=by
 refine⟨?_,by have:=M.sz;rw[Bg];omega,M.la,by omega⟩;rw[Cq,CA];refine MH.b (seg:=[b[nb]]) (by rw[<-axq b hi];exact M.mi) fun x hx y hy=>?_;obtain⟨j,hj,h2,rfl⟩:=ae2 hx;rw[AC.mp hy];exact h j hj h2
theorem HP.done(M:HP f a b out na nb)(h:na=0):xz f a.toList b.toList (a.extract 0 na++b.extract 0 nb++out.reverse).toList:=by
 subst h;have:=M.mi;rw[List.take_zero] at this;have:=this.ea;rw[AZ,AZ,ae3,ae3,Cu];simpa using this
theorem HP.last(M:HP f a b out na nb)(h:nb=1)(hb:0<b.size)(h0:∀x∈a.toList,f b[0]<f x):xz f a.toList b.toList (b.extract 0 nb++a.extract 0 na++out.reverse).toList:=by
 have:=M.mi.eb fun x hx y hy=>by
  obtain⟨j,hj,h2,rfl⟩:=ae2 hx;have e:j=0:=by omega
  subst e;exact BF (h0 y (Bx hy))
 rw[AZ,AZ,ae3,ae3,Cu];simpa using this
end
theorem HP.preA{f:Keyed->Int}{a b out:Array Keyed}{na nb:Nat}(M:HP f a b out na nb)(h0:0<na)(h:∀j (hj:j<b.size),j<nb->f b[j]≤f (a[na - 1]'(by have:=M.la;omega))):HP f a b (out.push (a[na - 1]'(by have:=M.la;omega))) (na - 1) nb:=by
 obtain⟨n,rfl⟩:∃n,na=n+1:=⟨na - 1,by omega⟩;have hl:=M.la;exact HP.oneA M (by omega) h
theorem HP.preB{f:Keyed->Int}{a b out:Array Keyed}{na nb:Nat}(M:HP f a b out na nb)(h0:0<nb)(h:∀j (hj:j<a.size),j<na->f a[j]≤f (b[nb - 1]'(by have:=M.lb;omega))):HP f a b (out.push (b[nb - 1]'(by have:=M.lb;omega))) na (nb - 1):=by
 obtain⟨n,rfl⟩:∃n,nb=n+1:=⟨nb - 1,by omega⟩;have hl:=M.lb;exact HP.oneB M (by omega) h
section
variable {prog:Program}{w:World}{A:Around}{E:Value->Shared->Prop}{s:Shared}{κ:SortKind}{Ok:Keyed->Prop}{f:Keyed->Int}
theorem aar{M:Model}{A:Around}{E:Value->Shared->Prop}{s:Shared}{α:Type}{c:Prop} [Decidable c]{x y:StateT SortSt Sem α}{Q:α->SortSt->Prop}{st:SortSt}(h:c)(k:wpS M A E s x Q st):wpS M A E s (if c then x else y) Q st:=by rw[AB h];exact k
theorem aa7{M:Model}{A:Around}{E:Value->Shared->Prop}{s:Shared}{α:Type}{c:Prop} [Decidable c]{x y:StateT SortSt Sem α}{Q:α->SortSt->Prop}{st:SortSt}(h:¬c)(k:wpS M A E s y Q st):wpS M A E s (if c then x else y) Q st:=by rw[Ax h];exact k
theorem arp(O:Ord prog w A s κ Ok f){a b:Array Keyed}{st:SortSt}{Q:Array Keyed->SortSt->Prop}(hk:kindOf st=κ)(oka:∀x∈a.toList,Ok x)(okb:∀x∈b.toList,Ok x)
 (sa:a.toList.Pairwise fun x y=>f x≤f y) (sb:b.toList.Pairwise fun x y=>f x≤f y) (ha:0<a.size) (hb:0<b.size) (h0:∀x∈a.toList,f b[0]<f x) (hl:∀x∈b.toList,f x<f a[a.size - 1])
 (q:∀r g,xz f a.toList b.toList r.toList->Q r (aev st g)):wpS (model prog w) A E s (as9 a b) Q st:=by
 have okA:∀i (hi:i<a.size),Ok a[i]:=fun i hi=>oka _ (by simp);have okB:∀i (hi:i<b.size),Ok b[i]:=fun i hi=>okb _ (by simp);have atA:∀i (hi:i<a.size),a[i]?=some a[i]:=fun i hi=>by simp[hi]
 have atB:∀i (hi:i<b.size),b[i]?=some b[i]:=fun i hi=>by simp[hi]
 obtain⟨tA,tA0⟩:∃t:Nat->Keyed,t=fun i=>(a[i]?).getD b[0]:=⟨_,rfl⟩;have tA2:∀i (hi:i<a.size),tA i=a[i]:=fun i hi=>by rw[tA0];simp[hi]
 have tA1:∀i (hi:i<a.size),a[0+i]?=some (tA i):=fun i hi=>by rw[tA2 i hi,DJ];exact atA i hi
 have tA3:∀i (hi:i<a.size),Ok (tA i):=fun i hi=>by rw[tA2 i hi];exact okA i hi
 have tA4:∀{i j},i≤j->j<a.size->f (tA i)≤f (tA j):=fun {i j} hij hj=>by rw[tA2 i (by omega),tA2 j hj];exact srt sa hij hj
 obtain⟨tB,tB0⟩:∃t:Nat->Keyed,t=fun i=>(b[i]?).getD b[0]:=⟨_,rfl⟩;have tB2:∀i (hi:i<b.size),tB i=b[i]:=fun i hi=>by rw[tB0];simp[hi]
 have tB1:∀i (hi:i<b.size),b[0+i]?=some (tB i):=fun i hi=>by rw[tB2 i hi,DJ];exact atB i hi
 have tB3:∀i (hi:i<b.size),Ok (tB i):=fun i hi=>by rw[tB2 i hi];exact okB i hi
 have tB4:∀{i j},i≤j->j<b.size->f (tB i)≤f (tB j):=fun {i j} hij hj=>by rw[tB2 i (by omega),tB2 j hj];exact srt sb hij hj
 refine Ab (wpS_lift (Bl ⟨rfl,?_⟩));refine Ab (jr (x:=a[a.size - 1]) (atA _ (by omega)) ?_);dsimp only;obtain⟨n0,hn0⟩:∃n,a.size=n+1:=⟨a.size - 1,by omega⟩;have M0:HP f a b #[a[a.size - 1]] (a.size - 1) b.size:=by
  have M:HP f a b #[] (a.size - 1+1) b.size:=by
   refine⟨⟨?_,by simp,?_,?_,by simp,by simp⟩,by simp;omega,by omega,An _⟩
   ·rw[Ba (by simp;omega),Ba (by simp)];simp
   ·rw[Ba (by simp;omega)];exact sa
   ·rw[Ba (by simp)];exact sb
  have:=M.oneA (by omega) fun j hj _=>BF (hl b[j] (by simp));simpa using this
 by_cases c1:(a.size - 1==0)=true
 ·refine aar c1 ?_;exact Ac (q _ (gallopOf st) (M0.done (by simpa using c1)))
 refine aa7 c1 ?_
 by_cases c2:(b.size==1)=true
 ·refine aar c2 ?_;exact Ac (q _ (gallopOf st) (M0.last (by simpa using c2) hb h0))
 refine aa7 c2 ?_;have c1:¬a.size - 1=0:=by simpa using c1
 have c2:¬b.size=1:=by simpa using c2
 refine Ab (wpS_get ?_);refine Ab (AQ (AH (I:=fun x c st'=>(∃g,st'=aev st g)/\∃na nb out mg,c=(none,na,nb,out,mg)/\HP f a b out na nb/\0<na/\1<nb/\x+1≤out.size)
  (Q:=fun c st'=>(∃g,st'=aev st g)/\∃r,c.1=some r/\xz f a.toList b.toList r.toList) ?_ ?_ ⟨⟨gallopOf st,rfl⟩,_,_,_,_,rfl,M0,by omega,by omega,by simp⟩) ?_)
 ·rintro x c st' _ hx ⟨⟨g,rfl⟩,na,nb,out,mg,rfl,M,ha',hb',hs⟩;dsimp only;refine Ab (AQ (AH (I:=fun y c st'=>st'=aev st g/\∃na nb out' ac bc,c=(none,na,nb,out',ac,bc)/\HP f a b out' na nb/\0<na/\1<nb/\out.size+y≤out'.size)
   (Q:=fun c st'=>st'=aev st g/\((∃r,c.1=some r/\xz f a.toList b.toList r.toList)\/∃na nb out' ac bc,c=(none,na,nb,out',ac,bc)/\HP f a b out' na nb/\0<na/\1<nb/\out.size+1≤out'.size)) ?_ ?_ ⟨rfl,_,_,_,_,_,rfl,M,ha',hb',An _⟩) ?_)
  ·rintro y c st' _ hy ⟨rfl,na,nb,out',ac,bc,rfl,M,ha',hb',hs'⟩;have hla:=M.la;have hlb:=M.lb;have pB1:nb - 1<b.size:=by omega
   have pA1:na - 1<a.size:=by omega
   dsimp only;refine Ab (jr (atB (nb - 1) pB1) ?_);refine Ab (jr (atA (na - 1) pA1) ?_);refine Ab (w_lt O hk (okB (nb - 1) pB1) (okA (na - 1) pA1) ?_);dsimp only
   by_cases c:f b[nb - 1]<f a[na - 1]
   ·rw[AD c,AB rfl];refine Ab (jr (atA (na - 1) pA1) ?_);have M':=M.preA ha' fun j hj hij=>BF (Int.lt_of_le_of_lt (srt sb (i:=j) (j:=nb - 1) (Cv hij) pB1) c);have s2:(out'.push a[na - 1]).size=out'.size+1:=Bg _
    by_cases e1:(na - 1==0)=true
    ·refine aar e1 ?_;exact Ac ⟨rfl,.inl ⟨_,rfl,M'.done (by simpa using e1)⟩⟩
    ·refine aa7 e1 ?_;have e1:¬na - 1=0:=by simpa using e1
     split
     ·exact Ac ⟨rfl,.inr ⟨_,_,_,_,_,rfl,M',by omega,hb',by omega⟩⟩
     ·exact Ac ⟨rfl,_,_,_,_,_,rfl,M',by omega,hb',by omega⟩
   ·rw[Aq c,Ax (by simp)];refine Ab (jr (atB (nb - 1) pB1) ?_);have M':=M.preB (by omega) fun j hj hij=>BD (srt sa (i:=j) (j:=na - 1) (Cv hij) pA1) (by omega);have s2:(out'.push b[nb - 1]).size=out'.size+1:=Bg _
    by_cases e1:(nb - 1==1)=true
    ·refine aar e1 ?_;exact Ac ⟨rfl,.inl ⟨_,rfl,M'.last (by simpa using e1) hb h0⟩⟩
    ·refine aa7 e1 ?_;have e1:¬nb - 1=1:=by simpa using e1
     split
     ·exact Ac ⟨rfl,.inr ⟨_,_,_,_,_,rfl,M',ha',by omega,by omega⟩⟩
     ·exact Ac ⟨rfl,_,_,_,_,_,rfl,M',ha',by omega,by omega⟩
  ·rintro c st' ⟨rfl,na,nb,out',ac,bc,rfl,M,ha',hb',hs'⟩;have:=M.sz;omega
  ·rintro c st' ⟨rfl,h⟩;rcases h with⟨r,er,hr⟩ | ⟨na,nb,out1,ac,bc,rfl,M,ha',hb',hs'⟩
   ·obtain⟨c1,c2⟩:=c;cases er;exact Ac ⟨⟨g,rfl⟩,r,rfl,hr⟩
   ·dsimp only;refine Ab (wpS_lift (Bl ⟨rfl,?_⟩));refine Ab (AQ (AH (I:=fun y c st'=>(∃g,st'=aev st g)/\∃na nb out' mg ac bc,c=(none,na,nb,out',mg,ac,bc)/\HP f a b out' na nb/\0<na/\1<nb/\out1.size+y≤out'.size)
     (Q:=fun c st'=>(∃g,st'=aev st g)/\((∃r,c.1=some r/\xz f a.toList b.toList r.toList)\/∃na nb out' mg ac bc,c=(none,na,nb,out',mg,ac,bc)/\HP f a b out' na nb/\0<na/\1<nb/\out1.size≤out'.size)) ?_ ?_ ⟨⟨g,rfl⟩,_,_,_,_,_,_,rfl,M,ha',hb',An _⟩) ?_)
    ·rintro y c st' _ hy ⟨⟨g',rfl⟩,na,nb,out',mg',ac,bc,rfl,M,ha',hb',hs''⟩;have hla:=M.la;have hlb:=M.lb;have pB1:nb - 1<b.size:=by omega
     have pA1:na - 1<a.size:=by omega
     dsimp only;generalize mg' - 1=mgx;revert mgx;refine am9 (y:=mg') fun mg2=>?_
     all_goals
      refine Ab (wpS_modify ?_);refine Ab (jr (atB (nb - 1) pB1) ?_);refine Ab (ab6 O hk (okB (nb - 1) pB1) (by omega) tA (fun i hi=>⟨tA1 _ (by omega),tA3 _ (by omega)⟩) (fun i=>!decide (f b[nb - 1]<f (tA i))) (fun i hi=>by rw[Ax (by simp)]) (fun i j hij hj h=>?_) fun k hk1 hlo hhi=>?_)
      ·have:=tA4 (i:=i) (j:=j) (by omega) (by omega);simp at h ⊢;omega
      have hlo:∀i,i<k->f (tA i)≤f b[nb - 1]:=fun i hi=>by have:=hlo i hi;simpa using this
      have hhi:∀i,k≤i->i<na->f b[nb - 1]<f (tA i):=fun i hi hj=>by have:=hhi i hi hj;simpa using this
      have M1:HP f a b (out'++(a.extract k na).reverse) k nb:=M.segA hk1 fun i hi h1 h2 j hj hij=>by
       have h3:=hhi i h1 h2;rw[tA2 _ hi] at h3;exact BD (srt sb (i:=j) (j:=nb - 1) (Cv hij) pB1) (BF h3)
      have pB:∀j (hj:j<a.size),j<k->f a[j]≤f b[nb - 1]:=fun j hj hij=>by
       have h1:=hlo j hij;rw[tA2 _ hj] at h1;exact h1
      dsimp only;generalize ec0:na - k=cn;generalize eo0:out'=o0;generalize ej0:na=j0;revert j0;revert o0;refine agt (P:=fun(o:Array Keyed) (j:Nat)=>HP f a b o j nb/\out'.size≤o.size/\0<j/\∀j' (hj:j'<a.size),j'<j->f a[j']≤f b[nb - 1]) (x:=out') (i:=na) (fun out3 na3 hP=>?tail) (fun ck=>?hN) (fun ck key=>?hY)
      case hN=>
       obtain rfl:k=na:=by omega
       exact⟨M,An _,by omega,pB⟩
      case hY=>
       by_cases e1:(k==0)=true
       ·refine aar e1 ?_;exact Ac ⟨⟨_,rfl⟩,.inl ⟨_,rfl,M1.done (by simpa using e1)⟩⟩
       ·refine aa7 e1 ?_;have e1:¬k=0:=by simpa using e1
        exact key _ _ ⟨M1,by rw[BE];omega,by omega,pB⟩
      clear pB M1 hlo hhi;obtain⟨M1,h3,l3,pB⟩:=hP
      all_goals
       have hla3:=M1.la;have pA3:na3 - 1<a.size:=by omega
       refine Ab (jr (atB (nb - 1) pB1) ?_);have M2:=M1.preB (by omega) pB;have s2:(out3.push b[nb - 1]).size=out3.size+1:=Bg _
       by_cases e2:(nb - 1==1)=true
       case' pos=>
        refine aar e2 ?_;exact Ac ⟨⟨_,rfl⟩,.inl ⟨_,rfl,M2.last (by simpa using e2) hb h0⟩⟩
       case' neg=>
        refine aa7 e2 ?_;have e2:¬nb - 1=1:=by simpa using e2
        refine Ab (jr (atA (na3 - 1) pA3) ?_);refine Ab (ab6 O hk (okA (na3 - 1) pA3) (by omega) tB (fun i hi=>⟨tB1 _ (by omega),tB3 _ (by omega)⟩) (fun i=>decide (f (tB i)<f a[na3 - 1])) (fun i hi=>by rw[AB rfl]) (fun i j hij hj h=>?_) fun k2 hk2 hlo2 hhi2=>?_)
        ·have:=tB4 (i:=i) (j:=j) (by omega) (by omega);simp at h ⊢;omega
        have hlo2:∀i,i<k2->f (tB i)<f a[na3 - 1]:=fun i hi=>by have:=hlo2 i hi;simpa using this
        have hhi2:∀i,k2≤i->i<nb - 1->f a[na3 - 1]≤f (tB i):=fun i hi hj=>by have:=hhi2 i hi hj;simpa using this
        have k1:0<k2:=by
         rcases Nat.eq_zero_or_pos k2 with h | h
         ·exfalso;have h5:=hhi2 0 (by omega) (by omega);rw[tB2 _ hb] at h5;have h6:=h0 a[na3 - 1] (by simp);omega
         ·exact h
        have M3:HP f a b (out3.push b[nb - 1]++(b.extract k2 (nb - 1)).reverse) na3 k2:=M2.segB hk2 fun i hi h1 h2 j hj hij=>by
         have h5:=hhi2 i h1 h2;rw[tB2 _ hi] at h5;exact BD (srt sa (i:=j) (j:=na3 - 1) (Cv hij) pA3) h5
        have pA:∀j (hj:j<b.size),j<k2->f b[j]≤f a[na3 - 1]:=fun j hj hij=>by
         have h5:=hlo2 j hij;rw[tB2 _ hj] at h5;exact BF h5
        dsimp only;generalize ec2:nb - 1 - k2=cn2;obtain⟨o3,eo3⟩:∃o,o=out3.push b[nb - 1]:=⟨_,rfl⟩;obtain⟨nb3,ei3⟩:∃i,i=nb - 1:=⟨_,rfl⟩;have eb:b[nb - 1]=b[nb3]'(by omega):=by subst ei3;rfl
        rw[<-eo3] at s2 M2 M3 ⊢;rw[<-ei3] at M2 M3 ec2 hk2 ⊢;generalize eo0:o3=o0;generalize ej0:nb3=j0;revert j0;revert o0;refine agt (P:=fun(o:Array Keyed) (j:Nat)=>HP f a b o na3 j/\out3.size+1≤o.size/\1<j/\∀j' (hj:j'<b.size),j'<j->f b[j']≤f a[na3 - 1]) (x:=o3) (i:=nb3) (fun out4 nb4 hP=>?tail2) (fun ck=>?hN) (fun ck key=>?hY)
        case hN=>
         obtain rfl:k2=nb3:=by omega
         exact⟨M2,by omega,by omega,pA⟩
        case hY=>
         by_cases e3:(k2==1)=true
         ·refine aar e3 ?_;exact Ac ⟨⟨_,rfl⟩,.inl ⟨_,rfl,M3.last (by simpa using e3) hb h0⟩⟩
         ·refine aa7 e3 (aa7 (show ¬(k2==0)=true by simp;omega) ?_);have e3:¬k2=1:=by simpa using e3
          exact key _ _ ⟨M3,by rw[BE];omega,by omega,pA⟩
        clear pA M3 hlo2 hhi2;obtain⟨M3,h4,l4,pA⟩:=hP
        all_goals
         refine Ab (jr (atA (na3 - 1) pA3) ?_);have M4:=M3.preA l3 pA;have s4:(out4.push a[na3 - 1]).size=out4.size+1:=Bg _
         by_cases e4:(na3 - 1==0)=true
         ·refine aar e4 ?_;exact Ac ⟨⟨_,rfl⟩,.inl ⟨_,rfl,M4.done (by simpa using e4)⟩⟩
         ·refine aa7 e4 ?_;have e4:¬na3 - 1=0:=by simpa using e4
          split
          ·exact Ac ⟨⟨_,rfl⟩,.inr ⟨_,_,_,_,_,_,rfl,M4,by omega,l4,by omega⟩⟩
          ·exact Ac ⟨⟨_,rfl⟩,_,_,_,_,_,_,rfl,M4,by omega,l4,by omega⟩
    ·rintro c st' ⟨⟨g',rfl⟩,na,nb,out',mg',ac,bc,rfl,M,ha',hb',hs''⟩;have:=M.sz;omega
    ·rintro c st' ⟨⟨g',rfl⟩,h⟩;rcases h with⟨r,er,hr⟩ | ⟨na,nb,out2,mg2,ac,bc,rfl,M,ha',hb',hs''⟩
     ·obtain⟨c1,c2⟩:=c;cases er;exact Ac ⟨⟨g',rfl⟩,r,rfl,hr⟩
     ·dsimp only;refine Ab (wpS_modify ?_);exact Ac ⟨⟨_,rfl⟩,_,_,_,_,rfl,M,ha',hb',by omega⟩
 ·rintro c st' ⟨⟨g,rfl⟩,na,nb,out,mg,rfl,M,ha',hb',hs⟩;have:=M.sz;omega
 ·rintro c st' ⟨⟨g,rfl⟩,r,er,hr⟩;obtain⟨c1,c2⟩:=c;cases er;exact Ac (q r g hr)
end
def Pend(f:Keyed->Int):List (Nat×Nat×Nat)->List (List Keyed)->Nat->Prop
 |[],[],_=>True
 |(st,n,_)::ps,l::ls,s=>st=s/\n=l.length/\0<l.length/\(l.Pairwise fun x y=>f x≤f y)/\Pend f ps ls (s+l.length)
 |_,_,_=>False
theorem Pend.split{f:Keyed->Int}:∀{ps:List (Nat×Nat×Nat)} {pre:List (List Keyed)} {A B:List Keyed} {post:List (List Keyed)} {s:Nat},Pend f ps (pre++A::B::post) s->
 ∃P1 P2 w1 w2,ps=P1++(s+pre.flatten.length,A.length,w1)::(s+pre.flatten.length+A.length,B.length,w2)::P2/\P1.length=pre.length/\0<A.length/\0<B.length/\(A.Pairwise fun x y=>f x≤f y)/\(B.Pairwise fun x y=>f x≤f y)/\
  ∀C w,C.length=A.length+B.length->(C.Pairwise fun x y=>f x≤f y)->Pend f (P1++(s+pre.flatten.length,A.length+B.length,w)::P2) (pre++C::post) s
 |[],[],A,B,post,s,h=>by exact h.elim
 |[_],[],A,B,post,s,h=>by exact h.2.2.2.2.elim
 |(a1,a2,a3)::(b1,b2,b3)::ps,[],A,B,post,s,h=>by
  obtain⟨h1,h2,h3,h4,k1,k2,k3,k4,k5⟩:=h;refine⟨[],ps,a3,b3,?_,rfl,h3,k3,h4,k4,fun C w hC hs=>⟨rfl,hC.symm,by omega,hs,?_⟩⟩
  ·simp[h1,h2,k1,k2]
  ·rw[hC];have:=k5;rw[Nat.add_assoc] at this;exact this
 |[],_::_,A,B,post,s,h=>by exact h.elim
 |(a1,a2,a3)::ps,l::pre,A,B,post,s,h=>by
  obtain⟨h1,h2,h3,h4,k⟩:=h;obtain⟨P1,P2,w1,w2,e,e1,e2,e3,e4,e5,e6⟩:=Pend.split k;have en:s+(l::pre).flatten.length=s+l.length+pre.flatten.length:=by simp;omega
  refine⟨(a1,a2,a3)::P1,P2,w1,w2,?_,by simp[e1],e2,e3,e4,e5,fun C w hC hs=>⟨h1,h2,h3,h4,?_⟩⟩
  ·rw[en,e];rfl
  ·rw[en];exact e6 C w hC hs
theorem aw1{M:Model}{A:Around}{E:Value->Shared->Prop}{s:Shared}{σ:Type}{st st':σ}{Q:PUnit->σ->Prop}(h:Q ⟨⟩ st'):wpS M A E s (set st':StateT σ Sem PUnit) Q st:=by
 unfold wpS;rw[StateT.run_set];exact Ah ⟨rfl,h⟩
theorem ahc{α:Type}:∀(m:List α) (arr:Array α) (i k:Nat),i+k+m.length≤arr.size->((m.zipIdx k).foldl (fun(a:Array α) (pj:α×Nat)=>a.setIfInBounds (i+pj.2) pj.1) arr).toList=arr.toList.take (i+k)++(m++arr.toList.drop (i+k+m.length))
 |[],arr,i,k,h=>by simp
 |x::m,arr,i,k,h=>by
  rw[DD,List.foldl_cons];simp only[AF] at h;rw[ahc m _ i (k+1) (by simp;omega)];have e:(arr.setIfInBounds (i+k) x).toList=arr.toList.set (i+k) x:=by simp
  have l:arr.toList.length=arr.size:=AJ;rw[e,List.drop_set,AB (by omega),<-Nat.add_assoc,Bp,BP (by omega),List.take_set_of_le (by omega),AF];simp;congr 1;omega
structure Good(κ:SortKind)(Ok:Keyed->Prop)(f:Keyed->Int)(st:SortSt)(zw:List (List Keyed))(rest:List Keyed):Prop where
 kind:kindOf st=κ
 failed:failedOf st=none
 arr:(arrOf st).toList=zw.flatten++rest
 pend:Pend f (pendingOf st).toList zw 0
 ok:∀x∈(arrOf st).toList,Ok x
section
variable {prog:Program}{w:World}{A:Around}{E:Value->Shared->Prop}{s:Shared}{κ:SortKind}{Ok:Keyed->Prop}{f:Keyed->Int}
theorem ali{l:List Keyed}(s:l.Pairwise fun x y=>f x≤f y){i j:Nat}(hij:i≤j)(hj:j<l.length):f (l[i]'(by omega))≤f l[j]:=by
 rcases Dm hij with h | h
 ·exact BW.mp s i j (by omega) hj h
 ·subst h;exact CL _
theorem ath{α:Type}{p:Array α}{P1 P2:List α}{u v z:α}(h:p.toList=P1++u::v::P2):((p.setIfInBounds P1.length z).eraseIdxIfInBounds (P1.length+1)).toList=P1++z::P2:=by
 have hs:p.size=P1.length+(P2.length+2):=by rw[<-AJ,h];simp
 have h2:P1.length+1<(p.setIfInBounds P1.length z).size:=by rw[Array.size_setIfInBounds];omega
 rw[Array.eraseIdxIfInBounds,dif_pos h2,Array.toList_eraseIdx,Array.toList_setIfInBounds,h,List.set_append_right _ _ (An _),Cy,List.set_cons_zero,CM (by omega),Cc];rfl
theorem arb(O:Ord prog w A s κ Ok f){st:SortSt}{pre post:List (List Keyed)}{X Y rest:List Keyed}{Q:Bool->SortSt->Prop}(G:Good κ Ok f st (pre++X::Y::post) rest)
 (q:∀st' C,Good κ Ok f st' (pre++C::post) rest->C.Perm (X++Y)->Q true st'):wpS (model prog w) A E s (mergeAt' pre.length) Q st:=by
 obtain⟨P1,P2,w1,w2,ep,e1,lX,lY,sX,sY,done⟩:=G.pend.split;simp only[DJ] at ep done;have a1:(pendingOf st)[pre.length]?=some (pre.flatten.length,X.length,w1):=by rw[<-AY,ep,<-e1,Am (An _),Cy];rfl
 have a2:(pendingOf st)[pre.length+1]?=some (pre.flatten.length+X.length,Y.length,w2):=by rw[<-AY,ep,<-e1,Am (by omega),Cc];rfl
 refine Ab (wpS_get ?_);rw[show(sortPriv% PySem.Builtin.SortState.pending) st=pendingOf st from rfl,a1,a2];dsimp only;refine Ab (aw1 ?_);have ea:(arrOf st).toList=pre.flatten++(X++(Y++(post.flatten++rest))):=by rw[G.arr];simp
 have atX:∀i (hi:i<X.length),(arrOf st)[pre.flatten.length+i]?=some X[i]:=fun i hi=>by
  rw[<-AY,ea,Am (by omega),Cc,Az hi];simp
 have atY:∀i (hi:i<Y.length),(arrOf st)[pre.flatten.length+X.length+i]?=some Y[i]:=fun i hi=>by
  rw[<-AY,ea,Am (by omega),Am (by omega),Az (by omega)];rw[show pre.flatten.length+X.length+i - pre.flatten.length - X.length=i by omega];simp
 have okX:∀x∈X,Ok x:=fun x hx=>G.ok x (by rw[ea];simp[hx]);have okY:∀x∈Y,Ok x:=fun x hx=>G.ok x (by rw[ea];simp[hx]);have pz:=ath (z:=(pre.flatten.length,X.length+Y.length,w1)) ep;rw[e1] at pz;have good:∀(st':SortSt) (C:List Keyed),kindOf st'=kindOf st->failedOf st'=failedOf st->pendingOf st'=((pendingOf st).setIfInBounds pre.length (pre.flatten.length,X.length+Y.length,w1)).eraseIdxIfInBounds (pre.length+1)->
  (arrOf st').toList=pre.flatten++(C++(post.flatten++rest))->C.Perm (X++Y)->(C.Pairwise fun x y=>f x≤f y)->Good κ Ok f st' (pre++C::post) rest:=fun st' C g1 g2 g3 g4 g5 g6=>by
  refine⟨g1.trans G.kind,g2.trans G.failed,by rw[g4];simp,?_,fun x hx=>?_⟩
  ·rw[g3,pz];exact done C w1 (by rw[g5.length_eq,Ad]) g6
  ·rw[g4] at hx;rcases Al.mp hx with h | h
   ·exact G.ok x (by rw[ea];exact Aw _ h)
   ·rcases Al.mp h with h | h
    ·rcases Al.mp (g5.mem_iff.mp h) with h | h
     ·exact okX x h
     ·exact okY x h
    ·exact G.ok x (by rw[ea];exact Ag _ (Ag _ (Ag _ h)))
 obtain⟨tX,tX0⟩:∃t:Nat->Keyed,t=fun i=>(X[i]?).getD X[0]:=⟨_,rfl⟩;have tX2:∀i (hi:i<X.length),tX i=X[i]:=fun i hi=>by rw[tX0];simp[hi]
 obtain⟨tY,tY0⟩:∃t:Nat->Keyed,t=fun i=>(Y[i]?).getD X[0]:=⟨_,rfl⟩;have tY2:∀i (hi:i<Y.length),tY i=Y[i]:=fun i hi=>by rw[tY0];simp[hi]
 refine Ab (jr (x:=Y[0]) (by have:=atY 0 lY;simpa using this) ?_);refine Ab (ab6 O G.kind (okY _ (Cd _)) lX tX (fun i hi=>⟨by rw[tX2 i hi];exact atX i hi,by rw[tX2 i hi];exact okX _ (Cd _)⟩) (fun i=>!decide (f Y[0]<f (tX i))) (fun i hi=>by rw[Ax (by simp)]) (fun i j hij hj h=>?_) fun k hk1 hlo hhi=>?_)
 ·have:=ali sX hij hj;rw[tX2 j hj] at h;rw[tX2 i (by omega)];simp at h ⊢;omega
 have hlo:∀i (hi:i<k),f (X[i]'(by omega))≤f Y[0]:=fun i hi=>by have:=hlo i hi;rw[tX2 i (by omega)] at this;simpa using this
 have hhi:∀i (hj:i<X.length),k≤i->f Y[0]<f X[i]:=fun i hj hi=>by have:=hhi i hi hj;rw[tX2 i hj] at this;simpa using this
 dsimp only
 by_cases c:(X.length - k==0)=true
 ·rw[AB c];have c:X.length≤k:=by
   have:X.length - k=0:=by simpa using c
   omega
  refine Ac (q _ (X++Y) (good _ _ rfl rfl rfl (by rw[Ay];exact ea) (BG _) (AN.mpr ⟨sX,sY,fun x hx y hy=>?_⟩)) (BG _));obtain⟨i,hi,rfl⟩:=A1 hx;obtain⟨j,hj,rfl⟩:=A1 hy;exact BD (hlo i (by omega)) (ali sY (Bf _) hj)
 rw[Ax c];have c:k<X.length:=by
  have:¬X.length - k=0:=by simpa using c
  omega
 refine Ab (jr (x:=X[X.length - 1]) (by have:=atX (X.length - 1) (by omega);rw[show pre.flatten.length+k+(X.length - k) - 1=pre.flatten.length+(X.length - 1) by omega];exact this) ?_);refine Ab (ab6 O G.kind (okX _ (Cd _)) (by omega) tY (fun i hi=>⟨by rw[tY2 i hi];exact atY i hi,by rw[tY2 i hi];exact okY _ (Cd _)⟩) (fun i=>decide (f (tY i)<f X[X.length - 1])) (fun i hi=>by rw[AB rfl]) (fun i j hij hj h=>?_) fun m hm1 hlo2 hhi2=>?_)
 ·have:=ali sY hij hj;rw[tY2 j hj] at h;rw[tY2 i (by omega)];simp at h ⊢;omega
 have hlo2:∀i (hi:i<m),f (Y[i]'(by omega))<f X[X.length - 1]:=fun i hi=>by have:=hlo2 i hi;rw[tY2 i (by omega)] at this;simpa using this
 have hhi2:∀i (hj:i<Y.length),m≤i->f X[X.length - 1]≤f Y[i]:=fun i hj hi=>by have:=hhi2 i hi hj;rw[tY2 i hj] at this;simpa using this
 have m0:0<m:=by
  rcases Nat.eq_zero_or_pos m with h | h
  ·exfalso;have h5:=hhi2 0 lY (by omega);have h6:=hhi (X.length - 1) (by omega) (by omega);omega
  ·exact h
 dsimp only;rw[Ax (show ¬(m==0)=true by simp;omega)];have lsz:(arrOf st).size=pre.flatten.length+(X.length+(Y.length+(post.flatten++rest).length)):=by rw[<-AJ,ea];simp
 have ex:((arrOf st).extract (pre.flatten.length+k) (pre.flatten.length+X.length)).toList=X.drop k:=by
  rw[ae3,ea,<-CP,CQ,C7 (by omega),Cf (by simp;omega),Ba (by simp;omega)]
 have ey:((arrOf st).extract (pre.flatten.length+X.length) (pre.flatten.length+X.length+m)).toList=Y.take m:=by
  rw[ae3,ea,<-CP,CQ,CQ,show pre.flatten.length+X.length+m - (pre.flatten.length+X.length)=m by omega,Cf (by omega)]
 have zx:((arrOf st).extract (pre.flatten.length+k) (pre.flatten.length+X.length)).size=X.length - k:=by rw[<-AJ,ex];simp
 have zy:((arrOf st).extract (pre.flatten.length+X.length) (pre.flatten.length+X.length+m)).size=m:=by rw[<-AJ,ey];simp;omega
 have q1:∀x∈((arrOf st).extract (pre.flatten.length+k) (pre.flatten.length+X.length)).toList,Ok x:=fun x hx=>okX x (Ct (by rw[ex] at hx;exact hx));have q2:∀x∈((arrOf st).extract (pre.flatten.length+X.length) (pre.flatten.length+X.length+m)).toList,Ok x:=fun x hx=>okY x (Bx (by rw[ey] at hx;exact hx));have q3:((arrOf st).extract (pre.flatten.length+k) (pre.flatten.length+X.length)).toList.Pairwise fun x y=>f x≤f y:=by rw[ex];exact sX.sublist (List.drop_sublist _ _)
 have q4:((arrOf st).extract (pre.flatten.length+X.length) (pre.flatten.length+X.length+m)).toList.Pairwise fun x y=>f x≤f y:=by rw[ey];exact sY.sublist (Dv _ _)
 have q5:0<((arrOf st).extract (pre.flatten.length+k) (pre.flatten.length+X.length)).size:=by omega
 have q6:0<((arrOf st).extract (pre.flatten.length+X.length) (pre.flatten.length+X.length+m)).size:=by omega
 have y0:((arrOf st).extract (pre.flatten.length+X.length) (pre.flatten.length+X.length+m))[0]=Y[0]:=by
  have:((arrOf st).extract (pre.flatten.length+X.length) (pre.flatten.length+X.length+m)).toList[0]'(by rw[ey,AL];omega)=Y[0]:=by simp only[ey];simp
  rw[<-this];simp
 have xl:((arrOf st).extract (pre.flatten.length+k) (pre.flatten.length+X.length))[((arrOf st).extract (pre.flatten.length+k) (pre.flatten.length+X.length)).size - 1]=X[X.length - 1]:=by
  have:((arrOf st).extract (pre.flatten.length+k) (pre.flatten.length+X.length)).toList[((arrOf st).extract (pre.flatten.length+k) (pre.flatten.length+X.length)).size - 1]'(by rw[ex,zx,Bq];omega)=X[X.length - 1]:=by
   simp only[ex,zx];rw[B3];congr 1;omega
  rw[<-this];simp
 have q7:∀x∈((arrOf st).extract (pre.flatten.length+k) (pre.flatten.length+X.length)).toList,f ((arrOf st).extract (pre.flatten.length+X.length) (pre.flatten.length+X.length+m))[0]<f x:=fun x hx=>by
  rw[y0];rw[ex] at hx;obtain⟨i,hi,rfl⟩:=A1 hx;rw[B3];rw[Bq] at hi;exact hhi _ (by omega) (by omega)
 have q8:∀x∈((arrOf st).extract (pre.flatten.length+X.length) (pre.flatten.length+X.length+m)).toList,f x<f ((arrOf st).extract (pre.flatten.length+k) (pre.flatten.length+X.length))[((arrOf st).extract (pre.flatten.length+k) (pre.flatten.length+X.length)).size - 1]:=fun x hx=>by
  rw[xl];rw[ey] at hx;obtain⟨i,hi,rfl⟩:=A1 hx;rw[Bn];rw[AL] at hi;exact hlo2 _ (by omega)
 have fin:∀(r:Array Keyed) (g:Nat),xz f (X.drop k) (Y.take m) r.toList->Q (failedOf st).isNone (SortSt.mk' (kindOf st) (r.toList.zipIdx.foldl (fun a x=>a.setIfInBounds (pre.flatten.length+k+x.2) x.1) (arrOf st)) (((pendingOf st).setIfInBounds pre.length (pre.flatten.length,X.length+Y.length,w1)).eraseIdxIfInBounds (pre.length+1)) g (failedOf st)):=by
  rintro r g ⟨hm,hs⟩;have lr:r.toList.length=X.length - k+m:=by rw[hm.length_eq];simp;omega
  have ef:(failedOf st).isNone=true:=by rw[G.failed];rfl
  have pm:(X.take k++(r.toList++Y.drop m)).Perm (X++Y):=by
   have h1:(r.toList++Y.drop m).Perm (X.drop k++Y):=by
    refine((Bc (Y.drop m)).mpr hm).trans ?_;rw[Ay,Bd]
   refine((Bo (X.take k)).mpr h1).trans ?_;rw[<-Ay,Bd]
  have so:(X.take k++(r.toList++Y.drop m)).Pairwise fun x y=>f x≤f y:=by
   refine AN.mpr ⟨sX.sublist (Dv _ _),AN.mpr ⟨hs,sY.sublist (List.drop_sublist _ _),fun x hx y hy=>?_⟩,fun x hx y hy=>?_⟩
   ·obtain⟨j,hj,rfl⟩:=A1 hy;rw[B3];rw[Bq] at hj;rcases Al.mp (hm.mem_iff.mp hx) with h | h
    ·obtain⟨i,hi,rfl⟩:=A1 h;rw[B3];rw[Bq] at hi;exact BD (ali sX (by omega) (by omega)) (hhi2 _ (by omega) (by omega))
    ·obtain⟨i,hi,rfl⟩:=A1 h;rw[Bn];rw[AL] at hi;exact ali sY (by omega) (by omega)
   ·obtain⟨i,hi,rfl⟩:=A1 hx;rw[Bn];rw[AL] at hi;have low:∀z∈Y,f (X[i]'(by omega))≤f z:=fun z hz=>by
     obtain⟨j,hj,rfl⟩:=A1 hz;exact BD (hlo i (by omega)) (ali sY (Bf _) hj)
    rcases Al.mp hy with h | h
    ·rcases Al.mp (hm.mem_iff.mp h) with h | h
     ·obtain⟨j,hj,rfl⟩:=A1 h;rw[B3];rw[Bq] at hj;exact ali sX (by omega) (by omega)
     ·exact low y (Bx h)
    ·exact low y (Ct h)
  have pt:=ahc r.toList (arrOf st) (pre.flatten.length+k) 0 (by rw[lsz,lr,Ad];omega);have et:(arrOf st).toList.take (pre.flatten.length+k+0)++(r.toList++(arrOf st).toList.drop (pre.flatten.length+k+0+r.toList.length))=pre.flatten++((X.take k++(r.toList++Y.drop m))++(post.flatten++rest)):=by
   have h1:(arrOf st).toList.take (pre.flatten.length+k+0)=pre.flatten++X.take k:=by
    rw[ea,Nat.add_zero,List.take_length_add_append,Cf (by omega)]
   have h2:(arrOf st).toList.drop (pre.flatten.length+k+0+r.toList.length)=Y.drop m++(post.flatten++rest):=by
    rw[ea,lr,show pre.flatten.length+k+0+(X.length - k+m)=pre.flatten.length+(X.length+m) by omega,<-CP,CQ,<-CP,CQ,C7 (by omega)]
   rw[h1,h2];simp
  rw[ef];exact q _ _ (good _ _ rfl rfl rfl (pt.trans et) pm so) pm
 split
 ·exact Ab (aq9 O G.kind q1 q2 q3 q4 q5 q6 q7 q8 fun r g h=>Ab (wpS_modify (Ab (wpS_get (Ac (fin r g (by rw[ex,ey] at h;exact h)))))))
 ·exact Ab (arp O G.kind q1 q2 q3 q4 q5 q6 q7 q8 fun r g h=>Ab (wpS_modify (Ab (wpS_get (Ac (fin r g (by rw[ex,ey] at h;exact h)))))))
end
theorem an8{α:Type}{arr:Array α}{P R:List α}{n:Nat}(h:arr.toList=P++R)(hn:n≤R.length):(mirror arr P.length (P.length+n) ((P.length+n - P.length) / 2)).toList=P++((R.take n).reverse++R.drop n):=by
 have hs:arr.size=P.length+R.length:=by rw[<-AJ,h];simp
 refine List.ext_getElem? fun k=>?_;rw[AY,getElem?_mirror_all (by omega)]
 by_cases c:P.length≤k/\k<P.length+n
 ·rw[AB c,<-AY,h,Am (by omega),Am (by omega),Az (by simp;omega),List.getElem?_reverse (by simp;omega),Dn,AL,AB (by omega)];congr 1;omega
 ·rw[Ax c,<-AY,h]
  by_cases c2:k<P.length
  ·rw[Az c2,Az c2]
  ·rw[Am (by omega),Am (by omega),Am (by simp;omega),Do];congr 1;simp;omega
theorem am2{α:Type}{arr:Array α}{P R:List α}{k l:Nat}(h:arr.toList=P++R)(hk:k<R.length)(hl:l≤k):(bubble arr (P.length+k) (P.length+k - (P.length+l))).toList=P++(R.take l++R[k]::((R.drop l).take (k - l)++R.drop (k+1))):=by
 have hs:arr.size=P.length+R.length:=by rw[<-AJ,h];simp
 refine List.ext_getElem? fun i=>?_;rw[AY,getElem?_bubble (by omega) _ (by omega),show P.length+k - (P.length+k - (P.length+l))=P.length+l by omega]
 by_cases c1:i=P.length+l
 ·rw[AB c1,<-AY,h,c1,Am (by omega),Am (by omega),Am (by simp;omega)];rw[show P.length+l - P.length - (R.take l).length=0 by simp;omega,show P.length+k - P.length=k by omega,List.getElem?_cons_zero];simp[hk]
 ·rw[Ax c1]
  by_cases c2:P.length+l<i/\i≤P.length+k
  ·rw[AB c2,<-AY,h,Am (by omega),Am (by omega),Am (by simp;omega)];obtain⟨d,hd⟩:∃d,i=P.length+l+d+1:=⟨i - P.length - l - 1,by omega⟩;rw[show i - P.length - (R.take l).length=d+1 by simp;omega,CI,Az (by simp;omega),Dn,AB (by omega),Do];congr 1;omega
  ·rw[Ax c2,<-AY,h]
   by_cases c3:i<P.length
   ·rw[Az c3,Az c3]
   ·rw[Am (by omega),Am (by omega)]
    by_cases c4:i<P.length+l
    ·rw[Az (by simp;omega),Dn,AB (by omega)]
    ·obtain⟨d,hd⟩:∃d,i=P.length+k+d+1:=⟨i - P.length - k - 1,by omega⟩;rw[Am (by simp;omega),show i - P.length - (R.take l).length=(k - l)+d+1 by simp;omega,CI,Am (by simp;omega),Do];congr 1;simp;omega
section
variable {prog:Program}{w:World}{A:Around}{E:Value->Shared->Prop}{s:Shared}{κ:SortKind}{Ok:Keyed->Prop}{f:Keyed->Int}
structure Tl(κ:SortKind)(Ok:Keyed->Prop)(st:SortSt)(P R:List Keyed):Prop where
 kind:kindOf st=κ
 arr:(arrOf st).toList=P++R
 ok:∀x∈R,Ok x
theorem af5(O:Ord prog w A s κ Ok f){st:SortSt}{P R:List Keyed}(T:Tl κ Ok st P R){i j:Nat}(hi:i<R.length)(hj:j<R.length){a b:Nat}(ea:a=P.length+i)(eb:b=P.length+j){Q:Option Bool->SortSt->Prop}(q:Q (some (decide (f R[i]<f R[j]))) st):wpS (model prog w) A E s (ltAt' a b) Q st:=by
 have at_:∀i (hi:i<R.length),(arrOf st)[P.length+i]?=some R[i]:=fun i hi=>by rw[<-AY,T.arr,Am (by omega),Cc];simp
 subst ea eb;rw[ltAt'_eq];refine Ab (wpS_get ?_);refine Ab (jr (at_ i hi) (Ab (jr (at_ j hj) ?_)));exact w_lt O T.kind (T.ok _ (Cd _)) (T.ok _ (Cd _)) q
def Up(f:Keyed->Int)(R:List Keyed)(n:Nat):Prop:=∀i j (_:i≤j) (_:j<R.length),j<n->f (R[i]'(by omega))≤f R[j]
theorem Up.snoc{R:List Keyed}{n:Nat}(h:Up f R n)(h1:1≤n)(hn:n<R.length)(hs:f (R[n - 1]'(by omega))≤f R[n]):Up f R (n+1):=fun i j hij hj hjn=>by
 rcases DK j n with c | c
 ·exact h i j hij hj c
 ·have e:j=n:=by omega
  subst e;rcases DK i j with c2 | c2
  ·exact BD (h i (j - 1) (by omega) (by omega) (by omega)) hs
  ·have e:i=j:=by omega
   subst e;exact CL _
theorem Up.pair{R:List Keyed}{n:Nat}(h:Up f R n)(hn:n≤R.length):(R.take n).Pairwise fun x y=>f x≤f y:=by
 rw[BW];intro i j hi hj hij;rw[AL] at hi hj;rw[Bn,Bn];exact h i j (by omega) (by omega) (by omega)
end
section
variable {prog:Program}{w:World}{A:Around}{E:Value->Shared->Prop}{s:Shared}{κ:SortKind}{Ok:Keyed->Prop}{f:Keyed->Int}
theorem Tl.same{st:SortSt}{P R R':List Keyed}(T:Tl κ Ok st P R)(p:R'.Perm R){arr:Array Keyed}(h:arr.toList=P++R'):Tl κ Ok (setArr st arr) P R':=⟨T.kind,h,fun x hx=>T.ok x (p.mem_iff.mp hx)⟩
theorem Up.one{R:List Keyed}:Up f R 1:=fun i j hij hj h=>by
 have:i=j:=by omega
 subst this;exact CL _
theorem aw9(O:Ord prog w A s κ Ok f){st:SortSt}{P R:List Keyed}(T:Tl κ Ok st P R)(h1:1≤R.length)(inj:∀i j (_:i<j) (_:j<R.length),f (R[i]'(by omega))≠f R[j]){Q:Option Nat->SortSt->Prop}
 (q:∀n R' arr,1≤n->n≤R.length->R'.Perm R->arr.toList=P++R'->Up f R' n->Q (some n) (setArr st arr)):wpS (model prog w) A E s (countRun' P.length R.length) Q st:=by
 have hst:setArr st (arrOf st)=st:=rfl;refine Ab (AQ (AH (I:=fun x c st'=>st'=st/\c=(none,x)/\Up f R x)
  (Q:=fun c st'=>st'=st/\∃n,c=(none,n)/\1≤n/\n≤R.length/\Up f R n/\(n=R.length\/∃h:n<R.length,f R[n]<f (R[n - 1]'(by omega)))) ?_ ?_ ⟨rfl,rfl,Up.one⟩) ?_)
 ·rintro x c st' hx1 hx ⟨rfl,rfl,U⟩;dsimp only;refine Ab (af5 O T (i:=x) (j:=x - 1) hx (by omega) rfl (by omega) ?_);dsimp only
  by_cases c:f R[x]<f (R[x - 1]'(by omega))
  ·rw[AD c,AB rfl];exact Ac ⟨rfl,x,rfl,hx1,by omega,U,.inr ⟨hx,c⟩⟩
  ·rw[Aq c,Ax (by simp)];exact Ac ⟨rfl,rfl,U.snoc hx1 hx (by omega)⟩
 ·rintro c st' ⟨rfl,rfl,U⟩;exact⟨rfl,_,rfl,by omega,by omega,by rw[C1 h1] at *;exact U,.inl (by omega)⟩
 ·rintro c st' ⟨rfl,n,rfl,hn1,hn2,U,hend⟩;dsimp only
  by_cases c1:(n==R.length)=true
  ·rw[AB c1];exact Ac (q n R (arrOf st') hn1 hn2 (BG _) T.arr U)
  rw[Ax c1];have c1:¬n=R.length:=by simpa using c1
  have hnl:n<R.length:=by omega
  by_cases c2:n > 1
  ·rw[AB c2];refine Ab (af5 O T (i:=0) (j:=n - 1) (by omega) (by omega) rfl (by omega) ?_);have:f R[0]<f (R[n - 1]'(by omega)):=by
    have h3:=U 0 (n - 1) (by omega) (by omega) (by omega);have h4:=inj 0 (n - 1) (by omega) (by omega);omega
   dsimp only;rw[AD this,AB rfl];exact Ac (q n R (arrOf st') hn1 hn2 (BG _) T.arr U)
  rw[Ax c2];obtain rfl:n=1:=by omega
  refine Ab (wpS_lift (Bl ⟨rfl,?_⟩));have hd:f R[1]<f R[0]:=by
   rcases hend with h | ⟨h,h'⟩
   ·omega
   ·exact h'
  refine Ab (AQ (AH (I:=fun x c st''=>st''=st'/\c=(none,x,0)/\∀i j (_:i≤j) (_:j<R.length),j<x->f R[j]≤f (R[i]'(by omega)))
   (Q:=fun c st''=>st''=st'/\∃n,c=(none,n,0)/\2≤n/\n≤R.length/\∀i j (_:i≤j) (_:j<R.length),j<n->f R[j]≤f (R[i]'(by omega))) ?_ ?_ ⟨rfl,rfl,?_⟩) ?_)
  ·rintro x c st'' hx1 hx ⟨rfl,rfl,D⟩;dsimp only;refine Ab (af5 O T (i:=x) (j:=x - 1) hx (by omega) rfl (by omega) ?_);dsimp only
   by_cases c:f R[x]<f (R[x - 1]'(by omega))
   ·rw[AD c,AB rfl,Ax (by simp)];refine Ac ⟨rfl,rfl,fun i j hij hj hjx=>?_⟩;rcases DK j x with h | h
    ·exact D i j hij hj h
    ·have e:j=x:=by omega
     subst e;rcases DK i j with h2 | h2
     ·exact BD (BF c) (D i (j - 1) (by omega) (by omega) (by omega))
     ·have e:i=j:=by omega
      subst e;exact CL _
   ·rw[Aq c,Ax (by simp)];refine Ab (af5 O T (i:=x - 1) (j:=x) (by omega) hx (by omega) rfl ?_);have h4:=inj (x - 1) x (by omega) hx;have:f (R[x - 1]'(by omega))<f R[x]:=by omega
    dsimp only;rw[AD this,AB rfl];exact Ac ⟨rfl,x,rfl,by omega,by omega,D⟩
  ·rintro c st'' ⟨rfl,rfl,D⟩;exact⟨rfl,_,rfl,by omega,by omega,D⟩
  ·intro i j hij hj hjx;have:j=0\/j=1:=by omega
   rcases this with rfl | rfl
   ·have:i=0:=by omega
    subst this;exact CL _
   ·have:i=0\/i=1:=by omega
    rcases this with rfl | rfl
    ·exact BF hd
    ·exact CL _
  ·rintro c st'' ⟨rfl,n,rfl,g1,g2,D⟩;dsimp only;rw[Ax (by simp)];have T':=T.same (R':=(R.take n).reverse++R.drop n) (((Bc _).mpr (List.reverse_perm _)).trans (by rw[Bd])) (an8 T.arr g2);obtain⟨R',eR⟩:∃R',R'=(R.take n).reverse++R.drop n:=⟨_,rfl⟩;have pR:R'.Perm R:=by rw[eR];exact((Bc _).mpr (List.reverse_perm _)).trans (by rw[Bd])
   have lR:R'.length=R.length:=pR.length_eq;have U':Up f R' n:=fun i j hij hj hjn=>by
    subst eR;rw[DB (by simp;omega),DB (by simp;omega),List.getElem_reverse,List.getElem_reverse,Bn,Bn];refine D _ _ ?_ (by simp;omega) ?_
    ·simp;omega
    ·simp;omega
   rw[<-eR] at T';refine Ab (wpS_modify ?_);refine Ab (AQ (AH (I:=fun x c sx=>sx=setArr st'' (mirror (arrOf st'') P.length (P.length+n) ((P.length+n - P.length) / 2))/\c=(none,x)/\Up f R' x)
    (Q:=fun c sx=>sx=setArr st'' (mirror (arrOf st'') P.length (P.length+n) ((P.length+n - P.length) / 2))/\∃n,c=(none,n)/\1≤n/\n≤R.length/\Up f R' n) ?_ ?_ ⟨rfl,rfl,U'⟩) ?_)
   ·rintro x c sx hx1 hx ⟨rfl,rfl,U⟩;dsimp only;refine Ab (af5 O T' (i:=x) (j:=x - 1) (by omega) (by omega) rfl (by omega) ?_);dsimp only
    by_cases c:f (R'[x]'(by omega))<f (R'[x - 1]'(by omega))
    ·rw[AD c,AB rfl];exact Ac ⟨rfl,x,rfl,by omega,by omega,U⟩
    ·rw[Aq c,Ax (by simp)];exact Ac ⟨rfl,rfl,U.snoc (by omega) (by omega) (by omega)⟩
   ·rintro c sx ⟨rfl,rfl,U⟩;exact⟨rfl,_,rfl,by omega,by omega,U⟩
   ·rintro c sx ⟨rfl,n,rfl,k1,k2,U⟩;exact Ac (q n R' _ k1 k2 pR T'.arr U)
end
section
variable {prog:Program}{w:World}{A:Around}{E:Value->Shared->Prop}{s:Shared}{κ:SortKind}{Ok:Keyed->Prop}{f:Keyed->Int}
theorem Up.of{R:List Keyed}{n:Nat}(h:(R.take n).Pairwise fun x y=>f x≤f y):Up f R n:=fun i j hij hj hjn=>by
 have:=ali h (i:=i) (j:=j) hij (by simp;omega);rw[Bn,Bn] at this;exact this
theorem atj{R:List Keyed}{k l:Nat}(hk:k<R.length)(hl:l≤k):(R.take l++R[k]::((R.drop l).take (k - l)++R.drop (k+1))).Perm R:=by
 have e:R=R.take l++((R.drop l).take (k - l)++(R[k]::R.drop (k+1))):=by
  rw[<-Ay,awl _ hl,<-BJ hk,Bd]
 refine List.Perm.trans ?_ (List.Perm.of_eq e.symm);exact(Bo _).mpr BR.symm
theorem ay1{R:List Keyed}{k l:Nat}(hk:k<R.length)(hl:l≤k)(U:Up f R k)(lo:∀i (_:i<l),f (R[i]'(by omega))≤f R[k])(hi:∀i (_:i<k),l≤i->f R[k]≤f (R[i]'(by omega))):
 Up f (R.take l++R[k]::((R.drop l).take (k - l)++R.drop (k+1))) (k+1):=by
 apply Up.of;have e:R.take l++R[k]::((R.drop l).take (k - l)++R.drop (k+1))=(R.take l++R[k]::(R.drop l).take (k - l))++R.drop (k+1):=by simp
 rw[e,List.take_left' (by simp;omega)];have ab:=U.pair (Bv hk);rw[<-awl R hl] at ab;have ab:=AN.mp ab;have hB:∀y∈(R.drop l).take (k - l),f R[k]≤f y:=fun y hy=>by
  obtain⟨j,hj,rfl⟩:=A1 hy;rw[AL,Bq] at hj;rw[Bn,B3];exact hi (l+j) (by omega) (by omega)
 have hA:∀x∈R.take l,f x≤f R[k]:=fun x hx=>by
  obtain⟨j,hj,rfl⟩:=A1 hx;rw[AL] at hj;rw[Bn];exact lo j (by omega)
 refine AN.mpr ⟨ab.1,List.pairwise_cons.mpr ⟨hB,ab.2.1⟩,fun x hx y hy=>?_⟩;rcases As.mp hy with rfl | hy
 ·exact hA x hx
 ·exact ab.2.2 x hx y hy
theorem a1c(O:Ord prog w A s κ Ok f){st:SortSt}{P R:List Keyed}(T:Tl κ Ok st P R){n ok:Nat}(hn:n≤R.length)(h1:1≤ok)(ho:ok≤n)(U:Up f R ok){Q:Bool->SortSt->Prop}
 (q:∀R' arr,R'.Perm R->arr.toList=P++R'->Up f R' n->Q true (setArr st arr)):wpS (model prog w) A E s (binarySort' P.length n ok) Q st:=by
 have hst:setArr st (arrOf st)=st:=rfl;refine Ab (AQ (AH (I:=fun x c st'=>c=(none,())/\∃R' arr,st'=setArr st arr/\R'.Perm R/\arr.toList=P++R'/\Up f R' x)
  (Q:=fun c st'=>c=(none,())/\∃R' arr,st'=setArr st arr/\R'.Perm R/\arr.toList=P++R'/\Up f R' n) ?_ ?_ ⟨rfl,R,arrOf st,rfl,BG _,T.arr,by rw[Dc h1];exact U⟩) ?_)
 ·rintro x c st' hx1 hx ⟨rfl,R',arr,rfl,pR,eA,U'⟩;have T':=T.same pR eA;have lR:R'.length=R.length:=pR.length_eq;have hxl:x<R'.length:=by omega
  dsimp only;refine Ab (AQ (AH (I:=fun y c st'=>st'=setArr st arr/\∃l r,c=(none,l,r)/\l≤r/\r≤x/\r - l+y≤x/\(∀i (_:i<l) (_:i<R'.length),f R'[i]≤f R'[x])/\(∀i (_:i<x),r≤i->f R'[x]≤f (R'[i]'(by omega))))
   (Q:=fun c st'=>st'=setArr st arr/\∃l,c=(none,l,l)/\l≤x/\(∀i (_:i<l) (_:i<R'.length),f R'[i]≤f R'[x])/\(∀i (_:i<x),l≤i->f R'[x]≤f (R'[i]'(by omega)))) ?_ ?_ ⟨rfl,0,x,rfl,Bf _,An _,by omega,fun i h=>by omega,fun i h h'=>by omega⟩) ?_)
  ·rintro y c st' _ hy ⟨rfl,l,r,rfl,g1,g2,g3,g4,g5⟩;dsimp only
   by_cases c:l≥r
   ·rw[AB c];obtain rfl:l=r:=by omega
    exact Ac ⟨rfl,l,rfl,g2,g4,g5⟩
   ·rw[Ax c];refine Ab (af5 O T' (i:=x) (j:=(l+r) / 2) hxl (by omega) rfl rfl ?_);dsimp only
    by_cases e:f R'[x]<f (R'[(l+r) / 2]'(by omega))
    ·rw[AD e,AB rfl];refine Ac ⟨rfl,l,(l+r) / 2,rfl,by omega,by omega,by omega,g4,fun i h h'=>?_⟩;exact BD (BF e) (U' _ _ h' (by omega) h)
    ·rw[Aq e,Ax (by simp)];refine Ac ⟨rfl,(l+r) / 2+1,r,rfl,by omega,g2,by omega,fun i h h'=>?_,g5⟩;exact BD (U' i ((l+r) / 2) (by omega) (by omega) (by omega)) (by omega)
  ·rintro c st' ⟨rfl,l,r,rfl,g1,g2,g3,g4,g5⟩;obtain rfl:l=r:=by omega
   exact⟨rfl,l,rfl,g2,g4,g5⟩
  ·rintro c st' ⟨rfl,l,rfl,g2,g4,g5⟩;dsimp only;refine Ab (wpS_modify ?_);exact Ac ⟨rfl,_,_,rfl,(atj hxl g2).trans pR,am2 eA hxl g2,ay1 hxl g2 U' (fun i h=>g4 i h (by omega)) g5⟩
 ·rintro c st' ⟨rfl,R',arr,rfl,pR,eA,U'⟩;exact⟨rfl,R',arr,rfl,pR,eA,by rw[Dc h1,C1 ho] at U';exact U'⟩
 ·rintro c st' ⟨rfl,R',arr,rfl,pR,eA,U'⟩;exact Ac (q R' arr pR eA U')
end
section
variable {prog:Program}{w:World}{A:Around}{E:Value->Shared->Prop}{s:Shared}{κ:SortKind}{Ok:Keyed->Prop}{f:Keyed->Int}
theorem Pend.len:∀{ps:List (Nat×Nat×Nat)} {zw:List (List Keyed)} {s:Nat},Pend f ps zw s->ps.length=zw.length/\zw.length≤zw.flatten.length
 |[],[],_,_=>⟨rfl,An _⟩
 |_::_,[],_,h=>h.elim
 |[],_::_,_,h=>h.elim
 |(_,_,_)::ps,l::ls,s,h=>by
  obtain⟨_,_,h3,_,k⟩:=h;have:=Pend.len k;rw[AF,AF,Cr,Ad];omega
theorem Pend.repow{w:Nat}:∀{ps:List (Nat×Nat×Nat)} {zw:List (List Keyed)} {s:Nat} (i:Nat),Pend f ps zw s->Pend f (ps.modify i fun p=>(p.1,p.2.1,w)) zw s
 |[],[],_,i,_=>by simp[Pend]
 |_::_,[],_,_,h=>h.elim
 |[],_::_,_,_,h=>h.elim
 |(_,_,_)::ps,l::ls,s,0,h=>h
 |(_,_,_)::ps,l::ls,s,i+1,h=>by
  obtain⟨h1,h2,h3,h4,k⟩:=h;exact⟨h1,h2,h3,h4,Pend.repow i k⟩
theorem Pend.snoc{l:List Keyed}(hl:0<l.length)(hs:l.Pairwise fun x y=>f x≤f y):∀{ps:List (Nat×Nat×Nat)} {zw:List (List Keyed)} {s:Nat},Pend f ps zw s->∀{m:Nat},m=s+zw.flatten.length->Pend f (ps++[(m,l.length,0)]) (zw++[l]) s
 |[],[],_,_,m,e=>⟨by simpa using e,rfl,hl,hs,trivial⟩
 |_::_,[],_,h,_,_=>h.elim
 |[],_::_,_,h,_,_=>h.elim
 |(_,_,_)::ps,l'::ls,s,h,m,e=>by
  obtain⟨h1,h2,h3,h4,k⟩:=h;exact⟨h1,h2,h3,h4,Pend.snoc hl hs k (by rw[e];simp;omega)⟩
theorem ayb{α:Type}{l:List α}{i:Nat}(h:i+1<l.length):l=l.take i++l[i]::l[i+1]::l.drop (i+2):=by
 rw[<-BJ h,<-BJ (by omega),Bd]
theorem amh(O:Ord prog w A s κ Ok f){st:SortSt}{zw:List (List Keyed)}{rest:List Keyed}{i:Nat}{Q:Bool->SortSt->Prop}(G:Good κ Ok f st zw rest)(hi:i+1<zw.length)
 (q:∀st' segs',Good κ Ok f st' segs' rest->segs'.flatten.Perm zw.flatten->segs'.length+1=zw.length->Q true st'):wpS (model prog w) A E s (mergeAt' i) Q st:=by
 have e:=ayb hi;have li:(zw.take i).length=i:=by simp;omega
 rw[e] at G;have pf:∀C:List Keyed,C.Perm (zw[i]++zw[i+1])->(zw.take i++C::zw.drop (i+2)).flatten.Perm zw.flatten:=fun C pC=>by
  have e2:zw.flatten=(zw.take i++zw[i]::zw[i+1]::zw.drop (i+2)).flatten:=BA List.flatten e;rw[e2,CB,CB,Cr,Cr,Cr];refine(Bo _).mpr ?_;rw[<-Ay];exact(Bc _).mpr pC
 have:=arb O (E:=E) (Q:=Q) G fun st' C G' pC=>q st' _ G' (pf C pC) (by simp;omega);rw[li] at this;exact this
theorem Good.push{st:SortSt}{zw:List (List Keyed)}{rest:List Keyed}{n:Nat}(G:Good κ Ok f st zw rest)(hn:n≤rest.length)(h1:1≤n)(U:Up f rest n):Good κ Ok f (setPending st ((pendingOf st).push (zw.flatten.length,n,0))) (zw++[rest.take n]) (rest.drop n):=by
 refine⟨G.kind,G.failed,?_,?_,G.ok⟩
 ·have:=G.arr;show(arrOf st).toList=_;rw[this,CB,Ay];simp
 ·show Pend f ((pendingOf st).push _).toList _ 0;rw[Cq];have:=Pend.snoc (l:=rest.take n) (by simp;omega) (U.pair hn) G.pend (m:=zw.flatten.length) (by omega);rw[show(rest.take n).length=n by simp;omega] at this;exact this
theorem Good.repow{st:SortSt}{zw:List (List Keyed)}{rest:List Keyed}{i w:Nat}(G:Good κ Ok f st zw rest):Good κ Ok f (setPending st ((pendingOf st).modify i fun p=>(p.1,p.2.1,w))) zw rest:=by
 refine⟨G.kind,G.failed,G.arr,?_,G.ok⟩;show Pend f ((pendingOf st).modify i fun p=>(p.1,p.2.1,w)).toList _ 0;rw[Array.toList_modify];exact G.pend.repow i
theorem Good.set{st:SortSt}{zw:List (List Keyed)}{rest R:List Keyed}{arr:Array Keyed}(G:Good κ Ok f st zw rest)(p:R.Perm rest)(e:arr.toList=zw.flatten++R):Good κ Ok f (setArr st arr) zw R:=
 ⟨G.kind,G.failed,e,G.pend,fun x hx=>G.ok x (by
  have hx:x∈arr.toList:=hx;rw[e] at hx;rw[G.arr];rcases Al.mp hx with h | h
  ·exact Aw _ h
  ·exact Ag _ (p.mem_iff.mp h))⟩
theorem atw(O:Ord prog w A s κ Ok f){st:SortSt}{Q:Unit->SortSt->Prop}(hk:kindOf st=κ)(hp:pendingOf st=#[])(hf:failedOf st=none)(ok:∀x∈(arrOf st).toList,Ok x)(inj:((arrOf st).toList.map f).Nodup)
 (q:∀st',failedOf st'=none->(arrOf st').toList.Perm (arrOf st).toList->((arrOf st').toList.Pairwise fun x y=>f x≤f y)->Q () st'):wpS (model prog w) A E s sortRuns' Q st:=by
 refine Ab (wpS_get ?_);dsimp only;have G0:Good κ Ok f st [] (arrOf st).toList:=⟨hk,hf,rfl,by rw[hp];trivial,ok⟩;obtain⟨N,eN⟩:∃N,N=(arrOf st).size:=⟨_,rfl⟩;rw[<-eN];generalize hmr:(sortPriv% PySem.Builtin.minRun) N N 0=mr;refine Ab (AQ (AH (I:=fun x c st'=>∃zw rest lo,c=(none,lo)/\Good κ Ok f st' zw rest/\lo=zw.flatten.length/\(zw.flatten++rest).Perm (arrOf st).toList/\x≤lo)
  (Q:=fun c st'=>∃zw lo,c=(none,lo)/\Good κ Ok f st' zw []/\zw.flatten.Perm (arrOf st).toList) ?_ ?_ ⟨[],(arrOf st).toList,0,rfl,G0,rfl,BG _,An _⟩) ?_)
 ·rintro x c st' _ hx ⟨zw,rest,lo,rfl,G,elo,pm,hxl⟩;dsimp only;have lt:zw.flatten.length+rest.length=N:=by have h1:=pm.length_eq;have h2:(arrOf st).toList.length=(arrOf st).size:=AJ;rw[Ad] at h1;omega
  by_cases c:lo≥N
  ·rw[AB c];have:rest=[]:=Cg (by omega);subst this;exact Ac ⟨zw,lo,rfl,G,by simpa using pm⟩
  rw[Ax c];subst elo;have er:N - zw.flatten.length=rest.length:=by omega
  rw[er];have T:Tl κ Ok st' zw.flatten rest:=⟨G.kind,G.arr,fun x hx=>G.ok x (by rw[G.arr];exact Ag _ hx)⟩;have nd:(rest.map f).Nodup:=by
   have h2:=(pm.map f).nodup_iff.mpr inj;rw[AG,AI] at h2;exact h2.2.1
  have inj':∀i j (_:i<j) (_:j<rest.length),f (rest[i]'(by omega))≠f rest[j]:=fun i j hij hj e=>by
   have h2:=BW.mp nd i j (by simp;omega) (by simpa using hj) hij;simp at h2;exact h2 e
  refine Ab (aw9 O T (by omega) inj' fun n R1 arr1 g1 g2 pR1 eA1 U1=>?_);dsimp only;have T1:=T.same pR1 eA1;have G1:=G.set pR1 eA1;have l1:R1.length=rest.length:=pR1.length_eq
  by_cases cm:n<mr
  case' pos=>
   rw[AB cm];refine Ab (wpS_lift (Bl ⟨rfl,?_⟩));refine Ab (a1c O T1 (by omega) g1 (by omega) U1 fun R2 arr2 pR2 eA2 U2=>?_);rw[Ax (by simp)];have G2:=G1.set pR2 eA2;obtain⟨n2,en2⟩:∃n2,n2=min rest.length mr:=⟨_,rfl⟩;rw[<-en2] at U2 ⊢;have p2:R2.Perm rest:=pR2.trans pR1;have k1:1≤n2:=by omega
   have k2:n2≤rest.length:=by omega
   obtain⟨st2,es2⟩:∃st2,st2=setArr (setArr st' arr1) arr2:=⟨_,rfl⟩;rw[<-es2] at G2 ⊢
  case' neg=>
   rw[Ax cm];have G2:=G1;obtain⟨n2,en2⟩:∃n2,n2=n:=⟨_,rfl⟩;obtain⟨R2,eR2⟩:∃R2,R2=R1:=⟨_,rfl⟩;rw[<-en2] at U1 ⊢;rw[<-eR2] at G2;have U2:Up f R2 n2:=by rw[eR2];exact U1
   have p2:R2.Perm rest:=by rw[eR2];exact pR1
   have k1:1≤n2:=by omega
   have k2:n2≤rest.length:=by omega
   obtain⟨st2,es2⟩:∃st2,st2=setArr st' arr1:=⟨_,rfl⟩;rw[<-es2] at G2 ⊢
  all_goals
   have l2:R2.length=rest.length:=p2.length_eq;have fin:∀(st3:SortSt) (segs3:List (List Keyed)),Good κ Ok f st3 segs3 R2->segs3.flatten.Perm zw.flatten->∃segs' rest' lo',((none,zw.flatten.length+n2):Option Unit×Nat)=(none,lo')/\Good κ Ok f (setPending st3 ((pendingOf st3).push (zw.flatten.length,n2,0))) segs' rest'/\lo'=segs'.flatten.length/\(segs'.flatten++rest').Perm (arrOf st).toList/\x+1≤lo':=fun st3 segs3 G3 p3=>by
    have G4:=G3.push (by omega) k1 U2;rw[p3.length_eq] at G4;refine⟨_,_,_,rfl,G4,?_,?_,by omega⟩
    ·rw[CB,Ad,p3.length_eq];simp;omega
    ·have:(segs3++[R2.take n2]).flatten++R2.drop n2=segs3.flatten++R2:=by simp
     rw[this];exact((Bc R2).mpr p3).trans (((Bo _).mpr p2).trans pm)
   refine Ab (wpS_get ?_)
   split
   ·refine Ab (AQ (AH (I:=fun y c st3=>c=(none,())/\∃segs3,Good κ Ok f st3 segs3 R2/\segs3.flatten.Perm zw.flatten)
     (Q:=fun c st3=>c=(none,())/\∃segs3,Good κ Ok f st3 segs3 R2/\segs3.flatten.Perm zw.flatten) ?_ ?_ ⟨rfl,zw,G2,BG _⟩) ?_)
    ·rintro y c st3 _ hy ⟨rfl,segs3,G3,p3⟩;have pl:=G3.pend.len.1;have pl2:(pendingOf st3).size=segs3.length:=by rw[<-pl,AJ]
     refine Ab (wpS_get ?_)
     by_cases cs:(pendingOf st3).size > 1
     ·rw[AB cs]
      split
      ·split
       ·exact Ac ⟨rfl,segs3,G3,p3⟩
       ·refine Ab (amh O G3 (by show(pendingOf st3).size - 2+1<segs3.length;omega) fun st4 segs4 G4 p4 l4=>?_);rw[Ax (by simp)];exact Ac ⟨rfl,segs4,G4,p4.trans p3⟩
      ·exact Ac ⟨rfl,segs3,G3,p3⟩
     ·rw[Ax cs];exact Ac ⟨rfl,segs3,G3,p3⟩
    ·rintro c st3 h;exact h
    ·rintro c st3 ⟨rfl,segs3,G3,p3⟩;dsimp only;refine Ab (wpS_modify (Ab (wpS_modify (Ac ?_))));exact fin _ segs3 G3.repow p3
   ·exact Ab (wpS_modify (Ac (fin st2 zw G2 (BG _))))
 ·rintro c st' ⟨zw,rest,lo,rfl,G,elo,pm,hxl⟩;have lt:zw.flatten.length+rest.length=N:=by have h1:=pm.length_eq;have h2:(arrOf st).toList.length=(arrOf st).size:=AJ;rw[Ad] at h1;omega
  have:rest=[]:=Cg (by omega);subst this;exact⟨zw,lo,rfl,G,by simpa using pm⟩
 ·rintro c st' ⟨zw,lo,rfl,G,pm⟩;dsimp only;have ls:zw.length≤N:=by
   have h1:=G.pend.len.2;have h3:=pm.length_eq;have h2:(arrOf st).toList.length=(arrOf st).size:=AJ;omega
  refine Ab (AQ (AH (I:=fun y c st3=>c=(none,())/\∃segs3,Good κ Ok f st3 segs3 []/\segs3.flatten.Perm (arrOf st).toList/\segs3.length+y≤N)
   (Q:=fun c st3=>c=(none,())/\∃segs3,Good κ Ok f st3 segs3 []/\segs3.flatten.Perm (arrOf st).toList/\segs3.length≤1) ?_ ?_ ⟨rfl,zw,G,pm,by omega⟩) ?_)
  ·rintro y c st3 _ hy ⟨rfl,segs3,G3,p3,h3⟩;have pl:=G3.pend.len.1;have pl2:(pendingOf st3).size=segs3.length:=by rw[<-pl,AJ]
   refine Ab (wpS_get ?_)
   by_cases cs:(pendingOf st3).size≤1
   ·rw[AB cs];exact Ac ⟨rfl,segs3,G3,p3,by omega⟩
   ·rw[Ax cs];refine Ab (amh O G3 ?_ fun st4 segs4 G4 p4 l4=>?_)
    ·have gen:∀b:Bool,(if b=true then(pendingOf st3).size - 2 - 1 else(pendingOf st3).size - 2)+1<segs3.length:=fun b=>by
      cases b with
      |true=>rw[AB rfl];omega
      |false=>rw[Ax (by simp)];omega
     exact gen _
    ·rw[Ax (by simp)];exact Ac ⟨rfl,segs4,G4,p4.trans p3,by omega⟩
  ·rintro c st3 ⟨rfl,segs3,G3,p3,h3⟩;exact⟨rfl,segs3,G3,p3,by omega⟩
  ·rintro c st3 ⟨rfl,segs3,G3,p3,h3⟩;refine Ac (q st3 G3.failed ?_ ?_)
   ·rw[G3.arr,AR];exact p3
   ·rw[G3.arr,AR]
    match segs3,h3,G3.pend with
    |[],_,_=>simp
    |[l],_,h=>
     rw[Cr,List.flatten_nil,AR];cases hps:(pendingOf st3).toList with
     |nil=>rw[hps] at h;exact h.elim
     |cons p ps=>
      rw[hps] at h;obtain⟨p1,p2,p3⟩:=p;exact h.2.2.2.1
end
open PySem PyProof.Rows PySem.W
def a0g(h:Heap)(B:Int)(x:Keyed):Prop:=∃a o n r p t u,x.1=.ref a/\h.get? a=some o/\o.data=.seq #[.int r t,.int p u] n/\0≤p/\p<B
noncomputable def num(h:Heap)(B:Int)(x:Keyed):Int:=match x.1 with
 |.ref a=>match h.get? a with
  |some o=>match o.data with
   |.seq xs _=>match xs.toList with
    |[.int r _,.int p _]=>r*B+p
    |_=>0
   |_=>0
  |none=>0
 |_=>0
theorem num_of{h:Heap}{B:Int}{x:Keyed}{a:Addr}{o:Obj}{n:Nat}{r p:Int}{t u:Tok}(e1:x.1=.ref a)(e2:h.get? a=some o)(e3:o.data=.seq #[.int r t,.int p u] n):num h B x=r*B+p:=by
 unfold num;simp[e1,e2,e3]
theorem anj{prog:Program}{w:World}{A:Around}{s:Shared}{B:Int}:Ord prog w A s (tuples' true) (a0g s.heap B) (num s.heap B):=by
 constructor;rintro x y ⟨a1,o1,n1,r1,p1,t1,u1,e1,g1,d1,b1,c1⟩ ⟨a2,o2,n2,r2,p2,t2,u2,e2,g2,d2,b2,c2⟩ E Q h;rw[num_of e1 g1 d1,num_of e2 g2 d2] at h;rw[e1,e2];refine kat_lt g1 d1 g2 d2 ?_;show KatLex prog w A true _ Q [(.int r1 t1,.int r2 t2),(.int p1 u1,.int p2 u2)] 0 s;refine kat_cons (wpAny_eqBool_int ?_)
 by_cases c:r1=r2
 ·subst c;rw[beq_self_eq_true];refine kat_yes (kat_cons (wpAny_eqBool_int ?_))
  by_cases c':p1=p2
  ·subst c';rw[beq_self_eq_true];refine kat_yes (kat_nil ?_);have e:decide (r1*B+p1<r1*B+p1)=false:=Aq (by omega);rw[e] at h;exact h
  ·rw[DN c'];refine kat_no (kat_one _ _ (PyProof.Rows.lt_int ?_));have e:decide (r1*B+p1<r1*B+p2)=decide (p1<p2):=by
    by_cases z:p1<p2
    ·rw[AD z];exact AD (by omega)
    ·rw[Aq z];exact Aq (by omega)
   rw[e] at h;exact h
 ·rw[DN c];refine kat_no (oneLt_int ?_);have e:decide (r1*B+p1<r2*B+p2)=decide (r1<r2):=by
   by_cases z:r1<r2
   ·rw[AD z];have h5:(r1+1)*B≤r2*B:=Ce (by omega) (by omega);rw[Int.add_mul,Int.one_mul] at h5;exact AD (by omega)
   ·rw[Aq z];have h5:(r2+1)*B≤r1*B:=Ce (by omega) (by omega);rw[Int.add_mul,Int.one_mul] at h5;exact Aq (by omega)
  rw[e] at h;exact h
section
variable {prog:Program}{w:World}{A:Around}{E:Value->Shared->Prop}{s:Shared}
def TupP(h:Heap)(B:Int)(v:Value):Prop:=∃a o n r p t u,v=.ref a/\h.get? a=some o/\o.cls=.type "tuple" /\ o.data=.seq #[.int r t,.int p u] n/\0≤p/\p<B
theorem TupP.pair{h:Heap}{B:Int}{x:Keyed}(k:TupP h B x.1):a0g h B x:=by
 obtain⟨a,o,n,r,p,t,u,e1,e2,_,e3,e4,e5⟩:=k;exact⟨a,o,n,r,p,t,u,e1,e2,e3,e4,e5⟩
theorem tups{h:Heap}{B:Int}:∀{ks:List Value},(∀v∈ks,TupP h B v)->∃fs,KatTups h ks fs/\fs.length=ks.length/\∀v∈fs,∃r t,v=Value.int r t
 |[],_=>⟨[],trivial,rfl,fun v hv=>by simp at hv⟩
 |k::ks,hk=>by
  obtain⟨fs,h1,h2,h3⟩:=tups (ks:=ks) fun v hv=>hk v (Ai _ hv);obtain⟨a,o,n,r,p,t,u,rfl,e2,e3,e4,_,_⟩:=hk k (Av ..);refine⟨.int r t::fs,KatTups.cons e2 e3 e4 rfl h1,by simp[h2],fun v hv=>?_⟩;rcases As.mp hv with rfl | hv
  ·exact⟨r,t,rfl⟩
  ·exact h3 v hv
theorem as5{B:Int}{ks:List Value}{Q:SortKind->Shared->Prop}(hk:∀v∈ks,TupP s.heap B v)(h0:0<ks.length)(q:Q (tuples' true) s):wpAny (model prog w) A (keyKind' ks.toArray) Q E s:=by
 obtain⟨fs,h1,h2,h3⟩:=tups hk;refine kat_kind (T:=.type "int") h1 (by omega) (fun v hv=>?_) (by decide) ?_
 ·obtain⟨r,t,rfl⟩:=h3 v hv;exact .now
 ·exact q
theorem alh{α:Type}{R:α->α->Prop}:∀{l:List α},l.length<2->l.Pairwise R
 |[],_=>List.Pairwise.nil
 |[_],_=>List.pairwise_singleton _ _
 |_::_::_,h=>absurd h (by simp)
theorem a1q{a kS:Addr}{vs ks:List Value}{e e1:Nat}{B:Int}{P:PySem.Fin->Shared->Prop}(hkS:s.heap.get? kS=some (seqObj "list" ks.toArray e))(ha:s.heap.get? a=some (seqObj "list" #[] e1))(hka:kS≠a)(hl:ks.length=vs.length)(hz:vs.length≤sizeLine)
 (hk:∀v∈ks,TupP s.heap B v) (inj:((ks.zip vs).map (num s.heap B)).Nodup)
 (h:∀h' tk (xs:List Keyed) c,(∀b,b≠kS->b≠a->h'.get? b=s.heap.get? b)->h'.get? a=some (seqObj "list" (List.toArray (xs.map (·.2))) c)->xs.Perm (ks.zip vs)->(xs.Pairwise fun x y=>num s.heap B x≤num s.heap B y)->P (.done (.ret .none)) { s with heap:=h',toks:=tk }):
 wpAny (model prog w) A (ksk_end a false vs.toArray e1 (.ref kS) ks.toArray) P E s:=by
 have zl:(ks.toArray.zip vs.toArray).toList=ks.zip vs:=by simp
 have tail:∀st:SortSt,failedOf st=none->(arrOf st).toList.Perm (ks.zip vs)->((arrOf st).toList.Pairwise fun x y=>num s.heap B x≤num s.heap B y)->wpAny (model prog w) A (ksk_tail a false e1 (.ref kS) st) P E s:=by
  intro st hf hp hs;have s1:=Heap.SameBut.update s.heap kS (Obj.mapSeq fun _=>(#[]:Array Value));have na1:(s.heap.update kS (Obj.mapSeq fun _=>(#[]:Array Value))).get? a=some (seqObj "list" #[] e1):=(s1.2 a hka.symm).trans ha;have s2:=Heap.SameBut.update (s.heap.update kS (Obj.mapSeq fun _=>(#[]:Array Value))) a (Obj.mapSeq fun _=>(arrOf st).map (·.2));have len:((arrOf st).map (·.2)).size≤sizeLine:=by
   have:=hp.length_eq;rw[De,AJ] at this;rw[Array.size_map];omega
  unfold ksk_tail
  try dsimp only
  refine Aa (listUpdate_at hkS rfl ?_ (by rw[Ao];omega) (Bf _));refine Aa (wpAny_letGo ?_);refine Aa (seqEpoch_at na1 rfl ?_);refine Aa (listUpdate_at na1 rfl ?_ (Bf _) (by simp only[BS,if_false];exact Dw len));rw[hf];simp only[bne_self_eq_false,BS,if_false];obtain⟨c2,hc2⟩:∃c2,((s.heap.update kS (Obj.mapSeq fun _=>(#[]:Array Value))).update a (Obj.mapSeq fun _=>(arrOf st).map (·.2))).get? a=some (seqObj "list" ((arrOf st).map (·.2)) c2):=⟨_,get?_update_seq na1 fun _=>(arrOf st).map (·.2)⟩;refine Ah (h _ _ (arrOf st).toList c2 (fun b hb1 hb2=>?_) ?_ hp hs)
  ·exact(s2.2 b hb2).trans (s1.2 b hb1)
  ·have em:(arrOf st).map (·.2)=List.toArray ((arrOf st).toList.map (·.2)):=by
    apply Array.toList_inj.mp;rw[Array.toList_map]
   rw[em] at hc2 ⊢;exact hc2
 unfold ksk_end;simp only[BS,if_false]
 by_cases h2:vs.toArray.size<2
 ·rw[AB h2,AB h2];refine Aa (Ah ?_);rw[StateT.run_pure];refine Aa (Ah ?_);refine tail _ rfl (by show(ks.toArray.zip vs.toArray).toList.Perm _;rw[zl]) ?_;show(ks.toArray.zip vs.toArray).toList.Pairwise _;rw[zl];rw[Ao] at h2;have:(ks.zip vs).length<2:=by rw[De];omega
  exact alh this
 ·rw[Ax h2,Ax h2];rw[Ao] at h2;refine Aa (as5 hk (by omega) ?_);refine Aa (AV (atw (E:=E) (anj (B:=B)) (st:=SortSt.mk' (tuples' true) (ks.toArray.zip vs.toArray) #[] 7 none)
   (Q:=fun _ st'=>failedOf st'=none/\(arrOf st').toList.Perm (ks.zip vs)/\((arrOf st').toList.Pairwise fun x y=>num s.heap B x≤num s.heap B y)) rfl rfl rfl (fun x hx=>?_) ?_ fun st' b1 b2 b3=>⟨b1,?_,b3⟩) ?_ fun _ _ e=>e)
  ·have hx:x∈(ks.toArray.zip vs.toArray).toList:=hx;rw[zl] at hx;exact TupP.pair (hk _ (C9 (a:=x.1) (b:=x.2) hx).1)
  ·show((ks.toArray.zip vs.toArray).toList.map _).Nodup;rw[zl];exact inj
  ·have b2:(arrOf st').toList.Perm (ks.toArray.zip vs.toArray).toList:=b2;rw[zl] at b2;exact b2
  ·rintro⟨⟨⟩,st'⟩ s' ⟨rfl,b1,b2,b3⟩;exact tail st' b1 b2 b3
end
section
variable {prog:Program}{w:World}{A:Around}{E:Value->Shared->Prop}{s:Shared}
theorem TupP.ne{h:Heap}{B:Int}{v:Value}{a b:Addr}{xs:Array Value}{n:Nat}(k:TupP h B v)(e:v=.ref a)(hb:h.get? b=some (seqObj "list" xs n)):a≠b:=by
 obtain⟨a',o,m,r,p,t,u,e1,e2,e3,_⟩:=k;rw[e] at e1;cases e1;rintro rfl;rw[hb] at e2;cases e2;have e3:Value.type "list" = Value.type "tuple" := e3;injection e3 with e
 exact absurd e (by decide)
theorem TupP.keeps{h h':Heap}{B:Int}{v:Value}{b:Addr}{xs:Array Value}{n:Nat}(k:TupP h B v)(hb:h.get? b=some (seqObj "list" xs n))(hk:∀c o,c≠b->h.get? c=some o->h'.get? c=some o):TupP h' B v:=by
 have k0:=k;obtain⟨a,o,m,r,p,t,u,e1,e2,e3,e4,e5,e6⟩:=k;exact⟨a,o,m,r,p,t,u,e1,hk a o (k0.ne e1 hb) e2,e3,e4,e5,e6⟩
theorem ar8{h h':Heap}{B:Int}{x:Keyed}{b:Addr}{xs:Array Value}{n:Nat}(k:TupP h B x.1)(hb:h.get? b=some (seqObj "list" xs n))(hk:∀c o,c≠b->h.get? c=some o->h'.get? c=some o):num h' B x=num h B x:=by
 have k0:=k;obtain⟨a,o,m,r,p,t,u,e1,e2,e3,e4,e5,e6⟩:=k;rw[num_of e1 e2 e4,num_of e1 (hk a o (k0.ne e1 hb) e2) e4]
theorem abm{vs:List Value}{x:Keyed}(h:x∈vs.zip vs):x.1∈vs/\x.1=x.2:=by
 induction vs with
 |nil=>simp at h
 |cons v r ih=>
  rw[List.zip_cons_cons] at h;rcases As.mp h with rfl | h
  ·exact⟨Av ..,rfl⟩
  ·exact⟨Ai _ (ih h).1,(ih h).2⟩
theorem avo{a:Addr}{vs:List Value}{n:Nat}{B:Int}{P:PySem.Fin->Shared->Prop}(ho:s.heap.get? a=some (seqObj "list" vs.toArray n))(hz:vs.length≤100000)(hk:∀v∈vs,TupP s.heap B v)(inj:((vs.zip vs).map (num s.heap B)).Nodup)
 (h:∀h' tk (xs:List Keyed) c,(∀b o,b≠a->s.heap.get? b=some o->h'.get? b=some o)->h'.get? a=some (seqObj "list" (List.toArray (xs.map (·.2))) c)->xs.Perm (vs.zip vs)->(xs.Pairwise fun x y=>num s.heap B x≤num s.heap B y)->P (.done (.ret .none)) { s with heap:=h',toks:=tk }):
 wpAny (model prog w) A (Builtin.«list.sort» ⟨[.ref a],[]⟩) P E s:=by
 have big:(100000:Nat)+1≤sizeLine:=by rw[sizeLine_eq];omega
 have zl:(vs.toArray.zip vs.toArray).toList=vs.zip vs:=by simp
 have s1:=Heap.SameBut.update s.heap a (Obj.mapSeq fun _=>(#[]:Array Value));obtain⟨e1,ho1⟩:∃e1,(s.heap.update a (Obj.mapSeq fun _=>(#[]:Array Value))).get? a=some (seqObj "list" #[] e1):=⟨_,get?_update_seq ho fun _=>#[]⟩;obtain⟨hp3,ehp3⟩:∃g,g=((s.heap.update a (Obj.mapSeq fun _=>(#[]:Array Value))).push (seqObj "tuple" vs.toArray 0)).push (seqObj "list" #[] 0):=⟨_,rfl⟩;have k3:∀b o,b≠a->s.heap.get? b=some o->hp3.get? b=some o:=fun b o hb e=>by
  rw[ehp3];exact Heap.get?_push_of_some _ (Heap.get?_push_of_some _ ((s1.2 b hb).trans e))
 have ha3:hp3.get? a=some (seqObj "list" #[] e1):=by
  rw[ehp3];exact Heap.get?_push_of_some _ (Heap.get?_push_of_some _ ho1)
 have hk3:∀v∈vs,TupP hp3 B v:=fun v hv=>(hk v hv).keeps ho k3;have nk:∀x∈vs.zip vs,num hp3 B x=num s.heap B x:=fun x hx=>ar8 (hk _ (abm hx).1) ho k3;have inj3:((vs.zip vs).map (num hp3 B)).Nodup:=by
  rw[CC nk];exact inj
 have tail:∀st:SortSt,failedOf st=none->(arrOf st).toList.Perm (vs.zip vs)->((arrOf st).toList.Pairwise fun x y=>num hp3 B x≤num hp3 B y)->
  ∀tk,P (.done (.ret .none)) { s with heap:=hp3.update a (Obj.mapSeq fun _=>(arrOf st).map (·.2)),toks:=tk }:=by
  intro st hf hp hs tk;have s2:=Heap.SameBut.update hp3 a (Obj.mapSeq fun _=>(arrOf st).map (·.2));obtain⟨c2,hc2⟩:∃c2,(hp3.update a (Obj.mapSeq fun _=>(arrOf st).map (·.2))).get? a=some (seqObj "list" ((arrOf st).map (·.2)) c2):=⟨_,get?_update_seq ha3 fun _=>(arrOf st).map (·.2)⟩;have em:(arrOf st).map (·.2)=List.toArray ((arrOf st).toList.map (·.2)):=by
   apply Array.toList_inj.mp;rw[Array.toList_map]
  refine h _ tk (arrOf st).toList c2 (fun b o hb e=>(s2.2 b hb).trans (k3 b o hb e)) ?_ hp ?_
  ·rw[em] at hc2 ⊢;exact hc2
  ·refine B7 (fun {x y} hx hy z=>?_) hs;rw[nk x (hp.mem_iff.mp hx),nk y (hp.mem_iff.mp hy)] at z;exact z
 have len:∀st:SortSt,(arrOf st).toList.Perm (vs.zip vs)->((arrOf st).map (·.2)).size≤sizeLine+1:=fun st hp=>by
  have:=hp.length_eq;rw[De,AJ] at this;rw[Array.size_map];omega
 rw[list_sort_plain];refine Aa (listItems_at ho rfl ?_);refine Aa (listUpdate_at ho rfl ?_ (by rw[Ao];omega) (Bf _));refine Aa (seqEpoch_at ho1 rfl ?_);refine Aa (wpAny_newTuple ?_ (by show vs.length≤_;omega));refine Aa (wpAny_newList ?_ (Bf _));refine A7 ?_;show wpAny (model prog w) A _ P E { s with heap:=((s.heap.update a (Obj.mapSeq fun _=>(#[]:Array Value))).push (seqObj "tuple" vs.toArray 0)).push (seqObj "list" #[] 0) };rw[<-ehp3];dsimp only
 by_cases h2:vs.toArray.size<2
 ·rw[AB h2,AB h2];refine Aa (Ah ?_);rw[StateT.run_pure];refine Aa (Ah ?_);dsimp only;refine Aa (seqEpoch_at ha3 rfl ?_);have pz:(arrOf (SortSt.mk' (tuples' true) (vs.toArray.zip vs.toArray) #[] 7 none)).toList.Perm (vs.zip vs):=by show(vs.toArray.zip vs.toArray).toList.Perm _;rw[zl]
  refine Aa (listUpdate_at ha3 rfl ?_ (Bf _) (len _ pz));simp only[bne_self_eq_false,BS,if_false];refine Ah (tail (SortSt.mk' (tuples' true) (vs.toArray.zip vs.toArray) #[] 7 none) rfl pz ?_ _);show(vs.toArray.zip vs.toArray).toList.Pairwise _;rw[zl];rw[Ao] at h2;have:(vs.zip vs).length<2:=by rw[De];omega
  exact alh this
 ·rw[Ax h2,Ax h2];rw[Ao] at h2;refine Aa (as5 (s:={ s with heap:=hp3 }) hk3 (by omega) ?_);refine Aa (AV (atw (E:=E) (anj (s:={ s with heap:=hp3 }) (B:=B)) (st:=SortSt.mk' (tuples' true) (vs.toArray.zip vs.toArray) #[] 7 none)
   (Q:=fun _ st'=>failedOf st'=none/\(arrOf st').toList.Perm (vs.zip vs)/\((arrOf st').toList.Pairwise fun x y=>num hp3 B x≤num hp3 B y)) rfl rfl rfl (fun x hx=>?_) ?_ fun st' b1 b2 b3=>⟨b1,?_,b3⟩) ?_ fun _ _ e=>e)
  ·have hx:x∈(vs.toArray.zip vs.toArray).toList:=hx;rw[zl] at hx;exact TupP.pair (hk3 _ (abm hx).1)
  ·show((vs.toArray.zip vs.toArray).toList.map _).Nodup;rw[zl];exact inj3
  ·have b2:(arrOf st').toList.Perm (vs.toArray.zip vs.toArray).toList:=b2;rw[zl] at b2;exact b2
  ·rintro⟨⟨⟩,st'⟩ s' ⟨rfl,b1,b2,b3⟩;dsimp only;refine Aa (seqEpoch_at ha3 rfl ?_);refine Aa (listUpdate_at ha3 rfl ?_ (Bf _) (len _ b2));rw[b1];simp only[bne_self_eq_false,BS,if_false];exact Ah (tail st' b1 b2 b3 _)
theorem w_sorted{l:Addr}{vs:List Value}{B:Int}{Q:Value->Shared->Prop}(hl:s.heap.IsList l vs.toArray)(hz:vs.length≤100000)(hk:∀v∈vs,TupP s.heap B v)(inj:((vs.zip vs).map (num s.heap B)).Nodup)
 (h:∀h' tk (xs:List Keyed) D c,s.heap.objs.size≤D->(∀b o,s.heap.get? b=some o->h'.get? b=some o)->h'.get? D=some (seqObj "list" (List.toArray (xs.map (·.2))) c)->xs.Perm (vs.zip vs)->(xs.Pairwise fun x y=>num s.heap B x≤num s.heap B y)->Q (.ref D) { s with heap:=h',toks:=tk }):
 wpAny (model prog w) A (call (.builtin "sorted") [.ref l]) Q E s:=by
 have big:(100000:Nat)+1≤sizeLine:=by rw[sizeLine_eq];omega
 refine Calls.call_function_entry kind_sorted plain_sorted entry_sorted (args_sorted1 _) ?_;unfold Builtin.«sorted»;refine Aa (m:=checkCount "sorted" 1 1 _) (Ah ?_);refine Aa (collect_list hl ?_ (by omega));refine Aa (wpAny_newList ?_ (by omega));obtain⟨g,eg⟩:∃g,g=(s.heap.push (seqObj "list" #[] 0)).update s.heap.objs.size (Obj.mapSeq (· ++ vs.toArray)):=⟨_,rfl⟩;have gs:g.objs.size=s.heap.objs.size+1:=by rw[eg,Heap.size_update,size_push']
 have gk:∀b o,s.heap.get? b=some o->g.get? b=some o:=fun b o q=>by
  have hlt:b<s.heap.objs.size:=Heap.lt_size q;rw[eg,Heap.get?_update_ne _ _ _ _ (A3 hlt)];exact Heap.get?_push_of_some _ q
 show wpAny _ _ _ _ _ { s with heap:=((s.heap.push (seqObj "list" #[] 0)).update s.heap.objs.size (Obj.mapSeq (· ++ vs.toArray))).push (seqObj "list" vs.toArray 0) };rw[<-eg];have hoD:(g.push (seqObj "list" vs.toArray 0)).get? g.objs.size=some (seqObj "list" vs.toArray 0):=Heap.get?_push_size _ rfl;have keep:∀b o,s.heap.get? b=some o->(g.push (seqObj "list" vs.toArray 0)).get? b=some o:=fun b o q=>Heap.get?_push_of_some _ (gk b o q);have kT:∀v∈vs,TupP (g.push (seqObj "list" vs.toArray 0)) B v:=fun v hv=>by
  obtain⟨a,o,m,r,p,t,u,e1,e2,r'⟩:=hk v hv;exact⟨a,o,m,r,p,t,u,e1,keep _ _ e2,r'⟩
 have nk:∀x∈vs.zip vs,num (g.push (seqObj "list" vs.toArray 0)) B x=num s.heap B x:=fun x hx=>by
  obtain⟨a,o,m,r,p,t,u,e1,e2,e3,e4,_⟩:=hk _ (abm hx).1;rw[num_of e1 e2 e4,num_of e1 (keep _ _ e2) e4]
 refine Aa (A7 (wpAny_call_entry slot_list_sort ⟨_,hoD,rfl⟩ entry_list_sort ?body (args_list_sort _)))
 case body=>
  refine avo (s:={ s with heap:=g.push (seqObj "list" vs.toArray 0) }) hoD hz kT (by rw[CC nk];exact inj) fun h' tk xs c k1 hD pm pw=>?_;refine⟨_,rfl,Ah ⟨_,rfl,h h' tk xs g.objs.size c (by rw[gs];exact Cs _) (fun b o q=>k1 b o ?_ (keep b o q)) hD pm ?_⟩⟩
  ·have hlt:b<s.heap.objs.size:=Heap.lt_size q;intro z;rw[z,gs] at hlt;exact Nat.not_succ_lt_self hlt
  ·refine B7 (fun {x y} hx hy z=>?_) pw;rw[nk x (pm.mem_iff.mp hx),nk y (pm.mem_iff.mp hy)] at z;exact z
end
end TS
namespace L2
open PySem PySem.Spec PyProof.Rows
theorem ajo{α β:Type}(f:α->β):∀{l m:List β},l.Perm m->∀{T:List α},T.map f=m->∃T':List α,T'.Perm T/\T'.map f=l:=by
 intro l m p
 induction p with
 |nil=>intro T e;exact⟨T,BG _,e⟩
 |cons x _ ih=>
  intro T e;cases T with
  |nil=>cases e
  |cons t r=>
   rw[AE] at e;obtain⟨e1,e2⟩:=CD e;obtain⟨T',p',e'⟩:=ih e2;exact⟨t::T',p'.cons t,by rw[AE,e',e1]⟩
 |swap x y l=>
  intro T e
  match T,e with
  |t::u::r,e=>
   rw[AE,AE] at e;obtain⟨e1,e2⟩:=CD e;obtain⟨e3,e4⟩:=CD e2;exact⟨u::t::r,List.Perm.swap t u r,by rw[AE,AE,e1,e3,e4]⟩
 |trans _ _ ih1 ih2=>
  intro T e;obtain⟨T1,p1,e1⟩:=ih2 e;obtain⟨T2,p2,e2⟩:=ih1 e1;exact⟨T2,p2.trans p1,e2⟩
theorem adj{α β γ:Type}{R:β->γ->Prop}{g:α->β}{h:α->γ}:∀{T:List α},(∀t∈T,R (g t) (h t))->Paired R (T.map g) (T.map h)
 |[],_=>.nil
 |t::_,k=>.cons (k t (Av ..)) (adj fun u hu=>k u (Ai _ hu))
theorem adt{α β γ:Type}{R:α->β->Prop}{S:α->γ->Prop}:∀{xs:List α} {ys:List β} {zs:List γ},Paired R xs ys->Paired S xs zs->∃T:List (α×β×γ),T.map (·.1)=xs/\T.map (fun t=>t.2.1)=ys/\T.map (fun t=>t.2.2)=zs/\∀t∈T,R t.1 t.2.1/\S t.1 t.2.2
 |_,_,_,.nil,.nil=>⟨[],rfl,rfl,rfl,fun t ht=>by cases ht⟩
 |_,_,_,.cons (a:=x) (b:=y) r p,.cons (b:=z) q p'=>by
  obtain⟨T,e1,e2,e3,k⟩:=adt p p';refine⟨(x,y,z)::T,by rw[AE,e1],by rw[AE,e2],by rw[AE,e3],fun t ht=>?_⟩;rcases As.mp ht with rfl | ht
  ·exact⟨r,q⟩
  ·exact k t ht
theorem acn{α β:Type}{f:α->β}:∀{l:List α},(∀x∈l,∀y∈l,f x=f y->x=y)->l.Nodup->(l.map f).Nodup
 |[],_,_=>Dp
 |a::r,h,n=>by
  obtain⟨n1,n2⟩:=Au.mp n;rw[AE];refine Au.mpr ⟨fun z=>?_,acn (fun x hx y hy=>h x (Ai _ hx) y (Ai _ hy)) n2⟩;obtain⟨y,hy,e⟩:=BH.mp z;have:=h y (Ai _ hy) a (Av ..) e;exact n1 (this▸hy)
def amg(p q:Int×Int):Prop:=p.1<q.1\/(p.1=q.1/\p.2≤q.2)
abbrev ape(K:Af)(H:Hp)(v:V)(p:Int×Int):Prop:=∃a,v=.ref a/\SqT K H a [.int p.1,.int p.2]
theorem ao4{B:Int}{p q:Int×Int}(hp:0≤p.2/\p.2<B)(hq:0≤q.2/\q.2<B)(h:p.1*B+p.2≤q.1*B+q.2):amg p q:=by
 unfold amg
 by_cases c:p.1<q.1
 ·exact .inl c
 ·right
  by_cases d:q.1<p.1
  ·have h5:(q.1+1)*B≤p.1*B:=Ce (by omega) (by omega);rw[Int.add_mul,Int.one_mul] at h5;omega
  ·have e:p.1=q.1:=by omega
   rw[e] at h;exact⟨e,by omega⟩
theorem avx{B:Int}{p q:Int×Int}(hp:0≤p.2/\p.2<B)(hq:0≤q.2/\q.2<B)(h:p.1*B+p.2=q.1*B+q.2):p=q:=by
 have h1:=ao4 hp hq (by omega);have h2:=ao4 hq hp (by omega);unfold amg at h1 h2;have e1:p.1=q.1:=by omega
 have e2:p.2=q.2:=by omega
 exact DS e1 e2
section
variable {X:Cx}
def azz(X:Cx):List V->Hp->VK->Prop:=fun xs H Q=>∃l ys ps,xs=[.ref l]/\SqL X.K H l ys/\Paired (ape X.K H) ys ps/\(∀p∈ps,0≤p.2/\p.2<1000000)/\ps.Nodup/\ys.length≤100000/\
 ∀D zs qs,H D=none->Paired (ape X.K H) zs qs->qs.Perm ps->qs.Pairwise amg->Q (.ref D) (upd H D (.lst zs))
theorem anu:CallR X (.builtin "sorted") (azz X):=by
 intro pins s σ H xs us Q I r h;obtain⟨l,ys,ps,rfl,hl,pr,hb,hnd,hlen,q⟩:=h;obtain⟨u,rfl,ru⟩:=r.one;cases (show u=Value.ref l from ru);obtain⟨its,rv,pl,hz⟩:=I.list hl;have l1:ys.length=its.length:=rv.length;obtain⟨T,e1,e2,e3,kT⟩:=adt rv pr;have kT2:∀t∈T,(∃a o n t1 t2,t.2.1=Value.ref a/\s.heap.get? a=some o/\o.cls=.type "tuple" /\ o.data=.seq #[.int t.2.2.1 t1,.int t.2.2.2 t2] n)/\0≤t.2.2.2/\t.2.2.2<1000000:=fun t ht=>by
  obtain⟨r1,a,ea,hs⟩:=kT t ht;obtain⟨its2,rv2,⟨o,g1,g2,n,g3⟩,_⟩:=I.tuple hs;obtain⟨w1,w2,rfl,x1,x2⟩:=rv2.two;obtain⟨t1,rfl⟩:=(show ∃t1,w1=Value.int t.2.2.1 t1 from x1);obtain⟨t2,rfl⟩:=(show ∃t2,w2=Value.int t.2.2.2 t2 from x2);rw[ea] at r1;refine⟨⟨a,o,n,t1,t2,r1,g1,g2,g3⟩,?_⟩;exact hb _ (by rw[<-e3];exact B9 (f:=fun t:V×Value×(Int×Int)=>t.2.2) ht)
 have nT:∀t∈T,TS.num s.heap 1000000 (t.2.1,t.2.1)=t.2.2.1*1000000+t.2.2.2:=fun t ht=>by
  obtain⟨⟨a,o,n,t1,t2,g0,g1,g2,g3⟩,_⟩:=kT2 t ht;exact TS.num_of g0 g1 g3
 have ez:its.zip its=T.map fun t=>(t.2.1,t.2.1):=by
  rw[<-e2,List.zip_map']
 have inj:((its.zip its).map (TS.num s.heap 1000000)).Nodup:=by
  rw[ez,BI];have e4:T.map (TS.num s.heap 1000000∘fun t=>(t.2.1,t.2.1))=(T.map fun t=>t.2.2).map fun p:Int×Int=>p.1*1000000+p.2:=by
   rw[BI];exact CC fun t ht=>nT t ht
  rw[e4,e3];exact acn (fun x hx y hy e=>avx (hb x hx) (hb y hy) e) hnd
 refine ji I.tk (TS.w_sorted (B:=1000000) pl.isList (by rw[<-l1];exact hlen) (fun v hv=>?_) inj fun h' tk ks D c hD hk hg pm pw ht=>?_)
 ·rw[<-e2] at hv;obtain⟨t,ht,rfl⟩:=BH.mp hv;obtain⟨⟨a,o,n,t1,t2,g0,g1,g2,g3⟩,b1,b2⟩:=kT2 t ht;exact⟨a,o,n,_,_,t1,t2,g0,g1,g2,g3,b1,b2⟩
 ·rw[ez] at pm;obtain⟨T',pT,eT⟩:=ajo _ pm rfl;subst eT;have mT:∀t,t∈T'->t∈T:=fun t=>pT.mem_iff.mp;have pw':=B4.mp pw;refine⟨.ref D,_,I.laid (t':=tk) (o:=.lst (T'.map (·.1))) hk hD ?_,rfl,q D (T'.map (·.1)) (T'.map fun t=>t.2.2) (I.hok.fresh hD) (adj fun t ht=>(kT t (mT t ht)).2) ?_ ?_⟩
  ·refine⟨?_,T'.map (fun t=>t.2.1),c,adj fun t ht=>(kT t (mT t ht)).1,?_⟩
   ·rw[Ae,pT.length_eq];have:T.length=ys.length:=by rw[<-e1,Ae]
    rw[this];exact hz
   ·rw[hg,BI];rfl
  ·rw[<-e3];exact pT.map _
  ·refine B4.mpr (B7 (fun {x y} hx hy z=>?_) pw');rw[nT x (mT x hx),nT y (mT y hy)] at z;exact ao4 (kT2 x (mT x hx)).2 (kT2 y (mT y hy)).2 z
end
end L2
namespace L3
open PySem L2
def prY(p:Int×Int):Y:=.tup [.int p.1,.int p.2]
theorem an6{G:G3}{H:Hp}:∀{ps:List (Int×Int)} {xs:List V},RVs G H (ps.map prY) xs->Paired (ape G.K H) xs ps
 |[],_,h=>by cases (show _=[] from h);exact .nil
 |p::r,_,⟨x,xs',e,⟨a,zs,ea,hs,z1,zs1,e1,rz1,z2,zs2,e2,rz2,e3⟩,s⟩=>by
  subst e ea e1 e2 e3;cases (show z1=V.int p.1 from rz1);cases (show z2=V.int p.2 from rz2);exact .cons ⟨a,rfl,hs⟩ (an6 s)
theorem aly{G:G3}{H:Hp}:∀{ps:List (Int×Int)} {xs:List V},Paired (ape G.K H) xs ps->RVs G H (ps.map prY) xs
 |_,_,.nil=>rfl
 |_,_,.cons ⟨a,ea,hs⟩ t=>by
  subst ea;exact⟨_,_,rfl,⟨a,_,rfl,hs,_,_,rfl,rfl,_,_,rfl,rfl,rfl⟩,aly t⟩
def abe(xs:List Y)(L:LHp)(Q:YK):Prop:=match xs with
 |[.ref a]=>ac7 L a fun ys=>∃ps:List (Int×Int),ys=ps.map prY/\(∀p∈ps,0≤p.2/\p.2<1000000)/\ps.Nodup/\ps.length≤100000/\∀(D:Addr) (qs:List (Int×Int)),L D=none->qs.Perm ps->qs.Pairwise amg->Q (.ref D) (qh L D (.lst (qs.map prY)))
 |_=>False
theorem ab7:bootBuiltins "sorted" = some (.builtin "sorted"):=by decide +kernel
theorem aen{X:Cx}:CallR X (.builtin "sorted") (upL X.g3 abe):=CallR.imp anu fun xs H Q ⟨ys,L,Q3,rv,rl,z,k⟩=>by
 unfold abe at z
 split at z
 ·rename_i a;obtain⟨zs,e,ps,rfl,hb,hnd,hlen,z⟩:=x8 z;obtain⟨vs,e2,r⟩:=rl a _ e;obtain⟨u,rfl,ru⟩:=rv.inv1;cases (show u=V.ref a from ru);have pr:=an6 r;exact⟨a,vs,ps,rfl,SqL.of e2,pr,hb,hnd,by rw[<-r.length,Ae];exact hlen,fun D zs qs hD pz pm pw=>k _ _ _ _ (TSt.new hD) (rl.newL hD (aly pz)) (by rfl) (z D qs (rl.none hD) pm pw)⟩
 ·exact z.elim
open PySem L2 Words
local macro_rules | `(tactic| walk_at "w")=>`(tactic| conv=>whnf)
def aam:Wd->Y
 |.leaf t n=>.tup [.str (kL t),.str n]
 |.node e l r=>.tup [.str (kN e),aam l,aam r]
def adb:Y:=(.tup [(.str "plain"),(.str "turned")])
theorem qp{α:Type}{L:LHp}{Q:α->LHp->Prop}{o:Option α}{v:α}(e:o=some v)(h:Q v L):atK L Q o:=by rw[e];exact h
def aji:TS3:=(jo (yOp (ahw false) (yOp yIx (qb 0) (yC (.int 0))) (yC adb)))
def kX:Bool->Bool->Str
 |true,t=>kL t
 |false,e=>kN e
def wn:Sp3:=fun ys L Q=>∃lf b rest,ys=[.tup (.str (kX lf b)::rest)]/\Q (.bl lf) L
theorem aqj(t:Bool):inV (.str (kL t)) [.str "plain",.str "turned"]=true:=by cases t<;>decide +kernel
theorem arj(t:Bool):inV (.str (kN t)) [.str "plain",.str "turned"]=false:=by cases t<;>decide +kernel
theorem aop:∀ys L Q,wn ys L Q->w9 aji 1 ys L Q:=by
 rintro ys L Q ⟨lf,b,rest,rfl,q⟩;have e0:atI (Y.str (kX lf b)::rest) 0=some (Y.str (kX lf b)):=xu (xs:=Y.str (kX lf b)::rest) (j:=0) rfl;walk_at "w";rw[e0];refine⟨rfl,rfl,fin ?_⟩;cases lf with
 |true=>
  rw[show nb false (inV (toV (.str (kX true b))) ([Y.str "plain",.str "turned"].map toV))=true from aqj b];exact q
 |false=>
  rw[show nb false (inV (toV (.str (kX false b))) ([Y.str "plain",.str "turned"].map toV))=false from arj b];exact q
theorem aqm(t:Bool):List.lookup (kL t) [(("plain" : Str),("turned" : Str)),("turned", "plain"),("both", "either"),("either", "both")]=some (kL (!t)):=by cases t<;>decide +kernel
theorem aru(t:Bool):List.lookup (kN t) [(("plain" : Str),("turned" : Str)),("turned", "plain"),("both", "either"),("either", "both")]=some (kN (!t)):=by cases t<;>decide +kernel
theorem DatN.str{L:LHp}{n:Nat}(x:Str):DatN L n (.str x) (.s (.str x)):=by
 cases n with
 |zero=>exact⟨rfl,rfl⟩
 |succ n=>exact .inl ⟨rfl,rfl⟩
theorem DatN.int{L:LHp}{n:Nat}(x:Int):DatN L n (.int x) (.s (.int x)):=by
 cases n with
 |zero=>exact⟨rfl,rfl⟩
 |succ n=>exact .inl ⟨rfl,rfl⟩
theorem adx{L:LHp}:∀{wd:Wd} {n:Nat},wd.depth≤n->DatN L n (aam wd) (enc wd)
 |.leaf t nm,n+1,_=>.inr (.inl ⟨_,_,rfl,rfl,.cons (DatN.str _) (.cons (DatN.str _) .nil)⟩)
 |.node e l r,n+1,h=>by
  have h':max l.depth r.depth+1≤n+1:=h;exact .inr (.inl ⟨_,_,rfl,rfl,.cons (DatN.str _) (.cons (adx (by omega)) (.cons (adx (by omega)) .nil))⟩)
theorem acs{L:LHp}{n:Nat}{a:Addr}{ys:List Y}{ds:List Da}(e:L a=some (.lst ys))(p:Paired (DatN L n) ys ds):DatN L (n+1) (.ref a) (.lst ds):=.inr (.inr ⟨ys,ds,rfl,rfl,kj e,p⟩)
theorem ab8{L:LHp}{n:Nat}{ys:List Y}{ds:List Da}(p:Paired (DatN L n) ys ds):DatN L (n+1) (.tup ys) (.tup ds):=.inr (.inl ⟨ys,ds,rfl,rfl,p⟩)
theorem as4{L:LHp}{neg:Bool}{u v:Wd}{Q:YK}(hu:u.depth≤128)(q:Q (.bl (nb neg (Da.eq (enc u) (enc v)))) L):yEq neg (aam u) (aam v) L Q:=by
 have hr:∀w:Wd,aq5 (aam w)=true:=fun w=>by cases w<;>rfl
 have:aq5 (aam u)=true/\aq5 (aam v)=true/\∃n m d e,n≤128/\DatN L n (aam u) d/\DatN L m (aam v) e/\Q (.bl (nb neg (Da.eq d e))) L:=
  ⟨hr u,hr v,u.depth,v.depth,enc u,enc v,hu,adx (An _),adx (An _),q⟩
 cases u<;>cases v<;>exact this
theorem ac4{L:LHp}{neg:Bool}{a b:Addr}{ys zs:List Y}{ds es:List Da}{n m:Nat}{Q:YK}(hn:n<128)(ea:L a=some (.lst ys))(eb:L b=some (.lst zs))(pa:Paired (DatN L n) ys ds)(pb:Paired (DatN L m) zs es)(q:Q (.bl (nb neg (Da.eqs ds es))) L):
 yEq neg (.ref a) (.ref b) L Q:=⟨rfl,rfl,n+1,m+1,_,_,hn,acs ea pa,acs eb pb,q⟩
def nY(hs:List Nat):List Y:=hs.map fun n:Nat=>.int (n:Int)
theorem aap(hs:List Nat):(nY hs).length=hs.length:=by unfold nY;rw[Ae]
theorem jx{L:LHp}{a p:Addr}{o:LO}(h:qh L a o p=none):L p=none:=by
 by_cases c:p=a
 ·subst c;rw[q9] at h;cases h
 ·rw[qd c] at h;exact h
theorem jf{α:Type}{l:List α}{i:Nat}{x:α}(h:l[i]?=some x):i<l.length:=(AU.mp h).1
def acp:TS3:=(qt (jt (yB (yOp yLt (qb 1) (yCB jk (qa (qb 0) qj)))) (jo (yOp yIx (qb 0) (qb 1))) je)
 (jo (yC (.int 0))))
def ahd:TS3:=(jo (yOp aan (yOp vk (yOp aug (yOp vt (yOp vt (yOp aug (yOp vk (qb 0) (yC (.int 1000003))) (yC (.int 7))) (yOp aug (qb 1) (qb 1))) (yC (.int 1))) (qb 2)) (yC (.int 2147483647))) (yC (.int 16))))
def ade(p__law_weight:Sp3):TS3:=(qt (jt (yB (yOp (yEq false) (yCB jk (qa (qb 0) qj)) (yC (.int 2)))) (jo (yC (.int 1))) je)
 (jo (yOp vt (yOp vt (yC (.int 1)) (zb p__law_weight (qa (yOp yIx (qb 0) (yC (.int 1))) qj))) (zb p__law_weight (qa (yOp yIx (qb 0) (yC (.int 2))) qj)))))
def afs(p__law_same:Sp3):TS3:=(qt (jt (yOr (yB (aao .bool (qb 0))) (yB (aao .bool (qb 1)))) (jo (amo (aao .bool (qb 0)) (amo (aao .bool (qb 1)) (yOp (yEq false) (qb 0) (qb 1))))) je)
 (qt (jt (yB (amb .list .tuple (qb 1))) (qt (jt (yOr (yB (yOp (yEq true) (aao .list (qb 0)) (aao .list (qb 1)))) (yB (yOp (yEq true) (aao .tuple (qb 0)) (aao .tuple (qb 1))))) (jo (yC (.bl false))) je)
 (qt (jt (yB (yOp (yEq true) (yCB jk (qa (qb 0) qj)) (yCB jk (qa (qb 1) qj)))) (jo (yC (.bl false))) je)
 (qt (ac3 (axn (qa (qb 0) (qa (qb 1) qj))) (vg 2 (za (qi 2) (za (qi 3) xt))) (jt (anr (yB (zb p__law_same (qa (qb 2) (qa (qb 3) qj))))) (jo (yC (.bl false))) je))
 (jo (yC (.bl true)))))) je)
 (qt (jt (yB (aao .int (qb 1))) (jo (amo (aao .int (qb 0)) (yOp (yEq false) (qb 0) (qb 1)))) je)
 (qt (jt (yB (aao .str (qb 1))) (jo (amo (aao .str (qb 0)) (yOp (yEq false) (qb 0) (qb 1)))) je)
 (jo (aco false (qb 0)))))))
def afu(p__law_word:Sp3):TS3:=(qt (zm (yOp yIx (qb 0) (qb 1)) (qi 2))
 (qt (jt (yB (yOp (yEq false) (yCB jk (qa (qb 2) qj)) (yC (.int 2)))) (jo (qb 2)) je)
 (jo (jw (qa (yOp yIx (qb 2) (yC (.int 0))) (qa (zb p__law_word (qa (qb 0) (qa (yOp yIx (qb 2) (yC (.int 1))) qj))) (qa (zb p__law_word (qa (qb 0) (qa (yOp yIx (qb 2) (yC (.int 2))) qj))) qj)))))))
def ajg(p_is_leaf p_word_at:Sp3):TS3:=(qt (zm (yOp yIx (qb 0) (qb 1)) (qi 2))
 (qt (jt (yB (zb p_is_leaf (qa (qb 2) qj))) (jo (qb 2)) je)
 (jo (jw (qa (yOp yIx (qb 2) (yC (.int 0))) (qa (zb p_word_at (qa (qb 0) (qa (yOp yIx (qb 2) (yC (.int 1))) qj))) (qa (zb p_word_at (qa (qb 0) (qa (yOp yIx (qb 2) (yC (.int 2))) qj))) qj)))))))
def abt:Sp3:=fun ys L Q=>∃ns:List Int,∃k:Int,ys=[.sq (ns.map Y.int),.int k]/\0≤k/\∀v,Q (.int v) L
theorem aox:∀ys L Q,abt ys L Q->w9 acp 2 ys L Q:=by
 rintro ys L Q ⟨ns,k,rfl,h0,q⟩;refine zu (fun c=>?_) fun c=>fin (q 0);have c':k<((ns.map Y.int).length:Int):=c;rw[Ae] at c';obtain⟨j,rfl⟩:∃j:Nat,k=(j:Int):=⟨k.toNat,by omega⟩;have e:atI (ns.map Y.int) (j:Int)=some (Y.int (ns[j]'(by omega))):=kz (Aj _);walk_at "w";rw[e];exact fin (q _)
def aa4:Sp3:=fun ys L Q=>∃c k f:Int,ys=[.int c,.int k,.int f]/\0≤k/\k<1000000/\0<f/\f<1000000/\∀v,0≤v->v<134217728->Q (.int v) L
theorem ayd:∀ys L Q,aa4 ys L Q->w9 ahd 3 ys L Q:=by
 rintro ys L Q ⟨c,k,f,rfl,h0,h1,h2,h3,q⟩;refine⟨(by decide:(0:Int)<1000003),.inr ⟨by decide,by decide⟩,.inl ⟨by omega,by omega⟩,.inr ⟨by omega,by omega⟩,(by decide:(0:Int)<2147483647),⟨by decide,by decide⟩,fin (q _ ?_ ?_)⟩
 all_goals
  generalize ((c % 1000003*7+k*k+1)*f)=z;omega
theorem ata(cs:List Nat):(Txt.join "" (cs.map fun c=>(⟨#[c]⟩:Str))).cps.toList=cs:=by
 rw[akt]
 induction cs with
 |nil=>rfl
 |cons c r ih=>rw[AE,AS,ih];rfl
def aa9(n:Nat):Sp3:=fun ys L Q=>∃wd,ys=[aam wd]/\wd.depth≤n/\Q (.int wd.size) L
theorem ahq:∀ys L Q,¬aa9 0 ys L Q:=fun ys L Q ⟨wd,_,hd,_⟩=>by cases wd<;>simp[Wd.depth] at hd
theorem aqp(n:Nat):∀ys L Q,aa9 (n+1) ys L Q->w9 (ade (aa9 n)) 1 ys L Q:=by
 rintro ys L Q ⟨wd,rfl,hd,q⟩;cases wd with
 |leaf t n=>exact fin q
 |node e l r=>
  have hd':max l.depth r.depth+1≤n+1:=hd;refine⟨l,rfl,by omega,r,rfl,by omega,fin ?_⟩;have e:(1+(l.size:Int)+(r.size:Int))=(((Wd.node e l r).size:Nat):Int):=by show _=((1+l.size+r.size:Nat):Int);omega
  rw[e];exact q
def SameY(L:LHp):Nat->Y->Y->Prop
 |0,_,_=>False
 |n+1,x,y=>(aat x=true/\y=x)\/(∃xs ys,x=.tup xs/\y=.tup ys/\Paired (SameY L n) xs ys)\/(∃a b xs ys,x=.ref a/\y=.ref b/\L a=some (.lst xs)/\L b=some (.lst ys)/\Paired (SameY L n) xs ys)
theorem SameY.flat{L:LHp}{n:Nat}{x:Y}(h:aat x=true):SameY L (n+1) x x:=.inl ⟨h,rfl⟩
theorem ab0{L:LHp}:∀{wd:Wd} {n:Nat},wd.depth+1≤n->SameY L n (aam wd) (aam wd)
 |.leaf t nm,n+2,_=>.inr (.inl ⟨_,_,rfl,rfl,.cons (.flat rfl) (.cons (.flat rfl) .nil)⟩)
 |.leaf t nm,1,h=>by simp[Wd.depth] at h
 |.node e l r,1,h=>by simp[Wd.depth] at h
 |.node e l r,n+2,h=>by
  have h':max l.depth r.depth+1+1≤n+2:=h;exact .inr (.inl ⟨_,_,rfl,rfl,.cons (.flat rfl) (.cons (ab0 (by omega)) (.cons (ab0 (by omega)) .nil))⟩)
def acu(n:Nat):Sp3:=fun ys L Q=>∃x y,ys=[x,y]/\SameY L n x y/\Q (.bl true) L
theorem al9:∀ys L Q,¬acu 0 ys L Q:=fun ys L Q ⟨x,y,_,h,_⟩=>h
theorem ap8{xs ys:List Y}{keep:LHp->Prop}{g:TG3}{tb:TS3}{D:Ends3}{τ:St3}{L:LHp}(W:Nat->St3->LHp->Prop)(h0:W 0 τ L)(hk:∀i τ L',W i τ L'->keep L')
 (hs:∀i x y τ L,xs[i]?=some x->ys[i]?=some y->W i τ L->g (.tup [x,y]) τ L fun τ2 L2=>tb { D with nx:=Frg (W (i+1)),ct:=Frg (W (i+1)),bk:=D.nx } τ2 L2) (hd:∀τ L,W (min xs.length ys.length) τ L->D.nx τ L):
 ane (aou xs ys) keep g tb D τ L:=xr ⟨W,h0,hk,fun i y τ L e w=>by
  obtain⟨a,b,ea,eb,rfl⟩:=apr e;exact hs i a b τ L ea eb w,fun τ L w=>hd τ L (by rw[ahb] at w;exact w)⟩
theorem awb(n:Nat):∀ys L Q,acu (n+1) ys L Q->w9 (afs (acu n)) 4 ys L Q:=by
 rintro ys L Q ⟨x,y,rfl,h,q⟩;rcases h with⟨f,rfl⟩ | ⟨xs,ys,rfl,rfl,p⟩ | ⟨a,b,xs,ys,rfl,rfl,h1,h2,p⟩
 ·cases y with
  |non=>exact fin q
  |bl b=>
   refine fin ?_;show Q (.bl (nb false (decide (b=b)))) L;rw[AD rfl];exact q
  |int i=>
   refine fin ?_;show Q (.bl (nb false (decide (i=i)))) L;rw[AD rfl];exact q
  |str i=>
   refine fin ?_;show Q (.bl (nb false (decide (i=i)))) L;rw[AD rfl];exact q
  |_=>cases f
 ·have hl:=p.length;walk_at "w";refine wo (b:=nb true (decide ((xs.length:Int)=ys.length))) (by rw[hl,AD rfl];rfl) ?_;refine ap8 (fun i τ L'=>L'=L/\∃c d,τ=[some (.tup xs),some (.tup ys),c,d]) ⟨rfl,_,_,rfl⟩ (fun i τ L' w=>⟨trivial,trivial⟩) ?_ ?_
  ·rintro i u v τ L' eu ev ⟨rfl,c,d,rfl⟩;exact⟨u,v,rfl,Paired.at p eu ev,_,LSub.refl _,rfl,_,_,rfl⟩
  ·rintro τ L' ⟨rfl,c,d,rfl⟩;exact fin q
 ·have hl:=p.length;refine abf h1 (abf h2 ?_);walk_at "w";refine abf h2 ?_;walk_at "w";refine abf h1 (abf h2 ?_);walk_at "w";refine abf h1 (abf h2 ?_);walk_at "w";refine qe h1 (qe h2 (wo (by rw[hl,AD rfl];rfl) ?_));walk_at "w";refine qm h1 (qm h2 ?_);refine ap8 (fun i τ L'=>L'=L/\∃c d,τ=[some (.ref a),some (.ref b),c,d]) ⟨rfl,_,_,rfl⟩ (fun i τ L' ⟨e,_⟩=>by subst e;exact⟨rfl,rfl⟩) ?_ ?_
  ·rintro i u v τ L' eu ev ⟨rfl,c,d,rfl⟩;exact⟨u,v,rfl,Paired.at p eu ev,_,LSub.refl _,rfl,_,_,rfl⟩
  ·rintro τ L' ⟨rfl,c,d,rfl⟩;exact fin q
def KW(ks:List Y):Nat->Wd->Prop
 |p,.leaf t n=>ks[p]?=some (.tup [.str (kL t),.str n])
 |p,.node e l r=>∃i j:Nat,ks[p]?=some (.tup [.str (kN e),.int i,.int j])/\KW ks i l/\KW ks j r
theorem KW.more{ks:List Y}(ms:List Y):∀{wd:Wd} {p:Nat},KW ks p wd->KW (ks++ms) p wd
 |.leaf _ _,p,h=>by
  have h':ks[p]?=some _:=h;show(ks++ms)[p]?=some _;rw[Az (AU.mp h').1];exact h'
 |.node _ _ _,p,⟨i,j,h,a,b⟩=>⟨i,j,by rw[Az (AU.mp h).1];exact h,KW.more ms a,KW.more ms b⟩
def jd(n:Nat):Sp3:=fun ys L Q=>∃k ks p wd,ys=[.ref k,.int ((p:Nat):Int)]/\L k=some (.lst ks)/\KW ks p wd/\wd.depth≤n/\Q (aam wd) L
theorem aic:∀ys L Q,¬jd 0 ys L Q:=fun ys L Q ⟨k,ks,p,wd,_,_,_,hd,_⟩=>by cases wd<;>simp[Wd.depth] at hd
theorem ajr:∀ys L Q,¬jd 0 ys L Q:=aic
theorem anq(n:Nat):∀ys L Q,jd (n+1) ys L Q->w9 (ajg wn (jd n)) 3 ys L Q:=by
 rintro ys L Q ⟨k,ks,p,wd,rfl,hk,h,hd,q⟩;cases wd with
 |leaf t nm=>exact qe hk (qp (xu h) ⟨true,t,_,rfl,fin q⟩)
 |node e l r=>
  obtain⟨i,j,h,hl,hr⟩:=h;have hd':max l.depth r.depth+1≤n+1:=hd;exact qe hk (qp (xu h) ⟨false,e,_,rfl,k,ks,i,l,rfl,hk,hl,by omega,k,ks,j,r,rfl,hk,hr,by omega,fin q⟩)
theorem ami(n:Nat):∀ys L Q,jd (n+1) ys L Q->w9 (afu (jd n)) 3 ys L Q:=by
 rintro ys L Q ⟨k,ks,p,wd,rfl,hk,h,hd,q⟩;cases wd with
 |leaf t nm=>exact qe hk (qp (xu h) (fin q))
 |node e l r=>
  obtain⟨i,j,h,hl,hr⟩:=h;have hd':max l.depth r.depth+1≤n+1:=hd;exact qe hk (qp (xu h) ⟨k,ks,i,l,rfl,hk,hl,by omega,k,ks,j,r,rfl,hk,hr,by omega,fin q⟩)
def mkS(l:List Nat):Str:=⟨l.toArray⟩
theorem apa(x:Str):mkS x.cps.toList=x:=by cases x;rfl
def apk(p__law_flip:Sp3):TS3:=(qt (zm (axd [("plain", "turned"),("turned", "plain"),("both", "either"),("either", "both")]) (qi 1))
 (qt (jt (yB (yOp (yEq false) (yCB jk (qa (qb 0) qj)) (yC (.int 2)))) (jo (jw (qa (yOp yIx (qb 1) (yOp yIx (qb 0) (yC (.int 0)))) (qa (yOp yIx (qb 0) (yC (.int 1))) qj)))) je)
 (jo (jw (qa (yOp yIx (qb 1) (yOp yIx (qb 0) (yC (.int 0)))) (qa (zb p__law_flip (qa (yOp yIx (qb 0) (yC (.int 1))) qj)) (qa (zb p__law_flip (qa (yOp yIx (qb 0) (yC (.int 2))) qj)) qj)))))))
def anc(p__law_flip:Sp3)(p__law_mirror:Sp3):TS3:=(qt (jt (yB (yOp (yEq false) (yCB jk (qa (qb 1) qj)) (yC (.int 2)))) (qt (j9 (yBL zh (qb 0) (qa (zb p__law_flip (qa (qb 1) qj)) qj)))
 (qt (j9 (yBL zh (qb 0) (qa (qb 1) qj)))
 (jo (xa (qa (jw (qa (yC (.str "link")) (qa (yOp aff (yCB jk (qa (qb 0) qj)) (yC (.int 2))) (qa (yOp aff (yCB jk (qa (qb 0) qj)) (yC (.int 1))) qj)))) (qa (yOp aff (yCB jk (qa (qb 0) qj)) (yC (.int 2))) (qa (yOp aff (yCB jk (qa (qb 0) qj)) (yC (.int 1))) qj))))))) je)
 (qt (zm (zb p__law_mirror (qa (qb 0) (qa (yOp yIx (qb 1) (yC (.int 1))) qj))) (qi 2))
 (qt (zm (zb p__law_mirror (qa (qb 0) (qa (yOp yIx (qb 1) (yC (.int 2))) qj))) (qi 3))
 (qt (j9 (yBL zh (qb 0) (qa (jw (qa (yOp yIx (zb p__law_flip (qa (qb 1) qj)) (yC (.int 0))) (qa (yOp yIx (qb 2) (yC (.int 1))) (qa (yOp yIx (qb 3) (yC (.int 1))) qj)))) qj)))
 (qt (j9 (yBL zh (qb 0) (qa (jw (qa (yOp yIx (qb 1) (yC (.int 0))) (qa (yOp yIx (qb 2) (yC (.int 2))) (qa (yOp yIx (qb 3) (yC (.int 2))) qj)))) qj)))
 (qt (azv 4 5 (qa (yOp aff (yCB jk (qa (qb 0) qj)) (yC (.int 2))) (qa (yOp aff (yCB jk (qa (qb 0) qj)) (yC (.int 1))) qj)))
 (qt (zm (yIf (yB (yOp (yEq false) (yOp yIx (qb 1) (yC (.int 0))) (yC (.str "either")))) (qb 4) (qb 5)) (qi 6))
 (qt (zm (yIf (yB (yOp (yEq false) (yOp yIx (qb 1) (yC (.int 0))) (yC (.str "either")))) (qb 5) (qb 4)) (qi 7))
 (jo (xa (qa (jw (qa (yC (.str "either")) (qa (qb 7) (qa (jw (qa (yC (.str "both")) (qa (qb 6) (qa (yOp yIx (qb 2) (yC (.int 0))) (qa (yOp yIx (qb 3) (yC (.int 0))) qj))))) qj)))) (qa (qb 4) (qa (qb 5) qj)))))))))))))
inductive Kn where
 |lf (t:Bool) (n:Str) | nd (e:Bool) (i j:Nat)
def ajw:Kn->Y
 |.lf t n=>.tup [.str (kL t),.str n]
 |.nd e i j=>.tup [.str (kN e),.int ((i:Nat):Int),.int ((j:Nat):Int)]
inductive Ru where
 |link (p q:Nat) | ei (r:Nat) (A:Ru) | bo (r:Nat) (A B:Ru) | cu (p q:Nat) (A B:Ru)
def qz:Ru->Y
 |.link p q=>.tup [.str "link",.int ((p:Nat):Int),.int ((q:Nat):Int)]
 |.ei r A=>.tup [.str "either",.int ((r:Nat):Int),qz A]
 |.bo r A B=>.tup [.str "both",.int ((r:Nat):Int),qz A,qz B]
 |.cu p q A B=>.tup [.str "cut",.int ((p:Nat):Int),.int ((q:Nat):Int),qz A,qz B]
def zj:Ru->List Nat
 |.link p q=>[p,q]
 |.ei r A=>r::zj A
 |.bo r A B=>r::(zj A++zj B)
 |.cu _ _ A B=>zj A++zj B
abbrev ksY(ks:List Kn):List Y:=ks.map ajw
def WAt(ks:List Kn)(p:Nat)(w:Wd):Prop:=KW (ksY ks) p w
theorem WAt.more{ks:List Kn}{p:Nat}{w:Wd}(h:WAt ks p w)(ms:List Kn):WAt (ks++ms) p w:=by
 unfold WAt ksY;rw[AG];exact KW.more _ h
def KnOk(ks:List Kn):Prop:=∀(p:Nat) (k:Kn),ks[p]?=some k->match k with
 |.lf _ n=>acm n
 |.nd _ i j=>i<p/\j<p
theorem KnOk.snoc{ks:List Kn}{k:Kn}(h:KnOk ks)(hk:match k with | .lf _ n=>acm n | .nd _ i j=>i<ks.length/\j<ks.length):KnOk (ks++[k]):=by
 intro p k' e
 by_cases c:p<ks.length
 ·rw[Az c] at e;exact h p k' e
 ·rw[Am (by omega)] at e;have c2:p=ks.length:=by
   by_cases c3:p - ks.length=0
   ·omega
   ·rw[Co (by simp;omega)] at e;cases e
  subst c2;rw[Cy] at e;cases e;exact hk
theorem abh{α:Type}(l:List α)(x:α)(r:List α):(l++x::r)[l.length]?=some x:=by rw[Am (An _),Cy];rfl
theorem afk{α:Type}{l r:List α}{p:Nat}{x:α}(h:l[p]?=some x):(l++r)[p]?=some x:=by rw[Az (AU.mp h).1];exact h
inductive SR(ks:List Kn):Ru->List Nat->Prop
 |link {p q:Nat} {t:Bool} {n:Str} {E:List Nat}:p<q->ks[p]?=some (.lf t n)->ks[q]?=some (.lf (!t) n)->(∀x,x∈E↔x=p\/x=q)->E.Nodup->SR ks (.link p q) E
 |ei {r i j:Nat} {A:Ru} {EA E:List Nat}:ks[r]?=some (.nd true i j)->SR ks A EA->i∈EA->j∈EA->i≠j->(∀x,x∈E↔(x∈EA/\x≠i/\x≠j)\/x=r)->E.Nodup->SR ks (.ei r A) E
 |bo {r i j:Nat} {A B:Ru} {EA EB E:List Nat}:ks[r]?=some (.nd false i j)->SR ks A EA->SR ks B EB->i∈EA->j∈EB->(∀x,x∈E↔(x∈EA/\x≠i)\/(x∈EB/\x≠j)\/x=r)->E.Nodup->SR ks (.bo r A B) E
 |cu {p q:Nat} {A B:Ru} {EA EB E:List Nat} {w:Wd}:SR ks A EA->SR ks B EB->p∈EA->q∈EB->WAt ks p w->WAt ks q w.turn->(∀x,x∈E↔(x∈EA/\x≠p)\/(x∈EB/\x≠q))->E.Nodup->SR ks (.cu p q A B) E
theorem SR.more{ks:List Kn}{R:Ru}{E:List Nat}(h:SR ks R E)(ms:List Kn):SR (ks++ms) R E:=by
 induction h with
 |link h1 h2 h3 h4 h5=>exact .link h1 (afk h2) (afk h3) h4 h5
 |ei h1 _ h3 h4 h5 h6 h7 ih=>exact .ei (afk h1) ih h3 h4 h5 h6 h7
 |bo h1 _ _ h4 h5 h6 h7 ih1 ih2=>exact .bo (afk h1) ih1 ih2 h4 h5 h6 h7
 |cu _ _ h3 h4 h5 h6 h7 h8 ih1 ih2=>exact .cu ih1 ih2 h3 h4 (h5.more ms) (h6.more ms) h7 h8
theorem SR.sub{ks:List Kn}{R:Ru}{E:List Nat}(h:SR ks R E):∀x∈E,x∈zj R:=by
 induction h with
 |link _ _ _ h4 _=>intro x hx;rcases (h4 x).mp hx with rfl | rfl<;>simp[zj]
 |ei _ _ _ _ _ h6 _ ih=>intro x hx;rcases (h6 x).mp hx with⟨h,_⟩ | rfl;exact Ai _ (ih x h);exact Av ..
 |bo _ _ _ _ _ h6 _ ih1 ih2=>
  intro x hx;rcases (h6 x).mp hx with⟨h,_⟩ | ⟨h,_⟩ | rfl
  ·exact Ai _ (Aw _ (ih1 x h))
  ·exact Ai _ (Ag _ (ih2 x h))
  ·exact Av ..
 |cu _ _ _ _ _ _ h7 _ ih1 ih2=>
  intro x hx;rcases (h7 x).mp hx with⟨h,_⟩ | ⟨h,_⟩
  ·exact Aw _ (ih1 x h)
  ·exact Ag _ (ih2 x h)
def vn(n:Nat):Sp3:=fun ys L Q=>∃wd,ys=[aam wd]/\wd.depth≤n/\Q (aam wd.turn) L
theorem asc:∀ys L Q,¬vn 0 ys L Q:=fun ys L Q ⟨wd,_,hd,_⟩=>by cases wd<;>simp[Wd.depth] at hd
theorem aom(t:Bool):aa2 ([(("plain" : Str),("turned" : Str)),("turned", "plain"),("both", "either"),("either", "both")].map fun p=>((Sum.inr p.1:Key),Y.str p.2)) (Sum.inr (kL t))=some (.str (kL (!t))):=ag1 (aqm t)
theorem ao9(t:Bool):aa2 ([(("plain" : Str),("turned" : Str)),("turned", "plain"),("both", "either"),("either", "both")].map fun p=>((Sum.inr p.1:Key),Y.str p.2)) (Sum.inr (kN t))=some (.str (kN (!t))):=ag1 (aru t)
theorem atc(n:Nat):∀ys L Q,vn (n+1) ys L Q->w9 (apk (vn n)) 2 ys L Q:=by
 rintro ys L Q ⟨wd,rfl,hd,q⟩;intro p hp;cases wd with
 |leaf t nm=>
  refine w5 q9 (qp (aom t) ?_);exact aqf (LSub.new hp) q
 |node e l r=>
  have hd':max l.depth r.depth+1≤n+1:=hd;refine w5 q9 (qp (ao9 e) ?_);refine⟨l,rfl,by omega,r,rfl,by omega,?_⟩;exact aqf (LSub.new hp) q
structure Mir(ks:List Kn)(w:Wd)(ms:List Kn)(R:Ru)(tp sp:Nat):Prop where
 len:ms.length=2*w.size
 sr:SR (ks++ms) R [tp,sp]
 wt:WAt (ks++ms) tp w.turn
 ws:WAt (ks++ms) sp w
 tm:∀x,x∈zj R↔ks.length≤x/\x<ks.length+ms.length
 nd:(zj R).Nodup
 ok:KnOk (ks++ms)
theorem WAt.leaf{ks:List Kn}{p:Nat}{t:Bool}{n:Str}(h:ks[p]?=some (.lf t n)):WAt ks p (.leaf t n):=by
 show(ksY ks)[p]?=_;rw[Ap,h];rfl
theorem WAt.node{ks:List Kn}{p i j:Nat}{e:Bool}{l r:Wd}(h:ks[p]?=some (.nd e i j))(hl:WAt ks i l)(hr:WAt ks j r):WAt ks p (.node e l r):=by
 refine⟨i,j,?_,hl,hr⟩;rw[Ap,h];rfl
theorem amu{ks:List Kn}(hk:KnOk ks){t:Bool}{n:Str}(hn:acm n):Mir ks (.leaf t n) [.lf (!t) n,.lf t n] (.link ks.length (ks.length+1)) ks.length (ks.length+1):=by
 have e1:(ks++[Kn.lf (!t) n,.lf t n])[ks.length]?=some (.lf (!t) n):=abh _ _ _;have e2:(ks++[Kn.lf (!t) n,.lf t n])[ks.length+1]?=some (.lf t n):=by
  have:=abh (ks++[Kn.lf (!t) n]) (Kn.lf t n) [];rw[Ad,Ay] at this;exact this
 refine⟨rfl,.link (t:=!t) (n:=n) (by omega) e1 (by rw[Bool.not_not];exact e2) (by simp) (by simp),WAt.leaf e1,WAt.leaf e2,fun x=>?_,by simp[zj],?_⟩
 ·show x∈[ks.length,ks.length+1]↔ks.length≤x/\x<ks.length+2;simp;omega
 ·have:=(hk.snoc (k:=.lf (!t) n) hn).snoc (k:=.lf t n) hn;rw[Ay] at this;exact this
theorem SR.nod{ks:List Kn}{R:Ru}{E:List Nat}(h:SR ks R E):E.Nodup:=by cases h<;>assumption
theorem a3a{x h lo a m r N:Nat}(hh:(h=N/\lo=N+1)\/(h=N+1/\lo=N))(hN:N=a+m+r):x=h\/x=lo\/(a≤x/\x<a+m)\/a+m≤x/\x<a+m+r↔a≤x/\x<N+2:=by
 subst hN;rcases hh with⟨rfl,rfl⟩ | ⟨rfl,rfl⟩<;>omega
theorem a2w{x a b c d N:Nat}(h:a≠b)(k:c≠d):x∈[b,d,N]↔(x∈[a,b]/\x≠a)\/(x∈[c,d]/\x≠c)\/x=N:=by
 simp only[As,A5,or_false];omega
theorem a27{x a b c d N:Nat}(h:a≠b)(k:c≠d):x∈[a,c,N]↔(x∈[a,b]/\x≠b)\/(x∈[c,d]/\x≠d)\/x=N:=by
 simp only[As,A5,or_false];omega
theorem a2a{x a b N M:Nat}(h:a<N)(k:b<N):x∈[N,M]↔(x∈[a,b,N]/\x≠a/\x≠b)\/x=M:=by
 simp only[As,A5,or_false];omega
theorem a2o{x a b N M:Nat}(h:a<N)(k:b<N):x∈[M,N]↔(x∈[a,b,N]/\x≠a/\x≠b)\/x=M:=by
 simp only[As,A5,or_false];omega
theorem a1s{a b N:Nat}(h:a<N)(k:b<N)(d:a≠b):[a,b,N].Nodup:=by
 rw[Au,Au];simp;omega
theorem a2r{a m r N t s u v:Nat}(a1:a≤t/\t<a+m)(a2:a≤s/\s<a+m)(b1:a+m≤u/\u<a+m+r)(b2:a+m≤v/\v<a+m+r)(hN:N=a+m+r):t<N/\s<N/\u<N/\v<N/\t≠u/\s≠v:=by omega
theorem a0t{h lo a m r N:Nat}(hh:(h=N/\lo=N+1)\/(h=N+1/\lo=N))(hN:N=a+m+r):¬(h=lo\/(a≤h/\h<a+m)\/a+m≤h/\h<a+m+r)/\¬((a≤lo/\lo<a+m)\/a+m≤lo/\lo<a+m+r):=by omega
theorem a21{x y a m r:Nat}(h1:a≤x/\x<a+m)(h2:a+m≤y/\y<a+m+r)(e:x=y):False:=by omega
theorem ast{ks ml mr:List Kn}{e:Bool}{l r:Wd}{A B:Ru}{tl sl tr sr:Nat}(hl:Mir ks l ml A tl sl)(hr:Mir (ks++ml) r mr B tr sr){N:Nat}(hN:N=ks.length+(ml++mr).length):
 Mir ks (.node e l r) (ml++mr++[.nd (!e) tl tr,.nd e sl sr]) (.ei (if e=true then N+1 else N) (.bo (if e=true then N else N+1) A B)) N (N+1):=by
 have hA:∀x∈[tl,sl],ks.length≤x/\x<ks.length+ml.length:=fun x hx=>(hl.tm x).mp (hl.sr.sub x hx);have hB:∀x∈[tr,sr],ks.length+ml.length≤x/\x<ks.length+ml.length+mr.length:=fun x hx=>by
  have:=(hr.tm x).mp (hr.sr.sub x hx);rw[Ad] at this;exact this
 have a1:=hA tl (by simp);have a2:=hA sl (by simp);have b1:=hB tr (by simp);have b2:=hB sr (by simp);have nA:tl≠sl:=by have:=hl.sr.nod;simpa using this
 have nB:tr≠sr:=by have:=hr.sr.nod;simpa using this
 have hN':N=ks.length+ml.length+mr.length:=by rw[hN,Ad];omega
 obtain⟨d1,d2,d3,d4,d5,d6⟩:=a2r a1 a2 b1 b2 hN';generalize eK:ks++(ml++mr++[Kn.nd (!e) tl tr,.nd e sl sr])=K;have k1:K=(ks++ml)++(mr++[Kn.nd (!e) tl tr,.nd e sl sr]):=by rw[<-eK];simp
 have k2:K=((ks++ml)++mr)++[Kn.nd (!e) tl tr,.nd e sl sr]:=by rw[<-eK];simp
 have k3:K=(((ks++ml)++mr)++[Kn.nd (!e) tl tr])++[.nd e sl sr]:=by rw[<-eK];simp
 have l2:((ks++ml)++mr).length=N:=by rw[Ad,Ad];omega
 have g1:K[N]?=some (.nd (!e) tl tr):=by rw[k2,<-l2];exact abh _ _ _
 have g2:K[N+1]?=some (.nd e sl sr):=by
  have l3:(((ks++ml)++mr)++[Kn.nd (!e) tl tr]).length=N+1:=by rw[Ad,l2];rfl
  rw[k3,<-l3];exact abh _ _ _
 have sA:SR K A [tl,sl]:=by rw[k1];exact hl.sr.more _
 have sB:SR K B [tr,sr]:=by rw[k2];exact hr.sr.more _
 have okK:KnOk K:=by
  have o1:=hr.ok.snoc (k:=.nd (!e) tl tr) (by show tl<((ks++ml)++mr).length/\tr<((ks++ml)++mr).length;rw[l2];exact⟨d1,d3⟩);have o2:=o1.snoc (k:=.nd e sl sr) (by show sl<_/\sr<_;rw[Ad,l2];exact⟨B5 d2,B5 d4⟩);rw[k3];exact o2
 have tA:=hl.tm;have tB:=hr.tm;rw[Ad] at tB;have wt:WAt K N (Wd.node e l r).turn:=WAt.node g1 (by rw[k1];exact hl.wt.more _) (by rw[k2];exact hr.wt.more _);have wsp:WAt K (N+1) (Wd.node e l r):=WAt.node g2 (by rw[k1];exact hl.ws.more _) (by rw[k2];exact hr.ws.more _);have lenm:(ml++mr++[Kn.nd (!e) tl tr,.nd e sl sr]).length=2*(Wd.node e l r).size:=by
  have h1:=hl.len;have h2:=hr.len;show _=2*(1+l.size+r.size);rw[Ad,Ad];simp;omega
 have lt:ks.length+(ml++mr++[Kn.nd (!e) tl tr,.nd e sl sr]).length=N+2:=by rw[Ad];simp[hN];omega
 have tt:∀h lo:Nat,(h=N/\lo=N+1)\/(h=N+1/\lo=N)->(∀x,x∈zj (.ei h (.bo lo A B))↔ks.length≤x/\x<ks.length+(ml++mr++[Kn.nd (!e) tl tr,.nd e sl sr]).length)/\(zj (.ei h (.bo lo A B))).Nodup:=by
  intro h lo hh;constructor
  ·intro x;rw[lt];show x∈h::lo::(zj A++zj B)↔_;rw[As,As,Al,tA,tB];exact a3a hh hN'
  ·show(h::lo::(zj A++zj B)).Nodup;rw[Au,Au,AI];refine⟨?_,?_,hl.nd,hr.nd,fun x hx y hy e=>?_⟩
   ·rw[As,Al,tA,tB];exact(a0t hh hN').1
   ·rw[Al,tA,tB];exact(a0t hh hN').2
   ·exact a21 ((tA x).mp hx) ((tB y).mp hy) e
 cases e with
 |true=>
  have s1:SR K (.bo N A B) [sl,sr,N]:=by
   exact .bo g1 sA sB (by simp) (by simp) (fun x=>a2w nA nB) (a1s d2 d4 d6)
  have s2:SR K (.ei (N+1) (.bo N A B)) [N,N+1]:=by
   exact .ei g2 s1 (by simp) (by simp) d6 (fun x=>a2a d2 d4) (by simp)
  obtain⟨t1,t2⟩:=tt (N+1) N (.inr ⟨rfl,rfl⟩);exact⟨lenm,by rw[eK];exact s2,by rw[eK];exact wt,by rw[eK];exact wsp,t1,t2,by rw[eK];exact okK⟩
 |false=>
  have s1:SR K (.bo (N+1) A B) [tl,tr,N+1]:=by
   exact .bo g2 sA sB (by simp) (by simp) (fun x=>a27 nA nB) (a1s (B5 d1) (B5 d3) d5)
  have s2:SR K (.ei N (.bo (N+1) A B)) [N,N+1]:=by
   exact .ei g1 s1 (by simp) (by simp) d5 (fun x=>a2o (B5 d1) (B5 d3)) (by simp)
  obtain⟨t1,t2⟩:=tt N (N+1) (.inl ⟨rfl,rfl⟩);exact⟨lenm,by rw[eK];exact s2,by rw[eK];exact wt,by rw[eK];exact wsp,t1,t2,by rw[eK];exact okK⟩
def aaa(n:Nat):Sp3:=fun ys L Q=>∃a,∃ks:List Kn,∃w:Wd,ys=[.ref a,aam w]/\L a=some (.lst (ksY ks))/\w.depth≤n/\n≤120/\w.ok/\KnOk ks/\ks.length+2*w.size≤10000/\
 ∀ms R tp sp p,L p=none->Mir ks w ms R tp sp->Q (.ref p) (qh (qh L a (.lst (ksY (ks++ms)))) p (.lst [qz R,.int ((tp:Nat):Int),.int ((sp:Nat):Int)]))
theorem aqt:∀ys L Q,¬aaa 0 ys L Q:=fun ys L Q ⟨a,ks,wd,_,_,hd,_⟩=>by cases wd<;>simp[Wd.depth] at hd
theorem bg_:∀m:Nat,m≤20000->m<sizeLine:=fun m h=>BM h (by decide)
theorem aq6(n:Nat):∀ys L Q,aaa (n+1) ys L Q->w9 (anc (vn 120) (aaa n)) 8 ys L Q:=by
 rintro ys L Q ⟨a,ks,w,rfl,ha,hd,hn,hok,hk,hb,q⟩;have big:=bg_;cases w with
 |leaf t nm=>
  have hb:ks.length+2*1≤10000:=hb;refine qe ha ⟨.leaf t nm,rfl,by omega,qm ha ⟨big _ (by rw[Ae];omega),?_⟩⟩;refine qe q9 (qm q9 ⟨big _ (by rw[Ad,Ae];simp;omega),?_⟩);rw[xm];have e1:(ksY ks++[aam (Wd.leaf t nm).turn])++[aam (.leaf t nm)]=ksY (ks++[.lf (!t) nm,.lf t nm]):=by unfold ksY;rw[AG,Ay];rfl
  have e2:(ksY (ks++[Kn.lf (!t) nm,.lf t nm])).length=ks.length+2:=by rw[Ae,Ad];rfl
  have i1:((((ksY (ks++[Kn.lf (!t) nm,.lf t nm])).length:Nat):Int) - 2)=((ks.length:Nat):Int):=by rw[e2];omega
  have i2:((((ksY (ks++[Kn.lf (!t) nm,.lf t nm])).length:Nat):Int) - 1)=((ks.length+1:Nat):Int):=by rw[e2];omega
  have e1':(ksY ks++[aam (Wd.leaf t nm).turn])++[.tup [.str (kL t),.str nm]]=ksY (ks++[.lf (!t) nm,.lf t nm]):=e1
  first | rw[e1] | rw[e1']
  refine qe q9 (qe q9 (qe q9 (qe q9 fun p hp=>?_)));have np:L p=none:=by
   have:p≠a:=fun e=>by rw[e,q9] at hp;cases hp
   rw[qd this] at hp;exact hp
  have:=q _ _ _ _ p np (amu hk hok);have key:[qz (.link ks.length (ks.length+1)),Y.int ((ks.length:Nat):Int),Y.int ((ks.length+1:Nat):Int)]=[.tup [.str "link",.int ((((ksY (ks++[Kn.lf (!t) nm,.lf t nm])).length:Nat):Int) - 2),.int ((((ksY (ks++[Kn.lf (!t) nm,.lf t nm])).length:Nat):Int) - 1)],.int ((((ksY (ks++[Kn.lf (!t) nm,.lf t nm])).length:Nat):Int) - 2),.int ((((ksY (ks++[Kn.lf (!t) nm,.lf t nm])).length:Nat):Int) - 1)]:=by rw[i1,i2];rfl
  rw[key] at this;exact fin this
 |node e l r=>
  have hd':max l.depth r.depth+1≤n+1:=hd;have hb:ks.length+2*(1+l.size+r.size)≤10000:=hb;refine⟨a,ks,l,rfl,ha,by omega,by omega,hok.1,hk,by omega,fun ml A tl sl p1 hp1 ML=>?_⟩;have na1:a≠p1:=neL ha hp1;have hl1:=ML.len;refine⟨a,ks++ml,r,rfl,by rw[qd na1,q9],by omega,by omega,hok.2,ML.ok,by rw[Ad];omega,fun mr B tr sr p2 hp2 MR=>?_⟩;have hl2:=MR.len;have np1:p1≠p2:=neL q9 hp2;have na2:a≠p2:=neL (by rw[qd na1];exact q9) hp2;have ha2:qh (qh (qh (qh L a (.lst (ksY (ks++ml)))) p1 (.lst [qz A,.int ((tl:Nat):Int),.int ((sl:Nat):Int)])) a (.lst (ksY ((ks++ml)++mr)))) p2 (.lst [qz B,.int ((tr:Nat):Int),.int ((sr:Nat):Int)]) a=some (.lst (ksY ((ks++ml)++mr))):=by rw[qd na2];exact q9
  have h1:qh (qh (qh (qh L a (.lst (ksY (ks++ml)))) p1 (.lst [qz A,.int ((tl:Nat):Int),.int ((sl:Nat):Int)])) a (.lst (ksY ((ks++ml)++mr)))) p2 (.lst [qz B,.int ((tr:Nat):Int),.int ((sr:Nat):Int)]) p1=some (.lst [qz A,.int ((tl:Nat):Int),.int ((sl:Nat):Int)]):=by rw[qd np1,qd (AK na1)];exact q9
  have h2:qh (qh (qh (qh L a (.lst (ksY (ks++ml)))) p1 (.lst [qz A,.int ((tl:Nat):Int),.int ((sl:Nat):Int)])) a (.lst (ksY ((ks++ml)++mr)))) p2 (.lst [qz B,.int ((tr:Nat):Int),.int ((sr:Nat):Int)]) p2=some (.lst [qz B,.int ((tr:Nat):Int),.int ((sr:Nat):Int)]):=q9;have old:∀b o,b≠a->L b=some o->qh (qh (qh (qh L a (.lst (ksY (ks++ml)))) p1 (.lst [qz A,.int ((tl:Nat):Int),.int ((sl:Nat):Int)])) a (.lst (ksY ((ks++ml)++mr)))) p2 (.lst [qz B,.int ((tr:Nat):Int),.int ((sr:Nat):Int)]) b=some o:=fun b o nb e=>by
   have n1:b≠p1:=neL e hp1;have e2:qh (qh L a (.lst (ksY (ks++ml)))) p1 (.lst [qz A,.int ((tl:Nat):Int),.int ((sl:Nat):Int)]) b=some o:=by rw[qd n1,qd nb];exact e
   have n2:b≠p2:=neL e2 hp2;rw[qd n2,qd nb];exact e2
  generalize qh (qh (qh (qh L a (.lst (ksY (ks++ml)))) p1 (.lst [qz A,.int ((tl:Nat):Int),.int ((sl:Nat):Int)])) a (.lst (ksY ((ks++ml)++mr)))) p2 (.lst [qz B,.int ((tr:Nat):Int),.int ((sr:Nat):Int)])=L2 at ha2 h1 h2 old;have lks:(ksY ((ks++ml)++mr)).length=ks.length+ml.length+mr.length:=by rw[Ae,Ad,Ad]
  refine qe ha2 ⟨.node e l r,rfl,by show max l.depth r.depth+1≤120;omega,qe h1 (qe h2 (qm ha2 ⟨big _ (by omega),?_⟩))⟩;have h1':∀o,qh L2 a o p1=some (.lst [qz A,.int ((tl:Nat):Int),.int ((sl:Nat):Int)]):=fun o=>by rw[qd (AK na1)];exact h1
  have h2':∀o,qh L2 a o p2=some (.lst [qz B,.int ((tr:Nat):Int),.int ((sr:Nat):Int)]):=fun o=>by rw[qd (AK na2)];exact h2
  refine qe q9 (qe (h1' _) (qe (h2' _) (qm q9 ⟨big _ (by rw[Ad];simp;omega),?_⟩)));rw[xm];obtain⟨N,hN⟩:∃N,N=ks.length+(ml++mr).length:=⟨_,rfl⟩;have e1:(ksY ((ks++ml)++mr)++[.tup [.str (kN (!e)),.int ((tl:Nat):Int),.int ((tr:Nat):Int)]])++[.tup [.str (kN e),.int ((sl:Nat):Int),.int ((sr:Nat):Int)]]=ksY (ks++(ml++mr++[.nd (!e) tl tr,.nd e sl sr])):=by
   unfold ksY;simp[ajw]
  rw[e1];have lN:(ksY (ks++(ml++mr++[Kn.nd (!e) tl tr,.nd e sl sr]))).length=N+2:=by rw[Ae,Ad,Ad,hN];simp;omega
  have i1:((((ksY (ks++(ml++mr++[Kn.nd (!e) tl tr,.nd e sl sr]))).length:Nat):Int) - 2)=((N:Nat):Int):=by rw[lN];omega
  have i2:((((ksY (ks++(ml++mr++[Kn.nd (!e) tl tr,.nd e sl sr]))).length:Nat):Int) - 1)=((N+1:Nat):Int):=by rw[lN];omega
  refine qe q9 (qe q9 ?_);have M:=ast (e:=e) ML MR hN;have done:∀p,qh L2 a (.lst (ksY (ks++(ml++mr++[Kn.nd (!e) tl tr,.nd e sl sr])))) p=none->∀R,Mir ks (.node e l r) (ml++mr++[Kn.nd (!e) tl tr,.nd e sl sr]) R N (N+1)->
   aiu Q (.ref p) (qh (qh L2 a (.lst (ksY (ks++(ml++mr++[Kn.nd (!e) tl tr,.nd e sl sr]))))) p (.lst [qz R,.int ((N:Nat):Int),.int ((N+1:Nat):Int)])):=fun p hp R MM=>by
   have npa:p≠a:=fun z=>by rw[z,q9] at hp;cases hp
   rw[qd npa] at hp;have np:L p=none:=by
    cases z:L p with
    |none=>rfl
    |some o=>rw[old p o npa z] at hp;cases hp
   refine aqf ?_ (q _ _ _ _ p np MM);intro b o z
   by_cases c1:b=p
   ·subst c1;rw[q9] at z ⊢;exact z
   ·rw[qd c1] at z ⊢
    by_cases c2:b=a
    ·subst c2;rw[q9] at z ⊢;exact z
    ·rw[qd c2] at z ⊢;exact old b o c2 z
  cases e with
  |true=>
   have key:[qz (.ei (if true=true then N+1 else N) (.bo (if true=true then N else N+1) A B)),Y.int ((N:Nat):Int),Y.int ((N+1:Nat):Int)]=[.tup [.str "either",.int ((((ksY (ks++(ml++mr++[Kn.nd (!true) tl tr,.nd true sl sr]))).length:Nat):Int) - 1),.tup [.str "both",.int ((((ksY (ks++(ml++mr++[Kn.nd (!true) tl tr,.nd true sl sr]))).length:Nat):Int) - 2),qz A,qz B]],.int ((((ksY (ks++(ml++mr++[Kn.nd (!true) tl tr,.nd true sl sr]))).length:Nat):Int) - 2),.int ((((ksY (ks++(ml++mr++[Kn.nd (!true) tl tr,.nd true sl sr]))).length:Nat):Int) - 1)]:=by rw[i1,i2];rfl
   walk_at "w";refine qe (h1' _) (qe (h2' _) fun p hp=>?_);have:=done p hp _ M;rw[key] at this;exact this
  |false=>
   have key:[qz (.ei (if false=true then N+1 else N) (.bo (if false=true then N else N+1) A B)),Y.int ((N:Nat):Int),Y.int ((N+1:Nat):Int)]=[.tup [.str "either",.int ((((ksY (ks++(ml++mr++[Kn.nd (!false) tl tr,.nd false sl sr]))).length:Nat):Int) - 2),.tup [.str "both",.int ((((ksY (ks++(ml++mr++[Kn.nd (!false) tl tr,.nd false sl sr]))).length:Nat):Int) - 1),qz A,qz B]],.int ((((ksY (ks++(ml++mr++[Kn.nd (!false) tl tr,.nd false sl sr]))).length:Nat):Int) - 2),.int ((((ksY (ks++(ml++mr++[Kn.nd (!false) tl tr,.nd false sl sr]))).length:Nat):Int) - 1)]:=by rw[i1,i2];rfl
   walk_at "w";refine qe (h1' _) (qe (h2' _) fun p hp=>?_);have:=done p hp _ M;rw[key] at this;exact this
def ahf(p_is_leaf:Sp3):TS3:=(qt (jt (yOr (yB (aco false (qb 0))) (yB (zb p_is_leaf (qa (qb 0) qj)))) (jo (xa qj)) je)
 (jo (xa (qa (yOp yIx (qb 0) (yC (.int 1))) (qa (yOp yIx (qb 0) (yC (.int 2))) qj)))))
def afp:TS3:=(qt (zm (xa qj) (qi 1))
 (qt (ac3 (xg (qb 0)) (vg 2 (za (qi 2) (za (qi 3) xt))) (qt (j9 (yBL zh (qb 1) (qa (qb 2) qj)))
 (j9 (yBL zh (qb 1) (qa (qb 3) qj)))))
 (jo (qb 1))))
def aec:TS3:=(jo (yLC 2 (af3 (yOp yIx (qb 0) (yC (.int 0)))) (vg 2 (za (qi 1) (za (qi 2) xt))) (ac1 (yB (aco true (qb 2))) (yB (yOp (yEq false) (yOp yIx (qb 2) (yC (.int 0))) (yC (.str "either"))))) (qb 1)))
def aik:Option Kn->Y
 |none=>.non
 |some k=>ajw k
abbrev osY(ks:List (Option Kn)):List Y:=ks.map aik
def afj:Option Kn->List Nat
 |some (.nd _ i j)=>[i,j]
 |_=>[]
def ae0:Sp3:=fun ys L Q=>∃k:Option Kn,ys=[aik k]/\∀p,L p=none->Q (.ref p) (qh L p (.lst (nY (afj k))))
theorem atf:∀ys L Q,ae0 ys L Q->w9 (ahf wn) 1 ys L Q:=by
 rintro ys L Q ⟨k,rfl,q⟩;cases k with
 |none=>exact fun p hp=>fin (q p hp)
 |some k=>
  cases k with
  |lf t n=>exact⟨true,t,_,rfl,fun p hp=>fin (q p hp)⟩
  |nd e i j=>exact⟨false,e,_,rfl,fun p hp=>fin (q p hp)⟩
def whr(f:Option Kn->Bool)(ks:List (Option Kn))(i:Nat):List Nat:=(List.range i).filter fun p=>match ks[p]? with
 |some k=>f k
 |none=>false
theorem aef{f:Option Kn->Bool}{ks:List (Option Kn)}{i:Nat}{k:Option Kn}(h:ks[i]?=some k):whr f ks (i+1)=whr f ks i++if f k=true then [i] else []:=by
 unfold whr;rw[DO,Ci];congr 1;rw[List.filter_cons];simp only[h,Cj]
def aas(e:Bool):Option Kn->Bool
 |some (.nd e' _ _)=>decide (e'=e)
 |_=>false
abbrev atp(e:Bool)(ks:List (Option Kn)):List Nat:=whr (aas e) ks ks.length
theorem ky(a b:List Nat):nY (a++b)=nY a++nY b:=by unfold nY;rw[AG]
theorem asw{hs:List Nat}{i:Nat}{y:Y}(h:(nY hs)[i]?=some y):∃n,hs[i]?=some n/\y=.int (n:Int):=by
 unfold nY at h;rw[Ap] at h;obtain⟨n,e1,e2⟩:=Ar.mp h;exact⟨n,e1,e2.symm⟩
theorem auj{f:Option Kn->Bool}{ks:List (Option Kn)}{keep:LHp->Prop}{L:LHp}{g:TG3}{tc:TT3}{te:TE3}{τ:St3}{Q:YK}(hz:ks.length≤1000)(hk:keep L)
 (turn:∀(i:Nat) (k:Option Kn) (R:List Y->LHp->Prop) zs,ks[i]?=some k->(f k=true->R (zs++[.int (i:Int)]) L)->(f k=false->R zs L)->g (.tup [.int (i:Nat),aik k]) (τ++List.replicate 2 none) L fun τ2 L2=>tc τ2 L2 fun b L3=>vm b (te τ2 L3 fun z L4=>R (zs++[z]) L4) (R zs L3))
 (hq:∀p,L p=none->Q (.ref p) (qh L p (.lst (nY (whr f ks ks.length))))):lcK (ah5 (osY ks)) keep 2 g tc te τ L Q:=by
 refine ado (fun i zs=>zs=nY (whr f ks i)) (by rw[aad,Ae];exact BM hz (by decide)) hk rfl ?_ ?_
 ·rintro i y zs ey rfl;obtain⟨z,ez,rfl⟩:=acb ey;rw[Ap] at ez;obtain⟨k,ek,rfl⟩:=Ar.mp ez;refine turn i k _ _ ek (fun h=>⟨L,LSub.refl _,rfl,?_⟩) (fun h=>⟨L,LSub.refl _,rfl,?_⟩)
  ·rw[aef ek,AB h,ky];rfl
  ·rw[aef ek,Ax (by rw[h];exact AA),AR]
 ·rintro zs rfl;rw[aad,Ae];exact hq
abbrev ag8(a l c:Addr):Y:=.tup [.ref a,.ref l,.ref c]
def ae1:Sp3:=fun ys L Q=>∃a l c,∃ks:List (Option Kn),ys=[ag8 a l c]/\L a=some (.lst (osY ks))/\ks.length≤1000/\∀p,L p=none->Q (.ref p) (qh L p (.lst (nY (atp true ks))))
theorem asu:∀ys L Q,ae1 ys L Q->w9 aec 1 ys L Q:=by
 rintro ys L Q ⟨a,l,c,ks,rfl,ha,hz,q⟩;refine jn ha fun keep kp=>auj (f:=aas true) hz (kp L rfl) (fun i k R zs ek h1 h2=>?_) fun p hp=>fin (q p hp);cases k with
 |none=>exact h2 rfl
 |some k=>
  cases k with
  |lf t n=>cases t<;>exact h2 rfl
  |nd e i j=>
   cases e with
   |true=>exact h1 rfl
   |false=>exact h2 rfl
theorem a2q(a b:Nat):min (a:Int) (b:Int)=((min a b:Nat):Int):=by omega
theorem a3k(a b:Nat):max (a:Int) (b:Int)=((max a b:Nat):Int):=by omega
def prN(p:Nat×Nat):Y:=.tup [.int ((p.1:Nat):Int),.int ((p.2:Nat):Int)]
abbrev zg(l:List (Nat×Nat)):List Y:=l.map prN
end L3
namespace TS
open PySem PyProof.Rows PySem.W PySem.Calls
section
variable {prog:Program}{w:World}{A:Around}{E:Value->Shared->Prop}{s:Shared}
abbrev keyBody(kx px:Str)(p1 p2 p3 p4 p5:Pos)(n:Nat):Expr:=.Tuple [.Subscript (.Name kx p1) (.Name px p2) p3,.Name px p4] n p5
structure KeyAt(h:Heap)(f:Addr)(kx px:Str)(scope:Scope)(kvs:List Value):Prop where
 ex:∃(name qual:Str) (params:Arguments) (p1 p2 p3 p4 p5:Pos) (n:Nat) (pm ctv:Value) (c' cell k:Addr),h.get? f=some (kla_obj name qual params (keyBody kx px p1 p2 p3 p4 p5 n) scope [(kx,cell)] pm c' ctv)/\h.CodeRec (.ref c') qual/\
  h.IsCell cell (some (.ref k))/\h.IsList k kvs.toArray/\∀v:Value,bindArgs (kla_fn name qual params (keyBody kx px p1 p2 p3 p4 p5 n) scope [(kx,cell)] pm (.ref c') ctv) ⟨[v],[]⟩=pure [(px,v)]
 lim:h.NoLimit
structure KeySc(scope:Scope)(kx px:Str):Prop where
 kind:scope.kind=.function
 co:scope.isCoroutine=false
 gen:scope.isGenerator=false
 nc:∀x∈scope.names,x.2≠.cell
 lp:scope.names.lookup px=some .local
 lk:scope.names.lookup kx=some .free
 d1:(kx==("__debug__" : Str))=false
 d2:(px==("__debug__" : Str))=false
 d3:(kx==("__classdict__" : Str))=false
theorem KeyAt.keeps{h h':Heap}{f:Addr}{kx px:Str}{scope:Scope}{kvs:List Value}(k:KeyAt h f kx px scope kvs)(hk:∀b o,h.get? b=some o->h'.get? b=some o):KeyAt h' f kx px scope kvs:=by
 obtain⟨name,qual,params,p1,p2,p3,p4,p5,n,pm,ctv,c',cell,kk,g1,g2,g3,g4,g5⟩:=k.ex;refine⟨⟨name,qual,params,p1,p2,p3,p4,p5,n,pm,ctv,c',cell,kk,hk _ _ g1,?_,?_,?_,g5⟩,k.lim.keeps hk⟩
 ·obtain⟨c,oc,vs,tq,e1,e2,e3⟩:=g2;exact⟨c,oc,vs,tq,e1,hk _ _ e2,e3⟩
 ·obtain⟨o,e1,e2⟩:=g3;exact⟨o,hk _ _ e1,e2⟩
 ·obtain⟨o,e1,e2⟩:=g4;exact⟨o,hk _ _ e1,e2⟩
theorem a1d{f:Addr}{kx px:Str}{scope:Scope}{kvs:List Value}{i:Nat}{u t:Tok}{r:Int}{Q:Value->Shared->Prop}(K:KeyAt s.heap f kx px scope kvs)(S:KeySc scope kx px)(hroom:A.depth<recursionLimit)(hi:kvs[i]?=some (.int r t))(hi2:i<2 ^ 40)
 (h:∀h' tk a,(∀b o,s.heap.get? b=some o->h'.get? b=some o)->h'.get? a=some { cls:=.type "tuple",data:=.seq #[.int r t,.int (i:Int) u] }->Q (.ref a) { s with heap:=h',toks:=tk }):
 wpAny (model prog w) A (call (.ref f) [.int (i:Int) u]) Q E s:=by
 obtain⟨name,qual,params,p1,p2,p3,p4,p5,n,pm,ctv,c',cell,kk,g1,g2,g3,g4,g5⟩:=K.ex;refine wpAny_call (kla_callFunE hroom g1 rfl S.co S.gen rfl g2 ?_);rw[g5];refine Ah (wpAny_newFunctionEnv S.nc (fun x hx=>by rw[AC.mp hx];exact S.lp) (fun h₁ hns hsb=>⟨K.lim.fresh _ hsb,?_⟩) S.kind);have k1:∀b o,s.heap.get? b=some o->h₁.get? b=some o:=fun b o e=>hsb.extBut b o (A3 (Heap.lt_size e)) (Heap.get?_push_of_some _ e);show codeAny _ _ (.expr _ (envX qual scope s.heap.objs.size f (.ref c') [(kx,cell)])) _ _;refine kla_codeExpr ?_;have look:(([(px,Value.int (i:Int) u)]:List (Str×Value)).reverse.lookup px)=some (.int (i:Int) u):=by simp
 have kf:(envX qual scope s.heap.objs.size f (.ref c') [(kx,cell)]).kindOf kx=some .free:=S.lk;have kp:(envX qual scope s.heap.objs.size f (.ref c') [(kx,cell)]).kindOf px=some .local:=S.lp;have cl:(envX qual scope s.heap.objs.size f (.ref c') [(kx,cell)]).cells.lookup kx=some cell:=by show([(kx,cell)]:List (Str×Addr)).lookup kx=_;simp
 have ic:h₁.IsCell cell (some (.ref kk)):=by obtain⟨o,e1,e2⟩:=g3;exact⟨o,k1 _ _ e1,e2⟩
 have il:h₁.IsList kk kvs.toArray:=by obtain⟨o,e1,e2⟩:=g4;exact⟨o,k1 _ _ e1,e2⟩
 refine wpAny_Tuple_spliced (Calls.spliced_cons (Subscript_ (wpAny_Name (wpAny_loadName_free S.kind kf cl ic (wpAny_Name (wpAny_loadName_local S.kind kp hns look ?_) S.d2) S.d3) S.d1)));refine item_listL il (by omega) (by omega) (by rw[show((i:Nat):Int).toNat=i from rfl];exact hi) ?_;refine Calls.spliced_cons (wpAny_Name (wpAny_loadName_local S.kind kp hns look ?_) S.d2);refine Calls.spliced_nil ⟨by show 2≤sizeLine;decide,?_⟩;exact h _ _ _ (fun b o e=>Heap.get?_push_of_some _ (k1 b o e)) (Heap.get?_push_size _ rfl)
end
theorem ati{α β:Type}(f:α->β):∀{l m:List β},l.Perm m->∀{T:List α},T.map f=m->∃T':List α,T'.Perm T/\T'.map f=l:=by
 intro l m p
 induction p with
 |nil=>intro T e;exact⟨T,BG _,e⟩
 |cons x _ ih=>
  intro T e;cases T with
  |nil=>cases e
  |cons t r=>
   rw[AE] at e;obtain⟨e1,e2⟩:=CD e;obtain⟨T',p',e'⟩:=ih e2;exact⟨t::T',p'.cons t,by rw[AE,e',e1]⟩
 |swap x y l=>
  intro T e
  match T,e with
  |t::u::r,e=>
   rw[AE,AE] at e;obtain⟨e1,e2⟩:=CD e;obtain⟨e3,e4⟩:=CD e2;exact⟨u::t::r,List.Perm.swap t u r,by rw[AE,AE,e1,e3,e4]⟩
 |trans _ _ ih1 ih2=>
  intro T e;obtain⟨T1,p1,e1⟩:=ih2 e;obtain⟨T2,p2,e2⟩:=ih1 e1;exact⟨T2,p2.trans p1,e2⟩
def itV(x:Nat×Tok):Value:=.int (x.1:Int) x.2
def a01(h:Heap)(kS:Addr)(rk:Nat->Int)(k:Value)(x:Nat×Tok):Prop:=∃a t u,k=.ref a/\a≠kS/\h.get? a=some { cls:=.type "tuple",data:=.seq #[.int (rk x.1) t,.int (x.1:Int) u] }
def KeyVs(h:Heap)(kS:Addr)(rk:Nat->Int):List Value->List (Nat×Tok)->Prop
 |[],[]=>True
 |k::ks,x::xs=>a01 h kS rk k x/\KeyVs h kS rk ks xs
 |_,_=>False
theorem KeyVs.len{h:Heap}{kS:Addr}{rk:Nat->Int}:∀{ks:List Value} {xs:List (Nat×Tok)},KeyVs h kS rk ks xs->ks.length=xs.length
 |[],[],_=>rfl
 |_::_,_::_,⟨_,b⟩=>by rw[AF,AF,KeyVs.len b]
 |[],_::_,z=>z.elim
 |_::_,[],z=>z.elim
theorem KeyVs.mem{h:Heap}{kS:Addr}{rk:Nat->Int}:∀{ks:List Value} {xs:List (Nat×Tok)},KeyVs h kS rk ks xs->∀t∈ks.zip xs,a01 h kS rk t.1 t.2
 |[],[],_,t,ht=>by cases ht
 |_::_,_::_,⟨a,b⟩,t,ht=>by
  rw[List.zip_cons_cons] at ht;rcases As.mp ht with rfl | ht
  ·exact a
  ·exact KeyVs.mem b t ht
 |[],_::_,z,_,_=>z.elim
 |_::_,[],z,_,_=>z.elim
section
variable {prog:Program}{w:World}{A:Around}{E:Value->Shared->Prop}
theorem atv{g:Heap}{f:Addr}{kx px:Str}{scope:Scope}{kvs:List Value}{kS:Addr}{rk:Nat->Int}{body:Value->PUnit->Sem (ForInStep PUnit)}(K:KeyAt g f kx px scope kvs)(S:KeySc scope kx px)(hroom:A.depth<recursionLimit)(hn:g.get? kS=none)
 (hb:∀(x:Value) (s:Shared) (Q':ForInStep PUnit->Shared->Prop),wpAny (model prog w) A (call (.ref f) [x]) (fun k s'=>wpAny (model prog w) A (Builtin.List.listUpdate (.ref kS) (·.push k)) (fun _ s''=>Q' (.yield ⟨⟩) s'') E s') (fun _ _=>False) s->wpAny (model prog w) A (body x ⟨⟩) Q' E s):
 ∀(ps:List (Nat×Tok)) (ks:List Value) (e:Nat) (s:Shared) (Q:PUnit->Shared->Prop),(∀b o,g.get? b=some o->s.heap.get? b=some o)->s.heap.get? kS=some (seqObj "list" ks.toArray e)->ks.length+ps.length≤100000->
  (∀x∈ps,x.1<2 ^ 40/\∃t,kvs[x.1]?=some (.int (rk x.1) t))->
  (∀h' tk ks2 e',(∀b o,b≠kS->s.heap.get? b=some o->h'.get? b=some o)->h'.get? kS=some (seqObj "list" (ks++ks2).toArray e')->KeyVs h' kS rk ks2 ps->Q ⟨⟩ { s with heap:=h',toks:=tk })->
  wpAny (model prog w) A (forIn (ps.map itV) PUnit.unit body) Q E s
 |[],ks,e,s,Q,hg,hk,hz,hp,q=>by
  rw[CN,DP];exact Ah (q s.heap s.toks [] e (fun _ _ _ h=>h) (by rw[AR];exact hk) trivial)
 |x::r,ks,e,s,Q,hg,hk,hz,hp,q=>by
  rw[AE,CF];rw[AF] at hz;obtain⟨x40,t,ht⟩:=hp x (Av ..);have big:(100000:Nat)+1≤sizeLine:=by rw[sizeLine_eq];omega
  refine Aa (hb (itV x) s _ (a1d (K.keeps hg) S hroom ht x40 fun h1 tk1 a k1 ha=>?_));have hkS1:h1.get? kS=some (seqObj "list" ks.toArray e):=k1 _ _ hk;have s1:=Heap.SameBut.update h1 kS (Obj.mapSeq (·.push (.ref a)));have ea:ks.toArray.push (.ref a)=List.toArray (ks++[.ref a]):=by simp
  obtain⟨c2,hc2⟩:∃c2,(h1.update kS (Obj.mapSeq (·.push (.ref a)))).get? kS=some (seqObj "list" (List.toArray (ks++[.ref a])) c2):=⟨_,by rw[<-ea];exact get?_update_seq hkS1 (·.push (.ref a))⟩;have nak:a≠kS:=fun z=>by
   rw[z,hkS1] at ha;have:=BA (fun o:Option Obj=>o.map (·.cls)) ha;have z2:some (Value.type "list")=some (Value.type "tuple"):=this;injection z2 with z3
   injection z3 with z4
   exact absurd z4 (by decide)
  refine listUpdate_at (s:={ s with heap:=h1,toks:=tk1 }) hkS1 rfl ?_ (by rw[Ao];omega) (AW (Nat.le_of_eq (Bg ..)) (by rw[Ao];omega));refine atv K S hroom hn hb r (ks++[.ref a]) c2 { s with heap:=h1.update kS (Obj.mapSeq (·.push (.ref a))),toks:=tk1 } Q (fun b o e=>?_) hc2 (by rw[Ad,BL];omega) (fun y hy=>hp y (Ai _ hy)) fun h' tk ks2 e' kk hk' vs=>?_
  ·have nb:b≠kS:=fun z=>by rw[z,hn] at e;cases e
   exact(s1.2 b nb).trans (k1 b o (hg b o e))
  ·have keep1:∀b o,b≠kS->h1.get? b=some o->h'.get? b=some o:=fun b o nb e=>kk b o nb ((s1.2 b nb).trans e);refine q h' tk (.ref a::ks2) e' (fun b o nb e=>keep1 b o nb (k1 b o e)) (by rw[hk',Ay];rfl) ⟨⟨a,t,x.2,rfl,nak,keep1 a _ nak ha⟩,vs⟩
end
theorem amf{α β γ:Type}{F:α->β}{G:α->γ}:∀{l:List α},(∀x∈l,∀y∈l,F x=F y->G x=G y)->(l.map G).Nodup->(l.map F).Nodup
 |[],_,_=>Dp
 |a::r,h,n=>by
  rw[AE] at n ⊢;obtain⟨n1,n2⟩:=Au.mp n;refine Au.mpr ⟨fun z=>?_,amf (fun x hx y hy=>h x (Ai _ hx) y (Ai _ hy)) n2⟩;obtain⟨y,hy,e⟩:=BH.mp z;have:=h y (Ai _ hy) a (Av ..) e;exact n1 (this▸B9 hy)
theorem aud{B r1 r2 p1 p2:Int}(h1:0≤p1)(h2:p1<B)(h3:0≤p2)(h4:p2<B)(e:r1*B+p1=r2*B+p2):p1=p2:=by
 have hB:B≠0:=by omega
 have a1:(r1*B+p1) % B=p1:=by rw[Int.add_comm,Dj];exact Int.emod_eq_of_lt h1 h2
 have a2:(r2*B+p2) % B=p2:=by rw[Int.add_comm,Dj];exact Int.emod_eq_of_lt h3 h4
 rw[<-a1,e,a2]
section
variable {prog:Program}{w:World}{A:Around}{E:Value->Shared->Prop}{s:Shared}
theorem a02{g:Heap}{f:Addr}{kx px:Str}{scope:Scope}{kvs:List Value}{kS a:Addr}{rk:Nat->Int}{ps:List (Nat×Tok)}{e1 e0:Nat}{B:Int}{P:PySem.Fin->Shared->Prop}(K:KeyAt g f kx px scope kvs)(S:KeySc scope kx px)(hroom:A.depth<recursionLimit)(hn:g.get? kS=none)
 (hg:∀b o,g.get? b=some o->s.heap.get? b=some o) (hk:s.heap.get? kS=some (seqObj "list" #[] e0)) (ha:s.heap.get? a=some (seqObj "list" #[] e1)) (hka:kS≠a) (hz:ps.length≤100000)
 (hp:∀x∈ps,x.1<2 ^ 40/\∃t,kvs[x.1]?=some (.int (rk x.1) t)) (hB:∀x∈ps,((x.1:Nat):Int)<B) (nd:(ps.map (·.1)).Nodup)
 (h:∀h' tk (qs:List (Nat×Tok)) c,(∀b o,b≠kS->b≠a->s.heap.get? b=some o->h'.get? b=some o)->h'.get? a=some (seqObj "list" (qs.map itV).toArray c)->qs.Perm ps->(qs.Pairwise fun x y=>rk x.1*B+(x.1:Int)≤rk y.1*B+(y.1:Int))->P (.done (.ret .none)) { s with heap:=h',toks:=tk }):
 wpAny (model prog w) A (ksk_rest a (.ref f) false (ps.map itV).toArray e1 (.ref kS)) P E s:=by
 have big:(100000:Nat)+1≤sizeLine:=by rw[sizeLine_eq];omega
 unfold ksk_rest;refine Aa (Bl ?_);rw[List.forIn_toArray];refine Aa (atv (rk:=rk) K S hroom hn (fun x s' Q' hx=>?_) ps [] e0 s _ hg hk (by simpa using hz) hp fun h' tk ks e' keep hk' kv=>?_)
 ·refine Aa (wpAny_attempt (AV hx (fun k s'' hk=>?_) fun _ _ hF=>hF.elim))
  try dsimp only
  exact Aa (AV hk (fun _ s3 q=>Ah q) fun _ _ e=>e)
 ·try dsimp only
  rw[DM] at hk';refine Aa (listItems_at (s:={ s with heap:=h',toks:=tk }) hk' rfl ?_);have ha':h'.get? a=some (seqObj "list" #[] e1):=keep _ _ (AK hka) ha;have len:ks.length=ps.length:=kv.len;obtain⟨T,eT⟩:∃T,T=ks.zip ps:=⟨_,rfl⟩;have kT:∀t∈T,a01 h' kS rk t.1 t.2:=fun t ht=>kv.mem t (eT▸ht);have e2:T.map (·.2)=ps:=by rw[eT];exact List.map_snd_zip (by omega)
  have ez:ks.zip (ps.map itV)=T.map fun t=>(t.1,itV t.2):=by rw[eT,List.zip_map_right];rfl
  have mp:∀t∈T,t.2∈ps:=fun t ht=>by rw[<-e2];exact B9 ht
  have nT:∀t∈T,num h' B (t.1,itV t.2)=rk t.2.1*B+(t.2.1:Int):=fun t ht=>by
   obtain⟨b,tt,u,x1,x2,x3⟩:=kT t ht;exact num_of x1 x3 rfl
  have hB0:∀x∈ps,(0:Int)≤((x.1:Nat):Int):=fun _ _=>by omega
  have inj:((ks.zip (ps.map itV)).map (num h' B)).Nodup:=by
   rw[ez,BI];have e4:T.map (num h' B∘fun t=>(t.1,itV t.2))=(T.map (·.2)).map fun x:Nat×Tok=>rk x.1*B+(x.1:Int):=by
    rw[BI];exact CC fun t ht=>nT t ht
   rw[e4,e2];refine amf (G:=fun x:Nat×Tok=>x.1) (fun x hx y hy e=>?_) nd;have:=aud (hB0 x hx) (hB x hx) (hB0 y hy) (hB y hy) e;omega
  refine a1q (s:={ s with heap:=h',toks:=tk }) (vs:=ps.map itV) (ks:=ks) (B:=B) hk' ha' hka (by rw[Ae];exact len) (by rw[Ae];omega) (fun v hv=>?_) inj fun h2 tk2 xs c keep2 hc pm pw=>?_
  ·obtain⟨j,hj⟩:=List.getElem?_of_mem hv;have hjl:j<ps.length:=by rw[<-len];exact(AU.mp hj).1
   have hm:(v,ps[j])∈T:=by
    rw[eT];refine List.mem_iff_getElem?.mpr ⟨j,?_⟩;rw[List.getElem?_zip_eq_some];exact⟨hj,Aj hjl⟩
   obtain⟨b,tt,u,x1,x2,x3⟩:=kT _ hm;have x1:v=.ref b:=x1;exact⟨b,_,_,_,_,tt,u,x1,x3,rfl,rfl,by omega,hB _ (mp _ hm)⟩
  ·rw[ez] at pm;obtain⟨T',pT,eT'⟩:=ati _ pm rfl;subst eT';have mT:∀t,t∈T'->t∈T:=fun t=>pT.mem_iff.mp;refine h h2 tk2 (T'.map (·.2)) c (fun b o n1 n2 e=>?_) ?_ ?_ ?_
   ·rw[keep2 b n1 n2];exact keep b o n1 e
   ·rw[hc,BI,BI];rfl
   ·rw[<-e2];exact pT.map _
   ·refine B4.mpr (B7 (fun {x y} hx hy z=>?_) (B4.mp pw));rw[nT x (mT x hx),nT y (mT y hy)] at z;exact z
theorem w_sortedK{f l:Addr}{kx px:Str}{scope:Scope}{kvs:List Value}{rk:Nat->Int}{ps:List (Nat×Tok)}{B:Int}{Q:Value->Shared->Prop}(K:KeyAt s.heap f kx px scope kvs)(S:KeySc scope kx px)(hroom:A.in1.in1.depth<recursionLimit)
 (hl:s.heap.IsList l (ps.map itV).toArray) (hz:ps.length≤100000)
 (hp:∀x∈ps,x.1<2 ^ 40/\∃t,kvs[x.1]?=some (.int (rk x.1) t)) (hB:∀x∈ps,((x.1:Nat):Int)<B) (nd:(ps.map (·.1)).Nodup)
 (h:∀h' tk (qs:List (Nat×Tok)) D c,s.heap.objs.size≤D->(∀b o,s.heap.get? b=some o->h'.get? b=some o)->h'.get? D=some (seqObj "list" (qs.map itV).toArray c)->qs.Perm ps->(qs.Pairwise fun x y=>rk x.1*B+(x.1:Int)≤rk y.1*B+(y.1:Int))->Q (.ref D) { s with heap:=h',toks:=tk }):
 wpAny (model prog w) A (call (.builtin "sorted") [.ref l] [(Str.ofString "key",.ref f)]) Q E s:=by
 have big:(100000:Nat)+1≤sizeLine:=by rw[sizeLine_eq];omega
 have hlen:(ps.map itV).length≤100000:=by rw[Ae];exact hz
 refine call_function_entry_kw kind_sorted plain_sorted entry_sorted (ksk_s1 _ _) ?_;unfold Builtin.«sorted»;refine Aa (m:=checkCount "sorted" 1 1 _) (Ah ?_);refine Aa (collect_list hl ?_ (by omega));refine Aa (wpAny_newList ?_ (by omega));obtain⟨g1,eg⟩:∃g1,g1=(s.heap.push (seqObj "list" #[] 0)).update s.heap.objs.size (Obj.mapSeq (· ++ (ps.map itV).toArray)):=⟨_,rfl⟩;have gs:g1.objs.size=s.heap.objs.size+1:=by rw[eg,Heap.size_update,size_push']
 have gk:∀b o,s.heap.get? b=some o->g1.get? b=some o:=fun b o q=>by
  have hlt:b<s.heap.objs.size:=Heap.lt_size q;rw[eg,Heap.get?_update_ne _ _ _ _ (A3 hlt)];exact Heap.get?_push_of_some _ q
 show wpAny _ _ _ _ _ { s with heap:=((s.heap.push (seqObj "list" #[] 0)).update s.heap.objs.size (Obj.mapSeq (· ++ (ps.map itV).toArray))).push (seqObj "list" (ps.map itV).toArray 0) };rw[<-eg];have hoD:(g1.push (seqObj "list" (ps.map itV).toArray 0)).get? g1.objs.size=some (seqObj "list" (ps.map itV).toArray 0):=Heap.get?_push_size _ rfl;have keep:∀b o,s.heap.get? b=some o->(g1.push (seqObj "list" (ps.map itV).toArray 0)).get? b=some o:=fun b o q=>Heap.get?_push_of_some _ (gk b o q);refine Aa (A7 (wpAny_call_entry_kw slot_list_sort ⟨_,hoD,rfl⟩ entry_list_sort ?body (ksk_l1 _ _)))
 case body=>
  obtain⟨D,eD⟩:∃D,D=g1.objs.size:=⟨_,rfl⟩;rw[<-eD] at hoD ⊢;show wpAny (model prog w) A.in1.in1 (Builtin.«list.sort» ⟨[.ref D],[(Str.ofString "key",.ref f)]⟩) _ _ _;rw[ksk_t1];obtain⟨g2,eg2⟩:∃g2,g2=g1.push (seqObj "list" (ps.map itV).toArray 0):=⟨_,rfl⟩;rw[<-eg2] at hoD keep ⊢;have s1:=Heap.SameBut.update g2 D (Obj.mapSeq fun _=>(#[]:Array Value));obtain⟨e1,ho1⟩:∃e1,(g2.update D (Obj.mapSeq fun _=>(#[]:Array Value))).get? D=some (seqObj "list" #[] e1):=⟨_,get?_update_seq hoD fun _=>#[]⟩;have nD:∀b o,s.heap.get? b=some o->b≠D:=fun b o q z=>by
   have hlt:b<s.heap.objs.size:=Heap.lt_size q;rw[z,eD,gs] at hlt;exact Nat.not_succ_lt_self hlt
  unfold ksk_tree;refine Aa (listItems_at (s:={ s with heap:=g2 }) hoD rfl ?_);refine Aa (listUpdate_at (s:={ s with heap:=g2 }) hoD rfl ?_ (by rw[Ao];omega) (Bf _));refine Aa (seqEpoch_at ho1 rfl ?_);refine Aa (wpAny_newTuple ?_ (by show(ps.map itV).length≤_;omega));refine Aa (wpAny_newList ?_ (Bf _));refine A7 ?_;obtain⟨g3,eg3⟩:∃g3,g3=(g2.update D (Obj.mapSeq fun _=>(#[]:Array Value))).push (seqObj "tuple" (ps.map itV).toArray 0):=⟨_,rfl⟩;have k3:∀b o,s.heap.get? b=some o->g3.get? b=some o:=fun b o q=>by
   rw[eg3];exact Heap.get?_push_of_some _ ((s1.2 b (nD b o q)).trans (keep b o q))
  have d3:g3.get? D=some (seqObj "list" #[] e1):=by rw[eg3];exact Heap.get?_push_of_some _ ho1
  show wpAny (model prog w) A.in1.in1 (ksk_rest D (.ref f) false (ps.map itV).toArray _ (.ref ((g2.update D (Obj.mapSeq fun _=>(#[]:Array Value))).push (seqObj "tuple" (ps.map itV).toArray 0)).objs.size)) _ _ { s with heap:=((g2.update D (Obj.mapSeq fun _=>(#[]:Array Value))).push (seqObj "tuple" (ps.map itV).toArray 0)).push (seqObj "list" #[] 0) };rw[<-eg3];have hkS:(g3.push (seqObj "list" #[] 0)).get? g3.objs.size=some (seqObj "list" #[] 0):=Heap.get?_push_size _ rfl;refine a02 (s:={ s with heap:=g3.push (seqObj "list" #[] 0) }) (g:=s.heap) (kS:=g3.objs.size) (a:=D) (rk:=rk) (B:=B) K S hroom (Heap.get?_none_of_le ?_) (fun b o q=>Heap.get?_push_of_some _ (k3 b o q)) hkS (Heap.get?_push_of_some _ d3) ?_ hz hp hB nd fun h' tk qs c kp hD pm pw=>?_
  ·have l1:g3.objs.size=g1.objs.size+2:=by rw[eg3,size_push',Heap.size_update,eg2,size_push']
   rw[l1,gs];exact AW (Cs _) (A2 _ 2)
  ·exact(A3 (Heap.lt_size d3)).symm
  ·refine⟨_,rfl,Ah ⟨_,rfl,h h' tk qs D c (by rw[eD,gs];exact Cs _) (fun b o q=>?_) hD pm pw⟩⟩;exact kp b o (A3 (Heap.lt_size (k3 b o q))) (nD b o q) (Heap.get?_push_of_some _ (k3 b o q))
end
end TS
namespace L2
open PySem PySem.Spec PyProof.Rows
theorem ajt{i j:Int}{t u:Tok}{c:Value}(l:List Value)(h:TriplesOk l):TriplesOk (l++[.int i t,.int j u,c]):=by
 fun_induction TriplesOk l with
 |case1=>trivial
 |case2 _ _ _ _ _ rest ih=>exact ih h
 |case3=>exact h.elim
theorem ans{pos:Pos}{i j:Int}{t u:Tok}{c cv:Value}(l:List Value)(h:TriplesOk l)(e:codeAmong pos (l++[.int i t,.int j u,c])=some cv):codeAmong pos l=some cv\/cv=c:=by
 fun_induction TriplesOk l with
 |case1=>
  right;have e:(if i==pos.line&&j==pos.col then some c else none)=some cv:=e
  split at e
  ·cases e;rfl
  ·cases e
 |case2 a _ b _ d rest ih=>
  have e:(if a==pos.line&&b==pos.col then some d else codeAmong pos (rest++[.int i t,.int j u,c]))=some cv:=e;show(if a==pos.line&&b==pos.col then some d else codeAmong pos rest)=some cv\/cv=c
  split at e
  ·rename_i z;rw[AB z];exact .inl e
  ·rename_i z;rw[Ax z];exact ih h e
 |case3=>exact h.elim
structure LamC(K:Af)(cdv:Value)(P:Addr):Prop where
 ex:∃c oc,cdv=.ref c/\K.lookup c=some oc/\∀h:Heap,h.get? c=some oc->PySem.W.CodeHd h c P
 bm:∃bm ob,PySem.W.nsIn K mainGlobals "__builtins__" = some (some (.ref bm))/\bm≠builtinsNs/\bm≠mainGlobals/\K.lookup bm=some ob/\ob.cls=.type "module" /\ ob.dict=some builtinsNs/\ob.data=.plain
theorem alw:∀{l:List Nat} {us:List Value},Vals (l.map fun i:Nat=>V.int (0+(i:Int))) us->∃ps:List (Nat×Tok),us=ps.map TS.itV/\ps.map (·.1)=l
 |[],_,.nil=>⟨[],rfl,rfl⟩
 |i::r,_,.cons (b:=u) h t=>by
  obtain⟨ps,e1,e2⟩:=alw (l:=r) t;obtain⟨tk,e3⟩:=(show ∃tk,u=Value.int (0+(i:Int)) tk from h);refine⟨(i,tk)::ps,?_,by rw[AE,e2]⟩;rw[AE,e1,e3];show _=Value.int (i:Int) tk::_;rw[Dk]
theorem am0:∀ps:List (Nat×Tok),Vals (ps.map fun x=>V.int ((x.1:Nat):Int)) (ps.map TS.itV)
 |[]=>.nil
 |x::r=>.cons ⟨x.2,rfl⟩ (am0 r)
def azp(P:Addr)(q:Str)(ik:Nat)(te:TE):TE:=fun σ H Q=>te σ H fun v H1=>∃l kk,∃n:Nat,∃rks:List Int,v=.ref l/\H1 l=some (.lst ((List.range n).map fun i:Nat=>V.int (0+(i:Int))))/\σ[ik]?=some (some (.ref kk))/\H1 kk=some (.lst (rks.map V.int))/\rks.length=n/\n≤1000/\TabR H1 P q/\
 ∀H2 D (qs:List Nat),(∀b u,b≠P->H1 b=some u->H2 b=some u)->TabR H2 P q->H1 D=none->D≠P->H2 D=some (.lst (qs.map fun i:Nat=>V.int (i:Int)))->qs.Perm (List.range n)->(qs.Pairwise fun i j=>rks.getD i 0*1000000+(i:Int)≤rks.getD j 0*1000000+(j:Int))->Q (.ref D) H2
section
variable {X:Cx}
theorem arh{pins:List (Addr×Obj)}{σ:St}{H:Hp}{s:Shared}{f l kk cell c':Addr}{n:Nat}{rks:List Int}{kx px name qual:Str}{params:Arguments}{p1 p2 p3 p4 p5:Pos}{x1:Nat}{lscope:Scope}{pm ctv:Value}{Q:VK}(I:Inv X pins σ H s)(S:TS.KeySc lscope kx px)(hr:X.A.depth+3<recursionLimit)
 (hf:s.heap.get? f=some (PySem.W.kla_obj name qual params (TS.keyBody kx px p1 p2 p3 p4 p5 x1) lscope [(kx,cell)] pm c' ctv)) (hcd:s.heap.CodeRec (.ref c') qual) (hcell:s.heap.IsCell cell (some (.ref kk)))
 (hb:∀v:Value,bindArgs (PySem.W.kla_fn name qual params (TS.keyBody kx px p1 p2 p3 p4 p5 x1) lscope [(kx,cell)] pm (.ref c') ctv) ⟨[v],[]⟩=pure [(px,v)])
 (hl:H l=some (.lst ((List.range n).map fun i:Nat=>V.int (0+(i:Int))))) (hk:H kk=some (.lst (rks.map V.int))) (hn:rks.length=n) (hz:n≤1000)
 (q:∀D (qs:List Nat),H D=none->qs.Perm (List.range n)->(qs.Pairwise fun i j=>rks.getD i 0*1000000+(i:Int)≤rks.getD j 0*1000000+(j:Int))->Q (.ref D) (upd H D (.lst (qs.map fun i:Nat=>V.int (i:Int))))):
 wpAny (model X.prog X.w) X.A (call (.builtin "sorted") [.ref l] [(Str.ofString "key",.ref f)]) (EP X pins σ Q) X.xe s:=by
 obtain⟨its,rv,pl,_⟩:=I.list (SqL.of hl);obtain⟨kits,rk,pk,_⟩:=I.list (SqL.of hk);obtain⟨ps,rfl,eps⟩:=alw rv;have lk:kits.length=n:=by rw[<-rk.length,Ae,hn]
 have lp:ps.length=n:=by have:=BA List.length eps;rwa[Ae,BZ] at this
 have big:(100000:Nat)≤sizeLine:=by decide
 refine ji I.tk (TS.w_sortedK (rk:=fun i=>rks.getD i 0) (B:=1000000) (kvs:=kits) ⟨⟨name,qual,params,p1,p2,p3,p4,p5,x1,pm,ctv,c',cell,kk,hf,hcd,hcell,pk.isList,hb⟩,I.nolimit⟩ S ?_ pl.isList (by omega) (fun x hx=>?_) (fun x hx=>?_) ?_ fun h' tk qs D c hD keep hg pm' pw ht=>?_)
 ·show X.A.depth<recursionLimit;omega
 ·have hx1:x.1∈List.range n:=by rw[<-eps];exact B9 hx
  have hx2:=Bb.mp hx1;refine⟨by omega,?_⟩;have e1:(rks.map V.int)[x.1]?=some (V.int (rks.getD x.1 0)):=by
   rw[Ap,Aj (by omega),Bm,Aj (by omega)];rfl
  obtain⟨u,e2,r2⟩:=Words.Paired.getP rk e1;obtain⟨t,rfl⟩:=(show ∃t,u=Value.int (rks.getD x.1 0) t from r2);exact⟨t,e2⟩
 ·have hx1:x.1∈List.range n:=by rw[<-eps];exact B9 hx
  have hx2:=Bb.mp hx1;omega
 ·rw[eps];exact C2
 ·have hfr:H D=none:=I.hok.fresh hD;refine⟨.ref D,_,I.laid (t':=tk) (o:=.lst ((qs.map (·.1)).map fun i:Nat=>V.int (i:Int))) keep hD ?_,rfl,q D (qs.map (·.1)) hfr ?_ ?_⟩
  ·refine⟨?_,qs.map TS.itV,c,?_,hg⟩
   ·rw[Ae,Ae,pm'.length_eq];omega
   ·rw[BI];exact am0 qs
  ·rw[<-eps];exact pm'.map _
  ·exact B4.mpr pw
end
section
variable {X:Cx}
theorem Inv.tabbed{pins:List (Addr×Obj)}{σ:St}{H:Hp}{s:Shared}{P c':Addr}{ps more:Array Value}{h':Heap}{oc fo:Obj}{tk:Nat}(I:Inv X pins σ H s)(hP:H P=some (.tbl ps))(hx:Heap.ExtBut P s.heap h')(htb:h'.get? P=some (PySem.W.tabObj (ps++more)))
 (hc:s.heap.objs.size≤c') (hoc:h'.get? c'=some oc) (ht:0<tk):Inv X pins σ (upd (upd H P (.tbl (ps++more))) c' (.frz oc (.own 0))) { s with heap:=h'.push fo,toks:=tk }:=by
 have nc:H c'=none:=I.hok.fresh hc;have nP:∀b,H b=none->b≠P:=fun b e z=>by rw[z,hP] at e;cases e
 have nC:∀b u,H b=some u->b≠c':=fun b u e z=>by rw[z,nc] at e;cases e
 have oldC:∀b o,s.heap.get? b=some o->b≠c':=fun b o e=>A3 (Ak (Heap.lt_size e) hc);have kp:∀b o,b≠P->s.heap.get? b=some o->(h'.push fo).get? b=some o:=fun b o n e=>Heap.get?_push_of_some _ (hx b o n e);have nPt:∀b u,H b=some u->(∀ps,u≠.tbl ps)->b≠P:=fun b u e d z=>by rw[z,hP] at e;cases e;exact d _ rfl
 refine I.step (ch:=[]) (g':=s.gens) (d':=s.drawn) (t':=tk) (fun _ z=>nomatch z) (fun b o _ _ _ e n=>kp b o (nP b n) e) (fun b o _ _ _ e n=>⟨o.slots,kp b o (nP b n) e⟩) (fun b o _ e n=>?_) (fun b o _ e=>?_) (fun b xs e=>?_) (fun b o u e=>?_) (fun b qs e=>?_) (fun m hm=>?_) (fun b u e=>?_) I.bare ht
 ·rw[qr (oldC b o e),qr (nP b n)];exact n
 ·by_cases c:b=P
  ·subst c;exact⟨_,Heap.get?_push_of_some _ htb⟩
  ·exact⟨o,kp b o c e⟩
 ·rw[qr (nC b _ e),qr (nPt b _ e fun _ z=>by cases z)];exact e
 ·rw[qr (nC b _ e),qr (nPt b _ e fun _ z=>by cases z)];exact e
 ·rw[qr (nC b _ e)]
  by_cases c:b=P
  ·subst c;rw[hP] at e;cases e;exact⟨more,zv⟩
  ·rw[qr c];exact⟨#[],by rw[e];simp⟩
 ·exact(hm.extBut hx (nP _ I.free)).push _
 ·by_cases c:b=c'
  ·subst c;rw[zv] at e;cases e;exact⟨Heap.get?_push_of_some _ hoc,_,Heap.get?_push_of_some _ hoc⟩
  ·rw[qr c] at e
   by_cases d:b=P
   ·subst d;rw[zv] at e;cases e;exact Heap.get?_push_of_some _ htb
   ·rw[qr d] at e;refine(I.hok b u e).stay (fun a v ha r=>kp a v ?_ r) (fun a r=>?_) (fun a xs r=>?_)
    ·rcases ha with rfl | ha
     ·exact d
     ·exact nPt a _ ha fun _ z=>by cases z
    ·rw[qr (nC a _ r),qr (nPt a _ r fun _ z=>by cases z)];exact r
    ·rw[qr (nC a _ r),qr (nPt a _ r fun _ z=>by cases z)];exact r
theorem ato{e:Expr}{te:TE}{params:Arguments}{kx px:Str}{p1 p2 p3 p4 p5 lpos kpos p pos:Pos}{x1 ik:Nat}{lscope:Scope}{P:Addr}{q:Str}(hg:Gl X "sorted")(hm:X.mg "sorted" = none)(he:PE X e te)(S:TS.KeySc lscope kx px)(C:LamC X.K X.env.code P)(hr:X.A.depth+3<recursionLimit)
 (hq:X.env.qual ++ "<lambda>" = q) (hix:X.N[ik]?=some kx) (hck:X.env.scope.names.lookup kx=some .cell) (hclo:∃cell,X.env.cells.lookup kx=some cell/\closureFor lscope X.env=pure [(kx,cell)])
 (hdef:defaultsOf params X.env=([],[])) (hb:∀(name qual:Str) (cl:List (Str×Addr)) (pm cd ct v:Value),bindArgs (PySem.W.kla_fn name qual params (TS.keyBody kx px p1 p2 p3 p4 p5 x1) lscope cl pm cd ct) ⟨[v],[]⟩=pure [(px,v)])
 (h1:starEach [e] X.env=(false,eval e X.env)::starEach [] X.env:=by rfl) (h2:(backTo pos (starEach [e] X.env)).any (·.1)=false:=by rfl)
 (h3:backTo pos (starEach [e] X.env)=(false,eval e X.env)::backTo pos (starEach [] X.env):=by rfl):
 PE X (.Call (.Name "sorted" p) [e] [⟨some "key",.Lambda params (TS.keyBody kx px p1 p2 p3 p4 p5 x1) lscope lpos,kpos⟩] pos) (azp P q ik te):=by
 intro pins s σ H Q I h;refine wpAny_Call_Name_kw (adm I hg hm (by decide +kernel:bootBuiltins "sorted" = some (.builtin "sorted")) ?_ (by decide) (by decide));refine PyProof.Rows.callWith_kw ?_ h3 h2;rw[h3];refine Calls.spliced_cons (thn (he pins s σ H _ I h) fun v s1 ⟨x,H1,I1,rx,l,kk,n,rks,ev,hl,hs,hk,hn,hz,T,qq⟩=>?_);refine Calls.spliced_nil ?_;subst ev;cases (show v=Value.ref l from rx);show wpAny _ _ (evalAll ((do let v <-eval (.Lambda params (TS.keyBody kx px p1 p2 p3 p4 p5 x1) lscope lpos) X.env;standAt pos;pure v)::[])) _ _ s1;refine wpAny_evalAll_cons (Aa ?_);obtain⟨cell,ecell,eclo⟩:=hclo;obtain⟨c,oc0,ecd,lc,hC⟩:=C.ex;obtain⟨bm,ob,b1,b2,b3,b4,b5,b6,b7⟩:=C.bm;obtain⟨tps,tP,tok,tall⟩:=T;have hgs:s1.heap.Ns mainGlobals X.mg:=I1.ok.mod.glob.keeps I1.bk;have hPo:s1.heap.get? P=some (PySem.W.tabObj tps):=I1.hok P _ tP;have Chd:PySem.W.CodeHd s1.heap c P:=hC _ (I1.kIn c oc0 lc);have baseNe:∀b o,X.base.get? b=some o->b≠P:=fun b o e z=>by
  have:=(I1.bs b o e).2;rw[z,tP] at this;cases this
 have hbmB:=I1.ok.mod.kin bm ob b4;have hB:s1.heap.BuiltinsAt X.mg P:=⟨bm,ob,C5 I1.ok.mod.kin I1.ok.mod.glob b1,b2,b3,baseNe _ _ hbmB,(I1.bs _ _ hbmB).1,b5,b6,b7⟩;have hgP:mainGlobals≠P:=by
  obtain⟨o,es,ep,e,hd,_⟩:=I1.ok.mod.glob;exact baseNe _ _ e
 have hcell:s1.heap.IsCell cell (some (.ref kk)):=by
  obtain⟨m,_,hl'⟩:=I1.loc;obtain⟨u,ru,lk⟩:=hl' ik kx _ hix hs (.inr (.inl hck));cases (show u=Value.ref kk from ru);rcases lk with⟨k1,_⟩ | ⟨_,c2,e2,hc2⟩
  ·have k1:X.env.scope.names.lookup kx=some .local:=k1;rw[hck] at k1;cases k1
  ·rw[ecell] at e2;cases e2;exact hc2
 refine PySem.W.kla_eval hdef ?_;rw[hq];have fin:∀(s2:Shared) (H2:Hp) (f c':Addr) (ctv pm:Value),Inv X pins σ H2 s2->s2.heap.get? f=some (PySem.W.kla_obj "<lambda>" q params (TS.keyBody kx px p1 p2 p3 p4 p5 x1) lscope [(kx,cell)] pm c' ctv)->s2.heap.CodeRec (.ref c') q->s2.heap.IsCell cell (some (.ref kk))->
  (∀b u,b≠P->H1 b=some u->H2 b=some u)->TabR H2 P q->(∀b,H2 b=none->H1 b=none)->
  wpAny (model X.prog X.w) X.A (do standAt pos;pure (Value.ref f)) (fun v s'=>wpAny (model X.prog X.w) X.A (evalAll []) (fun vs s''=>wpAny (model X.prog X.w) X.A (call (.builtin "sorted") [.ref l] ([Str.ofString "key"].zip (v::vs))) (EP X pins σ Q) X.xe s'') X.xe s') X.xe s2:=by
  intro s2 H2 f c' ctv pm I2 g1 g2 g3 g4 g5 g6;refine Aa (wpAny_standAt (Ah (wpAny_evalAll_nil ?_)));have lP:l≠P:=fun z=>by rw[z,tP] at hl;cases hl
  have kP:kk≠P:=fun z=>by rw[z,tP] at hk;cases hk
  refine arh (n:=n) (rks:=rks) I2 S hr g1 g2 g3 (fun v=>hb _ _ _ _ _ _ v) (g4 _ _ lP hl) (g4 _ _ kP hk) hn hz fun D qs hD pm' pw=>?_;have nDP:D≠P:=fun z=>by
   obtain⟨ps2,e2,_⟩:=g5;rw[z,e2] at hD;cases hD
  refine qq _ D qs (fun b u n e=>?_) ?_ (g6 D hD) nDP zv pm' pw
  ·rw[qr (zq (g4 b u n e) hD)];exact g4 b u n e
  ·exact g5.keep (qr (AK nDP)) fun b o u e=>by rw[qr (zq e hD)];exact e
 cases hf:codeAmong lpos tps.toList with
 |some cv=>
  obtain⟨c',oc,vs,t,ecv,f1,f2,f3⟩:=tall lpos cv hf;subst ecv;refine ji I1.tk (PySem.W.kla_makeFunctionHit (mg:=X.mg) eclo I1.ok.glob hgs ecd Chd hPo tok hf hB fun ctv h' tk hk' hsz ht=>?_);have I2:Inv X pins σ H1 { s1 with heap:=h'.push { cls:=.type "function",data:=.func (PySem.W.kla_fn "<lambda>" q params (TS.keyBody kx px p1 p2 p3 p4 p5 x1) lscope [(kx,cell)] ((X.mg "__name__").getD .none) (.ref c') ctv) },toks:=tk }:=I1.kept (t':=tk) fun b o e=>Heap.get?_push_of_some _ (hk' b o e);obtain⟨hoc,_⟩:=I2.hok c' _ f1;refine fin _ H1 _ c' ctv _ I2 (Heap.get?_push_size _ rfl) ⟨c',oc,vs,t,rfl,hoc,f2,f3⟩ ?_ (fun b u _ e=>e) ⟨tps,tP,tok,tall⟩ (fun b e=>e);obtain⟨o,e1,e2⟩:=hcell;exact⟨o,Heap.get?_push_of_some _ (hk' _ _ e1),e2⟩
 |none=>
  refine ji I1.tk (PySem.W.kla_makeFunction (mg:=X.mg) eclo I1.ok.glob hgs ecd Chd hPo tok hf hgP hB fun c' ctv h' tk hx hge hlt hrec htb ht=>?_);obtain⟨c2,oc,vs,t,e2,hoc,f2,f3⟩:=hrec;cases e2;have I2:=I1.tabbed (fo:=PySem.W.kla_obj "<lambda>" q params (TS.keyBody kx px p1 p2 p3 p4 p5 x1) lscope [(kx,cell)] ((X.mg "__name__").getD .none) c' ctv) tP hx htb hge hoc ht;have nc:H1 c'=none:=I1.hok.fresh hge;have cP:c'≠P:=fun z=>by rw[z,tP] at nc;cases nc
  refine fin _ _ _ c' ctv _ I2 (Heap.get?_push_size _ rfl) ⟨c',oc,vs,t,rfl,Heap.get?_push_of_some _ hoc,f2,f3⟩ ?_ (fun b u n e=>?_) ?_ (fun b e=>?_)
  ·obtain⟨o,e1,e2⟩:=hcell;have nP:cell≠P:=fun z=>by
    have:=I1.freeC kx cell ecell;rw[z,tP] at this;cases this
   exact⟨o,Heap.get?_push_of_some _ (hx _ _ nP e1),e2⟩
  ·rw[qr (zq e nc),qr n];exact e
  ·refine⟨tps++#[rawInt lpos.line,rawInt lpos.col,.ref c'],by rw[qr (AK cP),zv],?_,fun pos' cv z=>?_⟩
   ·rw[AZ];exact ajt _ tok
   ·rw[AZ] at z;rcases ans _ tok z with z | z
    ·obtain⟨d',od,vs',t',k1,k2,k3⟩:=tall pos' cv z;have nP:d'≠P:=fun z=>by rw[z,tP] at k2;cases k2
     exact⟨d',od,vs',t',k1,by rw[qr (zq k2 nc),qr nP];exact k2,k3⟩
    ·exact⟨c',oc,vs,t,z,zv,f2,f3⟩
  ·by_cases d:b=c'
   ·subst d;exact nc
   ·rw[qr d] at e
    by_cases d2:b=P
    ·subst d2;rw[zv] at e;cases e
    ·rw[qr d2] at e;exact e
end
end L2
namespace L3
open PySem L2
def au9(Pt:Addr)(q:Str)(ik:Nat)(te:TE3)(τ:St3)(L:LHp)(Q:YK):Prop:=te τ L fun y L1=>match y with
 |.ref l=>ac7 L1 l fun ys=>∃(n:Nat) (rks:List Int) (kk:Addr),ys=aa5 0 n/\ano τ ik=some (.ref kk)/\L1 kk=some (.lst (rks.map Y.int))/\rks.length=n/\n≤1000/\L1 Pt=some (.tb q)/\
  ∀(D:Addr) (qs:List Nat),L1 D=none->qs.Perm (List.range n)->(qs.Pairwise fun i j=>rks.getD i 0*1000000+(i:Int)≤rks.getD j 0*1000000+(j:Int))->Q (.ref D) (qh L1 D (.lst (qs.map fun i:Nat=>Y.int (i:Int))))
 |_=>False
theorem aj1{G:G3}{H:Hp}:∀{l:List Nat} {xs:List V},RVs G H (l.map fun i:Nat=>Y.int (0+(i:Int))) xs->xs=l.map fun i:Nat=>V.int (0+(i:Int))
 |[],_,h=>h
 |_::_,_,⟨x,xs',e,r,s⟩=>by
  subst e;cases r;rw[aj1 s];rfl
theorem aea{G:G3}{H:Hp}:∀{l:List Int} {xs:List V},RVs G H (l.map Y.int) xs->xs=l.map V.int
 |[],_,h=>h
 |_::_,_,⟨x,xs',e,r,s⟩=>by
  subst e;cases r;rw[aea s];rfl
theorem ani{G:G3}{H:Hp}:∀qs:List Nat,RVs G H (qs.map fun i:Nat=>Y.int (i:Int)) (qs.map fun i:Nat=>V.int (i:Int))
 |[]=>rfl
 |_::r=>⟨_,_,rfl,rfl,ani r⟩
theorem aue{X:Cx}{e:Expr}{te:TE3}{params:Arguments}{kx px:Str}{p1 p2 p3 p4 p5 lpos kpos p pos:Pos}{x1 ik:Nat}{lscope:Scope}{Pt:Addr}{q:Str}(hg:Gl X "sorted")(hm:X.mg "sorted" = none)(he:QE X e te)(S:TS.KeySc lscope kx px)(C:LamC X.K X.env.code Pt)(hr:X.A.depth+3<recursionLimit)
 (hq:X.env.qual ++ "<lambda>" = q) (hix:X.N[ik]?=some kx) (hck:X.env.scope.names.lookup kx=some .cell) (hclo:∃cell,X.env.cells.lookup kx=some cell/\closureFor lscope X.env=pure [(kx,cell)])
 (hdef:defaultsOf params X.env=([],[])) (hb:∀(name qual:Str) (cl:List (Str×Addr)) (pm cd ct v:Value),bindArgs (PySem.W.kla_fn name qual params (TS.keyBody kx px p1 p2 p3 p4 p5 x1) lscope cl pm cd ct) ⟨[v],[]⟩=pure [(px,v)])
 (h1:starEach [e] X.env=(false,eval e X.env)::starEach [] X.env:=by rfl) (h2:(backTo pos (starEach [e] X.env)).any (·.1)=false:=by rfl)
 (h3:backTo pos (starEach [e] X.env)=(false,eval e X.env)::backTo pos (starEach [] X.env):=by rfl):
 QE X (.Call (.Name "sorted" p) [e] [⟨some "key",.Lambda params (TS.keyBody kx px p1 p2 p3 p4 p5 x1) lscope lpos,kpos⟩] pos) (au9 Pt q ik te):=
 PE.imp (ato hg hm he S C hr hq hix hck hclo hdef hb h1 h2 h3) fun σ H Q ⟨τ,L,Q3,rs,rl,z,k⟩=>by
  refine⟨τ,L,_,rs,rl,z,fun v H1 y L1 t1 rl1 rv z=>?_⟩;cases y with
  |ref l=>
   obtain⟨ys,e1,n,rks,kk,rfl,e2,e3,hn,hz,eP,qq⟩:=x8 z;cases rv;obtain⟨xs,h1,r1⟩:=rl1 l _ e1;obtain⟨xk,h2,r2⟩:=rl1 kk _ e3;have T:TabR H1 Pt q:=rl1 Pt _ eP;cases aj1 r1;cases aea r2;obtain⟨v,hv,rv⟩:=rs.get ik _ (akc _ _ e2);cases rv;refine⟨l,kk,n,rks,rfl,h1,hv,h2,hn,hz,T,fun H2 D qs kp T2 hD nDP hD2 pm pw=>?_⟩;have tb:∃ps,H1 Pt=some (.tbl ps):=let ⟨ps,e,_⟩:=T;⟨ps,e⟩;have t2:TSt H1 H2:=fun a u i h=>kp a u (fun c=>by
    obtain⟨ps,e⟩:=tb;rw[c,e] at h;cases h;cases i) h
   refine k _ _ _ _ (t1.trans t2) (fun a u e=>?_) (by rfl) (qq D qs (rl1.none hD) pm pw)
   by_cases c:a=D
   ·subst c;rw[q9] at e;cases e;exact⟨_,hD2,ani qs⟩
   ·rw[qd c] at e
    by_cases d:a=Pt
    ·subst d;rw[eP] at e;cases e;exact T2
    ·obtain⟨x,hx⟩:=(rl1 a u e).ex;exact(rl1 a u e).keep t2 (by rw[hx];exact kp a x d hx)
  |_=>exact z.elim
structure FunT(K:Af)(x qual:Str)(st:Stmt)(f:Addr)(fd:FuncData)(Pt:Addr):Prop where
 ex:∃(oc:Value) (od:Option Addr) (kV doc pm:Value) (an:Option Addr) (cdv ct:Value) (osl:Array (Option Value)),
  fd=PySem.W.fnOf x qual (vc st) (qw st) (qg st) .none kV doc pm an cdv ct/\K.lookup f=some ⟨oc,od,.func fd,osl⟩/\PySem.W.codeIn K cdv qual=true/\LamC K cdv Pt
 kp:PySem.W.keepIn K (.ref f)=true
theorem a1z{P:Program}{w:World}{K:Af}{mg:Str->Option Value}{base:Heap}{x qual:Str}{st:Stmt}{f:Addr}{fd:FuncData}{N ps:List Str}{k:Nat}{sp:Sp3}{Pt:Addr}(F:FunT K x qual st f fd Pt)(S:FnScope N ps (qg st))(len:∀ys L Q,sp ys L Q->ys.length=ps.length)
 (hbody:∀(cdv:Value) (A:Around) (outer:List Env) (s:Shared) (H:Hp) (E:XK),LamC K cdv Pt->Room k (A.deeper (PyProof.Rows.envOfC qual (qg st) s.heap.objs.size f cdv))->
  ∃t,QSs (xx CX0 P w K mg base N qual (qg st) f cdv A outer s H E).nox (qw st) t/\∀ys L Q,sp ys L Q->t { nx:=fun _ L'=>aiu Q .non L',rt:=aiu Q } (af7 N ys) L):Fn3 P w K mg base (k+1) f fd ps sp:=by
 obtain⟨oc,od,kV,doc,pm,an,cdv,ct,osl,rfl,lk,hcd,C⟩:=F.ex;have F0:Fun K x qual st f _:=⟨⟨oc,od,kV,doc,pm,an,cdv,ct,osl,rfl,lk,hcd⟩,F.kp⟩;refine axv lk hcd S (fun vs H Q E ⟨ys,L,Q3,rv,rl,z,_⟩=>by rw[<-rv.length];exact len ys L Q3 z) fun A outer s H vs Q E hr ⟨ys,L,Q3,rv,rl,z,k⟩=>?_;obtain⟨t,ht,q⟩:=hbody cdv A outer s H E C hr;refine⟨_,PSs.nox ht,af7 N ys,L,_,ajl rv,rl,q ys L Q3 z,?_⟩;exact⟨fun σ H' τ L' t' rs' rl' ⟨L2,s2,q2⟩=>k .non H' .non L2 t' (rl'.sub s2) (by rfl) q2,fun v H' y L' t' rl' rv' ⟨L2,s2,q2⟩=>k v H' y L2 t' (rl'.sub s2) rv' q2,fun _ _ _ _ _ _ _ z=>z.elim,fun _ _ _ _ _ _ _ z=>z.elim⟩
def ajp(Pt:Addr)(q:Str):Sp3:=fun ys L Q=>∃ns:List Int,ys=[.sq (ns.map Y.int)]/\ns.length≤63/\L=qh (fun _=>none) Pt (.tb q)/\∀L',Q (.bl true) L'
def spTopT(q:Str)(K:Af)(Pt:Addr):Sp:=fun vs H Q _=>∃(a:Addr) (ns:List Int),vs=[.ref a]/\SqF K H a (ns.map V.int)/\ns.length≤63/\H Pt=some (.tbl #[])/\∀H',Q (.bl true) H'
theorem avk{q:Str}{G:G3}{Pt:Addr}{vs:List V}{H:Hp}{Q:VK}{E:XK}(h:spTopT q G.K Pt vs H Q E):dn G (ajp Pt q) vs H Q E:=by
 obtain⟨a,ns,rfl,hs,hl,hP,z⟩:=h;refine⟨[.sq (ns.map Y.int)],qh (fun _=>none) Pt (.tb q),fun y _=>y=.bl true,RVs.one ⟨a,_,rfl,hs,amp ns⟩,(fun b u e=>?_),⟨ns,rfl,hl,rfl,fun _=>rfl⟩,?_⟩
 ·by_cases c:b=Pt
  ·subst c;rw[q9] at e;cases e;exact⟨#[],hP,trivial,fun pos cv z=>by cases z⟩
  ·rw[qd c] at e;cases e
 ·rintro v H' y L' _ _ rv rfl;cases rv;exact z H'
end L3
namespace L2
open PySem PySem.Spec PyProof.Rows
def lessK(Pt:Addr):Af->Af
 |[]=>[]
 |(a,o)::r=>if a==Pt then lessK Pt r else(a,o)::lessK Pt r
theorem v5{Pt a:Addr}(h:a≠Pt):∀K:Af,(lessK Pt K).lookup a=K.lookup a
 |[]=>rfl
 |(b,o)::r=>by
  unfold lessK
  by_cases c:(b==Pt)=true
  ·rw[AB c,v5 h r,Br];have:(a==b)=false:=by
    have hb:=eq_of_beq c;subst hb;exact DN h
   rw[this]
  ·rw[Ax c,Br,Br,v5 h r]
theorem wr{Pt:Addr}:∀K:Af,(lessK Pt K).lookup Pt=none
 |[]=>rfl
 |(b,o)::r=>by
  unfold lessK
  by_cases c:(b==Pt)=true
  ·rw[AB c];exact wr r
  ·rw[Ax c,Br];have:(Pt==b)=false:=by
    cases d:Pt==b with
    |false=>rfl
    |true=>exact absurd (beq_iff_eq.mpr (eq_of_beq d).symm) c
   rw[this];exact wr r
theorem ai7{Pt a:Addr}{K:Af}{o:Obj}(e:(lessK Pt K).lookup a=some o):a≠Pt/\K.lookup a=some o:=by
 by_cases c:a=Pt
 ·subst c;rw[wr] at e;cases e
 ·rw[v5 c] at e;exact⟨c,e⟩
theorem lessK_in{Pt:Addr}{K:Af}{h:Heap}(X:K.In h):(lessK Pt K).In h:=fun a o e=>X a o (ai7 e).2
structure TabIn(K:Af)(Pt:Addr):Prop where
 tab:K.lookup Pt=some (PySem.W.tabObj #[])
 hd:∃c,∀h:Heap,K.In h->PySem.W.CodeHd h c Pt
 st:Pt≠cStatics
section
variable {K:Af}{Pt:Addr}(T:K.lookup Pt=some (PySem.W.tabObj #[]))
include T
theorem ns_dn{a:Addr}{x:Str}{r:Option (Option Value)}(e:PySem.W.nsIn K a x=r):PySem.W.nsIn (lessK Pt K) a x=r:=by
 rw[<-e];unfold PySem.W.nsIn
 by_cases c:a=Pt
 ·subst c;rw[wr,T]
 ·rw[v5 c]
theorem lk_dn{a:Addr}{o:Obj}(e:K.lookup a=some o)(n:o.cls≠.none):(lessK Pt K).lookup a=some o:=by
 rw[v5 ?_]
 ·exact e
 ·rintro rfl;rw[T] at e;cases e;exact n rfl
theorem code_dn{cd:Value}{q:Str}(e:PySem.W.codeIn K cd q=true):PySem.W.codeIn (lessK Pt K) cd q=true:=by
 unfold PySem.W.codeIn at e ⊢
 split at e
 ·rename_i c
  by_cases d:c=Pt
  ·subst d;rw[T] at e;simp at e
  ·rw[v5 d];exact e
 ·cases e
theorem ayo{x:Str}{v:Value}:PySem.W.ownIn (lessK Pt K) x v=PySem.W.ownIn K x v:=by
 unfold PySem.W.ownIn
 split
 ·rfl
 ·rename_i a
  by_cases d:a=Pt
  ·subst d;rw[wr,T]
  ·rw[v5 d]
   split
   ·exact ns_dn T rfl
   ·rfl
 ·rfl
theorem alj{x:Str}:∀l:List Value,PySem.W.alongIn (lessK Pt K) x l=PySem.W.alongIn K x l
 |[]=>rfl
 |c::r=>by
  unfold PySem.W.alongIn;rw[ayo T,alj r]
theorem awm{x:Str}{v:Value}:PySem.W.findIn (lessK Pt K) v x=PySem.W.findIn K v x:=by
 unfold PySem.W.findIn
 split
 ·rfl
 ·rename_i a
  by_cases d:a=Pt
  ·subst d;rw[wr,T]
  ·rw[v5 d]
   split
   ·exact alj T _
   ·rfl
 ·rfl
theorem anx{a:Addr}{x:Str}(n:a≠Pt):PySem.W.specialIn (lessK Pt K) (.ref a) x=PySem.W.specialIn K (.ref a) x:=by
 unfold PySem.W.specialIn PySem.W.typeIn;dsimp only;rw[v5 n];congr 1;funext t;exact awm T
theorem keep_dn{f:Value}(e:PySem.W.keepIn K f=true):PySem.W.keepIn (lessK Pt K) f=true:=by
 unfold PySem.W.keepIn at e ⊢
 split at e
 ·rename_i a
  by_cases d:a=Pt
  ·subst d;rw[T] at e;simp at e
  ·rw[v5 d,anx T d];exact e
 ·cases e
end
theorem arl{P:Program}{w:World}{K:Af}{Pt:Addr}{mg mb:Str->Option Value}{CX:CXT}{k:Nat}{fa a:Addr}{fd:FuncData}{x:Str}{sp:Sp}{s₁:Shared}{vs:List Value}{ns:List Int}
 (KX:K.In s₁.heap) (TI:TabIn K Pt) (hns:s₁.heap.Ns mainGlobals mg) (hb:s₁.heap.Ns builtinsNs mb) (hbb:∀x:Str,x ≠ "__name__" -> mb x=bootBuiltins x) (hlim:s₁.heap.NoLimit) (hg:s₁.gens=#[]) (htk:0<s₁.toks)
 (ha:s₁.heap.get? a=some { cls:=.type "list",data:=.seq vs.toArray }) (hi:IntsAre vs ns) (hl:ns.length≤sizeLine) (hr:Room k callerA)
 (F:∀base:Heap,(lessK Pt K).In base->base.Ns mainGlobals mg->FnOk P w (lessK Pt K) mg base CX k fa fd [x] sp) (hbind:∀(s:Shared) (u:Value),BindsTo s fd ⟨[u],[]⟩ [(x,u)])
 (hsp:∀H:Hp,H Pt=some (.tbl #[])->(H a=none\/∃o xs,H a=some (.frz o (.lst xs)))->SqL (lessK Pt K) H a (ns.map V.int)->sp [.ref a] H (fun v _=>v=.bl true) fun _ _ _=>False)
 (hCX:∀H e s',CX [] H s₁ (fun _ _ _=>False) e s'->False):
 codeAny (model P w) callerA (.call (.ref fa) ⟨[.ref a],[]⟩) (fun r s'=>r=.ok (.ret (.bool true))/\OldK s₁.heap s'.heap/\s'.os=s₁.os/\AllBare s'.gens) s₁:=by
 have rv:=ajb hi;have lenV:=hi.length;have hP:s₁.heap.get? Pt=some (PySem.W.tabObj #[]):=KX Pt _ TI.tab;have naP:a≠Pt:=fun z=>by rw[z,hP] at ha;cases ha
 have core:∀H:Hp,H Pt=some (.tbl #[])->(∀b,b≠a->b≠Pt->H b=none)->(H a=none\/∃o xs,H a=some (.frz o (.lst xs)))->SqL (lessK Pt K) H a (ns.map V.int)->(∀u,H a=some u->ObjOk P w H s₁.heap a u)->(H a≠none->K.lookup a=none)->
  codeAny (model P w) callerA (.call (.ref fa) ⟨[.ref a],[]⟩) (fun r s'=>r=.ok (.ret (.bool true))/\OldK s₁.heap s'.heap/\s'.os=s₁.os/\AllBare s'.gens) s₁:=by
  intro H HP Hn HO HS hoka hka;have hok:HOk P w H s₁.heap:=fun b u e=>by
   by_cases c:b=a
   ·subst c;exact hoka u e
   ·by_cases d:b=Pt
    ·subst d;rw[HP] at e;cases e;exact hP
    ·rw[Hn b c d] at e;cases e
  have base_of:∀{b:Addr} {o:Obj},s₁.heap.get? b=some o->H b=none->(aju s₁.heap H).get? b=some o:=fun e n=>asm e n;have noA:∀{b:Addr} {o:Obj} {es:Array DictEntry} {ep:Nat},s₁.heap.get? b=some o->o.data=.dict es ep->H b=none:=fun {b o es ep} e d=>by
   refine Hn b (fun z=>?_) fun z=>?_
   ·subst z;rw[ha] at e;cases e;have d':Data.seq vs.toArray _=Data.dict es ep:=d;cases d'
   ·subst z;rw[hP] at e;cases e;have d':Data.fields _=Data.dict es ep:=d;cases d'
  have nsK:∀{b:Addr} {m:Str->Option Value},s₁.heap.Ns b m->(aju s₁.heap H).Ns b m:=fun {b m} ⟨o,es,ep,e,d,r⟩=>⟨o,es,ep,base_of e (noA e d),d,r⟩;have hKb:(lessK Pt K).In (aju s₁.heap H):=fun b o e=>by
   obtain⟨n,e⟩:=ai7 e;refine base_of (KX b o e) ?_
   by_cases c:b=a
   ·subst c;cases q:H b with
    |none=>rfl
    |some u=>rw[hka (by rw[q];simp)] at e;cases e
   ·exact Hn b c n
  have hM:Mod (lessK Pt K) mg (aju s₁.heap H):=⟨hKb,nsK hns,⟨mb,nsK hb,hbb⟩,let ⟨mc,h1,h2⟩:=hlim;⟨mc,nsK h1,h2⟩⟩;have e0:Env0 P w (lessK Pt K) mg (aju s₁.heap H) callerA [] s₁ H:=⟨rfl,hM,fun b o e=>aus e,Nat.le_of_eq (ar3 _ _),trivial,fun b hb=>absurd (show b∈([]:List Addr) from hb) (by simp),hok,.of_eq hg,htk⟩;refine codeAny_mono ((F _ hKb (nsK hns)).run callerA [] s₁ H ⟨[.ref a],[]⟩ [.ref a] [.ref a] _ _ hr e0 (hbind s₁ (.ref a)) (.cons rfl .nil) (hsp H HP HO HS)) fun r s' h=>?_;cases r with
  |error e=>exact(hCX H e s' h).elim
  |ok fl=>
   cases fl with
   |next=>exact False.elim h
   |brk=>exact False.elim h
   |cont=>exact False.elim h
   |ret u=>
    obtain⟨v,H',os,bare,un,hok',r',q,_⟩:=h;have q':v=.bl true:=q;subst q';obtain rfl:u=Value.bool true:=r';obtain⟨more,em⟩:=un.tbls Pt _ HP;have gP:s'.heap.get? Pt=some (PySem.W.tabObj (#[]++more)):=hok' Pt _ em;have kp:∀b o,b≠Pt->s₁.heap.get? b=some o->s'.heap.get? b=some o:=fun b o n e=>by
     have un1:H b=none->s'.heap.get? b=some o:=fun z=>un.keep b o e z (by intro z;exact absurd (show b∈([]:List Addr) from z) (by simp)) (by simp)
     by_cases c:b=a
     ·subst c;rcases HO with z | ⟨ob,xs,z⟩
      ·exact un1 z
      ·have z2:=un.frzs _ _ _ z;obtain⟨e1,_⟩:=hok _ _ z;obtain⟨e2,_⟩:=hok' _ _ z2;rw[e] at e1;cases e1;exact e2
     ·exact un1 (Hn b c n)
    obtain⟨c,hc⟩:=TI.hd;refine⟨rfl,⟨fun b o e=>?_,fun b o e=>?_⟩,os,bare⟩
    ·by_cases n:b=Pt
     ·subst n;rw[hP] at e;cases e;exact .inr (.inl ⟨((hc _ KX).tab hP).isCodeTable,rfl,#[],more,rfl,gP⟩)
     ·exact .inl (kp b o n e)
    ·by_cases n:b=Pt
     ·subst n;exact⟨_,gP⟩
     ·exact⟨o,kp b o n e⟩
 cases hk:K.lookup a with
 |some o=>
  have e:=KX a o hk;rw[ha] at e;cases e;refine core (fun b=>if b=Pt then some (.tbl #[]) else none) (AB rfl) (fun b _ n=>Ax n) (.inl (Ax naP)) (.inr ⟨_,vs.toArray,_,(v5 naP K).trans hk,rfl,rfl,rfl,by rw[Ao,lenV];exact hl,by simpa using rv⟩) (fun u z=>by have z':=(Ax naP).symm.trans z;cases z') fun z=>absurd (Ax naP) z
 |none=>
  refine core (fun b=>if b=a then some (.frz { cls:=.type "list",data:=.seq vs.toArray } (.lst (ns.map V.int))) else if b=Pt then some (.tbl #[]) else none) ((Ax (AK naP)).trans (AB rfl)) (fun b n1 n2=>(Ax n1).trans (Ax n2)) (.inr ⟨_,_,AB rfl⟩) (.inl (.inr ⟨_,AB rfl⟩)) (fun u z=>?_) fun _=>hk;have z':=(AB rfl).symm.trans z;cases z';exact⟨ha,by rw[Ae];exact hl,vs,_,rv,ha⟩
theorem walk_ofZT{l:PySem.W.OpenLaw}{n k:Nat}{q:Program}{loose:List Str}{XP:(Str->Option Value)->Heap->Prop}{as0:List Addr}{N t:Nat}{d:DefRec}{K:Params->Af}{CX:CXT}{sp:Af->Addr->Sp}{x:Str}
 (hn:l.most=some n) (hn2:n≤sizeLine) (hdf:d.params.defaults=[]) (hr:Room k callerA) (ek:∀P,as0=(K P).map (·.1)) (htk:0<t)
 (F:∀(w:World) (mg:Str->Option Value) (fa:Addr) (h:Heap),(K w.params).In h->h.Ns mainGlobals mg->mg d.name=some (.ref fa)->
  ∃Pt:Addr,TabIn (K w.params) Pt/\∃fd:FuncData,(∀(s:Shared) (u:Value),BindsTo s fd ⟨[u],[]⟩ [(x,u)])/\
   ∀base:Heap,(lessK Pt (K w.params)).In base->base.Ns mainGlobals mg->FnOk l.prog w (lessK Pt (K w.params)) mg base CX k fa fd [x] (sp (lessK Pt (K w.params)) Pt))
 (hsp:∀(K:Af) (Pt:Addr) (H:Hp) (a:Addr) (ns:List Int),ns.length≤n->H Pt=some (.tbl #[])->(H a=none\/∃o xs,H a=some (.frz o (.lst xs)))->SqL K H a (ns.map V.int)->sp K Pt [.ref a] H (fun v _=>v=.bl true) fun _ _ _=>False)
 (hCX:∀(H:Hp) (s:Shared) (e:Value) (s':Shared),CX [] H s (fun _ _ _=>False) e s'->False):
 PySem.W.WalkX q loose XP (PySem.W.X.obsZ as0) (PySem.W.X.valZ K N t) l.row.toRowW d [] (fun f vs=>PySem.call f vs):=by
 refine Att.attach_callZ hn hdf ek htk fun w s₀ s₁ mg mb fa o pm cd doc a vs ns G KX tk ho hd hcd hmg hobj hints hlen hg=>?_;obtain⟨Pt,TI,fd,hb,hF⟩:=F w mg fa _ KX G.T.g hmg;exact arl KX TI G.T.g G.T.b G.T.builtins G.T.nolimit hg tk hobj hints (AW hlen hn2) hr hF hb (fun H hP hO hS=>hsp _ Pt H a ns hlen hP hO hS) fun H e s'=>hCX H s₁ e s'
end L2
namespace L3
open PySem L2
theorem top_startT{q:Str}:∀(K:Af) (Pt:Addr) (H:Hp) (a:Addr) (ns:List Int),ns.length≤63->H Pt=some (.tbl #[])->(H a=none\/∃o xs,H a=some (.frz o (.lst xs)))->SqL K H a (ns.map V.int)->spTopT q K Pt [.ref a] H (fun v _=>v=.bl true) fun _ _ _=>False:=by
 intro K Pt H a ns hl hP hO hS;refine⟨a,ns,rfl,?_,hl,hP,fun _=>rfl⟩;rcases hS with(h | ⟨o,h⟩) | h
 ·rcases hO with z | ⟨o,xs,z⟩<;>rw[h] at z<;>cases z
 ·exact .inl ⟨o,h⟩
 ·exact .inr h
structure DefInT(K:Af)(x:Str)(st:Stmt)(Pt:Addr):Prop where
 ex:∃(f:Addr) (kV doc pm:Value) (an:Option Addr) (cdv ct:Value),PySem.W.nsIn K mainGlobals x=some (some (.ref f))/\FunT K x x st f (PySem.W.fnOf x x (vc st) (qw st) (qg st) .none kV doc pm an cdv ct) Pt
theorem DefInT.use{K:Af}{x:Str}{st:Stmt}{Pt:Addr}{ps:List Str}{h:Heap}{mg:Str->Option Value}(D:DefInT K x st Pt)(X:K.In h)(G:h.Ns mainGlobals mg)
 (hb:∀(kV doc pm:Value) (an:Option Addr) (cdv ct:Value) (us:List Value),us.length=ps.length->bindArgs (PySem.W.fnOf x x (vc st) (qw st) (qg st) .none kV doc pm an cdv ct) ⟨us,[]⟩=pure (ps.zip us)):
 ∃f fd,FunT K x x st f fd Pt/\Binds K fd ps []/\mg x=some (.ref f):=by
 obtain⟨f,kV,doc,pm,an,cdv,ct,a,F⟩:=D.ex;exact⟨f,_,F,.all (hb kV doc pm an cdv ct),C5 X G a⟩
end L3
namespace L2
open PySem PySem.Spec PyProof.Rows
section
variable {X:Cx}{pins:List (Addr×Obj)}{σ σ':St}{H:Hp}{s:Shared}
theorem Inv.ren(M:List Str)(I:Inv X pins σ H s)(hl:M.length=X.N.length)(hs:σ'.length=σ.length)(h:∀(j:Nat) v,σ'[j]?=some (some v)->σ[j]?=some (some v)/\X.N[j]?=M[j]?):Inv { X with N:=M } pins σ' H s:=by
 obtain⟨m,hm,l⟩:=I.loc;have o:=I.ok;exact { ok:=⟨o.mod,o.kind,o.glob,o.blt,o.above,o.inj,o.has,o.cab,o.hd,o.frames,o.stk,o.exf,o.bs,o.bsz,o.noex,o.exfs,o.funs,o.frf⟩,os:=I.os,bare:=I.bare,base:=I.base,cell:=I.cell,free:=I.free,freeC:=I.freeC,pin:=I.pin,hok:=I.hok,tk:=I.tk,len:=(by rw[hs,I.len];exact hl.symm),loc:=⟨m,hm,fun i x v e1 e2 e3=>by obtain⟨a,b⟩:=h i v e2;exact l i x v (b.trans e1) a e3⟩ }
theorem ame{i:Nat}{σ:St}{j:Nat}{v:V}(h:(σ.set i none)[j]?=some (some v)):j≠i/\σ[j]?=some (some v):=by
 by_cases c:i=j
 ·subst c;rw[DF] at h;cases e:σ[i]? with
  |none=>rw[e] at h;cases h
  |some o=>rw[e] at h;cases h
 ·rw[Bi c] at h;exact⟨AK c,h⟩
def a0c(i:Nat)(t:TS):TS:=fun D σ H=>t { nx:=fun σ' H'=>D.nx (σ'.set i none) H',rt:=D.rt,bk:=fun σ' H'=>D.bk (σ'.set i none) H',ct:=fun σ' H'=>D.ct (σ'.set i none) H' } (σ.set i none) H
theorem aw5{i:Nat}{x:Str}{st:Stmt}{t:TS}(h:PS { X with N:=X.N.set i x } st t):PS X st (a0c i t):=by
 intro pins s σ H D I z;have I':Inv { X with N:=X.N.set i x } pins (σ.set i none) H s:=I.ren _ (by rw[BY]) (by rw[BY]) fun j v e=>by
  obtain⟨a,b⟩:=ame e;exact⟨b,by rw[Bi (AK a)]⟩
 refine thn (h pins s _ H _ I' z) fun f s' q=>?_;have back:∀{σ':St} {H':Hp},Inv { X with N:=X.N.set i x } pins σ' H' s'->Inv X pins (σ'.set i none) H' s':=fun {σ' H'} J=>
  Inv.ren (X:={ X with N:=X.N.set i x }) X.N J (by show X.N.length=(X.N.set i x).length;rw[BY]) (by rw[BY]) fun j v e=>by
   obtain⟨a,b⟩:=ame e;exact⟨b,by show(X.N.set i x)[j]?=_;rw[Bi (AK a)]⟩
 cases f with
 |next=>obtain⟨σ',H',J,q⟩:=q;exact⟨_,H',back J,q⟩
 |brk=>obtain⟨σ',H',J,q⟩:=q;exact⟨_,H',back J,q⟩
 |cont=>obtain⟨σ',H',J,q⟩:=q;exact⟨_,H',back J,q⟩
 |ret u=>obtain⟨v,σ',H',J,r,q⟩:=q;exact⟨v,_,H',back J,r,q⟩
def a1b(i j k:Nat)(ta:TA):TS:=fun D σ H=>ta σ H fun vs H1=>∃u v w,vs=[u,v,w]/\D.nx (((σ.set i (some u)).set j (some v)).set k (some w)) H1
theorem awp{i j k:Nat}{x y z:Str}{a b c:Expr}{ta:TA}{px py pz pt pos:Pos}{kt k2 pt2}(hc:X.calm=true)(hN:X.N.Nodup)(hi:X.N[i]?=some x)(hj:X.N[j]?=some y)(hk:X.N[k]?=some z)(hij:i≠j)(hik:i≠k)(hjk:j≠k)
 (hx:X.env.scope.names.lookup x=some .local) (hy:X.env.scope.names.lookup y=some .local) (hz:X.env.scope.names.lookup z=some .local) (ha:PA X [a,b,c] ta)
 (hw:swappedStores [.Tuple [.Name x px,.Name y py,.Name z pz] kt pt] (.Tuple [a,b,c] k2 pt2) X.env=pure (some [x,y,z]))
 (hs:swapsWithSole [.Tuple [.Name x px,.Name y py,.Name z pz] kt pt] (.Tuple [a,b,c] k2 pt2) pos.line X.env=pure false:=by rfl):
 PS X (.Assign [.Tuple [.Name x px,.Name y py,.Name z pz] kt pt] (.Tuple [a,b,c] k2 pt2) pos) (a1b i j k ta):=by
 intro pins s σ H D I h;rw[exec_Assign_arm];refine Aa (wpAny_standAt ?_);rw[hs];refine Aa (Ah ?_);rw[Ax (by decide)];refine Aa (Tuple_ (thn (ha _ pins s σ H _ I h) fun us s1 ⟨vs,H1,I1,r1,q1⟩=>?_));obtain⟨v,w,v3,e1,q1⟩:=q1;subst e1;obtain⟨u1,u2,u3,rfl,rv,rw',r3⟩:∃u1 u2 u3,us=[u1,u2,u3]/\RelV v u1/\RelV w u2/\RelV v3 u3:=by
  cases r1 with
  |cons p q=>
   cases q with
   |cons p' q'=>
    cases q' with
    |cons p'' q''=>
     cases q'';exact⟨_,_,_,rfl,p,p',p''⟩
 refine Be ?_ (by show 3≤sizeLine;decide);have I2:Inv X pins σ H1 { s1 with heap:=s1.heap.push { cls:=.type "tuple",data:=.seq [u1,u2,u3].toArray } }:=I1.kept (t':=s1.toks) fun b o e=>Heap.get?_push_of_some _ e;rw[hw];refine Aa (Ah ?_);show wpAny (model X.prog X.w) X.A (do rule "assign.swapped-stores";let items <-unpackItems (.ref s1.heap.objs.size) 3 none;assignInOrder [fun v=>bindName X.env z v,fun v=>bindName X.env y v,fun v=>bindName X.env x v] items.reverse;pure Flow.next) _ _ _;refine Aa (Bl (Aa (unpackItems_tuple (items:=#[u1,u2,u3]) (I.ok.hd hc) (IsTup.new s1.heap _) fun h' hx'=>?_)));have I3:=I2.kept (h':=h') (t':=s1.toks) fun b o e=>hx' b o (A3 (Heap.lt_size e)) e;show wpAny _ _ (assignInOrder [fun v=>bindName X.env z v,fun v=>bindName X.env y v,fun v=>bindName X.env x v] [u3,u2,u1] >>= fun _=>pure Flow.next) _ _ _;refine Aa (assignInOrder_cons (wpAny_bindName (aaj I3 hN hk (.inl hz) r3 (fun s2 I4=>?_) (.inr hz))));refine assignInOrder_cons (wpAny_bindName (aaj I4 hN hj (.inl hy) rw' (fun s3 I5=>?_) (.inr hy)));refine assignInOrder_cons (wpAny_bindName (aaj I5 hN hi (.inl hx) rv (fun s4 I6=>assignInOrder_nil (Ah ?_)) (.inr hx)));rw[Dy _ _ (AK hij),Dy _ _ (AK hik),Dy _ _ (AK hjk)] at I6;exact⟨_,H1,I6,q1⟩
end
end L2
namespace L3
open PySem L2
def aeq:St3->Nat->St3
 |[],_=>[]
 |_::r,0=>none::r
 |o::r,i+1=>o::aeq r i
theorem amc:∀(τ:St3) (i:Nat),aeq τ i=τ.set i none
 |[],_=>rfl
 |_::_,0=>rfl
 |o::r,i+1=>by unfold aeq;rw[amc r i];rfl
def aj8(i:Nat)(t:TS3)(D:Ends3)(τ:St3)(L:LHp):Prop:=t { nx:=fun τ' L'=>D.nx (aeq τ' i) L',rt:=D.rt,bk:=fun τ' L'=>D.bk (aeq τ' i) L',ct:=fun τ' L'=>D.ct (aeq τ' i) L' } (aeq τ i) L
theorem RelS.forget{G:G3}{H:Hp}{σ:St}{τ:St3}(h:RelS G H σ τ)(i:Nat):RelS G H (σ.set i none) (aeq τ i):=by
 rw[amc];refine⟨by rw[BY,BY];exact h.len,fun j y e=>?_⟩
 by_cases c:i=j
 ·subst c;rw[DF] at e;cases e2:τ[i]? with
  |none=>rw[e2] at e;cases e
  |some o=>rw[e2] at e;cases e
 ·rw[Bi c] at e ⊢;exact h.get j y e
theorem aeh{X:Cx}{i:Nat}(x:Str){st:Stmt}{t:TS3}(h:QS { X with N:=X.N.set i x } st t):QS X st (aj8 i t):=
 PS.imp (aw5 h) fun D σ H ⟨τ,L,D3,rs,rl,z,k⟩=>⟨aeq τ i,L,_,rs.forget i,rl,z,
  ⟨fun σ' H' τ' L' t' rs' rl' q=>k.nx _ H' _ L' t' (rs'.forget i) rl' q,k.rt,fun σ' H' τ' L' t' rs' rl' q=>k.bk _ H' _ L' t' (rs'.forget i) rl' q,fun σ' H' τ' L' t' rs' rl' q=>k.ct _ H' _ L' t' (rs'.forget i) rl' q⟩⟩
def ax7(i j k:Nat)(ta:TA3)(D:Ends3)(τ:St3)(L:LHp):Prop:=ta τ L fun ys L'=>match ys with
 |[u,v,w]=>D.nx (aaq (aaq (aaq τ i u) j v) k w) L'
 |_=>False
theorem aww{X:Cx}{i j k:Nat}{x y z:Str}{a b c:Expr}{tr:TA3}{px py pz pt pos:Pos}{kt k2:Nat}{pt2:Pos}(hc:X.calm=true)(hN:X.N.Nodup)(hi:X.N[i]?=some x)(hj:X.N[j]?=some y)(hk:X.N[k]?=some z)(hij:i≠j)(hik:i≠k)(hjk:j≠k)
 (lx:X.env.scope.names.lookup x=some .local) (ly:X.env.scope.names.lookup y=some .local) (lz:X.env.scope.names.lookup z=some .local) (h:QA X [a,b,c] tr)
 (h1:swappedStores [.Tuple [.Name x px,.Name y py,.Name z pz] kt pt] (.Tuple [a,b,c] k2 pt2) X.env=pure (some [x,y,z])) (h2:swapsWithSole [.Tuple [.Name x px,.Name y py,.Name z pz] kt pt] (.Tuple [a,b,c] k2 pt2) pos.line X.env=pure false:=by rfl):
 QS X (.Assign [.Tuple [.Name x px,.Name y py,.Name z pz] kt pt] (.Tuple [a,b,c] k2 pt2) pos) (ax7 i j k tr):=PS.imp (awp hc hN hi hj hk hij hik hjk lx ly lz h h1 h2) fun D σ H ⟨τ,L,D3,rs,rl,z,kk⟩=>
 ⟨τ,L,_,rs,rl,z,fun vs H1 ys L1 t1 rl1 rv1 z1=>by
  split at z1
  ·rename_i u v w;obtain⟨x1,xs1,rfl,r1,x2,xs2,rfl,r2,x3,xs3,rfl,r3,e3⟩:=rv1;cases (show xs3=[] from e3);exact⟨x1,x2,x3,rfl,kk.nx _ H1 _ L1 t1 (show RelS _ _ _ (aaq (aaq (aaq τ i u) j v) k w) by rw[vq,vq,vq];exact(((rs.ts t1).set r1).set r2).set r3) rl1 z1⟩
  ·exact z1.elim⟩
theorem akh:bootBuiltins "min" = some (.builtin "min"):=by decide +kernel
def a1a(x:Y)(lo hi:Option Int)(L:LHp)(Q:YK):Prop:=match x with
 |.tup ys=>¬(HT.sIx ys.length 0 lo=0/\HT.sIx ys.length ys.length hi=ys.length)/\Q (.tup (alo ys lo hi)) L
 |_=>False
theorem a13{X:Cx}(K:Af)(P:Program)(w:World)(hK:X.K=K:=by rfl)(hP:X.prog=P:=by rfl)(hw:X.w=w:=by rfl):SlR X (avw ⟨K,P,w⟩ a1a):=by
 subst hK hP hw;refine SlR.imp a07 fun x lo hi H Q ⟨y,L,Q3,rv,rl,z,k⟩=>?_;cases y with
 |tup ys=>
  obtain⟨a,xs,e,sq,r⟩:=rv;obtain⟨z1,z2⟩:=z;exact⟨a,xs,e,sq,by rw[<-r.length];exact z1,fun p hp=>k _ _ (.tup (alo ys lo hi)) L (TSt.new hp) (rl.skip hp) ⟨p,_,rfl,.inl (.inl zv),(ak6 r lo hi).ts (TSt.new hp)⟩ z2⟩
 |_=>exact z.elim
theorem aon{G:G3}{H₀:Hp}{a:Addr}{ys:List Y}{keep:LHp->Prop}(h:∀H L,TSt H₀ H->RelH G H L->keep L->∃xs,SqT G.K H a xs/\RVs G H ys xs):Yields G H₀ (Itt G.K a) ys keep where
 go:=fun i H L t rl kp hi=>by
  obtain⟨xs,sq,r⟩:=h H L t rl kp;have:i<xs.length:=by rw[<-r.length];exact hi
  exact⟨xs,xs[i],sq,Aj this⟩
 yld:=fun i H L x H' y t rl kp hy ⟨e,f⟩=>by
  subst e;obtain⟨xs,sq,r⟩:=h _ L t rl kp;obtain⟨x',e',rv⟩:=r.get hy;have:=f xs sq;rw[e'] at this;cases this;exact⟨TSt.refl _,rl,rv⟩
 stop:=fun H L t rl kp=>by
  obtain⟨xs,sq,r⟩:=h H L t rl kp;exact⟨xs,sq,by rw[r.length];exact An _⟩
theorem ayz{X:Cx}{e tg:Expr}{te:TE3}(h:QE X e te):QI X tg e (axk te):=PI.imp (ay3 h) fun σ H R ⟨τ,L,R3,rs,rl,z,k⟩=>by
 refine⟨τ,L,_,rs,rl,z,fun v H1 y L1 t1 rl1 rv1 z1=>?_⟩;cases y with
 |tup ys=>
  obtain⟨a,xs,e,sq,r⟩:=rv1;exact⟨a,e,⟨xs,sq⟩,k _ H1 ys (fun _=>True) L1 t1 rl1 (aon fun H L t _ _=>⟨xs,SqT.ts sq t,r.ts t⟩) z1⟩
 |_=>exact z1.elim
theorem dp3{A:Around}{k:Nat}(hr:Room k A):A.depth+3<recursionLimit:=by have:=hr.dp;omega
abbrev lamQ:Str:="_law_order.<locals>.<lambda>"
open PySem L2 Words
local macro_rules | `(tactic| walk_at "w")=>`(tactic| conv=>whnf)
def aep(Pt:Addr)(p__law_mix:Sp3):TS3:=(qt (zm (xa qj) (qi 2))
 (qt (ac3 (af3 (qb 0)) (vg 2 (za (qi 3) (za (qi 4) xt))) (qt (zm (yOp vk (zb p__law_mix (qa (qb 1) (qa (qb 3) (qa (yC (.int 39373)) qj)))) (yC (.int 40))) (qi 5))
 (aci (jt (ac1 (yB (aco true (qb 4))) (yB (yOp (yEq false) (yCB jk (qa (qb 4) qj)) (yC (.int 3))))) (zm (yOp vt (yOp vt (qb 5) (yC (.int 1))) (yCB amm (qa (yOp yIx (qb 2) (yOp yIx (qb 4) (yC (.int 1)))) (qa (yOp yIx (qb 2) (yOp yIx (qb 4) (yC (.int 2)))) qj)))) (qi 5)) je)
 (j9 (yBL zh (qb 2) (qa (qb 5) qj))))))
 (jo (au9 Pt lamQ 2 (ale (yCB jk (qa (qb 0) qj)))))))
def OkO(ks:List (Option Kn)):Prop:=∀(p:Nat) (e:Bool) (i j:Nat),ks[p]?=some (some (.nd e i j))->i<p/\j<p
def RkOk(ks:List (Option Kn))(rks:List Int):Prop:=∀(p:Nat) (e:Bool) (i j:Nat),p<rks.length->ks[p]?=some (some (.nd e i j))->rks.getD i 0<rks.getD p 0/\rks.getD j 0<rks.getD p 0
theorem aho{rks:List Int}{r:Int}{i:Nat}(h:i<rks.length):(rks++[r]).getD i 0=rks.getD i 0:=by
 rw[Bm,Bm,Az h]
theorem au0{rks:List Int}{r:Int}:(rks++[r]).getD rks.length 0=r:=by
 rw[Bm,Am (An _),Cy];rfl
theorem RkOk.snoc{ks:List (Option Kn)}{rks:List Int}{r:Int}{k:Option Kn}(ok:OkO ks)(h:RkOk ks rks)(hk:ks[rks.length]?=some k)(hr:∀e i j,k=some (.nd e i j)->rks.getD i 0<r/\rks.getD j 0<r):RkOk ks (rks++[r]):=by
 intro p e i j hp ep;obtain⟨l1,l2⟩:=ok p e i j ep;rw[Ad] at hp;have hp:p<rks.length+1:=hp;rw[aho (show i<rks.length by omega),aho (show j<rks.length by omega)]
 by_cases c:p<rks.length
 ·rw[aho c];exact h p e i j c ep
 ·have:p=rks.length:=by omega
  subst this;rw[au0];exact hr e i j (A6 (hk.symm.trans ep))
def abq(ks:List (Option Kn))(qs:List Nat):Prop:=qs.Pairwise fun x y=>∀e i j,ks[x]?=some (some (.nd e i j))->y≠i/\y≠j
theorem au6{ks:List (Option Kn)}{rks:List Int}{qs:List Nat}(ok:OkO ks)(h:RkOk ks rks)(hl:rks.length=ks.length)(hw:qs.Pairwise fun i j=>rks.getD i 0*1000000+(i:Int)≤rks.getD j 0*1000000+(j:Int)):abq ks qs:=by
 refine hw.imp fun {x y} z e i j ex=>?_;obtain⟨l1,l2⟩:=ok x e i j ex;obtain⟨r1,r2⟩:=h x e i j (by rw[hl];exact jf ex) ex;exact⟨fun c=>by subst c;omega,fun c=>by subst c;omega⟩
def aeg(Pt:Addr):Sp3:=fun ys L Q=>∃a,∃ks:List (Option Kn),∃s:Int,ys=[.ref a,.int s]/\L a=some (.lst (osY ks))/\OkO ks/\ks.length≤1000/\L Pt=some (.tb lamQ)/\
 ∀D qs,L D=none->qs.Perm (List.range ks.length)->abq ks qs->Q (.ref D) (qh L D (.lst (nY qs)))
theorem amw{rks:List Int}{i:Nat}(h:i<rks.length):(rks.map Y.int)[i]?=some (.int (rks.getD i 0)):=by
 rw[Ap,Bm,Aj h];rfl
theorem aua{Pt:Addr}:∀ys L Q,aeg Pt ys L Q->w9 (aep Pt aa4) 6 ys L Q:=by
 rintro ys L Q ⟨a,ks,s,rfl,ha,ok,hz,hP,q⟩;have big:=bg_;intro kk hkk;have s0:LSub L (qh L kk (.lst [])):=LSub.new hkk;have nak:a≠kk:=neL ha hkk;refine jn (s0 _ _ ha) fun keep kp=>xr ⟨fun i τ L'=>∃rks:List Int,∃c3 c4 c5,τ=[some (Y.ref a),some (.int s),some (Y.ref kk),c3,c4,c5]/\L'=qh L kk (.lst (rks.map Y.int))/\rks.length=i/\RkOk ks rks,⟨[],_,_,_,rfl,rfl,rfl,fun p _ _ _ hp=>by cases hp⟩,?_,?_,?_⟩
 ·rintro i τ L' ⟨rks,c3,c4,c5,rfl,rfl,_⟩;exact kp _ (by rw[qd nak,qd nak])
 ·rintro i y τ L' hy ⟨rks,c3,c4,c5,rfl,rfl,hl,hrk⟩;obtain⟨z,ez,rfl⟩:=acb hy;rw[Ap] at ez;obtain⟨k,ek,rfl⟩:=Ar.mp ez;have hi:=jf ek;refine⟨s,i,39373,rfl,by omega,by omega,by decide,by decide,fun v h0 h1=>?_⟩;have m0:(0:Int)≤v % 40:=Df _ (by decide);have lens:(rks.map Y.int).length=i:=by rw[Ae];exact hl
  refine⟨show(0:Int)<40 by decide,fun τ' L'=>∃r:Int,τ'=[some (Y.ref a),some (.int s),some (Y.ref kk),some (.int (i:Nat)),some (aik k),some (.int r)]/\L'=qh L kk (.lst (rks.map Y.int))/\∀e i j,k=some (.nd e i j)->rks.getD i 0<r/\rks.getD j 0<r,?_,?_⟩
  ·cases k with
   |none=>exact⟨v % 40,rfl,rfl,fun e i j z=>by cases z⟩
   |some k=>
    cases k with
    |lf t n=>exact⟨v % 40,rfl,rfl,fun e i j z=>by cases z⟩
    |nd e p1 p2=>
     obtain⟨l1,l2⟩:=ok _ _ _ _ ek;have g1:=xu (amw (rks:=rks) (i:=p1) (by omega));have g2:=xu (amw (rks:=rks) (i:=p2) (by omega));refine qe q9 (qp g1 ?_);refine qe q9 (qp g2 ?_);refine⟨v % 40+1+max (rks.getD p1 0) (rks.getD p2 0),rfl,rfl,fun e' i' j' z=>?_⟩;cases z;have a1:rks.getD p1 0≤max (rks.getD p1 0) (rks.getD p2 0):=Int.le_max_left ..;have a2:rks.getD p2 0≤max (rks.getD p1 0) (rks.getD p2 0):=Int.le_max_right ..;constructor<;>omega
  ·rintro τ' L' ⟨r,rfl,rfl,hr⟩;refine qe q9 (qm q9 ⟨by rw[lens];exact big _ (by omega),?_⟩);refine⟨_,LSub.refl _,rks++[r],_,_,_,rfl,?_,by rw[Ad,hl];rfl,RkOk.snoc ok hrk (by rw[hl];exact ek) hr⟩;rw[xm,AG];rfl
 ·rintro τ L' ⟨rks,c3,c4,c5,rfl,rfl,hl,hrk⟩;rw[aad,Ae] at hl;have s1:LSub L (qh L kk (.lst (rks.map Y.int))):=LSub.new hkk;refine qe (s1 _ _ ha) ?_;have lo:(osY ks).length=ks.length:=Ae ..;refine⟨⟨CH _,by rw[lo];omega⟩,fun p hp=>qm q9 ?_⟩;have npk:kk≠p:=neL q9 hp;have npP:Pt≠p:=neL (s1 _ _ hP) hp;have nkP:Pt≠kk:=neL hP hkk;refine⟨ks.length,rks,kk,by rw[BN,lo],rfl,(qd npk).trans q9,hl,hz,(qd npP).trans ((qd nkP).trans hP),fun D qs hD pm pw=>?_⟩;have hD1:=jx hD;have hD2:=jx hD1;refine⟨qh L D (.lst (nY qs)),fun b o e=>?_,q D qs hD2 pm (au6 ok hrk hl pw)⟩
  by_cases c:b=D
  ·subst c;rw[q9] at e ⊢;exact e
  ·rw[qd c] at e ⊢;rw[qd (fun z=>by subst z;rw[jx hp] at e;cases e),qd (fun z=>by subst z;rw[hkk] at e;cases e)];exact e
def ang:TS3:=(qt (zm (yC (.str "abcdefghijklmnopqrstuvwxyz")) (qi 2))
 (qt (zm (yOp vt (yC (.int 1)) (yOp vk (qb 0) (yC (.int 8)))) (qi 3))
 (qt (zm (yOp vk (yOp aan (qb 0) (yC (.int 8))) (qb 3)) (qi 4))
 (qt (zm (yBS apu (yC (.str "")) (qa (yLC 1 (adn (qa (yC (.int 8)) qj)) (qi 7) auk (yOp yIx (qb 2) (yOp vk (yOp vt (yOp aan (qb 0) (yC (.int 64))) (yOp aug (yC (.int 3)) (qb 7))) (yC (.int 26))))) qj)) (qi 5))
 (qt (jt (yB (yOp (yEq false) (yOp vk (yOp aan (qb 0) (yC (.int 64))) (yC (.int 3))) (yC (.int 1)))) (jo (ySl av2 (qb 5) agu (aj4 (yOp vt (yC (.int 1)) (yOp vk (yOp vt (qb 1) (qb 0)) (yC (.int 3))))))) je)
 (qt (zm (yOp yIx (qb 2) (yOp vk (yOp vt (yOp vt (yOp aan (qb 0) (yC (.int 64))) (yOp aug (yC (.int 3)) (qb 4))) (qb 1)) (yC (.int 26)))) (qi 6))
 (jo (yOp vt (yOp vt (ySl av2 (qb 5) agu (aj4 (qb 4))) (qb 6)) (ySl av2 (qb 5) (aj4 (yOp vt (qb 4) (yC (.int 1)))) (aj4 (qb 3)))))))))))
def acd(i:Int):Nat:=97+(i % 26).toNat
theorem aq0(i:Int):atI ("abcdefghijklmnopqrstuvwxyz" : Str).cps.toList (i % 26)=some (acd i):=by
 obtain⟨n,hn⟩:∃n:Nat,i % 26=n:=⟨(i % 26).toNat,by omega⟩;have h:n<26:=by omega
 unfold acd;rw[hn];have key:∀n,n<26->("abcdefghijklmnopqrstuvwxyz" : Str).cps.toList[n]?=some (97+n):=by decide +kernel
 exact xu (key n h)
theorem apv(i:Int):97≤acd i/\acd i≤122:=by unfold acd;omega
def abx(s:Int):List Nat:=(List.range 8).map fun k:Nat=>acd (s / 64+3*(k:Int))
theorem ahi(s:Int):(abx s).length=8:=by unfold abx;simp
theorem ai1(s:Int):∀c∈abx s,97≤c/\c≤122:=fun c hc=>by
 obtain⟨k,_,rfl⟩:=BH.mp hc;exact apv _
def plN(s:Int):Nat:=(s / 8 % (1+s % 8)).toNat
def szN(s:Int):Nat:=(1+s % 8).toNat
theorem axs(s:Int):plN s<szN s/\szN s≤8/\s / 8 % (1+s % 8)=(plN s:Int)/\1+s % 8=(szN s:Int):=by
 have h0:0<1+s % 8:=by omega
 have h1:0≤s / 8 % (1+s % 8):=Df _ (by omega);have h2:s / 8 % (1+s % 8)<1+s % 8:=Dq _ h0;unfold plN szN;omega
def aa1(s w:Int):List Nat:=
 if s / 64 % 3=1 then(abx s).take (1+(w+s) % 3).toNat
 else((abx s).take (plN s)++[acd (s / 64+3*(plN s:Int)+w)])++((abx s).drop (plN s+1)).take (szN s - (plN s+1))
theorem an5(s w:Int):acm (mkS (aa1 s w)):=by
 have hl:(mkS (aa1 s w)).length=(aa1 s w).length:=by rw[<-Txs.len_list];show(aa1 s w).toArray.toList.length=_;simp
 have hc:(mkS (aa1 s w)).cps.toList=aa1 s w:=by show(aa1 s w).toArray.toList=_;simp
 have hb:=ahi s;obtain⟨p1,p2,_,_⟩:=axs s;refine⟨?_,?_,?_⟩
 ·rw[hl];unfold aa1;split
  ·rw[AL];omega
  ·rw[Ad,Ad];simp;omega
 ·rw[hl];unfold aa1;split
  ·rw[AL];omega
  ·rw[Ad,Ad,AL,AL,Bq];simp;omega
 ·rw[hc];intro c h;unfold aa1 at h
  split at h
  ·exact ai1 s c (Bx h)
  ·rcases Al.mp h with h | h
   ·rcases Al.mp h with h | h
    ·exact ai1 s c (Bx h)
    ·rw[AC.mp h];exact apv _
   ·exact ai1 s c (Ct (Bx h))
def adu:Sp3:=fun ys L Q=>∃s w:Int,ys=[.int s,.int w]/\Q (.str (mkS (aa1 s w))) L
theorem arq{x:Str}{m n:Nat}(h:m≤n)(h2:n≤x.length):(Txt.slice x (some (m:Int)) (some (n:Int))).cps.toList=(x.cps.toList.drop m).take (n - m):=by
 have e:=aje x (some (m:Int)) (some (n:Int));rw[HT.sIx_nat,HT.sIx_nat,Ck h2,Ck (AW h h2)] at e;exact e
theorem aj2{x:Str}{n:Nat}(h:n≤x.length):(Txt.slice x none (some (n:Int))).cps.toList=x.cps.toList.take n:=by
 have e:=aje x none (some (n:Int));rw[HT.sIx_nat,HT.sIx_none,DQ,Nat.sub_zero,Ck h] at e;exact e
theorem asy:∀ys L Q,adu ys L Q->w9 ang 7 ys L Q:=by
 rintro ys L Q ⟨s,w,rfl,q⟩;have hsz:0<1+s % 8:=by omega
 refine⟨(by decide:(0:Int)<8),⟨by decide,by decide⟩,hsz,⟨by decide,by decide⟩,?_⟩;show lcK (aa5 0 8) _ _ _ _ _ _ _ _;refine ako (m:=8) (fun i zs=>zs=((List.range i).map fun k:Nat=>Y.str ⟨#[acd (s / 64+3*(k:Int))]⟩)) (by decide) rfl ?_ ?_
 ·rintro i _ hi rfl;have hat:=aq0 (s / 64+3*(0+(i:Int)));refine⟨⟨by decide,by decide⟩,.inl ⟨by decide,by decide⟩,(by decide:(0:Int)<26),by decide +kernel,?_⟩;walk_at "w";rw[hat];refine⟨_,LSub.refl _,rfl,?_⟩;rw[DO,AG,show(0:Int)+(i:Int)=(i:Int) by omega];rfl
 ·rintro _ rfl p hp;have e0:((List.range 8).map fun k:Nat=>Y.str ⟨#[acd (s / 64+3*(k:Int))]⟩)=((abx s).map fun c=>(⟨#[c]⟩:Str)).map Y.str:=by
   unfold abx;rw[BI,BI];rfl
  rw[e0];refine qm q9 ⟨(abx s).map fun c=>(⟨#[c]⟩:Str),rfl,?_,?_⟩
  ·have e1:∀cs:List Nat,((cs.map fun c=>(⟨#[c]⟩:Str)).map (·.length)).sum=cs.length:=fun cs=>by
    induction cs with
    |nil=>rfl
    |cons c r ih=>rw[AE,AE,C6,ih,AF];show 1+r.length=_;omega
   rw[e1,ahi];show 8+_*0≤_;rw[Nat.mul_zero];decide
  ·have hb:=ata (abx s);have hbl:(Txt.join "" ((abx s).map fun c=>(⟨#[c]⟩:Str))).length=8:=by rw[<-Txs.len_list,hb,ahi]
   generalize Txt.join "" ((abx s).map fun c=>(⟨#[c]⟩:Str))=base at hbl hb;obtain⟨p1,p2,hn,hk⟩:=axs s;refine⟨⟨by decide,by decide⟩,(by decide:(0:Int)<3),?_⟩;refine zu (fun c=>?_) fun c=>?_
   ·have e:1+(w+s) % 3=((1+(w+s) % 3).toNat:Int):=by omega
    refine⟨(by decide:(0:Int)<3),adf (by omega),aqf (LSub.new hp) ?_⟩;have es:=aj2 (x:=base) (n:=(1+(w+s) % 3).toNat) (by omega);have eq:Txt.slice base none (some (1+(w+s) % 3))=mkS (aa1 s w):=by
     rw[e];refine(apa _).symm.trans ?_;rw[es,hb];unfold aa1;rw[AB c]
    rw[<-eq] at q;exact q
   ·have hat:=aq0 (s / 64+3*(s / 8 % (1+s % 8))+w);refine⟨⟨by decide,by decide⟩,.inl ⟨by decide,by decide⟩,(by decide:(0:Int)<26),by decide +kernel,?_⟩;walk_at "w";rw[hat];have s1:=aj2 (x:=base) (n:=plN s) (by omega);have s2:=arq (x:=base) (m:=plN s+1) (n:=szN s) (by omega) (by omega);have l1:(Txt.slice base none (some (plN s:Int))).length=plN s:=by rw[<-Txs.len_list,s1,AL,Txs.len_list];omega
    have l2:(Txt.slice base (some ((plN s+1:Nat):Int)) (some (szN s:Int))).length≤8:=by rw[<-Txs.len_list,s2,AL];omega
    refine⟨adf (by omega),?_⟩;refine⟨adf (by rw[hn,l1];show plN s+1≤1000;omega),?_⟩;refine⟨adf (by omega),?_⟩;have e1:((plN s:Int)+1)=((plN s+1:Nat):Int):=by omega
    have l3:(Txt.slice base none (some (plN s:Int))++(⟨#[acd (s / 64+3*(s / 8 % (1+s % 8))+w)]⟩:Str)).length=plN s+1:=by rw[PySem.Str.length_append,l1];rfl
    refine⟨adf ?_,aqf (LSub.new hp) ?_⟩
    ·rw[hn] at l3 ⊢;rw[l3,e1,hk];omega
    ·have eq:(Txt.slice base none (some (plN s:Int))++(⟨#[acd (s / 64+3*(plN s:Int)+w)]⟩:Str))++Txt.slice base (some ((plN s+1:Nat):Int)) (some (szN s:Int))=mkS (aa1 s w):=by
      refine(apa _).symm.trans ?_;have ca:∀a b:Str,(a++b).cps.toList=a.cps.toList++b.cps.toList:=fun a b=>by show(a.cps++b.cps).toList=_;simp
      rw[ca,ca,s1,s2,hb];unfold aa1;rw[Ax c]
     rw[hn,e1,hk,eq];exact q
theorem avg(t t':Bool)(n n':Str):Da.eq (enc (.leaf t n)) (enc (.leaf t' n'))=(decide (t=t')&&decide (n=n')):=by
 by_cases h:n=n'
 ·subst h;cases t<;>cases t'<;>simp[enc,Da.eq,Da.eqs,eqV,kL]<;>decide +kernel
 ·cases t<;>cases t'<;>simp[enc,Da.eq,Da.eqs,eqV,kL,h]<;>decide +kernel
theorem afb{α β:Type}(f:α->β):∀(l:List α) (n:Nat),(l.map f).eraseIdx n=(l.eraseIdx n).map f
 |[],n=>by simp
 |_::_,0=>rfl
 |x::r,n+1=>by rw[AE,Cb,Cb,AE,afb f r n]
theorem wq(a:Key)(b:Y)(r:List (Key×Y))(k:Key):aa2 ((a,b)::r) k=if a=k then some b else aa2 r k:=by
 unfold aa2;rw[BC]
 by_cases h:a=k
 ·rw[AB h,show decide ((a,b).1=k)=true from AD h];rfl
 ·rw[Ax h,show decide ((a,b).1=k)=false from Aq h]
theorem amq(k k':Key)(y:Y):∀kvs:List (Key×Y),aa2 (kvs.map fun kv=>if kv.1=k then(kv.1,y) else kv) k'=if k'=k then(aa2 kvs k').map (fun _=>y) else aa2 kvs k'
 |[]=>by rw[CN];split<;>rfl
 |(a,b)::r=>by
  have ih:=amq k k' y r;rw[AE,wq]
  by_cases h:a=k
  ·rw[AB (show(a,b).1=k from h),wq,ih]
   by_cases h2:k'=k
   ·rw[AB h2,AB h2,AB (h.trans h2.symm),AB (h.trans h2.symm)];rfl
   ·rw[Ax h2,Ax h2,Ax (fun z=>h2 (z.symm.trans h)),Ax (fun z=>h2 (z.symm.trans h))]
  ·rw[Ax (show ¬(a,b).1=k from h),wq,ih]
   by_cases h2:k'=k
   ·rw[AB h2,AB h2,Ax (fun z=>h (z.trans h2)),Ax (fun z=>h (z.trans h2))]
   ·rw[Ax h2,Ax h2]
theorem amy(k k':Key)(y:Y):∀kvs:List (Key×Y),aa2 (kvs++[(k,y)]) k'=(aa2 kvs k').or (if k=k' then some y else none)
 |[]=>by
  rw[DM,wq];have:aa2 [] k'=none:=rfl;rw[this];split<;>rfl
 |(a,b)::r=>by
  rw[List.cons_append,wq,wq,amy k k' y r]
  split<;>rfl
theorem alq(k:Key):∀kvs:List (Key×Y),(kvs.any fun kv=>decide (kv.1=k))=(aa2 kvs k).isSome
 |[]=>rfl
 |(a,b)::r=>by
  rw[B6,wq,alq k r]
  by_cases h:a=k
  ·rw[AB h,show decide ((a,b).1=k)=true from AD h];rfl
  ·rw[Ax h,show decide ((a,b).1=k)=false from Aq h];rfl
theorem au7(kvs:List (Key×Y))(k k':Key)(y:Y):aa2 (aim kvs k y) k'=if k'=k then some y else aa2 kvs k':=by
 unfold aim;rw[alq];cases e:aa2 kvs k with
 |some v=>
  rw[AB (show(some v).isSome=true from rfl),amq]
  by_cases h:k'=k
  ·rw[AB h,AB h,h,e];rfl
  ·rw[Ax h,Ax h]
 |none=>
  rw[Ax (by simp),amy]
  by_cases h:k'=k
  ·rw[AB h,h,e,AB rfl];rfl
  ·rw[Ax h,Ax (fun z=>h z.symm)];cases aa2 kvs k'<;>rfl
theorem au5(kvs:List (Key×Y))(k:Key)(y:Y):(aim kvs k y).length≤kvs.length+1:=by
 unfold aim
 split
 ·rw[Ae];omega
 ·rw[Ad];simp
def ad9(p__law_order:Sp3)(p__law_mix:Sp3):TS3:=(qt (zm axm (qi 5))
 (qt (zm (xa qj) (qi 6))
 (qt (ac3 (xg (zb p__law_order (qa (qb 0) (qa (qb 3) qj)))) (qi 7) (aci (jt (ac1 (yB (qb 4)) (yB (yOp (yEq false) (yOp vk (zb p__law_mix (qa (qb 3) (qa (qb 7) (qa (yC (.int 40692)) qj)))) (yC (.int 3))) (yC (.int 0))))) (j9 (yBL zh (qb 6) (qa (yC .non) qj))) je)
 (qt (axj (qb 5) (qb 7) (yCB jk (qa (qb 6) qj)))
 (qt (zm (yOp yIx (qb 0) (qb 7)) (qi 8))
 (aci (jt (ac1 (yB (aco true (qb 8))) (yB (yOp (yEq false) (yCB jk (qa (qb 8) qj)) (yC (.int 3))))) (zm (jw (qa (yOp yIx (qb 8) (yC (.int 0))) (qa (aey (qb 5) (yOp yIx (qb 8) (yC (.int 1)))) (qa (aey (qb 5) (yOp yIx (qb 8) (yC (.int 2)))) qj)))) (qi 8)) je)
 (j9 (yBL zh (qb 6) (qa (qb 8) qj))))))))
 (qt (aj8 7 (zm (yCB abe (qa (yLC 2 (xg (qb 1)) (vg 2 (za (qi 9) (za (qi 10) xt))) auk (jw (qa (yCB am7 (qa (aey (qb 5) (qb 9)) (qa (aey (qb 5) (qb 10)) qj))) (qa (yCB amm (qa (aey (qb 5) (qb 9)) (qa (aey (qb 5) (qb 10)) qj))) qj)))) qj)) (qi 1)))
 (qt (aj8 7 (zm (yCB abe (qa (yLC 2 (xg (qb 2)) (vg 2 (za (qi 9) (za (qi 10) xt))) auk (jw (qa (aey (qb 5) (qb 9)) (qa (aey (qb 5) (qb 10)) qj)))) qj)) (qi 2)))
 (jo (jw (qa (yOp vt (qb 6) (yLC 1 (adn (qa (yCB at9 (qa (qb 4) qj)) qj)) (qi 9) auk (yC .non))) (qa (qb 1) (qa (qb 2) qj))))))))))
def agi(f:Nat->Nat):Option Kn->Option Kn
 |some (.nd e i j)=>some (.nd e (f i) (f j))
 |k=>k
theorem aoa{f g:Nat->Nat}:∀{k:Option Kn},(∀e i j,k=some (.nd e i j)->f i=g i/\f j=g j)->agi f k=agi g k
 |none,_=>rfl
 |some (.lf _ _),_=>rfl
 |some (.nd e i j),h=>by
  obtain⟨a,b⟩:=h e i j rfl;show some (Kn.nd e (f i) (f j))=some (Kn.nd e (g i) (g j));rw[a,b]
structure Gap(ks:List (Option Kn))(ps:List Nat)(f:Nat->Nat)(wd:List (Option Kn)):Prop where
 at_:∀p∈ps,∀k,ks[p]?=some k->wd[f p]?=some (agi f k)
 inj:∀p∈ps,∀q∈ps,f p=f q->p=q
 only:∀x k,wd[x]?=some (some k)->∃p∈ps,x=f p
 ok:OkO wd
theorem Gap.nil(ks:List (Option Kn))(f:Nat->Nat):Gap ks [] f []:=⟨fun p hp=>(A5 hp).elim,fun p hp=>(A5 hp).elim,fun x k h=>(by simp at h),fun p e i j h=>(by simp at h)⟩
theorem OkO.gap{wd:List (Option Kn)}(h:OkO wd):OkO (wd++[none]):=by
 intro p e i j hp
 by_cases c:p<wd.length
 ·rw[Az c] at hp;exact h p e i j hp
 ·rw[Am (by omega)] at hp;cases hq:p - wd.length with
  |zero=>rw[hq] at hp;cases hp
  |succ m=>rw[hq] at hp;cases hp
theorem Gap.gap{ks:List (Option Kn)}{ps:List Nat}{f:Nat->Nat}{wd:List (Option Kn)}(h:Gap ks ps f wd):Gap ks ps f (wd++[none]):=by
 refine⟨fun p hp k hk=>afk (h.at_ p hp k hk),h.inj,fun x k hx=>?_,h.ok.gap⟩
 by_cases c:x<wd.length
 ·rw[Az c] at hx;exact h.only x k hx
 ·rw[Am (by omega)] at hx;cases hq:x - wd.length with
  |zero=>rw[hq] at hx;cases hx
  |succ m=>rw[hq] at hx;cases hx
theorem Gap.lt{ks:List (Option Kn)}{ps:List Nat}{f:Nat->Nat}{wd:List (Option Kn)}(h:Gap ks ps f wd){p:Nat}(hp:p∈ps)(hk:p<ks.length):f p<wd.length:=jf (h.at_ p hp _ (Aj hk))
theorem Gap.step{ks:List (Option Kn)}{ps:List Nat}{f:Nat->Nat}{wd:List (Option Kn)}(h:Gap ks ps f wd)(hb:∀p∈ps,p<ks.length){p:Nat}{k:Option Kn}(hp:p∉ps)(hk:ks[p]?=some k)(hpart:∀x∈ps,∀e i j,ks[x]?=some (some (.nd e i j))->i∈ps/\j∈ps)(hparts:∀e i j,k=some (.nd e i j)->i∈ps/\j∈ps):
 Gap ks (ps++[p]) (fun x=>if x=p then wd.length else f x) (wd++[agi f k]):=by
 have old:∀x∈ps,(if x=p then wd.length else f x)=f x:=fun x hx=>Ax fun(c:x=p)=>hp (c▸hx);have ren:∀k',(∀e i j,k'=some (.nd e i j)->i∈ps/\j∈ps)->agi (fun x=>if x=p then wd.length else f x) k'=agi f k':=fun k' hk'=>aoa fun e i j z=>by
  obtain⟨a,b⟩:=hk' e i j z;exact⟨old i a,old j b⟩
 refine⟨fun x hx k' hk'=>?_,fun x hx y hy e=>?_,fun x k' hx=>?_,fun x e i j hx=>?_⟩
 ·rcases Al.mp hx with hx | hx
  ·show(wd++[agi f k])[if x=p then wd.length else f x]?=_;rw[old x hx,ren k' fun e i j z=>hpart x hx e i j (by rw[hk',z])];exact afk (h.at_ x hx k' hk')
  ·have hx:=AC.mp hx;subst hx;rw[hk] at hk';cases hk';show(wd++[agi f k])[if x=x then wd.length else f x]?=_;rw[AB rfl,ren k hparts];exact abh wd _ []
 ·have e:(if x=p then wd.length else f x)=if y=p then wd.length else f y:=e
  rcases Al.mp hx with hx | hx<;>rcases Al.mp hy with hy | hy
  ·rw[old x hx,old y hy] at e;exact h.inj x hx y hy e
  ·cases AC.mp hy;rw[old x hx,AB rfl] at e;have:=h.lt hx (hb x hx);omega
  ·cases AC.mp hx;rw[old y hy,AB rfl] at e;have:=h.lt hy (hb y hy);omega
  ·rw[AC.mp hx,AC.mp hy]
 ·by_cases c:x<wd.length
  ·rw[Az c] at hx;obtain⟨q,hq,e⟩:=h.only x k' hx;exact⟨q,Aw _ hq,by rw[e];exact(old q hq).symm⟩
  ·refine⟨p,Ag _ (AC.mpr rfl),?_⟩;have:=jf hx;rw[Ad] at this;have:x<wd.length+1:=this;show x=if p=p then wd.length else f p
   rw[AB rfl];omega
 ·by_cases c:x<wd.length
  ·rw[Az c] at hx;exact h.ok x e i j hx
  ·have:=jf hx;rw[Ad] at this;have:x<wd.length+1:=this;have:x=wd.length:=by omega
   subst this;rw[Am (An _),Cy] at hx;have hx:agi f k=some (.nd e i j):=A6 hx;cases k with
   |none=>cases hx
   |some k=>
    cases k with
    |lf=>cases hx
    |nd e' i' j'=>
     obtain⟨a,b⟩:=hparts e' i' j' rfl;cases hx;exact⟨h.lt a (hb _ a),h.lt b (hb _ b)⟩
theorem ahl{ks:List (Option Kn)}{qs:List Nat}(ok:OkO ks)(pm:qs.Perm (List.range ks.length))(pf:abq ks qs){n:Nat}{p:Nat}(hp:qs[n]?=some p){e:Bool}{i j:Nat}(h:ks[p]?=some (some (.nd e i j))):i∈qs.take n/\j∈qs.take n:=by
 obtain⟨l1,l2⟩:=ok p e i j h;have hl:=jf h;have hn:=jf hp;have ind:∀x,x<ks.length->x≠p->(∀y∈qs.drop (n+1),y≠x)->x∈qs.take n:=fun x hx ne hno=>by
  have hm:x∈qs:=pm.mem_iff.mpr (Bb.mpr hx);have e2:qs=qs.take n++p::qs.drop (n+1):=by
   rw[Aj hn] at hp;rw[<-A6 hp,CS,Bd]
  rw[e2] at hm;rcases Al.mp hm with hm | hm
  ·exact hm
  ·rcases As.mp hm with hm | hm
   ·exact absurd hm ne
   ·exact absurd rfl (hno x hm)
 have pw:∀y∈qs.drop (n+1),y≠i/\y≠j:=fun y hy=>by
  have e2:qs=qs.take n++p::qs.drop (n+1):=by
   rw[Aj hn] at hp;rw[<-A6 hp,CS,Bd]
  unfold abq at pf;rw[e2] at pf;have:=(AN.mp pf).2.1;exact(List.pairwise_cons.mp this).1 y hy e i j h
 exact⟨ind i (by omega) (by omega) fun y hy=>(pw y hy).1,ind j (by omega) (by omega) fun y hy=>(pw y hy).2⟩
def au1:TS3:=(qt (zm (yBL abg (qb 1) (qa (yOp vk (qb 3) (yCB jk (qa (qb 1) qj))) qj)) (qi 4))
 (qt (zm (yBL abg (qb 1) (qa (yOp vk (qb 2) (yCB jk (qa (qb 1) qj))) qj)) (qi 5))
 (qt (zm (yOp yIx (yOp yIx (qb 4) (yC (.int 1))) (yOp vk (yOp aan (qb 3) (yC (.int 64))) (yCB jk (qa (yOp yIx (qb 4) (yC (.int 1))) qj)))) (qi 6))
 (qt (zm (yOp yIx (yOp yIx (qb 5) (yC (.int 1))) (yOp vk (yOp aan (qb 2) (yC (.int 64))) (yCB jk (qa (yOp yIx (qb 5) (yC (.int 1))) qj)))) (qi 7))
 (qt (j9 (yBL zh (qb 0) (qa (jw (qa (yC (.str "both")) (qa (qb 6) (qa (qb 7) qj)))) qj)))
 (qt (zm (yLC 1 (xg (yOp vt (yOp yIx (qb 4) (yC (.int 1))) (yOp yIx (qb 5) (yC (.int 1))))) (qi 9) (yB (yOp (ahw true) (qb 9) (jw (qa (qb 6) (qa (qb 7) qj))))) (qb 9)) (qi 8))
 (j9 (yBL zh (qb 1) (qa (xa (qa (jw (qa (yC (.str "both")) (qa (yOp aff (yCB jk (qa (qb 0) qj)) (yC (.int 1))) (qa (yOp yIx (qb 4) (yC (.int 0))) (qa (yOp yIx (qb 5) (yC (.int 0))) qj))))) (qa (yOp vt (qb 8) (xa (qa (yOp aff (yCB jk (qa (qb 0) qj)) (yC (.int 1))) qj))) qj))) qj)))))))))
def apq:TS3:=(qt (jt (yB (yOp yLt (yCB jk (qa (yOp yIx (qb 1) (yC (.int 1))) qj)) (yC (.int 2)))) atd je)
 (qt (zm (yBL abg (yOp yIx (qb 1) (yC (.int 1))) (qa (yOp vk (qb 3) (yCB jk (qa (yOp yIx (qb 1) (yC (.int 1))) qj))) qj)) (qi 4))
 (qt (zm (yBL abg (yOp yIx (qb 1) (yC (.int 1))) (qa (yOp vk (qb 2) (yCB jk (qa (yOp yIx (qb 1) (yC (.int 1))) qj))) qj)) (qi 5))
 (qt (j9 (yBL zh (qb 0) (qa (jw (qa (yC (.str "either")) (qa (qb 4) (qa (qb 5) qj)))) qj)))
 (qt (axf (qb 1) (yC (.int 0)) (jw (qa (yC (.str "either")) (qa (yOp aff (yCB jk (qa (qb 0) qj)) (yC (.int 1))) (qa (yOp yIx (qb 1) (yC (.int 0))) qj)))))
 (j9 (yBL zh (yOp yIx (qb 1) (yC (.int 1))) (qa (yOp aff (yCB jk (qa (qb 0) qj)) (yC (.int 1))) qj))))))))
theorem ab3{ks:List Kn}:∀{w v:Wd} {p:Nat},WAt ks p w->WAt ks p v->w=v
 |.leaf t n,.leaf t' n',p,h,k=>by
  have h:(ksY ks)[p]?=some (.tup [.str (kL t),.str n]):=h;have k:(ksY ks)[p]?=some (.tup [.str (kL t'),.str n']):=k;rw[h] at k;injection k with k;injection k with k;injection k with k1 k2;injection k2 with k2 _
  injection k1 with k1;injection k2 with k2
  have:t=t':=by cases t<;>cases t'<;>first | rfl | (exfalso;revert k1;decide +kernel)
  rw[this,k2]
 |.leaf t n,.node e l r,p,h,k=>by
  obtain⟨i,j,k,_⟩:=k;have h:(ksY ks)[p]?=some (.tup [.str (kL t),.str n]):=h;rw[h] at k;injection k with k;injection k with k;injection k with _ k;injection k with _ k;cases k
 |.node e l r,.leaf t n,p,h,k=>by
  obtain⟨i,j,h,_⟩:=h;have k:(ksY ks)[p]?=some (.tup [.str (kL t),.str n]):=k;rw[h] at k;injection k with k;injection k with k;injection k with _ k;injection k with _ k;cases k
 |.node e l r,.node e' l' r',p,⟨i,j,h,hl,hr⟩,⟨i',j',k,kl,kr⟩=>by
  rw[h] at k;injection k with k;injection k with k;injection k with k1 k2;injection k2 with k2 k3;injection k3 with k3 _
  injection k1 with k1;injection k2 with k2;injection k3 with k3
  have e1:i=i':=by omega
  have e2:j=j':=by omega
  subst e1 e2;have:e=e':=by cases e<;>cases e'<;>first | rfl | (exfalso;revert k1;decide +kernel)
  rw[this,ab3 (ks:=ks) hl kl,ab3 (ks:=ks) hr kr]
theorem ah8{ks:List Kn}(hk:KnOk ks):∀(m p:Nat),p<m->p<ks.length->∃w,WAt ks p w/\w.depth≤p+1/\w.ok
 |0,p,h,_=>absurd h (by omega)
 |m+1,p,h,hp=>by
  obtain⟨k,ek⟩:∃k,ks[p]?=some k:=⟨_,Aj hp⟩;have ho:=hk p k ek;cases k with
  |lf t n=>exact⟨.leaf t n,WAt.leaf ek,by show 1≤p+1;omega,ho⟩
  |nd e i j=>
   have ho:i<p/\j<p:=ho;obtain⟨l,a1,a2,a3⟩:=ah8 hk m i (by omega) (by omega);obtain⟨r,b1,b2,b3⟩:=ah8 hk m j (by omega) (by omega);exact⟨.node e l r,WAt.node ek a1 b1,by show max l.depth r.depth+1≤p+1;omega,a3,b3⟩
def TV(v:Str->Bool):Wd->Bool
 |.leaf t n=>if t=true then !v n else v n
 |.node e l r=>if e=true then TV v l||TV v r else TV v l&&TV v r
theorem agl(v:Str->Bool):∀w:Wd,TV v w.turn=!TV v w
 |.leaf t n=>by cases t<;>simp[Wd.turn,TV]
 |.node e l r=>by cases e<;>simp[Wd.turn,TV,agl v l,agl v r]
theorem SR.lt{ks:List Kn}{R:Ru}{E:List Nat}(h:SR ks R E):∀x∈zj R,x<ks.length:=by
 have lt:∀{p:Nat} {k:Kn},ks[p]?=some k->p<ks.length:=fun h=>(AU.mp h).1
 induction h with
 |link _ h2 h3 _ _=>intro x hx;simp[zj] at hx;rcases hx with rfl | rfl;exact lt h2;exact lt h3
 |ei h1 _ _ _ _ _ _ ih=>intro x hx;rcases As.mp hx with rfl | hx;exact lt h1;exact ih x hx
 |bo h1 _ _ _ _ _ _ ih1 ih2=>
  intro x hx;rcases As.mp hx with rfl | hx
  ·exact lt h1
  ·rcases Al.mp hx with hx | hx
   ·exact ih1 x hx
   ·exact ih2 x hx
 |cu _ _ _ _ _ _ _ _ ih1 ih2=>
  intro x hx;rcases Al.mp hx with hx | hx
  ·exact ih1 x hx
  ·exact ih2 x hx
theorem SR.tv{ks:List Kn}(hk:KnOk ks)(v:Str->Bool){R:Ru}{E:List Nat}(h:SR ks R E):∃x∈E,∃w,WAt ks x w/\TV v w=true:=by
 have ex:∀{R':Ru} {E':List Nat},SR ks R' E'->∀x∈E',∃w,WAt ks x w:=fun s x hx=>by
  obtain⟨w,hw,_⟩:=ah8 hk (x+1) x (by omega) (s.lt x (s.sub x hx));exact⟨w,hw⟩
 induction h with
 |@link p q t n E _ h2 h3 h4 _=>
  cases ht:TV v (.leaf t n) with
  |true=>exact⟨p,(h4 p).mpr (.inl rfl),_,WAt.leaf h2,ht⟩
  |false=>
   refine⟨q,(h4 q).mpr (.inr rfl),_,WAt.leaf h3,?_⟩;have:=agl v (.leaf t n);rw[ht] at this;exact this
 |@ei r i j A EA E h1 hA hi hj _ h6 _ ih=>
  obtain⟨x,hx,w,hw,tv⟩:=ih;obtain⟨wi,wi'⟩:=ex hA i hi;obtain⟨wj,wj'⟩:=ex hA j hj
  by_cases c1:x=i
  ·subst c1;rw[ab3 hw wi'] at tv;exact⟨r,(h6 r).mpr (.inr rfl),_,WAt.node h1 wi' wj',by simp[TV,tv]⟩
  ·by_cases c2:x=j
   ·subst c2;rw[ab3 hw wj'] at tv;exact⟨r,(h6 r).mpr (.inr rfl),_,WAt.node h1 wi' wj',by simp[TV,tv]⟩
   ·exact⟨x,(h6 x).mpr (.inl ⟨hx,c1,c2⟩),w,hw,tv⟩
 |@bo r i j A B EA EB E h1 hA hB hi hj h6 _ ih1 ih2=>
  obtain⟨x,hx,w,hw,tv⟩:=ih1;obtain⟨y,hy,u,hu,tu⟩:=ih2
  by_cases c1:x=i
  ·by_cases c2:y=j
   ·subst c1 c2;exact⟨r,(h6 r).mpr (.inr (.inr rfl)),_,WAt.node h1 hw hu,by simp[TV,tv,tu]⟩
   ·exact⟨y,(h6 y).mpr (.inr (.inl ⟨hy,c2⟩)),u,hu,tu⟩
  ·exact⟨x,(h6 x).mpr (.inl ⟨hx,c1⟩),w,hw,tv⟩
 |@cu p q A B EA EB E w0 hA hB hp hq hwp hwq h7 _ ih1 ih2=>
  obtain⟨x,hx,w,hw,tv⟩:=ih1;obtain⟨y,hy,u,hu,tu⟩:=ih2
  by_cases c1:x=p
  ·by_cases c2:y=q
   ·subst c1 c2;rw[ab3 hw hwp] at tv;rw[ab3 hu hwq,agl,tv] at tu;cases tu
   ·exact⟨y,(h7 y).mpr (.inr ⟨hy,c2⟩),u,hu,tu⟩
  ·exact⟨x,(h7 x).mpr (.inl ⟨hx,c1⟩),w,hw,tv⟩
theorem SR.ends{ks:List Kn}(hk:KnOk ks){R:Ru}{E:List Nat}(h:SR ks R E):0<E.length:=by
 obtain⟨x,hx,_⟩:=h.tv hk fun _=>true;exact List.length_pos_of_mem hx
structure Tr where
 a:Addr
 b:Addr
 R:Ru
 E:List Nat
abbrev qu(E:List Nat):List Y:=E.map fun n:Nat=>Y.int (n:Int)
def Tr.ads(t:Tr):List Addr:=[t.a,t.b]
structure FoB(L0 L:LHp)(ka fa:Addr)(ks:List Kn)(fo:List Tr):Prop where
 hk:L ka=some (.lst (ksY ks))
 ht:∀t∈fo,L t.a=some (.lst [qz t.R,.ref t.b])/\L t.b=some (.lst (qu t.E))
 sr:∀t∈fo,SR ks t.R t.E
 nd:(fo.flatMap fun t=>zj t.R).Nodup
 tm:∀x,x∈(fo.flatMap fun t=>zj t.R)↔x<ks.length
 ad:(ka::fa::fo.flatMap Tr.ads).Nodup
 ok:KnOk ks
 sub:LSub L0 L
 fr:∀x∈ka::fa::fo.flatMap Tr.ads,L0 x=none
def z9(fo:List Tr):List Y:=fo.map fun t=>Y.ref t.a
structure FoI(L0 L:LHp)(ka fa:Addr)(ks:List Kn)(fo:List Tr):Prop where
 b:FoB L0 L ka fa ks fo
 hf:L fa=some (.lst (z9 fo))
theorem FoB.perm{L0 L:LHp}{ka fa:Addr}{ks:List Kn}{fo fo':List Tr}(h:FoB L0 L ka fa ks fo)(p:fo.Perm fo'):FoB L0 L ka fa ks fo':=by
 have p1:(fo.flatMap fun t=>zj t.R).Perm (fo'.flatMap fun t=>zj t.R):=p.flatMap_right _;have p2:(fo.flatMap Tr.ads).Perm (fo'.flatMap Tr.ads):=p.flatMap_right _;refine⟨h.hk,fun t ht=>h.ht t (p.mem_iff.mpr ht),fun t ht=>h.sr t (p.mem_iff.mpr ht),p1.nodup_iff.mp h.nd,fun x=>by rw[<-p1.mem_iff];exact h.tm x,((p2.cons _).cons _).nodup_iff.mp h.ad,h.ok,h.sub,fun x hx=>h.fr x (((p2.cons _).cons _).mem_iff.mpr hx)⟩
theorem jg{α:Type}:∀{l:List α} {j:Nat} {x:α},l[j]?=some x->l.Perm (x::l.eraseIdx j)
 |[],_,_,h=>by simp at h
 |y::r,0,x,h=>by
  have:y=x:=by simpa using h
  subst this;exact .refl _
 |y::r,j+1,x,h=>by
  have ih:=jg (l:=r) (j:=j) (x:=x) (by simpa using h);rw[Cb];exact(ih.cons y).trans (.swap _ _ _)
theorem ahv(fo:List Tr)(j:Nat):(z9 fo).eraseIdx j=z9 (fo.eraseIdx j):=afb _ fo j
theorem FoB.step{L0 L L':LHp}{ka fa:Addr}{ks ms:List Kn}{old rest:List Tr}{t':Tr}(h:FoB L0 L ka fa ks (old++rest))(hk:L' ka=some (.lst (ksY (ks++ms))))(ht:L' t'.a=some (.lst [qz t'.R,.ref t'.b])/\L' t'.b=some (.lst (qu t'.E)))
 (keep:∀t∈rest,L' t.a=L t.a/\L' t.b=L t.b) (sub:LSub L0 L') (ad:(ka::fa::(rest++[t']).flatMap Tr.ads).Nodup) (fr:∀x∈t'.ads,L0 x=none) (ok:KnOk (ks++ms)) (sr:SR (ks++ms) t'.R t'.E)
 (tp:(zj t'.R).Perm (List.range' ks.length ms.length++old.flatMap fun t=>zj t.R)):FoB L0 L' ka fa (ks++ms) (rest++[t']):=by
 have hnd:=h.nd;have htm:=h.tm;rw[AO] at hnd;have e1:((rest++[t']).flatMap fun t=>zj t.R)=(rest.flatMap fun t=>zj t.R)++zj t'.R:=by rw[AO];simp
 have mem:∀x,x∈zj t'.R↔(ks.length≤x/\x<ks.length+ms.length)\/x∈(old.flatMap fun t=>zj t.R):=fun x=>by
  rw[tp.mem_iff,Al,CT]
 refine⟨hk,fun t h'=>?_,fun t h'=>?_,?_,fun x=>?_,ad,ok,sub,fun x hx=>?_⟩
 ·rcases Al.mp h' with h' | h'
  ·obtain⟨k1,k2⟩:=keep t h';rw[k1,k2];exact h.ht t (Ag _ h')
  ·rw[AC.mp h'];exact ht
 ·rcases Al.mp h' with h' | h'
  ·exact(h.sr t (Ag _ h')).more _
  ·rw[AC.mp h'];exact sr
 ·rw[e1,AI];rw[AI] at hnd;refine⟨hnd.2.1,tp.nodup_iff.mpr ?_,fun x hx y hy e=>?_⟩
  ·rw[AI];refine⟨Dx,hnd.1,fun x hx y hy e=>?_⟩;have hx:=CT.mp hx;have hy:=(htm y).mp (by rw[AO];exact Aw _ hy);omega
  ·subst e;rcases (mem x).mp hy with hy | hy
   ·have:=(htm x).mp (by rw[AO];exact Ag _ hx);omega
   ·exact hnd.2.2 x hy x hx rfl
 ·rw[e1,Al,mem,Ad];have h1:=htm x;rw[AO,Al] at h1;constructor
  ·rintro(h2 | h2 | h2)
   ·have:=h1.mp (.inr h2);omega
   ·omega
   ·have:=h1.mp (.inl h2);omega
  ·intro h2
   by_cases c:x<ks.length
   ·rcases h1.mpr c with h3 | h3
    ·exact .inr (.inr h3)
    ·exact .inl h3
   ·exact .inr (.inl (by omega))
 ·rcases As.mp hx with rfl | hx
  ·exact h.fr _ (Av ..)
  ·rcases As.mp hx with rfl | hx
   ·exact h.fr _ (Ai _ (Av ..))
   ·rw[AO] at hx;rcases Al.mp hx with hx | hx
    ·exact h.fr _ (Ai _ (Ai _ (by rw[AO];exact Ag _ hx)))
    ·exact fr x (by simpa using hx)
def agm:Sp3:=fun ys L Q=>∃L0 ka fa ks fo,∃one two:Int,ys=[.ref ka,.ref fa,.int one,.int two]/\FoI L0 L ka fa ks fo/\2≤fo.length/\fo.length≤200/\ks.length≤200/\
 ∀L' ks' fo',FoI L0 L' ka fa ks' fo'->ks'.length=ks.length+1->fo'.length+1=fo.length->Q .non L'
theorem af6{α:Type}{l:List α}(h:0<l.length)(k:Int):∃(j:Nat) (x:α),k % (l.length:Int)=(j:Int)/\j<l.length/\l[j]?=some x:=by
 have h0:0≤k % (l.length:Int):=Df _ (by omega);have h1:k % (l.length:Int)<(l.length:Int):=Dq _ (by omega);refine⟨(k % (l.length:Int)).toNat,l[(k % (l.length:Int)).toNat]'(by omega),by omega,by omega,Aj (by omega)⟩
theorem aav:∀(n:Nat) (l:List Nat),l.Nodup->(∀x∈l,x<n)->l.length≤n
 |0,l,_,h=>by
  cases l with
  |nil=>exact An _
  |cons x r=>exact absurd (h x (Av ..)) (by omega)
 |n+1,l,nd,h=>by
  by_cases c:n∈l
  ·have p:=List.perm_cons_erase c;have ih:=aav n (l.erase n) (nd.erase n) fun x hx=>by
    have:=(List.Nodup.mem_erase_iff nd).mp hx;have:=h x this.2;omega
   rw[p.length_eq,AF];omega
  ·exact Dw (aav n l nd fun x hx=>by have:=h x hx;have:x≠n:=fun e=>c (e▸hx);omega)
theorem aal{L0 L:LHp}{ka fa:Addr}{ks:List Kn}{fo:List Tr}(h:FoB L0 L ka fa ks fo){t:Tr}(ht:t∈fo):0<t.E.length/\t.E.length≤ks.length:=by
 have s:=h.sr t ht;exact⟨s.ends h.ok,aav _ _ s.nod fun x hx=>s.lt x (s.sub x hx)⟩
theorem auo(x l r:Nat):inV (toV (.int (x:Int))) (([.int (l:Int),.int (r:Int)]:List Y).map toV)=decide (x=l\/x=r):=by
 show(eqV (.int (l:Int)) (.int (x:Int))||(eqV (.int (r:Int)) (.int (x:Int))||false))=_;have e:∀a b:Nat,eqV (.int (a:Int)) (.int (b:Int))=decide (b=a):=fun a b=>by
  show decide ((a:Int)=(b:Int))=decide (b=a)
  by_cases c:b=a
  ·subst c;simp
  ·rw[Aq c];apply Aq;omega
 rw[e,e]
 by_cases h1:x=l<;>by_cases h2:x=r<;>simp[h1,h2]
theorem ak7{E:List Nat}(h:0<E.length)(k:Int):∃x,x∈E/\atI (qu E) (k % ((qu E).length:Int))=some (.int ((x:Nat):Int)):=by
 obtain⟨j,x,ej,lj,ex⟩:=af6 h k;refine⟨x,AM ex,?_⟩;rw[Ae,ej];exact xu (by rw[Ap,ex];rfl)
def jm(E1 E2:List Nat)(l r:Nat):List Nat:=(E1++E2).filter fun x=>!decide (x=l\/x=r)
theorem asg{L:LHp}{pp:Addr}{E:List Nat}{l r k:Nat}{τ:St3}{Q:YK}{tc:TT3}(hp:L pp=some (.lst (qu E)))(hlen:E.length≤1000)
 (ht:∀y (Q':Bool->LHp->Prop),ahw true y (.tup [.int (l:Int),.int (r:Int)]) L (fun x L'=>match x with | .bl c=>Q' c L' | _=>False)->tc (aaq (τ++List.replicate 1 none) k y) L Q')
 (hv:∀y,ano (aaq (τ++List.replicate 1 none) k y) k=some y)
 (hq:∀p,L p=none->Q (.ref p) (qh L p (.lst (qu (E.filter fun x=>!decide (x=l\/x=r)))))):
 alv L pp fun ys keep L2=>lcK ys keep 1 (qi k) tc (qb k) τ L2 Q:=by
 refine jn hp fun keep kp=>ado (fun j zs=>zs=qu ((E.take j).filter fun x=>!decide (x=l\/x=r))) (by rw[Ae];exact ajk hlen) (kp L rfl) rfl ?_ ?_
 ·rintro j y _ ey rfl;obtain⟨x,ex,rfl⟩:∃x:Nat,E[j]?=some x/\y=Y.int (x:Int):=by
   rw[Ap] at ey;obtain⟨x,e1,e2⟩:=Ar.mp ey;exact⟨x,e1,e2.symm⟩
  refine ht _ _ ⟨rfl,rfl,?_⟩;rw[auo];show vm (!decide (x=l\/x=r)) _ _;have et:(E.take (j+1)).filter (fun x=>!decide (x=l\/x=r))=(E.take j).filter (fun x=>!decide (x=l\/x=r))++[x].filter (fun x=>!decide (x=l\/x=r)):=by
   rw[Bp,ex,Ci];rfl
  by_cases c:x=l\/x=r
  ·refine wo (by rw[AD c];rfl) ?_;refine frg ⟨rfl,?_⟩;rw[et,DG (by simp[c]),Cj,AR]
  ·refine aai (by rw[Aq c];rfl) ?_;unfold qb;rw[hv];refine frg ⟨rfl,?_⟩;rw[et,DH (by simp[c]),Cj];unfold qu;rw[AG];rfl
 ·rintro _ rfl p hp';rw[Ae,Bs];exact hq p hp'
theorem ao0{L:LHp}{fa:Addr}{fo:List Tr}{k:Int}(hf:L fa=some (.lst (z9 fo)))(h:0<fo.length):∃(j:Nat) (t:Tr),fo[j]?=some t/\0≤k % ((z9 fo).length:Int)/\k % ((z9 fo).length:Int)<((z9 fo).length:Int)/\
 (z9 fo)[(k % ((z9 fo).length:Int)).toNat]?=some (.ref t.a)/\qh L fa (.lst ((z9 fo).eraseIdx (k % ((z9 fo).length:Int)).toNat)) fa=some (.lst (z9 (fo.eraseIdx j))):=by
 obtain⟨j,t,ej,lj,et⟩:=af6 h k;have e:(z9 fo).length=fo.length:=Ae ..;rw[e,ej];refine⟨j,t,et,by omega,by omega,?_,?_⟩
 ·show(z9 fo)[j]?=_;unfold z9;rw[Ap,et];rfl
 ·rw[q9];show some (LO.lst ((z9 fo).eraseIdx j))=_;rw[ahv]
theorem FoB.two{L0 L:LHp}{ka fa:Addr}{ks:List Kn}{t1 t2:Tr}{rest:List Tr}(h:FoB L0 L ka fa ks (t1::t2::rest)):∀x,x∈zj t1.R->x∈zj t2.R->False:=by
 intro x h1 h2;have nd:=h.nd;rw[AS,AS,AI] at nd;exact nd.2.2 x h1 x (Aw _ h2) rfl
theorem alb{E1 E2:List Nat}{l r:Nat}(hl:l∉E2)(hr:r∉E1)(x:Nat):x∈jm E1 E2 l r↔(x∈E1/\x≠l)\/(x∈E2/\x≠r):=by
 unfold jm;rw[BX,Al];constructor
 ·rintro⟨h,c⟩;have c:¬(x=l\/x=r):=by simpa using c
  rcases h with h | h
  ·exact .inl ⟨h,fun e=>c (.inl e)⟩
  ·exact .inr ⟨h,fun e=>c (.inr e)⟩
 ·rintro(⟨h,c⟩ | ⟨h,c⟩)
  ·refine⟨.inl h,?_⟩;have:x≠r:=fun e=>hr (e▸h);simp[c,this]
  ·refine⟨.inr h,?_⟩;have:x≠l:=fun e=>hl (e▸h);simp[c,this]
theorem ajz{E1 E2:List Nat}{l r:Nat}(h1:E1.Nodup)(h2:E2.Nodup)(d:∀x,x∈E1->x∈E2->False):(jm E1 E2 l r).Nodup:=by
 unfold jm;have h:(E1++E2).Nodup:=by
  rw[AI];exact⟨h1,h2,fun x hx y hy e=>d x hx (e▸hy)⟩
 exact List.Pairwise.filter _ h
theorem av4:∀ys L Q,agm ys L Q->w9 au1 9 ys L Q:=by
 rintro ys L Q ⟨L0,ka,fa,ks,fo,one,two,rfl,F,h2,h200,hk200,q⟩;have big:=bg_;have lenR:∀fo:List Tr,(z9 fo).length=fo.length:=fun fo=>Ae ..;obtain⟨j1,t1,at1,a1,a2,a3,hf1⟩:=ao0 (k:=two) F.hf (by omega);have l1:(fo.eraseIdx j1).length+1=fo.length:=by
  have:=(jg at1).length_eq;rw[AF] at this;omega
 refine qe F.hf (qe F.hf ⟨(by show(0:Int)<((z9 fo).length:Int);rw[lenR];omega),qm F.hf ⟨a1,a2,qp a3 ?_⟩⟩);have old1:∀b o,b≠fa->L b=some o->qh L fa (.lst ((z9 fo).eraseIdx (two % ((z9 fo).length:Int)).toNat)) b=some o:=fun b o nb e=>by rw[qd nb];exact e
 generalize qh L fa (.lst ((z9 fo).eraseIdx (two % ((z9 fo).length:Int)).toNat))=L1 at hf1 old1;obtain⟨j2,t2,at2,b1,b2,b3,hf2⟩:=ao0 (k:=one) hf1 (by omega);have l2:((fo.eraseIdx j1).eraseIdx j2).length+1=(fo.eraseIdx j1).length:=by
  have:=(jg at2).length_eq;rw[AF] at this;omega
 refine qe hf1 (qe hf1 ⟨(by show(0:Int)<((z9 (fo.eraseIdx j1)).length:Int);rw[lenR];omega),qm hf1 ⟨b1,b2,qp b3 ?_⟩⟩);have old2:∀b o,b≠fa->L b=some o->qh L1 fa (.lst ((z9 (fo.eraseIdx j1)).eraseIdx (one % ((z9 (fo.eraseIdx j1)).length:Int)).toNat)) b=some o:=fun b o nb e=>by rw[qd nb];exact old1 b o nb e
 generalize qh L1 fa (.lst ((z9 (fo.eraseIdx j1)).eraseIdx (one % ((z9 (fo.eraseIdx j1)).length:Int)).toNat))=L2 at hf2 old2;have B:FoB L0 L ka fa ks (t1::t2::(fo.eraseIdx j1).eraseIdx j2):=F.b.perm ((jg at1).trans ((jg at2).cons _));generalize (fo.eraseIdx j1).eraseIdx j2=rest at l2 hf2 B;clear hf1 old1 a1 a2 a3 b1 b2 b3;have m1:t1∈t1::t2::rest:=by simp
 have m2:t2∈t1::t2::rest:=by simp
 have ad:=B.ad;have nk:∀t∈t1::t2::rest,t.a≠fa/\t.b≠fa/\t.a≠ka/\t.b≠ka:=fun t ht=>by
  rw[Au,Au] at ad;have ma:t.a∈(t1::t2::rest).flatMap Tr.ads:=Bh.mpr ⟨t,ht,by simp[Tr.ads]⟩;have mb:t.b∈(t1::t2::rest).flatMap Tr.ads:=Bh.mpr ⟨t,ht,by simp[Tr.ads]⟩;exact⟨fun e=>ad.2.1 (e▸ma),fun e=>ad.2.1 (e▸mb),fun e=>ad.1 (Ai _ (e▸ma)),fun e=>ad.1 (Ai _ (e▸mb))⟩
 have nkf:ka≠fa:=by rw[Au] at ad;exact fun e=>ad.1 (e▸Av ..)
 have hk2:L2 ka=some (.lst (ksY ks)):=old2 ka _ nkf B.hk;have ta1:=old2 t1.a _ (nk t1 m1).1 (B.ht t1 m1).1;have tb1:=old2 t1.b _ (nk t1 m1).2.1 (B.ht t1 m1).2;have ta2:=old2 t2.a _ (nk t2 m2).1 (B.ht t2 m2).1;have tb2:=old2 t2.b _ (nk t2 m2).2.1 (B.ht t2 m2).2;have le1:=aal B m1;have le2:=aal B m2;obtain⟨x,hx,ex⟩:=ak7 le1.1 (two / 64);obtain⟨y,hy,ey⟩:=ak7 le2.1 (one / 64);refine qe ta1 ⟨⟨by decide,by decide⟩,qe ta1 (qe tb1 ⟨(by show(0:Int)<((qu t1.E).length:Int);rw[Ae];omega),qe tb1 (qp ex ?_)⟩)⟩;refine qe ta2 ⟨⟨by decide,by decide⟩,qe ta2 (qe tb2 ⟨(by show(0:Int)<((qu t2.E).length:Int);rw[Ae];omega),qe tb2 (qp ey ?_)⟩)⟩;refine qe hk2 (qm hk2 ⟨big _ (by rw[Ae];omega),?_⟩);have ek:ksY ks++[.tup [.str "both",.int ((x:Nat):Int),.int ((y:Nat):Int)]]=ksY (ks++[.nd false x y]):=by unfold ksY;rw[AG];rfl
 rw[ek];have hk3:qh L2 ka (.lst (ksY (ks++[.nd false x y]))) ka=some (.lst (ksY (ks++[.nd false x y]))):=q9;have old3:∀b o,b≠ka->L2 b=some o->qh L2 ka (.lst (ksY (ks++[.nd false x y]))) b=some o:=fun b o nb e=>by rw[qd nb];exact e
 generalize qh L2 ka (.lst (ksY (ks++[.nd false x y])))=L3 at hk3 old3;have ta1:=old3 _ _ (nk t1 m1).2.2.1 ta1;have tb1:=old3 _ _ (nk t1 m1).2.2.2 tb1;have ta2:=old3 _ _ (nk t2 m2).2.2.1 ta2;have tb2:=old3 _ _ (nk t2 m2).2.2.2 tb2;have hf3:=old3 _ _ (AK nkf) hf2;refine qe ta1 (qe ta2 ⟨_,_,tb1,tb2,adf (by rw[Ae,Ae];omega),fun pp hpp=>?_⟩);have en:qu t1.E++qu t2.E=qu (t1.E++t2.E):=by unfold qu;rw[AG]
 rw[en];refine asg (E:=t1.E++t2.E) (l:=x) (r:=y) (k:=9) q9 (by rw[Ad];omega) (fun y' Q' h=>h) (fun _=>rfl) fun pe hpe=>?_;have s4:LSub L3 (qh (qh L3 pp (.lst (qu (t1.E++t2.E)))) pe (.lst (qu ((t1.E++t2.E).filter fun z=>!decide (z=x\/z=y))))):=(LSub.new hpp).trans (LSub.new hpe);have he4:qh (qh L3 pp (.lst (qu (t1.E++t2.E)))) pe (.lst (qu ((t1.E++t2.E).filter fun z=>!decide (z=x\/z=y)))) pe=some (.lst (qu (jm t1.E t2.E x y))):=q9;generalize qh (qh L3 pp (.lst (qu (t1.E++t2.E)))) pe (.lst (qu ((t1.E++t2.E).filter fun z=>!decide (z=x\/z=y))))=L4 at s4 he4;have hk4:=s4 _ _ hk3;have hf4:=s4 _ _ hf3;have nn:(((ksY (ks++[.nd false x y])).length:Nat):Int) - 1=((ks.length:Nat):Int):=by rw[Ae,Ad];simp
 refine qe hf4 (qe hk4 (qe (s4 _ _ ta1) (qe (s4 _ _ ta2) (qe hk4 fun pn hpn=>?_))));refine⟨_,_,LSub.new hpn _ _ he4,q9,adf (by have:=ajz (l:=x) (r:=y) (B.sr t1 m1).nod (B.sr t2 m2).nod (fun z h1 h2=>B.two z ((B.sr t1 m1).sub z h1) ((B.sr t2 m2).sub z h2));have:=CZ (fun z=>!decide (z=x\/z=y)) (t1.E++t2.E);rw[Ad] at this;rw[Ae];unfold jm;show _+1≤1000;omega),fun pb hpb pa hpa=>?_⟩;have s7:=(LSub.new (o:=.lst [.int ((((ksY (ks++[.nd false x y])).length:Nat):Int) - 1)]) hpn).trans ((LSub.new (o:=.lst (qu (jm t1.E t2.E x y)++[.int ((((ksY (ks++[.nd false x y])).length:Nat):Int) - 1)])) hpb).trans (LSub.new (o:=.lst [.tup [.str "both",.int ((((ksY (ks++[.nd false x y])).length:Nat):Int) - 1),qz t1.R,qz t2.R],.ref pb]) hpa));refine qm (s7 _ _ hf4) ⟨big _ (by rw[lenR];omega),?_⟩;have nab:pb≠pa:=neL q9 hpa;have hpa7:∀L6:LHp,qh L6 pa (.lst [.tup [.str "both",.int ((((ksY (ks++[.nd false x y])).length:Nat):Int) - 1),qz t1.R,qz t2.R],.ref pb]) pa=some (.lst [qz (.bo ks.length t1.R t2.R),.ref pb]):=fun L6=>by rw[q9,nn];rfl
 have hpb7:∀L5 o,qh (qh L5 pb (.lst (qu (jm t1.E t2.E x y)++[.int ((((ksY (ks++[.nd false x y])).length:Nat):Int) - 1)]))) pa o pb=some (.lst (qu (jm t1.E t2.E x y++[ks.length]))):=fun L5 o=>by
  rw[qd nab,q9,nn];unfold qu;rw[AG];rfl
 have ea:=hpa7 (qh (qh L4 pn (.lst [.int ((((ksY (ks++[.nd false x y])).length:Nat):Int) - 1)])) pb (.lst (qu (jm t1.E t2.E x y)++[.int ((((ksY (ks++[.nd false x y])).length:Nat):Int) - 1)])));have eb:=hpb7 (qh L4 pn (.lst [.int ((((ksY (ks++[.nd false x y])).length:Nat):Int) - 1)])) (.lst [.tup [.str "both",.int ((((ksY (ks++[.nd false x y])).length:Nat):Int) - 1),qz t1.R,qz t2.R],.ref pb]);have na4:L4 pa=none:=by
  cases z:L4 pa with
  |none=>rfl
  |some o=>rw[((LSub.new hpn).trans (LSub.new hpb)) _ _ z] at hpa;cases hpa
 have nb4:L4 pb=none:=by
  cases z:L4 pb with
  |none=>rfl
  |some o=>rw[(LSub.new hpn) _ _ z] at hpb;cases hpb
 generalize qh (qh (qh L4 pn (.lst [.int ((((ksY (ks++[.nd false x y])).length:Nat):Int) - 1)])) pb (.lst (qu (jm t1.E t2.E x y)++[.int ((((ksY (ks++[.nd false x y])).length:Nat):Int) - 1)]))) pa (.lst [.tup [.str "both",.int ((((ksY (ks++[.nd false x y])).length:Nat):Int) - 1),qz t1.R,qz t2.R],.ref pb])=L7 at s7 ea eb;clear hpn hpb hpa hpa7 hpb7 he4;have up:∀b o,b≠fa->b≠ka->L b=some o->L4 b=some o:=fun b o n1 n2 e=>s4 _ _ (old3 _ _ n2 (old2 _ _ n1 e));have hf7:=s7 _ _ hf4;have npa:pa≠fa:=fun e=>by rw[e,hf4] at na4;cases na4
 have npb:pb≠fa:=fun e=>by rw[e,hf4] at nb4;cases nb4
 have s1:=B.sr t1 m1;have s2:=B.sr t2 m2;have dis:∀z,z∈t1.E->z∈t2.E->False:=fun z h1 h2=>B.two z (s1.sub z h1) (s2.sub z h2);refine fin (q _ (ks++[.nd false x y]) (rest++[⟨pa,pb,.bo ks.length t1.R t2.R,jm t1.E t2.E x y++[ks.length]⟩]) ⟨?_,?_⟩ (by rw[Ad];rfl) (by rw[Ad];simp;omega))
 ·refine FoB.step (old:=[t1,t2]) (t':=⟨pa,pb,.bo ks.length t1.R t2.R,jm t1.E t2.E x y++[ks.length]⟩) B ?_ ⟨?_,?_⟩ (fun t ht=>?_) (fun b o e=>?_) ?_ (fun z hz=>?_) ?_ ?_ ?_
  ·rw[qd nkf];exact s7 _ _ hk4
  ·rw[qd npa];exact ea
  ·rw[qd npb];exact eb
  ·have mt:t∈t1::t2::rest:=Ai _ (Ai _ ht);obtain⟨n1,n2,n3,n4⟩:=nk t mt;obtain⟨h1,h2⟩:=B.ht t mt;rw[h1,h2,qd n1,qd n2];exact⟨s7 _ _ (up _ _ n1 n3 h1),s7 _ _ (up _ _ n2 n4 h2)⟩
  ·have n1:b≠ka:=fun z=>by rw[z,B.fr ka (by simp)] at e;cases e
   have n2:b≠fa:=fun z=>by rw[z,B.fr fa (by simp)] at e;cases e
   rw[qd n2];exact s7 _ _ (up _ _ n2 n1 (B.sub _ _ e))
  ·rw[Au,Au] at ad;obtain⟨d1,d2,d3⟩:=ad;have d3':(rest.flatMap Tr.ads).Nodup:=by
    rw[AS,AS,AI,AI] at d3;exact d3.2.1.2.1
   have inn:∀z∈rest.flatMap Tr.ads,z∈(t1::t2::rest).flatMap Tr.ads:=fun z hz=>by
    rw[AS,AS];exact Ag _ (Ag _ hz)
   have ex4:∀z∈rest.flatMap Tr.ads,∃o,L4 z=some o:=fun z hz=>by
    obtain⟨t,ht,hz⟩:=Bh.mp hz;have mt:t∈t1::t2::rest:=Ai _ (Ai _ ht);obtain⟨n1,n2,n3,n4⟩:=nk t mt;obtain⟨h1,h2⟩:=B.ht t mt;have hz:z=t.a\/z=t.b:=by simpa[Tr.ads] using hz
    rcases hz with rfl | rfl
    ·exact⟨_,up _ _ n1 n3 h1⟩
    ·exact⟨_,up _ _ n2 n4 h2⟩
   have npk:pa≠ka:=fun e=>by rw[e,hk4] at na4;cases na4
   have nbk:pb≠ka:=fun e=>by rw[e,hk4] at nb4;cases nb4
   have nra:pa∉rest.flatMap Tr.ads:=fun hz=>by obtain⟨o,e⟩:=ex4 _ hz;rw[na4] at e;cases e
   have nrb:pb∉rest.flatMap Tr.ads:=fun hz=>by obtain⟨o,e⟩:=ex4 _ hz;rw[nb4] at e;cases e
   rw[AO];rw[Au,Au,AI];refine⟨?_,?_,d3',?_,?_⟩
   ·intro z;rcases As.mp z with z | z
    ·exact nkf z
    ·rcases Al.mp z with z | z
     ·exact d1 (Ai _ (inn _ z))
     ·simp[Tr.ads] at z;rcases z with z | z;exact npk z.symm;exact nbk z.symm
   ·intro z;rcases Al.mp z with z | z
    ·exact d2 (inn _ z)
    ·simp[Tr.ads] at z;rcases z with z | z;exact npa z.symm;exact npb z.symm
   ·simp[Tr.ads];exact AK nab
   ·intro u hu v hv e;simp[Tr.ads] at hv;subst e;rcases hv with rfl | rfl
    ·exact nra hu
    ·exact nrb hu
  ·have hz:z=pa\/z=pb:=by simpa[Tr.ads] using hz
   cases w:L0 z with
   |none=>rfl
   |some o=>
    have n1:z≠ka:=fun e=>by rw[e,B.fr ka (by simp)] at w;cases w
    have n2:z≠fa:=fun e=>by rw[e,B.fr fa (by simp)] at w;cases w
    have:=up _ _ n2 n1 (B.sub _ _ w);rcases hz with rfl | rfl
    ·rw[na4] at this;cases this
    ·rw[nb4] at this;cases this
  ·exact B.ok.snoc ⟨s1.lt x (s1.sub x hx),s2.lt y (s2.sub y hy)⟩
  ·refine .bo (abh _ _ _) (s1.more _) (s2.more _) hx hy (fun z=>?_) ?_
   ·rw[Al,alb (fun h=>dis x hx h) (fun h=>dis y h hy),AC];constructor
    ·rintro((h | h) | h)
     ·exact .inl h
     ·exact .inr (.inl h)
     ·exact .inr (.inr h)
    ·rintro(h | h | h)
     ·exact .inl (.inl h)
     ·exact .inl (.inr h)
     ·exact .inr h
   ·rw[AI];refine⟨ajz s1.nod s2.nod dis,by simp,fun u hu v hv e=>?_⟩;rw[AC.mp hv] at e;have:=(alb (fun h=>dis x hx h) (fun h=>dis y h hy) u).mp hu;rcases this with⟨h,_⟩ | ⟨h,_⟩
    ·have:=s1.lt u (s1.sub u h);omega
    ·have:=s2.lt u (s2.sub u h);omega
  ·show(ks.length::(zj t1.R++zj t2.R)).Perm (List.range' ks.length 1++([t1,t2].flatMap fun t=>zj t.R));simp[DE]
 ·rw[q9];unfold z9;rw[AG];rfl
theorem an2{E:List Nat}{k:Int}(h:0<E.length):∃(j x:Nat),E[j]?=some x/\0≤k % ((qu E).length:Int)/\k % ((qu E).length:Int)<((qu E).length:Int)/\
 (qu E)[(k % ((qu E).length:Int)).toNat]?=some (.int ((x:Nat):Int))/\(qu E).eraseIdx (k % ((qu E).length:Int)).toNat=qu (E.eraseIdx j):=by
 obtain⟨j,x,ej,lj,et⟩:=af6 h k;have e:(qu E).length=E.length:=Ae ..;rw[e,ej];refine⟨j,x,et,by omega,by omega,?_,?_⟩
 ·show(qu E)[j]?=_;rw[Ap,et];rfl
 ·exact afb _ E j
def af0:Sp3:=fun ys L Q=>∃L0 ka fa ks,∃pre post:List Tr,∃t:Tr,∃one two:Int,ys=[.ref ka,.ref t.a,.int one,.int two]/\FoI L0 L ka fa ks (pre++t::post)/\ks.length≤200/\
 ∀L' ks' fo',FoI L0 L' ka fa ks' fo'->ks'.length≤ks.length+1->fo'.length=(pre++t::post).length->Q .non L'
theorem au8:∀ys L Q,af0 ys L Q->w9 apq 6 ys L Q:=by
 rintro ys L Q ⟨L0,ka,fa,ks,pre,post,t,one,two,rfl,F,hk200,q⟩;have big:=bg_;have mt:t∈pre++t::post:=by simp
 have B:=F.b;obtain⟨ta,tb⟩:=B.ht t mt;have le:=aal B mt;have s:=B.sr t mt;have lenE:∀E:List Nat,(qu E).length=E.length:=fun E=>Ae ..;refine qe ta (qe tb ?_);refine zu (fun c=>?_) fun c=>?_
 ·exact fin (q L ks _ F (Cs _) rfl)
 have c:¬(((qu t.E).length:Int)<2):=c;rw[lenE] at c;have ad:=B.ad;have nkf:ka≠fa:=by rw[Au] at ad;exact fun e=>ad.1 (e▸Av ..)
 have nk:∀u∈pre++t::post,u.a≠fa/\u.b≠fa/\u.a≠ka/\u.b≠ka:=fun u hu=>by
  rw[Au,Au] at ad;have ma:u.a∈(pre++t::post).flatMap Tr.ads:=Bh.mpr ⟨u,hu,by simp[Tr.ads]⟩;have mb:u.b∈(pre++t::post).flatMap Tr.ads:=Bh.mpr ⟨u,hu,by simp[Tr.ads]⟩;exact⟨fun e=>ad.2.1 (e▸ma),fun e=>ad.2.1 (e▸mb),fun e=>ad.1 (Ai _ (e▸ma)),fun e=>ad.1 (Ai _ (e▸mb))⟩
 have nab:t.a≠t.b:=by
  rw[Au,Au,AO,AS,AI,AI] at ad;have:=ad.2.2.2.1.1;simpa[Tr.ads] using this
 obtain⟨j1,x,e1,a1,a2,a3,a4⟩:=an2 (k:=two) le.1;refine qe ta (qe tb (qe ta (qe tb ⟨(by show(0:Int)<((qu t.E).length:Int);rw[lenE];omega),qm tb ⟨a1,a2,qp a3 ?_⟩⟩)));rw[a4];have lE1:(t.E.eraseIdx j1).length+1=t.E.length:=by have:=(jg e1).length_eq;rw[AF] at this;omega
 have ta1:qh L t.b (.lst (qu (t.E.eraseIdx j1))) t.a=some (.lst [qz t.R,.ref t.b]):=by rw[qd nab];exact ta
 obtain⟨j2,y,e2,b1,b2,b3,b4⟩:=an2 (E:=t.E.eraseIdx j1) (k:=one) (by omega);refine qe ta1 (qe q9 (qe ta1 (qe q9 ⟨(by show(0:Int)<((qu (t.E.eraseIdx j1)).length:Int);rw[lenE];omega),qm q9 ⟨b1,b2,qp b3 ?_⟩⟩)));rw[b4,xm];have lE2:((t.E.eraseIdx j1).eraseIdx j2).length+1=(t.E.eraseIdx j1).length:=by have:=(jg e2).length_eq;rw[AF] at this;omega
 have pE:t.E.Perm (x::y::(t.E.eraseIdx j1).eraseIdx j2):=(jg e1).trans ((jg e2).cons _);generalize (t.E.eraseIdx j1).eraseIdx j2=E2 at lE2 pE;have hk1:qh L t.b (.lst (qu E2)) ka=some (.lst (ksY ks)):=by rw[qd (AK (nk t mt).2.2.2)];exact B.hk
 refine qe hk1 (qm hk1 ⟨big _ (by rw[Ae];omega),?_⟩);have ek:ksY ks++[.tup [.str "either",.int ((x:Nat):Int),.int ((y:Nat):Int)]]=ksY (ks++[.nd true x y]):=by unfold ksY;rw[AG];rfl
 rw[ek];have nn:(((ksY (ks++[.nd true x y])).length:Nat):Int) - 1=((ks.length:Nat):Int):=by rw[Ae,Ad];simp
 have ta2:qh (qh L t.b (.lst (qu E2))) ka (.lst (ksY (ks++[.nd true x y]))) t.a=some (.lst [qz t.R,.ref t.b]):=by rw[qd (nk t mt).2.2.1,qd nab];exact ta
 refine qe q9 (qe ta2 ?_);refine qm ta2 (qp (v:=0) rfl ?_);have ha3:qh (qh (qh L t.b (.lst (qu E2))) ka (.lst (ksY (ks++[.nd true x y])))) t.a (.lst ([qz t.R,.ref t.b].set 0 (.tup [.str "either",.int ((((ksY (ks++[.nd true x y])).length:Nat):Int) - 1),qz t.R]))) t.a=some (.lst [qz (.ei ks.length t.R),.ref t.b]):=by rw[q9,nn];rfl
 have hk3:∀o,qh (qh (qh L t.b (.lst (qu E2))) ka (.lst (ksY (ks++[.nd true x y])))) t.a o ka=some (.lst (ksY (ks++[.nd true x y]))):=fun o=>by rw[qd (AK (nk t mt).2.2.1)];exact q9
 have tb3:∀o,qh (qh (qh L t.b (.lst (qu E2))) ka (.lst (ksY (ks++[.nd true x y])))) t.a o t.b=some (.lst (qu E2)):=fun o=>by rw[qd (AK nab),qd (nk t mt).2.2.2];exact q9
 have old3:∀o b u,b≠t.a->b≠t.b->b≠ka->L b=some u->qh (qh (qh L t.b (.lst (qu E2))) ka (.lst (ksY (ks++[.nd true x y])))) t.a o b=some u:=fun o b u n1 n2 n3 e=>by rw[qd n1,qd n3,qd n2];exact e
 have hk3:=hk3 (.lst ([qz t.R,.ref t.b].set 0 (.tup [.str "either",.int ((((ksY (ks++[.nd true x y])).length:Nat):Int) - 1),qz t.R])));have tb3:=tb3 (.lst ([qz t.R,.ref t.b].set 0 (.tup [.str "either",.int ((((ksY (ks++[.nd true x y])).length:Nat):Int) - 1),qz t.R])));have old3:=old3 (.lst ([qz t.R,.ref t.b].set 0 (.tup [.str "either",.int ((((ksY (ks++[.nd true x y])).length:Nat):Int) - 1),qz t.R])));generalize qh (qh (qh L t.b (.lst (qu E2))) ka (.lst (ksY (ks++[.nd true x y])))) t.a (.lst ([qz t.R,.ref t.b].set 0 (.tup [.str "either",.int ((((ksY (ks++[.nd true x y])).length:Nat):Int) - 1),qz t.R])))=L3 at ha3 hk3 tb3 old3;refine qe ha3 (qe tb3 (qe hk3 (qm tb3 ⟨big _ (by rw[lenE];omega),?_⟩)));have en:qu E2++[.int ((((ksY (ks++[.nd true x y])).length:Nat):Int) - 1)]=qu (E2++[ks.length]):=by rw[nn];unfold qu;rw[AG];rfl
 have nxy:=pE.nodup_iff.mp s.nod;rw[Au,Au] at nxy;have hx:x∈t.E:=pE.mem_iff.mpr (by simp);have hy:y∈t.E:=pE.mem_iff.mpr (by simp);have adT:∀u∈pre++post,u.a≠t.a/\u.a≠t.b/\u.b≠t.a/\u.b≠t.b:=fun u hu=>by
  have p:(pre++t::post).Perm (t::(pre++post)):=BR;have ad2:=(p.flatMap_right Tr.ads).nodup_iff.mp (by rw[Au,Au] at ad;exact ad.2.2);rw[AS,AI] at ad2;have k:=ad2.2.2;have ma:u.a∈(pre++post).flatMap Tr.ads:=Bh.mpr ⟨u,hu,by simp[Tr.ads]⟩;have mb:u.b∈(pre++post).flatMap Tr.ads:=Bh.mpr ⟨u,hu,by simp[Tr.ads]⟩;exact⟨fun e=>k t.a (by simp[Tr.ads]) u.a ma e.symm,fun e=>k t.b (by simp[Tr.ads]) u.a ma e.symm,fun e=>k t.a (by simp[Tr.ads]) u.b mb e.symm,fun e=>k t.b (by simp[Tr.ads]) u.b mb e.symm⟩
 refine fin (q _ (ks++[.nd true x y]) (pre++⟨t.a,t.b,.ei ks.length t.R,E2++[ks.length]⟩::post) ⟨?_,?_⟩ (by rw[Ad];exact An _) (by simp))
 ·have B':=B.perm (fo':=[t]++(pre++post)) BR;have st:=FoB.step (old:=[t]) (rest:=pre++post) (t':=⟨t.a,t.b,.ei ks.length t.R,E2++[ks.length]⟩) (ms:=[.nd true x y]) (L':=qh L3 t.b (.lst (qu E2++[.int ((((ksY (ks++[.nd true x y])).length:Nat):Int) - 1)]))) B' ?_ ⟨?_,?_⟩ (fun u hu=>?_) (fun b o e=>?_) ?_ (fun z hz=>?_) ?_ ?_ ?_
  ·exact st.perm (by
    have p1:((pre++post)++[(⟨t.a,t.b,.ei ks.length t.R,E2++[ks.length]⟩:Tr)]).Perm ((⟨t.a,t.b,.ei ks.length t.R,E2++[ks.length]⟩:Tr)::(pre++post)):=BU _ _;exact p1.trans BR.symm)
  ·rw[qd (AK (nk t mt).2.2.2)];exact hk3
  ·rw[qd nab];exact ha3
  ·rw[q9,en]
  ·have hu':u∈pre++t::post:=by rcases Al.mp hu with h | h;exact Aw _ h;exact Ag _ (Ai _ h)
   obtain⟨n1,n2,n3,n4⟩:=adT u hu;obtain⟨k1,k2,k3,k4⟩:=nk u hu';obtain⟨h1,h2⟩:=B.ht u hu';rw[h1,h2,qd n2,qd n4];exact⟨old3 _ _ n1 n2 k3 h1,old3 _ _ n3 n4 k4 h2⟩
  ·have fr:=B.fr;have n0:∀z,L0 z=none->b≠z:=fun z hz w=>by rw[w,hz] at e;cases e
   have n1:=n0 ka (fr ka (by simp));have n2:=n0 t.a (fr t.a (by simp[Tr.ads]));have n3:=n0 t.b (fr t.b (by simp[Tr.ads]));rw[qd n3];exact old3 _ _ n2 n3 n1 (B.sub _ _ e)
  ·have p:(pre++t::post).Perm ((pre++post)++[t]):=BR.trans (BU _ _).symm;have e:((pre++post)++[(⟨t.a,t.b,.ei ks.length t.R,E2++[ks.length]⟩:Tr)]).flatMap Tr.ads=((pre++post)++[t]).flatMap Tr.ads:=by simp[AO,Tr.ads]
   rw[e];exact(((p.flatMap_right Tr.ads).cons _).cons _).nodup_iff.mp ad
  ·have hz:z=t.a\/z=t.b:=by simpa[Tr.ads] using hz
   rcases hz with rfl | rfl
   ·exact B.fr _ (by simp[Tr.ads])
   ·exact B.fr _ (by simp[Tr.ads])
  ·exact B.ok.snoc ⟨s.lt x (s.sub x hx),s.lt y (s.sub y hy)⟩
  ·refine .ei (abh _ _ _) (s.more _) hx hy (fun e=>nxy.1 (by rw[e];exact Av ..)) (fun z=>?_) ?_
   ·rw[Al,AC];have hm:=pE.mem_iff (a:=z);rw[As,As] at hm;have h1:z∈E2->z≠x/\z≠y:=fun h=>⟨fun e=>nxy.1 (by rw[<-e];exact Ai _ h),fun e=>nxy.2.1 (e▸h)⟩;constructor
    ·rintro(h | h)
     ·exact .inl ⟨hm.mpr (.inr (.inr h)),h1 h⟩
     ·exact .inr h
    ·rintro(⟨h,c1,c2⟩ | h)
     ·rcases hm.mp h with e | e | e
      ·exact absurd e c1
      ·exact absurd e c2
      ·exact .inl e
     ·exact .inr h
   ·rw[AI];refine⟨nxy.2.2,by simp,fun u hu v hv e=>?_⟩;rw[AC.mp hv] at e;have:u∈t.E:=pE.mem_iff.mpr (Ai _ (Ai _ hu));have:=s.lt u (s.sub u this);omega
  ·show(ks.length::zj t.R).Perm (List.range' ks.length 1++([t].flatMap fun t=>zj t.R));simp[DE]
 ·have nf:=nk t mt;rw[qd (AK nf.2.1)];have:=old3 fa _ (AK nf.1) (AK nf.2.1) (AK nkf) F.hf;rw[this];unfold z9;rw[AG,AG];rfl
def arv(p__law_word:Sp3)(p__law_flip:Sp3)(p__law_weight:Sp3)(p__law_mirror:Sp3):TS3:=(qt (zm (yBL abg (qb 1) (qa (yOp vk (qb 3) (yCB jk (qa (qb 1) qj))) qj)) (qi 4))
 (qt (zm (yOp yIx (yOp yIx (qb 4) (yC (.int 1))) (yOp vk (yOp aan (qb 3) (yC (.int 64))) (yCB jk (qa (yOp yIx (qb 4) (yC (.int 1))) qj)))) (qi 5))
 (qt (zm (zb p__law_word (qa (qb 0) (qa (qb 5) qj))) (qi 6))
 (qt (zm (jw (qa (yC .non) (qa (yC .non) qj))) (vg 2 (za (qi 7) (za (qi 8) xt))))
 (qt (ac3 (adn (qa (yCB jk (qa (qb 1) qj)) qj)) (qi 9) (ac3 (xg (yOp yIx (yOp yIx (qb 1) (qb 9)) (yC (.int 1)))) (qi 10) (jt (ac1 (yB (aco false (qb 7))) (yB (yOp (yEq false) (zb p__law_word (qa (qb 0) (qa (qb 10) qj))) (zb p__law_flip (qa (qb 6) qj))))) (zm (jw (qa (yOp yIx (qb 1) (qb 9)) (qa (qb 10) qj))) (vg 2 (za (qi 7) (za (qi 8) xt)))) je)))
 (qt (jt (ac1 (yB (aco false (qb 7))) (yB (yOp yGt (zb p__law_weight (qa (qb 6) qj)) (yC (.int 5))))) (qt (j9 (yBL zh (qb 1) (qa (qb 4) qj)))
 atd) je)
 (aci (jt (yB (aco false (qb 7))) (qt (zm (zb p__law_mirror (qa (qb 0) (qa (qb 6) qj))) (axt 3 (za (qi 11) (za (qi 8) (za (qi 12) xt)))))
 (zm (xa (qa (qb 11) (qa (xa (qa (qb 8) (qa (qb 12) qj))) qj))) (qi 7))) (j9 (yBL agq (qb 1) (qa (qb 7) qj))))
 (qt (zm (yLC 1 (xg (yOp vt (yOp yIx (qb 4) (yC (.int 1))) (yOp yIx (qb 7) (yC (.int 1))))) (qi 14) (yB (yOp (ahw true) (qb 14) (jw (qa (qb 5) (qa (qb 8) qj))))) (qb 14)) (qi 13))
 (jt (yB (yOp (yEq false) (yOp vk (qb 2) (yC (.int 2))) (yC (.int 0)))) (j9 (yBL zh (qb 1) (qa (xa (qa (jw (qa (yC (.str "cut")) (qa (qb 5) (qa (qb 8) (qa (yOp yIx (qb 4) (yC (.int 0))) (qa (yOp yIx (qb 7) (yC (.int 0))) qj)))))) (qa (qb 13) qj))) qj))) (j9 (yBL zh (qb 1) (qa (xa (qa (jw (qa (yC (.str "cut")) (qa (qb 8) (qa (qb 5) (qa (yOp yIx (qb 7) (yC (.int 0))) (qa (yOp yIx (qb 4) (yC (.int 0))) qj)))))) (qa (qb 13) qj))) qj))))))))))))
theorem ajv:∀a b:List Da,Da.eqs a b=true->a.length=b.length
 |[],[],_=>rfl
 |[],_::_,h=>by cases h
 |_::_,[],h=>by cases h
 |x::r,y::q,h=>by
  have h:(Da.eq x y&&Da.eqs r q)=true:=h;rw[AX] at h;rw[AF,AF,ajv r q h.2]
theorem av6(u:Wd):∀v:Wd,Da.eq (enc u) (enc v)=true->u=v:=by
 induction u with
 |leaf t n=>
  intro v h;cases v with
  |leaf t' n'=>
   rw[avg,AX] at h;rw[of_decide_eq_true h.1,of_decide_eq_true h.2]
  |node e l r=>exact absurd (ajv _ _ h) (by intro z;cases z)
 |node e l r il ir=>
  intro v h;cases v with
  |leaf t n=>exact absurd (ajv _ _ h) (by intro z;cases z)
  |node e' l' r'=>
   have h:(eqV (.str (kN e)) (.str (kN e'))&&(Da.eq (enc l) (enc l')&&(Da.eq (enc r) (enc r')&&true)))=true:=h;rw[AX,AX,AX] at h;obtain⟨h1,h2,h3,_⟩:=h;have:e=e':=by cases e<;>cases e'<;>first | rfl | (exfalso;revert h1;decide +kernel)
   rw[this,il l' h2,ir r' h3]
def wb:Ru->Nat
 |.link _ _=>1
 |.ei _ A=>wb A+1
 |.bo _ A B=>max (wb A) (wb B)+1
 |.cu _ _ A B=>max (wb A) (wb B)+1
theorem wf:∀R:Ru,wb R+1≤(zj R).length
 |.link _ _=>An _
 |.ei _ A=>by have:=wf A;simp[wb,zj];omega
 |.bo _ A B=>by have:=wf A;have:=wf B;simp[wb,zj];omega
 |.cu _ _ A B=>by have:=wf A;have:=wf B;simp[wb,zj];omega
def abb:Ru->Da
 |.link p q=>.tup [.s (.str "link"),.s (.int (p:Int)),.s (.int (q:Int))]
 |.ei r A=>.tup [.s (.str "either"),.s (.int (r:Int)),abb A]
 |.bo r A B=>.tup [.s (.str "both"),.s (.int (r:Int)),abb A,abb B]
 |.cu p q A B=>.tup [.s (.str "cut"),.s (.int (p:Int)),.s (.int (q:Int)),abb A,abb B]
theorem abu{L:LHp}:∀{R:Ru} {n:Nat},wb R≤n->DatN L n (qz R) (abb R)
 |.link p q,n+1,_=>ab8 (.cons (DatN.str _) (.cons (DatN.int _) (.cons (DatN.int _) .nil)))
 |.ei r A,n+1,h=>ab8 (.cons (DatN.str _) (.cons (DatN.int _) (.cons (abu (by simp[wb] at h;omega)) .nil)))
 |.bo r A B,n+1,h=>ab8 (.cons (DatN.str _) (.cons (DatN.int _) (.cons (abu (by simp[wb] at h;omega)) (.cons (abu (by simp[wb] at h;omega)) .nil))))
 |.cu p q A B,n+1,h=>ab8 (.cons (DatN.str _) (.cons (DatN.int _) (.cons (DatN.int _) (.cons (abu (by simp[wb] at h;omega)) (.cons (abu (by simp[wb] at h;omega)) .nil)))))
 |.link _ _,0,h=>by simp[wb] at h
 |.ei _ _,0,h=>by simp[wb] at h
 |.bo _ _ _,0,h=>by simp[wb] at h
 |.cu _ _ _ _,0,h=>by simp[wb] at h
theorem aac:∀R:Ru,Da.eq (abb R) (abb R)=true
 |.link p q=>by simp[abb,Da.eq,Da.eqs,eqV]
 |.ei r A=>by simp[abb,Da.eq,Da.eqs,eqV,aac A]
 |.bo r A B=>by simp[abb,Da.eq,Da.eqs,eqV,aac A,aac B]
 |.cu p q A B=>by simp[abb,Da.eq,Da.eqs,eqV,aac A,aac B]
def adl(E:List Nat):List Da:=E.map fun n:Nat=>Da.s (.int (n:Int))
theorem al7{L:LHp}{n:Nat}:∀E:List Nat,Paired (DatN L n) (qu E) (adl E)
 |[]=>.nil
 |_::r=>.cons (DatN.int _) (al7 r)
theorem ajs:∀E E':List Nat,Da.eqs (adl E) (adl E')=true↔E=E'
 |[],[]=>by simp[adl,Da.eqs]
 |[],_::_=>by simp[adl,Da.eqs]
 |_::_,[]=>by simp[adl,Da.eqs]
 |x::r,y::r'=>by
  have ih:=ajs r r';show(Da.eq (.s (.int (x:Int))) (.s (.int (y:Int)))&&Da.eqs (adl r) (adl r'))=true↔_;rw[AX,ih];have:Da.eq (.s (.int (x:Int))) (.s (.int (y:Int)))=true↔x=y:=by
   show decide ((x:Int)=(y:Int))=true↔_;rw[Dr];omega
  rw[this];constructor
  ·rintro⟨rfl,rfl⟩;rfl
  ·intro e;injection e with e1 e2;exact⟨e1,e2⟩
def ad0(t:Tr):Da:=.lst [abb t.R,.lst (adl t.E)]
theorem aka{L:LHp}{t:Tr}{n:Nat}(ha:L t.a=some (.lst [qz t.R,.ref t.b]))(hb:L t.b=some (.lst (qu t.E)))(h:wb t.R≤n+1):DatN L (n+2) (.ref t.a) (ad0 t):=
 acs ha (.cons (abu h) (.cons (acs hb (al7 _)) .nil))
theorem awd{t u:Tr}:Da.eq (ad0 t) (ad0 u)=true->t.E=u.E:=by
 intro h;have h:(Da.eq (abb t.R) (abb u.R)&&(Da.eqs (adl t.E) (adl u.E)&&true))=true:=h;rw[AX,AX] at h;exact(ajs _ _).mp h.2.1
theorem aqd(t:Tr):Da.eq (ad0 t) (ad0 t)=true:=by
 show(Da.eq (abb t.R) (abb t.R)&&(Da.eqs (adl t.E) (adl t.E)&&true))=true;rw[aac,(ajs _ _).mpr rfl];rfl
theorem FoB.rd{L0 L:LHp}{ka fa:Addr}{ks:List Kn}{fo:List Tr}(h:FoB L0 L ka fa ks fo){t:Tr}(ht:t∈fo):wb t.R≤ks.length:=by
 have h1:=wf t.R;have nd:(zj t.R).Nodup:=by
  obtain⟨a,b,rfl⟩:=Ds ht;have:=h.nd;rw[AO,AS,AI,AI] at this;exact this.2.1.1
 have:=aav _ _ nd fun x hx=>(h.sr t ht).lt x hx;omega
theorem FoB.one{L0 L:LHp}{ka fa:Addr}{ks:List Kn}{fo:List Tr}(h:FoB L0 L ka fa ks fo){i j:Nat}{t u:Tr}(hi:fo[i]?=some t)(hj:fo[j]?=some u)(e:t.E=u.E):i=j:=by
 by_cases c:i=j
 ·exact c
 ·exfalso;have s:=h.sr t (AM hi);have l:=s.ends h.ok;obtain⟨x,hx⟩:∃x,x∈t.E:=by cases he:t.E with | nil=>rw[he] at l;simp at l | cons x r=>exact⟨x,Av ..⟩
  have s':=h.sr u (AM hj);have p1:=jg hi;have p2:(u::(fo.eraseIdx i))=_:=rfl;have mu:u∈fo.eraseIdx i:=by
   have:fo[j]?=some u:=hj;rw[List.mem_eraseIdx_iff_getElem?];exact⟨j,fun z=>c z.symm,hj⟩
  obtain⟨a,b,ab⟩:=Ds mu;have nd:=(p1.flatMap_right fun t:Tr=>zj t.R).nodup_iff.mp h.nd;rw[AS,AI] at nd;exact nd.2.2 x (s.sub x hx) x (Bh.mpr ⟨u,mu,s'.sub x (e▸hx)⟩) rfl
theorem LSub.none{L L':LHp}(s:LSub L L'){p:Addr}(h:L' p=none):L p=none:=by
 cases z:L p with
 |none=>rfl
 |some o=>rw[s _ _ z] at h;cases h
theorem FoB.nkf{L0 L:LHp}{ka fa:Addr}{ks:List Kn}{fo:List Tr}(h:FoB L0 L ka fa ks fo):ka≠fa:=by
 have ad:=h.ad;rw[Au] at ad;exact fun e=>ad.1 (e▸Av ..)
theorem FoB.nk{L0 L:LHp}{ka fa:Addr}{ks:List Kn}{fo:List Tr}(h:FoB L0 L ka fa ks fo):∀t∈fo,t.a≠fa/\t.b≠fa/\t.a≠ka/\t.b≠ka:=fun t ht=>by
 have ad:=h.ad;rw[Au,Au] at ad;have ma:t.a∈fo.flatMap Tr.ads:=Bh.mpr ⟨t,ht,by simp[Tr.ads]⟩;have mb:t.b∈fo.flatMap Tr.ads:=Bh.mpr ⟨t,ht,by simp[Tr.ads]⟩;exact⟨fun e=>ad.2.1 (e▸ma),fun e=>ad.2.1 (e▸mb),fun e=>ad.1 (Ai _ (e▸ma)),fun e=>ad.1 (Ai _ (e▸mb))⟩
theorem FoB.setF{L0 L:LHp}{ka fa:Addr}{ks:List Kn}{fo:List Tr}(h:FoB L0 L ka fa ks fo)(o:LO):FoB L0 (qh L fa o) ka fa ks fo:=by
 refine⟨by rw[qd h.nkf];exact h.hk,fun t ht=>?_,h.sr,h.nd,h.tm,h.ad,h.ok,fun b u e=>?_,h.fr⟩
 ·obtain⟨n1,n2,_,_⟩:=h.nk t ht;rw[qd n1,qd n2];exact h.ht t ht
 ·have:b≠fa:=fun z=>by rw[z,h.fr fa (by simp)] at e;cases e
  rw[qd this];exact h.sub _ _ e
theorem FoB.mono{L0 L L':LHp}{ka fa:Addr}{ks:List Kn}{fo:List Tr}(h:FoB L0 L ka fa ks fo)(s:LSub L L'):FoB L0 L' ka fa ks fo:=
 ⟨s _ _ h.hk,fun t ht=>⟨s _ _ (h.ht t ht).1,s _ _ (h.ht t ht).2⟩,h.sr,h.nd,h.tm,h.ad,h.ok,h.sub.trans s,h.fr⟩
theorem FoB.exs{L0 L:LHp}{ka fa:Addr}{ks:List Kn}{fo:List Tr}(h:FoB L0 L ka fa ks fo):∀z∈fo.flatMap Tr.ads,∃o,L z=some o:=fun z hz=>by
 obtain⟨t,ht,hz⟩:=Bh.mp hz;obtain⟨h1,h2⟩:=h.ht t ht;have hz:z=t.a\/z=t.b:=by simpa[Tr.ads] using hz
 rcases hz with rfl | rfl
 ·exact⟨_,h1⟩
 ·exact⟨_,h2⟩
theorem aog{L:LHp}{l:List Addr}{pa pb:Addr}(nd:l.Nodup)(ex:∀z∈l,∃o,L z=some o)(ha:L pa=none)(hb:L pb=none)(ne:pa≠pb):(l++[pa,pb]).Nodup:=by
 rw[AI];refine⟨nd,by simp[ne],fun u hu v hv e=>?_⟩;subst e;obtain⟨o,eo⟩:=ex u hu;simp at hv;rcases hv with rfl | rfl
 ·rw[ha] at eo;cases eo
 ·rw[hb] at eo;cases eo
theorem aif:∀w:Wd,w.turn.turn=w
 |.leaf t n=>by simp[Wd.turn]
 |.node e l r=>by simp[Wd.turn,aif l,aif r]
theorem abd:∀w:Wd,w.turn.depth=w.depth
 |.leaf t n=>rfl
 |.node e l r=>by simp[Wd.turn,Wd.depth,abd l,abd r]
def Fd(ks:List Kn)(w:Wd)(rest:List Tr)(v7 v8:Y):Prop:=(v7=.non/\v8=.non)\/∃(j:Nat) (u:Tr) (q:Nat),rest[j]?=some u/\q∈u.E/\WAt ks q w.turn/\v7=.ref u.a/\v8=.int (q:Int)
theorem aso{L0 Lp L4:LHp}{ka fa:Addr}{ks:List Kn}{t1 u:Tr}{rest:List Tr}{x q:Nat}{w:Wd}(B:FoB L0 Lp ka fa ks (t1::u::rest)){fs:LO}(hf:Lp fa=some fs)(hx:x∈t1.E)(hq:q∈u.E)(hwx:WAt ks x w)(hwq:WAt ks q w.turn){pe pa:Addr}(s:LSub Lp L4)(hpe:Lp pe=none)
 (he:L4 pe=some (.lst (qu (jm t1.E u.E x q)))) (hpa:L4 pa=none) {R:Ru} (hR:R=.cu x q t1.R u.R\/R=.cu q x u.R t1.R):FoB L0 (qh L4 pa (.lst [qz R,.ref pe])) ka fa ks (rest++[⟨pa,pe,R,jm t1.E u.E x q⟩]):=by
 have nap:pe≠pa:=neL he hpa;have hpa':Lp pa=none:=s.none hpa;have s':LSub Lp (qh L4 pa (.lst [qz R,.ref pe])):=s.trans (LSub.new hpa);have s1:=B.sr t1 (by simp);have s2:=B.sr u (by simp);have dis:∀z,z∈t1.E->z∈u.E->False:=fun z h1 h2=>B.two z (s1.sub z h1) (s2.sub z h2);have k0:ks++[]=ks:=AR ks;have bm:=alb (E1:=t1.E) (E2:=u.E) (fun h=>dis x hx h) (fun h=>dis q h hq);have nod:=ajz (l:=x) (r:=q) s1.nod s2.nod dis;have st:=FoB.step (L':=qh L4 pa (.lst [qz R,.ref pe])) (old:=[t1,u]) (rest:=rest) (ms:=[]) (t':=⟨pa,pe,R,jm t1.E u.E x q⟩) B (by rw[k0];exact s' _ _ B.hk) ⟨q9,by rw[qd nap];exact he⟩ (fun t ht=>?_) (B.sub.trans s') ?_ (fun z hz=>?_) (by rw[k0];exact B.ok) ?_ ?_
 ·rw[k0] at st;exact st
 ·obtain⟨h1,h2⟩:=B.ht t (Ai _ (Ai _ ht));rw[h1,h2];exact⟨s' _ _ h1,s' _ _ h2⟩
 ·have nd:(ka::fa::rest.flatMap Tr.ads).Nodup:=by
   have:=B.ad;rw[AS,AS,Au,Au,AI,AI] at this;rw[Au,Au];obtain⟨d1,d2,_,⟨_,d3,_⟩,_⟩:=this;refine⟨fun z=>d1 ?_,fun z=>d2 (Ag _ (Ag _ z)),d3⟩;rcases As.mp z with z | z
   ·rw[z];exact Av ..
   ·exact Ai _ (Ag _ (Ag _ z))
  have:=aog (L:=Lp) nd (fun z hz=>?_) hpa' hpe (AK nap)
  ·rw[AO];simpa[Tr.ads] using this
  ·rcases As.mp hz with rfl | hz
   ·exact⟨_,B.hk⟩
   ·rcases As.mp hz with rfl | hz
    ·exact⟨_,hf⟩
    ·exact B.exs z (by rw[AS,AS];exact Ag _ (Ag _ hz))
 ·have hz:z=pa\/z=pe:=by simpa[Tr.ads] using hz
  rcases hz with rfl | rfl
  ·exact B.sub.none hpa'
  ·exact B.sub.none hpe
 ·rw[k0];rcases hR with rfl | rfl
  ·exact .cu s1 s2 hx hq hwx hwq bm nod
  ·exact .cu (w:=w.turn) s2 s1 hq hx hwq (by rw[aif];exact hwx) (fun z=>by rw[bm];exact Or.comm) nod
 ·rcases hR with rfl | rfl
  ·show(zj t1.R++zj u.R).Perm _;simp
  ·show(zj u.R++zj t1.R).Perm _;simpa using A8
def CJ(L0:LHp)(ka fa:Addr)(ks:List Kn)(one two:Int)(t1:Tr)(x:Nat)(w:Wd)(n:Nat)(τ:St3)(L:LHp):Prop:=∃ms u q rest c9 c10 c11 c12,τ=[some (.ref ka),some (.ref fa),some (.int one),some (.int two),some (.ref t1.a),some (.int (x:Int)),some (aam w),some (.ref u.a),some (.int ((q:Nat):Int)),c9,c10,c11,c12,none]/\
 FoB L0 L ka fa (ks++ms) (t1::u::rest)/\L fa=some (.lst (z9 rest))/\q∈u.E/\WAt (ks++ms) q w.turn/\ms.length≤10/\rest.length≤n
def agp:Sp3:=fun ys L Q=>∃L0 ka fa ks fo,∃one two:Int,ys=[.ref ka,.ref fa,.int one,.int two]/\FoI L0 L ka fa ks fo/\1≤fo.length/\fo.length≤110/\ks.length≤110/\
 ∀L' ks' fo',FoI L0 L' ka fa ks' fo'->ks'.length≤ks.length+10->1≤fo'.length->fo'.length≤fo.length->Q .non L'
theorem awz:∀ys L Q,agp ys L Q->w9 (arv (jd 120) (vn 120) (aa9 120) (aaa 5)) 14 ys L Q:=by
 rintro ys L Q ⟨L0,ka,fa,ks,fo,one,two,rfl,F,h1,h110,hk110,q⟩;have big:=bg_;have lenR:∀fo:List Tr,(z9 fo).length=fo.length:=fun fo=>Ae ..;obtain⟨j1,t1,at1,a1,a2,a3,hf1⟩:=ao0 (k:=two) F.hf (by omega);have l1:(fo.eraseIdx j1).length+1=fo.length:=by
  have:=(jg at1).length_eq;rw[AF] at this;omega
 refine qe F.hf (qe F.hf ⟨(by show(0:Int)<((z9 fo).length:Int);rw[lenR];omega),qm F.hf ⟨a1,a2,qp a3 ?_⟩⟩);have B:FoB L0 (qh L fa (.lst ((z9 fo).eraseIdx (two % ((z9 fo).length:Int)).toNat))) ka fa ks (t1::fo.eraseIdx j1):=(F.b.perm (jg at1)).setF _;generalize qh L fa (.lst ((z9 fo).eraseIdx (two % ((z9 fo).length:Int)).toNat))=L1 at hf1 B;generalize fo.eraseIdx j1=rest at l1 hf1 B;clear a1 a2 a3;have m1:t1∈t1::rest:=by simp
 obtain⟨ta1,tb1⟩:=B.ht t1 m1;have le1:=aal B m1;have s1:=B.sr t1 m1;obtain⟨x,hx,ex⟩:=ak7 le1.1 (two / 64);refine qe ta1 ⟨⟨by decide,by decide⟩,qe ta1 (qe tb1 ⟨(by show(0:Int)<((qu t1.E).length:Int);rw[Ae];omega),qe tb1 (qp ex ?_)⟩)⟩;obtain⟨w,hw,hwd,hwok⟩:=ah8 B.ok (x+1) x (by omega) (s1.lt x (s1.sub x hx));have hxl:=s1.lt x (s1.sub x hx);refine⟨ka,ksY ks,x,w,rfl,B.hk,hw,by omega,?_⟩;have wtd:w.turn.depth=w.depth:=abd w;refine qe hf1 ⟨⟨by show _≤(((z9 rest).length:Nat):Int);omega,by show(((z9 rest).length:Nat):Int)<_;rw[lenR];omega⟩,?_⟩;refine ap5 (fun i τ L'=>∃v7 v8 c9 c10,τ=[some (.ref ka),some (.ref fa),some (.int one),some (.int two),some (.ref t1.a),some (.int (x:Int)),some (aam w),some v7,some v8,c9,c10,none,none,none]/\L'=L1/\Fd ks w rest v7 v8) ⟨_,_,_,_,rfl,rfl,.inl ⟨rfl,rfl⟩⟩ ?_ ?_
 ·rintro i τ L' hi ⟨v7,v8,c9,c10,rfl,rfl,fd⟩;have hi:i<rest.length:=by
   have:i<(((z9 rest).length:Nat):Int).toNat:=hi;rw[lenR] at this;omega
  obtain⟨u,hu⟩:∃u,rest[i]?=some u:=⟨_,Aj hi⟩;have mu:u∈t1::rest:=Ai _ (AM hu);obtain⟨ua,ub⟩:=B.ht u mu;have ei:(z9 rest)[i]?=some (.ref u.a):=by unfold z9;rw[Ap,hu];rfl
  have e0:(0:Int)+(i:Int)=((i:Nat):Int):=by omega
  rw[e0];have ate:atI (z9 rest) ((i:Nat):Int)=some (.ref u.a):=xu ei;have le:=aal B mu;have su:=B.sr u mu;refine qe hf1 (qp ate (qe ua ?_));refine apg (ys:=qu u.E) (kj ub) (fun k τ L''=>∃v7 v8 c10,τ=[some (.ref ka),some (.ref fa),some (.int one),some (.int two),some (.ref t1.a),some (.int (x:Int)),some (aam w),some v7,some v8,some (.int ((i:Nat):Int)),c10,none,none,none]/\L''=L'/\Fd ks w rest v7 v8) ⟨_,_,_,rfl,rfl,fd⟩ ?_ ?_ ?_
  ·rintro k τ _ ⟨_,_,_,_,rfl,_⟩;rfl
  ·rintro k y τ L'' ey ⟨v7,v8,c10,rfl,rfl,fd⟩;obtain⟨z,ez,rfl⟩:∃z:Nat,u.E[k]?=some z/\y=Y.int (z:Int):=by
    rw[Ap] at ey;obtain⟨z,e1,e2⟩:=Ar.mp ey;exact⟨z,e1,e2.symm⟩
   have hz:z∈u.E:=AM ez;rcases fd with⟨rfl,rfl⟩ | ⟨j,t,q0,h1,h2,h3,rfl,rfl⟩
   ·have hzl:=su.lt z (su.sub z hz);obtain⟨v,hv,hvd,hvok⟩:=ah8 B.ok (z+1) z (by omega) hzl;refine⟨ka,ksY ks,z,v,rfl,B.hk,hv,by omega,w,rfl,by omega,?_⟩;refine as4 (u:=v) (v:=w.turn) (by omega) ?_;show vm (Da.eq (enc v) (enc w.turn)) _ _;refine awt (fun c=>?_) fun c=>?_
    ·have hh:=av6 _ _ c;refine qe hf1 (qp ate ?_);refine⟨_,LSub.refl _,?_⟩;exact⟨_,_,_,rfl,rfl,.inr ⟨i,u,z,hu,hz,hh▸hv,rfl,rfl⟩⟩
    ·refine⟨_,LSub.refl _,?_⟩;exact⟨_,_,_,rfl,rfl,.inl ⟨rfl,rfl⟩⟩
   ·refine⟨_,LSub.refl _,?_⟩;exact⟨_,_,_,rfl,rfl,.inr ⟨j,t,q0,h1,h2,h3,rfl,rfl⟩⟩
  ·rintro τ L'' ⟨v7,v8,c10,rfl,rfl,fd⟩;refine⟨_,LSub.refl _,?_⟩;exact⟨_,_,_,_,rfl,rfl,fd⟩
 ·rintro τ L' ⟨v7,v8,c9,c10,rfl,rfl,fd⟩;rcases fd with⟨rfl,rfl⟩ | ⟨j,u,q0,hj,hq0,hwq,rfl,rfl⟩
  case' inl=>
   refine⟨w,rfl,by omega,?_⟩;show vm (decide ((w.size:Int) > 5)) _ _;refine zu (fun c=>?_) fun c=>?_
   case' refine_1=>
    refine qe hf1 (qm hf1 ⟨big _ (by rw[lenR];omega),?_⟩);have er:z9 rest++[.ref t1.a]=z9 (rest++[t1]):=by unfold z9;rw[AG];rfl
    rw[er];exact fin (q _ ks (rest++[t1]) ⟨(B.perm (BU _ _).symm).setF _,q9⟩ (by omega) (by simp) (by rw[Ad];simp;omega))
   case' refine_2=>
    refine⟨CJ L0 ka fa ks one two t1 x w rest.length,?_,?_⟩
    ·refine⟨ka,ks,w,rfl,B.hk,(by have h1:=w.depth_le;have h2:=w.size_eq;omega),(by decide),hwok,B.ok,by omega,fun ms R tp sp p hp mir=>?_⟩;refine qm q9 ?_;intro pb hpb pa hpa;have npk:ka≠p:=neL B.hk hp;have hp2:qh L' ka (.lst (ksY (ks++ms))) p=none:=by rw[qd (AK npk)];exact hp
     have sA:LSub (qh L' ka (.lst (ksY (ks++ms)))) _:=((LSub.new hp2).trans (LSub.new hpb)).trans (LSub.new (o:=.lst [qz R,.ref pb]) hpa);have nab:pb≠pa:=neL q9 hpa;have nb2:qh L' ka (.lst (ksY (ks++ms))) pb=none:=(LSub.new hp2).none hpb;have na2:qh L' ka (.lst (ksY (ks++ms))) pa=none:=((LSub.new hp2).trans (LSub.new hpb)).none hpa;have ea:qh (qh (qh (qh L' ka (.lst (ksY (ks++ms)))) p (.lst [qz R,.int (tp:Int),.int (sp:Int)])) pb (.lst [.int (tp:Int),.int (sp:Int)])) pa (.lst [qz R,.ref pb]) pa=some (.lst [qz R,.ref pb]):=q9;have eb:qh (qh (qh (qh L' ka (.lst (ksY (ks++ms)))) p (.lst [qz R,.int (tp:Int),.int (sp:Int)])) pb (.lst [.int (tp:Int),.int (sp:Int)])) pa (.lst [qz R,.ref pb]) pb=some (.lst (qu [tp,sp])):=by rw[qd nab];exact q9
     refine⟨ms,⟨pa,pb,R,[tp,sp]⟩,tp,rest,_,_,_,_,rfl,?_,sA _ _ (by rw[qd (AK B.nkf)];exact hf1),Av ..,mir.wt,by have:=mir.len;omega,An _⟩;generalize qh (qh (qh (qh L' ka (.lst (ksY (ks++ms)))) p (.lst [qz R,.int (tp:Int),.int (sp:Int)])) pb (.lst [.int (tp:Int),.int (sp:Int)])) pa (.lst [qz R,.ref pb])=LF at sA ea eb;have keep:∀z o,z≠ka->L' z=some o->LF z=some o:=fun z o n e=>sA _ _ (by rw[qd n];exact e);have st:=FoB.step (L':=LF) (old:=[]) (rest:=t1::rest) (ms:=ms) (t':=⟨pa,pb,R,[tp,sp]⟩) B (sA _ _ q9) ⟨ea,eb⟩ (fun t ht=>?_) (fun z o e=>?_) ?_ (fun z hz=>?_) mir.ok mir.sr ?_
     ·exact st.perm ((BU _ _).trans (List.Perm.swap _ _ _))
     ·obtain⟨n1,n2,n3,n4⟩:=B.nk t ht;obtain⟨h1,h2⟩:=B.ht t ht;rw[h1,h2];exact⟨keep _ _ n3 h1,keep _ _ n4 h2⟩
     ·exact keep _ _ (fun z=>by rw[z,B.fr ka (by simp)] at e;cases e) (B.sub _ _ e)
     ·have:=aog (L:=qh L' ka (.lst (ksY (ks++ms)))) B.ad (fun z hz=>?_) na2 nb2 (AK nab)
      ·rw[AO];simpa[Tr.ads] using this
      ·by_cases c:z=ka
       ·rw[c];exact⟨_,q9⟩
       ·rw[qd c];rcases As.mp hz with rfl | hz
        ·exact absurd rfl c
        ·rcases As.mp hz with rfl | hz
         ·exact⟨_,hf1⟩
         ·exact B.exs z hz
     ·have hz:z=pa\/z=pb:=by simpa[Tr.ads] using hz
      cases e:L0 z with
      |none=>rfl
      |some o=>
       have n:z≠ka:=fun z'=>by rw[z',B.fr ka (by simp)] at e;cases e
       have:=B.sub _ _ e;have e2:qh L' ka (.lst (ksY (ks++ms))) z=some o:=by rw[qd n];exact this
       rcases hz with rfl | rfl
       ·rw[na2] at e2;cases e2
       ·rw[nb2] at e2;cases e2
     ·rw[C3,AR];exact(BV mir.nd Dx).mpr fun z=>by rw[mir.tm,CT]
  case' inr=>
   refine⟨CJ L0 ka fa ks one two t1 x w rest.length,?_,?_⟩
   ·refine qe hf1 (qm hf1 ⟨rest.map ad0,ad0 u,120,120,j,by decide,?_,?_,?_,⟨ad0 u,?_,aqd u⟩,fun k d hk ek=>?_,?_⟩)
    ·have dd:∀l:List Tr,(∀t∈l,t∈t1::rest)->Paired (DatN L' 120) (z9 l) (l.map ad0):=fun l=>by
      induction l with
      |nil=>intro _;exact .nil
      |cons t r ih=>
       intro h;have mt:=h t (Av ..);obtain⟨h1,h2⟩:=B.ht t mt;have:=B.rd mt;exact .cons (aka (n:=118) h1 h2 (by omega)) (ih fun t ht=>h t (Ai _ ht))
     exact dd rest fun t ht=>Ai _ ht
    ·have mt:u∈t1::rest:=Ai _ (AM hj);obtain⟨h1,h2⟩:=B.ht u mt;have:=B.rd mt;exact aka (n:=118) h1 h2 (by omega)
    ·rw[Ae];exact(AU.mp hj).1
    ·rw[Ap,hj];rfl
    ·rw[Ap] at ek;obtain⟨v,ev,rfl⟩:=Ar.mp ek;cases c:Da.eq (ad0 v) (ad0 u) with
     |false=>rfl
     |true=>
      have:=B.one (i:=k+1) (j:=j+1) (by simpa using ev) (by simpa using hj) (awd c);omega
    ·rw[ahv];have B2:=(B.perm ((jg hj).cons _)).setF (.lst (z9 (rest.eraseIdx j)));exact⟨[],u,q0,rest.eraseIdx j,_,_,_,_,rfl,(AR ks).symm▸B2,q9,hq0,(AR ks).symm▸hwq,Bf _,CK ..⟩
  all_goals
   rintro τ' L' ⟨ms,u,q0,rest',c9,c10,c11,c12,rfl,B',hf,hq0,hwq,hms,hrl⟩;have m1:t1∈t1::u::rest':=by simp
   have m2:u∈t1::u::rest':=by simp
   obtain⟨ta1,tb1⟩:=B'.ht t1 m1;obtain⟨ta2,tb2⟩:=B'.ht u m2;have le1:=aal B' m1;have le2:=aal B' m2;rw[Ad] at le1 le2;refine qe ta1 (qe ta2 ⟨_,_,tb1,tb2,adf (by rw[Ae,Ae];omega),fun pp hpp=>?_⟩);have en:qu t1.E++qu u.E=qu (t1.E++u.E):=by unfold qu;rw[AG]
   rw[en];refine asg (E:=t1.E++u.E) (l:=x) (r:=q0) (k:=14) q9 (by rw[Ad];omega) (fun y' Q' h=>h) (fun _=>rfl) fun pe hpe=>?_;have s4:LSub L' (qh (qh L' pp (.lst (qu (t1.E++u.E)))) pe (.lst (qu ((t1.E++u.E).filter fun z=>!decide (z=x\/z=q0))))):=(LSub.new hpp).trans (LSub.new hpe);have he4:qh (qh L' pp (.lst (qu (t1.E++u.E)))) pe (.lst (qu ((t1.E++u.E).filter fun z=>!decide (z=x\/z=q0)))) pe=some (.lst (qu (jm t1.E u.E x q0))):=q9;have hpe':L' pe=none:=(LSub.new hpp).none hpe;generalize qh (qh L' pp (.lst (qu (t1.E++u.E)))) pe (.lst (qu ((t1.E++u.E).filter fun z=>!decide (z=x\/z=q0))))=L4 at s4 he4;have done:∀(R:Ru) pa,L4 pa=none->(R=.cu x q0 t1.R u.R\/R=.cu q0 x u.R t1.R)->Q .non (qh (qh L4 pa (.lst [qz R,.ref pe])) fa (.lst (z9 rest'++[.ref pa]))):=fun R pa hpa hR=>by
    have er:z9 rest'++[.ref pa]=z9 (rest'++[⟨pa,pe,R,jm t1.E u.E x q0⟩]):=by unfold z9;rw[AG];rfl
    rw[er];exact q _ (ks++ms) (rest'++[⟨pa,pe,R,jm t1.E u.E x q0⟩]) ⟨(aso B' hf hx hq0 (hw.more ms) hwq s4 hpe' he4 hpa hR).setF _,q9⟩ (by rw[Ad];omega) (by simp) (by rw[Ad];simp;omega)
   refine⟨(by show(0:Int)<2;decide),?_⟩;show vm (decide (one % 2=0)) _ _;refine zu (fun c=>?_) fun c=>?_
   ·refine qe (s4 _ _ hf) (qe (s4 _ _ ta1) (qe (s4 _ _ ta2) fun pa hpa=>?_));refine qm (LSub.new hpa _ _ (s4 _ _ hf)) ⟨big _ (by rw[lenR];omega),?_⟩;exact fin (done _ pa hpa (.inl rfl))
   ·refine qe (s4 _ _ hf) (qe (s4 _ _ ta2) (qe (s4 _ _ ta1) fun pa hpa=>?_));refine qm (LSub.new hpa _ _ (s4 _ _ hf)) ⟨big _ (by rw[lenR];omega),?_⟩;exact fin (done _ pa hpa (.inr rfl))
def at7(p__law_mix:Sp3)(p__law_name:Sp3)(p__law_fold:Sp3)(p__law_join:Sp3)(p__law_cut:Sp3):TS3:=(qt (zm (xa qj) (qi 3))
 (qt (zm (xa qj) (qi 4))
 (qt (ac3 (af3 (qb 0)) (vg 2 (za (qi 5) (za (qi 6) xt))) (qt (azv 7 8 (qa (zb p__law_mix (qa (qb 6) (qa (qb 5) (qa (yC (.int 48271)) qj)))) (qa (zb p__law_mix (qa (qb 6) (qa (qb 5) (qa (yC (.int 69621)) qj)))) qj)))
 (qt (jt (yB (yOp yGt (yOp vt (yOp vt (yCB jk (qa (qb 3) qj)) (yCB jk (qa (qb 4) qj))) (yC (.int 12))) (qb 2))) axb je)
 (qt (zm (yOp vk (qb 7) (yC (.int 9))) (qi 9))
 (qt (zm (yOp aan (qb 7) (yC (.int 9))) (qi 7))
 (jt (yOr (yB (yOp yLt (qb 9) (yC (.int 3)))) (yB (yOp (yEq false) (qb 4) (xa qj)))) (qt (j9 (yBL zh (qb 3) (qa (jw (qa (yC (.str "plain")) (qa (zb p__law_name (qa (qb 1) (qa (yOp vk (qb 8) (yC (.int 3))) qj))) qj))) qj)))
 (qt (j9 (yBL zh (qb 3) (qa (jw (qa (yC (.str "turned")) (qa (zb p__law_name (qa (qb 1) (qa (yOp vk (qb 8) (yC (.int 3))) qj))) qj))) qj)))
 (aci (jt (yB (yOp (yEq false) (yOp vk (qb 7) (yC (.int 2))) (yC (.int 1)))) (j9 (yBL zh (qb 3) (qa (yBL abg (qb 3) (qa (yOp aff (yCB jk (qa (qb 3) qj)) (yC (.int 2))) qj)) qj))) je)
 (qt (zm (yOp aff (yCB jk (qa (qb 3) qj)) (yC (.int 2))) (qi 10))
 (j9 (yBL zh (qb 4) (qa (xa (qa (jw (qa (yC (.str "link")) (qa (qb 10) (qa (yOp vt (qb 10) (yC (.int 1))) qj)))) (qa (xa (qa (qb 10) (qa (yOp vt (qb 10) (yC (.int 1))) qj))) qj))) qj))))))) (jt (yB (yOp yLt (qb 9) (yC (.int 6)))) (j9 (zb p__law_fold (qa (qb 3) (qa (yOp yIx (qb 4) (yOp vk (qb 8) (yCB jk (qa (qb 4) qj)))) (qa (qb 7) (qa (yOp aan (qb 8) (yC (.int 64))) qj)))))) (jt (ac1 (yB (yOp yLt (qb 9) (yC (.int 8)))) (yB (yOp yGt (yCB jk (qa (qb 4) qj)) (yC (.int 1))))) (j9 (zb p__law_join (qa (qb 3) (qa (qb 4) (qa (qb 7) (qa (qb 8) qj)))))) (j9 (zb p__law_cut (qa (qb 3) (qa (qb 4) (qa (qb 7) (qa (qb 8) qj))))))))))))))
 (aci (jt (yB (yOp (yEq false) (qb 4) (xa qj))) (qt (j9 (yBL zh (qb 3) (qa (jw (qa (yC (.str "turned")) (qa (zb p__law_name (qa (qb 1) (qa (yC (.int 0)) qj))) qj))) qj)))
 (qt (j9 (yBL zh (qb 3) (qa (jw (qa (yC (.str "plain")) (qa (zb p__law_name (qa (qb 1) (qa (yC (.int 0)) qj))) qj))) qj)))
 (j9 (yBL zh (qb 4) (qa (xa (qa (jw (qa (yC (.str "link")) (qa (yC (.int 0)) (qa (yC (.int 1)) qj)))) (qa (xa (qa (yC (.int 0)) (qa (yC (.int 1)) qj))) qj))) qj))))) je)
 (qt (ak4 (yB (yOp yGt (yCB jk (qa (qb 4) qj)) (yC (.int 1)))) (j9 (zb p__law_join (qa (qb 3) (qa (qb 4) (qa (yOp vt (yOp aan (qb 1) (yC (.int 7))) (yCB jk (qa (qb 4) qj))) (qa (yOp aan (qb 1) (yC (.int 3))) qj)))))))
 (jo (jw (qa (qb 3) (qa (yOp yIx (yOp yIx (qb 4) (yC (.int 0))) (yC (.int 0))) qj)))))))))
theorem FoI.mono{L0 L L':LHp}{ka fa:Addr}{ks:List Kn}{fo:List Tr}(h:FoI L0 L ka fa ks fo)(s:LSub L L'):FoI L0 L' ka fa ks fo:=⟨h.b.mono s,s _ _ h.hf⟩
theorem FoB.plus{L0 L LF:LHp}{ka fa:Addr}{ks ms:List Kn}{rest:List Tr}{t':Tr}{fs:LO}(B:FoB L0 L ka fa ks rest)(hf:L fa=some fs)(sA:LSub (qh L ka (.lst (ksY (ks++ms)))) LF)(ea:LF t'.a=some (.lst [qz t'.R,.ref t'.b]))(eb:LF t'.b=some (.lst (qu t'.E)))
 (na2:qh L ka (.lst (ksY (ks++ms))) t'.a=none) (nb2:qh L ka (.lst (ksY (ks++ms))) t'.b=none) (nab:t'.a≠t'.b) (ok:KnOk (ks++ms)) (sr:SR (ks++ms) t'.R t'.E) (tm:∀x,x∈zj t'.R↔ks.length≤x/\x<ks.length+ms.length) (nd:(zj t'.R).Nodup):
 FoB L0 LF ka fa (ks++ms) (rest++[t']):=by
 have keep:∀z o,z≠ka->L z=some o->LF z=some o:=fun z o n e=>sA _ _ (by rw[qd n];exact e);refine FoB.step (old:=[]) (rest:=rest) (ms:=ms) (t':=t') B (sA _ _ q9) ⟨ea,eb⟩ (fun t ht=>?_) (fun z o e=>?_) ?_ (fun z hz=>?_) ok sr ?_
 ·obtain⟨n1,n2,n3,n4⟩:=B.nk t ht;obtain⟨h1,h2⟩:=B.ht t ht;rw[h1,h2];exact⟨keep _ _ n3 h1,keep _ _ n4 h2⟩
 ·exact keep _ _ (fun z=>by rw[z,B.fr ka (by simp)] at e;cases e) (B.sub _ _ e)
 ·have:=aog (L:=qh L ka (.lst (ksY (ks++ms)))) B.ad (fun z hz=>?_) na2 nb2 nab
  ·rw[AO];simpa[Tr.ads] using this
  ·by_cases c:z=ka
   ·rw[c];exact⟨_,q9⟩
   ·rw[qd c];rcases As.mp hz with rfl | hz
    ·exact absurd rfl c
    ·rcases As.mp hz with rfl | hz
     ·exact⟨_,hf⟩
     ·exact B.exs z hz
 ·have hz:z=t'.a\/z=t'.b:=by simpa[Tr.ads] using hz
  cases e:L0 z with
  |none=>rfl
  |some o=>
   have n:z≠ka:=fun z'=>by rw[z',B.fr ka (by simp)] at e;cases e
   have:=B.sub _ _ e;have e2:qh L ka (.lst (ksY (ks++ms))) z=some o:=by rw[qd n];exact this
   rcases hz with rfl | rfl
   ·rw[na2] at e2;cases e2
   ·rw[nb2] at e2;cases e2
 ·rw[C3,AR];exact(BV nd Dx).mpr fun z=>by rw[tm,CT]
theorem FoI.link{L0 L:LHp}{ka fa:Addr}{ks:List Kn}{fo:List Tr}(F:FoI L0 L ka fa ks fo){nm:Str}(hn:acm nm)(b:Bool){pa pb:Addr}(hb:qh L ka (.lst (ksY (ks++[.lf b nm,.lf (!b) nm]))) pb=none)
 (ha:qh (qh L ka (.lst (ksY (ks++[.lf b nm,.lf (!b) nm])))) pb (.lst (qu [ks.length,ks.length+1])) pa=none) {fs:List Y} (hfs:fs=z9 fo++[.ref pa]):
 FoI L0 (qh (qh (qh (qh L ka (.lst (ksY (ks++[.lf b nm,.lf (!b) nm])))) pb (.lst (qu [ks.length,ks.length+1]))) pa (.lst [qz (.link ks.length (ks.length+1)),.ref pb])) fa (.lst fs)) ka fa (ks++[.lf b nm,.lf (!b) nm]) (fo++[⟨pa,pb,.link ks.length (ks.length+1),[ks.length,ks.length+1]⟩]):=by
 have nab:pb≠pa:=neL q9 ha;have M:=amu F.b.ok (t:=!b) hn;rw[Bool.not_not] at M;refine⟨(FoB.plus F.b F.hf ((LSub.new hb).trans (LSub.new ha)) q9 (by rw[qd nab];exact q9) ((LSub.new hb).none ha) hb (AK nab) M.ok M.sr M.tm M.nd).setF _,?_⟩;rw[q9,hfs];unfold z9;rw[AG];rfl
theorem FoB.dats{L0 L:LHp}{ka fa:Addr}{ks:List Kn}{fo:List Tr}(h:FoB L0 L ka fa ks fo)(hl:ks.length≤120):Paired (DatN L 124) (z9 fo) (fo.map ad0):=by
 have dd:∀l:List Tr,(∀t∈l,t∈fo)->Paired (DatN L 124) (z9 l) (l.map ad0):=fun l=>by
  induction l with
  |nil=>intro _;exact .nil
  |cons t r ih=>
   intro k;have mt:=k t (Av ..);obtain⟨h1,h2⟩:=h.ht t mt;have:=h.rd mt;exact .cons (aka (n:=122) h1 h2 (by omega)) (ih fun t ht=>k t (Ai _ ht))
 exact dd fo fun t ht=>ht
theorem apl(fo:List Tr):Da.eqs (fo.map ad0) []=decide (fo=[]):=by cases fo<;>rfl
def ah2:Sp3:=fun ys L Q=>∃cy,∃ns:List Int,∃s:Int,∃room:Nat,ys=[cy,.int s,.int (room:Int)]/\cy=.sq (ns.map Y.int)/\ns.length≤1000/\room≤120/\
 ∀ka ks R E,L ka=none->KnOk ks->SR ks R E->(zj R).Perm (List.range ks.length)->ks.length≤max room 2->Q (.tup [.ref ka,qz R]) (qh L ka (.lst (ksY ks)))
def TW(L0:LHp)(ka fa:Addr)(s:Int)(room:Nat)(τ:St3)(L:LHp):Prop:=∃c0 c5 c6 c7 c8 c9 c10 ks fo,τ=[c0,some (.int s),some (.int (room:Int)),some (.ref ka),some (.ref fa),c5,c6,c7,c8,c9,c10]/\FoI L0 L ka fa ks fo/\ks.length+fo.length≤room
theorem TW.of{L0 L:LHp}{ka fa:Addr}{s:Int}{room:Nat}{ks:List Kn}{fo:List Tr}{c0 c5 c6 c7 c8 c9 c10:Option Y}(F:FoI L0 L ka fa ks fo)(h:ks.length+fo.length≤room):TW L0 ka fa s room [c0,some (.int s),some (.int (room:Int)),some (.ref ka),some (.ref fa),c5,c6,c7,c8,c9,c10] L:=⟨_,_,_,_,_,_,_,ks,fo,rfl,F,h⟩
theorem avy:∀ys L Q,ah2 ys L Q->w9 (at7 aa4 adu af0 agm agp) 11 ys L Q:=by
 rintro ys L Q ⟨cy,ns,s,room,rfl,hcy,hns,hroom,q⟩;have big:=bg_;have lenR:∀fo:List Tr,(z9 fo).length=fo.length:=fun fo=>Ae ..;have lenK:∀ks:List Kn,(ksY ks).length=ks.length:=fun ks=>Ae ..;intro ka hka fa hfa;have nkf:ka≠fa:=neL q9 hfa;have hfa':L fa=none:=(LSub.new hka).none hfa;have F0:FoI L (qh (qh L ka (.lst [])) fa (.lst [])) ka fa [] []:=by
  refine⟨⟨by rw[qd nkf];exact q9,fun t ht=>by simp at ht,fun t ht=>by simp at ht,by simp,by simp,by simp[nkf],fun p k e=>by simp at e,(LSub.new hka).trans (LSub.new hfa),fun x hx=>?_⟩,q9⟩;rcases As.mp hx with rfl | hx
  ·exact hka
  ·rw[AC.mp hx];exact hfa'
 generalize qh (qh L ka (.lst [])) fa (.lst [])=L1 at F0;subst hcy
 all_goals
  refine xr ⟨fun _ τ L'=>TW L ka fa s room τ L',?_,?_,?_,?_⟩
  ·exact TW.of F0 (Bf _)
  ·rintro i τ L' ⟨c0,c5,c6,c7,c8,c9,c10,ks,fo,rfl,F,hb⟩;exact True.intro
  ·rintro i y τ L' ey ⟨c0,c5,c6,c7,c8,c9,c10,ks,fo,rfl,F,hb⟩;obtain⟨z,ez,rfl⟩:=acb ey;obtain⟨cell,ec,rfl⟩:∃cell:Int,ns[i]?=some cell/\z=Y.int cell:=by
    rw[Ap] at ez;obtain⟨z,e1,e2⟩:=Ar.mp ez;exact⟨z,e1,e2.symm⟩
   have hi:=(AU.mp ec).1;refine⟨cell,((i:Nat):Int),48271,rfl,by omega,by omega,by decide,by decide,fun one h1 h1'=>⟨cell,((i:Nat):Int),69621,rfl,by omega,by omega,by decide,by decide,fun two h2 h2'=>?_⟩⟩;refine qe F.b.hk (qe F.hf ?_);refine zu (fun c=>?_) fun c=>?_
   ·exact⟨_,LSub.refl _,TW.of F hb⟩
   have c:¬((((ksY ks).length:Nat):Int)+(((z9 fo).length:Nat):Int)+12 > (room:Int)):=c;rw[lenK,lenR] at c;refine⟨(by decide:(0:Int)<9),⟨by decide,by decide⟩,?_⟩;refine zu (fun c3=>?_) fun c3=>?_
   case' refine_1=>
    obtain⟨L2,eL2⟩:∃L2,L2=L':=⟨_,rfl⟩;rw[<-eL2];have F':FoI L L2 ka fa ks fo:=by rw[eL2];exact F
   case' refine_2=>
    intro p hp;refine ac4 (by decide) (LSub.new hp _ _ F.hf) q9 ((F.b.mono (LSub.new hp)).dats (by omega)) (.nil:Paired (DatN _ 0) _ []) ?_;show vm (Da.eqs (fo.map ad0) []) _ _;rw[apl];have F':FoI L (qh L' p (.lst [])) ka fa ks fo:=F.mono (LSub.new hp);generalize qh L' p (.lst [])=L2 at F';refine zu (fun c0=>?_) fun c0=>?_
   case' refine_2.refine_2=>
    have hfo:0<fo.length:=by cases fo with | nil=>exact absurd rfl c0 | cons _ _=>simp
    have F:=F';refine zu (fun c6=>?_) fun c6=>?_
    ·obtain⟨j,t,ej,lj,et⟩:=af6 hfo two;refine qe F.hf ⟨(by show(0:Int)<((z9 fo).length:Int);rw[lenR];omega),qe F.hf (qp (v:=.ref t.a) (by show atI (z9 fo) (two % ((z9 fo).length:Int))=_;rw[lenR,ej];exact xu (by unfold z9;rw[Ap,et];rfl)) ?_)⟩;obtain⟨pre,post,ep⟩:=Ds (AM et);rw[ep] at F hb;refine⟨⟨by decide,by decide⟩,L,ka,fa,ks,pre,post,t,one / 9,two / 64,rfl,F,by omega,fun L3 ks' fo' F3 h1 h2=>?_⟩;refine⟨_,LSub.refl _,?_⟩;exact TW.of F3 (by rw[ep] at c;omega)
    refine zu (fun c8=>?_) fun c8=>?_
    ·refine qe F.hf ?_;refine zu (fun c1=>?_) fun c1=>?_
     ·have c1:(((z9 fo).length:Nat):Int) > 1:=c1;rw[lenR] at c1;refine⟨L,ka,fa,ks,fo,one / 9,two,rfl,F,by omega,by omega,by omega,fun L3 ks' fo' F3 h1 h2=>?_⟩;refine⟨_,LSub.refl _,?_⟩;exact TW.of F3 (by omega)
     ·refine⟨L,ka,fa,ks,fo,one / 9,two,rfl,F,by omega,by omega,by omega,fun L3 ks' fo' F3 h1 h2 h3=>?_⟩;refine⟨_,LSub.refl _,?_⟩;exact TW.of F3 (by omega)
    ·refine⟨L,ka,fa,ks,fo,one / 9,two,rfl,F,by omega,by omega,by omega,fun L3 ks' fo' F3 h1 h2 h3=>?_⟩;refine⟨_,LSub.refl _,?_⟩;exact TW.of F3 (by omega)
   all_goals
    obtain⟨nm,enm⟩:∃nm,nm=mkS (aa1 s (two % 3)):=⟨_,rfl⟩;have hnm:acm nm:=by rw[enm];exact an5 _ _
    refine qe F'.b.hk ⟨(by decide:(0:Int)<3),s,two % 3,rfl,qm F'.b.hk ⟨big _ (by rw[lenK];omega),?_⟩⟩;refine qe q9 ⟨(by decide:(0:Int)<3),s,two % 3,rfl,qm q9 ⟨big _ (by rw[Ad,lenK];simp;omega),?_⟩⟩;rw[<-enm,xm];have e1:(ksY ks++[.tup [.str "plain",.str nm]])++[.tup [.str "turned",.str nm]]=ksY (ks++[.lf false nm,.lf true nm]):=by unfold ksY;rw[AG,Ay];rfl
    rw[e1];refine⟨fun τ L3=>∃(b:Bool) (d0 d10:Option Y),τ=[d0,some (.int s),some (.int (room:Int)),some (.ref ka),some (.ref fa),some (.int ((i:Nat):Int)),some (.int cell),some (.int (one / 9)),some (.int two),some (.int (one % 9)),d10]/\L3=qh L2 ka (.lst (ksY (ks++[.lf b nm,.lf (!b) nm]))),?_,?_⟩
    ·refine⟨(by decide:(0:Int)<2),?_⟩;show vm (decide (one / 9 % 2=1)) _ _;refine zu (fun c2=>?_) fun c2=>?_
     ·have l2:(ksY (ks++[Kn.lf false nm,.lf true nm])).length=ks.length+2:=by rw[lenK,Ad];rfl
      have t2:((((ksY (ks++[Kn.lf false nm,.lf true nm])).length:Nat):Int) - 2).toNat=ks.length:=by rw[l2];omega
      refine qe q9 (qe q9 (qe q9 (qm q9 ⟨?_,?_,qp (v:=ajw (.lf false nm)) ?_ ?_⟩)))
      ·show(0:Int)≤(((ksY (ks++[Kn.lf false nm,.lf true nm])).length:Nat):Int) - 2;rw[l2];omega
      ·show(((ksY (ks++[Kn.lf false nm,.lf true nm])).length:Nat):Int) - 2<_;omega
      ·show(ksY (ks++[Kn.lf false nm,.lf true nm]))[((((ksY (ks++[Kn.lf false nm,.lf true nm])).length:Nat):Int) - 2).toNat]?=_;rw[t2];unfold ksY;rw[Ap,abh];rfl
      ·rw[xm];refine qm q9 ⟨big _ ?_,?_⟩
       ·refine AW (CK ..) ?_;show(ksY (ks++[Kn.lf false nm,.lf true nm])).length≤20000;rw[l2];omega
       ·refine⟨true,_,_,rfl,?_⟩;rw[xm];have e3:(ksY (ks++[Kn.lf false nm,.lf true nm])).eraseIdx ((((ksY (ks++[Kn.lf false nm,.lf true nm])).length:Nat):Int) - 2).toNat++[ajw (.lf false nm)]=ksY (ks++[.lf true nm,.lf false nm]):=by
         rw[t2];unfold ksY;rw[AG,CM (by simp),Ae,Cy,AG,Ay];rfl
        rw[e3];rfl
     ·exact⟨false,_,_,rfl,rfl⟩
    ·rintro τ3 L3 ⟨b,d0,d10,rfl,rfl⟩;have l2:(ksY (ks++[Kn.lf b nm,.lf (!b) nm])).length=ks.length+2:=by rw[lenK,Ad];rfl
     have nn:(((ksY (ks++[Kn.lf b nm,.lf (!b) nm])).length:Nat):Int) - 2=((ks.length:Nat):Int):=by rw[l2];omega
     have hf3:qh L2 ka (.lst (ksY (ks++[.lf b nm,.lf (!b) nm]))) fa=some (.lst (z9 fo)):=by rw[qd (AK nkf)];exact F'.hf
     have en:∀z:Int,z=((ks.length:Nat):Int)->qu [ks.length,ks.length+1]=[.int z,.int (z+1)]:=fun z e=>by rw[e];rfl
     have er:∀z:Int,z=((ks.length:Nat):Int)->qz (.link ks.length (ks.length+1))=.tup [.str "link",.int z,.int (z+1)]:=fun z e=>by rw[e];rfl
     have en:=en _ nn;have er:=er _ nn;refine qe q9 (qe hf3 fun pb hpb pa hpa=>?_);have H:=F'.link hnm b (pb:=pb) (pa:=pa) hpb (by rw[en];exact hpa) rfl;refine qm (((LSub.new hpb).trans (LSub.new hpa)) _ _ hf3) ⟨big _ (by rw[lenR];omega),?_⟩;rw[en,er] at H;refine⟨_,LSub.refl _,?_⟩;exact TW.of H (by rw[Ad,Ad];simp;omega)
  ·rintro τ L' ⟨c0,c5,c6,c7,c8,c9,c10,ks,fo,rfl,F,hb⟩;refine⟨fun τ L3=>∃c0 c5 c6 c7 c8 c9 c10 ks fo,τ=[c0,some (.int s),some (.int (room:Int)),some (.ref ka),some (.ref fa),c5,c6,c7,c8,c9,c10]/\FoI L L3 ka fa ks fo/\1≤fo.length/\ks.length+fo.length≤max room 3,?_,?_⟩
   ·intro p hp;refine ac4 (by decide) (LSub.new hp _ _ F.hf) q9 ((F.b.mono (LSub.new hp)).dats (by omega)) (.nil:Paired (DatN _ 0) _ []) ?_;show vm (Da.eqs (fo.map ad0) []) _ _;rw[apl];have F':FoI L (qh L' p (.lst [])) ka fa ks fo:=F.mono (LSub.new hp);generalize qh L' p (.lst [])=L2 at F';refine zu (fun c0=>?_) fun c0=>?_
    ·subst c0;have k0:ks=[]:=by
      cases ks with
      |nil=>rfl
      |cons k r=>exact absurd ((F.b.tm 0).mpr (by simp)) (by simp)
     subst k0;obtain⟨nm,enm⟩:∃nm,nm=mkS (aa1 s 0):=⟨_,rfl⟩;have hnm:acm nm:=by rw[enm];exact an5 _ _
     refine qe F'.b.hk ⟨s,0,rfl,qm F'.b.hk ⟨big _ (by decide),?_⟩⟩;refine qe q9 ⟨s,0,rfl,qm q9 ⟨big _ (by show 1≤20000;decide),?_⟩⟩;rw[<-enm,xm];have hf3:∀o,qh L2 ka o fa=some (.lst (z9 [])):=fun o=>by rw[qd (AK nkf)];exact F'.hf
     refine qe (hf3 _) fun pb hpb pa hpa=>?_;have H:=F'.link hnm true (pb:=pb) (pa:=pa) hpb hpa rfl;refine qm (((LSub.new hpb).trans (LSub.new hpa)) _ _ (hf3 _)) ⟨big _ (by show 0≤20000;decide),?_⟩;exact⟨_,_,_,_,_,_,_,_,_,rfl,H,by simp,by simp;omega⟩
    ·exact⟨_,_,_,_,_,_,_,ks,fo,rfl,F',(by cases fo with | nil=>exact absurd rfl c0 | cons _ _=>simp),by omega⟩
   ·rintro τ L' ⟨c0,c5,c6,c7,c8,c9,c10,ks,fo,rfl,F,h1,hb⟩;refine⟨fun m τ L3=>∃c0 c5 c6 c7 c8 c9 c10 ks fo,τ=[c0,some (.int s),some (.int (room:Int)),some (.ref ka),some (.ref fa),c5,c6,c7,c8,c9,c10]/\FoI L L3 ka fa ks fo/\1≤fo.length/\fo.length=m/\ks.length+fo.length≤max room 3,⟨_,_,_,_,_,_,_,_,_,_,rfl,F,h1,rfl,hb⟩,?_⟩;rintro m τ L' ⟨c0,c5,c6,c7,c8,c9,c10,ks,fo,rfl,F,h1,hm,hb⟩;refine qe F.hf ?_;refine zu (fun c1=>?_) fun c1=>?_
    ·have c1:(((z9 fo).length:Nat):Int) > 1:=c1;rw[lenR] at c1;refine⟨fun τ L3=>∃c0 c5 c6 c7 c8 c9 c10 ks fo,τ=[c0,some (.int s),some (.int (room:Int)),some (.ref ka),some (.ref fa),c5,c6,c7,c8,c9,c10]/\FoI L L3 ka fa ks fo/\1≤fo.length/\fo.length+1=m/\ks.length+fo.length≤max room 3,?_,?_⟩
     ·rintro τ L3 ⟨d0,d5,d6,d7,d8,d9,d10,ks',fo',rfl,F3,g1,g2,g3⟩;exact⟨m - 1,by omega,_,_,_,_,_,_,_,_,_,rfl,F3,g1,by omega,g3⟩
     ·refine⟨⟨by decide,by decide⟩,qe F.hf ⟨⟨by decide,by decide⟩,L,ka,fa,ks,fo,_,_,rfl,F,by omega,by omega,by omega,fun L3 ks' fo' F3 g1 g2=>?_⟩⟩;exact⟨_,LSub.refl _,_,_,_,_,_,_,_,ks',fo',rfl,F3,by omega,by omega,by omega⟩
    ·have c1:¬((((z9 fo).length:Nat):Int) > 1):=c1;rw[lenR] at c1;obtain⟨t,rfl⟩:∃t,fo=[t]:=by
      match fo,h1,c1 with
      |[t],_,_=>exact⟨t,rfl⟩
      |t::u::r,_,c=>exact absurd (show(((t::u::r).length:Nat):Int) > 1 by simp;omega) c
     have ta:=(F.b.ht t (Av ..)).1;refine qe F.hf (qe ta ?_);refine aqf (LSub.put F.b.sub F.b.hk) (q ka ks t.R t.E hka F.b.ok (F.b.sr t (Av ..)) ?_ ?_)
     ·have nd:=F.b.nd;have tm:=F.b.tm;simp at nd tm;exact(BV nd C2).mpr fun x=>by rw[tm,Bb]
     ·simp at hb;omega
def ahy(p q:Nat×Nat):Prop:=p.1<q.1\/(p.1=q.1/\p.2≤q.2)
def ana(p:Nat×Nat):Int×Int:=((p.1:Int),(p.2:Int))
theorem aq7{p q:Nat×Nat}(h:ana p=ana q):p=q:=by
 obtain⟨a,b⟩:=p;obtain⟨c,d⟩:=q;have h1:(a:Int)=c:=BA Prod.fst h;have h2:(b:Int)=d:=BA Prod.snd h;rw[Cn.mp h1,Cn.mp h2]
theorem ank(ps:List (Nat×Nat)):zg ps=(ps.map ana).map prY:=by rw[BI];rfl
theorem an3{L:LHp}{a:Addr}{ps:List (Nat×Nat)}{Q:YK}(ha:L a=some (.lst (zg ps)))(hb:∀p∈ps,p.2<1000000)(nd:ps.Nodup)(hl:ps.length≤100000)
 (q:∀D qs,L D=none->qs.Perm ps->qs.Pairwise ahy->Q (.ref D) (qh L D (.lst (zg qs)))):abe [.ref a] L Q:=by
 refine qm ha ⟨ps.map ana,ank ps,fun p hp=>?_,?_,by rw[Ae];exact hl,fun D qs hD pm pw=>?_⟩
 ·obtain⟨r,hr,rfl⟩:=BH.mp hp;have:=hb r hr;exact⟨CH _,by show((r.2:Nat):Int)<1000000;omega⟩
 ·exact acn (fun x _ y _ e=>aq7 e) nd
 ·obtain⟨T,pT,rfl⟩:=ajo ana pm rfl;rw[<-ank];refine q D T hD pT ((B4.mp pw).imp fun {x y} z=>?_);unfold ahy;rcases z with z | ⟨z1,z2⟩
  ·left;have z:((x.1:Nat):Int)<y.1:=z;omega
  ·right;have z1:((x.1:Nat):Int)=y.1:=z1;have z2:((x.2:Nat):Int)≤y.2:=z2;exact⟨by omega,by omega⟩
theorem amt{lk:List (Nat×Nat)}{m:Nat×Nat->Nat×Nat}{keep:LHp->Prop}{L:LHp}{g:TG3}{tc:TT3}{te:TE3}{τ:St3}{Q:YK}(hz:lk.length≤1000)(hk:keep L)
 (turn:∀(i:Nat) (pr:Nat×Nat) (R:List Y->LHp->Prop) zs,lk[i]?=some pr->R (zs++[prN (m pr)]) L->g (prN pr) (τ++List.replicate 2 none) L fun τ2 L2=>tc τ2 L2 fun b L3=>vm b (te τ2 L3 fun z L4=>R (zs++[z]) L4) (R zs L3))
 (hq:∀p,L p=none->Q (.ref p) (qh L p (.lst (zg (lk.map m))))):lcK (zg lk) keep 2 g tc te τ L Q:=by
 refine ado (fun i zs=>zs=zg ((lk.take i).map m)) (by rw[Ae];exact BM hz (by decide)) hk rfl ?_ ?_
 ·rintro i y zs ey rfl;rw[Ap] at ey;obtain⟨pr,ek,rfl⟩:=Ar.mp ey;refine turn i pr _ _ ek ⟨L,LSub.refl _,rfl,?_⟩;rw[Bp,ek,AG];show _=(_++_:List (Nat×Nat)).map prN;rw[AG];rfl
 ·rintro zs rfl p hp;rw[Ae,Bs];exact hq p hp
structure GapI(L0:LHp)(ks:List (Option Kn))(qs:List Nat)(d w D:Addr)(i ex:Nat)(f:Nat->Nat)(wd:List (Option Kn))(kvs:List (Key×Y))(L:LHp):Prop where
 sub:LSub L0 L
 hd:L d=some (.dct kvs)
 hw:L w=some (.lst (osY wd))
 hD:L D=some (.lst (nY qs))
 len:kvs.length≤i
 val:∀p:Nat,aa2 kvs (.inl (p:Int))=if p∈qs.take i then some (.int ((f p:Nat):Int)) else none
 gap:Gap ks (qs.take i) f wd
 wlen:wd.length≤2*i+ex
def mmP(f:Nat->Nat)(p:Nat×Nat):Nat×Nat:=(min (f p.1) (f p.2),max (f p.1) (f p.2))
def ppP(f:Nat->Nat)(p:Nat×Nat):Nat×Nat:=(f p.1,f p.2)
structure Ren(f:Nat->Nat)(ks wd:List (Option Kn)):Prop where
 gap:Gap ks (List.range ks.length) f wd
 len:wd.length≤2*ks.length+1
def acy(Pt:Addr):Sp3:=fun ys L Q=>∃a l c,∃ks:List (Option Kn),∃lk ct:List (Nat×Nat),∃s:Int,∃b:Bool,ys=[.ref a,.ref l,.ref c,.int s,.bl b]/\L a=some (.lst (osY ks))/\L l=some (.lst (zg lk))/\L c=some (.lst (zg ct))/\OkO ks/\ks.length≤400/\L Pt=some (.tb lamQ)/\
 lk.Nodup/\(∀p∈lk,p.1<p.2/\p.2<ks.length)/\lk.length≤1000/\ct.Nodup/\(∀p∈ct,p.1<ks.length/\p.2<ks.length)/\ct.length≤1000/\
 ∀f wd lk' ct' wa la ca L',Ren f ks wd->lk'.Perm (lk.map (mmP f))->lk'.Pairwise ahy->ct'.Perm (ct.map (ppP f))->ct'.Pairwise ahy->LSub L L'->L wa=none->L la=none->L ca=none->wa≠la->wa≠ca->la≠ca->L' wa=some (.lst (osY wd))->L' la=some (.lst (zg lk'))->L' ca=some (.lst (zg ct'))->Q (ag8 wa la ca) L'
theorem ady(wd:List (Option Kn))(k:Option Kn):osY wd++[aik k]=osY (wd++[k]):=by unfold osY;rw[AG];rfl
theorem act(wd:List (Option Kn)):(osY wd).length=wd.length:=Ae ..
theorem GapI.wide{L0:LHp}{ks:List (Option Kn)}{qs:List Nat}{d w D:Addr}{i ex ex':Nat}{f:Nat->Nat}{wd wd':List (Option Kn)}{kvs:List (Key×Y)}{L:LHp}(G:GapI L0 ks qs d w D i ex f wd kvs L)(h0:L0 w=none)(ndw:d≠w)(nwD:w≠D)(g:Gap ks (qs.take i) f wd')(h:wd'.length≤2*i+ex'):
 GapI L0 ks qs d w D i ex' f wd' kvs (qh L w (.lst (osY wd'))):=
 ⟨G.sub.upd h0,(qd ndw).trans G.hd,q9,(qd (AK nwD)).trans G.hD,G.len,G.val,g,h⟩
theorem Gap.gaps{ks:List (Option Kn)}{ps:List Nat}{f:Nat->Nat}{wd:List (Option Kn)}(h:Gap ks ps f wd):∀n,Gap ks ps f (wd++List.replicate n none)
 |0=>by rw[List.replicate_zero,AR];exact h
 |n+1=>by rw[List.replicate_succ',<-Ay];exact(h.gaps n).gap
theorem a0h{a b c d:Nat}(h1:min a b=min c d)(h2:max a b=max c d):(a=c/\b=d)\/(a=d/\b=c):=by omega
theorem arc{Pt:Addr}:∀ys L Q,acy Pt ys L Q->w9 (ad9 (aeg Pt) aa4) 9 ys L Q:=by
 rintro ys L Q ⟨a,l,c,ks,lk,ct,s,b,rfl,ha,hl,hc,ok,hz,hP,nd1,hlk,hz1,nd2,hct,hz2,q⟩;have big:=bg_;intro d hd w hw;have hw0:L w=none:=jx hw;have ndw:d≠w:=neL q9 hw;have s0:LSub L (qh (qh L d (.dct [])) w (.lst [])):=(LSub.new hd).trans (LSub.new hw);refine⟨a,ks,s,rfl,s0 _ _ ha,ok,by omega,s0 _ _ hP,fun D qs hD pm pf=>?_⟩;have hD0:L D=none:=jx (jx hD);have nwD:w≠D:=neL q9 hD;have ndD:d≠D:=neL ((qd ndw).trans q9) hD;have lq:qs.length=ks.length:=by rw[pm.length_eq,BZ]
 have ndq:qs.Nodup:=pm.nodup_iff.mpr C2;have mq:∀p∈qs,p<ks.length:=fun p hp=>Bb.mp (pm.mem_iff.mp hp);have G0:GapI L ks qs d w D 0 0 (fun _=>0) [] [] (qh (qh (qh L d (.dct [])) w (.lst [])) D (.lst (nY qs))):=
  ⟨s0.trans (LSub.new hD),(qd ndD).trans ((qd ndw).trans q9),(qd nwD).trans q9,q9,An _,fun p=>rfl,Gap.nil _ _,An _⟩
 refine jn q9 fun keep kp=>xr ⟨fun i τ L'=>∃f wd kvs c7 c8,τ=[some (Y.ref a),some (Y.ref l),some (Y.ref c),some (.int s),some (.bl b),some (Y.ref d),some (Y.ref w),c7,c8]/\GapI L ks qs d w D i 0 f wd kvs L',⟨_,_,_,_,_,rfl,G0⟩,?_,?_,?_⟩
 ·rintro i τ L' ⟨f,wd,kvs,c7,c8,rfl,G⟩;exact kp L' (by rw[G.hD,q9])
 ·rintro i y τ L' hy ⟨f,wd,kvs,c7,c8,rfl,G⟩;obtain⟨p,ep,rfl⟩:=asw hy;have hi:=jf ep;have hp:p<ks.length:=mq p (AM ep);obtain⟨k,hk⟩:∃k,ks[p]?=some k:=⟨_,Aj hp⟩;have pn:p∉qs.take i:=fun hm=>by
   have e2:qs=qs.take i++p::qs.drop (i+1):=by
    rw[Aj hi] at ep;rw[<-A6 ep,CS,Bd]
   have nd:=ndq;rw[e2] at nd;exact(AI.mp nd).2.2 p hm p (Av ..) rfl
  have et:qs.take (i+1)=qs.take i++[p]:=by rw[Bp,ep];rfl
  refine⟨fun τ' L1=>∃wd',τ'=[some (Y.ref a),some (Y.ref l),some (Y.ref c),some (.int s),some (.bl b),some (Y.ref d),some (Y.ref w),some (.int (p:Nat)),c8]/\GapI L ks qs d w D i 1 f wd' kvs L1,?_,?_⟩
  ·have plain:GapI L ks qs d w D i 1 f wd kvs L':=⟨G.sub,G.hd,G.hw,G.hD,G.len,G.val,G.gap,by have:=G.wlen;omega⟩;cases b with
   |false=>exact⟨wd,rfl,plain⟩
   |true=>
    refine⟨s,(p:Nat),40692,rfl,by omega,by omega,by decide,by decide,fun v h0 h1=>?_⟩;refine⟨show(0:Int)<3 by decide,?_⟩;refine zu (fun g=>?_) fun g=>⟨wd,rfl,plain⟩;refine qe G.hw (qm G.hw ⟨by rw[act];have:=G.wlen;exact big _ (by omega),?_⟩);refine⟨wd++[none],rfl,?_⟩;have:=G.wide (wd':=wd++[none]) (ex':=1) hw0 ndw nwD G.gap.gap (by rw[Ad];have:=G.wlen;show wd.length+1≤_;omega);rw[<-ady] at this;exact this
  ·rintro τ' L1 ⟨wd',rfl,G1⟩;have hpar:∀e i' j',k=some (.nd e i' j')->i'∈qs.take i/\j'∈qs.take i:=fun e i' j' z=>ahl ok pm pf ep (by rw[hk,z]);have hpar2:∀x∈qs.take i,∀e i' j',ks[x]?=some (some (.nd e i' j'))->i'∈qs.take i/\j'∈qs.take i:=fun x hx e i' j' z=>by
    obtain⟨n,hn⟩:=List.getElem?_of_mem hx;have hn2:=jf hn;rw[AL] at hn2;rw[Dz (by omega)] at hn;obtain⟨h1,h2⟩:=ahl ok pm pf hn z;have sb:∀y,y∈qs.take n->y∈qs.take i:=fun y hy=>by
     have:qs.take n=(qs.take i).take n:=by rw[List.take_take,Ck (by omega)]
     rw[this] at hy;exact Bx hy
    exact⟨sb _ h1,sb _ h2⟩
   have vp:∀y:Nat,aa2 (aim kvs (.inl (p:Int)) (.int ((wd'.length:Nat):Int))) (.inl (y:Int))=if y∈qs.take i++[p] then some (.int (((if y=p then wd'.length else f y):Nat):Int)) else none:=fun y=>by
    rw[au7]
    by_cases e:y=p
    ·subst e;rw[AB rfl,AB rfl,AB (Ag _ (AC.mpr rfl))]
    ·rw[Ax (fun z=>e (Cn.mp (Sum.inl.inj z))),Ax e,G1.val]
     by_cases h:y∈qs.take i
     ·rw[AB h,AB (Aw _ h)]
     ·rw[Ax h,Ax fun z=>(Al.mp z).elim h fun z=>e (AC.mp z)]
   have wl:=G1.wlen;have kl:=G1.len;refine qe G1.hw ?_;rw[act];refine w5 G1.hd ⟨big _ (by omega),?_⟩;have nad:a≠d:=neL ha hd;refine qe ((qd nad).trans (G1.sub _ _ ha)) (qp (kz hk) ?_);have hd2:∀{o},qh L1 d o d=some o:=q9;refine⟨fun τ' L2=>τ'=[some (Y.ref a),some (Y.ref l),some (Y.ref c),some (.int s),some (.bl b),some (Y.ref d),some (Y.ref w),some (.int (p:Nat)),some (aik (agi f k))]/\L2=qh L1 d (.dct (aim kvs (.inl (p:Int)) (.int ((wd'.length:Nat):Int)))),?_,?_⟩
   ·cases k with
    |none=>exact⟨rfl,rfl⟩
    |some k=>
     cases k with
     |lf t n=>exact⟨rfl,rfl⟩
     |nd e p1 p2=>
      obtain⟨m1,m2⟩:=hpar e p1 p2 rfl;have v1:=vp p1;have v2:=vp p2;rw[AB (Aw _ m1),Ax fun(z:p1=p)=>pn (z▸m1)] at v1;rw[AB (Aw _ m2),Ax fun(z:p2=p)=>pn (z▸m2)] at v2;refine w5 q9 (qp v1 ?_);refine w5 q9 (qp v2 ?_);exact⟨rfl,rfl⟩
   ·rintro τ' L2 ⟨rfl,rfl⟩;have hw2:qh L1 d (.dct (aim kvs (.inl (p:Int)) (.int ((wd'.length:Nat):Int)))) w=some (.lst (osY wd')):=(qd (AK ndw)).trans G1.hw;refine qe hw2 (qm hw2 ⟨by rw[act];exact big _ (by omega),?_⟩);rw[ady];have hb:∀x∈qs.take i,x<ks.length:=fun x hx=>mq x (Bx hx);refine⟨_,LSub.refl _,fun x=>if x=p then wd'.length else f x,wd'++[agi f k],_,_,_,rfl,(G1.sub.upd hd).upd hw0,(qd ndw).trans q9,q9,(qd (AK nwD)).trans ((qd (AK ndD)).trans G1.hD),?_,fun y=>?_,?_,?_⟩
    ·have:=au5 kvs (.inl (p:Int)) (.int ((wd'.length:Nat):Int));omega
    ·rw[et];exact vp y
    ·rw[et];exact G1.gap.step hb pn hk hpar2 hpar
    ·rw[Ad];show wd'.length+1≤_;omega
 ·rintro τ L' ⟨f,wd,kvs,c7,c8,rfl,G⟩;have eq:(nY qs).length=qs.length:=Ae ..;rw[eq] at G;have et:qs.take qs.length=qs:=Bs;have val:∀p,p<ks.length->aa2 kvs (.inl (p:Int))=some (.int ((f p:Nat):Int)):=fun p hp=>by
   rw[G.val,et,AB (pm.mem_iff.mpr (Bb.mpr hp))]
  have gap:Gap ks (List.range ks.length) f wd:=by
   have g:=G.gap;rw[et] at g;exact⟨fun p hp=>g.at_ p (pm.mem_iff.mpr hp),fun p hp r hr=>g.inj p (pm.mem_iff.mpr hp) r (pm.mem_iff.mpr hr),fun x k hx=>let ⟨r,hr,e⟩:=g.only x k hx;⟨r,pm.mem_iff.mp hr,e⟩,g.ok⟩
  have flt:∀p,p<ks.length->f p<wd.length:=fun p hp=>gap.lt (Bb.mpr hp) hp;have inj:∀p r,p<ks.length->r<ks.length->f p=f r->p=r:=fun p r hp hr e=>gap.inj p (Bb.mpr hp) r (Bb.mpr hr) e;have wl:wd.length≤2*ks.length:=by have:=G.wlen;rw[lq] at this;omega
  refine jn (G.sub _ _ hl) fun keep kp=>amt (m:=mmP f) hz1 (kp _ rfl) (fun i pr R zs epr hR=>?_) fun p1 hp1=>?_
  ·obtain⟨l1,l2⟩:=hlk pr (AM epr);have v1:=val pr.1 (by omega);have v2:=val pr.2 l2;refine w5 G.hd (qp v1 ?_);refine w5 G.hd (qp v2 ?_);refine w5 G.hd (qp v1 ?_);refine w5 G.hd (qp v2 ?_);have e1:min ((f pr.1:Nat):Int) ((f pr.2:Nat):Int)=((min (f pr.1) (f pr.2):Nat):Int):=a2q _ _;have e2:max ((f pr.1:Nat):Int) ((f pr.2:Nat):Int)=((max (f pr.1) (f pr.2):Nat):Int):=a3k _ _;have hR':R (zs++[.tup [.int (min ((f pr.1:Nat):Int) ((f pr.2:Nat):Int)),.int (max ((f pr.1:Nat):Int) ((f pr.2:Nat):Int))]]) L':=by rw[e1,e2];exact hR
   exact hR'
  have b1:∀p∈lk.map (mmP f),p.2<1000000:=fun p hp=>by
   obtain⟨r,hr,rfl⟩:=BH.mp hp;obtain⟨h1,h2⟩:=hlk r hr;have:=flt r.1 (by omega);have:=flt r.2 h2;exact Nat.max_lt.mpr ⟨by omega,by omega⟩
  have n1:(lk.map (mmP f)).Nodup:=acn (fun x hx y hy e=>by
   obtain⟨x1,x2⟩:=hlk x hx;obtain⟨y1,y2⟩:=hlk y hy;have m1:min (f x.1) (f x.2)=min (f y.1) (f y.2):=BA Prod.fst e;have m2:max (f x.1) (f x.2)=max (f y.1) (f y.2):=BA Prod.snd e;have a1:x.1=y.1/\x.2=y.2:=by
    rcases a0h m1 m2 with⟨c1,c2⟩ | ⟨c1,c2⟩
    ·exact⟨inj x.1 y.1 (Di x1 x2) (Di y1 y2) c1,inj x.2 y.2 x2 y2 c2⟩
    ·have e3:=inj x.1 y.2 (Di x1 x2) y2 c1;have e4:=inj x.2 y.1 x2 (Di y1 y2) c2;rw[e3,e4] at x1;exact absurd x1 (Nat.lt_asymm y1)
   exact DS a1.1 a1.2) nd1
  dsimp only[qj];refine an3 (ps:=lk.map (mmP f)) q9 b1 n1 (by rw[Ae];omega) fun D1 lk' hD1 pm1 pw1=>?_;have hp1':L p1=none:=G.sub.none hp1;have hD1a:=jx hD1;have hD1':L D1=none:=G.sub.none hD1a;have S1:LSub L' (qh (qh L' p1 (.lst (zg (lk.map (mmP f))))) D1 (.lst (zg lk'))):=(LSub.new hp1).trans (LSub.new hD1);refine jn (S1 _ _ (G.sub _ _ hc)) fun keep kp=>amt (m:=ppP f) hz2 (kp _ rfl) (fun i pr R zs epr hR=>?_) fun p2 hp2=>?_
  ·obtain⟨l1,l2⟩:=hct pr (AM epr);refine w5 (S1 _ _ G.hd) (qp (val pr.1 l1) ?_);refine w5 (S1 _ _ G.hd) (qp (val pr.2 l2) ?_);exact hR
  have b2:∀p∈ct.map (ppP f),p.2<1000000:=fun p hp=>by
   obtain⟨r,hr,rfl⟩:=BH.mp hp;obtain⟨h1,h2⟩:=hct r hr;have:=flt r.2 h2;show f r.2<1000000;omega
  have n2:(ct.map (ppP f)).Nodup:=acn (fun x hx y hy e=>by
   obtain⟨x1,x2⟩:=hct x hx;obtain⟨y1,y2⟩:=hct y hy;exact DS (inj _ _ x1 y1 (BA Prod.fst e)) (inj _ _ x2 y2 (BA Prod.snd e))) nd2
  dsimp only[qj];refine an3 (ps:=ct.map (ppP f)) q9 b2 n2 (by rw[Ae];omega) fun D2 ct' hD2 pm2 pw2=>?_;have hD2a:=jx hD2;have S2:=S1.trans ((LSub.new hp2).trans (LSub.new (o:=.lst (zg ct')) hD2));have hD2':L D2=none:=G.sub.none (S1.none hD2a);have n12:D1≠D2:=neL q9 hD2a;obtain⟨m,hm,hm1⟩:∃m:Nat,(if b=true then(1:Int) else 0)=(m:Int)/\m≤1:=by cases b;exact⟨0,rfl,by omega⟩;exact⟨1,rfl,by omega⟩
  walk_at "w";rw[hm];refine⟨⟨by omega,by omega⟩,?_⟩;rw[BN];refine ako (fun i zs=>zs=osY (List.replicate i none)) (big _ (by omega)) rfl ?_ ?_
  ·rintro i zs hi rfl;refine⟨_,LSub.refl _,rfl,?_⟩;rw[List.replicate_succ'];exact ady _ none
  rintro zs rfl p3 hp3;have S3:=S2.trans (LSub.new (o:=.lst (osY (List.replicate m none))) hp3);refine⟨_,_,S3 _ _ G.hw,q9,?_,fun p4 hp4=>?_⟩
  ·rw[act,act,BK];exact Bv (big _ (by omega))
  have h4:=jx hp4;have h4':L p4=none:=G.sub.none (S2.none h4);have n43:D2≠p4:=neL q9 h4;have n42:D1≠p4:=neL ((qd n12).trans ((qd (neL q9 hp2)).trans q9)) h4;have hp3b:=jx hp3;have n31:D1≠p3:=neL ((qd n12).trans ((qd (neL q9 hp2)).trans q9)) hp3;have n32:D2≠p3:=neL q9 hp3;have eo:osY wd++osY (List.replicate m none)=osY (wd++List.replicate m none):=by unfold osY;rw[AG]
  rw[eo];refine fin (q f (wd++List.replicate m none) lk' ct' p4 D1 D2 _ ⟨gap.gaps m,?_⟩ pm1 pw1 pm2 pw2 ((G.sub.trans S3).trans (LSub.new hp4)) h4' hD1' hD2' (AK n42) (AK n43) n12 q9 ?_ ?_)
  ·rw[Ad,BK];omega
  ·rw[qd n42,qd n31,qd n12,qd (neL q9 hp2),q9]
  ·rw[qd n43,qd n32,q9]
def ag4:TS3:=(qt (ax7 1 2 3 (qa (xa qj) (qa (xa qj) (qa (xa (qa (qb 0) qj)) qj))))
 (qt (ak4 (yB (yOp (yEq true) (qb 3) (xa qj))) (qt (zm (yBL arn (qb 3) qj) (qi 4))
 (aci (jt (yB (yOp (yEq false) (yOp yIx (qb 4) (yC (.int 0))) (yC (.str "link")))) (j9 (yBL zh (qb 1) (qa (jw (qa (yOp yIx (qb 4) (yC (.int 1))) (qa (yOp yIx (qb 4) (yC (.int 2))) qj))) qj))) je)
 (aci (jt (yB (yOp (yEq false) (yOp yIx (qb 4) (yC (.int 0))) (yC (.str "cut")))) (j9 (yBL zh (qb 2) (qa (jw (qa (yOp yIx (qb 4) (yC (.int 1))) (qa (yOp yIx (qb 4) (yC (.int 2))) qj))) qj))) je)
 (j9 (yBL wx (qb 3) (qa (yLC 1 (axk (ySl a1a (qb 4) (aj4 (yC (.int 2))) agu)) (qi 5) (yB (aao .tuple (qb 5))) (qb 5)) qj)))))))
 (jo (jw (qa (yCB abe (qa (qb 1) qj)) (qa (yCB abe (qa (qb 2) qj)) qj))))))
def zp:Ru->List (Nat×Nat)
 |.link p q=>[(p,q)]
 |.ei _ A=>zp A
 |.bo _ A B=>zp A++zp B
 |.cu _ _ A B=>zp A++zp B
def j5:Ru->List (Nat×Nat)
 |.link _ _=>[]
 |.ei _ A=>j5 A
 |.bo _ A B=>j5 A++j5 B
 |.cu p q A B=>(p,q)::(j5 A++j5 B)
def rsz:Ru->Nat
 |.link _ _=>1
 |.ei _ A=>rsz A+1
 |.bo _ A B=>rsz A+rsz B+1
 |.cu _ _ A B=>rsz A+rsz B+1
def wz:Ru->List Ru
 |.link _ _=>[]
 |.ei _ A=>[A]
 |.bo _ A B=>[A,B]
 |.cu _ _ A B=>[A,B]
def aiw:Ru->List (Nat×Nat)
 |.link p q=>[(p,q)]
 |_=>[]
def ake:Ru->List (Nat×Nat)
 |.cu p q _ _=>[(p,q)]
 |_=>[]
theorem aow(A:Ru):zp A=aiw A++(wz A).flatMap zp:=by cases A<;>simp[zp,aiw,wz]
theorem aqo(A:Ru):j5 A=ake A++(wz A).flatMap j5:=by cases A<;>simp[j5,ake,wz]
theorem aml(A:Ru):((wz A).map rsz).sum+1=rsz A:=by cases A<;>simp[rsz,wz]
theorem ax2(A:Ru):0<rsz A:=by cases A<;>simp[rsz]
theorem ars{A B:Ru}(h:B∈wz A):wb B<wb A:=by cases A<;>simp[wz] at h<;>(try rcases h with rfl | rfl)<;>(try subst h)<;>simp[wb]<;>omega
def ahm:Ru->List Y
 |.link _ q=>[.int ((q:Nat):Int)]
 |.ei _ A=>[qz A]
 |.bo _ A B=>[qz A,qz B]
 |.cu _ q A B=>[.int ((q:Nat):Int),qz A,qz B]
def auv:Y->Option Y
 |.tup ys=>some (.tup ys)
 |_=>none
theorem ap3(A:Ru):auv (qz A)=some (qz A):=by cases A<;>rfl
theorem ap1(i:Int):auv (.int i)=none:=rfl
theorem arf(A:Ru):(ahm A).filterMap auv=(wz A).map qz:=by cases A<;>simp[ahm,wz,Cz,ap3,ap1]
theorem asn{A:Ru}{y:Y}(h:y∈ahm A):(∃q:Nat,y=.int (q:Int))\/∃B,y=qz B:=by
 cases A<;>simp[ahm] at h
 ·exact .inl ⟨_,h⟩
 ·exact .inr ⟨_,h⟩
 ·rcases h with h | h<;>exact .inr ⟨_,h⟩
 ·rcases h with h | h | h
  ·exact .inl ⟨_,h⟩
  ·exact .inr ⟨_,h⟩
  ·exact .inr ⟨_,h⟩
structure ToldI(R:Ru)(lk ct:List (Nat×Nat))(st:List Ru):Prop where
 pl:(lk++st.flatMap zp).Perm (zp R)
 pc:(ct++st.flatMap j5).Perm (j5 R)
 sz:(st.map rsz).sum≤rsz R
 dp:∀A∈st,wb A≤wb R
theorem ToldI.start(R:Ru):ToldI R [] [] [R]:=⟨by simp,by simp,by simp,fun A hA=>by simp at hA;subst hA;exact An _⟩
theorem ToldI.step{R A:Ru}{lk ct:List (Nat×Nat)}{st:List Ru}(h:ToldI R lk ct (st++[A])):ToldI R (lk++aiw A) (ct++ake A) (st++wz A):=by
 have pm:∀{X U V W:List (Nat×Nat)},(X++U++(V++W)).Perm (X++(V++(U++W))):=fun {X U V W}=>by
  rw[Ay];refine C0 X ?_;rw[<-Ay,<-Ay];exact CU W A8
 refine⟨?_,?_,?_,fun B hB=>?_⟩
 ·refine List.Perm.trans ?_ h.pl;rw[AO,AO];have:[A].flatMap zp=aiw A++(wz A).flatMap zp:=by rw[<-aow];simp
  rw[this];exact pm
 ·refine List.Perm.trans ?_ h.pc;rw[AO,AO];have:[A].flatMap j5=ake A++(wz A).flatMap j5:=by rw[<-aqo];simp
  rw[this];exact pm
 ·have:=h.sz;have:=aml A;simp at *;omega
 ·rcases Al.mp hB with hB | hB
  ·exact h.dp B (Aw _ hB)
  ·have:=ars hB;have:=h.dp A (Ag _ (AC.mpr rfl));omega
def agk:Sp3:=fun ys L Q=>∃R:Ru,ys=[qz R]/\wb R≤120/\rsz R≤1000/\(zp R).Nodup/\(j5 R).Nodup/\(∀p∈zp R,p.2<1000000)/\(∀p∈j5 R,p.2<1000000)/\(zp R).length≤1000/\(j5 R).length≤1000/\
 ∀la ca lk ct,L la=none->L ca=none->la≠ca->lk.Perm (zp R)->lk.Pairwise ahy->ct.Perm (j5 R)->ct.Pairwise ahy->Q (.tup [.ref la,.ref ca]) (qh (qh L la (.lst (zg lk))) ca (.lst (zg ct)))
theorem afi(l:List (Nat×Nat))(p:Nat×Nat):zg l++[prN p]=zg (l++[p]):=by unfold zg;rw[AG];rfl
theorem asp(st:List Ru):Da.eqs (st.map abb) []=decide (st=[]):=by cases st<;>rfl
theorem ahp{L:LHp}{n:Nat}:∀{st:List Ru},(∀A∈st,wb A≤n)->Paired (DatN L n) (st.map qz) (st.map abb)
 |[],_=>.nil
 |A::r,h=>.cons (abu (h A (Av ..))) (ahp fun B hB=>h B (Ai _ hB))
theorem ave:∀ys L Q,agk ys L Q->w9 ag4 5 ys L Q:=by
 rintro ys L Q ⟨R,rfl,hd,hz,nd1,nd2,b1,b2,z1,z2,q⟩;have big:=bg_;intro la hla ca hca ta hta;have nlc:la≠ca:=neL q9 hca;have nct:ca≠ta:=neL q9 hta;have nlt:la≠ta:=neL ((qd nlc).trans q9) hta;have hca0:L ca=none:=jx hca;have hta0:L ta=none:=jx (jx hta);have S0:LSub L (qh (qh (qh L la (.lst [])) ca (.lst [])) ta (.lst [qz R])):=((LSub.new hla).trans (LSub.new hca)).trans (LSub.new hta);refine⟨fun m τ L'=>∃lk ct st c4,τ=[some (qz R),some (Y.ref la),some (Y.ref ca),some (Y.ref ta),c4]/\LSub L L'/\L' la=some (.lst (zg lk))/\L' ca=some (.lst (zg ct))/\L' ta=some (.lst (st.map qz))/\ToldI R lk ct st/\m=(st.map rsz).sum,⟨_,[],[],[R],_,rfl,S0,(qd nlt).trans ((qd nlc).trans q9),(qd nct).trans q9,q9,ToldI.start R,rfl⟩,?_⟩;rintro m τ L' ⟨lk,ct,st,c4,rfl,s,h1,h2,h3,T,rfl⟩;intro p hp;refine ac4 (n:=120) (m:=0) (by decide) (LSub.new hp _ _ h3) q9 (ahp fun A hA=>AW (T.dp A hA) hd) (.nil:Paired (DatN _ 0) _ []) ?_;have npl:la≠p:=neL h1 hp;have npc:ca≠p:=neL h2 hp;have npt:ta≠p:=neL h3 hp;have s2:LSub L (qh L' p (.lst [])):=s.trans (LSub.new hp);replace h1:=(qd (o:=.lst []) npl).trans h1;replace h2:=(qd (o:=.lst []) npc).trans h2;replace h3:=(qd (o:=.lst []) npt).trans h3;generalize qh L' p (.lst [])=L2 at s2 h1 h2 h3 ⊢;show vm (!(Da.eqs (st.map abb) [])) _ _;rw[asp];rcases List.eq_nil_or_concat st with rfl | ⟨st0,A,rfl⟩
 ·refine wo rfl ?_;have pl:lk.Perm (zp R):=by have:=T.pl;simpa using this
  have pc:ct.Perm (j5 R):=by have:=T.pc;simpa using this
  dsimp only[jo,jw,yCB,qa,qb,ano,qj];refine an3 h1 (fun x hx=>b1 x (pl.mem_iff.mp hx)) (pl.nodup_iff.mpr nd1) (by rw[pl.length_eq];omega) fun D1 lk' hD1 pm1 pw1=>?_;have n1:ca≠D1:=neL h2 hD1;refine an3 ((qd n1).trans h2) (fun x hx=>b2 x (pc.mem_iff.mp hx)) (pc.nodup_iff.mpr nd2) (by rw[pc.length_eq];omega) fun D2 ct' hD2 pm2 pw2=>?_;have n12:D1≠D2:=neL q9 hD2;have hD1':=s2.none hD1;have hD2':=s2.none (jx hD2);refine⟨_,fun z o e=>?_,q D1 D2 lk' ct' hD1' hD2' n12 (pm1.trans pl) pw1 (pm2.trans pc) pw2⟩
  by_cases c1:z=D2
  ·subst c1;rw[q9] at e ⊢;exact e
  ·rw[qd c1] at e ⊢
   by_cases c2:z=D1
   ·subst c2;rw[q9] at e ⊢;exact e
   ·rw[qd c2] at e ⊢;exact s2 _ _ e
 ·rw[List.concat_eq_append] at *;have T1:=T.step;have ne:st0++[A]≠[]:=by simp
  rw[Aq ne];refine aai rfl ⟨fun τ' L'=>∃m',m'<((st0++[A]).map rsz).sum/\∃lk ct st c4,τ'=[some (qz R),some (Y.ref la),some (Y.ref ca),some (Y.ref ta),c4]/\LSub L L'/\L' la=some (.lst (zg lk))/\L' ca=some (.lst (zg ct))/\L' ta=some (.lst (st.map qz))/\ToldI R lk ct st/\m'=(st.map rsz).sum,fun τ' L' h=>h,?_⟩;rw[AG] at h3;refine ash h3 ?_;refine⟨fun τ' L3=>τ'=[some (qz R),some (Y.ref la),some (Y.ref ca),some (Y.ref ta),some (qz A)]/\LSub L L3/\L3 la=some (.lst (zg (lk++aiw A)))/\L3 ca=some (.lst (zg ct))/\L3 ta=some (.lst (st0.map qz)),?_,?_⟩
  ·have s3:LSub L (qh L2 ta (.lst (st0.map qz))):=s2.upd hta0;have g1:qh L2 ta (.lst (st0.map qz)) la=some (.lst (zg lk)):=(qd nlt).trans h1;have g2:qh L2 ta (.lst (st0.map qz)) ca=some (.lst (zg ct)):=(qd nct).trans h2;have g3:qh L2 ta (.lst (st0.map qz)) ta=some (.lst (st0.map qz)):=q9;generalize qh L2 ta (.lst (st0.map qz))=L3 at s3 g1 g2 g3 ⊢;cases A with
   |link p0 q0=>
    refine qe g1 (qm g1 ⟨?_,?_⟩)
    ·have:=T.pl.length_eq;rw[Ad] at this;rw[Ae];exact big _ (by omega)
    ·exact⟨rfl,s3.upd hla,by rw[q9];exact BA (fun l=>some (LO.lst l)) (afi lk (p0,q0)),(qd (AK nlc)).trans g2,(qd (AK nlt)).trans g3⟩
   |ei r0 A0=>exact⟨rfl,s3,by rw[g1];simp[aiw],g2,g3⟩
   |bo r0 A0 B0=>exact⟨rfl,s3,by rw[g1];simp[aiw],g2,g3⟩
   |cu p0 q0 A0 B0=>exact⟨rfl,s3,by rw[g1];simp[aiw],g2,g3⟩
  ·rintro τ' L3 ⟨rfl,s3,g1,g2,g3⟩;refine⟨fun τ' L3=>τ'=[some (qz R),some (Y.ref la),some (Y.ref ca),some (Y.ref ta),some (qz A)]/\LSub L L3/\L3 la=some (.lst (zg (lk++aiw A)))/\L3 ca=some (.lst (zg (ct++ake A)))/\L3 ta=some (.lst (st0.map qz)),?_,?_⟩
   ·cases A with
    |cu p0 q0 A0 B0=>
     refine qe g2 (qm g2 ⟨?_,?_⟩)
     ·have:=T.pc.length_eq;rw[Ad] at this;rw[Ae];exact big _ (by omega)
     ·exact⟨rfl,s3.upd hca0,(qd nlc).trans g1,by rw[q9];exact BA (fun l=>some (LO.lst l)) (afi ct (p0,q0)),(qd (AK nct)).trans g3⟩
    |ei r0 A0=>exact⟨rfl,s3,g1,by rw[g2];simp[ake],g3⟩
    |bo r0 A0 B0=>exact⟨rfl,s3,g1,by rw[g2];simp[ake],g3⟩
    |link p0 q0=>exact⟨rfl,s3,g1,by rw[g2];simp[ake],g3⟩
   ·rintro τ' L3 ⟨rfl,s3,g1,g2,g3⟩;obtain⟨ys,e,esl⟩:∃ys,qz A=.tup ys/\alo ys (some 2) none=ahm A:=by cases A<;>exact⟨_,rfl,rfl⟩
    rw[e];have key:∀(zs:List Y) (keep:LHp->Prop) (Q':YK),zs=ahm A->keep L3->(∀p,L3 p=none->Q' (.ref p) (qh L3 p (.lst ((wz A).map qz))))->lcK zs keep 1 (qi 5) (yB (aao Ty3.tuple (qb 5))) (qb 5) [some (qz R),some (Y.ref la),some (Y.ref ca),some (Y.ref ta),some (.tup ys)] L3 Q':=by
     rintro zs keep Q' rfl hk hq;refine auq auv ?_ hk (fun i y W us ey hW=>?_) (by rw[arf];exact hq)
     ·cases A<;>exact big _ (by simp[ahm])
     ·rcases asn (AM ey) with⟨n,rfl⟩ | ⟨B,rfl⟩
      ·rw[ap1] at hW;refine⟨_,LSub.refl _,?_⟩;simpa using hW
      ·rw[ap3] at hW;cases B<;>exact⟨_,LSub.refl _,hW⟩
    refine qe g3 ?_;walk_at "w";refine⟨by cases A<;>(cases e;first | exact fun h=>absurd (show HT.sIx 3 0 (some 2)=0 from h.1) (by decide) | exact fun h=>absurd (show HT.sIx 4 0 (some 2)=0 from h.1) (by decide) | exact fun h=>absurd (show HT.sIx 5 0 (some 2)=0 from h.1) (by decide)),?_⟩;walk_at "w";refine key (alo ys (some 2) none) (fun _=>True) _ esl trivial fun p hp=>?_;have ntp:ta≠p:=neL g3 hp;have nlp:la≠p:=neL g1 hp;have ncp:ca≠p:=neL g2 hp;have szs:=T.sz;have szA:=aml A;have sz1:=T1.sz;have lens:∀l:List Ru,l.length≤(l.map rsz).sum:=fun l=>by
     induction l with
     |nil=>exact An _
     |cons B r ih=>have:=ax2 B;simp;omega
    have l1:=lens (st0++wz A);refine qm ((qd ntp).trans g3) (qm q9 ⟨?_,?_⟩)
    ·rw[Ae,Ae];rw[Ad] at l1;exact Bv (big _ (by omega))
    refine⟨_,LSub.refl _,((st0++wz A).map rsz).sum,?_,lk++aiw A,ct++ake A,st0++wz A,_,rfl,(s3.trans (LSub.new hp)).upd hta0,(qd nlt).trans ((qd nlp).trans g1),(qd nct).trans ((qd ncp).trans g2),?_,T1,rfl⟩
    ·simp;omega
    ·rw[q9,AG]
def szF(ks:List Kn):Nat->Nat->Nat
 |0,_=>1
 |n+1,p=>match ks[p]? with
  |some (.nd _ i j)=>1+szF ks n i+szF ks n j
  |_=>1
def szK(ks:List Kn)(p:Nat):Nat:=szF ks (p+1) p
theorem avb(ks:List Kn):∀n p,1≤szF ks n p
 |0,_=>An _
 |n+1,p=>by
  unfold szF
  split
  ·omega
  ·exact An _
theorem adq{ks:List Kn}(ok:KnOk ks):∀(n m p:Nat),p<n->p<m->szF ks n p=szF ks m p
 |0,_,_,h,_=>absurd h (Cm _)
 |_+1,0,_,_,h=>absurd h (Cm _)
 |n+1,m+1,p,h1,h2=>by
  show(match ks[p]? with | some (.nd _ i j)=>1+szF ks n i+szF ks n j | _=>1)=match ks[p]? with | some (.nd _ i j)=>1+szF ks m i+szF ks m j | _=>1
  cases e:ks[p]? with
  |none=>rfl
  |some k=>
   cases k with
   |lf t n=>rfl
   |nd b i j=>
    have:=ok p _ e;have:i<p/\j<p:=this;show 1+szF ks n i+szF ks n j=1+szF ks m i+szF ks m j;rw[adq ok n m i (by omega) (by omega),adq ok n m j (by omega) (by omega)]
theorem av9(ks:List Kn)(p:Nat):1≤szK ks p:=avb ks _ _
theorem aoj{ks:List Kn}{p:Nat}{t:Bool}{n:Str}(e:ks[p]?=some (.lf t n)):szK ks p=1:=by
 show(match ks[p]? with | some (.nd _ i j)=>1+szF ks p i+szF ks p j | _=>1)=1;rw[e]
theorem aot{ks:List Kn}(ok:KnOk ks){p i j:Nat}{b:Bool}(e:ks[p]?=some (.nd b i j)):szK ks p=1+szK ks i+szK ks j:=by
 have h:i<p/\j<p:=ok p _ e;show(match ks[p]? with | some (.nd _ i j)=>1+szF ks p i+szF ks p j | _=>1)=_;rw[e];show 1+szF ks p i+szF ks p j=1+szF ks (i+1) i+szF ks (j+1) j;rw[adq ok p (i+1) i (by omega) (by omega),adq ok p (j+1) j (by omega) (by omega)]
def xw(f:Nat->Nat)(l:List Nat):Nat:=(l.map f).sum
theorem vd(f:Nat->Nat)(x:Nat)(l:List Nat):xw f (x::l)=f x+xw f l:=by unfold xw;rw[AE,C6]
theorem v4(f:Nat->Nat)(l m:List Nat):xw f (l++m)=xw f l+xw f m:=by unfold xw;rw[AG,List.sum_append]
theorem k7{f:Nat->Nat}{l:List Nat}{x:Nat}(h:x∈l):xw f l=f x+xw f (l.erase x):=by
 have:=((List.perm_cons_erase h).map f).sum_nat;unfold xw;rw[this,AE,C6]
theorem aca{f:Nat->Nat}:∀{E U:List Nat},E.Nodup->(∀x∈E,x∈U)->xw f E≤xw f U
 |[],_,_,_=>Bf _
 |x::E,U,nd,h=>by
  obtain⟨n1,n2⟩:=Au.mp nd;rw[vd,k7 (h x (Av ..))];have:=aca (f:=f) (E:=E) (U:=U.erase x) n2 fun y hy=>(Bz (fun(z:y=x)=>n1 (z▸hy))).mpr (h y (Ai _ hy));omega
def aay(f:Nat->Nat)(l:List (Nat×Nat)):Nat:=(l.map fun c=>f c.1+f c.2).sum
theorem afx(f:Nat->Nat)(l m:List (Nat×Nat)):aay f (l++m)=aay f l+aay f m:=by unfold aay;rw[AG,List.sum_append]
theorem SR.weight{ks:List Kn}(ok:KnOk ks){R:Ru}{E:List Nat}(h:SR ks R E):xw (szK ks) E+aay (szK ks) (j5 R)≤(zj R).length:=by
 induction h with
 |@link p q t n E h1 h2 h3 h4 h5=>
  have:=aca (f:=szK ks) (U:=[p,q]) h5 fun x hx=>by rcases (h4 x).mp hx with rfl | rfl<;>simp
  have e:xw (szK ks) [p,q]=2:=by unfold xw;simp[aoj h2,aoj h3]
  show xw (szK ks) E+0≤2;omega
 |@ei r i j A EA E h1 h2 h3 h4 h5 h6 h7 ih=>
  have hj:j∈EA.erase i:=(Bz (AK h5)).mpr h4;have s1:=aca (f:=szK ks) (U:=(EA.erase i).erase j++[r]) h7 fun x hx=>by
   rcases (h6 x).mp hx with⟨a,b,c⟩ | rfl
   ·exact Aw _ ((Bz c).mpr ((Bz b).mpr a))
   ·simp
  have s2:=k7 (f:=szK ks) h3;have s3:=k7 (f:=szK ks) hj;have s4:=aot ok h1;rw[v4,vd] at s1;have e0:xw (szK ks) []=0:=rfl;show _+aay _ (j5 A)≤(r::zj A).length;rw[AF];omega
 |@bo r i j A B EA EB E h1 h2 h3 h4 h5 h6 h7 ih1 ih2=>
  have s1:=aca (f:=szK ks) (U:=EA.erase i++(EB.erase j++[r])) h7 fun x hx=>by
   rcases (h6 x).mp hx with⟨a,b⟩ | ⟨a,b⟩ | rfl
   ·exact Aw _ ((Bz b).mpr a)
   ·exact Ag _ (Aw _ ((Bz b).mpr a))
   ·simp
  have s2:=k7 (f:=szK ks) h4;have s3:=k7 (f:=szK ks) h5;have s4:=aot ok h1;rw[v4,v4,vd] at s1;have e0:xw (szK ks) []=0:=rfl;show _+aay _ (j5 A++j5 B)≤(r::(zj A++zj B)).length;rw[AF,Ad,afx];omega
 |@cu p q A B EA EB E w h1 h2 h3 h4 h5 h6 h7 h8 ih1 ih2=>
  have s1:=aca (f:=szK ks) (U:=EA.erase p++EB.erase q) h8 fun x hx=>by
   rcases (h7 x).mp hx with⟨a,b⟩ | ⟨a,b⟩
   ·exact Aw _ ((Bz b).mpr a)
   ·exact Ag _ ((Bz b).mpr a)
  have s2:=k7 (f:=szK ks) h3;have s3:=k7 (f:=szK ks) h4;rw[v4] at s1;have e1:aay (szK ks) (j5 (.cu p q A B))=szK ks p+szK ks q+(aay (szK ks) (j5 A)+aay (szK ks) (j5 B)):=by
   show aay _ ((p,q)::(j5 A++j5 B))=_;rw[<-afx];unfold aay;rw[AE,C6]
  show _≤(zj A++zj B).length;rw[Ad,e1];omega
theorem awk(a b:Nat):decide ((a:Int)=(b:Int))=decide (a=b):=by
 by_cases c:a=b
 ·rw[AD c];exact AD (by omega)
 ·rw[Aq c];exact Aq (by omega)
def j4(lk:List (Nat×Nat)):List Nat:=lk.flatMap fun x=>[x.1,x.2]
theorem xc(a b:List (Nat×Nat)):j4 (a++b)=j4 a++j4 b:=by unfold j4;rw[AO]
theorem w6(x:Nat×Nat):j4 [x]=[x.1,x.2]:=by simp[j4]
theorem jp(lk:List (Nat×Nat)):(j4 lk).length=2*lk.length:=by
 induction lk with
 |nil=>rfl
 |cons x r ih=>
  have:=xc [x] r;rw[CY] at this;rw[this,Ad,ih,w6,AF];simp;omega
def agy:Sp3:=fun ys L Q=>∃a,∃lk:List (Nat×Nat),ys=[.ref a]/\L a=some (.lst (zg lk))/\lk.length≤1000/\∀p,L p=none->Q (.ref p) (qh L p (.lst (nY (j4 lk))))
theorem avz:∀ys L Q,agy ys L Q->w9 afp 4 ys L Q:=by
 rintro ys L Q ⟨a,lk,rfl,ha,hz,q⟩;intro p hp;have hap:a≠p:=neL ha hp;refine apg (ys:=zg lk) (kj ((qd hap).trans ha)) (fun i τ L'=>∃c2 c3,τ=[some (.ref a),some (.ref p),c2,c3]/\L'=qh L p (.lst (nY (j4 (lk.take i))))) ⟨_,_,rfl,rfl⟩ ?_ ?_ ?_
 ·rintro i τ L' ⟨c2,c3,rfl,rfl⟩;rw[qd hap,qd hap]
 ·rintro i y τ L' hy ⟨c2,c3,rfl,rfl⟩;rw[Ap] at hy;obtain⟨x,ex,rfl⟩:=Ar.mp hy;have et:lk.take (i+1)=lk.take i++[x]:=by rw[Bp,ex];rfl
  have hl:(nY (j4 (lk.take i))).length≤2000:=by rw[aap,jp,AL];omega
  refine qe q9 (qm q9 ⟨BM hl (by decide),?_⟩);refine qe q9 (qm q9 ⟨BM (by rw[Ad,BL];omega:_≤2001) (by decide),_,LSub.refl _,_,_,rfl,?_⟩);rw[xm,xm,et,xc,w6,ky,Ay];rfl
 ·rintro τ L' ⟨c2,c3,rfl,rfl⟩;rw[Ae,Bs];exact fin (q p hp)
theorem agw(m:Nat)(l:List Nat):inV (toV (.int (m:Int))) ((nY l).map toV)=decide (m∈l):=by
 induction l with
 |nil=>rfl
 |cons n r ih=>
  have e:inV (toV (.int (m:Int))) ((nY (n::r)).map toV)=(eqV (toV (.int (n:Int))) (toV (.int (m:Int)))||inV (toV (.int (m:Int))) ((nY r).map toV)):=rfl;rw[e,ih];have e2:eqV (toV (.int (n:Int))) (toV (.int (m:Int)))=decide (n=m):=awk n m;rw[e2]
  by_cases c:n=m
  ·subst c;simp
  ·by_cases d:m∈r
   ·simp[d]
   ·simp[c,d,AK c]
theorem agr(l:List Nat):(nY l).all aat=true:=by
 rw[Cw];intro y hy;obtain⟨n,_,rfl⟩:=BH.mp hy;rfl
def acr:TS3:=(qt (zm (xa qj) (qi 2))
 (qt (ac3 (xg (qb 1)) (vg 2 (za (qi 3) (za (qi 4) xt))) (j9 (yBL wx (qb 2) (qa (xa (qa (qb 3) (qa (qb 4) qj))) qj))))
 (qt (zm (xa qj) (qi 5))
 (qt (ak4 (yB (yOp (yEq true) (qb 2) (xa qj))) (qt (zm (yBL arn (qb 2) qj) (qi 3))
 (qt (j9 (yBL zh (qb 5) (qa (qb 3) qj)))
 (jt (yB (yOp (yEq false) (yCB jk (qa (yOp yIx (qb 0) (qb 3)) qj)) (yC (.int 3)))) (j9 (yBL wx (qb 2) (qa (xa (qa (yOp yIx (yOp yIx (qb 0) (qb 3)) (yC (.int 1))) (qa (yOp yIx (yOp yIx (qb 0) (qb 3)) (yC (.int 2))) qj))) qj))) je))))
 (jo (qb 5))))))
structure BenI(ks:List Kn)(ct:List (Nat×Nat))(qs st:List Nat):Prop where
 cut:∀c∈ct,(c.1∈qs\/c.1∈st)/\(c.2∈qs\/c.2∈st)
 part:∀p∈qs,∀e i j,ks[p]?=some (.nd e i j)->(i∈qs\/i∈st)/\(j∈qs\/j∈st)
 lt:∀p∈st,p<ks.length
 sz:qs.length+xw (szK ks) st≤1000
theorem ae9(ks:List Kn):∀l:List Nat,l.length≤xw (szK ks) l
 |[]=>An _
 |x::r=>by
  have:=ae9 ks r;have:=av9 ks x;rw[vd,AF];omega
theorem aag(f:Nat->Nat):∀l:List (Nat×Nat),xw f (j4 l)=aay f l
 |[]=>rfl
 |c::r=>by
  have e:j4 (c::r)=[c.1,c.2]++j4 r:=by rw[<-w6,<-xc];rfl
  rw[e,v4,aag f r,vd,vd];show f c.1+(f c.2+xw f [])+aay f r=_;have e0:xw f []=0:=rfl;unfold aay;rw[e0,AE,C6];omega
theorem acf{ct:List (Nat×Nat)}{c:Nat×Nat}(h:c∈ct):c.1∈j4 ct/\c.2∈j4 ct:=by
 induction ct with
 |nil=>cases h
 |cons d r ih=>
  have e:j4 (d::r)=[d.1,d.2]++j4 r:=by rw[<-w6,<-xc];rfl
  rw[e];rcases As.mp h with rfl | h
  ·simp
  ·obtain⟨a,b⟩:=ih h;exact⟨Ag _ a,Ag _ b⟩
theorem asf{ct:List (Nat×Nat)}{x:Nat}(h:x∈j4 ct):∃c∈ct,x=c.1\/x=c.2:=by
 induction ct with
 |nil=>cases h
 |cons d r ih=>
  have e:j4 (d::r)=[d.1,d.2]++j4 r:=by rw[<-w6,<-xc];rfl
  rw[e] at h;rcases Al.mp h with h | h
  ·exact⟨d,Av ..,by simpa using h⟩
  ·obtain⟨c,h1,h2⟩:=ih h;exact⟨c,Ai _ h1,h2⟩
def agg(ks:List Kn)(p:Nat):List Nat:=match ks[p]? with
 |some (.nd _ i j)=>[i,j]
 |_=>[]
theorem BenI.step{ks:List Kn}(ok:KnOk ks){ct:List (Nat×Nat)}{qs st:List Nat}{p:Nat}(h:BenI ks ct qs (st++[p])):BenI ks ct (qs++[p]) (st++agg ks p)/\xw (szK ks) (st++agg ks p)<xw (szK ks) (st++[p]):=by
 have mv:∀x,(x∈qs\/x∈st++[p])->(x∈qs++[p]\/x∈st++agg ks p):=fun x hx=>by
  rcases hx with hx | hx
  ·exact .inl (Aw _ hx)
  ·rcases Al.mp hx with hx | hx
   ·exact .inr (Aw _ hx)
   ·exact .inl (Ag _ hx)
 have hs:=h.sz;have e1:xw (szK ks) (st++[p])=xw (szK ks) st+szK ks p:=by rw[v4,vd];rfl
 have e2:xw (szK ks) (st++agg ks p)+1=xw (szK ks) st+szK ks p:=by
  rw[v4];unfold agg;cases e:ks[p]? with
  |none=>
   have:=h.lt p (Ag _ (AC.mpr rfl));rw[Aj this] at e;cases e
  |some k=>
   cases k with
   |lf t n=>
    have:=aoj e;show xw _ st+0+1=_;omega
   |nd b i j=>
    have:=aot ok e;show xw (szK ks) st+xw (szK ks) [i,j]+1=_;rw[vd,vd];have e0:xw (szK ks) []=0:=rfl;omega
 refine⟨⟨fun c hc=>⟨mv _ (h.cut c hc).1,mv _ (h.cut c hc).2⟩,fun x hx e i j hk=>?_,fun x hx=>?_,?_⟩,by omega⟩
 ·rcases Al.mp hx with hx | hx
  ·exact⟨mv _ (h.part x hx e i j hk).1,mv _ (h.part x hx e i j hk).2⟩
  ·have hx:=AC.mp hx;subst hx;have:agg ks x=[i,j]:=by unfold agg;rw[hk]
   rw[this];simp
 ·rcases Al.mp hx with hx | hx
  ·exact h.lt x (Aw _ hx)
  ·unfold agg at hx
   split at hx
   ·rename_i b i j e;have:=jf e;have hij:i<p/\j<p:=ok p _ e;have:x=i\/x=j:=by simpa using hx
    omega
   ·cases hx
 ·rw[Ad,BL];omega
def abo:Sp3:=fun ys L Q=>∃a c,∃ks:List Kn,∃ct:List (Nat×Nat),ys=[.ref a,.ref c]/\L a=some (.lst (ksY ks))/\L c=some (.lst (zg ct))/\KnOk ks/\(∀x∈ct,x.1<ks.length/\x.2<ks.length)/\aay (szK ks) ct≤1000/\ks.length≤1000/\
 ∀D qs,L D=none->BenI ks ct qs []->Q (.ref D) (qh L D (.lst (nY qs)))
theorem azt(l:List Nat):Da.eqs (adl l) []=decide (l=[]):=by cases l<;>rfl
theorem ant:∀ys L Q,abo ys L Q->w9 acr 6 ys L Q:=by
 rintro ys L Q ⟨a,c,ks,ct,rfl,ha,hc,ok,hb,hz,hn,q⟩;have big:=bg_;have lp:(j4 ct).length≤1000:=AW (ae9 ks _) (by rw[aag];exact hz);intro ta hta;have s0:LSub L (qh L ta (.lst [])):=LSub.new hta;refine jn (s0 _ _ hc) fun keep kp=>xr ⟨fun i τ L'=>∃c3 c4 c5,τ=[some (Y.ref a),some (Y.ref c),some (Y.ref ta),c3,c4,c5]/\LSub L L'/\L' ta=some (.lst (nY (j4 (ct.take i)))),⟨_,_,_,rfl,s0,q9⟩,?_,?_,?_⟩
 ·rintro i τ L' ⟨c3,c4,c5,rfl,s,h⟩;exact kp L' (by rw[s _ _ hc,s0 _ _ hc])
 ·rintro i y τ L' hy ⟨c3,c4,c5,rfl,s,h⟩;rw[Ap] at hy;obtain⟨pr,ep,rfl⟩:=Ar.mp hy;have et:ct.take (i+1)=ct.take i++[pr]:=by rw[Bp,ep];rfl
  refine qe h ?_;intro p hp;have ntp:ta≠p:=neL h hp;have ll:(j4 (ct.take i)).length≤(j4 ct).length:=by rw[jp,jp,AL];omega
  refine qm ((qd ntp).trans h) (qm q9 ⟨?_,?_⟩)
  ·rw[aap];exact Bv (big _ (by simp;omega))
  ·refine⟨_,LSub.refl _,_,_,_,rfl,(s.trans (LSub.new hp)).upd hta,?_⟩;rw[q9,et,xc,w6,ky];rfl
 ·rintro τ L' ⟨c3,c4,c5,rfl,s,h⟩;rw[Ae,Bs] at h;intro bn hbn;have ntb:ta≠bn:=neL h hbn;have hbn0:L bn=none:=s.none hbn;have B0:BenI ks ct [] (j4 ct):=⟨fun x hx=>⟨.inr (acf hx).1,.inr (acf hx).2⟩,fun x hx=>(A5 hx).elim,fun x hx=>by
   obtain⟨d,hd,e⟩:=asf hx;have:=hb d hd;omega,by rw[aag];show 0+_≤1000;omega⟩
  refine⟨fun m τ L'=>∃qs st c3 c4,τ=[some (Y.ref a),some (Y.ref c),some (Y.ref ta),c3,c4,some (Y.ref bn)]/\LSub L L'/\L' ta=some (.lst (nY st))/\L' bn=some (.lst (nY qs))/\BenI ks ct qs st/\m=xw (szK ks) st,⟨_,[],j4 ct,_,_,rfl,s.trans (LSub.new hbn),(qd ntb).trans h,q9,B0,rfl⟩,?_⟩;rintro m τ L1 ⟨qs,st,c3,c4,rfl,s1,h1,h2,B,rfl⟩;intro p hp;refine ac4 (n:=0) (m:=0) (by decide) (LSub.new hp _ _ h1) q9 (al7 st) (.nil:Paired (DatN _ 0) _ []) ?_;have npt:ta≠p:=neL h1 hp;have npb:bn≠p:=neL h2 hp;have s2:LSub L (qh L1 p (.lst [])):=s1.trans (LSub.new hp);replace h1:=(qd (o:=.lst []) npt).trans h1;replace h2:=(qd (o:=.lst []) npb).trans h2;generalize qh L1 p (.lst [])=L2 at s2 h1 h2 ⊢;show vm (!(Da.eqs (adl st) [])) _ _;rw[azt];rcases List.eq_nil_or_concat st with rfl | ⟨st0,x,rfl⟩
  ·refine wo rfl ?_;refine⟨qh L bn (.lst (nY qs)),fun b o e=>?_,q bn qs hbn0 B⟩
   by_cases cc:b=bn
   ·subst cc;rw[q9] at e;rw[<-e];exact h2
   ·rw[qd cc] at e;exact s2 _ _ e
  ·rw[List.concat_eq_append] at *;obtain⟨B1,lt1⟩:=B.step ok;have ne:st0++[x]≠[]:=by simp
   rw[Aq ne];refine aai rfl ⟨fun τ' L'=>∃m',m'<xw (szK ks) (st0++[x])/\∃qs st c3 c4,τ'=[some (Y.ref a),some (Y.ref c),some (Y.ref ta),c3,c4,some (Y.ref bn)]/\LSub L L'/\L' ta=some (.lst (nY st))/\L' bn=some (.lst (nY qs))/\BenI ks ct qs st/\m'=xw (szK ks) st,fun τ' L' h=>h,?_⟩;rw[ky] at h1;refine ash h1 ?_;have g1:qh L2 ta (.lst (nY st0)) ta=some (.lst (nY st0)):=q9;have g2:qh L2 ta (.lst (nY st0)) bn=some (.lst (nY qs)):=(qd (AK ntb)).trans h2;have s3:LSub L (qh L2 ta (.lst (nY st0))):=s2.upd hta;generalize qh L2 ta (.lst (nY st0))=L3 at g1 g2 s3 ⊢;have hsz:=B.sz;refine qe g2 (qm g2 ⟨by rw[aap];exact big _ (by omega),?_⟩);have k1:qh L3 bn (.lst (nY qs++[.int ((x:Nat):Int)])) ta=some (.lst (nY st0)):=(qd ntb).trans g1;have k2:qh L3 bn (.lst (nY qs++[.int ((x:Nat):Int)])) bn=some (.lst (nY (qs++[x]))):=by rw[q9,ky];rfl
   have s4:LSub L (qh L3 bn (.lst (nY qs++[.int ((x:Nat):Int)]))):=s3.upd hbn0;generalize qh L3 bn (.lst (nY qs++[.int ((x:Nat):Int)]))=L4 at k1 k2 s4 ⊢;have hx:=B.lt x (Ag _ (AC.mpr rfl));obtain⟨k,ek⟩:∃k,ks[x]?=some k:=⟨_,Aj hx⟩;have ga:=s4 _ _ ha;refine qe ga (qp (kz ek) ?_);cases k with
   |lf t n=>
    have e0:agg ks x=[]:=by unfold agg;rw[ek]
    rw[e0,AR] at B1 lt1;exact⟨_,LSub.refl _,_,lt1,qs++[x],st0,_,_,rfl,s4,k1,k2,B1,rfl⟩
   |nd b i j=>
    have e0:agg ks x=[i,j]:=by unfold agg;rw[ek]
    rw[e0] at B1 lt1;refine qe k1 ?_;refine qe ga (qp (kz ek) ?_);refine qe ga (qp (kz ek) ?_);intro p2 hp2;have n1:ta≠p2:=neL k1 hp2;have n2:bn≠p2:=neL k2 hp2;have l1:=ae9 ks (st0++[i,j]);have z1:=B1.sz;refine qm ((qd n1).trans k1) (qm q9 ⟨?_,?_⟩)
    ·rw[aap];rw[Ad] at l1;exact Bv (big _ (by simp at l1 ⊢;omega))
    ·refine⟨_,LSub.refl _,_,lt1,qs++[x],st0++[i,j],_,_,rfl,(s4.trans (LSub.new hp2)).upd hta,?_,(qd (AK ntb)).trans ((qd n2).trans k2),B1,rfl⟩;rw[q9,ky];rfl
def ad3(p__law_beneath:Sp3)(p__law_mix:Sp3):TS3:=(qt (zm (zb p__law_beneath (qa (qb 0) (qa (qb 1) qj))) (qi 4))
 (qt (zm (xa qj) (qi 5))
 (qt (ac3 (xg (qb 0)) (qi 6) (jt (yB (yOp (yEq false) (yCB jk (qa (qb 6) qj)) (yC (.int 3)))) (j9 (yBL wx (qb 5) (qa (xa (qa (yOp yIx (qb 6) (yC (.int 1))) (qa (yOp yIx (qb 6) (yC (.int 2))) qj))) qj))) je))
 (qt (aj8 6 (zm (yCB jk (qa (yLC 1 (xg (qb 0)) (qi 11) (yB (yOp (yEq false) (yOp yIx (qb 11) (yC (.int 0))) (yC (.str "either")))) (qb 11)) qj)) (qi 7)))
 (qt (zm (xa qj) (qi 8))
 (qt (ac3 (af3 (qb 0)) (vg 2 (za (qi 9) (za (qi 6) xt))) (qt (zm (yOp vk (zb p__law_mix (qa (qb 2) (qa (qb 9) (qa (yC (.int 30269)) qj)))) (yC (.int 8))) (qi 10))
 (jt (yOr (yB (yOp (yEq false) (yCB jk (qa (qb 6) qj)) (yC (.int 2)))) (yB (yOp (ahw false) (qb 9) (qb 4)))) (j9 (yBL zh (qb 8) (qa (qb 6) qj))) (jt (yB (yOp (yEq false) (yOp vk (yOp aan (qb 2) (yC (.int 3))) (yC (.int 2))) (yC (.int 1)))) (j9 (yBL zh (qb 8) (qa (yIf (ac1 (yB (yOp (yEq false) (yOp vk (qb 10) (yC (.int 2))) (yC (.int 0)))) (yB (yOp (ahw true) (qb 9) (qb 5)))) (yC .non) (qb 6)) qj))) (jt (ac1 (yB (yOp yLt (qb 10) (yC (.int 3)))) (yB (yOp (yEq false) (yOp yIx (qb 6) (yC (.int 0))) (yC (.str "either"))))) (qt (j9 (yBL zh (qb 8) (qa (jw (qa (yC (.str "both")) (qa (yOp yIx (qb 6) (yC (.int 1))) (qa (yOp yIx (qb 6) (yC (.int 2))) qj)))) qj)))
 (zm (yOp aff (qb 7) (yC (.int 1))) (qi 7))) (jt (ac1 (yB (yOp yLt (qb 10) (yC (.int 3)))) (yB (yOp yLt (qb 7) (qb 3)))) (qt (j9 (yBL zh (qb 8) (qa (jw (qa (yC (.str "either")) (qa (yOp yIx (qb 6) (yC (.int 1))) (qa (yOp yIx (qb 6) (yC (.int 2))) qj)))) qj)))
 (zm (yOp vt (qb 7) (yC (.int 1))) (qi 7))) (j9 (yBL zh (qb 8) (qa (qb 6) qj)))))))))
 (jo (qb 8))))))))
def prK:Kn->List Nat
 |.nd _ i j=>[i,j]
 |.lf _ _=>[]
def aa3(ks:List Kn):List Nat:=ks.flatMap prK
theorem asa{ks:List Kn}{r:Nat}{e:Bool}{i j:Nat}(h:ks[r]?=some (.nd e i j)):i∈aa3 ks/\j∈aa3 ks:=
 ⟨Bh.mpr ⟨_,AM h,by simp[prK]⟩,Bh.mpr ⟨_,AM h,by simp[prK]⟩⟩
theorem auf(ks:List Kn):(aa3 ks).length≤2*ks.length:=by
 induction ks with
 |nil=>exact An _
 |cons k r ih=>
  have e:aa3 (k::r)=prK k++aa3 r:=AS ..;have:(prK k).length≤2:=by cases k<;>simp[prK]
  rw[e,Ad,AF];omega
theorem ajj(ks:List Kn)(k:Kn):aa3 (ks++[k])=aa3 ks++prK k:=by
 unfold aa3;rw[AO,AS,C3,AR]
structure RecT(ks:List Kn)(kept:List Nat)(n:Nat)(out:List (Option Kn)):Prop where
 len:out.length=n
 lf:∀p t m,p<n->ks[p]?=some (.lf t m)->out[p]?=some (some (.lf t m))
 kp:∀p∈kept,p<n->∀k,ks[p]?=some k->out[p]?=some (some k)
 nd:∀p e i j,p<n->ks[p]?=some (.nd e i j)->(out[p]?=some none/\p∉aa3 ks)\/∃e',out[p]?=some (some (.nd e' i j))
theorem RecT.nil(ks:List Kn)(kept:List Nat):RecT ks kept 0 []:=⟨rfl,fun _ _ _ h=>absurd h (Cm _),fun _ _ h=>absurd h (Cm _),fun _ _ _ _ h=>absurd h (Cm _)⟩
theorem RecT.snoc{ks:List Kn}{kept:List Nat}{n:Nat}{out:List (Option Kn)}(T:RecT ks kept n out){k:Kn}{o:Option Kn}(h:ks[n]?=some k)(hl:∀t m,k=.lf t m->o=some k)(hk:n∈kept->o=some k)
 (hn:∀e i j,k=.nd e i j->(o=none/\n∉aa3 ks)\/∃e',o=some (.nd e' i j)):RecT ks kept (n+1) (out++[o]):=by
 have old:∀p,p<n->(out++[o])[p]?=out[p]?:=fun p hp=>Az (by rw[T.len];exact hp);have new:(out++[o])[n]?=some o:=by rw[<-T.len];exact abh out o []
 refine⟨by rw[Ad,T.len];rfl,fun p t m hp e=>?_,fun p hp hp2 k' e=>?_,fun p b i j hp e=>?_⟩
 ·by_cases c:p<n
  ·rw[old p c];exact T.lf p t m c e
  ·have:p=n:=by omega
   subst this;rw[h] at e;cases e;rw[new,hl t m rfl]
 ·by_cases c:p<n
  ·rw[old p c];exact T.kp p hp c k' e
  ·have:p=n:=by omega
   subst this;rw[h] at e;cases e;rw[new,hk hp]
 ·by_cases c:p<n
  ·rw[old p c];exact T.nd p b i j c e
  ·have:p=n:=by omega
   subst this;rw[h] at e;cases e;rw[new];rcases hn b i j rfl with⟨a1,a2⟩ | ⟨e',a⟩
   ·exact .inl ⟨by rw[a1],a2⟩
   ·exact .inr ⟨e',by rw[a]⟩
def acw:Sp3:=fun ys L Q=>∃a c,∃ks:List Kn,∃ct:List (Nat×Nat),∃s m:Int,ys=[.ref a,.ref c,.int s,.int m]/\L a=some (.lst (ksY ks))/\L c=some (.lst (zg ct))/\KnOk ks/\(∀x∈ct,x.1<ks.length/\x.2<ks.length)/\aay (szK ks) ct≤1000/\ks.length≤1000/\
 ∀D qs out,L D=none->BenI ks ct qs []->RecT ks qs ks.length out->Q (.ref D) (qh L D (.lst (osY out)))
theorem ard:∀ys L Q,acw ys L Q->w9 (ad3 abo aa4) 11 ys L Q:=by
 rintro ys L Q ⟨a,c,ks,ct,s,m,rfl,ha,hc,ok,hb,hz,hn,q⟩;have big:=bg_;refine⟨a,c,ks,ct,rfl,ha,hc,ok,hb,hz,hn,fun D qs hD B=>?_⟩;have s1:LSub L (qh L D (.lst (nY qs))):=LSub.new hD;have hD1:qh L D (.lst (nY qs)) D=some (.lst (nY qs)):=q9;generalize qh L D (.lst (nY qs))=L1 at s1 hD1 ⊢;intro pa hpa;have s2:LSub L (qh L1 pa (.lst [])):=s1.trans (LSub.new hpa);have hpa0:L pa=none:=s1.none hpa;have nDp:D≠pa:=neL hD1 hpa;refine jn (s2 _ _ ha) fun keep kp=>xr ⟨fun i τ L'=>∃c6 c7 c8 c9 c10,τ=[some (Y.ref a),some (Y.ref c),some (.int s),some (.int m),some (Y.ref D),some (Y.ref pa),c6,c7,c8,c9,c10]/\LSub L L'/\L' D=some (.lst (nY qs))/\L' pa=some (.lst (nY (aa3 (ks.take i)))),⟨_,_,_,_,_,rfl,s2,(qd nDp).trans hD1,q9⟩,?_,?_,?_⟩
 ·rintro i τ L' ⟨c6,c7,c8,c9,c10,rfl,s',_⟩;exact kp L' (by rw[s' _ _ ha,s2 _ _ ha])
 ·rintro i y τ L' hy ⟨c6,c7,c8,c9,c10,rfl,s',g1,g2⟩;rw[Ap] at hy;obtain⟨k,ek,rfl⟩:=Ar.mp hy;have et:ks.take (i+1)=ks.take i++[k]:=by rw[Bp,ek];rfl
  have pl:=auf (ks.take i);rw[AL] at pl;cases k with
  |lf t n=>exact⟨_,LSub.refl _,_,_,_,_,_,rfl,s',g1,by rw[et,ajj];show _=some (LO.lst (nY (aa3 (ks.take i)++[])));rw[AR];exact g2⟩
  |nd e p1 p2=>
   refine qe g2 ?_;intro p hp;have n1:pa≠p:=neL g2 hp;have n2:D≠p:=neL g1 hp;refine qm ((qd n1).trans g2) (qm q9 ⟨?_,?_⟩)
   ·rw[aap];exact Bv (big _ (by simp;omega))
   ·refine⟨_,LSub.refl _,_,_,_,_,_,rfl,(s'.trans (LSub.new hp)).upd hpa0,(qd nDp).trans ((qd n2).trans g1),?_⟩;rw[q9,et,ajj,ky];rfl
 ·rintro τ L' ⟨c6,c7,c8,c9,c10,rfl,s',g1,g2⟩;rw[Ae,Bs] at g2;refine jn (s' _ _ ha) fun keep kp=>ado (fun i zs=>zs.length≤i) (by rw[Ae];exact big _ (by omega)) (kp _ rfl) (An _) ?_ ?_
  ·rintro i y zs ey hl;rw[Ap] at ey;obtain⟨k,ek,rfl⟩:=Ar.mp ey;have no:Frg (fun zs L''=>L''=L'/\zs.length≤i+1) zs L':=⟨_,LSub.refl _,rfl,by omega⟩;have yes:∀z,Frg (fun zs L''=>L''=L'/\zs.length≤i+1) (zs++[z]) L':=fun z=>⟨_,LSub.refl _,rfl,by rw[Ad,BL];omega⟩;cases k with
   |lf t n=>cases t<;>exact no
   |nd e p1 p2=>
    cases e with
    |true=>exact yes _
    |false=>exact no
  rintro zs hzs p hp;refine qm q9 ?_;have s3:LSub L (qh L' p (.lst zs)):=s'.trans (LSub.new hp);have k1:qh L' p (.lst zs) D=some (.lst (nY qs)):=(qd (neL g1 hp)).trans g1;have k2:qh L' p (.lst zs) pa=some (.lst (nY (aa3 ks))):=(qd (neL g2 hp)).trans g2;generalize qh L' p (.lst zs)=L2 at s3 k1 k2 ⊢;intro mk hmk;have hmk0:L mk=none:=s3.none hmk;have s4:LSub L (qh L2 mk (.lst [])):=s3.trans (LSub.new hmk);have nDm:D≠mk:=neL k1 hmk;have npm:pa≠mk:=neL k2 hmk;refine jn (s4 _ _ ha) fun keep kp=>xr ⟨fun i τ L'=>∃c6,∃mn:Int,∃c9 c10 out,τ=[some (Y.ref a),some (Y.ref c),some (.int s),some (.int m),some (Y.ref D),some (Y.ref pa),c6,some (.int mn),some (Y.ref mk),c9,c10]/\LSub L L'/\L' D=some (.lst (nY qs))/\L' pa=some (.lst (nY (aa3 ks)))/\L' mk=some (.lst (osY out))/\RecT ks qs i out,⟨_,_,_,_,[],rfl,s4,(qd nDm).trans k1,(qd npm).trans k2,q9,RecT.nil _ _⟩,?_,?_,?_⟩
  ·rintro i τ L' ⟨c6,mn,c9,c10,out,rfl,s',_⟩;exact kp L' (by rw[s' _ _ ha,s4 _ _ ha])
  ·rintro i y τ L' hy ⟨c6,mn,c9,c10,out,rfl,s',g1,g2,g3,T⟩;obtain⟨z,ez,rfl⟩:=acb hy;rw[Ap] at ez;obtain⟨k,ek,rfl⟩:=Ar.mp ez;have hi:=jf ek;have ol:=T.len;refine⟨s,i,30269,rfl,by omega,by omega,by decide,by decide,fun v h0 h1=>?_⟩;refine⟨show(0:Int)<8 by decide,?_⟩;have add:∀(o:Option Kn) (y:Y) (mn':Int),aik o=y->RecT ks qs (i+1) (out++[o])->Frg (fun(τ:St3) (L':LHp)=>∃c6,∃mn:Int,∃c9 c10 out,τ=[some (Y.ref a),some (Y.ref c),some (.int s),some (.int m),some (Y.ref D),some (Y.ref pa),c6,some (.int mn),some (Y.ref mk),c9,c10]/\LSub L L'/\L' D=some (.lst (nY qs))/\L' pa=some (.lst (nY (aa3 ks)))/\L' mk=some (.lst (osY out))/\RecT ks qs (i+1) out) [some (Y.ref a),some (Y.ref c),some (.int s),some (.int m),some (Y.ref D),some (Y.ref pa),some (ajw k),some (.int mn'),some (Y.ref mk),some (.int ((i:Nat):Int)),some (.int (v % 8))] (qh L' mk (.lst (osY out++[y]))):=fun o y mn' ey T'=>
    ⟨_,LSub.refl _,_,_,_,_,out++[o],rfl,s'.upd hmk0,(qd nDm).trans g1,(qd npm).trans g2,by rw[q9,<-ey,ady],T'⟩
   have len:(osY out).length<sizeLine:=by rw[act,ol];exact big _ (by omega)
   cases k with
   |lf t n=>
    have T':RecT ks qs (i+1) (out++[some (.lf t n)]):=T.snoc ek (fun _ _ h=>by rw[h]) (fun _=>rfl) (fun _ _ _ h=>by cases h);exact qe g3 (qm g3 ⟨len,add _ _ mn rfl T'⟩)
   |nd e p1 p2=>
    refine qe g1 ⟨rfl,agr _,?_⟩;rw[agw]
    by_cases ck:i∈qs
    ·have T':RecT ks qs (i+1) (out++[some (.nd e p1 p2)]):=T.snoc ek (fun _ _ h=>by cases h) (fun _=>rfl) (fun _ _ _ h=>.inr ⟨e,by cases h;rfl⟩);refine aai (by rw[AD ck];rfl) ?_;exact qe g3 (qm g3 ⟨len,add _ _ mn rfl T'⟩)
    refine wo (by rw[Aq ck];rfl) ?_;have T':∀e',RecT ks qs (i+1) (out++[some (.nd e' p1 p2)]):=fun e'=>T.snoc ek (fun _ _ h=>by cases h) (fun h=>absurd h ck) (fun _ _ _ h=>.inr ⟨e',by cases h;rfl⟩);refine⟨⟨by decide,by decide⟩,show(0:Int)<2 by decide,?_⟩;refine zu (fun h=>?_) (fun h=>?_)
    ·refine qe g3 ?_;refine⟨show(0:Int)<2 by decide,?_⟩;refine zu (fun h2=>?_) (fun h2=>?_)
     ·refine qe g2 ⟨rfl,agr _,?_⟩;rw[agw]
      by_cases cp:i∈aa3 ks
      ·refine wo (by rw[AD cp];rfl) ?_;exact qm g3 ⟨len,add _ _ mn rfl (T' e)⟩
      ·refine aai (by rw[Aq cp];rfl) ?_;have T2:RecT ks qs (i+1) (out++[none]):=T.snoc ek (fun _ _ h=>by cases h) (fun h=>absurd h ck) (fun _ _ _ h=>.inl ⟨rfl,cp⟩);exact qm g3 ⟨len,add _ _ mn rfl T2⟩
     ·exact qm g3 ⟨len,add _ _ mn rfl (T' e)⟩
    ·have same:∀(mn':Int),_:=fun mn'=>add (some (.nd e p1 p2)) _ mn' rfl (T' e);refine zu (fun h2=>?_) (fun h2=>?_)
     ·cases e with
      |true=>exact qe g3 (qm g3 ⟨len,add (some (.nd false p1 p2)) _ (mn - 1) rfl (T' false)⟩)
      |false=>
       refine zu (fun h2=>?_) (fun h2=>?_)
       ·refine zu (fun h3=>?_) (fun h3=>?_)
        ·exact qe g3 (qm g3 ⟨len,add (some (.nd true p1 p2)) _ (mn+1) rfl (T' true)⟩)
        ·exact qe g3 (qm g3 ⟨len,same mn⟩)
       ·exact qe g3 (qm g3 ⟨len,same mn⟩)
     ·refine zu (fun h3=>absurd h3 h2) (fun h3=>?_);exact qe g3 (qm g3 ⟨len,same mn⟩)
  ·rintro τ L' ⟨c6,mn,c9,c10,out,rfl,s',g1,g2,g3,T⟩;rw[aad,Ae] at T;refine⟨qh L mk (.lst (osY out)),fun b o e=>?_,q mk qs out hmk0 B T⟩
   by_cases cc:b=mk
   ·subst cc;rw[q9] at e;rw[<-e];exact g3
   ·rw[qd cc] at e;exact s' _ _ e
def ac9:TS3:=(qt (zm (yOp yIx (qb 1) (yOp vk (qb 2) (yCB jk (qa (qb 1) qj)))) (qi 4))
 (qt (zm (yLC 1 (xg (qb 1)) (qi 12) (ac1 (yB (yOp (yEq true) (qb 12) (qb 4))) (yB (yOp (yEq false) (yOp yIx (yOp yIx (qb 0) (yOp yIx (qb 12) (yC (.int 0)))) (yC (.int 1))) (yOp yIx (yOp yIx (qb 0) (yOp yIx (qb 4) (yC (.int 0)))) (yC (.int 1)))))) (qb 12)) (qi 5))
 (qt (jt (yB (yOp (yEq false) (qb 5) (xa qj))) (jo (qb 1)) je)
 (qt (zm (yOp yIx (qb 5) (yOp vk (qb 3) (yCB jk (qa (qb 5) qj)))) (qi 6))
 (qt (zm (yIf (yB (yOp (yEq false) (yOp yIx (yOp yIx (qb 0) (yOp yIx (qb 4) (yC (.int 0)))) (yC (.int 0))) (yC (.str "plain")))) (qb 4) (jw (qa (yOp yIx (qb 4) (yC (.int 1))) (qa (yOp yIx (qb 4) (yC (.int 0))) qj)))) (vg 2 (za (qi 7) (za (qi 8) xt))))
 (qt (zm (yIf (yB (yOp (yEq false) (yOp yIx (yOp yIx (qb 0) (yOp yIx (qb 6) (yC (.int 0)))) (yC (.int 0))) (yC (.str "plain")))) (qb 6) (jw (qa (yOp yIx (qb 6) (yC (.int 1))) (qa (yOp yIx (qb 6) (yC (.int 0))) qj)))) (vg 2 (za (qi 9) (za (qi 10) xt))))
 (qt (zm (yLC 1 (xg (qb 1)) (qi 12) (ac1 (yB (yOp (yEq true) (qb 12) (qb 4))) (yB (yOp (yEq true) (qb 12) (qb 6)))) (qb 12)) (qi 11))
 (jo (yCB abe (qa (yOp vt (qb 11) (xa (qa (jw (qa (yCB am7 (qa (qb 7) (qa (qb 10) qj))) (qa (yCB amm (qa (qb 7) (qa (qb 10) qj))) qj))) (qa (jw (qa (yCB am7 (qa (qb 9) (qa (qb 8) qj))) (qa (yCB amm (qa (qb 9) (qa (qb 8) qj))) qj))) qj)))) qj))))))))))
def aga(x:Nat×Nat):Da:=.tup [.s (.int (x.1:Int)),.s (.int (x.2:Int))]
theorem al4(x y:Nat×Nat):Da.eq (aga x) (aga y)=decide (x=y):=by
 show(decide ((x.1:Int)=(y.1:Int))&&(decide ((x.2:Int)=(y.2:Int))&&true))=_;rw[DR,<-Bool.decide_and];exact decide_eq_decide.mpr ⟨fun⟨h1,h2⟩=>DS (Cn.mp h1) (Cn.mp h2),fun h=>by subst h;exact⟨rfl,rfl⟩⟩
theorem afe{L:LHp}(x:Nat×Nat):DatN L 1 (prN x) (aga x):=ab8 (.cons (DatN.int _) (.cons (DatN.int _) .nil))
theorem am4{L:LHp}:∀l:List (Nat×Nat),Paired (DatN L 1) (zg l) (l.map aga)
 |[]=>.nil
 |_::r=>.cons (ab8 (.cons (DatN.int _) (.cons (DatN.int _) .nil))) (am4 r)
theorem ax3(l:List (Nat×Nat)):Da.eqs (l.map aga) []=decide (l=[]):=by cases l<;>rfl
theorem apy{lk:List (Nat×Nat)}{f:Nat×Nat->Bool}{keep:LHp->Prop}{L:LHp}{g:TG3}{tc:TT3}{te:TE3}{τ:St3}{Q:YK}(hz:lk.length≤1000)(hk:keep L)
 (turn:∀(i:Nat) (pr:Nat×Nat) (R:List Y->LHp->Prop) zs,lk[i]?=some pr->(f pr=true->R (zs++[prN pr]) L)->(f pr=false->R zs L)->g (prN pr) (τ++List.replicate 1 none) L fun τ2 L2=>tc τ2 L2 fun b L3=>vm b (te τ2 L3 fun z L4=>R (zs++[z]) L4) (R zs L3))
 (hq:∀p,L p=none->Q (.ref p) (qh L p (.lst (zg (lk.filter f))))):lcK (zg lk) keep 1 g tc te τ L Q:=by
 refine ado (fun i zs=>zs=zg ((lk.take i).filter f)) (by rw[Ae];exact BM hz (by decide)) hk rfl ?_ ?_
 ·rintro i y zs ey rfl;rw[Ap] at ey;obtain⟨pr,ek,rfl⟩:=Ar.mp ey;have et:lk.take (i+1)=lk.take i++[pr]:=by rw[Bp,ek];rfl
  refine turn i pr _ _ ek (fun h=>⟨L,LSub.refl _,rfl,?_⟩) fun h=>⟨L,LSub.refl _,rfl,?_⟩
  ·rw[et,Ci,DH h,Cj,<-afi]
  ·rw[et,Ci,DG (by rw[h];simp),Cj,AR]
 ·rintro zs rfl p hp;rw[Ae,Bs];exact hq p hp
structure LkI(ks:List Kn)(lk:List (Nat×Nat)):Prop where
 nd:(j4 lk).Nodup
 lt:∀p∈lk,p.1<p.2
 at_:∀p∈lk,∃t n,ks[p.1]?=some (.lf t n)/\ks[p.2]?=some (.lf (!t) n)
theorem xf(c:Nat×Nat)(r:List (Nat×Nat)):j4 (c::r)=c.1::c.2::j4 r:=by
 have e:j4 (c::r)=[c.1,c.2]++j4 r:=by rw[<-w6,<-xc];rfl
 rw[e];rfl
theorem ab1{l m:List (Nat×Nat)}(h:l.Perm m):(j4 l).Perm (j4 m):=by
 induction h with
 |nil=>exact .nil
 |cons x _ ih=>rw[xf,xf];exact(ih.cons _).cons _
 |swap x y l=>
  rw[xf,xf,xf,xf];exact(A8 (l₁:=[y.1,y.2]) (l₂:=[x.1,x.2])).append_right (j4 l)
 |trans _ _ h1 h2=>exact h1.trans h2
theorem vv:∀{l:List (Nat×Nat)},(j4 l).Nodup->l.Nodup
 |[],_=>Dp
 |c::r,h=>by
  rw[xf] at h;have h1:=Au.mp h;have h2:=Au.mp h1.2;exact Au.mpr ⟨fun hc=>h1.1 (Ai _ (acf hc).1),vv h2.2⟩
theorem awn{l:List (Nat×Nat)}(nd:l.Nodup){x y:Nat×Nat}(hx:x∈l)(hy:y∈l)(ne:x≠y):l.Perm (x::y::l.filter fun z=>decide (z≠x)&&decide (z≠y)):=by
 refine(BV nd ?_).mpr fun z=>?_
 ·refine Au.mpr ⟨fun h=>?_,Au.mpr ⟨fun h=>?_,nd.filter _⟩⟩
  ·rcases As.mp h with h | h
   ·exact ne h
   ·simp at h
  ·simp at h
 ·by_cases c1:z=x
  ·subst c1;simp[hx]
  ·by_cases c2:z=y
   ·subst c2;simp[hy]
   ·simp[c1,c2]
def mm2(a b:Nat):Nat×Nat:=(min a b,max a b)
theorem apw(a b:Nat)(r:List Nat):(min a b::max a b::r).Perm (a::b::r):=by
 by_cases c:a≤b
 ·rw[Ck c,C1 c]
 ·rw[Nat.min_eq_right (by omega),Dc (by omega)];exact List.Perm.swap ..
def j8(t:Bool)(p:Nat×Nat):Nat×Nat:=if t=true then(p.2,p.1) else p
theorem ag0(t:Bool)(p:Nat×Nat)(r:List Nat):((j8 t p).1::(j8 t p).2::r).Perm (p.1::p.2::r):=by
 cases t with
 |true=>exact List.Perm.swap ..
 |false=>exact .refl _
theorem LkI.cross{ks:List Kn}{lk:List (Nat×Nat)}(I:LkI ks lk){x y:Nat×Nat}(hx:x∈lk)(hy:y∈lk)(ne:x≠y){t u:Bool}{n:Str}(x1:ks[x.1]?=some (.lf t n))(x2:ks[x.2]?=some (.lf (!t) n))(y1:ks[y.1]?=some (.lf u n))(y2:ks[y.2]?=some (.lf (!u) n)):
 (j4 ((lk.filter fun z=>decide (z≠x)&&decide (z≠y))++[mm2 (j8 t x).1 (j8 u y).2,mm2 (j8 u y).1 (j8 t x).2])).Perm (j4 lk)/\
 LkI ks ((lk.filter fun z=>decide (z≠x)&&decide (z≠y))++[mm2 (j8 t x).1 (j8 u y).2,mm2 (j8 u y).1 (j8 t x).2]):=by
 have pm:=ab1 (awn (vv I.nd) hx hy ne);rw[xf,xf] at pm;generalize eR:(lk.filter fun z=>decide (z≠x)&&decide (z≠y))=rest at pm;have hp:(j4 (rest++[mm2 (j8 t x).1 (j8 u y).2,mm2 (j8 u y).1 (j8 t x).2])).Perm (j4 lk):=by
  rw[xc,xf,w6];refine A8.trans (List.Perm.trans ?_ pm.symm);refine(apw (j8 t x).1 (j8 u y).2 _).trans ?_;refine(((apw (j8 u y).1 (j8 t x).2 (j4 rest)).cons _).cons _).trans ?_;refine List.Perm.trans ?_ (ag0 t x _);refine List.Perm.cons _ ?_;refine List.Perm.trans ?_ ((ag0 u y _).cons _);refine(A8 (l₁:=[(j8 u y).2,(j8 u y).1]) (l₂:=[(j8 t x).2])).append_right (j4 rest) |>.trans ?_;exact(List.Perm.swap ..).cons _
 have pa:ks[(j8 t x).1]?=some (.lf false n)/\ks[(j8 t x).2]?=some (.lf true n):=by cases t;exact⟨x1,x2⟩;exact⟨x2,x1⟩
 have pb:ks[(j8 u y).1]?=some (.lf false n)/\ks[(j8 u y).2]?=some (.lf true n):=by cases u;exact⟨y1,y2⟩;exact⟨y2,y1⟩
 have two:∀a b,ks[a]?=some (.lf false n)->ks[b]?=some (.lf true n)->(mm2 a b).1<(mm2 a b).2/\∃t n,ks[(mm2 a b).1]?=some (.lf t n)/\ks[(mm2 a b).2]?=some (.lf (!t) n):=fun a b ea eb=>by
  have nab:a≠b:=fun h=>by subst h;rw[ea] at eb;cases eb
  unfold mm2
  by_cases c:a<b
  ·rw[Ck (by omega),C1 (by omega)];exact⟨c,false,n,ea,eb⟩
  ·rw[Nat.min_eq_right (by omega),Dc (by omega)];exact⟨by show b<a;omega,true,n,eb,ea⟩
 refine⟨hp,hp.nodup_iff.mpr I.nd,fun p h=>?_,fun p h=>?_⟩
 ·rcases Al.mp h with h | h
  ·rw[<-eR] at h;exact I.lt p (BX.mp h).1
  ·rcases As.mp h with rfl | h
   ·exact(two _ _ pa.1 pb.2).1
   ·rw[AC.mp h];exact(two _ _ pb.1 pa.2).1
 ·rcases Al.mp h with h | h
  ·rw[<-eR] at h;exact I.at_ p (BX.mp h).1
  ·rcases As.mp h with rfl | h
   ·exact(two _ _ pa.1 pb.2).2
   ·rw[AC.mp h];exact(two _ _ pb.1 pa.2).2
theorem LkI.perm{ks:List Kn}{l m:List (Nat×Nat)}(I:LkI ks l)(p:m.Perm l):LkI ks m:=⟨(ab1 p).nodup_iff.mpr I.nd,fun x hx=>I.lt x (p.mem_iff.mp hx),fun x hx=>I.at_ x (p.mem_iff.mp hx)⟩
def abp:Sp3:=fun ys L Q=>∃a l,∃ks:List Kn,∃lk:List (Nat×Nat),∃one two:Int,ys=[.ref a,.ref l,.int one,.int two]/\L a=some (.lst (ksY ks))/\L l=some (.lst (zg lk))/\LkI ks lk/\lk≠[]/\lk.length≤900/\ks.length≤1000/\
 Q (.ref l) L/\∀D lk',L D=none->LkI ks lk'->lk'.length=lk.length->(j4 lk').Perm (j4 lk)->lk'.Pairwise ahy->Q (.ref D) (qh L D (.lst (zg lk')))
def af2(ks:List Kn)(p:Nat):Str:=match ks[p]? with
 |some (.lf _ n)=>n
 |_ => ""
theorem agv{ks:List Kn}{p:Nat}{t:Bool}{n:Str}(e:ks[p]?=some (.lf t n)):af2 ks p=n:=by unfold af2;rw[e]
theorem auh{l:List (Nat×Nat)}{i:Nat}{x:Nat×Nat}(h:l[i]?=some x):(zg l)[i]?=some (prN x):=by rw[Ap,h];rfl
def awj:TS3:=(qt (zm (yLC 1 (xg (qb 1)) (qi 12) (ac1 (yB (yOp (yEq true) (qb 12) (qb 4))) (yB (yOp (yEq true) (qb 12) (qb 6)))) (qb 12)) (qi 11))
 (jo (yCB abe (qa (yOp vt (qb 11) (xa (qa (jw (qa (yCB am7 (qa (qb 7) (qa (qb 10) qj))) (qa (yCB amm (qa (qb 7) (qa (qb 10) qj))) qj))) (qa (jw (qa (yCB am7 (qa (qb 9) (qa (qb 8) qj))) (qa (yCB amm (qa (qb 9) (qa (qb 8) qj))) qj))) qj)))) qj))))
theorem abk{En:Ends3}{c0 c2 c3 c5:Option Y}{l:Addr}{x y:Nat×Nat}{A B C D:Nat}{lk:List (Nat×Nat)}{L:LHp}(hl:L l=some (.lst (zg lk)))(hz:lk.length≤900)
 (nd:((lk.filter fun z=>decide (z≠x)&&decide (z≠y))++[mm2 A D,mm2 C B]).Nodup) (hb:∀p∈(lk.filter fun z=>decide (z≠x)&&decide (z≠y))++[mm2 A D,mm2 C B],p.2<1000000)
 (q:∀L' Dd qs,LSub L L'->L' Dd=none->qs.Perm ((lk.filter fun z=>decide (z≠x)&&decide (z≠y))++[mm2 A D,mm2 C B])->qs.Pairwise ahy->En.rt (.ref Dd) (qh L' Dd (.lst (zg qs)))):
 awj En [c0,some (.ref l),c2,c3,some (prN x),c5,some (prN y),some (.int (A:Int)),some (.int (B:Int)),some (.int (C:Int)),some (.int (D:Int)),none] L:=by
 have big:=bg_;refine jn hl fun keep kp=>apy (f:=fun z=>decide (z≠x)&&decide (z≠y)) (by omega) (kp _ rfl) (fun i pr R zs ep hy hno=>?_) fun p hp=>?_
 ·refine⟨rfl,rfl,1,1,aga pr,aga x,by decide,afe pr,afe x,?_⟩;rw[al4]
  by_cases c:pr=x
  ·refine wo (by rw[AD c];rfl) (hno (by rw[Aq (by simpa using c)];rfl))
  ·refine aai (by rw[Aq c];rfl) ?_;refine⟨rfl,rfl,1,1,aga pr,aga y,by decide,afe pr,afe y,?_⟩;rw[al4]
   by_cases c2:pr=y
   ·refine wo (by rw[AD c2];rfl) (hno (by rw[Aq (by simpa using c2:¬pr≠y),CO]))
   ·refine aai (by rw[Aq c2];rfl) (hy (by rw[AD c,AD c2];rfl))
 obtain⟨rs,ers⟩:∃rs,rs=lk.filter fun z=>decide (z≠x)&&decide (z≠y):=⟨_,rfl⟩;rw[<-ers] at nd hb q ⊢;have lr:rs.length≤lk.length:=by rw[ers];exact CZ ..
 intro p2 hp2;have e1:(Y.tup [.int (min (A:Int) (D:Int)),.int (max (A:Int) (D:Int))])=prN (mm2 A D):=by
  have e2:min (A:Int) (D:Int)=((min A D:Nat):Int):=by omega
  have e3:max (A:Int) (D:Int)=((max A D:Nat):Int):=by omega
  unfold prN mm2;rw[e2,e3]
 have e2:(Y.tup [.int (min (C:Int) (B:Int)),.int (max (C:Int) (B:Int))])=prN (mm2 C B):=by
  have e2:min (C:Int) (B:Int)=((min C B:Nat):Int):=by omega
  have e3:max (C:Int) (B:Int)=((max C B:Nat):Int):=by omega
  unfold prN mm2;rw[e2,e3]
 have h2:qh (qh L p (.lst (zg rs))) p2 (.lst [Y.tup [.int (min (A:Int) (D:Int)),.int (max (A:Int) (D:Int))],Y.tup [.int (min (C:Int) (B:Int)),.int (max (C:Int) (B:Int))]]) p2=some (.lst (zg [mm2 A D,mm2 C B])):=by rw[q9,e1,e2];rfl
 have np:p≠p2:=neL q9 hp2;have h1:qh (qh L p (.lst (zg rs))) p2 (.lst [Y.tup [.int (min (A:Int) (D:Int)),.int (max (A:Int) (D:Int))],Y.tup [.int (min (C:Int) (B:Int)),.int (max (C:Int) (B:Int))]]) p=some (.lst (zg rs)):=(qd np).trans q9;have sL:LSub L (qh (qh L p (.lst (zg rs))) p2 (.lst [Y.tup [.int (min (A:Int) (D:Int)),.int (max (A:Int) (D:Int))],Y.tup [.int (min (C:Int) (B:Int)),.int (max (C:Int) (B:Int))]])):=(LSub.new hp).trans (LSub.new hp2);refine⟨_,_,h1,h2,?_,fun p3 hp3=>?_⟩
 ·rw[Ae,Ae];exact Bv (big _ (by simp;omega))
 generalize qh (qh L p (.lst (zg rs))) p2 (.lst [Y.tup [.int (min (A:Int) (D:Int)),.int (max (A:Int) (D:Int))],Y.tup [.int (min (C:Int) (B:Int)),.int (max (C:Int) (B:Int))]])=L1 at h1 h2 sL hp3 ⊢;have ea:zg rs++zg [mm2 A D,mm2 C B]=zg (rs++[mm2 A D,mm2 C B]):=by unfold zg;rw[AG]
 rw[ea];dsimp only[qj];refine an3 (ps:=rs++[mm2 A D,mm2 C B]) q9 hb nd (by rw[Ad];show rs.length+2≤_;omega) fun Dd qs hD pm pw=>?_;exact q _ Dd qs (sL.trans (LSub.new hp3)) hD pm pw
theorem aoo:∀ys L Q,abp ys L Q->w9 ac9 12 ys L Q:=by
 rintro ys L Q ⟨a,l,ks,lk,one,two,rfl,ha,hl,I,ne,hz,hn,q0,q⟩;have big:=bg_;have lpos:0<lk.length:=Dg.mpr ne;obtain⟨j1,x,e1,h1,ex⟩:=af6 lpos one;have pl:(zg lk).length=lk.length:=Ae ..;have mx:=AM ex;obtain⟨t,n,x1,x2⟩:=I.at_ x mx;refine qe hl ⟨by show(0:Int)<((zg lk).length:Int);rw[pl];omega,qe hl (qp (by rw[pl,e1];exact xu (auh ex):atI (zg lk) (one % ((zg lk).length:Int))=some (prN x)) ?_)⟩;refine jn hl fun keep kp=>apy (f:=fun z=>decide (z≠x)&&decide (af2 ks z.1=af2 ks x.1)) (by omega) (kp _ rfl) (fun i pr R zs ep hy hno=>?_) fun p hp=>?_
 ·obtain⟨t2,n2,p1,p2⟩:=I.at_ pr (AM ep);refine⟨rfl,rfl,1,1,aga pr,aga x,by decide,afe pr,afe x,?_⟩;rw[al4]
  by_cases c:pr=x
  ·refine wo (by rw[AD c];rfl) (hno (by rw[Aq (by simpa using c)];rfl))
  ·refine aai (by rw[Aq c];rfl) ?_;refine qe ha (qp (kz p1) ?_);refine qe ha (qp (kz x1) ?_);have en:(decide (af2 ks pr.1=af2 ks x.1))=decide (n2=n):=by rw[agv p1,agv x1]
   refine zu (fun h=>hy ?_) (fun h=>hno ?_)
   ·rw[en,AD h,AD c];rfl
   ·rw[en,Aq h,CO]
 have np:l≠p:=neL hl hp;have s1:LSub L (qh L p (.lst (zg (lk.filter fun z=>decide (z≠x)&&decide (af2 ks z.1=af2 ks x.1))))):=LSub.new hp;have g1:qh L p (.lst (zg (lk.filter fun z=>decide (z≠x)&&decide (af2 ks z.1=af2 ks x.1)))) p=some (.lst (zg (lk.filter fun z=>decide (z≠x)&&decide (af2 ks z.1=af2 ks x.1)))):=q9;obtain⟨mt,emt⟩:∃mt,mt=lk.filter fun z=>decide (z≠x)&&decide (af2 ks z.1=af2 ks x.1):=⟨_,rfl⟩;rw[<-emt] at s1 g1 ⊢;have lm:mt.length≤lk.length:=by rw[emt];exact CZ ..
 generalize qh L p (.lst (zg mt))=L1 at s1 g1 ⊢;intro p2 hp2;refine ac4 (n:=1) (m:=0) (by decide) (LSub.new hp2 _ _ g1) q9 (am4 mt) (.nil:Paired (DatN _ 0) _ []) ?_;have s2:LSub L (qh L1 p2 (.lst [])):=s1.trans (LSub.new hp2);have g2:qh L1 p2 (.lst []) p=some (.lst (zg mt)):=LSub.new hp2 _ _ g1;generalize qh L1 p2 (.lst [])=L2 at s2 g2 ⊢;show vm (Da.eqs (mt.map aga) []) _ _;rw[ax3]
 by_cases cm:mt=[]
 ·refine aai (by rw[AD cm]) ?_;exact⟨L,s2,q0⟩
 refine wo (by rw[Aq cm]) ?_;obtain⟨j2,y,e2,h2,ey⟩:=af6 (Dg.mpr cm) two;have pm:(zg mt).length=mt.length:=Ae ..;have my:=AM ey;rw[emt] at my;obtain⟨my,cy⟩:=BX.mp my;rw[AX,Dr,Dr] at cy;obtain⟨u,n',y1,y2⟩:=I.at_ y my;have enn:n'=n:=by rw[<-agv y1,<-agv x1];exact cy.2
 subst enn;have hl2:=s2 _ _ hl;have ha2:=s2 _ _ ha;refine qe g2 ⟨by show(0:Int)<((zg mt).length:Int);rw[pm];have:=Dg.mpr cm;omega,qe g2 (qp (by rw[pm,e2];exact xu (auh ey):atI (zg mt) (two % ((zg mt).length:Int))=some (prN y)) ?_)⟩;obtain⟨cp,cI⟩:=I.cross mx my (AK cy.1) x1 x2 y1 y2;have tail:∀L' Dd qs,LSub L2 L'->L' Dd=none->qs.Perm ((lk.filter fun z=>decide (z≠x)&&decide (z≠y))++[mm2 (j8 t x).1 (j8 u y).2,mm2 (j8 u y).1 (j8 t x).2])->qs.Pairwise ahy->aiu Q (.ref Dd) (qh L' Dd (.lst (zg qs))):=fun L' Dd qs sl hD pq pw=>by
  have hD0:L Dd=none:=s2.none (sl.none hD);refine⟨qh L Dd (.lst (zg qs)),fun b o e=>?_,q Dd qs hD0 (cI.perm pq) ?_ ((ab1 pq).trans cp) pw⟩
  ·by_cases c:b=Dd
   ·subst c;rw[q9] at e ⊢;exact e
   ·rw[qd c] at e ⊢;exact sl _ _ (s2 _ _ e)
  ·have l1:=cp.length_eq;rw[jp,jp] at l1;rw[pq.length_eq];omega
 have nd2:=vv cI.nd;have hb2:∀p∈(lk.filter fun z=>decide (z≠x)&&decide (z≠y))++[mm2 (j8 t x).1 (j8 u y).2,mm2 (j8 u y).1 (j8 t x).2],p.2<1000000:=fun p hp=>by
  obtain⟨_,_,_,h⟩:=cI.at_ p hp;have:=jf h;omega
 refine qe ha2 (qp (kz x1) ?_);cases t with
 |false=>
  refine qe ha2 (qp (kz y1) ?_);cases u with
  |false=>exact abk hl2 hz nd2 hb2 tail
  |true=>exact abk hl2 hz nd2 hb2 tail
 |true=>
  refine qe ha2 (qp (kz y1) ?_);cases u with
  |false=>exact abk hl2 hz nd2 hb2 tail
  |true=>exact abk hl2 hz nd2 hb2 tail
def ah4(p__law_mix:Sp3)(p__law_tree:Sp3)(p__law_told:Sp3)(p__law_crossed:Sp3)(p__law_recast:Sp3)(p__law_gapped:Sp3):TS3:=(qt (zm (zb p__law_mix (qa (qb 1) (qa (yC (.int 5)) (qa (yC (.int 16807)) qj)))) (qi 4))
 (qt (zm (yOp (yEq false) (yOp vk (qb 4) (yC (.int 4))) (yC (.int 1))) (qi 5))
 (aci (jt (yB (qb 5)) (zm (yCB am7 (qa (qb 2) (qa (yC (.int 57)) qj))) (qi 2)) je)
 (qt (zm (zb p__law_tree (qa (qb 0) (qa (qb 1) (qa (qb 2) qj)))) (vg 2 (za (qi 6) (za (qi 7) xt))))
 (qt (zm (zb p__law_told (qa (qb 7) qj)) (vg 2 (za (qi 8) (za (qi 9) xt))))
 (qt (ac3 (adn (qa (yOp vk (yOp aan (qb 4) (yC (.int 4))) (yC (.int 3))) qj)) (qi 10) (zm (zb p__law_crossed (qa (qb 6) (qa (qb 8) (qa (zb p__law_mix (qa (qb 1) (qa (yOp vt (yC (.int 11)) (qb 10)) (qa (yC (.int 16807)) qj)))) (qa (zb p__law_mix (qa (qb 1) (qa (yOp vt (yC (.int 17)) (qb 10)) (qa (yC (.int 40692)) qj)))) qj))))) (qi 8)))
 (aci (jt (yB (yOp (yEq false) (yOp vk (yOp aan (qb 4) (yC (.int 12))) (yC (.int 2))) (yC (.int 1)))) (zm (zb p__law_recast (qa (qb 6) (qa (qb 9) (qa (qb 1) (qa (qb 3) qj))))) (qi 6)) je)
 (jo (zb p__law_gapped (qa (qb 6) (qa (qb 8) (qa (qb 9) (qa (qb 1) (qa (qb 5) qj))))))))))))))
theorem ab9:∀R:Ru,rsz R+1≤(zj R).length
 |.link _ _=>An _
 |.ei r A=>by
  have:=ab9 A;show rsz A+1+1≤(r::zj A).length;rw[AF];omega
 |.bo r A B=>by
  have:=ab9 A;have:=ab9 B;show rsz A+rsz B+1+1≤(r::(zj A++zj B)).length;rw[AF,Ad];omega
 |.cu _ _ A B=>by
  have:=ab9 A;have:=ab9 B;show rsz A+rsz B+1+1≤(zj A++zj B).length;rw[Ad];omega
theorem v0:∀R:Ru,∃rest,(j4 (zp R)++rest).Perm (zj R)
 |.link p q=>⟨[],.refl _⟩
 |.ei r A=>by
  obtain⟨u,h⟩:=v0 A;exact⟨r::u,BR.trans (h.cons r)⟩
 |.bo r A B=>by
  obtain⟨u,h⟩:=v0 A;obtain⟨v,k⟩:=v0 B;refine⟨r::(u++v),?_⟩;show(j4 (zp A++zp B)++r::(u++v)).Perm (r::(zj A++zj B));rw[xc];refine BR.trans (List.Perm.cons r ?_);refine List.Perm.trans ?_ (h.append k);rw[Ay,Ay];refine C0 _ ?_;rw[<-Ay,<-Ay];exact CU _ A8
 |.cu p q A B=>by
  obtain⟨u,h⟩:=v0 A;obtain⟨v,k⟩:=v0 B;refine⟨u++v,?_⟩;show(j4 (zp A++zp B)++(u++v)).Perm (zj A++zj B);rw[xc];refine List.Perm.trans ?_ (h.append k);rw[Ay,Ay];refine C0 _ ?_;rw[<-Ay,<-Ay];exact CU _ A8
theorem SR.links{ks:List Kn}{R:Ru}{E:List Nat}(h:SR ks R E):∀p∈zp R,p.1<p.2/\∃t n,ks[p.1]?=some (.lf t n)/\ks[p.2]?=some (.lf (!t) n):=by
 induction h with
 |@link p q t n E h1 h2 h3 h4 h5=>intro x hx;rw[AC.mp hx];exact⟨h1,t,n,h2,h3⟩
 |ei _ _ _ _ _ _ _ ih=>exact ih
 |bo _ _ _ _ _ _ _ ih1 ih2=>intro x hx;exact(Al.mp hx).elim (ih1 x) (ih2 x)
 |cu _ _ _ _ _ _ _ _ ih1 ih2=>intro x hx;exact(Al.mp hx).elim (ih1 x) (ih2 x)
theorem SR.lkI{ks:List Kn}{R:Ru}{E:List Nat}(h:SR ks R E)(nd:(zj R).Nodup):LkI ks (zp R):=by
 obtain⟨u,hu⟩:=v0 R;exact⟨(AI.mp (hu.nodup_iff.mpr nd)).1,fun p hp=>(h.links p hp).1,fun p hp=>(h.links p hp).2⟩
theorem SR.cuts{ks:List Kn}{R:Ru}{E:List Nat}(h:SR ks R E):(zj R).Nodup->(j4 (j5 R)).Nodup/\(∀x∈j4 (j5 R),x∉E/\x∈zj R):=by
 induction h with
 |link _ _ _ _ _=>exact fun _=>⟨Dp,fun x hx=>by cases hx⟩
 |@ei r i j A EA E h1 h2 h3 h4 h5 h6 h7 ih=>
  intro nd;obtain⟨n1,n2⟩:=Au.mp (show(r::zj A).Nodup from nd);obtain⟨a,b⟩:=ih n2;refine⟨a,fun x hx=>⟨fun hE=>?_,Ai _ (b x hx).2⟩⟩;rcases (h6 x).mp hE with⟨z,_⟩ | rfl
  ·exact(b x hx).1 z
  ·exact n1 (b x hx).2
 |@bo r i j A B EA EB E h1 h2 h3 h4 h5 h6 h7 ih1 ih2=>
  intro nd;obtain⟨n1,n2⟩:=Au.mp (show(r::(zj A++zj B)).Nodup from nd);obtain⟨m1,m2,m3⟩:=AI.mp n2;obtain⟨a1,b1⟩:=ih1 m1;obtain⟨a2,b2⟩:=ih2 m2;have sA:=h2.sub;have sB:=h3.sub;show(j4 (j5 A++j5 B)).Nodup/\∀x∈j4 (j5 A++j5 B),x∉E/\x∈r::(zj A++zj B);rw[xc];refine⟨AI.mpr ⟨a1,a2,fun x hx y hy=>m3 x (b1 x hx).2 y (b2 y hy).2⟩,fun x hx=>?_⟩;rcases Al.mp hx with hx | hx
  ·refine⟨fun hE=>?_,Ai _ (Aw _ (b1 x hx).2)⟩;rcases (h6 x).mp hE with⟨z,_⟩ | ⟨z,_⟩ | rfl
   ·exact(b1 x hx).1 z
   ·exact m3 x (b1 x hx).2 x (sB x z) rfl
   ·exact n1 (Aw _ (b1 _ hx).2)
  ·refine⟨fun hE=>?_,Ai _ (Ag _ (b2 x hx).2)⟩;rcases (h6 x).mp hE with⟨z,_⟩ | ⟨z,_⟩ | rfl
   ·exact m3 x (sA x z) x (b2 x hx).2 rfl
   ·exact(b2 x hx).1 z
   ·exact n1 (Ag _ (b2 _ hx).2)
 |@cu p q A B EA EB E w h1 h2 h3 h4 h5 h6 h7 h8 ih1 ih2=>
  intro nd;obtain⟨m1,m2,m3⟩:=AI.mp (show(zj A++zj B).Nodup from nd);obtain⟨a1,b1⟩:=ih1 m1;obtain⟨a2,b2⟩:=ih2 m2;have sA:=h1.sub;have sB:=h2.sub;show(j4 ((p,q)::(j5 A++j5 B))).Nodup/\∀x∈j4 ((p,q)::(j5 A++j5 B)),x∉E/\x∈zj A++zj B;rw[xf,xc];have tp:=sA p h3;have tq:=sB q h4;have npq:p≠q:=fun e=>m3 p tp q tq e;have out:∀x,x∈j4 (j5 A)++j4 (j5 B)->x≠p/\x≠q:=fun x hx=>by
   rcases Al.mp hx with hx | hx
   ·exact⟨fun e=>(b1 x hx).1 (e▸h3),fun e=>m3 x (b1 x hx).2 q tq e⟩
   ·exact⟨fun e=>m3 p tp x (b2 x hx).2 e.symm,fun e=>(b2 x hx).1 (e▸h4)⟩
  refine⟨Au.mpr ⟨fun h=>?_,Au.mpr ⟨fun h=>(out q h).2 rfl,AI.mpr ⟨a1,a2,fun x hx y hy=>m3 x (b1 x hx).2 y (b2 y hy).2⟩⟩⟩,fun x hx=>?_⟩
  ·rcases As.mp h with h | h
   ·exact npq h
   ·exact(out p h).1 rfl
  ·have inE:x∈E->(x∈EA/\x≠p)\/(x∈EB/\x≠q):=(h7 x).mp;rcases As.mp hx with rfl | hx
   ·exact⟨fun hE=>(inE hE).elim (fun z=>z.2 rfl) fun z=>m3 x tp x (sB x z.1) rfl,Aw _ tp⟩
   ·rcases As.mp hx with rfl | hx
    ·exact⟨fun hE=>(inE hE).elim (fun z=>m3 x (sA x z.1) x tq rfl) fun z=>z.2 rfl,Ag _ tq⟩
    ·rcases Al.mp hx with hx | hx
     ·exact⟨fun hE=>(inE hE).elim (fun z=>(b1 x hx).1 z.1) fun z=>m3 x (b1 x hx).2 x (sB x z.1) rfl,Aw _ (b1 x hx).2⟩
     ·exact⟨fun hE=>(inE hE).elim (fun z=>m3 x (sA x z.1) x (b2 x hx).2 rfl) fun z=>(b2 x hx).1 z.1,Ag _ (b2 x hx).2⟩
structure WebF(wd:List (Option Kn))(lk' ct':List (Nat×Nat)):Prop where
 ex:∃(ks:List Kn) (R:Ru) (E:List Nat) (lk ct:List (Nat×Nat)) (out:List (Option Kn)) (f:Nat->Nat),KnOk ks/\SR ks R E/\(zj R).Perm (List.range ks.length)/\ks.length≤120/\
  LkI ks lk/\(j4 lk).Perm (j4 (zp R))/\ct.Perm (j5 R)/\(out=ks.map some\/∃qs,BenI ks ct qs []/\RecT ks qs ks.length out)/\Ren f out wd/\lk'.Perm (lk.map (mmP f))/\lk'.Pairwise ahy/\ct'.Perm (ct.map (ppP f))/\ct'.Pairwise ahy
theorem RecT.okO{ks:List Kn}{qs:List Nat}{out:List (Option Kn)}(ok:KnOk ks)(T:RecT ks qs ks.length out):OkO out:=by
 intro p e i j h;have hp:p<ks.length:=by have:=jf h;rw[T.len] at this;exact this
 cases ek:ks[p]? with
 |none=>rw[Aj hp] at ek;cases ek
 |some k=>
  cases k with
  |lf t n=>
   have:=T.lf p t n hp ek;rw[h] at this;cases this
  |nd e' i' j'=>
   have lt:i'<p/\j'<p:=ok p _ ek;rcases T.nd p e' i' j' hp ek with⟨z,_⟩ | ⟨e2,z⟩
   ·rw[h] at z;cases z
   ·rw[h] at z;cases z;exact lt
theorem ahh{ks:List Kn}(ok:KnOk ks):OkO (ks.map some):=by
 intro p e i j h;rw[Ap] at h;obtain⟨k,ek,e1⟩:=Ar.mp h;cases e1;exact ok p _ ek
theorem amd(ks:List Kn):osY (ks.map some)=ksY ks:=by
 show(ks.map some).map aik=ks.map ajw;rw[BI];rfl
theorem amj(ks:List Kn):∀l:List (Nat×Nat),2*l.length≤aay (szK ks) l:=fun l=>by
 have:=ae9 ks (j4 l);rw[aag,jp] at this;exact this
theorem aq3{f:Nat->Nat}{l m:List (Nat×Nat)}(h:l.Perm m):aay f l=aay f m:=by
 rw[<-aag,<-aag];exact((ab1 h).map f).sum_nat
def ak2(Pt:Addr):Sp3:=fun ys L Q=>∃cy,∃ns:List Int,∃s m:Int,∃room:Nat,ys=[cy,.int s,.int (room:Int),.int m]/\cy=.sq (ns.map Y.int)/\ns.length≤1000/\room≤120/\L Pt=some (.tb lamQ)/\
 ∀wa la ca wd lk ct L',WebF wd lk ct->LSub L L'->L wa=none->L la=none->L ca=none->wa≠la->wa≠ca->la≠ca->L' wa=some (.lst (osY wd))->L' la=some (.lst (zg lk))->L' ca=some (.lst (zg ct))->Q (ag8 wa la ca) L'
theorem az0{Pt:Addr}:∀ys L Q,ak2 Pt ys L Q->w9 (ah4 aa4 ah2 agk abp acw (acy Pt)) 11 ys L Q:=by
 rintro ys L Q ⟨cy,ns,s,m,room,rfl,hcy,hns,hroom,hP,q⟩;have big:=bg_;refine⟨s,5,16807,rfl,by decide,by decide,by decide,by decide,fun v h0 h1=>?_⟩;refine⟨show(0:Int)<4 by decide,?_⟩;refine⟨fun τ' L'=>∃room':Nat,room'≤120/\τ'=[some cy,some (.int s),some (.int (room':Int)),some (.int m),some (.int v),some (.bl (decide (v % 4=1))),none,none,none,none,none]/\L'=L,?_,?_⟩
 ·refine zu (fun h=>?_) (fun h=>?_)
  ·refine⟨min room 57,by omega,?_,rfl⟩;have e:min (room:Int) 57=((min room 57:Nat):Int):=by omega
   rw[<-e,AD h];rfl
  ·exact⟨room,hroom,by rw[Aq h];rfl,rfl⟩
 rintro τ' L' ⟨room',hr,rfl,rfl⟩;refine⟨cy,ns,s,room',rfl,hcy,hns,hr,fun ka ks R E hka ok SRh tp kl=>?_⟩;have hk120:ks.length≤120:=by omega
 have tl:(zj R).length=ks.length:=by rw[tp.length_eq,BZ]
 have tn:(zj R).Nodup:=tp.nodup_iff.mpr C2;have tlt:∀x∈zj R,x<ks.length:=fun x hx=>Bb.mp (tp.mem_iff.mp hx);have LI:=SRh.lkI tn;obtain⟨cn,cin⟩:=SRh.cuts tn;have wgt:=SRh.weight ok;have csz:aay (szK ks) (j5 R)≤120:=by omega
 have cl:=amj ks (j5 R);have clt:∀x∈j5 R,x.1<ks.length/\x.2<ks.length:=fun x hx=>⟨tlt _ (cin _ (acf hx).1).2,tlt _ (cin _ (acf hx).2).2⟩;have ll:2*(zp R).length≤ks.length:=by
  obtain⟨u,hu⟩:=v0 R;have:=hu.length_eq;rw[Ad,jp] at this;omega
 have llt:∀x∈zp R,x.1<ks.length/\x.2<ks.length:=fun x hx=>by
  obtain⟨_,t,n,a,b⟩:=SRh.links x hx;exact⟨jf a,jf b⟩
 have lne:zp R≠[]:=by
  have:∀R:Ru,1≤(zp R).length:=fun R=>by
   induction R with
   |link p q=>exact An _
   |ei r A ih=>exact ih
   |bo r A B ih _=>show 1≤(zp A++zp B).length;rw[Ad];omega
   |cu p q A B ih _=>show 1≤(zp A++zp B).length;rw[Ad];omega
  intro e;have:=this R;rw[e] at this;simp at this
 have s1:LSub L' (qh L' ka (.lst (ksY ks))):=LSub.new hka;have rd:=wf R;have rz:=ab9 R;refine⟨R,rfl,by omega,by omega,vv LI.nd,vv cn,fun p hp=>by have:=(llt p hp).2;omega,fun p hp=>by have:=(clt p hp).2;omega,by omega,by omega,fun la ca lk ct hla hca nlc pl pw1 pc pw2=>?_⟩;have nka:ka≠la:=neL q9 hla;have nkc:ka≠ca:=neL q9 hca;have hca':(qh (qh L' ka (.lst (ksY ks))) la (.lst (zg lk))) ca=none:=(qd (AK nlc)).trans hca;have s2:LSub L' (qh (qh (qh L' ka (.lst (ksY ks))) la (.lst (zg lk))) ca (.lst (zg ct))):=(s1.trans (LSub.new hla)).trans (LSub.new hca');have g1:qh (qh (qh L' ka (.lst (ksY ks))) la (.lst (zg lk))) ca (.lst (zg ct)) ka=some (.lst (ksY ks)):=(qd nkc).trans ((qd nka).trans q9);have g2:qh (qh (qh L' ka (.lst (ksY ks))) la (.lst (zg lk))) ca (.lst (zg ct)) la=some (.lst (zg lk)):=(qd nlc).trans q9;have g3:qh (qh (qh L' ka (.lst (ksY ks))) la (.lst (zg lk))) ca (.lst (zg ct)) ca=some (.lst (zg ct)):=q9;generalize qh (qh (qh L' ka (.lst (ksY ks))) la (.lst (zg lk))) ca (.lst (zg ct))=L1 at s2 g1 g2 g3 ⊢;have b0:(0:Int)≤v / 4 % 3:=Df _ (by decide);have b1:v / 4 % 3<3:=Dq _ (by decide);have rng:∃r:Nat,v / 4 % 3=(r:Int)/\r<3:=⟨(v / 4 % 3).toNat,by omega,by omega⟩;obtain⟨r,er,hr3⟩:=rng;have lenP:∀l2:List (Nat×Nat),(j4 l2).Perm (j4 (zp R))->l2.length=(zp R).length:=fun l2 p=>by
  have:=p.length_eq;rw[jp,jp] at this;omega
 refine⟨⟨by decide,by decide⟩,show(0:Int)<3 by decide,⟨by omega,by omega⟩,?_⟩;refine ap5 (fun i τ L2=>∃l lk2 c10,τ=[some cy,some (.int s),some (.int (room':Int)),some (.int m),some (.int v),some (.bl (decide (v % 4=1))),some (.ref ka),some (qz R),some (.ref l),some (.ref ca),c10]/\LSub L' L2/\L2 ka=some (.lst (ksY ks))/\L2 l=some (.lst (zg lk2))/\L2 ca=some (.lst (zg ct))/\LkI ks lk2/\(j4 lk2).Perm (j4 (zp R))) ⟨la,lk,_,rfl,s2,g1,g2,g3,LI.perm pl,ab1 pl⟩ ?_ ?_
 ·rintro i τ L2 hi ⟨l,lk2,c10,rfl,s3,k1,k2,k3,I2,p2⟩;have l2:=lenP lk2 p2;refine⟨s,11+(0+(i:Int)),16807,rfl,by omega,by omega,by decide,by decide,fun v1 _ _=>?_⟩;refine⟨s,17+(0+(i:Int)),40692,rfl,by omega,by omega,by decide,by decide,fun v2 _ _=>?_⟩;refine⟨ka,l,ks,lk2,v1,v2,rfl,k1,k2,I2,fun e=>?_,by omega,by omega,?_,fun D lk3 hD I3 l3 p3 pw3=>?_⟩
  ·rw[e] at l2;exact lne (Cg l2.symm)
  ·exact⟨_,LSub.refl _,l,lk2,_,rfl,s3,k1,k2,k3,I2,p2⟩
  ·have nkD:ka≠D:=neL k1 hD;have ncD:ca≠D:=neL k3 hD;exact⟨_,LSub.refl _,D,lk3,_,rfl,s3.trans (LSub.new hD),(qd nkD).trans k1,q9,(qd ncD).trans k3,I3,p3.trans p2⟩
 rintro τ L2 ⟨l,lk2,c10,rfl,s3,k1,k2,k3,I2,p2⟩;have l2:=lenP lk2 p2;have lc:ct.length=(j5 R).length:=pc.length_eq;have clt2:∀x∈ct,x.1<ks.length/\x.2<ks.length:=fun x hx=>clt x (pc.mem_iff.mp hx);refine⟨fun τ' L3=>∃kb out,τ'=[some cy,some (.int s),some (.int (room':Int)),some (.int m),some (.int v),some (.bl (decide (v % 4=1))),some (.ref kb),some (qz R),some (.ref l),some (.ref ca),c10]/\LSub L' L3/\L3 kb=some (.lst (osY out))/\L3 l=some (.lst (zg lk2))/\L3 ca=some (.lst (zg ct))/\(out=ks.map some\/∃qs,BenI ks ct qs []/\RecT ks qs ks.length out),?_,?_⟩
 ·refine⟨⟨by decide,by decide⟩,show(0:Int)<2 by decide,?_⟩;refine zu (fun h=>?_) (fun h=>?_)
  ·refine⟨ka,ca,ks,ct,s,m,rfl,k1,k3,ok,clt2,by rw[aq3 pc];omega,by omega,fun D qs out hD B T=>?_⟩;exact⟨D,out,rfl,s3.trans (LSub.new hD),q9,(qd (neL k2 hD)).trans k2,(qd (neL k3 hD)).trans k3,.inr ⟨qs,B,T⟩⟩
  ·exact⟨ka,ks.map some,rfl,s3,by rw[amd];exact k1,k2,k3,.inl rfl⟩
 rintro τ' L3 ⟨kb,out,rfl,s4,j1,j2,j3,ho⟩;have okO:OkO out:=by
  rcases ho with rfl | ⟨qs,B,T⟩
  ·exact ahh ok
  ·exact T.okO ok
 have lo:out.length=ks.length:=by
  rcases ho with rfl | ⟨qs,B,T⟩
  ·exact Ae ..
  ·exact T.len
 refine⟨kb,l,ca,out,lk2,ct,s,_,rfl,j1,j2,j3,okO,by omega,s4 _ _ hP,vv I2.nd,fun p hp=>⟨I2.lt p hp,?_⟩,by omega,pc.nodup_iff.mpr (vv cn),fun p hp=>by rw[lo];exact clt2 p hp,by omega,fun f wd lk' ct' wa la' ca' L4 rn pl' pwl pc' pwc sl nw nl nc n1 n2 n3 e1 e2 e3=>?_⟩
 ·obtain⟨_,_,_,h⟩:=I2.at_ p hp;rw[lo];exact jf h
 ·exact fin (q wa la' ca' wd lk' ct' L4 ⟨ks,R,E,lk2,ct,out,f,ok,SRh,tp,hk120,I2,p2,pc,ho,rn,pl',pwl,pc',pwc⟩ (s4.trans sl) (s4.none nw) (s4.none nl) (s4.none nc) n1 n2 n3 e1 e2 e3)
theorem KW.lf{wd:List (Option Kn)}{p:Nat}{t:Bool}{n:Str}(h:wd[p]?=some (some (.lf t n))):KW (osY wd) p (.leaf t n):=by
 show(osY wd)[p]?=_;rw[Ap,h];rfl
theorem KW.nd{wd:List (Option Kn)}{p i j:Nat}{e:Bool}{l r:Wd}(h:wd[p]?=some (some (.nd e i j)))(hl:KW (osY wd) i l)(hr:KW (osY wd) j r):KW (osY wd) p (.node e l r):=
 ⟨i,j,by rw[Ap,h];rfl,hl,hr⟩
theorem aqi{k:Kn}{t:Bool}{n:Str}(h:ajw k=.tup [.str (kL t),.str n]):k=.lf t n:=by
 cases k with
 |lf u m=>
  have h1:kL u=kL t:=by injection h with h;injection h with h _;injection h
  have h2:m=n:=by injection h with h;injection h with _ h;injection h with h _;injection h
  subst h2;cases u<;>cases t<;>first | rfl | (exfalso;revert h1;decide)
 |nd e i j=>injection h with h;injection h with _ h;injection h with _ h;cases h
theorem aqw{k:Kn}{e:Bool}{i j:Nat}(h:ajw k=.tup [.str (kN e),.int (i:Int),.int (j:Int)]):k=.nd e i j:=by
 cases k with
 |lf u m=>injection h with h;injection h with _ h;injection h with _ h;cases h
 |nd b i' j'=>
  have h1:kN b=kN e:=by injection h with h;injection h with h _;injection h
  have h2:((i':Nat):Int)=i:=by injection h with h;injection h with _ h;injection h with h _;injection h
  have h3:((j':Nat):Int)=j:=by injection h with h;injection h with _ h;injection h with _ h;injection h with h _;injection h
  have h2:=Cn.mp h2;have h3:=Cn.mp h3;subst h2 h3;cases b<;>cases e<;>first | rfl | (exfalso;revert h1;decide)
theorem as2{wd:List (Option Kn)}{p:Nat}{y:Y}(h:(osY wd)[p]?=some y):∃o,wd[p]?=some o/\aik o=y:=by
 rw[Ap] at h;obtain⟨o,a,b⟩:=Ar.mp h;exact⟨o,a,b⟩
theorem KW.inv_lf{wd:List (Option Kn)}{p:Nat}{t:Bool}{n:Str}(h:KW (osY wd) p (.leaf t n)):wd[p]?=some (some (.lf t n)):=by
 obtain⟨o,a,b⟩:=as2 (show(osY wd)[p]?=some (.tup [.str (kL t),.str n]) from h);cases o with
 |none=>cases b
 |some k=>rw[a,aqi b]
theorem KW.inv_nd{wd:List (Option Kn)}{p:Nat}{e:Bool}{l r:Wd}(h:KW (osY wd) p (.node e l r)):∃i j,wd[p]?=some (some (.nd e i j))/\KW (osY wd) i l/\KW (osY wd) j r:=by
 obtain⟨i,j,h1,h2,h3⟩:=h;obtain⟨o,a,b⟩:=as2 h1;cases o with
 |none=>cases b
 |some k=>exact⟨i,j,by rw[a,aqw b],h2,h3⟩
theorem KW.dep{wd:List (Option Kn)}(ok:OkO wd):∀{w:Wd} {p:Nat},KW (osY wd) p w->w.depth≤p+1
 |.leaf t n,p,_=>by show 1≤p+1;omega
 |.node e l r,p,h=>by
  obtain⟨i,j,a,hl,hr⟩:=h.inv_nd;have:=ok p e i j a;have:=KW.dep ok hl;have:=KW.dep ok hr;show max l.depth r.depth+1≤p+1;omega
def ai3(wd:List (Option Kn)):Prop:=∀(p:Nat) (e:Bool) (i j:Nat),wd[p]?=some (some (.nd e i j))->(∃k,wd[i]?=some (some k))/\∃k,wd[j]?=some (some k)
theorem ala{wd:List (Option Kn)}(ok:OkO wd)(th:ai3 wd):∀(n p:Nat) (k:Kn),p<n->wd[p]?=some (some k)->∃w,KW (osY wd) p w
 |0,_,_,h,_=>absurd h (Cm _)
 |n+1,p,.lf t m,_,e=>⟨_,KW.lf e⟩
 |n+1,p,.nd b i j,h,e=>by
  have:=ok p b i j e;obtain⟨⟨k1,e1⟩,k2,e2⟩:=th p b i j e;obtain⟨l,hl⟩:=ala ok th n i k1 (by omega) e1;obtain⟨r,hr⟩:=ala ok th n j k2 (by omega) e2;exact⟨_,KW.nd e hl hr⟩
theorem ao1{ks:List Kn}(ok:KnOk ks):ai3 (ks.map some):=by
 intro p e i j h;have lt:=ahh ok p e i j h;have hp:=jf h;rw[Ae] at hp;have at_:∀x,x<ks.length->∃k,(ks.map some)[x]?=some (some k):=fun x hx=>⟨ks[x],by rw[Ap,Aj hx];rfl⟩
 exact⟨at_ i (by omega),at_ j (by omega)⟩
theorem RecT.inv{ks:List Kn}{qs:List Nat}{out:List (Option Kn)}(T:RecT ks qs ks.length out){p i j:Nat}{e:Bool}(h:out[p]?=some (some (.nd e i j))):∃e',ks[p]?=some (.nd e' i j):=by
 have hp:p<ks.length:=by have:=jf h;rw[T.len] at this;exact this
 cases ek:ks[p]? with
 |none=>rw[Aj hp] at ek;cases ek
 |some k=>
  cases k with
  |lf t n=>
   have:=T.lf p t n hp ek;rw[h] at this;cases this
  |nd e' i' j'=>
   rcases T.nd p e' i' j' hp ek with⟨z,_⟩ | ⟨e2,z⟩
   ·rw[h] at z;cases z
   ·rw[h] at z;cases z;exact⟨e',rfl⟩
theorem RecT.there{ks:List Kn}(ok:KnOk ks){qs:List Nat}{out:List (Option Kn)}(T:RecT ks qs ks.length out):ai3 out:=by
 intro p e i j h;obtain⟨e',ek⟩:=T.inv h;have lt:i<p/\j<p:=ok p _ ek;have hp:=jf ek;obtain⟨m1,m2⟩:=asa ek;have at_:∀x,x<ks.length->x∈aa3 ks->∃k,out[x]?=some (some k):=fun x hx hm=>by
  cases ex:ks[x]? with
  |none=>rw[Aj hx] at ex;cases ex
  |some k=>
   cases k with
   |lf t n=>exact⟨_,T.lf x t n hx ex⟩
   |nd b a c=>
    rcases T.nd x b a c hx ex with⟨_,z⟩ | ⟨e2,z⟩
    ·exact absurd hm z
    ·exact⟨_,z⟩
 exact⟨at_ i (by omega) m1,at_ j (by omega) m2⟩
theorem Ren.inv{f:Nat->Nat}{out wd:List (Option Kn)}(r:Ren f out wd){x:Nat}{k:Kn}(h:wd[x]?=some (some k)):∃p,p<out.length/\x=f p/\∃o,out[p]?=some o/\agi f o=some k:=by
 obtain⟨p,hp,e⟩:=r.gap.only x k h;have hp:=Bb.mp hp;have:=r.gap.at_ p (Bb.mpr hp) _ (Aj hp);rw[<-e,h] at this;exact⟨p,hp,e,_,Aj hp,(A6 this).symm⟩
theorem Ren.there{f:Nat->Nat}{out wd:List (Option Kn)}(r:Ren f out wd)(th:ai3 out):ai3 wd:=by
 intro x e i j h;obtain⟨p,hp,rfl,o,eo,ek⟩:=r.inv h;cases o with
 |none=>cases ek
 |some k=>
  cases k with
  |lf t n=>cases ek
  |nd b a c=>
   cases ek;obtain⟨⟨k1,e1⟩,k2,e2⟩:=th p e a c eo;have mv:∀y k,out[y]?=some (some k)->∃k',wd[f y]?=some (some k'):=fun y k ey=>by
    have:=r.gap.at_ y (Bb.mpr (jf ey)) _ ey;cases k with
    |lf t n=>exact⟨_,this⟩
    |nd b a c=>exact⟨_,this⟩
   exact⟨mv a k1 e1,mv c k2 e2⟩
theorem Ren.word{f:Nat->Nat}{out wd:List (Option Kn)}(r:Ren f out wd):∀{w:Wd} {p:Nat},KW (osY out) p w->KW (osY wd) (f p) w
 |.leaf t n,p,h=>by
  have e:=h.inv_lf;exact KW.lf (r.gap.at_ p (Bb.mpr (jf e)) _ e)
 |.node b l rr,p,h=>by
  obtain⟨i,j,e,hl,hr⟩:=h.inv_nd;exact KW.nd (r.gap.at_ p (Bb.mpr (jf e)) _ e) (r.word hl) (r.word hr)
theorem SR.cutw{ks:List Kn}{R:Ru}{E:List Nat}(h:SR ks R E):∀c∈j5 R,∃w,WAt ks c.1 w/\WAt ks c.2 w.turn:=by
 induction h with
 |link _ _ _ _ _=>intro c hc;cases hc
 |ei _ _ _ _ _ _ _ ih=>exact ih
 |bo _ _ _ _ _ _ _ ih1 ih2=>intro x hx;exact(Al.mp hx).elim (ih1 x) (ih2 x)
 |@cu p q A B EA EB E w h1 h2 h3 h4 h5 h6 h7 h8 ih1 ih2=>
  intro x hx;rcases As.mp hx with rfl | hx
  ·exact⟨w,h5,h6⟩
  ·exact(Al.mp hx).elim (ih1 x) (ih2 x)
theorem acx{ks:List Kn}{ct:List (Nat×Nat)}{qs:List Nat}{out:List (Option Kn)}(B:BenI ks ct qs [])(T:RecT ks qs ks.length out):∀{w:Wd} {p:Nat},p∈qs->KW (osY (ks.map some)) p w->KW (osY out) p w
 |.leaf t n,p,hp,h=>by
  have e:=h.inv_lf;rw[Ap] at e;obtain⟨k,ek,e2⟩:=Ar.mp e;cases e2;exact KW.lf (T.kp p hp (jf ek) _ ek)
 |.node b l r,p,hp,h=>by
  obtain⟨i,j,e,hl,hr⟩:=h.inv_nd;rw[Ap] at e;obtain⟨k,ek,e2⟩:=Ar.mp e;cases e2;obtain⟨m1,m2⟩:=B.part p hp _ _ _ ek;have m1:i∈qs:=m1.resolve_right (A5);have m2:j∈qs:=m2.resolve_right (A5);exact KW.nd (T.kp p hp (jf ek) _ ek) (acx B T m1 hl) (acx B T m2 hr)
structure WebI(wd:List (Option Kn))(ct:List (Nat×Nat)):Prop where
 ok:OkO wd
 len:wd.length≤241
 there:ai3 wd
 word:∀x k,wd[x]?=some (some k)->∃w,KW (osY wd) x w/\w.depth≤120
 cut:∀c∈ct,∃w,KW (osY wd) c.1 w/\KW (osY wd) c.2 w.turn/\w.depth≤120
 ctl:ct.length≤60
theorem WebF.webI{wd:List (Option Kn)}{lk ct:List (Nat×Nat)}(W:WebF wd lk ct):WebI wd ct/\lk.length≤60:=by
 obtain⟨ks,R,E,lk0,ct0,out,f,ok,SRh,tp,hk,I,pl,pc,ho,rn,pl',_,pc',_⟩:=W.ex;have okO:OkO out:=by
  rcases ho with rfl | ⟨qs,B,T⟩
  ·exact ahh ok
  ·exact T.okO ok
 have lo:out.length=ks.length:=by
  rcases ho with rfl | ⟨qs,B,T⟩
  ·exact Ae ..
  ·exact T.len
 have th:ai3 out:=by
  rcases ho with rfl | ⟨qs,B,T⟩
  ·exact ao1 ok
  ·exact T.there ok
 have tl:(zj R).length=ks.length:=by rw[tp.length_eq,BZ]
 have wg:=SRh.weight ok;have cl:=amj ks (j5 R);have ll:2*(zp R).length≤ks.length:=by
  obtain⟨u,hu⟩:=v0 R;have:=hu.length_eq;rw[Ad,jp] at this;omega
 have l1:lk.length=(zp R).length:=by
  have h1:=pl'.length_eq;have h2:=pl.length_eq;rw[Ae] at h1;rw[jp,jp] at h2;omega
 have l2:ct.length=(j5 R).length:=by
  have h1:=pc'.length_eq;rw[Ae,pc.length_eq] at h1;exact h1
 refine⟨⟨rn.gap.ok,by have:=rn.len;omega,rn.there th,fun x k e=>?_,fun c hc=>?_,by omega⟩,by omega⟩
 ·obtain⟨p,hp,rfl,o,eo,ek⟩:=rn.inv e;cases o with
  |none=>cases ek
  |some k0=>
   obtain⟨w,hw⟩:=ala okO th (p+1) p k0 (by omega) eo;have:=KW.dep okO hw;exact⟨w,rn.word hw,by omega⟩
 ·obtain⟨c0,hc0,rfl⟩:=BH.mp (pc'.mem_iff.mp hc);obtain⟨w,w1,w2⟩:=SRh.cutw c0 (pc.mem_iff.mp hc0);have q1:KW (osY out) c0.1 w/\KW (osY out) c0.2 w.turn:=by
   have e:∀{p w},WAt ks p w->KW (osY (ks.map some)) p w:=fun h=>by rw[amd];exact h
   rcases ho with rfl | ⟨qs,B,T⟩
   ·exact⟨e w1,e w2⟩
   ·obtain⟨m1,m2⟩:=B.cut c0 hc0;exact⟨acx B T (m1.resolve_right A5) (e w1),acx B T (m2.resolve_right A5) (e w2)⟩
  have hp:c0.1<ks.length:=by
   have:∀{w:Wd} {p:Nat},KW (osY out) p w->p<out.length:=fun {w p} h=>by
    cases w with
    |leaf t n=>exact jf h.inv_lf
    |node e l r=>obtain⟨i,j,a,_⟩:=h.inv_nd;exact jf a
   rw[<-lo];exact this q1.1
  have:=KW.dep okO q1.1;exact⟨w,rn.word q1.1,rn.word q1.2,by omega⟩
def ahx(p_parts_of:Sp3):TS3:=(qt (zm (xa qj) (qi 1))
 (qt (ac3 (xg (qb 0)) (qi 2) (j9 (yBL wx (qb 1) (qa (zb p_parts_of (qa (qb 2) qj)) qj))))
 (jo (qb 1))))
def ajh(p_parts_in:Sp3)(p_places_in:Sp3):TS3:=(qt (zm (yOp yIx (qb 0) (yC (.int 0))) (qi 1))
 (qt (zm (yOp vt (zb p_parts_in (qa (qb 1) qj)) (zb p_places_in (qa (yOp yIx (qb 0) (yC (.int 2))) qj))) (qi 2))
 (jo (yLC 2 (af3 (qb 1)) (vg 2 (za (qi 3) (za (qi 4) xt))) (ac1 (yB (aco true (qb 4))) (yB (yOp (ahw true) (qb 3) (qb 2)))) (qb 3)))))
def afy:TS3:=(jo (jw (qa (yCB ae6 (qa (yOp yIx (qb 0) (yC (.int 0))) qj)) (qa (yCB ae6 (qa (yOp yIx (qb 0) (yC (.int 1))) qj)) (qa (yCB ae6 (qa (yOp yIx (qb 0) (yC (.int 2))) qj)) qj)))))
def vf(wd:List (Option Kn)):List Nat:=wd.flatMap afj
theorem adi(wd:List (Option Kn))(k:Option Kn):vf (wd++[k])=vf wd++afj k:=by
 unfold vf;rw[AO,AS,C3,AR]
theorem aii(k:Option Kn):(afj k).length≤2:=by
 cases k with
 |none=>exact Bf _
 |some k=>cases k with
  |lf t n=>exact Bf _
  |nd e i j=>exact An _
theorem acv(wd:List (Option Kn)):(vf wd).length≤2*wd.length:=by
 induction wd with
 |nil=>exact An _
 |cons k r ih=>
  have e:vf (k::r)=afj k++vf r:=AS ..;have:=aii k;rw[e,Ad,AF];omega
def agn:Sp3:=fun ys L Q=>∃a,∃wd:List (Option Kn),ys=[.ref a]/\L a=some (.lst (osY wd))/\wd.length≤1000/\∀p,L p=none->Q (.ref p) (qh L p (.lst (nY (vf wd))))
theorem avs:∀ys L Q,agn ys L Q->w9 (ahx ae0) 3 ys L Q:=by
 rintro ys L Q ⟨a,wd,rfl,ha,hz,q⟩;have big:=bg_;intro p hp;have s0:LSub L (qh L p (.lst [])):=LSub.new hp;refine jn (s0 _ _ ha) fun keep kp=>xr ⟨fun i τ L'=>∃c2,τ=[some (Y.ref a),some (Y.ref p),c2]/\LSub L L'/\L' p=some (.lst (nY (vf (wd.take i)))),⟨_,rfl,s0,q9⟩,?_,?_,?_⟩
 ·rintro i τ L' ⟨c2,rfl,s,_⟩;exact kp L' (by rw[s _ _ ha,s0 _ _ ha])
 ·rintro i y τ L' hy ⟨c2,rfl,s,g⟩;rw[Ap] at hy;obtain⟨k,ek,rfl⟩:=Ar.mp hy;have et:wd.take (i+1)=wd.take i++[k]:=by rw[Bp,ek];rfl
  have pl:=acv (wd.take i);have pk:=aii k;rw[AL] at pl;refine qe g ⟨k,rfl,fun d hd=>?_⟩;have n1:p≠d:=neL g hd;refine qm ((qd n1).trans g) (qm q9 ⟨?_,?_⟩)
  ·rw[aap,aap];exact Bv (big _ (by omega))
  ·refine⟨_,LSub.refl _,_,rfl,(s.trans (LSub.new hd)).upd hp,?_⟩;rw[q9,et,adi,ky]
 ·rintro τ L' ⟨c2,rfl,s,g⟩;rw[Ae,Bs] at g;refine⟨qh L p (.lst (nY (vf wd))),fun b o e=>?_,q p hp⟩
  by_cases cc:b=p
  ·subst cc;rw[q9] at e;rw[<-e];exact g
  ·rw[qd cc] at e;exact s _ _ e
def aau(wd:List (Option Kn))(p:Nat):Bool:=match wd[p]? with
 |some (some _)=>true
 |_=>false
def abc(wd:List (Option Kn))(us:List Nat)(p:Nat):Bool:=aau wd p&&!(decide (p∈us))
def jq(wd:List (Option Kn))(us:List Nat)(i:Nat):List Nat:=(List.range i).filter (abc wd us)
theorem abl(wd:List (Option Kn))(us:List Nat)(i:Nat):jq wd us (i+1)=jq wd us i++if abc wd us i=true then [i] else []:=by
 unfold jq;rw[DO,Ci];congr 1;rw[List.filter_cons,Cj]
def jh(wd:List (Option Kn))(ct:List (Nat×Nat)):List Nat:=vf wd++j4 ct
def ah1:Sp3:=fun ys L Q=>∃a l c,∃wd:List (Option Kn),∃ct:List (Nat×Nat),ys=[ag8 a l c]/\L a=some (.lst (osY wd))/\L c=some (.lst (zg ct))/\wd.length≤1000/\ct.length≤1000/\∀p,L p=none->Q (.ref p) (qh L p (.lst (nY (jq wd (jh wd ct) wd.length))))
theorem aw3:∀ys L Q,ah1 ys L Q->w9 (ajh agn agy) 3 ys L Q:=by
 rintro ys L Q ⟨a,l,c,wd,ct,rfl,ha,hc,hz,hct,q⟩;have big:=bg_;refine⟨a,wd,rfl,ha,hz,fun p1 hp1=>?_⟩;have s1:LSub L (qh L p1 (.lst (nY (vf wd)))):=LSub.new hp1;refine⟨c,ct,rfl,s1 _ _ hc,hct,fun p2 hp2=>?_⟩;have s2:LSub L (qh (qh L p1 (.lst (nY (vf wd)))) p2 (.lst (nY (j4 ct)))):=s1.trans (LSub.new hp2);have n12:p1≠p2:=neL q9 hp2;have pl:=acv wd;have cl:=jp ct;refine⟨_,_,(qd n12).trans q9,q9,?_,fun p3 hp3=>?_⟩
 ·rw[aap,aap];exact Bv (big _ (by omega))
 have s3:=s2.trans (LSub.new (o:=.lst (nY (vf wd)++nY (j4 ct))) hp3);have g3:qh (qh (qh L p1 (.lst (nY (vf wd)))) p2 (.lst (nY (j4 ct)))) p3 (.lst (nY (vf wd)++nY (j4 ct))) p3=some (.lst (nY (jh wd ct))):=by rw[q9];unfold jh;rw[ky]
 generalize qh (qh (qh L p1 (.lst (nY (vf wd)))) p2 (.lst (nY (j4 ct)))) p3 (.lst (nY (vf wd)++nY (j4 ct)))=L1 at s3 g3 ⊢;refine jn (s3 _ _ ha) fun keep kp=>ado (fun i zs=>zs=nY (jq wd (jh wd ct) i)) (by rw[aad,Ae];exact big _ (by omega)) (kp _ rfl) rfl ?_ ?_
 ·rintro i y zs ey rfl;obtain⟨z,ez,rfl⟩:=acb ey;rw[Ap] at ez;obtain⟨k,ek,rfl⟩:=Ar.mp ez;have no:abc wd (jh wd ct) i=false->Frg (fun zs L'=>L'=L1/\zs=nY (jq wd (jh wd ct) (i+1))) (nY (jq wd (jh wd ct) i)) L1:=fun h=>⟨L1,LSub.refl _,rfl,by rw[abl,Ax (by rw[h];exact AA),AR]⟩;have yes:abc wd (jh wd ct) i=true->Frg (fun zs L'=>L'=L1/\zs=nY (jq wd (jh wd ct) (i+1))) (nY (jq wd (jh wd ct) i)++[.int (i:Int)]) L1:=fun h=>⟨L1,LSub.refl _,rfl,by rw[abl,AB h,ky];rfl⟩;cases k with
  |none=>exact no (by unfold abc aau;rw[ek];rfl)
  |some k=>
   have key:aew L1 (.ref p3) fun ys=>aat (.int (i:Int))=true/\ys.all aat=true/\vm (nb true (inV (toV (.int (i:Int))) (ys.map toV))) (Frg (fun zs L'=>L'=L1/\zs=nY (jq wd (jh wd ct) (i+1))) (nY (jq wd (jh wd ct) i)++[.int (i:Int)]) L1) (Frg (fun zs L'=>L'=L1/\zs=nY (jq wd (jh wd ct) (i+1))) (nY (jq wd (jh wd ct) i)) L1):=by
    refine qe g3 ⟨rfl,agr _,?_⟩;rw[agw]
    by_cases cu:i∈jh wd ct
    ·exact wo (by rw[AD cu];rfl) (no (by unfold abc aau;rw[ek,AD cu];rfl))
    ·exact aai (by rw[Aq cu];rfl) (yes (by unfold abc aau;rw[ek,Aq cu];rfl))
   cases k with
   |lf t n=>exact key
   |nd e i' j'=>exact key
 ·rintro zs rfl p hp;rw[aad,Ae];refine⟨qh L p (.lst (nY (jq wd (jh wd ct) wd.length))),fun b o e=>?_,q p (s3.none hp)⟩
  by_cases cc:b=p
  ·subst cc;rw[q9] at e ⊢;exact e
  ·rw[qd cc] at e ⊢;exact s3 _ _ e
def ah0:Sp3:=fun ys L Q=>∃a l c,∃xs zs us:List Y,ys=[ag8 a l c]/\L a=some (.lst xs)/\L l=some (.lst zs)/\L c=some (.lst us)/\∀a' l' c' L',LSub L L'->L a'=none->L l'=none->L c'=none->a'≠l'->a'≠c'->l'≠c'->L' a'=some (.lst xs)->L' l'=some (.lst zs)->L' c'=some (.lst us)->Q (ag8 a' l' c') L'
theorem awh:∀ys L Q,ah0 ys L Q->w9 afy 1 ys L Q:=by
 rintro ys L Q ⟨a,l,c,xs,zs,us,rfl,ha,hl,hc,q⟩;refine qe ha fun p1 h1=>?_;have s1:=LSub.new (o:=.lst xs) h1;refine qe (s1 _ _ hl) fun p2 h2=>?_;have s2:=s1.trans (LSub.new (o:=.lst zs) h2);refine qe (s2 _ _ hc) fun p3 h3=>?_;have n12:p1≠p2:=neL q9 h2;have n23:p2≠p3:=neL q9 h3;have n13:p1≠p3:=neL ((qd n12).trans q9) h3;exact fin (q p1 p2 p3 _ (s2.trans (LSub.new h3)) h1 (s1.none h2) (s2.none h3) n12 n13 n23 ((qd n13).trans ((qd n12).trans q9)) ((qd n23).trans q9) q9)
def apn(p__law_web:Sp3)(p__law_cell_at:Sp3)(p__law_copy:Sp3)(p__law_same:Sp3)(p_eithers_of:Sp3)(p_ends_of:Sp3)(p__law_word:Sp3)(p_word_at:Sp3)(p__law_flip:Sp3):TS3:=(qt (zm (zb p__law_web (qa (qb 0) (qa (yOp vk (zb p__law_cell_at (qa (qb 0) (qa (yC (.int 0)) qj))) (yOp a3h (yC (.int 10)) (yC (.int 9)))) (qa (yC (.int 100)) (qa (yC (.int 100)) qj))))) (qi 1))
 (qt (zm (qb 1) (vg 3 (za (qi 2) (za (qi 3) (za (qi 4) xt)))))
 (qt (zm (xa qj) (qi 5))
 (qt (ac3 (xg (qb 2)) (qi 6) (jt (ac1 (yB (aco true (qb 6))) (yB (yOp (yEq false) (yCB jk (qa (qb 6) qj)) (yC (.int 3))))) (j9 (yBL wx (qb 5) (qa (xa (qa (yOp yIx (qb 6) (yC (.int 1))) (qa (yOp yIx (qb 6) (yC (.int 2))) qj))) qj))) je))
 (qt (ac3 (xg (qb 4)) (vg 2 (za (qi 7) (za (qi 8) xt))) (j9 (yBL wx (qb 5) (qa (xa (qa (qb 7) (qa (qb 8) qj))) qj))))
 (qt (aj8 7 (zm (yLC 1 (adn (qa (yCB jk (qa (qb 2) qj)) qj)) (qi 12) (ac1 (yB (aco true (yOp yIx (qb 2) (qb 12)))) (yB (yOp (ahw true) (qb 12) (qb 5)))) (qb 12)) (qi 9)))
 (qt (aj8 7 (zm (yLC 1 (adn (qa (yCB jk (qa (qb 2) qj)) qj)) (qi 12) (ac1 (yB (aco true (yOp yIx (qb 2) (qb 12)))) (yB (yOp (yEq false) (yOp yIx (yOp yIx (qb 2) (qb 12)) (yC (.int 0))) (yC (.str "either"))))) (qb 12)) (qi 10)))
 (qt (zm (zb p__law_copy (qa (qb 1) qj)) (qi 11))
 (qt (jt (yOr (anr (yB (zb p__law_same (qa (zb p_ends_of (qa (qb 11) qj)) (qa (qb 9) qj))))) (anr (yB (zb p__law_same (qa (zb p_eithers_of (qa (qb 11) qj)) (qa (qb 10) qj)))))) (jo (yC (.bl false))) je)
 (qt (ac3 (xg (qb 9)) (qi 7) (jt (anr (yB (zb p__law_same (qa (zb p_word_at (qa (yOp yIx (qb 11) (yC (.int 0))) (qa (qb 7) qj))) (qa (zb p__law_word (qa (qb 2) (qa (qb 7) qj))) qj))))) (jo (yC (.bl false))) je))
 (qt (ac3 (xg (qb 4)) (vg 2 (za (qi 7) (za (qi 8) xt))) (qt (jt (anr (yB (zb p__law_same (qa (zb p_word_at (qa (yOp yIx (qb 11) (yC (.int 0))) (qa (qb 7) qj))) (qa (zb p__law_word (qa (qb 2) (qa (qb 7) qj))) qj))))) (jo (yC (.bl false))) je)
 (jt (anr (yB (zb p__law_same (qa (zb p_word_at (qa (yOp yIx (qb 11) (yC (.int 0))) (qa (qb 8) qj))) (qa (zb p__law_flip (qa (zb p__law_word (qa (qb 2) (qa (qb 7) qj))) qj)) qj))))) (jo (yC (.bl false))) je)))
 (jo (zb p__law_same (qa (qb 11) (qa (qb 1) qj)))))))))))))))
theorem adp{L:LHp}{n:Nat}{xs:List Y}(h:∀x∈xs,SameY L n x x):Paired (SameY L n) xs xs:=by
 induction xs with
 |nil=>exact .nil
 |cons x r ih=>exact .cons (h x (Av ..)) (ih fun y hy=>h y (Ai _ hy))
theorem ajc{L:LHp}{n:Nat}(l:List Nat):Paired (SameY L (n+1)) (nY l) (nY l):=adp fun x hx=>by
 obtain⟨m,_,rfl⟩:=BH.mp hx;exact .flat rfl
theorem alr{L:LHp}{n:Nat}(l:List (Nat×Nat)):Paired (SameY L (n+2)) (zg l) (zg l):=adp fun x hx=>by
 obtain⟨m,_,rfl⟩:=BH.mp hx;exact .inr (.inl ⟨_,_,rfl,rfl,.cons (.flat rfl) (.cons (.flat rfl) .nil)⟩)
theorem ax0{L:LHp}{n:Nat}(l:List (Option Kn)):Paired (SameY L (n+2)) (osY l) (osY l):=adp fun x hx=>by
 obtain⟨m,_,rfl⟩:=BH.mp hx;cases m with
 |none=>exact .flat rfl
 |some k=>
  cases k with
  |lf t n=>exact .inr (.inl ⟨_,_,rfl,rfl,.cons (.flat rfl) (.cons (.flat rfl) .nil)⟩)
  |nd e i j=>exact .inr (.inl ⟨_,_,rfl,rfl,.cons (.flat rfl) (.cons (.flat rfl) (.cons (.flat rfl) .nil))⟩)
theorem aak{L:LHp}{n:Nat}{a b:Addr}{xs:List Y}(ha:L a=some (.lst xs))(hb:L b=some (.lst xs))(p:Paired (SameY L n) xs xs):SameY L (n+1) (.ref a) (.ref b):=.inr (.inr ⟨a,b,xs,xs,rfl,rfl,ha,hb,p⟩)
theorem agj{wd:List (Option Kn)}{i:Nat}{k:Option Kn}(h:wd[i]?=some k):atI (osY wd) (0+(i:Int))=some (aik k):=by rw[Dk];exact kz h
theorem arz{Pt:Addr}:∀ys L Q,ajp Pt lamQ ys L Q->w9 (apn (ak2 Pt) abt ah0 (acu 124) ae1 ah1 (jd 120) (jd 120) (vn 120)) 12 ys L Q:=by
 rintro ys L Q ⟨ns,rfl,h63,hL,q⟩;have hP:L Pt=some (.tb lamQ):=by rw[hL];exact q9
 clear hL;have big:=bg_;refine⟨ns,0,rfl,by decide,fun v=>⟨⟨by decide,by decide,by decide⟩,(show(0:Int)<10 ^ (9:Int).toNat by decide),_,ns,_,100,100,rfl,rfl,by omega,by omega,hP,fun wa la ca wd lk ct L1 W s1 nw nl nc n1 n2 n3 e1 e2 e3=>?_⟩⟩;obtain⟨WI,ll⟩:=W.webI;have wl:=WI.len;have cl:=WI.ctl;clear W hP nw nl nc s1;intro us hus;have nus:∀{a o},L1 a=some o->a≠us:=fun h=>neL h hus;have s2:LSub L1 (qh L1 us (.lst [])):=LSub.new hus;refine jn (s2 _ _ e1) fun keep kp=>xr ⟨fun i τ L'=>∃c6 c7 c8 c9 c10 c11,τ=[some (.sq (ns.map Y.int)),some (ag8 wa la ca),some (.ref wa),some (.ref la),some (.ref ca),some (.ref us),c6,c7,c8,c9,c10,c11]/\LSub L1 L'/\L' us=some (.lst (nY (vf (wd.take i)))),⟨_,_,_,_,_,_,rfl,s2,q9⟩,?_,?_,?_⟩
 ·rintro i τ L' ⟨c6,c7,c8,c9,c10,c11,rfl,s,_⟩;exact kp L' (by rw[s _ _ e1,s2 _ _ e1])
 ·rintro i y τ L' hy ⟨c6,c7,c8,c9,c10,c11,rfl,s,g⟩;rw[Ap] at hy;obtain⟨k,ek,rfl⟩:=Ar.mp hy;have et:wd.take (i+1)=wd.take i++[k]:=by rw[Bp,ek];rfl
  have pl:=acv (wd.take i);rw[AL] at pl;have stay:afj k=[]->L' us=some (.lst (nY (vf (wd.take (i+1))))):=fun h=>by rw[et,adi,h,AR];exact g
  cases k with
  |none=>exact⟨_,LSub.refl _,_,_,_,_,_,_,rfl,s,stay rfl⟩
  |some k=>
   cases k with
   |lf t n=>exact⟨_,LSub.refl _,_,_,_,_,_,_,rfl,s,stay rfl⟩
   |nd e i' j'=>
    refine qe g ?_;intro p hp;have np:us≠p:=neL g hp;refine qm ((qd np).trans g) (qm q9 ⟨?_,?_⟩)
    ·rw[aap];exact Bv (big _ (by simp;omega))
    ·refine⟨_,LSub.refl _,_,_,_,_,_,_,rfl,(s.trans (LSub.new hp)).upd hus,?_⟩;rw[q9,et,adi,ky];rfl
 rintro τ L2 ⟨c6,c7,c8,c9,c10,c11,rfl,s3,g⟩;rw[Ae,Bs] at g;have pl:=acv wd;have pcl:=jp ct;refine jn (s3 _ _ e3) fun keep kp=>xr ⟨fun i τ L'=>∃c7 c8,τ=[some (.sq (ns.map Y.int)),some (ag8 wa la ca),some (.ref wa),some (.ref la),some (.ref ca),some (.ref us),c6,c7,c8,c9,c10,c11]/\LSub L1 L'/\L' us=some (.lst (nY (vf wd++j4 (ct.take i)))),⟨_,_,rfl,s3,by rw[g];show _=some (LO.lst (nY (vf wd++[])));rw[AR]⟩,?_,?_,?_⟩
 ·rintro i τ L' ⟨c7,c8,rfl,s,_⟩;exact kp L' (by rw[s _ _ e3,s3 _ _ e3])
 ·rintro i y τ L' hy ⟨c7,c8,rfl,s,g⟩;rw[Ap] at hy;obtain⟨pr,ep,rfl⟩:=Ar.mp hy;have et:ct.take (i+1)=ct.take i++[pr]:=by rw[Bp,ep];rfl
  have hi:=jf ep;have pt:=jp (ct.take i);rw[AL] at pt;refine qe g ?_;intro p hp;have np:us≠p:=neL g hp;refine qm ((qd np).trans g) (qm q9 ⟨?_,?_⟩)
  ·rw[aap,Ad];exact Bv (big _ (by simp;omega))
  ·refine⟨_,LSub.refl _,_,_,rfl,(s.trans (LSub.new hp)).upd hus,?_⟩;rw[q9,et,xc,w6,<-Ay,ky (vf wd++j4 (List.take i ct))];rfl
 rintro τ L3 ⟨c7',c8',rfl,s4,g⟩;rw[Ae,Bs] at g;have g:L3 us=some (.lst (nY (jh wd ct))):=g;have k1:=s4 _ _ e1;have lw:(osY wd).length=wd.length:=Ae ..;refine qe k1 ⟨⟨CH _,by rw[lw];omega⟩,?_⟩;rw[lw,BN];refine ako (fun i zs=>zs=nY (jq wd (jh wd ct) i)) (big _ (by omega)) rfl ?_ ?_
 ·rintro i zs hi rfl;obtain⟨k,ek⟩:∃k,wd[i]?=some k:=⟨_,Aj hi⟩;have no:abc wd (jh wd ct) i=false->Frg (fun zs L'=>L'=L3/\zs=nY (jq wd (jh wd ct) (i+1))) (nY (jq wd (jh wd ct) i)) L3:=fun h=>⟨L3,LSub.refl _,rfl,by rw[abl,Ax (by rw[h];exact AA),AR]⟩;have yes:abc wd (jh wd ct) i=true->Frg (fun zs L'=>L'=L3/\zs=nY (jq wd (jh wd ct) (i+1))) (nY (jq wd (jh wd ct) i)++[.int (0+(i:Int))]) L3:=fun h=>⟨L3,LSub.refl _,rfl,by rw[abl,AB h,ky,Dk];rfl⟩;refine qe k1 (qp (agj ek) ?_);cases k with
  |none=>exact no (by unfold abc aau;rw[ek];rfl)
  |some k=>
   have key:aew L3 (.ref us) fun ys=>aat (.int (0+(i:Int)))=true/\ys.all aat=true/\vm (nb true (inV (toV (.int (0+(i:Int)))) (ys.map toV))) (Frg (fun zs L'=>L'=L3/\zs=nY (jq wd (jh wd ct) (i+1))) (nY (jq wd (jh wd ct) i)++[.int (0+(i:Int))]) L3) (Frg (fun zs L'=>L'=L3/\zs=nY (jq wd (jh wd ct) (i+1))) (nY (jq wd (jh wd ct) i)) L3):=by
    refine qe g ⟨rfl,agr _,?_⟩;rw[show toV (.int (0+(i:Int)))=toV (.int (i:Int)) by rw[Dk],agw]
    by_cases cu:i∈jh wd ct
    ·exact wo (by rw[AD cu];rfl) (no (by unfold abc aau;rw[ek,AD cu];rfl))
    ·exact aai (by rw[Aq cu];rfl) (yes (by unfold abc aau;rw[ek,Aq cu];rfl))
   cases k with
   |lf t n=>exact key
   |nd e i' j'=>exact key
 rintro zs rfl en hen;have s5:LSub L1 (qh L3 en (.lst (nY (jq wd (jh wd ct) wd.length)))):=s4.trans (LSub.new hen);have ge:qh L3 en (.lst (nY (jq wd (jh wd ct) wd.length))) en=some (.lst (nY (jq wd (jh wd ct) wd.length))):=q9;clear g k1 s2 s3 s4;generalize qh L3 en (.lst (nY (jq wd (jh wd ct) wd.length)))=L4 at s5 ge ⊢;have k1:=s5 _ _ e1;refine qe k1 ⟨⟨CH _,by rw[lw];omega⟩,?_⟩;rw[lw,BN];refine ako (fun i zs=>zs=nY (whr (aas true) wd i)) (big _ (by omega)) rfl ?_ ?_
 ·rintro i zs hi rfl;obtain⟨k,ek⟩:∃k,wd[i]?=some k:=⟨_,Aj hi⟩;have no:aas true k=false->Frg (fun zs L'=>L'=L4/\zs=nY (whr (aas true) wd (i+1))) (nY (whr (aas true) wd i)) L4:=fun h=>⟨L4,LSub.refl _,rfl,by rw[aef ek,Ax (by rw[h];exact AA),AR]⟩;have yes:aas true k=true->Frg (fun zs L'=>L'=L4/\zs=nY (whr (aas true) wd (i+1))) (nY (whr (aas true) wd i)++[.int (0+(i:Int))]) L4:=fun h=>⟨L4,LSub.refl _,rfl,by rw[aef ek,AB h,ky,Dk];rfl⟩;refine qe k1 (qp (agj ek) ?_);cases k with
  |none=>exact no rfl
  |some k=>
   cases k with
   |lf t n=>
    refine qe k1 (qp (agj ek) ?_);cases t<;>exact no rfl
   |nd e i' j'=>
    refine qe k1 (qp (agj ek) ?_);cases e with
    |true=>exact yes rfl
    |false=>exact no rfl
 rintro zs rfl ei hei;have s6:LSub L1 (qh L4 ei (.lst (nY (whr (aas true) wd wd.length)))):=s5.trans (LSub.new hei);have g2:qh L4 ei (.lst (nY (whr (aas true) wd wd.length))) ei=some (.lst (nY (whr (aas true) wd wd.length))):=q9;have g1:qh L4 ei (.lst (nY (whr (aas true) wd wd.length))) en=some (.lst (nY (jq wd (jh wd ct) wd.length))):=LSub.new hei _ _ ge;clear ge k1 s5;generalize qh L4 ei (.lst (nY (whr (aas true) wd wd.length)))=L5 at s6 g1 g2 ⊢;refine⟨wa,la,ca,_,_,_,rfl,s6 _ _ e1,s6 _ _ e2,s6 _ _ e3,fun a' l' c' L6 s7 _ _ _ _ _ _ h1 h2 h3=>?_⟩;have s8:=s6.trans s7;replace g1:=s7 _ _ g1;replace g2:=s7 _ _ g2;clear s6 s7;refine⟨a',l',c',wd,ct,rfl,h1,h3,by omega,by omega,fun p1 hp1=>?_⟩;have t1:=LSub.new (o:=.lst (nY (jq wd (jh wd ct) wd.length))) hp1;refine⟨_,_,rfl,aak q9 (t1 _ _ g1) (ajc _),?_⟩;refine⟨a',l',c',wd,rfl,t1 _ _ h1,by omega,fun p2 hp2=>?_⟩;have t2:=t1.trans (LSub.new (o:=.lst (nY (atp true wd))) hp2);refine⟨_,_,rfl,aak q9 (t2 _ _ g2) (ajc _),?_⟩;have s9:=s8.trans t2;replace g1:=t2 _ _ g1;replace h1:=t2 _ _ h1;replace h2:=t2 _ _ h2;replace h3:=t2 _ _ h3;clear t1 g2;generalize qh (qh L6 p1 (.lst (nY (jq wd (jh wd ct) wd.length)))) p2 (.lst (nY (atp true wd)))=L8 at t2 s9 g1 h1 h2 h3 ⊢;clear t2 s8;have k1:=s9 _ _ e1;have k2:=s9 _ _ e2;have k3:=s9 _ _ e3;refine jn g1 fun keep kp=>xr ⟨fun i τ L'=>∃c7,τ=[some (.sq (ns.map Y.int)),some (ag8 wa la ca),some (.ref wa),some (.ref la),some (.ref ca),some (.ref us),c6,c7,c8',some (.ref en),some (.ref ei),some (ag8 a' l' c')]/\L'=L8,⟨_,rfl,rfl⟩,?_,?_,?_⟩
 ·rintro i τ L' ⟨c7,rfl,rfl⟩;exact kp _ rfl
 ·rintro i y τ L' hy ⟨c7,rfl,rfl⟩;obtain⟨p,ep,rfl⟩:=asw hy;have hm:=AM ep;unfold jq at hm;have hb:=(BX.mp hm).2;unfold abc at hb;rw[AX] at hb;obtain⟨k,ek⟩:∃k,wd[p]?=some (some k):=by
   have:=hb.1;unfold aau at this
   split at this
   ·rename_i k e;exact⟨k,e⟩
   ·cases this
  obtain⟨w,kw,dw⟩:=WI.word p k ek;refine⟨a',osY wd,p,w,rfl,h1,kw,dw,?_⟩;refine⟨wa,osY wd,p,w,rfl,k1,kw,dw,?_⟩;refine⟨_,_,rfl,ab0 (by omega),?_⟩;exact⟨_,LSub.refl _,_,rfl,rfl⟩
 rintro τ L' ⟨c7,rfl,rfl⟩;refine jn k3 fun keep kp=>xr ⟨fun i τ L''=>∃c7 c8,τ=[some (.sq (ns.map Y.int)),some (ag8 wa la ca),some (.ref wa),some (.ref la),some (.ref ca),some (.ref us),c6,c7,c8,some (.ref en),some (.ref ei),some (ag8 a' l' c')]/\L''=L',⟨_,_,rfl,rfl⟩,?_,?_,?_⟩
 ·rintro i τ L' ⟨c7,c8,rfl,rfl⟩;exact kp _ rfl
 ·rintro i y τ L' hy ⟨c7,c8,rfl,rfl⟩;rw[Ap] at hy;obtain⟨pr,ep,rfl⟩:=Ar.mp hy;obtain⟨w,kw1,kw2,dw⟩:=WI.cut pr (AM ep);have dt:w.turn.depth=w.depth:=abd w;refine⟨a',osY wd,pr.1,w,rfl,h1,kw1,dw,?_⟩;refine⟨wa,osY wd,pr.1,w,rfl,k1,kw1,dw,?_⟩;refine⟨_,_,rfl,ab0 (by omega),?_⟩;refine⟨a',osY wd,pr.2,w.turn,rfl,h1,kw2,by omega,?_⟩;refine⟨wa,osY wd,pr.1,w,rfl,k1,kw1,dw,?_⟩;refine⟨w,rfl,dw,?_⟩;refine⟨_,_,rfl,ab0 (by omega),?_⟩;exact⟨_,LSub.refl _,_,_,rfl,rfl⟩
 rintro τ L' ⟨c7,c8,rfl,rfl⟩;exact⟨_,_,rfl,.inr (.inl ⟨_,_,rfl,rfl,.cons (aak h1 k1 (ax0 (n:=120) wd)) (.cons (aak h2 k2 (alr (n:=120) lk)) (.cons (aak h3 k3 (alr (n:=120) ct)) .nil))⟩),fin (q _)⟩
end L3
namespace K12
open PySem L2 L3 Words
def top(i:Nat):Stmt:=PySem.Challenge.pw_oncewise_k12_ends_and_eithers.main.body.getD i (.Pass ⟨0,0,0,0⟩)
theorem I_{X:Cx}{a b:Expr}{ta tb:TE3}{pos:Pos}(ha:QE X a ta)(hb:QE X b tb)(hp:akf b:=by exact fun _ _=>rfl):QE X (.Subscript a b pos) (yOp yIx ta tb):=a0o (a0z X.K X.prog X.w) ha hb hp
theorem a1_{X:Cx}{e:Expr}{t:TE3}(h:QE X e t)(s:starEach [e] X.env=[(false,eval e X.env)]:=by rfl):QA X [e] (qa t qj):=js h x6 s
theorem a2_{X:Cx}{e f:Expr}{t u:TE3}(h:QE X e t)(g:QE X f u)(s:starEach [e,f] X.env=[(false,eval e X.env),(false,eval f X.env)]:=by rfl)(r:starEach [f] X.env=[(false,eval f X.env)]:=by rfl):QA X [e,f] (qa t (qa u qj)):=js h (a1_ g r) (by rw[s,r])
theorem a3_{X:Cx}{e f d:Expr}{t u v:TE3}(h:QE X e t)(g:QE X f u)(i:QE X d v)(s:starEach [e,f,d] X.env=[(false,eval e X.env),(false,eval f X.env),(false,eval d X.env)]:=by rfl)(r:starEach [f,d] X.env=[(false,eval f X.env),(false,eval d X.env)]:=by rfl)(q:starEach [d] X.env=[(false,eval d X.env)]:=by rfl):QA X [e,f,d] (qa t (qa u (qa v qj))):=js h (a2_ g i r q) (by rw[s,r])
theorem E_{X:Cx}{a b:Expr}{ta tb:TE3}{pos:Pos}(hu:X.A.units+128<cLine)(ha:QE X a ta)(hb:QE X b tb):QT X (.Compare a [.Eq] [b] pos) (yB (yOp (yEq false) ta tb)):=jj (anh X.K X.prog X.w hu) ha hb (xq _)
theorem N_{X:Cx}{a b:Expr}{ta tb:TE3}{pos:Pos}(hu:X.A.units+128<cLine)(ha:QE X a ta)(hb:QE X b tb):QT X (.Compare a [.NotEq] [b] pos) (yB (yOp (yEq true) ta tb)):=jj (a1e X.K X.prog X.w hu) ha hb (xq _)
theorem S_{X:Cx}{x:Str}{e:Expr}{te:TE3}{pos pos':Pos}(i:Nat)(hN:X.N.Nodup)(h:QE X e te)(hix:X.N[i]?=some x:=by rfl)(hx:Loc X.env.scope x:=by exact Or.inl rfl)(hsw:swapsWith e (some (.Name x pos')) pos.line X.env=pure false:=by rfl)(hfn:X.fn x=true\/X.env.scope.names.lookup x=some .local:=by first | exact .inl rfl | exact .inr rfl | assumption):QS X (.Assign [.Name x pos'] e pos) (zm te (qi i)):=ku (i:=i) hN hix hx h hsw hfn
theorem G_{X:Cx}{x:Str}{pos:Pos}(i:Nat)(hN:X.N.Nodup)(hix:X.N[i]?=some x:=by rfl)(hx:Loc X.env.scope x:=by exact Or.inl rfl)(hfn:X.fn x=true\/X.env.scope.names.lookup x=some .local:=by first | exact .inl rfl | exact .inr rfl | assumption):QG X (.Name x pos) (qi i):=ae4 (i:=i) hN hix hx hfn
theorem aio:∀{us:List Value},us.length=1->∃a0,us=[a0]
 |[a0],_=>⟨a0,rfl⟩
theorem alu:∀{us:List Value},us.length=2->∃a0 a1,us=[a0,a1]
 |[a0,a1],_=>⟨a0,a1,rfl⟩
theorem a1g:∀{us:List Value},us.length=3->∃a0 a1 a2,us=[a0,a1,a2]
 |[a0,a1,a2],_=>⟨a0,a1,a2,rfl⟩
theorem aro:∀{us:List Value},us.length=4->∃a0 a1 a2 a3,us=[a0,a1,a2,a3]
 |[a0,a1,a2,a3],_=>⟨a0,a1,a2,a3,rfl⟩
theorem a32:∀{us:List Value},us.length=5->∃a0 a1 a2 a3 a4,us=[a0,a1,a2,a3,a4]
 |[a0,a1,a2,a3,a4],_=>⟨a0,a1,a2,a3,a4,rfl⟩
abbrev aab:Stmt:=top 2
theorem ahs:FnScope ["word"] ["word"] (qg aab):=⟨rfl,rfl,rfl,by decide +kernel,rfl,by decide +kernel,by decide +kernel⟩
abbrev aah:Stmt:=top 4
theorem aih:FnScope ["knots", "place", "knot"] ["knots", "place"] (qg aah):=⟨rfl,rfl,rfl,by decide +kernel,rfl,by decide +kernel,by decide +kernel⟩
abbrev wv:Stmt:=top 5
theorem afz:FnScope ["knot"] ["knot"] (qg wv):=⟨rfl,rfl,rfl,by decide +kernel,rfl,by decide +kernel,by decide +kernel⟩
abbrev wc:Stmt:=top 6
theorem ag2:FnScope ["knots", "parts", "knot"] ["knots"] (qg wc):=⟨rfl,rfl,rfl,by decide +kernel,rfl,by decide +kernel,by decide +kernel⟩
abbrev ki:Stmt:=top 7
theorem aer:FnScope ["pairs", "places", "p", "q"] ["pairs"] (qg ki):=⟨rfl,rfl,rfl,by decide +kernel,rfl,by decide +kernel,by decide +kernel⟩
abbrev aa8:Stmt:=top 8
theorem ai0:FnScope ["web", "knots", "used"] ["web"] (qg aa8):=⟨rfl,rfl,rfl,by decide +kernel,rfl,by decide +kernel,by decide +kernel⟩
abbrev va:Stmt:=top 9
theorem ad5:FnScope ["web"] ["web"] (qg va):=⟨rfl,rfl,rfl,by decide +kernel,rfl,by decide +kernel,by decide +kernel⟩
abbrev x9:Stmt:=top 11
theorem abw:FnScope ["_law_script", "_law_k"] ["_law_script", "_law_k"] (qg x9):=⟨rfl,rfl,rfl,by decide +kernel,rfl,by decide +kernel,by decide +kernel⟩
abbrev kq:Stmt:=top 12
theorem aej:FnScope ["_law_found", "_law_due", "_law_one", "_law_other"] ["_law_found", "_law_due"] (qg kq):=⟨rfl,rfl,rfl,by decide +kernel,rfl,by decide +kernel,by decide +kernel⟩
abbrev we:Stmt:=top 13
theorem ag5:FnScope ["_law_cell", "_law_k", "_law_factor"] ["_law_cell", "_law_k", "_law_factor"] (qg we):=⟨rfl,rfl,rfl,by decide +kernel,rfl,by decide +kernel,by decide +kernel⟩
abbrev kn:Stmt:=top 14
theorem ae5:FnScope ["_law_seed", "_law_which", "_law_letters", "_law_size", "_law_place", "_law_base", "_law_sign"] ["_law_seed", "_law_which"] (qg kn):=⟨rfl,rfl,rfl,by decide +kernel,rfl,by decide +kernel,by decide +kernel⟩
abbrev k8:Stmt:=top 15
theorem aek:FnScope ["_law_knots", "_law_p", "_law_knot"] ["_law_knots", "_law_p"] (qg k8):=⟨rfl,rfl,rfl,by decide +kernel,rfl,by decide +kernel,by decide +kernel⟩
abbrev ke:Stmt:=top 16
theorem adv:FnScope ["_law_word_here", "_law_sides"] ["_law_word_here"] (qg ke):=⟨rfl,rfl,rfl,by decide +kernel,rfl,by decide +kernel,by decide +kernel⟩
abbrev xn:Stmt:=top 17
theorem ac5:FnScope ["_law_word_here"] ["_law_word_here"] (qg xn):=⟨rfl,rfl,rfl,by decide +kernel,rfl,by decide +kernel,by decide +kernel⟩
abbrev xo:Stmt:=top 18
theorem ach:FnScope ["_law_knots", "_law_word_here", "_law_left", "_law_right", "_law_turn", "_law_same_here", "_law_low", "_law_high"] ["_law_knots", "_law_word_here"] (qg xo):=⟨rfl,rfl,rfl,by decide +kernel,rfl,by decide +kernel,by decide +kernel⟩
abbrev kg:Stmt:=top 19
theorem aes:FnScope ["_law_knots", "_law_forest", "_law_one", "_law_two", "_law_first", "_law_second", "_law_left", "_law_right", "_law_ends"] ["_law_knots", "_law_forest", "_law_one", "_law_two"] (qg kg):=⟨rfl,rfl,rfl,by decide +kernel,rfl,by decide +kernel,by decide +kernel⟩
abbrev km:Stmt:=top 20
theorem aet:FnScope ["_law_knots", "_law_tree_here", "_law_one", "_law_two", "_law_left", "_law_right"] ["_law_knots", "_law_tree_here", "_law_one", "_law_two"] (qg km):=⟨rfl,rfl,rfl,by decide +kernel,rfl,by decide +kernel,by decide +kernel⟩
abbrev wu:Stmt:=top 21
theorem afo:FnScope ["_law_knots", "_law_forest", "_law_one", "_law_two", "_law_first", "_law_p", "_law_word_here", "_law_second", "_law_q", "_law_at", "_law_end", "_law_rule", "_law_same_here", "_law_ends"] ["_law_knots", "_law_forest", "_law_one", "_law_two"] (qg wu):=⟨rfl,rfl,rfl,by decide +kernel,rfl,by decide +kernel,by decide +kernel⟩
abbrev ko:Stmt:=top 22
theorem adw:FnScope ["_law_cells", "_law_seed", "_law_room", "_law_knots", "_law_forest", "_law_k", "_law_cell", "_law_one", "_law_two", "_law_deed", "_law_at"] ["_law_cells", "_law_seed", "_law_room"] (qg ko):=⟨rfl,rfl,rfl,by decide +kernel,rfl,by decide +kernel,by decide +kernel⟩
abbrev kc:Stmt:=top 23
theorem aez:FnScope ["_law_rule", "_law_links", "_law_cuts", "_law_todo", "_law_here"] ["_law_rule"] (qg kc):=⟨rfl,rfl,rfl,by decide +kernel,rfl,by decide +kernel,by decide +kernel⟩
abbrev x5:Stmt:=top 24
theorem abz:FnScope ["_law_knots", "_law_links", "_law_one", "_law_two", "_law_first", "_law_mates", "_law_second", "_law_a", "_law_b", "_law_c", "_law_d", "_law_rest"] ["_law_knots", "_law_links", "_law_one", "_law_two"] (qg x5):=⟨rfl,rfl,rfl,by decide +kernel,rfl,by decide +kernel,by decide +kernel⟩
abbrev xb:Stmt:=top 25
theorem abv:FnScope ["_law_knots", "_law_cuts", "_law_todo", "_law_p", "_law_q", "_law_beneath_here"] ["_law_knots", "_law_cuts"] (qg xb):=⟨rfl,rfl,rfl,by decide +kernel,rfl,by decide +kernel,by decide +kernel⟩
abbrev xh:Stmt:=top 26
theorem acg:FnScope ["_law_knots", "_law_cuts", "_law_seed", "_law_most", "_law_kept", "_law_parts", "_law_knot", "_law_many", "_law_made", "_law_p", "_law_bits"] ["_law_knots", "_law_cuts", "_law_seed", "_law_most"] (qg xh):=⟨rfl,rfl,rfl,by decide +kernel,rfl,by decide +kernel,by decide +kernel⟩
abbrev s__law_order:Stmt:=top 27
theorem ad7:FnScope ["_law_knots", "_law_seed", "_law_keys", "_law_p", "_law_knot", "_law_rank"] ["_law_knots", "_law_seed"] (qg s__law_order):=⟨rfl,rfl,rfl,by decide +kernel,rfl,by decide +kernel,by decide +kernel⟩
abbrev xj:Stmt:=top 28
theorem ac8:FnScope ["_law_knots", "_law_links", "_law_cuts", "_law_seed", "_law_gaps", "_law_at", "_law_wide", "_law_p", "_law_knot"] ["_law_knots", "_law_links", "_law_cuts", "_law_seed", "_law_gaps"] (qg xj):=⟨rfl,rfl,rfl,by decide +kernel,rfl,by decide +kernel,by decide +kernel⟩
abbrev ww:Stmt:=top 29
theorem ag3:FnScope ["_law_script", "_law_seed", "_law_room", "_law_most", "_law_bits", "_law_gaps", "_law_knots", "_law_rule", "_law_links", "_law_cuts", "_law_k"] ["_law_script", "_law_seed", "_law_room", "_law_most"] (qg ww):=⟨rfl,rfl,rfl,by decide +kernel,rfl,by decide +kernel,by decide +kernel⟩
abbrev kh:Stmt:=top 30
theorem aei:FnScope ["_law_web_here"] ["_law_web_here"] (qg kh):=⟨rfl,rfl,rfl,by decide +kernel,rfl,by decide +kernel,by decide +kernel⟩
abbrev af1:Stmt:=top 31
theorem at5:FnScope ["_law_script", "_law_web_here", "_law_knots", "_law_links", "_law_cuts", "_law_used", "_law_knot", "_law_p", "_law_q", "_law_ends", "_law_eithers", "_law_handed"] ["_law_script"] (qg af1):=⟨rfl,rfl,rfl,by decide +kernel,rfl,by decide +kernel,by decide +kernel⟩
structure Bt(K:Af)(P:Program)(w:World)(mg:Str->Option Value):Prop where
 none_:True
 b_enumerate:mg "enumerate" = none
 b_len:mg "len" = none
 b_isinstance:mg "isinstance" = none
 b_bool:mg "bool" = none
 b_list:mg "list" = none
 b_tuple:mg "tuple" = none
 b_zip:mg "zip" = none
 b_int:mg "int" = none
 b_str:mg "str" = none
 b_range:mg "range" = none
 b_sorted:mg "sorted" = none
 b_max:mg "max" = none
 b_min:mg "min" = none
 k_LEAF_KINDS:TopC ⟨K,P,w⟩ mg "LEAF_KINDS" adb
section
variable {P:Program}{w:World}{K:Af}{mg:Str->Option Value}{base:Heap}{f:Addr}{fd:FuncData}{m:Nat}{cdv:Value}{A:Around}{outer:List Env}{s:Shared}{H:Hp}{E:XK}{Pt:Addr}
theorem ann(B:Bt K P w mg)(hr:Room m (A.deeper (PyProof.Rows.envOfC "is_leaf" (qg aab) s.heap.objs.size f cdv))):
 QSs (xx CX0 P w K mg base ["word"] "is_leaf" (qg aab) f cdv A outer s H E).nox (qw aab) aji:=by
 have sc:=ahs;have hu:=huK hr;exact(qk (zf (ael (ax8 K P w) (I_ (qv 0) qc) (ayw B.k_LEAF_KINDS rfl) (by with_unfolding_all rfl))))
theorem am3(F:Fun K "is_leaf" "is_leaf" aab f fd)(B:Bt K P w mg):Fn3 P w K mg base 1 f fd ["word"] (wn):=
 ok3 (k:=0) F ahs (by rintro _ _ _ ⟨_,_,_,rfl,_⟩;rfl) fun cdv A outer s H E hr=>⟨_,ann B hr,aop⟩
theorem anp{p_is_leaf:Sp3}{p_word_at:Sp3}(B:Bt K P w mg)(c_is_leaf:zo P w K mg base m "is_leaf" ["word"] p_is_leaf)(c_word_at:zo P w K mg base m "word_at" ["knots", "place"] p_word_at)(hr:Room m (A.deeper (PyProof.Rows.envOfC "word_at" (qg aah) s.heap.objs.size f cdv))):
 QSs (xx CX0 P w K mg base ["knots", "place", "knot"] "word_at" (qg aah) f cdv A outer s H E).nox (qw aah) (ajg p_is_leaf p_word_at):=by
 have sc:=aih;have hu:=huK hr;exact(qf (S_ 2 sc.nd (I_ (qv 0) (qv 1))) (qf (j6 (vh (ja c_is_leaf hr rfl (a1_ (qv 2)))) (qk (zf (qv 2))) ze) (qk (zf (zk (a3_ (I_ (qv 2) qc) (ja c_word_at hr rfl (a2_ (qv 0) (I_ (qv 2) qc))) (ja c_word_at hr rfl (a2_ (qv 0) (I_ (qv 2) qc)))))))))
theorem ag6(F:Fun K "word_at" "word_at" aah f fd)(b:Binds K fd ["knots", "place"] [])(mgx:mg "word_at" = some (.ref f))(B:Bt K P w mg)(c_is_leaf:zo P w K mg base 1 "is_leaf" ["word"] (wn)):∀k,Fn3 P w K mg base (k+2) f fd ["knots", "place"] (jd k)
 |0=>Fn3.never fun ys L Q h=>aic ys L Q h
 |k+1=>ok3 F aih (by rintro _ _ _ ⟨_,_,_,_,rfl,_⟩;rfl) fun cdv A outer s H E hr=>⟨_,anp B (c_is_leaf.mono (by omega)) (Cal.of (ag6 F b mgx B c_is_leaf k) b F.kp mgx) hr,anq k⟩
theorem an9{p_is_leaf:Sp3}(B:Bt K P w mg)(c_is_leaf:zo P w K mg base m "is_leaf" ["word"] p_is_leaf)(hr:Room m (A.deeper (PyProof.Rows.envOfC "parts_of" (qg wv) s.heap.objs.size f cdv))):
 QSs (xx CX0 P w K mg base ["knot"] "parts_of" (qg wv) f cdv A outer s H E).nox (qw wv) (ahf p_is_leaf):=by
 have sc:=afz;have hu:=huK hr;exact(qf (j6 (ve (aiz (akl (qv 0)) (afm (vh (ja c_is_leaf hr rfl (a1_ (qv 0))))))) (qk (zf (zn x6))) ze) (qk (zf (zn (a2_ (I_ (qv 0) qc) (I_ (qv 0) qc))))))
theorem aki(F:Fun K "parts_of" "parts_of" wv f fd)(B:Bt K P w mg)(c_is_leaf:zo P w K mg base 1 "is_leaf" ["word"] (wn)):Fn3 P w K mg base 2 f fd ["knot"] (ae0):=
 ok3 (k:=1) F afz (by rintro _ _ _ ⟨_,rfl,_⟩;rfl) fun cdv A outer s H E hr=>⟨_,an9 B (c_is_leaf.mono (by decide)) hr,atf⟩
theorem alk{p_parts_of:Sp3}(B:Bt K P w mg)(c_parts_of:zo P w K mg base m "parts_of" ["knot"] p_parts_of)(hr:Room m (A.deeper (PyProof.Rows.envOfC "parts_in" (qg wc) s.heap.objs.size f cdv))):
 QSs (xx CX0 P w K mg base ["knots", "parts", "knot"] "parts_in" (qg wc) f cdv A outer s H E).nox (qw wc) (ahx p_parts_of):=by
 have sc:=ag2;have hu:=huK hr;exact(qf (S_ 1 sc.nd (zn x6)) (qf (vj PassesOwn.never rfl (ju (qv 0)) (G_ 2 sc.nd) (qk (qy (wm (qv 1) (a1_ (ja c_parts_of hr rfl (a1_ (qv 2)))))))) (qk (zf (qv 1)))))
theorem akd(F:Fun K "parts_in" "parts_in" wc f fd)(B:Bt K P w mg)(c_parts_of:zo P w K mg base 2 "parts_of" ["knot"] (ae0)):Fn3 P w K mg base 3 f fd ["knots"] (agn):=
 ok3 (k:=2) F ag2 (by rintro _ _ _ ⟨_,_,rfl,_⟩;rfl) fun cdv A outer s H E hr=>⟨_,alk B (c_parts_of.mono (by decide)) hr,avs⟩
theorem ak8(B:Bt K P w mg)(hr:Room m (A.deeper (PyProof.Rows.envOfC "places_in" (qg ki) s.heap.objs.size f cdv))):
 QSs (xx CX0 P w K mg base ["pairs", "places", "p", "q"] "places_in" (qg ki) f cdv A outer s H E).nox (qw ki) afp:=by
 have sc:=aer;have hu:=huK hr;exact(qf (S_ 1 sc.nd (zn x6)) (qf (vj PassesOwn.never rfl (ju (qv 0)) (vz rfl (z0 (G_ 2 sc.nd) (z0 (G_ 3 sc.nd) x0))) (qf (qy (qx (qv 1) (a1_ (qv 2)))) (qk (qy (qx (qv 1) (a1_ (qv 3))))))) (qk (zf (qv 1)))))
theorem aiq(F:Fun K "places_in" "places_in" ki f fd)(B:Bt K P w mg):Fn3 P w K mg base 1 f fd ["pairs"] (agy):=
 ok3 (k:=0) F aer (by rintro _ _ _ ⟨_,_,rfl,_⟩;rfl) fun cdv A outer s H E hr=>⟨_,ak8 B hr,avz⟩
theorem anv{p_parts_in:Sp3}{p_places_in:Sp3}(B:Bt K P w mg)(c_parts_in:zo P w K mg base m "parts_in" ["knots"] p_parts_in)(c_places_in:zo P w K mg base m "places_in" ["pairs"] p_places_in)(hr:Room m (A.deeper (PyProof.Rows.envOfC "ends_of" (qg aa8) s.heap.objs.size f cdv))):
 QSs (xx CX0 P w K mg base ["web", "knots", "used"] "ends_of" (qg aa8) f cdv A outer s H E).nox (qw aa8) (ajh p_parts_in p_places_in):=by
 have sc:=ai0;have hu:=huK hr;exact(qf (S_ 1 sc.nd (I_ (qv 0) qc)) (qf (ku (i:=2) sc.nd rfl (Or.inr rfl) (qo jy (ja c_parts_in hr rfl (a1_ (qv 1))) (ja c_places_in hr rfl (a1_ (I_ (qv 0) qc))))) (qk (zf (afw ["place", "knot" ] (compOk.mk (by rfl)) rfl (aed rfl B.b_enumerate (qv 1)) (agx rfl (by show List.Nodup (["web", "knots" , "used" , "place" , "knot" ]:List Str);decide +kernel) (fun _ _ _ _=>rfl) (fun _ _ _ _=>rfl)) (fun _ _ _ _=>aax (ve (vi (abj (qv 4)) (x4 (jj (ai4 K P w) (qv 3) (qv 2) (by with_unfolding_all rfl)))))) (fun _ _ _ _=>(qv 3)))))))
theorem alx(F:Fun K "ends_of" "ends_of" aa8 f fd)(B:Bt K P w mg)(c_parts_in:zo P w K mg base 3 "parts_in" ["knots"] (agn))(c_places_in:zo P w K mg base 1 "places_in" ["pairs"] (agy)):Fn3 P w K mg base 4 f fd ["web"] (ah1):=
 ok3 (k:=3) F ai0 (by rintro _ _ _ ⟨_,_,_,_,_,rfl,_⟩;rfl) fun cdv A outer s H E hr=>⟨_,anv B (c_parts_in.mono (by decide)) (c_places_in.mono (by decide)) hr,aw3⟩
theorem aij(B:Bt K P w mg)(hr:Room m (A.deeper (PyProof.Rows.envOfC "eithers_of" (qg va) s.heap.objs.size f cdv))):
 QSs (xx CX0 P w K mg base ["web"] "eithers_of" (qg va) f cdv A outer s H E).nox (qw va) aec:=by
 have sc:=ad5;have hu:=huK hr;exact(qk (zf (afw ["place", "knot" ] (compOk.mk (by rfl)) rfl (aed rfl B.b_enumerate (I_ (qv 0) qc)) (agx rfl (by show List.Nodup (["web", "place" , "knot" ]:List Str);decide +kernel) (fun _ _ _ _=>rfl) (fun _ _ _ _=>rfl)) (fun _ _ _ _=>aax (ve (vi (abj (qv 2)) (x4 (E_ hu (I_ (qv 2) qc) jc))))) (fun _ _ _ _=>(qv 1)))))
theorem ai8(F:Fun K "eithers_of" "eithers_of" va f fd)(B:Bt K P w mg):Fn3 P w K mg base 1 f fd ["web"] (ae1):=
 ok3 (k:=0) F ad5 (by rintro _ _ _ ⟨_,_,_,_,rfl,_⟩;rfl) fun cdv A outer s H E hr=>⟨_,aij B hr,asu⟩
theorem ag9(B:Bt K P w mg)(hr:Room m (A.deeper (PyProof.Rows.envOfC "_law_cell_at" (qg x9) s.heap.objs.size f cdv))):
 QSs (xx CX0 P w K mg base ["_law_script", "_law_k"] "_law_cell_at" (qg x9) f cdv A outer s H E).nox (qw x9) acp:=by
 have sc:=abw;have hu:=huK hr;exact(qf (j6 (jj an7 (qv 1) (ql (zd K P w) rfl B.b_len zc (a1_ (qv 0))) (xq _)) (qk (zf (I_ (qv 0) (qv 1)))) ze) (qk (zf qc)))
theorem afn(F:Fun K "_law_cell_at" "_law_cell_at" x9 f fd)(B:Bt K P w mg):Fn3 P w K mg base 1 f fd ["_law_script", "_law_k"] (abt):=
 ok3 (k:=0) F abw (by rintro _ _ _ ⟨_,_,rfl,_⟩;rfl) fun cdv A outer s H E hr=>⟨_,ag9 B hr,aox⟩
theorem al6{p__law_same:Sp3}(B:Bt K P w mg)(c__law_same:zo P w K mg base m "_law_same" ["_law_found", "_law_due"] p__law_same)(hr:Room m (A.deeper (PyProof.Rows.envOfC "_law_same" (qg kq) s.heap.objs.size f cdv))):
 QSs (xx CX0 P w K mg base ["_law_found", "_law_due", "_law_one", "_law_other"] "_law_same" (qg kq) f cdv A outer s H E).nox (qw kq) (afs p__law_same):=by
 have sc:=aej;have hu:=huK hr;exact(qf (j6 (ve (aiz (vh (v9 .bool rfl B.b_isinstance rfl B.b_bool agz (qv 0))) (afm (vh (v9 .bool rfl B.b_isinstance rfl B.b_bool agz (qv 1)))))) (qk (zf (akp (v9 .bool rfl B.b_isinstance rfl B.b_bool agz (qv 0)) (akp (v9 .bool rfl B.b_isinstance rfl B.b_bool agz (qv 1)) (ao5 (ael (anh K P w hu) (qv 0) (qv 1) (xq _))))))) ze) (qf (j6 (vh (aoc .list .tuple rfl B.b_isinstance rfl B.b_list abi rfl B.b_tuple ae8 (qv 1))) (qf (j6 (ve (aiz (N_ hu (v9 .list rfl B.b_isinstance rfl B.b_list abi (qv 0)) (v9 .list rfl B.b_isinstance rfl B.b_list abi (qv 1))) (afm (N_ hu (v9 .tuple rfl B.b_isinstance rfl B.b_tuple ae8 (qv 0)) (v9 .tuple rfl B.b_isinstance rfl B.b_tuple ae8 (qv 1)))))) (qk (zf afq)) ze) (qf (j6 (N_ hu (ql (zd K P w) rfl B.b_len zc (a1_ (qv 0))) (ql (zd K P w) rfl B.b_len zc (a1_ (qv 1)))) (qk (zf afq)) ze) (qf (vj PassesOwn.never rfl (azw rfl B.b_zip (a2_ (qv 0) (qv 1))) (vz rfl (z0 (G_ 2 sc.nd) (z0 (G_ 3 sc.nd) x0))) (qk (j6 (afc (vh (ja c__law_same hr rfl (a2_ (qv 2) (qv 3))))) (qk (zf afq)) ze))) (qk (zf afq))))) ze) (qf (j6 (vh (v9 .int rfl B.b_isinstance rfl B.b_int aoi (qv 1))) (qk (zf (akp (v9 .int rfl B.b_isinstance rfl B.b_int aoi (qv 0)) (ao5 (ael (anh K P w hu) (qv 0) (qv 1) (xq _)))))) ze) (qf (j6 (vh (v9 .str rfl B.b_isinstance rfl B.b_str as6 (qv 1))) (qk (zf (akp (v9 .str rfl B.b_isinstance rfl B.b_str as6 (qv 0)) (ao5 (ael (anh K P w hu) (qv 0) (qv 1) (xq _)))))) ze) (qk (zf (az5 (qv 0))))))))
theorem ad6(F:Fun K "_law_same" "_law_same" kq f fd)(b:Binds K fd ["_law_found", "_law_due"] [])(mgx:mg "_law_same" = some (.ref f))(B:Bt K P w mg):∀k,Fn3 P w K mg base (k+1) f fd ["_law_found", "_law_due"] (acu k)
 |0=>Fn3.never fun ys L Q h=>al9 ys L Q h
 |k+1=>ok3 F aej (by rintro _ _ _ ⟨_,_,rfl,_⟩;rfl) fun cdv A outer s H E hr=>⟨_,al6 B (Cal.of (ad6 F b mgx B k) b F.kp mgx) hr,awb k⟩
theorem alm(B:Bt K P w mg)(hr:Room m (A.deeper (PyProof.Rows.envOfC "_law_mix" (qg we) s.heap.objs.size f cdv))):
 QSs (xx CX0 P w K mg base ["_law_cell", "_law_k", "_law_factor"] "_law_mix" (qg we) f cdv A outer s H E).nox (qw we) ahd:=by
 have sc:=ag5;have hu:=huK hr;exact(qk (zf (qo k6 (qo jl (qo am5 (qo jy (qo jy (qo am5 (qo jl (qv 0) qc) qc) (qo am5 (qv 1) (qv 1))) qc) (qv 2)) qc) qc)))
theorem akx(F:Fun K "_law_mix" "_law_mix" we f fd)(B:Bt K P w mg):Fn3 P w K mg base 1 f fd ["_law_cell", "_law_k", "_law_factor"] (aa4):=
 ok3 (k:=0) F ag5 (by rintro _ _ _ ⟨_,_,_,rfl,_⟩;rfl) fun cdv A outer s H E hr=>⟨_,alm B hr,ayd⟩
theorem aks(B:Bt K P w mg)(hr:Room m (A.deeper (PyProof.Rows.envOfC "_law_name" (qg kn) s.heap.objs.size f cdv))):
 QSs (xx CX0 P w K mg base ["_law_seed", "_law_which", "_law_letters", "_law_size", "_law_place", "_law_base", "_law_sign"] "_law_name" (qg kn) f cdv A outer s H E).nox (qw kn) ang:=by
 have sc:=ae5;have hu:=huK hr;exact(qf (ku (i:=2) sc.nd rfl (Or.inr rfl) jc) (qf (S_ 3 sc.nd (qo jy qc (qo jl (qv 0) qc))) (qf (S_ 4 sc.nd (qo jl (qo k6 (qv 0) qc) (qv 3))) (qf (S_ 5 sc.nd (awr jc (a1_ (afw ["_law_k"] (compOk.mk (by rfl)) rfl (aaf rfl B.b_range (a1_ qc)) (vo (by show List.Nodup (["_law_seed", "_law_which" , "_law_letters" , "_law_size" , "_law_place" , "_law_base" , "_law_sign" , "_law_k" ]:List Str);decide +kernel) (fun _ _ _ _=>Or.inl rfl) (fun _ _ _ _=>rfl)) (fun _ _ _ _=>akn) (fun _ _ _ _=>(I_ (qv 2) (qo jl (qo jy (qo k6 (qv 0) qc) (qo am5 qc (qv 7))) qc))))))) (qf (j6 (E_ hu (qo jl (qo k6 (qv 0) qc) qc) qc) (qk (zf (adz (as7 K P w) (qv 5) aku (ae7 (qo jy qc (qo jl (qo jy (qv 1) (qv 0)) qc)))))) ze) (qf (S_ 6 sc.nd (I_ (qv 2) (qo jl (qo jy (qo jy (qo k6 (qv 0) qc) (qo am5 qc (qv 4))) (qv 1)) qc))) (qk (zf (qo jy (qo jy (adz (as7 K P w) (qv 5) aku (ae7 (qv 4))) (qv 6)) (adz (as7 K P w) (qv 5) (ae7 (qo jy (qv 4) qc)) (ae7 (qv 3))))))))))))
theorem air(F:Fun K "_law_name" "_law_name" kn f fd)(B:Bt K P w mg):Fn3 P w K mg base 1 f fd ["_law_seed", "_law_which"] (adu):=
 ok3 (k:=0) F ae5 (by rintro _ _ _ ⟨_,_,rfl,_⟩;rfl) fun cdv A outer s H E hr=>⟨_,aks B hr,asy⟩
theorem ak3{p__law_word:Sp3}(B:Bt K P w mg)(c__law_word:zo P w K mg base m "_law_word" ["_law_knots", "_law_p"] p__law_word)(hr:Room m (A.deeper (PyProof.Rows.envOfC "_law_word" (qg k8) s.heap.objs.size f cdv))):
 QSs (xx CX0 P w K mg base ["_law_knots", "_law_p", "_law_knot"] "_law_word" (qg k8) f cdv A outer s H E).nox (qw k8) (afu p__law_word):=by
 have sc:=aek;have hu:=huK hr;exact(qf (S_ 2 sc.nd (I_ (qv 0) (qv 1))) (qf (j6 (E_ hu (ql (zd K P w) rfl B.b_len zc (a1_ (qv 2))) qc) (qk (zf (qv 2))) ze) (qk (zf (zk (a3_ (I_ (qv 2) qc) (ja c__law_word hr rfl (a2_ (qv 0) (I_ (qv 2) qc))) (ja c__law_word hr rfl (a2_ (qv 0) (I_ (qv 2) qc)))))))))
theorem ad8(F:Fun K "_law_word" "_law_word" k8 f fd)(b:Binds K fd ["_law_knots", "_law_p"] [])(mgx:mg "_law_word" = some (.ref f))(B:Bt K P w mg):∀k,Fn3 P w K mg base (k+1) f fd ["_law_knots", "_law_p"] (jd k)
 |0=>Fn3.never fun ys L Q h=>ajr ys L Q h
 |k+1=>ok3 F aek (by rintro _ _ _ ⟨_,_,_,_,rfl,_⟩;rfl) fun cdv A outer s H E hr=>⟨_,ak3 B (Cal.of (ad8 F b mgx B k) b F.kp mgx) hr,ami k⟩
theorem al8{p__law_flip:Sp3}(B:Bt K P w mg)(c__law_flip:zo P w K mg base m "_law_flip" ["_law_word_here"] p__law_flip)(hr:Room m (A.deeper (PyProof.Rows.envOfC "_law_flip" (qg ke) s.heap.objs.size f cdv))):
 QSs (xx CX0 P w K mg base ["_law_word_here", "_law_sides"] "_law_flip" (qg ke) f cdv A outer s H E).nox (qw ke) (apk p__law_flip):=by
 have sc:=adv;have hu:=huK hr;exact(qf (S_ 1 sc.nd (awf [ ("plain" , "turned") ,("turned" , "plain") ,("both" , "either") ,("either" , "both") ] (aem abr abr (aem abr abr (aem abr abr (aem abr abr auw)))) rfl rfl (List.cons_ne_nil _ _) (CW rfl))) (qf (j6 (E_ hu (ql (zd K P w) rfl B.b_len zc (a1_ (qv 0))) qc) (qk (zf (zk (a2_ (I_ (qv 1) (I_ (qv 0) qc)) (I_ (qv 0) qc))))) ze) (qk (zf (zk (a3_ (I_ (qv 1) (I_ (qv 0) qc)) (ja c__law_flip hr rfl (a1_ (I_ (qv 0) qc))) (ja c__law_flip hr rfl (a1_ (I_ (qv 0) qc)))))))))
theorem adc(F:Fun K "_law_flip" "_law_flip" ke f fd)(b:Binds K fd ["_law_word_here"] [])(mgx:mg "_law_flip" = some (.ref f))(B:Bt K P w mg):∀k,Fn3 P w K mg base (k+1) f fd ["_law_word_here"] (vn k)
 |0=>Fn3.never fun ys L Q h=>asc ys L Q h
 |k+1=>ok3 F adv (by rintro _ _ _ ⟨_,rfl,_⟩;rfl) fun cdv A outer s H E hr=>⟨_,al8 B (Cal.of (adc F b mgx B k) b F.kp mgx) hr,atc k⟩
theorem ahz{p__law_weight:Sp3}(B:Bt K P w mg)(c__law_weight:zo P w K mg base m "_law_weight" ["_law_word_here"] p__law_weight)(hr:Room m (A.deeper (PyProof.Rows.envOfC "_law_weight" (qg xn) s.heap.objs.size f cdv))):
 QSs (xx CX0 P w K mg base ["_law_word_here"] "_law_weight" (qg xn) f cdv A outer s H E).nox (qw xn) (ade p__law_weight):=by
 have sc:=ac5;have hu:=huK hr;exact(qf (j6 (E_ hu (ql (zd K P w) rfl B.b_len zc (a1_ (qv 0))) qc) (qk (zf qc)) ze) (qk (zf (qo jy (qo jy qc (ja c__law_weight hr rfl (a1_ (I_ (qv 0) qc)))) (ja c__law_weight hr rfl (a1_ (I_ (qv 0) qc)))))))
theorem aby(F:Fun K "_law_weight" "_law_weight" xn f fd)(b:Binds K fd ["_law_word_here"] [])(mgx:mg "_law_weight" = some (.ref f))(B:Bt K P w mg):∀k,Fn3 P w K mg base (k+1) f fd ["_law_word_here"] (aa9 k)
 |0=>Fn3.never fun ys L Q h=>ahq ys L Q h
 |k+1=>ok3 F ac5 (by rintro _ _ _ ⟨_,rfl,_⟩;rfl) fun cdv A outer s H E hr=>⟨_,ahz B (Cal.of (aby F b mgx B k) b F.kp mgx) hr,aqp k⟩
theorem ahe{p__law_flip:Sp3}{p__law_mirror:Sp3}(B:Bt K P w mg)(c__law_flip:zo P w K mg base m "_law_flip" ["_law_word_here"] p__law_flip)(c__law_mirror:zo P w K mg base m "_law_mirror" ["_law_knots", "_law_word_here"] p__law_mirror)(hr:Room m (A.deeper (PyProof.Rows.envOfC "_law_mirror" (qg xo) s.heap.objs.size f cdv))):
 QSs (xx CX0 P w K mg base ["_law_knots", "_law_word_here", "_law_left", "_law_right", "_law_turn", "_law_same_here", "_law_low", "_law_high"] "_law_mirror" (qg xo) f cdv A outer s H E).nox (qw xo) (anc p__law_flip p__law_mirror):=by
 have sc:=ach;have hu:=huK hr;exact(qf (j6 (E_ hu (ql (zd K P w) rfl B.b_len zc (a1_ (qv 1))) qc) (qf (qy (qx (qv 0) (a1_ (ja c__law_flip hr rfl (a1_ (qv 1)))))) (qf (qy (qx (qv 0) (a1_ (qv 1)))) (qk (zf (zn (a3_ (zk (a3_ jc (qo ab5 (ql (zd K P w) rfl B.b_len zc (a1_ (qv 0))) qc) (qo ab5 (ql (zd K P w) rfl B.b_len zc (a1_ (qv 0))) qc))) (qo ab5 (ql (zd K P w) rfl B.b_len zc (a1_ (qv 0))) qc) (qo ab5 (ql (zd K P w) rfl B.b_len zc (a1_ (qv 0))) qc))))))) ze) (qf (S_ 2 sc.nd (ja c__law_mirror hr rfl (a2_ (qv 0) (I_ (qv 1) qc)))) (qf (S_ 3 sc.nd (ja c__law_mirror hr rfl (a2_ (qv 0) (I_ (qv 1) qc)))) (qf (qy (qx (qv 0) (a1_ (zk (a3_ (I_ (ja c__law_flip hr rfl (a1_ (qv 1))) qc) (I_ (qv 2) qc) (I_ (qv 3) qc)))))) (qf (qy (qx (qv 0) (a1_ (zk (a3_ (I_ (qv 1) qc) (I_ (qv 2) qc) (I_ (qv 3) qc)))))) (qf (ats (i:=4) (j:=5) rfl sc.nd rfl rfl (by decide) rfl rfl (a2_ (qo ab5 (ql (zd K P w) rfl B.b_len zc (a1_ (qv 0))) qc) (qo ab5 (ql (zd K P w) rfl B.b_len zc (a1_ (qv 0))) qc)) rfl) (qf (S_ 6 sc.nd (ace (E_ hu (I_ (qv 1) qc) jc) (qv 4) (qv 5))) (qf (S_ 7 sc.nd (ace (E_ hu (I_ (qv 1) qc) jc) (qv 5) (qv 4))) (qk (zf (zn (a3_ (zk (a3_ jc (qv 7) (zk (js jc (a3_ (qv 6) (I_ (qv 2) qc) (I_ (qv 3) qc)))))) (qv 4) (qv 5)))))))))))))
theorem ac0(F:Fun K "_law_mirror" "_law_mirror" xo f fd)(b:Binds K fd ["_law_knots", "_law_word_here"] [])(mgx:mg "_law_mirror" = some (.ref f))(B:Bt K P w mg)(c__law_flip:zo P w K mg base 121 "_law_flip" ["_law_word_here"] (vn 120)):∀k,Fn3 P w K mg base (k+122) f fd ["_law_knots", "_law_word_here"] (aaa k)
 |0=>Fn3.never fun ys L Q h=>aqt ys L Q h
 |k+1=>ok3 F ach (by rintro _ _ _ ⟨_,_,_,rfl,_⟩;rfl) fun cdv A outer s H E hr=>⟨_,ahe B (c__law_flip.mono (by omega)) (Cal.of (ac0 F b mgx B c__law_flip k) b F.kp mgx) hr,aq6 k⟩
theorem al2(B:Bt K P w mg)(hr:Room m (A.deeper (PyProof.Rows.envOfC "_law_join" (qg kg) s.heap.objs.size f cdv))):
 QSs (xx CX0 P w K mg base ["_law_knots", "_law_forest", "_law_one", "_law_two", "_law_first", "_law_second", "_law_left", "_law_right", "_law_ends"] "_law_join" (qg kg) f cdv A outer s H E).nox (qw kg) au1:=by
 have sc:=aes;have hu:=huK hr;exact(qf (S_ 4 sc.nd (aaz (qv 1) (a1_ (qo jl (qv 3) (ql (zd K P w) rfl B.b_len zc (a1_ (qv 1))))))) (qf (S_ 5 sc.nd (aaz (qv 1) (a1_ (qo jl (qv 2) (ql (zd K P w) rfl B.b_len zc (a1_ (qv 1))))))) (qf (ku (i:=6) sc.nd rfl (Or.inr rfl) (I_ (I_ (qv 4) qc) (qo jl (qo k6 (qv 3) qc) (ql (zd K P w) rfl B.b_len zc (a1_ (I_ (qv 4) qc)))))) (qf (ku (i:=7) sc.nd rfl (Or.inr rfl) (I_ (I_ (qv 5) qc) (qo jl (qo k6 (qv 2) qc) (ql (zd K P w) rfl B.b_len zc (a1_ (I_ (qv 5) qc)))))) (qf (qy (qx (qv 0) (a1_ (zk (a3_ jc (qv 6) (qv 7)))))) (qf (aba ["_law_p"] (i:=8) sc.nd rfl (Or.inl rfl) (compOk.mk (by rfl)) rfl (ju (qo jy (I_ (qv 4) qc) (I_ (qv 5) qc))) (vo (by show List.Nodup (["_law_knots", "_law_forest" , "_law_one" , "_law_two" , "_law_first" , "_law_second" , "_law_left" , "_law_right" , "_law_ends" , "_law_p" ]:List Str);decide +kernel) (fun _ _ _ _=>Or.inl rfl) (fun _ _ _ _=>rfl)) (fun _ _ _ _=>aax (jj (ai4 K P w) (qv 9) (zk (a2_ (qv 6) (qv 7))) (by with_unfolding_all rfl))) (fun _ _ _ _=>(qv 9))) (qk (qy (qx (qv 1) (a1_ (zn (a2_ (zk (js jc (a3_ (qo ab5 (ql (zd K P w) rfl B.b_len zc (a1_ (qv 0))) qc) (I_ (qv 4) qc) (I_ (qv 5) qc)))) (qo jy (qv 8) (zn (a1_ (qo ab5 (ql (zd K P w) rfl B.b_len zc (a1_ (qv 0))) qc))))))))))))))))
theorem ail(F:Fun K "_law_join" "_law_join" kg f fd)(B:Bt K P w mg):Fn3 P w K mg base 1 f fd ["_law_knots", "_law_forest", "_law_one", "_law_two"] (agm):=
 ok3 (k:=0) F aes (by rintro _ _ _ ⟨_,_,_,_,_,_,_,rfl,_⟩;rfl) fun cdv A outer s H E hr=>⟨_,al2 B hr,av4⟩
theorem ajx(B:Bt K P w mg)(hr:Room m (A.deeper (PyProof.Rows.envOfC "_law_fold" (qg km) s.heap.objs.size f cdv))):
 QSs (xx CX0 P w K mg base ["_law_knots", "_law_tree_here", "_law_one", "_law_two", "_law_left", "_law_right"] "_law_fold" (qg km) f cdv A outer s H E).nox (qw km) apq:=by
 have sc:=aet;have hu:=huK hr;exact(qf (j6 (jj an7 (ql (zd K P w) rfl B.b_len zc (a1_ (I_ (qv 1) qc))) qc (xq _)) (qk apt) ze) (qf (S_ 4 sc.nd (aaz (I_ (qv 1) qc) (a1_ (qo jl (qv 3) (ql (zd K P w) rfl B.b_len zc (a1_ (I_ (qv 1) qc))))))) (qf (S_ 5 sc.nd (aaz (I_ (qv 1) qc) (a1_ (qo jl (qv 2) (ql (zd K P w) rfl B.b_len zc (a1_ (I_ (qv 1) qc))))))) (qf (qy (qx (qv 0) (a1_ (zk (a3_ jc (qv 4) (qv 5)))))) (qf (awq (qv 1) qc (zk (a3_ jc (qo ab5 (ql (zd K P w) rfl B.b_len zc (a1_ (qv 0))) qc) (I_ (qv 1) qc)))) (qk (qy (qx (I_ (qv 1) qc) (a1_ (qo ab5 (ql (zd K P w) rfl B.b_len zc (a1_ (qv 0))) qc))))))))))
theorem ain(F:Fun K "_law_fold" "_law_fold" km f fd)(B:Bt K P w mg):Fn3 P w K mg base 1 f fd ["_law_knots", "_law_tree_here", "_law_one", "_law_two"] (af0):=
 ok3 (k:=0) F aet (by rintro _ _ _ ⟨_,_,_,_,_,_,_,_,_,rfl,_⟩;rfl) fun cdv A outer s H E hr=>⟨_,ajx B hr,au8⟩
theorem als{p__law_word:Sp3}{p__law_flip:Sp3}{p__law_weight:Sp3}{p__law_mirror:Sp3}(B:Bt K P w mg)(c__law_word:zo P w K mg base m "_law_word" ["_law_knots", "_law_p"] p__law_word)(c__law_flip:zo P w K mg base m "_law_flip" ["_law_word_here"] p__law_flip)(c__law_weight:zo P w K mg base m "_law_weight" ["_law_word_here"] p__law_weight)(c__law_mirror:zo P w K mg base m "_law_mirror" ["_law_knots", "_law_word_here"] p__law_mirror)(hr:Room m (A.deeper (PyProof.Rows.envOfC "_law_cut" (qg wu) s.heap.objs.size f cdv))):
 QSs (xx CX0 P w K mg base ["_law_knots", "_law_forest", "_law_one", "_law_two", "_law_first", "_law_p", "_law_word_here", "_law_second", "_law_q", "_law_at", "_law_end", "_law_rule", "_law_same_here", "_law_ends"] "_law_cut" (qg wu) f cdv A outer s H E).nox (qw wu) (arv p__law_word p__law_flip p__law_weight p__law_mirror):=by
 have sc:=afo;have hu:=huK hr;exact(qf (S_ 4 sc.nd (aaz (qv 1) (a1_ (qo jl (qv 3) (ql (zd K P w) rfl B.b_len zc (a1_ (qv 1))))))) (qf (ku (i:=5) sc.nd rfl (Or.inr rfl) (I_ (I_ (qv 4) qc) (qo jl (qo k6 (qv 3) qc) (ql (zd K P w) rfl B.b_len zc (a1_ (I_ (qv 4) qc)))))) (qf (S_ 6 sc.nd (ja c__law_word hr rfl (a2_ (qv 0) (qv 5)))) (qf (ack (zk (a2_ ai9 ai9)) (vz rfl (z0 (G_ 7 sc.nd) (z0 (ae4 (i:=8) sc.nd rfl (Or.inr rfl)) x0)))) (qf (vj PassesOwn.never rfl (aaf rfl B.b_range (a1_ (ql (zd K P w) rfl B.b_len zc (a1_ (qv 1))))) (G_ 9 sc.nd) (qk (vj PassesOwn.never rfl (ju (I_ (I_ (qv 1) (qv 9)) qc)) (G_ 10 sc.nd) (qk (j6 (ve (vi (akl (qv 7)) (x4 (E_ hu (ja c__law_word hr rfl (a2_ (qv 0) (qv 10))) (ja c__law_flip hr rfl (a1_ (qv 6))))))) (qk (ack (zk (a2_ (I_ (qv 1) (qv 9)) (qv 10))) (vz rfl (z0 (G_ 7 sc.nd) (z0 (ae4 (i:=8) sc.nd rfl (Or.inr rfl)) x0))))) ze))))) (qf (j6 (ve (vi (akl (qv 7)) (x4 (jj aur (ja c__law_weight hr rfl (a1_ (qv 6))) qc (xq _))))) (qf (qy (qx (qv 1) (a1_ (qv 4)))) (qk apt)) ze) (xi (j6 (akl (qv 7)) (qf (ack (ja c__law_mirror hr rfl (a2_ (qv 0) (qv 6))) (az8 rfl (z0 (G_ 11 sc.nd) (z0 (ae4 (i:=8) sc.nd rfl (Or.inr rfl)) (z0 (G_ 12 sc.nd) x0))))) (qk (S_ 7 sc.nd (zn (a2_ (qv 11) (zn (a2_ (qv 8) (qv 12)))))))) (qk (qy (ar4 hu (qv 1) (a1_ (qv 7)))))) (qf (aba ["_law_x"] (i:=13) sc.nd rfl (Or.inl rfl) (compOk.mk (by rfl)) rfl (ju (qo jy (I_ (qv 4) qc) (I_ (qv 7) qc))) (vo (by show List.Nodup (["_law_knots", "_law_forest" , "_law_one" , "_law_two" , "_law_first" , "_law_p" , "_law_word_here" , "_law_second" , "_law_q" , "_law_at" , "_law_end" , "_law_rule" , "_law_same_here" , "_law_ends" , "_law_x" ]:List Str);decide +kernel) (fun _ _ _ _=>Or.inl rfl) (fun _ _ _ _=>rfl)) (fun _ _ _ _=>aax (jj (ai4 K P w) (qv 14) (zk (a2_ (qv 5) (qv 8))) (by with_unfolding_all rfl))) (fun _ _ _ _=>(qv 14))) (qk (j6 (E_ hu (qo jl (qv 2) qc) qc) (qk (qy (qx (qv 1) (a1_ (zn (a2_ (zk (js jc (js (qv 5) (a3_ (qv 8) (I_ (qv 4) qc) (I_ (qv 7) qc))))) (qv 13))))))) (qk (qy (qx (qv 1) (a1_ (zn (a2_ (zk (js jc (js (qv 8) (a3_ (qv 5) (I_ (qv 7) qc) (I_ (qv 4) qc))))) (qv 13)))))))))))))))))
theorem akj(F:Fun K "_law_cut" "_law_cut" wu f fd)(B:Bt K P w mg)(c__law_word:zo P w K mg base 121 "_law_word" ["_law_knots", "_law_p"] (jd 120))(c__law_flip:zo P w K mg base 121 "_law_flip" ["_law_word_here"] (vn 120))(c__law_weight:zo P w K mg base 121 "_law_weight" ["_law_word_here"] (aa9 120))(c__law_mirror:zo P w K mg base 127 "_law_mirror" ["_law_knots", "_law_word_here"] (aaa 5)):Fn3 P w K mg base 128 f fd ["_law_knots", "_law_forest", "_law_one", "_law_two"] (agp):=
 ok3 (k:=127) F afo (by rintro _ _ _ ⟨_,_,_,_,_,_,_,rfl,_⟩;rfl) fun cdv A outer s H E hr=>⟨_,als B (c__law_word.mono (by decide)) (c__law_flip.mono (by decide)) (c__law_weight.mono (by decide)) (c__law_mirror.mono (by decide)) hr,awz⟩
theorem al3{p__law_mix:Sp3}{p__law_name:Sp3}{p__law_fold:Sp3}{p__law_join:Sp3}{p__law_cut:Sp3}(B:Bt K P w mg)(c__law_mix:zo P w K mg base m "_law_mix" ["_law_cell", "_law_k", "_law_factor"] p__law_mix)(c__law_name:zo P w K mg base m "_law_name" ["_law_seed", "_law_which"] p__law_name)(c__law_fold:zo P w K mg base m "_law_fold" ["_law_knots", "_law_tree_here", "_law_one", "_law_two"] p__law_fold)(c__law_join:zo P w K mg base m "_law_join" ["_law_knots", "_law_forest", "_law_one", "_law_two"] p__law_join)(c__law_cut:zo P w K mg base m "_law_cut" ["_law_knots", "_law_forest", "_law_one", "_law_two"] p__law_cut)(hr:Room m (A.deeper (PyProof.Rows.envOfC "_law_tree" (qg ko) s.heap.objs.size f cdv))):
 QSs (xx CX0 P w K mg base ["_law_cells", "_law_seed", "_law_room", "_law_knots", "_law_forest", "_law_k", "_law_cell", "_law_one", "_law_two", "_law_deed", "_law_at"] "_law_tree" (qg ko) f cdv A outer s H E).nox (qw ko) (at7 p__law_mix p__law_name p__law_fold p__law_join p__law_cut):=by
 have sc:=adw;have hu:=huK hr;exact(qf (S_ 3 sc.nd (zn x6)) (qf (S_ 4 sc.nd (zn x6)) (qf (vj PassesOwn.never rfl (aed rfl B.b_enumerate (qv 0)) (vz rfl (z0 (G_ 5 sc.nd) (z0 (G_ 6 sc.nd) x0))) (qf (ats (i:=7) (j:=8) rfl sc.nd rfl rfl (by decide) rfl rfl (a2_ (ja c__law_mix hr rfl (a3_ (qv 6) (qv 5) qc)) (ja c__law_mix hr rfl (a3_ (qv 6) (qv 5) qc))) rfl) (qf (j6 (jj aur (qo jy (qo jy (ql (zd K P w) rfl B.b_len zc (a1_ (qv 3))) (ql (zd K P w) rfl B.b_len zc (a1_ (qv 4)))) qc) (qv 2) (xq _)) (qk amn) ze) (qf (S_ 9 sc.nd (qo jl (qv 7) qc)) (qf (S_ 7 sc.nd (qo k6 (qv 7) qc)) (qk (j6 (ve (aiz (jj an7 (qv 9) qc (xq _)) (afm (E_ hu (qv 4) (zn x6))))) (qf (qy (qx (qv 3) (a1_ (zk (a2_ jc (ja c__law_name hr rfl (a2_ (qv 1) (qo jl (qv 8) qc)))))))) (qf (qy (qx (qv 3) (a1_ (zk (a2_ jc (ja c__law_name hr rfl (a2_ (qv 1) (qo jl (qv 8) qc)))))))) (xi (j6 (E_ hu (qo jl (qv 7) qc) qc) (qk (qy (qx (qv 3) (a1_ (aaz (qv 3) (a1_ (qo ab5 (ql (zd K P w) rfl B.b_len zc (a1_ (qv 3))) qc))))))) ze) (qf (S_ 10 sc.nd (qo ab5 (ql (zd K P w) rfl B.b_len zc (a1_ (qv 3))) qc)) (qk (qy (qx (qv 4) (a1_ (zn (a2_ (zk (a3_ jc (qv 10) (qo jy (qv 10) qc))) (zn (a2_ (qv 10) (qo jy (qv 10) qc))))))))))))) (qk (j6 (jj an7 (qv 9) qc (xq _)) (qk (qy (ja c__law_fold hr rfl (js (qv 3) (a3_ (I_ (qv 4) (qo jl (qv 8) (ql (zd K P w) rfl B.b_len zc (a1_ (qv 4))))) (qv 7) (qo k6 (qv 8) qc)))))) (qk (j6 (ve (vi (jj an7 (qv 9) qc (xq _)) (x4 (jj aur (ql (zd K P w) rfl B.b_len zc (a1_ (qv 4))) qc (xq _))))) (qk (qy (ja c__law_join hr rfl (js (qv 3) (a3_ (qv 4) (qv 7) (qv 8)))))) (qk (qy (ja c__law_cut hr rfl (js (qv 3) (a3_ (qv 4) (qv 7) (qv 8))))))))))))))))) (xi (j6 (E_ hu (qv 4) (zn x6)) (qf (qy (qx (qv 3) (a1_ (zk (a2_ jc (ja c__law_name hr rfl (a2_ (qv 1) qc))))))) (qf (qy (qx (qv 3) (a1_ (zk (a2_ jc (ja c__law_name hr rfl (a2_ (qv 1) qc))))))) (qk (qy (qx (qv 4) (a1_ (zn (a2_ (zk (a3_ jc qc qc)) (zn (a2_ qc qc)))))))))) ze) (qf (ahk PassesOwn.never (jj aur (ql (zd K P w) rfl B.b_len zc (a1_ (qv 4))) qc (xq _)) (qk (qy (ja c__law_join hr rfl (js (qv 3) (a3_ (qv 4) (qo jy (qo k6 (qv 1) qc) (ql (zd K P w) rfl B.b_len zc (a1_ (qv 4)))) (qo k6 (qv 1) qc))))))) (qk (zf (zk (a2_ (qv 3) (I_ (I_ (qv 4) qc) qc))))))))))
theorem aip(F:Fun K "_law_tree" "_law_tree" ko f fd)(B:Bt K P w mg)(c__law_mix:zo P w K mg base 1 "_law_mix" ["_law_cell", "_law_k", "_law_factor"] (aa4))(c__law_name:zo P w K mg base 1 "_law_name" ["_law_seed", "_law_which"] (adu))(c__law_fold:zo P w K mg base 1 "_law_fold" ["_law_knots", "_law_tree_here", "_law_one", "_law_two"] (af0))(c__law_join:zo P w K mg base 1 "_law_join" ["_law_knots", "_law_forest", "_law_one", "_law_two"] (agm))(c__law_cut:zo P w K mg base 128 "_law_cut" ["_law_knots", "_law_forest", "_law_one", "_law_two"] (agp)):Fn3 P w K mg base 129 f fd ["_law_cells", "_law_seed", "_law_room"] (ah2):=
 ok3 (k:=128) F adw (by rintro _ _ _ ⟨_,_,_,_,rfl,_⟩;rfl) fun cdv A outer s H E hr=>⟨_,al3 B (c__law_mix.mono (by decide)) (c__law_name.mono (by decide)) (c__law_fold.mono (by decide)) (c__law_join.mono (by decide)) (c__law_cut.mono (by decide)) hr,avy⟩
theorem al5(B:Bt K P w mg)(hr:Room m (A.deeper (PyProof.Rows.envOfC "_law_told" (qg kc) s.heap.objs.size f cdv))):
 QSs (xx CX0 P w K mg base ["_law_rule", "_law_links", "_law_cuts", "_law_todo", "_law_here"] "_law_told" (qg kc) f cdv A outer s H E).nox (qw kc) ag4:=by
 have sc:=aez;have hu:=huK hr;exact(qf (aww (i:=1) (j:=2) (k:=3) rfl sc.nd rfl rfl rfl (by decide) (by decide) (by decide) rfl rfl rfl (a3_ (zn x6) (zn x6) (zn (a1_ (qv 0)))) rfl) (qf (ahk PassesOwn.never (N_ hu (qv 3) (zn x6)) (qf (S_ 4 sc.nd (att (qv 3))) (xi (j6 (E_ hu (I_ (qv 4) qc) jc) (qk (qy (qx (qv 1) (a1_ (zk (a2_ (I_ (qv 4) qc) (I_ (qv 4) qc))))))) ze) (xi (j6 (E_ hu (I_ (qv 4) qc) jc) (qk (qy (qx (qv 2) (a1_ (zk (a2_ (I_ (qv 4) qc) (I_ (qv 4) qc))))))) ze) (qk (qy (wm (qv 3) (a1_ (afw ["_law_arm"] (compOk.mk (by rfl)) rfl (ayz (adz (a13 K P w) (qv 4) (ae7 qc) aku)) (vo (by show List.Nodup (["_law_rule", "_law_links" , "_law_cuts" , "_law_todo" , "_law_here" , "_law_arm" ]:List Str);decide +kernel) (fun _ _ _ _=>Or.inl rfl) (fun _ _ _ _=>rfl)) (fun _ _ _ _=>aax (vh (v9 .tuple rfl B.b_isinstance rfl B.b_tuple ae8 (qv 5)))) (fun _ _ _ _=>(qv 5))))))))))) (qk (zf (zk (a2_ (ql aen rfl B.b_sorted ab7 (a1_ (qv 1))) (ql aen rfl B.b_sorted ab7 (a1_ (qv 2)))))))))
theorem ait(F:Fun K "_law_told" "_law_told" kc f fd)(B:Bt K P w mg):Fn3 P w K mg base 1 f fd ["_law_rule"] (agk):=
 ok3 (k:=0) F aez (by rintro _ _ _ ⟨_,rfl,_⟩;rfl) fun cdv A outer s H E hr=>⟨_,al5 B hr,ave⟩
theorem agf(B:Bt K P w mg)(hr:Room m (A.deeper (PyProof.Rows.envOfC "_law_crossed" (qg x5) s.heap.objs.size f cdv))):
 QSs (xx CX0 P w K mg base ["_law_knots", "_law_links", "_law_one", "_law_two", "_law_first", "_law_mates", "_law_second", "_law_a", "_law_b", "_law_c", "_law_d", "_law_rest"] "_law_crossed" (qg x5) f cdv A outer s H E).nox (qw x5) ac9:=by
 have sc:=abz;have hu:=huK hr;exact(qf (ku (i:=4) sc.nd rfl (Or.inr rfl) (I_ (qv 1) (qo jl (qv 2) (ql (zd K P w) rfl B.b_len zc (a1_ (qv 1)))))) (qf (aba ["_law_x"] (i:=5) sc.nd rfl (Or.inl rfl) (compOk.mk (by rfl)) rfl (ju (qv 1)) (vo (by show List.Nodup (["_law_knots", "_law_links" , "_law_one" , "_law_two" , "_law_first" , "_law_mates" , "_law_second" , "_law_a" , "_law_b" , "_law_c" , "_law_d" , "_law_rest" , "_law_x" ]:List Str);decide +kernel) (fun _ _ _ _=>Or.inl rfl) (fun _ _ _ _=>rfl)) (fun _ _ _ _=>aax (ve (vi (N_ hu (qv 12) (qv 4)) (x4 (E_ hu (I_ (I_ (qv 0) (I_ (qv 12) qc)) qc) (I_ (I_ (qv 0) (I_ (qv 4) qc)) qc)))))) (fun _ _ _ _=>(qv 12))) (qf (j6 (E_ hu (qv 5) (zn x6)) (qk (zf (qv 1))) ze) (qf (ku (i:=6) sc.nd rfl (Or.inr rfl) (I_ (qv 5) (qo jl (qv 3) (ql (zd K P w) rfl B.b_len zc (a1_ (qv 5)))))) (qf (ack (ace (E_ hu (I_ (I_ (qv 0) (I_ (qv 4) qc)) qc) jc) (qv 4) (zk (a2_ (I_ (qv 4) qc) (I_ (qv 4) qc)))) (vz rfl (z0 (G_ 7 sc.nd) (z0 (G_ 8 sc.nd) x0)))) (qf (ack (ace (E_ hu (I_ (I_ (qv 0) (I_ (qv 6) qc)) qc) jc) (qv 6) (zk (a2_ (I_ (qv 6) qc) (I_ (qv 6) qc)))) (vz rfl (z0 (G_ 9 sc.nd) (z0 (G_ 10 sc.nd) x0)))) (qf (aba ["_law_x"] (i:=11) sc.nd rfl (Or.inl rfl) (compOk.mk (by rfl)) rfl (ju (qv 1)) (vo (by show List.Nodup (["_law_knots", "_law_links" , "_law_one" , "_law_two" , "_law_first" , "_law_mates" , "_law_second" , "_law_a" , "_law_b" , "_law_c" , "_law_d" , "_law_rest" , "_law_x" ]:List Str);decide +kernel) (fun _ _ _ _=>Or.inl rfl) (fun _ _ _ _=>rfl)) (fun _ _ _ _=>aax (ve (vi (N_ hu (qv 12) (qv 4)) (x4 (N_ hu (qv 12) (qv 6)))))) (fun _ _ _ _=>(qv 12))) (qk (zf (ql aen rfl B.b_sorted ab7 (a1_ (qo jy (qv 11) (zn (a2_ (zk (a2_ (ql apo rfl B.b_min akh (a2_ (qv 7) (qv 10))) (ql aph rfl B.b_max akb (a2_ (qv 7) (qv 10))))) (zk (a2_ (ql apo rfl B.b_min akh (a2_ (qv 9) (qv 8))) (ql aph rfl B.b_max akb (a2_ (qv 9) (qv 8)))))))))))))))))))
theorem afd(F:Fun K "_law_crossed" "_law_crossed" x5 f fd)(B:Bt K P w mg):Fn3 P w K mg base 1 f fd ["_law_knots", "_law_links", "_law_one", "_law_two"] (abp):=
 ok3 (k:=0) F abz (by rintro _ _ _ ⟨_,_,_,_,_,_,rfl,_⟩;rfl) fun cdv A outer s H E hr=>⟨_,agf B hr,aoo⟩
theorem agc(B:Bt K P w mg)(hr:Room m (A.deeper (PyProof.Rows.envOfC "_law_beneath" (qg xb) s.heap.objs.size f cdv))):
 QSs (xx CX0 P w K mg base ["_law_knots", "_law_cuts", "_law_todo", "_law_p", "_law_q", "_law_beneath_here"] "_law_beneath" (qg xb) f cdv A outer s H E).nox (qw xb) acr:=by
 have sc:=abv;have hu:=huK hr;exact(qf (S_ 2 sc.nd (zn x6)) (qf (vj PassesOwn.never rfl (ju (qv 1)) (vz rfl (z0 (G_ 3 sc.nd) (z0 (G_ 4 sc.nd) x0))) (qk (qy (wm (qv 2) (a1_ (zn (a2_ (qv 3) (qv 4)))))))) (qf (S_ 5 sc.nd (zn x6)) (qf (ahk PassesOwn.never (N_ hu (qv 2) (zn x6)) (qf (S_ 3 sc.nd (att (qv 2))) (qf (qy (qx (qv 5) (a1_ (qv 3)))) (qk (j6 (E_ hu (ql (zd K P w) rfl B.b_len zc (a1_ (I_ (qv 0) (qv 3)))) qc) (qk (qy (wm (qv 2) (a1_ (zn (a2_ (I_ (I_ (qv 0) (qv 3)) qc) (I_ (I_ (qv 0) (qv 3)) qc))))))) ze))))) (qk (zf (qv 5)))))))
theorem afg(F:Fun K "_law_beneath" "_law_beneath" xb f fd)(B:Bt K P w mg):Fn3 P w K mg base 1 f fd ["_law_knots", "_law_cuts"] (abo):=
 ok3 (k:=0) F abv (by rintro _ _ _ ⟨_,_,_,_,rfl,_⟩;rfl) fun cdv A outer s H E hr=>⟨_,agc B hr,ant⟩
theorem ai6{p__law_beneath:Sp3}{p__law_mix:Sp3}(B:Bt K P w mg)(c__law_beneath:zo P w K mg base m "_law_beneath" ["_law_knots", "_law_cuts"] p__law_beneath)(c__law_mix:zo P w K mg base m "_law_mix" ["_law_cell", "_law_k", "_law_factor"] p__law_mix)(hr:Room m (A.deeper (PyProof.Rows.envOfC "_law_recast" (qg xh) s.heap.objs.size f cdv))):
 QSs (xx CX0 P w K mg base ["_law_knots", "_law_cuts", "_law_seed", "_law_most", "_law_kept", "_law_parts", "_law_knot", "_law_many", "_law_made", "_law_p", "_law_bits"] "_law_recast" (qg xh) f cdv A outer s H E).nox (qw xh) (ad3 p__law_beneath p__law_mix):=by
 have sc:=acg;have hu:=huK hr;exact(qf (S_ 4 sc.nd (ja c__law_beneath hr rfl (a2_ (qv 0) (qv 1)))) (qf (S_ 5 sc.nd (zn x6)) (qf (vj PassesOwn.never rfl (ju (qv 0)) (G_ 6 sc.nd) (qk (j6 (E_ hu (ql (zd K P w) rfl B.b_len zc (a1_ (qv 6))) qc) (qk (qy (wm (qv 5) (a1_ (zn (a2_ (I_ (qv 6) qc) (I_ (qv 6) qc))))))) ze))) (qf (aeh "_law_knot'" (ku (i:=7) (by show List.Nodup (["_law_knots", "_law_cuts" , "_law_seed" , "_law_most" , "_law_kept" , "_law_parts" , "_law_knot'" , "_law_many" , "_law_made" , "_law_p" , "_law_bits" ]:List Str);decide +kernel) rfl (Or.inl rfl) (ql (zd K P w) rfl B.b_len zc (a1_ (afw ["_law_knot"] (compOk.mk (by rfl)) rfl (ju (qv 0)) (vo (by show List.Nodup (["_law_knots", "_law_cuts" , "_law_seed" , "_law_most" , "_law_kept" , "_law_parts" , "_law_knot'" , "_law_many" , "_law_made" , "_law_p" , "_law_bits" , "_law_knot" ]:List Str);decide +kernel) (fun _ _ _ _=>Or.inl rfl) (fun _ _ _ _=>rfl)) (fun _ _ _ _=>aax (E_ hu (I_ (qv 11) qc) jc)) (fun _ _ _ _=>(qv 11))))))) (qf (S_ 8 sc.nd (zn x6)) (qf (vj PassesOwn.never rfl (aed rfl B.b_enumerate (qv 0)) (vz rfl (z0 (G_ 9 sc.nd) (z0 (G_ 6 sc.nd) x0))) (qf (S_ 10 sc.nd (qo jl (ja c__law_mix hr rfl (a3_ (qv 2) (qv 9) qc)) qc)) (qk (j6 (ve (aiz (E_ hu (ql (zd K P w) rfl B.b_len zc (a1_ (qv 6))) qc) (afm (jj (ax8 K P w) (qv 9) (qv 4) (by with_unfolding_all rfl))))) (qk (qy (qx (qv 8) (a1_ (qv 6))))) (qk (j6 (E_ hu (qo jl (qo k6 (qv 2) qc) qc) qc) (qk (qy (qx (qv 8) (a1_ (ace (ve (vi (E_ hu (qo jl (qv 10) qc) qc) (x4 (jj (ai4 K P w) (qv 9) (qv 5) (by with_unfolding_all rfl))))) ai9 (qv 6)))))) (qk (j6 (ve (vi (jj an7 (qv 10) qc (xq _)) (x4 (E_ hu (I_ (qv 6) qc) jc)))) (qf (qy (qx (qv 8) (a1_ (zk (a3_ jc (I_ (qv 6) qc) (I_ (qv 6) qc)))))) (qk (S_ 7 sc.nd (qo ab5 (qv 7) qc)))) (qk (j6 (ve (vi (jj an7 (qv 10) qc (xq _)) (x4 (jj an7 (qv 7) (qv 3) (xq _))))) (qf (qy (qx (qv 8) (a1_ (zk (a3_ jc (I_ (qv 6) qc) (I_ (qv 6) qc)))))) (qk (S_ 7 sc.nd (qo jy (qv 7) qc)))) (qk (qy (qx (qv 8) (a1_ (qv 6))))))))))))))) (qk (zf (qv 8)))))))))
theorem agh(F:Fun K "_law_recast" "_law_recast" xh f fd)(B:Bt K P w mg)(c__law_beneath:zo P w K mg base 1 "_law_beneath" ["_law_knots", "_law_cuts"] (abo))(c__law_mix:zo P w K mg base 1 "_law_mix" ["_law_cell", "_law_k", "_law_factor"] (aa4)):Fn3 P w K mg base 2 f fd ["_law_knots", "_law_cuts", "_law_seed", "_law_most"] (acw):=
 ok3 (k:=1) F acg (by rintro _ _ _ ⟨_,_,_,_,_,_,rfl,_⟩;rfl) fun cdv A outer s H E hr=>⟨_,ai6 B (c__law_beneath.mono (by decide)) (c__law_mix.mono (by decide)) hr,ard⟩
theorem aiy{p__law_mix:Sp3}(B:Bt K P w mg)(c__law_mix:zo P w K mg base m "_law_mix" ["_law_cell", "_law_k", "_law_factor"] p__law_mix)(C:LamC K cdv Pt)(hr:Room m (A.deeper (PyProof.Rows.envOfC "_law_order" (qg s__law_order) s.heap.objs.size f cdv))):
 QSs (xx CX0 P w K mg base ["_law_knots", "_law_seed", "_law_keys", "_law_p", "_law_knot", "_law_rank"] "_law_order" (qg s__law_order) f cdv A outer s H E).nox (qw s__law_order) (aep Pt p__law_mix):=by
 have sc:=ad7;have hu:=huK hr;exact(qf (ku (i:=2) sc.nd rfl (Or.inr rfl) (zn x6)) (qf (vj PassesOwn.never rfl (aed rfl B.b_enumerate (qv 0)) (vz rfl (z0 (G_ 3 sc.nd) (z0 (G_ 4 sc.nd) x0))) (qf (S_ 5 sc.nd (qo jl (ja c__law_mix hr rfl (a3_ (qv 1) (qv 3) qc)) qc)) (xi (j6 (ve (vi (abj (qv 4)) (x4 (E_ hu (ql (zd K P w) rfl B.b_len zc (a1_ (qv 4))) qc)))) (qk (S_ 5 sc.nd (qo jy (qo jy (qv 5) qc) (ql aph rfl B.b_max akb (a2_ (I_ (qv 2) (I_ (qv 4) qc)) (I_ (qv 2) (I_ (qv 4) qc))))))) ze) (qk (qy (qx (qv 2) (a1_ (qv 5)))))))) (qk (zf (aue rfl B.b_sorted (aos rfl rfl B.b_list rfl B.b_range (ql (zd K P w) rfl B.b_len zc (a1_ (qv 0)))) ⟨rfl,rfl,rfl,by decide +kernel,rfl,rfl,by decide,by decide,by decide⟩ C (dp3 hr) rfl rfl rfl ⟨_,rfl,rfl⟩ rfl (fun _ _ _ _ _ _ _=>rfl))))))
theorem aia(F:FunT K "_law_order" "_law_order" s__law_order f fd Pt)(B:Bt K P w mg)(c__law_mix:zo P w K mg base 1 "_law_mix" ["_law_cell", "_law_k", "_law_factor"] (aa4)):Fn3 P w K mg base 2 f fd ["_law_knots", "_law_seed"] (aeg Pt):=
 a1z (k:=1) F ad7 (by rintro _ _ _ ⟨_,_,_,rfl,_⟩;rfl) fun cdv A outer s H E C hr=>⟨_,aiy B (c__law_mix.mono (by decide)) C hr,aua⟩
theorem aha{p__law_order:Sp3}{p__law_mix:Sp3}(B:Bt K P w mg)(c__law_order:zo P w K mg base m "_law_order" ["_law_knots", "_law_seed"] p__law_order)(c__law_mix:zo P w K mg base m "_law_mix" ["_law_cell", "_law_k", "_law_factor"] p__law_mix)(hr:Room m (A.deeper (PyProof.Rows.envOfC "_law_gapped" (qg xj) s.heap.objs.size f cdv))):
 QSs (xx CX0 P w K mg base ["_law_knots", "_law_links", "_law_cuts", "_law_seed", "_law_gaps", "_law_at", "_law_wide", "_law_p", "_law_knot"] "_law_gapped" (qg xj) f cdv A outer s H E).nox (qw xj) (ad9 p__law_order p__law_mix):=by
 have sc:=ac8;have hu:=huK hr;exact(qf (ku (i:=5) sc.nd rfl (Or.inr rfl) aun) (qf (S_ 6 sc.nd (zn x6)) (qf (vj PassesOwn.never rfl (ju (ja c__law_order hr rfl (a2_ (qv 0) (qv 3)))) (G_ 7 sc.nd) (xi (j6 (ve (vi (vh (qv 4)) (x4 (E_ hu (qo jl (ja c__law_mix hr rfl (a3_ (qv 3) (qv 7) qc)) qc) qc)))) (qk (qy (qx (qv 6) (a1_ ai9)))) ze) (qf (aup hu (qv 5) (qv 7) (ql (zd K P w) rfl B.b_len zc (a1_ (qv 6)))) (qf (S_ 8 sc.nd (I_ (qv 0) (qv 7))) (xi (j6 (ve (vi (abj (qv 8)) (x4 (E_ hu (ql (zd K P w) rfl B.b_len zc (a1_ (qv 8))) qc)))) (qk (S_ 8 sc.nd (zk (a3_ (I_ (qv 8) qc) (aaw hu (qv 5) (I_ (qv 8) qc) (fun _ _=>rfl)) (aaw hu (qv 5) (I_ (qv 8) qc) (fun _ _=>rfl)))))) ze) (qk (qy (qx (qv 6) (a1_ (qv 8)))))))))) (qf (aeh "_law_p'" (ku (i:=1) (by show List.Nodup (["_law_knots", "_law_links" , "_law_cuts" , "_law_seed" , "_law_gaps" , "_law_at" , "_law_wide" , "_law_p'" , "_law_knot" ]:List Str);decide +kernel) rfl (Or.inl rfl) (ql aen rfl B.b_sorted ab7 (a1_ (afw ["_law_p", "_law_q" ] (compOk.mk (by rfl)) rfl (ju (qv 1)) (agx rfl (by show List.Nodup (["_law_knots", "_law_links" , "_law_cuts" , "_law_seed" , "_law_gaps" , "_law_at" , "_law_wide" , "_law_p'" , "_law_knot" , "_law_p" , "_law_q" ]:List Str);decide +kernel) (fun _ _ _ _=>rfl) (fun _ _ _ _=>rfl)) (fun _ _ _ _=>akn) (fun _ _ _ _=>(zk (a2_ (ql apo rfl B.b_min akh (a2_ (aaw hu (qv 5) (qv 9) (fun _ _=>rfl)) (aaw hu (qv 5) (qv 10) (fun _ _=>rfl)))) (ql aph rfl B.b_max akb (a2_ (aaw hu (qv 5) (qv 9) (fun _ _=>rfl)) (aaw hu (qv 5) (qv 10) (fun _ _=>rfl)))))))))))) (qf (aeh "_law_p'" (ku (i:=2) (by show List.Nodup (["_law_knots", "_law_links" , "_law_cuts" , "_law_seed" , "_law_gaps" , "_law_at" , "_law_wide" , "_law_p'" , "_law_knot" ]:List Str);decide +kernel) rfl (Or.inl rfl) (ql aen rfl B.b_sorted ab7 (a1_ (afw ["_law_p", "_law_q" ] (compOk.mk (by rfl)) rfl (ju (qv 2)) (agx rfl (by show List.Nodup (["_law_knots", "_law_links" , "_law_cuts" , "_law_seed" , "_law_gaps" , "_law_at" , "_law_wide" , "_law_p'" , "_law_knot" , "_law_p" , "_law_q" ]:List Str);decide +kernel) (fun _ _ _ _=>rfl) (fun _ _ _ _=>rfl)) (fun _ _ _ _=>akn) (fun _ _ _ _=>(zk (a2_ (aaw hu (qv 5) (qv 9) (fun _ _=>rfl)) (aaw hu (qv 5) (qv 10) (fun _ _=>rfl)))))))))) (qk (zf (zk (a3_ (qo jy (qv 6) (afw ["_law_k"] (compOk.mk (by rfl)) rfl (aaf rfl B.b_range (a1_ (aex ayk rfl B.b_int aoi (a1_ (qv 4))))) (vo (by show List.Nodup (["_law_knots", "_law_links" , "_law_cuts" , "_law_seed" , "_law_gaps" , "_law_at" , "_law_wide" , "_law_p" , "_law_knot" , "_law_k" ]:List Str);decide +kernel) (fun _ _ _ _=>Or.inl rfl) (fun _ _ _ _=>rfl)) (fun _ _ _ _=>akn) (fun _ _ _ _=>ai9))) (qv 1) (qv 2))))))))))
theorem age(F:Fun K "_law_gapped" "_law_gapped" xj f fd)(B:Bt K P w mg)(c__law_order:zo P w K mg base 2 "_law_order" ["_law_knots", "_law_seed"] (aeg Pt))(c__law_mix:zo P w K mg base 1 "_law_mix" ["_law_cell", "_law_k", "_law_factor"] (aa4)):Fn3 P w K mg base 3 f fd ["_law_knots", "_law_links", "_law_cuts", "_law_seed", "_law_gaps"] (acy Pt):=
 ok3 (k:=2) F ac8 (by rintro _ _ _ ⟨_,_,_,_,_,_,_,_,rfl,_⟩;rfl) fun cdv A outer s H E hr=>⟨_,aha B (c__law_order.mono (by decide)) (c__law_mix.mono (by decide)) hr,arc⟩
theorem an0{p__law_mix:Sp3}{p__law_tree:Sp3}{p__law_told:Sp3}{p__law_crossed:Sp3}{p__law_recast:Sp3}{p__law_gapped:Sp3}(B:Bt K P w mg)(c__law_mix:zo P w K mg base m "_law_mix" ["_law_cell", "_law_k", "_law_factor"] p__law_mix)(c__law_tree:zo P w K mg base m "_law_tree" ["_law_cells", "_law_seed", "_law_room"] p__law_tree)(c__law_told:zo P w K mg base m "_law_told" ["_law_rule"] p__law_told)(c__law_crossed:zo P w K mg base m "_law_crossed" ["_law_knots", "_law_links", "_law_one", "_law_two"] p__law_crossed)(c__law_recast:zo P w K mg base m "_law_recast" ["_law_knots", "_law_cuts", "_law_seed", "_law_most"] p__law_recast)(c__law_gapped:zo P w K mg base m "_law_gapped" ["_law_knots", "_law_links", "_law_cuts", "_law_seed", "_law_gaps"] p__law_gapped)(hr:Room m (A.deeper (PyProof.Rows.envOfC "_law_web" (qg ww) s.heap.objs.size f cdv))):
 QSs (xx CX0 P w K mg base ["_law_script", "_law_seed", "_law_room", "_law_most", "_law_bits", "_law_gaps", "_law_knots", "_law_rule", "_law_links", "_law_cuts", "_law_k"] "_law_web" (qg ww) f cdv A outer s H E).nox (qw ww) (ah4 p__law_mix p__law_tree p__law_told p__law_crossed p__law_recast p__law_gapped):=by
 have sc:=ag3;have hu:=huK hr;exact(qf (S_ 4 sc.nd (ja c__law_mix hr rfl (a3_ (qv 1) qc qc))) (qf (S_ 5 sc.nd (ael (anh K P w hu) (qo jl (qv 4) qc) qc (xq _))) (xi (j6 (vh (qv 5)) (qk (S_ 2 sc.nd (ql apo rfl B.b_min akh (a2_ (qv 2) qc)))) ze) (qf (ack (ja c__law_tree hr rfl (a3_ (qv 0) (qv 1) (qv 2))) (vz rfl (z0 (G_ 6 sc.nd) (z0 (G_ 7 sc.nd) x0)))) (qf (ack (ja c__law_told hr rfl (a1_ (qv 7))) (vz rfl (z0 (G_ 8 sc.nd) (z0 (G_ 9 sc.nd) x0)))) (qf (vj PassesOwn.never rfl (aaf rfl B.b_range (a1_ (qo jl (qo k6 (qv 4) qc) qc))) (G_ 10 sc.nd) (qk (S_ 8 sc.nd (ja c__law_crossed hr rfl (js (qv 6) (a3_ (qv 8) (ja c__law_mix hr rfl (a3_ (qv 1) (qo jy qc (qv 10)) qc)) (ja c__law_mix hr rfl (a3_ (qv 1) (qo jy qc (qv 10)) qc)))))))) (xi (j6 (E_ hu (qo jl (qo k6 (qv 4) qc) qc) qc) (qk (S_ 6 sc.nd (ja c__law_recast hr rfl (js (qv 6) (a3_ (qv 9) (qv 1) (qv 3)))))) ze) (qk (zf (ja c__law_gapped hr rfl (js (qv 6) (js (qv 8) (a3_ (qv 9) (qv 1) (qv 5))))))))))))))
theorem akw(F:Fun K "_law_web" "_law_web" ww f fd)(B:Bt K P w mg)(c__law_mix:zo P w K mg base 1 "_law_mix" ["_law_cell", "_law_k", "_law_factor"] (aa4))(c__law_tree:zo P w K mg base 129 "_law_tree" ["_law_cells", "_law_seed", "_law_room"] (ah2))(c__law_told:zo P w K mg base 1 "_law_told" ["_law_rule"] (agk))(c__law_crossed:zo P w K mg base 1 "_law_crossed" ["_law_knots", "_law_links", "_law_one", "_law_two"] (abp))(c__law_recast:zo P w K mg base 2 "_law_recast" ["_law_knots", "_law_cuts", "_law_seed", "_law_most"] (acw))(c__law_gapped:zo P w K mg base 3 "_law_gapped" ["_law_knots", "_law_links", "_law_cuts", "_law_seed", "_law_gaps"] (acy Pt)):Fn3 P w K mg base 130 f fd ["_law_script", "_law_seed", "_law_room", "_law_most"] (ak2 Pt):=
 ok3 (k:=129) F ag3 (by rintro _ _ _ ⟨_,_,_,_,_,rfl,_⟩;rfl) fun cdv A outer s H E hr=>⟨_,an0 B (c__law_mix.mono (by decide)) (c__law_tree.mono (by decide)) (c__law_told.mono (by decide)) (c__law_crossed.mono (by decide)) (c__law_recast.mono (by decide)) (c__law_gapped.mono (by decide)) hr,az0⟩
theorem ajy(B:Bt K P w mg)(hr:Room m (A.deeper (PyProof.Rows.envOfC "_law_copy" (qg kh) s.heap.objs.size f cdv))):
 QSs (xx CX0 P w K mg base ["_law_web_here"] "_law_copy" (qg kh) f cdv A outer s H E).nox (qw kh) afy:=by
 have sc:=aei;have hu:=huK hr;exact(qk (zf (zk (a3_ (aex ah3 rfl B.b_list abi (a1_ (I_ (qv 0) qc))) (aex ah3 rfl B.b_list abi (a1_ (I_ (qv 0) qc))) (aex ah3 rfl B.b_list abi (a1_ (I_ (qv 0) qc)))))))
theorem ais(F:Fun K "_law_copy" "_law_copy" kh f fd)(B:Bt K P w mg):Fn3 P w K mg base 1 f fd ["_law_web_here"] (ah0):=
 ok3 (k:=0) F aei (by rintro _ _ _ ⟨_,_,_,_,_,_,rfl,_⟩;rfl) fun cdv A outer s H E hr=>⟨_,ajy B hr,awh⟩
theorem ayv{p__law_web:Sp3}{p__law_cell_at:Sp3}{p__law_copy:Sp3}{p__law_same:Sp3}{p_eithers_of:Sp3}{p_ends_of:Sp3}{p__law_word:Sp3}{p_word_at:Sp3}{p__law_flip:Sp3}(B:Bt K P w mg)(c__law_web:zo P w K mg base m "_law_web" ["_law_script", "_law_seed", "_law_room", "_law_most"] p__law_web)(c__law_cell_at:zo P w K mg base m "_law_cell_at" ["_law_script", "_law_k"] p__law_cell_at)(c__law_copy:zo P w K mg base m "_law_copy" ["_law_web_here"] p__law_copy)(c__law_same:zo P w K mg base m "_law_same" ["_law_found", "_law_due"] p__law_same)(c_eithers_of:zo P w K mg base m "eithers_of" ["web"] p_eithers_of)(c_ends_of:zo P w K mg base m "ends_of" ["web"] p_ends_of)(c__law_word:zo P w K mg base m "_law_word" ["_law_knots", "_law_p"] p__law_word)(c_word_at:zo P w K mg base m "word_at" ["knots", "place"] p_word_at)(c__law_flip:zo P w K mg base m "_law_flip" ["_law_word_here"] p__law_flip)(hr:Room m (A.deeper (PyProof.Rows.envOfC "law" (qg af1) s.heap.objs.size f cdv))):
 QSs (xx CX0 P w K mg base ["_law_script", "_law_web_here", "_law_knots", "_law_links", "_law_cuts", "_law_used", "_law_knot", "_law_p", "_law_q", "_law_ends", "_law_eithers", "_law_handed"] "law" (qg af1) f cdv A outer s H E).nox (qw af1) (apn p__law_web p__law_cell_at p__law_copy p__law_same p_eithers_of p_ends_of p__law_word p_word_at p__law_flip):=by
 have sc:=at5;have hu:=huK hr;exact(qf (S_ 1 sc.nd (ja c__law_web hr rfl (js (qv 0) (a3_ (qo jl (ja c__law_cell_at hr rfl (a2_ (qv 0) qc)) (qo a0e qc qc)) qc qc)))) (qf (ack (qv 1) (vz rfl (z0 (ae4 (i:=2) sc.nd rfl (Or.inr rfl)) (z0 (G_ 3 sc.nd) (z0 (G_ 4 sc.nd) x0))))) (qf (ku (i:=5) sc.nd rfl (Or.inr rfl) (zn x6)) (qf (vj PassesOwn.never rfl (ju (qv 2)) (G_ 6 sc.nd) (qk (j6 (ve (vi (abj (qv 6)) (x4 (E_ hu (ql (zd K P w) rfl B.b_len zc (a1_ (qv 6))) qc)))) (qk (qy (wm (qv 5) (a1_ (zn (a2_ (I_ (qv 6) qc) (I_ (qv 6) qc))))))) ze))) (qf (vj PassesOwn.never rfl (ju (qv 4)) (vz rfl (z0 (G_ 7 sc.nd) (z0 (G_ 8 sc.nd) x0))) (qk (qy (wm (qv 5) (a1_ (zn (a2_ (qv 7) (qv 8)))))))) (qf (aeh "_law_p'" (aba ["_law_p"] (i:=9) (by show List.Nodup (["_law_script", "_law_web_here" , "_law_knots" , "_law_links" , "_law_cuts" , "_law_used" , "_law_knot" , "_law_p'" , "_law_q" , "_law_ends" , "_law_eithers" , "_law_handed" ]:List Str);decide +kernel) rfl (Or.inl rfl) (compOk.mk (by rfl)) rfl (aaf rfl B.b_range (a1_ (ql (zd K P w) rfl B.b_len zc (a1_ (qv 2))))) (vo (by show List.Nodup (["_law_script", "_law_web_here" , "_law_knots" , "_law_links" , "_law_cuts" , "_law_used" , "_law_knot" , "_law_p'" , "_law_q" , "_law_ends" , "_law_eithers" , "_law_handed" , "_law_p" ]:List Str);decide +kernel) (fun _ _ _ _=>Or.inl rfl) (fun _ _ _ _=>rfl)) (fun _ _ _ _=>aax (ve (vi (abj (I_ (qv 2) (qv 12))) (x4 (jj (ai4 K P w) (qv 12) (qv 5) (by with_unfolding_all rfl)))))) (fun _ _ _ _=>(qv 12)))) (qf (aeh "_law_p'" (aba ["_law_p"] (i:=10) (by show List.Nodup (["_law_script", "_law_web_here" , "_law_knots" , "_law_links" , "_law_cuts" , "_law_used" , "_law_knot" , "_law_p'" , "_law_q" , "_law_ends" , "_law_eithers" , "_law_handed" ]:List Str);decide +kernel) rfl (Or.inl rfl) (compOk.mk (by rfl)) rfl (aaf rfl B.b_range (a1_ (ql (zd K P w) rfl B.b_len zc (a1_ (qv 2))))) (vo (by show List.Nodup (["_law_script", "_law_web_here" , "_law_knots" , "_law_links" , "_law_cuts" , "_law_used" , "_law_knot" , "_law_p'" , "_law_q" , "_law_ends" , "_law_eithers" , "_law_handed" , "_law_p" ]:List Str);decide +kernel) (fun _ _ _ _=>Or.inl rfl) (fun _ _ _ _=>rfl)) (fun _ _ _ _=>aax (ve (vi (abj (I_ (qv 2) (qv 12))) (x4 (E_ hu (I_ (I_ (qv 2) (qv 12)) qc) jc))))) (fun _ _ _ _=>(qv 12)))) (qf (S_ 11 sc.nd (ja c__law_copy hr rfl (a1_ (qv 1)))) (qf (j6 (ve (aiz (afc (vh (ja c__law_same hr rfl (a2_ (ja c_ends_of hr rfl (a1_ (qv 11))) (qv 9))))) (afm (afc (vh (ja c__law_same hr rfl (a2_ (ja c_eithers_of hr rfl (a1_ (qv 11))) (qv 10)))))))) (qk (zf afq)) ze) (qf (vj PassesOwn.never rfl (ju (qv 9)) (G_ 7 sc.nd) (qk (j6 (afc (vh (ja c__law_same hr rfl (a2_ (ja c_word_at hr rfl (a2_ (I_ (qv 11) qc) (qv 7))) (ja c__law_word hr rfl (a2_ (qv 2) (qv 7))))))) (qk (zf afq)) ze))) (qf (vj PassesOwn.never rfl (ju (qv 4)) (vz rfl (z0 (G_ 7 sc.nd) (z0 (G_ 8 sc.nd) x0))) (qf (j6 (afc (vh (ja c__law_same hr rfl (a2_ (ja c_word_at hr rfl (a2_ (I_ (qv 11) qc) (qv 7))) (ja c__law_word hr rfl (a2_ (qv 2) (qv 7))))))) (qk (zf afq)) ze) (qk (j6 (afc (vh (ja c__law_same hr rfl (a2_ (ja c_word_at hr rfl (a2_ (I_ (qv 11) qc) (qv 8))) (ja c__law_flip hr rfl (a1_ (ja c__law_word hr rfl (a2_ (qv 2) (qv 7))))))))) (qk (zf afq)) ze)))) (qk (zf (ja c__law_same hr rfl (a2_ (qv 11) (qv 1))))))))))))))))
theorem auz(F:Fun K "law" "law" af1 f fd)(B:Bt K P w mg)(c__law_web:zo P w K mg base 130 "_law_web" ["_law_script", "_law_seed", "_law_room", "_law_most"] (ak2 Pt))(c__law_cell_at:zo P w K mg base 1 "_law_cell_at" ["_law_script", "_law_k"] (abt))(c__law_copy:zo P w K mg base 1 "_law_copy" ["_law_web_here"] (ah0))(c__law_same:zo P w K mg base 125 "_law_same" ["_law_found", "_law_due"] (acu 124))(c_eithers_of:zo P w K mg base 1 "eithers_of" ["web"] (ae1))(c_ends_of:zo P w K mg base 4 "ends_of" ["web"] (ah1))(c__law_word:zo P w K mg base 121 "_law_word" ["_law_knots", "_law_p"] (jd 120))(c_word_at:zo P w K mg base 122 "word_at" ["knots", "place"] (jd 120))(c__law_flip:zo P w K mg base 121 "_law_flip" ["_law_word_here"] (vn 120)):Fn3 P w K mg base 131 f fd ["_law_script"] (ajp Pt lamQ):=
 ok3 (k:=130) F at5 (by rintro _ _ _ ⟨_,rfl,_⟩;rfl) fun cdv A outer s H E hr=>⟨_,ayv B (c__law_web.mono (by decide)) (c__law_cell_at.mono (by decide)) (c__law_copy.mono (by decide)) (c__law_same.mono (by decide)) (c_eithers_of.mono (by decide)) (c_ends_of.mono (by decide)) (c__law_word.mono (by decide)) (c_word_at.mono (by decide)) (c__law_flip.mono (by decide)) hr,arz⟩
end
theorem all_mk{l:PySem.W.OpenLaw}{w:World}{K:Af}{h:Heap}{mg:Str->Option Value}{fa:Addr}{a_LEAF_KINDS:Addr}{o_LEAF_KINDS:Option Addr}{n_LEAF_KINDS:Nat}{l_LEAF_KINDS:Array (Option Value)}{t_LEAF_KINDS0 t_LEAF_KINDS1:Tok}{Pt:Addr}(X:K.In h)(G:h.Ns mainGlobals mg)(hfa:mg "law" = some (.ref fa))
 (D0:DefIn K "is_leaf" aab)
 (D1:DefIn K "word_at" aah)
 (D2:DefIn K "parts_of" wv)
 (D3:DefIn K "parts_in" wc)
 (D4:DefIn K "places_in" ki)
 (D5:DefIn K "ends_of" aa8)
 (D6:DefIn K "eithers_of" va)
 (D7:DefIn K "_law_cell_at" x9)
 (D8:DefIn K "_law_same" kq)
 (D9:DefIn K "_law_mix" we)
 (D10:DefIn K "_law_name" kn)
 (D11:DefIn K "_law_word" k8)
 (D12:DefIn K "_law_flip" ke)
 (D13:DefIn K "_law_weight" xn)
 (D14:DefIn K "_law_mirror" xo)
 (D15:DefIn K "_law_join" kg)
 (D16:DefIn K "_law_fold" km)
 (D17:DefIn K "_law_cut" wu)
 (D18:DefIn K "_law_tree" ko)
 (D19:DefIn K "_law_told" kc)
 (D20:DefIn K "_law_crossed" x5)
 (D21:DefIn K "_law_beneath" xb)
 (D22:DefIn K "_law_recast" xh)
 (D23:DefInT K "_law_order" s__law_order Pt)
 (D24:DefIn K "_law_gapped" xj)
 (D25:DefIn K "_law_web" ww)
 (D26:DefIn K "_law_copy" kh)
 (D27:DefIn K "law" af1)
 (aLEAF_KINDS:PySem.W.nsIn K mainGlobals "LEAF_KINDS" = some (some (.ref a_LEAF_KINDS)))
 (lLEAF_KINDS:K.lookup a_LEAF_KINDS=some ⟨.type "tuple",o_LEAF_KINDS,.seq #[.str "plain" t_LEAF_KINDS0,.str "turned" t_LEAF_KINDS1] n_LEAF_KINDS,l_LEAF_KINDS⟩)
 (zenumerate:PySem.W.nsIn K mainGlobals "enumerate" = some none)
 (zlen:PySem.W.nsIn K mainGlobals "len" = some none)
 (zisinstance:PySem.W.nsIn K mainGlobals "isinstance" = some none)
 (zbool:PySem.W.nsIn K mainGlobals "bool" = some none)
 (zlist:PySem.W.nsIn K mainGlobals "list" = some none)
 (ztuple:PySem.W.nsIn K mainGlobals "tuple" = some none)
 (zzip:PySem.W.nsIn K mainGlobals "zip" = some none)
 (zint:PySem.W.nsIn K mainGlobals "int" = some none)
 (zstr:PySem.W.nsIn K mainGlobals "str" = some none)
 (zrange:PySem.W.nsIn K mainGlobals "range" = some none)
 (zsorted:PySem.W.nsIn K mainGlobals "sorted" = some none)
 (zmax:PySem.W.nsIn K mainGlobals "max" = some none)
 (zmin:PySem.W.nsIn K mainGlobals "min" = some none):
 ∃fd:FuncData,(∀(s:Shared) (v:Value),BindsTo s fd ⟨[v],[]⟩ [("_law_script",v)])/\∀base:Heap,K.In base->base.Ns mainGlobals mg->FnOk l.prog w K mg base CX0 131 fa fd ["_law_script"] (spTopT lamQ K Pt):=by
 obtain⟨f0,fd0,F0,b0,m0⟩:=D0.use (ps:=["word"]) X G fun _ _ _ _ _ _ us hl=>by obtain⟨_,rfl⟩:=aio hl;rfl
 obtain⟨f1,fd1,F1,b1,m1⟩:=D1.use (ps:=["knots", "place"]) X G fun _ _ _ _ _ _ us hl=>by obtain⟨_,_,rfl⟩:=alu hl;rfl
 obtain⟨f2,fd2,F2,b2,m2⟩:=D2.use (ps:=["knot"]) X G fun _ _ _ _ _ _ us hl=>by obtain⟨_,rfl⟩:=aio hl;rfl
 obtain⟨f3,fd3,F3,b3,m3⟩:=D3.use (ps:=["knots"]) X G fun _ _ _ _ _ _ us hl=>by obtain⟨_,rfl⟩:=aio hl;rfl
 obtain⟨f4,fd4,F4,b4,m4⟩:=D4.use (ps:=["pairs"]) X G fun _ _ _ _ _ _ us hl=>by obtain⟨_,rfl⟩:=aio hl;rfl
 obtain⟨f5,fd5,F5,b5,m5⟩:=D5.use (ps:=["web"]) X G fun _ _ _ _ _ _ us hl=>by obtain⟨_,rfl⟩:=aio hl;rfl
 obtain⟨f6,fd6,F6,b6,m6⟩:=D6.use (ps:=["web"]) X G fun _ _ _ _ _ _ us hl=>by obtain⟨_,rfl⟩:=aio hl;rfl
 obtain⟨f7,fd7,F7,b7,m7⟩:=D7.use (ps:=["_law_script", "_law_k"]) X G fun _ _ _ _ _ _ us hl=>by obtain⟨_,_,rfl⟩:=alu hl;rfl
 obtain⟨f8,fd8,F8,b8,m8⟩:=D8.use (ps:=["_law_found", "_law_due"]) X G fun _ _ _ _ _ _ us hl=>by obtain⟨_,_,rfl⟩:=alu hl;rfl
 obtain⟨f9,fd9,F9,b9,m9⟩:=D9.use (ps:=["_law_cell", "_law_k", "_law_factor"]) X G fun _ _ _ _ _ _ us hl=>by obtain⟨_,_,_,rfl⟩:=a1g hl;rfl
 obtain⟨f10,fd10,F10,b10,m10⟩:=D10.use (ps:=["_law_seed", "_law_which"]) X G fun _ _ _ _ _ _ us hl=>by obtain⟨_,_,rfl⟩:=alu hl;rfl
 obtain⟨f11,fd11,F11,b11,m11⟩:=D11.use (ps:=["_law_knots", "_law_p"]) X G fun _ _ _ _ _ _ us hl=>by obtain⟨_,_,rfl⟩:=alu hl;rfl
 obtain⟨f12,fd12,F12,b12,m12⟩:=D12.use (ps:=["_law_word_here"]) X G fun _ _ _ _ _ _ us hl=>by obtain⟨_,rfl⟩:=aio hl;rfl
 obtain⟨f13,fd13,F13,b13,m13⟩:=D13.use (ps:=["_law_word_here"]) X G fun _ _ _ _ _ _ us hl=>by obtain⟨_,rfl⟩:=aio hl;rfl
 obtain⟨f14,fd14,F14,b14,m14⟩:=D14.use (ps:=["_law_knots", "_law_word_here"]) X G fun _ _ _ _ _ _ us hl=>by obtain⟨_,_,rfl⟩:=alu hl;rfl
 obtain⟨f15,fd15,F15,b15,m15⟩:=D15.use (ps:=["_law_knots", "_law_forest", "_law_one", "_law_two"]) X G fun _ _ _ _ _ _ us hl=>by obtain⟨_,_,_,_,rfl⟩:=aro hl;rfl
 obtain⟨f16,fd16,F16,b16,m16⟩:=D16.use (ps:=["_law_knots", "_law_tree_here", "_law_one", "_law_two"]) X G fun _ _ _ _ _ _ us hl=>by obtain⟨_,_,_,_,rfl⟩:=aro hl;rfl
 obtain⟨f17,fd17,F17,b17,m17⟩:=D17.use (ps:=["_law_knots", "_law_forest", "_law_one", "_law_two"]) X G fun _ _ _ _ _ _ us hl=>by obtain⟨_,_,_,_,rfl⟩:=aro hl;rfl
 obtain⟨f18,fd18,F18,b18,m18⟩:=D18.use (ps:=["_law_cells", "_law_seed", "_law_room"]) X G fun _ _ _ _ _ _ us hl=>by obtain⟨_,_,_,rfl⟩:=a1g hl;rfl
 obtain⟨f19,fd19,F19,b19,m19⟩:=D19.use (ps:=["_law_rule"]) X G fun _ _ _ _ _ _ us hl=>by obtain⟨_,rfl⟩:=aio hl;rfl
 obtain⟨f20,fd20,F20,b20,m20⟩:=D20.use (ps:=["_law_knots", "_law_links", "_law_one", "_law_two"]) X G fun _ _ _ _ _ _ us hl=>by obtain⟨_,_,_,_,rfl⟩:=aro hl;rfl
 obtain⟨f21,fd21,F21,b21,m21⟩:=D21.use (ps:=["_law_knots", "_law_cuts"]) X G fun _ _ _ _ _ _ us hl=>by obtain⟨_,_,rfl⟩:=alu hl;rfl
 obtain⟨f22,fd22,F22,b22,m22⟩:=D22.use (ps:=["_law_knots", "_law_cuts", "_law_seed", "_law_most"]) X G fun _ _ _ _ _ _ us hl=>by obtain⟨_,_,_,_,rfl⟩:=aro hl;rfl
 obtain⟨f23,fd23,F23,b23,m23⟩:=D23.use (ps:=["_law_knots", "_law_seed"]) X G fun _ _ _ _ _ _ us hl=>by obtain⟨_,_,rfl⟩:=alu hl;rfl
 obtain⟨f24,fd24,F24,b24,m24⟩:=D24.use (ps:=["_law_knots", "_law_links", "_law_cuts", "_law_seed", "_law_gaps"]) X G fun _ _ _ _ _ _ us hl=>by obtain⟨_,_,_,_,_,rfl⟩:=a32 hl;rfl
 obtain⟨f25,fd25,F25,b25,m25⟩:=D25.use (ps:=["_law_script", "_law_seed", "_law_room", "_law_most"]) X G fun _ _ _ _ _ _ us hl=>by obtain⟨_,_,_,_,rfl⟩:=aro hl;rfl
 obtain⟨f26,fd26,F26,b26,m26⟩:=D26.use (ps:=["_law_web_here"]) X G fun _ _ _ _ _ _ us hl=>by obtain⟨_,rfl⟩:=aio hl;rfl
 obtain⟨fL,kV,doc,pm,an,cdv,ct,aL,FL⟩:=D27.ex;have e:=hfa.symm.trans (C5 X G aL);cases e;have B:Bt K l.prog w mg:=⟨trivial,A9 X G zenumerate,A9 X G zlen,A9 X G zisinstance,A9 X G zbool,A9 X G zlist,A9 X G ztuple,A9 X G zzip,A9 X G zint,A9 X G zstr,A9 X G zrange,A9 X G zsorted,A9 X G zmax,A9 X G zmin,⟨⟨a_LEAF_KINDS,C5 X G aLEAF_KINDS,fun H=>⟨a_LEAF_KINDS,[V.str "plain",V.str "turned"],rfl,.inr ⟨_,_,_,lLEAF_KINDS,rfl,rfl,by show 2≤sizeLine;decide,.cons ⟨_,rfl⟩ (.cons ⟨_,rfl⟩ (.nil))⟩,⟨_,_,rfl,rfl,⟨_,_,rfl,rfl,rfl⟩⟩⟩⟩⟩⟩;refine⟨PySem.W.fnOf "law" "law" (vc af1) (qw af1) (qg af1) .none kV doc pm an cdv ct,fun s v=>.of_eq rfl,fun base _ _=>?_⟩;have CA_is_leaf:=Cal.of (am3 (P:=l.prog) (w:=w) (base:=base) F0 B) b0 F0.kp m0;have CA_word_at:=Cal.of (ag6 (P:=l.prog) (w:=w) (base:=base) F1 b1 m1 B CA_is_leaf 120) b1 F1.kp m1;have CA_parts_of:=Cal.of (aki (P:=l.prog) (w:=w) (base:=base) F2 B CA_is_leaf) b2 F2.kp m2;have CA_parts_in:=Cal.of (akd (P:=l.prog) (w:=w) (base:=base) F3 B CA_parts_of) b3 F3.kp m3;have CA_places_in:=Cal.of (aiq (P:=l.prog) (w:=w) (base:=base) F4 B) b4 F4.kp m4;have CA_ends_of:=Cal.of (alx (P:=l.prog) (w:=w) (base:=base) F5 B CA_parts_in CA_places_in) b5 F5.kp m5;have CA_eithers_of:=Cal.of (ai8 (P:=l.prog) (w:=w) (base:=base) F6 B) b6 F6.kp m6;have CA__law_cell_at:=Cal.of (afn (P:=l.prog) (w:=w) (base:=base) F7 B) b7 F7.kp m7;have CA__law_same:=Cal.of (ad6 (P:=l.prog) (w:=w) (base:=base) F8 b8 m8 B 124) b8 F8.kp m8;have CA__law_mix:=Cal.of (akx (P:=l.prog) (w:=w) (base:=base) F9 B) b9 F9.kp m9;have CA__law_name:=Cal.of (air (P:=l.prog) (w:=w) (base:=base) F10 B) b10 F10.kp m10;have CA__law_word:=Cal.of (ad8 (P:=l.prog) (w:=w) (base:=base) F11 b11 m11 B 120) b11 F11.kp m11;have CA__law_flip:=Cal.of (adc (P:=l.prog) (w:=w) (base:=base) F12 b12 m12 B 120) b12 F12.kp m12;have CA__law_weight:=Cal.of (aby (P:=l.prog) (w:=w) (base:=base) F13 b13 m13 B 120) b13 F13.kp m13;have CA__law_mirror:=Cal.of (ac0 (P:=l.prog) (w:=w) (base:=base) F14 b14 m14 B CA__law_flip 5) b14 F14.kp m14;have CA__law_join:=Cal.of (ail (P:=l.prog) (w:=w) (base:=base) F15 B) b15 F15.kp m15;have CA__law_fold:=Cal.of (ain (P:=l.prog) (w:=w) (base:=base) F16 B) b16 F16.kp m16;have CA__law_cut:=Cal.of (akj (P:=l.prog) (w:=w) (base:=base) F17 B CA__law_word CA__law_flip CA__law_weight CA__law_mirror) b17 F17.kp m17;have CA__law_tree:=Cal.of (aip (P:=l.prog) (w:=w) (base:=base) F18 B CA__law_mix CA__law_name CA__law_fold CA__law_join CA__law_cut) b18 F18.kp m18;have CA__law_told:=Cal.of (ait (P:=l.prog) (w:=w) (base:=base) F19 B) b19 F19.kp m19;have CA__law_crossed:=Cal.of (afd (P:=l.prog) (w:=w) (base:=base) F20 B) b20 F20.kp m20;have CA__law_beneath:=Cal.of (afg (P:=l.prog) (w:=w) (base:=base) F21 B) b21 F21.kp m21;have CA__law_recast:=Cal.of (agh (P:=l.prog) (w:=w) (base:=base) F22 B CA__law_beneath CA__law_mix) b22 F22.kp m22;have CA__law_order:=Cal.of (aia (P:=l.prog) (w:=w) (base:=base) F23 B CA__law_mix) b23 F23.kp m23;have CA__law_gapped:=Cal.of (age (P:=l.prog) (w:=w) (base:=base) F24 B CA__law_order CA__law_mix) b24 F24.kp m24;have CA__law_web:=Cal.of (akw (P:=l.prog) (w:=w) (base:=base) F25 B CA__law_mix CA__law_tree CA__law_told CA__law_crossed CA__law_recast CA__law_gapped) b25 F25.kp m25;have CA__law_copy:=Cal.of (ais (P:=l.prog) (w:=w) (base:=base) F26 B) b26 F26.kp m26;exact FnOk.imp (auz (P:=l.prog) (w:=w) (base:=base) FL B CA__law_web CA__law_cell_at CA__law_copy CA__law_same CA_eithers_of CA_ends_of CA__law_word CA_word_at CA__law_flip) fun vs H Q E q=>avk q
theorem def_inT{K:Af}{x:Str}{st:Stmt}{f Pt:Addr}{oc:Value}{od an:Option Addr}{osl:Array (Option Value)}{kV doc pm cdv ct:Value}(a:PySem.W.nsIn K mainGlobals x=some (some (.ref f)))
 (l:K.lookup f=some ⟨oc,od,.func (PySem.W.fnOf x x (vc st) (qw st) (qg st) .none kV doc pm an cdv ct),osl⟩) (c:PySem.W.codeIn K cdv x=true) (k:PySem.W.keepIn K (.ref f)=true) (C:LamC K cdv Pt):DefInT K x st Pt:=
 ⟨f,kV,doc,pm,an,cdv,ct,a,⟨⟨oc,od,kV,doc,pm,an,cdv,ct,osl,rfl,l,c,C⟩,k⟩⟩
end K12
namespace H12
open PySem PySem.W PySem.W.X L2 L3 PyProof.Rows
abbrev rr:=PySem.Challenge.rw_oncewise_k12_ends_and_eithers
abbrev p:Program:=PySem.Challenge.pw_oncewise_k12_ends_and_eithers
abbrev top:=K12.top
abbrev S(x:String)(t:Tok):Value:=.str (Str.ofString x) t
abbrev I(i:Int)(t:Tok):Value:=.int i t
abbrev R(a:Addr):Value:=.ref a
abbrev E(P:Params)(k:String)(t:Tok)(v:Value):DictEntry:=⟨PyData.keyHash P (Str.ofString k),.str (Str.ofString k) t,v⟩
abbrev O(c:Value)(d:Data):Obj:=⟨c,none,d,#[]⟩
abbrev FN(n q:String)(st:Stmt)(dV kV doc pm:Value)(an:Option Addr)(cd ct:Value):FuncData:=fnOf (Str.ofString n) (Str.ofString q) (vc st) (qw st) (qg st) dV kV doc pm an cd ct
abbrev FG(n q:String)(st:Stmt):FuncData:={ fnOf (Str.ofString n) (Str.ofString q) (vc st) (qw st) (qg st) .none .none .none .none none .none .none with globals:=0 }
abbrev tu(l:Array Value):Obj:=O (.type "tuple") (.seq l 0)
abbrev fo(f:FuncData):Obj:=O (.type "function") (.func f)
abbrev go(f:FuncData):Obj:=O .none (.func f)
abbrev co(n q:String)(t l a b c fl v:Nat)(o:Bool)(m k:Nat)(x y z u:Value)(d:Nat):Obj:=O (.type "code") (.fields #[S n t,S q (t+1),S "/claim/cut.py" (t+2),I l 0,I a 0,I b 0,I c 0,I fl 0,R v,.bool o,I m 0,R k,x,y,z,u,I d 0,I l 0,S "/claim/cut.py" (d+1)])
abbrev Ob:=Params->Obj
noncomputable def ev{α:Type}:Bool->List α->List α
 |_,[]=>[]
 |true,x::r=>x::ev false r
 |false,_::r=>ev true r
noncomputable def bt:Nat->List Obj->BT
 |0,_=>.nil
 |_,[]=>.nil
 |n+1,x::r=>.node x (bt n (ev true r)) (bt n (ev false r))
noncomputable def env0:Env:={ scope:=p.main.scope,locals:=mainNs,globals:=mainNs,cells:=[],code:=.ref 13,frame:=some 14 }
noncomputable abbrev cE:Code:=.body (behindTheImports p) env0
abbrev q0:Pos:=⟨0,0,0,0⟩
abbrev an:Option Value:=some (.ref 6)
noncomputable abbrev Pc (n:Nat) (S S':World->OsState->SharedT) (l:List Stmt) (q q':Pos) (w:World):Prop:=(fun os=>segRunT treeTable p w 11 an 1 n (S w os) (piecesOf l env0 cE q [topFrame q0]))=fun os=>some (Flow.next,S' w os,cE,q')
noncomputable abbrev b0:=PySem.W.boot_o_0
noncomputable abbrev b1:=PySem.W.boot_o_1
noncomputable abbrev b2:=PySem.W.boot_o_2
noncomputable abbrev b3:=PySem.W.boot_o_3
noncomputable abbrev b4:=PySem.W.boot_o_4
noncomputable abbrev b5:=PySem.W.boot_o_5
noncomputable abbrev b6:=PySem.W.boot_o_6
noncomputable abbrev b7:=PySem.W.boot_o_7
noncomputable abbrev b8:=PySem.W.boot_o_8
noncomputable abbrev b9:=PySem.W.boot_o_9
noncomputable abbrev b10:=PySem.W.boot_o_10
noncomputable def xaa:Ob:=fun _=>tu #[]
noncomputable def xab:Ob:=fun _=>O .none (.fields #[])
noncomputable def xac:Ob:=fun _=>co "<module>" "<module>" 182 1 0 0 0 0 11 false 181 12 .none .none .none .none 185
noncomputable def xad:Ob:=fun _=>⟨(.type "frame"),none,.plain,#[(some (R 13)),(some (R 3)),(some (R 3)),none,(some (S "__main__" 164)),none,(some (R 0))]⟩
noncomputable def xae:Ob:=fun P=>O (.type "dict") (.dict #[(E P "__name__" 165 (S "law_oncewise_k12_ends_and_eithers" 248)),(E P "__doc__" 166 .none),(E P "__package__" 167 .none),(E P "__loader__" 168 (.builtin "__main__.__loader__#opaque")),(E P "__spec__" 169 .none),(E P "__annotations__" 170 (R 6)),(E P "__builtins__" 171 (R 4)),(E P "__file__" 173 (S "/claim/cut.py" 172)),(E P "__cached__" 174 .none),(E P "LEAF_KINDS" 191 (R 15)),(E P "is_leaf" 198 (R 22)),(E P "word_at" 209 (R 29)),(E P "parts_of" 216 (R 36)),(E P "parts_in" 225 (R 43)),(E P "places_in" 235 (R 50)),(E P "ends_of" 241 (R 55)),(E P "eithers_of" 247 (R 60)),(E P "_law_cell_at" 257 (R 67)),(E P "_law_same" 267 (R 74)),(E P "_law_mix" 276 (R 81)),(E P "_law_name" 282 (R 86)),(E P "_law_word" 291 (R 93))] 22)
noncomputable def xaf:Ob:=fun _=>tu #[S "plain" 189,S "turned" 190]
noncomputable def xag:Ob:=fun _=>tu #[S "_law_script" 253,S "_law_k" 254]
noncomputable def xah:Ob:=fun _=>go (FG "_law_mix" "_law_mix" (top 13))
noncomputable def xai:Ob:=fun _=>tu #[S "knots" 220,S "parts" 221,S "knot" 222]
noncomputable def xaj:Ob:=fun _=>fo (FN "ends_of" "ends_of" (top 8) .none .none .none (S "oncewise.webs" 199) none (R 54) .none)
noncomputable def xak:Ob:=fun _=>co "parts_of" "parts_of" 210 11 1 0 0 3 30 true 181 31 .none (R 32) (R 33) (R 34) 214
noncomputable def xal:Ob:=fun _=>fo (FN "_law_cell_at" "_law_cell_at" (top 11) .none .none .none (S "law_oncewise_k12_ends_and_eithers" 248) none (R 66) .none)
noncomputable def xam:Ob:=fun _=>go (FG "word_at" "word_at" (top 4))
noncomputable def xan:Ob:=fun _=>fo (FN "parts_in" "parts_in" (top 6) .none .none .none (S "oncewise.webs" 199) none (R 42) .none)
noncomputable def xao:Ob:=fun _=>co "eithers_of" "eithers_of" 242 30 1 0 0 3 56 true 181 57 .none .none .none (R 58) 245
noncomputable def xap:Ob:=fun _=>go (FG "_law_word" "_law_word" (top 15))
noncomputable def xaq:Ob:=fun _=>go (FG "_law_cell_at" "_law_cell_at" (top 11))
noncomputable def xar:Ob:=fun _=>co "places_in" "places_in" 226 20 1 0 0 3 44 true 181 45 .none (R 46) (R 47) (R 48) 233
noncomputable def xas:Ob:=fun _=>fo (FN "_law_mix" "_law_mix" (top 13) .none .none .none (S "law_oncewise_k12_ends_and_eithers" 248) none (R 80) .none)
noncomputable def xat:Ob:=fun _=>tu #[S "knots" 204,S "place" 205,S "knot" 206]
noncomputable def xau:Ob:=fun _=>go (FG "parts_in" "parts_in" (top 6))
noncomputable def xav:Ob:=fun _=>co "_law_same" "_law_same" 258 37 2 0 0 3 68 true 181 69 .none (R 70) (R 71) (R 72) 265
noncomputable def xaw:Ob:=fun _=>tu #[S "_law_knots" 286,S "_law_p" 287,S "_law_knot" 288]
noncomputable def xax:Ob:=fun _=>co "is_leaf" "is_leaf" 192 3 1 0 0 3 16 true 181 17 .none (R 18) (R 19) (R 20) 196
noncomputable def xay:Ob:=fun _=>go (FG "ends_of" "ends_of" (top 8))
noncomputable def xaz:Ob:=fun _=>co "_law_name" "_law_name" 277 56 2 0 0 3 82 true 181 83 .none .none .none (R 84) 280
noncomputable def xa0:Ob:=fun _=>fo (FN "word_at" "word_at" (top 4) .none .none .none (S "oncewise.webs" 199) none (R 28) .none)
noncomputable def xa1:Ob:=fun _=>tu #[S "_law_cell" 271,S "_law_k" 272,S "_law_factor" 273]
noncomputable def xa2:Ob:=fun _=>fo (FN "_law_word" "_law_word" (top 15) .none .none .none (S "law_oncewise_k12_ends_and_eithers" 248) none (R 92) .none)
noncomputable def xa3:Ob:=fun _=>tu #[S "knot" 213]
noncomputable def xa4:Ob:=fun _=>go (FG "places_in" "places_in" (top 7))
noncomputable def xa5:Ob:=fun _=>co "_law_mix" "_law_mix" 268 54 3 0 0 3 75 true 181 76 .none (R 77) (R 78) (R 79) 274
noncomputable def xa6:Ob:=fun _=>go (FG "_law_same" "_law_same" (top 12))
noncomputable def xa7:Ob:=fun _=>O .none (.fields #[I 3 0,I 0 0,R 21,I 6 0,I 0 0,R 28,I 11 0,I 0 0,R 35,I 15 0,I 0 0,R 42,I 20 0,I 0 0,R 49,I 26 0,I 0 0,R 54,I 30 0,I 0 0,R 59,I 33 0,I 0 0,R 66,I 37 0,I 0 0,R 73,I 54 0,I 0 0,R 80,I 56 0,I 0 0,R 85,I 65 0,I 0 0,R 92])
noncomputable def xa8:Ob:=fun _=>go (FG "is_leaf" "is_leaf" (top 2))
noncomputable def xa9:Ob:=fun _=>fo (FN "parts_of" "parts_of" (top 5) .none .none .none (S "oncewise.webs" 199) none (R 35) .none)
noncomputable def xba:Ob:=fun _=>go (FG "_law_name" "_law_name" (top 14))
noncomputable def xbb:Ob:=fun _=>co "word_at" "word_at" 201 6 2 0 0 3 23 true 181 24 .none (R 25) (R 26) (R 27) 207
noncomputable def xbc:Ob:=fun _=>fo (FN "eithers_of" "eithers_of" (top 9) .none .none .none (S "oncewise.webs" 199) none (R 59) .none)
noncomputable def xbd:Ob:=fun _=>co "_law_word" "_law_word" 283 65 2 0 0 3 87 true 181 88 .none (R 89) (R 90) (R 91) 289
noncomputable def xbe:Ob:=fun _=>tu #[S "word" 195]
noncomputable def xbf:Ob:=fun _=>go (FG "parts_of" "parts_of" (top 5))
noncomputable def xbg:Ob:=fun _=>co "_law_cell_at" "_law_cell_at" 250 33 2 0 0 3 61 true 181 62 .none (R 63) (R 64) (R 65) 255
noncomputable def xbh:Ob:=fun _=>fo (FN "places_in" "places_in" (top 7) .none .none .none (S "oncewise.webs" 199) none (R 49) .none)
noncomputable def xbi:Ob:=fun _=>co "parts_in" "parts_in" 217 15 1 0 0 3 37 true 181 38 .none (R 39) (R 40) (R 41) 223
noncomputable def xbj:Ob:=fun _=>fo (FN "_law_same" "_law_same" (top 12) .none .none .none (S "law_oncewise_k12_ends_and_eithers" 248) none (R 73) .none)
noncomputable def xbk:Ob:=fun _=>go (FG "eithers_of" "eithers_of" (top 9))
noncomputable def xbl:Ob:=fun _=>fo (FN "is_leaf" "is_leaf" (top 2) .none .none .none (S "oncewise.words" 187) none (R 21) .none)
noncomputable def xbm:Ob:=fun _=>tu #[S "_law_found" 261,S "_law_due" 262,S "_law_one" 263,S "_law_other" 264]
noncomputable def xbn:Ob:=fun _=>co "ends_of" "ends_of" 236 26 1 0 0 3 51 true 181 52 .none .none .none (R 53) 239
noncomputable def xbo:Ob:=fun _=>fo (FN "_law_name" "_law_name" (top 14) .none .none .none (S "law_oncewise_k12_ends_and_eithers" 248) none (R 85) .none)
noncomputable def xbp:Ob:=fun _=>tu #[S "pairs" 229,S "places" 230,S "p" 231,S "q" 232]
noncomputable def xbq:Ob:=fun P=>O (.type "dict") (.dict #[(E P "__name__" 165 (S "law_oncewise_k12_ends_and_eithers" 248)),(E P "__doc__" 166 .none),(E P "__package__" 167 .none),(E P "__loader__" 168 (.builtin "__main__.__loader__#opaque")),(E P "__spec__" 169 .none),(E P "__annotations__" 170 (R 6)),(E P "__builtins__" 171 (R 4)),(E P "__file__" 173 (S "/claim/cut.py" 172)),(E P "__cached__" 174 .none),(E P "LEAF_KINDS" 191 (R 15)),(E P "is_leaf" 198 (R 22)),(E P "word_at" 209 (R 29)),(E P "parts_of" 216 (R 36)),(E P "parts_in" 225 (R 43)),(E P "places_in" 235 (R 50)),(E P "ends_of" 241 (R 55)),(E P "eithers_of" 247 (R 60)),(E P "_law_cell_at" 257 (R 67)),(E P "_law_same" 267 (R 74)),(E P "_law_mix" 276 (R 81)),(E P "_law_name" 282 (R 86)),(E P "_law_word" 291 (R 93)),(E P "_law_flip" 299 (R 100)),(E P "_law_weight" 306 (R 107)),(E P "_law_mirror" 320 (R 114)),(E P "_law_join" 326 (R 119)),(E P "_law_fold" 338 (R 126)),(E P "_law_cut" 344 (R 131)),(E P "_law_tree" 361 (R 138)),(E P "_law_told" 367 (R 143)),(E P "_law_crossed" 373 (R 148)),(E P "_law_beneath" 385 (R 155)),(E P "_law_recast" 391 (R 160)),(E P "_law_order" 403 (R 167)),(E P "_law_gapped" 409 (R 172))] 35)
noncomputable def xbr:Ob:=fun _=>co "_law_recast" "_law_recast" 386 190 4 0 0 3 156 true 181 157 .none .none .none (R 158) 389
noncomputable def xbs:Ob:=fun _=>fo (FN "_law_told" "_law_told" (top 23) .none .none .none (S "law_oncewise_k12_ends_and_eithers" 248) none (R 142) .none)
noncomputable def xbt:Ob:=fun _=>tu #[S "_law_word_here" 303]
noncomputable def xbu:Ob:=fun _=>fo (FN "_law_order" "_law_order" (top 27) .none .none .none (S "law_oncewise_k12_ends_and_eithers" 248) none (R 166) .none)
noncomputable def xbv:Ob:=fun _=>tu #[S "_law_knots" 377,S "_law_cuts" 378,S "_law_todo" 379,S "_law_p" 380,S "_law_q" 381,S "_law_beneath_here" 382]
noncomputable def xbw:Ob:=fun _=>fo (FN "_law_join" "_law_join" (top 19) .none .none .none (S "law_oncewise_k12_ends_and_eithers" 248) none (R 118) .none)
noncomputable def xbx:Ob:=fun _=>fo (FN "_law_cut" "_law_cut" (top 21) .none .none .none (S "law_oncewise_k12_ends_and_eithers" 248) none (R 130) .none)
noncomputable def xby:Ob:=fun _=>co "_law_flip" "_law_flip" 292 70 1 0 0 3 94 true 181 95 .none (R 96) (R 97) (R 98) 297
noncomputable def xbz:Ob:=fun _=>tu #[S "_law_knots" 395,S "_law_seed" 396,S "_law_p" 397,S "_law_knot" 398,S "_law_rank" 399]
noncomputable def xb0:Ob:=fun _=>co "_law_crossed" "_law_crossed" 368 169 4 0 0 3 144 true 181 145 .none .none .none (R 146) 371
noncomputable def xb1:Ob:=fun _=>fo (FN "_law_weight" "_law_weight" (top 17) .none .none .none (S "law_oncewise_k12_ends_and_eithers" 248) none (R 106) .none)
noncomputable def xb2:Ob:=fun _=>co "_law_gapped" "_law_gapped" 404 221 5 0 0 3 168 true 181 169 .none .none .none (R 170) 407
noncomputable def xb3:Ob:=fun _=>fo (FN "_law_beneath" "_law_beneath" (top 25) .none .none .none (S "law_oncewise_k12_ends_and_eithers" 248) none (R 154) .none)
noncomputable def xb4:Ob:=fun _=>go (FG "_law_cut" "_law_cut" (top 21))
noncomputable def xb5:Ob:=fun _=>co "_law_mirror" "_law_mirror" 307 79 2 0 0 3 108 true 181 109 .none (R 110) (R 111) (R 112) 318
noncomputable def xb6:Ob:=fun _=>co "_law_tree" "_law_tree" 345 130 3 0 0 3 132 true 181 133 .none (R 134) (R 135) (R 136) 359
noncomputable def xb7:Ob:=fun _=>go (FG "_law_weight" "_law_weight" (top 17))
noncomputable def xb8:Ob:=fun _=>go (FG "_law_beneath" "_law_beneath" (top 25))
noncomputable def xb9:Ob:=fun _=>go (FG "_law_order" "_law_order" (top 27))
noncomputable def xca:Ob:=fun _=>go (FG "_law_join" "_law_join" (top 19))
noncomputable def xcb:Ob:=fun _=>go (FG "_law_told" "_law_told" (top 23))
noncomputable def xcc:Ob:=fun _=>co "_law_fold" "_law_fold" 327 100 4 0 0 3 120 true 181 121 .none (R 122) (R 123) (R 124) 336
noncomputable def xcd:Ob:=fun _=>tu #[S "_law_word_here" 295,S "_law_sides" 296]
noncomputable def xce:Ob:=fun _=>fo (FN "_law_recast" "_law_recast" (top 26) .none .none .none (S "law_oncewise_k12_ends_and_eithers" 248) none (R 159) .none)
noncomputable def xcf:Ob:=fun _=>go (FG "_law_mirror" "_law_mirror" (top 18))
noncomputable def xcg:Ob:=fun _=>go (FG "_law_tree" "_law_tree" (top 22))
noncomputable def xch:Ob:=fun _=>O .none (.fields #[I 3 0,I 0 0,R 21,I 6 0,I 0 0,R 28,I 11 0,I 0 0,R 35,I 15 0,I 0 0,R 42,I 20 0,I 0 0,R 49,I 26 0,I 0 0,R 54,I 30 0,I 0 0,R 59,I 33 0,I 0 0,R 66,I 37 0,I 0 0,R 73,I 54 0,I 0 0,R 80,I 56 0,I 0 0,R 85,I 65 0,I 0 0,R 92,I 70 0,I 0 0,R 99,I 75 0,I 0 0,R 106,I 79 0,I 0 0,R 113,I 92 0,I 0 0,R 118,I 100 0,I 0 0,R 125,I 108 0,I 0 0,R 130,I 130 0,I 0 0,R 137,I 159 0,I 0 0,R 142,I 169 0,I 0 0,R 147,I 179 0,I 0 0,R 154,I 190 0,I 0 0,R 159,I 213 0,I 0 0,R 166,I 221 0,I 0 0,R 171])
noncomputable def xci:Ob:=fun _=>fo (FN "_law_flip" "_law_flip" (top 16) .none .none .none (S "law_oncewise_k12_ends_and_eithers" 248) none (R 99) .none)
noncomputable def xcj:Ob:=fun _=>tu #[S "_law_keys" 400]
noncomputable def xck:Ob:=fun _=>fo (FN "_law_crossed" "_law_crossed" (top 24) .none .none .none (S "law_oncewise_k12_ends_and_eithers" 248) none (R 147) .none)
noncomputable def xcl:Ob:=fun _=>fo (FN "_law_gapped" "_law_gapped" (top 28) .none .none .none (S "law_oncewise_k12_ends_and_eithers" 248) none (R 171) .none)
noncomputable def xcm:Ob:=fun _=>go (FG "_law_fold" "_law_fold" (top 20))
noncomputable def xcn:Ob:=fun _=>co "_law_cut" "_law_cut" 339 108 4 0 0 3 127 true 181 128 .none .none .none (R 129) 342
noncomputable def xco:Ob:=fun _=>go (FG "_law_flip" "_law_flip" (top 16))
noncomputable def xcp:Ob:=fun _=>go (FG "_law_crossed" "_law_crossed" (top 24))
noncomputable def xcq:Ob:=fun _=>fo (FN "_law_mirror" "_law_mirror" (top 18) .none .none .none (S "law_oncewise_k12_ends_and_eithers" 248) none (R 113) .none)
noncomputable def xcr:Ob:=fun _=>fo (FN "_law_tree" "_law_tree" (top 22) .none .none .none (S "law_oncewise_k12_ends_and_eithers" 248) none (R 137) .none)
noncomputable def xcs:Ob:=fun _=>co "_law_weight" "_law_weight" 300 75 1 0 0 3 101 true 181 102 .none (R 103) (R 104) (R 105) 304
noncomputable def xct:Ob:=fun _=>go (FG "_law_gapped" "_law_gapped" (top 28))
noncomputable def xcu:Ob:=fun _=>co "_law_beneath" "_law_beneath" 374 179 2 0 0 3 149 true 181 150 .none (R 151) (R 152) (R 153) 383
noncomputable def xcv:Ob:=fun _=>tu #[S "_law_knots" 330,S "_law_tree_here" 331,S "_law_one" 332,S "_law_two" 333,S "_law_left" 334,S "_law_right" 335]
noncomputable def xcw:Ob:=fun _=>tu #[S "_law_cells" 348,S "_law_seed" 349,S "_law_room" 350,S "_law_knots" 351,S "_law_forest" 352,S "_law_k" 353,S "_law_cell" 354,S "_law_one" 355,S "_law_two" 356,S "_law_deed" 357,S "_law_at" 358]
noncomputable def xcx:Ob:=fun _=>co "_law_order" "_law_order" 392 213 2 0 0 3 161 true 181 162 .none (R 163) (R 164) (R 165) 401
noncomputable def xcy:Ob:=fun _=>co "_law_join" "_law_join" 321 92 4 0 0 3 115 true 181 116 .none .none .none (R 117) 324
noncomputable def xcz:Ob:=fun _=>co "_law_told" "_law_told" 362 159 1 0 0 3 139 true 181 140 .none .none .none (R 141) 365
noncomputable def xc0:Ob:=fun _=>tu #[S "_law_knots" 310,S "_law_word_here" 311,S "_law_left" 312,S "_law_right" 313,S "_law_turn" 314,S "_law_same_here" 315,S "_law_low" 316,S "_law_high" 317]
noncomputable def xc1:Ob:=fun _=>go (FG "_law_recast" "_law_recast" (top 26))
noncomputable def xc2:Ob:=fun _=>fo (FN "_law_fold" "_law_fold" (top 20) .none .none .none (S "law_oncewise_k12_ends_and_eithers" 248) none (R 125) .none)
noncomputable def xc3:Ob:=fun P=>O (.type "dict") (.dict #[(E P "__name__" 165 (S "law_oncewise_k12_ends_and_eithers" 248)),(E P "__doc__" 166 .none),(E P "__package__" 167 .none),(E P "__loader__" 168 (.builtin "__main__.__loader__#opaque")),(E P "__spec__" 169 .none),(E P "__annotations__" 170 (R 6)),(E P "__builtins__" 171 (R 4)),(E P "__file__" 173 (S "/claim/cut.py" 172)),(E P "__cached__" 174 .none),(E P "LEAF_KINDS" 191 (R 15)),(E P "is_leaf" 198 (R 22)),(E P "word_at" 209 (R 29)),(E P "parts_of" 216 (R 36)),(E P "parts_in" 225 (R 43)),(E P "places_in" 235 (R 50)),(E P "ends_of" 241 (R 55)),(E P "eithers_of" 247 (R 60)),(E P "_law_cell_at" 257 (R 67)),(E P "_law_same" 267 (R 74)),(E P "_law_mix" 276 (R 81)),(E P "_law_name" 282 (R 86)),(E P "_law_word" 291 (R 93)),(E P "_law_flip" 299 (R 100)),(E P "_law_weight" 306 (R 107)),(E P "_law_mirror" 320 (R 114)),(E P "_law_join" 326 (R 119)),(E P "_law_fold" 338 (R 126)),(E P "_law_cut" 344 (R 131)),(E P "_law_tree" 361 (R 138)),(E P "_law_told" 367 (R 143)),(E P "_law_crossed" 373 (R 148)),(E P "_law_beneath" 385 (R 155)),(E P "_law_recast" 391 (R 160)),(E P "_law_order" 403 (R 167)),(E P "_law_gapped" 409 (R 172)),(E P "_law_web" 426 (R 179)),(E P "_law_copy" 433 (R 186)),(E P "law" 439 (R 191))] 38)
noncomputable def xc4:Ob:=fun _=>fo (FN "law" "law" (top 31) .none .none .none (S "law_oncewise_k12_ends_and_eithers" 248) none (R 190) .none)
noncomputable def xc5:Ob:=fun _=>tu #[S "_law_script" 413,S "_law_seed" 414,S "_law_room" 415,S "_law_most" 416,S "_law_bits" 417,S "_law_gaps" 418,S "_law_knots" 419,S "_law_rule" 420,S "_law_links" 421,S "_law_cuts" 422,S "_law_k" 423]
noncomputable def xc6:Ob:=fun _=>fo (FN "_law_web" "_law_web" (top 29) .none .none .none (S "law_oncewise_k12_ends_and_eithers" 248) none (R 178) .none)
noncomputable def xc7:Ob:=fun _=>go (FG "_law_web" "_law_web" (top 29))
noncomputable def xc8:Ob:=fun _=>co "_law_copy" "_law_copy" 427 247 1 0 0 3 180 true 181 181 .none (R 182) (R 183) (R 184) 431
noncomputable def xc9:Ob:=fun _=>go (FG "law" "law" (top 31))
noncomputable def xda:Ob:=fun _=>go (FG "_law_copy" "_law_copy" (top 30))
noncomputable def xdb:Ob:=fun _=>O .none (.fields #[I 3 0,I 0 0,R 21,I 6 0,I 0 0,R 28,I 11 0,I 0 0,R 35,I 15 0,I 0 0,R 42,I 20 0,I 0 0,R 49,I 26 0,I 0 0,R 54,I 30 0,I 0 0,R 59,I 33 0,I 0 0,R 66,I 37 0,I 0 0,R 73,I 54 0,I 0 0,R 80,I 56 0,I 0 0,R 85,I 65 0,I 0 0,R 92,I 70 0,I 0 0,R 99,I 75 0,I 0 0,R 106,I 79 0,I 0 0,R 113,I 92 0,I 0 0,R 118,I 100 0,I 0 0,R 125,I 108 0,I 0 0,R 130,I 130 0,I 0 0,R 137,I 159 0,I 0 0,R 142,I 169 0,I 0 0,R 147,I 179 0,I 0 0,R 154,I 190 0,I 0 0,R 159,I 213 0,I 0 0,R 166,I 221 0,I 0 0,R 171,I 235 0,I 0 0,R 178,I 247 0,I 0 0,R 185,I 249 0,I 0 0,R 190])
noncomputable def xdc:Ob:=fun _=>co "_law_web" "_law_web" 410 235 4 0 0 3 173 true 181 174 .none (R 175) (R 176) (R 177) 424
noncomputable def xdd:Ob:=fun _=>fo (FN "_law_copy" "_law_copy" (top 30) .none .none .none (S "law_oncewise_k12_ends_and_eithers" 248) none (R 185) .none)
noncomputable def xde:Ob:=fun _=>tu #[S "_law_web_here" 430]
noncomputable def xdf:Ob:=fun _=>co "law" "law" 434 249 1 0 0 3 187 true 181 188 .none .none .none (R 189) 437
noncomputable def a2n:List Ob:=[b0,b1,b2,b3,b4,b5,b6,b7,b8,b9,b10,xaa,xab,xac,xad]
noncomputable def a28:List Ob:=[b0,b1,b2,xc3,b4,b5,b6,b7,b8,b9,b10,xaa,xdb,xac,xad,xaf,xaa,xab,xbe,xaa,xa8,xax,xbl,xaa,xab,xat,xaa,xam,xbb,xa0,xaa,xab,xa3,xaa,xbf,xak,xa9,xaa,xab,xai,xaa,xau,xbi,xan,xaa,xab,xbp,xaa,xa4,xar,xbh,xaa,xab,xay,xbn,xaj,xaa,xab,xbk,xao,xbc,xaa,xab,xag,xaa,xaq,xbg,xal,xaa,xab,xbm,xaa,xa6,xav,xbj,xaa,xab,xa1,xaa,xah,xa5,xas,xaa,xab,xba,xaz,xbo,xaa,xab,xaw,xaa,xap,xbd,xa2,xaa,xab,xcd,xaa,xco,xby,xci,xaa,xab,xbt,xaa,xb7,xcs,xb1,xaa,xab,xc0,xaa,xcf,xb5,xcq,xaa,xab,xca,xcy,xbw,xaa,xab,xcv,xaa,xcm,xcc,xc2,xaa,xab,xb4,xcn,xbx,xaa,xab,xcw,xaa,xcg,xb6,xcr,xaa,xab,xcb,xcz,xbs,xaa,xab,xcp,xb0,xck,xaa,xab,xbv,xaa,xb8,xcu,xb3,xaa,xab,xc1,xbr,xce,xaa,xab,xbz,xcj,xb9,xcx,xbu,xaa,xab,xct,xb2,xcl,xaa,xab,xc5,xaa,xc7,xdc,xc6,xaa,xab,xde,xaa,xda,xc8,xdd,xaa,xab,xc9,xdf,xc4]
noncomputable def a2i:List Ob:=[b0,b1,b2,b3,b4,b5,b6,b7,b8,b9,b10,xaa,xab,xac,xad]
noncomputable def a20:List Ob:=[b0,b1,b2,xae,b4,b5,b6,b7,b8,b9,b10,xaa,xa7,xac,xad,xaf,xaa,xab,xbe,xaa,xa8,xax,xbl,xaa,xab,xat,xaa,xam,xbb,xa0,xaa,xab,xa3,xaa,xbf,xak,xa9,xaa,xab,xai,xaa,xau,xbi,xan,xaa,xab,xbp,xaa,xa4,xar,xbh,xaa,xab,xay,xbn,xaj,xaa,xab,xbk,xao,xbc,xaa,xab,xag,xaa,xaq,xbg,xal,xaa,xab,xbm,xaa,xa6,xav,xbj,xaa,xab,xa1,xaa,xah,xa5,xas,xaa,xab,xba,xaz,xbo,xaa,xab,xaw,xaa,xap,xbd,xa2]
noncomputable def a2k:List Ob:=[b0,b1,b2,xbq,b4,b5,b6,b7,b8,b9,b10,xaa,xch,xac,xad,xaf,xaa,xab,xbe,xaa,xa8,xax,xbl,xaa,xab,xat,xaa,xam,xbb,xa0,xaa,xab,xa3,xaa,xbf,xak,xa9,xaa,xab,xai,xaa,xau,xbi,xan,xaa,xab,xbp,xaa,xa4,xar,xbh,xaa,xab,xay,xbn,xaj,xaa,xab,xbk,xao,xbc,xaa,xab,xag,xaa,xaq,xbg,xal,xaa,xab,xbm,xaa,xa6,xav,xbj,xaa,xab,xa1,xaa,xah,xa5,xas,xaa,xab,xba,xaz,xbo,xaa,xab,xaw,xaa,xap,xbd,xa2,xaa,xab,xcd,xaa,xco,xby,xci,xaa,xab,xbt,xaa,xb7,xcs,xb1,xaa,xab,xc0,xaa,xcf,xb5,xcq,xaa,xab,xca,xcy,xbw,xaa,xab,xcv,xaa,xcm,xcc,xc2,xaa,xab,xb4,xcn,xbx,xaa,xab,xcw,xaa,xcg,xb6,xcr,xaa,xab,xcb,xcz,xbs,xaa,xab,xcp,xb0,xck,xaa,xab,xbv,xaa,xb8,xcu,xb3,xaa,xab,xc1,xbr,xce,xaa,xab,xbz,xcj,xb9,xcx,xbu,xaa,xab,xct,xb2,xcl]
noncomputable def a22:List Ob:=[b0,b1,b2,xc3,b4,b5,b6,b7,b8,b9,b10,xaa,xdb,xac,xad,xaf,xaa,xab,xbe,xaa,xa8,xax,xbl,xaa,xab,xat,xaa,xam,xbb,xa0,xaa,xab,xa3,xaa,xbf,xak,xa9,xaa,xab,xai,xaa,xau,xbi,xan,xaa,xab,xbp,xaa,xa4,xar,xbh,xaa,xab,xay,xbn,xaj,xaa,xab,xbk,xao,xbc,xaa,xab,xag,xaa,xaq,xbg,xal,xaa,xab,xbm,xaa,xa6,xav,xbj,xaa,xab,xa1,xaa,xah,xa5,xas,xaa,xab,xba,xaz,xbo,xaa,xab,xaw,xaa,xap,xbd,xa2,xaa,xab,xcd,xaa,xco,xby,xci,xaa,xab,xbt,xaa,xb7,xcs,xb1,xaa,xab,xc0,xaa,xcf,xb5,xcq,xaa,xab,xca,xcy,xbw,xaa,xab,xcv,xaa,xcm,xcc,xc2,xaa,xab,xb4,xcn,xbx,xaa,xab,xcw,xaa,xcg,xb6,xcr,xaa,xab,xcb,xcz,xbs,xaa,xab,xcp,xb0,xck,xaa,xab,xbv,xaa,xb8,xcu,xb3,xaa,xab,xc1,xbr,xce,xaa,xab,xbz,xcj,xb9,xcx,xbu,xaa,xab,xct,xb2,xcl,xaa,xab,xc5,xaa,xc7,xdc,xc6,xaa,xab,xde,xaa,xda,xc8,xdd,xaa,xab,xc9,xdf,xc4]
noncomputable def hpA(P:Params):Heap:=⟨⟨a2n.map (· P)⟩,{}⟩
noncomputable def hpZ(P:Params):Heap:=⟨⟨a28.map (· P)⟩,{}⟩
noncomputable def tr0(P:Params):BT:=bt 20 (a2i.map (· P))
noncomputable def tr1(P:Params):BT:=bt 20 (a20.map (· P))
noncomputable def tr2(P:Params):BT:=bt 20 (a2k.map (· P))
noncomputable def tr3(P:Params):BT:=bt 20 (a22.map (· P))
noncomputable def sA(w:World)(os:OsState):Shared:=⟨hpA w.params,#[],{},187,os⟩
noncomputable def sZ(w:World)(os:OsState):Shared:=⟨hpZ w.params,#[],{},440,os⟩
noncomputable def st0(w:World)(os:OsState):SharedT:=⟨tr0 w.params,15,{},#[],{},187,os⟩
noncomputable def st1(w:World)(os:OsState):SharedT:=⟨tr1 w.params,94,{},#[],{},292,os⟩
noncomputable def st2(w:World)(os:OsState):SharedT:=⟨tr2 w.params,173,{},#[],{},410,os⟩
noncomputable def st3(w:World)(os:OsState):SharedT:=⟨tr3 w.params,192,{},#[],{},440,os⟩
noncomputable def ay2:List Stmt:=((behindTheImports p).drop 0).take 16
noncomputable def auu:List Stmt:=((behindTheImports p).drop 16).take 13
noncomputable def asd:List Stmt:=((behindTheImports p).drop 29).take 3
theorem a33(w:World):(fun os=>topGo treeTable p w 11 an 12 ⟨boot_heap w.params,#[],boot_drawn,boot_toks,os⟩ (topStub p))=fun os=>some (sA w os,⟨denote treeTable cE,cE,⟨0,0,0,0⟩,[topFrame q0]⟩):=by kernel_rfl
theorem a37(w:World):(fun os=>segRun treeTable p w 11 an 1 1 (sA w os) (blockOf (behindTheImports p) env0 cE ⟨0,0,0,0⟩ [topFrame q0]))=fun os=>some (.next,(st0 w os).abs,cE,⟨0,0,0,0⟩):=by kernel_rfl
theorem pc1:∀w,Pc 394 st0 st1 ay2 ⟨0,0,0,0⟩ ⟨65,0,69,99⟩ w:=fun w=>by kernel_rfl
theorem pc2:∀w,Pc 393 st1 st2 auu ⟨65,0,69,99⟩ ⟨221,0,234,90⟩ w:=fun w=>by kernel_rfl
theorem pc3:∀w,Pc 95 st2 st3 asd ⟨221,0,234,90⟩ ⟨249,0,271,48⟩ w:=fun w=>by kernel_rfl
theorem a38(w:World):(fun os=>topRun treeTable p w 11 an 2 (st3 w os).abs ⟨doneF .next,cE,⟨249,0,271,48⟩,[topFrame q0]⟩)=fun os=>some (sZ w os):=by kernel_rfl
theorem a0m:ay2++(auu++(asd++([])))=behindTheImports p:=by kernel_rfl
theorem a30(w:World)(os:OsState):topRun treeTable p w 11 an (12+(1+(394+(393+(95+(2)))))) ⟨boot_heap w.params,#[],boot_drawn,boot_toks,os⟩ (topStub p)=some (sZ w os):=by
 have h:=(piece_app (l:=ay2) (rest:=auu++(asd++([]))) (segRun_of (C8 (pc1 w) os)) (piece_app (l:=auu) (rest:=asd++([])) (segRun_of (C8 (pc2 w) os)) (piece_app (l:=asd) (rest:=[]) (segRun_of (C8 (pc3 w) os)) (piece_nil (env:=env0) (C8 (a38 w) os)))));rw[a0m] at h;exact go_top (C8 (a33 w) os) (piece_block (C8 (a37 w) os) h)
noncomputable def as0:List Nat:=[0,1,2,3,4,5,6,7,8,9,10,11,12,13,14,15,16,17,18,19,20,21,22,23,24,25,26,27,28,29,30,31,32,33,34,35,36,37,38,39,40,41,42,43,44,45,46,47,48,49,50,51,52,53,54,55,56,57,58,59,60,61,62,63,64,65,66,67,68,69,70,71,72,73,74,75,76,77,78,79,80,81,82,83,84,85,86,87,88,89,90,91,92,93,94,95,96,97,98,99,100,101,102,103,104,105,106,107,108,109,110,111,112,113,114,115,116,117,118,119,120,121,122,123,124,125,126,127,128,129,130,131,132,133,134,135,136,137,138,139,140,141,142,143,144,145,146,147,148,149,150,151,152,153,154,155,156,157,158,159,160,161,162,163,164,165,166,167,168,169,170,171,172,173,174,175,176,177,178,179,180,181,182,183,184,185,186,187,188,189,190,191]
noncomputable def vw:Program:={ p with main:={ p.main with body:=[top 1,top 2,top 4,top 5,top 6,top 7,top 8,top 9,top 11,top 12,top 13,top 14,top 15,top 16,top 17,top 18,top 19,top 20,top 21,top 22,top 23,top 24,top 25,top 26,top 27,top 28,top 29,top 30,top 31] } }
noncomputable def K0:Params->Frag:=fun P=>(nat_lit 0,b0 P)::(nat_lit 1,b1 P)::(nat_lit 2,b2 P)::(nat_lit 3,xc3 P)::(nat_lit 4,b4 P)::(nat_lit 5,b5 P)::(nat_lit 6,b6 P)::(nat_lit 7,b7 P)::(nat_lit 8,b8 P)::(nat_lit 9,b9 P)::(nat_lit 10,b10 P)::(nat_lit 11,xaa P)::(nat_lit 12,xdb P)::(nat_lit 13,xac P)::(nat_lit 14,xad P)::(nat_lit 15,xaf P)::(nat_lit 16,xaa P)::(nat_lit 17,xab P)::(nat_lit 18,xbe P)::(nat_lit 19,xaa P)::(nat_lit 20,xa8 P)::(nat_lit 21,xax P)::(nat_lit 22,xbl P)::(nat_lit 23,xaa P)::(nat_lit 24,xab P)::(nat_lit 25,xat P)::(nat_lit 26,xaa P)::(nat_lit 27,xam P)::(nat_lit 28,xbb P)::(nat_lit 29,xa0 P)::(nat_lit 30,xaa P)::(nat_lit 31,xab P)::(nat_lit 32,xa3 P)::(nat_lit 33,xaa P)::(nat_lit 34,xbf P)::(nat_lit 35,xak P)::(nat_lit 36,xa9 P)::(nat_lit 37,xaa P)::(nat_lit 38,xab P)::(nat_lit 39,xai P)::(nat_lit 40,xaa P)::(nat_lit 41,xau P)::(nat_lit 42,xbi P)::(nat_lit 43,xan P)::(nat_lit 44,xaa P)::(nat_lit 45,xab P)::(nat_lit 46,xbp P)::(nat_lit 47,xaa P)::(nat_lit 48,xa4 P)::(nat_lit 49,xar P)::(nat_lit 50,xbh P)::(nat_lit 51,xaa P)::(nat_lit 52,xab P)::(nat_lit 53,xay P)::(nat_lit 54,xbn P)::(nat_lit 55,xaj P)::(nat_lit 56,xaa P)::(nat_lit 57,xab P)::(nat_lit 58,xbk P)::(nat_lit 59,xao P)::(nat_lit 60,xbc P)::(nat_lit 61,xaa P)::(nat_lit 62,xab P)::(nat_lit 63,xag P)::(nat_lit 64,xaa P)::(nat_lit 65,xaq P)::(nat_lit 66,xbg P)::(nat_lit 67,xal P)::(nat_lit 68,xaa P)::(nat_lit 69,xab P)::(nat_lit 70,xbm P)::(nat_lit 71,xaa P)::(nat_lit 72,xa6 P)::(nat_lit 73,xav P)::(nat_lit 74,xbj P)::(nat_lit 75,xaa P)::(nat_lit 76,xab P)::(nat_lit 77,xa1 P)::(nat_lit 78,xaa P)::(nat_lit 79,xah P)::(nat_lit 80,xa5 P)::(nat_lit 81,xas P)::(nat_lit 82,xaa P)::(nat_lit 83,xab P)::(nat_lit 84,xba P)::(nat_lit 85,xaz P)::(nat_lit 86,xbo P)::(nat_lit 87,xaa P)::(nat_lit 88,xab P)::(nat_lit 89,xaw P)::(nat_lit 90,xaa P)::(nat_lit 91,xap P)::(nat_lit 92,xbd P)::(nat_lit 93,xa2 P)::(nat_lit 94,xaa P)::(nat_lit 95,xab P)::(nat_lit 96,xcd P)::(nat_lit 97,xaa P)::(nat_lit 98,xco P)::(nat_lit 99,xby P)::(nat_lit 100,xci P)::(nat_lit 101,xaa P)::(nat_lit 102,xab P)::(nat_lit 103,xbt P)::(nat_lit 104,xaa P)::(nat_lit 105,xb7 P)::(nat_lit 106,xcs P)::(nat_lit 107,xb1 P)::(nat_lit 108,xaa P)::(nat_lit 109,xab P)::(nat_lit 110,xc0 P)::(nat_lit 111,xaa P)::(nat_lit 112,xcf P)::(nat_lit 113,xb5 P)::(nat_lit 114,xcq P)::(nat_lit 115,xaa P)::(nat_lit 116,xab P)::(nat_lit 117,xca P)::(nat_lit 118,xcy P)::(nat_lit 119,xbw P)::(nat_lit 120,xaa P)::(nat_lit 121,xab P)::(nat_lit 122,xcv P)::(nat_lit 123,xaa P)::(nat_lit 124,xcm P)::(nat_lit 125,xcc P)::(nat_lit 126,xc2 P)::(nat_lit 127,xaa P)::(nat_lit 128,xab P)::(nat_lit 129,xb4 P)::(nat_lit 130,xcn P)::(nat_lit 131,xbx P)::(nat_lit 132,xaa P)::(nat_lit 133,xab P)::(nat_lit 134,xcw P)::(nat_lit 135,xaa P)::(nat_lit 136,xcg P)::(nat_lit 137,xb6 P)::(nat_lit 138,xcr P)::(nat_lit 139,xaa P)::(nat_lit 140,xab P)::(nat_lit 141,xcb P)::(nat_lit 142,xcz P)::(nat_lit 143,xbs P)::(nat_lit 144,xaa P)::(nat_lit 145,xab P)::(nat_lit 146,xcp P)::(nat_lit 147,xb0 P)::(nat_lit 148,xck P)::(nat_lit 149,xaa P)::(nat_lit 150,xab P)::(nat_lit 151,xbv P)::(nat_lit 152,xaa P)::(nat_lit 153,xb8 P)::(nat_lit 154,xcu P)::(nat_lit 155,xb3 P)::(nat_lit 156,xaa P)::(nat_lit 157,xab P)::(nat_lit 158,xc1 P)::(nat_lit 159,xbr P)::(nat_lit 160,xce P)::(nat_lit 161,xaa P)::(nat_lit 162,xab P)::(nat_lit 163,xbz P)::(nat_lit 164,xcj P)::(nat_lit 165,xb9 P)::(nat_lit 166,xcx P)::(nat_lit 167,xbu P)::(nat_lit 168,xaa P)::(nat_lit 169,xab P)::(nat_lit 170,xct P)::(nat_lit 171,xb2 P)::(nat_lit 172,xcl P)::(nat_lit 173,xaa P)::(nat_lit 174,xab P)::(nat_lit 175,xc5 P)::(nat_lit 176,xaa P)::(nat_lit 177,xc7 P)::(nat_lit 178,xdc P)::(nat_lit 179,xc6 P)::(nat_lit 180,xaa P)::(nat_lit 181,xab P)::(nat_lit 182,xde P)::(nat_lit 183,xaa P)::(nat_lit 184,xda P)::(nat_lit 185,xc8 P)::(nat_lit 186,xdd P)::(nat_lit 187,xaa P)::(nat_lit 188,xab P)::(nat_lit 189,xc9 P)::(nat_lit 190,xdf P)::(nat_lit 191,xc4 P)::[]
abbrev lamC:Nat:=166
abbrev lamT:Nat:=162
noncomputable abbrev lamO:Ob:=xcx
abbrev ls:List Str:=[]
noncomputable abbrev Xt:Shared->Bool:=fun s=>xlAt vw [] s&&recOk (RowW.records rr.row.toRowW) s
theorem a1t(w:World):((boot_heap w.params).isNs mainGlobals&&(#[]:Array GenState).size==0,(boot_heap w.params).objs.size,(boot_heap w.params).nsMap mainGlobals "__annotations__")=(true,11,an):=by kernel_rfl
theorem a26:opening p=plainProg p.main.scope.names:=by kernel_rfl
theorem a3i(s:Shared):fenceModules? p s=some s:=by kernel_rfl
theorem lk1(w:World):(fun os=>(staticsOk (importedModules p.main.body) (boot_heap w.params) (hpZ w.params)&&namesBound p (hpZ w.params)&&gensDone (sZ w os)&&laidKept (boot_heap w.params) (hpZ w.params)))=fun _=>true:=by kernel_rfl
theorem lk2(w:World):(fun os=>openSeen vw ls (importedModules p.main.body) Xt true (sZ w os))=fun _=>openGood vw ls:=by kernel_rfl
theorem lk3(w:World):(fun os=>obsZ as0 (sZ w os))=fun _=>valZ K0 192 440 w:=by kernel_rfl
theorem left_:LeftO p vw ls Xt (obsZ as0) (valZ K0 192 440) 1884:=LeftO.of_pieces (boot_open a26 rfl a3i) a1t a30 rfl fun w=>funext fun os=>looks_pair (C8 (lk1 w) os) (looks_pair (C8 (lk2 w) os) (C8 (lk3 w) os))
end H12
open PySem PySem.W PyProof.Rows
set_option maxRecDepth 100000 in
set_option maxHeartbeats 0 in
theorem PySem.Challenge.cw_oncewise_k12_ends_and_eithers_holds : PySem.Challenge.rw_oncewise_k12_ends_and_eithers.Holds := by
 w_on;refine holds_law (by decide +kernel) fun said=>?_
 refine holds_openX (q:=H12.vw) (loose:=H12.ls) (Xt:=H12.Xt) (XP:=XL H12.vw []) (Yf:=PySem.W.X.obsZ H12.as0) (Ya:=PySem.W.X.valZ H12.K0 192 440) (N:=1884) H12.left_ (fun s e=>xl_of s (Bool.and_eq_true_iff.mp e).1)
  XL.keeps (by rfl) (by rfl) (by rfl) (fun s e=>recFacts_of (Bool.and_eq_true_iff.mp e).2)
  (by rfl) (by decide +kernel) (by decide +kernel) ⟨rfl,rfl,rfl,rfl,rfl,by decide +kernel⟩ ?hw ?hc
 case hw=>w_witness2
 k_fill
 refine L2.walk_ofZT (l:=PySem.Challenge.rw_oncewise_k12_ends_and_eithers) (n:=63) (k:=131) (x:="_law_script") (CX:=L2.CX0) (sp:=L3.spTopT L3.lamQ) rfl (by decide) rfl ⟨rfl,by decide,by decide⟩ (fun _=>rfl) (by decide) ?F ?S ?C
 case F=>
  intro w mg fa h KX G hmg;have T:(H12.K0 w.params).lookup H12.lamT=some (PySem.W.tabObj #[]):=by k_is
  have hc:(H12.K0 w.params).lookup H12.lamC=some (H12.lamO w.params):=by k_is
  have hd:∀h:Heap,h.get? H12.lamC=some (H12.lamO w.params)->PySem.W.CodeHd h H12.lamC H12.lamT:=fun h e=>⟨_,_,_,_,_,_,_,_,_,e,rfl,rfl,rfl,rfl,rfl,rfl,rfl,rfl,by decide⟩;have hb:(H12.K0 w.params).lookup 4=some (PySem.W.boot_o_4 w.params):=by k_is
  have DT:L3.DefInT (L2.lessK H12.lamT (H12.K0 w.params)) "_law_order" K12.s__law_order H12.lamT:=by
   refine' K12.def_inT (L2.ns_dn T ?a) (L2.lk_dn T ?l ?n) (L2.code_dn T ?c) (L2.keep_dn T ?k) ?LC
   (case a=>k_is);(case l=>k_is);(case n=>(intro e;cases e));(case c=>k_is);(case k=>k_is)
   refine'⟨⟨H12.lamC,_,rfl,L2.lk_dn T hc ?m,hd⟩,⟨4,_,L2.ns_dn T ?b,by decide,by decide,L2.lk_dn T hb ?p,rfl,rfl,rfl⟩⟩
   (case m=>(intro e;cases e));(case b=>k_is);(case p=>(intro e;cases e))
  refine⟨H12.lamT,⟨T,⟨H12.lamC,fun h X=>hd h (X _ _ hc)⟩,by decide⟩,?_⟩;refine' K12.all_mk (K:=L2.lessK H12.lamT (H12.K0 w.params)) (L2.lessK_in KX) G hmg ?D0 ?D1 ?D2 ?D3 ?D4 ?D5 ?D6 ?D7 ?D8 ?D9 ?D10 ?D11 ?D12 ?D13 ?D14 ?D15 ?D16 ?D17 ?D18 ?D19 ?D20 ?D21 ?D22 ?D23 ?D24 ?D25 ?D26 ?D27 ?aLEAF_KINDS ?lLEAF_KINDS ?zenumerate ?zlen ?zisinstance ?zbool ?zlist ?ztuple ?zzip ?zint ?zstr ?zrange ?zsorted ?zmax ?zmin
  (case D0 | D1 | D2 | D3 | D4 | D5 | D6 | D7 | D8 | D9 | D10 | D11 | D12 | D13 | D14 | D15 | D16 | D17 | D18 | D19 | D20 | D21 | D22 | D24 | D25 | D26 | D27=>refine' L2.def_in (L2.ns_dn T ?a) (L2.lk_dn T ?l ?n) (L2.code_dn T ?c) (L2.keep_dn T ?k);(case a=>k_is);(case l=>k_is);(case n=>(intro e;cases e));(case c=>k_is);(case k=>k_is))
  (case D23=>exact DT)
  (case aLEAF_KINDS=>(refine' L2.ns_dn T ?_;k_is))
  (case lLEAF_KINDS=>(refine' L2.lk_dn T ?x ?n;(case x=>k_is);(case n=>(intro e;cases e))))
  (case zenumerate | zlen | zisinstance | zbool | zlist | ztuple | zzip | zint | zstr | zrange | zsorted | zmax | zmin=>(refine' L2.ns_dn T ?_;k_is))
 case S=>exact L3.top_startT
 case C=>exact fun _ _ _ _ z=>z
#print axioms PySem.Challenge.cw_oncewise_k12_ends_and_eithers_holds
