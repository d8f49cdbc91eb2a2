import PyProof.Rows.All
import Wide.All
import OpenK.AllK
import Wide.FinOn
import Lean
import PyProof.EqAt
import PyProof.EqKinds
import PyProof.TupleCall
import PyProof.CompFree
import PyProof.CompUse
import PySem.SetOps
import PyProof.SetScanFacts
import PyProof.TupleKey
import PyProof.SetKind
import PyProof.Rows.SetFrom
import PyProof.IsRules
import PyProof.P3Eq
import PyProof.NeKinds
import KE.KSortTup
import KE.KTupSum
import PySem.Challenge.RW_threewards_k09_dyes
set_option Elab.async false
set_option linter.all false
set_option maxRecDepth 100000
set_option compiler.extract_closed false
namespace Internal
noncomputable section
theorem U{p:Prop}(h:p:=by first|with_reducible(first|assumption|exact Int.le_of_lt (by assumption)|exact Nat.le_of_lt (by assumption)|exact Int.ne_of_gt (by assumption)|exact Int.ne_of_lt (by assumption)|exact Int.natCast_nonneg _|exact Int.not_lt.mpr (by assumption)|exact Int.not_le.mpr (by assumption)|exact Int.not_lt.mp (by assumption)|exact Int.not_le.mp (by assumption)|exact Eq.symm (by assumption))|lia):p:=h
theorem yG{p:Prop}(h:p:=by grind):p:=h
theorem yH{p:Prop}(h:p:=by omega):p:=h
theorem yI{p:Prop}(h:p:=by simp):p:=h
theorem yJ{p:Prop}(h:p:=by decide):p:=h
theorem yK{p:Prop}(h:p:=by decide +kernel):p:=h
theorem yL{p:Prop}(h:p:=by assumption):p:=h
def yM:=@Int.emod_eq_of_lt
def yN:=@if_neg
def yO:=@if_pos
def yP:=@List.length_map
def yQ:=@Int.le_of_lt
def yR:=@Bool.and_eq_true
def yS:=@List.mem_range
def yT:=@Int.mul_nonneg
def yW:=@Int.mul_eq_zero
def yX:=@Int.mul_pos
def yY:=@List.getElem?_eq_some_iff
def yZ:=@decide_eq_true_eq
def ye:=@List.map_cons
def yf:=@Nat.le_refl
def yg:=@Int.mul_nonpos_of_nonneg_of_nonpos
def yh:=@List.size_toArray
def yi:=@Int.mul_le_mul_of_nonneg_left
def yj:=@List.mem_cons_of_mem
def yk:=@Int.toNat_of_nonneg
def yn:=@List.length_cons
def yo:=@beq_eq_false_iff_ne
def yq:=@List.mem_cons_self
def yr:=@List.mem_singleton
def yu:=@Nat.ne_of_lt
def yv:=@List.getElem?_eq_getElem
def yw:=@List.mem_cons
def yx:=@List.length_append
def yz:=@Int.emod_lt_of_pos
def y8:=@Int.mul_le_mul_of_nonneg_right
def y9:=@Option.bind_some
def zA:=@List.length_range
def zB:=@Nat.lt_of_lt_of_le
def zC:=@Int.lt_or_gt_of_ne
def zD:=@Option.some.inj
def zE:=@Int.emod_nonneg
def zF:=@List.mem_append
def zG:=@Int.add_zero
def zH:=@List.getElem?_append_left
def zI:=@Int.emod_emod_of_dvd
def zJ:=@List.getElem?_append_right
def zK:=@List.getElem?_set_ne
def zL:=@Bool.or_eq_false_iff
def zM:=@List.map_map
def zN:=@Array.getElem?_eq_getElem
def zO:=@Bool.not_eq_true'
def zP:=@List.map_append
def zQ:=@Int.zero_mul
def zR:=@Option.some.injEq
def zS:=@Int.lt_trichotomy
def zT:=@Nat.le_trans
def zU:=@decide_eq_false
def zV:=@List.mem_map
def zW:=@List.all_eq_true
def zX:=@Bool.or_eq_true
def zY:=@List.getD_eq_getElem?_getD
def zZ:=@List.mem_append_right
def za:=@List.pairwise_iff_getElem
def zb:=@Classical.byContradiction
def zc:=@decide_eq_true
def zd:=@Prod.ext
def ze:=@Int.mul_zero
def zf:=@Option.map_some
def zg:=@Int.not_le
def zh:=@PySem.mem_of_lookup
def zi:=@Int.add_mul_emod_self_left
def zj:=@List.getElem?_map
def zk:=@Int.mul_nonneg_of_nonpos_of_nonpos
def zl:=@List.mem_of_getElem?
def zm:=@Int.le_of_mul_le_mul_left
def zo:=@Ne.symm
def zp:=@List.mem_filter
def zq:=@List.length_nil
def zr:=@Int.zero_add
def zt:=@List.filter_cons
def zu:=@List.getElem?_cons_succ
def zv:=@List.any_cons
def zw:=@List.mem_append_left
def zx:=@List.pairwise_append
def zy:=@List.nil_append
def z9:=@Int.dvd_refl
def AAA:=@Int.sub_emod
def AAB:=@congrArg
def AAC:=@Int.le_refl
def AAD:=@Int.mul_nonpos_of_nonpos_of_nonneg
def AAE:=@Bool.true_and
def AAF:=@Array.getElem?_toList
def AAG:=@Int.le_total
def AAH:=@Int.add_emod
def AAI:=@PySem.W.kia_one
def AAJ:=@Bool.false_ne_true
def AAK:=@Int.mul_lt_mul_of_pos_right
def AAL:=@List.lookup_cons
def AAM:=@Int.sub_self
def AAN:=@Array.length_toList
def AAO:=@Int.eq_of_mul_eq_mul_left
def AAP:=@Int.mul_ediv_add_emod
def AAQ:=@List.cons_append
def AAR:=@Nat.zero_le
def AAS:=@beq_iff_eq
def AAT:=@List.any_eq_false
def AAU:=@List.append_nil
def AAV:=@List.nodup_cons
def AAW:=@if_true
def AAX:=@List.getElem_of_mem
def AAY:=@List.length_take
def AAZ:=@List.not_mem_nil
def AAa:=@List.length_replicate
def AAb:=@List.length_singleton
def AAc:=@Bool.false_eq_true
def AAd:=@List.set_cons_zero
def AAe:=@Bool.eq_iff_iff
def AAf:=@List.pairwise_map
def AAg:=@List.getElem?_replicate
def AAh:=@decide_eq_false_iff_not
def AAi:=@Int.emod_eq_emod_iff_emod_sub_eq_zero
def AAj:=@Nat.le_of_lt
def AAk:=@List.any_map
def AAl:=@Int.mul_comm
def AAm:=@List.range_succ
def AAn:=@List.length_filter_le
def AAo:=@Int.mul_lt_mul_of_pos_left
def AAp:=@List.getElem?_of_mem
def AAq:=@Int.mul_neg_of_pos_of_neg
def AAr:=@Int.sub_zero
def AAs:=@List.mem_reverse
def AAt:=@List.getElem_append_left
def AAu:=@List.filterMap_cons
def AAv:=@List.map_congr_left
def AAw:=@Int.emod_eq_zero_of_dvd
def AAx:=@Int.dvd_of_emod_eq_zero
def AAy:=@Nat.lt_irrefl
def AAz:=@Prod.mk.injEq
def AA0:=@Bool.or_false
def AA1:=@List.find?_cons
def AA2:=@List.foldl_cons
def AA3:=@Int.mul_emod_right
def AA4:=@List.Nodup.length_le_of_subset
def AA5:=@List.getElem?_set_self
def AA6:=@if_false
def AA7:=@List.getElem_cons_succ
def AA8:=@Int.mul_sub
def AA9:=@Option.isSome_map
def ABA:=@Nat.lt_succ_of_lt
def ABB:=@List.map_nil
def ABC:=@Nat.zero_add
def ABD:=@Int.sub_nonneg
def ABE:=@Nat.le_of_ble_eq_true
def ABF:=@PyProof.Rows.callWith_type1
def ABG:=@List.length_drop
def ABH:=@List.getElem_mem
def ABI:=@Array.getElem?_eq_some_iff
def ABJ:=@Array.perm_iff_toList_perm
def ABK:=@Int.emod_self
def ABL:=@Bool.beq_comm
def ABM:=@Int.sub_pos
def ABN:=@List.countP_eq_zero
def ABO:=@List.filter_eq_self
def ABP:=@List.drop_eq_getElem_cons
def ABQ:=@Int.lt_of_mul_lt_mul_left
def ABR:=@Bool.decide_and
def ABS:=@Nat.lt_of_le_of_lt
def ABT:=@List.pairwise_cons
def ABU:=@PyProof.Rows.F.entry_set_update_loop
def ABV:=@Int.le_of_eq
def ABW:=@Int.lt_of_le_of_lt
def ABX:=@Int.pos_of_mul_pos_right
def ABY:=@List.set_cons_succ
def ABZ:=@Bool.not_false
def ABa:=@PySem.F.plainAttrs_list
def ABb:=@Int.toNat_natCast
def ABc:=@List.reverse_cons
def ABd:=@List.length_pos_of_mem
def ABe:=@Nat.le_succ
def ABf:=@List.take_of_length_le
def ABg:=@Int.neg_mul
def ABh:=@Int.mul_neg
def ABi:=@Prod.mk.inj
def ABj:=@List.getElem_inj
def ABk:=@List.nodup_range
def ABl:=@or_false
def ABm:=@Array.getElem?_setIfInBounds_ne
def ABn:=@Nat.lt_trans
def ABo:=@List.mem_of_mem_drop
def ABp:=@List.all_map
def ABq:=@List.any_nil
def ABr:=@Int.mul_ne_zero
def ABs:=@List.mem_of_mem_take
def ABt:=@Int.mul_le_mul_of_nonpos_left
def ABu:=@List.getElem?_range
def ABv:=@Bool.false_and
def ABw:=@or_congr_right
def ABx:=@Int.one_mul
def ABy:=@Int.neg_neg
def ABz:=@List.mem_filterMap
def AB0:=@List.getElem_range
def AB1:=@List.lookup_append
def AB2:=@List.zip_cons_cons
def AB3:=@Array.getD_eq_getD_getElem?
def AB4:=@Int.add_emod_right
def AB5:=@List.take_sublist
def AB6:=@List.append_assoc
def AB7:=@List.foldl_append
def AB8:=@Bool.eq_false_iff
def AB9:=@Nat.lt_trichotomy
def ACA:=@Decidable.byContradiction
def ACB:=@List.getElem?_take_of_lt
def ACC:=@Nat.succ_pos
def ACD:=@List.filterMap_cons_some
def ACE:=@List.drop_length
def ACF:=@Bool.or_comm
def ACG:=@Int.le_trans
def ACH:=@List.countP_cons
def ACI:=@List.pairwise_mergeSort
def ACJ:=@Int.eq_ofNat_of_zero_le
def ACK:=@List.of_mem_zip
def ACL:=@List.length_set
def ACN:=@List.cons.injEq
def ACO:=@List.sum_append
def ACP:=@Sum.inl.inj
def ACQ:=@PySem.W.cellsFrom_some
def ACR:=@Option.map_eq_some_iff
def ACS:=@List.filter_eq_nil_iff
def ACT:=@List.find?_cons_of_pos
def ACU:=@List.find?_cons_of_neg
def ACV:=@Int.mul_add
def ACW:=@Int.sub_mul
def ACX:=@Int.dvd_neg
def ACY:=@List.range_succ_eq_map
def ACZ:=@List.nodup_nil
def ACa:=@List.take_append_drop
def ACb:=@PySem.boot_len
def ACc:=@List.dropLast_eq_take
def ACd:=@Nat.mod_lt
def ACf:=@Bool.not_true
def ACg:=@List.length_reverse
def ACh:=@List.mergeSort_perm
def ACi:=@Nat.le_of_eq
def ACn:=@Int.lt_or_le
def ACo:=@Int.lt_trans
def ACq:=@Bool.not_and
def ACx:=@Int.mul_one
namespace L2
open PySem PySem.Spec PyProof.Rows
abbrev Key:=Sum Int Str
noncomputable def KP:Key->Value->Bool
 |.inl k,v=>Value.isInt k v
 |.inr x,v=>Value.isStrOf x v
noncomputable def kY(w:World):Key->Int
 |.inl k=>hashInt k
 |.inr x=>hashStr w x
theorem HA:∀{k:Key}{v:Value},KP k v=true->(∃i t,k=Sum.inl i/\v=Value.int i t)\/(∃x t,k=Sum.inr x/\v=Value.str x t)
 |.inl i,v,h=>by obtain⟨t,e⟩:=Value.isInt_shape h;exact .inl ⟨i,t,rfl,e⟩
 |.inr x,v,h=>by obtain⟨t,e⟩:=Value.isStrOf_shape h;exact .inr ⟨x,t,rfl,e⟩
theorem kZ(i:Int)(t:Tok):KP (.inl i) (.int i t)=true:=by simp[KP,Value.isInt]
theorem ka(x:Str)(t:Tok):KP (.inr x) (.str x t)=true:=by simp[KP,Value.isStrOf]
theorem kb(a b:Int):decide ((Sum.inl a:Key)=Sum.inl b)=(a==b):=by
 by_cases e:a=b
 .subst e;simp
 .have h:¬ (Sum.inl a:Key)=Sum.inl b:=λq=>e<|ACP q;rw[zU h];exact(yo.mpr e).symm
theorem ke(a b:Str):decide ((Sum.inr a:Key)=Sum.inr b)=decide (a=b):=by
 by_cases e:a=b
 .simp
 .have h:¬ (Sum.inr a:Key)=Sum.inr b:=λq=>e<|Sum.inr.inj q;rw[zU h,zU e]
theorem kc(a:Int)(b:Str):decide ((Sum.inl a)=Sum.inr b)=false:=zU λq=>nomatch q
theorem kd(a:Str)(b:Int):decide ((Sum.inr a)=Sum.inl b)=false:=zU λq=>nomatch q
def D4(prog:Program)(w:World):PySem.KeyKind prog w Key where
 is:=KP
 hash:=kY w
 inj:=λv a b ha hb=>by
  rcases HA ha with⟨i,t,rfl,rfl⟩|⟨x,t,rfl,rfl⟩
  .rcases HA hb with⟨j,u,rfl,e⟩|⟨y,u,rfl,e⟩
   .injection e with e1 _;rw[e1]
   .exact nomatch e
  .rcases HA hb with⟨j,u,rfl,e⟩|⟨y,u,rfl,e⟩
   .exact nomatch e
   .injection e with e1 _;rw[e1]
 byValue:=λk v h=>by rcases HA h with⟨i,t,rfl,rfl⟩|⟨x,t,rfl,rfl⟩<;>rfl
 pyHash:=λhv h=>by
  rcases HA hv with⟨i,t,rfl,rfl⟩|⟨x,t,rfl,rfl⟩
  .exact wpAny_pyHash_int h
  .exact wpAny_pyHash_str h
 eqBool:=λhu hv h=>by
  rcases HA hu with⟨i,t,rfl,rfl⟩|⟨x,t,rfl,rfl⟩
  .rcases HA hv with⟨j,u,rfl,rfl⟩|⟨y,u,rfl,rfl⟩
   .rw[kb]at h;exact wpAny_eqBool_int h
   .rw[kc]at h;exact SeqAt.EqAt.int_str i t y u _ _ _ _ h
  .rcases HA hv with⟨j,u,rfl,rfl⟩|⟨y,u,rfl,rfl⟩
   .rw[kd]at h;exact SeqAt.EqAt.str_int x t j u _ _ _ _ h
   .rw[ke]at h;exact wpAny_eqBool_str h
 «strs»:=λk x t v h=>by
  rcases HA h with⟨i,u,rfl,e⟩|⟨y,u,rfl,e⟩
  .exact nomatch e
  .injection e with e1 _
   subst e1;cases v<;>rfl
theorem lK(prog:Program)(w:World)(i:Int)(t:Tok):(D4 prog w).is (.inl i) (.int i t)=true:=kZ i t
theorem lL(prog:Program)(w:World)(x:Str)(t:Tok):(D4 prog w).is (.inr x) (.str x t)=true:=ka x t
inductive V where
 |A8|bl (b:Bool)|int (i:Int)|str (x:Str)|QU (b:Array UInt8)|J6 (b:UInt64)|ref (a:Addr)|ty (n:String)
def RelV:V->Value->Prop
 |.A8,u=>u=Value.none
 |.bl b,u=>u=Value.bool b
 |.int i,u=>∃t,u=Value.int i t
 |.str x,u=>∃t,u=Value.str x t
 |.QU b,u=>∃t,u=Value.bytes b t
 |.J6 b,u=>∃t,u=Value.float b t
 |.ref a,u=>u=Value.ref a
 |.ty n,u=>u=Value.type n
abbrev Ap:List V->List Value->Prop:=Paired RelV
theorem Ap.length{xs:List V}{us:List Value}(r:Ap xs us):xs.length=us.length:=Paired.length r
set_option tactic.hygienic false
theorem Ap.get:∀{xs:List V}{us:List Value}{i:Nat}{x:V},Ap xs us->xs[i]? = some x->∃u,us[i]? = some u/\RelV x u
 |_,_,_,_,.nil,e=>by simp at e
 |_,_,0,_,.cons r _,e=>by simp at e;subst e;exact⟨_,rfl,r⟩
 |_,_,i+1,x,.cons _ t,e=>by obtain⟨u,h1,h2⟩:=Ap.get t (by simpa using e);exact⟨u,by simpa using h1,h2⟩
theorem Ap.set{x:V}{u:Value}(r:RelV x u):∀{xs:List V}{us:List Value}(i:Nat),Ap xs us->Ap (xs.set i x) (us.set i u)
 |_,_,_,.nil=>.nil
 |_,_,0,.cons _ t=>.cons r t
 |_,_,i+1,.cons q t=>.cons q<|Ap.set r i t
theorem Ap.append:∀{xs ys:List V}{us ws:List Value},Ap xs us->Ap ys ws->Ap (xs++ys) (us++ws)
 |_,_,_,_,.nil,s=>s
 |_,_,_,_,.cons r t,s=>.cons r<|Ap.append t s
theorem Ap.take:∀{xs:List V}{us:List Value}(n:Nat),Ap xs us->Ap (xs.take n) (us.take n)
 |_,_,0,_=>.nil
 |_,_,_+1,.nil=>.nil
 |_,_,n+1,.cons r t=>.cons r<|Ap.take n t
theorem Ap.drop:∀{xs:List V}{us:List Value}(n:Nat),Ap xs us->Ap (xs.drop n) (us.drop n)
 |_,_,0,r=>r
 |_,_,_+1,.nil=>.nil
 |_,_,n+1,.cons _ t=>Ap.drop n t
def FJ:Option V->Option Value->Prop
 |some v,some u=>RelV v u
 |none,none=>True
 |_,_=>False
def KV{κ:Type}:List (κ×V)->List (κ×Value)->Prop:=Paired λ(p:κ×V)(q:κ×Value)=>p.1=q.1/\RelV p.2 q.2
noncomputable def kV:Key->V
 |.inl i=>.int i
 |.inr x=>.str x
inductive HO where
 |lst (xs:List V)
 |tup (xs:List V)
 |dK (AJ:List<|Key×V)|dT (AJ:List<|List Key×V)
 |set (S:Int->Bool) (n:Nat)
 |ins (C dx:Addr) (fs:List<|Str×V)
 |own (x:Addr)
 |xd (fs:List<|Str×V)
 |met (f x:Addr)
 |S5 (lo hi:Int)
 |D1 (o:Obj) (u:HO)
 |Jf (ps:Array Value)
 |ext (φ:Heap->Prop)
abbrev Hp:=Addr->Option HO
noncomputable def upd(H:Hp)(a:Addr)(o:HO):Hp:=λb=>if b=a then some o else H b
theorem Ci{H:Hp}{a:Addr}{o:HO}:upd H a o a=some o:=by unfold upd;rw[yO rfl]
theorem Be{H:Hp}{a b:Addr}{o:HO}(h:b≠a):upd H a o b=H b:=by unfold upd;rw[yN h]
theorem lV{H:Hp}{a b:Addr}{o u:HO}(h:H a=some o)(h':H b=some u)(d:o≠u):a≠b:=by intro e;subst e;rw[h]at h';exact d<|zD h'
theorem D5{H:Hp}{a b:Addr}{o:HO}(h:H a=some o)(h':H b=none):a≠b:=by intro e;subst e;rw[h]at h';cases h'
section
variable(P:Program)(w:World)
def By(H:Hp)(h:Heap)(a:Addr):HO->Prop
 |.lst xs=>xs.length<=sizeLine/\∃(its:List Value)(n:Nat),Ap xs its/\h.get? a=some {cls:=.type "list",data:=.seq its.toArray n}
 |.tup xs=>xs.length<=sizeLine/\∃its:List Value,Ap xs its/\IsTup h a its.toArray
 |.dK AJ=>AJ.length<=sizeLine/\(a==sysModules)=false/\∃vs,KV AJ vs/\h.DictOf (D4 P w) a vs
 |.dT AJ=>AJ.length<=sizeLine/\(a==sysModules)=false/\∃xs:List<|List Key×Addr×Value,
  Paired (λ(p:List Key×V)(q:List Key×Addr×Value)=>p.1=q.1/\H q.2.1=some (.tup<|p.1.map kV)/\RelV p.2 q.2.2) AJ xs/\
  ∃o es ep,h.get? a=some o/\o.ExactDict/\o.data=.dict es ep/\es.toList=xs.map (entryOfKey<|tupleKind<|D4 P w)/\(xs.map (·.1)).Nodup
 |.set S n=>h.SetOf (intKind P w) a S n
 |.ins C dx fs=>H dx=some (.own a)/\fs.length<=1000/\dx≠a/\h.get? a=some (PySem.W.instObj C dx)/\
  ∃mA,h.Ns1 dx mA/\(∀f,FJ (fs.lookup f)<|mA f)/\PySem.Within mA (fs.map (·.1))
 |.own _=>∃o,h.get? a=some o
 |.xd fs=>∃mA,h.Ns1 a mA/\∀f,FJ (fs.lookup f)<|mA f
 |.S5 lo hi=>∃t u v,h.get? a=some {cls:=.type "range",data:=.fields #[.int lo t,.int hi u,.int 1 v]}
 |.D1 o u=>h.get? a=some o/\By H h a u
 |.Jf ps=>h.get? a=some {cls:=.none,data:=.fields ps}
 |.met f x=>h.get? a=some (PySem.W.methodObj (.ref f)<|.ref x)
 |.ext φ=>φ h/\(∃o,h.get? a=some o)/\∀h1 h2:Heap,φ h1->(∀o,h1.get? a=some o->h2.get? a=some o)->φ h2
def Bl(H:Hp)(h:Heap):Prop:=∀a o,H a=some o->By P w H h a o
end
section
variable{P:Program}{w:World}{H H':Hp}{h h':Heap}{a:Addr}{o:HO}
theorem By.lt(x:By P w H h a o):a<h.objs.size:=by
 cases o with
 |lst xs=>obtain⟨_,_,_,_,e⟩:=x;exact Heap.lt_size e
 |tup xs=>obtain⟨_,_,_,p⟩:=x;exact p.lt
 |dK AJ=>obtain⟨_,_,_,_,o,_,_,e,_⟩:=x;exact Heap.lt_size e
 |dT AJ=>obtain⟨_,_,_,_,o,_,_,e,_⟩:=x;exact Heap.lt_size e
 |set S n=>obtain⟨o,_,_,_,e,_⟩:=x;exact Heap.lt_size e
 |ins C dx fs=>obtain⟨_,_,_,e,_⟩:=x;exact Heap.lt_size e
 |own y=>obtain⟨_,e⟩:=x;exact Heap.lt_size e
 |xd fs=>obtain⟨_,⟨_,_,_,e,_⟩,_⟩:=x;exact Heap.lt_size e
 |S5 lo hi=>obtain⟨_,_,_,e⟩:=x;exact Heap.lt_size e
 |D1 ob u=>obtain⟨e,_⟩:=x;exact Heap.lt_size e
 |Jf ps=>exact Heap.lt_size (show h.get? a=some _ from x)
 |met f y=>exact Heap.lt_size (show h.get? a=some _ from x)
 |ext φ=>obtain⟨_,⟨_,e⟩,_⟩:=x;exact Heap.lt_size e
theorem Paired.OR{α β:Type}{F G:α->β->Prop}:∀{l₁:List α}{l₂:List β},Paired F l₁ l₂->(∀a b,F a b->G a b)->Paired G l₁ l₂
 |_,_,.nil,_=>.nil
 |_,_,.cons r t,f=>.cons (f _ _ r)<|Paired.OR t f
theorem By.Md(x:By P w H h a o)(k:∀b u,(b=a\/H b=some (.own a))->h.get? b=some u->h'.get? b=some u) (ho:∀b,H b=some (.own a)->H' b=some (.own a)) (ht:∀b xs,H b=some (.tup xs)->H' b=some (.tup xs)):By P w H' h' a o:=by
 induction o with
 |lst xs=>obtain⟨z,its,n,r,e⟩:=x;exact⟨z,its,n,r,k _ _ (.inl rfl) e⟩
 |tup xs=>obtain⟨z,its,r,ob,e,c⟩:=x;exact⟨z,its,r,ob,k _ _ (.inl rfl) e,c⟩
 |dK AJ=>obtain⟨z,y,vs,r,ob,es,ep,e,c⟩:=x;exact⟨z,y,vs,r,ob,es,ep,k _ _ (.inl rfl) e,c⟩
 |dT AJ=>
  obtain⟨z,y,xs,r,ob,es,ep,e,c⟩:=x;exact⟨z,y,xs,Paired.OR r λp q z=>⟨z.1,ht _ _ z.2.1,z.2.2⟩,ob,es,ep,k _ _ (.inl rfl) e,c⟩
 |set S n=>obtain⟨ob,es,ep,t,e,c⟩:=x;exact⟨ob,es,ep,t,k _ _ (.inl rfl) e,c⟩
 |ins C dx fs=>
  obtain⟨d,z,ne,e,mA,⟨od,es,ep,e2,c⟩,r⟩:=x;exact⟨ho _ d,z,ne,k _ _ (.inl rfl) e,mA,⟨od,es,ep,k _ _ (.inr d) e2,c⟩,r⟩
 |own y=>obtain⟨ob,e⟩:=x;exact⟨ob,k _ _ (.inl rfl) e⟩
 |xd fs=>obtain⟨mA,⟨od,es,ep,e,c⟩,r⟩:=x;exact⟨mA,⟨od,es,ep,k _ _ (.inl rfl) e,c⟩,r⟩
 |S5 lo hi=>obtain⟨t,u,v,e⟩:=x;exact⟨t,u,v,k _ _ (.inl rfl) e⟩
 |D1 ob u ih=>obtain⟨e,q⟩:=x;exact⟨k _ _ (.inl rfl) e,ih q⟩
 |Jf ps=>
  have e:=x;exact k a _ (.inl rfl) e
 |met f y=>
  have e:=x;exact k a _ (.inl rfl) e
 |ext φ=>obtain⟨p,⟨o,e⟩,st⟩:=x;exact⟨st _ _ p λo q=>k _ _ (.inl rfl) q,⟨o,k _ _ (.inl rfl) e⟩,st⟩
theorem Bl.lt(x:Bl P w H h)(e:H a=some o):a<h.objs.size:=(x a o e).lt
theorem Bl.fresh(x:Bl P w H h)(e:h.objs.size<=a):H a=none:=by
 cases q:H a with
 |none=>rfl
 |some u=>exact absurd (zB (x.lt q) e) (AAy _)
theorem Bl.kept(x:Bl P w H h)(k:∀b u,h.get? b=some u->h'.get? b=some u):Bl P w H h':=λa o e=>
 (x a o e).Md (λb u _ q=>k b u q) (λ_ q=>q) λ_ _ q=>q
theorem Bl.laid(x:Bl P w H h)(k:∀b u,h.get? b=some u->h'.get? b=some u)(hp:h.objs.size<=a)(new:By P w (upd H a o) h' a o):Bl P w (upd H a o) h':=λb u e=>by
 have hn:=x.fresh hp;by_cases hb:b=a
 .subst hb;rw[Ci]at e;cases e;exact new
 .rw[Be hb]at e;exact(x b u e).Md (λc v _ q=>k c v q) (λc q=>by rw[Be<|D5 q hn];exact q) λc xs q=>by rw[Be<|D5 q hn];exact q
end
def Rd(H:Hp)(a:Addr)(u:HO):Prop:=H a=some u\/∃o,H a=some (.D1 o u)
theorem Rd.ok{P:Program}{w:World}{H:Hp}{h:Heap}{a:Addr}{u:HO}(r:Rd H a u)(x:Bl P w H h):By P w H h a u:=by
 rcases r with r|⟨o,r⟩
 .exact x a u r
 .obtain⟨_,q⟩:=x a _ r;exact q
def K8:Option HO->Prop
 |some (.lst _)=>True
 |some (.dK _)=>True
 |some (.dT _)=>True
 |some (.set _ _)=>True
 |some (.ins _ _ _)=>True
 |some (.ext _)=>True
 |_=>False
section
variable{P:Program}{w:World}{H:Hp}{h h':Heap}{x e:Addr}{o':HO}
theorem Bl.write(ok:Bl P w H h)(mu:K8<|H x)(he:e=x\/H e=some (.own x))(k:∀b u,b≠e->h.get? b=some u->h'.get? b=some u)(KC:∃u,h'.get? e=some u) (new:By P w (upd H x o') h' x o'):Bl P w (upd H x o') h':=λb u q=>by
 have X4:∀c y,H c=some (.own y)->c≠x:=λc y r z=>by subst z;rw[r]at mu;exact mu
 have la:∀c xs,H c=some (.tup xs)->c≠x:=λc xs r z=>by subst z;rw[r]at mu;exact mu
 by_cases hb:b=x
 .subst hb;rw[Ci]at q;cases q;exact new
 .rw[Be hb]at q;by_cases Iv:b=e
  .have q':H b=some (.own x):=by
    rcases he with z|z
    .exact absurd (Iv.trans z) hb
    .rw[Iv];exact z
   rw[q]at q';cases q';obtain⟨v,hv⟩:=KC;exact⟨v,by rw[Iv];exact hv⟩
  .refine(ok b u q).Md (λc v hc r=>k c v ?_ r) (λc r=>by rw[Be<|X4 c b r];exact r) λc xs r=>by rw[Be<|la c xs r];exact r
   rcases hc with rfl|hc
   .exact Iv
   .rintro rfl;rcases he with z|z
    .exact X4 c b hc z
    .rw[hc]at z;cases z;exact hb rfl
end
structure Un(fs ex:List Addr)(H H':Hp)(h h':Heap):Prop where
 keep:∀b o,h.get? b=some o->H b=none->b∉fs->b∉ex->h'.get? b=some o
 slot:∀b o,h.get? b=some o->H b=none->b∈fs->b∉ex->∃sl,h'.get? b=some {o with slots:=sl}
 free:∀b o,h.get? b=some o->H b=none->b∉ex->H' b=none
 there:∀b o,h.get? b=some o->b∉ex->∃o',h'.get? b=some o'
 Fl:∀b xs,H b=some (.tup xs)->H' b=some (.tup xs)
 Gs:∀b o u,H b=some (.D1 o u)->H' b=some (.D1 o u)
 IE:∀b ps,H b=some (.Jf ps)->∃more,H' b=some (.Jf<|ps++more)
section
variable{fs gd ex xC:List Addr}{H H1 H2:Hp}{h h1 h2 h':Heap}{a x e:Addr}{o:HO}
theorem Un.any(u:Un fs ex H H1 h h1){b:Addr}{ob:Obj}(q:h.get? b=some ob)(n:H b=none)(hx:b∉ex):∃sl,h1.get? b=some {ob with slots:=sl}:=by
 by_cases hb:b∈fs
 .exact u.slot b ob q n hb hx
 .exact⟨ob.slots,u.keep b ob q n hb hx⟩
theorem Un.kept(k:∀b u,h.get? b=some u->h'.get? b=some u):Un fs ex H H h h':=
 ⟨λb ob q _ _ _=>k b ob q,λb ob q _ _ _=>⟨ob.slots,k b ob q⟩,λ_ _ _ n _=>n,λb ob q _=>⟨ob,k b ob q⟩,λ_ _ q=>q,λ_ _ _ q=>q,λ_ ps q=>⟨#[],by rw[q];simp⟩⟩
theorem Un.refl:Un fs ex H H h h:=Un.kept λ_ _ q=>q
theorem Un.laid(k:∀b u,h.get? b=some u->h'.get? b=some u)(hp:h.objs.size<=a)(hn:H a=none):Un fs ex H (upd H a o) h h' where
 keep:=λb u q _ _ _=>k b u q
 slot:=λb u q _ _ _=>⟨u.slots,k b u q⟩
 free:=λb u q n _=>by rw[Be<|yu<|zB (Heap.lt_size q) hp];exact n
 there:=λb u q _=>⟨u,k b u q⟩
 Fl:=λb xs q=>by rw[Be<|D5 q hn];exact q
 Gs:=λb u xs q=>by rw[Be<|D5 q hn];exact q
 IE:=λb ps q=>⟨#[],by rw[Be<|D5 q hn,q];simp⟩
theorem Un.write(mu:K8<|H x)(he:e=x\/H e=some (.own x))(k:∀b u,b≠e->h.get? b=some u->h'.get? b=some u)(KC:∃u,h'.get? e=some u):Un fs ex H (upd H x o) h h':=by
 have hx:∀b,H b=none->b≠x:=λb n z=>by subst z;rw[n]at mu;exact mu
 have hb:∀b,H b=none->b≠e:=λb n z=>by
  subst z;rcases he with r|r
  .exact hx b n r
  .rw[n]at r;cases r
 have hm:∀b u,H b=some u->¬ K8 (some u)->b≠x:=λb u q nm z=>by subst z;rw[q]at mu;exact nm mu
 refine⟨λb u q n _ _=>k b u (hb b n) q,λb u q n _ _=>⟨u.slots,k b u (hb b n) q⟩,λb u q n _=>by rw[Be<|hx b n];exact n,λb u q _=>?_,
  λb xs q=>by rw[Be<|hm b _ q λz=>z];exact q,λb u xs q=>by rw[Be<|hm b _ q λz=>z];exact q,λb ps q=>⟨#[],by rw[Be<|hm b _ q λz=>z,q];simp⟩⟩
 by_cases Iv:b=e
 .subst Iv;exact KC
 .exact⟨u,k b u Iv q⟩
end
noncomputable def PJ(h:Heap)(H:Hp):List Addr:=(List.range h.objs.size).filter λa=>(H a).isSome
def Hn(h:Heap)(H:Hp):Heap:=PySem.W.hideAll h<|PJ h H
theorem iz(h:Heap)(H:Hp):(Hn h H).objs.size=h.objs.size:=PySem.W.hideAll_size _ _
theorem iy{h:Heap}{H:Hp}{b:Addr}{o:Obj}(e:h.get? b=some o)(n:H b=none):(Hn h H).get? b=some o:=
 PySem.W.hideAll_get _ e λhm=>by have q:=(zp.mp hm).2;rw[n]at q;simp at q
theorem lq{h:Heap}{H:Hp}{b:Addr}{o:Obj}(e:(Hn h H).get? b=some o):h.get? b=some o/\H b=none:=by
 have e':=PySem.W.of_hideAll (PJ h H) e;refine⟨e',?_⟩;cases q:H b with
 |none=>rfl
 |some x=>
  have hm:b∈PJ h H:=zp.mpr ⟨yS.mpr<|Heap.lt_size e',by simp[q]⟩;have z:(Hn h H).get? b=none:=PySem.W.hideAll_none (PJ h H) hm;rw[z]at e;cases e
structure Mod(K:PySem.W.Frag)(mg:Str->Option Value)(base:Heap):Prop where
 Rx:K.In base
 glob:base.Ns mainGlobals mg
 blt:∃mb,base.Ns builtinsNs mb/\∀x:Str,x≠"__name__"->mb x=bootBuiltins x
 nolimit:base.NoLimit
structure Cx where
 prog:Program
 w:World
 K:PySem.W.Frag
 mg:Str->Option Value
 base:Heap
 A:Around
 N:List Str
 Cb:Shared
 Ac:Hp
 env:Env
 outer:List Env
 stack:List Env
 ex:List Addr
 fn:Str->Bool
 calm:Bool
 pn:List<|Addr×Obj
 xe:Value->Shared->Prop
noncomputable def EG(l:List Env):List Addr:=l.filterMap (·.frame)
abbrev Cx.fs(X:Cx):List Addr:=EG X.outer
def DT(sc:Scope)(x:Str):Prop:=sc.names.lookup x=some .local\/sc.names.lookup x=some .cell\/sc.names.lookup x=some .free
def Loc(sc:Scope)(x:Str):Prop:=sc.names.lookup x=some .local\/sc.names.lookup x=some .cell
def Look(env:Env)(h:Heap)(m:Str->Option Value)(x:Str)(u:Value):Prop:=
 (env.kindOf x=some .local/\m x=some u)\/((env.kindOf x=some .cell\/env.kindOf x=some .free)/\∃c,env.cells.lookup x=some c/\h.IsCell c (some u))
structure Cx.Ok(X:Cx):Prop where
 mod:Mod X.K X.mg X.base
 kind:X.env.scope.kind=.function
 glob:X.env.globals=mainGlobals
 blt:X.env.builtins=builtinsNs
 above:X.Cb.heap.objs.size<=X.env.locals
 inj:∀x y c,X.env.cells.lookup x=some c->X.env.cells.lookup y=some c->x=y
 has:∀x,(X.env.kindOf x=some .cell\/X.env.kindOf x=some .free)->∃c,X.env.cells.lookup x=some c
 LJ:∀x c,X.fn x=true->X.env.cells.lookup x=some c->X.Cb.heap.objs.size<=c
 hd:X.calm=true->X.A.handled=none
 frames:X.A.frames=some X.stack
 Me:X.stack=X.outer\/(X.stack=X.env::X.outer/\X.env.frame=some X.env.locals)
 NQ:∀b∈X.ex,b≠X.env.locals/\∀x c,X.env.cells.lookup x=some c->c≠b
 bs:∀b o,X.base.get? b=some o->X.Cb.heap.get? b=some o/\X.Ac b=none
 HV:X.base.objs.size<=X.Cb.heap.objs.size
 MQ:∀b o,X.base.get? b=some o->b∉X.ex
 LU:∀b∈X.ex,b∉X.fs
 FT:X.Cb.heap.FunFrames X.base X.outer
 J7:∀b∈X.fs,X.Ac b=none
structure Inv(X:Cx)(AE:List (Addr×Obj))(σ:List (Option V))(H:Hp)(s:Shared):Prop where
 ok:X.Ok
 os:s.os=X.Cb.os
 bare:AllBare s.gens
 base:Un X.fs X.ex X.Ac H X.Cb.heap s.heap
 loc:∃m,s.heap.Ns X.env.locals m/\∀(i:Nat)(x:Str)(v:V),X.N[i]? = some x->σ[i]? = some (some v)->DT X.env.scope x->∃u,RelV v u/\Look X.env s.heap m x u
 cell:∀x c,X.env.cells.lookup x=some c->∃v,s.heap.IsCell c v
 free:H X.env.locals=none
 F4:∀x c,X.env.cells.lookup x=some c->H c=none
 pin:∀p∈X.pn++AE,s.heap.get? p.1=some p.2/\H p.1=none/\p.1≠X.env.locals/\p.1∉X.fs/\∀v,p.2.data≠.cell v
 Ah:Bl X.prog X.w H s.heap
 len:σ.length=X.N.length
section
variable{X:Cx}{AE:List (Addr×Obj)}{σ:List (Option V)}{H H':Hp}{s:Shared}{h':Heap}
theorem Cx.Ok.lW(ok:X.Ok){b:Addr}{o:Obj}(e:X.base.get? b=some o):b∉X.fs:=λhb=>by have:=(ok.FT.mem hb).1;rw[e]at this;cases this
theorem Inv.bs(I:Inv X AE σ H s):∀b o,X.base.get? b=some o->s.heap.get? b=some o/\H b=none:=λb o e=>
 ⟨I.base.keep b o (I.ok.bs b o e).1 (I.ok.bs b o e).2 (I.ok.lW e)<|I.ok.MQ b o e,I.base.free b o (I.ok.bs b o e).1 (I.ok.bs b o e).2<|I.ok.MQ b o e⟩
theorem Inv.bk(I:Inv X AE σ H s):∀b o,X.base.get? b=some o->s.heap.get? b=some o:=λb o e=>(I.bs b o e).1
theorem Inv.mod(I:Inv X AE σ H s):Mod X.K X.mg X.base:=I.ok.mod
theorem Inv.BB(I:Inv X AE σ H s):X.K.In s.heap:=I.ok.mod.Rx.keeps I.bk
theorem Inv.lt(I:Inv X AE σ H s):X.env.locals<s.heap.objs.size:=let ⟨_,hn,_⟩:=I.loc;hn.lt
theorem Inv.sz(I:Inv X AE σ H s):X.Cb.heap.objs.size<=s.heap.objs.size:=zT I.ok.above<|AAj I.lt
theorem Inv.lY(I:Inv X AE σ H s){a:Addr}(h:s.heap.objs.size<=a):a∉X.fs:=λhb=>by obtain⟨_,o,ho,_⟩:=I.ok.FT.mem hb;exact absurd (zB (Heap.lt_size ho)<|zT I.sz h) (AAy _)
theorem Inv.IT(I:Inv X AE σ H s):∀x c,X.env.cells.lookup x=some c->c≠X.env.locals:=λx c e z=>by obtain⟨v,o,ho,hd⟩:=I.cell x c e;obtain⟨m,⟨o',es,ep,Bw,Hi,_⟩,_⟩:=I.loc;rw[z,Bw]at ho;cases ho;rw[Hi]at hd;cases hd
theorem Inv.FT(I:Inv X AE σ H s):s.heap.FunFrames X.base X.outer:=by
 have all:∀(l:List Env),(∀b∈EG l,b∈X.fs)->X.Cb.heap.FunFrames X.base l->s.heap.FunFrames X.base l:=by
  intro l
  induction l with
  |nil=>intro _ _;trivial
  |cons env r ih=>
   intro hs hl;obtain⟨hk,⟨L,o,hf,hn,ho,hd⟩,hr⟩:=hl;have hL:=hs L (by unfold EG;rw[AAu,hf];exact yq);obtain⟨sl,e⟩:=I.base.slot L o ho (I.ok.J7 L hL) hL λz=>I.ok.LU L z hL
   exact⟨hk,⟨L,_,hf,hn,e,hd⟩,ih (λb hb=>hs b (by unfold EG;rw[AAu,hf];exact yj _ hb)) hr⟩
 exact all X.outer (λ_ hb=>hb) I.ok.FT
theorem Inv.stack(I:Inv X AE σ H s):s.heap.FunFrames X.base X.stack:=by
 rcases I.ok.Me with e|⟨e,hf⟩
 .rw[e];exact I.FT
 .rw[e];obtain⟨m,hn,_⟩:=I.loc;refine .cons (by rw[I.ok.kind];decide) hf hn ?_ I.FT;exact Heap.get?_none_of_le (zT I.ok.HV I.ok.above)
theorem Inv.O5(I:Inv X AE σ H s):∀b∈EG X.stack,b∈X.env.locals::X.fs:=λb hb=>by
 rcases I.ok.Me with e|⟨e,hf⟩
 .rw[e]at hb;exact yj _ hb
 .rw[e]at hb;unfold EG at hb;rw[AAu,hf]at hb;exact hb
theorem Inv.ZH(I:Inv X AE σ H s):∀b∈EG X.stack,H b=none:=λb hb=>by
 rcases yw.mp (I.O5 b hb)with e|hb
 .rw[e];exact I.free
 .obtain⟨_,o,ho,_⟩:=I.ok.FT.mem hb;exact I.base.free b o ho (I.ok.J7 b hb) λz=>I.ok.LU b z hb
theorem Inv.step{g':Array GenState}{t':Nat}{d':Drawn}{ch:List Addr}(I:Inv X AE σ H s) (F8:∀b∈ch,(b∈X.ex\/X.Cb.heap.objs.size<=b)/\b≠X.env.locals/\(∀x c,X.env.cells.lookup x=some c->c≠b)/\∀p∈X.pn++AE,p.1≠b) (keep:∀b o,b≠X.env.locals->b∉X.fs->b∉ch->s.heap.get? b=some o->H b=none->h'.get? b=some o) (slot:∀b o,b≠X.env.locals->b∈X.fs->b∉ch->s.heap.get? b=some o->H b=none->∃sl,h'.get? b=some {o with slots:=sl}) (free:∀b o,b∉ch->s.heap.get? b=some o->H b=none->H' b=none) (there:∀b o,b∉ch->s.heap.get? b=some o->∃o',h'.get? b=some o') (Fl:∀b xs,H b=some (.tup xs)->H' b=some (.tup xs)) (Gs:∀b o u,H b=some (.D1 o u)->H' b=some (.D1 o u)) (IE:∀b ps,H b=some (.Jf ps)->∃more,H' b=some (.Jf<|ps++more)) (ns:∀m,s.heap.Ns X.env.locals m->h'.Ns X.env.locals m) (Ah:Bl X.prog X.w H' h') (hg:AllBare g') : Inv X AE σ H' {s with heap:=h',gens:=g',drawn:=d',toks:=t'}:=by
 have Xx:∀b o,X.Cb.heap.get? b=some o->b≠X.env.locals:=λb o e=>yu<|zB (Heap.lt_size e) I.ok.above;have OZ:∀b o,X.Cb.heap.get? b=some o->b∉X.ex->b∉ch:=λb o e hx hb=>by
  rcases(F8 b hb).1 with z|z
  .exact hx z
  .exact absurd (zB (Heap.lt_size e) z) (AAy _)
 have cellK:∀x c,X.env.cells.lookup x=some c->∀v,s.heap.IsCell c v->h'.IsCell c v:=(by
  rintro x c e v ⟨o,ho,hd⟩;have MO:=λz=>(F8 c z).2.2.1 x c e rfl;by_cases hc:c∈X.fs
  .obtain⟨sl,q⟩:=slot c o (I.IT x c e) hc MO ho<|I.F4 x c e;exact⟨_,q,hd⟩
  .exact⟨o,keep c o (I.IT x c e) hc MO ho<|I.F4 x c e,hd⟩)
 refine⟨I.ok,I.os,hg,⟨λb o e n hb hx=>?_,λb o e n hb hx=>?_,λb o e n hx=>?_,λb o e hx=>?_,λb xs e=>Fl b xs<|I.base.Fl b xs e,λb o xs e=>Gs b o xs<|I.base.Gs b o xs e,λb ps e=>?_⟩,?_,λx c e=>?_,?_,λx c e=>?_,λp hp=>?_,Ah,I.len⟩
 .exact keep b o (Xx b o e) hb (OZ b o e hx) (I.base.keep b o e n hb hx)<|I.base.free b o e n hx
 .obtain⟨sl,e1⟩:=I.base.slot b o e n hb hx;obtain⟨rf,e2⟩:=slot b _ (Xx b o e) hb (OZ b o e hx) e1<|I.base.free b o e n hx;exact⟨rf,e2⟩
 .obtain⟨o',e1⟩:=I.base.there b o e hx;exact free b o' (OZ b o e hx) e1<|I.base.free b o e n hx
 .obtain⟨o',e1⟩:=I.base.there b o e hx;exact there b o' (OZ b o e hx) e1
 .obtain⟨m1,e1⟩:=I.base.IE b ps e;obtain⟨m2,e2⟩:=IE b _ e1;exact⟨m1++m2,by rw[e2,Array.append_assoc]⟩
 .obtain⟨m,hn,hl⟩:=I.loc;refine⟨m,ns m hn,λi x v e1 e2 e3=>?_⟩;obtain⟨u,r,l⟩:=hl i x v e1 e2 e3;refine⟨u,r,?_⟩;rcases l with l|⟨k,c,e,z⟩
  .exact .inl l
  .exact .inr ⟨k,c,e,cellK x c e _ z⟩
 .obtain⟨v,z⟩:=I.cell x c e;exact⟨v,cellK x c e v z⟩
 .obtain⟨m,⟨o,_,_,ho,_⟩,_⟩:=I.loc;exact free _ o (λz=>(F8 _ z).2.1 rfl) ho I.free
 .obtain⟨v,o,ho,hd⟩:=I.cell x c e;exact free c o (λz=>(F8 c z).2.2.1 x c e rfl) ho<|I.F4 x c e
 .obtain⟨e,n,ne,nf,d⟩:=I.pin p hp;have MO:=λz=>(F8 p.1 z).2.2.2 p hp rfl;exact⟨keep p.1 p.2 ne nf MO e n,free p.1 p.2 MO e n,ne,nf,d⟩
theorem Inv.un{t':Nat}(I:Inv X AE σ H s)(u:Un X.fs [] H H' s.heap h')(Ah:Bl X.prog X.w H' h'):Inv X AE σ H' {s with heap:=h',toks:=t'}:=by obtain⟨m,⟨o,es,ep,ho,r⟩,_⟩:=id I.loc;obtain⟨sl,hL⟩:=u.any ho I.free yI;exact I.step (ch:=[]) (λ_ z=>nomatch z) (λb o _ hb _ e n=>u.keep b o e n hb yI) (λb o _ hb _ e n=>u.slot b o e n hb yI) (λb o _ e n=>u.free b o e n yI) (λb o _ e=>u.there b o e yI) u.Fl u.Gs u.IE (λm' hm=>by obtain⟨o',es',Qd,Bw,r'⟩:=hm;rw[ho]at Bw;cases Bw;exact⟨_,es',Qd,hL,r'⟩) Ah I.bare
theorem Inv.call{g':Array GenState}{t':Nat}{d':Drawn}{ch:List Addr}(I:Inv X AE σ H s)(u:Un (EG X.stack) ch H H' s.heap h')(Ah:Bl X.prog X.w H' h')(hg:AllBare g') (F8:∀b∈ch,(b∈X.ex\/X.Cb.heap.objs.size<=b)/\b≠X.env.locals/\(∀x c,X.env.cells.lookup x=some c->c≠b)/\∀p∈X.pn++AE,p.1≠b) : Inv X AE σ H' {s with heap:=h',gens:=g',drawn:=d',toks:=t'}:=by
 obtain⟨m,⟨o,es,ep,ho,r⟩,_⟩:=id I.loc;obtain⟨sl,hL⟩:=u.any ho I.free λz=>(F8 _ z).2.1 rfl
 exact I.step F8 (λb o hL hb hc e n=>u.keep b o e n (λz=>(yw.mp<|I.O5 b z).elim hL hb) hc) (λb o _ _ hc e n=>u.any e n hc) (λb o hc e n=>u.free b o e n hc) (λb o hc e=>u.there b o e hc) u.Fl u.Gs u.IE (λm' hm=>by obtain⟨o',es',Qd,Bw,r'⟩:=hm;rw[ho]at Bw;cases Bw;exact⟨_,es',Qd,hL,r'⟩) Ah hg
theorem Inv.turned{t':Nat}{it:Addr}(I:Inv X AE σ H s)(k:∀b o,b≠it->s.heap.get? b=some o->h'.get? b=some o)(hn:H it=none)(hL:it≠X.env.locals) (h1:it∈X.ex\/X.Cb.heap.objs.size<=it) (h2:∀x c,X.env.cells.lookup x=some c->c≠it) (h3:∀p∈X.pn++AE,p.1≠it):Inv X AE σ H {s with heap:=h',toks:=t'}:=by
 have Xy:∀b u,H b=some u->b≠it:=λb u e z=>by rw[z,hn]at e;cases e
 refine I.step (ch:=[it]) (λb hb=>?_) (λb o _ _ hc e _=>k b o (λz=>hc<|by simp[z]) e) (λb o _ _ hc e _=>⟨o.slots,k b o (λz=>hc<|by simp[z]) e⟩) (λ_ _ _ _ n=>n)
  (λb o hc e=>⟨o,k b o (λz=>hc<|by simp[z]) e⟩) (λ_ _ e=>e) (λ_ _ _ e=>e) (λb ps e=>⟨#[],by rw[e];simp⟩) (λm hm=>?_) (λb u e=>?_) I.bare
 .have e:=by simpa using hb
  subst e;exact⟨h1,hL,h2,h3⟩
 .obtain⟨o,es,ep,ho,r⟩:=hm;exact⟨o,es,ep,k _ o (zo hL) ho,r⟩
 .refine(I.Ah b u e).Md (λc v hc q=>k c v ?_ q) (λ_ q=>q) λ_ _ q=>q;rcases hc with z|z
  .rw[z];exact Xy b u e
  .exact Xy c _ z
theorem Inv.tok(I:Inv X AE σ H s)(t:Nat):Inv X AE σ H {s with toks:=t}:=I.un Un.refl I.Ah
theorem Inv.kept{t':Nat}(I:Inv X AE σ H s)(k:∀b u,s.heap.get? b=some u->h'.get? b=some u):Inv X AE σ H {s with heap:=h',toks:=t'}:=I.un (Un.kept k)<|I.Ah.kept k
theorem Inv.laid{a:Addr}{o:HO}{t':Nat}(I:Inv X AE σ H s)(k:∀b u,s.heap.get? b=some u->h'.get? b=some u)(hp:s.heap.objs.size<=a)(new:By X.prog X.w (upd H a o) h' a o) : Inv X AE σ (upd H a o) {s with heap:=h',toks:=t'}:=I.un (Un.laid k hp<|I.Ah.fresh hp)<|I.Ah.laid k hp new
theorem Inv.write{x e:Addr}{o:HO}{t':Nat}(I:Inv X AE σ H s)(mu:K8<|H x)(he:e=x\/H e=some (.own x))(k:∀b u,b≠e->s.heap.get? b=some u->h'.get? b=some u)(KC:∃u,h'.get? e=some u) (new:By X.prog X.w (upd H x o) h' x o):Inv X AE σ (upd H x o) {s with heap:=h',toks:=t'}:=I.un (Un.write mu he k KC)<|I.Ah.write mu he k KC new
theorem Inv.Yc{Yb:List (Addr×Obj)}(I:Inv X AE σ H s)(h:∀p∈Yb,s.heap.get? p.1=some p.2/\H p.1=none/\p.1≠X.env.locals/\p.1∉X.fs/\∀v,p.2.data≠.cell v):Inv X Yb σ H s:=
 ⟨I.ok,I.os,I.bare,I.base,I.loc,I.cell,I.free,I.F4,λp hp=>(zF.mp hp).elim (λz=>I.pin p<|zw _ z)<|h p,I.Ah,I.len⟩
theorem X0{N:List Str}(hN:N.Nodup){i j:Nat}{x:Str}(a:N[i]? = some x)(b:N[j]? = some x):i=j:=by obtain⟨h1,e1⟩:=yY.mp a;obtain⟨h2,e2⟩:=yY.mp b;exact(ABj hN).mp (e1.trans e2.symm)
theorem ZI{M:Model}{A:Around}{E:Value->Shared->Prop}{i:Nat}{x:Str}{v:V}{u:Value}{Q:Unit->Shared->Prop}(I:Inv X AE σ H s)(hN:X.N.Nodup)(hi:X.N[i]? = some x)(hx:Loc X.env.scope x)(r:RelV v u) (h:∀s',Inv X AE (σ.set i<|some v) H s'->(∃a,Heap.SameBut a s.heap s'.heap/\(a=X.env.locals\/X.env.cells.lookup x=some a))->Q () s') (hf:X.fn x=true\/X.env.scope.names.lookup x=some .local:=by first|exact .inl rfl|exact .inr rfl|assumption):wpAny M A (storeName X.env x u) Q E s:=by
 obtain⟨m,hn,hl⟩:=id I.loc;have iZ:(X.env.scope.kind == .class||(X.env.scope.kind == .module&&X.env.locals != X.env.globals))=false:=by rw[I.ok.kind];rfl
 have Wd:i<σ.length:=by rw[I.len];exact(yY.mp hi).1
 have IT:=I.IT;have tracked:∀{a:Addr}{h':Heap},(∃o,s.heap.get? a=some o/\H a=none)->Heap.SameBut a s.heap h'->Bl X.prog X.w H h':=λ{a h'} ha hs b ob e=>by
  obtain⟨_,_,Hk⟩:=ha;refine(I.Ah b ob e).Md (λc w' hc q=>(hs.2 c ?_).trans q) (λ_ q=>q) λ_ _ q=>q;rintro rfl;rcases hc with rfl|hc
  .rw[Hk]at e;cases e
  .rw[Hk]at hc;cases hc
 rcases hx with hk|hk
 .refine wpAny_storeName_local hk hn (λh' RG hs=>?_) iZ;obtain⟨oL,_,_,N1,_⟩:=id hn;refine h _ ⟨I.ok,I.os,I.bare,⟨λb o e n hb hx=>?_,λb o e n hb hx=>?_,I.base.free,λb o e hx=>?_,I.base.Fl,I.base.Gs,I.base.IE⟩,⟨_,RG,λj y v' e1 e2 e3=>?_⟩,λy c e=>?_,I.free,I.F4,λp hp=>?_,tracked ⟨oL,N1,I.free⟩ hs,by simpa using I.len⟩ ⟨_,hs,.inl rfl⟩
  .exact(hs.2 b<|yu<|zB (Heap.lt_size e) I.ok.above).trans (I.base.keep b o e n hb hx)
  .obtain⟨sl,e1⟩:=I.base.slot b o e n hb hx;exact⟨sl,(hs.2 b<|yu<|zB (Heap.lt_size e) I.ok.above).trans e1⟩
  .obtain⟨o',e1⟩:=I.base.there b o e hx;exact⟨o',(hs.2 b<|yu<|zB (Heap.lt_size e) I.ok.above).trans e1⟩
  .by_cases hj:j=i
   .subst hj;rw[hi]at e1;cases e1;rw[AA5 Wd]at e2;cases e2;exact⟨u,r,.inl ⟨hk,yI⟩⟩
   .rw[zK<|zo hj]at e2;obtain⟨u',r',q⟩:=hl j y v' e1 e2 e3;refine⟨u',r',?_⟩;rcases q with⟨k,e⟩|⟨k,c,e,z⟩
    .refine .inl ⟨k,?_⟩;have:y≠x:=λe=>hj<|X0 hN e1<|e ▸ hi;simp[this,e]
    .exact .inr ⟨k,c,e,z.sameBut hs<|IT y c e⟩
  .obtain⟨w',z⟩:=I.cell y c e;exact⟨w',z.sameBut hs<|IT y c e⟩
  .obtain⟨e,n,ne,nf,d⟩:=I.pin p hp;exact⟨(hs.2 p.1 ne).trans e,n,ne,nf,d⟩
 .have Q4:X.fn x=true:=by
   rcases hf with z|z
   .exact z
   .rw[z]at hk;cases hk
  obtain⟨c,hc⟩:=I.ok.has x<|.inl hk;obtain⟨w',z⟩:=I.cell x c hc;refine wpAny_storeName_cell I.ok.kind hk hc z λh' F7 hs=>?_;obtain⟨oc,Wt,jN⟩:=id z;refine h {s with heap:=h'} ⟨I.ok,I.os,I.bare,⟨λb o e n hb hx=>?_,λb o e n hb hx=>?_,I.base.free,λb o e hx=>?_,I.base.Fl,I.base.Gs,I.base.IE⟩,⟨m,hn.sameBut hs<|zo<|IT x c hc,λj y v' e1 e2 e3=>?_⟩,λy c' e=>?_,I.free,I.F4,λp hp=>?_,tracked ⟨oc,Wt,I.F4 x c hc⟩ hs,by simpa using I.len⟩ ⟨c,hs,.inr hc⟩
  .exact(hs.2 b<|yu<|zB (Heap.lt_size e)<|I.ok.LJ x c Q4 hc).trans (I.base.keep b o e n hb hx)
  .obtain⟨sl,e1⟩:=I.base.slot b o e n hb hx;exact⟨sl,(hs.2 b<|yu<|zB (Heap.lt_size e)<|I.ok.LJ x c Q4 hc).trans e1⟩
  .obtain⟨o',e1⟩:=I.base.there b o e hx;exact⟨o',(hs.2 b<|yu<|zB (Heap.lt_size e)<|I.ok.LJ x c Q4 hc).trans e1⟩
  .by_cases hj:j=i
   .subst hj;rw[hi]at e1;cases e1;rw[AA5 Wd]at e2;cases e2;exact⟨u,r,.inr ⟨.inl hk,c,hc,F7⟩⟩
   .rw[zK<|zo hj]at e2;obtain⟨u',r',q⟩:=hl j y v' e1 e2 e3;refine⟨u',r',?_⟩;rcases q with q|⟨k,c',e,z'⟩
    .exact .inl q
    .refine .inr ⟨k,c',e,z'.sameBut hs ?_⟩;rintro rfl;exact hj<|X0 hN e1<|I.ok.inj _ _ _ e hc ▸ hi
  .by_cases EH:c'=c
   .subst EH;exact⟨_,F7⟩
   .obtain⟨w2,z2⟩:=I.cell y c' e;exact⟨w2,z2.sameBut hs EH⟩
  .obtain⟨e,n,ne,nf,d⟩:=I.pin p hp;refine⟨(hs.2 p.1 ?_).trans e,n,ne,nf,d⟩;intro q;rw[q,Wt]at e;have q':=zD e;exact d w' (by rw[<-q'];exact jN)
theorem O6{M:Model}{A:Around}{E:Value->Shared->Prop}{i:Nat}{x:Str}{v:V}{u:Value}{Q:Unit->Shared->Prop}(I:Inv X AE σ H s)(hN:X.N.Nodup)(hi:X.N[i]? = some x)(hx:Loc X.env.scope x)(r:RelV v u) (h:∀s',Inv X AE (σ.set i<|some v) H s'->Q () s') (hf:X.fn x=true\/X.env.scope.names.lookup x=some .local:=by first|exact .inl rfl|exact .inr rfl|assumption):wpAny M A (storeName X.env x u) Q E s:=
 ZI I hN hi hx r (λs' I' _=>h s' I') hf
theorem Inv.cQ{s':Shared}{ch:List Addr}(I:Inv X AE σ H s)(ho:s'.os=s.os)(u:Un (EG X.stack) ch H H' s.heap s'.heap)(Ah:Bl X.prog X.w H' s'.heap)(hg:AllBare s'.gens) (F8:∀b∈ch,(b∈X.ex\/X.Cb.heap.objs.size<=b)/\b≠X.env.locals/\(∀x c,X.env.cells.lookup x=some c->c≠b)/\∀p∈X.pn++AE,p.1≠b):Inv X AE σ H' s':=by obtain⟨h',g',d',t',o'⟩:=s';have e:o'=s.os:=ho;subst e;exact I.call u Ah hg F8
end
abbrev XK:=Value->Option Addr->Hp->Prop
abbrev St:=List<|Option V
abbrev VK:=V->Hp->Prop
abbrev TE:=St->Hp->VK->Prop
abbrev TT:=St->Hp->(Bool->Hp->Prop)->Prop
abbrev TA:=St->Hp->(List V->Hp->Prop)->Prop
structure Ends where
 nx:St->Hp->Prop
 rt:VK
 bk:St->Hp->Prop:=λ_ _=>False
 ct:St->Hp->Prop:=λ_ _=>False
abbrev TS:=Ends->St->Hp->Prop
def EP(X:Cx)(AE:List<|Addr×Obj)(σ:St)(Q:VK)(u:Value)(s':Shared):Prop:=∃v H',Inv X AE σ H' s'/\RelV v u/\Q v H'
def TP(X:Cx)(AE:List<|Addr×Obj)(σ:St)(Q:Bool->Hp->Prop)(b:Bool)(s':Shared):Prop:=∃H',Inv X AE σ H' s'/\Q b H'
def AP(X:Cx)(AE:List<|Addr×Obj)(σ:St)(Q:List V->Hp->Prop)(us:List Value)(s':Shared):Prop:=∃vs H',Inv X AE σ H' s'/\Ap vs us/\Q vs H'
def SP(X:Cx)(AE:List<|Addr×Obj)(D:Ends)(f:Flow)(s':Shared):Prop:=
 match f with
 |.next=>∃Ag H',Inv X AE Ag H' s'/\D.nx Ag H'
 |.brk=>∃Ag H',Inv X AE Ag H' s'/\D.bk Ag H'
 |.cont=>∃Ag H',Inv X AE Ag H' s'/\D.ct Ag H'
 |.ret u=>∃v Ag H',Inv X AE Ag H' s'/\RelV v u/\D.rt v H'
def PE(X:Cx)(e:Expr)(t:TE):Prop:=
 ∀(AE:List<|Addr×Obj)(s:Shared)(σ:St)(H:Hp)(Q:VK),Inv X AE σ H s->t σ H Q->wpAny (model X.prog X.w) X.A (eval e X.env) (EP X AE σ Q) X.xe s
def PT(X:Cx)(e:Expr)(t:TT):Prop:=
 ∀(AE:List<|Addr×Obj)(s:Shared)(σ:St)(H:Hp)(Q:Bool->Hp->Prop),Inv X AE σ H s->t σ H Q->wpAny (model X.prog X.w) X.A (isTrue e X.env<|eval e X.env) (TP X AE σ Q) X.xe s
def PW(X:Cx)(e:Expr)(t:TT):Prop:=
 ∀(whole:Sem Value)(AE:List<|Addr×Obj)(s:Shared)(σ:St)(H:Hp)(Q:Bool->Hp->Prop),Inv X AE σ H s->t σ H Q->wpAny (model X.prog X.w) X.A (isTrue e X.env whole) (TP X AE σ Q) X.xe s
theorem PW.pt{X:Cx}{e:Expr}{t:TT}(h:PW X e t):PT X e t:=h _
def PA(X:Cx)(es:List Expr)(t:TA):Prop:=
 ∀(pos:Pos)(AE:List<|Addr×Obj)(s:Shared)(σ:St)(H:Hp)(Q:List V->Hp->Prop),Inv X AE σ H s->t σ H Q->wpAny (model X.prog X.w) X.A (spliced<|backTo pos<|starEach es X.env) (AP X AE σ Q) X.xe s
def PS(X:Cx)(st:Stmt)(t:TS):Prop:=
 ∀(AE:List<|Addr×Obj)(s:Shared)(σ:St)(H:Hp)(D:Ends),Inv X AE σ H s->t D σ H->wpAny (model X.prog X.w) X.A (exec st X.env) (SP X AE D) X.xe s
def DA(X:Cx)(st:List Stmt)(t:TS):Prop:=
 ∀(AE:List<|Addr×Obj)(s:Shared)(σ:St)(H:Hp)(D:Ends),Inv X AE σ H s->t D σ H->wpAny (model X.prog X.w) X.A (execs st X.env) (SP X AE D) X.xe s
theorem Ad{α:Type}{t:Sem α}{Q Q':α->Shared->Prop}{M:Model}{A:Around}{E:Value->Shared->Prop}{s:Shared}(h:wpAny M A t Q E s)(hQ:∀a s,Q a s->Q' a s):wpAny M A t Q' E s:=wpAny_mono h hQ λ_ _ x=>x
section
variable{X:Cx}
def Te(i:Nat):TE:=λσ H Q=>∃v,σ[i]? = some (some v)/\Q v H
def tC(v:V):TE:=λ_ H Q=>Q v H
theorem EM{i:Nat}{x:Str}{pos:Pos}(hN:X.N[i]? = some x)(hv:DT X.env.scope x)(hd:(x==("__debug__"))=false:=by decide)(BK:(x==("__classdict__"))=false:=by decide):PE X (.Name x pos)<|Te i:=by
 intro AE s σ H Q I h;obtain⟨v,e,h⟩:=h;obtain⟨m,hn,hl⟩:=I.loc;obtain⟨u,r,l⟩:=hl i x v hN e hv;have fin:EP X AE σ Q u s:=⟨v,H,I,r,h⟩;rcases l with⟨hk,hm⟩|⟨hk,c,hc,Nq⟩
 .exact wpAny_Name (wpAny_loadName_local I.ok.kind hk hn hm fin) hd
 .rcases hk with hk|hk
  .exact wpAny_Name (wpAny_loadName_cell I.ok.kind hk hc Nq fin) hd
  .exact wpAny_Name (wpAny_loadName_free I.ok.kind hk hc Nq fin BK) hd
theorem Sj{i j pos}:PE X (.Constant (.int i) j pos)<|tC<|.int i:=λ_ _ _ H _ I h=>wpAny_Constant_int ⟨.int i,H,I.tok _,⟨_,rfl⟩,h⟩
theorem nE{b j pos}:PE X (.Constant (.bool b) j pos)<|tC<|.bl b:=λ_ _ _ H _ I h=>Constant_bool ⟨.bl b,H,I,rfl,h⟩
theorem nW{x j pos}:PE X (.Constant (.str x) j pos)<|tC<|.str x:=λ_ _ _ H _ I h=>Calls.Constant_str ⟨.str x,H,I.tok _,⟨_,rfl⟩,h⟩
def Gl(X:Cx)(x:Str):Prop:=X.env.kindOf x=some .globalImplicit
theorem XY{E:Value->Shared->Prop}{AE:List (Addr×Obj)}{s:Shared}{σ:St}{H:Hp}{x:Str}{u:Value}{pos:Pos}{Q:Value->Shared->Prop}(I:Inv X AE σ H s)(hg:Gl X x)(hm:X.mg x=some u)(h:Q u s) (hd:(x==("__debug__"))=false:=by decide):wpAny (model X.prog X.w) X.A (eval (.Name x pos) X.env) Q E s:=
 Calls.Name_function_global I.ok.kind hg (Calls.loadGlobal_global (by rw[I.ok.glob];exact I.mod.glob.keeps I.bk) hm h) hd
theorem MH{E:Value->Shared->Prop}{AE:List (Addr×Obj)}{s:Shared}{σ:St}{H:Hp}{x:Str}{u:Value}{pos:Pos}{Q:Value->Shared->Prop}(I:Inv X AE σ H s)(hg:Gl X x)(hm:X.mg x=none)(hv:bootBuiltins x=some u)(h:Q u s) (hn:x≠"__name__":=by decide) (hd:(x==("__debug__"))=false:=by decide):wpAny (model X.prog X.w) X.A (eval (.Name x pos) X.env) Q E s:=by obtain⟨mb,h1,h2⟩:=I.mod.blt;exact Calls.Name_function_global I.ok.kind hg (Calls.loadGlobal_builtin (by rw[I.ok.glob];exact I.mod.glob.keeps I.bk) hm (by rw[I.ok.blt];exact h1.keeps I.bk) ((h2 x hn).trans hv) h) hd
theorem YZ{x:Str}{v:V}{u:Value}{pos:Pos}(hg:Gl X x)(hm:X.mg x=some u)(r:RelV v u)(hd:(x==("__debug__"))=false:=by decide):PE X (.Name x pos)<|tC v:=
 λ_ _ _ H _ I h=>XY I hg hm ⟨v,H,I,r,h⟩ hd
theorem nF{x:Str}{v:V}{u:Value}{pos:Pos}(hg:Gl X x)(hm:X.mg x=none)(hv:bootBuiltins x=some u)(r:RelV v u)(hn:x≠"__name__":=by decide)(hd:(x==("__debug__"))=false:=by decide):PE X (.Name x pos)<|tC v:=
 λ_ _ _ H _ I h=>MH I hg hm hv ⟨v,H,I,r,h⟩ hn hd
variable{a b:Expr}{ta tb:TE}{pos:Pos}
def PC(X:Cx)(op:CmpOp)(a b:Expr)(t:TE):Prop:=
 ∀(AE:List<|Addr×Obj)(s:Shared)(σ:St)(H:Hp)(Q:VK),Inv X AE σ H s->t σ H Q->wpAny (model X.prog X.w) X.A (eval a X.env) (λv BD=>wpAny (model X.prog X.w) X.A (eval b X.env) (λu Fj=>wpAny (model X.prog X.w) X.A (compareOp op v u) (EP X AE σ Q) X.xe Fj) X.xe BD) X.xe s
def tB(t:TE):TT:=λσ H Q=>t σ H λx H1=>∃c,x=.bl c/\Q c H1
theorem Yo{op:CmpOp}{t:TE}(h:PC X op a b t)(h1:behindInMarks op b=false:=by first|exact xo _ yJ yJ|rfl):PT X (.Compare a [op] [b] pos)<|tB t:=by intro AE s σ H Q I hw;refine wpAny_isTrue_Compare1 (Ad (h AE s σ H _ I hw) λv s1 h1=>Ad h1 λu s2 h2=>Ad h2 λc s3 ⟨x,H1,I1,r1,q1⟩=>?_) h1;obtain⟨d,rfl,q⟩:=q1;cases r1;exact wpAny_truthy_bool ⟨H1,I1,q⟩
theorem oa{e:Expr}{t:TE}(h:PE X e t)(he:∀whole,isTrue e X.env whole=(do let v<-whole;standAt e.pos;holding [v] (truthy v)):=by intro _;rfl):PT X e<|tB t:=by intro AE s σ H Q I hw;refine isTrue_plain (Ad (h AE s σ H _ I hw) λv s1 ⟨x,H1,I1,r1,q1⟩=>?_)<|he _;obtain⟨d,rfl,q⟩:=q1;cases r1;exact wpAny_truthy_bool ⟨H1,I1,q⟩
variable{tA O9:TT}{BI:List Expr}
def ZR(t u:TT):TT:=λσ H Q=>t σ H λc H1=>if c=true then u σ H1 Q else Q false H1
def ZW(t u:TT):TT:=λσ H Q=>t σ H λc H1=>if c=true then Q true H1 else u σ H1 Q
def tP(t:TT):TT:=λσ H Q=>t σ H λc H1=>Q (!c) H1
theorem ot(ha:PT X a tA):PW X (.BoolOp .And [a] pos) tA:=by
 intro wh AE s σ H Q I h;refine isTrue_and<|Ad (ha AE s σ H Q I h) λc s1 e=>?_;cases c with
 |true=>exact isTrue_and_nil e
 |false=>exact e
theorem ox(ha:PT X a tA):PW X (.BoolOp .Or [a] pos) tA:=by
 intro wh AE s σ H Q I h;refine isTrue_or<|Ad (ha AE s σ H Q I h) λc s1 e=>?_;cases c with
 |false=>exact isTrue_or_nil e
 |true=>exact e
theorem oq(ha:PT X a tA)(hb:PW X (.BoolOp .And (b::BI) pos) O9):PW X (.BoolOp .And (a::b::BI) pos)<|ZR tA O9:=by
 intro wh AE s σ H Q I h;refine isTrue_and<|Ad (ha AE s σ H _ I h) λc s1 ⟨H1,I1,q1⟩=>?_;cases c with
 |true=>exact hb wh AE s1 σ H1 Q I1 q1
 |false=>exact⟨H1,I1,q1⟩
theorem ow(ha:PT X a tA)(hb:PW X (.BoolOp .Or (b::BI) pos) O9):PW X (.BoolOp .Or (a::b::BI) pos)<|ZW tA O9:=by
 intro wh AE s σ H Q I h;refine isTrue_or<|Ad (ha AE s σ H _ I h) λc s1 ⟨H1,I1,q1⟩=>?_;cases c with
 |true=>exact⟨H1,I1,q1⟩
 |false=>exact hb wh AE s1 σ H1 Q I1 q1
theorem oZ(ha:PT X a tA):PT X (.UnaryOp .Not a pos)<|tP tA:=by intro AE s σ H Q I h;exact isTrue_not<|ha AE s σ H (λc H1=>Q (!c) H1) I h
def sX(ta tb:TE):TE:=λσ H Q=>ta σ H λx H1=>∃c,x=.bl c/\if c=true then tb σ H1 Q else Q (.bl false) H1
def tU(ta tb:TE):TE:=λσ H Q=>ta σ H λx H1=>∃c,x=.bl c/\if c=true then Q (.bl true) H1 else tb σ H1 Q
def tT(ta:TE):TE:=λσ H Q=>ta σ H λx H1=>∃c,x=.bl c/\Q (.bl (!c)) H1
theorem nR{op}{t:TE}(h:PE X a t):PE X (.BoolOp op [a] pos) t:=λAE s σ H Q I hw=>BoolOp_one<|h AE s σ H Q I hw
theorem nD(ha:PE X a ta)(hb:PE X (.BoolOp .And (b::BI) pos) tb):PE X (.BoolOp .And (a::b::BI) pos)<|sX ta tb:=by
 intro AE s σ H Q I h;refine BoolOp_and<|Ad (ha AE s σ H _ I h) λv s1 ⟨x,H1,I1,r1,q1⟩=>?_;obtain⟨c,rfl,q1⟩:=q1;cases r1;refine wpAny_truthy_bool ?_;cases c with
 |true=>exact hb AE s1 σ H1 Q I1 q1
 |false=>exact⟨.bl false,H1,I1,rfl,q1⟩
theorem nT(ha:PE X a ta)(hb:PE X (.BoolOp .Or (b::BI) pos) tb):PE X (.BoolOp .Or (a::b::BI) pos)<|tU ta tb:=by
 intro AE s σ H Q I h;refine BoolOp_or<|Ad (ha AE s σ H _ I h) λv s1 ⟨x,H1,I1,r1,q1⟩=>?_;obtain⟨c,rfl,q1⟩:=q1;cases r1;refine wpAny_truthy_bool ?_;cases c with
 |false=>exact hb AE s1 σ H1 Q I1 q1
 |true=>exact⟨.bl true,H1,I1,rfl,q1⟩
theorem nQ(ha:PE X a ta):PE X (.UnaryOp .Not a pos)<|tT ta:=by intro AE s σ H Q I h;refine UnaryOp_<|Ad (ha AE s σ H _ I h) λv s1 ⟨x,H1,I1,r1,q1⟩=>?_;obtain⟨c,rfl,q1⟩:=q1;cases r1;exact not_of<|wpAny_truthy_bool ⟨.bl (!c),H1,I1,rfl,q1⟩
def tE(t:TT)(ta tb:TE):TE:=λσ H Q=>t σ H λc H1=>if c=true then ta σ H1 Q else tb σ H1 Q
theorem nN{c:Expr}(hc:PT X c tA)(ha:PE X a ta)(hb:PE X b tb):PE X (.IfExp c a b pos)<|tE tA ta tb:=by
 intro AE s σ H Q I h;refine wpAny_IfExp<|Ad (hc AE s σ H _ I h) λd s1 ⟨H1,I1,q1⟩=>?_;cases d with
 |true=>exact ha AE s1 σ H1 Q I1 q1
 |false=>exact hb AE s1 σ H1 Q I1 q1
end
def B6(K:PySem.W.Frag)(H:Hp)(a:Addr)(xs:List V):Prop:=
 Rd H a (.lst xs)\/∃(o:Obj)(its:Array Value)(n:Nat),K.lookup a=some o/\o.cls=.type "list"/\o.dict=none/\o.data=.seq its n/\its.size<=sizeLine/\Ap xs its.toList
def BL(K:PySem.W.Frag)(H:Hp)(a:Addr)(xs:List V):Prop:=
 Rd H a (.tup xs)\/∃(o:Obj)(its:Array Value)(n:Nat),K.lookup a=some o/\o.cls=.type "tuple"/\o.data=.seq its n/\its.size<=sizeLine/\Ap xs its.toList
noncomputable def bL:Value->Option V
 |.none=>some .A8
 |.bool b=>some<|.bl b
 |.int i _=>some<|.int i
 |.str x _=>some<|.str x
 |.bytes b _=>some<|.QU b
 |.float b _=>some<|.J6 b
 |.ref a=>some<|.ref a
 |.type n=>some<|.ty n
 |_=>none
theorem RelV.abs{x:V}{u:Value}(r:RelV x u):bL u=some x:=by
 cases x with
 |A8=>cases r;rfl
 |bl _=>cases r;rfl
 |int _=>obtain⟨t,rfl⟩:=r;rfl
 |str _=>obtain⟨t,rfl⟩:=r;rfl
 |QU _=>obtain⟨t,rfl⟩:=r;rfl
 |J6 _=>obtain⟨t,rfl⟩:=r;rfl
 |ref _=>cases r;rfl
 |ty _=>cases r;rfl
theorem RelV.inj{x y:V}{u:Value}(r:RelV x u)(q:RelV y u):x=y:=zD<|r.abs.symm.trans q.abs
theorem Ap.inj:∀{xs ys:List V}{us:List Value},Ap xs us->Ap ys us->xs=ys
 |_,_,_,.nil,.nil=>rfl
 |_,_,_,.cons r t,.cons r' t'=>by rw[r.inj r',Ap.inj t t']
section
variable{X:Cx}{AE:List (Addr×Obj)}{σ:St}{H:Hp}{s:Shared}{a:Addr}{xs ys:List V}
theorem Inv.list(I:Inv X AE σ H s)(h:B6 X.K H a xs):∃its:List Value,Ap xs its/\PlainL s.heap a its.toArray/\xs.length<=sizeLine:=by
 rcases h with h|⟨o,its,n,hk,hc,hd,hs,hz,r⟩
 .obtain⟨z,its,n,r,e⟩:=h.ok I.Ah;exact⟨its,r,⟨_,n,e,rfl,rfl,rfl⟩,z⟩
 .refine⟨its.toList,r,⟨o,n,I.BB a o hk,hc,hd,by simpa using hs⟩,?_⟩;have e:=r.length;simp only[AAN]at e;omega
theorem Inv.tuple(I:Inv X AE σ H s)(h:BL X.K H a xs):∃its:List Value,Ap xs its/\IsTup s.heap a its.toArray/\xs.length<=sizeLine:=by
 rcases h with h|⟨o,its,n,hk,hc,hs,hz,r⟩
 .obtain⟨z,its,r,p⟩:=h.ok I.Ah;exact⟨its,r,p,z⟩
 .refine⟨its.toList,r,⟨o,I.BB a o hk,hc,n,by simpa using hs⟩,?_⟩;have e:=r.length;simp only[AAN]at e;omega
theorem Inv.kz(I:Inv X AE σ H s)(h:B6 X.K H a xs)(h':B6 X.K H a ys):xs=ys:=by
 obtain⟨its,r,⟨o,n,e,_,_,d⟩,_⟩:=I.list h;obtain⟨Fb,r',⟨o',n',e',_,_,d'⟩,_⟩:=I.list h';rw[e]at e';cases e';rw[d]at d';injection d' with d1 _
 have:=by simpa using AAB Array.toList d1
 subst this;exact r.inj r'
theorem Inv.uZ(I:Inv X AE σ H s)(h:BL X.K H a xs)(h':BL X.K H a ys):xs=ys:=by
 obtain⟨its,r,⟨o,e,_,n,d⟩,_⟩:=I.tuple h;obtain⟨Fb,r',⟨o',e',_,n',d'⟩,_⟩:=I.tuple h';rw[e]at e';cases e';rw[d]at d';injection d' with d1 _
 have:its=Fb:=by simpa using AAB Array.toList d1
 subst this;exact r.inj r'
end
noncomputable abbrev Cx.GU(X:Cx)(E:Value->Shared->Prop):Cx:={X with xe:=E}
abbrev Cx.JQ(X:Cx):Cx:=X.GU λ_ _=>False
theorem Cx.Ok.GU{X:Cx}(ok:X.Ok)(E:Value->Shared->Prop):(X.GU E).Ok:=
 ⟨ok.mod,ok.kind,ok.glob,ok.blt,ok.above,ok.inj,ok.has,ok.LJ,ok.hd,ok.frames,ok.Me,ok.NQ,ok.bs,ok.HV,ok.MQ,ok.LU,ok.FT,ok.J7⟩
theorem Cx.Ok.IJ{X:Cx}{E:Value->Shared->Prop}(ok:(X.GU E).Ok):X.Ok:=
 ⟨ok.mod,ok.kind,ok.glob,ok.blt,ok.above,ok.inj,ok.has,ok.LJ,ok.hd,ok.frames,ok.Me,ok.NQ,ok.bs,ok.HV,ok.MQ,ok.LU,ok.FT,ok.J7⟩
section
variable{X:Cx}{AE:List (Addr×Obj)}{σ:St}{H:Hp}{s:Shared}{E:Value->Shared->Prop}
theorem Inv.GU(I:Inv X AE σ H s)(E:Value->Shared->Prop):Inv (X.GU E) AE σ H s:=⟨I.ok.GU E,I.os,I.bare,I.base,I.loc,I.cell,I.free,I.F4,I.pin,I.Ah,I.len⟩
theorem Inv.IJ(I:Inv (X.GU E) AE σ H s):Inv X AE σ H s:=⟨I.ok.IJ,I.os,I.bare,I.base,I.loc,I.cell,I.free,I.F4,I.pin,I.Ah,I.len⟩
theorem SP.IJ{D:Ends}{f:Flow}{s':Shared}(h:SP (X.GU E) AE D f s'):SP X AE D f s':=by
 cases f with
 |next=>obtain⟨Ag,H',I,q⟩:=h;exact⟨Ag,H',I.IJ,q⟩
 |brk=>obtain⟨Ag,H',I,q⟩:=h;exact⟨Ag,H',I.IJ,q⟩
 |cont=>obtain⟨Ag,H',I,q⟩:=h;exact⟨Ag,H',I.IJ,q⟩
 |ret u=>obtain⟨v,Ag,H',I,r,q⟩:=h;exact⟨v,Ag,H',I.IJ,r,q⟩
theorem DA.JQ{st:List Stmt}{t:TS}(h:DA X.JQ st t):DA X st t:=λAE s σ H D I hw=>
 wpAny_mono (h AE s σ H D (I.GU _) hw) (λ_ _ q=>q.IJ) λ_ _ z=>False.elim z
end
section
variable{X:Cx}{st:Stmt}{BI:List Stmt}{t u:TS}{e:Expr}{te:TE}{pos:Pos}
def tM:TS:=λD σ H=>D.nx σ H
def tj(t u:TS):TS:=λD σ H=>t {D with nx:=u D} σ H
theorem oU:DA X [] tM:=λ_ _ σ H _ I h=>wpAny_execs_nil ⟨σ,H,I,h⟩
theorem oT(h1:PS X st t)(h2:DA X BI u):DA X (st::BI)<|tj t u:=by
 intro AE s σ H D I h;refine wpAny_execs_cons<|Ad (h1 AE s σ H {D with nx:=u D} I h) λf s1 q=>?_;cases f with
 |next=>
  obtain⟨Ag,H',I',q⟩:=q;exact h2 AE s1 Ag H' D I' q
 |ret v=>exact q
 |brk=>exact q
 |cont=>exact q
theorem oV(h1:PS X st t):DA X [st] t:=by
 intro AE s σ H D I h;refine wpAny_execs_cons<|Ad (h1 AE s σ H D I h) λf s1 q=>?_;cases f with
 |next=>exact wpAny_execs_nil q
 |ret v=>exact q
 |brk=>exact q
 |cont=>exact q
theorem Inv.quiet{AE:List (Addr×Obj)}{σ:St}{H:Hp}{s:Shared}(I:Inv X AE σ H s):interactive X.env=false:=by simp[interactive,I.ok.kind]
def ZV(te:TE):TS:=λD σ H=>te σ H λ_ H1=>D.nx σ H1
theorem Sn(he:PE X e te)(hs:swapsWith e none pos.line X.env=pure false:=by rfl):PS X (.Expr e pos)<|ZV te:=by intro AE s σ H D I h;exact wpAny_Expr_any (Ad (he AE s σ H _ I h) (by rintro v s1 ⟨x,H1,I1,r1,q1⟩;exact⟨σ,H1,I1,q1⟩)) I.quiet hs
def tY(te:TE):TS:=λD σ H=>te σ H D.rt
theorem So(he:PE X e te):PS X (.Return (some e) pos)<|tY te:=by intro AE s σ H D I h;exact wpAny_Return_some<|Ad (he AE s σ H _ I h) (by rintro v s1 ⟨x,H1,I1,r1,q1⟩;exact⟨x,σ,H1,I1,r1,q1⟩)
def tG(c:TT)(t u:TS):TS:=λD σ H=>c σ H λb H1=>if b=true then t D σ H1 else u D σ H1
theorem oO{c:Expr}{a b:List Stmt}{tc:TT}(hc:PT X c tc)(ha:DA X a t)(hb:DA X b u):PS X (.If c a b pos)<|tG tc t u:=by
 intro AE s σ H D I h;refine wpAny_If<|Ad (hc AE s σ H _ I h) λd s1 ⟨H1,I1,q1⟩=>?_;cases d with
 |true=>exact ha AE s1 σ H1 D I1 q1
 |false=>exact hb AE s1 σ H1 D I1 q1
def tL:TS:=λ_ _ _=>False
theorem oP:PS X st tL:=λ_ _ _ _ _ _ h=>h.elim
end
abbrev TG:=V->St->Hp->(St->Hp->Prop)->Prop
abbrev Gf:=List V->St->Hp->(St->Hp->Prop)->Prop
def PG(X:Cx)(Ko:Expr)(t:TG):Prop:=
 ∀(AE:List<|Addr×Obj)(s:Shared)(σ:St)(H:Hp)(v:V)(u:Value)(Q:St->Hp->Prop),Inv X AE σ H s->RelV v u->t v σ H Q->wpAny (model X.prog X.w) X.A (assign Ko X.env u) (λ_ s'=>∃Ag H',Inv X AE Ag H' s'/\Q Ag H') X.xe s
def Ft(X:Cx)(ts:List Expr)(t:Gf):Prop:=
 ∀(AE:List<|Addr×Obj)(s:Shared)(σ:St)(H:Hp)(vs:List V)(us:List Value)(Q:St->Hp->Prop),Inv X AE σ H s->Ap vs us->t vs σ H Q->wpAny (model X.prog X.w) X.A (assignInOrder ((assignEach ts X.env).map (·.2)) us) (λ_ s'=>∃Ag H',Inv X AE Ag H' s'/\Q Ag H') X.xe s
abbrev QA:=V->V->V->Hp->(Hp->Prop)->Prop
def UG(X:Cx)(t:QA):Prop:=
 ∀(AE:List<|Addr×Obj)(s:Shared)(σ:St)(H:Hp)(o i v:V)(ov iv u:Value)(Q:Hp->Prop),Inv X AE σ H s->RelV o ov->RelV i iv->RelV v u->t o i v H Q->wpAny (model X.prog X.w) X.A (setItem ov iv u) (λ_ s'=>∃H',Inv X AE σ H' s'/\Q H') X.xe s
section
variable{X:Cx}{pos:Pos}
def Lc(i:Nat):TG:=λv σ H Q=>Q (σ.set i<|some v) H
theorem nZ{i:Nat}{x:Str}(hN:X.N.Nodup)(hi:X.N[i]? = some x)(hx:Loc X.env.scope x)(hf:X.fn x=true\/X.env.scope.names.lookup x=some .local:=by first|exact .inl rfl|exact .inr rfl|assumption):PG X (.Name x pos)<|Lc i:=by intro AE s σ H v u Q I r h;exact wpAny_assign_Name<|O6 I hN hi hx r (λs' I'=>⟨_,H,I',h⟩) hf
def gk:Gf:=λvs σ H Q=>vs=[]/\Q σ H
def gi(t:TG)(u:Gf):Gf:=λvs σ H Q=>∃v r,vs=v::r/\t v σ H λAg H'=>u r Ag H' Q
theorem nq:Ft X [] gk:=by intro AE s σ H vs us Q I r h;obtain⟨e,h⟩:=h;exact assignInOrder_nil ⟨σ,H,I,h⟩
theorem nj{e:Expr}{es:List Expr}{t:TG}{u:Gf}(h1:PG X e t)(h2:Ft X es u) (hs:(assignEach (e::es) X.env).map (·.2)=assign e X.env::(assignEach es X.env).map (·.2):=by rfl):Ft X (e::es)<|gi t u:=by
 intro AE s σ H vs us Q I r h;obtain⟨v,vr,e1,h⟩:=h;subst e1;cases r with
 |cons r rr=>
  rw[hs];refine assignInOrder_cons<|Ad (h1 AE s σ H _ _ _ I r h) λ_ s1 ⟨En,H1,I1,q1⟩=>?_;exact h2 AE s1 En H1 _ _ Q I1 rr q1
def gp(K:PySem.W.Frag)(n:Nat)(t:Gf):TG:=λv σ H Q=>∃a xs,v=.ref a/\BL K H a xs/\xs.length=n/\t xs σ H Q
theorem nh{es:List Expr}{k:Nat}{t:Gf}{n:Nat}(hc:X.calm=true)(h:Ft X es t) (hn:(assignEach es X.env).length=n:=by rfl) (FY:(assignEach es X.env).findIdx? (·.1)=none:=by rfl):PG X (.Tuple es k pos)<|gp X.K n t:=by intro AE s σ H v u Q I r hw;obtain⟨a,xs,e1,hq,hl,hw⟩:=hw;subst e1;cases r;obtain⟨its,rv,ht,hz⟩:=I.tuple hq;refine assign_Tuple_tuple (I.ok.hd hc) ht (by simp[hn,<-hl,rv.length]) FY λh' hx=>?_;have I1:Inv X AE σ H {s with heap:=h'}:=I.kept λb o e=>hx b o (yu<|Heap.lt_size e) e;exact h AE _ σ H xs _ Q I1 (by simpa using rv) hw
def gm(to ti:TE)(t:QA):TG:=λv σ H Q=>to σ H λo H1=>ti σ H1 λi H2=>t o i v H2 λH3=>Q σ H3
theorem ng{o i:Expr}{to ti:TE}{t:QA}(ho:PE X o to)(hi:PE X i ti)(hs:UG X t) (ha:∀v,assign (.Subscript o i pos) X.env v=(do
  let ov<-holding [v]<|eval o X.env
  let iv<-holding [v,ov]<|eval i X.env
  standAt pos
  holding [v,ov,iv] (setItem ov iv v)
  release [v,ov,iv] []):=by intro _;rfl):PG X (.Subscript o i pos)<|gm to ti t:=by
 intro AE s σ H v u Q I r h;rw[ha];refine wpAny_bind<|wpAny_holding<|Ad (ho AE s σ H _ I h) λov s1 ⟨x,H1,I1,r1,q1⟩=>?_;refine wpAny_bind<|wpAny_holding<|Ad (hi AE s1 σ H1 _ I1 q1) λiv s2 ⟨y,H2,I2,r2,q2⟩=>?_;refine wpAny_bind<|wpAny_standAt<|wpAny_bind<|wpAny_holding<|Ad (hs AE s2 σ H2 x y v ov iv u _ I2 r1 r2 r q2) λ_ s3 ⟨H3,I3,q3⟩=>?_;exact wpAny_release ⟨σ,H3,I3,q3⟩
def Mj(te:TE)(g:TG):TS:=λD σ H=>te σ H λx H1=>g x σ H1 D.nx
theorem Ym{tg e:Expr}{te:TE}{g:TG}(he:PE X e te)(hg:PG X tg g)(hs:swapsWithSole [tg] e pos.line X.env=pure false:=by rfl)(hw:swappedStores [tg] e X.env=pure none:=by rfl) (h1:(assignEach [tg] X.env).map (·.2)=[assign tg X.env]:=by rfl):PS X (.Assign [tg] e pos)<|Mj te g:=by intro AE s σ H D I h;refine wpAny_Assign_stores (Ad (he AE s σ H _ I h) λv s1 ⟨x,H1,I1,r1,q1⟩=>?_) hs hw;rw[h1];exact Ad (hg AE s1 σ H1 x v _ I1 r1 q1) λ_ s2 q=>q
theorem Om{i:Nat}{x:Str}{e:Expr}{te:TE}{pos':Pos}(hN:X.N.Nodup)(hi:X.N[i]? = some x)(hx:Loc X.env.scope x)(he:PE X e te)(hs:swapsWith e (some<|.Name x pos') pos.line X.env=pure false:=by rfl)(hf:X.fn x=true\/X.env.scope.names.lookup x=some .local:=by first|exact .inl rfl|exact .inr rfl|assumption) : PS X (.Assign [.Name x pos'] e pos)<|Mj te<|Lc i:=by intro AE s σ H D I h;refine wpAny_Assign_Name (Ad (he AE s σ H _ I h) λv s1 ⟨y,H1,I1,r1,q1⟩=>?_) hs;exact O6 I1 hN hi hx r1 (λs2 I2=>⟨_,H1,I2,q1⟩) hf
def tV(i j:Nat)(ta:TA):TS:=λD σ H=>ta σ H λvs H1=>∃v w,vs=[v,w]/\D.nx ((σ.set i<|some v).set j<|some w) H1
theorem oQ{i j:Nat}{x y:Str}{a b:Expr}{ta:TA}{px py pt:Pos}{kt k2 JV}(hc:X.calm=true)(hN:X.N.Nodup)(hi:X.N[i]? = some x)(hj:X.N[j]? = some y)(Bi:i≠j) (hx:X.env.scope.names.lookup x=some .local) (hy:X.env.scope.names.lookup y=some .local) (ha:PA X [a,b] ta) (hw:swappedStores [.Tuple [.Name x px,.Name y py] kt pt] (.Tuple [a,b] k2 JV) X.env=pure (some [x,y])) (hs:swapsWithSole [.Tuple [.Name x px,.Name y py] kt pt] (.Tuple [a,b] k2 JV) pos.line X.env=pure false:=by rfl) : PS X (.Assign [.Tuple [.Name x px,.Name y py] kt pt] (.Tuple [a,b] k2 JV) pos)<|tV i j ta:=by
 intro AE s σ H D I h;refine wpAny_bind<|wpAny_standAt ?_;refine wpAny_bind<|wpAny_pure ?_;refine wpAny_bind<|Tuple_<|Ad (ha _ AE s σ H _ I h) λus s1 ⟨vs,H1,I1,r1,q1⟩=>?_;obtain⟨v,w,e1,q1⟩:=q1;subst e1;obtain⟨u1,u2,rfl,rv,Cq⟩:∃u1 u2,us=[u1,u2]/\RelV v u1/\RelV w u2:=by
  cases r1 with
  |cons p q=>
   cases q with
   |cons p' q'=>
    cases q';exact⟨_,_,rfl,p,p'⟩
 refine wpAny_newObj_type ?_ (by show 2<=sizeLine;decide);have I2:Inv X AE σ H1 {s1 with heap:=s1.heap.push {cls:=.type "tuple",data:=.seq [u1,u2].toArray}}:=I1.kept λb o e=>Heap.get?_push_of_some _ e;rw[hw];refine wpAny_bind<|wpAny_pure ?_;refine wpAny_bind<|wpAny_rule<|wpAny_bind<|unpackItems_tuple (items:=#[u1,u2]) (I.ok.hd hc) (IsTup.new s1.heap _) λh' GB=>?_;have I3:=I2.kept (t':=s1.toks) λb o e=>GB b o (yu<|Heap.lt_size e) e;refine wpAny_bind<|assignInOrder_cons<|wpAny_bindName<|O6 I3 hN hj (.inl hy) Cq (λs2 I4=>?_)<|.inr hy;refine assignInOrder_cons<|wpAny_bindName<|O6 I4 hN hi (.inl hx) rv (λs3 I5=>assignInOrder_nil<|wpAny_pure ?_)<|.inr hx;rw[List.set_comm _ _<|zo Bi]at I5;exact⟨_,H1,I5,q1⟩
end
section
variable{X:Cx}{pos:Pos}
def t8(c:TT)(tb:TS):TS:=λD σ H=>∃W:Nat->St->Hp->Prop,(∃m,W m σ H)/\∀m σ H,W m σ H->
 c σ H λb H1=>if b=true then ∃N:St->Hp->Prop,(∀Ag H',N Ag H'->∃m',m'<m/\W m' Ag H')/\tb {D with nx:=N,ct:=N,bk:=D.nx} σ H1 else D.nx σ H1
theorem oS{c:Expr}{body:List Stmt}{tc:TT}{tb:TS}(hp:PassesOwn (model X.prog X.w) X.A X.env X.xe)(hc:PT X c tc)(hb:DA X body tb):PS X (.While c body [] pos)<|t8 tc tb:=by
 intro AE s σ H D I h;obtain⟨W,⟨m0,w0⟩,turn⟩:=h;refine wpAny_While<|codeAny_whileLoop (λn s'=>∃Ag H',Inv X AE Ag H' s'/\W n Ag H') ?_ m0 ⟨σ,H,I,w0⟩;rintro n s1 ⟨En,H1,I1,w1⟩;refine wpAny_passesOwn hp<|Ad (hc AE s1 En H1 _ I1<|turn n En H1 w1) λb s2 ⟨H2,I2,q2⟩=>?_;cases b with
 |true=>
  obtain⟨N,hN,q2⟩:=q2;refine wpAny_passesOwn hp<|Ad (hb AE s2 En H2 _ I2 q2) λf s3 q3=>?_;cases f with
  |next=>
   obtain⟨Dq,H3,I3,n3⟩:=q3;obtain⟨m',hm,w3⟩:=hN Dq H3 n3;exact⟨m',hm,Dq,H3,I3,w3⟩
  |cont=>
   obtain⟨Dq,H3,I3,n3⟩:=q3;obtain⟨m',hm,w3⟩:=hN Dq H3 n3;exact⟨m',hm,Dq,H3,I3,w3⟩
  |brk=>exact q3
  |ret v=>exact q3
 |false=>
  exact wpAny_execs_nil ⟨En,H2,I2,q2⟩
end
structure It where
 go:Nat->Hp->Prop
 PU:Nat->Hp->V->Hp->Prop
 stop:Nat->Hp->Prop
def FG(X:Cx)(AE:List<|Addr×Obj)(H:Hp)(b:Addr):Prop:=
 H b=none/\b≠X.env.locals/\b∉X.fs/\(b∈X.ex\/X.Cb.heap.objs.size<=b)/\(∀x c,X.env.cells.lookup x=some c->c≠b)/\∀p∈X.pn++AE,p.1≠b
theorem Inv.Na{X:Cx}{AE:List (Addr×Obj)}{σ:St}{H H':Hp}{s:Shared}{b:Addr}(I:Inv X AE σ H s)(hb:s.heap.objs.size<=b)(hn:H' b=none):FG X AE H' b:=by
 refine⟨hn,Nat.ne_of_gt<|zB I.lt hb,I.lY hb,.inr<|zT I.sz hb,λx c e z=>?_,λp hp z=>?_⟩
 .obtain⟨v,q⟩:=I.cell x c e;exact absurd (zB q.lt (by rw[z];exact hb)) (AAy _)
 .exact absurd (zB (Heap.lt_size (I.pin p hp).1) (by rw[z];exact hb)) (AAy _)
structure Turn(P:Program)(w:World)(K:PySem.W.Frag)(tg:Expr)(J:It)(fp:List Addr)(it:Addr)(tn:Nat->Heap->Prop):Prop where
 mem:it∈fp
 obj:∀i h,tn i h->∀b∈fp,∃o,h.get? b=some o/\∀v,o.data≠.cell v
 keep:∀i h h',tn i h->(∀b∈fp,∀o,h.get? b=some o->h'.get? b=some o)->tn i h'
 item:∀(X:Cx),X.prog=P->X.w=w->X.K=K->X.calm=true->∀(i:Nat)(AE:List<|Addr×Obj)(s:Shared)(σ:St)(H:Hp)(E:Value->Shared->Prop),Inv X AE σ H s->(∀b∈fp,FG X AE H b)->tn i s.heap->J.go i H->wpAny (model P w) X.A (pyNext<|.ref it) (λr s1=>∃u,r=some u/\
   wpAny (model P w) X.A (letOwnedTupleGo tg (.ref it) u) (λ_ s2=>∃x H',Inv X AE σ H' s2/\RelV x u/\J.PU i H x H'/\tn (i+1) s2.heap/\∀b∈fp,H' b=none) E s1) E s
 done:∀(X:Cx),X.prog=P->X.w=w->X.K=K->X.calm=true->∀(i:Nat)(AE:List<|Addr×Obj)(s:Shared)(σ:St)(H:Hp)(E:Value->Shared->Prop),Inv X AE σ H s->(∀b∈fp,FG X AE H b)->tn i s.heap->J.stop i H->wpAny (model P w) X.A (pyNext<|.ref it) (λr s1=>r=none/\Inv X AE σ H s1) E s
 self:∀(A:Around)(i:Nat)(s:Shared)(Q:Value->Shared->Prop)(E:Value->Shared->Prop),tn i s.heap->Q (.ref it) s->wpAny (model P w) A (pyIter<|.ref it) Q E s
abbrev TI:=St->Hp->(It->Hp->Prop)->Prop
def UE(X:Cx)(AE:List<|Addr×Obj)(σ:St)(tg:Expr)(R:It->Hp->Prop)(OE:Value)(s2:Shared):Prop:=
 ∃(it:Addr)(fp:List Addr)(tn:Nat->Heap->Prop)(J:It)(H':Hp),OE=.ref it/\Inv X AE σ H' s2/\Turn X.prog X.w X.K tg J fp it tn/\tn 0 s2.heap/\(∀b∈fp,FG X AE H' b)/\R J H'
def PI(X:Cx)(tg iter:Expr)(wi:TI):Prop:=
 ∀(AE:List<|Addr×Obj)(s:Shared)(σ:St)(H:Hp)(R:It->Hp->Prop),Inv X AE σ H s->wi σ H R->wpAny (model X.prog X.w) X.A (eval iter X.env) (λv s1=>wpAny (model X.prog X.w) X.A (pyIter v) (UE X AE σ tg R) X.xe s1) X.xe s
theorem Qu{M:Model}{A:Around}{E:Value->Shared->Prop}{s:Shared}{tg:Expr}{it:Addr}{u:Value}{o:Obj}{n:String}{vs:Array Value}{Q:Unit->Shared->Prop}(ho:s.heap.get? it=some o)(hc:o.cls=.type n)(hd:o.data=.fields vs) (hn:["enumerate","zip","dict_itemiterator","dict_reverseitemiterator","odict_iterator","itertools.zip_longest","itertools.pairwise"].contains n=false) (hQ:Q () s):wpAny M A (letOwnedTupleGo tg (.ref it) u) Q E s:=by
 cases tg<;>first
  |exact wpAny_pure hQ
  |(cases u<;>first
   |exact wpAny_pure hQ
   |(
    refine wpAny_bind<|wpAny_load ho ?_;rw[hc,hd];show wpAny M A (if(["enumerate","zip","dict_itemiterator","dict_reverseitemiterator","odict_iterator","itertools.zip_longest","itertools.pairwise"].contains n&&vs[0]? == some (rawInt _))=true then _ else _) Q E s;rw[yN (by intro h;rw[hn]at h;cases h)];exact wpAny_pure hQ))
noncomputable def P4(K:PySem.W.Frag)(a:Addr):It:=
 ⟨λi H=>∃xs x,B6 K H a xs/\xs[i]? = some x,λi H x H'=>H'=H/\∀xs,B6 K H a xs->xs[i]? = some x,λi H=>∃xs,B6 K H a xs/\xs.length<=i⟩
noncomputable def P5(K:PySem.W.Frag)(a:Addr):It:=
 ⟨λi H=>∃xs x,BL K H a xs/\xs[i]? = some x,λi H x H'=>H'=H/\∀xs,BL K H a xs->xs[i]? = some x,λi H=>∃xs,BL K H a xs/\xs.length<=i⟩
noncomputable def K6(lo:Int)(n:Nat):It:=⟨λi _=>i<n,λi H x H'=>H'=H/\x=.int (lo+i),λi _=>n<=i⟩
theorem uf{P:Program}{w:World}{K:PySem.W.Frag}{tg:Expr}(a it:Addr):Turn P w K tg (P4 K a) [it] it (λi h=>h.IsListIter it a i) where
 mem:=yI
 obj:=λi h st b hb=>by
  have e:=by simpa using hb
  subst e;obtain⟨o,e,c,d⟩:=st;exact⟨o,e,λv z=>by rw[d]at z;cases z⟩
 keep:=λi h h' st k=>st.at λo e=>k it yI o e
 item:=by intro X hP hw hK hc i AE s σ H E I hf st hg;subst hP hw hK;obtain⟨xs,x,hq,hx⟩:=hg;obtain⟨its,rv,p,hz⟩:=I.list hq;obtain⟨u,hu,ru⟩:=rv.get hx;obtain⟨f0,f1,f2,f3,f4,f5⟩:=hf it yI;refine wpAny_pyNext_list_item st p.isList (by simpa using hu) λh' El sb=>?_;have I1:Inv X AE σ H {s with heap:=h'}:=I.turned (λb o hb e=>(sb.2 b hb).trans e) f0 f1 f3 f4 f5;obtain⟨o,e,c,d⟩:=id El;exact⟨u,rfl,Qu e c d yJ ⟨x,H,I1,ru,⟨rfl,λys hy=>by rw[I.kz hy hq];exact hx⟩,El,λb hb=>(hf b hb).1⟩⟩
 done:=by intro X hP hw hK hc i AE s σ H E I hf st hg;subst hP hw hK;obtain⟨xs,hq,hx⟩:=hg;obtain⟨its,rv,p,hz⟩:=I.list hq;obtain⟨f0,f1,f2,f3,f4,f5⟩:=hf it yI;have hl:=rv.length;exact wpAny_pyNext_list_end (I.ok.hd hc) st p.isList (by simp;omega) λh' eb=>⟨rfl,I.turned (λb o hb e=>eb b o hb e) f0 f1 f3 f4 f5⟩
 self:=λ_ _ _ _ _ st h=>wpAny_pyIter_listiter st h
theorem uh{P:Program}{w:World}{K:PySem.W.Frag}{tg:Expr}(a it:Addr):Turn P w K tg (P5 K a) [it] it (λi h=>h.IsTupleIter it a i) where
 mem:=yI
 obj:=λi h st b hb=>by
  have e:b=it:=by simpa using hb
  subst e;obtain⟨o,e,c,d⟩:=st;exact⟨o,e,λv z=>by rw[d]at z;cases z⟩
 keep:=λi h h' st k=>st.at λo e=>k it yI o e
 item:=by intro X hP hw hK hc i AE s σ H E I hf st hg;subst hP hw hK;obtain⟨xs,x,hq,hx⟩:=hg;obtain⟨its,rv,p,hz⟩:=I.tuple hq;obtain⟨u,hu,ru⟩:=rv.get hx;obtain⟨f0,f1,f2,f3,f4,f5⟩:=hf it yI;refine wpAny_pyNext_tuple_item st (show s.heap.IsTuple a its.toArray from p) (x:=u) (by simpa using hu) λh' El sb=>?_;have I1:Inv X AE σ H {s with heap:=h'}:=I.turned (t':=s.toks) (λb o hb e=>(sb.2 b hb).trans e) f0 f1 f3 f4 f5;obtain⟨o,e,c,d⟩:=id El;exact⟨u,rfl,Qu (s:={s with heap:=h'}) e c d yJ ⟨x,H,I1,ru,⟨rfl,λys hy=>by rw[I.uZ hy hq];exact hx⟩,El,λb hb=>(hf b hb).1⟩⟩
 done:=by intro X hP hw hK hc i AE s σ H E I hf st hg;subst hP hw hK;obtain⟨xs,hq,hx⟩:=hg;obtain⟨its,rv,p,hz⟩:=I.tuple hq;obtain⟨f0,f1,f2,f3,f4,f5⟩:=hf it yI;have hl:=rv.length;exact wpAny_pyNext_tuple_end (I.ok.hd hc) st (show s.heap.IsTuple a its.toArray from p) (by simp;omega) λh' eb=>⟨rfl,I.turned (t':=s.toks) (λb o hb e=>eb b o hb e) f0 f1 f3 f4 f5⟩
 self:=λ_ _ _ _ _ st h=>wpAny_pyIter_tupleiter st h
theorem ug{P:Program}{w:World}{K:PySem.W.Frag}{tg:Expr}(it:Addr)(lo:Int)(n:Nat):Turn P w K tg (K6 lo n) [it] it (λi h=>IsRangeIter h it (lo+(i)*1) ((n)-(i)) 1) where
 mem:=yI
 obj:=λi h st b hb=>by
  have e:=by simpa using hb
  subst e;exact⟨_,st,λv z=>by have z':Data.fields _=Data.cell v:=z;cases z'⟩
 keep:=λi h h' st k=>k it yI _ st
 item:=by intro X hP hw hK hc i AE s σ H E I hf st hg;subst hP hw hK;obtain⟨f0,f1,f2,f3,f4,f5⟩:=hf it yI;have W:=Walks.range (prog:=X.prog) (w:=X.w) (I.ok.hd hc) it lo 1 n;refine W.item i s _ _ hg st λv h' tk hv El kk=>?_;obtain⟨t,rfl⟩:=hv;have I1:Inv X AE σ H {s with heap:=h',toks:=tk}:=I.turned (λb o hb e=>kk b o (by simpa using hb) e) f0 f1 f3 f4 f5;refine⟨_,rfl,Qu El rfl rfl yJ ⟨.int<|lo+i,H,I1,⟨t,?_⟩,⟨rfl,rfl⟩,El,λb hb=>(hf b hb).1⟩⟩;rw[ACx]
 done:=by intro X hP hw hK hc i AE s σ H E I hf st hg;subst hP hw hK;obtain⟨f0,f1,f2,f3,f4,f5⟩:=hf it yI;exact wpAny_pyNext_range_end (I.ok.hd hc) st (by have:n<=i:=hg;omega) λh' eb=>⟨rfl,I.turned (λb o hb e=>eb b o hb e) f0 f1 f3 f4 f5⟩
 self:=λ_ _ _ _ _ st h=>wpAny_pyIter_rangeiter st h
section
variable{X:Cx}{tg:Expr}
def jq(K:PySem.W.Frag)(tl:TE):TI:=λσ H R=>tl σ H λx H1=>∃a,x=.ref a/\(∃xs,B6 K H1 a xs)/\R (P4 K a) H1
def ju(K:PySem.W.Frag)(tl:TE):TI:=λσ H R=>tl σ H λx H1=>∃a,x=.ref a/\(∃xs,BL K H1 a xs)/\R (P5 K a) H1
theorem nr{l:Expr}{tl:TE}(hl:PE X l tl):PI X tg l<|jq X.K tl:=by
 intro AE s σ H R I h;refine Ad (hl AE s σ H _ I h) λv s1 ⟨x,H1,I1,r1,q1⟩=>?_;obtain⟨a,e,⟨xs,hq⟩,q⟩:=q1;subst e;cases r1;obtain⟨its,rv,p,hz⟩:=I1.list hq;refine wpAny_pyIter_list p.isList ?_;refine⟨s1.heap.objs.size,[s1.heap.objs.size],_,_,H1,rfl,I1.kept λb o e=>Heap.get?_push_of_some _ e,uf a _,⟨_,Heap.get?_push_size _ rfl,rfl,rfl⟩,λb hb=>?_,q⟩;have e:=by simpa using hb
 subst e;exact I1.Na (yf _)<|I1.Ah.fresh<|yf _
theorem ny{l:Expr}{tl:TE}(hl:PE X l tl):PI X tg l<|ju X.K tl:=by
 intro AE s σ H R I h;refine Ad (hl AE s σ H _ I h) λv s1 ⟨x,H1,I1,r1,q1⟩=>?_;obtain⟨a,e,⟨xs,hq⟩,q⟩:=q1;subst e;cases r1;obtain⟨its,rv,p,hz⟩:=I1.tuple hq;refine wpAny_pyIter_tuple (show s1.heap.IsTuple a its.toArray from p) ?_;refine⟨s1.heap.objs.size,[s1.heap.objs.size],_,_,H1,rfl,I1.kept (t':=s1.toks) λb o e=>Heap.get?_push_of_some _ e,uh a _,⟨_,Heap.get?_push_size _ rfl,rfl,rfl⟩,λb hb=>?_,q⟩;have e:b=s1.heap.objs.size:=by simpa using hb
 subst e;exact I1.Na (yf _)<|I1.Ah.fresh<|yf _
theorem Yv{AE:List (Addr×Obj)}{σ:St}{H:Hp}{s:Shared}{R:It->Hp->Prop}{E:Value->Shared->Prop}{lo hi:Int}{t u v:Tok}{tk:Nat}(I:Inv X AE σ H s)(h1 : -(2 ^ 62)<=lo)(h2:lo<2 ^ 62)(h3 : -(2 ^ 62)<=hi)(h4:hi<2 ^ 62) (q:R (K6 lo (hi-lo).toNat) H):wpAny (model X.prog X.w) X.A (pyIter<|.ref s.heap.objs.size) (UE X AE σ tg R) E {s with heap:=s.heap.push {cls:=.type "range",data:=.fields #[.int lo t,.int hi u,.int 1 v]},toks:=tk}:=by
 refine wpAny_pyIter_range (IsRange.new ..) (small_one h1 h2 h3 h4) ?_;have I1:Inv X AE σ H {s with heap:=s.heap.push {cls:=.type "range",data:=.fields #[.int lo t,.int hi u,.int 1 v]},toks:=tk}:=I.kept λb o e=>Heap.get?_push_of_some _ e;refine⟨(s.heap.push {cls:=.type "range",data:=.fields #[.int lo t,.int hi u,.int 1 v]}).objs.size,[(s.heap.push {cls:=.type "range",data:=.fields #[.int lo t,.int hi u,.int 1 v]}).objs.size],_,_,H,rfl,I1.kept λb o e=>Heap.get?_push_of_some _ e,ug _ lo (hi-lo).toNat,?_,λb hb=>?_,q⟩
 .have e1:lo+((0:Nat))*1=lo:=yI
  have e2:(((hi-lo).toNat))-((0:Nat))=Builtin.Range.rangeSize lo hi 1:=by rw[rangeSize_one];split<;>omega
  rw[e1,e2];exact Heap.get?_push_size _ rfl
 .have e:b=(s.heap.push {cls:=.type "range",data:=.fields #[.int lo t,.int hi u,.int 1 v]}).objs.size:=by simpa using hb
  subst e;exact I1.Na (yf _)<|I1.Ah.fresh<|yf _
def jr(ta:TA):TI:=λσ H R=>ta σ H λvs H1=>∃j:Int,vs=[.int j]/\-(2 ^ 62)<=j/\j<2 ^ 62/\R (K6 0 j.toNat) H1
def jt(ta:TA):TI:=λσ H R=>ta σ H λvs H1=>∃i j:Int,vs=[.int i,.int j]/\(-(2 ^ 62)<=i/\i<2 ^ 62/\-(2 ^ 62)<=j/\j<2 ^ 62)/\R (K6 i (j-i).toNat) H1
theorem nu{a:Expr}{ta:TA}{p pos:Pos}(hg:Gl X "range")(hm:X.mg "range" = none)(ha:PA X [a] ta)(hs:starEach [a] X.env=[(false,eval a X.env)]:=by rfl):PI X tg (.Call (.Name "range" p) [a] [] pos)<|jr ta:=by
 intro AE s σ H R I h;refine Call_<|MH I hg hm boot_range<|ABF (Ad (ha pos AE s σ H _ I h) λus s1 ⟨vs,H1,I1,r1,q1⟩=>?_) hs rfl;obtain⟨j,e,q1,q2,q⟩:=q1;subst e;cases r1 with
 |cons r rr=>
  cases rr;obtain⟨t,rfl⟩:=r;exact call_range_1<|Yv I1 yH yH q1 q2<|by simpa using q
theorem nv{a b:Expr}{ta:TA}{p pos:Pos}(hg:Gl X "range")(hm:X.mg "range" = none)(ha:PA X [a,b] ta)(hs:starEach [a,b] X.env=[(false,eval a X.env),(false,eval b X.env)]:=by rfl)(N7:starEach [b] X.env=[(false,eval b X.env)]:=by rfl) : PI X tg (.Call (.Name "range" p) [a,b] [] pos)<|jt ta:=by
 intro AE s σ H R I h;refine Call_ (MH I hg hm boot_range<|ABF (Ad (ha pos AE s σ H _ I h) λus s1 ⟨vs,H1,I1,r1,q1⟩=>?_) (by rw[hs,N7]) (by rw[N7];rfl));obtain⟨i,j,e,⟨q1,q2,q3,q4⟩,q⟩:=q1;subst e;cases r1 with
 |cons r rr=>
  cases rr with
  |cons r' rr=>
   cases rr;obtain⟨t,rfl⟩:=r;obtain⟨t',rfl⟩:=r';exact call_range_2<|Yv I1 q1 q2 q3 q4 q
def tD(wi:TI)(g:TG)(tb:TS):TS:=λD σ H=>wi σ H λJ H1=>∃W:Nat->Nat->St->Hp->Prop,(∃m,W 0 m σ H1)/\∀i m σ H,W i m σ H->
 (J.stop i H/\D.nx σ H)\/(J.go i H/\∃N:St->Hp->Prop,(∀Ag H',N Ag H'->∃m',m'<m/\W (i+1) m' Ag H')/\∀x H',J.PU i H x H'->g x σ H' λDH H2=>tb {D with nx:=N,ct:=N,bk:=D.nx} DH H2)
noncomputable def MU(fp:List Addr)(h:Heap):List<|Addr×Obj:=fp.filterMap λb=>(h.get? b).map λo=>(b,o)
theorem OT{fp:List Addr}{h:Heap}{b:Addr}{o:Obj}(hb:b∈fp)(e:h.get? b=some o):(b,o)∈MU fp h:=ABz.mpr ⟨b,hb,by rw[e];rfl⟩
theorem lr{fp:List Addr}{h:Heap}{p:Addr×Obj}(hp:p∈MU fp h):p.1∈fp/\h.get? p.1=some p.2:=by
 obtain⟨b,hb,e⟩:=ABz.mp hp;cases q:h.get? b with
 |none=>rw[q]at e;cases e
 |some o=>
  rw[q]at e;have e':=zD e;subst e';exact⟨hb,q⟩
theorem Inv.pinned{AE:List (Addr×Obj)}{σ:St}{H:Hp}{s:Shared}{fp:List Addr}(I:Inv X AE σ H s)(hf:∀b∈fp,FG X AE H b)(ho:∀b∈fp,∃o,s.heap.get? b=some o/\∀v,o.data≠.cell v):Inv X (AE++MU fp s.heap) σ H s:=
 I.Yc λp hp=>(zF.mp hp).elim (λz=>I.pin p<|zZ _ z) λz=>by obtain⟨hb,e⟩:=lr z;obtain⟨f0,f1,f2,_⟩:=hf p.1 hb;obtain⟨o,e',d⟩:=ho p.1 hb;rw[e]at e';cases e';exact⟨e,f0,f1,f2,d⟩
theorem Inv.PM{AE pl:List (Addr×Obj)}{σ:St}{H:Hp}{s:Shared}(I:Inv X (AE++pl) σ H s):Inv X AE σ H s:=I.Yc λp hp=>I.pin p<|zZ _<|zw _ hp
theorem oN{iter:Expr}{body:List Stmt}{wi:TI}{g:TG}{tb:TS}{pos:Pos}(hp:PassesOwn (model X.prog X.w) X.A X.env X.xe)(hc:X.calm=true)(hi:PI X tg iter wi)(hg:PG X tg g)(hb:DA X body tb) (hs:∀x,foldedSetIterable iter X.env x=pure x:=by intro _;rfl):PS X (.For tg iter body [] pos)<|tD wi g tb:=by
 intro AE s σ H D I h;refine wpAny_For (Ad (hi AE s σ H _ I h) λv s1 h1=>Ad h1 λOE s2 h2=>?_) hs;obtain⟨it,fp,tn,J,H2,e,I2,T,IC,f2,W,⟨m0,w0⟩,turn⟩:=h2;subst e;have TK:∀{H':Hp},(∀b∈fp,H' b=none)->∀b∈fp,FG X AE H' b:=λhn b hb=>⟨hn b hb,(f2 b hb).2⟩;refine codeAny_forLoop_any (λn s'=>∃i Ag H',Inv X AE Ag H' s'/\tn i s'.heap/\(∀b∈fp,H' b=none)/\W i n Ag H') ?_ m0 ⟨0,σ,H2,I2,IC,λb hb=>(f2 b hb).1,w0⟩;rintro n s3 ⟨i,Dq,H3,I3,ER,Lb,w3⟩;rcases turn i n Dq H3 w3 with⟨stop,qn⟩|⟨go,N,hN,step⟩
 .refine wpAny_passesOwn hp<|Ad (T.done X rfl rfl rfl hc i AE s3 Dq H3 X.xe I3 (TK Lb) ER stop) λr s4 ⟨hr,I4⟩=>?_;subst hr;exact wpAny_execs_nil ⟨Dq,H3,I4,qn⟩
 .refine wpAny_passesOwn hp<|Ad (T.item X rfl rfl rfl hc i AE s3 Dq H3 X.xe I3 (TK Lb) ER go) λr s4 ⟨u,hr,h4⟩=>?_;subst hr;refine wpAny_passesOwn hp<|Ad h4 λ_ s5 ⟨x,H5,I5,r5,y5,FD,Qq⟩=>?_;have P2:=I5.pinned (TK Qq)<|T.obj _ _ FD;refine wpAny_passesOwn hp<|Ad (hg _ s5 Dq H5 x u _ P2 r5<|step x H5 y5) λ_ s6 ⟨Kw,H6,I6,q6⟩=>?_;refine wpAny_passesOwn hp<|Ad (hb _ s6 Kw H6 _ I6 q6) λf s7 q7=>?_;have again:∀{Fm:St}{H7:Hp},Inv X (AE++MU fp s5.heap) Fm H7 s7->N Fm H7->∃m,m<n/\∃i Ag H',Inv X AE Ag H' s7/\tn i s7.heap/\(∀b∈fp,H' b=none)/\W i m Ag H':=λ{Fm H7} I7 n7=>by obtain⟨m',hm,w7⟩:=hN Fm H7 n7;refine⟨m',hm,i+1,Fm,H7,I7.PM,T.keep _ _ _ FD λb hb o e=>(I7.pin (b,o)<|zZ _<|zZ _<|OT hb e).1,λb hb=>?_,w7⟩;obtain⟨o,e,d⟩:=T.obj _ _ FD b hb;exact(I7.pin (b,o)<|zZ _<|zZ _<|OT hb e).2.1
  cases f with
  |next=>obtain⟨Fm,H7,I7,n7⟩:=q7;exact again I7 n7
  |cont=>obtain⟨Fm,H7,I7,n7⟩:=q7;exact again I7 n7
  |brk=>obtain⟨Fm,H7,I7,q7⟩:=q7;exact⟨Fm,H7,I7.PM,q7⟩
  |ret v=>obtain⟨x7,Fm,H7,I7,r7,q7⟩:=q7;exact⟨x7,Fm,H7,I7.PM,r7,q7⟩
end
abbrev R2:=V->V->Hp->VK->Prop
def BW(X:Cx)(f:Value->Value->Sem Value)(r:R2):Prop:=
 ∀(AE:List<|Addr×Obj)(s:Shared)(σ:St)(H:Hp)(x y:V)(v u:Value)(Q:VK),Inv X AE σ H s->RelV x v->RelV y u->r x y H Q->wpAny (model X.prog X.w) X.A (f v u) (EP X AE σ Q) X.xe s
def QD(X:Cx)(f:Value->Sem Value)(r:V->Hp->VK->Prop):Prop:=
 ∀(AE:List<|Addr×Obj)(s:Shared)(σ:St)(H:Hp)(x:V)(v:Value)(Q:VK),Inv X AE σ H s->RelV x v->r x H Q->wpAny (model X.prog X.w) X.A (f v) (EP X AE σ Q) X.xe s
def C8(X:Cx)(f:Value)(r:List V->Hp->VK->Prop):Prop:=
 ∀(AE:List<|Addr×Obj)(s:Shared)(σ:St)(H:Hp)(xs:List V)(us:List Value)(Q:VK),Inv X AE σ H s->Ap xs us->r xs H Q->wpAny (model X.prog X.w) X.A (call f us) (EP X AE σ Q) X.xe s
def Ml(r:R2)(ta tb:TE):TE:=λσ H Q=>ta σ H λx H1=>tb σ H1 λy H2=>r x y H2 Q
def t7(r:V->Hp->VK->Prop)(ta:TE):TE:=λσ H Q=>ta σ H λx H1=>r x H1 Q
def rI(C:Int->Int->Prop)(g:Int->Int->V):R2:=λx y H Q=>∃i j,x=.int i/\y=.int j/\C i j/\Q (g i j) H
def HE(g:Int->Int->V):R2:=λx y H Q=>∃i j,x=.int i/\y=.int j/\Q (g i j) H
def rU(g:Int->V):V->Hp->VK->Prop:=λx H Q=>∃i,x=.int i/\Q (g i) H
section
variable{X:Cx}{a b c:Expr}{ta tb tc:TE}{pos:Pos}
theorem QO(ha:PE X a ta)(hb:PE X b tb){AE:List (Addr×Obj)}{s:Shared}{σ:St}{H:Hp}{R:V->V->Hp->Prop}(I:Inv X AE σ H s) (h:ta σ H λx H1=>tb σ H1 λy H2=>R x y H2) {Q:Value->Shared->Prop} {f:Value->Value->Sem Value}
 (hf:∀v u s2 x y H2,Inv X AE σ H2 s2->RelV x v->RelV y u->R x y H2->wpAny (model X.prog X.w) X.A (f v u) Q X.xe s2) :
 wpAny (model X.prog X.w) X.A (eval a X.env) (λv BD=>wpAny (model X.prog X.w) X.A (eval b X.env) (λu Fj=>wpAny (model X.prog X.w) X.A (f v u) Q X.xe Fj) X.xe BD) X.xe s:=by
 refine Ad (ha AE s σ H _ I h) λv s1 ⟨x,H1,I1,r1,q1⟩=>?_;refine Ad (hb AE s1 σ H1 _ I1 q1) λu s2 ⟨y,H2,I2,r2,q2⟩=>?_;exact hf v u s2 x y H2 I2 r1 r2 q2
theorem nS{op:Operator}{r:R2}(ho:BW X (binaryOp op) r)(ha:PE X a ta)(hb:PE X b tb):PE X (.BinOp a op b pos)<|Ml r ta tb:=by intro AE s σ H Q I h;exact wpAny_BinOp<|QO ha hb I h λv u s2 x y H2 I2 rx ry q=>ho AE s2 σ H2 x y v u Q I2 rx ry q
theorem Ya{op:UnaryOp}{r:V->Hp->VK->Prop}(ho:QD X (unaryOp op) r)(ha:PE X a ta):PE X (.UnaryOp op a pos)<|t7 r ta:=by intro AE s σ H Q I h;exact UnaryOp_<|Ad (ha AE s σ H _ I h) (by rintro v s1 ⟨x,H1,I1,r1,q1⟩;exact ho AE s1 σ H1 x v Q I1 r1 q1)
theorem Sa{f:Value->Value->Sem Value}{C:Int->Int->Prop}{g:Int->Int->Int} (rule:∀(i j:Int)(t u:Tok)(s:Shared)(Q:Value->Shared->Prop)(E:Value->Shared->Prop),C i j->Q (.int (g i j) s.toks) {s with toks:=s.toks+1}->wpAny (model X.prog X.w) X.A (f (.int i t)<|.int j u) Q E s) : BW X f<|rI C λi j=>.int<|g i j:=by intro AE s σ H x y v u Q I rx ry h;obtain⟨i,j,rfl,rfl,hc,q⟩:=h;obtain⟨t,rfl⟩:=rx;obtain⟨t',rfl⟩:=ry;exact rule i j t t' s _ _ hc ⟨.int<|g i j,H,I.tok _,⟨_,rfl⟩,q⟩
theorem YG{f:Value->Value->Sem Value}{g:Int->Int->Int} (rule:∀(i j:Int)(t u:Tok)(s:Shared)(Q:Value->Shared->Prop)(E:Value->Shared->Prop),Q (.int (g i j) s.toks) {s with toks:=s.toks+1}->wpAny (model X.prog X.w) X.A (f (.int i t)<|.int j u) Q E s) : BW X f<|HE λi j=>.int<|g i j:=by intro AE s σ H x y v u Q I rx ry h;obtain⟨i,j,rfl,rfl,q⟩:=h;obtain⟨t,rfl⟩:=rx;obtain⟨t',rfl⟩:=ry;exact rule i j t t' s _ _ ⟨.int<|g i j,H,I.tok _,⟨_,rfl⟩,q⟩
theorem SY{f:Value->Value->Sem Value}{g:Int->Int->Bool} (rule:∀(i j:Int)(t u:Tok)(s:Shared)(Q:Value->Shared->Prop)(E:Value->Shared->Prop),Q (.bool<|g i j) s->wpAny (model X.prog X.w) X.A (f (.int i t)<|.int j u) Q E s) : BW X f<|HE λi j=>.bl<|g i j:=by intro AE s σ H x y v u Q I rx ry h;obtain⟨i,j,rfl,rfl,q⟩:=h;obtain⟨t,rfl⟩:=rx;obtain⟨t',rfl⟩:=ry;exact rule i j t t' s _ _ ⟨.bl<|g i j,H,I,rfl,q⟩
def Kx(i j:Int):Prop:=0<j/\j<1073741824
def EU(i j:Int):Prop:=(-(2 ^ 64)<i/\i<2 ^ 64)\/(-(2 ^ 64)<j/\j<2 ^ 64)
theorem EU.ok{i j:Int}(h:EU i j):IntMulOk i j:=by
 rcases h with⟨h1,h2⟩|⟨h1,h2⟩
 .exact .of_left<|intBits_le_64 h1 h2
 .exact .of_right<|intBits_le_64 h1 h2
theorem mD:BW X (binaryOp .Add)<|HE λi j=>.int<|i+j:=YG λ_ _ _ _ _ _ _ q=>add_int q
theorem mS:BW X (binaryOp .Sub)<|HE λi j=>.int<|i-j:=YG λ_ _ _ _ _ _ _ q=>sub_int q
theorem mO:BW X (binaryOp .Mult)<|rI EU λi j=>.int<|i*j:=Sa λ_ _ _ _ _ _ _ hc q=>mul_int q hc.ok
theorem mG:BW X (binaryOp .FloorDiv)<|rI Kx λi j=>.int<|i / j:=Sa λi j _ _ _ _ _ hc q=>by have h1:=hc.1;have h2:=hc.2;exact floordiv_int yH (by rw[Int.fdiv_eq_ediv_of_nonneg i yH];exact q)<|.inl<|PyProof.noPylong_small yH
theorem mN:BW X (binaryOp .Mod)<|rI (λ_ j=>0<j) λi j=>.int<|i%j:=Sa λi j _ _ _ _ _ hc q=>by exact mod_int' yH (by rw[Int.fmod_eq_emod_of_nonneg i yH];exact q)
theorem ur{f:Value->Sem Value}{g:Int->Int} (rule:∀(i:Int)(t:Tok)(s:Shared)(Q:Value->Shared->Prop)(E:Value->Shared->Prop),Q (.int (g i) s.toks) {s with toks:=s.toks+1}->wpAny (model X.prog X.w) X.A (f<|.int i t) Q E s) : QD X f<|rU λi=>.int<|g i:=by intro AE s σ H x v Q I rx h;obtain⟨i,rfl,q⟩:=h;obtain⟨t,rfl⟩:=rx;exact rule i t s _ _ ⟨.int<|g i,H,I.tok _,⟨_,rfl⟩,q⟩
theorem Zl:QD X (unaryOp .USub)<|rU λi=>.int (-i):=ur λ_ _ _ _ _ q=>neg_int q
end
section
variable{X:Cx}{a b c:Expr}{ta tb tc:TE}{pos:Pos}
theorem mL:BW X (compareOp .Lt)<|HE λi j=>.bl<|decide (i<j):=SY λ_ _ _ _ _ _ _ q=>lt_int q
theorem mK:BW X (compareOp .LtE)<|HE λi j=>.bl<|decide (i<=j):=SY λ_ _ _ _ _ _ _ q=>le_int q
theorem mH:BW X (compareOp .Gt)<|HE λi j=>.bl<|decide (j<i):=SY λ_ _ _ _ _ _ _ q=>gt_int q
theorem BW.or{f:Value->Value->Sem Value}{r r':R2}(h:BW X f r)(h':BW X f r'):BW X f (λx y H Q=>r x y H Q\/r' x y H Q):=by
 intro AE s σ H x y v u Q I rx ry q;rcases q with q|q
 .exact h AE s σ H x y v u Q I rx ry q
 .exact h' AE s σ H x y v u Q I rx ry q
theorem X3(b:Expr){op:CmpOp}(h:op≠.In:=by decide)(h2:op≠.NotIn:=by decide):behindInMarks op b=false:=by
 have e1:(op==CmpOp.In)=false:=by cases op<;>first|rfl|exact absurd rfl h
 have e2:(op==CmpOp.NotIn)=false:=by cases op<;>first|rfl|exact absurd rfl h2
 cases b<;>simp[behindInMarks,e1,e2]
theorem nJ{op:CmpOp}{r:R2}(ho:BW X (compareOp op) r)(ha:PE X a ta)(hb:PE X b tb)(hm:behindInMarks op b=false):PE X (.Compare a [op] [b] pos)<|Ml r ta tb:=by intro AE s σ H Q I h;exact wpAny_Compare1 (QO ha hb I h λv u s2 x y H2 I2 rx ry q=>ho AE s2 σ H2 x y v u Q I2 rx ry q) hm
def Td(t:TE):TT:=λσ H Q=>t σ H λx H'=>∃k,x=.bl k/\Q k H'
theorem oY{op:CmpOp}{r:R2}(ho:BW X (compareOp op) r)(ha:PE X a ta)(hb:PE X b tb)(hm:behindInMarks op b=false):PT X (.Compare a [op] [b] pos)<|Td<|Ml r ta tb:=by
 intro AE s σ H Q I h;refine wpAny_isTrue_Compare1 (Ad (ha AE s σ H _ I h) λv s1 ⟨x,H1,I1,r1,q1⟩=>Ad (hb AE s1 σ H1 _ I1 q1) λu s2 ⟨y,H2,I2,r2,q2⟩=>
  Ad (ho AE s2 σ H2 x y v u _ I2 r1 r2 q2) λc s3 ⟨z,H3,I3,r3,k,e,q3⟩=>?_) hm
 subst e;cases r3;exact wpAny_truthy_bool ⟨H3,I3,q3⟩
def TZ(r r':R2)(ta tb tc:TE):TE:=λσ H Q=>ta σ H λx H1=>tb σ H1 λy H2=>r x y H2 λz H3=>∃k,z=.bl k/\
 (if k=true then tc σ H3 λw' H4=>r' y w' H4 Q else Q (.bl false) H3)
theorem nH{op Bx:CmpOp}{r r':R2}(ho:BW X (compareOp op) r)(Bw:BW X (compareOp Bx) r')(ha:PE X a ta)(hb:PE X b tb)(hc:PE X c tc) (hm:lastMarks [op,Bx] [b,c]=false:=by with_unfolding_all rfl):PE X (.Compare a [op,Bx] [b,c] pos)<|TZ r r' ta tb tc:=by
 intro AE s σ H Q I h;refine Compare_chain (Ad (ha AE s σ H _ I h) λv s1 ⟨x,H1,I1,r1,q1⟩=>chain_link (Ad (hb AE s1 σ H1 _ I1 q1) λu s2 ⟨y,H2,I2,r2,q2⟩=>
  Ad (ho AE s2 σ H2 x y v u _ I2 r1 r2 q2) λd s3 ⟨z,H3,I3,r3,k,e,q3⟩=>?_)) hm
 subst e;cases r3;refine wpAny_truthy_bool ?_;cases k with
 |false=>exact ite_ff ⟨.bl false,H3,I3,rfl,q3⟩
 |true=>exact ite_tt<|chain_last<|Ad (hc AE s3 σ H3 _ I3 q3) (by rintro w' s4 ⟨z',H4,I4,r4,q4⟩;exact Bw AE s4 σ H4 y z' u w' Q I4 r2 r4 q4)
theorem oW{op Bx:CmpOp}{r r':R2}(ho:BW X (compareOp op) r)(Bw:BW X (compareOp Bx) r')(ha:PE X a ta)(hb:PE X b tb)(hc:PE X c tc) (hm:lastMarks [op,Bx] [b,c]=false:=by with_unfolding_all rfl):PT X (.Compare a [op,Bx] [b,c] pos)<|Td<|TZ r r' ta tb tc:=by
 intro AE s σ H Q I h;refine isTrue_chain (Ad (ha AE s σ H _ I h) λv s1 ⟨x,H1,I1,r1,q1⟩=>test_link (Ad (hb AE s1 σ H1 _ I1 q1) λu s2 ⟨y,H2,I2,r2,q2⟩=>
  Ad (ho AE s2 σ H2 x y v u _ I2 r1 r2 q2) λd s3 ⟨z,H3,I3,r3,k,e,q3⟩=>?_)) hm
 subst e;cases r3;refine wpAny_truthy_bool ?_;cases k with
 |false=>
  obtain⟨k',e',q'⟩:=q3;cases e';exact ite_ff ⟨H3,I3,q'⟩
 |true=>
  refine ite_tt<|test_last<|Ad (hc AE s3 σ H3 _ I3 q3) λw' s4 ⟨z',H4,I4,r4,q4⟩=>Ad (Bw AE s4 σ H4 y z' u w' _ I4 r2 r4 q4) λd' s5 ⟨z2,H5,I5,r5,k2,e2,q5⟩=>?_;subst e2;cases r5;exact wpAny_truthy_bool ⟨H5,I5,q5⟩
theorem OP:(sizeLine)<2 ^ 63:=yJ
theorem vals1{x:V}{us:List Value}(r:Ap [x] us):∃u,us=[u]/\RelV x u:=by
 cases r with
 |cons r1 r2=>cases r2;exact⟨_,rfl,r1⟩
theorem vals2{x y:V}{us:List Value}(r:Ap [x,y] us):∃u w',us=[u,w']/\RelV x u/\RelV y w':=by
 cases r with
 |cons r1 r2=>
  cases r2 with
  |cons r3 r4=>cases r4;exact⟨_,_,rfl,r1,r3⟩
theorem cR:C8 X (.builtin "abs") (λxs H Q=>∃i,xs=[.int i]/\Q (.int (if i<0 then -i else i)) H):=by intro AE s σ H xs us Q I r h;obtain⟨i,rfl,q⟩:=h;obtain⟨u,rfl,t,rfl⟩:=vals1 r;exact call_abs_int λu tk=>⟨.int (if i<0 then -i else i),H,I.tok _,⟨_,rfl⟩,q⟩
theorem cg(hc:X.calm=true):C8 X (.builtin "max") (λxs H Q=>∃i j,xs=[.int i,.int j]/\Q (.int (if j>i then j else i)) H):=by
 intro AE s σ H xs us Q I r h;obtain⟨i,j,rfl,q⟩:=h;obtain⟨u,w',rfl,⟨t,rfl⟩,⟨t',rfl⟩⟩:=vals2 r;refine max_two_ints (I.ok.hd hc) λh' tk k=>⟨_,H,I.kept k,?_,q⟩;by_cases hj:j>i
 .rw[yO hj,yO hj];exact⟨_,rfl⟩
 .rw[yN hj,yN hj];exact⟨_,rfl⟩
theorem ck(hc:X.calm=true):C8 X (.builtin "min") (λxs H Q=>∃i j,xs=[.int i,.int j]/\Q (.int (if j<i then j else i)) H):=by
 intro AE s σ H xs us Q I r h;obtain⟨i,j,rfl,q⟩:=h;obtain⟨u,w',rfl,⟨t,rfl⟩,⟨t',rfl⟩⟩:=vals2 r;refine min_two_ints (I.ok.hd hc) λh' tk k=>⟨_,H,I.kept k,?_,q⟩;by_cases hj:j<i
 .rw[yO hj,yO hj];exact⟨_,rfl⟩
 .rw[yN hj,yN hj];exact⟨_,rfl⟩
end
set_option tactic.hygienic true
structure P7(h:Heap)(x dx C:Addr)(mA:Str->Option Value):Prop where
 obj:h.get? x=some (PySem.W.instObj C dx)
 ns:h.Ns1 dx mA
 ne:dx≠x
theorem k8{h:Heap}{dx:Addr}{mA:Str->Option Value}(n:h.Ns1 dx mA):∃od,h.get? dx=some od/\∀name,PySem.W.lookIn name od=some (mA name):=by
 obtain⟨o,es,ep,ho,hd,hk,_,hm⟩:=n;refine⟨o,ho,λname=>?_⟩;have e:=hm name;unfold nsFind findBy at e;rw[<-Array.find?_toList]at e;unfold PySem.W.lookIn;rw[hd];dsimp only;split
 .rename_i y q;rw[q]at e;exact AAB some e
 .rename_i q;rw[q]at e;have a:es.toList.any (·.refKey)=false:=by rw[AAT];intro y hy;obtain⟨z,t,Q9⟩:=hk y<|Array.mem_toList_iff.mp hy;simp[DictEntry.refKey,Q9]
  have a':¬ es.toList.any (·.refKey)=true:=by rw[a];exact AAJ
  rw[yN a'];exact AAB some e
set_option tactic.hygienic false
theorem P7.look{h:Heap}{x dx C:Addr}{mA:Str->Option Value}(I:P7 h x dx C mA):∃od,PySem.W.InstAt h x (PySem.W.instObj C dx) C (some od)/\∀name,PySem.W.lookIn name od=some (mA name):=
 let ⟨od,ho,hl⟩:=k8 I.ns
 ⟨od,⟨I.obj,rfl,rfl,ho⟩,hl⟩
section
variable{prog:Program}{w:World}{A:Around}{E:Value->Shared->Prop}{s:Shared}{K:PySem.W.Frag}{x dx C f:Addr}{mA:Str->Option Value}{name:Str}{v:Value}
end
theorem FJ.some_of{v:V}{o:Option Value}(r:FJ (some v) o):∃u,o=some u/\RelV v u:=by
 cases o with
 |none=>exact(show False from r).elim
 |some u=>exact⟨u,rfl,r⟩
section
variable{P:Program}{w:World}{H H':Hp}{h h':Heap}{a C dx:Addr}{fs gd:List (Str×V)}
theorem jz(Ah:Bl P w H h)(e:H a=some (.ins C dx fs)):∃mA,P7 h a dx C mA/\(∀f,FJ (fs.lookup f)<|mA f)/\PySem.Within mA (fs.map (·.1))/\fs.length<=1000/\H dx=some (.own a):=by obtain⟨d,z,ne,ob,mA,n,r,q⟩:=(show By P w H h a (.ins C dx fs)from Ah a _ e);exact⟨mA,⟨ob,n,ne⟩,r,q,z,d⟩
end
structure Pa(K:PySem.W.Frag)(C:Addr):Prop where
 pg:PySem.W.plainGet K C Str.empty=true
 hd:PySem.W.hasDictIn K C=true
 po:PySem.W.plainOver K C=true
 sa:PySem.W.findIn K (.ref C) "__setattr__" = some (some<|.builtin "object.__setattr__")
theorem Pa.get{K:PySem.W.Frag}{C:Addr}(c:Pa K C)(f:Str):PySem.W.plainGet K C f=true:=c.pg
structure vU(K:PySem.W.Frag)(C:Addr)(f:Str)(v:V)(u:Value):Prop where
 at_:PySem.W.findIn K (.ref C) f=some (some u)
 rel:RelV v u
 get:PySem.W.specialIn K u "__get__" = some none
 cp:PySem.W.copiedNames.contains f=false
structure Meth(K:PySem.W.Frag)(C:Addr)(m:Str)(f:Addr):Prop where
 at_:PySem.W.findIn K (.ref C) m=some (some<|.ref f)
 fn:PySem.W.isFn K (.ref f)=true
 kp:PySem.W.keepIn K (.ref f)=true
section
variable{X:Cx}{AE:List (Addr×Obj)}{σ:St}{H:Hp}{s:Shared}{a C dx:Addr}{fs:List (Str×V)}{f:Str}{v:V}{A:Around}{E:Value->Shared->Prop}
end
section
variable{X:Cx}{o e value:Expr}{f:Str}{pos pos' Ji:Pos}{ta tv:TE}
end
section
variable{X:Cx}{AE:List (Addr×Obj)}{σ:St}{H:Hp}{s:Shared}{A:Around}{E:Value->Shared->Prop}{Q:Value->Shared->Prop}{c:Value}{b:Bool}
inductive Ea(K:PySem.W.Frag)(H:Hp):V->Value->Prop where
 |A8:Ea K H .A8<|.type "NoneType"
 |bl (x:Bool):Ea K H (.bl x)<|.type "bool"
 |int (i:Int):Ea K H (.int i)<|.type "int"
 |str (x:Str):Ea K H (.str x)<|.type "str"
 |J6 (x:UInt64):Ea K H (.J6 x)<|.type "float"
 |lst {a:Addr} {xs:List V} (e:H a=some (.lst xs)):Ea K H (.ref a)<|.type "list"
 |D1 {a:Addr} {o:Obj} {xs:List V} (e:H a=some (.D1 o<|.lst xs)):Ea K H (.ref a)<|.type "list"
 |tup {a:Addr} {xs:List V} (e:H a=some (.tup xs)):Ea K H (.ref a)<|.type "tuple"
 |dK {a:Addr} {AJ:List (Key×V)} (e:H a=some (.dK AJ)):Ea K H (.ref a)<|.type "dict"
 |dT {a:Addr} {AJ:List (List Key×V)} (e:H a=some (.dT AJ)):Ea K H (.ref a)<|.type "dict"
 |ins {a C dx:Addr} {fs:List (Str×V)} (e:H a=some (.ins C dx fs)) (cl:Pa K C) (ha:PySem.W.findIn K (.ref C) "__class__" = some (some<|.builtin "object.__class__")) (hn:PySem.W.specialIn K (.builtin "object.__class__") "__get__" = some (some<|.builtin "getset_descriptor.__get__")) (W7:PySem.W.takesIn K (.builtin "object.__class__")=some true) (hm:PySem.W.mroIn K C (.type "object")=some true):Ea K H (.ref a)<|.ref C
theorem j5{x:V}{u t:Value}(I:Inv X AE σ H s)(rx:RelV x u)(ty:Ea X.K H x t)(e:PySem.W.kitOne X.K t c=some b)(h:∀tk,Q (.bool b) {s with toks:=tk}) : wpAny (model X.prog X.w) A (call (.builtin "isinstance") [u,c]) Q E s:=by
 cases ty with
 |A8=>cases (show u=Value.none from rx);exact AAI PySem.W.kitx_none I.BB True.intro e (λz=>nomatch z) h
 |bl y=>cases (show u=Value.bool y from rx);exact AAI PySem.W.kitx_bool I.BB True.intro e (λz=>nomatch z) h
 |int i=>obtain⟨t,q⟩:=(show ∃t,u=Value.int i t from rx);cases q;exact AAI PySem.W.kitx_int I.BB True.intro e (λz=>nomatch z) h
 |str y=>obtain⟨t,q⟩:=(show ∃t,u=Value.str y t from rx);cases q;exact AAI PySem.W.kitx_str I.BB True.intro e (λz=>nomatch z) h
 |J6 y=>obtain⟨t,q⟩:=(show ∃t,u=Value.float y t from rx);cases q;exact AAI PySem.W.kitx_float I.BB True.intro e (λz=>nomatch z) h
 |@lst a xs ea=>
  cases (show u=Value.ref a from rx);obtain⟨_,_,n,_,h1⟩:=(show By X.prog X.w H s.heap a (.lst xs)from I.Ah a _ ea);exact AAI PySem.W.kitx_list I.BB ⟨_,h1,rfl⟩ e (λz=>nomatch z) h
 |@D1 a ob xs ea=>
  cases (show u=Value.ref a from rx);obtain⟨_,_,_,n,_,h1⟩:=(show By X.prog X.w H s.heap a (.D1 ob<|.lst xs)from I.Ah a _ ea);exact AAI PySem.W.kitx_list I.BB ⟨_,h1,rfl⟩ e (λz=>nomatch z) h
 |@tup a xs ea=>
  cases (show u=Value.ref a from rx);obtain⟨_,_,_,p⟩:=(show By X.prog X.w H s.heap a (.tup xs)from I.Ah a _ ea);obtain⟨o,h1,h2,_⟩:=p;exact AAI PySem.W.kitx_tuple I.BB ⟨o,h1,h2⟩ e (λz=>nomatch z) h
 |@dK a AJ ea=>
  cases (show u=Value.ref a from rx);obtain⟨_,_,vs,_,p⟩:=(show By X.prog X.w H s.heap a (.dK AJ)from I.Ah a _ ea);obtain⟨o,es,ep,h1,h2,_⟩:=p;exact AAI PySem.W.kitx_dict I.BB ⟨o,h1,h2.1⟩ e (λz=>nomatch z) h
 |@dT a AJ ea=>
  cases (show u=Value.ref a from rx);obtain⟨_,_,xs,_,o,es,ep,h1,h2,_⟩:=(show By X.prog X.w H s.heap a (.dT AJ)from I.Ah a _ ea);exact AAI PySem.W.kitx_dict I.BB ⟨o,h1,h2.1⟩ e (λz=>nomatch z) h
 |@ins a C dx fs ea cl ha hn W7 hm=>
  cases (show u=Value.ref a from rx);obtain⟨mA,O,_⟩:=jz I.Ah ea;obtain⟨od,J,_⟩:=O.look;exact AAI (PySem.W.kitx_own (cl.get _) cl.hd ha hn W7 hm) I.BB J e (λz=>nomatch z) h
end
structure CV(k:Nat)(A:Around):Prop where
 hd:A.handled=none
 dp:A.depth+3*k+5<recursionLimit
 un:A.units+16*k+200<cLine
theorem CV.mono{j k:Nat}{A:Around}(r:CV k A)(h:j<=k):CV j A:=⟨r.hd,by have:=r.dp;omega,by have:=r.un;omega⟩
theorem CV.deeper{k:Nat}{A:Around}(r:CV (k+1) A)(env:Env):CV k<|A.deeper env:=
 ⟨r.hd,by have:=r.dp;show A.depth+1+3*k+5<_;omega,by have:=r.un;show A.units+3+16*k+200<_;omega⟩
theorem CV.depth{k:Nat}{A:Around}(r:CV k A):A.depth<recursionLimit:=by have:=r.dp;omega
theorem CV.units{k:Nat}{A:Around}(r:CV k A):A.units+64<cLine:=by have:=r.un;omega
def tN:TA:=λ_ H Q=>Q [] H
def si(ta:TE)(tr:TA):TA:=λσ H Q=>ta σ H λx H1=>tr σ H1 λxs H2=>Q (x::xs) H2
section
variable{X:Cx}{e:Expr}{es:List Expr}{te:TE}{t:TA}{pos:Pos}
theorem MT:PA X [] tN:=λ_ _ _ _ H Q I h=>Calls.spliced_nil ⟨[],H,I,.nil,h⟩
theorem Kc(ha:PE X e te)(hr:PA X es t)(hs:starEach (e::es) X.env=(false,eval e X.env)::starEach es X.env:=by rfl):PA X (e::es)<|si te t:=by intro pos AE s σ H Q I h;rw[hs];show wpAny _ _ (spliced ((false,eval e X.env)::backTo pos (starEach es X.env))) _ _ s;refine Calls.spliced_cons<|Ad (ha AE s σ H _ I h) λu s1 ⟨x,H1,I1,r1,q1⟩=>?_;exact Ad (hr pos AE s1 σ H1 _ I1 q1) (by rintro us s2 ⟨xs,H2,I2,r2,q2⟩;exact⟨x::xs,H2,I2,.cons r1 r2,q2⟩)
def t6(t:TA):TE:=λσ H Q=>t σ H λxs H1=>xs.length<=sizeLine/\∀p,H1 p=none->Q (.ref p) (upd H1 p<|.tup xs)
def tI(t:TA):TE:=λσ H Q=>t σ H λxs H1=>xs.length<=sizeLine/\∀p,H1 p=none->Q (.ref p) (upd H1 p<|.lst xs)
theorem Sk{x1}(h:PA X es t):PE X (.Tuple es x1 pos)<|t6 t:=by intro AE s σ H Q I hq;refine wpAny_Tuple_spliced (Ad (h pos AE s σ H _ I hq) λus s1 ⟨xs,H1,I1,r,z,q⟩=>⟨by rw[<-r.length];exact z,?_⟩);have hf:=I1.Ah.fresh<|yf _;refine⟨.ref s1.heap.objs.size,upd H1 s1.heap.objs.size<|.tup xs,I1.laid (λb u e=>Heap.get?_push_of_some _ e) (yf _) ?_,rfl,q _ hf⟩;exact⟨z,us,r,⟨_,Heap.get?_push_size _ rfl,rfl,_,rfl⟩⟩
theorem nP(h:PA X es t):PE X (.List es pos)<|tI t:=by intro AE s σ H Q I hq;refine wpAny_List_spliced (Ad (h pos AE s σ H _ I hq) λus s1 ⟨xs,H1,I1,r,z,q⟩=>⟨by rw[<-r.length];exact z,?_⟩);have hf:=I1.Ah.fresh<|yf _;refine⟨.ref s1.heap.objs.size,upd H1 s1.heap.objs.size<|.lst xs,I1.laid (λb u e=>Heap.get?_push_of_some _ e) (yf _) ?_,rfl,q _ hf⟩;exact⟨z,us,0,r,Heap.get?_push_size _ rfl⟩
end
abbrev Sp:=List V->Hp->VK->XK->Prop
abbrev EW:=List Env->Hp->Shared->XK->Value->Shared->Prop
structure Ky(P:Program)(w:World)(K:PySem.W.Frag)(mg:Str->Option Value)(base:Heap)(A:Around)(outer:List Env)(s:Shared)(H:Hp):Prop where
 frames:A.frames=some outer
 mod:Mod K mg base
 bs:∀b o,base.get? b=some o->s.heap.get? b=some o/\H b=none
 HV:base.objs.size<=s.heap.objs.size
 FT:s.heap.FunFrames base outer
 J7:∀b∈EG outer,H b=none
 Ah:Bl P w H s.heap
 bare:AllBare s.gens
def CE(outer:List Env)(P:Program)(w:World)(H:Hp)(s:Shared)(Q:VK)(u:Value)(s':Shared):Prop:=
 ∃v H',s'.os=s.os/\AllBare s'.gens/\Un (EG outer) [] H H' s.heap s'.heap/\Bl P w H' s'.heap/\RelV v u/\Q v H'
def CR(CX:EW)(outer:List Env)(P:Program)(w:World)(H:Hp)(s:Shared)(Q:VK)(E:XK)(r:Result)(s':Shared):Prop:=
 match r with
 |.ok (.ret u)=>CE outer P w H s Q u s'
 |.ok _=>False
 |.error e=>CX outer H s E e s'
structure C9(P:Program)(w:World)(K:PySem.W.Frag)(mg:Str->Option Value)(base:Heap)(CX:EW)(k:Nat)(f:Addr)(fd:FuncData)(ps:List Str)(sp:Sp):Prop where
 len:∀vs H Q E,sp vs H Q E->vs.length=ps.length
 run:∀(A:Around)(outer:List Env)(s:Shared)(H:Hp)(args:Args)(us:List Value)(vs:List V)(Q:VK)(E:XK),CV k A->Ky P w K mg base A outer s H->BindsTo s fd args (ps.zip us)->Ap vs us->sp vs H Q E->codeAny (model P w) A (.call (.ref f) args) (CR CX outer P w H s Q E) s
theorem C9.mono{P:Program}{w:World}{K:PySem.W.Frag}{mg:Str->Option Value}{base:Heap}{CX:EW}{j k:Nat}{f:Addr}{fd:FuncData}{ps:List Str}{sp:Sp}(F:C9 P w K mg base CX j f fd ps sp)(h:j<=k) : C9 P w K mg base CX k f fd ps sp:=⟨F.len,λA outer s H args us vs Q E hr=>F.run A outer s H args us vs Q E<|hr.mono h⟩
theorem C9.imp{P:Program}{w:World}{K:PySem.W.Frag}{mg:Str->Option Value}{base:Heap}{CX:EW}{k:Nat}{f:Addr}{fd:FuncData}{ps:List Str}{sp ZD:Sp}(F:C9 P w K mg base CX k f fd ps sp) (h:∀vs H Q E,ZD vs H Q E->sp vs H Q E):C9 P w K mg base CX k f fd ps ZD:=
 ⟨λvs H Q E q=>F.len vs H Q E<|h _ _ _ _ q,λA outer s H args us vs Q E hr he hb hv hs=>F.run A outer s H args us vs Q E hr he hb hv<|h _ _ _ _ hs⟩
section
variable{X:Cx}{AE:List (Addr×Obj)}{σ:St}{H:Hp}{s s':Shared}
theorem Inv.fg(I:Inv X AE σ H s):Ky X.prog X.w X.K X.mg X.base X.A X.stack s H:=
 ⟨I.ok.frames,I.ok.mod,I.bs,zT I.ok.HV I.sz,I.stack,I.ZH,I.Ah,I.bare⟩
theorem Inv.after{Q:VK}{u:Value}(I:Inv X AE σ H s)(h:CE X.stack X.prog X.w H s Q u s'):EP X AE σ Q u s':=by obtain⟨v,H',os,bare,un,Ah,r,q⟩:=h;obtain⟨hh,g,d,t,mm⟩:=s';obtain rfl:mm=s.os:=os;exact⟨v,H',I.call un Ah bare λb z=>absurd z yI,r,q⟩
end
def sf(sp:Sp)(IZ:List V)(E:XK)(t:TA):TE:=λσ H Q=>t σ H λvs H1=>sp (vs++IZ) H1 Q E
def Binds(K:PySem.W.Frag)(fd:FuncData)(ps:List Str)(ds:List Value):Prop:=
 ∀(s:Shared)(us:List Value),K.In s.heap->(us++ds).length=ps.length->BindsTo s fd ⟨us,[]⟩ (ps.zip<|us++ds)
theorem Binds.all{K:PySem.W.Frag}{fd:FuncData}{ps:List Str}(h:∀us:List Value,us.length=ps.length->bindArgs fd ⟨us,[]⟩=pure (ps.zip us)):Binds K fd ps []:=λs us _ hl=>by rw[AAU]at hl ⊢;exact .of_eq<|h us hl
def Passes(CX:EW)(X:Cx)(E:XK):Prop:=∀(AE:List<|Addr×Obj)(σ:St)(H:Hp)(s:Shared)(e:Value)(s':Shared),Inv X AE σ H s->CX X.stack H s E e s'->X.xe e s'
section
variable{X:Cx}{CX:EW}{k:Nat}{f C:Addr}{fd:FuncData}{ps:List Str}{sp:Sp}{IZ:List V}{ds:List Value}{E:XK}{x m:Str}{p pos apos:Pos}{e o:Expr}{es:List Expr}{ta:TE}{t:TA}
theorem rG{AE:List (Addr×Obj)}{σ:St}{H:Hp}{s:Shared}{Q:VK}{us:List Value}{vs:List V}(F:C9 X.prog X.w X.K X.mg X.base CX k f fd ps sp)(hr:CV k X.A)(hb:Binds X.K fd ps ds)(hd:Ap IZ ds)(hx:Passes CX X E) (I:Inv X AE σ H s) (r:Ap vs us) (h:sp (vs++IZ) H Q E):wpAny (model X.prog X.w) X.A (call (.ref f) us) (EP X AE σ Q) X.xe s:=by
 have r2:=r.append hd;have hl:(us++ds).length=ps.length:=by rw[<-r2.length];exact F.len _ _ _ _ h
 refine wpAny_call<|codeAny_mono (F.run X.A X.stack s H ⟨us,[]⟩ (us++ds) (vs++IZ) Q E hr I.fg (hb s us I.BB hl) r2 h) λr s' hq=>?_;cases r with
 |error e=>exact hx AE σ H s e s' I hq
 |ok fl=>
  cases fl with
  |ret u=>exact I.after hq
  |next=>exact False.elim hq
  |brk=>exact False.elim hq
  |cont=>exact False.elim hq
theorem YW(F:C9 X.prog X.w X.K X.mg X.base CX k f fd ps sp)(hr:CV k X.A)(hg:Gl X x)(hm:X.mg x=some (.ref f))(hk:PySem.W.keepIn X.K (.ref f)=true)(hb:Binds X.K fd ps ds)(hd:Ap IZ ds)(hx:Passes CX X E) (ha:PA X (e::es) t) (Ee:(x==("__debug__"))=false:=by decide) (he:starEach (e::es) X.env=(false,eval e X.env)::starEach es X.env:=by rfl) (BY:(backTo pos<|starEach es X.env).any (·.1)=false:=by rfl) : PE X (.Call (.Name x p) (e::es) [] pos)<|sf sp IZ E t:=by intro AE s σ H Q I h;refine wpAny_Call_Name_kw<|XY I hg hm ?_ Ee;refine PySem.W.callWith_K I.ok.mod.Rx hk (Ad (ha pos AE s σ H _ I h) λus s1 ⟨vs,H1,I1,r,q⟩=>⟨I1.BB,?_⟩) he BY;exact rG F hr hb hd hx I1 r q
structure Mk(K:PySem.W.Frag)(C f:Addr):Prop where
 makes:PySem.W.makesIn K C=true
 init:PySem.W.findIn K (.ref C) "__init__" = some (some<|.ref f)
 fn:PySem.W.isFn K (.ref f)=true
 kp:PySem.W.keepIn K (.ref C)=true
end
section
variable{X:Cx}{CX:EW}{k:Nat}{f C:Addr}{fd:FuncData}{ps ks:List Str}{sp:Sp}{E:XK}{x m:Str}{p pos apos xi:Pos}{e o:Expr}{es:List Expr}{xj:List Keyword}{te ta:TE}{t tk:TA}{nm:Option Str}
structure vZ(K:PySem.W.Frag)(fd:FuncData)(ps ks:List Str)(g:List Value->List Value->List Value)(gV:List V->List V->List V):Prop where
 to:∀(s:Shared)(us ws:List Value),K.In s.heap->(g us ws).length=ps.length->BindsTo s fd ⟨us,ks.zip ws⟩ (ps.zip<|g us ws)
 rel:∀{vs:List V}{us:List Value}{zs:List V}{ws:List Value},Ap vs us->Ap zs ws->Ap (gV vs zs) (g us ws)
variable{g:List Value->List Value->List Value}{gV:List V->List V->List V}
end
structure K4(N P:List Str)(sc:Scope):Prop where
 kind:sc.kind=.function
 co:sc.isCoroutine=false
 gen:sc.isGenerator=false
 nd:N.Nodup
 pre:N.take P.length=P
 par:∀x∈P,sc.names.lookup x=some .local\/sc.names.lookup x=some .cell
 lX:∀y∈sc.names,y.2≠.free
theorem UW{kindOf:Str->Option NameKind}{x:Str}:∀{binds:List (Str×Value)}{m:Str->Option Value},(∀v,(x,v)∉binds)->bindL kindOf binds m x=m x
 |[],_,_=>rfl
 |(n,v)::r,m,h=>by
  unfold bindL;rw[UW λw hw=>h w<|yj _ hw];split
  .have:x≠n:=by rintro rfl;exact h v yq
   simp[this]
  .rfl
theorem UT{kindOf:Str->Option NameKind}{x:Str}:∀{binds:List (Str×Value)}{m:Str->Option Value},(∀v,(x,v)∉binds)->bindC kindOf binds m x=m x
 |[],_,_=>rfl
 |(n,v)::r,m,h=>by
  unfold bindC;rw[UT λw hw=>h w<|yj _ hw];split
  .rfl
  .have:x≠n:=by rintro rfl;exact h v yq
   simp[this]
theorem UU{kindOf:Str->Option NameKind}{x:Str}{v:Value}:∀{P:List Str}{vs:List Value}{i:Nat}{m:Str->Option Value},P.Nodup->P[i]? = some x->vs[i]? = some v->kindOf x=some .local->bindL kindOf (P.zip vs) m x=some v
 |[],_,_,_,_,h,_,_=>by simp at h
 |_::_,[],_,_,_,_,h,_=>by simp at h
 |p::P,w::vs,0,m,nd,h1,h2,hk=>by simp at h1 h2;subst h1;subst h2;show bindL kindOf ((p,w)::P.zip vs) m p=_;unfold bindL;rw[UW λv hv=>(AAV.mp nd).1 (ACK hv).1,yO hk];simp
 |p::P,w::vs,i+1,m,nd,h1,h2,hk=>by show bindL kindOf ((p,w)::P.zip vs) m x=_;exact UU (AAV.mp nd).2 (by simpa using h1) (by simpa using h2) hk
theorem US{kindOf:Str->Option NameKind}{x:Str}{v:Value}:∀{P:List Str}{vs:List Value}{i:Nat}{m:Str->Option Value},P.Nodup->P[i]? = some x->vs[i]? = some v->kindOf x≠some .local->bindC kindOf (P.zip vs) m x=some v
 |[],_,_,_,_,h,_,_=>by simp at h
 |_::_,[],_,_,_,_,h,_=>by simp at h
 |p::P,w::vs,0,m,nd,h1,h2,hk=>by simp at h1 h2;subst h1;subst h2;show bindC kindOf ((p,w)::P.zip vs) m p=_;unfold bindC;rw[UT λv hv=>(AAV.mp nd).1 (ACK hv).1,yN hk];simp
 |p::P,w::vs,i+1,m,nd,h1,h2,hk=>by show bindC kindOf ((p,w)::P.zip vs) m x=_;exact US (AAV.mp nd).2 (by simpa using h1) (by simpa using h2) hk
noncomputable def start(N:List Str)(vs:List V):St:=vs.map some++List.replicate (N.length-vs.length) none
noncomputable def Gj(CX:EW)(P:Program)(w:World)(K:PySem.W.Frag)(mg:Str->Option Value)(base:Heap)(N:List Str)(qual:Str)(scope:Scope)(f:Addr)(cd:Value)(A:Around)(outer:List Env)(s:Shared)(H:Hp)(E:XK):Cx where
 prog:=P
 w:=w
 K:=K
 mg:=mg
 base:=base
 A:=A.deeper<|envOfC qual scope s.heap.objs.size f cd
 N:=N
 Cb:=s
 Ac:=H
 env:=envOfC qual scope s.heap.objs.size f cd
 outer:=outer
 stack:=envOfC qual scope s.heap.objs.size f cd::outer
 ex:=[]
 calm:=true
 fn:=λ_=>true
 pn:=[]
 xe:=λe s'=>wpAny (model P w) (A.deeper<|envOfC qual scope s.heap.objs.size f cd) (leaving (envOfC qual scope s.heap.objs.size f cd) e) (λ_ Oy=>CX outer H s E e Oy) (λe' Oy=>CX outer H s E e' Oy) s'
theorem NG{sc:Scope}{n:Nat}{x:Str}(h:sc.names.lookup x=some .cell):∃c,(cellsFrom n sc.names []).lookup x=some c:=by have q:=ACQ sc.names n []<|.inl h;exact Option.isSome_iff_exists.mp q
theorem j4{CX:EW}{P:Program}{w:World}{K:PySem.W.Frag}{mg:Str->Option Value}{base:Heap}{N ps:List Str}{qual:Str}{scope:Scope}{f:Addr}{cd:Value}{A:Around}{outer:List Env}{s s1:Shared}{H:Hp}{E:XK}{us:List Value}{vs:List V} (S:K4 N ps scope) (hd:A.handled=none) (e0:Ky P w K mg base A outer s H) (hl:vs.length=ps.length) (r:Ap vs us) (x:InCallC s s.heap.objs.size (bindL (envOfC qual scope s.heap.objs.size f cd).kindOf (ps.zip us) λ_=>none) (cellsFrom (s.heap.objs.size+1) scope.names []) (bindC (envOfC qual scope s.heap.objs.size f cd).kindOf (ps.zip us) λ_=>none) s1) :
 Inv (Gj CX P w K mg base N qual scope f cd A outer s H E) [] (start N vs) H s1:=by
 have BY:ps.length<=N.length:=by have:=AAB List.length S.pre;rw[AAY]at this;omega
 obtain⟨h1,tk,rfl,hk⟩:=x.done;have MP:∀b:Addr,b∉(Gj CX P w K mg base N qual scope f cd A outer s H E).ex:=λb z=>absurd (show b∈([])from z) yI;refine⟨⟨e0.mod,S.kind,rfl,rfl,yf _,λy z c h1 h2=>?_,λy hy=>?_,λy c _ h=>?_,λ_=>hd,Around.frames_deeper e0.frames,.inr ⟨rfl,rfl⟩,λb z=>absurd z (MP b),e0.bs,e0.HV,λb _ _=>MP b,λb z=>absurd z (MP b),e0.FT,e0.J7⟩,
  rfl,e0.bare,Un.kept hk,⟨_,x.toInCall.ns,λi y v h1 h2 h3=>?_⟩,λy c h=>⟨_,x.cell y c h⟩,e0.Ah.fresh<|yf _,λy c h=>?_,λp hp=>absurd (show p∈([])from hp) yI,e0.Ah.kept hk,?_⟩
 .exact name_of_addr x.apart (zh h1)<|zh h2
 .rcases hy with hy|hy
  .exact NG hy
  .exact absurd rfl (S.lX _<|zh hy)
 .exact AAj<|x.above y c<|zh h
 .have hi:i<vs.length:=by
   unfold start at h2;by_cases hi:i<vs.length
   .exact hi
   .rw[zJ<|by simpa using hi]at h2;rw[AAg]at h2;split at h2<;>cases h2
  have ha:vs[i]? = some v:=by
   unfold start at h2;rw[zH (by simpa using hi),zj]at h2;cases e:vs[i]? with
   |none=>rw[e]at h2;cases h2
   |some a=>rw[e]at h2;cases h2;rfl
  obtain⟨u,hu,rv⟩:=r.get ha;have hp:ps[i]? = some y:=by rw[<-S.pre,ACB yH];exact h1
  have Xw:ps.Nodup:=by rw[<-S.pre];exact S.nd.sublist<|AB5 _ _
  refine⟨u,rv,?_⟩;rcases S.par y (zl hp)with k|k
  .exact .inl ⟨k,UU Xw hp hu k⟩
  .obtain⟨c,e⟩:=NG k;refine .inr ⟨.inl k,c,e,?_⟩;have q:=x.cell y c e;rw[US Xw hp hu (by show scope.names.lookup y≠_;rw[k];decide)]at q;exact q
 .exact e0.Ah.fresh<|AAj<|x.above y c<|zh h
 .unfold start;show _=N.length;rw[yx,yP,AAa];omega
theorem gS{CX:EW}{P:Program}{w:World}{K:PySem.W.Frag}{mg:Str->Option Value}{base:Heap}{k:Nat}{f:Addr}{name qual:Str}{params:Arguments}{body:List Stmt}{scope:Scope}{dV kV doc pm BE ct oc:Value}{an od:Option Addr} {HC:Array (Option Value)} {N ps:List Str} {sp:Sp} (lk:K.lookup f=some ⟨oc,od,.func<|PySem.W.fnOf name qual params body scope dV kV doc pm an BE ct,HC⟩) (BK:PySem.W.codeIn K BE qual=true) (S:K4 N ps scope) (len:∀vs H Q E,sp vs H Q E->vs.length=ps.length) (Lk:∀(A:Around)(outer:List Env)(s:Shared)(H:Hp)(vs:List V)(Q:VK)(E:XK),CV k (A.deeper<|envOfC qual scope s.heap.objs.size f BE)->sp vs H Q E->
  ∃t,DA (Gj CX P w K mg base N qual scope f BE A outer s H E) body t/\t {nx:=λ_ H'=>Q .A8 H',rt:=Q} (start N vs) H) :
 C9 P w K mg base CX (k+1) f (PySem.W.fnOf name qual params body scope dV kV doc pm an BE ct) ps sp:=by
 refine⟨len,λA outer s H args us vs Q E hr e0 hb r E1=>?_⟩;have hl:=len _ _ _ _ E1;have KX:=e0.mod.Rx.keeps λb o e=>(e0.bs b o e).1;have lim:=e0.mod.nolimit.keeps λb o e=>(e0.bs b o e).1;have jB:∀y∈ps.zip us,scope.names.lookup y.1=some .local\/(scope.names.lookup y.1=some .cell/\((cellsFrom (s.heap.objs.size+1) scope.names []).lookup y.1).isSome=true):=(by
  rintro⟨n,v⟩ hy;rcases S.par n (ACK hy).1 with q|q
  .exact .inl q
  .exact .inr ⟨q,ACQ _ _ _<|.inl q⟩)
 refine codeAny_call_function hr.depth (KX _ _ lk) rfl S.co S.gen rfl (PySem.W.codeRec_of KX BK)<|hb _ _ _ _ ?_;refine wpAny_newFunctionEnv_cells S.kind jB λenv he s1 x=>?_;subst he;refine⟨lim.keeps x.toInCall.keep,codeAny_func ?_⟩;obtain⟨t,ht,hq⟩:=Lk A outer s H vs Q E (hr.deeper _) E1;have I:Inv (Gj CX P w K mg base N qual scope f BE A outer s H E) [] (start N vs) H s1:=j4 S hr.hd e0 hl r x;refine wpAny_mono (ht [] s1 (start N vs) H _ I hq) (λfl s' hs=>?_) λe s' hs=>hs;have fin:∀{Ag:St}{H':Hp}{v:V}{u:Value},Inv (Gj CX P w K mg base N qual scope f BE A outer s H E) [] Ag H' s'->RelV v u->Q v H'->CE outer P w H s Q u s':=
  λ{Ag H' v u} J rv q=>⟨v,H',J.os,J.bare,J.base,J.Ah,rv,q⟩
 cases fl with
 |ret u=>
  obtain⟨v,Ag,H',J,rv,q⟩:=hs;exact fin J rv q
 |next=>
  obtain⟨Ag,H',J,q⟩:=hs;exact fin (v:=V.A8) J rfl q
 |brk=>
  obtain⟨_,_,_,q⟩:=hs;exact False.elim q
 |cont=>
  obtain⟨_,_,_,q⟩:=hs;exact False.elim q
section
variable{X:Cx}{x:Str}{p pos:Pos}{e:Expr}{es:List Expr}{t:TA}{id T:String}{r:List V->Hp->VK->Prop}
def TY(r:List V->Hp->VK->Prop)(t:TA):TE:=λσ H Q=>t σ H λvs H1=>r vs H1 Q
theorem Oh(hc:C8 X (.builtin id) r)(hg:Gl X x)(hm:X.mg x=none)(hv:bootBuiltins x=some (.builtin id))(ha:PA X (e::es) t)(hn:x≠"__name__":=by decide)(Ee:(x==("__debug__"))=false:=by decide) (he:starEach (e::es) X.env=(false,eval e X.env)::starEach es X.env:=by rfl) (BY:(backTo pos<|starEach es X.env).any (·.1)=false:=by rfl):PE X (.Call (.Name x p) (e::es) [] pos)<|TY r t:=by intro AE s σ H Q I h;refine wpAny_Call_Name_kw<|MH I hg hm hv ?_ hn Ee;exact PyProof.Rows.callWith_builtin1 (Ad (ha pos AE s σ H _ I h) (by rintro us s1 ⟨vs,H1,I1,r1,q1⟩;exact hc AE s1 σ H1 vs us Q I1 r1 q1)) he BY
theorem YX(hc:C8 X (.type T) r)(hg:Gl X x)(hm:X.mg x=none)(hv:bootBuiltins x=some (.type T))(ha:PA X (e::es) t)(hn:x≠"__name__":=by decide)(Ee:(x==("__debug__"))=false:=by decide) (he:starEach (e::es) X.env=(false,eval e X.env)::starEach es X.env:=by rfl) (BY:(backTo pos<|starEach es X.env).any (·.1)=false:=by rfl):PE X (.Call (.Name x p) (e::es) [] pos)<|TY r t:=by intro AE s σ H Q I h;refine wpAny_Call_Name_kw<|MH I hg hm hv ?_ hn Ee;exact ABF (Ad (ha pos AE s σ H _ I h) (by rintro us s1 ⟨vs,H1,I1,r1,q1⟩;exact hc AE s1 σ H1 vs us Q I1 r1 q1)) he BY
end
end L2
namespace HT
open PySem PyProof.Rows
section
open PySem.SeqAt
open PySem.AutoSeq1 (wpAny_loadPart')
open PySem.MeetsSeq PySem.MeetsSeq2 PySem.MeetsSeq3
end
section
variable{prog:Program}{w:World}{A:Around}{E:Value->Shared->Prop}{s:Shared}
noncomputable def C6(n d:Nat):Option Int->Nat
 |none=>d
 |some v=>if v<0 then(v+(n:Int)).toNat else min v.toNat n
theorem Y7(n d:Nat):C6 n d none=d:=rfl
theorem Y6(n d k:Nat):C6 n d (some<|k)=min k n:=by show(if(k:Int)<0 then((k:Int)+(n)).toNat else min (k:Int).toNat n)=min k n;rw[yN yH,ABb]
end
end HT
set_option tactic.hygienic false
namespace L2
open PySem PySem.Spec PyProof.Rows
abbrev TO:=St->Hp->(Option Int->Hp->Prop)->Prop
def PO(X:Cx)(e:Option Expr)(t:TO):Prop:=
 ∀(AE:List<|Addr×Obj)(s:Shared)(σ:St)(H:Hp)(Q:Option Int->Hp->Prop),Inv X AE σ H s->t σ H Q->wpAny (model X.prog X.w) X.A (evalPart e X.env) (λu s'=>∃o H',Inv X AE σ H' s'/\IsPart u o/\Q o H') X.xe s
def tO:TO:=λ_ H Q=>Q none H
def tW(t:TE):TO:=λσ H Q=>t σ H λx H1=>∃i,x=.int i/\Q (some i) H1
theorem intsAre_of{ns:List Int}:∀{us:List Value},Ap (ns.map V.int) us->IntsAre us ns:=by
 induction ns with
 |nil=>intro us r;cases r;exact .nil
 |cons n ns ih=>
  intro us r;cases r with
  |cons r1 r2=>
   obtain⟨t,e⟩:=r1;subst e;exact .cons n t<|ih r2
section
variable{X:Cx}{e:Expr}{te:TE}{lo hi:Option Expr}{tl th:TO}{pos p2:Pos}
theorem oE:PO X none tO:=by intro AE s σ H Q I h;exact wpAny_pure ⟨none,H,I,.none,h⟩
theorem oF(h:PE X e te):PO X (some e)<|tW te:=by intro AE s σ H Q I hw;refine Ad (h AE s σ H _ I hw) λu s1 ⟨x,H1,I1,r1,q1⟩=>?_;obtain⟨i,rfl,q⟩:=q1;obtain⟨t,rfl⟩:=r1;exact⟨some i,H1,I1,.int i t,q⟩
def UL(X:Cx)(r:V->Option Int->Option Int->Hp->VK->Prop):Prop:=
 ∀(AE:List<|Addr×Obj)(s:Shared)(σ:St)(H:Hp)(x:V)(v vl vu:Value)(lo hi:Option Int)(sl:Addr)(Q:VK),Inv X AE σ H s->RelV x v->s.heap.IsSliceOf sl vl vu .none->IsPart vl lo->IsPart vu hi->r x lo hi H Q->∃T id,typeLookup (.type T) "__getitem__" = pure (some<|.builtin id)/\s.TypeIs v T/\wpAny (model X.prog X.w) X.A (getItem v<|.ref sl) (EP X AE σ Q) X.xe s
def tw(r:V->Option Int->Option Int->Hp->VK->Prop)(te:TE)(tl th:TO):TE:=λσ H Q=>te σ H λx H1=>tl σ H1 λl H2=>th σ H2 λu H3=>r x l u H3 Q
theorem nV{r:V->Option Int->Option Int->Hp->VK->Prop}(hr:UL X r)(he:PE X e te)(hl:PO X lo tl)(hu:PO X hi th):PE X (.Subscript e (.Slice lo hi none p2) pos)<|tw r te tl th:=by intro AE s σ H Q I h;refine Subscript_<|Ad (he AE s σ H _ I h) λv s1 ⟨x,H1,I1,r1,q1⟩=>?_;refine wpAny_Slice<|Ad (hl AE s1 σ H1 _ I1 q1) λvl s2 ⟨l,H2,I2,pl,q2⟩=>Ad (hu AE s2 σ H2 _ I2 q2) λvu s3 ⟨u,H3,I3,pu,q3⟩=>?_;refine wpAny_pure ?_;have I4:Inv X AE σ H3 {s3 with heap:=s3.heap.push {cls:=.type "slice",data:=.fields #[vl,vu,.none]}}:=I3.kept λb ob q=>Heap.get?_push_of_some _ q;obtain⟨T,id,hT,ht,hg⟩:=hr AE {s3 with heap:=s3.heap.push {cls:=.type "slice",data:=.fields #[vl,vu,.none]}} σ H3 x v vl vu l u s3.heap.objs.size Q I4 r1 (Heap.IsSliceOf.new ..) pl pu q3;exact tail_any ht hT hg<|by with_unfolding_all rfl
def NI(xs:List V)(lo hi:Option Int):List V:=(xs.drop<|HT.C6 xs.length 0 lo).take<|HT.C6 xs.length xs.length hi-HT.C6 xs.length 0 lo
theorem dZ(xs:List V)(lo hi:Option Int):(NI xs lo hi).length<=xs.length:=by unfold NI;rw[AAY,ABG];omega
end
noncomputable def Di(n:Nat)(i:Int):Option Nat:=if 0<=i then(if i<n then some i.toNat else none)else if -(n:Int)<=i then some (i+n).toNat else none
def CC{α:Type}(xs:List α)(i:Int):Option α:=(Di xs.length i).bind λj=>xs[j]?
theorem XF{n:Nat}{i:Int}{j:Nat}(h:Di n i=some j):seqIndex? i n=some j/\j<n/\-(n)<=i/\i<n:=by
 unfold Di at h;by_cases h0:0<=i
 .rw[yO h0]at h;by_cases h1:i<n
  .rw[yO h1]at h;have e:=zD h;exact⟨by rw[seqIndex_of h0 h1,e],yH,yH,h1⟩
  .rw[yN h1]at h;cases h
 .rw[yN h0]at h;by_cases h1 : -(n)<=i
  .rw[yO h1]at h;have e:=zD h;exact⟨by rw[seqIndex_neg yH h1,e],yH,h1,yH⟩
  .rw[yN h1]at h;cases h
theorem UO{α:Type}{xs:List α}{i:Int}{v:α}(h:CC xs i=some v):∃j,seqIndex? i xs.length=some j/\xs[j]? = some v/\j<xs.length/\-(xs.length)<=i/\i<xs.length:=by
 unfold CC at h;cases e:Di xs.length i with
 |none=>rw[e]at h;cases h
 |some j=>
  rw[e]at h;obtain⟨h1,h2,h3,h4⟩:=XF e;exact⟨j,h1,h,h2,h3,h4⟩
def UH(b:Expr):Prop:=∀o i,subscripted b false o i=operate [o,i] (getItem o i)
def HQ(X:Cx)(r:R2):Prop:=
 ∀(value slice:Expr)(AE:List<|Addr×Obj)(s:Shared)(σ:St)(H:Hp)(x y:V)(v u:Value)(Q:VK),Inv X AE σ H s->RelV x v->RelV y u->r x y H Q->subscripted slice false v u=operate [v,u] (getItem v u)->wpAny (model X.prog X.w) X.A (subscriptTail value slice v u) (EP X AE σ Q) X.xe s
def UD(X:Cx)(id:String)(r:V->List V->Hp->VK->Prop):Prop:=
 ∀(AE:List<|Addr×Obj)(s:Shared)(σ:St)(H:Hp)(x:V)(xs:List V)(v:Value)(us:List Value)(Q:VK),Inv X AE σ H s->RelV x v->Ap xs us->r x xs H Q->wpAny (model X.prog X.w) X.A (call (.builtin id) (v::us)) (EP X AE σ Q) X.xe s
section
variable{X:Cx}{a b:Expr}{ta tb:TE}{pos:Pos}
theorem HQ.or{r r':R2}(h:HQ X r)(h':HQ X r'):HQ X (λx y H Q=>r x y H Q\/r' x y H Q):=by
 intro value slice AE s σ H x y v u Q I rx ry q hs;rcases q with q|q
 .exact h value slice AE s σ H x y v u Q I rx ry q hs
 .exact h' value slice AE s σ H x y v u Q I rx ry q hs
theorem nO{r:R2}(hr:HQ X r)(ha:PE X a ta)(hb:PE X b tb)(hs:UH b):PE X (.Subscript a b pos)<|Ml r ta tb:=by intro AE s σ H Q I h;exact Subscript_<|QO ha hb I h λv u s2 x y H2 I2 rx ry q=>hr a b AE s2 σ H2 x y v u Q I2 rx ry q<|hs _ _
def Yq(K:PySem.W.Frag):R2:=λx y H Q=>∃p xs i v,x=.ref p/\y=.int i/\B6 K H p xs/\CC xs i=some v/\Q v H
def Ys(K:PySem.W.Frag):R2:=λx y H Q=>∃p xs i v,x=.ref p/\y=.int i/\BL K H p xs/\CC xs i=some v/\Q v H
theorem kB:HQ X<|Yq X.K:=by
 intro value slice AE s σ H x y v u Q I rx ry h hs;obtain⟨p,xs,i,z,rfl,rfl,hq,he,q⟩:=h;cases rx;obtain⟨t,rfl⟩:=ry;obtain⟨its,r,pl,hz⟩:=I.list hq;obtain⟨j,h1,h2,h3,h4,h5⟩:=UO he;obtain⟨w,ew,Cq⟩:=r.get h2;have hl:=r.length;have hn:=OP;have fin:EP X AE σ Q w s:=⟨z,H,I,Cq,q⟩;by_cases h0:0<=i
 .have hj:=by rw[seqIndex_of h0 h5]at h1;exact zD h1
  exact item_listR pl.isList h0 yH (by rw[hj];simpa using ew) fin hs
 .have hj:(i+(its.toArray.size)).toNat=j:=by rw[seqIndex_neg yH h4]at h1;rw[yh,<-hl];exact zD h1
  exact subscriptTail_builtinR pl.isList.typeIs slot_list_getitem.lookup (wpAny_getItem_list_neg pl.isList yH (by rw[yh]<;>omega) yH (by rw[hj];simpa using ew) ⟨rfl,fin⟩) hs
theorem kC:HQ X<|Ys X.K:=by intro value slice AE s σ H x y v u Q I rx ry h hs;obtain⟨p,xs,i,z,rfl,rfl,hq,he,q⟩:=h;cases rx;obtain⟨t,rfl⟩:=ry;obtain⟨its,r,pl,hz⟩:=I.tuple hq;obtain⟨j,h1,h2,h3,h4,h5⟩:=UO he;obtain⟨w,ew,Cq⟩:=r.get h2;have hl:=r.length;have hn:=OP;have fin:EP X AE σ Q w s:=⟨z,H,I,Cq,q⟩;exact subscriptTail_builtinR pl.typeIs slot_tuple_getitem.lookup (getItem_tuple pl yH yH (by rw[yh,<-hl];exact h1) (by simpa using ew) ⟨rfl,fin⟩) hs
theorem lC(its:List Value)(n j:Nat)(u:Value):Obj.mapSeq (·.setIfInBounds j u) {cls:=.type "list",data:=.seq its.toArray n}={cls:=.type "list",data:=.seq (its.set j u).toArray n}:=by simp[Obj.mapSeq]
theorem Inv.lst{AE:List (Addr×Obj)}{σ:St}{H:Hp}{s:Shared}{p:Addr}{xs:List V}(I:Inv X AE σ H s)(h:H p=some (.lst xs)) : ∃(its:List Value)(n:Nat),Ap xs its/\s.heap.get? p=some {cls:=.type "list",data:=.seq its.toArray n}/\xs.length<=sizeLine:=by obtain⟨z,its,n,r,e⟩:=I.Ah p _ h;exact⟨its,n,r,e,z⟩
theorem Inv.k9{AE:List (Addr×Obj)}{σ:St}{H:Hp}{s:Shared}{p:Addr}{xs ys:List V}{its Fb:List Value}{n n':Nat}{f:Obj->Obj}(I:Inv X AE σ H s)(h:H p=some (.lst xs)) (ho:s.heap.get? p=some {cls:=.type "list",data:=.seq its.toArray n}) (hf:f {cls:=.type "list",data:=.seq its.toArray n}={cls:=.type "list",data:=.seq Fb.toArray n'}) (r:Ap ys Fb) (hz:ys.length<=sizeLine) (t:Nat) : Inv X AE σ (upd H p<|.lst ys) {s with heap:=s.heap.update p f,toks:=t}:=by
 have e:(s.heap.update p f).get? p=some {cls:=.type "list",data:=.seq Fb.toArray n'}:=by rw[Heap.get?_update_self f ho (by rw[hf]<;>rfl),hf]
 refine I.write (by rw[h];trivial) (.inl rfl) (λb u hb q=>(Heap.get?_update_other _ _ (zo hb)).trans q) ⟨_,e⟩ ?_;exact⟨hz,Fb,n',r,e⟩
def qy:V->V->V->Hp->(Hp->Prop)->Prop:=λo i v H Q=>∃p xs k j,o=.ref p/\i=.int k/\H p=some (.lst xs)/\Di xs.length k=some j/\Q (upd H p<|.lst<|xs.set j v)
theorem set_list:UG X qy:=by
 intro AE s σ H o i v ov iv u Q I ro ri rv h;obtain⟨p,xs,k,j,rfl,rfl,hp,hj,q⟩:=h;cases ro;obtain⟨t,rfl⟩:=ri;obtain⟨its,n,r,ho,hz⟩:=I.lst hp;obtain⟨h1,h2,h3,h4⟩:=XF hj;have hl:=r.length;have hn:=OP;have I':=
  I.k9 hp ho (lC its n j u) (r.set rv j) (by rw[ACL];exact hz) s.toks
 by_cases h0:0<=k
 .have hk:=by rw[seqIndex_of h0 h4]at h1;exact zD h1
  exact PySem.W.ki_setAt ho h0 yH (by rw[yh,<-hl];exact h4) (by rw[hk];exact⟨_,I',q⟩)
 .have hk:(k+(its.toArray.size)).toNat=j:=by rw[seqIndex_neg yH h3]at h1;rw[yh,<-hl];exact zD h1
  exact PySem.W.ki_setBack ho yH (by rw[yh,<-hl];exact h3) yH (by rw[hk];exact⟨_,I',q⟩)
theorem sC(lo hi:Option Int)(n:Nat):(sliceBounds lo hi none n).1=((HT.C6 n 0 lo))/\(sliceBounds lo hi none n).2.1=((HT.C6 n n hi))/\(sliceBounds lo hi none n).2.2=1:=by
 refine⟨?_,?_,rfl⟩
 .cases lo with
  |none=>simp[sliceBounds,HT.C6]
  |some i=>
   simp only[sliceBounds,HT.C6,Option.getD_none,show(1:Int)>0 by decide,AAW];by_cases h:i<0
   .simp only[h,AAW]<;>omega
   .simp only[h,AA6]<;>omega
 .cases hi with
  |none=>simp[sliceBounds,HT.C6]
  |some i=>
   simp only[sliceBounds,HT.C6,Option.getD_none,show(1:Int)>0 by decide,AAW];by_cases h:i<0
   .simp only[h,AAW]<;>omega
   .simp only[h,AA6]<;>omega
theorem r9(its:List Value)(lo hi:Option Int):slicePick its.toArray lo hi none=((its.drop<|HT.C6 its.length 0 lo).take<|HT.C6 its.length its.length hi-HT.C6 its.length 0 lo).toArray:=by obtain⟨h1,h2,h3⟩:=sC lo hi its.toArray.size;unfold slicePick;rw[h1,h2,h3];simp only[sliceRange_one,pick_run]<;>rfl
def qz(K:PySem.W.Frag):V->Option Int->Option Int->Hp->VK->Prop:=λx lo hi H Q=>∃a xs,x=.ref a/\B6 K H a xs/\∀p,H p=none->Q (.ref p) (upd H p<|.lst<|NI xs lo hi)
theorem rh:UL X<|qz X.K:=by intro AE s σ H x v vl vu lo hi sl Q I rx hs pl pu h;obtain⟨a,xs,rfl,hx,q⟩:=h;cases rx;obtain⟨its,r,ht,hz⟩:=I.list hx;have Bn:=r.length;refine⟨"list",_,slot_list_getitem.lookup,ht.isList.typeIs,?_⟩;refine wpAny_getItem_list_slice ht.isList hs pl pu .none yI ?_ (by rw[yh]<;>omega);rw[r9,<-Bn];refine⟨.ref s.heap.objs.size,_,I.laid (λb ob q=>Heap.get?_push_of_some _ q) (yf _) ?_,rfl,q _<|I.Ah.fresh<|yf _⟩;exact⟨zT (dZ xs lo hi) hz,_,0,(r.drop<|HT.C6 xs.length 0 lo).take<|HT.C6 xs.length xs.length hi-HT.C6 xs.length 0 lo,Heap.get?_push_size _ rfl⟩
noncomputable def Hf:V->Bool
 |.A8=>true
 |.bl _=>true
 |.int _=>true
 |.str _=>true
 |_=>false
noncomputable def HZ:V->V->Bool
 |.A8,.A8=>true
 |.bl a,.bl b=>a==b
 |.bl a,.int b=>(if a then 1 else 0)==b
 |.int a,.bl b=>a==(if b then 1 else 0)
 |.int a,.int b=>a==b
 |.str a,.str b=>a==b
 |_,_=>false
theorem fh{A:Around}{s:Shared}{y x:V}{u v:Value}(ry:RelV y u)(rx:RelV x v)(fy:Hf y=true)(fx:Hf x=true):SeqAt.EqAt A s u v<|HZ y x:=by
 cases y with
 |A8=>
  cases ry;cases x with
  |A8=>cases rx;exact SeqAt.EqAt.same _
  |bl b=>cases rx;exact SeqAt.EqAt.none_bool b
  |int b=>obtain⟨t,rfl⟩:=rx;exact SeqAt.EqAt.none_int b t
  |str b=>obtain⟨t,rfl⟩:=rx;exact SeqAt.EqAt.none_str b t
  |_=>exact absurd (show false=true from fx) AAJ
 |bl a=>
  cases ry;cases x with
  |A8=>cases rx;exact SeqAt.EqAt.bool_none a
  |bl b=>cases rx;exact SeqAt.EqAt.bool_bool a b
  |int b=>obtain⟨t,rfl⟩:=rx;exact SeqAt.EqAt.bool_int a b t
  |str b=>obtain⟨t,rfl⟩:=rx;exact SeqAt.EqAt.bool_str a b t
  |_=>exact absurd (show false=true from fx) AAJ
 |int a=>
  obtain⟨t',rfl⟩:=ry;cases x with
  |A8=>cases rx;exact SeqAt.EqAt.int_none a t'
  |bl b=>cases rx;exact SeqAt.EqAt.int_bool a t' b
  |int b=>obtain⟨t,rfl⟩:=rx;exact SeqAt.EqAt.int_int a t' b t
  |str b=>obtain⟨t,rfl⟩:=rx;exact SeqAt.EqAt.int_str a t' b t
  |_=>exact absurd (show false=true from fx) AAJ
 |str a=>
  obtain⟨t',rfl⟩:=ry;cases x with
  |A8=>cases rx;exact SeqAt.EqAt.str_none a t'
  |bl b=>cases rx;exact SeqAt.EqAt.str_bool a t' b
  |int b=>obtain⟨t,rfl⟩:=rx;exact SeqAt.EqAt.str_int a t' b t
  |str b=>obtain⟨t,rfl⟩:=rx;exact SeqAt.EqAt.str_str a t' b t
  |_=>exact absurd (show false=true from fx) AAJ
 |_=>exact absurd (show false=true from fy) AAJ
def Dw(x:V)(u:Value):Bool:=match u with
 |.none=>HZ .A8 x
 |.bool b=>HZ (.bl b) x
 |.int i _=>HZ (.int i) x
 |.str z _=>HZ (.str z) x
 |_=>false
theorem Vo{x y:V}{u:Value}(r:RelV y u)(f:Hf y=true):Dw x u=HZ y x:=by
 cases y with
 |A8=>cases r;rfl
 |bl b=>cases r;rfl
 |int i=>obtain⟨t,rfl⟩:=r;rfl
 |str z=>obtain⟨t,rfl⟩:=r;rfl
 |_=>exact absurd (show false=true from f) AAJ
theorem LD{x:V}:∀{xs:List V}{us:List Value},Ap xs us->xs.all Hf=true->us.any (Dw x)=xs.any λy=>HZ y x
 |_,_,.nil,_=>rfl
 |y::xs,u::us,.cons r t,f=>by rw[List.all_cons,yR]at f;rw[zv,zv,Vo r f.1,LD t f.2]
theorem MK{A:Around}{s:Shared}{x:V}{v:Value}(rx:RelV x v)(fx:Hf x=true):∀{xs:List V}{us:List Value},Ap xs us->xs.all Hf=true->∀u∈us,SeqAt.EqAt A s u v (Dw x u)
 |_,_,.nil,_=>λu hu=>by cases hu
 |y::xs,u::us,.cons r t,f=>λu' hu=>by
  rw[List.all_cons,yR]at f;rcases yw.mp hu with rfl|hu
  .rw[Vo r f.1];exact fh r rx f.1 fx
  .exact MK rx fx t f.2 u' hu
def OD(x:V)(xs:List V):Bool:=xs.any λy=>HZ y x
def Sx(K:PySem.W.Frag)(neg:Bool):R2:=λx y H Q=>∃p xs,y=.ref p/\(B6 K H p xs\/BL K H p xs)/\Hf x=true/\xs.all Hf=true/\Q (.bl (if neg then !OD x xs else OD x xs)) H
theorem mJ:BW X (compareOp .In)<|Sx X.K false:=by
 intro AE s σ H x y v u Q I rx ry h;obtain⟨p,xs,rfl,hq,fx,fs,q⟩:=h;cases ry;rcases hq with hq|hq
 .obtain⟨its,r,pl,hz⟩:=I.list hq;refine SeqAt.in_listAt (Dw x) pl.isList (λw hw=>MK rx fx r fs w<|by simpa using hw) ⟨.bl _,H,I,rfl,?_⟩;rw[show its.toArray.any (Dw x)=its.any (Dw x)by simp,LD r fs];exact q
 .obtain⟨its,r,pl,hz⟩:=I.tuple hq;refine SeqAt.in_tupleAt (Dw x) pl (λw hw=>MK rx fx r fs w<|by simpa using hw) ⟨.bl _,H,I,rfl,?_⟩;rw[show its.toArray.any (Dw x)=its.any (Dw x)by simp,LD r fs];exact q
theorem mR:BW X (compareOp .NotIn)<|Sx X.K true:=by
 intro AE s σ H x y v u Q I rx ry h;obtain⟨p,xs,rfl,hq,fx,fs,q⟩:=h;cases ry;rcases hq with hq|hq
 .obtain⟨its,r,pl,hz⟩:=I.list hq;refine SeqAt.notIn_listAt (Dw x) pl.isList (λw hw=>MK rx fx r fs w<|by simpa using hw) ⟨.bl _,H,I,rfl,?_⟩;rw[show its.toArray.any (Dw x)=its.any (Dw x)by simp,LD r fs];exact q
 .obtain⟨its,r,pl,hz⟩:=I.tuple hq;refine SeqAt.notIn_tupleAt (Dw x) pl (λw hw=>MK rx fx r fs w<|by simpa using hw) ⟨.bl _,H,I,rfl,?_⟩;rw[show its.toArray.any (Dw x)=its.any (Dw x)by simp,LD r fs];exact q
theorem cZ:C8 X (.builtin "len") (λxs H Q=>∃p ys,xs=[.ref p]/\(B6 X.K H p ys\/BL X.K H p ys)/\Q (.int ys.length) H):=by
 intro AE s σ H xs us Q I r h;obtain⟨p,ys,rfl,hq,q⟩:=h;obtain⟨u,rfl,rx⟩:=vals1 r;cases rx;have hn:=OP;rcases hq with hq|hq
 .obtain⟨its,r',pl,hz⟩:=I.list hq;have Bn:=r'.length;exact Calls.call_len_list pl.isList (by simp only[yh]<;>omega) ⟨.int ys.length,H,I.tok _,⟨s.toks+1,by rw[yh,Bn]⟩,q⟩
 .obtain⟨its,r',pl,hz⟩:=I.tuple hq;have Bn:=r'.length;exact len_tuple pl (by simp only[yh]<;>omega) ⟨.int ys.length,H,I.tok _,⟨s.toks+1,by rw[yh,Bn]⟩,q⟩
theorem cf:C8 X (.type "list") (λxs H Q=>∃p ys,xs=[.ref p]/\(B6 X.K H p ys\/BL X.K H p ys)/\∀l,H l=none->Q (.ref l) (upd H l<|.lst ys)):=by
 intro AE s σ H xs us Q I r h;obtain⟨p,ys,rfl,hq,q⟩:=h;obtain⟨u,rfl,rx⟩:=vals1 r;cases rx;have fin:∀(its:List Value),Ap ys its->ys.length<=sizeLine->∀(h':Heap)(c':Nat),(∀b o',s.heap.get? b=some o'->h'.get? b=some o')->h'.get? s.heap.objs.size=some {cls:=.type "list",dict:=none,data:=.seq its.toArray c',slots:=#[]}->EP X AE σ Q (.ref s.heap.objs.size) {s with heap:=h'}:=λits r' hz h' c' kp e=>
  ⟨.ref s.heap.objs.size,_,I.laid kp (yf _) (show By X.prog X.w _ h' _ (.lst ys)from⟨hz,its,c',r',e⟩),rfl,q _<|I.Ah.fresh<|yf _⟩
 rcases hq with hq|hq
 .obtain⟨its,r',pl,hz⟩:=I.list hq;have Bn:=r'.length;obtain⟨o,ho,hc,n,hd⟩:=pl.isList;exact call_list_seq p (.inl rfl) ho hc hd (λh' c' kp e=>fin its r' hz h' c' kp e) (by simp only[yh]<;>omega)
 .obtain⟨its,r',pl,hz⟩:=I.tuple hq;have Bn:=r'.length;obtain⟨o,ho,hc,n,hd⟩:=pl;exact call_list_seq p (.inr rfl) ho hc hd (λh' c' kp e=>fin its r' hz h' c' kp e) (by simp only[yh]<;>omega)
def Ti(K:PySem.W.Frag)(T:String)(x:V)(H:Hp):Prop:=match x with
 |.str _=>T = "str"
 |.int _=>T = "int"
 |.ref p=>(T = "list"/\∃xs,B6 K H p xs)\/(T = "tuple"/\∃o,K.lookup p=some o/\o.cls=.type "tuple"/\o.dict=none)\/
  (T = "dict"/\((∃AJ,H p=some (.dK AJ))\/∃AJ,H p=some (.dT AJ)))\/(T = "set"/\∃S n,H p=some (.set S n))
 |_=>False
theorem Zk{AE:List (Addr×Obj)}{σ:St}{H:Hp}{s:Shared}{T:String}{x:V}{v:Value}(I:Inv X AE σ H s)(r:RelV x v)(ty:Ti X.K T x H) : s.TypeIs v T/\∀a,v=.ref a->∃ob,s.heap.get? a=some ob/\ob.dict=none:=by
 cases x with
 |str z=>
  obtain⟨t,rfl⟩:=r;cases (show T = "str" from ty);exact⟨typeIs_str s z t,λ_ e=>nomatch e⟩
 |int i=>
  obtain⟨t,rfl⟩:=r;cases (show T = "int" from ty);exact⟨typeIs_int s i t,λ_ e=>nomatch e⟩
 |ref p=>
  cases r;rcases ty with⟨rfl,xs,hq⟩|⟨rfl,o,hk,hc,hd⟩|⟨rfl,hk⟩|⟨rfl,S,n,hk⟩
  .obtain⟨its,_,pl,_⟩:=I.list hq;refine⟨pl.isList.typeIs,λa e=>?_⟩;cases e;obtain⟨o,n,e,c,hd,_⟩:=pl;exact⟨o,e,hd⟩
  .refine⟨⟨o,I.BB p o hk,hc⟩,λa e=>?_⟩;cases e;exact⟨o,I.BB _ o hk,hd⟩
  .have z:∃o,s.heap.get? p=some o/\o.ExactDict:=by
    rcases hk with⟨AJ,hk⟩|⟨AJ,hk⟩
    .obtain⟨_,_,_,_,o,_,_,e,ex,_⟩:=I.Ah p _ hk;exact⟨o,e,ex⟩
    .obtain⟨_,_,_,_,o,_,_,e,ex,_⟩:=I.Ah p _ hk;exact⟨o,e,ex⟩
   obtain⟨o,e,ex⟩:=z;refine⟨⟨o,e,ex.1⟩,λa e2=>?_⟩;cases e2;exact⟨o,e,ex.2.1⟩
  .obtain⟨o,_,_,_,e,ex,_⟩:=I.Ah p _ hk;refine⟨⟨o,e,ex.1⟩,λa e2=>?_⟩;cases e2;exact⟨o,e,ex.2.1⟩
 |_=>exact False.elim ty
def sZ(K:PySem.W.Frag)(T:String)(r:V->List V->Hp->VK->Prop)(to:TE):TE:=λσ H Q=>to σ H λx H1=>Ti K T x H1/\r x [] H1 Q
def ZT(K:PySem.W.Frag)(T:String)(r:V->List V->Hp->VK->Prop)(to:TE)(t:TA):TE:=λσ H Q=>to σ H λx H1=>Ti K T x H1/\t σ H1 λxs H2=>r x xs H2 Q
variable{o e:Expr}{es:List Expr}{to:TE}{t:TA}{name:Str}{apos Bj:Pos}{T id:String}{r:V->List V->Hp->VK->Prop}
theorem nG(pa:PlainAttrs T)(slot:Slot T name id)(Ra:typeOf (.builtin id)=pure (.type "method_descriptor"))(hm:UD X id r)(ho:PE X o to) (Gu:attributeBase o name X.env (eval o X.env)=eval o X.env:=by rfl) (Gy:(apos.endLine==Bj.line)=true:=by rfl):PE X (.Call (.Attribute o name apos) [] [] Bj)<|sZ X.K T r to:=by intro AE s σ H Q I h;refine wpAny_Call_method0_late Gu Gy<|Ad (ho AE s σ H _ I h) λv s1 ⟨x,H1,I1,r1,ty,q1⟩=>?_;obtain⟨h1,h2⟩:=Zk I1 r1 ty;exact⟨T,id,pa,slot,Ra,h1,h2,Calls.callWith_builtin rfl<|PySem.evalArgs_none<|hm AE s1 σ H1 x [] v [] Q I1 r1 .nil q1⟩
theorem YV(pa:PlainAttrs T)(slot:Slot T name id)(Ra:typeOf (.builtin id)=pure (.type "method_descriptor"))(hm:UD X id r)(ho:PE X o to)(ha:PA X (e::es) t) (Gu:attributeBase o name X.env (eval o X.env)=eval o X.env:=by rfl) (Hj:((backTo Bj<|starEach (e::es) X.env).all (λx=>!x.1)&&(backToKw Bj<|keywordEach [] X.env).all (λx=>x.1.isSome)
  && decide ((e::es).length+([]:List Keyword).length+(if([]:List Keyword).isEmpty then 0 else 1)<30))=true:=by rfl)
 (Gy:(apos.endLine==Bj.line)=true:=by rfl) (hs:starEach (e::es) X.env=(false,eval e X.env)::starEach es X.env:=by rfl) (Lv:(backTo Bj<|starEach es X.env).any (·.1)=false:=by rfl) :
 PE X (.Call (.Attribute o name apos) (e::es) [] Bj) (ZT X.K T r to t):=by
 intro AE s σ H Q I h;refine wpAny_Call_method_late Gu Hj Gy rfl<|Ad (ho AE s σ H _ I h) λv s1 ⟨x,H1,I1,r1,ty,q1⟩=>?_;obtain⟨h1,h2⟩:=Zk I1 r1 ty;refine⟨T,id,pa,slot,Ra,h1,h2,?_⟩;have hA:=ha Bj AE s1 σ H1 _ I1 q1;rw[hs]at hA ⊢;refine Calls.callWith_builtin (by show(false||(backTo Bj<|starEach es X.env).any (·.1))=false;rw[Lv]<;>rfl)<|Calls.evalArgs_plain ?_;exact Ad hA (by rintro us s2 ⟨vs,H2,I2,r2,q2⟩;exact hm AE s2 σ H2 x vs v us Q I2 r1 r2 q2)
end
def P6(X:Cx)(id:String)(r:V->List V->Hp->VK->Prop):Prop:=
 ∀(AE:List<|Addr×Obj)(s:Shared)(σ:St)(H:Hp)(x:V)(xs:List V)(v:Value)(us:List Value)(Q:VK),Inv X AE σ H s->RelV x v->Ap xs us->r x xs H Q->wpAny (model X.prog X.w) X.A (call (.builtin id) (v::us)) (EP X AE σ Q) X.xe s
theorem Ap.one:∀{x:V}{us:List Value},Ap [x] us->∃u,us=[u]/\RelV x u
 |_,_,.cons r .nil=>⟨_,rfl,r⟩
theorem Ap.zero:∀{us:List Value},Ap [] us->us=[]
 |_,.nil=>rfl
theorem Ap.dropLast{xs:List V}{us:List Value}(h:Ap xs us):Ap xs.dropLast us.dropLast:=by
 induction h with
 |nil=>exact .nil
 |cons r t ih=>
  cases t with
  |nil=>exact .nil
  |cons q t'=>exact .cons r ih
theorem Ap.reverse{xs:List V}{us:List Value}(h:Ap xs us):Ap xs.reverse us.reverse:=by
 induction h with
 |nil=>exact .nil
 |cons r t ih=>rw[ABc,ABc];exact Ap.append ih<|.cons r .nil
theorem fj{α:Type}(l:List α):l.eraseIdx (l.length-1)=l.dropLast:=by
 induction l with
 |nil=>rfl
 |cons a r ih=>
  cases r with
  |nil=>rfl
  |cons b r=>
   have e:(a::b::r).length-1=((b::r).length-1)+1:=by have h1:(a::b::r).length=r.length+2:=rfl;have h2:(b::r).length=r.length+1:=rfl;omega
   rw[e,List.eraseIdx_cons_succ,ih]
   all_goals rfl
section
variable{X:Cx}{AE:List (Addr×Obj)}{σ:St}{H:Hp}{s:Shared}{l b:Addr}{xs ys zs:List V}
theorem Inv.R8{its Fb:List Value}{n:Nat}{f:Array Value->Array Value}{t':Nat}(I:Inv X AE σ H s)(hH:H l=some (.lst xs)) (e:s.heap.get? l=some {cls:=.type "list",data:=.seq its.toArray n}) (hf:f its.toArray=Fb.toArray) (hv:Ap ys Fb) (hz:ys.length<=sizeLine) : Inv X AE σ (upd H l<|.lst ys) {s with heap:=s.heap.update l<|Obj.mapSeq f,toks:=t'}:=by have q:=PySem.IsL.update e f;rw[hf]at q;refine I.write (by rw[hH];exact trivial) (.inl rfl) (λb' u hb hu=>(Heap.get?_update_other s.heap (Obj.mapSeq f) (zo hb)).trans hu) ⟨_,q⟩ ?_;exact⟨hz,Fb,_,hv,q⟩
theorem Inv.k6{its:List Value}{t':Nat}(I:Inv X AE σ H s)(hv:Ap ys its)(hz:ys.length<=sizeLine) : Inv X AE σ (upd H s.heap.objs.size<|.lst ys) {s with heap:=s.heap.push {cls:=.type "list",data:=.seq its.toArray},toks:=t'}:=
 I.laid (λ_ _ q=>Heap.get?_push_of_some _ q) (yf _) ⟨hz,its,0,hv,Heap.get?_push_size _ rfl⟩
theorem Inv.fresh(I:Inv X AE σ H s):H s.heap.objs.size=none:=I.Ah.fresh<|yf _
theorem Inv.R9(I:Inv X AE σ H s)(hH:H l=some (.lst xs)):xs.length<=sizeLine/\∃(its:List Value)(n:Nat),Ap xs its/\xs.length=its.length/\s.heap.get? l=some {cls:=.type "list",data:=.seq its.toArray n}:=by obtain⟨z,its,n,r,e⟩:=I.Ah l _ hH;exact⟨z,its,n,r,r.length,e⟩
theorem lZ{n:Nat}(h:n<=sizeLine):Builtin.List.listTooLong n=false:=by unfold Builtin.List.listTooLong;exact zU yH
end
section
variable{X:Cx}
def Yp:V->List V->Hp->VK->Prop:=λx vs H Q=>∃l xs y,x=.ref l/\vs=[y]/\H l=some (.lst xs)/\xs.length<sizeLine/\Q .A8 (upd H l<|.lst<|xs ++ [y])
theorem Xs:P6 X "list.append" Yp:=by intro AE s σ H x vs v us Q I rx rv h;obtain⟨l,xs,y,rfl,rfl,hH,hz,q⟩:=h;cases rx;obtain⟨u,rfl,ru⟩:=rv.one;obtain⟨z,its,n,r,hl,e⟩:=I.R9 hH;refine call_meets F.slot_list_append ⟨_,e,rfl⟩ F.entry_list_append (F.args_list_append_2 _ _) (PySem.list_append l its.toArray n u (by rw[yh];omega)) ⟨e,?_⟩;refine⟨.A8,_,I.R8 hH e yI (r.append<|.cons ru .nil) ?_,rfl,q⟩;rw[yx,AAb];omega
def qx:V->List V->Hp->VK->Prop:=λx vs H Q=>∃l xs y,x=.ref l/\vs=[]/\H l=some (.lst xs)/\xs[xs.length-1]? = some y/\Q y (upd H l<|.lst xs.dropLast)
theorem lO:P6 X "list.pop" qx:=by
 intro AE s σ H x vs v us Q I rx rv h;obtain⟨l,xs,y,rfl,rfl,hH,hy,q⟩:=h;cases rx;have jd:=rv.zero;subst jd;obtain⟨z,its,n,r,hl,e⟩:=I.R9 hH;obtain⟨u,hu,ru⟩:=r.get hy;have Ri:=by show its.toArray[its.length-1]? = some u;rw[<-AAF,<-hl];exact hu
 refine call_meets F.slot_list_pop ⟨_,e,rfl⟩ F.entry_list_pop (F.args_list_pop_1 _) (MeetsSeq.list_pop_last l its.toArray n u Ri (by rw[yh];omega)) ⟨e,?_⟩;refine⟨y,_,I.R8 hH e ?_ r.dropLast ?_,ru,q⟩
 .rw[yh,List.eraseIdxIfInBounds_toArray,fj]
 .rw[List.length_dropLast];omega
end
section
variable{prog:Program}{w:World}{A:Around}{E:Value->Shared->Prop}{s:Shared}
end
section
variable{X:Cx}
end
end L2
namespace Tx
open PySem PySem.W PySem.Calls PyProof.Rows
theorem j3{P:Params}{h:Heap}:∀(ns:List Int)(vs:List Value),WellAll P h vs (ns.map WData.int)->IntsAre vs ns:=by
 intro ns
 induction ns with
 |nil=>
  intro vs w;cases w;exact .nil
 |cons n ns ih=>
  intro vs w;cases w with
  |cons a b=>
   cases a;exact .cons _ _<|ih _ b
theorem rP{l:OpenLaw}{n:Nat}(hn:l.most=some n){P:Params}{h:Heap}{args:List WData}{vals:List Value} (N5:l.row.toRowW.claim.pre args=true) (Ef:WellAll P h vals args) : ∃a vs ns,vals=[Value.ref a]/\args=[WData.list<|ns.map WData.int]/\h.get? a=some {cls:=.type "list",data:=.seq vs.toArray}/\IntsAre vs ns/\ns.length<=n:=by
 have BA:WShape.hasAll [] args [.list .int]=true:=(pre_splitW N5).1;have hc:l.pre.holds [] {args:=args}=true:=(pre_splitW N5).2;obtain⟨d,r,rfl,h1,h2⟩:=hasAllW_cons BA;obtain rfl:=hasAllW_nil h2;obtain⟨xs,rfl,h3⟩:=hasW_list h1;obtain⟨ns,rfl⟩:=items_int h3;have Bn:ns.length<=n:=by
  have h4:=by have h4:=(holds_andW hc).1;rw[hn]at h4;exact h4
  have h5:=condW_of h4<|w_not<|w_lt w_lit<|w_len_list<|w_arg rfl;rw[yP]at h5;refine Nat.le_of_not_lt λq=>?_;have q':(n:Int)<((ns.length)):=yH
  first
   |(rw[zc q']at h5;exact absurd h5 yJ)
   |(simp at h5)
 cases Ef with
 |cons w1 w2=>
  cases w2;cases w1 with
  |list ho BU=>exact⟨_,_,ns,rfl,rfl,ho,j3 ns _ BU,Bn⟩
theorem oH(l:OpenLaw)(args:List WData):l.row.toRowW.claim.post args (.bool true) args=true:=
 postW_of (show WShape.has [] (.bool true) .bool=true by first|rfl|decide|simp[WShape.has]) (show(WTm.eq .res<|.lit<|.bool true).value [] {args:=args,res:=some<|.bool true,after:=args}=some (.bool<|true==true)from w_eq_bool (w_res rfl) w_lit) rfl
theorem bp{l:OpenLaw}{n:Nat}{q:Program}{loose:List Str}{XP:(Str->Option Value)->Heap->Prop}{YP:World->Heap->Prop}{d:DefRec} (hn:l.most=some n) (Ll:d.params.defaults=[]) (call:∀(w:World)(Cb BD:Shared)(mg mb:Str->Option Value)(fa:Addr)(o:Obj)(pm cd doc:Value)(a:Addr)(vs:List Value)(ns:List Int),
  Ground q loose [] XP w Cb mg mb BD.heap->YP w BD.heap->
  BD.heap.get? fa=some o->o.data=.func (docDef d.name d.params d.body d.scope pm cd doc)->BD.heap.CodeRec cd d.name->mg d.name=some (.ref fa)->
  BD.heap.get? a=some {cls:=.type "list",data:=.seq vs.toArray}->IntsAre vs ns->ns.length<=n->BD.gens=#[]->
  codeAny (model l.prog w) callerA (.call (.ref fa) ⟨[.ref a],[]⟩) (λr s'=>r=.ok (.ret<|.bool true)/\OldK BD.heap s'.heap/\s'.os=BD.os/\AllBare s'.gens) BD) :
 WalkO q loose XP YP l.row.toRowW d [] (λf vs=>PySem.call f vs):=by
 intro w Cb BD mg mb G Y fa o pm cd doc dV kV ho hd BK hD hmg hg args vals as N5 xU xX Ef jF;obtain rfl:dV=.none:=Dflts.none hD Ll;obtain rfl:kV=.none:=Dflts.noKw hD;obtain⟨a,vs,ns,rfl,rfl,RK,hints,Bn⟩:=rP hn N5 Ef;refine enter_call<|codeAny_mono (call w Cb BD mg mb fa o pm cd doc a vs ns G Y ho (fd_plain hd) BK hmg RK hints Bn hg) λr s' hq=>?_;obtain⟨rfl,h2,h3,h4⟩:=hq;exact⟨.inl ⟨.bool true,.bool true,[],rfl,λ_=>rfl,.bool true,oH l _,λ_=>⟨List.Pairwise.nil,λ_ hm=>(nomatch hm)⟩⟩,h2,h3,h4⟩
section
variable{prog:Program}{w:World}{A:Around}{E:Value->Shared->Prop}{s:Shared}{K:Frag}
end
end Tx
namespace L2
open PySem PySem.Spec PyProof.Rows
theorem Tp:∀{vs:List Value}{ns:List Int},IntsAre vs ns->Ap (ns.map V.int) vs
 |_,_,.nil=>.nil
 |_,_,.cons n t h=>.cons ⟨t,rfl⟩<|Tp h
def P8(H:Hp):Prop:=∀b,H b=none\/∃o xs,H b=some (.D1 o<|.lst xs)
theorem km{P:Program}{w:World}{K:PySem.W.Frag}{mg mb:Str->Option Value}{CX:EW}{k:Nat}{fa a:Addr}{fd:FuncData}{x:Str}{sp:Sp}{BD:Shared}{vs:List Value}{ns:List Int} (KX:K.In BD.heap) (RI:BD.heap.Ns mainGlobals mg) (hb:BD.heap.Ns builtinsNs mb) (iR:∀x:Str,x≠"__name__"->mb x=bootBuiltins x) (jD:BD.heap.NoLimit) (hg:BD.gens=#[]) (ha:BD.heap.get? a=some {cls:=.type "list",data:=.seq vs.toArray}) (hi:IntsAre vs ns) (hl:ns.length<=sizeLine) (hr:CV k callerA) (F:∀base:Heap,K.In base->base.Ns mainGlobals mg->C9 P w K mg base CX k fa fd [x] sp) (iS:∀(s:Shared)(u:Value),BindsTo s fd ⟨[u],[]⟩ [(x,u)]) (E1:∀H:Hp,P8 H->B6 K H a (ns.map V.int)->sp [.ref a] H (λv _=>v=.bl true) λ_ _ _=>False)
 (Qv:∀H e s',CX [] H BD (λ_ _ _=>False) e s'->False) :
 codeAny (model P w) callerA (.call (.ref fa) ⟨[.ref a],[]⟩) (λr s'=>r=.ok (.ret<|.bool true)/\OldK BD.heap s'.heap/\s'.os=BD.os/\AllBare s'.gens) BD:=by
 have rv:=Tp hi;have kq:=hi.length;have core:∀H:Hp,P8 H->B6 K H a (ns.map V.int)->Bl P w H BD.heap->(∀b,H b≠none->b=a)->(H a≠none->K.lookup a=none)->codeAny (model P w) callerA (.call (.ref fa) ⟨[.ref a],[]⟩) (λr s'=>r=.ok (.ret<|.bool true)/\OldK BD.heap s'.heap/\s'.os=BD.os/\AllBare s'.gens) BD:=by
  intro H hO hS Ah hA hK;have UR:∀{b:Addr}{o:Obj},BD.heap.get? b=some o->H b=none->(Hn BD.heap H).get? b=some o:=λe n=>iy e n;have MP:∀{b:Addr}{o:Obj}{es:Array DictEntry}{ep:Nat},BD.heap.get? b=some o->o.data=.dict es ep->H b=none:=λ{b o es ep} e d=>by
   cases q:H b with
   |none=>rfl
   |some u=>
    have e':=hA b (by rw[q];simp);subst e';rw[ha]at e;cases e;have d':=d;cases d'
  have Ob:∀{b:Addr}{m:Str->Option Value},BD.heap.Ns b m->(Hn BD.heap H).Ns b m:=λ{b m} ⟨o,es,ep,e,d,r⟩=>⟨o,es,ep,UR e<|MP e d,d,r⟩;have WS:=λb o e=>UR (KX b o e) (by
   cases q:H b with
   |none=>rfl
   |some u=>
    have e':=hA b (by rw[q];simp);subst e';rw[hK (by rw[q];simp)]at e;cases e)
  have hM:Mod K mg<|Hn BD.heap H:=⟨WS,Ob RI,⟨mb,Ob hb,iR⟩,let ⟨mc,h1,h2⟩:=jD;⟨mc,Ob h1,h2⟩⟩;have e0:Ky P w K mg (Hn BD.heap H) callerA [] BD H:=⟨rfl,hM,λb o e=>lq e,ACi<|iz _ _,trivial,λb hb=>absurd (show b∈([])from hb) yI,Ah,.of_eq hg⟩;refine codeAny_mono ((F _ WS<|Ob RI).run callerA [] BD H ⟨[.ref a],[]⟩ [.ref a] [.ref a] _ _ hr e0 (iS BD<|.ref a) (.cons rfl .nil)<|E1 H hO hS) λr s' h=>?_;cases r with
  |error e=>exact(Qv H e s' h).elim
  |ok fl=>
   cases fl with
   |next=>exact False.elim h
   |brk=>exact False.elim h
   |cont=>exact False.elim h
   |ret u=>
    obtain⟨v,H',os,bare,un,RL,r',q⟩:=h;have q':=q;subst q';obtain rfl:u=Value.bool true:=r';refine⟨rfl,OldK.of_keep λb o e=>?_,os,bare⟩;cases q:H b with
    |none=>exact un.keep b o e q (by intro z;exact absurd (show b∈([])from z) yI) yI
    |some u=>
     rcases hO b with z|⟨ob,xs,z⟩
     .rw[q]at z;cases z
     .have z2:=un.Gs b ob _ z;obtain⟨e1,_⟩:=Ah b _ z;obtain⟨e2,_⟩:=RL b _ z2;rw[e]at e1;cases e1;exact e2
 cases hk:K.lookup a with
 |some o=>
  have e:=KX a o hk;rw[ha]at e;cases e;refine core (λ_=>none) (λ_=>.inl rfl) (.inr ⟨_,vs.toArray,_,hk,rfl,rfl,rfl,by rw[yh,kq];exact hl,by simpa using rv⟩) (λb u z=>by have z':(none)=some u:=z;cases z') (λb z=>absurd rfl z) λz=>absurd rfl z
 |none=>
  refine core (λb=>if b=a then some (.D1 {cls:=.type "list",data:=.seq vs.toArray}<|.lst<|ns.map V.int)else none) (λb=>?_) (.inl<|.inr ⟨{cls:=.type "list",data:=.seq vs.toArray},yO rfl⟩) (λb u z=>?_) (λb z=>?_) λ_=>hk
  .by_cases hb:b=a
   .exact .inr ⟨_,_,yO hb⟩
   .exact .inl<|yN hb
  .by_cases hb:b=a
   .have z':=(yO hb).symm.trans z;cases z';subst hb;exact⟨ha,by rw[yP];exact hl,vs,_,rv,ha⟩
   .have z':=(yN hb).symm.trans z;cases z'
  .by_cases hb:b=a
   .exact hb
   .exact absurd (yN hb) z
theorem u9{l:PySem.W.OpenLaw}{n k:Nat}{q:Program}{loose:List Str}{XP:(Str->Option Value)->Heap->Prop}{YP:World->Heap->Prop}{d:DefRec}{K:Params->PySem.W.Frag}{CX:World->EW}{sp:World->Sp}{x:Str} (hn:l.most=some n) (Ny:n<=sizeLine) (Ll:d.params.defaults=[]) (hr:CV k callerA) (hY:∀(w:World)(h:Heap),YP w h->(K w.params).In h) (F:∀(w:World)(mg:Str->Option Value)(fa:Addr)(h:Heap),(K w.params).In h->h.Ns mainGlobals mg->mg d.name=some (.ref fa)->
  ∃fd:FuncData,(∀(s:Shared)(u:Value),BindsTo s fd ⟨[u],[]⟩ [(x,u)])/\∀base:Heap,(K w.params).In base->base.Ns mainGlobals mg->C9 l.prog w (K w.params) mg base (CX w) k fa fd [x] (sp w))
 (E1:∀(w:World)(H:Hp)(a:Addr)(ns:List Int),ns.length<=n->P8 H->B6 (K w.params) H a (ns.map V.int)->sp w [.ref a] H (λv _=>v=.bl true) λ_ _ _=>False)
 (Qv:∀(w:World)(H:Hp)(s:Shared)(e:Value)(s':Shared),CX w [] H s (λ_ _ _=>False) e s'->False) :
 PySem.W.WalkO q loose XP YP l.row.toRowW d [] (λf vs=>PySem.call f vs):=by
 refine Tx.bp hn Ll λw Cb BD mg mb fa o pm cd doc a vs ns G Y ho hd BK hmg RK hints Bn hg=>?_;have KX:=hY w _ Y;obtain⟨fd,hb,hF⟩:=F w mg fa _ KX G.T.g hmg;exact km KX G.T.g G.T.b G.T.builtins G.T.nolimit hg RK hints (zT Bn Ny) hr hF hb (λH hO hS=>E1 w H a ns Bn hO hS) λH e s'=>Qv w H BD e s'
noncomputable def Gk(s:Stmt):Arguments:=match s with
 |.FunctionDef _ a _ _ _ _ _ _ _ _=>a
 |_=>{posonlyargs:=[],args:=[],vararg:=none,kwonlyargs:=[],kw_defaults:=[],kwarg:=none,defaults:=[]}
noncomputable def FO(s:Stmt):List Stmt:=match s with
 |.FunctionDef _ _ b _ _ _ _ _ _ _=>b
 |_=>[]
noncomputable def CM(s:Stmt):Scope:=match s with
 |.FunctionDef _ _ _ _ _ _ sc _ _ _=>sc
 |_=>{kind:=.function,names:=[],isGenerator:=false,isCoroutine:=false}
abbrev EA:EW:=λ_ _ _ _ _ _=>False
abbrev E0:XK:=λ_ _ _=>False
theorem YT{X:Cx}:Passes EA X E0:=λ_ _ _ _ _ _ _ h=>h.elim
structure FH(K:PySem.W.Frag)(x qual:Str)(st:Stmt)(f:Addr)(fd:FuncData):Prop where
 ex:∃(oc:Value)(od:Option Addr)(kV doc pm:Value)(an:Option Addr)(BE ct:Value)(HC:Array<|Option Value),fd=PySem.W.fnOf x qual (Gk st) (FO st) (CM st) .none kV doc pm an BE ct/\K.lookup f=some ⟨oc,od,.func fd,HC⟩/\PySem.W.codeIn K BE qual=true
 kp:PySem.W.keepIn K (.ref f)=true
section
variable{P:Program}{w:World}{K:PySem.W.Frag}{mg:Str->Option Value}{base:Heap}
theorem FH.ok{x qual:Str}{st:Stmt}{f:Addr}{fd:FuncData}{N ps:List Str}{k:Nat}{sp:Sp}(F:FH K x qual st f fd)(S:K4 N ps<|CM st)(len:∀vs H Q E,sp vs H Q E->vs.length=ps.length) (Lk:∀(BE:Value)(A:Around)(outer:List Env)(s:Shared)(H:Hp)(vs:List V)(Q:VK)(E:XK),CV k (A.deeper<|envOfC qual (CM st) s.heap.objs.size f BE)->sp vs H Q E->
  ∃t,DA (Gj EA P w K mg base N qual (CM st) f BE A outer s H E).JQ (FO st) t/\t {nx:=λ_ H'=>Q .A8 H',rt:=Q} (start N vs) H):C9 P w K mg base EA (k+1) f fd ps sp:=by
 obtain⟨oc,od,kV,doc,pm,an,BE,ct,HC,rfl,lk,BK⟩:=F.ex;refine gS lk BK S len λA outer s H vs Q E hr E1=>?_;obtain⟨t,h,q⟩:=Lk BE A outer s H vs Q E hr E1;exact⟨t,h.JQ,q⟩
theorem FH.binds{x qual:Str}{st:Stmt}{f:Addr}{fd:FuncData}{ps:List Str}(F:FH K x qual st f fd) (h:∀(kV doc pm:Value)(an:Option Addr)(BE ct:Value)(us:List Value),us.length=ps.length->bindArgs (PySem.W.fnOf x qual (Gk st) (FO st) (CM st) .none kV doc pm an BE ct) ⟨us,[]⟩=pure (ps.zip us)):Binds K fd ps []:=by obtain⟨oc,od,kV,doc,pm,an,BE,ct,HC,rfl,lk,BK⟩:=F.ex;exact .all<|h kV doc pm an BE ct
theorem gf{x qual:Str}{st:Stmt}{f:Addr}{oc:Value}{od an:Option Addr}{HC:Array (Option Value)}{kV doc pm BE ct:Value}(l:K.lookup f=some ⟨oc,od,.func<|PySem.W.fnOf x qual (Gk st) (FO st) (CM st) .none kV doc pm an BE ct,HC⟩) (c:PySem.W.codeIn K BE qual=true) (k:PySem.W.keepIn K (.ref f)=true):FH K x qual st f<|PySem.W.fnOf x qual (Gk st) (FO st) (CM st) .none kV doc pm an BE ct:=⟨⟨oc,od,kV,doc,pm,an,BE,ct,HC,rfl,l,c⟩,k⟩
end
theorem ZC{n:Nat}(h:n<=1000):n<sizeLine:=ABS h yJ
section
variable{X:Cx}
theorem pv(i:Nat){x:Str}{pos:Pos}(hN:X.N[i]? = some x:=by rfl)(hv:DT X.env.scope x:=by first|exact Or.inl rfl|exact Or.inr (Or.inl rfl)|exact Or.inr<|Or.inr rfl)(hd:(x==("__debug__" : Str))=false:=by decide) (BK:(x==("__classdict__" : Str))=false:=by decide):PE X (.Name x pos)<|Te i:=EM hN hv hd BK
end
theorem j7{A B:Prop}(h:B):if false=true then A else B:=by exact h
theorem j8{A B:Prop}(h:A):if true=true then A else B:=by exact h
def Ar(H H':Hp):Prop:=∀b o,H b=some o->H' b=some o
theorem Ar.refl(H:Hp):Ar H H:=λ_ _ h=>h
theorem Ar.trans{H H1 H2:Hp}(a:Ar H H1)(b:Ar H1 H2):Ar H H2:=λc o h=>b c o<|a c o h
theorem Ar.free{H H':Hp}(e:Ar H H'){l:Addr}(h:H' l=Option.none):H l=Option.none:=by
 cases q:H l with
 |none=>rfl
 |some o=>
  rw[e l o q]at h;cases h
theorem Ar.seq{K:PySem.W.Frag}{H H':Hp}{a:Addr}{xs:List V}(e:Ar H H')(h:B6 K H a xs):B6 K H' a xs:=by
 rcases h with(h|⟨o,h⟩)|h
 .exact .inl<|.inl<|e _ _ h
 .exact .inl<|.inr ⟨o,e _ _ h⟩
 .exact .inr h
section
variable{κ:Type}[DecidableEq κ]
noncomputable def ET(AJ:List<|κ×V)(k:κ):Option V:=(AJ.find? λkv=>decide (kv.1=k)).map (·.2)
noncomputable def DF(AJ:List<|κ×V)(k:κ)(v:V):List<|κ×V:=
 if(AJ.any λkv=>decide (kv.1=k))=true then AJ.map (λkv=>if kv.1=k then(kv.1,v)else kv)else AJ ++ [(k,v)]
theorem Zs{k:κ}:ET ([]:List<|κ×V) k=none:=rfl
theorem Mo{p:κ×V}{r:List (κ×V)}{k:κ}(e:p.1=k):ET (p::r) k=some p.2:=by simp[ET,AA1,e]
theorem Ks{p:κ×V}{r:List (κ×V)}{k:κ}(e:¬ p.1=k):ET (p::r) k=ET r k:=by simp[ET,AA1,e]
theorem To(k:κ):∀AJ:List<|κ×V,(AJ.any λkv=>decide (kv.1=k))=(ET AJ k).isSome
 |[]=>rfl
 |p::r=>by
  rw[zv];by_cases e:p.1=k
  .simp only[Mo e,zc e,Bool.true_or,Option.isSome_some]
  .rw[Ks e,zU e,Bool.false_or];exact To k r
theorem R0(AJ:List<|κ×V)(k:κ)(v:V):(DF AJ k v).length<=AJ.length+1:=by
 unfold DF;split
 .rw[yP];omega
 .rw[yx,yn,zq];omega
theorem Ss{AJ:List (κ×V)}{k:κ}(v:V)(h:ET AJ k=none):DF AJ k v=AJ ++ [(k,v)]:=by unfold DF;rw[To,h];exact yN yJ
theorem FJ.L3{o:Option V}{u:Option Value}(r:FJ o u):o.isSome=u.isSome:=by
 cases o with
 |none=>cases u with
  |none=>rfl
  |some _=>exact(show False from r).elim
 |some _=>cases u with
  |none=>exact(show False from r).elim
  |some _=>rfl
theorem KV.val{AJ:List (κ×V)}{vs:List (κ×Value)}(r:KV AJ vs)(k:κ):FJ (ET AJ k)<|valueAt vs k:=by
 unfold KV at r
 induction r with
 |nil=>exact True.intro
 |@cons p q ps qs h t ih=>
  obtain⟨h1,h2⟩:=h;by_cases e:p.1=k
  .have e':q.1=k:=h1.symm.trans e;have b:valueAt (q::qs) k=some q.2:=by simp[valueAt,AA1,e']
   rw[Mo e,b];exact h2
  .have e':¬ q.1=k:=λz=>e<|h1.trans z;have b:valueAt (q::qs) k=valueAt qs k:=by simp[valueAt,AA1,e']
   rw[Ks e,b];exact ih
theorem KV.any{AJ:List (κ×V)}{vs:List (κ×Value)}(r:KV AJ vs)(k:κ):(AJ.any λkv=>decide (kv.1=k))=vs.any λkv=>decide (kv.1=k):=by
 unfold KV at r
 induction r with
 |nil=>rfl
 |cons h t ih=>rw[zv,zv,ih,h.1]
theorem KV.Sz{AJ:List (κ×V)}{vs:List (κ×Value)}(r:KV AJ vs)(k:κ){y:V}{u:Value}(ry:RelV y u) : KV (AJ.map λkv=>if kv.1=k then(kv.1,y)else kv) (vs.map λkv=>if kv.1=k then(kv.1,u)else kv):=by
 unfold KV at r ⊢
 induction r with
 |nil=>exact .nil
 |@cons p q ps qs h t ih=>
  rw[ye,ye];refine .cons ?_ ih;obtain⟨h1,h2⟩:=h;by_cases e:p.1=k
  .rw[yO e,yO<|h1.symm.trans e];exact⟨h1,ry⟩
  .rw[yN e,yN λz=>e<|h1.trans z];exact⟨h1,h2⟩
theorem KV.put{AJ:List (κ×V)}{vs:List (κ×Value)}(r:KV AJ vs)(k:κ){y:V}{u:Value}(ry:RelV y u):KV (DF AJ k y)<|stored vs k u:=by
 unfold DF stored;rw[r.any k];by_cases e:(vs.any λkv=>decide (kv.1=k))=true
 .rw[yO e,yO e];exact r.Sz k ry
 .rw[yN e,yN e];exact Paired.snoc r ⟨rfl,ry⟩
theorem KV.length{AJ:List (κ×V)}{vs:List (κ×Value)}(r:KV AJ vs):AJ.length=vs.length:=Paired.length r
end
theorem KO{P:Program}{w:World}{k:Key}{u:Value}(r:RelV (kV k) u):(D4 P w).is k u=true:=by
 cases k with
 |inl i=>obtain⟨t,e⟩:=(show ∃t,u=Value.int i t from r);subst e;exact lK P w i t
 |inr x=>obtain⟨t,e⟩:=(show ∃t,u=Value.str x t from r);subst e;exact lL P w x t
theorem XC{P:Program}{w:World}:∀{ks:List Key}{us:List Value},Ap (ks.map kV) us->ItemsAre (D4 P w) ks us
 |[],_,r=>by rw[ABB]at r;cases r;exact .nil
 |k::ks,_,r=>by
  rw[ye]at r;cases r with
  |cons h t=>exact .cons (KO h)<|XC t
abbrev KT(H:Hp):List (List Key×V)->List (List Key×Addr×Value)->Prop:=Paired λp q=>p.1=q.1/\H q.2.1=some (.tup<|p.1.map kV)/\RelV p.2 q.2.2
theorem KT.val{H:Hp}{AJ:List (List Key×V)}{xs:List (List Key×Addr×Value)}(r:KT H AJ xs)(k:List Key):FJ (ET AJ k) ((atKey xs k).map (·.2)):=by
 induction r with
 |nil=>exact True.intro
 |@cons p q ps qs h t ih=>
  obtain⟨h1,_,h2⟩:=h;by_cases e:p.1=k
  .have e':q.1=k:=h1.symm.trans e;have b:atKey (q::qs) k=some q.2:=by simp[atKey,AA1,e']
   rw[Mo e,b];exact h2
  .have e':¬ q.1=k:=λz=>e<|h1.trans z;have b:atKey (q::qs) k=atKey qs k:=by simp[atKey,AA1,e']
   rw[Ks e,b];exact ih
theorem KT.Sz{H:Hp}{AJ:List (List Key×V)}{xs:List (List Key×Addr×Value)}(r:KT H AJ xs)(k:List Key){y:V}{u:Value}(ry:RelV y u) : KT H (AJ.map λkv=>if kv.1=k then(kv.1,y)else kv)<|xs.map<|putAt k u:=by
 induction r with
 |nil=>exact .nil
 |@cons p q ps qs h t ih=>
  rw[ye,ye];refine .cons ?_ ih;obtain⟨h1,h2,h3⟩:=h;unfold putAt;by_cases e:p.1=k
  .rw[yO e,yO<|h1.symm.trans e];exact⟨h1,h2,ry⟩
  .rw[yN e,yN λz=>e<|h1.trans z];exact⟨h1,h2,h3⟩
theorem KT.put{H:Hp}{AJ:List (List Key×V)}{xs:List (List Key×Addr×Value)}(r:KT H AJ xs)(k:List Key){b:Addr}{y:V}{u:Value}(hb:H b=some (.tup<|k.map kV))(ry:RelV y u) : KT H (DF AJ k y)<|storedH xs k b u:=by
 have e:(AJ.any λkv=>decide (kv.1=k))=(atKey xs k).isSome:=by rw[To,(r.val k).L3,AA9]
 unfold DF storedH;rw[e];by_cases q:(atKey xs k).isSome=true
 .rw[yO q,yO q];exact r.Sz k ry
 .rw[yN q,yN q];exact Paired.snoc r ⟨rfl,hb,ry⟩
theorem KT.keeps{H H':Hp}{AJ:List (List Key×V)}{xs:List (List Key×Addr×Value)}(r:KT H AJ xs)(ht:∀b ys,H b=some (.tup ys)->H' b=some (.tup ys)):KT H' AJ xs:=
 Paired.OR r λ_ _ z=>⟨z.1,ht _ _ z.2.1,z.2.2⟩
section
variable{P:Program}{w:World}{H:Hp}{h:Heap}{a:Addr}
theorem Yx{u:HO}(ok:Bl P w H h)(e:Rd H a u):By P w H h a u:=e.ok ok
theorem J2{AJ:List (Key×V)}(ok:Bl P w H h)(e:Rd H a<|.dK AJ):AJ.length<=sizeLine/\(a==sysModules)=false/\∃vs,KV AJ vs/\h.DictOf (D4 P w) a vs:=
 show By P w H h a (.dK AJ)from Yx ok e
theorem Ve{AJ:List (Key×V)}(ok:Bl P w H h)(e:H a=some (.dK AJ)):AJ.length<=sizeLine/\(a==sysModules)=false/\∃vs,KV AJ vs/\h.DictOf (D4 P w) a vs:=J2 ok<|.inl e
theorem MD{ks:List Key}(ok:Bl P w H h)(e:H a=some (.tup<|ks.map kV)):(tupleKind<|D4 P w).is h ks a:=by obtain⟨_,its,r,o,h1,h2,n,h3⟩:=(show By P w H h a (.tup<|ks.map kV)from ok a _ e);exact⟨o,its.toArray,n,h1,h2,h3,by simpa using XC r⟩
theorem LO{AJ:List (List Key×V)}(ok:Bl P w H h)(e:Rd H a<|.dT AJ):AJ.length<=sizeLine/\(a==sysModules)=false/\∃xs,KT H AJ xs/\h.DictOfH (tupleKind<|D4 P w) a xs:=by
 obtain⟨z,y,xs,r,o,es,ep,h1,h2,h3,h4,h5⟩:=(show By P w H h a (.dT AJ)from Yx ok e);refine⟨z,y,xs,r,o,es,ep,h1,h2,h3,h4,λx hx=>?_,h5⟩;have all:∀{l:List (List Key×V)}{m:List (List Key×Addr×Value)},KT H l m->∀x∈m,(tupleKind<|D4 P w).is h x.1 x.2.1:=by
  intro l m q
  induction q with
  |nil=>intro x hx;exact nomatch hx
  |@cons p q ps qs hq t ih=>
   intro x hx;rcases yw.mp hx with e|hx
   .subst e;exact MD ok (by rw[<-hq.1];exact hq.2.1)
   .exact ih x hx
 exact all r x hx
theorem fJ{AJ:List (List Key×V)}(ok:Bl P w H h)(e:H a=some (.dT AJ)):AJ.length<=sizeLine/\(a==sysModules)=false/\∃xs,KT H AJ xs/\h.DictOfH (tupleKind<|D4 P w) a xs:=LO ok<|.inl e
end
def IK(H:Hp)(a:Addr)(y:V)(r:Option V):Prop:=
 (∃AJ k,Rd H a (.dK AJ)/\y=kV k/\r=ET AJ k)\/∃AJ k b,Rd H a (.dT AJ)/\y=.ref b/\H b=some (.tup<|k.map kV)/\r=ET AJ k
def Tz(H:Hp)(a:Addr)(y v:V)(H':Hp):Prop:=
 (∃AJ k,H a=some (.dK AJ)/\y=kV k/\AJ.length<sizeLine/\H'=upd H a (.dK<|DF AJ k v))\/
 ∃AJ k b,H a=some (.dT AJ)/\y=.ref b/\H b=some (.tup<|k.map kV)/\AJ.length<sizeLine/\H'=upd H a (.dT<|DF AJ k v)
section
variable{X:Cx}{AE:List (Addr×Obj)}{σ:St}{H:Hp}{s:Shared}{a:Addr}{y v:V}{u r:Value}{o:Option V}{A:Around}{E:Value->Shared->Prop}
theorem Inv.big(I:Inv X AE σ H s):sysModules<s.heap.objs.size:=by have h:mainGlobals<s.heap.objs.size:=(I.mod.glob.keeps I.bk).lt;exact ABn yJ h
theorem dr{Q:Value->Shared->Prop}(hu:A.units+1<cLine)(I:Inv X AE σ H s)(g:IK H a y<|some v)(ry:RelV y u)(h:∀w' s',Inv X AE σ H s'->RelV v w'->Q w' s') : wpAny (model X.prog X.w) A (getItem (.ref a) u) Q E s:=by
 rcases g with⟨AJ,k,e,ey,l⟩|⟨AJ,k,b,e,ey,eb,l⟩
 .subst ey;obtain⟨z,hd,vs,rel,dd⟩:=J2 I.Ah e;obtain⟨w',hw,Cq⟩:=FJ.some_of (v:=v) (o:=valueAt vs k) (by rw[l];exact rel.val k);exact wpAny_getItem_of (KO ry) dd.mapOf hw<|h w' _ (I.tok _) Cq
 .subst ey;cases (show u=Value.ref b from ry);obtain⟨z,hd,xs,rel,dd⟩:=LO I.Ah e;obtain⟨w',hw,Cq⟩:=FJ.some_of (v:=v) (o:=(atKey xs k).map (·.2)) (by rw[l];exact rel.val k);obtain⟨p,hp,RN⟩:=ACR.mp hw;refine wpAny_getItem_heap (tupleKind_room_in1 hu) (MD I.Ah eb) dd hp ?_;rw[RN];exact h w' _ (I.tok _) Cq
theorem dt{Q:Value->Shared->Prop}(hu:A.units+1<cLine)(I:Inv X AE σ H s)(g:IK H a y o)(ry:RelV y u)(h:∀s',Inv X AE σ H s'->Q (.bool o.isSome) s') : wpAny (model X.prog X.w) A (compareOp .In u<|.ref a) Q E s:=by
 rcases g with⟨AJ,k,e,ey,l⟩|⟨AJ,k,b,e,ey,eb,l⟩
 .subst ey;obtain⟨z,hd,vs,rel,dd⟩:=J2 I.Ah e;refine wpAny_in_of (KO ry) hd dd.mapOf ?_;rw[<-(rel.val k).L3,<-l];exact h _<|I.tok _
 .subst ey;cases (show u=Value.ref b from ry);obtain⟨z,hd,xs,rel,dd⟩:=LO I.Ah e;refine wpAny_in_heap (tupleKind_room_in1 hu) (MD I.Ah eb) hd dd ?_;have q:=(rel.val k).L3;rw[AA9]at q;rw[<-q,<-l];exact h _<|I.tok _
theorem dv{Q:Value->Shared->Prop}(hu:A.units+1<cLine)(I:Inv X AE σ H s)(g:IK H a y o)(ry:RelV y u)(h:∀s',Inv X AE σ H s'->Q (.bool (!o.isSome)) s') : wpAny (model X.prog X.w) A (compareOp .NotIn u<|.ref a) Q E s:=by
 rcases g with⟨AJ,k,e,ey,l⟩|⟨AJ,k,b,e,ey,eb,l⟩
 .subst ey;obtain⟨z,hd,vs,rel,dd⟩:=J2 I.Ah e;refine wpAny_notIn_of (KO ry) hd dd.mapOf ?_;rw[<-(rel.val k).L3,<-l];exact h _<|I.tok _
 .subst ey;cases (show u=Value.ref b from ry);obtain⟨z,hd,xs,rel,dd⟩:=LO I.Ah e;refine wpAny_notIn_heap (tupleKind_room_in1 hu) (MD I.Ah eb) hd dd ?_;have q:=(rel.val k).L3;rw[AA9]at q;rw[<-q,<-l];exact h _<|I.tok _
theorem QZ{h':Heap}{t':Nat}{ob:HO}(I:Inv X AE σ H s)(mu:K8<|H a)(hs:Heap.SameBut a s.heap h')(he:∃q,h'.get? a=some q)(new:By X.prog X.w (upd H a ob) h' a ob) : Inv X AE σ (upd H a ob) {s with heap:=h',toks:=t'}:=
 I.write (x:=a) (e:=a) mu (.inl rfl) (λb q hb z=>(hs.2 b hb).trans z) he new
theorem Vd{P:Program}{w:World}{H':Hp}{h':Heap}{AJ:List (Key×V)}{vs:List (Key×Value)}(z:AJ.length<=sizeLine)(hd:(a==sysModules)=false)(rel:KV AJ vs)(dd:h'.DictOf (D4 P w) a vs) : By P w H' h' a<|.dK AJ:=⟨z,hd,vs,rel,dd⟩
theorem dw{H':Hp}{Q:Unit->Shared->Prop}(hu:A.units+1<cLine)(I:Inv X AE σ H s)(g:Tz H a y v H')(ry:RelV y u)(rv:RelV v r)(h:∀s',Inv X AE σ H' s'->Q () s') : wpAny (model X.prog X.w) A (setItem (.ref a) u r) Q E s:=by
 rcases g with⟨AJ,k,e,ey,l,eH⟩|⟨AJ,k,b,e,ey,eb,l,eH⟩
 .subst ey eH;obtain⟨z,hd,vs,rel,dd⟩:=Ve I.Ah e;have hz:vs.length<=sizeLine:=by rw[<-rel.length];exact z
  have hl:(DF AJ k v).length<=sizeLine:=by have:=R0 AJ k v;omega
  refine wpAny_setItem_pairs (hsz:=hz) (KO ry) dd λh' IX hs=>h _ ?_;have he:∃q,h'.get? a=some q:=let ⟨q,_,_,hq,_⟩:=IX;⟨q,hq⟩
  exact QZ I (by rw[e];exact True.intro) hs he<|Vd hl hd (rel.put k rv) IX
 .subst ey eH;cases (show u=Value.ref b from ry);obtain⟨z,hd,xs,rel,dd⟩:=fJ I.Ah e;have hz:xs.length<=sizeLine:=by rw[<-Paired.length rel];exact z
  have hl:(DF AJ k v).length<=sizeLine:=by have:=R0 AJ k v;omega
  refine wpAny_setItem_heap (hsz:=hz) (tupleKind_room_in1 hu) (MD I.Ah eb) dd λh' IX hs=>h _ ?_;obtain⟨q,es,ep,hq,h2,h3,h4,_,h5⟩:=IX;refine QZ I (by rw[e];exact True.intro) hs ⟨q,hq⟩ ⟨hl,hd,_,(rel.put k eb rv).keeps λc ys ec=>?_,q,es,ep,hq,h2,h3,h4,h5⟩;rw[Be<|lV ec e λz=>nomatch z];exact ec
end
section
variable{X:Cx}{AE:List (Addr×Obj)}{σ:St}{H:Hp}{s:Shared}{a:Addr}{AJ:List (Key×V)}{k:Key}{u:Value}{A:Around}{E:Value->Shared->Prop}
theorem du{Q:Value->Shared->Prop}(I:Inv X AE σ H s)(e:Rd H a<|.dK AJ)(h:∀t s',Inv X AE σ H s'->Q (.int AJ.length t) s'):wpAny (model X.prog X.w) A (call (.builtin "len") [.ref a]) Q E s:=by obtain⟨z,hd,vs,rel,dd⟩:=J2 I.Ah e;refine call_len_dict hd dd (by rw[<-rel.length];rw[sizeLine_eq]at z;omega) ?_;rw[<-rel.length];exact h _ _<|I.tok _
end
def M7(i:Expr):Prop:=∀ov iv,subscripted i false ov iv=operate [ov,iv] (getItem ov iv)
theorem sT{prog:Program}{w:World}{A:Around}{E:Value->Shared->Prop}{s:Shared}{env:Env}{value slice:Expr}{pos:Pos}{T id:String}{Q:Value->Shared->Prop} (hl:typeLookup (.type T) "__getitem__" = pure (some<|.builtin id)) (hs:M7 slice) (h:wpAny (model prog w) A (eval value env) (λo BD=>wpAny (model prog w) A (eval slice env) (λi Fj=>Fj.TypeIs o T/\wpAny (model prog w) A (getItem o i) Q E Fj) E BD) E s) :
 wpAny (model prog w) A (eval (.Subscript value slice pos) env) Q E s:=by
 refine Subscript_<|wpAny_mono h (λo BD Hr=>wpAny_mono Hr (λi Fj L1=>?_) λ_ _ x=>x) λ_ _ x=>x;obtain⟨hT,L1⟩:=L1;unfold subscriptTail;refine wpAny_bind ?_;rw[getitemInPython_of_ne hT.not_modules];refine wpAny_bind<|wpAny_specialOf hT hl ?_;have fin:wpAny (model prog w) A (subscripted slice false o i) (λr ID=>wpAny (model prog w) A (letTemporaryGo value o r >>= λ_=>pure r) Q E ID) E Fj:=by rw[hs o i];exact wpAny_operating<|wpAny_mono L1 (λr ID OC=>wpAny_bind<|wpAny_letTemporaryGo<|wpAny_pure OC) λ_ _ x=>x
 first
  |exact wpAny_pure<|wpAny_bind fin
  |exact wpAny_bind<|wpAny_pure<|wpAny_bind fin
  |exact wpAny_bind fin
theorem eh{X:Cx}{AE:List (Addr×Obj)}{σ:St}{H:Hp}{s:Shared}{a:Addr}{y:V}{o:Option V}(I:Inv X AE σ H s)(g:IK H a y o):s.TypeIs (.ref a) "dict":=by
 rcases g with⟨AJ,k,e,_,_⟩|⟨AJ,k,b,e,_,_,_⟩
 .obtain⟨_,_,vs,_,dd⟩:=J2 I.Ah e;exact dd.typeIs
 .obtain⟨_,_,xs,_,dd⟩:=LO I.Ah e;exact dd.typeIs
def sj(td ty:TE):TE:=λσ H Q=>td σ H λx H1=>ty σ H1 λy H2=>∃a v,x=.ref a/\IK H2 a y (some v)/\Q v H2
def sk(ty td:TE):TE:=λσ H Q=>ty σ H λy H1=>td σ H1 λx H2=>∃a o,x=.ref a/\IK H2 a y o/\Q (.bl o.isSome) H2
def sr(ty td:TE):TE:=λσ H Q=>ty σ H λy H1=>td σ H1 λx H2=>∃a o,x=.ref a/\IK H2 a y o/\Q (.bl (!o.isSome)) H2
def rM(td ty tv:TE):TS:=λD σ H=>tv σ H λv H1=>td σ H1 λx H2=>ty σ H2 λy H3=>∃a H4,x=.ref a/\Tz H3 a y v H4/\D.nx σ H4
section
variable{X:Cx}{o i e value:Expr}{pos pos' Ji:Pos}{td ty tv:TE}
theorem YY(hu:X.A.units+1<cLine)(ho:PE X o td)(hi:PE X i ty)(hs:M7 i):PE X (.Subscript o i pos)<|sj td ty:=by intro AE s σ H Q I h;refine sT PySem.F.slot_dict_getitem.lookup hs<|Ad (ho AE s σ H _ I h) λu s1 ⟨x,H1,I1,rx,q1⟩=>Ad (hi AE s1 σ H1 _ I1 q1) λiv s2 ⟨y,H2,I2,ry,a,v,ex,g,q2⟩=>?_;subst ex;obtain rfl:u=Value.ref a:=rx;exact⟨eh I2 g,dr hu I2 g ry λw' s3 I3 Cq=>⟨v,H2,I3,Cq,q2⟩⟩
theorem nB(hu:X.A.units+1<cLine)(hi:PE X i ty)(ho:PE X o td):PC X .In i o<|sk ty td:=by intro AE s σ H Q I h;refine Ad (hi AE s σ H _ I h) λiv s1 ⟨y,H1,I1,ry,q1⟩=>Ad (ho AE s1 σ H1 _ I1 q1) λu s2 ⟨x,H2,I2,rx,a,ov,ex,g,q2⟩=>?_;subst ex;obtain rfl:u=Value.ref a:=rx;exact dt hu I2 g ry λs3 I3=>⟨.bl ov.isSome,H2,I3,rfl,q2⟩
theorem nC(hu:X.A.units+1<cLine)(hi:PE X i ty)(ho:PE X o td):PC X .NotIn i o<|sr ty td:=by intro AE s σ H Q I h;refine Ad (hi AE s σ H _ I h) λiv s1 ⟨y,H1,I1,ry,q1⟩=>Ad (ho AE s1 σ H1 _ I1 q1) λu s2 ⟨x,H2,I2,rx,a,ov,ex,g,q2⟩=>?_;subst ex;obtain rfl:u=Value.ref a:=rx;exact dv hu I2 g ry λs3 I3=>⟨.bl (!ov.isSome),H2,I3,rfl,q2⟩
theorem Yn(hu:X.A.units+1<cLine)(ho:PE X o td)(hi:PE X i ty)(hv:PE X value tv)(hs:swapsWith value (some<|.Subscript o i pos') pos.line X.env=pure false) : PS X (.Assign [.Subscript o i pos'] value pos)<|rM td ty tv:=by intro AE s σ H D I h;refine wpAny_Assign_Subscript (Ad (hv AE s σ H _ I h) λr s1 ⟨v,H1,I1,rv,q1⟩=>Ad (ho AE s1 σ H1 _ I1 q1) λu s2 ⟨x,H2,I2,rx,q2⟩=>Ad (hi AE s2 σ H2 _ I2 q2) λiv s3 ⟨y,H3,I3,ry,a,H4,ex,g,q3⟩=>?_) hs;subst ex;obtain rfl:u=Value.ref a:=rx;exact dw hu I3 g ry rv λs4 I4=>⟨σ,H4,I4,q3⟩
end
theorem e9{P:Program}{w:World}{H:Hp}(h:Heap)(hb:sysModules<h.objs.size):By P w H (h.push {cls:=.type "dict",data:=.dict #[]}) h.objs.size<|.dK []:=
 ⟨AAR _,yo.mpr<|zo<|yu hb,[],.nil,Heap.DictOf.new h⟩
theorem fI{P:Program}{w:World}{H:Hp}(h:Heap)(hb:sysModules<h.objs.size):By P w H (h.push {cls:=.type "dict",data:=.dict #[]}) h.objs.size<|.dT []:=
 ⟨AAR _,yo.mpr<|zo<|yu hb,[],.nil,_,#[],0,Heap.get?_push_size _ rfl,⟨rfl,rfl,rfl⟩,rfl,rfl,ACZ⟩
def so:TE:=λ_ H Q=>∀p,H p=none->Q (.ref p) (upd H p<|.dT [])
section
variable{X:Cx}{pos:Pos}
theorem nM:PE X (.Dict [] [] pos) so:=λAE s σ H Q I h=>
 wpAny_Dict_empty ⟨.ref s.heap.objs.size,_,I.laid (a:=s.heap.objs.size) (o:=.dT []) (t':=s.toks) (λ_ _ q=>Heap.get?_push_of_some _ q) (yf _)<|fI s.heap I.big,rfl,h _<|I.Ah.fresh<|yf _⟩
end
def Tc:List (TE×TE)->St->Hp->(List (V×V)->Hp->Prop)->Prop
 |[],_,H,Q=>Q [] H
 |(tk,tv)::r,σ,H,Q=>tk σ H λx H1=>tv σ H1 λy H2=>Tc r σ H2 λps H3=>Q ((x,y)::ps) H3
abbrev VV:List (V×V)->List (Value×Value)->Prop:=Paired λp q=>RelV p.1 q.1/\RelV p.2 q.2
def M8(X:Cx)(pos:Pos)(keys:List<|Option Expr)(values:List Expr)(HH:List<|TE×TE):Prop:=
 ∀(AE:List<|Addr×Obj)(s:Shared)(σ:St)(H:Hp)(Q:List (V×V)->Hp->Prop),Inv X AE σ H s->Tc HH σ H Q->wpAny (model X.prog X.w) X.A (evalPairs<|pairTrees keys values X.env pos) (λvs s'=>∃ps H',Inv X AE σ H' s'/\VV ps vs/\Q ps H') X.xe s
theorem oJ{X:Cx}{pos:Pos}:M8 X pos [] [] []:=λAE s σ H Q I h=>pairTrees_nil_walk ⟨[],H,I,.nil,h⟩
theorem Yh{X:Cx}{pos:Pos}{k v:Expr}{ks:List (Option Expr)}{vs:List Expr}{tk tv:TE}{HH:List (TE×TE)}(hk:PE X k tk)(hv:PE X v tv)(hr:M8 X pos ks vs HH) : M8 X pos (some k::ks) (v::vs) ((tk,tv)::HH):=λAE s σ H Q I h=>
 pairTrees_cons_walk (Ad (hk AE s σ H _ I h) λu s1 ⟨x,H1,I1,rx,q1⟩=>Ad (hv AE s1 σ H1 _ I1 q1) λw2 s2 ⟨y,H2,I2,ry,q2⟩=>
  Ad (hr AE s2 σ H2 _ I2 q2) λws s3 ⟨ps,H3,I3,rel,q3⟩=>⟨(x,y)::ps,H3,I3,.cons ⟨rx,ry⟩ rel,q3⟩)
def JP(AJ more:List<|Key×V):List<|Key×V:=more.foldl (λacc kv=>DF acc kv.1 kv.2) AJ
theorem KV.merge:∀{more:List (Key×V)}{rs:List (Key×Value)}{AJ:List (Key×V)}{vs:List (Key×Value)},KV more rs->KV AJ vs->KV (JP AJ more) (merged vs rs):=by
 intro more rs AJ vs r;unfold KV at r
 induction r generalizing AJ vs with
 |nil=>intro q;exact q
 |@cons p q ps qs h t ih=>
  intro r0;have e:KV (DF AJ p.1 p.2)<|stored vs q.1 q.2:=by have:=r0.put p.1 h.2;rw[<-h.1];exact this
  exact ih e
theorem Xc:∀(more AJ:List<|Key×V),(JP AJ more).length<=AJ.length+more.length
 |[],AJ=>by show AJ.length<=AJ.length+0;omega
 |p::r,AJ=>by have h1:=Xc r<|DF AJ p.1 p.2;have h2:=R0 AJ p.1 p.2;show(JP (DF AJ p.1 p.2) r).length<=_;rw[yn];omega
theorem Uh{P:Program}{w:World}:∀{AJ:List (Key×V)}{ws:List (Value×Value)},VV (AJ.map λkv=>(kV kv.1,kv.2)) ws->∃rs,Carries (D4 P w) ws rs/\KV AJ rs
 |[],_,r=>by rw[ABB]at r;cases r;exact⟨[],True.intro,.nil⟩
 |p::AJ,_,r=>by
  rw[ye]at r;cases r with
  |@cons a b as bs h t=>
   obtain⟨rs,c,q⟩:=Uh (P:=P) (w:=w) t;obtain⟨b1,b2⟩:=b;exact⟨(p.1,b2)::rs,⟨KO h.1,rfl,c⟩,.cons ⟨rfl,h.2⟩ q⟩
def sy(HH:List<|TE×TE):TE:=λσ H Q=>∀p,H p=none->Tc HH σ (upd H p<|.dK []) λps H2=>H2 p=some (.dK [])/\∃AJ:List<|Key×V,ps=AJ.map (λkv=>(kV kv.1,kv.2))/\AJ.length<=15/\Q (.ref p) (upd H2 p<|.dK<|JP [] AJ)
theorem nL{X:Cx}{pos:Pos}{keys:List (Option Expr)}{values:List Expr}{HH:List (TE×TE)}(h:M8 X pos keys values HH)(BU:keys.all (·.isSome)=true)(hl:keys.length=values.length)(h0:keys≠[]) (g6:keys.length<=15):PE X (.Dict keys values pos)<|sy HH:=by
 intro AE s σ H Q I q;have hn:=I.Ah.fresh<|yf s.heap.objs.size;have I1:=I.laid (a:=s.heap.objs.size) (o:=.dK []) (h':=s.heap.push {cls:=.type "dict",data:=.dict #[]}) (t':=s.toks) (λ_ _ q=>Heap.get?_push_of_some _ q) (yf _)<|e9 s.heap I.big;refine wpAny_Dict_walk (knd:=D4 X.prog X.w) BU hl h0 g6<|Ad (h AE _ σ _ _ I1<|q _ hn) λws s2 ⟨ps,H2,I2,rel,e,AJ,ep,lk,q2⟩=>?_;subst ep;obtain⟨rs,c,rk⟩:=Uh (P:=X.prog) (w:=X.w) rel;obtain⟨z,hd,yD,r0,dd⟩:=Ve I2.Ah e;cases r0;refine⟨rs,c,dd,λh' IX hs=>⟨.ref s.heap.objs.size,_,?_,rfl,q2⟩⟩;have hz:(JP [] AJ).length<=sizeLine:=by have h1:=Xc AJ [];rw[zq]at h1;rw[sizeLine_eq];omega
 have he:∃q,h'.get? s.heap.objs.size=some q:=let ⟨q,_,_,hq,_⟩:=IX;⟨q,hq⟩
 exact QZ I2 (by rw[e];exact True.intro) hs he<|Vd hz hd (rk.merge .nil) IX
end L2
set_option linter.all false
namespace L2
set_option tactic.hygienic true
open PySem
noncomputable def DU(cells:List<|Str×Addr):List (Str×NameKind)->List (Str×Addr)->List (Str×Addr)
 |[],acc=>acc
 |(n,k)::r,acc=>if(k==NameKind.free)=true then(match cells.lookup n with|some c=>DU cells r ((n,c)::acc)|none=>DU cells r acc)else DU cells r acc
theorem Um{scope:Scope}{env:Env}(h:∀y∈scope.names,y.2=.free->∃c,env.cells.lookup y.1=some c):closureFor scope env=pure (DU env.cells scope.names []):=by
 simp only[closureFor];generalize ([]:List<|Str×Addr)=acc;revert h acc;generalize scope.names=l
 induction l with
 |nil=>intro h acc;simp[DU]
 |cons x r ih=>
  intro h acc;obtain⟨n,k⟩:=x;rw[List.forIn_cons];by_cases hk:(k==NameKind.free)=true
  .have Bc:k=.free:=by simpa using hk
   obtain⟨c,hc⟩:=h (n,k) (yq) Bc;have F7:cellOf env n=pure c:=by unfold cellOf;rw[show env.cells.lookup n=some c from hc]
   simp only[DU,hk,AAW,F7,pure_bind];rw[show List.lookup n env.cells=some c from hc];exact ih (λy hy=>h y<|yj _ hy) _
  .simp only[DU,hk,AA6,pure_bind,AAc];exact ih (λy hy=>h y<|yj _ hy) _
theorem Gi{cells:List (Str×Addr)}:∀{l:List (Str×NameKind)}{acc:List (Str×Addr)}{x:Str}{c:Addr},(∀y d,acc.lookup y=some d->cells.lookup y=some d)->(DU cells l acc).lookup x=some c->cells.lookup x=some c
 |[],acc,x,c,ha,h=>ha x c h
 |(n,k)::r,acc,x,c,ha,h=>by
  unfold DU at h;split at h
  .split at h
   .rename_i d hd;refine Gi (l:=r) (acc:=(n,d)::acc) (λy e hy=>?_) h;rw[AAL]at hy;split at hy
    .rename_i jk;have:y=n:=by simpa using jk
     subst this;rw[hd];exact hy
    .exact ha y e hy
   .exact Gi (l:=r) ha h
  .exact Gi (l:=r) ha h
theorem dQ{prog:Program}{w:World}{A:Around}{R:Result->Shared->Prop}{s:Shared}{elt Ko iter:Expr}{ifs:List Expr}{scope:Scope}{pos:Pos}{it acc:Value}{env:Env}(I:Nat->Shared->Prop) (turn:∀n s,I n s->wpAny (model prog w) A (pyNext it) (λr BD=>match r with
  |none=>R (.ok .next) BD
  |some v=>wpAny (model prog w) A (letOwnedTupleGo Ko it v) (λ_ ZP=>wpAny (model prog w) A (assign Ko env v) (λ_ Fj=>
   wpAny (model prog w) A (forIn ifs true λc r=>if r=true then do let ok<-isTrue c env<|eval c env;pure (ForInStep.yield ok)else pure (ForInStep.yield r)) (λok ID=>
    if ok=true then wpAny (model prog w) A (eval elt env) (λx O8=>
     wpAny (model prog w) A (call (.builtin "list.append") [acc,x]) (λ_ ZQ=>∃m,m<n/\I m ZQ) (λ_ _=>False) O8) (λ_ _=>False) ID
    else ∃m,m<n/\I m ID) (λ_ _=>False) Fj) (λ_ _=>False) ZP) (λ_ _=>False) BD) (λ_ _=>False) s)
 (n:Nat) (h:I n s) :
 codeAny (model prog w) A (.compLoop (.ListComp elt [⟨Ko,iter,ifs,0⟩] scope pos) 0 it acc env) R s:=by
 refine codeAny_loop rfl I (λn s hI=>?_) n h;show wpAny _ A ((compTurn (.ListComp elt [⟨Ko,iter,ifs,0⟩] scope pos) 0 it acc env).onRaise (λx=>do noteFrame x env;theTreesLotGoes x)) _ _ s;refine wpAny_noted ?_;rw[compTurn_list];refine wpAny_bind<|wpAny_standAt<|wpAny_bind<|wpAny_mono (turn n s hI) (λr BD Hr=>?_) λ_ _ h'=>False.elim h';cases r with
 |none=>exact wpAny_pure Hr
 |some v=>
  refine wpAny_bind<|wpAny_mono Hr (λ_ ZP jl=>?_) λ_ _ h'=>False.elim h';refine wpAny_bind<|wpAny_mono jl (λ_ Fj L1=>wpAny_bind<|wpAny_mono L1 (λok ID OC=>?_) λ_ _ h'=>False.elim h') λ_ _ h'=>False.elim h';cases ok with
  |false=>exact wpAny_pure ⟨rfl,OC⟩
  |true=>
   exact wpAny_bind<|wpAny_bind<|wpAny_mono OC (λx O8 jm=>wpAny_bind<|wpAny_mono jm (λ_ ZQ jo=>wpAny_pure<|wpAny_pure ⟨rfl,jo⟩) λ_ _ h'=>False.elim h') λ_ _ h'=>False.elim h'
end L2
set_option linter.all false
namespace ST
open PySem PySem.SetTable
theorem Ur(l:List Nat)(j:Nat):l.countP (· < j)<=l.length:=List.countP_le_length
theorem Mc:∀(l:List Nat)(j:Nat),l.Pairwise (· < ·)->∀i (h:i<l.length),(l[i]<j↔i<l.countP (· < j))
 |[],_,_,i,h=>by simp at h
 |x::r,j,hs,i,h=>by
  obtain⟨h1,h2⟩:=ABT.mp hs;by_cases hx:x<j
  .rw[List.countP_cons_of_pos<|by simpa using hx];cases i with
   |zero=>simp[hx]
   |succ i=>
    have:=Mc r j h2 i (by simpa using h);simp only[AA7];lia
  .have BU:∀y∈r,¬ y<j:=λy hy=>by have:=h1 y hy;lia
   have h0:r.countP (· < j)=0:=ABN.mpr λy hy=>by simpa using BU y hy
   rw[List.countP_cons_of_neg (by simpa using hx),h0];cases i with
   |zero=>simp[hx]
   |succ i=>
    simp only[AA7];have:=BU _ (ABH<|by simpa using h);lia
theorem QM(xs:Array Nat)(j:Nat)(hs:xs.toList.Pairwise (· < ·)):∀(f lo hi:Nat),hi-lo<=f->hi<=xs.size->lo<=xs.toList.countP (· < j)->xs.toList.countP (· < j)<=hi->below.go xs j f lo hi=xs.toList.countP (· < j)
 |0,lo,hi,h1,h2,h3,h4=>by unfold below.go;lia
 |f+1,lo,hi,h1,h2,h3,h4=>by
  unfold below.go;by_cases BN:lo<hi
  .rw[yO BN];have hm:(lo+hi) / 2<xs.size:=U
   have hg:xs.getD ((lo+hi) / 2) j=xs.toList[(lo+hi) / 2]'(by simpa using hm):=by simp[Array.getD,hm]
   have:=Mc xs.toList j hs ((lo+hi) / 2) (by simpa using hm);dsimp only;rw[hg];by_cases hc:xs.toList[(lo+hi) / 2]'(by simpa using hm)<j
   .rw[yO hc];exact QM xs j hs f _ hi U h2 U h4
   .rw[yN hc];exact QM xs j hs f lo _ U U h3 (by have:=λz=>hc<|this.mpr z;lia)
  .rw[yN BN];lia
theorem QL(xs:Array Nat)(j:Nat)(hs:xs.toList.Pairwise (· < ·)):below xs j=xs.toList.countP (· < j):=by exact QM xs j hs xs.size 0 xs.size U (yf _) (AAR _) (by have:=Ur xs.toList j;simpa using this)
theorem LI(xs:Array Nat)(j:Nat)(hs:xs.toList.Pairwise (· < ·))(i:Nat)(h:xs[i]? = some j):below xs j=i:=by
 obtain⟨hi,e⟩:=ABI.mp h;rw[QL xs j hs];have h1:=Mc xs.toList j hs i (by simpa using hi);have e':xs.toList[i]'(by simpa using hi)=j:=by simpa using e
 rw[e']at h1;by_cases h3:xs.toList.countP (· < j)=i
 .exact h3
 .have hl:xs.toList.countP (· < j)<xs.toList.length:=by rw[AAN];lia
  have h4:=Mc xs.toList j hs _ hl;have h5:=za.mp hs _ _ hl (by simpa using hi) U;rw[e']at h5;lia
theorem ZA{t:SetTable}(hs:t.place.toList.Pairwise (· < ·)){i j:Nat}(h:t.place[i]? = some j):t.slot j=.live i:=by unfold slot;dsimp only;rw[LI _ _ hs i h,h];simp
theorem sD{t:SetTable}(hd:t.dummies=#[]){j:Nat}(h:j∉t.place.toList):t.slot j=.empty:=by
 unfold slot;have h1:¬ (t.place[below t.place j]? == some j)=true:=by intro z;rw[AAS]at z;have:=Array.mem_of_getElem? z;exact h<|by simpa using this
 rw[yN h1];have h2:has t.dummies j=false:=by rw[hd];simp[has]
 rw[h2];simp
theorem j0(xs:Array Nat)(j:Nat)(hs:xs.toList.Pairwise (· < ·))(hj:j∉xs.toList):(insertAt xs (below xs j) j).toList.Pairwise (· < ·):=by
 rw[SetTable.toList_insertAt,QL xs j hs];have E1:=Mc xs.toList j hs;rw[zx];refine⟨hs.sublist<|AB5 _ _,?_,?_⟩
 .rw[ABT];refine⟨λy hy=>?_,hs.sublist<|List.drop_sublist _ _⟩;obtain⟨k,hk,e⟩:=AAX hy;rw[List.getElem_drop]at e;rw[ABG]at hk;have:=E1 (xs.toList.countP (· < j)+k) U;have As:y≠j:=λz=>hj<|z ▸ ABo hy;rw[e]at this;lia
 .intro a ha b hb;obtain⟨k,hk,e⟩:=AAX ha;rw[List.getElem_take]at e;rw[AAY]at hk;have h1:=E1 k U;rw[e]at h1;have Nk:=h1.mpr U;rcases yw.mp hb with rfl|hb
  .exact Nk
  .obtain⟨k',Bc,e'⟩:=AAX hb;rw[List.getElem_drop]at e';rw[ABG]at Bc;have:=E1 (xs.toList.countP (· < j)+k') U;rw[e']at this;lia
noncomputable def B5(mask i:Nat):Nat:=runEnd mask i-i
theorem rF(mask i:Nat):B5 mask i<=9:=by unfold B5 runEnd;split<;>lia
def Gg(mask:Nat)(p:Probe):Probe:=
 if p.more>0 then {p with j:=p.j+1,more:=p.more-1}else
 {p with j:=(leap mask p.i p.perturb).1,more:=B5 mask (leap mask p.i p.perturb).1,i:=(leap mask p.i p.perturb).1,perturb:=(leap mask p.i p.perturb).2}
def sO(mask:Nat)(h:Int):Probe:={j:=bits h%(mask+1),more:=B5 mask<|bits h%(mask+1),i:=bits h%(mask+1),perturb:=bits h,dummy:=none}
def road(mask:Nat)(h:Int):Nat->Probe
 |0=>sO mask h
 |n+1=>Gg mask<|road mask h n
theorem Y3(mask:Nat)(h:Int):∀n,(road mask h n).dummy=none
 |0=>rfl
 |n+1=>by have:=Y3 mask h n;unfold road Gg;split<;>simpa using this
noncomputable def BJ(mask:Nat):Nat->Nat×Nat->Nat×Nat
 |0,x=>x
 |n+1,x=>leap mask (BJ mask n x).1 (BJ mask n x).2
noncomputable def L0(mask:Nat)(h:Int):Nat×Nat:=(bits h%(mask+1),bits h)
theorem Ow(mask:Nat)(h:Int)(r i pt:Nat)(hr:road mask h r=⟨i,B5 mask i,i,pt,none⟩):∀k,k<=B5 mask i->road mask h (r+k)=⟨i+k,B5 mask i-k,i,pt,none⟩
 |0,_=>by simpa using hr
 |k+1,hk=>by have ih:=Ow mask h r i pt hr k U;show Gg mask (road mask h<|r+k)=_;rw[ih];unfold Gg;rw[yO (by show B5 mask i-k>0;lia)];simp only[and_true];lia
theorem Y4(mask:Nat)(h:Int):∀n,∃r,r<=10*n/\road mask h r=⟨(BJ mask n<|L0 mask h).1,B5 mask (BJ mask n<|L0 mask h).1,(BJ mask n<|L0 mask h).1,(BJ mask n<|L0 mask h).2,none⟩
 |0=>⟨0,yf _,rfl⟩
 |n+1=>by
  obtain⟨r,hr,e⟩:=Y4 mask h n;have h1:=Ow mask h r _ _ e _<|yf _;have hl:=rF mask (BJ mask n<|L0 mask h).1;refine⟨r+B5 mask (BJ mask n<|L0 mask h).1+1,U,?_⟩;show Gg mask (road mask h<|r+B5 mask (BJ mask n<|L0 mask h).1)=_;rw[h1];unfold Gg;rw[yN (by show ¬ (B5 mask _-B5 mask _>0);lia)]
  rfl
theorem b8(h:Int):bits h<2 ^ 64:=by unfold bits;lia
theorem Xa(mask:Nat)(x:Nat×Nat):∀n,(BJ mask n x).2=x.2 / 32 ^ n
 |0=>by simp[BJ]
 |n+1=>by unfold BJ leap;dsimp only;rw[Xa mask x n,Nat.div_div_eq_div_mul,Nat.pow_succ]
theorem nY(mask:Nat)(h:Int)(n:Nat)(hn:13<=n):(BJ mask n<|L0 mask h).2=0:=by rw[Xa];have h1:=b8 h;have h2:2 ^ 64<=32 ^ n:=zT yJ<|Nat.pow_le_pow_right yJ hn;exact Nat.div_eq_of_lt<|zB h1 h2
noncomputable def AA(mask:Nat):Nat->Nat->Nat
 |0,i=>i
 |n+1,i=>(AA mask n i*5+1)%(mask+1)
theorem XZ(mask:Nat)(h:Int):∀n,(BJ mask (13+n)<|L0 mask h).1=AA mask n (BJ mask 13<|L0 mask h).1
 |0=>rfl
 |n+1=>by show(leap mask (BJ mask (13+n)<|L0 mask h).1 (BJ mask (13+n)<|L0 mask h).2).1=_;rw[nY mask h (13+n) U,XZ mask h n];show(AA mask n _*5+1+0 / 32)%(mask+1)=(AA mask n _*5+1)%(mask+1);simp
theorem ko(mask:Nat)(h:Int):∀n,(BJ mask n<|L0 mask h).1<mask+1
 |0=>ACd _<|ACC _
 |n+1=>ACd _<|ACC _
theorem dh:∀i<8,∀j<8,∃n<8,AA 7 n i=j:=yJ
theorem dg:∀i<32,∀j<32,∃n<32,AA 31 n i=j:=yK
def Good(mask:Nat):Prop:=mask=7\/mask=31
theorem Xb{mask:Nat}(hm:Good mask)(h:Int){j:Nat}(hj:j<=mask):∃n,n<turns mask-1/\(BJ mask n<|L0 mask h).1=j:=by
 have hl:=ko mask h 13;have:∃n<mask+1,AA mask n (BJ mask 13<|L0 mask h).1=j:=by
  rcases hm with rfl|rfl
  .exact dh _ hl j U
  .exact dg _ hl j U
 obtain⟨n,hn,e⟩:=this;exact⟨13+n,by unfold turns;lia,by rw[XZ];exact e⟩
theorem rB{mask:Nat}(hm:Good mask)(h:Int){j:Nat}(hj:j<=mask):∃n,n<10*turns mask/\(road mask h n).j=j:=by obtain⟨n,hn,e⟩:=Xb hm h hj;obtain⟨r,hr,er⟩:=Y4 mask h n;exact⟨r,by unfold turns at *;lia,by rw[er];exact e⟩
theorem X1:∀(l1 l2:List Nat),l1.Nodup->(∀x∈l1,x∈l2)->l1.length<=l2.length
 |[],_,_,_=>AAR _
 |x::r,l2,hn,hs=>by obtain⟨h1,h2⟩:=AAV.mp hn;have hx:=hs x yq;have:=X1 r (l2.erase x) h2 λy hy=>(List.mem_erase_of_ne (show y≠x from λz=>h1<|z ▸ hy)).mpr<|hs y<|yj _ hy;rw[List.length_erase_of_mem hx]at this;have hp:=ABd hx;rw[yn];lia
theorem WK(mask:Nat)(L:List Nat)(hn:L.Nodup)(hl:L.length<=mask)(hle:∀j∈L,j<=mask):∃j,j<=mask/\j∉L:=by refine zb λh=>?_;have BU:∀j,j∈List.range (mask+1)->j∈L:=λj hj=>zb λz=>h ⟨j,by have:=yS.mp hj;lia,z⟩;have:=X1 _ _ (ABk) BU;rw[zA]at this;lia
theorem gN{mask:Nat}(hm:Good mask)(h:Int)(L:List Nat)(hn:L.Nodup)(hl:L.length<=mask)(hle:∀j∈L,j<=mask):∃n,n<10*turns mask/\(road mask h n).j∉L/\∀m<n,(road mask h m).j∈L:=by
 obtain⟨j,hj,i6⟩:=WK mask L hn hl hle;obtain⟨n,hn,e⟩:=rB hm h hj;have key:∀k,(∃n,n<k/\(road mask h n).j∉L)->∃n,n<k/\(road mask h n).j∉L/\∀m<n,(road mask h m).j∈L:=by
  intro k
  induction k with
  |zero=>rintro⟨n,hn,_⟩;lia
  |succ k ih=>
   rintro⟨n,hn,e⟩;by_cases hex:∃n,n<k/\(road mask h n).j∉L
   .obtain⟨n',h1,h2,h3⟩:=ih hex;exact⟨n',U,h2,h3⟩
   .have jM:n=k:=by
     by_cases z:n<k
     .exact absurd ⟨n,z,e⟩ hex
     .lia
    subst jM;exact⟨n,hn,e,λm hm=>zb λz=>hex ⟨m,hm,z⟩⟩
 exact key _ ⟨n,hn,by rw[e];exact i6⟩
end ST
set_option linter.all false
namespace ST
open PySem PySem.SetTable
theorem Yk{t:SetTable}(hs:t.place.toList.Pairwise (· < ·))(hd:t.dummies=#[])(hashAt:Nat->Int)(h:Int)(N:Nat)(hN:(road t.mask h N).j∉t.place.toList):∀(f n:Nat),n<=N->N-n<f->(∀m,n<=m->m<N->(road t.mask h m).j∈t.place.toList)->(∃m i,n<=m/\m<N/\t.place[i]? = some (road t.mask h m).j/\hashAt i=h/\(∀k,n<=k->k<m->∀i',t.place[i']? = some (road t.mask h k).j->hashAt i'≠h)/\probe.go t hashAt h f (road t.mask h n)=some (.candidate (road t.mask h m).j i<|road t.mask h<|m+1))\/((∀k,n<=k->k<N->∀i',t.place[i']? = some (road t.mask h k).j->hashAt i'≠h)/\probe.go t hashAt h f (road t.mask h n)=some (.empty (road t.mask h N).j none))
 |0,n,_,hf,_=>U
 |f+1,n,hn,hf,BU=>by
  by_cases he:n=N
  .subst he;right;refine⟨λk h1 h2=>U,?_⟩;unfold probe.go;rw[sD hd hN];rw[Y3]
  .have GA:=BU n (yf _) U;obtain⟨i,hi⟩:=AAp GA;have CP:=by simpa using hi
   have W3:=ZA hs CP;have inj:∀i',t.place[i']? = some (road t.mask h n).j->i'=i:=λi' e=>by rw[<-LI _ _ hs i' e,LI _ _ hs i CP]
   by_cases hh:hashAt i=h
   .left;refine⟨n,i,yf _,U,CP,hh,λk h1 h2=>U,?_⟩;unfold probe.go;rw[W3];dsimp only;rw[yO<|by simpa using hh]
    rfl
   .have step:probe.go t hashAt h (f+1) (road t.mask h n)=probe.go t hashAt h f (road t.mask h<|n+1):=by
     conv=>lhs;unfold probe.go
     rw[W3];dsimp only;rw[yN<|by simpa using hh]
     rfl
    rw[step];have As:∀i',t.place[i']? = some (road t.mask h n).j->hashAt i'≠h:=λi' e=>by rw[inj i' e];exact hh
    rcases Yk hs hd hashAt h N hN f (n+1) U U (λm h1 h2=>BU m U h2)with⟨m,i2,h1,h2,h3,h4,h5,h6⟩|⟨h5,h6⟩
    .left;refine⟨m,i2,U,h2,h3,h4,λk k1 k2=>?_,h6⟩;by_cases kn:k=n
     .subst kn;exact As
     .exact h5 k U k2
    .right;refine⟨λk k1 k2=>?_,h6⟩;by_cases kn:k=n
     .subst kn;exact As
     .exact h5 k U k2
section
variable{prog:Program}{w:World}{A:Around}{E:Value->Shared->Prop}{s:Shared}
abbrev knd(prog:Program)(w:World):=intKind prog w
noncomputable abbrev BA(prog:Program)(w:World)(k:List Int):Int:=tupleKeyHash (knd prog w) k
structure EZ(prog:Program)(w:World)(h:Heap)(es:Array (Int×Value))(t:SetTable)(kk:List (List Int)):Prop where
 IY:t.dummies=#[]
 Ka:Good t.mask
 C7:t.place.toList.Pairwise (· < ·)
 le:∀j∈t.place.toList,j<=t.mask
 sz:t.place.size=es.size
 NT:es.size*5<t.mask*3
 len:kk.length=es.size
 ent:∀(i:Nat)(hh:Int)(v:Value),es[i]? = some (hh,v)->∃k b,kk[i]? = some k/\v=.ref b/\IsTupleKey (knd prog w) h k b/\hh=BA prog w k
 nd:kk.Nodup
 reach:∀(i j:Nat)(k:List Int),t.place[i]? = some j->kk[i]? = some k->∃n,(road t.mask (BA prog w k) n).j=j/\∀m<n,(road t.mask (BA prog w k) m).j∈t.place.toList
theorem EZ.fits{h:Heap}{es:Array (Int×Value)}{t:SetTable}{kk:List (List Int)}(T:EZ prog w h es t kk):t.fits es.size=true:=by unfold SetTable.fits SetTable.fill;rw[T.IY,T.sz];have:=T.NT;simp;lia
theorem EZ.gq{h:Heap}{es:Array (Int×Value)}{t:SetTable}{kk:List (List Int)}(T:EZ prog w h es t kk):t.gaveWay=false:=by unfold SetTable.gaveWay;rcases T.Ka with e|e<;>rw[e]<;>rfl
theorem ll(n:Nat){v:Value}(h:carriedByValue v=true):ofAClassStatement n v=pure false:=by
 cases v with
 |ref a=>simp[carriedByValue]at h
 |_=>first|rfl|(cases n<;>rfl)
theorem Zz{ks:List Int}{b:Addr}{Q:Bool->Shared->Prop}(hk:IsTupleKey (knd prog w) s.heap ks b)(h:Q false s):wpAny (model prog w) A (ofAClassStatement 8<|.ref b) Q E s:=by
 have hT:=hk.typeIs;obtain⟨o,items,n,ho,hc,hd,hi⟩:=hk;unfold ofAClassStatement;refine wpAny_bind<|wpAny_typeOf hT ?_;refine wpAny_bind<|wpAny_pure ?_;refine wpAny_bind<|wpAny_seqItems ho hd ?_;refine wpAny_bind ?_;rw[<-Array.forIn_toList];refine wpAny_forIn_list _ (λBI r s'=>r.1=none/\s'=s/\∀v∈BI,carriedByValue v=true) _ ?_ ?_ _ _ ⟨rfl,rfl,hi.byValue⟩
 .rintro v BI r s' ⟨hr,rfl,BU⟩;rw[ll _<|BU v yq];exact wpAny_pure ⟨rfl,rfl,λu Rb=>BU u<|yj _ Rb⟩
 .rintro⟨r1,r2⟩ s' ⟨hr,rfl,_⟩;subst hr;exact wpAny_pure h
theorem vI{k:List Int}{b:Addr}{l:List Value}{Q:Bool->Shared->Prop}(hx:IsTupleKey (knd prog w) s.heap k b)(hl:∀v∈l,∃k' b',v=.ref b'/\IsTupleKey (knd prog w) s.heap k' b')(h:Q false s):wpAny (model prog w) A (searchCouldBeSeen (.ref b) l) Q E s:=by
 refine wpAny_bind ?_;refine wpAny_forIn_list _ (λBI r s'=>r.1=none/\s'=s/\∀v∈BI,∃k' b',v=.ref b'/\IsTupleKey (knd prog w) s.heap k' b') _ ?_ ?_ _ _ ⟨rfl,rfl,hl⟩
 .rintro v BI r s' ⟨hr,rfl,BU⟩;obtain⟨k',b',rfl,Bc⟩:=BU v yq;have Wz:=λu hu=>BU u<|yj _ hu;refine wpAny_ite_split (λ_=>wpAny_pure ⟨rfl,rfl,Wz⟩) λ_=>?_;refine wpAny_bind<|wpAny_eqIsQuiet_tuple hx ?_;refine wpAny_bind<|wpAny_eqIsQuiet_tuple Bc ?_;refine wpAny_bind<|Zz hx ?_;refine wpAny_bind<|Zz Bc ?_;exact wpAny_pure ⟨rfl,rfl,Wz⟩
 .rintro⟨r1,r2⟩ s' ⟨hr,rfl,_⟩;subst hr;exact wpAny_pure h
theorem Z0{a:Addr}{o:Obj}{es:Array (Int×Value)}{ep:Nat}{t:SetTable}{kk:List (List Int)}{k:List Int}{b:Addr}{N:Nat}{Q:SetFound->Shared->Prop} (ho:s.heap.get? a=some o) (hd:o.data=.set es ep t) (T:EZ prog w s.heap es t kk) (hu:A.units<cLine) (hx:IsTupleKey (knd prog w) s.heap k b) (Li:N<10*turns t.mask) (hN:(road t.mask (BA prog w k) N).j∉t.place.toList) (BU:∀m<N,(road t.mask (BA prog w k) m).j∈t.place.toList) (h1:k∈kk->Q (.there none) s) (h2:k∉kk->Q (.free (road t.mask (BA prog w k) N).j false) s) : ∀(f n:Nat)(TJ:Option Probe),TJ.getD (t.probeStart<|BA prog w k)=road t.mask (BA prog w k) n->n<=N->N-n<f->(∀(i j:Nat),kk[i]? = some k->t.place[i]? = some j->∀m<n,(road t.mask (BA prog w k) m).j≠j)->
  wpAny (model prog w) A (setSearchFrom a (.ref b) (BA prog w k) true f TJ) Q E s
 |0,n,_,_,_,hf,_=>U
 |f+1,n,TJ,FY,hn,hf,Wq=>by
  refine wpAny_bind<|wpAny_setState_of ho hd T.fits ?_;dsimp only;rw[T.gq];simp only[AAc,AA6];rw[FY];have RS:=Yk T.C7 T.IY (λi=>(es[i]?.map (·.1)).getD 0) (BA prog w k) N hN (10*turns t.mask) n hn U λm _ hm=>BU m hm;rcases RS with⟨m,i,m1,m2,m3,m4,m5,m6⟩|⟨m5,m6⟩
  .generalize RP:SetTable.probe t _ _ _=pr;have Lu:=RP.symm.trans m6;subst Lu;dsimp only;have hi:i<es.size:=by rw[<-T.sz];exact(ABI.mp m3).1
   obtain⟨⟨hh,v⟩,ev⟩:∃x,es[i]? = some x:=⟨es[i],zN hi⟩;obtain⟨k',b',ek,rfl,Bc,rfl⟩:=T.ent i hh v ev;have ig:∀u∈(es.filter λx=>x.1==BA prog w k).toList.map (λx=>x.2),∃k' b',u=Value.ref b'/\IsTupleKey (knd prog w) s.heap k' b':=λu hu=>by
    obtain⟨⟨h',u'⟩,hm,rfl⟩:=zV.mp hu;have CI:=by have:=zp.mp (by simpa using hm:(h',u')∈es.toList.filter (λx=>x.1==BA prog w k));simpa using this.1
    obtain⟨i',fW⟩:=Array.getElem?_of_mem CI;obtain⟨k2,b2,_,e2,Iz,_⟩:=T.ent i' h' u' fW;exact⟨k2,b2,e2,Iz⟩
   refine wpAny_ite_split (λ_=>wpAny_bind<|vI hx ig ?_) λ_=>?_
   all_goals
    rw[ev];refine wpAny_bind<|wpAny_holding<|wpAny_eqBool_tuple hu Bc hx ?_;refine wpAny_bind<|wpAny_setState_of ho hd T.fits ?_;dsimp only;by_cases Gw:k'=k
    .subst Gw;simp only[decide_true];exact wpAny_pure<|h1<|zl ek
    .rw[zU Gw];have jZ:t.sameMemory t.moves t.mask=some true:=by unfold SetTable.sameMemory;simp
     rw[jZ];dsimp only;rw[yO rfl,ZA T.C7 m3];dsimp only;rw[ev];refine wpAny_bind<|wpAny_isSame_ref_self ?_;refine Z0 ho hd T hu hx Li hN BU h1 h2 f (m+1) _ rfl U U λi2 j2 e2 p2 m' CI=>?_;by_cases jJ:m'<n
     .exact Wq i2 j2 e2 p2 m' jJ
     .by_cases FW:m'=m
      .subst FW;intro z;have:i2=i:=by rw[<-LI _ _ T.C7 i2 p2,<-z,LI _ _ T.C7 i m3]
       subst this;rw[ek]at e2;exact Gw<|zD e2
      .intro z;have As:=m5 m' U U i2 (by rw[z];exact p2);have Hm:i2<es.size:=by rw[<-T.sz];exact(ABI.mp p2).1
       obtain⟨⟨Q7,v2⟩,Ha⟩:∃x,es[i2]? = some x:=⟨es[i2],zN Hm⟩;obtain⟨k3,b3,LR,_,_,e3⟩:=T.ent i2 Q7 v2 Ha;rw[e2]at LR;cases LR;apply As;rw[Ha];exact e3
  .generalize RP:SetTable.probe t _ _ _=pr;have Lu:=RP.symm.trans m6;subst Lu;refine wpAny_pure<|h2 λGA=>?_;obtain⟨i,ei⟩:=AAp GA;have hi:i<t.place.size:=by rw[T.sz,<-T.len];exact(yY.mp ei).1
   have hp:=zN hi;obtain⟨n1,e1,hb⟩:=T.reach i _ k hp ei;have Wn:n1<N:=by
    by_cases z:n1<N
    .exact z
    .exfalso;by_cases z2:n1=N
     .subst z2;apply hN;rw[e1];exact zl (by rw[AAF];exact hp)
     .exact hN<|hb N U
   by_cases RH:n1<n
   .exact Wq i _ ei hp n1 RH e1
   .have As:=m5 n1 U Wn i (by rw[e1];exact hp);have Hm:i<es.size:=by rw[<-T.sz];exact hi
    obtain⟨⟨Q7,v2⟩,Ha⟩:∃x,es[i]? = some x:=⟨es[i],zN Hm⟩;obtain⟨k3,b3,LR,_,_,e3⟩:=T.ent i Q7 v2 Ha;rw[ei]at LR;cases LR;apply As;rw[Ha];exact e3
end
end ST
set_option linter.all false
namespace ST
open PySem PySem.SetTable
def rI(mask:Nat)(h:Int):Nat->Nat
 |0=>0
 |n+1=>rI mask h n+B5 mask (BJ mask n<|L0 mask h).1+1
theorem Ov(mask:Nat)(h:Int):∀n,road mask h (rI mask h n)=⟨(BJ mask n<|L0 mask h).1,B5 mask (BJ mask n<|L0 mask h).1,(BJ mask n<|L0 mask h).1,(BJ mask n<|L0 mask h).2,none⟩
 |0=>rfl
 |n+1=>by
  have h1:=Ow mask h (rI mask h n) _ _ (Ov mask h n) _<|yf _;show Gg mask (road mask h<|rI mask h n+B5 mask (BJ mask n<|L0 mask h).1)=_;rw[h1];unfold Gg;rw[yN (by show ¬ (B5 mask _-B5 mask _>0);lia)]
  rfl
def FI(Al:Array<|Option Nat)(j:Nat):Prop:=(Al.getD j<|some 0).isSome=true
theorem Y5(mask i:Nat):runEnd mask i+1-i=B5 mask i+1:=by unfold B5 runEnd;split<;>lia
theorem WB(p:Nat->Bool):∀(n:Nat),match (List.range n).find? p with|some k=>k<n/\p k=true/\∀m<k,p m=false|none=>∀m<n,p m=false:=by
 intro n;cases h:(List.range n).find? p with
 |none=>
  intro m hm;have:=List.find?_eq_none.mp h m (yS.mpr hm);simpa using this
 |some k=>
  obtain⟨h1,as,bs,e,h2⟩:=List.find?_eq_some_iff_append.mp h;have hk:k∈List.range n:=by rw[e];simp
  refine⟨yS.mp hk,h1,λm hm=>?_⟩;have Bn:as.length=k:=by
   have hg:(List.range n)[as.length]? = some k:=by rw[e];simp
   obtain⟨hl,hv⟩:=yY.mp hg;rw[AB0]at hv;exact hv
  have CI:=by
   have hg:(List.range n)[m]? = some m:=by rw[ABu (by have:=yS.mp hk;lia)]
   rw[e,zH U]at hg;exact zl hg
  simpa using h2 m CI
theorem gZ{mask:Nat}(Al:Array<|Option Nat)(h:Int)(ns:Nat)(Hk:¬ FI Al (BJ mask ns<|L0 mask h).1):∀(d n f:Nat),n+d=ns->d<f->(∀m<rI mask h n,FI Al (road mask h m).j)->∃N,(∀m<N,FI Al (road mask h m).j)/\¬ FI Al (road mask h N).j/\layClean.free mask Al f (BJ mask n<|L0 mask h).1 (BJ mask n<|L0 mask h).2=some (road mask h N).j:=by
 intro d
 induction d with
 |zero=>
  intro n f hn hf BU;obtain⟨f,rfl⟩:∃g,f=g+1:=⟨f-1,U⟩;have RG:n=ns:=U
  subst RG;refine⟨rI mask h n,BU,by rw[Ov];exact Hk,?_⟩;unfold layClean.free;rw[Y5];have:=WB (λk=>(Al.getD ((BJ mask n<|L0 mask h).1+k)<|some 0).isNone)<|B5 mask (BJ mask n<|L0 mask h).1+1;have h0:(Al.getD ((BJ mask n<|L0 mask h).1+0)<|some 0).isNone=true:=by unfold FI at Hk;simpa using Hk
  cases Ln:(List.range<|B5 mask (BJ mask n<|L0 mask h).1+1).find? (λk=>(Al.getD ((BJ mask n<|L0 mask h).1+k)<|some 0).isNone)with
  |none=>
   rw[Ln]at this;have z:=this 0 U;rw[h0]at z;cases z
  |some k=>
   rw[Ln]at this;obtain⟨k1,k2,k3⟩:=this;by_cases hk:k=0
   .subst hk;rw[Ov];simp
   .have z:=k3 0 U;rw[h0]at z;cases z
 |succ d ih=>
  intro n f hn hf BU;obtain⟨f,rfl⟩:∃g,f=g+1:=⟨f-1,U⟩;unfold layClean.free;rw[Y5];have:=WB (λk=>(Al.getD ((BJ mask n<|L0 mask h).1+k)<|some 0).isNone)<|B5 mask (BJ mask n<|L0 mask h).1+1;have N6:∀k,k<=B5 mask (BJ mask n<|L0 mask h).1->(road mask h<|rI mask h n+k).j=(BJ mask n<|L0 mask h).1+k:=λk hk=>by rw[Ow mask h (rI mask h n) _ _ (Ov mask h n) k hk]
  cases Ln:(List.range<|B5 mask (BJ mask n<|L0 mask h).1+1).find? (λk=>(Al.getD ((BJ mask n<|L0 mask h).1+k)<|some 0).isNone)with
  |some k=>
   rw[Ln]at this;obtain⟨k1,k2,k3⟩:=this;refine⟨rI mask h n+k,λm hm=>?_,?_,by rw[N6 k U]⟩
   .by_cases RF:m<rI mask h n
    .exact BU m RF
    .have z:=k3 (m-rI mask h n) U;have e:=N6 (m-rI mask h n) U;rw[show rI mask h n+(m-rI mask h n)=m by lia]at e;rw[e];unfold FI;cases hq:Al.getD ((BJ mask n<|L0 mask h).1+(m-rI mask h n)) (some 0)with
     |none=>rw[hq]at z;cases z
     |some _=>rfl
   .rw[N6 k U];unfold FI;intro z;cases hq:Al.getD ((BJ mask n<|L0 mask h).1+k) (some 0)with
    |none=>rw[hq]at z;cases z
    |some _=>rw[hq]at k2;cases k2
  |none=>
   rw[Ln]at this;have iL:=λm hm=>by
    by_cases RF:m<rI mask h n
    .exact BU m RF
    .have CI:m<rI mask h n+B5 mask (BJ mask n<|L0 mask h).1+1:=hm;have z:=this (m-rI mask h n) U;have e:=N6 (m-rI mask h n) U;rw[show rI mask h n+(m-rI mask h n)=m by lia]at e;rw[e];unfold FI;cases hq:Al.getD ((BJ mask n<|L0 mask h).1+(m-rI mask h n)) (some 0)with
     |none=>rw[hq]at z;cases z
     |some _=>rfl
   exact ih (n+1) f U U iL
structure Laid(mask:Nat)(hs:List Int)(Al:Array (Option Nat))(js:List Nat):Prop where
 sz:Al.size=mask+1
 len:js.length=hs.length
 nd:js.Nodup
 le:∀j∈js,j<=mask
 own:∀(k j:Nat),js[k]? = some j->Al[j]? = some (some k)
 A8:∀j,j<=mask->j∉js->Al[j]? = some none
 reach:∀(k j:Nat)(h:Int),js[k]? = some j->hs[k]? = some h->∃n,(road mask h n).j=j/\∀m<n,(road mask h m).j∈js
theorem Laid.SO{mask:Nat}{hs:List Int}{Al:Array (Option Nat)}{js:List Nat}(L:Laid mask hs Al js){j:Nat}(hj:j<=mask):FI Al j↔j∈js:=by
 unfold FI;constructor
 .intro z;refine zb λhn=>?_;have e:=L.A8 j hj hn;have BN:j<Al.size:=by rw[L.sz];lia
  rw[zN BN]at e;simp only[BN,dif_pos]at z;have e':=zD e;rw[show Al.getInternal j BN=Al[j]from rfl,e']at z;cases z
 .intro hm;obtain⟨k,hk⟩:=AAp hm;have e:=L.own k j hk;have BN:j<Al.size:=by rw[L.sz];lia
  rw[zN BN]at e;simp only[BN,dif_pos];have e':=zD e;rw[show Al.getInternal j BN=Al[j]from rfl,e']
  rfl
theorem Ou{mask:Nat}(h:Int):∀n,(road mask h n).j<=mask/\(road mask h n).j+(road mask h n).more<=mask/\(road mask h n).i<=mask
 |0=>by have h1:bits h%(mask+1)<mask+1:=ACd _<|ACC _;show bits h%(mask+1)<=mask/\bits h%(mask+1)+B5 mask (bits h%(mask+1))<=mask/\bits h%(mask+1)<=mask;unfold B5 runEnd;split<;>lia
 |n+1=>by
  obtain⟨h1,h2,h3⟩:=Ou (mask:=mask) h n;unfold road Gg;split
  .dsimp only;lia
  .dsimp only;have h4:(leap mask (road mask h n).i (road mask h n).perturb).1<mask+1:=ACd _<|ACC _;unfold B5 runEnd;split<;>lia
theorem XW{mask:Nat}(hm:Good mask):∀(BI hs:List Int)(Al:Array<|Option Nat)(js:List Nat),Laid mask hs Al js->hs.length+BI.length<=mask->∃Og Rt,Laid mask (hs++BI) Og Rt/\(BI.foldl (init:=some (Al,hs.length)) λacc h=>(do
  let (Al,k)<-acc
  let j<-layClean.free mask Al (turns mask) (bits h%(mask+1))<|bits h
  pure (Al.setIfInBounds j<|some k,k+1)))=some (Og,(hs++BI).length)
 |[],hs,Al,js,L,_=>⟨Al,js,by simpa using L,yI⟩
 |h::BI,hs,Al,js,L,Bn=>by
  have hl:js.length<=mask:=by rw[L.len];lia
  obtain⟨j,hj,Ey⟩:=WK mask js L.nd hl L.le;obtain⟨ns,RI,ff⟩:=Xb hm h hj;have Hk:¬ FI Al (BJ mask ns<|L0 mask h).1:=by rw[ff,L.SO hj];exact Ey
  obtain⟨N,hV,h8,h9⟩:=gZ Al h ns Hk ns 0 (turns mask) U (by unfold turns at *;lia) (λm hm=>by simp[rI]at hm);have hle:=(Ou (mask:=mask) h N).1;have WT:=λz=>h8<|(L.SO hle).mpr z;have hsz:(road mask h N).j<Al.size:=by rw[L.sz];lia
  have L':Laid mask (hs ++ [h]) (Al.setIfInBounds (road mask h N).j<|some hs.length)<|js ++ [(road mask h N).j]:=by
   refine⟨by simpa using L.sz,by simp[L.len],?_,λx hx=>?_,λk x hk=>?_,λx hx OB=>?_,λk x h' hk hh=>?_⟩
   .rw[List.nodup_append];exact⟨L.nd,yI,λa ha b hb=>by rw[yr]at hb;subst hb;intro z;exact WT<|z ▸ ha⟩
   .rcases zF.mp hx with hx|hx
    .exact L.le x hx
    .rw[yr]at hx;subst hx;exact hle
   .by_cases FV:k<js.length
    .rw[zH FV]at hk;have OB:(road mask h N).j≠x:=λz=>WT<|z ▸ zl hk;rw[ABm OB];exact L.own k x hk
    .rw[zJ U]at hk;have Lq:k=js.length:=by have:=(yY.mp hk).1;simp at this;lia
     subst Lq;simp at hk;subst hk;rw[Array.getElem?_setIfInBounds_self_of_lt hsz,L.len]
   .have h1:=λz=>OB<|zw _ z;have h2:(road mask h N).j≠x:=λz=>OB (zZ _<|by simp[z]);rw[ABm h2];exact L.A8 x hx h1
   .by_cases FV:k<js.length
    .rw[zH FV]at hk;rw[zH (by rw[<-L.len];exact FV)]at hh;obtain⟨n,e,hb⟩:=L.reach k x h' hk hh;exact⟨n,e,λm hm=>zw _<|hb m hm⟩
    .rw[zJ U]at hk;have Lq:k=js.length:=by have:=(yY.mp hk).1;simp at this;lia
     subst Lq;simp at hk;subst hk;rw[zJ (by rw[L.len];exact yf _),L.len]at hh;simp at hh;subst hh;exact⟨N,rfl,λm hm=>zw _<|(L.SO (Ou _ m).1).mp<|hV m hm⟩
  obtain⟨Og,Rt,L2,e2⟩:=XW hm BI (hs ++ [h]) _ _ L' (by simp at Bn ⊢;lia);refine⟨Og,Rt,by simpa using L2,?_⟩;rw[AA2];have ja:(do
   let (Al,k)<-(some (Al,hs.length))
   let j<-layClean.free mask Al (turns mask) (bits h%(mask+1))<|bits h
   pure (Al.setIfInBounds j<|some k,k+1))=some (Al.setIfInBounds (road mask h N).j<|some hs.length,(hs ++ [h]).length):=by
   show(layClean.free mask Al (turns mask) (bits h%(mask+1))<|bits h).bind _=_;have:layClean.free mask Al (turns mask) (bits h%(mask+1)) (bits h)=some (road mask h N).j:=h9;rw[this];simp
  rw[ja,e2];simp
theorem kh{mask:Nat}(hm:Good mask)(hs:Array Int)(hl:hs.size<=mask):∃Al js,Laid mask hs.toList Al js/\layClean mask hs=some Al:=by
 have L0:Laid mask [] (Array.replicate (mask+1) none) []:=by refine⟨yI,rfl,ACZ,yI,yI,λj hj _=>?_,yI⟩;rw[Array.getElem?_replicate,yO U]
 obtain⟨Al,js,L,e⟩:=XW hm hs.toList [] _ _ L0 (by simpa using hl);refine⟨Al,js,by simpa using L,?_⟩;unfold layClean;rw[<-Array.foldl_toList];have e':=e;simp only[zq]at e';rw[e']
 rfl
end ST
set_option linter.all false
namespace ST
open PySem PySem.SetTable
theorem NW{α β:Type}(f:α->Option β):∀(l:List α)(_:∀x∈l,∃y,f x=some y)(i:Nat),(l.filterMap f)[i]? = (l[i]?).bind f
 |[],_,i=>yI
 |x::r,h,i=>by
  obtain⟨y,hy⟩:=h x yq;rw[ACD hy];cases i with
  |zero=>simp[hy]
  |succ i=>
   exact NW f r (λz hz=>h z<|yj _ hz) i
noncomputable def live(mask:Nat)(Al:Array<|Option Nat):List<|Nat×Nat:=(List.range<|mask+1).filterMap λj=>(Al.getD j none).map (j,·)
theorem KR{mask:Nat}{hs:List Int}{Al:Array (Option Nat)}{js:List Nat}(L:Laid mask hs Al js)(j k:Nat):(j,k)∈live mask Al↔js[k]? = some j:=by
 unfold live;rw[ABz];constructor
 .rintro⟨j',CH,e⟩;have i5:j'<=mask:=by have:=yS.mp CH;lia
  have BN:j'<Al.size:=by rw[L.sz];lia
  cases ho:Al.getD j' none with
  |none=>rw[ho]at e;cases e
  |some k'=>
   rw[ho]at e;simp only[zf,zR,AAz]at e;obtain⟨rfl,rfl⟩:=e;simp only[Array.getD,BN]at ho;have Bw:Al[j']? = some (some k'):=by rw[zN BN];exact AAB some ho
   by_cases hm:j'∈js
   .obtain⟨k2,Iz⟩:=AAp hm;have:=L.own k2 j' Iz;rw[Bw]at this;simp only[zR]at this;subst this;exact Iz
   .have:=L.A8 j' i5 hm;rw[Bw]at this;cases this
 .intro h;have hj:=L.le j<|zl h;have BN:j<Al.size:=by rw[L.sz];lia
  refine⟨j,yS.mpr U,?_⟩;have:=L.own k j h;rw[zN BN]at this;have e:Al.getD j none=some k:=by simp only[Array.getD,BN];exact zD this
  rw[e];rfl
theorem Xf(mask:Nat)(Al:Array<|Option Nat):(live mask Al).Pairwise (λa b=>a.1<b.1):=by
 unfold live;rw[List.pairwise_filterMap];refine List.pairwise_lt_range.imp ?_;intro a b Dh x hx y hy;cases ha:Al.getD a none with
 |none=>rw[ha]at hx;cases hx
 |some k=>
  cases hb:Al.getD b none with
  |none=>rw[hb]at hy;cases hy
  |some l=>
   rw[ha]at hx;rw[hb]at hy;cases hx;cases hy;exact Dh
theorem k5{mask:Nat}{hs:List Int}{Al:Array (Option Nat)}{js:List Nat}(L:Laid mask hs Al js):((live mask Al).map (·.2)).Perm<|List.range hs.length:=by
 have FX:((live mask Al).map (·.2)).Nodup:=by show List.Pairwise _ _;rw[AAf];have JE:=Xf mask Al;have GA:∀x∈live mask Al,js[x.2]? = some x.1:=λx hx=>(KR L x.1 x.2).mp hx;refine(List.Pairwise.and_mem.mp JE).imp ?_;rintro a b ⟨ha,hb,Dh⟩ z;have h1:=GA a ha;have h2:=GA b hb;rw[z,h2]at h1;lia
 refine(List.perm_ext_iff_of_nodup FX ABk).mpr λk=>?_;rw[zV,yS];constructor
 .rintro⟨⟨j,k'⟩,hm,rfl⟩;have:=(KR L j k').mp hm;rw[<-L.len];exact(yY.mp this).1
 .intro hk;rw[<-L.len]at hk;exact⟨(js[k],k),(KR L _ _).mpr<|yv hk,rfl⟩
section
variable{prog:Program}{w:World}{A:Around}{E:Value->Shared->Prop}{s:Shared}
structure QB(prog:Program)(w:World)(h:Heap)(es:Array (Int×Value))(kk:List (List Int)):Prop where
 len:kk.length=es.size
 ent:∀(i:Nat)(hh:Int)(v:Value),es[i]? = some (hh,v)->∃k b,kk[i]? = some k/\v=.ref b/\IsTupleKey (knd prog w) h k b/\hh=BA prog w k
 nd:kk.Nodup
theorem q8{h:Heap}{es:Array (Int×Value)}{t:SetTable}{kk:List (List Int)}(T:QB prog w h es kk)(hw:sizeAbove n=32)(hsz:es.size*5<93) : ∃t' order Hw,t.relaid (es.map (·.1)) n=some (t',order)/\(order.filterMap (es[·]?)).size=es.size/\EZ prog w h (order.filterMap (es[·]?)) t' Hw/\Hw.Perm kk:=by
 have hm:Good 31:=.inr rfl;obtain⟨Al,js,L,e⟩:=kh hm (es.map (·.1)) (by simp;lia);have D3:=k5 L;have iu:((es.map (·.1)).toList).length=es.size:=yI
 rw[iu]at D3;have BN:∀k∈(live 31 Al).map (·.2),k<es.size:=λk hk=>yS.mp<|D3.mem_iff.mp hk;have ik:∀k∈(live 31 Al).map (·.2),∃y,es[k]? = some y:=λk hk=>⟨es[k]'(BN k hk),zN _⟩;have Gw:∀k∈(live 31 Al).map (·.2),∃y,kk[k]? = some y:=λk hk=>⟨kk[k]'(by rw[T.len];exact BN k hk),yv _⟩;have jE:=by have:=D3.length_eq;simpa using this
 have el:(((live 31 Al).map (·.2)).toArray.filterMap (es[·]?)).toList=((live 31 Al).map (·.2)).filterMap (λk=>es[k]?):=by rw[Array.toList_filterMap]
 have Gx:(((live 31 Al).map (·.2)).toArray.filterMap (es[·]?)).size=es.size:=by rw[<-AAN,el];have h1:=(D3.filterMap λk=>es[k]?).length_eq;rw[h1,filterMap_getElem?_range];simp
 have RA:=by have h1:=D3.filterMap λk=>kk[k]?;rw[<-T.len,List.filterMap_getElem?_range_length]at h1;exact h1
 refine⟨{mask:=31,place:=((live 31 Al).map (·.1)).toArray,dummies:=#[],finger:=t.finger,led:=t.led,moves:=t.movedTo<|sizeAbove n-1,plain:=t.plain},((live 31 Al).map (·.2)).toArray,((live 31 Al).map (·.2)).filterMap λk=>kk[k]?,?_,Gx,?_,RA⟩
 .unfold relaid laid;rw[hw,e]
  rfl
 .refine⟨rfl,hm,?_,λj hj=>?_,by rw[Gx];simpa using jE,by rw[Gx];exact hsz,?_,λi hh v hv=>?_,RA.nodup_iff.mpr T.nd,λi j k hp hk=>?_⟩
  .rw[AAf];exact Xf 31 Al
  .have CH:j∈(live 31 Al).map (·.1):=by simpa using hj
   obtain⟨⟨j',k⟩,CI,rfl⟩:=zV.mp CH;exact L.le _<|zl<|(KR L j' k).mp CI
  .rw[Gx,<-T.len];exact RA.length_eq
  .rw[<-AAF,el,NW _ _ ik]at hv;rw[NW _ _ Gw];cases ho:((live 31 Al).map (·.2))[i]? with
   |none=>rw[ho]at hv;cases hv
   |some k=>
    rw[ho]at hv;exact T.ent k hh v hv
  .rw[NW _ _ Gw]at hk;have Ez:((live 31 Al).map (·.1))[i]? = some j:=by simpa using hp
   rw[zj]at Ez hk;cases hl:(live 31 Al)[i]? with
   |none=>rw[hl]at Ez;cases Ez
   |some x=>
    obtain⟨j',k'⟩:=x;rw[hl]at Ez hk;simp only[zf,zR]at Ez;subst Ez;have i8:=(KR L j' k').mp<|zl hl;have Bc:=by simpa using hk
    have FV:k'<es.size:=by rw[<-T.len];exact(yY.mp Bc).1
    obtain⟨⟨hh,v⟩,ev⟩:∃x,es[k']? = some x:=⟨es[k'],zN FV⟩;obtain⟨k2,b2,e2,_,_,e3⟩:=T.ent k' hh v ev;rw[Bc]at e2;cases e2;have ir:((es.map (·.1)).toList)[k']? = some (BA prog w k):=by
     rw[AAF,Array.getElem?_map,ev,e3]
     rfl
    obtain⟨n1,r1,r2⟩:=L.reach k' j' _ i8 ir;refine⟨n1,r1,λm CI=>?_⟩;have:=r2 m CI;obtain⟨q,hq⟩:=AAp this;have:=(KR L _ q).mpr hq;have:(road 31 (BA prog w k) m).j∈(live 31 Al).map (·.1):=zV.mpr ⟨_,this,rfl⟩;simpa using this
end
end ST
set_option linter.all false
namespace ST
open PySem PySem.SetTable
section
variable{prog:Program}{w:World}{A:Around}{E:Value->Shared->Prop}{s:Shared}
theorem XT{h h':Heap}{ks:List Int}{a d:Addr}{o:Obj}{es ep}{t:SetTable}(x:IsTupleKey (knd prog w) h ks a)(ho:h.get? d=some o)(hd:o.data=.set es ep t)(hs:Heap.SameBut d h h'):IsTupleKey (knd prog w) h' ks a:=by
 obtain⟨o',items,n,Bw,hc,Hi,hi⟩:=x;have As:a≠d:=by rintro rfl;obtain rfl:o'=o:=zD<|Bw.symm.trans ho;rw[hd]at Hi;exact nomatch Hi
 exact⟨o',items,n,(hs.2 a As).trans Bw,hc,Hi,hi⟩
theorem EZ.move{h h':Heap}{es:Array (Int×Value)}{t:SetTable}{kk:List (List Int)}(T:EZ prog w h es t kk)(m:∀k b,IsTupleKey (knd prog w) h k b->IsTupleKey (knd prog w) h' k b):EZ prog w h' es t kk:=
 ⟨T.IY,T.Ka,T.C7,T.le,T.sz,T.NT,T.len,λi hh v e=>let ⟨k,b,e1,e2,e3,e4⟩:=T.ent i hh v e;⟨k,b,e1,e2,m k b e3,e4⟩,T.nd,T.reach⟩
theorem vJ{k:List Int}{b:Addr}{Q:Bool->Shared->Prop}(hx:IsTupleKey (knd prog w) s.heap k b)(h:Q true s):wpAny (model prog w) A (hashByValue 8<|.ref b) Q E s:=by
 have hT:=hx.typeIs;obtain⟨o,items,n,ho,hc,hd,hi⟩:=hx;refine wpAny_bind<|wpAny_specialOf hT F.slot_tuple_hash.lookup ?_;refine wpAny_bind<|wpAny_seqItems ho hd ?_;refine wpAny_bind ?_;rw[<-Array.forIn_toList];have BU:∀{x:List Int}{vs:List Value},ItemsAre (knd prog w) x vs->∀v∈vs,∃i t,v=Value.int i t:=by
  intro x vs hx
  induction hx with
  |nil=>intro v hv;simp at hv
  |@cons k v' ks vs h1 _ ih=>
   intro v hv;rcases yw.mp hv with rfl|hv
   .obtain⟨t,e⟩:=Value.isInt_shape h1;exact⟨_,t,e⟩
   .exact ih v hv
 refine wpAny_forIn_list _ (λBI r s'=>r.1=none/\s'=s/\∀v∈BI,∃i t,v=Value.int i t) _ ?_ ?_ _ _ ⟨rfl,rfl,BU hi⟩
 .rintro v BI r s' ⟨hr,rfl,BU⟩;obtain⟨i,t,rfl⟩:=BU v yq;exact wpAny_pure ⟨rfl,rfl,λu Rb=>BU u<|yj _ Rb⟩
 .rintro⟨r1,r2⟩ s' ⟨hr,rfl,_⟩;subst hr;exact wpAny_pure h
theorem Rj{α:Type}(xs:Array α)(p:Nat)(x:α)(hp:p<=xs.size)(i:Nat):(insertAt xs p x)[i]? = if i<p then xs[i]? else if i=p then some x else xs[i-1]?:=by
 rw[<-AAF,SetTable.toList_insertAt];by_cases h1:i<p
 .rw[yO h1,zH (by simp;lia),ACB h1,AAF]
 .rw[yN h1,zJ (by rw[AAY];simp;lia)];have e:(List.take p xs.toList).length=p:=by rw[AAY];simp;lia
  rw[e];by_cases h2:i=p
  .subst h2;simp
  .rw[yN h2];obtain⟨d,hd⟩:∃d,i-p=d+1:=⟨i-p-1,U⟩;rw[hd,zu,List.getElem?_drop,AAF]
   congr 1
   lia
theorem XA{α:Type}(xs:List α)(p:Nat)(x:α)(hp:p<=xs.length)(i:Nat):(xs.take p++x::xs.drop p)[i]? = if i<p then xs[i]? else if i=p then some x else xs[i-1]?:=by have:=Rj xs.toArray p x (by simpa using hp) i;rw[<-AAF,SetTable.toList_insertAt]at this;simpa using this
theorem oo{h:Heap}{es:Array (Int×Value)}{t:SetTable}{kk:List (List Int)}{k:List Int}{b:Addr}{N:Nat}(T:EZ prog w h es t kk)(hx:IsTupleKey (knd prog w) h k b)(hk:k∉kk) (hN:(road t.mask (BA prog w k) N).j∉t.place.toList) (BU:∀m<N,(road t.mask (BA prog w k) m).j∈t.place.toList) (t1:SetTable) (FZ:t1.mask=t.mask/\t1.dummies=t.dummies/\t1.place=(t.put (road t.mask (BA prog w k) N).j).1.place) : ∃Hw,Hw.Perm (k::kk)/\QB prog w h (insertAt es (t.put (road t.mask (BA prog w k) N).j).2 (BA prog w k,.ref b)) Hw/\(insertAt es (t.put (road t.mask (BA prog w k) N).j).2 (BA prog w k,Value.ref b)).size=es.size+1/\t1.place.size=es.size+1/\
  ((es.size+1)*5<t.mask*3->EZ prog w h (insertAt es (t.put (road t.mask (BA prog w k) N).j).2 (BA prog w k,.ref b)) t1 Hw):=by
 obtain⟨m1,m2,m3⟩:=FZ;have hp:(t.put (road t.mask (BA prog w k) N).j).2=below t.place (road t.mask (BA prog w k) N).j:=rfl;have BY:(t.put (road t.mask (BA prog w k) N).j).1.place=insertAt t.place (below t.place (road t.mask (BA prog w k) N).j) (road t.mask (BA prog w k) N).j:=rfl;rw[BY]at m3;rw[hp];have Nn:below t.place (road t.mask (BA prog w k) N).j<=t.place.size:=by rw[QL _ _ T.C7];have:=Ur t.place.toList (road t.mask (BA prog w k) N).j;simpa using this
 generalize Wh:(road t.mask (BA prog w k) N).j=jj at *
 generalize jW:below t.place jj=p at *
 have FV:kk.length=t.place.size:=by rw[T.sz];exact T.len
 have hsz:(insertAt es p (BA prog w k,Value.ref b)).size=es.size+1:=by rw[<-AAN,SetTable.toList_insertAt];simp;have:=T.sz;lia
 have hsz2:t1.place.size=es.size+1:=by rw[m3,<-AAN,SetTable.toList_insertAt];simp;have:=T.sz;lia
 have D3:=by
  have:=List.perm_middle (a:=k) (l₁:=kk.take p) (l₂:=kk.drop p)
  rwa [ACa]at this
 have T0:QB prog w h (insertAt es p (BA prog w k,.ref b)) (kk.take p++k::kk.drop p):=by
  refine⟨?_,λi hh v e=>?_,D3.nodup_iff.mpr<|AAV.mpr ⟨hk,T.nd⟩⟩
  .rw[hsz,D3.length_eq,yn,T.len]
  .rw[Rj es p _ (by rw[<-T.sz];exact Nn)]at e;rw[XA kk p k (by rw[FV];exact Nn)];by_cases h1:i<p
   .rw[yO h1]at e ⊢;exact T.ent i hh v e
   .rw[yN h1]at e ⊢;by_cases h2:i=p
    .rw[yO h2]at e ⊢;cases e;exact⟨k,b,rfl,rfl,hx,rfl⟩
    .rw[yN h2]at e ⊢;exact T.ent (i-1) hh v e
 refine⟨_,D3,T0,hsz,hsz2,λHj=>?_⟩;have GA:∀x∈t.place.toList,x∈t1.place.toList:=λx GB=>by rw[m3];exact(SetTable.insertAt_perm t.place p jj).mem_iff.mpr (by simpa using Or.inl (by simpa using GB))
 refine⟨by rw[m2,T.IY],by rw[m1];exact T.Ka,?_,λj hj=>?_,by rw[hsz2,hsz],by rw[hsz,m1];exact Hj,T0.len,T0.ent,T0.nd,λi j k' Hq Ho=>?_⟩
 .rw[m3,<-jW];exact j0 t.place jj T.C7 hN
 .rw[m3]at hj;have:=(SetTable.insertAt_perm t.place p jj).mem_iff.mp hj;rw[m1];rw[Array.toList_push]at this;rcases zF.mp this with z|z
  .exact T.le j z
  .rw[yr]at z;rw[z,<-Wh];exact(Ou _ N).1
 .rw[m3,Rj t.place p jj Nn]at Hq;rw[XA kk p k (by rw[FV];exact Nn)]at Ho;rw[m1];by_cases h1:i<p
  .rw[yO h1]at Hq Ho;obtain⟨n,r1,r2⟩:=T.reach i j k' Hq Ho;exact⟨n,r1,λm hm=>GA _<|r2 m hm⟩
  .rw[yN h1]at Hq Ho;by_cases h2:i=p
   .rw[yO h2]at Hq Ho;cases Hq;cases Ho;exact⟨N,Wh,λm hm=>GA _<|BU m hm⟩
   .rw[yN h2]at Hq Ho;obtain⟨n,r1,r2⟩:=T.reach (i-1) j k' Hq Ho;exact⟨n,r1,λm hm=>GA _<|r2 m hm⟩
def Gd(prog:Program)(w:World)(h:Heap)(a:Addr)(ks:List<|List Int):Prop:=
 ∃o es ep t kk,h.get? a=some o/\o.ExactSet/\o.data=.set es ep t/\EZ prog w h es t kk/\kk.Perm ks
theorem WO{h:Heap}{a:Addr}{o:Obj}{es:Array (Int×Value)}{ep:Nat}{t:SetTable}{es':Array (Int×Value)}{t':SetTable}(ho:h.get? a=some o)(hd:o.data=.set es ep t) : (h.update a<|Obj.putSet es' t').get? a=some {o with data:=.set es' (ep+1) t'}:=by have:=Heap.get?_update_self (Obj.putSet es' t') ho (by rw[putSet_of es' t' hd];rfl);rw[putSet_of es' t' hd]at this;exact this
theorem vG{a:Addr}{ks:List (List Int)}{k:List Int}{b:Addr}{Q:Bool->Shared->Prop}(hS:Gd prog w s.heap a ks)(hx:IsTupleKey (knd prog w) s.heap k b)(hu:A.units<cLine)(Hj:ks.length+1<=18) (h:∀h' r,Heap.SameBut a s.heap h'->Gd prog w h' a (if k∈ks then ks else k::ks)->Q r {s with heap:=h'}):wpAny (model prog w) A (setAddHashed a (.ref b)<|BA prog w k) Q E s:=by
 obtain⟨o,es,ep,t,kk,ho,hex,hd,T,D3⟩:=hS;refine wpAny_holding<|wpAny_bind<|wpAny_setState_of ho hd T.fits ?_;dsimp only;have FX:=T.C7.imp λh=>yu h;have Bn:t.place.toList.length<=t.mask:=by have h1:=T.sz;have h2:=T.NT;simp;lia
 obtain⟨N,Li,hN,BU⟩:=gN T.Ka (BA prog w k) t.place.toList FX Bn T.le;have FV:=D3.length_eq;refine wpAny_bind (Z0 ho hd T hu hx Li hN BU ?_ ?_ 100000 0 none rfl (AAR _) (by have:=T.Ka;unfold turns at Li;rcases this with e|e<;>rw[e]at Li<;>lia) (λ_ _ _ _ m hm=>U))
 .intro hk;refine wpAny_pure ?_;have:=h s.heap false<|Heap.SameBut.refl a s.heap;rw[yO<|D3.mem_iff.mp hk]at this;exact this ⟨o,es,ep,t,kk,ho,hex,hd,T,D3⟩
 .intro hk;have Wj:=λz=>hk<|D3.mem_iff.mpr z;refine wpAny_bind<|wpAny_setState_of ho hd T.fits ?_;have fin:∀t1:SetTable,(t1.mask=t.mask/\t1.dummies=t.dummies/\t1.place=(t.put (road t.mask (BA prog w k) N).j).1.place)->wpAny (model prog w) A (do
    storeSet a (insertAt es (t.put (road t.mask (BA prog w k) N).j).2 (BA prog w k,.ref b)) t1
    if(
     !false&&t1.tooFull)=true then do
     setRelay a (grown<|es.size+1)
     pure true
     else pure true) Q E s:=by
   intro t1 FZ;obtain⟨Hw,Ez,T0,hsz,hsz2,hT⟩:=oo T hx hk hN BU t1 FZ;have Q2:t1.fill=es.size+1:=by
    unfold SetTable.fill;rw[hsz2,FZ.2.1,T.IY]
    rfl
   have xc:es.size=ks.length:=by rw[<-T.len,FV]
   refine wpAny_bind (wpAny_storeSet_of ho hd ?_ (by rw[hsz,sizeLine_eq];lia));have hg:=WO (es':=insertAt es (t.put (road t.mask (BA prog w k) N).j).2 (BA prog w k,Value.ref b)) (t':=t1) ho hd;have Ly:=Heap.SameBut.update s.heap a<|Obj.putSet (insertAt es (t.put (road t.mask (BA prog w k) N).j).2 (BA prog w k,Value.ref b)) t1;generalize xS:insertAt es (t.put (road t.mask (BA prog w k) N).j).2 (BA prog w k,Value.ref b)=LS at *
   have mv:∀k2 b2,IsTupleKey (knd prog w) s.heap k2 b2->IsTupleKey (knd prog w) (s.heap.update a<|Obj.putSet LS t1) k2 b2:=λ_ _ z=>XT z ho hd Ly;have Ww:=Ez.trans<|D3.cons k;by_cases Iy:t1.tooFull=true
   .rw[yO (by rw[Iy];rfl)];have hf:=by unfold SetTable.tooFull at Iy;rw[Q2,FZ.1]at Iy;simpa using Iy
    have Lr:t.mask=7/\es.size=4:=by
     have h1:=T.NT;rcases T.Ka with e|e
     .rw[e]at h1 hf;exact⟨e,U⟩
     .rw[e]at hf;lia
    have WZ:sizeAbove (grown<|es.size+1)=32:=by rw[Lr.2];rfl
    obtain⟨t',order,kf,jY,W5,T',RN⟩:=q8 T0 WZ (by rw[hsz,Lr.2];decide);have iq:t1.fits LS.size=true:=by
     unfold SetTable.fits;rw[Q2,hsz2,hsz,FZ.1,Lr.1,Lr.2]
     rfl
    refine wpAny_bind ?_;refine wpAny_bind<|wpAny_setState_of hg rfl iq ?_;rw[WZ];refine wpAny_bind (wpAny_of_eq (a:=(order.filterMap (LS[·]?),t')) ?_ ?_)
    .rw[jY];show(if(_ != _)=true then _ else _)=_;rw[W5];simp
    .refine wpAny_storeSet_of hg rfl ?_ (by rw[W5,hsz,Lr.2];decide);have W2:=Heap.SameBut.update (s.heap.update a<|Obj.putSet LS t1) a (Obj.putSet (order.filterMap (LS[·]?)) t');refine wpAny_pure ?_;have:=h _ true<|Ly.trans W2;rw[yN Wj]at this;refine this ⟨_,_,_,_,kf,WO hg rfl,hex,rfl,T'.move λ_ _ z=>XT (mv _ _ z) hg rfl W2,RN.trans Ww⟩
   .rw[yN<|by simpa using Iy];refine wpAny_pure ?_;have:=h _ true Ly;rw[yN Wj]at this;refine this ⟨_,_,_,_,Hw,hg,hex,rfl,(hT ?_).move mv,Ww⟩;unfold SetTable.tooFull at Iy;rw[Q2,FZ.1]at Iy;lia
  by_cases BY:(t.put (road t.mask (BA prog w k) N).j).1.plain=true
  .rw[yO BY];refine wpAny_bind<|vJ hx ?_;simp only[AAW];refine fin _ ⟨rfl,?_,rfl⟩;show(if has t.dummies _=true then _ else t.dummies)=t.dummies;rw[T.IY];simp[has]
  .rw[yN BY];refine wpAny_bind<|wpAny_pure ?_;simp only[AAW];refine fin _ ⟨rfl,?_,rfl⟩;show(if has t.dummies _=true then _ else t.dummies)=t.dummies;rw[T.IY];simp[has]
end
end ST
set_option linter.all false
set_option maxRecDepth 100000
namespace ST
open PySem PySem.SetTable
section
variable{prog:Program}{w:World}{A:Around}{E:Value->Shared->Prop}{s:Shared}
noncomputable def Dp:List (List Int)->List (List Int)->List (List Int)
 |acc,[]=>acc
 |acc,k::r=>Dp (if k∈acc then acc else k::acc) r
theorem Zm:∀(l acc:List<|List Int),(Dp acc l).length<=acc.length+l.length
 |[],acc=>by unfold Dp;simp
 |k::r,acc=>by refine zT (Zm r _) ?_;split<;>simp<;>lia
theorem MC{h h':Heap}{k:List Int}{b:Addr}(z:IsTupleKey (knd prog w) h k b)(m:∀o,h.get? b=some o->h'.get? b=some o):IsTupleKey (knd prog w) h' k b:=by obtain⟨o',items,n,Bw,hc,Hi,hi⟩:=z;exact⟨o',items,n,m o' Bw,hc,Hi,hi⟩
def bH(S I:Addr)(h h':Heap):Prop:=∀b o,b≠S->b≠I->h.get? b=some o->h'.get? b=some o
theorem uw{l S I:Addr}{items:Array Value}{kks:List (List Int)}(hh:A.in1.handled=none)(hu:A.in1.units<cLine)(Lj:S≠I)(Nw:l≠S)(RB:l≠I){R:Result->Shared->Prop}(Bn:kks.length=items.size)(Wm:items.size<=17) : ∀(k i:Nat)(s:Shared)(acc:List<|List Int),items.size-i=k->i<=items.size->acc.length<=i->s.heap.IsList l items->s.heap.IsListIter I l i->Gd prog w s.heap S acc->
  (∀(j:Nat)(v:Value),items[j]? = some v->∃q b,kks[j]? = some q/\v=.ref b/\b≠S/\b≠I/\IsTupleKey (knd prog w) s.heap q b)->
  (∀h' tk,bH S I s.heap h'->Gd prog w h' S (Dp acc<|kks.drop i)->R (.ok<|.ret .none) {s with heap:=h',toks:=tk})->
  codeAny (model prog w) A (.builtin "set.update.loop" ⟨[.ref S,.ref I],[]⟩) R s:=by
 intro k
 induction k with
 |zero=>
  intro i s acc hk hi iK hl hI hS hit hR;have Wb:i=items.size:=U
  refine codeAny_builtin ABU ?_;refine wpAny_bind (wpAny_pyNext_list_end hh hI hl (by simp;lia) λh' eb=>?_);have iC:Gd prog w h' S acc:=by obtain⟨o,es,ep,t,kk,ho,hex,hd,T,hp⟩:=hS;refine⟨o,es,ep,t,kk,eb S o Lj ho,hex,hd,T.move λk' b z=>?_,hp⟩;obtain⟨oI,RJ,iW,Qz⟩:=hI;refine MC z λo' e=>eb b o' (λzz=>?_) e;subst zz;obtain⟨o2,j6,n2,JD,iT,hd2,_⟩:=z;rw[RJ]at JD;cases JD;rw[Qz]at hd2;cases hd2
  refine wpAny_pure ?_;have:=hR h' s.toks λb o h1 h2 e=>eb b o h2 e;rw[List.drop_of_length_le (U:kks.length<=i)]at this;exact this iC
 |succ k ih=>
  intro i s acc hk hi iK hl hI hS hit hR;have BN:i<items.size:=U
  have hv:=zN BN;obtain⟨q,b,eq,ev,xR,iQ,Q9⟩:=hit i _ hv;refine codeAny_builtin ABU ?_;refine wpAny_bind<|wpAny_pyNext_list_item hI hl hv λh1 hG sb=>?_;have moved:∀c o,c≠I->s.heap.get? c=some o->h1.get? c=some o:=λc o hc e=>(sb.2 c hc).trans e;rw[ev];refine wpAny_bind<|wpAny_holding ?_;refine wpAny_holding ?_;have Wi:=MC Q9 λo e=>moved b o iQ e;have iD:Gd prog w h1 S acc:=by obtain⟨o,es,ep,t,kk,ho,hex,hd,T,hp⟩:=hS;refine⟨o,es,ep,t,kk,moved S o Lj ho,hex,hd,T.move λk' c z=>?_,hp⟩;obtain⟨oI,RJ,iW,Qz⟩:=hI;refine MC z λo' e=>moved c o' (λzz=>?_) e;subst zz;obtain⟨o2,j6,n2,JD,iT,hd2,_⟩:=z;rw[RJ]at JD;cases JD;rw[Qz]at hd2;cases hd2
  refine wpAny_bind<|wpAny_pyHash_tuple hu Wi ?_;refine vG (s:={s with heap:=h1,toks:=s.toks+(q.length+1)}) iD Wi hu U λh2 r rN J9=>?_;refine wpAny_pure ⟨plainId_quiet PyProof.Rows.F.plain_set_update_loop _,?_⟩;have OX:∀c o,c≠S->h1.get? c=some o->h2.get? c=some o:=λc o hc e=>(rN.2 c hc).trans e;refine ih (i+1) _ _ U BN ?_ ?_ ?_ J9 (λj v hj=>?_) λh3 tk ht iE=>?_
  .split
   .lia
   .simp;lia
  .exact hl.at λo e=>OX l o Nw<|moved l o RB e
  .exact hG.at λo e=>OX I o (zo Lj) e
  .obtain⟨q',b',e1,e2,e3,e4,e5⟩:=hit j v hj;exact⟨q',b',e1,e2,e3,e4,MC e5 λo e=>OX b' o e3<|moved b' o e4 e⟩
  .have Lm:kks.drop i=q::kks.drop (i+1):=by
    have Wl:i<kks.length:=U
    rw[ABP Wl];rw[yv Wl]at eq;rw[zD eq]
   refine hR h3 tk (λc o c1 c2 e=>ht c o c1 c2<|OX c o c1<|moved c o c2 e) ?_;rw[Lm];exact iE
end
end ST
set_option linter.all false
set_option maxRecDepth 100000
namespace ST
open PySem PySem.SetTable
section
variable{prog:Program}{w:World}{A:Around}{E:Value->Shared->Prop}{s:Shared}
noncomputable abbrev Gn(led:Bool):Obj:={cls:=.type "set",dict:=none,data:=.set #[] 0 (.fresh 0 0 led)}
theorem gc{h:Heap}(led:Bool):EZ prog w h #[] (.fresh 0 0 led) []:=
 by
 refine⟨rfl,.inl rfl,.nil,(λj hj=>by cases hj),rfl,(yJ:0*5<7*3),rfl,λi hh v e=>?_,ACZ,λi j k e _=>?_⟩
 .simp at e
 .simp[SetTable.fresh]at e
set_option maxHeartbeats 3200000 in
theorem cv{l:Addr}{items:Array Value}{kks:List (List Int)}{Q:Value->Shared->Prop}(hh:A.handled=none)(hu:A.units+8<cLine)(hl:s.heap.IsList l items)(Bn:kks.length=items.size)(Wm:items.size<=17) (hit:∀(j:Nat)(v:Value),items[j]? = some v->∃q b,kks[j]? = some q/\v=.ref b/\IsTupleKey (knd prog w) s.heap q b) (h:∀(h':Heap)(tk:Nat),Gd prog w h' s.heap.objs.size (Dp [] kks)->(∀b o,s.heap.get? b=some o->h'.get? b=some o)->Q (.ref s.heap.objs.size) {s with heap:=h',toks:=tk}) : wpAny (model prog w) A (call (.type "set") [.ref l]) Q E s:=by
 obtain⟨c0,xy,xV⟩:=F.called_set.mro;have xm:=F.called_set.made;have xw:=F.called_set.sub;refine wpAny_call<|codeAny_of_tree ?_;show wpAny _ _ (callAny (.type "set") _) _ _ _;refine wpAny_pure ⟨Code.quiet_builtin _ yK,codeAny_builtin F.entry_type_call ?_⟩;rw[Around.under_plain (weight_type_call_type "set" [.ref l] []) rfl];have xp:=F.called_set.notType;have v3:=F.called_set.canCreate;have v8:=F.typeCall_set_1<|.ref l
 repeat (any_goals (first|assumption|wp_step))
 let made (led:Bool):Shared:={s with heap:=s.heap.push (Gn led)}
 refine codeAny_mono (code_set_new_1 (.ref l) (E:=E) (Q₁:=λob st=>∃led:Bool,ob=.ref s.heap.objs.size/\st=made led) λled=>⟨led,rfl,rfl⟩) λr1 xu RU=>?_;cases r1 with
 |error e=>exact RU
 |ok fl=>
  cases fl with
  |ret ob=>
   obtain⟨led,rfl,rfl⟩:=RU;have WN:(s.heap.push<|Gn led).get? s.heap.objs.size=some (Gn led):=Heap.get?_push_size _ rfl;have um:Shared.TypeIs (made led) (.ref s.heap.objs.size) "set":=⟨_,WN,rfl⟩;have xl:=F.called_set.init.lookup;have vv:=F.called_set.init.bind<|.ref s.heap.objs.size;show wpAny _ _ _ _ _ (made led)
   repeat (any_goals (first|assumption|wp_step))
   refine codeAny_mono (codeAny_call_builtin (R:=wants (λrv IC=>rv=.none/\∃h2 tk,IC={s with heap:=h2,toks:=tk}/\Gd prog w h2 s.heap.objs.size (Dp [] kks)/\(∀b o,s.heap.get? b=some o->h2.get? b=some o)) E)
    F.called_set.init.plain F.entry_set_init (check_set_init_1 um ?_)) λr2 IC RW=>?_
   .obtain⟨ol,N2,Nr,nl,Q0⟩:=id hl;obtain⟨xq,lj,xr,mn⟩:=ol;simp only at Nr Q0;subst Nr;subst Q0;have jP:(s.heap.push<|Gn led).get? l=some {cls:=.type "list",dict:=lj,data:=.seq items nl,slots:=mn}:=Heap.get?_push_of_some _ N2;have xa:=F.sub_list_set;have xZ:=F.sub_list_frozenset;have As:(Value.type "list" == Value.type "dict")=false:=yJ
    have Gx:(s.heap.push<|Gn led).IsList l items:=⟨_,jP,rfl,nl,rfl⟩;unfold Builtin.«set.__init__» noKeywords Builtin.Frozenset.updateFrom;generalize iA:pyIter=PI
    wp_walk
    subst iA;refine wpAny_pyIter_list Gx ?_;refine wpAny_bind<|wpAny_runValue ?_;have Nw:l<s.heap.objs.size:=Heap.lt_size N2;have N9:(s.heap.push<|Gn led).objs.size=s.heap.objs.size+1:=Heap.size_push ..;have Lj:s.heap.objs.size≠(s.heap.push<|Gn led).objs.size:=by rw[N9];exact yu<|Nat.lt_succ_self _
    have RB:l≠(s.heap.push<|Gn led).objs.size:=by rw[N9];exact yu<|ABA Nw
    refine uw (l:=l) (items:=items) (kks:=kks) (S:=s.heap.objs.size) (I:=(s.heap.push<|Gn led).objs.size) (by simp[hh]) (by simp;lia) Lj (yu Nw) RB Bn Wm (items.size-0) 0 _ [] U (AAR _) (AAR _) (Gx.push _) ⟨_,Heap.get?_push_size _ rfl,rfl,rfl⟩ ?hS0 ?hit ?hR
    case hS0=>exact⟨_,_,_,_,[],Heap.get?_push_of_some _ WN,⟨rfl,rfl,rfl⟩,rfl,gc led,.nil⟩
    case hit=>
     intro j v hj;obtain⟨q,b,e1,e2,e3⟩:=hit j v hj;have hb:b<s.heap.objs.size:=by obtain⟨o2,_,_,e4,_⟩:=e3;exact Heap.lt_size e4
     exact⟨q,b,e1,e2,yu hb,by rw[N9];exact yu<|ABA hb,MC e3 λo e=>Heap.get?_push_of_some _ (Heap.get?_push_of_some _ e)⟩
    case hR=>
     intro h2 tk ht J9;rw[List.drop_zero]at J9;refine wpAny_pure ?_;show wpAny _ _ (ret Value.none) _ _ _;refine wpAny_pure ⟨rfl,h2,tk,rfl,J9,λb o e=>?_⟩;have hb:=Heap.lt_size e;exact ht b o (yu hb) (by rw[N9];exact yu<|ABA hb)<|Heap.get?_push_of_some _ (Heap.get?_push_of_some _ e)
   .cases r2 with
    |error e=>exact RW
    |ok gO=>
     cases gO with
     |ret rv=>
      obtain⟨rfl,h2,tk,rfl,J9,Iz⟩:=RW
      repeat (any_goals (first|assumption|wp_step))
      exact h _ _ J9 Iz
     |_=>exact RW.elim
  |_=>exact RU.elim
end
end ST
namespace L2
open PySem PySem.Spec PyProof.Rows
noncomputable def Fg(env:Env):Str×NameKind->Str×NameKind:=λ(n,k)=>if(k==NameKind.free&&env.scope.kind == .function&&env.kindOf n==some .cell)then(n,NameKind.cell)else(n,k)
theorem Y0(env:Env)(y:Str×NameKind):(Fg env y).1=y.1:=by unfold Fg;dsimp only;split<;>rfl
theorem Y1(env:Env)(y:Str×NameKind):((Fg env y).2=.cell/\y.2=.free)\/(Fg env y).2=y.2:=by
 unfold Fg;dsimp only;split
 .rename_i h;simp only[yR,AAS]at h;exact .inl ⟨rfl,h.1.1⟩
 .exact .inr rfl
theorem Xj{env:Env}:∀{names:List (Str×NameKind)}{x:Str},names.lookup x=some .free->(names.map<|Fg env).lookup x=some .cell\/(names.map<|Fg env).lookup x=some .free
 |[],_,h=>by simp at h
 |(n,k)::r,x,h=>by
  have ih:=@Xj env r x;have e1:=Y0 env (n,k);have e2:=Y1 env (n,k);rw[ye];generalize Fg env (n,k)=y at e1 e2;obtain⟨m,j⟩:=y;obtain rfl:m=n:=e1;cases hx:x==m with
  |true=>
   simp only[AAL,hx]at h ⊢;cases h;rcases e2 with⟨z,_⟩|z
   .exact .inl<|AAB some z
   .exact .inr<|AAB some z
  |false=>
   simp only[AAL,hx]at h ⊢;exact ih h
theorem WL{env:Env}:∀{names:List (Str×NameKind)}{x:Str},((names.map<|Fg env).lookup x=some .cell\/(names.map<|Fg env).lookup x=some .free)->(x,NameKind.free)∈names\/names.lookup x=some .cell
 |[],_,h=>by simp at h
 |(n,k)::r,x,h=>by
  have ih:=@WL env r x;have e1:=Y0 env (n,k);have e2:=Y1 env (n,k);rw[ye]at h;generalize Fg env (n,k)=y at e1 e2 h;obtain⟨m,j⟩:=y;obtain rfl:m=n:=e1;cases hx:x==m with
  |true=>
   obtain rfl:x=m:=by simpa using hx
   simp only[AAL,hx,zR]at h ⊢;rcases e2 with⟨_,rfl⟩|rfl
   .exact .inl yq
   .rcases h with rfl|rfl
    .exact .inr rfl
    .exact .inl yq
  |false=>
   simp only[AAL,hx]at h ⊢;rcases ih h with e|e
   .exact .inl<|yj _ e
   .exact .inr e
theorem NH:∀(names:List<|Str×NameKind)(n:Nat)(acc:List<|Str×Addr),cellsFrom n names acc=cellsFrom n names []++acc
 |[],_,_=>rfl
 |(x,k)::r,n,acc=>by
  unfold cellsFrom;split
  .rw[NH r (n+1) ((x,n)::acc),NH r (n+1) [(x,n)],AB6];rfl
  .exact NH r n acc
theorem QW:∀(names:List<|Str×NameKind)(n:Nat)(acc:List<|Str×Addr){x:Str}{c:Addr},(x,c)∈cellsFrom n names acc->(x,c)∈acc\/(x,NameKind.cell)∈names
 |[],_,_,_,_,h=>.inl h
 |(y,k)::r,n,acc,x,c,h=>by
  unfold cellsFrom at h;split at h
  .rename_i hk;rcases QW r _ _ h with z|z
   .rcases yw.mp z with e|e
    .right;have e1:x=y:=AAB Prod.fst e;have e2:=by simpa using hk
     rw[e1,e2];exact yq
    .exact .inl e
   .exact .inr<|yj _ z
  .rcases QW r _ _ h with z|z
   .exact .inl z
   .exact .inr<|yj _ z
theorem KS{l m:List (Str×Addr)}{x:Str}{c:Addr}(h:(l++m).lookup x=some c):l.lookup x=some c\/(l.lookup x=none/\m.lookup x=some c):=by
 rw[AB1]at h;cases e:l.lookup x with
 |none=>rw[e]at h;exact .inr ⟨rfl,h⟩
 |some d=>rw[e]at h;exact .inl h
theorem vH{M:Model}{A:Around}{E:Value->Shared->Prop}{s:Shared}{scope:Scope}{globals:Addr}{closure:List (Str×Addr)}{qual:Str}{outer:Env}{Q:Env->Shared->Prop} (hQ:Q {scope:=scope,locals:=s.heap.objs.size,globals:=globals,cells:=cellsFrom (s.heap.objs.size+1) scope.names []++closure,qual:=qual,func:=none,code:=outer.code,frame:=outer.frame,builtins:=outer.builtins} {s with heap:=pushCells (s.heap.push {cls:=.type "dict",data:=.dict #[]}) scope.names}) : wpAny M A (newFunctionEnv scope globals closure [] qual none .none<|some outer) Q E s:=by simp only[newFunctionEnv,Option.isSome_some,AAW];refine wpAny_bind<|wpAny_alloc ?_;refine wpAny_bind (wpAny_layCells _ (λname kind cells=>by cases jA:kind==NameKind.cell<;>simp[jA]) _ _ _ _ ?_);rw[show({s with heap:=s.heap.push {cls:=.type "dict",data:=.dict #[]}}:Shared).heap.objs.size=s.heap.objs.size+1 from Heap.size_push ..,NH];exact wpAny_bind<|wpAny_pure<|wpAny_pure hQ
theorem Jy{cells:List (Str×Addr)}{x:Str}{c:Addr}(hc:cells.lookup x=some c):∀{l:List (Str×NameKind)}{acc:List (Str×Addr)},((x,NameKind.free)∈l\/acc.lookup x=some c)->(DU cells l acc).lookup x=some c
 |[],acc,h=>by
  rcases h with h|h
  .cases h
  .exact h
 |(n,k)::r,acc,h=>by
  unfold DU;by_cases hk:(k==NameKind.free)=true
  .rw[yO hk];by_cases hn:x=n
   .subst hn;rw[hc];exact Jy hc<|.inr<|by simp[AAL]
   .have hx:(x==n)=false:=by simpa using hn
    have h':(x,NameKind.free)∈r\/acc.lookup x=some c:=by
     rcases h with h|h
     .rcases yw.mp h with e|e
      .exact absurd (AAB Prod.fst e) hn
      .exact .inl e
     .exact .inr h
    cases hd:cells.lookup n with
    |none=>exact Jy hc h'
    |some d=>
     refine Jy hc ?_;rcases h' with e|e
     .exact .inl e
     .right;rw[AAL,hx];exact e
  .rw[yN hk];refine Jy hc ?_;rcases h with h|h
   .rcases yw.mp h with e|e
    .have:k=.free:=(AAB Prod.snd e).symm;rw[this]at hk;exact absurd rfl hk
    .exact .inl e
   .exact .inr h
def CD(X:Cx)(Nb:List Str)(scope:Scope)(C:Addr)(s:Shared)(H:Hp)(fp:List Addr)(AE:List<|Addr×Obj):Cx:=
 {X with N:=Nb,Cb:=s,Ac:=H,env:=compEnvC scope (cellsFrom (C+1) scope.names []++DU X.env.cells scope.names []) C X.env,outer:=X.stack,stack:=X.stack,ex:=fp,fn:=λx=>scope.names.lookup x==some NameKind.cell,pn:=X.pn++AE,xe:=λ_ _=>False}
def Fu(X:Cx)(ifs:List Expr)(t:TT):Prop:=
 ∀(AE:List<|Addr×Obj)(s:Shared)(σ:St)(H:Hp)(Q:Bool->Hp->Prop),Inv X AE σ H s->t σ H Q->wpAny (model X.prog X.w) X.A (forIn ifs true λc r=>if r=true then do let ok<-isTrue c X.env<|eval c X.env;pure (ForInStep.yield ok)else pure (ForInStep.yield r)) (TP X AE σ Q) X.xe s
theorem n5{X:Cx}:Fu X [] (λ_ H Q=>Q true H):=λ_ _ _ H _ I h=>wpAny_tests_nil ⟨H,I,h⟩
theorem n6{X:Cx}{c:Expr}{t:TT}(h:PT X c t):Fu X [c] t:=λAE s σ H Q I q=>wpAny_tests_one<|h AE s σ H Q I q
structure Fo(X:Cx)(scope:Scope)(Nb:List Str)(own:Nat)(cap:List Nat):Prop where
 kind:scope.kind=.function
 cell:∀y∈scope.names,y.2=.cell->scope.names.lookup y.1=some .cell
 loc:∀x∈scope.names,x.2=.local->scope.names.lookup x.1=some .local
 free:∀y∈scope.names,y.2=.free->X.env.kindOf y.1=some .cell\/X.env.kindOf y.1=some .free
 len:Nb.length=own+cap.length
 cap:∀k j,cap[k]? = some j->∃x,Nb[own+k]? = some x/\X.N[j]? = some x/\scope.names.lookup x=some .free
noncomputable def FK(own:Nat)(cap:List Nat)(σ:St):St:=List.replicate own none++cap.map λj=>(σ[j]?).join
theorem c8{own:Nat}{cap:List Nat}{σ:St}{i:Nat}{v:V}(h:(FK own cap σ)[i]? = some (some v)):∃k j,i=own+k/\cap[k]? = some j/\σ[j]? = some (some v):=by
 unfold FK at h;by_cases hi:i<own
 .rw[zH (by simpa using hi),AAg]at h;split at h<;>simp at h
 .rw[zJ (by simpa using hi),zj]at h;simp only[AAa]at h;cases hj:cap[i-own]? with
  |none=>rw[hj]at h;simp at h
  |some j=>
   rw[hj]at h;simp only[zf,zR]at h;refine⟨i-own,j,yH,hj,?_⟩;cases hs:σ[j]? with
   |none=>rw[hs]at h;simp at h
   |some o=>rw[hs]at h;simp at h;rw[h]
section
variable{X:Cx}{tg iter elt:Expr}{ifs:List Expr}{scope:Scope}{pos:Pos}{Nb:List Str}{own:Nat}{cap:List Nat}{wi:TI}{g:TG}{ti:TT}{te:TE}
def ZU(own:Nat)(cap:List Nat)(g:TG)(ti:TT)(te:TE)(J:It)(σ:St)(H1:Hp)(Q:VK):Prop:=∀D,H1 D=none->∃W:Nat->Nat->St->Hp->Prop,(∃m,W 0 m (FK own cap σ)<|upd H1 D<|.lst [])/\∀i m Ag H',W i m Ag H'->(J.stop i H'/\Q (.ref D) H')\/(J.go i H'/\∃N:St->Hp->Prop,(∀FF Dd,N FF Dd->∃m',m'<m/\W (i+1) m' FF Dd)/\
  ∀x Dd,J.PU i H' x Dd->g x Ag Dd λDH H2=>ti DH H2 λb H3=>if b=true then te DH H3 λv H4=>∃ys,H4 D=some (.lst ys)/\ys.length<sizeLine/\N DH (upd H4 D<|.lst<|ys ++ [v])else N DH H3)
theorem MS{C:Addr}{x:Str}{c:Addr}(h:(cellsFrom (C+1) scope.names []).lookup x=some c):C<c:=by
 let h0:Heap:={objs:=Array.replicate (C+1) default}
 have ok:=cellsFrom_ok scope.names h0 (C+1) [] ⟨λ_ _ hm=>(nomatch hm),List.Pairwise.nil⟩ (by simp[h0]);rw[show h0.objs.size=C+1 by simp[h0]]at ok;exact(ok.empty x c<|zh h).2
theorem own_apart{C:Addr}:(cellsFrom (C+1) scope.names []).Pairwise λx y=>x.2≠y.2:=by
 let h0:Heap:={objs:=Array.replicate (C+1) default}
 have ok:=cellsFrom_ok scope.names h0 (C+1) [] ⟨λ_ _ hm=>(nomatch hm),List.Pairwise.nil⟩ (by simp[h0]);rw[show h0.objs.size=C+1 by simp[h0]]at ok;exact ok.apart
theorem Ul{AE:List (Addr×Obj)}{s:Shared}{σ:St}{H:Hp}(I:Inv X AE σ H s){l:List (Str×NameKind)}{x:Str}{c:Addr}(h:(DU X.env.cells l []).lookup x=some c):c<s.heap.objs.size:=by obtain⟨v,o,ho,_⟩:=I.cell x c (Gi (λ_ _ z=>by cases z) h);exact Heap.lt_size ho
theorem df{C:Addr}{s:Shared}{H:Hp}{fp:List Addr}{AE:List (Addr×Obj)}{σ:St}(O:Fo X scope Nb own cap)(I:Inv X AE σ H s)(f:∀b∈fp,FG X AE H b)(hC:s.heap.objs.size<=C)(Lo:∀b∈fp,b<s.heap.objs.size) : (CD X Nb scope C s H fp AE).Ok:=by
 refine⟨I.ok.mod,O.kind,I.ok.glob,I.ok.blt,hC,λx y c h1 h2=>?_,λx hx=>?_,λx c h h2=>?_,I.ok.hd,I.ok.frames,.inl rfl,λb hb=>⟨?_,λx c h=>?_⟩,I.bs,zT I.ok.HV I.sz,λb o e hb=>?_,λb hb z=>?_,I.stack,I.ZH⟩
 .rcases KS h1 with z1|⟨_,z1⟩<;>rcases KS h2 with z2|⟨_,z2⟩
  .exact name_of_addr own_apart (zh z1)<|zh z2
  .exact absurd (MS z1) (Nat.not_lt.mpr<|zT (AAj<|Ul I z2) hC)
  .exact absurd (MS z2) (Nat.not_lt.mpr<|zT (AAj<|Ul I z1) hC)
  .exact I.ok.inj x y c (Gi (λ_ _ z=>by cases z) z1)<|Gi (λ_ _ z=>by cases z) z2
 .show ∃c,(cellsFrom (C+1) scope.names []++DU X.env.cells scope.names []).lookup x=some c;rw[AB1];rcases WL hx with hm|hm
  .obtain⟨c,hc⟩:=I.ok.has x<|O.free _ hm rfl;cases (cellsFrom (C+1) scope.names []).lookup x with
   |none=>exact⟨c,Jy hc<|.inl hm⟩
   |some d=>exact⟨d,rfl⟩
  .obtain⟨c,hc⟩:=NG hm;exact⟨c,by rw[hc];rfl⟩
 .have hx:=by simpa[CD]using h
  obtain⟨c',F7⟩:=NG hx;rcases KS h2 with z|⟨z,_⟩
  .exact zT hC<|AAj<|MS z
  .rw[F7]at z;cases z
 .exact yu<|zB (Lo b hb) hC
 .rcases KS h with z|⟨_,z⟩
  .exact zo<|yu<|ABn (zB (Lo b hb) hC)<|MS z
  .exact(f b hb).2.2.2.2.1 x c (Gi (λ_ _ z=>by cases z) z)
 .rcases(f b hb).2.2.2.1 with z|z
  .exact I.ok.MQ b o e z
  .exact absurd (zB (Heap.lt_size e)<|zT I.ok.HV z) (AAy _)
 .rcases yw.mp (I.O5 b z)with e|e
  .exact(f b hb).2.1 e
  .exact(f b hb).2.2.1 e
theorem de{C:Addr}{s s':Shared}{H H':Hp}{fp:List Addr}{AE:List (Addr×Obj)}{σ:St}{m:Str->Option Value}(O:Fo X scope Nb own cap)(I:Inv X AE σ H s)(ok:(CD X Nb scope C s H fp AE).Ok) (jQ:s'.os=s.os) (hg:AllBare s'.gens) (u:Un (EG X.stack) fp H H' s.heap s'.heap) (k:∀b o,s.heap.get? b=some o->s'.heap.get? b=some o) (hC:s.heap.objs.size<=C) (hn:s'.heap.Ns C m) (hf:H' C=none) (Wo:∀b o,s.heap.get? b=some o->H b=none->H' b=none) (Ah:Bl X.prog X.w H' s'.heap) (Wv:∀x c,(cellsFrom (C+1) scope.names []).lookup x=some c->s'.heap.IsCell c none/\H' c=none) : Inv (CD X Nb scope C s H fp AE) [] (FK own cap σ) H' s':=by
 refine⟨ok,jQ,hg,u,⟨m,hn,λi x v h1 h2 h3=>?_⟩,λx c h=>?_,hf,λx c h=>?_,λp hp=>?_,Ah,?_⟩
 .obtain⟨kk,j,rfl,hj,hs⟩:=c8 h2;obtain⟨y,e1,e2,e3⟩:=O.cap kk j hj;have ji:=by have Nk:Nb[own+kk]? = some x:=h1;rw[e1]at Nk;exact zD Nk
  subst ji;have hm:=zh e3;have hk:=O.free _ hm rfl;have hv:DT X.env.scope y:=by
   rcases hk with z|z
   .exact .inr<|.inl z
   .exact .inr<|.inr z
  obtain⟨m0,Ls,hl⟩:=I.loc;obtain⟨u0,r,l⟩:=hl j y v e2 hs hv;refine⟨u0,r,?_⟩;rcases l with⟨l,_⟩|⟨_,c,hc,Nq⟩
  .rcases hk with z|z<;>(rw[l]at z;cases z)
  .refine .inr ⟨Xj e3,c,?_,Nq.keeps k⟩;show(cellsFrom (C+1) scope.names []++DU X.env.cells scope.names []).lookup y=some c;rw[AB1];cases eo:(cellsFrom (C+1) scope.names []).lookup y with
   |none=>exact Jy hc<|.inl hm
   |some d=>
    rcases QW _ _ _ (zh eo)with z|z
    .exact nomatch z
    .have:=O.cell _ z rfl;rw[e3]at this;cases this
 .rcases KS h with z|⟨_,z⟩
  .exact⟨_,(Wv x c z).1⟩
  .obtain⟨v,z⟩:=I.cell x c (Gi (λ_ _ z=>by cases z) z);exact⟨v,z.keeps k⟩
 .rcases KS h with z|⟨_,z⟩
  .exact(Wv x c z).2
  .have hc:=Gi (λ_ _ z=>by cases z) z;obtain⟨v,o,ho,_⟩:=I.cell x c hc;exact Wo c o ho<|I.F4 x c hc
 .have Ez:p∈X.pn++AE:=by have:p∈(X.pn++AE) ++ []:=hp;simpa using this
  obtain⟨e,n,ne,nf,d⟩:=I.pin p Ez;refine⟨k _ _ e,Wo _ _ e n,yu<|zB (Heap.lt_size e) hC,λz=>?_,d⟩;rcases yw.mp (I.O5 p.1 z)with q|q
  .exact ne q
  .exact nf q
 .show(FK own cap σ).length=Nb.length;rw[O.len];simp[FK]
theorem Uv{AE:List (Addr×Obj)}{s:Shared}{σ:St}{H:Hp}{Q:VK}{it:Addr}{fp:List Addr}{tn:Nat->Heap->Prop}{J:It}{E:Value->Shared->Prop}{RR:Value->Addr->Result->Shared->Prop}(hc:X.calm=true)(O:Fo X scope Nb own cap) (hg:∀C s H fp AE,PG (CD X Nb scope C s H fp AE) tg g) (ht:∀C s H fp AE,Fu (CD X Nb scope C s H fp AE) ifs ti) (he:∀C s H fp AE,PE (CD X Nb scope C s H fp AE) elt te) (I:Inv X AE σ H s) (T:Turn X.prog X.w X.K tg J fp it tn) (st:tn 0 s.heap) (f:∀b∈fp,FG X AE H b) (hW:ZU own cap g ti te J σ H Q) (iB:∀(D C:Addr)(s':Shared)(H':Hp)(m:Str->Option Value),Inv X AE σ H' s'->s'.heap.Ns C m->FG X AE H' C->Q (.ref D) H'->RR (.ref D) C (.ok .next) s') : wpAny (model X.prog X.w) X.A (newList []) (λacc ID=>wpAny (model X.prog X.w) X.A (newFunctionEnv scope X.env.globals (DU X.env.cells scope.names []) [] X.env.qual none .none<|some X.env) (λUk O8=>
  codeAny (model X.prog X.w) X.A (.compStart (.ListComp elt [⟨tg,iter,ifs,0⟩] scope pos) 0 (.ref it) acc {Uk with scope:=relabel scope X.env}) (RR acc Uk.locals) O8) E ID) E s:=by
 have Lo:∀b∈fp,b<s.heap.objs.size:=λb hb=>by obtain⟨o,e,_⟩:=T.obj _ _ st b hb;exact Heap.lt_size e
 refine wpAny_newObj_type<|vH ?_;dsimp only;have hD:=I.Ah.fresh<|yf _;obtain⟨W,⟨m0,w0⟩,turn⟩:=hW s.heap.objs.size hD;generalize Qw:s.heap.push {cls:=.type "list",dict:=none,data:=.seq ([]).toArray}=H2;have Wr:=(Heap.Ns.new H2<|.type "dict").keeps<|pushCells_keeps scope.names _;have Qy:=cellsFrom_ok scope.names (H2.push {cls:=.type "dict",data:=.dict #[]}) (H2.objs.size+1) [] ⟨λ_ _ hm=>(nomatch hm),List.Pairwise.nil⟩ (by rw[Heap.size_push];exact yf _);rw[Heap.size_push]at Qy;have SW:∀b o,H2.get? b=some o->(pushCells (H2.push {cls:=.type "dict",data:=.dict #[]}) scope.names).get? b=some o:=λb o e=>pushCells_keeps _ _ b o<|Heap.get?_push_of_some _ e;generalize xT:pushCells (H2.push {cls:=.type "dict",data:=.dict #[]}) scope.names=Hr at Wr Qy SW ⊢;have hC:H2.objs.size=s.heap.objs.size+1:=by rw[<-Qw,Heap.size_push]
 have J8:s.heap.objs.size<=H2.objs.size:=by rw[hC];exact ABe _
 have g9:s.heap.objs.size≠H2.objs.size:=by rw[hC];exact yu<|Nat.lt_succ_self _
 have old:=λb o e=>SW b o<|Qw ▸ Heap.get?_push_of_some _ e;have bN:=SW _ _<|Qw ▸ Heap.get?_push_size _ rfl;have jO:Bl X.prog X.w (upd H s.heap.objs.size<|.lst []) Hr:=I.Ah.laid old (yf _) ⟨AAR _,[],0,.nil,bN⟩;have ok:=df O I f J8 Lo;have fC:∀{H':Hp},H' H2.objs.size=none->FG X AE H' H2.objs.size:=λhn=>I.Na J8 hn;have Ib:∀tk:Nat,Inv (CD X Nb scope H2.objs.size s H fp AE) [] (FK own cap σ) (upd H s.heap.objs.size<|.lst []) {s with heap:=Hr,toks:=tk}:=λtk=>
  de O I ok rfl I.bare (Un.laid old (yf _) hD) old J8 Wr (by rw[Be<|zo g9];exact I.Ah.fresh J8) (λb o e n=>by rw[Be<|yu<|Heap.lt_size e];exact n) jO (λx c e=>⟨(Qy.empty x c<|zh e).1,by have BN:=MS e;rw[Be<|zo<|yu<|ABS J8 BN];exact I.Ah.fresh<|zT J8<|AAj BN⟩)
 have gX:∀b∈fp,(upd H s.heap.objs.size<|.lst []) b=none:=λb hb=>by rw[Be<|yu<|Lo b hb];exact(f b hb).1
 have TM:∀{H':Hp},(∀b∈fp,H' b=none)->∀b∈fp,FG (CD X Nb scope H2.objs.size s H fp AE) [] H' b:=λhn b hb=>by
  refine⟨hn b hb,(ok.NQ b hb).1,ok.LU b hb,.inl hb,(ok.NQ b hb).2,λp hp=>?_⟩;have Ez:p∈X.pn++AE:=by have:p∈(X.pn++AE) ++ []:=hp;simpa using this
  exact(f b hb).2.2.2.2.2 p Ez
 have iY:∀b∈fp,(b∈X.ex\/X.Cb.heap.objs.size<=b)/\b≠X.env.locals/\(∀x c,X.env.cells.lookup x=some c->c≠b)/\∀p∈X.pn++AE,p.1≠b:=λb hb=>by obtain⟨_,f1,_,f3,f4,f5⟩:=f b hb;exact⟨f3,f1,f4,f5⟩
 have loop:∀tk:Nat,codeAny (model X.prog X.w) X.A (.compLoop (.ListComp elt [⟨tg,iter,ifs,0⟩] scope pos) 0 (.ref it) (.ref s.heap.objs.size)<|compEnvC scope (cellsFrom (H2.objs.size+1) scope.names []++DU X.env.cells scope.names []) H2.objs.size X.env) (RR (.ref s.heap.objs.size) H2.objs.size) {s with heap:=Hr,toks:=tk}:=λtk=>by
  refine dQ (λn s'=>∃i Ag H',Inv (CD X Nb scope H2.objs.size s H fp AE) [] Ag H' s'/\tn i s'.heap/\(∀b∈fp,H' b=none)/\W i n Ag H') ?_ m0 ⟨0,_,_,Ib tk,T.keep _ _ _ st λb _ o e=>old b o e,gX,w0⟩;rintro n s3 ⟨i,Dq,H3,I3,ER,Lb,w3⟩;rcases turn i n Dq H3 w3 with⟨stop,qn⟩|⟨go,N,hN,step⟩
  .refine Ad (T.done (CD X Nb scope H2.objs.size s H fp AE) rfl rfl rfl hc i [] s3 Dq H3 _ I3 (TM Lb) ER stop) λr s4 ⟨hr,I4⟩=>?_;subst hr;obtain⟨m4,jL,_⟩:=I4.loc;exact iB _ _ s4 H3 m4 (I.cQ I4.os I4.base I4.Ah I4.bare iY) jL (fC I4.free) qn
  .refine Ad (T.item (CD X Nb scope H2.objs.size s H fp AE) rfl rfl rfl hc i [] s3 Dq H3 _ I3 (TM Lb) ER go) λr s4 ⟨u,hr,h4⟩=>?_;subst hr;refine Ad h4 λ_ s5 ⟨x,H5,I5,r5,y5,FD,Qq⟩=>?_;have P2:=I5.pinned (TM Qq)<|T.obj _ _ FD;refine Ad (hg H2.objs.size s H fp AE _ s5 Dq H5 x u _ P2 r5<|step x H5 y5) λ_ s6 ⟨Kw,H6,I6,q6⟩=>?_;refine Ad (ht H2.objs.size s H fp AE _ s6 Kw H6 _ I6 q6) λb s7 ⟨H7,I7,q7⟩=>?_;have again:∀{Ms:St}{H8:Hp}{s8:Shared},Inv (CD X Nb scope H2.objs.size s H fp AE) ([]++MU fp s5.heap) Ms H8 s8->N Ms H8->∃m,m<n/\∃i Ag H',Inv (CD X Nb scope H2.objs.size s H fp AE) [] Ag H' s8/\tn i s8.heap/\(∀b∈fp,H' b=none)/\W i m Ag H':=λ{Ms H8 s8} I8 n8=>by obtain⟨m',hm,w8⟩:=hN Ms H8 n8;refine⟨m',hm,i+1,Ms,H8,I8.PM,T.keep _ _ _ FD λb hb o e=>(I8.pin (b,o)<|zZ _<|zZ _<|OT hb e).1,λb hb=>?_,w8⟩;obtain⟨o,e,d⟩:=T.obj _ _ FD b hb;exact(I8.pin (b,o)<|zZ _<|zZ _<|OT hb e).2.1
   cases b with
   |false=>
    exact again I7 q7
   |true=>
    refine Ad (he H2.objs.size s H fp AE _ s7 Kw H7 _ I7 q7) λy s8 ⟨v,H8,I8,r8,ys,e8,z8,n8⟩=>?_;refine Ad (Xs _ s8 Kw H8 (.ref s.heap.objs.size) [v] (.ref s.heap.objs.size) [y] (λ_ H9=>N Kw H9) I8 rfl (.cons r8 .nil) ⟨_,ys,v,rfl,rfl,e8,z8,n8⟩) (by rintro _ s9 ⟨_,H9,I9,_,n9⟩;exact again I9 n9)
 refine codeAny_compStart_list (loop _) ?_;exact T.self _ 0 _ _ _ (T.keep _ _ _ st λb _ o e=>old b o e)<|loop _
def Tb(own:Nat)(cap:List Nat)(wi:TI)(g:TG)(ti:TT)(te:TE):TE:=λσ H Q=>wi σ H λJ H1=>ZU own cap g ti te J σ H1 Q
theorem nK(hc:X.calm=true)(O:Fo X scope Nb own cap)(hi:PI X tg iter wi)(hg:∀C s H fp AE,PG (CD X Nb scope C s H fp AE) tg g)(ht:∀C s H fp AE,Fu (CD X Nb scope C s H fp AE) ifs ti)(he:∀C s H fp AE,PE (CD X Nb scope C s H fp AE) elt te) (hs:∀x,foldedSetIterable iter X.env x=pure x:=by intro _;rfl):PE X (.ListComp elt [⟨tg,iter,ifs,0⟩] scope pos)<|Tb own cap wi g ti te:=by intro AE s σ H Q I h;refine wpAny_comprehension_free rfl hs (Um λy hy hk=>I.ok.has _<|O.free y hy hk) O.kind O.loc<|Ad (hi AE s σ H _ I h) λxv s1 h1=>Ad h1 λOE s2 h2=>?_;obtain⟨it,fp,tn,J,H2,rfl,I2,T,IC,f2,hW⟩:=h2;refine Uv hc O hg ht he I2 T IC f2 hW λD C s' H' m I' hn fC q=>?_;refine⟨m,hn,λh' JE=>⟨.ref D,H',I'.turned (λb o hb e=>JE.extBut b o hb e) fC.1 fC.2.1 fC.2.2.2.1 fC.2.2.2.2.1 fC.2.2.2.2.2,rfl,q⟩⟩
theorem oR{y:Str}{py ZE:Pos}{i:Nat}(hN:X.N.Nodup)(CP:X.N[i]? = some y)(hx:Loc X.env.scope y)(hc:X.calm=true)(O:Fo X scope Nb own cap)(hi:PI X tg iter wi)(hg:∀C s H fp AE,PG (CD X Nb scope C s H fp AE) tg g)(ht:∀C s H fp AE,Fu (CD X Nb scope C s H fp AE) ifs ti)(he:∀C s H fp AE,PE (CD X Nb scope C s H fp AE) elt te) (G0:swapsWith (.ListComp elt [⟨tg,iter,ifs,0⟩] scope pos) (some<|.Name y py) ZE.line X.env=pure true:=by rfl) (hs:∀x,foldedSetIterable iter X.env x=pure x:=by intro _;rfl) (hf:X.fn y=true\/X.env.scope.names.lookup y=some .local:=by first|exact .inl rfl|exact .inr rfl|assumption) : PS X (.Assign [.Name y py] (.ListComp elt [⟨tg,iter,ifs,0⟩] scope pos) ZE)<|Mj (Tb own cap wi g ti te)<|Lc i:=by
 intro AE s σ H D I h;rw[exec_Assign_Name_used _ _ _ _ G0];refine wpAny_bind<|wpAny_standAt<|wpAny_bind ?_;refine wpAny_bind (wpAny_mono (wpAny_comprehension_free rfl hs (Um λy hy hk=>I.ok.has _<|O.free y hy hk) O.kind O.loc
  (Ad (hi AE s σ H _ I h) λxv s1 h1=>Ad h1 λOE s2 h2=>?_)) (λ_ s' hq=>wpAny_pure<|wpAny_pure hq) λ_ _ e=>e)
 obtain⟨it,fp,tn,J,H2,rfl,I2,T,IC,f2,hW⟩:=h2;refine Uv hc O hg ht he I2 T IC f2 hW λD' C s' H' m I' hn fC q=>?_;refine wpAny_assign_Name<|ZI I' hN CP hx (v:=.ref D') rfl (λOy av ⟨a,Ly,ha⟩=>?_) hf;have g8:C≠a:=by
  rcases ha with rfl|ha
  .exact fC.2.1
  .exact zo<|fC.2.2.2.2.1 y a ha
 refine⟨m,hn.sameBut Ly g8,λh' JE=>?_⟩;exact⟨_,H',av.turned (λb o hb e=>JE.extBut b o hb e) fC.1 fC.2.1 fC.2.2.2.1 fC.2.2.2.2.1 fC.2.2.2.2.2,q⟩
end
structure vW(P:Program)(w:World)(outer:List Env)(H:Hp)(s:Shared)(ea:Addr)(cls:Value)(B:Heap)(H':Hp)(s':Shared):Prop where
 os:s'.os=s.os
 bare:AllBare s'.gens
 un:Un (EG outer) [] H H' s.heap s'.heap
 Ah:Bl P w H' s'.heap
 xG:∃a0,Heap.FlyingW B outer ea cls a0 s'.heap
 nw:s.heap.get? ea=none
 he:H' ea=none
 b1:∀b o,s.heap.get? b=some o->b∉EG outer->∃o',B.get? b=some o'/\(H b=none->o'=o)
 b2:∀b o,(H' b).isSome=true->s'.heap.get? b=some o->B.get? b=some o
section
variable{P:Program}{w:World}{outer:List Env}{H H':Hp}{s s':Shared}{ea:Addr}{cls:Value}{B xN:Heap}
end
section
variable{X:Cx}{AE:List (Addr×Obj)}{σ:St}{H H':Hp}{s s':Shared}{ea:Addr}{cls:Value}{B h':Heap}{vs:List Value}{M:Model}
structure vY(X:Cx):Prop where
 Me:X.stack=X.env::X.outer
 fr:X.env.frame=some X.env.locals
 ex:X.ex=[]
end
section
variable{X:Cx}{E:XK}{x:Str}{C:Addr}{vz:List Value}{B xn xh:String}{np Bj pos:Pos}{xF:Expr}{BI:List Expr}{ta:TA}
end
section
variable{P:Program}{w:World}{K:PySem.W.Frag}{mg:Str->Option Value}{base:Heap}{N:List Str}{qual:Str}{scope:Scope}{f:Addr}{cd:Value}{A:Around}{outer:List Env}{s:Shared}{H:Hp}{E E':XK}
end
section
variable{X:Cx}{AE:List (Addr×Obj)}{σ:St}{H:Hp}{s:Shared}
def aw(ea C:Addr)(h:Heap):Prop:=∃o,h.get? ea=some o/\o.cls=.ref C
end
section
variable{X:Cx}{body sW:List Stmt}{cO:Stmt}{x n:Str}{np jV pos:Pos}{Wc:Addr}{i:Nat}{tb:XK->TS}{ts:TS}
end
open PySem PySem.Spec PyProof.Rows PySem.W PySem.Builtin PySem.Builtin.ObjectAttr PySem.Builtin.Getset_descriptor
section
variable{K:Frag}{x D:Addr}{M:Model}{h:Heap}{prog:Program}{w:World}{A:Around}{E:Value->Shared->Prop}{s:Shared}
structure vV(K:Frag)(D:Addr):Prop where
 ga:findIn K (.ref D) "__getattribute__" = some (some<|.builtin "BaseException.__getattribute__")
 gn:findIn K (.ref D) "__getattr__" = some none
 cl:findIn K (.ref D) "__class__" = some (some<|.builtin "object.__class__")
 sp:specialIn K (.builtin "object.__class__") "__get__" = some (some<|.builtin "getset_descriptor.__get__")
 tk:takesIn K (.builtin "object.__class__")=some true
 mr:mroIn K D (.type "object")=some true
 mb:mroIn K D (.type "BaseException")=some true
 hd:hasDictIn K D=true
end
structure bG(k:Nat)(A:Around):Prop where
 dp:A.depth+3*k+5<recursionLimit
 un:A.units+16*k+200<cLine
structure vX(P:Program)(w:World)(K:PySem.W.Frag)(mg:Str->Option Value)(base:Heap)(k:Nat)(f:Addr)(fd:FuncData)(ps:List Str)(sp:List V->Hp->VK->Prop):Prop where
 len:∀vs H Q,sp vs H Q->vs.length=ps.length
 run:∀(A:Around)(outer:List Env)(s:Shared)(H:Hp)(args:Args)(us:List Value)(vs:List V)(Q:VK),bG k A->Ky P w K mg base A outer s H->BindsTo s fd args (ps.zip us)->Ap vs us->sp vs H Q->codeAny (model P w) A (.call (.ref f) args) (λr s'=>match r with|.ok (.ret u)=>CE outer P w H s Q u s'|_=>False) s
section
variable{X:Cx}{k:Nat}{f:Addr}{fd:FuncData}{ps:List Str}{sp:List V->Hp->VK->Prop}{x:Str}{p pos:Pos}{e:Expr}{es:List Expr}{t:TA}
end
end L2
set_option genInjectivity false
set_option genSizeOf false
namespace L2.PL
set_option tactic.hygienic true
open PySem PySem.Spec PyProof.Rows
inductive PV where
 |A8|bl (b:Bool)|int (i:Int)|str (x:Str)|tup (xs:List PV)|lst (xs:List PV)
 |rd (xs:List PV)
 |Ce (ks:List<|List Int) (xs:List PV)
inductive RV where
 |cl (p:PV)|bo (ps:List PV)|fr (ps:List PV)
 |bd (ks:List<|List Int) (xs:List PV)|fd (ks:List<|List Int) (xs:List PV)
 |tf (p:PV) (ps:List PV)
inductive SV where
 |im (p:PV)|own (ps:List PV)
 |DZ (t:Option Addr) (ks:List<|List Int) (xs:List PV)
 |D7 (AJ:List<|Int×Int)
 |exc (nm:Str)
abbrev AY:=List<|Option SV
noncomputable def CZ(k:List Int):List Key:=k.map Sum.inl
mutual
def Rep(K:W.Frag)(H:Hp):PV->V->Prop
 |.A8,v=>v=.A8
 |.bl b,v=>v=.bl b
 |.int i,v=>v=.int i
 |.str x,v=>v=.str x
 |.tup xs,v=>∃a vs,v=.ref a/\BL K H a vs/\AX K H xs vs
 |.lst xs,v=>∃a vs,v=.ref a/\Rd H a (.lst vs)/\AX K H xs vs
 |.rd xs,v=>∃a vs,v=.ref a/\B6 K H a vs/\AX K H xs vs
 |.Ce ks xs,v=>∃a AJ,v=.ref a/\Rd H a (.dT AJ)/\AJ.map (·.1)=ks.map CZ/\AX K H xs (AJ.map (·.2))
def AX(K:W.Frag)(H:Hp):List PV->List V->Prop
 |[],vs=>vs=[]
 |x::xs,vs=>∃v r,vs=v::r/\Rep K H x v/\AX K H xs r
end
theorem Rd.same{H H':Hp}{a:Addr}{o:HO}(s:Ar H H')(h:Rd H a o):Rd H' a o:=by
 rcases h with h|⟨ob,h⟩
 .exact .inl<|s _ _ h
 .exact .inr ⟨ob,s _ _ h⟩
theorem BL.same{K:W.Frag}{H H':Hp}{a:Addr}{xs:List V}(s:Ar H H')(h:BL K H a xs):BL K H' a xs:=by
 rcases h with h|h
 .exact .inl<|Rd.same s h
 .exact .inr h
mutual
theorem Rep.same{K:W.Frag}{H H':Hp}(s:Ar H H'):∀{p:PV}{v:V},Rep K H p v->Rep K H' p v
 |.A8,_,h=>h
 |.bl _,_,h=>h
 |.int _,_,h=>h
 |.str _,_,h=>h
 |.tup _,_,h=>by unfold Rep at h ⊢;obtain⟨a,vs,e,q,r⟩:=h;exact⟨a,vs,e,BL.same s q,AX.same s r⟩
 |.lst _,_,h=>by unfold Rep at h ⊢;obtain⟨a,vs,e,q,r⟩:=h;exact⟨a,vs,e,Rd.same s q,AX.same s r⟩
 |.rd _,_,h=>by unfold Rep at h ⊢;obtain⟨a,vs,e,q,r⟩:=h;exact⟨a,vs,e,Ar.seq s q,AX.same s r⟩
 |.Ce _ _,_,h=>by unfold Rep at h ⊢;obtain⟨a,vs,e,q,k,r⟩:=h;exact⟨a,vs,e,Rd.same s q,k,AX.same s r⟩
theorem AX.same{K:W.Frag}{H H':Hp}(s:Ar H H'):∀{ps:List PV}{vs:List V},AX K H ps vs->AX K H' ps vs
 |[],_,h=>h
 |_::_,_,h=>by unfold AX at h ⊢;obtain⟨v,r,e,q,t⟩:=h;exact⟨v,r,e,Rep.same s q,AX.same s t⟩
end
set_option tactic.hygienic false
theorem AX.paired{K:W.Frag}{H:Hp}:∀{ps:List PV}{vs:List V},AX K H ps vs->Paired (Rep K H) ps vs
 |[],_,h=>by subst h;exact .nil
 |_::_,_,h=>by obtain⟨v,r,e,q,t⟩:=h;subst e;exact .cons q<|AX.paired t
theorem AX.of{K:W.Frag}{H:Hp}:∀{ps:List PV}{vs:List V},Paired (Rep K H) ps vs->AX K H ps vs
 |_,_,.nil=>by rfl
 |_,_,.cons q t=>by exact⟨_,_,rfl,q,AX.of t⟩
section
variable{α β:Type}{F:α->β->Prop}
theorem JS:∀{xs:List α}{us:List β}{i:Nat}{x:α},Paired F xs us->xs[i]? = some x->∃u,us[i]? = some u/\F x u
 |_,_,_,_,.nil,e=>by simp at e
 |_,_,0,_,.cons r _,e=>by simp at e;subst e;exact⟨_,rfl,r⟩
 |_,_,i+1,x,.cons _ t,e=>by obtain⟨u,h1,h2⟩:=JS t (by simpa using e);exact⟨u,by simpa using h1,h2⟩
theorem Sf:∀{xs:List α}{us:List β}{i:Nat}{u:β},Paired F xs us->us[i]? = some u->∃x,xs[i]? = some x/\F x u
 |_,_,_,_,.nil,e=>by simp at e
 |_,_,0,_,.cons r _,e=>by simp at e;subst e;exact⟨_,rfl,r⟩
 |_,_,i+1,x,.cons _ t,e=>by obtain⟨u,h1,h2⟩:=Sf t (by simpa using e);exact⟨u,by simpa using h1,h2⟩
theorem YJ{x:α}{u:β}(r:F x u):∀{xs:List α}{us:List β}(i:Nat),Paired F xs us->Paired F (xs.set i x) (us.set i u)
 |_,_,_,.nil=>.nil
 |_,_,0,.cons _ t=>.cons r t
 |_,_,i+1,.cons q t=>.cons q<|YJ r i t
theorem JR:∀{xs ys:List α}{us ws:List β},Paired F xs us->Paired F ys ws->Paired F (xs++ys) (us++ws)
 |_,_,_,_,.nil,s=>s
 |_,_,_,_,.cons r t,s=>.cons r<|JR t s
theorem Sg:∀{xs:List α}{us:List β}(n:Nat),Paired F xs us->Paired F (xs.take n) (us.take n)
 |_,_,0,_=>.nil
 |_,_,_+1,.nil=>.nil
 |_,_,n+1,.cons r t=>.cons r<|Sg n t
theorem YI:∀{xs:List α}{us:List β}(n:Nat),Paired F xs us->Paired F (xs.drop n) (us.drop n)
 |_,_,0,r=>r
 |_,_,_+1,.nil=>.nil
 |_,_,n+1,.cons _ t=>YI n t
theorem m8{xs:List α}{us:List β}(h:Paired F xs us):Paired F xs.reverse us.reverse:=by
 induction h with
 |nil=>exact .nil
 |cons r t ih=>rw[ABc,ABc];exact JR ih<|.cons r .nil
end
inductive Mu(H:Hp)(a:Addr):Prop
 |l {xs:List V} (h:H a=some (.lst xs)):Mu H a
 |d {AJ:List (List Key×V)} (h:H a=some (.dT AJ)):Mu H a
 |k {AJ:List (Key×V)} (h:H a=some (.dK AJ)):Mu H a
theorem Mu.same{H H':Hp}{a:Addr}(s:Ar H H'):Mu H a->Mu H' a
 |.l h=>.l<|s _ _ h
 |.d h=>.d<|s _ _ h
 |.k h=>.k<|s _ _ h
theorem Mu.get{H:Hp}{a:Addr}:Mu H a->∃o,H a=some o
 |.l h=>⟨_,h⟩
 |.d h=>⟨_,h⟩
 |.k h=>⟨_,h⟩
structure Av(G H G' H':Hp):Prop where
 gg:Ar G G'
 hh:Ar H H'
 sub:Ar G' H'
 ex:∀a,Mu H a->G a=none->G' a=none
theorem Av.refl{G H:Hp}(h:Ar G H):Av G H G H:=⟨Ar.refl _,Ar.refl _,h,λ_ _ n=>n⟩
theorem Av.trans{G H G1 H1 G2 H2:Hp}(a:Av G H G1 H1)(b:Av G1 H1 G2 H2):Av G H G2 H2:=
 ⟨a.gg.trans b.gg,a.hh.trans b.hh,b.sub,λc h n=>b.ex c (h.same a.hh)<|a.ex c h n⟩
noncomputable def D2(G' H H':Hp):Hp:=λa=>match G' a with|some o=>some o|none=>match H a with|some _=>none|none=>H' a
theorem Ip{G' H H':Hp}:Ar G'<|D2 G' H H':=λa o h=>by unfold D2;rw[h]
theorem Qt{G' H H':Hp}{a:Addr}{o:HO}(s:Ar G' H')(h:H a=none)(h':H' a=some o):D2 G' H H' a=some o:=by
 unfold D2;cases e:G' a with
 |some o'=>rw[s _ _ e]at h';exact h'
 |none=>rw[h];exact h'
theorem Av.all{G H G' H':Hp}(s:Av G H G' H'):Av G H (D2 G' H H') H':=by
 refine⟨s.gg.trans Ip,s.hh,λa o h=>?_,λa h n=>?_⟩
 .unfold D2 at h;cases e:G' a with
  |some o'=>rw[e]at h;cases h;exact s.sub _ _ e
  |none=>
   rw[e]at h;cases e2:H a with
   |some _=>rw[e2]at h;cases h
   |none=>rw[e2]at h;exact h
 .unfold D2;obtain⟨o,ho⟩:=h.get;rw[s.ex a h n,ho]
theorem Av.new{G H:Hp}(s:Ar G H){a:Addr}(o:HO)(h:H a=none):Av G H (upd G a o)<|upd H a o:=by
 have g:=s.free h;refine⟨λb u q=>by rw[Be<|D5 q g];exact q,λb u q=>by rw[Be<|D5 q h];exact q,λb u q=>?_,λb q n=>?_⟩
 .by_cases e:b=a
  .subst e;rw[Ci]at q ⊢;exact q
  .rw[Be e]at q ⊢;exact s _ _ q
 .obtain⟨o,ho⟩:=q.get;rw[Be<|D5 ho h];exact n
theorem Av.E7{G H:Hp}(s:Ar G H){a:Addr}(o:HO)(h:H a=none):Av G H G<|upd H a o:=by have g:=s.free h;exact⟨Ar.refl _,λb u q=>by rw[Be<|D5 q h];exact q,λb u q=>by rw[Be<|D5 q g];exact s _ _ q,λ_ _ n=>n⟩
def Bu(K:W.Frag)(H G' H':Hp):RV->V->Prop
 |.cl p,v=>Rep K G' p v
 |.bo ps,v=>∃a vs,v=.ref a/\G' a=none/\H' a=some (.lst vs)/\AX K G' ps vs
 |.fr ps,v=>∃a vs,v=.ref a/\H a=none/\G' a=none/\H' a=some (.lst vs)/\AX K G' ps vs
 |.bd ks xs,v=>∃a AJ,v=.ref a/\G' a=none/\H' a=some (.dT AJ)/\AJ.map (·.1)=ks.map CZ/\AX K G' xs (AJ.map (·.2))
 |.fd ks xs,v=>∃a AJ,v=.ref a/\H a=none/\G' a=none/\H' a=some (.dT AJ)/\AJ.map (·.1)=ks.map CZ/\AX K G' xs (AJ.map (·.2))
 |.tf p ps,v=>∃a l x vs,v=.ref a/\BL K G' a [x,.ref l]/\Rep K G' p x/\H l=none/\G' l=none/\H' l=some (.lst vs)/\AX K G' ps vs
theorem Bu.step{K:W.Frag}{H G1 H1 G2 H2:Hp}{r:RV}{v:V}(s:Av G1 H1 G2 H2)(h:Bu K H G1 H1 r v):Bu K H G2 H2 r v:=by
 cases r with
 |cl p=>exact Rep.same s.gg h
 |bo ps=>
  obtain⟨a,vs,e,g,q,r⟩:=h;exact⟨a,vs,e,s.ex a (.l q) g,s.hh _ _ q,AX.same s.gg r⟩
 |fr ps=>
  obtain⟨a,vs,e,n,g,q,r⟩:=h;exact⟨a,vs,e,n,s.ex a (.l q) g,s.hh _ _ q,AX.same s.gg r⟩
 |bd ks xs=>
  obtain⟨a,vs,e,g,q,k,r⟩:=h;exact⟨a,vs,e,s.ex a (.d q) g,s.hh _ _ q,k,AX.same s.gg r⟩
 |fd ks xs=>
  obtain⟨a,vs,e,n,g,q,k,r⟩:=h;exact⟨a,vs,e,n,s.ex a (.d q) g,s.hh _ _ q,k,AX.same s.gg r⟩
 |tf p ps=>
  obtain⟨a,l,x,vs,e,t,rx,n,g,q,r⟩:=h;exact⟨a,l,x,vs,e,BL.same s.gg t,Rep.same s.gg rx,n,s.ex l (.l q) g,s.hh _ _ q,AX.same s.gg r⟩
theorem Bu.back{K:W.Frag}{H0 H G' H':Hp}{r:RV}{v:V}(s:Ar H0 H)(h:Bu K H G' H' r v):Bu K H0 G' H' r v:=by
 cases r with
 |cl p=>exact h
 |bo ps=>exact h
 |fr ps=>
  obtain⟨a,vs,e,n,g,q,r⟩:=h;exact⟨a,vs,e,s.free n,g,q,r⟩
 |bd ks xs=>exact h
 |fd ks xs=>
  obtain⟨a,vs,e,n,g,q,r⟩:=h;exact⟨a,vs,e,s.free n,g,q,r⟩
 |tf p ps=>
  obtain⟨a,l,x,vs,e,t,rx,n,q⟩:=h;exact⟨a,l,x,vs,e,t,rx,s.free n,q⟩
noncomputable def RV.list:RV->Option (List PV)
 |.cl (.lst ps)=>some ps
 |.bo ps=>some ps
 |.fr ps=>some ps
 |_=>none
theorem Bu.list{K:W.Frag}{H G' H':Hp}{r:RV}{v:V}{ps:List PV}(sub:Ar G' H')(h:Bu K H G' H' r v)(e:r.list=some ps):∃a vs,v=.ref a/\Rd H' a (.lst vs)/\AX K G' ps vs:=by
 cases r with
 |cl p=>
  cases p with
  |lst qs=>
   simp only[RV.list,zR]at e;subst e;have h':=h;obtain⟨a,vs,e,q,r⟩:=h';exact⟨a,vs,e,Rd.same sub q,r⟩
  |_=>simp[RV.list]at e
 |bo qs=>
  simp only[RV.list,zR]at e;subst e;obtain⟨a,vs,e,g,q,r⟩:=h;exact⟨a,vs,e,.inl q,r⟩
 |fr qs=>
  simp only[RV.list,zR]at e;subst e;obtain⟨a,vs,e,n,g,q,r⟩:=h;exact⟨a,vs,e,.inl q,r⟩
 |bd ks xs=>simp[RV.list]at e
 |fd ks xs=>simp[RV.list]at e
 |tf p ps=>simp[RV.list]at e
noncomputable def RV.clean:RV->Option PV
 |.cl p=>some p
 |.fr ps=>some<|.lst ps
 |.fd ks xs=>some<|.Ce ks xs
 |.tf p ps=>some<|.tup [p,.lst ps]
 |.bo _=>none
 |.bd _ _=>none
theorem Bu.clean{K:W.Frag}{H G' H':Hp}{r:RV}{v:V}{p:PV}(sub:Ar G' H')(h:Bu K H G' H' r v)(e:r.clean=some p):Rep K (D2 G' H H') p v:=by
 cases r with
 |cl q=>
  simp only[RV.clean,zR]at e;subst e;exact Rep.same Ip h
 |bo qs=>simp[RV.clean]at e
 |fr qs=>
  simp only[RV.clean,zR]at e;subst e;obtain⟨a,vs,e,n,g,q,r⟩:=h;exact⟨a,vs,e,.inl<|Qt sub n q,AX.same Ip r⟩
 |bd ks xs=>simp[RV.clean]at e
 |fd ks xs=>
  simp only[RV.clean,zR]at e;subst e;obtain⟨a,vs,e,n,g,q,k,r⟩:=h;exact⟨a,vs,e,.inl<|Qt sub n q,k,AX.same Ip r⟩
 |tf p ps=>
  simp only[RV.clean,zR]at e;subst e;obtain⟨a,l,x,vs,e,t,rx,n,g,q,r⟩:=h;refine⟨a,_,e,BL.same Ip t,?_⟩;have z:Rep K (D2 G' H H') (.lst ps)<|.ref l:=by exact⟨l,vs,rfl,.inl<|Qt sub n q,AX.same Ip r⟩
  exact⟨_,_,rfl,Rep.same Ip rx,_,_,rfl,z,rfl⟩
def aD(K:W.Frag)(nm:Str)(C:Addr):Prop:=W.nsIn K mainGlobals nm=some (some<|.ref C)
noncomputable def Hy(p:Int×Int):Key×V:=(.inl p.1,.int p.2)
def Ju(K:W.Frag)(G H:Hp):SV->V->Prop
 |.exc nm,v=>∃a C,v=.ref a/\aD K nm C/\G a=some (.ext<|aw a C)
 |.im p,v=>Rep K G p v
 |.own ps,v=>∃a vs,v=.ref a/\G a=none/\H a=some (.lst vs)/\AX K G ps vs
 |.DZ t ks xs,v=>∃a AJ,v=.ref a/\G a=none/\H a=some (.dT AJ)/\AJ.map (·.1)=ks.map CZ/\AX K G xs (AJ.map (·.2))/\∀b,t=some b->a=b
 |.D7 AJ,v=>∃a,v=.ref a/\G a=none/\H a=some (.dK<|AJ.map Hy)
theorem Ju.step{K:W.Frag}{G H G' H':Hp}{sv:SV}{v:V}(s:Av G H G' H')(h:Ju K G H sv v):Ju K G' H' sv v:=by
 cases sv with
 |exc nm=>
  obtain⟨a,C,e,n,q⟩:=h;exact⟨a,C,e,n,s.gg _ _ q⟩
 |im p=>exact Rep.same s.gg h
 |own ps=>
  obtain⟨a,vs,e,g,q,r⟩:=h;exact⟨a,vs,e,s.ex a (.l q) g,s.hh _ _ q,AX.same s.gg r⟩
 |DZ t ks xs=>
  obtain⟨a,vs,e,g,q,k,r,z⟩:=h;exact⟨a,vs,e,s.ex a (.d q) g,s.hh _ _ q,k,AX.same s.gg r,z⟩
 |D7 AJ=>
  obtain⟨a,e,g,q⟩:=h;exact⟨a,e,s.ex a (.k q) g,s.hh _ _ q⟩
noncomputable def SV.E3:SV->Bool
 |.own _=>true
 |.DZ _ _ _=>true
 |.D7 _=>true
 |_=>false
structure Bz(K:W.Frag)(G H:Hp)(ρ:AY)(σ:St):Prop where
 sub:Ar G H
 slot:∀(i:Nat)(sv:SV),ρ[i]? = some (some sv)->∃v,σ[i]? = some (some v)/\Ju K G H sv v
 apart:∀(i j:Nat)(s t:SV)(a b:Addr),i≠j->ρ[i]? = some (some s)->s.E3=true->ρ[j]? = some (some t)->t.E3=true->σ[i]? = some (some<|.ref a)->σ[j]? = some (some<|.ref b)->a≠b
 len:ρ.length=σ.length
theorem Bz.step{K:W.Frag}{G H G' H':Hp}{ρ:AY}{σ:St}(s:Av G H G' H')(h:Bz K G H ρ σ):Bz K G' H' ρ σ:=
 ⟨s.sub,λi sv e=>let ⟨v,e1,q⟩:=h.slot i sv e;⟨v,e1,q.step s⟩,h.apart,h.len⟩
set_option tactic.hygienic true
abbrev EF:=AY->Option RV
def tX(K:W.Frag)(f:EF):TE:=λσ H Q=>∃G ρ r,Bz K G H ρ σ/\f ρ=some r/\∀v G' H',Av G H G' H'->Bu K H G' H' r v->Q v H'
def PX(X:Cx)(e:Expr)(f:EF):Prop:=PE X e<|tX X.K f
abbrev BF:=AY->Option Bool
def Em(K:W.Frag)(f:BF):TT:=λσ H Q=>∃G ρ b,Bz K G H ρ σ/\f ρ=some b/\∀G' H',Av G H G' H'->Q b H'
def DB(X:Cx)(e:Expr)(f:BF):Prop:=PT X e<|Em X.K f
def Gb(X:Cx)(e:Expr)(f:BF):Prop:=PW X e<|Em X.K f
abbrev AF:=AY->Option (List RV)
def Cj(K:W.Frag)(H G' H':Hp):List RV->List V->Prop:=Paired<|Bu K H G' H'
def Tf(K:W.Frag)(f:AF):TA:=λσ H Q=>∃G ρ rs,Bz K G H ρ σ/\f ρ=some rs/\∀vs G' H',Av G H G' H'->Cj K H G' H' rs vs->Q vs H'
def Cf(X:Cx)(es:List Expr)(f:AF):Prop:=PA X es<|Tf X.K f
theorem PE.imp{X:Cx}{e:Expr}{t t':TE}(h:PE X e t)(i:∀σ H Q,t' σ H Q->t σ H Q):PE X e t':=λAE s σ H Q I q=>h AE s σ H Q I<|i σ H Q q
theorem PT.imp{X:Cx}{e:Expr}{t t':TT}(h:PT X e t)(i:∀σ H Q,t' σ H Q->t σ H Q):PT X e t':=λAE s σ H Q I q=>h AE s σ H Q I<|i σ H Q q
theorem PW.imp{X:Cx}{e:Expr}{t t':TT}(h:PW X e t)(i:∀σ H Q,t' σ H Q->t σ H Q):PW X e t':=λwh AE s σ H Q I q=>h wh AE s σ H Q I<|i σ H Q q
theorem PA.imp{X:Cx}{es:List Expr}{t t':TA}(h:PA X es t)(i:∀σ H Q,t' σ H Q->t σ H Q):PA X es t':=λpos AE s σ H Q I q=>h pos AE s σ H Q I<|i σ H Q q
theorem PS.imp{X:Cx}{st:Stmt}{t t':TS}(h:PS X st t)(i:∀D σ H,t' D σ H->t D σ H):PS X st t':=λAE s σ H D I q=>h AE s σ H D I<|i D σ H q
theorem DA.imp{X:Cx}{st:List Stmt}{t t':TS}(h:DA X st t)(i:∀D σ H,t' D σ H->t D σ H):DA X st t':=λAE s σ H D I q=>h AE s σ H D I<|i D σ H q
noncomputable def AB(i:Nat):EF:=λρ=>match ρ[i]? with|some (some<|.im p)=>some (.cl p)|some (some<|.own ps)=>some (.bo ps)|some (some<|.DZ _ ks xs)=>some (.bd ks xs)|_=>none
noncomputable def fC(p:PV):EF:=λ_=>some<|.cl p
section
variable{X:Cx}{a b c e:Expr}{es:List Expr}{fa fb fc f:EF}{pos:Pos}
theorem p8(i:Nat){x:Str}{pos:Pos}(hN:X.N[i]? = some x)(hv:DT X.env.scope x)(hd:(x==("__debug__"))=false) (BK:(x==("__classdict__"))=false):PX X (.Name x pos)<|AB i:=by
 refine PE.imp (EM hN hv hd BK) λσ H Q ⟨G,ρ,r,R,e,q⟩=>?_;unfold AB at e;split at e
 .rename_i p hp;cases e;obtain⟨v,e1,q1⟩:=R.slot i _ hp;exact⟨v,e1,q v G H (Av.refl R.sub) q1⟩
 .rename_i ps hp;cases e;obtain⟨v,e1,q1⟩:=R.slot i _ hp;exact⟨v,e1,q v G H (Av.refl R.sub) q1⟩
 .rename_i ks xs hp;cases e;obtain⟨v,e1,a,vs,e,g,w,k,r,_⟩:=R.slot i _ hp;exact⟨v,e1,q v G H (Av.refl R.sub) ⟨a,vs,e,g,w,k,r⟩⟩
 .cases e
set_option tactic.hygienic false
theorem MV{v:V}{p:PV}(h:PE X e<|tC v)(hr:∀G,Rep X.K G p v):PX X e<|fC p:=
 PE.imp h (by rintro σ H Q ⟨G,ρ,r,R,e,q⟩;cases e;exact q v G H (Av.refl R.sub)<|hr G)
theorem pL{i:Int}{j}{pos}:PX X (.Constant (.int i) j pos)<|fC<|.int i:=MV Sj λ_=>by rfl
theorem o3{i:Bool}{j}{pos}:PX X (.Constant (.bool i) j pos)<|fC<|.bl i:=MV nE λ_=>by rfl
theorem pq{i:Str}{j}{pos}:PX X (.Constant (.str i) j pos)<|fC<|.str i:=MV nW λ_=>by rfl
noncomputable def f2(k:RV->RV->Option RV)(fa fb:EF):EF:=λρ=>match fa ρ with|none=>none|some x=>match fb ρ with|none=>none|some y=>k x y
def DI(K:W.Frag)(k:RV->RV->Option RV)(r:R2):Prop:=
 ∀(x y z:RV)(H0 G H:Hp)(vx vy:V)(Q:VK),Ar G H->Ar H0 H->k x y=some z->Bu K H0 G H x vx->Bu K H0 G H y vy->(∀v G' H',Av G H G' H'->Bu K H0 G' H' z v->Q v H')->r vx vy H Q
theorem PB{K:W.Frag}{k:RV->RV->Option RV}{r:R2}(hk:DI K k r){σ:St}{H:Hp}{Q:VK}(h:tX K (f2 k fa fb) σ H Q):Ml r (tX K fa) (tX K fb) σ H Q:=by
 obtain⟨G,ρ,z,R,e,q⟩:=h;unfold f2 at e;cases ea:fa ρ with
 |none=>rw[ea]at e;cases e
 |some x=>
  rw[ea]at e;cases eb:fb ρ with
  |none=>rw[eb]at e;cases e
  |some y=>
   rw[eb]at e;refine⟨G,ρ,x,R,ea,λvx G1 H1 s1 rx=>⟨G1,ρ,y,R.step s1,eb,λvy G2 H2 s2 ry=>?_⟩⟩;exact hk x y z H G2 H2 vx vy Q s2.sub (s1.hh.trans s2.hh) e (rx.step s2) (ry.back s1.hh) λv G' H' s3 rz=>q v G' H' ((s1.trans s2).trans s3) rz
theorem MW{op:Operator}{k:RV->RV->Option RV}{r:R2}(ho:BW X (binaryOp op) r)(hk:DI X.K k r)(ha:PX X a fa)(hb:PX X b fb):PX X (.BinOp a op b pos)<|f2 k fa fb:=
 PE.imp (nS ho ha hb) λ_ _ _ h=>PB hk h
def scalar:V->PV->Prop
 |.int i,.int j=>i=j
 |.bl i,.bl j=>i=j
 |.str i,.str j=>i=j
 |.A8,.A8=>True
 |_,_=>False
theorem scalar.rep{K:W.Frag}{G:Hp}{v:V}{p:PV}(h:scalar v p):Rep K G p v:=by cases v<;>cases p<;>simp only[scalar]at h<;>first|exact h.elim|(subst h;rfl)|(rfl)
set_option tactic.hygienic true
theorem Bu.int{K:W.Frag}{H0 G H:Hp}{i:Int}{v:V}(h:Bu K H0 G H (.cl<|.int i) v):v=.int i:=by have h':=h;exact h'
theorem Bu.bl{K:W.Frag}{H0 G H:Hp}{i:Bool}{v:V}(h:Bu K H0 G H (.cl<|.bl i) v):v=.bl i:=by have h':=h;exact h'
noncomputable def kI(C:Int->Int->Prop)[∀i j,Decidable<|C i j](g:Int->Int->PV):RV->RV->Option RV
 |.cl (.int i),.cl (.int j)=>if C i j then some (.cl<|g i j)else none
 |_,_=>none
theorem SX{K:W.Frag}{C:Int->Int->Prop}[∀i j,Decidable<|C i j]{C':Int->Int->Prop}{g:Int->Int->PV}{g':Int->Int->V}(hC:∀i j,C i j->C' i j)(hg:∀i j,C i j->scalar (g' i j) (g i j)):DI K (kI C g)<|rI C' g':=by
 intro x y z H0 G H vx vy Q sub _ e rx ry q;unfold kI at e;split at e
 .rename_i i j;split at e
  .rename_i hc;cases e;exact⟨i,j,rx.int,ry.int,hC i j hc,q _ G H (Av.refl sub) (hg i j hc).rep⟩
  .cases e
 .cases e
theorem MR{K:W.Frag}{g:Int->Int->PV}{g':Int->Int->V}(hg:∀i j,scalar (g' i j)<|g i j):DI K (kI (λ_ _=>True) g)<|HE g':=by
 intro x y z H0 G H vx vy Q sub _ e rx ry q;unfold kI at e;split at e
 .rename_i i j;cases e;exact⟨i,j,rx.int,ry.int,q _ G H (Av.refl sub) (hg i j).rep⟩
 .cases e
end
end L2.PL
namespace L2.PL
open PySem PySem.Spec PyProof.Rows
section
set_option tactic.hygienic true
variable{X:Cx}{a b c e:Expr}{es:List Expr}{fa fb fc f:EF}{pos:Pos}
instance{i j:Int}:Decidable<|EU i j:=by unfold EU;infer_instance
instance{i j:Int}:Decidable<|Kx i j:=by unfold Kx;infer_instance
def Ab:RV->RV->Option RV:=kI (λ_ _=>True) λi j=>.int<|i-j
def CK:RV->RV->Option RV:=kI EU λi j=>.int<|i*j
def B4:RV->RV->Option RV:=kI Kx λi j=>.int<|i / j
def A1:RV->RV->Option RV:=kI (λ_ j=>0<j) λi j=>.int<|i%j
theorem pz(ha:PX X a fa)(hb:PX X b fb):PX X (.BinOp a .Sub b pos)<|f2 Ab fa fb:=MW mS (MR λ_ _=>rfl) ha hb
theorem pX(ha:PX X a fa)(hb:PX X b fb):PX X (.BinOp a .Mult b pos)<|f2 CK fa fb:=MW mO (SX (λ_ _ h=>h) λ_ _ _=>rfl) ha hb
theorem pD(ha:PX X a fa)(hb:PX X b fb):PX X (.BinOp a .FloorDiv b pos)<|f2 B4 fa fb:=MW mG (SX (λ_ _ h=>h) λ_ _ _=>rfl) ha hb
theorem pW(ha:PX X a fa)(hb:PX X b fb):PX X (.BinOp a .Mod b pos)<|f2 A1 fa fb:=MW mN (SX (λ_ _ h=>h) λ_ _ _=>rfl) ha hb
def Sw:R2:=λx y H Q=>∃l b xs zs,x=.ref l/\y=.ref b/\Rd H l (.lst xs)/\Rd H b (.lst zs)/\xs.length+zs.length<=sizeLine/\∀p,H p=none->Q (.ref p) (upd H p<|.lst<|xs++zs)
theorem mE:BW X (binaryOp .Add) Sw:=by
 intro AE s σ H x y v u Q I rx ry h;obtain⟨l,b,xs,zs,rfl,rfl,hH,hB,hz,q⟩:=h;cases rx;cases ry;obtain⟨z,its,n,r,e⟩:=hH.ok I.Ah;obtain⟨z2,Ht,n2,r2,e2⟩:=hB.ok I.Ah;have hl:=r.length;have JB:=r2.length;refine PySem.P.add_list e e2 ?_ (by rw[yh,yh];omega);have ea:its.toArray++Ht.toArray=(its++Ht).toArray:=yI
 rw[ea];exact⟨.ref _,_,I.k6 (r.append r2) (by rw[yx];omega),rfl,q _ I.fresh⟩
def L8(x y:RV):Option RV:=match x.list,y.list with
 |some xs,some ys=>if xs.length+ys.length<=1000 then some (.fr<|xs++ys)else none
 |_,_=>none
theorem small{n:Nat}(h:n<=1000):n<=sizeLine:=AAj<|ZC h
theorem AX.len{K:W.Frag}{H:Hp}{ps:List PV}{vs:List V}(h:AX K H ps vs):ps.length=vs.length:=Paired.length h.paired
theorem l7{K:W.Frag}:DI K L8 Sw:=by
 intro x y z H0 G H vx vy Q sub sh e rx ry q;unfold L8 at e;split at e
 .rename_i xs ys ex ey;split at e
  .cases e;obtain⟨l,vs,rfl,hl,rl⟩:=rx.list sub ex;obtain⟨b,us,rfl,hb,rb⟩:=ry.list sub ey;have e1:=rl.len;have e2:=rb.len;refine⟨l,b,vs,us,rfl,rfl,hl,hb,small yH,λp hp=>?_⟩;refine q (.ref p) G _ (Av.E7 sub _ hp) ?_;refine⟨p,vs++us,rfl,sh.free hp,sub.free hp,Ci,AX.of<|JR rl.paired rb.paired⟩
  .cases e
 .cases e
def AZ(x y:RV):Option RV:=match x,y with
 |.cl (.int i),.cl (.int j)=>some<|.cl<|.int<|i+j
 |x,y=>L8 x y
theorem l6{K:W.Frag}:DI K AZ (λx y H Q=>HE (λi j=>.int<|i+j) x y H Q\/Sw x y H Q):=by
 intro x y z H0 G H vx vy Q sub sh e rx ry q;unfold AZ at e;split at e
 .rename_i i j;exact .inl<|MR (g:=λi j=>.int<|i+j) (g':=λi j=>.int<|i+j) (λ_ _=>rfl) (.cl<|.int i) (.cl<|.int j) z H0 G H vx vy Q sub sh (by simpa[kI]using e) rx ry q
 .exact .inr<|l7 _ _ z H0 G H vx vy Q sub sh e rx ry q
theorem oy(ha:PX X a fa)(hb:PX X b fb):PX X (.BinOp a .Add b pos)<|f2 AZ fa fb:=MW (mD.or mE) l6 ha hb
noncomputable def Ig(fa:EF):EF:=λρ=>match fa ρ with|some (.cl<|.int i)=>some (.cl<|.int (-i))|_=>none
theorem pY(ha:PX X a fa):PX X (.UnaryOp .USub a pos)<|Ig fa:=PE.imp (Ya Zl ha) (by
 rintro σ H Q ⟨G,ρ,r,R,e,q⟩;unfold Ig at e;split at e
 .rename_i i ea;cases e;exact⟨G,ρ,_,R,ea,λv G' H' s rv=>⟨i,rv.int,q _ G' H' s<|by rfl⟩⟩
 .cases e)
def Bk:RV->RV->Option RV:=kI (λ_ _=>True) λi j=>.bl<|decide (i<j)
def B1:RV->RV->Option RV:=kI (λ_ _=>True) λi j=>.bl<|decide (i<=j)
def Bq:RV->RV->Option RV:=kI (λ_ _=>True) λi j=>.bl<|decide (j<i)
structure Cc(X:Cx)(op:CmpOp)(k:RV->RV->Option RV):Prop where
 ex:∃r,BW X (compareOp op) r/\DI X.K k r
theorem dI:Cc X .Lt Bk:=⟨_,mL,MR λ_ _=>rfl⟩
theorem dH:Cc X .LtE B1:=⟨_,mK,MR λ_ _=>rfl⟩
theorem dE:Cc X .Gt Bq:=⟨_,mH,MR λ_ _=>rfl⟩
theorem o8{op:CmpOp}{k:RV->RV->Option RV}(hc:Cc X op k)(ha:PX X a fa)(hb:PX X b fb)(hm:behindInMarks op b=false):PX X (.Compare a [op] [b] pos)<|f2 k fa fb:=by obtain⟨r,ho,hk⟩:=hc.ex;exact PE.imp (nJ ho ha hb hm) λ_ _ _ h=>PB hk h
noncomputable def AR(f:EF):BF:=λρ=>match f ρ with|some (.cl<|.bl b)=>some b|_=>none
theorem PF{K:W.Frag}{σ:St}{H:Hp}{Q:Bool->Hp->Prop}(h:Em K (AR f) σ H Q):tX K f σ H λx H'=>∃k,x=.bl k/\Q k H':=by
 obtain⟨G,ρ,r,R,e,q⟩:=h;unfold AR at e;split at e
 .rename_i b eb;cases e;exact⟨G,ρ,_,R,eb,λv G' H' s rv=>⟨_,rv.bl,q G' H' s⟩⟩
 .cases e
theorem qk{op:CmpOp}{k:RV->RV->Option RV}(hc:Cc X op k)(ha:PX X a fa)(hb:PX X b fb)(hm:behindInMarks op b=false):DB X (.Compare a [op] [b] pos)<|AR<|f2 k fa fb:=by obtain⟨r,ho,hk⟩:=hc.ex;exact PT.imp (oY ho ha hb hm) λ_ _ _ h=>PB hk<|PF h
noncomputable def Dx(k k':RV->RV->Option RV)(fa fb fc:EF):EF:=λρ=>match fa ρ,fb ρ with
 |some x,some y=>match k x y with
  |some (.cl<|.bl true)=>(match fc ρ with|some z=>k' y z|none=>none)
  |some (.cl<|.bl false)=>some<|.cl<|.bl false
  |_=>none
 |_,_=>none
theorem Zb{K:W.Frag}{k k':RV->RV->Option RV}{r r':R2}(hk:DI K k r)(Bc:DI K k' r'){σ:St}{H:Hp}{Q:VK}(h:tX K (Dx k k' fa fb fc) σ H Q):TZ r r' (tX K fa) (tX K fb) (tX K fc) σ H Q:=by
 obtain⟨G,ρ,z,R,e,q⟩:=h;unfold Dx at e;split at e
 .rename_i x y ea eb;refine⟨G,ρ,x,R,ea,λvx G1 H1 s1 rx=>⟨G1,ρ,y,R.step s1,eb,λvy G2 H2 s2 ry=>?_⟩⟩;split at e
  .rename_i ek;cases ec:fc ρ with
   |none=>rw[ec]at e;cases e
   |some w=>
    rw[ec]at e;refine hk x y _ H G2 H2 vx vy _ s2.sub (s1.hh.trans s2.hh) ek (rx.step s2) (ry.back s1.hh) λv G3 H3 s3 rv=>⟨true,rv.bl,?_⟩;refine⟨G3,ρ,w,(R.step s1).step<|s2.trans s3,ec,λvw G4 H4 s4 Cq=>?_⟩;exact Bc y w z H G4 H4 vy vw Q s4.sub (((s1.trans s2).trans s3).trans s4).hh e ((ry.back s1.hh).step<|s3.trans s4) (Cq.back ((s1.trans s2).trans s3).hh) λv G5 H5 s5 JZ=>q v G5 H5 ((((s1.trans s2).trans s3).trans s4).trans s5) JZ
  .rename_i ek;cases e;refine hk x y _ H G2 H2 vx vy _ s2.sub (s1.hh.trans s2.hh) ek (rx.step s2) (ry.back s1.hh) λv G3 H3 s3 rv=>⟨false,rv.bl,?_⟩;exact q _ G3 H3 ((s1.trans s2).trans s3)<|by rfl
  .cases e
 .cases e
set_option tactic.hygienic false
theorem o6{op Bx:CmpOp}{k k':RV->RV->Option RV}(hc:Cc X op k)(F7:Cc X Bx k')(ha:PX X a fa)(hb:PX X b fb)(EH:PX X c fc)(hm:lastMarks [op,Bx] [b,c]=false) : PX X (.Compare a [op,Bx] [b,c] pos)<|Dx k k' fa fb fc:=by obtain⟨r,ho,hk⟩:=hc.ex;obtain⟨r',Bw,Bc⟩:=F7.ex;exact PE.imp (nH ho Bw ha hb EH hm) λ_ _ _ h=>Zb hk Bc h
theorem qi{op Bx:CmpOp}{k k':RV->RV->Option RV}(hc:Cc X op k)(F7:Cc X Bx k')(ha:PX X a fa)(hb:PX X b fb)(EH:PX X c fc)(hm:lastMarks [op,Bx] [b,c]=false) : DB X (.Compare a [op,Bx] [b,c] pos)<|AR<|Dx k k' fa fb fc:=by obtain⟨r,ho,hk⟩:=hc.ex;obtain⟨r',Bw,Bc⟩:=F7.ex;exact PT.imp (oW ho Bw ha hb EH hm) λ_ _ _ h=>Zb hk Bc<|PF h
noncomputable def CN(t u:BF):BF:=λρ=>match t ρ with|some true=>u ρ|some false=>some false|none=>none
noncomputable def CF(t u:BF):BF:=λρ=>match t ρ with|some true=>some true|some false=>u ρ|none=>none
noncomputable def CO(t:BF):BF:=λρ=>(t ρ).map (!·)
variable{ta tb tc:BF}{BI:List Expr}
theorem uD{K:W.Frag}{σ:St}{H:Hp}{Q:Bool->Hp->Prop}(h:Em K (CN ta tb) σ H Q):ZR (Em K ta) (Em K tb) σ H Q:=by
 obtain⟨G,ρ,r,R,e,q⟩:=h;unfold CN at e;split at e
 .rename_i ea;refine⟨G,ρ,true,R,ea,λG1 H1 s1=>?_⟩;exact⟨G1,ρ,r,R.step s1,e,λG2 H2 s2=>q G2 H2<|s1.trans s2⟩
 .rename_i ea;cases e;refine⟨G,ρ,false,R,ea,λG1 H1 s1=>?_⟩;exact q G1 H1 s1
 .cases e
theorem uE{K:W.Frag}{σ:St}{H:Hp}{Q:Bool->Hp->Prop}(h:Em K (CF ta tb) σ H Q):ZW (Em K ta) (Em K tb) σ H Q:=by
 obtain⟨G,ρ,r,R,e,q⟩:=h;unfold CF at e;split at e
 .rename_i ea;cases e;refine⟨G,ρ,true,R,ea,λG1 H1 s1=>?_⟩;exact q G1 H1 s1
 .rename_i ea;refine⟨G,ρ,false,R,ea,λG1 H1 s1=>?_⟩;exact⟨G1,ρ,r,R.step s1,e,λG2 H2 s2=>q G2 H2<|s1.trans s2⟩
 .cases e
theorem qt(ha:DB X a ta):Gb X (.BoolOp .And [a] pos) ta:=ot ha
theorem qv(ha:DB X a ta):Gb X (.BoolOp .Or [a] pos) ta:=ox ha
theorem qr(ha:DB X a ta)(hb:Gb X (.BoolOp .And (b::BI) pos) tb):Gb X (.BoolOp .And (a::b::BI) pos)<|CN ta tb:=PW.imp (oq ha hb) λ_ _ _ h=>uD h
theorem qu(ha:DB X a ta)(hb:Gb X (.BoolOp .Or (b::BI) pos) tb):Gb X (.BoolOp .Or (a::b::BI) pos)<|CF ta tb:=PW.imp (ow ha hb) λ_ _ _ h=>uE h
theorem qq(h:Gb X e ta):DB X e ta:=h.pt
theorem qo(ha:DB X a ta):DB X (.UnaryOp .Not a pos)<|CO ta:=PT.imp (oZ ha) (by
 rintro σ H Q ⟨G,ρ,r,R,e,q⟩;unfold CO at e;cases ea:ta ρ with
 |none=>rw[ea]at e;cases e
 |some k=>
  rw[ea]at e;cases e;exact⟨G,ρ,k,R,ea,λG1 H1 s1=>q G1 H1 s1⟩)
theorem qp(ha:PX X a fa)(he:∀whole,isTrue a X.env whole=(do let v<-whole;standAt a.pos;holding [v] (truthy v))):DB X a<|AR fa:=
 PT.imp (oa ha he) λ_ _ _ h=>PF h
noncomputable def Cy(f g:EF):EF:=λρ=>match f ρ with|some (.cl<|.bl true)=>g ρ|some (.cl<|.bl false)=>some (.cl<|.bl false)|_=>none
noncomputable def DK(f g:EF):EF:=λρ=>match f ρ with|some (.cl<|.bl false)=>g ρ|some (.cl<|.bl true)=>some (.cl<|.bl true)|_=>none
noncomputable def Ih(f:EF):EF:=λρ=>match f ρ with|some (.cl<|.bl b)=>some (.cl<|.bl (!b))|_=>none
theorem pd{op}(h:PX X a fa):PX X (.BoolOp op [a] pos) fa:=nR h
theorem oz(ha:PX X a fa)(hb:PX X (.BoolOp .And (b::BI) pos) fb):PX X (.BoolOp .And (a::b::BI) pos)<|Cy fa fb:=PE.imp (nD ha hb) (by
 rintro σ H Q ⟨G,ρ,r,R,e,q⟩;unfold Cy at e;split at e
 .rename_i ea;refine⟨G,ρ,_,R,ea,λv G1 H1 s1 rv=>⟨true,rv.bl,?_⟩⟩;exact⟨G1,ρ,r,R.step s1,e,λv2 G2 H2 s2 r2=>q v2 G2 H2 (s1.trans s2)<|r2.back s1.hh⟩
 .rename_i ea;cases e;refine⟨G,ρ,_,R,ea,λv G1 H1 s1 rv=>⟨false,rv.bl,?_⟩⟩;exact q _ G1 H1 s1<|by rfl
 .cases e)
theorem pe(ha:PX X a fa)(hb:PX X (.BoolOp .Or (b::BI) pos) fb):PX X (.BoolOp .Or (a::b::BI) pos)<|DK fa fb:=PE.imp (nT ha hb) (by
 rintro σ H Q ⟨G,ρ,r,R,e,q⟩;unfold DK at e;split at e
 .rename_i ea;refine⟨G,ρ,_,R,ea,λv G1 H1 s1 rv=>⟨false,rv.bl,?_⟩⟩;exact⟨G1,ρ,r,R.step s1,e,λv2 G2 H2 s2 r2=>q v2 G2 H2 (s1.trans s2)<|r2.back s1.hh⟩
 .rename_i ea;cases e;refine⟨G,ρ,_,R,ea,λv G1 H1 s1 rv=>⟨true,rv.bl,?_⟩⟩;exact q _ G1 H1 s1<|by rfl
 .cases e)
set_option tactic.hygienic true
theorem pZ(ha:PX X a fa):PX X (.UnaryOp .Not a pos)<|Ih fa:=PE.imp (nQ ha) (by
 rintro σ H Q ⟨G,ρ,r,R,e,q⟩;unfold Ih at e;split at e
 .rename_i b ea;cases e;exact⟨G,ρ,_,R,ea,λv G1 H1 s1 rv=>⟨b,rv.bl,q _ G1 H1 s1<|by rfl⟩⟩
 .cases e)
noncomputable def Gr(t:BF)(f g:EF):EF:=λρ=>match t ρ with|some true=>f ρ|some false=>g ρ|none=>none
set_option tactic.hygienic false
theorem pI(hc:DB X c tc)(ha:PX X a fa)(hb:PX X b fb):PX X (.IfExp c a b pos)<|Gr tc fa fb:=PE.imp (nN hc ha hb) (by
 rintro σ H Q ⟨G,ρ,r,R,e,q⟩;unfold Gr at e;split at e
 .rename_i ec;refine⟨G,ρ,true,R,ec,λG1 H1 s1=>?_⟩;exact⟨G1,ρ,r,R.step s1,e,λv2 G2 H2 s2 r2=>q v2 G2 H2 (s1.trans s2)<|r2.back s1.hh⟩
 .rename_i ec;refine⟨G,ρ,false,R,ec,λG1 H1 s1=>?_⟩;exact⟨G1,ρ,r,R.step s1,e,λv2 G2 H2 s2 r2=>q v2 G2 H2 (s1.trans s2)<|r2.back s1.hh⟩
 .cases e)
noncomputable def AH:AF:=λ_=>some []
noncomputable def AD(f:EF)(g:AF):AF:=λρ=>match f ρ,g ρ with|some x,some xs=>some (x::xs)|_,_=>none
variable{g:AF}
theorem Sv:Cf X [] AH:=PA.imp MT (by rintro σ H Q ⟨G,ρ,r,R,e,q⟩;cases e;exact q [] G H (Av.refl R.sub) .nil)
theorem Cj.step{K:W.Frag}{H G1 H1 G2 H2:Hp}(s:Av G1 H1 G2 H2):∀{rs:List RV}{vs:List V},Cj K H G1 H1 rs vs->Cj K H G2 H2 rs vs
 |_,_,.nil=>.nil
 |_,_,.cons r t=>.cons (r.step s)<|Cj.step s t
theorem Cj.back{K:W.Frag}{H0 H G' H':Hp}(s:Ar H0 H):∀{rs:List RV}{vs:List V},Cj K H G' H' rs vs->Cj K H0 G' H' rs vs
 |_,_,.nil=>.nil
 |_,_,.cons r t=>.cons (r.back s)<|Cj.back s t
set_option tactic.hygienic true
theorem MX(ha:PX X e f)(hr:Cf X es g)(hs:starEach (e::es) X.env=(false,eval e X.env)::starEach es X.env:=by rfl):Cf X (e::es)<|AD f g:=PA.imp (Kc ha hr hs) (by
 rintro σ H Q ⟨G,ρ,r,R,e,q⟩;unfold AD at e;split at e
 .rename_i x xs ea eb;cases e;refine⟨G,ρ,x,R,ea,λv G1 H1 s1 rv=>⟨G1,ρ,xs,R.step s1,eb,λvs G2 H2 s2 rs=>?_⟩⟩;exact q (v::vs) G2 H2 (s1.trans s2)<|.cons (rv.step s2)<|Cj.back s1.hh rs
 .cases e)
def Cm:List RV->Option (List PV)
 |[]=>some []
 |r::rs=>match r.clean,Cm rs with|some p,some ps=>some (p::ps)|_,_=>none
theorem IQ{K:W.Frag}{H G' H':Hp}(sub:Ar G' H'):∀{rs:List RV}{vs:List V}{ps:List PV},Cj K H G' H' rs vs->Cm rs=some ps->AX K (D2 G' H H') ps vs
 |_,_,_,.nil,e=>by cases e;rfl
 |_,_,_,.cons r t,e=>by
  unfold Cm at e;split at e
  .rename_i p ps e1 e2;cases e;exact⟨_,_,rfl,r.clean sub e1,IQ sub t e2⟩
  .cases e
def Am(g:AF):EF:=λρ=>match g ρ with|some rs=>(match Cm rs with|some ps=>if ps.length<=1000 then some (.cl<|.tup ps)else none|none=>none)|none=>none
def A3(g:AF):EF:=λρ=>match g ρ with|some rs=>(match Cm rs with|some ps=>if ps.length<=1000 then some (.fr ps)else none|none=>none)|none=>none
theorem p0{x1}(h:Cf X es g):PX X (.Tuple es x1 pos)<|Am g:=PE.imp (Sk h) (by
 rintro σ H Q ⟨G,ρ,r,R,e,q⟩;unfold Am at e;split at e
 .rename_i rs eg;split at e
  .rename_i ps ep;split at e
   .cases e;refine⟨G,ρ,rs,R,eg,λvs G1 H1 s1 rv=>?_⟩;have rl:=IQ s1.sub rv ep;have hl:=rl.len;refine⟨small yH,λp hp=>?_⟩;have s2:=s1.all;have s3:=Av.new s2.sub (.tup vs) hp;refine q (.ref p) _ _ (s2.trans s3) ?_;exact⟨p,vs,rfl,.inl<|.inl Ci,AX.same s3.gg rl⟩
   .cases e
  .cases e
 .cases e)
theorem pV(h:Cf X es g):PX X (.List es pos)<|A3 g:=PE.imp (nP h) (by
 rintro σ H Q ⟨G,ρ,r,R,e,q⟩;unfold A3 at e;split at e
 .rename_i rs eg;split at e
  .rename_i ps ep;split at e
   .cases e;refine⟨G,ρ,rs,R,eg,λvs G1 H1 s1 rv=>?_⟩;have rl:=IQ s1.sub rv ep;have hl:=rl.len;refine⟨small yH,λp hp=>?_⟩;have s2:=s1.all;refine q (.ref p) _ _ (s2.trans<|Av.E7 s2.sub (.lst vs) hp) ?_;exact⟨p,vs,rfl,s1.hh.free hp,s2.sub.free hp,Ci,rl⟩
   .cases e
  .cases e
 .cases e)
end
section
variable{X:Cx}{a b c e:Expr}{es:List Expr}{fa fb fc f:EF}{g:AF}{pos:Pos}
def Yr(K:W.Frag):R2:=λx y H Q=>Yq K x y H Q\/Ys K x y H Q
theorem kA:HQ X<|Yr X.K:=kB.or kC
def RV.seq:RV->Option (List PV)
 |.cl (.tup ps)=>some ps
 |.cl (.rd ps)=>some ps
 |r=>r.list
def AL(x y:RV):Option RV:=match x.seq,y with
 |some ps,.cl (.int i)=>(CC ps i).map .cl
 |_,_=>none
theorem AX.CC{K:W.Frag}{H:Hp}{ps:List PV}{vs:List V}{i:Int}{p:PV}(h:AX K H ps vs)(e:CC ps i=some p):∃v,CC vs i=some v/\Rep K H p v:=by
 unfold L2.CC at e ⊢;rw[<-h.len];cases ei:Di ps.length i with
 |none=>rw[ei]at e;cases e
 |some j=>
  rw[ei]at e;exact JS h.paired e
theorem Bu.seq{K:W.Frag}{H G' H':Hp}{r:RV}{v:V}{ps:List PV}(sub:Ar G' H')(h:Bu K H G' H' r v)(e:r.seq=some ps):∃a vs,v=.ref a/\(B6 K H' a vs\/BL K H' a vs)/\AX K G' ps vs:=by
 by_cases ht:∃qs,r=.cl (.tup qs)
 .obtain⟨qs,rfl⟩:=ht;simp only[RV.seq,zR]at e;subst e;have h':=h;obtain⟨a,vs,e,q,r⟩:=h';exact⟨a,vs,e,.inr<|BL.same sub q,r⟩
 by_cases hd:∃qs,r=.cl (.rd qs)
 .obtain⟨qs,rfl⟩:=hd;simp only[RV.seq,zR]at e;subst e;have h':=h;obtain⟨a,vs,e,q,r⟩:=h';exact⟨a,vs,e,.inl<|Ar.seq sub q,r⟩
 .have e':r.list=some ps:=by
   cases r with
   |cl p=>cases p<;>first|exact e|exact absurd ⟨_,rfl⟩ ht|exact absurd ⟨_,rfl⟩ hd
   |bo ps=>exact e
   |fr ps=>exact e
   |bd _ _=>exact e
   |fd _ _=>exact e
   |tf _ _=>exact e
  obtain⟨a,vs,e,q,r⟩:=h.list sub e';exact⟨a,vs,e,.inl<|.inl q,r⟩
set_option tactic.hygienic true
theorem l9{K:W.Frag}:DI K AL<|Yr K:=by
 intro x y z H0 G H vx vy Q sub sh e rx ry q;unfold AL at e;split at e
 .rename_i ps i ex;cases ei:CC ps i with
  |none=>rw[ei]at e;cases e
  |some p=>
   rw[ei]at e;cases e;obtain⟨a,vs,rfl,hq,rl⟩:=rx.seq sub ex;obtain⟨v,ev,rv⟩:=rl.CC ei;have Nu:=q v G H (Av.refl sub) rv;rcases hq with hq|hq
   .exact .inl ⟨a,vs,i,v,rfl,ry.int,hq,ev,Nu⟩
   .exact .inr ⟨a,vs,i,v,rfl,ry.int,hq,ev,Nu⟩
 .cases e
theorem pP(ha:PX X a fa)(hb:PX X b fb)(hs:UH b):PX X (.Subscript a b pos)<|f2 AL fa fb:=PE.imp (nO kA ha hb hs) λ_ _ _ h=>PB l9 h
abbrev OF:=AY->Option (Option Int)
noncomputable def Cz:OF:=λ_=>some none
noncomputable def Cn(f:EF):OF:=λρ=>match f ρ with|some (.cl<|.int i)=>some (some i)|_=>none
def uC(K:W.Frag)(f:OF):TO:=λσ H Q=>∃G ρ r,Bz K G H ρ σ/\f ρ=some r/\∀G' H',Av G H G' H'->Q r H'
def Jr(X:Cx)(e:Option Expr)(f:OF):Prop:=PO X e<|uC X.K f
theorem PO.imp{X:Cx}{e:Option Expr}{t t':TO}(h:PO X e t)(i:∀σ H Q,t' σ H Q->t σ H Q):PO X e t':=λAE s σ H Q I q=>h AE s σ H Q I<|i σ H Q q
theorem qJ:Jr X none Cz:=PO.imp oE (by rintro σ H Q ⟨G,ρ,r,R,e,q⟩;cases e;exact q G H<|Av.refl R.sub)
theorem qK(h:PX X e f):Jr X (some e)<|Cn f:=PO.imp (oF h) (by
 rintro σ H Q ⟨G,ρ,r,R,e,q⟩;unfold Cn at e;split at e
 .rename_i i ei;cases e;exact⟨G,ρ,_,R,ei,λv G' H' s rv=>⟨i,rv.int,q G' H' s⟩⟩
 .cases e)
def IV(xs:List PV)(lo hi:Option Int):List PV:=(xs.drop<|HT.C6 xs.length 0 lo).take<|HT.C6 xs.length xs.length hi-HT.C6 xs.length 0 lo
def Co(f:EF)(l u:OF):EF:=λρ=>match f ρ,l ρ,u ρ with
 |some x,some lo,some hi=>(match x.list with|some ps=>some (.fr<|IV ps lo hi)|none=>none)
 |_,_,_=>none
theorem ph{lo hi:Option Expr}{l u:OF}{p2:Pos}(he:PX X e f)(hl:Jr X lo l)(hu:Jr X hi u):PX X (.Subscript e (.Slice lo hi none p2) pos)<|Co f l u:=PE.imp (nV rh he hl hu) (by
 rintro σ H Q ⟨G,ρ,r,R,e,q⟩;unfold Co at e;split at e
 .rename_i x k7 CP ex el eu;split at e
  .rename_i ps ep;cases e;refine⟨G,ρ,x,R,ex,λv G1 H1 s1 rv=>⟨G1,ρ,k7,R.step s1,el,λG2 H2 s2=>⟨G2,ρ,CP,(R.step s1).step s2,eu,λG3 H3 s3=>?_⟩⟩⟩;obtain⟨a,vs,rfl,hq,rl⟩:=(rv.step<|s2.trans s3).list s3.sub ep;refine⟨a,vs,rfl,.inl hq,λp hp=>?_⟩;refine q (.ref p) _ _ (((s1.trans s2).trans s3).trans<|Av.E7 s3.sub _ hp) ?_;refine⟨p,_,rfl,((s1.trans s2).trans s3).hh.free hp,s3.sub.free hp,Ci,?_⟩;unfold IV NI;rw[rl.len];exact AX.of<|Sg _<|YI _ rl.paired
  .cases e
 .cases e)
def tZ(te:TE):TE:=λσ H Q=>te σ H λx H1=>∃a xs,x=.ref a/\Rd H1 a (.lst xs)/\∀p,H1 p=none->Q (.ref p) (upd H1 p<|.lst xs.reverse)
theorem nU{te:TE}{j p1 p2 p3}(he:PE X e te):PE X (.Subscript e (.Slice none none (some<|.UnaryOp .USub (.Constant (.int 1) j p1) p2) p3) pos)<|tZ te:=by intro AE s σ H Q I h;refine Subscript_<|Ad (he AE s σ H _ I h) λv s1 ⟨x,H1,I1,r1,q1⟩=>?_;refine wpAny_Slice ?_;refine wpAny_pure ?_;refine wpAny_pure ?_;refine Ad (Ya Zl (Sj) AE s1 σ H1 (λv H2=>v=.int (-1)/\H2=H1) I1 ⟨1,rfl,rfl,rfl⟩) λst s3 ⟨y,H3,I3,r3,q3⟩=>?_;obtain⟨rfl,rfl⟩:=q3;obtain⟨t,rfl⟩:=r3;obtain⟨a,xs,rfl,hq,q⟩:=q1;cases r1;have I4:Inv X AE σ H3 {s3 with heap:=s3.heap.push {cls:=.type "slice",data:=.fields #[.none,.none,.int (-1) t]}}:=I3.kept λb ob q=>Heap.get?_push_of_some _ q;obtain⟨z,its,n,r,e⟩:=hq.ok I4.Ah;have hl:=r.length;have Wk:Heap.IsList (s3.heap.push {cls:=.type "slice",data:=.fields #[.none,.none,.int (-1) t]}) a its.toArray:=⟨_,e,rfl,n,rfl⟩;refine tail_any Wk.typeIs slot_list_getitem.lookup ?_ (by with_unfolding_all rfl);refine wpAny_getItem_list_slice Wk (Heap.IsSliceOf.new ..) .none .none (.int _ _) yI ?_ (by rw[yh]<;>omega);rw[W.krv_pick];refine⟨.ref _,_,I4.laid (λb ob q=>Heap.get?_push_of_some _ q) (yf _) ?_,rfl,q _<|I4.Ah.fresh<|yf _⟩;exact⟨by rw[ACg];exact z,_,0,r.reverse,Heap.get?_push_size _ rfl⟩
def FQ(f:EF):EF:=λρ=>match f ρ with|some x=>(match x.list with|some ps=>some (.fr ps.reverse)|none=>none)|none=>none
theorem pf{j p1 p2 p3}(he:PX X e f):PX X (.Subscript e (.Slice none none (some<|.UnaryOp .USub (.Constant (.int 1) j p1) p2) p3) pos)<|FQ f:=PE.imp (nU he) (by
 rintro σ H Q ⟨G,ρ,r,R,e,q⟩;unfold FQ at e;split at e
 .rename_i x ex;split at e
  .rename_i ps ep;cases e;refine⟨G,ρ,x,R,ex,λv G1 H1 s1 rv=>?_⟩;obtain⟨a,vs,rfl,hq,rl⟩:=rv.list s1.sub ep;refine⟨a,vs,rfl,hq,λp hp=>?_⟩;exact q (.ref p) _ _ (s1.trans<|Av.E7 s1.sub _ hp) ⟨p,_,rfl,s1.hh.free hp,s1.sub.free hp,Ci,AX.of<|m8 rl.paired⟩
  .cases e
 .cases e)
def Km(K:W.Frag)(n:Nat)(F:List PV->Option RV):Sp:=λvs H Q _=>vs.length=n/\∃G ps r,Ar G H/\AX K G ps vs/\F ps=some r/\∀v G' H',Av G H G' H'->Bu K H G' H' r v->Q v H'
def AS(F:List PV->Option RV)(g:AF):EF:=λρ=>match g ρ with|some rs=>(match Cm rs with|some ps=>F ps|none=>none)|none=>none
structure Fn(X:Cx)(x:Str)(n:Nat)(F:List PV->Option RV):Prop where
 ex:∃k f fd ps,C9 X.prog X.w X.K X.mg X.base EA k f fd ps (Km X.K n F)/\CV k X.A/\X.mg x=some (.ref f)/\W.keepIn X.K (.ref f)=true/\Binds X.K fd ps []/\ps.length=n
theorem o4{x:Str}{n:Nat}{F:List PV->Option RV}{p:Pos}(hF:Fn X x n F)(ha:Cf X (e::es) g)(hn:(e::es).length=n)(hg:Gl X x)(Ee:(x==("__debug__"))=false)(he:starEach (e::es) X.env=(false,eval e X.env)::starEach es X.env)(BY:(backTo pos<|starEach es X.env).any (·.1)=false) (Q5:∀ρ rs,g ρ=some rs->rs.length=n):PX X (.Call (.Name x p) (e::es) [] pos)<|AS F g:=by
 obtain⟨k,f,fd,ps,G,hr,hm,hk,hb,jU⟩:=hF.ex;refine PE.imp (YW G hr hg hm hk hb .nil YT ha Ee he BY) λσ H Q ⟨G,ρ,r,R,e,q⟩=>?_;unfold AS at e;split at e
 .rename_i rs eg;split at e
  .rename_i qs eq;refine⟨G,ρ,rs,R,eg,λvs G1 H1 s1 rv=>⟨?_,D2 G1 H H1,qs,r,s1.all.sub,?_,e,λv G' H' s JZ=>q v G' H' (s1.all.trans s)<|JZ.back s1.hh⟩⟩
   .rw[AAU,<-Q5 ρ rs eg];exact(Paired.length rv).symm
   .rw[AAU];exact IQ s1.sub rv eq
  .cases e
 .cases e
mutual
noncomputable def PV.flat:PV->Bool
 |.tup xs=>PV.J5 xs
 |.lst _=>false
 |.rd _=>false
 |.Ce _ _=>false
 |_=>true
noncomputable def PV.J5:List PV->Bool
 |[]=>true
 |x::xs=>x.flat&&PV.J5 xs
end
def RV.flat:RV->Bool
 |.cl p=>p.flat
 |.fr ps=>PV.J5 ps
 |.fd _ xs=>PV.J5 xs
 |.tf _ _=>false
 |.bo _=>false
 |.bd _ _=>false
noncomputable def RV.any:RV->PV
 |.cl p=>p
 |.bo ps=>.lst ps
 |.fr ps=>.lst ps
 |.bd ks xs=>.Ce ks xs
 |.fd ks xs=>.Ce ks xs
 |.tf p ps=>.tup [p,.lst ps]
theorem Bu.any{K:W.Frag}{H G' H':Hp}{r:RV}{v:V}(sub:Ar G' H')(h:Bu K H G' H' r v):Rep K H' r.any v:=by
 cases r with
 |cl p=>exact Rep.same sub h
 |bo ps=>
  obtain⟨a,vs,e,g,q,r⟩:=h;exact⟨a,vs,e,.inl q,AX.same sub r⟩
 |fr ps=>
  obtain⟨a,vs,e,n,g,q,r⟩:=h;exact⟨a,vs,e,.inl q,AX.same sub r⟩
 |bd ks xs=>
  obtain⟨a,vs,e,g,q,k,r⟩:=h;exact⟨a,vs,e,.inl q,k,AX.same sub r⟩
 |fd ks xs=>
  obtain⟨a,vs,e,n,g,q,k,r⟩:=h;exact⟨a,vs,e,.inl q,k,AX.same sub r⟩
 |tf p ps=>
  obtain⟨a,l,x,vs,e,t,rx,n,g,q,r⟩:=h;refine⟨a,_,e,BL.same sub t,?_⟩;have z:Rep K H' (.lst ps)<|.ref l:=by exact⟨l,vs,rfl,.inl q,AX.same sub r⟩
  exact⟨_,_,rfl,Rep.same sub rx,_,_,rfl,z,rfl⟩
theorem Cj.any{K:W.Frag}{H G' H':Hp}(sub:Ar G' H'):∀{rs:List RV}{vs:List V},Cj K H G' H' rs vs->AX K H' (rs.map RV.any) vs
 |_,_,.nil=>by rfl
 |_,_,.cons r t=>by exact⟨_,_,rfl,r.any sub,Cj.any sub t⟩
noncomputable def F6(G1 H1 G':Hp):Hp:=λa=>match G1 a with|some o=>some o|none=>match H1 a with|some (.lst _)=>none|some (.dT _)=>none|some (.dK _)=>none|some o=>some o|none=>G' a
theorem gu{G1 H1 G' H':Hp}(sub:Ar G1 H1)(hh:Ar H1 H')(s':Ar G' H'):Av G1 H1 (F6 G1 H1 G') H':=by
 refine⟨λa o h=>by unfold F6;rw[h],hh,λa o h=>?_,λa h n=>by unfold F6;rcases h with h|h|h<;>rw[n,h]⟩;unfold F6 at h;split at h
 .rename_i o' e;cases h;exact hh _ _<|sub _ _ e
 .split at h
  .cases h
  .cases h
  .cases h
  .rename_i e;cases h;exact hh _ _ e
  .exact s' _ _ h
theorem WQ{G1 H1 G' H':Hp}{a:Addr}{o:HO}(sub:Ar G1 H1)(hh:Ar H1 H')(s':Ar G' H')(h:G' a=some o)(hn:∀xs,o≠.lst xs)(hd:∀AJ,o≠.dT AJ)(hk:∀AJ,o≠.dK AJ):F6 G1 H1 G' a=some o:=by
 have h':=s' _ _ h;unfold F6;split
 .rename_i o' e;have:=hh _ _<|sub _ _ e;rw[h']at this;exact this.symm
 .split
  .rename_i xs e;have:=hh _ _ e;rw[h']at this;exact absurd (zD this) (hn _)
  .rename_i xs e;have:=hh _ _ e;rw[h']at this;exact absurd (zD this) (hd _)
  .rename_i xs e;have:=hh _ _ e;rw[h']at this;exact absurd (zD this) (hk _)
  .rename_i o' _ _ _ e;have:=hh _ _ e;rw[h']at this;exact this.symm
  .exact h
mutual
theorem Rep.flat{K:W.Frag}{G1 H1 G' H':Hp}(sub:Ar G1 H1)(hh:Ar H1 H')(s':Ar G' H'):∀{p:PV}{v:V},p.flat=true->Rep K G' p v->Rep K (F6 G1 H1 G') p v
 |.A8,_,_,h=>h
 |.bl _,_,_,h=>h
 |.int _,_,_,h=>h
 |.str _,_,_,h=>h
 |.tup xs,v,f,h=>by
  unfold Rep at h ⊢;unfold PV.flat at f;obtain⟨a,vs,e,q,r⟩:=h;refine⟨a,vs,e,?_,AX.flat sub hh s' f r⟩;rcases q with(q|⟨o,q⟩)|q
  .exact .inl<|.inl<|WQ sub hh s' q (λ_ z=>nomatch z) (λ_ z=>nomatch z) λ_ z=>nomatch z
  .exact .inl<|.inr ⟨o,WQ sub hh s' q (λ_ z=>nomatch z) (λ_ z=>nomatch z) λ_ z=>nomatch z⟩
  .exact .inr q
 |.lst _,_,f,_=>by unfold PV.flat at f;cases f
 |.rd _,_,f,_=>by unfold PV.flat at f;cases f
 |.Ce _ _,_,f,_=>by unfold PV.flat at f;cases f
theorem AX.flat{K:W.Frag}{G1 H1 G' H':Hp}(sub:Ar G1 H1)(hh:Ar H1 H')(s':Ar G' H'):∀{ps:List PV}{vs:List V},PV.J5 ps=true->AX K G' ps vs->AX K (F6 G1 H1 G') ps vs
 |[],_,_,h=>h
 |p::ps,_,f,h=>by unfold AX at h ⊢;unfold PV.J5 at f;rw[yR]at f;obtain⟨v,r,e,q,t⟩:=h;exact⟨v,r,e,Rep.flat sub hh s' f.1 q,AX.flat sub hh s' f.2 t⟩
end
def Hc(F:List PV->Option RV)(g:AF):EF:=λρ=>match g ρ with|some rs=>F (rs.map RV.any)|none=>none
set_option tactic.hygienic false
theorem o5{x:Str}{n:Nat}{F:List PV->Option RV}{p:Pos}(hF:Fn X x n F)(Q3:∀ps r,F ps=some r->r.flat=true)(ha:Cf X (e::es) g)(hn:(e::es).length=n)(hg:Gl X x)(Ee:(x==("__debug__"))=false)(he:starEach (e::es) X.env=(false,eval e X.env)::starEach es X.env)(BY:(backTo pos<|starEach es X.env).any (·.1)=false) (Q5:∀ρ rs,g ρ=some rs->rs.length=n):PX X (.Call (.Name x p) (e::es) [] pos)<|Hc F g:=by
 obtain⟨k,f,fd,ps,G,hr,hm,hk,hb,jU⟩:=hF.ex;refine PE.imp (YW G hr hg hm hk hb .nil YT ha Ee he BY) λσ H Q ⟨G,ρ,r,R,e,q⟩=>?_;unfold Hc at e;split at e
 .rename_i rs eg;refine⟨G,ρ,rs,R,eg,λvs G1 H1 s1 rv=>⟨?_,H1,_,r,Ar.refl _,?_,e,λv G' H' s JZ=>?_⟩⟩
  .rw[AAU,<-Q5 ρ rs eg];exact(Paired.length rv).symm
  .rw[AAU];exact Cj.any s1.sub rv
  .have st:=gu s1.sub s.hh s.sub;refine q v _ H' (s1.trans st) ?_;have hf:=Q3 _ _ e;cases r with
   |cl p=>exact Rep.flat s1.sub s.hh s.sub hf JZ
   |bo ps=>cases hf
   |fr ps=>
    obtain⟨a,vs,e,n,g,q,r⟩:=JZ;refine⟨a,vs,e,s1.hh.free n,?_,q,AX.flat s1.sub s.hh s.sub hf r⟩;unfold F6;rw[s1.sub.free n,n];exact g
   |bd _ _=>cases hf
   |tf _ _=>cases hf
   |fd ks xs=>
    obtain⟨a,vs,e,n,g,q,k,r⟩:=JZ;refine⟨a,vs,e,s1.hh.free n,?_,q,k,AX.flat s1.sub s.hh s.sub hf r⟩;unfold F6;rw[s1.sub.free n,n];exact g
 .cases e
theorem f7(ρ:AY)(rs:List RV)(h:AH ρ=some rs):rs.length=0:=by cases h;rfl
set_option tactic.hygienic true
theorem NR{n:Nat}(h:∀ρ rs,g ρ=some rs->rs.length=n)(ρ:AY)(rs:List RV)(e:AD f g ρ=some rs):rs.length=n+1:=by
 unfold AD at e;split at e
 .rename_i x xs _ eb;cases e;rw[yn,h ρ xs eb]
 .cases e
noncomputable def fB(k:List RV->Option RV)(g:AF):EF:=λρ=>match g ρ with|some rs=>k rs|none=>none
def EB(K:W.Frag)(k:List RV->Option RV)(r:List V->Hp->VK->Prop):Prop:=
 ∀(rs:List RV)(z:RV)(H0 G H:Hp)(vs:List V)(Q:VK),Ar G H->Ar H0 H->k rs=some z->Cj K H0 G H rs vs->(∀v G' H',Av G H G' H'->Bu K H0 G' H' z v->Q v H')->r vs H Q
theorem ZZ{K:W.Frag}{k:List RV->Option RV}{r:List V->Hp->VK->Prop}(hk:EB K k r){σ:St}{H:Hp}{Q:VK}(h:tX K (fB k g) σ H Q):TY r (Tf K g) σ H Q:=by
 obtain⟨G,ρ,z,R,e,q⟩:=h;unfold fB at e;split at e
 .rename_i rs eg;exact⟨G,ρ,rs,R,eg,λvs G1 H1 s1 rv=>hk rs z H G1 H1 vs Q s1.sub s1.hh e rv λv G' H' s rz=>q v G' H' (s1.trans s) rz⟩
 .cases e
theorem GN{x:Str}{id:String}{k:List RV->Option RV}{r:List V->Hp->VK->Prop}{p:Pos}(hc:C8 X (.builtin id) r)(hk:EB X.K k r)(hm:X.mg x=none)(hv:bootBuiltins x=some (.builtin id))(ha:Cf X (e::es) g)(hg:Gl X x:=by rfl)(hn:x≠"__name__":=by decide)(Ee:(x==("__debug__"))=false:=by decide) (he:starEach (e::es) X.env=(false,eval e X.env)::starEach es X.env:=by rfl) (BY:(backTo pos<|starEach es X.env).any (·.1)=false:=by rfl):PX X (.Call (.Name x p) (e::es) [] pos)<|fB k g:=
 PE.imp (Oh hc hg hm hv ha hn Ee he BY) λ_ _ _ h=>ZZ hk h
theorem p7{x:Str}{T:String}{k:List RV->Option RV}{r:List V->Hp->VK->Prop}{p:Pos}(hc:C8 X (.type T) r)(hk:EB X.K k r)(hm:X.mg x=none)(hv:bootBuiltins x=some (.type T))(ha:Cf X (e::es) g)(hg:Gl X x)(hn:x≠"__name__")(Ee:(x==("__debug__"))=false) (he:starEach (e::es) X.env=(false,eval e X.env)::starEach es X.env) (BY:(backTo pos<|starEach es X.env).any (·.1)=false):PX X (.Call (.Name x p) (e::es) [] pos)<|fB k g:=
 PE.imp (YX hc hg hm hv ha hn Ee he BY) λ_ _ _ h=>ZZ hk h
set_option tactic.hygienic false
theorem Cj.one{K:W.Frag}{H0 G H:Hp}{r:RV}{vs:List V}(h:Cj K H0 G H [r] vs):∃v,vs=[v]/\Bu K H0 G H r v:=by
 cases h with
 |cons r t=>cases t;exact⟨_,rfl,r⟩
theorem Cj.two{K:W.Frag}{H0 G H:Hp}{r r':RV}{vs:List V}(h:Cj K H0 G H [r,r'] vs):∃v v',vs=[v,v']/\Bu K H0 G H r v/\Bu K H0 G H r' v':=by
 cases h with
 |cons r t=>
  cases t with
  |cons r' t=>cases t;exact⟨_,_,rfl,r,r'⟩
set_option tactic.hygienic true
def An:List RV->Option RV
 |[r]=>r.seq.map λps=>.cl<|.int ps.length
 |_=>none
theorem mW:EB X.K An (λxs H Q=>∃p ys,xs=[.ref p]/\(B6 X.K H p ys\/BL X.K H p ys)/\Q (.int ys.length) H):=by
 intro rs z H0 G H vs Q sub sh e rv q;unfold An at e;split at e
 .rename_i r;cases es:r.seq with
  |none=>rw[es]at e;cases e
  |some ps=>
   rw[es]at e;cases e;obtain⟨v,rfl,hv⟩:=rv.one;obtain⟨a,us,rfl,hq,rl⟩:=hv.seq sub es;refine⟨a,us,rfl,hq,q _ G H (Av.refl sub) ?_⟩;show Rep _ _ _ _;unfold Rep;rw[rl.len]
 .cases e
theorem pT{p:Pos}(hm:X.mg "len" = none)(ha:Cf X (e::es) g)(hg:Gl X "len")(he:starEach (e::es) X.env=(false,eval e X.env)::starEach es X.env)(BY:(backTo pos<|starEach es X.env).any (·.1)=false):PX X (.Call (.Name "len" p) (e::es) [] pos)<|fB An g:=
 GN cZ mW hm ACb ha hg yJ yJ he BY
noncomputable def C3:List RV->Option RV
 |[.cl<|.int i]=>some (.cl (.int (if i<0 then -i else i)))
 |_=>none
noncomputable def Dm:List RV->Option RV
 |[.cl<|.int i,.cl<|.int j]=>some (.cl (.int (if j>i then j else i)))
 |_=>none
noncomputable def GH:List RV->Option RV
 |[.cl<|.int i,.cl<|.int j]=>some (.cl (.int (if j<i then j else i)))
 |_=>none
theorem mT:EB X.K C3 (λxs H Q=>∃i,xs=[.int i]/\Q (.int (if i<0 then -i else i)) H):=by
 intro rs z H0 G H vs Q sub sh e rv q;unfold C3 at e;split at e
 .rename_i i;cases e;obtain⟨v,rfl,hv⟩:=rv.one;exact⟨i,by rw[hv.int],q _ G H (Av.refl sub)<|by rfl⟩
 .cases e
theorem mY:EB X.K Dm (λxs H Q=>∃i j,xs=[.int i,.int j]/\Q (.int (if j>i then j else i)) H):=by
 intro rs z H0 G H vs Q sub sh e rv q;unfold Dm at e;split at e
 .rename_i i j;cases e;obtain⟨v,v',rfl,hv,Rf⟩:=rv.two;exact⟨i,j,by rw[hv.int,Rf.int],q _ G H (Av.refl sub)<|by rfl⟩
 .cases e
theorem mZ:EB X.K GH (λxs H Q=>∃i j,xs=[.int i,.int j]/\Q (.int (if j<i then j else i)) H):=by
 intro rs z H0 G H vs Q sub sh e rv q;unfold GH at e;split at e
 .rename_i i j;cases e;obtain⟨v,v',rfl,hv,Rf⟩:=rv.two;exact⟨i,j,by rw[hv.int,Rf.int],q _ G H (Av.refl sub)<|by rfl⟩
 .cases e
def MA:List RV->Option RV
 |[r]=>r.seq.map .fr
 |_=>none
theorem mX:EB X.K MA (λxs H Q=>∃p ys,xs=[.ref p]/\(B6 X.K H p ys\/BL X.K H p ys)/\∀l,H l=none->Q (.ref l) (upd H l<|.lst ys)):=by
 intro rs z H0 G H vs Q sub sh e rv q;unfold MA at e;split at e
 .rename_i r;cases es:r.seq with
  |none=>rw[es]at e;cases e
  |some ps=>
   rw[es]at e;cases e;obtain⟨v,rfl,hv⟩:=rv.one;obtain⟨a,us,rfl,hq,rl⟩:=hv.seq sub es;exact⟨a,us,rfl,hq,λl hl=>q _ _ _ (Av.E7 sub _ hl) ⟨l,us,rfl,sh.free hl,sub.free hl,Ci,rl⟩⟩
 .cases e
noncomputable def C2:List PV->Option (List Int)
 |[]=>some []
 |.int i::r=>(C2 r).map (i :: ·)
 |_=>none
noncomputable def Fv:List PV->Option (List Bool)
 |[]=>some []
 |.bl i::r=>(Fv r).map (i :: ·)
 |_=>none
set_option tactic.hygienic false
theorem JH{K:W.Frag}{G:Hp}:∀{ps:List PV}{vs:List V}{ns:List Int},C2 ps=some ns->AX K G ps vs->vs=ns.map V.int
 |[],vs,ns,e,h=>by cases e;exact h
 |.int i::r,vs,ns,e,h=>by
  unfold C2 at e;cases er:C2 r with
  |none=>rw[er]at e;cases e
  |some ms=>
   rw[er]at e;cases e;obtain⟨v,us,rfl,hv,t⟩:=h;subst hv;rw[JH er t,ye]
 |.A8::_,_,_,e,_=>by cases e
 |.bl _::_,_,_,e,_=>by cases e
 |.str _::_,_,_,e,_=>by cases e
 |.tup _::_,_,_,e,_=>by cases e
 |.lst _::_,_,_,e,_=>by cases e
 |.rd _::_,_,_,e,_=>by cases e
 |.Ce _ _::_,_,_,e,_=>by cases e
theorem QT{K:W.Frag}{G:Hp}:∀{ps:List PV}{vs:List V}{ns:List Bool},Fv ps=some ns->AX K G ps vs->vs=ns.map V.bl
 |[],vs,ns,e,h=>by cases e;exact h
 |.bl i::r,vs,ns,e,h=>by
  unfold Fv at e;cases er:Fv r with
  |none=>rw[er]at e;cases e
  |some ms=>
   rw[er]at e;cases e;obtain⟨v,us,rfl,hv,t⟩:=h;subst hv;rw[QT er t,ye]
 |.A8::_,_,_,e,_=>by cases e
 |.int _::_,_,_,e,_=>by cases e
 |.str _::_,_,_,e,_=>by cases e
 |.tup _::_,_,_,e,_=>by cases e
 |.lst _::_,_,_,e,_=>by cases e
 |.rd _::_,_,_,e,_=>by cases e
 |.Ce _ _::_,_,_,e,_=>by cases e
theorem QS:∀{bs:List Bool}{us:List Value},Ap (bs.map V.bl) us->LSm.BoolsAre us bs
 |[],us,r=>by cases r;exact .nil
 |b::bs,us,r=>by
  cases r with
  |cons r1 r2=>cases r1;exact .cons b<|QS r2
theorem cy(hc:X.calm=true):C8 X (.builtin "sum") (λxs H Q=>∃(p:Addr)(ns:List Int),xs=[.ref p]/\Rd H p (.lst<|ns.map V.int)/\Q (.int ns.sum) H):=by
 intro AE s σ H xs us Q I r h;obtain⟨p,ns,rfl,hq,q⟩:=h;obtain⟨u,rfl,rx⟩:=vals1 r;cases rx;obtain⟨z,its,n,rv,e⟩:=hq.ok I.Ah;have hi:=intsAre_of rv;obtain⟨xs,hx⟩:=hi.allInts.items;have hl:s.heap.IsList p its.toArray:=⟨_,e,rfl,n,rfl⟩;have JA:=hx ▸ hl;refine sum_intListG (I.ok.hd hc) JA λh' tk t' hk=>?_;have e1:ns=xs.toList.map (·.1):=by rw[<-nums_intItems,<-hx];exact(show numsOf its.toArray.toList=ns from hi.numsOf).symm
 have e2:preSum (numAt xs) xs.size=ns.sum:=by rw[preSum_eq,ABf yI,e1]
 rw[e2];exact⟨.int ns.sum,H,I.kept hk,⟨_,rfl⟩,q⟩
theorem cS(hc:X.calm=true):C8 X (.builtin "all") (λxs H Q=>∃(p:Addr)(bs:List Bool),xs=[.ref p]/\Rd H p (.lst<|bs.map V.bl)/\Q (.bl<|bs.all id) H):=by
 intro AE s σ H xs us Q I r h;obtain⟨p,bs,rfl,hq,q⟩:=h;obtain⟨u,rfl,rx⟩:=vals1 r;cases rx;obtain⟨z,its,n,rv,e⟩:=hq.ok I.Ah;have hb:=QS rv;have hl:s.heap.IsList p its.toArray:=⟨_,e,rfl,n,rfl⟩;have BN:=Heap.lt_size e;refine call_all_walk<|wpAny_pyIter_list hl ?_;refine⟨s.heap.objs.size,[s.heap.objs.size,p],[s.heap.objs.size],its.toArray.size,_,_,λi=>(bs[i]?).getD true,rfl,Walks.list (A:=X.A.in1) (I.ok.hd hc) _ p (yu BN) its.toArray,
  ⟨⟨_,Heap.get?_push_size _ rfl,rfl,rfl⟩,hl.push _⟩,λi v s' Q' E' hP hQ=>?_,λh' tk hk=>?_⟩
 .obtain⟨b,e,rfl⟩:=hb.get i v (by simpa using hP);simp only[e]at hQ;exact wpAny_truthy_bool hQ
 .have e:((List.range its.toArray.size).all λi=>(bs[i]?).getD true)=bs.all id:=by rw[yh,hb.length];exact LSm.range_all bs
  rw[e];exact⟨.bl<|bs.all id,H,I.kept<|LSm.kept_iter hk,rfl,q⟩
theorem cT(hc:X.calm=true):C8 X (.builtin "any") (λxs H Q=>∃(p:Addr)(bs:List Bool),xs=[.ref p]/\Rd H p (.lst<|bs.map V.bl)/\Q (.bl<|bs.any id) H):=by
 intro AE s σ H xs us Q I r h;obtain⟨p,bs,rfl,hq,q⟩:=h;obtain⟨u,rfl,rx⟩:=vals1 r;cases rx;obtain⟨z,its,n,rv,e⟩:=hq.ok I.Ah;have hb:=QS rv;have hl:s.heap.IsList p its.toArray:=⟨_,e,rfl,n,rfl⟩;have BN:=Heap.lt_size e;refine call_any_walk<|wpAny_pyIter_list hl ?_;refine⟨s.heap.objs.size,[s.heap.objs.size,p],[s.heap.objs.size],its.toArray.size,_,_,λi=>(bs[i]?).getD false,rfl,Walks.list (A:=X.A.in1) (I.ok.hd hc) _ p (yu BN) its.toArray,
  ⟨⟨_,Heap.get?_push_size _ rfl,rfl,rfl⟩,hl.push _⟩,λi v s' Q' E' hP hQ=>?_,λh' tk hk=>?_⟩
 .obtain⟨b,e,rfl⟩:=hb.get i v (by simpa using hP);simp only[e]at hQ;exact wpAny_truthy_bool hQ
 .have e:((List.range its.toArray.size).any λi=>(bs[i]?).getD false)=bs.any id:=by rw[yh,hb.length];exact LSm.range_any bs
  rw[e];exact⟨.bl<|bs.any id,H,I.kept<|LSm.kept_iter hk,rfl,q⟩
set_option tactic.hygienic true
def G9:List RV->Option RV
 |[r]=>(r.list.bind C2).map λns=>.cl<|.int ns.sum
 |_=>none
def Dj:List RV->Option RV
 |[r]=>(r.list.bind Fv).map λns=>.cl<|.bl<|ns.all id
 |_=>none
def Hv:List RV->Option RV
 |[r]=>(r.list.bind Fv).map λns=>.cl<|.bl<|ns.any id
 |_=>none
theorem mf:EB X.K G9 (λxs H Q=>∃(p:Addr)(ns:List Int),xs=[.ref p]/\Rd H p (.lst<|ns.map V.int)/\Q (.int ns.sum) H):=by
 intro rs z H0 G H vs Q sub sh e rv q;unfold G9 at e;split at e
 .rename_i r;cases es:r.list with
  |none=>rw[es]at e;cases e
  |some ps=>
   rw[es]at e;cases ei:C2 ps with
   |none=>rw[y9,ei]at e;cases e
   |some ns=>
    rw[y9,ei]at e;cases e;obtain⟨v,rfl,hv⟩:=rv.one;obtain⟨a,us,rfl,hq,rl⟩:=hv.list sub es;rw[JH ei rl]at hq;exact⟨a,ns,rfl,hq,q _ G H (Av.refl sub)<|by rfl⟩
 .cases e
theorem mU:EB X.K Dj (λxs H Q=>∃(p:Addr)(ns:List Bool),xs=[.ref p]/\Rd H p (.lst<|ns.map V.bl)/\Q (.bl<|ns.all id) H):=by
 intro rs z H0 G H vs Q sub sh e rv q;unfold Dj at e;split at e
 .rename_i r;cases es:r.list with
  |none=>rw[es]at e;cases e
  |some ps=>
   rw[es]at e;cases ei:Fv ps with
   |none=>rw[y9,ei]at e;cases e
   |some ns=>
    rw[y9,ei]at e;cases e;obtain⟨v,rfl,hv⟩:=rv.one;obtain⟨a,us,rfl,hq,rl⟩:=hv.list sub es;rw[QT ei rl]at hq;exact⟨a,ns,rfl,hq,q _ G H (Av.refl sub)<|by rfl⟩
 .cases e
theorem mV:EB X.K Hv (λxs H Q=>∃(p:Addr)(ns:List Bool),xs=[.ref p]/\Rd H p (.lst<|ns.map V.bl)/\Q (.bl<|ns.any id) H):=by
 intro rs z H0 G H vs Q sub sh e rv q;unfold Hv at e;split at e
 .rename_i r;cases es:r.list with
  |none=>rw[es]at e;cases e
  |some ps=>
   rw[es]at e;cases ei:Fv ps with
   |none=>rw[y9,ei]at e;cases e
   |some ns=>
    rw[y9,ei]at e;cases e;obtain⟨v,rfl,hv⟩:=rv.one;obtain⟨a,us,rfl,hq,rl⟩:=hv.list sub es;rw[QT ei rl]at hq;exact⟨a,ns,rfl,hq,q _ G H (Av.refl sub)<|by rfl⟩
 .cases e
end
end L2.PL
namespace L2.PL
open PySem PySem.Spec PyProof.Rows
def De(ρ:AY)(σ:St)(ρ':AY)(Ag:St):Prop:=∀(i:Nat)(s:SV),s.E3=true->ρ'[i]? = some (some s)->ρ[i]? = some (some s)/\Ag[i]? = σ[i]?
theorem De.refl(ρ:AY)(σ:St):De ρ σ ρ σ:=λ_ _ _ h=>⟨h,rfl⟩
theorem De.trans{ρ A5 BV:AY}{σ En DH:St}(a:De ρ σ A5 En)(b:De A5 En BV DH):De ρ σ BV DH:=λi ps o h=>by obtain⟨h1,e1⟩:=b i ps o h;obtain⟨h2,e2⟩:=a i ps o h1;exact⟨h2,e1.trans e2⟩
abbrev GF:=PV->AY->Option AY
def PD(K:W.Frag)(g:GF):TG:=λv σ H Q=>∃G ρ p ρ',Bz K G H ρ σ/\Rep K G p v/\g p ρ=some ρ'/\∀Ag,Bz K G H ρ' Ag->De ρ σ ρ' Ag->Q Ag H
def GZ(X:Cx)(tg:Expr)(g:GF):Prop:=PG X tg<|PD X.K g
abbrev GX:=List PV->AY->Option AY
def t9(K:W.Frag)(g:GX):Gf:=λvs σ H Q=>∃G ρ ps ρ',Bz K G H ρ σ/\AX K G ps vs/\g ps ρ=some ρ'/\∀Ag,Bz K G H ρ' Ag->De ρ σ ρ' Ag->Q Ag H
def Jp(X:Cx)(ts:List Expr)(g:GX):Prop:=Ft X ts<|t9 X.K g
theorem PG.imp{X:Cx}{e:Expr}{t t':TG}(h:PG X e t)(i:∀v σ H Q,t' v σ H Q->t v σ H Q):PG X e t':=λAE s σ H v u Q I r q=>h AE s σ H v u Q I r<|i v σ H Q q
theorem Ft.imp{X:Cx}{e:List Expr}{t t':Gf}(h:Ft X e t)(i:∀v σ H Q,t' v σ H Q->t v σ H Q):Ft X e t':=λAE s σ H v u Q I r q=>h AE s σ H v u Q I r<|i v σ H Q q
theorem get_set{α:Type}{l:List (Option α)}{i j:Nat}{x y:α}(h:(l.set i<|some x)[j]? = some (some y)):(j=i/\x=y)\/(j≠i/\l[j]? = some (some y)):=by
 by_cases e:j=i
 .subst e;by_cases hl:j<l.length
  .rw[AA5 hl]at h;left;exact⟨rfl,by simpa using h⟩
  .rw[List.set_eq_of_length_le U]at h;rw[List.getElem?_eq_none U]at h;cases h
 .right;rw[zK<|zo e]at h;exact⟨e,h⟩
theorem set_slot{α:Type}{l:List (Option α)}{i:Nat}{x:α}(h:i<l.length):(l.set i<|some x)[i]? = some (some x):=by rw[AA5 h]
theorem Xl{α:Type}{l:List (Option α)}{i:Nat}{x y:α}(h:(l.set i<|some x)[i]? = some (some y)):i<l.length:=by have:=(yY.mp h).1;simpa using this
theorem Bz.HF{K:W.Frag}{G H:Hp}{ρ:AY}{σ:St}{i:Nat}{p:PV}{v:V}(R:Bz K G H ρ σ)(h:Rep K G p v):Bz K G H (ρ.set i<|some<|.im p)<|σ.set i<|some v:=by
 refine⟨R.sub,λj sv e=>?_,λj k ps qs a b As e1 o1 e2 o2 e3 e4=>?_,by simpa using R.len⟩
 .rcases get_set e with⟨rfl,rfl⟩|⟨hj,e'⟩
  .have hl:=Xl e;exact⟨v,set_slot (by rw[<-R.len];exact hl),h⟩
  .obtain⟨w,e1,q⟩:=R.slot j sv e';exact⟨w,by rw[zK<|zo hj];exact e1,q⟩
 .rcases get_set e1 with⟨_,z⟩|⟨h1,e1⟩
  .subst z;cases o1
  .rcases get_set e2 with⟨_,z⟩|⟨h2,e2⟩
   .subst z;cases o2
   .rw[zK<|zo h1]at e3;rw[zK<|zo h2]at e4;exact R.apart j k ps qs a b As e1 o1 e2 o2 e3 e4
theorem De.HF{ρ:AY}{σ:St}{i:Nat}{p:PV}{v:V}:De ρ σ (ρ.set i<|some<|.im p)<|σ.set i<|some v:=λj ps o h=>by
 rcases get_set h with⟨_,z⟩|⟨hj,e⟩
 .subst z;cases o
 .exact⟨e,by rw[zK<|zo hj]⟩
noncomputable def AV(i:Nat):GF:=λp ρ=>some<|ρ.set i<|some<|.im p
section
variable{X:Cx}{a b c e tg iter:Expr}{es:List Expr}{fa fb fc f:EF}{ga:AF}{g:GF}{gs:GX}{pos:Pos}
theorem p9(i:Nat){x:Str}(hN:X.N.Nodup)(hi:X.N[i]? = some x)(hx:Loc X.env.scope x)(hf:X.fn x=true\/X.env.scope.names.lookup x=some .local):GZ X (.Name x pos)<|AV i:=
 PG.imp (nZ hN hi hx hf) (by rintro v σ H Q ⟨G,ρ,p,ρ',R,rp,e,q⟩;cases e;exact q _ (R.HF rp) De.HF)
noncomputable def C1:GX:=λps ρ=>match ps with|[]=>some ρ|_=>none
noncomputable def BX(g:GF)(h:GX):GX:=λps ρ=>match ps with|p::r=>(match g p ρ with|some A5=>h r A5|none=>none)|[]=>none
theorem qC:Jp X [] C1:=Ft.imp nq (by
 rintro v σ H Q ⟨G,ρ,ps,ρ',R,rp,e,q⟩;unfold C1 at e;split at e
 .cases e;exact⟨rp,q σ R<|De.refl _ _⟩
 .cases e)
set_option tactic.hygienic true
theorem qB(h1:GZ X e g)(h2:Jp X es gs)(hs:(assignEach (e::es) X.env).map (·.2)=assign e X.env::(assignEach es X.env).map (·.2)):Jp X (e::es)<|BX g gs:=Ft.imp (nj h1 h2 hs) (by
 rintro v σ H Q ⟨G,ρ,ps,ρ',R,rp,e,q⟩;unfold BX at e;split at e
 .rename_i p r;split at e
  .rename_i A5 e1;obtain⟨u,us,rfl,ru,rs⟩:=rp;exact⟨u,us,rfl,G,ρ,p,A5,R,ru,e1,λEn R1 k1=>⟨G,A5,r,ρ',R1,rs,e,λDH R2 k2=>q DH R2<|k1.trans k2⟩⟩
  .cases e
 .cases e)
noncomputable def Cp(n:Nat)(gs:GX):GF:=λp ρ=>match p with|.tup ps=>if ps.length=n then gs ps ρ else none|_=>none
theorem qA{k:Nat}{n:Nat}(hc:X.calm=true)(h:Jp X es gs)(hn:(assignEach es X.env).length=n)(FY:(assignEach es X.env).findIdx? (·.1)=none):GZ X (.Tuple es k pos)<|Cp n gs:=
 PG.imp (nh hc h hn FY) (by
  rintro v σ H Q ⟨G,ρ,p,ρ',R,rp,e,q⟩;unfold Cp at e;split at e
  .rename_i ps;split at e
   .rename_i hl;obtain⟨a,vs,rfl,hq,rl⟩:=rp;exact⟨a,vs,rfl,BL.same R.sub hq,by rw[<-rl.len];exact hl,G,ρ,ps,ρ',R,rl,e,q⟩
   .cases e
  .cases e)
structure M6(J:It)(K:W.Frag)(G Hx:Hp)(ps:List PV):Prop where
 ex:∃vs,AX K G ps vs/\∀H,Ar Hx H->(∀(i:Nat)(x:V),vs[i]? = some x->J.go i H/\∀y H',J.PU i H y H'->H'=H/\y=x)/\J.stop vs.length H
abbrev IF:=AY->Option (List PV)
def Za(K:W.Frag)(cl:Bool)(f:IF):TI:=λσ H R=>∃G ρ ps,Bz K G H ρ σ/\f ρ=some ps/\∀J G' H',Av G H G' H'->M6 J K G' (if cl=true then G' else H') ps->R J H'
def Ga(X:Cx)(cl:Bool)(tg iter:Expr)(f:IF):Prop:=PI X tg iter<|Za X.K cl f
theorem PI.imp{X:Cx}{tg iter:Expr}{t t':TI}(h:PI X tg iter t)(i:∀σ H Q,t' σ H Q->t σ H Q):PI X tg iter t':=λAE s σ H Q I q=>h AE s σ H Q I<|i σ H Q q
theorem XD{K:W.Frag}{G Hx:Hp}{ps:List PV}{vs:List V}{a:Addr}(h:AX K G ps vs)(hq:Rd Hx a<|.lst vs):M6 (P4 K a) K G Hx ps:=by refine⟨vs,h,λH s=>⟨λi x e=>⟨⟨vs,x,.inl<|Rd.same s hq,e⟩,λy H' ⟨e1,e2⟩=>⟨e1,?_⟩⟩,⟨vs,.inl<|Rd.same s hq,yf _⟩⟩⟩;have:=e2 vs<|.inl<|Rd.same s hq;rw[e]at this;exact(zD this).symm
theorem j9{K:W.Frag}{G Hx:Hp}{ps:List PV}{vs:List V}{a:Addr}(h:AX K G ps vs)(hq:BL K Hx a vs):M6 (P5 K a) K G Hx ps:=by refine⟨vs,h,λH s=>⟨λi x e=>⟨⟨vs,x,BL.same s hq,e⟩,λy H' ⟨e1,e2⟩=>⟨e1,?_⟩⟩,⟨vs,BL.same s hq,yf _⟩⟩⟩;have:=e2 vs<|BL.same s hq;rw[e]at this;exact(zD this).symm
def A9(cl:Bool)(f:EF):IF:=λρ=>match f ρ with|some r=>(if cl=true then(match r.clean with|some (.lst ps)=>some ps|_=>none)else r.list)|none=>none
theorem qD{cl:Bool}(h:PX X iter f):Ga X cl tg iter<|A9 cl f:=PI.imp (nr h) (by
 rintro σ H Q ⟨G,ρ,ps,R,e,q⟩;unfold A9 at e;split at e
 .rename_i r er;refine⟨G,ρ,r,R,er,λv G' H' s rv=>?_⟩;cases cl with
  |true=>
   rw[yO rfl]at e;split at e
   .rename_i qs ec;cases e;have rc:=rv.clean s.sub ec;obtain⟨a,vs,rfl,hq,rl⟩:=rc;exact⟨a,rfl,⟨vs,.inl<|Rd.same s.all.sub hq⟩,q _ _ _ s.all<|XD rl hq⟩
   .cases e
  |false=>
   obtain⟨a,vs,rfl,hq,rl⟩:=rv.list s.sub e;exact⟨a,rfl,⟨vs,.inl hq⟩,q _ _ _ s<|XD rl hq⟩
 .cases e)
noncomputable def Dz(f:EF):IF:=λρ=>match f ρ with|some (.cl<|.tup ps)=>some ps|_=>none
theorem qG{cl:Bool}(h:PX X iter f):Ga X cl tg iter<|Dz f:=PI.imp (ny h) (by
 rintro σ H Q ⟨G,ρ,ps,R,e,q⟩;unfold Dz at e;split at e
 .rename_i qs er;cases e;refine⟨G,ρ,_,R,er,λv G' H' s rv=>?_⟩;have rc:=rv;obtain⟨a,vs,rfl,hq,rl⟩:=rc;refine⟨a,rfl,⟨vs,BL.same s.sub hq⟩,q _ _ _ s<|j9 rl ?_⟩;cases cl
  .exact BL.same s.sub hq
  .exact hq
 .cases e)
noncomputable def Ki(i j:Int):List PV:=(List.range (j-i).toNat).map λ(k:Nat)=>.int<|i+(k:Int)
theorem XE{K:W.Frag}{G Hx:Hp}{i:Int}{n:Nat}:M6 (K6 i n) K G Hx<|(List.range n).map λ(k:Nat)=>.int<|i+(k):=by
 refine⟨(List.range n).map λ(k:Nat)=>.int<|i+(k),?_,λH _=>⟨λk x e=>?_,by show n<=_;simp⟩⟩
 .have key:∀l:List Nat,AX K G (l.map λk=>PV.int<|i+(k:Nat))<|l.map λk=>V.int<|i+(k:Nat):=by
   intro l
   induction l with
   |nil=>rfl
   |cons x r ih=>
    exact⟨_,_,rfl,by rfl,ih⟩
  exact key _
 .rw[zj]at e;cases e2:(List.range n)[k]? with
  |none=>rw[e2]at e;cases e
  |some m=>
   rw[e2]at e;obtain⟨h1,h2⟩:=yY.mp e2;rw[AB0]at h2;subst h2;cases e;exact⟨(show k<n by simpa using h1),(by rintro y H' ⟨e1,e2⟩;exact⟨e1,e2⟩)⟩
def HJ(i:Int):Prop:=-(2 ^ 62)<=i/\i<2 ^ 62
instance{i:Int}:Decidable<|HJ i:=by unfold HJ;infer_instance
def Bh(g:AF):IF:=λρ=>match g ρ with|some [.cl<|.int j]=>if HJ j then some (Ki 0 j)else none|_=>none
def C0(g:AF):IF:=λρ=>match g ρ with|some [.cl<|.int i,.cl<|.int j]=>if HJ i/\HJ j then some (Ki i j)else none|_=>none
theorem qE{cl:Bool}{p:Pos}(hm:X.mg "range" = none)(ha:Cf X [a] ga)(hg:Gl X "range")(hs:starEach [a] X.env=[(false,eval a X.env)]):Ga X cl tg (.Call (.Name "range" p) [a] [] pos)<|Bh ga:=PI.imp (nu hg hm ha hs) (by
 rintro σ H Q ⟨G,ρ,ps,R,e,q⟩;unfold Bh at e;split at e
 .rename_i j er;split at e
  .rename_i hj;cases e;refine⟨G,ρ,_,R,er,λv G' H' s rv=>?_⟩;obtain⟨w,rfl,hw⟩:=rv.one;refine⟨j,by rw[hw.int],hj.1,hj.2,q _ _ _ s ?_⟩;have:=XE (K:=X.K) (G:=G') (Hx:=if cl=true then G' else H') (i:=0) (n:=j.toNat);simpa[Ki]using this
  .cases e
 .cases e)
theorem qF{cl:Bool}{p:Pos}(hm:X.mg "range" = none)(ha:Cf X [a,b] ga)(hg:Gl X "range")(hs:starEach [a,b] X.env=[(false,eval a X.env),(false,eval b X.env)])(N7:starEach [b] X.env=[(false,eval b X.env)]):Ga X cl tg (.Call (.Name "range" p) [a,b] [] pos)<|C0 ga:=PI.imp (nv hg hm ha hs N7) (by
 rintro σ H Q ⟨G,ρ,ps,R,e,q⟩;unfold C0 at e;split at e
 .rename_i i j er;split at e
  .rename_i hj;cases e;refine⟨G,ρ,_,R,er,λv G' H' s rv=>?_⟩;obtain⟨w,w',rfl,hw,jg⟩:=rv.two;refine⟨i,j,by rw[hw.int,jg.int],⟨hj.1.1,hj.1.2,hj.2.1,hj.2.2⟩,q _ _ _ s ?_⟩;exact XE
  .cases e
 .cases e)
noncomputable def Bv(own:Nat)(cap:List Nat)(ρ:AY):AY:=List.replicate own none++cap.map λj=>(ρ[j]?).join
def collect(g:GF)(t:BF)(fe:EF)(HI:AY):List PV->Option (List PV)
 |[]=>some []
 |x::xs=>match g x HI with
  |none=>none
  |some A5=>match t A5 with
   |none=>none
   |some false=>collect g t fe HI xs
   |some true=>match fe A5 with
    |none=>none
    |some r=>match r.clean,collect g t fe HI xs with
     |some p,some ps=>some (p::ps)
     |_,_=>none
def A0(its:IF)(own:Nat)(cap:List Nat)(g:GF)(t:BF)(fe:EF):EF:=λρ=>match its ρ with
 |none=>none
 |some xs=>if xs.length<=1000 then(collect g t fe (Bv own cap ρ) xs).map .fr else none
set_option tactic.hygienic false
theorem Bz.cap{K:W.Frag}{G H:Hp}{ρ:AY}{σ:St}(R:Bz K G H ρ σ)(own:Nat)(cap:List Nat)(FX:cap.Nodup):Bz K G H (Bv own cap ρ)<|FK own cap σ:=by
 have get:∀{i:Nat}{sv:SV},(Bv own cap ρ)[i]? = some (some sv)->∃k j,i=own+k/\cap[k]? = some j/\ρ[j]? = some (some sv):=by
  intro i sv h;unfold Bv at h;by_cases hi:i<own
  .rw[zH (by simpa using hi),AAg]at h;split at h<;>simp at h
  .rw[zJ (by simpa using hi),zj]at h;simp only[AAa]at h;cases hj:cap[i-own]? with
   |none=>rw[hj]at h;simp at h
   |some j=>
    rw[hj]at h;simp only[zf,zR]at h;refine⟨i-own,j,U,hj,?_⟩;cases hs:ρ[j]? with
    |none=>rw[hs]at h;simp at h
    |some o=>rw[hs]at h;simp at h;rw[h]
 have put:∀{k j:Nat}{v:V},cap[k]? = some j->σ[j]? = some (some v)->(FK own cap σ)[own+k]? = some (some v):=by
  intro k j v h1 h2;unfold FK;rw[zJ yI,zj];simp only[AAa,Nat.add_sub_cancel_left,h1,zf,h2]
  rfl
 refine⟨R.sub,λi sv e=>?_,λi j ps qs a b As e1 o1 e2 o2 e3 e4=>?_,by simp[Bv,FK]⟩
 .obtain⟨k,j,rfl,hj,e'⟩:=get e;obtain⟨v,ev,q⟩:=R.slot j sv e';exact⟨v,put hj ev,q⟩
 .obtain⟨k1,j1,rfl,We,LP⟩:=get e1;obtain⟨k2,j2,rfl,Wf,NK⟩:=get e2;obtain⟨v1,Vr,_⟩:=R.slot j1 _ LP;obtain⟨v2,Ha,_⟩:=R.slot j2 _ NK;rw[put We Vr]at e3;rw[put Wf Ha]at e4;cases e3;cases e4;refine R.apart j1 j2 ps qs a b (λz=>As ?_) LP o1 NK o2 Vr Ha;subst z;obtain⟨l1,q1⟩:=yY.mp We;obtain⟨l2,q2⟩:=yY.mp Wf;have:=(ABj FX).mp<|q1.trans q2.symm;lia
theorem Bz.Of{K:W.Frag}{G H:Hp}{ρ:AY}{σ:St}(R:Bz K G H ρ σ):∀(j:Nat)(s:SV)(b:Addr),s.E3=true->ρ[j]? = some (some s)->σ[j]? = some (some<|.ref b)->H b≠none:=λj s b o e1 e2 z=>by
 obtain⟨v,ev,q⟩:=R.slot j _ e1;rw[ev]at e2;cases e2;cases s with
 |im p=>cases o
 |exc nm=>cases o
 |own ps=>
  obtain⟨a,vs,h,_,ha,_⟩:=q;cases h;rw[z]at ha;cases ha
 |DZ t ks xs=>
  obtain⟨a,vs,h,_,ha,_⟩:=q;cases h;rw[z]at ha;cases ha
 |D7 AJ=>
  obtain⟨a,h,_,ha⟩:=q;cases h;rw[z]at ha;cases ha
theorem Bz.weak{K:W.Frag}{G H:Hp}{ρ ρ':AY}{σ:St}(R:Bz K G H ρ' σ)(h:∀(k:Nat)(sv:SV),ρ[k]? = some (some sv)->ρ'[k]? = some (some sv))(hl:ρ.length=ρ'.length):Bz K G H ρ σ:=
 ⟨R.sub,λi sv e=>R.slot i sv<|h i sv e,λi j ps qs a b As e1 o1 e2 o2 e3 e4=>R.apart i j ps qs a b As (h _ _ e1) o1 (h _ _ e2) o2 e3 e4,hl.trans R.len⟩
theorem Bz.Tn{K:W.Frag}{G H:Hp}{ρ:AY}{σ:St}{D:Addr}{o:HO}(R:Bz K G H ρ σ)(g:G D=none)(h:∀(k:Nat)(s:SV),s.E3=true->ρ[k]? = some (some s)->σ[k]?≠some (some<|.ref D)):Bz K G (upd H D o) ρ σ:=by
 refine⟨λb u q=>by rw[Be<|D5 q g];exact R.sub _ _ q,λi sv e=>?_,R.apart,R.len⟩;obtain⟨v,e1,q⟩:=R.slot i sv e;refine⟨v,e1,?_⟩;cases sv with
 |exc nm=>exact q
 |im p=>exact q
 |own ps=>
  obtain⟨a,vs,rfl,ga,ha,r⟩:=q;refine⟨a,vs,rfl,ga,?_,r⟩;rw[Be λz=>h i _ rfl e<|by rw[e1,z]];exact ha
 |DZ t ks xs=>
  obtain⟨a,vs,rfl,ga,ha,r⟩:=q;refine⟨a,vs,rfl,ga,?_,r⟩;rw[Be λz=>h i _ rfl e<|by rw[e1,z]];exact ha
 |D7 AJ=>
  obtain⟨a,rfl,ga,ha⟩:=q;refine⟨a,rfl,ga,?_⟩;rw[Be λz=>h i _ rfl e<|by rw[e1,z]];exact ha
theorem Av.Tn{G H G' H':Hp}{D:Addr}{o:HO}(s:Av G H G' H')(h:H D=none)(g:G' D=none):Av G H G'<|upd H' D o:=
 ⟨s.gg,λb u q=>by rw[Be<|D5 q h];exact s.hh _ _ q,λb u q=>by rw[Be<|D5 q g];exact s.sub _ _ q,s.ex⟩
def IL(own:Nat)(g:GF):Prop:=∀p ρ ρ',g p ρ=some ρ'->ρ'.length=ρ.length/\∀(k:Nat),own<=k->ρ'[k]? = ρ[k]?
def K5(own:Nat)(g:GX):Prop:=∀p ρ ρ',g p ρ=some ρ'->ρ'.length=ρ.length/\∀(k:Nat),own<=k->ρ'[k]? = ρ[k]?
theorem gv{own i:Nat}(h:i<own):IL own<|AV i:=λp ρ ρ' e=>by cases e;exact⟨ACL,λk hk=>zK U⟩
theorem gy{own:Nat}:K5 own C1:=λp ρ ρ' e=>by
 unfold C1 at e;split at e
 .cases e;exact⟨rfl,λ_ _=>rfl⟩
 .cases e
set_option tactic.hygienic true
theorem gx{own:Nat}(h1:IL own g)(h2:K5 own gs):K5 own<|BX g gs:=λp ρ ρ' e=>by
 unfold BX at e;split at e
 .split at e
  .rename_i A5 e1;obtain⟨a1,a2⟩:=h1 _ _ _ e1;obtain⟨b1,b2⟩:=h2 _ _ _ e;exact⟨b1.trans a1,λk hk=>(b2 k hk).trans<|a2 k hk⟩
  .cases e
 .cases e
theorem gw{own n:Nat}(h:K5 own gs):IL own<|Cp n gs:=λp ρ ρ' e=>by
 unfold Cp at e;split at e
 .split at e
  .exact h _ _ _ e
  .cases e
 .cases e
theorem c7{own:Nat}{cap:List Nat}{ρ:AY}{k:Nat}{sv:SV}(h:(Bv own cap ρ)[k]? = some (some sv)):own<=k:=by
 unfold Bv at h;by_cases hi:k<own
 .rw[zH (by simpa using hi),AAg]at h;split at h<;>simp at h
 .lia
theorem Zd{K:W.Frag}{own:Nat}{cap:List Nat}{its:IF}{t:BF}{fe:EF}(FX:cap.Nodup)(hk:IL own g){σ:St}{H:Hp}{Q:VK}(h:tX K (A0 its own cap g t fe) σ H Q):Tb own cap (Za K false its) (PD K g) (Em K t) (tX K fe) σ H Q:=by
 obtain⟨G,ρ,r,R,e,q⟩:=h;unfold A0 at e;split at e
 .cases e
 .rename_i xs ex;split at e
  .cases ec:collect g t fe (Bv own cap ρ) xs with
   |none=>rw[ec]at e;cases e
   |some zs=>
    rw[ec]at e;cases e;refine⟨G,ρ,xs,R,ex,λJ G1 H1 s1 J1=>λD hD=>?_⟩;obtain⟨vs,rl,hJ⟩:=J1.ex;have Bn:=rl.len;have R1:=(R.step s1).cap own cap FX;refine⟨λi m Ag H'=>m=xs.length-i/\i<=xs.length/\∃G' ys ps BI,Av G1 H1 G' H'/\G' D=none/\H' D=some (.lst ys)/\AX K G' ps ys/\ps.length<=i/\collect g t fe (Bv own cap ρ) (xs.drop i)=some BI/\ps++BI=zs/\
     Bz K G' H' (Bv own cap ρ) Ag/\(∀(k:Nat)(s:SV),s.E3=true->(Bv own cap ρ)[k]? = some (some s)->Ag[k]?≠some (some<|.ref D)),⟨xs.length,yI,AAR _,G1,[],[],zs,Av.E7 s1.sub _ hD,s1.sub.free hD,Ci,by rfl,yf _,by exact ec,rfl,?_,?_⟩,?_⟩
    .exact R1.step<|Av.E7 s1.sub _ hD
    .intro k s ho Bc z;exact R1.Of k s D ho Bc z hD
    .rintro i m Ag H' ⟨rfl,hi,G',ys,ps,BI,st,gD,Lh,rp,BY,EI,Nm,RO,hold⟩;obtain⟨Q6,RZ⟩:=hJ H' st.hh;by_cases BN:i<xs.length
     .right;have Lz:vs[i]? = some vs[i]:=yv U;obtain⟨go,yl⟩:=Q6 i _ Lz;have Rh:=yv BN;have RX:Rep K G' xs[i] vs[i]:=by obtain⟨u,eu,ru⟩:=JS rl.paired Rh;rw[Lz]at eu;cases eu;exact Rep.same st.gg ru
      have Lm:=ABP BN;rw[Lm]at EI;unfold collect at EI;split at EI
      .cases EI
      .rename_i A5 e1;obtain⟨kl,kk⟩:=hk _ _ _ e1;have hw:∀(k:Nat)(sv:SV),(Bv own cap ρ)[k]? = some (some sv)->A5[k]? = some (some sv):=λk sv h=>by rw[kk k<|c7 h];exact h
       refine⟨go,λFF Dd=>∃Fq aA D8 Oq,Av G1 H1 Fq Dd/\Fq D=none/\Dd D=some (.lst aA)/\AX K Fq D8 aA/\D8.length<=i+1/\collect g t fe (Bv own cap ρ) (xs.drop<|i+1)=some Oq/\D8++Oq=zs/\
        Bz K Fq Dd (Bv own cap ρ) FF/\(∀(k:Nat)(s:SV),s.E3=true->(Bv own cap ρ)[k]? = some (some s)->FF[k]?≠some (some<|.ref D)),λFF Dd hN=>⟨xs.length-(i+1),U,rfl,U,hN⟩,λy H3 hy=>?_⟩
       obtain⟨rfl,rfl⟩:=yl y H3 hy;refine⟨G',Bv own cap ρ,xs[i],A5,RO,RX,e1,λEn LB ly=>?_⟩;have RM:∀(k:Nat)(s:SV),s.E3=true->(Bv own cap ρ)[k]? = some (some s)->En[k]?≠some (some<|.ref D):=λk qs o h z=>by obtain⟨h1,h2⟩:=ly k qs o<|hw k _ h;rw[h2]at z;exact hold k qs o h z
       split at EI
       .cases EI
       .rename_i et;refine⟨G',A5,false,LB,et,λG2 H2 s2=>?_⟩;exact⟨G2,ys,ps,BI,st.trans s2,s2.ex D (.l Lh) gD,s2.hh _ _ Lh,AX.same s2.gg rp,U,EI,Nm,(LB.step s2).weak hw kl.symm,RM⟩
       .rename_i et;refine⟨G',A5,true,LB,et,λG2 H2 s2=>?_⟩;refine j8 ?_;split at EI
        .cases EI
        .rename_i rr er;split at EI
         .rename_i p Oq ep fS;cases EI;refine⟨G2,A5,rr,LB.step s2,er,λv G3 H3 s3 rv=>?_⟩;have Oz:=s3.all;have WR:=s2.hh _ _ Lh;have gj:=s2.ex D (.l Lh) gD;have Qr:=Oz.ex D (.l WR) gj;have xg:=rp.len.symm;refine⟨ys,s3.hh _ _ WR,ABS (U:ys.length<=1000) yJ,D2 G3 H2 H3,ys ++ [v],ps ++ [p],Oq,?_,Qr,Ci,?_,?_,fS,?_,?_,RM⟩
          .exact((st.trans s2).trans Oz).Tn hD Qr
          .exact AX.of<|JR (AX.same (s2.gg.trans Oz.gg) rp).paired<|.cons (rv.clean s3.sub ep) .nil
          .rw[yx,AAb];lia
          .rw[AB6];exact Nm
          .exact(((LB.step s2).step Oz).weak hw kl.symm).Tn Qr RM
         .cases EI
     .left;have Q8:i=xs.length:=U
      subst Q8;rw[ACE]at EI;cases EI;rw[AAU]at Nm;subst Nm;refine⟨by rw[Bn];exact RZ,q _ G' H' (s1.trans st) ⟨D,ys,rfl,s1.hh.free hD,gD,Lh,rp⟩⟩
  .cases e
variable{ifs:List Expr}{elt:Expr}{scope:Scope}{Nb:List Str}{own:Nat}{cap:List Nat}{its:IF}{t:BF}{fe:EF}
def Jq(X:Cx)(ifs:List Expr)(t:BF):Prop:=Fu X ifs<|Em X.K t
theorem Fu.imp{X:Cx}{e:List Expr}{t t':TT}(h:Fu X e t)(i:∀σ H Q,t' σ H Q->t σ H Q):Fu X e t':=λAE s σ H Q I q=>h AE s σ H Q I<|i σ H Q q
noncomputable def BM:BF:=λ_=>some true
theorem qH:Jq X [] BM:=Fu.imp n5 (by rintro σ H Q ⟨G,ρ,r,R,e,q⟩;cases e;exact q G H<|Av.refl R.sub)
theorem qI(h:DB X c t):Jq X [c] t:=n6 h
theorem o9(hc:X.calm=true)(O:Fo X scope Nb own cap)(FX:cap.Nodup)(hk:IL own g)(hi:Ga X false tg iter its)(hg:∀C s H fp AE,GZ (CD X Nb scope C s H fp AE) tg g)(ht:∀C s H fp AE,Jq (CD X Nb scope C s H fp AE) ifs t)(he:∀C s H fp AE,PX (CD X Nb scope C s H fp AE) elt fe) (hs:∀x,foldedSetIterable iter X.env x=pure x):PX X (.ListComp elt [⟨tg,iter,ifs,0⟩] scope pos)<|A0 its own cap g t fe:=
 PE.imp (nK (g:=PD X.K g) (ti:=Em X.K t) (te:=tX X.K fe) hc O hi hg ht he hs) λ_ _ _ h=>Zd FX hk h
end
inductive Out where
 |nx (ρ:AY)|rt (r:RV)|bk (ρ:AY)|ct (ρ:AY)
abbrev SF:=AY->Option Out
structure SR(K:W.Frag)(Ai Ac G H:Hp)(ρ:AY)(σ:St):Prop where
 r:Bz K G H ρ σ
 gg:Ar Ai G
 hh:Ar Ac H
 ex:∀a,Mu Ac a->Ai a=none->G a=none
 new:∀(i:Nat)(s:SV)(a:Addr),s.E3=true->ρ[i]? = some (some s)->σ[i]? = some (some<|.ref a)->Ac a=none
theorem SR.step{K:W.Frag}{Ai Ac G H G' H':Hp}{ρ:AY}{σ:St}(s:Av G H G' H')(h:SR K Ai Ac G H ρ σ):SR K Ai Ac G' H' ρ σ:=
 ⟨h.r.step s,h.gg.trans s.gg,h.hh.trans s.hh,λa e n=>s.ex a (e.same h.hh)<|h.ex a e n,h.new⟩
theorem SR.Mf{K:W.Frag}{Ai Ac G H:Hp}{ρ:AY}{σ:St}(h:SR K Ai Ac G H ρ σ):Av Ai Ac G H:=⟨h.gg,h.hh,h.r.sub,h.ex⟩
theorem SR.turn{K:W.Frag}{Ai Ac G H:Hp}{ρ ρ':AY}{σ Ag:St}(h:SR K Ai Ac G H ρ σ)(r:Bz K G H ρ' Ag)(k:De ρ σ ρ' Ag):SR K Ai Ac G H ρ' Ag:=
 ⟨r,h.gg,h.hh,h.ex,λi ps a o e1 e2=>by obtain⟨h1,h2⟩:=k i ps o e1;exact h.new i ps a o h1<|h2 ▸ e2⟩
def K9(K:W.Frag)(Ai Ac G:Hp)(D:Ends):Out->Prop
 |.nx ρ'=>∀Ag G' H',Ar G G'->SR K Ai Ac G' H' ρ' Ag->D.nx Ag H'
 |.bk ρ'=>∀Ag G' H',Ar G G'->SR K Ai Ac G' H' ρ' Ag->D.bk Ag H'
 |.ct ρ'=>∀Ag G' H',Ar G G'->SR K Ai Ac G' H' ρ' Ag->D.ct Ag H'
 |.rt r=>∀v G' H',Av Ai Ac G' H'->Bu K Ac G' H' r v->D.rt v H'
theorem K9.mono{K:W.Frag}{Ai Ac G G1:Hp}{D:Ends}{o:Out}(s:Ar G G1)(h:K9 K Ai Ac G D o):K9 K Ai Ac G1 D o:=by
 cases o with
 |nx ρ=>exact λAg G' H' q=>h Ag G' H'<|s.trans q
 |bk ρ=>exact λAg G' H' q=>h Ag G' H'<|s.trans q
 |ct ρ=>exact λAg G' H' q=>h Ag G' H'<|s.trans q
 |rt r=>exact h
def Mm(K:W.Frag)(Ai Ac:Hp)(g:SF):TS:=λD σ H=>∃G ρ o,SR K Ai Ac G H ρ σ/\g ρ=some o/\K9 K Ai Ac G D o
def CU(X:Cx)(Ai Ac:Hp)(st:Stmt)(g:SF):Prop:=PS X st<|Mm X.K Ai Ac g
def EY(X:Cx)(Ai Ac:Hp)(st:List Stmt)(g:SF):Prop:=DA X st<|Mm X.K Ai Ac g
noncomputable def Ax:SF:=λρ=>some<|.nx ρ
noncomputable def AO(g h:SF):SF:=λρ=>match g ρ with|some (.nx ρ')=>h ρ'|o=>o
section
variable{X:Cx}{Ai Ac:Hp}{a b c e tg iter:Expr}{es:List Expr}{fa fb fc f:EF}{ga:AF}{t:BF}{gt:GF}{pos:Pos}{st:Stmt}{BI body Qc:List Stmt}{g h:SF}
theorem qU:EY X Ai Ac [] Ax:=DA.imp oU (by rintro D σ H ⟨G,ρ,o,S,e,k⟩;cases e;exact k σ G H (Ar.refl _) S)
theorem qM(h1:CU X Ai Ac st g)(h2:EY X Ai Ac BI h):EY X Ai Ac (st::BI)<|AO g h:=DA.imp (oT h1 h2) (by
 rintro D σ H ⟨G,ρ,o,S,e,k⟩;unfold AO at e;cases eg:g ρ with
 |none=>rw[eg]at e;cases e
 |some o1=>
  rw[eg]at e;cases o1 with
  |nx A5=>exact⟨G,ρ,_,S,eg,λAg G' H' s S'=>⟨G',A5,o,S',e,k.mono s⟩⟩
  |rt r=>cases e;exact⟨G,ρ,_,S,eg,k⟩
  |bk r=>cases e;exact⟨G,ρ,_,S,eg,k⟩
  |ct r=>cases e;exact⟨G,ρ,_,S,eg,k⟩)
theorem qV(h1:CU X Ai Ac st g):EY X Ai Ac [st] g:=oV h1
noncomputable def Aq(t:BF)(g h:SF):SF:=λρ=>match t ρ with|some true=>g ρ|some false=>h ρ|none=>none
theorem qR(hc:DB X c t)(ha:EY X Ai Ac body g)(hb:EY X Ai Ac Qc h):CU X Ai Ac (.If c body Qc pos)<|Aq t g h:=PS.imp (oO hc ha hb) (by
 rintro D σ H ⟨G,ρ,o,S,e,k⟩;unfold Aq at e;split at e
 .rename_i et;refine⟨G,ρ,true,S.r,et,λG1 H1 s1=>?_⟩;exact⟨G1,ρ,o,S.step s1,e,k.mono s1.gg⟩
 .rename_i et;refine⟨G,ρ,false,S.r,et,λG1 H1 s1=>?_⟩;exact⟨G1,ρ,o,S.step s1,e,k.mono s1.gg⟩
 .cases e)
noncomputable def Nh:SF:=λ_=>none
theorem qT:CU X Ai Ac st Nh:=PS.imp oP (by rintro D σ H ⟨G,ρ,o,S,e,k⟩;cases e)
noncomputable def Aj(f:EF):SF:=λρ=>match f ρ with|some (.cl p)=>some (.rt<|.cl p)|some (.fr ps)=>some (.rt<|.fr ps)|_=>none
theorem qY(he:PX X e f):CU X Ai Ac (.Return (some e) pos)<|Aj f:=PS.imp (So he) (by
 rintro D σ H ⟨G,ρ,o,S,e,k⟩;unfold Aj at e;split at e
 .rename_i p er;cases e;exact⟨G,ρ,_,S.r,er,λv G' H' s rv=>k v G' H' (S.Mf.trans s) rv⟩
 .rename_i ps er;cases e;exact⟨G,ρ,_,S.r,er,λv G' H' s rv=>k v G' H' (S.Mf.trans s)<|rv.back S.hh⟩
 .cases e)
set_option tactic.hygienic true
noncomputable def Ld(i:Nat):SF:=λρ=>match ρ[i]? with|some (some<|.own ps)=>some (.rt<|.fr ps)|_=>none
theorem qa(i:Nat){x:Str}{p:Pos}(hN:X.N[i]? = some x)(hv:DT X.env.scope x)(hd:(x==("__debug__"))=false) (BK:(x==("__classdict__"))=false):CU X Ai Ac (.Return (some<|.Name x p) pos)<|Ld i:=PS.imp (So<|EM hN hv hd BK) (by
 rintro D σ H ⟨G,ρ,o,S,e,k⟩;unfold Ld at e;split at e
 .rename_i ps er;cases e;obtain⟨v,ev,a,vs,rfl,ga,ha,rl⟩:=S.r.slot i _ er;exact⟨_,ev,k _ G H S.Mf ⟨a,vs,rfl,S.new i _ a rfl er ev,ga,ha,rl⟩⟩
 .cases e)
def Aa(i:Nat)(f:EF):SF:=λρ=>match f ρ with|some r=>(match r.clean with|some p=>some (.nx<|ρ.set i<|some<|.im p)|none=>none)|none=>none
theorem ZS{te:TE}{i:Nat}{D:Ends}{σ:St}{H:Hp}(h:∀Q,tX X.K f σ H Q->te σ H Q)(q:Mm X.K Ai Ac (Aa i f) D σ H):Mj te (Lc i) D σ H:=by
 obtain⟨G,ρ,o,S,e,k⟩:=q;unfold Aa at e;split at e
 .rename_i r er;split at e
  .rename_i p ep;cases e;refine h _ ⟨G,ρ,r,S.r,er,λv G' H' s rv=>?_⟩;have S':=S.step s.all;exact k _ _ _ s.all.gg<|S'.turn (S'.r.HF<|rv.clean s.sub ep) De.HF
  .cases e
 .cases e
theorem qb(i:Nat){x:Str}{p:Pos}(hN:X.N.Nodup)(he:PX X e f)(hi:X.N[i]? = some x)(hx:Loc X.env.scope x)(hs:swapsWith e (some<|.Name x p) pos.line X.env=pure false)(hf:X.fn x=true\/X.env.scope.names.lookup x=some .local) : CU X Ai Ac (.Assign [.Name x p] e pos)<|Aa i f:=PS.imp (Om hN hi hx he hs hf) λD σ H q=>ZS (λ_ z=>z) q
noncomputable def DL(i:Nat)(f:EF):SF:=λρ=>match f ρ with|some (.fr ps)=>some (.nx<|ρ.set i<|some<|.own ps)|_=>none
theorem SR.S9{K:W.Frag}{G H:Hp}{ρ:AY}{σ:St}{i:Nat}{s:SV}{a:Addr}{H1:Hp}(S:SR K Ai Ac G H ρ σ)(s1:Ar Ac H1)(ho:∀(j:Nat)(s:SV)(b:Addr),s.E3=true->ρ[j]? = some (some s)->σ[j]? = some (some<|.ref b)->H1 b≠none) (n:H1 a=none) (ok:Ju K G H s<|.ref a):SR K Ai Ac G H (ρ.set i<|some s)<|σ.set i<|some<|.ref a:=by
 have R:=S.r;refine⟨⟨R.sub,λj sv e=>?_,λj k qs rs b c As e1 o1 e2 o2 e3 e4=>?_,by simpa using R.len⟩,S.gg,S.hh,S.ex,λj qs b o1 e1 e2=>?_⟩
 .rcases get_set e with⟨rfl,rfl⟩|⟨hj,e'⟩
  .have hl:=Xl e;exact⟨_,set_slot (by rw[<-R.len];exact hl),ok⟩
  .obtain⟨w,e1,q⟩:=R.slot j sv e';exact⟨w,by rw[zK<|zo hj];exact e1,q⟩
 .rcases get_set e1 with⟨h1,_⟩|⟨h1,f1⟩
  .rcases get_set e2 with⟨h2,_⟩|⟨h2,f2⟩
   .exact absurd (h1.trans h2.symm) As
   .subst h1;rw[zK<|zo h2]at e4;have hl:=by have:=(yY.mp e3).1;simpa using this
    rw[set_slot hl]at e3;cases e3;intro z;exact ho k rs c o2 f2 e4<|z ▸ n
  .rcases get_set e2 with⟨h2,_⟩|⟨h2,f2⟩
   .subst h2;rw[zK<|zo h1]at e3;have hl:=by have:=(yY.mp e4).1;simpa using this
    rw[set_slot hl]at e4;cases e4;intro z;exact ho j qs b o1 f1 e3<|z.symm ▸ n
   .rw[zK<|zo h1]at e3;rw[zK<|zo h2]at e4;exact R.apart j k qs rs b c As f1 o1 f2 o2 e3 e4
 .rcases get_set e1 with⟨h1,_⟩|⟨h1,f1⟩
  .subst h1;have hl:=by have:=(yY.mp e2).1;simpa using this
   rw[set_slot hl]at e2;cases e2;exact s1.free n
  .rw[zK<|zo h1]at e2;exact S.new j qs b o1 f1 e2
theorem SR.rS{K:W.Frag}{G H:Hp}{ρ:AY}{σ:St}{i:Nat}{ps:List PV}{a:Addr}{vs:List V}{H1:Hp}(S:SR K Ai Ac G H ρ σ)(s1:Ar Ac H1)(ho:∀(j:Nat)(s:SV)(b:Addr),s.E3=true->ρ[j]? = some (some s)->σ[j]? = some (some<|.ref b)->H1 b≠none) (n:H1 a=none) (ga:G a=none) (ha:H a=some (.lst vs)) (rl:AX K G ps vs):SR K Ai Ac G H (ρ.set i<|some<|.own ps)<|σ.set i<|some<|.ref a:=
 S.S9 s1 ho n ⟨a,vs,rfl,ga,ha,rl⟩
theorem sY{te:TE}{i:Nat}{D:Ends}{σ:St}{H:Hp}(h:∀Q,tX X.K f σ H Q->te σ H Q)(q:Mm X.K Ai Ac (DL i f) D σ H):Mj te (Lc i) D σ H:=by
 obtain⟨G,ρ,o,S,e,k⟩:=q;unfold DL at e;split at e
 .rename_i ps er;cases e;refine h _ ⟨G,ρ,_,S.r,er,λv G' H' s rv=>?_⟩;obtain⟨a,vs,rfl,n,ga,ha,rl⟩:=rv;exact k _ _ _ s.gg<|(S.step s).rS S.hh S.r.Of n ga ha rl
 .cases e
theorem qg(i:Nat){x:Str}{p:Pos}(hN:X.N.Nodup)(he:PX X e f)(hi:X.N[i]? = some x)(hx:Loc X.env.scope x)(hs:swapsWith e (some<|.Name x p) pos.line X.env=pure false)(hf:X.fn x=true\/X.env.scope.names.lookup x=some .local) : CU X Ai Ac (.Assign [.Name x p] e pos)<|DL i f:=PS.imp (Om hN hi hx he hs hf) λD σ H q=>sY (λ_ z=>z) q
section
variable{ifs:List Expr}{elt:Expr}{scope:Scope}{Nb:List Str}{own:Nat}{cap:List Nat}{its:IF}{fe:EF}{Bj:Pos}
theorem qc(i:Nat){x:Str}{p:Pos}(hN:X.N.Nodup)(hc:X.calm=true)(O:Fo X scope Nb own cap)(FX:cap.Nodup)(hk:IL own gt)(hi:Ga X false tg iter its)(hg:∀C s H fp AE,GZ (CD X Nb scope C s H fp AE) tg gt)(ht:∀C s H fp AE,Jq (CD X Nb scope C s H fp AE) ifs t)(he:∀C s H fp AE,PX (CD X Nb scope C s H fp AE) elt fe) (CP:X.N[i]? = some x) (hx:Loc X.env.scope x) (G0:swapsWith (.ListComp elt [⟨tg,iter,ifs,0⟩] scope Bj) (some<|.Name x p) pos.line X.env=pure true) (hs:∀x,foldedSetIterable iter X.env x=pure x) (hf:X.fn x=true\/X.env.scope.names.lookup x=some .local) : CU X Ai Ac (.Assign [.Name x p] (.ListComp elt [⟨tg,iter,ifs,0⟩] scope Bj) pos)<|Aa i<|A0 its own cap gt t fe:=
 PS.imp (oR (g:=PD X.K gt) (ti:=Em X.K t) (te:=tX X.K fe) hN CP hx hc O hi hg ht he G0 hs hf) λD σ H q=>ZS (λ_ z=>Zd FX hk z) q
end
theorem SR.chg{K:W.Frag}{G H:Hp}{ρ:AY}{σ:St}{i:Nat}{s s':SV}{a:Addr}{o:HO}(S:SR K Ai Ac G H ρ σ)(hs:s.E3=true)(er:ρ[i]? = some (some s))(es:σ[i]? = some (some<|.ref a))(ga:G a=none)(ok:Ju K G (upd H a o) s'<|.ref a) : SR K Ai Ac G (upd H a o) (ρ.set i<|some s') σ:=by
 have R:=S.r;have hn:=S.new i s a hs er es;refine⟨⟨λb u q=>by rw[Be<|D5 q ga];exact R.sub _ _ q,λj sv e=>?_,λj k xs ys b c As e1 o1 e2 o2 e3 e4=>?_,by simpa using R.len⟩,S.gg,λb u q=>by rw[Be<|D5 q hn];exact S.hh _ _ q,S.ex,λj xs b o1 e1 e2=>?_⟩
 .rcases get_set e with⟨rfl,rfl⟩|⟨hj,e'⟩
  .exact⟨_,es,ok⟩
  .obtain⟨w,e1,q⟩:=R.slot j sv e';refine⟨w,e1,?_⟩;cases sv with
   |exc nm=>exact q
   |im p=>exact q
   |own xs=>
    obtain⟨b,ws,rfl,gb,hb,rb⟩:=q;refine⟨b,ws,rfl,gb,?_,rb⟩;rw[Be λz=>R.apart j i _ s b a hj e' rfl er hs e1 es z];exact hb
   |DZ t ks xs=>
    obtain⟨b,ws,rfl,gb,hb,rb⟩:=q;refine⟨b,ws,rfl,gb,?_,rb⟩;rw[Be λz=>R.apart j i _ s b a hj e' rfl er hs e1 es z];exact hb
   |D7 AJ=>
    obtain⟨b,rfl,gb,hb⟩:=q;refine⟨b,rfl,gb,?_⟩;rw[Be λz=>R.apart j i _ s b a hj e' rfl er hs e1 es z];exact hb
 .rcases get_set e1 with⟨h1,_⟩|⟨h1,f1⟩
  .rcases get_set e2 with⟨h2,_⟩|⟨h2,f2⟩
   .exact absurd (h1.trans h2.symm) As
   .subst h1;exact R.apart j k s ys b c As er hs f2 o2 e3 e4
  .rcases get_set e2 with⟨h2,_⟩|⟨h2,f2⟩
   .subst h2;exact R.apart j k xs s b c As f1 o1 er hs e3 e4
   .exact R.apart j k xs ys b c As f1 o1 f2 o2 e3 e4
 .rcases get_set e1 with⟨h1,_⟩|⟨h1,f1⟩
  .subst h1;rw[es]at e2;cases e2;exact hn
  .exact S.new j xs b o1 f1 e2
theorem SR.change{K:W.Frag}{G H:Hp}{ρ:AY}{σ:St}{i:Nat}{ps qs:List PV}{a:Addr}{us:List V}(S:SR K Ai Ac G H ρ σ)(er:ρ[i]? = some (some<|.own ps))(es:σ[i]? = some (some<|.ref a))(ga:G a=none)(rl:AX K G qs us) : SR K Ai Ac G (upd H a<|.lst us) (ρ.set i<|some<|.own qs) σ:=S.chg rfl er es ga ⟨a,us,rfl,ga,Ci,rl⟩
def B0(i:Nat)(k:List PV->List PV->Option (List PV))(ga:AF):SF:=λρ=>match ρ[i]?,ga ρ with
 |some (some<|.own ps),some rs=>(match Cm rs with|some qs=>(match k ps qs with|some D8=>some (.nx<|ρ.set i<|some<|.own D8)|none=>none)|none=>none)
 |_,_=>none
def UC(K:W.Frag)(k:List PV->List PV->Option (List PV))(r:V->List V->Hp->VK->Prop):Prop:=
 ∀(ps qs D8:List PV)(G H:Hp)(a:Addr)(vs us:List V)(Q:VK),k ps qs=some D8->H a=some (.lst vs)->AX K G ps vs->AX K G qs us->(∀ws v,AX K G D8 ws->Q v (upd H a<|.lst ws))->r (.ref a) us H Q
theorem tK{i:Nat}{k:List PV->List PV->Option (List PV)}{r:V->List V->Hp->VK->Prop}(hk:UC X.K k r){D:Ends}{σ:St}{H:Hp}(q:Mm X.K Ai Ac (B0 i k ga) D σ H):ZV (ZT X.K "list" r (Te i)<|Tf X.K ga) D σ H:=by
 obtain⟨G,ρ,o,S,e,ok⟩:=q;unfold B0 at e;split at e
 .rename_i ps rs er ea;split at e
  .rename_i qs ec;split at e
   .rename_i D8 ek;cases e;obtain⟨v,ev,a,vs,rfl,g,ha,rl⟩:=S.r.slot i _ er;refine⟨_,ev,.inl ⟨rfl,vs,.inl<|.inl ha⟩,G,ρ,rs,S.r,ea,λus G1 H1 s1 rv=>?_⟩;have S1:=S.step s1.all;refine hk ps qs D8 (D2 G1 H H1) H1 a vs us _ ek (s1.hh _ _ ha) (AX.same s1.all.gg rl) (IQ s1.sub rv ec) λws w Cq=>?_;exact ok _ _ _ s1.all.gg<|S1.change er ev (s1.all.ex a (.l ha) g) Cq
   .cases e
  .cases e
 .cases e
noncomputable def CQ(ps qs:List PV):Option<|List PV:=match qs with|[p]=>if ps.length<1000 then some (ps ++ [p])else none|_=>none
theorem lI{K:W.Frag}:UC K CQ Yp:=by
 intro ps qs D8 G H a vs us Q e ha rl rq q;unfold CQ at e;split at e
 .split at e
  .cases e;obtain⟨v,r,rfl,rv,rn⟩:=rq;subst rn;have hl:=rl.len;exact⟨a,vs,v,rfl,rfl,ha,ZC yH,q _ _<|AX.of<|JR rl.paired<|.cons rv .nil⟩
  .cases e
 .cases e
theorem qL(i:Nat){x:Str}{p ap:Pos}(ha:Cf X (e::es) ga)(hN:X.N[i]? = some x)(hv:DT X.env.scope x)(hd:(x==("__debug__"))=false) (BK:(x==("__classdict__"))=false) (Gu:attributeBase (.Name x p) "append" X.env (eval (.Name x p) X.env)=eval (.Name x p) X.env) {Bj:Pos} (Hj:((backTo Bj<|starEach (e::es) X.env).all (λx=>!x.1)&&(backToKw Bj<|keywordEach [] X.env).all (λx=>x.1.isSome)
  && decide ((e::es).length+([]:List Keyword).length+(if([]:List Keyword).isEmpty then 0 else 1)<30))=true)
 (Gy:(ap.endLine==Bj.line)=true) (hs:starEach (e::es) X.env=(false,eval e X.env)::starEach es X.env) (Lv:(backTo Bj<|starEach es X.env).any (·.1)=false)
 (G0:swapsWith (.Call (.Attribute (.Name x p) "append" ap) (e::es) [] Bj) none pos.line X.env=pure false) :
 CU X Ai Ac (.Expr (.Call (.Attribute (.Name x p) "append" ap) (e::es) [] Bj) pos) (B0 i CQ ga):=
 PS.imp (Sn (YV ABa PySem.F.slot_list_append PySem.F.type_list_append Xs (EM hN hv hd BK) ha Gu Hj Gy hs Lv) G0) λ_ _ _ q=>tK lI q
def Le(i:Nat)(fk f:EF):SF:=λρ=>match f ρ,ρ[i]?,fk ρ with
 |some r,some<|some<|.own ps,some (.cl<|.int k)=>(match r.clean,Di ps.length k with|some p,some j=>some (.nx<|ρ.set i<|some<|.own<|ps.set j p)|_,_=>none)
 |_,_,_=>none
theorem qe(i:Nat){x:Str}{p sp:Pos}(hk:PX X a fa)(he:PX X e f)(hN:X.N[i]? = some x:=by rfl)(hv:DT X.env.scope x:=by first|exact Or.inl rfl|exact Or.inr (Or.inl rfl)|exact Or.inr<|Or.inr rfl)(hd:(x==("__debug__"))=false:=by decide) (BK:(x==("__classdict__"))=false:=by decide) (iN:∀v,assign (.Subscript (.Name x p) a sp) X.env v=(do
  let ov<-holding [v]<|eval (.Name x p) X.env
  let iv<-holding [v,ov]<|eval a X.env
  standAt sp
  holding [v,ov,iv] (setItem ov iv v)
  release [v,ov,iv] []):=by intro _;rfl)
 (hs:swapsWithSole [.Subscript (.Name x p) a sp] e pos.line X.env=pure false:=by rfl) (hw:swappedStores [.Subscript (.Name x p) a sp] e X.env=pure none:=by rfl)
 (h1:(assignEach [.Subscript (.Name x p) a sp] X.env).map (·.2)=[assign (.Subscript (.Name x p) a sp) X.env]:=by rfl) :
 CU X Ai Ac (.Assign [.Subscript (.Name x p) a sp] e pos) (Le i fa f):=PS.imp (Ym he (ng (EM hN hv hd BK) hk set_list iN) hs hw h1) (by
 rintro D σ H ⟨G,ρ,o,S,e,ok⟩;unfold Le at e;split at e
 .rename_i r ps k er eo ek;split at e
  .rename_i p j ep ej;cases e;refine⟨G,ρ,r,S.r,er,λv G1 H1 s1 rv=>?_⟩;have S1:=S.step s1.all;obtain⟨w,ew,b,vs,rfl,g,hb,rl⟩:=S1.r.slot i _ eo;refine⟨_,ew,D2 G1 H H1,ρ,_,S1.r,ek,λkv G2 H2 s2 rk=>?_⟩;have S2:=S1.step s2;refine⟨b,vs,k,j,rfl,rk.int,s2.hh _ _ hb,by rw[<-rl.len];exact ej,?_⟩;exact ok _ _ _ (s1.all.gg.trans s2.gg)<|S2.change eo ew (s2.ex b (.l hb) g)<|AX.of<|YJ (Rep.same s2.gg<|rv.clean s1.sub ep) j (AX.same s2.gg rl).paired
  .cases e
 .cases e)
noncomputable def DX(gt:GF)(body:SF):List PV->AY->Option Out
 |[],ρ=>some<|.nx ρ
 |x::xs,ρ=>match gt x ρ with
  |none=>none
  |some A5=>match body A5 with
   |some (.nx BV)=>DX gt body xs BV
   |some (.ct BV)=>DX gt body xs BV
   |some (.bk BV)=>some<|.nx BV
   |some (.rt r)=>some<|.rt r
   |none=>none
def Bm(its:IF)(gt:GF)(body:SF):SF:=λρ=>match its ρ with|some xs=>DX gt body xs ρ|none=>none
theorem qQ{its:IF}(hc:X.calm=true)(hp:PassesOwn (model X.prog X.w) X.A X.env X.xe)(hi:Ga X true tg iter its)(hg:GZ X tg gt)(hb:EY X Ai Ac body g)(hs:∀x,foldedSetIterable iter X.env x=pure x) : CU X Ai Ac (.For tg iter body [] pos)<|Bm its gt g:=PS.imp (oN hp hc hi hg hb hs) (by
 rintro D σ H ⟨G,ρ,o,S,e,ok⟩;unfold Bm at e;split at e
 .rename_i xs ex;refine⟨G,ρ,xs,S.r,ex,λJ G1 H1 s1 J1=>?_⟩;obtain⟨vs,rl,hJ⟩:=J1.ex;have Bn:=rl.len;refine⟨λi m Ag H'=>m=xs.length-i/\i<=xs.length/\∃G' ρ',SR X.K Ai Ac G' H' ρ' Ag/\Ar G1 G'/\DX gt g (xs.drop i) ρ'=some o,⟨xs.length,yI,AAR _,G1,ρ,S.step s1,Ar.refl _,by exact e⟩,?_⟩;rintro i m Ag H' ⟨rfl,CP,G',ρ',S',sg,hl⟩;obtain⟨Q6,RZ⟩:=hJ H'<|sg.trans S'.r.sub;by_cases BN:i<xs.length
  .right;have Lz:vs[i]? = some vs[i]:=yv yH;obtain⟨go,yl⟩:=Q6 i _ Lz;have Rh:=yv BN;have RX:Rep X.K G' xs[i] vs[i]:=by obtain⟨u,eu,ru⟩:=JS rl.paired Rh;rw[Lz]at eu;cases eu;exact Rep.same sg ru
   have Lm:=ABP BN;rw[Lm]at hl;unfold DX at hl;split at hl
   .cases hl
   .rename_i A5 e1;refine⟨go,λFF Dd=>∃Fq Mr,SR X.K Ai Ac Fq Dd Mr FF/\Ar G1 Fq/\DX gt g (xs.drop<|i+1) Mr=some o,λFF Dd hN=>⟨xs.length-(i+1),yH,rfl,yH,hN⟩,λy H3 hy=>?_⟩;obtain⟨rfl,rfl⟩:=yl y H3 hy;refine⟨G',ρ',xs[i],A5,S'.r,RX,e1,λEn R1 k1=>?_⟩;split at hl
    .rename_i BV eb;exact⟨G',A5,_,S'.turn R1 k1,eb,λDH G2 H2 s2 S2=>⟨G2,BV,S2,sg.trans s2,hl⟩⟩
    .rename_i BV eb;exact⟨G',A5,_,S'.turn R1 k1,eb,λDH G2 H2 s2 S2=>⟨G2,BV,S2,sg.trans s2,hl⟩⟩
    .rename_i BV eb;cases hl;exact⟨G',A5,_,S'.turn R1 k1,eb,λDH G2 H2 s2 S2=>ok DH G2 H2 ((s1.gg.trans sg).trans s2) S2⟩
    .rename_i r eb;cases hl;exact⟨G',A5,_,S'.turn R1 k1,eb,ok⟩
    .cases hl
  .left;have Q8:i=xs.length:=yH
   subst Q8;rw[ACE]at hl;cases hl;exact⟨by rw[Bn];exact RZ,ok Ag G' H' (s1.gg.trans sg) S'⟩
 .cases e)
end
noncomputable def BG(N:Nat)(ps:List PV):AY:=ps.map (λp=>some<|.im p)++List.replicate (N-ps.length) none
noncomputable def Out.val:Out->Option RV
 |.rt r=>some r
 |.nx _=>some<|.cl .A8
 |_=>none
def denote(N n:Nat)(g:SF):List PV->Option RV:=λps=>if ps.length=n then(g<|BG N ps).bind Out.val else none
theorem S3{N:Nat}{ps:List PV}{i:Nat}{sv:SV}(h:(BG N ps)[i]? = some (some sv)):∃p,ps[i]? = some p/\sv=.im p:=by
 unfold BG at h;by_cases hi:i<ps.length
 .rw[zH (by simpa using hi),zj]at h;cases e:ps[i]? with
  |none=>rw[e]at h;cases h
  |some p=>rw[e]at h;cases h;exact⟨p,rfl,rfl⟩
 .rw[zJ (by simpa using hi),AAg]at h;split at h<;>cases h
theorem sS{N:List Str}{vs:List V}{i:Nat}{v:V}(h:vs[i]? = some v):(start N vs)[i]? = some (some v):=by
 unfold start;have hi:=(yY.mp h).1;rw[zH (by simpa using hi),zj,h]
 rfl
theorem sL{K:W.Frag}{N:List Str}{G H:Hp}{ps:List PV}{vs:List V}(s:Ar G H)(h:AX K G ps vs):SR K G H G H (BG N.length ps)<|start N vs:=by
 refine⟨⟨s,λi sv e=>?_,λi j qs rs a b _ e1 o _ _ _ _=>?_,?_⟩,Ar.refl _,Ar.refl _,λ_ _ n=>n,λi qs a o e1 _=>?_⟩
 .obtain⟨p,ep,rfl⟩:=S3 e;obtain⟨v,ev,rv⟩:=JS h.paired ep;exact⟨v,sS ev,rv⟩
 .obtain⟨p,_,z⟩:=S3 e1;subst z;cases o
 .unfold BG start;rw[yx,yx,yP,yP,AAa,AAa,h.len]
 .obtain⟨p,_,z⟩:=S3 e1;subst z;cases o
theorem gT{P:Program}{w:World}{K:W.Frag}{mg:Str->Option Value}{base:Heap}{x qual:Str}{st:Stmt}{f:Addr}{fd:FuncData}{N ps:List Str}{k:Nat}{g:SF}(F:FH K x qual st f fd)(S:K4 N ps<|CM st) (Lk:∀(BE:Value)(A:Around)(outer:List Env)(s:Shared)(H:Hp)(E:XK)(Ai Ac:Hp),CV k (A.deeper<|envOfC qual (CM st) s.heap.objs.size f BE)->EY (Gj EA P w K mg base N qual (CM st) f BE A outer s H E).JQ Ai Ac (FO st) g) : C9 P w K mg base EA (k+1) f fd ps<|Km K ps.length<|denote N.length ps.length g:=by
 refine F.ok S (λvs H Q E h=>h.1) λBE A outer s H vs Q E hr h=>?_;obtain⟨hl,G,qs,r,sub,rl,e,q⟩:=h;refine⟨_,Lk BE A outer s H E G H hr,?_⟩;unfold denote at e;split at e
 .cases eg:g (BG N.length qs)with
  |none=>rw[eg]at e;cases e
  |some o=>
   rw[eg]at e;refine⟨G,BG N.length qs,o,sL sub rl,eg,?_⟩;cases o with
   |rt r'=>
    cases e;exact λv G' H' s rv=>q v G' H' s rv
   |nx ρ=>
    cases e;exact λAg G' H' s S'=>q .A8 G' H' S'.Mf<|by rfl
   |bk ρ=>cases e
   |ct ρ=>cases e
 .cases e
set_option tactic.hygienic true
mutual
noncomputable def Ao:PV->PyData
 |.A8=>.none
 |.bl b=>.bool b
 |.int i=>.int i
 |.str x=>.str x
 |.tup xs=>.tuple<|CL xs
 |.lst xs=>.list<|CL xs
 |.rd xs=>.list<|CL xs
 |.Ce _ _=>.dict []
noncomputable def CL:List PV->List PyData
 |[]=>[]
 |x::xs=>Ao x::CL xs
end
section
variable{X:Cx}{AE:List (Addr×Obj)}{σ:St}{H:Hp}{s:Shared}
mutual
theorem Rep.reads(I:Inv X AE σ H s):∀{p:PV}{v:V}{u:Value},(Ao p).canLay0=true->Rep X.K H p v->RelV v u->∃as,Reads s.heap u (Ao p) as
 |.A8,v,u,_,h,r=>by unfold Rep at h;subst h;cases r;exact⟨[],.none⟩
 |.bl b,v,u,_,h,r=>by unfold Rep at h;subst h;cases r;exact⟨[],.bool b⟩
 |.int i,v,u,_,h,r=>by unfold Rep at h;subst h;obtain⟨t,rfl⟩:=r;exact⟨[],.int i t⟩
 |.str i,v,u,_,h,r=>by unfold Rep at h;subst h;obtain⟨t,rfl⟩:=r;exact⟨[],.str i t⟩
 |.Ce _ _,v,u,c,h,r=>by unfold Ao PyData.canLay0 at c;cases c
 |.tup xs,v,u,c,h,r=>by unfold Rep at h;unfold Ao PyData.canLay0 at c;obtain⟨a,vs,rfl,hq,rl⟩:=h;cases r;obtain⟨its,rv,⟨o,ho,hc,n,hd⟩,_⟩:=I.tuple hq;obtain⟨as,ra⟩:=AX.reads I c rl rv;exact⟨as,by unfold Ao;exact .tuple ho hc hd<|by simpa using ra⟩
 |.lst xs,v,u,c,h,r=>by unfold Rep at h;unfold Ao PyData.canLay0 at c;obtain⟨a,vs,rfl,hq,rl⟩:=h;cases r;obtain⟨z,its,n,rv,e⟩:=hq.ok I.Ah;obtain⟨as,ra⟩:=AX.reads I c rl rv;exact⟨a::as,by unfold Ao;exact .list e rfl rfl<|by simpa using ra⟩
 |.rd xs,v,u,c,h,r=>by unfold Rep at h;unfold Ao PyData.canLay0 at c;obtain⟨a,vs,rfl,hq,rl⟩:=h;cases r;obtain⟨its,rv,⟨o,n,ho,hc,Nt,hd⟩,_⟩:=I.list hq;obtain⟨as,ra⟩:=AX.reads I c rl rv;exact⟨a::as,by unfold Ao;exact .list ho hc hd<|by simpa using ra⟩
theorem AX.reads(I:Inv X AE σ H s):∀{ps:List PV}{vs:List V}{us:List Value},PyData.canLayAll0 (CL ps)=true->AX X.K H ps vs->Ap vs us->∃as,ReadsAll s.heap us (CL ps) as
 |[],vs,us,_,h,r=>by unfold AX at h;subst h;cases r;exact⟨[],.nil⟩
 |p::ps,vs,us,c,h,r=>by
  unfold AX at h;unfold CL PyData.canLayAll0 at c;rw[yR]at c;obtain⟨v,vr,rfl,hv,hr⟩:=h;cases r with
  |cons r1 r2=>
   obtain⟨as,ra⟩:=Rep.reads I c.1 hv r1;obtain⟨bs,rb⟩:=AX.reads I c.2 hr r2;exact⟨as++bs,by unfold CL;exact .cons ra rb⟩
end
def Oo(K:W.Frag)(neg:Bool):R2:=λx y H Q=>∃p q,Rep K H p x/\Rep K H q y/\SeqAt.shaped (Ao p)=true/\SeqAt.shaped (Ao q)=true/\Q (.bl (if neg=true then !PyData.eqv (Ao p) (Ao q)else PyData.eqv (Ao p) (Ao q))) H
theorem mF(hu:X.A.units+64<cLine):BW X (compareOp .Eq)<|Oo X.K false:=by intro AE s σ H x y v u Q I rx ry ⟨p,q,hp,hq,sp,sq,k⟩;obtain⟨as,ra⟩:=Rep.reads I (SeqAt.canLay_of_shaped sp) hp rx;obtain⟨bs,rb⟩:=Rep.reads I (SeqAt.canLay_of_shaped sq) hq ry;exact SeqAt.compareEq_shaped ra rb sp sq hu ⟨.bl _,H,I,rfl,k⟩
theorem mP(hu:X.A.units+64<cLine):BW X (compareOp .NotEq)<|Oo X.K true:=by intro AE s σ H x y v u Q I rx ry ⟨p,q,hp,hq,sp,sq,k⟩;obtain⟨as,ra⟩:=Rep.reads I (SeqAt.canLay_of_shaped sp) hp rx;obtain⟨bs,rb⟩:=Rep.reads I (SeqAt.canLay_of_shaped sq) hq ry;exact SeqAt.compareNe_shaped ra rb sp sq hu ⟨.bl _,H,I,rfl,k⟩
end
def Ba(x y:RV):Option RV:=if SeqAt.shaped (Ao x.any)=true/\SeqAt.shaped (Ao y.any)=true then some (.cl<|.bl<|PyData.eqv (Ao x.any)<|Ao y.any)else none
def Bo(x y:RV):Option RV:=if SeqAt.shaped (Ao x.any)=true/\SeqAt.shaped (Ao y.any)=true then some (.cl<|.bl (!PyData.eqv (Ao x.any) (Ao y.any)))else none
section
variable{X:Cx}
theorem l8{K:W.Frag}:DI K Ba<|Oo K false:=by
 intro x y z H0 G H vx vy Q sub sh e rx ry q;unfold Ba at e;split at e
 .rename_i h;cases e;exact⟨x.any,y.any,rx.any sub,ry.any sub,h.1,h.2,q _ G H (Av.refl sub)<|by rfl⟩
 .cases e
theorem mB{K:W.Frag}:DI K Bo<|Oo K true:=by
 intro x y z H0 G H vx vy Q sub sh e rx ry q;unfold Bo at e;split at e
 .rename_i h;cases e;exact⟨x.any,y.any,rx.any sub,ry.any sub,h.1,h.2,q _ G H (Av.refl sub)<|by rfl⟩
 .cases e
theorem dD(hu:X.A.units+64<cLine):Cc X .Eq Ba:=⟨_,mF hu,l8⟩
theorem dM(hu:X.A.units+64<cLine):Cc X .NotEq Bo:=⟨_,mP hu,mB⟩
def BB(neg:Bool)(x y:RV):Option RV:=match x,y.seq with
 |.cl (.int i),some ps=>(C2 ps).map λns=>.cl (.bl (if neg=true then !ns.any (· == i)else ns.any (· == i)))
 |_,_=>none
theorem YD{K:W.Frag}{neg:Bool}:DI K (BB neg)<|Sx K neg:=by
 intro x y z H0 G H vx vy Q sub sh e rx ry q;unfold BB at e;split at e
 .rename_i i ps es;cases ei:C2 ps with
  |none=>rw[ei]at e;cases e
  |some ns=>
   rw[ei]at e;cases e;obtain⟨a,vs,rfl,hq,rl⟩:=ry.seq sub es;have jf:=JH ei rl;subst jf;have Wb:OD (.int i) (ns.map V.int)=ns.any (· == i):=by
    unfold OD;rw[AAk]
    rfl
   refine⟨a,ns.map V.int,rfl,hq,by rw[rx.int];rfl,by rw[ABp];exact zW.mpr λ_ _=>rfl,?_⟩;rw[rx.int,Wb];exact q _ G H (Av.refl sub) (by cases neg<;>rfl)
 .cases e
theorem dF:Cc X .In<|BB false:=⟨_,mJ,YD⟩
theorem dN:Cc X .NotIn<|BB true:=⟨_,mR,YD⟩
theorem pG{x:Str}{i:Int}{pos:Pos}(h:∃t,X.mg x=some (.int i t))(hg:Gl X x)(hd:(x==("__debug__"))=false):PX X (.Name x pos)<|fC<|.int i:=by obtain⟨t,h⟩:=h;exact MV (YZ hg h (v:=.int i) ⟨t,rfl⟩ hd) λ_=>by rfl
theorem pH{x:Str}{p:PV}{pos:Pos}(h:∃a,X.mg x=some (.ref a)/\∀G,Rep X.K G p<|.ref a)(hg:Gl X x)(hd:(x==("__debug__"))=false):PX X (.Name x pos)<|fC p:=by obtain⟨a,h,hr⟩:=h;exact MV (YZ hg h (v:=.ref a) rfl hd) hr
def BH(P:Program)(w:World)(K:W.Frag)(mg:Str->Option Value)(base:Heap)(x:Str)(k n:Nat)(F:List PV->Option RV):Prop:=
 ∃f fd ps,C9 P w K mg base EA k f fd ps (Km K n F)/\mg x=some (.ref f)/\W.keepIn K (.ref f)=true/\Binds K fd ps []/\ps.length=n
theorem Fn.of{x:Str}{j k n:Nat}{F:List PV->Option RV}(h:BH X.prog X.w X.K X.mg X.base x j n F)(hr:CV k X.A)(hk:j<=k:=by decide):Fn X x n F:=by obtain⟨f,fd,ps,h1,h2,h3,h4,h5⟩:=h;exact⟨k,f,fd,ps,h1.mono hk,hr,h2,h3,h4,h5⟩
noncomputable def QV(outer:List<|Str×NameKind)(N:List Str)(scope:Scope)(Nb:List Str)(own:Nat)(cap:List Nat):Bool:=
 (scope.kind == .function)&&scope.names.all (λy=>y.2 != .cell||scope.names.lookup y.1==some .cell)&&scope.names.all (λx=>x.2 != .local||scope.names.lookup x.1==some .local) &&
 scope.names.all (λy=>y.2 != .free||(outer.lookup y.1==some .cell||outer.lookup y.1==some .free))&&(Nb.length==own+cap.length) &&
 (List.range cap.length).all (λk=>match cap[k]? with|some j=>(match Nb[own+k]?,N[j]? with|some x,some y=>x==y&&scope.names.lookup x==some .free|_,_=>false)|none=>false)
theorem c6{scope:Scope}{Nb:List Str}{own:Nat}{cap:List Nat}(h:QV X.env.scope.names X.N scope Nb own cap=true):Fo X scope Nb own cap:=by
 unfold QV at h;simp only[yR,zW,AAS,bne_iff_ne,zX,yS]at h;obtain⟨⟨⟨⟨⟨h1,h2⟩,h3⟩,h4⟩,h5⟩,h6⟩:=h;refine⟨h1,λx hx hl=>?_,λx hx hl=>?_,λy hy hf=>?_,h5,λk j hj=>?_⟩
 .rcases h2 x hx with z|z
  .exact absurd hl z
  .exact z
 .rcases h3 x hx with z|z
  .exact absurd hl z
  .exact z
 .rcases h4 y hy with z|z
  .exact absurd hf z
  .exact z
 .have hk:=(yY.mp hj).1;have:=h6 k hk;rw[hj]at this;dsimp only at this;split at this
  .rename_i x y e1 e2;simp only[yR,AAS]at this;obtain⟨rfl,z⟩:=this;exact⟨x,e1,e2,z⟩
  .cases this
end
end L2.PL
namespace L2.PL
open PySem PySem.Spec PyProof.Rows
section
variable{X:Cx}{Ai Ac:Hp}{a b c e:Expr}{es:List Expr}{fa fb f:EF}{ga:AF}{pos:Pos}
section
variable{x:Str}{p ap Bj:Pos}
end
end
theorem cH:bootBuiltins "isinstance" = some (.builtin "isinstance"):=yK
theorem cC:bootBuiltins "abs" = some (.builtin "abs"):=yK
theorem cI:bootBuiltins "max" = some (.builtin "max"):=yK
theorem cJ:bootBuiltins "min" = some (.builtin "min"):=yK
theorem Ud:bootBuiltins "sum" = some (.builtin "sum"):=yK
theorem cD:bootBuiltins "all" = some (.builtin "all"):=yK
theorem cE:bootBuiltins "any" = some (.builtin "any"):=yK
theorem Uc:bootBuiltins "sorted" = some (.builtin "sorted"):=yK
theorem cF:bootBuiltins "bool" = some (.type "bool"):=yK
theorem cG:bootBuiltins "int" = some (.type "int"):=yK
theorem Ub:bootBuiltins "list" = some (.type "list"):=yK
theorem cK:bootBuiltins "set" = some (.type "set"):=yK
section
variable{X:Cx}{Ai Ac:Hp}{a b c e:Expr}{es:List Expr}{fa fb f:EF}{ga:AF}{pos:Pos}
def L4(T:String):PV->Option Bool
 |.bl _=>if T = "bool" then some true else if T = "int" then some true else none
 |.int _=>if T = "int" then some true else if T = "bool" then some false else none
 |.str _=>if T = "str" then some true else none
 |.lst _=>if T = "list" then some true else none
 |_=>none
def F2(T:String)(f:EF):EF:=λρ=>match f ρ with|some r=>(L4 T r.any).map λb=>.cl (.bl b)|none=>none
theorem uk{K:W.Frag}{H:Hp}{T:String}{p:PV}{v:V}{k:Bool}(h:Rep K H p v)(e:L4 T p=some k) (h1:T = "bool"->W.kitOne K (.type "bool") (.type T)=some true/\W.kitOne K (.type "int") (.type T)=some false) (h2:T = "int"->W.kitOne K (.type "int") (.type T)=some true/\W.kitOne K (.type "bool") (.type T)=some true) (h3:T = "str"->W.kitOne K (.type "str") (.type T)=some true) (h4:T = "list"->W.kitOne K (.type "list") (.type T)=some true):∃t,Ea K H v t/\W.kitOne K t (.type T)=some k:=by
 unfold L4 at e;split at e
 .subst h;split at e
  .cases e;exact⟨_,.bl _,(h1 ‹_›).1⟩
  .split at e
   .cases e;exact⟨_,.bl _,(h2 ‹_›).2⟩
   .cases e
 .subst h;split at e
  .cases e;exact⟨_,.int _,(h2 ‹_›).1⟩
  .split at e
   .cases e;exact⟨_,.int _,(h1 ‹_›).2⟩
   .cases e
 .subst h;split at e
  .cases e;exact⟨_,.str _,h3 ‹_›⟩
  .cases e
 .obtain⟨a,vs,rfl,hq,_⟩:=h;split at e
  .cases e;rcases hq with hq|⟨o,hq⟩
   .exact⟨_,.lst hq,h4 ‹_›⟩
   .exact⟨_,.D1 hq,h4 ‹_›⟩
  .cases e
 .cases e
theorem cW{T:String}(h1:T = "bool"->W.kitOne X.K (.type "bool") (.type T)=some true/\W.kitOne X.K (.type "int") (.type T)=some false)(h2:T = "int"->W.kitOne X.K (.type "int") (.type T)=some true/\W.kitOne X.K (.type "bool") (.type T)=some true) (h3:T = "str"->W.kitOne X.K (.type "str") (.type T)=some true) (h4:T = "list"->W.kitOne X.K (.type "list") (.type T)=some true) : C8 X (.builtin "isinstance") (λxs H Q=>∃x p k,xs=[x,.ty T]/\Rep X.K H p x/\L4 T p=some k/\Q (.bl k) H):=by intro AE s σ H xs us Q I r ⟨x,p,k,e1,hp,ek,q⟩;subst e1;obtain⟨u,u2,rfl,ru,rE⟩:=vals2 r;obtain rfl:u2=Value.type T:=rE;obtain⟨t,ty,et⟩:=uk hp ek h1 h2 h3 h4;exact j5 I ru ty et λtk=>⟨.bl k,H,I.tok _,rfl,q⟩
set_option tactic.hygienic true
theorem Su{T:String}{x:Str}{p p2:Pos}(h1:T = "bool"->W.kitOne X.K (.type "bool") (.type T)=some true/\W.kitOne X.K (.type "int") (.type T)=some false)(h2:T = "int"->W.kitOne X.K (.type "int") (.type T)=some true/\W.kitOne X.K (.type "bool") (.type T)=some true) (h3:T = "str"->W.kitOne X.K (.type "str") (.type T)=some true) (h4:T = "list"->W.kitOne X.K (.type "list") (.type T)=some true) (hm:X.mg "isinstance" = none) (Gz:X.mg x=none) (je:bootBuiltins x=some (.type T)) (ha:PX X a fa) (hg:Gl X "isinstance":=by rfl) (Gv:Gl X x:=by rfl) (Ny:x≠"__name__":=by decide) (hd2:(x==("__debug__"))=false:=by decide) (he:starEach [a,.Name x p2] X.env=(false,eval a X.env)::starEach [.Name x p2] X.env:=by rfl) (F9:starEach [.Name x p2] X.env=(false,eval (.Name x p2) X.env)::starEach [] X.env:=by rfl) (BY:(backTo pos<|starEach [.Name x p2] X.env).any (·.1)=false:=by rfl) : PX X (.Call (.Name "isinstance" p) [a,.Name x p2] [] pos)<|F2 T fa:=by
 refine PE.imp (Oh (cW h1 h2 h3 h4) hg hm cH (Kc ha (Kc (nF (v:=.ty T) Gv Gz je rfl Ny hd2) MT F9) he) yJ yJ he BY) λσ H Q ⟨G,ρ,r,R,e,q⟩=>?_;unfold F2 at e;split at e
 .rename_i r' er;cases ek:L4 T r'.any with
  |none=>rw[ek]at e;cases e
  |some k=>
   rw[ek]at e;cases e;refine⟨G,ρ,r',R,er,λv G' H' s rv=>?_⟩;exact⟨v,r'.any,k,rfl,rv.any s.sub,ek,q _ G' H' s<|by rfl⟩
 .cases e
theorem pM{p p2:Pos}(hm:X.mg "isinstance" = none)(Gz:X.mg "bool" = none)(ha:PX X a fa)(hg:Gl X "isinstance")(Gv:Gl X "bool") (he:starEach [a,.Name "bool" p2] X.env=(false,eval a X.env)::starEach [.Name "bool" p2] X.env) (F9:starEach [.Name "bool" p2] X.env=(false,eval (.Name "bool" p2) X.env)::starEach [] X.env) (BY:(backTo pos<|starEach [.Name "bool" p2] X.env).any (·.1)=false) : PX X (.Call (.Name "isinstance" p) [a,.Name "bool" p2] [] pos)<|F2 "bool" fa:=
 Su (λ_=>⟨rfl,rfl⟩) (λz=>absurd z yJ) (λz=>absurd z yJ) (λz=>absurd z yJ) hm Gz cF ha hg Gv yJ yJ he F9 BY
theorem pN{p p2:Pos}(hm:X.mg "isinstance" = none)(Gz:X.mg "int" = none)(ha:PX X a fa)(hg:Gl X "isinstance")(Gv:Gl X "int") (he:starEach [a,.Name "int" p2] X.env=(false,eval a X.env)::starEach [.Name "int" p2] X.env) (F9:starEach [.Name "int" p2] X.env=(false,eval (.Name "int" p2) X.env)::starEach [] X.env) (BY:(backTo pos<|starEach [.Name "int" p2] X.env).any (·.1)=false) : PX X (.Call (.Name "isinstance" p) [a,.Name "int" p2] [] pos)<|F2 "int" fa:=
 Su (λz=>absurd z yJ) (λ_=>⟨rfl,rfl⟩) (λz=>absurd z yJ) (λz=>absurd z yJ) hm Gz cG ha hg Gv yJ yJ he F9 BY
end
section
variable{X:Cx}{Ai Ac:Hp}{a b c e:Expr}{es:List Expr}{fa fb f:EF}{ga:AF}{pos:Pos}
noncomputable def P9(a:Addr)(n:Nat):HO:=.ext λh=>∃o es ep t,h.get? a=some o/\o.ExactSet/\o.data=.set es ep t/\t.fits es.size=true/\es.size=n/\n<=1000
theorem rR{P:Program}{w:World}{H:Hp}{h:Heap}{a:Addr}{ks:List (List Int)}(x:Internal.ST.Gd P w h a ks)(hz:ks.length<=1000):By P w H h a<|P9 a ks.length:=by
 obtain⟨o,es,ep,t,kk,ho,hex,hd,T,hp⟩:=x;refine⟨⟨o,es,ep,t,ho,hex,hd,T.fits,?_,hz⟩,⟨o,ho⟩,?_⟩
 .rw[<-T.len,hp.length_eq]
 .rintro h1 h2 ⟨o,es,ep,t,e1,e2⟩ k;exact⟨o,es,ep,t,k o e1,e2⟩
def TupAt(K:W.Frag)(H:Hp)(v:V)(ks:List Int):Prop:=∃a,v=.ref a/\BL K H a (ks.map V.int)
theorem XB{P:Program}{w:World}:∀{ks:List Int}{us:List Value},Ap (ks.map V.int) us->ItemsAre (intKind P w) ks us
 |[],us,r=>by cases r;exact .nil
 |k::ks,us,r=>by
  cases r with
  |cons r1 r2=>
   obtain⟨t,rfl⟩:=r1;exact .cons (by show Value.isInt k (.int k t)=true;simp[Value.isInt])<|XB r2
theorem cq(hc:X.calm=true)(hu:X.A.units+64<cLine):C8 X (.type "set") (λxs H Q=>∃(p:Addr)(vs:List V)(kks:List<|List Int),xs=[.ref p]/\Rd H p (.lst vs)/\Paired (λk v=>TupAt X.K H v k) kks vs/\kks.length<=17/\∀d,H d=none->Q (.ref d) (upd H d<|P9 d (Internal.ST.Dp [] kks).length)):=by
 intro AE s σ H xs us Q I r h;obtain⟨p,vs,kks,rfl,hq,hp,hz,q⟩:=h;obtain⟨u,rfl,rx⟩:=vals1 r;cases rx;obtain⟨z,its,n,rv,e⟩:=hq.ok I.Ah;have hl:s.heap.IsList p its.toArray:=⟨_,e,rfl,n,rfl⟩;have Gx:=Paired.length hp;have JB:=rv.length;refine Internal.ST.cv (kks:=kks) (I.ok.hd hc) yH hl (by rw[yh];omega) (by rw[yh];omega) (λj v hj=>?_) λh' tk hS hk=>?_
 .have CH:=by simpa using hj
  obtain⟨x,ex,rx⟩:=Sf rv CH;obtain⟨k,ek,a,rfl,ha⟩:=Sf hp ex;cases rx;obtain⟨Ht,rH,⟨o,ho,Nr,n2,hd⟩,_⟩:=I.tuple ha;exact⟨k,a,ek,rfl,o,Ht.toArray,n2,ho,Nr,hd,by simpa using XB rH⟩
 .have hn:=I.Ah.fresh<|yf _;have hle:=Internal.ST.Zm kks [];refine⟨.ref s.heap.objs.size,_,I.laid hk (yf _)<|rR hS ?_,rfl,q _ hn⟩;simp at hle;omega
theorem cY:C8 X (.builtin "len") (λxs H Q=>∃(p:Addr)(n:Nat),xs=[.ref p]/\H p=some (P9 p n)/\Q (.int n) H):=by intro AE s σ H xs us Q I r h;obtain⟨p,n,rfl,hq,q⟩:=h;obtain⟨u,rfl,rx⟩:=vals1 r;cases rx;obtain⟨⟨o,es,ep,t,ho,hex,hd,hf,hn,hz⟩,_⟩:=I.Ah p _ hq;exact call_len_set ho hex hd hf (by rw[hn];omega) ⟨.int n,H,I.tok _,⟨s.toks+1,by rw[hn]⟩,q⟩
set_option tactic.hygienic true
def II:List PV->Option (List<|List Int)
 |[]=>some []
 |.tup xs::r=>match C2 xs,II r with|some k,some ks=>some (k::ks)|_,_=>none
 |_=>none
theorem Zh{K:W.Frag}{G H:Hp}(s:Ar G H):∀{ps:List PV}{vs:List V}{ks:List (List Int)},II ps=some ks->AX K G ps vs->Paired (λk v=>TupAt K H v k) ks vs
 |[],vs,ks,e,h=>by cases e;subst h;exact .nil
 |.tup xs::r,vs,ks,e,h=>by
  unfold II at e;split at e
  .rename_i k OM e1 e2;cases e;obtain⟨v,us,rfl,hv,t⟩:=h;obtain⟨a,ws,rfl,hq,rl⟩:=hv;rw[JH e1 rl]at hq;exact .cons ⟨a,rfl,BL.same s hq⟩<|Zh s e2 t
  .cases e
 |.A8::_,_,_,e,_=>by cases e
 |.bl _::_,_,_,e,_=>by cases e
 |.int _::_,_,_,e,_=>by cases e
 |.str _::_,_,_,e,_=>by cases e
 |.lst _::_,_,_,e,_=>by cases e
 |.rd _::_,_,_,e,_=>by cases e
 |.Ce _ _::_,_,_,e,_=>by cases e
def Hd(f:EF):EF:=λρ=>match f ρ with
 |some r=>(match r.list.bind II with|some ks=>if ks.length<=17 then some (.cl<|.int (Internal.ST.Dp [] ks).length)else none|none=>none)
 |none=>none
theorem pU{p p2 Oj:Pos}(hc:X.calm=true)(hm:X.mg "len" = none)(Gz:X.mg "set" = none)(hu:X.A.units+64<cLine)(ha:PX X a fa)(hg:Gl X "len")(Gv:Gl X "set") (F9:starEach [a] X.env=(false,eval a X.env)::starEach [] X.env) (jS:(backTo Oj<|starEach [] X.env).any (·.1)=false) (he:starEach [.Call (.Name "set" p2) [a] [] Oj] X.env=(false,eval (.Call (.Name "set" p2) [a] [] Oj) X.env)::starEach [] X.env) (BY:(backTo pos<|starEach [] X.env).any (·.1)=false) : PX X (.Call (.Name "len" p) [.Call (.Name "set" p2) [a] [] Oj] [] pos)<|Hd fa:=by
 refine PE.imp (Oh cY hg hm ACb (Kc (YX (cq hc hu) Gv Gz cK (Kc ha MT F9) yJ yJ F9 jS) MT he) yJ yJ he BY) λσ H Q ⟨G,ρ,r,R,e,q⟩=>?_;unfold Hd at e;split at e
 .rename_i r' er;split at e
  .rename_i ks ek;split at e
   .rename_i hz;cases e;cases el:r'.list with
    |none=>rw[el]at ek;cases ek
    |some ps=>
     rw[el]at ek;refine⟨G,ρ,r',R,er,λv G' H' s rv=>?_⟩;obtain⟨d,vs,rfl,hq,rl⟩:=rv.list s.sub el;refine⟨d,vs,ks,rfl,hq,Zh s.sub ek rl,hz,λx hx=>?_⟩;refine⟨x,_,rfl,Ci,q _ G' _ (s.trans<|Av.E7 s.sub _ hx) ?_⟩
     rfl
   .cases e
  .cases e
 .cases e
end
section
set_option tactic.hygienic true
variable{X:Cx}{Ai Ac:Hp}{a b c e:Expr}{es:List Expr}{fa fb f:EF}{ga:AF}{pos:Pos}
def F5(i j:Nat)(ga:AF):SF:=λρ=>match ga ρ with
 |some rs=>(match Cm rs with|some [p,q]=>some (.nx<|(ρ.set i<|some<|.im p).set j<|some<|.im q)|_=>none)
 |none=>none
theorem qW(i j:Nat){x y:Str}{px py pt:Pos}{kt k2 JV}(hc:X.calm=true)(hN:X.N.Nodup)(ha:Cf X [a,b] ga)(hi:X.N[i]? = some x)(hj:X.N[j]? = some y)(Bi:i≠j) (hx:X.env.scope.names.lookup x=some .local) (hy:X.env.scope.names.lookup y=some .local) (hw:swappedStores [.Tuple [.Name x px,.Name y py] kt pt] (.Tuple [a,b] k2 JV) X.env=pure (some [x,y])) (hs:swapsWithSole [.Tuple [.Name x px,.Name y py] kt pt] (.Tuple [a,b] k2 JV) pos.line X.env=pure false) : CU X Ai Ac (.Assign [.Tuple [.Name x px,.Name y py] kt pt] (.Tuple [a,b] k2 JV) pos)<|F5 i j ga:=PS.imp (oQ hc hN hi hj Bi hx hy ha hw hs) (by
 rintro D σ H ⟨G,ρ,o,S,e,k⟩;unfold F5 at e;split at e
 .rename_i rs er;split at e
  .rename_i p q ec;cases e;refine⟨G,ρ,rs,S.r,er,λvs G' H' s rv=>?_⟩;have rl:=IQ s.sub rv ec;obtain⟨v,r,rfl,rp,rl⟩:=rl;obtain⟨w,r,rfl,rq,rl⟩:=rl;subst rl;have S':=S.step s.all;have S1:=S'.turn (S'.r.HF (i:=i) rp) De.HF;have S2:=S1.turn (S1.r.HF (i:=j) rq) De.HF;exact⟨v,w,rfl,k _ _ _ s.all.gg S2⟩
  .cases e
 .cases e)
noncomputable def Il(f:EF):SF:=λρ=>match f ρ with|some _=>some (.nx ρ)|none=>none
theorem qO(he:PX X e f)(G0:swapsWith e none pos.line X.env=pure false):CU X Ai Ac (.Expr e pos)<|Il f:=PS.imp (Sn he G0) (by
 rintro D σ H ⟨G,ρ,o,S,er,k⟩;unfold Il at er;split at er
 .rename_i r eq;cases er;exact⟨G,ρ,r,S.r,eq,λv G' H' s rv=>k _ _ _ s.gg<|S.step s⟩
 .cases er)
end
section
variable{X:Cx}{Ai Ac:Hp}{a b c d e:Expr}{es:List Expr}{fa fb fc fd f:EF}{ga:AF}{pos:Pos}
def Ta(r r' FA:R2)(ta tb tc td:TE):TE:=λσ H Q=>ta σ H λx H1=>tb σ H1 λy H2=>r x y H2 λz H3=>∃k,z=.bl k/\
 (if k=true then tc σ H3 λw H4=>r' y w H4 λz' H5=>∃k',z'=.bl k'/\(if k'=true then td σ H5 λw' H6=>FA w w' H6 Q else Q (.bl false) H5)else Q (.bl false) H3)
theorem nI{ta tb tc td:TE}{op Bx D6:CmpOp}{r r' FA:R2}(ho:BW X (compareOp op) r)(Bw:BW X (compareOp Bx) r')(JC:BW X (compareOp D6) FA)(ha:PE X a ta)(hb:PE X b tb)(hc:PE X c tc)(hd:PE X d td) (hm:lastMarks [op,Bx,D6] [b,c,d]=false:=by with_unfolding_all rfl):PE X (.Compare a [op,Bx,D6] [b,c,d] pos)<|Ta r r' FA ta tb tc td:=by
 intro AE s σ H Q I h;refine Compare_chain (Ad (ha AE s σ H _ I h) λv s1 ⟨x,H1,I1,r1,q1⟩=>chain_link (Ad (hb AE s1 σ H1 _ I1 q1) λu s2 ⟨y,H2,I2,r2,q2⟩=>
  Ad (ho AE s2 σ H2 x y v u _ I2 r1 r2 q2) λd s3 ⟨z,H3,I3,r3,k,e,q3⟩=>?_)) hm
 subst e;cases r3;refine wpAny_truthy_bool ?_;cases k with
 |false=>exact ite_ff ⟨.bl false,H3,I3,rfl,q3⟩
 |true=>
  refine ite_tt<|chain_link<|Ad (hc AE s3 σ H3 _ I3 q3) λw' s4 ⟨z',H4,I4,r4,q4⟩=>Ad (Bw AE s4 σ H4 y z' u w' _ I4 r2 r4 q4) λd' s5 ⟨z2,H5,I5,r5,k2,e2,q5⟩=>?_;subst e2;cases r5;refine wpAny_truthy_bool ?_;cases k2 with
  |false=>exact ite_ff ⟨.bl false,H5,I5,rfl,q5⟩
  |true=>exact ite_tt<|chain_last<|Ad (hd AE s5 σ H5 _ I5 q5) (by rintro w2 s6 ⟨z3,H6,I6,r6,q6⟩;exact JC AE s6 σ H6 z' z3 w' w2 Q I6 r4 r6 q6)
theorem oX{ta tb tc td:TE}{op Bx D6:CmpOp}{r r' FA:R2}(ho:BW X (compareOp op) r)(Bw:BW X (compareOp Bx) r')(JC:BW X (compareOp D6) FA)(ha:PE X a ta)(hb:PE X b tb)(hc:PE X c tc)(hd:PE X d td) (hm:lastMarks [op,Bx,D6] [b,c,d]=false:=by with_unfolding_all rfl):PT X (.Compare a [op,Bx,D6] [b,c,d] pos)<|Td<|Ta r r' FA ta tb tc td:=by
 intro AE s σ H Q I h;refine isTrue_chain (Ad (ha AE s σ H _ I h) λv s1 ⟨x,H1,I1,r1,q1⟩=>test_link (Ad (hb AE s1 σ H1 _ I1 q1) λu s2 ⟨y,H2,I2,r2,q2⟩=>
  Ad (ho AE s2 σ H2 x y v u _ I2 r1 r2 q2) λd s3 ⟨z,H3,I3,r3,k,e,q3⟩=>?_)) hm
 subst e;cases r3;refine wpAny_truthy_bool ?_;cases k with
 |false=>
  obtain⟨k',e',q'⟩:=q3;cases e';exact ite_ff ⟨H3,I3,q'⟩
 |true=>
  refine ite_tt<|test_link<|Ad (hc AE s3 σ H3 _ I3 q3) λw' s4 ⟨z',H4,I4,r4,q4⟩=>Ad (Bw AE s4 σ H4 y z' u w' _ I4 r2 r4 q4) λd' s5 ⟨z2,H5,I5,r5,k2,e2,q5⟩=>?_;subst e2;cases r5;refine wpAny_truthy_bool ?_;cases k2 with
  |false=>
   obtain⟨k',e',q'⟩:=q5;cases e';exact ite_ff ⟨H5,I5,q'⟩
  |true=>
   refine ite_tt<|test_last<|Ad (hd AE s5 σ H5 _ I5 q5) λw2 s6 ⟨z3,H6,I6,r6,q6⟩=>Ad (JC AE s6 σ H6 z' z3 w' w2 _ I6 r4 r6 q6) λd2 s7 ⟨z4,H7,I7,r7,k3,e3,q7⟩=>?_;subst e3;cases r7;exact wpAny_truthy_bool ⟨H7,I7,q7⟩
set_option tactic.hygienic true
noncomputable def Dy(k k' GD:RV->RV->Option RV)(fa fb fc fd:EF):EF:=λρ=>match fa ρ,fb ρ with
 |some x,some y=>match k x y with
  |some (.cl<|.bl true)=>(match fc ρ with
   |some z=>(match k' y z with
    |some (.cl<|.bl true)=>(match fd ρ with|some w=>GD z w|none=>none)
    |some (.cl<|.bl false)=>some<|.cl<|.bl false
    |_=>none)
   |none=>none)
  |some (.cl<|.bl false)=>some<|.cl<|.bl false
  |_=>none
 |_,_=>none
theorem Zc{K:W.Frag}{k k' GD:RV->RV->Option RV}{r r' FA:R2}(hk:DI K k r)(Bc:DI K k' r')(Lp:DI K GD FA){σ:St}{H:Hp}{Q:VK}(h:tX K (Dy k k' GD fa fb fc fd) σ H Q):Ta r r' FA (tX K fa) (tX K fb) (tX K fc) (tX K fd) σ H Q:=by
 obtain⟨G,ρ,z,R,e,q⟩:=h;unfold Dy at e;split at e
 .rename_i x y ea eb;refine⟨G,ρ,x,R,ea,λvx G1 H1 s1 rx=>⟨G1,ρ,y,R.step s1,eb,λvy G2 H2 s2 ry=>?_⟩⟩;split at e
  .rename_i ek;cases ec:fc ρ with
   |none=>rw[ec]at e;cases e
   |some w=>
    rw[ec]at e;dsimp only at e;refine hk x y _ H G2 H2 vx vy _ s2.sub (s1.hh.trans s2.hh) ek (rx.step s2) (ry.back s1.hh) λv G3 H3 s3 rv=>⟨true,rv.bl,?_⟩;have ER:=(s1.trans s2).trans s3;refine⟨G3,ρ,w,R.step ER,ec,λvw G4 H4 s4 Cq=>?_⟩;split at e
    .rename_i LQ;cases ed:fd ρ with
     |none=>rw[ed]at e;cases e
     |some w2=>
      rw[ed]at e;refine Bc y w _ H G4 H4 vy vw _ s4.sub (ER.trans s4).hh LQ ((ry.back s1.hh).step<|s3.trans s4) (Cq.back ER.hh) λv5 G5 H5 s5 S6=>⟨true,S6.bl,?_⟩;have FD:=(ER.trans s4).trans s5;refine⟨G5,ρ,w2,R.step FD,ed,λu3 G6 H6 s6 rL=>?_⟩;exact Lp w w2 z H G6 H6 vw u3 Q s6.sub (FD.trans s6).hh e ((Cq.back ER.hh).step<|s5.trans s6) (rL.back FD.hh) λv7 G7 H7 s7 rJ=>q v7 G7 H7 ((FD.trans s6).trans s7) rJ
    .rename_i LQ;cases e;refine Bc y w _ H G4 H4 vy vw _ s4.sub (ER.trans s4).hh LQ ((ry.back s1.hh).step<|s3.trans s4) (Cq.back ER.hh) λv5 G5 H5 s5 S6=>⟨false,S6.bl,?_⟩;exact q _ G5 H5 ((ER.trans s4).trans s5)<|by rfl
    .cases e
  .rename_i ek;cases e;refine hk x y _ H G2 H2 vx vy _ s2.sub (s1.hh.trans s2.hh) ek (rx.step s2) (ry.back s1.hh) λv G3 H3 s3 rv=>⟨false,rv.bl,?_⟩;exact q _ G3 H3 ((s1.trans s2).trans s3)<|by rfl
  .cases e
 .cases e
set_option tactic.hygienic false
theorem o7{op Bx D6:CmpOp}{k k' GD:RV->RV->Option RV}(h1:Cc X op k)(h2:Cc X Bx k')(h3:Cc X D6 GD)(ha:PX X a fa)(hb:PX X b fb)(EH:PX X c fc)(hd:PX X d fd)(hm:lastMarks [op,Bx,D6] [b,c,d]=false) : PX X (.Compare a [op,Bx,D6] [b,c,d] pos)<|Dy k k' GD fa fb fc fd:=by obtain⟨r,ho,hk⟩:=h1.ex;obtain⟨r',Bw,Bc⟩:=h2.ex;obtain⟨FA,JC,Lp⟩:=h3.ex;exact PE.imp (nI ho Bw JC ha hb EH hd hm) λ_ _ _ h=>Zc hk Bc Lp h
theorem qj{op Bx D6:CmpOp}{k k' GD:RV->RV->Option RV}(h1:Cc X op k)(h2:Cc X Bx k')(h3:Cc X D6 GD)(ha:PX X a fa)(hb:PX X b fb)(EH:PX X c fc)(hd:PX X d fd)(hm:lastMarks [op,Bx,D6] [b,c,d]=false) : DB X (.Compare a [op,Bx,D6] [b,c,d] pos)<|AR<|Dy k k' GD fa fb fc fd:=by obtain⟨r,ho,hk⟩:=h1.ex;obtain⟨r',Bw,Bc⟩:=h2.ex;obtain⟨FA,JC,Lp⟩:=h3.ex;exact PT.imp (oX ho Bw JC ha hb EH hd hm) λ_ _ _ h=>Zc hk Bc Lp<|PF h
noncomputable def Dv(h:Heap)(dx:PyData)(u:Value):Bool:=@decide (∃(dd:PyData)(as:List Addr),Reads h u dd as/\dd.canLay0=true/\PyData.eqv dd dx=true)<|Classical.propDecidable _
theorem Vn{h:Heap}{dx dd:PyData}{u:Value}{as:List Addr}(r:Reads h u dd as)(hc:dd.canLay0=true):Dv h dx u=PyData.eqv dd dx:=by
 cases he:PyData.eqv dd dx with
 |true=>exact @decide_eq_true _ (Classical.propDecidable _) ⟨dd,as,r,hc,he⟩
 |false=>
  refine @decide_eq_false _ (Classical.propDecidable _) ?_;rintro⟨d',bb,r',_,e'⟩;have:=SeqAt.Reads.unique dd d' u as bb hc r r';subst this;rw[he]at e';cases e'
def inD(ps:List PV)(x:PV):Bool:=ps.any λp=>PyData.eqv (Ao p)<|Ao x
def Sy(K:W.Frag)(neg:Bool):R2:=λx y H Q=>∃(px:PV)(ps:List PV)(vs:List V)(p:Addr),y=.ref p/\(B6 K H p vs\/BL K H p vs)/\AX K H ps vs/\Rep K H px x/\SeqAt.shaped (Ao px)=true/\(∀p∈ps,SeqAt.shaped (Ao p)=true)/\Q (.bl (if neg=true then !inD ps px else inD ps px)) H
theorem LC{AE:List (Addr×Obj)}{σ:St}{H:Hp}{s:Shared}(I:Inv X AE σ H s){dx:PyData}:∀{ps:List PV}{vs:List V}{us:List Value},AX X.K H ps vs->Ap vs us->(∀p∈ps,SeqAt.shaped (Ao p)=true)->us.any (Dv s.heap dx)=ps.any λp=>PyData.eqv (Ao p) dx
 |[],vs,us,h,r,_=>by subst h;cases r;rfl
 |p::ps,vs,us,h,r,hs=>by
  obtain⟨v,vr,rfl,hv,hr⟩:=h;cases r with
  |cons r1 r2=>
   obtain⟨as,ra⟩:=Rep.reads I (SeqAt.canLay_of_shaped<|hs p yq) hv r1;rw[zv,zv,Vn ra<|SeqAt.canLay_of_shaped<|hs p yq,LC I hr r2 λq hq=>hs q<|yj _ hq]
theorem ML{AE:List (Addr×Obj)}{σ:St}{H:Hp}{s:Shared}(I:Inv X AE σ H s)(hu:X.A.units+66<cLine){px:PV}{vx:V}{ux:Value}(hx:Rep X.K H px vx)(rx:RelV vx ux)(sx:SeqAt.shaped (Ao px)=true):∀{ps:List PV}{vs:List V}{us:List Value},AX X.K H ps vs->Ap vs us->(∀p∈ps,SeqAt.shaped (Ao p)=true)->∀u∈us,SeqAt.EqAt X.A.in1 s u ux (Dv s.heap (Ao px) u)
 |[],vs,us,h,r,_=>by subst h;cases r;intro u hu;cases hu
 |p::ps,vs,us,h,r,hs=>by
  obtain⟨v,vr,rfl,hv,hr⟩:=h;cases r with
  |cons r1 r2=>
   intro u hm;rcases yw.mp hm with rfl|hm
   .have sp:=hs p yq;obtain⟨as,ra⟩:=Rep.reads I (SeqAt.canLay_of_shaped sp) hv r1;obtain⟨bs,rb⟩:=Rep.reads I (SeqAt.canLay_of_shaped sx) hx rx;rw[Vn ra<|SeqAt.canLay_of_shaped sp];exact SeqAt.eqAt_reads _ _ _ _ _ _ as bs ra rb (SeqAt.canLay_of_shaped sp) (SeqAt.canLay_of_shaped sx) (SeqAt.room_of_shaped sp (by show X.A.units+1+64<cLine;omega))
   .exact ML I hu hx rx sx hr r2 (λq hq=>hs q<|yj _ hq) u hm
theorem mI(hu:X.A.units+66<cLine):BW X (compareOp .In)<|Sy X.K false:=by
 intro AE s σ H x y v u Q I rx ry h;obtain⟨px,ps,vs,p,rfl,hq,rl,hx,sx,ss,q⟩:=h;cases ry;rcases hq with hq|hq
 .obtain⟨its,r,pl,hz⟩:=I.list hq;refine SeqAt.in_listAt (Dv s.heap<|Ao px) pl.isList (λw hw=>ML I hu hx rx sx rl r ss w<|by simpa using hw) ⟨.bl _,H,I,rfl,?_⟩;rw[show its.toArray.any (Dv s.heap<|Ao px)=its.any (Dv s.heap<|Ao px)by simp,LC I rl r ss];exact q
 .obtain⟨its,r,pl,hz⟩:=I.tuple hq;refine SeqAt.in_tupleAt (Dv s.heap<|Ao px) pl (λw hw=>ML I hu hx rx sx rl r ss w<|by simpa using hw) ⟨.bl _,H,I,rfl,?_⟩;rw[show its.toArray.any (Dv s.heap<|Ao px)=its.any (Dv s.heap<|Ao px)by simp,LC I rl r ss];exact q
theorem mQ(hu:X.A.units+66<cLine):BW X (compareOp .NotIn)<|Sy X.K true:=by
 intro AE s σ H x y v u Q I rx ry h;obtain⟨px,ps,vs,p,rfl,hq,rl,hx,sx,ss,q⟩:=h;cases ry;rcases hq with hq|hq
 .obtain⟨its,r,pl,hz⟩:=I.list hq;refine SeqAt.notIn_listAt (Dv s.heap<|Ao px) pl.isList (λw hw=>ML I hu hx rx sx rl r ss w<|by simpa using hw) ⟨.bl _,H,I,rfl,?_⟩;rw[show its.toArray.any (Dv s.heap<|Ao px)=its.any (Dv s.heap<|Ao px)by simp,LC I rl r ss];exact q
 .obtain⟨its,r,pl,hz⟩:=I.tuple hq;refine SeqAt.notIn_tupleAt (Dv s.heap<|Ao px) pl (λw hw=>ML I hu hx rx sx rl r ss w<|by simpa using hw) ⟨.bl _,H,I,rfl,?_⟩;rw[show its.toArray.any (Dv s.heap<|Ao px)=its.any (Dv s.heap<|Ao px)by simp,LC I rl r ss];exact q
set_option tactic.hygienic true
def Ma(ps:List PV):Bool:=ps.all λp=>SeqAt.shaped<|Ao p
def Dk(neg:Bool)(x y:RV):Option RV:=match y.seq with
 |some ps=>if SeqAt.shaped (Ao x.any)=true/\Ma ps=true then some (.cl (.bl (if neg=true then !inD ps x.any else inD ps x.any)))else none
 |none=>none
theorem YE{K:W.Frag}{neg:Bool}:DI K (Dk neg)<|Sy K neg:=by
 intro x y z H0 G H vx vy Q sub sh e rx ry q;unfold Dk at e;split at e
 .rename_i ps es;split at e
  .rename_i hs;cases e;obtain⟨a,vs,rfl,hq,rl⟩:=ry.seq sub es;refine⟨x.any,ps,vs,a,rfl,hq,AX.same sub rl,rx.any sub,hs.1,λp hp=>zW.mp hs.2 p hp,q _ G H (Av.refl sub) ?_⟩
   rfl
  .cases e
 .cases e
theorem dG(hu:X.A.units+66<cLine):Cc X .In<|Dk false:=⟨_,mI hu,YE⟩
theorem dO(hu:X.A.units+66<cLine):Cc X .NotIn<|Dk true:=⟨_,mQ hu,YE⟩
end
theorem uq{k:Nat}{A:Around}(r:CV k A):A.units+66<cLine:=by have:=r.un;omega
inductive vc where
 |o (x:Out)|ex (nm:Str)
section
variable{X:Cx}{E:XK}{Ai Ac:Hp}{a b c e tg iter:Expr}{es:List Expr}{fa fb fc f:EF}{ga:AF}{t:BF}{pos:Pos}{st:Stmt}{BI body Qc:List Stmt}{g h:YF}
end
section
variable{X:Cx}{Ai Ac:Hp}{a b e:Expr}{es:List Expr}{fa fb f:EF}{ga:AF}{pos:Pos}
end
section
variable{X:Cx}{E:XK}{Ai Ac:Hp}{a b e:Expr}{es:List Expr}{fa fb f:EF}{ga:AF}{pos:Pos}
end
section
variable{X:Cx}{E:XK}{Ai Ac:Hp}{a b e:Expr}{es:List Expr}{fa fb f:EF}{ga:AF}{pos:Pos}
end
noncomputable def Cw:List (List Int)->List PV->List Int->Option PV
 |k'::ks,x::xs,k=>if k'=k then some x else Cw ks xs k
 |_,_,_=>none
noncomputable def Fz:List (List Int)->List PV->List Int->PV->List PV
 |k'::ks,x::xs,k,v=>(if k'=k then v else x)::Fz ks xs k v
 |_,_,_,_=>[]
noncomputable def FP(ks:List<|List Int)(k:List Int):List<|List Int:=if k∈ks then ks else ks ++ [k]
def Gm(ks:List<|List Int)(xs:List PV)(k:List Int)(v:PV):List PV:=if k∈ks then Fz ks xs k v else xs ++ [v]
theorem Rw{a b:List Int}(h:CZ a=CZ b):a=b:=by exact(List.map_inj_right λx y e=>ACP e).mp h
theorem XS(k:List Int):(CZ k).map kV=k.map V.int:=by
 unfold CZ;rw[zM]
 rfl
section
variable{K:W.Frag}{G:Hp}
theorem VY:∀{ks:List (List Int)}{xs:List PV}{AJ:List (List Key×V)}{k:List Int}{p:PV},AJ.map (·.1)=ks.map CZ->AX K G xs (AJ.map (·.2))->Cw ks xs k=some p->∃v,ET AJ (CZ k)=some v/\Rep K G p v
 |[],_,_,_,_,_,_,e=>by cases e
 |_::_,[],_,_,_,_,_,e=>by cases e
 |k'::ks,x::xs,[],k,p,h,_,_=>by simp at h
 |k'::ks,x::xs,(q,v)::AJ,k,p,h,r,e=>by
  simp only[ye,ACN]at h;obtain⟨u,us,eu,hu,hr⟩:=r;cases eu;unfold Cw at e;by_cases hk:k'=k
  .rw[yO hk]at e;cases e;exact⟨v,Mo (by rw[h.1,hk]),hu⟩
  .rw[yN hk]at e;obtain⟨w,h1,h2⟩:=VY h.2 hr e;exact⟨w,by rw[Ks λz=>hk<|Rw<|h.1.symm.trans z];exact h1,h2⟩
theorem Vh{k:List Int}{p:PV}{v:V}(hp:Rep K G p v):∀{ks:List (List Int)}{xs:List PV}{AJ:List (List Key×V)},AJ.map (·.1)=ks.map CZ->AX K G xs (AJ.map (·.2))->(AJ.map λkv=>if kv.1=CZ k then(kv.1,v)else kv).map (·.1)=ks.map CZ/\AX K G (Fz ks xs k p) ((AJ.map λkv=>if kv.1=CZ k then(kv.1,v)else kv).map (·.2))
 |[],xs,[],_,r=>by exact⟨rfl,by rfl⟩
 |[],_,_::_,h,_=>by simp at h
 |_::_,_,[],h,_=>by simp at h
 |k'::ks,[],_::_,_,r=>by unfold AX at r;simp at r
 |k'::ks,x::xs,(q,u)::AJ,h,r=>by
  simp only[ye,ACN]at h;obtain⟨u',us,eu,hu,hr⟩:=r;cases eu;obtain⟨h1,h2⟩:=Vh (k:=k) hp h.2 hr;obtain⟨rfl,_⟩:=h;unfold Fz;by_cases hk:k'=k
  .subst hk;rw[ye,yO rfl,yO rfl,ye,h1];refine⟨rfl,?_⟩;exact⟨_,_,rfl,hp,h2⟩
  .rw[ye,yN hk,yN λz=>hk<|Rw z,ye,h1];refine⟨rfl,?_⟩;exact⟨_,_,rfl,hu,h2⟩
theorem fF{ks:List (List Int)}{xs:List PV}{AJ:List (List Key×V)}{k:List Int}{p:PV}{v:V}(h:AJ.map (·.1)=ks.map CZ)(r:AX K G xs (AJ.map (·.2)))(hp:Rep K G p v) : (DF AJ (CZ k) v).map (·.1)=(FP ks k).map CZ/\AX K G (Gm ks xs k p) ((DF AJ (CZ k) v).map (·.2)):=by
 have e:(AJ.any λkv=>decide (kv.1=CZ k))=decide (k∈ks):=by
  have:(AJ.any λkv=>decide (kv.1=CZ k))=(AJ.map (·.1)).any λq=>decide (q=CZ k):=by rw[AAk];rfl
  rw[this,h,AAk,AAe];simp only[List.any_eq_true,Function.comp,yZ];exact⟨(by rintro⟨x,hx,e⟩;exact Rw e ▸ hx),λhx=>⟨k,hx,rfl⟩⟩
 unfold DF FP Gm;rw[e];by_cases hk:k∈ks
 .rw[yO (by simpa using hk),yO hk,yO hk];exact Vh hp h r
 .rw[yN (by simpa using hk),yN hk,yN hk,zP,zP,zP,h];exact⟨rfl,AX.of<|JR r.paired<|.cons hp .nil⟩
end
theorem fD(ks:List<|List Int)(k:List Int):(FP ks k).length<=ks.length+1:=by
 unfold FP;split
 .omega
 .rw[yx];exact yf _
theorem Vg:∀(ks:List<|List Int)(xs:List PV)(k:List Int)(v:PV),ks.length=xs.length->(Fz ks xs k v).length=xs.length
 |[],[],_,_,_=>rfl
 |[],_::_,_,_,h=>by simp at h
 |_::_,[],_,_,h=>by simp at h
 |_::ks,_::xs,k,v,h=>by unfold Fz;rw[yn,yn,Vg ks xs k v<|by simpa using h]
theorem fE{ks:List (List Int)}{xs:List PV}(h:ks.length=xs.length)(k:List Int)(v:PV):(FP ks k).length=(Gm ks xs k v).length:=by
 unfold FP Gm;split
 .rw[Vg ks xs k v h,h]
 .rw[yx,yx,h];rfl
theorem Va(k j:List Int)(v:PV):∀(ks:List<|List Int)(xs:List PV),ks.length=xs.length->k∉ks->Cw (ks ++ [k]) (xs ++ [v]) j=if j=k then some v else Cw ks xs j
 |[],[],_,_=>by
  show(if k=j then some v else Cw [] [] j)=_;by_cases e:j=k
  .rw[yO e,yO e.symm]
  .rw[yN e,yN<|zo e]
 |[],_::_,h,_=>by simp at h
 |_::_,[],h,_=>by simp at h
 |k'::ks,x::xs,h,n=>by
  simp only[yw,not_or]at n;show(if k'=j then some x else Cw (ks ++ [k]) (xs ++ [v]) j)=if j=k then some v else if k'=j then some x else Cw ks xs j
  rw[Va k j v ks xs (by simpa using h) n.2];by_cases e:k'=j
  .subst e;rw[yO rfl,yO rfl,yN λz=>n.1 z.symm]
  .rw[yN e,yN e]
theorem VZ(k j:List Int)(v:PV):∀(ks:List<|List Int)(xs:List PV),ks.length=xs.length->k∈ks->Cw ks (Fz ks xs k v) j=if j=k then some v else Cw ks xs j
 |[],_,_,n=>by cases n
 |_::_,[],h,_=>by simp at h
 |k'::ks,x::xs,h,n=>by
  show(if k'=j then some (if k'=k then v else x)else Cw ks (Fz ks xs k v) j)=if j=k then some v else if k'=j then some x else Cw ks xs j
  by_cases e:k'=j
  .subst e;rw[yO rfl,yO rfl];split<;>rfl
  .rw[yN e,yN e];by_cases hk:k∈ks
   .exact VZ k j v ks xs (by simpa using h) hk
   .have:=by simpa[hk]using n
    subst this;rw[yN<|zo e];have:∀(ks:List<|List Int)(xs:List PV),ks.length=xs.length->k∉ks->Fz ks xs k v=xs:=by
     intro ks
     induction ks with
     |nil=>intro xs h _;cases xs with
      |nil=>rfl
      |cons _ _=>simp at h
     |cons q qs ih=>intro xs h n;cases xs with
      |nil=>simp at h
      |cons y ys=>
       simp only[yw,not_or]at n;unfold Fz;rw[yN<|zo n.1,ih ys (by simpa using h) n.2]
    rw[this ks xs (by simpa using h) hk]
theorem eY{ks:List (List Int)}{xs:List PV}(h:ks.length=xs.length)(k j:List Int)(v:PV):Cw (FP ks k) (Gm ks xs k v) j=if j=k then some v else Cw ks xs j:=by
 unfold FP Gm;by_cases hk:k∈ks
 .rw[yO hk,yO hk];exact VZ k j v ks xs h hk
 .rw[yN hk,yN hk];exact Va k j v ks xs h hk
section
variable{X:Cx}{a b c e tg iter:Expr}{es:List Expr}{fa fb fc f:EF}{g ga:AF}{pos:Pos}{Ai Ac:Hp}
noncomputable def IB:List RV->Option (List Int)
 |[]=>some []
 |.cl (.int i)::r=>(IB r).map (i :: ·)
 |_::_=>none
theorem S4{K:W.Frag}{H G' H':Hp}:∀{rs:List RV}{vs:List V}{k:List Int},IB rs=some k->Cj K H G' H' rs vs->vs=k.map V.int
 |[],_,_,e,r=>by cases e;cases r;rfl
 |.cl (.int i)::rs,_,k,e,r=>by
  unfold IB at e;cases er:IB rs with
  |none=>rw[er]at e;cases e
  |some q=>
   rw[er]at e;cases e;cases r with
   |cons r1 r2=>rw[r1.int,S4 er r2];rfl
 |.cl .A8::_,_,_,e,_=>by cases e
 |.cl (.bl _)::_,_,_,e,_=>by cases e
 |.cl (.str _)::_,_,_,e,_=>by cases e
 |.cl (.tup _)::_,_,_,e,_=>by cases e
 |.cl (.lst _)::_,_,_,e,_=>by cases e
 |.cl (.rd _)::_,_,_,e,_=>by cases e
 |.cl (.Ce _ _)::_,_,_,e,_=>by cases e
 |.bo _::_,_,_,e,_=>by cases e
 |.fr _::_,_,_,e,_=>by cases e
 |.bd _ _::_,_,_,e,_=>by cases e
 |.fd _ _::_,_,_,e,_=>by cases e
 |.tf _ _::_,_,_,e,_=>by cases e
noncomputable def RV.Ce:RV->Option (List (List Int)×List PV)
 |.cl (.Ce ks xs)=>some (ks,xs)
 |.bd ks xs=>some (ks,xs)
 |.fd ks xs=>some (ks,xs)
 |_=>none
theorem Bu.Ce{K:W.Frag}{H G' H':Hp}{r:RV}{v:V}{ks:List (List Int)}{xs:List PV}(sub:Ar G' H')(h:Bu K H G' H' r v)(e:r.Ce=some (ks,xs)):∃a AJ,v=.ref a/\Rd H' a (.dT AJ)/\AJ.map (·.1)=ks.map CZ/\AX K G' xs (AJ.map (·.2)):=by
 cases r with
 |cl p=>
  cases p with
  |Ce OM Tv=>
   cases e;have h':=h;obtain⟨a,AJ,e,q,k,r⟩:=h';exact⟨a,AJ,e,Rd.same sub q,k,r⟩
  |_=>cases e
 |bd OM Tv=>
  cases e;obtain⟨a,AJ,e,g,q,k,r⟩:=h;exact⟨a,AJ,e,.inl q,k,r⟩
 |fd OM Tv=>
  cases e;obtain⟨a,AJ,e,n,g,q,k,r⟩:=h;exact⟨a,AJ,e,.inl q,k,r⟩
 |_=>cases e
set_option tactic.hygienic true
def Gq(f:EF)(g:AF):EF:=λρ=>match f ρ,g ρ with
 |some r,some rs=>(match r.Ce,IB rs with|some d,some k=>if k.length<=1000 then(Cw d.1 d.2 k).map .cl else none|_,_=>none)
 |_,_=>none
theorem pC{x1}{Ji:Pos}(hu:X.A.units+1<cLine)(ho:PX X a f)(h:Cf X es g)(hs:M7<|.Tuple es x1 Ji):PX X (.Subscript a (.Tuple es x1 Ji) pos)<|Gq f g:=PE.imp (YY hu ho (Sk h) hs) (by
 rintro σ H Q ⟨G,ρ,z,R,e,q⟩;unfold Gq at e;split at e
 .rename_i r rs er eg;split at e
  .rename_i d k ed ek;split at e
   .rename_i hz;cases ep:Cw d.1 d.2 k with
    |none=>rw[ep]at e;cases e
    |some p=>
     rw[ep]at e;cases e;refine⟨G,ρ,r,R,er,λv G1 H1 s1 rv=>⟨G1,ρ,rs,R.step s1,eg,λvs G2 H2 s2 S7=>?_⟩⟩;have ev:=S4 ek S7;refine⟨small (by rw[ev,yP];exact hz),λb hb=>?_⟩;have s3:=Av.new s2.sub (.tup vs) hb;obtain⟨a,AJ,rfl,hq,hk,rl⟩:=(rv.step<|s2.trans s3).Ce s3.sub ed;obtain⟨w,h1,h2⟩:=VY hk rl ep;exact⟨a,w,rfl,.inr ⟨AJ,CZ k,b,hq,rfl,by rw[Ci,XS,ev],h1.symm⟩,q w _ _ ((s1.trans s2).trans s3) h2⟩
   .cases e
  .cases e
 .cases e)
noncomputable def Qj:EF:=λ_=>some<|.fd [] []
theorem pE:PX X (.Dict [] [] pos) Qj:=PE.imp nM (by rintro σ H Q ⟨G,ρ,z,R,e,q⟩;cases e;intro p hp;exact q _ _ _ (Av.E7 R.sub _ hp) ⟨p,[],rfl,hp,R.sub.free hp,Ci,rfl,by rfl⟩)
noncomputable def Nj(i:Nat)(f:EF):SF:=λρ=>match f ρ with|some (.fd ks xs)=>some (.nx<|ρ.set i<|some<|.DZ none ks xs)|_=>none
theorem qd(i:Nat){x:Str}{p:Pos}(hN:X.N.Nodup)(he:PX X e f)(hi:X.N[i]? = some x)(hx:Loc X.env.scope x)(hs:swapsWith e (some<|.Name x p) pos.line X.env=pure false)(hf:X.fn x=true\/X.env.scope.names.lookup x=some .local) : CU X Ai Ac (.Assign [.Name x p] e pos)<|Nj i f:=PS.imp (Om hN hi hx he hs hf) (by
 rintro D σ H ⟨G,ρ,o,S,e,k⟩;unfold Nj at e;split at e
 .rename_i ks xs er;cases e;refine⟨G,ρ,_,S.r,er,λv G' H' s rv=>?_⟩;obtain⟨a,AJ,rfl,n,ga,ha,hk,rl⟩:=rv;exact k _ _ _ s.gg<|(S.step s).S9 S.hh S.r.Of n ⟨a,AJ,rfl,ga,ha,hk,rl,λ_ z=>nomatch z⟩
 .cases e)
noncomputable def Ni(i:Nat):SF:=λρ=>match ρ[i]? with|some (some<|.DZ _ ks xs)=>some (.rt<|.fd ks xs)|_=>none
theorem qZ(i:Nat){x:Str}{p:Pos}(hN:X.N[i]? = some x)(hv:DT X.env.scope x)(hd:(x==("__debug__"))=false) (BK:(x==("__classdict__"))=false):CU X Ai Ac (.Return (some<|.Name x p) pos)<|Ni i:=PS.imp (So<|EM hN hv hd BK) (by
 rintro D σ H ⟨G,ρ,o,S,e,k⟩;unfold Ni at e;split at e
 .rename_i ks xs er;cases e;obtain⟨v,ev,a,AJ,rfl,ga,ha,hk,rl,_⟩:=S.r.slot i _ er;exact⟨_,ev,k _ G H S.Mf ⟨a,AJ,rfl,S.new i _ a rfl er ev,ga,ha,hk,rl⟩⟩
 .cases e)
def Hg(i:Nat)(g:AF)(f:EF):SF:=λρ=>match f ρ,ρ[i]?,g ρ with
 |some r,some<|some<|.DZ t ks xs,some rs=>(match r.clean,IB rs with|some p,some k=>if ks.length<1000000/\k.length<=1000 then some (.nx<|ρ.set i<|some<|.DZ t (FP ks k)<|Gm ks xs k p)else none|_,_=>none)
 |_,_,_=>none
theorem qN(i:Nat){x:Str}{p sp Ji:Pos}{x1}(hu:X.A.units+1<cLine)(hk:Cf X es g)(he:PX X e f)(hN:X.N[i]? = some x)(hv:DT X.env.scope x)(hd:(x==("__debug__"))=false) (BK:(x==("__classdict__"))=false) (hs:swapsWith e (some<|.Subscript (.Name x p) (.Tuple es x1 Ji) sp) pos.line X.env=pure false) : CU X Ai Ac (.Assign [.Subscript (.Name x p) (.Tuple es x1 Ji) sp] e pos)<|Hg i g f:=PS.imp (Yn hu (EM hN hv hd BK) (Sk hk) he hs) (by
 rintro D σ H ⟨G,ρ,o,S,e,ok⟩;unfold Hg at e;split at e
 .rename_i r t0 ks xs rs er eo eg;split at e
  .rename_i p k ep ek;split at e
   .rename_i hz;cases e;refine⟨G,ρ,r,S.r,er,λv G1 H1 s1 rv=>?_⟩;have S1:=S.step s1.all;obtain⟨w,ew,b,AJ,rfl,g,hb,Gw,rl,KG⟩:=S1.r.slot i _ eo;refine⟨_,ew,D2 G1 H H1,ρ,_,S1.r,eg,λvs G2 H2 s2 S7=>?_⟩;have ev:=S4 ek S7;refine⟨small (by rw[ev,yP];exact hz.2),λt ht=>?_⟩;have s3:=Av.new s2.sub (.tup vs) ht;have Kl:=s2.trans s3;have hl:=by have:=AAB List.length Gw;simpa using this
    have rp:=Rep.same Kl.gg<|rv.clean s1.sub ep;obtain⟨h1,h2⟩:=fF Gw (AX.same Kl.gg rl) rp;refine⟨b,_,rfl,.inr ⟨AJ,CZ k,t,Kl.hh _ _ hb,rfl,by rw[Ci,XS,ev],ABS (ACi hl)<|ABn hz.1 yJ,rfl⟩,?_⟩;have g3:=Kl.ex b (.d hb) g;exact ok _ _ _ (s1.all.gg.trans Kl.gg)<|(S1.step Kl).chg rfl eo ew g3 ⟨b,_,rfl,g3,Ci,h1,h2,KG⟩
   .cases e
  .cases e
 .cases e)
def qw:V->List V->Hp->VK->Prop:=λx vs H Q=>∃l b xs zs,x=.ref l/\vs=[.ref b]/\H l=some (.lst xs)/\Rd H b (.lst zs)/\xs.length+zs.length<=sizeLine/\Q .A8 (upd H l<|.lst<|xs++zs)
theorem lN:P6 X "list.extend" qw:=by
 intro AE s σ H x vs v us Q I rx rv h;obtain⟨l,b,xs,zs,rfl,rfl,hH,hB,hz,q⟩:=h;cases rx;obtain⟨u,rfl,ru⟩:=rv.one;cases ru;obtain⟨z,its,n,r,hl,e⟩:=I.R9 hH;obtain⟨z2,Ht,n2,r2,e2⟩:=hB.ok I.Ah;have JB:=r2.length;have hsz:its.toArray.size+Ht.toArray.size<=sizeLine:=by rw[yh,yh];omega
 have jG:¬ (!its.toArray.isEmpty&&Builtin.List.listTooLong (its.toArray.size+Ht.toArray.size))=true:=by rw[lZ hsz,Bool.and_false];exact AAJ
 refine call_meets F.slot_list_extend ⟨_,e,rfl⟩ F.entry_list_extend (F.args_list_extend_2 _ _) (AutoSeq1.list_extend_list_list_0 l its.toArray n b Ht.toArray n2 jG (by rw[yh];omega) yH) ⟨e,e2,?_⟩
 refine⟨.A8,_,I.R8 hH e yI (r.append r2) ?_,rfl,q⟩;rw[yx];omega
noncomputable def JK(ps qs:List PV):Option<|List PV:=match qs with|[.lst zs]=>if ps.length+zs.length<=1000 then some (ps++zs)else none|_=>none
theorem qP(i:Nat){x:Str}{p ap Bj:Pos}(ha:Cf X (e::es) ga)(hN:X.N[i]? = some x)(hv:DT X.env.scope x)(hd:(x==("__debug__"))=false) (BK:(x==("__classdict__"))=false) (Gu:attributeBase (.Name x p) "extend" X.env (eval (.Name x p) X.env)=eval (.Name x p) X.env) (Hj:((backTo Bj<|starEach (e::es) X.env).all (λx=>!x.1)&&(backToKw Bj<|keywordEach [] X.env).all (λx=>x.1.isSome)
  && decide ((e::es).length+([]:List Keyword).length+(if([]:List Keyword).isEmpty then 0 else 1)<30))=true)
 (Gy:(ap.endLine==Bj.line)=true) (hs:starEach (e::es) X.env=(false,eval e X.env)::starEach es X.env) (Lv:(backTo Bj<|starEach es X.env).any (·.1)=false)
 (G0:swapsWith (.Call (.Attribute (.Name x p) "extend" ap) (e::es) [] Bj) none pos.line X.env=pure false) :
 CU X Ai Ac (.Expr (.Call (.Attribute (.Name x p) "extend" ap) (e::es) [] Bj) pos) (B0 i JK ga):=
 PS.imp (Sn (YV ABa PySem.F.slot_list_extend PySem.F.type_list_extend lN (EM hN hv hd BK) ha Gu Hj Gy hs Lv) G0) (by
 rintro D σ H ⟨G,ρ,o,S,e,ok⟩;unfold B0 at e;split at e
 .rename_i ps rs er ea;split at e
  .rename_i qs ec;split at e
   .rename_i D8 ek;cases e;obtain⟨v,ev,a,vs,rfl,g,ha,rl⟩:=S.r.slot i _ er;refine⟨_,ev,.inl ⟨rfl,vs,.inl<|.inl ha⟩,G,ρ,rs,S.r,ea,λus G1 H1 s1 rv=>?_⟩;have S1:=S.step s1.all;have rq:=IQ s1.sub rv ec;have Yz:=AX.same s1.all.gg rl;unfold JK at ek;split at ek
    .split at ek
     .cases ek;obtain⟨w,r,rfl,rK,rn⟩:=rq;subst rn;obtain⟨b,ws,rfl,hq,rz⟩:=rK;have l1:=Yz.len;have l2:=rz.len;refine⟨a,b,vs,ws,rfl,rfl,s1.hh _ _ ha,Rd.same s1.all.sub hq,small yH,?_⟩;exact ok _ _ _ s1.all.gg<|S1.change er ev (s1.all.ex a (.l ha) g)<|AX.of<|JR Yz.paired rz.paired
     .cases ek
    .cases ek
   .cases e
  .cases e
 .cases e)
end
section
variable{Ai Ac:Hp}
end
section
variable{X:Cx}{pos:Pos}{Ai Ac:Hp}{f:Addr}{fd:FuncData}{ps:List Str}{k:Nat}{rec:Rec}
end
section
variable{X:Cx}{a:Expr}{es:List Expr}{f:EF}{g:AF}{pos:Pos}
end
theorem uo{k:Nat}{A:Around}(r:CV k A):A.units+1<cLine:=by have:=r.un;omega
open Classical in
section
variable{X:Cx}{e:Expr}{es:List Expr}{g:AF}{pos:Pos}
end
def T9(f:EF):Prop:=∀ρ r,f ρ=some r->r.flat=true
def Eo(g:SF):Prop:=∀ρ r,g ρ=some (.rt r)->r.flat=true
theorem NU{p:PV}(h:p.flat=true):T9<|fC p:=λ_ _ e=>by cases e;exact h
set_option tactic.hygienic true
theorem NV{f:EF}(h:T9 f):Eo<|Aj f:=λρ r e=>by
 unfold Aj at e;split at e
 .rename_i p ef;cases e;exact h ρ _ ef
 .rename_i p ef;cases e;exact h ρ _ ef
 .cases e
set_option tactic.hygienic false
theorem Qn:Eo Ax:=λρ r e=>by cases e
theorem Qo{g h:SF}(a:Eo g)(b:Eo h):Eo<|AO g h:=λρ r e=>by
 unfold AO at e;split at e
 .exact b _ _ e
 .exact a _ _ e
theorem Ql{t:BF}{g h:SF}(a:Eo g)(b:Eo h):Eo<|Aq t g h:=λρ r e=>by
 unfold Aq at e;split at e
 .exact a _ _ e
 .exact b _ _ e
 .cases e
theorem gP{N n:Nat}{g:SF}(h:Eo g)(ps:List PV)(r:RV)(e:denote N n g ps=some r):r.flat=true:=by
 unfold denote at e;split at e
 .cases eg:g (BG N ps)with
  |none=>rw[eg]at e;cases e
  |some o=>
   rw[eg]at e;cases o with
   |rt r'=>cases e;exact h _ _ eg
   |nx ρ=>cases e;rfl
   |bk ρ=>cases e
   |ct ρ=>cases e
 .cases e
section
variable{X:Cx}{Ai Ac:Hp}
end
noncomputable def KQ(ps:List Str)(q:List Pos):Arguments:=⟨[],(ps.zip q).map λx=>⟨x.1,none,x.2⟩,none,[],[],none,[]⟩
theorem aB{α β:Type}:∀(a:List α)(b:List β),b.length=a.length->(a.zip b).map (·.1)=a
 |[],_,_=>rfl
 |x::a,y::b,h=>by simp only[AB2,ye];rw[aB a b<|by simpa using h]
theorem WD{α β:Type}{f g:α->Option β}:∀l:List α,(∀x∈l,f x=g x)->l.filterMap f=l.filterMap g
 |[],_=>rfl
 |x::l,h=>by rw[AAu,AAu,h x<|.head _,WD l λy hy=>h y<|.tail _ hy]
theorem Xh{α:Type}:∀(ps:List Str)(us:List α),us.length=ps.length->ps.Nodup->ps.filterMap (λn=>((ps.zip us).lookup n).map λx=>(n,x))=ps.zip us
 |[],_,_,_=>rfl
 |p::ps,u::us,h,nd=>by
  rw[AAV]at nd;have ih:=Xh ps us (by simpa using h) nd.2;rw[AB2,ACD (b:=(p,u))<|by simp[AAL]]
  congr 1
  refine(WD _ λn hn=>?_).trans ih;rw[AAL];split
  .rename_i e;exact absurd (eq_of_beq e ▸ hn) nd.1
  .rfl
theorem Xg{α:Type}:∀(ps:List Str)(us:List α),us.length=ps.length->∀n∈ps,((ps.zip us).lookup n).isNone=false
 |p::ps,u::us,h,n,hn=>by
  rw[AB2,AAL];split
  .rfl
  .rename_i e;refine Xg ps us (by simpa using h) n ?_;rcases yw.1 hn with rfl|hn
   .simp at e
   .exact hn
theorem b7(nm:Str)(ps:List Str)(q:List Pos)(b:List Stmt)(sc:Scope)(kV doc pm:Value)(an:Option Addr)(BE ct:Value)(us:List Value)(hq:q.length=ps.length)(hu:us.length=ps.length)(nd:ps.Nodup):bindArgs (W.fnOf nm nm (KQ ps q) b sc .none kV doc pm an BE ct) ⟨us,[]⟩=pure (ps.zip us):=by
 have h1:((KQ ps q).args.map λx=>x.arg)=ps:=by unfold KQ;simp only[zM];exact(AAv λ_ _=>rfl).trans (aB ps q hq)
 have hs:seqItems? Value.none=pure none:=rfl;have hf:ps.filter (λn=>((ps.zip us).lookup n).isNone)=[]:=ACS.2 λn hn=>by rw[Xg ps us hu n hn];simp
 unfold bindArgs W.fnOf;dsimp only;rw[h1];unfold KQ;simp[hs,hf,hu,Xh ps us hu nd]
structure FS(N P:List Str)(st:Stmt):Prop where
 sc:K4 N P<|CM st
 qs:∃q:List Pos,q.length=P.length/\Gk st=KQ P q
section
variable{N ps:List Str}{st:Stmt}{f:Addr}{fd:FuncData}{x:Str}{k:Nat}{g:SF}{y:YF}{P:Program}{w:World}{K:W.Frag}{mg:Str->Option Value}{base h:Heap}
theorem FS.nd(S:FS N ps st):N.Nodup:=S.sc.nd
theorem MZ(h:(CM st).kind=.function/\(CM st).isCoroutine=false/\(CM st).isGenerator=false/\N.Nodup/\N.take ps.length=ps/\(∀x∈ps,(CM st).names.lookup x=some .local\/(CM st).names.lookup x=some .cell)/\∀y∈(CM st).names,y.2≠.free)(q:∃q:List Pos,q.length=ps.length/\Gk st=KQ ps q):FS N ps st:=
 ⟨⟨h.1,h.2.1,h.2.2.1,h.2.2.2.1,h.2.2.2.2.1,h.2.2.2.2.2.1,h.2.2.2.2.2.2⟩,q⟩
theorem FS.bs(S:FS N ps st)(kV doc pm:Value)(an:Option Addr)(BE ct:Value)(us:List Value)(hl:us.length=ps.length) : bindArgs (W.fnOf x x (Gk st) (FO st) (CM st) .none kV doc pm an BE ct) ⟨us,[]⟩=pure (ps.zip us):=by obtain⟨q,h1,h2⟩:=S.qs;rw[h2];exact b7 x ps q _ _ kV doc pm an BE ct us h1 hl<|S.sc.pre ▸ S.nd.sublist (AB5 _ _)
def FM(K:W.Frag)(mg:Str->Option Value)(x:Str)(st:Stmt):Prop:=∃f fd,FH K x x st f fd/\mg x=some (.ref f)
def dR(K:W.Frag)(x:Str)(st:Stmt):Prop:=∃(f:Addr)(oc:Value)(od:Option Addr)(kV doc pm:Value)(an:Option Addr)(BE ct:Value)(sl:Array<|Option Value),W.nsIn K mainGlobals x=some (some<|.ref f)/\K.lookup f=some ⟨oc,od,.func<|W.fnOf x x (Gk st) (FO st) (CM st) .none kV doc pm an BE ct,sl⟩/\W.codeIn K BE x=true/\W.keepIn K (.ref f)=true
theorem dmk{oc:Value}{od:Option Addr}{kV doc pm:Value}{an:Option Addr}{BE ct:Value}{sl:Array (Option Value)}(a:W.nsIn K mainGlobals x=some (some<|.ref f))(l:K.lookup f=some ⟨oc,od,.func<|W.fnOf x x (Gk st) (FO st) (CM st) .none kV doc pm an BE ct,sl⟩)(c:W.codeIn K BE x=true)(k:W.keepIn K (.ref f)=true):dR K x st:=⟨_,_,_,_,_,_,_,_,_,_,a,l,c,k⟩
theorem NX(X:K.In h)(G:h.Ns mainGlobals mg)(d:dR K x st):FM K mg x st:=by obtain⟨f,oc,od,kV,doc,pm,an,BE,ct,sl,a,l,c,k⟩:=d;exact⟨f,_,gf l c k,W.mg_of X G a⟩
def bR(K:W.Frag):List Str->Prop
 |[]=>True
 |x::l=>W.nsIn K mainGlobals x=some none/\bR K l
def bM(mg:Str->Option Value):List Str->Prop
 |[]=>True
 |x::l=>mg x=none/\bM mg l
theorem UZ(X:K.In h)(G:h.Ns mainGlobals mg):∀{l:List Str},bR K l->bM mg l
 |[],_=>trivial
 |_::_,z=>⟨W.mg_none_of X G z.1,UZ X G z.2⟩
theorem FH.bt(F:FH K x x st f fd)(S:FS N ps st)(s:Shared)(us:List Value)(hl:us.length=ps.length):BindsTo s fd ⟨us,[]⟩<|ps.zip us:=by obtain⟨oc,od,kV,doc,pm,an,BE,ct,HC,rfl,lk,BK⟩:=F.ex;exact .of_eq<|S.bs _ _ _ _ _ _ us hl
theorem gL(F:FH K x x st f fd)(S:FS N ps st) (hb:∀{BE:Value}{A:Around}{outer:List Env}{s:Shared}{H:Hp}{E:XK}{Ai Ac:Hp},let B:=A.deeper<|envOfC x (CM st) s.heap.objs.size f BE;CV k B->B.units+64<cLine->B.units+1<cLine->B.units+66<cLine->true=true->EY (Gj EA P w K mg base N x (CM st) f BE A outer s H E).JQ Ai Ac (FO st) g) : C9 P w K mg base EA (k+1) f fd ps<|Km K ps.length<|denote N.length ps.length g:=gT F S.sc λ_ _ _ _ _ _ _ _ hr=>hb hr hr.units (uo hr) (uq hr) rfl
theorem gG(F:FM K mg x st)(S:FS N ps st) (hb:∀{f:Addr}{BE:Value}{A:Around}{outer:List Env}{s:Shared}{H:Hp}{E:XK}{Ai Ac:Hp},let B:=A.deeper<|envOfC x (CM st) s.heap.objs.size f BE;CV k B->B.units+64<cLine->B.units+1<cLine->B.units+66<cLine->true=true->EY (Gj EA P w K mg base N x (CM st) f BE A outer s H E).JQ Ai Ac (FO st) g) : BH P w K mg base x (k+1) ps.length<|denote N.length ps.length g:=by obtain⟨f,fd,F,hm⟩:=F;exact⟨f,fd,ps,gL F S hb,hm,F.kp,F.binds S.bs,rfl⟩
end
section
variable{X:Cx}{a b c d:Expr}{p q r s:EF}
theorem m9(ha:PX X a p)(h1:starEach [a] X.env=(false,eval a X.env)::starEach [] X.env):Cf X [a]<|AD p AH:=MX ha Sv h1
theorem YM(ha:PX X a p)(hb:PX X b q)(h1:starEach [a,b] X.env=(false,eval a X.env)::starEach [b] X.env:=by rfl)(h2:starEach [b] X.env=(false,eval b X.env)::starEach [] X.env:=by rfl):Cf X [a,b]<|AD p<|AD q AH:=MX ha (MX hb Sv h2) h1
theorem nA(ha:PX X a p)(hb:PX X b q)(hc:PX X c r)(h1:starEach [a,b,c] X.env=(false,eval a X.env)::starEach [b,c] X.env)(h2:starEach [b,c] X.env=(false,eval b X.env)::starEach [c] X.env)(h3:starEach [c] X.env=(false,eval c X.env)::starEach [] X.env):Cf X [a,b,c]<|AD p<|AD q<|AD r AH:=MX ha (YM hb hc h2 h3) h1
theorem R5:∀ρ rs,AD p AH ρ=some rs->rs.length=1:=NR f7
theorem ln2:∀ρ rs,AD p (AD q AH) ρ=some rs->rs.length=2:=NR R5
theorem R6:∀ρ rs,AD p (AD q<|AD r AH) ρ=some rs->rs.length=3:=NR ln2
theorem Xi:∀ρ rs,AD p (AD q<|AD r<|AD s AH) ρ=some rs->rs.length=4:=NR R6
end
end L2.PL
namespace TL
open PySem PySem.Spec PyProof.Rows PySem.SeqAt
open PySem.AutoSeq1 (wpAny_loadPart')
section
variable{prog:Program}{w:World}{A:Around}{s:Shared}{Q E:Value->Shared->Prop}{a b:Int}{t u:Tok}
theorem Yw(h:Q (.bool<|decide (a<b)) s):wpAny (model prog w) A (richCompare .Lt (.int a t)<|.int b u) Q E s:=lt_int h
end
theorem uc(l b:Addr)(p q u v:Int)(tp tq tu tv:Tok)(n n2:Nat)(dd dz:Option Addr)(sl rg:Array<|Option Value) : Meets (Builtin.«tuple.__lt__» ⟨[.ref l,.ref b],[]⟩)
  (λ_ R s=>s.heap.get? l=some {cls:=.type "tuple",dict:=dd,data:=.seq #[.int p tp,.int q tq] n,slots:=sl}/\s.heap.get? b=some {cls:=.type "tuple",dict:=dz,data:=.seq #[.int u tu,.int v tv] n2,slots:=rg}/\
   R (.ok<|.ret<|.bool<|decide (p<u\/(p=u/\q<v))) s):=
 .of_wp λprog w A R s h=>by
  obtain⟨hl,hb,h⟩:=h;have f2:=AutoSeq1.sub_tuple_tuple
  wp_walk using wpAny_loadPart' hl,wpAny_loadPart' hb
  refine EqAt.int_int p tp u tu prog w _ _ ?_;cases c:(p==u)with
  |false=>
   have c':=by simpa using c
   wp_walk using Yw
   exact⟨_,rfl,by rw[show decide (p<u)=decide (p<u\/p=u/\q<v)by simp[c']];exact h⟩
  |true=>
   have c':=by simpa using c
   wp_walk
   refine EqAt.int_int q tq v tv prog w _ _ ?_;cases e:(q==v)with
   |false=>
    wp_walk using Yw
    exact⟨_,rfl,by rw[show decide (q<v)=decide (p<u\/p=u/\q<v)by simp[c']];exact h⟩
   |true=>
    have e':=by simpa using e
    wp_walk
    exact⟨_,rfl,by simpa[Builtin.Tuple.tupleCompareSizes,c',e']using h⟩
end TL
namespace L2.PL
open PySem PySem.Spec PyProof.Rows
section
variable{X:Cx}{a:Expr}{fa:EF}{pos:Pos}
theorem pO{p p2:Pos}(hm:X.mg "isinstance" = none)(Gz:X.mg "list" = none)(ha:PX X a fa)(hg:Gl X "isinstance")(Gv:Gl X "list") (he:starEach [a,.Name "list" p2] X.env=(false,eval a X.env)::starEach [.Name "list" p2] X.env) (F9:starEach [.Name "list" p2] X.env=(false,eval (.Name "list" p2) X.env)::starEach [] X.env) (BY:(backTo pos<|starEach [.Name "list" p2] X.env).any (·.1)=false) : PX X (.Call (.Name "isinstance" p) [a,.Name "list" p2] [] pos)<|F2 "list" fa:=
 Su (λz=>absurd z yJ) (λz=>absurd z yJ) (λz=>absurd z yJ) (λ_=>rfl) hm Gz Ub ha hg Gv yJ yJ he F9 BY
end
def Yt(c:Int->Int->Int->Int->Bool)(K:W.Frag):R2:=λx y H Q=>∃p q u v a b,x=.ref a/\y=.ref b/\BL K H a [.int p,.int q]/\BL K H b [.int u,.int v]/\Q (.bl<|c p q u v) H
noncomputable def Er(p q u v:Int):Bool:=decide (p<u\/(p=u/\q<v))
noncomputable def KI(c:Int->Int->Int->Int->Bool):RV->RV->Option RV
 |.cl (.tup [.int p,.int q]),.cl (.tup [.int u,.int v])=>some<|.cl<|.bl<|c p q u v
 |_,_=>none
section
variable{X:Cx}
theorem Sh{p q:Int}{us:List Value}(h:Ap [.int p,.int q] us):∃t t',us=[.int p t,.int q t']:=by
 cases h with
 |cons a h=>cases h with
  |cons b h=>cases h;obtain⟨t,rfl⟩:=a;obtain⟨t',rfl⟩:=b;exact⟨t,t',rfl⟩
theorem mM(hu:X.A.units+1<cLine):BW X (compareOp .Lt)<|Yt Er X.K:=by intro AE s σ H x y v u Q I rx ry ⟨p,q,u',v',a,b,e1,e2,ha,hb,k⟩;subst e1;subst e2;cases (show v=Value.ref a from rx);cases (show u=Value.ref b from ry);obtain⟨i1,r1,⟨⟨c1,d1,t1,s1⟩,h1,k1,n1,z1⟩,_⟩:=I.tuple ha;obtain⟨i2,r2,⟨⟨c2,d2,t2,s2⟩,h2,k2,n2,z2⟩,_⟩:=I.tuple hb;obtain⟨_,_,rfl⟩:=Sh r1;obtain⟨_,_,rfl⟩:=Sh r2;simp only at k1 z1 k2 z2;subst k1 z1 k2 z2;exact richCompare_meets_room (op:=.Lt) ⟨_,h1,rfl⟩ ⟨_,h2,rfl⟩ F.slot_tuple_lt F.entry_tuple_lt (F.args_tuple_lt_2 _ _) (TL.uc _ _ _ _ _ _ _ _ _ _ _ _ _ _ _ _) ⟨h1,h2,show Value.bool _≠Value.notImplemented/\_ from⟨(λx=>nomatch x),⟨.bl _,H,I,rfl,k⟩⟩⟩ yH
theorem Si{K:W.Frag}{G:Hp}{p q:Int}{v:V}(h:Rep K G (.tup [.int p,.int q]) v):∃a,v=.ref a/\BL K G a [.int p,.int q]:=by obtain⟨a,vs,rfl,hq,rl⟩:=h;refine⟨a,rfl,?_⟩;have:=JH (ns:=[p,q]) rfl rl;rw[this]at hq;exact hq
set_option tactic.hygienic true
theorem mC{K:W.Frag}{c:Int->Int->Int->Int->Bool}:DI K (KI c)<|Yt c K:=by
 intro x y z H0 G H vx vy Q sub sh e rx ry q;unfold KI at e;split at e
 .rename_i p q' u v;cases e;obtain⟨a,rfl,ha⟩:=Si<|rx.any sub;obtain⟨b,rfl,hb⟩:=Si<|ry.any sub;exact⟨p,q',u,v,a,b,rfl,rfl,ha,hb,q _ G H (Av.refl sub)<|by rfl⟩
 .cases e
theorem dJ(hu:X.A.units+1<cLine):Cc X .Lt<|KI Er:=⟨_,mM hu,mC⟩
end
theorem Qm{gt:GF}{g:SF}(h:Eo g):∀(xs:List PV)(ρ:AY)(r:RV),DX gt g xs ρ=some (.rt r)->r.flat=true
 |[],_,_,e=>by cases e
 |x::xs,ρ,r,e=>by
  unfold DX at e;split at e
  .cases e
  .split at e
   .exact Qm h xs _ r e
   .exact Qm h xs _ r e
   .cases e
   .rename_i r' er;cases e;exact h _ _ er
   .cases e
theorem gQ{its:IF}{gt:GF}{g:SF}(h:Eo g):Eo<|Bm its gt g:=λρ r e=>by
 unfold Bm at e;split at e
 .exact Qm h _ _ _ e
 .cases e
set_option tactic.hygienic true
noncomputable def GS(t:BF)(g:SF):Nat->AY->Option Out
 |0,_=>none
 |n+1,ρ=>match t ρ with
  |some true=>(match g ρ with
   |some (.nx BV)=>GS t g n BV
   |some (.ct BV)=>GS t g n BV
   |some (.bk BV)=>some<|.nx BV
   |some (.rt r)=>some<|.rt r
   |none=>none)
  |some false=>some<|.nx ρ
  |none=>none
def Lf(t:BF)(g:SF):SF:=λρ=>GS t g 1000 ρ
section
variable{X:Cx}{Ai Ac:Hp}{c:Expr}{body:List Stmt}{t:BF}{g:SF}{pos:Pos}
theorem qh(hp:PassesOwn (model X.prog X.w) X.A X.env X.xe)(hc:DB X c t)(hb:EY X Ai Ac body g):CU X Ai Ac (.While c body [] pos)<|Lf t g:=PS.imp (oS hp hc hb) (by
 rintro D σ H ⟨G,ρ,o,S,e,ok⟩;refine⟨λm Ag H'=>∃G' ρ',SR X.K Ai Ac G' H' ρ' Ag/\Ar G G'/\GS t g m ρ'=some o,⟨1000,G,ρ,S,Ar.refl _,e⟩,?_⟩;rintro m Ag H' ⟨G',ρ',S',sg,hl⟩;cases m with
 |zero=>cases hl
 |succ m=>
  unfold GS at hl;split at hl
  .rename_i et;refine⟨G',ρ',true,S'.r,et,λG1 H1 s1=>?_⟩;refine⟨λFF Dd=>∃Fq Mr,SR X.K Ai Ac Fq Dd Mr FF/\Ar G Fq/\GS t g m Mr=some o,λFF Dd hN=>⟨m,yH,hN⟩,?_⟩;split at hl
   .rename_i BV eb;exact⟨G1,ρ',_,S'.step s1,eb,λDH G2 H2 s2 S2=>⟨G2,BV,S2,(sg.trans s1.gg).trans s2,hl⟩⟩
   .rename_i BV eb;exact⟨G1,ρ',_,S'.step s1,eb,λDH G2 H2 s2 S2=>⟨G2,BV,S2,(sg.trans s1.gg).trans s2,hl⟩⟩
   .rename_i BV eb;cases hl;exact⟨G1,ρ',_,S'.step s1,eb,λDH G2 H2 s2 S2=>ok DH G2 H2 ((sg.trans s1.gg).trans s2) S2⟩
   .rename_i r eb;cases hl;exact⟨G1,ρ',_,S'.step s1,eb,K9.mono (sg.trans s1.gg) ok⟩
   .cases hl
  .rename_i et;refine⟨G',ρ',false,S'.r,et,λG1 H1 s1=>?_⟩;refine j7 ?_;cases hl;exact ok Ag G1 H1 (sg.trans s1.gg)<|S'.step s1
  .cases hl)
noncomputable def Io(i:Nat)(gt:GF):SF:=λρ=>match ρ[i]? with
 |some (some<|.own ps)=>(match ps[ps.length-1]? with
  |some p=>(match gt p (ρ.set i<|some<|.own ps.dropLast)with|some ρ'=>some (.nx ρ')|none=>none)
  |none=>none)
 |_=>none
theorem qX{tg:Expr}{gt:GF}{x:Str}{p ap Bj:Pos}(i:Nat)(hg:GZ X tg gt)(hN:X.N[i]? = some x)(hv:DT X.env.scope x)(hd:(x==("__debug__"))=false) (BK:(x==("__classdict__"))=false) (Gu:attributeBase (.Name x p) "pop" X.env (eval (.Name x p) X.env)=eval (.Name x p) X.env) (Gy:(ap.endLine==Bj.line)=true) (hs:swapsWithSole [tg] (.Call (.Attribute (.Name x p) "pop" ap) [] [] Bj) pos.line X.env=pure false) (hw:swappedStores [tg] (.Call (.Attribute (.Name x p) "pop" ap) [] [] Bj) X.env=pure none) (h1:(assignEach [tg] X.env).map (·.2)=[assign tg X.env]) : CU X Ai Ac (.Assign [tg] (.Call (.Attribute (.Name x p) "pop" ap) [] [] Bj) pos)<|Io i gt:=
 PS.imp (Ym (nG ABa PySem.F.slot_list_pop PySem.F.type_list_pop lO (EM hN hv hd BK) Gu Gy) hg hs hw h1) (by
  rintro D σ H ⟨G,ρ,o,S,e,k⟩;unfold Io at e;split at e
  .rename_i ps er;split at e
   .rename_i q ep;split at e
    .rename_i ρ' eg;cases e;obtain⟨v,ev,a,vs,rfl,g,ha,rl⟩:=S.r.slot i _ er;obtain⟨y,ey,ry⟩:=JS rl.paired ep;rw[rl.len]at ey;have Cq:AX X.K G ps.dropLast vs.dropLast:=by rw[ACc,ACc,rl.len];exact AX.of<|Sg _ rl.paired
     have S1:=S.change er ev g Cq;exact⟨_,ev,.inl ⟨rfl,vs,.inl<|.inl ha⟩,a,vs,y,rfl,rfl,ha,ey,G,_,q,ρ',S1.r,ry,eg,λAg R' kk=>k _ _ _ (Ar.refl _)<|S1.turn R' kk⟩
    .cases e
   .cases e
  .cases e)
end
end L2.PL
set_option maxRecDepth 100000
namespace Ck
open PySem PySem.W PyProof.Rows
noncomputable def run(lt:Nat->Nat->Bool){α:Type}:KasT α->α
 |.ret a=>a
 |.ask i j k=>run lt<|k<|lt i j
def Ok(lt:Nat->Nat->Bool)(n:Nat){α:Type}(P:α->Prop):KasT α->Prop
 |.ret a=>P a
 |.ask i j k=>i<n/\j<n/\Ok lt n P (k<|lt i j)
section
variable{lt:Nat->Nat->Bool}{n:Nat}
theorem Ok.bind{α β:Type}{P:α->Prop}{R:β->Prop}{f:α->KasT β}(hf:∀a,P a->Ok lt n R (f a)):∀t:KasT α,Ok lt n P t->Ok lt n R (t.bind f)
 |.ret a,h=>hf a h
 |.ask i j k,h=>⟨h.1,h.2.1,Ok.bind hf (k<|lt i j) h.2.2⟩
theorem Ok.run{α:Type}{P:α->Prop}:∀t:KasT α,Ok lt n P t->P (Ck.run lt t)
 |.ret _,h=>h
 |.ask i j k,h=>Ok.run (k<|lt i j) h.2.2
theorem Ok.mono{α:Type}{P R:α->Prop}(f:∀a,P a->R a):∀t:KasT α,Ok lt n P t->Ok lt n R t
 |.ret _,h=>f _ h
 |.ask i j k,h=>⟨h.1,h.2.1,Ok.mono f (k<|lt i j) h.2.2⟩
theorem Ok.wp{α:Type}{P:α->Prop}{cmp:Nat->Nat->(Bool->Shared->Prop)->Shared->Prop}{Q:α->Shared->Prop}{s:Shared}(hc:∀i j C,i<n->j<n->C (lt i j) s->cmp i j C s):∀t:KasT α,Ok lt n P t->Q (Ck.run lt t) s->t.kasWp cmp Q s
 |.ret _,_,q=>q
 |.ask i j k,h,q=>hc i j _ h.1 h.2.1<|Ok.wp hc (k<|lt i j) h.2.2 q
noncomputable abbrev BS(p:Array Nat)(i:Nat):Nat:=p.getD i 0
def Pm(n:Nat)(p:Array Nat):Prop:=p.Perm (List.range n).toArray
theorem UQ{p q:Array Nat}{i j:Nat}(h:p[i]? = q[j]?):BS p i=BS q j:=by unfold BS;rw[AB3,AB3,h]
theorem Pm.size{p:Array Nat}(h:Pm n p):p.size=n:=by rw[Array.Perm.size_eq h];simp
theorem Pm.bd{p:Array Nat}(h:Pm n p){i:Nat}(hi:i<n):BS p i<n:=by
 have hs:=h.size;have:BS p i=p[i]:=by simp[BS,Array.getD,hs,hi]
 rw[this];have m:p[i]∈p.toList:=yI
 exact yS.mp<|(ABJ.mp h).mem_iff.mp m
theorem Pm.ne{p:Array Nat}(h:Pm n p){i j:Nat}(hi:i<n)(hj:j<n)(e:i≠j):BS p i≠BS p j:=by
 have hs:=h.size;have nd:=(ABJ.mp h).nodup_iff.mpr ABk;have a:BS p i=p.toList[i]'(by simpa[hs]using hi):=by simp[BS,Array.getD,hs,hi]
 have b:BS p j=p.toList[j]'(by simpa[hs]using hj):=by simp[BS,Array.getD,hs,hj]
 rw[a,b];exact λk=>e<|(ABj nd).mp k
theorem Pm.rev{p:Array Nat}(h:Pm n p)(i j:Nat):Pm n<|kas_rev p i j:=Array.Perm.trans (mirror_perm ..) h
def Up(lt:Nat->Nat->Bool)(p:Array Nat)(k:Nat):Prop:=∀i j,i<j->j<k->lt (BS p i) (BS p j)=true
def Dn(lt:Nat->Nat->Bool)(p:Array Nat)(k:Nat):Prop:=∀i j,i<j->j<k->lt (BS p j) (BS p i)=true
structure QC(lt:Nat->Nat->Bool)(n:Nat):Prop where
 tr:∀i j k,lt i j=true->lt j k=true->lt i k=true
 to:∀i j,i<n->j<n->i≠j->lt i j=false->lt j i=true
variable(T:QC lt n)
include T
theorem QC.at{p:Array Nat}(hp:Pm n p){i j:Nat}(hi:i<n)(hj:j<n)(e:i≠j)(h:lt (BS p i) (BS p j)=false):lt (BS p j) (BS p i)=true:=T.to _ _ (hp.bd hi) (hp.bd hj) (hp.ne hi hj e) h
theorem Up.step{p:Array Nat}{k:Nat}(h:Up lt p k)(h0:lt (BS p<|k-1) (BS p k)=true):Up lt p<|k+1:=λi j Bi hj=>by
 by_cases c:j<k
 .exact h i j Bi c
 .have e:j=k:=U
  subst e;by_cases d:i=j-1
  .rw[d];exact h0
  .exact T.tr _ _ _ (h i (j-1) U U) h0
theorem Dn.step{p:Array Nat}{k:Nat}(h:Dn lt p k)(h0:lt (BS p k) (BS p<|k-1)=true):Dn lt p<|k+1:=λi j Bi hj=>by
 by_cases c:j<k
 .exact h i j Bi c
 .have e:j=k:=U
  subst e;by_cases d:i=j-1
  .rw[d];exact h0
  .exact T.tr _ _ _ h0<|h i (j-1) U U
theorem SQ{p:Array Nat}(hp:Pm n p):∀f k,0<k->k+f<=n->Up lt p k->Ok lt n (λm=>k<=m/\m<=k+f/\Up lt p m/\(m<k+f->lt (BS p m) (BS p<|m-1)=true)) (kas_asc p f k)
 |0,k,_,_,h=>⟨yf _,yf _,h,λc=>absurd c (AAy _)⟩
 |f+1,k,h0,hk,h=>by
  refine⟨hp.bd U,hp.bd U,?_⟩;cases c:lt (p.getD k 0)<|p.getD (k-1) 0
  .refine Ok.mono ((by rintro m ⟨a,b,u,d⟩;exact⟨U,U,u,λe=>d U⟩)) _<|SQ hp f (k+1) U U<|h.step T<|T.at hp U U U c
  .exact⟨yf _,U,h,λ_=>c⟩
theorem YA{p:Array Nat}(hp:Pm n p):∀f k,0<k->k+f<=n->Dn lt p k->Ok lt n (λr=>r.1=p/\r.2.2=0/\k<=r.2.1/\r.2.1<=k+f/\Dn lt p r.2.1) (kas_desc f p k 0)
 |0,k,_,_,h=>⟨rfl,rfl,yf _,yf _,h⟩
 |f+1,k,h0,hk,h=>by
  refine⟨hp.bd U,hp.bd U,?_⟩;cases c:lt (p.getD k 0)<|p.getD (k-1) 0
  .refine⟨hp.bd U,hp.bd U,?_⟩;rw[show lt (p.getD (k-1) 0) (p.getD k 0)=true from T.at hp U U U c];exact⟨rfl,rfl,yf _,Nat.le_add_right _ _,h⟩
  .exact Ok.mono ((by rintro m ⟨a,b,u,d,e⟩;exact⟨a,b,U,U,e⟩)) _<|YA hp f (k+1) U U<|h.step T c
theorem l4{p:Array Nat}(hp:Pm n p){k:Nat}(h0:0<k)(hk:k<=n)(h:Dn lt p k):Ok lt n (λr=>Pm n r.2/\1<=r.1/\r.1<=n/\Up lt r.2 r.1)<|kas_tail3 k n p:=by
 have hr:=hp.rev 0 k;refine Ok.bind (λm (⟨a,b,u,_⟩)=>⟨hr,U,U,u⟩) _<|SQ T hr (n-k) k h0 U λi j Bi hj=>?_;have e:∀i,i<k->BS (kas_rev p 0 k) i=BS p (k-1-i):=λi hi=>UQ (by unfold kas_rev;rw[getElem?_mirror_all (by rw[hp.size];exact hk),yO ⟨AAR _,hi⟩,ABC])
 rw[e i U,e j hj];exact h _ _ U U
theorem lz(h2:2<=n){p:Array Nat}(hp:Pm n p):Ok lt n (λr=>Pm n r.2/\1<=r.1/\r.1<=n/\Up lt r.2 r.1)<|kas_count n p:=by
 refine Ok.bind (λk (⟨a,b,u,d⟩)=>?_) _<|SQ T hp (n-1) 1 Nat.zero_lt_one U λi j _ _=>U;split
 .exact⟨hp,a,U,u⟩
 .split
  .refine⟨hp.bd U,hp.bd U,?_⟩;rw[show lt (p.getD 0 0) (p.getD (k-1) 0)=true from u 0 (k-1) U U];exact⟨hp,a,U,u⟩
  .have e:k=1:=U
   subst e;refine Ok.bind (λr hr=>?_) _<|YA T hp (n-2) 2 U U λi j Bi hj=>?_
   .obtain⟨p',m,q⟩:=r;obtain⟨rfl,rfl,a,b,c⟩:=hr;dsimp only at a b c ⊢;exact l4 T hp U U c
   .have:=d U;rw[show i=0 by lia,show j=1 by lia];exact this
theorem SS{p:Array Nat}(hp:Pm n p){k:Nat}(hk:k<n):∀f l r,l<=r->r<=k->r-l<=f->(∀i,i<l->lt (BS p i) (BS p k)=true)->(∀i,r<=i->i<k->lt (BS p k) (BS p i)=true)->Up lt p k->Ok lt n (λl=>l<=k/\(∀i,i<l->lt (BS p i) (BS p k)=true)/\∀i,l<=i->i<k->lt (BS p k) (BS p i)=true) (kas_place p k f l r)
 |0,l,r,h1,h2,h3,a,b,_=>⟨U,a,λi hi=>b i U⟩
 |f+1,l,r,h1,h2,h3,a,b,u=>by
  unfold kas_place;split
  .exact⟨U,a,λi hi=>b i U⟩
  .refine⟨hp.bd hk,hp.bd U,?_⟩;cases c:lt (p.getD k 0) (p.getD ((l+r) / 2) 0)
   .refine SS hp hk f _ r U h2 U (λi hi=>?_) b u;have m:=T.at hp hk U U c;by_cases e:i=(l+r) / 2
    .rw[e];exact m
    .exact T.tr _ _ _ (u i _ U U) m
   .refine SS hp hk f l _ U U U a (λi hi Hm=>?_) u;by_cases e:i=(l+r) / 2
    .rw[e];exact c
    .exact T.tr _ _ _ c<|u _ i U Hm
theorem X9:∀f (p:Array Nat) k,Pm n p->k+f=n->Up lt p k->Ok lt n (λp=>Pm n p/\Up lt p n) (kas_bin f p k)
 |0,_,_,h,e,u=>⟨h,by rw[<-e];exact u⟩
 |f+1,p,k,h,e,u=>by
  refine Ok.bind (λl (⟨hl,a,b⟩)=>X9 f _ _ (Array.Perm.trans (bubble_perm ..) h) U λi j Bi hj=>?_) _<|SS T h U k 0 k U U U (λi hi=>U) (λi _ _=>U) u;have g:∀i,BS (bubble p k<|k-l) i=BS p (if i=l then k else if l<i/\i<=k then i-1 else i):=λi=>UQ (by
   rw[getElem?_bubble (by rw[h.size];lia) _ U,show k-(k-l)=l by lia];split
   .rfl
   .split<;>rfl)
  rw[g,g];by_cases c1:i=l
  .rw[yO c1,yN U];exact b _ U U
  .rw[yN c1];by_cases c2:j=l
   .rw[yO c2,yN U];exact a _ U
   .rw[yN c2];refine u _ _ ?_ ?_<;>(repeat' split)<;>lia
theorem SU(h2:2<=n):Ok lt n (λp=>Pm n p/\Up lt p n)<|kas_sort n:=
 Ok.bind (λr (⟨hp,a,b,u⟩)=>by
  split
  .rw[show max r.1 1=r.1 by lia];exact X9 T _ _ _ hp U u
  .exact⟨hp,by exact(U:r.1=n) ▸ u⟩) _ (lz T h2<|Array.Perm.refl _)
end
open PySem PySem.W PyProof.Rows PySem.SeqAt
inductive PA(h:Heap):List Value->List (Int×Int)->Prop
 |nil:PA h [] []
 |cons {a:Addr} {o:Obj} {t t':Tok} {n:Nat} {p:Int×Int} {vs:List Value} {ps:List (Int×Int)} (ho:h.get? a=some o) (hc:o.cls=.type "tuple") (hd:o.data=.seq #[.int p.1 t,.int p.2 t'] n) (r:PA h vs ps):PA h (.ref a::vs) (p::ps)
theorem PA.len{h:Heap}:∀{vs:List Value}{ps:List (Int×Int)},PA h vs ps->vs.length=ps.length
 |_,_,.nil=>rfl
 |_,_,.cons _ _ _ r=>by rw[yn,yn,r.len]
theorem PA.at{h:Heap}:∀{vs:List Value}{ps:List (Int×Int)}{i:Nat},PA h vs ps->i<ps.length->∃a o t t' n,vs.getD i Value.none=.ref a/\h.get? a=some o/\o.data=.seq #[.int (ps.getD i (0,0)).1 t,.int (ps.getD i (0,0)).2 t'] n
 |_,_,0,.cons ho _ hd _,_=>⟨_,_,_,_,_,rfl,ho,hd⟩
 |_,_,i+1,.cons _ _ _ r,hi=>r.at <|by simpa using hi
theorem PA.kept{h h':Heap}{a:Addr}(k:∀b o,b≠a->h.get? b=some o->h'.get? b=some o):∀{vs:List Value}{ps:List (Int×Int)},(∀v∈vs,v≠.ref a)->PA h vs ps->PA h' vs ps
 |_,_,_,.nil=>.nil
 |_,_,hn,.cons ho hc hd r=>.cons (k _ _ (λe=>hn _ (.head _)<|by rw[e]) ho) hc hd<|r.kept k λv hv=>hn v<|.tail _ hv
theorem PA.Fl{h:Heap}:∀{vs:List Value}{ps:List (Int×Int)},PA h vs ps->∃fs,KatTups h vs fs/\fs.length=ps.length/\∀v∈fs,∃i t,v=Value.int i t
 |_,_,.nil=>⟨[],.nil,rfl,λ_ h=>by cases h⟩
 |_,_,.cons (t:=t) (p:=p) ho hc hd r=>by
  obtain⟨fs,a,b,c⟩:=r.Fl;refine⟨.int p.1 t::fs,.cons ho hc hd rfl a,by rw[yn,yn,b],λv hv=>?_⟩;rcases yw.mp hv with rfl|hv
  .exact⟨_,_,rfl⟩
  .exact c v hv
noncomputable def HB(ps:List<|Int×Int)(i j:Nat):Bool:=decide ((ps.getD i (0,0)).1<(ps.getD j (0,0)).1\/((ps.getD i (0,0)).1=(ps.getD j (0,0)).1/\(ps.getD i (0,0)).2<(ps.getD j (0,0)).2))
section
variable{prog:Program}{w:World}{A:Around}{E:Value->Shared->Prop}{s:Shared}{vs:List Value}{ps:List (Int×Int)}
theorem bf(hP:PA s.heap vs ps){i j:Nat}(hi:i<ps.length)(hj:j<ps.length){C:Bool->Shared->Prop}(h:C (HB ps i j) s):kas_ask prog w A (tuples' true) vs i j C s:=by
 obtain⟨a,o,t,t',n,e1,ho,hd⟩:=hP.at hi;obtain⟨b,o2,u,u',n2,e2,JD,hd2⟩:=hP.at hj;unfold kas_ask;rw[e1,e2];unfold HB at h;generalize ps.getD i (0,0)=x at h hd;generalize ps.getD j (0,0)=y at h hd2;refine kat_lt ho hd JD hd2 ?_;refine kat_cons<|EqAt.int_int x.1 t y.1 u prog w _ _ ?_;cases e:(x.1==y.1)with
 |false=>
  have e':=by simpa using e
  refine kat_no<|oneLt_int ?_;rw[show decide (x.1<y.1)=decide (x.1<y.1\/(x.1=y.1/\x.2<y.2))by simp[e']];exact h
 |true=>
  have e':x.1=y.1:=by simpa using e
  refine kat_yes<|kat_cons<|EqAt.int_int x.2 t' y.2 u' prog w _ _ ?_;cases k:(x.2==y.2)with
  |false=>
   refine kat_no<|kat_one _ _<|lt_int ?_;rw[show decide (x.2<y.2)=decide (x.1<y.1\/(x.1=y.1/\x.2<y.2))by simp[e']];exact h
  |true=>
   have k':=by simpa using k
   show C false s;rw[show false=decide (x.1<y.1\/(x.1=y.1/\x.2<y.2))by simp[e',k']];exact h
def ord(ps:List<|Int×Int):List Nat:=if ps.length<2 then List.range ps.length else(run (HB ps)<|kas_sort ps.length).toList
theorem IG{ps:List (Int×Int)}(nd:ps.Nodup):QC (HB ps) ps.length:=by
 refine⟨λi j k=>?_,λi j hi hj e=>?_⟩
 .unfold HB;lia
 .unfold HB;simp only[yZ,AAh];have ne:ps.getD i (0,0)≠ps.getD j (0,0):=by rw[zY,zY,yv hi,yv hj];exact λk=>e<|(ABj nd).mp k
  have:¬ ((ps.getD i (0,0)).1=(ps.getD j (0,0)).1/\(ps.getD i (0,0)).2=(ps.getD j (0,0)).2):=λk=>ne<|zd k.1 k.2;lia
theorem Se{ps:List (Int×Int)}(nd:ps.Nodup):(ord ps).Perm<|List.range ps.length:=by
 unfold ord;split
 .exact List.Perm.refl _
 .exact ABJ.mp (Ok.run _<|SU (IG nd) U).1
theorem Sd{ps:List (Int×Int)}(nd:ps.Nodup):∀i∈ord ps,i<ps.length:=λi h=>yS.mp<|(Se nd).mem_iff.mp h
theorem mj{ps:List (Int×Int)}(nd:ps.Nodup):(ord ps).length=ps.length:=by rw[(Se nd).length_eq,zA]
theorem ml{ps:List (Int×Int)}(nd:ps.Nodup):(ord ps).Pairwise λi j=>HB ps i j=true:=by
 unfold ord;split
 .rw[za];intro i j hi hj Bi;rw[zA]at hj;lia
 .rw[za];intro i j hi hj Bi;have h:=Ok.run _<|SU (IG nd) U;have hs:=h.1.size;rw[AAN,hs]at hj;have:=h.2 i j Bi hj;simpa[BS,Array.getD,hs,hj,show i<ps.length by lia]using this
theorem sG{a:Addr}{n:Nat}{P:PySem.Fin->Shared->Prop}(ho:s.heap.get? a=some (seqObj "list" vs.toArray n))(hP:PA s.heap vs ps)(nd:ps.Nodup)(Nz:∀v∈vs,v≠.ref a)(Ec:vs.length<64) (h:P (.done<|.ret .none) {s with heap:=sortedHeap s.heap a vs ((ord ps).map λi=>vs.getD i Value.none).toArray}) :
 wpAny (model prog w) A (Builtin.«list.sort» ⟨[.ref a],[]⟩) P E s:=by
 have hl:=hP.len;rw[list_sort_plain];have ha:=Heap.lt_size ho;refine wpAny_bind<|listItems_at ho rfl ?_;refine wpAny_bind (listUpdate_at ho rfl ?_ (by rw[yh,sizeLine_eq];lia) (AAR _));obtain⟨e1,Ws⟩:∃e1,(s.heap.update a<|Obj.mapSeq λ_=>#[]).get? a=some (seqObj "list" #[] e1):=⟨_,get?_update_seq ho (λ_=>#[])⟩;refine wpAny_bind<|seqEpoch_at Ws rfl ?_;refine wpAny_bind (wpAny_newTuple ?_ (by show vs.length<=_;rw[sizeLine_eq];lia));refine wpAny_bind<|wpAny_newList ?_ (AAR _);refine wpAny_holding ?_;have N0:(((s.heap.update a<|Obj.mapSeq λ_=>#[]).push<|seqObj "tuple" vs.toArray 0).push<|seqObj "list" #[] 0).get? a=some (seqObj "list" #[] e1):=by rw[Heap.get?_push_ne _ _ _ (by rw[size_push',Heap.size_update];exact yu<|ABA ha),Heap.get?_push_ne _ _ _ (by rw[Heap.size_update];exact yu ha)];exact Ws
 have kp:∀b o,b≠a->s.heap.get? b=some o->(((s.heap.update a<|Obj.mapSeq λ_=>#[]).push<|seqObj "tuple" vs.toArray 0).push<|seqObj "list" #[] 0).get? b=some o:=λb o hb q=>
  Heap.get?_push_of_some _ (Heap.get?_push_of_some _ (by rw[Heap.get?_update_ne _ _ _ _ hb];exact q))
 have WU:=hP.kept kp Nz;dsimp only;have hsz:vs.toArray.size=vs.length:=yI
 by_cases h2:vs.toArray.size<2
 .rw[yO h2,yO h2];refine wpAny_bind<|wpAny_pure ?_;refine wpAny_bind<|wpAny_pure ?_;dsimp only;refine wpAny_bind<|seqEpoch_at N0 rfl ?_;refine wpAny_bind (listUpdate_at N0 rfl ?_ (hsz2:=by rw[Array.size_map];show(pairsOf vs).size<=_;rw[pairsOf_size,sizeLine_eq];lia));simp only[bne_self_eq_false];have eo:((ord ps).map λi=>vs.getD i Value.none).toArray=(vs.toArray.zip vs.toArray).map (·.2):=by
   unfold ord
   match vs,hl,h2 with
   |[],hl,_=>rw[<-hl];simp
   |[v],hl,_=>rw[<-hl];simp[AAm]
   |_::_::_,_,h2=>exact absurd h2 yI
  rw[eo]at h;exact wpAny_pure h
 .rw[yN h2,yN h2];obtain⟨fs,kt,kl,ki⟩:=WU.Fl;refine wpAny_bind (kat_kind kt U (λv hv=>by obtain⟨i,t,rfl⟩:=ki v hv;exact .now) yJ ?_);have hw:(kas_sort vs.length).kasWp (kas_ask prog w A (tuples'<|Value.type "int" != Value.type "tuple") vs) (λp s'=>p=run (HB ps) (kas_sort ps.length)/\s'={s with heap:=((s.heap.update a<|Obj.mapSeq λ_=>#[]).push<|seqObj "tuple" vs.toArray 0).push (seqObj "list" #[] 0)}) {s with heap:=((s.heap.update a<|Obj.mapSeq λ_=>#[]).push<|seqObj "tuple" vs.toArray 0).push (seqObj "list" #[] 0)}:=by rw[hl];exact Ok.wp (λi j C hi hj hC=>bf WU hi hj hC) _ (SU (IG nd) U) ⟨rfl,rfl⟩
  refine wpAny_bind<|wpAny_mono (kat_run (Q:=λEl s'=>∃p:Array Nat,p.size=vs.length/\arrOf El=p.map (kas_item<|vs.toArray.zip vs.toArray)/\failedOf El=none/\p=run (HB ps) (kas_sort ps.length)/\s'={s with heap:=((s.heap.update a<|Obj.mapSeq λ_=>#[]).push<|seqObj "tuple" vs.toArray 0).push (seqObj "list" #[] 0)}) rfl U Ec (λp' El s' a1 a2 a3 a4=>⟨p',a1,a2,a3,a4⟩) hw) ?_ λ_ _ e=>e;rintro⟨⟨⟩,El⟩ s' ⟨p,hp,iM,hf,RS,rfl⟩;have jR:=kat_snds rfl iM;rw[jR];refine wpAny_bind<|seqEpoch_at N0 rfl ?_;refine wpAny_bind (listUpdate_at N0 rfl ?_ (hsz2:=by rw[yh,yP,AAN,hp,sizeLine_eq];lia));rw[hf];simp only[bne_self_eq_false];have eo:ord ps=p.toList:=by unfold ord;rw[yN U,RS]
  rw[eo]at h;exact wpAny_pure h
theorem sI{l:Addr}{Q:Value->Shared->Prop}(hl:s.heap.IsList l vs.toArray)(hP:PA s.heap vs ps)(nd:ps.Nodup)(Ec:vs.length<64) (h:Q (.ref<|s.heap.objs.size+1) {s with heap:=sortedAll s.heap vs ((ord ps).map λi=>vs.getD i Value.none).toArray}) :
 wpAny (model prog w) A (call (.builtin "sorted") [.ref l]) Q E s:=by
 refine Calls.call_function_entry kind_sorted plain_sorted entry_sorted (args_sorted1 _) ?_;refine wpAny_bind <|wpAny_pure ?_;refine wpAny_bind (collect_list hl ?_ (by rw[sizeLine_eq];lia));refine wpAny_bind (wpAny_newList ?_ (by rw[sizeLine_eq];lia));have hsz:((s.heap.push<|seqObj "list" #[] 0).update s.heap.objs.size (Obj.mapSeq (· ++ vs.toArray))).objs.size=s.heap.objs.size+1:=by rw[Heap.size_update,size_push']
 have N1:(((s.heap.push<|seqObj "list" #[] 0).update s.heap.objs.size (Obj.mapSeq (· ++ vs.toArray))).push<|seqObj "list" vs.toArray 0).get? (s.heap.objs.size+1)=some (seqObj "list" vs.toArray 0):=by rw[<-hsz];exact Heap.get?_push_size _ rfl
 have keep:∀b o,s.heap.get? b=some o->(((s.heap.push<|seqObj "list" #[] 0).update s.heap.objs.size (Obj.mapSeq (· ++ vs.toArray))).push<|seqObj "list" vs.toArray 0).get? b=some o:=λb o q=>by have BN:=Heap.lt_size q;rw[Heap.get?_push_ne _ _ _ (by rw[hsz];exact yu<|ABA BN),Heap.get?_update_ne _ _ _ _ (yu BN),Heap.get?_push_ne _ _ _ (yu BN)];exact q
 rw[hsz];have Nz:∀v∈vs,v≠Value.ref (s.heap.objs.size+1):=λv hv e=>by
  have:∀{vs:List Value}{ps:List (Int×Int)},PA s.heap vs ps->∀v∈vs,∃b,v=.ref b/\b<s.heap.objs.size:=λ{vs ps} h=>by
   induction h with
   |nil=>intro v hv;cases hv
   |cons ho hc hd r ih=>
    intro v hv;rcases yw.mp hv with rfl|hv
    .exact⟨_,rfl,Heap.lt_size ho⟩
    .exact ih v hv
  obtain⟨b,e',hb⟩:=this hP v hv;rw[e']at e;cases e;exact absurd hb (Nat.not_lt.mpr<|ABe _)
 refine wpAny_bind<|wpAny_holding<|wpAny_call_entry slot_list_sort ⟨_,N1,rfl⟩ entry_list_sort (sG N1 (hP.kept (λb o _ q=>keep b o q) Nz) nd Nz Ec ⟨_,rfl,?_⟩)<|args_list_sort _;exact wpAny_pure ⟨_,rfl,h⟩
end
end Ck
set_option tactic.hygienic true
namespace L2.PL
open PySem PySem.Spec PyProof.Rows
noncomputable def Kd:List PV->Option (List<|Int×Int)
 |[]=>some []
 |.tup [.int p,.int q]::r=>(Kd r).map ((p,q) :: ·)
 |_=>none
def KJ:List RV->Option RV
 |[r]=>match r.list with
  |some ps=>(match Kd ps with
   |some zs=>if ps.length<64/\zs.Nodup then some (.fr<|(Ck.ord zs).map λi=>ps.getD i .A8)else none
   |none=>none)
  |none=>none
 |_=>none
def M9(K:W.Frag)(H:Hp)(z:Int×Int)(v:V):Prop:=∃a,v=.ref a/\BL K H a [.int z.1,.int z.2]
theorem YQ{K:W.Frag}{G:Hp}:∀{ps:List PV}{zs:List (Int×Int)}{vs:List V},Kd ps=some zs->AX K G ps vs->Paired (M9 K G) zs vs
 |[],_,_,e,h=>by cases e;subst h;exact .nil
 |p::r,zs,vs,e,h=>by
  unfold Kd at e;split at e
  .rename_i e0;cases e0
  .rename_i p' q' r' e0;cases e0;obtain⟨yE,ez,rfl⟩:=ACR.mp e;obtain⟨v,us,rfl,hv,t⟩:=h;obtain⟨a,rfl,ha⟩:=Si hv;exact .cons ⟨a,rfl,ha⟩<|YQ ez t
  .cases e
set_option tactic.hygienic false
theorem Zt{ys:List V}{its:List Value}(h:Ap ys its):∀l:List Nat,(∀i∈l,i<ys.length)->Ap (l.map λi=>ys.getD i .A8) (l.map λi=>its.getD i Value.none)
 |[],_=>.nil
 |i::l,hl=>by have hi:=hl i<|.head _;obtain⟨u,eu,ru⟩:=h.get<|yv hi;refine .cons ?_ (Zt h l λj hj=>hl j<|.tail _ hj);show RelV (ys.getD i .A8) (its.getD i Value.none);rw[zY,zY,yv hi,eu];exact ru
theorem Yy{K:W.Frag}{G:Hp}{ps:List PV}{ys:List V}(h:Paired (Rep K G) ps ys):∀l:List Nat,(∀i∈l,i<ps.length)->Paired (Rep K G) (l.map λi=>ps.getD i .A8) (l.map λi=>ys.getD i .A8)
 |[],_=>.nil
 |i::l,hl=>by have hi:=hl i<|.head _;obtain⟨u,eu,ru⟩:=JS h<|yv hi;refine .cons ?_ (Yy h l λj hj=>hl j<|.tail _ hj);show Rep K G (ps.getD i .A8) (ys.getD i .A8);rw[zY,zY,yv hi,eu];exact ru
section
variable{X:Cx}
theorem YN{AE:List (Addr×Obj)}{σ:St}{H:Hp}{s:Shared}(I:Inv X AE σ H s):∀{zs:List (Int×Int)}{ys:List V}{its:List Value},Paired (M9 X.K H) zs ys->Ap ys its->Ck.PA s.heap its zs
 |_,_,_,.nil,h=>by cases h;exact .nil
 |_,_,_,.cons ⟨a,e,ha⟩ r,h=>by
  cases h with
  |cons ru t=>
   subst e;cases ru;obtain⟨i1,r1,⟨o,h1,k1,n1,z1⟩,_⟩:=I.tuple ha;obtain⟨t1,t2,rfl⟩:=Sh r1;exact .cons h1 k1 z1<|YN I r t
theorem cx:C8 X (.builtin "sorted") (λxs H Q=>∃(p:Addr)(ys:List V)(zs:List<|Int×Int),xs=[.ref p]/\B6 X.K H p ys/\Paired (M9 X.K H) zs ys/\ys.length<64/\zs.Nodup/\∀l,H l=none->Q (.ref l) (upd H l<|.lst<|(Ck.ord zs).map λi=>ys.getD i .A8)):=by
 intro AE s σ H xs us Q I r h;obtain⟨p,ys,zs,rfl,hq,hp,Ec,nd,q⟩:=h;obtain⟨u,rfl,rx⟩:=vals1 r;cases rx;obtain⟨its,r',pl,hz⟩:=I.list hq;have Bn:=r'.length;have JB:=Paired.length hp;have N4:=Ck.Sd nd;refine Ck.sI pl.isList (YN I hp r') nd U ?_;obtain⟨e,he⟩:=sortedAll_at s.heap its ((Ck.ord zs).map λi=>its.getD i Value.none).toArray;have N2:(Ck.ord zs).length<=sizeLine:=by rw[Ck.mj nd];lia
 exact⟨.ref<|s.heap.objs.size+1,_,I.laid (λb o k=>sortedAll_old k) (ABe _) (show By X.prog X.w _ _ _ (.lst _)from⟨by rw[yP];exact N2,_,e,Zt r' _ (λi hi=>by have:=N4 i hi;lia),he⟩),rfl,q _<|I.Ah.fresh<|ABe _⟩
set_option tactic.hygienic true
theorem me:EB X.K KJ (λxs H Q=>∃(p:Addr)(ys:List V)(zs:List<|Int×Int),xs=[.ref p]/\B6 X.K H p ys/\Paired (M9 X.K H) zs ys/\ys.length<64/\zs.Nodup/\∀l,H l=none->Q (.ref l) (upd H l<|.lst<|(Ck.ord zs).map λi=>ys.getD i .A8)):=by
 intro rs z H0 G H vs Q sub sh e rv q;unfold KJ at e;split at e
 .split at e
  .rename_i ps es;split at e
   .rename_i zs ez;split at e
    .rename_i Ec;cases e;obtain⟨v,rfl,hv⟩:=rv.one;obtain⟨a,us,rfl,hq,rl⟩:=hv.list sub es;have hp:=YQ ez rl;have hl:=rl.paired.length;have hz:=Paired.length hp;refine⟨a,us,zs,rfl,.inl hq,Paired.OR hp (by rintro _ _ ⟨b,e,h⟩;exact⟨b,e,BL.same sub h⟩),U,Ec.2,λl hl=>q _ _ _ (Av.E7 sub _ hl) ⟨l,_,rfl,sh.free hl,sub.free hl,Ci,AX.of<|Yy rl.paired _ λi hi=>?_⟩⟩;have:=Ck.Sd Ec.2 i hi;lia
    .cases e
   .cases e
  .cases e
 .cases e
end
section
variable{X:Cx}{Ai Ac:Hp}{e:Expr}{f:EF}{pos:Pos}
end
end L2.PL
namespace L2
open PySem PySem.Spec PyProof.Rows
section
variable{X:Cx}{k j i:Nat}{f Wc:Addr}{fd:FuncData}{ps:List Str}{sp:Sp}{E:XK}{x y n fx:Str}{p yp fp np jV Bj apos pos:Pos}{e:Expr}{es:List Expr}{t:TA}{sW:List Stmt}{cO:Stmt}{ts:TS}
end
end L2
namespace L2.PL
open PySem PySem.Spec PyProof.Rows
section
variable{X:Cx}{E:XK}{Ai Ac:Hp}{e:Expr}{es:List Expr}{ga:AF}{pos:Pos}
end
section
variable{X:Cx}
theorem cz(hc:X.calm=true):C8 X (.builtin "sum") (λxs H Q=>∃(p:Addr)(ns:List Int),xs=[.ref p]/\BL X.K H p (ns.map V.int)/\Q (.int ns.sum) H):=by
 intro AE s σ H xs us Q I r h;obtain⟨p,ns,rfl,hq,q⟩:=h;obtain⟨u,rfl,rx⟩:=vals1 r;cases rx;obtain⟨its,rv,hp,_⟩:=I.tuple hq;have hl:=hp;have hi:=intsAre_of rv;obtain⟨xs,hx⟩:=hi.allInts.items;have JA:=hx ▸ hl;refine W.ktm_sumG (I.ok.hd hc) JA λh' tk t' hk=>?_;have e1:ns=xs.toList.map (·.1):=by rw[<-nums_intItems,<-hx];exact(show numsOf its.toArray.toList=ns from hi.numsOf).symm
 have e2:preSum (numAt xs) xs.size=ns.sum:=by rw[preSum_eq,ABf yI,e1]
 rw[e2];exact⟨.int ns.sum,H,I.kept hk,⟨_,rfl⟩,q⟩
def KN:List RV->Option RV
 |[.cl<|.tup ps]=>(C2 ps).map λns=>.cl<|.int ns.sum
 |_=>none
theorem mh:EB X.K KN (λxs H Q=>∃(p:Addr)(ns:List Int),xs=[.ref p]/\BL X.K H p (ns.map V.int)/\Q (.int ns.sum) H):=by
 intro rs z H0 G H vs Q sub sh e rv q;unfold KN at e;split at e
 .rename_i ps;cases ei:C2 ps with
  |none=>rw[ei]at e;cases e
  |some ns=>
   rw[ei]at e;cases e;obtain⟨v,rfl,hv⟩:=rv.one;obtain⟨a,us,rfl,hq,rl⟩:=hv;rw[JH ei rl]at hq;exact⟨a,ns,rfl,BL.same sub hq,q _ G H (Av.refl sub)<|by rfl⟩
 .cases e
end
section
variable{X:Cx}
end
noncomputable def EJ(AJ:List<|Int×Int)(k:Int):Option Int:=(AJ.find? λp=>decide (p.1=k)).map (·.2)
theorem MF(k:Int):∀AJ:List<|Int×Int,ET (AJ.map Hy) (Sum.inl k:Key)=(EJ AJ k).map V.int
 |[]=>rfl
 |(a,b)::AJ=>by
  have ih:=MF k AJ;unfold EJ;rw[ye];by_cases e:a=k
  .subst e;rw[Mo (p:=Hy (a,b)) (k:=.inl a) rfl,ACT yI]
   rfl
  .rw[Ks (p:=Hy (a,b)) λz=>e<|ACP z,ACU (by simpa using e),ih]
   rfl
section
variable{X:Cx}{a b c e tg iter:Expr}{es:List Expr}{fa fb fc f:EF}{g ga:AF}{pos:Pos}{Ai Ac:Hp}
def Ie(i:Nat)(f:EF):EF:=λρ=>match ρ[i]?,f ρ with
 |some (some<|.D7 AJ),some (.cl<|.int k)=>(EJ AJ k).map λv=>.cl<|.int v
 |_,_=>none
theorem pQ(i:Nat){x:Str}{p:Pos}(hu:X.A.units+1<cLine)(h:PX X e f)(hN:X.N[i]? = some x)(hv:DT X.env.scope x)(hd:(x==("__debug__"))=false) (BK:(x==("__classdict__"))=false) (hs:M7 e):PX X (.Subscript (.Name x p) e pos)<|Ie i f:=PE.imp (YY hu (EM hN hv hd BK) h hs) (by
 rintro σ H Q ⟨G,ρ,z,R,e,q⟩;unfold Ie at e;split at e
 .rename_i AJ k er ef;obtain⟨v,ev,a,rfl,ga,ha⟩:=R.slot i _ er;cases ep:EJ AJ k with
  |none=>rw[ep]at e;cases e
  |some w=>
   rw[ep]at e;cases e;refine⟨_,ev,G,ρ,_,R,ef,λu G' H' s rv=>?_⟩;obtain rfl:=rv.int;exact⟨a,.int w,rfl,.inl ⟨_,.inl k,.inl<|s.hh _ _ ha,rfl,by rw[MF,ep];rfl⟩,q _ G' H' s (by show Rep _ _ _ _;unfold Rep;rfl)⟩
 .cases e)
def Ex(neg:Bool)(i:Nat)(f:EF):BF:=λρ=>match f ρ,ρ[i]? with
 |some (.cl<|.int k),some (some<|.D7 AJ)=>some (if neg=true then !(EJ AJ k).isSome else(EJ AJ k).isSome)
 |_,_=>none
theorem ql(i:Nat){x:Str}{p:Pos}(hu:X.A.units+1<cLine)(h:PX X e f)(h1:behindInMarks .In (.Name x p)=false)(hN:X.N[i]? = some x)(hv:DT X.env.scope x)(hd:(x==("__debug__"))=false) (BK:(x==("__classdict__"))=false):DB X (.Compare e [.In] [.Name x p] pos)<|Ex false i f:=PT.imp (Yo (nB hu h<|EM hN hv hd BK) h1) (by
 rintro σ H Q ⟨G,ρ,z,R,e,q⟩;unfold Ex at e;split at e
 .rename_i k AJ ef er;cases e;refine⟨G,ρ,_,R,ef,λu G' H' s rv=>?_⟩;obtain rfl:=rv.int;obtain⟨v,ev,a,rfl,ga,ha⟩:=(R.step s).slot i _ er;refine⟨_,ev,a,_,rfl,.inl ⟨_,.inl k,.inl ha,rfl,rfl⟩,_,rfl,?_⟩;rw[MF,AA9];exact q G' H' s
 .cases e)
theorem qm(i:Nat){x:Str}{p:Pos}(hu:X.A.units+1<cLine)(h:PX X e f)(h1:behindInMarks .NotIn (.Name x p)=false)(hN:X.N[i]? = some x)(hv:DT X.env.scope x)(hd:(x==("__debug__"))=false) (BK:(x==("__classdict__"))=false):DB X (.Compare e [.NotIn] [.Name x p] pos)<|Ex true i f:=PT.imp (Yo (nC hu h<|EM hN hv hd BK) h1) (by
 rintro σ H Q ⟨G,ρ,z,R,e,q⟩;unfold Ex at e;split at e
 .rename_i k AJ ef er;cases e;refine⟨G,ρ,_,R,ef,λu G' H' s rv=>?_⟩;obtain rfl:=rv.int;obtain⟨v,ev,a,rfl,ga,ha⟩:=(R.step s).slot i _ er;refine⟨_,ev,a,_,rfl,.inl ⟨_,.inl k,.inl ha,rfl,rfl⟩,_,rfl,?_⟩;rw[MF,AA9];exact q G' H' s
 .cases e)
theorem cX:C8 X (.builtin "len") (λxs H Q=>∃(a:Addr)(AJ:List<|Key×V),xs=[.ref a]/\Rd H a (.dK AJ)/\Q (.int AJ.length) H):=by intro AE s σ H xs us Q I r h;obtain⟨a,AJ,rfl,hq,q⟩:=h;obtain⟨u,rfl,rx⟩:=vals1 r;cases rx;exact du I hq λt s' I'=>⟨.int AJ.length,H,I',⟨_,rfl⟩,q⟩
noncomputable def LV(i:Nat):EF:=λρ=>match ρ[i]? with
 |some (some<|.D7 AJ)=>some<|.cl<|.int (AJ.length:Int)
 |_=>none
theorem pS(i:Nat){x:Str}{p q:Pos}(hm:X.mg "len" = none)(hN:X.N[i]? = some x)(hv:DT X.env.scope x)(hd:(x==("__debug__"))=false) (BK:(x==("__classdict__"))=false) (hg:Gl X "len") (he:starEach [.Name x q] X.env=(false,eval (.Name x q) X.env)::starEach [] X.env) (BY:(backTo pos<|starEach [] X.env).any (·.1)=false):PX X (.Call (.Name "len" p) [.Name x q] [] pos)<|LV i:=
 PE.imp (Oh cX hg hm ACb (Kc (EM (i:=i) hN hv hd BK) MT) yJ yJ he BY) (by
 rintro σ H Q ⟨G,ρ,z,R,e,k⟩;unfold LV at e;split at e
 .rename_i AJ er;cases e;obtain⟨v,ev,a,rfl,ga,ha⟩:=R.slot i _ er;refine⟨_,ev,a,_,rfl,.inl ha,?_⟩;rw[yP];exact k _ G H (Av.refl R.sub) (by show Rep _ _ _ _;unfold Rep;rfl)
 .cases e)
noncomputable def Qs(i:Nat)(AJ:List<|Int×Int):SF:=λρ=>some<|.nx<|ρ.set i<|some<|.D7 AJ
theorem qf(i:Nat){x:Str}{p Vf:Pos}{k1 v1 k2 v2:Expr}{a1 b1 a2 b2:Int}(hN:X.N.Nodup)(h1:PE X k1<|tC<|.int a1)(h2:PE X v1<|tC<|.int b1)(h3:PE X k2<|tC<|.int a2)(h4:PE X v2<|tC<|.int b2)(As:a1≠a2)(hi:X.N[i]? = some x)(hx:Loc X.env.scope x) (hs:swapsWith (.Dict [some k1,some k2] [v1,v2] Vf) (some<|.Name x p) pos.line X.env=pure false) (hf:X.fn x=true\/X.env.scope.names.lookup x=some .local) : CU X Ai Ac (.Assign [.Name x p] (.Dict [some k1,some k2] [v1,v2] Vf) pos)<|Qs i [(a1,b1),(a2,b2)]:=
 PS.imp (Om hN hi hx (nL (Yh h1 h2<|Yh h3 h4 oJ) rfl rfl yI yI) hs hf) (by
 rintro D σ H ⟨G,ρ,o,S,e,k⟩;cases e;intro p hp;refine⟨Ci,[(.inl a1,.int b1),(.inl a2,.int b2)],rfl,yI,?_⟩;have em:JP [] [((.inl a1:Key),V.int b1),(.inl a2,.int b2)]=[(a1,b1),(a2,b2)].map Hy:=by
  unfold JP;rw[AA2,AA2,List.foldl_nil,Ss _ Zs,Ss _<|by rw[zy,Ks λz=>As<|ACP z,Zs]]
  rfl
 rw[em];have s:=Av.E7 S.r.sub (.dK ([(a1,b1),(a2,b2)].map Hy)) hp;rw[show upd (upd H p<|.dK []) p (.dK ([(a1,b1),(a2,b2)].map Hy))=upd H p (.dK ([(a1,b1),(a2,b2)].map Hy))from funext λb=>by unfold upd;split<;>rfl];exact k _ _ _ s.gg<|(S.step s).S9 S.hh S.r.Of hp ⟨p,rfl,S.r.sub.free hp,Ci⟩)
def Im(i:Nat)(fk f:EF):SF:=λρ=>match f ρ,ρ[i]?,fk ρ with
 |some (.cl<|.int v),some<|some<|.D7 AJ,some (.cl<|.int k)=>if AJ.length<1000000/\EJ AJ k=none then some (.nx<|ρ.set i<|some<|.D7<|AJ ++ [(k,v)])else none
 |_,_,_=>none
theorem qS(i:Nat){x:Str}{p sp:Pos}{ek:Expr}{fk:EF}(hu:X.A.units+1<cLine)(hk:PX X ek fk)(he:PX X e f)(hN:X.N[i]? = some x)(hv:DT X.env.scope x)(hd:(x==("__debug__"))=false) (BK:(x==("__classdict__"))=false) (hs:swapsWith e (some<|.Subscript (.Name x p) ek sp) pos.line X.env=pure false) : CU X Ai Ac (.Assign [.Subscript (.Name x p) ek sp] e pos)<|Im i fk f:=PS.imp (Yn hu (EM hN hv hd BK) hk he hs) (by
 rintro D σ H ⟨G,ρ,o,S,e,ok⟩;unfold Im at e;split at e
 .rename_i v AJ k er eo LQ;split at e
  .rename_i hz;cases e;refine⟨G,ρ,_,S.r,er,λu G1 H1 s1 rv=>?_⟩;obtain rfl:=rv.int;have S1:=S.step s1;obtain⟨w,ew,b,rfl,g,hb⟩:=S1.r.slot i _ eo;refine⟨_,ew,G1,ρ,_,S1.r,LQ,λu G2 H2 s2 rv=>?_⟩;obtain rfl:=rv.int;refine⟨b,_,rfl,.inl ⟨_,.inl k,s2.hh _ _ hb,rfl,ABn (by rw[yP];exact hz.1) yJ,rfl⟩,?_⟩;have g2:=s2.ex b (.k hb) g;refine ok _ _ _ (s1.gg.trans s2.gg)<|(S1.step s2).chg rfl eo ew g2 ⟨b,rfl,g2,?_⟩;rw[Ci,Ss _ (by rw[MF,hz.2];rfl),zP]
   rfl
  .cases e
 .cases e)
theorem cw:C8 X (.builtin "sorted") (λxs H Q=>∃(p:Addr)(ns:List Int),xs=[.ref p]/\B6 X.K H p (ns.map V.int)/\ns.length<64/\∀l,H l=none->Q (.ref l) (upd H l<|.lst<|(ns.mergeSort λa b=>decide (a<=b)).map V.int)):=by intro AE s σ H xs us Q I r h;obtain⟨p,ns,rfl,hq,Ec,q⟩:=h;obtain⟨u,rfl,rx⟩:=vals1 r;cases rx;obtain⟨its,r',pl,hz⟩:=I.list hq;have hi:IntsAre its ns:=intsAre_of r';refine sorted_ints pl.isList hi (by have:=IntsAre.length hi;omega) λout X5 a1 a2 a3=>?_;have e1:X5=ns.mergeSort λa b=>decide (a<=b):=W.lks_uniq (a2.trans (ACh _ _).symm) a3 ((ACI (λa b c h1 h2=>by simp only[yZ]at *;omega) (λa b=>by simp only[zX,yZ];omega) ns).imp λh=>by simpa using h);rw[<-e1]at q;obtain⟨e,he⟩:=sortedAll_at s.heap its out;have hv:Ap (X5.map V.int) out.toList:=Tp a1;exact⟨.ref<|s.heap.objs.size+1,_,I.laid (λb o k=>sortedAll_old k) (ABe _) (show By X.prog X.w _ _ _ (.lst _)from⟨by rw[yP,a2.length_eq];exact AAj<|ABn Ec yJ,_,e,hv,he⟩),rfl,q _<|I.Ah.fresh<|ABe _⟩
def MB:List RV->Option RV
 |[r]=>(r.list.bind C2).bind λns=>if ns.length<64 then some (.fr<|(ns.mergeSort λa b=>decide (a<=b)).map PV.int)else none
 |_=>none
theorem Kj{K:W.Frag}{G:Hp}:∀ns:List Int,AX K G (ns.map PV.int) (ns.map V.int)
 |[]=>by show AX _ _ [] _;unfold AX;rfl
 |n::ns=>by rw[ye,ye];unfold AX;exact⟨_,_,rfl,by unfold Rep;rfl,Kj ns⟩
theorem ma:EB X.K MB (λxs H Q=>∃(p:Addr)(ns:List Int),xs=[.ref p]/\B6 X.K H p (ns.map V.int)/\ns.length<64/\∀l,H l=none->Q (.ref l) (upd H l<|.lst<|(ns.mergeSort λa b=>decide (a<=b)).map V.int)):=by
 intro rs z H0 G H vs Q sub sh e rv q;unfold MB at e;split at e
 .rename_i r;cases el:r.list with
  |none=>rw[el]at e;cases e
  |some ps=>
   rw[el,y9]at e;cases ei:C2 ps with
   |none=>rw[ei]at e;cases e
   |some ns=>
    rw[ei,y9]at e;split at e
    .rename_i Ec;cases e;obtain⟨v,rfl,hv⟩:=rv.one;obtain⟨a,us,rfl,hq,rl⟩:=hv.list sub el;rw[JH ei rl]at hq;exact⟨a,ns,rfl,.inl hq,Ec,λl hl=>q _ _ _ (Av.E7 sub _ hl) ⟨l,_,rfl,sh.free hl,sub.free hl,Ci,Kj _⟩⟩
    .cases e
 .cases e
end
end L2.PL
namespace L2
open PySem PySem.Spec PyProof.Rows
section
variable{prog:Program}{w:World}{A:Around}{E:Value->Shared->Prop}{s:Shared}
end
section
variable{X:Cx}{pos:Pos}
end
end L2
namespace L2.PL
open PySem PySem.Spec PyProof.Rows
section
variable{X:Cx}{es:List Expr}{gs:GX}{pos:Pos}
end
section
variable{X:Cx}{a b:Expr}{fa fb:EF}{pos:Pos}
end
section
variable{X:Cx}{pos:Pos}{Ai Ac:Hp}
end
end L2.PL
namespace L2.K
open L2.PL
def VB:SF:=(AO (Aq (AR<|f2 Bk (AB 1)<|fB An<|AD (AB 0) AH) (Aj<|f2 AL (AB 0)<|AB 1) Ax)<|AO (Aa 2<|fC<|.int 0)<|AO (Aq (AR<|f2 Bq (fB An<|AD (AB 0) AH)<|fC<|.int 0) (Aa 2<|f2 AL (AB 0)<|fC<|.int 0) Ax)<|Aj<|f2 A1 (f2 AZ (f2 CK (f2 A1 (AB 2)<|fC<|.int 65521)<|fC<|.int 48271)<|f2 CK (AB 1)<|fC<|.int 30103)<|fC<|.int 65521)
def CA:List PV->Option RV:=denote 3 2 VB
def eM:SF:=(AO (F5 3 4<|AD (f2 Ab (f2 AL (AB 1)<|fC<|.int 0)<|f2 AL (AB 0)<|fC<|.int 0)<|AD (f2 Ab (f2 AL (AB 1)<|fC<|.int 1)<|f2 AL (AB 0)<|fC<|.int 1) AH)<|Aj<|f2 Ab (f2 CK (AB 3)<|f2 Ab (f2 AL (AB 2)<|fC<|.int 1)<|f2 AL (AB 0)<|fC<|.int 1)<|f2 CK (AB 4)<|f2 Ab (f2 AL (AB 2)<|fC<|.int 0)<|f2 AL (AB 0)<|fC<|.int 0)
def Dt:List PV->Option RV:=denote 5 3 eM
def VD:SF:=(AO (Bm (Bh<|AD (fB An<|AD (AB 0) AH) AH) (AV 1)<|Aq (AR<|f2 Ba (AS Dt<|AD (f2 AL (AB 0)<|f2 Ab (AB 1)<|fC<|.int 2)<|AD (f2 AL (AB 0)<|f2 Ab (AB 1)<|fC<|.int 1)<|AD (f2 AL (AB 0)<|AB 1) AH)<|fC<|.int 0) (Aj<|fC<|.bl true) Ax)<|Aj<|fC<|.bl false)
def Kz:List PV->Option RV:=denote 2 1 VD
def VL:SF:=(AO (Aa 3<|f2 A1 (AS CA<|AD (AB 0)<|AD (f2 AZ (AB 1)<|fC<|.int 1) AH)<|fC<|.int 4)<|AO (Aa 4<|fC<|.int 0)<|AO (DL 5<|A3 AH)<|AO (DL 6<|A3 AH)<|AO (Bm (C0<|AD (fC<|.int 1)<|AD (f2 Ab (AB 2)<|fC<|.int 1) AH) (AV 7)<|AO (Aa 8<|AS CA<|AD (AB 0)<|AD (f2 AZ (f2 AZ (AB 1)<|fC<|.int 4)<|AB 7) AH)<|AO (Aa 4<|f2 AZ (f2 AZ (AB 4)<|fC<|.int 1)<|f2 A1 (f2 B4 (AB 8)<|fC<|.int 2)<|fC<|.int 4)<|AO (Aa 9<|f2 AZ (fC<|.int 1)<|f2 A1 (f2 B4 (AB 8)<|fC<|.int 8)<|fC<|.int 9)<|AO (Aq (AR<|f2 Ba (AB 3)<|fC<|.int 3) (AO (Aa 4<|AB 7)<|Aa 9<|f2 CK (AB 7)<|f2 Ab (f2 Ab (AB 2)<|fC<|.int 1)<|AB 7) Ax)<|Aq (AR<|f2 Ba (f2 A1 (AB 8)<|fC<|.int 2)<|fC<|.int 0) (B0 5 CQ<|AD (Am<|AD (AB 4)<|AD (f2 Ab (fC<|.int 0)<|AB 9) AH) AH)<|B0 6 CQ<|AD (Am<|AD (AB 4)<|AD (AB 9) AH) AH)<|AO (Aa 10<|f2 AZ (f2 AZ (f2 AZ (A3<|AD (Am<|AD (fC<|.int 0)<|AD (fC<|.int 0) AH) AH)<|AB 5)<|A3<|AD (Am<|AD (f2 AZ (AB 4)<|fC<|.int 1)<|AD (fC<|.int 0) AH) AH)<|FQ<|AB 6)<|AO (Aq (AR<|AS Kz<|AD (AB 10) AH) (Aa 10<|A0 (Bh<|AD (AB 2) AH) 1 [2] (AV 0) BM<|Am<|AD (AB 0)<|AD (f2 Ab (fC<|.int 0)<|f2 CK (AB 0)<|f2 Ab (f2 Ab (AB 1)<|fC<|.int 1)<|AB 0) AH) Ax)<|Aj<|AB 10)
def Pq:List PV->Option RV:=denote 11 3 VL
def eQ:SF:=(AO (DL 2<|A3<|AD (fC<|.int 0) AH)<|AO (DL 3<|A3<|AD (fC<|.int 0) AH)<|AO (Bm (Bh<|AD (fC<|.int 5) AH) (AV 4)<|AO (Aa 5<|AS CA<|AD (AB 0)<|AD (f2 AZ (f2 AZ (AB 1)<|fC<|.int 5)<|AB 4) AH)<|AO (B0 2 CQ<|AD (f2 AZ (f2 AZ (f2 AL (AB 2)<|Ig<|fC<|.int 1)<|fC<|.int 1)<|f2 A1 (AB 5)<|fC<|.int 4) AH)<|B0 3 CQ<|AD (f2 AZ (f2 AZ (f2 AL (AB 3)<|Ig<|fC<|.int 1)<|fC<|.int 1)<|f2 A1 (f2 B4 (AB 5)<|fC<|.int 4)<|fC<|.int 4) AH)<|AO (Aa 6<|A3<|AD (Am<|AD (fC<|.int 0)<|AD (fC<|.int 0) AH)<|AD (Am<|AD (fC<|.int 5)<|AD (fC<|.int 0) AH)<|AD (Am<|AD (fC<|.int 5)<|AD (fC<|.int 5) AH)<|AD (Am<|AD (fC<|.int 1)<|AD (fC<|.int 5) AH)<|AD (Am<|AD (fC<|.int 1)<|AD (fC<|.int 2) AH)<|AD (Am<|AD (fC<|.int 3)<|AD (fC<|.int 2) AH)<|AD (Am<|AD (fC<|.int 3)<|AD (fC<|.int 3) AH)<|AD (Am<|AD (fC<|.int 2)<|AD (fC<|.int 3) AH)<|AD (Am<|AD (fC<|.int 2)<|AD (fC<|.int 4) AH)<|AD (Am<|AD (fC<|.int 4)<|AD (fC<|.int 4) AH)<|AD (Am<|AD (fC<|.int 4)<|AD (fC<|.int 1) AH)<|AD (Am<|AD (fC<|.int 0)<|AD (fC<|.int 1) AH) AH)<|Aj<|A0 (A9 false<|AB 6) 2 [2,3] (Cp 2<|BX (AV 0)<|BX (AV 1) C1) BM<|Am<|AD (f2 AL (AB 2)<|AB 0)<|AD (f2 AL (AB 3)<|AB 1) AH)
def M1:List PV->Option RV:=denote 7 2 eQ
def VA:SF:=(AO (Aa 1<|fC<|.int 0)<|AO (Bm (Bh<|AD (fB An<|AD (AB 0) AH) AH) (AV 2)<|AO (F5 3 4<|AD (f2 AL (AB 0)<|f2 Ab (AB 2)<|fC<|.int 1)<|AD (f2 AL (AB 0)<|AB 2) AH)<|Aa 1<|f2 Ab (f2 AZ (AB 1)<|f2 CK (f2 AL (AB 3)<|fC<|.int 0)<|f2 AL (AB 4)<|fC<|.int 1)<|f2 CK (f2 AL (AB 3)<|fC<|.int 1)<|f2 AL (AB 4)<|fC<|.int 0)<|Aj<|AB 1)
def Mz:List PV->Option RV:=denote 5 1 VA
def VI:SF:=(AO (Aq (AR<|f2 Bo (AS Dt<|AD (AB 0)<|AD (AB 1)<|AD (AB 2) AH)<|fC<|.int 0) (Aj<|fC<|.bl false) Ax)<|AO (Aa 3<|Am<|AD (fB GH<|AD (f2 AL (AB 0)<|fC<|.int 0)<|AD (f2 AL (AB 1)<|fC<|.int 0) AH)<|AD (fB GH<|AD (f2 AL (AB 0)<|fC<|.int 1)<|AD (f2 AL (AB 1)<|fC<|.int 1) AH) AH)<|AO (Aa 4<|Am<|AD (fB Dm<|AD (f2 AL (AB 0)<|fC<|.int 0)<|AD (f2 AL (AB 1)<|fC<|.int 0) AH)<|AD (fB Dm<|AD (f2 AL (AB 0)<|fC<|.int 1)<|AD (f2 AL (AB 1)<|fC<|.int 1) AH) AH)<|Aj<|Cy (Dx B1 B1 (f2 AL (AB 3)<|fC<|.int 0) (f2 AL (AB 2)<|fC<|.int 0)<|f2 AL (AB 4)<|fC<|.int 0)<|Dx B1 B1 (f2 AL (AB 3)<|fC<|.int 1) (f2 AL (AB 2)<|fC<|.int 1)<|f2 AL (AB 4)<|fC<|.int 1)
def HM:List PV->Option RV:=denote 5 3 VI
def VH:SF:=(AO (Aa 4<|A3<|AD (Am<|AD (AB 0)<|AD (AB 1)<|AD (AB 2) AH)<|AD (Am<|AD (AB 0)<|AD (AB 1)<|AD (AB 3) AH) AH)<|AO (Aa 4<|f2 AZ (AB 4)<|A3<|AD (Am<|AD (AB 2)<|AD (AB 3)<|AD (AB 0) AH)<|AD (Am<|AD (AB 2)<|AD (AB 3)<|AD (AB 1) AH) AH)<|AO (Bm (A9 true<|AB 4) (Cp 3<|BX (AV 5)<|BX (AV 6)<|BX (AV 7) C1)<|Aq (AR<|AS HM<|AD (AB 5)<|AD (AB 6)<|AD (AB 7) AH) (Aj<|fC<|.bl true) Ax)<|AO (Aa 8<|f2 Bo (f2 Bq (AS Dt<|AD (AB 0)<|AD (AB 1)<|AD (AB 2) AH)<|fC<|.int 0)<|f2 Bq (AS Dt<|AD (AB 0)<|AD (AB 1)<|AD (AB 3) AH)<|fC<|.int 0)<|Aj<|Cy (AB 8)<|f2 Bo (f2 Bq (AS Dt<|AD (AB 2)<|AD (AB 3)<|AD (AB 0) AH)<|fC<|.int 0)<|f2 Bq (AS Dt<|AD (AB 2)<|AD (AB 3)<|AD (AB 1) AH)<|fC<|.int 0)
def HL:List PV->Option RV:=denote 9 4 VH
def VE:SF:=(AO (Aa 1<|fB An<|AD (AB 0) AH)<|AO (Aq (CF (CO<|AR<|Dx B1 B1 (fC<|.int 3) (AB 1)<|fC<|.int 12)<|AR<|f2 Bq (fB An<|AD (A0 (A9 false<|AB 0) 2 [] (Cp 2<|BX (AV 0)<|BX (AV 1) C1) (AR<|f2 Bq (fB Dm<|AD (fB C3<|AD (AB 0) AH)<|AD (fB C3<|AD (AB 1) AH) AH)<|fC<|.int 100)<|fC<|.int 1) AH)<|fC<|.int 0) (Aj<|fC<|.bl false) Ax)<|AO (Aq (CF (AR<|f2 Bo (Hd<|AB 0)<|AB 1)<|CF (AR<|AS Kz<|AD (AB 0) AH)<|AR<|f2 B1 (AS Mz<|AD (AB 0) AH)<|fC<|.int 0) (Aj<|fC<|.bl false) Ax)<|AO (Bm (Bh<|AD (AB 1) AH) (AV 2)<|Bm (Bh<|AD (AB 2) AH) (AV 3)<|Aq (AR<|f2 (BB true) (f2 A1 (f2 Ab (AB 2)<|AB 3)<|AB 1)<|A3<|AD (fC<|.int 1)<|AD (f2 Ab (AB 1)<|fC<|.int 1) AH) (Aq (AR<|AS HL<|AD (f2 AL (AB 0)<|f2 Ab (AB 2)<|fC<|.int 1)<|AD (f2 AL (AB 0)<|AB 2)<|AD (f2 AL (AB 0)<|f2 Ab (AB 3)<|fC<|.int 1)<|AD (f2 AL (AB 0)<|AB 3) AH) (Aj<|fC<|.bl false) Ax) Ax)<|Aj<|fC<|.bl true)
def K0:List PV->Option RV:=denote 4 1 VE
def eL:SF:=(AO (Bm (Bh<|AD (f2 A1 (f2 B4 (AS CA<|AD (AB 0)<|AD (f2 AZ (AB 1)<|fC<|.int 1) AH)<|fC<|.int 4)<|fC<|.int 5) AH) (AV 3)<|AO (Aa 4<|AS CA<|AD (AB 0)<|AD (f2 AZ (f2 AZ (AB 1)<|fC<|.int 15)<|AB 3) AH)<|AO (Aa 5<|f2 A1 (AB 4)<|fB An<|AD (AB 2) AH)<|AO (Aa 6<|f2 Ab (f2 AZ (f2 AL (f2 AL (AB 2)<|AB 5)<|fC<|.int 0)<|f2 A1 (f2 B4 (AB 4)<|fC<|.int 16)<|fC<|.int 33)<|fC<|.int 16)<|AO (Aa 7<|f2 Ab (f2 AZ (f2 AL (f2 AL (AB 2)<|AB 5)<|fC<|.int 1)<|f2 A1 (f2 B4 (AB 4)<|fC<|.int 1024)<|fC<|.int 33)<|fC<|.int 16)<|AO (Aa 8<|f2 AZ (f2 AZ (Co (AB 2) Cz<|Cn<|AB 5)<|A3<|AD (Am<|AD (AB 6)<|AD (AB 7) AH) AH)<|Co (AB 2) (Cn<|f2 AZ (AB 5)<|fC<|.int 1) Cz)<|Aq (CN (AR<|f2 Bk (fB Dm<|AD (fB C3<|AD (AB 6) AH)<|AD (fB C3<|AD (AB 7) AH) AH)<|fC<|.int 80)<|AR<|AS K0<|AD (AB 8) AH) (Aa 2<|AB 8) Ax)<|Aj<|AB 2)
def Pr:List PV->Option RV:=denote 9 3 eL
def VN:SF:=(AO (Aa 3<|AS CA<|AD (AB 0)<|AD (AB 1) AH)<|AO (Aa 4<|AS Pq<|AD (AB 0)<|AD (AB 1)<|AD (f2 AZ (fC<|.int 3)<|f2 A1 (AB 3)<|f2 Ab (AB 2)<|fC<|.int 2) AH)<|AO (Aq (CN (AR<|f2 Ba (AB 2)<|fC<|.int 12)<|AR<|f2 Ba (f2 A1 (f2 B4 (AS CA<|AD (AB 0)<|AD (f2 AZ (AB 1)<|fC<|.int 1) AH)<|fC<|.int 20)<|fC<|.int 6)<|fC<|.int 5) (Aa 4<|AS M1<|AD (AB 0)<|AD (AB 1) AH) Ax)<|AO (Aa 5<|f2 Ab (f2 A1 (f2 B4 (AS CA<|AD (AB 0)<|AD (f2 AZ (AB 1)<|fC<|.int 2) AH)<|fC<|.int 8)<|fC<|.int 3)<|fC<|.int 1)<|AO (Aa 4<|AS Pr<|AD (AB 0)<|AD (AB 1)<|AD (A0 (A9 false<|AB 4) 2 [5] (Cp 2<|BX (AV 0)<|BX (AV 1) C1) BM<|Am<|AD (f2 AZ (AB 0)<|f2 CK (AB 2)<|AB 1)<|AD (AB 1) AH) AH)<|AO (Aa 6<|f2 A1 (AS CA<|AD (AB 0)<|AD (f2 AZ (AB 1)<|fC<|.int 2) AH)<|fC<|.int 8)<|AO (Aq (AR<|f2 Ba (f2 A1 (AB 6)<|fC<|.int 2)<|fC<|.int 1) (Aa 4<|FQ<|A0 (A9 false<|AB 4) 2 [] (Cp 2<|BX (AV 0)<|BX (AV 1) C1) BM<|Am<|AD (f2 Ab (fC<|.int 0)<|AB 0)<|AD (AB 1) AH) Ax)<|AO (Aq (AR<|f2 Ba (f2 A1 (f2 B4 (AB 6)<|fC<|.int 2)<|fC<|.int 2)<|fC<|.int 1) (Aa 4<|FQ<|A0 (A9 false<|AB 4) 2 [] (Cp 2<|BX (AV 0)<|BX (AV 1) C1) BM<|Am<|AD (AB 0)<|AD (f2 Ab (fC<|.int 0)<|AB 1) AH) Ax)<|AO (Aq (AR<|f2 Ba (f2 B4 (AB 6)<|fC<|.int 4)<|fC<|.int 1) (Aa 4<|FQ<|A0 (A9 false<|AB 4) 2 [] (Cp 2<|BX (AV 0)<|BX (AV 1) C1) BM<|Am<|AD (AB 1)<|AD (AB 0) AH) Ax)<|AO (Aa 7<|f2 A1 (AS CA<|AD (AB 0)<|AD (f2 AZ (AB 1)<|fC<|.int 3) AH)<|fB An<|AD (AB 4) AH)<|AO (Aa 8<|f2 Ab (f2 A1 (f2 B4 (AS CA<|AD (AB 0)<|AD (f2 AZ (AB 1)<|fC<|.int 3) AH)<|fC<|.int 16)<|fC<|.int 41)<|fC<|.int 20)<|AO (Aa 9<|f2 Ab (f2 A1 (AS CA<|AD (AB 0)<|AD (f2 AZ (AB 1)<|fC<|.int 4) AH)<|fC<|.int 41)<|fC<|.int 20)<|Aj<|A0 (A9 false<|f2 AZ (Co (AB 4) (Cn<|AB 7) Cz)<|Co (AB 4) Cz<|Cn<|AB 7) 2 [8,9] (Cp 2<|BX (AV 0)<|BX (AV 1) C1) BM<|Am<|AD (f2 AZ (AB 0)<|AB 2)<|AD (f2 AZ (AB 1)<|AB 3) AH)
def Pu:List PV->Option RV:=denote 10 3 VN
def VG:SF:=(AO (Aa 3<|fB An<|AD (AB 0) AH)<|AO (Aq (CF (CO<|AR<|Dy B1 Bk Bk (fC<|.int 0) (AB 1) (AB 2)<|AB 3)<|AR<|f2 (BB false) (f2 Ab (AB 2)<|AB 1)<|A3<|AD (fC<|.int 1)<|AD (f2 Ab (AB 3)<|fC<|.int 1) AH) (Aj<|fC<|.bl false) Ax)<|AO (F5 4 5<|AD (f2 AL (AB 0)<|AB 1)<|AD (f2 AL (AB 0)<|AB 2) AH)<|AO (Bm (Bh<|AD (AB 3) AH) (AV 6)<|AO (Aq (CN (AR<|f2 (BB true) (AB 6)<|A3<|AD (AB 1)<|AD (AB 2) AH)<|AR<|AS HM<|AD (AB 4)<|AD (AB 5)<|AD (f2 AL (AB 0)<|AB 6) AH) (Aj<|fC<|.bl false) Ax)<|AO (Aa 7<|f2 A1 (f2 AZ (AB 6)<|fC<|.int 1)<|AB 3)<|Aq (CN (AR<|f2 (BB true) (AB 6)<|A3<|AD (AB 1)<|AD (AB 2) AH)<|AR<|f2 (BB true) (AB 7)<|A3<|AD (AB 1)<|AD (AB 2) AH) (Aq (AR<|AS HL<|AD (AB 4)<|AD (AB 5)<|AD (f2 AL (AB 0)<|AB 6)<|AD (f2 AL (AB 0)<|AB 7) AH) (Aj<|fC<|.bl false) Ax) Ax)<|AO (Aa 8<|f2 Bq (AS Dt<|AD (AB 4)<|AD (f2 AL (AB 0)<|f2 A1 (f2 AZ (AB 1)<|fC<|.int 1)<|AB 3)<|AD (AB 5) AH)<|fC<|.int 0)<|AO (Aa 9<|f2 Bq (AS Dt<|AD (f2 AL (AB 0)<|f2 Ab (AB 1)<|fC<|.int 1)<|AD (AB 4)<|AD (AB 5) AH)<|fC<|.int 0)<|AO (Aq (AR<|f2 Bq (AS Dt<|AD (f2 AL (AB 0)<|f2 Ab (AB 1)<|fC<|.int 1)<|AD (AB 4)<|AD (f2 AL (AB 0)<|f2 A1 (f2 AZ (AB 1)<|fC<|.int 1)<|AB 3) AH)<|fC<|.int 0) (Aj<|Cy (AB 8)<|AB 9) Ax)<|Aj<|DK (AB 8)<|AB 9)
def Jk:List PV->Option RV:=denote 10 3 VG
def VF:SF:=(AO (Aa 1<|fB An<|AD (AB 0) AH)<|AO (Nj 2 Qj)<|AO (Bm (Bh<|AD (AB 1) AH) (AV 3)<|Bm (Bh<|AD (AB 3) AH) (AV 4)<|Hg 2 (AD (AB 4)<|AD (AB 3) AH)<|DK (f2 (BB false) (f2 Ab (AB 3)<|AB 4)<|A3<|AD (fC<|.int 1)<|AD (f2 Ab (AB 1)<|fC<|.int 1) AH)<|AS Jk<|AD (AB 0)<|AD (AB 4)<|AD (AB 3) AH)<|Ni 2)
def Po:List PV->Option RV:=denote 5 1 VF
def VC:SF:=(AO (Aa 3<|AS Po<|AD (AB 2) AH)<|AO (DL 4<|A3 AH)<|AO (DL 5<|A3<|AD (Am<|AD (fC<|.int 0)<|AD (f2 Ab (fB An<|AD (AB 2) AH)<|fC<|.int 1) AH) AH)<|AO (Lf (AR<|f2 Bq (fB An<|AD (AB 5) AH)<|fC<|.int 0)<|AO (Io 5<|Cp 2<|BX (AV 6)<|BX (AV 7) C1)<|Aq (AR<|f2 Bq (f2 Ab (AB 7)<|AB 6)<|fC<|.int 1) (AO (Aa 8<|A0 (C0<|AD (f2 AZ (AB 6)<|fC<|.int 1)<|AD (AB 7) AH) 1 [3,6,7] (AV 0) (CN (AR<|Gq (AB 1)<|AD (AB 2)<|AD (AB 0) AH)<|AR<|Gq (AB 1)<|AD (AB 0)<|AD (AB 3) AH)<|AB 0)<|AO (Aa 9<|f2 AL (AB 8)<|f2 A1 (f2 B4 (AS CA<|AD (AB 0)<|AD (f2 AZ (AB 1)<|AB 6) AH)<|f2 AZ (fC<|.int 1)<|AB 7)<|fB An<|AD (AB 8) AH)<|AO (DL 5<|f2 AZ (AB 5)<|A3<|AD (Am<|AD (AB 6)<|AD (AB 9) AH)<|AD (Am<|AD (AB 9)<|AD (AB 7) AH) AH)<|Aq (AR<|f2 Bk (f2 Ab (AB 7)<|AB 6)<|f2 Ab (fB An<|AD (AB 2) AH)<|fC<|.int 1) (B0 4 CQ<|AD (Am<|AD (AB 6)<|AD (AB 7) AH) AH) Ax) Ax)<|Aj<|fB KJ<|AD (AB 4) AH)
def Pn:List PV->Option RV:=denote 10 3 VC
def VJ:SF:=(AO (Aa 2<|fB An<|AD (AB 0) AH)<|AO (DL 3<|A3 AH)<|AO (Bm (Bh<|AD (AB 2) AH) (AV 4)<|Bm (C0<|AD (f2 AZ (AB 4)<|fC<|.int 1)<|AD (AB 2) AH) (AV 5)<|Bm (C0<|AD (f2 AZ (AB 5)<|fC<|.int 1)<|AD (AB 2) AH) (AV 6)<|AO (Aa 7<|A3<|AD (Am<|AD (AB 4)<|AD (AB 5) AH)<|AD (Am<|AD (AB 5)<|AD (AB 6) AH)<|AD (Am<|AD (AB 4)<|AD (AB 6) AH) AH)<|Aq (AR<|f2 Ba (fB An<|AD (A0 (A9 false<|AB 7) 1 [1,2] (AV 0) (CF (AR<|f2 (BB false) (f2 Ab (f2 AL (AB 0)<|fC<|.int 1)<|f2 AL (AB 0)<|fC<|.int 0)<|A3<|AD (fC<|.int 1)<|AD (f2 Ab (AB 2)<|fC<|.int 1) AH)<|AR<|f2 (Dk false) (AB 0)<|AB 1)<|AB 0) AH)<|fC<|.int 3) (B0 3 CQ<|AD (Am<|AD (AB 4)<|AD (AB 5)<|AD (AB 6) AH) AH) Ax)<|Ld 3)
def Pp:List PV->Option RV:=denote 8 2 VJ
def U1:SF:=(Aj<|fB Dj<|AD (A0 (A9 false<|AB 0) 1 [] (AV 0) BM<|Cy (f2 B1 (fB C3<|AD (f2 AL (AB 0)<|fC<|.int 0) AH)<|fC<|.int 100)<|f2 B1 (fB C3<|AD (f2 AL (AB 0)<|fC<|.int 1) AH)<|fC<|.int 100) AH)
def Mt:List PV->Option RV:=denote 1 1 U1
def VU:SF:=(Aj<|f2 Ab (f2 CK (f2 Ab (f2 AL (AB 1)<|fC<|.int 0)<|f2 AL (AB 0)<|fC<|.int 0)<|f2 Ab (f2 AL (AB 2)<|fC<|.int 1)<|f2 AL (AB 0)<|fC<|.int 1)<|f2 CK (f2 Ab (f2 AL (AB 1)<|fC<|.int 1)<|f2 AL (AB 0)<|fC<|.int 1)<|f2 Ab (f2 AL (AB 2)<|fC<|.int 0)<|f2 AL (AB 0)<|fC<|.int 0)
def EX:List PV->Option RV:=denote 3 3 VU
def eC:SF:=(Aj<|fB Dj<|AD (A0 (Bh<|AD (fB An<|AD (AB 0) AH) AH) 1 [0] (AV 0) BM<|f2 Bo (AS EX<|AD (f2 AL (AB 1)<|f2 Ab (AB 0)<|fC<|.int 2)<|AD (f2 AL (AB 1)<|f2 Ab (AB 0)<|fC<|.int 1)<|AD (f2 AL (AB 1)<|AB 0) AH)<|fC<|.int 0) AH)
def Pc:List PV->Option RV:=denote 1 1 eC
def eX:SF:=(Aj<|A0 (Bh<|AD (fB An<|AD (AB 0) AH) AH) 1 [0] (AV 0) BM<|Am<|AD (f2 AL (AB 1)<|AB 0)<|AD (f2 AL (AB 1)<|f2 A1 (f2 AZ (AB 0)<|fC<|.int 1)<|fB An<|AD (AB 1) AH) AH)
def HP:List PV->Option RV:=denote 1 1 eX
def U2:SF:=(Aj<|f2 (BB false) (f2 A1 (f2 Ab (AB 2)<|AB 1)<|AB 0)<|Am<|AD (fC<|.int 1)<|AD (f2 Ab (AB 0)<|fC<|.int 1) AH)
def GW:List PV->Option RV:=denote 3 3 U2
def VQ:SF:=(AO (Aa 2<|AS EX<|AD (f2 AL (AB 0)<|fC<|.int 0)<|AD (f2 AL (AB 0)<|fC<|.int 1)<|AD (f2 AL (AB 1)<|fC<|.int 0) AH)<|AO (Aa 3<|AS EX<|AD (f2 AL (AB 0)<|fC<|.int 0)<|AD (f2 AL (AB 0)<|fC<|.int 1)<|AD (f2 AL (AB 1)<|fC<|.int 1) AH)<|Aj<|DK (Cy (f2 Bk (AB 2)<|fC<|.int 0)<|f2 Bq (AB 3)<|fC<|.int 0)<|Cy (f2 Bq (AB 2)<|fC<|.int 0)<|f2 Bk (AB 3)<|fC<|.int 0)
def K2:List PV->Option RV:=denote 4 2 VQ
def Qa:SF:=(AO (Aa 2<|f2 AL (AB 1)<|fC<|.int 0)<|AO (Aa 3<|f2 AL (AB 1)<|fC<|.int 1)<|AO (Aq (AR<|f2 Bo (AS EX<|AD (AB 2)<|AD (AB 3)<|AD (AB 0) AH)<|fC<|.int 0) (Aj<|fC<|.bl false) Ax)<|AO (Aa 4<|Dx B1 B1 (fB GH<|AD (f2 AL (AB 2)<|fC<|.int 0)<|AD (f2 AL (AB 3)<|fC<|.int 0) AH) (f2 AL (AB 0)<|fC<|.int 0)<|fB Dm<|AD (f2 AL (AB 2)<|fC<|.int 0)<|AD (f2 AL (AB 3)<|fC<|.int 0) AH)<|AO (Aa 5<|Dx B1 B1 (fB GH<|AD (f2 AL (AB 2)<|fC<|.int 1)<|AD (f2 AL (AB 3)<|fC<|.int 1) AH) (f2 AL (AB 0)<|fC<|.int 1)<|fB Dm<|AD (f2 AL (AB 2)<|fC<|.int 1)<|AD (f2 AL (AB 3)<|fC<|.int 1) AH)<|Aj<|Cy (AB 4)<|AB 5)
def Fp:List PV->Option RV:=denote 6 2 Qa
def VO:SF:=(AO (Aq (CN (AR<|AS K2<|AD (AB 0)<|AD (AB 1) AH)<|AR<|AS K2<|AD (AB 1)<|AD (AB 0) AH) (Aj<|fC<|.bl true) Ax)<|AO (Aa 2<|DK (AS Fp<|AD (f2 AL (AB 1)<|fC<|.int 0)<|AD (AB 0) AH)<|AS Fp<|AD (f2 AL (AB 1)<|fC<|.int 1)<|AD (AB 0) AH)<|AO (Aa 3<|DK (AS Fp<|AD (f2 AL (AB 0)<|fC<|.int 0)<|AD (AB 1) AH)<|AS Fp<|AD (f2 AL (AB 0)<|fC<|.int 1)<|AD (AB 1) AH)<|Aj<|DK (AB 2)<|AB 3)
def HN:List PV->Option RV:=denote 4 2 VO
def VW:SF:=(AO (Aa 1<|AS HP<|AD (AB 0) AH)<|AO (Bm (Bh<|AD (fB An<|AD (AB 1) AH) AH) (AV 2)<|Bm (C0<|AD (f2 AZ (AB 2)<|fC<|.int 1)<|AD (fB An<|AD (AB 1) AH) AH) (AV 3)<|Aq (CN (CO<|AR<|AS GW<|AD (fB An<|AD (AB 1) AH)<|AD (AB 2)<|AD (AB 3) AH)<|AR<|AS HN<|AD (f2 AL (AB 1)<|AB 2)<|AD (f2 AL (AB 1)<|AB 3) AH) (Aj<|fC<|.bl false) Ax)<|Aj<|fC<|.bl true)
def P1:List PV->Option RV:=denote 4 1 VW
def eK:SF:=(Aj<|fB G9<|AD (A0 (A9 false<|AS HP<|AD (AB 0) AH) 1 [] (AV 0) BM<|AS EX<|AD (fC<|.tup [(.int 0),(.int 0)])<|AD (f2 AL (AB 0)<|fC<|.int 0)<|AD (f2 AL (AB 0)<|fC<|.int 1) AH) AH)
def Ph:List PV->Option RV:=denote 1 1 eK
def U8:SF:=(AO (Aq (CO<|AR<|Dx B1 B1 (fC<|.int 3) (fB An<|AD (AB 0) AH)<|fC<|.int 12) (Aj<|fC<|.bl false) Ax)<|AO (Aq (AR<|f2 Bo (Hd<|AB 0)<|fB An<|AD (AB 0) AH) (Aj<|fC<|.bl false) Ax)<|Aj<|Cy (AS Mt<|AD (AB 0) AH)<|Cy (AS Pc<|AD (AB 0) AH)<|Cy (AS P1<|AD (AB 0) AH)<|f2 Bq (AS Ph<|AD (AB 0) AH)<|fC<|.int 0)
def Pk:List PV->Option RV:=denote 1 1 U8
def U4:SF:=(Aq (CO<|AR<|AS Pk<|AD (AB 0) AH) Nh Ax)
def Pe:List PV->Option RV:=denote 1 1 U4
def eW:SF:=(Aj<|fB Dj<|AD (A0 (C0<|AD (fC<|.int 1)<|AD (fB An<|AD (AB 0) AH) AH) 1 [0] (AV 0) BM<|f2 (KI Er) (f2 AL (AB 1)<|f2 Ab (AB 0)<|fC<|.int 1)<|f2 AL (AB 1)<|AB 0) AH)
def Pz:List PV->Option RV:=denote 1 1 eW
def eT:SF:=(AO (Aa 2<|f2 Bq (f2 AL (f2 AL (AB 0)<|fC<|.int 0)<|fC<|.int 1)<|f2 AL (AB 1)<|fC<|.int 1)<|AO (Aa 3<|f2 Bq (f2 AL (f2 AL (AB 0)<|fC<|.int 1)<|fC<|.int 1)<|f2 AL (AB 1)<|fC<|.int 1)<|AO (Aq (AR<|f2 Ba (AB 2)<|AB 3) (Aj<|fC<|.bl false) Ax)<|AO (Aa 4<|AS EX<|AD (f2 AL (AB 0)<|fC<|.int 0)<|AD (f2 AL (AB 0)<|fC<|.int 1)<|AD (AB 1) AH)<|Aj<|Gr (AR<|AB 3) (f2 Bq (AB 4)<|fC<|.int 0)<|f2 Bk (AB 4)<|fC<|.int 0)
def M3:List PV->Option RV:=denote 5 2 eT
def VR:SF:=(AO (Aq (AR<|fB Hv<|AD (A0 (A9 false<|AB 0) 1 [1] (AV 0) BM<|AS Fp<|AD (AB 1)<|AD (AB 0) AH) AH) (Aj<|fC<|.str "on") Ax)<|AO (Aa 2<|A0 (A9 false<|AB 0) 1 [1] (AV 0) (AR<|AS M3<|AD (AB 0)<|AD (AB 1) AH)<|AB 0)<|Aj<|Gr (AR<|f2 Ba (f2 A1 (fB An<|AD (AB 2) AH)<|fC<|.int 2)<|fC<|.int 1) (fC<|.str "in")<|fC<|.str "out")
def Py:List PV->Option RV:=denote 3 2 VR
def VP:SF:=(AO (Aa 2<|A0 (A9 false<|AB 0) 1 [] (AV 0) BM<|Am<|AD (f2 CK (fC<|.int 2)<|f2 AL (AB 0)<|fC<|.int 0)<|AD (f2 CK (fC<|.int 2)<|f2 AL (AB 0)<|fC<|.int 1) AH)<|AO (Aa 3<|Am<|AD (f2 AZ (f2 AL (f2 AL (AB 1)<|fC<|.int 0)<|fC<|.int 0)<|f2 AL (f2 AL (AB 1)<|fC<|.int 1)<|fC<|.int 0)<|AD (f2 AZ (f2 AL (f2 AL (AB 1)<|fC<|.int 0)<|fC<|.int 1)<|f2 AL (f2 AL (AB 1)<|fC<|.int 1)<|fC<|.int 1) AH)<|Aj<|f2 Ba (AS Py<|AD (AS HP<|AD (AB 2) AH)<|AD (AB 3) AH)<|fC<|.str "in")
def Pw:List PV->Option RV:=denote 4 2 VP
def U7:SF:=(AO (Aq (CF (CO<|AR<|Dy B1 Bk Bk (fC<|.int 0) (AB 1) (AB 2)<|fB An<|AD (AB 0) AH)<|AR<|AS GW<|AD (fB An<|AD (AB 0) AH)<|AD (AB 1)<|AD (AB 2) AH) (Aj<|fC<|.bl false) Ax)<|AO (Aa 3<|Am<|AD (f2 AL (AB 0)<|AB 1)<|AD (f2 AL (AB 0)<|AB 2) AH)<|AO (Aa 4<|A0 (A9 false<|AS HP<|AD (AB 0) AH) 1 [3] (AV 0) (CN (AR<|f2 (Dk true) (f2 AL (AB 1)<|fC<|.int 0)<|AB 0)<|AR<|f2 (Dk true) (f2 AL (AB 1)<|fC<|.int 1)<|AB 0)<|AB 0)<|AO (Aq (AR<|fB Hv<|AD (A0 (A9 false<|AB 4) 1 [3] (AV 0) BM<|AS HN<|AD (AB 1)<|AD (AB 0) AH) AH) (Aj<|fC<|.bl false) Ax)<|Aj<|AS Pw<|AD (AB 0)<|AD (AB 3) AH)
def Mx:List PV->Option RV:=denote 5 3 U7
def eG:SF:=(Aj<|DK (Dy Bk Bk Bk (f2 AL (AB 0)<|fC<|.int 0) (f2 AL (AB 1)<|fC<|.int 0) (f2 AL (AB 0)<|fC<|.int 1)<|f2 AL (AB 1)<|fC<|.int 1)<|Dy Bk Bk Bk (f2 AL (AB 1)<|fC<|.int 0) (f2 AL (AB 0)<|fC<|.int 0) (f2 AL (AB 1)<|fC<|.int 1)<|f2 AL (AB 0)<|fC<|.int 1)
def Mv:List PV->Option RV:=denote 2 2 eG
def eI:SF:=(Aj<|Ih<|fB Hv<|AD (A0 (A9 false<|AB 1) 1 [0] (AV 0) BM<|AS Mv<|AD (AB 1)<|AD (AB 0) AH) AH)
def Pf:List PV->Option RV:=denote 2 2 eI
def eJ:SF:=(AO (Aq (AR<|f2 Bo (fB An<|AD (AB 1) AH)<|f2 Ab (fB An<|AD (AB 0) AH)<|fC<|.int 3) (Aj<|fC<|.bl false) Ax)<|AO (Aq (CF (CO<|AR<|AS Pz<|AD (AB 1) AH)<|CO<|AR<|fB Dj<|AD (A0 (A9 false<|AB 1) 1 [0] (AV 0) BM<|AS Mx<|AD (AB 1)<|AD (f2 AL (AB 0)<|fC<|.int 0)<|AD (f2 AL (AB 0)<|fC<|.int 1) AH) AH) (Aj<|fC<|.bl false) Ax)<|Aj<|fB Dj<|AD (A0 (Bh<|AD (fB An<|AD (AB 1) AH) AH) 1 [1] (AV 0) BM<|AS Pf<|AD (f2 AL (AB 1)<|AB 0)<|AD (Co (AB 1) Cz<|Cn<|AB 0) AH) AH)
def Pg:List PV->Option RV:=denote 2 2 eJ
def U3:SF:=(Aq (CO<|AR<|AS Pg<|AD (AB 0)<|AD (AB 1) AH) Nh Ax)
def Pd:List PV->Option RV:=denote 2 2 U3
def eE:SF:=(Aj<|DK (AS GW<|AD (AB 0)<|AD (AB 2)<|AD (AB 3) AH)<|f2 (Dk false) (Am<|AD (fB GH<|AD (AB 2)<|AD (AB 3) AH)<|AD (fB Dm<|AD (AB 2)<|AD (AB 3) AH) AH)<|AB 1)
def HK:List PV->Option RV:=denote 4 4 eE
def VS:SF:=(AO (Aa 3<|A0 (Bh<|AD (AB 0) AH) 1 [0,1,2] (AV 0) (AR<|AS HK<|AD (AB 1)<|AD (AB 2)<|AD (AB 0)<|AD (f2 AL (AB 3)<|fC<|.int 0) AH)<|AB 0)<|Aj<|A0 (A9 false<|AB 3) 1 [0,1,2] (AV 0) (AR<|AS HK<|AD (AB 1)<|AD (AB 2)<|AD (AB 0)<|AD (f2 AL (AB 3)<|fC<|.int 1) AH)<|AB 0)
def K3:List PV->Option RV:=denote 4 3 VS
def VT:SF:=(AO (DL 2<|A3 AH)<|AO (Bm (Bh<|AD (AB 0) AH) (AV 3)<|Bm (C0<|AD (f2 AZ (AB 3)<|fC<|.int 1)<|AD (AB 0) AH) (AV 4)<|Aq (AR<|AS HK<|AD (AB 0)<|AD (AB 1)<|AD (AB 3)<|AD (AB 4) AH) (AO (Aa 5<|AS K3<|AD (AB 0)<|AD (AB 1)<|AD (Am<|AD (AB 3)<|AD (AB 4) AH) AH)<|B0 2 JK<|AD (A0 (A9 false<|AB 5) 1 [4,3] (AV 0) (AR<|f2 Bq (AB 0)<|AB 1)<|Am<|AD (AB 2)<|AD (AB 1)<|AD (AB 0) AH) AH) Ax)<|Ld 2)
def P0:List PV->Option RV:=denote 6 2 VT
def U6:SF:=(AO (Qs 2 [(0,0),(1,1)])<|AO (Lf (AR<|f2 Bk (LV 2)<|AB 0)<|Bm (A9 true<|AB 1) (AV 3)<|AO (Aa 4<|A0 (Dz<|AB 3) 1 [2] (AV 0) (Ex true 1<|AB 0)<|AB 0)<|Aq (AR<|f2 Ba (fB An<|AD (AB 4) AH)<|fC<|.int 1) (AO (Aa 5<|A0 (Dz<|AB 3) 1 [2] (AV 0) (Ex false 1<|AB 0)<|Ie 1<|AB 0)<|Im 2 (f2 AL (AB 4)<|fC<|.int 0)<|f2 Ab (fB KN<|AD (fC<|.tup [(.int 0),(.int 1),(.int 2)]) AH)<|fB G9<|AD (AB 5) AH) Ax)<|Aj<|A0 (Bh<|AD (AB 0) AH) 1 [2] (AV 0) BM<|Ie 1<|AB 0)
def Pj:List PV->Option RV:=denote 6 2 U6
def U5:SF:=(AO (Il<|AS Pe<|AD (AB 0) AH)<|AO (Il<|AS Pd<|AD (AB 0)<|AD (AB 1) AH)<|Aj<|AS Pj<|AD (fB An<|AD (AB 0) AH)<|AD (AS P0<|AD (fB An<|AD (AB 0) AH)<|AD (AB 1) AH) AH)
def Mw:List PV->Option RV:=denote 2 2 U5
def eO:SF:=(Aj<|Cy (F2 "int"<|AB 0)<|Ih<|F2 "bool"<|AB 0)
def Jm:List PV->Option RV:=denote 1 1 eO
def VM:SF:=(AO (Aq (CF (CO<|AR<|F2 "list"<|AB 0)<|CF (AR<|f2 Bo (fB An<|AD (AB 0) AH)<|AB 2)<|CO<|AR<|fB Dj<|AD (A0 (A9 false<|AB 0) 1 [] (AV 0) BM<|AS Jm<|AD (AB 0) AH) AH) (Aj<|fC<|.bl false) Ax)<|AO (Aq (AR<|f2 Bo (Co (AB 0) Cz<|Cn<|fC<|.int 2)<|A3<|AD (fC<|.int 0)<|AD (fC<|.int 1) AH) (Aj<|fC<|.bl false) Ax)<|AO (Bm (A9 true<|AB 1) (AV 3)<|Aq (AR<|f2 Bo (fB MB<|AD (A0 (Dz<|AB 3) 1 [0] (AV 0) BM<|f2 AL (AB 1)<|AB 0) AH)<|A3<|AD (fC<|.int 0)<|AD (fC<|.int 1)<|AD (fC<|.int 2) AH) (Aj<|fC<|.bl false) Ax)<|Aj<|fC<|.bl true)
def Jl:List PV->Option RV:=denote 4 3 VM
def U9:SF:=(AO (Aa 1<|AS Pu<|AD (AB 0)<|AD (fC<|.int 0)<|AD (fC<|.int 12) AH)<|AO (Aa 2<|AS Pn<|AD (AB 0)<|AD (fC<|.int 20)<|AD (AB 1) AH)<|AO (Aa 3<|AS Pp<|AD (AB 1)<|AD (AB 2) AH)<|AO (Aa 4<|A3<|AD (fB MA<|AD (AB 1) AH)<|AD (fB MA<|AD (AB 2) AH) AH)<|AO (Bm (Bh<|AD (fC<|.int 2) AH) (AV 5)<|AO (DL 6<|AS Mw<|AD (f2 AL (AB 4)<|fC<|.int 0)<|AD (f2 AL (AB 4)<|fC<|.int 1) AH)<|AO (Aq (CF (CO<|AR<|Hc Jl<|AD (AB 6)<|AD (AB 3)<|AD (fB An<|AD (AB 1) AH) AH)<|AR<|f2 Bo (AB 4)<|A3<|AD (AB 1)<|AD (AB 2) AH) (Aj<|fC<|.bl false) Ax)<|AO (Le 6 (fC<|.int 0)<|fC<|.int 1)<|B0 6 CQ<|AD (fC<|.int 0) AH)<|Aj<|fC<|.bl true)
def My:List PV->Option RV:=denote 7 1 U9
end L2.K
set_option linter.all false
set_option tactic.hygienic false
namespace AN
abbrev Pt:=Int×Int
noncomputable def AG(a b p:Pt):Int:=(b.1-a.1)*(p.2-a.2)-(b.2-a.2)*(p.1-a.1)
def Ak(a b p:Pt):Bool:=decide (AG a b p=0)&&(decide (min a.1 b.1<=p.1/\p.1<=max a.1 b.1)&&decide (min a.2 b.2<=p.2/\p.2<=max a.2 b.2))
def On(a b p:Pt):Prop:=AG a b p=0/\(min a.1 b.1<=p.1/\p.1<=max a.1 b.1)/\(min a.2 b.2<=p.2/\p.2<=max a.2 b.2)
theorem E9{a b p:Pt}:Ak a b p=true↔On a b p:=by simp[Ak,On]
theorem ND{p q u d:Int}(hq:0<q)(h0:0<=p)(h1:p<=q)(e:q*u=p*d):(0<=u/\u<=d)\/(d<=u/\u<=0):=by
 rcases AAG 0 d with hd|hd
 .left;have h2:0<=q*u:=by rw[e];exact yT h0 hd
  have h3:q*u<=q*d:=by rw[e];exact y8 h1 hd
  exact⟨zm (by simpa using h2) hq,zm h3 hq⟩
 .right;have h2:q*u<=0:=by rw[e];exact yg h0 hd
  have h3:q*d<=q*u:=by rw[e];exact Int.mul_le_mul_of_nonpos_right h1 hd
  exact⟨zm h3 hq,zm (by simpa using h2) hq⟩
theorem l5{a b c d:Pt}(h:AG a b c=0)(hs:(AG c d a>0/\AG c d b<=0)\/(AG c d a<=0/\AG c d b>0)\/(AG c d a<0/\AG c d b>=0)\/(AG c d a>=0/\AG c d b<0)):On a b c:=by
 refine⟨h,?_⟩;obtain⟨a1,a2⟩:=a;obtain⟨b1,b2⟩:=b;obtain⟨c1,c2⟩:=c;obtain⟨d1,d2⟩:=d;simp only[AG]at *
 have key:∀p q:Int,0<q->0<=p->p<=q->q*(c1-a1)=p*(b1-a1)->q*(c2-a2)=p*(b2-a2)->(min a1 b1<=c1/\c1<=max a1 b1)/\(min a2 b2<=c2/\c2<=max a2 b2):=by intro p q h1 h2 h3 e1 e2;have r1:=ND h1 h2 h3 e1;have r2:=ND h1 h2 h3 e2;lia
 generalize hu:(d1-c1)*(c2-a2)-(d2-c2)*(c1-a1)=eu;generalize hd:(d1-c1)*(b2-a2)-(d2-c2)*(b1-a1)=ed;have i1:(d1-c1)*(a2-c2)-(d2-c2)*(a1-c1) = -eu:=by rw[<-hu];grind
 have i2:(d1-c1)*(b2-c2)-(d2-c2)*(b1-c1)=ed-eu:=by rw[<-hu,<-hd];grind
 have j1:ed*(c1-a1)=eu*(b1-a1):=by rw[<-hu,<-hd];grind
 have j2:ed*(c2-a2)=eu*(b2-a2):=by rw[<-hu,<-hd];grind
 rw[i1,i2]at hs;have JE:(0<=eu/\eu<=ed/\0<ed)\/(eu<=0/\ed<=eu/\ed<0):=U
 rcases JE with⟨h1,h2,h3⟩|⟨h1,h2,h3⟩
 .exact key eu ed h3 h1 h2 j1 j2
 .exact key (-eu) (-ed) U U U (by rw[ABg,ABg,j1])<|by rw[ABg,ABg,j2]
theorem Oa{a b c d:Pt}(n:¬ On a b c):¬ (AG a b c=0/\((AG c d a>0/\AG c d b<=0)\/(AG c d a<=0/\AG c d b>0)\/(AG c d a<0/\AG c d b>=0)\/(AG c d a>=0/\AG c d b<0))):=λz=>n<|l5 z.1 z.2
theorem Fi(a b p:Pt):AG b a p = - AG a b p:=by simp only[AG];grind
theorem YB{a b p:Pt}(h:On a b p):On b a p:=by obtain⟨h1,h2,h3⟩:=h;refine⟨by rw[Fi,h1];rfl,?_,?_⟩<;>lia
def parts(a b c d:Pt):Bool:=(decide (AG a b c<0)&&decide (AG a b d>0))||(decide (AG a b c>0)&&decide (AG a b d<0))
def A4(a b c d:Pt):Bool:=(parts a b c d&&parts c d a b)||((Ak a b c||Ak a b d)||(Ak c d a||Ak c d b))
def BP(a b c d:Pt):Bool:=(Ak a b c||Ak a b d||Ak c d a||Ak c d b)||((decide (AG a b c>0) != decide (AG a b d>0))&&(decide (AG c d a>0) != decide (AG c d b>0)))
theorem OS(a b c d:Pt):BP a b c d=A4 a b c d:=by
 by_cases h1:Ak a b c=true
 .simp[BP,A4,h1]
 by_cases h2:Ak a b d=true
 .simp[BP,A4,h2]
 by_cases h3:Ak c d a=true
 .simp[BP,A4,h3]
 by_cases h4:Ak c d b=true
 .simp[BP,A4,h4]
 have n1:=λz=>h1<|E9.mpr z;have n2:=λz=>h2<|E9.mpr z;have n3:=λz=>h3<|E9.mpr z;have n4:=λz=>h4<|E9.mpr z;have k1:=Oa (d:=d) n1;have k2:=Oa (d:=c) n2;have k3:=Oa (d:=b) n3;have k4:=Oa (d:=a) n4;rw[Fi c d a,Fi c d b]at k2;rw[Fi a b c,Fi a b d]at k4;simp[BP,A4,parts,h1,h2,h3,h4];lia
theorem Oc(a b p:Pt):Ak a b p=Ak b a p:=by rw[AAe,E9,E9];exact⟨YB,YB⟩
theorem meet_comm(a b c d:Pt):A4 a b c d=A4 c d a b:=by simp only[A4];rw[Bool.and_comm<|parts a b c d,ACF (Ak a b c||Ak a b d)]
noncomputable def AA(r:List Pt)(i:Int):Pt:=r.getD (i%(r.length:Int)).toNat (0,0)
theorem ED(r:List Pt)(i:Int):AA r (i+r.length)=AA r i:=by unfold AA;rw[AB4]
def M(r:List Pt)(i j:Int):Bool:=A4 (AA r i) (AA r<|i+1) (AA r j)<|AA r<|j+1
theorem Fs(r:List Pt)(i j:Int):M r i j=M r j i:=meet_comm ..
theorem UA(r:List Pt)(i j:Int):M r (i+r.length) j=M r i j:=by unfold M;rw[ED,show i+(r.length)+1=i+1+r.length by lia,ED]
noncomputable def nb(n d:Int):Bool:=(d%n==1)||(d%n==n-1)
theorem MN{n d:Int}(h0:0<d)(h1:d<n):nb n d=(d==1||d==n-1):=by unfold nb;rw[yM U h1]
def LF(r:List Pt):Prop:=∀k m:Int,0<=k->k<m->m<r.length->nb r.length (m-k)=false->M r k m=false
def QG(r:List Pt):Prop:=∀k j:Int,0<=j->j<k->k<r.length->nb r.length (k-j)=false->M r (k-1) (j-1)=false
theorem bW(r:List Pt):QG r↔LF r:=by
 constructor
 .intro h k m h0 h1 h2 hn;by_cases hm:m+1<r.length
  .have:=h (m+1) (k+1) U U hm (by rw[show m+1-(k+1)=m-k by lia];exact hn);rw[show m+1-1=m by lia,show k+1-1=k by lia]at this;rw[Fs];exact this
  .have CI:m=r.length-1:=U
   subst CI;have:=h (k+1) 0 U U U (by rw[MN U U]at hn ⊢;simp only[zL,yo]at hn ⊢;lia)
   rw[show k+1-1=k by lia,Fs,<-UA,Fs]at this;exact this
 .intro h k j h0 h1 h2 hn;by_cases hj:0<j
  .have:=h (j-1) (k-1) U U U (by rw[show k-1-(j-1)=k-j by lia];exact hn);rw[Fs];exact this
  .have CH:j=0:=U
   subst CH;have:=h (k-1) (r.length-1) U (by
    rw[MN U U]at hn;simp only[zL,yo]at hn;lia) U (by
    rw[MN U U]at hn;simp only[zL,yo]at hn;rw[MN U U];lia)
   rw[Fs,<-UA,Fs];exact this
noncomputable def AU(f:Int->Int):Nat->Int
 |0=>0
 |n+1=>AU f n+f n
theorem ZN(f:Int->Int):∀n:Nat,AU (λk=>f<|k-1) (n+1)=f (-1)+AU f n
 |0=>by simp[AU]
 |n+1=>by
  rw[AU,ZN f n,AU];simp only[Int.natCast_add,Int.natCast_one]at *
  lia
theorem TQ(f:Int->Int)(n:Nat)(h:∀i,f (i+n)=f i):AU (λk=>f<|k-1) n=AU f n:=by
 cases n with
 |zero=>rfl
 |succ n=>
  rw[ZN,AU,<-h (-1)];have:(-1:Int)+((n+1:Nat))=n:=U
  rw[this];lia
noncomputable def B2(a b:Pt):Int:=a.1*b.2-a.2*b.1
def Jv(r:List Pt):Int:=AU (λk=>B2 (AA r<|k-1)<|AA r k) r.length
def DJ(r:List Pt):Int:=AU (λk=>B2 (AA r k)<|AA r<|k+1) r.length
theorem bZ(r:List Pt):Jv r=DJ r:=by
 have:=TQ (λk=>B2 (AA r k)<|AA r<|k+1) r.length (λi=>by rw[ED,show i+(r.length)+1=i+1+r.length by lia,ED])
 rw[DJ,<-this,Jv]
 congr 1
 funext k
 rw[show k-1+1=k by lia]
def At(a b p:Pt):Prop:=∃q s:Int,0<q/\0<=s/\s<=q/\q*(p.1-a.1)=s*(b.1-a.1)/\q*(p.2-a.2)=s*(b.2-a.2)
theorem Fe{a b p:Pt}(h:At a b p):On a b p:=by
 obtain⟨q,s,hq,h0,h1,e1,e2⟩:=h;have r1:=ND hq h0 h1 e1;have r2:=ND hq h0 h1 e2;refine⟨?_,U,U⟩;have hz:q*AG a b p=0:=by
  have:q*AG a b p=(b.1-a.1)*(q*(p.2-a.2))-(b.2-a.2)*(q*(p.1-a.1)):=by unfold AG;grind
  rw[this,e1,e2];grind
 rcases yW.mp hz with h|h
 .lia
 .exact h
theorem Jw{a b p:Pt}(h:On a b p):At a b p:=by
 obtain⟨hs,h1,h2⟩:=h;unfold AG at hs;by_cases hx:b.1-a.1=0
 .by_cases hy:b.2-a.2=0
  .exact⟨1,0,U,U,U,U,U⟩
  .have hp:p.1-a.1=0:=U
   rcases zC hy with BN|Nv
   .exact⟨-(b.2-a.2),-(p.2-a.2),U,U,U,by rw[hx,hp];lia,yG⟩
   .exact⟨b.2-a.2,p.2-a.2,U,U,U,by rw[hx,hp];lia,yG⟩
 .rcases zC hx with BN|Nv
  .exact⟨-(b.1-a.1),-(p.1-a.1),U,U,U,yG,yG⟩
  .exact⟨b.1-a.1,p.1-a.1,U,U,U,yG,yG⟩
theorem Od{a b p:Pt}:On a b p↔At a b p:=⟨Jw,Fe⟩
def Bf(a b c d:Pt):Prop:=∃q s t:Int,0<q/\0<=s/\s<=q/\0<=t/\t<=q/\q*a.1+s*(b.1-a.1)=q*c.1+t*(d.1-c.1)/\q*a.2+s*(b.2-a.2)=q*c.2+t*(d.2-c.2)
theorem Bf.symm{a b c d:Pt}(h:Bf a b c d):Bf c d a b:=by obtain⟨q,s,t,h1,h2,h3,h4,h5,e1,e2⟩:=h;exact⟨q,t,s,h1,h4,h5,h2,h3,e1.symm,e2.symm⟩
theorem O2{a b c d:Pt}(h:At a b c):Bf a b c d:=by obtain⟨q,s,hq,h0,h1,e1,e2⟩:=h;exact⟨q,s,0,hq,h0,h1,U,U,yG,yG⟩
theorem TB{a b c d:Pt}(h:At a b d):Bf a b c d:=by obtain⟨q,s,hq,h0,h1,e1,e2⟩:=h;exact⟨q,s,q,hq,h0,h1,U,U,yG,yG⟩
theorem rW{a b c d:Pt}(h1:parts a b c d=true)(h2:parts c d a b=true):Bf a b c d:=by
 have i1:AG a b c-AG a b d=AG c d b-AG c d a:=by unfold AG;grind
 have j1:(AG c d a-AG c d b)*a.1+AG c d a*(b.1-a.1)=(AG c d a-AG c d b)*c.1 + -(AG a b c)*(d.1-c.1):=by unfold AG;grind
 have j2:(AG c d a-AG c d b)*a.2+AG c d a*(b.2-a.2)=(AG c d a-AG c d b)*c.2 + -(AG a b c)*(d.2-c.2):=by unfold AG;grind
 simp only[parts,zX,yR,yZ]at h1 h2;generalize AG a b c=x1 at *
 generalize AG c d a=y1 at *
 generalize AG c d b=y2 at *
 by_cases hy:y1-y2>0
 .exact⟨y1-y2,y1,-x1,hy,U,U,U,U,j1,j2⟩
 .refine⟨-(y1-y2),-y1,x1,U,U,U,U,U,?_,?_⟩
  .have : -(y1-y2)*a.1 + -y1*(b.1-a.1) = -((y1-y2)*a.1+y1*(b.1-a.1)):=yG
   rw[this,j1];grind
  .have : -(y1-y2)*a.2 + -y1*(b.2-a.2) = -((y1-y2)*a.2+y1*(b.2-a.2)):=yG
   rw[this,j2];grind
theorem TC{a b c d:Pt}(h:A4 a b c d=true):Bf a b c d:=by
 simp only[A4,zX,yR,E9]at h;rcases h with⟨h1,h2⟩|(h|h)|(h|h)
 .exact rW h1 h2
 .exact O2<|Jw h
 .exact TB<|Jw h
 .exact(O2<|Jw h).symm
 .exact(TB<|Jw h).symm
theorem Xp{a b c d:Pt}(h:¬ Bf a b c d):A4 a b c d=false:=by
 cases e:A4 a b c d with
 |false=>rfl
 |true=>exact absurd (TC e) h
theorem Et(r:List Pt)(i:Int):AA r (i%r.length)=AA r i:=by unfold AA;rw[zI _<|z9 _]
theorem UB(r:List Pt)(i j:Int):M r (i%r.length) j=M r i j:=by
 unfold M;have h:AA r (i%r.length+1)=AA r (i+1):=by unfold AA;rw[Int.emod_add_emod]
 rw[h,Et]
theorem bC(r:List Pt)(i j:Int):M r i (j%r.length)=M r i j:=by rw[Fs,UB,Fs]
def Bt(n d:Int):Prop:=d%n≠0/\d%n≠1/\d%n≠n-1
theorem Bt.neg{n d:Int}(hn:2<=n)(h:Bt n d):Bt n (-d):=by
 obtain⟨h0,h1,h2⟩:=h;have a:=zE d (b:=n) U;have b:=yz d (b:=n) U;have e:(-d)%n=n-d%n:=by
  have : -d=(n-d%n)+n*(-(d / n)-1):=by
   have:=AAP d n
   grind
  rw[this,zi,yM U U]
 exact⟨U,U,U⟩
theorem WA{n d:Int}(h0:0<d)(h1:d<n)(h:nb n d=false):Bt n d:=by rw[MN h0 h1]at h;simp only[zL,yo]at h;unfold Bt;rw[yM U h1];lia
theorem Xu{n d:Int}(h:Bt n d):nb n d=false:=by unfold nb;simp only[zL,yo];exact⟨h.2.1,h.2.2⟩
def QH(r:List Pt):Prop:=∀i j:Int,Bt r.length (i-j)->M r i j=false
theorem QI{r:List Pt}(hn:2<=r.length)(h:LF r):QH r:=by
 intro i j hf;rw[<-UB,<-bC];have a1:=zE i (b:=(r.length)) U;have a2:=yz i (b:=(r.length)) U;have b1:=zE j (b:=(r.length)) U;have b2:=yz j (b:=(r.length)) U;have Q1:Bt r.length<|i%r.length-j%r.length:=by
  unfold Bt at *
  rw[<-AAA];exact hf
 have il:=Q1.neg U;generalize i%(r.length)=x at *
 generalize j%(r.length)=y at *
 rcases zS x y with BN|heq|Nv
 .exact h x y a1 BN b2 (Xu (by rw[show y-x = -(x-y)by lia];exact il))
 .exfalso;apply Q1.1;rw[heq,AAM];rfl
 .rw[Fs];exact h y x b1 Nv a2<|Xu Q1
theorem bS{r:List Pt}(h:QH r):LF r:=λk m h0 h1 h2 hn=>by rw[Fs];exact h m k<|WA U U hn
structure Rm(r:List Pt):Prop where
 l3:3<=r.length
 MG:r.length<=12
 nd:r.Nodup
 Jx:∀k:Int,AG (AA r<|k-2) (AA r<|k-1) (AA r k)≠0
 apart:QH r
 IP:0<DJ r
structure Keeps(T:Pt->Pt)(d:Int):Prop where
 one:d=1\/d = -1
 sd:∀a b c,AG (T a) (T b) (T c)=d*AG a b c
 at_:∀a b p,At (T a) (T b) (T p)↔At a b p
 inj:∀a b,T a=T b->a=b
theorem Keeps.on{T:Pt->Pt}{d:Int}(k:Keeps T d)(a b p:Pt):Ak (T a) (T b) (T p)=Ak a b p:=by rw[AAe,E9,E9,Od,Od];exact k.at_ a b p
theorem Keeps.parts{T:Pt->Pt}{d:Int}(k:Keeps T d)(a b c e:Pt):AN.parts (T a) (T b) (T c) (T e)=AN.parts a b c e:=by
 unfold AN.parts;rw[k.sd,k.sd];rcases k.one with rfl|rfl
 .rw[ABx,ABx]
 .lia
theorem Keeps.meet{T:Pt->Pt}{d:Int}(k:Keeps T d)(a b c e:Pt):A4 (T a) (T b) (T c) (T e)=A4 a b c e:=by unfold A4;rw[k.parts,k.parts,k.on,k.on,k.on,k.on]
theorem DD{T:Pt->Pt}{r:List Pt}(h:0<r.length)(i:Int):AA (r.map T) i=T (AA r i):=by
 unfold AA;have b:=yz i (b:=(r.length)) U;have hi:(i%(r.length)).toNat<r.length:=U
 simp[List.getD,hi]
theorem di{r:List Pt}(h:0<r.length)(i:Int):AA r.reverse i=AA r (-1-i):=by
 unfold AA;rw[ACg];have a:=zE i (b:=(r.length)) U;have b:=yz i (b:=(r.length)) U;have e:(-1-i)%(r.length)=r.length-1-i%r.length:=by
  have : -1-i=(r.length-1-i%r.length)+r.length*(-(i / r.length)-1):=by
   have:=AAP i r.length
   grind
  rw[this,zi,yM U U]
 rw[e];have hi:(i%(r.length)).toNat<r.length:=U
 have hj:(r.length-1-i%(r.length)).toNat=r.length-1-(i%(r.length)).toNat:=U
 rw[hj,List.getD,List.getD,List.getElem?_reverse hi]
theorem dj{r:List Pt}{n:Nat}(hn:n<=r.length)(h:0<r.length)(i:Int):AA (r.drop n++r.take n) i=AA r (i+n):=by
 have hl:(r.drop n++r.take n).length=r.length:=by simp;lia
 unfold AA;rw[hl,AAH i];have a:=zE i (b:=(r.length)) U;have b:=yz i (b:=(r.length)) U;generalize hx:i%(r.length)=x at *
 rw[List.getD,List.getD];by_cases RH:n=r.length
 .subst RH;simp only[ABK,zG,ACE,List.take_length,zy];rw[yM a b]
 rw[yM (a:=(n)) U U];by_cases hc:x+n<r.length
 .rw[yM U hc,zH (by simp;lia),List.getElem?_drop]
  congr 2;lia
 .have e:(x+n)%(r.length)=x+n-r.length:=by rw[<-Int.sub_emod_right,yM U U]
  rw[zJ (by simp;lia),List.getElem?_take,yO (by simp;lia)]
  congr 2;simp;lia
theorem Bs{f g:Int->Int}:∀{n:Nat},(∀i:Nat,i<n->f i=g i)->AU f n=AU g n
 |0,_=>rfl
 |n+1,h=>by rw[AU,AU,Bs λi hi=>h i U,h n U]
theorem D9(f g:Int->Int):∀n:Nat,AU (λk=>f k+g k) n=AU f n+AU g n
 |0=>rfl
 |n+1=>by rw[AU,AU,AU,D9 f g n];lia
theorem Mh(c:Int)(f:Int->Int):∀n:Nat,AU (λk=>c*f k) n=c*AU f n
 |0=>by simp[AU]
 |n+1=>by rw[AU,AU,Mh c f n,ACV]
theorem HG(f:Int->Int):∀n:Nat,AU (λk=>f (k+1)-f k) n=f n-f 0
 |0=>by simp[AU]
 |n+1=>by
  rw[AU,HG f n];have:((n+1:Nat):Int)=n+1:=U
  rw[this];lia
theorem TU(f:Int->Int)(n:Nat)(h:∀i,f (i+n)=f i):∀m:Nat,AU (λk=>f<|k+m) n=AU f n
 |0=>Bs λi _=>yI
 |m+1=>by
  have ih:=TU f n h m;have:=TQ (λk=>f<|k+((m+1:Nat))) n (λi=>by rw[show i+(n)+((m+1:Nat))=(i+((m+1:Nat)))+n by lia,h])
  rw[<-this,<-ih];exact Bs λi _=>by congr 1;lia
theorem ZM(f:Int->Int):∀n:Nat,AU (λk=>f<|(n)-1-k) n=AU f n
 |0=>rfl
 |n+1=>by
  have e1:AU (λk=>f<|((n+1:Nat))-1-k) (n+1)=f n+AU (λk=>f<|(n)-1-k) n:=by
   have hs:∀(g:Int->Int)(m:Nat),AU g (m+1)=g 0+AU (λk=>g<|k+1) m:=by
    intro g m
    induction m with
    |zero=>simp[AU]
    |succ m ih=>
     rw[AU,ih,AU];lia
   rw[hs]
   congr 1
   .lia
   .exact Bs λi _=>by congr 1;lia
  rw[e1,ZM f n,AU];lia
def Fx(r:List Pt)(k:Int):Int:=B2 (AA r k)<|AA r<|k+1
theorem dW(r:List Pt)(k:Int):Fx r (k+r.length)=Fx r k:=by unfold Fx;rw[ED,show k+(r.length)+1=k+1+r.length by lia,ED]
theorem LG(r:List Pt):DJ r=AU (Fx r) r.length:=rfl
theorem Rm.JY{r:List Pt}(R:Rm r){n:Nat}(hn:n<=r.length):Rm (r.drop n++r.take n)/\DJ (r.drop n++r.take n)=DJ r:=by
 have h3:=R.l3;have hl:(r.drop n++r.take n).length=r.length:=by simp;lia
 have hc:=λi=>dj hn U i;have ha:DJ (r.drop n++r.take n)=DJ r:=by rw[LG,LG,hl,<-TU (Fx r) r.length (dW r) n];refine Bs λi _=>?_;unfold Fx;rw[hc,hc];lia
 refine⟨⟨U,by have:=R.MG;lia,?_,λk=>?_,λi j hf=>?_,by rw[ha];exact R.IP⟩,ha⟩
 .have hp:(r.drop n++r.take n).Perm r:=List.perm_append_comm.trans (by rw[ACa]);exact hp.nodup_iff.mpr R.nd
 .rw[hc,hc,hc,show k-2+n=k+n-2 by lia,show k-1+n=k+n-1 by lia];exact R.Jx _
 .rw[hl]at hf;have:=R.apart (i+n) (j+n) (by rw[show i+n-(j+n)=i-j by lia];exact hf);unfold M at this ⊢;rw[hc,hc,hc,hc,show i+1+n=i+n+1 by lia,show j+1+n=j+n+1 by lia];exact this
theorem X2{T:Pt->Pt}(hi:∀a b,T a=T b->a=b){r:List Pt}(h:r.Nodup):(r.map T).Nodup:=by unfold List.Nodup at h ⊢;rw[AAf];exact h.imp λAs e=>As<|hi _ _ e
theorem dX(o a b:Pt):B2 a b=AG o a b+(B2 o b-B2 o a):=by unfold B2 AG;grind
theorem NA(r:List Pt)(o:Pt):DJ r=AU (λk=>AG o (AA r k)<|AA r<|k+1) r.length:=by
 rw[LG];have h1:AU (Fx r) r.length=AU (λk=>AG o (AA r k) (AA r<|k+1)+(B2 o (AA r<|k+1)-B2 o (AA r k))) r.length:=Bs λi _=>by exact dX o _ _
 rw[h1,D9 (λk=>AG o (AA r k)<|AA r<|k+1) λk=>B2 o (AA r<|k+1)-B2 o (AA r k)];have h2:=HG (λk=>B2 o<|AA r k) r.length;have h3:=by have:=ED r 0;rw[zr]at this;exact this
 rw[h2,h3];lia
theorem Rm.map{r:List Pt}(R:Rm r){T:Pt->Pt}(k:Keeps T 1):Rm<|r.map T:=by
 have h3:=R.l3;have hc:=λi=>DD (T:=T) (r:=r) U i;refine⟨by simpa using R.l3,by simpa using R.MG,X2 k.inj R.nd,λi=>?_,λi j hf=>?_,?_⟩
 .rw[hc,hc,hc,k.sd,ABx];exact R.Jx i
 .rw[yP]at hf;unfold M;rw[hc,hc,hc,hc,k.meet];exact R.apart i j hf
 .rw[NA _<|T (0,0),yP];have:=R.IP;rw[NA r (0,0)]at this;rw[Bs]
  .exact this
  .intro i _;rw[hc,hc,k.sd,ABx]
theorem rZ(a b c:Pt):AG c b a = - AG a b c:=by unfold AG;grind
theorem YS(a b c d:Pt):AN.parts b a d c=AN.parts a b c d:=by unfold AN.parts;rw[Fi a b,Fi a b,AAe];simp only[zX,yR,yZ];lia
theorem lD(a b c d:Pt):A4 b a d c=A4 a b c d:=by unfold A4;rw[YS a b c d,YS c d a b,Oc b a d,Oc b a c,Oc d c b,Oc d c a,ACF<|Ak a b d,ACF<|Ak c d b]
theorem Rm.mapRev{r:List Pt}(R:Rm r){T:Pt->Pt}(k:Keeps T (-1)):Rm (r.map T).reverse:=by
 have h3:=R.l3;have hl:(r.map T).reverse.length=r.length:=yI
 have hc:∀i,AA (r.map T).reverse i=T (AA r (-1-i)):=λi=>by rw[di (by simpa using U),DD U]
 refine⟨U,by have:=R.MG;lia,?_,λi=>?_,λi j hf=>?_,?_⟩
 .exact(List.reverse_perm _).nodup_iff.mpr (X2 k.inj R.nd)
 .rw[hc,hc,hc,k.sd,rZ];have:=R.Jx (-1-i+2);lia
 .rw[hl]at hf;unfold M;rw[hc,hc,hc,hc,k.meet,<-lD];have:=R.apart (-1-(i+1)) (-1-(j+1)) (by rw[show -1-(i+1)-(-1-(j+1)) = -(i-j)by lia];exact hf.neg U)
  unfold M at this;rw[show -1-(i+1)+1 = -1-i by lia,show -1-(j+1)+1 = -1-j by lia]at this;exact this
 .rw[NA _<|T (0,0),hl];have:=R.IP;rw[NA r (0,0)]at this;have e:AU (λk=>AG (T (0,0)) (AA (r.map T).reverse k)<|AA (r.map T).reverse<|k+1) r.length=AU (λk=>AG (0,0) (AA r<|(r.length)-1-k-1)<|AA r<|(r.length)-1-k) r.length:=Bs λi _=>by
   rw[hc,hc,k.sd];have e1:AA r (-1-(i))=AA r ((r.length)-1-i):=by rw[<-ED];congr 1;lia
   have e2:AA r (-1-((i)+1))=AA r ((r.length)-1-i-1):=by rw[<-ED];congr 1;lia
   rw[e1,e2];unfold AG;grind
  rw[e,ZM λk=>AG (0,0) (AA r<|k-1)<|AA r k];have:=TQ (λk=>AG (0,0) (AA r k)<|AA r<|k+1) r.length (λi=>by rw[ED,show i+(r.length)+1=i+1+r.length by lia,ED])
  have e3:AU (λk=>AG (0,0) (AA r<|k-1)<|AA r k) r.length=AU (λk=>AG (0,0) (AA r<|k-1)<|AA r<|k-1+1) r.length:=Bs λi _=>by rw[show(i:Int)-1+1=i by lia]
  rw[e3,this];assumption
theorem wsum{q s a b m:Int}(h0:0<=s)(h1:s<=q)(ha:a<=m)(hb:b<=m):q*a+s*(b-a)<=q*m:=by have:=yi ha (U:0<=q-s);have:=yi hb h0;lia
theorem PQ{q s a b m:Int}(h0:0<=s)(h1:s<=q)(ha:m<=a)(hb:m<=b):q*m<=q*a+s*(b-a):=by have:=yi ha (U:0<=q-s);have:=yi hb h0;lia
theorem S8{a b c d:Pt}(m n:Int)(h1:a.1<=m)(h2:b.1<=m)(RE:m<n)(h3:n<=c.1)(h4:n<=d.1):¬ Bf a b c d:=by rintro⟨q,s,t,hq,s0,s1,t0,t1,e1,_⟩;have u:=wsum s0 s1 h1 h2;have v:=PQ t0 t1 h3 h4;have:=AAo RE hq;lia
theorem rQ{a b c d:Pt}(m n:Int)(h1:a.2<=m)(h2:b.2<=m)(RE:m<n)(h3:n<=c.2)(h4:n<=d.2):¬ Bf a b c d:=by rintro⟨q,s,t,hq,s0,s1,t0,t1,_,e2⟩;have u:=wsum s0 s1 h1 h2;have v:=PQ t0 t1 h3 h4;have:=AAo RE hq;lia
structure Rows(n m:Nat)(P:Nat->Pt):Prop where
 hm:m+1<n
 h3:3<=n
 cl:P n=P 0
 xb:∀i,i<=m->(P i).1<(P<|i+1).1
 xt:∀i,m+1<=i->i<n->(P<|i+1).1<(P i).1
 y0:(P 0).2=0
 ym:(P<|m+1).2=0
 yb:∀i,1<=i->i<=m->(P i).2<0
 yt:∀i,m+2<=i->i<n->0<(P i).2
section
variable{n m:Nat}{P:Nat->Pt}(R:Rows n m P)
include R
theorem Rows.PR:∀{i j:Nat},i<=j->j<=m+1->(P i).1<=(P j).1:=by
 intro i j h hj
 induction j with
 |zero=>
  have:i=0:=U
  subst this;exact AAC _
 |succ j ih=>
  by_cases he:i=j+1
  .subst he;exact AAC _
  .have:=R.xb j U;lia
theorem Rows.Kv:∀{i j:Nat},m+1<=i->i<=j->j<=n->(P j).1<=(P i).1:=by
 intro i j h1 h hj
 induction j with
 |zero=>lia
 |succ j ih=>
  by_cases he:i=j+1
  .subst he;exact AAC _
  .have:=R.xt j U U;lia
theorem Rows.Mq:∀{i:Nat},i<=m+1->(P i).2<=0:=by
 intro i hi;by_cases h0:i=0
 .subst h0;exact ABV R.y0
 by_cases h1:i=m+1
 .subst h1;exact ABV R.ym
 exact yQ<|R.yb i U U
theorem Rows.PY:∀{i:Nat},m+1<=i->i<=n->0<=(P i).2:=by
 intro i hi hn;by_cases h0:i=n
 .subst h0;rw[R.cl,R.y0];exact AAC _
 by_cases h1:i=m+1
 .subst h1;exact ABV R.ym.symm
 exact yQ<|R.yt i U U
theorem Rows.apart{i j:Nat}(Bi:i<j)(hj:j<n)(As:j≠i+1)(hw:¬ (i=0/\j=n-1)):¬ Bf (P i) (P<|i+1) (P j) (P<|j+1):=by
 by_cases Wg:j<=m
 .-- both below
  exact S8 (P<|i+1).1 (P j).1 (R.PR U U) (AAC _) (by have:=R.xb (i+1) U;have:=R.PR (i:=i+1+1) (j:=j) U U;lia) (AAC _)<|R.PR U U
 by_cases Wa:m+1<=i
 .-- both above
  intro h;exact S8 (P j).1 (P<|i+1).1 (AAC _) (R.Kv U U U) (by have:=R.xt (i+1) U U;have:=R.Kv (i:=i+1+1) (j:=j) U U U;lia) (R.Kv U U U) (AAC _) h.symm
 rintro⟨q,s,t,hq,s0,s1,t0,t1,e1,e2⟩;have ya:=R.Mq (i:=i) U;have yb:=R.Mq (i:=i+1) U;have yc:=R.PY (i:=j) U U;have yd:=R.PY (i:=j+1) U U;have ez:q*(P i).2+s*((P<|i+1).2-(P i).2)=(q-s)*(P i).2+s*(P<|i+1).2:=yG
 have xE:q*(P j).2+t*((P<|j+1).2-(P j).2)=(q-t)*(P j).2+t*(P<|j+1).2:=yG
 have p1:(q-s)*(P i).2<=0:=yg U ya;have p2:=yg s0 yb;have p3:0<=(q-t)*(P j).2:=yT U yc;have p4:=yT t0 yd;have z1:(q-s)*(P i).2=0:=yH
 have z2:s*(P<|i+1).2=0:=U
 have z3:(q-t)*(P j).2=0:=yH
 have z4:t*(P<|j+1).2=0:=U
 have w1:1<=i->q=s:=λh=>by
  rcases yW.mp z1 with h'|h'
  .lia
  .have:=R.yb i h U;lia
 have w2:i+1<=m->s=0:=λh=>by
  rcases yW.mp z2 with h'|h'
  .exact h'
  .have:=R.yb (i+1) U h;lia
 have w3:m+2<=j->q=t:=λh=>by
  rcases yW.mp z3 with h'|h'
  .lia
  .have:=R.yt j h U;lia
 have w4:j+1<n->t=0:=λh=>by
  rcases yW.mp z4 with h'|h'
  .exact h'
  .have:=R.yt (j+1) U h;lia
 by_cases iw:i=0
 .-- at Jg first Uy,or Jg whole cB
  subst iw;have Ey:j+1<n:=U
  have ht:=w4 Ey;by_cases RC:m=0
  .lia
  .have hs:=w2 U;rw[hs,ht]at e1;simp only[zQ,zG]at e1;have LP:=AAO U e1;have a:=R.xt j U U;have b:=R.Kv (i:=j+1) (j:=n) U U U;rw[R.cl]at b;lia
 .have hs:=w1 U;by_cases i4:i=m
  .subst i4;have i7:i+2<=j:=U
   have ht:=w3 i7;rw[<-hs,<-ht]at e1;have LP:q*(P<|i+1).1=q*(P<|j+1).1:=yG
   have w9:=AAO U LP;have a:=R.xt (i+1) U U;have b:=R.Kv (i:=i+1+1) (j:=j+1) U U U;lia
  .lia
theorem Rows.IP:0<AU (λk=>B2 (P k.toNat)<|P (k+1).toNat) n:=by
 have hm:=R.hm;have e:∀N:Nat,AU (λk=>B2 (P k.toNat)<|P (k+1).toNat) N=AU (λk=>((P k.toNat).1-(P (k+1).toNat).1)*((P k.toNat).2+(P (k+1).toNat).2)) N+((P N).1*(P N).2-(P 0).1*(P 0).2):=by
  intro N
  induction N with
  |zero=>simp[AU]
  |succ N ih=>
   rw[AU,AU,ih];have h1:((N:Int)).toNat=N:=U
   have h2:((N:Int)+1).toNat=N+1:=U
   rw[h1,h2];unfold B2
   grind
 rw[e n,R.cl];have nn:∀i:Nat,i<n->0<=((P i).1-(P<|i+1).1)*((P i).2+(P<|i+1).2):=λi hi=>by
  by_cases hb:i<=m
  .have a:=R.xb i hb;have b:=R.Mq (i:=i) U;have c:=R.Mq (i:=i+1) U;exact zk U U
  .have a:=R.xt i U hi;have b:=R.PY (i:=i) U U;have c:=R.PY (i:=i+1) U U;exact yT U U
 have pos:∃i:Nat,i<n/\0<((P i).1-(P<|i+1).1)*((P i).2+(P<|i+1).2):=by
  by_cases RC:m=0
  .refine⟨m+1,U,?_⟩;have a:=R.xt (m+1) U U;have b:=R.yt (m+1+1) U (by have:=R.h3;lia);have c:=R.ym;exact yX U U
  .refine⟨0,U,?_⟩;have a:=R.xb 0 U;have b:=R.yb (0+1) U U;have c:=R.y0;exact Int.mul_pos_of_neg_of_neg U U
 have key:∀N:Nat,N<=n->0<=AU (λk=>((P k.toNat).1-(P (k+1).toNat).1)*((P k.toNat).2+(P (k+1).toNat).2)) N/\(∀i,i<N->0<((P i).1-(P<|i+1).1)*((P i).2+(P<|i+1).2)->0<AU (λk=>((P k.toNat).1-(P (k+1).toNat).1)*((P k.toNat).2+(P (k+1).toNat).2)) N):=by
  intro N
  induction N with
  |zero=>intro _;exact⟨by simp[AU],λi hi=>U⟩
  |succ N ih=>
   intro hN;obtain⟨i1,i2⟩:=ih U;have h1:((N:Int)).toNat=N:=U
   have h2:((N:Int)+1).toNat=N+1:=U
   have:=nn N U;rw[AU,h1,h2];refine⟨U,λi hi hp=>?_⟩;by_cases he:i=N
   .subst he;lia
   .have:=i2 i U hp;lia
 obtain⟨i,hi,hp⟩:=pos;have:=(key n U).2 i hi hp;lia
theorem Rows.inj{i j:Nat}(Bi:i<j)(hj:j<n):P i≠P j:=by
 intro e;by_cases Wg:j<=m+1
 .have a:=R.xb i U;have b:=R.PR (i:=i+1) U Wg;rw[e]at a;lia
 by_cases Wa:m+1<=i
 .have a:=R.xt i Wa U;have b:=R.Kv (i:=i+1) (j:=j) U U U;rw[e]at a;lia
 .have a:=R.Mq (i:=i) U;have b:=R.yt j U hj;rw[e]at a;lia
end
def Lt(a b c d:Pt):Prop:=∃q s t:Int,0<q/\0<=s/\s<=q/\0<=t/\t<=q/\q*a.2+s*(b.2-a.2)=q*c.2+t*(d.2-c.2)/\q*a.1+s*(b.1-a.1)<q*c.1+t*(d.1-c.1)
theorem Kb{x a b:Int}(hx:0<=x)(Dh:a<=b):a*x<=b*x:=y8 Dh hx
theorem SD{a b c d:Pt}(h1:Lt a b c d)(h2:Lt c d a b):∃q1 s1 t1 q2 s2 t2 x y:Int,0<x/\0<y/\0<q1/\0<q2/\0<=s1/\s1<=q1/\0<=s2/\s2<=q2/\0<=t1/\t1<=q1/\0<=t2/\t2<=q2/\q1*a.1+s1*(b.1-a.1)+x=q1*c.1+t1*(d.1-c.1)/\(q1*y+q2*x)*a.1+(s1*y+s2*x)*(b.1-a.1)=(q1*y+q2*x)*c.1+(t1*y+t2*x)*(d.1-c.1)/\(q1*y+q2*x)*a.2+(s1*y+s2*x)*(b.2-a.2)=(q1*y+q2*x)*c.2+(t1*y+t2*x)*(d.2-c.2):=by
 obtain⟨q1,s1,t1,Lw,a1,a2,a3,a4,e1,l1⟩:=h1;obtain⟨q2,t2,s2,Lx,b1,b2,b3,b4,e2,l2⟩:=h2;refine⟨q1,s1,t1,q2,s2,t2,q1*c.1+t1*(d.1-c.1)-(q1*a.1+s1*(b.1-a.1)),q2*a.1+s2*(b.1-a.1)-(q2*c.1+t2*(d.1-c.1)),U,U,Lw,Lx,a1,a2,b3,b4,a3,a4,b1,b2,U,yG,?_⟩;generalize q1*c.1+t1*(d.1-c.1)-(q1*a.1+s1*(b.1-a.1))=x;generalize q2*a.1+s2*(b.1-a.1)-(q2*c.1+t2*(d.1-c.1))=y;have f1:(q1*y+q2*x)*a.2+(s1*y+s2*x)*(b.2-a.2)=y*(q1*a.2+s1*(b.2-a.2))+x*(q2*a.2+s2*(b.2-a.2)):=yG
 have f2:(q1*y+q2*x)*c.2+(t1*y+t2*x)*(d.2-c.2)=y*(q1*c.2+t1*(d.2-c.2))+x*(q2*c.2+t2*(d.2-c.2)):=yG
 rw[f1,f2,e1,<-e2]
theorem SI{a b c d:Pt}(h:¬ Bf a b c d)(h1:Lt a b c d):¬ Lt c d a b:=λh2=>by
 obtain⟨q1,s1,t1,q2,s2,t2,x,y,hx,hy,Lw,Lx,a1,a2,b1,b2,c1,c2,d1,d2,_,e1,e2⟩:=SD h1 h2;have p1:=yX Lw hy;have p2:=yX Lx hx;refine h ⟨_,_,_,U,?_,?_,?_,?_,e1,e2⟩
 .have:=yT a1<|yQ hy;have:=yT b1<|yQ hx;lia
 .have:=Kb (yQ hy) a2;have:=Kb (yQ hx) b2;lia
 .have:=yT c1<|yQ hy;have:=yT d1<|yQ hx;lia
 .have:=Kb (yQ hy) c2;have:=Kb (yQ hx) d2;lia
def CB(A X B:Pt):Prop:=∀s t:Int,0<=s->0<=t->s*(X.1-A.1)=t*(B.1-A.1)->s*(X.2-A.2)=t*(B.2-A.2)->s=0/\t=0
theorem La{u v w:Pt}(hb:AG u v w≠0):CB v u w:=λs t _ _ e1 e2=>by
 have f1:s*AG u v w=0:=by
  have:s*AG u v w=(w.1-v.1)*(s*(u.2-v.2))-(w.2-v.2)*(s*(u.1-v.1)):=by unfold AG;grind
  rw[this,e1,e2];grind
 have f2:t*AG u v w=0:=by
  have:t*AG u v w=(v.1-u.1)*(t*(w.2-v.2))-(v.2-u.2)*(t*(w.1-v.1)):=by unfold AG;grind
  rw[this,<-e1,<-e2];grind
 exact⟨(yW.mp f1).resolve_right hb,(yW.mp f2).resolve_right hb⟩
theorem QE{u v w:Pt}(f:CB v u w){q s t:Int}(sq:s<=q)(t0:0<=t)(e1:q*u.1+s*(v.1-u.1)=q*v.1+t*(w.1-v.1))(e2:q*u.2+s*(v.2-u.2)=q*v.2+t*(w.2-v.2)):s=q/\t=0:=by obtain⟨a,b⟩:=f (q-s) t U t0 yG yG;exact⟨U,b⟩
theorem Xv{u v w:Pt}(hb:CB v u w)(h1:Lt u v v w):¬ Lt v w u v:=λh2=>by
 obtain⟨q1,s1,t1,q2,s2,t2,x,y,hx,hy,Lw,Lx,a1,a2,b1,b2,c1,c2,d1,d2,e0,e1,e2⟩:=SD h1 h2;have m1:=Kb (yQ hy) a2;have m2:=Kb (yQ hx) b2;have n1:=yT c1<|yQ hy;have n2:=yT d1<|yQ hx;obtain⟨hs,ht⟩:=QE hb U U e1 e2;have k1:(q1-s1)*y=0:=by rw[ACW];lia
 have RY:s1=q1:=by rcases yW.mp k1 with h|h<;>lia
 have k2:t1*y=0:=U
 have FZ:t1=0:=by rcases yW.mp k2 with h|h<;>lia
 subst RY;subst FZ;have f:s1*u.1+s1*(v.1-u.1)=s1*v.1:=yG
 rw[f,zQ]at e0;lia
def L(r:List Pt)(i j:Int):Prop:=Lt (AA r i) (AA r<|i+1) (AA r j)<|AA r<|j+1
theorem Aw{r:List Pt}{i j:Int}(h:(i-j)%(r.length)=0):AA r i=AA r j:=by unfold AA;have:=AAi.mpr h;rw[this]
structure A2(r:List Pt):Prop where
 l3:3<=r.length
 fork:∀k:Int,CB (AA r<|k+1) (AA r k)<|AA r<|k+1+1
 hh:∀k:Int,(AA r k).2=(AA r<|k+1).2->(AA r<|k+1).2≠(AA r<|k+1+1).2
 apart:∀i j:Int,Bt r.length (i-j)->¬ Bf (AA r i) (AA r<|i+1) (AA r j) (AA r<|j+1)
section
variable{r:List Pt}(S:A2 r)
include S
theorem A2.cases(i j:Int):(i-j)%(r.length)=0\/(i-j)%(r.length)=1\/(j-i)%(r.length)=1\/Bt r.length (i-j):=by
 have h3:=S.l3;have a:=zE (i-j) (b:=(r.length)) U;by_cases h0:(i-j)%(r.length)=0
 .exact .inl h0
 by_cases h1:(i-j)%(r.length)=1
 .exact .inr<|.inl h1
 by_cases h2:(i-j)%(r.length)=r.length-1
 .right;right;left;have:j-i=1+r.length*(-((i-j) / r.length)-1):=by
   have:=AAP (i-j) r.length
   grind
  rw[this,zi,yM U U]
 .exact .inr<|.inr<|.inr ⟨h0,h1,h2⟩
theorem A2.next{i j:Int}(h:(i-j)%(r.length)=1):AA r i=AA r (j+1)/\AA r (i+1)=AA r (j+1+1):=by
 have h3:=S.l3;have e:(i-(j+1))%(r.length)=0:=by rw[show i-(j+1)=(i-j)-1 by lia,AAA,h,yM (a:=1) U U];rfl
 exact⟨Aw e,Aw (by rw[show i+1-(j+1+1)=i-(j+1)by lia];exact e)⟩
theorem A2.nc{i j:Int}(As:(i-j)%(r.length)≠0)(h1:L r i j):¬ L r j i:=by
 intro h2;rcases S.cases i j with h|h|h|h
 .exact As h
 .obtain⟨e1,e2⟩:=S.next h
  unfold L at h1 h2;rw[e1,e2]at h1 h2;exact Xv (S.fork j) h2 h1
 .obtain⟨e1,e2⟩:=S.next h
  unfold L at h1 h2;rw[e1,e2]at h1 h2;exact Xv (S.fork i) h1 h2
 .exact SI (S.apart i j h) h1 h2
theorem A2.share{i j:Int}(As:(i-j)%(r.length)≠0){q s t:Int}(hq:0<q)(s0:0<=s)(s1:s<=q)(t0:0<=t)(t1:t<=q) (e1:q*(AA r i).1+s*((AA r<|i+1).1-(AA r i).1)=q*(AA r j).1+t*((AA r<|j+1).1-(AA r j).1)) (e2:q*(AA r i).2+s*((AA r<|i+1).2-(AA r i).2)=q*(AA r j).2+t*((AA r<|j+1).2-(AA r j).2)) : ((i-j)%(r.length)=1/\s=0/\t=q)\/((j-i)%(r.length)=1/\s=q/\t=0):=by
 rcases S.cases i j with h|h|h|h
 .exact absurd h As
 .obtain⟨f1,f2⟩:=S.next h
  rw[f1,f2]at e1 e2;obtain⟨g1,g2⟩:=QE (S.fork j) t1 s0 e1.symm e2.symm;exact .inl ⟨h,g2,g1⟩
 .obtain⟨f1,f2⟩:=S.next h
  rw[f1,f2]at e1 e2;obtain⟨g1,g2⟩:=QE (S.fork i) s1 t0 e1 e2;exact .inr ⟨h,g1,g2⟩
 .exact absurd ⟨q,s,t,hq,s0,s1,t0,t1,e1,e2⟩ (S.apart i j h)
end
theorem Ep(r:List Pt)(i:Int)(As:(AA r i).2≠(AA r<|i+1).2):¬ L r i i:=by
 rintro⟨q,s,t,hq,s0,s1,t0,t1,e1,l⟩;have:(s-t)*((AA r<|i+1).2-(AA r i).2)=0:=yG
 rcases yW.mp this with h|h
 .have:s=t:=U
  subst this;lia
 .lia
theorem Y8{D z:Int}(h:(0<=z/\z<=D)\/(D<=z/\z<=0))(hD:D≠0):∃g:Int,(g=1\/g = -1)/\0<g*D/\0<=g*z/\g*z<=g*D:=by
 rcases zC hD with h0|h0
 .exact⟨-1,.inr rfl,U,U,U⟩
 .exact⟨1,.inl rfl,U,U,U⟩
theorem Us{a b z:Pt}(hD:b.1-a.1≠0)(hs:AG a b z=0)(hz:(0<=z.1-a.1/\z.1-a.1<=b.1-a.1)\/(b.1-a.1<=z.1-a.1/\z.1-a.1<=0)):On a b z:=by
 obtain⟨g,hg,p1,p2,p3⟩:=Y8 hz hD;refine Fe ⟨g*(b.1-a.1),g*(z.1-a.1),p1,p2,p3,yG,?_⟩;unfold AG at hs
 grind
theorem Ut{a b c d:Pt}(hD:b.1-a.1≠0)(h1:AG a b c=0)(h2:AG a b d=0)(hz:(c.1<=a.1/\a.1<=d.1)\/(d.1<=a.1/\a.1<=c.1)):On c d a:=by
 unfold AG at h1 h2;have k1:(b.1-a.1)*(c.2-a.2)=(b.2-a.2)*(c.1-a.1):=U
 by_cases BK:d.1-c.1=0
 .have e:c.1-a.1=0:=U
  rw[e,ze]at k1;have e2:c.2-a.2=0:=by
   rcases yW.mp k1 with h|h
   .exact absurd h hD
   .exact h
  exact Fe ⟨1,0,U,U,U,U,U⟩
 .obtain⟨g,hg,p1,p2,p3⟩:=Y8 (z:=a.1-c.1) U BK;refine Fe ⟨g*(d.1-c.1),g*(a.1-c.1),p1,p2,p3,yG,?_⟩;have k3:(b.1-a.1)*(g*(d.1-c.1)*(a.2-c.2)-g*(a.1-c.1)*(d.2-c.2))=0:=by
   have i1:(b.1-a.1)*(a.2-c.2)=(b.2-a.2)*(a.1-c.1):=yG
   have i2:(b.1-a.1)*(d.2-c.2)=(b.2-a.2)*(d.1-c.1):=yG
   have:(b.1-a.1)*(g*(d.1-c.1)*(a.2-c.2)-g*(a.1-c.1)*(d.2-c.2))=g*(d.1-c.1)*((b.1-a.1)*(a.2-c.2))-g*(a.1-c.1)*((b.1-a.1)*(d.2-c.2)):=yG
   rw[this,i1,i2];grind
  rcases yW.mp k3 with h|h
  .exact absurd h hD
  .omega
theorem dP{a b c d:Pt}(hD:b.1-a.1≠0)(h1:AG a b c=0)(h2:AG a b d=0):AG b a c=0/\AG b a d=0:=by rw[Fi a b,Fi a b,h1,h2];exact⟨rfl,rfl⟩
theorem Uu{a b c d:Pt}(hD:b.1-a.1≠0)(h1:AG a b c=0)(h2:AG a b d=0)(hs:Bf a b c d):On a b c\/On a b d\/On c d a\/On c d b:=by
 obtain⟨q,s,t,hq,s0,s1,t0,t1,e1,_⟩:=hs;have u1:=wsum (a:=a.1) (b:=b.1) (m:=max a.1 b.1) s0 s1 U U;have u2:=PQ (a:=a.1) (b:=b.1) (m:=min a.1 b.1) s0 s1 U U;have v1:=wsum (a:=c.1) (b:=d.1) (m:=max c.1 d.1) t0 t1 U U;have v2:=PQ (a:=c.1) (b:=d.1) (m:=min c.1 d.1) t0 t1 U U;have w1:min a.1 b.1<=max c.1 d.1:=zm U hq;have w2:min c.1 d.1<=max a.1 b.1:=zm U hq;by_cases hc:min a.1 b.1<=min c.1 d.1
 .by_cases BK:c.1<=d.1
  .exact .inl<|Us hD h1 U
  .exact .inr<|.inl<|Us hD h2 U
 .by_cases Dh:a.1<=b.1
  .exact .inr<|.inr<|.inl<|Ut hD h1 h2 U
  .obtain⟨g1,g2⟩:=dP hD h1 h2;exact .inr<|.inr<|.inr<|Ut U g1 g2 U
noncomputable def sw(p:Pt):Pt:=(p.2,p.1)
theorem TH(a b c:Pt):AG (sw a) (sw b) (sw c) = - AG a b c:=by unfold AG sw;grind
theorem Oe{a b p:Pt}(h:On (sw a) (sw b)<|sw p):On a b p:=by obtain⟨h1,h2,h3⟩:=h;rw[TH]at h1;exact⟨U,h3,h2⟩
theorem rX{a b c d:Pt}(h:Bf a b c d):Bf (sw a) (sw b) (sw c)<|sw d:=by obtain⟨q,s,t,h1,h2,h3,h4,h5,e1,e2⟩:=h;exact⟨q,s,t,h1,h2,h3,h4,h5,e2,e1⟩
theorem SE{a b c d:Pt}(h:Bf a b c d):A4 a b c d=true:=by
 cases hm:A4 a b c d with
 |true=>rfl
 |false=>
  exfalso;have CI:¬ A4 a b c d=true:=by rw[hm];simp
  simp only[A4,zX,yR,E9,not_or,not_and]at CI;obtain⟨hp,⟨n1,n2⟩,n3,n4⟩:=CI;obtain⟨q,s,t,hq,s0,s1,t0,t1,e1,e2⟩:=id h;have i1:AG a b c-AG a b d=AG c d b-AG c d a:=by unfold AG;grind
  have f1:(q-t)*AG a b c+t*AG a b d=0:=by
   have:(q-t)*AG a b c+t*AG a b d=(b.1-a.1)*(q*c.2+t*(d.2-c.2)-q*a.2)-(b.2-a.2)*(q*c.1+t*(d.1-c.1)-q*a.1):=by unfold AG;grind
   rw[this,<-e1,<-e2];grind
  have f2:(q-s)*AG c d a+s*AG c d b=0:=by
   have:(q-s)*AG c d a+s*AG c d b=(d.1-c.1)*(q*a.2+s*(b.2-a.2)-q*c.2)-(d.2-c.2)*(q*a.1+s*(b.1-a.1)-q*c.1):=by unfold AG;grind
   rw[this,e1,e2];grind
  have hc:t=0->On a b c:=λz=>by subst z;refine Fe ⟨q,s,hq,s0,s1,?_,?_⟩<;>grind
  have hd:t=q->On a b d:=λz=>by subst z;refine Fe ⟨t,s,hq,s0,s1,?_,?_⟩<;>grind
  have ha:s=0->On c d a:=λz=>by refine Fe ⟨q,t,hq,t0,t1,?_,?_⟩<;>grind
  have hb:s=q->On c d b:=λz=>by subst z;refine Fe ⟨s,t,hq,t0,t1,?_,?_⟩<;>grind
  have KG:0<t:=U
  have jc:0<q-t:=U
  have W0:0<s:=U
  have W4:0<q-s:=U
  have Sb:∀{x y u v:Int},0<u->0<v->u*x+v*y=0->(x=0/\y=0)\/(x<0/\0<y)\/(0<x/\y<0):=λ{x y u v} hu hv e=>by
   rcases zS x 0 with hx|hx|hx
   .right;left;refine⟨hx,?_⟩;have:=AAq hu hx;by_cases h:0<y
    .exact h
    .have h:y<=0:=U
     have:=yg (yQ hv) h;lia
   .left;subst hx;refine⟨rfl,?_⟩;have:v*y=0:=U
    rcases yW.mp this with h|h
    .lia
    .exact h
   .right;right;refine⟨hx,?_⟩;have:=yX hu hx;by_cases h:y<0
    .exact h
    .have h:0<=y:=U
     have:=yT (yQ hv) h;lia
  rcases Sb jc KG f1 with⟨z1,z2⟩|z|z
  .-- on one line
   by_cases hD:b.1-a.1=0
   .by_cases hE:b.2-a.2=0
    .-- a Ts of one point
     refine n3<|Fe ⟨q,t,hq,t0,t1,?_,?_⟩
     .grind
     .grind
    .have k1:AG (sw a) (sw b) (sw c)=0:=by rw[TH,z1];rfl
     have k2:AG (sw a) (sw b) (sw d)=0:=by rw[TH,z2];rfl
     rcases Uu hE k1 k2 (rX h)with k|k|k|k
     .exact n1<|Oe k
     .exact n2<|Oe k
     .exact n3<|Oe k
     .exact n4<|Oe k
   .rcases Uu hD z1 z2 h with k|k|k|k
    .exact n1 k
    .exact n2 k
    .exact n3 k
    .exact n4 k
  .rcases Sb W4 W0 f2 with⟨y1,y2⟩|y|y
   .lia
   .exact hp U U
   .exact hp (by simp[parts];lia) (by simp[parts];lia)
  .rcases Sb W4 W0 f2 with⟨y1,y2⟩|y|y
   .lia
   .exact hp (by simp[parts];lia) (by simp[parts];lia)
   .exact hp U U
theorem Rm.Cd{r:List Pt}(R:Rm r)(k:Int):AG (AA r k) (AA r<|k+1) (AA r<|k+1+1)≠0:=by have:=R.Jx<|k+1+1;rw[show k+1+1-2=k by lia,show k+1+1-1=k+1 by lia]at this;exact this
theorem Rm.simple{r:List Pt}(R:Rm r):A2 r:=
 ⟨R.l3,λk=>La<|R.Cd k,λk h1 h2=>R.Cd k (by unfold AG;rw[<-h2,h1];simp),λi j hf hs=>by have:=R.apart i j hf;unfold M at this;rw[SE hs]at this;cases this⟩
open Classical
def yy(r:List Pt)(i:Int):Int:=(AA r i).2
def AK(r:List Pt)(h i:Int):Int:=if yy r i<=h/\h<yy r (i+1)then 1 else if yy r (i+1)<=h/\h<yy r i then -1 else 0
noncomputable def ind(p:Prop):Int:=if p then 1 else 0
theorem Au{p:Prop}(h:p):ind p=1:=yO h
theorem Ae{p:Prop}(h:¬ p):ind p=0:=yN h
def Rr(r:List Pt)(h i:Int):Int:=AU (λj=>ind (L r i j)*AK r h j) r.length
theorem Cu{r:List Pt}{i j:Int}(h:(i-j)%(r.length)=0):yy r i=yy r j:=by unfold yy;rw[Aw h]
theorem Br{n i j:Int}(h:(i-j)%n=0):(i+1-(j+1))%n=0:=by rw[show i+1-(j+1)=i-j by lia];exact h
theorem FC{r:List Pt}{h i j:Int}(e:(i-j)%(r.length)=0):AK r h i=AK r h j:=by unfold AK;rw[Cu e,Cu<|Br e]
theorem GY{r:List Pt}{i i' j j':Int}(e:(i-i')%(r.length)=0)(f:(j-j')%(r.length)=0):L r i j=L r i' j':=by unfold L;rw[Aw e,Aw<|Br e,Aw f,Aw<|Br f]
theorem O0(r:List Pt)(h j:Int):AK r h j-AK r (h-1) j=ind (yy r j=h)-ind (yy r (j+1)=h):=by unfold AK ind;generalize yy r j=a;generalize yy r (j+1)=b;by_cases h1:a=h<;>by_cases h2:b=h<;>simp only[h1,h2,AAW,AA6]<;>(repeat' split)<;>lia
theorem comb{u a b g1 g2 x y:Int}(hs:a=b+(x-y))(c1:(x=1/\g1=u)\/(x=0/\g1=0))(c2:(y=1/\g2=u)\/(y=0/\g2=0)):u*a=u*b+(g1-g2):=by rcases c1 with⟨rfl,rfl⟩|⟨rfl,rfl⟩<;>rcases c2 with⟨rfl,h⟩|⟨rfl,rfl⟩<;>(try subst h)<;>subst hs<;>grind
theorem KU{a b c d:Pt}(h:Lt a b c c):Lt a b c d:=by obtain⟨q,s,t,h1,h2,h3,h4,h5,e,l⟩:=h;exact⟨q,s,0,h1,h2,h3,U,U,yG,yG⟩
theorem MJ{a b c d:Pt}(h:Lt a b d d):Lt a b c d:=by obtain⟨q,s,t,h1,h2,h3,h4,h5,e,l⟩:=h;exact⟨q,s,q,h1,h2,h3,U,U,yG,yG⟩
theorem OQ{a b c d:Pt}(h:Lt a a c d):Lt a b c d:=by obtain⟨q,s,t,h1,h2,h3,h4,h5,e,l⟩:=h;exact⟨q,0,t,h1,U,U,h4,h5,yG,yG⟩
theorem SA{a b c d:Pt}(h:Lt b b c d):Lt a b c d:=by obtain⟨q,s,t,h1,h2,h3,h4,h5,e,l⟩:=h;exact⟨q,q,t,h1,U,U,h4,h5,yG,yG⟩
theorem Ke{a b:Pt}{h:Int}(As:a.2≠b.2)(hr:(a.2<=h/\h<=b.2)\/(b.2<=h/\h<=a.2)):∃q s:Int,0<q/\0<=s/\s<=q/\q*a.2+s*(b.2-a.2)=q*h/\(s=0->h=a.2)/\(s=q->h=b.2):=by
 rcases zC As with hl|hl
 .exact⟨b.2-a.2,h-a.2,U,U,U,yG,U,U⟩
 .exact⟨a.2-b.2,a.2-h,U,U,U,yG,U,U⟩
theorem Sr{a b:Pt}{h:Int}(hr:(a.2<=h/\h<b.2)\/(b.2<=h/\h<a.2)):∃q s:Int,0<q/\0<s/\s<q/\2*(q*a.2+s*(b.2-a.2))=q*(2*h+1):=by
 rcases hr with hl|hl
 .exact⟨2*(b.2-a.2),2*h+1-2*a.2,U,U,U,yG⟩
 .exact⟨2*(a.2-b.2),2*a.2-(2*h+1),U,U,U,yG⟩
theorem Cr{r:List Pt}{h i:Int}(hs:AK r h i≠0):(yy r i<=h/\h<yy r (i+1))\/(yy r (i+1)<=h/\h<yy r i):=by
 unfold AK at hs;by_cases h1:yy r i<=h/\h<yy r (i+1)
 .exact .inl h1
 .by_cases h2:yy r (i+1)<=h/\h<yy r i
  .exact .inr h2
  .rw[yN h1,yN h2]at hs;exact absurd rfl hs
section
variable{r:List Pt}(S:A2 r)
include S
theorem A2.IG{h i j:Int}(As:(i-j)%(r.length)≠0)(hi:AK r h i≠0)(hj:AK r h j≠0):L r i j\/L r j i:=by
 obtain⟨q1,s1,p1,p2,p3,e1⟩:=Sr <|Cr hi;obtain⟨q2,s2,p4,p5,p6,e2⟩:=Sr <|Cr hj;have m1:=yX p1 p4;have m2:=yX p2 p4;have m3:=yX p5 p1;have m4:=AAK p3 p4;have m5:s2*q1<q1*q2:=by rw[AAl q1];exact AAK p6 p1
 have ey:q1*q2*(AA r i).2+s1*q2*((AA r<|i+1).2-(AA r i).2)=q1*q2*(AA r j).2+s2*q1*((AA r<|j+1).2-(AA r j).2):=by
  have f1:2*(q1*q2*(AA r i).2+s1*q2*((AA r<|i+1).2-(AA r i).2))=q2*(2*(q1*(AA r i).2+s1*((AA r<|i+1).2-(AA r i).2))):=yG
  have f2:2*(q1*q2*(AA r j).2+s2*q1*((AA r<|j+1).2-(AA r j).2))=q1*(2*(q2*(AA r j).2+s2*((AA r<|j+1).2-(AA r j).2))):=yG
  rw[e1]at f1;rw[e2]at f2;lia
 rcases zS (q1*q2*(AA r i).1+s1*q2*((AA r<|i+1).1-(AA r i).1)) (q1*q2*(AA r j).1+s2*q1*((AA r<|j+1).1-(AA r j).1))with hl|he|hg
 .exact .inl ⟨_,_,_,m1,U,U,U,U,ey,hl⟩
 .rcases S.share As m1 U U U U he ey with⟨_,z,_⟩|⟨_,z,_⟩<;>lia
 .exact .inr ⟨_,_,_,m1,U,U,U,U,ey.symm,hg⟩
theorem A2.off{m j:Int}(h0:(m-j)%(r.length)≠0)(h1:(m-j)%(r.length)≠1){q s:Int}(hq:0<q)(s0:0<=s)(s1:s<=q)(e2:q*(AA r j).2+s*((AA r<|j+1).2-(AA r j).2)=q*(AA r m).2):q*(AA r j).1+s*((AA r<|j+1).1-(AA r j).1)≠q*(AA r m).1:=by
 intro e1;rcases S.share h0 (s:=0) hq U U s0 s1 (by rw[e1];lia) (by rw[e2];lia)with⟨z,_⟩|⟨_,z,_⟩
 .exact h1 z
 .lia
theorem A2.Mp{m i:Int}(h0:(m-i)%(r.length)≠0)(h1:(m-i)%(r.length)≠1)(As:yy r i≠yy r (i+1))(hr:(yy r i<=yy r m/\yy r m<=yy r (i+1))\/(yy r (i+1)<=yy r m/\yy r m<=yy r i)) : Lt (AA r i) (AA r<|i+1) (AA r m) (AA r m)\/Lt (AA r m) (AA r m) (AA r i) (AA r<|i+1):=by
 obtain⟨q,s,hq,s0,s1,e,_,_⟩:=Ke As hr;have As:=S.off h0 h1 hq s0 s1 e;rcases zC As with hl|hl
 .exact .inl ⟨q,s,0,hq,s0,s1,U,U,by unfold yy at e;rw[e];lia,U⟩
 .exact .inr ⟨q,0,s,hq,U,U,s0,s1,by unfold yy at e;rw[e];lia,U⟩
theorem A2.bF{h i:Int}(h1:AK r (h-1) i≠0)(h2:AK r h i≠0):Rr r h i=Rr r (h-1) i:=by
 have r1:=Cr h1;have r2:=Cr h2;have key:∀j:Int,ind (L r i j)*AK r h j=ind (L r i j)*AK r (h-1) j+(ind (yy r j=h/\Lt (AA r i) (AA r<|i+1) (AA r j) (AA r j))-ind (yy r (j+1)=h/\Lt (AA r i) (AA r<|i+1) (AA r<|j+1) (AA r<|j+1))):=by
  intro j;have hd:=O0 r h j;by_cases Bi:(i-j)%(r.length)=0
  .have e1:=Cu Bi;have e2:=Cu<|Br Bi;have hL:¬ L r i j:=by
    rw[GY (i':=i) yI (by rw[show j-i = -(i-j)by lia];exact AAw<|ACX.mpr<|AAx Bi)]
    exact Ep r i (by
     have:yy r i≠yy r (i+1):=U
     exact this)
   rw[Ae hL,Ae U,Ae U];lia
  .have fY:yy r j=h->ind (yy r j=h/\Lt (AA r i) (AA r<|i+1) (AA r j) (AA r j))=ind (L r i j):=λz=>by
    rcases S.Mp (by
     intro c;apply Bi;rw[show i-j = -(j-i)by lia];exact AAw<|ACX.mpr<|AAx c) (by
     intro c;have:=(S.next c).1;have:yy r j=yy r (i+1):=by unfold yy;rw[this]
     lia) U U with k|k
    .rw[Au ⟨z,k⟩,Au (show L r i j from KU k)]
    .have n1:=λc=>S.nc Bi c<|OQ k;rw[Ae n1,Ae λc=>n1<|KU c.2]
   have fZ:yy r (j+1)=h->ind (yy r (j+1)=h/\Lt (AA r i) (AA r<|i+1) (AA r<|j+1) (AA r<|j+1))=ind (L r i j):=λz=>by
    rcases S.Mp (m:=j+1) (i:=i) (by
     intro c;have:=Cu c;lia) (by
     intro c;apply Bi;rw[show j+1-i = -(i-j)+1 by lia]at c;have:(-(i-j)+1-1)%(r.length)=0:=by rw[AAA,c];simp
     rw[show -(i-j)+1-1 = -(i-j)by lia]at this;rw[show i-j = -(-(i-j))by lia];exact AAw<|ACX.mpr<|AAx this) U U with k|k
    .rw[Au ⟨z,k⟩,Au (show L r i j from MJ k)]
    .have n1:=λc=>S.nc Bi c<|SA k;rw[Ae n1,Ae λc=>n1<|MJ c.2]
   have hs:AK r h j=AK r (h-1) j+(ind (yy r j=h)-ind (yy r (j+1)=h)):=U
   refine comb hs ?_ ?_
   .by_cases a1:yy r j=h
    .exact .inl ⟨Au a1,fY a1⟩
    .exact .inr ⟨Ae a1,Ae λc=>a1 c.1⟩
   .by_cases a2:yy r (j+1)=h
    .exact .inl ⟨Au a2,fZ a2⟩
    .exact .inr ⟨Ae a2,Ae λc=>a2 c.1⟩
 unfold Rr;rw[Bs (g:=λj=>ind (L r i j)*AK r (h-1) j+(ind (yy r j=h/\Lt (AA r i) (AA r<|i+1) (AA r j) (AA r j))-ind (yy r (j+1)=h/\Lt (AA r i) (AA r<|i+1) (AA r<|j+1) (AA r<|j+1)))) λj _=>key j];rw[D9 (λj=>ind (L r i j)*AK r (h-1) j) λj=>ind (yy r j=h/\Lt (AA r i) (AA r<|i+1) (AA r j) (AA r j))-ind (yy r (j+1)=h/\Lt (AA r i) (AA r<|i+1) (AA r<|j+1) (AA r<|j+1))];have ht:=HG (λj=>- ind (yy r j=h/\Lt (AA r i) (AA r<|i+1) (AA r j) (AA r j))) r.length;have hc:AA r (r.length)=AA r 0:=Aw yI;have hy:yy r (r.length)=yy r 0:=by unfold yy;rw[hc]
 rw[hc,hy]at ht;lia
end
theorem O7{f:Int->Int}{n:Nat}(hn:0<n)(hp:∀a b:Int,(a-b)%(n)=0->f a=f b)(i:Int):AU (λm=>f<|i+m) n=AU f n:=by
 have a:=zE i (b:=(n)) U;have h1:AU (λm=>f<|i+m) n=AU (λm=>f<|m+((i%(n)).toNat)) n:=Bs λm _=>hp _ _ (by
  rw[yk a,show i+(m)-(m+i%(n))=i-i%n by lia];have:=AAP i n;have e:i-i%(n)=n*(i / n):=U
  rw[e];exact AA3 _ _)
 rw[h1];exact TU f n (λx=>hp _ _ (by rw[show x+(n)-x=n by lia];exact ABK)) _
theorem Jd{f:Int->Int}:∀{n:Nat},(∀m:Nat,m<n->f m=0)->AU f n=0
 |0,_=>rfl
 |n+1,h=>by rw[AU,Jd λm hm=>h m U,h n U];rfl
theorem Mi{f:Int->Int}{d:Nat}:∀{n:Nat},d<n->(∀m:Nat,m<n->m≠d->f m=0)->AU f n=f d
 |0,h,_=>U
 |n+1,h,hz=>by
  rw[AU];by_cases hd:d=n
  .subst hd;rw[Jd λm hm=>hz m U U];lia
  .rw[Mi U λm hm As=>hz m U As,hz n U U];lia
theorem TX{f:Int->Int}{c d n:Nat}(hc:c<d)(hd:d<n)(hz:∀m:Nat,m<n->m≠c->m≠d->f m=0):AU f n=f c+f d:=by
 induction n with
 |zero=>lia
 |succ n ih=>
  rw[AU];by_cases h:d=n
  .subst h;rw[Mi hc λm hm As=>hz m U As U]
  .rw[ih U λm hm=>hz m U,hz n U U U];lia
theorem B8{n a b:Int}(h:(a-b)%n=0):(b-a)%n=0:=by rw[show b-a = -(a-b)by lia];exact AAw<|ACX.mpr<|AAx h
theorem DY{n a b:Int}(hn:1<n)(h:(a-b)%n=1):(a-1-b)%n=0:=by rw[show a-1-b=(a-b)-1 by lia,AAA,h,yM U hn];rfl
structure PZ(r:List Pt)(i k h:Int):Prop where
 kk:k=i+1\/(k=i+2/\yy r (i+1)=yy r (i+2))
 hi:yy r (i+1)=h
 hk:yy r k=h
 ni:yy r i≠h
 nk:yy r (k+1)≠h
section
variable{r:List Pt}(S:A2 r){i k h:Int}(B:PZ r i k h)
include S B
theorem A2.cA{j:Int}(n1:(i-j)%(r.length)≠0)(n2:(k-j)%(r.length)≠0)(n3:(i+1-j)%(r.length)≠0){q s:Int}(hq:0<q)(s0:0<=s)(s1:s<=q)(e:q*(AA r j).2+s*((AA r<|j+1).2-(AA r j).2)=q*h) : (q*(AA r<|i+1).1<q*(AA r j).1+s*((AA r<|j+1).1-(AA r j).1)/\q*(AA r k).1<q*(AA r j).1+s*((AA r<|j+1).1-(AA r j).1))\/(q*(AA r j).1+s*((AA r<|j+1).1-(AA r j).1)<q*(AA r<|i+1).1/\q*(AA r j).1+s*((AA r<|j+1).1-(AA r j).1)<q*(AA r k).1):=by
 have h3:=S.l3;have hv:(AA r<|i+1).2=h:=B.hi;have hw:(AA r k).2=h:=B.hk;have o1:=S.off n3 (λc=>n1 (by have:=DY U c;rw[show i+1-1-j=i-j by lia]at this;exact this)) hq s0 s1 (by rw[hv];exact e);rcases B.kk with rfl|⟨rfl,hh⟩
 .lia
 .have o2:=S.off n2 (λc=>n3 (by have:=DY U c;rw[show i+2-1-j=i+1-j by lia]at this;exact this)) hq s0 s1 (by rw[hw];exact e);have UM:∀g:Int,(g=1\/g = -1)->0<g*((AA r j).1*q+s*((AA r<|j+1).1-(AA r j).1)-q*(AA r<|i+1).1)->0<g*(q*(AA r<|i+2).1-((AA r j).1*q+s*((AA r<|j+1).1-(AA r j).1)))->False:=by
   intro g hg p1 p2;have hW:0<g*((AA r<|i+2).1-(AA r<|i+1).1):=by
    by_cases hc:0<g*((AA r<|i+2).1-(AA r<|i+1).1)
    .exact hc
    .have:=yg (yQ hq) (U:g*((AA r<|i+2).1-(AA r<|i+1).1)<=0);lia
   have fL:i+1+1=i+2:=U
   have hz:(AA r<|i+2).2-(AA r<|i+1).2=0:=by rw[hv,hw];lia
   rcases S.share n3 (s:=g*((AA r j).1*q+s*((AA r<|j+1).1-(AA r j).1)-q*(AA r<|i+1).1)) (yX hq hW) U (by
    lia) (yT s0<|yQ hW) (y8 s1<|yQ hW) yG (by
    rw[fL,hz,ze,zG,hv];have:q*(g*((AA r<|i+2).1-(AA r<|i+1).1))*(AA r j).2+s*(g*((AA r<|i+2).1-(AA r<|i+1).1))*((AA r<|j+1).2-(AA r j).2)=(g*((AA r<|i+2).1-(AA r<|i+1).1))*(q*(AA r j).2+s*((AA r<|j+1).2-(AA r j).2)):=yG
    rw[this,e];grind)with⟨z,_⟩|⟨z,_⟩
   .apply n1;have:=DY U z;rw[show i+1-1-j=i-j by lia]at this;exact this
   .apply n2;have:=DY U z;have:=B8 this;rw[show i+1-(j-1)=i+2-j by lia]at this;exact this
  have a1:=UM 1<|.inl rfl;have a2:=UM (-1)<|.inr rfl;rw[AAl (AA r j).1 q]at a1 a2;generalize q*(AA r j).1+s*((AA r<|j+1).1-(AA r j).1)=X at *
  generalize q*(AA r<|i+1).1=V at *
  generalize q*(AA r<|i+2).1=W at *
  rcases zC o1 with u|u<;>rcases zC o2 with w|w
  .exact .inr ⟨u,w⟩
  .exact(a2 U U).elim
  .exact(a1 U U).elim
  .exact .inl ⟨u,w⟩
theorem A2.QR{j:Int}(n1:(i-j)%(r.length)≠0)(n2:(k-j)%(r.length)≠0)(n3:(i+1-j)%(r.length)≠0){q s:Int}(hq:0<q)(s0:0<=s)(s1:s<=q)(e:q*(AA r j).2+s*((AA r<|j+1).2-(AA r j).2)=q*h) : ((q*(AA r<|i+1).1<q*(AA r j).1+s*((AA r<|j+1).1-(AA r j).1)/\q*(AA r k).1<q*(AA r j).1+s*((AA r<|j+1).1-(AA r j).1))/\L r i j/\L r k j)\/((q*(AA r j).1+s*((AA r<|j+1).1-(AA r j).1)<q*(AA r<|i+1).1/\q*(AA r j).1+s*((AA r<|j+1).1-(AA r j).1)<q*(AA r k).1)/\¬ L r i j/\¬ L r k j):=by
 have hv:(AA r<|i+1).2=h:=B.hi;have hw:(AA r k).2=h:=B.hk;rcases S.cA B n1 n2 n3 hq s0 s1 e with z|z
 .refine .inl ⟨z,SA ⟨q,0,s,hq,U,U,s0,s1,by rw[e,hv];lia,U⟩,OQ ⟨q,0,s,hq,U,U,s0,s1,by rw[e,hw];lia,U⟩⟩
 .have l1:L r j i:=MJ ⟨q,s,0,hq,s0,s1,U,U,by rw[e,hv];lia,U⟩;have l2:L r j k:=KU ⟨q,s,0,hq,s0,s1,U,U,by rw[e,hw];lia,U⟩;exact .inr ⟨z,λc=>S.nc n1 c l1,λc=>S.nc n2 c l2⟩
theorem A2.QQ{j:Int}(n1:(i-j)%(r.length)≠0)(n2:(k-j)%(r.length)≠0)(n3:(i+1-j)%(r.length)≠0) : (ind (L r k j)*AK r h j=ind (L r i j)*AK r h j)/\(ind (L r k j)*AK r (h-1) j=ind (L r i j)*AK r (h-1) j)/\ind (L r i j)*AK r h j=ind (L r i j)*AK r (h-1) j+(ind (yy r j=h/\(AA r<|i+1).1<(AA r j).1/\(AA r k).1<(AA r j).1)-ind (yy r (j+1)=h/\(AA r<|i+1).1<(AA r<|j+1).1/\(AA r k).1<(AA r<|j+1).1)):=by
 have same:((yy r j<=h/\h<=yy r (j+1))\/(yy r (j+1)<=h/\h<=yy r j))->ind (L r k j)=ind (L r i j):=λhr=>by
  obtain⟨q,s,hq,s0,s1,e⟩:∃q s:Int,0<q/\0<=s/\s<=q/\q*(AA r j).2+s*((AA r<|j+1).2-(AA r j).2)=q*h:=by
   by_cases As:yy r j=yy r (j+1)
   .refine⟨1,0,U,U,U,?_⟩;have:(AA r j).2=h:=by show yy r j=h;lia
    rw[this];lia
   .obtain⟨q,s,a,b,c,d,_,_⟩:=Ke As hr;exact⟨q,s,a,b,c,d⟩
  rcases S.QR B n1 n2 n3 hq s0 s1 e with⟨_,a,b⟩|⟨_,a,b⟩
  .rw[Au a,Au b]
  .rw[Ae a,Ae b]
 refine⟨?_,?_,?_⟩
 .by_cases hz:AK r h j=0
  .rw[hz,ze,ze]
  .rw[same (by have:=Cr hz;lia)]
 .by_cases hz:AK r (h-1) j=0
  .rw[hz,ze,ze]
  .rw[same (by have:=Cr hz;lia)]
 .have hd:=O0 r h j;refine comb (x:=ind<|yy r j=h) (y:=ind<|yy r (j+1)=h) U ?_ ?_
  .by_cases a1:yy r j=h
   .refine .inl ⟨Au a1,?_⟩;rcases S.QR B n1 n2 n3 (q:=1) (s:=0) U U U (by rw[show(AA r j).2=h from a1];lia)with⟨a,b,_⟩|⟨a,b,_⟩
    .rw[Au b,Au ⟨a1,U,U⟩]
    .rw[Ae b,Ae λc=>U]
   .exact .inr ⟨Ae a1,Ae λc=>a1 c.1⟩
  .by_cases a2:yy r (j+1)=h
   .refine .inl ⟨Au a2,?_⟩;rcases S.QR B n1 n2 n3 (q:=1) (s:=1) U U U (by rw[show(AA r<|j+1).2=h from a2];lia)with⟨a,b,_⟩|⟨a,b,_⟩
    .rw[Au b,Au ⟨a2,U,U⟩]
    .rw[Ae b,Ae λc=>U]
   .exact .inr ⟨Ae a2,Ae λc=>a2 c.1⟩
end
section
variable{r:List Pt}(S:A2 r){i k h:Int}(B:PZ r i k h)
include S B
theorem A2.QP(j:Int):(i-j)%(r.length)=0\/(k-j)%(r.length)=0\/((i+1-j)%(r.length)=0/\yy r (i+1)=h/\yy r (i+1+1)=h/\AA r (i+1+1)=AA r k)\/((i-j)%(r.length)≠0/\(k-j)%(r.length)≠0/\(i+1-j)%(r.length)≠0):=by
 by_cases h1:(i-j)%(r.length)=0
 .exact .inl h1
 by_cases h2:(k-j)%(r.length)=0
 .exact .inr<|.inl h2
 by_cases h3:(i+1-j)%(r.length)=0
 .rcases B.kk with e|⟨e,f⟩
  .rw[e]at h2;exact absurd h3 h2
  .refine .inr (.inr<|.inl ⟨h3,B.hi,?_,?_⟩)
   .have:=B.hk;rw[e]at this;rw[show i+1+1=i+2 by lia];exact this
   .rw[e];congr 1;lia
 .exact .inr<|.inr<|.inr ⟨h1,h2,h3⟩
theorem A2.b9:(i-k)%(r.length)≠0:=by
 have h3:=S.l3;intro c;have:=B8 c;rcases B.kk with e|⟨e,_⟩
 .rw[e,show i+1-i=1 by lia,yM U U]at this;lia
 .rw[e,show i+2-i=2 by lia,yM U U]at this;lia
theorem A2.YU(lo:yy r i<h/\h<yy r (k+1)\/h<yy r i/\yy r (k+1)<h):(yy r i<h->Rr r h k=Rr r (h-1) i)/\(h<yy r i->Rr r (h-1) k=Rr r h i):=by
 have ht:=HG (λj=>- ind (yy r j=h/\(AA r<|i+1).1<(AA r j).1/\(AA r k).1<(AA r j).1)) r.length;have hc:AA r (r.length)=AA r 0:=Aw yI;have hy:yy r (r.length)=yy r 0:=by unfold yy;rw[hc]
 rw[hc,hy]at ht;have W6:AU (λj=>ind (yy r j=h/\(AA r<|i+1).1<(AA r j).1/\(AA r k).1<(AA r j).1)-ind (yy r (j+1)=h/\(AA r<|i+1).1<(AA r<|j+1).1/\(AA r k).1<(AA r<|j+1).1)) r.length=0:=by lia
 have hi:=B.hi;have hk:=B.hk;have UX:∀j,(i-j)%(r.length)=0->ind (yy r j=h/\(AA r<|i+1).1<(AA r j).1/\(AA r k).1<(AA r j).1)=0/\ind (yy r (j+1)=h/\(AA r<|i+1).1<(AA r<|j+1).1/\(AA r k).1<(AA r<|j+1).1)=0:=λj z=>by have z':=B8 z;rw[Aw<|Br z',Cu z',Cu<|Br z'];exact⟨Ae λc=>B.ni c.1,Ae λc=>U⟩
 have UY:∀j,(k-j)%(r.length)=0->ind (yy r j=h/\(AA r<|i+1).1<(AA r j).1/\(AA r k).1<(AA r j).1)=0/\ind (yy r (j+1)=h/\(AA r<|i+1).1<(AA r<|j+1).1/\(AA r k).1<(AA r<|j+1).1)=0:=λj z=>by have z':=B8 z;rw[Aw z',Cu<|Br z'];exact⟨Ae λc=>U,Ae λc=>B.nk c.1⟩
 have Ro:∀j,(i-j)%(r.length)=0->ind (L r i j)=0:=λj z=>Ae (by rw[GY (i':=i) yI<|B8 z];exact Ep r i (by have:=B.ni;show yy r i≠yy r (i+1);lia))
 have Rp:∀j,(k-j)%(r.length)=0->ind (L r k j)=0:=λj z=>Ae (by rw[GY (i':=k) yI<|B8 z];exact Ep r k (by have:=B.nk;show yy r k≠yy r (k+1);lia))
 have N4:∀j,(i+1-j)%(r.length)=0->yy r (i+1+1)=h->AA r (i+1+1)=AA r k->(AK r h j=0/\AK r (h-1) j=0)/\ind (yy r j=h/\(AA r<|i+1).1<(AA r j).1/\(AA r k).1<(AA r j).1)=0/\ind (yy r (j+1)=h/\(AA r<|i+1).1<(AA r<|j+1).1/\(AA r k).1<(AA r<|j+1).1)=0:=λj z y2 e=>by
  have z':=B8 z;rw[FC z',FC z',Aw z',Aw<|Br z',Cu z'];refine⟨⟨?_,?_⟩,Ae λc=>U,Ae λc=>U⟩
  .unfold AK;rw[yN U,yN U]
  .unfold AK;rw[yN U,yN U]
 constructor
 .intro hl;have key:∀j:Int,ind (L r k j)*AK r h j=ind (L r i j)*AK r (h-1) j+(ind (yy r j=h/\(AA r<|i+1).1<(AA r j).1/\(AA r k).1<(AA r j).1)-ind (yy r (j+1)=h/\(AA r<|i+1).1<(AA r<|j+1).1/\(AA r k).1<(AA r<|j+1).1)):=λj=>by
   rcases S.QP B j with z|z|⟨z,_,y2,e⟩|⟨z1,z2,z3⟩
   .obtain⟨g1,g2⟩:=UX j z;rw[g1,g2,Ro j z,FC<|B8 z];have:AK r h i=0:=by unfold AK;rw[yN U,yN U]
    rw[this];lia
   .obtain⟨g1,g2⟩:=UY j z;rw[g1,g2,Rp j z,FC (h:=h-1)<|B8 z];have:AK r (h-1) k=0:=by unfold AK;rw[yN U,yN U]
    rw[this];lia
   .obtain⟨⟨s1,s2⟩,g1,g2⟩:=N4 j z y2 e;rw[g1,g2,s1,s2];lia
   .obtain⟨a,b,c⟩:=S.QQ B z1 z2 z3;rw[a,c]
  unfold Rr;rw[Bs (g:=λj=>ind (L r i j)*AK r (h-1) j+(ind (yy r j=h/\(AA r<|i+1).1<(AA r j).1/\(AA r k).1<(AA r j).1)-ind (yy r (j+1)=h/\(AA r<|i+1).1<(AA r<|j+1).1/\(AA r k).1<(AA r<|j+1).1))) λj _=>key j,D9 (λj=>ind (L r i j)*AK r (h-1) j) λj=>ind (yy r j=h/\(AA r<|i+1).1<(AA r j).1/\(AA r k).1<(AA r j).1)-ind (yy r (j+1)=h/\(AA r<|i+1).1<(AA r<|j+1).1/\(AA r k).1<(AA r<|j+1).1),W6];lia
 .intro hg;have key:∀j:Int,ind (L r i j)*AK r h j=ind (L r k j)*AK r (h-1) j+(ind (yy r j=h/\(AA r<|i+1).1<(AA r j).1/\(AA r k).1<(AA r j).1)-ind (yy r (j+1)=h/\(AA r<|i+1).1<(AA r<|j+1).1/\(AA r k).1<(AA r<|j+1).1)):=λj=>by
   rcases S.QP B j with z|z|⟨z,_,y2,e⟩|⟨z1,z2,z3⟩
   .obtain⟨g1,g2⟩:=UX j z;rw[g1,g2,Ro j z,FC (h:=h-1)<|B8 z];have:AK r (h-1) i=0:=by unfold AK;rw[yN U,yN U]
    rw[this];lia
   .obtain⟨g1,g2⟩:=UY j z;rw[g1,g2,Rp j z,FC <|B8 z];have:AK r h k=0:=by unfold AK;rw[yN U,yN U]
    rw[this];lia
   .obtain⟨⟨s1,s2⟩,g1,g2⟩:=N4 j z y2 e;rw[g1,g2,s1,s2];lia
   .obtain⟨a,b,c⟩:=S.QQ B z1 z2 z3;rw[b,c]
  unfold Rr;rw[Bs (f:=λj=>ind (L r i j)*AK r h j) (g:=λj=>ind (L r k j)*AK r (h-1) j+(ind (yy r j=h/\(AA r<|i+1).1<(AA r j).1/\(AA r k).1<(AA r j).1)-ind (yy r (j+1)=h/\(AA r<|i+1).1<(AA r<|j+1).1/\(AA r k).1<(AA r<|j+1).1))) λj _=>key j,D9 (λj=>ind (L r k j)*AK r (h-1) j) λj=>ind (yy r j=h/\(AA r<|i+1).1<(AA r j).1/\(AA r k).1<(AA r j).1)-ind (yy r (j+1)=h/\(AA r<|i+1).1<(AA r<|j+1).1/\(AA r k).1<(AA r<|j+1).1),W6];lia
theorem A2.Zj{H:Int}(hH:H=h\/H=h-1):Rr r H i-Rr r H k=ind (L r i k)*AK r H k-ind (L r k i)*AK r H i:=by
 have h3:=S.l3;have hi:=B.hi;have hk:=B.hk;have Ro:=Ae (Ep r i (by have:=B.ni;show yy r i≠yy r (i+1);lia));have Rp:=Ae (Ep r k (by have:=B.nk;show yy r k≠yy r (k+1);lia));have hp:∀a b:Int,(a-b)%(r.length)=0->ind (L r i a)*AK r H a-ind (L r k a)*AK r H a=ind (L r i b)*AK r H b-ind (L r k b)*AK r H b:=λa b z=>by rw[GY (i':=i) yI z,GY (i':=k) yI z,FC z]
 have hd:Rr r H i-Rr r H k=AU (λj=>ind (L r i j)*AK r H j-ind (L r k j)*AK r H j) r.length:=by unfold Rr;have:=D9 (λj=>ind (L r i j)*AK r H j-ind (L r k j)*AK r H j) (λj=>ind (L r k j)*AK r H j) r.length;lia
 rw[hd,<-O7 U hp i];have zero:∀m:Nat,m<r.length->(m:Int)≠0->i+(m)≠k->ind (L r i<|i+(m))*AK r H (i+(m))-ind (L r k<|i+(m))*AK r H (i+(m))=0:=λm hm m0 mk=>by
  have e0:(i-(i+(m)))%(r.length)≠0:=λc=>by have:=B8 c;rw[show i+(m)-i=m by lia,yM U U]at this;lia
  have e1:(k-(i+(m)))%(r.length)≠0:=λc=>by
   have c':=B8 c;rcases B.kk with e|⟨e,_⟩
   .rw[e,yM U U]at c';lia
   .by_cases RD:(m:Int)=1
    .rw[e,RD]at c';have:(-1:Int)%(r.length)=r.length-1:=by rw[show(-1:Int)=(r.length-1)+r.length*(-1)by lia,zi,yM U U]
     lia
    .rw[e,yM U U]at c';lia
  rcases S.QP B (i+(m))with z|z|⟨z,_,y2,_⟩|⟨z1,z2,z3⟩
  .exact absurd z e0
  .exact absurd z e1
  .have z':=B8 z;have:AK r H (i+(m))=0:=by rw[FC z'];unfold AK;rw[yN U,yN U]
   rw[this];lia
  .obtain⟨a,b,_⟩:=S.QQ B z1 z2 z3;rcases hH with rfl|rfl<;>lia
 have t0:ind (L r i<|i+(0))*AK r H (i+(0))-ind (L r k<|i+(0))*AK r H (i+(0)) = - (ind (L r k i)*AK r H i):=by lia
 have tk:ind (L r i k)*AK r H k-ind (L r k k)*AK r H k=ind (L r i k)*AK r H k:=U
 rcases B.kk with e|⟨e,_⟩
 .rw[TX (c:=0) (d:=1) U U λm hm m0 m1=>zero m hm U U];show ind (L r i<|i+(0))*AK r H (i+(0))-ind (L r k<|i+(0))*AK r H (i+(0))+(ind (L r i<|i+1)*AK r H (i+1)-ind (L r k<|i+1)*AK r H (i+1))=_;rw[t0,<-e,tk];lia
 .rw[TX (c:=0) (d:=2) U U λm hm m0 m1=>zero m hm U U];show ind (L r i<|i+(0))*AK r H (i+(0))-ind (L r k<|i+(0))*AK r H (i+(0))+(ind (L r i<|i+2)*AK r H (i+2)-ind (L r k<|i+2)*AK r H (i+2))=_;rw[t0,<-e,tk];lia
theorem A2.YC{H:Int}(h1:AK r H i≠0)(h2:AK r H k≠0):(ind (L r i k)=1/\ind (L r k i)=0)\/(ind (L r i k)=0/\ind (L r k i)=1):=by
 have As:=S.b9 B;rcases S.IG As h1 h2 with z|z
 .exact .inl ⟨Au z,Ae<|S.nc As z⟩
 .exact .inr ⟨Ae λc=>S.nc As c z,Au z⟩
end
def cc(r:List Pt)(h i:Int):Int:=Rr r h i+ind (yy r i<yy r (i+1))
theorem c9{r:List Pt}{h i j:Int}(e:(i-j)%(r.length)=0):cc r h i=cc r h j:=by
 unfold cc Rr;rw[Cu e,Cu<|Br e]
 congr 1
 exact Bs λm _=>by rw[GY e (yI:((m:Int)-m)%(r.length)=0)]
theorem Ek{r:List Pt}{h i:Int}(h1:yy r i<=h)(h2:h<yy r (i+1)):AK r h i=1:=yO ⟨h1,h2⟩
theorem Ej{r:List Pt}{h i:Int}(h1:yy r (i+1)<=h)(h2:h<yy r i):AK r h i = -1:=by unfold AK;rw[yN U,yO ⟨h1,h2⟩]
theorem Ja{r:List Pt}{h i:Int}(hr:(yy r i<=h/\h<yy r (i+1))\/(yy r (i+1)<=h/\h<yy r i)):AK r h i≠0:=by
 rcases hr with z|z
 .rw[Ek z.1 z.2];lia
 .rw[Ej z.1 z.2];lia
theorem Nc{C:Nat->Prop}{N D:Nat->Int}(hD:∀j,C j->0<D j):∀n:Nat,(∃j,j<n/\C j)->∃e,e<n/\C e/\∀j,j<n->C j->N j*D e<=N e*D j
 |0,⟨j,h,_⟩=>U
 |n+1,⟨j,hj,hc⟩=>by
  by_cases hex:∃j,j<n/\C j
  .obtain⟨e,he,ce,hm⟩:=Nc hD n hex;by_cases hn:C n
   .by_cases hle:N n*D e<=N e*D n
    .exact⟨e,U,ce,λj hj cj=>by
      by_cases h:j=n
      .subst h;exact hle
      .exact hm j U cj⟩
    .refine⟨n,U,hn,λj hj cj=>?_⟩;by_cases h:j=n
     .subst h;exact AAC _
     .have h1:=hm j U cj;have d1:=hD j cj;have d2:=hD e ce;have d3:=hD n hn;have m1:=y8 h1<|yQ d3;have m2:=y8 (U:N e*D n<=N n*D e)<|yQ d1;exact zm U d2
   .exact⟨e,U,ce,λj hj cj=>by
     by_cases h:j=n
     .subst h;exact absurd cj hn
     .exact hm j U cj⟩
  .have Ey:j=n:=by
    by_cases h:j=n
    .exact h
    .exact absurd ⟨j,U,hc⟩ hex
   subst Ey;exact⟨j,U,hc,λm hm cm=>by
    by_cases h:m=j
    .subst h;exact AAC _
    .exact absurd ⟨m,U,cm⟩ hex⟩
section
variable{r:List Pt}(S:A2 r)
include S
theorem A2.Gh{h h' i:Int}(h1:AK r h i≠0)(h2:AK r h' i≠0):cc r h i=cc r h' i:=by
 have main:∀(m:Nat)(h:Int),AK r h i≠0->AK r (h+m) i≠0->cc r (h+m) i=cc r h i:=by
  intro m
  induction m with
  |zero=>simp
  |succ m ih=>
   intro h a b;have ra:=Cr a;have rb:=Cr b;have c:AK r (h+m) i≠0:=Ja U;rw[<-ih h a c];have:=S.bF (by rw[show h+((m+1:Nat))-1=h+m by lia];exact c) b;unfold cc;rw[this,show h+((m+1:Nat))-1=h+m by lia]
 rcases AAG h h' with hl|hl
 .have:=main (h'-h).toNat h h1 (by rw[yk U,show h+(h'-h)=h' by lia];exact h2);rw[yk U,show h+(h'-h)=h' by lia]at this;exact this.symm
 .have:=main (h-h').toNat h' h2 (by rw[yk U,show h'+(h-h')=h by lia];exact h1);rw[yk U,show h'+(h-h')=h by lia]at this;exact this
theorem A2.Uj{i k h:Int}(B:PZ r i k h){H1 H2:Int}(h1:AK r H1 i≠0)(h2:AK r H2 k≠0):cc r H1 i=cc r H2 k:=by
 have hi:=B.hi;have hk:=B.hk;have ni:=B.ni;have nk:=B.nk;rcases zC ni with a|a<;>rcases zC nk with b|b
 .-- a top
  have s1:AK r (h-1) i=1:=Ek U U;have s2:AK r (h-1) k = -1:=Ej U U;rw[S.Gh h1 (h':=h-1) U,S.Gh h2 (h':=h-1) U];have t:=S.Zj B <|.inr rfl;have o:=S.YC B (H:=h-1) U U;rw[s1,s2]at t;unfold cc;rw[Au U,Ae U];rcases o with⟨o1,o2⟩|⟨o1,o2⟩<;>rw[o1,o2]at t<;>lia
 .-- yC
  have s1:AK r (h-1) i=1:=Ek U U;have s2:AK r h k=1:=Ek U U;rw[S.Gh h1 (h':=h-1) U,S.Gh h2 (h':=h) U];have t:=(S.YU B<|.inl ⟨a,b⟩).1 a;unfold cc;rw[Au U,Au U,t]
 .-- w6
  have s1:AK r h i = -1:=Ej U U;have s2:AK r (h-1) k = -1:=Ej U U;rw[S.Gh h1 (h':=h) U,S.Gh h2 (h':=h-1) U];have t:=(S.YU B<|.inr ⟨a,b⟩).2 a;unfold cc;rw[Ae U,Ae U,t]
 .-- a cB
  have s1:AK r h i = -1:=Ej U U;have s2:AK r h k=1:=Ek U U;rw[S.Gh h1 (h':=h) U,S.Gh h2 (h':=h) U];have t:=S.Zj B <|.inl rfl;have o:=S.YC B (H:=h) U U;rw[s1,s2]at t;unfold cc;rw[Ae U,Au U];rcases o with⟨o1,o2⟩|⟨o1,o2⟩<;>rw[o1,o2]at t<;>lia
theorem A2.V5{i:Int}(h:yy r i≠yy r (i+1)):∃H,AK r H i≠0:=by
 rcases zC h with z|z
 .exact⟨yy r i,Ja<|.inl ⟨U,U⟩⟩
 .exact⟨yy r<|i+1,Ja<|.inr ⟨U,U⟩⟩
theorem A2.dA{i0 H0:Int}(h0:AK r H0 i0≠0):∀(m:Nat)(H:Int),AK r H (i0+m)≠0->cc r H (i0+m)=cc r H0 i0:=by
 intro m
 induction m using Nat.strongRecOn with
 |ind m ih=>
  intro H hs;cases m with
  |zero=>rw[Int.natCast_zero,zG]at hs ⊢;exact S.Gh hs h0
  |succ m=>
   have rs:=Cr hs;have e1:i0+((m+1:Nat))=i0+m+1:=U
   rw[e1]at hs rs ⊢;by_cases hh:yy r (i0+m)=yy r (i0+m+1)
   .-- a level wall ahead of it
    cases m with
    |zero=>
     have r0:=Cr h0;lia
    |succ m=>
     have e2:i0+((m+1:Nat))=i0+m+1:=U
     rw[e2]at hh rs hs ⊢;have As:=λc=>S.hh (i0+m) c hh;obtain⟨H1,s1⟩:=S.V5 As;have:=ih m U H1 s1;rw[<-this];exact(S.Uj ⟨.inr ⟨U,by rw[show i0+(m)+2=i0+m+1+1 by lia];exact hh⟩,rfl,hh.symm,As,U⟩ s1 hs).symm
   .obtain⟨H1,s1⟩:=S.V5 hh;have:=ih m U H1 s1;rw[<-this];exact(S.Uj ⟨.inl rfl,rfl,rfl,hh,U⟩ s1 hs).symm
theorem A2.NF{i j H H':Int}(h1:AK r H i≠0)(h2:AK r H' j≠0):cc r H i=cc r H' j:=by
 have h3:=S.l3;have a:=zE (i-j) (b:=(r.length)) U;have e:(i-(j+((i-j)%(r.length)).toNat))%(r.length)=0:=by
  rw[yk a,show i-(j+(i-j)%(r.length))=(i-j)-(i-j)%r.length by lia];have:=AAP (i-j) r.length;have e':(i-j)-(i-j)%(r.length)=r.length*((i-j) / r.length):=U
  rw[e'];exact AA3 _ _
 rw[c9 e];exact S.dA h2 _ H (by rw[<-FC e];exact h1)
end
theorem Qh(r:List Pt)(h j:Int):∃z:Int×Int,AK r h j≠0->0<z.1/\0<z.2/\z.2<z.1/\2*(z.1*(AA r j).2+z.2*((AA r<|j+1).2-(AA r j).2))=z.1*(2*h+1):=by
 by_cases hs:AK r h j=0
 .exact⟨(0,0),λc=>absurd hs c⟩
 .obtain⟨q,s,a,b,c,d⟩:=Sr <|Cr hs;exact⟨(q,s),λ_=>⟨a,b,c,d⟩⟩
noncomputable def kD(r:List Pt)(h j:Int):Int:=(choose<|Qh r h j).1
noncomputable def kS(r:List Pt)(h j:Int):Int:=(choose<|Qh r h j).2
def kN(r:List Pt)(h j:Int):Int:=kD r h j*(AA r j).1+kS r h j*((AA r<|j+1).1-(AA r j).1)
theorem OK{r:List Pt}{h j:Int}(hs:AK r h j≠0):0<kD r h j/\0<kS r h j/\kS r h j<kD r h j/\2*(kD r h j*(AA r j).2+kS r h j*((AA r<|j+1).2-(AA r j).2))=kD r h j*(2*h+1):=choose_spec (Qh r h j) hs
section
variable{r:List Pt}(S:A2 r)
include S
theorem A2.XU{h i j:Int}(As:(i-j)%(r.length)≠0)(hi:AK r h i≠0)(hj:AK r h j≠0)(hL:L r i j):kN r h i*kD r h j<kN r h j*kD r h i:=by
 obtain⟨p1,p2,p3,e1⟩:=OK hi;obtain⟨p4,p5,p6,e2⟩:=OK hj;have m1:=yX p1 p4;have m2:=yX p2 p4;have m3:=yX p5 p1;have m4:=AAK p3 p4;have m5:kS r h j*kD r h i<kD r h i*kD r h j:=by rw[AAl<|kD r h i];exact AAK p6 p1
 have ey:kD r h i*kD r h j*(AA r i).2+kS r h i*kD r h j*((AA r<|i+1).2-(AA r i).2)=kD r h i*kD r h j*(AA r j).2+kS r h j*kD r h i*((AA r<|j+1).2-(AA r j).2):=by
  have f1:2*(kD r h i*kD r h j*(AA r i).2+kS r h i*kD r h j*((AA r<|i+1).2-(AA r i).2))=kD r h j*(2*(kD r h i*(AA r i).2+kS r h i*((AA r<|i+1).2-(AA r i).2))):=yG
  have f2:2*(kD r h i*kD r h j*(AA r j).2+kS r h j*kD r h i*((AA r<|j+1).2-(AA r j).2))=kD r h i*(2*(kD r h j*(AA r j).2+kS r h j*((AA r<|j+1).2-(AA r j).2))):=yG
  rw[e1]at f1;rw[e2]at f2;lia
 have n1:kN r h i*kD r h j=kD r h i*kD r h j*(AA r i).1+kS r h i*kD r h j*((AA r<|i+1).1-(AA r i).1):=by unfold kN;grind
 have n2:kN r h j*kD r h i=kD r h i*kD r h j*(AA r j).1+kS r h j*kD r h i*((AA r<|j+1).1-(AA r j).1):=by unfold kN;grind
 rw[n1,n2];rcases zS (kD r h i*kD r h j*(AA r i).1+kS r h i*kD r h j*((AA r<|i+1).1-(AA r i).1)) (kD r h i*kD r h j*(AA r j).1+kS r h j*kD r h i*((AA r<|j+1).1-(AA r j).1))with hl|he|hg
 .exact hl
 .rcases S.share As m1 U U U U he ey with⟨_,z,_⟩|⟨_,z,_⟩<;>lia
 .exact absurd (show L r j i from⟨_,_,_,m1,U,U,U,U,ey.symm,hg⟩) (S.nc As hL)
theorem A2.rA{h j:Int}(hj:AK r h j≠0):∃e:Int,AK r h e≠0/\Rr r h e=0:=by
 have h3:=S.l3;have a:=zE j (b:=(r.length)) U;have b:=yz j (b:=(r.length)) U;have CH:AK r h (((j%(r.length)).toNat))≠0:=by
  rw[yk a,FC (by
   have:=AAP j r.length;have e':j%(r.length)-j=r.length*(-(j / r.length)):=yG
   rw[e'];exact AA3 _ _)]
  exact hj
 obtain⟨e,he,ce,hm⟩:=Nc (N:=λm=>kN r h<|m) (λm hm=>(OK hm).1) r.length ⟨_,U,CH⟩;refine⟨e,ce,Jd λm CI=>?_⟩;by_cases hs:AK r h (m)=0
 .rw[hs,ze]
 .have:¬ L r (e) (m):=λc=>by
   by_cases Iw:((e:Int)-m)%(r.length)=0
   .rw[GY (i':=(e)) yI<|B8 Iw]at c;exact Ep r e (by have:=Cr ce;show yy r e≠yy r (e+1);lia) c
   .have k1:=S.XU Iw ce hs c;have k2:=hm m CI hs;lia
  rw[Ae this];lia
theorem A2.LK{h j:Int}(hj:AK r h j≠0):cc r h j=0\/cc r h j=1:=by
 obtain⟨e,he,hz⟩:=S.rA hj;rw[S.NF hj he];unfold cc;rw[hz];by_cases hu:yy r e<yy r (e+1)
 .rw[Au hu];lia
 .rw[Ae hu];lia
end
def fw(a b p:Pt):Int:=(if a.2<=p.2/\p.2<b.2/\AG a b p>0 then 1 else 0)-(if b.2<=p.2/\p.2<a.2/\AG a b p<0 then 1 else 0)
def W(r:List Pt)(p:Pt):Int:=AU (λj=>fw (AA r j) (AA r<|j+1) p) r.length
theorem Xm{a b p:Pt}(h:Lt p p a b):∃q x:Int,0<q/\0<x/\q*AG a b p=(b.2-a.2)*x:=by
 obtain⟨q,s,t,hq,_,_,_,_,e,l⟩:=h;refine⟨q,q*a.1+t*(b.1-a.1)-(q*p.1+s*(p.1-p.1)),hq,U,?_⟩;have e':q*(p.2-a.2)=t*(b.2-a.2):=yG
 have:q*AG a b p=(b.1-a.1)*(q*(p.2-a.2))-(b.2-a.2)*(q*(p.1-a.1)):=by unfold AG;grind
 rw[this,e'];grind
theorem WM{r:List Pt}{p:Pt}{j:Int}:fw (AA r j) (AA r<|j+1) p=AK r p.2 j*ind (Lt p p (AA r j)<|AA r<|j+1):=by
 have up:yy r j<yy r (j+1)->yy r j<=p.2->p.2<=yy r (j+1)->(Lt p p (AA r j) (AA r<|j+1)↔AG (AA r j) (AA r<|j+1) p>0):=λh1 h2 h3=>by
  constructor
  .intro h;obtain⟨q,x,hq,hx,e⟩:=Xm h;have:=yX (show 0<(AA r<|j+1).2-(AA r j).2 by unfold yy at h1;lia) hx;by_cases hc:AG (AA r j) (AA r<|j+1) p>0
   .exact hc
   .have:=yg (yQ hq) (U:AG (AA r j) (AA r<|j+1) p<=0);lia
  .intro h;unfold yy at h1 h2 h3;exact⟨(AA r<|j+1).2-(AA r j).2,0,p.2-(AA r j).2,U,U,U,U,U,yG,by unfold AG at h;grind⟩
 have dn:yy r (j+1)<yy r j->yy r (j+1)<=p.2->p.2<=yy r j->(Lt p p (AA r j) (AA r<|j+1)↔AG (AA r j) (AA r<|j+1) p<0):=λh1 h2 h3=>by
  constructor
  .intro h;obtain⟨q,x,hq,hx,e⟩:=Xm h;have:=Int.mul_neg_of_neg_of_pos (show(AA r<|j+1).2-(AA r j).2<0 by unfold yy at h1;lia) hx;by_cases hc:AG (AA r j) (AA r<|j+1) p<0
   .exact hc
   .have:=yT (yQ hq) (U:0<=AG (AA r j) (AA r<|j+1) p);lia
  .intro h;unfold yy at h1 h2 h3;exact⟨(AA r j).2-(AA r<|j+1).2,0,(AA r j).2-p.2,U,U,U,U,U,yG,by unfold AG at h;grind⟩
 unfold fw;by_cases h1:yy r j<=p.2/\p.2<yy r (j+1)
 .rw[Ek h1.1 h1.2,yN (show ¬ ((AA r<|j+1).2<=p.2/\p.2<(AA r j).2/\AG (AA r j) (AA r<|j+1) p<0)by unfold yy at h1;lia)];by_cases hs:AG (AA r j) (AA r<|j+1) p>0
  .rw[yO ⟨h1.1,h1.2,hs⟩,Au<|(up U U U).mpr hs];rfl
  .rw[yN λc=>hs c.2.2,Ae λc=>hs<|(up U U U).mp c];rfl
 .by_cases h2:yy r (j+1)<=p.2/\p.2<yy r j
  .rw[Ej h2.1 h2.2,yN (show ¬ ((AA r j).2<=p.2/\p.2<(AA r<|j+1).2/\AG (AA r j) (AA r<|j+1) p>0)by unfold yy at h2;lia)];by_cases hs:AG (AA r j) (AA r<|j+1) p<0
   .rw[yO ⟨h2.1,h2.2,hs⟩,Au<|(dn U U U).mpr hs];rfl
   .rw[yN λc=>hs c.2.2,Ae λc=>hs<|(dn U U U).mp c];rfl
  .have:AK r p.2 j=0:=by unfold AK;rw[yN h1,yN h2]
   rw[this,yN λc=>h1 ⟨c.1,c.2.1⟩,yN λc=>h2 ⟨c.1,c.2.1⟩];lia
section
variable{r:List Pt}(S:A2 r){p:Pt}
include S
theorem A2.uv{e j:Int}(he:AK r p.2 e≠0)(hj:AK r p.2 j≠0)(h1:Lt p p (AA r e)<|AA r<|e+1)(h2:L r e j):Lt p p (AA r j)<|AA r<|j+1:=by
 have As:=λc=>by rw[GY (i':=e) yI<|B8 c]at h2;exact Ep r e (by have:=Cr he;show yy r e≠yy r (e+1);lia) h2
 have rj:=Cr hj;obtain⟨q,s,hq,s0,s1,ey,_,_⟩:=Ke (h:=p.2) (by show yy r j≠yy r (j+1);lia) (by unfold yy at rj;lia);rcases ACn (q*p.1) (q*(AA r j).1+s*((AA r<|j+1).1-(AA r j).1))with hl|hg
 .exact⟨q,0,s,hq,U,U,s0,s1,by rw[ey];lia,U⟩
 .exfalso;obtain⟨q',s',t',KD,_,_,t0,t1,xD,l'⟩:=h1;have f6:q'*(AA r e).2+t'*((AA r<|e+1).2-(AA r e).2)=q'*p.2:=yG
  have l2:q'*p.1<q'*(AA r e).1+t'*((AA r<|e+1).1-(AA r e).1):=yG
  have m1:=yi hg<|yQ KD;have m2:=AAo l2 hq;refine S.nc As h2 ⟨q*q',s*q',t'*q,yX hq KD,yT s0<|yQ KD,y8 s1<|yQ KD,yT t0<|yQ hq,by rw[AAl q];exact y8 t1<|yQ hq,?_,?_⟩
  .have a1:q*q'*(AA r j).2+s*q'*((AA r<|j+1).2-(AA r j).2)=q'*(q*(AA r j).2+s*((AA r<|j+1).2-(AA r j).2)):=yG
   have a2:q*q'*(AA r e).2+t'*q*((AA r<|e+1).2-(AA r e).2)=q*(q'*(AA r e).2+t'*((AA r<|e+1).2-(AA r e).2)):=yG
   rw[a1,a2,ey,f6];grind
  .lia
theorem A2.once:W r p=0\/∃e:Int,AK r p.2 e≠0/\((yy r e<yy r (e+1)/\W r p=cc r p.2 e)\/(yy r (e+1)<yy r e/\W r p=cc r p.2 e-1)):=by
 have hW:W r p=AU (λj=>AK r p.2 j*ind (Lt p p (AA r j)<|AA r<|j+1)) r.length:=Bs λj _=>WM;by_cases hex:∃j:Nat,j<r.length/\(AK r p.2 (j)≠0/\Lt p p (AA r<|j) (AA r<|(j)+1))
 .right;obtain⟨e,he,⟨ce,le⟩,hm⟩:=Nc (N:=λm=>- kN r p.2 (m)) (λm hm=>(OK hm.1).1) r.length hex;have re:=Cr ce;have Rn:=Ep r (e) (by show yy r e≠yy r (e+1);lia);have key:∀m:Nat,m<r.length->AK r p.2 (m)*ind (Lt p p (AA r<|m)<|AA r<|(m)+1)=ind (L r (e)<|m)*AK r p.2 (m)+AK r p.2 (m)*ind (m=e):=λm CI=>by
   by_cases hs:AK r p.2 (m)=0
   .rw[hs];lia
   .by_cases FW:m=e
    .subst FW;rw[Au le,Ae Rn,Au rfl];lia
    .rw[Ae FW];have Iw:((e:Int)-m)%(r.length)≠0:=λc=>by
      rcases AAG (e) m with z|z
      .have c':=B8 c;rw[yM U U]at c';lia
      .rw[yM U U]at c;lia
     by_cases hl:L r (e)<|m
     .rw[Au hl,Au<|S.uv ce hs le hl];lia
     .have JA:L r (m)<|e:=by
       rcases S.IG Iw ce hs with z|z
       .exact absurd z hl
       .exact z
      have hn:¬ Lt p p (AA r<|m) (AA r<|(m)+1):=λc=>by have k1:=S.XU (λz=>Iw<|B8 z) hs ce JA;have k2:=hm m CI ⟨hs,c⟩;rw[ABg,ABg]at k2;lia
      rw[Ae hl,Ae hn];lia
  have N8:W r p=Rr r p.2 e+AK r p.2 e:=by
   rw[hW,Bs (g:=λj=>ind (L r (e) j)*AK r p.2 j+AK r p.2 j*ind (j=(e))) λm CI=>by
    rw[key m CI]
    congr 2
    by_cases h:m=e
    .rw[Au h,Au U]
    .rw[Ae h,Ae U]]
   rw[D9 (λj=>ind (L r (e) j)*AK r p.2 j) λj=>AK r p.2 j*ind (j=(e))];rw[Mi (f:=λj=>AK r p.2 j*ind (j=(e))) he λm _ As=>by rw[Ae U];lia];rw[Au rfl,ACx]
   rfl
  refine⟨e,ce,?_⟩;unfold cc;rcases re with z|z
  .rw[Ek z.1 z.2]at N8;exact .inl ⟨U,by rw[Au U];lia⟩
  .rw[Ej z.1 z.2]at N8;exact .inr ⟨U,by rw[Ae U];lia⟩
 .left;rw[hW];refine Jd λm hm=>?_;by_cases hs:AK r p.2 (m)=0
  .lia
  .rw[Ae λc=>hex ⟨m,hm,hs,c⟩];lia
theorem A2.bI : -1<=W r p/\W r p<=1:=by
 rcases S.once (p:=p)with h|⟨e,he,h|h⟩
 .lia
 .have:=S.LK he;lia
 .have:=S.LK he;lia
end
theorem TV(f:Int->Int->Int)(n:Nat):∀m:Nat,AU (λi=>AU (λj=>f i j) n) m=AU (λj=>AU (λi=>f i j) m) n
 |0=>(Jd λ_ _=>rfl).symm
 |m+1=>by rw[AU,TV f n m];have:=D9 (λj=>AU (λi=>f i j) m) (λj=>f m j) n;exact this.symm
theorem TR{f:Int->Int}:∀{n:Nat},(∀i:Nat,i<n->f i<=0)->AU f n<=0
 |0,_=>AAC _
 |n+1,h=>by have:=TR (n:=n) λi hi=>h i U;have:=h n U;rw[AU];lia
theorem steps(A x:Int):∀m:Nat,A<=x->x<=A+m->x=A+AU (λt=>ind<|x>A+t) m
 |0,h1,h2=>by simp[AU];lia
 |m+1,h1,h2=>by
  rw[AU];by_cases h:x<=A+m
  .have:=steps A x m h1 h;rw[Ae U];lia
  .rw[Au U];have:=by
    have BU:∀k:Nat,k<=m->AU (λt=>ind<|x>A+t) k=k:=by
     intro k
     induction k with
     |zero=>intro _;rfl
     |succ k ih=>
      intro hk;rw[AU,ih U,Au U];lia
    exact BU m<|yf _
   rw[this];lia
theorem bK{n m:Nat}{s x:Int->Int}{A:Int}(hx:∀j:Nat,j<n->s j≠0->A<=x j/\x j<=A+m)(h0:AU s n=0)(hw:∀t:Int,AU (λj=>s j*ind (x j>t)) n<=0):AU (λj=>s j*x j) n<=0:=by
 have e1:AU (λj=>s j*x j) n=AU (λj=>A*s j+AU (λt=>s j*ind (x j>A+t)) m) n:=Bs λj hj=>by
  by_cases hs:s j=0
  .rw[hs,Jd λt _=>U];lia
  .have:=steps A (x j) m (hx j hj hs).1 (hx j hj hs).2;rw[Mh (s j) λt=>ind<|x j>A+t];generalize AU (λt=>ind<|x j>A+t) m=z at *
   rw[this];grind
 rw[e1,D9 (λj=>A*s j) λj=>AU (λt=>s j*ind (x j>A+t)) m,Mh A s,h0];have e2:=TV (λt j=>s j*ind (x j>A+t)) n m;rw[<-e2];have:=TR (f:=λt=>AU (λj=>s j*ind (x j>A+t)) n) (n:=m) λt _=>hw<|A+t;lia
noncomputable def JU(f:Nat->Int):Nat->Int
 |0=>1
 |n+1=>JU f n*f n
theorem Yj{f:Nat->Int}:∀{n:Nat},(∀i,i<n->0<f i)->0<JU f n
 |0,_=>by show(0)<1;decide
 |n+1,h=>yX (Yj λi hi=>h i U)<|h n U
theorem Yi{f:Nat->Int}{j:Nat}:∀{n:Nat},j<n->(∀i,i<n->0<f i)->∃k,0<k/\JU f n=f j*k
 |0,h,_=>U
 |n+1,h,hp=>by
  by_cases hj:j=n
  .subst hj;exact⟨JU f j,Yj λi hi=>hp i U,by rw[JU,AAl]⟩
  .obtain⟨k,hk,e⟩:=Yi (j:=j) (n:=n) U λi hi=>hp i U
   exact⟨k*f n,yX hk<|hp n U,by rw[JU,e,Int.mul_assoc]⟩
def eD(r:List Pt)(j:Int):Int:=if yy r j<yy r (j+1)then 2*(yy r (j+1)-yy r j)else if yy r (j+1)<yy r j then 2*(yy r j-yy r (j+1))else 1
def eS(r:List Pt)(h j:Int):Int:=if yy r j<yy r (j+1)then 2*h+1-2*yy r j else 2*yy r j-(2*h+1)
def eN(r:List Pt)(h j:Int):Int:=eD r j*(AA r j).1+eS r h j*((AA r<|j+1).1-(AA r j).1)
theorem NL(r:List Pt)(j:Int):0<eD r j:=by
 unfold eD;split
 .lia
 .split<;>lia
theorem Vk{r:List Pt}{h j:Int}(hs:AK r h j≠0):0<eD r j/\0<eS r h j/\eS r h j<eD r j/\2*(eD r j*(AA r j).2+eS r h j*((AA r<|j+1).2-(AA r j).2))=eD r j*(2*h+1):=by
 have rs:=Cr hs;unfold eD eS;rcases rs with z|z
 .rw[yO U,yO U];unfold yy at *
  refine⟨U,U,U,yG⟩
 .rw[yN U,yO U,yN U];unfold yy at *
  refine⟨U,U,U,yG⟩
def HU(r:List Pt):Int:=JU (λj=>eD r (j:Int)) r.length
theorem V4(r:List Pt)(j:Nat):∃k,j<r.length->0<k/\HU r=eD r (j)*k:=by
 by_cases h:j<r.length
 .obtain⟨k,a,b⟩:=Yi h λi _=>NL r i
  exact⟨k,λ_=>⟨a,b⟩⟩
 .exact⟨0,λc=>absurd c h⟩
noncomputable def kj(r:List Pt)(j:Nat):Int:=choose<|V4 r j
theorem OL{r:List Pt}{j:Nat}(h:j<r.length):0<kj r j/\HU r=eD r (j)*kj r j:=choose_spec (V4 r j) h
def xk(r:List Pt)(h:Int)(j:Nat):Int:=kj r j*eN r h (j:Int)
section
variable{r:List Pt}(S:A2 r)
include S
theorem A2.half_lt{h i j:Int}(As:(i-j)%(r.length)≠0)(hi:AK r h i≠0)(hj:AK r h j≠0)(hL:L r i j):eN r h i*eD r j<eN r h j*eD r i:=by
 obtain⟨p1,p2,p3,e1⟩:=Vk hi;obtain⟨p4,p5,p6,e2⟩:=Vk hj;have m1:=yX p1 p4;have m2:=yX p2 p4;have m3:=yX p5 p1;have m4:=AAK p3 p4;have m5:eS r h j*eD r i<eD r i*eD r j:=by rw[AAl<|eD r i];exact AAK p6 p1
 have ey:eD r i*eD r j*(AA r i).2+eS r h i*eD r j*((AA r<|i+1).2-(AA r i).2)=eD r i*eD r j*(AA r j).2+eS r h j*eD r i*((AA r<|j+1).2-(AA r j).2):=by
  have f1:2*(eD r i*eD r j*(AA r i).2+eS r h i*eD r j*((AA r<|i+1).2-(AA r i).2))=eD r j*(2*(eD r i*(AA r i).2+eS r h i*((AA r<|i+1).2-(AA r i).2))):=yG
  have f2:2*(eD r i*eD r j*(AA r j).2+eS r h j*eD r i*((AA r<|j+1).2-(AA r j).2))=eD r i*(2*(eD r j*(AA r j).2+eS r h j*((AA r<|j+1).2-(AA r j).2))):=yG
  rw[e1]at f1;rw[e2]at f2;lia
 have n1:eN r h i*eD r j=eD r i*eD r j*(AA r i).1+eS r h i*eD r j*((AA r<|i+1).1-(AA r i).1):=by unfold eN;grind
 have n2:eN r h j*eD r i=eD r i*eD r j*(AA r j).1+eS r h j*eD r i*((AA r<|j+1).1-(AA r j).1):=by unfold eN;grind
 rw[n1,n2];rcases zS (eD r i*eD r j*(AA r i).1+eS r h i*eD r j*((AA r<|i+1).1-(AA r i).1)) (eD r i*eD r j*(AA r j).1+eS r h j*eD r i*((AA r<|j+1).1-(AA r j).1))with hl|he|hg
 .exact hl
 .rcases S.share As m1 U U U U he ey with⟨_,z,_⟩|⟨_,z,_⟩<;>lia
 .exact absurd (show L r j i from⟨_,_,_,m1,U,U,U,U,ey.symm,hg⟩) (S.nc As hL)
theorem A2.Z9{h:Int}{i j:Nat}(CP:i<r.length)(CH:j<r.length)(Bi:i≠j)(hi:AK r h (i)≠0)(hj:AK r h (j)≠0)(hL:L r (i)<|j):xk r h i<xk r h j:=by
 have As:((i:Int)-j)%(r.length)≠0:=λc=>by
  rcases AAG (i) j with z|z
  .have c':=B8 c;rw[yM U U]at c';lia
  .rw[yM U U]at c;lia
 have k:=S.half_lt As hi hj hL;obtain⟨a1,a2⟩:=OL CP;obtain⟨b1,b2⟩:=OL CH;have d1:=NL r<|i;have d2:=NL r<|j;have hK:0<HU r:=by rw[a2];exact yX d1 a1
 have m:=AAo k hK;have e1:HU r*(eN r h i*eD r j)=(eD r i*eD r j)*xk r h i:=by rw[a2];unfold xk;grind
 have e2:HU r*(eN r h j*eD r i)=(eD r i*eD r j)*xk r h j:=by rw[b2];unfold xk;grind
 rw[e1,e2]at m;exact ABQ m<|yQ<|yX d1 d2
theorem rT(r:List Pt)(h j:Int):AK r h j=ind (yy r j<=h)-ind (yy r (j+1)<=h):=by
 unfold AK ind;generalize yy r (j+1)=b
 (repeat' split)<;>lia
theorem A2.kr{h:Int}(hc:∀j:Int,AK r h j≠0->cc r h j=0):AU (λj=>AK r h j*xk r h j.toNat) r.length<=0:=by
 have h0:AU (AK r h) r.length=0:=by have ht:=HG (λj=>- ind (yy r j<=h)) r.length;have hy:yy r (r.length)=yy r 0:=Cu yI;rw[hy]at ht;rw[Bs (g:=λj=>- ind (yy r (j+1)<=h) - - ind (yy r j<=h)) λj _=>by rw[rT S];lia,ht];lia
 obtain⟨A,m,hb⟩:∃(A:Int)(m:Nat),∀j:Nat,j<r.length->A<=xk r h j/\xk r h j<=A+m:=by
  have:∀n:Nat,∃b:Int,0<=b/\∀j:Nat,j<n->-b<=xk r h j/\xk r h j<=b:=by
   intro n
   induction n with
   |zero=>exact⟨0,U,λj hj=>U⟩
   |succ n ih=>
    obtain⟨b,b0,hb⟩:=ih;refine⟨b+(xk r h n).natAbs,U,λj hj=>?_⟩;by_cases Ey:j=n
    .subst Ey;lia
    .have:=hb j U;lia
  obtain⟨b,b0,hb⟩:=this r.length;exact⟨-b,(2*b).toNat,λj hj=>by have:=hb j hj;lia⟩
 refine bK (λj hj _=>by exact hb j hj) h0 λt=>?_;by_cases hex:∃j:Nat,j<r.length/\(AK r h (j)≠0/\xk r h j>t)
 .obtain⟨e,he,⟨ce,le⟩,hm⟩:=Nc (N:=λm=>- xk r h m) (D:=λ_=>1) (λ_ _=>yJ) r.length hex;have re:=Cr ce;have Rn:=Ep r (e) (by show yy r e≠yy r (e+1);lia);have key:∀m:Nat,m<r.length->AK r h (m)*ind (xk r h ((m:Int)).toNat>t)=ind (L r (e)<|m)*AK r h (m)+AK r h (m)*ind ((m:Int)=(e)):=λm CI=>by
   rw[ABb];by_cases hs:AK r h (m)=0
   .rw[hs];lia
   .by_cases FW:m=e
    .subst FW;rw[Au le,Ae Rn,Au rfl];lia
    .rw[Ae (U:¬ (m:Int)=(e))];have Iw:((e:Int)-m)%(r.length)≠0:=λc=>by
      rcases AAG (e) m with z|z
      .have c':=B8 c;rw[yM U U]at c';lia
      .rw[yM U U]at c;lia
     by_cases hl:L r (e)<|m
     .have:=S.Z9 he CI (λz=>FW z.symm) ce hs hl;rw[Au hl,Au (U:xk r h m>t)];lia
     .have JA:L r (m)<|e:=by
       rcases S.IG Iw ce hs with z|z
       .exact absurd z hl
       .exact z
      have k1:=S.Z9 CI he FW hs ce JA;have hn:¬ xk r h m>t:=λc=>by have k2:=hm m CI ⟨hs,c⟩;lia
      rw[Ae hl,Ae hn];lia
  have N8:AU (λj=>AK r h j*ind (xk r h j.toNat>t)) r.length=Rr r h e+AK r h e:=by
   rw[Bs (g:=λj=>ind (L r (e) j)*AK r h j+AK r h j*ind (j=(e))) λm CI=>key m CI];rw[D9 (λj=>ind (L r (e) j)*AK r h j) λj=>AK r h j*ind (j=(e))];rw[Mi (f:=λj=>AK r h j*ind (j=(e))) he λm _ As=>by rw[Ae U];lia];rw[Au rfl,ACx]
   rfl
  have EH:=hc e ce;unfold cc at EH;rw[N8];rcases re with z|z
  .rw[Ek z.1 z.2];rw[Au U]at EH;lia
  .rw[Ej z.1 z.2];rw[Ae U]at EH;lia
 .refine ABV<|Jd λm hm=>?_;rw[ABb];by_cases hs:AK r h (m)=0
  .lia
  .rw[Ae λc=>hex ⟨m,hm,hs,c⟩];lia
end
theorem fU{r:List Pt}{j:Nat}(hj:j<r.length){lo:Int}(jF:lo<=yy r j/\lo<=yy r (j+1)):∀m:Nat,∃k:Int,(yy r (j)<yy r (j+1)->k=min (max (lo+m-yy r j) 0) (yy r (j+1)-yy r j))/\(yy r ((j)+1)<yy r j->k=min (max (lo+m-yy r (j+1)) 0) (yy r j-yy r (j+1)))/\(yy r (j)<yy r (j+1)->AU (λt=>AK r (lo+t) j*xk r (lo+t) j) m=kj r j*(2*(yy r (j+1)-yy r j)*(AA r j).1*k+k*k*((AA r<|j+1).1-(AA r j).1)))/\
 (yy r ((j)+1)<yy r j->AU (λt=>AK r (lo+t) j*xk r (lo+t) j) m = - (kj r j*(2*(yy r j-yy r (j+1))*(AA r j).1*k+(2*(yy r j-yy r (j+1))*k-k*k)*((AA r<|j+1).1-(AA r j).1))))/\
 (yy r (j)=yy r (j+1)->AU (λt=>AK r (lo+t) j*xk r (lo+t) j) m=0):=by
 intro m
 induction m with
 |zero=>
  refine⟨0,λ_=>U,λ_=>U,λ_=>?_,λ_=>?_,λ_=>rfl⟩
  .show(0)=_;grind
  .show(0)=_;grind
 |succ m ih=>
  obtain⟨k,k1,k2,e1,e2,e3⟩:=ih;rcases zS (yy r<|j) (yy r<|j+1)with hl|he|hg
  .have e1:=e1 hl;refine⟨min (max (lo+((m+1:Nat))-yy r j) 0)<|yy r (j+1)-yy r j,λ_=>rfl,λz=>U,λ_=>?_,λz=>U,λz=>U⟩;rw[AU,e1];by_cases hc:yy r (j)<=lo+m/\lo+m<yy r (j+1)
   .rw[Ek hc.1 hc.2,show min (max (lo+((m+1:Nat))-yy r j) 0) (yy r (j+1)-yy r j)=k+1 by lia];have hx:xk r (lo+m) j=kj r j*(2*(yy r (j+1)-yy r j)*(AA r j).1+(2*k+1)*((AA r<|j+1).1-(AA r j).1)):=by
     unfold xk eN eD eS;rw[yO hl,yO hl]
     congr 3;lia
    grind
   .have:AK r (lo+m) j=0:=by unfold AK;rw[yN hc,yN U]
    rw[this,show min (max (lo+((m+1:Nat))-yy r j) 0) (yy r (j+1)-yy r j)=k by lia];lia
  .refine⟨0,λz=>U,λz=>U,λz=>U,λz=>U,λ_=>?_⟩;rw[AU,e3 he];have:AK r (lo+m) j=0:=by unfold AK;rw[yN U,yN U]
   lia
  .have e2:=e2 hg;refine⟨min (max (lo+((m+1:Nat))-yy r (j+1)) 0)<|yy r j-yy r (j+1),λz=>U,λ_=>rfl,λz=>U,λ_=>?_,λz=>U⟩;rw[AU,e2];by_cases hc:yy r ((j)+1)<=lo+m/\lo+m<yy r j
   .rw[Ej hc.1 hc.2,show min (max (lo+((m+1:Nat))-yy r (j+1)) 0) (yy r j-yy r (j+1))=k+1 by lia];have hx:xk r (lo+m) j=kj r j*(2*(yy r j-yy r (j+1))*(AA r j).1+(2*(yy r j-yy r (j+1))-(2*k+1))*((AA r<|j+1).1-(AA r j).1)):=by
     unfold xk eN eD eS;rw[yN U,yO hg,yN U]
     congr 3;lia
    rw[hx];grind
   .have:AK r (lo+m) j=0:=by unfold AK;rw[yN U,yN hc]
    rw[this,show min (max (lo+((m+1:Nat))-yy r (j+1)) 0) (yy r j-yy r (j+1))=k by lia];lia
theorem fV{r:List Pt}{j:Nat}(hj:j<r.length){lo:Int}{m:Nat}(h1:lo<=yy r j/\lo<=yy r (j+1))(h2:yy r j<=lo+m/\yy r (j+1)<=lo+m):2*AU (λt=>AK r (lo+t) j*xk r (lo+t) j) m=HU r*(((AA r j).1+(AA r<|j+1).1)*(yy r (j+1)-yy r j)):=by
 obtain⟨k,k1,k2,e1,e2,e3⟩:=fU hj h1 m;obtain⟨a1,a2⟩:=OL hj;rcases zS (yy r<|j) (yy r<|j+1)with hl|he|hg
 .have hk:k=yy r (j+1)-yy r j:=U
  rw[e1 hl,a2,hk];unfold eD;rw[yO hl];grind
 .rw[e3 he,he];grind
 .have hk:k=yy r j-yy r (j+1):=U
  rw[e2 hg,a2,hk];unfold eD;rw[yN U,yO hg];grind
theorem ba(r:List Pt):DJ r=AU (λj=>((AA r j).1+(AA r<|j+1).1)*(yy r (j+1)-yy r j)) r.length:=by
 rw[LG];have h1:AU (Fx r) r.length=AU (λj=>((AA r j).1+(AA r<|j+1).1)*(yy r (j+1)-yy r j)+(- ((AA r<|j+1).1*(AA r<|j+1).2) - - ((AA r j).1*(AA r j).2))) r.length:=Bs λi _=>by unfold Fx B2 yy;grind
 rw[h1,D9 (λj=>((AA r j).1+(AA r<|j+1).1)*(yy r (j+1)-yy r j)) λj=>- ((AA r<|j+1).1*(AA r<|j+1).2) - - ((AA r j).1*(AA r j).2)];have h2:=HG (λk=>- ((AA r k).1*(AA r k).2)) r.length;have h3:AA r ((r.length))=AA r 0:=Aw yI;rw[h2,h3];lia
theorem Rm.Ui{r:List Pt}(R:Rm r){h j:Int}(hj:AK r h j≠0):cc r h j=1:=by
 have S:=R.simple;have h3:=R.l3;rcases S.LK hj with c|c
 .have BU:∀(H:Int)(i:Int),AK r H i≠0->cc r H i=0:=λH i hi=>by rw[S.NF hi hj];exact c
  obtain⟨lo,m,hb⟩:∃(lo:Int)(m:Nat),∀j:Nat,j<=r.length->lo<=yy r j/\yy r j<=lo+m:=by
   have:∀n:Nat,∃b:Int,0<=b/\∀j:Nat,j<n->-b<=yy r j/\yy r j<=b:=by
    intro n
    induction n with
    |zero=>exact⟨0,U,λj hj=>U⟩
    |succ n ih=>
     obtain⟨b,b0,hb⟩:=ih;refine⟨b+(yy r n).natAbs,U,λj hj=>?_⟩;by_cases Ey:j=n
     .subst Ey;lia
     .have:=hb j U;lia
   obtain⟨b,b0,hb⟩:=this<|r.length+1;exact⟨-b,(2*b).toNat,λj hj=>by have:=hb j U;lia⟩
  have e1:HU r*DJ r=2*AU (λt=>AU (λj=>AK r (lo+t) j*xk r (lo+t) j.toNat) r.length) m:=by rw[TV (λt j=>AK r (lo+t) j*xk r (lo+t) j.toNat) r.length m,ba,<-Mh,<-Mh];refine Bs λi hi=>?_;have b1:=hb i U;have b2:=hb (i+1) U;exact(fV hi ⟨b1.1,b2.1⟩ ⟨b1.2,b2.2⟩).symm
  have e2:=TR (f:=λt=>AU (λj=>AK r (lo+t) j*xk r (lo+t) j.toNat) r.length) (n:=m) λt _=>S.kr <|BU<|lo+t;have hK:0<HU r:=by obtain⟨a1,a2⟩:=OL (r:=r) (j:=0) U;rw[a2];exact yX (NL _ _) a1
  have:=yX hK R.IP;lia
 .exact c
theorem Kq{Z:Int}(h:0<Z):(if ¬Z<=0 then(1:Int)else 0)=1/\(if ¬0<=Z then(1:Int)else 0)=0:=⟨yO<|zg.mpr h,yN λz=>z<|yQ h⟩
theorem Kp{Z:Int}(h:Z<0):(if ¬Z<=0 then(1:Int)else 0)=0/\(if ¬0<=Z then(1:Int)else 0)=1:=⟨yN λz=>z<|yQ h,yO<|zg.mpr h⟩
theorem Ze{p q:Int}(hq:q<0\/0<q)(h:p*q=0):p=0:=by
 rcases yW.mp h with z|z
 .exact z
 .omega
theorem ue{ua ub va vb Z P Q:Int}(hZ:Z=P-Q)(hP:P=va*ub)(hQ:Q=ua*vb)(hE:¬ (Z=0/\((ua<=0/\0<=ub)\/(ub<=0/\0<=ua))/\((va<=0/\0<=vb)\/(vb<=0/\0<=va)))) : ((if va<=0/\0<vb/\Z>0 then(1:Int)else 0)-(if vb<=0/\0<va/\Z<0 then 1 else 0))-((if ua<=0/\0<ub/\Z>0 then 1 else 0)-(if ub<=0/\0<ua/\Z<0 then 1 else 0)) = (if ub<=0/\0<vb then 1 else 0)-(if ua<=0/\0<va then 1 else 0):=by
 simp only[<-zg];by_cases a:ua<=0<;>by_cases b:ub<=0<;>by_cases c:va<=0<;>by_cases d:vb<=0<;>simp only[a,b,c,d,not_true,not_false_iff,true_and,false_and,AA6,AAW,AAM,AAr]
 .have h1:=zk c b;have h2:=AAD a<|yQ<|zg.mp d;have h3:Z≠0:=λz=>hE ⟨z,.inr ⟨b,ABV (Ze (.inr<|zg.mp d) yH).symm⟩,.inl ⟨c,yH⟩⟩;exact(Kq yH).1
 .have h1:=yg (yQ<|zg.mp c) b;have h2:=zk a d;have h3:Z≠0:=λz=>hE ⟨z,.inl ⟨a,ABV (Ze (.inr<|zg.mp c) (by rw[AAl];omega)).symm⟩,.inr ⟨d,yH⟩⟩;rw[(Kp yH).2]
 .have h1:=AAD c<|yQ<|zg.mp b;have h2:=zk a d;rw[yN λz=>z yH];rfl
 .rcases zS Z 0 with z|z|z
  .rw[(Kp z).1,(Kp z).2];rfl
  .exact absurd ⟨z,.inl ⟨a,yH⟩,.inr ⟨d,yH⟩⟩ hE
  .rw[(Kq z).1,(Kq z).2];rfl
 .have h1:=yX (zg.mp c)<|zg.mp b;have h2:=AAD a<|yQ<|zg.mp d;rw[(Kq yH).1]
 .have h1:=zk c b;have h2:=yg (yQ<|zg.mp a) d;rw[yN λz=>z yH];rfl
 .rcases zS Z 0 with z|z|z
  .rw[(Kp z).1,(Kp z).2];rfl
  .exact absurd ⟨z,.inr ⟨b,yH⟩,.inl ⟨c,yH⟩⟩ hE
  .rw[(Kq z).1,(Kq z).2];rfl
 .have h1:=yg (yQ<|zg.mp c) b;have h2:=yX (zg.mp a)<|zg.mp d;rw[(Kp yH).2];rfl
 .have h1:=AAD c<|yQ<|zg.mp b;have h2:=yX (zg.mp a)<|zg.mp d;rw[yN λz=>z yH]
 .have h1:=yX (zg.mp c)<|zg.mp b;have h2:=yg (yQ<|zg.mp a) d;rw[yN λz=>z yH];rfl
noncomputable def lean(k:Int)(p:Pt):Pt:=(p.1,p.2+k*p.1)
theorem Mb(k:Int)(a b c:Pt):AG (lean k a) (lean k b) (lean k c)=AG a b c:=by unfold AG lean;grind
theorem bj{k:Int}{a b p:Pt}(hk:0<k)(h0:AG a b p=0)(hu:(a.2-p.2<=0/\0<=b.2-p.2)\/(b.2-p.2<=0/\0<=a.2-p.2))(hv:((a.2-p.2)+k*(a.1-p.1)<=0/\0<=(b.2-p.2)+k*(b.1-p.1))\/((b.2-p.2)+k*(b.1-p.1)<=0/\0<=(a.2-p.2)+k*(a.1-p.1))):At a b p:=by
 have hs:(a.1-p.1)*(b.2-p.2)=(a.2-p.2)*(b.1-p.1):=by unfold AG at h0;grind
 by_cases As:a.2=b.2
 .have ha:a.2-p.2=0:=U
  have hb:b.2-p.2=0:=U
  rw[ha,hb,zr,zr]at hv;have key:∀x:Int,(k*x<=0->x<=0)/\(0<=k*x->0<=x):=λx=>by
   constructor
   .intro h;by_cases c:x<=0
    .exact c
    .have:=yX hk (U:0<x);lia
   .intro h;by_cases c:0<=x
    .exact c
    .have:=AAq hk (U:x<0);lia
  have hx:(a.1-p.1<=0/\0<=b.1-p.1)\/(b.1-p.1<=0/\0<=a.1-p.1):=by
   rcases hv with⟨z1,z2⟩|⟨z1,z2⟩
   .exact .inl ⟨(key _).1 z1,(key _).2 z2⟩
   .exact .inr ⟨(key _).1 z1,(key _).2 z2⟩
  exact Jw ⟨h0,U,U⟩
 .rcases zC As with hl|hl
  .exact⟨b.2-a.2,p.2-a.2,U,U,U,yG,yG⟩
  .exact⟨a.2-b.2,a.2-p.2,U,U,U,yG,yG⟩
theorem gh{k:Int}(hk:0<k){a b p:Pt}(hp:¬ At a b p):fw (lean k a) (lean k b) (lean k p)-fw a b p = (if b.2-p.2<=0/\0<(b.2-p.2)+k*(b.1-p.1)then 1 else 0)-(if a.2-p.2<=0/\0<(a.2-p.2)+k*(a.1-p.1)then 1 else 0):=by
 have e:k*AG a b p=((a.2-p.2)+k*(a.1-p.1))*(b.2-p.2)-(a.2-p.2)*((b.2-p.2)+k*(b.1-p.1)):=by unfold AG;grind
 have t:=ue e rfl rfl (by
  rintro⟨z,hu,hv⟩;have:AG a b p=0:=by
   rcases yW.mp z with h|h
   .lia
   .exact h
  exact hp<|bj hk this hu hv)
 have z1:(k*AG a b p>0)↔AG a b p>0:=by
  constructor
  .intro h;by_cases c:AG a b p>0
   .exact c
   .have:=yg (yQ hk) (U:AG a b p<=0);lia
  .exact λh=>yX hk h
 have z2:(k*AG a b p<0)↔AG a b p<0:=by
  constructor
  .intro h;by_cases c:AG a b p<0
   .exact c
   .have:=yT (yQ hk) (U:0<=AG a b p);lia
  .exact λh=>AAq hk h
 simp only[z1,z2]at t;rw[<-t];unfold fw;rw[Mb];have c1:∀c:Pt,((lean k c).2<=(lean k p).2)↔((c.2-p.2)+k*(c.1-p.1)<=0):=λc=>by unfold lean;rw[AA8];lia
 have c2:∀c:Pt,((lean k p).2<(lean k c).2)↔(0<(c.2-p.2)+k*(c.1-p.1)):=λc=>by unfold lean;rw[AA8];lia
 have c3:∀c:Pt,(c.2<=p.2)↔(c.2-p.2<=0):=λc=>U
 have c4:∀c:Pt,(p.2<c.2)↔(0<c.2-p.2):=λc=>U
 simp only[c1,c2,c3,c4]
theorem J0{r:List Pt}(h:0<r.length)(k i:Int):AA (r.map<|lean k) i=lean k (AA r i):=DD h i
theorem bJ{r:List Pt}(h:0<r.length){k:Int}(hk:0<k){p:Pt}(hp:∀j:Int,¬ At (AA r j) (AA r<|j+1) p):W (r.map<|lean k) (lean k p)=W r p:=by
 unfold W;rw[yP];rw[Bs (g:=λj=>fw (AA r j) (AA r<|j+1) p+((if(AA r<|j+1).2-p.2<=0/\0<((AA r<|j+1).2-p.2)+k*((AA r<|j+1).1-p.1)then 1 else 0)-(if(AA r j).2-p.2<=0/\0<((AA r j).2-p.2)+k*((AA r j).1-p.1)then 1 else 0))) λj _=>by rw[J0 h,J0 h];have:=gh hk<|hp j;lia]
 rw[D9 (λj=>fw (AA r j) (AA r<|j+1) p) (λj=>(if(AA r<|j+1).2-p.2<=0/\0<((AA r<|j+1).2-p.2)+k*((AA r<|j+1).1-p.1)then 1 else 0)-(if(AA r j).2-p.2<=0/\0<((AA r j).2-p.2)+k*((AA r j).1-p.1)then 1 else 0))];have ht:=HG (λj=>(if(AA r j).2-p.2<=0/\0<((AA r j).2-p.2)+k*((AA r j).1-p.1)then(1)else 0)) r.length;have hc:AA r (r.length)=AA r 0:=Aw yI;rw[hc]at ht;rw[ht];lia
theorem Eh{a b c d:Pt}(h:Lt a b c d):Lt b a c d:=by obtain⟨q,s,t,h1,h2,h3,h4,h5,e,l⟩:=h;exact⟨q,q-s,t,h1,U,U,h4,h5,yG,yG⟩
theorem E6{a b c d:Pt}(h:Lt a b c d):Lt a b d c:=by obtain⟨q,s,t,h1,h2,h3,h4,h5,e,l⟩:=h;exact⟨q,s,q-t,h1,h2,h3,U,U,yG,yG⟩
theorem O3{a b c d:Pt}(h:Bf a b c d):Bf b a c d:=by obtain⟨q,s,t,h1,h2,h3,h4,h5,e1,e2⟩:=h;exact⟨q,q-s,t,h1,U,U,h4,h5,yG,yG⟩
theorem LH{a b p:Pt}(h:At a b p):At b a p:=by obtain⟨q,s,h1,h2,h3,e1,e2⟩:=h;exact⟨q,q-s,h1,U,U,yG,yG⟩
theorem OY{A X B:Pt}(f:CB A X B)(h1:Lt A B A X):¬ Lt A X A B:=λh2=>by
 obtain⟨q1,s1,t1,q2,s2,t2,x,y,hx,hy,Lw,Lx,a1,a2,b1,b2,c1,c2,d1,d2,e0,e1,e2⟩:=SD h1 h2;have n1:=yT a1<|yQ hy;have n2:=yT b1<|yQ hx;have n3:=yT c1<|yQ hy;have n4:=yT d1<|yQ hx;obtain⟨z1,z2⟩:=f (t1*y+t2*x) (s1*y+s2*x) U U U U;have k1:s1*y=0:=U
 have k2:t1*y=0:=U
 have RY:s1=0:=by rcases yW.mp k1 with h|h<;>lia
 have FZ:t1=0:=by rcases yW.mp k2 with h|h<;>lia
 rw[RY,FZ]at e0;lia
theorem CB.symm{A X B:Pt}(f:CB A X B):CB A B X:=λs t hs ht e1 e2=>(f t s ht hs e1.symm e2.symm).symm
structure Probe(r:List Pt)(i j:Int):Prop where
 CG:Bt r.length<|i-j
 f1:CB (AA r i) (AA r<|i+1)<|AA r j
 f2:CB (AA r i) (AA r<|i-1)<|AA r j
 f3:CB (AA r j) (AA r<|j+1)<|AA r i
 f4:CB (AA r j) (AA r<|j-1)<|AA r i
 nt:∀k:Int,(i-k)%(r.length:Int)≠0->(i-k)%(r.length:Int)≠1->(j-k)%(r.length:Int)≠0->(j-k)%(r.length:Int)≠1->¬ Bf (AA r i) (AA r j) (AA r k) (AA r<|k+1)
theorem mod_succ{n a b:Int}(hn:1<n)(h:(a-b)%n=0):(a+1-b)%n=1:=by rw[show a+1-b=(a-b)+1 by lia,AAH,h,yM U hn,zr,yM U hn]
theorem Qk{n d:Int}(hn:2<=n)(h:Bt n d):d%n≠0/\d%n≠1/\(-d)%n≠0/\(-d)%n≠1:=⟨h.1,h.2.1,(h.neg hn).1,(h.neg hn).2.1⟩
section
variable{r:List Pt}(S:A2 r)
include S
theorem Probe.symm{i j:Int}(p:Probe r i j):Probe r j i:=
 ⟨by have:=p.CG.neg (by have:=S.l3;lia);rw[show -(i-j)=j-i by lia]at this;exact this,p.f3,p.f4,p.f1,p.f2,λk a b c d h=>p.nt k c d a b<|O3 h⟩
theorem A2.distinct{m j:Int}(h0:(m-j)%(r.length)≠0)(h1:(m-j)%(r.length)≠1):AA r m≠AA r j:=λe=>by
 refine S.off h0 h1 (q:=1) (s:=0) U U U ?_ ?_
 .rw[e];lia
 .rw[e];lia
theorem Probe.LZ{i j:Int}(p:Probe r i j):CB (AA r i) (AA r<|i+1)<|AA r j:=p.f1
theorem Probe.Ik{i j:Int}(p:Probe r i j):CB (AA r i) (AA r<|i-1)<|AA r j:=p.f2
theorem WH(Cd:∀k:Int,AG (AA r k) (AA r<|k+1) (AA r<|k+1+1)≠0){i j:Int}(CG:Bt r.length<|i-j)(nt:∀k:Int,(i-k)%(r.length)≠0->(i-k)%(r.length)≠1->(j-k)%(r.length)≠0->(j-k)%(r.length)≠1->¬ Bf (AA r i) (AA r j) (AA r k) (AA r<|k+1)):CB (AA r i) (AA r<|i+1)<|AA r j:=by
 have h3:=S.l3;obtain⟨f0,f1,f2,f3⟩:=Qk U CG;rw[show -(i-j)=j-i by lia]at f2 f3;intro s t hs ht e1 e2;have Ir:=S.distinct f2 f3;have hb:=Cd i;have Lg:AA r (i+1)≠AA r i:=λc=>hb (by rw[c];unfold AG;grind);by_cases s0:s=0
 .refine⟨s0,?_⟩;by_cases t0:t=0
  .exact t0
  .exfalso;apply Ir;rw[s0,zQ]at e1 e2;have g1:=yW.mp e1.symm;have g2:=yW.mp e2.symm;exact zd U U
 by_cases t0:t=0
 .exfalso;apply Lg;rw[t0,zQ]at e1 e2;have g1:=yW.mp e1;have g2:=yW.mp e2;exact zd U U
 exfalso;rcases AAG t s with hle|hle
 .-- Jg next Uy lies on Jg Ts
  have Ed:At (AA r i) (AA r j)<|AA r<|i+1:=⟨s,t,U,ht,hle,e1,e2⟩;by_cases hj:(j-(i+1))%(r.length)=1
  .have:=(S.next hj).1;apply hb;have hs:=(Fe Ed).1;rw[this]at hs;have:AG (AA r i) (AA r<|i+1) (AA r<|i+1+1) = - AG (AA r i) (AA r<|i+1+1) (AA r<|i+1):=by unfold AG;grind
   rw[this,hs];rfl
  .refine nt (i+1) (λc=>?_) (λc=>?_) (λc=>?_) hj (O2 Ed)
   .have:(-1:Int)%(r.length)=r.length-1:=by rw[show(-1:Int)=(r.length-1)+r.length*(-1)by lia,zi,yM U U]
    lia
   .have:(-1:Int)%(r.length)=r.length-1:=by rw[show(-1:Int)=(r.length-1)+r.length*(-1)by lia,zi,yM U U]
    lia
   .apply f3;have:=mod_succ U c;rw[show j+1-(i+1)=j-i by lia]at this;exact this
 .-- Jg CG Uy lies on Jg wall
  exact S.off f2 f3 U hs hle yG yG
theorem WI(Cd:∀k:Int,AG (AA r k) (AA r<|k+1) (AA r<|k+1+1)≠0){i j:Int}(CG:Bt r.length<|i-j)(nt:∀k:Int,(i-k)%(r.length)≠0->(i-k)%(r.length)≠1->(j-k)%(r.length)≠0->(j-k)%(r.length)≠1->¬ Bf (AA r i) (AA r j) (AA r k) (AA r<|k+1)):CB (AA r i) (AA r<|i-1)<|AA r j:=by
 have h3:=S.l3;obtain⟨f0,f1,f2,f3⟩:=Qk U CG;rw[show -(i-j)=j-i by lia]at f2 f3;intro s t hs ht e1 e2;have Ir:=S.distinct f2 f3;have hb:=by have:=Cd<|i-2;rw[show i-2+1=i-1 by lia,show i-1+1=i by lia]at this;exact this
 have Lg:AA r (i-1)≠AA r i:=λc=>hb (by rw[c];unfold AG;grind);by_cases s0:s=0
 .refine⟨s0,?_⟩;by_cases t0:t=0
  .exact t0
  .exfalso;apply Ir;rw[s0,zQ]at e1 e2;have g1:=yW.mp e1.symm;have g2:=yW.mp e2.symm;exact zd U U
 by_cases t0:t=0
 .exfalso;apply Lg;rw[t0,zQ]at e1 e2;have g1:=yW.mp e1;have g2:=yW.mp e2;exact zd U U
 exfalso;rcases AAG t s with hle|hle
 .have Ed:At (AA r i) (AA r j)<|AA r<|i-1:=⟨s,t,U,ht,hle,e1,e2⟩;have NK:i-2+1=i-1:=U
  by_cases hj:(j-(i-2))%(r.length)=0
  .have:=Aw hj;apply hb;have hs:=(Fe Ed).1;rw[this]at hs;have:AG (AA r<|i-2) (AA r<|i-1) (AA r i)=AG (AA r i) (AA r<|i-2) (AA r<|i-1):=by unfold AG;grind
   rw[this,hs]
  .have BA:Bf (AA r i) (AA r j) (AA r<|i-2)<|AA r<|i-2+1:=by rw[NK];exact TB Ed
   refine nt (i-2) (λc=>?_) (λc=>?_) hj (λc=>?_) BA
   .rw[show i-(i-2)=2 by lia,yM U U]at c;lia
   .rw[show i-(i-2)=2 by lia,yM U U]at c;lia
   .have:=DY U c;have c':=B8 this;rw[show i-2-(j-1)=(i-1)-j by lia]at c';have:=mod_succ U c';rw[show i-1+1-j=i-j by lia]at this;exact f1 this
 .refine S.off (m:=j) (j:=i-1) (λc=>?_) (λc=>?_) (q:=t) (s:=t-s) U U U yG yG
  .have c':=B8 c;have:=mod_succ U c';rw[show i-1+1-j=i-j by lia]at this;exact f1 this
  .have:=DY U c;rw[show j-1-(i-1)=j-i by lia]at this;exact f2 this
theorem Sl(Cd:∀k:Int,AG (AA r k) (AA r<|k+1) (AA r<|k+1+1)≠0){i j:Int}(CG:Bt r.length<|i-j)(nt:∀k:Int,(i-k)%(r.length)≠0->(i-k)%(r.length)≠1->(j-k)%(r.length)≠0->(j-k)%(r.length)≠1->¬ Bf (AA r i) (AA r j) (AA r k) (AA r<|k+1)):Probe r i j:=by
 have V7:=by have:=CG.neg (by have:=S.l3;lia);rw[show -(i-j)=j-i by lia]at this;exact this
 have X6:=λk a b c d h=>nt k c d a b<|O3 h;exact⟨CG,WH S Cd CG nt,WI S Cd CG nt,WH S Cd V7 X6,WI S Cd V7 X6,nt⟩
theorem Probe.nc{i j:Int}(p:Probe r i j)(k:Int)(h1:Lt (AA r i) (AA r j) (AA r k)<|AA r<|k+1):¬ Lt (AA r k) (AA r<|k+1) (AA r i) (AA r j):=by
 have h3:=S.l3;have p':=p.symm S;by_cases a:(i-k)%(r.length)=0
 .have e1:=Aw a;have e2:=Aw<|Br a;rw[<-e1,<-e2]at h1 ⊢;exact OY (p.LZ S) h1
 by_cases b:(i-k)%(r.length)=1
 .have e:=S.next b;have e0:=(Aw (by have:=DY U b;exact this)).symm;rw[<-e.1,e0]at h1 ⊢;exact λc=>OY (p.Ik S) (E6 h1)<|Eh c
 by_cases c:(j-k)%(r.length)=0
 .have e1:=Aw c;have e2:=Aw<|Br c;rw[<-e1,<-e2]at h1 ⊢;exact λz=>OY (p'.LZ S) (Eh h1)<|E6 z
 by_cases d:(j-k)%(r.length)=1
 .have e:=S.next d;have e0:=(Aw (by have:=DY U d;exact this)).symm;rw[<-e.1,e0]at h1 ⊢;exact λz=>OY (p'.Ik S) (Eh<|E6 h1)<|Eh<|E6 z
 .exact SI (p.nt k a b c d) h1
theorem Probe.Zu{i j:Int}(p:Probe r i j){m:Int}(a:(i-m)%(r.length)≠0)(c:(j-m)%(r.length)≠0):¬ At (AA r i) (AA r j) (AA r m):=by
 have h3:=S.l3;intro Ed;by_cases b:(i-m)%(r.length)=1
 .have e0:=(Aw (by have:=DY U b;exact this)).symm;rw[e0]at Ed;obtain⟨q,s,hq,s0,s1,e1,e2⟩:=Ed;have:=(p.Ik S q s U s0 e1 e2).1;lia
 by_cases d:(j-m)%(r.length)=1
 .have e0:=(Aw (by have:=DY U d;exact this)).symm;rw[e0]at Ed;obtain⟨q,s,hq,s0,s1,e1,e2⟩:=LH Ed;have:=((p.symm S).Ik S q s U s0 e1 e2).1;lia
 .exact p.nt m a b c d<|O2 Ed
end
def RQ(r:List Pt)(h:Int)(A B:Pt):Int:=AU (λk=>ind (Lt A B (AA r k)<|AA r<|k+1)*AK r h k) r.length
section
variable{r:List Pt}(S:A2 r){i j:Int}(p:Probe r i j)
include S p
theorem Probe.Mp{m:Int}(a:(i-m)%(r.length)≠0)(c:(j-m)%(r.length)≠0)(As:yy r i≠yy r j)(hr:(yy r i<=yy r m/\yy r m<=yy r j)\/(yy r j<=yy r m/\yy r m<=yy r i)) : Lt (AA r i) (AA r j) (AA r m) (AA r m)\/Lt (AA r m) (AA r m) (AA r i) (AA r j):=by
 obtain⟨q,s,hq,s0,s1,e,_,_⟩:=Ke As hr;unfold yy at e;rcases zS (q*(AA r i).1+s*((AA r j).1-(AA r i).1)) (q*(AA r m).1)with hl|he|hg
 .exact .inl ⟨q,s,0,hq,s0,s1,U,U,by rw[e];lia,U⟩
 .exact absurd ⟨q,s,hq,s0,s1,yG,yG⟩ (p.Zu S a c)
 .exact .inr ⟨q,0,s,hq,U,U,s0,s1,by rw[e];lia,U⟩
theorem Probe.step{h:Int}(FY:(yy r i<h/\h<yy r j)\/(yy r j<h/\h<yy r i)):RQ r h (AA r i) (AA r j)=RQ r (h-1) (AA r i) (AA r j):=by
 have key:∀k:Int,ind (Lt (AA r i) (AA r j) (AA r k)<|AA r<|k+1)*AK r h k=ind (Lt (AA r i) (AA r j) (AA r k)<|AA r<|k+1)*AK r (h-1) k+(ind (yy r k=h/\Lt (AA r i) (AA r j) (AA r k) (AA r k))-ind (yy r (k+1)=h/\Lt (AA r i) (AA r j) (AA r<|k+1) (AA r<|k+1))):=by
  intro k;have hd:=O0 r h k;refine comb (x:=ind<|yy r k=h) (y:=ind<|yy r (k+1)=h) U ?_ ?_
  .by_cases a1:yy r k=h
   .refine .inl ⟨Au a1,?_⟩;rcases p.Mp S (m:=k) (λc=>by have:=Cu c;lia) (λc=>by have:=Cu c;lia) U U with z|z
    .rw[Au ⟨a1,z⟩,Au<|KU z]
    .have n1:=λc=>p.nc S k c<|OQ z;rw[Ae n1,Ae λc=>n1<|KU c.2]
   .exact .inr ⟨Ae a1,Ae λc=>a1 c.1⟩
  .by_cases a2:yy r (k+1)=h
   .refine .inl ⟨Au a2,?_⟩;rcases p.Mp S (m:=k+1) (λc=>by have:=Cu c;lia) (λc=>by have:=Cu c;lia) U U with z|z
    .rw[Au ⟨a2,z⟩,Au<|MJ z]
    .have n1:=λc=>p.nc S k c<|SA z;rw[Ae n1,Ae λc=>n1<|MJ c.2]
   .exact .inr ⟨Ae a2,Ae λc=>a2 c.1⟩
 unfold RQ;rw[Bs (g:=λk=>ind (Lt (AA r i) (AA r j) (AA r k)<|AA r<|k+1)*AK r (h-1) k+(ind (yy r k=h/\Lt (AA r i) (AA r j) (AA r k) (AA r k))-ind (yy r (k+1)=h/\Lt (AA r i) (AA r j) (AA r<|k+1) (AA r<|k+1)))) λk _=>key k];rw[D9 (λk=>ind (Lt (AA r i) (AA r j) (AA r k)<|AA r<|k+1)*AK r (h-1) k) λk=>ind (yy r k=h/\Lt (AA r i) (AA r j) (AA r k) (AA r k))-ind (yy r (k+1)=h/\Lt (AA r i) (AA r j) (AA r<|k+1) (AA r<|k+1))];have ht:=HG (λk=>- ind (yy r k=h/\Lt (AA r i) (AA r j) (AA r k) (AA r k))) r.length;have hc:AA r (r.length)=AA r 0:=Aw yI;have hy:yy r (r.length)=yy r 0:=by unfold yy;rw[hc]
 rw[hc,hy]at ht;lia
theorem Probe.along{h h':Int}(h1:(yy r i<=h/\h<yy r j)\/(yy r j<=h/\h<yy r i))(h2:(yy r i<=h'/\h'<yy r j)\/(yy r j<=h'/\h'<yy r i)):RQ r h (AA r i) (AA r j)=RQ r h' (AA r i) (AA r j):=by
 have main:∀(m:Nat)(h:Int),((yy r i<=h/\h<yy r j)\/(yy r j<=h/\h<yy r i))->((yy r i<=h+m/\h+m<yy r j)\/(yy r j<=h+m/\h+m<yy r i))->RQ r (h+m) (AA r i) (AA r j)=RQ r h (AA r i) (AA r j):=by
  intro m
  induction m with
  |zero=>simp
  |succ m ih=>
   intro h a b;rw[<-ih h a U];have:=p.step S (h:=h+((m+1:Nat))) U;rw[this,show h+((m+1:Nat))-1=h+m by lia]
 rcases AAG h h' with hl|hl
 .have:=main (h'-h).toNat h h1 (by rw[yk U];lia);rw[yk U,show h+(h'-h)=h' by lia]at this;exact this.symm
 .have:=main (h-h').toNat h' h2 (by rw[yk U];lia);rw[yk U,show h'+(h-h')=h by lia]at this;exact this
end
noncomputable def dbl(p:Pt):Pt:=(2*p.1,2*p.2)
theorem lA{A B c d:Pt}(h:Lt (A.1+B.1,A.2+B.2) (A.1+B.1,A.2+B.2) (dbl c)<|dbl d):Lt A B c d:=by obtain⟨q,s,t,h1,h2,h3,h4,h5,e,l⟩:=h;unfold dbl at e l;dsimp only at e l;exact⟨2*q,q,2*t,U,U,U,U,U,yG,yG⟩
theorem lB{A B c d:Pt}(h:Lt (dbl c) (dbl d) (A.1+B.1,A.2+B.2) (A.1+B.1,A.2+B.2)):Lt c d A B:=by obtain⟨q,s,t,h1,h2,h3,h4,h5,e,l⟩:=h;unfold dbl at e l;dsimp only at e l;exact⟨2*q,2*s,q,U,U,U,U,U,yG,yG⟩
section
variable{r:List Pt}(S:A2 r){i j:Int}(p:Probe r i j)
include S p
theorem Probe.SH(k:Int):¬ At (dbl<|AA r k) (dbl<|AA r<|k+1) ((AA r i).1+(AA r j).1,(AA r i).2+(AA r j).2):=by
 have h3:=S.l3;have p':=p.symm S;rintro⟨q,s,hq,s0,s1,e1,e2⟩;unfold dbl at e1 e2;dsimp only at e1 e2;by_cases a:(i-k)%(r.length)=0
 .have z1:=Aw a;have z2:=Aw<|Br a;rw[<-z1,<-z2]at e1 e2;have:=(p.LZ S (2*s) q U U yG yG).2;lia
 by_cases b:(i-k)%(r.length)=1
 .have e:=S.next b;have e0:=(Aw (by have:=DY U b;exact this)).symm;rw[<-e.1,e0]at e1 e2;have:=(p.Ik S (2*(q-s)) q U U yG yG).2;lia
 by_cases c:(j-k)%(r.length)=0
 .have z1:=Aw c;have z2:=Aw<|Br c;rw[<-z1,<-z2]at e1 e2;have:=(p'.LZ S (2*s) q U U yG yG).2;lia
 by_cases d:(j-k)%(r.length)=1
 .have e:=S.next d;have e0:=(Aw (by have:=DY U d;exact this)).symm;rw[<-e.1,e0]at e1 e2;have:=(p'.Ik S (2*(q-s)) q U U yG yG).2;lia
 .exact p.nt k a b c d ⟨2*q,q,2*s,U,U,U,U,U,yG,yG⟩
theorem Probe.mid:W (r.map dbl) ((AA r i).1+(AA r j).1,(AA r i).2+(AA r j).2)=RQ r ((yy r i+yy r j) / 2) (AA r i) (AA r j):=by
 have h3:=S.l3;have hc:∀k:Int,AA (r.map dbl) k=dbl (AA r k):=λk=>DD U k;unfold W RQ;rw[yP];refine Bs λk _=>?_;rw[WM,hc,hc];have hs:AK (r.map dbl) ((AA r i).2+(AA r j).2) k=AK r ((yy r i+yy r j) / 2) k:=by
  unfold AK yy;rw[hc,hc];unfold dbl;dsimp only;generalize (AA r i).2+(AA r j).2=m;generalize (AA r k).2=a;generalize (AA r<|k+1).2=b
  (repeat' split)<;>lia
 rw[hs,AAl];by_cases hz:AK r ((yy r i+yy r j) / 2) k=0
 .rw[hz];lia
 .congr 1
  have rs:=Cr hz;by_cases hl:Lt (AA r i) (AA r j) (AA r k)<|AA r<|k+1
  .rw[Au hl];refine Au ?_;obtain⟨q,s,hq,s0,s1,ey,_,_⟩:=Ke (a:=dbl<|AA r k) (b:=dbl<|AA r<|k+1) (h:=(AA r i).2+(AA r j).2) (by unfold dbl;dsimp only;unfold yy at rs;lia) (by unfold dbl;unfold yy at rs;lia);rcases zS (q*((AA r i).1+(AA r j).1)) (q*(dbl<|AA r k).1+s*((dbl<|AA r<|k+1).1-(dbl<|AA r k).1))with u|u|u
   .exact⟨q,0,s,hq,U,U,s0,s1,by rw[ey];lia,U⟩
   .exact absurd ⟨q,s,hq,s0,s1,yG,yG⟩ (p.SH S k)
   .exact absurd (lB ⟨q,s,0,hq,s0,s1,U,U,U,U⟩) (p.nc S k hl)
  .rw[Ae hl];exact Ae λc=>hl<|lA c
end
def NN(r:List Pt)(h i:Int):Int:=AU (λk=>ind (Lt (AA r i) (AA r i) (AA r k)<|AA r<|k+1)*AK r h k) r.length
theorem IS{A X Y:Pt}(hx:A.2<X.2)(hy:A.2<Y.2):Lt A X A Y↔AG A Y X>0:=by
 constructor
 .rintro⟨q,s,t,hq,s0,s1,t0,t1,e,l⟩;have e':s*(X.2-A.2)=t*(Y.2-A.2):=U
  have l':s*(X.1-A.1)<t*(Y.1-A.1):=U
  have ht:0<t:=by
   by_cases c:t=0
   .rw[c,zQ]at e' l';have:s=0:=by rcases yW.mp e' with h|h<;>lia
    rw[this]at l';lia
   .lia
  have k:t*AG A Y X=(X.2-A.2)*(t*(Y.1-A.1)-s*(X.1-A.1)):=by
   have:t*AG A Y X=(t*(Y.1-A.1))*(X.2-A.2)-(t*(Y.2-A.2))*(X.1-A.1):=by unfold AG;grind
   rw[this,<-e'];grind
  have:=yX (U:0<X.2-A.2) (U:0<t*(Y.1-A.1)-s*(X.1-A.1));by_cases c:AG A Y X>0
  .exact c
  .have:=yg (yQ ht) (U:AG A Y X<=0);lia
 .intro h;have m1:(Y.2-A.2)*1<=(Y.2-A.2)*(X.2-A.2):=yi U U;have m2:(X.2-A.2)*1<=(X.2-A.2)*(Y.2-A.2):=yi U U;exact⟨(X.2-A.2)*(Y.2-A.2),Y.2-A.2,X.2-A.2,yX U U,U,U,U,U,yG,by unfold AG at h;grind⟩
theorem Jz{A X Y:Pt}(hx:X.2<A.2)(hy:Y.2<A.2):Lt A X A Y↔AG A X Y>0:=by
 constructor
 .rintro⟨q,s,t,hq,s0,s1,t0,t1,e,l⟩;have e':s*(X.2-A.2)=t*(Y.2-A.2):=U
  have l':s*(X.1-A.1)<t*(Y.1-A.1):=U
  have ht:0<t:=by
   by_cases c:t=0
   .rw[c,zQ]at e' l';have:s=0:=by rcases yW.mp e' with h|h<;>lia
    rw[this]at l';lia
   .lia
  have k:t*AG A X Y=(A.2-X.2)*(t*(Y.1-A.1)-s*(X.1-A.1)):=by
   have:t*AG A X Y=(X.1-A.1)*(t*(Y.2-A.2))-(X.2-A.2)*(t*(Y.1-A.1)):=by unfold AG;grind
   rw[this,<-e'];grind
  have:=yX (U:0<A.2-X.2) (U:0<t*(Y.1-A.1)-s*(X.1-A.1));by_cases c:AG A X Y>0
  .exact c
  .have:=yg (yQ ht) (U:AG A X Y<=0);lia
 .intro h;have m1:(A.2-Y.2)*1<=(A.2-Y.2)*(A.2-X.2):=yi U U;have m2:(A.2-X.2)*1<=(A.2-X.2)*(A.2-Y.2):=yi U U;exact⟨(A.2-X.2)*(A.2-Y.2),A.2-Y.2,A.2-X.2,yX U U,U,U,U,U,yG,by unfold AG at h;grind⟩
theorem Qp{A X B:Pt}(f:CB A X B)(h:(A.2<X.2/\A.2<B.2)\/(X.2<A.2/\B.2<A.2)):AG A X B≠0:=λc=>by
 unfold AG at c;rcases h with⟨h1,h2⟩|⟨h1,h2⟩
 .have:=(f (B.2-A.2) (X.2-A.2) U U yG yG).1;lia
 .have:=(f (A.2-B.2) (A.2-X.2) U U yG yG).1;lia
section
variable{r:List Pt}(S:A2 r){i:Int}(gU:yy r (i-1)≠yy r i)(gV:yy r (i+1)≠yy r i)
include S gU gV
theorem A2.BG{k:Int}(h:(i-k)%(r.length)=0\/(i-k)%(r.length)=1):¬ Lt (AA r i) (AA r i) (AA r k) (AA r<|k+1):=by
 have h3:=S.l3;rcases h with a|b
 .rw[<-Aw a,<-Aw<|Br a];rintro⟨q,s,t,hq,s0,s1,t0,t1,e,l⟩;unfold yy at gV;have:t*((AA r<|i+1).2-(AA r i).2)=0:=yG
  rcases yW.mp this with z|z
  .rw[z]at l;grind
  .lia
 .have e:=S.next b;have e0:=(Aw (by have:=DY U b;exact this)).symm;rw[<-e.1];rintro⟨q,s,t,hq,s0,s1,t0,t1,e,l⟩;unfold yy at gU;have:(q-t)*((AA r<|i-1).2-(AA r i).2)=0:=yG
  rcases yW.mp this with z|z
  .have:t=q:=U
   rw[this]at l;grind
  .lia
theorem A2.TF{k:Int}(a:(i-k)%(r.length)≠0)(b:(i-k)%(r.length)≠1){q s:Int}(hq:0<q)(s0:0<=s)(s1:s<=q)(e:q*(AA r k).2+s*((AA r<|k+1).2-(AA r k).2)=q*yy r i) : (q*(AA r i).1<q*(AA r k).1+s*((AA r<|k+1).1-(AA r k).1)/\Lt (AA r i) (AA r i) (AA r k) (AA r<|k+1))\/(q*(AA r k).1+s*((AA r<|k+1).1-(AA r k).1)<q*(AA r i).1/\Lt (AA r k) (AA r<|k+1) (AA r i) (AA r i)/\¬ Lt (AA r i) (AA r i) (AA r k) (AA r<|k+1)):=by
 have o:=S.off a b hq s0 s1 e;unfold yy at e;have ns:¬ Bf (AA r i) (AA r i) (AA r k) (AA r<|k+1):=by rintro⟨q',s',t',h1,h2,h3,h4,h5,e1,e2⟩;exact S.off a b h1 h4 h5 yG yG
 rcases zC o with z|z
 .have l:Lt (AA r k) (AA r<|k+1) (AA r i)<|AA r i:=⟨q,s,0,hq,s0,s1,U,U,by rw[e];lia,U⟩;exact .inr ⟨z,l,λc=>SI ns c l⟩
 .exact .inl ⟨z,⟨q,0,s,hq,U,U,s0,s1,by rw[e];lia,U⟩⟩
theorem A2.bD:NN r (yy r i) i=NN r (yy r i-1) i:=by
 have key:∀k:Int,ind (Lt (AA r i) (AA r i) (AA r k)<|AA r<|k+1)*AK r (yy r i) k=ind (Lt (AA r i) (AA r i) (AA r k)<|AA r<|k+1)*AK r (yy r i-1) k+(ind (yy r k=yy r i/\(AA r i).1<(AA r k).1)-ind (yy r (k+1)=yy r i/\(AA r i).1<(AA r<|k+1).1)):=by
  intro k;have hd:=O0 r (yy r i) k;by_cases FY:(i-k)%(r.length)=0\/(i-k)%(r.length)=1
  .rw[Ae<|S.BG gU gV FY];have g:ind (yy r k=yy r i/\(AA r i).1<(AA r k).1)=0/\ind (yy r (k+1)=yy r i/\(AA r i).1<(AA r<|k+1).1)=0:=by
    have h3:=S.l3;rcases FY with a|b
    .rw[<-Aw a,<-Cu<|Br a];exact⟨Ae λc=>U,Ae λc=>gV c.1⟩
    .have e:=S.next b;have e0:=by have:=DY U b;exact this
     refine⟨Ae λc=>?_,Ae λc=>?_⟩
     .rw[<-Cu e0]at c;exact gU c.1
     .rw[<-e.1]at c;lia
   rw[g.1,g.2];lia
  .have a:=λc=>FY<|.inl c;have b:=λc=>FY<|.inr c;refine comb (x:=ind<|yy r k=yy r i) (y:=ind<|yy r (k+1)=yy r i) U ?_ ?_
   .by_cases a1:yy r k=yy r i
    .refine .inl ⟨Au a1,?_⟩;rcases S.TF gU gV a b (q:=1) (s:=0) U U U (by rw[show(AA r k).2=yy r i from a1];lia)with⟨z,l⟩|⟨z,_,l⟩
     .rw[Au l,Au ⟨a1,U⟩]
     .rw[Ae l,Ae λc=>U]
    .exact .inr ⟨Ae a1,Ae λc=>a1 c.1⟩
   .by_cases a2:yy r (k+1)=yy r i
    .refine .inl ⟨Au a2,?_⟩;rcases S.TF gU gV a b (q:=1) (s:=1) U U U (by rw[show(AA r<|k+1).2=yy r i from a2];lia)with⟨z,l⟩|⟨z,_,l⟩
     .rw[Au l,Au ⟨a2,U⟩]
     .rw[Ae l,Ae λc=>U]
    .exact .inr ⟨Ae a2,Ae λc=>a2 c.1⟩
 unfold NN;rw[Bs (g:=λk=>ind (Lt (AA r i) (AA r i) (AA r k)<|AA r<|k+1)*AK r (yy r i-1) k+(ind (yy r k=yy r i/\(AA r i).1<(AA r k).1)-ind (yy r (k+1)=yy r i/\(AA r i).1<(AA r<|k+1).1))) λk _=>key k];rw[D9 (λk=>ind (Lt (AA r i) (AA r i) (AA r k)<|AA r<|k+1)*AK r (yy r i-1) k) λk=>ind (yy r k=yy r i/\(AA r i).1<(AA r k).1)-ind (yy r (k+1)=yy r i/\(AA r i).1<(AA r<|k+1).1)];have ht:=HG (λk=>- ind (yy r k=yy r i/\(AA r i).1<(AA r k).1)) r.length;have hc:AA r (r.length)=AA r 0:=Aw yI;have hy:yy r (r.length)=yy r 0:=by unfold yy;rw[hc]
 rw[hc,hy]at ht;lia
theorem A2.star{Z:Pt}(hZ:∀k:Int,(i-k)%(r.length)≠0->(i-k)%(r.length)≠1->Lt (AA r i) Z (AA r k) (AA r<|k+1)->¬ Lt (AA r k) (AA r<|k+1) (AA r i) Z){H:Int}(hH:H=yy r i\/H=yy r i-1) : RQ r H (AA r i) Z=NN r (yy r i) i+(ind (Lt (AA r i) Z (AA r i)<|AA r<|i-1)*AK r H (i-1)+ind (Lt (AA r i) Z (AA r i)<|AA r<|i+1)*AK r H i):=by
 have h3:=S.l3;have hN:NN r (yy r i) i=NN r H i:=by
  rcases hH with rfl|rfl
  .rfl
  .exact S.bD gU gV
 have hp:∀a b:Int,(a-b)%(r.length)=0->ind (Lt (AA r i) Z (AA r a)<|AA r<|a+1)*AK r H a-ind (Lt (AA r i) (AA r i) (AA r a)<|AA r<|a+1)*AK r H a=ind (Lt (AA r i) Z (AA r b)<|AA r<|b+1)*AK r H b-ind (Lt (AA r i) (AA r i) (AA r b)<|AA r<|b+1)*AK r H b:=λa b z=>by rw[Aw z,Aw<|Br z,FC z]
 have hd:RQ r H (AA r i) Z=NN r H i+AU (λk=>ind (Lt (AA r i) Z (AA r k)<|AA r<|k+1)*AK r H k-ind (Lt (AA r i) (AA r i) (AA r k)<|AA r<|k+1)*AK r H k) r.length:=by unfold RQ NN;rw[<-D9];exact Bs λk _=>U
 rw[hd,hN,<-O7 U hp<|i-1]
 congr 1
 rw[TX (c:=0) (d:=1) U U λm hm m0 m1=>?_]
 .show ind (Lt (AA r i) Z (AA r<|i-1+0)<|AA r<|i-1+0+1)*AK r H (i-1+0)-ind (Lt (AA r i) (AA r i) (AA r<|i-1+0)<|AA r<|i-1+0+1)*AK r H (i-1+0)+(ind (Lt (AA r i) Z (AA r<|i-1+1)<|AA r<|i-1+1+1)*AK r H (i-1+1)-ind (Lt (AA r i) (AA r i) (AA r<|i-1+1)<|AA r<|i-1+1+1)*AK r H (i-1+1))=_;rw[show i-1+0=i-1 by lia,show i-1+1=i by lia];have r1:=S.BG gU gV (.inr (by rw[show i-(i-1)=1 by lia,yM U U]));have r2:=S.BG gU gV (k:=i)<|.inl yI;rw[show i-1+1=i by lia]at r1;rw[Ae r1,Ae r2];have e:ind (Lt (AA r i) Z (AA r<|i-1)<|AA r i)=ind (Lt (AA r i) Z (AA r i)<|AA r<|i-1):=by
   by_cases c:Lt (AA r i) Z (AA r<|i-1)<|AA r i
   .rw[Au c,Au<|E6 c]
   .rw[Ae c,Ae λz=>c<|E6 z]
  rw[e];lia
 .have a:(i-(i-1+(m)))%(r.length)≠0:=λc=>by have:=B8 c;rw[show i-1+(m)-i=m-1 by lia,yM U U]at this;lia
  have b:(i-(i-1+(m)))%(r.length)≠1:=λc=>by have:=B8<|DY U c;rw[show i-1+(m)-(i-1)=m by lia,yM U U]at this;lia
  generalize i-1+(m)=k at a b ⊢;by_cases hz:AK r H k=0
  .lia
  .have rs:=Cr hz;obtain⟨q,s,hq,s0,s1,ey,_,_⟩:=Ke (h:=yy r i) (by show yy r k≠yy r (k+1);lia) (by unfold yy at rs hH ⊢;lia);rcases S.TF gU gV a b hq s0 s1 ey with⟨_,l⟩|⟨_,l,l'⟩
   .rw[Au l,Au (show Lt (AA r i) Z (AA r k) (AA r<|k+1)from OQ l)];lia
   .have n1:=λc=>hZ k a b c<|KU l;lia
end
theorem E2{p:Prop}{x:Int}(h:p↔x>0):(x>0/\ind p=1)\/(x<=0/\ind p=0):=by
 by_cases c:x>0
 .exact .inl ⟨c,Au<|h.mpr c⟩
 .exact .inr ⟨U,Ae λz=>c<|h.mp z⟩
theorem IH{p q t a b c:Int}(hp:0<p)(hq:0<q)(ht:0<t)(h:p*a=q*c+t*b)(ha:a≠0\/b≠0\/c≠0):(0<a\/b<0\/c<0)/\(a<0\/0<b\/0<c):=by
 have z:p*a=0->q*c=0->t*b=0->False:=λx y z=>by have x:=yW.mp x;have y:=yW.mp y;have z:=yW.mp z;lia
 constructor
 .by_cases x:0<a
  .exact .inl x
  .by_cases y:b<0
   .exact .inr<|.inl y
   .by_cases w:c<0
    .exact .inr<|.inr w
    .have m1:=yg (yQ hp) (U:a<=0);have m2:=yT (yQ hq) (U:0<=c);have m3:=yT (yQ ht) (U:0<=b);exact(z U U U).elim
 .by_cases x:a<0
  .exact .inl x
  .by_cases y:0<b
   .exact .inr<|.inl y
   .by_cases w:0<c
    .exact .inr<|.inr w
    .have m1:=yT (yQ hp) (U:0<=a);have m2:=yg (yQ hq) (U:c<=0);have m3:=yg (yQ ht) (U:b<=0);exact(z U U U).elim
theorem HY{a b c E:Int}(h:(a>0/\b>0/\c>0)\/(¬ a>0/\(b>0\/c>0)))(e:E=1):(E=1/\((a>0/\b>0/\c>0)\/(¬ a>0/\(b>0\/c>0))))\/(E=0/\¬ ((a>0/\b>0/\c>0)\/(¬ a>0/\(b>0\/c>0)))):=.inl ⟨e,h⟩
theorem HX{a b c E:Int}(h:¬ ((a>0/\b>0/\c>0)\/(¬ a>0/\(b>0\/c>0))))(e:E=0):(E=1/\((a>0/\b>0/\c>0)\/(¬ a>0/\(b>0\/c>0))))\/(E=0/\¬ ((a>0/\b>0/\c>0)\/(¬ a>0/\(b>0\/c>0)))):=.inr ⟨e,h⟩
theorem gC{a b c N i1 i2 i3:Int}(ha:a≠0)(hb:b≠0)(hc : -c≠0)(hN:N+i1=1)(k1:((a>0/\i1=1)\/(a<=0/\i1=0)))(k2:((c>0/\i2=1)\/(c<=0/\i2=0)))(k3:((-b>0/\i3=1)\/(-b<=0/\i3=0)))(tr:((0<a\/b<0\/c<0)/\(a<0\/0<b\/0<c))):(N+(i2*1+i3 * -1)=1/\((a>0/\b>0/\c>0)\/(¬ a>0/\(b>0\/c>0))))\/(N+(i2*1+i3 * -1)=0/\¬ ((a>0/\b>0/\c>0)\/(¬ a>0/\(b>0\/c>0)))):=by rcases k1 with⟨x1,rfl⟩|⟨x1,rfl⟩<;>rcases k2 with⟨x2,rfl⟩|⟨x2,rfl⟩<;>rcases k3 with⟨x3,rfl⟩|⟨x3,rfl⟩<;>first|(refine HY ?_ (by clear tr;lia);lia)|(refine HX ?_ (by clear tr;lia);lia)|(exfalso;lia)
theorem gE{a b c N i2 j:Int}(hc : -c≠0)(hN:N=0)(k2:((c>0/\i2=1)\/(c<=0/\i2=0)))(tr:((0<a\/b<0\/-c<0)/\(a<0\/0<b\/0 < -c))):(N+(i2*1+j*0)=1/\((a>0/\b>0/\c>0)\/(¬ a>0/\(b>0\/c>0))))\/(N+(i2*1+j*0)=0/\¬ ((a>0/\b>0/\c>0)\/(¬ a>0/\(b>0\/c>0)))):=by rcases k2 with⟨x2,rfl⟩|⟨x2,rfl⟩<;>first|(refine HY ?_ U;lia)|(refine HX ?_ U;lia)|(exfalso)
theorem gF{a b c N i3 j:Int}(hb:b≠0)(hN:N=1)(k3:((-b>0/\i3=1)\/(-b<=0/\i3=0)))(tr:((0<a\/-b<0\/c<0)/\(a<0\/0 < -b\/0<c))):(N+(j*0+i3 * -1)=1/\((a>0/\b>0/\c>0)\/(¬ a>0/\(b>0\/c>0))))\/(N+(j*0+i3 * -1)=0/\¬ ((a>0/\b>0/\c>0)\/(¬ a>0/\(b>0\/c>0)))):=by rcases k3 with⟨x3,rfl⟩|⟨x3,rfl⟩<;>first|(refine HY ?_ U;lia)|(refine HX ?_ U;lia)|(exfalso)
theorem gH{a b c N i1 j j2:Int}(ha:a≠0)(hN:N=i1)(k1:((-a>0/\i1=1)\/(-a<=0/\i1=0)))(tr:((0<a\/-b<0\/-c<0)/\(a<0\/0 < -b\/0 < -c))):(N+(j*0+j2*0)=1/\((a>0/\b>0/\c>0)\/(¬ a>0/\(b>0\/c>0))))\/(N+(j*0+j2*0)=0/\¬ ((a>0/\b>0/\c>0)\/(¬ a>0/\(b>0\/c>0)))):=by rcases k1 with⟨x1,rfl⟩|⟨x1,rfl⟩<;>first|(refine HY ?_ U;lia)|(refine HX ?_ U;lia)|(exfalso)
theorem gI{a b c N i1 j j2:Int}(ha:a≠0)(hN:N+i1=1)(k1:((a>0/\i1=1)\/(a<=0/\i1=0)))(tr:((0<a\/-b<0\/-c<0)/\(a<0\/0 < -b\/0 < -c))):(N+(j*0+j2*0)=1/\((a>0/\b>0/\c>0)\/(¬ a>0/\(b>0\/c>0))))\/(N+(j*0+j2*0)=0/\¬ ((a>0/\b>0/\c>0)\/(¬ a>0/\(b>0\/c>0)))):=by rcases k1 with⟨x1,rfl⟩|⟨x1,rfl⟩<;>first|(refine HY ?_ U;lia)|(refine HX ?_ U;lia)|(exfalso)
theorem gJ{a b c N i3 j:Int}(hb:b≠0)(hN:N=0)(k3:((b>0/\i3=1)\/(b<=0/\i3=0)))(tr:((0<a\/-b<0\/c<0)/\(a<0\/0 < -b\/0<c))):(N+(j*0+i3*1)=1/\((a>0/\b>0/\c>0)\/(¬ a>0/\(b>0\/c>0))))\/(N+(j*0+i3*1)=0/\¬ ((a>0/\b>0/\c>0)\/(¬ a>0/\(b>0\/c>0)))):=by rcases k3 with⟨x3,rfl⟩|⟨x3,rfl⟩<;>first|(refine HY ?_ U;lia)|(refine HX ?_ U;lia)|(exfalso)
theorem gK{a b c N i2 j:Int}(hc : -c≠0)(hN:N=1)(k2:((-c>0/\i2=1)\/(-c<=0/\i2=0)))(tr:((0<a\/b<0\/-c<0)/\(a<0\/0<b\/0 < -c))):(N+(i2 * -1+j*0)=1/\((a>0/\b>0/\c>0)\/(¬ a>0/\(b>0\/c>0))))\/(N+(i2 * -1+j*0)=0/\¬ ((a>0/\b>0/\c>0)\/(¬ a>0/\(b>0\/c>0)))):=by rcases k2 with⟨x2,rfl⟩|⟨x2,rfl⟩<;>first|(refine HY ?_ U;lia)|(refine HX ?_ U;lia)|(exfalso)
theorem gM{a b c N i1 i2 i3:Int}(ha:a≠0)(hb:b≠0)(hc : -c≠0)(hN:N=i1)(k1:((-a>0/\i1=1)\/(-a<=0/\i1=0)))(k2:((-c>0/\i2=1)\/(-c<=0/\i2=0)))(k3:((b>0/\i3=1)\/(b<=0/\i3=0)))(tr:((0<a\/b<0\/c<0)/\(a<0\/0<b\/0<c))):(N+(i2 * -1+i3*1)=1/\((a>0/\b>0/\c>0)\/(¬ a>0/\(b>0\/c>0))))\/(N+(i2 * -1+i3*1)=0/\¬ ((a>0/\b>0/\c>0)\/(¬ a>0/\(b>0\/c>0)))):=by rcases k1 with⟨x1,rfl⟩|⟨x1,rfl⟩<;>rcases k2 with⟨x2,rfl⟩|⟨x2,rfl⟩<;>rcases k3 with⟨x3,rfl⟩|⟨x3,rfl⟩<;>first|(refine HY ?_ (by clear tr;lia);lia)|(refine HX ?_ (by clear tr;lia);lia)|(exfalso;lia)
theorem uP{yA yB yU yV a b c:Int}(h:(yB-yA)*a=(yV-yA)*c+(yU-yA)*b):(yA-yB)*a=(yA-yV)*c+(yA-yU)*b:=yG
theorem uQ{yA yB yU yV a b c:Int}(h:(yB-yA)*a=(yV-yA)*c+(yU-yA)*b):(yA-yB)*a=(yV-yA) * -c+(yA-yU)*b:=yG
theorem uR{yA yB yU yV a b c:Int}(h:(yB-yA)*a=(yV-yA)*c+(yU-yA)*b):(yA-yB)*a=(yA-yV)*c+(yU-yA) * -b:=yG
theorem uS{yA yB yU yV a b c:Int}(h:(yB-yA)*a=(yV-yA)*c+(yU-yA)*b):(yA-yB)*a=(yV-yA) * -c+(yU-yA) * -b:=yG
theorem uT{yA yB yU yV a b c:Int}(h:(yB-yA)*a=(yV-yA)*c+(yU-yA)*b):(yB-yA)*a=(yA-yV) * -c+(yA-yU) * -b:=yG
theorem uW{yA yB yU yV a b c:Int}(h:(yB-yA)*a=(yV-yA)*c+(yU-yA)*b):(yB-yA)*a=(yV-yA)*c+(yA-yU) * -b:=yG
theorem uX{yA yB yU yV a b c:Int}(h:(yB-yA)*a=(yV-yA)*c+(yU-yA)*b):(yB-yA)*a=(yA-yV) * -c+(yU-yA)*b:=yG
theorem uY{yA yB yU yV a b c:Int}(h:(yB-yA)*a=(yV-yA)*c+(yU-yA)*b):(yB-yA)*a=(yV-yA)*c+(yU-yA)*b:=yG
def DS(yF A V B:Pt):Prop:=(AG yF A V>0/\AG A V B>0/\AG yF A B>0)\/(¬ AG yF A V>0/\(AG A V B>0\/AG yF A B>0))
theorem Probe.Ux{r:List Pt}(S:A2 r)(C:∀{h j:Int},AK r h j≠0->cc r h j=1){i j:Int}(p:Probe r i j)(gU:yy r (i-1)≠yy r i)(gV:yy r (i+1)≠yy r i)(gB:yy r j≠yy r i) : ∃H,((yy r i<=H/\H<yy r j)\/(yy r j<=H/\H<yy r i))/\((RQ r H (AA r i) (AA r j)=1/\DS (AA r<|i-1) (AA r i) (AA r<|i+1) (AA r j))\/(RQ r H (AA r i) (AA r j)=0/\¬ DS (AA r<|i-1) (AA r i) (AA r<|i+1) (AA r j))):=by
 have h3:=S.l3;have em:i-1+1=i:=U
 have sQ:=λ{H:Int}(hH:H=yy r i\/H=yy r i-1)=>S.star gU gV (Z:=AA r j) (λk _ _ c=>p.nc S k c) hH;have sV:=λ{H:Int}(hH:H=yy r i\/H=yy r i-1)=>S.star gU gV (Z:=AA r<|i+1) (λk a _ c=>S.nc (i:=i) (j:=k) a c) hH;have sU:=λ{H:Int}(hH:H=yy r i\/H=yy r i-1)=>S.star gU gV (Z:=AA r<|i-1) (λk _ b c z=>by
  have As:(i-1-k)%(r.length:Int)≠0:=λw=>b (by have:=mod_succ (n:=(r.length:Int)) U w;rw[show i-1+1-k=i-k by lia]at this;exact this)
  refine S.nc (i:=i-1) (j:=k) As ?_ ?_
  .unfold L;rw[em];exact Eh c
  .unfold L;rw[em];exact E6 z) hH
 have eV:∀H,RQ r H (AA r i) (AA r<|i+1)=Rr r H i:=λH=>rfl;have eU:∀H,RQ r H (AA r i) (AA r<|i-1)=Rr r H (i-1):=λH=>by
  refine Bs λk _=>?_;unfold L;rw[em];by_cases c:Lt (AA r i) (AA r<|i-1) (AA r (k:Int))<|AA r<|(k:Int)+1
  .rw[Au c,Au<|Eh c]
  .rw[Ae c,Ae λz=>c<|Eh z]
 have iV:ind (Lt (AA r i) (AA r<|i+1) (AA r i)<|AA r<|i+1)=0:=Ae<|Ep r i λc=>gV c.symm;have iU:ind (Lt (AA r i) (AA r<|i-1) (AA r i)<|AA r<|i-1)=0:=Ae λc=>Ep r (i-1) (by rw[em];exact gU) (by unfold L;rw[em];exact Eh<|E6 c);have fA:CB (AA r i) (AA r<|i-1)<|AA r<|i+1:=by have:=S.fork<|i-1;rw[em]at this;exact this
 have f1:=p.LZ S;have f2:=p.Ik S;have Hs:((AA r j).2-(AA r i).2)*AG (AA r<|i-1) (AA r i) (AA r<|i+1)=((AA r<|i+1).2-(AA r i).2)*AG (AA r<|i-1) (AA r i) (AA r j)+((AA r<|i-1).2-(AA r i).2)*AG (AA r i) (AA r<|i+1) (AA r j):=by unfold AG;grind
 have t1:AG (AA r i) (AA r<|i-1) (AA r j) = - AG (AA r<|i-1) (AA r i) (AA r j):=by unfold AG;grind
 have t2:AG (AA r i) (AA r j) (AA r<|i-1)=AG (AA r<|i-1) (AA r i) (AA r j):=by unfold AG;grind
 have t3:AG (AA r i) (AA r j) (AA r<|i+1) = - AG (AA r i) (AA r<|i+1) (AA r j):=by unfold AG;grind
 have t4:AG (AA r i) (AA r<|i-1) (AA r<|i+1) = - AG (AA r<|i-1) (AA r i) (AA r<|i+1):=by unfold AG;grind
 have t5:AG (AA r i) (AA r<|i+1) (AA r<|i-1)=AG (AA r<|i-1) (AA r i) (AA r<|i+1):=by unfold AG;grind
 have Np:((AA r i).2<(AA r<|i-1).2/\(AA r i).2<(AA r<|i+1).2)\/((AA r<|i-1).2<(AA r i).2/\(AA r<|i+1).2<(AA r i).2)->AG (AA r<|i-1) (AA r i) (AA r<|i+1)≠0:=λh c=>Qp fA h (by rw[t4,c];rfl);have Nd:=Qp f1;have Nf:=Qp f2;have uU:yy r (i-1)=(AA r<|i-1).2:=rfl;have uV:yy r (i+1)=(AA r<|i+1).2:=rfl;have uA:yy r i=(AA r i).2:=rfl;have uB:yy r j=(AA r j).2:=rfl;have cV:∀{H:Int},AK r H i≠0->Rr r H i+ind (yy r i<yy r (i+1))=1:=λh=>C h;have cU:∀{H:Int},AK r H (i-1)≠0->Rr r H (i-1)+ind (yy r (i-1)<yy r i)=1:=λh=>by have:=C h;unfold cc at this;rw[em]at this;exact this
 have key:∀(H:Int)(z:Int),RQ r H (AA r i) (AA r j)=z->((z=1/\DS (AA r<|i-1) (AA r i) (AA r<|i+1) (AA r j))\/(z=0/\¬ DS (AA r<|i-1) (AA r i) (AA r<|i+1) (AA r j)))->((RQ r H (AA r i) (AA r j)=1/\DS (AA r<|i-1) (AA r i) (AA r<|i+1) (AA r j))\/(RQ r H (AA r i) (AA r j)=0/\¬ DS (AA r<|i-1) (AA r i) (AA r<|i+1) (AA r j))):=λH z e h=>by rw[e];exact h
 rcases zC gB with bB|bB
 .-- Jg Ts gz down
  refine⟨yy r i-1,.inr ⟨U,U⟩,key _ _ (sQ<|.inr rfl) ?_⟩;rcases zC gU with bU|bU<;>rcases zC gV with bV|bV
  .-- both below
   have n1:=Nd<|.inr ⟨U,U⟩;have n2:=Nf<|.inr ⟨U,U⟩;have s1:AK r (yy r i-1) (i-1)=1:=by unfold AK;rw[em,yO ⟨U,U⟩]
   have s2:AK r (yy r i-1) i = -1:=Ej U U;have e1:=sV<|.inr rfl;rw[eV,iV,s1,s2]at e1;have c1:=cV (H:=yy r i-1) U;rw[Ae U]at c1;have k1:=E2<|Jz (A:=AA r i) (X:=AA r<|i+1) (Y:=AA r<|i-1) U U;have k2:=E2<|Jz (A:=AA r i) (X:=AA r j) (Y:=AA r<|i-1) U U;have k3:=E2<|Jz (A:=AA r i) (X:=AA r j) (Y:=AA r<|i+1) U U;rw[t5]at k1;rw[t2]at k2;rw[t3]at k3;rw[t1]at n2;rw[s1,s2];have FU:=Np<|.inr ⟨bU,bV⟩;exact gC FU n1 n2 U k1 k2 k3<|IH (p:=((AA r i).2-(AA r j).2)) (q:=((AA r i).2-(AA r<|i+1).2)) (t:=((AA r i).2-(AA r<|i-1).2)) (b:=AG (AA r i) (AA r<|i+1)<|AA r j) (c:=AG (AA r<|i-1) (AA r i)<|AA r j) U U U (uP Hs)<|.inl FU
  .-- yF below,V above
   have n2:=Nf<|.inr ⟨U,U⟩;have s1:AK r (yy r i-1) (i-1)=1:=by unfold AK;rw[em,yO ⟨U,U⟩]
   have s2:AK r (yy r i-1) i=0:=by unfold AK;rw[yN U,yN U]
   have e1:=sU<|.inr rfl;rw[eU,iU,s1,s2]at e1;have c1:=cU (H:=yy r i-1) U;rw[Au U]at c1;have k2:=E2<|Jz (A:=AA r i) (X:=AA r j) (Y:=AA r<|i-1) U U;rw[t2]at k2;rw[t1]at n2;rw[s1,s2];exact gE n2 U k2<|IH (p:=((AA r i).2-(AA r j).2)) (q:=((AA r<|i+1).2-(AA r i).2)) (t:=((AA r i).2-(AA r<|i-1).2)) (b:=AG (AA r i) (AA r<|i+1)<|AA r j) (c:=-AG (AA r<|i-1) (AA r i) (AA r j)) U U U (uQ Hs)<|.inr<|.inr n2
  .-- yF above,V below
   have n1:=Nd<|.inr ⟨U,U⟩;have s1:AK r (yy r i-1) (i-1)=0:=by unfold AK;rw[em,yN U,yN U]
   have s2:AK r (yy r i-1) i = -1:=Ej U U;have e1:=sV<|.inr rfl;rw[eV,iV,s1,s2]at e1;have c1:=cV (H:=yy r i-1) U;rw[Ae U]at c1;have k3:=E2<|Jz (A:=AA r i) (X:=AA r j) (Y:=AA r<|i+1) U U;rw[t3]at k3;rw[s1,s2];exact gF n1 U k3<|IH (p:=((AA r i).2-(AA r j).2)) (q:=((AA r i).2-(AA r<|i+1).2)) (t:=((AA r<|i-1).2-(AA r i).2)) (b:=-AG (AA r i) (AA r<|i+1) (AA r j)) (c:=AG (AA r<|i-1) (AA r i)<|AA r j) U U U (uR Hs)<|.inr<|.inl<|Int.neg_ne_zero.mpr n1
  .-- both above
   have s1:AK r (yy r i-1) (i-1)=0:=by unfold AK;rw[em,yN U,yN U]
   have s2:AK r (yy r i-1) i=0:=by unfold AK;rw[yN U,yN U]
   have s3:AK r (yy r i) (i-1) = -1:=by unfold AK;rw[em,yN U,yO ⟨U,U⟩]
   have s4:AK r (yy r i) i=1:=Ek U U;have e1:=sV<|.inl rfl;rw[eV,iV,s3,s4]at e1;have c1:=cV (H:=yy r i) U;rw[Au U]at c1;have k1:=E2<|IS (A:=AA r i) (X:=AA r<|i+1) (Y:=AA r<|i-1) U U;rw[t4]at k1;rw[s1,s2];have FU:=Np<|.inl ⟨bU,bV⟩;exact gH FU yH k1<|IH (p:=((AA r i).2-(AA r j).2)) (q:=((AA r<|i+1).2-(AA r i).2)) (t:=((AA r<|i-1).2-(AA r i).2)) (b:=-AG (AA r i) (AA r<|i+1) (AA r j)) (c:=-AG (AA r<|i-1) (AA r i) (AA r j)) yH yH yH (uS Hs)<|.inl FU
 .-- Jg Ts gz up
  refine⟨yy r i,.inl ⟨yH,yH⟩,key _ _ (sQ<|.inl rfl) ?_⟩;rcases zC gU with bU|bU<;>rcases zC gV with bV|bV
  .-- both below
   have s1:AK r (yy r i) (i-1)=0:=by unfold AK;rw[em,yN U,yN U]
   have s2:AK r (yy r i) i=0:=by unfold AK;rw[yN U,yN U]
   have s3:AK r (yy r i-1) (i-1)=1:=by unfold AK;rw[em,yO ⟨U,U⟩]
   have s4:AK r (yy r i-1) i = -1:=Ej U U;have e1:=sV<|.inr rfl;rw[eV,iV,s3,s4]at e1;have c1:=cV (H:=yy r i-1) U;rw[Ae U]at c1;have k1:=E2<|Jz (A:=AA r i) (X:=AA r<|i+1) (Y:=AA r<|i-1) yH yH;rw[t5]at k1;rw[s1,s2];have FU:=Np<|.inr ⟨bU,bV⟩;exact gI FU yH k1<|IH (p:=((AA r j).2-(AA r i).2)) (q:=((AA r i).2-(AA r<|i+1).2)) (t:=((AA r i).2-(AA r<|i-1).2)) (b:=-AG (AA r i) (AA r<|i+1) (AA r j)) (c:=-AG (AA r<|i-1) (AA r i) (AA r j)) yH yH yH (uT Hs)<|.inl FU
  .-- yF below,V above
   have n1:=Nd<|.inl ⟨yH,yH⟩;have s1:AK r (yy r i) (i-1)=0:=by unfold AK;rw[em,yN yH,yN yH]
   have s2:AK r (yy r i) i=1:=Ek yH yH;have e1:=sV<|.inl rfl;rw[eV,iV,s1,s2]at e1;have c1:=cV (H:=yy r i) yH;rw[Au yH]at c1;have k3:=E2<|IS (A:=AA r i) (X:=AA r j) (Y:=AA r<|i+1) yH yH;rw[s1,s2];exact gJ n1 yH k3<|IH (p:=((AA r j).2-(AA r i).2)) (q:=((AA r<|i+1).2-(AA r i).2)) (t:=((AA r i).2-(AA r<|i-1).2)) (b:=-AG (AA r i) (AA r<|i+1) (AA r j)) (c:=AG (AA r<|i-1) (AA r i)<|AA r j) yH yH yH (uW Hs)<|.inr<|.inl<|Int.neg_ne_zero.mpr n1
  .-- yF above,V below
   have n2:=Nf<|.inl ⟨yH,yH⟩;have s1:AK r (yy r i) (i-1) = -1:=by unfold AK;rw[em,yN yH,yO ⟨yH,yH⟩]
   have s2:AK r (yy r i) i=0:=by unfold AK;rw[yN yH,yN yH]
   have e1:=sU<|.inl rfl;rw[eU,iU,s1,s2]at e1;have c1:=cU (H:=yy r i) yH;rw[Ae U]at c1;have k2:=E2<|IS (A:=AA r i) (X:=AA r j) (Y:=AA r<|i-1) yH yH;rw[t1]at k2;rw[t1]at n2;rw[s1,s2];exact gK n2 yH k2<|IH (p:=((AA r j).2-(AA r i).2)) (q:=((AA r i).2-(AA r<|i+1).2)) (t:=((AA r<|i-1).2-(AA r i).2)) (b:=AG (AA r i) (AA r<|i+1)<|AA r j) (c:=-AG (AA r<|i-1) (AA r i) (AA r j)) yH yH yH (uX Hs)<|.inr<|.inr n2
  .-- both above
   have n1:=Nd<|.inl ⟨yH,yH⟩;have n2:=Nf<|.inl ⟨yH,yH⟩;have s1:AK r (yy r i) (i-1) = -1:=by unfold AK;rw[em,yN yH,yO ⟨yH,yH⟩]
   have s2:AK r (yy r i) i=1:=Ek U U;have e1:=sV<|.inl rfl;rw[eV,iV,s1,s2]at e1;have c1:=cV (H:=yy r i) U;rw[Au U]at c1;have k1:=E2<|IS (A:=AA r i) (X:=AA r<|i+1) (Y:=AA r<|i-1) yH yH;have k2:=E2<|IS (A:=AA r i) (X:=AA r j) (Y:=AA r<|i-1) yH yH;have k3:=E2<|IS (A:=AA r i) (X:=AA r j) (Y:=AA r<|i+1) yH yH;rw[t4]at k1;rw[t1]at k2;rw[t1]at n2;rw[s1,s2];have FU:=Np<|.inl ⟨bU,bV⟩;exact gM FU n1 n2 yH k1 k2 k3<|IH (p:=((AA r j).2-(AA r i).2)) (q:=((AA r<|i+1).2-(AA r i).2)) (t:=((AA r<|i-1).2-(AA r i).2)) (b:=AG (AA r i) (AA r<|i+1)<|AA r j) (c:=AG (AA r<|i-1) (AA r i)<|AA r j) yH yH yH (uY Hs)<|.inl FU
theorem XR(k:Int):Keeps (lean k) 1 where
 one:=.inl rfl
 sd:=λa b c=>by rw[Mb,ABx]
 at_:=λa b p=>by
  unfold At lean;constructor
  .rintro⟨q,s,h1,h2,h3,e1,e2⟩;exact⟨q,s,h1,h2,h3,by dsimp only at *;grind,yG⟩
  .rintro⟨q,s,h1,h2,h3,e1,e2⟩;exact⟨q,s,h1,h2,h3,by dsimp only at *;grind,yG⟩
 inj:=λa b h=>by unfold lean at h;rw[AAz]at h;obtain⟨h1,h2⟩:=h;rw[h1]at h2;exact zd h1 U
theorem Y9{k:Int}{a b c d:Pt}(h:Bf (lean k a) (lean k b) (lean k c)<|lean k d):Bf a b c d:=by obtain⟨q,s,t,h1,h2,h3,h4,h5,e1,e2⟩:=h;unfold lean at e1 e2;dsimp only at e1 e2;exact⟨q,s,t,h1,h2,h3,h4,h5,e1,yG⟩
theorem nz{a1 a2 b1 b2 c1 c2:Int}(ha:¬ (a1=0/\a2=0))(hb:¬ (b1=0/\b2=0))(hc:¬ (c1=0/\c2=0)):∃k:Int,0<k/\a2+k*a1≠0/\b2+k*b1≠0/\c2+k*c1≠0:=by
 by_cases h1:a2+1*a1≠0/\b2+1*b1≠0/\c2+1*c1≠0
 .exact⟨1,U,h1⟩
 by_cases h2:a2+2*a1≠0/\b2+2*b1≠0/\c2+2*c1≠0
 .exact⟨2,U,h2⟩
 by_cases h3:a2+3*a1≠0/\b2+3*b1≠0/\c2+3*c1≠0
 .exact⟨3,U,h3⟩
 .exact⟨4,U,U,U,U⟩
theorem Pb{k:Int}{yF A V B:Pt}:DS (lean k yF) (lean k A) (lean k V) (lean k B)↔DS yF A V B:=by unfold DS;rw[Mb,Mb,Mb]
theorem Probe.dS{r:List Pt}(R:Rm r){i j:Int}(p:Probe r i j) : (W (r.map dbl) ((AA r i).1+(AA r j).1,(AA r i).2+(AA r j).2)=1/\DS (AA r<|i-1) (AA r i) (AA r<|i+1) (AA r j))\/(W (r.map dbl) ((AA r i).1+(AA r j).1,(AA r i).2+(AA r j).2)=0/\¬ DS (AA r<|i-1) (AA r i) (AA r<|i+1) (AA r j)):=by
 have S:=R.simple;have h3:=S.l3;have Ls:0<r.length:=U
 obtain⟨f0,f1,f2,f3⟩:=Qk U p.CG;rw[show -(i-j)=j-i by lia]at f2 f3;have Ir:AA r j≠AA r i:=S.distinct f2 f3;have hb:=R.Cd i;have Lg:AA r (i+1)≠AA r i:=λc=>hb (by rw[c];unfold AG;grind);have iP:=R.Jx i;have g7:AA r (i-1)≠AA r i:=λc=>iP (by rw[c];unfold AG;grind);have SJ:∀{X Y:Pt},X≠Y->¬ (X.1-Y.1=0/\X.2-Y.2=0):=λ{X Y} h c=>h<|zd U U;obtain⟨k,hk,k1,k2,k3⟩:=nz (SJ g7) (SJ Lg)<|SJ Ir;have R':Rm<|r.map<|lean k:=R.map<|XR k;have S':=R'.simple;have hc:∀m,AA (r.map<|lean k) m=lean k (AA r m):=λm=>J0 Ls k m;have hy:∀m,yy (r.map<|lean k) m=(AA r m).2+k*(AA r m).1:=λm=>by unfold yy;rw[hc];rfl
 have p':Probe (r.map<|lean k) i j:=by refine Sl S' R'.Cd (by rw[yP];exact p.CG) λm a b c d h=>?_;rw[yP]at a b c d;rw[hc,hc,hc,hc]at h;exact p.nt m a b c d<|Y9 h
 have hW:W (r.map dbl) ((AA r i).1+(AA r j).1,(AA r i).2+(AA r j).2)=W ((r.map<|lean k).map dbl) ((AA (r.map<|lean k) i).1+(AA (r.map<|lean k) j).1,(AA (r.map<|lean k) i).2+(AA (r.map<|lean k) j).2):=by
  have:=bJ (r:=r.map dbl) (by simpa using Ls) hk (p:=((AA r i).1+(AA r j).1,(AA r i).2+(AA r j).2)) (λm=>by rw[DD Ls,DD Ls];exact p.SH S m)
  rw[<-this,hc,hc]
  congr 1
  .rw[zM,zM];apply AAv;intro x _;unfold lean dbl;simp only[Function.comp];exact zd rfl yG
  .unfold lean;exact zd rfl yG
 have em:∀a b c d:Int,b-d+k*(a-c)≠0->b+k*a≠d+k*c:=λa b c d h z=>h yG;obtain⟨H,hH,Wy⟩:=Probe.Ux S' (λh=>R'.Ui h) p' (by rw[hy,hy];exact em _ _ _ _ k1) (by rw[hy,hy];exact em _ _ _ _ k2) (by rw[hy,hy];exact em _ _ _ _ k3);have hm:=p'.mid S';rw[p'.along S' (h:=(yy (r.map<|lean k) i+yy (r.map<|lean k) j) / 2) (h':=H) U hH]at hm;rw[hW,hm];rw[hc,hc,hc,hc,Pb]at Wy;rw[hc,hc];exact Wy
def pr(a b p:Pt):Bool:=((decide (a.2>p.2)) != (decide (b.2>p.2)))&&(if decide (b.2>p.2)=true then decide (AG a b p>0)else decide (AG a b p<0))
theorem oK(a b p:Pt):(pr a b p=true/\(fw a b p=1\/fw a b p = -1))\/(pr a b p=false/\fw a b p=0):=by unfold pr fw;by_cases h1:a.2>p.2<;>by_cases h2:b.2>p.2<;>by_cases h3:AG a b p>0<;>by_cases h4:AG a b p<0<;>simp[h1,h2,h3,h4]<;>lia
theorem X7(r:List Pt)(p:Pt):∀n:Nat,(((List.range n).filter λk:Nat=>pr (AA r k) (AA r<|(k:Int)+1) p).length:Int)%2=AU (λj=>fw (AA r j) (AA r<|j+1) p) n%2
 |0=>rfl
 |n+1=>by
  have ih:=X7 r p n;rw[AAm,List.filter_append,yx,AU];rcases oK (AA r (n:Int)) (AA r<|(n:Int)+1) p with⟨a,b⟩|⟨a,b⟩
  .have:([n].filter λk:Nat=>pr (AA r k) (AA r<|(k:Int)+1) p).length=1:=by simp[a]
   rw[this];lia
  .have:([n].filter λk:Nat=>pr (AA r k) (AA r<|(k:Int)+1) p).length=0:=by simp[a]
   rw[this,b];lia
theorem A2.lh{r:List Pt}(S:A2 r){p:Pt}(hp:∀j:Int,¬ At (AA r j) (AA r<|j+1) p):(((List.range r.length).filter λk:Nat=>pr (AA r k) (AA r<|(k:Int)+1) p).length:Int)%2=1↔W r p≠0:=by
 rw[X7];have:=S.bI (p:=p);unfold W at *
 lia
section
variable{r:List Pt}(S:A2 r)
include S
theorem A2.ZG(k:Int):AA r (k+1)≠AA r k:=λc=>by have:=(S.fork k 1 0 U U U U).1;lia
theorem A2.inj{m j:Int}(e:AA r m=AA r j):(m-j)%(r.length)=0:=by
 rcases S.cases m j with a|a|a|a
 .exact a
 .exact absurd ((S.next a).1.symm.trans e) (S.ZG j)
 .exact absurd ((S.next a).1.symm.trans e.symm) (S.ZG m)
 .exact absurd e (S.distinct a.1 a.2.1)
end
def F3(r:List Pt)(A B:Pt)(k:Int):Bool:=(!(decide (A=AA r k)||decide (A=AA r (k+1))))&&(!(decide (B=AA r k)||decide (B=AA r (k+1))))
def HD(r:List Pt)(A B:Pt):Bool:=(List.range r.length).any λk=>F3 r A B k&&A4 A B (AA r k) (AA r<|(k:Int)+1)
def JO(r:List Pt)(i j:Int):Bool:=(List.range r.length).any λk=>((!((k:Int)==i||(k:Int)==j))&&Ak (AA r i) (AA r j) (AA r k))||(((!((k:Int)==i||(k:Int)==j))&&(!(((k:Int)+1)%(r.length:Int)==i||((k:Int)+1)%(r.length:Int)==j)))&&BP (AA r i) (AA r j) (AA r k) (AA r<|((k:Int)+1)%(r.length:Int)))
theorem KY{n i k:Int}(hi:0<=i)(CP:i<n)(hk:0<=k)(Bc:k<n):(i-k)%n=0↔k=i:=by
 constructor
 .intro h;have e:(i-k)=n*((i-k) / n):=by have:=AAP (i-k) n;lia
  have h1:(i-k) / n=0:=by
   have a:(i-k) / n<1:=by apply Int.ediv_lt_of_lt_mul U;lia
   have b : -1<(i-k) / n:=by
    by_cases c : -1<(i-k) / n
    .exact c
    .exfalso;have h2:((i-k) / n+1)<=0:=U
     have h3:((i-k) / n+1)*n<=0:=AAD h2 U;lia
   lia
  rw[h1]at e;lia
 .rintro rfl;simp
theorem OW{n i k:Int}(hn:2<=n)(hi:0<=i)(CP:i<n):(i-k)%n=1↔(k+1)%n=i:=by
 constructor
 .intro h;have:(i-(k+1))%n=0:=by rw[show i-(k+1)=(i-k)-1 by lia,AAA,h];simp
  have e:(k+1)%n=i%n:=by rw[show k+1=i-(i-(k+1))by lia,AAA,‹(i-(k+1))%n=0›];simp
  rw[e,yM hi CP]
 .intro h;have:(i-k)%n=((k+1)%n-k)%n:=by rw[h]
  rw[this,AAA,zI _<|z9 n,<-AAA,show k+1-k=1 by lia,yM U U]
section
variable{r:List Pt}(S:A2 r)
include S
theorem V8{i j k:Int}:F3 r (AA r i) (AA r j) k=true↔((i-k)%(r.length)≠0/\(i-k)%(r.length)≠1)/\((j-k)%(r.length)≠0/\(j-k)%(r.length)≠1):=by
 have h3:=S.l3;have one:∀i:Int,(AA r i=AA r k\/AA r i=AA r (k+1))↔((i-k)%(r.length)=0\/(i-k)%(r.length)=1):=λi=>by
  constructor
  .rintro(h|h)
   .exact .inl<|S.inj h
   .right;have:=S.inj h;rw[show i-k=(i-(k+1))+1 by lia,AAH,this,yM (a:=1) U U,zr,yM U U]
  .rintro(h|h)
   .exact .inl<|Aw h
   .exact .inr (S.next h).1
 have oi:=one i;have oj:=one j;unfold F3;simp only[yR,zO,zL,AAh];constructor
 .rintro⟨⟨a,b⟩,c,d⟩;exact⟨⟨λz=>(oi.mpr<|.inl z).elim a b,λz=>(oi.mpr<|.inr z).elim a b⟩,λz=>(oj.mpr<|.inl z).elim c d,λz=>(oj.mpr<|.inr z).elim c d⟩
 .rintro⟨⟨a,b⟩,c,d⟩;exact⟨⟨λz=>(oi.mp<|.inl z).elim a b,λz=>(oi.mp<|.inr z).elim a b⟩,λz=>(oj.mp<|.inl z).elim c d,λz=>(oj.mp<|.inr z).elim c d⟩
theorem Yl(Cd:∀k:Int,AG (AA r k) (AA r<|k+1) (AA r<|k+1+1)≠0){i j:Int}(hf:Bt r.length<|i-j):HD r (AA r i) (AA r j)=false↔Probe r i j:=by
 have h3:=S.l3;have hn:(0:Int)<r.length:=U
 unfold HD;rw[AAT];constructor
 .intro h;refine Sl S Cd hf λk a b c d hs=>?_;have k0:=zE k (b:=(r.length)) U;have k1:=yz k hn;have hc:=yk k0;have hk:=h (k%(r.length)).toNat<|yS.mpr U;rw[hc]at hk;apply hk;have e1:=Et r k;have e2:AA r (k%(r.length)+1)=AA r (k+1):=by rw[<-Et r<|k%(r.length)+1,<-Et r<|k+1,AAH,zI _<|z9 _,<-AAH]
  rw[yR,e1,e2];refine⟨?_,SE hs⟩;have:=(V8 S).mpr ⟨⟨a,b⟩,c,d⟩;unfold F3 at this ⊢;rw[e1,e2];exact this
 .intro p k hk;rw[yR];rintro⟨h1,h2⟩;obtain⟨⟨a,b⟩,c,d⟩:=(V8 S).mp h1;exact p.nt k a b c d<|TC h2
theorem ON(Cd:∀k:Int,AG (AA r k) (AA r<|k+1) (AA r<|k+1+1)≠0){i j:Int}(hi:0<=i)(CP:i<r.length)(hj:0<=j)(CH:j<r.length)(hf:Bt r.length<|i-j):JO r i j=false↔Probe r i j:=by
 have h3:=S.l3;have hn:(0:Int)<r.length:=U
 unfold JO;rw[AAT];constructor
 .intro h;refine Sl S Cd hf λk a b c d hs=>?_;have k0:=zE k (b:=(r.length)) U;have k1:=yz k hn;have hc:=yk k0;have hk:=h (k%(r.length)).toNat<|yS.mpr U;rw[hc]at hk;apply hk;have ec:∀x:Int,(x-k%(r.length))%(r.length)=(x-k)%(r.length):=λx=>by rw[AAA,zI _<|z9 _,<-AAA]
  have e1:=Et r k;have e2:AA r ((k%(r.length)+1)%(r.length))=AA r (k+1):=by rw[Et,<-Et r<|k%(r.length)+1,<-Et r<|k+1,AAH,zI _<|z9 _,<-AAH]
  rw[<-ec]at a b c d;have a':=λz=>a<|(KY hi CP k0 k1).mpr z;have c':=λz=>c<|(KY hj CH k0 k1).mpr z;have b':=λz=>b<|(OW U hi CP).mpr z;have d':=λz=>d<|(OW U hj CH).mpr z;rw[zX];right;rw[e1,e2,OS,SE hs,yo.mpr a',yo.mpr b',yo.mpr c',yo.mpr d']
  rfl
 .intro p k hk;have Bc:=yS.mp hk;intro h;rw[zX]at h;rcases h with h|h
  .simp only[yR,zO,zL,yo]at h;obtain⟨⟨a,b⟩,c⟩:=h;exact p.Zu S (λz=>a<|(KY hi CP U U).mp z) (λz=>b<|(KY hj CH U U).mp z)<|Od.mp<|E9.mp c
  .simp only[yR,zO,zL,yo]at h;obtain⟨⟨⟨a,b⟩,c,d⟩,e⟩:=h;rw[OS,Et]at e;exact p.nt k (λz=>a<|(KY hi CP U U).mp z) (λz=>c<|(OW U hi CP).mp z) (λz=>b<|(KY hj CH U U).mp z) (λz=>d<|(OW U hj CH).mp z)<|TC e
theorem A2.dbl:A2<|r.map dbl:=by
 have h3:=S.l3;have hn:0<r.length:=U
 refine⟨by rw[yP];exact h3,λk=>?_,λk=>?_,λi j h hs=>?_⟩
 .rw[DD hn,DD hn,DD hn];intro s t hs ht e1 e2;unfold AN.dbl at e1 e2;exact S.fork k s t hs ht yG yG
 .rw[DD hn,DD hn,DD hn];have:=S.hh k;unfold AN.dbl;lia
 .rw[yP]at h;rw[DD hn,DD hn,DD hn,DD hn]at hs;refine S.apart i j h ?_;obtain⟨q,s,t,a1,a2,a3,a4,a5,e1,e2⟩:=hs;unfold AN.dbl at e1 e2;exact⟨q,s,t,a1,a2,a3,a4,a5,yG,yG⟩
end
def JG(w:List Pt)(p:Pt):Bool:=!((List.range w.length).any λk=>Ak (AA w k) (AA w<|(k:Int)+1) p)&&((((List.range w.length).filter λk:Nat=>pr (AA w k) (AA w<|(k:Int)+1) p).length:Int)%2==1)
def LL(yF A V B:Pt):Bool:=if AG yF A V>0 then decide (AG A V B>0)&&decide (AG yF A B>0)else decide (AG A V B>0)||decide (AG yF A B>0)
theorem QY{yF A V B:Pt}:LL yF A V B=true↔DS yF A V B:=by
 unfold LL DS;by_cases h:AG yF A V>0
 .simp[h]
 .simp[h]
theorem kx{r:List Pt}(R:Rm r){i j:Int}(hi:0<=i)(CP:i<r.length)(hj:0<=j)(CH:j<r.length)(hf:Bt r.length<|i-j) : (!HD r (AA r i) (AA r j)&&JG (r.map dbl) ((AA r i).1+(AA r j).1,(AA r i).2+(AA r j).2))=(!JO r i j&&LL (AA r<|i-1) (AA r i) (AA r<|i+1) (AA r j)):=by
 have S:=R.simple;have h3:=S.l3;have hn:0<r.length:=U
 by_cases p:Probe r i j
 .rw[(Yl S R.Cd hf).mpr p,(ON S R.Cd hi CP hj CH hf).mpr p,ABZ,AAE,AAE];have D:=S.dbl;have off:∀k:Int,¬ At (AA (r.map dbl) k) (AA (r.map dbl)<|k+1) ((AA r i).1+(AA r j).1,(AA r i).2+(AA r j).2):=λk=>by rw[DD hn,DD hn];exact p.SH S k
  have ho:=D.lh off;have e:JG (r.map dbl) ((AA r i).1+(AA r j).1,(AA r i).2+(AA r j).2)=true↔W (r.map dbl) ((AA r i).1+(AA r j).1,(AA r i).2+(AA r j).2)≠0:=by
   unfold JG;rw[yR,AAS,ho];constructor
   .exact λh=>h.2
   .refine λh=>⟨?_,h⟩;rw[zO,AAT];intro k _ hk;exact off k<|Od.mp<|E9.mp hk
  rw[AAe,e,QY];rcases p.dS R with⟨a,b⟩|⟨a,b⟩
  .rw[a];simp[b]
  .rw[a];simp[b]
 .have a:HD r (AA r i) (AA r j)=true:=by
   cases h:HD r (AA r i)<|AA r j
   .exact absurd ((Yl S R.Cd hf).mp h) p
   .rfl
  have b:JO r i j=true:=by
   cases h:JO r i j
   .exact absurd ((ON S R.Cd hi CP hj CH hf).mp h) p
   .rfl
  rw[a,b];rfl
def sub(r:List Pt)(s:Int)(l:Nat):List Pt:=(List.range<|l+1).map λk:Nat=>AA r<|s+(k:Int)
theorem sub_len(r:List Pt)(s:Int)(l:Nat):(sub r s l).length=l+1:=by unfold sub;rw[yP,zA]
theorem ES(r:List Pt)(s:Int)(l:Nat):((sub r s l).length:Int)=l+1:=by rw[sub_len];lia
theorem BC(r:List Pt)(s:Int)(l:Nat){k:Int}(h0:0<=k)(h1:k<=l):AA (sub r s l) k=AA r (s+k):=by have hk:=yk h0;unfold AA;rw[ES,yM h0 U];rw[zY];unfold sub;rw[zj,ABu U];simp only[zf,Option.getD_some];unfold AA;rw[hk]
theorem GQ(r:List Pt)(s:Int)(l:Nat):AA (sub r s l) (l+1)=AA r s:=by have:=Aw (r:=sub r s l) (by rw[ES,AAr,ABK]);rw[this,BC r s l U U,zG]
theorem Jc(r:List Pt)(s:Int)(l:Nat)(k:Int):∃m:Int,0<=m/\m<=l/\(k-m)%((sub r s l).length)=0:=by
 refine⟨k%((l)+1),zE _ U,by have:=yz k (U:(0:Int)<(l)+1);lia,?_⟩;rw[ES,AAA,zI _<|z9 _,AAM]
 rfl
theorem IW{r:List Pt}(i:Int):AA r (i+r.length)=AA r i:=ED r i
def tm(H:Int)(A B a b:Pt):Int:=ind (Lt A B a b)*(if a.2<=H/\H<b.2 then 1 else if b.2<=H/\H<a.2 then -1 else 0)
theorem uO(H:Int)(A B a b:Pt):tm H A B b a = - tm H A B a b:=by
 unfold tm;have e:ind (Lt A B b a)=ind (Lt A B a b):=by
  by_cases c:Lt A B a b
  .rw[Au c,Au<|E6 c]
  .rw[Ae c,Ae λz=>c<|E6 z]
 rw[<-ABh]
 congr 1
 (repeat' split)<;>lia
theorem bE(r:List Pt)(H:Int)(A B:Pt):RQ r H A B=AU (λk=>tm H A B (AA r k)<|AA r<|k+1) r.length:=rfl
theorem UJ(r:List Pt)(H:Int)(A B:Pt):RQ r H B A=RQ r H A B:=by
 refine Bs λk _=>?_;by_cases c:Lt A B (AA r<|k)<|AA r<|(k)+1
 .rw[Au c,Au<|Eh c]
 .rw[Ae c,Ae λz=>c<|Eh z]
theorem ZL(f:Int->Int)(m:Nat):∀k:Nat,AU f (m+k)=AU f m+AU (λj=>f<|m+j) k
 |0=>by simp[AU]
 |k+1=>by show AU f (m+k)+f ((m+k))=AU f m+(AU (λj=>f<|m+j) k+f (m+(k)));rw[ZL f m k];lia
theorem UK(r:List Pt)(s:Int)(l:Nat)(H:Int)(A B:Pt):RQ (sub r s l) H A B=AU (λk=>tm H A B (AA r<|s+k)<|AA r<|s+k+1) l+tm H A B (AA r<|s+l) (AA r s):=by
 rw[bE,sub_len];show AU _ l+tm H A B (AA (sub r s l) l) (AA (sub r s l)<|(l)+1)=_;rw[GQ,BC r s l U U]
 congr 1
 refine Bs λk hk=>?_;rw[BC r s l U U,BC r s l U U,Int.add_assoc]
theorem UI{r:List Pt}{s:Int}{l:Nat}(hl:l<=r.length)(h0:0<r.length)(H:Int)(A B:Pt):RQ r H A B=RQ (sub r s l) H A B+RQ (sub r (s+l)<|r.length-l) H A B:=by
 rw[UK,UK];have e1:s+(l)+((r.length-l:Nat))=s+r.length:=U
 rw[e1,IW,uO H A B (AA r<|s+(l))<|AA r s];have e2:RQ r H A B=AU (λk=>tm H A B (AA r<|s+k)<|AA r<|s+k+1) r.length:=by exact(O7 (f:=λk=>tm H A B (AA r k)<|AA r<|k+1) h0 (λa b h=>by rw[Aw h,Aw<|Br h]) s).symm
 rw[e2];have e3:=ZL (λk=>tm H A B (AA r<|s+k)<|AA r<|s+k+1) l<|r.length-l;rw[show l+(r.length-l)=r.length by lia]at e3;rw[e3];have e4:AU (λj=>tm H A B (AA r<|s+((l)+j))<|AA r<|s+((l)+j)+1) (r.length-l)=AU (λk=>tm H A B (AA r<|s+(l)+k)<|AA r<|s+(l)+k+1) (r.length-l):=by refine Bs λk _=>?_;rw[<-Int.add_assoc s]
 rw[e4];lia
def Line(r:List Pt)(i j:Int):Prop:=Probe r i j/\DS (AA r<|i-1) (AA r i) (AA r<|i+1) (AA r j)
structure Sm(r:List Pt):Prop where
 s:A2 r
 c:∀{h j:Int},AK r h j≠0->cc r h j=1
 g:∀i j:Int,yy r i=yy r j->(i-j)%(r.length:Int)=0
theorem Hz{n d:Int}(h0:0<d)(h1:d<n):d%n≠0:=by rw[yM U h1];lia
section
variable{r:List Pt}(S:Sm r)
include S
theorem Sm.gn{i j:Int}(h:(i-j)%(r.length)≠0):yy r i≠yy r j:=λc=>h<|S.g i j c
theorem Sm.g1(i:Int):yy r (i+1)≠yy r i:=by have:=S.s.l3;exact S.gn<|by exact Hz U U
theorem Sm.g0(i:Int):yy r (i-1)≠yy r i:=λc=>S.g1 (i-1) (by rw[show i-1+1=i by lia];exact c.symm)
theorem Sm.rq{i j:Int}(p:Probe r i j){H:Int}(h:(yy r i<=H/\H<yy r j)\/(yy r j<=H/\H<yy r i)) : (RQ r H (AA r i) (AA r j)=1/\DS (AA r<|i-1) (AA r i) (AA r<|i+1) (AA r j))\/(RQ r H (AA r i) (AA r j)=0/\¬ DS (AA r<|i-1) (AA r i) (AA r<|i+1) (AA r j)):=by obtain⟨H',h',z⟩:=Probe.Ux S.s (λh=>S.c h) p (S.g0 i) (S.g1 i) λc=>p.CG.1<|S.g i j c.symm;rw[p.along S.s h h'];exact z
theorem Sm.lvl{i j:Int}(h:yy r i≠yy r j):∃H,(yy r i<=H/\H<yy r j)\/(yy r j<=H/\H<yy r i):=by
 rcases zC h with h|h
 .exact⟨yy r i,.inl ⟨U,h⟩⟩
 .exact⟨yy r j,.inr ⟨U,h⟩⟩
theorem Line.rq{i j:Int}(l:Line r i j){H:Int}(h:(yy r i<=H/\H<yy r j)\/(yy r j<=H/\H<yy r i)):RQ r H (AA r i) (AA r j)=1:=by
 rcases S.rq l.1 h with⟨a,_⟩|⟨_,b⟩
 .exact a
 .exact absurd l.2 b
theorem Line.symm{i j:Int}(l:Line r i j):Line r j i:=by
 have p':=l.1.symm S.s;refine⟨p',?_⟩;obtain⟨H,hH⟩:=S.lvl <|S.gn l.1.CG.1;have e:=Line.rq S l hH;rcases S.rq p' (H:=H) U with⟨_,b⟩|⟨a,_⟩
 .exact b
 .rw[UJ,e]at a;cases a
end
theorem Probe.congr{r:List Pt}{i j i' j':Int}(hi:(i-i')%(r.length)=0)(hj:(j-j')%(r.length)=0)(p:Probe r i j):Probe r i' j':=by
 have ei:∀k:Int,(i'-k)%(r.length)=(i-k)%(r.length):=λk=>by rw[show i-k=(i-i')+(i'-k)by lia,AAH,hi,zr,zI _<|z9 _]
 have ej:∀k:Int,(j'-k)%(r.length)=(j-k)%(r.length):=λk=>by rw[show j-k=(j-j')+(j'-k)by lia,AAH,hj,zr,zI _<|z9 _]
 have ed:(i'-j')%(r.length)=(i-j)%(r.length):=by rw[ei,show i-j'=(i-j)+(j-j')by lia,AAH<|i-j,hj,zG,zI _<|z9 _]
 have c1:=Aw hi;have c2:=Aw<|Br hi;have c3:=Aw (by rw[show i-1-(i'-1)=i-i' by lia];exact hi);have d1:=Aw hj;have d2:=Aw<|Br hj;have d3:=Aw (by rw[show j-1-(j'-1)=j-j' by lia];exact hj);refine⟨?_,c1 ▸ c2 ▸ d1 ▸ p.f1,c1 ▸ c3 ▸ d1 ▸ p.f2,d1 ▸ d2 ▸ c1 ▸ p.f3,d1 ▸ d3 ▸ c1 ▸ p.f4,λk a b c d=>?_⟩
 .have:=p.CG;unfold Bt at this ⊢;rw[ed];exact this
 .rw[ei]at a b;rw[ej]at c d;rw[<-c1,<-d1];exact p.nt k a b c d
theorem Line.congr{r:List Pt}{i j i' j':Int}(hi:(i-i')%(r.length)=0)(hj:(j-j')%(r.length)=0)(l:Line r i j):Line r i' j':=by have c1:=Aw hi;have c2:=Aw<|Br hi;have c3:=Aw (by rw[show i-1-(i'-1)=i-i' by lia];exact hi);have d1:=Aw hj;refine⟨l.1.congr hi hj,?_⟩;rw[<-c1,<-c2,<-c3,<-d1];exact l.2
theorem CS{n d:Int}(h0:0<d)(h1:d<n):(-d)%n=n-d:=by rw[show -d=(n-d)+n*(-1)by lia,zi,yM U U]
theorem LX{n d:Int}(h:(2<=d/\d<=n-2)\/(2<=-d/\-d<=n-2)):Bt n d:=by
 unfold Bt;rcases h with h|h
 .rw[yM U yH];lia
 .have:=CS (n:=n) (d:=-d) yH yH;rw[ABy]at this;rw[this];lia
theorem NS{n d:Int}(hn:2<=n)(h:Bt n d)(h1 : -n<d)(h2:d<n):(2<=d/\d<=n-2)\/(2<=-d/\-d<=n-2):=by
 unfold Bt at h;by_cases c:0<=d
 .rw[yM c h2]at h;lia
 .have:=CS (n:=n) (d:=-d) U U;rw[ABy]at this;rw[this]at h;lia
theorem Xr{n d:Int}(h:d%n=0)(h1 : -n<d)(h2:d<n):d=0:=by
 by_cases c:0<=d
 .rw[yM c h2]at h;exact h
 .have:=CS (n:=n) (d:=-d) U U;rw[ABy]at this;lia
theorem MM{n a b c:Int}(h1:(a-b)%n=0)(h2:(b-c)%n=0):(a-c)%n=0:=by rw[show a-c=(a-b)+(b-c)by lia,AAH,h1,h2];rfl
theorem f9{n a b c d:Int}(h1:(a-b)%n=0)(h2:(c-d)%n=0)(h:Bt n<|a-c):Bt n<|b-d:=by
 have e:=by
  have h3:(a-c-(b-d))%n=0:=by rw[show a-c-(b-d)=(a-b)-(c-d)by lia,AAA,h1,h2];rfl
  exact(AAi.mpr h3).symm
 unfold Bt at h ⊢;rw[e];exact h
section
variable{r:List Pt}(S:Sm r){s:Int}{l:Nat}(l2:2<=l)(ln:l+2<=r.length)
include S l2 ln
theorem ZK(i j:Int)(h:yy (sub r s l) i=yy (sub r s l) j):(i-j)%((sub r s l).length)=0:=by
 obtain⟨a,a0,a1,ea⟩:=Jc r s l i;obtain⟨b,b0,b1,eb⟩:=Jc r s l j;rw[Cu ea,Cu eb]at h;unfold yy at h;rw[BC r s l a0 a1,BC r s l b0 b1]at h;have:=S.g (s+a) (s+b) h;have Dh:=Xr this U U;have:a=b:=U
 subst this;exact MM ea<|B8 eb
theorem TN(L:Probe r s<|s+l):A2<|sub r s l:=by
 have hl:=ES r s l;have a2:∀a:Int,s+(a+1)=s+a+1:=λa=>U
 refine⟨U,λk=>?_,λk h=>?_,λi j hf hs=>?_⟩
 .obtain⟨a,a0,a1,ea⟩:=Jc r s l k;rw[Aw ea,Aw<|Br ea,Aw<|Br<|Br ea];by_cases c1:a+2<=l
  .rw[BC r s l a0 a1,BC r s l U U,BC r s l U U,a2,a2,a2];exact S.s.fork<|s+a
  by_cases c2:a+1=l
  .rw[BC r s l a0 a1,c2,GQ,BC r s l U U];have:=L.f4;rw[show s+(l)-1=s+a by lia]at this;exact this
  .have c3:a=l:=U
   subst c3;rw[GQ,BC r s l a0 a1];have e:AA (sub r s l) ((l)+1+1)=AA r (s+1):=by rw[Aw (by rw[hl,show(l:Int)+1+1-1=(l)+1 by lia,ABK]),BC r s l U U]
   rw[e];exact L.f1.symm
 .have:=ZK S l2 ln k (k+1) h;rw[hl,show k-(k+1) = -1 by lia,CS U U]at this;lia
 .obtain⟨a,a0,a1,ea⟩:=Jc r s l i;obtain⟨b,b0,b1,eb⟩:=Jc r s l j;have hf:=f9 ea eb hf;rw[hl]at hf;have hd:=NS U hf U U;rw[Aw ea,Aw<|Br ea,Aw eb,Aw<|Br eb]at hs;by_cases ca:a=l
  .rw[ca,GQ,BC r s l U U,BC r s l b0 b1,BC r s l U U,a2]at hs;refine L.nt (s+b) ?_ ?_ ?_ ?_ (O3 hs)
   .rw[show s-(s+b) = -b by lia,CS U U];lia
   .rw[show s-(s+b) = -b by lia,CS U U];lia
   .rw[show s+(l)-(s+b)=l-b by lia,yM U U];lia
   .rw[show s+(l)-(s+b)=l-b by lia,yM U U];lia
  by_cases cb:b=l
  .rw[cb,GQ,BC r s l a0 a1,BC r s l U U,BC r s l U U,a2]at hs;refine L.nt (s+a) ?_ ?_ ?_ ?_ (O3 hs.symm)
   .rw[show s-(s+a) = -a by lia,CS U U];lia
   .rw[show s-(s+a) = -a by lia,CS U U];lia
   .rw[show s+(l)-(s+a)=l-a by lia,yM U U];lia
   .rw[show s+(l)-(s+a)=l-a by lia,yM U U];lia
  .rw[BC r s l a0 a1,BC r s l U U,BC r s l b0 b1,BC r s l U U,a2,a2]at hs;exact S.s.apart (s+a) (s+b) (LX U) hs
theorem YH(L:Line r s<|s+l):Line r (s+l)<|s+l+(r.length-l:Nat):=by refine(Line.symm S L).congr (by rw[AAM];rfl) ?_;rw[show s-(s+(l)+((r.length-l:Nat)))=r.length*(-1)by lia,AA3]
theorem ZJ(L:Line r s<|s+l):(∀{h j:Int},AK (sub r s l) h j≠0->cc (sub r s l) h j=1)/\(∀{h j:Int},AK (sub r (s+l)<|r.length-l) h j≠0->cc (sub r (s+l)<|r.length-l) h j=1):=by
 have L':=YH S l2 ln L;have S1:=TN S l2 ln L.1;have S2:=TN S U U L'.1;have en:s+(l)+((r.length-l:Nat))=s+r.length:=U
 obtain⟨H,hH⟩:=S.lvl <|S.gn L.1.CG.1;have y1:yy (sub r s l) l=yy r (s+l):=by unfold yy;rw[BC r s l U U]
 have y2:yy (sub r s l) ((l)+1)=yy r s:=by unfold yy;rw[GQ]
 have y3:yy (sub r (s+l)<|r.length-l) (r.length-l:Nat)=yy r s:=by unfold yy;rw[BC r (s+l) (r.length-l) U U,en,IW]
 have y4:yy (sub r (s+l)<|r.length-l) ((r.length-l:Nat)+1)=yy r (s+l):=by unfold yy;rw[GQ]
 have g1:AK (sub r s l) H l≠0:=Ja (by rw[y1,y2];lia);have g2:=Ja (by rw[y3,y4];omega);have c1:=S1.LK g1;have c2:=S2.LK g2;have r1:Rr (sub r s l) H l=RQ (sub r s l) H (AA r s) (AA r<|s+l):=by rw[<-UJ];show RQ (sub r s l) H (AA (sub r s l) l) (AA (sub r s l)<|(l)+1)=_;rw[GQ,BC r s l U U]
 have r2:Rr (sub r (s+l)<|r.length-l) H (r.length-l:Nat)=RQ (sub r (s+l)<|r.length-l) H (AA r s) (AA r<|s+l):=by show RQ (sub r (s+l)<|r.length-l) H (AA (sub r (s+l)<|r.length-l) (r.length-l:Nat)) (AA (sub r (s+l)<|r.length-l)<|(r.length-l:Nat)+1)=_;rw[GQ,BC r (s+l) (r.length-l) U U,en,IW]
 have e:=UI (r:=r) (s:=s) (l:=l) U U H (AA r s)<|AA r<|s+l;rw[Line.rq S L hH]at e;have d1:cc (sub r s l) H l=RQ (sub r s l) H (AA r s) (AA r<|s+l)+ind (yy r (s+l)<yy r s):=by unfold cc;rw[r1,y1,y2]
 have d2:cc (sub r (s+l)<|r.length-l) H (r.length-l:Nat)=RQ (sub r (s+l)<|r.length-l) H (AA r s) (AA r<|s+l)+ind (yy r s<yy r (s+l)):=by unfold cc;rw[r2,y3,y4]
 have d3:ind (yy r (s+l)<yy r s)+ind (yy r s<yy r (s+l))=1:=by
  by_cases x:yy r s<yy r (s+l)
  .rw[Au x,Ae U];rfl
  .rw[Ae x,Au U];rfl
 have k1:cc (sub r s l) H l=1:=U
 have k2:cc (sub r (s+l)<|r.length-l) H (r.length-l:Nat)=1:=U
 exact⟨λ{h j} hj=>by rw[S1.NF hj g1];exact k1,λ{h j} hj=>by rw[S2.NF hj g2];exact k2⟩
theorem Mg(L:Line r s<|s+l):Sm<|sub r s l:=⟨TN S l2 ln L.1,(ZJ S l2 ln L).1,ZK S l2 ln⟩
end
theorem n0{Q Y a b c d:Int}(hQ:0<Q)(Dh:(Q*a<Y/\Y<Q*b)\/(Q*b<Y/\Y<Q*a))(BK:c≠d)(hr:(Q*c<=Y/\Y<=Q*d)\/(Q*d<=Y/\Y<=Q*c)) : ∃H,((a<=H/\H<b)\/(b<=H/\H<a))/\((c<=H/\H<d)\/(d<=H/\H<c))/\Q*H<=Y/\Y<=Q*(H+1):=by
 have f1:Q*(Y / Q)<=Y:=Int.mul_ediv_self_le U;have f2:Y<Q*(Y / Q+1):=by have:=Int.lt_mul_ediv_self_add (x:=Y) hQ;lia
 generalize Y / Q=f at f1 f2;have GK:∀{u v:Int},Q*u<Q*v->u<v:=λh=>ABQ h U;have OO:∀{u v:Int},Q*u<=Q*v->u<=v:=λh=>zm h hQ;by_cases hc:(c<=f/\f<d)\/(d<=f/\f<c)
 .refine⟨f,?_,hc,f1,U⟩;rcases Dh with⟨u,v⟩|⟨u,v⟩
  .have:=GK<|ACo u f2;have:=GK<|ABW f1 v;lia
  .have:=GK<|ACo u f2;have:=GK<|ABW f1 v;lia
 .have hY:Y=Q*f/\((c<d/\d=f)\/(d<c/\c=f)):=by
   rcases hr with⟨u,v⟩|⟨u,v⟩
   .have h1:=GK<|ABW u f2;have h2:=OO<|ACG u v;have h3:=OO<|ACG f1 v;have:d=f:=U
    subst this;exact⟨U,U⟩
   .have h1:=GK<|ABW u f2;have h2:=OO<|ACG u v;have h3:=OO<|ACG f1 v;have:c=f:=U
    subst this;exact⟨U,U⟩
  obtain⟨e,g⟩:=hY;subst e;refine⟨f-1,?_,U,U,U⟩;rcases Dh with⟨u,v⟩|⟨u,v⟩
  .have:=GK u;have:=GK v;lia
  .have:=GK u;have:=GK v;lia
def Jt(Q X Y:Int)(A B:Pt):Prop:=∃s:Int,0<=s/\s<=Q/\Q*A.1+s*(B.1-A.1)=X/\Q*A.2+s*(B.2-A.2)=Y
theorem Uo{Q X Y H:Int}(hQ:0<Q){E F:Pt}(hs:E.2<=H/\H<F.2)(h1:Q*H<=Y)(h2:Y<=Q*(H+1)) : (∀A B,Jt Q X Y A B->Lt A B E F)\/(∀A B,Jt Q X Y A B->Lt E F A B)\/∃d k:Int,0<d/\0<=k/\k<=Q*d/\Q*d*E.1+k*(F.1-E.1)=d*X/\Q*d*E.2+k*(F.2-E.2)=d*Y:=by
 have a1:=yi hs.1<|yQ hQ;have a2:=yi (U:H+1<=F.2)<|yQ hQ;have hd:0<F.2-E.2:=U
 have Nl:=yX hQ hd;have k1:Y-Q*E.2<=Q*(F.2-E.2):=U
 rcases zS (Q*(F.2-E.2)*E.1+(Y-Q*E.2)*(F.1-E.1)) ((F.2-E.2)*X)with c|c|c
 .refine .inr<|.inl λA B h=>?_;obtain⟨s,s0,s1,e1,e2⟩:=h;have m1:=yT s0<|yQ hd;have m2:=y8 s1<|yQ hd;refine⟨Q*(F.2-E.2),Y-Q*E.2,s*(F.2-E.2),Nl,U,k1,m1,m2,?_,?_⟩
  .rw[<-e2];grind
  .have:Q*(F.2-E.2)*A.1+s*(F.2-E.2)*(B.1-A.1)=(F.2-E.2)*X:=by rw[<-e1];grind
   rw[this];exact c
 .exact .inr<|.inr ⟨F.2-E.2,Y-Q*E.2,hd,U,k1,c,yG⟩
 .refine .inl λA B h=>?_;obtain⟨s,s0,s1,e1,e2⟩:=h;have m1:=yT s0<|yQ hd;have m2:=y8 s1<|yQ hd;refine⟨Q*(F.2-E.2),s*(F.2-E.2),Y-Q*E.2,Nl,m1,m2,U,k1,?_,?_⟩
  .rw[<-e2];grind
  .have:Q*(F.2-E.2)*A.1+s*(F.2-E.2)*(B.1-A.1)=(F.2-E.2)*X:=by rw[<-e1];grind
   rw[this];exact c
theorem dC{Q X Y H:Int}(hQ:0<Q){E F:Pt}(hs:(E.2<=H/\H<F.2)\/(F.2<=H/\H<E.2))(h1:Q*H<=Y)(h2:Y<=Q*(H+1)) : (∀A B,Jt Q X Y A B->Lt A B E F)\/(∀A B,Jt Q X Y A B->Lt E F A B)\/∃d k:Int,0<d/\0<=k/\k<=Q*d/\Q*d*E.1+k*(F.1-E.1)=d*X/\Q*d*E.2+k*(F.2-E.2)=d*Y:=by
 rcases hs with hs|hs
 .exact Uo hQ hs h1 h2
 .rcases Uo hQ hs h1 h2 with h|h|⟨d,k,a,b,c,e1,e2⟩
  .exact .inl λA B z=>E6<|h A B z
  .exact .inr<|.inl λA B z=>Eh<|h A B z
  .exact .inr<|.inr ⟨d,Q*d-k,a,U,U,yG,yG⟩
section
variable{r:List Pt}(S:Sm r){s:Int}{l:Nat}(l2:2<=l)(ln:l+2<=r.length)(L:Line r s (s+l))
include S l2 ln L
theorem mq{k:Int}(k0:0<=k)(k1:k<r.length-l){H:Int}(hH:(yy r (s+l+k)<=H/\H<yy r (s+l+k+1))\/(yy r (s+l+k+1)<=H/\H<yy r (s+l+k))) : RQ (sub r s l) H (AA r<|s+l+k) (AA r<|s+l+k+1)=0:=by
 have e:=UI (r:=r) (s:=s) (l:=l) U U H (AA r<|s+l+k)<|AA r<|s+l+k+1;have x1:RQ r H (AA r<|s+l+k) (AA r<|s+l+k+1)+ind (yy r (s+l+k)<yy r (s+l+k+1))=1:=S.c <|Ja hH;have e1:=BC r (s+l) (r.length-l) k0 U;have e2:AA (sub r (s+l)<|r.length-l) (k+1)=AA r (s+l+k+1):=by rw[BC r (s+l) (r.length-l) U U];lia
 have x2:RQ (sub r (s+l)<|r.length-l) H (AA r<|s+l+k) (AA r<|s+l+k+1)+ind (yy r (s+l+k)<yy r (s+l+k+1))=1:=by
  have:=(ZJ S l2 ln L).2 (Ja (by unfold yy;rw[e1,e2];exact hH));unfold cc at this;unfold yy at this ⊢;rw[e1,e2]at this;have er:Rr (sub r (s+l)<|r.length-l) H k=RQ (sub r (s+l)<|r.length-l) H (AA r<|s+l+k) (AA r<|s+l+k+1):=by show RQ _ _ _ _=_;rw[e1,e2]
  rw[er]at this;exact this
 lia
theorem Xz{a b:Int}(p:Line (sub r s l) a b){k:Int}(k0:0<=k)(k1:k<r.length-l){Q t X Y:Int}(hQ:0<Q)(t0:0<t)(t1:t<Q) (e1:Q*(AA (sub r s l) a).1+t*((AA (sub r s l) b).1-(AA (sub r s l) a).1)=X) (e2:Q*(AA (sub r s l) a).2+t*((AA (sub r s l) b).2-(AA (sub r s l) a).2)=Y) (hC:Jt Q X Y (AA r<|s+l+k)<|AA r<|s+l+k+1):False:=by
 have Sq:=Mg S l2 ln L;have Dh:=Sq.gn p.1.CG.1;have BK:yy r (s+l+k)≠yy r (s+l+k+1):=(S.g1 _).symm;have hA:Jt Q X Y (AA (sub r s l) a)<|AA (sub r s l) b:=⟨t,U,U,e1,e2⟩;have ra:(Q*yy (sub r s l) a<Y/\Y<Q*yy (sub r s l) b)\/(Q*yy (sub r s l) b<Y/\Y<Q*yy (sub r s l) a):=by
  unfold yy at Dh ⊢;rcases zC Dh with h|h
  .left;have m1:=yX t0<|ABM.mpr h;have m2:=yX (ABM.mpr t1)<|ABM.mpr h;exact⟨U,U⟩
  .right;have m1:=yX t0<|ABM.mpr h;have m2:=yX (ABM.mpr t1)<|ABM.mpr h;exact⟨U,U⟩
 have rc:(Q*yy r (s+l+k)<=Y/\Y<=Q*yy r (s+l+k+1))\/(Q*yy r (s+l+k+1)<=Y/\Y<=Q*yy r (s+l+k)):=by
  obtain⟨u,u0,u1,_,f2⟩:=hC;unfold yy;rcases AAG (AA r<|s+l+k).2 (AA r<|s+l+k+1).2 with h|h
  .left;have m1:=yT u0<|ABD.mpr h;have m2:=yT (ABD.mpr u1)<|ABD.mpr h;exact⟨U,U⟩
  .right;have m1:=yT u0<|ABD.mpr h;have m2:=yT (ABD.mpr u1)<|ABD.mpr h;exact⟨U,U⟩
 obtain⟨H,ha,hc,h1,h2⟩:=n0 hQ ra BK rc;have z0:=mq S l2 ln L k0 k1 hc;have z1:=Line.rq Sq p ha;have:RQ (sub r s l) H (AA (sub r s l) a) (AA (sub r s l) b)=RQ (sub r s l) H (AA r<|s+l+k) (AA r<|s+l+k+1):=by
  refine Bs λm hm=>?_;by_cases hs:AK (sub r s l) H m=0
  .rw[hs,ze,ze]
  rw[sub_len]at hm;rcases dC hQ (Cr hs) h1 h2 with c|c|⟨d,u,d0,u0,u1,f1,f2⟩
  .rw[Au<|c _ _ hA,Au<|c _ _ hC]
  .rw[Ae λz=>p.1.nc Sq.s m z<|c _ _ hA,Ae λz=>?_];have c':=c _ _ hC;by_cases hl:(m)=l
   .rw[hl,GQ,BC r s l U U]at c' z;exact L.1.nc S.s (s+l+k) (Eh c')<|E6 z
   .rw[BC r s l U U,BC r s l U U,show s+((m)+1)=s+m+1 by lia]at c' z;exact S.s.nc (by exact Hz U U) z c'
  .exfalso;have td:=yX d0 t0;have xx:=yX d0<|ABM.mpr t1;by_cases x1:(a-(m))%((sub r s l).length)=0
   .rw[<-Aw x1,<-Aw<|Br x1]at f1 f2;have:=(p.1.f1 u (d*t) u0 U yG yG).2;lia
   by_cases x2:(a-(m))%((sub r s l).length)=1
   .have hn:(1:Int)<((sub r s l).length):=by rw[ES];lia
    have y:=DY hn x2;rw[<-Aw y,<-(Sq.s.next x2).1]at f1 f2;have:=(p.1.f2 (Q*d-u) (d*t) U U yG yG).2;lia
   by_cases x3:(b-(m))%((sub r s l).length)=0
   .rw[<-Aw x3,<-Aw<|Br x3]at f1 f2;have:=(p.1.f3 u (d*(Q-t)) u0 U yG yG).2;lia
   by_cases x4:(b-(m))%((sub r s l).length)=1
   .have hn:(1:Int)<((sub r s l).length):=by rw[ES];lia
    have y:=DY hn x4;rw[<-Aw y,<-(Sq.s.next x4).1]at f1 f2;have:=(p.1.f4 (Q*d-u) (d*(Q-t)) U U yG yG).2;lia
   .have Nl:=yX hQ d0;refine p.1.nt m x1 x2 x3 x4 ⟨Q*d,d*t,u,Nl,U,U,u0,u1,?_,?_⟩
    .rw[f1,<-e1];grind
    .rw[f2,<-e2];grind
 rw[z0,z1]at this;cases this
end
theorem A2.E8{r:List Pt}(S:A2 r){m j:Int}(h0:(m-j)%(r.length)≠0)(h1:(m-j)%(r.length)≠1):¬ At (AA r j) (AA r<|j+1) (AA r m):=by rintro⟨q,s,hq,s0,s1,e1,e2⟩;exact S.off h0 h1 hq s0 s1 yG yG
theorem Sm.ne{r:List Pt}(S:Sm r){i j:Int}(h:(i-j)%(r.length)≠0):AA r i≠AA r j:=λc=>S.gn h (by unfold yy;rw[c])
theorem Sm.st{r:List Pt}(S:Sm r)(k:Int):AA r (k+1)≠AA r k:=λc=>S.g1 k (by unfold yy;rw[c])
section
variable{r:List Pt}(S:Sm r){s:Int}{l:Nat}(l2:2<=l)(ln:l+2<=r.length)(L:Line r s (s+l))
include S l2 ln L
theorem Zr{a b:Int}(a0:0<=a)(a1:a<=l)(b0:0<=b)(b1:b<=l)(p:Line (sub r s l) a b){k:Int}(k0:0<=k)(k1:k<r.length-l){T:Pt} (hT:(AA r (s+l+k)=AA r (s+a)/\T=AA r (s+l+k+1))\/(AA r (s+l+k+1)=AA r (s+a)/\T=AA r (s+l+k))) (iH:T≠AA r (s+a)) (iI:T≠AA r (s+b)) (Ir:AA r (s+b)≠AA r (s+a)) (hB:¬ At (AA r<|s+l+k) (AA r<|s+l+k+1) (AA r<|s+b)):CB (AA r<|s+a) T<|AA r<|s+b:=by
 have ea:=BC r s l a0 a1;have eb:=BC r s l b0 b1;intro u v hu hv e1 e2;by_cases u0:u=0
 .refine⟨u0,?_⟩;by_cases v0:v=0
  .exact v0
  .exfalso;apply Ir;rw[u0,zQ]at e1 e2;have g1:=yW.mp e1.symm;have g2:=yW.mp e2.symm;exact zd U U
 by_cases v0:v=0
 .exfalso;apply iH;rw[v0,zQ]at e1 e2;have g1:=yW.mp e1;have g2:=yW.mp e2;exact zd U U
 exfalso;rcases zS v u with h|h|h
 .refine Xz S l2 ln L p k0 k1 (X:=u*T.1) (Y:=u*T.2) U U h ?_ ?_ ?_
  .rw[ea,eb];grind
  .rw[ea,eb];grind
  .rcases hT with⟨_,rfl⟩|⟨_,rfl⟩
   .exact⟨u,U,U,yG,yG⟩
   .exact⟨0,U,U,yG,yG⟩
 .apply iI;subst h;have g1:=AAO v0 e1;have g2:=AAO v0 e2;exact zd U U
 .apply hB;rcases hT with⟨h1,rfl⟩|⟨h1,rfl⟩
  .rw[h1];exact⟨v,u,U,U,U,e1.symm,e2.symm⟩
  .rw[h1];exact LH ⟨v,u,U,U,U,e1.symm,e2.symm⟩
theorem PN{a b:Int}(a0:0<=a)(a1:a<=l)(b0:0<=b)(b1:b<=l)(p:Line (sub r s l) a b):(2<=a-b/\a-b<=l-1)\/(2<=b-a/\b-a<=l-1):=by have:=p.1.CG;rw[ES]at this;have:=NS U this U U;lia
theorem Zp{a b:Int}(a0:0<=a)(a1:a<=l)(b0:0<=b)(b1:b<=l)(p:Line (sub r s l) a b):CB (AA r<|s+a) (AA r<|s+a+1)<|AA r<|s+b:=by
 have hf:=PN S l2 ln L a0 a1 b0 b1 p;by_cases ha:a<l
 .have:=p.1.f1;rw[BC r s l a0 a1,BC r s l b0 b1,BC r s l U U,show s+(a+1)=s+a+1 by lia]at this;exact this
 .have ha:a=l:=U
  subst ha;have e0:s+(l)+0=s+l:=zG _;refine Zr S l2 ln L a0 a1 b0 b1 p (k:=0) U U (.inl ⟨by rw[e0],by rw[e0]⟩) (S.st _) (S.ne ?_) (S.ne ?_) ?_
  .exact Hz U U
  .rw[show s+b-(s+(l)) = -(l-b)by lia,CS U U];lia
  .rw[e0];refine S.s.E8 ?_ ?_
   .rw[show s+b-(s+(l)) = -(l-b)by lia,CS U U];lia
   .rw[show s+b-(s+(l)) = -(l-b)by lia,CS U U];lia
theorem Zq{a b:Int}(a0:0<=a)(a1:a<=l)(b0:0<=b)(b1:b<=l)(p:Line (sub r s l) a b):CB (AA r<|s+a) (AA r<|s+a-1)<|AA r<|s+b:=by
 have hf:=PN S l2 ln L a0 a1 b0 b1 p;by_cases ha:0<a
 .have:=p.1.f2;rw[BC r s l a0 a1,BC r s l b0 b1,BC r s l U U,show s+(a-1)=s+a-1 by lia]at this;exact this
 .have ha:a=0:=U
  subst ha;have e0:s+(l)+(r.length-l-1)=s-1+r.length:=U
  have e1:AA r (s+(l)+(r.length-l-1))=AA r (s-1):=by rw[e0,IW]
  have e2:AA r (s+(l)+(r.length-l-1)+1)=AA r (s-1+1):=by rw[e0,show s-1+(r.length)+1=s-1+1+r.length by lia,IW]
  have e3:s-1+1=s+0:=U
  have st:AA r (s+0-1)≠AA r (s+0):=λc=>S.st (s-1) (by rw[e3,<-c];congr 1;lia);refine Zr S l2 ln L a0 a1 b0 b1 p (k:=r.length-l-1) U U (.inr ⟨by rw[e2,e3],by rw[e1];congr 1;lia⟩) st (S.ne ?_) (S.ne ?_) ?_
  .rw[show s+0-1-(s+b) = -(b+1)by lia,CS U U];lia
  .rw[show s+b-(s+0)=b by lia,yM U U];lia
  .rw[e1,e2];refine S.s.E8 ?_ ?_
   .rw[show s+b-(s-1)=b+1 by lia,yM U U];lia
   .rw[show s+b-(s-1)=b+1 by lia,yM U U];lia
theorem uu{a b:Int}(a0:0<=a)(a1:a<=l)(b0:0<=b)(b1:b<=l)(p:Line (sub r s l) a b):Probe r (s+a)<|s+b:=by
 have hf:=PN S l2 ln L a0 a1 b0 b1 p;have Sq:=Mg S l2 ln L;have p':=Line.symm Sq p;refine⟨LX U,Zp S l2 ln L a0 a1 b0 b1 p,Zq S l2 ln L a0 a1 b0 b1 p,Zp S l2 ln L b0 b1 a0 a1 p',Zq S l2 ln L b0 b1 a0 a1 p',λk x1 x2 x3 x4 h=>?_⟩;have hn:(0:Int)<r.length:=U
 have m0:=zE (k-s) (b:=(r.length)) U;have m1:=yz (k-s) hn;have em:(k-(s+(k-s)%(r.length)))%(r.length)=0:=by rw[show k-(s+(k-s)%(r.length))=(k-s)-(k-s)%(r.length)by lia,AAA,zI _<|z9 _,AAM];rfl
 generalize (k-s)%(r.length)=m at m0 m1 em;have ek:∀x:Int,(x-k)%(r.length)=(x-(s+m))%(r.length):=λx=>by rw[show x-(s+m)=(x-k)+(k-(s+m))by lia,AAH,em,zG,zI _<|z9 _]
 rw[ek]at x1 x2 x3 x4;rw[Aw em,Aw<|Br em]at h;rw[show s+a-(s+m)=a-m by lia]at x1 x2;rw[show s+b-(s+m)=b-m by lia]at x3 x4;have ne:∀{d:Int},d%(r.length)≠0->d%(r.length)≠1->d≠0/\d≠1:=λ{d} u v=>⟨λc=>u (by rw[c];rfl),λc=>v (by rw[c];exact yM U U)⟩;obtain⟨n1,n2⟩:=ne x1 x2;obtain⟨n3,n4⟩:=ne x3 x4;by_cases hm:m<l
 .have md:∀{d:Int},d≠0->d≠1->-(l)<d->d<=l->d%((l)+1)≠0/\d%((l)+1)≠1:=λ{d} u v w z=>by
   by_cases c:0<=d
   .rw[yM c U];exact⟨u,v⟩
   .have:=CS (n:=(l)+1) (d:=-d) U U;rw[ABy]at this;rw[this];lia
  have q1:=md n1 n2 U U;have q2:=md n3 n4 U U;refine p.1.nt m (by rw[ES];exact q1.1) (by rw[ES];exact q1.2) (by rw[ES];exact q2.1) (by rw[ES];exact q2.2) ?_;rw[BC r s l a0 a1,BC r s l b0 b1,BC r s l U U,BC r s l U U,show s+(m+1)=s+m+1 by lia];exact h
 .obtain⟨Q,t,u,hQ,t0,t1,u0,u1,e1,e2⟩:=h;have es:s+m=s+l+(m-l):=U
  have Z5:=x1;have Z6:=x2;have Z7:=x3;have Z8:=x4
  rw[show a-m=s+a-(s+m)by lia]at Z5 Z6;rw[show b-m=s+b-(s+m)by lia]at Z7 Z8;by_cases c0:t=0
  .refine S.s.E8 Z5 Z6 ⟨Q,u,hQ,u0,u1,?_,?_⟩
   .rw[c0]at e1;grind
   .rw[c0]at e2;grind
  by_cases c1:t=Q
  .refine S.s.E8 Z7 Z8 ⟨Q,u,hQ,u0,u1,?_,?_⟩
   .grind
   .grind
  .refine Xz S l2 ln L p (k:=m-l) U U hQ (t:=t) U U rfl rfl ?_;rw[<-es,BC r s l a0 a1,BC r s l b0 b1];exact⟨u,u0,u1,e1.symm,e2.symm⟩
theorem Xe{a b:Int}(a0:0<a)(a1:a<l)(b0:0<=b)(b1:b<=l)(p:Line (sub r s l) a b):Line r (s+a)<|s+b:=by refine⟨uu S l2 ln L U U b0 b1 p,?_⟩;have:=p.2;rw[BC r s l U U,BC r s l b0 b1,BC r s l U U,BC r s l U U,show s+(a+1)=s+a+1 by lia,show s+(a-1)=s+a-1 by lia]at this;exact this
theorem ky{a b:Int}(a0:0<=a)(a1:a<=l)(b0:0<=b)(b1:b<=l)(p:Line (sub r s l) a b):Line r (s+a)<|s+b:=by
 have hf:=PN S l2 ln L a0 a1 b0 b1 p;by_cases c:0<a/\a<l
 .exact Xe S l2 ln L c.1 c.2 b0 b1 p
 .exact Line.symm S<|Xe S l2 ln L U U a0 a1<|Line.symm (Mg S l2 ln L) p
end
theorem QK(yF V W P:Pt):AG yF V P+AG V W P+AG W yF P=AG yF V W/\AG yF V W*P.1=AG V W P*yF.1+AG W yF P*V.1+AG yF V P*W.1/\AG yF V W*P.2=AG V W P*yF.2+AG W yF P*V.2+AG yF V P*W.2:=by unfold AG;exact⟨yG,yG,yG⟩
theorem V3{D Q T aP bP fP aR bR fR p r u v w:Int}(sP:aP+bP+fP=D)(sR:aR+bR+fR=D)(eP:D*p=bP*u+fP*v+aP*w)(eR:D*r=bR*u+fR*v+aR*w) : (D*(-aR*Q+((Q-T)*aP+T*aR)))*p+(D*(-aR*T+((Q-T)*aP+T*aR)))*(r-p)=(D*(-aR*Q+((Q-T)*aP+T*aR)))*u+(-aR*((Q-T)*fP+T*fR)+((Q-T)*aP+T*aR)*fR)*(v-u):=by
 have h1:(D*(-aR*Q+((Q-T)*aP+T*aR)))*p+(D*(-aR*T+((Q-T)*aP+T*aR)))*(r-p)=(-aR*(Q-T))*(D*p)+(-aR*T+((Q-T)*aP+T*aR))*(D*r):=yG
 rw[h1,eP,eR];have h2:D*(-aR*Q+((Q-T)*aP+T*aR))=(-aR*((Q-T)*bP+T*bR)+((Q-T)*aP+T*aR)*bR)+(-aR*((Q-T)*fP+T*fR)+((Q-T)*aP+T*aR)*fR):=by
  have e1:D*(-aR*Q) = -aR*((Q-T)*D+T*D):=yG
  have e2:D*((Q-T)*aP+T*aR)=((Q-T)*aP+T*aR)*D:=AAl ..;rw[ACV,e1,e2];rw[show(Q-T)*D=(Q-T)*(aP+bP+fP)by rw[sP],show T*D=T*(aR+bR+fR)by rw[sR],show((Q-T)*aP+T*aR)*D=((Q-T)*aP+T*aR)*(aR+bR+fR)by rw[sR]]
  grind
 rw[h2]
 grind
theorem Qi{yF V W P R:Pt}{Q T ax bx fx:Int}(hQ:0<Q)(t0:0<=T)(t1:T<=Q)(D0:0<AG yF V W) (Hh:ax=(Q-T)*AG yF V P+T*AG yF V R) (KA:bx=(Q-T)*AG V W P+T*AG V W R) (Hl:fx=(Q-T)*AG W yF P+T*AG W yF R) (a0:0<=ax) (hA:AG yF V R<0) (hb:0<=-AG yF V R*bx+ax*AG V W R) (hf:0<=-AG yF V R*fx+ax*AG W yF R) : ∃q s t:Int,0<q/\0<=s/\s<=q/\0<=t/\t<=q/\q*P.1+s*(R.1-P.1)=q*yF.1+t*(V.1-yF.1)/\q*P.2+s*(R.2-P.2)=q*yF.2+t*(V.2-yF.2)/\t = -AG yF V R*fx+ax*AG W yF R/\q-t = -AG yF V R*bx+ax*AG V W R:=by
 obtain⟨sP,fM,fN⟩:=QK yF V W P;obtain⟨sR,fO,fQ⟩:=QK yF V W R;have m1:=yX (U:0 < -AG yF V R) hQ;have m2:=yT (U:0<=-AG yF V R) t0;have m3:=yT (U:0<=-AG yF V R) (U:0<=Q-T);have hN:0 < -AG yF V R*Q+ax:=U
 have hw:0<=-AG yF V R*T+ax:=U
 have jh : -AG yF V R*T+ax<=-AG yF V R*Q+ax:=U
 have hq:=yX D0 hN;have jX:AG yF V W*(-AG yF V R*Q+ax)-(-AG yF V R*fx+ax*AG W yF R) = -AG yF V R*bx+ax*AG V W R:=by
  have e0:ax+bx+fx=Q*AG yF V W:=by
   rw[Hh,KA,Hl,show Q*AG yF V W=(Q-T)*AG yF V W+T*AG yF V W by grind,<-sP];have:T*(AG yF V P+AG V W P+AG W yF P)=T*(AG yF V R+AG V W R+AG W yF R):=by rw[sP,sR]
   rw[this];grind
  have e1:AG yF V W*(-AG yF V R*Q+ax) = -AG yF V R*(Q*AG yF V W)+ax*AG yF V W:=yG
  rw[e1,<-e0,<-sR];grind
 refine⟨AG yF V W*(-AG yF V R*Q+ax),AG yF V W*(-AG yF V R*T+ax),-AG yF V R*fx+ax*AG W yF R,hq,yT U hw,yi jh U,hf,U,?_,?_,rfl,jX⟩
 .rw[Hh,Hl];exact V3 sP sR fM fO
 .rw[Hh,Hl];exact V3 sP sR fN fQ
theorem fv{yF V W P R:Pt}{Q T ax bx fx:Int}(hQ:0<Q)(t0:0<=T)(t1:T<=Q)(D0:0<AG yF V W) (Hh:ax=(Q-T)*AG yF V P+T*AG yF V R) (KA:bx=(Q-T)*AG V W P+T*AG V W R) (Hl:fx=(Q-T)*AG W yF P+T*AG W yF R) (a0:0<=ax) (b0:0<=bx) (f0:0<=fx) (hF:0<=AG W yF R) (out:AG yF V R<0\/AG V W R<0) : (∃q s t:Int,0<q/\0<=s/\s<=q/\0<=t/\t<=q/\q*P.1+s*(R.1-P.1)=q*yF.1+t*(V.1-yF.1)/\q*P.2+s*(R.2-P.2)=q*yF.2+t*(V.2-yF.2)/\(0<fx->0<t))\/(∃q s t:Int,0<q/\0<=s/\s<=q/\0<=t/\t<=q/\q*P.1+s*(R.1-P.1)=q*V.1+t*(W.1-V.1)/\q*P.2+s*(R.2-P.2)=q*V.2+t*(W.2-V.2)/\(0<fx->t<q)):=by
 have c1:AG V W yF=AG yF V W:=by unfold AG;grind
 have cN:AG yF V R<0->0<=-AG yF V R*bx+ax*AG V W R->(∃q s t:Int,0<q/\0<=s/\s<=q/\0<=t/\t<=q/\q*P.1+s*(R.1-P.1)=q*yF.1+t*(V.1-yF.1)/\q*P.2+s*(R.2-P.2)=q*yF.2+t*(V.2-yF.2)/\(0<fx->0<t)):=λhA hb=>by have n1:=yT (U:0<=-AG yF V R) f0;have n2:=yT a0 hF;obtain⟨q,s,t,h1,h2,h3,h4,h5,e1,e2,et,_⟩:=Qi hQ t0 t1 D0 Hh KA Hl a0 hA hb U;refine⟨q,s,t,h1,h2,h3,h4,h5,e1,e2,λh=>?_⟩;have:=yX (U:0 < -AG yF V R) h;lia
 have Ue:AG V W R<0->0<=-AG V W R*ax+bx*AG yF V R->(∃q s t:Int,0<q/\0<=s/\s<=q/\0<=t/\t<=q/\q*P.1+s*(R.1-P.1)=q*V.1+t*(W.1-V.1)/\q*P.2+s*(R.2-P.2)=q*V.2+t*(W.2-V.2)/\(0<fx->t<q)):=λhB ha=>by have n1:=yT (U:0<=-AG V W R) f0;have n2:=yT b0 hF;obtain⟨q,s,t,h1,h2,h3,h4,h5,e1,e2,_,eq⟩:=Qi hQ t0 t1 (by rw[c1];exact D0) KA Hl Hh b0 hB U ha;refine⟨q,s,t,h1,h2,h3,h4,h5,e1,e2,λh=>?_⟩;have:=yX (U:0 < -AG V W R) h;lia
 by_cases hA:AG yF V R<0
 .by_cases hb:0<=-AG yF V R*bx+ax*AG V W R
  .exact .inl<|cN hA hb
  .by_cases hB:AG V W R<0
   .refine .inr<|Ue hB ?_;lia
   .exfalso;have n1:=yT (U:0<=-AG yF V R) b0;have n2:=yT a0 (U:0<=AG V W R);lia
 .have hB:AG V W R<0:=U
  refine .inr<|Ue hB ?_;have n1:=yT (U:0<=-AG V W R) a0;have n2:=yT b0 (U:0<=AG yF V R);lia
theorem Xq(f:Nat->Int):∀n:Nat,0<n->∃m,m<n/\∀k,k<n->f m<=f k
 |0,h=>U
 |1,_=>⟨0,U,λk hk=>by rw[show k=0 by lia];exact AAC _⟩
 |n+2,_=>by
  obtain⟨m,hm,h⟩:=Xq f (n+1) U;by_cases c:f m<=f (n+1)
  .refine⟨m,U,λk hk=>?_⟩;by_cases e:k=n+1
   .rw[e];exact c
   .exact h k U
  .refine⟨n+1,U,λk hk=>?_⟩;by_cases e:k=n+1
   .rw[e];exact AAC _
   .have:=h k U;lia
theorem Xo(P:Nat->Prop)(f:Nat->Int):∀n:Nat,(∃k,k<n/\P k)->∃m,m<n/\P m/\∀k,k<n->P k->f k<=f m
 |0,h=>by obtain⟨k,hk,_⟩:=h;lia
 |n+1,h=>by
  by_cases c:∃k,k<n/\P k
  .obtain⟨m,hm,pm,hx⟩:=Xo P f n c;by_cases d:P n/\f m<f n
   .refine⟨n,U,d.1,λk hk pk=>?_⟩;by_cases e:k=n
    .rw[e];exact AAC _
    .have:=hx k U pk;lia
   .refine⟨m,U,pm,λk hk pk=>?_⟩;by_cases e:k=n
    .rw[e]at pk ⊢;exact Int.not_lt.mp λz=>d ⟨pk,z⟩
    .exact hx k U pk
  .obtain⟨k,hk,pk⟩:=h;have:k=n:=by
    rcases Nat.lt_or_ge k n with z|z
    .exact absurd ⟨k,z,pk⟩ c
    .lia
   subst this;refine⟨k,U,pk,λj hj pj=>?_⟩;by_cases e:j=k
   .rw[e];exact AAC _
   .exact absurd ⟨j,U,pj⟩ c
theorem GO{a b A B C D:Pt}{Q s t:Int}(e1:Q*A.1+s*(B.1-A.1)=Q*C.1+t*(D.1-C.1))(e2:Q*A.2+s*(B.2-A.2)=Q*C.2+t*(D.2-C.2)):(Q-s)*AG a b A+s*AG a b B=(Q-t)*AG a b C+t*AG a b D:=by
 have f:∀(X Y:Pt)(u:Int),(Q-u)*AG a b X+u*AG a b Y=(b.1-a.1)*((Q*X.2+u*(Y.2-X.2))-Q*a.2)-(b.2-a.2)*((Q*X.1+u*(Y.1-X.1))-Q*a.1):=λX Y u=>by unfold AG;grind
 rw[f,f,e1,e2]
theorem Fh(a b:Pt):AG a b a=0/\AG a b b=0:=by unfold AG;exact⟨yG,yG⟩
theorem Jb(a b c:Pt):AG b c a=AG a b c:=by unfold AG;grind
section
variable{r:List Pt}(S:Sm r)
include S
theorem Sm.norm(v k:Int):∃e:Int,0<=e/\e<r.length/\(k-(v+e))%(r.length)=0:=by have h3:=S.s.l3;refine⟨(k-v)%(r.length),zE _ U,yz _ U,?_⟩;rw[show k-(v+(k-v)%(r.length))=(k-v)-(k-v)%(r.length)by lia,AAA,zI _<|z9 _,AAM];rfl
theorem Sm.low:∃v:Int,∀k:Int,yy r v<=yy r k:=by have h3:=S.s.l3;obtain⟨m,hm,h⟩:=Xq (λk=>yy r<|k) r.length U;refine⟨m,λk=>?_⟩;obtain⟨e,e0,e1,he⟩:=S.norm 0 k;rw[zr]at he;have:=h e.toNat U;rw[yk e0,<-Cu he]at this;exact this
theorem Sm.conv{v:Int}(hv:∀k,yy r v<=yy r k):0<AG (AA r<|v-1) (AA r v) (AA r<|v+1):=by
 have h3:=S.s.l3;have em:v-1+1=v:=U
 have hu:yy r v<yy r (v-1):=by have:=S.g0 v;have:=hv<|v-1;lia
 have hw:yy r v<yy r (v+1):=by have:=S.g1 v;have:=hv<|v+1;lia
 have su:=Ej (by rw[em];lia) hu;have sw:=Ek U hw;have hc:=S.c (by rw[sw];lia);unfold cc at hc;rw[Au hw]at hc;have hR:Rr r (yy r v) v=ind (L r v<|v-1)*(-1):=by
  unfold Rr;have sh:=O7 (f:=λj=>ind (L r v j)*AK r (yy r v) j) (n:=r.length) U (λa b h=>by rw[FC h,GY (by rw[AAM];rfl) h]) (v-1)
  rw[<-sh];rw[Mi (d:=0) U λm hm As=>?_]
  .rw[Int.natCast_zero,zG,su]
  .by_cases m1:m=1
   .rw[m1,show v-1+((1:Nat))=v by lia,Ae<|Ep r v λc=>S.g1 v c.symm,zQ]
   .have:AK r (yy r v) (v-1+(m))=0:=by
     apply zb;intro c;have hr:=Cr c;have h1:=hv<|v-1+m;have h2:=hv<|v-1+m+1;by_cases x:yy r (v-1+m)<=yy r v
     .have:=S.g (v-1+m) v U;rw[show v-1+(m)-v=m-1 by lia]at this;exact Hz U U this
     .have:=S.g (v-1+m+1) v U;rw[show v-1+(m)+1-v=m by lia]at this;exact Hz U U this
    rw[this,ze]
 rw[hR]at hc;have hn:¬ L r v (v-1):=λc=>by rw[Au c]at hc;lia
 have hL:=(S.s.IG (by rw[show v-(v-1)=1 by lia];exact Hz U U) (by rw[sw];lia) (by rw[su];lia)).resolve_left hn;unfold L at hL;rw[em]at hL;have:=(IS hu hw).mp<|Eh hL;rw[Jb]at this;exact this
theorem Sm.Zv{v:Int}(D0:0<AG (AA r<|v-1) (AA r v) (AA r<|v+1)){e:Int}(h1:1<=e)(h2:e<=r.length-2){P R:Pt} (Iu:(P=AA r (v+e)/\R=AA r (v+e+1))\/(P=AA r (v+e+1)/\R=AA r (v+e))) {Q T ax bx fx:Int} (hQ:0<Q) (t0:0<=T) (t1:T<=Q) (Hh:ax=(Q-T)*AG (AA r<|v-1) (AA r v) P+T*AG (AA r<|v-1) (AA r v) R) (KA:bx=(Q-T)*AG (AA r v) (AA r<|v+1) P+T*AG (AA r v) (AA r<|v+1) R) (Hl:fx=(Q-T)*AG (AA r<|v+1) (AA r<|v-1) P+T*AG (AA r<|v+1) (AA r<|v-1) R) (a0:0<=ax) (b0:0<=bx) (f0:0<=fx) (hF:0<=AG (AA r<|v+1) (AA r<|v-1) R) (ok:0<fx\/(e≠r.length-2/\e≠1)) : 0<=AG (AA r<|v-1) (AA r v) R/\0<=AG (AA r v) (AA r<|v+1) R:=by
 apply zb;intro c;have em:v-1+1=v:=U
 have m1:(v+e-(v-1))%(r.length)=e+1:=by rw[show v+e-(v-1)=e+1 by lia,yM U U]
 have m2:(v-1-(v+e))%(r.length)=r.length-(e+1):=by rw[show v-1-(v+e) = -(e+1)by lia,CS U U]
 have m3:(v+e-v)%(r.length)=e:=by rw[show v+e-v=e by lia,yM U U]
 have m4:(v-(v+e))%(r.length)=r.length-e:=by rw[show v-(v+e) = -e by lia,CS U U]
 have rev:∀{q s:Int}{a b:Pt}{x y:Int},0<q->0<=s->s<=q->q*P.1+s*(R.1-P.1)=x->q*P.2+s*(R.2-P.2)=y->∃s':Int,0<=s'/\s'<=q/\q*(AA r<|v+e).1+s'*((AA r<|v+e+1).1-(AA r<|v+e).1)=x/\q*(AA r<|v+e).2+s'*((AA r<|v+e+1).2-(AA r<|v+e).2)=y:=λ{q s a b x y} hq s0 s1 e1 e2=>by
  rcases Iu with⟨rfl,rfl⟩|⟨rfl,rfl⟩
  .exact⟨s,s0,s1,e1,e2⟩
  .exact⟨q-s,U,U,by rw[<-e1];grind,by rw[<-e2];grind⟩
 rcases fv hQ t0 t1 D0 Hh KA Hl a0 b0 f0 hF U with⟨q,s,t,hq,s0,s1,u0,u1,e1,e2,st⟩|⟨q,s,t,hq,s0,s1,u0,u1,e1,e2,st⟩
 .obtain⟨s',x0,x1,f1,f2⟩:=rev (a:=P) (b:=P) hq s0 s1 e1 e2;have:=S.s.share (by rw[m1];lia) hq x0 x1 u0 u1 (by rw[em];exact f1) (by rw[em];exact f2);rw[m1,m2]at this;rcases ok with k|k
  .lia
  .lia
 .obtain⟨s',x0,x1,f1,f2⟩:=rev (a:=P) (b:=P) hq s0 s1 e1 e2;have:=S.s.share (by rw[m3];lia) hq x0 x1 u0 u1 f1 f2;rw[m3,m4]at this;rcases ok with k|k
  .lia
  .lia
end
section
variable{r:List Pt}(S:Sm r)
include S
set_option maxHeartbeats 1000000 in
theorem Sm.eZ{v:Int}(D0:0<AG (AA r<|v-1) (AA r v) (AA r<|v+1)){d:Int}(d2:2<=d)(dn:d<=r.length-2)(az:0<=AG (AA r<|v-1) (AA r v) (AA r<|v+d))(bz:0<=AG (AA r v) (AA r<|v+1) (AA r<|v+d))(fz:0<=AG (AA r<|v+1) (AA r<|v-1) (AA r<|v+d)) (mx:∀e:Int,2<=e->e<=r.length-2->0<=AG (AA r<|v-1) (AA r v) (AA r<|v+e)->0<=AG (AA r v) (AA r<|v+1) (AA r<|v+e)->0<=AG (AA r<|v+1) (AA r<|v-1) (AA r<|v+e)->AG (AA r<|v+1) (AA r<|v-1) (AA r<|v+e)<=AG (AA r<|v+1) (AA r<|v-1) (AA r<|v+d)):Line r v<|v+d:=by
 have h3:=S.s.l3;have em:v-1+1=v:=U
 have en:AA r (v+(r.length-1))=AA r (v-1):=by rw[show v+((r.length:Int)-1)=v-1+r.length by lia,IW]
 obtain⟨sz,z1,z2⟩:=QK (AA r<|v-1) (AA r v) (AA r<|v+1)<|AA r<|v+d;have vA:AG (AA r<|v-1) (AA r v) (AA r v)=0:=(Fh _ _).2;have vB:AG (AA r v) (AA r<|v+1) (AA r v)=0:=(Fh _ _).1;have vF:AG (AA r<|v+1) (AA r<|v-1) (AA r v)=AG (AA r<|v-1) (AA r v) (AA r<|v+1):=by rw[Jb,Jb]
 have uA:AG (AA r<|v-1) (AA r v) (AA r<|v-1)=0:=(Fh _ _).1;have wB:AG (AA r v) (AA r<|v+1) (AA r<|v+1)=0:=(Fh _ _).2;have wF:AG (AA r<|v+1) (AA r<|v-1) (AA r<|v+1)=0:=(Fh _ _).1;have uF:AG (AA r<|v+1) (AA r<|v-1) (AA r<|v-1)=0:=(Fh _ _).2;have hA:0<AG (AA r<|v-1) (AA r v) (AA r<|v+d):=by
  apply zb;intro c;have c0:AG (AA r<|v-1) (AA r v) (AA r<|v+d)=0:=U
  rw[c0,zQ,zG]at z1 z2;rw[c0,zr]at sz;have at':At (AA r<|v-1) (AA r<|v-1+1)<|AA r<|v+d:=by
   rw[em];refine⟨AG (AA r<|v-1) (AA r v)<|AA r<|v+1,AG (AA r<|v+1) (AA r<|v-1)<|AA r<|v+d,D0,fz,U,?_,?_⟩
   .rw[AA8,z1,<-sz];grind
   .rw[AA8,z2,<-sz];grind
  refine S.s.E8 (m:=v+d) (j:=v-1) ?_ ?_ at'
  .rw[show v+d-(v-1)=d+1 by lia,yM U U];lia
  .rw[show v+d-(v-1)=d+1 by lia,yM U U];lia
 have hB:0<AG (AA r v) (AA r<|v+1) (AA r<|v+d):=by
  apply zb;intro c;have c0:AG (AA r v) (AA r<|v+1) (AA r<|v+d)=0:=U
  rw[c0,zQ,zr]at z1 z2;rw[c0,zG]at sz;have at':At (AA r v) (AA r<|v+1)<|AA r<|v+d:=by
   refine⟨AG (AA r<|v-1) (AA r v)<|AA r<|v+1,AG (AA r<|v-1) (AA r v)<|AA r<|v+d,D0,az,U,?_,?_⟩
   .rw[AA8,z1,<-sz];grind
   .rw[AA8,z2,<-sz];grind
  refine S.s.E8 (m:=v+d) (j:=v) ?_ ?_ at'
  .rw[show v+d-v=d by lia,yM U U];lia
  .rw[show v+d-v=d by lia,yM U U];lia
 have mi:∀e:Int,0<=e->e<r.length->0<=AG (AA r<|v-1) (AA r v) (AA r<|v+e)->0<=AG (AA r v) (AA r<|v+1) (AA r<|v+e)->AG (AA r<|v+1) (AA r<|v-1) (AA r<|v+d)<AG (AA r<|v+1) (AA r<|v-1) (AA r<|v+e)->e≠0->False:=λe e0 e1 ha hb hf ez=>by
  by_cases c1:e=1
  .rw[c1,wF]at hf;lia
  by_cases c2:e=r.length-1
  .rw[c2,en,uF]at hf;lia
  .have:=mx e U U ha hb U;lia
 have fk:∀e:Int,1<=e->e<=r.length-1->(AA r<|v+e)≠(AA r<|v+d)->¬ At (AA r<|v+d) (AA r<|v+e) (AA r v)->CB (AA r<|v+d) (AA r<|v+e) (AA r v):=λe e1 e2 iG Ed a b ha hb q1 q2=>by
  have iJ:(AA r v)≠(AA r<|v+d):=S.ne (by rw[show v-(v+d) = -d by lia,CS U U];lia);by_cases a0:a=0
  .refine⟨a0,?_⟩;by_cases b0:b=0
   .exact b0
   .exfalso;apply iJ;rw[a0,zQ]at q1 q2;have g1:=yW.mp q1.symm;have g2:=yW.mp q2.symm;exact zd U U
  by_cases b0:b=0
  .exfalso;apply iG;rw[b0,zQ]at q1 q2;have g1:=yW.mp q1;have g2:=yW.mp q2;exact zd U U
  exfalso;rcases zS b a with h|h|h
  .have l1:a*(AA r<|v+d).1+b*((AA r v).1-(AA r<|v+d).1)=a*(AA r<|v+e).1+0*((AA r<|v+e).1-(AA r<|v+e).1):=yG
   have l2:a*(AA r<|v+d).2+b*((AA r v).2-(AA r<|v+d).2)=a*(AA r<|v+e).2+0*((AA r<|v+e).2-(AA r<|v+e).2):=yG
   have sA:=GO (a:=(AA r<|v-1)) (b:=(AA r v)) l1 l2;have sB:=GO (a:=(AA r v)) (b:=(AA r<|v+1)) l1 l2;have sF:=GO (a:=(AA r<|v+1)) (b:=(AA r<|v-1)) l1 l2;rw[vA,ze,zG,zQ,zG,AAr]at sA;rw[vB,ze,zG,zQ,zG,AAr]at sB;rw[vF,zQ,zG,AAr]at sF;have pA:=yX (U:0<a-b) hA;have pB:=yX (U:0<a-b) hB;have pF:=yX (U:0<b) (U:0<AG (AA r<|v-1) (AA r v) (AA r<|v+1)-AG (AA r<|v+1) (AA r<|v-1) (AA r<|v+d));rw[sA]at pA;rw[sB]at pB;have tA:=ABX pA (U:0<a);have tB:=ABX pB (U:0<a);have tF:0<a*(AG (AA r<|v+1) (AA r<|v-1) (AA r<|v+e)-AG (AA r<|v+1) (AA r<|v-1) (AA r<|v+d)):=by rw[AA8]at pF ⊢;rw[<-sF,ACW];lia
   have tF:=ABX tF (U:0<a);exact mi e U U U U U U
  .subst h;have g1:=AAO b0 q1;have g2:=AAO b0 q2;have:(AA r<|v+e)=(AA r v):=zd U U;exact S.ne (by rw[show v+e-v=e by lia];exact Hz U U) this
  .exact Ed ⟨b,a,U,U,U,q1.symm,q2.symm⟩
 refine⟨⟨LX U,La (u:=(AA r<|v+1)) (by rw[Fi];lia),La U,?_,?_,λk x1 x2 x3 x4 h=>?_⟩,.inl ⟨D0,hB,hA⟩⟩
 .rw[show v+d+1=v+(d+1)by lia];refine fk (d+1) U U ?_ ?_
  .rw[show v+(d+1)=v+d+1 by lia];exact S.st _
  .rw[show v+(d+1)=v+d+1 by lia];refine S.s.E8 (m:=v) (j:=v+d) ?_ ?_
   .rw[show v-(v+d) = -d by lia,CS U U];lia
   .rw[show v-(v+d) = -d by lia,CS U U];lia
 .rw[show v+d-1=v+(d-1)by lia];have e1:v+(d-1)+1=v+d:=U
  refine fk (d-1) U U (λc=>S.st (v+(d-1))<|by rw[e1,c]) λc=>?_;refine S.s.E8 (m:=v) (j:=v+(d-1)) ?_ ?_ (by rw[e1];exact LH c)
  .rw[show v-(v+(d-1)) = -(d-1)by lia,CS U U];lia
  .rw[show v-(v+(d-1)) = -(d-1)by lia,CS U U];lia
 .obtain⟨e,e0,e1,ek⟩:=S.norm v k;have ex:∀x:Int,(x-k)%(r.length:Int)=(x-(v+e))%(r.length:Int):=λx=>by rw[show x-(v+e)=(x-k)+(k-(v+e))by lia,AAH,ek,zG,zI _<|z9 _]
  rw[ex]at x1 x2 x3 x4;rw[Aw ek,Aw<|Br ek]at h;have n1:e≠0:=λc=>x1 (by rw[c,zG,AAM];rfl);have n2:e≠r.length-1:=λc=>x2 (by rw[show v-(v+e) = -e by lia,CS U U];lia);obtain⟨Q,s,u,hQ,s0,s1,u0,u1,q1,q2⟩:=h;by_cases c0:s=0
  .refine S.s.E8 x1 x2 ⟨Q,u,hQ,u0,u1,?_,?_⟩
   .rw[c0]at q1;grind
   .rw[c0]at q2;grind
  by_cases c1:s=Q
  .refine S.s.E8 x3 x4 ⟨Q,u,hQ,u0,u1,?_,?_⟩
   .rw[c1]at q1;grind
   .rw[c1]at q2;grind
  have sA:=GO (a:=(AA r<|v-1)) (b:=(AA r v)) q1 q2;have sB:=GO (a:=(AA r v)) (b:=(AA r<|v+1)) q1 q2;have sF:=GO (a:=(AA r<|v+1)) (b:=(AA r<|v-1)) q1 q2;rw[vA,ze,zr]at sA;rw[vB,ze,zr]at sB;rw[vF]at sF;have pA:=yX (U:0<s) hA;have pB:=yX (U:0<s) hB;have p1:=yX (U:0<Q-s) (U:0<AG (AA r<|v-1) (AA r v) (AA r<|v+1)-AG (AA r<|v+1) (AA r<|v-1) (AA r<|v+d));have p2:=yT (yQ hQ) fz;have Nv:Q*AG (AA r<|v+1) (AA r<|v-1) (AA r<|v+d)<(Q-s)*AG (AA r<|v-1) (AA r v) (AA r<|v+1)+s*AG (AA r<|v+1) (AA r<|v-1) (AA r<|v+d):=by rw[AA8]at p1;rw[ACW Q s<|AG (AA r<|v+1) (AA r<|v-1)<|AA r<|v+d]at p1;lia
  have fin:∀(P R:Pt)(t:Int),0<=t->t<=Q->((P=AA r (v+e)/\R=AA r (v+e+1))\/(P=AA r (v+e+1)/\R=AA r (v+e)))->s*AG (AA r<|v-1) (AA r v) (AA r<|v+d)=(Q-t)*AG (AA r<|v-1) (AA r v) P+t*AG (AA r<|v-1) (AA r v) R->s*AG (AA r v) (AA r<|v+1) (AA r<|v+d)=(Q-t)*AG (AA r v) (AA r<|v+1) P+t*AG (AA r v) (AA r<|v+1) R->(Q-s)*AG (AA r<|v-1) (AA r v) (AA r<|v+1)+s*AG (AA r<|v+1) (AA r<|v-1) (AA r<|v+d)=(Q-t)*AG (AA r<|v+1) (AA r<|v-1) P+t*AG (AA r<|v+1) (AA r<|v-1) R->AG (AA r<|v+1) (AA r<|v-1) P<=AG (AA r<|v+1) (AA r<|v-1) R->False:=λP R t t0 t1 Iu eA eB eF hle=>by
   have m1:=yi hle (U:0<=Q-t);have hR:AG (AA r<|v+1) (AA r<|v-1) (AA r<|v+d)<AG (AA r<|v+1) (AA r<|v-1) R:=by apply ABQ (a:=Q) _<|yQ hQ;rw[ACW Q t<|AG (AA r<|v+1) (AA r<|v-1) R]at m1;lia
   obtain⟨ia,ib⟩:=S.Zv D0 (e:=e) U U Iu hQ t0 t1 eA eB eF U U U U<|.inl U;rcases Iu with⟨_,hr⟩|⟨_,hr⟩
   .rw[hr,show v+e+1=v+(e+1)by lia]at ia ib hR;exact mi (e+1) U U ia ib hR U
   .rw[hr]at ia ib hR;exact mi e U U ia ib hR n1
  rcases AAG (AG (AA r<|v+1) (AA r<|v-1)<|AA r<|v+e) (AG (AA r<|v+1) (AA r<|v-1)<|AA r<|v+e+1)with hle|hle
  .exact fin _ _ u u0 u1 (.inl ⟨rfl,rfl⟩) sA sB sF hle
  .refine fin _ _ (Q-u) U U (.inr ⟨rfl,rfl⟩) ?_ ?_ ?_ hle
   .rw[sA];rw[show Q-(Q-u)=u by lia];lia
   .rw[sB];rw[show Q-(Q-u)=u by lia];lia
   .rw[sF];rw[show Q-(Q-u)=u by lia];lia
end
theorem WJ{A X B:Pt}(hX:X≠A)(hB:B≠A)(h1:¬ At A B X)(h2:¬ At A X B):CB A X B:=λa b ha hb q1 q2=>by
 by_cases a0:a=0
 .refine⟨a0,?_⟩;by_cases b0:b=0
  .exact b0
  .exfalso;apply hB;rw[a0,zQ]at q1 q2;have g1:=yW.mp q1.symm;have g2:=yW.mp q2.symm;exact zd U U
 by_cases b0:b=0
 .exfalso;apply hX;rw[b0,zQ]at q1 q2;have g1:=yW.mp q1;have g2:=yW.mp q2;exact zd U U
 exfalso;rcases AAG b a with h|h
 .exact h1 ⟨a,b,U,hb,h,q1,q2⟩
 .exact h2 ⟨b,a,U,ha,h,q1.symm,q2.symm⟩
theorem QJ{a b A B X:Pt}(h:At A B X)(hA:0<=AG a b A)(hB:0<=AG a b B):0<=AG a b X:=by
 obtain⟨q,s,hq,s0,s1,e1,e2⟩:=h;have l:=GO (a:=a) (b:=b) (A:=A) (B:=B) (C:=X) (D:=X) (Q:=q) (s:=s) (t:=0) yG yG;rw[zQ,zG,AAr]at l;have m1:=yT (U:0<=q-s) hA;have m2:=yT s0 hB;rcases ACn (AG a b X) 0 with c|c
 .have:=AAq hq c;lia
 .exact c
section
variable{r:List Pt}(S:Sm r)
include S
set_option maxHeartbeats 1000000 in
theorem Sm.ee{v:Int}(h4:4<=r.length)(D0:0<AG (AA r<|v-1) (AA r v) (AA r<|v+1)) (no:∀e:Int,2<=e->e<=r.length-2->¬ (0<=AG (AA r<|v-1) (AA r v) (AA r<|v+e)/\0<=AG (AA r v) (AA r<|v+1) (AA r<|v+e)/\0<=AG (AA r<|v+1) (AA r<|v-1) (AA r<|v+e))):Line r (v-1)<|v+1:=by
 have em:v-1+1=v:=U
 have ew:v+1-1=v:=U
 have e2:AA r (v+(r.length-2))=AA r (v-1-1):=by rw[show v+((r.length:Int)-2)=v-1-1+r.length by lia,IW]
 have vA:AG (AA r<|v-1) (AA r v) (AA r v)=0:=(Fh _ _).2;have uA:AG (AA r<|v-1) (AA r v) (AA r<|v-1)=0:=(Fh _ _).1;have uB:AG (AA r v) (AA r<|v+1) (AA r<|v-1)=AG (AA r<|v-1) (AA r v) (AA r<|v+1):=by rw[Jb]
 have wB:AG (AA r v) (AA r<|v+1) (AA r<|v+1)=0:=(Fh _ _).2;have wF:AG (AA r<|v+1) (AA r<|v-1) (AA r<|v+1)=0:=(Fh _ _).1;have uF:AG (AA r<|v+1) (AA r<|v-1) (AA r<|v-1)=0:=(Fh _ _).2;have seg:∀e:Int,2<=e->e<=r.length-2->¬ At (AA r<|v-1) (AA r<|v+1) (AA r<|v+e):=λe a b c=>no e a b ⟨QJ c U U,QJ c U U,QJ c U U⟩;have WV:(AA r<|v+1)≠(AA r<|v-1):=S.ne (by rw[show v+1-(v-1)=2 by lia];exact Hz U U);have t1:v-1-1+1=v-1:=U
 have iF:AA r (v-1-1)≠(AA r<|v-1):=λc=>S.st (v-1-1) (by rw[t1,c]);have lx:¬ At (AA r<|v-1) (AA r<|v-1-1) (AA r<|v+1):=λc=>by
  refine S.s.E8 (m:=v+1) (j:=v-1-1) ?_ ?_ (by rw[t1];exact LH c)
  .rw[show v+1-(v-1-1)=3 by lia,yM U U];lia
  .rw[show v+1-(v-1-1)=3 by lia,yM U U];lia
 have lu:¬ At (AA r<|v+1) (AA r<|v+1+1) (AA r<|v-1):=by
  refine S.s.E8 (m:=v-1) (j:=v+1) ?_ ?_
  .rw[show v-1-(v+1) = -2 by lia,CS U U];lia
  .rw[show v-1-(v+1) = -2 by lia,CS U U];lia
 refine⟨⟨LX U,?_,WJ iF WV (by rw[<-e2];exact seg _ U U) lx,WJ (S.st _) WV.symm (λc=>seg 2 U U (by rw[show v+2=v+1+1 by lia];exact LH c)) lu,?_,λk x1 x2 x3 x4 h=>?_⟩,?_⟩
 .rw[em];exact La (u:=(AA r v)) (by rw[Fi];lia)
 .rw[ew];exact La (u:=(AA r v)) (v:=(AA r<|v+1)) (w:=(AA r<|v-1)) (by rw[Jb];lia)
 .obtain⟨e,e0,e1,ek⟩:=S.norm v k;have ex:∀x:Int,(x-k)%(r.length:Int)=(x-(v+e))%(r.length:Int):=λx=>by rw[show x-(v+e)=(x-k)+(k-(v+e))by lia,AAH,ek,zG,zI _<|z9 _]
  rw[ex]at x1 x2 x3 x4;rw[Aw ek,Aw<|Br ek]at h;have n1:e≠r.length-1:=λc=>x1 (by rw[show v-1-(v+e)=r.length*(-1)by lia,AA3]);have n2:e≠r.length-2:=λc=>x2 (by rw[show v-1-(v+e)=1+r.length*(-1)by lia,zi,yM U U]);have n3:e≠1:=λc=>x3 (by rw[c,AAM];rfl);have n4:e≠0:=λc=>x4 (by rw[c,show v+1-(v+0)=1 by lia,yM U U]);obtain⟨Q,s,u,hQ,s0,s1,u0,u1,q1,q2⟩:=h;have sA:=GO (a:=(AA r<|v-1)) (b:=(AA r v)) q1 q2;have sB:=GO (a:=(AA r v)) (b:=(AA r<|v+1)) q1 q2;have sF:=GO (a:=(AA r<|v+1)) (b:=(AA r<|v-1)) q1 q2;rw[uA,ze,zr]at sA;rw[wB,uB,ze,zG]at sB;rw[uF,wF,ze,ze,zG]at sF;have pA:=yT s0<|yQ D0;have pB:=yT (U:0<=Q-s)<|yQ D0;have fin:∀(P R:Pt)(t:Int),0<=t->t<=Q->((P=AA r (v+e)/\R=AA r (v+e+1))\/(P=AA r (v+e+1)/\R=AA r (v+e)))->s*AG (AA r<|v-1) (AA r v) (AA r<|v+1)=(Q-t)*AG (AA r<|v-1) (AA r v) P+t*AG (AA r<|v-1) (AA r v) R->(Q-s)*AG (AA r<|v-1) (AA r v) (AA r<|v+1)=(Q-t)*AG (AA r v) (AA r<|v+1) P+t*AG (AA r v) (AA r<|v+1) R->0=(Q-t)*AG (AA r<|v+1) (AA r<|v-1) P+t*AG (AA r<|v+1) (AA r<|v-1) R->0<=AG (AA r<|v+1) (AA r<|v-1) R->False:=λP R t t0 t1 Iu eA eB eF hR=>by
   obtain⟨ia,ib⟩:=S.Zv D0 (e:=e) U U Iu hQ t0 t1 eA eB eF pA pB (AAC 0) hR<|.inr ⟨n2,n3⟩;rcases Iu with⟨_,hr⟩|⟨_,hr⟩
   .rw[hr,show v+e+1=v+(e+1)by lia]at ia ib hR;exact no (e+1) U U ⟨ia,ib,hR⟩
   .rw[hr]at ia ib hR;exact no e U U ⟨ia,ib,hR⟩
  by_cases c:0<=AG (AA r<|v+1) (AA r<|v-1) (AA r<|v+e+1)
  .exact fin _ _ u u0 u1 (.inl ⟨rfl,rfl⟩) sA sB sF c
  .refine fin _ _ (Q-u) U U (.inr ⟨rfl,rfl⟩) ?_ ?_ ?_ ?_
   .rw[sA];rw[show Q-(Q-u)=u by lia];lia
   .rw[sB];rw[show Q-(Q-u)=u by lia];lia
   .rw[sF];rw[show Q-(Q-u)=u by lia];lia
   .rcases ACn (AG (AA r<|v+1) (AA r<|v-1)<|AA r<|v+e) 0 with z|z
    .exfalso;have m1:=yT (U:0<=Q-u) (U:0<=-AG (AA r<|v+1) (AA r<|v-1) (AA r<|v+e));have m2:=yT u0 (U:0<=-AG (AA r<|v+1) (AA r<|v-1) (AA r<|v+e+1));rw[ABh]at m1 m2;by_cases cu:u=0
     .have:=yX hQ (U:0 < -AG (AA r<|v+1) (AA r<|v-1) (AA r<|v+e));rw[cu,AAr,zQ,zG]at sF;rw[ABh]at this;lia
     .have:=yX (U:0<u) (U:0 < -AG (AA r<|v+1) (AA r<|v-1) (AA r<|v+e+1));rw[ABh]at this;lia
    .exact z
 .unfold DS;rw[em];by_cases c:AG (AA r<|v-1-1) (AA r<|v-1) (AA r v)>0
  .refine .inl ⟨c,D0,?_⟩;apply zb;intro cn;have aT:0<AG (AA r<|v-1) (AA r v) (AA r<|v-1-1):=by rw[Jb<|AA r<|v-1-1];exact c
   have fT:0<=AG (AA r<|v+1) (AA r<|v-1) (AA r<|v-1-1):=by
    have:AG (AA r<|v+1) (AA r<|v-1) (AA r<|v-1-1) = - AG (AA r<|v-1-1) (AA r<|v-1) (AA r<|v+1):=by unfold AG;grind
    lia
   have bT:¬ 0<=AG (AA r v) (AA r<|v+1) (AA r<|v-1-1):=λb=>no (r.length-2) U U (by rw[e2];exact⟨U,b,fT⟩);have m1:=yT (yQ D0) fT;have m2:=yT (yQ D0)<|yQ aT;obtain⟨q,s,t,hq,s0,s1,u0,u1,f1,f2,_,_⟩:=Qi (yF:=(AA r v)) (V:=(AA r<|v+1)) (W:=(AA r<|v-1)) (P:=(AA r<|v-1)) (R:=AA r<|v-1-1) (Q:=1) (T:=0) (ax:=AG (AA r<|v-1) (AA r v)<|AA r<|v+1) (bx:=0) (fx:=0) U U U (by rw[Jb];exact D0) (by rw[uB];lia) (by rw[uF];lia) (by rw[uA];lia) (yQ D0) U U U;have:=S.s.share (i:=v-1-1) (j:=v) (s:=q-s) (by rw[show v-1-1-v = -2 by lia,CS U U];lia) hq U U u0 u1 (by rw[t1,<-f1];grind) (by rw[t1,<-f2];grind);rw[show v-1-1-v = -2 by lia,CS U U,show v-(v-1-1)=2 by lia,yM U U]at this;lia
  .exact .inr ⟨c,.inl D0⟩
theorem Sm.diag(h4:4<=r.length):∃(s:Int)(l:Nat),2<=l/\l+2<=r.length/\Line r s (s+l):=by
 obtain⟨v,hv⟩:=S.low;have D0:=S.conv hv;by_cases c:∃k:Nat,k<r.length/\(2<=k/\k+2<=r.length/\0<=AG (AA r<|v-1) (AA r v) (AA r<|v+(k:Int))/\0<=AG (AA r v) (AA r<|v+1) (AA r<|v+(k:Int))/\0<=AG (AA r<|v+1) (AA r<|v-1) (AA r<|v+(k:Int)))
 .obtain⟨m,hm,⟨h2,hn,a,b,f⟩,mx⟩:=Xo (λk:Nat=>2<=k/\k+2<=r.length/\0<=AG (AA r<|v-1) (AA r v) (AA r<|v+(k:Int))/\0<=AG (AA r v) (AA r<|v+1) (AA r<|v+(k:Int))/\0<=AG (AA r<|v+1) (AA r<|v-1) (AA r<|v+(k:Int))) (λk:Nat=>AG (AA r<|v+1) (AA r<|v-1)<|AA r<|v+(k:Int)) r.length c;refine⟨v,m,h2,hn,S.eZ D0 U U a b f λe e2 en ea eb ef=>?_⟩;have:=mx e.toNat U;rw[yk U]at this;exact this ⟨U,U,ea,eb,ef⟩
 .refine⟨v-1,2,U,h4,?_⟩;rw[show v-1+((2:Nat):Int)=v+1 by lia];refine S.ee h4 D0 λe e2 en z=>c ⟨e.toNat,U,U,U,?_⟩;rw[yk U];exact z
end
def Jn(r:List Pt)(i j:Int):Prop:=(i-j)%(r.length:Int)=1\/(j-i)%(r.length:Int)=1\/Line r i j
theorem Jn.congr{r:List Pt}{i j i' j':Int}(hi:(i-i')%(r.length:Int)=0)(hj:(j-j')%(r.length:Int)=0)(h:Jn r i j):Jn r i' j':=by
 have e:∀{a b c d:Int},(a-b)%(r.length:Int)=0->(c-d)%(r.length:Int)=0->(b-d)%(r.length:Int)=(a-c)%(r.length:Int):=λ{a b c d} h1 h2=>by
  have h3:(a-c-(b-d))%(r.length:Int)=0:=by rw[show a-c-(b-d)=(a-b)-(c-d)by lia,AAA,h1,h2];rfl
  exact(AAi.mpr h3).symm
 unfold Jn;rw[e hi hj,e hj hi];rcases h with h|h|h
 .exact .inl h
 .exact .inr<|.inl h
 .exact .inr<|.inr<|h.congr hi hj
theorem Jn.symm{r:List Pt}(S:Sm r){i j:Int}(h:Jn r i j):Jn r j i:=by
 rcases h with h|h|h
 .exact .inr<|.inl h
 .exact .inl h
 .exact .inr<|.inr<|Line.symm S h
theorem KZ{n d:Int}(h:d%n=1)(h1 : -n<d)(h2:d<n):d=1\/d=1-n:=by
 by_cases c:0<=d
 .rw[yM c h2]at h;exact .inl h
 .have:=CS (n:=n) (d:=-d) U U;rw[ABy]at this;lia
theorem lM{n:Int}(hn:1<n):(1:Int)%n=1:=yM U hn
section
variable{r:List Pt}(S:Sm r){s:Int}{l:Nat}(l2:2<=l)(ln:l+2<=r.length)(L:Line r s (s+l))
include S l2 ln L
theorem OH{a b:Int}(a0:0<=a)(a1:a<=l)(b0:0<=b)(b1:b<=l)(h:Jn (sub r s l) a b):Jn r (s+a)<|s+b:=by
 have h1:=lM (n:=(r.length:Int)) U;rcases h with h|h|h
 .rw[ES]at h;rcases KZ h U U with c|c
  .exact .inl (by rw[show s+a-(s+b)=1 by lia];exact h1)
  .refine .inr<|.inr ?_;rw[show a=0 by lia,show b=l by lia,zG];exact L
 .rw[ES]at h;rcases KZ h U U with c|c
  .exact .inr (.inl (by rw[show s+b-(s+a)=1 by lia];exact h1))
  .refine .inr<|.inr ?_;rw[show b=0 by lia,show a=l by lia,zG];exact Line.symm S L
 .exact .inr<|.inr<|ky S l2 ln L a0 a1 b0 b1 h
theorem bY{e k:Int}(e0:0<=e)(e1:e<l)(k1:(k-e)%((sub r s l).length:Int)≠0)(k2:(k-(e+1))%((sub r s l).length:Int)≠0)(j1:Jn (sub r s l) e k)(j2:Jn (sub r s l) k<|e+1) : ∃k:Int,(k-(s+e))%(r.length:Int)≠0/\(k-(s+e+1))%(r.length:Int)≠0/\Jn r (s+e) k/\Jn r k (s+e+1):=by
 obtain⟨a,a0,a1,ea⟩:=Jc r s l k;have z:∀x:Int,(x-x)%((sub r s l).length:Int)=0:=λx=>by rw[AAM];rfl
 have n1:a≠e:=λc=>k1 (by rw[<-c];exact ea);have n2:a≠e+1:=λc=>k2 (by rw[<-c];exact ea);have ne:∀{d:Int},d≠0->-(r.length:Int)<d->d<r.length->d%(r.length:Int)≠0:=λ{d} u v w c=>u<|Xr c v w;refine⟨s+a,ne U U U,ne U U U,OH S l2 ln L e0 U a0 a1<|j1.congr (z e) ea,?_⟩;rw[show s+e+1=s+(e+1)by lia];exact OH S l2 ln L a0 a1 U U<|j2.congr ea<|z _
end
theorem Sm.HR:∀(n:Nat){r:List Pt},r.length=n->Sm r->∀m:Int,∃k:Int,(k-m)%(r.length:Int)≠0/\(k-(m+1))%(r.length:Int)≠0/\Jn r m k/\Jn r k (m+1):=by
 intro n
 induction n using Nat.strongRecOn with
 |ind n ih=>
  intro r hn S m;have h3:=S.s.l3;by_cases c3:r.length=3
  .refine⟨m+2,?_,?_,.inl ?_,.inl ?_⟩
   .rw[show m+2-m=2 by lia,c3];decide
   .rw[show m+2-(m+1)=1 by lia,c3];decide
   .rw[show m-(m+2) = -2 by lia,c3];decide
   .rw[show m+2-(m+1)=1 by lia,c3];decide
  .obtain⟨s,l,l2,ln,L⟩:=S.diag U;have key:∀(s:Int)(l:Nat),2<=l->l+2<=r.length->Line r s (s+l)->∀e:Int,0<=e->e<l->∃k:Int,(k-(s+e))%(r.length:Int)≠0/\(k-(s+e+1))%(r.length:Int)≠0/\Jn r (s+e) k/\Jn r k (s+e+1):=λs l l2 ln L e e0 e1=>by obtain⟨k,k1,k2,j1,j2⟩:=ih (l+1) U (r:=sub r s l) (sub_len r s l) (Mg S l2 ln L) e;exact bY S l2 ln L e0 e1 k1 k2 j1 j2
   obtain⟨e,e0,e1,em⟩:=S.norm s m;have z:∀x:Int,(x-x)%(r.length:Int)=0:=λx=>by rw[AAM];rfl
   have fin:(∃k:Int,(k-(s+e))%(r.length:Int)≠0/\(k-(s+e+1))%(r.length:Int)≠0/\Jn r (s+e) k/\Jn r k (s+e+1)):=by
    by_cases c:e<l
    .exact key s l l2 ln L e e0 c
    .have:=key (s+l) (r.length-l) U U (YH S l2 ln L) (e-l) U U;rw[show s+(l:Int)+(e-l)=s+e by lia]at this;exact this
   obtain⟨k,k1,k2,j1,j2⟩:=fin;have Vm:=B8 em;refine⟨k,λc=>k1<|MM c em,λc=>k2<|MM c<|Br em,j1.congr Vm<|z k,j2.congr (z k)<|Br Vm⟩
theorem Sm.bX{r:List Pt}(S:Sm r){i j:Int}(i0:0<=i)(ij:i+2<=j)(jn:j<r.length)(h:Line r i j\/(i=0/\j=r.length-1)):∃k:Int,i<k/\k<j/\Jn r i k/\Jn r k j:=by
 have h3:=S.s.l3;rcases h with L|⟨rfl,rfl⟩
 .have hf:=NS U L.1.CG U U;have el:i+(((j-i).toNat:Nat):Int)=j:=U
  have l2:2<=(j-i).toNat:=U
  have ln:(j-i).toNat+2<=r.length:=U
  rw[<-el]at L;have Sq:=Mg S l2 ln L;have hl:=ES r i (j-i).toNat;obtain⟨k,k1,k2,j1,j2⟩:=Sm.HR _ rfl Sq ((j-i).toNat:Int);obtain⟨a,a0,a1,ea⟩:=Jc r i (j-i).toNat k;have z:∀x:Int,(x-x)%((sub r i (j-i).toNat).length:Int)=0:=λx=>by rw[AAM];rfl
  have z1:(((j-i).toNat:Int)+1-0)%((sub r i (j-i).toNat).length:Int)=0:=by rw[hl,AAr,ABK]
  have n1:a≠((j-i).toNat:Int):=λc=>k1 (by rw[<-c];exact ea);have n2:a≠0:=λc=>k2 (by subst c;exact MM ea<|B8 z1);have u1:=OH S l2 ln L U U a0 a1<|j1.congr (z _) ea;have u2:=OH S l2 ln L a0 a1 U U<|j2.congr ea z1;rw[el]at u1;rw[zG]at u2;exact⟨i+a,U,U,u2.symm S,u1.symm S⟩
 .obtain⟨k,k1,k2,j1,j2⟩:=Sm.HR _ rfl S<|(r.length:Int)-1;obtain⟨a,a0,a1,ea⟩:=S.norm 0 k;rw[zr]at ea;have z:∀x:Int,(x-x)%(r.length:Int)=0:=λx=>by rw[AAM];rfl
  have z1:((r.length:Int)-1+1-0)%(r.length:Int)=0:=by rw[show(r.length:Int)-1+1-0=r.length by lia,ABK]
  have n1:a≠(r.length:Int)-1:=λc=>k1 (by rw[<-c];exact ea);have n2:a≠0:=λc=>k2 (by subst c;exact MM ea<|B8 z1);exact⟨a,U,U,(j2.congr ea z1).symm S,(j1.congr (z _) ea).symm S⟩
theorem rV(k:Int){a b c d:Pt}(h:Bf a b c d):Bf (lean k a) (lean k b) (lean k c)<|lean k d:=by obtain⟨q,s,t,h1,h2,h3,h4,h5,e1,e2⟩:=h;unfold lean;exact⟨q,s,t,h1,h2,h3,h4,h5,e1,by dsimp only;grind⟩
theorem NY{k:Int}{A X B:Pt}(h:CB (lean k A) (lean k X)<|lean k B):CB A X B:=λs t hs ht e1 e2=>h s t hs ht e1 (by unfold lean;dsimp only;grind)
theorem NZ(k:Int){A X B:Pt}(h:CB A X B):CB (lean k A) (lean k X)<|lean k B:=λs t hs ht e1 e2=>h s t hs ht e1 (by
 unfold lean at e1 e2;dsimp only at e1 e2
 grind)
theorem Xd{r:List Pt}(h0:0<r.length)(k i j:Int):Line (r.map<|lean k) i j↔Line r i j:=by
 have hc:∀m,AA (r.map<|lean k) m=lean k (AA r m):=λm=>J0 h0 k m;constructor
 .rintro⟨p,c⟩;have p1:=p.CG;have p2:=p.f1;have p3:=p.f2;have p4:=p.f3;have p5:=p.f4;have p6:=p.nt
  rw[yP]at p1 p6;simp only[hc]at p2 p3 p4 p5 p6 c;rw[Pb]at c;exact⟨⟨p1,NY p2,NY p3,NY p4,NY p5,λm a b c d h=>p6 m a b c d<|rV k h⟩,c⟩
 .rintro⟨p,c⟩;refine⟨⟨by rw[yP];exact p.CG,?_,?_,?_,?_,?_⟩,?_⟩
  .rw[hc,hc,hc];exact NZ k p.f1
  .rw[hc,hc,hc];exact NZ k p.f2
  .rw[hc,hc,hc];exact NZ k p.f3
  .rw[hc,hc,hc];exact NZ k p.f4
  .intro m a b c d h;rw[yP]at a b c d;rw[hc,hc,hc,hc]at h;exact p.nt m a b c d<|Y9 h
  .rw[hc,hc,hc,hc,Pb];exact c
theorem Ua(f:Nat->Int):∀n:Nat,∃M:Int,0<M/\∀k,k<n->-M<f k/\f k<M
 |0=>⟨1,U,λk h=>U⟩
 |n+1=>by
  obtain⟨M,h0,h⟩:=Ua f n;refine⟨M+(f n).natAbs+1,U,λk hk=>?_⟩;by_cases e:k=n
  .rw[e];lia
  .have:=h k U;lia
theorem Rm.sm{r:List Pt}(R:Rm r):∃k:Int,Sm<|r.map<|lean k:=by
 have S:=R.simple;have h3:=S.l3;obtain⟨M,M0,hM⟩:=Ua (λk=>yy r (k:Int)) r.length;have hb:∀k:Int,-M<(AA r k).2/\(AA r k).2<M:=λk=>by have k0:=zE k (b:=(r.length:Int)) U;have k1:=yz k (U:(0:Int)<r.length);have:=hM (k%(r.length:Int)).toNat U;rw[yk k0]at this;unfold yy at this;rw[Et]at this;exact this
 have R':Rm<|r.map<|lean<|2*M:=R.map<|XR _;refine⟨2*M,R'.simple,λh=>R'.Ui h,λi j e=>?_⟩;unfold yy at e;rw[J0 U,J0 U]at e;unfold lean at e;dsimp only at e;rw[yP];have b1:=hb i;have b2:=hb j;have x:(AA r i).1=(AA r j).1:=by
  rcases zS (AA r i).1 (AA r j).1 with c|c|c
  .have:=yi (U:(AA r i).1+1<=(AA r j).1) (U:0<=2*M);rw[ACV]at this;lia
  .exact c
  .have:=yi (U:(AA r j).1+1<=(AA r i).1) (U:0<=2*M);rw[ACV]at this;lia
 rw[x]at e;exact S.inj<|zd x U
theorem Rm.HR{r:List Pt}(R:Rm r){i j:Int}(i0:0<=i)(ij:i+2<=j)(jn:j<r.length)(h:Line r i j\/(i=0/\j=r.length-1)):∃k:Int,i<k/\k<j/\(k=i+1\/Line r i k)/\(j=k+1\/Line r k j):=by
 have h3:=R.l3;obtain⟨K,S⟩:=R.sm;have hL:((r.map<|lean K).length:Int)=r.length:=by rw[yP]
 obtain⟨k,k1,k2,j1,j2⟩:=S.bX i0 ij (by rw[hL];exact jn) (by rw[hL,Xd U];exact h);unfold Jn at j1 j2;rw[hL,Xd U]at j1 j2;refine⟨k,k1,k2,?_,?_⟩
 .rcases j1 with c|c|c
  .have:=KZ c U U;lia
  .have:=KZ c U U;lia
  .exact .inr c
 .rcases j2 with c|c|c
  .have:=KZ c U U;lia
  .have:=KZ c U U;lia
  .exact .inr c
end AN
namespace L2.EV
open L2.PL
abbrev Pt:=AN.Pt
noncomputable def pv(p:Pt):PV:=.tup [.int p.1,.int p.2]
def AI(r:List Pt):List PV:=r.map pv
theorem B9(r:List Pt):(AI r).length=r.length:=yP ..
def Bd(n:Int)(p:Pt):Prop:=-n<=p.1/\p.1<=n/\-n<=p.2/\p.2<=n
theorem FL{i j:Int}(h : -1000000<=i/\i<=1000000):EU i j:=.inl ⟨U,U⟩
theorem DV(p:Pt):AL (.cl<|pv p) (.cl<|.int 0)=some (.cl<|.int p.1):=rfl
theorem Dl(p:Pt):AL (.cl<|pv p) (.cl<|.int 1)=some (.cl<|.int p.2):=rfl
theorem L9(i j:Int):Ba (.cl<|.int i) (.cl<|.int j)=some (.cl<|.bl<|i==j):=by simp[Ba,RV.any,Ao,PySem.SeqAt.shaped,PySem.PyData.canLay0,PySem.PyData.depth,PySem.PyData.eqv]
theorem JN(i j:Int):Bo (.cl<|.int i) (.cl<|.int j)=some (.cl<|.bl (!(i==j))):=by simp[Bo,RV.any,Ao,PySem.SeqAt.shaped,PySem.PyData.canLay0,PySem.PyData.depth,PySem.PyData.eqv]
theorem kF(i j:Bool):Ba (.cl<|.bl i) (.cl<|.bl j)=some (.cl<|.bl<|i==j):=by simp[Ba,RV.any,Ao,PySem.SeqAt.shaped,PySem.PyData.canLay0,PySem.PyData.depth,PySem.PyData.eqv]
theorem XQ(i j:Bool):Bo (.cl<|.bl i) (.cl<|.bl j)=some (.cl<|.bl (!(i==j))):=by simp[Bo,RV.any,Ao,PySem.SeqAt.shaped,PySem.PyData.canLay0,PySem.PyData.depth,PySem.PyData.eqv]
theorem GG(i j:Int):Bk (.cl<|.int i) (.cl<|.int j)=some (.cl<|.bl<|decide (i<j)):=rfl
theorem G8(i j:Int):B1 (.cl<|.int i) (.cl<|.int j)=some (.cl<|.bl<|decide (i<=j)):=rfl
theorem Fc(i j:Int):Bq (.cl<|.int i) (.cl<|.int j)=some (.cl<|.bl<|decide (j<i)):=rfl
theorem C4(i j:Int):Ab (.cl<|.int i) (.cl<|.int j)=some (.cl<|.int<|i-j):=rfl
theorem Hu(i j:Int):AZ (.cl<|.int i) (.cl<|.int j)=some (.cl<|.int<|i+j):=rfl
theorem Fd{i j:Int}(h:EU i j):CK (.cl<|.int i) (.cl<|.int j)=some (.cl<|.int<|i*j):=by simp[CK,kI,h]
theorem Eg{i j:Int}(h:0<j):A1 (.cl<|.int i) (.cl<|.int j)=some (.cl<|.int<|i%j):=by simp[A1,kI,h]
theorem XI{i j:Int}(h:0<j)(h2:j<1073741824):B4 (.cl<|.int i) (.cl<|.int j)=some (.cl<|.int<|i / j):=by simp[B4,kI,Kx,h,h2]
theorem E4(ps:List PV):An [.cl<|.lst ps]=some (.cl<|.int ps.length):=rfl
theorem kK(ps:List PV):An [.bo ps]=some (.cl<|.int ps.length):=rfl
theorem XO(ps:List PV):An [.fr ps]=some (.cl<|.int ps.length):=rfl
theorem jw(i j:Int):(if j<i then j else i)=min i j:=U
theorem jv(i j:Int):(if j>i then j else i)=max i j:=U
theorem OI(i j:Int):GH [.cl<|.int i,.cl<|.int j]=some (.cl<|.int<|min i j):=by simp only[GH,jw]
theorem KH(i j:Int):Dm [.cl<|.int i,.cl<|.int j]=some (.cl<|.int<|max i j):=by simp only[Dm,jv]
noncomputable def DM(i:Int):Int:=if i<0 then -i else i
theorem L7(i:Int):C3 [.cl<|.int i]=some (.cl<|.int<|DM i):=rfl
theorem q0(n:Nat):Ki 0 (n)=(List.range n).map λk:Nat=>PV.int<|k:=by apply AAv;intro k _;rw[show(0:Int)+(k)=k by lia]
theorem Yu(i j:Int):Ki i j=(List.range (j-i).toNat).map λk:Nat=>PV.int<|i+(k):=rfl
section
variable{α β:Type}{enc:α->PV}
theorem Du{g:GF}{t:BF}{fe:EF}{HI:AY}{c:α->Bool}{h:α->PV}:∀{xs:List α},(∀x∈xs,∃A5,g (enc x) HI=some A5/\t A5=some (c x)/\(c x=true->∃r,fe A5=some r/\r.clean=some (h x)))->collect g t fe HI (xs.map enc)=some ((xs.filter c).map h)
 |[],_=>rfl
 |x::xs,H=>by
  have ih:=Du λy hy=>H y<|yj _ hy;obtain⟨A5,e1,e2,e3⟩:=H x yq;rw[ye];unfold collect;rw[e1];dsimp only;rw[e2];cases hc:c x with
  |false=>
   dsimp only;rw[ih,List.filter_cons_of_neg<|by simp[hc]]
  |true=>
   obtain⟨r,e4,e5⟩:=e3 hc;dsimp only;rw[e4];dsimp only;rw[e5,ih,List.filter_cons_of_pos hc,ye]
theorem Fw{g:GF}{fe:EF}{HI:AY}{h:α->PV}{xs:List α}(H:∀x∈xs,∃A5 r,g (enc x) HI=some A5/\fe A5=some r/\r.clean=some (h x)):collect g BM fe HI (xs.map enc)=some (xs.map h):=by
 have:=Du (t:=BM) λx hx=>by obtain⟨A5,r,e1,e2,e3⟩:=H x hx;exact⟨A5,e1,rfl,λ_=>⟨r,e2,e3⟩⟩
 rw[this,ABO.mpr λ_ _=>rfl]
theorem GI{gt:GF}{body:SF}{c:α->Bool}{r:RV}(I:AY->Prop):∀{xs:List α}{ρ:AY},I ρ->(∀x∈xs,∀ρ,I ρ->∃A5,gt (enc x) ρ=some A5/\(c x=true->body A5=some (.rt r))/\(c x=false->∃BV,body A5=some (.nx BV)/\I BV))->(xs.any c=true->DX gt body (xs.map enc) ρ=some (.rt r))/\(xs.any c=false->∃ρ',DX gt body (xs.map enc) ρ=some (.nx ρ')/\I ρ')
 |[],ρ,hI,_=>⟨λh=>by simp at h,λ_=>⟨ρ,rfl,hI⟩⟩
 |x::xs,ρ,hI,H=>by
  obtain⟨A5,e1,h1,h2⟩:=H x yq ρ hI;rw[ye,zv];unfold DX;rw[e1];dsimp only;cases hc:c x with
  |true=>
   rw[h1 hc];exact⟨λ_=>rfl,λh=>by simp at h⟩
  |false=>
   obtain⟨BV,e2,hU⟩:=h2 hc;rw[e2];exact GI I hU λy hy=>H y<|yj _ hy
theorem R7{gt:GF}{body:SF}(f:β->α->β)(R:β->AY->Prop):∀{xs:List α}{b:β}{ρ:AY},R b ρ->(∀x∈xs,∀b ρ,R b ρ->∃A5 BV,gt (enc x) ρ=some A5/\body A5=some (.nx BV)/\R (f b x) BV)->∃ρ',DX gt body (xs.map enc) ρ=some (.nx ρ')/\R (xs.foldl f b) ρ'
 |[],b,ρ,hR,_=>⟨ρ,rfl,hR⟩
 |x::xs,b,ρ,hR,H=>by obtain⟨A5,BV,e1,e2,h2⟩:=H x yq b ρ hR;rw[ye];unfold DX;rw[e1];dsimp only;rw[e2];exact R7 f R h2 λy hy=>H y<|yj _ hy
end
theorem bg(r:List Pt)(i:Int)(h1 : -(r.length)<=i)(h2:i<r.length):CC (AI r) i=some (pv<|AN.AA r i):=by
 unfold CC Di;rw[B9];by_cases h0:0<=i
 .rw[yO h0,yO h2];have hi:i.toNat<r.length:=U
  simp only[y9,AI];unfold AN.AA;rw[yM h0 h2];simp[List.getD,yv hi]
 .rw[yN h0,yO h1];have hi:(i+r.length).toNat<r.length:=U
  simp only[y9,AI];unfold AN.AA;rw[<-AB4 i r.length,yM U U];simp[List.getD,yv hi]
theorem CJ(r:List Pt)(i:Int)(h1 : -(r.length)<=i)(h2:i<r.length):AL (.cl<|.lst<|AI r) (.cl<|.int i)=some (.cl<|pv<|AN.AA r i):=by show(CC (AI r) i).map _=_;rw[bg r i h1 h2];rfl
theorem NC(bs:List Bool):Fv (bs.map PV.bl)=some bs:=by
 induction bs with
 |nil=>rfl
 |cons b bs ih=>rw[ye,Fv,ih];rfl
theorem Rk(bs:List Int):C2 (bs.map PV.int)=some bs:=by
 induction bs with
 |nil=>rfl
 |cons b bs ih=>rw[ye,C2,ih];rfl
open L2.PL L2.K
open AN (AG Ak A4 AA M nb)
theorem DC{n:Int}{r:List Pt}(hn:0<=n)(h:∀p∈r,Bd n p)(i:Int):Bd n<|AA r i:=by
 unfold AN.AA;rw[List.getD];cases e:r[(i%(r.length)).toNat]? with
 |none=>exact⟨by simp;lia,by simp;lia,by simp;lia,by simp;lia⟩
 |some p=>exact h p<|zl e
theorem Bg{N n:Nat}{g:SF}{ps:List PV}{r:RV}(h:ps.length=n)(e:g (BG N ps)=some (.rt r)):denote N n g ps=some r:=by unfold denote;rw[yO h,e];rfl
theorem C5{f:EF}{ρ:AY}{p:PV}(e:f ρ=some (.cl p)):Aj f ρ=some (.rt<|.cl p):=by unfold Aj;rw[e]
theorem JW{f:EF}{ρ:AY}{p:List PV}(e:f ρ=some (.fr p)):Aj f ρ=some (.rt<|.fr p):=by unfold Aj;rw[e]
theorem Bb{k:List RV->Option RV}{g:AF}{ρ:AY}{rs:List RV}{z:RV}(e:g ρ=some rs)(h:k rs=some z):fB k g ρ=some z:=by unfold fB;rw[e];exact h
theorem AM{f:EF}{g:AF}{ρ:AY}{x:RV}{xs:List RV}(e:f ρ=some x)(h:g ρ=some xs):AD f g ρ=some (x::xs):=by unfold AD;rw[e,h]
theorem AW(ρ:AY):AH ρ=some []:=rfl
theorem AQ{k:RV->RV->Option RV}{fa fb:EF}{ρ:AY}{x y z:RV}(ha:fa ρ=some x)(hb:fb ρ=some y)(h:k x y=some z):f2 k fa fb ρ=some z:=by unfold f2;rw[ha];rw[hb];exact h
theorem A6{F:List PV->Option RV}{g:AF}{ρ:AY}{rs:List RV}{ps:List PV}{z:RV}(e:g ρ=some rs)(c:Cm rs=some ps)(h:F ps=some z):AS F g ρ=some z:=by unfold AS;rw[e];dsimp only;rw[c];exact h
theorem J3{f g:EF}{ρ:AY}{a b:Bool}(ha:f ρ=some (.cl<|.bl a))(hb:a=true->g ρ=some (.cl<|.bl b)):Cy f g ρ=some (.cl<|.bl<|a&&b):=by
 unfold Cy;rw[ha];cases a
 .rfl
 .exact hb rfl
theorem NP{f g:EF}{ρ:AY}{a b:Bool}(ha:f ρ=some (.cl<|.bl a))(hb:a=false->g ρ=some (.cl<|.bl b)):DK f g ρ=some (.cl<|.bl (a||b)):=by
 unfold DK;rw[ha];cases a
 .exact hb rfl
 .rfl
theorem Az{f:EF}{ρ:AY}{a:Bool}(ha:f ρ=some (.cl<|.bl a)):AR f ρ=some a:=by unfold AR;rw[ha]
theorem Eu{f:BF}{ρ:AY}{a:Bool}(ha:f ρ=some a):CO f ρ=some (!a):=by unfold CO;rw[ha];rfl
theorem Ia{f g:BF}{ρ:AY}{a b:Bool}(ha:f ρ=some a)(hb:a=true->g ρ=some b):CN f g ρ=some (a&&b):=by
 unfold CN;rw[ha];cases a
 .rfl
 .exact hb rfl
theorem F1{f g:BF}{ρ:AY}{a b:Bool}(ha:f ρ=some a)(hb:a=false->g ρ=some b):CF f g ρ=some (a||b):=by
 unfold CF;rw[ha];cases a
 .exact hb rfl
 .rfl
theorem sq{g h:SF}{ρ ρ':AY}(e:g ρ=some (.nx ρ')):AO g h ρ=h ρ':=by unfold AO;rw[e]
theorem Cs{g h:SF}{ρ:AY}{r:RV}(e:g ρ=some (.rt r)):AO g h ρ=some (.rt r):=by unfold AO;rw[e]
theorem A7{i:Nat}{f:EF}{ρ:AY}{r:RV}{p:PV}(e:f ρ=some r)(c:r.clean=some p):Aa i f ρ=some (.nx<|ρ.set i<|some<|.im p):=by unfold Aa;rw[e];dsimp only;rw[c]
theorem set_own{i:Nat}{f:EF}{ρ:AY}{ps:List PV}(e:f ρ=some (.fr ps)):DL i f ρ=some (.nx<|ρ.set i<|some<|.own ps):=by unfold DL;rw[e]
theorem BZ{t:BF}{g h:SF}{ρ:AY}(e:t ρ=some true):Aq t g h ρ=g ρ:=by unfold Aq;rw[e]
theorem BO{t:BF}{g h:SF}{ρ:AY}(e:t ρ=some false):Aq t g h ρ=h ρ:=by unfold Aq;rw[e]
theorem B7{its:IF}{gt:GF}{body:SF}{ρ:AY}{xs:List PV}(e:its ρ=some xs):Bm its gt body ρ=DX gt body xs ρ:=by unfold Bm;rw[e]
theorem Jo{a b c:Pt}(ha:Bd 1000 a)(hb:Bd 1000 b):EX [pv a,pv b,pv c]=some (.cl<|.int<|AG a b c):=by have h1:EU (b.1-a.1)<|c.2-a.2:=FL (by unfold Bd at *;lia);have h2:EU (b.2-a.2)<|c.1-a.1:=FL (by unfold Bd at *;lia);simp[EX,denote,VU,BG,Aj,f2,AB,fC,DV,Dl,Ab,kI,CK,h1,h2,Out.val,AG]
def pw(a b:Pt):PV:=.tup [pv a,pv b]
theorem JL(a b:Pt):AL (.cl<|pw a b) (.cl<|.int 0)=some (.cl<|pv a):=rfl
theorem JM(a b:Pt):AL (.cl<|pw a b) (.cl<|.int 1)=some (.cl<|pv b):=rfl
theorem K1{a b c:Pt}(ha:Bd 1000 a)(hb:Bd 1000 b):Fp [pv c,pw a b]=some (.cl<|.bl<|Ak a b c):=by
 have e1:=Jo (c:=c) ha hb;have e2:Ak a b c=(decide (AG a b c=0)&&((decide (min a.1 b.1<=c.1)&&decide (c.1<=max a.1 b.1))&&(decide (min a.2 b.2<=c.2)&&decide (c.2<=max a.2 b.2)))):=by rw[Ak,ABR,ABR]
 rw[e2];have e3:(!(AG a b c==0)) = !(decide (AG a b c=0)):=rfl;have e4:=G8 (min a.1 b.1) c.1;have e5:=G8 c.1<|max a.1 b.1;have e6:=G8 (min a.2 b.2) c.2;have e7:=G8 c.2<|max a.2 b.2;have e8:=JN (AG a b c) 0;rw[e3]at e8;generalize decide (min a.1 b.1<=c.1)=b1 at *
 generalize decide (c.1<=max a.1 b.1)=b2 at *
 generalize decide (min a.2 b.2<=c.2)=b3 at *
 generalize decide (c.2<=max a.2 b.2)=b4 at *
 generalize decide (AG a b c=0)=b5 at *
 cases b5
 .simp only[Fp,denote,Qa,BG,AO,Aa,Aq,Aj,f2,AB,fC,AR,AS,AD,AH,Cm,Out.val,RV.clean,
  yn,zq,ye,ABB,AAQ,zy,List.replicate,List.getElem?_cons_zero,zu,AAd,ABY,y9,
  JL,JM,AAW,Nat.reduceAdd,e1,e8,ABZ,ABv]
 .cases b1<;>cases b2<;>cases b3<;>cases b4<;>simp only[Fp,denote,Qa,BG,AO,Aa,Aq,Aj,f2,AB,fC,AR,AS,AD,AH,Cm,Dx,fB,Cy,Out.val,RV.clean,
  yn,zq,ye,ABB,AAQ,zy,List.replicate,List.getElem?_cons_zero,zu,AAd,ABY,y9,
  DV,Dl,JL,JM,Ax,OI,KH,AAW,Nat.reduceAdd,e1,e8,e4,e5,e6,e7,ACf,AAE,ABv]
theorem T8{a b c d:Pt}(ha:Bd 1000 a)(hb:Bd 1000 b):K2 [pw a b,pw c d]=some (.cl<|.bl<|AN.parts a b c d):=by
 have e1:=Jo (c:=c) ha hb;have e2:=Jo (c:=d) ha hb;have e3:=GG (AG a b c) 0;have e4:=Fc (AG a b c) 0;have e5:=GG (AG a b d) 0;have e6:=Fc (AG a b d) 0;unfold AN.parts;generalize AG a b c=x at *
 generalize AG a b d=y at *
 generalize decide (x<0)=b1 at *
 generalize decide (0<x)=b2 at *
 generalize decide (y<0)=b3 at *
 generalize decide (0<y)=b4 at *
 cases b1<;>cases b2<;>cases b3<;>cases b4<;>simp only[K2,denote,VQ,BG,AO,Aa,Aj,f2,AB,fC,AS,AD,AH,Cm,Cy,DK,Out.val,RV.clean,yn,zq,ye,ABB,AAQ,zy,List.replicate,List.getElem?_cons_zero,zu,AAd,ABY,y9,JL,JM,AAW,Nat.reduceAdd,e1,e2,e3,e4,e5,e6,AAE,ABv,AA0,Bool.or_true]
theorem T6{a b c d:Pt}(ha:Bd 1000 a)(hb:Bd 1000 b)(hc:Bd 1000 c)(hd:Bd 1000 d):HN [pw a b,pw c d]=some (.cl<|.bl<|A4 a b c d):=by
 have e1:=T8 (c:=c) (d:=d) ha hb;have e2:=T8 (c:=a) (d:=b) hc hd;have e3:=K1 (c:=c) ha hb;have e4:=K1 (c:=d) ha hb;have e5:=K1 (c:=a) hc hd;have e6:=K1 (c:=b) hc hd;unfold A4;generalize AN.parts a b c d=b1 at *
 generalize AN.parts c d a b=b2 at *
 generalize Ak a b c=b3 at *
 generalize Ak a b d=b4 at *
 generalize Ak c d a=b5 at *
 generalize Ak c d b=b6 at *
 cases b1<;>cases b2<;>cases b3<;>cases b4<;>cases b5<;>cases b6<;>simp only[HN,denote,VO,BG,AO,Aa,Aq,Aj,f2,AB,fC,AR,AS,AD,AH,Cm,DK,CN,Out.val,RV.clean,yn,zq,ye,ABB,AAQ,zy,List.replicate,List.getElem?_cons_zero,zu,AAd,ABY,y9,JL,JM,Ax,AAW,Nat.reduceAdd,e1,e2,e3,e4,e5,e6,AAE,ABv,AA0,Bool.or_true]
def EL(p:Pt):Bool:=decide (DM p.1<=100)&&decide (DM p.2<=100)
theorem SK{p:Pt}:EL p=true↔Bd 100 p:=by
 have a1:∀i:Int,DM i<=100↔(-100<=i/\i<=100):=λi=>by unfold DM;split<;>lia
 simp only[EL,yR,yZ,a1];exact⟨λh=>⟨h.1.1,h.1.2,h.2.1,h.2.2⟩,λh=>⟨⟨h.1,h.2.1⟩,h.2.2.1,h.2.2.2⟩⟩
theorem aF{r:List Pt}(hl:r.length<=1000):Mt [.lst<|AI r]=some (.cl<|.bl<|r.all EL):=by
 have hc:collect (AV 0) BM (Cy (f2 B1 (fB C3<|AD (f2 AL (AB 0)<|fC<|.int 0) AH)<|fC<|.int 100)<|f2 B1 (fB C3<|AD (f2 AL (AB 0)<|fC<|.int 1) AH)<|fC<|.int 100) (Bv 1 [] [some<|.im<|.lst<|AI r]) (AI r)=some ((r.map EL).map PV.bl):=by rw[zM];refine Fw λp _=>⟨_,.cl<|.bl<|EL p,rfl,?_,rfl⟩;simp only[Bv,Cy,f2,fB,AD,AH,AB,fC,List.replicate,AAQ,zy,AAd,List.getElem?_cons_zero,DV,L7,G8];unfold EL;cases decide (DM p.1<=100)<;>rfl
 simp only[Mt,denote,U1,BG,Aj,fB,AD,AH,A0,A9,AB,yn,zq,ye,ABB,AAQ,zy,List.replicate,List.getElem?_cons_zero,RV.list,AAW,Nat.reduceAdd,Nat.reduceSub,AAc,AA6];rw[yO (by rw[B9];exact hl),hc];simp only[zf,Dj,RV.list,y9,NC,Out.val];rw[ABp];rfl
def HS(r:List Pt):Bool:=(List.range r.length).all λk=>!(AG (AA r<|(k:Int)-2) (AA r<|(k:Int)-1) (AA r k)==0)
theorem Ug{n:Nat}(h:n<=1000):HJ<|n:=⟨U,U⟩
theorem DE{g:AF}{ρ:AY}{n:Nat}(e:g ρ=some [.cl<|.int<|n])(h:n<=1000):Bh g ρ=some ((List.range n).map λk:Nat=>PV.int<|k):=by unfold Bh;rw[e];dsimp only;rw[yO<|Ug h,q0]
theorem Cg{its:IF}{own:Nat}{cap:List Nat}{g:GF}{t:BF}{fe:EF}{ρ:AY}{xs ys:List PV}(e:its ρ=some xs)(h:xs.length<=1000)(e2:collect g t fe (Bv own cap ρ) xs=some ys):A0 its own cap g t fe ρ=some (.fr ys):=by
 unfold A0;rw[e];dsimp only;rw[yO h,e2]
 rfl
theorem aE{r:List Pt}(hl:r.length<=1000)(h2:2<=r.length)(hb:∀p∈r,Bd 1000 p):Pc [.lst<|AI r]=some (.cl<|.bl<|HS r):=by
 have hc:collect (AV 0) BM (f2 Bo (AS EX<|AD (f2 AL (AB 1)<|f2 Ab (AB 0)<|fC<|.int 2)<|AD (f2 AL (AB 1)<|f2 Ab (AB 0)<|fC<|.int 1)<|AD (f2 AL (AB 1)<|AB 0) AH)<|fC<|.int 0) (Bv 1 [0] [some<|.im<|.lst<|AI r]) ((List.range r.length).map λk:Nat=>PV.int<|k) =
  some (((List.range r.length).map λk:Nat=>!(AG (AA r<|(k)-2) (AA r<|(k)-1) (AA r k)==0)).map PV.bl):=by
  rw[zM];refine Fw λk hk=>⟨_,.cl<|.bl (!(AG (AA r<|(k)-2) (AA r<|(k)-1) (AA r k)==0)),rfl,?_,rfl⟩;have Bc:=yS.mp hk;simp only[Bv,f2,AS,AD,AH,AB,fC,Cm,RV.clean,List.replicate,ye,AAQ,zy,AAd,List.getElem?_cons_zero,zu,Option.join_some,C4,CJ r ((k)-2) U U,CJ r ((k)-1) U U,CJ r (k) U U,Jo (DC U hb _)<|DC U hb _,JN]
 have e:=Cg (DE (g:=AD (fB An<|AD (AB 0) AH) AH) (by rw[<-B9];rfl) hl) (by simpa using hl) hc;refine Bg rfl<|C5<|Bb (AM e<|AW _) ?_;simp only[Dj,RV.list,y9,NC,zf,ABp]
 rfl
def BR(r:List Pt):List<|Pt×Pt:=(List.range r.length).map λk:Nat=>(AA r k,AA r<|(k:Int)+1)
def BQ(ws:List<|Pt×Pt):List PV:=ws.map λw=>pw w.1 w.2
theorem M5{r:List Pt}(hl:r.length<=1000)(h1:0<r.length):HP [.lst<|AI r]=some (.fr<|BQ<|BR r):=by
 have hc:collect (AV 0) BM (Am<|AD (f2 AL (AB 1)<|AB 0)<|AD (f2 AL (AB 1)<|f2 A1 (f2 AZ (AB 0)<|fC<|.int 1)<|fB An<|AD (AB 1) AH) AH) (Bv 1 [0] [some<|.im<|.lst<|AI r]) ((List.range r.length).map λk:Nat=>PV.int<|k)=some (BQ<|BR r):=by
  unfold BQ BR;rw[zM];refine Fw λk hk=>⟨_,.cl<|pw (AA r k)<|AA r<|(k)+1,rfl,?_,rfl⟩;have Bc:=yS.mp hk;have hm:AA r (((k)+1)%(r.length))=AA r ((k)+1):=by unfold AN.AA;rw[zI _<|z9 _]
  simp only[Bv,f2,Am,AD,AH,AB,fC,fB,RV.clean,List.replicate,ye,AAQ,zy,AAd,List.getElem?_cons_zero,zu,Option.join_some,Hu,E4,B9,Eg (i:=(k)+1) (j:=(r.length)) U,CJ r (k) U U,CJ r (((k)+1)%(r.length)) U<|yz _ U,hm]
  rfl
 have e:=Cg (DE (g:=AD (fB An<|AD (AB 0) AH) AH) (by rw[<-B9];rfl) hl) (by simpa using hl) hc;exact Bg rfl<|JW e
theorem kH(i a b:Int):BB false (.cl<|.int i) (.cl<|.tup [.int a,.int b])=some (.cl<|.bl (i==a||i==b)):=by simp only[BB,RV.seq,C2,zf,zv,ABq,AA0,AAc,AA6];rw[ABL,ABL (a:=b)]
theorem Px{n i j:Int}(hn:0<n):GW [.int n,.int i,.int j]=some (.cl<|.bl<|nb n<|j-i):=by simp only[GW,denote,U2,BG,Aj,f2,AB,fC,Am,AD,AH,Cm,RV.clean,Out.val,yn,zq,ye,AAQ,zy,List.replicate,List.getElem?_cons_zero,zu,y9,C4,Eg hn,kH,AAW,Nat.reduceAdd,Nat.reduceSub,Nat.reduceLeDiff,nb]
def Tq(r:List Pt)(k:Int):PV:=pw (AA r k)<|AA r<|k+1
theorem Zx(r:List Pt)(k:Nat)(h:k<r.length):AL (.cl<|.lst<|BQ<|BR r) (.cl<|.int<|k)=some (.cl<|Tq r k):=by
 show(CC _ _).map _=_;have:CC (BQ<|BR r) (k)=some (Tq r k):=by unfold CC Di BQ BR;simp[h,Tq]
 rw[this];rfl
def IM(r:List Pt):Bool:=!((List.range r.length).any λk=>(List.range<|r.length-(k+1)).any λd=>!(nb r.length<|((k:Int)+1+d)-k)&&M r k ((k:Int)+1+d))
theorem aG{r:List Pt}(hl:r.length<=1000)(h1:0<r.length)(hb:∀p∈r,Bd 1000 p):P1 [.lst<|AI r]=some (.cl<|.bl<|IM r):=by
 have Ef:(BQ<|BR r).length=r.length:=by simp[BQ,BR]
 refine Bg rfl ?_;unfold VW;rw[sq<|A7 (A6 (AM rfl<|AW _) rfl<|M5 hl h1) rfl];show AO _ _ [some<|.im<|.lst<|AI r,some<|.im<|.lst<|BQ<|BR r,none,none]=_;have I0:∀a b:Option SV,Bh (AD (fB An<|AD (AB 1) AH) AH) [some<|.im<|.lst<|AI r,some<|.im<|.lst<|BQ<|BR r,a,b]=some ((List.range r.length).map λk:Nat=>PV.int<|k):=λa b=>DE (by rw[<-Ef];rfl) hl;have H:=GI (gt:=AV 2) (λρ=>∃a b,ρ=[some<|.im<|.lst<|AI r,some<|.im<|.lst<|BQ<|BR r,a,b]) (xs:=List.range r.length) ⟨none,none,rfl⟩ (by
  rintro k hk ρ ⟨a,b,rfl⟩;have Bc:=yS.mp hk;refine⟨_,rfl,?_⟩;have hr:C0 (AD (f2 AZ (AB 2)<|fC<|.int 1)<|AD (fB An<|AD (AB 1) AH) AH) [some<|.im<|.lst<|AI r,some<|.im<|.lst<|BQ<|BR r,some<|.im<|.int k,b]=some ((List.range<|r.length-(k+1)).map λd:Nat=>PV.int<|(k)+1+d):=by
   have e1:AD (f2 AZ (AB 2)<|fC<|.int 1) (AD (fB An<|AD (AB 1) AH) AH) [some<|.im<|.lst<|AI r,some<|.im<|.lst<|BQ<|BR r,some<|.im<|.int k,b]=some [.cl<|.int<|(k)+1,.cl<|.int<|r.length]:=by rw[<-Ef];rfl
   unfold C0;rw[e1];dsimp only;have c1:HJ<|(k)+1:=⟨U,U⟩;rw[yO ⟨c1,Ug hl⟩,Yu]
   congr 3
   lia
  have H2:=GI (enc:=λd:Nat=>PV.int<|(k)+1+d) (gt:=AV 3) (body:=(Aq (CN (CO<|AR<|AS GW<|AD (fB An<|AD (AB 1) AH)<|AD (AB 2)<|AD (AB 3) AH)<|AR<|AS HN<|AD (f2 AL (AB 1)<|AB 2)<|AD (f2 AL (AB 1)<|AB 3) AH) (Aj<|fC<|.bl false) Ax))
   (c:=λd=>!(nb r.length<|((k)+1+d)-k)&&M r k ((k)+1+d))
   (λρ=>∃b,ρ=[some<|.im<|.lst<|AI r,some<|.im<|.lst<|BQ<|BR r,some<|.im<|.int k,b]) (xs:=List.range<|r.length-(k+1)) ⟨b,rfl⟩ (by
   rintro d hd ρ ⟨b,rfl⟩;have Hi:=yS.mp hd;refine⟨_,rfl,?_⟩;have et:(CN (CO<|AR<|AS GW<|AD (fB An<|AD (AB 1) AH)<|AD (AB 2)<|AD (AB 3) AH)<|AR<|AS HN<|AD (f2 AL (AB 1)<|AB 2)<|AD (f2 AL (AB 1)<|AB 3) AH) [some<|.im<|.lst<|AI r,some<|.im<|.lst<|BQ<|BR r,some<|.im<|.int k,some<|.im<|.int<|(k)+1+d]=some (!(nb r.length<|((k)+1+d)-k)&&M r k ((k)+1+d)):=by refine Ia (Eu<|Az<|A6 (rs:=[.cl<|.int<|r.length,.cl<|.int k,.cl<|.int<|(k)+1+d]) (by rw[<-Ef];rfl) rfl<|Px U) λ_=>?_;have g1:=Zx r k Bc;have g2:=Zx r (k+1+d) U;refine Az<|A6 (AM (AQ rfl rfl g1)<|AM (AQ rfl rfl g2)<|AW _) rfl ?_;exact T6 (DC U hb _) (DC U hb _) (DC U hb _)<|DC U hb _
   refine⟨λh=>?_,λh=>⟨_,?_,some<|.im<|.int<|(k)+1+d,rfl⟩⟩
   .show Aq _ _ _ [some<|.im<|.lst<|AI r,some<|.im<|.lst<|BQ<|BR r,some<|.im<|.int k,some<|.im<|.int<|(k)+1+d]=_;rw[h]at et;rw[BZ et];rfl
   .show Aq _ _ _ [some<|.im<|.lst<|AI r,some<|.im<|.lst<|BQ<|BR r,some<|.im<|.int k,some<|.im<|.int<|(k)+1+d]=_;rw[h]at et;rw[BO et];rfl)
  refine⟨λh=>?_,λh=>?_⟩
  .exact(B7 hr).trans (H2.1 h)
  .obtain⟨ρ',e,b',rfl⟩:=H2.2 h;exact⟨_,(B7 hr).trans e,_,_,rfl⟩)
 unfold IM;cases ha:(List.range r.length).any λk=>(List.range<|r.length-(k+1)).any λd=>!(nb r.length<|((k)+1+d)-k)&&M r k ((k)+1+d)with
 |true=>exact Cs<|(B7<|I0 none none).trans<|H.1 ha
 |false=>
  obtain⟨ρ',e,a,b,rfl⟩:=H.2 ha;rw[sq<|(B7<|I0 none none).trans e];rfl
theorem ZO(f:Int->Int):∀n:Nat,((List.range n).map λk:Nat=>f k).sum=AN.AU f n
 |0=>rfl
 |n+1=>by rw[AAm,zP,ACO,ZO f n];simp[AN.AU]
theorem Eb{f:EF}{ρ:AY}{r:RV}{ps:List PV}(e:f ρ=some r)(h:r.list=some ps):A9 false f ρ=some ps:=by unfold A9;rw[e];exact h
theorem bw:Bd 1000 (0,0):=by unfold Bd;lia
theorem t1{r:List Pt}(hb:∀p∈r,Bd 1000 p)(k:Nat):(AS EX<|AD (fC<|.tup [(.int 0),(.int 0)])<|AD (f2 AL (AB 0)<|fC<|.int 0)<|AD (f2 AL (AB 0)<|fC<|.int 1) AH) [some<|.im<|pw (AA r k)<|AA r<|(k)+1]=some (.cl<|.int<|AN.B2 (AA r k)<|AA r<|(k)+1):=by
 refine A6 (ps:=[pv (0,0),pv<|AA r k,pv<|AA r<|(k)+1]) (AM rfl<|AM (AQ rfl rfl<|JL _ _)<|AM (AQ rfl rfl<|JM _ _)<|AW _) rfl ?_;rw[Jo bw<|DC U hb _];have:AG (0,0) (AA r k) (AA r<|(k)+1)=AN.B2 (AA r k) (AA r<|(k)+1):=by simp[AG,AN.B2]
 rw[this]
theorem t2{r:List Pt}(hb:∀p∈r,Bd 1000 p):collect (AV 0) BM (AS EX<|AD (fC<|.tup [(.int 0),(.int 0)])<|AD (f2 AL (AB 0)<|fC<|.int 0)<|AD (f2 AL (AB 0)<|fC<|.int 1) AH) (Bv 1 [] [some<|.im<|.lst<|AI r]) (BQ<|BR r) = some (((List.range r.length).map λk:Nat=>AN.B2 (AA r k)<|AA r<|(k)+1).map PV.int):=by unfold BQ BR;rw[zM,zM];exact Fw λk hk=>⟨_,.cl<|.int<|AN.B2 (AA r k)<|AA r<|(k)+1,rfl,t1 hb k,rfl⟩
theorem t3{r:List Pt}(hl:r.length<=1000)(h1:0<r.length):A9 false (AS HP<|AD (AB 0) AH) [some<|.im<|.lst<|AI r]=some (BQ<|BR r):=by exact Eb (A6 (AM rfl<|AW _) rfl<|M5 hl h1) rfl
theorem aH{r:List Pt}(hl:r.length<=1000)(h1:0<r.length)(hb:∀p∈r,Bd 1000 p):Ph [.lst<|AI r]=some (.cl<|.int<|AN.DJ r):=by
 have Ef:(BQ<|BR r).length=r.length:=by simp[BQ,BR]
 have e:=Cg (t3 hl h1) U<|t2 hb;refine Bg rfl<|C5<|Bb (AM e<|AW _) ?_;simp only[G9,RV.list,y9,Rk,zf];rw[ZO λk=>AN.B2 (AA r k)<|AA r<|k+1,AN.DJ]
noncomputable def kl(r:List Pt):List<|List Int:=r.map λp=>[p.1,p.2]
theorem Tg:∀r:List Pt,II (AI r)=some (kl r)
 |[]=>rfl
 |p::r=>by
  have ih:=Tg r;show II (pv p::AI r)=_;unfold pv II;rw[ih]
  rfl
def dist(r:List Pt):Nat:=(Internal.ST.Dp []<|kl r).length
theorem V0{f:EF}{ρ:AY}{r:RV}{ps:List PV}{ks:List (List Int)}(e:f ρ=some r)(h:r.list=some ps)(h2:II ps=some ks)(h3:ks.length<=17):Hd f ρ=some (.cl<|.int (Internal.ST.Dp [] ks).length):=by unfold Hd;rw[e];dsimp only;rw[h,y9,h2];dsimp only;rw[yO h3]
theorem NO{fa fb fc:EF}{ρ:AY}{i j k:Int}(ha:fa ρ=some (.cl<|.int i))(hb:fb ρ=some (.cl<|.int j))(hc:fc ρ=some (.cl<|.int k)):Dx B1 B1 fa fb fc ρ=some (.cl<|.bl<|decide (i<=j)&&decide (j<=k)):=by
 unfold Dx;rw[ha,hb];dsimp only;rw[G8];cases h:decide (i<=j)
 .rfl
 .dsimp only;rw[hc];dsimp only;rw[G8,AAE]
def DP(r:List Pt):Bool:=(decide ((3:Int)<=r.length)&&decide ((r.length:Int)<=12))&&(((dist r:Int)==(r.length:Int))&&(r.all EL&&(HS r&&(IM r&&decide (0<AN.DJ r)))))
theorem aS{r:List Pt}:Pk [.lst<|AI r]=some (.cl<|.bl<|DP r):=by
 refine Bg rfl ?_;unfold U8;have el:fB An (AD (AB 0) AH) (BG 1 [.lst<|AI r])=some (.cl<|.int<|r.length):=by rw[<-B9];rfl
 have e1:=Eu<|Az<|NO (fa:=fC<|.int 3) (fc:=fC<|.int 12) rfl el rfl;unfold DP;cases h1:(decide ((3:Int)<=r.length)&&decide ((r.length:Int)<=12))with
 |false=>
  rw[h1]at e1;exact Cs<|(BZ e1).trans rfl
 |true=>
  rw[h1]at e1;rw[sq<|(BO e1).trans rfl,AAE];have e2:=Az (AQ (V0 (f:=AB 0) rfl rfl (Tg r) (by unfold kl;rw[yP];lia)) el<|JN _ _);have ec:AD (AB 0) AH (BG 1 [.lst<|AI r])=some [.cl<|.lst<|AI r]:=rfl;cases h2:((dist r:Int)==(r.length))with
  |false=>
   rw[show(((Internal.ST.Dp []<|kl r).length:Int)==(r.length))=false from h2]at e2;exact Cs<|(BZ e2).trans rfl
  |true=>
   rw[show(((Internal.ST.Dp []<|kl r).length:Int)==(r.length))=true from h2]at e2;rw[sq<|(BO e2).trans rfl,AAE];refine C5<|J3 (A6 ec rfl<|aF U) λh3=>?_;have hb:∀p∈r,Bd 1000 p:=λp hp=>by have:=SK.mp<|zW.mp h3 p hp;unfold Bd at *;lia
   refine J3 (A6 ec rfl<|aE U U hb) λ_=>?_;refine J3 (A6 ec rfl<|aG U U hb) λ_=>?_;exact AQ (A6 ec rfl<|aH U U hb) rfl<|Fc _ _
open AN (AG Ak A4 BP AA M nb)
theorem Ew{g:AF}{ρ:AY}{rs:List RV}{ps:List PV}(e:g ρ=some rs)(c:Cm rs=some ps)(h:Nat.ble ps.length 1000=true:=by rfl):Am g ρ=some (.cl<|.tup ps):=by unfold Am;rw[e];dsimp only;rw[c];dsimp only;rw[yO<|ABE h]
theorem Dg{g:AF}{ρ:AY}{rs:List RV}{ps:List PV}(e:g ρ=some rs)(c:Cm rs=some ps)(h:Nat.ble ps.length 1000=true:=by rfl):A3 g ρ=some (.fr ps):=by unfold A3;rw[e];dsimp only;rw[c];dsimp only;rw[yO<|ABE h]
theorem YR{i j:Nat}{ga:AF}{ρ:AY}{rs:List RV}{p q:PV}(e:ga ρ=some rs)(c:Cm rs=some [p,q]):F5 i j ga ρ=some (.nx<|(ρ.set i<|some<|.im p).set j<|some<|.im q):=by unfold F5;rw[e];dsimp only;rw[c]
noncomputable def Ay(s:List Int):List PV:=s.map PV.int
theorem Rl(s:List Int):(Ay s).length=s.length:=yP ..
noncomputable def Af(s:List Int)(k:Int):Int:=if k<s.length then s.getD k.toNat 0 else(s.getD 0 0%65521*48271+k*30103)%65521
theorem UP(s:List Int)(k:Int)(h0:0<=k)(h:k<s.length):AL (.cl<|.rd<|Ay s) (.cl<|.int k)=some (.cl<|.int<|s.getD k.toNat 0):=by
 show(CC (Ay s) k).map _=_;have hk:k.toNat<s.length:=U
 have:CC (Ay s) k=some (.int<|s.getD k.toNat 0):=by unfold CC Di;rw[Rl,yO h0,yO h];simp[Ay,hk]
 rw[this];rfl
theorem Uq{i j:Int}(h : -1000000<=j/\j<=1000000):EU i j:=.inr ⟨U,U⟩
theorem T1(s:List Int)(k:Int)(h0:0<=k):CA [.rd<|Ay s,.int k]=some (.cl<|.int<|Af s k):=by
 refine Bg rfl ?_;unfold VB;have el:fB An (AD (AB 0) AH) (BG 3 [.rd<|Ay s,.int k])=some (.cl<|.int<|s.length):=by rw[<-Rl];rfl
 have e1:=Az<|AQ (fa:=AB 1) rfl el<|GG k _;unfold Af;by_cases h:k<s.length
 .rw[zc h]at e1;rw[yO h];exact Cs<|(BZ e1).trans<|C5<|AQ rfl rfl<|UP s k h0 h
 .rw[zU h]at e1;rw[yN h,sq<|(BO e1).trans rfl,sq<|A7 rfl rfl];have fX:fB An (AD (AB 0) AH) [some<|.im<|.rd<|Ay s,some<|.im<|.int k,some<|.im<|.int 0]=some (.cl<|.int<|s.length):=by rw[<-Rl];rfl
  have e2:=Az<|AQ (fb:=fC<|.int 0) fX rfl<|Fc _ _;have fin:∀b:Int,Aj (f2 A1 (f2 AZ (f2 CK (f2 A1 (AB 2)<|fC<|.int 65521)<|fC<|.int 48271)<|f2 CK (AB 1)<|fC<|.int 30103)<|fC<|.int 65521) [some<|.im<|.rd<|Ay s,some<|.im<|.int k,some<|.im<|.int b]=some (.rt<|.cl<|.int<|(b%65521*48271+k*30103)%65521):=λb=>
   C5 (AQ (AQ (AQ (AQ rfl rfl<|Eg U) rfl<|Fd<|Uq U) (AQ rfl rfl<|Fd<|Uq U)<|Hu _ _) rfl<|Eg U)
  by_cases h2:(0:Int)<s.length
  .rw[zc h2]at e2;have e3:Aa 2 (f2 AL (AB 0)<|fC<|.int 0) [some<|.im<|.rd<|Ay s,some<|.im<|.int k,some<|.im<|.int 0]=some (.nx [some<|.im<|.rd<|Ay s,some<|.im<|.int k,some<|.im<|.int<|s.getD 0 0]):=A7 (AQ rfl rfl<|UP s 0 U h2) rfl;refine(sq<|(BZ e2).trans e3).trans (fin _)
  .have:s=[]:=List.length_eq_zero_iff.mp U;subst this;exact(sq<|(BO e2).trans rfl).trans (fin 0)
theorem M4{a b c:Pt}(ha:Bd 1000 a)(hb:Bd 1000 b):Dt [pv a,pv b,pv c]=some (.cl<|.int<|AG a b c):=by have h1:EU (b.1-a.1)<|c.2-a.2:=FL (by unfold Bd at *;lia);have h2:EU (b.2-a.2)<|c.1-a.1:=FL (by unfold Bd at *;lia);refine Bg rfl ?_;exact C5<|AQ (AQ rfl rfl<|Fd h1) (AQ rfl rfl<|Fd h2)<|C4 _ _
def FR(r:List Pt):Bool:=(List.range r.length).any λk=>AG (AA r<|(k:Int)-2) (AA r<|(k:Int)-1) (AA r k)==0
theorem MI(r:List Pt)(ρ:AY)(h:ρ[0]? = some (some<|.im<|.lst<|AI r)):fB An (AD (AB 0) AH) ρ=some (.cl<|.int<|r.length):=by rw[<-B9];exact Bb (AM (by unfold AB;rw[h])<|AW _) rfl
theorem T4{r:List Pt}(hl:r.length<=1000)(h2:2<=r.length)(hb:∀p∈r,Bd 1000 p):Kz [.lst<|AI r]=some (.cl<|.bl<|FR r):=by
 refine Bg rfl ?_;unfold VD;have I0:Bh (AD (fB An<|AD (AB 0) AH) AH) (BG 2 [.lst<|AI r])=some ((List.range r.length).map λk:Nat=>PV.int<|k):=DE (AM (MI r _ rfl)<|AW _) hl;have H:=GI (enc:=λk:Nat=>PV.int<|k) (gt:=AV 1) (body:=(Aq (AR<|f2 Ba (AS Dt<|AD (f2 AL (AB 0)<|f2 Ab (AB 1)<|fC<|.int 2)<|AD (f2 AL (AB 0)<|f2 Ab (AB 1)<|fC<|.int 1)<|AD (f2 AL (AB 0)<|AB 1) AH)<|fC<|.int 0) (Aj<|fC<|.bl true) Ax))
  (c:=λk=>AG (AA r<|(k)-2) (AA r<|(k)-1) (AA r k)==0)
  (λρ=>∃a,ρ=[some<|.im<|.lst<|AI r,a]) (xs:=List.range r.length) ⟨none,rfl⟩ (by
  rintro k hk ρ ⟨a,rfl⟩;have Bc:=yS.mp hk;refine⟨_,rfl,?_⟩;have et:AR (f2 Ba (AS Dt<|AD (f2 AL (AB 0)<|f2 Ab (AB 1)<|fC<|.int 2)<|AD (f2 AL (AB 0)<|f2 Ab (AB 1)<|fC<|.int 1)<|AD (f2 AL (AB 0)<|AB 1) AH)<|fC<|.int 0) [some<|.im<|.lst<|AI r,some<|.im<|.int k]=some (AG (AA r<|(k)-2) (AA r<|(k)-1) (AA r k)==0):=by refine Az<|AQ (A6 (AM (AQ rfl rfl<|CJ r ((k)-2) U U)<|AM (AQ rfl rfl<|CJ r ((k)-1) U U)<|AM (AQ rfl rfl<|CJ r (k) U U)<|AW _) rfl<|M4 (DC U hb _)<|DC U hb _) rfl<|L9 _ _
  refine⟨λh=>?_,λh=>⟨_,?_,some<|.im<|.int k,rfl⟩⟩
  .rw[h]at et;exact(BZ et).trans rfl
  .rw[h]at et;exact(BO et).trans rfl)
 unfold FR;cases ha:(List.range r.length).any λk=>AG (AA r<|(k)-2) (AA r<|(k)-1) (AA r k)==0 with
 |true=>exact Cs<|(B7 I0).trans<|H.1 ha
 |false=>
  obtain⟨ρ',e,a,rfl⟩:=H.2 ha;rw[sq<|(B7 I0).trans e];rfl
theorem WC(r:List Pt):HS r = !FR r:=by unfold HS FR;rw[List.not_any_eq_all_not]
theorem T7{a b c:Pt}(ha:Bd 1000 a)(hb:Bd 1000 b):HM [pv a,pv b,pv c]=some (.cl<|.bl<|Ak a b c):=by
 refine Bg rfl ?_;unfold VI;have e1:=Az<|AQ (ρ:=BG 5 [pv a,pv b,pv c]) (fb:=fC<|.int 0) (A6 (AM (f:=AB 0) rfl<|AM (f:=AB 1) rfl<|AM (f:=AB 2) rfl<|AW _) rfl<|M4 ha hb) rfl<|JN _ _;by_cases h:AG a b c=0
 .rw[show(!(AG a b c==0))=false by simp[h]]at e1;rw[sq<|(BO e1).trans rfl,sq<|A7 (Ew (AM (Bb (AM (AQ rfl rfl<|DV a)<|AM (AQ rfl rfl<|DV b)<|AW _)<|OI _ _)<|AM (Bb (AM (AQ rfl rfl<|Dl a)<|AM (AQ rfl rfl<|Dl b)<|AW _)<|OI _ _)<|AW _) rfl) rfl,sq<|A7 (Ew (AM (Bb (AM (AQ rfl rfl<|DV a)<|AM (AQ rfl rfl<|DV b)<|AW _)<|KH _ _)<|AM (Bb (AM (AQ rfl rfl<|Dl a)<|AM (AQ rfl rfl<|Dl b)<|AW _)<|KH _ _)<|AW _) rfl) rfl]
  have e2:Ak a b c=((decide (min a.1 b.1<=c.1)&&decide (c.1<=max a.1 b.1))&&(decide (min a.2 b.2<=c.2)&&decide (c.2<=max a.2 b.2))):=by rw[Ak,ABR,ABR,zc h,AAE]
  rw[e2];exact C5<|J3 (NO rfl rfl rfl) λ_=>NO rfl rfl rfl
 .rw[show(!(AG a b c==0))=true by simp[h]]at e1;rw[show Ak a b c=false by simp[Ak,h]];exact Cs<|(BZ e1).trans rfl
theorem T5{a b c d:Pt}(ha:Bd 1000 a)(hb:Bd 1000 b)(hc:Bd 1000 c)(hd:Bd 1000 d):HL [pv a,pv b,pv c,pv d]=some (.cl<|.bl<|BP a b c d):=by
 refine Bg rfl ?_;unfold VH;have e0:∀h:SF,AO (Aa 4<|A3<|AD (Am<|AD (AB 0)<|AD (AB 1)<|AD (AB 2) AH)<|AD (Am<|AD (AB 0)<|AD (AB 1)<|AD (AB 3) AH) AH) (AO (Aa 4<|f2 AZ (AB 4)<|A3<|AD (Am<|AD (AB 2)<|AD (AB 3)<|AD (AB 0) AH)<|AD (Am<|AD (AB 2)<|AD (AB 3)<|AD (AB 1) AH) AH) h) (BG 9 [pv a,pv b,pv c,pv d]) = h [some<|.im<|pv a,some<|.im<|pv b,some<|.im<|pv c,some<|.im<|pv d,some<|.im<|.lst [.tup [pv a,pv b,pv c],.tup [pv a,pv b,pv d],.tup [pv c,pv d,pv a],.tup [pv c,pv d,pv b]],none,none,none,none]:=λh=>by rw[sq rfl];rw[sq (ρ':=[some<|.im<|pv a,some<|.im<|pv b,some<|.im<|pv c,some<|.im<|pv d,some<|.im<|.lst [.tup [pv a,pv b,pv c],.tup [pv a,pv b,pv d],.tup [pv c,pv d,pv a],.tup [pv c,pv d,pv b]],none,none,none,none]) rfl]
 rw[e0];have H:=GI (enc:=λt:Pt×Pt×Pt=>PV.tup [pv t.1,pv t.2.1,pv t.2.2]) (gt:=Cp 3<|BX (AV 5)<|BX (AV 6)<|BX (AV 7) C1) (body:=Aq (AR<|AS HM<|AD (AB 5)<|AD (AB 6)<|AD (AB 7) AH) (Aj<|fC<|.bl true) Ax)
  (c:=λt=>Ak t.1 t.2.1 t.2.2)
  (λρ=>∃x y z,ρ=[some<|.im<|pv a,some<|.im<|pv b,some<|.im<|pv c,some<|.im<|pv d,some<|.im<|.lst [.tup [pv a,pv b,pv c],.tup [pv a,pv b,pv d],.tup [pv c,pv d,pv a],.tup [pv c,pv d,pv b]],x,y,z,none]) (xs:=[(a,b,c),(a,b,d),(c,d,a),(c,d,b)]) ⟨none,none,none,rfl⟩ (by
  rintro⟨x1,x2,x3⟩ ht ρ ⟨x,y,z,rfl⟩;refine⟨_,rfl,?_⟩;have WW:Bd 1000 x1/\Bd 1000 x2:=by simp only[yw,AAz,AAZ,ABl]at ht;rcases ht with⟨rfl,rfl,_⟩|⟨rfl,rfl,_⟩|⟨rfl,rfl,_⟩|⟨rfl,rfl,_⟩<;>constructor<;>assumption
  have et:AR (AS HM<|AD (AB 5)<|AD (AB 6)<|AD (AB 7) AH) [some<|.im<|pv a,some<|.im<|pv b,some<|.im<|pv c,some<|.im<|pv d,some<|.im<|.lst [.tup [pv a,pv b,pv c],.tup [pv a,pv b,pv d],.tup [pv c,pv d,pv a],.tup [pv c,pv d,pv b]],some<|.im<|pv x1,some<|.im<|pv x2,some<|.im<|pv x3,none]=some (Ak x1 x2 x3):=
   Az (A6 (AM rfl<|AM rfl<|AM rfl<|AW _) rfl<|T7 WW.1 WW.2)
  refine⟨λh=>?_,λh=>⟨_,?_,some<|.im<|pv x1,some<|.im<|pv x2,some<|.im<|pv x3,rfl⟩⟩
  .rw[show Ak x1 x2 x3=true from h]at et;exact(BZ et).trans rfl
  .rw[show Ak x1 x2 x3=false from h]at et;exact(BO et).trans rfl)
 have ea:([(a,b,c),(a,b,d),(c,d,a),(c,d,b)]).any (λt=>Ak t.1 t.2.1 t.2.2)=(Ak a b c||Ak a b d||Ak c d a||Ak c d b):=by simp only[zv,ABq,AA0,Bool.or_assoc]
 rw[ea]at H;unfold BP;have I0:∀x y z w:Option SV,A9 true (AB 4) [some<|.im<|pv a,some<|.im<|pv b,some<|.im<|pv c,some<|.im<|pv d,some<|.im<|.lst [.tup [pv a,pv b,pv c],.tup [pv a,pv b,pv d],.tup [pv c,pv d,pv a],.tup [pv c,pv d,pv b]],x,y,z,w]=some (([(a,b,c),(a,b,d),(c,d,a),(c,d,b)]).map λt=>PV.tup [pv t.1,pv t.2.1,pv t.2.2]):=λ_ _ _ _=>rfl;cases ho:(Ak a b c||Ak a b d||Ak c d a||Ak c d b)with
 |true=>
  exact Cs<|(B7<|I0 _ _ _ _).trans<|H.1 ho
 |false=>
  obtain⟨ρ',e,x,y,z,rfl⟩:=H.2 ho;rw[sq<|(B7<|I0 _ _ _ _).trans e];have sd:∀(f g h:EF)(u v w:Pt)(ρ:AY),Bd 1000 u->Bd 1000 v->f ρ=some (.cl<|pv u)->g ρ=some (.cl<|pv v)->h ρ=some (.cl<|pv w)->f2 Bq (AS Dt<|AD f<|AD g<|AD h AH) (fC<|.int 0) ρ=some (.cl<|.bl<|decide (AG u v w>0)):=λf g h u v w ρ b1 b2 e1 e2 e3=>
   AQ (A6 (AM e1<|AM e2<|AM e3<|AW _) rfl<|M4 b1 b2) rfl (Fc _ _)
  rw[sq<|A7 (AQ (sd _ _ _ a b c _ ha hb rfl rfl rfl) (sd _ _ _ a b d _ ha hb rfl rfl rfl)<|XQ _ _) rfl];exact C5<|J3 rfl λ_=>AQ (sd _ _ _ c d a _ hc hd rfl rfl rfl) (sd _ _ _ c d b _ hc hd rfl rfl rfl)<|XQ _ _
section
variable{α β:Type}{enc:α->PV}
theorem GJ{gt:GF}{body:SF}(f:β->α->β)(R:Nat->β->AY->Prop):∀{xs:List α}{n:Nat}{b:β}{ρ:AY},R n b ρ->(∀i x,xs[i]? = some x->∀b ρ,R (n+i) b ρ->∃A5 BV,gt (enc x) ρ=some A5/\body A5=some (.nx BV)/\R (n+i+1) (f b x) BV)->∃ρ',DX gt body (xs.map enc) ρ=some (.nx ρ')/\R (n+xs.length) (xs.foldl f b) ρ'
 |[],n,b,ρ,hR,_=>⟨ρ,rfl,hR⟩
 |x::xs,n,b,ρ,hR,H=>by
  obtain⟨A5,BV,e1,e2,h2⟩:=H 0 x rfl b ρ hR;rw[ye];unfold DX;rw[e1];dsimp only;rw[e2];obtain⟨ρ',e,h⟩:=GJ f R h2 λi y hy b ρ hb=>by have:=H (i+1) y (by simpa using hy) b ρ (by rw[show n+(i+1)=n+1+i by lia];exact hb);rw[show n+1+i+1=n+(i+1)+1 by lia];exact this
  exact⟨ρ',e,by rw[yn,show n+(xs.length+1)=n+1+xs.length by lia];exact h⟩
end
theorem WG(f:Int->Int):∀(n:Nat)(z:Int),((List.range n).foldl (λt (k:Nat)=>t+f k) z)=z+AN.AU f n
 |0,z=>by simp[AN.AU]
 |n+1,z=>by rw[AAm,AB7,WG f n z];simp[AN.AU];lia
theorem aU{r:List Pt}(hl:r.length<=1000)(h1:0<r.length)(hb:∀p∈r,Bd 1000 p):Mz [.lst<|AI r]=some (.cl<|.int<|AN.Jv r):=by
 refine Bg rfl ?_;unfold VA;rw[sq (ρ':=[some<|.im<|.lst<|AI r,some<|.im<|.int 0,none,none,none]) rfl];have I0:Bh (AD (fB An<|AD (AB 0) AH) AH) [some<|.im<|.lst<|AI r,some<|.im<|.int 0,none,none,none]=some ((List.range r.length).map λk:Nat=>PV.int<|k):=DE (AM (MI r _ rfl)<|AW _) hl;obtain⟨ρ',e,a,b,c,rfl⟩:=R7 (enc:=λk:Nat=>PV.int<|k) (gt:=AV 2) (body:=AO (F5 3 4<|AD (f2 AL (AB 0)<|f2 Ab (AB 2)<|fC<|.int 1)<|AD (f2 AL (AB 0)<|AB 2) AH)
  (Aa 1<|f2 Ab (f2 AZ (AB 1)<|f2 CK (f2 AL (AB 3)<|fC<|.int 0)<|f2 AL (AB 4)<|fC<|.int 1)<|f2 CK (f2 AL (AB 3)<|fC<|.int 1)<|f2 AL (AB 4)<|fC<|.int 0))
  (λ(t)(k)=>t+AN.B2 (AA r<|(k)-1) (AA r k)) (λt ρ=>∃a b c,ρ=[some<|.im<|.lst<|AI r,some<|.im<|.int t,a,b,c]) (xs:=List.range r.length) ⟨none,none,none,rfl⟩ (by
  rintro k hk t ρ ⟨a,b,c,rfl⟩;have Bc:=yS.mp hk;refine⟨_,[some<|.im<|.lst<|AI r,some<|.im<|.int<|t+AN.B2 (AA r<|(k)-1) (AA r k),some<|.im<|.int k,some<|.im<|pv<|AA r<|(k)-1,some<|.im<|pv<|AA r k],rfl,?_,_,_,_,rfl⟩;have h3:=DC U hb<|(k)-1;have e1:F5 3 4 (AD (f2 AL (AB 0)<|f2 Ab (AB 2)<|fC<|.int 1)<|AD (f2 AL (AB 0)<|AB 2) AH) [some<|.im<|.lst<|AI r,some<|.im<|.int t,some<|.im<|.int k,b,c] = some (.nx [some<|.im<|.lst<|AI r,some<|.im<|.int t,some<|.im<|.int k,some<|.im<|pv<|AA r<|(k)-1,some<|.im<|pv<|AA r k]):=by exact YR (AM (AQ rfl rfl<|CJ r ((k)-1) U U)<|AM (AQ rfl rfl<|CJ r (k) U U)<|AW _) rfl
  refine(sq e1).trans ?_;have e2:t+(AA r<|(k)-1).1*(AA r k).2-(AA r<|(k)-1).2*(AA r k).1=t+AN.B2 (AA r<|(k)-1) (AA r k):=by unfold AN.B2;lia
  rw[<-e2];refine(A7 (AQ (AQ rfl (AQ (AQ rfl rfl<|DV _) (AQ rfl rfl<|Dl _)<|Fd<|FL (by unfold Bd at h3;lia))<|Hu _ _) (AQ (AQ rfl rfl<|Dl _) (AQ rfl rfl<|DV _)<|Fd<|FL (by unfold Bd at h3;lia))<|C4 _ _) rfl).trans ?_
  rfl)
 rw[sq<|(B7 I0).trans e,WG λk=>AN.B2 (AA r<|k-1)<|AA r k,zr]
 rfl
theorem Uw{f:EF}{t:BF}{fe:EF}{ρ:AY}{cap:List Nat}{rv:RV}{r:List Pt}{c:Pt->Bool}{h:Pt->PV}(e:f ρ=some rv)(hp:rv.list=some (AI r))(hl:r.length<=1000) (H:∀p∈r,t (some (.im<|.int p.1)::some (.im<|.int p.2)::cap.map λj=>(ρ[j]?).join)=some (c p)/\(c p=true->∃x,fe (some (.im<|.int p.1)::some (.im<|.int p.2)::cap.map λj=>(ρ[j]?).join)=some x/\x.clean=some (h p))) :
 A0 (A9 false f) 2 cap (Cp 2<|BX (AV 0)<|BX (AV 1) C1) t fe ρ=some (.fr<|(r.filter c).map h):=by
 refine Cg (Eb e hp) (by rw[B9];exact hl) ?_;refine Du λp hp=>⟨_,rfl,?_⟩;exact H p hp
theorem QX{f:EF}{fe:EF}{ρ:AY}{cap:List Nat}{rv:RV}{r:List Pt}{h:Pt->PV}(e:f ρ=some rv)(hp:rv.list=some (AI r))(hl:r.length<=1000) (H:∀p∈r,∃x,fe (some (.im<|.int p.1)::some (.im<|.int p.2)::cap.map λj=>(ρ[j]?).join)=some x/\x.clean=some (h p)) :
 A0 (A9 false f) 2 cap (Cp 2<|BX (AV 0)<|BX (AV 1) C1) BM fe ρ=some (.fr<|r.map h):=by
 have:=Uw (t:=BM) e hp hl λp hp=>⟨rfl,λ_=>H p hp⟩;rw[this,ABO.mpr λ_ _=>rfl]
theorem OJ(i a b:Int):BB true (.cl<|.int i) (.fr [.int a,.int b])=some (.cl<|.bl (!(i==a||i==b))):=by simp only[BB,RV.seq,RV.list,C2,zf,zv,ABq,AA0,AAW];rw[ABL,ABL (a:=b)]
def F3(r:List Pt):Bool:=decide ((0:Int)<((r.filter λp=>decide (max (DM p.1) (DM p.2)>100)).length:Int))
def LM(r:List Pt):Bool:=(List.range r.length).any λk=>(List.range k).any λj=>!(nb r.length<|(k:Int)-j)&&BP (AA r<|(k:Int)-1) (AA r k) (AA r<|(j:Int)-1) (AA r j)
def Iq(r:List Pt):Bool:=!(!(decide ((3:Int)<=r.length)&&decide ((r.length:Int)<=12))||F3 r)&&(!(!((dist r:Int)==(r.length:Int))||(FR r||decide (AN.Jv r<=0)))&&!LM r)
theorem V9(r:List Pt):F3 r = !(r.all EL):=by
 have h:∀p:Pt,decide (max (DM p.1) (DM p.2)>100) = !EL p:=λp=>by unfold EL;rw[<-ABR,<-decide_not];apply decide_eq_decide.mpr;lia
 unfold F3;rw[List.filter_congr λp _=>h p];cases ha:r.all EL with
 |true=>
  have:r.filter (λp=>!EL p)=[]:=ACS.mpr λp hp=>by have:=zW.mp ha p hp;simp[this]
  rw[this];rfl
 |false=>
  obtain⟨p,hp,hn⟩:=List.all_eq_false.mp ha;have hm:p∈r.filter (λp=>!EL p):=zp.mpr ⟨hp,by simpa using hn⟩;have:=ABd hm;rw[zc U];rfl
theorem aO{r:List Pt}(hl:r.length<=1000):K0 [.lst<|AI r]=some (.cl<|.bl<|Iq r):=by
 refine Bg rfl ?_;unfold VE;rw[sq<|A7 (MI r _ rfl) rfl];show AO _ _ [some<|.im<|.lst<|AI r,some<|.im<|.int<|r.length,none,none]=_;have e1:(CF (CO<|AR<|Dx B1 B1 (fC<|.int 3) (AB 1)<|fC<|.int 12)<|AR<|f2 Bq (fB An<|AD (A0 (A9 false<|AB 0) 2 [] (Cp 2<|BX (AV 0)<|BX (AV 1) C1) (AR<|f2 Bq (fB Dm<|AD (fB C3<|AD (AB 0) AH)<|AD (fB C3<|AD (AB 1) AH) AH)<|fC<|.int 100)<|fC<|.int 1) AH)<|fC<|.int 0) [some<|.im<|.lst<|AI r,some<|.im<|.int<|r.length,none,none] = some (!(decide ((3:Int)<=r.length)&&decide ((r.length:Int)<=12))||F3 r):=by
  refine F1 (Eu<|Az<|NO rfl rfl rfl) λ_=>?_;have ec:=Uw (f:=AB 0) (t:=AR<|f2 Bq (fB Dm<|AD (fB C3<|AD (AB 0) AH)<|AD (fB C3<|AD (AB 1) AH) AH)<|fC<|.int 100) (fe:=fC<|.int 1) (ρ:=[some<|.im<|.lst<|AI r,some<|.im<|.int<|r.length,none,none]) (cap:=[]) rfl rfl hl λp _=>⟨Az<|AQ (Bb (AM (Bb (AM rfl<|AW _)<|L7 p.1)<|AM (Bb (AM rfl<|AW _)<|L7 p.2)<|AW _)<|KH _ _) rfl<|Fc _ _,λ_=>⟨_,rfl,rfl⟩⟩
  refine Az<|AQ (Bb (AM ec<|AW _)<|XO _) rfl ?_;rw[yP]
  rfl
 unfold Iq;cases h1:(!(decide ((3:Int)<=r.length)&&decide ((r.length:Int)<=12))||F3 r)with
 |true=>
  rw[h1]at e1;exact Cs<|(BZ e1).trans rfl
 |false=>
  rw[h1]at e1;rw[sq<|(BO e1).trans rfl];simp only[zL,Bool.not_eq_false',yR,yZ]at h1;obtain⟨⟨Wn,Ny⟩,hf⟩:=h1;rw[V9,Bool.not_eq_false']at hf;have hb:∀p∈r,Bd 1000 p:=λp hp=>by have:=SK.mp<|zW.mp hf p hp;unfold Bd at *;lia
  have ec:AD (AB 0) AH [some<|.im<|.lst<|AI r,some<|.im<|.int<|r.length,none,none]=some [.cl<|.lst<|AI r]:=rfl;have e2:(CF (AR<|f2 Bo (Hd<|AB 0)<|AB 1)<|CF (AR<|AS Kz<|AD (AB 0) AH)<|AR<|f2 B1 (AS Mz<|AD (AB 0) AH)<|fC<|.int 0) [some<|.im<|.lst<|AI r,some<|.im<|.int<|r.length,none,none] = some (!((dist r:Int)==(r.length))||(FR r||decide (AN.Jv r<=0))):=by refine F1 (Az<|AQ (V0 rfl rfl (Tg r) (by unfold kl;rw[yP];lia)) rfl<|JN _ _) λ_=>?_;exact F1 (Az<|A6 ec rfl<|T4 U U hb) λ_=>Az<|AQ (A6 ec rfl<|aU U U hb) rfl<|G8 _ _
  cases h2:(!((dist r:Int)==(r.length))||(FR r||decide (AN.Jv r<=0)))with
  |true=>
   rw[h2]at e2;exact Cs<|(BZ e2).trans rfl
  |false=>
   rw[h2]at e2;rw[sq<|(BO e2).trans rfl];have I0:Bh (AD (AB 1) AH) [some<|.im<|.lst<|AI r,some<|.im<|.int<|r.length,none,none]=some ((List.range r.length).map λk:Nat=>PV.int<|k):=DE rfl hl;have H:=GI (gt:=AV 2) (λρ=>∃a b,ρ=[some<|.im<|.lst<|AI r,some<|.im<|.int<|r.length,a,b]) (xs:=List.range r.length) ⟨none,none,rfl⟩ (by
    rintro k hk ρ ⟨a,b,rfl⟩;have Bc:=yS.mp hk;refine⟨_,rfl,?_⟩;have hr:Bh (AD (AB 2) AH) [some<|.im<|.lst<|AI r,some<|.im<|.int<|r.length,some<|.im<|.int k,b]=some ((List.range k).map λd:Nat=>PV.int<|d):=DE rfl U;have H2:=GI (enc:=λk:Nat=>PV.int<|k) (gt:=AV 3) (body:=(Aq (AR<|f2 (BB true) (f2 A1 (f2 Ab (AB 2)<|AB 3)<|AB 1)<|A3<|AD (fC<|.int 1)<|AD (f2 Ab (AB 1)<|fC<|.int 1) AH) (Aq (AR<|AS HL<|AD (f2 AL (AB 0)<|f2 Ab (AB 2)<|fC<|.int 1)<|AD (f2 AL (AB 0)<|AB 2)<|AD (f2 AL (AB 0)<|f2 Ab (AB 3)<|fC<|.int 1)<|AD (f2 AL (AB 0)<|AB 3) AH) (Aj<|fC<|.bl false) Ax) Ax))
     (c:=λj=>!(nb r.length<|(k)-j)&&BP (AA r<|(k)-1) (AA r k) (AA r<|(j)-1) (AA r j))
     (λρ=>∃b,ρ=[some<|.im<|.lst<|AI r,some<|.im<|.int<|r.length,some<|.im<|.int k,b]) (xs:=List.range k) ⟨b,rfl⟩ (by
     rintro j hj ρ ⟨b,rfl⟩;have CH:=yS.mp hj;refine⟨_,rfl,?_⟩;have et:AR (f2 (BB true) (f2 A1 (f2 Ab (AB 2)<|AB 3)<|AB 1)<|A3<|AD (fC<|.int 1)<|AD (f2 Ab (AB 1)<|fC<|.int 1) AH) [some<|.im<|.lst<|AI r,some<|.im<|.int<|r.length,some<|.im<|.int k,some<|.im<|.int j]=some (!(nb r.length<|(k)-j)):=
      Az (AQ (AQ (AQ rfl rfl<|C4 _ _) rfl<|Eg U) (Dg rfl rfl)<|OJ _ _ _)
     have em:AR (AS HL<|AD (f2 AL (AB 0)<|f2 Ab (AB 2)<|fC<|.int 1)<|AD (f2 AL (AB 0)<|AB 2)<|AD (f2 AL (AB 0)<|f2 Ab (AB 3)<|fC<|.int 1)<|AD (f2 AL (AB 0)<|AB 3) AH) [some<|.im<|.lst<|AI r,some<|.im<|.int<|r.length,some<|.im<|.int k,some<|.im<|.int j]=some (BP (AA r<|(k)-1) (AA r k) (AA r<|(j)-1)<|AA r j):=
      Az (A6 (AM (AQ rfl rfl<|CJ r ((k)-1) U U)<|AM (AQ rfl rfl<|CJ r (k) U U)<|AM (AQ rfl rfl<|CJ r ((j)-1) U U)<|AM (AQ rfl rfl<|CJ r (j) U U)<|AW _) rfl<|T5 (DC U hb _) (DC U hb _) (DC U hb _)<|DC U hb _)
     refine⟨λh=>?_,λh=>⟨_,?_,some<|.im<|.int j,rfl⟩⟩
     .simp only[yR]at h;rw[h.1]at et;rw[h.2]at em;exact(BZ et).trans ((BZ em).trans rfl)
     .cases hq:(!(nb r.length<|(k)-j))with
      |false=>rw[hq]at et;exact(BO et).trans rfl
      |true=>
       rw[hq,AAE]at h;rw[hq]at et;rw[h]at em;exact(BZ et).trans ((BO em).trans rfl))
    refine⟨λh=>?_,λh=>?_⟩
    .exact(B7 hr).trans (H2.1 h)
    .obtain⟨ρ',e,b',rfl⟩:=H2.2 h;exact⟨_,(B7 hr).trans e,_,_,rfl⟩)
   unfold LM;cases ha:(List.range r.length).any λk=>(List.range k).any λj=>!(nb r.length<|(k)-j)&&BP (AA r<|(k)-1) (AA r k) (AA r<|(j)-1) (AA r j)with
   |true=>exact Cs<|(B7 I0).trans<|H.1 ha
   |false=>
    obtain⟨ρ',e,a,b,rfl⟩:=H.2 ha;rw[sq<|(B7 I0).trans e];rfl
theorem UN(r:List Pt):IM r=true↔AN.LF r:=by
 unfold IM AN.LF;simp only[zO,AAT,yS,yR,not_and,Bool.not_eq_true];constructor
 .intro h k m h0 h1 h2 hn;have:=h k.toNat U (m-k-1).toNat;rw[yk h0,yk U,show k+1+(m-k-1)=m by lia]at this;exact this U hn
 .intro h k hk d hd h1;exact h k (k+1+d) U U U h1
theorem dU(r:List Pt):LM r=false↔AN.QG r:=by
 unfold LM AN.QG;simp only[AAT,yS,yR,not_and,Bool.not_eq_true,zO];constructor
 .intro h k j h0 h1 h2 hn;have:=h k.toNat U j.toNat U;rw[yk h0,yk U]at this;unfold M;rw[<-AN.OS,show k-1+1=k by lia,show j-1+1=j by lia];exact this hn
 .intro h k hk j hj h1;have:=h k j U U U h1;unfold M at this;rw[<-AN.OS,show(k:Int)-1+1=k by lia,show(j:Int)-1+1=j by lia]at this;exact this
theorem g5(r:List Pt):Iq r=DP r:=by
 have h1:(!LM r)=IM r:=by rw[AAe,zO,dU,UN];exact AN.bW r
 unfold Iq DP;rw[h1,V9,WC,AN.bZ];have h2:decide (0<AN.DJ r) = !decide (AN.DJ r<=0):=by rw[<-decide_not];apply decide_eq_decide.mpr;lia
 rw[h2];generalize (decide ((3:Int)<=r.length)&&decide ((r.length:Int)<=12))=b1;generalize r.all EL=b2;generalize ((dist r:Int)==(r.length))=b3;generalize FR r=b4;generalize decide (AN.DJ r<=0)=b5;generalize IM r=b6;cases b1<;>cases b2<;>cases b3<;>cases b4<;>cases b5<;>cases b6<;>rfl
theorem F0{f g:EF}{ρ:AY}{s:List Int}{k:Int}(e1:f ρ=some (.cl<|.rd<|Ay s))(e2:g ρ=some (.cl<|.int k))(h:0<=k):AS CA (AD f<|AD g AH) ρ=some (.cl<|.int<|Af s k):=
 A6 (AM e1<|AM e2<|AW _) rfl (T1 s k h)
theorem Gp{f:EF}{ρ:AY}{i:Int}(n:Int)(e:f ρ=some (.cl<|.int i))(h:0<n:=by lia)(h2:n<1073741824:=by lia):f2 B4 f (fC<|.int n) ρ=some (.cl<|.int<|i / n):=AQ e rfl<|XI h h2
theorem EE{f:EF}{ρ:AY}{i:Int}(n:Int)(e:f ρ=some (.cl<|.int i))(h:0<n:=by lia):f2 A1 f (fC<|.int n) ρ=some (.cl<|.int<|i%n):=AQ e rfl<|Eg h
theorem Hb{f g:EF}{ρ:AY}{i j:Int}(e:f ρ=some (.cl<|.int i))(e':g ρ=some (.cl<|.int j)):f2 AZ f g ρ=some (.cl<|.int<|i+j):=AQ e e'<|Hu _ _
theorem J4{f g:EF}{ρ:AY}{i j:Int}(e:f ρ=some (.cl<|.int i))(e':g ρ=some (.cl<|.int j)):f2 Ab f g ρ=some (.cl<|.int<|i-j):=AQ e e'<|C4 _ _
theorem Ic{f:EF}{ρ:AY}{i:Int}(n:Int)(e:f ρ=some (.cl<|.int i)):AR (f2 Ba f<|fC<|.int n) ρ=some (i==n):=Az<|AQ e rfl<|L9 _ _
def Ei(s:List Int)(k count mode:Int)(b:Int×List Pt×List Pt)(d:Nat):Int×List Pt×List Pt:=
 let x:=if mode=3 then 1+(d:Int)else b.1+1+Af s (k+4+(1+(d:Int))) / 2%4
 let y:=if mode=3 then(1+(d:Int))*(count-1-(1+(d:Int)))else 1+Af s (k+4+(1+(d:Int))) / 8%9
 if Af s (k+4+(1+(d:Int)))%2=0 then(x,b.2.1 ++ [(x,0-y)],b.2.2)else(x,b.2.1,b.2.2 ++ [(x,y)])
def Ca(s:List Int)(k count:Int):Int×List Pt×List Pt:=(List.range (count-2).toNat).foldl (Ei s k count<|Af s (k+1)%4) (0,[],[])
noncomputable def EC(count:Int):List Pt:=(List.range count.toNat).map λj:Nat=>((j:Int),0-(j:Int)*(count-1-j))
noncomputable def CT(b:Int×List Pt×List Pt):List Pt:=[(0,0)]++b.2.1 ++ [(b.1+1,0)]++b.2.2.reverse
def Ff(s:List Int)(k count:Int):List Pt:=if FR (CT<|Ca s k count)=true then EC count else CT (Ca s k count)
structure Js(i:Nat)(b:Int×List Pt×List Pt):Prop where
 lo:0<=b.1
 hi:b.1<=4*i
 len:b.2.1.length+b.2.2.length=i
 bl:∀p∈b.2.1,Bd 500 p
 bh:∀p∈b.2.2,Bd 500 p
theorem lQ{a b:Int}{n m:Int}(h1 : -n<=a)(h2:a<=n)(h3 : -m<=b)(h4:b<=m) : -(n*m)<=a*b/\a*b<=n*m:=by
 have hm:0<=m:=U
 constructor
 .rcases AAG 0 a with ha|ha
  .have e1:=yi h3 ha;have e2:=y8 h2 hm;rw[ABh]at e1;lia
  .have e1:=ABt ha h4;have e2:=y8 h1 hm;lia
 .rcases AAG 0 a with ha|ha
  .have e1:=yi h4 ha;have e2:=y8 h2 hm;lia
  .have e1:=ABt ha h3;have e2:=y8 h1 hm;rw[ABh]at e1;lia
theorem Ye{s:List Int}{k count mode:Int}{i:Nat}{b:Int×List Pt×List Pt}(h1:3<=count)(h2:count<=12)(hi:(i)<count-2)(h:Js i b):Js (i+1)<|Ei s k count mode b i:=by
 obtain⟨x0,low,Bp⟩:=b;obtain⟨lo,hh,len,bl,bh⟩:=h;dsimp only at lo hh len bl bh;have hx:∀x,x=(if mode=3 then 1+(i:Int)else x0+1+Af s (k+4+(1+(i))) / 2%4)->0<=x/\x<=4*((i)+1):=λx e=>by subst e;split<;>lia
 have hy:∀y,y=(if mode=3 then(1+(i))*(count-1-(1+(i)))else 1+Af s (k+4+(1+(i))) / 8%9)->-121<=y/\y<=121:=λy e=>by
  subst e;split
  .have:=lQ (n:=11) (m:=11) (a:=1+(i)) (b:=count-1-(1+(i))) U U U U;lia
  .lia
 unfold Ei;dsimp only;generalize ex:(if mode=3 then 1+(i:Int)else x0+1+Af s (k+4+(1+(i))) / 2%4)=x;generalize ey:(if mode=3 then(1+(i))*(count-1-(1+(i)))else 1+Af s (k+4+(1+(i))) / 8%9)=y;have GB:=hx x ex.symm;have Ri:=hy y ey.symm;split
 .refine⟨GB.1,by exact GB.2,by simp;lia,λp hp=>?_,bh⟩;rcases zF.mp hp with z|z
  .exact bl p z
  .rw[yr.mp z];unfold Bd;dsimp only;lia
 .refine⟨GB.1,by exact GB.2,by simp;lia,bl,λp hp=>?_⟩;rcases zF.mp hp with z|z
  .exact bh p z
  .rw[yr.mp z];unfold Bd;dsimp only;lia
theorem WE{s:List Int}{k count mode:Int}(h1:3<=count)(h2:count<=12):∀n:Nat,(n)<=count-2->Js n ((List.range n).foldl (Ei s k count mode) (0,[],[]))
 |0,_=>⟨yI,yI,rfl,(λp hp=>by cases hp),(λp hp=>by cases hp)⟩
 |n+1,hn=>by rw[AAm,AB7];exact Ye h1 h2 U<|WE h1 h2 n U
theorem Yd(s:List Int)(k:Int){count:Int}(h1:3<=count)(h2:count<=12):Js (count-2).toNat<|Ca s k count:=WE h1 h2 _ U
theorem Ox(b:Int×List Pt×List Pt):(CT b).length=b.2.1.length+b.2.2.length+2:=by simp[CT];lia
theorem rC{i:Nat}{b:Int×List Pt×List Pt}(h:Js i b)(hi:i<=100):∀p∈CT b,Bd 1000 p:=λp hp=>by
 unfold CT at hp;simp only[zF,yr,AAs]at hp;have:=h.lo;have:=h.hi;rcases hp with((rfl|hp)|rfl)|hp
 .unfold Bd;lia
 .have:=h.bl p hp;unfold Bd at *;lia
 .unfold Bd;lia
 .have:=h.bh p hp;unfold Bd at *;lia
theorem Kh(a b:List Pt):AI (a++b)=AI a++AI b:=zP ..
theorem XH(l:List Pt)(p:Pt)(h:l.length<1000):CQ (AI l) [pv p]=some (AI<|l ++ [p]):=by
 unfold CQ;dsimp only;rw[yO (by rw[B9];exact h),Kh]
 rfl
theorem OV{i:Nat}{k:List PV->List PV->Option (List PV)}{ga:AF}{ρ:AY}{ps qs D8:List PV}{rs:List RV}(h:ρ[i]? = some (some<|.own ps))(e:ga ρ=some rs)(c:Cm rs=some qs)(ek:k ps qs=some D8):B0 i k ga ρ=some (.nx<|ρ.set i<|some<|.own D8):=by unfold B0;rw[h,e];dsimp only;rw[c];dsimp only;rw[ek]
theorem JI{x y:RV}{xs ys:List PV}(hx:x.list=some xs)(hy:y.list=some ys)(h:xs.length+ys.length<=1000):AZ x y=some (.fr<|xs++ys):=by
 have hc:L8 x y=some (.fr<|xs++ys):=by unfold L8;rw[hx,hy];dsimp only;rw[yO h]
 unfold AZ;split
 .cases hx
 .exact hc
theorem V1{f:EF}{ρ:AY}{r:RV}{ps:List PV}(e:f ρ=some r)(h:r.list=some ps):FQ f ρ=some (.fr ps.reverse):=by unfold FQ;rw[e];dsimp only;rw[h]
theorem ae(s:List Int)(k count:Int)(h0:0<=k)(h1:3<=count)(h2:count<=12):Pq [.rd<|Ay s,.int k,.int count]=some (.cl<|.lst<|AI<|Ff s k count):=by
 refine Bg rfl ?_;unfold VL;rw[sq<|A7 (EE 4<|F0 rfl rfl U) rfl];generalize jK:Af s (k+1)%4=mode;have jI:Ca s k count=(List.range (count-2).toNat).foldl (Ei s k count mode) (0,[],[]):=by unfold Ca;rw[jK]
 show AO _ _ [some<|.im<|.rd<|Ay s,some<|.im<|.int k,some<|.im<|.int count,some<|.im<|.int mode,some<|.im<|.int 0,some<|.own [],some<|.own [],none,none,none,none]=_;have I0:C0 (AD (fC<|.int 1)<|AD (f2 Ab (AB 2)<|fC<|.int 1) AH) [some<|.im<|.rd<|Ay s,some<|.im<|.int k,some<|.im<|.int count,some<|.im<|.int mode,some<|.im<|.int 0,some<|.own [],some<|.own [],none,none,none,none]=some ((List.range (count-2).toNat).map λd:Nat=>PV.int<|1+(d)):=by unfold C0;rw[show AD (fC<|.int 1) (AD (f2 Ab (AB 2)<|fC<|.int 1) AH) [some<|.im<|.rd<|Ay s,some<|.im<|.int k,some<|.im<|.int count,some<|.im<|.int mode,some<|.im<|.int 0,some<|.own [],some<|.own [],none,none,none,none]=some [.cl<|.int 1,.cl<|.int<|count-1]from rfl];dsimp only;rw[yO ⟨⟨U,U⟩,⟨U,U⟩⟩,Yu,show(count-1-1).toNat=(count-2).toNat by lia]
 obtain⟨ρ',e,⟨a7,a8,a9,rfl⟩,Ah⟩:=GJ (enc:=λd:Nat=>PV.int<|1+(d)) (gt:=AV 7) (body:=(AO (Aa 8<|AS CA<|AD (AB 0)<|AD (f2 AZ (f2 AZ (AB 1)<|fC<|.int 4)<|AB 7) AH)
  (AO (Aa 4<|f2 AZ (f2 AZ (AB 4)<|fC<|.int 1)<|f2 A1 (f2 B4 (AB 8)<|fC<|.int 2)<|fC<|.int 4)
  (AO (Aa 9<|f2 AZ (fC<|.int 1)<|f2 A1 (f2 B4 (AB 8)<|fC<|.int 8)<|fC<|.int 9)
  (AO (Aq (AR<|f2 Ba (AB 3)<|fC<|.int 3) (AO (Aa 4<|AB 7)
  (Aa 9<|f2 CK (AB 7)<|f2 Ab (f2 Ab (AB 2)<|fC<|.int 1)<|AB 7)) Ax)
  (Aq (AR<|f2 Ba (f2 A1 (AB 8)<|fC<|.int 2)<|fC<|.int 0) (B0 5 CQ<|AD (Am<|AD (AB 4)<|AD (f2 Ab (fC<|.int 0)<|AB 9) AH) AH)<|B0 6 CQ<|AD (Am<|AD (AB 4)<|AD (AB 9) AH) AH))))))
  (Ei s k count mode) (λi b ρ=>(∃a7 a8 a9,ρ=[some<|.im<|.rd<|Ay s,some<|.im<|.int k,some<|.im<|.int count,some<|.im<|.int mode,some<|.im<|.int b.1,some<|.own<|AI b.2.1,some<|.own<|AI b.2.2,a7,a8,a9,none])/\Js i b)
  (xs:=List.range (count-2).toNat) (n:=0) (b:=(0,[],[])) ⟨⟨none,none,none,rfl⟩,yI,yI,rfl,(λp hp=>by cases hp),(λp hp=>by cases hp)⟩ (by
  rintro i d hd b ρ ⟨⟨a7,a8,a9,rfl⟩,Ah⟩;have ix:=by have:=(yY.mp hd).1;simpa using this
  have Nt:=by have:=(yY.mp hd).2;simpa using this.symm
  subst Nt;rw[ABC]at Ah;have RL:=Ye (s:=s) (k:=k) (mode:=mode) h1 h2 U Ah;have Bn:=Ah.len;obtain⟨x0,low,Bp⟩:=b;refine⟨_,[some<|.im<|.rd<|Ay s,some<|.im<|.int k,some<|.im<|.int count,some<|.im<|.int mode,some<|.im<|.int (Ei s k count mode (x0,low,Bp) d).1,some<|.own<|AI (Ei s k count mode (x0,low,Bp) d).2.1,some<|.own<|AI (Ei s k count mode (x0,low,Bp) d).2.2,some<|.im<|.int<|1+(d),some<|.im<|.int<|Af s<|k+4+(1+(d)),some (.im (.int (if mode=3 then(1+(d))*(count-1-(1+(d)))else 1+Af s (k+4+(1+(d))) / 8%9))),none],rfl,?_,⟨_,_,_,rfl⟩,by rw[ABC];exact RL⟩;dsimp only at Bn;unfold Ei;rw[sq<|A7 (F0 rfl rfl U) rfl];generalize Af s (k+4+(1+(d)))=c;show AO _ _ [some<|.im<|.rd<|Ay s,some<|.im<|.int k,some<|.im<|.int count,some<|.im<|.int mode,some<|.im<|.int<|x0+1+c / 2%4,some<|.own<|AI low,some<|.own<|AI Bp,some<|.im<|.int<|1+(d),some<|.im<|.int c,some<|.im<|.int<|1+c / 8%9,none]=_;have em:=Ic (f:=AB 3) (ρ:=[some<|.im<|.rd<|Ay s,some<|.im<|.int k,some<|.im<|.int count,some<|.im<|.int mode,some<|.im<|.int<|x0+1+c / 2%4,some<|.own<|AI low,some<|.own<|AI Bp,some<|.im<|.int<|1+(d),some<|.im<|.int c,some<|.im<|.int<|1+c / 8%9,none]) 3 rfl;have fin:∀x y:Int,Aq (AR<|f2 Ba (f2 A1 (AB 8)<|fC<|.int 2)<|fC<|.int 0) (B0 5 CQ<|AD (Am<|AD (AB 4)<|AD (f2 Ab (fC<|.int 0)<|AB 9) AH) AH) (B0 6 CQ<|AD (Am<|AD (AB 4)<|AD (AB 9) AH) AH) [some<|.im<|.rd<|Ay s,some<|.im<|.int k,some<|.im<|.int count,some<|.im<|.int mode,some<|.im<|.int x,some<|.own<|AI low,some<|.own<|AI Bp,some<|.im<|.int<|1+(d),some<|.im<|.int c,some<|.im<|.int y,none] = some (.nx [some<|.im<|.rd<|Ay s,some<|.im<|.int k,some<|.im<|.int count,some<|.im<|.int mode,some (.im (.int (if c%2=0 then(x,low ++ [(x,0-y)],Bp)else(x,low,Bp ++ [(x,y)])).1)),some (.own (AI (if c%2=0 then(x,low ++ [(x,0-y)],Bp)else(x,low,Bp ++ [(x,y)])).2.1)),some (.own (AI (if c%2=0 then(x,low ++ [(x,0-y)],Bp)else(x,low,Bp ++ [(x,y)])).2.2)),some<|.im<|.int<|1+(d),some<|.im<|.int c,some<|.im<|.int y,none]):=λx y=>by
   have ec:=Ic (f:=f2 A1 (AB 8)<|fC<|.int 2) (ρ:=[some<|.im<|.rd<|Ay s,some<|.im<|.int k,some<|.im<|.int count,some<|.im<|.int mode,some<|.im<|.int x,some<|.own<|AI low,some<|.own<|AI Bp,some<|.im<|.int<|1+(d),some<|.im<|.int c,some<|.im<|.int y,none]) 0<|EE 2 rfl;by_cases hc:c%2=0
   .rw[show(c%2==0)=true by simp[hc]]at ec;rw[BZ ec,yO hc];exact OV rfl (AM (x:=.cl<|pv (x,0-y)) rfl<|AW _) rfl<|XH low _ U
   .rw[show(c%2==0)=false by simp[hc]]at ec;rw[BO ec,yN hc];exact OV rfl (AM (x:=.cl<|pv (x,y)) rfl<|AW _) rfl<|XH Bp _ U
  by_cases hm:mode=3
  .rw[show(mode==3)=true by simp[hm]]at em;simp only[yO hm];refine Eq.trans (sq<|(BZ em).trans ?_)<|fin _ _;refine(sq<|A7 rfl rfl).trans ?_;refine(A7 (AQ rfl rfl<|Fd<|FL U) rfl)
  .rw[show(mode==3)=false by simp[hm]]at em;simp only[yN hm];exact(sq<|(BO em).trans rfl).trans (fin _ _))
 rw[sq<|(B7 I0).trans e,<-jI];have Wu:=Yd s k h1 h2;have Bn:=Wu.len;have xY:=Ox<|Ca s k count;have fm:f2 AZ (f2 AZ (f2 AZ (A3<|AD (Am<|AD (fC<|.int 0)<|AD (fC<|.int 0) AH) AH)<|AB 5)<|A3<|AD (Am<|AD (f2 AZ (AB 4)<|fC<|.int 1)<|AD (fC<|.int 0) AH) AH) (FQ<|AB 6) [some<|.im<|.rd<|Ay s,some<|.im<|.int k,some<|.im<|.int count,some<|.im<|.int mode,some<|.im<|.int (Ca s k count).1,some<|.own<|AI (Ca s k count).2.1,some<|.own<|AI (Ca s k count).2.2,a7,a8,a9,none]=some (.fr<|AI<|CT<|Ca s k count):=by
  have l1:=B9 (Ca s k count).2.1;have l2:=B9 (Ca s k count).2.2;refine(AQ (AQ (AQ rfl rfl<|JI rfl rfl (by simp;lia)) rfl<|JI rfl rfl (by simp;lia)) (V1 rfl rfl)<|JI rfl rfl (by simp;lia)).trans ?_;unfold CT;rw[Kh,Kh];unfold AI;rw[List.map_reverse]
  rfl
 rw[sq<|A7 fm rfl];have ef:=Az<|A6 (ρ:=[some<|.im<|.rd<|Ay s,some<|.im<|.int k,some<|.im<|.int count,some<|.im<|.int mode,some<|.im<|.int (Ca s k count).1,some<|.own<|AI (Ca s k count).2.1,some<|.own<|AI (Ca s k count).2.2,a7,a8,a9,some<|.im<|.lst<|AI<|CT<|Ca s k count]) (AM (f:=AB 10) rfl<|AW _) rfl<|T4 U U<|rC Wu U;unfold Ff;cases hf:FR (CT<|Ca s k count)with
 |false=>
  rw[hf]at ef;exact(sq<|(BO ef).trans rfl).trans rfl
 |true=>
  rw[hf]at ef;have ic:count=(count.toNat):=U
  have eb:A0 (Bh<|AD (AB 2) AH) 1 [2] (AV 0) BM (Am<|AD (AB 0)<|AD (f2 Ab (fC<|.int 0)<|f2 CK (AB 0)<|f2 Ab (f2 Ab (AB 1)<|fC<|.int 1)<|AB 0) AH) [some<|.im<|.rd<|Ay s,some<|.im<|.int k,some<|.im<|.int count,some<|.im<|.int mode,some<|.im<|.int (Ca s k count).1,some<|.own<|AI (Ca s k count).2.1,some<|.own<|AI (Ca s k count).2.2,a7,a8,a9,some<|.im<|.lst<|AI<|CT<|Ca s k count]=some (.fr<|AI<|EC count):=by refine Cg (DE (by rw[<-ic];rfl) U) (by simp;lia) ?_;unfold EC AI;rw[zM];refine Fw λj hj=>⟨_,.cl<|pv ((j),0-(j)*(count-1-j)),rfl,?_,rfl⟩;have CH:=yS.mp hj;exact Ew (AM rfl<|AM (J4 rfl<|AQ rfl rfl<|Fd<|FL U)<|AW _) rfl
  exact(sq<|(BZ ef).trans<|A7 eb rfl).trans rfl
def wx(s:List Int)(k:Int):Nat->Int
 |0=>0
 |i+1=>wx s k i+1+Af s (k+5+(i:Int))%4
def wy(s:List Int)(k:Int):Nat->Int
 |0=>0
 |i+1=>wy s k i+1+Af s (k+5+(i:Int)) / 4%4
def Kt(s:List Int)(k:Int):List Pt:=
 [(wx s k 0,wy s k 0),(wx s k 5,wy s k 0),(wx s k 5,wy s k 5),(wx s k 1,wy s k 5),(wx s k 1,wy s k 2),(wx s k 3,wy s k 2),(wx s k 3,wy s k 3),(wx s k 2,wy s k 3),(wx s k 2,wy s k 4),(wx s k 4,wy s k 4),(wx s k 4,wy s k 1),(wx s k 0,wy s k 1)]
noncomputable def upTo(f:Nat->Int)(n:Nat):List PV:=(List.range<|n+1).map λi=>PV.int<|f i
theorem Zo(f:Nat->Int)(n:Nat):upTo f (n+1)=upTo f n ++ [.int<|f<|n+1]:=by unfold upTo;rw[AAm,zP];rfl
theorem Zn(f:Nat->Int)(n:Nat):AL (.bo<|upTo f n) (.cl<|.int (-1))=some (.cl<|.int<|f n):=by
 show(CC (upTo f n) (-1)).map _=_;have:CC (upTo f n) (-1)=some (.int<|f n):=by
  have hl:(upTo f n).length=n+1:=by simp[upTo]
  unfold CC Di;rw[hl,yN U,yO U,show(-1+((n+1:Nat):Int)).toNat=n by lia];simp[upTo]
 rw[this];rfl
theorem XG(l:List PV)(p:PV)(h:l.length<1000):CQ l [p]=some (l ++ [p]):=by unfold CQ;dsimp only;rw[yO h]
theorem ar(s:List Int)(k:Int)(h0:0<=k):M1 [.rd<|Ay s,.int k]=some (.fr<|AI<|Kt s k):=by
 refine Bg rfl ?_;show AO _ _ [some<|.im<|.rd<|Ay s,some<|.im<|.int k,some<|.own [.int 0],some<|.own [.int 0],none,none,none]=_;have I0:Bh (AD (fC<|.int 5) AH) [some<|.im<|.rd<|Ay s,some<|.im<|.int k,some<|.own [.int 0],some<|.own [.int 0],none,none,none]=some ((List.range 5).map λd:Nat=>PV.int<|d):=DE rfl U;obtain⟨ρ',e,a4,a5,rfl⟩:=GJ (enc:=λd:Nat=>PV.int<|d) (gt:=AV 4) (body:=(AO (Aa 5<|AS CA<|AD (AB 0)<|AD (f2 AZ (f2 AZ (AB 1)<|fC<|.int 5)<|AB 4) AH)
  (AO (B0 2 CQ<|AD (f2 AZ (f2 AZ (f2 AL (AB 2)<|Ig<|fC<|.int 1)<|fC<|.int 1)<|f2 A1 (AB 5)<|fC<|.int 4) AH)
  (B0 3 CQ<|AD (f2 AZ (f2 AZ (f2 AL (AB 3)<|Ig<|fC<|.int 1)<|fC<|.int 1)<|f2 A1 (f2 B4 (AB 5)<|fC<|.int 4)<|fC<|.int 4) AH))))
  (λ(u)(_)=>u) (λi _ ρ=>∃a4 a5,ρ=[some<|.im<|.rd<|Ay s,some<|.im<|.int k,some<|.own<|upTo (wx s k) i,some<|.own<|upTo (wy s k) i,a4,a5,none]) (xs:=List.range 5) (b:=()) ⟨none,none,rfl⟩ (by
  rintro i d hd _ ρ ⟨a4,a5,rfl⟩;have Nt:=by have:=(yY.mp hd).2;simpa using this.symm
  have ix:=by have:=(yY.mp hd).1;simpa using this
  subst Nt;rw[ABC];have Gx:(upTo (wx s k) d).length=d+1:=by simp[upTo]
  have JB:(upTo (wy s k) d).length=d+1:=by simp[upTo]
  refine⟨_,[some<|.im<|.rd<|Ay s,some<|.im<|.int k,some<|.own<|upTo (wx s k)<|d+1,some<|.own<|upTo (wy s k)<|d+1,some<|.im<|.int d,some<|.im<|.int<|Af s<|k+5+(d),none],rfl,?_,_,_,rfl⟩;rw[sq<|A7 (F0 rfl rfl U) rfl];rw[Zo,Zo,wx,wy];refine(sq<|OV rfl (AM (Hb (Hb (AQ rfl rfl<|Zn _ _) rfl)<|EE 4 rfl)<|AW _) rfl<|XG _ _ U).trans ?_;exact(OV rfl (AM (Hb (Hb (AQ rfl rfl<|Zn _ _) rfl)<|EE 4<|Gp 4 rfl)<|AW _) rfl<|XG _ _ U))
 rw[sq<|(B7 I0).trans e];refine(sq<|A7 rfl rfl).trans ?_;exact JW rfl
theorem U0(r:List Pt)(n:Nat)(h:n<=r.length):IV (AI r) none (some<|n)=AI (r.take n):=by unfold IV;rw[HT.Y7,HT.Y6,B9,List.drop_zero,Nat.sub_zero,Nat.min_eq_left h,AI,AI,List.map_take]
theorem dY(r:List Pt)(n:Nat)(h:n<=r.length):IV (AI r) (some<|n) none=AI (r.drop n):=by unfold IV;rw[HT.Y7,HT.Y6,B9,Nat.min_eq_left h,ABf (by simp[AI]),AI,AI,List.map_drop]
theorem V2{f g:EF}{ρ:AY}{rv:RV}{r:List Pt}{n:Nat}(e:f ρ=some rv)(hr:rv.list=some (AI r))(e2:g ρ=some (.cl<|.int<|n))(h:n<=r.length):Co f Cz (Cn g) ρ=some (.fr<|AI<|r.take n):=by unfold Co Cz Cn;rw[e,e2];dsimp only;rw[hr];dsimp only;rw[U0 r n h]
theorem Vw{f g:EF}{ρ:AY}{rv:RV}{r:List Pt}{n:Nat}(e:f ρ=some rv)(hr:rv.list=some (AI r))(e2:g ρ=some (.cl<|.int<|n))(h:n<=r.length):Co f (Cn g) Cz ρ=some (.fr<|AI<|r.drop n):=by unfold Co Cz Cn;rw[e,e2];dsimp only;rw[hr];dsimp only;rw[dY r n h]
noncomputable def DO(r:List Pt)(c:Int):Nat:=(c%(r.length:Int)).toNat
theorem Oi{r:List Pt}(h:0<r.length)(c:Int):DO r c<r.length:=by have h2:=yz c (b:=(r.length)) U;unfold DO;lia
theorem Yg{r:List Pt}(h:0<r.length)(c:Int):c%(r.length)=(DO r c):=by have h1:=zE c (b:=(r.length)) U;unfold DO;lia
def EN(r:List Pt)(c:Int):Pt:=((AA r<|DO r c).1+c / 16%33-16,(AA r<|DO r c).2+c / 1024%33-16)
def GL(r:List Pt)(c:Int):List Pt:=r.take (DO r c) ++ [EN r c]++r.drop (DO r c+1)
def Kg(s:List Int)(k:Int)(r:List Pt)(d:Nat):List Pt:=
 let c:=Af s<|k+15+(d:Int)
 if(decide (max (DM (EN r c).1) (DM (EN r c).2)<80)&&Iq (GL r c))=true then GL r c else r
def Kf(s:List Int)(k:Int)(r:List Pt):List Pt:=(List.range (Af s (k+1) / 4%5).toNat).foldl (Kg s k) r
theorem oh{r:List Pt}(h:0<r.length)(c:Int):(GL r c).length=r.length:=by have:=Oi h c;unfold GL;simp only[yx,AAY,yn,zq,ABG];lia
theorem ag(s:List Int)(k:Int)(h0:0<=k){r:List Pt}(h1:0<r.length)(h2:r.length<=100):Pr [.rd<|Ay s,.int k,.lst<|AI r]=some (.cl<|.lst<|AI<|Kf s k r)/\(Kf s k r).length=r.length:=by
 have hn:Af s (k+1) / 4%5=((Af s (k+1) / 4%5).toNat):=U
 have I0:Bh (AD (f2 A1 (f2 B4 (AS CA<|AD (AB 0)<|AD (f2 AZ (AB 1)<|fC<|.int 1) AH)<|fC<|.int 4)<|fC<|.int 5) AH) (BG 9 [.rd<|Ay s,.int k,.lst<|AI r])=some ((List.range (Af s (k+1) / 4%5).toNat).map λd:Nat=>PV.int<|d):=
  DE (AM (by rw[<-hn];exact EE 5<|Gp 4<|F0 rfl rfl U)<|AW _) U
 obtain⟨ρ',e,⟨a3,a4,a5,a6,a7,a8,rfl⟩,Bn⟩:=R7 (gt:=AV 3) (body:=(AO (Aa 4<|AS CA<|AD (AB 0)<|AD (f2 AZ (f2 AZ (AB 1)<|fC<|.int 15)<|AB 3) AH)<|AO (Aa 5<|f2 A1 (AB 4)<|fB An<|AD (AB 2) AH)<|AO (Aa 6<|f2 Ab (f2 AZ (f2 AL (f2 AL (AB 2)<|AB 5)<|fC<|.int 0)<|f2 A1 (f2 B4 (AB 4)<|fC<|.int 16)<|fC<|.int 33)<|fC<|.int 16)<|AO (Aa 7<|f2 Ab (f2 AZ (f2 AL (f2 AL (AB 2)<|AB 5)<|fC<|.int 1)<|f2 A1 (f2 B4 (AB 4)<|fC<|.int 1024)<|fC<|.int 33)<|fC<|.int 16)<|AO (Aa 8<|f2 AZ (f2 AZ (Co (AB 2) Cz<|Cn<|AB 5)<|A3<|AD (Am<|AD (AB 6)<|AD (AB 7) AH) AH)<|Co (AB 2) (Cn<|f2 AZ (AB 5)<|fC<|.int 1) Cz)<|Aq (CN (AR<|f2 Bk (fB Dm<|AD (fB C3<|AD (AB 6) AH)<|AD (fB C3<|AD (AB 7) AH) AH)<|fC<|.int 80)<|AR<|AS K0<|AD (AB 8) AH) (Aa 2<|AB 8) Ax)) (Kg s k) (λ(q) ρ=>(∃a3 a4 a5 a6 a7 a8,ρ=[some<|.im<|.rd<|Ay s,some<|.im<|.int k,some<|.im<|.lst<|AI q,a3,a4,a5,a6,a7,a8])/\q.length=r.length) (ρ:=BG 9 [.rd<|Ay s,.int k,.lst<|AI r]) ⟨⟨none,none,none,none,none,none,rfl⟩,rfl⟩ (by
  rintro d hd q ρ ⟨⟨a3,a4,a5,a6,a7,a8,rfl⟩,hq⟩;have RT:0<q.length:=U
  unfold Kg;dsimp only;have Vl:=F0 (f:=AB 0) (g:=f2 AZ (f2 AZ (AB 1)<|fC<|.int 15)<|AB 3) (ρ:=[some<|.im<|.rd<|Ay s,some<|.im<|.int k,some<|.im<|.lst<|AI q,some<|.im<|.int d,a4,a5,a6,a7,a8]) rfl rfl U;generalize Af s (k+15+(d))=c at Vl ⊢;have hp:=Oi RT c;have Lu:=Yg RT c;have hx:AL (.cl<|.lst<|AI q) (.cl<|.int<|DO q c)=some (.cl<|pv<|AA q<|DO q c):=CJ q _ U U;have jH:=B9 q;have jb:=oh RT c;have pre:∀h:SF,AO (Aa 4<|AS CA<|AD (AB 0)<|AD (f2 AZ (f2 AZ (AB 1)<|fC<|.int 15)<|AB 3) AH) (AO (Aa 5<|f2 A1 (AB 4)<|fB An<|AD (AB 2) AH)<|AO (Aa 6<|f2 Ab (f2 AZ (f2 AL (f2 AL (AB 2)<|AB 5)<|fC<|.int 0)<|f2 A1 (f2 B4 (AB 4)<|fC<|.int 16)<|fC<|.int 33)<|fC<|.int 16)<|AO (Aa 7<|f2 Ab (f2 AZ (f2 AL (f2 AL (AB 2)<|AB 5)<|fC<|.int 1)<|f2 A1 (f2 B4 (AB 4)<|fC<|.int 1024)<|fC<|.int 33)<|fC<|.int 16)<|AO (Aa 8<|f2 AZ (f2 AZ (Co (AB 2) Cz<|Cn<|AB 5)<|A3<|AD (Am<|AD (AB 6)<|AD (AB 7) AH) AH)<|Co (AB 2) (Cn<|f2 AZ (AB 5)<|fC<|.int 1) Cz) h)
    [some<|.im<|.rd<|Ay s,some<|.im<|.int k,some<|.im<|.lst<|AI q,some<|.im<|.int d,a4,a5,a6,a7,a8] =
    h [some<|.im<|.rd<|Ay s,some<|.im<|.int k,some<|.im<|.lst<|AI q,some<|.im<|.int d,some<|.im<|.int c,some<|.im<|.int<|DO q c,some<|.im<|.int (EN q c).1,some<|.im<|.int (EN q c).2,some<|.im<|.lst<|AI<|GL q c]:=λh=>by
   rw[sq<|A7 Vl rfl];refine(sq (A7 (r:=.cl<|.int<|DO q c) (by rw[<-Lu,<-jH];exact AQ rfl rfl<|Eg U) rfl)).trans ?_
   refine(sq<|A7 (J4 (Hb (AQ (AQ rfl rfl hx) rfl<|DV _)<|EE 33<|Gp 16 rfl) rfl) rfl).trans ?_;refine(sq<|A7 (J4 (Hb (AQ (AQ rfl rfl hx) rfl<|Dl _)<|EE 33<|Gp 1024 rfl) rfl) rfl).trans ?_;refine(sq<|A7 (AQ (AQ (V2 rfl rfl rfl U) (y:=.fr [pv<|EN q c]) rfl<|JI rfl rfl (by simp[AI];lia)) (Vw rfl rfl rfl U)<|JI rfl rfl (by simp[AI];lia)) rfl).trans ?_;unfold GL;rw[Kh,Kh]
   rfl
  have et:(CN (AR<|f2 Bk (fB Dm<|AD (fB C3<|AD (AB 6) AH)<|AD (fB C3<|AD (AB 7) AH) AH)<|fC<|.int 80)<|AR<|AS K0<|AD (AB 8) AH) [some<|.im<|.rd<|Ay s,some<|.im<|.int k,some<|.im<|.lst<|AI q,some<|.im<|.int d,some<|.im<|.int c,some<|.im<|.int<|DO q c,some<|.im<|.int (EN q c).1,some<|.im<|.int (EN q c).2,some<|.im<|.lst<|AI<|GL q c] = some (decide (max (DM (EN q c).1) (DM (EN q c).2)<80)&&Iq (GL q c)):=
   Ia (Az<|AQ (Bb (AM (Bb (AM rfl<|AW _)<|L7 _)<|AM (Bb (AM rfl<|AW _)<|L7 _)<|AW _)<|KH _ _) rfl<|GG _ _) λ_=>Az<|A6 (AM rfl<|AW _) rfl<|aO U
  cases hb:(decide (max (DM (EN q c).1) (DM (EN q c).2)<80)&&Iq (GL q c))with
  |true=>
   rw[hb]at et;rw[yO rfl];exact⟨_,_,rfl,(pre _).trans<|(BZ et).trans<|A7 rfl rfl,⟨_,_,_,_,_,_,rfl⟩,U⟩
  |false=>
   rw[hb]at et;exact⟨_,_,rfl,(pre _).trans<|(BO et).trans rfl,⟨_,_,_,_,_,_,rfl⟩,hq⟩)
 refine⟨Bg rfl ?_,Bn⟩;exact(sq<|(B7 I0).trans e).trans rfl
noncomputable def GP(z:Int)(p:Pt):Pt:=(p.1+z*p.2,p.2)
noncomputable def Ii(p:Pt):Pt:=(0-p.1,p.2)
noncomputable def Ij(p:Pt):Pt:=(p.1,0-p.2)
noncomputable def Je(p:Pt):Pt:=(p.2,p.1)
noncomputable def IA(x y:Int)(p:Pt):Pt:=(p.1+x,p.2+y)
def Df(s:List Int)(k most:Int):List Pt:=if most=12/\Af s (k+1) / 20%6=5 then Kt s k else Ff s k (3+Af s k%(most-2))
def DQ(s:List Int)(k:Int):Int:=Af s (k+2) / 8%3-1
def EO(s:List Int)(k most:Int):List Pt:=Kf s k<|(Df s k most).map<|GP<|DQ s k
def GR(s:List Int)(k:Int)(r:List Pt):List Pt:=if Af s (k+2)%8%2=1 then(r.map Ii).reverse else r
def Jj(s:List Int)(k:Int)(r:List Pt):List Pt:=if Af s (k+2)%8 / 2%2=1 then(r.map Ij).reverse else r
def PK(s:List Int)(k:Int)(r:List Pt):List Pt:=if Af s (k+2)%8 / 4=1 then(r.map Je).reverse else r
def DG(s:List Int)(k most:Int):List Pt:=PK s k<|Jj s k<|GR s k<|EO s k most
noncomputable def JY(r:List Pt)(n:Nat):List Pt:=r.drop n++r.take n
def drawn(s:List Int)(k most:Int):List Pt:=(JY (DG s k most)<|DO (DG s k most)<|Af s<|k+3).map<|IA (Af s (k+3) / 16%41-20)<|Af s (k+4)%41-20
theorem oB(s:List Int)(k:Int){count:Int}(h1:3<=count)(h2:count<=12):((Ff s k count).length)=count:=by
 have h:=(Yd s k h1 h2).len;unfold Ff;split
 .simp[EC];lia
 .rw[Ox];lia
theorem br(s:List Int)(k:Int){most:Int}(h1:3<=most)(h2:most<=12):3<=(Df s k most).length/\((Df s k most).length)<=most:=by
 unfold Df;split
 .simp[Kt];lia
 .have a:=zE (Af s k) (b:=most-2) U;have b:=yz (Af s k) (b:=most-2) U;have:=oB s k (count:=3+Af s k%(most-2)) U U;lia
theorem Th(s:List Int)(k:Int)(r:List Pt):(GR s k r).length=r.length:=by unfold GR;split<;>simp
theorem Zi(s:List Int)(k:Int)(r:List Pt):(Jj s k r).length=r.length:=by unfold Jj;split<;>simp
theorem ud(s:List Int)(k:Int)(r:List Pt):(PK s k r).length=r.length:=by unfold PK;split<;>simp
theorem q9(r:List Pt)(q:Pt->Pt):(r.map<|pv∘q).reverse=AI ((r.map q).reverse):=by unfold AI;rw[List.map_reverse,zM]
theorem aj(s:List Int)(k most:Int)(h0:0<=k)(h1:3<=most)(h2:most<=12):Pu [.rd<|Ay s,.int k,.int most]=some (.fr<|AI<|drawn s k most)/\3<=(drawn s k most).length/\((drawn s k most).length)<=most:=by
 have hb:=br s k h1 h2;have Wx:=ag s k h0 (r:=(Df s k most).map<|GP<|DQ s k) (by simp;lia) (by simp;lia);have BY:(EO s k most).length=(Df s k most).length:=by rw[EO,Wx.2,yP]
 have jb:(DG s k most).length=(Df s k most).length:=by rw[DG,ud,Zi,Th,BY]
 have Q0:(drawn s k most).length=(Df s k most).length:=by unfold drawn JY;simp only[yP,yx,ABG,AAY];lia
 refine⟨?_,U,U⟩;refine Bg rfl ?_;unfold VN;have em:=zE (Af s k) (b:=most-2) U;have xA:=yz (Af s k) (b:=most-2) U;rw[sq<|A7 (F0 rfl rfl h0) rfl];rw[sq<|A7 (A6 (AM rfl<|AM rfl<|AM (Hb rfl<|AQ rfl rfl<|Eg U)<|AW _) rfl<|ae s k (3+Af s k%(most-2)) h0 U U) rfl];show AO _ _ [some<|.im<|.rd<|Ay s,some<|.im<|.int k,some<|.im<|.int most,some<|.im<|.int<|Af s k,some<|.im<|.lst<|AI<|Ff s k<|3+Af s k%(most-2),none,none,none,none,none]=_;have e1:(Aq (CN (AR<|f2 Ba (AB 2)<|fC<|.int 12)<|AR<|f2 Ba (f2 A1 (f2 B4 (AS CA<|AD (AB 0)<|AD (f2 AZ (AB 1)<|fC<|.int 1) AH)<|fC<|.int 20)<|fC<|.int 6)<|fC<|.int 5) (Aa 4<|AS M1<|AD (AB 0)<|AD (AB 1) AH) Ax) [some<|.im<|.rd<|Ay s,some<|.im<|.int k,some<|.im<|.int most,some<|.im<|.int<|Af s k,some<|.im<|.lst<|AI<|Ff s k<|3+Af s k%(most-2),none,none,none,none,none] = some (.nx [some<|.im<|.rd<|Ay s,some<|.im<|.int k,some<|.im<|.int most,some<|.im<|.int<|Af s k,some<|.im<|.lst<|AI<|Df s k most,none,none,none,none,none]):=by
  have et:=Ia (Ic (f:=AB 2) (ρ:=[some<|.im<|.rd<|Ay s,some<|.im<|.int k,some<|.im<|.int most,some<|.im<|.int<|Af s k,some<|.im<|.lst<|AI<|Ff s k<|3+Af s k%(most-2),none,none,none,none,none]) 12 rfl) λ_=>Ic 5<|EE 6<|Gp 20<|F0 (f:=AB 0) (g:=f2 AZ (AB 1)<|fC<|.int 1) rfl rfl U;unfold Df;by_cases hc:most=12/\Af s (k+1) / 20%6=5
  .rw[show(most==12&&Af s (k+1) / 20%6==5)=true by simp[hc.1,hc.2]]at et;rw[yO hc];exact(BZ et).trans (A7 (A6 (AM rfl<|AM rfl<|AW _) rfl<|ar s k h0) rfl)
  .rw[show(most==12&&Af s (k+1) / 20%6==5)=false by rw[AB8];intro z;simp at z;exact hc z]at et
   rw[yN hc];exact(BO et).trans rfl
 rw[sq e1];have WX:∀(a4 a5 a6 a7 a8 a9:Option SV),AS CA (AD (AB 0)<|AD (f2 AZ (AB 1)<|fC<|.int 2) AH) [some<|.im<|.rd<|Ay s,some<|.im<|.int k,some<|.im<|.int most,some<|.im<|.int<|Af s k,a4,a5,a6,a7,a8,a9]=some (.cl<|.int<|Af s<|k+2):=λ_ _ _ _ _ _=>F0 rfl rfl U;have WY:∀(a4 a5 a6 a7 a8 a9:Option SV),AS CA (AD (AB 0)<|AD (f2 AZ (AB 1)<|fC<|.int 3) AH) [some<|.im<|.rd<|Ay s,some<|.im<|.int k,some<|.im<|.int most,some<|.im<|.int<|Af s k,a4,a5,a6,a7,a8,a9]=some (.cl<|.int<|Af s<|k+3):=λ_ _ _ _ _ _=>F0 rfl rfl U;have iX:∀(a4 a5 a6 a7 a8 a9:Option SV),AS CA (AD (AB 0)<|AD (f2 AZ (AB 1)<|fC<|.int 4) AH) [some<|.im<|.rd<|Ay s,some<|.im<|.int k,some<|.im<|.int most,some<|.im<|.int<|Af s k,a4,a5,a6,a7,a8,a9]=some (.cl<|.int<|Af s<|k+4):=λ_ _ _ _ _ _=>F0 rfl rfl U;rw[sq<|A7 (J4 (EE 3<|Gp 8<|WX _ _ _ _ _ _) rfl) rfl];show AO _ _ [some<|.im<|.rd<|Ay s,some<|.im<|.int k,some<|.im<|.int most,some<|.im<|.int<|Af s k,some<|.im<|.lst<|AI<|Df s k most,some<|.im<|.int<|DQ s k,none,none,none,none]=_;have fo:A0 (A9 false<|AB 4) 2 [5] (Cp 2<|BX (AV 0)<|BX (AV 1) C1) BM (Am<|AD (f2 AZ (AB 0)<|f2 CK (AB 2)<|AB 1)<|AD (AB 1) AH) [some<|.im<|.rd<|Ay s,some<|.im<|.int k,some<|.im<|.int most,some<|.im<|.int<|Af s k,some<|.im<|.lst<|AI<|Df s k most,some<|.im<|.int<|DQ s k,none,none,none,none] = some (.fr<|AI<|(Df s k most).map<|GP<|DQ s k):=by unfold AI;rw[zM];refine QX rfl rfl U λp _=>⟨.cl<|pv<|GP (DQ s k) p,?_,rfl⟩;exact Ew (AM (Hb rfl<|AQ rfl rfl<|Fd<|FL (by unfold DQ;lia))<|AM rfl<|AW _) rfl
 rw[sq<|A7 (A6 (AM rfl<|AM rfl<|AM fo<|AW _) rfl Wx.1) rfl];show AO _ _ [some<|.im<|.rd<|Ay s,some<|.im<|.int k,some<|.im<|.int most,some<|.im<|.int<|Af s k,some<|.im<|.lst<|AI<|EO s k most,some<|.im<|.int<|DQ s k,none,none,none,none]=_;rw[sq<|A7 (EE 8<|WX _ _ _ _ _ _) rfl];show AO _ _ [some<|.im<|.rd<|Ay s,some<|.im<|.int k,some<|.im<|.int most,some<|.im<|.int<|Af s k,some<|.im<|.lst<|AI<|EO s k most,some<|.im<|.int<|DQ s k,some<|.im<|.int<|Af s (k+2)%8,none,none,none]=_;have tn:∀(q:Pt->Pt)(f:EF)(t:BF)(b:Bool)(r:List Pt),r.length<=1000->t [some<|.im<|.rd<|Ay s,some<|.im<|.int k,some<|.im<|.int most,some<|.im<|.int<|Af s k,some<|.im<|.lst<|AI r,some<|.im<|.int<|DQ s k,some<|.im<|.int<|Af s (k+2)%8,none,none,none]=some b->(∀p:Pt,f [some<|.im<|.int p.1,some<|.im<|.int p.2]=some (.cl<|pv<|q p))->Aq t (Aa 4<|FQ<|A0 (A9 false<|AB 4) 2 [] (Cp 2<|BX (AV 0)<|BX (AV 1) C1) BM f) Ax [some<|.im<|.rd<|Ay s,some<|.im<|.int k,some<|.im<|.int most,some<|.im<|.int<|Af s k,some<|.im<|.lst<|AI r,some<|.im<|.int<|DQ s k,some<|.im<|.int<|Af s (k+2)%8,none,none,none] = some (.nx [some<|.im<|.rd<|Ay s,some<|.im<|.int k,some<|.im<|.int most,some<|.im<|.int<|Af s k,some (.im (.lst (AI (if b=true then(r.map q).reverse else r)))),some<|.im<|.int<|DQ s k,some<|.im<|.int<|Af s (k+2)%8,none,none,none]):=λq f t b r hl et hf=>by
  cases b with
  |false=>exact(BO et).trans rfl
  |true=>
   rw[yO rfl,BZ et];have ec:=QX (f:=AB 4) (ρ:=[some<|.im<|.rd<|Ay s,some<|.im<|.int k,some<|.im<|.int most,some<|.im<|.int<|Af s k,some<|.im<|.lst<|AI r,some<|.im<|.int<|DQ s k,some<|.im<|.int<|Af s (k+2)%8,none,none,none]) (cap:=[]) (h:=pv∘q) rfl rfl hl λp _=>⟨_,hf p,rfl⟩;rw[<-q9];exact A7 (V1 ec rfl) rfl
 have bi:∀i n:Int,∀r r':List Pt,(if(i==n)=true then r else r')=(if i=n then r else r'):=λi n r r'=>by
  by_cases h:i=n
  .rw[yO (by simpa using h),yO h]
  .rw[yN (by simpa using h),yN h]
 have t1:=tn Ii (Am<|AD (f2 Ab (fC<|.int 0)<|AB 0)<|AD (AB 1) AH) _ _ (EO s k most) U (Ic (f:=f2 A1 (AB 6)<|fC<|.int 2) 1<|EE 2 rfl) λp=>rfl;rw[bi]at t1;have t2:=tn Ij (Am<|AD (AB 0)<|AD (f2 Ab (fC<|.int 0)<|AB 1) AH) _ _ (GR s k<|EO s k most) (by rw[Th];lia) (Ic (f:=f2 A1 (f2 B4 (AB 6)<|fC<|.int 2)<|fC<|.int 2) 1<|EE 2<|Gp 2 rfl) λp=>rfl;rw[bi]at t2;have t3:=tn Je (Am<|AD (AB 1)<|AD (AB 0) AH) _ _ (Jj s k<|GR s k<|EO s k most) (by rw[Zi,Th];lia) (Ic (f:=f2 B4 (AB 6)<|fC<|.int 4) 1<|Gp 4 rfl) λp=>rfl;rw[bi]at t3;rw[sq t1];refine(sq t2).trans ?_;refine(sq t3).trans ?_;show AO _ _ [some<|.im<|.rd<|Ay s,some<|.im<|.int k,some<|.im<|.int most,some<|.im<|.int<|Af s k,some<|.im<|.lst<|AI<|DG s k most,some<|.im<|.int<|DQ s k,some<|.im<|.int<|Af s (k+2)%8,none,none,none]=_;have KG:0<(DG s k most).length:=U
 have jT:=Yg KG<|Af s<|k+3;have xW:=Oi KG<|Af s<|k+3;have e7:f2 A1 (AS CA<|AD (AB 0)<|AD (f2 AZ (AB 1)<|fC<|.int 3) AH) (fB An<|AD (AB 4) AH) [some<|.im<|.rd<|Ay s,some<|.im<|.int k,some<|.im<|.int most,some<|.im<|.int<|Af s k,some<|.im<|.lst<|AI<|DG s k most,some<|.im<|.int<|DQ s k,some<|.im<|.int<|Af s (k+2)%8,none,none,none] = some (.cl<|.int<|DO (DG s k most)<|Af s<|k+3):=by rw[<-jT];exact AQ (WY _ _ _ _ _ _) (by rw[<-B9];rfl)<|Eg U
 rw[sq<|A7 e7 rfl];refine(sq<|A7 (J4 (EE 41<|Gp 16<|WY _ _ _ _ _ _) rfl) rfl).trans ?_;refine(sq<|A7 (J4 (EE 41<|iX _ _ _ _ _ _) rfl) rfl).trans ?_;refine JW ?_;show A0 _ _ _ _ _ _ [some<|.im<|.rd<|Ay s,some<|.im<|.int k,some<|.im<|.int most,some<|.im<|.int<|Af s k,some<|.im<|.lst<|AI<|DG s k most,some<|.im<|.int<|DQ s k,some<|.im<|.int<|Af s (k+2)%8,some<|.im<|.int<|DO (DG s k most)<|Af s<|k+3,some<|.im<|.int<|Af s (k+3) / 16%41-20,some<|.im<|.int<|Af s (k+4)%41-20]=_;unfold drawn;have Nu:=QX (f:=f2 AZ (Co (AB 4) (Cn<|AB 7) Cz)<|Co (AB 4) Cz<|Cn<|AB 7) (fe:=Am<|AD (f2 AZ (AB 0)<|AB 2)<|AD (f2 AZ (AB 1)<|AB 3) AH) (cap:=[8,9]) (h:=pv∘IA (Af s (k+3) / 16%41-20) (Af s (k+4)%41-20)) (ρ:=[some<|.im<|.rd<|Ay s,some<|.im<|.int k,some<|.im<|.int most,some<|.im<|.int<|Af s k,some<|.im<|.lst<|AI<|DG s k most,some<|.im<|.int<|DQ s k,some<|.im<|.int<|Af s (k+2)%8,some<|.im<|.int<|DO (DG s k most)<|Af s<|k+3,some<|.im<|.int<|Af s (k+3) / 16%41-20,some<|.im<|.int<|Af s (k+4)%41-20]) (rv:=.fr<|AI<|JY (DG s k most)<|DO (DG s k most)<|Af s<|k+3) (by refine(AQ (Vw rfl rfl rfl U) (V2 rfl rfl rfl U)<|JI rfl rfl (by simp[AI];lia)).trans ?_;unfold JY;rw[Kh]) rfl (by unfold JY;simp;lia) λp _=>⟨.cl<|pv<|IA (Af s (k+3) / 16%41-20) (Af s (k+4)%41-20) p,rfl,rfl⟩
 rw[Nu];unfold AI;rw[zM]
theorem Vp:∀r:List Pt,PySem.PyData.eqvAll (CL<|AI r) (CL<|AI r)=true
 |[]=>by simp[AI,CL,PySem.PyData.eqvAll]
 |p::r=>by
  have ih:=Vp r;have e:CL (AI (p::r))=Ao (pv p)::CL (AI r):=by unfold AI;rw[ye,CL]
  rw[e,PySem.PyData.eqvAll,ih];simp[pv,Ao,CL,PySem.PyData.eqv,PySem.PyData.eqvAll]
theorem Rz:∀r:List Pt,PySem.PyData.canLayAll0 (CL<|AI r)=true/\PySem.PyData.depthAll (CL<|AI r)<=1
 |[]=>by simp[AI,CL,PySem.PyData.canLayAll0,PySem.PyData.depthAll]
 |p::r=>by
  have ih:=Rz r;have e:CL (AI (p::r))=Ao (pv p)::CL (AI r):=by unfold AI;rw[ye,CL]
  rw[e,PySem.PyData.canLayAll0,PySem.PyData.depthAll,ih.1];have h2:PySem.PyData.depth (Ao<|pv p)<=1:=by simp[pv,Ao,CL,PySem.PyData.depth,PySem.PyData.depthAll]
  refine⟨by rfl,U⟩
theorem kG{x y:RV}{b:Bool}(hx:PySem.SeqAt.shaped (Ao x.any)=true)(hy:PySem.SeqAt.shaped (Ao y.any)=true)(h:PySem.PyData.eqv (Ao x.any) (Ao y.any)=b):Ba x y=some (.cl<|.bl b):=by unfold Ba;rw[yO ⟨hx,hy⟩,h]
open AN (AG Ak A4 BP AA M nb At Keeps Rm Rows Bf)
theorem Tj:∀(l acc:List<|List Int),(Internal.ST.Dp acc l).length<=acc.length+l.length/\((Internal.ST.Dp acc l).length=acc.length+l.length↔(l.Nodup/\∀x∈l,x∉acc))
 |[],acc=>by unfold Internal.ST.Dp;simp
 |k::r,acc=>by
  unfold Internal.ST.Dp;by_cases hk:k∈acc
  .rw[yO hk];obtain⟨h1,h2⟩:=Tj r acc;refine⟨by rw[yn];lia,⟨λh=>by rw[yn]at h;lia,λh=>absurd hk (h.2 k yq)⟩⟩
  .rw[yN hk];obtain⟨h1,h2⟩:=Tj r (k::acc);rw[yn]at h1 h2;refine⟨by rw[yn];lia,?_⟩;rw[yn,show acc.length+(r.length+1)=acc.length+1+r.length by lia,h2,AAV];constructor
   .rintro⟨a,b⟩;refine⟨⟨λhm=>b k hm yq,a⟩,λx hx=>?_⟩;rcases yw.mp hx with rfl|hx
    .exact hk
    .exact λhm=>b x hx<|yj _ hm
   .rintro⟨⟨a,b⟩,c⟩;refine⟨b,λx hx hm=>?_⟩;rcases yw.mp hm with rfl|hm
    .exact a hx
    .exact c x (yj _ hx) hm
theorem kg(r:List Pt):(kl r).Nodup↔r.Nodup:=by
 unfold kl List.Nodup;rw[AAf];constructor
 .exact λh=>h.imp λAs e=>As<|by rw[e]
 .exact λh=>h.imp λ{a b} As e=>As (by simp only[ACN,and_true]at e;exact zd e.1 e.2)
theorem Vc(r:List Pt):dist r=r.length↔r.Nodup:=by have:=(Tj (kl r) []).2;unfold dist;rw[show(kl r).length=r.length from yP ..]at this;rw[show r.length=([]).length+r.length by simp,this,kg];simp
theorem NB(r:List Pt):HS r=true↔∀k:Nat,k<r.length->AG (AA r<|(k)-2) (AA r<|(k)-1) (AA r k)≠0:=by unfold HS;simp[zW]
theorem QN{r:List Pt}(h0:0<r.length)(h:HS r=true)(k:Int):AG (AA r<|k-2) (AA r<|k-1) (AA r k)≠0:=by
 have a:=zE k (b:=(r.length)) U;have b:=yz k (b:=(r.length)) U;have:=(NB r).mp h (k%(r.length)).toNat U;rw[yk a]at this;have e:∀d:Int,AA r (k%(r.length)-d)=AA r (k-d):=λd=>by unfold AN.AA;rw[Int.emod_sub_emod]
 rw[e,e,AN.Et]at this;exact this
theorem JX(r:List Pt):DP r=true↔Rm r/\∀p∈r,Bd 100 p:=by
 unfold DP;simp only[yR,yZ,AAS,zW,SK,UN];constructor
 .rintro⟨⟨h1,h2⟩,h3,h4,h5,h6,h7⟩;have hd:dist r=r.length:=U
  exact⟨⟨U,U,(Vc r).mp hd,QN U h5,AN.QI U h6,h7⟩,h4⟩
 .rintro⟨R,h⟩;have h3:=R.l3;have B3:=R.MG;refine⟨⟨U,U⟩,by rw[(Vc r).mpr R.nd],h,(NB r).mpr λk _=>R.Jx k,AN.bS R.apart,R.IP⟩
theorem kW(z:Int):Keeps (GP z) 1 where
 one:=.inl rfl
 sd:=λa b c=>by unfold AG GP;grind
 at_:=λa b p=>by
  unfold At GP;constructor
  .rintro⟨q,s,h1,h2,h3,e1,e2⟩;exact⟨q,s,h1,h2,h3,by dsimp only at *;grind,by dsimp only at *;grind⟩
  .rintro⟨q,s,h1,h2,h3,e1,e2⟩;exact⟨q,s,h1,h2,h3,by dsimp only at *;grind,by dsimp only at *;grind⟩
 inj:=λa b h=>by unfold GP at h;rw[AAz]at h;obtain⟨h1,h2⟩:=h;rw[h2]at h1;exact zd U h2
theorem kU(x y:Int):Keeps (IA x y) 1 where
 one:=.inl rfl
 sd:=λa b c=>by unfold AG IA;grind
 at_:=λa b p=>by
  unfold At IA;constructor
  .rintro⟨q,s,h1,h2,h3,e1,e2⟩;exact⟨q,s,h1,h2,h3,by dsimp only at *;grind,by dsimp only at *;grind⟩
  .rintro⟨q,s,h1,h2,h3,e1,e2⟩;exact⟨q,s,h1,h2,h3,by dsimp only at *;grind,by dsimp only at *;grind⟩
 inj:=λa b h=>by unfold IA at h;rw[AAz]at h;exact zd U U
theorem kR:Keeps Ii (-1) where
 one:=.inr rfl
 sd:=λa b c=>by unfold AG Ii;grind
 at_:=λa b p=>by
  unfold At Ii;constructor
  .rintro⟨q,s,h1,h2,h3,e1,e2⟩;exact⟨q,s,h1,h2,h3,yG,by dsimp only at *;grind⟩
  .rintro⟨q,s,h1,h2,h3,e1,e2⟩;exact⟨q,s,h1,h2,h3,by dsimp only at *;grind,by dsimp only at *;grind⟩
 inj:=λa b h=>by unfold Ii at h;rw[AAz]at h;exact zd U U
theorem kT:Keeps Ij (-1) where
 one:=.inr rfl
 sd:=λa b c=>by unfold AG Ij;grind
 at_:=λa b p=>by
  unfold At Ij;constructor
  .rintro⟨q,s,h1,h2,h3,e1,e2⟩;exact⟨q,s,h1,h2,h3,by dsimp only at *;grind,yG⟩
  .rintro⟨q,s,h1,h2,h3,e1,e2⟩;exact⟨q,s,h1,h2,h3,by dsimp only at *;grind,by dsimp only at *;grind⟩
 inj:=λa b h=>by unfold Ij at h;rw[AAz]at h;exact zd U U
theorem kX:Keeps Je (-1) where
 one:=.inr rfl
 sd:=λa b c=>by unfold AG Je;grind
 at_:=λa b p=>by
  unfold At Je;constructor
  .rintro⟨q,s,h1,h2,h3,e1,e2⟩;exact⟨q,s,h1,h2,h3,by dsimp only at *;grind,by dsimp only at *;grind⟩
  .rintro⟨q,s,h1,h2,h3,e1,e2⟩;exact⟨q,s,h1,h2,h3,by dsimp only at *;grind,by dsimp only at *;grind⟩
 inj:=λa b h=>by unfold Je at h;exact zd U U
theorem FN{r:List Pt}{i:Nat}(h:i<r.length):AA r (i)=r[i]:=by unfold AN.AA;rw[yM U U];simp[List.getD,h]
theorem NJ(r:List Pt):AA r (r.length)=AA r 0:=by have:=AN.ED r 0;rw[zr]at this;exact this
theorem Y2{r:List Pt}{m:Nat}(R:Rows r.length m λi=>AA r<|i)(B3:r.length<=12)(hb:HS r=true):Rm r:=by
 have h3:=R.h3;refine⟨h3,B3,?_,QN U hb,AN.QI U λk j h0 h1 h2 hn=>?_,?_⟩
 .refine za.mpr λi j hi hj Bi=>?_;have:=R.inj Bi hj;rw[FN hi,FN hj]at this;exact this
 .have hf:=AN.WA U U hn;unfold AN.Bt at hf;rw[yM U U]at hf;have:=R.apart (i:=k.toNat) (j:=j.toNat) U U U U;rw[show((k.toNat))=k by lia,show((k.toNat+1:Nat))=k+1 by lia,show((j.toNat))=j by lia,show((j.toNat+1:Nat))=j+1 by lia]at this;exact AN.Xp this
 .have:=R.IP;rw[AN.LG];rw[AN.Bs]at this
  .exact this
  .intro i _;unfold AN.Fx;rw[show(((i:Int).toNat):Int)=i by lia,show((((i:Int)+1).toNat):Int)=i+1 by lia]
structure LA(mode:Int)(i:Nat)(b:Int×List Pt×List Pt):Prop where
 lo:0<=b.1
 hi:b.1<=4*i
 m3:mode=3->b.1=i
 len:b.2.1.length+b.2.2.length=i
 lp:b.2.1.Pairwise λp q=>p.1<q.1
 hp:b.2.2.Pairwise λp q=>p.1<q.1
 bl:∀p∈b.2.1,1<=p.1/\p.1<=b.1/\-30<=p.2/\p.2<=-1
 bh:∀p∈b.2.2,1<=p.1/\p.1<=b.1/\1<=p.2/\p.2<=30
theorem Xt{a b:Int}(ha:1<=a)(hb:1<=b)(h:a+b<=11):1<=a*b/\a*b<=30:=by
 have h1:=yX (U:0<a) (U:0<b);have h2:0<=(a-b)*(a-b):=by
  rcases AAG a b with h|h
  .exact zk U U
  .exact yT U U
 have h3:=Int.mul_le_mul h h U U;lia
theorem oD{s:List Int}{k count mode:Int}{i:Nat}{b:Int×List Pt×List Pt}(h1:3<=count)(h2:count<=12)(hi:(i)<count-2)(h:LA mode i b):LA mode (i+1)<|Ei s k count mode b i:=by
 obtain⟨x0,low,Bp⟩:=b;obtain⟨lo,hh,m3,len,lp,hp,bl,bh⟩:=h;dsimp only at lo hh m3 len lp hp bl bh;unfold Ei;dsimp only;generalize ec:Af s (k+4+(1+(i)))=c;have hx:∀x,(if mode=3 then 1+(i:Int)else x0+1+c / 2%4)=x->x0<x/\x<=4*((i)+1)/\(mode=3->x=i+1):=λx e=>by
  subst e;by_cases hm:mode=3
  .rw[yO hm];exact⟨U,U,λ_=>U⟩
  .rw[yN hm];exact⟨U,U,λz=>absurd z hm⟩
 have hy:∀y,(if mode=3 then(1+(i))*(count-1-(1+(i)))else 1+c / 8%9)=y->1<=y/\y<=30:=λy e=>by
  subst e;by_cases hm:mode=3
  .rw[yO hm];exact Xt U U U
  .rw[yN hm];lia
 generalize ex:(if mode=3 then 1+(i:Int)else x0+1+c / 2%4)=x;generalize ey:(if mode=3 then(1+(i))*(count-1-(1+(i)))else 1+c / 8%9)=y;obtain⟨xf,Rg,W8⟩:=hx x ex;have Ri:=hy y ey;split
 .refine⟨by dsimp only;lia,by push_cast;lia,λz=>by exact W8 z,by simp;lia,?_,hp,λp hp=>?_,λp hp=>?_⟩
  .refine zx.mpr ⟨lp,yI,λa ha b hb=>?_⟩;rw[yr.mp hb];have:=bl a ha;dsimp only;lia
  .rcases zF.mp hp with z|z
   .have:=bl p z;dsimp only;lia
   .rw[yr.mp z];dsimp only;lia
  .have:=bh p hp;dsimp only;lia
 .refine⟨by dsimp only;lia,by push_cast;lia,λz=>by exact W8 z,by simp;lia,lp,?_,λp hp=>?_,λp hp=>?_⟩
  .refine zx.mpr ⟨hp,yI,λa ha b hb=>?_⟩;rw[yr.mp hb];have:=bh a ha;dsimp only;lia
  .have:=bl p hp;dsimp only;lia
  .rcases zF.mp hp with z|z
   .have:=bh p z;dsimp only;lia
   .rw[yr.mp z];dsimp only;lia
theorem Yf{s:List Int}{k count mode:Int}(h1:3<=count)(h2:count<=12):∀n:Nat,(n)<=count-2->LA mode n ((List.range n).foldl (Ei s k count mode) (0,[],[]))
 |0,_=>⟨yI,yI,λ_=>rfl,rfl,.nil,.nil,(λp hp=>by cases hp),(λp hp=>by cases hp)⟩
 |n+1,hn=>by rw[AAm,AB7];exact oD h1 h2 U<|Yf h1 h2 n U
theorem rD{mode:Int}{i:Nat}{b:Int×List Pt×List Pt}(h:LA mode i b)(hi:1<=i):Rows (CT b).length b.2.1.length λi=>AA (CT b)<|i:=by
 obtain⟨x0,low,Bp⟩:=b;obtain⟨lo,hh,m3,len,lp,hp,bl,bh⟩:=h;dsimp only at lo hh m3 len lp hp bl bh ⊢;have hl:(CT (x0,low,Bp)).length=low.length+Bp.length+2:=Ox _;have er:CT (x0,low,Bp)=((0,0)::(low ++ [(x0+1,0)]))++Bp.reverse:=by simp[CT]
 have fi:CT (x0,low,Bp) ++ [(0,0)]=((0,0)::low)++((x0+1,0)::(Bp.reverse ++ [(0,0)])):=by simp[CT]
 have pb:((0,0)::(low ++ [(x0+1,0)]):List Pt).Pairwise λp q=>p.1<q.1:=by
  refine ABT.mpr ⟨λp hp=>?_,zx.mpr ⟨lp,yI,λa ha c hc=>?_⟩⟩
  .rcases zF.mp hp with z|z
   .have:=bl p z;dsimp only;lia
   .rw[yr.mp z];dsimp only;lia
  .rw[yr.mp hc];have:=bl a ha;dsimp only;lia
 have pt:((x0+1,0)::(Bp.reverse ++ [(0,0)]):List Pt).Pairwise λp q=>q.1<p.1:=by
  refine ABT.mpr ⟨λp hp=>?_,zx.mpr ⟨List.pairwise_reverse.mpr hp,yI,λa ha c hc=>?_⟩⟩
  .rcases zF.mp hp with z|z
   .have:=bh p<|AAs.mp z;dsimp only;lia
   .rw[yr.mp z];dsimp only;lia
  .rw[yr.mp hc];have:=bh a<|AAs.mp ha;dsimp only;lia
 have gb:∀j:Nat,(hj:j<=low.length+1)->AA (CT (x0,low,Bp)) (j)=((0,0)::(low ++ [(x0+1,0)]):List Pt)[j]'(by simp;lia):=λj hj=>by rw[FN U];simp only[er];rw[AAt]
 have gt:∀j:Nat,(h1:low.length+1<=j)->(hj:j<=low.length+Bp.length+2)->AA (CT (x0,low,Bp)) (j)=((x0+1,0)::(Bp.reverse ++ [(0,0)]):List Pt)[j-(low.length+1)]'(by simp;lia):=λj h1 hj=>by
  have e:AA (CT (x0,low,Bp)) (j)=(CT (x0,low,Bp) ++ [(0,0)])[j]'(by simp[hl];lia):=by
   by_cases Ey:j<(CT (x0,low,Bp)).length
   .rw[FN Ey,AAt Ey]
   .have CH:j=(CT (x0,low,Bp)).length:=U
    subst CH;rw[NJ];have:=by have:=gb 0 U;simpa using this
    rw[this];simp
  rw[e];simp only[fi];rw[List.getElem_append_right (by simp;lia)];simp
 refine⟨U,U,NJ _,λj hj=>?_,λj h1 hj=>?_,?_,?_,λj h1 hj=>?_,λj h1 hj=>?_⟩
 .rw[gb j U,gb (j+1) U];exact za.mp pb j (j+1) (by simp;lia) (by simp;lia) U
 .rw[gt j h1 U,gt (j+1) U U];exact za.mp pt (j-(low.length+1)) (j+1-(low.length+1)) (by simp;lia) (by simp;lia) U
 .rfl
 .rw[gb (low.length+1) U];simp
 .rw[gb j U];obtain⟨j',rfl⟩:∃j',j=j'+1:=⟨j-1,U⟩;rw[AA7,AAt U];have:=bl _<|ABH (n:=j') U;lia
 .rw[gt j U U];obtain⟨j',CH⟩:∃j',j-(low.length+1)=j'+1:=⟨j-(low.length+1)-1,U⟩;simp only[CH];rw[AA7,AAt (by simp;lia)];have:=bh _ (AAs.mp<|ABH (n:=j') (by simp;lia));lia
theorem HW{c:Int}{i:Nat}(h:(i)<c):AA (EC c) (i)=((i:Int),0-(i)*(c-1-i)):=by rw[FN (by simp[EC];lia)];simp[EC]
theorem rY(u v w d:Int):AG (u,0-u*(d-u)) (v,0-v*(d-v)) (w,0-w*(d-w))=(v-u)*(w-u)*(w-v):=by unfold AG;grind
theorem cL{c:Int}(h:0<=c):((EC c).length)=c:=by simp[EC];lia
theorem cM{c:Int}(h1:3<=c)(h2:c<=12):Rm<|EC c:=by
 have hl:=cL (c:=c) U;refine Y2 (m:=c.toNat-2) ⟨U,U,NJ _,λi hi=>?_,λi hi Hm=>?_,?_,?_,λi hi Hm=>?_,λi hi Hm=>U⟩ U<|(NB _).mpr λk hk=>?_
 .rw[HW U,HW U];dsimp only;lia
 .have CP:i=c.toNat-1:=U
  subst CP;have e1:AA (EC c) ((c.toNat-1+1:Nat))=AA (EC c) 0:=by rw[<-NJ];congr 1;lia
  have e2:=HW (c:=c) (i:=0) U;rw[e1,HW U];rw[show((0:Nat):Int)=0 from rfl]at e2;rw[e2];dsimp only;lia
 .have e2:=HW (c:=c) (i:=0) U;rw[e2];simp
 .rw[HW U];dsimp only;rw[show c-1-((c.toNat-2+1:Nat))=0 by lia];lia
 .rw[HW U];dsimp only;have:=yX (U:(0:Int)<i) (U:0<c-1-(i));lia
 .have e:∀j:Int,0<=j->j<c->AA (EC c) j=(j,0-j*(c-1-j)):=λj h0 h1=>by have:=HW (c:=c) (i:=j.toNat) U;rw[yk h0]at this;exact this
  have e':∀j:Int,-c<=j->j<0->AA (EC c) j=(j+c,0-(j+c)*(c-1-(j+c))):=λj h0 h1=>by rw[<-AN.ED,hl];exact e (j+c) U U
  have ne3:∀u v w:Int,u≠v->u≠w->v≠w->AG (u,0-u*(c-1-u)) (v,0-v*(c-1-v)) (w,0-w*(c-1-w))≠0:=λu v w a b d=>by rw[rY];exact ABr (ABr U U) U
  by_cases Iz:2<=k
  .rw[e _ U U,e _ U U,e _ U U];exact ne3 _ _ _ U U U
  .by_cases i9:k=1
   .subst i9;rw[e' _ U U,e _ U U,e _ U U];exact ne3 _ _ _ U U U
   .have Lq:k=0:=U
    subst Lq;rw[e' _ U U,e' _ U U,e _ U U];exact ne3 _ _ _ U U U
def Ge(p:Pt):Prop:=-41<=p.1/\p.1<=41/\-30<=p.2/\p.2<=30
theorem oC(s:List Int)(k:Int){count:Int}(h1:3<=count)(h2:count<=12):Rm (Ff s k count)/\∀p∈Ff s k count,Ge p:=by
 have st:LA (Af s (k+1)%4) (count-2).toNat<|Ca s k count:=Yf h1 h2 _ U;unfold Ff;cases hf:FR (CT<|Ca s k count)with
 |true=>
  refine⟨cM h1 h2,λp hp=>?_⟩;obtain⟨j,hj,rfl⟩:=zV.mp hp;have CH:=yS.mp hj;unfold Ge;dsimp only;by_cases h0:j=0
  .subst h0;simp
  .by_cases hc:(j)=count-1
   .rw[hc,show count-1-(count-1)=0 by lia];lia
   .have:=Xt (a:=(j)) (b:=count-1-j) U U U;lia
 |false=>
  rw[yN yI];have hl:=Ox<|Ca s k count;have Bn:=st.len;refine⟨Y2 (rD st U) U (by rw[WC,hf];rfl),λp hp=>?_⟩;unfold CT at hp;simp only[zF,yr,AAs]at hp;have:=st.lo;have:=st.hi;unfold Ge;rcases hp with((rfl|hp)|rfl)|hp
  .simp
  .have:=st.bl p hp;lia
  .lia
  .have:=st.bh p hp;lia
theorem vK{a b c d:Pt}(h:a.1<c.1/\a.1<d.1/\b.1<c.1/\b.1<d.1\/a.2<c.2/\a.2<d.2/\b.2<c.2/\b.2<d.2):¬ Bf a b c d:=by
 rcases h with h|h
 .exact AN.S8 (max a.1 b.1) (max a.1 b.1+1) U U U U U
 .exact AN.rQ (max a.2 b.2) (max a.2 b.2+1) U U U U U
noncomputable def Dc:List Pt:=[(0,0),(5,0),(5,5),(1,5),(1,2),(3,2),(3,3),(2,3),(2,4),(4,4),(4,1),(0,1)]
noncomputable abbrev Tu(a b c d:Pt):Bool:=decide <| a.1.toNat<c.1.toNat/\a.1.toNat<d.1.toNat/\b.1.toNat<c.1.toNat/\b.1.toNat<d.1.toNat\/a.2.toNat<c.2.toNat/\a.2.toNat<d.2.toNat/\b.2.toNat<c.2.toNat/\b.2.toNat<d.2.toNat
abbrev vC(a b c:Pt):Prop:=a.1.toNat=b.1.toNat/\b.2.toNat=c.2.toNat/\a.2.toNat≠b.2.toNat/\b.1.toNat≠c.1.toNat\/a.2.toNat=b.2.toNat/\b.1.toNat=c.1.toNat/\a.1.toNat≠b.1.toNat/\b.2.toNat≠c.2.toNat
theorem GV{X:Nat->Int}(h:∀i,X i<X (i+1)){i j:Nat}(Bi:i<j):X i<X j:=by
 induction Bi with
 |refl=>exact h _
 |step _ ih=>exact ACo ih<|h _
theorem Ku{X:Nat->Int}(h:∀i,X i<X (i+1)){i j:Nat}(Bi:i≠j):X i-X j≠0:=by
 rcases Nat.lt_or_gt_of_ne Bi with z|z
 .have:=GV h z;lia
 .have:=GV h z;lia
theorem vE{X Y:Nat->Int}(hX:∀i,X i<X (i+1))(hY:∀i,Y i<Y (i+1)):Rm<|Dc.map λp=>(X p.1.toNat,Y p.2.toNat):=by
 have hc:∀k,AA (Dc.map λp=>(X p.1.toNat,Y p.2.toNat)) k=(X (AA Dc k).1.toNat,Y (AA Dc k).2.toNat):=AN.DD yJ;refine⟨by show 3<=12;decide,by show 12<=12;decide,?_,QN (by show 0<12;decide)<|(NB _).mpr λk hk=>?_,AN.QI (by show 2<=12;decide) λk m h0 h1 h2 hn=>?_,?_⟩
 .refine List.Pairwise.map _ (λa b Dh e=>?_) (show Dc.Pairwise (λa b=>a.1.toNat≠b.1.toNat\/a.2.toNat≠b.2.toNat)by decide);injection e with e1 e2
  rcases Dh with z|z
  .exact Ku hX z U
  .exact Ku hY z U
 .rw[hc,hc,hc];unfold AG;rcases(yK:∀k:Nat,k<12->vC (AA Dc<|(k)-2) (AA Dc<|(k)-1) (AA Dc k)) k hk with⟨a,b,c,d⟩|⟨a,b,c,d⟩
  .have:=ABr (Ku hY c)<|Ku hX d;dsimp only;rw[a,<-b];grind
  .have:=ABr (Ku hX c)<|Ku hY d;dsimp only;rw[a,<-b];grind
 .obtain⟨i,rfl⟩:=ACJ h0;obtain⟨j,rfl⟩:=ACJ (U:0<=m);have xO:(j:Int)<12:=h2;have:=(yK:∀j:Nat,j<12->∀i:Nat,i<j->nb 12 ((j)-i)=false->Tu (AA Dc i) (AA Dc<|(i)+1) (AA Dc j) (AA Dc<|(j)+1)\/Tu (AA Dc j) (AA Dc<|(j)+1) (AA Dc i) (AA Dc<|(i)+1)) j U i U hn;unfold M;rw[hc,hc,hc,hc];have w:∀{a b c d:Pt},Tu a b c d->¬ Bf (X a.1.toNat,Y a.2.toNat) (X b.1.toNat,Y b.2.toNat) (X c.1.toNat,Y c.2.toNat) (X d.1.toNat,Y d.2.toNat):=λh=>vK<|(of_decide_eq_true h).imp (λh=>⟨GV hX h.1,GV hX h.2.1,GV hX h.2.2.1,GV hX h.2.2.2⟩) λh=>⟨GV hY h.1,GV hY h.2.1,GV hY h.2.2.1,GV hY h.2.2.2⟩;exact AN.Xp<|this.elim w λh z=>w h z.symm
 .unfold AN.DJ;have a:=hX 0;have b:=hX 1;have c:=hX 2;have d:=hX 3;have e:=hX 4
  have f:=hY 0;have g:=hY 1;have h:=hY 2;have i:=hY 3;have j:=hY 4
  have:=yX (U:0<X 5-X 4) (U:0<Y 5-Y 0);have:=yX (U:0<X 4-X 0) (U:0<Y 1-Y 0);have:=yX (U:0<X 4-X 2) (U:0<Y 5-Y 4);have:=yX (U:0<X 3-X 2) (U:0<Y 3-Y 2);have:=yX (U:0<X 2-X 1) (U:0<Y 5-Y 2);simp[AN.AU,AA,Dc,AN.B2]
  grind
theorem Z2(s:List Int)(k:Int)(i:Nat):wx s k i<wx s k (i+1)/\wx s k (i+1)<=wx s k i+4:=by rw[wx];lia
theorem Z4(s:List Int)(k:Int)(i:Nat):wy s k i<wy s k (i+1)/\wy s k (i+1)<=wy s k i+4:=by rw[wy];lia
theorem Z1(s:List Int)(k:Int):∀i:Nat,0<=wx s k i/\wx s k i<=4*i
 |0=>by simp[wx]
 |i+1=>by have:=Z1 s k i;have:=Z2 s k i;lia
theorem Z3(s:List Int)(k:Int):∀i:Nat,0<=wy s k i/\wy s k i<=4*i
 |0=>by simp[wy]
 |i+1=>by have:=Z3 s k i;have:=Z4 s k i;lia
theorem vD(s:List Int)(k:Int):Rm (Kt s k)/\∀p∈Kt s k,Ge p:=by
 refine⟨vE (λi=>(Z2 s k i).1) λi=>(Z4 s k i).1,λp hp=>?_⟩;have key:∀i j:Nat,i<=5->j<=5->Ge (wx s k i,wy s k j):=λi j hi hj=>by have h1:=Z1 s k i;have h2:=Z3 s k j;unfold Ge;dsimp only;lia
 unfold Kt at hp;simp only[yw,AAZ,ABl]at hp;rcases hp with rfl|rfl|rfl|rfl|rfl|rfl|rfl|rfl|rfl|rfl|rfl|rfl<;>exact key _ _ U U
theorem bu(s:List Int)(k:Int){most:Int}(h1:3<=most)(h2:most<=12):Rm (Df s k most)/\∀p∈Df s k most,Ge p:=by
 unfold Df;split
 .exact vD s k
 .have a:=zE (Af s k) (b:=most-2) U;have b:=yz (Af s k) (b:=most-2) U;exact oC s k U U
theorem rm{z:Int}(hz:z = -1\/z=0\/z=1){p:Pt}(h:Ge p):Bd 80<|GP z p:=by unfold Ge at h;unfold Bd GP;dsimp only;rcases hz with rfl|rfl|rfl<;>lia
theorem W9{i:Int}(h:DM i<80) : -80<=i/\i<=80:=by unfold DM at h;split at h<;>lia
theorem og{s:List Int}{k:Int}{r:List Pt}{d:Nat}(h:Rm r/\∀p∈r,Bd 80 p):Rm (Kg s k r d)/\∀p∈Kg s k r d,Bd 80 p:=by
 unfold Kg;dsimp only;generalize Af s (k+15+(d))=c;split
 .rename_i hc;simp only[yR,yZ]at hc;obtain⟨h1,h2⟩:=hc;rw[g5]at h2;refine⟨((JX _).mp h2).1,λp hp=>?_⟩;unfold GL at hp;simp only[zF,yr]at hp;rcases hp with(hp|rfl)|hp
  .exact h.2 p<|ABs hp
  .have a:=W9 (i:=(EN r c).1) U;have b:=W9 (i:=(EN r c).2) U;exact⟨a.1,a.2,b.1,b.2⟩
  .exact h.2 p<|ABo hp
 .exact h
theorem oe{s:List Int}{k:Int}{r:List Pt}(h:Rm r/\∀p∈r,Bd 80 p):Rm (Kf s k r)/\∀p∈Kf s k r,Bd 80 p:=by
 unfold Kf;generalize List.range (Af s (k+1) / 4%5).toNat=l
 induction l generalizing r with
 |nil=>exact h
 |cons d l ih=>exact ih<|og h
theorem om(s:List Int)(k:Int){most:Int}(h1:3<=most)(h2:most<=12):Rm (EO s k most)/\∀p∈EO s k most,Bd 80 p:=by have hb:=bu s k h1 h2;refine oe ⟨hb.1.map<|kW _,λp hp=>?_⟩;obtain⟨q,hq,rfl⟩:=zV.mp hp;exact rm (by unfold DQ;lia)<|hb.2 q hq
theorem S0{T:Pt->Pt}(k:Keeps T (-1))(hT:∀p,Bd 80 p->Bd 80 (T p)){r:List Pt}(h:Rm r/\∀p∈r,Bd 80 p):Rm (r.map T).reverse/\∀p∈(r.map T).reverse,Bd 80 p:=
 ⟨h.1.mapRev k,λp hp=>by obtain⟨q,hq,rfl⟩:=zV.mp<|AAs.mp hp;exact hT q<|h.2 q hq⟩
theorem ui(s:List Int)(k:Int){most:Int}(h1:3<=most)(h2:most<=12):Rm (DG s k most)/\∀p∈DG s k most,Bd 80 p:=by
 have h:=om s k h1 h2;have t1:Rm (GR s k<|EO s k most)/\∀p∈GR s k (EO s k most),Bd 80 p:=by
  unfold GR;split
  .exact S0 kR (λp hp=>by unfold Bd Ii at *;dsimp only at *;lia) h
  .exact h
 have t2:Rm (Jj s k<|GR s k<|EO s k most)/\∀p∈Jj s k (GR s k<|EO s k most),Bd 80 p:=by
  unfold Jj;split
  .exact S0 kT (λp hp=>by unfold Bd Ij at *;dsimp only at *;lia) t1
  .exact t1
 unfold DG PK;split
 .exact S0 kX (λp hp=>by unfold Bd Je at *;dsimp only at *;lia) t2
 .exact t2
theorem fG(s:List Int)(k:Int){most:Int}(h1:3<=most)(h2:most<=12):Rm (drawn s k most)/\∀p∈drawn s k most,Bd 100 p:=by
 have h:=ui s k h1 h2;have h3:=h.1.l3;have hp:=Oi (r:=DG s k most) U<|Af s<|k+3;refine⟨(h.1.JY U).1.map<|kU _ _,λp hp=>?_⟩;obtain⟨q,hq,rfl⟩:=zV.mp hp;have KD:q∈DG s k most:=by
  rcases zF.mp hq with z|z
  .exact ABo z
  .exact ABs z
 have:=h.2 q KD;unfold Bd IA at *
 lia
theorem fH(s:List Int)(k:Int){most:Int}(h1:3<=most)(h2:most<=12):DP (drawn s k most)=true:=(JX _).mpr<|fG s k h1 h2
open AN (AG Ak A4 BP AA M nb Rm)
theorem Vi{f:EF}{ρ:AY}{r:RV}(e:f ρ=some r):Il f ρ=some (.nx ρ):=by unfold Il;rw[e]
theorem VX{N n:Nat}{g:SF}{ps:List PV}{ρ:AY}(h:ps.length=n)(e:g (BG N ps)=some (.nx ρ)):denote N n g ps=some (.cl .A8):=by unfold denote;rw[yO h,e];rfl
theorem aI{r:List Pt}(h:DP r=true):Pe [.lst<|AI r]=some (.cl .A8):=by refine VX (ρ:=BG 1 [.lst<|AI r]) rfl ?_;unfold U4;have e:=Eu<|Az<|A6 (ρ:=BG 1 [.lst<|AI r]) (AM (f:=AB 0) (x:=.cl<|.lst<|AI r) rfl<|AW _) rfl<|aS (r:=r);rw[h]at e;exact(BO e).trans rfl
theorem Kk{r:List Pt}(h:DP r=true):3<=r.length/\r.length<=12/\∀p∈r,Bd 1000 p:=by obtain⟨R,hb⟩:=(JX r).mp h;exact⟨R.l3,R.MG,λp hp=>by have:=hb p hp;unfold Bd at *;lia⟩
theorem Vy{t:BF}{f g:EF}{ρ:AY}(e:t ρ=some true):Gr t f g ρ=f ρ:=by unfold Gr;rw[e]
theorem Vx{t:BF}{f g:EF}{ρ:AY}(e:t ρ=some false):Gr t f g ρ=g ρ:=by unfold Gr;rw[e]
theorem Vt{fa fb fc fd:EF}{ρ:AY}{i j k l:Int}(ha:fa ρ=some (.cl<|.int i))(hb:fb ρ=some (.cl<|.int j))(hc:fc ρ=some (.cl<|.int k))(hd:fd ρ=some (.cl<|.int l)):Dy B1 Bk Bk fa fb fc fd ρ=some (.cl<|.bl<|decide (i<=j)&&(decide (j<k)&&decide (k<l))):=by
 unfold Dy;rw[ha,hb];dsimp only;rw[G8];cases h:decide (i<=j)
 .rfl
 .dsimp only;rw[hc];dsimp only;rw[GG];cases h2:decide (j<k)
  .rfl
  .dsimp only;rw[hd];rfl
theorem af{a b c:Pt}(ha:Bd 1000 a)(hb:Bd 1000 b):M3 [pw a b,pv c]=some (.cl<|.bl<|AN.pr a b c):=by
 refine Bg rfl ?_;unfold AN.pr;show AO _ _ [some<|.im<|pw a b,some<|.im<|pv c,some<|.im<|.bl<|decide (a.2>c.2),some<|.im<|.bl<|decide (b.2>c.2),none]=_;generalize decide (a.2>c.2)=x;generalize decide (b.2>c.2)=y;have et:AR (f2 Ba (AB 2)<|AB 3) [some<|.im<|pw a b,some<|.im<|pv c,some<|.im<|.bl x,some<|.im<|.bl y,none]=some (x==y):=Az<|AQ rfl rfl<|kF _ _;have es:Aa 4 (AS EX<|AD (f2 AL (AB 0)<|fC<|.int 0)<|AD (f2 AL (AB 0)<|fC<|.int 1)<|AD (AB 1) AH) [some<|.im<|pw a b,some<|.im<|pv c,some<|.im<|.bl x,some<|.im<|.bl y,none]=some (.nx [some<|.im<|pw a b,some<|.im<|pv c,some<|.im<|.bl x,some<|.im<|.bl y,some<|.im<|.int<|AG a b c]):=
  A7 (A6 (AM (AQ rfl rfl<|JL a b)<|AM (AQ rfl rfl<|JM a b)<|AM rfl<|AW _) rfl<|Jo ha hb) rfl
 cases x<;>cases y
 .exact Cs<|(BZ et).trans rfl
 .rw[sq<|(BO et).trans rfl,sq es];exact C5<|(Vy rfl).trans<|AQ rfl rfl<|Fc _ _
 .rw[sq<|(BO et).trans rfl,sq es];exact C5<|(Vx rfl).trans<|AQ rfl rfl<|GG _ _
 .exact Cs<|(BZ et).trans rfl
theorem Qg{f:EF}{ρ:AY}{bs:List Bool}(e:f ρ=some (.fr<|bs.map PV.bl)):fB Hv (AD f AH) ρ=some (.cl<|.bl<|bs.any id):=by refine Bb (AM e<|AW _) ?_;simp only[Hv,RV.list,y9,NC,zf]
def place(ws:List<|Pt×Pt)(p:Pt):PySem.Str:=if(ws.any λw=>Ak w.1 w.2 p)=true then "on" else if((((ws.filter λw=>AN.pr w.1 w.2 p).length:Int)%2==1)=true)then "in" else "out"
theorem ab{ws:List (Pt×Pt)}{p:Pt}(hl:ws.length<=1000)(hb:∀w∈ws,Bd 1000 w.1/\Bd 1000 w.2):Py [.lst<|BQ ws,pv p]=some (.cl<|.str<|place ws p):=by
 refine Bg rfl ?_;unfold VR;have Ef:(BQ ws).length<=1000:=by simpa[BQ]using hl
 have c1:collect (AV 0) BM (AS Fp<|AD (AB 1)<|AD (AB 0) AH) (Bv 1 [1]<|BG 3 [.lst<|BQ ws,pv p]) (BQ ws)=some ((ws.map λw=>Ak w.1 w.2 p).map PV.bl):=by rw[zM];exact Fw λw hw=>⟨_,.cl<|.bl<|Ak w.1 w.2 p,rfl,A6 (AM rfl<|AM rfl<|AW _) rfl<|K1 (hb w hw).1 (hb w hw).2,rfl⟩
 have c2:collect (AV 0) (AR<|AS M3<|AD (AB 0)<|AD (AB 1) AH) (AB 0) (Bv 1 [1]<|BG 3 [.lst<|BQ ws,pv p]) (BQ ws)=some (BQ<|ws.filter λw=>AN.pr w.1 w.2 p):=by exact Du λw hw=>⟨_,rfl,Az<|A6 (AM rfl<|AM rfl<|AW _) rfl<|af (hb w hw).1 (hb w hw).2,λ_=>⟨.cl<|pw w.1 w.2,rfl,rfl⟩⟩
 have e1:=Az<|Qg<|Cg (its:=A9 false<|AB 0) (Eb rfl rfl) Ef c1;have e2:=Cg (its:=A9 false<|AB 0) (Eb rfl rfl) Ef c2;rw[show(ws.map λw=>Ak w.1 w.2 p).any id=ws.any λw=>Ak w.1 w.2 p by rw[AAk];rfl]at e1;unfold place;cases h:ws.any λw=>Ak w.1 w.2 p with
 |true=>
  rw[h]at e1;exact Cs<|(BZ e1).trans rfl
 |false=>
  rw[h]at e1;rw[sq<|(BO e1).trans rfl,sq<|A7 e2 rfl];have BY:(BQ<|ws.filter λw=>AN.pr w.1 w.2 p).length=(ws.filter λw=>AN.pr w.1 w.2 p).length:=by simp[BQ]
  generalize (ws.filter λw=>AN.pr w.1 w.2 p)=vs at *
  have el:fB An (AD (AB 2) AH) ((BG 3 [.lst<|BQ ws,pv p]).set 2<|some<|.im<|.lst<|BQ vs)=some (.cl<|.int<|vs.length):=by rw[<-BY];rfl
  have e3:=Az<|AQ (AQ el (fb:=fC<|.int 2) rfl<|Eg yH) (fb:=fC<|.int 1) rfl<|L9 _ _;refine C5 ?_;cases h3:((vs.length:Int)%2==1)with
  |true=>rw[h3]at e3;exact(Vy e3).trans rfl
  |false=>rw[h3]at e3;exact(Vx e3).trans rfl
theorem Ru{a b:PySem.Str}{c:Bool}(ha:PySem.SeqAt.shaped (Ao<|.str a)=true)(hb:PySem.SeqAt.shaped (Ao<|.str b)=true)(h:(a==b)=c):Ba (.cl<|.str a) (.cl<|.str b)=some (.cl<|.bl c):=
 kG ha hb (by rw[<-h];show PySem.PyData.eqv (Ao<|.str a) (Ao<|.str b)=_;unfold Ao;simp[PySem.PyData.eqv])
theorem oA(ws:List<|Pt×Pt)(p:Pt):Ba (.cl<|.str<|place ws p) (.cl<|.str "in")=some (.cl<|.bl (!(ws.any λw=>Ak w.1 w.2 p)&&(((ws.filter λw=>AN.pr w.1 w.2 p).length:Int)%2==1))):=by
 have s1:PySem.SeqAt.shaped (Ao<|.str "on")=true:=yK
 have s2:PySem.SeqAt.shaped (Ao<|.str "in")=true:=yK
 have s3:PySem.SeqAt.shaped (Ao<|.str "out")=true:=yK
 unfold place;cases (ws.any λw=>Ak w.1 w.2 p)
 .cases (((ws.filter λw=>AN.pr w.1 w.2 p).length:Int)%2==1)
  .exact Ru s3 s2 yK
  .exact Ru s2 s2 yK
 .refine Ru (a:="on") s1 s2 ?_;show(("on")==("in"))=false
  decide +kernel
theorem Tr{r:List Pt}(hb:∀p∈r,Bd 1000 p):∀w∈BR r,Bd 1000 w.1/\Bd 1000 w.2:=λw hw=>by obtain⟨k,_,rfl⟩:=zV.mp hw;exact⟨DC yH hb _,DC yH hb _⟩
theorem Zw(r:List Pt):(BR r).length=r.length:=by simp[BR]
theorem dy{r:List Pt}(hb:∀p∈r,Bd 100 p):∀p∈r.map AN.dbl,Bd 1000 p:=λp hp=>by
 obtain⟨q,hq,rfl⟩:=zV.mp hp;have:=hb q hq;unfold Bd AN.dbl at *
 dsimp only;lia
theorem jx(w:List Pt)(p:Pt):(!((BR w).any λz=>Ak z.1 z.2 p)&&((((BR w).filter λz=>AN.pr z.1 z.2 p).length:Int)%2==1))=AN.JG w p:=by
 unfold AN.JG BR;rw[AAk,List.filter_map,yP]
 rfl
theorem aZ{r:List Pt}(h1:0<r.length)(hl:r.length<=1000)(hb:∀p∈r,Bd 100 p)(A B:Pt):Pw [.lst<|AI r,pw A B]=some (.cl<|.bl<|AN.JG (r.map AN.dbl) (A.1+B.1,A.2+B.2)):=by
 refine Bg rfl ?_;unfold VP;have c1:collect (AV 0) BM (Am<|AD (f2 CK (fC<|.int 2)<|f2 AL (AB 0)<|fC<|.int 0)<|AD (f2 CK (fC<|.int 2)<|f2 AL (AB 0)<|fC<|.int 1) AH) (Bv 1 []<|BG 4 [.lst<|AI r,pw A B]) (AI r)=some (AI<|r.map AN.dbl):=by unfold AI;rw[zM];exact Fw λp hp=>⟨_,.cl<|pv<|AN.dbl p,rfl,Ew (AM (AQ rfl (AQ rfl rfl<|DV p)<|Fd<|FL U)<|AM (AQ rfl (AQ rfl rfl<|Dl p)<|Fd<|FL U)<|AW _) rfl,rfl⟩
 have e1:=Cg (its:=A9 false<|AB 0) (Eb rfl rfl) (by rw[B9];exact hl) c1;rw[sq<|A7 e1 rfl];rw[sq<|A7 (r:=.cl<|pv (A.1+B.1,A.2+B.2)) rfl rfl];refine C5 ?_;have JB:(r.map AN.dbl).length<=1000:=by simpa using hl
 refine(AQ (A6 (AM (A6 (AM rfl<|AW _) rfl<|M5 JB<|by simpa using h1)<|AM rfl<|AW _) rfl<|ab (by rw[Zw];exact JB)<|Tr<|dy hb) rfl<|oA _ _).trans ?_;rw[jx]
theorem Qe(a b:Pt):PySem.PyData.eqv (Ao<|pv a) (Ao<|pv b)=decide (a=b):=by
 have:decide (a=b)=(a.1==b.1&&a.2==b.2):=by rw[AAe];simp[Prod.ext_iff]
 rw[this];simp[pv,Ao,CL,PySem.PyData.eqv,PySem.PyData.eqvAll]
theorem O1(a:Pt):PySem.SeqAt.shaped (Ao<|pv a)=true:=by
 have h1:PySem.PyData.canLay0 (Ao<|pv a)=true:=by simp[pv,Ao,CL,PySem.PyData.canLay0,PySem.PyData.canLayAll0]
 have h2:PySem.PyData.depth (Ao<|pv a)<=1:=by simp[pv,Ao,CL,PySem.PyData.depth,PySem.PyData.depthAll]
 unfold PySem.SeqAt.shaped;lia
theorem XM(a c d:Pt):Dk true (.cl<|pv a) (.cl<|pw c d)=some (.cl<|.bl (!(decide (a=c)||decide (a=d)))):=by unfold Dk;have e:(RV.cl<|pw c d).seq=some [pv c,pv d]:=rfl;rw[e];dsimp only;have hx:(RV.cl<|pv a).any=pv a:=rfl;rw[hx,yO ⟨O1 a,by unfold Ma;simp[O1]⟩,yO rfl];unfold inD;rw[zv,zv,ABq,AA0,Qe,Qe,show decide (c=a)=decide (a=c)by simp[eq_comm],show decide (d=a)=decide (a=d)by simp[eq_comm]]
noncomputable def He(A B:Pt)(w:Pt×Pt):Bool:=(!(decide (A=w.1)||decide (A=w.2)))&&(!(decide (B=w.1)||decide (B=w.2)))
theorem oM(r:List Pt)(A B:Pt):(((BR r).filter<|He A B).map λw=>A4 A B w.1 w.2).any id=AN.HD r A B:=by
 unfold AN.HD BR;rw[AAk,List.any_filter,AAk]
 rfl
def IU(n i j:Int):Bool:=(decide (0<=i)&&(decide (i<j)&&decide (j<n)))&&!(nb n<|j-i)
def Ol(r:List Pt)(i j:Int):Bool:=IU r.length i j&&(!AN.HD r (AA r i) (AA r j)&&AN.JG (r.map AN.dbl) ((AA r i).1+(AA r j).1,(AA r i).2+(AA r j).2))
theorem aQ{r:List Pt}(h:DP r=true)(i j:Int):Mx [.lst<|AI r,.int i,.int j]=some (.cl<|.bl<|Ol r i j):=by
 obtain⟨h3,B3,hb⟩:=Kk h;have iO:=((JX r).mp h).2;refine Bg rfl ?_;unfold U7;have el:fB An (AD (AB 0) AH) (BG 5 [.lst<|AI r,.int i,.int j])=some (.cl<|.int<|r.length):=MI r _ rfl;have et:(CF (CO<|AR<|Dy B1 Bk Bk (fC<|.int 0) (AB 1) (AB 2)<|fB An<|AD (AB 0) AH)<|AR<|AS GW<|AD (fB An<|AD (AB 0) AH)<|AD (AB 1)<|AD (AB 2) AH) (BG 5 [.lst<|AI r,.int i,.int j])=some (!(IU r.length i j)):=by unfold IU;rw[ACq,Bool.not_not];exact F1 (Eu<|Az<|Vt rfl rfl rfl el) λ_=>Az<|A6 (AM el<|AM rfl<|AM rfl<|AW _) rfl<|Px U
 unfold Ol;cases hc:IU r.length i j with
 |false=>
  rw[hc]at et;exact Cs<|(BZ et).trans rfl
 |true=>
  rw[hc]at et;rw[sq<|(BO et).trans rfl];have Bi:=by unfold IU at hc;simp only[yR,yZ]at hc;exact hc.1
  have e1:Am (AD (f2 AL (AB 0)<|AB 1)<|AD (f2 AL (AB 0)<|AB 2) AH) (BG 5 [.lst<|AI r,.int i,.int j])=some (.cl<|pw (AA r i)<|AA r j):=
   Ew (AM (AQ rfl rfl<|CJ r i U U)<|AM (AQ rfl rfl<|CJ r j U U)<|AW _) rfl
  rw[sq<|A7 e1 rfl];show AO _ _ [some<|.im<|.lst<|AI r,some<|.im<|.int i,some<|.im<|.int j,some<|.im<|pw (AA r i)<|AA r j,none]=_;have bA:=DC U hb i;have bB:=DC U hb j;generalize AA r i=A at *
  generalize AA r j=B at *
  have Ef:(BQ<|BR r).length<=1000:=by simp[BQ,BR];lia
  have c1:collect (AV 0) (CN (AR<|f2 (Dk true) (f2 AL (AB 1)<|fC<|.int 0)<|AB 0)<|AR<|f2 (Dk true) (f2 AL (AB 1)<|fC<|.int 1)<|AB 0) (AB 0) (Bv 1 [3] [some<|.im<|.lst<|AI r,some<|.im<|.int i,some<|.im<|.int j,some<|.im<|pw A B,none]) (BQ<|BR r)=some (BQ<|(BR r).filter<|He A B):=by exact Du λw hw=>⟨_,rfl,Ia (Az<|AQ (AQ rfl rfl<|JL A B) rfl<|XM _ _ _) λ_=>Az<|AQ (AQ rfl rfl<|JM A B) rfl<|XM _ _ _,λ_=>⟨.cl<|pw w.1 w.2,rfl,rfl⟩⟩
  have e2:=Cg (its:=A9 false<|AS HP<|AD (AB 0) AH) (Eb (A6 (AM rfl<|AW _) rfl<|M5 U U) rfl) Ef c1;rw[sq<|A7 e2 rfl];show AO _ _ [some<|.im<|.lst<|AI r,some<|.im<|.int i,some<|.im<|.int j,some<|.im<|pw A B,some<|.im<|.lst<|BQ<|(BR r).filter<|He A B]=_;have Q3:(BQ<|(BR r).filter<|He A B).length<=1000:=by have:=AAn (He A B)<|BR r;rw[Zw]at this;simp only[BQ,yP];lia
  have c2:collect (AV 0) BM (AS HN<|AD (AB 1)<|AD (AB 0) AH) (Bv 1 [3] [some<|.im<|.lst<|AI r,some<|.im<|.int i,some<|.im<|.int j,some<|.im<|pw A B,some<|.im<|.lst<|BQ<|(BR r).filter<|He A B]) (BQ<|(BR r).filter<|He A B)=some ((((BR r).filter<|He A B).map λw=>A4 A B w.1 w.2).map PV.bl):=by rw[zM];exact Fw λw hw=>⟨_,.cl<|.bl<|A4 A B w.1 w.2,rfl,A6 (AM rfl<|AM rfl<|AW _) rfl<|T6 bA bB (Tr hb w (zp.mp hw).1).1 (Tr hb w (zp.mp hw).1).2,rfl⟩
  have e3:=Az<|Qg<|Cg (its:=A9 false<|AB 4) (Eb rfl rfl) Q3 c2;rw[oM]at e3;cases hp:AN.HD r A B with
  |true=>
   rw[hp]at e3;exact Cs<|(BZ e3).trans rfl
  |false=>
   rw[hp]at e3;rw[sq<|(BO e3).trans rfl];exact C5<|A6 (AM rfl<|AM rfl<|AW _) rfl<|aZ U U iO A B
theorem Rv(i a b:Int):BB false (.cl<|.int i) (.fr [.int a,.int b])=some (.cl<|.bl (i==a||i==b)):=by simp only[BB,RV.seq,RV.list,C2,zf,zv,ABq,AA0,AAc,AA6];rw[ABL,ABL (a:=b)]
noncomputable def Es(n i j:Int):Bool:=(decide (0<=i)&&(decide (i<j)&&decide (j<n)))&&!((j-i)==1||(j-i)==n-1)
def E5(r:List Pt)(i j:Int):Bool:=Es r.length i j&&(!AN.JO r i j&&AN.LL (AA r<|i-1) (AA r i) (AA r<|i+1) (AA r j))
theorem aX{r:List Pt}(h3:3<=r.length)(B3:r.length<=12)(hb:∀p∈r,Bd 1000 p)(i j:Int):Jk [.lst<|AI r,.int i,.int j]=some (.cl<|.bl<|E5 r i j):=by
 refine Bg rfl ?_;unfold VG;rw[sq<|A7 (MI r (BG 10 [.lst<|AI r,.int i,.int j]) rfl) rfl];show AO _ _ [some<|.im<|.lst<|AI r,some<|.im<|.int i,some<|.im<|.int j,some<|.im<|.int<|r.length,none,none,none,none,none,none]=_;have et:(CF (CO<|AR<|Dy B1 Bk Bk (fC<|.int 0) (AB 1) (AB 2)<|AB 3)<|AR<|f2 (BB false) (f2 Ab (AB 2)<|AB 1)<|A3<|AD (fC<|.int 1)<|AD (f2 Ab (AB 3)<|fC<|.int 1) AH) [some<|.im<|.lst<|AI r,some<|.im<|.int i,some<|.im<|.int j,some<|.im<|.int<|r.length,none,none,none,none,none,none]=some (!(Es r.length i j)):=by unfold Es;rw[ACq,Bool.not_not];exact F1 (Eu<|Az<|Vt rfl rfl rfl rfl) λ_=>Az<|AQ (AQ rfl rfl<|C4 _ _) (Dg (AM rfl<|AM (AQ rfl rfl<|C4 _ _)<|AW _) rfl)<|Rv _ _ _
 unfold E5;cases hc:Es r.length i j with
 |false=>
  rw[hc]at et;exact Cs<|(BZ et).trans rfl
 |true=>
  rw[hc]at et;rw[sq<|(BO et).trans rfl,AAE];have Bi:=by unfold Es at hc;simp only[yR,yZ]at hc;exact hc.1
  rw[sq<|YR (AM (AQ rfl rfl<|CJ r i U U)<|AM (AQ rfl rfl<|CJ r j U U)<|AW _) rfl];show AO _ _ [some<|.im<|.lst<|AI r,some<|.im<|.int i,some<|.im<|.int j,some<|.im<|.int<|r.length,some<|.im<|pv<|AA r i,some<|.im<|pv<|AA r j,none,none,none,none]=_;have bc:=λk=>DC U hb k;have I0:Bh (AD (AB 3) AH) [some<|.im<|.lst<|AI r,some<|.im<|.int i,some<|.im<|.int j,some<|.im<|.int<|r.length,some<|.im<|pv<|AA r i,some<|.im<|pv<|AA r j,none,none,none,none]=some ((List.range r.length).map λk:Nat=>PV.int<|k):=DE (AM rfl<|AW _) U;have H:=GI (enc:=λk:Nat=>PV.int<|k) (gt:=AV 6) (body:=(AO (Aq (CN (AR<|f2 (BB true) (AB 6)<|A3<|AD (AB 1)<|AD (AB 2) AH)<|AR<|AS HM<|AD (AB 4)<|AD (AB 5)<|AD (f2 AL (AB 0)<|AB 6) AH) (Aj<|fC<|.bl false) Ax)<|AO (Aa 7<|f2 A1 (f2 AZ (AB 6)<|fC<|.int 1)<|AB 3)<|Aq (CN (AR<|f2 (BB true) (AB 6)<|A3<|AD (AB 1)<|AD (AB 2) AH)<|AR<|f2 (BB true) (AB 7)<|A3<|AD (AB 1)<|AD (AB 2) AH) (Aq (AR<|AS HL<|AD (AB 4)<|AD (AB 5)<|AD (f2 AL (AB 0)<|AB 6)<|AD (f2 AL (AB 0)<|AB 7) AH) (Aj<|fC<|.bl false) Ax) Ax))
   (c:=λk=>((!((k)==i||(k)==j))&&Ak (AA r i) (AA r j) (AA r k))||(((!((k)==i||(k)==j))&&(!(((k)+1)%(r.length)==i||((k)+1)%(r.length)==j)))&&BP (AA r i) (AA r j) (AA r k) (AA r<|((k)+1)%(r.length))))
   (λρ=>∃a b,ρ=[some<|.im<|.lst<|AI r,some<|.im<|.int i,some<|.im<|.int j,some<|.im<|.int<|r.length,some<|.im<|pv<|AA r i,some<|.im<|pv<|AA r j,a,b,none,none]) (xs:=List.range r.length) ⟨none,none,rfl⟩ (by
   rintro k hk ρ ⟨a,b,rfl⟩;have Bc:=yS.mp hk;refine⟨_,rfl,?_⟩;have l1:=yz ((k)+1) (b:=(r.length)) U;have NM:(CN (AR<|f2 (BB true) (AB 6)<|A3<|AD (AB 1)<|AD (AB 2) AH)<|AR<|AS HM<|AD (AB 4)<|AD (AB 5)<|AD (f2 AL (AB 0)<|AB 6) AH) [some<|.im<|.lst<|AI r,some<|.im<|.int i,some<|.im<|.int j,some<|.im<|.int<|r.length,some<|.im<|pv<|AA r i,some<|.im<|pv<|AA r j,some<|.im<|.int<|k,b,none,none]=some ((!((k)==i||(k)==j))&&Ak (AA r i) (AA r j) (AA r k)):=
    Ia (Az<|AQ rfl (Dg (AM rfl<|AM rfl<|AW _) rfl)<|OJ _ _ _) λ_=>Az<|A6 (AM rfl<|AM rfl<|AM (AQ rfl rfl<|CJ r (k) U U)<|AW _) rfl<|T7 (bc _)<|bc _
   have es:Aa 7 (f2 A1 (f2 AZ (AB 6)<|fC<|.int 1)<|AB 3) [some<|.im<|.lst<|AI r,some<|.im<|.int i,some<|.im<|.int j,some<|.im<|.int<|r.length,some<|.im<|pv<|AA r i,some<|.im<|pv<|AA r j,some<|.im<|.int<|k,b,none,none]=some (.nx [some<|.im<|.lst<|AI r,some<|.im<|.int i,some<|.im<|.int j,some<|.im<|.int<|r.length,some<|.im<|pv<|AA r i,some<|.im<|pv<|AA r j,some<|.im<|.int<|k,some<|.im<|.int<|((k)+1)%(r.length),none,none]):=
    A7 (AQ (AQ rfl rfl<|Hu _ _) rfl<|Eg U) rfl
   have Qf:(CN (AR<|f2 (BB true) (AB 6)<|A3<|AD (AB 1)<|AD (AB 2) AH)<|AR<|f2 (BB true) (AB 7)<|A3<|AD (AB 1)<|AD (AB 2) AH) [some<|.im<|.lst<|AI r,some<|.im<|.int i,some<|.im<|.int j,some<|.im<|.int<|r.length,some<|.im<|pv<|AA r i,some<|.im<|pv<|AA r j,some<|.im<|.int<|k,some<|.im<|.int<|((k)+1)%(r.length),none,none]=some ((!((k)==i||(k)==j))&&(!(((k)+1)%(r.length)==i||((k)+1)%(r.length)==j))):=
    Ia (Az<|AQ rfl (Dg (AM rfl<|AM rfl<|AW _) rfl)<|OJ _ _ _) λ_=>Az<|AQ rfl (Dg (AM rfl<|AM rfl<|AW _) rfl)<|OJ _ _ _
   have Vq:(AR<|AS HL<|AD (AB 4)<|AD (AB 5)<|AD (f2 AL (AB 0)<|AB 6)<|AD (f2 AL (AB 0)<|AB 7) AH) [some<|.im<|.lst<|AI r,some<|.im<|.int i,some<|.im<|.int j,some<|.im<|.int<|r.length,some<|.im<|pv<|AA r i,some<|.im<|pv<|AA r j,some<|.im<|.int<|k,some<|.im<|.int<|((k)+1)%(r.length),none,none]=some (BP (AA r i) (AA r j) (AA r k)<|AA r<|((k)+1)%(r.length)):=
    Az (A6 (AM rfl<|AM rfl<|AM (AQ rfl rfl<|CJ r (k) U U)<|AM (AQ rfl rfl<|CJ r (((k)+1)%(r.length)) U U)<|AW _) rfl<|T5 (bc _) (bc _) (bc _)<|bc _)
   generalize ((!((k)==i||(k)==j))&&Ak (AA r i) (AA r j) (AA r k))=b1 at *
   generalize ((!((k)==i||(k)==j))&&(!(((k)+1)%(r.length)==i||((k)+1)%(r.length)==j)))=b2 at *
   generalize BP (AA r i) (AA r j) (AA r k) (AA r<|((k)+1)%(r.length))=b3 at *
   cases b1 with
   |true=>exact⟨λ_=>Cs<|(BZ NM).trans rfl,λh=>by simp at h⟩
   |false=>
    cases b2 with
    |false=>exact⟨λh=>by simp at h,λ_=>⟨_,(sq<|(BO NM).trans rfl).trans<|(sq es).trans<|(BO Qf).trans rfl,_,_,rfl⟩⟩
    |true=>
     cases b3 with
     |false=>exact⟨λh=>by simp at h,λ_=>⟨_,(sq<|(BO NM).trans rfl).trans<|(sq es).trans<|(BZ Qf).trans<|(BO Vq).trans rfl,_,_,rfl⟩⟩
     |true=>exact⟨λ_=>(sq<|(BO NM).trans rfl).trans<|(sq es).trans<|(BZ Qf).trans<|(BZ Vq).trans rfl,λh=>by simp at h⟩)
  cases hl:AN.JO r i j with
  |true=>exact Cs<|(B7 I0).trans<|H.1 hl
  |false=>
   obtain⟨ρ',e,a,b,rfl⟩:=H.2 hl;rw[sq<|(B7 I0).trans e,ABZ,AAE];have l0:=zE (i+1) (b:=(r.length)) U;have l1:=yz (i+1) (b:=(r.length)) U;have em:AA r ((i+1)%(r.length))=AA r (i+1):=AN.Et r _;have kn:=CJ r ((i+1)%(r.length)) U U;rw[em]at kn;have kp:=CJ r (i-1) U U;have fn:∀x y z w:Option SV,f2 AL (AB 0) (f2 A1 (f2 AZ (AB 1)<|fC<|.int 1)<|AB 3) [some<|.im<|.lst<|AI r,some<|.im<|.int i,some<|.im<|.int j,some<|.im<|.int<|r.length,some<|.im<|pv<|AA r i,some<|.im<|pv<|AA r j,x,y,z,w]=some (.cl<|pv<|AA r<|i+1):=λ_ _ _ _=>
    AQ rfl (AQ (AQ rfl rfl<|Hu _ _) rfl<|Eg U) kn
   have fp:∀x y z w:Option SV,f2 AL (AB 0) (f2 Ab (AB 1)<|fC<|.int 1) [some<|.im<|.lst<|AI r,some<|.im<|.int i,some<|.im<|.int j,some<|.im<|.int<|r.length,some<|.im<|pv<|AA r i,some<|.im<|pv<|AA r j,x,y,z,w]=some (.cl<|pv<|AA r<|i-1):=λ_ _ _ _=>
    AQ rfl (AQ rfl rfl<|C4 _ _) kp
   have sd:∀(f g h:EF)(u v w:Pt)(ρ:AY),Bd 1000 u->Bd 1000 v->f ρ=some (.cl<|pv u)->g ρ=some (.cl<|pv v)->h ρ=some (.cl<|pv w)->f2 Bq (AS Dt<|AD f<|AD g<|AD h AH) (fC<|.int 0) ρ=some (.cl<|.bl<|decide (AG u v w>0)):=λf g h u v w ρ b1 b2 e1 e2 e3=>
    AQ (A6 (AM e1<|AM e2<|AM e3<|AW _) rfl<|M4 b1 b2) rfl (Fc _ _)
   rw[sq<|A7 (sd _ _ _ (AA r i) (AA r<|i+1) (AA r j) _ (bc _) (bc _) rfl (fn _ _ _ _) rfl) rfl];show AO _ _ [some<|.im<|.lst<|AI r,some<|.im<|.int i,some<|.im<|.int j,some<|.im<|.int<|r.length,some<|.im<|pv<|AA r i,some<|.im<|pv<|AA r j,a,b,some<|.im<|.bl<|decide (AG (AA r i) (AA r<|i+1) (AA r j)>0),none]=_;rw[sq<|A7 (sd _ _ _ (AA r<|i-1) (AA r i) (AA r j) _ (bc _) (bc _) (fp _ _ _ _) rfl rfl) rfl];show AO _ _ [some<|.im<|.lst<|AI r,some<|.im<|.int i,some<|.im<|.int j,some<|.im<|.int<|r.length,some<|.im<|pv<|AA r i,some<|.im<|pv<|AA r j,a,b,some<|.im<|.bl<|decide (AG (AA r i) (AA r<|i+1) (AA r j)>0),some<|.im<|.bl<|decide (AG (AA r<|i-1) (AA r i) (AA r j)>0)]=_;have e4:=Az<|sd (f2 AL (AB 0)<|f2 Ab (AB 1)<|fC<|.int 1) (AB 4) (f2 AL (AB 0)<|f2 A1 (f2 AZ (AB 1)<|fC<|.int 1)<|AB 3) (AA r<|i-1) (AA r i) (AA r<|i+1) [some<|.im<|.lst<|AI r,some<|.im<|.int i,some<|.im<|.int j,some<|.im<|.int<|r.length,some<|.im<|pv<|AA r i,some<|.im<|pv<|AA r j,a,b,some<|.im<|.bl<|decide (AG (AA r i) (AA r<|i+1) (AA r j)>0),some<|.im<|.bl<|decide (AG (AA r<|i-1) (AA r i) (AA r j)>0)] (bc _) (bc _) (fp _ _ _ _) rfl<|fn _ _ _ _;unfold AN.LL;by_cases h4:AG (AA r<|i-1) (AA r i) (AA r<|i+1)>0
   .rw[zc h4]at e4;rw[yO h4];exact Cs<|(BZ e4).trans<|C5<|J3 rfl λ_=>rfl
   .rw[zU h4]at e4;rw[yN h4,sq<|(BO e4).trans rfl];exact C5<|NP rfl λ_=>rfl
theorem ku{r:List Pt}(h:DP r=true)(i j:Int):Ol r i j=E5 r i j:=by
 obtain⟨R,_⟩:=(JX r).mp h;have h3:=R.l3;unfold Ol E5;have ie:IU r.length i j=Es r.length i j:=by
  unfold IU Es;cases hd:(decide (0<=i)&&(decide (i<j)&&decide (j<(r.length))))with
  |false=>rfl
  |true=>
   simp only[yR,yZ]at hd;unfold AN.nb;rw[yM U U]
 rw[ie];cases hc:Es r.length i j with
 |false=>rfl
 |true=>
  rw[Es,yR,yR,yR,yZ,yZ,yZ,zO,zL,yo,yo]at hc;obtain⟨⟨a,b,c⟩,d,e⟩:=hc;refine AN.kx R a U U c ?_;have f:AN.Bt r.length<|j-i:=by unfold AN.Bt;rw[yM U U];exact⟨U,d,e⟩
  have:=f.neg U;rw[show -(j-i)=i-j by lia]at this;exact this
theorem LW{g:AF}{ρ:AY}{i j:Nat}(e:g ρ=some [.cl<|.int<|i,.cl<|.int<|j])(hi:i<=1000)(hj:j<=1000):C0 g ρ=some ((List.range<|j-i).map λt:Nat=>PV.int<|(i+t:Nat)):=by unfold C0;rw[e];dsimp only;rw[yO (by unfold HJ;lia)];unfold Ki;rw[show((j:Int)-(i)).toNat=j-i by lia];simp only[Int.natCast_add]
theorem Vu{fa fb fc fd:EF}{ρ:AY}{i j k l:Int}(ha:fa ρ=some (.cl<|.int i))(hb:fb ρ=some (.cl<|.int j))(hc:fc ρ=some (.cl<|.int k))(hd:fd ρ=some (.cl<|.int l)):Dy Bk Bk Bk fa fb fc fd ρ=some (.cl<|.bl<|decide (i<j)&&(decide (j<k)&&decide (k<l))):=by
 unfold Dy;rw[ha,hb];dsimp only;rw[GG];cases h:decide (i<j)
 .rfl
 .dsimp only;rw[hc];dsimp only;rw[GG];cases h2:decide (j<k)
  .rfl
  .dsimp only;rw[hd];rfl
noncomputable def xB(e f:Pt):Bool:=(decide (e.1<f.1)&&(decide (f.1<e.2)&&decide (e.2<f.2)))||(decide (f.1<e.1)&&(decide (e.1<f.2)&&decide (f.2<e.2)))
theorem vL(e f:Pt):xB e f=xB f e:=by unfold xB;rw[ACF]
theorem aJ(e f:Pt):Mv [pv e,pv f]=some (.cl<|.bl<|xB e f):=by refine Bg rfl ?_;exact C5<|NP (Vu (AQ rfl rfl<|DV e) (AQ rfl rfl<|DV f) (AQ rfl rfl<|Dl e)<|AQ rfl rfl<|Dl f) λ_=>Vu (AQ rfl rfl<|DV f) (AQ rfl rfl<|DV e) (AQ rfl rfl<|Dl f)<|AQ rfl rfl<|Dl e
theorem fu{f:EF}{ρ:AY}{b:Bool}(e:f ρ=some (.cl<|.bl b)):Ih f ρ=some (.cl<|.bl (!b)):=by unfold Ih;rw[e]
theorem Vs{f:EF}{ρ:AY}{bs:List Bool}(e:f ρ=some (.fr<|bs.map PV.bl)):fB Dj (AD f AH) ρ=some (.cl<|.bl<|bs.all id):=by refine Bb (AM e<|AW _) ?_;simp only[Dj,RV.list,y9,NC,zf]
theorem QF{its:IF}{own:Nat}{cap:List Nat}{g:GF}{fe:EF}{ρ:AY}{α:Type}{enc:α->PV}{h:α->Bool}{xs:List α}(e:its ρ=some (xs.map enc))(hl:xs.length<=1000)(H:∀x∈xs,∃A5,g (enc x) (Bv own cap ρ)=some A5/\fe A5=some (.cl<|.bl<|h x)):fB Dj (AD (A0 its own cap g BM fe) AH) ρ=some (.cl<|.bl<|xs.all h):=by have:=Vs ((Cg e (by rw[yP];exact hl)<|Fw λx hx=>(by obtain⟨A5,a,b⟩:=H x hx;exact⟨A5,_,a,b,rfl⟩)).trans (by rw[zM];rfl));rw[ABp]at this;exact this
theorem aa(e:Pt){N:List Pt}(hN:N.length<=1000):Pf [pv e,.lst<|AI N]=some (.cl<|.bl (!N.any (xB e))):=by refine Bg rfl ?_;have ec:=Cg (own:=1) (cap:=[0]) (its:=A9 false<|AB 1) (ρ:=BG 2 [pv e,.lst<|AI N]) (Eb rfl rfl) (by rw[B9];exact hN)<|Fw (g:=AV 0) (fe:=AS Mv<|AD (AB 1)<|AD (AB 0) AH) λf _=>⟨_,_,rfl,A6 (AM rfl<|AM rfl<|AW _) rfl<|aJ e f,rfl⟩;have:=fu (Qg <|ec.trans (by rw[zM];rfl));rw[AAk]at this;exact C5 this
theorem kp(c:Int->Int->Int->Int->Bool)(e f:Pt):KI c (.cl<|pv e) (.cl<|pv f)=some (.cl<|.bl<|c e.1 e.2 f.1 f.2):=rfl
section
variable{r N:List Pt}(h:DP r=true)(hN:N.length<=1000)
def ltB(N:List Pt)(k:Nat):Bool:=Er (AA N k).1 (AA N k).2 (AA N<|(k:Int)+1).1 (AA N<|(k:Int)+1).2
def Ot(N:List Pt):Bool:=(List.range<|N.length-1).all<|ltB N
def R3(r N:List Pt):Bool:=N.all λe=>E5 r e.1 e.2
def lg(N:List Pt):Bool:=(List.range N.length).all λk=>!(N.take k).any (xB<|AA N k)
def Fy(r N:List Pt):Bool:=((N.length:Int)==(r.length:Int)-3)&&((Ot N&&R3 r N)&&lg N)
include hN in
theorem ai:Pz [.lst<|AI N]=some (.cl<|.bl<|Ot N):=by
 refine Bg rfl ?_;have l1:fB An (AD (AB 0) AH) (BG 1 [.lst<|AI N])=some (.cl<|.int<|N.length):=Bb (AM rfl<|AW _) (by rw[E4,B9]);have eR:=LW (g:=AD (fC<|.int 1)<|AD (fB An<|AD (AB 0) AH) AH) (i:=1) (AM rfl<|AM l1<|AW _) U hN;refine C5 (QF eR (by rw[zA];lia) λt ht=>?_);have ht:=yS.mp ht;refine⟨_,rfl,?_⟩;refine AQ (AQ rfl (AQ rfl rfl (by rw[C4,show((1+t:Nat):Int)-1=(t)by lia]))<|CJ _ _ U U) (AQ rfl rfl<|CJ _ _ U U) ?_;rw[show((1+t:Nat))=(t)+1 by lia]
 rfl
include h hN
theorem aK:Pg [.lst<|AI r,.lst<|AI N]=some (.cl<|.bl<|Fy r N):=by
 refine Bg rfl ?_;show AO _ _ [some<|.im<|.lst<|AI r,some<|.im<|.lst<|AI N]=_;have l1:fB An (AD (AB 1) AH) [some<|.im<|.lst<|AI r,some<|.im<|.lst<|AI N]=some (.cl<|.int<|N.length):=Bb (AM rfl<|AW _) (by rw[E4,B9]);have l0:fB An (AD (AB 0) AH) [some<|.im<|.lst<|AI r,some<|.im<|.lst<|AI N]=some (.cl<|.int<|r.length):=Bb (AM rfl<|AW _) (by rw[E4,B9]);have e0:=Az<|AQ l1 (AQ (fb:=fC<|.int 3) l0 rfl<|C4 _ _)<|JN _ _;unfold Fy;cases c:(N.length:Int)==(r.length)-3
 .rw[c]at e0;exact(Cs<|(BZ e0).trans rfl).trans rfl
 rw[c]at e0;rw[sq<|(BO e0).trans rfl];have e1:=F1 (Eu<|Az<|A6 (g:=AD (AB 1) AH) (ρ:=[some<|.im<|.lst<|AI r,some<|.im<|.lst<|AI N]) (AM rfl<|AW _) rfl<|ai hN) λ_=>Eu (Az (QF (own:=1) (cap:=[0]) (its:=A9 false<|AB 1) (g:=AV 0) (fe:=AS Mx<|AD (AB 1)<|AD (f2 AL (AB 0)<|fC<|.int 0)<|AD (f2 AL (AB 0)<|fC<|.int 1) AH) (h:=λe=>E5 r e.1 e.2) (Eb rfl rfl) hN λe _=>⟨_,rfl,by rw[<-ku h];exact A6 (AM rfl<|AM (AQ rfl rfl<|DV e)<|AM (AQ rfl rfl<|Dl e)<|AW _) rfl<|aQ h _ _⟩))
 rw[<-ACq]at e1
 change _=some (!(Ot N&&R3 r N))at e1
 cases d:Ot N&&R3 r N
 .rw[d]at e1;exact(Cs<|(BZ e1).trans rfl).trans rfl
 rw[d]at e1;rw[sq<|(BO e1).trans rfl];refine C5 (QF (DE (AM l1<|AW _) hN) (by rw[zA];exact hN) λk hk=>⟨_,rfl,?_⟩);have hk:=yS.mp hk;refine A6 (rs:=[.cl<|pv<|AA N k,.fr<|AI<|N.take k]) (AM (AQ rfl rfl<|CJ _ _ U U)<|AM ?_ (AW _)) rfl (aa _ (by rw[AAY];lia));rw[<-U0 N k U]
 rfl
end
theorem Xk{gt:GF}{body:SF}{enc:Nat->PV}(R:Nat->AY->Prop){n:Nat}{ρ:AY}(h0:R 0 ρ)(step:∀i,i<n->∀ρ,R i ρ->∃A5 BV,gt (enc i) ρ=some A5/\body A5=some (.nx BV)/\R (i+1) BV) : ∃ρ',DX gt body ((List.range n).map enc) ρ=some (.nx ρ')/\R n ρ':=by
 have H:=GJ (λ(u)(_)=>u) (λi _ ρ=>R i ρ) (xs:=List.range n) (b:=()) h0 λi x hx b ρ hR=>by have hi:=(yY.mp hx).1;have Rg:=(yY.mp hx).2;simp at hi Rg;subst Rg;rw[ABC]at hR ⊢;exact step i hi ρ hR
 rw[zA,ABC]at H;exact H
theorem Vv{f:EF}{g:AF}{ρ:AY}{r:RV}{rs:List RV}{ks:List (List Int)}{xs:List PV}{k:List Int}{p:PV}(e:f ρ=some r)(eg:g ρ=some rs)(ed:r.Ce=some (ks,xs))(ek:IB rs=some k)(ep:Cw ks xs k=some p)(hk:Nat.ble k.length 1000=true:=by rfl):Gq f g ρ=some (.cl p):=by
 unfold Gq;rw[e,eg];dsimp only;rw[ed,ek];dsimp only;rw[yO<|ABE hk,ep]
 rfl
theorem ft{i:Nat}{g:AF}{f:EF}{ρ:AY}{r:RV}{rs:List RV}{t:Option PySem.Addr}{ks:List (List Int)}{xs:List PV}{k:List Int}{p:PV}(e:f ρ=some r)(er:ρ[i]? = some (some<|.DZ t ks xs))(eg:g ρ=some rs)(ec:r.clean=some p)(ek:IB rs=some k)(hl:ks.length<1000000)(hk:Nat.ble k.length 1000=true:=by rfl) : Hg i g f ρ=some (.nx<|ρ.set i<|some<|.DZ t (FP ks k)<|Gm ks xs k p):=by unfold Hg;rw[e,er,eg];dsimp only;rw[ec,ek];dsimp only;rw[yO ⟨hl,ABE hk⟩]
noncomputable def kN(i j:Nat):List Int:=[(i:Int),(j:Int)]
theorem kL{i j k l:Nat}:kN i j=kN k l↔i=k/\j=l:=by unfold kN;lia
def DN(r:List Pt)(i j:Nat):Bool:=((j:Int)-(i:Int)==1||(j:Int)-(i:Int)==(r.length:Int)-1)||E5 r (i:Int) (j:Int)
def K7(r:List Pt)(ok:Nat->Nat->Prop)(b:Nat)(ks:List<|List Int)(xs:List PV):Prop:=ks.length=xs.length/\ks.length<=b/\∀x y,x<y->y<r.length->ok x y->Cw ks xs (kN x y)=some (.bl<|DN r x y)
theorem K7.put{r:List Pt}{ok X8:Nat->Nat->Prop}{b:Nat}{ks:List (List Int)}{xs:List PV}(h:K7 r ok b ks xs)(i j:Nat)(Ah:∀x y,x<y->y<r.length->X8 x y->(x=i/\y=j)\/ok x y):K7 r X8 (b+1) (FP ks<|kN i j)<|Gm ks xs (kN i j)<|.bl<|DN r i j:=by
 refine⟨fE h.1 _ _,zT (fD _ _) (by have:=h.2.1;lia),λx y h1 h2 h3=>?_⟩;rw[eY h.1];by_cases e:kN x y=kN i j
 .rw[yO e];obtain⟨rfl,rfl⟩:=kL.mp e
  rfl
 .rw[yN e];rcases Ah x y h1 h2 h3 with⟨rfl,rfl⟩|hq
  .exact absurd rfl e
  .exact h.2.2 x y h1 h2 hq
theorem aW{r:List Pt}(h:DP r=true):∃ks xs,Po [.lst<|AI r]=some (.fd ks xs)/\ks≠[]/\∀x y,x<y->y<r.length->Cw ks xs (kN x y)=some (.bl<|DN r x y):=by
 obtain⟨h3,B3,hb⟩:=Kk h;have el:fB An (AD (AB 0) AH) (BG 5 [.lst<|AI r])=some (.cl<|.int<|r.length):=by rw[<-B9];rfl
 obtain⟨ρ',e,ks,xs,c,d,rfl,hI⟩:=Xk (gt:=AV 3) (body:=(Bm (Bh<|AD (AB 3) AH) (AV 4)<|Hg 2 (AD (AB 4)<|AD (AB 3) AH)<|DK (f2 (BB false) (f2 Ab (AB 3)<|AB 4)<|A3<|AD (fC<|.int 1)<|AD (f2 Ab (AB 1)<|fC<|.int 1) AH)<|AS Jk<|AD (AB 0)<|AD (AB 4)<|AD (AB 3) AH)) (λm ρ=>∃ks xs c d,ρ=[some<|.im<|.lst<|AI r,some<|.im<|.int<|r.length,some<|.DZ none ks xs,c,d]/\K7 r (λ_ y=>y<m) (12*m) ks xs) (n:=r.length) ⟨[],[],none,none,rfl,rfl,yI,λx y _ _ h=>U⟩ (by
  rintro m hm ρ ⟨ks,xs,c,d,rfl,hI⟩;obtain⟨ρ',e,OM,Tv,d',rfl,Qx⟩:=Xk (gt:=AV 4) (body:=(Hg 2 (AD (AB 4)<|AD (AB 3) AH)<|DK (f2 (BB false) (f2 Ab (AB 3)<|AB 4)<|A3<|AD (fC<|.int 1)<|AD (f2 Ab (AB 1)<|fC<|.int 1) AH)<|AS Jk<|AD (AB 0)<|AD (AB 4)<|AD (AB 3) AH)) (λf ρ=>∃ks xs d,ρ=[some<|.im<|.lst<|AI r,some<|.im<|.int<|r.length,some<|.DZ none ks xs,some<|.im<|.int<|m,d]/\K7 r (λx y=>y<m\/(y=m/\x<f)) (12*m+f) ks xs) (n:=m) ⟨ks,xs,d,rfl,hI.1,hI.2.1,λx y h1 h2 h3=>hI.2.2 x y h1 h2 U⟩ (by
   rintro f hf ρ ⟨ks,xs,d,rfl,hI⟩;have eV:DK (f2 (BB false) (f2 Ab (AB 3)<|AB 4)<|A3<|AD (fC<|.int 1)<|AD (f2 Ab (AB 1)<|fC<|.int 1) AH) (AS Jk<|AD (AB 0)<|AD (AB 4)<|AD (AB 3) AH) [some<|.im<|.lst<|AI r,some<|.im<|.int<|r.length,some<|.DZ none ks xs,some<|.im<|.int<|m,some<|.im<|.int<|f]=some (.cl<|.bl<|DN r f m):=by exact NP (AQ (AQ rfl rfl<|C4 _ _) (Dg (AM rfl<|AM (AQ rfl rfl<|C4 _ _)<|AW _) rfl)<|Rv _ _ _) λ_=>A6 (AM rfl<|AM rfl<|AM rfl<|AW _) rfl<|aX h3 B3 hb _ _
   exact⟨_,_,rfl,ft (k:=kN f m) eV rfl rfl rfl rfl (by have:=hI.2.1;lia),_,_,_,rfl,hI.put f m λx y h1 h2 h3=>U⟩)
  exact⟨_,_,rfl,(B7<|DE (AM rfl<|AW _) U).trans e,_,_,_,_,rfl,Qx.1,by have:=Qx.2.1;lia,λx y h1 h2 h3=>Qx.2.2 x y h1 h2 U⟩)
 refine⟨ks,xs,Bg rfl ?_,λz=>?_,λx y h1 h2=>hI.2.2 x y h1 h2 h2⟩
 .unfold VF;rw[sq<|A7 el rfl];rw[sq (ρ':=[some<|.im<|.lst<|AI r,some<|.im<|.int<|r.length,some<|.DZ none [] [],none,none]) rfl];rw[sq<|(B7<|DE (AM rfl<|AW _) U).trans e]
  rfl
 .have:=hI.2.2 0 1 U U U;rw[z]at this;cases this
theorem R4{r:List Pt}(h:DP r=true){i j:Nat}(Bi:i<j)(hj:j<r.length):E5 r (i) (j)=true↔AN.Line r (i) (j):=by
 obtain⟨R,_⟩:=(JX r).mp h;have h3:=R.l3;unfold E5;constructor
 .intro e;rw[yR,yR,zO]at e;obtain⟨hc,hb,hk⟩:=e;rw[Es,yR,yR,yR,yZ,yZ,yZ,zO,zL,yo,yo]at hc;obtain⟨⟨a,b,c⟩,d,e⟩:=hc;have f:AN.Bt r.length<|(i)-j:=AN.LX U;exact⟨(AN.ON R.simple R.Cd a U U c f).mp hb,AN.QY.mp hk⟩
 .rintro⟨p,k⟩;have f:=AN.NS U p.CG U U;rw[yR,yR,zO];refine⟨?_,(AN.ON R.simple R.Cd U U U U p.CG).mpr p,AN.QY.mpr k⟩;rw[Es,yR,yR,yR,yZ,yZ,yZ,zO,zL,yo,yo];lia
theorem L6{r:List Pt}{i j:Nat}:DN r i j=true↔(j:Int)-i=1\/(j:Int)-i=(r.length)-1\/E5 r i j=true:=by unfold DN;rw[zX,zX,AAS,AAS,or_assoc]
theorem kE{r:List Pt}(h:DP r=true){a b:Nat}(Dh:a+1<b)(hb:b<r.length)(hj:DN r a b=true):∃c,a<c/\c<b/\DN r a c=true/\DN r c b=true:=by
 obtain⟨R,_⟩:=(JX r).mp h;obtain⟨k,k1,k2,k3,k4⟩:=R.HR (i:=(a)) (j:=(b)) U U U (by
  rcases L6.mp hj with c|c|c
  .lia
  .right;lia
  .exact .inl<|(R4 h U hb).mp c)
 obtain⟨c,rfl⟩:∃c:Nat,k=(c):=⟨k.toNat,U⟩;refine⟨c,U,U,L6.mpr ?_,L6.mpr ?_⟩
 .rcases k3 with e|e
  .left;lia
  .exact .inr<|.inr<|(R4 h U U).mpr e
 .rcases k4 with e|e
  .left;lia
  .exact .inr<|.inr<|(R4 h U U).mpr e
abbrev NN:=Nat×Nat
noncomputable def FE(T:List NN):Nat:=(T.map λe=>e.2-e.1-1).sum
noncomputable def EK(T:List NN):Nat:=(T.map λe=>2*(e.2-e.1)-1).sum
def Xn(e f:NN):Prop:=(e.1<f.1/\f.1<e.2/\e.2<f.2)\/(f.1<e.1/\e.1<f.2/\f.2<e.2)
structure Dr(r:List Pt)(T L:List NN):Prop where
 seg:∀e∈T,e.1<e.2/\e.2<r.length/\DN r e.1 e.2=true
 Vb:T.Pairwise λe f=>e.2<=f.1\/f.2<=e.1
 ln:∀e∈L,e.1<e.2/\e.2<r.length/\E5 r e.1 e.2=true
 out:∀e∈L,∀f∈T,(e.1<=f.1/\f.2<=e.2/\(e.1<f.1\/f.2<e.2))\/e.2<=f.1\/f.2<=e.1
 nx:L.Pairwise λe f=>e≠f/\¬ Xn e f
 ct:(T=[(0,r.length-1)]/\L=[])\/L.length+FE T+3=r.length
theorem Tt(T yF:List NN):FE (T++yF)=FE T+FE yF:=by unfold FE;rw[zP,ACO]
theorem lH(T yF:List NN):EK (T++yF)=EK T+EK yF:=by unfold EK;rw[zP,ACO]
theorem Dr.drop{r:List Pt}{T L:List NN}{a b:Nat}(D:Dr r (T ++ [(a,b)]) L)(h3:3<=r.length)(h:¬ a+1<b):Dr r T L:=by
 have m:∀e∈T,e∈T ++ [(a,b)]:=λe he=>zw _ he;refine⟨λe he=>D.seg e<|m e he,(zx.mp D.Vb).1,D.ln,λe he f hf=>D.out e he f<|m f hf,D.nx,?_⟩;rcases D.ct with⟨c,_⟩|c
 .have:=AAB List.getLast? c;simp at this;lia
 .rw[Tt,show FE [(a,b)]=0 by simp[FE];lia]at c;exact .inr c
theorem Dr.step{r:List Pt}{T L:List NN}{a b c:Nat}(D:Dr r (T ++ [(a,b)]) L)(ac:a<c)(cb:c<b)(j1:DN r a c=true)(j2:DN r c b=true):Dr r (T ++ [(a,c),(c,b)]) (if(b:Int)-a<(r.length:Int)-1 then L ++ [(a,b)]else L):=by
 obtain⟨h1,h2,h4⟩:=D.seg (a,b) yI;have m:∀e∈T,e∈T ++ [(a,b)]:=λe he=>zw _ he;obtain⟨p1,_,p2⟩:=zx.mp D.Vb;have p2:∀e∈T,e.2<=a\/b<=e.1:=λe he=>p2 e he (a,b) yI;have sg:∀e∈T ++ [(a,c),(c,b)],e.1<e.2/\e.2<r.length/\DN r e.1 e.2=true:=λe he=>by
  rcases zF.mp he with he|he
  .exact D.seg e<|m e he
  .simp only[yw,AAZ,ABl]at he;rcases he with rfl|rfl
   .exact⟨ac,U,j1⟩
   .exact⟨cb,h2,j2⟩
 have ds:(T ++ [(a,c),(c,b)]).Pairwise λe f=>e.2<=f.1\/f.2<=e.1:=by refine zx.mpr ⟨p1,yI,λe he f hf=>?_⟩;have:=p2 e he;simp only[yw,AAZ,ABl]at hf;rcases hf with rfl|rfl<;>dsimp only<;>lia
 have ou:∀e∈L,∀f∈T ++ [(a,c),(c,b)],(e.1<=f.1/\f.2<=e.2/\(e.1<f.1\/f.2<e.2))\/e.2<=f.1\/f.2<=e.1:=λe he f hf=>by
  rcases zF.mp hf with hf|hf
  .exact D.out e he f<|m f hf
  .have:=D.out e he (a,b) yI;simp only[yw,AAZ,ABl]at hf;rcases hf with rfl|rfl<;>dsimp only at this ⊢ <;> lia
 have w:FE [(a,b)]=FE [(a,c),(c,b)]+1:=by simp[FE];lia
 have w0:FE [(a,b)]=b-a-1:=by simp[FE]
 split
 .refine⟨sg,ds,λe he=>?_,λe he f hf=>?_,zx.mpr ⟨D.nx,yI,λe he f hf=>?_⟩,?_⟩
  .rcases zF.mp he with he|he
   .exact D.ln e he
   .rw[yr]at he;subst he;refine⟨h1,h2,?_⟩;rcases L6.mp h4 with q|q|q
    .dsimp only at q;lia
    .dsimp only at q;lia
    .exact q
  .rcases zF.mp he with he|he
   .exact ou e he f hf
   .rw[yr]at he;subst he;rcases zF.mp hf with hf|hf
    .have:=p2 f hf;dsimp only;lia
    .simp only[yw,AAZ,ABl]at hf;rcases hf with rfl|rfl<;>dsimp only<;>lia
  .rw[yr]at hf;subst hf;have o:=D.out e he (a,b) yI;dsimp only at o;refine⟨λq=>?_,λq=>?_⟩
   .rw[q]at o;dsimp only at o;lia
   .unfold Xn at q;dsimp only at q;lia
  .rcases D.ct with⟨q,_⟩|q
   .have:=AAB List.getLast? q;simp at this;lia
   .rw[Tt]at q ⊢;rw[yx,AAb];lia
 .refine⟨sg,ds,D.ln,ou,D.nx,?_⟩;rcases D.ct with⟨q,rfl⟩|q
  .have:=by have:=AAB List.length q;simp at this;exact this
   subst this;rw[zy]at q ⊢;rw[zq];dsimp only at *
   lia
  .rw[Tt]at q;lia
noncomputable def zz(e:NN):Pt:=((e.1:Int),(e.2:Int))
abbrev zs(L:List NN):List PV:=AI<|L.map zz
theorem Tw(L:List NN):(zs L).length=L.length:=by rw[B9,yP]
theorem SG{i:Nat}{ga:AF}{ρ:AY}{rs:List RV}{ps:List PV}{p:PV}(er:ρ[i]? = some (some<|.own ps))(ea:ga ρ=some rs)(ec:Cm rs=some [p])(h:ps.length<1000):B0 i CQ ga ρ=some (.nx<|ρ.set i<|some<|.own<|ps ++ [p]):=by unfold B0;rw[er,ea];dsimp only;rw[ec];unfold CQ;dsimp only;rw[yO h]
theorem oG{i:Nat}{gt:GF}{ρ ρ':AY}{ps:List PV}{p:PV}(er:ρ[i]? = some (some<|.own<|ps ++ [p]))(eg:gt p (ρ.set i<|some<|.own ps)=some ρ'):Io i gt ρ=some (.nx ρ'):=by unfold Io;rw[er];dsimp only;rw[yx,AAb,Nat.add_sub_cancel,zJ<|yf _,Nat.sub_self];dsimp only[List.getElem?_cons_zero];rw[List.dropLast_concat,eg]
def wT:BF:=AR<|f2 Bq (fB An<|AD (AB 5) AH)<|fC<|.int 0
def wS:EF:=A0 (C0<|AD (f2 AZ (AB 6)<|fC<|.int 1)<|AD (AB 7) AH) 1 [3,6,7] (AV 0) (CN (AR<|Gq (AB 1)<|AD (AB 2)<|AD (AB 0) AH)<|AR<|Gq (AB 1)<|AD (AB 0)<|AD (AB 3) AH)<|AB 0
def wA:EF:=f2 AL (AB 8)<|f2 A1 (f2 B4 (AS CA<|AD (AB 0)<|AD (f2 AZ (AB 1)<|AB 6) AH)<|f2 AZ (fC<|.int 1)<|AB 7)<|fB An<|AD (AB 8) AH
def wG:SF:=AO (Io 5<|Cp 2<|BX (AV 6)<|BX (AV 7) C1)<|Aq (AR<|f2 Bq (f2 Ab (AB 7)<|AB 6)<|fC<|.int 1) (AO (Aa 8 wS)<|AO (Aa 9 wA)<|AO (DL 5<|f2 AZ (AB 5)<|A3<|AD (Am<|AD (AB 6)<|AD (AB 9) AH)<|AD (Am<|AD (AB 9)<|AD (AB 7) AH) AH)<|Aq (AR<|f2 Bk (f2 Ab (AB 7)<|AB 6)<|f2 Ab (fB An<|AD (AB 2) AH)<|fC<|.int 1) (B0 4 CQ<|AD (Am<|AD (AB 6)<|AD (AB 7) AH) AH) Ax) Ax
section
variable{s:List Int}{r:List Pt}{ks:List (List Int)}{xs:List PV}(h:DP r=true)(hd:∀x y,x<y->y<r.length->Cw ks xs (kN x y)=some (.bl (DN r x y)))
def wR(s:List Int)(r:List Pt)(ks:List<|List Int)(xs:List PV)(L T:List NN)(x:List<|Option SV):AY:=some (.im<|.rd<|Ay s)::some (.im<|.int 20)::some (.im<|.lst<|AI r)::some (.im<|.Ce ks xs)::some (.own<|zs L)::some (.own<|zs T)::x
include h hd
theorem u5{L T:List NN}{a b:Nat}(Dh:a+1<b)(hb:b<r.length)(x8 x9:Option SV):wS (wR s r ks xs L T [some<|.im<|.int<|a,some<|.im<|.int<|b,x8,x9])=some (.fr (((List.range<|b-(a+1)).filter λt=>DN r a (a+1+t)&&DN r (a+1+t) b).map λt:Nat=>PV.int<|(a+1+t:Nat))):=by obtain⟨h3,B3,_⟩:=Kk h;refine Cg (LW (AM (AQ rfl rfl<|by rfl)<|AM rfl<|AW _) U U) (by rw[yP,zA];lia)<|Du λt ht=>⟨_,rfl,?_,λ_=>⟨.cl<|.int<|(a+1+t:Nat),rfl,rfl⟩⟩;have ht:=yS.mp ht;exact Ia (Az<|Vv rfl rfl rfl rfl<|hd a (a+1+t) U U) λ_=>Az<|Vv rfl rfl rfl rfl<|hd (a+1+t) b U hb
theorem u4{L T:List NN}{a b:Nat}(D:Dr r (T ++ [(a,b)]) L)(hT:T.length<=900)(x:List<|Option SV)(hx:x.length=4):∃L' T' x',wG (wR s r ks xs L (T ++ [(a,b)]) x)=some (.nx<|wR s r ks xs L' T' x')/\x'.length=4/\Dr r T' L'/\T'.length<=T.length+2/\EK T'<EK (T ++ [(a,b)]):=by
 obtain⟨h3,B3,_⟩:=Kk h;obtain⟨x6,x7,x8,x9,rfl⟩:∃x6 x7 x8 x9,x=[x6,x7,x8,x9]:=by
  match x,hx with
  |[x6,x7,x8,x9],_=>exact⟨x6,x7,x8,x9,rfl⟩
 obtain⟨h1,h2,h4⟩:=D.seg (a,b) yI;dsimp only at h1 h2 h4;unfold wG;rw[sq (ρ':=wR s r ks xs L T [some<|.im<|.int<|a,some<|.im<|.int<|b,x8,x9])<|oG (by unfold wR zs AI;rw[zP,zP];rfl) rfl];have e1:AR (f2 Bq (f2 Ab (AB 7)<|AB 6)<|fC<|.int 1) (wR s r ks xs L T [some<|.im<|.int<|a,some<|.im<|.int<|b,x8,x9])=some (decide ((1:Int)<(b)-a)):=Az<|AQ (AQ rfl rfl<|C4 _ _) rfl<|Fc _ _;by_cases c:a+1<b
 .rw[zc U]at e1;rw[BZ e1];have eS:=u5 (s:=s) (L:=L) (T:=T) h hd c h2 x8 x9;generalize hF:((List.range<|b-(a+1)).filter λt=>DN r a (a+1+t)&&DN r (a+1+t) b)=F at eS;have xQ:0<F.length:=by
   obtain⟨c,c1,c2,c3,c4⟩:=kE h c h2 h4;have:c-(a+1)∈F:=by
    rw[<-hF];refine zp.mpr ⟨yS.mpr U,?_⟩;rw[show a+1+(c-(a+1))=c by lia,c3,c4]
    rfl
   exact ABd this
  have RC:=zE (Af s (20+a) / (1+b)) (b:=(F.length)) U;have RD:=yz (Af s (20+a) / (1+b)) (b:=(F.length)) U;have hm:(Af s (20+a) / (1+b)%(F.length)).toNat<F.length:=U
  have ht:=ABH hm;have eA:wA (wR s r ks xs L T [some<|.im<|.int<|a,some<|.im<|.int<|b,some<|.im<|.lst (F.map λt:Nat=>PV.int<|(a+1+t:Nat)),x9])=some (.cl<|.int<|(a+1+F[(Af s (20+a) / (1+b)%(F.length)).toNat]:Nat)):=by
   refine AQ rfl (AQ (AQ (A6 (AM rfl<|AM (AQ rfl rfl<|Hu _ _)<|AW _) rfl<|T1 s _ U) (AQ rfl rfl<|Hu _ _)<|XI U U) (Bb (AM rfl<|AW _)<|by rw[E4,yP])<|Eg U) ?_;show(CC (F.map λt:Nat=>PV.int<|(a+1+t:Nat)) _).map _=_;unfold CC Di;rw[yO RC,yO (by rw[yP];exact RD),y9,zj,yv hm]
   rfl
  generalize F[(Af s (20+a) / (1+b)%(F.length)).toNat]=t at ht eA;rw[<-hF]at ht;obtain⟨ht,hj⟩:=zp.mp ht;have ht:=yS.mp ht;rw[yR]at hj;have D':=D.step U U hj.1 hj.2;rw[sq (ρ':=wR s r ks xs L T [some<|.im<|.int<|a,some<|.im<|.int<|b,some<|.im<|.lst (F.map λt:Nat=>PV.int<|(a+1+t:Nat)),x9])<|A7 eS rfl];rw[sq <|A7 eA rfl];rw[sq (ρ':=wR s r ks xs L (T ++ [(a,a+1+t),(a+1+t,b)]) [some<|.im<|.int<|a,some<|.im<|.int<|b,some<|.im<|.lst (F.map λt:Nat=>PV.int<|(a+1+t:Nat)),some<|.im<|.int<|(a+1+t:Nat)]) ((set_own (AQ rfl rfl (JI rfl rfl (by rw[Tw];show T.length+2<=_;lia)))).trans (by unfold wR zs AI;rw[zP,zP];rfl))];have e2:AR (f2 Bk (f2 Ab (AB 7)<|AB 6)<|f2 Ab (fB An<|AD (AB 2) AH)<|fC<|.int 1) (wR s r ks xs L (T ++ [(a,a+1+t),(a+1+t,b)]) [some<|.im<|.int<|a,some<|.im<|.int<|b,some<|.im<|.lst (F.map λt:Nat=>PV.int<|(a+1+t:Nat)),some<|.im<|.int<|(a+1+t:Nat)])=some (decide ((b:Int)-a<(r.length)-1)):=Az (AQ (AQ rfl rfl<|C4 _ _) (AQ (Bb (AM rfl<|AW _)<|by rw[E4,B9]) rfl<|C4 _ _)<|GG _ _);have FW:EK (T ++ [(a,a+1+t),(a+1+t,b)])<EK (T ++ [(a,b)]):=by simp[EK];lia
  have jC:L.length<1000:=by
   rcases D.ct with⟨_,q⟩|q
   .rw[q];decide
   .lia
  by_cases q:(b:Int)-a<(r.length)-1
  .rw[zc q]at e2;rw[yO q]at D';rw[BZ e2,SG rfl (AM rfl<|AW _) rfl (by rw[Tw];exact jC)];refine⟨L ++ [(a,b)],_,[some<|.im<|.int<|a,some<|.im<|.int<|b,some<|.im<|.lst (F.map λt:Nat=>PV.int<|(a+1+t:Nat)),some<|.im<|.int<|(a+1+t:Nat)],?_,rfl,D',yI,FW⟩;unfold wR zs AI;rw[zP (l₁:=L),zP (l₁:=L.map zz)]
   rfl
  .rw[zU q]at e2;rw[yN q]at D';rw[BO e2];exact⟨L,_,_,rfl,rfl,D',yI,FW⟩
 .rw[zU U]at e1;rw[BO e1];refine⟨L,T,[some<|.im<|.int<|a,some<|.im<|.int<|b,x8,x9],rfl,rfl,D.drop h3 c,U,?_⟩;rw[lH];simp[EK];lia
theorem Zy:∀(f:Nat)(L T:List NN)(x:List<|Option SV),Dr r T L->EK T<f->T.length+2*EK T<=900->x.length=4->∃L' x',GS wT wG f (wR s r ks xs L T x)=some (.nx<|wR s r ks xs L' [] x')/\x'.length=4/\Dr r [] L'
 |0,_,_,_,_,hm,_,_=>absurd hm U
 |f+1,L,T,x,D,hm,hT,hx=>by
  have e0:wT (wR s r ks xs L T x)=some (decide ((0:Int)<(T.length))):=Az (AQ (Bb (AM rfl<|AW _)<|by rw[kK,Tw]) rfl<|Fc _ _);unfold GS;rw[e0];rcases List.eq_nil_or_concat T with rfl|⟨T',⟨a,b⟩,rfl⟩
  .exact⟨L,x,rfl,hx,D⟩
  .rw[List.concat_eq_append]at *
   rw[zc yI];dsimp only;rw[yx,AAb]at hT;obtain⟨L',T2,x',e,GB,D',hl,CI⟩:=u4 h hd D U x hx;rw[e];exact Zy f L' T2 x' D' U U GB
end
theorem YO:∀Q:List Pt,Kd (AI Q)=some Q
 |[]=>rfl
 |q::Q=>by
  show(Kd<|AI Q).map _=_;rw[YO Q]
  rfl
theorem gr(Q:List Pt)(i:Nat)(hi:i<Q.length):(AI Q).getD i .A8=pv (Q.getD i (0,0)):=by
 unfold AI;rw[zY,zY,zj,yv hi]
 rfl
def C7(Q:List Pt):List Pt:=(Ck.ord Q).map λi=>Q.getD i (0,0)
theorem sH{f:EF}{ρ:AY}{r:RV}{Q:List Pt}(e:f ρ=some r)(hl:r.list=some (AI Q))(Ec:Q.length<64)(nd:Q.Nodup):fB KJ (AD f AH) ρ=some (.fr<|AI<|C7 Q):=by
 refine Bb (AM e<|AW _) ?_;unfold KJ;dsimp only;rw[hl];dsimp only;rw[YO];dsimp only;rw[yO ⟨by rw[B9];exact Ec,nd⟩];unfold C7;rw[show AI ((Ck.ord Q).map λi=>Q.getD i (0,0))=(Ck.ord Q).map λi=>pv (Q.getD i (0,0))by unfold AI;rw[zM];rfl]
 congr 2
 exact AAv λi hi=>gr Q i<|Ck.Sd nd i hi
theorem sM{Q:List Pt}(nd:Q.Nodup):(C7 Q).Perm Q:=by have:=(Ck.Se nd).map λi=>Q.getD i (0,0);rw[show(List.range Q.length).map (λi=>Q.getD i (0,0))=Q from List.ext_getElem yI λi h1 h2=>by simp[List.getD,h2]]at this;exact this
theorem sN{Q:List Pt}(nd:Q.Nodup):(C7 Q).Pairwise λp q=>Er p.1 p.2 q.1 q.2=true:=by unfold C7;rw[AAf];exact Ck.ml nd
theorem aC{e f:NN}(h:zz e=zz f):e=f:=by unfold zz at h;exact zd U U
theorem vM{e f:NN}(h:¬ Xn e f):xB (zz e) (zz f)=false:=by unfold Xn at h;unfold xB zz;simp only[AAh];lia
theorem Dr.cut{r:List Pt}{L:List NN}(D:Dr r [] L)(h3:3<=r.length):(L.map zz).Nodup/\(C7<|L.map zz).length=L.length/\L.length+3=r.length/\Fy r (C7<|L.map zz)=true:=by
 have hl:L.length+3=r.length:=by
  rcases D.ct with⟨q,_⟩|q
  .cases q
  .exact q
 have nd:(L.map zz).Nodup:=by unfold List.Nodup;rw[AAf];exact D.nx.imp λ{a b} k e=>k.1<|aC e
 have hp:=sM nd;have hz:(C7<|L.map zz).length=L.length:=by rw[hp.length_eq,yP]
 have nx:∀e∈L,∀f∈L,¬ Xn e f:=λe he f hf=>by
  obtain⟨i,hi,rfl⟩:=AAX he;obtain⟨j,hj,rfl⟩:=AAX hf;have P:=za.mp D.nx;rcases AB9 i j with c|c|c
  .exact(P i j hi hj c).2
  .subst c;unfold Xn;lia
  .have:=(P j i hj hi c).2;unfold Xn at *
   lia
 refine⟨nd,hz,hl,?_⟩;unfold Fy;rw[yR,yR,yR,AAS];refine⟨U,⟨?_,?_⟩,?_⟩
 .refine zW.mpr λk hk=>?_;have hk:=yS.mp hk;unfold ltB;rw[show(k:Int)+1=((k+1:Nat))by lia,FN (U:k<_),FN (U:k+1<_)];exact za.mp (sN nd) k (k+1) U U U
 .refine zW.mpr λe he=>?_;obtain⟨f,hf,rfl⟩:=zV.mp<|hp.mem_iff.mp he;exact(D.ln f hf).2.2
 .refine zW.mpr λk hk=>?_;have hk:=yS.mp hk;rw[zO,AAT];intro e he;obtain⟨f,hf,rfl⟩:=zV.mp<|hp.mem_iff.mp<|ABs he;obtain⟨g,hg,eg⟩:=zV.mp (hp.mem_iff.mp (show AA (C7<|L.map zz) k∈C7 (L.map zz)by rw[FN hk];exact ABH hk));rw[<-eg,vM<|nx g hg f hf];exact AAJ
theorem aL(s:List Int){r:List Pt}(h:DP r=true):∃N:List Pt,Pn [.rd<|Ay s,.int 20,.lst<|AI r]=some (.fr<|AI N)/\Fy r N=true/\N.length+3=r.length:=by
 obtain⟨h3,B3,_⟩:=Kk h;obtain⟨ks,xs,ej,_,hd⟩:=aW h;obtain⟨L,x,ew,hx,D⟩:=Zy h hd 1000 [] [(0,r.length-1)] [none,none,none,none] ⟨λe he=>by rw[yr]at he;subst he;exact⟨by dsimp only;lia,by dsimp only;lia,L6.mpr<|.inr<|.inl U⟩,yI,λe he=>(nomatch he),λe he=>(nomatch he),.nil,.inl ⟨rfl,rfl⟩⟩ (by simp[EK];lia) (by simp[EK];lia) rfl
 obtain⟨nd,hz,hl,hc⟩:=D.cut h3;refine⟨C7<|L.map zz,Bg rfl ?_,hc,U⟩;unfold VC;rw[sq<|A7 (A6 (AM rfl<|AW _) rfl ej) rfl];rw[sq<|set_own<|Dg (AW _) rfl];have et:Am (AD (fC<|.int 0)<|AD (f2 Ab (fB An<|AD (AB 2) AH)<|fC<|.int 1) AH) (((BG 10 [.rd<|Ay s,.int 20,.lst<|AI r]).set 3<|some<|.im<|.Ce ks xs).set 4<|some<|.own [])=some (.cl<|pv<|zz (0,r.length-1)):=(Ew (AM rfl<|AM (AQ (Bb (AM rfl<|AW _)<|by rw[E4,B9]) rfl<|C4 _ _)<|AW _) rfl).trans (by unfold pv zz;rw[show((r.length-1:Nat):Int)=(r.length)-1 by lia];rfl);rw[sq <|(set_own<|Dg (AM et<|AW _) rfl).trans rfl];refine(sq ew).trans ?_;exact JW<|sH rfl rfl (by rw[yP];lia) nd
end L2.EV
namespace CW
abbrev NN:=Nat×Nat
def X(e f:NN):Prop:=(e.1<f.1/\f.1<e.2/\e.2<f.2)\/(f.1<e.1/\e.1<f.2/\f.2<e.2)
noncomputable def mc(S:List NN)(i j:Nat):Nat:=S.countP λe=>decide (i<=e.1/\e.2<=j)
def jn(S:List NN)(i j:Nat):Prop:=j=i+1\/(i,j)∈S
structure Nx(S:List NN):Prop where
 nd:S.Nodup
 CG:∀e∈S,e.1+1<e.2
 nx:∀e∈S,∀f∈S,¬ X e f
theorem countP_le{α}(p q r:α->Bool):∀l:List α,(∀x∈l,p x=true->q x=true\/r x=true)->l.countP p<=l.countP q+l.countP r
 |[],_=>yI
 |x::l,h=>by
  have ih:=countP_le p q r l λy hy=>h y<|yj _ hy;have hx:=h x yq;rw[ACH,ACH,ACH];by_cases a:p x=true
  .rcases hx a with b|b<;>rw[yO a,yO b]<;>lia
  .rw[yN a];lia
theorem gA(S:List NN){i j:Nat}(h:i+1<j):∃c,i<c/\c<j/\jn S i c/\∀d,c<d->d<j->(i,d)∉S:=by
 suffices ∀k,i+1+k<j->(∀d,i+1+k<d->d<j->(i,d)∉S)->∃c,i<c/\c<j/\jn S i c/\∀d,c<d->d<j->(i,d)∉S from
  this (j-i-2) U λd a b=>U
 intro k
 induction k with
 |zero=>exact λa b=>⟨i+1,U,a,.inl rfl,b⟩
 |succ k ih=>
  intro a b;by_cases m:(i,i+1+(k+1))∈S
  .exact⟨_,U,a,.inr m,b⟩
  .refine ih U λd p q=>?_;by_cases e:d=i+1+(k+1)
   .rwa [e]
   .exact b d U q
theorem Nx.split{S:List NN}(N:Nx S){i j:Nat}(h:i+1<j):∃c,i<c/\c<j/\jn S i c/\∀e∈S,i<=e.1->e.2<=j->e=(i,j)\/e.2<=c\/c<=e.1:=by
 obtain⟨c,c1,c2,c3,c4⟩:=gA S h;refine⟨c,c1,c2,c3,λe he a b=>?_⟩;have h4:e.1=i->c<e.2->e.2<j->False:=λp q r=>c4 e.2 q r (by rw[<-p];exact he);rcases c3 with c3|c3
 .by_cases p:e.1=i
  .by_cases q:e.2=j
   .exact .inl<|zd p q
   .right;left;have:=h4 p;lia
  .lia
 .have:=N.nx _ c3 e he;unfold X at this;by_cases p:e.1=i
  .by_cases q:e.2=j
   .exact .inl<|zd p q
   .right;left;have:=h4 p;lia
  .dsimp only at this;lia
theorem Uz{S:List NN}(nd:S.Nodup)(e:NN):S.countP (λf=>decide (f=e))<=1:=by have:=List.nodup_iff_count.mp nd e;refine zT (ACi ?_) this;exact List.countP_congr λx _=>yI
theorem Nx.cut{S:List NN}(N:Nx S){i j c:Nat}(hc:∀e∈S,i<=e.1->e.2<=j->e=(i,j)\/e.2<=c\/c<=e.1):mc S i j<=S.countP (λf=>decide (f=(i,j)))+(mc S i c+mc S c j):=by
 have a:=countP_le (λe=>decide (i<=e.1/\e.2<=j)) (λf=>decide (f=(i,j))) (λe=>decide (i<=e.1/\e.2<=c)||decide (c<=e.1/\e.2<=j)) S λe he h=>by
  simp only[yZ,zX]at h ⊢;rcases hc e he h.1 h.2 with z|z|z
  .exact .inl z
  .exact .inr<|.inl ⟨h.1,z⟩
  .exact .inr<|.inr ⟨z,h.2⟩
 have b:=countP_le (λe:NN=>decide (i<=e.1/\e.2<=c)||decide (c<=e.1/\e.2<=j)) (λe=>decide (i<=e.1/\e.2<=c)) (λe=>decide (c<=e.1/\e.2<=j)) S λe _ h=>by simpa using h
 unfold mc;lia
theorem Nx.le{S:List NN}(N:Nx S):∀(k i j:Nat),j-i<=k->i<j->mc S i j<=j-i-1
 |0,i,j,h,h'=>U
 |k+1,i,j,h,h'=>by
  by_cases g:i+1<j
  .obtain⟨c,c1,c2,_,c4⟩:=N.split g;have:=N.cut c4;have:=Uz N.nd (i,j);have:=N.le k i c U c1;have:=N.le k c j U c2;lia
  .have:mc S i j=0:=ABN.mpr λe he z=>by have:=N.CG e he;simp only[yZ]at z;lia
   lia
def full(S:List NN)(i j:Nat):Prop:=mc S i j=j-i-1
theorem Nx.Ng{S:List NN}(N:Nx S){i j:Nat}(h:i<j)(f:full S i j):jn S i j:=by
 by_cases g:i+1<j
 .right;by_cases m:(i,j)∈S
  .exact m
  .obtain⟨c,c1,c2,_,c4⟩:=N.split g;have a:=N.cut c4;have b:=N.le (c-i) i c U c1;have d:=N.le (j-c) c j U c2;have:S.countP (λf=>decide (f=(i,j)))=0:=ABN.mpr λe he z=>m (by simp only[yZ]at z;rwa [<-z]);unfold full at f;lia
 .exact .inl U
theorem Nx.HR{S:List NN}(N:Nx S){i j:Nat}(g:i+1<j)(f:j-i-1<=mc S i j+1/\(i,j)∉S\/full S i j):∃c,i<c/\c<j/\full S i c/\full S c j/\∀e∈S,i<=e.1->e.2<=j->e=(i,j)\/e.2<=c\/c<=e.1:=by
 obtain⟨c,c1,c2,_,c4⟩:=N.split g;have a:=N.cut c4;have b:=N.le (c-i) i c U c1;have d:=N.le (j-c) c j U c2;have o:=Uz N.nd (i,j);refine⟨c,c1,c2,?_,?_,c4⟩<;>unfold full at *
 all_goals
  rcases f with⟨f,m⟩|f
  .have:S.countP (λf=>decide (f=(i,j)))=0:=ABN.mpr λe he z=>m (by simp only[yZ]at z;rwa [<-z]);lia
  .lia
structure Ct(n:Nat)(S:List NN):Prop extends Nx S where
 lt:∀e∈S,e.2<n
 rt:(0,n-1)∉S
 ln:S.length+3=n
def J(n:Nat)(S:List NN)(i j:Nat):Prop:=j=i+1\/(i,j)∈S\/(i=0/\j=n-1)
def JJ(n:Nat)(S:List NN)(i j:Nat):Prop:=(i<j/\J n S i j)\/(j<i/\J n S j i)
theorem jn.J{n:Nat}{S:List NN}{i j:Nat}(h:jn S i j):J n S i j:=h.elim .inl λh=>.inr<|.inl h
theorem Ct.whole{n:Nat}{S:List NN}(C:Ct n S):mc S 0 (n-1)=S.length:=by exact List.countP_eq_length.mpr λe he=>by have:=C.lt e he;lia
theorem Ct.root{n:Nat}{S:List NN}(C:Ct n S):n-1-0-1<=mc S 0 (n-1)+1/\(0,n-1)∉S:=by have:=C.whole;have:=C.ln;exact⟨U,C.rt⟩
theorem Ct.Qb{n:Nat}{S:List NN}(C:Ct n S):∀(k i j:Nat),j-i<=k->i<j->j<n->(j-i-1<=mc S i j+1/\(i,j)∉S\/full S i j)->∀x y:Nat,x<3->y<3->x≠y->∃f:Nat->Nat,f i=x/\f j=y/\(∀u,f u<3)/\∀u v,i<=u->u<v->v<=j->J n S u v->f u≠f v
 |0,i,j,h,h1,_,_,_,_,_,_,_=>U
 |k+1,i,j,h,h1,h2,h3,x,y,hx,hy,hn=>by
  by_cases g:i+1<j
  .obtain⟨c,c1,c2,c3,c4,c5⟩:=C.HR g h3;obtain⟨f,f1,f2,f3,f4⟩:=C.Qb k i c U c1 U (.inr c3) x (3-x-y) hx U U;obtain⟨g,g1,g2,g3,g4⟩:=C.Qb k c j U c2 h2 (.inr c4) (3-x-y) y U hy U;have el:∀u,u<=c->(if u<=c then f u else g u)=f u:=λu hu=>yO hu;have er:∀u,c<=u->(if u<=c then f u else g u)=g u:=λu hu=>by
    by_cases e:u<=c
    .rw[yO e,show u=c by lia,f2,g1]
    .exact yN e
   refine⟨λu=>if u<=c then f u else g u,(el i U).trans f1,(er j U).trans g2,λu=>?_,λu v a1 a2 a3 a4=>?_⟩
   .dsimp only;split
    .exact f3 u
    .exact g3 u
   .have key:(u=i/\v=j)\/v<=c\/c<=u:=by
     rcases a4 with a4|a4|a4
     .lia
     .rcases c5 _ a4 a1 a3 with z|z|z
      .exact .inl ⟨(ABi z).1,(ABi z).2⟩
      .exact .inr<|.inl z
      .exact .inr<|.inr z
     .lia
    dsimp only;rcases key with⟨rfl,rfl⟩|z|z
    .rw[el u U,er v U,f1,g2];exact hn
    .rw[el u U,el v z];exact f4 u v a1 a2 z a4
    .rw[er u z,er v U];exact g4 u v z a2 a3 a4
  .refine⟨λu=>if u=i then x else y,yO rfl,yN U,λu=>?_,λu v a1 a2 a3 _=>?_⟩
   .dsimp only;split
    .exact hx
    .exact hy
   .dsimp only;rw[yO U,yN U];exact hn
theorem Ct.fK{n:Nat}{S:List NN}(C:Ct n S):∃f:Nat->Nat,f 0=0/\f 1=1/\(∀u,f u<3)/\∀u v,u<v->v<n->J n S u v->f u≠f v:=by
 have n3:=C.ln;obtain⟨f,f1,_,f3,f4⟩:=C.Qb (n-1) 0 (n-1) U U U (.inl C.root) 0 1 U U U;have h1:=f4 0 1 U U U<|.inl rfl;rw[f1]at h1;have h2:=f3 1;by_cases e:f 1=1
 .exact⟨f,f1,e,f3,λu v a b=>f4 u v U a U⟩
 .refine⟨λu=>(3-f u)%3,by dsimp only;rw[f1],by dsimp only;rw[show f 1=2 by lia],λu=>U,λu v a b c=>?_⟩;have:=f4 u v U a U c;have:=f3 u;have:=f3 v;lia
def T3(n:Nat)(S:List NN)(i j k:Nat):Prop:=i<j/\j<k/\k<n/\J n S i j/\J n S j k/\J n S i k
section
variable{n:Nat}{S:List NN}(C:Ct n S){P:Nat->Prop}(h0:P 0)(h1:P 1)(h:∀u v w,T3 n S u v w->(P u->P v->P w)/\(P u->P w->P v))
include C h0 h1 h
theorem Ct.V6:∀(k j:Nat),j<=k->0<j->j<n->(j-0-1<=mc S 0 j+1/\(0,j)∉S\/full S 0 j)->J n S 0 j->P j
 |0,j,a,b,_,_,_=>U
 |k+1,j,a,b,c,d,e=>by
  by_cases g:0+1<j
  .obtain⟨c',c1,c2,c3,c4,_⟩:=C.HR g d;have j1:J n S 0 c':=(C.Ng c1 c3).J;exact(h 0 c' j ⟨c1,c2,c,j1,(C.Ng c2 c4).J,e⟩).1 h0 (Ct.V6 k c' U c1 U (.inr c3) j1)
  .rw[show j=1 by lia];exact h1
theorem Ct.inner:∀(k i j:Nat),j-i<=k->i<j->j<n->(j-i-1<=mc S i j+1/\(i,j)∉S\/full S i j)->J n S i j->P i->P j->∀u,i<=u->u<=j->P u
 |0,i,j,a,b,_,_,_,_,_,_=>U
 |k+1,i,j,a,b,c,d,e,pi,pj,u=>λu1 u2=>by
  by_cases g:i+1<j
  .obtain⟨c',c1,c2,c3,c4,_⟩:=C.HR g d;have j1:J n S i c':=(C.Ng c1 c3).J;have j2:J n S c' j:=(C.Ng c2 c4).J;have pc:=(h i c' j ⟨c1,c2,c,j1,j2,e⟩).2 pi pj;rcases Nat.le_total u c' with z|z
   .exact Ct.inner k i c' U c1 U (.inr c3) j1 pi pc u u1 z
   .exact Ct.inner k c' j U c2 c (.inr c4) j2 pc pj u z u2
  .rcases Nat.lt_or_ge i u with z|z
   .rw[show u=j by lia];exact pj
   .rw[show u=i by lia];exact pi
theorem Ct.bO(u:Nat)(hu:u<n):P u:=by have n3:=C.ln;have r:J n S 0<|n-1:=.inr<|.inr ⟨rfl,rfl⟩;exact C.inner h0 h1 h (n-1) 0 (n-1) U U U (.inl C.root) r h0 (C.V6 h0 h1 h (n-1) (n-1) (yf _) U U (.inl C.root) r) u U U
end
end CW
namespace L2.EV
open L2.PL L2.K
open AN (AG Ak A4 BP AA M nb Rm)
theorem cP{a b c:Pt}(h:Er a.1 a.2 b.1 b.2=true)(h':Er b.1 b.2 c.1 c.2=true):Er a.1 a.2 c.1 c.2=true:=by
 unfold Er at *
 lia
theorem dc{r N:List Pt}(hc:Fy r N=true):N.Pairwise λp q=>Er p.1 p.2 q.1 q.2=true:=by
 unfold Fy at hc;simp only[yR]at hc;have hr:=zW.mp hc.2.1.1;have st:∀k,(h:k+1<N.length)->Er N[k].1 N[k].2 N[k+1].1 N[k+1].2=true:=λk h=>by have:=hr k<|yS.mpr U;unfold ltB at this;rw[show(k:Int)+1=((k+1:Nat))by lia,FN (U:k<_),FN h]at this;exact this
 refine za.mpr λi j hi hj Bi=>?_
 induction j with
 |zero=>lia
 |succ j ih=>
  by_cases e:i=j
  .subst e;exact st i hj
  .exact cP (ih U U)<|st j hj
theorem da{r N:List Pt}(hc:Fy r N=true):∃S:List NN,N=S.map zz/\CW.Ct r.length S:=by
 have up:=dc hc;unfold Fy at hc;simp only[yR,AAS]at hc;obtain⟨hl,⟨_,h2⟩,h3⟩:=hc;have ln:∀e∈N,0<=e.1/\e.1<e.2/\e.2<r.length/\e.2-e.1≠1/\e.2-e.1≠(r.length)-1:=λe he=>by have:=zW.mp h2 e he;unfold E5 Es at this;simp only[yR,yZ,zO,zL,yo]at this;exact⟨this.1.1.1,this.1.1.2.1,this.1.1.2.2,this.1.2⟩
 have en:N=(N.map λe=>(e.1.toNat,e.2.toNat)).map zz:=by rw[zM];refine(List.map_id' N).symm.trans (AAv λe he=>?_);have:=ln e he;unfold zz;exact zd (by dsimp only[Function.comp];lia) (by dsimp only[Function.comp];lia)
 refine⟨_,en,⟨⟨?_,λe he=>?_,?_⟩,λe he=>?_,λm=>?_,by rw[yP];lia⟩⟩
 .unfold List.Nodup;rw[AAf];refine up.imp_of_mem λ{a b} ha hb c e=>?_;have:=ln a ha;unfold Er at c;rw[yZ]at c;lia
 .obtain⟨a,ha,rfl⟩:=zV.mp he;have:=ln a ha;dsimp only;lia
 .have nx:∀i j,(hi:i<N.length)->(hj:j<N.length)->i<j->xB N[j] N[i]=false:=λi j hi hj Bi=>by have:=zW.mp h3 j<|yS.mpr hj;rw[zO,AAT,FN hj]at this;exact AB8.mpr<|this _<|List.mem_take_iff_getElem.mpr ⟨i,U,rfl⟩
  have lb:∀a∈N,∀b∈N,xB a b=false:=λa ha b hb=>by
   obtain⟨i,hi,rfl⟩:=AAX ha;obtain⟨j,hj,rfl⟩:=AAX hb;rcases AB9 i j with c|c|c
   .rw[vL];exact nx i j hi hj c
   .subst c;unfold xB;simp
   .exact nx j i hj hi c
  intro e he f hf z;obtain⟨a,ha,rfl⟩:=zV.mp he;obtain⟨b,hb,rfl⟩:=zV.mp hf;have:=lb a ha b hb;have:=ln b hb;unfold xB at *
  unfold CW.X at z;simp only[zL,Bool.and_eq_false_iff,AAh]at *
  lia
 .obtain⟨a,ha,rfl⟩:=zV.mp he;have:=ln a ha;dsimp only;lia
 .obtain⟨a,ha,e⟩:=zV.mp m;have:=ln a ha;lia
theorem jy(N:List Pt)(a:Pt):inD (AI N) (pv a)=decide (a∈N):=by unfold inD AI;rw[AAk,AAe];simp only[List.any_eq_true,Function.comp,Qe,yZ];exact⟨(by rintro⟨x,hx,e⟩;exact e ▸ hx),λhx=>⟨a,hx,rfl⟩⟩
theorem XJ(neg:Bool)(N:List Pt)(a:Pt):Dk neg (.cl<|pv a) (.cl<|.lst<|AI N)=some (.cl (.bl (if neg=true then !decide (a∈N)else decide (a∈N)))):=by
 have:Ma (AI N)=true:=by unfold Ma AI;simp[O1]
 show(if PySem.SeqAt.shaped (Ao<|pv a)=true/\Ma (AI N)=true then some (RV.cl (.bl (if neg=true then !inD (AI N) (pv a)else inD (AI N) (pv a))))else none)=_;rw[yO ⟨O1 _,this⟩,jy]
def CY(n:Nat)(N:List Pt)(i j:Nat):Bool:=nb (n:Int) ((j:Int)-(i:Int))||decide ((min (i:Int) j,max (i:Int) j)∈N)
theorem Pl{n:Nat}(N:List Pt)(h0:0<n)(i j:Nat):HK [.int<|n,.lst<|AI N,.int<|i,.int<|j]=some (.cl<|.bl<|CY n N i j):=by refine Bg rfl ?_;refine C5<|NP (A6 (AM rfl<|AM rfl<|AM rfl<|AW _) rfl<|Px U) λ_=>?_;refine AQ ?_ rfl (XJ false _ _);exact Ew (AM (Bb (AM rfl<|AM rfl<|AW _)<|OI _ _)<|AM (Bb (AM rfl<|AM rfl<|AW _)<|KH _ _)<|AW _) rfl
theorem lU{n i j:Nat}(h3:3<=n)(hi:i<n)(hj:j<n):nb (n) ((j)-i)=true↔j=i+1\/i=j+1\/(i=0/\j=n-1)\/(j=0/\i=n-1):=by
 unfold AN.nb;rw[zX,AAS,AAS];by_cases c:i<=j
 .rw[yM U U];lia
 .rw[<-AB4,yM U U];lia
theorem OU{S:List NN}{a b:Nat}:((a:Int),(b:Int))∈S.map zz↔(a,b)∈S:=by rw[zV];exact⟨(by rintro⟨e,he,z⟩;rwa [<-aC (f:=(a,b)) z]),λh=>⟨_,h,rfl⟩⟩
theorem OG{n:Nat}{S:List NN}(C:CW.Ct n S){i j:Nat}(hi:i<n)(hj:j<n):CY n (S.map zz) i j=true↔CW.JJ n S i j:=by
 have h3:=C.ln;unfold CY CW.JJ CW.J;rw[zX,lU U hi hj,yZ];rcases AB9 i j with c|c|c
 .rw[Int.min_eq_left U,Int.max_eq_right U,OU];lia
 .subst c;rw[Int.min_eq_left U,Int.max_eq_right U,OU];have:(i,i)∉S:=λm=>by have:=C.CG _ m;lia
  lia
 .rw[Int.min_eq_right U,Int.max_eq_left U,OU];lia
theorem ak{n:Nat}(N:List Pt)(h0:0<n)(h1:n<=1000)(a b:Nat):K3 [.int<|n,.lst<|AI N,pv<|zz (a,b)]=some (.fr (((List.range n).filter λt=>CY n N t b&&CY n N t a).map λt:Nat=>PV.int<|t)):=by
 refine Bg rfl ?_;unfold VS;have e1:A0 (Bh<|AD (AB 0) AH) 1 [0,1,2] (AV 0) (AR<|AS HK<|AD (AB 1)<|AD (AB 2)<|AD (AB 0)<|AD (f2 AL (AB 3)<|fC<|.int 0) AH) (AB 0) (BG 4 [.int<|n,.lst<|AI N,pv<|zz (a,b)])=some (.fr (((List.range n).filter λt=>CY n N t a).map λt:Nat=>PV.int<|t)):=
  Cg (DE (AM rfl<|AW _) h1) (by rw[yP,zA];exact h1) (Du λt _=>⟨_,rfl,Az<|A6 rfl rfl<|Pl N h0 t a,λ_=>⟨_,rfl,rfl⟩⟩)
 rw[sq<|A7 e1 rfl];rw[<-List.filter_filter];refine JW<|Cg (Eb rfl rfl) ?_ (Du λt _=>⟨_,rfl,Az<|A6 rfl rfl<|Pl N h0 t b,λ_=>⟨_,rfl,rfl⟩⟩);rw[yP];exact zT (AAn _ _) (by rw[zA];exact h1)
abbrev N3:=Nat×Nat×Nat
noncomputable def e3(x:N3):PV:=.tup [.int (x.1:Int),.int (x.2.1:Int),.int (x.2.2:Int)]
def GC(n:Nat)(N:List Pt)(e:NN):Bool:=((zz e).2-(zz e).1==1||(zz e).2-(zz e).1==(n:Int)-1)||decide (zz e∈N)
def p3(n:Nat)(N:List Pt)(i j k:Nat):Bool:=(([(i,j),(j,k),(i,k)].filter (GC n N)).length:Int)==3
theorem mw{n:Nat}{N:List Pt}{i j k:Nat}:p3 n N i j k=true↔GC n N (i,j)=true/\GC n N (j,k)=true/\GC n N (i,k)=true:=by unfold p3;rw[zt,zt,zt];cases GC n N (i,j)<;>cases GC n N (j,k)<;>cases GC n N (i,k)<;>simp
def KL(n:Nat)(N:List Pt)(i j:Nat)(b:List N3)(u:Nat):List N3:=if p3 n N i j (j+1+u)=true then b ++ [(i,j,j+1+u)]else b
def L5(n:Nat)(N:List Pt)(i:Nat)(b:List N3)(t:Nat):List N3:=(List.range<|n-(i+1+t+1)).foldl (KL n N i<|i+1+t) b
def JF(n:Nat)(N:List Pt)(b:List N3)(i:Nat):List N3:=(List.range<|n-(i+1)).foldl (L5 n N i) b
def JT(n:Nat)(N:List Pt):List N3:=(List.range n).foldl (JF n N) []
theorem KW{α β:Type}{f:List β->α->List β}{g:α->β->Prop}{y:β}:∀{xs:List α}{b:List β},(∀b,∀x∈xs,y∈f b x↔y∈b\/g x y)->(y∈xs.foldl f b↔y∈b\/∃x∈xs,g x y)
 |[],b,_=>yI
 |x::xs,b,h=>by rw[AA2,KW λb z hz=>h b z<|yj _ hz,h b x yq];simp only[yw,exists_eq_or_imp,or_assoc]
theorem lE{n:Nat}{N:List Pt}{i j k:Nat}:(i,j,k)∈JT n N↔i<j/\j<k/\k<n/\p3 n N i j k=true:=by
 have a1:∀(x t:Nat)(b:List N3),(i,j,k)∈L5 n N x b t↔(i,j,k)∈b\/(i=x/\j=x+1+t/\j<k/\k<n/\p3 n N i j k=true):=λx t b=>by
  unfold L5;rw[KW (g:=λu y=>y=(x,x+1+t,x+1+t+1+u)/\p3 n N x (x+1+t) (x+1+t+1+u)=true) λb u _=>by
   unfold KL;split
   .rename_i h;simp[h]
   .rename_i h;simp[h]]
  refine ABw ⟨λ⟨u,hu,e,h⟩=>?_,λ⟨h1,h2,h3,h4,h5⟩=>⟨k-(x+1+t+1),yS.mpr U,?_⟩⟩
  .have:=yS.mp hu;obtain⟨rfl,e⟩:=ABi e;obtain⟨rfl,rfl⟩:=ABi e;exact⟨rfl,rfl,U,U,h⟩
  .subst h1 h2;rw[show i+1+t+1+(k-(i+1+t+1))=k by lia];exact⟨rfl,h5⟩
 have a2:∀(x:Nat)(b:List N3),(i,j,k)∈JF n N b x↔(i,j,k)∈b\/(i=x/\i<j/\j<k/\k<n/\p3 n N i j k=true):=λx b=>by unfold JF;rw[KW (g:=λt _=>i=x/\j=x+1+t/\j<k/\k<n/\p3 n N i j k=true) λb t _=>a1 x t b];refine ABw ⟨(by rintro⟨t,_,h1,h2,h3,h4,h5⟩;exact⟨h1,U,h3,h4,h5⟩),(by rintro⟨h1,h2,h3,h4,h5⟩;exact⟨j-(x+1),yS.mpr U,h1,U,h3,h4,h5⟩)⟩
 unfold JT;rw[KW (g:=λx _=>i=x/\i<j/\j<k/\k<n/\p3 n N i j k=true) λb x _=>a2 x b];refine⟨λh=>?_,λh=>.inr ⟨i,yS.mpr U,rfl,h⟩⟩;rcases h with h|⟨x,_,_,h⟩
 .cases h
 .exact h
theorem Rq{n:Nat}{S:List NN}{u v:Nat}(h:u<v)(hv:v<n):GC n (S.map zz) (u,v)=true↔CW.J n S u v:=by unfold GC CW.J;rw[zX,zX,AAS,AAS,yZ];have m:zz (u,v)∈S.map zz↔(u,v)∈S:=OU;rw[m];show((v:Int)-u=1\/(v:Int)-u=(n)-1)\/_↔_;lia
section
variable{r N:List Pt}(hN:N.length<=1000)
def pR(r N:List Pt)(b:List N3)(x:List<|Option SV):AY:=some (.im<|.lst<|AI r)::some (.im<|.lst<|AI N)::some (.im<|.int (r.length:Int))::some (.own<|b.map e3)::x
def pB:SF:=(AO (Aa 7<|A3<|AD (Am<|AD (AB 4)<|AD (AB 5) AH)<|AD (Am<|AD (AB 5)<|AD (AB 6) AH)<|AD (Am<|AD (AB 4)<|AD (AB 6) AH) AH)<|Aq (AR<|f2 Ba (fB An<|AD (A0 (A9 false<|AB 7) 1 [1,2] (AV 0) (CF (AR<|f2 (BB false) (f2 Ab (f2 AL (AB 0)<|fC<|.int 1)<|f2 AL (AB 0)<|fC<|.int 0)<|A3<|AD (fC<|.int 1)<|AD (f2 Ab (AB 2)<|fC<|.int 1) AH)<|AR<|f2 (Dk false) (AB 0)<|AB 1)<|AB 0) AH)<|fC<|.int 3) (B0 3 CQ<|AD (Am<|AD (AB 4)<|AD (AB 5)<|AD (AB 6) AH) AH) Ax)
theorem my{b:List N3}(hb:b.length<1000)(i j k:Nat)(x7:Option SV):pB (pR r N b [some<|.im<|.int<|i,some<|.im<|.int<|j,some<|.im<|.int<|k,x7])=some (.nx (pR r N (if p3 r.length N i j k=true then b ++ [(i,j,k)]else b) [some<|.im<|.int<|i,some<|.im<|.int<|j,some<|.im<|.int<|k,some<|.im<|.lst ([(i,j),(j,k),(i,k)].map λe=>pv<|zz e)])):=by
 have t2:∀(u v:Nat)(a c:Nat)(x:Option SV),AB a (pR r N b [some<|.im<|.int<|i,some<|.im<|.int<|j,some<|.im<|.int<|k,x])=some (.cl<|.int<|u)->AB c (pR r N b [some<|.im<|.int<|i,some<|.im<|.int<|j,some<|.im<|.int<|k,x])=some (.cl<|.int<|v)->Am (AD (AB a)<|AD (AB c) AH) (pR r N b [some<|.im<|.int<|i,some<|.im<|.int<|j,some<|.im<|.int<|k,x])=some (.cl<|pv<|zz (u,v)):=λu v a c x h1 h2=>Ew (AM h1<|AM h2<|AW _) rfl;unfold pB;rw[sq (ρ':=pR r N b [some<|.im<|.int<|i,some<|.im<|.int<|j,some<|.im<|.int<|k,some<|.im<|.lst ([(i,j),(j,k),(i,k)].map λe=>pv<|zz e)])<|(A7 (Dg (AM (t2 i j 4 5 x7 rfl rfl)<|AM (t2 j k 5 6 x7 rfl rfl)<|AM (t2 i k 4 6 x7 rfl rfl)<|AW _) rfl) rfl).trans rfl];have ec:A0 (A9 false<|AB 7) 1 [1,2] (AV 0) (CF (AR<|f2 (BB false) (f2 Ab (f2 AL (AB 0)<|fC<|.int 1)<|f2 AL (AB 0)<|fC<|.int 0)<|A3<|AD (fC<|.int 1)<|AD (f2 Ab (AB 2)<|fC<|.int 1) AH)<|AR<|f2 (Dk false) (AB 0)<|AB 1) (AB 0) (pR r N b [some<|.im<|.int<|i,some<|.im<|.int<|j,some<|.im<|.int<|k,some<|.im<|.lst ([(i,j),(j,k),(i,k)].map λe=>pv<|zz e)])=some (.fr<|([(i,j),(j,k),(i,k)].filter (GC r.length N)).map λe=>pv<|zz e):=
  Cg (Eb rfl rfl) (by show 3<=1000;decide) (Du λe _=>⟨_,rfl,F1 (Az<|AQ (AQ (AQ rfl rfl<|Dl<|zz e) (AQ rfl rfl<|DV<|zz e)<|C4 _ _) (Dg (AM rfl<|AM (AQ rfl rfl<|C4 _ _)<|AW _) rfl)<|Rv _ _ _) λ_=>Az<|AQ rfl rfl<|XJ false N<|zz e,λ_=>⟨_,rfl,rfl⟩⟩)
 have el:=Bb (k:=An) (AM ec<|AW _) (by rw[XO,yP]);have et:=Az<|AQ (fb:=fC<|.int 3) el rfl<|L9 _ _;split
 .rename_i h;unfold p3 at h;rw[h]at et;rw[BZ et,SG rfl (AM (Ew (AM (x:=.cl<|.int<|i) rfl<|AM (x:=.cl<|.int<|j) rfl<|AM (x:=.cl<|.int<|k) rfl<|AW _) rfl)<|AW _) rfl (by rw[yP];exact hb)];unfold pR;rw[zP]
  rfl
 .rename_i h;unfold p3 at h;rw[AB8.mpr h]at et;rw[BO et]
  rfl
end
noncomputable def tS:Nat->Nat
 |0=>0
 |m+1=>tS m+(10-m)
theorem ZY(m:Nat):tS m<=55:=by
 by_cases h:m<10
 .exact(yJ:∀m,m<10->tS m<=55) m h
 .have:∀k,tS (10+k)=55:=λk=>by
   induction k with
   |zero=>rfl
   |succ k ih=>rw[<-Nat.add_assoc,tS,ih];lia
  rw[show m=10+(m-10)by lia,this];lia
theorem MY{n i x:Nat}(h:(List.range n)[i]? = some x):x=i/\i<n:=by obtain⟨h1,h2⟩:=yY.mp h;rw[zA]at h1;rw[AB0]at h2;exact⟨h2.symm,h1⟩
section
variable{r N:List Pt}(B3:r.length<=12)
def pK:SF:=Bm (C0<|AD (f2 AZ (AB 5)<|fC<|.int 1)<|AD (AB 2) AH) (AV 6) pB
def pJ:SF:=Bm (C0<|AD (f2 AZ (AB 4)<|fC<|.int 1)<|AD (AB 2) AH) (AV 5) pK
include B3
theorem m7{b:List N3}(hb:b.length<=900){i j:Nat}(hj:j<r.length)(x6 x7:Option SV):∃y6 y7,pK (pR r N b [some<|.im<|.int<|i,some<|.im<|.int<|j,x6,x7])=some (.nx<|pR r N ((List.range<|r.length-(j+1)).foldl (KL r.length N i j) b) [some<|.im<|.int<|i,some<|.im<|.int<|j,y6,y7])/\((List.range<|r.length-(j+1)).foldl (KL r.length N i j) b).length<=b.length+(r.length-(j+1)):=by
 unfold pK;rw[B7<|LW (i:=j+1) (AM (AQ rfl rfl<|by rfl)<|AM rfl<|AW _) U U];obtain⟨ρ',e,⟨y6,y7,rfl⟩,hl⟩:=GJ (gt:=AV 6) (KL r.length N i j) (λm b' ρ=>(∃y6 y7,ρ=pR r N b' [some<|.im<|.int<|i,some<|.im<|.int<|j,y6,y7])/\b'.length<=b.length+m) (xs:=List.range<|r.length-(j+1)) (n:=0) (b:=b) ⟨⟨x6,x7,rfl⟩,U⟩ (by
  rintro u x hx b' ρ ⟨⟨y6,y7,e⟩,hl⟩;obtain⟨rfl,hu⟩:=MY hx;subst e;refine⟨_,_,rfl,my (k:=j+1+x) U i j y7,⟨_,_,rfl⟩,?_⟩;unfold KL;split
  .rw[yx,AAb];lia
  .lia)
 rw[zA]at hl;exact⟨y6,y7,e,U⟩
theorem mz{b:List N3}(hb:b.length<=800){i:Nat}(hi:i<r.length)(x5 x6 x7:Option SV):∃y5 y6 y7,pJ (pR r N b [some<|.im<|.int<|i,x5,x6,x7])=some (.nx<|pR r N (JF r.length N b i) [some<|.im<|.int<|i,y5,y6,y7])/\(JF r.length N b i).length<=b.length+55:=by
 unfold pJ;rw[B7<|LW (i:=i+1) (AM (AQ rfl rfl<|by rfl)<|AM rfl<|AW _) U U];obtain⟨ρ',e,⟨y5,y6,y7,rfl⟩,hl⟩:=GJ (gt:=AV 5) (L5 r.length N i) (λm b' ρ=>(∃y5 y6 y7,ρ=pR r N b' [some<|.im<|.int<|i,y5,y6,y7])/\b'.length<=b.length+tS m) (xs:=List.range<|r.length-(i+1)) (n:=0) (b:=b) ⟨⟨x5,x6,x7,rfl⟩,U⟩ (by rintro t x hx b' ρ ⟨⟨y5,y6,y7,e⟩,hl⟩;obtain⟨rfl,hu⟩:=MY hx;subst e;have:=ZY<|0+x;obtain⟨z6,z7,ek,hk⟩:=m7 B3 (b:=b') U (j:=i+1+x) U y6 y7;refine⟨_,_,rfl,ek,⟨_,_,_,rfl⟩,?_⟩;rw[tS];unfold L5;lia)
 have:=ZY<|0+(List.range<|r.length-(i+1)).length;exact⟨y5,y6,y7,e,by unfold JF;lia⟩
theorem aY:Pp [.lst<|AI r,.lst<|AI N]=some (.fr<|(JT r.length N).map e3)/\(JT r.length N).length<=700:=by
 obtain⟨ρ',e,⟨x4,x5,x6,x7,rfl⟩,hl⟩:=GJ (gt:=AV 4) (JF r.length N) (λm b' ρ=>(∃x4 x5 x6 x7,ρ=pR r N b' [x4,x5,x6,x7])/\b'.length<=55*m) (n:=0) (b:=[]) ⟨⟨none,none,none,none,rfl⟩,yI⟩ (by rintro i x hx b' ρ ⟨⟨y4,y5,y6,y7,e⟩,hl⟩;obtain⟨rfl,hu⟩:=MY hx;subst e;obtain⟨z5,z6,z7,ej,hk⟩:=mz B3 (b:=b') U hu y5 y6 y7;exact⟨_,_,rfl,ej,⟨_,_,_,_,rfl⟩,U⟩)
 rw[zA]at hl;refine⟨Bg rfl ?_,by unfold JT;lia⟩;unfold VJ;rw[sq<|A7 (Bb (AM rfl<|AW _)<|by rw[E4,B9]) rfl];rw[sq <|(set_own<|Dg (AW _) rfl).trans rfl];exact(sq <|(B7<|DE (AM rfl<|AW _) U).trans e).trans rfl
end
theorem lJ{i:Nat}{ga:AF}{ρ:AY}{rs:List RV}{ps zs:List PV}(er:ρ[i]? = some (some<|.own ps))(ea:ga ρ=some rs)(ec:Cm rs=some [.lst zs])(h:ps.length+zs.length<=1000):B0 i JK ga ρ=some (.nx<|ρ.set i<|some<|.own<|ps++zs):=by unfold B0;rw[er,ea];dsimp only;rw[ec];unfold JK;dsimp only;rw[yO h]
def PH(n:Nat)(N:List Pt)(i j:Nat):List Nat:=((List.range n).filter λt=>CY n N t j&&CY n N t i).filter λu=>decide ((j:Int)<(u:Int))
def Kn(n:Nat)(N:List Pt)(i j:Nat)(b:List N3):List N3:=if CY n N i j=true then b++(PH n N i j).map (λu=>(i,j,u))else b
def Mn(n:Nat)(N:List Pt)(i:Nat)(b:List N3)(t:Nat):List N3:=Kn n N i (i+1+t) b
def Jh(n:Nat)(N:List Pt)(b:List N3)(i:Nat):List N3:=(List.range<|n-(i+1)).foldl (Mn n N i) b
def Kr(n:Nat)(N:List Pt):List N3:=(List.range n).foldl (Jh n N) []
def q3(n:Nat)(N:List Pt)(i j k:Nat):Prop:=CY n N i j=true/\CY n N k j=true/\CY n N k i=true
theorem lF{n:Nat}{N:List Pt}{i j k:Nat}:(i,j,k)∈Kr n N↔i<j/\j<k/\k<n/\q3 n N i j k:=by
 have a1:∀(x t:Nat)(b:List N3),(i,j,k)∈Mn n N x b t↔(i,j,k)∈b\/(i=x/\j=x+1+t/\j<k/\k<n/\q3 n N i j k):=λx t b=>by
  unfold Mn Kn PH q3;have m:(i,j,k)∈((((List.range n).filter λt'=>CY n N t' (x+1+t)&&CY n N t' x).filter λu:Nat=>decide (((x+1+t:Nat):Int)<(u))).map λu:Nat=>(x,x+1+t,u))↔i=x/\j=x+1+t/\j<k/\k<n/\CY n N k j=true/\CY n N k i=true:=by
   rw[zV];constructor
   .rintro⟨u,hu,e⟩;rw[zp,zp,yS,yR,yZ]at hu;obtain⟨h1,e'⟩:=ABi e;obtain⟨h2,h3⟩:=ABi e';subst h1 h2 h3;exact⟨rfl,rfl,U,hu.1.1,hu.1.2⟩
   .rintro⟨rfl,rfl,h1,h2,h3⟩;exact⟨k,by rw[zp,zp,yS,yR];exact⟨⟨h2,h3⟩,U⟩,rfl⟩
  split
  .rename_i h;rw[zF,m];refine ABw ⟨?_,?_⟩
   .rintro⟨h1,h2,h3,h4,h5⟩;subst h1 h2;exact⟨rfl,rfl,h3,h4,h,h5⟩
   .rintro⟨h1,h2,h3,h4,_,h5⟩;exact⟨h1,h2,h3,h4,h5⟩
  .rename_i h;refine⟨.inl,λz=>z.resolve_right ?_⟩;rintro⟨h1,h2,_,_,h3,_⟩;subst h1 h2;exact h h3
 have a2:∀(x:Nat)(b:List N3),(i,j,k)∈Jh n N b x↔(i,j,k)∈b\/(i=x/\i<j/\j<k/\k<n/\q3 n N i j k):=λx b=>by unfold Jh;rw[KW (g:=λt _=>i=x/\j=x+1+t/\j<k/\k<n/\q3 n N i j k) λb t _=>a1 x t b];refine ABw ⟨λ⟨t,_,h1,h2,h3,h4,h5⟩=>⟨h1,U,h3,h4,h5⟩,λ⟨h1,h2,h3,h4,h5⟩=>⟨j-(x+1),yS.mpr U,h1,U,h3,h4,h5⟩⟩
 unfold Kr;rw[KW (g:=λx _=>i=x/\i<j/\j<k/\k<n/\q3 n N i j k) λb x _=>a2 x b];refine⟨λh=>?_,λh=>.inr ⟨i,yS.mpr U,rfl,h⟩⟩;rcases h with h|⟨x,_,_,h⟩
 .cases h
 .exact h
theorem lG{n:Nat}{S:List NN}(C:CW.Ct n S){i j k:Nat}:(i,j,k)∈Kr n (S.map zz)↔CW.T3 n S i j k:=by
 rw[lF];unfold CW.T3 q3;constructor
 .rintro⟨h1,h2,h3,h4,h5,h6⟩;rw[OG C U U]at h4 h5 h6;exact⟨h1,h2,h3,by rcases h4 with z|z;exact z.2;lia,by rcases h5 with z|z;lia;exact z.2,by rcases h6 with z|z;lia;exact z.2⟩
 .rintro⟨h1,h2,h3,h4,h5,h6⟩;rw[OG C U U,OG C U U,OG C U U];exact⟨h1,h2,h3,.inl ⟨h1,h4⟩,.inr ⟨h2,h5⟩,.inr ⟨U,h6⟩⟩
def tR(n:Nat)(N:List Pt)(b:List N3)(x:List<|Option SV):AY:=some (.im<|.int (n:Int))::some (.im<|.lst<|AI N)::some (.own<|b.map e3)::x
def tB:SF:=(Aq (AR<|AS HK<|AD (AB 0)<|AD (AB 1)<|AD (AB 3)<|AD (AB 4) AH) (AO (Aa 5<|AS K3<|AD (AB 0)<|AD (AB 1)<|AD (Am<|AD (AB 3)<|AD (AB 4) AH) AH)<|B0 2 JK<|AD (A0 (A9 false<|AB 5) 1 [4,3] (AV 0) (AR<|f2 Bq (AB 0)<|AB 1)<|Am<|AD (AB 2)<|AD (AB 1)<|AD (AB 0) AH) AH) Ax)
theorem Zf(n:Nat)(N:List Pt)(i j:Nat):(PH n N i j).length<=n:=by refine zT (AAn _ _)<|zT (AAn _ _) ?_;rw[zA];exact yf _
theorem tx(n:Nat)(N:List Pt)(i j:Nat)(b:List N3):(Kn n N i j b).length<=b.length+n:=by
 have:=Zf n N i j;unfold Kn;split
 .rw[yx,yP];lia
 .lia
section
variable{n:Nat}{N:List Pt}(h0:0<n)(B3:n<=12)
include h0 B3
theorem se{b:List N3}(hb:b.length<=900)(i j:Nat)(x5:Option SV):∃y5,tB (tR n N b [some<|.im<|.int<|i,some<|.im<|.int<|j,x5])=some (.nx<|tR n N (Kn n N i j b) [some<|.im<|.int<|i,some<|.im<|.int<|j,y5]):=by
 have et:AR (AS HK<|AD (AB 0)<|AD (AB 1)<|AD (AB 3)<|AD (AB 4) AH) (tR n N b [some<|.im<|.int<|i,some<|.im<|.int<|j,x5])=some (CY n N i j):=Az<|A6 rfl rfl<|Pl N h0 i j;unfold tB Kn;cases h:CY n N i j
 .rw[h]at et;exact⟨x5,(BO et).trans rfl⟩
 .rw[h]at et;have e1:AS K3 (AD (AB 0)<|AD (AB 1)<|AD (Am<|AD (AB 3)<|AD (AB 4) AH) AH) (tR n N b [some<|.im<|.int<|i,some<|.im<|.int<|j,x5])=some (.fr (((List.range n).filter λt=>CY n N t j&&CY n N t i).map λt:Nat=>PV.int<|t)):=
   A6 (AM rfl<|AM rfl<|AM (Ew (ps:=[.int<|i,.int<|j]) rfl rfl)<|AW _) rfl (ak N h0 U i j)
  have hl:=Zf n N i j;have e2:A0 (A9 false<|AB 5) 1 [4,3] (AV 0) (AR<|f2 Bq (AB 0)<|AB 1) (Am<|AD (AB 2)<|AD (AB 1)<|AD (AB 0) AH) (tR n N b [some<|.im<|.int<|i,some<|.im<|.int<|j,some<|.im<|.lst (((List.range n).filter λt=>CY n N t j&&CY n N t i).map λt:Nat=>PV.int<|t)])=some (.fr<|(PH n N i j).map λu=>e3 (i,j,u)):=
   Cg (Eb rfl rfl) (by rw[yP];exact zT (AAn _ _) (by rw[zA];lia)) (Du λu _=>⟨_,rfl,Az<|AQ rfl rfl<|Fc _ _,λ_=>⟨_,Ew rfl rfl,rfl⟩⟩)
  refine⟨some<|.im<|.lst (((List.range n).filter λt=>CY n N t j&&CY n N t i).map λt:Nat=>PV.int<|t),(BZ et).trans<|(sq<|A7 e1 rfl).trans<|(lJ rfl (AM e2<|AW _) rfl ?_).trans ?_⟩
  .rw[yP,yP];lia
  .rw[yO rfl];unfold tR;rw[zP,zM]
   rfl
end
noncomputable def tQ:Nat->Nat
 |0=>0
 |m+1=>tQ m+(11-m)
theorem ZX(m:Nat):tQ m<=66:=by
 by_cases h:m<11
 .exact(yJ:∀m,m<11->tQ m<=66) m h
 .have:∀k,tQ (11+k)=66:=λk=>by
   induction k with
   |zero=>rfl
   |succ k ih=>rw[<-Nat.add_assoc,tQ,ih];lia
  rw[show m=11+(m-11)by lia,this];lia
section
variable{n:Nat}{N:List Pt}(h0:0<n)(B3:n<=12)
def tJ:SF:=Bm (C0<|AD (f2 AZ (AB 3)<|fC<|.int 1)<|AD (AB 0) AH) (AV 4) tB
include h0 B3
theorem tH{b:List N3}{i:Nat}(hi:i<n)(hb:b.length<=12*tQ i)(x4 x5:Option SV):∃y4 y5,tJ (tR n N b [some<|.im<|.int<|i,x4,x5])=some (.nx<|tR n N (Jh n N b i) [some<|.im<|.int<|i,y4,y5])/\(Jh n N b i).length<=12*tQ (i+1):=by
 have q:=ZX<|i+1;rw[tQ]at q;unfold tJ;rw[B7<|LW (i:=i+1) (AM (AQ rfl rfl<|by rfl)<|AM rfl<|AW _) U U];obtain⟨ρ',e,⟨y4,y5,rfl⟩,hl⟩:=GJ (enc:=λt:Nat=>PV.int<|(i+1+t:Nat)) (gt:=AV 4) (Mn n N i) (λm b' ρ=>(∃y4 y5,ρ=tR n N b' [some<|.im<|.int<|i,y4,y5])/\b'.length<=b.length+12*m) (xs:=List.range<|n-(i+1)) (n:=0) (b:=b) ⟨⟨x4,x5,rfl⟩,U⟩ λt x hx b' ρ ⟨⟨y4,y5,e⟩,hl⟩=>by obtain⟨rfl,hu⟩:=MY hx;subst e;obtain⟨z5,ek⟩:=se h0 B3 (b:=b') U i (i+1+x) y5;refine⟨_,_,rfl,ek,⟨_,_,rfl⟩,?_⟩;have:=tx n N i (i+1+x) b';unfold Mn;lia
 rw[zA]at hl;exact⟨y4,y5,e,by rw[tQ];unfold Jh;lia⟩
theorem ao:P0 [.int<|n,.lst<|AI N]=some (.fr<|(Kr n N).map e3)/\(Kr n N).length<=1000:=by
 obtain⟨ρ',e,⟨x3,x4,x5,rfl⟩,hl⟩:=GJ (gt:=AV 3) (Jh n N) (λm b' ρ=>(∃x3 x4 x5,ρ=tR n N b' [x3,x4,x5])/\b'.length<=12*tQ m) (n:=0) (b:=[]) ⟨⟨none,none,none,rfl⟩,yI⟩ λi x hx b' ρ ⟨⟨y3,y4,y5,e⟩,hl⟩=>by obtain⟨rfl,hu⟩:=MY hx;subst e;rw[ABC]at hl ⊢;obtain⟨z4,z5,ej,hk⟩:=tH h0 B3 hu hl y4 y5;exact⟨_,_,rfl,ej,⟨_,_,_,rfl⟩,hk⟩
 have:=ZX<|0+(List.range n).length;refine⟨Bg rfl ?_,by unfold Kr;lia⟩;unfold VT;rw[sq <|(set_own<|Dg (AW _) rfl).trans rfl];exact(sq <|(B7 <|DE (AM rfl<|AW _) U).trans e).trans rfl
end
noncomputable def DW(f:Nat->Nat)(D:List Nat):List<|Int×Int:=D.map λu:Nat=>((u:Int),(f u:Int))
theorem ME(f:Nat->Nat)(u:Nat):∀D:List Nat,EJ (DW f D) (u:Int)=if u∈D then some ((f u:Nat):Int)else none
 |[]=>rfl
 |d::D=>by
  have ih:=ME f u D;unfold EJ DW at *
  rw[ye];by_cases e:d=u
  .subst e;rw[ACT yI,yO yq]
   rfl
  .rw[ACU (by simp;lia),ih];have:u∈d::D↔u∈D:=by rw[yw];exact⟨λz=>z.resolve_left λh=>e h.symm,.inr⟩
   by_cases m:u∈D
   .rw[yO m,yO<|this.mpr m]
   .rw[yN m,yN λz=>m<|this.mp z]
noncomputable def l3(x:N3):List Nat:=[x.1,x.2.1,x.2.2]
def bare(D:List Nat)(x:N3):List Nat:=(l3 x).filter λu=>!decide (u∈D)
def DR(D:List Nat)(x:N3):List Nat:=if(bare D x).length=1 then D++bare D x else D
def dR(n:Nat)(T:List N3)(f:Nat->Nat)(D:List Nat)(x:List<|Option SV):AY:=some (.im<|.int (n:Int))::some (.im<|.lst<|T.map e3)::some (.D7<|DW f D)::x
def dB:SF:=(AO (Aa 4<|A0 (Dz<|AB 3) 1 [2] (AV 0) (Ex true 1<|AB 0)<|AB 0)<|Aq (AR<|f2 Ba (fB An<|AD (AB 4) AH)<|fC<|.int 1) (AO (Aa 5<|A0 (Dz<|AB 3) 1 [2] (AV 0) (Ex false 1<|AB 0)<|Ie 1<|AB 0)<|Im 2 (f2 AL (AB 4)<|fC<|.int 0)<|f2 Ab (fB KN<|AD (fC<|.tup [(.int 0),(.int 1),(.int 2)]) AH)<|fB G9<|AD (AB 5) AH) Ax)
theorem XN(neg:Bool)(f:Nat->Nat)(D:List Nat)(u:Nat):Ex neg 1 (AB 0) [some<|.im<|.int (u:Int),some<|.D7<|DW f D]=some (if neg=true then !decide (u∈D)else decide (u∈D)):=by
 show some (if neg=true then !(EJ (DW f D) (u:Int)).isSome else(EJ (DW f D) (u:Int)).isSome)=_;rw[ME];by_cases m:u∈D
 .rw[yO m,zc m];rfl
 .rw[yN m,zU m];rfl
theorem kQ(zs:List Int):G9 [.cl<|.lst<|zs.map PV.int]=some (.cl<|.int zs.sum):=by
 show(C2<|zs.map PV.int).map _=_;rw[Rk]
 rfl
theorem bq{f:Nat->Nat}(hf:∀u,f u<3){D:List Nat}{i j k:Nat}(h1:f i≠f j)(h2:f j≠f k)(h3:f i≠f k)(hb:(bare D (i,j,k)).length=1):∃w,bare D (i,j,k)=[w]/\w∉D/\(w=i\/w=j\/w=k)/\(3:Int)-(((l3 (i,j,k)).filter λu=>decide (u∈D)).map λu=>(f u:Int)).sum=(f w:Int):=by
 have a:=hf i;have b:=hf j;have c:=hf k;by_cases hi:i∈D<;>by_cases hj:j∈D<;>by_cases hk:k∈D<;>try (exfalso;simp[bare,l3,zt,hi,hj,hk]at hb;done)
 .exact⟨k,by simp[bare,l3,zt,hi,hj,hk],hk,.inr<|.inr rfl,by simp[l3,zt,hi,hj,hk];lia⟩
 .exact⟨j,by simp[bare,l3,zt,hi,hj,hk],hj,.inr<|.inl rfl,by simp[l3,zt,hi,hj,hk];lia⟩
 .exact⟨i,by simp[bare,l3,zt,hi,hj,hk],hi,.inl rfl,by simp[l3,zt,hi,hj,hk];lia⟩
theorem dm{n:Nat}{T:List N3}{f:Nat->Nat}(hf:∀u,f u<3){D:List Nat}(hD:D.length<=1000){i j k:Nat}(h1:f i≠f j)(h2:f j≠f k)(h3:f i≠f k)(x4 x5:Option SV):∃y4 y5,dB (dR n T f D [some<|.im<|e3 (i,j,k),x4,x5])=some (.nx<|dR n T f (DR D (i,j,k)) [some<|.im<|e3 (i,j,k),y4,y5]):=by
 have e1:∀y4 y5,A0 (Dz<|AB 3) 1 [2] (AV 0) (Ex true 1<|AB 0) (AB 0) (dR n T f D [some<|.im<|e3 (i,j,k),y4,y5])=some (.fr ((bare D (i,j,k)).map λu:Nat=>PV.int (u:Int))):=λy4 y5=>
  Cg (its:=Dz<|AB 3) (xs:=(l3 (i,j,k)).map λu:Nat=>PV.int (u:Int)) rfl (by simp[l3]) (Du (enc:=λu:Nat=>PV.int (u:Int)) (c:=λu=>!decide (u∈D)) (h:=λu:Nat=>PV.int (u:Int)) λu _=>⟨_,rfl,(XN true f D u).trans (by rw[yO rfl]),λ_=>⟨_,rfl,rfl⟩⟩)
 have et:AR (f2 Ba (fB An<|AD (AB 4) AH)<|fC<|.int 1) (dR n T f D [some<|.im<|e3 (i,j,k),some<|.im<|.lst ((bare D (i,j,k)).map λu:Nat=>PV.int (u:Int)),x5])=some (((bare D (i,j,k)).length:Int)==1):=
  Az (AQ (Bb (AM (x:=.cl<|.lst ((bare D (i,j,k)).map λu:Nat=>PV.int (u:Int))) rfl<|AW _)<|by rw[E4,yP]) (y:=.cl<|.int 1) rfl<|L9 _ _)
 unfold dB DR;by_cases hb:(bare D (i,j,k)).length=1
 .obtain⟨w,ew,hw,_,es⟩:=bq hf h1 h2 h3 hb;rw[hb]at et;have e2:A0 (Dz<|AB 3) 1 [2] (AV 0) (Ex false 1<|AB 0) (Ie 1<|AB 0) (dR n T f D [some<|.im<|e3 (i,j,k),some<|.im<|.lst ((bare D (i,j,k)).map λu:Nat=>PV.int (u:Int)),x5])=some (.fr (((l3 (i,j,k)).filter λu=>decide (u∈D)).map λu:Nat=>PV.int (f u:Int))):=
   Cg (its:=Dz<|AB 3) (xs:=(l3 (i,j,k)).map λu:Nat=>PV.int (u:Int)) rfl (by simp[l3]) (Du (enc:=λu:Nat=>PV.int (u:Int)) (c:=λu=>decide (u∈D)) (h:=λu:Nat=>PV.int (f u:Int)) λu _=>⟨_,rfl,(XN false f D u).trans (by rw[yN yJ]),λm=>⟨.cl<|.int (f u:Int),by
    show(EJ (DW f D) (u:Int)).map _=_;rw[ME,yO<|of_decide_eq_true m]
    rfl,rfl⟩⟩)
  refine⟨some<|.im<|.lst [.int (w:Int)],some<|.im<|.lst (((l3 (i,j,k)).filter λu=>decide (u∈D)).map λu:Nat=>PV.int (f u:Int)),?_⟩;rw[sq<|A7 (e1 x4 x5) rfl];refine(BZ<|et.trans rfl).trans ?_;rw[sq<|A7 e2 rfl,ew,yO<|by rfl];have ev:f2 Ab (fB KN<|AD (fC<|.tup [(.int 0),(.int 1),(.int 2)]) AH) (fB G9<|AD (AB 5) AH) (dR n T f D [some<|.im<|e3 (i,j,k),some<|.im<|.lst [.int (w:Int)],some<|.im<|.lst (((l3 (i,j,k)).filter λu=>decide (u∈D)).map λu:Nat=>PV.int (f u:Int))])=some (.cl<|.int (f w:Int)):=by rw[<-es];refine AQ (x:=.cl<|.int 3) rfl (Bb (AM (x:=.cl<|.lst (((l3 (i,j,k)).filter λu=>decide (u∈D)).map λu:Nat=>PV.int (f u:Int))) rfl<|AW _) ?_)<|C4 _ _;have:=kQ<|((l3 (i,j,k)).filter λu=>decide (u∈D)).map λu=>(f u:Int);rw[zM]at this;exact this
  show Im 2 _ _ (dR n T f D [some<|.im<|e3 (i,j,k),some<|.im<|.lst [.int (w:Int)],some<|.im<|.lst (((l3 (i,j,k)).filter λu=>decide (u∈D)).map λu:Nat=>PV.int (f u:Int))])=_;unfold Im;rw[ev];show(if(DW f D).length<1000000/\EJ (DW f D) (w:Int)=none then some (Out.nx<|(dR n T f D _).set 2<|some<|.D7<|DW f D ++ [((w:Int),(f w:Int))])else none)=_;rw[yO ⟨by unfold DW;rw[yP];lia,by rw[ME,yN hw]⟩];unfold dR DW;rw[zP]
  rfl
 .rw[sq<|A7 (e1 x4 x5) rfl,yN hb];refine⟨_,_,(BO<|et.trans<|by rw[yo.mpr U]).trans rfl⟩
theorem ZF(D:List Nat)(x:N3):∃E,DR D x=D++E:=by
 unfold DR;split
 .exact⟨_,rfl⟩
 .exact⟨[],(AAU _).symm⟩
theorem Ry:∀(T:List N3)(D:List Nat),∃E,T.foldl DR D=D++E
 |[],D=>⟨[],(AAU _).symm⟩
 |x::T,D=>by obtain⟨E,e⟩:=ZF D x;obtain⟨E',e'⟩:=Ry T<|DR D x;rw[AA2,e',e];exact⟨E++E',AB6 _ _ _⟩
theorem XX:∀(T:List N3)(D:List Nat),(T.foldl DR D).length=D.length->∀x∈T,DR D x=D
 |[],_,_,_,h=>by cases h
 |y::T,D,h,x,hx=>by
  obtain⟨E,e⟩:=ZF D y;obtain⟨E',e'⟩:=Ry T<|DR D y;rw[AA2]at h;have l1:=AAB List.length e;have l2:=AAB List.length e';rw[yx]at l1 l2;have e0:DR D y=D:=by rw[e,List.eq_nil_of_length_eq_zero (l:=E) U,AAU]
  rcases yw.mp hx with rfl|hx
  .exact e0
  .rw[e0]at h;exact XX T D h x hx
structure Ds(n:Nat)(D:List Nat):Prop where
 nd:D.Nodup
 lt:∀u∈D,u<n
 h0:0∈D
 h1:1∈D
theorem Ds.step{n:Nat}{D:List Nat}(h:Ds n D){i j k:Nat}(hi:i<n)(hj:j<n)(hk:k<n):Ds n<|DR D (i,j,k):=by
 unfold DR;split
 .rename_i hb;obtain⟨w,ew⟩:=List.length_eq_one_iff.mp hb;have m:w∈bare D (i,j,k):=by rw[ew];exact yr.mpr rfl
  unfold bare l3 at m;rw[zp,zO,AAh]at m;have hw:w<n:=by have:=m.1;simp only[yw,AAZ,ABl]at this;rcases this with z|z|z<;>lia
  rw[ew];refine⟨List.nodup_append.mpr ⟨h.nd,List.pairwise_singleton _ _,λa ha b hb e=>m.2 (by rw[yr]at hb;rw[<-hb,<-e];exact ha)⟩,λu hu=>?_,zw _ h.h0,zw _ h.h1⟩;rcases zF.mp hu with z|z
  .exact h.lt u z
  .rw[yr]at z;rw[z];exact hw
 .exact h
theorem Ds.len{n:Nat}{D:List Nat}(h:Ds n D):D.length<=n:=by
 have:=AA4 h.nd (l₂:=List.range n) λu hu=>yS.mpr<|h.lt u hu
 rwa [zA]at this
theorem Ds.full{n:Nat}{D:List Nat}(h:Ds n D)(hl:n<=D.length)(u:Nat)(hu:u<n):u∈D:=by
 by_cases m:u∈D
 .exact m
 .have:=AA4 (l₁:=u::D) (AAV.mpr ⟨m,h.nd⟩) (l₂:=List.range n) λv hv=>by
   rcases yw.mp hv with rfl|z
   .exact yS.mpr hu
   .exact yS.mpr<|h.lt v z
  rw[zA,yn]at this;lia
theorem Ds.more{n:Nat}{S:List NN}(C:CW.Ct n S){T:List N3}(hT:∀i j k,(i,j,k)∈T↔CW.T3 n S i j k){D:List Nat}(h:Ds n D)(hl:D.length<n):D.length<(T.foldl DR D).length:=by
 obtain⟨E,e⟩:=Ry T D;have l1:=AAB List.length e;rw[yx]at l1;by_cases g:(T.foldl DR D).length=D.length
 .exfalso;have s:=XX T D g;have no:∀i j k,CW.T3 n S i j k->(bare D (i,j,k)).length≠1:=λi j k t z=>by have:=s _<|(hT i j k).mpr t;unfold DR at this;rw[yO z]at this;have:=AAB List.length this;rw[yx]at this;lia
  have all:=C.bO (P:=λu=>u∈D) h.h0 h.h1 λu v w t=>⟨λa b=>ACA λc=>no u v w t (by
   unfold bare l3;simp only[zt,List.filter_nil,zc a,zc b,zU c,ACf,ABZ,AAW,AA6,AAc,yn,zq]),λa b=>ACA λc=>no u v w t (by
   unfold bare l3;simp only[zt,List.filter_nil,zc a,zc b,zU c,ACf,ABZ,AAW,AA6,AAc,yn,zq])⟩
  have:=AA4 (l₁:=List.range n) ABk (l₂:=D) λu hu=>all u<|yS.mp hu;rw[zA]at this;lia
 .lia
theorem Vz{f:EF}{ρ:AY}{r:RV}{ps:List PV}(e:f ρ=some r)(h:r.clean=some (.lst ps)):A9 true f ρ=some ps:=by unfold A9;rw[e];dsimp only;rw[yO rfl,h]
theorem fq{F:List PV->Option RV}{g:AF}{ρ:AY}{rs:List RV}{z:RV}(e:g ρ=some rs)(h:F (rs.map RV.any)=some z):Hc F g ρ=some z:=by unfold Hc;rw[e];exact h
noncomputable def fl(f:Nat->Nat)(n:Nat):List PV:=(List.range n).map λu:Nat=>PV.int (f u:Int)
def dL:SF:=Bm (A9 true<|AB 1) (AV 3) dB
def dT:BF:=AR<|f2 Bk (LV 2)<|AB 0
section
variable{n:Nat}{S:List NN}(C:CW.Ct n S)(B3:n<=12){T:List N3}(hT:∀i j k,(i,j,k)∈T↔CW.T3 n S i j k){f:Nat->Nat}(hf:∀u,f u<3)(hc:∀u v,u<v->v<n->CW.J n S u v->f u≠f v)
include C B3 hT hf hc
theorem dq{D:List Nat}(h:Ds n D)(x3 x4 x5:Option SV):∃y3 y4 y5,dL (dR n T f D [x3,x4,x5])=some (.nx<|dR n T f (T.foldl DR D) [y3,y4,y5])/\Ds n (T.foldl DR D):=by
 obtain⟨ρ',e,⟨y3,y4,y5,rfl⟩,hl⟩:=GJ (enc:=e3) (gt:=AV 3) (body:=dB) DR (λ_ D' ρ=>(∃y3 y4 y5,ρ=dR n T f D' [y3,y4,y5])/\Ds n D') (xs:=T) (n:=0) (b:=D) (ρ:=dR n T f D [x3,x4,x5]) ⟨⟨x3,x4,x5,rfl⟩,h⟩ λm x hx D' ρ ⟨⟨y3,y4,y5,e⟩,h'⟩=>by subst e;obtain⟨i,j,k⟩:=x;obtain⟨a1,a2,a3,a4,a5,a6⟩:=(hT i j k).mp<|zl hx;have:=h'.len;obtain⟨z4,z5,ed⟩:=dm (n:=n) (T:=T) hf (D:=D') U (hc i j a1 U a4) (hc j k a2 a3 a5) (hc i k U a3 a6) y4 y5;exact⟨_,_,rfl,ed,⟨_,_,_,rfl⟩,h'.step U U a3⟩
 exact⟨y3,y4,y5,(B7<|Vz (r:=.cl<|.lst<|T.map e3) rfl rfl).trans e,hl⟩
theorem Vj:∀(m:Nat)(D:List Nat)(x3 x4 x5:Option SV),Ds n D->n-D.length<m->∃D' y3 y4 y5,GS dT dL m (dR n T f D [x3,x4,x5])=some (.nx<|dR n T f D' [y3,y4,y5])/\Ds n D'/\n<=D'.length
 |0,_,_,_,_,_,h=>U
 |m+1,D,x3,x4,x5,h,hm=>by
  have et:dT (dR n T f D [x3,x4,x5])=some (decide ((D.length:Int)<(n:Int))):=Az (AQ (x:=.cl<|.int (D.length:Int)) (y:=.cl<|.int (n:Int)) (by show some (RV.cl<|.int ((DW f D).length:Int))=_;unfold DW;rw[yP]) rfl (GG _ _))
  unfold GS;rw[et];by_cases g:D.length<n
  .rw[zc U];dsimp only;obtain⟨y3,y4,y5,e,h'⟩:=dq C B3 hT hf hc h x3 x4 x5;rw[e];have:=h.more C hT g;exact Vj m _ y3 y4 y5 h' U
  .rw[zU U];exact⟨D,x3,x4,x5,rfl,h,U⟩
theorem aN(f0:f 0=0)(f1:f 1=1):Pj [.int (n:Int),.lst<|T.map e3]=some (.fr<|fl f n):=by
 have n3:=C.ln;have h0:Ds n [0,1]:=⟨yJ,λu hu=>by simp at hu;lia,yI,yI⟩;obtain⟨D,y3,y4,y5,e,h,hl⟩:=Vj C B3 hT hf hc 1000 [0,1] none none none h0 U;refine Bg rfl ?_;unfold U6;have e0:DW f [0,1]=[(0,0),(1,1)]:=by unfold DW;rw[ye,ye,f0,f1];rfl
 rw[sq (ρ':=dR n T f [0,1] [none,none,none]) (by unfold dR;rw[e0];rfl)];refine(sq (g:=Lf dT dL) (ρ':=dR n T f D [y3,y4,y5]) e).trans ?_;refine JW ((Cg (DE (AM (x:=.cl<|.int (n:Int)) rfl<|AW _) U) (by rw[yP,zA];lia) (Du (enc:=λu:Nat=>PV.int (u:Int)) (c:=λ_=>true) (h:=λu:Nat=>PV.int (f u:Int)) λu hu=>⟨_,rfl,rfl,λ_=>⟨.cl<|.int (f u:Int),by
  show(EJ (DW f D) (u:Int)).map _=_;rw[ME,yO<|h.full hl u<|yS.mp hu]
  rfl,rfl⟩⟩)).trans ?_)
 unfold fl;rw[ABO.mpr λ_ _=>rfl]
end
theorem LY(f:Nat->Nat)(n:Nat):(fl f n).length=n:=by unfold fl;rw[yP,zA]
theorem kJ(f:Nat->Nat){n u:Nat}(h:u<n):AL (.cl<|.lst<|fl f n) (.cl<|.int (u:Int))=some (.cl<|.int (f u:Int)):=by
 show(CC (fl f n) (u:Int)).map _=_;unfold CC Di;rw[yO U,yO (by rw[LY];lia),y9,ABb];unfold fl;rw[zj,ABu h]
 rfl
theorem aM{r:List Pt}(h:DP r=true){S:List NN}(C:CW.Ct r.length S)(hc:Fy r (S.map zz)=true){f:Nat->Nat}(hf:∀u,f u<3)(hd:∀u v,u<v->v<r.length->CW.J r.length S u v->f u≠f v)(f0:f 0=0)(f1:f 1=1):Mw [.lst<|AI r,.lst<|AI<|S.map zz]=some (.fr<|fl f r.length):=by
 obtain⟨h3,B3,_⟩:=Kk h;have hl:=C.ln;have ek:Pd [.lst<|AI r,.lst<|AI<|S.map zz]=some (.cl .A8):=by refine VX (ρ:=BG 2 [.lst<|AI r,.lst<|AI<|S.map zz]) rfl ?_;unfold U3;have e:=Eu (Az<|A6 (ρ:=BG 2 [.lst<|AI r,.lst<|AI<|S.map zz]) (AM (f:=AB 0) (x:=.cl<|.lst<|AI r) rfl<|AM (f:=AB 1) (x:=.cl<|.lst<|AI<|S.map zz) rfl<|AW _) rfl<|aK h (N:=S.map zz) (by rw[yP];lia));rw[hc]at e;exact(BO e).trans rfl
 obtain⟨et,lt⟩:=ao (n:=r.length) (N:=S.map zz) U B3;refine Bg rfl ?_;unfold U5;rw[sq<|Vi<|A6 (rs:=[.cl<|.lst<|AI r]) rfl rfl<|aI h];rw[sq<|Vi<|A6 (rs:=[.cl<|.lst<|AI r,.cl<|.lst<|AI<|S.map zz]) rfl rfl ek];have el:fB An (AD (AB 0) AH) (BG 2 [.lst<|AI r,.lst<|AI<|S.map zz])=some (.cl<|.int (r.length:Int)):=Bb (AM (x:=.cl<|.lst<|AI r) rfl<|AW _) (by rw[E4,B9]);exact JW<|A6 (AM el<|AM (A6 (AM el<|AM (x:=.cl<|.lst<|AI<|S.map zz) rfl<|AW _) rfl et)<|AW _) rfl<|aN C B3 (λi j k=>lG C) hf hd f0 f1
theorem aq(v:Int):Jm [.int v]=some (.cl<|.bl true):=rfl
theorem sE{ns q:List Int}(p:ns.Perm q)(h:q.Pairwise (·<=·)):(ns.mergeSort λa b=>decide (a<=b))=q:=
 PySem.W.lks_uniq ((ACh _ _).trans p) ((ACI (λa b c h1 h2=>by simp only[yZ]at *;lia) (λa b=>by simp only[zX,yZ];lia) ns).imp λh=>by simpa using h) h
theorem nX{a b c:Nat}(ha:a<3)(hb:b<3)(hc:c<3)(h1:a≠b)(h2:b≠c)(h3:a≠c):[(a:Int),(b:Int),(c:Int)].Perm [0,1,2]:=by
 have:(a=0/\b=1/\c=2)\/(a=0/\b=2/\c=1)\/(a=1/\b=0/\c=2)\/(a=1/\b=2/\c=0)\/(a=2/\b=0/\c=1)\/(a=2/\b=1/\c=0):=U
 rcases this with⟨rfl,rfl,rfl⟩|⟨rfl,rfl,rfl⟩|⟨rfl,rfl,rfl⟩|⟨rfl,rfl,rfl⟩|⟨rfl,rfl,rfl⟩|⟨rfl,rfl,rfl⟩<;>decide
theorem kM:Bo (.fr [.int 0,.int 1]) (.fr [.int 0,.int 1])=some (.cl<|.bl false):=by unfold Bo;exact(yO ⟨yJ,yJ⟩).trans (AAB (λb=>some<|RV.cl<|PV.bl (!b)) (yJ:_=true))
theorem kO:Bo (.fr [.int 0,.int 1,.int 2]) (.fr [.int 0,.int 1,.int 2])=some (.cl<|.bl false):=by unfold Bo;exact(yO ⟨yJ,yJ⟩).trans (AAB (λb=>some<|RV.cl<|PV.bl (!b)) (yJ:_=true))
section
variable{n:Nat}(h3:3<=n)(B3:n<=12){f:Nat->Nat}(hf:∀u,f u<3)(f0:f 0=0)(f1:f 1=1){P:List N3}(hP:∀i j k,(i,j,k)∈P->i<n/\j<n/\k<n/\f i≠f j/\f j≠f k/\f i≠f k)
include h3 B3 hf f0 f1 hP
theorem ah:Jl [.lst<|fl f n,.lst<|P.map e3,.int (n:Int)]=some (.cl<|.bl true):=by
 refine Bg rfl ?_;unfold VM;show AO _ _ [some<|.im<|.lst<|fl f n,some<|.im<|.lst<|P.map e3,some<|.im<|.int (n:Int),none]=_;have e1:fB Dj (AD (A0 (A9 false<|AB 0) 1 [] (AV 0) BM<|AS Jm<|AD (AB 0) AH) AH) [some<|.im<|.lst<|fl f n,some<|.im<|.lst<|P.map e3,some<|.im<|.int (n:Int),none]=some (.cl<|.bl true):=by
  have c:A0 (A9 false<|AB 0) 1 [] (AV 0) BM (AS Jm<|AD (AB 0) AH) [some<|.im<|.lst<|fl f n,some<|.im<|.lst<|P.map e3,some<|.im<|.int (n:Int),none]=some (.fr<|((List.range n).filter λ_=>true).map λ_=>PV.bl true):=Cg (Eb (r:=.cl<|.lst<|fl f n) rfl rfl) (by rw[LY];lia)<|Du (xs:=List.range n) (enc:=λu:Nat=>PV.int (f u:Int)) (c:=λ_=>true) (h:=λ_=>PV.bl true) λu _=>⟨_,rfl,rfl,λ_=>⟨_,A6 (rs:=[.cl<|.int (f u:Int)]) rfl rfl<|aq _,rfl⟩⟩;have:=Vs (bs:=(List.range n).map λ_=>true) (c.trans (by rw[ABO.mpr λ_ _=>rfl,zM];rfl));rw[this,ABp]
  congr 3
  exact zW.mpr λ_ _=>rfl
 have t1:CF (CO<|AR<|F2 "list"<|AB 0) (CF (AR<|f2 Bo (fB An<|AD (AB 0) AH)<|AB 2)<|CO<|AR<|fB Dj<|AD (A0 (A9 false<|AB 0) 1 [] (AV 0) BM<|AS Jm<|AD (AB 0) AH) AH) [some<|.im<|.lst<|fl f n,some<|.im<|.lst<|P.map e3,some<|.im<|.int (n:Int),none]=some (!true||(!((n:Int)==(n:Int)) || !true)):=
  F1 (Eu<|Az rfl) λ_=>F1 (Az<|AQ (y:=.cl<|.int (n:Int)) (Bb (AM (x:=.cl<|.lst<|fl f n) rfl<|AW _)<|by rw[E4,LY]) rfl<|JN _ _) λ_=>Eu<|Az e1
 rw[show(!true||(!((n:Int)==(n:Int)) || !true))=false by simp]at t1;rw[sq<|(BO t1).trans rfl];have es:Co (AB 0) Cz (Cn<|fC<|.int 2) [some<|.im<|.lst<|fl f n,some<|.im<|.lst<|P.map e3,some<|.im<|.int (n:Int),none]=some (.fr [.int 0,.int 1]):=by
  show some (RV.fr<|IV (fl f n) none<|some 2)=_;obtain⟨m,rfl⟩:∃m,n=m+2:=⟨n-2,U⟩;unfold fl;rw[ACY,ACY,ye,ye,ye,f0,show f (Nat.succ 0)=1 from f1]
  rfl
 have t2:AR (f2 Bo (Co (AB 0) Cz<|Cn<|fC<|.int 2)<|A3<|AD (fC<|.int 0)<|AD (fC<|.int 1) AH) [some<|.im<|.lst<|fl f n,some<|.im<|.lst<|P.map e3,some<|.im<|.int (n:Int),none]=some false:=Az<|AQ (y:=.fr [.int 0,.int 1]) es (Dg (rs:=[.cl<|.int 0,.cl<|.int 1]) rfl rfl) kM;rw[sq<|(BO t2).trans rfl];have H:=GI (enc:=e3) (gt:=AV 3) (body:=(Aq (AR<|f2 Bo (fB MB<|AD (A0 (Dz<|AB 3) 1 [0] (AV 0) BM<|f2 AL (AB 1)<|AB 0) AH)<|A3<|AD (fC<|.int 0)<|AD (fC<|.int 1)<|AD (fC<|.int 2) AH) (Aj<|fC<|.bl false) Ax)) (c:=λ_=>false) (r:=.cl<|.bl false)
  (λρ=>∃x,ρ=[some<|.im<|.lst<|fl f n,some<|.im<|.lst<|P.map e3,some<|.im<|.int (n:Int),x]) (xs:=P) (ρ:=[some<|.im<|.lst<|fl f n,some<|.im<|.lst<|P.map e3,some<|.im<|.int (n:Int),none]) ⟨none,rfl⟩ (by
  rintro⟨i,j,k⟩ hx ρ ⟨x,rfl⟩;obtain⟨hi,hj,hk,d1,d2,d3⟩:=hP i j k hx;refine⟨_,rfl,λq=>(nomatch q),λ_=>⟨_,(BO (?_:_=some false)).trans rfl,_,rfl⟩⟩;have ec:A0 (Dz<|AB 3) 1 [0] (AV 0) BM (f2 AL (AB 1)<|AB 0) [some<|.im<|.lst<|fl f n,some<|.im<|.lst<|P.map e3,some<|.im<|.int (n:Int),some<|.im<|e3 (i,j,k)]=some (.fr [.int (f i:Int),.int (f j:Int),.int (f k:Int)]):=
   Cg (its:=Dz<|AB 3) (xs:=(l3 (i,j,k)).map λu:Nat=>PV.int (u:Int)) rfl (by simp[l3]) (Du (enc:=λu:Nat=>PV.int (u:Int)) (c:=λ_=>true) (h:=λu:Nat=>PV.int (f u:Int)) λu hu=>⟨_,rfl,rfl,λ_=>⟨.cl<|.int (f u:Int),AQ (x:=.cl<|.lst<|fl f n) (y:=.cl<|.int (u:Int)) rfl rfl (kJ f (by unfold l3 at hu;simp only[yw,AAZ,ABl]at hu;rcases hu with rfl|rfl|rfl<;>assumption)),rfl⟩⟩)
  refine Az<|AQ (x:=.fr [.int 0,.int 1,.int 2]) (y:=.fr [.int 0,.int 1,.int 2]) (Bb (AM ec<|AW _) ?_) (Dg (rs:=[.cl<|.int 0,.cl<|.int 1,.cl<|.int 2]) rfl rfl) kO;show(C2 ([(f i:Int),(f j:Int),(f k:Int)].map PV.int)).bind (λns=>if ns.length<64 then some (RV.fr<|(ns.mergeSort λa b=>decide (a<=b)).map PV.int)else none)=_;rw[Rk,y9,yO yI,sE (nX (hf i) (hf j) (hf k) d1 d2 d3) yJ]
  rfl)
 obtain⟨ρ',e,x,rfl⟩:=H.2 yI;rw[sq<|(B7<|Vz (r:=.cl<|.lst<|P.map e3) rfl rfl).trans e]
 rfl
end
theorem uj(r N:List Pt):PySem.SeqAt.shaped (Ao<|.lst [.lst<|AI r,.lst<|AI N])=true/\PySem.PyData.eqv (Ao<|.lst [.lst<|AI r,.lst<|AI N]) (Ao<|.lst [.lst<|AI r,.lst<|AI N])=true:=by
 have h:=Rz r;have h':=Rz N;constructor
 .simp only[PySem.SeqAt.shaped,Ao,CL,PySem.PyData.canLay0,PySem.PyData.canLayAll0,PySem.PyData.depth,PySem.PyData.depthAll,h.1,h'.1,AAE,yZ];omega
 .simp only[Ao,CL,PySem.PyData.eqv,PySem.PyData.eqvAll,Vp,Bool.and_self]
theorem kP(r N:List Pt):Bo (.cl<|.lst [.lst<|AI r,.lst<|AI N]) (.fr [.lst<|AI r,.lst<|AI N])=some (.cl<|.bl false):=by have h:=uj r N;unfold Bo;exact(yO ⟨h.1,h.1⟩).trans (AAB (λb=>some<|RV.cl<|PV.bl (!b)) h.2)
def lR(s:List Int)(r N:List Pt)(P:List PV)(ys:List<|Option SV):AY:=some (.im<|.rd<|Ay s)::some (.im<|.lst<|AI r)::some (.im<|.lst<|AI N)::some (.im<|.lst P)::some (.im<|.lst [.lst<|AI r,.lst<|AI N])::ys
theorem aV(s:List Int):My [.rd<|Ay s]=some (.cl<|.bl true):=by
 obtain⟨er,h3,B3⟩:=aj s 0 12 yH yH yH;have hr:=fH s 0 (most:=12) yH yH;generalize drawn s 0 12=r at *
 obtain⟨B,eB,hB,xP⟩:=aL s hr;obtain⟨S,rfl,C⟩:=da hB;obtain⟨eP,lP⟩:=aY (r:=r) (N:=S.map zz) U;obtain⟨f,f0,f1,hf,hd⟩:=C.fK;have ed:=aM hr C hB hf hd f0 f1;have eR:=ah (n:=r.length) h3 U hf f0 f1 (P:=JT r.length<|S.map zz) λi j k m=>by obtain⟨a1,a2,a3,a4⟩:=lE.mp m;obtain⟨b1,b2,b3⟩:=mw.mp a4;exact⟨U,U,a3,hd i j a1 U<|(Rq a1 U).mp b1,hd j k a2 a3<|(Rq a2 a3).mp b2,hd i k U a3<|(Rq U a3).mp b3⟩
 refine Bg rfl ?_;unfold U9;rw[sq<|A7 (A6 (AM (x:=.cl<|.rd<|Ay s) rfl<|AM (x:=.cl<|.int 0) rfl<|AM (x:=.cl<|.int 12) rfl<|AW _) rfl er) rfl];rw[sq<|A7 (A6 (rs:=[.cl<|.rd<|Ay s,.cl<|.int 20,.cl<|.lst<|AI r]) rfl rfl eB) rfl];rw[sq<|A7 (A6 (rs:=[.cl<|.lst<|AI r,.cl<|.lst<|AI<|S.map zz]) rfl rfl eP) rfl];generalize (JT r.length<|S.map zz).map e3=P at *
 generalize S.map zz=N at *
 rw[sq (ρ':=lR s r N P [none,none])<|A7 (Dg (AM (Bb (AM (x:=.cl<|.lst<|AI r) rfl<|AW _) rfl)<|AM (Bb (AM (x:=.cl<|.lst<|AI N) rfl<|AW _) rfl)<|AW _) rfl) rfl];have H:=GI (enc:=λk:Nat=>PV.int (k:Int)) (gt:=AV 5) (body:=(AO (DL 6<|AS Mw<|AD (f2 AL (AB 4)<|fC<|.int 0)<|AD (f2 AL (AB 4)<|fC<|.int 1) AH)
  (AO (Aq (CF (CO<|AR<|Hc Jl<|AD (AB 6)<|AD (AB 3)<|AD (fB An<|AD (AB 1) AH) AH)<|AR<|f2 Bo (AB 4)<|A3<|AD (AB 1)<|AD (AB 2) AH) (Aj<|fC<|.bl false) Ax)
  (AO (Le 6 (fC<|.int 0)<|fC<|.int 1)
  (B0 6 CQ<|AD (fC<|.int 0) AH))))) (c:=λ_=>false) (r:=.cl<|.bl false)
  (λρ=>∃x5 x6,ρ=lR s r N P [x5,x6]) (xs:=List.range 2) (ρ:=lR s r N P [none,none]) ⟨_,_,rfl⟩ (by
  rintro k hk ρ ⟨x5,x6,rfl⟩;refine⟨_,rfl,λq=>(nomatch q),λ_=>⟨lR s r N P [some<|.im<|.int (k:Int),some<|.own<|(fl f r.length).set 0 (.int 1) ++ [.int 0]],?_,_,_,rfl⟩⟩;rw[sq (ρ':=lR s r N P [some<|.im<|.int (k:Int),some<|.own<|fl f r.length])<|(set_own<|A6 (rs:=[.cl<|.lst<|AI r,.cl<|.lst<|AI N]) rfl rfl ed).trans rfl];have et:CF (CO<|AR<|Hc Jl<|AD (AB 6)<|AD (AB 3)<|AD (fB An<|AD (AB 1) AH) AH) (AR<|f2 Bo (AB 4)<|A3<|AD (AB 1)<|AD (AB 2) AH) (lR s r N P [some<|.im<|.int (k:Int),some<|.own<|fl f r.length])=some false:=
   F1 (a:=false) (b:=false) (Eu (a:=true)<|Az<|fq (AM (x:=.bo<|fl f r.length) rfl<|AM (x:=.cl<|.lst P) rfl<|AM (Bb (z:=.cl<|.int (r.length:Int)) (AM (x:=.cl<|.lst<|AI r) rfl<|AW _)<|by rw[E4,B9])<|AW _) eR) λ_=>Az<|AQ (x:=.cl<|.lst [.lst<|AI r,.lst<|AI N]) (y:=.fr [.lst<|AI r,.lst<|AI N]) rfl (Dg (rs:=[.cl<|.lst<|AI r,.cl<|.lst<|AI N]) rfl rfl)<|kP r N
  rw[sq<|(BO et).trans rfl];have ei:Di (fl f r.length).length 0=some 0:=by
   rw[LY];unfold Di;rw[yO U,yO U]
   rfl
  rw[sq (ρ':=lR s r N P [some<|.im<|.int (k:Int),some<|.own<|(fl f r.length).set 0<|.int 1]) (by
   show(match (some (PV.int 1):Option PV),Di (fl f r.length).length 0 with|some p,some j=>some (Out.nx<|(lR s r N P [some<|.im<|.int (k:Int),some<|.own<|fl f r.length]).set 6<|some<|.own<|(fl f r.length).set j p)|_,_=>none)=_;rw[ei]
   rfl)]
  exact(SG (ps:=(fl f r.length).set 0<|.int 1) (p:=.int 0) rfl (AM (x:=.cl<|.int 0) rfl<|AW _) rfl (by rw[ACL,LY];lia)).trans rfl)
 obtain⟨ρ',e,x5,x6,rfl⟩:=H.2 yI;refine(sq<|(B7<|DE (n:=2) rfl yH).trans e).trans ?_
 rfl
end L2.EV
namespace L2.K
open PySem L2.PL
theorem ay(ns:List Int)(_:ns.length<=63):My [.rd<|ns.map PV.int]=some (.cl<|.bl true):=L2.EV.aV ns
open PySem PySem.Spec PyProof.Rows L2.PL
set_option maxHeartbeats 0
seal AR f2 Cy CN fB fC AS Hc Dx Dy A0 AD Gq Qj Gr F2 A9 Dz Ie Ex LV Hd A3 Ig AH Cz Ih CO DK CF Cn FQ Bh C0 Co BM Am AB Hg Il Bm Aq Im B0 Nh Ax F5 Io Aj Ni Ld AO Nj Aa Le Qs DL AV Cp Lf C3 AZ Dj Hv CQ B4 Ba JK Bq BB Dk AL B1 An MA Bk Dm GH A1 CK Bo KI MB KJ Ab G9 KN dR BH PX DB Gb Cf CU EY GZ Jp Ga Jq Jr
noncomputable def top (i : Nat) : Stmt := PySem.Challenge.pw_threewards_k09_dyes.main.body.getD i (.Pass ⟨0,0,0,0⟩)
theorem bQ{a b:Prop}(x:a)(f:a->b):a/\b:=⟨x,f x⟩
def LN(K:W.Frag):List (Str×Nat)->Prop
 |[]=>True
 |(x,i)::l=>dR K x (top i)/\LN K l
theorem dcs{K:W.Frag}{x:Str}{i:Nat}{l:List (Str×Nat)}(h:dR K x<|top i)(t:LN K l):LN K ((x,i)::l):=⟨h,t⟩
theorem dnl{K:W.Frag}:LN K []:=trivial
theorem Cv{X:Cx}{N ps:List Str}{st:Stmt}{scope:Scope}{Nb:List Str}{own:Nat}{cap:List Nat}(_:FS N ps st)(h1:X.env.scope=CM st)(h2:X.N=N)(h:(QV (CM st).names N scope Nb own cap&&(Nb.take own).all λx=>scope.names.lookup x==some .local||scope.names.lookup x==some .cell)=true):Fo X scope Nb own cap:=c6 (by rw[h1,h2];exact(Bool.and_eq_true_iff.mp h).1)
theorem rO:FS ["script","room","lines","parts_v","handed","lap","found"] ["script"]<|top 60:=MZ yK ⟨[_],rfl,rfl⟩
theorem gR:∀ps r,Jl ps=some r->r.flat=true:=gP<|Qo (Ql (NV<|NU rfl) Qn)<|Qo (Ql (NV<|NU rfl) Qn)<|Qo (gQ<|Ql (NV<|NU rfl) Qn)<|NV<|NU rfl
def O4(K:W.Frag):Sp:=λvs H Q _=>∃(a:Addr)(ns:List Int),vs=[.ref a]/\B6 K H a (ns.map V.int)/\ns.length<=63/\∀H',Q (.bl true) H'
theorem Kj{K:W.Frag}{H:Hp}:∀ns:List Int,AX K H (ns.map PV.int) (ns.map V.int)
 |[]=>by simp[AX]
 |n::ns=>by rw[ye,ye,AX];exact⟨_,_,rfl,by simp[Rep],Kj ns⟩
theorem Zg{K:W.Frag}{G:Hp}{a:Addr}(ns:List Int)(h:∃(o:Obj)(its:Array Value)(n:Nat),K.lookup a=some o/\o.cls=.type "tuple"/\o.data=.seq its n/\its.size<=sizeLine/\Ap (ns.map V.int) its.toList):Rep K G (.tup<|ns.map PV.int)<|.ref a:=by unfold Rep;exact⟨a,ns.map V.int,rfl,.inr h,Kj ns⟩
theorem sJ{K:W.Frag}{vs:List V}{H:Hp}{Q:VK}{E:XK}(h:O4 K vs H Q E):Km K 1 My vs H Q E:=by
 obtain⟨a,ns,rfl,hS,hl,k⟩:=h;refine⟨rfl,H,[.rd<|ns.map PV.int],.cl<|.bl true,Ar.refl _,?_,ay ns hl,λv G' H' _ r=>?_⟩
 .unfold AX;refine⟨_,_,rfl,?_,by unfold AX;rfl⟩;unfold Rep;exact⟨a,_,rfl,hS,Kj ns⟩
 .rw[r.bl];exact k H'
def eR(K:W.Frag)(x:Str)(C:Addr):Prop:=W.nsIn K mainGlobals x=some (some<|.ref C)/\W.excIn K C [.type "ValueError",.type "Exception",.type "BaseException",.type "object"] "ValueError.__new__" = true
theorem all_mk{l:W.OpenLaw}{w:World}{K:W.Frag}{h:Heap}{mg:Str->Option Value}{fa:Addr}(X:K.In h)(G:h.Ns mainGlobals mg)(ip:mg "law" = some (.ref fa)) {uJ:Tok} {uM uN:Tok} {YL:Addr} {SN:Obj} {lT:Nat} {uK:Tok} {uL:Tok} {uG uH uI:Tok} {YK:Addr} {SM:Obj} {lS:Nat} (D:LN K (("_law_cell",40)::("_law_side",42)::("_law_flat",43)::("_law_plain_room",44)::("_law_winding",45)::("_law_area",50)::("_law_on",48)::("_law_meet",49)::("_law_good",51)::("_law_pushed",46)::("_law_room",47)::("_law_line",52)::("_law_joined",56)::("_law_drawn_cut",57)::("_law_parts",58)::("all_near",18)::("turn",5)::("all_bend",19)::("walls_of",21)::("are_neighbours",20)::("parts",7)::("lies_on",6)::("meet",8)::("walls_keep_apart",22)::("doubled_area",23)::("is_room",15)::("check_room",17)::("rises",29)::("passes_right_of",9)::("place_within",24)::("middle_is_inside",25)::("has_line",16)::("cross",30)::("crosses_none",31)::("cuts_up",28)::("check_cut",27)::("are_joined",32)::("tips_of",33)::("triangles_of",34)::("dyes_of",38)::("dyes",37)::("_law_whole",41)::("_law_right",59)::("law",60) :: [])) (zs:bR K ["len","range","min","max","abs","set","sorted","all","sum","any","isinstance","int","bool","list"]) (vQ:W.nsIn K mainGlobals "FARTHEST" = some (some<|.int 100 uJ)) (vT:W.nsIn K mainGlobals "ORIGIN" = some (some<|.ref YL)) (vO:K.lookup YL=some SN) (u7:SN.cls=.type "tuple") (uz:SN.data=.seq #[.int 0 uM,.int 0 uN] lT) (vR:W.nsIn K mainGlobals "FEWEST_CORNERS" = some (some<|.int 3 uK)) (vS:W.nsIn K mainGlobals "MOST_CORNERS" = some (some<|.int 12 uL)) (vP:W.nsIn K mainGlobals "ALL_DYES" = some (some<|.ref YK)) (vN:K.lookup YK=some SM) (u6:SM.cls=.type "tuple") (uy:SM.data=.seq #[.int 0 uG,.int 1 uH,.int 2 uI] lS) : ∃fd:FuncData,(∀(s:Shared)(v:Value),BindsTo s fd ⟨[v],[]⟩ [("script",v)])/\∀base:Heap,K.In base->base.Ns mainGlobals mg->C9 l.prog w K mg base EA 9 fa fd ["script"] (O4 K):=by
 have xI:∃t,mg "FARTHEST" = some (.int 100 t):=⟨_,W.mg_of X G vQ⟩;have xM:∃a,mg "ORIGIN" = some (.ref a)/\∀G,Rep K G (.tup [(.int 0),(.int 0)])<|.ref a:=⟨_,W.mg_of X G vT,λG=>Zg [0,0] ⟨_,_,_,vO,u7,uz,(by show 2<=sizeLine;decide),(.cons ⟨_,rfl⟩<|.cons ⟨_,rfl⟩ .nil)⟩⟩;have xJ:∃t,mg "FEWEST_CORNERS" = some (.int 3 t):=⟨_,W.mg_of X G vR⟩;have xK:∃t,mg "MOST_CORNERS" = some (.int 12 t):=⟨_,W.mg_of X G vS⟩;have xH:∃a,mg "ALL_DYES" = some (.ref a)/\∀G,Rep K G (.tup [(.int 0),(.int 1),(.int 2)])<|.ref a:=⟨_,W.mg_of X G vP,λG=>Zg [0,1,2] ⟨_,_,_,vN,u6,uy,(by show 3<=sizeLine;decide),(.cons ⟨_,rfl⟩<|.cons ⟨_,rfl⟩<|.cons ⟨_,rfl⟩ .nil)⟩⟩;obtain⟨vj,vo,vn,vm,vd,vp,vq,ve,vt,vf,vi,vh,vg,vk,_⟩:=UZ X G zs;obtain⟨d0,d1,d2,d3,d4,d5,d6,d7,d8,d9,v9,wC,wD,wH,wI,wJ,wK,wL,wM,wN,wO,wQ,wU,wV,wW,wX,wY,wZ,wa,wb,wc,wd,we,wg,wj,wk,wm,wo,wq,wt,wu,wz,w5,dk,_⟩:=D;obtain⟨f,fd,F,hm⟩:=NX X G dk;have e:=ip.symm.trans hm;cases e;refine⟨fd,λs v=>FH.bt F rO s [v] rfl,λbase KB _=>?_⟩;have H:FS ["script","k","base"] ["script","k"] (top 40)/\BH l.prog w K mg base "_law_cell" 1 2 CA/\FS ["one","two","point","across","up"] ["one","two","point"] (top 42)/\BH l.prog w K mg base "_law_side" 1 3 Dt/\FS ["room","k"] ["room"] (top 43)/\BH l.prog w K mg base "_law_flat" 2 1 Kz/\FS ["script","k","count","mode","x","low","high","j","cell","y","room"] ["script","k","count"] (top 44)/\BH l.prog w K mg base "_law_plain_room" 3 3 Pq/\FS ["script","k","xs","ys","j","cell","plan"] ["script","k"] (top 45)/\BH l.prog w K mg base "_law_winding" 2 2 M1/\FS ["room","total","k","one","two"] ["room"] (top 50)/\BH l.prog w K mg base "_law_area" 1 1 Mz/\FS ["one","two","point","low","high"] ["one","two","point"] (top 48)/\BH l.prog w K mg base "_law_on" 2 3 HM/\FS ["one","two","three","four","some","a","b","point","first"] ["one","two","three","four"] (top 49)/\BH l.prog w K mg base "_law_meet" 3 4 HL/\FS ["room","count","k","j"] ["room"] (top 51)/\BH l.prog w K mg base "_law_good" 4 1 K0/\FS ["script","k","room","j","cell","at","x","y","tried"] ["script","k","room"] (top 46)/\BH l.prog w K mg base "_law_pushed" 5 3 Pr/\FS ["script","k","most","cell","room","slant","turn_v","first","x","y"] ["script","k","most"] (top 47)/\BH l.prog w K mg base "_law_room" 6 3 Pu/\FS ["room","one","other","count","here","there","k","later","left","right"] ["room","one","other"] (top 52)/\BH l.prog w K mg base "_law_line" 4 3 Jk/\FS ["room","count","joined","other","one"] ["room"] (top 56)/\BH l.prog w K mg base "_law_joined" 5 1 Po/\FS ["script","k","room","joined","lines","todo","one","other","some","at"] ["script","k","room"] (top 57)/\BH l.prog w K mg base "_law_drawn_cut" 6 3 Pn/\FS ["room","lines","count","found","one","two","three","sides"] ["room","lines"] (top 58)/\BH l.prog w K mg base "_law_parts" 1 2 Pp/\FS ["corners"] ["corners"] (top 18)/\BH l.prog w K mg base "all_near" 1 1 Mt/\FS ["one","other","third"] ["one","other","third"] (top 5)/\BH l.prog w K mg base "turn" 1 3 EX/\FS ["corners"] ["corners"] (top 19)/\BH l.prog w K mg base "all_bend" 2 1 Pc/\FS ["corners"] ["corners"] (top 21)/\BH l.prog w K mg base "walls_of" 1 1 HP/\FS ["count","one","other"] ["count","one","other"] (top 20)/\BH l.prog w K mg base "are_neighbours" 1 3 GW/\FS ["way","other","start_side","end_side"] ["way","other"] (top 7)/\BH l.prog w K mg base "parts" 2 2 K2/\FS ["point","way","start","end","in_width","in_height"] ["point","way"] (top 6)/\BH l.prog w K mg base "lies_on" 2 2 Fp/\FS ["way","other","touches_way","touches_other"] ["way","other"] (top 8)/\BH l.prog w K mg base "meet" 3 2 HN/\FS ["corners","walls","k","m"] ["corners"] (top 22)/\BH l.prog w K mg base "walls_keep_apart" 4 1 P1/\FS ["corners"] ["corners"] (top 23)/\BH l.prog w K mg base "doubled_area" 2 1 Ph/\FS ["room"] ["room"] (top 15)/\BH l.prog w K mg base "is_room" 5 1 Pk/\FS ["room"] ["room"] (top 17)/\BH l.prog w K mg base "check_room" 6 1 Pe/\FS ["lines"] ["lines"] (top 29)/\BH l.prog w K mg base "rises" 1 1 Pz/\FS ["way","point","start_above","end_above","side"] ["way","point"] (top 9)/\BH l.prog w K mg base "passes_right_of" 2 2 M3/\FS ["walls","point","passed"] ["walls","point"] (top 24)/\BH l.prog w K mg base "place_within" 3 2 Py/\FS ["corners","way","doubled","middle"] ["corners","way"] (top 25)/\BH l.prog w K mg base "middle_is_inside" 4 2 Pw/\FS ["room","one","other","way","far_walls"] ["room","one","other"] (top 16)/\BH l.prog w K mg base "has_line" 5 3 Mx/\FS ["one","other"] ["one","other"] (top 30)/\BH l.prog w K mg base "cross" 1 2 Mv/\FS ["line","lines"] ["line","lines"] (top 31)/\BH l.prog w K mg base "crosses_none" 2 2 Pf/\FS ["room","lines"] ["room","lines"] (top 28)/\BH l.prog w K mg base "cuts_up" 6 2 Pg/\FS ["room","lines"] ["room","lines"] (top 27)/\BH l.prog w K mg base "check_cut" 7 2 Pd/\FS ["count","lines","one","other"] ["count","lines","one","other"] (top 32)/\BH l.prog w K mg base "are_joined" 2 4 HK/\FS ["count","lines","side","near"] ["count","lines","side"] (top 33)/\BH l.prog w K mg base "tips_of" 3 3 K3/\FS ["count","lines","told","one","other","tips"] ["count","lines"] (top 34)/\BH l.prog w K mg base "triangles_of" 4 2 P0/\FS ["count","found","told","triangle","bare","used"] ["count","found"] (top 38)/\BH l.prog w K mg base "dyes_of" 1 2 Pj/\FS ["room","lines"] ["room","lines"] (top 37)/\BH l.prog w K mg base "dyes" 8 2 Mw/\FS ["found"] ["found"] (top 41)/\BH l.prog w K mg base "_law_whole" 1 1 Jm/\FS ["found","parts_v","count","part"] ["found","parts_v","count"] (top 59)/\BH l.prog w K mg base "_law_right" 2 3 Jl/\FS ["script","room","lines","parts_v","handed","lap","found"] ["script"] (top 60)/\C9 l.prog w K mg base EA 9 fa fd ["script"] (Km K 1 My)/\True:=by
  iterate 88
   refine bQ ?_ λsc=>?_
   .first
     |exact MZ yK ⟨[_],rfl,rfl⟩|exact MZ yK ⟨[_,_],rfl,rfl⟩|exact MZ yK ⟨[_,_,_],rfl,rfl⟩|exact MZ yK ⟨[_,_,_,_],rfl,rfl⟩
     |refine gG (NX X G yL) sc λhr hu Rc OA hc=>?_
     |refine gY (NX X G yL) sc λhr hu Rc OA hc=>?_
     |refine gW (NX X G yL) sc λhr hu hc=>?_
     |refine gL F sc λhr hu Rc OA hc=>?_
    repeat' first|(show _=_;first|exact rfl|exact X3 _|exact R5|exact ln2|exact R6|exact Xi|assumption|decide|with_unfolding_all rfl)|(show _\/_;first|exact Or.inl rfl|exact Or.inr rfl|exact Or.inr<|Or.inl rfl)|(show PX _ _ _;first|apply p8|apply pL|apply pP|apply o4 (Fn.of (by first|assumption|exact au.toG yL) hr)|apply pz|apply oy|apply pT|apply p0|apply pW|apply o3|apply o8|apply pV|apply o9|apply pD|apply pX|apply oz|apply pe|apply pd|apply o6|apply o7|apply pf|apply ph|apply pI|apply pq|apply pY|apply pZ|apply pU|apply pG|apply pH|apply pM|apply pO|apply pC|apply pE|apply pQ|apply pS|apply pN|apply GN (ck hc) mZ yL cJ|apply GN (cg hc) mY yL cI|apply GN cR mT yL cC|apply GN cx me yL Uc|apply GN (cS hc) mU yL cD|apply GN (cy hc) mf yL Ud|apply GN (cT hc) mV yL cE|apply GN (cz hc) mh yL Ud|apply GN cw ma yL Uc|apply p7 cf mX yL Ub|apply o5 (Fn.of (by first|assumption|exact au.toG yL) hr) gR)|(show Cf _ _ _;first|apply YM|apply m9|apply nA|apply MX|apply Sv)|(show DB _ _ _;first|apply qk|apply qo|apply qi|apply qj|apply qm|apply ql|apply qp|apply qq)|(show CU _ _ _ _ _;first|apply qc|apply qb|apply qY|apply qR|apply qQ|apply qg|apply qL|apply qW|apply qh|apply qa|apply qT|apply qO|apply qd|apply qN|apply qZ|apply qX|apply qP|apply qf|apply qS|apply qe)|(show EY _ _ _ _ _;first|apply qM|apply qV|apply qU)|(show Gb _ _ _;first|apply qu|apply qv|apply qr|apply qt)|(show Ga _ _ _ _ _;first|apply qD|apply qE|apply qF|apply qG)|(show Jr _ _ _;first|apply qJ|apply qK)|(show Jq _ _ _;first|apply qH|apply qI)|(show Jp _ _ _;first|apply qB|apply qC)|(show GZ _ _ _;first|apply p9|apply qA)|(show K5 _ _;first|apply gx|apply gy)|(show IL _ _;first|apply gv|apply gw)|(show Cc _ _ _;first|exact dE|exact dI|exact dH|exact dD hu|exact dM hu|exact dN|exact dF|exact dG OA|exact dO OA|exact dJ Rc)|(show Fo _ _ _ _ _;first|exact Cv sc rfl rfl (Nb:=["dye"]) yK|exact Cv sc rfl rfl (Nb:=["wall"]) yK|exact Cv sc rfl rfl (Nb:=["x","y"]) yK|exact Cv sc rfl rfl (Nb:=["corner"]) yK|exact Cv sc rfl rfl (Nb:=["j","count"]) yK|exact Cv sc rfl rfl (Nb:=["k","lines"]) yK|exact Cv sc rfl rfl (Nb:=["wall","way"]) yK|exact Cv sc rfl rfl (Nb:=["k","corners"]) yK|exact Cv sc rfl rfl (Nb:=["line","room"]) yK|exact Cv sc rfl rfl (Nb:=["wall","point"]) yK|exact Cv sc rfl rfl (Nb:=["other","line"]) yK|exact Cv sc rfl rfl (Nb:=["corner","told"]) yK|exact Cv sc rfl rfl (Nb:=["x","y","slant"]) yK|exact Cv sc rfl rfl (Nb:=["corner","found"]) yK|exact Cv sc rfl rfl (Nb:=["a","b","x","y"]) yK|exact Cv sc rfl rfl (Nb:=["a","b","xs","ys"]) yK|exact Cv sc rfl rfl (Nb:=["tip","other","one"]) yK|exact Cv sc rfl rfl (Nb:=["pair","lines","count"]) yK|exact Cv sc rfl rfl (Nb:=["j","joined","one","other"]) yK|exact Cv sc rfl rfl (Nb:=["corner","count","lines","side"]) yK)|(show List.Nodup _;first|exact sc.nd|decide|(dsimp only[CD];decide +kernel))|assumption|decide|exact R5|exact ln2|exact R6|exact Xi|exact X3 _|exact PassesOwn.never|exact Sj|(intro;first|rfl|skip)
  trivial
 iterate 87 (replace H:=H.2)
 exact H.1.imp λvs H Q E h=>sJ h
theorem walk{l:W.OpenLaw}{q:Program}{loose:List Str}{XP:(Str->Option Value)->Heap->Prop}{YP:World->Heap->Prop}{d:DefRec}{K:Params->W.Frag}(hn:l.most=some 63)(Ll:d.params.defaults=[]) (hY:∀(w:World)(h:Heap),YP w h->(K w.params).In h) (F:∀(w:World)(mg:Str->Option Value)(fa:Addr)(h:Heap),(K w.params).In h->h.Ns mainGlobals mg->mg d.name=some (.ref fa)->
  ∃fd:FuncData,(∀(s:Shared)(u:Value),BindsTo s fd ⟨[u],[]⟩ [("script",u)])/\∀base:Heap,(K w.params).In base->base.Ns mainGlobals mg->C9 l.prog w (K w.params) mg base EA 9 fa fd ["script"] (O4<|K w.params)) :
 W.WalkO q loose XP YP l.row.toRowW d [] (λf vs=>PySem.call f vs):=
 L2.u9 (n:=63) (k:=9) (x:="script") (CX:=λ_=>EA) (sp:=λw=>O4<|K w.params) hn yJ Ll ⟨rfl,yJ,yJ⟩ hY F (λ_ _ a ns hl _ hS=>⟨a,ns,rfl,hS,hl,λ_=>rfl⟩) λ_ _ _ _ _ z=>z
end L2.K
end
end Internal
open Internal
namespace PySem.W.Fast
def N:=Nat
def tw2597401974039635631:=N
def tw17553049769504348913:=N
def tw6681032542591133738:=N
def tw369379063622640580:=N
def tw891282739875550412:=N
def tw8581302215363589815:=N
def tw15866932287012257480:=N
def tw14852988935282175388:=N
def tw3851191270416049197:=N
def tw12127490122362405091:=N
def tw1575265952463880873:=N
def tw6278845475435542824:=N
def tw15002605072249330355:=N
def tw12752605049781640570:=N
def tw719350487949169294:=N
def tw10350316548999453868:=N
def tw6778773439652300347:=N
def tw14109793804124206101:=N
def tw384461756195130697:=N
def tw903126982572270946:=N
def tw10875257738642636923:=N
def tw11763120977282796234:=N
def tw17647454243641268073:=N
def tw12565782056726405529:=N
def tw5828493261902989571:=N
def tw2709533366383156975:=N
def tw1946339452576244003:=N
def tw16878794998580375470:=N
def tw3758201256301992831:=N
def tw6395297872854915349:=N
def tw2025123225355452366:=N
def tw9096407106597533781:=N
def tw16635797878784401776:=N
def tw17967577789662802612:=N
def tw14221801641577223616:=N
def tw14740963197688406955:=N
def tw13864424026103602500:=N
def tw3782994601669165178:=N
def tw7594171208934985603:=N
def tw17674594199114728471:=N
def tw15799241577909401504:=N
def tw3805553973653571848:=N
def tw10286690840040037273:=N
def tw13060073354140568945:=N
def tw10314718420472013616:=N
def tw16356692639377229499:=N
def tw9236153516828205373:=N
def tw1768801081563956492:=N
def tw1249918034298492907:=N
def tw1590743621948976449:=N
def tw2824963364633291812:=N
def tw10050348169531768379:=N
def tw15794674250380696494:=N
def tw16740174090336054714:=N
def tw9287603430909856206:=N
def tw8746315256977734686:=N
def tw14424018773116798735:=N
def tw6674484376055271540:=N
def tw371145171867836861:=N
def tw5902117829522460380:=N
def tw3811497867601730100:=N
def tw86491311599997945:=N
def tw15782788686029396160:=N
def tw2217277963426505625:=N
def tw14462830862304600895:=N
def tw1552239004518748858:=N
def tw12185571059250364312:=N
def tw14224081024119791738:=N
def tw5394769358271925316:=N
def tw3705090656502603063:=N
def tw11911328707276476370:=N
def tw2996898801673744691:=N
def tw9495003437158253230:=N
def tw14325891294162023373:=N
def tw15514104076670623778:=N
def tw15932391154635697761:=N
def tw3382844038992827913:=N
def tw15210628681828695022:=N
def tw13662792806681178457:=N
def tw18284222906179508113:=N
def tw9936013111606596344:=N
def tw8737646438969944632:=N
def tw18033186951821751635:=N
def tw711782053312068371:=N
def tw17147665645428473151:=N
def tw920933360715927425:=N
def tw1746344105253699636:=N
def tw3623468170125110813:=N
def tw17685949507492904805:=N
def tw11611955997780742036:=N
def tw16738780078019725442:=N
def tw12003212575137165009:=N
def tw17832021529139000244:=N
def tw14698743104622391311:=N
def tw9689658851259880986:=N
def tw7896958802984345149:=N
def tw15051397723158952968:=N
def tw4812603908844416053:=N
def tw12794577156576001964:=N
def tw3277566666149826355:=N
def tw1807852179957060084:=N
def tw5542061155870164878:=N
def tw7799463280107770994:=N
def tw11824513626812065049:=N
def tw16872432865335608603:=N
def tw17484028179851685422:=N
def tw6140551239243858824:=N
def tw8897024966394103031:=N
def tw16875252742088043820:=N
def tw7227330511755829690:=N
def tw16217509389644621475:=N
def tw4535438561308252592:=N
def tw6328652433075351528:=N
def tw16461691543772116571:=N
def tw11756288255144763832:=N
def tw14535731451316069547:=N
def tw8487113496683381141:=N
def tw5279315918088042986:=N
def tw13532149582942017135:=N
def tw15989014898231448261:=N
def tw12979164325422667906:=N
def tw16834016235930912387:=N
def tw17044728024169628529:=N
def tw12267217205473525783:=N
def tw916776454662865726:=N
def tw1770957296624348468:=N
def tw12365058487341057579:=N
def tw15018319539710879494:=N
def tw16022958090975065034:=N
def tw604456320898813060:=N
def tw7829226840727553899:=N
def tw16642485114227085598:=N
def tw2763104349790824860:=N
def tw8563427511315352686:=N
def tw18337177554989268850:=N
def tw9465995220655058295:=N
def tw11935312569225143749:=N
def tw13661443463905249050:=N
def tw17909163137704589172:=N
def tw13004212815994472450:=N
def tw9766201369131511936:=N
def tw7061549845681464700:=N
def tw8128147269274089706:=N
def tw18013446002829932938:=N
def tw9585359379466543481:=N
def tw6309309542692249659:=N
def tw18296662899780873927:=N
def tw9570317682681761011:=N
def tw638463029755452085:=N
def tw13035195244802008108:=N
def tw16018124832373356352:=N
def tw9130783628780378147:=N
def tw12180424022232605054:=N
def tw6896183076149169550:=N
def tw3826477660308158269:=N
def tw12558670739543832799:=N
def tw18347093224137693626:=N
def tw17459893410118594827:=N
def tw3307845222088574927:=N
def tw17341004521514291851:=N
def tw9084294075164335075:=N
def tw8421745146295803130:=N
def tw7469750116454851353:=N
def tw10358706027629466099:=N
def tw10203675663692670779:=N
def tw14760278147297746223:=N
def tw9460187536481732279:=N
def tw6818933754202685601:=N
def tw6272672684305937304:=N
def tw6527895396271763140:=N
def tw11094563937419406491:=N
def tw10235926789705033576:=N
def tw18318934242546189970:=N
def tw11681068922016132124:=N
def tw14403351801046437626:=N
def tw13847821975959031236:=N
def tw8362406152242828508:=N
def tw17240296532717045589:=N
def tw3400554343898139757:=N
def tw11386773547857458947:=N
def tw10612380649086997639:=N
def tw1303794839896038999:=N
def tw1114827440446674283:=N
def tw2727438882998291801:=N
def tw18316518433618851142:=N
def tw18033980862781731720:=N
def tw17770270741738739673:=N
def tw12378554471879485113:=N
def tw17159590522414390527:=N
def tw11534438667670009128:=N
def tw8246510421611317544:=N
def tw8074216428260714260:=N
def tw12667663603984049592:=N
def tw1689583795582597970:=N
def tw11371606135164877594:=N
def tw6903103053540418377:=N
def tw6894874807113100950:=N
def tw17098108183256623431:=N
def tw6060097160168444799:=N
def tw16981293421668934253:=N
def tw14589378486714308658:=N
def tw11394186557629128026:=N
def tw947696874531039623:=N
def tw3071526083776288969:=N
def tw10086862246592679883:=N
def tw11596785090262525807:=N
def tw13241770909972770117:=N
def tw5091120280457637939:=N
def tw5186872031963554783:=N
def tw3889274240846173226:=N
def tw13856765232039981231:=N
def tw9817862981382515877:=N
def tw12311371602081472410:=N
def tw8670731307285591223:=N
def tw12479367116091177282:=N
def tw3275029110073876193:=N
def tw4872380684406626473:=N
def tw12681553279585711361:=N
def tw11640317754129600074:=N
def tw10665321282724181528:=N
def tw4026751387555780399:=N
def tw18092408527734996387:=N
def tw10506002218064329717:=N
def tw572102442787153591:=N
def tw11462025773472377912:=N
def tw6679332031708307620:=N
def tw2520912957227568931:=N
def tw17206144292757455785:=N
def tw14365622330237506253:=N
def tw10079263388883894777:=N
def tw9932906094002560488:=N
def tw9868385030110187416:=N
def tw9553283154446810271:=N
def tw9401950037995344430:=N
def tw9334914505454341709:=N
def tw9305190472834205330:=N
def tw9231252089124252477:=N
def tw9051234976285412038:=N
def tw8529543920391640292:=N
def tw8339940806669446075:=N
def tw8272546013288435352:=N
def tw8213222474917161237:=N
def tw756613432742238108:=N
def tw7454584051813292742:=N
def tw7333846971257651696:=N
def tw7281393359063474312:=N
def tw7094793641743895771:=N
def tw7059419985729279153:=N
def tw6638081710812730061:=N
def tw6543899819142902659:=N
def tw6370418638914451147:=N
def tw6184863902032420799:=N
def tw6112743915886913218:=N
def tw6058336445240123961:=N
def tw5283847745935935782:=N
def tw5207923801596375554:=N
def tw4936463128589873247:=N
def tw4918644252165692948:=N
def tw3975678149509653977:=N
def tw3964971798576367516:=N
def tw3842387585968408756:=N
def tw3255380226732655840:=N
def tw3096981146203586578:=N
def tw2327574931376439633:=N
def tw2318571997047919211:=N
def tw2291179592975206964:=N
def tw2264885840731616244:=N
def tw2076935927352549584:=N
def tw188048683431099828:=N
def tw18021372843805622235:=N
def tw17950795133462842106:=N
def tw17888140611085414719:=N
def tw17617498374526919867:=N
def tw17544987566494515420:=N
def tw17498621191337770937:=N
def tw17466893722377095590:=N
def tw17378060014039262259:=N
def tw1723950730109648194:=N
def tw17094643617624696750:=N
def tw16990949791875170950:=N
def tw16787710227715799392:=N
def tw16735975045545655355:=N
def tw16292687525417196928:=N
def tw16188368663865144350:=N
def tw15678737727349765015:=N
def tw15433888229031421:=N
def tw14993242015050944961:=N
def tw14636299263604245970:=N
def tw14285506374770960532:=N
def tw14004493342104429150:=N
def tw13555683324057805359:=N
def tw13449248186112217212:=N
def tw12976011765223807922:=N
def tw12702458642642316515:=N
def tw12584842563706342124:=N
def tw12272247161537906407:=N
def tw12050326677253553524:=N
def tw12024040416157722798:=N
def tw11769312965757488170:=N
def tw11622208475234548733:=N
def tw11356962483258058853:=N
def tw10838581427401337025:=N
def tw10835473662266424466:=N
def tw10667035303270633639:=N
def tw10614448144699861462:=N
def tw10492213587661423331:=N
def tw10483599227152950780:=N
def tw10346013955875654554:=N
def tw10102470457901938663:=N
def tw10036036859603911059:=N
end PySem.W.Fast
open PySem PySem.W PyProof.Rows
set_option maxHeartbeats 0 in
theorem PySem.Challenge.cw_threewards_k09_dyes_holds : PySem.Challenge.rw_threewards_k09_dyes.Holds := by
  w_on; o_law; k_head; (case hw => w_witness2)
  k_fill
  refine L2.K.walk (l := PySem.Challenge.rw_threewards_k09_dyes) rfl rfl (fun w h Y => PySem.W.kIn_of Y) ?F
  case F =>
    intro w mg fa h KX G hmg
    refine' L2.K.all_mk KX G hmg ..
    all_goals try first | ((refine' L2.K.dcs (L2.PL.dmk ?a ?b ?c ?d) ?_; (case a => k_is); (case b => k_is); (case c => k_is); (case d => k_is)); (repeat (refine' L2.K.dcs (L2.PL.dmk ?a ?b ?c ?d) ?_; (case a => k_is); (case b => k_is); (case c => k_is); (case d => k_is))); exact L2.K.dnl) | k_is | (refine' L2.PL.dmk ?a ?b ?c ?d; (case a => k_is); (case b => k_is); (case c => k_is); (case d => k_is)) | (refine' ⟨?_, ?_⟩; k_is; k_exc) | exact rfl | (refine' ⟨?_, ?_⟩; k_is; refine' ⟨?_, ?_⟩; k_is; refine' ⟨?_, ?_⟩; k_is; refine' ⟨?_, ?_⟩; k_is; refine' ⟨?_, ?_⟩; k_is; refine' ⟨?_, ?_⟩; k_is; refine' ⟨?_, ?_⟩; k_is; refine' ⟨?_, ?_⟩; k_is; refine' ⟨?_, ?_⟩; k_is; refine' ⟨?_, ?_⟩; k_is; refine' ⟨?_, ?_⟩; k_is; refine' ⟨?_, ?_⟩; k_is; refine' ⟨?_, ?_⟩; k_is; refine' ⟨?_, ?_⟩; k_is; trivial)
